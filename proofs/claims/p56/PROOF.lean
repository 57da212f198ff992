import PyProof.Rows.All
import Wide.All
import OpenK.AllK
import Wide.FinOn
import Lean
import PyProof.EqAt
import PyProof.EqKinds
import PyProof.TupleCall
import PyProof.DictTruth
import PyProof.Conv_int_bool
import PyProof.SumAnyB
import PySem.Challenge.RW_weblayers_k56_flows_and_square_shares
set_option Elab.async false
set_option linter.all false
set_option maxRecDepth 100000
set_option maxHeartbeats 4000000
set_option genSizeOf false
set_option genSizeOfSpec false
namespace L2
open PySem PySem.Spec PyProof.Rows
noncomputable abbrev Key:=Sum Int Str
noncomputable def keyIs:Key→Value→Bool
  | .inl k,v=>Value.isInt k v
  | .inr x,v=>Value.isStrOf x v
noncomputable def keyH (w:World):Key→Int
  | .inl k=>hashInt k
  | .inr x=>hashStr w x
theorem keyIs_shape:∀ {k:Key} {v:Value},keyIs k v=true→(∃ i t,k=Sum.inl i∧v=Value.int i t)∨(∃ x t,k=Sum.inr x∧v=Value.str x t)
  | .inl i,v,h=>by
    obtain ⟨t,e⟩:=Value.isInt_shape (k:=i) (v:=v) h
    exact .inl ⟨i,t,rfl,e⟩
  | .inr x,v,h=>by
    obtain ⟨t,e⟩:=Value.isStrOf_shape (x:=x) (v:=v) h
    exact .inr ⟨x,t,rfl,e⟩
theorem qcy (i:Int) (t:Tok):keyIs (.inl i) (.int i t)=true:=by simp [keyIs,Value.isInt]
theorem qcz (x:Str) (t:Tok):keyIs (.inr x) (.str x t)=true:=by simp [keyIs,Value.isStrOf]
theorem qgJ (a b:Int):decide ((Sum.inl a:Key)=Sum.inl b)=(a == b):=by
  by_cases e:a=b
  · subst e;simp
  · have h:¬ (Sum.inl a:Key)=Sum.inl b:=fun q=>e (Sum.inl.inj q)
    rw [decide_eq_false h]
    exact (beq_eq_false_iff_ne.mpr e).symm
theorem qgK (a b:Str):decide ((Sum.inr a:Key)=Sum.inr b)=decide (a=b):=by
  by_cases e:a=b
  · subst e;simp
  · have h:¬ (Sum.inr a:Key)=Sum.inr b:=fun q=>e (Sum.inr.inj q)
    rw [decide_eq_false h,decide_eq_false e]
theorem qgL (a:Int) (b:Str):decide ((Sum.inl a:Key)=Sum.inr b)=false:=decide_eq_false (fun q=>nomatch q)
theorem qgM (a:Str) (b:Int):decide ((Sum.inr a:Key)=Sum.inl b)=false:=decide_eq_false (fun q=>nomatch q)
noncomputable def mixKind (prog:Program) (w:World):PySem.KeyKind prog w Key where
  is:=keyIs
  hash:=keyH w
  inj:=fun v a b ha hb=>by
    rcases keyIs_shape ha with ⟨i,t,rfl,rfl⟩ | ⟨x,t,rfl,rfl⟩
    · rcases keyIs_shape hb with ⟨j,u,rfl,e⟩ | ⟨y,u,rfl,e⟩
      · injection e with e1 _;rw [e1]
      · exact nomatch e
    · rcases keyIs_shape hb with ⟨j,u,rfl,e⟩ | ⟨y,u,rfl,e⟩
      · exact nomatch e
      · injection e with e1 _;rw [e1]
  byValue:=fun k v h=>by
    rcases keyIs_shape h with ⟨i,t,rfl,rfl⟩ | ⟨x,t,rfl,rfl⟩ <;> rfl
  pyHash:=fun hv h=>by
    rcases keyIs_shape hv with ⟨i,t,rfl,rfl⟩ | ⟨x,t,rfl,rfl⟩
    · exact wpAny_pyHash_int h
    · exact wpAny_pyHash_str h
  eqBool:=fun hu hv h=>by
    rcases keyIs_shape hu with ⟨i,t,rfl,rfl⟩ | ⟨x,t,rfl,rfl⟩
    · rcases keyIs_shape hv with ⟨j,u,rfl,rfl⟩ | ⟨y,u,rfl,rfl⟩
      · rw [qgJ] at h;exact wpAny_eqBool_int h
      · rw [qgL] at h;exact SeqAt.EqAt.int_str i t y u _ _ _ _ h
    · rcases keyIs_shape hv with ⟨j,u,rfl,rfl⟩ | ⟨y,u,rfl,rfl⟩
      · rw [qgM] at h;exact SeqAt.EqAt.str_int x t j u _ _ _ _ h
      · rw [qgK] at h;exact wpAny_eqBool_str h
  «strs»:=fun k x t v h=>by
    rcases keyIs_shape h with ⟨i,u,rfl,e⟩ | ⟨y,u,rfl,e⟩
    · exact nomatch e
    · injection e with e1 _
      subst e1
      cases v <;> rfl
theorem qas (prog:Program) (w:World) (i:Int) (t:Tok):(mixKind prog w).is (.inl i) (.int i t)=true:=qcy i t
theorem qat (prog:Program) (w:World) (x:Str) (t:Tok):(mixKind prog w).is (.inr x) (.str x t)=true:=qcz x t
end L2
namespace L2
open PySem PySem.Spec PyProof.Rows
inductive V where
  | non | bl (b:Bool) | int (i:Int) | str (x:Str) | byt (b:Array UInt8) | flt (b:UInt64) | ref (a:Addr) | ty (n:String)
  deriving DecidableEq
noncomputable def RelV:V→Value→Prop
  | .non,u=>u=Value.none
  | .bl b,u=>u=Value.bool b
  | .int i,u=>∃ t,u=Value.int i t
  | .str x,u=>∃ t,u=Value.str x t
  | .byt b,u=>∃ t,u=Value.bytes b t
  | .flt b,u=>∃ t,u=Value.float b t
  | .ref a,u=>u=Value.ref a
  | .ty n,u=>u=Value.type n
noncomputable abbrev Vals:List V→List Value→Prop:=Paired RelV
theorem Vals.length {xs:List V} {us:List Value} (r:Vals xs us):xs.length=us.length:=Paired.length r
theorem Vals.get:∀ {xs:List V} {us:List Value} {i:Nat} {x:V},Vals xs us→xs[i]?=some x→∃ u,us[i]?=some u∧RelV x u
  | _,_,_,_,.nil,e=>by simp at e
  | _,_,0,_,.cons r _,e=>by simp at e;subst e;exact ⟨_,rfl,r⟩
  | _,_,i+1,x,.cons _ t,e=>by
    obtain ⟨u,h1,h2⟩:=Vals.get (i:=i) (x:=x) t (by simpa using e)
    exact ⟨u,by simpa using h1,h2⟩
theorem Vals.set {x:V} {u:Value} (r:RelV x u):∀ {xs:List V} {us:List Value} (i:Nat),Vals xs us→Vals (xs.set i x) (us.set i u)
  | _,_,_,.nil=>.nil
  | _,_,0,.cons _ t=>.cons r t
  | _,_,i+1,.cons q t=>.cons q (Vals.set r i t)
theorem Vals.append:∀ {xs ys:List V} {us ws:List Value},Vals xs us→Vals ys ws→Vals (xs++ys) (us++ws)
  | _,_,_,_,.nil,s=>s
  | _,_,_,_,.cons r t,s=>.cons r (Vals.append t s)
theorem Vals.take:∀ {xs:List V} {us:List Value} (n:Nat),Vals xs us→Vals (xs.take n) (us.take n)
  | _,_,0,_=>.nil
  | _,_,_+1,.nil=>.nil
  | _,_,n+1,.cons r t=>.cons r (Vals.take n t)
theorem Vals.drop:∀ {xs:List V} {us:List Value} (n:Nat),Vals xs us→Vals (xs.drop n) (us.drop n)
  | _,_,0,r=>r
  | _,_,_+1,.nil=>.nil
  | _,_,n+1,.cons _ t=>Vals.drop n t
noncomputable def RelO:Option V→Option Value→Prop
  | some v,some u=>RelV v u
  | none,none=>True
  | _,_=>False
noncomputable def KV {κ:Type}:List (κ × V)→List (κ × Value)→Prop:=Paired fun (p:κ × V) (q:κ × Value)=>p.1=q.1∧RelV p.2 q.2
noncomputable def kV:Key→V
  | .inl i=>.int i
  | .inr x=>.str x
inductive HO where
  | lst (xs:List V)
  | tup (xs:List V)
  | dK (kvs:List (Key × V)) | dT (kvs:List (List Key × V))
  | set (S:Int→Bool) (n:Nat)
  | ins (C dx:Addr) (fs:List (Str × V))
  | own (x:Addr)
  | xd (fs:List (Str × V))
  | met (f x:Addr)
  | rng (lo hi:Int)
  | frz (o:Obj) (u:HO)
  | tbl (ps:Array Value)
  | ext (φ:Heap→Prop)
noncomputable abbrev Hp:=Addr→Option HO
noncomputable def upd (H:Hp) (a:Addr) (o:HO):Hp:=fun b=>if b=a then some o else H b
theorem qm {H:Hp} {a:Addr} {o:HO}:upd H a o a=some o:=by unfold upd;rw [if_pos rfl]
theorem qk {H:Hp} {a b:Addr} {o:HO} (h:b≠a):upd H a o b=H b:=by unfold upd;rw [if_neg h]
theorem qie {H:Hp} {a b:Addr} {o u:HO} (h:H a=some o) (h':H b=some u) (d:o≠u):a≠b:=by
  intro e;subst e;rw [h] at h';exact d (Option.some.inj h')
theorem qS {H:Hp} {a b:Addr} {o:HO} (h:H a=some o) (h':H b=none):a≠b:=by
  intro e;subst e;rw [h] at h';cases h'
theorem zW (h:Heap) (its:Array Value):∀ o,(h.push { cls:=.type "tuple",data:=.seq its }).get? h.objs.size=some o→o.dict=none:=fun o q=>by
  rw [Heap.get?_push_size _ rfl] at q;cases q;rfl
section
variable (P:Program) (w:World)
noncomputable def ObjOk (H:Hp) (h:Heap) (a:Addr):HO→Prop
  | .lst xs=>xs.length≤sizeLine∧∃ (its:List Value) (n:Nat),Vals xs its∧h.get? a=some { cls:=.type "list",data:=.seq its.toArray n }
  | .tup xs=>xs.length≤sizeLine∧∃ its:List Value,Vals xs its∧IsTup h a its.toArray∧∀ o,h.get? a=some o→o.dict=none
  | .dK kvs=>kvs.length≤sizeLine∧(a == sysModules)=false∧∃ vs,KV kvs vs∧h.DictOf (mixKind P w) a vs
  | .dT kvs=>kvs.length≤sizeLine∧(a == sysModules)=false∧∃ xs:List (List Key × Addr × Value),
      Paired (fun (p:List Key × V) (q:List Key × Addr × Value)=>p.1=q.1∧H q.2.1=some (.tup (p.1.map kV))∧RelV p.2 q.2.2) kvs xs ∧
      ∃ o es ep,h.get? a=some o∧o.ExactDict∧o.data=.dict es ep∧es.toList=xs.map (entryOfKey (tupleKind (mixKind P w)))∧(xs.map (·.1)).Nodup
  | .set S n=>h.SetOf (intKind P w) a S n
  | .ins C dx fs=>H dx=some (.own a)∧fs.length≤1000∧dx≠a∧h.get? a=some (PySem.W.instObj C dx) ∧
      ∃ mA,h.Ns1 dx mA∧(∀ f,RelO (fs.lookup f) (mA f))∧PySem.Within mA (fs.map (·.1))
  | .own _=>∃ o,h.get? a=some o
  | .xd fs=>∃ mA,h.Ns1 a mA∧∀ f,RelO (fs.lookup f) (mA f)
  | .rng lo hi=>∃ t u v,h.get? a=some { cls:=.type "range",data:=.fields #[.int lo t,.int hi u,.int 1 v] }
  | .frz o u=>h.get? a=some o∧ObjOk H h a u
  | .tbl ps=>h.get? a=some { cls:=.none,data:=.fields ps }∧TriplesOk ps.toList
  | .met f x=>h.get? a=some (PySem.W.methodObj (.ref f) (.ref x))
  | .ext φ=>φ h∧(∃ o,h.get? a=some o)∧∀ h1 h2:Heap,φ h1→(∀ o,h1.get? a=some o→h2.get? a=some o)→φ h2
noncomputable def HOk (H:Hp) (h:Heap):Prop:=∀ a o,H a=some o→ObjOk P w H h a o
end
section
variable {P:Program} {w:World} {H H':Hp} {h h':Heap} {a:Addr} {o:HO}
theorem ObjOk.lt (x:ObjOk P w H h a o):a<h.objs.size:=by
  cases o with
  | lst xs=>obtain ⟨_,_,_,_,e⟩:=x;exact Heap.lt_size e
  | tup xs=>obtain ⟨_,_,_,p,_⟩:=x;exact p.lt
  | dK kvs=>obtain ⟨_,_,_,_,o,_,_,e,_⟩:=x;exact Heap.lt_size e
  | dT kvs=>obtain ⟨_,_,_,_,o,_,_,e,_⟩:=x;exact Heap.lt_size e
  | set S n=>obtain ⟨o,_,_,_,e,_⟩:=x;exact Heap.lt_size e
  | ins C dx fs=>obtain ⟨_,_,_,e,_⟩:=x;exact Heap.lt_size e
  | own y=>obtain ⟨_,e⟩:=x;exact Heap.lt_size e
  | xd fs=>obtain ⟨_,⟨_,_,_,e,_⟩,_⟩:=x;exact Heap.lt_size e
  | rng lo hi=>obtain ⟨_,_,_,e⟩:=x;exact Heap.lt_size e
  | frz ob u=>obtain ⟨e,_⟩:=x;exact Heap.lt_size e
  | tbl ps=>exact Heap.lt_size (show h.get? a=some _ from x.1)
  | met f y=>exact Heap.lt_size (show h.get? a=some _ from x)
  | ext φ=>obtain ⟨_,⟨_,e⟩,_⟩:=x;exact Heap.lt_size e
theorem Paired.mapP {α β:Type} {F G:α→β→Prop}:∀ {l₁:List α} {l₂:List β},Paired F l₁ l₂→(∀ a b,F a b→G a b)→Paired G l₁ l₂
  | _,_,.nil,_=>.nil
  | _,_,.cons r t,f=>.cons (f _ _ r) (Paired.mapP t f)
theorem ObjOk.stay (x:ObjOk P w H h a o) (k:∀ b u,(b=a∨H b=some (.own a))→h.get? b=some u→h'.get? b=some u)
    (ho:∀ b,H b=some (.own a)→H' b=some (.own a)) (ht:∀ b xs,H b=some (.tup xs)→H' b=some (.tup xs)):ObjOk P w H' h' a o:=by
  induction o with
  | lst xs=>obtain ⟨z,its,n,r,e⟩:=x;exact ⟨z,its,n,r,k _ _ (.inl rfl) e⟩
  | tup xs=>obtain ⟨z,its,r,⟨ob,e,c⟩,nd⟩:=x;exact ⟨z,its,r,⟨ob,k _ _ (.inl rfl) e,c⟩,fun o q=>by rw [k _ _ (.inl rfl) e] at q;cases q;exact nd _ e⟩
  | dK kvs=>obtain ⟨z,y,vs,r,ob,es,ep,e,c⟩:=x;exact ⟨z,y,vs,r,ob,es,ep,k _ _ (.inl rfl) e,c⟩
  | dT kvs =>
    obtain ⟨z,y,xs,r,ob,es,ep,e,c⟩:=x
    exact ⟨z,y,xs,Paired.mapP r fun p q z=>⟨z.1,ht _ _ z.2.1,z.2.2⟩,ob,es,ep,k _ _ (.inl rfl) e,c⟩
  | set S n=>obtain ⟨ob,es,ep,t,e,c⟩:=x;exact ⟨ob,es,ep,t,k _ _ (.inl rfl) e,c⟩
  | ins C dx fs =>
    obtain ⟨d,z,ne,e,mA,⟨od,es,ep,e2,c⟩,r⟩:=x
    exact ⟨ho _ d,z,ne,k _ _ (.inl rfl) e,mA,⟨od,es,ep,k _ _ (.inr d) e2,c⟩,r⟩
  | own y=>obtain ⟨ob,e⟩:=x;exact ⟨ob,k _ _ (.inl rfl) e⟩
  | xd fs=>obtain ⟨mA,⟨od,es,ep,e,c⟩,r⟩:=x;exact ⟨mA,⟨od,es,ep,k _ _ (.inl rfl) e,c⟩,r⟩
  | rng lo hi=>obtain ⟨t,u,v,e⟩:=x;exact ⟨t,u,v,k _ _ (.inl rfl) e⟩
  | frz ob u ih=>obtain ⟨e,q⟩:=x;exact ⟨k _ _ (.inl rfl) e,ih q⟩
  | tbl ps =>
    obtain ⟨e,z⟩:=x
    exact ⟨k a _ (.inl rfl) e,z⟩
  | met f y =>
    have e:h.get? a=some (PySem.W.methodObj (.ref f) (.ref y)):=x
    show h'.get? a=some (PySem.W.methodObj (.ref f) (.ref y))
    exact k a _ (.inl rfl) e
  | ext φ=>obtain ⟨p,⟨o,e⟩,st⟩:=x;exact ⟨st _ _ p fun o q=>k _ _ (.inl rfl) q,⟨o,k _ _ (.inl rfl) e⟩,st⟩
theorem HOk.lt (x:HOk P w H h) (e:H a=some o):a<h.objs.size:=(x a o e).lt
theorem HOk.fresh (x:HOk P w H h) (e:h.objs.size≤a):H a=none:=by
  cases q:H a with
  | none=>rfl
  | some u=>exact absurd (Nat.lt_of_lt_of_le (x.lt q) e) (Nat.lt_irrefl _)
theorem HOk.kept (x:HOk P w H h) (k:∀ b u,h.get? b=some u→h'.get? b=some u):HOk P w H h':=fun a o e =>
  (x a o e).stay (fun b u _ q=>k b u q) (fun _ q=>q) fun _ _ q=>q
theorem HOk.laid (x:HOk P w H h) (k:∀ b u,h.get? b=some u→h'.get? b=some u) (hp:h.objs.size≤a) (new:ObjOk P w (upd H a o) h' a o):HOk P w (upd H a o) h':=fun b u e=>by
  have hn:=x.fresh hp
  by_cases hb:b=a
  · subst hb;rw [qm] at e;cases e;exact new
  · rw [qk hb] at e
    exact (x b u e).stay (fun c v _ q=>k c v q) (fun c q=>by rw [qk (qS q hn)];exact q) fun c xs q=>by rw [qk (qS q hn)];exact q
end
noncomputable def Rd (H:Hp) (a:Addr) (u:HO):Prop:=H a=some u∨∃ o,H a=some (.frz o u)
theorem Rd.ok {P:Program} {w:World} {H:Hp} {h:Heap} {a:Addr} {u:HO} (r:Rd H a u) (x:HOk P w H h):ObjOk P w H h a u:=by
  rcases r with r | ⟨o,r⟩
  · exact x a u r
  · obtain ⟨_,q⟩:=x a _ r
    exact q
noncomputable def Mut:Option HO→Prop
  | some (.lst _)=>True
  | some (.dK _)=>True
  | some (.dT _)=>True
  | some (.set _ _)=>True
  | some (.ins _ _ _)=>True
  | some (.ext _)=>True
  | _=>False
section
variable {P:Program} {w:World} {H:Hp} {h h':Heap} {x e:Addr} {o':HO}
theorem HOk.write (ok:HOk P w H h) (mu:Mut (H x)) (he:e=x∨H e=some (.own x)) (k:∀ b u,b≠e→h.get? b=some u→h'.get? b=some u) (heo:∃ u,h'.get? e=some u)
    (new:ObjOk P w (upd H x o') h' x o'):HOk P w (upd H x o') h':=fun b u q=>by
  have nown:∀ c y,H c=some (.own y)→c≠x:=fun c y r z=>by subst z;rw [r] at mu;exact mu
  have ntup:∀ c xs,H c=some (.tup xs)→c≠x:=fun c xs r z=>by subst z;rw [r] at mu;exact mu
  by_cases hb:b=x
  · subst hb;rw [qm] at q;cases q;exact new
  · rw [qk hb] at q
    by_cases hbe:b=e
    · have q':H b=some (.own x):=by
        rcases he with z | z
        · exact absurd (hbe.trans z) hb
        · rw [hbe];exact z
      rw [q] at q';cases q'
      obtain ⟨v,hv⟩:=heo
      exact ⟨v,by rw [hbe];exact hv⟩
    · refine (ok b u q).stay (fun c v hc r=>k c v ?_ r) (fun c r=>by rw [qk (nown c b r)];exact r) fun c xs r=>by rw [qk (ntup c xs r)];exact r
      rcases hc with rfl | hc
      · exact hbe
      · rintro rfl
        rcases he with z | z
        · exact nown c b hc z
        · rw [hc] at z;cases z;exact hb rfl
end
structure Un (fs ex:List Addr) (H H':Hp) (h h':Heap):Prop where
  keep:∀ b o,h.get? b=some o→H b=none→b ∉ fs→b ∉ ex→h'.get? b=some o
  slot:∀ b o,h.get? b=some o→H b=none→b∈fs→b ∉ ex→∃ sl,h'.get? b=some { o with slots:=sl }
  free:∀ b o,h.get? b=some o→H b=none→b ∉ ex→H' b=none
  there:∀ b o,h.get? b=some o→b ∉ ex→∃ o',h'.get? b=some o'
  tups:∀ b xs,H b=some (.tup xs)→H' b=some (.tup xs)
  frzs:∀ b o u,H b=some (.frz o u)→H' b=some (.frz o u)
  tbls:∀ b ps,H b=some (.tbl ps)→∃ more,H' b=some (.tbl (ps++more))
section
variable {fs fs' ex ex':List Addr} {H H1 H2:Hp} {h h1 h2 h':Heap} {a x e:Addr} {o:HO}
theorem Un.any (u:Un fs ex H H1 h h1) {b:Addr} {ob:Obj} (q:h.get? b=some ob) (n:H b=none) (hx:b ∉ ex):∃ sl,h1.get? b=some { ob with slots:=sl }:=by
  by_cases hb:b∈fs
  · exact u.slot b ob q n hb hx
  · exact ⟨ob.slots,u.keep b ob q n hb hx⟩
theorem Un.kept (k:∀ b u,h.get? b=some u→h'.get? b=some u):Un fs ex H H h h' :=
  ⟨fun b ob q _ _ _=>k b ob q,fun b ob q _ _ _=>⟨ob.slots,k b ob q⟩,fun _ _ _ n _=>n,fun b ob q _=>⟨ob,k b ob q⟩,fun _ _ q=>q,fun _ _ _ q=>q,fun _ ps q=>⟨#[],by rw [q];simp⟩⟩
theorem Un.refl:Un fs ex H H h h:=Un.kept fun _ _ q=>q
theorem Un.laid (k:∀ b u,h.get? b=some u→h'.get? b=some u) (hp:h.objs.size≤a) (hn:H a=none):Un fs ex H (upd H a o) h h' where
  keep:=fun b u q _ _ _=>k b u q
  slot:=fun b u q _ _ _=>⟨u.slots,k b u q⟩
  free:=fun b u q n _=>by rw [qk (Nat.ne_of_lt (Nat.lt_of_lt_of_le (Heap.lt_size q) hp))];exact n
  there:=fun b u q _=>⟨u,k b u q⟩
  tups:=fun b xs q=>by rw [qk (qS q hn)];exact q
  frzs:=fun b u xs q=>by rw [qk (qS q hn)];exact q
  tbls:=fun b ps q=>⟨#[],by rw [qk (qS q hn),q];simp⟩
theorem Un.write (mu:Mut (H x)) (he:e=x∨H e=some (.own x)) (k:∀ b u,b≠e→h.get? b=some u→h'.get? b=some u) (heo:∃ u,h'.get? e=some u):Un fs ex H (upd H x o) h h':=by
  have hx:∀ b,H b=none→b≠x:=fun b n z=>by subst z;rw [n] at mu;exact mu
  have hb:∀ b,H b=none→b≠e:=fun b n z=>by
    subst z
    rcases he with r | r
    · exact hx b n r
    · rw [n] at r;cases r
  have hm:∀ b u,H b=some u→¬ Mut (some u)→b≠x:=fun b u q nm z=>by subst z;rw [q] at mu;exact nm mu
  refine ⟨fun b u q n _ _=>k b u (hb b n) q,fun b u q n _ _=>⟨u.slots,k b u (hb b n) q⟩,fun b u q n _=>by rw [qk (hx b n)];exact n,fun b u q _=>?_,
    fun b xs q=>by rw [qk (hm b _ q fun z=>z)];exact q,fun b u xs q=>by rw [qk (hm b _ q fun z=>z)];exact q,fun b ps q=>⟨#[],by rw [qk (hm b _ q fun z=>z),q];simp⟩⟩
  by_cases hbe:b=e
  · subst hbe;exact heo
  · exact ⟨u,k b u hbe q⟩
end
structure GK (g g':Array GenState):Prop where
  bare:AllBare g'
  sz:g.size≤g'.size
  old:∀ i,i<g.size→g'[i]?=g[i]?
theorem GK.refl {g:Array GenState} (b:AllBare g):GK g g:=⟨b,Nat.le_refl _,fun _ _=>rfl⟩
theorem GK.self {g g':Array GenState} (x:GK g g'):GK g' g':=GK.refl x.bare
theorem GK.trans {g g1 g2:Array GenState} (a:GK g g1) (b:GK g1 g2):GK g g2:=⟨b.bare,Nat.le_trans a.sz b.sz,fun i hi=>(b.old i (Nat.lt_of_lt_of_le hi a.sz)).trans (a.old i hi)⟩
noncomputable def sameName (vs:Array Value):Bool:=match (vs[0]?:Option Value),(vs[1]?:Option Value) with
  | some (.str a _),some (.str b _)=>a == b
  | _,_=>false
noncomputable def codeTab (K:PySem.W.Frag) (c T:Addr):Bool:=match K.lookup c with
  | some ⟨cls,_,.fields vs,_⟩=>(cls == .type "code"&&sameName vs)&&(match (vs.getD 11 Value.none:Value),(vs[11]?:Option Value),(vs.getD 18 Value.none:Value),(vs.getD 7 Value.none:Value),(vs.getD 9 Value.none:Value),(vs.getD 10 Value.none:Value) with
    | .ref a,some (.ref b),.str _ _,.int _ _,.bool _,.int _ _=>a == T&&b == T&&c != T
    | _,_,_,_,_,_=>false)
  | _=>false
noncomputable def trk (h:Heap) (H:Hp):List Addr:=(List.range h.objs.size).filter fun a=>(H a).isSome
noncomputable def hidT (h:Heap) (H:Hp):Heap:=PySem.W.hideAll h (trk h H)
theorem qcA (h:Heap) (H:Hp):(hidT h H).objs.size=h.objs.size:=PySem.W.hideAll_size _ _
theorem qdg {h:Heap} {H:Hp} {b:Addr} {o:Obj} (e:h.get? b=some o) (n:H b=none):(hidT h H).get? b=some o :=
  PySem.W.hideAll_get _ e fun hm=>by
    have q:(H b).isSome=true:=(List.mem_filter.mp hm).2
    rw [n] at q;simp at q
theorem qfc {h:Heap} {H:Hp} {b:Addr} {o:Obj} (e:(hidT h H).get? b=some o):h.get? b=some o∧H b=none:=by
  have e':h.get? b=some o:=PySem.W.of_hideAll (trk h H) e
  refine ⟨e',?_⟩
  cases q:H b with
  | none=>rfl
  | some x =>
    have hm:b∈trk h H:=List.mem_filter.mpr ⟨List.mem_range.mpr (Heap.lt_size e'),by simp [q]⟩
    have z:(hidT h H).get? b=none:=PySem.W.hideAll_none (trk h H) hm
    rw [z] at e;cases e
noncomputable def allNews (g h:Heap) (L:Addr):List (Addr × Obj):=(List.range h.objs.size).filterMap fun a=>if a=L∨(g.get? a).isSome=true then none else (h.get? a).map fun o=>(a,o)
noncomputable def rest (g h:Heap) (L d:Addr):List (Addr × Obj):=(allNews g h L).filter fun p=>decide (p.1≠d)
end L2
namespace L2
open PySem PySem.Spec PyProof.Rows
structure Mod (K:PySem.W.Frag) (mg:Str→Option Value) (base:Heap):Prop where
  kin:K.In base
  glob:base.Ns mainGlobals mg
  blt:∃ mb,base.Ns builtinsNs mb∧∀ x:Str,x≠"__name__"→mb x=bootBuiltins x
  nolimit:base.NoLimit
  bmod:∃ bm ob,mg "__builtins__"=some (.ref bm)∧bm≠builtinsNs∧base.get? bm=some ob∧ob.cls=.type "module"∧ob.dict=some builtinsNs∧ob.data=.plain
structure Cx where
  prog:Program
  w:World
  K:PySem.W.Frag
  mg:Str→Option Value
  base:Heap
  A:Around
  N:List Str
  s₀:Shared
  H₀:Hp
  env:Env
  outer:List Env
  stack:List Env
  ex:List Addr
  fn:Str→Bool
  calm:Bool
  pn:List (Addr × Obj)
  xe:Value→Shared→Prop
noncomputable def frs (l:List Env):List Addr:=l.filterMap (·.frame)
noncomputable abbrev Cx.fs (X:Cx):List Addr:=frs X.outer
noncomputable def Vis (sc:Scope) (x:Str):Prop:=sc.names.lookup x=some .local∨sc.names.lookup x=some .cell∨sc.names.lookup x=some .free
noncomputable def Loc (sc:Scope) (x:Str):Prop:=sc.names.lookup x=some .local∨sc.names.lookup x=some .cell
noncomputable def Look (env:Env) (h:Heap) (m:Str→Option Value) (x:Str) (u:Value):Prop :=
  (env.kindOf x=some .local∧m x=some u)∨((env.kindOf x=some .cell∨env.kindOf x=some .free)∧∃ c,env.cells.lookup x=some c∧h.IsCell c (some u))
structure Cx.Ok (X:Cx):Prop where
  mod:Mod X.K X.mg X.base
  kind:X.env.scope.kind=.function
  glob:X.env.globals=mainGlobals
  blt:X.env.builtins=builtinsNs
  above:X.s₀.heap.objs.size≤X.env.locals
  inj:∀ x y c,X.env.cells.lookup x=some c→X.env.cells.lookup y=some c→x=y
  has:∀ x,(X.env.kindOf x=some .cell∨X.env.kindOf x=some .free)→∃ c,X.env.cells.lookup x=some c
  cab:∀ x c,X.fn x=true→X.env.cells.lookup x=some c→X.s₀.heap.objs.size≤c
  hd:X.calm=true→X.A.handled=none
  frames:X.A.frames=some X.stack
  stk:X.stack=X.outer∨(X.stack=X.env::X.outer∧X.env.frame=some X.env.locals)
  exf:∀ b∈X.ex,b≠X.env.locals∧∀ x c,X.env.cells.lookup x=some c→c≠b
  bs:∀ b o,X.base.get? b=some o→X.s₀.heap.get? b=some o∧X.H₀ b=none
  bsz:X.base.objs.size≤X.s₀.heap.objs.size
  noex:∀ b o,X.base.get? b=some o→b ∉ X.ex
  exfs:∀ b∈X.ex,b ∉ X.fs
  funs:X.s₀.heap.FunFrames X.base X.outer
  frf:∀ b∈X.fs,X.H₀ b=none
  tab:∀ c T,codeTab X.K c T=true→∃ ps,X.H₀ T=some (.tbl ps)
structure Inv (X:Cx) (pins:List (Addr × Obj)) (σ:List (Option V)) (H:Hp) (s:Shared):Prop where
  ok:X.Ok
  os:s.os=X.s₀.os
  bare:GK X.s₀.gens s.gens
  base:Un X.fs X.ex X.H₀ H X.s₀.heap s.heap
  loc:∃ m,s.heap.Ns X.env.locals m∧∀ (i:Nat) (x:Str) (v:V),X.N[i]?=some x→σ[i]?=some (some v)→Vis X.env.scope x→∃ u,RelV v u∧Look X.env s.heap m x u
  cell:∀ x c,X.env.cells.lookup x=some c→∃ v,s.heap.IsCell c v
  free:H X.env.locals=none
  freeC:∀ x c,X.env.cells.lookup x=some c→H c=none
  pin:∀ p∈X.pn++pins,s.heap.get? p.1=some p.2∧H p.1=none∧p.1≠X.env.locals∧p.1 ∉ X.fs∧∀ v,p.2.data≠.cell v
  hok:HOk X.prog X.w H s.heap
  len:σ.length=X.N.length
section
variable {X:Cx} {pins:List (Addr × Obj)} {σ:List (Option V)} {H H':Hp} {s:Shared} {h':Heap}
theorem Cx.Ok.nofr (ok:X.Ok) {b:Addr} {o:Obj} (e:X.base.get? b=some o):b ∉ X.fs:=fun hb=>by
  have:=(ok.funs.mem hb).1
  rw [e] at this;cases this
theorem Inv.bs (I:Inv X pins σ H s):∀ b o,X.base.get? b=some o→s.heap.get? b=some o∧H b=none:=fun b o e =>
  ⟨I.base.keep b o (I.ok.bs b o e).1 (I.ok.bs b o e).2 (I.ok.nofr e) (I.ok.noex b o e),I.base.free b o (I.ok.bs b o e).1 (I.ok.bs b o e).2 (I.ok.noex b o e)⟩
theorem Inv.bk (I:Inv X pins σ H s):∀ b o,X.base.get? b=some o→s.heap.get? b=some o:=fun b o e=>(I.bs b o e).1
theorem Inv.mod (I:Inv X pins σ H s):Mod X.K X.mg X.base:=I.ok.mod
theorem Inv.kIn (I:Inv X pins σ H s):X.K.In s.heap:=I.ok.mod.kin.keeps I.bk
theorem Inv.nolimit (I:Inv X pins σ H s):s.heap.NoLimit:=I.ok.mod.nolimit.keeps I.bk
theorem Inv.lt (I:Inv X pins σ H s):X.env.locals<s.heap.objs.size:=let ⟨_,hn,_⟩:=I.loc;hn.lt
theorem Inv.sz (I:Inv X pins σ H s):X.s₀.heap.objs.size≤s.heap.objs.size:=Nat.le_trans I.ok.above (Nat.le_of_lt I.lt)
theorem Inv.nofs (I:Inv X pins σ H s) {a:Addr} (h:s.heap.objs.size≤a):a ∉ X.fs:=fun hb=>by
  obtain ⟨_,o,ho,_⟩:=I.ok.funs.mem hb
  exact absurd (Nat.lt_of_lt_of_le (Heap.lt_size ho) (Nat.le_trans I.sz h)) (Nat.lt_irrefl _)
theorem Inv.cne (I:Inv X pins σ H s):∀ x c,X.env.cells.lookup x=some c→c≠X.env.locals:=fun x c e z=>by
  obtain ⟨v,o,ho,hd⟩:=I.cell x c e
  obtain ⟨m,⟨o',es,ep,ho',hd',_⟩,_⟩:=I.loc
  rw [z,ho'] at ho;cases ho;rw [hd'] at hd;cases hd
theorem Inv.funs (I:Inv X pins σ H s):s.heap.FunFrames X.base X.outer:=by
  have all:∀ (l:List Env),(∀ b∈frs l,b∈X.fs)→X.s₀.heap.FunFrames X.base l→s.heap.FunFrames X.base l:=by
    intro l
    induction l with
    | nil=>intro _ _;trivial
    | cons env r ih =>
      intro hs hl
      obtain ⟨hk,⟨L,o,hf,hn,ho,hd⟩,hr⟩:=hl
      have hL:L∈X.fs:=hs L (by unfold frs;rw [List.filterMap_cons,hf];exact List.mem_cons_self)
      obtain ⟨sl,e⟩:=I.base.slot L o ho (I.ok.frf L hL) hL fun z=>I.ok.exfs L z hL
      exact ⟨hk,⟨L,_,hf,hn,e,hd⟩,ih (fun b hb=>hs b (by unfold frs;rw [List.filterMap_cons,hf];exact List.mem_cons_of_mem _ hb)) hr⟩
  exact all X.outer (fun _ hb=>hb) I.ok.funs
theorem Inv.stack (I:Inv X pins σ H s):s.heap.FunFrames X.base X.stack:=by
  rcases I.ok.stk with e | ⟨e,hf⟩
  · rw [e];exact I.funs
  · rw [e]
    obtain ⟨m,hn,_⟩:=I.loc
    refine .cons (by rw [I.ok.kind];decide) hf hn ?_ I.funs
    exact Heap.get?_none_of_le (Nat.le_trans I.ok.bsz I.ok.above)
theorem Inv.stkSub (I:Inv X pins σ H s):∀ b∈frs X.stack,b∈X.env.locals::X.fs:=fun b hb=>by
  rcases I.ok.stk with e | ⟨e,hf⟩
  · rw [e] at hb;exact List.mem_cons_of_mem _ hb
  · rw [e] at hb
    unfold frs at hb
    rw [List.filterMap_cons,hf] at hb
    exact hb
theorem Inv.stkFree (I:Inv X pins σ H s):∀ b∈frs X.stack,H b=none:=fun b hb=>by
  rcases List.mem_cons.mp (I.stkSub b hb) with e | hb
  · rw [e];exact I.free
  · obtain ⟨_,o,ho,_⟩:=I.ok.funs.mem hb
    exact I.base.free b o ho (I.ok.frf b hb) fun z=>I.ok.exfs b z hb
theorem Inv.step {g':Array GenState} {t':Nat} {d':Drawn} {ch:List Addr} (I:Inv X pins σ H s)
    (hch:∀ b∈ch,(b∈X.ex∨X.s₀.heap.objs.size≤b)∧b≠X.env.locals∧(∀ x c,X.env.cells.lookup x=some c→c≠b)∧∀ p∈X.pn++pins,p.1≠b)
    (keep:∀ b o,b≠X.env.locals→b ∉ X.fs→b ∉ ch→s.heap.get? b=some o→H b=none→h'.get? b=some o)
    (slot:∀ b o,b≠X.env.locals→b∈X.fs→b ∉ ch→s.heap.get? b=some o→H b=none→∃ sl,h'.get? b=some { o with slots:=sl }) (free:∀ b o,b ∉ ch→s.heap.get? b=some o→H b=none→H' b=none)
    (there:∀ b o,b ∉ ch→s.heap.get? b=some o→∃ o',h'.get? b=some o')
    (tups:∀ b xs,H b=some (.tup xs)→H' b=some (.tup xs)) (frzs:∀ b o u,H b=some (.frz o u)→H' b=some (.frz o u)) (tbls:∀ b ps,H b=some (.tbl ps)→∃ more,H' b=some (.tbl (ps++more)))
    (ns:∀ m,s.heap.Ns X.env.locals m→h'.Ns X.env.locals m) (hok:HOk X.prog X.w H' h') (hg:GK s.gens g') :
    Inv X pins σ H' { s with heap:=h',gens:=g',drawn:=d',toks:=t' }:=by
  have neL:∀ b o,X.s₀.heap.get? b=some o→b≠X.env.locals:=fun b o e=>Nat.ne_of_lt (Nat.lt_of_lt_of_le (Heap.lt_size e) I.ok.above)
  have neC:∀ b o,X.s₀.heap.get? b=some o→b ∉ X.ex→b ∉ ch:=fun b o e hx hb=>by
    rcases (hch b hb).1 with z | z
    · exact hx z
    · exact absurd (Nat.lt_of_lt_of_le (Heap.lt_size e) z) (Nat.lt_irrefl _)
  have cellK:∀ x c,X.env.cells.lookup x=some c→∀ v,s.heap.IsCell c v→h'.IsCell c v:=fun x c e v ⟨o,ho,hd⟩=>by
    have nch:c ∉ ch:=fun z=>(hch c z).2.2.1 x c e rfl
    by_cases hc:c∈X.fs
    · obtain ⟨sl,q⟩:=slot c o (I.cne x c e) hc nch ho (I.freeC x c e)
      exact ⟨_,q,hd⟩
    · exact ⟨o,keep c o (I.cne x c e) hc nch ho (I.freeC x c e),hd⟩
  refine ⟨I.ok,I.os,I.bare.trans hg,⟨fun b o e n hb hx=>?_,fun b o e n hb hx=>?_,fun b o e n hx=>?_,fun b o e hx=>?_,fun b xs e=>tups b xs (I.base.tups b xs e),fun b o xs e=>frzs b o xs (I.base.frzs b o xs e),fun b ps e=>?_⟩,?_,fun x c e=>?_,?_,fun x c e=>?_,fun p hp=>?_,hok,I.len⟩
  · exact keep b o (neL b o e) hb (neC b o e hx) (I.base.keep b o e n hb hx) (I.base.free b o e n hx)
  · obtain ⟨sl,e1⟩:=I.base.slot b o e n hb hx
    obtain ⟨sl',e2⟩:=slot b _ (neL b o e) hb (neC b o e hx) e1 (I.base.free b o e n hx)
    exact ⟨sl',e2⟩
  · obtain ⟨o',e1⟩:=I.base.there b o e hx
    exact free b o' (neC b o e hx) e1 (I.base.free b o e n hx)
  · obtain ⟨o',e1⟩:=I.base.there b o e hx
    exact there b o' (neC b o e hx) e1
  · obtain ⟨m1,e1⟩:=I.base.tbls b ps e
    obtain ⟨m2,e2⟩:=tbls b _ e1
    exact ⟨m1++m2,by rw [e2,Array.append_assoc]⟩
  · obtain ⟨m,hn,hl⟩:=I.loc
    refine ⟨m,ns m hn,fun i x v e1 e2 e3=>?_⟩
    obtain ⟨u,r,l⟩:=hl i x v e1 e2 e3
    refine ⟨u,r,?_⟩
    rcases l with l | ⟨k,c,e,z⟩
    · exact .inl l
    · exact .inr ⟨k,c,e,cellK x c e _ z⟩
  · obtain ⟨v,z⟩:=I.cell x c e
    exact ⟨v,cellK x c e v z⟩
  · obtain ⟨m,⟨o,_,_,ho,_⟩,_⟩:=I.loc
    exact free _ o (fun z=>(hch _ z).2.1 rfl) ho I.free
  · obtain ⟨v,o,ho,hd⟩:=I.cell x c e
    exact free c o (fun z=>(hch c z).2.2.1 x c e rfl) ho (I.freeC x c e)
  · obtain ⟨e,n,ne,nf,d⟩:=I.pin p hp
    have nch:p.1 ∉ ch:=fun z=>(hch p.1 z).2.2.2 p hp rfl
    exact ⟨keep p.1 p.2 ne nf nch e n,free p.1 p.2 nch e n,ne,nf,d⟩
theorem Inv.un {t':Nat} (I:Inv X pins σ H s) (u:Un X.fs [] H H' s.heap h') (hok:HOk X.prog X.w H' h'):Inv X pins σ H' { s with heap:=h',toks:=t' }:=by
  obtain ⟨m,⟨o,es,ep,ho,r⟩,_⟩:=id I.loc
  obtain ⟨sl,hL⟩:=u.any ho I.free (by simp)
  exact I.step (g':=s.gens) (d':=s.drawn) (ch:=[]) (fun _ z=>nomatch z) (fun b o _ hb _ e n=>u.keep b o e n hb (by simp)) (fun b o _ hb _ e n=>u.slot b o e n hb (by simp)) (fun b o _ e n=>u.free b o e n (by simp)) (fun b o _ e=>u.there b o e (by simp)) u.tups u.frzs u.tbls (fun m' hm=>by
    obtain ⟨o',es',ep',ho',r'⟩:=hm
    rw [ho] at ho';cases ho'
    exact ⟨_,es',ep',hL,r'⟩) hok I.bare.self
theorem Inv.call {g':Array GenState} {t':Nat} {d':Drawn} {ch:List Addr} (I:Inv X pins σ H s) (u:Un (frs X.stack) ch H H' s.heap h') (hok:HOk X.prog X.w H' h') (hg:GK s.gens g')
    (hch:∀ b∈ch,(b∈X.ex∨X.s₀.heap.objs.size≤b)∧b≠X.env.locals∧(∀ x c,X.env.cells.lookup x=some c→c≠b)∧∀ p∈X.pn++pins,p.1≠b) :
    Inv X pins σ H' { s with heap:=h',gens:=g',drawn:=d',toks:=t' }:=by
  obtain ⟨m,⟨o,es,ep,ho,r⟩,_⟩:=id I.loc
  obtain ⟨sl,hL⟩:=u.any ho I.free fun z=>(hch _ z).2.1 rfl
  exact I.step (ch:=ch) hch (fun b o hL hb hc e n=>u.keep b o e n (fun z=>(List.mem_cons.mp (I.stkSub b z)).elim hL hb) hc) (fun b o _ _ hc e n=>u.any e n hc) (fun b o hc e n=>u.free b o e n hc) (fun b o hc e=>u.there b o e hc) u.tups u.frzs u.tbls (fun m' hm=>by
    obtain ⟨o',es',ep',ho',r'⟩:=hm
    rw [ho] at ho';cases ho'
    exact ⟨_,es',ep',hL,r'⟩) hok hg
theorem Inv.turned {t':Nat} {it:Addr} (I:Inv X pins σ H s) (k:∀ b o,b≠it→s.heap.get? b=some o→h'.get? b=some o) (hn:H it=none) (hL:it≠X.env.locals)
    (h1:it∈X.ex∨X.s₀.heap.objs.size≤it) (h2:∀ x c,X.env.cells.lookup x=some c→c≠it) (h3:∀ p∈X.pn++pins,p.1≠it):Inv X pins σ H { s with heap:=h',toks:=t' }:=by
  have nit:∀ b u,H b=some u→b≠it:=fun b u e z=>by rw [z,hn] at e;cases e
  refine I.step (g':=s.gens) (d':=s.drawn) (ch:=[it]) (fun b hb=>?_) (fun b o _ _ hc e _=>k b o (fun z=>hc (by simp [z])) e) (fun b o _ _ hc e _=>⟨o.slots,k b o (fun z=>hc (by simp [z])) e⟩) (fun _ _ _ _ n=>n)
    (fun b o hc e=>⟨o,k b o (fun z=>hc (by simp [z])) e⟩) (fun _ _ e=>e) (fun _ _ _ e=>e) (fun b ps e=>⟨#[],by rw [e];simp⟩) (fun m hm=>?_) (fun b u e=>?_) I.bare.self
  · have e:b=it:=by simpa using hb
    subst e
    exact ⟨h1,hL,h2,h3⟩
  · obtain ⟨o,es,ep,ho,r⟩:=hm
    exact ⟨o,es,ep,k _ o (Ne.symm hL) ho,r⟩
  · refine (I.hok b u e).stay (fun c v hc q=>k c v ?_ q) (fun _ q=>q) fun _ _ q=>q
    rcases hc with z | z
    · rw [z];exact nit b u e
    · exact nit c _ z
theorem Inv.tok (I:Inv X pins σ H s) (t:Nat):Inv X pins σ H { s with toks:=t }:=I.un (h':=s.heap) (t':=t) Un.refl I.hok
theorem Inv.kept {t':Nat} (I:Inv X pins σ H s) (k:∀ b u,s.heap.get? b=some u→h'.get? b=some u):Inv X pins σ H { s with heap:=h',toks:=t' }:=I.un (Un.kept k) (I.hok.kept k)
theorem Inv.laid {a:Addr} {o:HO} {t':Nat} (I:Inv X pins σ H s) (k:∀ b u,s.heap.get? b=some u→h'.get? b=some u) (hp:s.heap.objs.size≤a) (new:ObjOk X.prog X.w (upd H a o) h' a o) :
    Inv X pins σ (upd H a o) { s with heap:=h',toks:=t' }:=I.un (Un.laid k hp (I.hok.fresh hp)) (I.hok.laid k hp new)
theorem Inv.write {x e:Addr} {o:HO} {t':Nat} (I:Inv X pins σ H s) (mu:Mut (H x)) (he:e=x∨H e=some (.own x)) (k:∀ b u,b≠e→s.heap.get? b=some u→h'.get? b=some u) (heo:∃ u,h'.get? e=some u)
    (new:ObjOk X.prog X.w (upd H x o) h' x o):Inv X pins σ (upd H x o) { s with heap:=h',toks:=t' }:=I.un (Un.write mu he k heo) (I.hok.write mu he k heo new)
theorem Inv.pins_of {pins':List (Addr × Obj)} (I:Inv X pins σ H s) (h:∀ p∈pins',s.heap.get? p.1=some p.2∧H p.1=none∧p.1≠X.env.locals∧p.1 ∉ X.fs∧∀ v,p.2.data≠.cell v):Inv X pins' σ H s :=
  ⟨I.ok,I.os,I.bare,I.base,I.loc,I.cell,I.free,I.freeC,fun p hp=>(List.mem_append.mp hp).elim (fun z=>I.pin p (List.mem_append_left _ z)) (h p),I.hok,I.len⟩
theorem y7 {N:List Str} (hN:N.Nodup) {i j:Nat} {x:Str} (a:N[i]?=some x) (b:N[j]?=some x):i=j:=by
  obtain ⟨h1,e1⟩:=List.getElem?_eq_some_iff.mp a
  obtain ⟨h2,e2⟩:=List.getElem?_eq_some_iff.mp b
  exact (List.getElem_inj hN).mp (e1.trans e2.symm)
theorem qcB {M:Model} {A:Around} {E:Value→Shared→Prop} {i:Nat} {x:Str} {v:V} {u:Value} {Q:Unit→Shared→Prop} (I:Inv X pins σ H s) (hN:X.N.Nodup) (hi:X.N[i]?=some x) (hx:Loc X.env.scope x) (r:RelV v u)
    (h:∀ s',Inv X pins (σ.set i (some v)) H s'→(∃ a,Heap.SameBut a s.heap s'.heap∧(a=X.env.locals∨X.env.cells.lookup x=some a))→Q () s') (hf:X.fn x=true∨X.env.scope.names.lookup x=some .local:=by first | exact .inl rfl | exact .inr rfl | assumption):wpAny M A (storeName X.env x u) Q E s:=by
  obtain ⟨m,hn,hl⟩:=id I.loc
  have hcls:(X.env.scope.kind == .class || (X.env.scope.kind == .module&&X.env.locals != X.env.globals))=false:=by rw [I.ok.kind];rfl
  have hiσ:i<σ.length:=by rw [I.len];exact (List.getElem?_eq_some_iff.mp hi).1
  have cne:=I.cne
  have tracked:∀ {a:Addr} {h':Heap},(∃ o,s.heap.get? a=some o∧H a=none)→Heap.SameBut a s.heap h'→HOk X.prog X.w H h':=fun {a h'} ha hs b ob e=>by
    obtain ⟨_,_,hfree⟩:=ha
    refine (I.hok b ob e).stay (fun c w' hc q=>(hs.2 c ?_).trans q) (fun _ q=>q) fun _ _ q=>q
    rintro rfl
    rcases hc with rfl | hc
    · rw [hfree] at e;cases e
    · rw [hfree] at hc;cases hc
  rcases hx with hk | hk
  · refine wpAny_storeName_local hk hn (fun h' hn' hs=>?_) hcls
    obtain ⟨oL,_,_,hoL,_⟩:=id hn
    refine h _ ⟨I.ok,I.os,I.bare,⟨fun b o e n hb hx=>?_,fun b o e n hb hx=>?_,I.base.free,fun b o e hx=>?_,I.base.tups,I.base.frzs,I.base.tbls⟩,⟨_,hn',fun j y v' e1 e2 e3=>?_⟩,fun y c e=>?_,I.free,I.freeC,fun p hp=>?_,tracked ⟨oL,hoL,I.free⟩ hs,by simpa using I.len⟩ ⟨_,hs,.inl rfl⟩
    · exact (hs.2 b (Nat.ne_of_lt (Nat.lt_of_lt_of_le (Heap.lt_size e) I.ok.above))).trans (I.base.keep b o e n hb hx)
    · obtain ⟨sl,e1⟩:=I.base.slot b o e n hb hx
      exact ⟨sl,(hs.2 b (Nat.ne_of_lt (Nat.lt_of_lt_of_le (Heap.lt_size e) I.ok.above))).trans e1⟩
    · obtain ⟨o',e1⟩:=I.base.there b o e hx
      exact ⟨o',(hs.2 b (Nat.ne_of_lt (Nat.lt_of_lt_of_le (Heap.lt_size e) I.ok.above))).trans e1⟩
    · by_cases hj:j=i
      · subst hj
        rw [hi] at e1;cases e1
        rw [List.getElem?_set_self hiσ] at e2
        cases e2
        exact ⟨u,r,.inl ⟨hk,by simp⟩⟩
      · rw [List.getElem?_set_ne (Ne.symm hj)] at e2
        obtain ⟨u',r',q⟩:=hl j y v' e1 e2 e3
        refine ⟨u',r',?_⟩
        rcases q with ⟨k,e⟩ | ⟨k,c,e,z⟩
        · refine .inl ⟨k,?_⟩
          have:y≠x:=fun e=>hj (y7 hN e1 (e ▸ hi))
          simp [this,e]
        · exact .inr ⟨k,c,e,z.sameBut hs (cne y c e)⟩
    · obtain ⟨w',z⟩:=I.cell y c e
      exact ⟨w',z.sameBut hs (cne y c e)⟩
    · obtain ⟨e,n,ne,nf,d⟩:=I.pin p hp
      exact ⟨(hs.2 p.1 ne).trans e,n,ne,nf,d⟩
  · have hfn:X.fn x=true:=by
      rcases hf with z | z
      · exact z
      · rw [z] at hk;cases hk
    obtain ⟨c,hc⟩:=I.ok.has x (.inl hk)
    obtain ⟨w',z⟩:=I.cell x c hc
    refine wpAny_storeName_cell I.ok.kind hk hc z (fun h' hc' hs=>?_)
    obtain ⟨oc,hoc,hocd⟩:=id z
    refine h { s with heap:=h' } ⟨I.ok,I.os,I.bare,⟨fun b o e n hb hx=>?_,fun b o e n hb hx=>?_,I.base.free,fun b o e hx=>?_,I.base.tups,I.base.frzs,I.base.tbls⟩,⟨m,hn.sameBut hs (Ne.symm (cne x c hc)),fun j y v' e1 e2 e3=>?_⟩,fun y c' e=>?_,I.free,I.freeC,fun p hp=>?_,tracked ⟨oc,hoc,I.freeC x c hc⟩ hs,by simpa using I.len⟩ ⟨c,hs,.inr hc⟩
    · exact (hs.2 b (Nat.ne_of_lt (Nat.lt_of_lt_of_le (Heap.lt_size e) (I.ok.cab x c hfn hc)))).trans (I.base.keep b o e n hb hx)
    · obtain ⟨sl,e1⟩:=I.base.slot b o e n hb hx
      exact ⟨sl,(hs.2 b (Nat.ne_of_lt (Nat.lt_of_lt_of_le (Heap.lt_size e) (I.ok.cab x c hfn hc)))).trans e1⟩
    · obtain ⟨o',e1⟩:=I.base.there b o e hx
      exact ⟨o',(hs.2 b (Nat.ne_of_lt (Nat.lt_of_lt_of_le (Heap.lt_size e) (I.ok.cab x c hfn hc)))).trans e1⟩
    · by_cases hj:j=i
      · subst hj
        rw [hi] at e1;cases e1
        rw [List.getElem?_set_self hiσ] at e2
        cases e2
        exact ⟨u,r,.inr ⟨.inl hk,c,hc,hc'⟩⟩
      · rw [List.getElem?_set_ne (Ne.symm hj)] at e2
        obtain ⟨u',r',q⟩:=hl j y v' e1 e2 e3
        refine ⟨u',r',?_⟩
        rcases q with q | ⟨k,c',e,z'⟩
        · exact .inl q
        · refine .inr ⟨k,c',e,z'.sameBut hs ?_⟩
          rintro rfl
          exact hj (y7 hN e1 (I.ok.inj _ _ _ e hc ▸ hi))
    · by_cases hcc:c'=c
      · subst hcc;exact ⟨_,hc'⟩
      · obtain ⟨w2,z2⟩:=I.cell y c' e
        exact ⟨w2,z2.sameBut hs hcc⟩
    · obtain ⟨e,n,ne,nf,d⟩:=I.pin p hp
      refine ⟨(hs.2 p.1 ?_).trans e,n,ne,nf,d⟩
      intro q
      rw [q,hoc] at e
      have q':oc=p.2:=Option.some.inj e
      exact d w' (by rw [← q'];exact hocd)
theorem zG {M:Model} {A:Around} {E:Value→Shared→Prop} {i:Nat} {x:Str} {v:V} {u:Value} {Q:Unit→Shared→Prop} (I:Inv X pins σ H s) (hN:X.N.Nodup) (hi:X.N[i]?=some x) (hx:Loc X.env.scope x) (r:RelV v u)
    (h:∀ s',Inv X pins (σ.set i (some v)) H s'→Q () s') (hf:X.fn x=true∨X.env.scope.names.lookup x=some .local:=by first | exact .inl rfl | exact .inr rfl | assumption):wpAny M A (storeName X.env x u) Q E s :=
  qcB I hN hi hx r (fun s' I' _=>h s' I') hf
theorem Inv.call' {s':Shared} {ch:List Addr} (I:Inv X pins σ H s) (ho:s'.os=s.os) (u:Un (frs X.stack) ch H H' s.heap s'.heap) (hok:HOk X.prog X.w H' s'.heap) (hg:GK s.gens s'.gens)
    (hch:∀ b∈ch,(b∈X.ex∨X.s₀.heap.objs.size≤b)∧b≠X.env.locals∧(∀ x c,X.env.cells.lookup x=some c→c≠b)∧∀ p∈X.pn++pins,p.1≠b):Inv X pins σ H' s':=by
  obtain ⟨h',g',d',t',o'⟩:=s'
  have e:o'=s.os:=ho
  subst e
  exact I.call (g':=g') (t':=t') (d':=d') u hok hg hch
end
noncomputable abbrev XK:=Value→Option Addr→Hp→Prop
noncomputable abbrev St:=List (Option V)
noncomputable abbrev VK:=V→Hp→Prop
noncomputable abbrev TE:=St→Hp→VK→Prop
noncomputable abbrev TT:=St→Hp→(Bool→Hp→Prop)→Prop
noncomputable abbrev TA:=St→Hp→(List V→Hp→Prop)→Prop
structure Ends where
  nx:St→Hp→Prop
  rt:VK
  bk:St→Hp→Prop:=fun _ _=>False
  ct:St→Hp→Prop:=fun _ _=>False
noncomputable abbrev TS:=Ends→St→Hp→Prop
noncomputable def EP (X:Cx) (pins:List (Addr × Obj)) (σ:St) (Q:VK) (u:Value) (s':Shared):Prop:=∃ v H',Inv X pins σ H' s'∧RelV v u∧Q v H'
noncomputable def TP (X:Cx) (pins:List (Addr × Obj)) (σ:St) (Q:Bool→Hp→Prop) (b:Bool) (s':Shared):Prop:=∃ H',Inv X pins σ H' s'∧Q b H'
noncomputable def AP (X:Cx) (pins:List (Addr × Obj)) (σ:St) (Q:List V→Hp→Prop) (us:List Value) (s':Shared):Prop:=∃ vs H',Inv X pins σ H' s'∧Vals vs us∧Q vs H'
noncomputable def SP (X:Cx) (pins:List (Addr × Obj)) (D:Ends) (f:Flow) (s':Shared):Prop :=
  match f with
  | .next=>∃ σ' H',Inv X pins σ' H' s'∧D.nx σ' H'
  | .brk=>∃ σ' H',Inv X pins σ' H' s'∧D.bk σ' H'
  | .cont=>∃ σ' H',Inv X pins σ' H' s'∧D.ct σ' H'
  | .ret u=>∃ v σ' H',Inv X pins σ' H' s'∧RelV v u∧D.rt v H'
noncomputable def PE (X:Cx) (e:Expr) (t:TE):Prop :=
  ∀ (pins:List (Addr × Obj)) (s:Shared) (σ:St) (H:Hp) (Q:VK),Inv X pins σ H s→t σ H Q→wpAny (model X.prog X.w) X.A (eval e X.env) (EP X pins σ Q) X.xe s
noncomputable def PT (X:Cx) (e:Expr) (t:TT):Prop :=
  ∀ (pins:List (Addr × Obj)) (s:Shared) (σ:St) (H:Hp) (Q:Bool→Hp→Prop),Inv X pins σ H s→t σ H Q→wpAny (model X.prog X.w) X.A (isTrue e X.env (eval e X.env)) (TP X pins σ Q) X.xe s
noncomputable def PW (X:Cx) (e:Expr) (t:TT):Prop :=
  ∀ (whole:Sem Value) (pins:List (Addr × Obj)) (s:Shared) (σ:St) (H:Hp) (Q:Bool→Hp→Prop),Inv X pins σ H s→t σ H Q→wpAny (model X.prog X.w) X.A (isTrue e X.env whole) (TP X pins σ Q) X.xe s
theorem PW.pt {X:Cx} {e:Expr} {t:TT} (h:PW X e t):PT X e t:=h _
noncomputable def PA (X:Cx) (es:List Expr) (t:TA):Prop :=
  ∀ (pos:Pos) (pins:List (Addr × Obj)) (s:Shared) (σ:St) (H:Hp) (Q:List V→Hp→Prop),Inv X pins σ H s→t σ H Q→wpAny (model X.prog X.w) X.A (spliced (backTo pos (starEach es X.env))) (AP X pins σ Q) X.xe s
noncomputable def PS (X:Cx) (st:Stmt) (t:TS):Prop :=
  ∀ (pins:List (Addr × Obj)) (s:Shared) (σ:St) (H:Hp) (D:Ends),Inv X pins σ H s→t D σ H→wpAny (model X.prog X.w) X.A (exec st X.env) (SP X pins D) X.xe s
noncomputable def PSs (X:Cx) (st:List Stmt) (t:TS):Prop :=
  ∀ (pins:List (Addr × Obj)) (s:Shared) (σ:St) (H:Hp) (D:Ends),Inv X pins σ H s→t D σ H→wpAny (model X.prog X.w) X.A (execs st X.env) (SP X pins D) X.xe s
theorem thn {α:Type} {t:Sem α} {Q Q':α→Shared→Prop} {M:Model} {A:Around} {E:Value→Shared→Prop} {s:Shared} (h:wpAny M A t Q E s) (hQ:∀ a s,Q a s→Q' a s):wpAny M A t Q' E s:=wpAny_mono h hQ fun _ _ x=>x
end L2
namespace L2
open PySem PySem.Spec PyProof.Rows
section
variable {X:Cx}
theorem bin {a b:Expr} {ta tb:TE} (ha:PE X a ta) (hb:PE X b tb) {pins:List (Addr × Obj)} {s:Shared} {σ:St} {H:Hp} {R:V→V→Hp→Prop} (I:Inv X pins σ H s) (h:ta σ H fun x H1=>tb σ H1 fun y H2=>R x y H2)
    {α:Type} {Q:α→Shared→Prop} {f:Value→Value→Sem α}
    (hf:∀ v u s2 x y H2,Inv X pins σ H2 s2→RelV x v→RelV y u→R x y H2→wpAny (model X.prog X.w) X.A (f v u) Q X.xe s2) :
    wpAny (model X.prog X.w) X.A (eval a X.env) (fun v s₁=>wpAny (model X.prog X.w) X.A (eval b X.env) (fun u s₂=>wpAny (model X.prog X.w) X.A (f v u) Q X.xe s₂) X.xe s₁) X.xe s:=by
  refine thn (ha pins s σ H _ I h) fun v s1 ⟨x,H1,I1,r1,q1⟩=>?_
  refine thn (hb pins s1 σ H1 _ I1 q1) fun u s2 ⟨y,H2,I2,r2,q2⟩=>?_
  exact hf v u s2 x y H2 I2 r1 r2 q2
noncomputable def tVar (i:Nat):TE:=fun σ H Q=>∃ v,σ[i]?=some (some v)∧Q v H
noncomputable def tC (v:V):TE:=fun _ H Q=>Q v H
theorem qgN {i:Nat} {x:Str} {pos:Pos} (hN:X.N[i]?=some x) (hv:Vis X.env.scope x) (hd:(x == ("__debug__":Str))=false:=by decide) (hcd:(x == ("__classdict__":Str))=false:=by decide):PE X (.Name x pos) (tVar i):=by
  intro pins s σ H Q I h
  obtain ⟨v,e,h⟩:=h
  obtain ⟨m,hn,hl⟩:=I.loc
  obtain ⟨u,r,l⟩:=hl i x v hN e hv
  have fin:EP X pins σ Q u s:=⟨v,H,I,r,h⟩
  rcases l with ⟨hk,hm⟩ | ⟨hk,c,hc,hcell⟩
  · exact wpAny_Name (wpAny_loadName_local I.ok.kind hk hn hm fin) hd
  · rcases hk with hk | hk
    · exact wpAny_Name (wpAny_loadName_cell I.ok.kind hk hc hcell fin) hd
    · exact wpAny_Name (wpAny_loadName_free I.ok.kind hk hc hcell fin hcd) hd
theorem qgO {i j pos}:PE X (.Constant (.int i) j pos) (tC (.int i)):=fun _ _ _ H _ I h=>wpAny_Constant_int ⟨.int i,H,I.tok _,⟨_,rfl⟩,h⟩
theorem qdh {b j pos}:PE X (.Constant (.bool b) j pos) (tC (.bl b)):=fun _ _ _ H _ I h=>Constant_bool ⟨.bl b,H,I,rfl,h⟩
theorem qgP {j pos}:PE X (.Constant .none j pos) (tC .non):=fun _ _ _ H _ I h=>Constant_none ⟨.non,H,I,rfl,h⟩
theorem qgQ {x j pos}:PE X (.Constant (.str x) j pos) (tC (.str x)):=fun _ _ _ H _ I h=>Calls.Constant_str ⟨.str x,H,I.tok _,⟨_,rfl⟩,h⟩
noncomputable def Gl (X:Cx) (x:Str):Prop:=X.env.kindOf x=some .globalImplicit
theorem yt {E:Value→Shared→Prop} {pins:List (Addr × Obj)} {s:Shared} {σ:St} {H:Hp} {x:Str} {u:Value} {pos:Pos} {Q:Value→Shared→Prop} (I:Inv X pins σ H s) (hg:Gl X x) (hm:X.mg x=some u) (h:Q u s)
    (hd:(x == ("__debug__":Str))=false:=by decide):wpAny (model X.prog X.w) X.A (eval (.Name x pos) X.env) Q E s :=
  Calls.Name_function_global I.ok.kind hg (Calls.loadGlobal_global (by rw [I.ok.glob];exact I.mod.glob.keeps I.bk) hm h) hd
theorem yh {E:Value→Shared→Prop} {pins:List (Addr × Obj)} {s:Shared} {σ:St} {H:Hp} {x:Str} {u:Value} {pos:Pos} {Q:Value→Shared→Prop} (I:Inv X pins σ H s) (hg:Gl X x) (hm:X.mg x=none) (hv:bootBuiltins x=some u) (h:Q u s)
    (hn:x≠"__name__":=by decide) (hd:(x == ("__debug__":Str))=false:=by decide):wpAny (model X.prog X.w) X.A (eval (.Name x pos) X.env) Q E s:=by
  obtain ⟨mb,h1,h2⟩:=I.mod.blt
  exact Calls.Name_function_global I.ok.kind hg (Calls.loadGlobal_builtin (by rw [I.ok.glob];exact I.mod.glob.keeps I.bk) hm (by rw [I.ok.blt];exact h1.keeps I.bk) ((h2 x hn).trans hv) h) hd
theorem jW {x:Str} {v:V} {u:Value} {pos:Pos} (hg:Gl X x) (hm:X.mg x=some u) (r:RelV v u) (hd:(x == ("__debug__":Str))=false:=by decide):PE X (.Name x pos) (tC v) :=
  fun _ _ _ H _ I h=>yt I hg hm ⟨v,H,I,r,h⟩ hd
theorem qbJ {x:Str} {v:V} {u:Value} {pos:Pos} (hg:Gl X x) (hm:X.mg x=none) (hv:bootBuiltins x=some u) (r:RelV v u) (hn:x≠"__name__":=by decide) (hd:(x == ("__debug__":Str))=false:=by decide):PE X (.Name x pos) (tC v) :=
  fun _ _ _ H _ I h=>yh I hg hm hv ⟨v,H,I,r,h⟩ hn hd
variable {a b:Expr} {ta tb:TE} {pos:Pos}
variable {tA tB':TT} {rest:List Expr}
noncomputable def tAnd (t u:TT):TT:=fun σ H Q=>t σ H fun c H1=>if c=true then u σ H1 Q else Q false H1
noncomputable def tOr (t u:TT):TT:=fun σ H Q=>t σ H fun c H1=>if c=true then Q true H1 else u σ H1 Q
noncomputable def tNot (t:TT):TT:=fun σ H Q=>t σ H fun c H1=>Q (!c) H1
theorem qfd (ha:PT X a tA):PW X (.BoolOp .And [a] pos) tA:=by
  intro wh pins s σ H Q I h
  refine isTrue_and (thn (ha pins s σ H Q I h) fun c s1 e=>?_)
  cases c with
  | true=>exact isTrue_and_nil e
  | false=>exact e
theorem qgR (ha:PT X a tA):PW X (.BoolOp .Or [a] pos) tA:=by
  intro wh pins s σ H Q I h
  refine isTrue_or (thn (ha pins s σ H Q I h) fun c s1 e=>?_)
  cases c with
  | false=>exact isTrue_or_nil e
  | true=>exact e
theorem qgS (ha:PT X a tA) (hb:PW X (.BoolOp .And (b::rest) pos) tB'):PW X (.BoolOp .And (a::b::rest) pos) (tAnd tA tB'):=by
  intro wh pins s σ H Q I h
  refine isTrue_and (thn (ha pins s σ H _ I h) fun c s1 ⟨H1,I1,q1⟩=>?_)
  cases c with
  | true=>exact hb wh pins s1 σ H1 Q I1 q1
  | false=>exact ⟨H1,I1,q1⟩
theorem qif (ha:PT X a tA) (hb:PW X (.BoolOp .Or (b::rest) pos) tB'):PW X (.BoolOp .Or (a::b::rest) pos) (tOr tA tB'):=by
  intro wh pins s σ H Q I h
  refine isTrue_or (thn (ha pins s σ H _ I h) fun c s1 ⟨H1,I1,q1⟩=>?_)
  cases c with
  | true=>exact ⟨H1,I1,q1⟩
  | false=>exact hb wh pins s1 σ H1 Q I1 q1
theorem qgT (ha:PT X a tA):PT X (.UnaryOp .Not a pos) (tNot tA):=by
  intro pins s σ H Q I h
  exact isTrue_not (ha pins s σ H (fun c H1=>Q (!c) H1) I h)
noncomputable def tAndV (ta tb:TE):TE:=fun σ H Q=>ta σ H fun x H1=>∃ c,x=.bl c∧if c=true then tb σ H1 Q else Q (.bl false) H1
noncomputable def tOrV (ta tb:TE):TE:=fun σ H Q=>ta σ H fun x H1=>∃ c,x=.bl c∧if c=true then Q (.bl true) H1 else tb σ H1 Q
noncomputable def tNotV (ta:TE):TE:=fun σ H Q=>ta σ H fun x H1=>∃ c,x=.bl c∧Q (.bl (!c)) H1
theorem qdi {op} {t:TE} (h:PE X a t):PE X (.BoolOp op [a] pos) t:=fun pins s σ H Q I hw=>BoolOp_one (h pins s σ H Q I hw)
theorem qgU (ha:PE X a ta) (hb:PE X (.BoolOp .And (b::rest) pos) tb):PE X (.BoolOp .And (a::b::rest) pos) (tAndV ta tb):=by
  intro pins s σ H Q I h
  refine BoolOp_and (thn (ha pins s σ H _ I h) fun v s1 ⟨x,H1,I1,r1,q1⟩=>?_)
  obtain ⟨c,rfl,q1⟩:=q1
  cases r1
  refine wpAny_truthy_bool ?_
  cases c with
  | true=>exact hb pins s1 σ H1 Q I1 q1
  | false=>exact ⟨.bl false,H1,I1,rfl,q1⟩
theorem qig (ha:PE X a ta) (hb:PE X (.BoolOp .Or (b::rest) pos) tb):PE X (.BoolOp .Or (a::b::rest) pos) (tOrV ta tb):=by
  intro pins s σ H Q I h
  refine BoolOp_or (thn (ha pins s σ H _ I h) fun v s1 ⟨x,H1,I1,r1,q1⟩=>?_)
  obtain ⟨c,rfl,q1⟩:=q1
  cases r1
  refine wpAny_truthy_bool ?_
  cases c with
  | false=>exact hb pins s1 σ H1 Q I1 q1
  | true=>exact ⟨.bl true,H1,I1,rfl,q1⟩
theorem qgV (ha:PE X a ta):PE X (.UnaryOp .Not a pos) (tNotV ta):=by
  intro pins s σ H Q I h
  refine UnaryOp_ (thn (ha pins s σ H _ I h) fun v s1 ⟨x,H1,I1,r1,q1⟩=>?_)
  obtain ⟨c,rfl,q1⟩:=q1
  cases r1
  exact not_of (wpAny_truthy_bool ⟨.bl (!c),H1,I1,rfl,q1⟩)
end
end L2
namespace L2
open PySem PySem.Spec PyProof.Rows
noncomputable def SqL (K:PySem.W.Frag) (H:Hp) (a:Addr) (xs:List V):Prop :=
  Rd H a (.lst xs) ∨
    ∃ (o:Obj) (its:Array Value) (n:Nat),K.lookup a=some o∧o.cls=.type "list"∧o.dict=none∧o.data=.seq its n∧its.size≤sizeLine∧Vals xs its.toList
noncomputable def SqT (K:PySem.W.Frag) (H:Hp) (a:Addr) (xs:List V):Prop :=
  Rd H a (.tup xs) ∨
    ∃ (o:Obj) (its:Array Value) (n:Nat),K.lookup a=some o∧o.cls=.type "tuple"∧o.data=.seq its n∧its.size≤sizeLine∧Vals xs its.toList
noncomputable def absV:Value→Option V
  | .none=>some .non
  | .bool b=>some (.bl b)
  | .int i _=>some (.int i)
  | .str x _=>some (.str x)
  | .bytes b _=>some (.byt b)
  | .float b _=>some (.flt b)
  | .ref a=>some (.ref a)
  | .type n=>some (.ty n)
  | _=>none
theorem RelV.abs {x:V} {u:Value} (r:RelV x u):absV u=some x:=by
  cases x with
  | non=>cases r;rfl
  | bl _=>cases r;rfl
  | int _=>obtain ⟨t,rfl⟩:=r;rfl
  | str _=>obtain ⟨t,rfl⟩:=r;rfl
  | byt _=>obtain ⟨t,rfl⟩:=r;rfl
  | flt _=>obtain ⟨t,rfl⟩:=r;rfl
  | ref _=>cases r;rfl
  | ty _=>cases r;rfl
theorem RelV.inj {x y:V} {u:Value} (r:RelV x u) (q:RelV y u):x=y:=Option.some.inj (r.abs.symm.trans q.abs)
theorem Vals.inj:∀ {xs ys:List V} {us:List Value},Vals xs us→Vals ys us→xs=ys
  | _,_,_,.nil,.nil=>rfl
  | _,_,_,.cons r t,.cons r' t'=>by rw [r.inj r',Vals.inj t t']
section
variable {X:Cx} {pins:List (Addr × Obj)} {σ:St} {H:Hp} {s:Shared} {a:Addr} {xs ys:List V}
theorem Inv.list (I:Inv X pins σ H s) (h:SqL X.K H a xs):∃ its:List Value,Vals xs its∧PlainL s.heap a its.toArray∧xs.length≤sizeLine:=by
  rcases h with h | ⟨o,its,n,hk,hc,hd,hs,hz,r⟩
  · obtain ⟨z,its,n,r,e⟩:=h.ok I.hok
    exact ⟨its,r,⟨_,n,e,rfl,rfl,rfl⟩,z⟩
  · refine ⟨its.toList,r,⟨o,n,I.kIn a o hk,hc,hd,by simpa using hs⟩,?_⟩
    have e:=r.length
    simp only [Array.length_toList] at e
    lia
theorem Inv.tuple (I:Inv X pins σ H s) (h:SqT X.K H a xs):∃ its:List Value,Vals xs its∧IsTup s.heap a its.toArray∧xs.length≤sizeLine:=by
  rcases h with h | ⟨o,its,n,hk,hc,hs,hz,r⟩
  · obtain ⟨z,its,r,p,_⟩:=h.ok I.hok
    exact ⟨its,r,p,z⟩
  · refine ⟨its.toList,r,⟨o,I.kIn a o hk,hc,n,by simpa using hs⟩,?_⟩
    have e:=r.length
    simp only [Array.length_toList] at e
    lia
theorem Inv.list_inj (I:Inv X pins σ H s) (h:SqL X.K H a xs) (h':SqL X.K H a ys):xs=ys:=by
  obtain ⟨its,r,⟨o,n,e,_,_,d⟩,_⟩:=I.list h
  obtain ⟨its',r',⟨o',n',e',_,_,d'⟩,_⟩:=I.list h'
  rw [e] at e';cases e'
  rw [d] at d'
  injection d' with d1 _
  have:its=its':=by simpa using congrArg Array.toList d1
  subst this
  exact r.inj r'
theorem Inv.tuple_inj (I:Inv X pins σ H s) (h:SqT X.K H a xs) (h':SqT X.K H a ys):xs=ys:=by
  obtain ⟨its,r,⟨o,e,_,n,d⟩,_⟩:=I.tuple h
  obtain ⟨its',r',⟨o',e',_,n',d'⟩,_⟩:=I.tuple h'
  rw [e] at e';cases e'
  rw [d] at d'
  injection d' with d1 _
  have:its=its':=by simpa using congrArg Array.toList d1
  subst this
  exact r.inj r'
end
noncomputable abbrev Cx.wish (X:Cx) (E:Value→Shared→Prop):Cx:={ X with xe:=E }
noncomputable abbrev Cx.nox (X:Cx):Cx:=X.wish fun _ _=>False
theorem Cx.Ok.wish {X:Cx} (ok:X.Ok) (E:Value→Shared→Prop):(X.wish E).Ok :=
  ⟨ok.mod,ok.kind,ok.glob,ok.blt,ok.above,ok.inj,ok.has,ok.cab,ok.hd,ok.frames,ok.stk,ok.exf,ok.bs,ok.bsz,ok.noex,ok.exfs,ok.funs,ok.frf,ok.tab⟩
theorem Cx.Ok.unwish {X:Cx} {E:Value→Shared→Prop} (ok:(X.wish E).Ok):X.Ok :=
  ⟨ok.mod,ok.kind,ok.glob,ok.blt,ok.above,ok.inj,ok.has,ok.cab,ok.hd,ok.frames,ok.stk,ok.exf,ok.bs,ok.bsz,ok.noex,ok.exfs,ok.funs,ok.frf,ok.tab⟩
section
variable {X:Cx} {pins:List (Addr × Obj)} {σ:St} {H:Hp} {s:Shared} {E:Value→Shared→Prop}
theorem Inv.wish (I:Inv X pins σ H s) (E:Value→Shared→Prop):Inv (X.wish E) pins σ H s:=⟨I.ok.wish E,I.os,I.bare,I.base,I.loc,I.cell,I.free,I.freeC,I.pin,I.hok,I.len⟩
theorem Inv.unwish (I:Inv (X.wish E) pins σ H s):Inv X pins σ H s:=⟨I.ok.unwish,I.os,I.bare,I.base,I.loc,I.cell,I.free,I.freeC,I.pin,I.hok,I.len⟩
theorem SP.unwish {D:Ends} {f:Flow} {s':Shared} (h:SP (X.wish E) pins D f s'):SP X pins D f s':=by
  cases f with
  | next=>obtain ⟨σ',H',I,q⟩:=h;exact ⟨σ',H',I.unwish,q⟩
  | brk=>obtain ⟨σ',H',I,q⟩:=h;exact ⟨σ',H',I.unwish,q⟩
  | cont=>obtain ⟨σ',H',I,q⟩:=h;exact ⟨σ',H',I.unwish,q⟩
  | ret u=>obtain ⟨v,σ',H',I,r,q⟩:=h;exact ⟨v,σ',H',I.unwish,r,q⟩
theorem PT.nox {e:Expr} {t:TT} (h:PT X.nox e t):PT X e t:=fun pins s σ H Q I hw =>
  wpAny_mono (h pins s σ H Q (I.wish _) hw) (fun _ _ ⟨H',I',q⟩=>⟨H',I'.unwish,q⟩) fun _ _ z=>False.elim z
theorem PSs.nox {st:List Stmt} {t:TS} (h:PSs X.nox st t):PSs X st t:=fun pins s σ H D I hw =>
  wpAny_mono (h pins s σ H D (I.wish _) hw) (fun _ _ q=>q.unwish) fun _ _ z=>False.elim z
end
section
variable {X:Cx} {st:Stmt} {rest:List Stmt} {t u:TS} {e:Expr} {te:TE} {pos:Pos}
noncomputable def tNext:TS:=fun D σ H=>D.nx σ H
noncomputable def tSeq (t u:TS):TS:=fun D σ H=>t { D with nx:=u D } σ H
theorem qbK:PSs X [] tNext:=fun _ _ σ H _ I h=>wpAny_execs_nil ⟨σ,H,I,h⟩
theorem qau (h1:PS X st t) (h2:PSs X rest u):PSs X (st::rest) (tSeq t u):=by
  intro pins s σ H D I h
  refine wpAny_execs_cons (thn (h1 pins s σ H { D with nx:=u D } I h) fun f s1 q=>?_)
  cases f with
  | next =>
    obtain ⟨σ',H',I',q⟩:=q
    exact h2 pins s1 σ' H' D I' q
  | ret v=>exact q
  | brk=>exact q
  | cont=>exact q
theorem Inv.quiet {pins:List (Addr × Obj)} {σ:St} {H:Hp} {s:Shared} (I:Inv X pins σ H s):interactive X.env=false:=by simp [interactive,I.ok.kind]
noncomputable def tDrop (te:TE):TS:=fun D σ H=>te σ H fun _ H1=>D.nx σ H1
theorem qbL (he:PE X e te) (hs:swapsWith e none pos.line X.env=pure false:=by rfl):PS X (.Expr e pos) (tDrop te):=by
  intro pins s σ H D I h
  exact wpAny_Expr_any (thn (he pins s σ H _ I h) fun v s1 ⟨x,H1,I1,r1,q1⟩=>⟨σ,H1,I1,q1⟩) I.quiet hs
noncomputable def tRet (te:TE):TS:=fun D σ H=>te σ H D.rt
theorem qgW (he:PE X e te):PS X (.Return (some e) pos) (tRet te):=by
  intro pins s σ H D I h
  exact wpAny_Return_some (thn (he pins s σ H _ I h) fun v s1 ⟨x,H1,I1,r1,q1⟩=>⟨x,σ,H1,I1,r1,q1⟩)
noncomputable def tIfS (c:TT) (t u:TS):TS:=fun D σ H=>c σ H fun b H1=>if b=true then t D σ H1 else u D σ H1
theorem qgm {c:Expr} {a b:List Stmt} {tc:TT} (hc:PT X c tc) (ha:PSs X a t) (hb:PSs X b u):PS X (.If c a b pos) (tIfS tc t u):=by
  intro pins s σ H D I h
  refine wpAny_If (thn (hc pins s σ H _ I h) fun d s1 ⟨H1,I1,q1⟩=>?_)
  cases d with
  | true=>exact ha pins s1 σ H1 D I1 q1
  | false=>exact hb pins s1 σ H1 D I1 q1
noncomputable def tNever:TS:=fun _ _ _=>False
theorem qdj:PS X st tNever:=fun _ _ _ _ _ _ h=>h.elim
end
noncomputable abbrev TG:=V→St→Hp→(St→Hp→Prop)→Prop
noncomputable abbrev TGs:=List V→St→Hp→(St→Hp→Prop)→Prop
noncomputable def PG (X:Cx) (target:Expr) (t:TG):Prop :=
  ∀ (pins:List (Addr × Obj)) (s:Shared) (σ:St) (H:Hp) (v:V) (u:Value) (Q:St→Hp→Prop),Inv X pins σ H s→RelV v u→t v σ H Q →
    wpAny (model X.prog X.w) X.A (assign target X.env u) (fun _ s'=>∃ σ' H',Inv X pins σ' H' s'∧Q σ' H') X.xe s
noncomputable def PGs (X:Cx) (ts:List Expr) (t:TGs):Prop :=
  ∀ (pins:List (Addr × Obj)) (s:Shared) (σ:St) (H:Hp) (vs:List V) (us:List Value) (Q:St→Hp→Prop),Inv X pins σ H s→Vals vs us→t vs σ H Q →
    wpAny (model X.prog X.w) X.A (assignInOrder ((assignEach ts X.env).map (·.2)) us) (fun _ s'=>∃ σ' H',Inv X pins σ' H' s'∧Q σ' H') X.xe s
noncomputable abbrev TSet:=V→V→V→Hp→(Hp→Prop)→Prop
noncomputable def PSet (X:Cx) (t:TSet):Prop :=
  ∀ (pins:List (Addr × Obj)) (s:Shared) (σ:St) (H:Hp) (o i v:V) (ov iv u:Value) (Q:Hp→Prop),Inv X pins σ H s→RelV o ov→RelV i iv→RelV v u→t o i v H Q →
    wpAny (model X.prog X.w) X.A (setItem ov iv u) (fun _ s'=>∃ H',Inv X pins σ H' s'∧Q H') X.xe s
section
variable {X:Cx} {pos:Pos}
noncomputable def gName (i:Nat):TG:=fun v σ H Q=>Q (σ.set i (some v)) H
theorem qfe {i:Nat} {x:Str} (hN:X.N.Nodup) (hi:X.N[i]?=some x) (hx:Loc X.env.scope x) (hf:X.fn x=true∨X.env.scope.names.lookup x=some .local:=by first | exact .inl rfl | exact .inr rfl | assumption):PG X (.Name x pos) (gName i):=by
  intro pins s σ H v u Q I r h
  exact wpAny_assign_Name (zG I hN hi hx r (fun s' I'=>⟨_,H,I',h⟩) hf)
noncomputable def gNil:TGs:=fun vs σ H Q=>vs=[]∧Q σ H
noncomputable def gCons (t:TG) (u:TGs):TGs:=fun vs σ H Q=>∃ v r,vs=v::r∧t v σ H fun σ' H'=>u r σ' H' Q
theorem qff:PGs X [] gNil:=by
  intro pins s σ H vs us Q I r h
  obtain ⟨e,h⟩:=h
  subst e
  cases r
  exact assignInOrder_nil ⟨σ,H,I,h⟩
theorem qdk {e:Expr} {es:List Expr} {t:TG} {u:TGs} (h1:PG X e t) (h2:PGs X es u)
    (hs:(assignEach (e::es) X.env).map (·.2)=assign e X.env::(assignEach es X.env).map (·.2):=by rfl):PGs X (e::es) (gCons t u):=by
  intro pins s σ H vs us Q I r h
  obtain ⟨v,vr,e1,h⟩:=h
  subst e1
  cases r with
  | cons r rr =>
    rw [hs]
    refine assignInOrder_cons (thn (h1 pins s σ H _ _ _ I r h) fun _ s1 ⟨σ1,H1,I1,q1⟩=>?_)
    exact h2 pins s1 σ1 H1 _ _ Q I1 rr q1
noncomputable def gTup (K:PySem.W.Frag) (n:Nat) (t:TGs):TG:=fun v σ H Q=>∃ a xs,v=.ref a∧SqT K H a xs∧xs.length=n∧t xs σ H Q
theorem qgX {es:List Expr} {k:Nat} {t:TGs} {n:Nat} (hc:X.calm=true) (h:PGs X es t)
    (hn:(assignEach es X.env).length=n:=by rfl) (hst:(assignEach es X.env).findIdx? (·.1)=none:=by rfl):PG X (.Tuple es k pos) (gTup X.K n t):=by
  intro pins s σ H v u Q I r hw
  obtain ⟨a,xs,e1,hq,hl,hw⟩:=hw
  subst e1
  cases r
  obtain ⟨its,rv,ht,hz⟩:=I.tuple hq
  refine assign_Tuple_tuple (I.ok.hd hc) ht (by simp [hn,← hl,rv.length]) hst fun h' hx=>?_
  have I1:Inv X pins σ H { s with heap:=h' }:=I.kept (t':=s.toks) fun b o e=>hx b o (Nat.ne_of_lt (Heap.lt_size e)) e
  exact h pins _ σ H xs _ Q I1 (by simpa using rv) hw
noncomputable def gSub (to ti:TE) (t:TSet):TG:=fun v σ H Q=>to σ H fun o H1=>ti σ H1 fun i H2=>t o i v H2 fun H3=>Q σ H3
theorem qgY {o i:Expr} {to ti:TE} {t:TSet} (ho:PE X o to) (hi:PE X i ti) (hs:PSet X t)
    (ha:∀ v,assign (.Subscript o i pos) X.env v=(do
      let ov ← holding [v] (eval o X.env)
      let iv ← holding [v,ov] (eval i X.env)
      standAt pos
      holding [v,ov,iv] (setItem ov iv v)
      release [v,ov,iv] []):=by intro _;rfl):PG X (.Subscript o i pos) (gSub to ti t):=by
  intro pins s σ H v u Q I r h
  rw [ha]
  refine wpAny_bind (wpAny_holding (thn (ho pins s σ H _ I h) fun ov s1 ⟨x,H1,I1,r1,q1⟩=>?_))
  refine wpAny_bind (wpAny_holding (thn (hi pins s1 σ H1 _ I1 q1) fun iv s2 ⟨y,H2,I2,r2,q2⟩=>?_))
  refine wpAny_bind (wpAny_standAt (wpAny_bind (wpAny_holding (thn (hs pins s2 σ H2 x y v ov iv u _ I2 r1 r2 r q2) fun _ s3 ⟨H3,I3,q3⟩=>?_))))
  exact wpAny_release ⟨σ,H3,I3,q3⟩
noncomputable def tAsg (te:TE) (g:TG):TS:=fun D σ H=>te σ H fun x H1=>g x σ H1 D.nx
theorem qgZ {tg e:Expr} {te:TE} {g:TG} (he:PE X e te) (hg:PG X tg g) (hs:swapsWithSole [tg] e pos.line X.env=pure false:=by rfl) (hw:swappedStores [tg] e X.env=pure none:=by rfl)
    (h1:(assignEach [tg] X.env).map (·.2)=[assign tg X.env]:=by rfl):PS X (.Assign [tg] e pos) (tAsg te g):=by
  intro pins s σ H D I h
  refine wpAny_Assign_stores (thn (he pins s σ H _ I h) fun v s1 ⟨x,H1,I1,r1,q1⟩=>?_) hs hw
  rw [h1]
  exact thn (hg pins s1 σ H1 x v _ I1 r1 q1) fun _ s2 q=>q
theorem qdl {i:Nat} {x:Str} {e:Expr} {te:TE} {pos':Pos} (hN:X.N.Nodup) (hi:X.N[i]?=some x) (hx:Loc X.env.scope x) (he:PE X e te) (hs:swapsWith e (some (.Name x pos')) pos.line X.env=pure false:=by rfl) (hf:X.fn x=true∨X.env.scope.names.lookup x=some .local:=by first | exact .inl rfl | exact .inr rfl | assumption) :
    PS X (.Assign [.Name x pos'] e pos) (tAsg te (gName i)):=by
  intro pins s σ H D I h
  refine wpAny_Assign_Name (thn (he pins s σ H _ I h) fun v s1 ⟨y,H1,I1,r1,q1⟩=>?_) hs
  exact zG I1 hN hi hx r1 (fun s2 I2=>⟨_,H1,I2,q1⟩) hf
noncomputable def tPar (i j:Nat) (ta:TA):TS:=fun D σ H=>ta σ H fun vs H1=>∃ v w,vs=[v,w]∧D.nx ((σ.set i (some v)).set j (some w)) H1
theorem qg0 {i j:Nat} {x y:Str} {a b:Expr} {ta:TA} {px py pt:Pos} {kt k2 pt2} (hc:X.calm=true) (hN:X.N.Nodup) (hi:X.N[i]?=some x) (hj:X.N[j]?=some y) (hij:i≠j)
    (hx:X.env.scope.names.lookup x=some .local) (hy:X.env.scope.names.lookup y=some .local) (ha:PA X [a,b] ta)
    (hw:swappedStores [.Tuple [.Name x px,.Name y py] kt pt] (.Tuple [a,b] k2 pt2) X.env=pure (some [x,y]))
    (hs:swapsWithSole [.Tuple [.Name x px,.Name y py] kt pt] (.Tuple [a,b] k2 pt2) pos.line X.env=pure false:=by rfl) :
    PS X (.Assign [.Tuple [.Name x px,.Name y py] kt pt] (.Tuple [a,b] k2 pt2) pos) (tPar i j ta):=by
  intro pins s σ H D I h
  rw [exec_Assign_arm]
  refine wpAny_bind (wpAny_standAt ?_)
  rw [hs]
  refine wpAny_bind (wpAny_pure ?_)
  rw [if_neg (by decide)]
  refine wpAny_bind (Tuple_ (thn (ha _ pins s σ H _ I h) fun us s1 ⟨vs,H1,I1,r1,q1⟩=>?_))
  obtain ⟨v,w,e1,q1⟩:=q1
  subst e1
  obtain ⟨u1,u2,rfl,rv,rw'⟩:∃ u1 u2,us=[u1,u2]∧RelV v u1∧RelV w u2:=by
    cases r1 with
    | cons p q =>
      cases q with
      | cons p' q' =>
        cases q'
        exact ⟨_,_,rfl,p,p'⟩
  refine wpAny_newObj_type ?_ (by show 2≤sizeLine;decide)
  have I2:Inv X pins σ H1 { s1 with heap:=s1.heap.push { cls:=.type "tuple",data:=.seq [u1,u2].toArray } }:=I1.kept (t':=s1.toks) fun b o e=>Heap.get?_push_of_some _ e
  rw [hw]
  refine wpAny_bind (wpAny_pure ?_)
  show wpAny (model X.prog X.w) X.A (do rule "assign.swapped-stores";let items ← unpackItems (.ref s1.heap.objs.size) 2 none;assignInOrder [fun v=>bindName X.env y v,fun v=>bindName X.env x v] items.reverse;pure Flow.next) _ _ _
  refine wpAny_bind (wpAny_rule (wpAny_bind (unpackItems_tuple (items:=#[u1,u2]) (I.ok.hd hc) (IsTup.new s1.heap _) fun h' hx'=>?_)))
  have I3:=I2.kept (h':=h') (t':=s1.toks) fun b o e=>hx' b o (Nat.ne_of_lt (Heap.lt_size e)) e
  show wpAny _ _ (assignInOrder [fun v=>bindName X.env y v,fun v=>bindName X.env x v] [u2,u1] >>= fun _=>pure Flow.next) _ _ _
  refine wpAny_bind (assignInOrder_cons (wpAny_bindName (zG I3 hN hj (.inl hy) rw' (fun s2 I4=>?_) (.inr hy))))
  refine assignInOrder_cons (wpAny_bindName (zG I4 hN hi (.inl hx) rv (fun s3 I5=>assignInOrder_nil (wpAny_pure ?_)) (.inr hx)))
  rw [List.set_comm _ _ (Ne.symm hij)] at I5
  exact ⟨_,H1,I5,q1⟩
end
section
variable {X:Cx} {pos:Pos}
noncomputable def tWhile (c:TT) (tb:TS):TS:=fun D σ H=>∃ W:Nat→St→Hp→Prop,(∃ m,W m σ H)∧∀ m σ H,W m σ H →
  c σ H fun b H1=>if b=true then ∃ N:St→Hp→Prop,(∀ σ' H',N σ' H'→∃ m',m'<m∧W m' σ' H')∧tb { D with nx:=N,ct:=N,bk:=D.nx } σ H1 else D.nx σ H1
theorem qdm {c:Expr} {body:List Stmt} {tc:TT} {tb:TS} (hp:PassesOwn (model X.prog X.w) X.A X.env X.xe) (hc:PT X c tc) (hb:PSs X body tb):PS X (.While c body [] pos) (tWhile tc tb):=by
  intro pins s σ H D I h
  obtain ⟨W,⟨m0,w0⟩,turn⟩:=h
  refine wpAny_While (codeAny_whileLoop (fun n s'=>∃ σ' H',Inv X pins σ' H' s'∧W n σ' H') ?_ m0 ⟨σ,H,I,w0⟩)
  rintro n s1 ⟨σ1,H1,I1,w1⟩
  refine wpAny_passesOwn hp (thn (hc pins s1 σ1 H1 _ I1 (turn n σ1 H1 w1)) fun b s2 ⟨H2,I2,q2⟩=>?_)
  cases b with
  | true =>
    obtain ⟨N,hN,q2⟩:=q2
    rw [if_pos rfl]
    refine wpAny_passesOwn hp (thn (hb pins s2 σ1 H2 _ I2 q2) fun f s3 q3=>?_)
    cases f with
    | next =>
      obtain ⟨σ3,H3,I3,n3⟩:=q3
      obtain ⟨m',hm,w3⟩:=hN σ3 H3 n3
      exact ⟨m',hm,σ3,H3,I3,w3⟩
    | cont =>
      obtain ⟨σ3,H3,I3,n3⟩:=q3
      obtain ⟨m',hm,w3⟩:=hN σ3 H3 n3
      exact ⟨m',hm,σ3,H3,I3,w3⟩
    | brk=>exact q3
    | ret v=>exact q3
  | false =>
    rw [if_neg Bool.false_ne_true]
    exact wpAny_execs_nil ⟨σ1,H2,I2,q2⟩
end
structure It where
  go:Nat→Hp→Prop
  yld:Nat→Hp→V→Hp→Prop
  stop:Nat→Hp→Prop
noncomputable def FpOk (X:Cx) (pins:List (Addr × Obj)) (H:Hp) (b:Addr):Prop :=
  H b=none∧b≠X.env.locals∧b ∉ X.fs∧(b∈X.ex∨X.s₀.heap.objs.size≤b)∧(∀ x c,X.env.cells.lookup x=some c→c≠b)∧∀ p∈X.pn++pins,p.1≠b
theorem Inv.fpOk {X:Cx} {pins:List (Addr × Obj)} {σ:St} {H H':Hp} {s:Shared} {b:Addr} (I:Inv X pins σ H s) (hb:s.heap.objs.size≤b) (hn:H' b=none):FpOk X pins H' b:=by
  refine ⟨hn,Nat.ne_of_gt (Nat.lt_of_lt_of_le I.lt hb),I.nofs hb,.inr (Nat.le_trans I.sz hb),fun x c e z=>?_,fun p hp z=>?_⟩
  · obtain ⟨v,q⟩:=I.cell x c e
    exact absurd (Nat.lt_of_lt_of_le q.lt (by rw [z];exact hb)) (Nat.lt_irrefl _)
  · exact absurd (Nat.lt_of_lt_of_le (Heap.lt_size (I.pin p hp).1) (by rw [z];exact hb)) (Nat.lt_irrefl _)
structure Turn (P:Program) (w:World) (K:PySem.W.Frag) (tg:Expr) (J:It) (fp:List Addr) (it:Addr) (tn:Nat→Heap→Prop):Prop where
  mem:it∈fp
  obj:∀ i h,tn i h→∀ b∈fp,∃ o,h.get? b=some o∧∀ v,o.data≠.cell v
  keep:∀ i h h',tn i h→(∀ b∈fp,∀ o,h.get? b=some o→h'.get? b=some o)→tn i h'
  item:∀ (X:Cx),X.prog=P→X.w=w→X.K=K→X.calm=true→∀ (i:Nat) (pins:List (Addr × Obj)) (s:Shared) (σ:St) (H:Hp) (E:Value→Shared→Prop),Inv X pins σ H s→(∀ b∈fp,FpOk X pins H b)→tn i s.heap→J.go i H →
    wpAny (model P w) X.A (pyNext (.ref it)) (fun r s1=>∃ u,r=some u ∧
      wpAny (model P w) X.A (letOwnedTupleGo tg (.ref it) u) (fun _ s2=>∃ x H',Inv X pins σ H' s2∧RelV x u∧J.yld i H x H'∧tn (i+1) s2.heap∧∀ b∈fp,H' b=none) E s1) E s
  done:∀ (X:Cx),X.prog=P→X.w=w→X.K=K→X.calm=true→∀ (i:Nat) (pins:List (Addr × Obj)) (s:Shared) (σ:St) (H:Hp) (E:Value→Shared→Prop),Inv X pins σ H s→(∀ b∈fp,FpOk X pins H b)→tn i s.heap→J.stop i H →
    wpAny (model P w) X.A (pyNext (.ref it)) (fun r s1=>r=none∧Inv X pins σ H s1) E s
  self:∀ (A:Around) (i:Nat) (s:Shared) (Q:Value→Shared→Prop) (E:Value→Shared→Prop),tn i s.heap→Q (.ref it) s→wpAny (model P w) A (pyIter (.ref it)) Q E s
noncomputable abbrev TI:=St→Hp→(It→Hp→Prop)→Prop
noncomputable def PIE (X:Cx) (pins:List (Addr × Obj)) (σ:St) (tg:Expr) (R:It→Hp→Prop) (itv:Value) (s2:Shared):Prop :=
  ∃ (it:Addr) (fp:List Addr) (tn:Nat→Heap→Prop) (J:It) (H':Hp),itv=.ref it∧Inv X pins σ H' s2∧Turn X.prog X.w X.K tg J fp it tn∧tn 0 s2.heap∧(∀ b∈fp,FpOk X pins H' b)∧R J H'
noncomputable def PI (X:Cx) (tg iter:Expr) (wi:TI):Prop :=
  ∀ (pins:List (Addr × Obj)) (s:Shared) (σ:St) (H:Hp) (R:It→Hp→Prop),Inv X pins σ H s→wi σ H R →
    wpAny (model X.prog X.w) X.A (eval iter X.env) (fun v s1=>wpAny (model X.prog X.w) X.A (pyIter v) (PIE X pins σ tg R) X.xe s1) X.xe s
theorem qdn {M:Model} {A:Around} {E:Value→Shared→Prop} {s:Shared} {tg:Expr} {it:Addr} {u:Value} {o:Obj} {n:String} {vs:Array Value} {Q:Unit→Shared→Prop} (ho:s.heap.get? it=some o) (hc:o.cls=.type n) (hd:o.data=.fields vs)
    (hn:["enumerate","zip","dict_itemiterator","dict_reverseitemiterator","odict_iterator","itertools.zip_longest","itertools.pairwise"].contains n=false) (hQ:Q () s):wpAny M A (letOwnedTupleGo tg (.ref it) u) Q E s:=by
  unfold letOwnedTupleGo
  cases tg <;> first
    | exact wpAny_pure hQ
    | (cases u <;> first
        | exact wpAny_pure hQ
        | (refine wpAny_bind (wpAny_load ho ?_)
           rw [hc,hd]
           show wpAny M A (if (["enumerate","zip","dict_itemiterator","dict_reverseitemiterator","odict_iterator","itertools.zip_longest","itertools.pairwise"].contains n&&vs[0]? == some (rawInt _))=true then _ else _) Q E s
           rw [if_neg (by intro h;rw [hn,Bool.false_and] at h;cases h)]
           exact wpAny_pure hQ))
noncomputable def Itl (K:PySem.W.Frag) (a:Addr):It :=
  ⟨fun i H=>∃ xs x,SqL K H a xs∧xs[i]?=some x,fun i H x H'=>H'=H∧∀ xs,SqL K H a xs→xs[i]?=some x,fun i H=>∃ xs,SqL K H a xs∧xs.length≤i⟩
noncomputable def Itt (K:PySem.W.Frag) (a:Addr):It :=
  ⟨fun i H=>∃ xs x,SqT K H a xs∧xs[i]?=some x,fun i H x H'=>H'=H∧∀ xs,SqT K H a xs→xs[i]?=some x,fun i H=>∃ xs,SqT K H a xs∧xs.length≤i⟩
theorem qcC {P:Program} {w:World} {K:PySem.W.Frag} {tg:Expr} (a it:Addr):Turn P w K tg (Itl K a) [it] it (fun i h=>h.IsListIter it a i) where
  mem:=by simp
  obj:=fun i h st b hb=>by
    have e:b=it:=by simpa using hb
    subst e
    obtain ⟨o,e,c,d⟩:=st
    exact ⟨o,e,fun v z=>by rw [d] at z;cases z⟩
  keep:=fun i h h' st k=>st.at fun o e=>k it (by simp) o e
  item:=by
    intro X hP hw hK hc i pins s σ H E I hf st hg
    subst hP hw hK
    obtain ⟨xs,x,hq,hx⟩:=hg
    obtain ⟨its,rv,p,hz⟩:=I.list hq
    obtain ⟨u,hu,ru⟩:=rv.get hx
    obtain ⟨f0,f1,f2,f3,f4,f5⟩:=hf it (by simp)
    refine wpAny_pyNext_list_item st p.isList (x:=u) (by simpa using hu) fun h' st' sb=>?_
    have I1:Inv X pins σ H { s with heap:=h' }:=I.turned (t':=s.toks) (fun b o hb e=>(sb.2 b hb).trans e) f0 f1 f3 f4 f5
    obtain ⟨o,e,c,d⟩:=id st'
    exact ⟨u,rfl,qdn (s:={ s with heap:=h' }) e c d (by decide) ⟨x,H,I1,ru,⟨rfl,fun ys hy=>by rw [I.list_inj hy hq];exact hx⟩,st',fun b hb=>(hf b hb).1⟩⟩
  done:=by
    intro X hP hw hK hc i pins s σ H E I hf st hg
    subst hP hw hK
    obtain ⟨xs,hq,hx⟩:=hg
    obtain ⟨its,rv,p,hz⟩:=I.list hq
    obtain ⟨f0,f1,f2,f3,f4,f5⟩:=hf it (by simp)
    have hl:=rv.length
    exact wpAny_pyNext_list_end (I.ok.hd hc) st p.isList (by simp;lia) fun h' eb=>⟨rfl,I.turned (t':=s.toks) (fun b o hb e=>eb b o hb e) f0 f1 f3 f4 f5⟩
  self:=fun _ _ _ _ _ st h=>wpAny_pyIter_listiter st h
theorem qa7 {P:Program} {w:World} {K:PySem.W.Frag} {tg:Expr} (a it:Addr):Turn P w K tg (Itt K a) [it] it (fun i h=>h.IsTupleIter it a i) where
  mem:=by simp
  obj:=fun i h st b hb=>by
    have e:b=it:=by simpa using hb
    subst e
    obtain ⟨o,e,c,d⟩:=st
    exact ⟨o,e,fun v z=>by rw [d] at z;cases z⟩
  keep:=fun i h h' st k=>st.at fun o e=>k it (by simp) o e
  item:=by
    intro X hP hw hK hc i pins s σ H E I hf st hg
    subst hP hw hK
    obtain ⟨xs,x,hq,hx⟩:=hg
    obtain ⟨its,rv,p,hz⟩:=I.tuple hq
    obtain ⟨u,hu,ru⟩:=rv.get hx
    obtain ⟨f0,f1,f2,f3,f4,f5⟩:=hf it (by simp)
    refine wpAny_pyNext_tuple_item st (show s.heap.IsTuple a its.toArray from p) (x:=u) (by simpa using hu) fun h' st' sb=>?_
    have I1:Inv X pins σ H { s with heap:=h' }:=I.turned (t':=s.toks) (fun b o hb e=>(sb.2 b hb).trans e) f0 f1 f3 f4 f5
    obtain ⟨o,e,c,d⟩:=id st'
    exact ⟨u,rfl,qdn (s:={ s with heap:=h' }) e c d (by decide) ⟨x,H,I1,ru,⟨rfl,fun ys hy=>by rw [I.tuple_inj hy hq];exact hx⟩,st',fun b hb=>(hf b hb).1⟩⟩
  done:=by
    intro X hP hw hK hc i pins s σ H E I hf st hg
    subst hP hw hK
    obtain ⟨xs,hq,hx⟩:=hg
    obtain ⟨its,rv,p,hz⟩:=I.tuple hq
    obtain ⟨f0,f1,f2,f3,f4,f5⟩:=hf it (by simp)
    have hl:=rv.length
    exact wpAny_pyNext_tuple_end (I.ok.hd hc) st (show s.heap.IsTuple a its.toArray from p) (by simp;lia) fun h' eb=>⟨rfl,I.turned (t':=s.toks) (fun b o hb e=>eb b o hb e) f0 f1 f3 f4 f5⟩
  self:=fun _ _ _ _ _ st h=>wpAny_pyIter_tupleiter st h
end L2
namespace L2
open PySem PySem.Spec PyProof.Rows
section
variable {X:Cx} {tg:Expr}
noncomputable def tFor (wi:TI) (g:TG) (tb:TS):TS:=fun D σ H=>wi σ H fun J H1=>∃ W:Nat→Nat→St→Hp→Prop,(∃ m,W 0 m σ H1)∧∀ i m σ H,W i m σ H →
  (J.stop i H∧D.nx σ H)∨(J.go i H∧∃ N:St→Hp→Prop,(∀ σ' H',N σ' H'→∃ m',m'<m∧W (i+1) m' σ' H')∧∀ x H',J.yld i H x H'→g x σ H' fun σ2 H2=>tb { D with nx:=N,ct:=N,bk:=D.nx } σ2 H2)
noncomputable def pinsAt (fp:List Addr) (h:Heap):List (Addr × Obj):=fp.filterMap fun b=>(h.get? b).map fun o=>(b,o)
theorem qT {fp:List Addr} {h:Heap} {b:Addr} {o:Obj} (hb:b∈fp) (e:h.get? b=some o):(b,o)∈pinsAt fp h:=List.mem_filterMap.mpr ⟨b,hb,by rw [e];rfl⟩
theorem qcD {fp:List Addr} {h:Heap} {p:Addr × Obj} (hp:p∈pinsAt fp h):p.1∈fp∧h.get? p.1=some p.2:=by
  obtain ⟨b,hb,e⟩:=List.mem_filterMap.mp hp
  cases q:h.get? b with
  | none=>rw [q] at e;cases e
  | some o =>
    rw [q] at e
    have e':(b,o)=p:=Option.some.inj e
    subst e'
    exact ⟨hb,q⟩
theorem Inv.pinned {pins:List (Addr × Obj)} {σ:St} {H:Hp} {s:Shared} {fp:List Addr} (I:Inv X pins σ H s) (hf:∀ b∈fp,FpOk X pins H b) (ho:∀ b∈fp,∃ o,s.heap.get? b=some o∧∀ v,o.data≠.cell v):Inv X (pins++pinsAt fp s.heap) σ H s :=
  I.pins_of fun p hp=>(List.mem_append.mp hp).elim (fun z=>I.pin p (List.mem_append_right _ z)) fun z=>by
    obtain ⟨hb,e⟩:=qcD z
    obtain ⟨f0,f1,f2,_⟩:=hf p.1 hb
    obtain ⟨o,e',d⟩:=ho p.1 hb
    rw [e] at e';cases e'
    exact ⟨e,f0,f1,f2,d⟩
theorem Inv.unpinned {pins pl:List (Addr × Obj)} {σ:St} {H:Hp} {s:Shared} (I:Inv X (pins++pl) σ H s):Inv X pins σ H s:=I.pins_of fun p hp=>I.pin p (List.mem_append_right _ (List.mem_append_left _ hp))
theorem qg1 {iter:Expr} {body:List Stmt} {wi:TI} {g:TG} {tb:TS} {pos:Pos} (hp:PassesOwn (model X.prog X.w) X.A X.env X.xe) (hc:X.calm=true) (hi:PI X tg iter wi) (hg:PG X tg g) (hb:PSs X body tb)
    (hs:∀ x,foldedSetIterable iter X.env x=pure x:=by intro _;rfl):PS X (.For tg iter body [] pos) (tFor wi g tb):=by
  intro pins s σ H D I h
  refine wpAny_For (thn (hi pins s σ H _ I h) fun v s1 h1=>thn h1 fun itv s2 h2=>?_) hs
  obtain ⟨it,fp,tn,J,H2,e,I2,T,st2,f2,W,⟨m0,w0⟩,turn⟩:=h2
  subst e
  have stat:∀ {H':Hp},(∀ b∈fp,H' b=none)→∀ b∈fp,FpOk X pins H' b:=fun hn b hb=>⟨hn b hb,(f2 b hb).2⟩
  refine codeAny_forLoop_any (fun n s'=>∃ i σ' H',Inv X pins σ' H' s'∧tn i s'.heap∧(∀ b∈fp,H' b=none)∧W i n σ' H') ?_ m0 ⟨0,σ,H2,I2,st2,fun b hb=>(f2 b hb).1,w0⟩
  rintro n s3 ⟨i,σ3,H3,I3,st3,fr3,w3⟩
  rcases turn i n σ3 H3 w3 with ⟨stop,qn⟩ | ⟨go,N,hN,step⟩
  · refine wpAny_passesOwn hp (thn (T.done X rfl rfl rfl hc i pins s3 σ3 H3 X.xe I3 (stat fr3) st3 stop) fun r s4 ⟨hr,I4⟩=>?_)
    subst hr
    exact wpAny_execs_nil ⟨σ3,H3,I4,qn⟩
  · refine wpAny_passesOwn hp (thn (T.item X rfl rfl rfl hc i pins s3 σ3 H3 X.xe I3 (stat fr3) st3 go) fun r s4 ⟨u,hr,h4⟩=>?_)
    subst hr
    refine wpAny_passesOwn hp (thn h4 fun _ s5 ⟨x,H5,I5,r5,y5,st5,fr5⟩=>?_)
    have I5':=I5.pinned (stat fr5) (T.obj _ _ st5)
    refine wpAny_passesOwn hp (thn (hg _ s5 σ3 H5 x u _ I5' r5 (step x H5 y5)) fun _ s6 ⟨σ6,H6,I6,q6⟩=>?_)
    refine wpAny_passesOwn hp (thn (hb _ s6 σ6 H6 _ I6 q6) fun f s7 q7=>?_)
    have again:∀ {σ7:St} {H7:Hp},Inv X (pins++pinsAt fp s5.heap) σ7 H7 s7→N σ7 H7→∃ m,m<n∧∃ i σ' H',Inv X pins σ' H' s7∧tn i s7.heap∧(∀ b∈fp,H' b=none)∧W i m σ' H':=fun {σ7 H7} I7 n7=>by
      obtain ⟨m',hm,w7⟩:=hN σ7 H7 n7
      refine ⟨m',hm,i+1,σ7,H7,I7.unpinned,T.keep _ _ _ st5 fun b hb o e=>(I7.pin (b,o) (List.mem_append_right _ (List.mem_append_right _ (qT hb e)))).1,fun b hb=>?_,w7⟩
      obtain ⟨o,e,d⟩:=T.obj _ _ st5 b hb
      exact (I7.pin (b,o) (List.mem_append_right _ (List.mem_append_right _ (qT hb e)))).2.1
    cases f with
    | next=>obtain ⟨σ7,H7,I7,n7⟩:=q7;exact again I7 n7
    | cont=>obtain ⟨σ7,H7,I7,n7⟩:=q7;exact again I7 n7
    | brk=>obtain ⟨σ7,H7,I7,q7⟩:=q7;exact ⟨σ7,H7,I7.unpinned,q7⟩
    | ret v=>obtain ⟨x7,σ7,H7,I7,r7,q7⟩:=q7;exact ⟨x7,σ7,H7,I7.unpinned,r7,q7⟩
end
end L2
namespace L2
open PySem PySem.Spec PyProof.Rows
noncomputable abbrev R2:=V→V→Hp→VK→Prop
noncomputable def OpR (X:Cx) (f:Value→Value→Sem Value) (r:R2):Prop :=
  ∀ (pins:List (Addr × Obj)) (s:Shared) (σ:St) (H:Hp) (x y:V) (v u:Value) (Q:VK),Inv X pins σ H s→RelV x v→RelV y u→r x y H Q →
    wpAny (model X.prog X.w) X.A (f v u) (EP X pins σ Q) X.xe s
noncomputable def CallR (X:Cx) (f:Value) (r:List V→Hp→VK→Prop):Prop :=
  ∀ (pins:List (Addr × Obj)) (s:Shared) (σ:St) (H:Hp) (xs:List V) (us:List Value) (Q:VK),Inv X pins σ H s→Vals xs us→r xs H Q →
    wpAny (model X.prog X.w) X.A (call f us) (EP X pins σ Q) X.xe s
noncomputable def TruR (X:Cx) (r:V→Hp→(Bool→Hp→Prop)→Prop):Prop :=
  ∀ (pins:List (Addr × Obj)) (s:Shared) (σ:St) (H:Hp) (x:V) (v:Value) (Q:Bool→Hp→Prop),Inv X pins σ H s→RelV x v→r x H Q →
    wpAny (model X.prog X.w) X.A (truthy v) (TP X pins σ Q) X.xe s
noncomputable def tOp (r:R2) (ta tb:TE):TE:=fun σ H Q=>ta σ H fun x H1=>tb σ H1 fun y H2=>r x y H2 Q
noncomputable def rI (C:Int→Int→Prop) (g:Int→Int→V):R2:=fun x y H Q=>∃ i j,x=.int i∧y=.int j∧C i j∧Q (g i j) H
noncomputable def rI0 (g:Int→Int→V):R2:=fun x y H Q=>∃ i j,x=.int i∧y=.int j∧Q (g i j) H
section
variable {X:Cx} {a b c:Expr} {ta tb tc:TE} {pos:Pos}
theorem binT (ha:PE X a ta) (hb:PE X b tb) {pins:List (Addr × Obj)} {s:Shared} {σ:St} {H:Hp} {R:V→V→Hp→Prop} (I:Inv X pins σ H s)
    (h:ta σ H fun x H1=>tb σ H1 fun y H2=>R x y H2) {Q:Value→Shared→Prop} {f:Value→Value→Sem Value}
    (hf:∀ v u s2 x y H2,Inv X pins σ H2 s2→RelV x v→RelV y u→R x y H2→wpAny (model X.prog X.w) X.A (f v u) Q X.xe s2) :
    wpAny (model X.prog X.w) X.A (eval a X.env) (fun v s₁=>wpAny (model X.prog X.w) X.A (eval b X.env) (fun u s₂=>wpAny (model X.prog X.w) X.A (f v u) Q X.xe s₂) X.xe s₁) X.xe s:=by
  refine thn (ha pins s σ H _ I h) fun v s1 ⟨x,H1,I1,r1,q1⟩=>?_
  refine thn (hb pins s1 σ H1 _ I1 q1) fun u s2 ⟨y,H2,I2,r2,q2⟩=>?_
  exact hf v u s2 x y H2 I2 r1 r2 q2
theorem qih {op:Operator} {r:R2} (ho:OpR X (binaryOp op) r) (ha:PE X a ta) (hb:PE X b tb):PE X (.BinOp a op b pos) (tOp r ta tb):=by
  intro pins s σ H Q I h
  exact wpAny_BinOp (binT ha hb I h fun v u s2 x y H2 I2 rx ry q=>ho pins s2 σ H2 x y v u Q I2 rx ry q)
theorem opI {f:Value→Value→Sem Value} {C:Int→Int→Prop} {g:Int→Int→Int}
    (rule:∀ (i j:Int) (t u:Tok) (s:Shared) (Q:Value→Shared→Prop) (E:Value→Shared→Prop),C i j→Q (.int (g i j) s.toks) { s with toks:=s.toks+1 }→wpAny (model X.prog X.w) X.A (f (.int i t) (.int j u)) Q E s) :
    OpR X f (rI C fun i j=>.int (g i j)):=by
  intro pins s σ H x y v u Q I rx ry h
  obtain ⟨i,j,rfl,rfl,hc,q⟩:=h
  obtain ⟨t,rfl⟩:=rx
  obtain ⟨t',rfl⟩:=ry
  exact rule i j t t' s _ _ hc ⟨.int (g i j),H,I.tok _,⟨_,rfl⟩,q⟩
theorem opB0 {f:Value→Value→Sem Value} {g:Int→Int→Bool}
    (rule:∀ (i j:Int) (t u:Tok) (s:Shared) (Q:Value→Shared→Prop) (E:Value→Shared→Prop),Q (.bool (g i j)) s→wpAny (model X.prog X.w) X.A (f (.int i t) (.int j u)) Q E s) :
    OpR X f (rI0 fun i j=>.bl (g i j)):=by
  intro pins s σ H x y v u Q I rx ry h
  obtain ⟨i,j,rfl,rfl,q⟩:=h
  obtain ⟨t,rfl⟩:=rx
  obtain ⟨t',rfl⟩:=ry
  exact rule i j t t' s _ _ ⟨.bl (g i j),H,I,rfl,q⟩
theorem qa8 (k:Nat):(0:Int)≤2^k:=by
  rw [two_pow_cast]
  exact Int.natCast_nonneg _
theorem qg2:OpR X (binaryOp .RShift) (rI (fun _ j=>0≤j) fun i j=>.int (i / 2^j.toNat)):=opI fun i j _ _ _ _ _ hc q =>
  rshift_int hc (by rw [Int.fdiv_eq_ediv_of_nonneg i (qa8 _)];exact q)
end
section
variable {X:Cx} {a b c:Expr} {ta tb tc:TE} {pos:Pos}
theorem qdo {pins:List (Addr × Obj)} {σ:St} {H:Hp} {s:Shared} {Q:VK} {k k':Bool} (I:Inv X pins σ H s) (q:Q (.bl k) H) (e:k=k'):EP X pins σ Q (.bool k') s:=by
  subst e
  exact ⟨.bl k,H,I,rfl,q⟩
theorem qii:OpR X (compareOp .Lt) (rI0 fun i j=>.bl (decide (i<j))):=opB0 fun _ _ _ _ _ _ _ q=>lt_int q
theorem qij:OpR X (compareOp .LtE) (rI0 fun i j=>.bl (decide (i≤j))):=opB0 fun _ _ _ _ _ _ _ q=>le_int q
theorem qik:OpR X (compareOp .Gt) (rI0 fun i j=>.bl (decide (j<i))):=opB0 fun _ _ _ _ _ _ _ q=>gt_int q
theorem qil:OpR X (compareOp .GtE) (rI0 fun i j=>.bl (decide (j≤i))):=opB0 fun _ _ _ _ _ _ _ q=>ge_int q
theorem qg3:OpR X (compareOp .Is) (fun x y H Q=>y=.non∧Q (.bl (decide (x=.non))) H):=by
  intro pins s σ H x y v u Q I rx ry h
  obtain ⟨rfl,q⟩:=h
  cases ry
  refine is_none_gen (qdo I q ?_)
  cases x <;> first
    | (cases rx;rfl)
    | (obtain ⟨t,rfl⟩:=rx;rfl)
theorem qfg:OpR X (compareOp .IsNot) (fun x y H Q=>y=.non∧Q (.bl (!decide (x=.non))) H):=by
  intro pins s σ H x y v u Q I rx ry h
  obtain ⟨rfl,q⟩:=h
  cases ry
  refine isnot_none_gen (qdo I q ?_)
  cases x <;> first
    | (cases rx;rfl)
    | (obtain ⟨t,rfl⟩:=rx;rfl)
theorem qfh {op:CmpOp} {r:R2} (ho:OpR X (compareOp op) r) (ha:PE X a ta) (hb:PE X b tb) (hm:behindInMarks op b=false):PE X (.Compare a [op] [b] pos) (tOp r ta tb):=by
  intro pins s σ H Q I h
  exact wpAny_Compare1 (binT ha hb I h fun v u s2 x y H2 I2 rx ry q=>ho pins s2 σ H2 x y v u Q I2 rx ry q) hm
noncomputable def tTest (t:TE):TT:=fun σ H Q=>t σ H fun x H'=>∃ k,x=.bl k∧Q k H'
theorem qfi {op:CmpOp} {r:R2} (ho:OpR X (compareOp op) r) (ha:PE X a ta) (hb:PE X b tb) (hm:behindInMarks op b=false):PT X (.Compare a [op] [b] pos) (tTest (tOp r ta tb)):=by
  intro pins s σ H Q I h
  refine wpAny_isTrue_Compare1 (thn (ha pins s σ H _ I h) fun v s1 ⟨x,H1,I1,r1,q1⟩=>thn (hb pins s1 σ H1 _ I1 q1) fun u s2 ⟨y,H2,I2,r2,q2⟩ =>
    thn (ho pins s2 σ H2 x y v u _ I2 r1 r2 q2) fun c s3 ⟨z,H3,I3,r3,k,e,q3⟩=>?_) hm
  subst e
  cases r3
  exact wpAny_truthy_bool ⟨H3,I3,q3⟩
noncomputable def tChain (r r':R2) (ta tb tc:TE):TE:=fun σ H Q=>ta σ H fun x H1=>tb σ H1 fun y H2=>r x y H2 fun z H3=>∃ k,z=.bl k ∧
  (if k=true then tc σ H3 fun w' H4=>r' y w' H4 Q else Q (.bl false) H3)
theorem qdp {op op':CmpOp} {r r':R2} (ho:OpR X (compareOp op) r) (ho':OpR X (compareOp op') r') (ha:PE X a ta) (hb:PE X b tb) (hc:PE X c tc)
    (hm:lastMarks [op,op'] [b,c]=false:=by with_unfolding_all rfl):PE X (.Compare a [op,op'] [b,c] pos) (tChain r r' ta tb tc):=by
  intro pins s σ H Q I h
  refine Compare_chain (thn (ha pins s σ H _ I h) fun v s1 ⟨x,H1,I1,r1,q1⟩=>chain_link (thn (hb pins s1 σ H1 _ I1 q1) fun u s2 ⟨y,H2,I2,r2,q2⟩ =>
    thn (ho pins s2 σ H2 x y v u _ I2 r1 r2 q2) fun d s3 ⟨z,H3,I3,r3,k,e,q3⟩=>?_)) hm
  subst e
  cases r3
  refine wpAny_truthy_bool ?_
  cases k with
  | false=>exact ite_ff ⟨.bl false,H3,I3,rfl,q3⟩
  | true=>exact ite_tt (chain_last (thn (hc pins s3 σ H3 _ I3 q3) fun w' s4 ⟨z',H4,I4,r4,q4⟩=>ho' pins s4 σ H4 y z' u w' Q I4 r2 r4 q4))
noncomputable def TruV (K:PySem.W.Frag) (x:V) (H:Hp) (k:Bool):Prop :=
  match x with
  | .non=>k=false
  | .bl b=>k=b
  | .int i=>k=(i != 0)
  | .str y=>y.length≤sizeLine∧k=((y.length:Int) != 0)
  | .byt y=>y.size≤sizeLine∧k=((y.size:Int) != 0)
  | .ref p=>(∃ xs,SqL K H p xs∧k=!xs.isEmpty)∨(∃ xs,SqT K H p xs∧k=!xs.isEmpty)∨∃ kvs,H p=some (.dK kvs)∧k=!kvs.isEmpty
  | _=>False
theorem qa9 {κ:Type} {kvs:List (κ × V)} {vs:List (κ × Value)} (r:KV kvs vs):(!vs.isEmpty)=!kvs.isEmpty:=by
  cases r <;> rfl
theorem y8 {xs:List V} {its:List Value} (r:Vals xs its):(!its.toArray.isEmpty)=!xs.isEmpty:=by
  cases r <;> simp
theorem line63:(sizeLine:Nat)<2^63:=by rw [sizeLine_eq];decide
theorem qg4:TruR X (fun x H Q=>∃ k,TruV X.K x H k∧Q k H):=by
  intro pins s σ H x v Q I rx h
  obtain ⟨k,e,q⟩:=h
  have hl:=line63
  have hs:sizeLine=16777216:=sizeLine_eq
  cases x with
  | non =>
    cases rx
    have e':k=false:=e
    subst e'
    exact truthy_none ⟨H,I,q⟩
  | bl b =>
    cases rx
    have e':k=b:=e
    subst e'
    exact wpAny_truthy_bool ⟨H,I,q⟩
  | int i =>
    obtain ⟨t,rfl⟩:=rx
    have e':k=(i != 0):=e
    subst e'
    exact PySem.P.truthy_int ⟨H,I,q⟩
  | str y =>
    obtain ⟨t,rfl⟩:=rx
    obtain ⟨hy,e'⟩:y.length≤sizeLine∧k=((y.length:Int) != 0):=e
    subst e'
    exact PySem.P.truthy_str (by lia) ⟨H,I.tok _,q⟩
  | byt y =>
    obtain ⟨t,rfl⟩:=rx
    obtain ⟨hy,e'⟩:y.size≤sizeLine∧k=((y.size:Int) != 0):=e
    subst e'
    exact PySem.W.truthy_bytes (by lia) ⟨H,I.tok _,q⟩
  | ref p =>
    cases rx
    have e':(∃ xs,SqL X.K H p xs∧k=!xs.isEmpty)∨(∃ xs,SqT X.K H p xs∧k=!xs.isEmpty)∨∃ kvs,H p=some (.dK kvs)∧k=!kvs.isEmpty:=e
    rcases e' with ⟨xs,hx,e'⟩ | ⟨xs,hx,e'⟩ | ⟨kvs,hx,e'⟩
    · subst e'
      obtain ⟨its,r,pl,hz⟩:=I.list hx
      have hlen:=r.length
      exact wpAny_truthy_list pl.isList (by simp only [List.size_toArray];lia) ⟨H,I.tok _,by rw [y8 r];exact q⟩
    · subst e'
      obtain ⟨its,r,pl,hz⟩:=I.tuple hx
      have hlen:=r.length
      exact truthy_tuple pl (by simp only [List.size_toArray];lia) ⟨H,I.tok _,by rw [y8 r];exact q⟩
    · subst e'
      obtain ⟨hz,hS,vs,r,m⟩:kvs.length≤sizeLine∧(p == sysModules)=false∧∃ vs,KV kvs vs∧s.heap.DictOf (mixKind X.prog X.w) p vs:=I.hok p _ hx
      have hlen:kvs.length=vs.length:=Paired.length r
      exact wpAny_truthy_dict hS m (by lia) ⟨H,I.tok _,by rw [qa9 r];exact q⟩
  | _=>exact (show False from e).elim
theorem qdq (ha:PE X a ta) (he:∀ whole,isTrue a X.env whole=(do let v ← whole;standAt a.pos;holding [v] (truthy v))) :
    PT X a (fun σ H Q=>ta σ H fun x H'=>∃ k,TruV X.K x H' k∧Q k H'):=by
  intro pins s σ H Q I h
  exact isTrue_plain (thn (ha pins s σ H _ I h) fun v s1 ⟨x,H1,I1,r1,q1⟩=>qg4 pins s1 σ H1 x v Q I1 r1 q1) (he _)
theorem qba:OpR X (binaryOp .Add) (fun x y H Q=>∃ i j,x=.str i∧y=.str j∧i.length+j.length≤sizeLine∧Q (.str (i++j)) H):=by
  intro pins s σ H x y v u Q I rx ry h
  obtain ⟨i,j,rfl,rfl,hz,q⟩:=h
  obtain ⟨t,rfl⟩:=rx
  obtain ⟨t',rfl⟩:=ry
  exact add_str (fun t' tk=>⟨.str (i++j),H,I.tok _,⟨_,rfl⟩,q⟩) hz
theorem vals1 {x:V} {us:List Value} (r:Vals [x] us):∃ u,us=[u]∧RelV x u:=by
  cases r with
  | cons r1 r2=>cases r2;exact ⟨_,rfl,r1⟩
theorem vals2 {x y:V} {us:List Value} (r:Vals [x,y] us):∃ u w',us=[u,w']∧RelV x u∧RelV y w':=by
  cases r with
  | cons r1 r2 =>
    cases r2 with
    | cons r3 r4=>cases r4;exact ⟨_,_,rfl,r1,r3⟩
theorem qdr:CallR X (.builtin "abs") (fun xs H Q=>∃ i,xs=[.int i]∧Q (.int (if i<0 then -i else i)) H):=by
  intro pins s σ H xs us Q I r h
  obtain ⟨i,rfl,q⟩:=h
  obtain ⟨u,rfl,t,rfl⟩:=vals1 r
  exact call_abs_int fun u tk=>⟨.int (if i<0 then -i else i),H,I.tok _,⟨_,rfl⟩,q⟩
theorem qcE (hc:X.calm=true):CallR X (.builtin "max") (fun xs H Q=>∃ i j,xs=[.int i,.int j]∧Q (.int (if j>i then j else i)) H):=by
  intro pins s σ H xs us Q I r h
  obtain ⟨i,j,rfl,q⟩:=h
  obtain ⟨u,w',rfl,⟨t,rfl⟩,⟨t',rfl⟩⟩:=vals2 r
  refine max_two_ints (I.ok.hd hc) fun h' tk k=>⟨_,H,I.kept k,?_,q⟩
  by_cases hj:j>i
  · rw [if_pos hj,if_pos hj];exact ⟨_,rfl⟩
  · rw [if_neg hj,if_neg hj];exact ⟨_,rfl⟩
theorem qcF (hc:X.calm=true):CallR X (.builtin "min") (fun xs H Q=>∃ i j,xs=[.int i,.int j]∧Q (.int (if j<i then j else i)) H):=by
  intro pins s σ H xs us Q I r h
  obtain ⟨i,j,rfl,q⟩:=h
  obtain ⟨u,w',rfl,⟨t,rfl⟩,⟨t',rfl⟩⟩:=vals2 r
  refine min_two_ints (I.ok.hd hc) fun h' tk k=>⟨_,H,I.kept k,?_,q⟩
  by_cases hj:j<i
  · rw [if_pos hj,if_pos hj];exact ⟨_,rfl⟩
  · rw [if_neg hj,if_neg hj];exact ⟨_,rfl⟩
noncomputable def LenV (K:PySem.W.Frag) (x:V) (H:Hp) (n:Nat):Prop :=
  match x with
  | .str y=>y.length≤sizeLine∧n=y.length
  | .byt y=>y.size≤sizeLine∧n=y.size
  | .ref p=>(∃ xs,SqL K H p xs∧n=xs.length)∨∃ xs,SqT K H p xs∧n=xs.length
  | _=>False
theorem qds:CallR X (.builtin "len") (fun xs H Q=>∃ x n,xs=[x]∧LenV X.K x H n∧Q (.int n) H):=by
  intro pins s σ H xs us Q I r h
  obtain ⟨x,n,rfl,e,q⟩:=h
  obtain ⟨u,rfl,rx⟩:=vals1 r
  have hl:=line63
  have hs:sizeLine=16777216:=sizeLine_eq
  cases x with
  | str y =>
    obtain ⟨t,rfl⟩:=rx
    obtain ⟨hy,e'⟩:y.length≤sizeLine∧n=y.length:=e
    subst e'
    exact len_str (by lia) ⟨.int _,H,I.tok _,⟨_,rfl⟩,q⟩
  | byt y =>
    obtain ⟨t,rfl⟩:=rx
    obtain ⟨hy,e'⟩:y.size≤sizeLine∧n=y.size:=e
    subst e'
    exact PySem.W.len_bytes (by lia) ⟨.int _,H,I.tok _,⟨_,rfl⟩,q⟩
  | ref p =>
    cases rx
    have e':(∃ xs,SqL X.K H p xs∧n=xs.length)∨∃ xs,SqT X.K H p xs∧n=xs.length:=e
    rcases e' with ⟨xs,hx,e'⟩ | ⟨xs,hx,e'⟩
    · subst e'
      obtain ⟨its,r',pl,hz⟩:=I.list hx
      have hlen:=r'.length
      exact Calls.call_len_list pl.isList (by simp only [List.size_toArray];lia) ⟨.int xs.length,H,I.tok _,⟨_,by simp only [List.size_toArray];rw [hlen]⟩,q⟩
    · subst e'
      obtain ⟨its,r',pl,hz⟩:=I.tuple hx
      have hlen:=r'.length
      exact len_tuple pl (by simp only [List.size_toArray];lia) ⟨.int xs.length,H,I.tok _,⟨_,by simp only [List.size_toArray];rw [hlen]⟩,q⟩
  | _=>exact (show False from e).elim
end
end L2
namespace L2
open PySem PySem.Spec PyProof.Rows
structure ObjM (h:Heap) (x dx C:Addr) (mA:Str→Option Value):Prop where
  obj:h.get? x=some (PySem.W.instObj C dx)
  ns:h.Ns1 dx mA
  ne:dx≠x
theorem qcG {h:Heap} {dx:Addr} {mA:Str→Option Value} (n:h.Ns1 dx mA):∃ od,h.get? dx=some od∧∀ name,PySem.W.lookIn name od=some (mA name):=by
  obtain ⟨o,es,ep,ho,hd,hk,_,hm⟩:=n
  refine ⟨o,ho,fun name=>?_⟩
  have e:=hm name
  unfold nsFind findBy at e
  rw [← Array.find?_toList] at e
  unfold PySem.W.lookIn
  rw [hd]
  dsimp only
  split
  · rename_i y q
    rw [q] at e
    exact congrArg some e
  · rename_i q
    rw [q] at e
    have a:es.toList.any (·.refKey)=false:=by
      rw [List.any_eq_false]
      intro y hy
      obtain ⟨z,t,hkey⟩:=hk y (Array.mem_toList_iff.mp hy)
      simp [DictEntry.refKey,hkey]
    have a':¬ es.toList.any (·.refKey)=true:=by rw [a];exact Bool.false_ne_true
    rw [if_neg a']
    exact congrArg some e
theorem ObjM.look {h:Heap} {x dx C:Addr} {mA:Str→Option Value} (I:ObjM h x dx C mA):∃ od,PySem.W.InstAt h x (PySem.W.instObj C dx) C (some od)∧∀ name,PySem.W.lookIn name od=some (mA name) :=
  let ⟨od,ho,hl⟩:=qcG I.ns
  ⟨od,⟨I.obj,rfl,rfl,ho⟩,hl⟩
theorem RelO.some_of {v:V} {o:Option Value} (r:RelO (some v) o):∃ u,o=some u∧RelV v u:=by
  cases o with
  | none=>exact (show False from r).elim
  | some u=>exact ⟨u,rfl,r⟩
section
variable {P:Program} {w:World} {H H':Hp} {h h':Heap} {a C dx:Addr} {fs fs':List (Str × V)}
theorem qfj (hok:HOk P w H h) (e:H a=some (.ins C dx fs)):∃ mA,ObjM h a dx C mA∧(∀ f,RelO (fs.lookup f) (mA f))∧PySem.Within mA (fs.map (·.1))∧fs.length≤1000∧H dx=some (.own a):=by
  obtain ⟨d,z,ne,ob,mA,n,r,q⟩:=(show ObjOk P w H h a (.ins C dx fs) from hok a _ e)
  exact ⟨mA,⟨ob,n,ne⟩,r,q,z,d⟩
end
structure Cls (K:PySem.W.Frag) (C:Addr):Prop where
  pg:PySem.W.plainGet K C Str.empty=true
  hd:PySem.W.hasDictIn K C=true
  po:PySem.W.plainOver K C=true
  sa:PySem.W.findIn K (.ref C) "__setattr__"=some (some (.builtin "object.__setattr__"))
theorem Cls.get {K:PySem.W.Frag} {C:Addr} (c:Cls K C) (f:Str):PySem.W.plainGet K C f=true:=c.pg
section
variable {X:Cx} {pins:List (Addr × Obj)} {σ:St} {H:Hp} {s:Shared} {A:Around} {E:Value→Shared→Prop} {Q:Value→Shared→Prop} {c:Value} {b:Bool}
inductive TyOf (K:PySem.W.Frag) (H:Hp):V→Value→Prop where
  | non:TyOf K H .non (.type "NoneType")
  | bl (x:Bool):TyOf K H (.bl x) (.type "bool")
  | int (i:Int):TyOf K H (.int i) (.type "int")
  | str (x:Str):TyOf K H (.str x) (.type "str")
  | flt (x:UInt64):TyOf K H (.flt x) (.type "float")
  | lst {a:Addr} {xs:List V} (e:H a=some (.lst xs)):TyOf K H (.ref a) (.type "list")
  | frz {a:Addr} {o:Obj} {xs:List V} (e:H a=some (.frz o (.lst xs))):TyOf K H (.ref a) (.type "list")
  | tup {a:Addr} {xs:List V} (e:H a=some (.tup xs)):TyOf K H (.ref a) (.type "tuple")
  | dK {a:Addr} {kvs:List (Key × V)} (e:H a=some (.dK kvs)):TyOf K H (.ref a) (.type "dict")
  | dT {a:Addr} {kvs:List (List Key × V)} (e:H a=some (.dT kvs)):TyOf K H (.ref a) (.type "dict")
  | ins {a C dx:Addr} {fs:List (Str × V)} (e:H a=some (.ins C dx fs)) (cl:Cls K C) (ha:PySem.W.findIn K (.ref C) "__class__"=some (some (.builtin "object.__class__")))
      (hn:PySem.W.specialIn K (.builtin "object.__class__") "__get__"=some (some (.builtin "getset_descriptor.__get__"))) (htk:PySem.W.takesIn K (.builtin "object.__class__")=some true)
      (hm:PySem.W.mroIn K C (.type "object")=some true):TyOf K H (.ref a) (.ref C)
theorem qcH {x:V} {u t:Value} (I:Inv X pins σ H s) (rx:RelV x u) (ty:TyOf X.K H x t) (e:PySem.W.kitOne X.K t c=some b) (h:∀ tk,Q (.bool b) { s with toks:=tk }) :
    wpAny (model X.prog X.w) A (call (.builtin "isinstance") [u,c]) Q E s:=by
  cases ty with
  | non=>cases (show u=Value.none from rx);exact PySem.W.kia_one PySem.W.kitx_none I.kIn True.intro e (fun z=>nomatch z) h
  | bl y=>cases (show u=Value.bool y from rx);exact PySem.W.kia_one PySem.W.kitx_bool I.kIn True.intro e (fun z=>nomatch z) h
  | int i=>obtain ⟨t,q⟩:=(show ∃ t,u=Value.int i t from rx);cases q;exact PySem.W.kia_one PySem.W.kitx_int I.kIn True.intro e (fun z=>nomatch z) h
  | str y=>obtain ⟨t,q⟩:=(show ∃ t,u=Value.str y t from rx);cases q;exact PySem.W.kia_one PySem.W.kitx_str I.kIn True.intro e (fun z=>nomatch z) h
  | flt y=>obtain ⟨t,q⟩:=(show ∃ t,u=Value.float y t from rx);cases q;exact PySem.W.kia_one PySem.W.kitx_float I.kIn True.intro e (fun z=>nomatch z) h
  | @lst a xs ea =>
    cases (show u=Value.ref a from rx)
    obtain ⟨_,_,n,_,h1⟩:=(show ObjOk X.prog X.w H s.heap a (.lst xs) from I.hok a _ ea)
    exact PySem.W.kia_one PySem.W.kitx_list I.kIn ⟨_,h1,rfl⟩ e (fun z=>nomatch z) h
  | @frz a ob xs ea =>
    cases (show u=Value.ref a from rx)
    obtain ⟨_,_,_,n,_,h1⟩:=(show ObjOk X.prog X.w H s.heap a (.frz ob (.lst xs)) from I.hok a _ ea)
    exact PySem.W.kia_one PySem.W.kitx_list I.kIn ⟨_,h1,rfl⟩ e (fun z=>nomatch z) h
  | @tup a xs ea =>
    cases (show u=Value.ref a from rx)
    obtain ⟨_,_,_,p,_⟩:=(show ObjOk X.prog X.w H s.heap a (.tup xs) from I.hok a _ ea)
    obtain ⟨o,h1,h2,_⟩:=p
    exact PySem.W.kia_one PySem.W.kitx_tuple I.kIn ⟨o,h1,h2⟩ e (fun z=>nomatch z) h
  | @dK a kvs ea =>
    cases (show u=Value.ref a from rx)
    obtain ⟨_,_,vs,_,p⟩:=(show ObjOk X.prog X.w H s.heap a (.dK kvs) from I.hok a _ ea)
    obtain ⟨o,es,ep,h1,h2,_⟩:=p
    exact PySem.W.kia_one PySem.W.kitx_dict I.kIn ⟨o,h1,h2.1⟩ e (fun z=>nomatch z) h
  | @dT a kvs ea =>
    cases (show u=Value.ref a from rx)
    obtain ⟨_,_,xs,_,o,es,ep,h1,h2,_⟩:=(show ObjOk X.prog X.w H s.heap a (.dT kvs) from I.hok a _ ea)
    exact PySem.W.kia_one PySem.W.kitx_dict I.kIn ⟨o,h1,h2.1⟩ e (fun z=>nomatch z) h
  | @ins a C dx fs ea cl ha hn htk hm =>
    cases (show u=Value.ref a from rx)
    obtain ⟨mA,O,_⟩:=qfj I.hok ea
    obtain ⟨od,J,_⟩:=O.look
    exact PySem.W.kia_one (PySem.W.kitx_own (cl.get _) cl.hd ha hn htk hm) I.kIn J e (fun z=>nomatch z) h
end
end L2
namespace L2
open PySem PySem.Spec PyProof.Rows
structure Room (k:Nat) (A:Around):Prop where
  hd:A.handled=none
  dp:A.depth+3*k+5<recursionLimit
  un:A.units+16*k+200<cLine
theorem Room.mono {j k:Nat} {A:Around} (r:Room k A) (h:j≤k):Room j A:=⟨r.hd,by have:=r.dp;lia,by have:=r.un;lia⟩
theorem Room.deeper {k:Nat} {A:Around} (r:Room (k+1) A) (env:Env):Room k (A.deeper env) :=
  ⟨r.hd,by have:=r.dp;show A.depth+1+3*k+5<_;lia,by have:=r.un;show A.units+3+16*k+200<_;lia⟩
theorem Room.depth {k:Nat} {A:Around} (r:Room k A):A.depth<recursionLimit:=by have:=r.dp;lia
theorem Room.units {k:Nat} {A:Around} (r:Room k A):A.units+64<cLine:=by have:=r.un;lia
noncomputable def tNil:TA:=fun _ H Q=>Q [] H
noncomputable def tCons (ta:TE) (tr:TA):TA:=fun σ H Q=>ta σ H fun x H1=>tr σ H1 fun xs H2=>Q (x::xs) H2
section
variable {X:Cx} {e:Expr} {es:List Expr} {te:TE} {t:TA} {pos:Pos}
theorem yi:PA X [] tNil:=fun _ _ _ _ H Q I h=>Calls.spliced_nil ⟨[],H,I,.nil,h⟩
theorem qX (ha:PE X e te) (hr:PA X es t) (hs:starEach (e::es) X.env=(false,eval e X.env)::starEach es X.env:=by rfl):PA X (e::es) (tCons te t):=by
  intro pos pins s σ H Q I h
  rw [hs]
  show wpAny _ _ (spliced ((false,eval e X.env)::backTo pos (starEach es X.env))) _ _ s
  refine Calls.spliced_cons (thn (ha pins s σ H _ I h) fun u s1 ⟨x,H1,I1,r1,q1⟩=>?_)
  exact thn (hr pos pins s1 σ H1 _ I1 q1) fun us s2 ⟨xs,H2,I2,r2,q2⟩=>⟨x::xs,H2,I2,.cons r1 r2,q2⟩
noncomputable def tTup (t:TA):TE:=fun σ H Q=>t σ H fun xs H1=>xs.length≤sizeLine∧∀ p,H1 p=none→Q (.ref p) (upd H1 p (.tup xs))
noncomputable def tLst (t:TA):TE:=fun σ H Q=>t σ H fun xs H1=>xs.length≤sizeLine∧∀ p,H1 p=none→Q (.ref p) (upd H1 p (.lst xs))
theorem qdt {x1} (h:PA X es t):PE X (.Tuple es x1 pos) (tTup t):=by
  intro pins s σ H Q I hq
  refine wpAny_Tuple_spliced (thn (h pos pins s σ H _ I hq) fun us s1 ⟨xs,H1,I1,r,z,q⟩=>⟨by rw [← r.length];exact z,?_⟩)
  have hf:H1 s1.heap.objs.size=none:=I1.hok.fresh (Nat.le_refl _)
  refine ⟨.ref s1.heap.objs.size,upd H1 s1.heap.objs.size (.tup xs),I1.laid (t':=s1.toks) (fun b u e=>Heap.get?_push_of_some _ e) (Nat.le_refl _) ?_,rfl,q _ hf⟩
  exact ⟨z,us,r,⟨_,Heap.get?_push_size _ rfl,rfl,_,rfl⟩,zW _ _⟩
theorem qg5 (h:PA X es t):PE X (.List es pos) (tLst t):=by
  intro pins s σ H Q I hq
  refine wpAny_List_spliced (thn (h pos pins s σ H _ I hq) fun us s1 ⟨xs,H1,I1,r,z,q⟩=>⟨by rw [← r.length];exact z,?_⟩)
  have hf:H1 s1.heap.objs.size=none:=I1.hok.fresh (Nat.le_refl _)
  refine ⟨.ref s1.heap.objs.size,upd H1 s1.heap.objs.size (.lst xs),I1.laid (t':=s1.toks) (fun b u e=>Heap.get?_push_of_some _ e) (Nat.le_refl _) ?_,rfl,q _ hf⟩
  exact ⟨z,us,0,r,Heap.get?_push_size _ rfl⟩
end
noncomputable abbrev Sp:=List V→Hp→VK→XK→Prop
noncomputable abbrev CXT:=List Env→Hp→Shared→XK→Value→Shared→Prop
structure Env0 (P:Program) (w:World) (K:PySem.W.Frag) (mg:Str→Option Value) (base:Heap) (A:Around) (outer:List Env) (s:Shared) (H:Hp):Prop where
  frames:A.frames=some outer
  mod:Mod K mg base
  bs:∀ b o,base.get? b=some o→s.heap.get? b=some o∧H b=none
  bsz:base.objs.size≤s.heap.objs.size
  funs:s.heap.FunFrames base outer
  frf:∀ b∈frs outer,H b=none
  hok:HOk P w H s.heap
  bare:AllBare s.gens
  tab:∀ c T,codeTab K c T=true→∃ ps,H T=some (.tbl ps)
noncomputable def CE (outer:List Env) (P:Program) (w:World) (H:Hp) (s:Shared) (Q:VK) (u:Value) (s':Shared):Prop :=
  ∃ v H',s'.os=s.os∧GK s.gens s'.gens∧Un (frs outer) [] H H' s.heap s'.heap∧HOk P w H' s'.heap∧RelV v u∧Q v H'
noncomputable def CR (CX:CXT) (outer:List Env) (P:Program) (w:World) (H:Hp) (s:Shared) (Q:VK) (E:XK) (r:Result) (s':Shared):Prop :=
  match r with
  | .ok (.ret u)=>CE outer P w H s Q u s'
  | .ok _=>False
  | .error e=>CX outer H s E e s'
structure FnOk (P:Program) (w:World) (K:PySem.W.Frag) (mg:Str→Option Value) (base:Heap) (CX:CXT) (k:Nat) (f:Addr) (fd:FuncData) (ps:List Str) (sp:Sp):Prop where
  len:∀ vs H Q E,sp vs H Q E→vs.length=ps.length
  run:∀ (A:Around) (outer:List Env) (s:Shared) (H:Hp) (args:Args) (us:List Value) (vs:List V) (Q:VK) (E:XK),Room k A→Env0 P w K mg base A outer s H→BindsTo s fd args (ps.zip us)→Vals vs us→sp vs H Q E →
    codeAny (model P w) A (.call (.ref f) args) (CR CX outer P w H s Q E) s
section
variable {X:Cx} {pins:List (Addr × Obj)} {σ:St} {H:Hp} {s s':Shared}
theorem Inv.env0 (I:Inv X pins σ H s):Env0 X.prog X.w X.K X.mg X.base X.A X.stack s H :=
  ⟨I.ok.frames,I.ok.mod,I.bs,Nat.le_trans I.ok.bsz I.sz,I.stack,I.stkFree,I.hok,I.bare.bare,fun c T z=>let ⟨ps,e⟩:=I.ok.tab c T z;let ⟨m,e'⟩:=I.base.tbls _ _ e;⟨_,e'⟩⟩
theorem Inv.after {Q:VK} {u:Value} (I:Inv X pins σ H s) (h:CE X.stack X.prog X.w H s Q u s'):EP X pins σ Q u s':=by
  obtain ⟨v,H',os,bare,un,hok,r,q⟩:=h
  obtain ⟨hh,g,d,t,os'⟩:=s'
  obtain rfl:os'=s.os:=os
  exact ⟨v,H',I.call (h':=hh) (g':=g) (d':=d) (t':=t) (ch:=[]) un hok bare (fun b z=>absurd z (by simp)),r,q⟩
end
noncomputable def tCall (sp:Sp) (dvs:List V) (E:XK) (t:TA):TE:=fun σ H Q=>t σ H fun vs H1=>sp (vs++dvs) H1 Q E
noncomputable def Binds (K:PySem.W.Frag) (fd:FuncData) (ps:List Str) (ds:List Value):Prop :=
  ∀ (s:Shared) (us:List Value),K.In s.heap→(us++ds).length=ps.length→BindsTo s fd ⟨us,[]⟩ (ps.zip (us++ds))
theorem Binds.all {K:PySem.W.Frag} {fd:FuncData} {ps:List Str} (h:∀ us:List Value,us.length=ps.length→bindArgs fd ⟨us,[]⟩=pure (ps.zip us)):Binds K fd ps []:=fun s us _ hl=>by
  rw [List.append_nil] at hl ⊢
  exact .of_eq (h us hl)
noncomputable def Passes (CX:CXT) (X:Cx) (E:XK):Prop:=∀ (pins:List (Addr × Obj)) (σ:St) (H:Hp) (s:Shared) (e:Value) (s':Shared),Inv X pins σ H s→CX X.stack H s E e s'→X.xe e s'
section
variable {X:Cx} {CX:CXT} {k:Nat} {f C:Addr} {fd:FuncData} {ps:List Str} {sp:Sp} {dvs:List V} {ds:List Value} {E:XK} {x m:Str} {p pos apos:Pos} {e o:Expr} {es:List Expr} {ta:TE} {t:TA}
theorem qg6 {pins:List (Addr × Obj)} {σ:St} {H:Hp} {s:Shared} {Q:VK} {us:List Value} {vs:List V} (F:FnOk X.prog X.w X.K X.mg X.base CX k f fd ps sp) (hr:Room k X.A) (hb:Binds X.K fd ps ds) (hd:Vals dvs ds) (hx:Passes CX X E)
    (I:Inv X pins σ H s) (r:Vals vs us) (h:sp (vs++dvs) H Q E):wpAny (model X.prog X.w) X.A (call (.ref f) us) (EP X pins σ Q) X.xe s:=by
  have r2:Vals (vs++dvs) (us++ds):=r.append hd
  have hl:(us++ds).length=ps.length:=by rw [← r2.length];exact F.len _ _ _ _ h
  refine wpAny_call (codeAny_mono (F.run X.A X.stack s H ⟨us,[]⟩ (us++ds) (vs++dvs) Q E hr I.env0 (hb s us I.kIn hl) r2 h) fun r s' hq=>?_)
  cases r with
  | error e=>exact hx pins σ H s e s' I hq
  | ok fl =>
    cases fl with
    | ret u=>exact I.after hq
    | next=>exact False.elim hq
    | brk=>exact False.elim hq
    | cont=>exact False.elim hq
theorem qbM (F:FnOk X.prog X.w X.K X.mg X.base CX k f fd ps sp) (hr:Room k X.A) (hg:Gl X x) (hm:X.mg x=some (.ref f)) (hk:PySem.W.keepIn X.K (.ref f)=true) (hb:Binds X.K fd ps ds) (hd:Vals dvs ds) (hx:Passes CX X E)
    (ha:PA X (e::es) t) (hdb:(x == ("__debug__":Str))=false:=by decide) (he:starEach (e::es) X.env=(false,eval e X.env)::starEach es X.env:=by rfl) (hpl:(backTo pos (starEach es X.env)).any (·.1)=false:=by rfl) :
    PE X (.Call (.Name x p) (e::es) [] pos) (tCall sp dvs E t):=by
  intro pins s σ H Q I h
  refine wpAny_Call_Name_kw (yt I hg hm ?_ hdb)
  refine PySem.W.callWith_K (h₀:=X.base) I.ok.mod.kin hk (thn (ha pos pins s σ H _ I h) fun us s1 ⟨vs,H1,I1,r,q⟩=>⟨I1.kIn,?_⟩) he hpl
  exact qg6 F hr hb hd hx I1 r q
end
structure FnScope (N P:List Str) (sc:Scope):Prop where
  kind:sc.kind=.function
  co:sc.isCoroutine=false
  gen:sc.isGenerator=false
  nd:N.Nodup
  pre:N.take P.length=P
  par:∀ x∈P,sc.names.lookup x=some .local∨sc.names.lookup x=some .cell
  nofree:∀ y∈sc.names,y.2≠.free
theorem jC {kindOf:Str→Option NameKind} {x:Str}:∀ {binds:List (Str × Value)} {m:Str→Option Value},(∀ v,(x,v) ∉ binds)→bindL kindOf binds m x=m x
  | [],_,_=>rfl
  | (n,v)::r,m,h=>by
    unfold bindL
    rw [jC fun w hw=>h w (List.mem_cons_of_mem _ hw)]
    split
    · have:x≠n:=by rintro rfl;exact h v List.mem_cons_self
      simp [this]
    · rfl
theorem jD {kindOf:Str→Option NameKind} {x:Str}:∀ {binds:List (Str × Value)} {m:Str→Option Value},(∀ v,(x,v) ∉ binds)→bindC kindOf binds m x=m x
  | [],_,_=>rfl
  | (n,v)::r,m,h=>by
    unfold bindC
    rw [jD fun w hw=>h w (List.mem_cons_of_mem _ hw)]
    split
    · rfl
    · have:x≠n:=by rintro rfl;exact h v List.mem_cons_self
      simp [this]
theorem jE {kindOf:Str→Option NameKind} {x:Str} {v:Value}:∀ {P:List Str} {vs:List Value} {i:Nat} {m:Str→Option Value},P.Nodup→P[i]?=some x→vs[i]?=some v→kindOf x=some .local →
    bindL kindOf (P.zip vs) m x=some v
  | [],_,_,_,_,h,_,_=>by simp at h
  | _::_,[],_,_,_,_,h,_=>by simp at h
  | p::P,w::vs,0,m,nd,h1,h2,hk=>by
    simp at h1 h2;subst h1;subst h2
    show bindL kindOf ((p,w)::P.zip vs) m p=_
    unfold bindL
    rw [jC fun v hv=>(List.nodup_cons.mp nd).1 (List.of_mem_zip hv).1,if_pos hk]
    simp
  | p::P,w::vs,i+1,m,nd,h1,h2,hk=>by
    show bindL kindOf ((p,w)::P.zip vs) m x=_
    unfold bindL
    exact jE (i:=i) (List.nodup_cons.mp nd).2 (by simpa using h1) (by simpa using h2) hk
theorem jF {kindOf:Str→Option NameKind} {x:Str} {v:Value}:∀ {P:List Str} {vs:List Value} {i:Nat} {m:Str→Option Value},P.Nodup→P[i]?=some x→vs[i]?=some v→kindOf x≠some .local →
    bindC kindOf (P.zip vs) m x=some v
  | [],_,_,_,_,h,_,_=>by simp at h
  | _::_,[],_,_,_,_,h,_=>by simp at h
  | p::P,w::vs,0,m,nd,h1,h2,hk=>by
    simp at h1 h2;subst h1;subst h2
    show bindC kindOf ((p,w)::P.zip vs) m p=_
    unfold bindC
    rw [jD fun v hv=>(List.nodup_cons.mp nd).1 (List.of_mem_zip hv).1,if_neg hk]
    simp
  | p::P,w::vs,i+1,m,nd,h1,h2,hk=>by
    show bindC kindOf ((p,w)::P.zip vs) m x=_
    unfold bindC
    exact jF (i:=i) (List.nodup_cons.mp nd).2 (by simpa using h1) (by simpa using h2) hk
noncomputable def start (N:List Str) (vs:List V):St:=vs.map some++List.replicate (N.length-vs.length) none
noncomputable def cxOf (CX:CXT) (P:Program) (w:World) (K:PySem.W.Frag) (mg:Str→Option Value) (base:Heap) (N:List Str) (qual:Str) (scope:Scope) (f:Addr) (cd:Value) (A:Around) (outer:List Env) (s:Shared) (H:Hp) (E:XK):Cx where
  prog:=P
  w:=w
  K:=K
  mg:=mg
  base:=base
  A:=A.deeper (envOfC qual scope s.heap.objs.size f cd)
  N:=N
  s₀:=s
  H₀:=H
  env:=envOfC qual scope s.heap.objs.size f cd
  outer:=outer
  stack:=envOfC qual scope s.heap.objs.size f cd::outer
  ex:=[]
  calm:=true
  fn:=fun _=>true
  pn:=[]
  xe:=fun e s'=>wpAny (model P w) (A.deeper (envOfC qual scope s.heap.objs.size f cd)) (leaving (envOfC qual scope s.heap.objs.size f cd) e) (fun _ s''=>CX outer H s E e s'') (fun e' s''=>CX outer H s E e' s'') s'
theorem qav {sc:Scope} {n:Nat} {x:Str} (h:sc.names.lookup x=some .cell):∃ c,(cellsFrom n sc.names []).lookup x=some c:=by
  have q:=PySem.W.cellsFrom_some sc.names n [] (.inl h)
  exact Option.isSome_iff_exists.mp q
theorem qcI {CX:CXT} {P:Program} {w:World} {K:PySem.W.Frag} {mg:Str→Option Value} {base:Heap} {N ps:List Str} {qual:Str} {scope:Scope} {f:Addr} {cd:Value} {A:Around} {outer:List Env} {s s1:Shared} {H:Hp} {E:XK} {us:List Value} {vs:List V}
    (S:FnScope N ps scope) (hd:A.handled=none) (e0:Env0 P w K mg base A outer s H) (hl:vs.length=ps.length) (r:Vals vs us)
    (x:InCallC s s.heap.objs.size (bindL (envOfC qual scope s.heap.objs.size f cd).kindOf (ps.zip us) fun _=>none) (cellsFrom (s.heap.objs.size+1) scope.names []) (bindC (envOfC qual scope s.heap.objs.size f cd).kindOf (ps.zip us) fun _=>none) s1) :
    Inv (cxOf CX P w K mg base N qual scope f cd A outer s H E) [] (start N vs) H s1:=by
  have hpl:ps.length≤N.length:=by have:=congrArg List.length S.pre;rw [List.length_take] at this;lia
  obtain ⟨h1,tk,rfl,hk⟩:=x.done
  have noA:∀ b:Addr,b ∉ (cxOf CX P w K mg base N qual scope f cd A outer s H E).ex:=fun b z=>absurd (show b∈([]:List Addr) from z) (by simp)
  refine ⟨⟨e0.mod,S.kind,rfl,rfl,Nat.le_refl _,fun y z c h1 h2=>?_,fun y hy=>?_,fun y c _ h=>?_,fun _=>hd,Around.frames_deeper e0.frames,.inr ⟨rfl,rfl⟩,fun b z=>absurd z (noA b),e0.bs,e0.bsz,fun b _ _=>noA b,fun b z=>absurd z (noA b),e0.funs,e0.frf,e0.tab⟩,
    rfl,GK.refl e0.bare,Un.kept hk,⟨_,x.toInCall.ns,fun i y v h1 h2 h3=>?_⟩,fun y c h=>⟨_,x.cell y c h⟩,e0.hok.fresh (Nat.le_refl _),fun y c h=>?_,fun p hp=>absurd (show p∈([]:List (Addr × Obj)) from hp) (by simp),e0.hok.kept hk,?_⟩
  · exact name_of_addr x.apart (PySem.mem_of_lookup h1) (PySem.mem_of_lookup h2)
  · have hy:scope.names.lookup y=some .cell∨scope.names.lookup y=some .free:=hy
    rcases hy with hy | hy
    · exact qav hy
    · exact absurd rfl (S.nofree _ (PySem.mem_of_lookup hy))
  · exact Nat.le_of_lt (x.above y c (PySem.mem_of_lookup h))
  · have hi:i<vs.length:=by
      unfold start at h2
      by_cases hi:i<vs.length
      · exact hi
      · rw [List.getElem?_append_right (by simpa using hi)] at h2
        rw [List.getElem?_replicate] at h2
        split at h2 <;> cases h2
    have ha:vs[i]?=some v:=by
      unfold start at h2
      rw [List.getElem?_append_left (by simpa using hi),List.getElem?_map] at h2
      cases e:vs[i]? with
      | none=>rw [e] at h2;cases h2
      | some a=>rw [e] at h2;cases h2;rfl
    obtain ⟨u,hu,rv⟩:=r.get ha
    have hp:ps[i]?=some y:=by
      rw [← S.pre,List.getElem?_take_of_lt (by lia)];exact h1
    have ndP:ps.Nodup:=by rw [← S.pre];exact S.nd.sublist (List.take_sublist _ _)
    refine ⟨u,rv,?_⟩
    rcases S.par y (List.mem_of_getElem? hp) with k | k
    · exact .inl ⟨k,jE ndP hp hu k⟩
    · obtain ⟨c,e⟩:=qav (n:=s.heap.objs.size+1) k
      refine .inr ⟨.inl k,c,e,?_⟩
      have q:=x.cell y c e
      rw [jF ndP hp hu (by show scope.names.lookup y≠_;rw [k];decide)] at q
      exact q
  · exact e0.hok.fresh (Nat.le_of_lt (x.above y c (PySem.mem_of_lookup h)))
  · unfold start
    show _=N.length
    rw [List.length_append,List.length_map,List.length_replicate]
    lia
theorem qgn {CX:CXT} {P:Program} {w:World} {K:PySem.W.Frag} {mg:Str→Option Value} {base:Heap} {k:Nat} {f:Addr} {name qual:Str} {params:Arguments} {body:List Stmt} {scope:Scope} {dV kV doc pm cdv ct oc:Value} {an od:Option Addr}
    {osl:Array (Option Value)} {N ps:List Str} {sp:Sp} (lk:K.lookup f=some ⟨oc,od,.func (PySem.W.fnOf name qual params body scope dV kV doc pm an cdv ct),osl⟩) (hcd:PySem.W.codeIn K cdv qual=true) (S:FnScope N ps scope)
    (len:∀ vs H Q E,sp vs H Q E→vs.length=ps.length)
    (hbody:∀ (A:Around) (outer:List Env) (s:Shared) (H:Hp) (vs:List V) (Q:VK) (E:XK),Room k (A.deeper (envOfC qual scope s.heap.objs.size f cdv))→sp vs H Q E →
      ∃ t,PSs (cxOf CX P w K mg base N qual scope f cdv A outer s H E) body t∧t { nx:=fun _ H'=>Q .non H',rt:=Q } (start N vs) H) :
    FnOk P w K mg base CX (k+1) f (PySem.W.fnOf name qual params body scope dV kV doc pm an cdv ct) ps sp:=by
  refine ⟨len,fun A outer s H args us vs Q E hr e0 hb r hsp=>?_⟩
  have hl:=len _ _ _ _ hsp
  have KX:K.In s.heap:=e0.mod.kin.keeps fun b o e=>(e0.bs b o e).1
  have lim:s.heap.NoLimit:=e0.mod.nolimit.keeps fun b o e=>(e0.bs b o e).1
  have hkind:∀ y∈ps.zip us,scope.names.lookup y.1=some .local∨(scope.names.lookup y.1=some .cell∧((cellsFrom (s.heap.objs.size+1) scope.names []).lookup y.1).isSome=true):=fun ⟨n,v⟩ hy=>by
    rcases S.par n (List.of_mem_zip hy).1 with q | q
    · exact .inl q
    · exact .inr ⟨q,PySem.W.cellsFrom_some _ _ _ (.inl q)⟩
  refine codeAny_call_function hr.depth (KX _ _ lk) rfl S.co S.gen rfl (PySem.W.codeRec_of KX hcd) (hb _ _ _ _ ?_)
  refine wpAny_newFunctionEnv_cells S.kind hkind fun env he s1 x=>?_
  subst he
  refine ⟨lim.keeps x.toInCall.keep,codeAny_func ?_⟩
  obtain ⟨t,ht,hq⟩:=hbody A outer s H vs Q E (hr.deeper _) hsp
  have I:Inv (cxOf CX P w K mg base N qual scope f cdv A outer s H E) [] (start N vs) H s1:=qcI S hr.hd e0 hl r x
  refine wpAny_mono (ht [] s1 (start N vs) H _ I hq) (fun fl s' hs=>?_) fun e s' hs=>hs
  have fin:∀ {σ':St} {H':Hp} {v:V} {u:Value},Inv (cxOf CX P w K mg base N qual scope f cdv A outer s H E) [] σ' H' s'→RelV v u→Q v H'→CE outer P w H s Q u s' :=
    fun {σ' H' v u} J rv q=>⟨v,H',J.os,J.bare,J.base,J.hok,rv,q⟩
  cases fl with
  | ret u =>
    obtain ⟨v,σ',H',J,rv,q⟩:=hs
    exact fin J rv q
  | next =>
    obtain ⟨σ',H',J,q⟩:=hs
    exact fin (v:=V.non) (u:=Value.none) J rfl q
  | brk =>
    obtain ⟨_,_,_,q⟩:=hs
    exact False.elim q
  | cont =>
    obtain ⟨_,_,_,q⟩:=hs
    exact False.elim q
end L2
namespace L2
open PySem PySem.Spec PyProof.Rows
section
variable {X:Cx} {x:Str} {p pos:Pos} {e:Expr} {es:List Expr} {t:TA} {id T:String} {r:List V→Hp→VK→Prop}
noncomputable def tCB (r:List V→Hp→VK→Prop) (t:TA):TE:=fun σ H Q=>t σ H fun vs H1=>r vs H1 Q
theorem yu (hc:CallR X (.builtin id) r) (hg:Gl X x) (hm:X.mg x=none) (hv:bootBuiltins x=some (.builtin id)) (ha:PA X (e::es) t) (hn:x≠"__name__":=by decide) (hdb:(x == ("__debug__":Str))=false:=by decide)
    (he:starEach (e::es) X.env=(false,eval e X.env)::starEach es X.env:=by rfl) (hpl:(backTo pos (starEach es X.env)).any (·.1)=false:=by rfl):PE X (.Call (.Name x p) (e::es) [] pos) (tCB r t):=by
  intro pins s σ H Q I h
  refine wpAny_Call_Name_kw (yh I hg hm hv ?_ hn hdb)
  exact PyProof.Rows.callWith_builtin1 (thn (ha pos pins s σ H _ I h) fun us s1 ⟨vs,H1,I1,r1,q1⟩=>hc pins s1 σ H1 vs us Q I1 r1 q1) he hpl
theorem qcJ (hc:CallR X (.type T) r) (hg:Gl X x) (hm:X.mg x=none) (hv:bootBuiltins x=some (.type T)) (ha:PA X (e::es) t) (hn:x≠"__name__":=by decide) (hdb:(x == ("__debug__":Str))=false:=by decide)
    (he:starEach (e::es) X.env=(false,eval e X.env)::starEach es X.env:=by rfl) (hpl:(backTo pos (starEach es X.env)).any (·.1)=false:=by rfl):PE X (.Call (.Name x p) (e::es) [] pos) (tCB r t):=by
  intro pins s σ H Q I h
  refine wpAny_Call_Name_kw (yh I hg hm hv ?_ hn hdb)
  exact PyProof.Rows.callWith_type1 (thn (ha pos pins s σ H _ I h) fun us s1 ⟨vs,H1,I1,r1,q1⟩=>hc pins s1 σ H1 vs us Q I1 r1 q1) he hpl
end
end L2
namespace HT
open PySem PyProof.Rows
noncomputable def lexLt:List Int→List Int→Bool
  | [],[]=>false
  | [],_::_=>true
  | _::_,[]=>false
  | x::xs,y::ys=>if x=y then lexLt xs ys else decide (x<y)
theorem qN (x y:Int) (xs ys:List Int):lexLt (x::xs) (y::ys)=if x=y then lexLt xs ys else decide (x<y):=rfl
theorem z9:lexLt [] []=false:=rfl
theorem zH (y:Int) (ys:List Int):lexLt [] (y::ys)=true:=rfl
theorem zI (x:Int) (xs:List Int):lexLt (x::xs) []=false:=rfl
theorem qaw (A:Around) (s:Shared) (a:Int) (t:Tok) (c:Int) (u:Tok):∃ e,SeqAt.EqAt A s (.int a t) (.int c u) e∧(e=true ↔ a=c) :=
  ⟨(a == c),SeqAt.EqAt.int_int a t c u,by simp⟩
theorem qdu (A:Around) (s:Shared) (a:Int) (t:Tok) (c:Int) (u:Tok) (prog:Program) (w:World) (E:Value→Shared→Prop) (Q:Value→Shared→Prop) (h:Q (.bool (decide (a<c))) s) :
    wpAny (model prog w) A (richCompare .Lt (.int a t) (.int c u)) Q E s :=
  (PyProof.Rows.lt_int h:wpAny (model prog w) A (compareOp .Lt (.int a t) (.int c u)) Q E s)
section
open PySem.SeqAt
open PySem.AutoSeq1 (wpAny_loadPart')
open PySem.MeetsSeq PySem.MeetsSeq2 PySem.MeetsSeq3
theorem jw (l b:Addr) (items items2:Array Value) (n n2:Nat) (dd dd2:Option Addr) (sl sl2:Array (Option Value)) (ns ms:List Int) (hi:IntsAre items.toList ns) (hj:IntsAre items2.toList ms) :
    Meets (Builtin.«tuple.__lt__» ⟨[.ref l,.ref b],[]⟩)
      (fun _ R s=>s.heap.get? l=some { cls:=.type "tuple",dict:=dd,data:=.seq items n,slots:=sl }∧s.heap.get? b=some { cls:=.type "tuple",dict:=dd2,data:=.seq items2 n2,slots:=sl2 } ∧
        R (.ok (.ret (.bool (lexLt ns ms)))) s) :=
  .of_wp fun prog w A R s h=>by
    obtain ⟨hp,g,d,tk,os⟩:=s;obtain ⟨hl,hb,h⟩:=h
    have f2:=AutoSeq1.sub_tuple_tuple
    have z1:items.size=ns.length:=by rw [← hi.length];simp
    have z2:items2.size=ms.length:=by rw [← hj.length];simp
    wp_walk using wpAny_loadPart' hl,wpAny_loadPart' hb,wpAny_forIn_list _ (fun rest b s'=>b.1=none∧s'=⟨hp,g,d,tk,os⟩∧∃ (vs ws:List Value) (ns' ms':List Int),rest=vs.zip ws ∧
      IntsAre vs ns'∧IntsAre ws ms'∧ns'.length+items2.size=ms'.length+items.size∧R (.ok (.ret (.bool (lexLt ns' ms')))) ⟨hp,g,d,tk,os⟩) _
    case turn =>
      rintro ⟨y,x⟩ rest b s' ⟨hb',rfl,vs,ws,ns',ms',hz,hvi,hwi,hlen,hR⟩
      cases hvi with
      | nil=>rw [List.zip_nil_left] at hz;cases hz
      | cons a t hvi' =>
        cases hwi with
        | nil=>rw [List.zip_nil_right] at hz;cases hz
        | cons c u hwi' =>
          rw [List.zip_cons_cons] at hz
          injection hz with hyx hrest
          injection hyx with hy hx
          subst hy hx
          rw [qN] at hR
          simp only [List.length_cons] at hlen
          obtain ⟨e,he,hiff⟩:=qaw A.in1 ⟨hp,g,d,tk,os⟩ a t c u
          refine wpAny_bind (he prog w _ _ ?_)
          cases e with
          | true =>
            rw [if_pos (hiff.mp rfl)] at hR
            wp_walk
            exact ⟨rfl,rfl,_,_,_,_,hrest,hvi',hwi',by lia,hR⟩
          | false =>
            rw [if_neg (fun q=>absurd (hiff.mpr q) Bool.false_ne_true)] at hR
            have hri:=qdu A.in1 ⟨hp,g,d,tk,os⟩ a t c u prog w
            wp_walk using hri
            exact ⟨_,rfl,by simpa using hR⟩
    case fin =>
      rintro ⟨b1,b2⟩ s' ⟨hb',rfl,vs,ws,ns',ms',hz,hvi,hwi,hlen,hR⟩
      simp only at hb'
      subst hb'
      have hv:lexLt ns' ms'=decide (items.size<items2.size):=by
        cases hvi with
        | nil =>
          cases hwi with
          | nil =>
            simp only [List.length_nil] at hlen
            rw [z9]
            exact (decide_eq_false (by lia)).symm
          | cons c u hw =>
            simp only [List.length_nil,List.length_cons] at hlen
            rw [zH]
            exact (decide_eq_true (by lia)).symm
        | cons a t hv =>
          cases hwi with
          | nil =>
            simp only [List.length_nil,List.length_cons] at hlen
            rw [zI]
            exact (decide_eq_false (by lia)).symm
          | cons c u hw =>
            rw [List.zip_cons_cons] at hz
            cases hz
      rw [hv] at hR
      wp_walk
      exact ⟨_,rfl,by simpa [Builtin.Tuple.tupleCompareSizes] using hR⟩
    case h =>
      exact ⟨rfl,rfl,items.toList,items2.toList,ns,ms,rfl,hi,hj,by lia,h⟩
end
section
variable {prog:Program} {w:World} {A:Around} {E:Value→Shared→Prop} {s:Shared}
theorem qbb {l b:Addr} {items items2:Array Value} {ns ms:List Int} {Q:Value→Shared→Prop} (hl:IsTup s.heap l items) (hb:IsTup s.heap b items2) (hi:IntsAre items.toList ns) (hj:IntsAre items2.toList ms)
    (hu:A.units<cLine) (h:Q (.bool (lexLt ns ms)) s):wpAny (model prog w) A (compareOp .Lt (.ref l) (.ref b)) Q E s:=by
  obtain ⟨⟨cls,dd,data,sl⟩,ho,hc,n,hd⟩:=id hl
  obtain ⟨⟨cls2,dd2,data2,sl2⟩,ho2,hc2,n2,hd2⟩:=id hb
  simp only at hc hd hc2 hd2
  subst hc hd hc2 hd2
  exact richCompare_meets_room (op:=.Lt) ⟨_,ho,rfl⟩ ⟨_,ho2,rfl⟩ PySem.F.slot_tuple_lt PySem.F.entry_tuple_lt (PySem.F.args_tuple_lt_2 _ _) (jw l b items items2 n n2 dd dd2 sl sl2 ns ms hi hj)
    ⟨ho,ho2,show Value.bool (lexLt ns ms)≠Value.notImplemented∧Q (.bool (lexLt ns ms)) s from ⟨(fun x=>nomatch x),h⟩⟩ hu
theorem qfk {t b:Addr} {vs ws:List Value} {Q:Value→Shared→Prop} (ht:IsTup s.heap t vs.toArray) (hb:IsTup s.heap b ws.toArray) (hv:vs≠[])
    (h1:ws=[]→Q (.ref t) s) (h2:ws≠[]→Q (.ref s.heap.objs.size) { s with heap:=s.heap.push { cls:=.type "tuple",data:=.seq (vs++ws).toArray } })
    (hsz:vs.length+ws.length≤sizeLine):wpAny (model prog w) A (binaryOp .Add (.ref t) (.ref b)) Q E s:=by
  obtain ⟨⟨cls,dd,data,sl⟩,ho,hc,n,hd⟩:=id ht
  obtain ⟨⟨cls2,dd2,data2,sl2⟩,ho2,hc2,n2,hd2⟩:=id hb
  simp only at hc hd hc2 hd2
  subst hc hd hc2 hd2
  have e:vs.toArray++ws.toArray=(vs++ws).toArray:=by simp
  by_cases hw:ws=[]
  · exact concat_meets ⟨_,ho,rfl⟩ ⟨_,ho2,rfl⟩ noFill_tuple_add seq_tuple_add PySem.F.slot_tuple_add PySem.F.entry_tuple_add (PySem.F.args_tuple_add_2 _ _)
      (tuple_addW1 t b vs.toArray ws.toArray n n2 dd dd2 sl sl2 (by simpa using hv) (by simp [hw])) ⟨ho,ho2,h1 hw⟩
  · refine concat_meets ⟨_,ho,rfl⟩ ⟨_,ho2,rfl⟩ noFill_tuple_add seq_tuple_add PySem.F.slot_tuple_add PySem.F.entry_tuple_add (PySem.F.args_tuple_add_2 _ _)
      (tuple_addW2 t b vs.toArray ws.toArray n n2 dd dd2 sl sl2 (by simpa using hv) (by simpa using hw) (by rw [List.size_toArray,List.size_toArray];exact hsz)) ⟨ho,ho2,?_⟩
    rw [e]
    exact h2 hw
noncomputable def sIx (n d:Nat):Option Int→Nat
  | none=>d
  | some v=>if v<0 then (v+(n:Int)).toNat else min v.toNat n
theorem qbN (n d k:Nat):sIx n d (some (k:Int))=min k n:=by
  show (if (k:Int)<0 then ((k:Int)+(n:Int)).toNat else min (k:Int).toNat n)=min k n
  rw [if_neg (by lia),Int.toNat_natCast]
theorem qg7 (n d:Nat) (hd:d≤n) (o:Option Int):sIx n d o≤n:=by
  cases o with
  | none=>exact hd
  | some v =>
    show (if v<0 then (v+(n:Int)).toNat else min v.toNat n)≤n
    by_cases hv:v<0
    · rw [if_pos hv];lia
    · rw [if_neg hv];exact Nat.min_le_right _ _
theorem qbO (v:Int) (n d:Nat):(if v<0 then max (v+(n:Int)) 0 else min v (n:Int))=((sIx n d (some v):Nat):Int):=by
  show (if v<0 then max (v+(n:Int)) 0 else min v (n:Int))=(((if v<0 then (v+(n:Int)).toNat else min v.toNat n):Nat):Int)
  by_cases hv:v<0
  · simp only [if_pos hv];lia
  · simp only [if_neg hv];lia
theorem qbc (lo hi:Option Int) (n:Nat):Builtin.Slice.sliceAdjust lo hi 1 (n:Int)=(((sIx n 0 lo:Nat):Int),((sIx n n hi:Nat):Int)):=by
  have h1:¬ ((1:Int)<0):=by lia
  unfold Builtin.Slice.sliceAdjust
  simp only [h1,if_false]
  refine Prod.ext ?_ ?_
  · cases lo with
    | none=>rfl
    | some v=>exact qbO v n 0
  · cases hi with
    | none=>rfl
    | some v=>exact qbO v n n
theorem qbd (i j:Nat):Builtin.Slice.slicePlaces (i:Int) (j:Int) 1=j-i:=by
  unfold Builtin.Slice.slicePlaces
  have h1:(1:Int)>0:=by lia
  simp only [h1,if_true,Int.ediv_one]
  split <;> lia
theorem ja {v:Value} {o:Option Int} {Q:Option Int→Shared→Prop} (p:IsPart v o) (h:Q o s):wpAny (model prog w) A (Builtin.Slice.slicePartIndex v) Q E s:=by
  cases p with
  | none=>exact slicePart_none h
  | int i t=>exact slicePart_int h
theorem zu {sl:Addr} {vl vu:Value} {lo hi:Option Int} {n:Nat} {Q:Int × Int × Nat→Shared→Prop} (hs:s.heap.IsSliceOf sl vl vu .none) (pl:IsPart vl lo) (pu:IsPart vu hi)
    (h:Q (((sIx n 0 lo:Nat):Int),1,sIx n n hi-sIx n 0 lo) s):wpAny (model prog w) A (Builtin.Slice.sliceApplied (.ref sl) (pure (n:Int))) Q E s:=by
  obtain ⟨os,hos,hcs,hds⟩:=id hs
  unfold Builtin.Slice.sliceApplied Builtin.Slice.sliceFields
  refine wpAny_bind (wpAny_bind (wpAny_field hos hds (x:=vl) rfl (wpAny_bind (wpAny_field hos hds (x:=vu) rfl (wpAny_bind (wpAny_field hos hds (x:=.none) rfl (wpAny_pure ?_)))))))
  refine wpAny_bind (slicePart_none ?_)
  show wpAny _ _ (if ((1:Int) == 0)=true then _ else _) _ _ s
  rw [if_neg (by decide)]
  refine wpAny_bind (ja pl (wpAny_bind (ja pu (wpAny_bind (wpAny_pure ?_)))))
  show wpAny _ _ (match Builtin.Slice.sliceAdjust lo hi 1 (n:Int) with | (lo,hi)=>pure (lo,(1:Int),Builtin.Slice.slicePlaces lo hi 1)) _ _ s
  rw [qbc lo hi n]
  show wpAny _ _ (pure (((sIx n 0 lo:Nat):Int),(1:Int),Builtin.Slice.slicePlaces ((sIx n 0 lo:Nat):Int) ((sIx n n hi:Nat):Int) 1)) _ _ s
  rw [qbd]
  exact wpAny_pure h
theorem qdv (xs:Array Value) (i k:Nat):((List.range k).filterMap fun (m:Nat)=>xs[((i:Int)+(m:Int)*1).toNat]?).toArray=((xs.toList.drop i).take k).toArray:=by
  have e:(fun (m:Nat)=>xs[((i:Int)+(m:Int)*1).toNat]?)=fun m=>xs[i+m]?:=by
    funext m
    have:((i:Int)+(m:Int)*1).toNat=i+m:=by lia
    rw [this]
  rw [e]
  have:=pick_run xs i k
  rw [List.filterMap_map] at this
  have e2:((fun x=>xs[x]?)∘fun x=>i+x)=fun m=>xs[i+m]?:=rfl
  rw [e2] at this
  rw [this]
theorem yv {t sl:Addr} {items:Array Value} {vl vu:Value} {lo hi:Option Int} {Q:Value→Shared→Prop} (ht:IsTup s.heap t items) (hs:s.heap.IsSliceOf sl vl vu .none) (pl:IsPart vl lo) (pu:IsPart vu hi)
    (hw:¬ (sIx items.size 0 lo=0∧sIx items.size items.size hi=items.size))
    (h:Q (.ref s.heap.objs.size) { s with heap:=s.heap.push { cls:=.type "tuple",data:=.seq ((items.toList.drop (sIx items.size 0 lo)).take (sIx items.size items.size hi-sIx items.size 0 lo)).toArray } })
    (hsz:items.size≤sizeLine):wpAny (model prog w) A (getItem (.ref t) (.ref sl)) Q E s:=by
  have htake:sizeOk (.seq ((items.toList.drop (sIx items.size 0 lo)).take (sIx items.size items.size hi-sIx items.size 0 lo)).toArray):=by
    show ((items.toList.drop (sIx items.size 0 lo)).take (sIx items.size items.size hi-sIx items.size 0 lo)).toArray.size≤sizeLine
    rw [List.size_toArray,List.length_take,List.length_drop,Array.length_toList]
    lia
  have hj:sIx items.size items.size hi≤items.size:=qg7 _ _ (Nat.le_refl _) hi
  obtain ⟨os,hos,hcs,hds⟩:=id hs
  have hTs:s.TypeIs (.ref sl) "slice":=⟨os,hos,hcs⟩
  unfold getItem
  try with_reducible refine wpAny_holding ?_
  first | refine wpAny_bind (wpAny_pure ?_) | skip
  refine wpAny_bind (wpAny_sequenceKey ht.typeIs (by decide) ?_)
  refine wpAny_bind (wpAny_callSpecial?_slot (name:=Str.ofString "__getitem__") ht.typeIs PyProof.Rows.slot_tuple_getitem
    (wpAny_call_entry PyProof.Rows.slot_tuple_getitem ht.typeIs entry_tuple_getitem ?_ (args_tuple_getitem _ _)))
  show wpAny _ _ (Builtin.Tuple.tupleItemsOf (.ref t) >>= _) _ _ s
  refine wpAny_bind (tupleItemsOf_ ht ?_)
  refine wpAny_bind (wpAny_typeOf hTs ?_)
  rw [if_pos (by decide)]
  refine wpAny_bind (zu hs pl pu ?_)
  have hno:¬ ((((sIx items.size 0 lo:Nat):Int) == 0&&(1:Int) == 1&&(sIx items.size items.size hi-sIx items.size 0 lo) == items.size)=true):=by
    intro q
    rw [Bool.and_eq_true,Bool.and_eq_true] at q
    have q1:((sIx items.size 0 lo:Nat):Int)=0:=eq_of_beq q.1.1
    have q2:sIx items.size items.size hi-sIx items.size 0 lo=items.size:=eq_of_beq q.2
    exact hw ⟨by lia,by lia⟩
  show wpAny _ _ (if (((sIx items.size 0 lo:Nat):Int) == 0&&(1:Int) == 1&&(sIx items.size items.size hi-sIx items.size 0 lo) == items.size)=true then _ else _) _ _ s
  rw [if_neg hno,qdv]
  first
    | exact wpAny_bind (m:=Builtin.Tuple.tupleExact _) (wpAny_newObj_type (wpAny_pure ⟨_,rfl,wpAny_pure h⟩) htake)
    | exact wpAny_bind (m:=Builtin.Tuple.tupleExact _) (wpAny_newObj_type (wpAny_bind (wpAny_pure (wpAny_pure ⟨_,rfl,wpAny_pure h⟩))) htake)
    | exact wpAny_bind (wpAny_bind (m:=Builtin.Tuple.tupleExact _) (wpAny_newObj_type (wpAny_pure (wpAny_pure ⟨_,rfl,wpAny_pure h⟩)) htake))
    | exact wpAny_bind (wpAny_bind (m:=Builtin.Tuple.tupleExact _) (wpAny_newObj_type (wpAny_pure ⟨_,rfl,wpAny_pure h⟩) htake))
end
end HT
namespace L2
open PySem PySem.Spec PyProof.Rows
noncomputable abbrev TO:=St→Hp→(Option Int→Hp→Prop)→Prop
noncomputable def PO (X:Cx) (e:Option Expr) (t:TO):Prop :=
  ∀ (pins:List (Addr × Obj)) (s:Shared) (σ:St) (H:Hp) (Q:Option Int→Hp→Prop),Inv X pins σ H s→t σ H Q →
    wpAny (model X.prog X.w) X.A (evalPart e X.env) (fun u s'=>∃ o H',Inv X pins σ H' s'∧IsPart u o∧Q o H') X.xe s
noncomputable def tNoPart:TO:=fun _ H Q=>Q none H
noncomputable def tPart (t:TE):TO:=fun σ H Q=>t σ H fun x H1=>∃ i,x=.int i∧Q (some i) H1
theorem qO {ns:List Int}:∀ {us:List Value},Vals (ns.map V.int) us→IntsAre us ns:=by
  induction ns with
  | nil=>intro us r;rw [List.map_nil] at r;cases r;exact .nil
  | cons n ns ih =>
    intro us r
    rw [List.map_cons] at r
    cases r with
    | cons r1 r2 =>
      obtain ⟨t,e⟩:=r1
      subst e
      exact .cons n t (ih r2)
section
variable {X:Cx} {e:Expr} {te:TE} {lo hi:Option Expr} {tl th:TO} {pos p2:Pos}
theorem qfl:PO X none tNoPart:=by
  intro pins s σ H Q I h
  rw [evalPart_none]
  exact wpAny_pure ⟨none,H,I,.none,h⟩
theorem qfm (h:PE X e te):PO X (some e) (tPart te):=by
  intro pins s σ H Q I hw
  rw [evalPart_some]
  refine thn (h pins s σ H _ I hw) fun u s1 ⟨x,H1,I1,r1,q1⟩=>?_
  obtain ⟨i,rfl,q⟩:=q1
  obtain ⟨t,rfl⟩:=r1
  exact ⟨some i,H1,I1,.int i t,q⟩
noncomputable def SlR (X:Cx) (r:V→Option Int→Option Int→Hp→VK→Prop):Prop :=
  ∀ (pins:List (Addr × Obj)) (s:Shared) (σ:St) (H:Hp) (x:V) (v vl vu:Value) (lo hi:Option Int) (sl:Addr) (Q:VK),Inv X pins σ H s→RelV x v→s.heap.IsSliceOf sl vl vu .none→IsPart vl lo→IsPart vu hi→r x lo hi H Q →
    ∃ T id,typeLookup (.type T) "__getitem__"=pure (some (.builtin id))∧s.TypeIs v T∧wpAny (model X.prog X.w) X.A (getItem v (.ref sl)) (EP X pins σ Q) X.xe s
theorem SlR.or {r r':V→Option Int→Option Int→Hp→VK→Prop} (h:SlR X r) (h':SlR X r'):SlR X (fun x lo hi H Q=>r x lo hi H Q∨r' x lo hi H Q):=by
  intro pins s σ H x v vl vu lo hi sl Q I rx hs pl pu q
  rcases q with q | q
  · exact h pins s σ H x v vl vu lo hi sl Q I rx hs pl pu q
  · exact h' pins s σ H x v vl vu lo hi sl Q I rx hs pl pu q
noncomputable def tSl (r:V→Option Int→Option Int→Hp→VK→Prop) (te:TE) (tl th:TO):TE:=fun σ H Q=>te σ H fun x H1=>tl σ H1 fun l H2=>th σ H2 fun u H3=>r x l u H3 Q
theorem qdw {r:V→Option Int→Option Int→Hp→VK→Prop} (hr:SlR X r) (he:PE X e te) (hl:PO X lo tl) (hu:PO X hi th):PE X (.Subscript e (.Slice lo hi none p2) pos) (tSl r te tl th):=by
  intro pins s σ H Q I h
  refine Subscript_ (thn (he pins s σ H _ I h) fun v s1 ⟨x,H1,I1,r1,q1⟩=>?_)
  refine wpAny_Slice (thn (hl pins s1 σ H1 _ I1 q1) fun vl s2 ⟨l,H2,I2,pl,q2⟩=>thn (hu pins s2 σ H2 _ I2 q2) fun vu s3 ⟨u,H3,I3,pu,q3⟩=>?_)
  rw [evalPart_none]
  refine wpAny_pure ?_
  have I4:Inv X pins σ H3 { s3 with heap:=s3.heap.push { cls:=.type "slice",data:=.fields #[vl,vu,.none] } }:=I3.kept (t':=s3.toks) fun b ob q=>Heap.get?_push_of_some _ q
  obtain ⟨T,id,hT,ht,hg⟩:=hr pins { s3 with heap:=s3.heap.push { cls:=.type "slice",data:=.fields #[vl,vu,.none] } } σ H3 x v vl vu l u s3.heap.objs.size Q I4 r1 (Heap.IsSliceOf.new ..) pl pu q3
  show wpAny (model X.prog X.w) X.A (subscriptTail e (.Slice lo hi none p2) v (.ref s3.heap.objs.size)) (EP X pins σ Q) X.xe { s3 with heap:=s3.heap.push { cls:=.type "slice",data:=.fields #[vl,vu,.none] } }
  exact tail_any (ops:=[.ref s3.heap.objs.size,v]) ht hT hg (by with_unfolding_all rfl)
noncomputable def cutV (xs:List V) (lo hi:Option Int):List V:=(xs.drop (HT.sIx xs.length 0 lo)).take (HT.sIx xs.length xs.length hi-HT.sIx xs.length 0 lo)
theorem yS (xs:List V) (lo hi:Option Int):(cutV xs lo hi).length≤xs.length:=by
  unfold cutV
  rw [List.length_take,List.length_drop]
  lia
noncomputable def rSlT (K:PySem.W.Frag):V→Option Int→Option Int→Hp→VK→Prop:=fun x lo hi H Q=>∃ a xs,x=.ref a∧SqT K H a xs ∧
  ¬ (HT.sIx xs.length 0 lo=0∧HT.sIx xs.length xs.length hi=xs.length)∧∀ p,H p=none→Q (.ref p) (upd H p (.tup (cutV xs lo hi)))
theorem qg8:SlR X (rSlT X.K):=by
  intro pins s σ H x v vl vu lo hi sl Q I rx hs pl pu h
  obtain ⟨a,xs,rfl,hx,hw,q⟩:=h
  cases rx
  obtain ⟨its,r,ht,hz⟩:=I.tuple hx
  have hlen:its.toArray.size=xs.length:=by rw [List.size_toArray];exact r.length.symm
  refine ⟨"tuple",_,PyProof.Rows.slot_tuple_getitem.lookup,ht.typeIs,?_⟩
  refine HT.yv ht hs pl pu (by rw [hlen];exact hw) ?_ (by rw [hlen];exact hz)
  rw [hlen]
  refine ⟨.ref s.heap.objs.size,_,I.laid (t':=s.toks) (o:=.tup (cutV xs lo hi)) (fun b ob q=>Heap.get?_push_of_some _ q) (Nat.le_refl _) ?_,rfl,q _ (I.hok.fresh (Nat.le_refl _))⟩
  exact ⟨Nat.le_trans (yS xs lo hi) hz,_,(r.drop (HT.sIx xs.length 0 lo)).take (HT.sIx xs.length xs.length hi-HT.sIx xs.length 0 lo),IsTup.new _ _,zW _ _⟩
noncomputable def rLtT (K:PySem.W.Frag):R2:=fun x y H Q=>∃ a b ns ms,x=.ref a∧y=.ref b∧SqT K H a (ns.map V.int)∧SqT K H b (ms.map V.int)∧Q (.bl (HT.lexLt ns ms)) H
theorem qg9 (hu:X.A.units<cLine):OpR X (compareOp .Lt) (rLtT X.K):=by
  intro pins s σ H x y v u Q I rx ry h
  obtain ⟨a,b,ns,ms,rfl,rfl,ha,hb,q⟩:=h
  cases rx
  cases ry
  obtain ⟨its,r1,p1,_⟩:=I.tuple ha
  obtain ⟨its2,r2,p2,_⟩:=I.tuple hb
  have i1:IntsAre its.toArray.toList ns:=qO r1
  have i2:IntsAre its2.toArray.toList ms:=qO r2
  exact HT.qbb p1 p2 i1 i2 hu ⟨.bl (HT.lexLt ns ms),H,I,rfl,q⟩
noncomputable def rCatT (K:PySem.W.Frag):R2:=fun x y H Q=>∃ a b xs ys,x=.ref a∧y=.ref b∧SqT K H a xs∧SqT K H b ys∧xs≠[]∧xs.length+ys.length≤sizeLine ∧
  (ys=[]→Q (.ref a) H)∧(ys≠[]→∀ p,H p=none→Q (.ref p) (upd H p (.tup (xs++ys))))
theorem Vals.nil_iff {xs:List V} {us:List Value} (r:Vals xs us):us=[] ↔ xs=[]:=by
  cases r with
  | nil=>simp
  | cons _ _=>simp
theorem qfn:OpR X (binaryOp .Add) (rCatT X.K):=by
  intro pins s σ H x y v u Q I rx ry h
  obtain ⟨a,b,xs,ys,rfl,rfl,ha,hb,hx,hz,q1,q2⟩:=h
  cases rx
  cases ry
  obtain ⟨its,r1,p1,_⟩:=I.tuple ha
  obtain ⟨its2,r2,p2,_⟩:=I.tuple hb
  refine HT.qfk p1 p2 (fun z=>hx (r1.nil_iff.mp z)) (fun z=>⟨.ref a,H,I,rfl,q1 (r2.nil_iff.mp z)⟩) (fun z=>?_) (by rw [← r1.length,← r2.length];exact hz)
  refine ⟨.ref s.heap.objs.size,_,I.laid (t':=s.toks) (o:=.tup (xs++ys)) (fun b ob q=>Heap.get?_push_of_some _ q) (Nat.le_refl _) ?_,rfl,q2 (fun w=>z (r2.nil_iff.mpr w)) _ (I.hok.fresh (Nat.le_refl _))⟩
  exact ⟨by rw [List.length_append];exact hz,_,r1.append r2,IsTup.new _ _,zW _ _⟩
end
end L2
namespace L2
open PySem PySem.Spec PyProof.Rows
noncomputable def ixN (n:Nat) (i:Int):Option Nat:=if 0≤i then (if i<n then some i.toNat else none) else if -(n:Int)≤i then some (i+n).toNat else none
noncomputable def atI {α:Type} (xs:List α) (i:Int):Option α:=(ixN xs.length i).bind fun j=>xs[j]?
theorem qbP {n:Nat} {i:Int} {j:Nat} (h:ixN n i=some j):seqIndex? i n=some j∧j<n∧-(n:Int)≤i∧i<n:=by
  unfold ixN at h
  by_cases h0:0≤i
  · rw [if_pos h0] at h
    by_cases h1:i<n
    · rw [if_pos h1] at h
      have e:i.toNat=j:=Option.some.inj h
      exact ⟨by rw [seqIndex_of h0 h1,e],by lia,by lia,h1⟩
    · rw [if_neg h1] at h;cases h
  · rw [if_neg h0] at h
    by_cases h1:-(n:Int)≤i
    · rw [if_pos h1] at h
      have e:(i+n).toNat=j:=Option.some.inj h
      exact ⟨by rw [seqIndex_neg (by lia) h1,e],by lia,h1,by lia⟩
    · rw [if_neg h1] at h;cases h
theorem qbQ {α:Type} {xs:List α} {i:Int} {v:α} (h:atI xs i=some v):∃ j,seqIndex? i xs.length=some j∧xs[j]?=some v∧j<xs.length∧-(xs.length:Int)≤i∧i<xs.length:=by
  unfold atI at h
  cases e:ixN xs.length i with
  | none=>rw [e] at h;cases h
  | some j =>
    rw [e] at h
    obtain ⟨h1,h2,h3,h4⟩:=qbP e
    exact ⟨j,h1,h,h2,h3,h4⟩
noncomputable def PlainIx (b:Expr):Prop:=∀ o i,subscripted b false o i=operate [o,i] (getItem o i)
noncomputable def IxR (X:Cx) (r:R2):Prop :=
  ∀ (value slice:Expr) (pins:List (Addr × Obj)) (s:Shared) (σ:St) (H:Hp) (x y:V) (v u:Value) (Q:VK),Inv X pins σ H s→RelV x v→RelV y u→r x y H Q →
    subscripted slice false v u=operate [v,u] (getItem v u)→wpAny (model X.prog X.w) X.A (subscriptTail value slice v u) (EP X pins σ Q) X.xe s
noncomputable def MtR (X:Cx) (id:String) (r:V→List V→Hp→VK→Prop):Prop :=
  ∀ (pins:List (Addr × Obj)) (s:Shared) (σ:St) (H:Hp) (x:V) (xs:List V) (v:Value) (us:List Value) (Q:VK),Inv X pins σ H s→RelV x v→Vals xs us→r x xs H Q →
    wpAny (model X.prog X.w) X.A (call (.builtin id) (v::us)) (EP X pins σ Q) X.xe s
section
variable {X:Cx} {a b:Expr} {ta tb:TE} {pos:Pos}
theorem IxR.or {r r':R2} (h:IxR X r) (h':IxR X r'):IxR X (fun x y H Q=>r x y H Q∨r' x y H Q):=by
  intro value slice pins s σ H x y v u Q I rx ry q hs
  rcases q with q | q
  · exact h value slice pins s σ H x y v u Q I rx ry q hs
  · exact h' value slice pins s σ H x y v u Q I rx ry q hs
theorem qim {r:R2} (hr:IxR X r) (ha:PE X a ta) (hb:PE X b tb) (hs:PlainIx b):PE X (.Subscript a b pos) (tOp r ta tb):=by
  intro pins s σ H Q I h
  exact Subscript_ (binT ha hb I h fun v u s2 x y H2 I2 rx ry q=>hr a b pins s2 σ H2 x y v u Q I2 rx ry q (hs _ _))
noncomputable def rIxL (K:PySem.W.Frag):R2:=fun x y H Q=>∃ p xs i v,x=.ref p∧y=.int i∧SqL K H p xs∧atI xs i=some v∧Q v H
noncomputable def rIxT (K:PySem.W.Frag):R2:=fun x y H Q=>∃ p xs i v,x=.ref p∧y=.int i∧SqT K H p xs∧atI xs i=some v∧Q v H
theorem qfo:IxR X (rIxL X.K):=by
  intro value slice pins s σ H x y v u Q I rx ry h hs
  obtain ⟨p,xs,i,z,rfl,rfl,hq,he,q⟩:=h
  cases rx
  obtain ⟨t,rfl⟩:=ry
  obtain ⟨its,r,pl,hz⟩:=I.list hq
  obtain ⟨j,h1,h2,h3,h4,h5⟩:=qbQ he
  obtain ⟨w,ew,rw'⟩:=r.get h2
  have hl:=r.length
  have hn:=line63
  have fin:EP X pins σ Q w s:=⟨z,H,I,rw',q⟩
  by_cases h0:0≤i
  · have hj:i.toNat=j:=by
      rw [seqIndex_of h0 h5] at h1
      exact Option.some.inj h1
    exact item_listR pl.isList h0 (by lia) (by rw [hj];simpa using ew) fin hs
  · have hj:(i+(its.toArray.size:Int)).toNat=j:=by
      rw [seqIndex_neg (by lia) h4] at h1
      rw [List.size_toArray,← hl]
      exact Option.some.inj h1
    exact subscriptTail_builtinR (x:=w) pl.isList.typeIs slot_list_getitem.lookup
      (wpAny_getItem_list_neg (Q:=fun r s'=>r=w∧EP X pins σ Q r s') pl.isList (by lia) (by rw [List.size_toArray] <;> lia) (by lia) (by rw [hj];simpa using ew) ⟨rfl,fin⟩) hs
theorem qha:IxR X (rIxT X.K):=by
  intro value slice pins s σ H x y v u Q I rx ry h hs
  obtain ⟨p,xs,i,z,rfl,rfl,hq,he,q⟩:=h
  cases rx
  obtain ⟨t,rfl⟩:=ry
  obtain ⟨its,r,pl,hz⟩:=I.tuple hq
  obtain ⟨j,h1,h2,h3,h4,h5⟩:=qbQ he
  obtain ⟨w,ew,rw'⟩:=r.get h2
  have hl:=r.length
  have hn:=line63
  have fin:EP X pins σ Q w s:=⟨z,H,I,rw',q⟩
  exact subscriptTail_builtinR (x:=w) pl.typeIs slot_tuple_getitem.lookup
    (getItem_tuple (j:=j) (Q:=fun r s'=>r=w∧EP X pins σ Q r s') pl (by lia) (by lia) (by rw [List.size_toArray,← hl];exact h1) (by simpa using ew) ⟨rfl,fin⟩) hs
theorem qbe (its:List Value) (n j:Nat) (u:Value):Obj.mapSeq (·.setIfInBounds j u) { cls:=.type "list",data:=.seq its.toArray n }={ cls:=.type "list",data:=.seq (its.set j u).toArray n }:=by
  simp [Obj.mapSeq]
theorem Inv.lst {pins:List (Addr × Obj)} {σ:St} {H:Hp} {s:Shared} {p:Addr} {xs:List V} (I:Inv X pins σ H s) (h:H p=some (.lst xs)) :
    ∃ (its:List Value) (n:Nat),Vals xs its∧s.heap.get? p=some { cls:=.type "list",data:=.seq its.toArray n }∧xs.length≤sizeLine:=by
  obtain ⟨z,its,n,r,e⟩:=I.hok p _ h
  exact ⟨its,n,r,e,z⟩
theorem Inv.lstUpd {pins:List (Addr × Obj)} {σ:St} {H:Hp} {s:Shared} {p:Addr} {xs ys:List V} {its its':List Value} {n n':Nat} {f:Obj→Obj} (I:Inv X pins σ H s) (h:H p=some (.lst xs))
    (ho:s.heap.get? p=some { cls:=.type "list",data:=.seq its.toArray n }) (hf:f { cls:=.type "list",data:=.seq its.toArray n }={ cls:=.type "list",data:=.seq its'.toArray n' }) (r:Vals ys its') (hz:ys.length≤sizeLine) (t:Nat) :
    Inv X pins σ (upd H p (.lst ys)) { s with heap:=s.heap.update p f,toks:=t }:=by
  have e:(s.heap.update p f).get? p=some { cls:=.type "list",data:=.seq its'.toArray n' }:=by
    rw [Heap.get?_update_self f ho (by rw [hf] <;> rfl),hf]
  refine I.write (x:=p) (e:=p) (by rw [h];trivial) (.inl rfl) (fun b u hb q=>(Heap.get?_update_other _ _ (Ne.symm hb)).trans q) ⟨_,e⟩ ?_
  exact ⟨hz,its',n',r,e⟩
noncomputable def rSetL:V→V→V→Hp→(Hp→Prop)→Prop:=fun o i v H Q=>∃ p xs k j,o=.ref p∧i=.int k∧H p=some (.lst xs)∧ixN xs.length k=some j∧Q (upd H p (.lst (xs.set j v)))
theorem qdx:PSet X rSetL:=by
  intro pins s σ H o i v ov iv u Q I ro ri rv h
  obtain ⟨p,xs,k,j,rfl,rfl,hp,hj,q⟩:=h
  cases ro
  obtain ⟨t,rfl⟩:=ri
  obtain ⟨its,n,r,ho,hz⟩:=I.lst hp
  obtain ⟨h1,h2,h3,h4⟩:=qbP hj
  have hl:=r.length
  have hn:=line63
  have I':Inv X pins σ (upd H p (.lst (xs.set j v))) { s with heap:=s.heap.update p (Obj.mapSeq (·.setIfInBounds j u)) } :=
    I.lstUpd hp ho (qbe its n j u) (r.set rv j) (by rw [List.length_set];exact hz) s.toks
  by_cases h0:0≤k
  · have hk:k.toNat=j:=by
      rw [seqIndex_of h0 h4] at h1
      exact Option.some.inj h1
    exact PySem.W.ki_setAt ho h0 (by lia) (by rw [List.size_toArray,← hl];exact h4) (by rw [hk];exact ⟨_,I',q⟩)
  · have hk:(k+(its.toArray.size:Int)).toNat=j:=by
      rw [seqIndex_neg (by lia) h3] at h1
      rw [List.size_toArray,← hl]
      exact Option.some.inj h1
    exact PySem.W.ki_setBack ho (by lia) (by rw [List.size_toArray,← hl];exact h3) (by lia) (by rw [hk];exact ⟨_,I',q⟩)
theorem jX (lo hi:Option Int) (n:Nat):(sliceBounds lo hi none n).1=((HT.sIx n 0 lo:Nat):Int)∧(sliceBounds lo hi none n).2.1=((HT.sIx n n hi:Nat):Int)∧(sliceBounds lo hi none n).2.2=1:=by
  refine ⟨?_,?_,rfl⟩
  · cases lo with
    | none=>simp [sliceBounds,HT.sIx]
    | some i =>
      simp only [sliceBounds,HT.sIx,Option.getD_none,show (1:Int)>0 by decide,if_true]
      by_cases h:i<0
      · simp only [h,if_true] <;> lia
      · simp only [h,if_false] <;> lia
  · cases hi with
    | none=>simp [sliceBounds,HT.sIx]
    | some i =>
      simp only [sliceBounds,HT.sIx,Option.getD_none,show (1:Int)>0 by decide,if_true]
      by_cases h:i<0
      · simp only [h,if_true] <;> lia
      · simp only [h,if_false] <;> lia
theorem jx (its:List Value) (lo hi:Option Int):slicePick its.toArray lo hi none=((its.drop (HT.sIx its.length 0 lo)).take (HT.sIx its.length its.length hi-HT.sIx its.length 0 lo)).toArray:=by
  obtain ⟨h1,h2,h3⟩:=jX lo hi its.toArray.size
  unfold slicePick
  rw [h1,h2,h3]
  simp only [sliceRange_one,pick_run,List.size_toArray] <;> rfl
noncomputable def rSlL (K:PySem.W.Frag):V→Option Int→Option Int→Hp→VK→Prop:=fun x lo hi H Q=>∃ a xs,x=.ref a∧SqL K H a xs∧∀ p,H p=none→Q (.ref p) (upd H p (.lst (cutV xs lo hi)))
theorem qfp:SlR X (rSlL X.K):=by
  intro pins s σ H x v vl vu lo hi sl Q I rx hs pl pu h
  obtain ⟨a,xs,rfl,hx,q⟩:=h
  cases rx
  obtain ⟨its,r,ht,hz⟩:=I.list hx
  have hlen:=r.length
  refine ⟨"list",_,slot_list_getitem.lookup,ht.isList.typeIs,?_⟩
  refine wpAny_getItem_list_slice ht.isList hs pl pu .none (by simp) ?_ (by rw [List.size_toArray] <;> lia)
  rw [jx,← hlen]
  refine ⟨.ref s.heap.objs.size,_,I.laid (t':=s.toks) (o:=.lst (cutV xs lo hi)) (fun b ob q=>Heap.get?_push_of_some _ q) (Nat.le_refl _) ?_,rfl,q _ (I.hok.fresh (Nat.le_refl _))⟩
  exact ⟨Nat.le_trans (yS xs lo hi) hz,_,0,(r.drop (HT.sIx xs.length 0 lo)).take (HT.sIx xs.length xs.length hi-HT.sIx xs.length 0 lo),Heap.get?_push_size _ rfl⟩
noncomputable def flatV:V→Bool
  | .non=>true
  | .bl _=>true
  | .int _=>true
  | .str _=>true
  | _=>false
noncomputable def eqV:V→V→Bool
  | .non,.non=>true
  | .bl a,.bl b=>a == b
  | .bl a,.int b=>(if a then 1 else 0) == b
  | .int a,.bl b=>a == (if b then 1 else 0)
  | .int a,.int b=>a == b
  | .str a,.str b=>a == b
  | _,_=>false
theorem qhb {A:Around} {s:Shared} {y x:V} {u v:Value} (ry:RelV y u) (rx:RelV x v) (fy:flatV y=true) (fx:flatV x=true):SeqAt.EqAt A s u v (eqV y x):=by
  cases y with
  | non =>
    cases ry
    cases x with
    | non=>cases rx;exact SeqAt.EqAt.same _
    | bl b=>cases rx;exact SeqAt.EqAt.none_bool b
    | int b=>obtain ⟨t,rfl⟩:=rx;exact SeqAt.EqAt.none_int b t
    | str b=>obtain ⟨t,rfl⟩:=rx;exact SeqAt.EqAt.none_str b t
    | _=>exact absurd (show false=true from fx) Bool.false_ne_true
  | bl a =>
    cases ry
    cases x with
    | non=>cases rx;exact SeqAt.EqAt.bool_none a
    | bl b=>cases rx;exact SeqAt.EqAt.bool_bool a b
    | int b=>obtain ⟨t,rfl⟩:=rx;exact SeqAt.EqAt.bool_int a b t
    | str b=>obtain ⟨t,rfl⟩:=rx;exact SeqAt.EqAt.bool_str a b t
    | _=>exact absurd (show false=true from fx) Bool.false_ne_true
  | int a =>
    obtain ⟨t',rfl⟩:=ry
    cases x with
    | non=>cases rx;exact SeqAt.EqAt.int_none a t'
    | bl b=>cases rx;exact SeqAt.EqAt.int_bool a t' b
    | int b=>obtain ⟨t,rfl⟩:=rx;exact SeqAt.EqAt.int_int a t' b t
    | str b=>obtain ⟨t,rfl⟩:=rx;exact SeqAt.EqAt.int_str a t' b t
    | _=>exact absurd (show false=true from fx) Bool.false_ne_true
  | str a =>
    obtain ⟨t',rfl⟩:=ry
    cases x with
    | non=>cases rx;exact SeqAt.EqAt.str_none a t'
    | bl b=>cases rx;exact SeqAt.EqAt.str_bool a t' b
    | int b=>obtain ⟨t,rfl⟩:=rx;exact SeqAt.EqAt.str_int a t' b t
    | str b=>obtain ⟨t,rfl⟩:=rx;exact SeqAt.EqAt.str_str a t' b t
    | _=>exact absurd (show false=true from fx) Bool.false_ne_true
  | _=>exact absurd (show false=true from fy) Bool.false_ne_true
noncomputable def eqU (x:V) (u:Value):Bool:=match u with
  | .none=>eqV .non x
  | .bool b=>eqV (.bl b) x
  | .int i _=>eqV (.int i) x
  | .str z _=>eqV (.str z) x
  | _=>false
theorem qdy {x y:V} {u:Value} (r:RelV y u) (f:flatV y=true):eqU x u=eqV y x:=by
  cases y with
  | non=>cases r;rfl
  | bl b=>cases r;rfl
  | int i=>obtain ⟨t,rfl⟩:=r;rfl
  | str z=>obtain ⟨t,rfl⟩:=r;rfl
  | _=>exact absurd (show false=true from f) Bool.false_ne_true
theorem yw {x:V}:∀ {xs:List V} {us:List Value},Vals xs us→xs.all flatV=true→us.any (eqU x)=xs.any fun y=>eqV y x
  | _,_,.nil,_=>rfl
  | y::xs,u::us,.cons r t,f=>by
    rw [List.all_cons,Bool.and_eq_true] at f
    rw [List.any_cons,List.any_cons,qdy r f.1,yw t f.2]
theorem zJ {A:Around} {s:Shared} {x:V} {v:Value} (rx:RelV x v) (fx:flatV x=true):∀ {xs:List V} {us:List Value},Vals xs us→xs.all flatV=true→∀ u∈us,SeqAt.EqAt A s u v (eqU x u)
  | _,_,.nil,_=>fun u hu=>by cases hu
  | y::xs,u::us,.cons r t,f=>fun u' hu=>by
    rw [List.all_cons,Bool.and_eq_true] at f
    rcases List.mem_cons.mp hu with rfl | hu
    · rw [qdy r f.1];exact qhb r rx f.1 fx
    · exact zJ rx fx t f.2 u' hu
noncomputable def inV (x:V) (xs:List V):Bool:=xs.any fun y=>eqV y x
noncomputable def rIn (K:PySem.W.Frag) (neg:Bool):R2:=fun x y H Q=>∃ p xs,y=.ref p∧(SqL K H p xs∨SqT K H p xs)∧flatV x=true∧xs.all flatV=true∧Q (.bl (if neg then !inV x xs else inV x xs)) H
theorem qcK:OpR X (compareOp .In) (rIn X.K false):=by
  intro pins s σ H x y v u Q I rx ry h
  obtain ⟨p,xs,rfl,hq,fx,fs,q⟩:=h
  cases ry
  rcases hq with hq | hq
  · obtain ⟨its,r,pl,hz⟩:=I.list hq
    refine SeqAt.in_listAt (eqU x) pl.isList (fun w hw=>zJ rx fx r fs w (by simpa using hw)) ⟨.bl _,H,I,rfl,?_⟩
    rw [show its.toArray.any (eqU x)=its.any (eqU x) by simp,yw r fs]
    exact q
  · obtain ⟨its,r,pl,hz⟩:=I.tuple hq
    refine SeqAt.in_tupleAt (eqU x) pl (fun w hw=>zJ rx fx r fs w (by simpa using hw)) ⟨.bl _,H,I,rfl,?_⟩
    rw [show its.toArray.any (eqU x)=its.any (eqU x) by simp,yw r fs]
    exact q
theorem jY:OpR X (compareOp .NotIn) (rIn X.K true):=by
  intro pins s σ H x y v u Q I rx ry h
  obtain ⟨p,xs,rfl,hq,fx,fs,q⟩:=h
  cases ry
  rcases hq with hq | hq
  · obtain ⟨its,r,pl,hz⟩:=I.list hq
    refine SeqAt.notIn_listAt (eqU x) pl.isList (fun w hw=>zJ rx fx r fs w (by simpa using hw)) ⟨.bl _,H,I,rfl,?_⟩
    rw [show its.toArray.any (eqU x)=its.any (eqU x) by simp,yw r fs]
    exact q
  · obtain ⟨its,r,pl,hz⟩:=I.tuple hq
    refine SeqAt.notIn_tupleAt (eqU x) pl (fun w hw=>zJ rx fx r fs w (by simpa using hw)) ⟨.bl _,H,I,rfl,?_⟩
    rw [show its.toArray.any (eqU x)=its.any (eqU x) by simp,yw r fs]
    exact q
theorem CallR.or {f:Value} {r r':List V→Hp→VK→Prop} (h:CallR X f r) (h':CallR X f r'):CallR X f (fun xs H Q=>r xs H Q∨r' xs H Q):=by
  intro pins s σ H xs us Q I rs q
  rcases q with q | q
  · exact h pins s σ H xs us Q I rs q
  · exact h' pins s σ H xs us Q I rs q
theorem jZ:CallR X (.type "list") (fun xs H Q=>∃ p ys,xs=[.ref p]∧(SqL X.K H p ys∨SqT X.K H p ys)∧∀ l,H l=none→Q (.ref l) (upd H l (.lst ys))):=by
  intro pins s σ H xs us Q I r h
  obtain ⟨p,ys,rfl,hq,q⟩:=h
  obtain ⟨u,rfl,rx⟩:=vals1 r
  cases rx
  have fin:∀ (its:List Value),Vals ys its→ys.length≤sizeLine→∀ (h':Heap) (c':Nat),(∀ b o',s.heap.get? b=some o'→h'.get? b=some o') →
      h'.get? s.heap.objs.size=some { cls:=.type "list",dict:=none,data:=.seq its.toArray c',slots:=#[] }→EP X pins σ Q (.ref s.heap.objs.size) { s with heap:=h' }:=fun its r' hz h' c' kp e =>
    ⟨.ref s.heap.objs.size,_,I.laid (t':=s.toks) kp (Nat.le_refl _) (show ObjOk X.prog X.w _ h' _ (.lst ys) from ⟨hz,its,c',r',e⟩),rfl,q _ (I.hok.fresh (Nat.le_refl _))⟩
  rcases hq with hq | hq
  · obtain ⟨its,r',pl,hz⟩:=I.list hq
    have hlen:=r'.length
    obtain ⟨o,ho,hc,n,hd⟩:=pl.isList
    exact call_list_seq p (.inl rfl) ho hc hd (fun h' c' kp e=>fin its r' hz h' c' kp e) (by simp only [List.size_toArray] <;> lia)
  · obtain ⟨its,r',pl,hz⟩:=I.tuple hq
    have hlen:=r'.length
    obtain ⟨o,ho,hc,n,hd⟩:=pl
    exact call_list_seq p (.inr rfl) ho hc hd (fun h' c' kp e=>fin its r' hz h' c' kp e) (by simp only [List.size_toArray] <;> lia)
theorem jy:CallR X (.type "tuple") (fun xs H Q=>∃ p ys,xs=[.ref p]∧((SqL X.K H p ys∧∀ l,H l=none→Q (.ref l) (upd H l (.tup ys)))∨(SqT X.K H p ys∧Q (.ref p) H))):=by
  intro pins s σ H xs us Q I r h
  obtain ⟨p,ys,rfl,h⟩:=h
  obtain ⟨u,rfl,rx⟩:=vals1 r
  cases rx
  rcases h with ⟨hq,q⟩ | ⟨hq,q⟩
  · obtain ⟨its,r',pl,hz⟩:=I.list hq
    have hlen:=r'.length
    refine call_tuple_list pl.isList (fun h' kp=>?_) (by simp only [List.size_toArray] <;> lia)
    have I1:Inv X pins σ H { s with heap:=h' }:=I.kept (t':=s.toks) kp
    have I2:Inv X pins σ (upd H h'.objs.size (.tup ys)) { s with heap:=h'.push { cls:=.type "tuple",data:=.seq its.toArray } } :=
      I1.laid (t':=s.toks) (fun b o e=>Heap.get?_push_of_some _ e) (Nat.le_refl _) (show ObjOk X.prog X.w _ _ _ (.tup ys) from ⟨hz,its,r',IsTup.new _ _,zW _ _⟩)
    exact ⟨.ref h'.objs.size,_,I2,rfl,q _ (I1.hok.fresh (Nat.le_refl _))⟩
  · obtain ⟨its,r',pl,hz⟩:=I.tuple hq
    exact call_tuple_same pl ⟨.ref p,H,I,rfl,q⟩
noncomputable def tyV (K:PySem.W.Frag) (T:String) (x:V) (H:Hp):Prop:=match x with
  | .str _=>T="str"
  | .int _=>T="int"
  | .ref p=>(T="list"∧∃ xs,SqL K H p xs)∨(T="tuple"∧∃ o,K.lookup p=some o∧o.cls=.type "tuple"∧o.dict=none) ∨
      (T="dict"∧((∃ kvs,H p=some (.dK kvs))∨∃ kvs,H p=some (.dT kvs)))∨(T="set"∧∃ S n,H p=some (.set S n))
  | _=>False
theorem qhc {pins:List (Addr × Obj)} {σ:St} {H:Hp} {s:Shared} {T:String} {x:V} {v:Value} (I:Inv X pins σ H s) (r:RelV x v) (ty:tyV X.K T x H) :
    s.TypeIs v T∧∀ a,v=.ref a→∃ ob,s.heap.get? a=some ob∧ob.dict=none:=by
  cases x with
  | str z =>
    obtain ⟨t,rfl⟩:=r
    cases (show T="str" from ty)
    exact ⟨typeIs_str s z t,fun _ e=>nomatch e⟩
  | int i =>
    obtain ⟨t,rfl⟩:=r
    cases (show T="int" from ty)
    exact ⟨typeIs_int s i t,fun _ e=>nomatch e⟩
  | ref p =>
    cases r
    rcases ty with ⟨rfl,xs,hq⟩ | ⟨rfl,o,hk,hc,hd⟩ | ⟨rfl,hk⟩ | ⟨rfl,S,n,hk⟩
    · obtain ⟨its,_,pl,_⟩:=I.list hq
      refine ⟨pl.isList.typeIs,fun a e=>?_⟩
      cases e
      obtain ⟨o,n,e,c,hd,_⟩:=pl
      exact ⟨o,e,hd⟩
    · refine ⟨⟨o,I.kIn p o hk,hc⟩,fun a e=>?_⟩
      cases e
      exact ⟨o,I.kIn _ o hk,hd⟩
    · have z:∃ o,s.heap.get? p=some o∧o.ExactDict:=by
        rcases hk with ⟨kvs,hk⟩ | ⟨kvs,hk⟩
        · obtain ⟨_,_,_,_,o,_,_,e,ex,_⟩:=I.hok p _ hk
          exact ⟨o,e,ex⟩
        · obtain ⟨_,_,_,_,o,_,_,e,ex,_⟩:=I.hok p _ hk
          exact ⟨o,e,ex⟩
      obtain ⟨o,e,ex⟩:=z
      refine ⟨⟨o,e,ex.1⟩,fun a e2=>?_⟩
      cases e2
      exact ⟨o,e,ex.2.1⟩
    · obtain ⟨o,_,_,_,e,ex,_⟩:=I.hok p _ hk
      refine ⟨⟨o,e,ex.1⟩,fun a e2=>?_⟩
      cases e2
      exact ⟨o,e,ex.2.1⟩
  | _=>exact False.elim ty
noncomputable def tBM (K:PySem.W.Frag) (T:String) (r:V→List V→Hp→VK→Prop) (to:TE) (t:TA):TE:=fun σ H Q=>to σ H fun x H1=>tyV K T x H1∧t σ H1 fun xs H2=>r x xs H2 Q
variable {o e:Expr} {es:List Expr} {to:TE} {t:TA} {name:Str} {apos cpos:Pos} {T id:String} {r:V→List V→Hp→VK→Prop}
theorem qgo (pa:PlainAttrs T) (slot:Slot T name id) (hty:typeOf (.builtin id)=pure (.type "method_descriptor")) (hm:MtR X id r) (ho:PE X o to) (ha:PA X (e::es) t)
    (hbase:attributeBase o name X.env (eval o X.env)=eval o X.env:=by rfl)
    (hfew:((backTo cpos (starEach (e::es) X.env)).all (fun x=>!x.1)&&(backToKw cpos (keywordEach [] X.env)).all (fun x=>x.1.isSome)
      && decide ((e::es).length+([]:List Keyword).length+(if ([]:List Keyword).isEmpty then 0 else 1)<30))=true:=by rfl)
    (hline:(apos.endLine == cpos.line)=true:=by rfl) (hs:starEach (e::es) X.env=(false,eval e X.env)::starEach es X.env:=by rfl) (hplain:(backTo cpos (starEach es X.env)).any (·.1)=false:=by rfl) :
    PE X (.Call (.Attribute o name apos) (e::es) [] cpos) (tBM X.K T r to t):=by
  intro pins s σ H Q I h
  refine wpAny_Call_method_late hbase hfew hline rfl (thn (ho pins s σ H _ I h) fun v s1 ⟨x,H1,I1,r1,ty,q1⟩=>?_)
  obtain ⟨h1,h2⟩:=qhc I1 r1 ty
  refine ⟨T,id,pa,slot,hty,h1,h2,?_⟩
  have hA:=ha cpos pins s1 σ H1 _ I1 q1
  rw [hs] at hA ⊢
  refine Calls.callWith_builtin (by show (false || (backTo cpos (starEach es X.env)).any (·.1))=false;rw [hplain] <;> rfl) (Calls.evalArgs_plain ?_)
  exact thn hA fun us s2 ⟨vs,H2,I2,r2,q2⟩=>hm pins s2 σ H2 x vs v us Q I2 r1 r2 q2
/- xs.append(e),list.index on a module's tuple .. are MtR facts of 06m -/
end
end L2
namespace L2
open PySem PySem.Spec PyProof.Rows
noncomputable def MtM (X:Cx) (id:String) (r:V→List V→Hp→VK→Prop):Prop :=
  ∀ (pins:List (Addr × Obj)) (s:Shared) (σ:St) (H:Hp) (x:V) (xs:List V) (v:Value) (us:List Value) (Q:VK),Inv X pins σ H s→RelV x v→Vals xs us→r x xs H Q →
    wpAny (model X.prog X.w) X.A (call (.builtin id) (v::us)) (EP X pins σ Q) X.xe s
theorem Vals.one:∀ {x:V} {us:List Value},Vals [x] us→∃ u,us=[u]∧RelV x u
  | _,_,.cons r .nil=>⟨_,rfl,r⟩
theorem Vals.rep {xs:List V} {us:List Value} (h:Vals xs us):∀ k:Nat,Vals (List.replicate k xs).flatten (List.replicate k us).flatten
  | 0=>.nil
  | k+1=>by
    rw [List.replicate_succ,List.replicate_succ,List.flatten_cons,List.flatten_cons]
    exact Vals.append h (Vals.rep h k)
theorem yH (its:List Value):∀ (k:Nat) (acc:List Value),
    List.foldl (fun x1 x2=>x1++x2) acc.toArray (List.replicate k its.toArray)=(acc++(List.replicate k its).flatten).toArray
  | 0,acc=>by simp
  | k+1,acc=>by
    have e:acc.toArray++its.toArray=(acc++its).toArray:=by simp
    have e2:(acc++its)++(List.replicate k its).flatten=acc++(List.replicate (k+1) its).flatten:=by
      rw [List.replicate_succ,List.flatten_cons,List.append_assoc]
    rw [← e2,← yH its k (acc++its),← e,List.replicate_succ,List.foldl_cons]
section
variable {X:Cx} {pins:List (Addr × Obj)} {σ:St} {H:Hp} {s:Shared} {l b:Addr} {xs ys zs:List V}
theorem Inv.lset {its its':List Value} {n:Nat} {f:Array Value→Array Value} {t':Nat} (I:Inv X pins σ H s) (hH:H l=some (.lst xs))
    (e:s.heap.get? l=some { cls:=.type "list",data:=.seq its.toArray n }) (hf:f its.toArray=its'.toArray) (hv:Vals ys its') (hz:ys.length≤sizeLine) :
    Inv X pins σ (upd H l (.lst ys)) { s with heap:=s.heap.update l (Obj.mapSeq f),toks:=t' }:=by
  have q:=PySem.IsL.update e f
  rw [hf] at q
  refine I.write (x:=l) (e:=l) (by rw [hH];exact trivial) (.inl rfl) (fun b' u hb hu=>(Heap.get?_update_other s.heap (Obj.mapSeq f) (Ne.symm hb)).trans hu) ⟨_,q⟩ ?_
  exact ⟨hz,its',_,hv,q⟩
theorem Inv.lnew {its:List Value} {t':Nat} (I:Inv X pins σ H s) (hv:Vals ys its) (hz:ys.length≤sizeLine) :
    Inv X pins σ (upd H s.heap.objs.size (.lst ys)) { s with heap:=s.heap.push { cls:=.type "list",data:=.seq its.toArray },toks:=t' } :=
  I.laid (fun _ _ q=>Heap.get?_push_of_some _ q) (Nat.le_refl _) ⟨hz,its,0,hv,Heap.get?_push_size _ rfl⟩
theorem Inv.fresh (I:Inv X pins σ H s):H s.heap.objs.size=none:=I.hok.fresh (Nat.le_refl _)
theorem Inv.lstM (I:Inv X pins σ H s) (hH:H l=some (.lst xs)):xs.length≤sizeLine∧∃ (its:List Value) (n:Nat),Vals xs its∧xs.length=its.length∧s.heap.get? l=some { cls:=.type "list",data:=.seq its.toArray n }:=by
  obtain ⟨z,its,n,r,e⟩:=I.hok l _ hH
  exact ⟨z,its,n,r,r.length,e⟩
theorem notLongL {n:Nat} (h:n≤sizeLine):Builtin.List.listTooLong n=false:=by
  unfold Builtin.List.listTooLong
  exact decide_eq_false (by lia)
end
section
variable {X:Cx}
noncomputable def rAppend:V→List V→Hp→VK→Prop:=fun x vs H Q=>∃ l xs y,x=.ref l∧vs=[y]∧H l=some (.lst xs)∧xs.length<sizeLine∧Q .non (upd H l (.lst (xs++[y])))
theorem qcL:MtM X "list.append" rAppend:=by
  intro pins s σ H x vs v us Q I rx rv h
  obtain ⟨l,xs,y,rfl,rfl,hH,hz,q⟩:=h
  cases rx
  obtain ⟨u,rfl,ru⟩:=rv.one
  obtain ⟨z,its,n,r,hl,e⟩:=I.lstM hH
  refine call_meets F.slot_list_append ⟨_,e,rfl⟩ F.entry_list_append (F.args_list_append_2 _ _) (PySem.list_append l its.toArray n u (by rw [List.size_toArray];lia)) ⟨e,?_⟩
  refine ⟨.non,_,I.lset (its':=its++[u]) hH e (by simp) (r.append (.cons ru .nil)) ?_,rfl,q⟩
  rw [List.length_append,List.length_singleton]
  lia
theorem j0 {α:Type} (xs:List α) (k:Nat):(List.replicate k xs).flatten.length=k*xs.length:=by
  induction k with
  | zero=>simp
  | succ k ih=>rw [List.replicate_succ,List.flatten_cons,List.length_append,ih,Nat.succ_mul,Nat.add_comm]
end
section
variable {prog:Program} {w:World} {A:Around} {E:Value→Shared→Prop} {s:Shared}
set_option maxRecDepth 100000 in
end
end L2
namespace L2
open PySem PySem.Spec PyProof.Rows
section
variable {κ:Type} [DecidableEq κ]
noncomputable def valV (kvs:List (κ × V)) (k:κ):Option V:=(kvs.find? fun kv=>decide (kv.1=k)).map (·.2)
noncomputable def putK (kvs:List (κ × V)) (k:κ) (v:V):List (κ × V) :=
  if (kvs.any fun kv=>decide (kv.1=k))=true then kvs.map (fun kv=>if kv.1=k then (kv.1,v) else kv) else kvs++[(k,v)]
theorem yx {p:κ × V} {r:List (κ × V)} {k:κ} (e:p.1=k):valV (p::r) k=some p.2:=by simp [valV,List.find?_cons,e]
theorem yz {p:κ × V} {r:List (κ × V)} {k:κ} (e:¬ p.1=k):valV (p::r) k=valV r k:=by simp [valV,List.find?_cons,e]
theorem qax (k:κ):∀ kvs:List (κ × V),(kvs.any fun kv=>decide (kv.1=k))=(valV kvs k).isSome
  | []=>rfl
  | p::r=>by
    rw [List.any_cons]
    by_cases e:p.1=k
    · simp only [yx e,decide_eq_true e,Bool.true_or,Option.isSome_some]
    · rw [yz e,decide_eq_false e,Bool.false_or];exact qax k r
theorem yT (kvs:List (κ × V)) (k:κ) (v:V):(putK kvs k v).length≤kvs.length+1:=by
  unfold putK
  split
  · rw [List.length_map];lia
  · rw [List.length_append,List.length_cons,List.length_nil];lia
theorem RelO.isSome_eq {o:Option V} {u:Option Value} (r:RelO o u):o.isSome=u.isSome:=by
  cases o with
  | none=>cases u with
    | none=>rfl
    | some _=>exact (show False from r).elim
  | some _=>cases u with
    | none=>exact (show False from r).elim
    | some _=>rfl
theorem KV.val {kvs:List (κ × V)} {vs:List (κ × Value)} (r:KV kvs vs) (k:κ):RelO (valV kvs k) (valueAt vs k):=by
  unfold KV at r
  induction r with
  | nil=>exact True.intro
  | @cons p q ps qs h t ih =>
    obtain ⟨h1,h2⟩:=h
    by_cases e:p.1=k
    · have e':q.1=k:=h1.symm.trans e
      have b:valueAt (q::qs) k=some q.2:=by simp [valueAt,List.find?_cons,e']
      rw [yx e,b];exact h2
    · have e':¬ q.1=k:=fun z=>e (h1.trans z)
      have b:valueAt (q::qs) k=valueAt qs k:=by simp [valueAt,List.find?_cons,e']
      rw [yz e,b];exact ih
theorem KV.any {kvs:List (κ × V)} {vs:List (κ × Value)} (r:KV kvs vs) (k:κ):(kvs.any fun kv=>decide (kv.1=k))=vs.any fun kv=>decide (kv.1=k):=by
  unfold KV at r
  induction r with
  | nil=>rfl
  | cons h t ih=>rw [List.any_cons,List.any_cons,ih,h.1]
theorem KV.repl {kvs:List (κ × V)} {vs:List (κ × Value)} (r:KV kvs vs) (k:κ) {y:V} {u:Value} (ry:RelV y u) :
    KV (kvs.map fun kv=>if kv.1=k then (kv.1,y) else kv) (vs.map fun kv=>if kv.1=k then (kv.1,u) else kv):=by
  unfold KV at r ⊢
  induction r with
  | nil=>exact .nil
  | @cons p q ps qs h t ih =>
    rw [List.map_cons,List.map_cons]
    refine .cons ?_ ih
    obtain ⟨h1,h2⟩:=h
    by_cases e:p.1=k
    · rw [if_pos e,if_pos (h1.symm.trans e)];exact ⟨h1,ry⟩
    · rw [if_neg e,if_neg (fun z=>e (h1.trans z))];exact ⟨h1,h2⟩
theorem KV.put {kvs:List (κ × V)} {vs:List (κ × Value)} (r:KV kvs vs) (k:κ) {y:V} {u:Value} (ry:RelV y u):KV (putK kvs k y) (stored vs k u):=by
  unfold putK stored
  rw [r.any k]
  by_cases e:(vs.any fun kv=>decide (kv.1=k))=true
  · rw [if_pos e,if_pos e];exact r.repl k ry
  · rw [if_neg e,if_neg e];exact Paired.snoc r ⟨rfl,ry⟩
theorem KV.length {kvs:List (κ × V)} {vs:List (κ × Value)} (r:KV kvs vs):kvs.length=vs.length:=Paired.length r
end
theorem qdz {P:Program} {w:World} {k:Key} {u:Value} (r:RelV (kV k) u):(mixKind P w).is k u=true:=by
  cases k with
  | inl i=>obtain ⟨t,e⟩:=(show ∃ t,u=Value.int i t from r);subst e;exact qas P w i t
  | inr x=>obtain ⟨t,e⟩:=(show ∃ t,u=Value.str x t from r);subst e;exact qat P w x t
theorem jG {P:Program} {w:World}:∀ {ks:List Key} {us:List Value},Vals (ks.map kV) us→ItemsAre (mixKind P w) ks us
  | [],_,r=>by rw [List.map_nil] at r;cases r;exact .nil
  | k::ks,_,r=>by
    rw [List.map_cons] at r
    cases r with
    | cons h t=>exact .cons (qdz h) (jG t)
noncomputable abbrev KT (H:Hp):List (List Key × V)→List (List Key × Addr × Value)→Prop:=Paired fun p q=>p.1=q.1∧H q.2.1=some (.tup (p.1.map kV))∧RelV p.2 q.2.2
theorem KT.val {H:Hp} {kvs:List (List Key × V)} {xs:List (List Key × Addr × Value)} (r:KT H kvs xs) (k:List Key):RelO (valV kvs k) ((atKey xs k).map (·.2)):=by
  induction r with
  | nil=>exact True.intro
  | @cons p q ps qs h t ih =>
    obtain ⟨h1,_,h2⟩:=h
    by_cases e:p.1=k
    · have e':q.1=k:=h1.symm.trans e
      have b:atKey (q::qs) k=some q.2:=by simp [atKey,List.find?_cons,e']
      rw [yx e,b];exact h2
    · have e':¬ q.1=k:=fun z=>e (h1.trans z)
      have b:atKey (q::qs) k=atKey qs k:=by simp [atKey,List.find?_cons,e']
      rw [yz e,b];exact ih
theorem KT.repl {H:Hp} {kvs:List (List Key × V)} {xs:List (List Key × Addr × Value)} (r:KT H kvs xs) (k:List Key) {y:V} {u:Value} (ry:RelV y u) :
    KT H (kvs.map fun kv=>if kv.1=k then (kv.1,y) else kv) (xs.map (putAt k u)):=by
  induction r with
  | nil=>exact .nil
  | @cons p q ps qs h t ih =>
    rw [List.map_cons,List.map_cons]
    refine .cons ?_ ih
    obtain ⟨h1,h2,h3⟩:=h
    unfold putAt
    by_cases e:p.1=k
    · rw [if_pos e,if_pos (h1.symm.trans e)];exact ⟨h1,h2,ry⟩
    · rw [if_neg e,if_neg (fun z=>e (h1.trans z))];exact ⟨h1,h2,h3⟩
theorem KT.put {H:Hp} {kvs:List (List Key × V)} {xs:List (List Key × Addr × Value)} (r:KT H kvs xs) (k:List Key) {b:Addr} {y:V} {u:Value} (hb:H b=some (.tup (k.map kV))) (ry:RelV y u) :
    KT H (putK kvs k y) (storedH xs k b u):=by
  have e:(kvs.any fun kv=>decide (kv.1=k))=(atKey xs k).isSome:=by
    rw [qax,(r.val k).isSome_eq,Option.isSome_map]
  unfold putK storedH
  rw [e]
  by_cases q:(atKey xs k).isSome=true
  · rw [if_pos q,if_pos q];exact r.repl k ry
  · rw [if_neg q,if_neg q];exact Paired.snoc r ⟨rfl,hb,ry⟩
theorem KT.keeps {H H':Hp} {kvs:List (List Key × V)} {xs:List (List Key × Addr × Value)} (r:KT H kvs xs) (ht:∀ b ys,H b=some (.tup ys)→H' b=some (.tup ys)):KT H' kvs xs :=
  Paired.mapP r fun _ _ z=>⟨z.1,ht _ _ z.2.1,z.2.2⟩
section
variable {P:Program} {w:World} {H:Hp} {h:Heap} {a:Addr}
theorem qgp {u:HO} (ok:HOk P w H h) (e:Rd H a u):ObjOk P w H h a u:=e.ok ok
theorem qbR {kvs:List (Key × V)} (ok:HOk P w H h) (e:Rd H a (.dK kvs)):kvs.length≤sizeLine∧(a == sysModules)=false∧∃ vs,KV kvs vs∧h.DictOf (mixKind P w) a vs :=
  show ObjOk P w H h a (.dK kvs) from qgp ok e
theorem qin {kvs:List (Key × V)} (ok:HOk P w H h) (e:H a=some (.dK kvs)):kvs.length≤sizeLine∧(a == sysModules)=false∧∃ vs,KV kvs vs∧h.DictOf (mixKind P w) a vs:=qbR ok (.inl e)
theorem qbf {ks:List Key} (ok:HOk P w H h) (e:H a=some (.tup (ks.map kV))):(tupleKind (mixKind P w)).is h ks a:=by
  obtain ⟨_,its,r,⟨o,h1,h2,n,h3⟩,_⟩:=(show ObjOk P w H h a (.tup (ks.map kV)) from ok a _ e)
  exact ⟨o,its.toArray,n,h1,h2,h3,by simpa using jG r⟩
theorem qbS {kvs:List (List Key × V)} (ok:HOk P w H h) (e:Rd H a (.dT kvs)):kvs.length≤sizeLine∧(a == sysModules)=false ∧
    ∃ xs,KT H kvs xs∧h.DictOfH (tupleKind (mixKind P w)) a xs:=by
  obtain ⟨z,y,xs,r,o,es,ep,h1,h2,h3,h4,h5⟩:=(show ObjOk P w H h a (.dT kvs) from qgp ok e)
  refine ⟨z,y,xs,r,o,es,ep,h1,h2,h3,h4,fun x hx=>?_,h5⟩
  have all:∀ {l:List (List Key × V)} {m:List (List Key × Addr × Value)},KT H l m→∀ x∈m,(tupleKind (mixKind P w)).is h x.1 x.2.1:=by
    intro l m q
    induction q with
    | nil=>intro x hx;exact nomatch hx
    | @cons p q ps qs hq t ih =>
      intro x hx
      rcases List.mem_cons.mp hx with e | hx
      · subst e
        exact qbf ok (by rw [← hq.1];exact hq.2.1)
      · exact ih x hx
  exact all r x hx
theorem qio {kvs:List (List Key × V)} (ok:HOk P w H h) (e:H a=some (.dT kvs)):kvs.length≤sizeLine∧(a == sysModules)=false ∧
    ∃ xs,KT H kvs xs∧h.DictOfH (tupleKind (mixKind P w)) a xs:=qbS ok (.inl e)
end
noncomputable def DGet (H:Hp) (a:Addr) (y:V) (r:Option V):Prop :=
  (∃ kvs k,Rd H a (.dK kvs)∧y=kV k∧r=valV kvs k)∨∃ kvs k b,Rd H a (.dT kvs)∧y=.ref b∧H b=some (.tup (k.map kV))∧r=valV kvs k
noncomputable def DPut (H:Hp) (a:Addr) (y v:V) (H':Hp):Prop :=
  (∃ kvs k,H a=some (.dK kvs)∧y=kV k∧kvs.length<sizeLine∧H'=upd H a (.dK (putK kvs k v))) ∨
  ∃ kvs k b,H a=some (.dT kvs)∧y=.ref b∧H b=some (.tup (k.map kV))∧kvs.length<sizeLine∧H'=upd H a (.dT (putK kvs k v))
theorem DGet.t {H:Hp} {a b:Addr} {kvs:List (List Key × V)} {k:List Key} (e:H a=some (.dT kvs)) (eb:H b=some (.tup (k.map kV))):DGet H a (.ref b) (valV kvs k):=.inr ⟨kvs,k,b,.inl e,rfl,eb,rfl⟩
theorem DPut.k {H:Hp} {a:Addr} {kvs:List (Key × V)} {k:Key} {v:V} (e:H a=some (.dK kvs)) (hl:kvs.length<sizeLine):DPut H a (kV k) v (upd H a (.dK (putK kvs k v))):=.inl ⟨kvs,k,e,rfl,hl,rfl⟩
theorem DPut.t {H:Hp} {a b:Addr} {kvs:List (List Key × V)} {k:List Key} {v:V} (e:H a=some (.dT kvs)) (eb:H b=some (.tup (k.map kV))) (hl:kvs.length<sizeLine) :
    DPut H a (.ref b) v (upd H a (.dT (putK kvs k v))):=.inr ⟨kvs,k,b,e,rfl,eb,hl,rfl⟩
section
variable {X:Cx} {pins:List (Addr × Obj)} {σ:St} {H:Hp} {s:Shared} {a:Addr} {y v:V} {u r:Value} {o:Option V} {A:Around} {E:Value→Shared→Prop}
theorem Inv.big (I:Inv X pins σ H s):sysModules<s.heap.objs.size:=by
  have h:mainGlobals<s.heap.objs.size:=(I.mod.glob.keeps I.bk).lt
  exact Nat.lt_trans (by decide) h
theorem qcM {Q:Value→Shared→Prop} (hu:A.units+1<cLine) (I:Inv X pins σ H s) (g:DGet H a y (some v)) (ry:RelV y u) (h:∀ w' s',Inv X pins σ H s'→RelV v w'→Q w' s') :
    wpAny (model X.prog X.w) A (getItem (.ref a) u) Q E s:=by
  rcases g with ⟨kvs,k,e,ey,l⟩ | ⟨kvs,k,b,e,ey,eb,l⟩
  · subst ey
    obtain ⟨z,hd,vs,rel,dd⟩:=qbR I.hok e
    obtain ⟨w',hw,rw'⟩:=RelO.some_of (v:=v) (o:=valueAt vs k) (by rw [l];exact rel.val k)
    exact wpAny_getItem_of (qdz ry) dd.mapOf hw (h w' _ (I.tok _) rw')
  · subst ey
    cases (show u=Value.ref b from ry)
    obtain ⟨z,hd,xs,rel,dd⟩:=qbS I.hok e
    obtain ⟨w',hw,rw'⟩:=RelO.some_of (v:=v) (o:=(atKey xs k).map (·.2)) (by rw [l];exact rel.val k)
    obtain ⟨p,hp,hp2⟩:=Option.map_eq_some_iff.mp hw
    refine wpAny_getItem_heap (tupleKind_room_in1 hu) (qbf I.hok eb) dd hp ?_
    rw [hp2]
    exact h w' _ (I.tok _) rw'
theorem qbT {h':Heap} {t':Nat} {ob:HO} (I:Inv X pins σ H s) (mu:Mut (H a)) (hs:Heap.SameBut a s.heap h') (he:∃ q,h'.get? a=some q) (new:ObjOk X.prog X.w (upd H a ob) h' a ob) :
    Inv X pins σ (upd H a ob) { s with heap:=h',toks:=t' } :=
  I.write (x:=a) (e:=a) mu (.inl rfl) (fun b q hb z=>(hs.2 b hb).trans z) he new
theorem qhd {P:Program} {w:World} {H':Hp} {h':Heap} {kvs:List (Key × V)} {vs:List (Key × Value)} (z:kvs.length≤sizeLine) (hd:(a == sysModules)=false) (rel:KV kvs vs) (dd:h'.DictOf (mixKind P w) a vs) :
    ObjOk P w H' h' a (.dK kvs):=⟨z,hd,vs,rel,dd⟩
theorem qcN {H':Hp} {Q:Unit→Shared→Prop} (hu:A.units+1<cLine) (I:Inv X pins σ H s) (g:DPut H a y v H') (ry:RelV y u) (rv:RelV v r) (h:∀ s',Inv X pins σ H' s'→Q () s') :
    wpAny (model X.prog X.w) A (setItem (.ref a) u r) Q E s:=by
  rcases g with ⟨kvs,k,e,ey,l,eH⟩ | ⟨kvs,k,b,e,ey,eb,l,eH⟩
  · subst ey eH
    obtain ⟨z,hd,vs,rel,dd⟩:=qin I.hok e
    have hz:vs.length≤sizeLine:=by rw [← rel.length];exact z
    have hl:(putK kvs k v).length≤sizeLine:=by have:=yT kvs k v;lia
    refine wpAny_setItem_pairs (hsz:=hz) (qdz ry) dd fun h' dd' hs=>h _ ?_
    have he:∃ q,h'.get? a=some q:=let ⟨q,_,_,hq,_⟩:=dd';⟨q,hq⟩
    exact qbT I (by rw [e];exact True.intro) hs he (qhd hl hd (rel.put k rv) dd')
  · subst ey eH
    cases (show u=Value.ref b from ry)
    obtain ⟨z,hd,xs,rel,dd⟩:=qio I.hok e
    have hz:xs.length≤sizeLine:=by rw [← Paired.length rel];exact z
    have hl:(putK kvs k v).length≤sizeLine:=by have:=yT kvs k v;lia
    refine wpAny_setItem_heap (hsz:=hz) (tupleKind_room_in1 hu) (qbf I.hok eb) dd fun h' dd' hs=>h _ ?_
    obtain ⟨q,es,ep,hq,h2,h3,h4,_,h5⟩:=dd'
    refine qbT I (by rw [e];exact True.intro) hs ⟨q,hq⟩ ⟨hl,hd,_,(rel.put k eb rv).keeps fun c ys ec=>?_,q,es,ep,hq,h2,h3,h4,h5⟩
    rw [qk (qie ec e (fun z=>nomatch z))]
    exact ec
end
theorem qay {X:Cx} {pins:List (Addr × Obj)} {σ:St} {H:Hp} {s:Shared} {a:Addr} {y:V} {o:Option V} (I:Inv X pins σ H s) (g:DGet H a y o):s.TypeIs (.ref a) "dict":=by
  rcases g with ⟨kvs,k,e,_,_⟩ | ⟨kvs,k,b,e,_,_,_⟩
  · obtain ⟨_,_,vs,_,dd⟩:=qbR I.hok e
    exact dd.typeIs
  · obtain ⟨_,_,xs,_,dd⟩:=qbS I.hok e
    exact dd.typeIs
theorem qdA {P:Program} {w:World} {H:Hp} (h:Heap) (hb:sysModules<h.objs.size):ObjOk P w H (h.push { cls:=.type "dict",data:=.dict #[] }) h.objs.size (.dK []) :=
  ⟨Nat.zero_le _,beq_eq_false_iff_ne.mpr (Ne.symm (Nat.ne_of_lt hb)),[],.nil,Heap.DictOf.new h⟩
theorem qdB {P:Program} {w:World} {H:Hp} (h:Heap) (hb:sysModules<h.objs.size):ObjOk P w H (h.push { cls:=.type "dict",data:=.dict #[] }) h.objs.size (.dT []) :=
  ⟨Nat.zero_le _,beq_eq_false_iff_ne.mpr (Ne.symm (Nat.ne_of_lt hb)),[],.nil,_,#[],0,Heap.get?_push_size _ rfl,⟨rfl,rfl,rfl⟩,rfl,rfl,List.nodup_nil⟩
noncomputable def tDNewK:TE:=fun _ H Q=>∀ p,H p=none→Q (.ref p) (upd H p (.dK []))
noncomputable def tDNewT:TE:=fun _ H Q=>∀ p,H p=none→Q (.ref p) (upd H p (.dT []))
section
variable {X:Cx} {pos:Pos}
theorem qdC:PE X (.Dict [] [] pos) tDNewK:=fun pins s σ H Q I h =>
  wpAny_Dict_empty ⟨.ref s.heap.objs.size,_,I.laid (a:=s.heap.objs.size) (o:=.dK []) (t':=s.toks) (fun _ _ q=>Heap.get?_push_of_some _ q) (Nat.le_refl _) (qdA s.heap I.big),rfl,h _ (I.hok.fresh (Nat.le_refl _))⟩
theorem qdD:PE X (.Dict [] [] pos) tDNewT:=fun pins s σ H Q I h =>
  wpAny_Dict_empty ⟨.ref s.heap.objs.size,_,I.laid (a:=s.heap.objs.size) (o:=.dT []) (t':=s.toks) (fun _ _ q=>Heap.get?_push_of_some _ q) (Nat.le_refl _) (qdB s.heap I.big),rfl,h _ (I.hok.fresh (Nat.le_refl _))⟩
end
noncomputable def IsD (H:Hp) (a:Addr):Prop:=(∃ kvs,Rd H a (.dK kvs))∨∃ kvs,Rd H a (.dT kvs)
theorem qhe {X:Cx} {pins:List (Addr × Obj)} {σ:St} {H:Hp} {s:Shared} {a:Addr} (I:Inv X pins σ H s) (d:IsD H a) :
    s.TypeIs (.ref a) "dict"∧(∀ b,Value.ref a=.ref b→∃ ob,s.heap.get? b=some ob∧ob.dict=none)∧(a == sysModules)=false:=by
  rcases d with ⟨kvs,e⟩ | ⟨kvs,e⟩
  · obtain ⟨_,hd,vs,_,dd⟩:=qbR I.hok e
    refine ⟨dd.typeIs,fun b q=>?_,hd⟩
    cases q
    obtain ⟨ob,_,_,h1,h2,_⟩:=dd
    exact ⟨ob,h1,h2.2.1⟩
  · obtain ⟨_,hd,xs,_,dd⟩:=qbS I.hok e
    refine ⟨dd.typeIs,fun b q=>?_,hd⟩
    cases q
    obtain ⟨ob,_,_,h1,h2,_⟩:=dd
    exact ⟨ob,h1,h2.2.1⟩
end L2
namespace Att
open PySem PySem.W PySem.Calls PyProof.Rows
theorem yV {P:Params} {h:Heap}:∀ (ns:List Int) (vs:List Value),WellAll P h vs (ns.map WData.int)→IntsAre vs ns:=by
  intro ns
  induction ns with
  | nil =>
    intro vs w
    rw [List.map_nil] at w
    cases w
    exact .nil
  | cons n ns ih =>
    intro vs w
    rw [List.map_cons] at w
    cases w with
    | cons a b =>
      cases a
      exact .cons _ _ (ih _ b)
theorem qcO {l:OpenLaw} {n:Nat} (hn:l.most=some n) {P:Params} {h:Heap} {args:List WData} {vals:List Value}
    (hpre:l.row.toRowW.claim.pre args=true) (hwl:WellAll P h vals args) :
    ∃ a vs ns,vals=[Value.ref a]∧args=[WData.list (ns.map WData.int)]∧h.get? a=some { cls:=.type "list",data:=.seq vs.toArray }∧IntsAre vs ns∧ns.length≤n:=by
  have hsh:WShape.hasAll [] args [.list .int]=true:=(pre_splitW hpre).1
  have hc:l.pre.holds [] { args:=args }=true:=(pre_splitW hpre).2
  obtain ⟨d,r,rfl,h1,h2⟩:=hasAllW_cons hsh
  obtain rfl:=hasAllW_nil h2
  obtain ⟨xs,rfl,h3⟩:=hasW_list h1
  obtain ⟨ns,rfl⟩:=items_int h3
  have hlen:ns.length≤n:=by
    unfold OpenLaw.pre at hc
    have h4:(WTm.not (.lt (.lit (.int (n:Int))) (.len (.arg 0)))).holds [] { args:=[.list (ns.map .int)] }=true:=by
      have h4:=(holds_andW hc).1
      rw [hn] at h4
      exact h4
    have h5:=condW_of h4 (w_not (w_lt w_lit (w_len_list (w_arg rfl))))
    rw [List.length_map] at h5
    refine Nat.le_of_not_lt fun q=>?_
    have q':(n:Int)<((ns.length:Nat):Int):=by omega
    first
      | (rw [decide_eq_true q'] at h5;exact absurd h5 (by decide))
      | (simp at h5;omega)
  cases hwl with
  | cons w1 w2 =>
    cases w2
    cases w1 with
    | list ho hall=>exact ⟨_,_,ns,rfl,rfl,ho,yV ns _ hall,hlen⟩
theorem qcP (l:OpenLaw) (args:List WData):l.row.toRowW.claim.post args (.bool true) args=true :=
  postW_of (r:=l.row.toRowW) (X:=(true == true))
    (show WShape.has [] (.bool true) .bool=true by first | rfl | decide | simp [WShape.has,WShape.arms,WShape.armsAll])
    (show (WTm.eq .res (.lit (.bool true))).value [] { args:=args,res:=some (.bool true),after:=args }=some (.bool (true == true)) from w_eq_bool (w_res rfl) w_lit) rfl
theorem attach_call {l:OpenLaw} {n:Nat} {q:Program} {loose:List Str} {XP:(Str→Option Value)→Heap→Prop} {YP:World→Heap→Prop} {d:DefRec}
    (hn:l.most=some n) (hdf:d.params.defaults=[])
    (call:∀ (w:World) (s₀ s₁:Shared) (mg mb:Str→Option Value) (fa:Addr) (o:Obj) (pm cd doc:Value) (a:Addr) (vs:List Value) (ns:List Int),
      Ground q loose [] XP w s₀ mg mb s₁.heap→YP w s₁.heap →
      s₁.heap.get? fa=some o→o.data=.func (docDef d.name d.params d.body d.scope pm cd doc)→s₁.heap.CodeRec cd d.name→mg d.name=some (.ref fa) →
      s₁.heap.get? a=some { cls:=.type "list",data:=.seq vs.toArray }→IntsAre vs ns→ns.length≤n→s₁.gens=#[] →
      codeAny (model l.prog w) callerA (.call (.ref fa) ⟨[.ref a],[]⟩) (fun r s'=>r=.ok (.ret (.bool true))∧OldK s₁.heap s'.heap∧s'.os=s₁.os∧AllBare s'.gens) s₁) :
    WalkO q loose XP YP l.row.toRowW d [] (fun f vs=>PySem.call f vs):=by
  intro w s₀ s₁ mg mb G Y fa o pm cd doc dV kV ho hd hcd hD hmg hg args vals as hpre hlay hrd hwl hlo
  obtain rfl:dV=.none:=Dflts.none hD hdf
  obtain rfl:kV=.none:=Dflts.noKw hD
  obtain ⟨a,vs,ns,rfl,rfl,hobj,hints,hlen⟩:=qcO hn hpre hwl
  refine enter_call (codeAny_mono (call w s₀ s₁ mg mb fa o pm cd doc a vs ns G Y ho (fd_plain hd) hcd hmg hobj hints hlen hg) fun r s' hq=>?_)
  obtain ⟨rfl,h2,h3,h4⟩:=hq
  exact ⟨.inl ⟨.bool true,.bool true,[],rfl,fun _=>rfl,.bool true,qcP l _,fun _=>⟨List.Pairwise.nil,fun _ hm=>(nomatch hm)⟩⟩,h2,h3,h4⟩
end Att
namespace L2
open PySem PySem.Spec PyProof.Rows
theorem jH:∀ {vs:List Value} {ns:List Int},IntsAre vs ns→Vals (ns.map V.int) vs
  | _,_,.nil=>.nil
  | _,_,.cons n t h=>.cons ⟨t,rfl⟩ (jH h)
end L2
namespace L2
open PySem PySem.Spec PyProof.Rows
noncomputable def defArgs (s:Stmt):Arguments:=match s with
  | .FunctionDef _ a _ _ _ _ _ _ _ _=>a
  | _=>{ posonlyargs:=[],args:=[],vararg:=none,kwonlyargs:=[],kw_defaults:=[],kwarg:=none,defaults:=[] }
noncomputable def defBody (s:Stmt):List Stmt:=match s with
  | .FunctionDef _ _ b _ _ _ _ _ _ _=>b
  | _=>[]
noncomputable def defScope (s:Stmt):Scope:=match s with
  | .FunctionDef _ _ _ _ _ _ sc _ _ _=>sc
  | _=>{ kind:=.function,names:=[],isGenerator:=false,isCoroutine:=false }
noncomputable abbrev CX0:CXT:=fun _ _ _ _ _ _=>False
noncomputable abbrev E0:XK:=fun _ _ _=>False
theorem pass0 {X:Cx}:Passes CX0 X E0:=fun _ _ _ _ _ _ _ h=>h.elim
theorem qgq {A:Around} {k:Nat} (hr:Room k A):A.units+1<cLine:=Nat.lt_of_le_of_lt (Nat.add_le_add_left (by decide:1≤64) _) hr.units
end L2
namespace HT
open PySem PySem.Spec PyProof.Rows
section
variable {prog:Program} {w:World} {A:Around} {E:Value→Shared→Prop} {s:Shared}
theorem jz {t:Addr} {items:Array Value} {Q:Bool→Shared→Prop} (ht:IsTup s.heap t items) (h:Q true s):wpAny (model prog w) A (Builtin.Tuple.tupleIsExact (.ref t)) Q E s:=by
  unfold Builtin.Tuple.tupleIsExact
  refine wpAny_bind (wpAny_typeOf ht.typeIs ?_)
  exact wpAny_pure h
theorem zZ {t sl:Addr} {items:Array Value} {vl vu:Value} {lo hi:Option Int} {Q:Value→Shared→Prop} (ht:IsTup s.heap t items) (hs:s.heap.IsSliceOf sl vl vu .none) (pl:IsPart vl lo) (pu:IsPart vu hi)
    (hw:sIx items.size 0 lo=0∧sIx items.size items.size hi=items.size) (h:Q (.ref t) s):wpAny (model prog w) A (getItem (.ref t) (.ref sl)) Q E s:=by
  obtain ⟨os,hos,hcs,hds⟩:=id hs
  have hTs:s.TypeIs (.ref sl) "slice":=⟨os,hos,hcs⟩
  unfold getItem
  try with_reducible refine wpAny_holding ?_
  first | refine wpAny_bind (wpAny_pure ?_) | skip
  refine wpAny_bind (wpAny_sequenceKey ht.typeIs (by decide) ?_)
  refine wpAny_bind (wpAny_callSpecial?_slot (name:=Str.ofString "__getitem__") ht.typeIs PyProof.Rows.slot_tuple_getitem
    (wpAny_call_entry PyProof.Rows.slot_tuple_getitem ht.typeIs entry_tuple_getitem ?_ (args_tuple_getitem _ _)))
  show wpAny _ _ (Builtin.Tuple.tupleItemsOf (.ref t) >>= _) _ _ s
  refine wpAny_bind (tupleItemsOf_ ht ?_)
  refine wpAny_bind (wpAny_typeOf hTs ?_)
  rw [if_pos (by decide)]
  refine wpAny_bind (zu hs pl pu ?_)
  have hyes:(((sIx items.size 0 lo:Nat):Int) == 0&&(1:Int) == 1&&(sIx items.size items.size hi-sIx items.size 0 lo) == items.size)=true:=by
    rw [hw.1,hw.2];simp
  show wpAny _ _ (if (((sIx items.size 0 lo:Nat):Int) == 0&&(1:Int) == 1&&(sIx items.size items.size hi-sIx items.size 0 lo) == items.size)=true then _ else _) _ _ s
  rw [if_pos hyes]
  refine wpAny_bind (jz ht ?_)
  rw [if_pos rfl]
  refine wpAny_bind (wpAny_rule ?_)
  exact wpAny_bind (wpAny_pure (wpAny_pure ⟨_,rfl,wpAny_pure h⟩))
end
end HT
namespace HT
open PySem PySem.Spec PyProof.Rows
theorem yI:fillsNumberSlot (.type "tuple") "mul"=pure false :=
  PySem.fillsNumberSlot_seq (id:="tuple.__mul__") (r:=some (.builtin "tuple.__rmul__")) F.slot_tuple_mul.lookup (by decide +kernel) F.slot_tuple_rmul.lookup (by decide +kernel)
theorem j3:seqRepeat? (.type "tuple")=pure (some (.builtin "tuple.__mul__")):=by
  unfold seqRepeat?
  rw [PySem.seqSlot_of (T:="tuple") (name:="__mul__") (id:="tuple.__mul__") F.slot_tuple_mul.lookup (by decide +kernel),PySem.seqSlot_of (T:="tuple") (name:="__rmul__") (id:="tuple.__rmul__") F.slot_tuple_rmul.lookup (by decide +kernel)]
  rfl
section
variable {prog:Program} {w:World} {A:Around} {E:Value→Shared→Prop} {s:Shared}
theorem qdE {a:Int} {t:Tok} {l:Addr} {items:Array Value} {Q:_→Shared→Prop} (ht:IsTup s.heap l items) (h:Q (.done (.ret Value.notImplemented)) s):wpAny (model prog w) A (Builtin.«int.__rmul__» ⟨[.int a t,.ref l],[]⟩) Q E s:=by
  obtain ⟨o,ho,hc,n,hd⟩:=ht
  obtain ⟨hp,g,d,tk,os⟩:=s
  obtain ⟨c,dd,da,sl⟩:=o
  cases hc
  cases hd
  wp_walk
  exact h
theorem qfq {l:Addr} {items:Array Value} {k:Int} {t:Tok} {Q:_→Shared→Prop} (ht:IsTup s.heap l items) (h1:-(2^63)≤k) (h2:k<2^63) (hz:items.size*k.toNat≤sizeLine)
    (hs:(items=#[]∨k=1)→Q (.done (.ret (.ref l))) s)
    (hn:(¬ (items=#[]∨k=1))→Q (.done (.ret (.ref s.heap.objs.size))) { s with heap:=s.heap.push { cls:=.type "tuple",data:=.seq ((List.replicate k.toNat items.toList).flatten).toArray } }) :
    wpAny (model prog w) A (Builtin.«tuple.__mul__» ⟨[.ref l,.int k t],[]⟩) Q E s:=by
  obtain ⟨o,ho,hc,n,hd⟩:=ht
  obtain ⟨hp,g,d,tk,os⟩:=s
  obtain ⟨c,dd,da,sl⟩:=o
  cases hc
  cases hd
  have f0:(decide (k < -(2^63)) || decide (k≥2^63))=false:=by simp;lia
  by_cases z:items=#[]∨k=1
  · have f1:(items.isEmpty || k == 1)=true:=by
      rcases z with z | z
      · rw [z];rfl
      · rw [z];simp
    wp_walk
    rw [if_neg (by rw [f0];exact Bool.false_ne_true)]
    wp_walk
    exact hs z
  · have f1:(items.isEmpty || k == 1)=false:=by
      simp only [Bool.or_eq_false_iff,beq_eq_false_iff_ne]
      exact ⟨by rw [← Bool.not_eq_true];intro q;exact z (.inl (by simpa using q)),fun q=>z (.inr q)⟩
    wp_walk
    rw [if_neg (by rw [f0];exact Bool.false_ne_true)]
    wp_walk
    have ne:items.isEmpty=false:=(Bool.or_eq_false_iff.mp f1).1
    by_cases k0:k≤0
    · have f2:(decide (k≤0) || items.isEmpty)=true:=by rw [decide_eq_true k0];rfl
      rw [if_pos f2]
      wp_walk
      have e:k.toNat=0:=by lia
      have:=hn z
      rw [e] at this
      exact this
    · have f2:(decide (k≤0) || items.isEmpty)=false:=by rw [decide_eq_false k0,ne];rfl
      rw [if_neg (by rw [f2];exact Bool.false_ne_true)]
      have ek:(items.size:Int)*k=((items.size*k.toNat:Nat):Int):=by
        rw [Int.natCast_mul];congr 1;lia
      have f3:¬ ((items.size:Int)*k>(2^63-1) / 8):=by
        rw [ek]
        have:((sizeLine:Nat):Int)≤(2^63-1) / 8:=by decide
        lia
      have f4:Builtin.Tuple.tupleTooMany ((items.size:Int)*k)=false:=by
        unfold Builtin.Tuple.tupleTooMany
        rw [ek,decide_eq_false]
        lia
      have f5:List.foldl (fun x1 x2=>x1++x2) #[] (List.replicate k.toNat items)=(List.replicate k.toNat items.toList).flatten.toArray:=by
        have:=L2.yH items.toList k.toNat []
        rw [List.nil_append] at this
        simpa using this
      rw [if_neg f3]
      wp_walk
      rw [f5]
      rw [if_neg (by rw [f4];exact Bool.false_ne_true)]
      have hl:sizeOk (.seq (List.replicate k.toNat items.toList).flatten.toArray):=by
        show (List.replicate k.toNat items.toList).flatten.toArray.size≤sizeLine
        rw [List.size_toArray,L2.j0,Array.length_toList,Nat.mul_comm]
        exact hz
      show wpAny _ _ (Builtin.Tuple.tupleExact _ >>= _) _ _ _
      first
        | exact wpAny_bind (m:=Builtin.Tuple.tupleExact _) (wpAny_newObj_type (wpAny_pure (hn z)) hl)
        | exact wpAny_bind (m:=Builtin.Tuple.tupleExact _) (wpAny_newObj_type (hn z) hl)
end
end HT
namespace L2
open PySem PySem.Spec PyProof.Rows
section
variable {X:Cx}
noncomputable def rSlW (K:PySem.W.Frag):V→Option Int→Option Int→Hp→VK→Prop:=fun x lo hi H Q=>∃ a xs,x=.ref a∧SqT K H a xs ∧
  (HT.sIx xs.length 0 lo=0∧HT.sIx xs.length xs.length hi=xs.length)∧Q x H
theorem qfr:SlR X (rSlW X.K):=by
  intro pins s σ H x v vl vu lo hi sl Q I rx hs pl pu h
  obtain ⟨a,xs,rfl,hx,hw,q⟩:=h
  cases rx
  obtain ⟨its,r,ht,hz⟩:=I.tuple hx
  have hlen:its.toArray.size=xs.length:=by rw [List.size_toArray];exact r.length.symm
  refine ⟨"tuple",_,PyProof.Rows.slot_tuple_getitem.lookup,ht.typeIs,?_⟩
  exact HT.zZ ht hs pl pu (by rw [hlen];exact hw) ⟨.ref a,H,I,rfl,q⟩
noncomputable def rRepT (K:PySem.W.Frag):R2:=fun x y H Q=>∃ a k xs,x=.ref a∧y=.int k∧SqT K H a xs∧-(2^63)≤k∧k<2^63∧xs.length*k.toNat≤sizeLine ∧
  ((xs=[]∨k=1)→Q x H)∧((¬ (xs=[]∨k=1))→∀ p,H p=none→Q (.ref p) (upd H p (.tup (List.replicate k.toNat xs).flatten)))
theorem qfs:OpR X (binaryOp .Mult) (rRepT X.K):=by
  intro pins s σ H x y v u Q I rx ry h
  obtain ⟨a,k,xs,rfl,rfl,hx,h1,h2,hz,q1,q2⟩:=h
  cases rx
  obtain ⟨t,rfl⟩:=ry
  obtain ⟨its,r,ht,hz0⟩:=I.tuple hx
  have hlen:its.length=xs.length:=r.length.symm
  have hiff:(its.toArray=#[]∨k=1) ↔ (xs=[]∨k=1):=by
    constructor
    · rintro (z | z)
      · left
        have:its=[]:=by simpa using z
        rw [this] at hlen;exact List.length_eq_zero_iff.mp (by simpa using hlen.symm)
      · exact .inr z
    · rintro (z | z)
      · left
        rw [z] at hlen
        have:its=[]:=List.length_eq_zero_iff.mp (by simpa using hlen)
        rw [this]
      · exact .inr z
  refine wpAny_binaryOp_repeat_ref (T:="tuple") (U:="int") (by decide) ht.typeIs (fun s'=>typeIs_int s' k t) HT.yI F.fills_int_mul F.slot_int_rmul HT.j3 F.slot_int_index.lookup ?_
  refine wpAny_call_entry F.slot_int_rmul (typeIs_int s k t) F.entry_int_rmul (HT.qdE ht ⟨_,rfl,rfl,ht.typeIs,?_⟩) (F.args_int_rmul_2 _ _)
  refine wpAny_call_entry F.slot_tuple_mul ht.typeIs F.entry_tuple_mul (HT.qfq ht h1 h2 (by rw [List.size_toArray,hlen];exact hz) (fun z=>⟨_,rfl,.ref a,H,I,rfl,q1 (hiff.mp z)⟩) fun z=>⟨_,rfl,?_⟩) (F.args_tuple_mul_2 _ _)
  refine ⟨.ref s.heap.objs.size,_,I.laid (t':=s.toks) (o:=.tup (List.replicate k.toNat xs).flatten) (fun b ob q=>Heap.get?_push_of_some _ q) (Nat.le_refl _) ?_,rfl,q2 (fun y=>z (hiff.mpr y)) _ (I.hok.fresh (Nat.le_refl _))⟩
  exact ⟨by rw [j0,Nat.mul_comm];exact hz,_,r.rep k.toNat,IsTup.new _ _,zW _ _⟩
end
end L2
namespace HT
open PySem PyProof.Rows
theorem qdF (A:Around) (s:Shared) (a:Int) (t:Tok) (c:Int) (u:Tok) (prog:Program) (w:World) (E:Value→Shared→Prop) (Q:Value→Shared→Prop) (h:Q (.bool (decide (c≤a))) s) :
    wpAny (model prog w) A (richCompare .GtE (.int a t) (.int c u)) Q E s :=
  (PyProof.Rows.ge_int h:wpAny (model prog w) A (compareOp .GtE (.int a t) (.int c u)) Q E s)
theorem qdG (a c:Int):(!decide (a<c))=decide (c≤a):=by rw [Bool.eq_iff_iff];simp
theorem qdH (a c:Nat):(!decide (a<c))=decide (c≤a):=by rw [Bool.eq_iff_iff];simp
section
open PySem.SeqAt
open PySem.AutoSeq1 (wpAny_loadPart')
open PySem.MeetsSeq PySem.MeetsSeq2 PySem.MeetsSeq3
theorem jA (l b:Addr) (items items2:Array Value) (n n2:Nat) (dd dd2:Option Addr) (sl sl2:Array (Option Value)) (ns ms:List Int) (hi:IntsAre items.toList ns) (hj:IntsAre items2.toList ms) :
    Meets (Builtin.«tuple.__ge__» ⟨[.ref l,.ref b],[]⟩)
      (fun _ R s=>s.heap.get? l=some { cls:=.type "tuple",dict:=dd,data:=.seq items n,slots:=sl }∧s.heap.get? b=some { cls:=.type "tuple",dict:=dd2,data:=.seq items2 n2,slots:=sl2 } ∧
        R (.ok (.ret (.bool (!lexLt ns ms)))) s) :=
  .of_wp fun prog w A R s h=>by
    obtain ⟨hp,g,d,tk,os⟩:=s;obtain ⟨hl,hb,h⟩:=h
    have f2:=AutoSeq1.sub_tuple_tuple
    have z1:items.size=ns.length:=by rw [← hi.length];simp
    have z2:items2.size=ms.length:=by rw [← hj.length];simp
    wp_walk using wpAny_loadPart' hl,wpAny_loadPart' hb,wpAny_forIn_list _ (fun rest b s'=>b.1=none∧s'=⟨hp,g,d,tk,os⟩∧∃ (vs ws:List Value) (ns' ms':List Int),rest=vs.zip ws ∧
      IntsAre vs ns'∧IntsAre ws ms'∧ns'.length+items2.size=ms'.length+items.size∧R (.ok (.ret (.bool (!lexLt ns' ms')))) ⟨hp,g,d,tk,os⟩) _
    case turn =>
      rintro ⟨y,x⟩ rest b s' ⟨hb',rfl,vs,ws,ns',ms',hz,hvi,hwi,hlen,hR⟩
      cases hvi with
      | nil=>rw [List.zip_nil_left] at hz;cases hz
      | cons a t hvi' =>
        cases hwi with
        | nil=>rw [List.zip_nil_right] at hz;cases hz
        | cons c u hwi' =>
          rw [List.zip_cons_cons] at hz
          injection hz with hyx hrest
          injection hyx with hy hx
          subst hy hx
          rw [qN] at hR
          simp only [List.length_cons] at hlen
          obtain ⟨e,he,hiff⟩:=qaw A.in1 ⟨hp,g,d,tk,os⟩ a t c u
          refine wpAny_bind (he prog w _ _ ?_)
          cases e with
          | true =>
            rw [if_pos (hiff.mp rfl)] at hR
            wp_walk
            exact ⟨rfl,rfl,_,_,_,_,hrest,hvi',hwi',by lia,hR⟩
          | false =>
            rw [if_neg (fun q=>absurd (hiff.mpr q) Bool.false_ne_true)] at hR
            have hri:=qdF A.in1 ⟨hp,g,d,tk,os⟩ a t c u prog w
            rw [qdG] at hR
            wp_walk using hri
            exact ⟨_,rfl,by simpa using hR⟩
    case fin =>
      rintro ⟨b1,b2⟩ s' ⟨hb',rfl,vs,ws,ns',ms',hz,hvi,hwi,hlen,hR⟩
      simp only at hb'
      subst hb'
      have hv:lexLt ns' ms'=decide (items.size<items2.size):=by
        cases hvi with
        | nil =>
          cases hwi with
          | nil =>
            simp only [List.length_nil] at hlen
            rw [z9]
            exact (decide_eq_false (by lia)).symm
          | cons c u hw =>
            simp only [List.length_nil,List.length_cons] at hlen
            rw [zH]
            exact (decide_eq_true (by lia)).symm
        | cons a t hv =>
          cases hwi with
          | nil =>
            simp only [List.length_nil,List.length_cons] at hlen
            rw [zI]
            exact (decide_eq_false (by lia)).symm
          | cons c u hw =>
            rw [List.zip_cons_cons] at hz
            cases hz
      rw [hv,qdH] at hR
      wp_walk
      exact ⟨_,rfl,by simpa [Builtin.Tuple.tupleCompareSizes] using hR⟩
    case h =>
      exact ⟨rfl,rfl,items.toList,items2.toList,ns,ms,rfl,hi,hj,by lia,h⟩
end
section
variable {prog:Program} {w:World} {A:Around} {E:Value→Shared→Prop} {s:Shared}
theorem qbg {l b:Addr} {items items2:Array Value} {ns ms:List Int} {Q:Value→Shared→Prop} (hl:IsTup s.heap l items) (hb:IsTup s.heap b items2) (hi:IntsAre items.toList ns) (hj:IntsAre items2.toList ms)
    (hu:A.units<cLine) (h:Q (.bool (!lexLt ns ms)) s):wpAny (model prog w) A (compareOp .GtE (.ref l) (.ref b)) Q E s:=by
  obtain ⟨⟨cls,dd,data,sl⟩,ho,hc,n,hd⟩:=id hl
  obtain ⟨⟨cls2,dd2,data2,sl2⟩,ho2,hc2,n2,hd2⟩:=id hb
  simp only at hc hd hc2 hd2
  subst hc hd hc2 hd2
  exact richCompare_meets_room (op:=.GtE) ⟨_,ho,rfl⟩ ⟨_,ho2,rfl⟩ PySem.F.slot_tuple_ge PySem.F.entry_tuple_ge (PySem.F.args_tuple_ge_2 _ _) (jA l b items items2 n n2 dd dd2 sl sl2 ns ms hi hj)
    ⟨ho,ho2,show Value.bool (!lexLt ns ms)≠Value.notImplemented∧Q (.bool (!lexLt ns ms)) s from ⟨(fun x=>nomatch x),h⟩⟩ hu
end
end HT
namespace L2
open PySem PySem.Spec PyProof.Rows
section
variable {X:Cx} {e:Expr} {te:TE} {pos p2 p3 p4:Pos}
noncomputable def rGeT (K:PySem.W.Frag):R2:=fun x y H Q=>∃ a b ns ms,x=.ref a∧y=.ref b∧SqT K H a (ns.map V.int)∧SqT K H b (ms.map V.int)∧Q (.bl (!HT.lexLt ns ms)) H
theorem qhf (hu:X.A.units<cLine):OpR X (compareOp .GtE) (rGeT X.K):=by
  intro pins s σ H x y v u Q I rx ry h
  obtain ⟨a,b,ns,ms,rfl,rfl,ha,hb,q⟩:=h
  cases rx
  cases ry
  obtain ⟨its,r1,p1,_⟩:=I.tuple ha
  obtain ⟨its2,r2,p2,_⟩:=I.tuple hb
  have i1:IntsAre its.toArray.toList ns:=qO r1
  have i2:IntsAre its2.toArray.toList ms:=qO r2
  exact HT.qbg p1 p2 i1 i2 hu ⟨.bl (!HT.lexLt ns ms),H,I,rfl,q⟩
end
end L2
namespace HT
open PySem PyProof.Rows
section
variable {prog:Program} {w:World} {A:Around} {E:Value→Shared→Prop} {s:Shared}
noncomputable def Many (h:Heap) (d:Addr) (n:Nat):Prop:=∃ o es ep,h.get? d=some o∧o.data=.dict es ep∧es.size=n
theorem qbh {d:Addr} {n:Nat} (hd:(d == sysModules)=false) :
    MeetsIn prog w (Builtin.«dict.__len__» ⟨[.ref d],[]⟩) (fun _ R s=>Many s.heap d n∧R (.ok (.ret (.int n s.toks))) { s with toks:=s.toks+1 }):=by
  refine .of_wp fun A R s hs=>?_
  obtain ⟨⟨o,es,ep,ho,hdat,rfl⟩,h⟩:=hs
  have size:∀ {A:Around} {E:Value→Shared→Prop},wpAny (model prog w) A (dictSize d) (fun k s'=>k=es.size∧s'=s) E s:=by
    intro A E;unfold dictSize;exact wpAny_bind (wpAny_dictEntries ho hdat (wpAny_pure ⟨rfl,rfl⟩))
  refine wpAny_bind (m:=dictSize d) (wpAny_mono size (fun k s' ks=>?_) fun _ _ z=>z)
  obtain ⟨e1,e2⟩:=ks
  subst e1 e2
  exact wpAny_bind (wpAny_pendingCount_other hd (wpAny_ret_mkInt h))
theorem qcQ {d:Addr} {n:Nat} {Q:Value→Shared→Prop} (hd:(d == sysModules)=false) (hm:Many s.heap d n) (ht:s.TypeIs (.ref d) "dict") (hfit:(n:Int)<2^63)
    (h:Q (.int n (s.toks+1)) { s with toks:=s.toks+1+1 }):wpAny (model prog w) A (call (.builtin "len") [.ref d]) Q E s:=by
  have low:¬ ((n:Nat):Int)<0:=by lia
  have high:¬ ((n:Nat):Int)≥2^63:=by lia
  have slot:∀ {A:Around} {Q:Value→Shared→Prop},Q (.int n s.toks) { s with toks:=s.toks+1 }→wpAny (model prog w) A (call (.builtin "dict.__len__") [.ref d]) Q E s:=fun q =>
    call_meetsIn F.slot_dict_len ht F.entry_dict_len (F.args_dict_len_1 _) (qbh (n:=n) hd) ⟨hm,q⟩
  refine Calls.call_function_entry kind_len plain_len entry_len (args_len1 _) ?_
  unfold Builtin.«len»
  refine wpAny_bind (m:=oneArg "len" _) (wpAny_pure (wpAny_bind (wpAny_callSpecial?_slot (name:=Str.ofString "__len__") ht F.slot_dict_len (slot ?_))))
  refine wpAny_bind (wpAny_holding (wpAny_pure (wpAny_bind (wpAny_letGo ?_))))
  show wpAny _ _ (if ((n:Nat):Int)<0 then _ else if ((n:Nat):Int)≥2^63 then _ else _) _ _ _
  rw [if_neg low,if_neg high];exact wpAny_bind (wpAny_mkInt (wpAny_pure ⟨_,rfl,h⟩))
end
end HT
namespace L2
open PySem PySem.Spec PyProof.Rows
section
variable {X:Cx}
theorem qcR:CallR X (.builtin "len") (fun xs H Q=>∃ a kvs,xs=[V.ref a]∧H a=some (.dT kvs)∧Q (.int kvs.length) H):=by
  intro pins s σ H xs us Q I r h
  obtain ⟨a,kvs,rfl,ha,q⟩:=h
  obtain ⟨u,rfl,ru⟩:=vals1 r
  cases ru
  obtain ⟨z,y,ys,rel,o,es,ep,h1,h2,h3,h4,h5⟩:=(show ObjOk X.prog X.w H s.heap a (.dT kvs) from I.hok a _ ha)
  have hn:es.size=kvs.length:=by
    have e1:=congrArg List.length h4
    rw [List.length_map,Array.length_toList] at e1
    rw [e1,rel.length]
  have hfit:((kvs.length:Nat):Int)<2^63:=by rw [sizeLine_eq] at z;lia
  exact HT.qcQ y ⟨o,es,ep,h1,h3,hn⟩ (qhe I (.inr ⟨kvs,.inl ha⟩)).1 hfit ⟨.int kvs.length,H,I.tok _,⟨_,rfl⟩,q⟩
end
end L2
namespace R
open PySem PySem.Spec L2
open PyProof.Rows hiding St
namespace DN
end DN
end R
namespace R
open PySem PySem.Spec L2
open PyProof.Rows hiding St
namespace SN
end SN
end R
section
set_option maxHeartbeats 400000
namespace R
open PySem PySem.Spec L2
open PyProof.Rows hiding St
namespace SN
end SN
end R
end
section
set_option maxHeartbeats 400000
end
section
set_option maxHeartbeats 400000
end
namespace R
open PySem PySem.Spec L2
open PyProof.Rows hiding St
namespace DL
open DN
end DL
end R
section
set_option maxHeartbeats 400000
namespace R
open PySem PySem.Spec L2 HT
open PyProof.Rows hiding St
namespace TS
end TS
end R
end
namespace R
open PySem PySem.Spec PyProof.Rows L2
namespace EX
noncomputable def Errs (a C:Addr) (h:Heap):Prop:=∃ o vs,h.get? a=some o∧o.cls=.ref C∧o.data=.fields vs
end EX
inductive D where
  | non | bl (b:Bool) | int (i:Int) | str (x:Str)
  | tup (l:List D) | lst (l:List D) | emp
  | ref (n:Nat)
  | exc (C:Addr)
mutual
noncomputable def Den (ι:List Addr) (H:Hp):D→V→Prop
  | .non,v=>v=.non
  | .bl b,v=>v=.bl b
  | .int i,v=>v=.int i
  | .str x,v=>v=.str x
  | .tup ds,v=>∃ a xs,v=.ref a∧a ∉ ι∧H a=some (.tup xs)∧Dens ι H ds xs
  | .lst ds,v=>∃ a xs,v=.ref a∧a ∉ ι∧Rd H a (.lst xs)∧Dens ι H ds xs
  | .emp,v=>∃ a,v=.ref a∧a ∉ ι∧H a=some (.dK [])
  | .ref n,v=>∃ a,v=.ref a∧ι[n]?=some a
  | .exc C,v=>∃ a,v=.ref a∧a ∉ ι∧H a=some (.ext (EX.Errs a C))
noncomputable def Dens (ι:List Addr) (H:Hp):List D→List V→Prop
  | [],xs=>xs=[]
  | d::ds,xs=>∃ x r,xs=x::r∧Den ι H d x∧Dens ι H ds r
end
noncomputable def NT:HO→Prop
  | .tbl _=>False
  | _=>True
structure Stp (ι:List Addr) (H:Hp) (ι':List Addr) (H':Hp):Prop where
  pre:ι <+: ι'
  new:∀ a∈ι',a∈ι∨H a=none
  keep:∀ a o,H a=some o→a ∉ ι→NT o→H' a=some o
  there:∀ a,H a≠none→H' a≠none
theorem Stp.refl (ι:List Addr) (H:Hp):Stp ι H ι H:=⟨List.prefix_refl _,fun _ h=>.inl h,fun _ _ h _ _=>h,fun _ h=>h⟩
theorem Stp.notin {ι ι':List Addr} {H H':Hp} (s:Stp ι H ι' H') {a:Addr} {o:HO} (h:H a=some o) (n:a ∉ ι):a ∉ ι':=fun m=>by
  rcases s.new a m with z | z
  · exact n z
  · rw [h] at z;cases z
theorem Stp.trans {ι ι1 ι2:List Addr} {H H1 H2:Hp} (s:Stp ι H ι1 H1) (t:Stp ι1 H1 ι2 H2):Stp ι H ι2 H2 where
  pre:=s.pre.trans t.pre
  new:=fun a m=>by
    rcases t.new a m with z | z
    · exact s.new a z
    · cases q:H a with
      | none=>exact .inr rfl
      | some o=>exact absurd z (s.there a (by rw [q];simp))
  keep:=fun a o h n z=>t.keep a o (s.keep a o h n z) (s.notin h n) z
  there:=fun a h=>t.there a (s.there a h)
theorem Stp.get {ι ι':List Addr} {H H':Hp} (s:Stp ι H ι' H') {n:Nat} {a:Addr} (h:ι[n]?=some a):ι'[n]?=some a:=by
  obtain ⟨t,rfl⟩:=s.pre
  rw [List.getElem?_append_left (List.getElem?_eq_some_iff.mp h).1]
  exact h
theorem Stp.rd {ι ι':List Addr} {H H':Hp} (s:Stp ι H ι' H') {a:Addr} {u:HO} (h:Rd H a u) (n:a ∉ ι) (z:NT u:=by trivial):Rd H' a u∧a ∉ ι':=by
  rcases h with h | ⟨o,h⟩
  · exact ⟨.inl (s.keep _ _ h n z),s.notin h n⟩
  · exact ⟨.inr ⟨o,s.keep _ _ h n trivial⟩,s.notin h n⟩
mutual
theorem Den.mono {ι ι':List Addr} {H H':Hp} (s:Stp ι H ι' H'):∀ (d:D) {v:V},Den ι H d v→Den ι' H' d v
  | .non,_,h=>h
  | .bl _,_,h=>h
  | .int _,_,h=>h
  | .str _,_,h=>h
  | .tup ds,_,h=>by
    obtain ⟨a,xs,e,n,ha,r⟩:=h
    exact ⟨a,xs,e,s.notin ha n,s.keep _ _ ha n trivial,Dens.mono s ds r⟩
  | .lst ds,_,h=>by
    obtain ⟨a,xs,e,n,ha,r⟩:=h
    exact ⟨a,xs,e,(s.rd ha n).2,(s.rd ha n).1,Dens.mono s ds r⟩
  | .emp,_,h=>by
    obtain ⟨a,e,n,ha⟩:=h
    exact ⟨a,e,s.notin ha n,s.keep _ _ ha n trivial⟩
  | .ref _,_,h=>by
    obtain ⟨a,e,ha⟩:=h
    exact ⟨a,e,s.get ha⟩
  | .exc _,_,h=>by
    obtain ⟨a,e,n,ha⟩:=h
    exact ⟨a,e,s.notin ha n,s.keep _ _ ha n trivial⟩
theorem Dens.mono {ι ι':List Addr} {H H':Hp} (s:Stp ι H ι' H'):∀ (ds:List D) {xs:List V},Dens ι H ds xs→Dens ι' H' ds xs
  | [],_,h=>h
  | d::ds,_,h=>by
    obtain ⟨x,r,e,h1,h2⟩:=h
    exact ⟨x,r,e,Den.mono s d h1,Dens.mono s ds h2⟩
end
theorem Dens.length {ι:List Addr} {H:Hp}:∀ {ds:List D} {xs:List V},Dens ι H ds xs→ds.length=xs.length
  | [],_,h=>by cases (show _=[] from h);rfl
  | d::ds,_,h=>by
    obtain ⟨x,r,rfl,_,h2⟩:=h
    simp [Dens.length h2]
theorem Dens.append {ι:List Addr} {H:Hp}:∀ {ds es:List D} {xs ys:List V},Dens ι H ds xs→Dens ι H es ys→Dens ι H (ds++es) (xs++ys)
  | [],_,_,_,h,k=>by cases (show _=[] from h);exact k
  | d::ds,_,_,_,h,k=>by
    obtain ⟨x,r,rfl,h1,h2⟩:=h
    exact ⟨x,_,rfl,h1,Dens.append h2 k⟩
theorem Dens.get {ι:List Addr} {H:Hp}:∀ {ds:List D} {xs:List V} {i:Nat} {d:D},Dens ι H ds xs→ds[i]?=some d→∃ x,xs[i]?=some x∧Den ι H d x
  | [],_,_,_,_,e=>by simp at e
  | d::ds,_,0,_,h,e=>by
    obtain ⟨x,r,rfl,h1,h2⟩:=h
    simp at e;subst e
    exact ⟨x,rfl,h1⟩
  | d::ds,_,i+1,_,h,e=>by
    obtain ⟨x,r,rfl,h1,h2⟩:=h
    obtain ⟨y,e1,e2⟩:=Dens.get (i:=i) h2 (by simpa using e)
    exact ⟨y,by simpa using e1,e2⟩
theorem Dens.take {ι:List Addr} {H:Hp}:∀ {ds:List D} {xs:List V} (n:Nat),Dens ι H ds xs→Dens ι H (ds.take n) (xs.take n)
  | _,_,0,_=>by simp [Dens]
  | [],_,n+1,h=>by cases (show _=[] from h);simp [Dens]
  | d::ds,_,n+1,h=>by
    obtain ⟨x,r,rfl,h1,h2⟩:=h
    exact ⟨x,_,rfl,h1,Dens.take n h2⟩
theorem Dens.drop {ι:List Addr} {H:Hp}:∀ {ds:List D} {xs:List V} (n:Nat),Dens ι H ds xs→Dens ι H (ds.drop n) (xs.drop n)
  | _,_,0,h=>by simpa using h
  | [],_,n+1,h=>by cases (show _=[] from h);simp [Dens]
  | d::ds,_,n+1,h=>by
    obtain ⟨x,r,rfl,h1,h2⟩:=h
    exact Dens.drop n h2
theorem Dens.set {ι:List Addr} {H:Hp} {d:D} {x:V} (hd:Den ι H d x):∀ {ds:List D} {xs:List V} (i:Nat),Dens ι H ds xs→Dens ι H (ds.set i d) (xs.set i x)
  | [],_,_,h=>by cases (show _=[] from h);simp [Dens]
  | d::ds,_,0,h=>by
    obtain ⟨x,r,rfl,h1,h2⟩:=h
    exact ⟨_,_,rfl,hd,h2⟩
  | d::ds,_,i+1,h=>by
    obtain ⟨x,r,rfl,h1,h2⟩:=h
    exact ⟨_,_,rfl,h1,Dens.set hd i h2⟩
theorem Dens.snoc {ι:List Addr} {H:Hp} {d:D} {x:V} {ds:List D} {xs:List V} (h:Dens ι H ds xs) (hd:Den ι H d x):Dens ι H (ds++[d]) (xs++[x]) :=
  h.append ⟨x,[],rfl,hd,rfl⟩
mutual
noncomputable def refsLt (n:Nat):D→Bool
  | .ref k=>decide (k<n)
  | .tup l=>refsLts n l
  | .lst l=>refsLts n l
  | .exc _=>false
  | _=>true
noncomputable def refsLts (n:Nat):List D→Bool
  | []=>true
  | d::r=>refsLt n d&&refsLts n r
end
theorem qQ (n:Nat):∀ (a b:List D),refsLts n (a++b)=(refsLts n a&&refsLts n b)
  | [],b=>by simp [refsLts]
  | d::r,b=>by simp only [List.cons_append,refsLts,qQ n r b,Bool.and_assoc]
theorem qv {n:Nat}:∀ {l:List D} {d:D},refsLts n l=true→d∈l→refsLt n d=true
  | [],_,_,h=>by cases h
  | x::r,d,h,m=>by
    simp only [refsLts,Bool.and_eq_true] at h
    rcases List.mem_cons.mp m with z | z
    · rw [z];exact h.1
    · exact qv h.2 z
theorem qU {n:Nat}:∀ {l:List D},(∀ d∈l,refsLt n d=true)→refsLts n l=true
  | [],_=>rfl
  | x::r,h=>by
    simp only [refsLts,Bool.and_eq_true]
    exact ⟨h x List.mem_cons_self,qU fun d m=>h d (List.mem_cons_of_mem _ m)⟩
mutual
theorem Den.less {ι:List Addr} {H:Hp} {n:Nat}:∀ (d:D) {v:V},refsLt n d=true→Den ι H d v→Den (ι.take n) H d v
  | .non,_,_,h=>h
  | .bl _,_,_,h=>h
  | .int _,_,_,h=>h
  | .str _,_,_,h=>h
  | .tup ds,_,r,h=>by
    obtain ⟨a,xs,e,m,ha,q⟩:=h
    exact ⟨a,xs,e,fun z=>m (List.mem_of_mem_take z),ha,Dens.less ds r q⟩
  | .lst ds,_,r,h=>by
    obtain ⟨a,xs,e,m,ha,q⟩:=h
    exact ⟨a,xs,e,fun z=>m (List.mem_of_mem_take z),ha,Dens.less ds r q⟩
  | .emp,_,_,h=>by
    obtain ⟨a,e,m,ha⟩:=h
    exact ⟨a,e,fun z=>m (List.mem_of_mem_take z),ha⟩
  | .ref k,_,r,h=>by
    obtain ⟨a,e,ha⟩:=h
    exact ⟨a,e,by rw [List.getElem?_take_of_lt (of_decide_eq_true r)];exact ha⟩
  | .exc _,_,r,_=>by cases r
theorem Dens.less {ι:List Addr} {H:Hp} {n:Nat}:∀ (ds:List D) {xs:List V},refsLts n ds=true→Dens ι H ds xs→Dens (ι.take n) H ds xs
  | [],_,_,h=>h
  | d::ds,_,r,h=>by
    obtain ⟨x,t,e,h1,h2⟩:=h
    simp only [refsLts,Bool.and_eq_true] at r
    exact ⟨x,t,e,Den.less d r.1 h1,Dens.less ds r.2 h2⟩
end
mutual
theorem q8 {n:Nat}:∀ (d:D),refsLt 0 d=true→refsLt n d=true
  | .non,_=>rfl
  | .bl _,_=>rfl
  | .int _,_=>rfl
  | .str _,_=>rfl
  | .tup ds,h=>qK ds h
  | .lst ds,h=>qK ds h
  | .emp,_=>rfl
  | .ref k,h=>absurd (of_decide_eq_true (show decide (k<0)=true from h)) (Nat.not_lt_zero _)
  | .exc _,h=>by cases h
theorem qK {n:Nat}:∀ (ds:List D),refsLts 0 ds=true→refsLts n ds=true
  | [],_=>rfl
  | d::ds,h=>by
    simp only [refsLts,Bool.and_eq_true] at h ⊢
    exact ⟨q8 d h.1,qK ds h.2⟩
end
mutual
theorem qcS {m n:Nat} (h:m≤n):∀ (d:D),refsLt m d=true→refsLt n d=true
  | .non,_=>rfl
  | .bl _,_=>rfl
  | .int _,_=>rfl
  | .str _,_=>rfl
  | .tup ds,q=>zC h ds q
  | .lst ds,q=>zC h ds q
  | .emp,_=>rfl
  | .ref k,q=>decide_eq_true (Nat.lt_of_lt_of_le (of_decide_eq_true (show decide (k<m)=true from q)) h)
  | .exc _,h=>by cases h
theorem zC {m n:Nat} (h:m≤n):∀ (ds:List D),refsLts m ds=true→refsLts n ds=true
  | [],_=>rfl
  | d::ds,q=>by
    simp only [refsLts,Bool.and_eq_true] at q ⊢
    exact ⟨qcS h d q.1,zC h ds q.2⟩
end
inductive SO where
  | lst (l:List D)
  | dic (l:List (List Int × D))
  | dis (l:List (Key × D))
noncomputable def keyT (k:List Int):List Key:=k.map Sum.inl
noncomputable def DGs {κ K:Type} (f:κ→K) (ι:List Addr) (H:Hp):List (κ × D)→List (K × V)→Prop
  | [],kvs=>kvs=[]
  | p::l,kvs=>∃ v r,kvs=(f p.1,v)::r∧Den ι H p.2 v∧DGs f ι H l r
theorem DGs.mono {κ K:Type} {f:κ→K} {ι ι':List Addr} {H H':Hp} (s:Stp ι H ι' H'):∀ {l:List (κ × D)} {kvs:List (K × V)},DGs f ι H l kvs→DGs f ι' H' l kvs
  | [],_,h=>h
  | _::_,_,h=>let ⟨v,r,e,h1,h2⟩:=h;⟨v,r,e,Den.mono s _ h1,DGs.mono s h2⟩
theorem DGs.length {κ K:Type} {f:κ→K} {ι:List Addr} {H:Hp}:∀ {l:List (κ × D)} {kvs:List (K × V)},DGs f ι H l kvs→l.length=kvs.length
  | [],_,h=>by cases (show _=[] from h);rfl
  | _::_,_,h=>by obtain ⟨v,r,rfl,_,h2⟩:=h;simp [DGs.length h2]
theorem DGs.less {κ K:Type} {f:κ→K} {ι:List Addr} {H:Hp} {n:Nat}:∀ {l:List (κ × D)} {kvs:List (K × V)},refsLts n (l.map (·.2))=true→DGs f ι H l kvs→DGs f (ι.take n) H l kvs
  | [],_,_,h=>h
  | _::_,_,r,h=>by
    obtain ⟨v,t,e,h1,h2⟩:=h
    simp only [List.map_cons,refsLts,Bool.and_eq_true] at r
    exact ⟨v,t,e,Den.less _ r.1 h1,DGs.less r.2 h2⟩
noncomputable def SOk (ι:List Addr) (H:Hp) (a:Addr):SO→Prop
  | .lst ds=>(∃ j,ι[j]?=some a∧refsLts j ds=true)∧∃ xs,H a=some (.lst xs)∧Dens ι H ds xs
  | .dic l=>refsLts 0 (l.map (·.2))=true∧∃ kvs,H a=some (.dT kvs)∧DGs keyT ι H l kvs
  | .dis l=>refsLts 0 (l.map (·.2))=true∧∃ kvs,H a=some (.dK kvs)∧DGs id ι H l kvs
structure Sto (ι:List Addr) (H:Hp) (S:List SO):Prop where
  len:ι.length=S.length
  nd:ι.Nodup
  obj:∀ (n:Nat) (a:Addr) (so:SO),ι[n]?=some a→S[n]?=some so→SOk ι H a so
theorem SOk.some {ι:List Addr} {H:Hp} {a:Addr}:∀ {so:SO},SOk ι H a so→H a≠none
  | .lst _,⟨_,_,h,_⟩=>by rw [h];simp
  | .dic _,⟨_,_,h,_⟩=>by rw [h];simp
  | .dis _,⟨_,_,h,_⟩=>by rw [h];simp
theorem Sto.there {ι:List Addr} {H:Hp} {S:List SO} (s:Sto ι H S) {a:Addr} (m:a∈ι):H a≠none:=by
  obtain ⟨n,hn,e⟩:=List.getElem_of_mem m
  have hs:n<S.length:=by rw [← s.len];exact hn
  exact (s.obj n a S[n] (by rw [List.getElem?_eq_getElem hn,e]) (List.getElem?_eq_getElem hs)).some
theorem Sto.fresh {ι:List Addr} {H:Hp} {S:List SO} (s:Sto ι H S) {a:Addr} (h:H a=none):a ∉ ι:=fun m=>s.there m h
theorem SOk.mono {ι ι':List Addr} {H H':Hp} (s:Stp ι H ι' H') {a:Addr} (hk:H' a=H a):∀ {so:SO},SOk ι H a so→SOk ι' H' a so
  | .lst ds,⟨⟨j,e,f⟩,xs,h,r⟩=>⟨⟨j,s.get e,f⟩,xs,by rw [hk];exact h,Dens.mono s _ r⟩
  | .dic l,⟨f,vs,h,r⟩=>⟨f,vs,by rw [hk];exact h,DGs.mono s r⟩
  | .dis l,⟨f,vs,h,r⟩=>⟨f,vs,by rw [hk];exact h,DGs.mono s r⟩
theorem Stp.laid {ι:List Addr} {H:Hp} {p:Addr} (h:H p=none) (o:HO):Stp ι H ι (upd H p o) where
  pre:=List.prefix_refl _
  new:=fun _ m=>.inl m
  keep:=fun a u e _ _=>by rw [qk (qS e h)];exact e
  there:=fun a e=>by
    by_cases z:a=p
    · subst z;rw [qm];simp
    · rw [qk z];exact e
theorem Sto.laid {ι:List Addr} {H:Hp} {S:List SO} (s:Sto ι H S) {p:Addr} (h:H p=none) (o:HO):Sto ι (upd H p o) S where
  len:=s.len
  nd:=s.nd
  obj:=fun n a so e1 e2=>(s.obj n a so e1 e2).mono (Stp.laid h o) (by
    rw [qk];intro z;subst z;exact s.there (List.mem_of_getElem? e1) h)
theorem Stp.grow {ι:List Addr} {H:Hp} {p:Addr} (h:H p=none) (o:HO):Stp ι H (ι++[p]) (upd H p o) where
  pre:=List.prefix_append _ _
  new:=fun a m=>by
    rcases List.mem_append.mp m with z | z
    · exact .inl z
    · rw [List.mem_singleton.mp z];exact .inr h
  keep:=(Stp.laid (ι:=ι) h o).keep
  there:=(Stp.laid (ι:=ι) h o).there
theorem Sto.grow {ι:List Addr} {H:Hp} {S:List SO} (s:Sto ι H S) {p:Addr} (h:H p=none) {o:HO} {so:SO} (k:SOk (ι++[p]) (upd H p o) p so):Sto (ι++[p]) (upd H p o) (S++[so]) where
  len:=by simp [s.len]
  nd:=by
    rw [List.nodup_append]
    refine ⟨s.nd,by simp,fun a ha b hb e=>?_⟩
    rw [List.mem_singleton.mp hb] at e;subst e
    exact s.fresh h ha
  obj:=fun n a x e1 e2=>by
    by_cases hn:n<ι.length
    · rw [List.getElem?_append_left hn] at e1
      rw [List.getElem?_append_left (by rw [← s.len];exact hn)] at e2
      exact (s.obj n a x e1 e2).mono (Stp.grow h o) (by
        rw [qk];intro z;subst z;exact s.there (List.mem_of_getElem? e1) h)
    · rw [List.getElem?_append_right (by lia)] at e1
      rw [List.getElem?_append_right (by rw [← s.len];lia)] at e2
      have z:n-ι.length=0:=by
        have:=(List.getElem?_eq_some_iff.mp e1).1
        simp at this;lia
      rw [z] at e1
      rw [← s.len,z] at e2
      simp at e1 e2
      subst e1 e2
      exact k
theorem Stp.put {ι:List Addr} {H:Hp} {p:Addr} (m:p∈ι) (o:HO):Stp ι H ι (upd H p o) where
  pre:=List.prefix_refl _
  new:=fun _ m=>.inl m
  keep:=fun a u e n _=>by rw [qk (fun z=>n (by rw [z];exact m))];exact e
  there:=fun a e=>by
    by_cases z:a=p
    · subst z;rw [qm];simp
    · rw [qk z];exact e
theorem zh {ι:List Addr} (hN:ι.Nodup) {i j:Nat} {x:Addr} (a:ι[i]?=some x) (b:ι[j]?=some x):i=j:=by
  obtain ⟨h1,e1⟩:=List.getElem?_eq_some_iff.mp a
  obtain ⟨h2,e2⟩:=List.getElem?_eq_some_iff.mp b
  exact (List.getElem_inj hN).mp (e1.trans e2.symm)
theorem Sto.put {ι:List Addr} {H:Hp} {S:List SO} (s:Sto ι H S) {n:Nat} {p:Addr} (hp:ι[n]?=some p) {o:HO} {so:SO} (k:SOk ι (upd H p o) p so):Sto ι (upd H p o) (S.set n so) where
  len:=by rw [List.length_set];exact s.len
  nd:=s.nd
  obj:=fun j a x e1 e2=>by
    by_cases hj:j=n
    · subst hj
      rw [hp] at e1
      obtain rfl:=Option.some.inj e1
      have hl:j<S.length:=by rw [← s.len];exact (List.getElem?_eq_some_iff.mp hp).1
      rw [List.getElem?_set_self hl] at e2
      obtain rfl:=Option.some.inj e2
      exact k
    · rw [List.getElem?_set_ne (Ne.symm hj)] at e2
      refine (s.obj j a x e1 e2).mono (Stp.put (List.mem_of_getElem? hp) o) ?_
      rw [qk]
      intro z;subst z
      exact hj (zh s.nd e1 hp)
theorem Sto.less {ι:List Addr} {H:Hp} {S:List SO} (s:Sto ι H S) (n:Nat):Sto (ι.take n) H (S.take n) where
  len:=by rw [List.length_take,List.length_take,s.len]
  nd:=s.nd.sublist (List.take_sublist _ _)
  obj:=fun j a so e1 e2=>by
    have h1:ι[j]?=some a:=by
      have:=(List.getElem?_eq_some_iff.mp e1).1
      rw [List.length_take] at this
      rw [List.getElem?_take_of_lt (by lia)] at e1;exact e1
    have h2:S[j]?=some so:=by
      have:=(List.getElem?_eq_some_iff.mp e2).1
      rw [List.length_take] at this
      rw [List.getElem?_take_of_lt (by lia)] at e2;exact e2
    have k:=s.obj j a so h1 h2
    cases so with
    | lst ds =>
      obtain ⟨⟨i,ei,f⟩,xs,h,r⟩:=k
      have hj:j<(ι.take n).length:=(List.getElem?_eq_some_iff.mp e1).1
      rw [List.length_take] at hj
      obtain rfl:i=j:=zh s.nd ei h1
      exact ⟨⟨i,e1,f⟩,xs,h,Dens.less ds (zC (by lia) ds f) r⟩
    | dic l =>
      obtain ⟨f,kvs,h,r⟩:=k
      exact ⟨f,kvs,h,DGs.less (qK _ f) r⟩
    | dis l =>
      obtain ⟨f,kvs,h,r⟩:=k
      exact ⟨f,kvs,h,DGs.less (qK _ f) r⟩
theorem Stp.less {ι ι':List Addr} {H H':Hp} (s:Stp ι H ι' H'):Stp ι H (ι'.take ι.length) H':=by
  have e:ι'.take ι.length=ι:=by
    obtain ⟨t,rfl⟩:=s.pre
    simp
  rw [e]
  exact ⟨List.prefix_refl _,fun _ m=>.inl m,s.keep,s.there⟩
theorem Stp.take_eq {ι ι':List Addr} {H H':Hp} (s:Stp ι H ι' H'):ι'.take ι.length=ι:=by
  obtain ⟨t,rfl⟩:=s.pre
  simp
end R
namespace R
open PySem PySem.Spec PyProof.Rows L2
noncomputable abbrev Sr:=List SO
noncomputable abbrev En:=List (Option D)
inductive Res (α:Type) where
  | ok (a:α) (S:Sr) | err (x:D) (S:Sr) | no
@[reducible] noncomputable def Res.bind {α β:Type} (r:Res α) (f:α→Sr→Res β):Res β:=match r with
  | .ok a S=>f a S
  | .err x S=>.err x S
  | .no=>.no
@[simp] theorem Res.bind_ok {α β:Type} (a:α) (S:Sr) (f:α→Sr→Res β):(Res.ok a S).bind f=f a S:=rfl
@[simp] theorem Res.bind_err {α β:Type} (x:D) (S:Sr) (f:α→Sr→Res β):(Res.err x S).bind f=.err x S:=rfl
@[simp] theorem Res.bind_no {α β:Type} (f:α→Sr→Res β):(Res.no:Res α).bind f=.no:=rfl
noncomputable def ofO {α:Type} (o:Option α) (S:Sr):Res α:=match o with
  | some a=>.ok a S
  | none=>.no
@[simp] theorem qip {α:Type} (a:α) (S:Sr):ofO (some a) S=.ok a S:=rfl
@[simp] theorem qiq {α:Type} (S:Sr):(ofO none S:Res α)=.no:=rfl
inductive BOp where | add | sub | mul | fdiv | mod | pow | shl | shr | band
inductive COp where | eq | ne | lt | le | gt | ge | is | isn | inn | nin
inductive Ty where | int | bool | tuple | list | str | dict
noncomputable def Ty.nm:Ty→String
  | .int=>"int" | .bool=>"bool" | .tuple=>"tuple" | .list=>"list" | .str=>"str" | .dict=>"dict"
noncomputable def mulOk (a b:Int):Bool:=!((decide (Builtin.Int.intBits a>shortFactorBits)&&decide (Builtin.Int.intBits b>shortFactorBits)&&Builtin.Int.intTooBig (Builtin.Int.intBits a+Builtin.Int.intBits b)))
noncomputable def divOk (a b:Int):Bool:=!(b == 0)&&!(Builtin.divisionGoesByPylong a b)
noncomputable def lstOf (S:Sr):D→Option (List D)
  | .lst l=>some l
  | .ref n=>match S[n]? with | some (.lst l)=>some l | _=>none
  | _=>none
noncomputable def binI:BOp→Int→Int→Option Int
  | .add,i,j=>some (i+j)
  | .sub,i,j=>some (i-j)
  | .mul,i,j=>if mulOk i j then some (i*j) else none
  | .fdiv,i,j=>if divOk i j then some (i.fdiv j) else none
  | .mod,i,j=>if j=0 then none else some (i.fmod j)
  | .pow,i,j=>if 0≤j∧j≤1000000∧i.natAbs<2^64 then some (i^j.toNat) else none
  | .shl,i,j=>if 0≤j∧j≤1000000∧i.natAbs<2^64 then some (i*2^j.toNat) else none
  | .shr,i,j=>if 0≤j then some (i / 2^j.toNat) else none
  | .band,i,j=>some (Builtin.bitAnd i j)
noncomputable def catOk {α:Type} (a b:List α):Bool:=decide (a.length+b.length≤sizeLine)
noncomputable def repOk {α:Type} (a:List α) (k:Int):Bool:=decide (-(2^63)≤k∧k<2^63∧a.length*k.toNat≤sizeLine)
noncomputable def rep {α:Type} (a:List α) (k:Int):List α:=(List.replicate k.toNat a).flatten
noncomputable def binD (o:BOp) (x y:D) (S:Sr):Option D :=
  match x,y with
  | .int i,.int j=>(binI o i j).map .int
  | .str a,.str b=>match o with
    | .add=>if a.length+b.length≤sizeLine then some (.str (a++b)) else none
    | _=>none
  | .tup a,.tup b=>match o with
    | .add=>if catOk a b then some (.tup (a++b)) else none
    | _=>none
  | .tup a,.int k=>match o with
    | .mul=>if repOk a k then some (.tup (rep a k)) else none
    | _=>none
  | x,.int k=>match o with
    | .mul=>match lstOf S x with
      | some a=>if repOk a k then some (.lst (rep a k)) else none
      | none=>none
    | _=>none
  | x,y=>match o with
    | .add=>match lstOf S x,lstOf S y with
      | some a,some b=>if catOk a b then some (.lst (a++b)) else none
      | _,_=>none
    | _=>none
noncomputable def eqL (f:D→D→Option Bool):List D→List D→Option Bool
  | [],[]=>some true
  | [],_::_=>some false
  | _::_,[]=>some false
  | a::r,b::t=>match f a b,eqL f r t with
    | some x,some y=>some (x&&y)
    | _,_=>none
noncomputable def eqD:Nat→D→D→Option Bool
  | 0,_,_=>none
  | n+1,x,y=>match x,y with
    | .non,.non=>some true
    | .bl a,.bl b=>some (a == b)
    | .int a,.int b=>some (a == b)
    | .str a,.str b=>some (a == b)
    | .bl a,.int b=>some ((if a then 1 else 0) == b)
    | .int a,.bl b=>some (a == (if b then 1 else 0))
    | .tup a,.tup b=>eqL (eqD n) a b
    | .lst a,.lst b=>if a.length=b.length then eqL (eqD n) a b else some false
    | .emp,_=>none
    | _,.emp=>none
    | .ref _,_=>none
    | _,.ref _=>none
    | .exc _,_=>none
    | _,.exc _=>none
    | _,_=>some false
noncomputable def intsOf:List D→Option (List Int)
  | []=>some []
  | .int i::r=>(intsOf r).map (i::·)
  | _=>none
noncomputable def flatD:D→Bool
  | .non | .bl _ | .int _ | .str _=>true
  | _=>false
noncomputable def eqF:D→D→Bool
  | .non,.non=>true
  | .bl a,.bl b=>decide (a=b)
  | .int i,.int j=>decide (i=j)
  | .bl a,.int j=>decide ((if a then 1 else 0)=j)
  | .int i,.bl b=>decide (i=(if b then 1 else 0))
  | .str a,.str b=>decide (a=b)
  | _,_=>false
noncomputable def inD (x:D) (l:List D):Option Bool:=if flatD x&&l.all flatD then some (l.any fun y=>eqF y x) else none
noncomputable def seqOf (S:Sr):D→Option (List D)
  | .tup l=>some l
  | d=>lstOf S d
noncomputable def cmpD (o:COp) (x y:D) (S:Sr):Option Bool:=match o with
  | .eq=>eqD 20 x y
  | .ne=>(eqD 20 x y).map (!·)
  | .lt=>match x,y with
    | .int i,.int j=>some (decide (i<j))
    | .tup a,.tup b=>match intsOf a,intsOf b with
      | some m,some n=>some (HT.lexLt m n)
      | _,_=>none
    | _,_=>none
  | .le=>match x,y with | .int i,.int j=>some (decide (i≤j)) | _,_=>none
  | .gt=>match x,y with | .int i,.int j=>some (decide (j<i)) | _,_=>none
  | .ge=>match x,y with
    | .int i,.int j=>some (decide (j≤i))
    | .tup a,.tup b=>match intsOf a,intsOf b with
      | some m,some n=>some (!HT.lexLt m n)
      | _,_=>none
    | _,_=>none
  | .is=>match y with
    | .non=>some (match x with | .non=>true | _=>false)
    | .bl b=>match x with | .bl a=>some (a == b) | .non=>some false | _=>none
    | _=>none
  | .isn=>match y with
    | .non=>some (match x with | .non=>false | _=>true)
    | .bl b=>match x with | .bl a=>some (!(a == b)) | .non=>some true | _=>none
    | _=>none
  | .inn=>(seqOf S y).bind (inD x)
  | .nin=>(seqOf S y).bind fun l=>(inD x l).map (!·)
noncomputable def truD (S:Sr):D→Option Bool
  | .non=>some false
  | .bl b=>some b
  | .int i=>some (i != 0)
  | .str x=>if x.length≤sizeLine then some ((x.length:Int) != 0) else none
  | .tup l=>some (!l.isEmpty)
  | .emp=>some false
  | d=>(lstOf S d).map fun l=>!l.isEmpty
noncomputable def isiD (S:Sr) (t:Ty):D→Option Bool
  | .non=>some false
  | .bl _=>some (match t with | .int=>true | .bool=>true | _=>false)
  | .int _=>some (match t with | .int=>true | _=>false)
  | .str _=>some (match t with | .str=>true | _=>false)
  | .tup _=>some (match t with | .tuple=>true | _=>false)
  | .lst _=>some (match t with | .list=>true | _=>false)
  | .emp=>some (match t with | .dict=>true | _=>false)
  | .ref n=>match S[n]? with
    | some (.lst _)=>some (match t with | .list=>true | _=>false)
    | some (.dic _)=>some (match t with | .dict=>true | _=>false)
    | some (.dis _)=>some (match t with | .dict=>true | _=>false)
    | none=>none
  | .exc _=>none
noncomputable def lookA (C:Addr):List (Addr × Bool)→Option Bool
  | []=>none
  | (c,b)::r=>if c=C then some b else lookA C r
noncomputable def isxD (t:List (Addr × Bool)):D→Option Bool
  | .exc C=>lookA C t
  | _=>none
noncomputable def keyD:D→Option Key
  | .int i=>some (.inl i)
  | .str x=>some (.inr x)
  | _=>none
noncomputable def lookT {κ:Type} [DecidableEq κ] (k:κ):List (κ × D)→Option D
  | []=>none
  | (j,d)::r=>if j=k then some d else lookT k r
noncomputable def putT {κ:Type} [DecidableEq κ] (k:κ) (d:D) (l:List (κ × D)):List (κ × D) :=
  if l.any (fun p=>decide (p.1=k)) then l.map (fun p=>if p.1=k then (p.1,d) else p) else l++[(k,d)]
noncomputable def idxD (S:Sr) (x i:D):Option D:=match i with
  | .int k=>(seqOf S x).bind fun l=>atI l k
  | .tup ks=>match x with
    | .ref n=>match S[n]? with
      | some (.dic l)=>(intsOf ks).bind fun k=>lookT k l
      | _=>none
    | _=>none
  | _=>none
noncomputable def cutD (l:List D) (lo hi:Option Int):List D:=(l.drop (HT.sIx l.length 0 lo)).take (HT.sIx l.length l.length hi-HT.sIx l.length 0 lo)
noncomputable def slcD (S:Sr) (x:D) (lo hi:Option Int):Option D:=match x with
  | .tup l=>some (.tup (cutD l lo hi))
  | d=>(lstOf S d).map fun l=>.lst (cutD l lo hi)
noncomputable def rngL (a b s:Int):List D:=(List.range ((b-a+s-1) / s).toNat).map fun (k:Nat)=>D.int (a+s*k)
noncomputable def insI (x:Int):List Int→List Int
  | []=>[x]
  | y::r=>if x≤y then x::y::r else y::insI x r
noncomputable def sortI (l:List Int):List Int:=l.foldr insI []
noncomputable def insT (x:List Int):List (List Int)→List (List Int)
  | []=>[x]
  | y::r=>if HT.lexLt y x then y::insT x r else x::y::r
noncomputable def sortT (l:List (List Int)):List (List Int):=l.foldr insT []
noncomputable def tupsOf:List D→Option (List (List Int))
  | []=>some []
  | .tup a::r=>(intsOf a).bind fun m=>(tupsOf r).map (m::·)
  | _=>none
noncomputable def tupI (m:List Int):D:=.tup (m.map .int)
noncomputable def sortL (l:List D):Option (List D) :=
  if l.length<64 then
    match intsOf l with
    | some ns=>some ((sortI ns).map .int)
    | none=>(tupsOf l).bind fun ts=>if ts.Nodup∧∀ t∈ts,t≠[] then some ((sortT ts).map tupI) else none
  else none
noncomputable def walkD (S:Sr):D→Option (List D)
  | .lst l=>some l
  | .emp=>some []
  | .ref n=>match S[n]? with
    | some (.lst l)=>some l
    | some (.dic l)=>some (l.map fun p=>tupI p.1)
    | _=>none
  | _=>none
inductive Blt where | len | abs | min2 | max2 | divmod | list (m:Bool) | tuple | sorted (m:Bool) | all | any | sum | str | int | sortp (m:Bool) | dict | sset (m:Bool) | dictL | sumT | sumB
noncomputable def newL (m:Bool) (l:List D) (S:Sr):Res D:=if m then (if refsLts 0 l then .ok (.ref S.length) (S++[.lst l]) else .no) else .ok (.lst l) S
noncomputable def binM (o:BOp) (x y:D) (S:Sr):Res D:=match o with
  | .add=>match lstOf S x,lstOf S y with
    | some a,some b=>if catOk a b then newL true (a++b) S else .no
    | _,_=>.no
  | .mul=>match lstOf S x,y with
    | some a,.int k=>if repOk a k then newL true (rep a k) S else .no
    | _,_=>.no
  | _=>.no
noncomputable def lenD (S:Sr):D→Option Nat
  | .str x=>if x.length≤sizeLine then some x.length else none
  | .ref n=>match S[n]? with
    | some (.lst l)=>some l.length
    | some (.dic l)=>some l.length
    | some (.dis _)=>none
    | none=>none
  | .tup l=>some l.length
  | .lst l=>some l.length
  | _=>none
noncomputable def boolsOf:List D→Option (List Bool)
  | []=>some []
  | .bl b::r=>(boolsOf r).map (b::·)
  | _=>none
noncomputable def one (f:D→Sr→Res D) (xs:List D) (S:Sr):Res D:=match xs with
  | [x]=>f x S
  | _=>.no
noncomputable def two (f:D→D→Sr→Res D) (xs:List D) (S:Sr):Res D:=match xs with
  | [x,y]=>f x y S
  | _=>.no
noncomputable def bLen (x:D) (S:Sr):Res D:=ofO ((lenD S x).map fun n=>.int n) S
noncomputable def bAbs (x:D) (S:Sr):Res D:=match x with
  | .int i=>.ok (.int (if i<0 then -i else i)) S
  | _=>.no
noncomputable def bMin (x y:D) (S:Sr):Res D:=match x,y with
  | .int i,.int j=>.ok (.int (if j<i then j else i)) S
  | _,_=>.no
noncomputable def bMax (x y:D) (S:Sr):Res D:=match x,y with
  | .int i,.int j=>.ok (.int (if j>i then j else i)) S
  | _,_=>.no
noncomputable def bDivmod (x y:D) (S:Sr):Res D:=match x,y with
  | .int i,.int j=>if divOk i j then .ok (.tup [.int (i.fdiv j),.int (i.fmod j)]) S else .no
  | _,_=>.no
noncomputable def bList (m:Bool) (x:D) (S:Sr):Res D:=match seqOf S x with
  | some l=>newL m l S
  | none=>.no
noncomputable def bTuple (x:D) (S:Sr):Res D:=ofO ((seqOf S x).map .tup) S
noncomputable def bSorted (m:Bool) (x:D) (S:Sr):Res D:=match (walkD S x).bind sortL with
  | some l=>newL m l S
  | none=>.no
noncomputable def pairsD:List D→Option (List (List Int × Int))
  | []=>some []
  | .tup [.tup a,.int i]::r=>(intsOf a).bind fun m=>(pairsD r).map ((m,i)::·)
  | _=>none
noncomputable def pairD (p:List Int × Int):D:=.tup [tupI p.1,.int p.2]
noncomputable def atP (k:List Int):List (List Int × Int)→Int
  | []=>0
  | p::r=>if p.1=k then p.2 else atP k r
noncomputable def sortP (ps:List (List Int × Int)):List (List Int × Int):=(sortT (ps.map (·.1))).map fun k=>(k,atP k ps)
noncomputable def bSortp (m:Bool) (x:D) (S:Sr):Res D:=match (lstOf S x).bind pairsD with
  | some ps=>if ps.length<64∧(ps.map (·.1)).Nodup then newL m ((sortP ps).map pairD) S else .no
  | none=>.no
noncomputable def bAll (x:D) (S:Sr):Res D:=ofO (((seqOf S x).bind boolsOf).map fun l=>.bl (l.all id)) S
noncomputable def bAny (x:D) (S:Sr):Res D:=ofO (((seqOf S x).bind boolsOf).map fun l=>.bl (l.any id)) S
noncomputable def bSum (x:D) (S:Sr):Res D:=ofO (((seqOf S x).bind intsOf).map fun l=>.int l.sum) S
noncomputable def bStr (x:D) (S:Sr):Res D:=match x with
  | .int i=>if i.natAbs.log2<1920 then .ok (.str (toString i)) S else .no
  | _=>.no
noncomputable def joinD (x y z:D):Option D:=match x,y,z with
  | .str a,.str b,.str c=>if a.length+b.length+c.length≤sizeLine then some (.str (a++b++c)) else none
  | _,_,_=>none
noncomputable def bInt (x:D) (S:Sr):Res D:=match x with
  | .bl b=>.ok (.int (if b then 1 else 0)) S
  | _=>.no
noncomputable def pairsV:List D→Option (List (List Int × D))
  | []=>some []
  | .tup [.tup a,v]::r=>if refsLt 0 v then (intsOf a).bind fun m=>(pairsV r).map ((m,v)::·) else none
  | _=>none
noncomputable def dicL (ps:List (List Int × D)):List (List Int × D):=ps.foldl (fun l p=>putT p.1 p.2 l) []
noncomputable def bDict (x:D) (S:Sr):Res D:=match x with
  | .tup l=>match pairsV l with
    | some ps=>.ok (.ref S.length) (S++[.dic (dicL ps)])
    | none=>.no
  | _=>.no
noncomputable def ddI (l:List Int):List Int:=l.foldl PyProof.Rows.step_dedup []
noncomputable def bSset (m:Bool) (x:D) (S:Sr):Res D:=match x with
  | .tup l=>match intsOf l with
    | some ns=>if ns.length<4000∧(ddI ns).length<64 then newL m ((sortI (ddI ns)).map .int) S else .no
    | none=>.no
  | _=>.no
noncomputable def bDictL (x:D) (S:Sr):Res D:=match x with
  | .lst l=>match pairsV l with
    | some ps=>.ok (.ref S.length) (S++[.dic (dicL ps)])
    | none=>.no
  | _=>.no
noncomputable def tupLs:List D→Option (List (List D))
  | []=>some []
  | .tup a::r=>(tupLs r).map (a::·)
  | _=>none
noncomputable def bSumT (x y:D) (S:Sr):Res D:=match x,y with
  | .lst l,.tup []=>match tupLs l with
    | some ts=>if ts.flatten.length≤4000 then .ok (.tup ts.flatten) S else .no
    | none=>.no
  | _,_=>.no
noncomputable def bSumB (x:D) (S:Sr):Res D:=ofO (((lstOf S x).bind boolsOf).map fun l=>.int (l.count true)) S
noncomputable def bltD:Blt→List D→Sr→Res D
  | .len=>one bLen | .abs=>one bAbs | .min2=>two bMin | .max2=>two bMax | .divmod=>two bDivmod | .list m=>one (bList m) | .tuple=>one bTuple
  | .sorted m=>one (bSorted m) | .all=>one bAll | .any=>one bAny | .sum=>one bSum | .str=>one bStr | .int=>one bInt | .sortp m=>one (bSortp m) | .dict=>one bDict | .sset m=>one (bSset m) | .dictL=>one bDictL | .sumT=>two bSumT | .sumB=>one bSumB
noncomputable def walkF:D→Option (List D)
  | .tup l=>some l
  | .lst l=>some l
  | _=>none
inductive GW where | all | any | sum | tuple
mutual
inductive CE where
  | var (i:Nat) | cst (d:D)
  | bin (o:BOp) (a b:CE) | neg (a:CE)
  | cmp (o:COp) (a b:CE) | chain (o o':COp) (a b c:CE)
  | and (a b:CE) | or (a b:CE) | not (a:CE) | ife (c:CB) (a b:CE)
  | tup (es:CEs) | lst (m:Bool) (es:CEs) | dic (m:Bool) | dis | fmt (a:CE) | join3 (a b c:CE)
  | call (f:Nat) (es:CEs) | blt (b:Blt) (es:CEs) | isi (t:Ty) (a:CE) | isx (t:List (Addr × Bool)) (a:CE) | ixT (o:CE)
  | popAt (o i:CE) | neF (a b:CE) | rem (o e:CE) | dcK (d:Int) (e:CE) | idk (a i:CE) | lls (e:CE) | app (o e:CE) | ext (o e:CE) | binM (o:BOp) (a b:CE) | get (o k e:CE)
  | idx (a i:CE) | slc (a:CE) (lo hi:CO) | rev (a:CE)
  | rng (k:Option Bool) (es:CEs)
  | lc (m:Bool) (fr:List Nat) (nt:Nat) (elt:CE) (tg:CT) (it:CI) (ifs:CBs)
  | lcR (m:Bool) (fr:List Nat) (nt:Nat) (elt:CE) (tg:CT) (e:CE) (ifs:CBs)
  | gen (w:GW) (fr:List Nat) (nt:Nat) (elt:CE) (tg:CT) (it:CI) (ifs:CBs)
  | lcX (m:Bool) (fr:List Nat) (nt:Nat) (elt:CE) (tg:CT) (e:CE) (ifs:CBs)
  | genX (w:GW) (fr:List Nat) (nt:Nat) (elt:CE) (tg:CT) (e:CE) (ifs:CBs)
inductive CEs where | nil | cons (e:CE) (r:CEs)
inductive CB where | val (e:CE) | and (a b:CB) | or (a b:CB) | not (a:CB) | cal (a:CB)
inductive CBs where | nil | cons (e:CB) (r:CBs)
inductive CO where | none | some (e:CE)
inductive CI where | seq (e:CE) | rng (es:CEs) | zip (a b:CE)
inductive CT where | var (i:Nat) | tup (r:CTs) | sub (o i:CE)
inductive CTs where | nil | cons (t:CT) (r:CTs)
end
noncomputable abbrev Fs:=Nat→List D→Sr→Res D
noncomputable def noE {α:Type}:Res α→Res α
  | .ok a S=>.ok a S
  | _=>.no
@[simp] theorem qjl {α:Type} (a:α) (S:Sr):noE (.ok a S)=.ok a S:=rfl
noncomputable def ixtD (S:Sr) (x:D):Option D:=(lstOf S x).bind fun l=>(boolsOf l).bind fun bs=>if true∈bs∧bs.length<4000 then some (.int (bs.idxOf true)) else none
noncomputable def varE (ρ:En) (i:Nat) (S:Sr):Res D:=match ρ[i]? with | some (some d)=>.ok d S | _=>.no
noncomputable def putN (S:Sr) (n:Nat) (i v:D):Option Sr:=match S[n]? with
  | some (.lst l)=>match i with
    | .int k=>(ixN l.length k).map fun j=>S.set n (.lst (l.set j v))
    | _=>none
  | some (.dic l)=>match i with
    | .tup ks=>(intsOf ks).bind fun k=>if l.length<1000 then some (S.set n (.dic (putT k v l))) else none
    | _=>none
  | some (.dis l)=>(keyD i).bind fun k=>if l.length<1000 then some (S.set n (.dis (putT k v l))) else none
  | none=>none
noncomputable def putE (S:Sr) (o i v:D):Option Sr:=if refsLt 0 v then (match o with
  | .ref n=>putN S n i v
  | _=>none) else none
noncomputable def isLst (S:Sr):D→Bool
  | .ref n=>match S[n]? with | some (.lst _)=>true | _=>false
  | _=>false
noncomputable def isDic (S:Sr):D→Bool
  | .ref n=>match S[n]? with | some (.dic _)=>true | some (.dis _)=>true | _=>false
  | _=>false
noncomputable def getD (S:Sr) (x y z:D):Option D:=match x,y with
  | .ref n,.tup ks=>match S[n]? with
    | some (.dic l)=>(intsOf ks).map fun k=>(lookT k l).getD z
    | _=>none
  | .ref n,.str t=>match S[n]? with
    | some (.dis l)=>some ((lookT (.inr t) l).getD z)
    | _=>none
  | _,_=>none
noncomputable def popD (S:Sr) (o i:D):Res D:=match o,i with
  | .ref n,.int k=>match S[n]? with
    | some (.lst l)=>if 0≤k∧k<2^62 then (match l[k.toNat]? with
      | some d=>.ok d (S.set n (.lst (l.eraseIdx k.toNat)))
      | none=>.no) else .no
    | _=>.no
  | _,_=>.no
noncomputable def appD (S:Sr) (o e:D):Res D:=match o with
  | .ref n=>match S[n]? with
    | some (.lst l)=>if l.length<sizeLine∧refsLt 0 e=true then .ok .non (S.set n (.lst (l++[e]))) else .no
    | _=>.no
  | _=>.no
noncomputable def remD (S:Sr) (o i:D):Res D:=match o,i with
  | .ref n,.int k=>match S[n]? with
    | some (.lst l)=>match intsOf l with
      | some ns=>if k∈ns then .ok .non (S.set n (.lst ((ns.erase k).map .int))) else .no
      | none=>.no
    | _=>.no
  | _,_=>.no
noncomputable def neFD (S:Sr) (x y:D):Option Bool:=match x with
  | .ref n=>match S[n]? with
    | some (.lst l)=>if refsLt n y then (eqD 20 (.lst l) y).map (!·) else none
    | _=>none
  | _=>none
noncomputable def idkD (S:Sr) (x i:D):Option D:=match x with
  | .ref n=>match S[n]? with
    | some (.dis l)=>(keyD i).bind fun k=>lookT k l
    | _=>none
  | _=>none
noncomputable def dcKL (d:Int) (ns:List Int):List (Key × D):=ns.foldl (fun l k=>putT (.inl k:Key) (.int d) l) []
noncomputable def extD (S:Sr) (o e:D):Res D:=match o,e with
  | .ref n,.lst z=>match S[n]? with
    | some (.lst l)=>if l.length+z.length≤sizeLine∧refsLts 0 z=true then .ok .non (S.set n (.lst (l++z))) else .no
    | _=>.no
  | _,_=>.no
noncomputable def rngD:List D→Option (List D)
  | [.int b]=>if -(2^62)≤b∧b<2^62 then some (rngL 0 b 1) else none
  | [.int a,.int b]=>if -(2^62)≤a∧a<2^62∧-(2^62)≤b∧b<2^62 then some (rngL a b 1) else none
  | [.int a,.int b,.int s]=>if -(2^62)≤a∧a<2^62∧-(2^62)≤b∧b<2^62∧0<s∧s<2^62 then some (rngL a b s) else none
  | _=>none
noncomputable def frE (ρ:En) (fr:List Nat) (nt:Nat):En:=fr.map (fun i=>(ρ[i]?).getD none)++List.replicate nt none
noncomputable def lcLoop (n:Nat) (bind:D→En→Sr→Res En) (test:En→Sr→Res Bool) (elt:En→Sr→Res D):List D→En→Sr→Res En
  | [],ρ,S=>.ok ρ S
  | d::r,ρ,S=>(bind d ρ S).bind fun ρ1 S1=>(test ρ1 S1).bind fun b S2 =>
      if b then (elt ρ1 S2).bind fun v S3=>(appD S3 (.ref n) v).bind fun _ S4=>lcLoop n bind test elt r ρ1 S4
      else lcLoop n bind test elt r ρ1 S2
noncomputable def lcEnd (m:Bool) (n:Nat) (S:Sr):Res D :=
  if m then .ok (.ref n) S
  else if S.length=n+1 then (match S[n]? with
    | some (.lst l)=>.ok (.lst l) (S.take n)
    | _=>.no) else .no
noncomputable def own (n:Nat) (l:List D) (S:Sr):Prop:=S[n]?=some (.lst l)
noncomputable def grd {α:Type} (gd:Sr→Prop) (S:Sr) (r:Res α):Res α:=@ite _ (gd S) (Classical.propDecidable _) r .no
theorem zr {α:Type} {gd:Sr→Prop} {S:Sr} (h:gd S) (r:Res α):grd gd S r=r:=if_pos h
theorem zK {α:Type} {gd:Sr→Prop} {S:Sr} (h:¬ gd S) (r:Res α):grd gd S r=.no:=if_neg h
noncomputable def refX (x:D) (S:Sr):Option (List D × (Sr→Prop)):=match x with
  | .ref n=>match S[n]? with
    | some (.lst l)=>some (l,own n l)
    | _=>none
  | .tup l=>some (l,fun _=>True)
  | .lst l=>some (l,fun _=>True)
  | _=>none
noncomputable def refL (x:D) (S:Sr):Option (Nat × List D):=match x with
  | .ref n=>match S[n]? with
    | some (.lst l)=>some (n,l)
    | _=>none
  | _=>none
noncomputable def genLoop {β:Type} (bind:D→En→Sr→Res En) (test:En→Sr→Res Bool) (elt:En→Sr→Res D) (step:β→D→Option (β ⊕ D)) (fin:β→Option D):List D→En→β→Sr→Res D
  | [],_,b,S=>ofO (fin b) S
  | d::r,ρ,b,S=>(bind d ρ S).bind fun ρ1 S1=>(test ρ1 S1).bind fun t S2 =>
      if t then (elt ρ1 S2).bind fun v S3=>match step b v with
        | some (.inl b')=>genLoop bind test elt step fin r ρ1 b' S3
        | some (.inr x)=>.ok x S3
        | none=>.no
      else genLoop bind test elt step fin r ρ1 b S2
noncomputable def genLoopG {β:Type} (gd:Sr→Prop) (bind:D→En→Sr→Res En) (test:En→Sr→Res Bool) (elt:En→Sr→Res D) (step:β→D→Option (β ⊕ D)) (fin:β→Option D):List D→En→β→Sr→Res D
  | [],_,b,S=>grd gd S (ofO (fin b) S)
  | d::r,ρ,b,S=>grd gd S ((bind d ρ S).bind fun ρ1 S1=>(test ρ1 S1).bind fun t S2 =>
      if t then (elt ρ1 S2).bind fun v S3=>match step b v with
        | some (.inl b')=>genLoopG gd bind test elt step fin r ρ1 b' S3
        | some (.inr x)=>.ok x S3
        | none=>.no
      else genLoopG gd bind test elt step fin r ρ1 b S2)
theorem zL {β:Type} {bind:D→En→Sr→Res En} {test:En→Sr→Res Bool} {elt:En→Sr→Res D} {step:β→D→Option (β ⊕ D)} {fin:β→Option D}:∀ (l:List D) (ρ:En) (b:β) (S:Sr),genLoopG (fun _=>True) bind test elt step fin l ρ b S=genLoop bind test elt step fin l ρ b S
  | [],_,_,_=>zr trivial _
  | d::r,ρ,b,S=>by
    unfold genLoopG genLoop
    rw [zr trivial]
    congr 1;funext ρ1 S1
    congr 1;funext t S2
    cases t
    · exact zL r ρ1 b S2
    · simp only [if_true]
      congr 1;funext v S3
      cases step b v with
      | none=>rfl
      | some x=>cases x with
        | inl b'=>exact zL r ρ1 b' S3
        | inr x=>rfl
noncomputable def newLls (k:Nat) (S:Sr):Res D:=if k≤sizeLine then .ok (.ref (S.length+k)) (S++List.replicate k (.lst [])++[.lst ((List.range k).map fun i=>.ref (S.length+i))]) else .no
noncomputable def stepG (w:GW) (b:D) (v:D):Option (D ⊕ D):=match w,b,v with
  | .all,_,.bl true=>some (.inl .non)
  | .all,_,.bl false=>some (.inr (.bl false))
  | .any,_,.bl false=>some (.inl .non)
  | .any,_,.bl true=>some (.inr (.bl true))
  | .sum,.int i,.int j=>some (.inl (.int (i+j)))
  | .tuple,.tup l,v=>if l.length<sizeLine then some (.inl (.tup (l++[v]))) else none
  | _,_,_=>none
noncomputable def startG:GW→D
  | .all=>.non | .any=>.non | .sum=>.int 0 | .tuple=>.tup []
noncomputable def finG (w:GW) (b:D):Option D:=match w with
  | .all=>some (.bl true)
  | .any=>some (.bl false)
  | .sum=>some b
  | .tuple=>some b
mutual
noncomputable def ev (F:Fs):CE→En→Sr→Res D
  | .var i,ρ,S=>varE ρ i S
  | .cst d,_,S=>.ok d S
  | .bin o a b,ρ,S=>(ev F a ρ S).bind fun x S1=>(ev F b ρ S1).bind fun y S2=>ofO (binD o x y S2) S2
  | .neg a,ρ,S=>(ev F a ρ S).bind fun x S1=>match x with | .int i=>.ok (.int (-i)) S1 | _=>.no
  | .cmp o a b,ρ,S=>(ev F a ρ S).bind fun x S1=>(ev F b ρ S1).bind fun y S2=>ofO ((cmpD o x y S2).map .bl) S2
  | .chain o o' a b c,ρ,S=>(ev F a ρ S).bind fun x S1=>(ev F b ρ S1).bind fun y S2=>match cmpD o x y S2 with
    | some true=>(ev F c ρ S2).bind fun z S3=>ofO ((cmpD o' y z S3).map .bl) S3
    | some false=>.ok (.bl false) S2
    | none=>.no
  | .and a b,ρ,S=>(ev F a ρ S).bind fun x S1=>match x with
    | .bl true=>ev F b ρ S1
    | .bl false=>.ok (.bl false) S1
    | _=>.no
  | .or a b,ρ,S=>(ev F a ρ S).bind fun x S1=>match x with
    | .bl true=>.ok (.bl true) S1
    | .bl false=>ev F b ρ S1
    | _=>.no
  | .not a,ρ,S=>(ev F a ρ S).bind fun x S1=>match x with
    | .bl b=>.ok (.bl (!b)) S1
    | _=>.no
  | .ife c a b,ρ,S=>(tst F c ρ S).bind fun t S1=>if t then ev F a ρ S1 else ev F b ρ S1
  | .tup es,ρ,S=>(evs F es ρ S).bind fun l S1=>if l.length≤sizeLine then .ok (.tup l) S1 else .no
  | .lst m es,ρ,S=>(evs F es ρ S).bind fun l S1=>if l.length≤sizeLine then newL m l S1 else .no
  | .dic m,_,S=>if m then .ok (.ref S.length) (S++[.dic []]) else .ok .emp S
  | .dis,_,S=>.ok (.ref S.length) (S++[.dis []])
  | .fmt a,ρ,S=>(ev F a ρ S).bind fun x S1=>bStr x S1
  | .join3 a b c,ρ,S=>(ev F a ρ S).bind fun x S1=>(ev F b ρ S1).bind fun y S2=>(ev F c ρ S2).bind fun z S3=>ofO (joinD x y z) S3
  | .call f es,ρ,S=>(evs F es ρ S).bind fun l S1=>F f l S1
  | .blt b es,ρ,S=>(evs F es ρ S).bind fun l S1=>bltD b l S1
  | .isi t a,ρ,S=>(ev F a ρ S).bind fun x S1=>ofO ((isiD S1 t x).map .bl) S1
  | .isx t a,ρ,S=>(ev F a ρ S).bind fun x S1=>ofO ((isxD t x).map .bl) S1
  | .ixT a,ρ,S=>(ev F a ρ S).bind fun x S1=>ofO (ixtD S1 x) S1
  | .binM o a b,ρ,S=>(ev F a ρ S).bind fun x S1=>(ev F b ρ S1).bind fun y S2=>R.binM o x y S2
  | .popAt o i,ρ,S=>(ev F o ρ S).bind fun x S1=>if isLst S1 x then (ev F i ρ S1).bind fun y S2=>popD S2 x y else .no
  | .app o e,ρ,S=>(ev F o ρ S).bind fun x S1=>if isLst S1 x then (ev F e ρ S1).bind fun y S2=>appD S2 x y else .no
  | .ext o e,ρ,S=>(ev F o ρ S).bind fun x S1=>if isLst S1 x then (ev F e ρ S1).bind fun y S2=>extD S2 x y else .no
  | .get o k e,ρ,S=>(ev F o ρ S).bind fun x S1=>if isDic S1 x then (ev F k ρ S1).bind fun y S2=>(ev F e ρ S2).bind fun z S3=>ofO (getD S3 x y z) S3 else .no
  | .idx a i,ρ,S=>(ev F a ρ S).bind fun x S1=>(ev F i ρ S1).bind fun y S2=>ofO (idxD S2 x y) S2
  | .slc a lo hi,ρ,S=>(ev F a ρ S).bind fun x S1=>(evO F lo ρ S1).bind fun l S2=>(evO F hi ρ S2).bind fun h S3=>ofO (slcD S3 x l h) S3
  | .rev a,ρ,S=>(ev F a ρ S).bind fun x S1=>match x with
    | .tup l=>.ok (.tup l.reverse) S1
    | _=>.no
  | .rng k es,ρ,S=>(evs F es ρ S).bind fun l S1=>match rngD l with
    | some ds=>if ds.length≤1000000 then (match k with
      | some m=>newL m ds S1
      | none=>.ok (.tup ds) S1) else .no
    | none=>.no
  | .lc m fr nt elt tg it ifs,ρ,S=>(evI F it ρ S).bind fun ds S1 =>
      (lcLoop S1.length (fun d ρ S=>asg F tg d ρ S) (fun ρ S=>tsts F ifs ρ S) (fun ρ S=>ev F elt ρ S) ds (frE ρ fr nt) (S1++[.lst []])).bind fun _ S2=>lcEnd m S1.length S2
  | .lcR m fr nt elt tg e ifs,ρ,S=>(ev F e ρ S).bind fun x S1=>match refL x S1 with
    | some p=>(lcLoop S1.length (fun d ρ S=>grd (own p.1 p.2) S (asg F tg d ρ S)) (fun ρ S=>tsts F ifs ρ S) (fun ρ S=>ev F elt ρ S) p.2 (frE ρ fr nt) (S1++[.lst []])).bind fun _ S2=>grd (own p.1 p.2) S2 (lcEnd m S1.length S2)
    | none=>.no
  | .lcX m fr nt elt tg e ifs,ρ,S=>(ev F e ρ S).bind fun x S1=>match refX x S1 with
    | some p=>(lcLoop S1.length (fun d ρ S=>grd p.2 S (asg F tg d ρ S)) (fun ρ S=>tsts F ifs ρ S) (fun ρ S=>ev F elt ρ S) p.1 (frE ρ fr nt) (S1++[.lst []])).bind fun _ S2=>grd p.2 S2 (lcEnd m S1.length S2)
    | none=>.no
  | .genX w fr nt elt tg e ifs,ρ,S=>(ev F e ρ S).bind fun x S1=>match refX x S1 with
    | some p=>genLoopG p.2 (fun d ρ S=>asg F tg d ρ S) (fun ρ S=>tsts F ifs ρ S) (fun ρ S=>ev F elt ρ S) (stepG w) (finG w) p.1 (frE ρ fr nt) (startG w) S1
    | none=>.no
  | .neF a b,ρ,S=>(ev F a ρ S).bind fun x S1=>(ev F b ρ S1).bind fun y S2=>ofO ((neFD S2 x y).map .bl) S2
  | .rem o i,ρ,S=>(ev F o ρ S).bind fun x S1=>if isLst S1 x then (ev F i ρ S1).bind fun y S2=>remD S2 x y else .no
  | .idk a i,ρ,S=>(ev F a ρ S).bind fun x S1=>(ev F i ρ S1).bind fun y S2=>ofO (idkD S2 x y) S2
  | .dcK d e,ρ,S=>(ev F e ρ S).bind fun x S1=>match refX x S1 with
    | some p=>match intsOf p.1 with
      | some ns=>if ns.length<1000 then .ok (.ref S1.length) (S1++[.dis (dcKL d ns)]) else .no
      | none=>.no
    | none=>.no
  | .lls e,ρ,S=>(ev F e ρ S).bind fun x S1=>match x with
    | .tup l=>newLls l.length S1
    | _=>.no
  | .gen w fr nt elt tg it ifs,ρ,S=>(evI F it ρ S).bind fun ds S1 =>
      genLoop (fun d ρ S=>asg F tg d ρ S) (fun ρ S=>tsts F ifs ρ S) (fun ρ S=>ev F elt ρ S) (stepG w) (finG w) ds (frE ρ fr nt) (startG w) S1
noncomputable def evs (F:Fs):CEs→En→Sr→Res (List D)
  | .nil,_,S=>.ok [] S
  | .cons e r,ρ,S=>(ev F e ρ S).bind fun x S1=>(evs F r ρ S1).bind fun l S2=>.ok (x::l) S2
noncomputable def evO (F:Fs):CO→En→Sr→Res (Option Int)
  | .none,_,S=>.ok none S
  | .some e,ρ,S=>(ev F e ρ S).bind fun x S1=>match x with | .int i=>.ok (some i) S1 | _=>.no
noncomputable def evI (F:Fs):CI→En→Sr→Res (List D)
  | .seq e,ρ,S=>(ev F e ρ S).bind fun x S1=>match x with
    | .tup l=>.ok l S1
    | .lst l=>.ok l S1
    | _=>.no
  | .rng es,ρ,S=>(evs F es ρ S).bind fun l S1=>ofO (rngD l) S1
  | .zip a b,ρ,S=>(ev F a ρ S).bind fun x S1=>(ev F b ρ S1).bind fun y S2=>match walkF x,walkF y with
    | some l,some m=>.ok ((l.zip m).map fun p=>.tup [p.1,p.2]) S2
    | _,_=>.no
noncomputable def asg (F:Fs):CT→D→En→Sr→Res En
  | .var i,d,ρ,S=>.ok (ρ.set i (some d)) S
  | .tup r,d,ρ,S=>match d with
    | .tup l=>asgs F r l ρ S
    | _=>.no
  | .sub o i,d,ρ,S=>(ev F o ρ S).bind fun x S1=>(ev F i ρ S1).bind fun y S2=>match putE S2 x y d with
    | some S3=>.ok ρ S3
    | none=>.no
noncomputable def asgs (F:Fs):CTs→List D→En→Sr→Res En
  | .nil,l,ρ,S=>match l with | []=>.ok ρ S | _=>.no
  | .cons t r,l,ρ,S=>match l with
    | d::m=>(asg F t d ρ S).bind fun ρ1 S1=>asgs F r m ρ1 S1
    | []=>.no
noncomputable def tst (F:Fs):CB→En→Sr→Res Bool
  | .val e,ρ,S=>(ev F e ρ S).bind fun x S1=>ofO (truD S1 x) S1
  | .and a b,ρ,S=>(tst F a ρ S).bind fun t S1=>if t then tst F b ρ S1 else .ok false S1
  | .or a b,ρ,S=>(tst F a ρ S).bind fun t S1=>if t then .ok true S1 else tst F b ρ S1
  | .not a,ρ,S=>(tst F a ρ S).bind fun t S1=>.ok (!t) S1
  | .cal a,ρ,S=>noE (tst F a ρ S)
noncomputable def tsts (F:Fs):CBs→En→Sr→Res Bool
  | .nil,_,S=>.ok true S
  | .cons e r,ρ,S=>(tst F e ρ S).bind fun t S1=>if t then tsts F r ρ S1 else .ok false S1
end
mutual
inductive CS where
  | expr (e:CE) | ret (e:CE) | retN | set (t:CT) (e:CE) | par (i j:Nat) (a b:CE)
  | aug (i:Nat) (o:BOp) (e:CE) | augK (o i e:CE)
  | ifs (c:CB) (a b:CSs) | forS (t:CT) (it:CI) (body:CSs) | forR (t:CT) (e:CE) (body:CSs) | forX (t:CT) (e:CE) (body:CSs) | whileS (c:CB) (body:CSs)
  | pass | brk | cont | never
  | cal (s:CS) | raise (C:Addr) | tryX (t:List (Addr × Bool)) (i:Nat) (body suite:CSs)
inductive CSs where | nil | cons (s:CS) (r:CSs)
end
inductive Fl where | nx (ρ:En) | bk (ρ:En) | ct (ρ:En) | rt (d:D)
noncomputable def forLoop (body:D→En→Sr→Res Fl):List D→En→Sr→Res Fl
  | [],ρ,S=>.ok (.nx ρ) S
  | d::r,ρ,S=>(body d ρ S).bind fun f S1=>match f with
    | .nx ρ1=>forLoop body r ρ1 S1
    | .ct ρ1=>forLoop body r ρ1 S1
    | .bk ρ1=>.ok (.nx ρ1) S1
    | .rt d=>.ok (.rt d) S1
noncomputable def endG (gd:Sr→Prop) (r:Res Fl):Res Fl:=r.bind fun f S=>match f with
  | .rt d=>.ok (.rt d) S
  | f=>grd gd S (.ok f S)
noncomputable def whileLoop (test:En→Sr→Res Bool) (body:En→Sr→Res Fl):Nat→En→Sr→Res Fl
  | 0,_,_=>.no
  | n+1,ρ,S=>(test ρ S).bind fun t S1=>if t then (body ρ S1).bind fun f S2=>(match f with
      | .nx ρ1=>whileLoop test body n ρ1 S2
      | .ct ρ1=>whileLoop test body n ρ1 S2
      | .bk ρ1=>.ok (.nx ρ1) S2
      | .rt d=>.ok (.rt d) S2)
    else .ok (.nx ρ) S1
mutual
noncomputable def ex (F:Fs) (N:Nat):CS→En→Sr→Res Fl
  | .expr e,ρ,S=>(ev F e ρ S).bind fun _ S1=>.ok (.nx ρ) S1
  | .ret e,ρ,S=>(ev F e ρ S).bind fun d S1=>.ok (.rt d) S1
  | .retN,_,S=>.ok (.rt .non) S
  | .set t e,ρ,S=>(ev F e ρ S).bind fun d S1=>(asg F t d ρ S1).bind fun ρ1 S2=>.ok (.nx ρ1) S2
  | .par i j a b,ρ,S=>(ev F a ρ S).bind fun x S1=>(ev F b ρ S1).bind fun y S2=>.ok (.nx ((ρ.set i (some x)).set j (some y))) S2
  | .aug i o e,ρ,S=>(varE ρ i S).bind fun x S0=>(ev F e ρ S0).bind fun y S1=>match x,y with
    | .int a,.int b=>match o with
      | .add=>.ok (.nx (ρ.set i (some (.int (a+b))))) S1
      | .sub=>.ok (.nx (ρ.set i (some (.int (a-b))))) S1
      | _=>.no
    | _,_=>.no
  | .augK o i e,ρ,S=>(ev F o ρ S).bind fun x S1=>(ev F i ρ S1).bind fun y S2=>match idkD S2 x y with
    | some (.int a)=>(ev F e ρ S2).bind fun z S3=>match z with
      | .int b=>match putE S3 x y (.int (a+b)) with
        | some S4=>.ok (.nx ρ) S4
        | none=>.no
      | _=>.no
    | _=>.no
  | .ifs c a b,ρ,S=>(tst F c ρ S).bind fun t S1=>if t then exs F N a ρ S1 else exs F N b ρ S1
  | .forS t it body,ρ,S=>(evI F it ρ S).bind fun ds S1=>forLoop (fun d ρ S=>(asg F t d ρ S).bind fun ρ1 S1=>exs F N body ρ1 S1) ds ρ S1
  | .forX t e body,ρ,S=>(ev F e ρ S).bind fun x S1=>match refX x S1 with
    | some p=>endG p.2 (forLoop (fun d ρ S=>(grd p.2 S (asg F t d ρ S)).bind fun ρ1 S1=>exs F N body ρ1 S1) p.1 ρ S1)
    | none=>.no
  | .forR t e body,ρ,S=>(ev F e ρ S).bind fun x S1=>match refL x S1 with
    | some p=>endG (own p.1 p.2) (forLoop (fun d ρ S=>(grd (own p.1 p.2) S (asg F t d ρ S)).bind fun ρ1 S1=>exs F N body ρ1 S1) p.2 ρ S1)
    | none=>.no
  | .whileS c body,ρ,S=>whileLoop (fun ρ S=>tst F c ρ S) (fun ρ S=>exs F N body ρ S) N ρ S
  | .pass,ρ,S=>.ok (.nx ρ) S
  | .brk,ρ,S=>.ok (.bk ρ) S
  | .cont,ρ,S=>.ok (.ct ρ) S
  | .never,_,_=>.no
  | .cal s,ρ,S=>noE (ex F N s ρ S)
  | .raise C,_,S=>.err (.exc C) S
  | .tryX t i body suite,ρ,S=>match exs F N body ρ S with
    | .ok f S1=>.ok f S1
    | .err (.exc C) S1=>match lookA C t with
      | some true=>(exs F N suite (ρ.set i (some (.exc C))) S1).bind fun f S2=>match f with
        | .nx ρ'=>.ok (.nx (ρ'.set i none)) S2
        | _=>.no
      | _=>.no
    | _=>.no
noncomputable def exs (F:Fs) (N:Nat):CSs→En→Sr→Res Fl
  | .nil,ρ,S=>.ok (.nx ρ) S
  | .cons s r,ρ,S=>(ex F N s ρ S).bind fun f S1=>match f with
    | .nx ρ1=>exs F N r ρ1 S1
    | f=>.ok f S1
end
structure CF where
  np:Nat
  nn:Nat
  keeps:Bool
  body:CSs
mutual
noncomputable def frz (S:Sr) (n:Nat):D→Option D
  | .tup l=>(frzs S n l).map .tup
  | .lst l=>(frzs S n l).map .lst
  | .ref m=>if m<n then some (.ref m) else match S[m]? with
    | some (.lst l)=>if refsLts n l then some (.lst l) else none
    | _=>none
  | .non=>some .non | .bl b=>some (.bl b) | .int i=>some (.int i) | .str x=>some (.str x) | .emp=>some .emp | .exc _=>none
noncomputable def frzs (S:Sr) (n:Nat):List D→Option (List D)
  | []=>some []
  | d::r=>match frz S n d,frzs S n r with
    | some d',some r'=>some (d'::r')
    | _,_=>none
end
noncomputable def leave (keeps:Bool) (n:Nat) (d:D) (S:Sr):Res D :=
  if keeps then .ok d S
  else if S.length=n then .ok d S
  else if refsLt n d then .ok d (S.take n) else match frz S n d with
    | some d'=>.ok d' (S.take n)
    | none=>.no
noncomputable def callC (F:Fs) (N:Nat) (c:CF) (l:List D) (S:Sr):Res D :=
  if l.length=c.np then
    (exs F N c.body (l.map some++List.replicate (c.nn-c.np) none) S).bind fun f S1=>match f with
      | .nx _=>leave c.keeps S.length .non S1
      | .rt d=>leave c.keeps S.length d S1
      | _=>.no
  else .no
noncomputable def run (P:List CF) (N:Nat):Nat→Fs
  | 0,_,_,_=>.no
  | k+1,f,l,S=>match P[f]? with
    | some c=>callC (run P N k) N c l S
    | none=>.no
end R
namespace R
open PySem PySem.Spec L2
open PyProof.Rows hiding St
structure EnR (ι:List Addr) (H:Hp) (ρ:En) (σ:St):Prop where
  len:ρ.length=σ.length
  get:∀ (i:Nat) (d:D),ρ[i]?=some (some d)→∃ v,σ[i]?=some (some v)∧Den ι H d v
theorem EnR.mono {ι ι':List Addr} {H H':Hp} {ρ:En} {σ:St} (e:EnR ι H ρ σ) (s:Stp ι H ι' H'):EnR ι' H' ρ σ :=
  ⟨e.len,fun i d h=>let ⟨v,a,b⟩:=e.get i d h;⟨v,a,Den.mono s d b⟩⟩
theorem EnR.set {ι:List Addr} {H:Hp} {ρ:En} {σ:St} (e:EnR ι H ρ σ) {i:Nat} {d:D} {v:V} (h:Den ι H d v):EnR ι H (ρ.set i (some d)) (σ.set i (some v)):=by
  refine ⟨by simp [e.len],fun j x q=>?_⟩
  by_cases z:i=j
  · subst z
    have hl:i<ρ.length:=by
      have:=(List.getElem?_eq_some_iff.mp q).1
      simpa using this
    rw [List.getElem?_set_self hl] at q
    cases q
    exact ⟨v,List.getElem?_set_self (by rw [← e.len];exact hl),h⟩
  · rw [List.getElem?_set_ne z] at q ⊢
    exact e.get j x q
noncomputable def Pst {α β:Type} (R:List Addr→Hp→α→β→Prop) (r:Res α) (ι:List Addr) (H:Hp) (Q:β→Hp→Prop):Prop:=match r with
  | .ok a S'=>∀ b ι' H',Stp ι H ι' H'→Sto ι' H' S'→R ι' H' a b→Q b H'
  | .err _ _=>False
  | .no=>False
theorem Pst.from {α β:Type} {R:List Addr→Hp→α→β→Prop} {r:Res α} {ι ι':List Addr} {H H':Hp} {Q:β→Hp→Prop} (h:Pst R r ι H Q) (s:Stp ι H ι' H'):Pst R r ι' H' Q:=by
  cases r with
  | ok a S=>exact fun b ι2 H2 t st q=>h b ι2 H2 (s.trans t) st q
  | err=>exact h
  | no=>exact h
theorem Pst.bind {α β γ δ:Type} {R:List Addr→Hp→α→β→Prop} {R':List Addr→Hp→γ→δ→Prop} {r:Res α} {f:α→Sr→Res γ} {ι:List Addr} {H:Hp} {Q:δ→Hp→Prop} {K:β→Hp→Prop}
    (h:Pst R' (r.bind f) ι H Q) (k:∀ a S' ι' H' b,Stp ι H ι' H'→Sto ι' H' S'→R ι' H' a b→Pst R' (f a S') ι' H' Q→K b H'):Pst R r ι H K:=by
  cases r with
  | ok a S=>exact fun b ι2 H2 t st q=>k a S ι2 H2 b t st q (Pst.from h t)
  | err=>exact h
  | no=>exact h
theorem Pst.ofO {α β:Type} {R:List Addr→Hp→α→β→Prop} {o:Option α} {S:Sr} {ι:List Addr} {H:Hp} {Q:β→Hp→Prop} (h:Pst R (ofO o S) ι H Q) (st:Sto ι H S):∃ a,o=some a∧∀ b ι' H',Stp ι H ι' H'→Sto ι' H' S→R ι' H' a b→Q b H':=by
  cases o with
  | none=>exact h.elim
  | some a=>exact ⟨a,rfl,h⟩
noncomputable def TG {α β:Type} (R:List Addr→Hp→α→β→Prop) (m:En→Sr→Res α):St→Hp→(β→Hp→Prop)→Prop:=fun σ H Q=>∃ ι S ρ,EnR ι H ρ σ∧Sto ι H S∧Pst R (m ρ S) ι H Q
noncomputable abbrev T (m:En→Sr→Res D):TE:=TG Den m
noncomputable abbrev TL (m:En→Sr→Res (List D)):TA:=TG Dens m
noncomputable def EqR {α:Type} (_:List Addr) (_:Hp) (a b:α):Prop:=a=b
noncomputable abbrev TB (m:En→Sr→Res Bool):TT:=TG EqR m
noncomputable abbrev TOp (m:En→Sr→Res (Option Int)):TO:=TG EqR m
theorem TG.b1 {α β γ δ:Type} {R:List Addr→Hp→α→β→Prop} {R':List Addr→Hp→γ→δ→Prop} {m:En→Sr→Res α} {f:En→α→Sr→Res γ} {σ:St} {H:Hp} {Q:δ→Hp→Prop} {K:β→Hp→Prop}
    (h:TG R' (fun ρ S=>(m ρ S).bind fun a S1=>f ρ a S1) σ H Q)
    (k:∀ ι S ρ a b H1,EnR ι H1 ρ σ→Sto ι H1 S→R ι H1 a b→Pst R' (f ρ a S) ι H1 Q→K b H1):TG R m σ H K:=by
  obtain ⟨ι,S,ρ,er,st,h⟩:=h
  exact ⟨ι,S,ρ,er,st,Pst.bind h fun a S' ι' H' b s st' ra p=>k ι' S' ρ a b H' (er.mono s) st' ra p⟩
theorem Pst.tg {α β γ δ:Type} {R:List Addr→Hp→α→β→Prop} {R':List Addr→Hp→γ→δ→Prop} {m:En→Sr→Res α} {ρ:En} {S:Sr} {f:α→Sr→Res γ} {ι:List Addr} {σ:St} {H:Hp} {Q:δ→Hp→Prop} {K:β→Hp→Prop}
    (h:Pst R' ((m ρ S).bind f) ι H Q) (er:EnR ι H ρ σ) (st:Sto ι H S)
    (k:∀ a S' ι' H' b,Stp ι H ι' H'→EnR ι' H' ρ σ→Sto ι' H' S'→R ι' H' a b→Pst R' (f a S') ι' H' Q→K b H'):TG R m σ H K :=
  ⟨ι,S,ρ,er,st,Pst.bind h fun a S' ι' H' b s st' ra p=>k a S' ι' H' b s (er.mono s) st' ra p⟩
theorem PEimp {X:Cx} {e:Expr} {t t':TE} (h:PE X e t) (k:∀ σ H Q,t' σ H Q→t σ H Q):PE X e t':=fun pins s σ H Q I hw=>h pins s σ H Q I (k σ H Q hw)
theorem PTimp {X:Cx} {e:Expr} {t t':TT} (h:PT X e t) (k:∀ σ H Q,t' σ H Q→t σ H Q):PT X e t':=fun pins s σ H Q I hw=>h pins s σ H Q I (k σ H Q hw)
theorem PAimp {X:Cx} {e:List Expr} {t t':TA} (h:PA X e t) (k:∀ σ H Q,t' σ H Q→t σ H Q):PA X e t':=fun pos pins s σ H Q I hw=>h pos pins s σ H Q I (k σ H Q hw)
section
variable {ι:List Addr} {H:Hp} {S:Sr} {v:V}
theorem qD (st:Sto ι H S):∀ {d:D} {l:List D},lstOf S d=some l→Den ι H d v→∃ a xs,v=.ref a∧Rd H a (.lst xs)∧Dens ι H l xs
  | .lst l',l,h,hd=>by
    cases h
    obtain ⟨a,xs,e,_,r,q⟩:=hd
    exact ⟨a,xs,e,r,q⟩
  | .ref n,l,h,hd=>by
    obtain ⟨a,e,ha⟩:=hd
    simp only [lstOf] at h
    split at h
    · rename_i l' hs
      cases h
      obtain ⟨_,xs,h1,h2⟩:=st.obj n a _ ha hs
      exact ⟨a,xs,e,.inl h1,h2⟩
    · cases h
  | .non,_,h,_=>by cases h
  | .bl _,_,h,_=>by cases h
  | .int _,_,h,_=>by cases h
  | .str _,_,h,_=>by cases h
  | .tup _,_,h,_=>by cases h
  | .emp,_,h,_=>by cases h
  | .exc _,_,h,_=>by cases h
theorem q9 {m:Bool} {l:List D} {xs:List V} {Q:V→Hp→Prop} (st:Sto ι H S) (hl:Dens ι H l xs) (h:Pst Den (newL m l S) ι H Q):∀ p,H p=none→Q (.ref p) (upd H p (.lst xs)):=by
  intro p hp
  unfold newL at h
  cases m with
  | true =>
    rw [if_pos rfl] at h
    by_cases hf:refsLts 0 l=true
    · rw [if_pos hf] at h
      have g:=Stp.grow (ι:=ι) hp (.lst xs)
      have ep:(ι++[p])[ι.length]?=some p:=by simp
      refine h (.ref p) _ _ g (st.grow hp ⟨⟨_,ep,qK l hf⟩,xs,qm,Dens.mono g l hl⟩) ⟨p,rfl,?_⟩
      rw [← st.len];exact ep
    · rw [if_neg hf] at h;exact h.elim
  | false =>
    have g:=Stp.laid (ι:=ι) hp (.lst xs)
    exact h (.ref p) _ _ g (st.laid hp _) ⟨p,xs,rfl,st.fresh hp,.inl qm,Dens.mono g l hl⟩
theorem zd {l:List D} {xs:List V} {Q:V→Hp→Prop} (st:Sto ι H S) (hl:Dens ι H l xs) (h:∀ v ι' H',Stp ι H ι' H'→Sto ι' H' S→Den ι' H' (.tup l) v→Q v H'):∀ p,H p=none→Q (.ref p) (upd H p (.tup xs)):=by
  intro p hp
  have g:=Stp.laid (ι:=ι) hp (.tup xs)
  exact h (.ref p) _ _ g (st.laid hp _) ⟨p,xs,rfl,st.fresh hp,qm,Dens.mono g l hl⟩
end
section
variable {X:Cx}
theorem qir {i:Nat} {x:Str} {pos:Pos} (h:PE X (.Name x pos) (tVar i)):PE X (.Name x pos) (T fun ρ S=>varE ρ i S):=PEimp h fun σ H Q hw=>by
  obtain ⟨ι,S,ρ,er,st,p⟩:=hw
  dsimp only [varE] at p
  split at p
  · rename_i d hd
    obtain ⟨v,h1,h2⟩:=er.get i d hd
    exact ⟨v,h1,p v ι H (Stp.refl _ _) st h2⟩
  · exact p.elim
theorem qaz {e:Expr} {d:D} {v:V} (h:PE X e (tC v)) (hd:∀ ι H,Den ι H d v):PE X e (T fun _ S=>.ok d S):=PEimp h fun σ H Q hw=>by
  obtain ⟨ι,S,ρ,er,st,p⟩:=hw
  exact p v ι H (Stp.refl _ _) st (hd ι H)
theorem qhg {e:Expr} {d:D} {v:V} (h:PE X e (fun _ H Q=>Q v H)) (hd:∀ ι H,Den ι H d v):PE X e (T fun _ S=>.ok d S):=qaz h hd
theorem qis:PA X [] (TL fun _ S=>.ok [] S):=PAimp yi fun σ H Q hw=>by
  obtain ⟨ι,S,ρ,er,st,p⟩:=hw
  exact p [] ι H (Stp.refl _ _) st rfl
theorem qhh {e:Expr} {es:List Expr} {m:En→Sr→Res D} {ms:En→Sr→Res (List D)} (h1:PE X e (T m)) (h2:PA X es (TL ms)) (hs:starEach (e::es) X.env=(false,eval e X.env)::starEach es X.env) :
    PA X (e::es) (TL fun ρ S=>(m ρ S).bind fun x S1=>(ms ρ S1).bind fun l S2=>.ok (x::l) S2):=PAimp (qX h1 h2 hs) fun σ H Q hw=>by
  refine TG.b1 hw fun ι S ρ a b H1 er st ra p=>Pst.tg p er st fun l S2 ι2 H2 xs s2 er2 st2 rl p2=>?_
  exact p2 _ ι2 H2 (Stp.refl _ _) st2 ⟨b,xs,rfl,Den.mono s2 a ra,rl⟩
noncomputable def G2 (g:D→D→Sr→Res D):R2:=fun x y H Q=>∃ ι S dx dy,Sto ι H S∧Den ι H dx x∧Den ι H dy y∧Pst Den (g dx dy S) ι H Q
theorem T2 {ma mb:En→Sr→Res D} {g:D→D→Sr→Res D} {σ:St} {H:Hp} {Q:VK} (h:T (fun ρ S=>(ma ρ S).bind fun x S1=>(mb ρ S1).bind fun y S2=>g x y S2) σ H Q):tOp (G2 g) (T ma) (T mb) σ H Q :=
  TG.b1 h fun ι S ρ a b H1 er st ra p=>Pst.tg p er st fun a2 S2 ι2 H2 b2 s2 er2 st2 ra2 p2=>⟨ι2,S2,a,a2,st2,Den.mono s2 a ra,ra2,p2⟩
theorem qit {a b:Expr} {op:Operator} {pos:Pos} {ma mb:En→Sr→Res D} {g:D→D→Sr→Res D} (ho:OpR X (binaryOp op) (G2 g)) (ha:PE X a (T ma)) (hb:PE X b (T mb)) :
    PE X (.BinOp a op b pos) (T fun ρ S=>(ma ρ S).bind fun x S1=>(mb ρ S1).bind fun y S2=>g x y S2):=PEimp (qih ho ha hb) fun σ H Q=>T2
theorem qiu {a b:Expr} {op:CmpOp} {pos:Pos} {ma mb:En→Sr→Res D} {g:D→D→Sr→Res D} (ho:OpR X (compareOp op) (G2 g)) (ha:PE X a (T ma)) (hb:PE X b (T mb)) (hm:behindInMarks op b=false) :
    PE X (.Compare a [op] [b] pos) (T fun ρ S=>(ma ρ S).bind fun x S1=>(mb ρ S1).bind fun y S2=>g x y S2):=PEimp (qfh ho ha hb hm) fun σ H Q=>T2
theorem qbi {pins:List (Addr × Obj)} {σ:St} {H:Hp} {s:Shared} {l:Addr} {xs:List V} (I:Inv X pins σ H s) (hH:Rd H l (.lst xs)):xs.length≤sizeLine∧∃ (its:List Value) (n:Nat),Vals xs its∧xs.length=its.length∧s.heap.get? l=some { cls:=.type "list",data:=.seq its.toArray n }:=by
  obtain ⟨z,its,n,r,e⟩:=hH.ok I.hok
  exact ⟨z,its,n,r,r.length,e⟩
theorem qft:OpR X (binaryOp .Add) (fun x y H Q=>∃ l b xs zs,x=.ref l∧y=.ref b∧Rd H l (.lst xs)∧Rd H b (.lst zs)∧xs.length+zs.length≤sizeLine∧∀ p,H p=none→Q (.ref p) (upd H p (.lst (xs++zs)))):=by
  intro pins s σ H x y v u Q I rx ry h
  obtain ⟨l,b,xs,zs,rfl,rfl,hH,hB,hz,q⟩:=h
  cases rx
  cases ry
  obtain ⟨z,its,n,r,hl,e⟩:=qbi I hH
  obtain ⟨z2,its2,n2,r2,hl2,e2⟩:=qbi I hB
  refine PySem.P.add_list e e2 ?_ (by rw [List.size_toArray,List.size_toArray];lia)
  have ea:its.toArray++its2.toArray=(its++its2).toArray:=by simp
  rw [ea]
  exact ⟨.ref _,_,I.lnew (t':=s.toks) (r.append r2) (by rw [List.length_append];lia),rfl,q _ I.fresh⟩
theorem qfu:OpR X (binaryOp .Mult) (fun x y H Q=>∃ l k xs,x=.ref l∧y=.int k∧Rd H l (.lst xs)∧-(2^63)≤k∧k<2^63∧xs.length*k.toNat≤sizeLine ∧
  ∀ p,H p=none→Q (.ref p) (upd H p (.lst (List.replicate k.toNat xs).flatten))):=by
  intro pins s σ H x y v u Q I rx ry h
  obtain ⟨l,k,xs,rfl,rfl,hH,h1,h2,hz,q⟩:=h
  cases rx
  obtain ⟨t,rfl⟩:=ry
  obtain ⟨z,its,n,r,hl,e⟩:=qbi I hH
  have hlen:its.toArray.size*k.toNat≤sizeLine:=by rw [List.size_toArray,← hl];exact hz
  have hcap:¬ its.toArray.size*k.toNat>(2^63-1) / 8:=by
    have:(sizeLine:Nat)≤(2^63-1) / 8:=by decide
    lia
  have hfit:¬ (!Builtin.List.listFitsIndex k)=true:=by
    rw [fitsIndex_both h1 h2]
    exact Bool.false_ne_true
  have hlong:¬ Builtin.List.listTooLong (its.toArray.size*k.toNat)=true:=by
    rw [notLongL hlen]
    exact Bool.false_ne_true
  have hnew:List.foldl (fun x1 x2=>x1++x2) #[] (List.replicate (if its.toArray.isEmpty=true then 0 else k.toNat) its.toArray)=(List.replicate k.toNat its).flatten.toArray:=by
    have f0:∀ m:Nat,List.foldl (fun x1 x2=>x1++x2) #[] (List.replicate m its.toArray)=(List.replicate m its).flatten.toArray:=fun m=>by
      have:=yH its m []
      rw [List.nil_append] at this
      exact this
    rw [f0]
    cases its with
    | nil=>simp
    | cons a r'=>rw [if_neg (by simp)]
  refine wpAny_binaryOp_repeat_ref (T:="list") (U:="int") (by decide) ⟨_,e,rfl⟩ (fun s'=>typeIs_int s' k t) noFill_list_mul F.fills_int_mul F.slot_int_rmul repeat_list F.slot_int_index.lookup
    (call_meets F.slot_int_rmul (typeIs_int s k t) F.entry_int_rmul (F.args_int_rmul_2 _ _) (int___rmul___int_list k t l its.toArray n)
      ⟨e,rfl,⟨_,e,rfl⟩,call_meets F.slot_list_mul ⟨_,e,rfl⟩ F.entry_list_mul (F.args_list_mul_2 _ _) (AutoListH.list___mul___list_int_3 l its.toArray n k t hfit hcap hlong) ⟨e,?_⟩⟩)
  rw [hnew]
  exact ⟨.ref _,_,I.lnew (t':=s.toks) (r.rep k.toNat) (by rw [j0,Nat.mul_comm];exact hz),rfl,q _ I.fresh⟩
noncomputable def opOf:BOp→Operator
  | .add=>.Add | .sub=>.Sub | .mul=>.Mult | .fdiv=>.FloorDiv | .mod=>.Mod | .pow=>.Pow | .shl=>.LShift | .shr=>.RShift | .band=>.BitAnd
theorem qhi (o:BOp):OpR X (binaryOp (opOf o)) (fun x y H Q=>∃ i j r,x=.int i∧y=.int j∧binI o i j=some r∧Q (.int r) H):=by
  intro pins s σ H x y v u Q I rx ry h
  obtain ⟨i,j,r,rfl,rfl,e,q⟩:=h
  have fin:∀ {r':Int} {t:Tok} {tk:Nat},r=r'→EP X pins σ Q (.int r' t) { s with toks:=tk }:=fun {r' t tk} z=>by subst z;exact ⟨.int r,H,I.tok _,⟨_,rfl⟩,q⟩
  obtain ⟨tv,rfl⟩:=rx
  obtain ⟨tu,rfl⟩:=ry
  cases o with
  | add=>exact add_int (fin (by cases e;rfl))
  | sub=>exact sub_int (fin (by cases e;rfl))
  | mul =>
    simp only [binI] at e
    split at e
    · rename_i hm
      exact mul_int (fin (by cases e;rfl)) (by unfold mulOk at hm;unfold IntMulOk;intro z;rw [z] at hm;exact absurd hm (by decide))
    · cases e
  | fdiv =>
    simp only [binI] at e
    split at e
    · rename_i hm
      simp only [divOk,Bool.and_eq_true,Bool.not_eq_true',beq_eq_false_iff_ne] at hm
      exact floordiv_int hm.1 (fin (by cases e;rfl)) (.inl hm.2)
    · cases e
  | mod =>
    simp only [binI] at e
    split at e
    · cases e
    · rename_i hm
      exact mod_int' hm (fin (by cases e;rfl))
  | pow =>
    simp only [binI] at e
    split at e
    · rename_i hm
      exact pow_int_small hm.1 hm.2.1 hm.2.2 (fin (by cases e;rfl))
    · cases e
  | shl =>
    simp only [binI] at e
    split at e
    · rename_i hm
      exact lshift_int_small hm.1 hm.2.1 hm.2.2 (fin (by cases e;rfl))
    · cases e
  | shr =>
    simp only [binI] at e
    split at e
    · rename_i hm
      exact qg2 pins s σ H (.int i) (.int j) _ _ Q I ⟨tv,rfl⟩ ⟨tu,rfl⟩ ⟨i,j,rfl,rfl,hm,by cases e;exact q⟩
    · cases e
  | band=>exact and_int (fin (by cases e;rfl))
end
end R
namespace R
open PySem PySem.Spec L2 SeqAt
open PyProof.Rows hiding St
theorem qaA {f:D→D→Option Bool}:∀ {a b:List D} {r:Bool},eqL f a b=some r →
    (∀ (j:Nat) (x y:D),a[j]?=some x→b[j]?=some y→∃ c,f x y=some c) ∧
    r=((List.range (min a.length b.length)).all (fun j=>match a[j]?,b[j]? with | some x,some y=>(f x y).getD false | _,_=>false)&&a.length == b.length)
  | [],[],r,h=>by cases h;exact ⟨fun j x y h _=>by simp at h,by simp⟩
  | [],_::_,r,h=>by cases h;exact ⟨fun j x y h _=>by simp at h,by simp⟩
  | _::_,[],r,h=>by cases h;exact ⟨fun j x y _ h=>by simp at h,by simp⟩
  | a::p,b::q,r,h=>by
    simp only [eqL] at h
    split at h
    · rename_i x y hx hy
      obtain ⟨ih1,ih2⟩:=qaA hy
      cases h
      refine ⟨fun j z w hz hw=>?_,?_⟩
      · cases j with
        | zero=>simp at hz hw;subst hz hw;exact ⟨x,hx⟩
        | succ j=>exact ih1 j z w (by simpa using hz) (by simpa using hw)
      · have e:min (a::p).length (b::q).length=min p.length q.length+1:=by simp only [List.length_cons];lia
        rw [e,List.range_succ_eq_map,List.all_cons,List.all_map]
        simp only [List.getElem?_cons_zero,hx,Option.getD_some]
        rw [ih2,Bool.and_assoc]
        congr 1
        congr 1
        simp only [List.length_cons]
        rw [Bool.eq_iff_iff,beq_iff_eq,beq_iff_eq];lia
    · cases h
section
variable {ι:List Addr} {H:Hp}
theorem jb {a:Addr} {xs ys:List V} (h:H a=some (.tup xs)) (k:Rd H a (.lst ys)):False:=by
  rcases k with k | ⟨o,k⟩ <;> (rw [h] at k;cases k)
theorem rd_inj {a:Addr} {xs ys:List V} (h:Rd H a (.lst xs)) (k:Rd H a (.lst ys)):xs=ys:=by
  rcases h with h | ⟨o,h⟩ <;> rcases k with k | ⟨o',k⟩ <;> (rw [h] at k;first | (cases k;done) | (cases k;rfl))
theorem jc {f:D→D→Option Bool} (hf:∀ x y v b,Den ι H x v→Den ι H y v→f x y=some b→b=true):∀ {a b:List D} {xs:List V} {r:Bool},Dens ι H a xs→Dens ι H b xs→eqL f a b=some r→r=true
  | [],[],_,r,_,_,h=>by cases h;rfl
  | [],_::_,_,r,h1,h2,h=>by
    cases (show _=[] from h1)
    obtain ⟨x,r,e,_⟩:=h2
    cases e
  | _::_,[],_,r,h1,h2,h=>by
    cases (show _=[] from h2)
    obtain ⟨x,r,e,_⟩:=h1
    cases e
  | a::p,b::q,_,r,h1,h2,h=>by
    obtain ⟨x,t,rfl,d1,e1⟩:=h1
    obtain ⟨x',t',e,d2,e2⟩:=h2
    cases e
    simp only [eqL] at h
    split at h
    · rename_i y z hy hz
      cases h
      rw [hf a b x y d1 d2 hy,jc hf e1 e2 hz]
      all_goals rfl
    · cases h
theorem jd:∀ (n:Nat) (x y:D) (v:V) (b:Bool),Den ι H x v→Den ι H y v→eqD n x y=some b→b=true
  | 0,_,_,_,_,_,_,h=>by cases h
  | n+1,x,y,v,b,hx,hy,h=>by
    cases x <;> cases y <;> simp only [eqD,Den] at h hx hy <;> first
      | (cases h;rfl)
      | (cases h;subst hx;first | (cases hy;done) | (cases hy;simp;done))
      | (obtain ⟨a,xs,rfl,_⟩:=hx;cases hy;done)
      | (obtain ⟨a,xs,rfl,_⟩:=hy;cases hx;done)
      | (obtain ⟨a,rfl,_⟩:=hx;cases h;done)
      | (obtain ⟨a,rfl,_⟩:=hy;cases h;done)
      | (obtain ⟨a,xs,rfl,_,ha,r⟩:=hx
         obtain ⟨a',xs',e,_,ha',r'⟩:=hy
         cases e
         first
           | (rw [ha] at ha';cases ha';exact jc (fun x y v b=>jd n x y v b) r r' h)
           | (cases rd_inj ha ha'
              have hl:_=_:=r.length.trans r'.length.symm
              rw [if_pos hl] at h
              exact jc (fun x y v b=>jd n x y v b) r r' h)
           | exact (jb ha ha').elim
           | exact (jb ha' ha).elim)
end
section
variable {X:Cx} {pins:List (Addr × Obj)} {σ:St} {H:Hp} {s:Shared} {ι:List Addr}
theorem Vals.at {xs:List V} {us:List Value} (r:Vals xs us) {j:Nat} (h:j<us.length):∃ x,xs[j]?=some x∧RelV x us[j]:=by
  have hl:=r.length
  obtain ⟨u,h1,h2⟩:=r.get (i:=j) (x:=xs[j]'(by lia)) (List.getElem?_eq_getElem (by lia))
  rw [List.getElem?_eq_getElem h] at h1
  cases h1
  exact ⟨_,List.getElem?_eq_getElem (by lia),h2⟩
theorem Dens.at {ds:List D} {xs:List V} {j:Nat} {x:V} (h:Dens ι H ds xs) (e:xs[j]?=some x):∃ d,ds[j]?=some d∧Den ι H d x:=by
  have hl:=h.length
  have hj:=(List.getElem?_eq_some_iff.mp e).1
  obtain ⟨y,h1,h2⟩:=h.get (i:=j) (d:=ds[j]'(by lia)) (List.getElem?_eq_getElem (by lia))
  rw [e] at h1;cases h1
  exact ⟨_,List.getElem?_eq_getElem (by lia),h2⟩
theorem je (I:Inv X pins σ H s) {a:Addr} {xs:List V} (h:H a=some (.tup xs)):∃ its:List Value,Vals xs its∧IsTup s.heap a its.toArray∧xs.length≤sizeLine:=by
  obtain ⟨z,its,r,p,_⟩:=I.hok a _ h
  exact ⟨its,r,p,z⟩
theorem yJ (I:Inv X pins σ H s) {a:Addr} {xs:List V} (h:Rd H a (.lst xs)):∃ its:List Value,Vals xs its∧s.heap.IsList a its.toArray∧xs.length≤sizeLine:=by
  obtain ⟨z,its,n,r,e⟩:=h.ok I.hok
  exact ⟨its,r,⟨_,e,rfl,n,rfl⟩,z⟩
noncomputable def EqAll (A:Around) (s:Shared) (v u:Value) (b:Bool):Prop:=RcAt A s v u b∧RcNeAt A s v u (!b)∧EqAt A s v u b
theorem yj {v:V} {i:Int} {u:Value} (h:Den ι H (.int i) v) (r:RelV v u):∃ t,u=.int i t:=by cases (show v=_ from h);exact r
theorem yk {v:V} {i:Str} {u:Value} (h:Den ι H (.str i) v) (r:RelV v u):∃ t,u=.str i t:=by cases (show v=_ from h);exact r
theorem vs_bl {v:V} {i:Bool} {u:Value} (h:Den ι H (.bl i) v) (r:RelV v u):u=.bool i:=by cases (show v=_ from h);exact r
theorem vs_non {v:V} {u:Value} (h:Den ι H .non v) (r:RelV v u):u=.none:=by cases (show v=_ from h);exact r
theorem yn (I:Inv X pins σ H s) {v:V} {l:List D} {u:Value} (h:Den ι H (.tup l) v) (r:RelV v u):∃ a its xs,v=.ref a∧u=.ref a∧Vals xs its∧Dens ι H l xs∧s.heap.IsTuple a its.toArray∧H a=some (.tup xs):=by
  obtain ⟨a,xs,rfl,_,ha,d⟩:=h
  cases r
  obtain ⟨its,rv,p,_⟩:=je I ha
  exact ⟨a,its,xs,rfl,rfl,rv,d,p,ha⟩
theorem yo (I:Inv X pins σ H s) {v:V} {l:List D} {u:Value} (h:Den ι H (.lst l) v) (r:RelV v u):∃ a its xs,v=.ref a∧u=.ref a∧Vals xs its∧Dens ι H l xs∧s.heap.IsList a its.toArray∧Rd H a (.lst xs):=by
  obtain ⟨a,xs,rfl,_,ha,d⟩:=h
  cases r
  obtain ⟨its,rv,p,_⟩:=yJ I ha
  exact ⟨a,its,xs,rfl,rfl,rv,d,p,ha⟩
theorem qdI {f:D→D→Option Bool} {A:Around} {a b:List D} {xs ys:List V} {its its2:List Value} {r:Bool}
    (hf:∀ x y c v u v' u',f x y=some c→Den ι H x v→Den ι H y u→RelV v v'→RelV u u'→EqAt A s v' u' c)
    (h:eqL f a b=some r) (da:Dens ι H a xs) (db:Dens ι H b ys) (va:Vals xs its) (vb:Vals ys its2) :
    ∃ e:Nat→Bool,(∀ j (h1:j<its.toArray.size) (h2:j<its2.toArray.size),EqAt A s its.toArray[j] its2.toArray[j] (e j))∧r=((List.range (min its.toArray.size its2.toArray.size)).all e&&its.toArray.size == its2.toArray.size) ∧
      a.length=its.length∧b.length=its2.length:=by
  obtain ⟨h1,h2⟩:=qaA h
  have la:a.length=its.length:=da.length.trans va.length
  have lb:b.length=its2.length:=db.length.trans vb.length
  refine ⟨_,fun j j1 j2=>?_,by rw [List.size_toArray,List.size_toArray,← la,← lb];exact h2,la,lb⟩
  simp only [List.size_toArray] at j1 j2
  obtain ⟨x,e1,r1⟩:=Vals.at va j1
  obtain ⟨y,e2,r2⟩:=Vals.at vb j2
  obtain ⟨d1,g1,k1⟩:=da.at e1
  obtain ⟨d2,g2,k2⟩:=db.at e2
  obtain ⟨c,hc⟩:=h1 j d1 d2 g1 g2
  simp only [g1,g2,hc,Option.getD_some,List.getElem_toArray]
  exact hf d1 d2 c x y _ _ hc k1 k2 r1 r2
theorem qbj (I:Inv X pins σ H s):∀ (n:Nat) (A:Around) (x y:D) (b:Bool) (v u:V) (v' u':Value),eqD n x y=some b→Den ι H x v→Den ι H y u→RelV v v'→RelV u u'→A.units+n<cLine→EqAll A s v' u' b
  | 0,_,_,_,_,_,_,_,_,h,_,_,_,_,_=>by cases h
  | n+1,A,x,y,b,v,u,v',u',h,hx,hy,rx,ry,hu=>by
    have hu0:A.units<cLine:=by lia
    have same:=jd (ι:=ι) (H:=H) (n+1) x y
    have ih:∀ x y c v u v' u',eqD n x y=some c→Den ι H x v→Den ι H y u→RelV v v'→RelV u u'→EqAt A.in1 s v' u' c:=fun x y c v u v' u' h1 h2 h3 h4 h5 =>
      (qbj I n A.in1 x y c v u v' u' h1 h2 h3 h4 h5 (by show A.units+1+n<cLine;lia)).2.2
    cases x with
    | exc k=>cases y <;> cases h
    | ref k=>cases y <;> cases h
    | emp=>cases y <;> cases h
    | non =>
      cases vs_non hx rx
      cases y with
      | ref k=>cases h
      | emp=>cases h
      | exc _=>cases h
      | non=>cases vs_non hy ry;cases h;exact ⟨RcAt.none_none,RcNeAt.none_none,EqAt.same _⟩
      | bl c=>cases vs_bl hy ry;cases h;exact ⟨RcAt.none_bool _,RcNeAt.none_bool _,EqAt.none_bool _⟩
      | int c=>obtain ⟨t,rfl⟩:=yj hy ry;cases h;exact ⟨RcAt.none_int _ _,RcNeAt.none_int _ _,EqAt.none_int _ _⟩
      | str c=>obtain ⟨t,rfl⟩:=yk hy ry;cases h;exact ⟨RcAt.none_str _ _,RcNeAt.none_str _ _,EqAt.none_str _ _⟩
      | tup l=>obtain ⟨a,its,xs,_,rfl,_,_,p,_⟩:=yn I hy ry;cases h;exact ⟨RcAt.none_tuple p hu0,RcNeAt.none_tuple p hu0,EqAt.none_tuple p hu0⟩
      | lst l=>obtain ⟨a,its,xs,_,rfl,_,_,p,_⟩:=yo I hy ry;cases h;exact ⟨RcAt.none_list p hu0,RcNeAt.none_list p hu0,EqAt.none_list p hu0⟩
    | bl d =>
      cases vs_bl hx rx
      cases y with
      | ref k=>cases h
      | emp=>cases h
      | exc _=>cases h
      | non=>cases vs_non hy ry;cases h;exact ⟨RcAt.bool_none _,RcNeAt.bool_none _,EqAt.bool_none _⟩
      | bl c=>cases vs_bl hy ry;cases h;exact ⟨RcAt.bool_bool _ _,RcNeAt.bool_bool _ _,EqAt.bool_bool _ _⟩
      | int c=>obtain ⟨t,rfl⟩:=yj hy ry;cases h;exact ⟨RcAt.bool_int _ _ _,RcNeAt.bool_int _ _ _,EqAt.bool_int _ _ _⟩
      | str c=>obtain ⟨t,rfl⟩:=yk hy ry;cases h;exact ⟨RcAt.bool_str _ _ _,RcNeAt.bool_str _ _ _,EqAt.bool_str _ _ _⟩
      | tup l=>obtain ⟨a,its,xs,_,rfl,_,_,p,_⟩:=yn I hy ry;cases h;exact ⟨RcAt.bool_tuple _ p hu0,RcNeAt.bool_tuple _ p hu0,EqAt.bool_tuple _ p hu0⟩
      | lst l=>obtain ⟨a,its,xs,_,rfl,_,_,p,_⟩:=yo I hy ry;cases h;exact ⟨RcAt.bool_list _ p hu0,RcNeAt.bool_list _ p hu0,EqAt.bool_list _ p hu0⟩
    | int d =>
      obtain ⟨tt,rfl⟩:=yj hx rx
      cases y with
      | ref k=>cases h
      | emp=>cases h
      | exc _=>cases h
      | non=>cases vs_non hy ry;cases h;exact ⟨RcAt.int_none _ _,RcNeAt.int_none _ _,EqAt.int_none _ _⟩
      | bl c=>cases vs_bl hy ry;cases h;exact ⟨RcAt.int_bool _ _ _,RcNeAt.int_bool _ _ _,EqAt.int_bool _ _ _⟩
      | int c=>obtain ⟨t,rfl⟩:=yj hy ry;cases h;exact ⟨RcAt.int_int _ _ _ _,RcNeAt.int_int _ _ _ _,EqAt.int_int _ _ _ _⟩
      | str c=>obtain ⟨t,rfl⟩:=yk hy ry;cases h;exact ⟨RcAt.int_str _ _ _ _,RcNeAt.int_str _ _ _ _,EqAt.int_str _ _ _ _⟩
      | tup l=>obtain ⟨a,its,xs,_,rfl,_,_,p,_⟩:=yn I hy ry;cases h;exact ⟨RcAt.int_tuple _ _ p hu0,RcNeAt.int_tuple _ _ p hu0,EqAt.int_tuple _ _ p hu0⟩
      | lst l=>obtain ⟨a,its,xs,_,rfl,_,_,p,_⟩:=yo I hy ry;cases h;exact ⟨RcAt.int_list _ _ p hu0,RcNeAt.int_list _ _ p hu0,EqAt.int_list _ _ p hu0⟩
    | str d =>
      obtain ⟨tt,rfl⟩:=yk hx rx
      cases y with
      | ref k=>cases h
      | emp=>cases h
      | exc _=>cases h
      | non=>cases vs_non hy ry;cases h;exact ⟨RcAt.str_none _ _,RcNeAt.str_none _ _,EqAt.str_none _ _⟩
      | bl c=>cases vs_bl hy ry;cases h;exact ⟨RcAt.str_bool _ _ _,RcNeAt.str_bool _ _ _,EqAt.str_bool _ _ _⟩
      | int c=>obtain ⟨t,rfl⟩:=yj hy ry;cases h;exact ⟨RcAt.str_int _ _ _ _,RcNeAt.str_int _ _ _ _,EqAt.str_int _ _ _ _⟩
      | str c=>obtain ⟨t,rfl⟩:=yk hy ry;cases h;exact ⟨RcAt.str_str _ _ _ _,RcNeAt.str_str _ _ _ _,EqAt.str_str _ _ _ _⟩
      | tup l=>obtain ⟨a,its,xs,_,rfl,_,_,p,_⟩:=yn I hy ry;cases h;exact ⟨RcAt.str_tuple _ _ p hu0,RcNeAt.str_tuple _ _ p hu0,EqAt.str_tuple _ _ p hu0⟩
      | lst l=>obtain ⟨a,its,xs,_,rfl,_,_,p,_⟩:=yo I hy ry;cases h;exact ⟨RcAt.str_list _ _ p hu0,RcNeAt.str_list _ _ p hu0,EqAt.str_list _ _ p hu0⟩
    | tup d =>
      obtain ⟨a',its',xs',e1,rfl,va,da,p',ha⟩:=yn I hx rx
      cases y with
      | ref k=>cases h
      | emp=>cases h
      | exc _=>cases h
      | non=>cases vs_non hy ry;cases h;exact ⟨RcAt.tuple_none p' hu0,RcNeAt.tuple_none p' hu0,EqAt.tuple_none p' hu0⟩
      | bl c=>cases vs_bl hy ry;cases h;exact ⟨RcAt.tuple_bool _ p' hu0,RcNeAt.tuple_bool _ p' hu0,EqAt.tuple_bool _ p' hu0⟩
      | int c=>obtain ⟨t,rfl⟩:=yj hy ry;cases h;exact ⟨RcAt.tuple_int _ _ p' hu0,RcNeAt.tuple_int _ _ p' hu0,EqAt.tuple_int _ _ p' hu0⟩
      | str c=>obtain ⟨t,rfl⟩:=yk hy ry;cases h;exact ⟨RcAt.tuple_str _ _ p' hu0,RcNeAt.tuple_str _ _ p' hu0,EqAt.tuple_str _ _ p' hu0⟩
      | tup l =>
        obtain ⟨a,its,xs,e2,rfl,vb,db,p,hb⟩:=yn I hy ry
        have h0:eqL (eqD n) d l=some b:=h
        obtain ⟨e,he,er,_⟩:=qdI ih h0 da db va vb
        have R1:RcAt A s (.ref a') (.ref a) b:=by rw [er];exact RcAt.tuples p' p hu0 he
        have R2:RcNeAt A s (.ref a') (.ref a) (!b):=by rw [er];exact RcNeAt.tuples p' p hu0 he
        refine ⟨R1,R2,?_⟩
        by_cases z:a'=a
        · subst z
          rw [same (.ref a') b (e1 ▸ hx) (e2 ▸ hy) h]
          exact EqAt.same _
        · exact EqAt.of_refs z R1
      | lst l=>obtain ⟨a,its,xs,_,rfl,_,_,p,_⟩:=yo I hy ry;cases h;exact ⟨RcAt.tuple_list p' p hu0,RcNeAt.tuple_list p' p hu0,EqAt.tuple_list p' p hu0⟩
    | lst d =>
      obtain ⟨a',its',xs',e1,rfl,va,da,p',ha⟩:=yo I hx rx
      cases y with
      | ref k=>cases h
      | emp=>cases h
      | exc _=>cases h
      | non=>cases vs_non hy ry;cases h;exact ⟨RcAt.list_none p' hu0,RcNeAt.list_none p' hu0,EqAt.list_none p' hu0⟩
      | bl c=>cases vs_bl hy ry;cases h;exact ⟨RcAt.list_bool _ p' hu0,RcNeAt.list_bool _ p' hu0,EqAt.list_bool _ p' hu0⟩
      | int c=>obtain ⟨t,rfl⟩:=yj hy ry;cases h;exact ⟨RcAt.list_int _ _ p' hu0,RcNeAt.list_int _ _ p' hu0,EqAt.list_int _ _ p' hu0⟩
      | str c=>obtain ⟨t,rfl⟩:=yk hy ry;cases h;exact ⟨RcAt.list_str _ _ p' hu0,RcNeAt.list_str _ _ p' hu0,EqAt.list_str _ _ p' hu0⟩
      | tup l=>obtain ⟨a,its,xs,_,rfl,_,_,p,_⟩:=yn I hy ry;cases h;exact ⟨RcAt.list_tuple p' p hu0,RcNeAt.list_tuple p' p hu0,EqAt.list_tuple p' p hu0⟩
      | lst l =>
        obtain ⟨a,its,xs,e2,rfl,vb,db,p,hb⟩:=yo I hy ry
        have h0:(if d.length=l.length then eqL (eqD n) d l else some false)=some b:=h
        have la:d.length=its'.length:=da.length.trans va.length
        have lb:l.length=its.length:=db.length.trans vb.length
        have R:RcAt A s (.ref a') (.ref a) b∧RcNeAt A s (.ref a') (.ref a) (!b):=by
          by_cases hl:d.length=l.length
          · rw [if_pos hl] at h0
            obtain ⟨e,he,er,_⟩:=qdI ih h0 da db va vb
            have hsz:its'.toArray.size=its.toArray.size:=by rw [List.size_toArray,List.size_toArray];lia
            have er':b=(List.range its'.toArray.size).all e:=by
              rw [er,hsz];simp
            rw [er']
            exact ⟨RcAt.lists p' p hsz hu0 he,RcNeAt.lists p' p hsz hu0 he⟩
          · rw [if_neg hl] at h0
            cases h0
            have hsz:(its'.toArray.size != its.toArray.size)=true:=by
              rw [List.size_toArray,List.size_toArray];simp;lia
            exact ⟨RcAt.lists_lengths p' p hsz hu0,RcNeAt.lists_lengths p' p hsz hu0⟩
        refine ⟨R.1,R.2,?_⟩
        by_cases z:a'=a
        · subst z
          rw [same (.ref a') b (e1 ▸ hx) (e2 ▸ hy) h]
          exact EqAt.same _
        · exact EqAt.of_refs z R.1
end
end R
namespace R
open PySem PySem.Spec L2 SeqAt
open PyProof.Rows hiding St
section
variable {X:Cx}
theorem Dens.rep {ι:List Addr} {H:Hp} {ds:List D} {xs:List V} (h:Dens ι H ds xs):∀ k:Nat,Dens ι H (List.replicate k ds).flatten (List.replicate k xs).flatten
  | 0=>by simp [Dens]
  | k+1=>by
    simp only [List.replicate_succ,List.flatten_cons]
    exact h.append (Dens.rep h k)
theorem qdJ:OpR X (binaryOp .Add) (fun x y H Q=>∃ a b xs ys,x=.ref a∧y=.ref b∧H a=some (.tup xs)∧H b=some (.tup ys)∧xs.length+ys.length≤sizeLine ∧
    (xs=[]→Q (.ref b) H)∧(xs≠[]→ys=[]→Q (.ref a) H)∧(xs≠[]→ys≠[]→∀ p,H p=none→Q (.ref p) (upd H p (.tup (xs++ys))))):=by
  intro pins s σ H x y v u Q I rx ry h
  obtain ⟨a,b,xs,ys,rfl,rfl,ha,hb,hz,q0,q1,q2⟩:=h
  by_cases hx:xs=[]
  · subst hx
    cases rx
    cases ry
    obtain ⟨its,r1,p1,_⟩:=je I ha
    obtain ⟨its2,r2,p2,_⟩:=je I hb
    obtain ⟨⟨cls,dd,data,sl⟩,ho,hc,n,hd⟩:=id p1
    obtain ⟨⟨cls2,dd2,data2,sl2⟩,ho2,hc2,n2,hd2⟩:=id p2
    simp only at hc hd hc2 hd2
    subst hc hd hc2 hd2
    have e0:its=[]:=r1.nil_iff.mpr rfl
    subst e0
    exact concat_meets ⟨_,ho,rfl⟩ ⟨_,ho2,rfl⟩ noFill_tuple_add seq_tuple_add PySem.F.slot_tuple_add PySem.F.entry_tuple_add (PySem.F.args_tuple_add_2 _ _)
      (tuple_addW0 a b _ its2.toArray n n2 dd dd2 sl sl2 (by simp)) ⟨ho,ho2,⟨.ref b,H,I,rfl,q0 rfl⟩⟩
  · exact qfn pins s σ H _ _ v u Q I rx ry ⟨a,b,xs,ys,rfl,rfl,.inl (.inl ha),.inl (.inl hb),hx,hz,q1 hx,q2 hx⟩
theorem qfv (o:BOp):OpR X (binaryOp (opOf o)) (G2 fun x y S=>ofO (binD o x y S) S):=by
  intro pins s σ H x y v u Q I rx ry h
  obtain ⟨ι,S,dx,dy,st,hx,hy,p⟩:=h
  obtain ⟨d,e,q⟩:=Pst.ofO p st
  have q0:∀ v,Den ι H d v→Q v H:=fun v hv=>q v ι H (Stp.refl _ _) st hv
  unfold binD at e
  split at e
  · rename_i i j
    cases (show x=_ from hx)
    cases (show y=_ from hy)
    cases hb:binI o i j with
    | none=>rw [hb] at e;cases e
    | some r =>
      rw [hb] at e;cases e
      exact qhi o pins s σ H _ _ v u Q I rx ry ⟨i,j,r,rfl,rfl,hb,q0 _ rfl⟩
  · rename_i a b
    cases o <;> try (cases e;done)
    dsimp only at e
    split at e
    · rename_i hc
      cases e
      cases (show x=_ from hx)
      cases (show y=_ from hy)
      exact qba pins s σ H _ _ v u Q I rx ry ⟨a,b,rfl,rfl,hc,q0 _ rfl⟩
    · cases e
  · rename_i a b
    cases o <;> try (cases e;done)
    dsimp only at e
    split at e
    · rename_i hc
      cases e
      obtain ⟨l,xs,rfl,n1,h1,d1⟩:=hx
      obtain ⟨m,ys,rfl,n2,h2,d2⟩:=hy
      have hz:xs.length+ys.length≤sizeLine:=by
        have:=of_decide_eq_true hc
        rw [d1.length,d2.length] at this;exact this
      refine qdJ pins s σ H _ _ v u Q I rx ry ⟨l,m,xs,ys,rfl,rfl,h1,h2,hz,fun z=>?_,fun _ z=>?_,fun _ _=>zd st (d1.append d2) q⟩
      · subst z
        have:a=[]:=List.length_eq_zero_iff.mp (by rw [d1.length];rfl)
        subst this
        exact q0 _ ⟨m,ys,rfl,n2,h2,by simpa using d2⟩
      · subst z
        have:b=[]:=List.length_eq_zero_iff.mp (by rw [d2.length];rfl)
        subst this
        exact q0 _ ⟨l,xs,rfl,n1,h1,by simpa using d1⟩
    · cases e
  · rename_i a k
    cases o <;> try (cases e;done)
    dsimp only at e
    split at e
    · rename_i hc
      cases e
      obtain ⟨l,xs,rfl,n1,h1,d1⟩:=hx
      cases (show y=_ from hy)
      obtain ⟨c1,c2,c3⟩:=of_decide_eq_true hc
      refine qfs pins s σ H _ _ v u Q I rx ry ⟨l,k,xs,rfl,rfl,.inl (.inl h1),c1,c2,by rw [← d1.length];exact c3,fun z=>?_,fun _=>zd st (d1.rep _) q⟩
      have e2:rep a k=a:=by
        unfold rep
        rcases z with z | z
        · subst z
          have:a=[]:=List.length_eq_zero_iff.mp (by rw [d1.length];rfl)
          subst this
          simp
        · subst z;simp
      rw [e2] at q0
      exact q0 _ ⟨l,xs,rfl,n1,h1,d1⟩
    · cases e
  · rename_i k _ _
    cases o <;> try (cases e;done)
    dsimp only at e
    split at e
    · rename_i a ha
      split at e
      · rename_i hc
        cases e
        obtain ⟨l,xs,rfl,h1,d1⟩:=qD st ha hx
        cases (show y=_ from hy)
        obtain ⟨c1,c2,c3⟩:=of_decide_eq_true hc
        exact qfu pins s σ H _ _ v u Q I rx ry ⟨l,k,xs,rfl,rfl,h1,c1,c2,by rw [← d1.length];exact c3,q9 (m:=false) st (d1.rep _) q⟩
      · cases e
    · cases e
  · cases o <;> try (cases e;done)
    dsimp only at e
    split at e
    · rename_i a b ha hb
      split at e
      · rename_i hc
        cases e
        obtain ⟨l,xs,rfl,h1,d1⟩:=qD st ha hx
        obtain ⟨m,ys,rfl,h2,d2⟩:=qD st hb hy
        have hz:xs.length+ys.length≤sizeLine:=by
          have:=of_decide_eq_true hc
          rw [d1.length,d2.length] at this;exact this
        exact qft pins s σ H _ _ v u Q I rx ry ⟨l,m,xs,ys,rfl,rfl,h1,h2,hz,q9 (m:=false) st (d1.append d2) q⟩
      · cases e
    · cases e
theorem intsOf_eq:∀ {l:List D} {m:List Int},intsOf l=some m→l=m.map .int
  | [],m,h=>by cases h;rfl
  | .int i::r,m,h=>by
    simp only [intsOf] at h
    cases e:intsOf r with
    | none=>rw [e] at h;cases h
    | some m'=>rw [e] at h;cases h;rw [intsOf_eq e];rfl
  | .non::_,_,h=>by cases h
  | .bl _::_,_,h=>by cases h
  | .str _::_,_,h=>by cases h
  | .tup _::_,_,h=>by cases h
  | .lst _::_,_,h=>by cases h
  | .emp::_,_,h=>by cases h
  | .exc _::_,_,h=>by cases h
  | .ref _::_,_,h=>by cases h
theorem dens_ints {ι:List Addr} {H:Hp}:∀ {m:List Int} {xs:List V},Dens ι H (m.map .int) xs→xs=m.map .int
  | [],xs,h=>h
  | i::m,xs,h=>by
    obtain ⟨x,r,rfl,h1,h2⟩:=h
    rw [dens_ints h2,show x=_ from h1];rfl
noncomputable def cOf:COp→CmpOp
  | .eq=>.Eq | .ne=>.NotEq | .lt=>.Lt | .le=>.LtE | .gt=>.Gt | .ge=>.GtE | .is=>.Is | .isn=>.IsNot | .inn=>.In | .nin=>.NotIn
theorem jf {ι:List Addr} {H:Hp}:∀ {d:D} {v:V},flatD d=true→Den ι H d v→flatV v=true
  | .non,_,_,h=>by cases (show _=_ from h);rfl
  | .bl _,_,_,h=>by cases (show _=_ from h);rfl
  | .int _,_,_,h=>by cases (show _=_ from h);rfl
  | .str _,_,_,h=>by cases (show _=_ from h);rfl
  | .tup _,_,h,_=>by cases h
  | .lst _,_,h,_=>by cases h
  | .emp,_,h,_=>by cases h
  | .exc _,_,h,_=>by cases h
  | .ref _,_,h,_=>by cases h
theorem qfw {ι:List Addr} {H:Hp} {d e:D} {v u:V} (fd:flatD d=true) (fe:flatD e=true) (h:Den ι H d v) (k:Den ι H e u):eqV v u=eqF d e:=by
  cases d <;> cases e <;> first
    | (cases fd;done)
    | (cases fe;done)
    | (cases (show v=_ from h);cases (show u=_ from k);simp [eqV,eqF,Bool.beq_eq_decide_eq];done)
theorem qbk {ι:List Addr} {H:Hp} {x:D} {v:V} (fx:flatD x=true) (hx:Den ι H x v):∀ {l:List D} {xs:List V},l.all flatD=true→Dens ι H l xs→xs.all flatV=true∧inV v xs=l.any fun y=>eqF y x
  | [],xs,_,h=>by cases (show _=[] from h);exact ⟨rfl,rfl⟩
  | d::l,xs,hf,h=>by
    obtain ⟨y,r,rfl,h1,h2⟩:=h
    simp only [List.all_cons,Bool.and_eq_true] at hf
    obtain ⟨i1,i2⟩:=qbk fx hx hf.2 h2
    refine ⟨by simp [jf hf.1 h1,i1],?_⟩
    unfold inV at i2 ⊢
    rw [List.any_cons,List.any_cons,qfw hf.1 fx h1 hx,i2]
theorem zv {ι:List Addr} {H:Hp} {S:Sr} {v:V} (st:Sto ι H S) {d:D} {l:List D} (h:seqOf S d=some l) (hd:Den ι H d v):∃ a xs,v=.ref a∧(Rd H a (.lst xs)∨H a=some (.tup xs))∧Dens ι H l xs:=by
  unfold seqOf at h
  split at h
  · cases h
    obtain ⟨a,xs,e,_,ha,r⟩:=hd
    exact ⟨a,xs,e,.inr ha,r⟩
  · obtain ⟨a,xs,e,ha,r⟩:=qD st h hd
    exact ⟨a,xs,e,.inl ha,r⟩
theorem qfx {a b:Bool} {M:Model} {A:Around} {E:Value→Shared→Prop} {s:Shared} {Q:Value→Shared→Prop} (h:Q (.bool (a == b)) s):wpAny M A (compareOp .Is (.bool a) (.bool b)) Q E s :=
  wpAny_is_plain (by rfl) (by cases a <;> cases b <;> exact h)
theorem qdK {a b:Bool} {M:Model} {A:Around} {E:Value→Shared→Prop} {s:Shared} {Q:Value→Shared→Prop} (h:Q (.bool (!(a == b))) s):wpAny M A (compareOp .IsNot (.bool a) (.bool b)) Q E s :=
  wpAny_isNot_plain (by rfl) (by cases a <;> cases b <;> exact h)
theorem yW (o:COp) (hu:X.A.units+30<cLine):OpR X (compareOp (cOf o)) (G2 fun x y S=>ofO ((cmpD o x y S).map .bl) S):=by
  intro pins s σ H x y v u Q I rx ry h
  obtain ⟨ι,S,dx,dy,st,hx,hy,p⟩:=h
  obtain ⟨d,e,q⟩:=Pst.ofO p st
  obtain ⟨b,eb,rfl⟩:∃ b,cmpD o dx dy S=some b∧d=.bl b:=by
    cases z:cmpD o dx dy S with
    | none=>rw [z] at e;cases e
    | some b=>rw [z] at e;cases e;exact ⟨b,rfl,rfl⟩
  clear e p
  have e:=eb
  clear eb
  have q0:Q (.bl b) H:=q (.bl b) ι H (Stp.refl _ _) st rfl
  have fin:EP X pins σ Q (.bool b) s:=⟨.bl b,H,I,rfl,q0⟩
  cases o with
  | eq=>exact (qbj I 20 X.A dx dy b x y v u e hx hy rx ry (by lia)).1 _ _ _ _ fin
  | ne =>
    cases z:eqD 20 dx dy with
    | none=>simp only [cmpD,z] at e;cases e
    | some c =>
      simp only [cmpD,z] at e;cases e
      exact (qbj I 20 X.A dx dy c x y v u z hx hy rx ry (by lia)).2.1 _ _ _ _ fin
  | lt =>
    simp only [cmpD] at e
    split at e
    · cases (show x=_ from hx);cases (show y=_ from hy);cases e
      exact qii pins s σ H _ _ v u Q I rx ry ⟨_,_,rfl,rfl,q0⟩
    · split at e
      · rename_i m n hm hn
        cases e
        cases intsOf_eq hm
        cases intsOf_eq hn
        obtain ⟨a1,xs,rfl,_,h1,d1⟩:=hx
        obtain ⟨a2,ys,rfl,_,h2,d2⟩:=hy
        cases dens_ints d1
        cases dens_ints d2
        exact qg9 (by lia) pins s σ H _ _ v u Q I rx ry ⟨a1,a2,m,n,rfl,rfl,.inl (.inl h1),.inl (.inl h2),q0⟩
      · cases e
    · cases e
  | le =>
    simp only [cmpD] at e
    split at e
    · cases (show x=_ from hx);cases (show y=_ from hy);cases e
      exact qij pins s σ H _ _ v u Q I rx ry ⟨_,_,rfl,rfl,q0⟩
    · cases e
  | gt =>
    simp only [cmpD] at e
    split at e
    · cases (show x=_ from hx);cases (show y=_ from hy);cases e
      exact qik pins s σ H _ _ v u Q I rx ry ⟨_,_,rfl,rfl,q0⟩
    · cases e
  | ge =>
    simp only [cmpD] at e
    split at e
    · cases (show x=_ from hx);cases (show y=_ from hy);cases e
      exact qil pins s σ H _ _ v u Q I rx ry ⟨_,_,rfl,rfl,q0⟩
    · split at e
      · rename_i m n hm hn
        cases e
        cases intsOf_eq hm
        cases intsOf_eq hn
        obtain ⟨a1,xs,rfl,_,h1,d1⟩:=hx
        obtain ⟨a2,ys,rfl,_,h2,d2⟩:=hy
        cases dens_ints d1
        cases dens_ints d2
        exact qhf (by lia) pins s σ H _ _ v u Q I rx ry ⟨a1,a2,m,n,rfl,rfl,.inl (.inl h1),.inl (.inl h2),q0⟩
      · cases e
    · cases e
  | is =>
    simp only [cmpD] at e
    split at e
    · cases (show y=_ from hy)
      refine qg3 pins s σ H _ _ v u Q I rx ry ⟨rfl,?_⟩
      cases dx <;> simp only [Option.some.injEq] at e <;> subst e <;> first
        | (cases (show x=_ from hx);exact q0)
        | (obtain ⟨a,_,rfl,_⟩:=hx;exact q0)
        | (obtain ⟨a,rfl,_⟩:=hx;exact q0)
    · split at e
      · cases (show x=_ from hx);cases (show y=_ from hy);cases e
        cases rx;cases ry
        exact qfx fin
      · cases (show x=_ from hx);cases (show y=_ from hy);cases e
        cases rx;cases ry
        exact wpAny_is_other (by rfl) (by intro z;cases z) fin
      · cases e
    · cases e
  | isn =>
    simp only [cmpD] at e
    split at e
    · cases (show y=_ from hy)
      refine qfg pins s σ H _ _ v u Q I rx ry ⟨rfl,?_⟩
      cases dx <;> simp only [Option.some.injEq] at e <;> subst e <;> first
        | (cases (show x=_ from hx);exact q0)
        | (obtain ⟨a,_,rfl,_⟩:=hx;exact q0)
        | (obtain ⟨a,rfl,_⟩:=hx;exact q0)
    · split at e
      · cases (show x=_ from hx);cases (show y=_ from hy);cases e
        cases rx;cases ry
        exact qdK fin
      · cases (show x=_ from hx);cases (show y=_ from hy);cases e
        cases rx;cases ry
        exact wpAny_isNot_other (by rfl) (by intro z;cases z) fin
      · cases e
    · cases e
  | inn =>
    simp only [cmpD] at e
    cases z:seqOf S dy with
    | none=>rw [z] at e;cases e
    | some l =>
      rw [z] at e
      have e:inD dx l=some b:=e
      unfold inD at e
      split at e
      · rename_i hf
        simp only [Bool.and_eq_true] at hf
        cases e
        obtain ⟨a,xs,rfl,hs,dl⟩:=zv st z hy
        obtain ⟨i1,i2⟩:=qbk hf.1 hx hf.2 dl
        refine qcK pins s σ H _ _ v u Q I rx ry ⟨a,xs,rfl,hs.elim (fun z=>.inl (.inl z)) (fun z=>.inr (.inl (.inl z))),jf hf.1 hx,i1,?_⟩
        rw [if_neg (by decide),i2];exact q0
      · cases e
  | nin =>
    simp only [cmpD] at e
    cases z:seqOf S dy with
    | none=>rw [z] at e;cases e
    | some l =>
      rw [z] at e
      have e:(inD dx l).map (!·)=some b:=e
      unfold inD at e
      split at e
      · rename_i hf
        simp only [Bool.and_eq_true] at hf
        cases e
        obtain ⟨a,xs,rfl,hs,dl⟩:=zv st z hy
        obtain ⟨i1,i2⟩:=qbk hf.1 hx hf.2 dl
        refine jY pins s σ H _ _ v u Q I rx ry ⟨a,xs,rfl,hs.elim (fun z=>.inl (.inl z)) (fun z=>.inr (.inl (.inl z))),jf hf.1 hx,i1,?_⟩
        rw [if_pos (by decide),i2];exact q0
      · cases e
end
end R
namespace R
open PySem PySem.Spec L2 SeqAt
open PyProof.Rows hiding St
section
variable {X:Cx} {pos:Pos}
theorem qfy {ι:List Addr} {H:Hp} {S:Sr} {K:PySem.W.Frag} (st:Sto ι H S) {d:D} {v:V} {b:Bool} (h:truD S d=some b) (hd:Den ι H d v):TruV K v H b:=by
  have viaL:∀ {l:List D},lstOf S d=some l→b=(!l.isEmpty)→TruV K v H b:=fun {l} hl hb=>by
    obtain ⟨a,xs,rfl,hr,dl⟩:=qD st hl hd
    refine .inl ⟨xs,.inl hr,?_⟩
    rw [hb];have:=dl.length
    cases l <;> cases xs <;> first | rfl | (simp at this;done)
  cases d with
  | non=>cases h;cases (show v=_ from hd);exact (rfl:false=false)
  | bl c=>cases h;cases (show v=_ from hd);exact (show b=b from rfl)
  | int i=>cases h;cases (show v=_ from hd);exact (rfl:(i != 0)=(i != 0))
  | str x =>
    cases (show v=_ from hd)
    simp only [truD] at h
    split at h
    · cases h;exact ⟨by assumption,rfl⟩
    · cases h
  | tup l =>
    cases h
    obtain ⟨a,xs,rfl,_,ha,dl⟩:=hd
    refine .inr (.inl ⟨xs,.inl (.inl ha),?_⟩)
    have:=dl.length
    cases l <;> cases xs <;> first | rfl | (simp at this;done)
  | emp =>
    cases h
    obtain ⟨a,rfl,_,ha⟩:=hd
    exact .inr (.inr ⟨[],ha,rfl⟩)
  | lst l =>
    simp only [truD,lstOf,Option.map_some,Option.some.injEq] at h
    exact viaL rfl h.symm
  | exc C=>simp [truD,lstOf] at h
  | ref n =>
    simp only [truD] at h
    cases z:lstOf S (.ref n) with
    | none=>rw [z] at h;cases h
    | some l=>rw [z] at h;cases h;exact viaL z rfl
noncomputable def mVal (m:En→Sr→Res D):En→Sr→Res Bool:=fun ρ S=>(m ρ S).bind fun x S1=>ofO (truD S1 x) S1
theorem qhj {e:Expr} {m:En→Sr→Res D} (h:PE X e (T m)) (he:∀ whole,isTrue e X.env whole=(do let v ← whole;standAt e.pos;holding [v] (truthy v))):PT X e (TB (mVal m)) :=
  PTimp (qdq h he) fun σ H Q hw=>TG.b1 hw fun ι S ρ a b H1 er st ra p=>by
    obtain ⟨k,e1,q⟩:=Pst.ofO p st
    exact ⟨k,qfy st e1 ra,q k ι H1 (Stp.refl _ _) st rfl⟩
noncomputable def IsB (m:En→Sr→Res D):Prop:=∀ ρ S d S',m ρ S=.ok d S'→∃ c,d=.bl c
theorem toTest {m:En→Sr→Res D} (hb:IsB m) {σ:St} {H:Hp} {Q:Bool→Hp→Prop} (hw:TB (mVal m) σ H Q):tTest (T m) σ H Q:=by
  obtain ⟨ι,S,ρ,er,st,p⟩:=hw
  refine ⟨ι,S,ρ,er,st,?_⟩
  dsimp only [mVal] at p ⊢
  cases z:m ρ S with
  | no=>rw [z] at p;exact p
  | err x S'=>rw [z] at p;exact p
  | ok d S' =>
    rw [z] at p
    obtain ⟨c,rfl⟩:=hb ρ S d S' z
    intro b ι' H' s' st' hb'
    cases (show b=_ from hb')
    exact ⟨c,rfl,p c ι' H' s' st' rfl⟩
theorem qfz {ma mb:En→Sr→Res D} {g:D→D→Sr→Option Bool}:IsB (fun ρ S=>(ma ρ S).bind fun x S1=>(mb ρ S1).bind fun y S2=>ofO ((g x y S2).map D.bl) S2):=by
  intro ρ S d S' z
  dsimp only at z
  cases z1:ma ρ S with
  | no=>rw [z1] at z;cases z
  | err=>rw [z1] at z;cases z
  | ok x S1 =>
    rw [z1,Res.bind_ok] at z
    cases z2:mb ρ S1 with
    | no=>rw [z2] at z;cases z
    | err=>rw [z2] at z;cases z
    | ok y S2 =>
      rw [z2,Res.bind_ok] at z
      cases z3:g x y S2 with
      | none=>rw [z3] at z;cases z
      | some c=>rw [z3] at z;cases z;exact ⟨c,rfl⟩
theorem qhk {a b:Expr} {op:CmpOp} {ma mb:En→Sr→Res D} {g:D→D→Sr→Option Bool} (ho:OpR X (compareOp op) (G2 fun x y S=>ofO ((g x y S).map D.bl) S)) (ha:PE X a (T ma)) (hb:PE X b (T mb)) (hm:behindInMarks op b=false) :
    PT X (.Compare a [op] [b] pos) (TB (mVal fun ρ S=>(ma ρ S).bind fun x S1=>(mb ρ S1).bind fun y S2=>ofO ((g x y S2).map D.bl) S2)) :=
  PTimp (qfi ho ha hb hm) fun σ H Q hw=>T2 (toTest qfz hw)
noncomputable def mChain (g g':D→D→Sr→Option Bool) (ma mb mc:En→Sr→Res D):En→Sr→Res D:=fun ρ S=>(ma ρ S).bind fun x S1=>(mb ρ S1).bind fun y S2=>match g x y S2 with
  | some true=>(mc ρ S2).bind fun z S3=>ofO ((g' y z S3).map D.bl) S3
  | some false=>.ok (.bl false) S2
  | none=>.no
theorem qfA {ma mb mc:En→Sr→Res D} {g g':D→D→Sr→Option Bool} {σ:St} {H:Hp} {Q:VK} (h:T (mChain g g' ma mb mc) σ H Q) :
    tChain (G2 fun x y S=>ofO ((g x y S).map D.bl) S) (G2 fun x y S=>ofO ((g' x y S).map D.bl) S) (T ma) (T mb) (T mc) σ H Q:=by
  refine TG.b1 h fun ι S ρ a b H1 er st ra p=>Pst.tg p er st fun a2 S2 ι2 H2 b2 s2 er2 st2 ra2 p2=>?_
  refine ⟨ι2,S2,a,a2,st2,Den.mono s2 a ra,ra2,?_⟩
  cases z:g a a2 S2 with
  | none=>rw [z] at p2;exact p2.elim
  | some c =>
    rw [z] at p2
    show Pst Den (ofO (Option.map D.bl (g a a2 S2)) S2) _ _ _
    rw [z]
    intro v ι3 H3 s3 st3 hv
    cases (show v=_ from hv)
    refine ⟨c,rfl,?_⟩
    cases c with
    | false=>rw [if_neg (by decide)];exact p2 _ ι3 H3 s3 st3 rfl
    | true =>
      rw [if_pos rfl]
      refine Pst.tg (ρ:=ρ) (Pst.from p2 s3) (er2.mono s3) st3 fun a4 S4 ι4 H4 b4 s4 er4 st4 ra4 p4=>?_
      exact ⟨ι4,S4,a2,a4,st4,Den.mono (s3.trans s4) a2 ra2,ra4,p4⟩
theorem qfB {a b c:Expr} {op op':CmpOp} {ma mb mc:En→Sr→Res D} {g g':D→D→Sr→Option Bool} (ho:OpR X (compareOp op) (G2 fun x y S=>ofO ((g x y S).map D.bl) S)) (ho':OpR X (compareOp op') (G2 fun x y S=>ofO ((g' x y S).map D.bl) S))
    (ha:PE X a (T ma)) (hb:PE X b (T mb)) (hc:PE X c (T mc)) (hm:lastMarks [op,op'] [b,c]=false):PE X (.Compare a [op,op'] [b,c] pos) (T (mChain g g' ma mb mc)) :=
  PEimp (qdp ho ho' ha hb hc hm) fun σ H Q=>qfA
theorem qhl {a:Expr} {b:Expr} {rest:List Expr} {ma mb:En→Sr→Res Bool} (ha:PT X a (TB ma)) (hb:PW X (.BoolOp .And (b::rest) pos) (TB mb)) :
    PW X (.BoolOp .And (a::b::rest) pos) (TB fun ρ S=>(ma ρ S).bind fun t S1=>if t then mb ρ S1 else .ok false S1):=fun wh pins s σ H Q I hw=>by
  refine qgS ha hb wh pins s σ H Q I (TG.b1 hw fun ι S ρ x y H1 er st ra p=>?_)
  cases (show x=y from ra)
  cases x with
  | true=>rw [if_pos rfl];exact ⟨ι,S,ρ,er,st,p⟩
  | false=>rw [if_neg (by decide)];exact p false ι H1 (Stp.refl _ _) st rfl
theorem qiv {a:Expr} {b:Expr} {rest:List Expr} {ma mb:En→Sr→Res Bool} (ha:PT X a (TB ma)) (hb:PW X (.BoolOp .Or (b::rest) pos) (TB mb)) :
    PW X (.BoolOp .Or (a::b::rest) pos) (TB fun ρ S=>(ma ρ S).bind fun t S1=>if t then .ok true S1 else mb ρ S1):=fun wh pins s σ H Q I hw=>by
  refine qif ha hb wh pins s σ H Q I (TG.b1 hw fun ι S ρ x y H1 er st ra p=>?_)
  cases (show x=y from ra)
  cases x with
  | true=>rw [if_pos rfl];exact p true ι H1 (Stp.refl _ _) st rfl
  | false=>rw [if_neg (by decide)];exact ⟨ι,S,ρ,er,st,p⟩
theorem qhm {a:Expr} {ma:En→Sr→Res Bool} (ha:PT X a (TB ma)):PT X (.UnaryOp .Not a pos) (TB fun ρ S=>(ma ρ S).bind fun t S1=>.ok (!t) S1) :=
  PTimp (qgT ha) fun σ H Q hw=>TG.b1 hw fun ι S ρ x y H1 er st ra p=>by
    cases (show x=y from ra)
    exact p _ ι H1 (Stp.refl _ _) st rfl
theorem qiw {a:Expr} {b:Expr} {rest:List Expr} {ma mb:En→Sr→Res D} (ha:PE X a (T ma)) (hb:PE X (.BoolOp .And (b::rest) pos) (T mb)) :
    PE X (.BoolOp .And (a::b::rest) pos) (T fun ρ S=>(ma ρ S).bind fun x S1=>match x with | .bl true=>mb ρ S1 | .bl false=>.ok (.bl false) S1 | _=>.no) :=
  PEimp (qgU ha hb) fun σ H Q hw=>TG.b1 hw fun ι S ρ x y H1 er st ra p=>by
    cases x with
    | bl c =>
      cases (show y=_ from ra)
      refine ⟨c,rfl,?_⟩
      cases c with
      | true=>rw [if_pos rfl];exact ⟨ι,S,ρ,er,st,p⟩
      | false=>rw [if_neg (by decide)];exact p _ ι H1 (Stp.refl _ _) st rfl
    | _=>exact p.elim
theorem r_or {a:Expr} {b:Expr} {rest:List Expr} {ma mb:En→Sr→Res D} (ha:PE X a (T ma)) (hb:PE X (.BoolOp .Or (b::rest) pos) (T mb)) :
    PE X (.BoolOp .Or (a::b::rest) pos) (T fun ρ S=>(ma ρ S).bind fun x S1=>match x with | .bl true=>.ok (.bl true) S1 | .bl false=>mb ρ S1 | _=>.no) :=
  PEimp (qig ha hb) fun σ H Q hw=>TG.b1 hw fun ι S ρ x y H1 er st ra p=>by
    cases x with
    | bl c =>
      cases (show y=_ from ra)
      refine ⟨c,rfl,?_⟩
      cases c with
      | true=>rw [if_pos rfl];exact p _ ι H1 (Stp.refl _ _) st rfl
      | false=>rw [if_neg (by decide)];exact ⟨ι,S,ρ,er,st,p⟩
    | _=>exact p.elim
theorem qix {a:Expr} {ma:En→Sr→Res D} (ha:PE X a (T ma)):PE X (.UnaryOp .Not a pos) (T fun ρ S=>(ma ρ S).bind fun x S1=>match x with | .bl b=>.ok (.bl (!b)) S1 | _=>.no) :=
  PEimp (qgV ha) fun σ H Q hw=>TG.b1 hw fun ι S ρ x y H1 er st ra p=>by
    cases x with
    | bl c =>
      cases (show y=_ from ra)
      exact ⟨c,rfl,p _ ι H1 (Stp.refl _ _) st rfl⟩
    | _=>exact p.elim
theorem qiy {es:List Expr} {k:Nat} {ms:En→Sr→Res (List D)} (h:PA X es (TL ms)):PE X (.Tuple es k pos) (T fun ρ S=>(ms ρ S).bind fun l S1=>if l.length≤sizeLine then .ok (.tup l) S1 else .no) :=
  PEimp (qdt h) fun σ H Q hw=>TG.b1 hw fun ι S ρ x y H1 er st ra p=>by
    by_cases hl:x.length≤sizeLine
    · rw [if_pos hl] at p
      exact ⟨by rw [← ra.length];exact hl,zd st ra p⟩
    · rw [if_neg hl] at p;exact p.elim
theorem qiz {es:List Expr} {m:Bool} {ms:En→Sr→Res (List D)} (h:PA X es (TL ms)):PE X (.List es pos) (T fun ρ S=>(ms ρ S).bind fun l S1=>if l.length≤sizeLine then newL m l S1 else .no) :=
  PEimp (qg5 h) fun σ H Q hw=>TG.b1 hw fun ι S ρ x y H1 er st ra p=>by
    by_cases hl:x.length≤sizeLine
    · rw [if_pos hl] at p
      exact ⟨by rw [← ra.length];exact hl,q9 st ra p⟩
    · rw [if_neg hl] at p;exact p.elim
theorem qiA {m:Bool}:PE X (.Dict [] [] pos) (T fun _ S=>if m then .ok (.ref S.length) (S++[.dic []]) else .ok .emp S):=by
  cases m with
  | true =>
    refine PEimp qdD fun σ H Q hw=>?_
    obtain ⟨ι,S,ρ,er,st,p⟩:=hw
    intro q hq
    have g:=Stp.grow (ι:=ι) hq (.dT [])
    refine p (.ref q) _ _ g (st.grow hq ⟨rfl,[],qm,rfl⟩) ⟨q,rfl,?_⟩
    rw [← st.len];simp
  | false =>
    refine PEimp qdC fun σ H Q hw=>?_
    obtain ⟨ι,S,ρ,er,st,p⟩:=hw
    intro q hq
    have g:=Stp.laid (ι:=ι) hq (.dK [])
    exact p (.ref q) _ _ g (st.laid hq _) ⟨q,rfl,st.fresh hq,qm⟩
theorem key_den {ι:List Addr} {H:Hp} {d:D} {v:V} {k:Key} (h:keyD d=some k) (hd:Den ι H d v):v=kV k:=by
  cases d <;> simp only [keyD] at h <;> cases h <;> exact hd
theorem qfC {ι:List Addr} {H:Hp} {l:List D} {xs:List V} {k:Int} {d:D} (dl:Dens ι H l xs) (h:atI l k=some d):∃ v,atI xs k=some v∧Den ι H d v:=by
  unfold atI at h ⊢
  rw [← dl.length]
  cases z:ixN l.length k with
  | none=>rw [z] at h;cases h
  | some j =>
    rw [z] at h
    exact dl.get h
theorem qaB {a b:List Int}:keyT a=keyT b ↔ a=b:=by
  refine ⟨fun h=>?_,fun h=>by rw [h]⟩
  unfold keyT at h
  exact (List.map_inj_right (fun x y h=>Sum.inl.inj h)).mp h
theorem qbU (k:List Int):(keyT k).map kV=k.map V.int:=by
  unfold keyT;rw [List.map_map];rfl
theorem qaC {κ K:Type} [DecidableEq κ] [DecidableEq K] {f:κ→K} (hf:∀ {a b},f a=f b ↔ a=b) {ι:List Addr} {H:Hp} {k:κ}:∀ {l:List (κ × D)} {kvs:List (K × V)} {d:D},DGs f ι H l kvs→lookT k l=some d→∃ v,valV kvs (f k)=some v∧Den ι H d v
  | [],_,_,_,h=>by cases h
  | p::l,_,d,hk,h=>by
    obtain ⟨v,r,rfl,h1,h2⟩:=hk
    obtain ⟨j,e⟩:=p
    simp only [lookT] at h
    by_cases z:j=k
    · rw [if_pos z] at h;cases h
      exact ⟨v,yx (by simp [z]),h1⟩
    · rw [if_neg z] at h
      obtain ⟨w,e1,e2⟩:=qaC hf h2 h
      exact ⟨w,by rw [yz (by simpa [hf] using z)];exact e1,e2⟩
theorem qbV {κ K:Type} [DecidableEq κ] [DecidableEq K] {f:κ→K} (hf:∀ {a b},f a=f b ↔ a=b) {ι:List Addr} {H:Hp} {k:κ}:∀ {l:List (κ × D)} {kvs:List (K × V)},DGs f ι H l kvs→(kvs.any fun kv=>decide (kv.1=f k))=l.any fun p=>decide (p.1=k)
  | [],_,h=>by cases (show _=[] from h);rfl
  | p::l,_,h=>by
    obtain ⟨v,r,rfl,h1,h2⟩:=h
    rw [List.any_cons,List.any_cons,qbV hf h2]
    simp [hf]
theorem qaD {κ:Type} [DecidableEq κ] {k:κ} {d:D} (hd:refsLt 0 d=true):∀ {l:List (κ × D)},refsLts 0 (l.map (·.2))=true→refsLts 0 ((putT k d l).map (·.2))=true:=by
  intro l hl
  refine qU fun x hx=>?_
  obtain ⟨p,hp,rfl⟩:=List.mem_map.mp hx
  unfold putT at hp
  split at hp
  · obtain ⟨q,hq,e⟩:=List.mem_map.mp hp
    have hq2:=qv hl (List.mem_map.mpr ⟨q,hq,rfl⟩)
    split at e
    · subst e;exact hd
    · subst e;exact hq2
  · rcases List.mem_append.mp hp with z | z
    · exact qv hl (List.mem_map.mpr ⟨p,z,rfl⟩)
    · rw [List.mem_singleton.mp z];exact hd
theorem qbW {κ K:Type} [DecidableEq κ] [DecidableEq K] {f:κ→K} (hf:∀ {a b},f a=f b ↔ a=b) {ι:List Addr} {H:Hp} {k:κ} {d:D} {v:V} (hd:Den ι H d v) {l:List (κ × D)} {kvs:List (K × V)} (h:DGs f ι H l kvs):DGs f ι H (putT k d l) (putK kvs (f k) v):=by
  unfold putT putK
  rw [qbV hf h]
  split
  · rename_i hz
    clear hz
    induction l generalizing kvs with
    | nil=>cases (show _=[] from h);exact (rfl:_=_)
    | cons p l ih =>
      obtain ⟨w,r,rfl,h1,h2⟩:=h
      rw [List.map_cons,List.map_cons]
      by_cases z:p.1=k
      · rw [if_pos z,if_pos (by simp [z])]
        exact ⟨v,_,rfl,hd,ih h2⟩
      · rw [if_neg z,if_neg (by simpa [hf] using z)]
        exact ⟨w,_,rfl,h1,ih h2⟩
  · rename_i hz
    clear hz
    induction l generalizing kvs with
    | nil=>cases (show _=[] from h);exact ⟨v,[],rfl,hd,rfl⟩
    | cons p l ih =>
      obtain ⟨w,r,rfl,h1,h2⟩:=h
      exact ⟨w,_,rfl,h1,ih h2⟩
theorem qfD (hu:X.A.units+1<cLine):IxR X (fun x y H Q=>∃ a v,x=.ref a∧DGet H a y (some v)∧Q v H):=by
  intro value slice pins s σ H x y v u Q I rx ry h hs
  obtain ⟨a,z,rfl,g,q⟩:=h
  cases rx
  have hT:=qay I g
  unfold subscriptTail
  refine wpAny_bind ?_
  rw [getitemInPython_of_ne hT.not_modules]
  refine wpAny_bind (wpAny_specialOf hT PySem.F.slot_dict_getitem.lookup ?_)
  have fin:wpAny (model X.prog X.w) X.A (subscripted slice false (.ref a) u) (fun r s₃=>wpAny (model X.prog X.w) X.A (letTemporaryGo value (.ref a) r >>= fun _=>pure r) (EP X pins σ Q) X.xe s₃) X.xe s:=by
    rw [hs]
    exact wpAny_operating (qcM hu I g ry fun w' s3 I3 rw'=>wpAny_bind (wpAny_letTemporaryGo (wpAny_pure ⟨z,H,I3,rw',q⟩)))
  first
    | exact wpAny_pure (wpAny_bind fin)
    | exact wpAny_bind fin
theorem qiB {a b:Expr} {ma mb:En→Sr→Res D} (hu:X.A.units+1<cLine) (ha:PE X a (T ma)) (hb:PE X b (T mb)) (hs:PlainIx b) :
    PE X (.Subscript a b pos) (T fun ρ S=>(ma ρ S).bind fun x S1=>(mb ρ S1).bind fun y S2=>ofO (idxD S2 x y) S2) :=
  PEimp (qim (qfo.or (qha.or (qfD hu))) ha hb hs) fun σ H Q hw=>by
    refine TG.b1 hw fun ι S ρ a b H1 er st ra p=>Pst.tg p er st fun a2 S2 ι2 H2 b2 s2 er2 st2 ra2 p2=>?_
    obtain ⟨d,e,q⟩:=Pst.ofO p2 st2
    unfold idxD at e
    split at e
    · rename_i k
      cases (show b2=_ from ra2)
      cases z:seqOf S2 a with
      | none=>rw [z] at e;cases e
      | some l =>
        rw [z] at e
        obtain ⟨p,xs,rfl,hs,dl⟩:=zv st2 z (Den.mono s2 a ra)
        obtain ⟨v,e1,e2⟩:=qfC dl e
        have fin:=q v ι2 H2 (Stp.refl _ _) st2 e2
        rcases hs with hs | hs
        · exact .inl ⟨p,xs,k,v,rfl,rfl,.inl hs,e1,fin⟩
        · exact .inr (.inl ⟨p,xs,k,v,rfl,rfl,.inl (.inl hs),e1,fin⟩)
    · rename_i ks
      split at e
      · rename_i n
        split at e
        · rename_i l hl
          cases z:intsOf ks with
          | none=>rw [z] at e;cases e
          | some k =>
            rw [z] at e
            cases intsOf_eq z
            obtain ⟨p,hp,hn⟩:=Den.mono s2 _ ra
            subst hp
            obtain ⟨_,kvs,h1,h2⟩:=st2.obj n p _ hn hl
            obtain ⟨v,e1,e2⟩:=qaC qaB h2 e
            obtain ⟨b,xs,rfl,_,hb,db⟩:=ra2
            cases dens_ints db
            refine .inr (.inr ⟨p,v,rfl,?_,q v ι2 H2 (Stp.refl _ _) st2 e2⟩)
            rw [← e1]
            exact DGet.t h1 (by rw [qbU];exact hb)
        · cases e
      · cases e
    · cases e
end
end R
namespace R
open PySem PySem.Spec L2 SeqAt
open PyProof.Rows hiding St
section
variable {X:Cx} {pos:Pos}
theorem qhn {ι:List Addr} {H:Hp} {S:Sr} {K:PySem.W.Frag} (st:Sto ι H S) (t:Ty):∀ {d:D} {v:V} {b:Bool},isiD S t d=some b→Den ι H d v→∃ ty,TyOf K H v ty∧PySem.W.kitOne K ty (.type t.nm)=some b
  | .non,v,b,h,hd=>by
    cases (show v=_ from hd);cases h
    exact ⟨_,.non,by cases t <;> (first | rfl | decide +kernel)⟩
  | .bl c,v,b,h,hd=>by
    cases (show v=_ from hd)
    cases t <;> cases h <;> exact ⟨_,.bl c,by first | rfl | decide +kernel⟩
  | .int c,v,b,h,hd=>by
    cases (show v=_ from hd)
    cases t <;> cases h <;> exact ⟨_,.int c,by first | rfl | decide +kernel⟩
  | .str c,v,b,h,hd=>by
    cases (show v=_ from hd)
    cases t <;> cases h <;> exact ⟨_,.str c,by first | rfl | decide +kernel⟩
  | .tup l,v,b,h,hd=>by
    obtain ⟨a,xs,rfl,_,ha,_⟩:=hd
    cases t <;> cases h <;> exact ⟨_,.tup ha,by first | rfl | decide +kernel⟩
  | .lst l,v,b,h,hd=>by
    obtain ⟨a,xs,rfl,_,ha,_⟩:=hd
    rcases ha with ha | ⟨o,ha⟩
    · cases t <;> cases h <;> exact ⟨_,.lst ha,by first | rfl | decide +kernel⟩
    · cases t <;> cases h <;> exact ⟨_,.frz ha,by first | rfl | decide +kernel⟩
  | .exc C,v,b,h,hd=>by cases h
  | .emp,v,b,h,hd=>by
    obtain ⟨a,rfl,_,ha⟩:=hd
    cases t <;> cases h <;> exact ⟨_,.dK ha,by first | rfl | decide +kernel⟩
  | .ref n,v,b,h,hd=>by
    obtain ⟨a,rfl,ha⟩:=hd
    simp only [isiD] at h
    split at h
    · rename_i l hl
      obtain ⟨_,xs,h1,_⟩:=st.obj n a _ ha hl
      cases t <;> cases h <;> exact ⟨_,.lst h1,by first | rfl | decide +kernel⟩
    · rename_i l hl
      obtain ⟨_,xs,h1,_⟩:=st.obj n a _ ha hl
      cases t <;> cases h <;> exact ⟨_,.dT h1,by first | rfl | decide +kernel⟩
    · rename_i l hl
      obtain ⟨_,xs,h1,_⟩:=st.obj n a _ ha hl
      cases t <;> cases h <;> exact ⟨_,.dK h1,by first | rfl | decide +kernel⟩
    · cases h
theorem qdL:CallR X (.builtin "isinstance") (fun xs H Q=>∃ x n ty b,xs=[x,.ty n]∧TyOf X.K H x ty∧PySem.W.kitOne X.K ty (.type n)=some b∧Q (.bl b) H):=by
  intro pins s σ H xs us Q I r h
  obtain ⟨x,n,ty,b,rfl,h1,h2,q⟩:=h
  obtain ⟨u,w',rfl,r1,r2⟩:=vals2 r
  cases r2
  exact qcH I r1 h1 h2 fun tk=>⟨.bl b,H,I.tok _,rfl,q⟩
theorem qfE (t:Ty):bootBuiltins (Str.ofString t.nm)=some (.type t.nm):=by cases t <;> decide +kernel
theorem jg:bootBuiltins "isinstance"=some (.builtin "isinstance"):=by decide +kernel
theorem qiC {a:Expr} {p p':Pos} {m:En→Sr→Res D} {t:Ty} (hg:Gl X "isinstance") (hm:X.mg "isinstance"=none) (hgt:Gl X (Str.ofString t.nm)) (hmt:X.mg (Str.ofString t.nm)=none)
    (ha:PE X a (T m)) (he:starEach [a,.Name (Str.ofString t.nm) p'] X.env=(false,eval a X.env)::starEach [.Name (Str.ofString t.nm) p'] X.env)
    (he2:starEach [.Name (Str.ofString t.nm) p'] X.env=(false,eval (.Name (Str.ofString t.nm) p') X.env)::starEach [] X.env) (hpl:(backTo pos (starEach [.Name (Str.ofString t.nm) p'] X.env)).any (·.1)=false) :
    PE X (.Call (.Name "isinstance" p) [a,.Name (Str.ofString t.nm) p'] [] pos) (T fun ρ S=>(m ρ S).bind fun x S1=>ofO ((isiD S1 t x).map .bl) S1):=by
  have hn:(Str.ofString t.nm)≠"__name__":=by cases t <;> decide
  have hd:((Str.ofString t.nm) == ("__debug__":Str))=false:=by cases t <;> decide
  have ht:PE X (.Name (Str.ofString t.nm) p') (fun _ H Q=>Q (.ty t.nm) H):=qbJ (v:=.ty t.nm) hgt hmt (qfE t) rfl hn hd
  refine PEimp (yu qdL hg hm jg (qX ha (qX ht yi he2) he) (by decide) (by decide) he hpl) fun σ H Q hw=>?_
  refine TG.b1 hw fun ι S ρ a b H1 er st ra p=>?_
  obtain ⟨d,e,q⟩:=Pst.ofO p st
  cases z:isiD S t a with
  | none=>rw [z] at e;cases e
  | some c =>
    rw [z] at e;cases e
    obtain ⟨ty,h1,h2⟩:=qhn (K:=X.K) st t z ra
    exact ⟨b,t.nm,ty,c,rfl,h1,h2,q _ ι H1 (Stp.refl _ _) st rfl⟩
theorem Dens.cut {ι:List Addr} {H:Hp} {l:List D} {xs:List V} (h:Dens ι H l xs) (lo hi:Option Int):Dens ι H (cutD l lo hi) (cutV xs lo hi):=by
  unfold cutD cutV
  rw [h.length]
  exact (h.drop _).take _
theorem qdM {e:Expr} {m:En→Sr→Res D} (h:PE X e (T m)):PO X (some e) (TOp fun ρ S=>(m ρ S).bind fun x S1=>match x with | .int i=>.ok (some i) S1 | _=>.no):=by
  intro pins s σ H Q I hw
  refine qfm h pins s σ H Q I (TG.b1 hw fun ι S ρ a b H1 er st ra p=>?_)
  cases a with
  | int i =>
    cases (show b=_ from ra)
    exact ⟨i,rfl,p _ ι H1 (Stp.refl _ _) st rfl⟩
  | _=>exact p.elim
theorem qdN:PO X none (TOp fun _ S=>.ok none S):=by
  intro pins s σ H Q I hw
  obtain ⟨ι,S,ρ,er,st,p⟩:=hw
  exact qfl pins s σ H Q I (p _ ι H (Stp.refl _ _) st rfl)
theorem qiD {e:Expr} {lo hi:Option Expr} {p2:Pos} {m:En→Sr→Res D} {ml mh:En→Sr→Res (Option Int)} (he:PE X e (T m)) (hl:PO X lo (TOp ml)) (hh:PO X hi (TOp mh)) :
    PE X (.Subscript e (.Slice lo hi none p2) pos) (T fun ρ S=>(m ρ S).bind fun x S1=>(ml ρ S1).bind fun l S2=>(mh ρ S2).bind fun h S3=>ofO (slcD S3 x l h) S3) :=
  PEimp (qdw (qfp.or (qg8.or qfr)) he hl hh) fun σ H Q hw=>by
    refine TG.b1 hw fun ι S ρ a b H1 er st ra p=>Pst.tg p er st fun l1 S2 ι2 H2 l2 s2 er2 st2 ra2 p2=>Pst.tg p2 er2 st2 fun h1 S3 ι3 H3 h2 s3 er3 st3 ra3 p3=>?_
    cases (show l1=l2 from ra2)
    cases (show h1=h2 from ra3)
    obtain ⟨d,e,q⟩:=Pst.ofO p3 st3
    have ra':=Den.mono (s2.trans s3) a ra
    unfold slcD at e
    split at e
    · rename_i l
      cases e
      obtain ⟨c,xs,rfl,nc,hc,dl⟩:=ra'
      by_cases hn:HT.sIx xs.length 0 l1=0∧HT.sIx xs.length xs.length h1=xs.length
      · refine .inr (.inr ⟨c,xs,rfl,.inl (.inl hc),hn,?_⟩)
        have e2:cutD l l1 h1=l:=by
          unfold cutD
          rw [dl.length,hn.1,hn.2,List.drop_zero,Nat.sub_zero,← dl.length,List.take_length]
        rw [e2] at q
        exact q _ ι3 H3 (Stp.refl _ _) st3 ⟨c,xs,rfl,nc,hc,dl⟩
      · exact .inr (.inl ⟨c,xs,rfl,.inl (.inl hc),hn,zd st3 (dl.cut _ _) q⟩)
    · cases z:lstOf S3 a with
      | none=>rw [z] at e;cases e
      | some l =>
        rw [z] at e;cases e
        obtain ⟨c,xs,rfl,hc,dl⟩:=qD st3 z ra'
        exact .inl ⟨c,xs,rfl,.inl hc,q9 (m:=false) st3 (dl.cut _ _) q⟩
noncomputable def Gn (g:List D→Sr→Res D):List V→Hp→VK→Prop:=fun xs H Q=>∃ ι S ds,Sto ι H S∧Dens ι H ds xs∧Pst Den (g ds S) ι H Q
theorem qfF {x:Str} {id:String} {e:Expr} {es:List Expr} {p:Pos} {g:List D→Sr→Res D} {ms:En→Sr→Res (List D)} (hc:CallR X (.builtin id) (Gn g)) (hg:Gl X x) (hm:X.mg x=none) (hv:bootBuiltins x=some (.builtin id)) (ha:PA X (e::es) (TL ms))
    (hn:x≠"__name__") (hdb:(x == ("__debug__":Str))=false) (he:starEach (e::es) X.env=(false,eval e X.env)::starEach es X.env) (hpl:(backTo pos (starEach es X.env)).any (·.1)=false) :
    PE X (.Call (.Name x p) (e::es) [] pos) (T fun ρ S=>(ms ρ S).bind fun l S1=>g l S1) :=
  PEimp (yu hc hg hm hv ha hn hdb he hpl) fun σ H Q hw=>TG.b1 hw fun ι S ρ a b H1 er st ra p=>⟨ι,S,a,st,ra,p⟩
theorem qdO {x:Str} {ty:String} {e:Expr} {es:List Expr} {p:Pos} {g:List D→Sr→Res D} {ms:En→Sr→Res (List D)} (hc:CallR X (.type ty) (Gn g)) (hg:Gl X x) (hm:X.mg x=none) (hv:bootBuiltins x=some (.type ty)) (ha:PA X (e::es) (TL ms))
    (hn:x≠"__name__") (hdb:(x == ("__debug__":Str))=false) (he:starEach (e::es) X.env=(false,eval e X.env)::starEach es X.env) (hpl:(backTo pos (starEach es X.env)).any (·.1)=false) :
    PE X (.Call (.Name x p) (e::es) [] pos) (T fun ρ S=>(ms ρ S).bind fun l S1=>g l S1) :=
  PEimp (qcJ hc hg hm hv ha hn hdb he hpl) fun σ H Q hw=>TG.b1 hw fun ι S ρ a b H1 er st ra p=>⟨ι,S,a,st,ra,p⟩
noncomputable def SpD (np:Nat) (g:List D→Sr→Res D):Sp:=fun vs H Q _=>vs.length=np∧∃ ι S ds,Sto ι H S∧Dens ι H ds vs∧Pst Den (g ds S) ι H Q
theorem qho {CX:CXT} {k:Nat} {f:Addr} {fd:FuncData} {ps:List Str} {g:List D→Sr→Res D} {x:Str} {p:Pos} {e:Expr} {es:List Expr} {ms:En→Sr→Res (List D)} {E:XK} (F:FnOk X.prog X.w X.K X.mg X.base CX k f fd ps (SpD ps.length g)) (hr:Room k X.A)
    (hg:Gl X x) (hm:X.mg x=some (.ref f)) (hk:PySem.W.keepIn X.K (.ref f)=true) (hb:Binds X.K fd ps []) (hx:Passes CX X E) (ha:PA X (e::es) (TL ms))
    (hlen:∀ ρ S l S',ms ρ S=.ok l S'→l.length=ps.length)
    (hdb:(x == ("__debug__":Str))=false) (he:starEach (e::es) X.env=(false,eval e X.env)::starEach es X.env) (hpl:(backTo pos (starEach es X.env)).any (·.1)=false) :
    PE X (.Call (.Name x p) (e::es) [] pos) (T fun ρ S=>(ms ρ S).bind fun l S1=>g l S1) :=
  PEimp (qbM F hr hg hm hk hb (dvs:=[]) .nil hx ha hdb he hpl) fun σ H Q hw=>by
    obtain ⟨ι,S,ρ,er,st,p⟩:=hw
    refine ⟨ι,S,ρ,er,st,?_⟩
    dsimp only at p ⊢
    cases z:ms ρ S with
    | no=>rw [z] at p;exact p
    | err=>rw [z] at p;exact p
    | ok l S1 =>
      rw [z] at p
      intro xs ι1 H1 s1 st1 hl
      refine ⟨?_,ι1,S1,l,st1,by simpa using hl,Pst.from p s1⟩
      rw [List.append_nil,← hl.length]
      exact hlen ρ S l S1 z
end
end R
namespace R
open PySem PySem.Spec L2 SeqAt
open PyProof.Rows hiding St
section
variable {X:Cx} {pos:Pos}
theorem dens1 {ι:List Addr} {H:Hp} {d:D} {xs:List V} (h:Dens ι H [d] xs):∃ x,xs=[x]∧Den ι H d x:=by
  obtain ⟨x,r,rfl,h1,h2⟩:=h
  cases (show r=[] from h2)
  exact ⟨x,rfl,h1⟩
theorem dens2 {ι:List Addr} {H:Hp} {d e:D} {xs:List V} (h:Dens ι H [d,e] xs):∃ x y,xs=[x,y]∧Den ι H d x∧Den ι H e y:=by
  obtain ⟨x,r,rfl,h1,h2⟩:=h
  obtain ⟨y,rfl,h3⟩:=dens1 h2
  exact ⟨x,y,rfl,h1,h3⟩
theorem CallRimp {f:Value} {r r':List V→Hp→VK→Prop} (h:CallR X f r) (k:∀ xs H Q,r' xs H Q→r xs H Q):CallR X f r':=fun pins s σ H xs us Q I rv q=>h pins s σ H xs us Q I rv (k xs H Q q)
theorem qbl {g:D→Sr→Res D} {ds:List D} {S:Sr} {ι:List Addr} {H:Hp} {Q:VK} (p:Pst Den (one g ds S) ι H Q):∃ d,ds=[d]∧Pst Den (g d S) ι H Q:=by
  cases ds with
  | nil=>exact (show False from p).elim
  | cons d r =>
    cases r with
    | nil=>exact ⟨d,rfl,p⟩
    | cons e r=>exact (show False from p).elim
theorem qhp {g:D→D→Sr→Res D} {ds:List D} {S:Sr} {ι:List Addr} {H:Hp} {Q:VK} (p:Pst Den (two g ds S) ι H Q):∃ d e,ds=[d,e]∧Pst Den (g d e S) ι H Q:=by
  cases ds with
  | nil=>exact (show False from p).elim
  | cons d r =>
    cases r with
    | nil=>exact (show False from p).elim
    | cons e r =>
      cases r with
      | nil=>exact ⟨d,e,rfl,p⟩
      | cons f r=>exact (show False from p).elim
theorem qbX {f:Value} {g:D→Sr→Res D} {r:V→Hp→VK→Prop} (h:CallR X f (fun xs H Q=>∃ x,xs=[x]∧r x H Q)) (k:∀ ι S d x H Q,Sto ι H S→Den ι H d x→Pst Den (g d S) ι H Q→r x H Q):CallR X f (Gn (one g)):=CallRimp h fun xs H Q hw=>by
  obtain ⟨ι,S,ds,st,hd,p⟩:=hw
  obtain ⟨d,rfl,p⟩:=qbl p
  · skip
    obtain ⟨x,rfl,hx⟩:=dens1 hd
    exact ⟨x,rfl,k ι S d x H Q st hx p⟩
theorem qdP {f:Value} {g:D→D→Sr→Res D} {r:V→V→Hp→VK→Prop} (h:CallR X f (fun xs H Q=>∃ x y,xs=[x,y]∧r x y H Q)) (k:∀ ι S d e x y H Q,Sto ι H S→Den ι H d x→Den ι H e y→Pst Den (g d e S) ι H Q→r x y H Q):CallR X f (Gn (two g)):=CallRimp h fun xs H Q hw=>by
  obtain ⟨ι,S,ds,st,hd,p⟩:=hw
  obtain ⟨d,e,rfl,p⟩:=qhp p
  · skip
    obtain ⟨x,y,rfl,hx,hy⟩:=dens2 hd
    exact ⟨x,y,rfl,k ι S d e x y H Q st hx hy p⟩
theorem qiE:CallR X (.builtin "len") (Gn (one bLen)) :=
  qbX (r:=fun x H Q=>(∃ n,LenV X.K x H n∧Q (.int n) H)∨∃ a kvs,x=V.ref a∧H a=some (.dT kvs)∧Q (.int kvs.length) H) (CallRimp (qds.or qcR) fun xs H Q ⟨x,e,h⟩=>h.elim (fun ⟨n,h1,h2⟩=>.inl ⟨x,n,e,h1,h2⟩) fun ⟨a,kvs,h1,h2,h3⟩=>.inr ⟨a,kvs,by rw [e,h1],h2,h3⟩) fun ι S d x H Q st hx p=>by
    obtain ⟨r,e,q⟩:=Pst.ofO p st
    cases z:lenD S d with
    | none=>rw [z] at e;cases e
    | some n =>
      rw [z] at e;cases e
      have fin:=q _ ι H (Stp.refl _ _) st rfl
      cases d with
      | str y =>
        cases (show x=_ from hx)
        simp only [lenD] at z
        split at z
        · cases z;exact .inl ⟨_,⟨by assumption,rfl⟩,fin⟩
        · cases z
      | tup l =>
        cases z
        obtain ⟨a,xs,rfl,_,ha,dl⟩:=hx
        exact .inl ⟨_,.inr ⟨xs,.inl (.inl ha),dl.length⟩,fin⟩
      | lst l =>
        cases z
        obtain ⟨a,xs,rfl,_,ha,dl⟩:=hx
        exact .inl ⟨_,.inl ⟨xs,.inl ha,dl.length⟩,fin⟩
      | ref k =>
        simp only [lenD] at z
        split at z
        · rename_i l hl
          cases z
          obtain ⟨a,rfl,ha⟩:=hx
          obtain ⟨_,xs,h1,dl⟩:=st.obj k a _ ha hl
          exact .inl ⟨_,.inl ⟨xs,.inl (.inl h1),dl.length⟩,fin⟩
        · rename_i l hl
          cases z
          obtain ⟨a,rfl,ha⟩:=hx
          obtain ⟨_,kvs,h1,dl⟩:=st.obj k a _ ha hl
          exact .inr ⟨a,kvs,rfl,h1,by rw [← dl.length];exact fin⟩
        · cases z
        · cases z
      | _=>cases z
theorem qiF:CallR X (.builtin "abs") (Gn (one bAbs)) :=
  qbX (r:=fun x H Q=>∃ i,x=.int i∧Q (.int (if i<0 then -i else i)) H) (CallRimp qdr fun xs H Q ⟨x,e,i,h1,h2⟩=>⟨i,by rw [e,h1],h2⟩) fun ι S d x H Q st hx p=>by
    cases d with
    | int i=>cases (show x=_ from hx);exact ⟨i,rfl,p _ ι H (Stp.refl _ _) st rfl⟩
    | _=>exact p.elim
theorem qiG (hc:X.calm=true):CallR X (.builtin "min") (Gn (two bMin)) :=
  qdP (r:=fun x y H Q=>∃ i j,x=.int i∧y=.int j∧Q (.int (if j<i then j else i)) H) (CallRimp (qcF hc) fun xs H Q ⟨x,y,e,i,j,h1,h2,h3⟩=>⟨i,j,by rw [e,h1,h2],h3⟩) fun ι S d e x y H Q st hx hy p=>by
    cases d with
    | int i =>
      cases e with
      | int j=>cases (show x=_ from hx);cases (show y=_ from hy);exact ⟨i,j,rfl,rfl,p _ ι H (Stp.refl _ _) st rfl⟩
      | _=>exact p.elim
    | _=>exact p.elim
theorem qiH (hc:X.calm=true):CallR X (.builtin "max") (Gn (two bMax)) :=
  qdP (r:=fun x y H Q=>∃ i j,x=.int i∧y=.int j∧Q (.int (if j>i then j else i)) H) (CallRimp (qcE hc) fun xs H Q ⟨x,y,e,i,j,h1,h2,h3⟩=>⟨i,j,by rw [e,h1,h2],h3⟩) fun ι S d e x y H Q st hx hy p=>by
    cases d with
    | int i =>
      cases e with
      | int j=>cases (show x=_ from hx);cases (show y=_ from hy);exact ⟨i,j,rfl,rfl,p _ ι H (Stp.refl _ _) st rfl⟩
      | _=>exact p.elim
    | _=>exact p.elim
theorem j4:CallR X (.builtin "divmod") (fun xs H Q=>∃ x y,xs=[x,y]∧∃ i j,x=.int i∧y=.int j∧divOk i j=true∧∀ p,H p=none→Q (.ref p) (upd H p (.tup [.int (i.fdiv j),.int (i.fmod j)]))):=by
  intro pins s σ H xs us Q I r h
  obtain ⟨x,y,rfl,i,j,rfl,rfl,hd,q⟩:=h
  obtain ⟨u,w',rfl,⟨t,rfl⟩,⟨t',rfl⟩⟩:=vals2 r
  simp only [divOk,Bool.and_eq_true,Bool.not_eq_true',beq_eq_false_iff_ne] at hd
  refine divmod_int hd.1 ?_ (.inl hd.2)
  have hn:H s.heap.objs.size=none:=I.hok.fresh (Nat.le_refl _)
  refine ⟨.ref s.heap.objs.size,_,?_,rfl,q _ hn⟩
  refine I.laid (fun b o e=>Heap.get?_push_of_some _ e) (Nat.le_refl _) ⟨by simp only [List.length_cons,List.length_nil];rw [sizeLine_eq];decide,[.int (i.fdiv j) s.toks,.int (i.fmod j) (s.toks+1)],.cons ⟨_,rfl⟩ (.cons ⟨_,rfl⟩ .nil),?_⟩
  exact ⟨⟨_,Heap.get?_push_size s.heap rfl,rfl,0,rfl⟩,zW _ _⟩
theorem qdQ:CallR X (.builtin "divmod") (Gn (two bDivmod)) :=
  qdP j4 fun ι S d e x y H Q st hx hy p=>by
    cases d with
    | int i =>
      cases e with
      | int j =>
        cases (show x=_ from hx);cases (show y=_ from hy)
        simp only [bDivmod] at p
        split at p
        · rename_i hd
          exact ⟨i,j,rfl,rfl,hd,zd (l:=[.int (i.fdiv j),.int (i.fmod j)]) (xs:=[.int (i.fdiv j),.int (i.fmod j)]) st ⟨_,_,rfl,rfl,_,_,rfl,rfl,rfl⟩ p⟩
        · exact p.elim
      | _=>exact p.elim
    | _=>exact p.elim
theorem qhq (m:Bool):CallR X (.type "list") (Gn (one (bList m))) :=
  qbX (r:=fun x H Q=>∃ p ys,x=.ref p∧(SqL X.K H p ys∨SqT X.K H p ys)∧∀ l,H l=none→Q (.ref l) (upd H l (.lst ys))) (CallRimp jZ fun xs H Q ⟨x,e,p,ys,h1,h2,h3⟩=>⟨p,ys,by rw [e,h1],h2,h3⟩) fun ι S d x H Q st hx p=>by
    unfold bList at p
    split at p
    · rename_i l hl
      obtain ⟨a,xs,rfl,hs,dl⟩:=zv st hl hx
      exact ⟨a,xs,rfl,hs.elim (fun z=>.inl (.inl z)) (fun z=>.inr (.inl (.inl z))),q9 st dl p⟩
    · exact p.elim
theorem qfG:CallR X (.type "tuple") (Gn (one bTuple)) :=
  qbX (r:=fun x H Q=>∃ p ys,x=.ref p∧((SqL X.K H p ys∧∀ l,H l=none→Q (.ref l) (upd H l (.tup ys)))∨(SqT X.K H p ys∧Q (.ref p) H))) (CallRimp jy fun xs H Q ⟨x,e,p,ys,h1,h2⟩=>⟨p,ys,by rw [e,h1],h2⟩) fun ι S d x H Q st hx p=>by
    obtain ⟨r,e,q⟩:=Pst.ofO p st
    cases z:seqOf S d with
    | none=>rw [z] at e;cases e
    | some l =>
      rw [z] at e;cases e
      cases d with
      | tup l' =>
        cases z
        obtain ⟨a,xs,rfl,hn,ha,dl⟩:=hx
        exact ⟨a,xs,rfl,.inr ⟨.inl (.inl ha),q _ ι H (Stp.refl _ _) st ⟨a,xs,rfl,hn,ha,dl⟩⟩⟩
      | lst l' =>
        cases z
        obtain ⟨a,xs,rfl,hn,ha,dl⟩:=hx
        exact ⟨a,xs,rfl,.inl ⟨.inl ha,zd st dl q⟩⟩
      | ref k =>
        obtain ⟨a,xs,rfl,hs,dl⟩:=qD st (show lstOf S (.ref k)=some l from z) hx
        exact ⟨a,xs,rfl,.inl ⟨.inl hs,zd st dl q⟩⟩
      | _=>cases z
theorem qdR {pins:List (Addr × Obj)} {σ:St} {H:Hp} {s:Shared} {A:Around} {a:Addr} {xs:List V} (I:Inv X pins σ H s) (hh:A.handled=none) (hs:Rd H a (.lst xs)∨H a=some (.tup xs)) :
    ∃ its:List Value,Vals xs its∧∀ (E:Value→Shared→Prop) (Q:Value→Shared→Prop),
      (∀ (It:Addr) (fp wr:List Addr) (St':Nat→Heap→Prop) (s₂:Shared),Walks X.prog X.w A It fp wr its.length (fun i v=>its[i]?=some v) St'→St' 0 s₂.heap→(∀ b∈fp,b<s₂.heap.objs.size) →
        (∀ h' tk,(∀ b o,b ∉ wr→s₂.heap.get? b=some o→h'.get? b=some o)→Inv X pins σ H { s₂ with heap:=h',toks:=tk })→Q (.ref It) s₂) →
      wpAny (model X.prog X.w) A (pyIter (.ref a)) Q E s:=by
  have base:∀ (o:Obj) (h':Heap) (tk:Nat),(∀ b x,b ∉ [s.heap.objs.size]→(s.heap.push o).get? b=some x→h'.get? b=some x)→Inv X pins σ H { s with heap:=h',toks:=tk }:=fun o h' tk hk =>
    I.kept fun b u e=>hk b u (fun hm=>by rw [List.mem_singleton.mp hm] at e;exact Nat.lt_irrefl _ (Heap.lt_size e)) (Heap.get?_push_of_some _ e)
  rcases hs with hs | hs
  · obtain ⟨its,rv,hl,hz⟩:=yJ I hs
    refine ⟨its,rv,fun E Q k=>wpAny_pyIter_list hl ?_⟩
    have hlt:a<s.heap.objs.size:=by obtain ⟨_,e,_⟩:=hl;exact Heap.lt_size e
    have W:=Walks.list (prog:=X.prog) (w:=X.w) (A:=A) hh s.heap.objs.size a (Nat.ne_of_lt hlt) its.toArray
    refine k s.heap.objs.size [s.heap.objs.size,a] [s.heap.objs.size] (fun i h=>h.IsListIter s.heap.objs.size a i∧h.IsList a its.toArray) _ (by simpa using W) ⟨⟨_,Heap.get?_push_size _ rfl,rfl,rfl⟩,hl.push _⟩ (fun b hb=>?_) (fun h' tk hk=>base _ h' tk hk)
    simp only [List.mem_cons,List.not_mem_nil,or_false] at hb
    have e1:=Heap.size_push s.heap
    rcases hb with rfl | rfl
    · exact Nat.lt_of_lt_of_eq (Nat.lt_succ_self _) (e1 _).symm
    · exact Nat.lt_of_lt_of_eq (Nat.lt_succ_of_lt hlt) (e1 _).symm
  · obtain ⟨its,rv,hl,hz⟩:=je I hs
    refine ⟨its,rv,fun E Q k=>wpAny_pyIter_tuple hl ?_⟩
    have hlt:a<s.heap.objs.size:=by obtain ⟨_,e,_⟩:=hl;exact Heap.lt_size e
    have W:=Walks.tuple (prog:=X.prog) (w:=X.w) (A:=A) hh s.heap.objs.size a (Nat.ne_of_lt hlt) its.toArray
    refine k s.heap.objs.size [s.heap.objs.size,a] [s.heap.objs.size] (fun i h=>h.IsTupleIter s.heap.objs.size a i∧h.IsTuple a its.toArray) _ (by simpa using W) ⟨⟨_,Heap.get?_push_size _ rfl,rfl,rfl⟩,hl.push _⟩ (fun b hb=>?_) (fun h' tk hk=>base _ h' tk hk)
    simp only [List.mem_cons,List.not_mem_nil,or_false] at hb
    have e1:=Heap.size_push s.heap
    rcases hb with rfl | rfl
    · exact Nat.lt_of_lt_of_eq (Nat.lt_succ_self _) (e1 _).symm
    · exact Nat.lt_of_lt_of_eq (Nat.lt_succ_of_lt hlt) (e1 _).symm
theorem yU (ns:List Int):∀ n,n≤ns.length→preSum (fun i=>(ns[i]?).getD 0) n=(ns.take n).sum
  | 0,_=>by simp [preSum]
  | n+1,h=>by
    rw [preSum,yU ns n (by lia),List.take_succ,List.sum_append]
    simp [List.getElem?_eq_getElem (show n<ns.length by lia)]
theorem qiI (hc:X.calm=true):CallR X (.builtin "sum") (Gn (one bSum)):=by
  intro pins s σ H xs us Q I r h
  obtain ⟨ι,S,ds,st,hd,p⟩:=h
  obtain ⟨d,rfl,p⟩:=qbl p
  · skip
    obtain ⟨x,rfl,hx⟩:=dens1 hd
    obtain ⟨u,rfl,ru⟩:=vals1 r
    obtain ⟨r0,e,q⟩:=Pst.ofO p st
    cases z:seqOf S d with
    | none=>rw [z] at e;cases e
    | some l =>
      rw [z] at e
      cases z2:intsOf l with
      | none=>rw [Option.bind_some,z2] at e;cases e
      | some ns =>
        rw [Option.bind_some,z2] at e;cases e
        obtain ⟨a,xs,rfl,hs,dl⟩:=zv st z hx
        cases ru
        obtain ⟨its,rv,w⟩:=qdR (A:=X.A.in1) I (I.ok.hd hc) hs
        cases intsOf_eq z2
        cases dens_ints dl
        have ia:IntsAre its ns:=qO rv
        have el:its.length=ns.length:=ia.length
        refine call_sum_walkG (w _ _ fun It fp wr St' s₂ W h0 hf hI=>⟨It,fp,wr,_,_,St',fun i=>(ns[i]?).getD 0,rfl,W,h0,hf,fun i v hv=>?_,fun h' tk t' hk=>?_⟩)
        · obtain ⟨j,rx⟩:=Vals.at rv (List.getElem?_eq_some_iff.mp hv).1
          obtain ⟨e1,e2⟩:=rx
          rw [(List.getElem?_eq_some_iff.mp hv).2] at e2
          rw [List.getElem?_map] at e1
          cases z3:ns[i]? with
          | none=>rw [z3] at e1;cases e1
          | some n =>
            rw [z3] at e1;cases e1
            obtain ⟨t,rfl⟩:=e2
            exact ⟨t,by simp [z3]⟩
        · rw [el,yU ns _ (Nat.le_refl _),List.take_length]
          exact ⟨.int ns.sum,H,hI h' tk hk,⟨_,rfl⟩,q _ ι H (Stp.refl _ _) st rfl⟩
end
end R
namespace R
open PySem PySem.Spec L2 SeqAt
open PyProof.Rows hiding St
section
variable {X:Cx} {pos:Pos}
theorem qbY {ι:List Addr} {H:Hp} {S:Sr} {n:Nat} {a:Addr} {l:List D} {xs:List V} (st:Sto ι H S) (ha:ι[n]?=some a) (f:refsLts n l=true) (dl:Dens ι H l xs):Stp ι H ι (upd H a (.lst xs))∧Sto ι (upd H a (.lst xs)) (S.set n (.lst l)):=by
  have g:=Stp.put (H:=H) (List.mem_of_getElem? ha) (.lst xs)
  exact ⟨g,st.put ha ⟨⟨n,ha,f⟩,xs,qm,Dens.mono g l dl⟩⟩
theorem qiJ {ι:List Addr} {S:Sr} {x y:D} {v u:V} {H:Hp} {Q:VK} (st:Sto ι H S) (hx:Den ι H x v) (hy:Den ι H y u) (p:Pst Den (appD S x y) ι H Q):rAppend v [u] H Q:=by
  unfold appD at p
  split at p
  · rename_i n
    split at p
    · rename_i l hl
      split at p
      · rename_i hz
        obtain ⟨a,rfl,ha⟩:=hx
        obtain ⟨⟨n',en,hf⟩,xs,h1,dl⟩:=st.obj n a _ ha hl
        obtain rfl:n'=n:=zh st.nd en ha
        obtain ⟨g,st'⟩:=qbY st ha (by rw [qQ,hf];simp [refsLts,q8 _ hz.2]) (dl.snoc hy)
        exact ⟨a,xs,u,rfl,rfl,h1,by rw [← dl.length];exact hz.1,p .non ι _ g st' rfl⟩
      · exact p.elim
    · exact p.elim
  · exact p.elim
noncomputable def TGt (m:D→En→Sr→Res En):L2.TG:=fun v σ H Q=>∃ ι S ρ d,EnR ι H ρ σ∧Sto ι H S∧Den ι H d v∧Pst EnR (m d ρ S) ι H Q
noncomputable def TGts (m:List D→En→Sr→Res En):TGs:=fun vs σ H Q=>∃ ι S ρ ds,EnR ι H ρ σ∧Sto ι H S∧Dens ι H ds vs∧Pst EnR (m ds ρ S) ι H Q
theorem PGimp {tg:Expr} {t t':L2.TG} (h:PG X tg t) (k:∀ v σ H Q,t' v σ H Q→t v σ H Q):PG X tg t':=fun pins s σ H v u Q I r hw=>h pins s σ H v u Q I r (k v σ H Q hw)
theorem PGsimp {ts:List Expr} {t t':TGs} (h:PGs X ts t) (k:∀ v σ H Q,t' v σ H Q→t v σ H Q):PGs X ts t':=fun pins s σ H v u Q I r hw=>h pins s σ H v u Q I r (k v σ H Q hw)
theorem qiK {i:Nat} {tg:Expr} (h:PG X tg (gName i)):PG X tg (TGt fun d ρ S=>.ok (ρ.set i (some d)) S):=PGimp h fun v σ H Q hw=>by
  obtain ⟨ι,S,ρ,d,er,st,hd,p⟩:=hw
  exact p _ ι H (Stp.refl _ _) st (er.set hd)
theorem qiL:PGs X [] (TGts fun l ρ S=>match l with | []=>.ok ρ S | _=>.no):=PGsimp qff fun vs σ H Q hw=>by
  obtain ⟨ι,S,ρ,ds,er,st,hd,p⟩:=hw
  cases ds with
  | nil=>exact ⟨hd,p _ ι H (Stp.refl _ _) st er⟩
  | cons=>exact p.elim
theorem qhr {e:Expr} {es:List Expr} {m:D→En→Sr→Res En} {ms:List D→En→Sr→Res En} (h1:PG X e (TGt m)) (h2:PGs X es (TGts ms)) (hs:(assignEach (e::es) X.env).map (·.2)=assign e X.env::(assignEach es X.env).map (·.2)) :
    PGs X (e::es) (TGts fun l ρ S=>match l with | d::r=>(m d ρ S).bind fun ρ1 S1=>ms r ρ1 S1 | []=>.no):=PGsimp (qdk h1 h2 hs) fun vs σ H Q hw=>by
  obtain ⟨ι,S,ρ,ds,er,st,hd,p⟩:=hw
  cases ds with
  | nil=>exact p.elim
  | cons d r =>
    obtain ⟨v,vr,rfl,hv,hr⟩:=hd
    refine ⟨v,vr,rfl,ι,S,ρ,d,er,st,hv,Pst.bind p fun ρ1 S1 ι1 H1 σ1 s1 st1 er1 p1=>?_⟩
    exact ⟨ι1,S1,ρ1,r,er1,st1,Dens.mono s1 r hr,p1⟩
theorem qiM {es:List Expr} {k n:Nat} {ms:List D→En→Sr→Res En} (hc:X.calm=true) (h:PGs X es (TGts ms)) (hn:(assignEach es X.env).length=n) (hst:(assignEach es X.env).findIdx? (·.1)=none)
    (hl:∀ l ρ S ρ' S',ms l ρ S=.ok ρ' S'→l.length=n):PG X (.Tuple es k pos) (TGt fun d ρ S=>match d with | .tup l=>ms l ρ S | _=>.no):=PGimp (qgX hc h hn hst) fun v σ H Q hw=>by
  obtain ⟨ι,S,ρ,d,er,st,hd,p⟩:=hw
  cases d with
  | tup l =>
    obtain ⟨a,xs,rfl,_,ha,dl⟩:=hd
    refine ⟨a,xs,rfl,.inl (.inl ha),?_,ι,S,ρ,l,er,st,dl,p⟩
    rw [← dl.length]
    cases z:ms l ρ S with
    | ok ρ' S'=>exact hl l ρ S ρ' S' z
    | no=>simp only [z] at p;exact p.elim
    | err=>simp only [z] at p;exact p.elim
  | _=>exact p.elim
theorem qaE (hu:X.A.units+1<cLine):PSet X (fun o i v H Q=>∃ a H',o=.ref a∧DPut H a i v H'∧Q H'):=by
  intro pins s σ H o i v ov iv u Q I ro ri rv h
  obtain ⟨a,H',rfl,g,q⟩:=h
  cases ro
  exact qcN hu I g ri rv fun s4 I4=>⟨H',I4,q⟩
theorem qdS (hu:X.A.units+1<cLine) {pins:List (Addr × Obj)} {s:Shared} {σ:St} {H:Hp} {a:Addr} {i v:V} {ov iv u:Value} {Q:Hp→Prop} {ι:List Addr} {S S':Sr} {n:Nat} {y d:D} (I:Inv X pins σ H s) (ro:RelV (.ref a) ov) (ri:RelV i iv) (rv:RelV v u)
    (st:Sto ι H S) (ha:ι[n]?=some a) (hfr:refsLt 0 d=true) (hy:Den ι H y i) (hd:Den ι H d v)
    (e:putN S n y d=some S') (q:∀ ι' H',Stp ι H ι' H'→Sto ι' H' S'→Q H'):wpAny (model X.prog X.w) X.A (setItem ov iv u) (fun _ s'=>∃ H',Inv X pins σ H' s'∧Q H') X.xe s:=by
  unfold putN at e
  split at e
  · rename_i l hl
    obtain ⟨⟨n',en,hf⟩,xs,h1,dl⟩:=st.obj n a _ ha hl
    obtain rfl:n'=n:=zh st.nd en ha
    split at e
    · rename_i k
      cases (show i=_ from hy)
      cases z:ixN l.length k with
      | none=>rw [z] at e;cases e
      | some j =>
        rw [z] at e;cases e
        obtain ⟨g,st'⟩:=qbY st ha (qU fun x m=>(List.mem_or_eq_of_mem_set m).elim (fun z=>qv hf z) fun z=>z ▸ q8 _ hfr) (dl.set hd j)
        exact qdx pins s σ H _ _ v ov iv u Q I ro ri rv ⟨a,xs,k,j,rfl,rfl,h1,by rw [← dl.length];exact z,q ι _ g st'⟩
    · cases e
  · rename_i l hl
    obtain ⟨hf,kvs,h1,dl⟩:=st.obj n a _ ha hl
    split at e
    · rename_i ks
      cases z:intsOf ks with
      | none=>rw [z] at e;cases e
      | some k =>
        rw [z,Option.bind_some] at e
        split at e
        · rename_i hlt
          cases e
          cases intsOf_eq z
          obtain ⟨b,ys,rfl,_,hb,db⟩:=hy
          cases dens_ints db
          have g:=Stp.put (H:=H) (List.mem_of_getElem? ha) (.dT (putK kvs (keyT k) v))
          refine qaE hu pins s σ H _ _ v ov iv u Q I ro ri rv ⟨a,_,rfl,DPut.t (k:=keyT k) h1 (by rw [qbU];exact hb) ?_,q ι _ g (st.put ha ⟨qaD hfr hf,_,qm,qbW qaB (Den.mono g d hd) (DGs.mono g dl)⟩)⟩
          have e2:kvs.length<1000:=by rw [← dl.length];exact hlt
          exact Nat.lt_of_lt_of_le e2 (by rw [sizeLine_eq];decide)
        · cases e
    · cases e
  · rename_i l hl
    obtain ⟨hf,kvs,h1,dl⟩:=st.obj n a _ ha hl
    cases z:keyD y with
    | none=>rw [z] at e;cases e
    | some k =>
      rw [z,Option.bind_some] at e
      split at e
      · rename_i hlt
        cases e
        cases key_den z hy
        have g:=Stp.put (H:=H) (List.mem_of_getElem? ha) (.dK (putK kvs k v))
        refine qaE hu pins s σ H _ _ v ov iv u Q I ro ri rv ⟨a,_,rfl,DPut.k (k:=k) h1 ?_,q ι _ g (st.put ha ⟨qaD hfr hf,_,qm,qbW (f:=id) Iff.rfl (Den.mono g d hd) (DGs.mono g dl)⟩)⟩
        have e2:kvs.length<1000:=by rw [← dl.length];exact hlt
        exact Nat.lt_of_lt_of_le e2 (by rw [sizeLine_eq];decide)
      · cases e
  · cases e
theorem qfH (hu:X.A.units+1<cLine):PSet X (fun o i v H Q=>∃ ι S x y d S',Sto ι H S∧Den ι H x o∧Den ι H y i∧Den ι H d v∧putE S x y d=some S'∧∀ ι' H',Stp ι H ι' H'→Sto ι' H' S'→Q H'):=by
  intro pins s σ H o i v ov iv u Q I ro ri rv h
  obtain ⟨ι,S,x,y,d,S',st,hx,hy,hd,e,q⟩:=h
  unfold putE at e
  by_cases hfr:refsLt 0 d=true
  · rw [if_pos hfr] at e
    split at e
    · rename_i n
      obtain ⟨a,rfl,ha⟩:=hx
      exact qdS hu I ro ri rv st ha hfr hy hd e q
    · cases e
  · rw [if_neg hfr] at e;cases e
theorem qiN {o i:Expr} {mo mi:En→Sr→Res D} (hu:X.A.units+1<cLine) (ho:PE X o (T mo)) (hi:PE X i (T mi))
    (ha:∀ v,assign (.Subscript o i pos) X.env v=(do
      let ov ← holding [v] (eval o X.env)
      let iv ← holding [v,ov] (eval i X.env)
      standAt pos
      holding [v,ov,iv] (setItem ov iv v)
      release [v,ov,iv] [])) :
    PG X (.Subscript o i pos) (TGt fun d ρ S=>(mo ρ S).bind fun x S1=>(mi ρ S1).bind fun y S2=>match putE S2 x y d with | some S3=>.ok ρ S3 | none=>.no):=PGimp (qgY ho hi (qfH hu) ha) fun v σ H Q hw=>by
  obtain ⟨ι,S,ρ,d,er,st,hd,p⟩:=hw
  refine Pst.tg (ρ:=ρ) p er st fun x S1 ι1 H1 vx s1 er1 st1 rx p1=>Pst.tg (ρ:=ρ) p1 er1 st1 fun y S2 ι2 H2 vy s2 er2 st2 ry p2=>?_
  cases z:putE S2 x y d with
  | none=>rw [z] at p2;exact p2.elim
  | some S3 =>
    rw [z] at p2
    exact ⟨ι2,S2,x,y,d,S3,st2,Den.mono s2 x rx,ry,Den.mono (s1.trans s2) d hd,z,fun ι' H' g st'=>p2 σ ι' H' g st' (er2.mono g)⟩
noncomputable def FlOk (f:Fl) (ι:List Addr) (H:Hp) (D:Ends):Prop:=match f with
  | .nx ρ=>∀ σ,EnR ι H ρ σ→D.nx σ H
  | .bk ρ=>∀ σ,EnR ι H ρ σ→D.bk σ H
  | .ct ρ=>∀ σ,EnR ι H ρ σ→D.ct σ H
  | .rt d=>∀ v,Den ι H d v→D.rt v H
noncomputable def PsF (r:Res Fl) (ι:List Addr) (H:Hp) (D:Ends):Prop:=match r with
  | .ok f S'=>∀ ι' H',Stp ι H ι' H'→Sto ι' H' S'→FlOk f ι' H' D
  | .err _ _=>False
  | .no=>False
theorem PsF.from {r:Res Fl} {ι ι':List Addr} {H H':Hp} {D:Ends} (h:PsF r ι H D) (s:Stp ι H ι' H'):PsF r ι' H' D:=by
  cases r with
  | ok f S=>exact fun ι2 H2 t st=>h ι2 H2 (s.trans t) st
  | err=>exact h
  | no=>exact h
theorem PsF.bind {α β:Type} {R:List Addr→Hp→α→β→Prop} {r:Res α} {f:α→Sr→Res Fl} {ι:List Addr} {H:Hp} {D:Ends} {K:β→Hp→Prop}
    (h:PsF (r.bind f) ι H D) (k:∀ a S' ι' H' b,Stp ι H ι' H'→Sto ι' H' S'→R ι' H' a b→PsF (f a S') ι' H' D→K b H'):Pst R r ι H K:=by
  cases r with
  | ok a S=>exact fun b ι2 H2 t st q=>k a S ι2 H2 b t st q (PsF.from h t)
  | err=>exact h
  | no=>exact h
noncomputable def TSm (m:En→Sr→Res Fl):TS:=fun D σ H=>∃ ι S ρ,EnR ι H ρ σ∧Sto ι H S∧PsF (m ρ S) ι H D
theorem PSimp {st:Stmt} {t t':TS} (h:PS X st t) (k:∀ D σ H,t' D σ H→t D σ H):PS X st t':=fun pins s σ H D I hw=>h pins s σ H D I (k D σ H hw)
theorem PSsimp {st:List Stmt} {t t':TS} (h:PSs X st t) (k:∀ D σ H,t' D σ H→t D σ H):PSs X st t':=fun pins s σ H D I hw=>h pins s σ H D I (k D σ H hw)
theorem qiO:PSs X [] (TSm fun ρ S=>.ok (.nx ρ) S):=PSsimp qbK fun D σ H hw=>by
  obtain ⟨ι,S,ρ,er,st,p⟩:=hw
  exact p ι H (Stp.refl _ _) st σ er
theorem qhs {st:Stmt} {rest:List Stmt} {m ms:En→Sr→Res Fl} (h1:PS X st (TSm m)) (h2:PSs X rest (TSm ms)) :
    PSs X (st::rest) (TSm fun ρ S=>(m ρ S).bind fun f S1=>match f with | .nx ρ1=>ms ρ1 S1 | f=>.ok f S1):=PSsimp (qau h1 h2) fun D σ H hw=>by
  obtain ⟨ι,S,ρ,er,st,p⟩:=hw
  refine ⟨ι,S,ρ,er,st,?_⟩
  dsimp only at p
  cases z:m ρ S with
  | no=>rw [z] at p;exact p
  | err=>rw [z] at p;exact p
  | ok f S1 =>
    rw [z] at p
    intro ι1 H1 s1 st1
    cases f with
    | nx ρ1=>exact fun σ1 er1=>⟨ι1,S1,ρ1,er1,st1,PsF.from p s1⟩
    | bk ρ1=>exact fun σ1 er1=>p ι1 H1 s1 st1 σ1 er1
    | ct ρ1=>exact fun σ1 er1=>p ι1 H1 s1 st1 σ1 er1
    | rt d=>exact fun v hv=>p ι1 H1 s1 st1 v hv
theorem qht {e:Expr} {m:En→Sr→Res D} (he:PE X e (T m)) (hs:swapsWith e none pos.line X.env=pure false):PS X (.Expr e pos) (TSm fun ρ S=>(m ρ S).bind fun _ S1=>.ok (.nx ρ) S1):=PSimp (qbL he hs) fun D σ H hw=>by
  obtain ⟨ι,S,ρ,er,st,p⟩:=hw
  exact ⟨ι,S,ρ,er,st,PsF.bind p fun a S1 ι1 H1 b s1 st1 ra p1=>p1 ι1 H1 (Stp.refl _ _) st1 σ (er.mono s1)⟩
theorem qiP {e:Expr} {m:En→Sr→Res D} (he:PE X e (T m)):PS X (.Return (some e) pos) (TSm fun ρ S=>(m ρ S).bind fun d S1=>.ok (.rt d) S1):=PSimp (qgW he) fun D σ H hw=>by
  obtain ⟨ι,S,ρ,er,st,p⟩:=hw
  exact ⟨ι,S,ρ,er,st,PsF.bind p fun a S1 ι1 H1 b s1 st1 ra p1=>p1 ι1 H1 (Stp.refl _ _) st1 b ra⟩
theorem s_if {c:Expr} {a b:List Stmt} {mc:En→Sr→Res Bool} {ma mb:En→Sr→Res Fl} (hc:PT X c (TB mc)) (ha:PSs X a (TSm ma)) (hb:PSs X b (TSm mb)) :
    PS X (.If c a b pos) (TSm fun ρ S=>(mc ρ S).bind fun t S1=>if t then ma ρ S1 else mb ρ S1):=PSimp (qgm hc ha hb) fun D σ H hw=>by
  obtain ⟨ι,S,ρ,er,st,p⟩:=hw
  refine ⟨ι,S,ρ,er,st,PsF.bind p fun a S1 ι1 H1 b s1 st1 ra p1=>?_⟩
  cases (show a=b from ra)
  cases a with
  | true=>rw [if_pos rfl];exact ⟨ι1,S1,ρ,er.mono s1,st1,p1⟩
  | false=>rw [if_neg (by decide)];exact ⟨ι1,S1,ρ,er.mono s1,st1,p1⟩
theorem qgr {tg e:Expr} {m:En→Sr→Res D} {g:D→En→Sr→Res En} (h:PS X (.Assign [tg] e pos) (tAsg (T m) (TGt g))) :
    PS X (.Assign [tg] e pos) (TSm fun ρ S=>(m ρ S).bind fun d S1=>(g d ρ S1).bind fun ρ1 S2=>.ok (.nx ρ1) S2):=PSimp h fun D σ H hw=>by
  obtain ⟨ι,S,ρ,er,st,p⟩:=hw
  refine ⟨ι,S,ρ,er,st,PsF.bind p fun d S1 ι1 H1 v s1 st1 rd p1=>?_⟩
  refine ⟨ι1,S1,ρ,d,er.mono s1,st1,rd,PsF.bind p1 fun ρ1 S2 ι2 H2 σ2 s2 st2 er2 p2=>?_⟩
  exact p2 ι2 H2 (Stp.refl _ _) st2 σ2 er2
theorem qfI {c:Expr} {body:List Stmt} {mc:En→Sr→Res Bool} {mb:En→Sr→Res Fl} {N:Nat} (hp:PassesOwn (model X.prog X.w) X.A X.env X.xe) (hc:PT X c (TB mc)) (hb:PSs X body (TSm mb)) :
    PS X (.While c body [] pos) (TSm fun ρ S=>whileLoop mc mb N ρ S):=PSimp (qdm hp hc hb) fun D σ H hw=>by
  obtain ⟨ι,S,ρ,er,st,p⟩:=hw
  refine ⟨fun m σ H=>∃ ι S ρ,EnR ι H ρ σ∧Sto ι H S∧PsF (whileLoop mc mb m ρ S) ι H D,⟨N,ι,S,ρ,er,st,p⟩,?_⟩
  rintro m σ H ⟨ι,S,ρ,er,st,p⟩
  cases m with
  | zero=>exact p.elim
  | succ m =>
    refine ⟨ι,S,ρ,er,st,PsF.bind (show PsF ((mc ρ S).bind _) ι H D from p) fun a S1 ι1 H1 b s1 st1 ra p1=>?_⟩
    cases (show a=b from ra)
    cases a with
    | false=>exact p1 ι1 H1 (Stp.refl _ _) st1 σ (er.mono s1)
    | true =>
      refine ⟨fun σ' H'=>∃ ι S ρ,EnR ι H' ρ σ'∧Sto ι H' S∧PsF (whileLoop mc mb m ρ S) ι H' D,fun σ' H' h'=>⟨m,Nat.lt_succ_self _,h'⟩,ι1,S1,ρ,er.mono s1,st1,?_⟩
      cases z:mb ρ S1 with
      | no=>simp only [z,if_true] at p1;exact p1
      | err=>simp only [z,if_true] at p1;exact p1
      | ok f S2 =>
        simp only [z,if_true,Res.bind_ok] at p1
        intro ι2 H2 s2 st2
        cases f with
        | nx ρ1=>exact fun σ1 er1=>⟨ι2,S2,ρ1,er1,st2,PsF.from p1 s2⟩
        | ct ρ1=>exact fun σ1 er1=>⟨ι2,S2,ρ1,er1,st2,PsF.from p1 s2⟩
        | bk ρ1=>exact fun σ1 er1=>p1 ι2 H2 s2 st2 σ1 er1
        | rt d=>exact fun v hv=>p1 ι2 H2 s2 st2 v hv
end
end R
namespace R
open PySem PySem.Spec L2 SeqAt
open PyProof.Rows hiding St
structure ItOk (ι:List Addr) (H:Hp) (J:It) (ds:List D):Prop where
  go:∀ (i:Nat) (d:D) (ι2:List Addr) (H2:Hp),Stp ι H ι2 H2→ds[i]?=some d→J.go i H2∧∀ x H3,J.yld i H2 x H3→Stp ι2 H2 ι2 H3∧∀ S,Sto ι2 H2 S→Sto ι2 H3 S∧Den ι2 H3 d x
  stop:∀ (ι2:List Addr) (H2:Hp),Stp ι H ι2 H2→J.stop ds.length H2
theorem qhu {ι:List Addr} {H:Hp} {K:PySem.W.Frag} {a:Addr} {xs:List V} {ds:List D} (n:a ∉ ι) (h:Rd H a (.lst xs)) (dl:Dens ι H ds xs):ItOk ι H (Itl K a) ds where
  go:=fun i d ι2 H2 s e=>by
    obtain ⟨x,e1,e2⟩:=(Dens.mono s ds dl).get e
    obtain ⟨r2,n2⟩:=s.rd h n
    refine ⟨⟨xs,x,.inl r2,e1⟩,fun y H3 hy=>?_⟩
    obtain ⟨rfl,hy⟩:=hy
    have:=hy xs (.inl r2)
    rw [e1] at this;cases this
    exact ⟨Stp.refl _ _,fun _ z=>⟨z,e2⟩⟩
  stop:=fun ι2 H2 s=>⟨xs,.inl (s.rd h n).1,Nat.le_of_eq dl.length.symm⟩
theorem qhv {ι:List Addr} {H:Hp} {K:PySem.W.Frag} {a:Addr} {xs:List V} {ds:List D} (n:a ∉ ι) (h:H a=some (.tup xs)) (dl:Dens ι H ds xs):ItOk ι H (Itt K a) ds where
  go:=fun i d ι2 H2 s e=>by
    obtain ⟨x,e1,e2⟩:=(Dens.mono s ds dl).get e
    have r2:=s.keep _ _ h n trivial
    refine ⟨⟨xs,x,.inl (.inl r2),e1⟩,fun y H3 hy=>?_⟩
    obtain ⟨rfl,hy⟩:=hy
    have:=hy xs (.inl (.inl r2))
    rw [e1] at this;cases this
    exact ⟨Stp.refl _ _,fun _ z=>⟨z,e2⟩⟩
  stop:=fun ι2 H2 s=>⟨xs,.inl (.inl (s.keep _ _ h n trivial)),Nat.le_of_eq dl.length.symm⟩
structure ItG (ι:List Addr) (H:Hp) (J:It) (ds:List D) (gd:Sr→Prop):Prop where
  go:∀ (i:Nat) (d:D) (ι2:List Addr) (H2:Hp) (S2:Sr),Stp ι H ι2 H2→Sto ι2 H2 S2→gd S2→ds[i]?=some d→J.go i H2∧∀ x H3,J.yld i H2 x H3→Stp ι2 H2 ι2 H3∧∀ S,Sto ι2 H2 S→Sto ι2 H3 S∧Den ι2 H3 d x
  stop:∀ (ι2:List Addr) (H2:Hp) (S2:Sr),Stp ι H ι2 H2→Sto ι2 H2 S2→gd S2→J.stop ds.length H2
theorem ItG.mono {ι ι':List Addr} {H H':Hp} {J:It} {ds:List D} {gd:Sr→Prop} (h:ItG ι H J ds gd) (s:Stp ι H ι' H'):ItG ι' H' J ds gd :=
  ⟨fun i d ι2 H2 S2 t st g e=>h.go i d ι2 H2 S2 (s.trans t) st g e,fun ι2 H2 S2 t st g=>h.stop ι2 H2 S2 (s.trans t) st g⟩
theorem ItOk.g {ι:List Addr} {H:Hp} {J:It} {ds:List D} (h:ItOk ι H J ds):ItG ι H J ds fun _=>True :=
  ⟨fun i d ι2 H2 _ t _ _ e=>h.go i d ι2 H2 t e,fun ι2 H2 _ t _ _=>h.stop ι2 H2 t⟩
noncomputable def TIg (m:En→Sr→Res (List D × (Sr→Prop))):TI:=fun σ H R=>∃ ι S ρ,EnR ι H ρ σ∧Sto ι H S∧match m ρ S with
  | .ok p S'=>∀ ι' H' J,Stp ι H ι' H'→Sto ι' H' S'→ItG ι' H' J p.1 p.2→R J H'
  | .err _ _=>False
  | .no=>False
noncomputable def TIt (m:En→Sr→Res (List D)):TI:=fun σ H R=>∃ ι S ρ,EnR ι H ρ σ∧Sto ι H S∧match m ρ S with
  | .ok ds S'=>∀ ι' H' J,Stp ι H ι' H'→Sto ι' H' S'→ItOk ι' H' J ds→R J H'
  | .err _ _=>False
  | .no=>False
section
variable {X:Cx} {pos:Pos} {tg:Expr}
theorem PIimp {iter:Expr} {t t':TI} (h:PI X tg iter t) (k:∀ σ H R,t' σ H R→t σ H R):PI X tg iter t':=fun pins s σ H R I hw=>h pins s σ H R I (k σ H R hw)
theorem qhw {l:Expr} {tl:TE} (hl:PE X l tl):PI X tg l (fun σ H R=>tl σ H fun x H1=>(∃ a,x=.ref a∧(∃ xs,SqL X.K H1 a xs)∧R (Itl X.K a) H1)∨(∃ a,x=.ref a∧(∃ xs,SqT X.K H1 a xs)∧R (Itt X.K a) H1)):=by
  intro pins s σ H R I h
  refine thn (hl pins s σ H _ I h) fun v s1 ⟨x,H1,I1,r1,q1⟩=>?_
  rcases q1 with ⟨a,e,⟨xs,hq⟩,q⟩ | ⟨a,e,⟨xs,hq⟩,q⟩
  · subst e
    cases r1
    obtain ⟨its,rv,p,hz⟩:=I1.list hq
    refine wpAny_pyIter_list p.isList ?_
    refine ⟨s1.heap.objs.size,[s1.heap.objs.size],_,_,H1,rfl,I1.kept (t':=s1.toks) fun b o e=>Heap.get?_push_of_some _ e,qcC a _,⟨_,Heap.get?_push_size _ rfl,rfl,rfl⟩,fun b hb=>?_,q⟩
    have e:b=s1.heap.objs.size:=by simpa using hb
    subst e
    exact I1.fpOk (Nat.le_refl _) (I1.hok.fresh (Nat.le_refl _))
  · subst e
    cases r1
    obtain ⟨its,rv,p,hz⟩:=I1.tuple hq
    refine wpAny_pyIter_tuple (show s1.heap.IsTuple a its.toArray from p) ?_
    refine ⟨s1.heap.objs.size,[s1.heap.objs.size],_,_,H1,rfl,I1.kept (t':=s1.toks) fun b o e=>Heap.get?_push_of_some _ e,qa7 a _,⟨_,Heap.get?_push_size _ rfl,rfl,rfl⟩,fun b hb=>?_,q⟩
    have e:b=s1.heap.objs.size:=by simpa using hb
    subst e
    exact I1.fpOk (Nat.le_refl _) (I1.hok.fresh (Nat.le_refl _))
noncomputable def mSeq (m:En→Sr→Res D):En→Sr→Res (List D):=fun ρ S=>(m ρ S).bind fun x S1=>match x with
  | .tup l=>.ok l S1
  | .lst l=>.ok l S1
  | _=>.no
theorem qiQ {e:Expr} {m:En→Sr→Res D} (h:PE X e (T m)):PI X tg e (TIt (mSeq m)):=PIimp (qhw h) fun σ H R hw=>by
  obtain ⟨ι,S,ρ,er,st,p⟩:=hw
  refine ⟨ι,S,ρ,er,st,?_⟩
  dsimp only [mSeq] at p
  cases z:m ρ S with
  | no=>rw [z] at p;exact p
  | err=>rw [z] at p;exact p
  | ok d S1 =>
    rw [z,Res.bind_ok] at p
    intro v ι1 H1 s1 st1 hv
    cases d with
    | tup l =>
      obtain ⟨a,xs,rfl,hn,ha,dl⟩:=hv
      exact .inr ⟨a,rfl,⟨xs,.inl (.inl ha)⟩,p ι1 H1 _ s1 st1 (qhv hn ha dl)⟩
    | lst l =>
      obtain ⟨a,xs,rfl,hn,ha,dl⟩:=hv
      exact .inl ⟨a,rfl,⟨xs,.inl ha⟩,p ι1 H1 _ s1 st1 (qhu hn ha dl)⟩
    | _=>exact p.elim
theorem qhx {iter:Expr} {body:List Stmt} {mi:En→Sr→Res (List D × (Sr→Prop))} {g:D→En→Sr→Res En} {mb:En→Sr→Res Fl} (hp:PassesOwn (model X.prog X.w) X.A X.env X.xe) (hc:X.calm=true) (hi:PI X tg iter (TIg mi)) (hg:PG X tg (TGt g)) (hb:PSs X body (TSm mb))
    (hs:∀ x,foldedSetIterable iter X.env x=pure x) :
    PS X (.For tg iter body [] pos) (TSm fun ρ S=>(mi ρ S).bind fun p S1=>endG p.2 (forLoop (fun d ρ S=>(grd p.2 S (g d ρ S)).bind fun ρ1 S1=>mb ρ1 S1) p.1 ρ S1)):=PSimp (qg1 hp hc hi hg hb hs) fun D σ H hw=>by
  obtain ⟨ι,S,ρ,er,st,p⟩:=hw
  refine ⟨ι,S,ρ,er,st,?_⟩
  dsimp only at p
  cases z:mi ρ S with
  | no=>rw [z] at p;exact p
  | err=>rw [z] at p;exact p
  | ok dg S1 =>
    obtain ⟨ds,gd⟩:=dg
    rw [z,Res.bind_ok] at p
    dsimp only at p
    intro ι1 H1 J s1 st1 ok1
    refine ⟨fun i m σ H=>m=ds.length-i∧i≤ds.length∧∃ ι S ρ,Stp ι1 H1 ι H∧EnR ι H ρ σ∧Sto ι H S∧PsF (endG gd (forLoop (fun d ρ S=>(grd gd S (g d ρ S)).bind fun ρ1 S1=>mb ρ1 S1) (ds.drop i) ρ S)) ι H D,
      ⟨_,rfl,Nat.zero_le _,ι1,S1,ρ,Stp.refl _ _,er.mono s1,st1,by simpa using PsF.from p s1⟩,?_⟩
    rintro i m σ H ⟨rfl,hi,ι,S,ρ,s2,er2,st2,p2⟩
    by_cases hlt:i<ds.length
    · have hd:ds[i]?=some ds[i]:=List.getElem?_eq_getElem hlt
      rw [List.drop_eq_getElem_cons hlt] at p2
      have hgd:gd S:=by
        apply Classical.byContradiction
        intro hn
        simp only [forLoop,zK hn,Res.bind_no,endG] at p2
        exact p2
      obtain ⟨go,yl⟩:=ok1.go i _ ι H S s2 st2 hgd hd
      refine .inr ⟨go,fun σ' H'=>∃ ι S ρ,Stp ι1 H1 ι H'∧EnR ι H' ρ σ'∧Sto ι H' S∧PsF (endG gd (forLoop (fun d ρ S=>(grd gd S (g d ρ S)).bind fun ρ1 S1=>mb ρ1 S1) (ds.drop (i+1)) ρ S)) ι H' D,fun σ' H' h'=>⟨_,by omega,rfl,hlt,h'⟩,fun x H3 hy=>?_⟩
      obtain ⟨s3,kd3⟩:=yl x H3 hy
      obtain ⟨k3,d3⟩:=kd3 S st2
      refine ⟨ι,S,ρ,ds[i],er2.mono s3,k3,d3,?_⟩
      have p3:=PsF.from p2 s3
      simp only [forLoop,zr hgd] at p3
      cases z2:g ds[i] ρ S with
      | no=>simp only [z2,endG,Res.bind_no] at p3;exact p3
      | err=>simp only [z2,endG,Res.bind_err] at p3;exact p3
      | ok ρ4 S4 =>
        rw [z2,Res.bind_ok] at p3
        intro σ4 ι4 H4 s4 st4 er4
        refine ⟨ι4,S4,ρ4,er4,st4,?_⟩
        have p4:=PsF.from p3 s4
        cases z3:mb ρ4 S4 with
        | no=>simp only [z3,endG,Res.bind_no] at p4;exact p4
        | err=>simp only [z3,endG,Res.bind_err] at p4;exact p4
        | ok f S5 =>
          rw [z3,Res.bind_ok] at p4
          intro ι5 H5 s5 st5
          have tot:=((s2.trans s3).trans s4).trans s5
          cases f with
          | nx ρ5=>exact fun σ5 er5=>⟨ι5,S5,ρ5,tot,er5,st5,PsF.from p4 s5⟩
          | ct ρ5=>exact fun σ5 er5=>⟨ι5,S5,ρ5,tot,er5,st5,PsF.from p4 s5⟩
          | bk ρ5 =>
            by_cases hg5:gd S5
            · simp only [endG,Res.bind_ok,zr hg5] at p4
              exact fun σ5 er5=>p4 ι5 H5 s5 st5 σ5 er5
            · simp only [endG,Res.bind_ok,zK hg5] at p4
              exact p4.elim
          | rt d=>exact fun v hv=>p4 ι5 H5 s5 st5 v hv
    · have e:i=ds.length:=by omega
      subst e
      rw [List.drop_of_length_le (Nat.le_refl _)] at p2
      have hgd:gd S:=by
        apply Classical.byContradiction
        intro hn
        simp only [forLoop,Res.bind_ok,endG,zK hn] at p2
        exact p2
      simp only [forLoop,Res.bind_ok,endG,zr hgd] at p2
      refine .inl ⟨ok1.stop ι H S s2 st2 hgd,?_⟩
      exact p2 ι H (Stp.refl _ _) st2 σ er2
theorem pi_g {iter:Expr} {mi:En→Sr→Res (List D)} (h:PI X tg iter (TIt mi)):PI X tg iter (TIg fun ρ S=>(mi ρ S).bind fun ds S1=>.ok (ds,fun _=>True) S1):=PIimp h fun σ H R hw=>by
  obtain ⟨ι,S,ρ,er,st,p⟩:=hw
  refine ⟨ι,S,ρ,er,st,?_⟩
  dsimp only at p
  cases z:mi ρ S with
  | no=>rw [z] at p;exact p
  | err=>rw [z] at p;exact p
  | ok ds S1 =>
    rw [z,Res.bind_ok] at p
    exact fun ι' H' J s1 st1 ok=>p ι' H' J s1 st1 ok.g
theorem qbm {α:Type} (S:Sr) (r:Res α):grd (fun _=>True) S r=r:=zr (gd:=fun _=>True) trivial r
theorem qfJ (r:Res Fl):endG (fun _=>True) r=r:=by
  cases r with
  | ok f S=>cases f <;> simp only [endG,Res.bind_ok,qbm]
  | err=>rfl
  | no=>rfl
theorem qiR {iter:Expr} {body:List Stmt} {mi:En→Sr→Res (List D)} {g:D→En→Sr→Res En} {mb:En→Sr→Res Fl} (hp:PassesOwn (model X.prog X.w) X.A X.env X.xe) (hc:X.calm=true) (hi:PI X tg iter (TIt mi)) (hg:PG X tg (TGt g)) (hb:PSs X body (TSm mb))
    (hs:∀ x,foldedSetIterable iter X.env x=pure x) :
    PS X (.For tg iter body [] pos) (TSm fun ρ S=>(mi ρ S).bind fun ds S1=>forLoop (fun d ρ S=>(g d ρ S).bind fun ρ1 S1=>mb ρ1 S1) ds ρ S1):=by
  have h:=qhx (pos:=pos) hp hc (pi_g hi) hg hb hs
  have e:(fun (ρ:En) (S:Sr)=>((mi ρ S).bind fun ds S1=>.ok (ds,fun _=>True) S1:Res (List D × (Sr→Prop))).bind fun p S1=>endG p.2 (forLoop (fun d ρ S=>(grd p.2 S (g d ρ S)).bind fun ρ1 S1=>mb ρ1 S1) p.1 ρ S1))=fun ρ S=>(mi ρ S).bind fun ds S1=>forLoop (fun d ρ S=>(g d ρ S).bind fun ρ1 S1=>mb ρ1 S1) ds ρ S1:=by
    funext ρ S
    cases mi ρ S with
    | ok ds S1 =>
      show endG (fun _=>True) (forLoop (fun d ρ S=>(grd (fun _=>True) S (g d ρ S)).bind fun ρ1 S1=>mb ρ1 S1) ds ρ S1)=_
      rw [qfJ]
      simp only [qbm]
    | err=>rfl
    | no=>rfl
  rw [← e];exact h
end
end R
namespace R
open PySem PySem.Spec L2 SeqAt
open PyProof.Rows hiding St
noncomputable def compCx (X:Cx) (sc:Scope) (cl:List (Str × Addr)) (C:Addr) (N':List Str) (fp:List Addr) (s:Shared) (H:Hp):Cx :=
  { X with N:=N',s₀:=s,H₀:=H,env:=compEnvC sc cl C X.env,outer:=X.stack,ex:=fp,fn:=fun _=>false,pn:=[],xe:=fun _ _=>False }
structure Clos (X:Cx) (sc:Scope) (cl:List (Str × Addr)):Prop where
  eq:closureFor sc X.env=pure cl
  sub:∀ x c,cl.lookup x=some c→X.env.cells.lookup x=some c
  all:∀ x,sc.names.lookup x=some .free→∃ c,cl.lookup x=some c
theorem j5 {env:Env}:∀ (names:List (Str × NameKind)) (acc:List (Str × Addr)),(∀ x∈names,x.2=.free→∃ c,env.cells.lookup x.1=some c) →
    ∃ cl,(forIn names acc fun (p:Str × NameKind) (cs:List (Str × Addr))=>(if p.2 == NameKind.free then (do let a ← cellOf env p.1;pure (ForInStep.yield ((p.1,a)::cs))) else pure (ForInStep.yield cs):Sem (ForInStep (List (Str × Addr)))))=pure cl ∧
      (∀ x c,cl.lookup x=some c→env.cells.lookup x=some c∨acc.lookup x=some c)∧(∀ x c,acc.lookup x=some c→(∃ c',cl.lookup x=some c'))∧(∀ x∈names,x.2=.free→∃ c,cl.lookup x.1=some c)
  | [],acc,_=>⟨acc,rfl,fun x c h=>.inr h,fun x c h=>⟨c,h⟩,fun x h=>by cases h⟩
  | (n,k)::r,acc,h=>by
    by_cases hk:k=.free
    · subst hk
      obtain ⟨c,hc⟩:=h (n,.free) List.mem_cons_self rfl
      obtain ⟨cl,e,i1,i2,i3⟩:=j5 r ((n,c)::acc) fun x hx=>h x (List.mem_cons_of_mem _ hx)
      have e1:cellOf env n=pure c:=by unfold cellOf;rw [hc]
      refine ⟨cl,?_,fun x c' hx=>?_,fun x c' hx=>?_,fun x hx hf=>?_⟩
      · rw [List.forIn_cons]
        simp only [beq_self_eq_true,if_true,e1,pure_bind]
        exact e
      · rcases i1 x c' hx with z | z
        · exact .inl z
        · rw [List.lookup_cons] at z
          cases q:x == n with
          | true=>rw [q] at z;cases z;rw [beq_iff_eq.mp q];exact .inl hc
          | false=>rw [q] at z;exact .inr z
      · cases q:x == n with
        | true=>exact i2 x c (by rw [List.lookup_cons,q])
        | false=>exact i2 x c' (by rw [List.lookup_cons,q];exact hx)
      · rcases List.mem_cons.mp hx with z | z
        · subst z;exact i2 n c (by simp [List.lookup_cons])
        · exact i3 x z hf
    · have hb:(k == NameKind.free)=false:=by simpa using hk
      obtain ⟨cl,e,i1,i2,i3⟩:=j5 r acc fun x hx=>h x (List.mem_cons_of_mem _ hx)
      refine ⟨cl,?_,i1,i2,fun x hx hf=>?_⟩
      · rw [List.forIn_cons]
        simp only [hb,Bool.false_eq_true,if_false,pure_bind]
        exact e
      · rcases List.mem_cons.mp hx with z | z
        · subst z;exact absurd hf hk
        · exact i3 x z hf
theorem qbZ {X:Cx} {sc:Scope} (h:∀ x∈sc.names,x.2=.free→∃ c,X.env.cells.lookup x.1=some c):∃ cl,Clos X sc cl:=by
  obtain ⟨cl,e,i1,i2,i3⟩:=j5 (env:=X.env) sc.names [] h
  refine ⟨cl,⟨?_,fun x c hx=>?_,fun x hx=>?_⟩⟩
  · unfold closureFor
    show (forIn sc.names [] _ >>= fun r=>pure r)=_
    rw [bind_pure]
    exact e
  · rcases i1 x c hx with z | z
    · exact z
    · cases z
  · exact i3 (x,.free) (PySem.mem_of_lookup hx) rfl
theorem zn {env:Env}:∀ {names:List (Str × NameKind)} {x:Str},(names.map fun (n,k)=>if (k == NameKind.free&&env.scope.kind == .function&&env.kindOf n == some .cell) then (n,NameKind.cell) else (n,k)).lookup x =
    (names.lookup x).map fun k=>if (k == NameKind.free&&env.scope.kind == .function&&env.kindOf x == some .cell) then NameKind.cell else k
  | [],_=>rfl
  | (n,k)::r,x=>by
    show List.lookup x ((if (k == NameKind.free&&env.scope.kind == .function&&env.kindOf n == some .cell)=true then (n,NameKind.cell) else (n,k))::_)=_
    have ih:=@zn env r x
    cases hx:x == n with
    | true =>
      have hxn:=beq_iff_eq.mp hx
      subst hxn
      by_cases hc:(k == NameKind.free&&env.scope.kind == .function&&env.kindOf x == some .cell)=true
      · rw [if_pos hc];simp only [List.lookup_cons,hx,Option.map_some,if_pos hc]
      · rw [if_neg hc];simp only [List.lookup_cons,hx,Option.map_some,if_neg hc]
    | false =>
      by_cases hc:(k == NameKind.free&&env.scope.kind == .function&&env.kindOf n == some .cell)=true
      · rw [if_pos hc];simp only [List.lookup_cons,hx];exact ih
      · rw [if_neg hc];simp only [List.lookup_cons,hx];exact ih
section
variable {X:Cx} {pos:Pos}
theorem qcT {sc:Scope} {cl:List (Str × Addr)} {N':List Str} {fp:List Addr} {pins:List (Addr × Obj)} {σ:St} {H:Hp} {s:Shared} (I:Inv X pins σ H s) (hk:sc.kind=.function) (hcell:∀ y∈sc.names,y.2≠.cell) (CL:Clos X sc cl)
    (hf:∀ b∈fp,FpOk X pins H b) (ho:∀ b∈fp,b<s.heap.objs.size):(compCx X sc cl s.heap.objs.size N' fp s H).Ok where
  mod:=I.ok.mod
  kind:=hk
  glob:=I.ok.glob
  blt:=I.ok.blt
  above:=Nat.le_refl _
  inj:=fun x y c h1 h2=>I.ok.inj x y c (CL.sub x c h1) (CL.sub y c h2)
  has:=fun x hx=>by
    have hx:(relabel sc X.env).names.lookup x=some .cell∨(relabel sc X.env).names.lookup x=some .free:=hx
    have e:(relabel sc X.env).names.lookup x=_:=zn (env:=X.env) (names:=sc.names) (x:=x)
    rw [e] at hx
    cases z:sc.names.lookup x with
    | none=>rw [z] at hx;simp at hx
    | some k =>
      cases k with
      | free=>exact CL.all x z
      | cell=>exact absurd rfl (hcell _ (PySem.mem_of_lookup z))
      | _=>rw [z] at hx;simp at hx
  cab:=fun x c h _=>by cases h
  hd:=I.ok.hd
  frames:=I.ok.frames
  stk:=.inl rfl
  exf:=fun b hb=>⟨Nat.ne_of_lt (ho b hb),fun x c h=>(hf b hb).2.2.2.2.1 x c (CL.sub x c h)⟩
  bs:=I.bs
  bsz:=Nat.le_trans I.ok.bsz I.sz
  noex:=fun b o e hb=>by
    rcases (hf b hb).2.2.2.1 with z | z
    · exact I.ok.noex b o e z
    · exact absurd (Nat.lt_of_lt_of_le (Heap.lt_size e) (Nat.le_trans I.ok.bsz z)) (Nat.lt_irrefl _)
  exfs:=fun b hb hs=>by
    rcases List.mem_cons.mp (I.stkSub b hs) with z | z
    · exact (hf b hb).2.1 z
    · exact (hf b hb).2.2.1 z
  funs:=I.stack
  frf:=I.stkFree
  tab:=fun c T z=>let ⟨ps,e⟩:=I.ok.tab c T z;let ⟨m,e'⟩:=I.base.tbls _ _ e;⟨_,e'⟩
structure Frs (X:Cx) (sc:Scope) (fr:List Nat) (xs ts:List Str):Prop where
  len:fr.length=xs.length
  at':∀ (i j:Nat) (x:Str),fr[i]?=some j→xs[i]?=some x→X.N[j]?=some x
  kd:∀ x∈xs,sc.names.lookup x=some .free∧(X.env.kindOf x=some .cell∨X.env.kindOf x=some .free)
  tl:∀ x∈ts,sc.names.lookup x=some .local
  nd:(xs++ts).Nodup
noncomputable def frS (σ:St) (fr:List Nat) (nt:Nat):St:=fr.map (fun i=>(σ[i]?).getD none)++List.replicate nt none
theorem qb0 {ι:List Addr} {H:Hp} {ρ:En} {σ:St} (e:EnR ι H ρ σ) (fr:List Nat) (nt:Nat):EnR ι H (frE ρ fr nt) (frS σ fr nt):=by
  refine ⟨by simp [frE,frS],fun i d h=>?_⟩
  unfold frE at h
  unfold frS
  by_cases hi:i<fr.length
  · rw [List.getElem?_append_left (by simpa using hi),List.getElem?_map,List.getElem?_eq_getElem hi] at h
    rw [List.getElem?_append_left (by simpa using hi),List.getElem?_map,List.getElem?_eq_getElem hi]
    simp only [Option.map_some,Option.some.injEq] at h ⊢
    cases z:ρ[fr[i]]? with
    | none=>rw [z] at h;cases h
    | some o =>
      rw [z] at h
      cases h
      obtain ⟨v,h1,h2⟩:=e.get _ d z
      exact ⟨v,by rw [h1];rfl,h2⟩
  · rw [List.getElem?_append_right (by simpa using hi),List.getElem?_replicate] at h
    split at h <;> cases h
theorem qbn {sc:Scope} {cl:List (Str × Addr)} {fp:List Addr} {pins:List (Addr × Obj)} {σ:St} {H:Hp} {s:Shared} {fr:List Nat} {xs ts:List Str} (I:Inv X pins σ H s) (hk:sc.kind=.function) (hcell:∀ y∈sc.names,y.2≠.cell) (CL:Clos X sc cl)
    (hf:∀ b∈fp,FpOk X pins H b) (ho:∀ b∈fp,b<s.heap.objs.size) (F:Frs X sc fr xs ts) {h':Heap} {m:Str→Option Value} {tk:Nat} (hn:h'.Ns s.heap.objs.size m) (hkeep:∀ b o,s.heap.get? b=some o→h'.get? b=some o) :
    Inv (compCx X sc cl s.heap.objs.size (xs++ts) fp s H) [] (frS σ fr ts.length) H { s with heap:=h',toks:=tk }:=by
  refine ⟨qcT I hk hcell CL hf ho,rfl,GK.refl I.bare.bare,Un.kept hkeep,⟨m,hn,fun i x v h1 h2 h3=>?_⟩,fun x c e=>?_,I.hok.fresh (Nat.le_refl _),fun x c e=>I.freeC x c (CL.sub x c e),fun p hp=>absurd (show p∈([]:List (Addr × Obj)) from hp) (by simp),I.hok.kept hkeep,?_⟩
  · have h1:(xs++ts)[i]?=some x:=h1
    have h2:(frS σ fr ts.length)[i]?=some (some v):=h2
    unfold frS at h2
    by_cases hi:i<fr.length
    · rw [List.getElem?_append_left (by simpa using hi),List.getElem?_map,List.getElem?_eq_getElem hi] at h2
      rw [List.getElem?_append_left (by rw [← F.len];exact hi)] at h1
      simp only [Option.map_some,Option.some.injEq] at h2
      have hN:=F.at' i fr[i] x (List.getElem?_eq_getElem hi) h1
      have hσ:σ[fr[i]]?=some (some v):=by
        cases z:σ[fr[i]]? with
        | none=>rw [z] at h2;cases h2
        | some o=>rw [z] at h2;simp at h2;rw [h2]
      obtain ⟨kf,ko⟩:=F.kd x (List.mem_of_getElem? h1)
      obtain ⟨m0,hn0,hl0⟩:=I.loc
      have hvis:Vis X.env.scope x:=by
        rcases ko with z | z
        · exact .inr (.inl z)
        · exact .inr (.inr z)
      obtain ⟨u,r,l⟩:=hl0 fr[i] x v hN hσ hvis
      refine ⟨u,r,.inr ?_⟩
      have hc:∃ c,X.env.cells.lookup x=some c∧s.heap.IsCell c (some u):=by
        rcases l with ⟨z,_⟩ | ⟨_,c,e1,e2⟩
        · rcases ko with q | q <;> (rw [z] at q;cases q)
        · exact ⟨c,e1,e2⟩
      obtain ⟨c,e1,o,e2,e3⟩:=hc
      obtain ⟨c',e4⟩:=CL.all x kf
      have e5:=CL.sub x c' e4
      rw [e1] at e5;cases e5
      refine ⟨?_,c,e4,o,hkeep _ _ e2,e3⟩
      have e:(relabel sc X.env).names.lookup x=_:=zn (env:=X.env) (names:=sc.names) (x:=x)
      show (relabel sc X.env).names.lookup x=some .cell∨(relabel sc X.env).names.lookup x=some .free
      rw [e,kf]
      simp only [Option.map_some]
      split
      · exact .inl rfl
      · exact .inr rfl
    · rw [List.getElem?_append_right (by simpa using hi),List.getElem?_replicate] at h2
      split at h2 <;> cases h2
  · obtain ⟨v,o,e1,e2⟩:=I.cell x c (CL.sub x c e)
    exact ⟨v,o,hkeep _ _ e1,e2⟩
  · show (frS σ fr ts.length).length=(xs++ts).length
    simp [frS,F.len]
theorem qbo {sc:Scope} {cl:List (Str × Addr)} {N':List Str} {fp:List Addr} {pins:List (Addr × Obj)} {σ σ':St} {H H':Hp} {s s':Shared} {h':Heap} (I:Inv X pins σ H s) (hf:∀ b∈fp,FpOk X pins H b)
    (J:Inv (compCx X sc cl s.heap.objs.size N' fp s H) [] σ' H' s') (hs:Heap.SameBut s.heap.objs.size s'.heap h'):Inv X pins σ H' { s' with heap:=h' }:=by
  have hC:H' s.heap.objs.size=none:=J.free
  have u:=J.base
  have kb:∀ b o,b≠s.heap.objs.size→s'.heap.get? b=some o→h'.get? b=some o:=fun b o hb e=>hs.extBut b o hb e
  have ne:∀ b o,s.heap.get? b=some o→b≠s.heap.objs.size:=fun b o e=>Nat.ne_of_lt (Heap.lt_size e)
  have un:Un (frs X.stack) fp H H' s.heap h':=⟨fun b o e n hb hx=>kb b o (ne b o e) (u.keep b o e n hb hx),fun b o e n hb hx=>by
      obtain ⟨sl,q⟩:=u.slot b o e n hb hx
      exact ⟨sl,kb b _ (ne b o e) q⟩,fun b o e n hx=>u.free b o e n hx,fun b o e hx=>by
      obtain ⟨o',q⟩:=u.there b o e hx
      exact ⟨o',kb b o' (ne b o e) q⟩,u.tups,u.frzs,u.tbls⟩
  have hok:HOk X.prog X.w H' h':=fun b o e=>(J.hok b o e).stay (fun c w hc q=>kb c w (fun z=>by
      subst z
      rcases hc with q' | q'
      · rw [← q',hC] at e;cases e
      · rw [hC] at q';cases q') q) (fun _ q=>q) fun _ _ q=>q
  exact I.call' (s':={ s' with heap:=h' }) (ch:=fp) J.os un hok J.bare fun b hb=>⟨(hf b hb).2.2.2.1,(hf b hb).2.1,(hf b hb).2.2.2.2.1,(hf b hb).2.2.2.2.2⟩
end
end R
namespace R
open PySem PySem.Spec L2 SeqAt
open PyProof.Rows hiding St
theorem thnF {α:Type} {t:Sem α} {Q Q':α→Shared→Prop} {M:Model} {A:Around} {E:Value→Shared→Prop} {s:Shared} (h:wpAny M A t Q (fun _ _=>False) s) (hQ:∀ a s,Q a s→Q' a s):wpAny M A t Q' E s:=wpAny_mono h hQ fun _ _ x=>x.elim
section
variable {X:Cx} {pos:Pos}
noncomputable def PTl (X:Cx) (ifs:List Expr) (t:TT):Prop:=∀ (pins:List (Addr × Obj)) (s:Shared) (σ:St) (H:Hp) (Q:Bool→Hp→Prop),Inv X pins σ H s→t σ H Q →
  wpAny (model X.prog X.w) X.A (forIn ifs true fun c r=>(if r=true then do let ok ← isTrue c X.env (eval c X.env);pure (ForInStep.yield ok) else pure (ForInStep.yield r):Sem (ForInStep Bool))) (TP X pins σ Q) X.xe s
theorem qhy:PTl X [] (TB fun _ S=>.ok true S):=fun pins s σ H Q I h=>by
  obtain ⟨ι,S,ρ,er,st,p⟩:=h
  exact wpAny_pure ⟨H,I,p true ι H (Stp.refl _ _) st rfl⟩
theorem qaF {M:Model} {A:Around} {E:Value→Shared→Prop} {s:Shared} {env:Env} {Q:Bool→Shared→Prop}:∀ (ifs:List Expr),Q false s→wpAny M A (forIn ifs false fun c r=>(if r=true then do let ok ← isTrue c env (eval c env);pure (ForInStep.yield ok) else pure (ForInStep.yield r):Sem (ForInStep Bool))) Q E s
  | [],h=>wpAny_pure h
  | c::r,h=>by
    rw [List.forIn_cons]
    refine wpAny_bind ?_
    rw [if_neg (by decide)]
    exact wpAny_pure (qaF r h)
theorem qfK {c:Expr} {ifs:List Expr} {m ms:En→Sr→Res Bool} (h1:PT X c (TB m)) (h2:PTl X ifs (TB ms)):PTl X (c::ifs) (TB fun ρ S=>(m ρ S).bind fun t S1=>if t then ms ρ S1 else .ok false S1):=fun pins s σ H Q I hw=>by
  rw [List.forIn_cons]
  refine wpAny_bind ?_
  rw [if_pos rfl]
  obtain ⟨ι,S,ρ,er,st,p⟩:=hw
  refine wpAny_bind (thn (h1 pins s σ H _ I (Pst.tg (ρ:=ρ) p er st (K:=fun b H1=>if b=true then TB ms σ H1 Q else Q false H1) fun a S1 ι1 H1 b s1 er1 st1 ra p1=>?_)) fun b s1 ⟨H1,I1,q1⟩=>?_)
  · cases (show a=b from ra)
    cases a with
    | true=>rw [if_pos rfl];exact ⟨ι1,S1,ρ,er1,st1,p1⟩
    | false=>rw [if_neg (by decide)];exact p1 false ι1 H1 (Stp.refl _ _) st1 rfl
  · refine wpAny_pure ?_
    cases b with
    | true=>rw [if_pos rfl] at q1;exact h2 pins s1 σ H1 Q I1 q1
    | false=>rw [if_neg (by decide)] at q1;exact qaF ifs ⟨H1,I1,q1⟩
theorem qfL {tg elt iter:Expr} {ifs:List Expr} {sc:Scope} {J:It} {fp:List Addr} {it Dl:Addr} {tn:Nat→Heap→Prop} {g:D→En→Sr→Res En} {mt:En→Sr→Res Bool} {me:En→Sr→Res D} {n:Nat} {ds:List D} {gd:Sr→Prop} {R:Result→Shared→Prop}
    (hxe:X.xe=fun _ _=>False) (hc:X.calm=true) (hex:X.ex=fp) (hpn:X.pn=[]) (T':Turn X.prog X.w X.K tg J fp it tn) (hg:PG X tg (TGt g)) (ht:PTl X ifs (TB mt)) (he:PE X elt (T me)) (hgg:∀ d ρ S,¬ gd S→g d ρ S=.no)
    {ι:List Addr} {H:Hp} {S:Sr} {ρ ρf:En} {Sf:Sr} {σ:St} {s:Shared} (hD:ι[n]?=some Dl) (ok:ItG ι H J ds gd) (I:Inv X [] σ H s) (h0:tn 0 s.heap) (hfp:∀ b∈fp,H b=none) (er:EnR ι H ρ σ) (st:Sto ι H S) (e:lcLoop n g mt me ds ρ S=.ok ρf Sf) (hSf:gd Sf)
    (fin:∀ (σ':St) (H':Hp) (ι':List Addr) (s':Shared),Inv X [] σ' H' s'→Stp ι H ι' H'→Sto ι' H' Sf→R (.ok .next) s') :
    codeAny (model X.prog X.w) X.A (.compLoop (.ListComp elt [⟨tg,iter,ifs,0⟩] sc pos) 0 (.ref it) (.ref Dl) X.env) R s:=by
  refine codeAny_loop rfl (fun k s'=>∃ (i:Nat) (σ':St) (H':Hp) (ι':List Addr) (S':Sr) (ρ':En),k=ds.length-i∧i≤ds.length∧Inv X [] σ' H' s'∧tn i s'.heap∧(∀ b∈fp,H' b=none)∧Stp ι H ι' H'∧EnR ι' H' ρ' σ'∧Sto ι' H' S'∧lcLoop n g mt me (ds.drop i) ρ' S'=.ok ρf Sf) ?_
    ds.length ⟨0,σ,H,ι,S,ρ,by simp,Nat.zero_le _,I,h0,hfp,Stp.refl _ _,er,st,by simpa using e⟩
  rintro k s1 ⟨i,σ1,H1,ι1,S1,ρ1,rfl,hi,I1,t1,f1,p1,er1,st1,e1⟩
  have stat:∀ {H':Hp},(∀ b∈fp,H' b=none)→∀ b∈fp,FpOk X [] H' b:=fun hn b hb=>by
    have hb':b∈X.ex:=by rw [hex];exact hb
    exact ⟨hn b hb,(I.ok.exf b hb').1,fun z=>I.ok.exfs b hb' z,.inl hb',(I.ok.exf b hb').2,fun p hp=>by rw [hpn] at hp;exact absurd hp (by simp)⟩
  show wpAny _ X.A ((compTurn (.ListComp elt [⟨tg,iter,ifs,0⟩] sc pos) 0 (.ref it) (.ref Dl) X.env).onRaise (fun x=>do noteFrame x X.env;theTreesLotGoes x)) _ _ s1
  refine wpAny_noted ?_
  rw [compTurn_list]
  refine wpAny_bind (wpAny_standAt (wpAny_bind ?_))
  by_cases hlt:i<ds.length
  · have hd:ds[i]?=some ds[i]:=List.getElem?_eq_getElem hlt
    rw [List.drop_eq_getElem_cons hlt] at e1
    have hgd:gd S1:=by
      apply Classical.byContradiction
      intro hn
      simp only [lcLoop,hgg _ _ _ hn,Res.bind_no] at e1
      cases e1
    obtain ⟨go,yl⟩:=ok.go i _ ι1 H1 S1 p1 st1 hgd hd
    refine thnF (T'.item X rfl rfl rfl hc i [] s1 σ1 H1 _ I1 (stat f1) t1 go) fun r s2 ⟨u,hr,h2⟩=>?_
    subst hr
    refine wpAny_bind (thnF h2 fun _ s3 ⟨x,H3,I3,r3,y3,t3,f3⟩=>?_)
    obtain ⟨q3,kd3⟩:=yl x H3 y3
    obtain ⟨k3,d3⟩:=kd3 S1 st1
    have I3':=I3.pinned (stat f3) (T'.obj _ _ t3)
    simp only [lcLoop] at e1
    cases z1:g ds[i] ρ1 S1 with
    | no=>rw [z1] at e1;cases e1
    | err=>rw [z1] at e1;cases e1
    | ok ρ2 S2 =>
      rw [z1,Res.bind_ok] at e1
      refine wpAny_bind (wpAny_mono (hg _ s3 σ1 H3 x u (fun σ4 H4=>∃ ι4,Stp ι1 H3 ι4 H4∧Sto ι4 H4 S2∧EnR ι4 H4 ρ2 σ4) I3' r3 ⟨ι1,S1,ρ1,ds[i],er1.mono q3,k3,d3,?_⟩) (fun _ s4 ⟨σ4,H4,I4,ι4,q4,st4,er4⟩=>?_) fun _ _ z=>by rw [hxe] at z;exact z.elim)
      · rw [z1];exact fun σ4 ι4 H4 q4 st4 er4=>⟨ι4,q4,st4,er4⟩
      cases z2:mt ρ2 S2 with
      | no=>rw [z2] at e1;cases e1
      | err=>rw [z2] at e1;cases e1
      | ok b S3 =>
        rw [z2,Res.bind_ok] at e1
        refine wpAny_bind (wpAny_mono (ht _ s4 σ4 H4 (fun b' H5=>b'=b∧∃ ι5,Stp ι4 H4 ι5 H5∧Sto ι5 H5 S3) I4 ⟨ι4,S2,ρ2,er4,st4,?_⟩) (fun b' s5 ⟨H5,I5,eb,ι5,q5,st5⟩=>?_) fun _ _ z=>by rw [hxe] at z;exact z.elim)
        · rw [z2];exact fun b' ι5 H5 q5 st5 eb=>⟨(show b=b' from eb).symm,ι5,q5,st5⟩
        subst eb
        have again:∀ {σ7:St} {H7:Hp} {s7:Shared} {ι7:List Addr} {S7:Sr},Inv X ([]++pinsAt fp s3.heap) σ7 H7 s7→Stp ι1 H1 ι7 H7→EnR ι7 H7 ρ2 σ7→Sto ι7 H7 S7→lcLoop n g mt me (ds.drop (i+1)) ρ2 S7=.ok ρf Sf →
            ∃ m,m<ds.length-i∧∃ (i:Nat) (σ':St) (H':Hp) (ι':List Addr) (S':Sr) (ρ':En),m=ds.length-i∧i≤ds.length∧Inv X [] σ' H' s7∧tn i s7.heap∧(∀ b∈fp,H' b=none)∧Stp ι H ι' H'∧EnR ι' H' ρ' σ'∧Sto ι' H' S'∧lcLoop n g mt me (ds.drop i) ρ' S'=.ok ρf Sf:=by
          intro σ7 H7 s7 ι7 S7 I7 q7 er7 st7 e7
          refine ⟨ds.length-(i+1),by omega,i+1,σ7,H7,ι7,S7,ρ2,rfl,hlt,I7.unpinned,T'.keep _ _ _ t3 fun b hb o eo=>(I7.pin (b,o) (List.mem_append_right _ (List.mem_append_right _ (qT hb eo)))).1,fun b hb=>?_,p1.trans q7,er7,st7,e7⟩
          obtain ⟨o,eo,_⟩:=T'.obj _ _ t3 b hb
          exact (I7.pin (b,o) (List.mem_append_right _ (List.mem_append_right _ (qT hb eo)))).2.1
        cases b' with
        | false =>
          rw [if_neg (by decide)] at e1
          exact wpAny_pure ⟨rfl,again I5 ((q3.trans q4).trans q5) (er4.mono q5) st5 e1⟩
        | true =>
          rw [if_pos rfl] at e1
          cases z3:me ρ2 S3 with
          | no=>rw [z3] at e1;cases e1
          | err=>rw [z3] at e1;cases e1
          | ok v S4 =>
            rw [z3,Res.bind_ok] at e1
            refine wpAny_bind (wpAny_bind (wpAny_mono (he _ s5 σ4 H5 (fun y H6=>∃ ι6,Stp ι5 H5 ι6 H6∧Sto ι6 H6 S4∧Den ι6 H6 v y) I5 ⟨ι5,S3,ρ2,er4.mono q5,st5,?_⟩) (fun y' s6 ⟨y,H6,I6,ry,ι6,q6,st6,dv⟩=>?_) fun _ _ z=>by rw [hxe] at z;exact z.elim))
            · rw [z3];exact fun y ι6 H6 q6 st6 dv=>⟨ι6,q6,st6,dv⟩
            cases z4:appD S4 (.ref n) v with
            | no=>rw [z4] at e1;cases e1
            | err=>rw [z4] at e1;cases e1
            | ok w S5 =>
              rw [z4,Res.bind_ok] at e1
              have tot:=((q3.trans q4).trans q5).trans q6
              have hD6:ι6[n]?=some Dl:=(p1.trans tot).get hD
              refine wpAny_bind (wpAny_mono (qcL (X:=X) _ s6 σ4 H6 (.ref Dl) [y] (.ref Dl) [y'] (fun _ H7=>∃ ι7,Stp ι6 H6 ι7 H7∧Sto ι7 H7 S5) I6 rfl (.cons ry .nil) (qiJ (x:=.ref n) st6 ⟨Dl,rfl,hD6⟩ dv ?_)) (fun _ s7 ⟨_,H7,I7,_,ι7,q7,st7⟩=>?_) fun _ _ z=>by rw [hxe] at z;exact z.elim)
              · rw [z4];exact fun b ι' H' s' st' _=>⟨ι',s',st'⟩
              · exact wpAny_pure (wpAny_pure ⟨rfl,again I7 (tot.trans q7) ((er4.mono (q5.trans q6)).mono q7) st7 e1⟩)
  · have hi':i=ds.length:=by omega
    subst hi'
    rw [List.drop_of_length_le (Nat.le_refl _)] at e1
    cases e1
    refine thnF (T'.done X rfl rfl rfl hc _ [] s1 σ1 H1 _ I1 (stat f1) t1 (ok.stop ι1 H1 _ p1 st1 hSf)) fun r s2 ⟨hr,I2⟩=>?_
    subst hr
    exact wpAny_pure (fin σ1 H1 ι1 s2 I2 p1 st1)
structure Blk (X:Cx) (sc:Scope) (N':List Str) (tg:Expr) (ifs:List Expr) (elt:Expr) (g:D→En→Sr→Res En) (mt:En→Sr→Res Bool) (me:En→Sr→Res D):Prop where
  tg:∀ cl C fp s H,PG (compCx X sc cl C N' fp s H) tg (TGt g)
  ifs:∀ cl C fp s H,PTl (compCx X sc cl C N' fp s H) ifs (TB mt)
  elt:∀ cl C fp s H,PE (compCx X sc cl C N' fp s H) elt (T me)
structure CSc (X:Cx) (sc:Scope) (fr:List Nat) (xs ts:List Str):Prop where
  kind:sc.kind=.function
  nocell:∀ y∈sc.names,y.2≠.cell
  names:∀ x∈sc.names,x.2=.local→sc.names.lookup x.1=some .local
  frees:∀ x∈sc.names,x.2=.free→X.env.kindOf x.1=some .cell∨X.env.kindOf x.1=some .free
  frs:Frs X sc fr xs ts
noncomputable def mLc (m:Bool) (fr:List Nat) (nt:Nat) (mi:En→Sr→Res (List D)) (g:D→En→Sr→Res En) (mt:En→Sr→Res Bool) (me:En→Sr→Res D):En→Sr→Res D:=fun ρ S=>(mi ρ S).bind fun ds S1 =>
  (lcLoop S1.length g mt me ds (frE ρ fr nt) (S1++[.lst []])).bind fun _ S2=>lcEnd m S1.length S2
noncomputable def mLcG (m:Bool) (fr:List Nat) (nt:Nat) (mi:En→Sr→Res (List D × (Sr→Prop))) (g:D→En→Sr→Res En) (mt:En→Sr→Res Bool) (me:En→Sr→Res D):En→Sr→Res D:=fun ρ S=>(mi ρ S).bind fun p S1 =>
  (lcLoop S1.length (fun d ρ S=>grd p.2 S (g d ρ S)) mt me p.1 (frE ρ fr nt) (S1++[.lst []])).bind fun _ S2=>grd p.2 S2 (lcEnd m S1.length S2)
theorem qiS {m:Bool} {fr:List Nat} {nt:Nat} {mi:En→Sr→Res (List D)} {g:D→En→Sr→Res En} {mt:En→Sr→Res Bool} {me:En→Sr→Res D}:mLcG m fr nt (fun ρ S=>(mi ρ S).bind fun ds S1=>.ok (ds,fun _=>True) S1) g mt me=mLc m fr nt mi g mt me:=by
  funext ρ S
  unfold mLcG mLc
  dsimp only
  cases mi ρ S with
  | ok ds S1 =>
    show ((lcLoop S1.length (fun d ρ S=>grd (fun _=>True) S (g d ρ S)) mt me ds (frE ρ fr nt) (S1++[.lst []])).bind fun _ S2=>grd (fun _=>True) S2 (lcEnd m S1.length S2))=_
    simp only [qbm]
  | err=>rfl
  | no=>rfl
theorem qhz {tg:Expr} {g:D→En→Sr→Res En} {gd:Sr→Prop} (h:PG X tg (TGt g)):PG X tg (TGt fun d ρ S=>grd gd S (g d ρ S)):=PGimp h fun v σ H Q hw=>by
  obtain ⟨ι,S,ρ,d,er,st,hd,p⟩:=hw
  refine ⟨ι,S,ρ,d,er,st,hd,?_⟩
  dsimp only at p
  by_cases hg:gd S
  · rw [zr hg] at p;exact p
  · rw [zK hg] at p;exact p.elim
theorem qfM {tg elt iter:Expr} {ifs:List Expr} {sc:Scope} {fr:List Nat} {xs ts:List Str} {mi:En→Sr→Res (List D × (Sr→Prop))} {g:D→En→Sr→Res En} {mt:En→Sr→Res Bool} {me:En→Sr→Res D} {mm:Bool} (hc:X.calm=true)
    (hi:PI X tg iter (TIg mi)) (hs:∀ x,foldedSetIterable iter X.env x=pure x) (C':CSc X sc fr xs ts) (B:Blk X sc (xs++ts) tg ifs elt g mt me)
    {pins:List (Addr × Obj)} {s:Shared} {σ:St} {H:Hp} {Q:VK} {use:Option (Value→Sem Unit)} {Q':Value→Shared→Prop} (I:Inv X pins σ H s) (hw:T (mLcG mm fr ts.length mi g mt me) σ H Q)
    (fin:∀ (D C:Addr) (H':Hp) (s':Shared) (m:Str→Option Value),s'.heap.Ns C m→C≠X.env.locals→(∀ x c,X.env.cells.lookup x=some c→c≠C)→(H' C=none∧X.s₀.heap.objs.size≤C∧∀ p∈X.pn++pins,p.1≠C)→(∀ h',Heap.SameBut C s'.heap h'→Inv X pins σ H' { s' with heap:=h' })→Q (.ref D) H'→compPost (model X.prog X.w) X.A X.xe use Q' (.ref D) C (.ok .next) s') :
    wpAny (model X.prog X.w) X.A (comprehension (.ListComp elt [⟨tg,iter,ifs,0⟩] sc pos) sc X.env (firstIterPos [⟨tg,iter,ifs,0⟩] pos) (newList []) false (eval iter X.env) use) Q' X.xe s:=by
  obtain ⟨ι,S,ρ,er,st,p⟩:=hw
  dsimp only [mLcG] at p
  cases z:mi ρ S with
  | no=>rw [z] at p;exact p.elim
  | err=>rw [z] at p;exact p.elim
  | ok dg S1 =>
  obtain ⟨ds,gd⟩:=dg
  rw [z,Res.bind_ok] at p
  dsimp only at p
  cases z2:lcLoop S1.length (fun d ρ S=>grd gd S (g d ρ S)) mt me ds (frE ρ fr ts.length) (S1++[.lst []]) with
  | no=>rw [z2] at p;exact p.elim
  | err=>rw [z2] at p;exact p.elim
  | ok ρf Sf =>
  rw [z2,Res.bind_ok] at p
  have hSf:gd Sf:=by
    apply Classical.byContradiction
    intro hn
    rw [zK hn] at p
    exact p
  rw [zr hSf] at p
  obtain ⟨cl,CL⟩:=qbZ (X:=X) (sc:=sc) fun x hx hf=>I.ok.has x.1 (C'.frees x hx hf)
  refine wpAny_comprehension_free rfl hs CL.eq C'.kind C'.names ?_
  refine thn (hi pins s σ H (fun J H2=>∃ ι2,Stp ι H ι2 H2∧Sto ι2 H2 S1∧ItG ι2 H2 J ds gd) I ⟨ι,S,ρ,er,st,?_⟩) fun xv s1 h1=>thn h1 fun itv s2 h2=>?_
  · rw [z];exact fun ι' H' J q st' ok=>⟨ι',q,st',ok⟩
  obtain ⟨it,fp,tn,J,H2,e,I2,T',t2,f2,ι2,q2,st2,ok2⟩:=h2
  subst e
  refine wpAny_newObj_type ?_
  have hfD:H2 s2.heap.objs.size=none:=I2.hok.fresh (Nat.le_refl _)
  have fpl:∀ b∈fp,b<s2.heap.objs.size:=fun b hb=>by
    obtain ⟨o,eo,_⟩:=T'.obj _ _ t2 b hb
    exact Heap.lt_size eo
  have I3:Inv X pins σ (upd H2 s2.heap.objs.size (.lst [])) { s2 with heap:=s2.heap.push { cls:=.type "list",dict:=none,data:=.seq ([]:List Value).toArray } } :=
    I2.laid (t':=s2.toks) (fun b o e=>Heap.get?_push_of_some _ e) (Nat.le_refl _) ⟨Nat.zero_le _,[],0,.nil,Heap.get?_push_size _ rfl⟩
  have f3:∀ b∈fp,FpOk X pins (upd H2 s2.heap.objs.size (.lst [])) b:=fun b hb=>⟨by rw [qk (Nat.ne_of_lt (fpl b hb))];exact (f2 b hb).1,(f2 b hb).2⟩
  have g3:=Stp.grow (ι:=ι2) hfD (.lst [])
  have st3:Sto (ι2++[s2.heap.objs.size]) (upd H2 s2.heap.objs.size (.lst [])) (S1++[.lst []]):=st2.grow hfD ⟨⟨ι2.length,by simp,rfl⟩,[],qm,rfl⟩
  have hD3:(ι2++[s2.heap.objs.size])[S1.length]?=some s2.heap.objs.size:=by rw [← st2.len];simp
  generalize hs3:({ s2 with heap:=s2.heap.push { cls:=.type "list",dict:=none,data:=.seq ([]:List Value).toArray } }:Shared)=s3 at I3 ⊢
  have fpl3:∀ b∈fp,b<s3.heap.objs.size:=fun b hb=>by
    rw [← hs3]
    show b<(s2.heap.push _).objs.size
    rw [Heap.size_push];exact Nat.lt_succ_of_lt (fpl b hb)
  have t3:tn 0 s3.heap:=T'.keep _ _ _ t2 fun b hb o eo=>by rw [← hs3];exact Heap.get?_push_of_some _ eo
  refine wpAny_newFunctionEnv C'.nocell (by intro y hy;simp at hy) (fun h4 hn4 hs4=>?_) C'.kind
  have keep4:∀ b o,s3.heap.get? b=some o→h4.get? b=some o:=fun b o eo=>hs4.extBut b o (Nat.ne_of_lt (Heap.lt_size eo)) (Heap.get?_push_of_some _ eo)
  have I4:=qbn (tk:=s3.toks+([]:List (Str × Value)).length) I3 C'.kind C'.nocell CL f3 fpl3 C'.frs hn4 keep4
  have t4:tn 0 h4:=T'.keep _ _ _ t3 fun b hb o eo=>keep4 b o eo
  have er3:EnR (ι2++[s2.heap.objs.size]) (upd H2 s2.heap.objs.size (.lst [])) (frE ρ fr ts.length) (frS σ fr ts.length):=(qb0 er fr ts.length).mono (q2.trans g3)
  have loop:codeAny (model X.prog X.w) X.A (.compLoop (.ListComp elt [⟨tg,iter,ifs,0⟩] sc pos) 0 (.ref it) (.ref s2.heap.objs.size) (compEnvC sc cl s3.heap.objs.size X.env)) (compPost (model X.prog X.w) X.A X.xe use Q' (.ref s2.heap.objs.size) s3.heap.objs.size) { s3 with heap:=h4,toks:=s3.toks+([]:List (Str × Value)).length }:=by
    refine qfL (X:=compCx X sc cl s3.heap.objs.size (xs++ts) fp s3 (upd H2 s2.heap.objs.size (.lst []))) (pos:=pos) rfl hc rfl rfl T' (qhz (gd:=gd) (B.tg _ _ _ _ _)) (B.ifs _ _ _ _ _) (B.elt _ _ _ _ _) (fun d ρ S hn=>zK hn _) hD3 (ok2.mono g3) I4 t4 (fun b hb=>(f3 b hb).1) er3 st3 z2 hSf fun σ' H' ι' s' J' q' st'=>?_
    obtain ⟨m',hn',_⟩:=J'.loc
    refine fin s2.heap.objs.size s3.heap.objs.size H' s' m' hn' (Nat.ne_of_gt I3.lt) (fun x c ec ez=>?_) ⟨J'.free,I3.sz,fun q hq ez=>by have:=Heap.lt_size (I3.pin q hq).1;rw [ez] at this;exact absurd this (Nat.lt_irrefl _)⟩ (fun h5 hs5=>qbo I3 f3 J' hs5) ?_
    · obtain ⟨v,o,eo,_⟩:=I3.cell x c ec
      rw [ez] at eo
      exact absurd (Heap.lt_size eo) (Nat.lt_irrefl _)
    · have hDf:ι'[S1.length]?=some s2.heap.objs.size:=q'.get hD3
      unfold lcEnd at p
      cases mm with
      | true =>
        rw [if_pos rfl] at p
        exact p _ ι' H' ((q2.trans g3).trans q') st' ⟨_,rfl,hDf⟩
      | false =>
        rw [if_neg (by decide)] at p
        by_cases hl:Sf.length=S1.length+1
        · rw [if_pos hl] at p
          split at p
          · rename_i l hl2
            obtain ⟨⟨n',en',fr'⟩,ys,h1,dl⟩:=st'.obj _ _ _ hDf hl2
            obtain rfl:n'=S1.length:=zh st'.nd en' hDf
            have en:S1.length=ι2.length:=st2.len.symm
            have qq:Stp ι H (ι'.take S1.length) H':=by rw [en];exact q2.trans (g3.trans q').less
            have st'':=st'.less S1.length
            refine p (.ref s2.heap.objs.size) _ H' qq st'' ⟨_,ys,rfl,fun hm=>?_,.inl h1,Dens.less l fr' dl⟩
            obtain ⟨j,hj,ej⟩:=List.getElem_of_mem hm
            rw [List.length_take] at hj
            have ej':ι'[j]?=some s2.heap.objs.size:=by
              rw [List.getElem_take] at ej
              rw [List.getElem?_eq_getElem (by omega),ej]
            have:=zh st'.nd ej' hDf
            omega
          · exact p.elim
        · rw [if_neg hl] at p;exact p.elim
  exact codeAny_compStart_list loop (T'.self _ 0 _ _ _ t4 loop)
theorem qiT {tg elt iter:Expr} {ifs:List Expr} {sc:Scope} {fr:List Nat} {xs ts:List Str} {mi:En→Sr→Res (List D × (Sr→Prop))} {g:D→En→Sr→Res En} {mt:En→Sr→Res Bool} {me:En→Sr→Res D} {mm:Bool} (hc:X.calm=true)
    (hi:PI X tg iter (TIg mi)) (hs:∀ x,foldedSetIterable iter X.env x=pure x) (C':CSc X sc fr xs ts) (B:Blk X sc (xs++ts) tg ifs elt g mt me) :
    PE X (.ListComp elt [⟨tg,iter,ifs,0⟩] sc pos) (T (mLcG mm fr ts.length mi g mt me)):=fun pins s σ H Q I hw=>by
  rw [eval_ListComp]
  refine qfM hc hi hs C' B I hw fun D C H' s' m hn _ _ _ hI q=>⟨m,hn,fun h' hs'=>⟨.ref D,H',hI h' hs',rfl,q⟩⟩
theorem r_lc {tg elt iter:Expr} {ifs:List Expr} {sc:Scope} {fr:List Nat} {xs ts:List Str} {mi:En→Sr→Res (List D)} {g:D→En→Sr→Res En} {mt:En→Sr→Res Bool} {me:En→Sr→Res D} {mm:Bool} (hc:X.calm=true)
    (hi:PI X tg iter (TIt mi)) (hs:∀ x,foldedSetIterable iter X.env x=pure x) (C':CSc X sc fr xs ts) (B:Blk X sc (xs++ts) tg ifs elt g mt me) :
    PE X (.ListComp elt [⟨tg,iter,ifs,0⟩] sc pos) (T (mLc mm fr ts.length mi g mt me)):=by
  rw [← qiS];exact qiT hc (pi_g hi) hs C' B
end
end R
namespace R
open PySem PySem.Spec L2 SeqAt
open PyProof.Rows hiding St
noncomputable def Sg (M:Model) (B:Around) (Φ:End→Shared→Prop) (k:Code) (t:Sem Fin) (l:List Frame) (s:Shared):Prop:=∀ G p,G.code=k→G.Woken B→∃ x z,Runs M G p t l s x z∧Φ x z
section
variable {M:Model} {B:Around} {Φ:End→Shared→Prop} {k:Code} {l:List Frame} {s:Shared}
theorem j6 {α:Type} {m:Sem α} {f:α→Sem Fin} {e:Value→Sem Fin} {gd:Bool→Bool} {lv:List Value→List Value}
    (h:wpAny M (B.over k l) m (fun a z=>Sg M B Φ k (f a) l z) (fun x z=>Sg M B Φ k (e x) l z) s):Sg M B Φ k (m.wrap f e gd lv) l s:=fun G p hk hw=>by
  subst hk
  exact runs_wrap_of_wp f e gd lv m (h _ p (hw.over l)) (fun _ q _ z=>z G q rfl hw) fun _ q _ z=>z G q rfl hw
theorem zw {α β:Type} {m:Sem α} {f:α→Sem β} {f':β→Sem Fin} {e':Value→Sem Fin} {gd:Bool→Bool} {lv:List Value→List Value}
    (h:wpAny M (B.over k l) m (fun a z=>Sg M B Φ k ((f a).wrap f' e' gd lv) l z) (fun x z=>Sg M B Φ k (e' x) l z) s):Sg M B Φ k ((m >>= f).wrap f' e' gd lv) l s:=by
  have q:=j6 (f:=fun a=>(f a).wrap f' e' gd lv) (e:=fun x=>(Sem.raise x).wrap f' e' gd lv) (gd:=fun b=>gd (id b)) (lv:=fun b=>lv (id b)) h
  rwa [Sem.bind_eq_wrap',Sem.wrap_wrap]
theorem zM {k':Code} (hq:k'.quiet=true) (h:Sg M B Φ k' (M.den k') l s):Sg M B Φ k (.pure (.again k')) l s:=fun G p hk hw=>by
  subst hk
  have ⟨x,z,r,q⟩:=h (G.goto k') p rfl (hw.goto k')
  exact ⟨x,z,Runs.head (c₁:=k') (fun _ _ y=>.again hq y) r,q⟩
theorem qhA (r:Result) (h:Φ (.ret r) s):Sg M B Φ k (leafOf r) [] s:=fun G p hk hw=>⟨_,s,Runs.leaf r,h⟩
theorem qiU {p':Pos} {f:Unit→Sem Fin} (h:Sg M B Φ k (f ()) l s):Sg M B Φ k (.at p' f) l s:=by
  have q:Sg M B Φ k ((standAt p').wrap f .raise id id) l s:=j6 (wpAny_standAt h)
  exact q
theorem qdT {v:Value} {vs:List Value} {f:Resume→Sem Fin} (h:∀ p,Φ (.susp v false vs f k p []) s):Sg M B Φ k (.yield v false vs f) [] s:=fun G p hk hw=>by
  subst hk
  exact ⟨_,s,Runs.yield' [] rfl,h p⟩
end
noncomputable def Go (M:Model) (B:Around) (Φ:End→Shared→Prop) (s:Shared):GenState→Prop
  | .fresh k=>Sg M B Φ k (M.den k) [] s
  | .suspended f _ k _ l _=>Sg M B Φ k (f (.send .none)) l s
  | _=>False
theorem qdU {prog:Program} {w:World} {A:Around} {E:Value→Shared→Prop} {s:Shared} {a:Addr} {n:Nat} {gs:GenState} {Φ:End→Shared→Prop} {Q:Option Value→Shared→Prop} (hh:A.handled=none) (hl:s.heap.NoLimit) (hd:A.depth<recursionLimit)
    (ha:s.heap.IsGen a n) (hs:s.gens[n]?=some gs) (hg:Go (model prog w) A.in1 Φ (s.setGen n .running) gs)
    (hx:∀ x z,Φ x z→match x with
      | .ret r=>r=.ok .next∧∀ h',(∀ b o,z.heap.get? b=some o→h'.get? b=some o)→Q none { z.setGen n .finished with heap:=h' }
      | .susp v g vs f k p l=>(End.susp v g vs f k p l).quiet=true∧Q (some v) (z.setGen n (End.susp v g vs f k p l).genState)) :
    wpAny (model prog w) A (pyNext (.ref a)) Q E s:=by
  have wake:∀ {α:Type} {l:List Value} {f:GenResult→Sem α} {R:α→Shared→Prop} {E':Value→Shared→Prop},(∀ x z,Φ x z→x.quiet=true∧wpAny (model prog w) A.in1 (f x.result) R E' (z.setGen n x.genState))→wpAny (model prog w) A.in1 (.resume n (.send .none) l f) R E' s:=by
    intro α l f R E' hf G p hG
    rw [Sem.wp_resume]
    cases gs with
    | fresh k =>
      obtain ⟨x,z,r,q⟩:=hg (G.wake k p) p rfl (hG.wake k p)
      exact ⟨x.result,z.setGen n x.genState,by unfold Wakes;rw [hs];exact ⟨x,z,r,(hf x z q).1,rfl,rfl⟩,(hf x z q).2 G p hG⟩
    | suspended f0 l0 k p0 fs0 cl =>
      obtain ⟨x,z,r,q⟩:=hg (G.wake k p) p0 rfl (hG.wake k p)
      exact ⟨x.result,z.setGen n x.genState,by unfold Wakes;rw [hs];exact ⟨x,z,r,(hf x z q).1,rfl,rfl⟩,(hf x z q).2 G p hG⟩
    | running=>exact hg.elim
    | finished=>exact hg.elim
  unfold pyNext
  refine wpAny_bind (wpAny_attempt ?_)
  refine wpAny_callSpecial?_slot (name:=Str.ofString "__next__") ha.typeIs slot_gen_next ?_
  refine wpAny_call_entry slot_gen_next ha.typeIs entry_gen_next (?_:wpAny _ A.in1 (Builtin.Generator.genWake (.ref a) (.send .none)) _ _ s) (args_gen_next _)
  unfold Builtin.Generator.genWake
  refine wpAny_bind (wpAny_holding (wpAny_genNumber ha ?_))
  refine wpAny_bind (wpAny_genState hs ?_)
  have go:∀ x z,Φ x z→x.quiet=true:=fun x z q=>by
    cases x with
    | ret r=>rfl
    | susp v g vs f k p l=>exact (hx _ _ q).1
  cases gs with
  | running=>exact hg.elim
  | finished=>exact hg.elim
  | _ =>
    refine wpAny_bind (wpAny_roomToWake hl hd (wake fun x z q=>⟨go x z q,?_⟩))
    cases x with
    | susp v g vs f k p l=>exact wpAny_pure ⟨v,rfl,wpAny_pure (hx _ _ q).2⟩
    | ret r =>
      obtain ⟨e,q'⟩:=hx _ _ q
      subst e
      show wpAny _ A.in1 (newExc (.type "StopIteration") [] >>= _) _ _ (z.setGen n .finished)
      refine wpAny_bind ?_
      unfold newExc newTuple
      refine wpAny_bind (wpAny_newObj_type ?_ (by size_fits))
      refine wpAny_bind (wpAny_of_eq (t:=firstArgMember _ _) (a:=Value.none) (by first | rfl | (simp only [firstArgMember];rfl)) ?_)
      refine wpAny_newObj_type ?_ (by size_fits)
      unfold raiseNew
      refine wpAny_bind (wpAny_bind (wpAny_handled ?_))
      rw [show A.in1.handled=none from hh]
      refine wpAny_throw (wpAny_bind (wpAny_isInstance (T:="StopIteration") (b:=true) ⟨_,Heap.get?_push_size _ rfl,rfl⟩ isSubtype_stop ?_))
      exact wpAny_pure (q' _ fun b o hb=>Heap.get?_push_of_some _ (Heap.get?_push_of_some _ hb))
end R
namespace R
open PySem PySem.Spec L2 SeqAt
open PyProof.Rows hiding St
inductive GN where
  | fin (S:Sr) | yl (i:Nat) (ρ:En) (v:D) (S:Sr) | bad
noncomputable def grdN (gu:Sr→Prop) (S:Sr) (r:GN):GN:=@ite _ (gu S) (Classical.propDecidable _) r .bad
theorem zX {gu:Sr→Prop} {S:Sr} (h:gu S) (r:GN):grdN gu S r=r:=if_pos h
theorem yA {gu:Sr→Prop} {S:Sr} {r:GN} (h:grdN gu S r≠.bad):gu S:=Classical.byContradiction fun n=>h (if_neg n)
noncomputable def gnx (gu:Sr→Prop) (g:D→En→Sr→Res En) (mt:En→Sr→Res Bool) (me:En→Sr→Res D):Nat→List D→En→Sr→GN
  | _,[],_,S=>grdN gu S (.fin S)
  | i,d::r,ρ,S=>grdN gu S <| match g d ρ S with
    | .ok ρ1 S1=>match mt ρ1 S1 with
      | .ok true S2=>match me ρ1 S2 with
        | .ok v S3=>.yl (i+1) ρ1 v S3
        | _=>.bad
      | .ok false S2=>gnx gu g mt me (i+1) r ρ1 S2
      | _=>.bad
    | _=>.bad
section
variable {X:Cx} {pos:Pos}
structure Sus (X:Cx) (J:It) (tn:Nat→Heap→Prop) (fp:List Addr) (ds:List D) (gu:Sr→Prop) (i:Nat) (ρ:En) (S:Sr) (ι:List Addr) (H:Hp) (pins:List (Addr × Obj)) (s:Shared):Prop where
  inv:∃ σ,Inv X pins σ H s∧EnR ι H ρ σ
  sto:Sto ι H S
  at':tn i s.heap
  le:i≤ds.length
  fz:∀ b∈fp,H b=none
  it:ItG ι H J ds gu
  pf:∀ p∈pins,p.1 ∉ fp
noncomputable def Pw (X:Cx) (J:It) (tn:Nat→Heap→Prop) (fp:List Addr) (ds:List D) (gu:Sr→Prop) (M:Model) (B:Around) (g:D→En→Sr→Res En) (mt:En→Sr→Res Bool) (me:En→Sr→Res D):Nat→GenState→Nat→En→Sr→Prop
  | 0,_,_,_,_=>True
  | n+1,gs,i,ρ,S=>∀ pins ι H s,Sus X J tn fp ds gu i ρ S ι H pins s→gnx gu g mt me i (ds.drop i) ρ S≠.bad→Go M B (fun x z=>match x with
    | .ret r=>r=.ok .next∧∃ S' ι' H' σ',gnx gu g mt me i (ds.drop i) ρ S=.fin S'∧Inv X pins σ' H' z∧Stp ι H ι' H'∧Sto ι' H' S'
    | .susp v gd vs f k p l=>(End.susp v gd vs f k p l).quiet=true∧∃ i' ρ' d S' ι' H' y,gnx gu g mt me i (ds.drop i) ρ S=.yl i' ρ' d S'∧Stp ι H ι' H'∧Den ι' H' d y∧RelV y v∧Sus X J tn fp ds gu i' ρ' S' ι' H' pins z ∧
      Pw X J tn fp ds gu M B g mt me n (End.susp v gd vs f k p l).genState i' ρ' S') s gs
noncomputable def Pz (X:Cx) (J:It) (tn:Nat→Heap→Prop) (fp:List Addr) (ds:List D) (gu:Sr→Prop) (M:Model) (B:Around) (g:D→En→Sr→Res En) (mt:En→Sr→Res Bool) (me:En→Sr→Res D) (n:Nat) (r0:GN) (pins:List (Addr × Obj)) (ι:List Addr) (H:Hp):End→Shared→Prop:=fun x z=>match x with
    | .ret r=>r=.ok .next∧∃ S' ι' H' σ',r0=.fin S'∧Inv X pins σ' H' z∧Stp ι H ι' H'∧Sto ι' H' S'
    | .susp v gd vs f k p l=>(End.susp v gd vs f k p l).quiet=true∧∃ i' ρ' d S' ι' H' y,r0=.yl i' ρ' d S'∧Stp ι H ι' H'∧Den ι' H' d y∧RelV y v∧Sus X J tn fp ds gu i' ρ' S' ι' H' pins z ∧
      Pw X J tn fp ds gu M B g mt me n (End.susp v gd vs f k p l).genState i' ρ' S'
theorem qdV {tg elt iter:Expr} {ifs:List Expr} {sc:Scope} {J:It} {fp:List Addr} {it:Addr} {tn:Nat→Heap→Prop} {g:D→En→Sr→Res En} {mt:En→Sr→Res Bool} {me:En→Sr→Res D} {ds:List D} {gu:Sr→Prop} {B:Around}
    (hxe:X.xe=fun _ _=>False) (hc:X.calm=true) (hex:X.ex=fp) (hpf:∀ p∈X.pn,p.1 ∉ fp) (hA:X.A=B.over (.compLoop (.GeneratorExp elt [⟨tg,iter,ifs,0⟩] sc pos) 0 (.ref it) .none X.env) []) (hco:X.env.scope.isCoroutine=false)
    (T':Turn X.prog X.w X.K tg J fp it tn) (hg:PG X tg (TGt g)) (ht:PTl X ifs (TB mt)) (he:PE X elt (T me)):∀ (n m i:Nat) (ρ:En) (S:Sr) (pins:List (Addr × Obj)) (ι0:List Addr) (H0:Hp) (ι:List Addr) (H:Hp) (s:Shared),ds.length-i=m →
      Sus X J tn fp ds gu i ρ S ι H pins s→Stp ι0 H0 ι H→gnx gu g mt me i (ds.drop i) ρ S≠.bad →
      Sg (model X.prog X.w) B (Pz X J tn fp ds gu (model X.prog X.w) B g mt me n (gnx gu g mt me i (ds.drop i) ρ S) pins ι0 H0) (.compLoop (.GeneratorExp elt [⟨tg,iter,ifs,0⟩] sc pos) 0 (.ref it) .none X.env)
        ((model X.prog X.w).den (.compLoop (.GeneratorExp elt [⟨tg,iter,ifs,0⟩] sc pos) 0 (.ref it) .none X.env)) [] s:=by
  intro n
  induction n using Nat.strongRecOn with
  | ind n ihn =>
  intro m
  induction m with
  | zero =>
    intro i ρ S pins ι0 H0 ι H s hm U q0 hb
    obtain ⟨⟨σ,I,er⟩,st,t1,le,f1,ok,pf⟩:=U
    have hi:i=ds.length:=by omega
    subst hi
    have stat:∀ {H':Hp},(∀ b∈fp,H' b=none)→∀ b∈fp,FpOk X pins H' b:=fun hn b hb=>by
      have hb':b∈X.ex:=by rw [hex];exact hb
      exact ⟨hn b hb,(I.ok.exf b hb').1,fun z=>I.ok.exfs b hb' z,.inl hb',(I.ok.exf b hb').2,fun p hp z=>(List.mem_append.mp hp).elim (fun y=>hpf p y (z ▸ hb)) fun y=>pf p y (z ▸ hb)⟩
    show Sg _ B _ _ ((compTurn (.GeneratorExp elt [⟨tg,iter,ifs,0⟩] sc pos) 0 (.ref it) .none X.env).onRaise (leaving X.env)) [] s
    rw [compTurn_gen,Sem.onRaise_eq_wrap]
    refine zw (wpAny_standAt (zw ?_))
    rw [← hA]
    have hg0:gu S:=by
      rw [List.drop_of_length_le (Nat.le_refl _)] at hb
      exact yA hb
    refine thnF (T'.done X rfl rfl rfl hc _ pins s σ H _ I (stat f1) t1 (ok.stop ι H S (Stp.refl _ _) st hg0)) fun r s2 ⟨hr,I2⟩=>?_
    subst hr
    refine qhA (.ok .next) ⟨rfl,S,ι,H,σ,?_,I2,q0,st⟩
    rw [List.drop_of_length_le (Nat.le_refl _)];exact zX hg0 _
  | succ m ihm =>
    intro i ρ S pins ι0 H0 ι H s hm U q0 hb
    obtain ⟨⟨σ,I,er⟩,st,t1,le,f1,ok,pf⟩:=U
    have hlt:i<ds.length:=by omega
    have stat:∀ {H':Hp},(∀ b∈fp,H' b=none)→∀ b∈fp,FpOk X pins H' b:=fun hn b hb=>by
      have hb':b∈X.ex:=by rw [hex];exact hb
      exact ⟨hn b hb,(I.ok.exf b hb').1,fun z=>I.ok.exfs b hb' z,.inl hb',(I.ok.exf b hb').2,fun p hp z=>(List.mem_append.mp hp).elim (fun y=>hpf p y (z ▸ hb)) fun y=>pf p y (z ▸ hb)⟩
    have hd:ds[i]?=some ds[i]:=List.getElem?_eq_getElem hlt
    have ed:ds.drop i=ds[i]::ds.drop (i+1):=List.drop_eq_getElem_cons hlt
    have hg0:gu S:=by
      rw [ed] at hb
      exact yA hb
    obtain ⟨go,yl⟩:=ok.go i _ ι H S (Stp.refl _ _) st hg0 hd
    show Sg _ B _ _ ((compTurn (.GeneratorExp elt [⟨tg,iter,ifs,0⟩] sc pos) 0 (.ref it) .none X.env).onRaise (leaving X.env)) [] s
    rw [compTurn_gen,Sem.onRaise_eq_wrap]
    refine zw (wpAny_standAt (zw ?_))
    rw [← hA]
    refine thnF (T'.item X rfl rfl rfl hc i pins s σ H _ I (stat f1) t1 go) fun r s2 ⟨u,hr,h2⟩=>?_
    subst hr
    refine zw ?_
    rw [← hA]
    refine thnF h2 fun _ s3 ⟨x,H3,I3,r3,y3,t3,f3⟩=>?_
    obtain ⟨q3,kd3⟩:=yl x H3 y3
    obtain ⟨k3,d3⟩:=kd3 S st
    have I3':=I3.pinned (stat f3) (T'.obj _ _ t3)
    rw [ed] at hb ⊢
    unfold gnx at hb ⊢
    rw [zX hg0] at hb ⊢
    cases z1:g ds[i] ρ S with
    | no=>rw [z1] at hb;exact absurd rfl hb
    | err=>rw [z1] at hb;exact absurd rfl hb
    | ok ρ2 S2 =>
      rw [z1] at hb
      dsimp only at hb ⊢
      refine zw ?_
      rw [← hA]
      refine wpAny_mono (hg _ s3 σ H3 x u (fun σ4 H4=>∃ ι4,Stp ι H3 ι4 H4∧Sto ι4 H4 S2∧EnR ι4 H4 ρ2 σ4) I3' r3 ⟨ι,S,ρ,ds[i],er.mono q3,k3,d3,?_⟩) (fun _ s4 ⟨σ4,H4,I4,ι4,q4,st4,er4⟩=>?_) fun _ _ z=>by rw [hxe] at z;exact z.elim
      · rw [z1];exact fun σ4 ι4 H4 q4 st4 er4=>⟨ι4,q4,st4,er4⟩
      cases z2:mt ρ2 S2 with
      | no=>rw [z2] at hb;exact absurd rfl hb
      | err=>rw [z2] at hb;exact absurd rfl hb
      | ok b S3 =>
        rw [z2] at hb
        refine zw ?_
        rw [← hA]
        refine wpAny_mono (ht _ s4 σ4 H4 (fun b' H5=>b'=b∧∃ ι5,Stp ι4 H4 ι5 H5∧Sto ι5 H5 S3) I4 ⟨ι4,S2,ρ2,er4,st4,?_⟩) (fun b' s5 ⟨H5,I5,eb,ι5,q5,st5⟩=>?_) fun _ _ z=>by rw [hxe] at z;exact z.elim
        · rw [z2];exact fun b' ι5 H5 q5 st5 eb=>⟨(show b=b' from eb).symm,ι5,q5,st5⟩
        subst eb
        have sus:∀ {σ7:St} {H7:Hp} {s7:Shared} {ι7:List Addr} {S7:Sr},Inv X (pins++pinsAt fp s3.heap) σ7 H7 s7→Stp ι H ι7 H7→EnR ι7 H7 ρ2 σ7→Sto ι7 H7 S7→Sus X J tn fp ds gu (i+1) ρ2 S7 ι7 H7 pins s7:=by
          intro σ7 H7 s7 ι7 S7 I7 q7 er7 st7
          refine ⟨⟨σ7,I7.unpinned,er7⟩,st7,T'.keep _ _ _ t3 fun b hb o eo=>(I7.pin (b,o) (List.mem_append_right _ (List.mem_append_right _ (qT hb eo)))).1,hlt,fun b hb=>?_,ok.mono q7,pf⟩
          obtain ⟨o,eo,_⟩:=T'.obj _ _ t3 b hb
          exact (I7.pin (b,o) (List.mem_append_right _ (List.mem_append_right _ (qT hb eo)))).2.1
        cases b' with
        | false =>
          dsimp only at hb ⊢
          exact zM rfl (ihm (i+1) ρ2 S3 pins ι0 H0 ι5 H5 s5 (by omega) (sus I5 ((q3.trans q4).trans q5) (er4.mono q5) st5) (q0.trans ((q3.trans q4).trans q5)) hb)
        | true =>
          dsimp only at hb ⊢
          cases z3:me ρ2 S3 with
          | no=>rw [z3] at hb;exact absurd rfl hb
          | err=>rw [z3] at hb;exact absurd rfl hb
          | ok v S4 =>
            dsimp only
            have hy:∀ v,yieldOut X.env v=yieldValue v:=fun v=>by simp only [yieldOut,hco,Bool.false_eq_true,if_false]
            simp only [hy,if_true]
            rw [Sem.bind_eq_wrap',Sem.bind_eq_wrap',Sem.wrap_wrap,Sem.wrap_wrap]
            refine j6 ?_
            rw [← hA]
            refine wpAny_mono (he _ s5 σ4 H5 (fun y H6=>∃ ι6,Stp ι5 H5 ι6 H6∧Sto ι6 H6 S4∧Den ι6 H6 v y) I5 ⟨ι5,S3,ρ2,er4.mono q5,st5,?_⟩) (fun y' s6 ⟨y,H6,I6,ry,ι6,q6,st6,dv⟩=>?_) fun _ _ z=>by rw [hxe] at z;exact z.elim
            · rw [z3];exact fun y ι6 H6 q6 st6 dv=>⟨ι6,q6,st6,dv⟩
            have tot:=((q3.trans q4).trans q5).trans q6
            refine qiU (qdT fun p=>⟨rfl,i+1,ρ2,v,S4,ι6,H6,y,rfl,q0.trans tot,dv,ry,sus I6 tot (er4.mono (q5.trans q6)) st6,?_⟩)
            cases n with
            | zero=>trivial
            | succ n' =>
              intro pins' ι' H' s' U' hb'
              exact zM rfl (ihn n' (Nat.lt_succ_self _) _ (i+1) ρ2 S4 pins' ι' H' ι' H' s' rfl U' (Stp.refl _ _) hb')
end
end R
namespace R
open PySem PySem.Spec L2 SeqAt
open PyProof.Rows hiding St
section
variable {gu:Sr→Prop} {g:D→En→Sr→Res En} {mt:En→Sr→Res Bool} {me:En→Sr→Res D}
theorem jh:∀ (l:List D) (i:Nat) (ρ:En) (S:Sr) {i':Nat} {ρ':En} {v:D} {S':Sr},gnx gu g mt me i l ρ S=.yl i' ρ' v S'→i<i'∧i'≤i+l.length
  | [],_,_,S,_,_,_,_,h=>by
    rw [show gnx gu g mt me _ [] _ S=grdN gu S (.fin S) from rfl,zX (yA (by rw [show grdN gu S (.fin S)=_ from h];intro z;cases z))] at h
    cases h
  | d::r,i,ρ,S,i',ρ',v,S',h=>by
    unfold gnx at h
    rw [zX (yA (by rw [h];intro z;cases z))] at h
    split at h
    · split at h
      · split at h
        · cases h;simp
        · cases h
      · have:=jh r (i+1) _ _ h
        simp only [List.length_cons]
        lia
      · cases h
    · cases h
noncomputable def gen1 {β:Type} (step:β→D→Option (β ⊕ D)) (fin:β→Option D) (rest:Nat→En→β→Sr→Res D) (b:β):GN→Res D
  | .fin S=>ofO (fin b) S
  | .yl i ρ v S=>match step b v with
    | some (.inl b')=>rest i ρ b' S
    | some (.inr x)=>.ok x S
    | none=>.no
  | .bad=>.no
theorem qb1 {β:Type} {step:β→D→Option (β ⊕ D)} {fin:β→Option D}:∀ (l:List D) (i:Nat) (ρ:En) (b:β) (S:Sr) {d:D} {S':Sr},genLoopG gu g mt me step fin l ρ b S=.ok d S' →
    gen1 step fin (fun j ρ b S=>genLoopG gu g mt me step fin (l.drop (j-i)) ρ b S) b (gnx gu g mt me i l ρ S)=.ok d S'
  | [],_,_,_,S,d,S',h=>by
    have hg:gu S:=Classical.byContradiction fun n=>by
      unfold genLoopG at h
      rw [zK n] at h;cases h
    unfold genLoopG at h
    rw [zr hg] at h
    unfold gnx
    rw [zX hg]
    exact h
  | x::r,i,ρ,b,S,d,S',h=>by
    have hg:gu S:=Classical.byContradiction fun n=>by
      unfold genLoopG at h
      rw [zK n] at h;cases h
    unfold genLoopG at h
    rw [zr hg] at h
    unfold gnx
    rw [zX hg]
    cases z1:g x ρ S with
    | no=>rw [z1] at h;cases h
    | err=>rw [z1] at h;cases h
    | ok ρ1 S1 =>
      rw [z1,Res.bind_ok] at h
      dsimp only
      cases z2:mt ρ1 S1 with
      | no=>rw [z2] at h;cases h
      | err=>rw [z2] at h;cases h
      | ok t S2 =>
        rw [z2,Res.bind_ok] at h
        cases t with
        | true =>
          rw [if_pos rfl] at h
          dsimp only
          cases z3:me ρ1 S2 with
          | no=>rw [z3] at h;cases h
          | err=>rw [z3] at h;cases h
          | ok v S3 =>
            rw [z3,Res.bind_ok] at h
            have e:i+1-i=1:=by lia
            simp only [gen1,e,List.drop_succ_cons,List.drop_zero]
            exact h
        | false =>
          rw [if_neg (by decide)] at h
          dsimp only
          have q:=qb1 r (i+1) ρ1 b S2 h
          cases z4:gnx gu g mt me (i+1) r ρ1 S2 with
          | fin S3=>rw [z4] at q;exact q
          | bad=>rw [z4] at q;cases q
          | yl j ρ' v S3 =>
            rw [z4] at q
            have:=jh r (i+1) ρ1 S2 z4
            have e:j-i=j-(i+1)+1:=by lia
            simp only [gen1] at q ⊢
            rw [e,List.drop_succ_cons]
            exact q
theorem zN {β:Type} {step:β→D→Option (β ⊕ D)} {fin:β→Option D} {ds:List D} {gu:Sr→Prop} {i:Nat} {ρ:En} {b:β} {S:Sr} {d:D} {S':Sr} (h:genLoopG gu g mt me step fin (ds.drop i) ρ b S=.ok d S') :
    gen1 step fin (fun j ρ b S=>genLoopG gu g mt me step fin (ds.drop j) ρ b S) b (gnx gu g mt me i (ds.drop i) ρ S)=.ok d S':=by
  have q:=qb1 _ i ρ b S h
  cases z:gnx gu g mt me i (ds.drop i) ρ S with
  | fin S3=>rw [z] at q;exact q
  | bad=>rw [z] at q;cases q
  | yl j ρ' v S3 =>
    rw [z] at q
    have:=jh _ i ρ S z
    simp only [gen1] at q ⊢
    rw [List.drop_drop] at q
    have e:i+(j-i)=j:=by lia
    rw [e] at q
    exact q
end
theorem qfN {s:Shared} {n:Nat} {x y:GenState}:(s.setGen n x).setGen n y=s.setGen n y:=by
  unfold Shared.setGen
  simp
theorem GK.done {g0 g:Array GenState} {x:GenState} (h:GK (g0.push .running) (g.setIfInBounds g0.size .running)) (e:g[g0.size]?=some x) (hx:x.bare=true):GK g0 g:=by
  refine ⟨fun y hy=>?_,?_,fun i hi=>?_⟩
  · obtain ⟨i,hi,rfl⟩:=Array.mem_iff_getElem.mp hy
    by_cases q:i=g0.size
    · subst q
      rw [Array.getElem?_eq_getElem hi] at e
      cases e;exact hx
    · refine h.bare _ ?_
      have:(g.setIfInBounds g0.size .running)[i]'(by simpa using hi)=g[i]:=by
        rw [Array.getElem_setIfInBounds]
        rw [if_neg (Ne.symm q)]
      rw [← this]
      exact Array.getElem_mem _
  · have:=h.sz
    simp at this
    lia
  · have:=h.old i (by simp;lia)
    rw [Array.getElem?_setIfInBounds_ne (by lia)] at this
    rw [this,Array.getElem?_push_lt hi]
    exact (Array.getElem?_eq_getElem hi).symm
theorem qdW {X:Cx} {pins:List (Addr × Obj)} {σ:St} {H:Hp} {s:Shared} (I:Inv X pins σ H s) {g':Array GenState} (h:GK X.s₀.gens g'):Inv X pins σ H { s with gens:=g' } :=
  ⟨I.ok,I.os,h,I.base,I.loc,I.cell,I.free,I.freeC,I.pin,I.hok,I.len⟩
section
variable {X:Cx}
structure Cs (X:Cx) (J:It) (tn:Nat→Heap→Prop) (fp:List Addr) (ds:List D) (gu:Sr→Prop) (B:Around) (g:D→En→Sr→Res En) (mt:En→Sr→Res Bool) (me:En→Sr→Res D) (n k i:Nat) (ρ:En) (S:Sr) (ι:List Addr) (H:Hp) (pins:List (Addr × Obj)) (s:Shared):Prop where
  sus:Sus X J tn fp ds gu i ρ S ι H pins (s.setGen n .running)
  st:∃ gs,s.gens[n]?=some gs∧gs.bare=true∧Pw X J tn fp ds gu (model X.prog X.w) B g mt me k gs i ρ S
theorem qb2 {J:It} {tn:Nat→Heap→Prop} {fp:List Addr} {ds:List D} {gu:Sr→Prop} {A:Around} {g:D→En→Sr→Res En} {mt:En→Sr→Res Bool} {me:En→Sr→Res D} {n k i:Nat} {ρ:En} {S:Sr} {ι:List Addr} {H:Hp} {pins:List (Addr × Obj)} {s:Shared} {a:Addr} {o:Obj} {g0:Array GenState} {Q:Option Value→Shared→Prop} {E:Value→Shared→Prop}
    (hh:A.handled=none) (hd:A.depth<recursionLimit) (ho:(a,o)∈X.pn) (hg:∀ h:Heap,h.get? a=some o→h.IsGen a n) (h0:X.s₀.gens=g0.push .running) (hn:n=g0.size)
    (C:Cs X J tn fp ds gu A.in1 g mt me n (k+1) i ρ S ι H pins s) (hb:gnx gu g mt me i (ds.drop i) ρ S≠.bad)
    (fin:∀ S' ι' H' σ' z,gnx gu g mt me i (ds.drop i) ρ S=.fin S'→Inv X pins σ' H' (z.setGen n .running)→GK g0 z.gens→Stp ι H ι' H'→Sto ι' H' S'→Q none z)
    (yl:∀ i' ρ' d S' ι' H' y v z,gnx gu g mt me i (ds.drop i) ρ S=.yl i' ρ' d S'→Stp ι H ι' H'→Den ι' H' d y→RelV y v→Cs X J tn fp ds gu A.in1 g mt me n k i' ρ' S' ι' H' pins z→Q (some v) z) :
    wpAny (model X.prog X.w) A (pyNext (.ref a)) Q E s:=by
  obtain ⟨U,gs,hs,hbr,pw⟩:=C
  obtain ⟨⟨σ,I,er⟩,_⟩:=id U
  have hp:s.heap.get? a=some o:=(I.pin (a,o) (List.mem_append_left _ ho)).1
  refine qdU hh I.nolimit hd (hg _ hp) hs (pw pins ι H _ U hb) fun x z q=>?_
  have hsz:∀ {σ':St} {H':Hp},Inv X pins σ' H' z→z.gens[n]?=some .running∧n<z.gens.size:=fun {σ' H'} J=>by
    have e:=J.bare.old n (by rw [h0,hn];simp)
    rw [h0,hn] at e
    rw [hn]
    have e2:(g0.push GenState.running)[g0.size]?=some .running:=by simp
    rw [e2] at e
    exact ⟨e,by
      rcases Nat.lt_or_ge g0.size z.gens.size with z' | z'
      · exact z'
      · rw [Array.getElem?_eq_none z'] at e;cases e⟩
  have bk:∀ {σ':St} {H':Hp} (y:GenState),Inv X pins σ' H' z→Inv X pins σ' H' ((z.setGen n y).setGen n .running):=fun {σ' H'} y J=>by
    rw [qfN]
    have e:(z.gens.setIfInBounds n .running)=z.gens:=by
      obtain ⟨e1,e2⟩:=hsz J
      apply Array.ext
      · simp
      · intro j h1 h2
        rw [Array.getElem_setIfInBounds]
        split
        · rename_i q
          subst q
          rw [Array.getElem?_eq_getElem e2] at e1
          exact (Option.some.inj e1).symm
        · rfl
    have:=qdW J (g':=z.gens.setIfInBounds n .running) (by rw [e];exact J.bare)
    exact this
  cases x with
  | ret r =>
    obtain ⟨e,S',ι',H',σ',e1,J,s1,st1⟩:=q
    refine ⟨e,fun h' hk=>fin S' ι' H' σ' _ e1 ?_ ?_ s1 st1⟩
    · have:=(bk .finished J).kept (h':=h') (t':=z.toks) hk
      exact this
    · refine GK.done (x:=.finished) (g:=(z.gens.setIfInBounds n .finished)) ?_ ?_ rfl
      · have:=(bk .finished J).bare
        rw [h0] at this
        rw [← hn]
        exact this
      · rw [← hn]
        obtain ⟨_,e2⟩:=hsz J
        simp [e2]
  | susp v gd vs f k' p l =>
    obtain ⟨qt,i',ρ',d,S',ι',H',y,e1,s1,dv,ry,U',pw'⟩:=q
    refine ⟨qt,yl i' ρ' d S' ι' H' y v _ e1 s1 dv ry ⟨?_,_,?_,End.bare_of_quiet qt,pw'⟩⟩
    · obtain ⟨⟨σ',J,er'⟩,a1,a2,a3,a4,a5,a6⟩:=U'
      exact ⟨⟨σ',bk _ J,er'⟩,a1,a2,a3,a4,a5,a6⟩
    · obtain ⟨⟨σ',J,er'⟩,_⟩:=U'
      obtain ⟨_,e2⟩:=hsz J
      show (z.gens.setIfInBounds n _)[n]?=_
      simp [e2]
end
end R
namespace R
open PySem PySem.Spec L2 SeqAt
open PyProof.Rows hiding St
section
variable {X:Cx} {pos:Pos}
theorem qbp {K:PySem.W.Frag} {h:Heap} (kin:K.In h) {c T:Addr} {ps:Array Value} (e:codeTab K c T=true) (hT:h.get? T=some { cls:=.none,data:=.fields ps }) (tr:TriplesOk ps.toList):h.IsCode c T ps∧h.TableAt c T ps:=by
  unfold codeTab at e
  split at e
  · rename_i cls d vs sl hl
    simp only [Bool.and_eq_true,beq_iff_eq] at e
    obtain ⟨⟨e1,_⟩,e2⟩:=e
    split at e2
    · rename_i a b x1 x2 x3 x4 x5 x6 x7 h11 h11' h18 h7 h9 h10
      simp only [Bool.and_eq_true,beq_iff_eq,bne_iff_ne] at e2
      obtain ⟨⟨ea,eb⟩,ne⟩:=e2
      subst ea
      subst eb
      have ho:=kin _ _ hl
      exact ⟨⟨_,vs,_,_,_,_,_,_,_,_,ho,rfl,h11,h18,h7,h9,h10,hT,rfl,tr,ne⟩,⟨_,vs,ho,e1,rfl,h11'⟩,hT⟩
    · cases e2
  · cases e
theorem qdX {M:Model} {A:Around} {E:Value→Shared→Prop} {pins:List (Addr × Obj)} {σ:St} {H:Hp} {s:Shared} {c T:Addr} {q:Str} {sc:Scope} (I:Inv X pins σ H s) (hc:X.env.code=.ref c) (ht:codeTab X.K c T=true) :
    wpAny M A (genexprCode X.env pos q sc) (fun _ s'=>∃ H',Inv X pins σ H' s'∧s'.gens=s.gens∧(∀ ι,Stp ι H ι H')∧(∀ ι S,Sto ι H S→Sto ι H' S)∧∀ b o,s.heap.get? b=some o→H b=none→s'.heap.get? b=some o∧H' b=none) E s:=by
  obtain ⟨ps0,h0⟩:=I.ok.tab c T ht
  obtain ⟨mo,hT⟩:=I.base.tbls T ps0 h0
  generalize ps0++mo=ps at hT
  obtain ⟨eT,tr⟩:=I.hok T _ hT
  obtain ⟨ic,ta⟩:=qbp I.kIn ht eT tr
  cases z:codeAmong pos ps.toList with
  | some v=>exact wpAny_genexprCode_hit hc ic z ⟨H,I,rfl,fun _=>Stp.refl _ _,fun _ _ x=>x,fun b o e n=>⟨e,n⟩⟩
  | none =>
    refine wpAny_genexprCodeX hc ic ta z fun c' h' tk hx _ _ ic' _ ta' _=>?_
    generalize hps:ps++#[rawInt pos.line,rawInt pos.col,.ref c']=ps' at ic' ta'
    have nT:∀ {b:Addr} {u:HO},H b=some u→(∀ x,u≠.tbl x)→b≠T:=fun {b u} e n z=>by
      subst z;rw [hT] at e;cases e;exact n _ rfl
    have fT:∀ {b:Addr},H b=none→b≠T:=fun {b} e z=>by subst z;rw [hT] at e;cases e
    have tr':TriplesOk ps'.toList:=by
      obtain ⟨_,_,_,_,_,_,_,_,_,_,_,_,_,_,_,_,_,e1,e2,t,_⟩:=ic'
      exact t
    have ok':HOk X.prog X.w (upd H T (.tbl ps')) h':=fun b u e=>by
      by_cases q:b=T
      · subst q
        rw [qm] at e;cases e
        exact ⟨ta'.2,tr'⟩
      · rw [qk q] at e
        refine (I.hok b u e).stay (fun d v hd eo=>hx d v ?_ eo) (fun d e'=>by rw [qk (nT e' (by intro _ z;cases z))];exact e') fun d xs e'=>by rw [qk (nT e' (by intro _ z;cases z))];exact e'
        rcases hd with y | y
        · subst y;exact q
        · exact nT y (by intro _ z;cases z)
    have I':Inv X pins σ (upd H T (.tbl ps')) { s with heap:=h',toks:=tk }:=by
      refine I.step (g':=s.gens) (d':=s.drawn) (ch:=[]) (fun _ z=>nomatch z) (fun b o _ _ _ e n=>hx b o (fT n) e) (fun b o _ _ _ e n=>⟨o.slots,hx b o (fT n) e⟩) (fun b o _ e n=>by rw [qk (fT n)];exact n)
        (fun b o _ e=>?_) (fun b xs e=>by rw [qk (nT e (by intro _ z;cases z))];exact e) (fun b o u e=>by rw [qk (nT e (by intro _ z;cases z))];exact e) (fun b qs e=>?_) (fun m hm=>?_) ok' I.bare.self
      · by_cases q:b=T
        · subst q;exact ⟨_,ta'.2⟩
        · exact ⟨o,hx b o q e⟩
      · by_cases q:b=T
        · subst q
          rw [hT] at e;cases e
          exact ⟨#[rawInt pos.line,rawInt pos.col,.ref c'],by rw [qm,← hps]⟩
        · exact ⟨#[],by rw [qk q,e];simp⟩
      · obtain ⟨o,es,ep,ho,r⟩:=hm
        exact ⟨o,es,ep,hx _ o (fT I.free) ho,r⟩
    have sp:∀ ι,Stp ι H ι (upd H T (.tbl ps')):=fun ι=>⟨List.prefix_refl _,fun _ m=>.inl m,fun a u e _ nt=>by
        rw [qk (nT e (by intro x z;subst z;exact nt))];exact e,fun a e=>by
        by_cases q:a=T
        · subst q;rw [qm];simp
        · rw [qk q];exact e⟩
    refine ⟨_,I',rfl,sp,fun ι S st=>⟨st.len,st.nd,fun n a so e1 e2=>(st.obj n a so e1 e2).mono (sp ι) ?_⟩,fun b o e n=>⟨hx b o (fT n) e,by rw [qk (fT n)];exact n⟩⟩
    have k:=st.obj n a so e1 e2
    cases so with
    | lst l=>obtain ⟨_,xs,e,_⟩:=k;rw [qk (nT e (by intro _ z;cases z))]
    | dic l=>obtain ⟨_,xs,e,_⟩:=k;rw [qk (nT e (by intro _ z;cases z))]
    | dis l=>obtain ⟨_,xs,e,_⟩:=k;rw [qk (nT e (by intro _ z;cases z))]
theorem qfO {M:Model} {A:Around} {E:Value→Shared→Prop} {pins:List (Addr × Obj)} {σ:St} {H:Hp} {s:Shared} {Q:Addr→Shared→Prop} (I:Inv X pins σ H s) (h:Q builtinsNs s):wpAny M A (builtinsFor X.env.globals X.env.builtins) Q E s:=by
  obtain ⟨bm,ob,e1,e2,e3,e4,e5,e6⟩:=I.ok.mod.bmod
  rw [I.ok.glob]
  exact wpAny_builtinsFor (I.ok.mod.glob.keeps I.bk) e1 e2 (I.bk _ _ e3) e4 e5 e6 h
noncomputable def genCx (X:Cx) (sc:Scope) (cl:List (Str × Addr)) (C:Addr) (code:Value) (N':List Str) (fp:List Addr) (ge:Expr) (it:Addr) (o:Addr × Obj) (s:Shared) (H:Hp):Cx :=
  { X with A:=X.A.in4.in1.over (.compLoop ge 0 (.ref it) .none (genEnv sc cl C code builtinsNs X.env)) [],N:=N',s₀:={ s with gens:=s.gens.push .running },H₀:=H,env:=genEnv sc cl C code builtinsNs X.env,outer:=X.stack,stack:=genEnv sc cl C code builtinsNs X.env::X.stack,ex:=fp,fn:=fun _=>false,pn:=[o],xe:=fun _ _=>False }
theorem qdY {sc:Scope} {cl:List (Str × Addr)} {code:Value} {N':List Str} {fp:List Addr} {tg elt iter:Expr} {ifs:List Expr} {it:Addr} {o:Addr × Obj} {pins:List (Addr × Obj)} {σ:St} {H:Hp} {s:Shared} (I:Inv X pins σ H s) (hk:sc.kind=.function) (hcell:∀ y∈sc.names,y.2≠.cell) (CL:Clos X sc cl)
    (hf:∀ b∈fp,FpOk X pins H b) (ho:∀ b∈fp,b<s.heap.objs.size):(genCx X sc cl s.heap.objs.size code N' fp (.GeneratorExp elt [⟨tg,iter,ifs,0⟩] sc pos) it o s H).Ok where
  mod:=I.ok.mod
  kind:=hk
  glob:=I.ok.glob
  blt:=rfl
  above:=Nat.le_refl _
  inj:=fun x y c h1 h2=>I.ok.inj x y c (CL.sub x c h1) (CL.sub y c h2)
  has:=fun x hx=>by
    have hx:sc.names.lookup x=some .cell∨sc.names.lookup x=some .free:=hx
    rcases hx with z | z
    · exact absurd rfl (hcell _ (PySem.mem_of_lookup z))
    · exact CL.all x z
  cab:=fun x c h _=>by cases h
  hd:=fun h=>I.ok.hd h
  frames:=by
    unfold genCx Around.over
    dsimp only [List.map_nil,envsOf,List.filter_nil,List.filterMap_nil,pushEnvs]
    rw [I.ok.frames]
    rfl
  stk:=.inr ⟨rfl,rfl⟩
  exf:=fun b hb=>⟨Nat.ne_of_lt (ho b hb),fun x c h=>(hf b hb).2.2.2.2.1 x c (CL.sub x c h)⟩
  bs:=I.bs
  bsz:=Nat.le_trans I.ok.bsz I.sz
  noex:=fun b o e hb=>by
    rcases (hf b hb).2.2.2.1 with z | z
    · exact I.ok.noex b o e z
    · exact absurd (Nat.lt_of_lt_of_le (Heap.lt_size e) (Nat.le_trans I.ok.bsz z)) (Nat.lt_irrefl _)
  exfs:=fun b hb hs=>by
    rcases List.mem_cons.mp (I.stkSub b hs) with z | z
    · exact (hf b hb).2.1 z
    · exact (hf b hb).2.2.1 z
  funs:=I.stack
  frf:=I.stkFree
  tab:=fun c T z=>let ⟨ps,e⟩:=I.ok.tab c T z;let ⟨m,e'⟩:=I.base.tbls _ _ e;⟨_,e'⟩
end
end R
namespace R
open PySem PySem.Spec L2 SeqAt
open PyProof.Rows hiding St
section
variable {X:Cx} {pos:Pos}
theorem qcU {tg elt iter:Expr} {ifs:List Expr} {sc:Scope} {J:It} {fp:List Addr} {it:Addr} {tn:Nat→Heap→Prop} {g:D→En→Sr→Res En} {mt:En→Sr→Res Bool} {me:En→Sr→Res D} {ds:List D} {gu:Sr→Prop} {B:Around}
    (hxe:X.xe=fun _ _=>False) (hc:X.calm=true) (hex:X.ex=fp) (hpf:∀ p∈X.pn,p.1 ∉ fp) (hA:X.A=B.over (.compLoop (.GeneratorExp elt [⟨tg,iter,ifs,0⟩] sc pos) 0 (.ref it) .none X.env) []) (hco:X.env.scope.isCoroutine=false)
    (T':Turn X.prog X.w X.K tg J fp it tn) (hg:PG X tg (TGt g)) (ht:PTl X ifs (TB mt)) (he:PE X elt (T me)) (ρ:En) (S:Sr):∀ k,Pw X J tn fp ds gu (model X.prog X.w) B g mt me k (.fresh (.compStart (.GeneratorExp elt [⟨tg,iter,ifs,0⟩] sc pos) 0 (.ref it) .none X.env)) 0 ρ S
  | 0=>trivial
  | k+1=>by
    intro pins ι H s U hb
    have loop:=qdV hxe hc hex hpf hA hco T' hg ht he k _ 0 ρ S pins ι H ι H s rfl U (Stp.refl _ _) hb
    have t0:=U.at'
    show Sg _ B (Pz X J tn fp ds gu _ B g mt me k _ pins ι H) _ ((compStart (.GeneratorExp elt [⟨tg,iter,ifs,0⟩] sc pos) 0 (.ref it) .none X.env).onRaise (leaving X.env)) [] s
    unfold compStart
    rw [Sem.onRaise_eq_wrap]
    refine zw (m:=ask) (wpAny_askSetting ?_)
    split
    · exact zM rfl loop
    · refine zw (wpAny_rule ?_)
      first
        | exact zw (wpAny_standAt (zw (T'.self _ 0 s _ _ t0 (zM rfl loop))))
        | (show Sg _ B _ _ ((standAt iter.pos >>= _).wrap _ _ _ _) [] s
           exact zw (wpAny_standAt (zw (T'.self _ 0 s _ _ t0 (zM rfl loop)))))
structure BlkG (X:Cx) (sc:Scope) (N':List Str) (tg iter:Expr) (ifs:List Expr) (elt:Expr) (pos:Pos) (g:D→En→Sr→Res En) (mt:En→Sr→Res Bool) (me:En→Sr→Res D):Prop where
  rt:∀ cl C code fp it o s H,PG (genCx X sc cl C code N' fp (.GeneratorExp elt [⟨tg,iter,ifs,0⟩] sc pos) it o s H) tg (TGt g)
  ri:∀ cl C code fp it o s H,PTl (genCx X sc cl C code N' fp (.GeneratorExp elt [⟨tg,iter,ifs,0⟩] sc pos) it o s H) ifs (TB mt)
  re:∀ cl C code fp it o s H,PE (genCx X sc cl C code N' fp (.GeneratorExp elt [⟨tg,iter,ifs,0⟩] sc pos) it o s H) elt (T me)
noncomputable def GH (X:Cx) (pins:List (Addr × Obj)) (σ:St) (ds:List D) (gu:Sr→Prop) (g:D→En→Sr→Res En) (mt:En→Sr→Res Bool) (me:En→Sr→Res D) (a:Addr) (ρ:En) (S:Sr) (ι:List Addr) (H:Hp) (s:Shared):Prop :=
  ∃ sc cl C code N' fp ge it o s4 H4 J tn,(∀ h:Heap,h.get? a=some o→h.IsGen a s4.gens.size)∧(∀ k,Cs (genCx X sc cl C code N' fp ge it (a,o) s4 H4) J tn fp ds gu X.A.in4.in1 g mt me s4.gens.size k 0 ρ S ι H [] s)∧(∀ b∈fp,b<s.heap.objs.size) ∧
    (∀ i h h',tn i h→(∀ b∈fp,∀ o,h.get? b=some o→h'.get? b=some o)→tn i h') ∧
    ∀ pins' σ' H' z,Inv (genCx X sc cl C code N' fp ge it (a,o) s4 H4) pins' σ' H' (z.setGen s4.gens.size .running)→GK s4.gens z.gens→Inv X pins σ H' z
theorem qdZ {tg elt iter:Expr} {ifs:List Expr} {sc:Scope} {fr:List Nat} {xs ts:List Str} {mi:En→Sr→Res (List D × (Sr→Prop))} {g:D→En→Sr→Res En} {mt:En→Sr→Res Bool} {me:En→Sr→Res D} {c T:Addr} (hc:X.calm=true) (hroom:X.A.depth<recursionLimit)
    (hi:PI X tg iter (TIg mi)) (hs:∀ x,genFold iter X.env x=pure x) (C':CSc X sc fr xs ts) (hz:sc.names.lookup (".0":Str)=some NameKind.local) (hco:sc.isCoroutine=false) (hcode:X.env.code=.ref c) (htab:codeTab X.K c T=true) (B:BlkG X sc (xs++ts) tg iter ifs elt pos g mt me)
    {pins:List (Addr × Obj)} {s:Shared} {σ:St} {H:Hp} {ι:List Addr} {S:Sr} {ρ:En} (I:Inv X pins σ H s) (er:EnR ι H ρ σ) (st:Sto ι H S) {ds:List D} {gu:Sr→Prop} {S1:Sr} (hm:mi ρ S=.ok (ds,gu) S1) :
    wpAny (model X.prog X.w) X.A (eval (.GeneratorExp elt [⟨tg,iter,ifs,0⟩] sc pos) X.env) (fun v s'=>∃ a ι' H',v=.ref a∧Stp ι H ι' H'∧GH X pins σ ds gu g mt me a (frE ρ fr ts.length) S1 ι' H' s') X.xe s:=by
  obtain ⟨cl,CL⟩:=qbZ (X:=X) (sc:=sc) fun x hx hf=>I.ok.has x.1 (C'.frees x hx hf)
  refine wpAny_GeneratorExp_make hco CL.eq C'.nocell hz C'.kind hroom ?_ hs
  refine thn (hi pins s σ H (fun J H2=>∃ ι2,Stp ι H ι2 H2∧Sto ι2 H2 S1∧ItG ι2 H2 J ds gu) I ⟨ι,S,ρ,er,st,?_⟩) fun xv s1 h1=>thn h1 fun itv s2 h2=>?_
  · rw [hm];exact fun ι' H' J q st' ok=>⟨ι',q,st',ok⟩
  obtain ⟨it,fp,tn,J,H2,e,I2,T',t2,f2,ι2,q2,st2,ok2⟩:=h2
  subst e
  refine ⟨I2.nolimit,thn (qdX I2 hcode htab) fun code s3 ⟨H3,I3,eg,sp3,so3,kp3⟩=>qfO I3 ?_⟩
  intro h5 hn5 hs5
  have fpl:∀ b∈fp,∃ o,s2.heap.get? b=some o∧H2 b=none:=fun b hb=>by
    obtain ⟨o,eo,_⟩:=T'.obj _ _ t2 b hb
    exact ⟨o,eo,(f2 b hb).1⟩
  have f3:∀ b∈fp,FpOk X pins H3 b:=fun b hb=>by
    obtain ⟨o,e1,e2⟩:=fpl b hb
    exact ⟨(kp3 b o e1 e2).2,(f2 b hb).2⟩
  have l3:∀ b∈fp,b<s3.heap.objs.size:=fun b hb=>by
    obtain ⟨o,e1,e2⟩:=fpl b hb
    exact Heap.lt_size (kp3 b o e1 e2).1
  have hsz:h5.objs.size=s3.heap.objs.size+1:=by rw [hs5.1,Heap.size_push]
  have keep5:∀ (u:Obj) b o,s3.heap.get? b=some o→(h5.push u).get? b=some o:=fun u b o e=>Heap.get?_push_of_some _ (hs5.extBut b o (Nat.ne_of_lt (Heap.lt_size e)) (Heap.get?_push_of_some _ e))
  generalize hob:({ cls:=.type "generator",data:=.fields #[.int s3.gens.size 0,.str "<genexpr>" (s3.toks+1),.str (X.env.qual++"<genexpr>") (s3.toks+1+1)] }:Obj)=ob
  have hfree:H3 h5.objs.size=none:=I3.hok.fresh (by rw [hsz];lia)
  have ok5:=qdY (code:=code) (N':=xs++ts) (tg:=tg) (elt:=elt) (iter:=iter) (ifs:=ifs) (pos:=pos) (it:=it) (o:=(h5.objs.size,ob)) I3 C'.kind C'.nocell CL f3 l3
  have ns5:(h5.push ob).Ns s3.heap.objs.size (fun y=>if y=".0" then some (.ref it) else none):=hn5.push _
  have ek:∀ n,(s3.gens.push (GenState.fresh n)).setIfInBounds s3.gens.size .running=s3.gens.push .running:=fun n=>by
    apply Array.ext
    · simp
    · intro j h1 h2
      by_cases q:j=s3.gens.size
      · subst q;simp
      · have:j<s3.gens.size:=by simp at h2;lia
        rw [Array.getElem_setIfInBounds (by simp;lia),if_neg (Ne.symm q),Array.getElem_push_lt this,Array.getElem_push_lt this]
  have pinA:∀ b:Addr,(h5.objs.size)≠b∨b=h5.objs.size:=fun b=>by
    by_cases q:b=h5.objs.size
    · exact .inr q
    · exact .inl (Ne.symm q)
  have hpin:(h5.push ob).get? h5.objs.size=some ob:=by subst hob;exact Heap.get?_push_size _ rfl
  have F:=C'.frs
  have inv5:∀ (gg:Array GenState) (tk:Nat),gg=s3.gens.push .running→Inv (genCx X sc cl s3.heap.objs.size code (xs++ts) fp (.GeneratorExp elt [⟨tg,iter,ifs,0⟩] sc pos) it (h5.objs.size,ob) s3 H3) [] (frS σ fr ts.length) H3 { s3 with heap:=h5.push ob,toks:=tk,gens:=gg }:=by
    intro gg tk hgg
    refine ⟨ok5,rfl,?_,Un.kept (keep5 ob),⟨_,ns5,fun i x v h1 h2 h3=>?_⟩,fun x cc e=>?_,I3.hok.fresh (Nat.le_refl _),fun x cc e=>I3.freeC x cc (CL.sub x cc e),fun p hp=>?_,I3.hok.kept (keep5 ob),?_⟩
    · subst hgg
      exact GK.refl (AllBare.push I3.bare.bare rfl)
    · have h1:(xs++ts)[i]?=some x:=h1
      have h2:(frS σ fr ts.length)[i]?=some (some v):=h2
      unfold frS at h2
      by_cases hi:i<fr.length
      · rw [List.getElem?_append_left (by simpa using hi),List.getElem?_map,List.getElem?_eq_getElem hi] at h2
        rw [List.getElem?_append_left (by rw [← F.len];exact hi)] at h1
        simp only [Option.map_some,Option.some.injEq] at h2
        have hN:=F.at' i fr[i] x (List.getElem?_eq_getElem hi) h1
        have hσ:σ[fr[i]]?=some (some v):=by
          cases z:σ[fr[i]]? with
          | none=>rw [z] at h2;cases h2
          | some o=>rw [z] at h2;simp at h2;rw [h2]
        obtain ⟨kf,ko⟩:=F.kd x (List.mem_of_getElem? h1)
        obtain ⟨m0,hn0,hl0⟩:=I3.loc
        obtain ⟨u,r,l⟩:=hl0 fr[i] x v hN hσ (.inr ko)
        refine ⟨u,r,.inr ?_⟩
        have hcc:∃ cc,X.env.cells.lookup x=some cc∧s3.heap.IsCell cc (some u):=by
          rcases l with ⟨z,_⟩ | ⟨_,cc,e1,e2⟩
          · rcases ko with q | q <;> (rw [z] at q;cases q)
          · exact ⟨cc,e1,e2⟩
        obtain ⟨cc,e1,o,e2,e3⟩:=hcc
        obtain ⟨c',e4⟩:=CL.all x kf
        have e5:=CL.sub x c' e4
        rw [e1] at e5;cases e5
        exact ⟨.inr kf,cc,e4,o,keep5 ob _ _ e2,e3⟩
      · rw [List.getElem?_append_right (by simpa using hi),List.getElem?_replicate] at h2
        split at h2 <;> cases h2
    · obtain ⟨v,o,e1,e2⟩:=I3.cell x cc (CL.sub x cc e)
      exact ⟨v,o,keep5 ob _ _ e1,e2⟩
    · have hp':p=(h5.objs.size,ob):=by
        have:p∈[(h5.objs.size,ob)]++([]:List (Addr × Obj)):=hp
        simpa using this
      subst hp'
      refine ⟨hpin,hfree,(show h5.objs.size≠s3.heap.objs.size by lia),fun z=>?_,fun v=>?_⟩
      · have z':h5.objs.size∈frs X.stack:=z
        rcases List.mem_cons.mp (I3.stkSub _ z') with q | q
        · have:=I3.lt
          rw [← q,hsz] at this
          exact absurd this (Nat.not_lt.mpr (Nat.le_succ _))
        · exact absurd q (I3.nofs (by lia))
      · show ob.data≠_
        rw [← hob];intro z;cases z
    · show (frS σ fr ts.length).length=(xs++ts).length
      simp [frS,F.len]
  refine ⟨h5.objs.size,ι2,H3,rfl,q2.trans (sp3 ι2),sc,cl,s3.heap.objs.size,code,xs++ts,fp,.GeneratorExp elt [⟨tg,iter,ifs,0⟩] sc pos,it,ob,s3,H3,J,tn,fun h e=>?_,fun k=>⟨?_,_,Array.getElem?_push_size ..,rfl,?_⟩,fun b hb=>?_,T'.keep,fun pins' σ' H' z J' gk=>?_⟩
  · rw [← hob] at e
    exact ⟨_,_,_,e,rfl,rfl,rfl⟩
  · refine ⟨⟨frS σ fr ts.length,?_,(qb0 er fr ts.length).mono (q2.trans (sp3 ι2))⟩,so3 _ _ st2,T'.keep _ _ _ t2 fun b hb o eo=>keep5 ob b o (kp3 b o eo (f2 b hb).1).1,Nat.zero_le _,fun b hb=>(f3 b hb).1,ok2.mono (sp3 ι2),fun p hp=>absurd hp (by simp)⟩
    exact inv5 _ _ (ek _)
  · exact qcU (X:=genCx X sc cl s3.heap.objs.size code (xs++ts) fp (.GeneratorExp elt [⟨tg,iter,ifs,0⟩] sc pos) it (h5.objs.size,ob) s3 H3) rfl hc rfl (fun p hp hb=>by
      have hp':p=(h5.objs.size,ob):=by
        have:p∈[(h5.objs.size,ob)]:=hp
        simpa using this
      subst hp'
      have:=l3 _ hb
      have e:h5.objs.size<s3.heap.objs.size:=this
      lia) rfl hco T' (B.rt _ _ _ _ _ _ _ _) (B.ri _ _ _ _ _ _ _ _) (B.re _ _ _ _ _ _ _ _) _ _ k
  · have:=l3 b hb
    show b<(h5.push ob).objs.size
    rw [Heap.size_push]
    exact Nat.lt_of_lt_of_le (l3 b hb) (by lia)
  · have ba:Un (frs X.stack) fp H3 H' s3.heap z.heap:=J'.base
    exact I3.call' (ch:=fp) J'.os ba J'.hok gk fun b hb=>⟨(f3 b hb).2.2.2.1,(f3 b hb).2.1,(f3 b hb).2.2.2.2.1,(f3 b hb).2.2.2.2.2⟩
end
end R
namespace R
open PySem PySem.Spec L2 SeqAt
open PyProof.Rows hiding St
section
variable {X:Cx} {pos:Pos}
theorem qaG {M:Model} {A:Around} {α:Type} {t:Sem α} {Q:α→Shared→Prop} {E:Value→Shared→Prop} {s:Shared} (h:wpAny M A.in4 t Q E s):wpAny M A.in1 t Q E s:=wpAny_of_in1 (wpAny_of_in1 (wpAny_of_in1 h))
section
variable {sc:Scope} {cl:List (Str × Addr)} {C:Addr} {code:Value} {N':List Str} {fp:List Addr} {ge:Expr} {it a:Addr} {o:Obj} {s4:Shared} {H4:Hp} {J:It} {tn:Nat→Heap→Prop} {ds:List D} {gu:Sr→Prop} {g:D→En→Sr→Res En} {mt:En→Sr→Res Bool} {me:En→Sr→Res D}
theorem qd0 {β:Type} {step:β→D→Option (β ⊕ D)} {fin:β→Option D} {i:Nat} {ρ:En} {b:β} {S S':Sr} {d:D} (h:genLoopG gu g mt me step fin (ds.drop i) ρ b S=.ok d S'):gnx gu g mt me i (ds.drop i) ρ S≠.bad:=fun z=>by
  have q:=zN h
  rw [z] at q;cases q
theorem qfP {R:Result→Shared→Prop} (hh:X.A.handled=none) (hd:X.A.depth<recursionLimit) (hg:∀ h:Heap,h.get? a=some o→h.IsGen a s4.gens.size):∀ (k i:Nat) (ρ:En) (b:D) (S:Sr) (ι:List Addr) (H:Hp) (s:Shared) {d:D} {S':Sr},ds.length<k+i →
    Cs (genCx X sc cl C code N' fp ge it (a,o) s4 H4) J tn fp ds gu X.A.in4.in1 g mt me s4.gens.size k i ρ S ι H [] s→genLoopG gu g mt me (stepG .all) (finG .all) (ds.drop i) ρ b S=.ok d S' →
    (∀ σ' ι' H' z c,d=.bl c→Inv (genCx X sc cl C code N' fp ge it (a,o) s4 H4) [] σ' H' (z.setGen s4.gens.size .running)→GK s4.gens z.gens→Stp ι H ι' H'→Sto ι' H' S'→R (.ok (.ret (.bool c))) z) →
    codeAny (model X.prog X.w) X.A (.builtin "all.loop" ⟨[.ref a],[]⟩) R s:=by
  intro k
  induction k with
  | zero =>
    intro i ρ b S ι H s d S' hk Cc _ _
    have:=Cc.sus.le
    lia
  | succ k ih =>
    intro i ρ b S ι H s d S' hk Cc e hR
    refine codeAny_builtin F.entry_all_loop ?_
    rw [Around.under_plainId F.plain_all_loop]
    refine wpAny_bind (m:=pyNext (.ref a)) (qaG (qb2 (X:=genCx X sc cl C code N' fp ge it (a,o) s4 H4) (A:=X.A.in4) hh hd List.mem_cons_self hg rfl rfl Cc (qd0 e) (fun S2 ι' H' σ' z ez Iz gk q st=>?_) fun i' ρ' v S2 ι' H' y u z ez q dv ry Cz=>?_))
    · have q2:=zN e
      rw [ez] at q2
      cases q2
      exact wpAny_bind (wpAny_rule (wpAny_pure (hR σ' ι' H' z true rfl Iz gk q st)))
    · have q2:=zN e
      have hi:=jh _ _ _ _ ez
      rw [ez] at q2
      simp only [gen1] at q2
      have hv:∃ c,v=.bl c:=by
        cases v with
        | bl c=>exact ⟨c,rfl⟩
        | _=>simp only [stepG] at q2;cases q2
      obtain ⟨c,rfl⟩:=hv
      cases (show y=_ from dv)
      cases (show u=Value.bool c from ry)
      refine wpAny_bind (wpAny_holding (wpAny_truthy_bool (wpAny_bind (wpAny_letGo ?_))))
      cases c with
      | true =>
        simp only [stepG] at q2
        rw [if_pos rfl]
        exact wpAny_pure ⟨plainId_quiet F.plain_all_loop _,ih i' ρ' _ S2 ι' H' z (by lia) Cz q2 fun σ2 ι2 H2 z2 c ec I2 gk s2 st2=>hR σ2 ι2 H2 z2 c ec I2 gk (q.trans s2) st2⟩
      | false =>
        simp only [stepG] at q2
        cases q2
        rw [if_neg (by decide)]
        obtain ⟨⟨⟨σz,Iz,erz⟩,stz,_⟩,gs,eg,bg,_⟩:=Cz
        exact wpAny_bind (wpAny_rule (wpAny_pure (hR σz ι' H' z false rfl Iz (GK.done Iz.bare eg bg) q stz)))
end
end
end R
namespace R
open PySem PySem.Spec L2 SeqAt
open PyProof.Rows hiding St
section
variable {X:Cx} {J:It} {tn:Nat→Heap→Prop} {fp:List Addr} {ds:List D} {gu:Sr→Prop} {B:Around} {g:D→En→Sr→Res En} {mt:En→Sr→Res Bool} {me:En→Sr→Res D} {n k i:Nat} {ρ:En} {S:Sr} {ι:List Addr} {H:Hp} {s:Shared}
theorem qfQ (C:Cs X J tn fp ds gu B g mt me n k i ρ S ι H [] s) (tk:∀ i h h',tn i h→(∀ b∈fp,∀ o,h.get? b=some o→h'.get? b=some o)→tn i h') (hf:∀ b∈fp,b<s.heap.objs.size) {u:Obj} (hu:(s.heap.push u).get? s.heap.objs.size=some u) (hc:∀ v,u.data≠.cell v) {t:Nat} :
    Cs X J tn fp ds gu B g mt me n k i ρ S ι H [(s.heap.objs.size,u)] { s with heap:=s.heap.push u,toks:=t }:=by
  obtain ⟨⟨⟨σ,I,er⟩,st,at',le,fz,ok,pf⟩,w⟩:=C
  refine ⟨⟨⟨σ,?_,er⟩,st,tk _ _ _ at' fun b _ o e=>Heap.get?_push_of_some _ e,le,fz,ok,fun p hp hb=>?_⟩,w⟩
  · have I1:=I.kept (h':=s.heap.push u) (t':=t) fun b o e=>Heap.get?_push_of_some _ e
    refine I1.pins_of fun p hp=>?_
    obtain rfl:=List.mem_singleton.mp hp
    exact ⟨hu,I.hok.fresh (Nat.le_refl _),Nat.ne_of_gt I.lt,I.nofs (Nat.le_refl _),hc⟩
  · obtain rfl:=List.mem_singleton.mp hp
    exact absurd (hf _ hb) (Nat.lt_irrefl _)
theorem qfR {p:Addr} {u u':Obj} {h':Heap} {t:Nat} (C:Cs X J tn fp ds gu B g mt me n k i ρ S ι H [(p,u)] s) (tk:∀ i h h',tn i h→(∀ b∈fp,∀ o,h.get? b=some o→h'.get? b=some o)→tn i h') (hs:X.s₀.heap.objs.size≤p) (hn:∀ q∈X.pn,q.1≠p)
    (hk:∀ b o,b≠p→s.heap.get? b=some o→h'.get? b=some o) (hu:h'.get? p=some u') (hc:∀ v,u'.data≠.cell v):Cs X J tn fp ds gu B g mt me n k i ρ S ι H [(p,u')] { s with heap:=h',toks:=t }:=by
  obtain ⟨⟨⟨σ,I,er⟩,st,at',le,fz,ok,pf⟩,w⟩:=C
  obtain ⟨e1,e2,e3,e4,e5⟩:=I.pin (p,u) (List.mem_append_right _ (List.mem_singleton.mpr rfl))
  have np:p ∉ fp:=pf (p,u) (List.mem_singleton.mpr rfl)
  refine ⟨⟨⟨σ,?_,er⟩,st,tk _ _ _ at' fun b hb o e=>hk b o (fun z=>np (z ▸ hb)) e,le,fz,ok,fun q hq hb=>?_⟩,w⟩
  · have I0:Inv X [] σ H (s.setGen n .running):=I.unpinned (pins:=[]) (pl:=[(p,u)])
    have I1:=I0.turned (h':=h') (t':=t) (it:=p) hk e2 e3 (.inr hs) (fun x c ec z=>by
      obtain ⟨v,o,eo,d⟩:=I0.cell x c ec
      rw [z,e1] at eo;cases eo
      exact e5 v d) fun q hq=>hn q (by simpa using hq)
    refine I1.pins_of fun q hq=>?_
    obtain rfl:=List.mem_singleton.mp hq
    exact ⟨hu,e2,e3,e4,hc⟩
  · obtain rfl:=List.mem_singleton.mp hq
    exact np hb
end
noncomputable def accO (t:Int) (tA:Tok) (c:Nat):Obj:={ cls:=.type "list",dict:=none,data:=.seq #[.int t tA] c,slots:=#[] }
section
variable {X:Cx} {sc:Scope} {cl:List (Str × Addr)} {C:Addr} {code:Value} {N':List Str} {fp:List Addr} {ge:Expr} {it a:Addr} {o:Obj} {s4:Shared} {H4:Hp} {J:It} {tn:Nat→Heap→Prop} {ds:List D} {gu:Sr→Prop} {g:D→En→Sr→Res En} {mt:En→Sr→Res Bool} {me:En→Sr→Res D}
theorem qfS {R:Result→Shared→Prop} (hh:X.A.handled=none) (hd:X.A.depth<recursionLimit) (hg:∀ h:Heap,h.get? a=some o→h.IsGen a s4.gens.size) (tk:∀ i h h',tn i h→(∀ b∈fp,∀ o,h.get? b=some o→h'.get? b=some o)→tn i h')
    {p:Addr} (hp:s4.heap.objs.size≤p) (hpa:a≠p):∀ (k i:Nat) (ρ:En) (t:Int) (S:Sr) (ι:List Addr) (H:Hp) (s:Shared) (tA:Tok) (c:Nat) (sg:Int) {d:D} {S':Sr},(sg=0∨sg=2)→ds.length<k+i →
    Cs (genCx X sc cl C code N' fp ge it (a,o) s4 H4) J tn fp ds gu X.A.in4.in1 g mt me s4.gens.size k i ρ S ι H [(p,accO t tA c)] s→genLoopG gu g mt me (stepG .sum) (finG .sum) (ds.drop i) ρ (.int t) S=.ok d S' →
    (∀ pins' σ' ι' H' z r tz,d=.int r→Inv (genCx X sc cl C code N' fp ge it (a,o) s4 H4) pins' σ' H' (z.setGen s4.gens.size .running)→GK s4.gens z.gens→Stp ι H ι' H'→Sto ι' H' S'→R (.ok (.ret (.int r tz))) z) →
    codeAny (model X.prog X.w) X.A (.builtin "sum.loop" ⟨[.ref a,.ref p,rawInt sg,rawInt 0],[]⟩) R s:=by
  intro k
  induction k with
  | zero =>
    intro i ρ t S ι H s tA c sg d S' _ hk Cc _ _
    have:=Cc.sus.le
    lia
  | succ k ih =>
    intro i ρ t S ι H s tA c sg d S' hsg hk Cc e hR
    have hS:s.heap.get? p=some (accO t tA c):=by
      obtain ⟨σ,I,_⟩:=Cc.sus.inv
      exact (I.pin (p,accO t tA c) (List.mem_append_right _ (List.mem_singleton.mpr rfl))).1
    refine codeAny_builtin F.entry_sum_loop ?_
    rw [Around.under_plainId F.plain_sum_loop]
    refine wpAny_bind (m:=seqItems? (.ref p)) (wpAny_seqItems hS rfl ?_)
    refine wpAny_bind (m:=tryCatch (pyNext (.ref a)) _) (wpAny_tryCatch ?_)
    refine qaG (qb2 (X:=genCx X sc cl C code N' fp ge it (a,o) s4 H4) (A:=X.A.in4) hh hd List.mem_cons_self hg rfl rfl Cc (qd0 e) (fun S2 ι' H' σ' z ez Iz gk q st=>?_) fun i' ρ' v S2 ι' H' y u z ez q dv ry Cz=>?_)
    · have q2:=zN e
      rw [ez] at q2
      cases q2
      exact wpAny_pure (hR _ σ' ι' H' z t tA rfl Iz gk q st)
    · have q2:=zN e
      have hi:=jh _ _ _ _ ez
      rw [ez] at q2
      simp only [gen1] at q2
      have hv:∃ r,v=.int r:=by
        cases v with
        | int r=>exact ⟨r,rfl⟩
        | _=>simp only [stepG] at q2;cases q2
      obtain ⟨r,rfl⟩:=hv
      cases (show y=_ from dv)
      obtain ⟨tr,rfl⟩:=(show ∃ tr,u=Value.int r tr from ry)
      simp only [stepG] at q2
      have hS':z.heap.get? p=some (accO t tA c):=by
        obtain ⟨σ,I,_⟩:=Cz.sus.inv
        exact (I.pin (p,accO t tA c) (List.mem_append_right _ (List.mem_singleton.mpr rfl))).1
      have hup:=Heap.get?_update_self (h:=z.heap) (Obj.mapSeq fun _=>#[Value.int (t+r) z.toks]) hS' rfl
      have fin:∀ (h2:Heap) (tk2:Nat) (tA2:Tok) (c2:Nat) (sg2:Int),(sg2=0∨sg2=2)→(∀ b o,b≠p→z.heap.get? b=some o→h2.get? b=some o)→h2.get? p=some (accO (t+r) tA2 c2) →
          codeAny (model X.prog X.w) X.A (.builtin "sum.loop" ⟨[.ref a,.ref p,rawInt sg2,rawInt 0],[]⟩) R { z with heap:=h2,toks:=tk2 }:=fun h2 tk2 tA2 c2 sg2 hs2 hk2 hu2=>by
        refine ih i' ρ' (t+r) S2 ι' H' _ tA2 c2 sg2 hs2 (by lia) (qfR Cz tk hp (fun q hq=>?_) hk2 hu2 fun v z=>by cases z) q2 fun pins' σ2 ι2 H2 z2 r2 tz ec I2 gk s2 st2=>hR pins' σ2 ι2 H2 z2 r2 tz ec I2 gk (q.trans s2) st2
        have hq':q=(a,o):=by
          have:q∈[(a,o)]:=hq
          simpa using this
        subst hq'
        exact hpa
      have oth:∀ (f:Obj→Obj) (h1:Heap) (b:Addr) (x:Obj),b≠p→h1.get? b=some x→(h1.update p f).get? b=some x:=fun f h1 b x hb ex=>(Heap.get?_update_other _ _ (Ne.symm hb)).trans ex
      rcases hsg with rfl | rfl
      · show wpAny _ _ (if (_:Bool)=true then (mkInt (t+r) >>= _) else _) _ _ z
        split
        · refine wpAny_bind (wpAny_mkInt ?_)
          refine wpAny_bind (m:=updateSeq p _) (wpAny_updateSeq hS' rfl (wpAny_pure ⟨plainId_quiet F.plain_sum_loop _,?_⟩))
          exact fin _ _ z.toks _ 0 (.inl rfl) (fun b x hb ex=>oth _ _ b x hb ex) hup
        · refine wpAny_bind (wpAny_rule (wpAny_bind (wpAny_attempt (wpAny_holding (wpAny_add_int ?_)))))
          refine wpAny_bind (m:=updateSeq p _) (wpAny_updateSeq hS' rfl (wpAny_bind (wpAny_letGo ?_)))
          refine wpAny_bind (m:=updateSeq p _) (wpAny_updateSeq hup rfl (wpAny_pure ⟨plainId_quiet F.plain_sum_loop _,?_⟩))
          exact fin _ _ z.toks _ 2 (.inr rfl) (fun b x hb ex=>oth _ _ b x hb (oth _ _ b x hb ex)) (Heap.get?_update_self _ hup rfl)
      · refine wpAny_bind (m:=(holding [Value.int r tr] (binaryOp .Add (.int t tA) (.int r tr))).attempt) (wpAny_attempt (wpAny_holding (wpAny_add_int ?_)))
        refine wpAny_bind (m:=updateSeq p _) (wpAny_updateSeq hS' rfl (wpAny_bind (wpAny_letGo ?_)))
        refine wpAny_bind (m:=updateSeq p _) (wpAny_updateSeq hup rfl (wpAny_pure ⟨plainId_quiet F.plain_sum_loop _,?_⟩))
        exact fin _ _ z.toks _ 2 (.inr rfl) (fun b x hb ex=>oth _ _ b x hb (oth _ _ b x hb ex)) (Heap.get?_update_self _ hup rfl)
end
end R
namespace R
open PySem PySem.Spec L2 SeqAt
open PyProof.Rows hiding St
noncomputable def mGenG (w:GW) (fr:List Nat) (nt:Nat) (mi:En→Sr→Res (List D × (Sr→Prop))) (g:D→En→Sr→Res En) (mt:En→Sr→Res Bool) (me:En→Sr→Res D):En→Sr→Res D:=fun ρ S=>(mi ρ S).bind fun p S1 =>
  genLoopG p.2 g mt me (stepG w) (finG w) p.1 (frE ρ fr nt) (startG w) S1
noncomputable def mGen (w:GW) (fr:List Nat) (nt:Nat) (mi:En→Sr→Res (List D)) (g:D→En→Sr→Res En) (mt:En→Sr→Res Bool) (me:En→Sr→Res D):En→Sr→Res D:=fun ρ S=>(mi ρ S).bind fun ds S1 =>
  genLoop g mt me (stepG w) (finG w) ds (frE ρ fr nt) (startG w) S1
theorem qhB {w:GW} {fr:List Nat} {nt:Nat} {mi:En→Sr→Res (List D)} {g:D→En→Sr→Res En} {mt:En→Sr→Res Bool} {me:En→Sr→Res D}:mGenG w fr nt (fun ρ S=>(mi ρ S).bind fun ds S1=>.ok (ds,fun _=>True) S1) g mt me=mGen w fr nt mi g mt me:=by
  funext ρ S
  unfold mGenG mGen
  dsimp only
  cases mi ρ S with
  | ok ds S1=>exact zL _ _ _ _
  | err=>rfl
  | no=>rfl
section
variable {X:Cx} {pos gp:Pos}
noncomputable def GCall (X:Cx) (w:GW) (f:Value):Prop:=∀ (pins:List (Addr × Obj)) (s:Shared) (σ:St) (H:Hp) (ι:List Addr) (a:Addr) (ds:List D) (gu:Sr→Prop) (g:D→En→Sr→Res En) (mt:En→Sr→Res Bool) (me:En→Sr→Res D) (ρ:En) (S:Sr) (Q:VK),
  GH X pins σ ds gu g mt me a ρ S ι H s→Pst Den (genLoopG gu g mt me (stepG w) (finG w) ds ρ (startG w) S) ι H Q→wpAny (model X.prog X.w) X.A (call f [.ref a]) (EP X pins σ Q) X.xe s
theorem qb3 {w:GW} {ds:List D} {gu:Sr→Prop} {g:D→En→Sr→Res En} {mt:En→Sr→Res Bool} {me:En→Sr→Res D} {ρ:En} {b:D} {S:Sr} {ι:List Addr} {H:Hp} {Q:VK} (h:Pst Den (genLoopG gu g mt me (stepG w) (finG w) ds ρ b S) ι H Q) :
    ∃ d S',genLoopG gu g mt me (stepG w) (finG w) (ds.drop 0) ρ b S=.ok d S'∧∀ y ι' H',Stp ι H ι' H'→Sto ι' H' S'→Den ι' H' d y→Q y H':=by
  rw [List.drop_zero]
  cases z:genLoopG gu g mt me (stepG w) (finG w) ds ρ b S with
  | no=>rw [z] at h;exact h.elim
  | err=>rw [z] at h;exact h.elim
  | ok d S'=>rw [z] at h;exact ⟨d,S',rfl,h⟩
theorem qhC (hc:X.calm=true) (hd:X.A.depth<recursionLimit) (hok:X.calm=true→X.A.handled=none):GCall X .all (.builtin "all"):=by
  intro pins s σ H ι a ds gu g mt me ρ S Q gh h
  obtain ⟨sc,cl,C,code,N',fp,ge,it,o,s4,H4,J,tn,hg,cs,hf,tk,out⟩:=gh
  obtain ⟨d,S',e,q⟩:=qb3 h
  have ha:s.heap.get? a=some o:=by
    obtain ⟨σ',I,_⟩:=(cs 0).sus.inv
    exact (I.pin (a,o) (List.mem_append_left _ List.mem_cons_self)).1
  refine call_function_tree F.kind_all F.plain_all F.entry_all (F.args_all1 _) ?_
  unfold Builtin.«all»
  refine wpAny_bind (m:=oneArg "all" _) (wpAny_pure (wpAny_bind (wpAny_pyIter_gen (hg _ ha) (wpAny_pure ⟨plainId_quiet F.plain_all_loop _,?_⟩))))
  exact qfP (hok hc) hd hg (ds.length+1) 0 ρ _ S ι H s (by lia) (cs _) e fun σ' ι' H' z c ed Iz gk s1 st1=>⟨.bl c,H',out _ σ' H' z Iz gk,rfl,q _ ι' H' s1 st1 (by subst ed;rfl)⟩
theorem qhD (hc:X.calm=true) (hd:X.A.depth<recursionLimit) (hok:X.calm=true→X.A.handled=none):GCall X .sum (.builtin "sum"):=by
  intro pins s σ H ι a ds gu g mt me ρ S Q gh h
  obtain ⟨sc,cl,C,code,N',fp,ge,it,o,s4,H4,J,tn,hg,cs,hf,tk,out⟩:=gh
  obtain ⟨d,S',e,q⟩:=qb3 h
  have hh:=(cs 0).sus.inv
  obtain ⟨σ',I,_⟩:=hh
  have ha:s.heap.get? a=some o:=(I.pin (a,o) (List.mem_append_left _ List.mem_cons_self)).1
  refine call_function_tree F.kind_sum F.plain_sum F.entry_sum (F.args_sum1 _) ?_
  unfold Builtin.«sum»
  simp only [List.length_cons,List.length_nil]
  rw [if_neg (by decide)]
  refine wpAny_bind (wpAny_of_eq (show Builtin.Builtins.bindParams "sum" ["start"] 0 { }=pure [none] from rfl) (wpAny_bind (wpAny_pyIter_gen (hg _ ha) ?_)))
  refine wpAny_bind (wpAny_mkInt (wpAny_bind (wpAny_pure ?_)))
  simp only [List.forIn_cons,List.forIn_nil]
  refine wpAny_bind (wpAny_bind (wpAny_bind (wpAny_isInstance (T:="int") (b:=false) (typeIs_int _ _ _) PySem.sub_int_str ?_)))
  rw [if_neg Bool.false_ne_true]
  refine wpAny_pure (wpAny_bind (wpAny_bind (wpAny_isInstance (T:="int") (b:=false) (typeIs_int _ _ _) PySem.sub_int_bytes ?_)))
  rw [if_neg Bool.false_ne_true]
  refine wpAny_pure (wpAny_bind (wpAny_bind (wpAny_isInstance (T:="int") (b:=false) (typeIs_int _ _ _) PySem.sub_int_bytearray ?_)))
  rw [if_neg Bool.false_ne_true]
  refine wpAny_pure (wpAny_pure (wpAny_bind (wpAny_newObj_type (wpAny_pure ⟨plainId_quiet F.plain_sum_loop _,?_⟩))))
  have lt:s4.heap.objs.size≤s.heap.objs.size:=I.sz
  have hne:a≠s.heap.objs.size:=Nat.ne_of_lt (Heap.lt_size ha)
  refine qfS (hok hc) hd hg tk (p:=s.heap.objs.size) lt hne (ds.length+1) 0 ρ 0 S ι H _ s.toks 0 0 (.inl rfl) (by lia) (qfQ (cs _) tk hf (Heap.get?_push_size _ rfl) fun v z=>by cases z) e fun pins' σ' ι' H' z r tz ed Iz gk s1 st1=>⟨.int r,H',out _ σ' H' z Iz gk,⟨tz,rfl⟩,q _ ι' H' s1 st1 (by subst ed;rfl)⟩
theorem qhE {w:GW} {id:String} {f:Str} {p:Pos} {tg elt iter:Expr} {ifs:List Expr} {sc:Scope} {fr:List Nat} {xs ts:List Str} {mi:En→Sr→Res (List D × (Sr→Prop))} {g:D→En→Sr→Res En} {mt:En→Sr→Res Bool} {me:En→Sr→Res D} {c T':Addr} (hc:X.calm=true) (hroom:X.A.depth<recursionLimit)
    (gc:GCall X w (.builtin id)) (hgl:Gl X f) (hm:X.mg f=none) (hv:bootBuiltins f=some (.builtin id)) (hn:f≠"__name__") (hdb:(f == ("__debug__":Str))=false)
    (hi:PI X tg iter (TIg mi)) (hs:∀ x,genFold iter X.env x=pure x) (C':CSc X sc fr xs ts) (hz:sc.names.lookup (".0":Str)=some NameKind.local) (hco:sc.isCoroutine=false) (hcode:X.env.code=.ref c) (htab:codeTab X.K c T'=true) (B:BlkG X sc (xs++ts) tg iter ifs elt gp g mt me) :
    PE X (.Call (.Name f p) [.GeneratorExp elt [⟨tg,iter,ifs,0⟩] sc gp] [] pos) (T (mGenG w fr ts.length mi g mt me)):=by
  intro pins s σ H Q I hw
  refine wpAny_Call_Name_kw (yh I hgl hm hv ?_ hn hdb)
  obtain ⟨ι,S,ρ,er,st,h⟩:=hw
  dsimp only [mGenG] at h
  cases z:mi ρ S with
  | no=>rw [z] at h;exact h.elim
  | err=>rw [z] at h;exact h.elim
  | ok dg S1 =>
    obtain ⟨ds,gu⟩:=dg
    rw [z,Res.bind_ok] at h
    refine PyProof.Rows.callWith_builtin1 (e:=.GeneratorExp elt [⟨tg,iter,ifs,0⟩] sc gp) (rest:=[]) ?_ rfl rfl
    refine Calls.spliced_cons (thn (qdZ hc hroom hi hs C' hz hco hcode htab B I er st z) fun v s' ⟨a,ι',H',ev,q,gh⟩=>?_)
    subst ev
    exact Calls.spliced_nil (gc pins s' σ H' ι' a ds gu g mt me _ S1 Q gh (Pst.from h q))
theorem qiV {w:GW} {id:String} {f:Str} {p:Pos} {tg elt iter:Expr} {ifs:List Expr} {sc:Scope} {fr:List Nat} {xs ts:List Str} {mi:En→Sr→Res (List D)} {g:D→En→Sr→Res En} {mt:En→Sr→Res Bool} {me:En→Sr→Res D} {c T':Addr} (hc:X.calm=true) (hroom:X.A.depth<recursionLimit)
    (gc:GCall X w (.builtin id)) (hgl:Gl X f) (hm:X.mg f=none) (hv:bootBuiltins f=some (.builtin id)) (hn:f≠"__name__") (hdb:(f == ("__debug__":Str))=false)
    (hi:PI X tg iter (TIt mi)) (hs:∀ x,genFold iter X.env x=pure x) (C':CSc X sc fr xs ts) (hz:sc.names.lookup (".0":Str)=some NameKind.local) (hco:sc.isCoroutine=false) (hcode:X.env.code=.ref c) (htab:codeTab X.K c T'=true) (B:BlkG X sc (xs++ts) tg iter ifs elt gp g mt me) :
    PE X (.Call (.Name f p) [.GeneratorExp elt [⟨tg,iter,ifs,0⟩] sc gp] [] pos) (T (mGen w fr ts.length mi g mt me)):=by
  rw [← qhB];exact qhE hc hroom gc hgl hm hv hn hdb (pi_g hi) hs C' hz hco hcode htab B
end
end R
namespace R
open PySem PySem.Spec L2 SeqAt
open PyProof.Rows hiding St
theorem qaH {a b c:Int} (hc:0<c):Builtin.Range.rangeSize a b c=(((b-a+c-1) / c).toNat:Int):=by
  unfold Builtin.Range.rangeSize
  rw [if_pos hc]
  by_cases h:a<b
  · rw [if_pos h]
    have e:b-a+c-1=(b-a-1)+c:=by omega
    have q:(b-a-1+c) / c=(b-a-1) / c+1:=Int.add_ediv_of_dvd_right (Int.dvd_refl c) |>.trans (by rw [Int.ediv_self (by omega)])
    rw [e,q]
    have:=Int.ediv_nonneg (a:=b-a-1) (b:=c) (by omega) (by omega)
    omega
  · rw [if_neg h]
    have:(b-a+c-1) / c≤0:=by
      have h1:b-a+c-1≤c-1:=by omega
      have h2:=Int.ediv_le_ediv hc h1
      have h3:(c-1) / c=0:=Int.ediv_eq_zero_of_lt (by omega) (by omega)
      rw [h3] at h2
      exact h2
    omega
theorem qcV {a b c:Int} (h1:-(2^62)≤a) (h2:a<2^62) (h3:-(2^62)≤b) (h4:b<2^62) (h5:0<c) (h6:c<2^62):Builtin.Range.small a b c=true:=by
  have hz:=qaH (a:=a) (b:=b) h5
  have hle:(b-a+c-1) / c≤2^63-1:=by
    by_cases h:b-a+c-1<0
    · have:=Int.ediv_neg_of_neg_of_pos h h5
      omega
    · have h7:(b-a+c-1) / c≤b-a+c-1-(c-1)∨b-a≤0:=by
        by_cases h8:b-a≤0
        · exact .inr h8
        · left
          have e:b-a+c-1=(b-a-1)+c:=by omega
          have q:(b-a-1+c) / c=(b-a-1) / c+1:=Int.add_ediv_of_dvd_right (Int.dvd_refl c) |>.trans (by rw [Int.ediv_self (by omega)])
          rw [e,q]
          have:=Int.ediv_le_self c (a:=b-a-1) (by omega)
          omega
      rcases h7 with z | z
      · omega
      · have h1:b-a+c-1≤c-1:=by omega
        have h2:=Int.ediv_le_ediv h5 h1
        have h3:(c-1) / c=0:=Int.ediv_eq_zero_of_lt (by omega) (by omega)
        rw [h3] at h2
        omega
  unfold Builtin.Range.small
  rw [hz]
  simp only [Builtin.Range.rangeFitsLong,Bool.and_eq_true,Bool.or_eq_true,decide_eq_true_eq,beq_iff_eq]
  rw [if_pos h5]
  simp only [Bool.and_eq_true,decide_eq_true_eq]
  omega
theorem noPy {x c:Int} (h1:0<c) (h2:c<2^63):Builtin.divisionGoesByPylong x c=false:=by
  refine PyProof.noPylong_of_log2 ?_
  have h:c.natAbs.log2<63:=(Nat.log2_lt (by omega)).mpr (by omega)
  omega
theorem qaI:∀ {xs:List V} {us:List Value},xs.length=us.length→(∀ (i:Nat) (x:V) (u:Value),xs[i]?=some x→us[i]?=some u→RelV x u)→Vals xs us
  | [],[],_,_=>.nil
  | [],_::_,h,_=>by cases h
  | _::_,[],h,_=>by cases h
  | x::xs,u::us,h,k=>.cons (k 0 x u rfl rfl) (qaI (by simpa using h) fun i y w e1 e2=>k (i+1) y w (by simpa using e1) (by simpa using e2))
section
variable {X:Cx} {pos:Pos} {tg:Expr}
noncomputable def RngAt (X:Cx) (pins:List (Addr × Obj)) (σ:St) (ds:List D) (H:Hp) (v:Value) (s:Shared):Prop :=
  ∃ a b c t u w p,v=.ref p∧IsRange s.heap p a b c t u w∧Inv X pins σ H s∧Builtin.Range.small a b c=true∧Builtin.Range.rangeSize a b c=ds.length∧ds=(List.range ds.length).map fun (k:Nat)=>D.int (a+k*c)
theorem qd1 {pins:List (Addr × Obj)} {σ:St} {H:Hp} {s:Shared} {ι:List Addr} {l ds:List D} {vs:List V} {us:List Value} {E:Value→Shared→Prop} (I:Inv X pins σ H s) (r:Vals vs us) (hd:Dens ι H l vs) (e:rngD l=some ds) :
    wpAny (model X.prog X.w) X.A (call (.type "range") us) (RngAt X pins σ ds H) E s:=by
  have fin:∀ {a b c:Int} {t u w:Tok} {tk:Nat},-(2^62)≤a→a<2^62→-(2^62)≤b→b<2^62→0<c→c<2^62→ds=rngL a b c →
      RngAt X pins σ ds H (.ref s.heap.objs.size) { s with heap:=s.heap.push { cls:=.type "range",data:=.fields #[.int a t,.int b u,.int c w] },toks:=tk }:=by
    intro a b c t u w tk h1 h2 h3 h4 h5 h6 ed
    have el:ds.length=((b-a+c-1) / c).toNat:=by rw [ed];unfold rngL;simp
    refine ⟨a,b,c,t,u,w,_,rfl,IsRange.new ..,I.kept fun b o e=>Heap.get?_push_of_some _ e,qcV h1 h2 h3 h4 h5 h6,?_,?_⟩
    · rw [qaH h5,el]
    · rw [el,ed]
      unfold rngL
      exact List.map_congr_left fun k _=>by rw [Int.mul_comm]
  match l,e,hd with
  | [.int b],e,hd =>
    obtain ⟨x,rfl,hx⟩:=dens1 hd
    cases (show x=_ from hx)
    obtain ⟨u,rfl,tu,rfl⟩:=vals1 r
    simp only [rngD] at e
    split at e
    · rename_i h
      cases e
      exact call_range_1 (fin (by omega) (by omega) h.1 h.2 (by omega) (by omega) rfl)
    · cases e
  | [.int a,.int b],e,hd =>
    obtain ⟨x,y,rfl,hx,hy⟩:=dens2 hd
    cases (show x=_ from hx)
    cases (show y=_ from hy)
    obtain ⟨u,w,rfl,⟨tu,rfl⟩,tw,rfl⟩:=vals2 r
    simp only [rngD] at e
    split at e
    · rename_i h
      cases e
      exact call_range_2 (fin h.1 h.2.1 h.2.2.1 h.2.2.2 (by omega) (by omega) rfl)
    · cases e
  | [.int a,.int b,.int c],e,hd =>
    obtain ⟨x,r1,rfl,hx,hr1⟩:=hd
    obtain ⟨y,z,rfl,hy,hz⟩:=dens2 hr1
    cases (show x=_ from hx)
    cases (show y=_ from hy)
    cases (show z=_ from hz)
    cases r with
    | cons ra rb =>
      obtain ⟨u,w,rfl,⟨tu,rfl⟩,tw,rfl⟩:=vals2 rb
      obtain ⟨ta,rfl⟩:=ra
      simp only [rngD] at e
      split at e
      · rename_i h
        cases e
        exact call_range_3 (by omega) (fin h.1 h.2.1 h.2.2.1 h.2.2.2.1 h.2.2.2.2.1 h.2.2.2.2.2 rfl) (.inl (noPy (by omega) (by omega)))
      · cases e
theorem qd2 {a:Expr} {es:List Expr} {p:Pos} {ms:En→Sr→Res (List D)} (hg:Gl X "range") (hm:X.mg "range"=none) (ha:PA X (a::es) (TL ms)) (hs:starEach (a::es) X.env=(false,eval a X.env)::starEach es X.env) (hpl:(backTo pos (starEach es X.env)).any (·.1)=false)
    {pins:List (Addr × Obj)} {σ:St} {H:Hp} {s:Shared} {ι:List Addr} {S S1:Sr} {ρ:En} {l ds:List D} (I:Inv X pins σ H s) (er:EnR ι H ρ σ) (st:Sto ι H S) (z:ms ρ S=.ok l S1) (e:rngD l=some ds) :
    wpAny (model X.prog X.w) X.A (eval (.Call (.Name "range" p) (a::es) [] pos) X.env) (fun v s'=>∃ ι' H',Stp ι H ι' H'∧Sto ι' H' S1∧RngAt X pins σ ds H' v s') X.xe s:=by
  refine Call_ (yh I hg hm boot_range (PyProof.Rows.callWith_type1 (thn (ha pos pins s σ H (fun vs H1=>∃ ι1,Stp ι H ι1 H1∧Sto ι1 H1 S1∧Dens ι1 H1 l vs) I ⟨ι,S,ρ,er,st,?_⟩) fun us s1 ⟨vs,H1,I1,r1,ι1,q1,st1,d1⟩=>?_) hs hpl))
  · rw [z];exact fun vs ι1 H1 q1 st1 d1=>⟨ι1,q1,st1,d1⟩
  · exact thn (qd1 I1 r1 d1 e) fun v s2 q2=>⟨ι1,H1,q1,st1,q2⟩
noncomputable def ItS (lo c:Int) (n:Nat):It:=⟨fun i _=>i<n,fun i H x H'=>H'=H∧x=.int (lo+i*c),fun i _=>n≤i⟩
theorem qcW {P:Program} {w:World} {K:PySem.W.Frag} (it:Addr) (lo c:Int) (n:Nat):Turn P w K tg (ItS lo c n) [it] it (fun i h=>IsRangeIter h it (lo+(i:Nat)*c) ((n:Int)-(i:Nat)) c) where
  mem:=by simp
  obj:=fun i h st b hb=>by
    obtain rfl:=List.mem_singleton.mp hb
    exact ⟨_,st,fun v z=>by cases (show Data.fields _=Data.cell v from z)⟩
  keep:=fun i h h' st k=>k it (by simp) _ st
  item:=by
    intro X hP hw hK hc i pins s σ H E I hf st hg
    subst hP hw hK
    obtain ⟨f0,f1,f2,f3,f4,f5⟩:=hf it (by simp)
    refine (Walks.range (prog:=X.prog) (w:=X.w) (I.ok.hd hc) it lo c n).item i s _ _ hg st fun v h' tk hv st' kk=>?_
    obtain ⟨t,rfl⟩:=hv
    have I1:Inv X pins σ H { s with heap:=h',toks:=tk }:=I.turned (fun b o hb e=>kk b o (by simpa using hb) e) f0 f1 f3 f4 f5
    exact ⟨_,rfl,qdn (s:={ s with heap:=h',toks:=tk }) (n:="range_iterator") st' rfl rfl (by decide) ⟨.int (lo+i*c),H,I1,⟨t,rfl⟩,⟨rfl,rfl⟩,st',fun b hb=>(hf b hb).1⟩⟩
  done:=by
    intro X hP hw hK hc i pins s σ H E I hf st hg
    subst hP hw hK
    obtain ⟨f0,f1,f2,f3,f4,f5⟩:=hf it (by simp)
    exact wpAny_pyNext_range_end (I.ok.hd hc) st (by have:n≤i:=hg;omega) fun h' eb=>⟨rfl,I.turned (t':=s.toks) (fun b o hb e=>eb b o hb e) f0 f1 f3 f4 f5⟩
  self:=fun _ _ _ _ _ st h=>wpAny_pyIter_rangeiter st h
theorem qhF {ι:List Addr} {H:Hp} {lo c:Int} {n:Nat}:ItOk ι H (ItS lo c n) ((List.range n).map fun (k:Nat)=>D.int (lo+k*c)) where
  go:=fun i d ι2 H2 s e=>by
    rw [List.getElem?_map] at e
    cases z:(List.range n)[i]? with
    | none=>rw [z] at e;cases e
    | some k =>
      rw [z] at e;cases e
      obtain ⟨h1,h2⟩:=List.getElem?_eq_some_iff.mp z
      simp only [List.length_range] at h1
      simp only [List.getElem_range] at h2
      subst h2
      refine ⟨h1,fun y H3 hy=>?_⟩
      obtain ⟨rfl,rfl⟩:=hy
      exact ⟨Stp.refl _ _,fun _ z=>⟨z,rfl⟩⟩
  stop:=fun ι2 H2 s=>by
    show n≤_
    simp
theorem i_rng {a:Expr} {es:List Expr} {p:Pos} {ms:En→Sr→Res (List D)} (hg:Gl X "range") (hm:X.mg "range"=none) (ha:PA X (a::es) (TL ms)) (hs:starEach (a::es) X.env=(false,eval a X.env)::starEach es X.env) (hpl:(backTo pos (starEach es X.env)).any (·.1)=false) :
    PI X tg (.Call (.Name "range" p) (a::es) [] pos) (TIt fun ρ S=>(ms ρ S).bind fun l S1=>ofO (rngD l) S1):=by
  intro pins s σ H R I hw
  obtain ⟨ι,S,ρ,er,st,q⟩:=hw
  dsimp only at q
  cases z:ms ρ S with
  | no=>rw [z] at q;exact q.elim
  | err=>rw [z] at q;exact q.elim
  | ok l S1 =>
    rw [z,Res.bind_ok] at q
    cases z2:rngD l with
    | none=>rw [z2] at q;exact q.elim
    | some ds =>
      rw [z2] at q
      refine thn (qd2 hg hm ha hs hpl I er st z z2) fun v s1 ⟨ι1,H1,q1,st1,ra⟩=>?_
      obtain ⟨x,y,c,t,u,w,pp,rfl,ir,I1,sm,sz,ed⟩:=ra
      refine wpAny_pyIter_range ir sm ?_
      refine ⟨s1.heap.objs.size,[s1.heap.objs.size],_,ItS x c ds.length,H1,rfl,I1.kept (t':=s1.toks) fun b o e=>Heap.get?_push_of_some _ e,qcW _ x c ds.length,?_,fun b hb=>?_,q ι1 H1 _ q1 st1 (by rw [ed];simpa using qhF (ι:=ι1) (H:=H1) (lo:=x) (c:=c) (n:=ds.length))⟩
      · show IsRangeIter _ _ (x+((0:Nat):Int)*c) ((ds.length:Int)-((0:Nat):Int)) c
        have e1:x+((0:Nat):Int)*c=x:=by simp
        have e2:(ds.length:Int)-((0:Nat):Int)=Builtin.Range.rangeSize x y c:=by rw [sz];simp
        rw [e1,e2]
        exact Heap.get?_push_size _ rfl
      · obtain rfl:=List.mem_singleton.mp hb
        exact I1.fpOk (Nat.le_refl _) (I1.hok.fresh (Nat.le_refl _))
theorem ji {a c:Int}:∀ {acc:Array Value} {n:Nat},ItemsOf (fun i v=>∃ t,v=.int (a+i*c) t) acc n→Vals ((List.range n).map fun (k:Nat)=>V.int (a+k*c)) acc.toList:=by
  intro acc n h
  obtain ⟨h1,h2⟩:=h
  apply qaI
  · simp [h1]
  · intro i x u e1 e2
    rw [List.getElem?_map] at e1
    cases z:(List.range n)[i]? with
    | none=>rw [z] at e1;cases e1
    | some k =>
      rw [z] at e1;cases e1
      obtain ⟨h3,h4⟩:=List.getElem?_eq_some_iff.mp z
      simp only [List.getElem_range] at h4
      subst h4
      obtain ⟨t,rfl⟩:=h2 i u (by simpa using e2)
      exact ⟨t,rfl⟩
end
end R
namespace R
open PySem PySem.Spec L2 SeqAt
open PyProof.Rows hiding St
section
variable {prog:Program} {w:World} {A:Around} {E:Value→Shared→Prop} {s:Shared}
theorem qd3 {Q:List Value→Shared→Prop} {r:Addr} {a b c:Int} {t u v:Tok} {n:Nat} (hh:A.handled=none) (hr:IsRange s.heap r a b c t u v) (hs:Builtin.Range.small a b c=true) (hn:Builtin.Range.rangeSize a b c=n) (hl:n≤2^24)
    (hQ:∀ (h':Heap) (tk:Nat) (acc:Array Value),(∀ b o,s.heap.get? b=some o→h'.get? b=some o)→ItemsOf (fun i v=>∃ t,v=.int (a+i*c) t) acc n→Q acc.toList { s with heap:=h',toks:=tk }):wpAny (model prog w) A (collect (.ref r)) Q E s:=by
  have core:∀ R:Result→Shared→Prop,(∀ (h':Heap) (tk:Nat) (acc:Array Value) (c':Nat),(∀ b o,s.heap.get? b=some o→h'.get? b=some o)→h'.get? s.heap.objs.size=some { cls:=.type "list",dict:=none,data:=.seq acc c',slots:=#[] }→ItemsOf (fun i v=>∃ t,v=.int (a+i*c) t) acc n →
      R (.ok (.ret (.ref s.heap.objs.size))) { s with heap:=h',toks:=tk })→codeAny (model prog w) A (.builtin "proto.collect" ⟨[.ref r],[]⟩) R s:=by
    intro R hR
    refine codeAny_builtin F.entry_proto_collect ?_
    rw [Around.under_plainId F.plain_proto_collect]
    refine wpAny_bind (m:=newList []) (wpAny_newObj_type (wpAny_pure ⟨plainId_quiet F.plain_list_iadd _,codeAny_builtin F.entry_list_iadd ?_⟩))
    rw [Around.under_plainId F.plain_list_iadd]
    have h0:(s.heap.push { cls:=.type "list",data:=.seq ([]:List Value).toArray }).get? s.heap.objs.size=some { cls:=.type "list",data:=.seq #[] 0 }:=Heap.get?_push_size _ rfl
    exact wpAny_extend_range (R:=R) (s:={ s with heap:=s.heap.push { cls:=.type "list",data:=.seq ([]:List Value).toArray } }) hh (Heap.get?_push_of_some _ hr) hs hn hl s.heap.objs.size (.ref s.heap.objs.size) 0 h0 fun h' tk acc c' hk hS hi =>
      hR h' tk acc c' (fun b o e=>hk b o (Nat.ne_of_lt (Heap.lt_size e)) (Heap.get?_push_of_some _ e)) hS hi
  unfold collect
  refine wpAny_bind (wpAny_runValue (core _ fun h' tk acc c' hk hS hi=>?_))
  exact wpAny_bind (m:=load s.heap.objs.size) (wpAny_load hS (wpAny_pure (hQ h' tk acc hk hi)))
theorem qfT {Q:Value→Shared→Prop} {r:Addr} {a b c:Int} {t u v:Tok} {n:Nat} (hh:A.handled=none) (hr:IsRange s.heap r a b c t u v) (hs:Builtin.Range.small a b c=true) (hn:Builtin.Range.rangeSize a b c=n) (hl:n≤2^24)
    (hQ:∀ (h':Heap) (tk:Nat) (acc:Array Value),(∀ b o,s.heap.get? b=some o→h'.get? b=some o)→ItemsOf (fun i v=>∃ t,v=.int (a+i*c) t) acc n→Q (.ref h'.objs.size) { s with heap:=h'.push { cls:=.type "tuple",data:=.seq acc },toks:=tk }) :
    wpAny (model prog w) A (call (.type "tuple") [.ref r]) Q E s:=by
  have new:codeAny (model prog w) A.in1 (.call (.builtin "tuple.__new__") ⟨[.type "tuple",.ref r],[]⟩) (wants (fun obj s₁=>s₁.TypeIs obj "tuple"∧Q obj s₁) E) s:=by
    refine codeAny_of_tree (?_:wpAny _ A.in1.in1 (do checkBuiltinCall "tuple.__new__" ⟨[.type "tuple",.ref r],[]⟩;again (.builtin "tuple.__new__" ⟨[.type "tuple",.ref r],[]⟩)) _ _ s)
    refine wpAny_bind (wpAny_of_eq (F.newCall_tuple_1 _) (wpAny_pure ⟨plainId_quiet F.plain_tuple_new _,codeAny_builtin F.entry_tuple_new ?_⟩))
    rw [Around.under_plainId F.plain_tuple_new]
    have k1:=sub_tuple_self
    have k2:=init_tuple_lookup
    have k3:=madeHere_tuple
    have hT:s.TypeIs (.ref r) "range":=⟨_,hr,rfl⟩
    wp_walk using wpAny_typeOf hT,qd3 (A:=A.in1.in1) hh hr hs hn hl
    intro h' tk acc hk hi
    refine wpAny_bind (m:=Builtin.Tuple.tupleExact acc.toList.toArray) ?_
    unfold Builtin.Tuple.tupleExact
    refine wpAny_newObj_type (wpAny_pure ?_) (by
      have:acc.toList.toArray.size≤sizeLine:=by rw [Array.toArray_toList,hi.1];exact hl
      exact this)
    have e:acc.toList.toArray=acc:=Array.toArray_toList ..
    rw [e]
    exact ⟨⟨_,Heap.get?_push_size _ rfl,rfl⟩,hQ h' tk acc hk hi⟩
  refine callType_codes F.called_tuple (F.typeCall_tuple_1 _) F.entry_object_init new fun obj s₁ h₁=>?_
  exact ⟨h₁.1,F.args_object_init_2 obj _,object_init_meets F.called_tuple.init.lookup F.called_tuple.made (by decide) prog w A.in1 _ s₁ ⟨h₁.1,rfl,h₁.2⟩⟩
end
section
variable {X:Cx} {pos:Pos}
noncomputable def mRng (k:Option Bool) (ms:En→Sr→Res (List D)):En→Sr→Res D:=fun ρ S=>(ms ρ S).bind fun l S1=>match rngD l with
  | some ds=>if ds.length≤1000000 then (match k with
    | some m=>newL m ds S1
    | none=>.ok (.tup ds) S1) else .no
  | none=>.no
theorem qfU {ι:List Addr} {H:Hp} {a c:Int} {n:Nat}:Dens ι H ((List.range n).map fun (k:Nat)=>D.int (a+k*c)) ((List.range n).map fun (k:Nat)=>V.int (a+k*c)):=by
  have:∀ l:List Nat,Dens ι H (l.map fun (k:Nat)=>D.int (a+k*c)) (l.map fun (k:Nat)=>V.int (a+k*c)):=fun l=>by
    induction l with
    | nil=>rfl
    | cons x r ih=>exact ⟨_,_,rfl,rfl,ih⟩
  exact this _
theorem qiW {k:Option Bool} {f:Str} {ty:String} {a:Expr} {es:List Expr} {p1 p2 pos2:Pos} {ms:En→Sr→Res (List D)} (hf:(f=Str.ofString "list"∧ty="list"∧∃ m,k=some m)∨(f=Str.ofString "tuple"∧ty="tuple"∧k=none)) (hc:X.calm=true) (hg:Gl X "range") (hm:X.mg "range"=none) (hg2:Gl X f) (hm2:X.mg f=none)
    (ha:PA X (a::es) (TL ms)) (hs:starEach (a::es) X.env=(false,eval a X.env)::starEach es X.env) (hpl:(backTo pos2 (starEach es X.env)).any (·.1)=false) :
    PE X (.Call (.Name f p1) [.Call (.Name "range" p2) (a::es) [] pos2] [] pos) (T (mRng k ms)):=by
  intro pins s σ H Q I hw
  have hb:bootBuiltins f=some (.type ty):=by
    rcases hf with ⟨rfl,rfl,_⟩ | ⟨rfl,rfl,_⟩ <;> decide +kernel
  have hn:f≠"__name__":=by rcases hf with ⟨rfl,rfl,_⟩ | ⟨rfl,rfl,_⟩ <;> decide
  have hd:(f == ("__debug__":Str))=false:=by rcases hf with ⟨rfl,rfl,_⟩ | ⟨rfl,rfl,_⟩ <;> decide
  refine Call_ (yh I hg2 hm2 hb ?_ hn hd)
  obtain ⟨ι,S,ρ,er,st,q⟩:=hw
  dsimp only [mRng] at q
  cases z:ms ρ S with
  | no=>rw [z] at q;exact q.elim
  | err=>rw [z] at q;exact q.elim
  | ok l S1 =>
    rw [z,Res.bind_ok] at q
    cases z2:rngD l with
    | none=>simp only [z2] at q;exact q.elim
    | some ds =>
      simp only [z2] at q
      by_cases hle:ds.length≤1000000
      · rw [if_pos hle] at q
        refine PyProof.Rows.callWith_type1 (e:=.Call (.Name "range" p2) (a::es) [] pos2) (rest:=[]) ?_ rfl rfl
        refine Calls.spliced_cons (thn (qd2 hg hm ha hs hpl I er st z z2) fun v s1 ⟨ι1,H1,q1,st1,ra⟩=>Calls.spliced_nil ?_)
        obtain ⟨x,y,c,t,u,w,pp,rfl,ir,I1,sm,sz,ed⟩:=ra
        have hfr:H1 s1.heap.objs.size=none:=I1.hok.fresh (Nat.le_refl _)
        have dd:Dens ι1 H1 ds ((List.range ds.length).map fun (k:Nat)=>V.int (x+k*c)):=by
          have:=qfU (ι:=ι1) (H:=H1) (a:=x) (c:=c) (n:=ds.length)
          rwa [← ed] at this
        have hl24:ds.length≤2^24:=Nat.le_trans hle (by decide)
        rcases hf with ⟨rfl,rfl,e⟩ | ⟨rfl,rfl,e⟩
        · obtain ⟨m,rfl⟩:=e
          · refine call_list_range (I.ok.hd hc) ir sm sz hl24 fun h' tk acc c' hk hS hi=>?_
            exact ⟨.ref _,_,I1.laid (o:=.lst ((List.range ds.length).map fun (k:Nat)=>V.int (x+k*c))) (t':=tk) hk (Nat.le_refl _) ⟨by simp;exact hl24,acc.toList,c',ji hi,by rw [hS]⟩,rfl,q9 st1 dd (Pst.from q q1) _ hfr⟩
        · subst e
          · refine qfT (I.ok.hd hc) ir sm sz hl24 fun h' tk acc hk hi=>?_
            have I2:=I1.kept (h':=h') (t':=tk) hk
            have hfr2:H1 h'.objs.size=none:=I2.hok.fresh (Nat.le_refl _)
            refine ⟨.ref _,upd H1 h'.objs.size (.tup _),I2.laid (t':=tk) (fun b o e=>Heap.get?_push_of_some _ e) (Nat.le_refl _) ⟨by simp;exact hl24,acc.toList,ji hi,⟨_,Heap.get?_push_size _ rfl,rfl,0,by simp⟩,fun o q=>by rw [Heap.get?_push_size _ rfl] at q;cases q;rfl⟩,rfl,zd st1 dd ?_ _ hfr2⟩
            exact fun v ι' H' s' st' dv=>q v ι' H' (q1.trans s') st' dv
      · rw [if_neg hle] at q;exact q.elim
end
end R
namespace R
open PySem PySem.Spec L2 SeqAt
open PyProof.Rows hiding St
noncomputable def SI (b:Bool) (h:Heap) (it l:Addr) (k:Nat):Prop:=match b with
  | true=>h.IsTupleIter it l k
  | false=>h.IsListIter it l k
noncomputable def SQ (b:Bool) (h:Heap) (l:Addr) (xs:Array Value):Prop:=match b with
  | true=>h.IsTuple l xs
  | false=>h.IsList l xs
theorem SI.at {b:Bool} {h h':Heap} {it l:Addr} {k:Nat} (x:SI b h it l k) (e:∀ o,h.get? it=some o→h'.get? it=some o):SI b h' it l k:=by
  cases b with
  | true=>exact Heap.IsTupleIter.at x e
  | false=>exact Heap.IsListIter.at x e
theorem SQ.at {b:Bool} {h h':Heap} {l:Addr} {xs:Array Value} (x:SQ b h l xs) (e:∀ o,h.get? l=some o→h'.get? l=some o):SQ b h' l xs:=by
  cases b with
  | true=>exact Heap.IsTuple.at x e
  | false=>exact Heap.IsList.at x e
theorem SI.obj {b:Bool} {h:Heap} {it l:Addr} {k:Nat} (x:SI b h it l k):∃ o,h.get? it=some o∧(∀ v,o.data≠.cell v):=by
  cases b with
  | true=>obtain ⟨o,e,_,d⟩:=x;exact ⟨o,e,fun v z=>by rw [d] at z;cases z⟩
  | false=>obtain ⟨o,e,_,d⟩:=x;exact ⟨o,e,fun v z=>by rw [d] at z;cases z⟩
section
variable {prog:Program} {w:World} {A:Around} {E:Value→Shared→Prop} {s:Shared}
theorem qd4 {it l:Addr} {i:Nat} {xs:Array Value} {x:Value} {Q:Value→Shared→Prop} (hi:s.heap.IsTupleIter it l i) (hl:s.heap.IsTuple l xs) (hx:xs[i]?=some x)
    (hQ:∀ h',h'.IsTupleIter it l (i+1)→Heap.SameBut it s.heap h'→Q x { s with heap:=h' }):wpAny (model prog w) A (Builtin.SmallTypes.nextOf (.ref it)) Q E s:=by
  have hT:=hi.typeIs
  obtain ⟨o,eo,co,d⟩:=hi
  obtain ⟨u,eu,_,m,du⟩:=hl
  unfold Builtin.SmallTypes.nextOf
  refine wpAny_bind (wpAny_callSpecial?_slot (name:=Str.ofString "__next__") hT F.slot_tuple_iterator_next (wpAny_call_entry F.slot_tuple_iterator_next hT F.entry_tuple_iterator_next ?_ (F.args_tuple_iterator_next_1 _)))
  refine wpAny_bind (m:=field (.ref it) 0) (wpAny_field eo d (x:=.ref l) rfl (?_:wpAny _ _ (if (Value.ref l == Value.none)=true then _ else _) _ _ s))
  rw [if_neg (show ¬ ((Value.ref l == Value.none)=true) from Bool.false_ne_true)]
  refine wpAny_bind (m:=field (.ref it) 1) (wpAny_field eo d (x:=.int i 0) rfl ?_)
  refine wpAny_bind (m:=seqItems? (.ref l)) (wpAny_seqItems eu du ?_)
  simp only [Int.toNat_natCast,hx]
  refine wpAny_bind (wpAny_setField eo d (by simp) (wpAny_pure ⟨x,rfl,wpAny_pure (hQ _ ⟨_,Heap.get?_update_self _ eo (Obj.isFreed_of_fields (Obj.data_mapFields d _)),(Obj.cls_mapFields ..).trans co,?_⟩ (Heap.SameBut.update ..))⟩))
  rw [Obj.data_mapFields d];simp [rawInt]
theorem j7 {it l:Addr} {i:Nat} {xs:Array Value} {Q:Value→Shared→Prop} (hh:A.handled=none) (hi:s.heap.IsTupleIter it l i) (hl:s.heap.IsTuple l xs) (hx:xs[i]?=none)
    (hE:∀ h' e,Heap.ExtBut it s.heap h'→(∃ o,h'.get? e=some o∧o.cls=.type "StopIteration")→E (.ref e) { s with heap:=h' }):wpAny (model prog w) A (Builtin.SmallTypes.nextOf (.ref it)) Q E s:=by
  have hT:=hi.typeIs
  obtain ⟨o,eo,co,d⟩:=hi
  obtain ⟨u,eu,_,m,du⟩:=hl
  unfold Builtin.SmallTypes.nextOf
  refine wpAny_bind (wpAny_callSpecial?_slot (name:=Str.ofString "__next__") hT F.slot_tuple_iterator_next (wpAny_call_entry F.slot_tuple_iterator_next hT F.entry_tuple_iterator_next ?_ (F.args_tuple_iterator_next_1 _)))
  refine wpAny_bind (m:=field (.ref it) 0) (wpAny_field eo d (x:=.ref l) rfl (?_:wpAny _ _ (if (Value.ref l == Value.none)=true then _ else _) _ _ s))
  rw [if_neg (show ¬ ((Value.ref l == Value.none)=true) from Bool.false_ne_true)]
  refine wpAny_bind (m:=field (.ref it) 1) (wpAny_field eo d (x:=.int i 0) rfl ?_)
  refine wpAny_bind (m:=seqItems? (.ref l)) (wpAny_seqItems eu du ?_)
  simp only [Int.toNat_natCast,hx]
  refine wpAny_bind (wpAny_rule (wpAny_bind (wpAny_setField eo d (by simp) (?_:wpAny _ _ (newExc (.type "StopIteration") [] >>= _) _ _ _))))
  refine wpAny_bind ?_
  unfold newExc newTuple
  refine wpAny_bind (wpAny_newObj_type (wpAny_bind (wpAny_of_eq (t:=firstArgMember _ _) (a:=Value.none) (by first | rfl | (simp only [firstArgMember];rfl)) (wpAny_newObj_type ?_ (by size_fits)))) (by size_fits))
  unfold raiseNew
  refine wpAny_bind (wpAny_handled ?_)
  rw [show A.in1.handled=none from hh]
  exact wpAny_bind (wpAny_pure (wpAny_throw (hE _ _ (((Heap.SameBut.update ..).extBut.push _).push _) ⟨_,Heap.get?_push_size _ rfl,rfl⟩)))
theorem draw {b:Bool} {it l:Addr} {i:Nat} {xs:Array Value} {x:Value} {Q:Value→Shared→Prop} (hi:SI b s.heap it l i) (hl:SQ b s.heap l xs) (hx:xs[i]?=some x)
    (hQ:∀ h',SI b h' it l (i+1)→Heap.SameBut it s.heap h'→Q x { s with heap:=h' }):wpAny (model prog w) A (Builtin.SmallTypes.nextOf (.ref it)) Q E s:=by
  cases b with
  | true=>exact qd4 hi hl hx hQ
  | false=>exact wpAny_nextOf_list_item hi hl hx hQ
theorem qaJ {b:Bool} {it l:Addr} {i:Nat} {xs:Array Value} {Q:Value→Shared→Prop} (hh:A.handled=none) (hi:SI b s.heap it l i) (hl:SQ b s.heap l xs) (hx:xs[i]?=none)
    (hE:∀ h' e,Heap.ExtBut it s.heap h'→(∃ o,h'.get? e=some o∧o.cls=.type "StopIteration")→E (.ref e) { s with heap:=h' }):wpAny (model prog w) A (Builtin.SmallTypes.nextOf (.ref it)) Q E s:=by
  cases b with
  | true=>exact j7 hh hi hl hx hE
  | false=>exact wpAny_nextOf_list_end hh hi hl hx hE
structure ZA (z TI TO i j l m:Addr):Prop where
  zTI:TI≠z
  zTO:TO≠z
  zi:i≠z
  zj:j≠z
  TT:TI≠TO
  TIi:TI≠i
  TIj:TI≠j
  TOi:TO≠i
  TOj:TO≠j
  ij:i≠j
  lz:l≠z
  lT:l≠TO
  li:l≠i
  lj:l≠j
  mz:m≠z
  mT:m≠TO
  mi:m≠i
  mj:m≠j
structure ZS (b c:Bool) (h:Heap) (z TI TO i j l m:Addr) (k:Nat) (xs ys:Array Value) (f:Value):Prop where
  z:IsZip h z TI TO f
  ti:IsPair h TI (.ref i) (.ref j)
  to':∃ a d,IsPair h TO a d
  i1:SI b h i l k
  i2:SI c h j m k
  q1:SQ b h l xs
  q2:SQ c h m ys
variable {b c:Bool} {z TI TO i j l m:Addr} {k:Nat} {xs ys:Array Value}
theorem qhG {x y:Value} {Q:Option Value→Shared→Prop} (D:ZA z TI TO i j l m) (st:ZS b c s.heap z TI TO i j l m k xs ys .none) (hx:xs[k]?=some x) (hy:ys[k]?=some y)
    (hQ:∀ h',ZS b c h' z TI TO i j l m (k+1) xs ys (rawInt s.heap.objs.size)→IsPair h' s.heap.objs.size x y→(∀ a o,a≠z→a≠TO→a≠i→a≠j→s.heap.get? a=some o→h'.get? a=some o)→Q (some (.ref s.heap.objs.size)) { s with heap:=h' }) :
    wpAny (model prog w) A (pyNext (.ref z)) Q E s:=by
  obtain ⟨oz,ti,⟨t0,t1,to'⟩,i1,i2,q1,q2⟩:=st
  have hT:s.TypeIs (.ref z) "zip":=⟨_,oz,rfl⟩
  unfold pyNext
  refine wpAny_bind (wpAny_attempt (wpAny_callSpecial?_slot (name:=Str.ofString "__next__") hT F.slot_zip_next (wpAny_call_entry F.slot_zip_next hT F.entry_zip_next ?_ (F.args_zip_next_1 _))))
  refine wpAny_bind (m:=field (.ref z) 2) (wpAny_field oz rfl (x:=.bool false) rfl (wpAny_bind (m:=field (.ref z) 3) (wpAny_field oz rfl (x:=.ref TI) rfl (wpAny_bind (wpAny_seqItems ti rfl ?_)))))
  refine wpAny_bind (m:=Builtin.SmallTypes.ownedTupleIsFree (.ref z)) ?_
  unfold Builtin.SmallTypes.ownedTupleIsFree
  refine wpAny_bind (wpAny_field oz rfl (x:=.none) rfl (wpAny_pure ?_))
  simp only [if_true]
  refine wpAny_bind (wpAny_rule (wpAny_bind (wpAny_field oz rfl (x:=.ref TO) rfl (wpAny_bind (wpAny_setField_rec oz (by simp) fun h1 z1 b1=>?_)))))
  have z1':IsZip h1 z TI TO .ellipsis:=z1
  refine wpAny_bind ?_
  simp only [List.zipIdx_cons,List.zipIdx_nil,List.forIn_cons,List.forIn_nil]
  refine wpAny_bind (wpAny_bind (wpAny_onRaise (wpAny_bind (m:=Builtin.SmallTypes.nextOf (.ref i)) ?_)))
  refine draw (i1.at fun o e=>b1.extBut _ o D.zi e) (q1.at fun o e=>b1.extBut _ o D.lz e) hx fun h2 i2' b2=>wpAny_pure ?_
  have o2:IsPair h2 TO t0 t1:=b2.extBut _ _ D.TOi (b1.extBut _ _ D.zTO to')
  refine wpAny_bind (wpAny_seqItems o2 rfl (wpAny_bind (wpAny_updateSeq_pair o2 fun h3 o3 b3=>wpAny_bind (wpAny_letGo (wpAny_pure ?_)))))
  have o3':IsPair h3 TO x t1:=o3
  refine wpAny_bind (wpAny_bind (wpAny_onRaise (wpAny_bind (m:=Builtin.SmallTypes.nextOf (.ref j)) ?_)))
  refine draw (i2.at fun o e=>b3.extBut _ o D.TOj.symm (b2.extBut _ o D.ij.symm (b1.extBut _ o D.zj e))) (q2.at fun o e=>b3.extBut _ o D.mT (b2.extBut _ o D.mi (b1.extBut _ o D.mz e))) hy fun h4 i4 b4=>wpAny_pure ?_
  have o4:IsPair h4 TO x t1:=b4.extBut _ _ D.TOj o3'
  refine wpAny_bind (wpAny_seqItems o4 rfl (wpAny_bind (wpAny_updateSeq_pair o4 fun h5 o5 b5=>wpAny_bind (wpAny_letGo (wpAny_pure (wpAny_pure ?_))))))
  have o5':IsPair h5 TO x y:=o5
  refine wpAny_bind (wpAny_seqItems o5' rfl (wpAny_bind (wpAny_newTuple ?_)))
  have sz:h5.objs.size=s.heap.objs.size:=by rw [b5.1,b4.1,b3.1,b2.1,b1.1]
  have z5:IsZip h5 z TI TO .ellipsis:=b5.extBut _ _ D.zTO.symm (b4.extBut _ _ D.zj.symm (b3.extBut _ _ D.zTO.symm (b2.extBut _ _ D.zi.symm z1')))
  have k5:∀ a o,a≠z→a≠TO→a≠i→a≠j→s.heap.get? a=some o→h5.get? a=some o:=fun a o n1 n2 n3 n4 e=>b5.extBut _ _ n2 (b4.extBut _ _ n4 (b3.extBut _ _ n2 (b2.extBut _ _ n3 (b1.extBut _ _ n1 e))))
  have zl:z<h5.objs.size:=Heap.lt_size z5
  refine wpAny_bind (m:=Builtin.SmallTypes.ownedTupleHandOut (.ref z) (.ref h5.objs.size)) ?_
  unfold Builtin.SmallTypes.ownedTupleHandOut
  have z6:IsZip (h5.push { cls:=.type "tuple",data:=.seq #[x,y] }) z TI TO .ellipsis:=Heap.get?_push_of_some _ z5
  refine wpAny_bind (wpAny_setField_rec z6 (by simp) fun h7 z7 b7=>?_)
  have z7':IsZip h7 z TI TO (rawInt h5.objs.size):=z7
  refine wpAny_setField_rec z7' (by simp) fun h8 z8 b8=>?_
  have z8':IsZip h8 z TI TO (rawInt h5.objs.size):=z8
  have up:∀ a o,a≠z→h5.get? a=some o→h8.get? a=some o:=fun a o n e=>b8.extBut _ _ n (b7.extBut _ _ n (Heap.get?_push_of_some _ e))
  have t8:IsPair h8 h5.objs.size x y:=b8.extBut _ _ (Nat.ne_of_gt zl) (b7.extBut _ _ (Nat.ne_of_gt zl) (Heap.get?_push_size _ rfl))
  rw [sz] at z8' t8
  refine wpAny_pure ⟨_,rfl,wpAny_pure ?_⟩
  have all:∀ a o,a≠z→a≠TO→a≠i→a≠j→s.heap.get? a=some o→h8.get? a=some o:=fun a o n1 n2 n3 n4 e=>up a o n1 (k5 a o n1 n2 n3 n4 e)
  have fin:=hQ h8 ⟨z8',all _ _ D.zTI D.TT D.TIi D.TIj ti,⟨_,_,up _ _ D.zTO o5'⟩,i2'.at fun o e=>up _ o D.zi (b5.extBut _ o D.TOi.symm (b4.extBut _ o D.ij (b3.extBut _ o D.TOi.symm e))),i4.at fun o e=>up _ o D.zj (b5.extBut _ o D.TOj.symm e),
    q1.at fun o e=>all _ o D.lz D.lT D.li D.lj e,q2.at fun o e=>all _ o D.mz D.mT D.mi D.mj e⟩ t8 all
  rw [← sz] at fin
  exact fin
theorem qfV {Q:Option Value→Shared→Prop} (hh:A.handled=none) (D:ZA z TI TO i j l m) (st:ZS b c s.heap z TI TO i j l m k xs ys .none) (hx:xs[k]?=none∨ys[k]?=none)
    (hQ:∀ h',(∀ a o,a≠z→a≠TO→a≠i→a≠j→s.heap.get? a=some o→h'.get? a=some o)→Q none { s with heap:=h' }):wpAny (model prog w) A (pyNext (.ref z)) Q E s:=by
  obtain ⟨oz,ti,⟨t0,t1,to'⟩,i1,i2,q1,q2⟩:=st
  have hT:s.TypeIs (.ref z) "zip":=⟨_,oz,rfl⟩
  have last:∀ (h':Heap) (e:Addr),(∀ a o,a≠z→a≠TO→a≠i→a≠j→s.heap.get? a=some o→h'.get? a=some o)→(∃ o,h'.get? e=some o∧o.cls=.type "StopIteration") →
      wpAny (model prog w) A (do if ← isInstance (.ref e) (.type "StopIteration") then pure none else throw (Value.ref e)) Q E { s with heap:=h' }:=fun h' e hk ⟨o,ho,hc⟩ =>
    wpAny_bind (wpAny_isInstance (T:="StopIteration") (b:=true) ⟨o,ho,hc⟩ isSubtype_stop (wpAny_pure (hQ h' hk)))
  unfold pyNext
  refine wpAny_bind (wpAny_attempt (wpAny_callSpecial?_slot (name:=Str.ofString "__next__") hT F.slot_zip_next (wpAny_call_entry F.slot_zip_next hT F.entry_zip_next ?_ (F.args_zip_next_1 _))))
  refine wpAny_bind (m:=field (.ref z) 2) (wpAny_field oz rfl (x:=.bool false) rfl (wpAny_bind (m:=field (.ref z) 3) (wpAny_field oz rfl (x:=.ref TI) rfl (wpAny_bind (wpAny_seqItems ti rfl ?_)))))
  refine wpAny_bind (m:=Builtin.SmallTypes.ownedTupleIsFree (.ref z)) ?_
  unfold Builtin.SmallTypes.ownedTupleIsFree
  refine wpAny_bind (wpAny_field oz rfl (x:=.none) rfl (wpAny_pure ?_))
  simp only [if_true]
  refine wpAny_bind (wpAny_rule (wpAny_bind (wpAny_field oz rfl (x:=.ref TO) rfl (wpAny_bind (wpAny_setField_rec oz (by simp) fun h1 z1 b1=>?_)))))
  have z1':IsZip h1 z TI TO .ellipsis:=z1
  refine wpAny_bind ?_
  simp only [List.zipIdx_cons,List.zipIdx_nil,List.forIn_cons,List.forIn_nil]
  refine wpAny_bind (wpAny_bind (wpAny_onRaise (wpAny_bind (m:=Builtin.SmallTypes.nextOf (.ref i)) ?_)))
  cases ex:xs[k]? with
  | none =>
    refine qaJ hh (i1.at fun o e=>b1.extBut _ o D.zi e) (q1.at fun o e=>b1.extBut _ o D.lz e) ex fun h2 e b2 ⟨oe,he,ce⟩=>?_
    have z2:IsZip h2 z TI TO .ellipsis:=b2 _ _ D.zi.symm z1'
    have ne:e≠z:=fun q=>by subst q;rw [z2] at he;cases he;simp at ce
    exact wpAny_setField_rec z2 (by simp) fun h3 _ b3=>last h3 e (fun a o n1 _ n3 _ q=>b3.extBut _ _ n1 (b2 _ _ n3 (b1.extBut _ _ n1 q))) ⟨oe,b3.extBut _ _ ne he,ce⟩
  | some x =>
    have ey:ys[k]?=none:=by
      rcases hx with q | q
      · rw [ex] at q;cases q
      · exact q
    refine draw (i1.at fun o e=>b1.extBut _ o D.zi e) (q1.at fun o e=>b1.extBut _ o D.lz e) ex fun h2 i2' b2=>wpAny_pure ?_
    have o2:IsPair h2 TO t0 t1:=b2.extBut _ _ D.TOi (b1.extBut _ _ D.zTO to')
    refine wpAny_bind (wpAny_seqItems o2 rfl (wpAny_bind (wpAny_updateSeq_pair o2 fun h3 o3 b3=>wpAny_bind (wpAny_letGo (wpAny_pure ?_)))))
    refine wpAny_bind (wpAny_bind (wpAny_onRaise (wpAny_bind (m:=Builtin.SmallTypes.nextOf (.ref j)) ?_)))
    refine qaJ hh (i2.at fun o e=>b3.extBut _ o D.TOj.symm (b2.extBut _ o D.ij.symm (b1.extBut _ o D.zj e))) (q2.at fun o e=>b3.extBut _ o D.mT (b2.extBut _ o D.mi (b1.extBut _ o D.mz e))) ey fun h4 e b4 ⟨oe,he,ce⟩=>?_
    have z4:IsZip h4 z TI TO .ellipsis:=b4 _ _ D.zj.symm (b3.extBut _ _ D.zTO.symm (b2.extBut _ _ D.zi.symm z1'))
    have ne:e≠z:=fun q=>by subst q;rw [z4] at he;cases he;simp at ce
    exact wpAny_setField_rec z4 (by simp) fun h5 _ b5=>last h5 e (fun a o n1 n2 n3 n4 q=>b5.extBut _ _ n1 (b4 _ _ n4 (b3.extBut _ _ n2 (b2.extBut _ _ n3 (b1.extBut _ _ n1 q))))) ⟨oe,b5.extBut _ _ ne he,ce⟩
end
end R
namespace R
open PySem PySem.Spec L2 SeqAt
open PyProof.Rows hiding St
noncomputable def siO (b:Bool) (l:Addr):Obj:=match b with
  | true=>{ cls:=.type "tuple_iterator",data:=.fields #[.ref l,.int 0 0] }
  | false=>{ cls:=.type "list_iterator",data:=.fields #[.ref l,.int 0 0] }
theorem qd5 {b:Bool} {h:Heap} {l:Addr}:SI b (h.push (siO b l)) h.objs.size l 0:=by
  cases b with
  | true=>exact ⟨_,Heap.get?_push_size _ rfl,rfl,rfl⟩
  | false=>exact ⟨_,Heap.get?_push_size _ rfl,rfl,rfl⟩
section
variable {prog:Program} {w:World} {A:Around} {E:Value→Shared→Prop} {s:Shared}
theorem qaK {b:Bool} {l:Addr} {xs:Array Value} {Q:Value→Shared→Prop} (hl:SQ b s.heap l xs) (hQ:Q (.ref s.heap.objs.size) { s with heap:=s.heap.push (siO b l) }):wpAny (model prog w) A (pyIter (.ref l)) Q E s:=by
  cases b with
  | true=>exact wpAny_pyIter_tuple hl hQ
  | false=>exact wpAny_pyIter_list hl hQ
end
noncomputable def zh1 (b:Bool) (h:Heap) (l:Addr):Heap:=h.push (siO b l)
noncomputable def zh2 (b c:Bool) (h:Heap) (l m:Addr):Heap:=(zh1 b h l).push (siO c m)
noncomputable def zh3 (b c:Bool) (h:Heap) (l m:Addr):Heap:=(zh2 b c h l m).push { cls:=.type "tuple",data:=.seq #[.ref h.objs.size,.ref (zh1 b h l).objs.size] }
noncomputable def zh4 (b c:Bool) (h:Heap) (l m:Addr):Heap:=(zh3 b c h l m).push { cls:=.type "tuple",data:=.seq #[.none,.none] }
noncomputable def zh5 (b c:Bool) (h:Heap) (l m:Addr):Heap:=(zh4 b c h l m).push { cls:=.type "zip",data:=.fields #[.none,.bool false,.bool false,.ref (zh2 b c h l m).objs.size,.ref (zh3 b c h l m).objs.size] }
theorem qfW (b c:Bool) (l m:Addr) (xs ys:Array Value):Meets (Builtin.«zip.__new__» ⟨[.type "zip",.ref l,.ref m],[]⟩) (fun _ R s=>SQ b s.heap l xs∧SQ c s.heap m ys∧R (.ok (.ret (.ref (zh4 b c s.heap l m).objs.size))) { s with heap:=zh5 b c s.heap l m }) :=
  .of_wp fun prog w A R s h=>by
    obtain ⟨hp,g,d,tk,os⟩:=s
    obtain ⟨a1,a2,h⟩:=h
    have k0:=sub_zip
    have e1:SQ b (Shared.heap ⟨hp,g,d,tk,os⟩) l xs:=a1
    have e2:SQ c (Shared.heap ⟨hp.push (siO b l),g,d,tk,os⟩) m ys:=SQ.at a2 fun o e=>Heap.get?_push_of_some _ e
    wp_walk using qaK e1,qaK e2
    exact ⟨_,rfl,h⟩
section
variable {prog:Program} {w:World} {A:Around} {E:Value→Shared→Prop} {s:Shared}
theorem qd6 {b c:Bool} {l m:Addr} {xs ys:Array Value} {Q:Value→Shared→Prop} (h1:SQ b s.heap l xs) (h2:SQ c s.heap m ys)
    (h:∀ h':Heap,ZS b c h' (s.heap.objs.size+4) (s.heap.objs.size+2) (s.heap.objs.size+3) s.heap.objs.size (s.heap.objs.size+1) l m 0 xs ys .none→(∀ a o,s.heap.get? a=some o→h'.get? a=some o)→Q (.ref (s.heap.objs.size+4)) { s with heap:=h' }) :
    wpAny (model prog w) A (call (.type "zip") [.ref l,.ref m]) Q E s:=by
  have z1:(zh1 b s.heap l).objs.size=s.heap.objs.size+1:=Heap.size_push ..
  have z2:(zh2 b c s.heap l m).objs.size=s.heap.objs.size+2:=by unfold zh2;rw [Heap.size_push,z1]
  have z3:(zh3 b c s.heap l m).objs.size=s.heap.objs.size+3:=by unfold zh3;rw [Heap.size_push,z2]
  have z4:(zh4 b c s.heap l m).objs.size=s.heap.objs.size+4:=by unfold zh4;rw [Heap.size_push,z3]
  have kp:∀ a o,s.heap.get? a=some o→(zh5 b c s.heap l m).get? a=some o:=fun a o e=>by
    unfold zh5 zh4 zh3 zh2 zh1
    exact Heap.get?_push_of_some _ (Heap.get?_push_of_some _ (Heap.get?_push_of_some _ (Heap.get?_push_of_some _ (Heap.get?_push_of_some _ e))))
  have g5:IsZip (zh5 b c s.heap l m) (zh4 b c s.heap l m).objs.size (zh2 b c s.heap l m).objs.size (zh3 b c s.heap l m).objs.size .none:=Heap.get?_push_size _ rfl
  have g4:IsPair (zh5 b c s.heap l m) (zh3 b c s.heap l m).objs.size .none .none:=by
    have q:(zh4 b c s.heap l m).get? (zh3 b c s.heap l m).objs.size=some _:=Heap.get?_push_size _ rfl
    exact Heap.get?_push_of_some _ q
  have g3:IsPair (zh5 b c s.heap l m) (zh2 b c s.heap l m).objs.size (.ref s.heap.objs.size) (.ref (zh1 b s.heap l).objs.size):=by
    have q:(zh3 b c s.heap l m).get? (zh2 b c s.heap l m).objs.size=some _:=Heap.get?_push_size _ rfl
    exact Heap.get?_push_of_some _ (Heap.get?_push_of_some _ q)
  have i2:SI c (zh5 b c s.heap l m) (zh1 b s.heap l).objs.size m 0:=SI.at (qd5 (b:=c) (h:=zh1 b s.heap l) (l:=m)) fun o e=>Heap.get?_push_of_some _ (Heap.get?_push_of_some _ (Heap.get?_push_of_some _ e))
  have i1:SI b (zh5 b c s.heap l m) s.heap.objs.size l 0:=SI.at (qd5 (b:=b) (h:=s.heap) (l:=l)) fun o e=>Heap.get?_push_of_some _ (Heap.get?_push_of_some _ (Heap.get?_push_of_some _ (Heap.get?_push_of_some _ e)))
  refine callType_new F.called_zip (by decide) (F.typeCall_zip_2 _ _) (F.newCall_zip_2 _ _) (fun obj=>F.args_object_init_3 obj _ _) F.entry_zip_new (qfW b c l m xs ys) ⟨h1,h2,?_⟩
  rw [z4,z3,z2] at g5
  rw [z3] at g4
  rw [z2,z1] at g3
  rw [z1] at i2
  rw [z4]
  exact ⟨⟨_,g5,rfl⟩,h _ ⟨g5,g3,⟨_,_,g4⟩,i1,i2,h1.at fun o e=>kp _ o e,h2.at fun o e=>kp _ o e⟩ kp⟩
end
noncomputable def SqB (b:Bool) (K:PySem.W.Frag) (H:Hp) (l:Addr) (xs:List V):Prop:=match b with
  | true=>SqT K H l xs
  | false=>SqL K H l xs
noncomputable def ItZ (K:PySem.W.Frag) (b c:Bool) (l m:Addr):It:=⟨fun i H=>∃ xs ys u v,SqB b K H l xs∧SqB c K H m ys∧xs[i]?=some u∧ys[i]?=some v,
  fun i H x H'=>∃ p u v,x=.ref p∧H p=none∧H'=upd H p (.tup [u,v])∧(∀ xs,SqB b K H l xs→xs[i]?=some u)∧∀ ys,SqB c K H m ys→ys[i]?=some v,fun i H=>∃ xs ys,SqB b K H l xs∧SqB c K H m ys∧(xs.length≤i∨ys.length≤i)⟩
section
variable {X:Cx} {pos:Pos}
theorem yK {pins:List (Addr × Obj)} {σ:St} {H:Hp} {s:Shared} {b:Bool} {l:Addr} {xs:List V} (I:Inv X pins σ H s) (h:SqB b X.K H l xs):∃ its:List Value,Vals xs its∧SQ b s.heap l its.toArray:=by
  cases b with
  | true=>obtain ⟨its,r,p,_⟩:=I.tuple h;exact ⟨its,r,p⟩
  | false=>obtain ⟨its,r,p,_⟩:=I.list h;exact ⟨its,r,p.isList⟩
theorem qb4 {pins:List (Addr × Obj)} {σ:St} {H:Hp} {s:Shared} {b:Bool} {l:Addr} {xs ys:List V} (I:Inv X pins σ H s) (h:SqB b X.K H l xs) (h':SqB b X.K H l ys):xs=ys:=by
  cases b with
  | true=>exact I.tuple_inj h h'
  | false=>exact I.list_inj h h'
noncomputable def ztn (b c:Bool) (z TI TO i j l m:Addr) (k:Nat) (h:Heap):Prop:=IsZip h z TI TO .none∧IsPair h TI (.ref i) (.ref j)∧(∃ a d,IsPair h TO a d)∧SI b h i l k∧SI c h j m k
theorem qd7 {P:Program} {w:World} {K:PySem.W.Frag} {es:List Expr} {n:Nat} {tp:Pos} {b c:Bool} {z TI TO i j l m:Addr} (D:ZA z TI TO i j l m):Turn P w K (.Tuple es n tp) (ItZ K b c l m) [z,TI,TO,i,j] z (ztn b c z TI TO i j l m) where
  mem:=by simp
  obj:=fun k h ⟨h1,h2,⟨a,d,h3⟩,h4,h5⟩ x hx=>by
    simp only [List.mem_cons,List.not_mem_nil,or_false] at hx
    rcases hx with rfl | rfl | rfl | rfl | rfl
    · exact ⟨_,h1,fun v q=>by cases (show Data.fields _=Data.cell v from q)⟩
    · exact ⟨_,h2,fun v q=>by cases (show Data.seq _ _=Data.cell v from q)⟩
    · exact ⟨_,h3,fun v q=>by cases (show Data.seq _ _=Data.cell v from q)⟩
    · exact h4.obj
    · exact h5.obj
  keep:=fun k h h' ⟨h1,h2,⟨a,d,h3⟩,h4,h5⟩ kp=>⟨kp z (by simp) _ h1,kp TI (by simp) _ h2,⟨a,d,kp TO (by simp) _ h3⟩,h4.at fun o e=>kp i (by simp) o e,h5.at fun o e=>kp j (by simp) o e⟩
  item:=by
    intro X hP hw hK hc k pins s σ H E I hf st hg
    subst hP hw hK
    obtain ⟨xs,ys,u,v,hx,hy,eu,ev⟩:=hg
    obtain ⟨s1,s2,s3,s4,s5⟩:=st
    obtain ⟨its,rx,qx⟩:=yK I hx
    obtain ⟨jts,ry,qy⟩:=yK I hy
    obtain ⟨x,ex,rxu⟩:=rx.get eu
    obtain ⟨y,ey,ryv⟩:=ry.get ev
    refine qhG D ⟨s1,s2,s3,s4,s5,qx,qy⟩ (by simpa using ex) (by simpa using ey) fun h' zs pr kp=>⟨_,rfl,?_⟩
    obtain ⟨t1,t2,t3,t4,t5,t6,t7⟩:=zs
    refine wpAny_letOwnedTupleGo_zip (s:={ s with heap:=h' }) t1 fun h2 z2 b2=>?_
    have hfz:H s.heap.objs.size=none:=I.hok.fresh (Nat.le_refl _)
    have nz:s.heap.objs.size≠z:=Nat.ne_of_gt (Heap.lt_size s1)
    have all:∀ a o,a ∉ [z,TI,TO,i,j]→s.heap.get? a=some o→h2.get? a=some o:=fun a o na e=>by
      simp only [List.mem_cons,List.not_mem_nil,or_false,not_or] at na
      exact b2.extBut _ _ na.1 (kp a o na.1 na.2.2.1 na.2.2.2.1 na.2.2.2.2 e)
    have ne:∀ a o,s.heap.get? a=some o→a≠s.heap.objs.size:=fun a o e=>Nat.ne_of_lt (Heap.lt_size e)
    have nt:∀ {a:Addr} {q:HO},H a=some q→a ∉ [z,TI,TO,i,j]:=fun {a q} e hm=>by rw [(hf a hm).1] at e;cases e
    have nu:∀ {a:Addr} {q:HO},H a=some q→a≠s.heap.objs.size:=fun {a q} e z'=>by subst z';rw [hfz] at e;cases e
    have ok':HOk X.prog X.w (upd H s.heap.objs.size (.tup [u,v])) h2:=fun a q e=>by
      by_cases qa:a=s.heap.objs.size
      · subst qa
        rw [qm] at e;cases e
        exact ⟨(show (2:Nat)≤sizeLine by decide),[x,y],.cons rxu (.cons ryv .nil),⟨_,b2.extBut _ _ nz pr,rfl,0,rfl⟩,fun o q=>by rw [b2.extBut _ _ nz pr] at q;cases q;rfl⟩
      · rw [qk qa] at e
        refine (I.hok a q e).stay (fun d o hd eo=>all d o ?_ eo) (fun d e'=>by rw [qk (nu e')];exact e') fun d xs e'=>by rw [qk (nu e')];exact e'
        rcases hd with y' | y'
        · subst y';exact nt e
        · exact nt y'
    have I2:Inv X pins σ (upd H s.heap.objs.size (.tup [u,v])) { s with heap:=h2 }:=by
      refine I.step (g':=s.gens) (d':=s.drawn) (t':=s.toks) (ch:=[z,TI,TO,i,j]) (fun a ha=>⟨(hf a ha).2.2.2.1,(hf a ha).2.1,(hf a ha).2.2.2.2.1,(hf a ha).2.2.2.2.2⟩) (fun a o _ _ na e _=>all a o na e) (fun a o _ _ na e _=>⟨o.slots,all a o na e⟩)
        (fun a o _ e n=>by rw [qk (ne a o e)];exact n) (fun a o na e=>⟨o,all a o na e⟩) (fun a xs e=>by rw [qk (nu e)];exact e) (fun a o q e=>by rw [qk (nu e)];exact e) (fun a ps e=>⟨#[],by rw [qk (nu e),e];simp⟩) (fun mm hm=>?_) ok' I.bare.self
      obtain ⟨o,es,ep,ho,r⟩:=hm
      exact ⟨o,es,ep,all _ o (fun q=>(hf _ q).2.1 rfl) ho,r⟩
    refine ⟨.ref s.heap.objs.size,_,I2,rfl,⟨_,u,v,rfl,hfz,rfl,fun xs' q=>by rw [qb4 I q hx];exact eu,fun ys' q=>by rw [qb4 I q hy];exact ev⟩,⟨z2,b2.extBut _ _ D.zTI t2,?_,t4.at fun o e=>b2.extBut _ o D.zi e,t5.at fun o e=>b2.extBut _ o D.zj e⟩,fun a ha=>?_⟩
    · obtain ⟨a,d,t3⟩:=t3
      exact ⟨a,d,b2.extBut _ _ D.zTO t3⟩
    · rw [qk]
      · exact (hf a ha).1
      · intro q
        have:∃ o,s.heap.get? a=some o:=by
          obtain ⟨a',d',s3'⟩:=s3
          simp only [List.mem_cons,List.not_mem_nil,or_false] at ha
          rcases ha with rfl | rfl | rfl | rfl | rfl
          · exact ⟨_,s1⟩
          · exact ⟨_,s2⟩
          · exact ⟨_,s3'⟩
          · exact ⟨_,s4.obj.choose_spec.1⟩
          · exact ⟨_,s5.obj.choose_spec.1⟩
        obtain ⟨o,e⟩:=this
        exact ne a o e q
  done:=by
    intro X hP hw hK hc k pins s σ H E I hf st hg
    subst hP hw hK
    obtain ⟨xs,ys,hx,hy,hl⟩:=hg
    obtain ⟨s1,s2,s3,s4,s5⟩:=st
    obtain ⟨its,rx,qx⟩:=yK I hx
    obtain ⟨jts,ry,qy⟩:=yK I hy
    have hn:its.toArray[k]?=none∨jts.toArray[k]?=none:=by
      rcases hl with q | q
      · left;simp;rw [← rx.length];exact q
      · right;simp;rw [← ry.length];exact q
    refine qfV (I.ok.hd hc) D ⟨s1,s2,s3,s4,s5,qx,qy⟩ hn fun h' kp=>⟨rfl,?_⟩
    have nt:∀ {a:Addr} {q:HO},H a=some q→a ∉ [z,TI,TO,i,j]:=fun {a q} e hm=>by rw [(hf a hm).1] at e;cases e
    have all:∀ a o,a ∉ [z,TI,TO,i,j]→s.heap.get? a=some o→h'.get? a=some o:=fun a o na e=>by
      simp only [List.mem_cons,List.not_mem_nil,or_false,not_or] at na
      exact kp a o na.1 na.2.2.1 na.2.2.2.1 na.2.2.2.2 e
    have ok':HOk X.prog X.w H h':=fun a q e=>by
      refine (I.hok a q e).stay (fun d o hd eo=>all d o ?_ eo) (fun d e'=>e') fun d xs e'=>e'
      rcases hd with y' | y'
      · subst y';exact nt e
      · exact nt y'
    refine I.step (g':=s.gens) (d':=s.drawn) (t':=s.toks) (ch:=[z,TI,TO,i,j]) (fun a ha=>⟨(hf a ha).2.2.2.1,(hf a ha).2.1,(hf a ha).2.2.2.2.1,(hf a ha).2.2.2.2.2⟩) (fun a o _ _ na e _=>all a o na e) (fun a o _ _ na e _=>⟨o.slots,all a o na e⟩)
      (fun a o _ e n=>n) (fun a o na e=>⟨o,all a o na e⟩) (fun a xs e=>e) (fun a o q e=>e) (fun a ps e=>⟨#[],by rw [e];simp⟩) (fun mm hm=>?_) ok' I.bare.self
    obtain ⟨o,es,ep,ho,r⟩:=hm
    exact ⟨o,es,ep,all _ o (fun q=>(hf _ q).2.1 rfl) ho,r⟩
  self:=fun _ _ _ _ _ st h=>wpAny_pyIter_zip st.1 h
end
end R
namespace R
open PySem PySem.Spec L2 SeqAt
open PyProof.Rows hiding St
section
variable {X:Cx} {pos:Pos}
theorem jI {ι:List Addr} {H:Hp} {d:D} {l:List D} {v:V} (e:walkF d=some l) (h:Den ι H d v):∃ b a xs,v=.ref a∧a ∉ ι∧Dens ι H l xs∧(if b=true then H a=some (.tup xs) else Rd H a (.lst xs)):=by
  cases d with
  | tup l'=>cases e;obtain ⟨a,xs,e1,n,ha,dl⟩:=h;exact ⟨true,a,xs,e1,n,dl,by simpa using ha⟩
  | lst l'=>cases e;obtain ⟨a,xs,e1,n,ha,dl⟩:=h;exact ⟨false,a,xs,e1,n,dl,by simpa using ha⟩
  | _=>cases e
noncomputable def AtB (b:Bool) (H:Hp) (a:Addr) (xs:List V):Prop:=if b=true then H a=some (.tup xs) else Rd H a (.lst xs)
theorem AtB.sq {b:Bool} {H:Hp} {K:PySem.W.Frag} {a:Addr} {xs:List V} (h:AtB b H a xs):SqB b K H a xs:=by
  cases b with
  | true=>exact .inl (.inl h)
  | false=>exact .inl h
theorem AtB.mono {b:Bool} {ι ι':List Addr} {H H':Hp} {a:Addr} {xs:List V} (h:AtB b H a xs) (n:a ∉ ι) (s:Stp ι H ι' H'):AtB b H' a xs:=by
  cases b with
  | true=>exact s.keep _ _ h n trivial
  | false=>exact (s.rd h n).1
theorem qhH {ι:List Addr} {H:Hp} {K:PySem.W.Frag} {b c:Bool} {l m:Addr} {xs ys:List V} {ds es:List D} (nl:l ∉ ι) (nm:m ∉ ι) (al:AtB b H l xs) (am:AtB c H m ys) (h1:Dens ι H ds xs) (h2:Dens ι H es ys):ItOk ι H (ItZ K b c l m) ((ds.zip es).map fun p=>.tup [p.1,p.2]) where
  go:=fun i d ι2 H2 s e=>by
    rw [List.getElem?_map] at e
    cases z:(ds.zip es)[i]? with
    | none=>rw [z] at e;cases e
    | some p =>
      rw [z] at e;cases e
      obtain ⟨e1,e2⟩:=List.getElem?_zip_eq_some.mp z
      obtain ⟨u,u1,u2⟩:=(Dens.mono s ds h1).get e1
      obtain ⟨v,v1,v2⟩:=(Dens.mono s es h2).get e2
      have al2:=(al.mono nl s).sq (K:=K)
      have am2:=(am.mono nm s).sq (K:=K)
      refine ⟨⟨xs,ys,u,v,al2,am2,u1,v1⟩,fun x H3 hy=>?_⟩
      obtain ⟨q,u',v',rfl,hq,rfl,w1,w2⟩:=hy
      have w1:=w1 xs al2
      have w2:=w2 ys am2
      rw [u1] at w1;cases w1
      rw [v1] at w2;cases w2
      have g:=Stp.laid (ι:=ι2) hq (.tup [u,v])
      exact ⟨g,fun S st=>⟨st.laid hq _,q,[u,v],rfl,st.fresh hq,qm,u,[v],rfl,Den.mono g _ u2,v,[],rfl,Den.mono g _ v2,rfl⟩⟩
  stop:=fun ι2 H2 s=>by
    refine ⟨xs,ys,(al.mono nl s).sq,(am.mono nm s).sq,?_⟩
    rw [List.length_map,List.length_zip,h1.length,h2.length]
    lia
theorem qiX (N l m:Nat) (h1:l<N) (h2:m<N):ZA (N+4) (N+2) (N+3) N (N+1) l m :=
  ⟨(by lia:N+2≠N+4),(by lia:N+3≠N+4),(by lia:N≠N+4),(by lia:N+1≠N+4),(by lia:N+2≠N+3),(by lia:N+2≠N),(by lia:N+2≠N+1),(by lia:N+3≠N),(by lia:N+3≠N+1),(by lia:N≠N+1),
    (by lia:l≠N+4),(by lia:l≠N+3),(by lia:l≠N),(by lia:l≠N+1),(by lia:m≠N+4),(by lia:m≠N+3),(by lia:m≠N),(by lia:m≠N+1)⟩
theorem qd8:bootBuiltins "zip"=some (.type "zip"):=by decide +kernel
theorem qiY {es:List Expr} {n:Nat} {tp:Pos} {e1 e2:Expr} {p:Pos} {m1 m2:En→Sr→Res D} (hg:Gl X "zip") (hm:X.mg "zip"=none) (h1:PE X e1 (T m1)) (h2:PE X e2 (T m2)) (hs:starEach [e1,e2] X.env=(false,eval e1 X.env)::starEach [e2] X.env) (hs2:starEach [e2] X.env=(false,eval e2 X.env)::starEach [] X.env) :
    PI X (.Tuple es n tp) (.Call (.Name "zip" p) [e1,e2] [] pos) (TIt fun ρ S=>(m1 ρ S).bind fun x S1=>(m2 ρ S1).bind fun y S2=>match walkF x,walkF y with
      | some l,some m=>.ok ((l.zip m).map fun p=>.tup [p.1,p.2]) S2
      | _,_=>.no):=by
  intro pins s σ H R I hw
  obtain ⟨ι,S,ρ,er,st,q⟩:=hw
  dsimp only at q
  cases z1:m1 ρ S with
  | no=>rw [z1] at q;exact q.elim
  | err=>rw [z1] at q;exact q.elim
  | ok x S1 =>
    rw [z1,Res.bind_ok] at q
    cases z2:m2 ρ S1 with
    | no=>rw [z2] at q;exact q.elim
    | err=>rw [z2] at q;exact q.elim
    | ok y S2 =>
      rw [z2,Res.bind_ok] at q
      cases z3:walkF x with
      | none=>simp only [z3] at q
      | some l =>
        cases z4:walkF y with
        | none=>simp only [z3,z4] at q
        | some m =>
          simp only [z3,z4] at q
          refine Call_ (yh I hg hm qd8 (PyProof.Rows.callWith_type1 (e:=e1) (rest:=[e2]) ?_ hs (by rw [hs2];rfl)))
          rw [hs,hs2]
          refine Calls.spliced_cons (thn (h1 pins s σ H (fun v H1=>∃ ι1,Stp ι H ι1 H1∧Sto ι1 H1 S1∧Den ι1 H1 x v) I ⟨ι,S,ρ,er,st,by rw [z1];exact fun v ι1 H1 a b c=>⟨ι1,a,b,c⟩⟩) fun u1 s1 ⟨v1,H1,I1,r1,ι1,q1,st1,d1⟩=>?_)
          refine Calls.spliced_cons (thn (h2 pins s1 σ H1 (fun v H2=>∃ ι2,Stp ι1 H1 ι2 H2∧Sto ι2 H2 S2∧Den ι2 H2 y v) I1 ⟨ι1,S1,ρ,er.mono q1,st1,by rw [z2];exact fun v ι1 H1 a b c=>⟨ι1,a,b,c⟩⟩) fun u2 s2 ⟨v2,H2,I2,r2,ι2,q2,st2,d2⟩=>Calls.spliced_nil ?_)
          obtain ⟨b,la,xs,rfl,nl,dl,al⟩:=jI z3 (Den.mono q2 x d1)
          obtain ⟨c,ma,ys,rfl,nm,dm,am⟩:=jI z4 d2
          cases r1
          cases r2
          obtain ⟨its,rx,qx⟩:=yK I2 (AtB.sq al)
          obtain ⟨jts,ry,qy⟩:=yK I2 (AtB.sq am)
          have lt:∀ {b:Bool} {a:Addr} {w:Array Value},SQ b s2.heap a w→a<s2.heap.objs.size:=fun {b a w} h=>by
            cases b with
            | true=>obtain ⟨o,e,_⟩:=h;exact Heap.lt_size e
            | false=>obtain ⟨o,e,_⟩:=h;exact Heap.lt_size e
          have l1:=lt qx
          have l2:=lt qy
          refine qd6 qx qy fun h' zs kp=>wpAny_pyIter_zip zs.z ?_
          have I3:Inv X pins σ H2 { s2 with heap:=h' }:=I2.kept (t':=s2.toks) kp
          generalize hN:s2.heap.objs.size=N at l1 l2 zs
          have D:ZA (N+4) (N+2) (N+3) N (N+1) la ma:=qiX N la ma l1 l2
          refine ⟨N+4,[N+4,N+2,N+3,N,N+1],_,ItZ X.K b c la ma,H2,rfl,I3,qd7 D,⟨zs.z,zs.ti,zs.to',zs.i1,zs.i2⟩,fun a ha=>?_,q ι2 H2 _ (q1.trans q2) st2 (qhH nl nm al am dl dm)⟩
          have hle:s2.heap.objs.size≤a:=by
            rw [hN]
            simp only [List.mem_cons,List.not_mem_nil,or_false] at ha
            rcases ha with rfl | rfl | rfl | rfl | rfl
            · exact Nat.le_add_right _ _
            · exact Nat.le_add_right _ _
            · exact Nat.le_add_right _ _
            · exact Nat.le_refl _
            · exact Nat.le_add_right _ _
          exact I2.fpOk hle (I2.hok.fresh hle)
end
end R
namespace R
open PySem PySem.Spec L2 SeqAt
open PyProof.Rows hiding St
open PySem.W (KasT kas_rev kas_asc kas_desc kas_tail3 kas_descPart kas_count kas_place kas_bin kas_sort)
noncomputable def evT {α:Type} (lt:Nat→Nat→Bool):KasT α→α
  | .ret a=>a
  | .ask i j k=>evT lt (k (lt i j))
theorem zx {α β:Type} (lt:Nat→Nat→Bool) (f:α→KasT β):∀ t:KasT α,evT lt (t.bind f)=evT lt (f (evT lt t))
  | .ret _=>rfl
  | .ask i j k=>zx lt f (k (lt i j))
structure Ord (lt:Nat→Nat→Bool) (n:Nat):Prop where
  irr:∀ a,a<n→lt a a=false
  tr:∀ a b c,a<n→b<n→c<n→lt a b=true→lt b c=true→lt a c=true
  tot:∀ a b,a<n→b<n→a≠b→lt a b=true∨lt b a=true
noncomputable def gt (p:Array Nat) (k:Nat):Nat:=p.getD k 0
noncomputable def Pm (n:Nat) (p:Array Nat):Prop:=p.toList.Perm (List.range n)
section
variable {lt:Nat→Nat→Bool} {n:Nat} {p:Array Nat}
theorem Pm.size (h:Pm n p):p.size=n:=by
  have:=h.length_eq
  simpa using this
theorem qaL {k:Nat} (hk:k<p.size):gt p k=p[k]:=by simp [gt,Array.getD,hk]
theorem yB {q:Array Nat} {k j:Nat} (h:q[k]?=p[j]?):gt q k=gt p j:=by
  unfold gt
  rw [Array.getD_eq_getD_getElem?,Array.getD_eq_getD_getElem?,h]
theorem Pm.bd (h:Pm n p) {k:Nat} (hk:k<n):gt p k<n:=by
  have hs:k<p.size:=by rw [h.size];exact hk
  rw [qaL hs]
  have hm:p[k]∈p.toList:=by simp
  exact List.mem_range.mp (h.mem_iff.mp hm)
theorem Pm.inj (h:Pm n p) {i j:Nat} (hi:i<n) (hj:j<n) (e:gt p i=gt p j):i=j:=by
  have nd:p.toList.Nodup:=h.nodup_iff.mpr List.nodup_range
  have hs:i<p.size:=by rw [h.size];exact hi
  have ht:j<p.size:=by rw [h.size];exact hj
  rw [qaL hs,qaL ht] at e
  have e':p.toList[i]'(by simpa using hs)=p.toList[j]'(by simpa using ht):=by simpa using e
  exact (List.getElem_inj nd).mp e'
noncomputable def Srt (lt:Nat→Nat→Bool) (p:Array Nat) (m:Nat):Prop:=∀ i j,i<j→j<m→lt (gt p i) (gt p j)=true
theorem Srt.one:Srt lt p 1:=fun i j h1 h2=>by lia
theorem Srt.snoc (O:Ord lt n) (h:Pm n p) {m:Nat} (hm:1≤m) (hn:m<n) (s:Srt lt p m) (q:lt (gt p (m-1)) (gt p m)=true):Srt lt p (m+1):=fun i j h1 h2=>by
  by_cases hj:j<m
  · exact s i j h1 hj
  · have e:j=m:=by lia
    subst e
    by_cases hi:i=j-1
    · subst hi;exact q
    · exact O.tr _ _ _ (h.bd (by lia)) (h.bd (by lia)) (h.bd hn) (s i (j-1) (by lia) (by lia)) q
theorem j8 (O:Ord lt n) (h:Pm n p):∀ (f k:Nat),1≤k→k+f=n→Srt lt p k→(k≤evT lt (kas_asc p f k)∧evT lt (kas_asc p f k)≤n∧Srt lt p (evT lt (kas_asc p f k)))∧(evT lt (kas_asc p f k)<n→lt (gt p (evT lt (kas_asc p f k))) (gt p (evT lt (kas_asc p f k)-1))=true)
  | 0,k,h1,h2,s=>⟨⟨Nat.le_refl _,by show k≤n;lia,s⟩,fun q=>by have q':k<n:=q;lia⟩
  | f+1,k,h1,h2,s=>by
    unfold kas_asc
    simp only [evT]
    cases z:lt (p.getD k 0) (p.getD (k-1) 0) with
    | true =>
      rw [if_pos rfl]
      exact ⟨⟨Nat.le_refl _,by show k≤n;lia,s⟩,fun _=>z⟩
    | false =>
      rw [if_neg (by decide)]
      have hne:gt p k≠gt p (k-1):=fun e=>by
        have:=h.inj (by lia) (by lia) e
        lia
      have q:lt (gt p (k-1)) (gt p k)=true:=by
        rcases O.tot _ _ (h.bd (show k<n by lia)) (h.bd (show k-1<n by lia)) hne with y | y
        · have z':lt (gt p k) (gt p (k-1))=false:=z
          rw [z'] at y;cases y
        · exact y
      obtain ⟨⟨a1,a2,a3⟩,a4⟩:=j8 O h f (k+1) (by lia) (by lia) (s.snoc O h h1 (by lia) q)
      exact ⟨⟨by lia,a2,a3⟩,a4⟩
noncomputable def Fal (lt:Nat→Nat→Bool) (p:Array Nat) (m:Nat):Prop:=∀ i j,i<j→j<m→lt (gt p j) (gt p i)=true
theorem Fal.snoc (O:Ord lt n) (h:Pm n p) {m:Nat} (hm:1≤m) (hn:m<n) (s:Fal lt p m) (q:lt (gt p m) (gt p (m-1))=true):Fal lt p (m+1):=fun i j h1 h2=>by
  by_cases hj:j<m
  · exact s i j h1 hj
  · have e:j=m:=by lia
    subst e
    by_cases hi:i=j-1
    · subst hi;exact q
    · exact O.tr _ _ _ (h.bd hn) (h.bd (by lia)) (h.bd (by lia)) q (s i (j-1) (by lia) (by lia))
theorem j9 (O:Ord lt n) (h:Pm n p):∀ (f k:Nat),1≤k→k+f=n→Fal lt p k→∃ m,evT lt (kas_desc f p k 0)=(p,m,0)∧k≤m∧m≤n∧Fal lt p m
  | 0,k,h1,h2,s=>⟨k,rfl,Nat.le_refl _,by lia,s⟩
  | f+1,k,h1,h2,s=>by
    unfold kas_desc
    simp only [evT]
    cases z:lt (p.getD k 0) (p.getD (k-1) 0) with
    | true =>
      rw [if_pos rfl,if_neg (by lia)]
      obtain ⟨m,e,a1,a2,a3⟩:=j9 O h f (k+1) (by lia) (by lia) (s.snoc O h h1 (by lia) z)
      exact ⟨m,e,by lia,a2,a3⟩
    | false =>
      rw [if_neg (by decide)]
      simp only [evT]
      have hne:gt p k≠gt p (k-1):=fun e=>by
        have:=h.inj (by lia) (by lia) e
        lia
      have q:lt (p.getD (k-1) 0) (p.getD k 0)=true:=by
        rcases O.tot _ _ (h.bd (show k<n by lia)) (h.bd (show k-1<n by lia)) hne with y | y
        · have z':lt (gt p k) (gt p (k-1))=false:=z
          rw [z'] at y;cases y
        · exact y
      rw [q,if_pos rfl]
      exact ⟨k,rfl,Nat.le_refl _,by lia,s⟩
theorem qd9 (h:Pm n p) (i j:Nat):Pm n (kas_rev p i j):=(mirror_perm p i j _).toList.trans h
theorem qfX (O:Ord lt n) (h:Pm n p) {k:Nat} (h1:1≤k) (hk:k≤n) (s:Fal lt p k):∃ m q,evT lt (kas_tail3 k n p)=(m,q)∧Pm n q∧1≤m∧m≤n∧Srt lt q m:=by
  have hp:Pm n (kas_rev p 0 k):=qd9 h 0 k
  have sr:Srt lt (kas_rev p 0 k) k:=fun i j h2 h3=>by
    have e:∀ x,x<k→gt (kas_rev p 0 k) x=gt p (k-1-x):=fun x hx=>by
      have:=getElem?_mirror_all (xs:=p) (i:=0) (j:=k) (by rw [h.size];exact hk) x
      rw [if_pos ⟨Nat.zero_le _,hx⟩] at this
      have q:=yB this
      have e2:0+k-1-x=k-1-x:=by lia
      rw [e2] at q
      exact q
    rw [e i (by lia),e j h3]
    exact s (k-1-j) (k-1-i) (by lia) (by lia)
  unfold kas_tail3
  rw [zx]
  obtain ⟨⟨a1,a2,a3⟩,_⟩:=j8 O hp (n-k) k h1 (by lia) sr
  exact ⟨_,_,rfl,hp,by lia,a2,a3⟩
theorem qaM (O:Ord lt n) (hn:1≤n) (h:Pm n p):∃ m q,evT lt (kas_count n p)=(m,q)∧Pm n q∧1≤m∧m≤n∧Srt lt q m:=by
  unfold kas_count
  rw [zx]
  obtain ⟨⟨a1,a2,a3⟩,a4⟩:=j8 O h (n-1) 1 (Nat.le_refl _) (by lia) Srt.one
  generalize evT lt (kas_asc p (n-1) 1)=m at *
  by_cases e:m=n
  · subst e
    rw [if_pos (by simp)]
    exact ⟨m,p,rfl,h,a1,a2,a3⟩
  · rw [if_neg (by simpa using e)]
    by_cases h1:m>1
    · rw [if_pos h1]
      simp only [evT]
      have q:lt (p.getD 0 0) (p.getD (m-1) 0)=true:=a3 0 (m-1) (by lia) (by lia)
      rw [q,if_pos rfl]
      exact ⟨m,p,rfl,h,a1,a2,a3⟩
    · rw [if_neg h1]
      have e1:m=1:=by lia
      subst e1
      have q:=a4 (by lia)
      unfold kas_descPart
      rw [zx]
      have f2:Fal lt p 2:=Fal.snoc (m:=1) O h (Nat.le_refl _) (by lia) (fun i j h1 h2=>by lia) q
      obtain ⟨k,e,b1,b2,b3⟩:=j9 O h (n-(1+1)) (1+1) (by lia) (by lia) f2
      rw [e]
      rw [if_neg (by simp)]
      exact qfX (k:=k) O h (by lia) b2 b3
theorem jj (O:Ord lt n) (h:Pm n p) {k:Nat} (hk:k<n) (s:Srt lt p k):∀ (f l r:Nat),l≤r→r≤k→r-l≤f→(∀ i,i<l→lt (gt p i) (gt p k)=true)→(∀ i,r≤i→i<k→lt (gt p k) (gt p i)=true) →
    evT lt (kas_place p k f l r)≤k∧(∀ i,i<evT lt (kas_place p k f l r)→lt (gt p i) (gt p k)=true)∧∀ i,evT lt (kas_place p k f l r)≤i→i<k→lt (gt p k) (gt p i)=true
  | 0,l,r,h1,h2,h3,a,b=>⟨by show l≤k;lia,a,fun i h4 h5=>b i (by have h4':l≤i:=h4;lia) h5⟩
  | f+1,l,r,h1,h2,h3,a,b=>by
    unfold kas_place
    by_cases hl:l≥r
    · rw [if_pos hl]
      exact ⟨by show l≤k;lia,a,fun i h4 h5=>b i (by have h4':l≤i:=h4;lia) h5⟩
    · rw [if_neg hl]
      simp only [evT]
      have hm:(l+r) / 2<k:=by lia
      cases z:lt (p.getD k 0) (p.getD ((l+r) / 2) 0) with
      | true =>
        rw [if_pos rfl]
        refine jj O h hk s f l ((l+r) / 2) (by lia) (by lia) (by lia) a fun i h4 h5=>?_
        by_cases e:i=(l+r) / 2
        · subst e;exact z
        · exact O.tr _ _ _ (h.bd hk) (h.bd (by lia)) (h.bd (by lia)) z (s ((l+r) / 2) i (by lia) h5)
      | false =>
        rw [if_neg (by decide)]
        have hne:gt p k≠gt p ((l+r) / 2):=fun e=>by
          have:=h.inj hk (by lia) e
          lia
        have q:lt (gt p ((l+r) / 2)) (gt p k)=true:=by
          rcases O.tot _ _ (h.bd hk) (h.bd (show (l+r) / 2<n by lia)) hne with y | y
          · have z':lt (gt p k) (gt p ((l+r) / 2))=false:=z
            rw [z'] at y;cases y
          · exact y
        refine jj O h hk s f ((l+r) / 2+1) r (by lia) h2 (by lia) (fun i h4=>?_) b
        by_cases e:i=(l+r) / 2
        · subst e;exact q
        · exact O.tr _ _ _ (h.bd (by lia)) (h.bd (by lia)) (h.bd hk) (s i ((l+r) / 2) (by lia) hm) q
theorem qea (O:Ord lt n):∀ (f k:Nat) (p:Array Nat),Pm n p→k+f=n→Srt lt p k→Pm n (evT lt (kas_bin f p k))∧Srt lt (evT lt (kas_bin f p k)) n
  | 0,k,p,h,h1,s=>by
    have e:k=n:=by lia
    subst e
    exact ⟨h,s⟩
  | f+1,k,p,h,h1,s=>by
    unfold kas_bin
    rw [zx]
    obtain ⟨a1,a2,a3⟩:=jj O h (k:=k) (by lia) s k 0 k (Nat.zero_le _) (Nat.le_refl _) (by lia) (fun i hi=>by lia) fun i h2 h3=>by lia
    generalize evT lt (kas_place p k k 0 k)=l at *
    have hp:Pm n (bubble p k (k-l)):=(bubble_perm p k (k-l)).toList.trans h
    refine qea O f (k+1) _ hp (by lia) fun i j h2 h3=>?_
    have ev:∀ x,gt (bubble p k (k-l)) x=if x=l then gt p k else if l<x∧x≤k then gt p (x-1) else gt p x:=fun x=>by
      have e:=getElem?_bubble (xs:=p) (src:=k) (by rw [h.size];lia) (k-l) (by lia) x
      have e3:k-(k-l)=l:=by lia
      rw [e3] at e
      by_cases q1:x=l
      · rw [if_pos q1] at e ⊢;exact yB e
      · rw [if_neg q1] at e ⊢
        by_cases q2:l<x∧x≤k
        · rw [if_pos q2] at e ⊢;exact yB e
        · rw [if_neg q2] at e ⊢;exact yB e
    rw [ev i,ev j]
    by_cases i1:i=l
    · rw [if_pos i1,if_neg (by lia),if_pos ⟨by lia,by lia⟩]
      exact a3 (j-1) (by lia) (by lia)
    · rw [if_neg i1]
      by_cases j1:j=l
      · rw [if_pos j1,if_neg (by lia)]
        exact a2 i (by lia)
      · rw [if_neg j1]
        by_cases i2:l<i∧i≤k
        · rw [if_pos i2,if_pos ⟨by lia,by lia⟩]
          exact s (i-1) (j-1) (by lia) (by lia)
        · rw [if_neg i2]
          by_cases j2:l<j∧j≤k
          · rw [if_pos j2]
            exact s i (j-1) (by lia) (by lia)
          · rw [if_neg j2]
            exact s i j h2 (by lia)
theorem qb5 (O:Ord lt n) (hn:1≤n):Pm n (evT lt (kas_sort n))∧Srt lt (evT lt (kas_sort n)) n:=by
  unfold kas_sort
  rw [zx]
  have h0:Pm n (List.toArray (List.range n)):=by
    show (List.toArray (List.range n)).toList.Perm _
    simp
  obtain ⟨m,q,e,a1,a2,a3,a4⟩:=qaM O hn h0
  rw [e]
  by_cases hm:m<n
  · rw [if_pos hm]
    have e2:max m 1=m:=by lia
    show Pm n (evT lt (kas_bin (n-max m 1) q (max m 1)))∧_
    rw [e2]
    exact qea O (n-m) m q a1 (by lia) a4
  · rw [if_neg hm]
    have e2:m=n:=by lia
    subst e2
    exact ⟨a1,a4⟩
end
end R
namespace R
open PySem PySem.Spec L2 SeqAt
open PyProof.Rows hiding St
open PySem.W (KasT kas_rev kas_asc kas_desc kas_tail3 kas_descPart kas_count kas_place kas_bin kas_sort kas_cmp kas_item kas_item_eq kas_runs kas_st kas_range KatLex kat_lt KatTups kat_kind)
noncomputable def InT {α:Type} (lt:Nat→Nat→Bool) (n:Nat):KasT α→Prop
  | .ret _=>True
  | .ask i j k=>i<n∧j<n∧InT lt n (k (lt i j))
section
variable {lt:Nat→Nat→Bool} {n:Nat} {p:Array Nat}
theorem zy {α β:Type} {f:α→KasT β}:∀ {t:KasT α},InT lt n t→InT lt n (f (evT lt t))→InT lt n (t.bind f)
  | .ret _,_,h=>h
  | .ask i j k,h,h'=>⟨h.1,h.2.1,zy h.2.2 h'⟩
theorem qbq (h:Pm n p):∀ (f k:Nat),1≤k→k+f=n→InT lt n (kas_asc p f k)
  | 0,_,_,_=>trivial
  | f+1,k,h1,h2=>by
    refine ⟨h.bd (show k<n by lia),h.bd (show k-1<n by lia),?_⟩
    dsimp only
    split
    · trivial
    · exact qbq h f (k+1) (by lia) (by lia)
theorem qb6 (O:Ord lt n) (h:Pm n p):∀ (f k:Nat),1≤k→k+f=n→InT lt n (kas_desc f p k 0)
  | 0,_,_,_=>trivial
  | f+1,k,h1,h2=>by
    refine ⟨h.bd (show k<n by lia),h.bd (show k-1<n by lia),?_⟩
    cases z:lt (p.getD k 0) (p.getD (k-1) 0) with
    | true =>
      dsimp only
      rw [if_pos rfl,if_neg (by lia)]
      exact qb6 O h f (k+1) (by lia) (by lia)
    | false =>
      dsimp only
      rw [if_neg (by decide)]
      refine ⟨h.bd (show k-1<n by lia),h.bd (show k<n by lia),?_⟩
      have hne:gt p k≠gt p (k-1):=fun e=>by
        have:=h.inj (by lia) (by lia) e
        lia
      have q:lt (p.getD (k-1) 0) (p.getD k 0)=true:=by
        rcases O.tot _ _ (h.bd (show k<n by lia)) (h.bd (show k-1<n by lia)) hne with y | y
        · have z':lt (gt p k) (gt p (k-1))=false:=z
          rw [z'] at y;cases y
        · exact y
      rw [q]
      dsimp only
      rw [if_pos rfl]
      trivial
theorem qfY (h:Pm n p) {k:Nat} (h1:1≤k) (hk:k≤n):InT lt n (kas_tail3 k n p):=zy (qbq (qd9 h 0 k) (n-k) k h1 (by lia)) trivial
theorem qeb (O:Ord lt n) (hn:1≤n) (h:Pm n p):InT lt n (kas_count n p):=by
  unfold kas_count
  obtain ⟨⟨a1,a2,a3⟩,a4⟩:=j8 O h (n-1) 1 (Nat.le_refl _) (by lia) Srt.one
  refine zy (qbq h (n-1) 1 (Nat.le_refl _) (by lia)) ?_
  generalize evT lt (kas_asc p (n-1) 1)=m at *
  by_cases e:m=n
  · subst e;rw [if_pos (by simp)];trivial
  · rw [if_neg (by simpa using e)]
    by_cases h1:m>1
    · rw [if_pos h1]
      refine ⟨h.bd (show 0<n by lia),h.bd (show m-1<n by lia),?_⟩
      have q:lt (p.getD 0 0) (p.getD (m-1) 0)=true:=a3 0 (m-1) (by lia) (by lia)
      rw [q]
      dsimp only
      rw [if_pos rfl];trivial
    · rw [if_neg h1]
      have e1:m=1:=by lia
      subst e1
      have q:=a4 (by lia)
      unfold kas_descPart
      have f2:Fal lt p 2:=Fal.snoc (m:=1) O h (Nat.le_refl _) (by lia) (fun i j h1 h2=>by lia) q
      obtain ⟨k,e,b1,b2,b3⟩:=j9 O h (n-(1+1)) (1+1) (by lia) (by lia) f2
      refine zy (qb6 O h (n-(1+1)) (1+1) (by lia) (by lia)) ?_
      rw [e,if_neg (by simp)]
      exact qfY (k:=k) h (by lia) b2
theorem jk (h:Pm n p) {k:Nat} (hk:k<n):∀ (f l r:Nat),r≤k→InT lt n (kas_place p k f l r)
  | 0,_,_,_=>trivial
  | f+1,l,r,h2=>by
    unfold kas_place
    by_cases hl:l≥r
    · rw [if_pos hl];trivial
    · rw [if_neg hl]
      refine ⟨h.bd hk,h.bd (show (l+r) / 2<n by lia),?_⟩
      dsimp only
      split
      · exact jk h hk f l _ (by lia)
      · exact jk h hk f _ r h2
theorem qec (O:Ord lt n):∀ (f k:Nat) (p:Array Nat),Pm n p→k+f=n→InT lt n (kas_bin f p k)
  | 0,_,_,_,_=>trivial
  | f+1,k,p,h,h1=>zy (jk h (by lia) k 0 k (Nat.le_refl _)) (qec O f (k+1) _ ((bubble_perm p k _).toList.trans h) (by lia))
theorem qfZ (O:Ord lt n) (hn:1≤n):InT lt n (kas_sort n):=by
  have h0:Pm n (List.toArray (List.range n)):=by
    show (List.toArray (List.range n)).toList.Perm _
    simp
  obtain ⟨m,q,e,a1,a2,a3,a4⟩:=qaM O hn h0
  refine zy (qeb O hn h0) ?_
  rw [e]
  by_cases hm:m<n
  · rw [if_pos hm]
    have e2:max m 1=m:=by lia
    show InT lt n (kas_bin (n-max m 1) q (max m 1))
    rw [e2]
    exact qec O (n-m) m q a1 (by lia)
  · rw [if_neg hm];trivial
theorem qb7 {α:Type} {cmp:Nat→Nat→(Bool→Shared→Prop)→Shared→Prop} {s:Shared} (hc:∀ i j C,i<n→j<n→C (lt i j) s→cmp i j C s) {Q:α→Shared→Prop}:∀ {t:KasT α},InT lt n t→Q (evT lt t) s→t.kasWp cmp Q s
  | .ret _,_,h=>h
  | .ask i j k,h,q=>hc i j _ h.1 h.2.1 (qb7 hc h.2.2 q)
end
section
variable {prog:Program} {w:World} {A:Around} {E:Value→Shared→Prop} {s:Shared}
theorem qhI {b:Bool} {x y:Int} {t u:Tok} {Q:Bool→Shared→Prop} (h:Q (decide (x<y)) s):wpAny (model prog w) A (oneLt' b (.int x t) (.int y u)) Q E s:=by
  cases b with
  | true=>exact oneLt_int h
  | false=>exact PySem.W.kat_one _ _ (PySem.P.lt_int h)
theorem qed {b:Bool} {Q:Bool→Shared→Prop}:∀ {xs ys:List Int} {us vs:List Value} {i:Nat},IntsAre us xs→IntsAre vs ys→Q (HT.lexLt xs ys) s→KatLex prog w A b (decide (xs.length<ys.length)) Q (us.zip vs) i s:=by
  intro xs
  induction xs with
  | nil =>
    intro ys us vs i h1 h2 h
    cases h1
    cases h2 with
    | nil=>exact h
    | cons =>
      show Q _ s
      simpa [HT.lexLt] using h
  | cons x xs ih =>
    intro ys us vs i h1 h2 h
    cases h1 with
    | cons _ t rx =>
    cases h2 with
    | nil =>
      show Q _ s
      simpa [HT.lexLt] using h
    | cons _ u ry =>
    refine wpAny_eqBool_int ?_
    rw [HT.qN] at h
    split at h
    · rename_i e
      subst e
      rw [if_pos (by simp)]
      have:=ih (i:=i+1) rx ry h
      simpa [List.zip] using this
    · rename_i e
      rw [if_neg (by simpa using e)]
      exact qhI h
noncomputable def TupsAt (h:Heap):List Value→List (List Int)→Prop
  | [],ks=>ks=[]
  | v::vs,ks=>∃ a its k r,v=.ref a∧ks=k::r∧IsTup h a its.toArray∧IntsAre its k∧TupsAt h vs r
theorem TupsAt.len {h:Heap}:∀ {vs:List Value} {ks:List (List Int)},TupsAt h vs ks→vs.length=ks.length
  | [],_,e=>by cases (show _=[] from e);rfl
  | _::_,_,e=>by obtain ⟨a,its,k,r,_,rfl,_,_,t⟩:=e;simp [TupsAt.len t]
theorem TupsAt.get {h:Heap}:∀ {vs:List Value} {ks:List (List Int)} (i:Nat),TupsAt h vs ks→i<ks.length→∃ a its,vs.getD i .none=.ref a∧IsTup h a its.toArray∧IntsAre its (ks.getD i [])
  | [],_,_,e,hi=>by cases (show _=[] from e);simp at hi
  | _::vs,_,0,e,hi=>by obtain ⟨a,its,k,r,rfl,rfl,h1,h2,_⟩:=e;exact ⟨a,its,rfl,h1,by simpa using h2⟩
  | _::vs,_,i+1,e,hi=>by
    obtain ⟨a,its,k,r,rfl,rfl,h1,h2,t⟩:=e
    obtain ⟨a',its',e1,e2,e3⟩:=TupsAt.get i t (by simpa using hi)
    exact ⟨a',its',by simpa using e1,e2,by simpa using e3⟩
theorem TupsAt.keep {h h':Heap}:∀ {vs:List Value} {ks:List (List Int)},TupsAt h vs ks→(∀ a o,Value.ref a∈vs→h.get? a=some o→h'.get? a=some o)→TupsAt h' vs ks
  | [],_,e,_=>e
  | _::_,_,e,hk=>by
    obtain ⟨a,its,k,r,rfl,rfl,⟨o,eo,c⟩,h2,t⟩:=e
    exact ⟨a,its,k,r,rfl,rfl,⟨o,hk a o List.mem_cons_self eo,c⟩,h2,t.keep fun b u hb=>hk b u (List.mem_cons_of_mem _ hb)⟩
theorem TupsAt.firsts {h:Heap}:∀ {vs:List Value} {ks:List (List Int)},TupsAt h vs ks→(∀ k∈ks,k≠[])→∃ fs:List Value,KatTups h vs fs∧fs.length=vs.length∧∀ f∈fs,∃ x t,f=.int x t
  | [],_,e,_=>⟨[],trivial,rfl,fun f hf=>by cases hf⟩
  | _::_,_,e,hn=>by
    obtain ⟨a,its,k,r,rfl,rfl,⟨o,eo,c,m,d⟩,h2,t⟩:=e
    obtain ⟨fs,k1,k2,k3⟩:=t.firsts fun k hk=>hn k (List.mem_cons_of_mem _ hk)
    cases h2 with
    | nil=>exact absurd rfl (hn [] List.mem_cons_self)
    | cons x tx h2 =>
      refine ⟨.int x tx::fs,⟨⟨a,o,_,m,rfl,eo,c,d,by simp⟩,k1⟩,by simp [k2],fun f hf=>?_⟩
      rcases List.mem_cons.mp hf with z | z
      · exact ⟨x,tx,z⟩
      · exact k3 f z
noncomputable def ltK (ks:List (List Int)) (i j:Nat):Bool:=HT.lexLt (ks.getD i []) (ks.getD j [])
theorem qf0 {vs:List Value} {ks:List (List Int)} (t:TupsAt s.heap vs ks) {i j:Nat} (hi:i<ks.length) (hj:j<ks.length) {C:Bool→Shared→Prop} (h:C (ltK ks i j) s):kas_cmp prog w A (tuples' true) (pairsOf vs) i j C s:=by
  unfold kas_cmp
  rw [kas_item_eq,kas_item_eq]
  obtain ⟨a,xs,e1,⟨o,eo,_,m,d⟩,r1⟩:=t.get i hi
  obtain ⟨b,ys,e2,⟨u,eu,_,m',d'⟩,r2⟩:=t.get j hj
  dsimp only
  rw [e1,e2]
  have:=qed (prog:=prog) (w:=w) (A:=A) (s:=s) (b:=true) (i:=0) (Q:=C) r1 r2 h
  refine kat_lt eo d eu d' ?_
  have l1:=r1.length
  have l2:=r2.length
  simpa [l1,l2] using this
theorem qee {vs:List Value} {ks:List (List Int)} (t:TupsAt s.heap vs ks) (hn:∀ k∈ks,k≠[]) (h2:2≤vs.length) {Q:SortKind→Shared→Prop} (h:Q (tuples' true) s):wpAny (model prog w) A (keyKind' vs.toArray) Q E s:=by
  obtain ⟨fs,k1,k2,k3⟩:=t.firsts hn
  refine kat_kind (T:=Value.type "int") k1 (by lia) (fun v hv=>?_) (by decide) h
  obtain ⟨x,tx,rfl⟩:=k3 v hv
  exact .now
end
end R
namespace R
open PySem PySem.Spec L2 SeqAt
open PyProof.Rows hiding St
open PySem.W (KasT kas_sort kas_cmp kas_item kas_item_eq kas_runs kas_st kas_range KdlSrc kdl_extend kdl_hint_dict)
section
variable {prog:Program} {w:World} {A:Around} {E:Value→Shared→Prop} {s:Shared}
structure Answers (prog:Program) (w:World) (A:Around) (vs:List Value) (s:Shared) (κ:SortKind) (lt:Nat→Nat→Bool):Prop where
  kind:∀ (E:Value→Shared→Prop) (Q:SortKind→Shared→Prop),Q κ s→wpAny (model prog w) A (keyKind' vs.toArray) Q E s
  ord:Ord lt vs.length
  cmp:∀ i j C,i<vs.length→j<vs.length→C (lt i j) s→kas_cmp prog w A κ (pairsOf vs) i j C s
noncomputable def outOf (lt:Nat→Nat→Bool) (vs:List Value):List Value:=if vs.length<2 then vs else (evT lt (kas_sort vs.length)).toList.map fun i=>vs.getD i Value.none
theorem lsort {D:Addr} {vs:List Value} {n:Nat} {κ:SortKind} {lt:Nat→Nat→Bool} {P:PySem.Fin→Shared→Prop} (ho:s.heap.get? D=some (seqObj "list" vs.toArray n)) (h64:vs.length<64)
    (ans:2≤vs.length→∀ h':Heap,(∀ b o,b≠D→s.heap.get? b=some o→h'.get? b=some o)→Answers prog w A vs { s with heap:=h' } κ lt)
    (h:∀ (h':Heap) (c:Nat),(∀ b o,b≠D→s.heap.get? b=some o→h'.get? b=some o)→h'.get? D=some (seqObj "list" (outOf lt vs).toArray c)→P (.done (.ret .none)) { s with heap:=h' }) :
    wpAny (model prog w) A (Builtin.«list.sort» ⟨[.ref D],[]⟩) P E s:=by
  have hD:D<s.heap.objs.size:=Heap.lt_size ho
  obtain ⟨e1,o1⟩:∃ e1,(s.heap.update D (Obj.mapSeq fun _=>(#[]:Array Value))).get? D=some (seqObj "list" #[] e1):=⟨_,get?_update_seq ho fun _=>#[]⟩
  have k1:∀ b o,b≠D→s.heap.get? b=some o→(((s.heap.update D (Obj.mapSeq fun _=>(#[]:Array Value))).push (seqObj "tuple" vs.toArray 0)).push (seqObj "list" #[] 0)).get? b=some o:=fun b o hb e =>
    Heap.get?_push_of_some _ (Heap.get?_push_of_some _ ((Heap.get?_update_other _ _ (Ne.symm hb)).trans e))
  have o3:(((s.heap.update D (Obj.mapSeq fun _=>(#[]:Array Value))).push (seqObj "tuple" vs.toArray 0)).push (seqObj "list" #[] 0)).get? D=some (seqObj "list" #[] e1):=Heap.get?_push_of_some _ (Heap.get?_push_of_some _ o1)
  rw [list_sort_plain]
  refine wpAny_bind (listItems_at ho rfl (wpAny_bind (listUpdate_at ho rfl (wpAny_bind (seqEpoch_at o1 rfl (wpAny_bind (wpAny_newTuple (wpAny_bind (wpAny_newList (wpAny_holding ?_) (Nat.zero_le _))) (by show vs.length≤_;rw [sizeLine_eq];lia)))))
    (by rw [List.size_toArray,sizeLine_eq];lia) (Nat.zero_le _))))
  generalize hh:((s.heap.update D (Obj.mapSeq fun _=>(#[]:Array Value))).push (seqObj "tuple" vs.toArray 0)).push (seqObj "list" #[] 0)=h3 at k1 o3
  show wpAny (model prog w) A _ P E { s with heap:=h3 }
  dsimp only
  have fin:∀ (xs:Array Value),xs=(outOf lt vs).toArray→P (.done (.ret .none)) { s with heap:=h3.update D (Obj.mapSeq fun _=>xs) }:=fun xs ex=>by
    subst ex
    exact h _ _ (fun b o hb e=>(Heap.get?_update_other _ _ (Ne.symm hb)).trans (k1 b o hb e)) (get?_update_seq o3 fun _=>(outOf lt vs).toArray)
  by_cases h2:vs.toArray.size<2
  · have h2':vs.length<2:=by simpa using h2
    rw [if_pos h2,if_pos h2]
    refine wpAny_bind (wpAny_pure ?_)
    rw [StateT.run_pure]
    refine wpAny_bind (wpAny_pure (?_:wpAny _ A _ _ _ _))
    dsimp only
    refine wpAny_bind (seqEpoch_at o3 rfl (wpAny_bind (listUpdate_at o3 rfl ?_ (Nat.zero_le _) (by rw [Array.size_map];show (pairsOf vs).size≤_;rw [pairsOf_size,sizeLine_eq];lia))))
    simp only [bne_self_eq_false,Bool.false_eq_true,if_false]
    refine wpAny_pure (fin _ ?_)
    unfold outOf
    rw [if_pos h2']
    apply Array.toList_inj.mp
    show ((vs.toArray.zip vs.toArray).map (·.2)).toList=_
    simp [List.map_snd_zip]
  · have h2':2≤vs.length:=by
      have:¬ vs.length<2:=by simpa using h2
      lia
    have a:=ans h2' h3 k1
    rw [if_neg h2,if_neg h2]
    refine wpAny_bind (a.kind _ _ ?_)
    have est:SortSt.mk' κ (vs.toArray.zip vs.toArray) #[] 7 none=kas_st κ (pairsOf vs) (List.toArray (List.range vs.length)):=by
      have e:=kas_range (pairsOf vs)
      rw [pairsOf_size] at e
      show SortSt.mk' κ (pairsOf vs) #[] 7 none=SortSt.mk' κ ((List.toArray (List.range vs.length)).map (kas_item (pairsOf vs))) #[] 7 none
      rw [e]
    have run:=kas_runs (prog:=prog) (w:=w) (A:=A) (E:=E) (κ:=κ) (it:=pairsOf vs) (s:={ s with heap:=h3 }) (Q:=fun _ st' s'=>s'={ s with heap:=h3 }∧failedOf st'=none∧∃ p:Array Nat,p=evT lt (kas_sort vs.length)∧p.size=vs.length∧arrOf st'=p.map (kas_item (pairsOf vs)))
      (G:=fun p s'=>s'={ s with heap:=h3 }∧p=evT lt (kas_sort vs.length)) h2' h64 (fun p' st' s' b1 b2 b3 b4=>⟨b4.1,b3,p',b4.2,b1,b2⟩) (qb7 a.cmp (qfZ a.ord (by lia)) ⟨rfl,rfl⟩)
    rw [← est] at run
    refine wpAny_bind (wpAny_mono run ?_ fun _ _ e=>e)
    rintro ⟨⟨⟩,st'⟩ s' ⟨rfl,hf,p,ep,hp,har⟩
    dsimp only
    have hout:(arrOf st').map (·.2)=(outOf lt vs).toArray:=by
      unfold outOf
      rw [if_neg (by lia),← ep]
      apply Array.toList_inj.mp
      rw [har,Array.map_map,Array.toList_map]
      exact List.map_congr_left fun i _=>by show (kas_item (pairsOf vs) i).2=_;rw [kas_item_eq]
    have hsz:((arrOf st').map (·.2)).size=vs.length:=by rw [har,Array.map_map,Array.size_map,hp]
    refine wpAny_bind (seqEpoch_at o3 rfl (wpAny_bind (listUpdate_at o3 rfl ?_ (Nat.zero_le _) (by show ((arrOf st').map (·.2)).size≤_;rw [hsz,sizeLine_eq];lia))))
    rw [hf]
    simp only [bne_self_eq_false,Bool.false_eq_true,if_false]
    exact wpAny_pure (fin _ hout)
theorem qcX {x:Value} {vs:List Value} {κ:SortKind} {lt:Nat→Nat→Bool} {Q:Value→Shared→Prop} (h64:vs.length<64)
    (col:∀ (E':Value→Shared→Prop) (Q':List Value→Shared→Prop),(∀ (h':Heap) (tk:Nat),s.heap.objs.size≤h'.objs.size→(∀ b o,s.heap.get? b=some o→h'.get? b=some o)→Q' vs { s with heap:=h',toks:=tk })→wpAny (model prog w) A.in1 (collect x) Q' E' s)
    (ans:2≤vs.length→∀ (h':Heap) (tk:Nat),(∀ b o,s.heap.get? b=some o→h'.get? b=some o)→Answers prog w A.in1.in1 vs { s with heap:=h',toks:=tk } κ lt)
    (h:∀ (h':Heap) (tk:Nat) (D:Addr) (c:Nat),s.heap.objs.size≤D→(∀ b o,s.heap.get? b=some o→h'.get? b=some o)→h'.get? D=some (seqObj "list" (outOf lt vs).toArray c)→Q (.ref D) { s with heap:=h',toks:=tk }) :
    wpAny (model prog w) A (call (.builtin "sorted") [x]) Q E s:=by
  refine Calls.call_function_entry kind_sorted plain_sorted entry_sorted (args_sorted1 _) ?_
  unfold Builtin.«sorted»
  refine wpAny_bind (m:=checkCount "sorted" 1 1 _) (wpAny_pure (wpAny_bind (col _ _ fun h1 tk sz k1=>wpAny_bind (wpAny_newList ?_ (by rw [sizeLine_eq];lia)))))
  have o1:(h1.push (seqObj "list" vs.toArray 0)).get? h1.objs.size=some (seqObj "list" vs.toArray 0):=Heap.get?_push_size _ rfl
  have up:∀ b o,s.heap.get? b=some o→(h1.push (seqObj "list" vs.toArray 0)).get? b=some o:=fun b o e=>Heap.get?_push_of_some _ (k1 b o e)
  have ne:∀ b o,s.heap.get? b=some o→b≠h1.objs.size:=fun b o e=>Nat.ne_of_lt (Heap.lt_size (k1 b o e))
  show wpAny _ _ _ _ _ { s with heap:=h1.push (seqObj "list" vs.toArray 0),toks:=tk }
  refine wpAny_bind (wpAny_holding (wpAny_call_entry slot_list_sort ⟨_,o1,rfl⟩ entry_list_sort ?_ (args_list_sort _)))
  refine lsort (κ:=κ) (lt:=lt) (s:={ s with heap:=h1.push (seqObj "list" vs.toArray 0),toks:=tk }) o1 h64 (fun h2 h' kp=>ans h2 h' tk fun b o e=>kp b o (ne b o e) (up b o e)) fun h' c kp hD=>?_
  exact ⟨_,rfl,wpAny_pure ⟨_,rfl,h h' tk h1.objs.size c sz (fun b o e=>kp b o (ne b o e) (up b o e)) hD⟩⟩
noncomputable def EsAt (h:Heap) (d:Addr) (es:Array DictEntry) (ep:Nat):Prop:=∃ o,h.get? d=some o∧o.ExactDict∧o.data=.dict es ep
theorem EsAt.at {h h':Heap} {d:Addr} {es:Array DictEntry} {ep:Nat} (x:EsAt h d es ep) (e:∀ o,h.get? d=some o→h'.get? d=some o):EsAt h' d es ep:=let ⟨o,ho,r⟩:=x;⟨o,e o ho,r⟩
theorem EsAt.typeIs {s:Shared} {d:Addr} {es:Array DictEntry} {ep:Nat} (x:EsAt s.heap d es ep):s.TypeIs (.ref d) "dict":=let ⟨o,ho,c,_⟩:=x;⟨o,ho,c.1⟩
theorem qcY {d:Addr} {es:Array DictEntry} {ep:Nat} {Q:Value→Shared→Prop} (hd:(d == sysModules)=false) (hm:EsAt s.heap d es ep)
    (hQ:Q (.ref s.heap.objs.size) { s with heap:=s.heap.push { cls:=.type "dict_keyiterator",data:=.fields #[.ref d,.int 0 0,.int es.size 0,.int ep 0] } }):wpAny (model prog w) A (pyIter (.ref d)) Q E s:=by
  have hT:=hm.typeIs
  obtain ⟨o,ho,hc,hdat⟩:=hm
  refine wpAny_pyIter_slot hT F.slot_dict_iter (wpAny_call_entry F.slot_dict_iter hT F.entry_dict_iter ?_ (F.args_dict_iter_1 _))
  unfold Builtin.«dict.__iter__»
  refine wpAny_bind ?_
  unfold Builtin.Dict.dictSlotNone
  refine wpAny_bind (wpAny_notOrdered_dict hT (wpAny_pure (?_:wpAny _ _ (Builtin.Dict.showsAll d >>= _) _ _ s)))
  unfold Builtin.Dict.showsAll
  rw [if_neg (by rw [hd];exact Bool.false_ne_true)]
  refine wpAny_bind (wpAny_pure (wpAny_bind (wpAny_dictEntries ho hdat (wpAny_bind (wpAny_dictEpoch ho hdat ?_)))))
  refine wpAny_bind (wpAny_newObj_type (wpAny_pure ⟨_,rfl,"dict_keyiterator",_,⟨_,Heap.get?_push_size _ rfl,rfl⟩,F.slot_dict_keyiterator_next.lookup,?_⟩))
  simpa [rawInt] using hQ
theorem qcZ {it d:Addr} {i ep:Nat} {es:Array DictEntry} {e:DictEntry} {Q:Option Value→Shared→Prop} (hit:s.heap.IsKeyIter it d i es.size ep) (hm:EsAt s.heap d es ep) (hx:es[i]?=some e)
    (hQ:∀ h',h'.IsKeyIter it d (i+1) es.size ep→Heap.SameBut it s.heap h'→Q (some e.key) { s with heap:=h' }):wpAny (model prog w) A (pyNext (.ref it)) Q E s:=by
  have hT:=hit.typeIs
  obtain ⟨o,ho,hc,hd⟩:=hit
  obtain ⟨od,hod,hcd,hdd⟩:=hm
  unfold pyNext
  refine wpAny_bind (wpAny_attempt (wpAny_callSpecial?_slot (name:=Str.ofString "__next__") hT F.slot_dict_keyiterator_next (wpAny_call_entry F.slot_dict_keyiterator_next hT F.entry_dict_keyiterator_next ?_ (F.args_dict_keyiterator_next_1 _))))
  refine wpAny_bind (wpAny_pure (wpAny_bind (wpAny_bind ?_)))
  first | refine wpAny_bind (wpAny_typeNameOfWhole_keyiter hT (wpAny_pure (wpAny_bind (wpAny_fieldsOf ho hd ?_)))) | refine wpAny_bind (wpAny_typeNameOf_keyiter hT (wpAny_pure (wpAny_bind (wpAny_fieldsOf ho hd ?_))))
  have own:Builtin.Dict_items.ownsTuple "dict_keyiterator"=false:=by decide
  simp only [own,Bool.false_eq_true,if_false]
  show wpAny _ _ (if (Value.ref d == Value.none)=true then _ else _) _ _ s
  rw [if_neg (show ¬ ((Value.ref d == Value.none)=true) from Bool.false_ne_true)]
  refine wpAny_bind (wpAny_pure (wpAny_bind (wpAny_dictEntries hod hdd ?_)))
  rw [if_neg (by simp)]
  refine wpAny_bind (wpAny_pure (wpAny_bind (wpAny_dictEpoch hod hdd ?_)))
  rw [if_neg (by simp)]
  refine wpAny_pure ?_
  obtain ⟨lt',ee⟩:=Array.getElem?_eq_some_iff.mp hx
  simp only [show ¬ ((i:Int)<0) from by lia,if_false,Int.toNat_natCast,hx]
  refine wpAny_bind ?_
  first | refine wpAny_bind (wpAny_typeNameOfWhole_keyiter hT (wpAny_pure ?_)) | refine wpAny_bind (wpAny_typeNameOf_keyiter hT (wpAny_pure ?_))
  refine wpAny_bind (wpAny_isOneOf_keyiter hT (?_:wpAny _ _ (setField (.ref it) 1 (rawInt ((i:Int)+1)) >>= _) _ _ s))
  refine wpAny_bind (wpAny_setField ho hd (by simp) ?_)
  have hit':(s.heap.update it (Obj.mapFields (·.setIfInBounds 1 (rawInt ((i:Int)+1))))).IsKeyIter it d (i+1) es.size ep :=
    ⟨_,Heap.get?_update_self _ ho (Obj.isFreed_of_fields (Obj.data_mapFields hd _)),(Obj.cls_mapFields ..).trans hc,by rw [Obj.data_mapFields hd];simp [rawInt]⟩
  refine wpAny_bind (wpAny_holding (wpAny_bind (wpAny_isOneOf_keyiter (s:={ s with heap:=s.heap.update it (Obj.mapFields (·.setIfInBounds 1 (rawInt ((i:Int)+1)))) }) hit'.typeIs (?_:wpAny _ _ (pure e.key) _ _ _))))
  exact wpAny_pure (wpAny_pure ⟨_,rfl,wpAny_pure (hQ _ hit' (Heap.SameBut.update ..))⟩)
theorem qef {it d:Addr} {i ep:Nat} {es:Array DictEntry} {Q:Option Value→Shared→Prop} (hh:A.handled=none) (hit:s.heap.IsKeyIter it d i es.size ep) (hm:EsAt s.heap d es ep) (hx:es[i]?=none)
    (hQ:∀ h',Heap.ExtBut it s.heap h'→Q none { s with heap:=h' }):wpAny (model prog w) A (pyNext (.ref it)) Q E s:=by
  have hT:=hit.typeIs
  obtain ⟨o,ho,hc,hd⟩:=hit
  obtain ⟨od,hod,hcd,hdd⟩:=hm
  unfold pyNext
  refine wpAny_bind (wpAny_attempt (wpAny_callSpecial?_slot (name:=Str.ofString "__next__") hT F.slot_dict_keyiterator_next (wpAny_call_entry F.slot_dict_keyiterator_next hT F.entry_dict_keyiterator_next ?_ (F.args_dict_keyiterator_next_1 _))))
  refine wpAny_bind (wpAny_pure (wpAny_bind (wpAny_bind ?_)))
  first | refine wpAny_bind (wpAny_typeNameOfWhole_keyiter hT (wpAny_pure (wpAny_bind (wpAny_fieldsOf ho hd ?_)))) | refine wpAny_bind (wpAny_typeNameOf_keyiter hT (wpAny_pure (wpAny_bind (wpAny_fieldsOf ho hd ?_))))
  have own:Builtin.Dict_items.ownsTuple "dict_keyiterator"=false:=by decide
  simp only [own,Bool.false_eq_true,if_false]
  show wpAny _ _ (if (Value.ref d == Value.none)=true then _ else _) _ _ s
  rw [if_neg (show ¬ ((Value.ref d == Value.none)=true) from Bool.false_ne_true)]
  refine wpAny_bind (wpAny_pure (wpAny_bind (wpAny_dictEntries hod hdd ?_)))
  rw [if_neg (by simp)]
  refine wpAny_bind (wpAny_pure (wpAny_bind (wpAny_dictEpoch hod hdd ?_)))
  rw [if_neg (by simp)]
  refine wpAny_pure ?_
  simp only [show ¬ ((i:Int)<0) from by lia,if_false,Int.toNat_natCast,hx]
  refine wpAny_bind ?_
  first | refine wpAny_bind (wpAny_typeNameOfWhole_keyiter hT (wpAny_pure ?_)) | refine wpAny_bind (wpAny_typeNameOf_keyiter hT (wpAny_pure ?_))
  refine wpAny_bind (m:=setField (.ref it) 0 .none) (wpAny_setField ho hd (by simp) (?_:wpAny _ _ (newExc (.type "StopIteration") [] >>= _) _ _ _))
  refine wpAny_bind ?_
  unfold newExc newTuple
  refine wpAny_bind (wpAny_newObj_type (wpAny_bind (wpAny_of_eq (t:=firstArgMember _ _) (a:=Value.none) (by first | rfl | (simp only [firstArgMember];rfl)) (wpAny_newObj_type ?_ (by size_fits)))) (by size_fits))
  unfold raiseNew
  refine wpAny_bind (wpAny_handled ?_)
  rw [show A.in1.handled=none from hh]
  refine wpAny_bind (wpAny_pure (wpAny_throw ?_))
  refine wpAny_bind (wpAny_isInstance (T:="StopIteration") (b:=true) ⟨_,Heap.get?_push_size _ rfl,rfl⟩ isSubtype_stop ?_)
  exact wpAny_pure (hQ _ (((Heap.SameBut.update ..).extBut.push _).push _))
theorem qc0 (hh:A.handled=none) (I d:Addr) (hne:d≠I) (es:Array DictEntry) (ep:Nat):Walks prog w A I [I,d] [I] es.size (fun i v=>(es[i]?).map (·.key)=some v) (fun i h=>h.IsKeyIter I d i es.size ep∧EsAt h d es ep) where
  sub:=fun b hb=>by simp at hb;simp [hb]
  frame:=fun _ _ _ st hk=>⟨st.1.at fun o e=>hk I (by simp) o e,st.2.at fun o e=>hk d (by simp) o e⟩
  item:=fun i s Q E hi st hQ=>by
    have hx:es[i]?=some es[i]:=Array.getElem?_eq_getElem hi
    exact qcZ st.1 st.2 hx fun h' k' b'=>hQ _ h' s.toks (by rw [hx];rfl) ⟨k',st.2.at fun o e=>b'.extBut _ o hne e⟩ fun b o hb e=>b'.extBut b o (fun z=>hb (by simp [z])) e
  done:=fun s Q E st hQ=>qef hh st.1 st.2 (Array.getElem?_eq_none (Nat.le_refl _)) fun h' eb=>hQ h' s.toks fun b o hb e=>eb b o (fun z=>hb (by simp [z])) e
  self:=fun _ _ _ _ st hQ=>wpAny_pyIter_keyiter st.1 hQ
theorem qeg {d:Addr} {es:Array DictEntry} {ep:Nat} (lo:(d == sysModules)=false):KdlSrc prog w "dict" d d es.size (fun i v=>(es[i]?).map (·.key)=some v) (fun h=>EsAt h d es ep) where
  type:=fun _ hm=>hm.typeIs
  there:=fun _ hm=>let ⟨o,ho,_⟩:=hm;⟨Heap.lt_size ho,Heap.lt_size ho⟩
  keep:=fun _ _ hm hk=>hm.at fun o e=>hk d (.inl rfl) o e
  notList:=by decide
  notTuple:=by decide
  hint:=fun _ _ _ _ hm hq=>kdl_hint_dict hm.typeIs hq
  iter:=fun A s hh hm=>⟨_,_,(fun _ _ hq=>qcY lo hm hq),qc0 hh _ d (by obtain ⟨o,ho,_⟩:=hm;exact Nat.ne_of_lt (Heap.lt_size ho)) es ep,⟨⟨_,Heap.get?_push_size _ rfl,rfl,rfl⟩,hm.at fun o e=>Heap.get?_push_of_some _ e⟩⟩
theorem jJ {d:Addr} {es:Array DictEntry} {ep:Nat} {Q:List Value→Shared→Prop} (hh:A.handled=none) (lo:(d == sysModules)=false) (hm:EsAt s.heap d es ep) (hn:es.size≤sizeLine)
    (hQ:∀ (h':Heap) (tk:Nat),s.heap.objs.size≤h'.objs.size→(∀ b o,s.heap.get? b=some o→h'.get? b=some o)→Q (es.toList.map (·.key)) { s with heap:=h',toks:=tk }):wpAny (model prog w) A (collect (.ref d)) Q E s:=by
  have hd:d≠s.heap.objs.size:=by obtain ⟨o,ho,_⟩:=hm;exact Nat.ne_of_lt (Heap.lt_size ho)
  have core:∀ R:Result→Shared→Prop,(∀ (h':Heap) (tk:Nat) (acc:Array Value) (c':Nat),(∀ b o,s.heap.get? b=some o→h'.get? b=some o)→h'.get? s.heap.objs.size=some { cls:=.type "list",dict:=none,data:=.seq acc c',slots:=#[] }→ItemsOf (fun i v=>(es[i]?).map (·.key)=some v) acc es.size →
      R (.ok (.ret (.ref s.heap.objs.size))) { s with heap:=h',toks:=tk })→codeAny (model prog w) A (.builtin "proto.collect" ⟨[.ref d],[]⟩) R s:=by
    intro R hR
    refine codeAny_builtin F.entry_proto_collect ?_
    rw [Around.under_plainId F.plain_proto_collect]
    refine wpAny_bind (m:=newList []) (wpAny_newObj_type (wpAny_pure ⟨plainId_quiet F.plain_list_iadd _,codeAny_builtin F.entry_list_iadd ?_⟩))
    rw [Around.under_plainId F.plain_list_iadd]
    have h0:(s.heap.push { cls:=.type "list",data:=.seq ([]:List Value).toArray }).get? s.heap.objs.size=some { cls:=.type "list",data:=.seq #[] 0 }:=Heap.get?_push_size _ rfl
    exact kdl_extend (R:=R) (s:={ s with heap:=s.heap.push { cls:=.type "list",data:=.seq ([]:List Value).toArray } }) (qeg lo) hh (hm.at fun o e=>Heap.get?_push_of_some _ e) s.heap.objs.size (Ne.symm hd) (Ne.symm hd) (.ref s.heap.objs.size) 0 h0 (fun h' tk acc c' hk hS hi =>
      hR h' tk acc c' (fun b o e=>hk b o (Nat.ne_of_lt (Heap.lt_size e)) (Heap.get?_push_of_some _ e)) hS hi) hn
  unfold collect
  refine wpAny_bind (wpAny_runValue (core _ fun h' tk acc c' hk hS hi=>?_))
  refine wpAny_bind (m:=load s.heap.objs.size) (wpAny_load hS (wpAny_pure ?_))
  have e:acc.toList=es.toList.map (·.key):=by
    apply List.ext_getElem?
    intro i
    rw [List.getElem?_map]
    cases z:acc[i]? with
    | none =>
      have h1:acc.size≤i:=by simpa using z
      rw [hi.1] at h1
      have h2:es[i]?=none:=Array.getElem?_eq_none h1
      rw [Array.getElem?_toList,Array.getElem?_toList,z,h2];rfl
    | some v =>
      have:=hi.2 i v z
      rw [Array.getElem?_toList,Array.getElem?_toList,z,this]
  rw [e]
  exact hQ h' tk (Nat.le_of_lt (Heap.lt_size hS)) hk
end
end R
namespace R
open PySem PySem.Spec L2 SeqAt
open PyProof.Rows hiding St
open PySem.W (KasT kas_sort)
theorem qaa:∀ a:List Int,HT.lexLt a a=false
  | []=>rfl
  | x::a=>by rw [HT.qN,if_pos rfl];exact qaa a
theorem qab:∀ {a b c:List Int},HT.lexLt a b=true→HT.lexLt b c=true→HT.lexLt a c=true
  | [],[],_,h,_=>by cases h
  | [],_::_,[],_,h=>by cases h
  | [],_::_,_::_,_,_=>rfl
  | _::_,[],_,h,_=>by cases h
  | _::_,_::_,[],_,h=>by cases h
  | x::a,y::b,z::c,h,k=>by
    rw [HT.qN] at h k ⊢
    by_cases e1:x=y
    · subst e1
      rw [if_pos rfl] at h
      by_cases e2:x=z
      · subst e2
        rw [if_pos rfl] at k ⊢
        exact qab h k
      · rw [if_neg e2] at k ⊢;exact k
    · rw [if_neg e1] at h
      have h':=of_decide_eq_true h
      by_cases e2:y=z
      · subst e2
        rw [if_neg e1];exact h
      · rw [if_neg e2] at k
        have k':=of_decide_eq_true k
        rw [if_neg (by lia)]
        exact decide_eq_true (by lia)
theorem lex_tot:∀ {a b:List Int},a≠b→HT.lexLt a b=true∨HT.lexLt b a=true
  | [],[],h=>absurd rfl h
  | [],_::_,_=>.inl rfl
  | _::_,[],_=>.inr rfl
  | x::a,y::b,h=>by
    rw [HT.qN,HT.qN]
    by_cases e:x=y
    · subst e
      rw [if_pos rfl,if_pos rfl]
      exact lex_tot fun z=>h (by rw [z])
    · rw [if_neg e,if_neg (Ne.symm e)]
      rcases Int.lt_or_gt_of_ne e with z | z
      · exact .inl (decide_eq_true z)
      · exact .inr (decide_eq_true z)
theorem yL (x:List Int):∀ l:List (List Int),(insT x l).Perm (x::l)
  | []=>.refl _
  | y::r=>by
    unfold insT
    split
    · exact ((yL x r).cons y).trans (.swap ..)
    · exact .refl _
theorem qH:∀ l:List (List Int),(sortT l).Perm l
  | []=>.refl _
  | x::r=>(yL x (sortT r)).trans ((qH r).cons x)
noncomputable def Ris (l:List (List Int)):Prop:=l.Pairwise fun a b=>HT.lexLt a b=true
theorem qaN {x:List Int}:∀ {l:List (List Int)},x ∉ l→Ris l→Ris (insT x l)
  | [],_,_=>List.pairwise_singleton _ _
  | y::r,hn,h=>by
    obtain ⟨h1,h2⟩:=List.pairwise_cons.mp h
    unfold insT
    split
    · rename_i hl
      refine List.pairwise_cons.mpr ⟨fun z hz=>?_,qaN (fun m=>hn (List.mem_cons_of_mem _ m)) h2⟩
      rcases List.mem_cons.mp ((yL x r).mem_iff.mp hz) with e | e
      · rw [e];exact hl
      · exact h1 z e
    · rename_i hl
      have hxy:HT.lexLt x y=true:=by
        rcases lex_tot (a:=x) (b:=y) fun e=>hn (by rw [e];exact List.mem_cons_self) with z | z
        · exact z
        · rw [z] at hl;exact absurd rfl hl
      refine List.pairwise_cons.mpr ⟨fun z hz=>?_,h⟩
      rcases List.mem_cons.mp hz with e | e
      · rw [e];exact hxy
      · exact qab hxy (h1 z e)
theorem yM:∀ {l:List (List Int)},l.Nodup→Ris (sortT l)
  | [],_=>.nil
  | x::r,h=>by
    obtain ⟨h1,h2⟩:=List.nodup_cons.mp h
    exact qaN (fun m=>h1 ((qH r).mem_iff.mp m)) (yM h2)
theorem qaO:∀ {a b:List (List Int)},a.Perm b→Ris a→Ris b→a=b
  | [],b,p,_,_=>(List.nil_perm.mp p).symm
  | x::a,[],p,_,_=>absurd (List.perm_nil.mp p) (by simp)
  | x::a,y::b,p,h,k=>by
    obtain ⟨h1,h2⟩:=List.pairwise_cons.mp h
    obtain ⟨k1,k2⟩:=List.pairwise_cons.mp k
    have e:x=y:=by
      rcases List.mem_cons.mp (p.mem_iff.mp List.mem_cons_self) with z | z
      · exact z
      · rcases List.mem_cons.mp (p.symm.mem_iff.mp List.mem_cons_self) with z' | z'
        · exact z'.symm
        · have:=qab (h1 y z') (k1 x z)
          rw [qaa] at this;cases this
    subst e
    rw [qaO (List.Perm.cons_inv p) h2 k2]
theorem yN (x:Int):∀ l:List Int,(insI x l).Perm (x::l)
  | []=>.refl _
  | y::r=>by
    unfold insI
    split
    · exact .refl _
    · exact ((yN x r).cons y).trans (.swap ..)
theorem jl:∀ l:List Int,(sortI l).Perm l
  | []=>.refl _
  | x::r=>(yN x (sortI r)).trans ((jl r).cons x)
theorem qb8 {x:Int}:∀ {l:List Int},l.Pairwise (·≤·)→(insI x l).Pairwise (·≤·)
  | [],_=>List.pairwise_singleton _ _
  | y::r,h=>by
    obtain ⟨h1,h2⟩:=List.pairwise_cons.mp h
    unfold insI
    split
    · rename_i hl
      refine List.pairwise_cons.mpr ⟨fun z hz=>?_,h⟩
      rcases List.mem_cons.mp hz with e | e
      · rw [e];exact hl
      · exact Int.le_trans hl (h1 z e)
    · rename_i hl
      refine List.pairwise_cons.mpr ⟨fun z hz=>?_,qb8 h2⟩
      rcases List.mem_cons.mp ((yN x r).mem_iff.mp hz) with e | e
      · rw [e];lia
      · exact h1 z e
theorem qaP:∀ l:List Int,(sortI l).Pairwise (·≤·)
  | []=>.nil
  | x::r=>qb8 (qaP r)
theorem qbr {ks:List (List Int)} (nd:ks.Nodup):Ord (ltK ks) ks.length where
  irr:=fun a _=>qaa _
  tr:=fun a b c _ _ _ h k=>qab h k
  tot:=fun a b ha hb h=>lex_tot fun e=>h (by
    rw [List.getD_eq_getElem?_getD,List.getD_eq_getElem?_getD,List.getElem?_eq_getElem ha,List.getElem?_eq_getElem hb] at e
    exact (List.getElem_inj nd).mp e)
theorem qaQ {ks:List (List Int)} (nd:ks.Nodup) (h1:1≤ks.length):(evT (ltK ks) (kas_sort ks.length)).toList.map (fun i=>ks.getD i [])=sortT ks:=by
  obtain ⟨pm,sr⟩:=qb5 (qbr nd) h1
  generalize evT (ltK ks) (kas_sort ks.length)=p at *
  have hp:(p.toList.map fun i=>ks.getD i []).Perm ks:=by
    have e:(List.range ks.length).map (fun i=>ks.getD i [])=ks:=by
      apply List.ext_getElem?
      intro i
      rw [List.getElem?_map]
      by_cases hi:i<ks.length
      · rw [List.getElem?_eq_getElem (by simpa using hi),List.getElem?_eq_getElem hi]
        simp [hi]
      · rw [List.getElem?_eq_none (by simpa using hi),List.getElem?_eq_none (by lia)];rfl
    have:=pm.map fun i=>ks.getD i []
    rwa [e] at this
  refine qaO (hp.trans (qH ks).symm) ?_ (yM nd)
  show (p.toList.map fun i=>ks.getD i []).Pairwise _
  rw [List.pairwise_map,List.pairwise_iff_getElem]
  intro i j hi hj hij
  have hsz:=pm.size
  have:=sr i j hij (by simpa [hsz] using hj)
  rw [qaL (by simpa using hi),qaL (by simpa using hj)] at this
  simpa [ltK] using this
end R
namespace R
open PySem PySem.Spec L2 SeqAt
open PyProof.Rows hiding St
open PySem.W (KasT kas_sort)
section
variable {X:Cx} {pins:List (Addr × Obj)} {σ:St} {H:Hp} {s:Shared} {ι:List Addr} {S:Sr}
theorem qb9 (I:Inv X pins σ H s):∀ {l:List D} {ks:List (List Int)} {xs:List V} {vs:List Value},tupsOf l=some ks→Dens ι H l xs→Vals xs vs→TupsAt s.heap vs ks∧l=ks.map tupI
  | [],ks,xs,vs,e,hd,r=>by
    cases e
    cases (show xs=[] from hd)
    cases r
    exact ⟨rfl,rfl⟩
  | .tup a::l,ks,xs,vs,e,hd,r=>by
    obtain ⟨x,xs',rfl,hx,hl⟩:=hd
    obtain ⟨b,ys,rfl,_,hb,dy⟩:=hx
    simp only [tupsOf] at e
    cases z1:intsOf a with
    | none=>rw [z1] at e;cases e
    | some k =>
      rw [z1,Option.bind_some] at e
      cases z2:tupsOf l with
      | none=>rw [z2] at e;cases e
      | some kr =>
        rw [z2] at e;cases e
        cases r with
        | cons r1 r2 =>
          cases r1
          obtain ⟨t1,t2⟩:=qb9 I z2 hl r2
          obtain ⟨its,rv,p,_⟩:=je I hb
          have ea:=intsOf_eq z1
          subst ea
          cases dens_ints dy
          refine ⟨⟨b,its,k,kr,rfl,rfl,p,qO rv,t1⟩,?_⟩
          rw [t2];rfl
  | .non::_,_,_,_,e,_,_=>by cases e
  | .bl _::_,_,_,_,e,_,_=>by cases e
  | .int _::_,_,_,_,e,_,_=>by cases e
  | .str _::_,_,_,_,e,_,_=>by cases e
  | .lst _::_,_,_,_,e,_,_=>by cases e
  | .emp::_,_,_,_,e,_,_=>by cases e
  | .exc _::_,_,_,_,e,_,_=>by cases e
  | .ref _::_,_,_,_,e,_,_=>by cases e
theorem qaR {xs:List V} {vs:List Value} (r:Vals xs vs):∀ p:List Nat,(∀ i∈p,i<vs.length)→Vals (p.map fun i=>xs.getD i .non) (p.map fun i=>vs.getD i .none)
  | [],_=>.nil
  | i::p,h=>by
    refine .cons ?_ (qaR r p fun j hj=>h j (List.mem_cons_of_mem _ hj))
    have hi:=h i List.mem_cons_self
    obtain ⟨x,e1,e2⟩:=Vals.at r hi
    dsimp only
    rw [List.getD_eq_getElem?_getD,List.getD_eq_getElem?_getD,e1,List.getElem?_eq_getElem hi]
    exact e2
theorem qaS {l:List D} {xs:List V} (h:Dens ι H l xs):∀ p:List Nat,(∀ i∈p,i<l.length)→Dens ι H (p.map fun i=>l.getD i .non) (p.map fun i=>xs.getD i .non)
  | [],_=>rfl
  | i::p,hp=>by
    have hi:=hp i List.mem_cons_self
    obtain ⟨x,e1,e2⟩:=h.get (List.getElem?_eq_getElem hi)
    refine ⟨_,_,rfl,?_,qaS h p fun j hj=>hp j (List.mem_cons_of_mem _ hj)⟩
    dsimp only
    rw [List.getD_eq_getElem?_getD,List.getD_eq_getElem?_getD,e1,List.getElem?_eq_getElem hi]
    exact e2
theorem zq {m:Bool} {x:Value} {l:List D} {ks:List (List Int)} {xs:List V} {vs:List Value} {Q:VK} (I:Inv X pins σ H s) (st:Sto ι H S) (hc:X.calm=true) (dl:Dens ι H l xs) (rv:Vals xs vs) (e:tupsOf l=some ks) (h64:l.length<64) (nd:ks.Nodup) (ne:∀ k∈ks,k≠[])
    (col:∀ (E':Value→Shared→Prop) (Q':List Value→Shared→Prop),(∀ (h':Heap) (tk:Nat),s.heap.objs.size≤h'.objs.size→(∀ b o,s.heap.get? b=some o→h'.get? b=some o)→Q' vs { s with heap:=h',toks:=tk })→wpAny (model X.prog X.w) X.A.in1 (collect x) Q' E' s)
    (q:Pst Den (newL m ((sortT ks).map tupI) S) ι H Q):wpAny (model X.prog X.w) X.A (call (.builtin "sorted") [x]) (EP X pins σ Q) X.xe s:=by
  obtain ⟨ta,el⟩:=qb9 I e dl rv
  have len:vs.length=ks.length:=ta.len
  have ll:l.length=ks.length:=by rw [el];simp
  refine qcX (κ:=tuples' true) (lt:=ltK ks) (by lia) col (fun h2 h' tk kp=>?_) fun h' tk D c sz kp hD=>?_
  · have t':TupsAt h' vs ks:=ta.keep fun a o _ eo=>kp a o eo
    exact ⟨fun E' Q' hq=>qee (s:={ s with heap:=h',toks:=tk }) t' ne h2 hq,by rw [len];exact qbr nd,fun i j C hi hj hC=>qf0 (s:={ s with heap:=h',toks:=tk }) t' (by lia) (by lia) hC⟩
  · -- the answer's data
    have fin:∃ xs',Vals xs' (outOf (ltK ks) vs)∧Dens ι H ((sortT ks).map tupI) xs':=by
      unfold outOf
      by_cases h2:vs.length<2
      · rw [if_pos h2]
        refine ⟨xs,rv,?_⟩
        have:sortT ks=ks:=by
          match ks,len with
          | [],_=>rfl
          | [k],_=>rfl
          | _::_::_,len=>simp at len;lia
        rw [this,← el]
        exact dl
      · rw [if_neg h2]
        rw [len]
        obtain ⟨pm,_⟩:=qb5 (qbr nd) (show 1≤ks.length by lia)
        have hb:∀ i∈(evT (ltK ks) (kas_sort ks.length)).toList,i<ks.length:=fun i hi=>List.mem_range.mp (pm.mem_iff.mp hi)
        refine ⟨_,qaR rv _ fun i hi=>by rw [len];exact hb i hi,?_⟩
        have d:=qaS dl _ fun i hi=>by rw [ll];exact hb i hi
        have e2:(sortT ks).map tupI=(evT (ltK ks) (kas_sort ks.length)).toList.map fun i=>l.getD i .non:=by
          rw [← qaQ nd (by lia),List.map_map]
          refine List.map_congr_left fun i hi=>?_
          have:=hb i hi
          rw [el]
          simp [this]
        rw [e2]
        exact d
    obtain ⟨xs',r',d'⟩:=fin
    have fr:H D=none:=I.hok.fresh sz
    have hz:xs'.length≤sizeLine:=by
      rw [← d'.length,List.length_map,(qH ks).length_eq,sizeLine_eq];lia
    exact ⟨.ref D,upd H D (.lst xs'),I.laid (o:=.lst xs') (t':=tk) kp sz ⟨hz,outOf (ltK ks) vs,c,r',hD⟩,rfl,q9 st d' q D fr⟩
theorem qeh {a:Addr} {xs:List V} (I:Inv X pins σ H s) (h:Rd H a (.lst xs)):∃ vs:List Value,Vals xs vs∧s.heap.IsList a vs.toArray∧(∀ (A:Around) (E':Value→Shared→Prop) (Q':List Value→Shared→Prop),(∀ (h':Heap) (tk:Nat),s.heap.objs.size≤h'.objs.size→(∀ b o,s.heap.get? b=some o→h'.get? b=some o)→Q' vs { s with heap:=h',toks:=tk })→wpAny (model X.prog X.w) A (collect (.ref a)) Q' E' s):=by
  obtain ⟨vs,r,p,hz⟩:=yJ I h
  refine ⟨vs,r,p,fun A E' Q' hq=>collect_list p (hq _ s.toks ?_ fun b o e=>?_) (by rw [← r.length];exact hz)⟩
  · rw [Heap.size_update,size_push'];lia
  · exact (Heap.get?_update_other _ _ (Nat.ne_of_gt (Heap.lt_size e))).trans (Heap.get?_push_of_some _ e)
theorem qc1 {m:Bool} {a:Addr} {ns:List Int} {xs:List V} {Q:VK} (I:Inv X pins σ H s) (st:Sto ι H S) (h:Rd H a (.lst xs)) (dl:Dens ι H (ns.map .int) xs) (h64:ns.length<64) (q:Pst Den (newL m ((sortI ns).map .int) S) ι H Q) :
    wpAny (model X.prog X.w) X.A (call (.builtin "sorted") [.ref a]) (EP X pins σ Q) X.xe s:=by
  obtain ⟨vs,r,p,hz⟩:=yJ I h
  cases dens_ints dl
  have ia:IntsAre vs ns:=qO r
  have hl:=ia.length
  refine sorted_ints p ia (by lia) fun out ns' i1 i2 i3=>?_
  have en:ns'=sortI ns:=PySem.W.lks_uniq (i2.trans (jl ns).symm) i3 (qaP ns)
  have up:∀ b o,s.heap.get? b=some o→(sortedAll s.heap vs out).get? b=some o:=fun b o e=>by
    have hb:b<s.heap.objs.size:=Heap.lt_size e
    unfold sortedAll sortedHeap
    refine (Heap.get?_update_other _ _ (Nat.ne_of_gt (Nat.lt_succ_of_lt hb))).trans (Heap.get?_push_of_some _ (Heap.get?_push_of_some _ ((Heap.get?_update_other _ _ (Nat.ne_of_gt (Nat.lt_succ_of_lt hb))).trans (Heap.get?_push_of_some _ ?_))))
    exact (Heap.get?_update_other _ _ (Nat.ne_of_gt hb)).trans (Heap.get?_push_of_some _ e)
  have o1:(((s.heap.push (seqObj "list" #[] 0)).update s.heap.objs.size (Obj.mapSeq (·++vs.toArray))).push (seqObj "list" vs.toArray 0)).get? (s.heap.objs.size+1)=some (seqObj "list" vs.toArray 0):=by
    have:((s.heap.push (seqObj "list" #[] 0)).update s.heap.objs.size (Obj.mapSeq (·++vs.toArray))).objs.size=s.heap.objs.size+1:=by rw [Heap.size_update,size_push']
    rw [← this];exact Heap.get?_push_size _ rfl
  obtain ⟨c,at'⟩:∃ c,(sortedAll s.heap vs out).get? (s.heap.objs.size+1)=some (seqObj "list" out c):=by
    unfold sortedAll sortedHeap
    have e1:=get?_update_seq o1 fun _=>(#[]:Array Value)
    have e2:=Heap.get?_push_of_some (seqObj "list" #[] 0) (Heap.get?_push_of_some (seqObj "tuple" vs.toArray 0) e1)
    exact ⟨_,get?_update_seq e2 fun _=>out⟩
  have sz:s.heap.objs.size≤s.heap.objs.size+1:=Nat.le_succ _
  have fr:H (s.heap.objs.size+1)=none:=I.hok.fresh sz
  have rr:Vals (ns'.map V.int) out.toList:=by
    have:∀ {us:List Value} {ms:List Int},IntsAre us ms→Vals (ms.map V.int) us:=fun {us ms} h=>by
      induction h with
      | nil=>exact .nil
      | cons n t _ ih=>exact .cons ⟨t,rfl⟩ ih
    exact this i1
  have dd:Dens ι H ((sortI ns).map .int) (ns'.map V.int):=by
    rw [en]
    have:∀ ms:List Int,Dens ι H (ms.map .int) (ms.map V.int):=fun ms=>by
      induction ms with
      | nil=>rfl
      | cons x r ih=>exact ⟨_,_,rfl,rfl,ih⟩
    exact this _
  have hz2:(ns'.map V.int).length≤sizeLine:=by rw [List.length_map,i2.length_eq,sizeLine_eq];lia
  refine ⟨.ref _,upd H (s.heap.objs.size+1) (.lst (ns'.map V.int)),I.laid (o:=.lst (ns'.map V.int)) (t':=s.toks) up sz ⟨hz2,out.toList,c,rr,by rw [at']⟩,rfl,q9 st dd q _ fr⟩
theorem qei (m:Bool) (hc:X.calm=true):CallR X (.builtin "sorted") (Gn (one (bSorted m))):=by
  intro pins s σ H xs us Q I r h
  obtain ⟨ι,S,ds,st,hd,p⟩:=h
  obtain ⟨d,rfl,p⟩:=qbl p
  · skip
    obtain ⟨x,rfl,hx⟩:=dens1 hd
    obtain ⟨u,rfl,ru⟩:=vals1 r
    simp only [one,bSorted] at p
    have lists:∀ {l:List D},lstOf S d=some l→walkD S d=some l→wpAny (model X.prog X.w) X.A (call (.builtin "sorted") [u]) (EP X pins σ Q) X.xe s:=fun {l} hl hw=>by
      obtain ⟨a,xs,rfl,ha,dl⟩:=qD st hl hx
      cases ru
      rw [hw,Option.bind_some] at p
      unfold sortL at p
      by_cases h64:l.length<64
      · rw [if_pos h64] at p
        cases z:intsOf l with
        | some ns =>
          rw [z] at p
          have:=intsOf_eq z
          subst this
          exact qc1 I st ha dl (by simpa using h64) p
        | none =>
          rw [z] at p
          cases z2:tupsOf l with
          | none=>simp only [z2,Option.bind_none] at p;exact p.elim
          | some ks =>
            simp only [z2,Option.bind_some] at p
            by_cases hk:ks.Nodup∧∀ t∈ks,t≠[]
            · rw [if_pos hk] at p
              obtain ⟨vs,rv,_,col⟩:=qeh I ha
              exact zq I st hc dl rv z2 h64 hk.1 hk.2 (col _) p
            · rw [if_neg hk] at p;exact p.elim
      · rw [if_neg h64] at p;exact p.elim
    cases d with
    | lst l=>exact lists rfl rfl
    | ref k =>
      cases z:S[k]? with
      | none=>simp only [walkD,z,Option.bind_none] at p;exact p.elim
      | some so =>
        cases so with
        | lst l=>exact lists (by unfold lstOf;dsimp only;rw [z]) (by unfold walkD;dsimp only;rw [z])
        | dis l=>simp only [walkD,z,Option.bind_none] at p;exact p.elim
        | dic l =>
          obtain ⟨a,rfl,ha⟩:=hx
          cases ru
          obtain ⟨_,kvs,e1,dk⟩:=st.obj k a _ ha z
          obtain ⟨hz,lo,ys,pr,o,es,ep,eo,ex,ed,eL,ndp⟩:=I.hok a _ e1
          simp only [walkD,z,Option.bind_some] at p
          have keys:∀ {l:List (List Int × D)} {kvs:List (List Key × V)} {ys:List (List Key × Addr × Value)},DGs keyT ι H l kvs→Paired (fun (p:List Key × V) (q:List Key × Addr × Value)=>p.1=q.1∧H q.2.1=some (.tup (p.1.map kV))∧RelV p.2 q.2.2) kvs ys →
              Dens ι H (l.map fun p=>tupI p.1) (ys.map fun q=>V.ref q.2.1):=fun {l}=>by
            induction l with
            | nil=>intro kvs ys h1 h2;cases (show kvs=[] from h1);cases h2;rfl
            | cons q l ih =>
              intro kvs ys h1 h2
              obtain ⟨v,r',rfl,_,h1'⟩:=h1
              cases h2 with
              | cons y t =>
                rename_i q2 ys'
                obtain ⟨ya,yb,yc⟩:=y
                refine ⟨_,_,rfl,⟨q2.2.1,_,rfl,fun hm=>?_,yb,?_⟩,ih h1' t⟩
                · obtain ⟨j,hj,ej⟩:=List.getElem_of_mem hm
                  have hs:j<S.length:=by rw [← st.len];exact hj
                  have k':=st.obj j _ S[j] (by rw [List.getElem?_eq_getElem hj,ej]) (List.getElem?_eq_getElem hs)
                  cases e:S[j] with
                  | lst _=>rw [e] at k';obtain ⟨_,_,k2,_⟩:=k';rw [yb] at k2;cases k2
                  | dic _=>rw [e] at k';obtain ⟨_,_,k2,_⟩:=k';rw [yb] at k2;cases k2
                  | dis _=>rw [e] at k';obtain ⟨_,_,k2,_⟩:=k';rw [yb] at k2;cases k2
                · show Dens ι H (q.1.map .int) ((keyT q.1).map kV)
                  unfold keyT
                  rw [List.map_map]
                  have:∀ ms:List Int,Dens ι H (ms.map .int) (ms.map (kV∘Sum.inl)):=fun ms=>by
                    induction ms with
                    | nil=>rfl
                    | cons x r ih=>exact ⟨_,_,rfl,rfl,ih⟩
                  exact this _
          have dl:=keys dk pr
          have rv:Vals (ys.map fun q=>V.ref q.2.1) (ys.map fun q=>Value.ref q.2.1):=by
            clear pr eL dl ndp
            induction ys with
            | nil=>exact .nil
            | cons q r ih=>exact .cons rfl ih
          have ev:es.toList.map (·.key)=ys.map fun q=>Value.ref q.2.1:=by rw [eL,List.map_map];rfl
          have hsz:es.size≤sizeLine:=by
            have h1:es.toList.length=ys.length:=by rw [eL];simp
            have h2:kvs.length=ys.length:=Paired.length pr
            have:es.size=es.toList.length:=by simp
            lia
          have col:∀ (E':Value→Shared→Prop) (Q':List Value→Shared→Prop),(∀ (h':Heap) (tk:Nat),s.heap.objs.size≤h'.objs.size→(∀ b o,s.heap.get? b=some o→h'.get? b=some o)→Q' (ys.map fun q=>Value.ref q.2.1) { s with heap:=h',toks:=tk })→wpAny (model X.prog X.w) X.A.in1 (collect (.ref a)) Q' E' s:=fun E' Q' hq =>
            jJ (A:=X.A.in1) (I.ok.hd hc) lo ⟨o,eo,ex,ed⟩ hsz (by rw [ev];exact hq)
          unfold sortL at p
          by_cases h64:(l.map fun p=>tupI p.1).length<64
          · rw [if_pos h64] at p
            cases z1:intsOf (l.map fun p=>tupI p.1) with
            | some ns =>
              rw [z1] at p
              cases l with
              | nil =>
                cases z1
                exact zq (ks:=[]) I st hc dl rv rfl (by simp) (by simp) (by simp) col p
              | cons q l=>cases z1
            | none =>
              rw [z1] at p
              cases z2:tupsOf (l.map fun p=>tupI p.1) with
              | none=>simp only [z2,Option.bind_none] at p;exact p.elim
              | some ks =>
                simp only [z2,Option.bind_some] at p
                by_cases hk:ks.Nodup∧∀ t∈ks,t≠[]
                · rw [if_pos hk] at p
                  exact zq I st hc dl rv z2 h64 hk.1 hk.2 col p
                · rw [if_neg hk] at p;exact p.elim
          · rw [if_neg h64] at p;exact p.elim
    | emp =>
      obtain ⟨a,rfl,_,ha⟩:=hx
      cases ru
      obtain ⟨hz,lo,ys,pr,o,es,ep,eo,ex,ed,eK,eP,_⟩:=I.hok a _ ha
      cases pr
      have e0:es.toList.map (·.key)=[]:=by
        cases eP' :es.toList with
        | nil=>rfl
        | cons q r=>rw [eP'] at eP;cases eP
      have hsz:es.size≤sizeLine:=by
        have:es.toList=[]:=by simpa using e0
        have:es.size=es.toList.length:=by simp
        simp_all
      simp only [walkD,Option.bind_some] at p
      refine zq (l:=[]) (ks:=[]) (xs:=[]) (vs:=[]) I st hc rfl .nil rfl (by simp) (by simp) (by simp) (fun E' Q' hq=>jJ (A:=X.A.in1) (I.ok.hd hc) lo ⟨o,eo,ex,ed⟩ hsz (by rw [e0];exact hq)) p
    | _=>exact p.elim
end
end R
namespace R
open PySem PySem.Spec L2 SeqAt
open PyProof.Rows hiding St
noncomputable def CEs.len:CEs→Nat
  | .nil=>0
  | .cons _ r=>r.len+1
theorem zY {F:Fs}:∀ {es:CEs} {ρ:En} {S:Sr} {l:List D} {S':Sr},evs F es ρ S=.ok l S'→l.length=es.len
  | .nil,_,_,_,_,h=>by cases h;rfl
  | .cons e r,ρ,S,l,S',h=>by
    unfold evs at h
    cases z:ev F e ρ S with
    | no=>rw [z] at h;cases h
    | err=>rw [z] at h;cases h
    | ok x S1 =>
      rw [z,Res.bind_ok] at h
      cases z2:evs F r ρ S1 with
      | no=>rw [z2] at h;cases h
      | err=>rw [z2] at h;cases h
      | ok l2 S2 =>
        rw [z2,Res.bind_ok] at h
        cases h
        show l2.length+1=r.len+1
        rw [zY z2]
noncomputable def CTs.len:CTs→Nat
  | .nil=>0
  | .cons _ r=>r.len+1
theorem qaT {F:Fs}:∀ {ts:CTs} {l:List D} {ρ:En} {S:Sr} {ρ':En} {S':Sr},asgs F ts l ρ S=.ok ρ' S'→l.length=ts.len
  | .nil,[],_,_,_,_,_=>rfl
  | .nil,_::_,_,_,_,_,h=>by unfold asgs at h;cases h
  | .cons t r,[],_,_,_,_,h=>by unfold asgs at h;cases h
  | .cons t r,d::l,ρ,S,ρ',S',h=>by
    unfold asgs at h
    dsimp only at h
    cases z:asg F t d ρ S with
    | no=>rw [z] at h;cases h
    | err=>rw [z] at h;cases h
    | ok ρ1 S1 =>
      rw [z,Res.bind_ok] at h
      show l.length+1=r.len+1
      rw [qaT h]
noncomputable def FnAt (P:Program) (w:World) (K:PySem.W.Frag) (mg:Str→Option Value) (base:Heap) (k:Nat) (F:Fs) (i:Nat) (x:Str) (ps:List Str):Prop :=
  ∃ f fd,mg x=some (.ref f)∧PySem.W.keepIn K (.ref f)=true∧Binds K fd ps []∧FnOk P w K mg base CX0 k f fd ps (SpD ps.length (F i))
structure Gb (mg:Str→Option Value):Prop where
  len:mg "len"=none
  range:mg "range"=none
  list:mg "list"=none
  tuple:mg "tuple"=none
  sorted:mg "sorted"=none
  sum:mg "sum"=none
  all:mg "all"=none
  any:mg "any"=none
  zip:mg "zip"=none
  min:mg "min"=none
  max:mg "max"=none
  abs:mg "abs"=none
  divmod:mg "divmod"=none
  isinstance:mg "isinstance"=none
  int:mg "int"=none
  bool:mg "bool"=none
  str:mg "str"=none
  dict:mg "dict"=none
  set:mg "set"=none
theorem Gb.ty {mg:Str→Option Value} (g:Gb mg):∀ t:Ty,mg (Str.ofString t.nm)=none
  | .int=>g.int | .bool=>g.bool | .tuple=>g.tuple | .list=>g.list | .str=>g.str | .dict=>g.dict
noncomputable def nodupB:List Str→Bool
  | []=>true
  | x::r=>!(r.any fun y=>y == x)&&nodupB r
theorem zk:∀ {l:List Str},nodupB l=true→l.Nodup
  | [],_=>.nil
  | x::r,h=>by
    unfold nodupB at h
    simp only [Bool.and_eq_true,Bool.not_eq_true',List.any_eq_false,beq_iff_eq] at h
    exact List.nodup_cons.mpr ⟨fun hm=>h.1 x hm rfl,zk h.2⟩
@[irreducible] noncomputable def QE (X:Cx) (e:Expr) (t:TE):Prop:=PE X e t
@[irreducible] noncomputable def QT (X:Cx) (e:Expr) (t:TT):Prop:=PT X e t
@[irreducible] noncomputable def QW (X:Cx) (e:Expr) (t:TT):Prop:=PW X e t
@[irreducible] noncomputable def QA (X:Cx) (e:List Expr) (t:TA):Prop:=PA X e t
@[irreducible] noncomputable def QS (X:Cx) (e:Stmt) (t:TS):Prop:=PS X e t
@[irreducible] noncomputable def QSs (X:Cx) (e:List Stmt) (t:TS):Prop:=PSs X e t
@[irreducible] noncomputable def QG (X:Cx) (e:Expr) (t:L2.TG):Prop:=PG X e t
@[irreducible] noncomputable def QGs (X:Cx) (e:List Expr) (t:L2.TGs):Prop:=PGs X e t
@[irreducible] noncomputable def QI (X:Cx) (tg e:Expr) (t:TI):Prop:=PI X tg e t
@[irreducible] noncomputable def QO (X:Cx) (e:Option Expr) (t:TO):Prop:=PO X e t
@[irreducible] noncomputable def QTl (X:Cx) (e:List Expr) (t:TT):Prop:=PTl X e t
theorem Qpt {X:Cx} {e:Expr} {t:TT} (h:QW X e t):QT X e t:=by delta QW at h;delta QT;exact h.pt
theorem QSs.un {X:Cx} {e:List Stmt} {t:TS} (h:QSs X e t):PSs X e t:=by delta QSs at h;exact h
section
variable {X:Cx} {F:Fs} {pos:Pos}
theorem qc (i:Nat) {x:Str} (hN:X.N[i]?=some x:=by rfl) (hv:Vis X.env.scope x:=by first | exact Or.inl rfl | exact Or.inr (Or.inl rfl) | exact Or.inr (Or.inr rfl)) (hd:(x == ("__debug__":Str))=false:=by decide) (hcd:(x == ("__classdict__":Str))=false:=by decide):QE X (.Name x pos) (T (ev F (.var i))):=by
  delta QE;exact (qir (qgN hN hv hd hcd))
theorem qg {n:Int} {j}:QE X (.Constant (.int n) j pos) (T (ev F (.cst (.int n)))):=by
  delta QE;exact (qaz qgO fun _ _=>rfl)
theorem qV {b:Bool} {j}:QE X (.Constant (.bool b) j pos) (T (ev F (.cst (.bl b)))):=by
  delta QE;exact (qaz qdh fun _ _=>rfl)
theorem qac {j}:QE X (.Constant .none j pos) (T (ev F (.cst .non))):=by
  delta QE;exact (qaz qgP fun _ _=>rfl)
theorem zO {x:Str} {j}:QE X (.Constant (.str x) j pos) (T (ev F (.cst (.str x)))):=by
  delta QE;exact (qaz qgQ fun _ _=>rfl)
theorem qbs {x:Str} {n:Int} {t:Tok} (hm:X.mg x=some (.int n t)) (hg:Gl X x:=by rfl) (hd:(x == ("__debug__":Str))=false:=by decide):QE X (.Name x pos) (T (ev F (.cst (.int n)))):=by
  delta QE;exact (qhg (jW (v:=.int n) hg hm ⟨t,rfl⟩ hd) fun _ _=>rfl)
theorem ql (o:BOp) {a b:Expr} {ca cb:CE} (ha:QE X a (T (ev F ca))) (hb:QE X b (T (ev F cb))):QE X (.BinOp a (opOf o) b pos) (T (ev F (.bin o ca cb))):=by
  delta QE;delta QE at ha;delta QE at hb;exact (qit (qfv o) ha hb)
theorem qgs (o:COp) {k:Nat} {a b:Expr} {ca cb:CE} (hr:Room k X.A) (ha:QE X a (T (ev F ca))) (hb:QE X b (T (ev F cb))) (hm:behindInMarks (cOf o) b=false:=by rfl):QE X (.Compare a [cOf o] [b] pos) (T (ev F (.cmp o ca cb))):=by
  delta QE;delta QE at ha;delta QE at hb;exact (qiu (yW o (by have:=hr.un;lia)) ha hb hm)
theorem qf1 (o o':COp) {k:Nat} {a b c:Expr} {ca cb cc:CE} (hr:Room k X.A) (ha:QE X a (T (ev F ca))) (hb:QE X b (T (ev F cb))) (hc:QE X c (T (ev F cc))) (hm:lastMarks [cOf o,cOf o'] [b,c]=false:=by rfl) :
    QE X (.Compare a [cOf o,cOf o'] [b,c] pos) (T (ev F (.chain o o' ca cb cc))):=by
  delta QE;delta QE at ha;delta QE at hb;delta QE at hc;exact (qfB (yW o (by have:=hr.un;lia)) (yW o' (by have:=hr.un;lia)) ha hb hc hm)
theorem qad {a:Expr} {t:TE} (ha:QE X a t):QE X (.BoolOp .And [a] pos) t:=by
  delta QE;delta QE at ha;exact (qdi ha)
theorem qiZ {a:Expr} {t:TE} (ha:QE X a t):QE X (.BoolOp .Or [a] pos) t:=by
  delta QE;delta QE at ha;exact (qdi ha)
theorem qca {a b:Expr} {rest:List Expr} {ca cb:CE} (ha:QE X a (T (ev F ca))) (hb:QE X (.BoolOp .And (b::rest) pos) (T (ev F cb))):QE X (.BoolOp .And (a::b::rest) pos) (T (ev F (.and ca cb))):=by
  delta QE;delta QE at ha;delta QE at hb;exact (qiw ha hb)
theorem k_or {a b:Expr} {rest:List Expr} {ca cb:CE} (ha:QE X a (T (ev F ca))) (hb:QE X (.BoolOp .Or (b::rest) pos) (T (ev F cb))):QE X (.BoolOp .Or (a::b::rest) pos) (T (ev F (.or ca cb))):=by
  delta QE;delta QE at ha;delta QE at hb;exact (r_or ha hb)
theorem qi0 {a:Expr} {ca:CE} (ha:QE X a (T (ev F ca))):QE X (.UnaryOp .Not a pos) (T (ev F (.not ca))):=by
  delta QE;delta QE at ha;exact (qix ha)
theorem qe :QA X [] (TL (evs F .nil)):=by
  delta QA;exact (qis)
theorem qb {e:Expr} {es:List Expr} {c:CE} {cs:CEs} (h1:QE X e (T (ev F c))) (h2:QA X es (TL (evs F cs))) (hs:starEach (e::es) X.env=(false,eval e X.env)::starEach es X.env:=by rfl):QA X (e::es) (TL (evs F (.cons c cs))):=by
  delta QA;delta QE at h1;delta QA at h2;exact (qhh h1 h2 hs)
theorem qC {es:List Expr} {k:Nat} {cs:CEs} (h:QA X es (TL (evs F cs))):QE X (.Tuple es k pos) (T (ev F (.tup cs))):=by
  delta QE;delta QA at h;exact (qiy h)
theorem zz (m:Bool) {es:List Expr} {cs:CEs} (h:QA X es (TL (evs F cs))):QE X (.List es pos) (T (ev F (.lst m cs))):=by
  delta QE;delta QA at h;exact (qiz h)
theorem qgt (m:Bool):QE X (.Dict [] [] pos) (T (ev F (.dic m))):=by
  delta QE;exact (qiA)
theorem qi {k i:Nat} {x:Str} {ps:List Str} {e:Expr} {es:List Expr} {cs:CEs} {p:Pos} (h:FnAt X.prog X.w X.K X.mg X.base k F i x ps) (hr:Room k X.A) (ha:QA X (e::es) (TL (evs F cs))) (hg:Gl X x:=by rfl) (hl:cs.len=ps.length:=by rfl) (hdb:(x == ("__debug__":Str))=false:=by decide) (he:starEach (e::es) X.env=(false,eval e X.env)::starEach es X.env:=by rfl) (hpl:(backTo pos (starEach es X.env)).any (·.1)=false:=by rfl):QE X (.Call (.Name x p) (e::es) [] pos) (T (ev F (.call i cs))):=by
  delta QE;delta QA at ha
  obtain ⟨f,fd,hm,hk,hb,hF⟩:=h
  exact qho hF hr hg hm hk hb pass0 ha (fun ρ S l S' z=>(zY z).trans hl) hdb he hpl
theorem jm (b:Blt) {x:Str} {id:String} {e:Expr} {es:List Expr} {cs:CEs} {p:Pos} (hc:CallR X (.builtin id) (Gn (bltD b))) (hm:X.mg x=none) (hv:bootBuiltins x=some (.builtin id)) (ha:PA X (e::es) (TL (evs F cs))) (hg:Gl X x:=by rfl) (hn:x≠"__name__":=by decide) (hdb:(x == ("__debug__":Str))=false:=by decide)
    (he:starEach (e::es) X.env=(false,eval e X.env)::starEach es X.env:=by rfl) (hpl:(backTo pos (starEach es X.env)).any (·.1)=false:=by rfl):PE X (.Call (.Name x p) (e::es) [] pos) (T (ev F (.blt b cs))):=qfF hc hg hm hv ha hn hdb he hpl
theorem qgu (b:Blt) {x:Str} {ty:String} {e:Expr} {es:List Expr} {cs:CEs} {p:Pos} (hc:CallR X (.type ty) (Gn (bltD b))) (hm:X.mg x=none) (hv:bootBuiltins x=some (.type ty)) (ha:PA X (e::es) (TL (evs F cs))) (hg:Gl X x:=by rfl) (hn:x≠"__name__":=by decide) (hdb:(x == ("__debug__":Str))=false:=by decide)
    (he:starEach (e::es) X.env=(false,eval e X.env)::starEach es X.env:=by rfl) (hpl:(backTo pos (starEach es X.env)).any (·.1)=false:=by rfl):PE X (.Call (.Name x p) (e::es) [] pos) (T (ev F (.blt b cs))):=qdO hc hg hm hv ha hn hdb he hpl
theorem jK (t:Ty) {a:Expr} {ca:CE} {p p':Pos} (gb:Gb X.mg) (ha:QE X a (T (ev F ca))) (hg:Gl X "isinstance":=by rfl) (hgt:Gl X (Str.ofString t.nm):=by rfl) (he:starEach [a,.Name (Str.ofString t.nm) p'] X.env=(false,eval a X.env)::starEach [.Name (Str.ofString t.nm) p'] X.env:=by rfl) (he2:starEach [.Name (Str.ofString t.nm) p'] X.env=(false,eval (.Name (Str.ofString t.nm) p') X.env)::starEach [] X.env:=by rfl) (hpl:(backTo pos (starEach [.Name (Str.ofString t.nm) p'] X.env)).any (·.1)=false:=by rfl) :
    QE X (.Call (.Name "isinstance" p) [a,.Name (Str.ofString t.nm) p'] [] pos) (T (ev F (.isi t ca))):=by
  delta QE;delta QE at ha;exact (qiC hg gb.isinstance hgt (gb.ty t) ha he he2 hpl)
theorem zE {k:Nat} {a b:Expr} {ca cb:CE} (hr:Room k X.A) (ha:QE X a (T (ev F ca))) (hb:QE X b (T (ev F cb))) (hs:PlainIx b:=by exact fun _ _=>rfl):QE X (.Subscript a b pos) (T (ev F (.idx ca cb))):=by
  delta QE;delta QE at ha;delta QE at hb;exact (qiB (qgq hr) ha hb hs)
theorem k_on :QO X none (TOp (evO F .none)):=by
  delta QO;exact (qdN)
theorem k_os {e:Expr} {c:CE} (h:QE X e (T (ev F c))):QO X (some e) (TOp (evO F (.some c))):=by
  delta QO;delta QE at h;exact (qdM h)
theorem qaU {e:Expr} {lo hi:Option Expr} {p2:Pos} {c:CE} {cl ch:CO} (he:QE X e (T (ev F c))) (hl:QO X lo (TOp (evO F cl))) (hh:QO X hi (TOp (evO F ch))):QE X (.Subscript e (.Slice lo hi none p2) pos) (T (ev F (.slc c cl ch))):=by
  delta QE;delta QE at he;delta QO at hl;delta QO at hh;exact (qiD he hl hh)
theorem qhJ {a:Expr} {es:List Expr} {cs:CEs} {p1 p2 pos2:Pos} (gb:Gb X.mg) (ha:QA X (a::es) (TL (evs F cs))) (hc:X.calm=true:=by rfl) (hg:Gl X "range":=by rfl) (hg2:Gl X "tuple":=by rfl) (hs:starEach (a::es) X.env=(false,eval a X.env)::starEach es X.env:=by rfl) (hpl:(backTo pos2 (starEach es X.env)).any (·.1)=false:=by rfl):QE X (.Call (.Name "tuple" p1) [.Call (.Name "range" p2) (a::es) [] pos2] [] pos) (T (ev F (.rng none cs))):=by
  delta QE;delta QA at ha;exact (qiW (k:=none) (.inr ⟨rfl,rfl,rfl⟩) hc hg gb.range hg2 gb.tuple ha hs hpl)
theorem qR {e:Expr} {c:CE} (h:QE X e (T (ev F c))) (he:∀ whole,isTrue e X.env whole=(do let v ← whole;standAt e.pos;holding [v] (truthy v)):=by intro _;rfl):QT X e (TB (tst F (.val c))):=by
  delta QT;delta QE at h;exact (qhj h he)
theorem qP (o:COp) {k:Nat} {a b:Expr} {ca cb:CE} (hr:Room k X.A) (ha:QE X a (T (ev F ca))) (hb:QE X b (T (ev F cb))) (hm:behindInMarks (cOf o) b=false:=by rfl):QT X (.Compare a [cOf o] [b] pos) (TB (tst F (.val (.cmp o ca cb)))):=by
  delta QT;delta QE at ha;delta QE at hb;exact (qhk (yW o (by have:=hr.un;lia)) ha hb hm)
theorem ze {a:Expr} {ca:CB} (ha:QT X a (TB (tst F ca))):QT X (.UnaryOp .Not a pos) (TB (tst F (.not ca))):=by
  delta QT;delta QT at ha;exact (qhm ha)
theorem qbt {a:Expr} {t:TT} (ha:QT X a t):QW X (.BoolOp .And [a] pos) t:=by
  delta QW;delta QT at ha;exact (qfd ha)
theorem yd {a:Expr} {t:TT} (ha:QT X a t):QW X (.BoolOp .Or [a] pos) t:=by
  delta QW;delta QT at ha;exact (qgR ha)
theorem qej {a b:Expr} {rest:List Expr} {ca cb:CB} (ha:QT X a (TB (tst F ca))) (hb:QW X (.BoolOp .And (b::rest) pos) (TB (tst F cb))):QW X (.BoolOp .And (a::b::rest) pos) (TB (tst F (.and ca cb))):=by
  delta QW;delta QT at ha;delta QW at hb;exact (qhl ha hb)
theorem w_or {a b:Expr} {rest:List Expr} {ca cb:CB} (ha:QT X a (TB (tst F ca))) (hb:QW X (.BoolOp .Or (b::rest) pos) (TB (tst F cb))):QW X (.BoolOp .Or (a::b::rest) pos) (TB (tst F (.or ca cb))):=by
  delta QW;delta QT at ha;delta QW at hb;exact (qiv ha hb)
theorem ye :QTl X [] (TB (tsts F .nil)):=by
  delta QTl;exact (qhy)
theorem qae {c:Expr} {ifs:List Expr} {cc:CB} {cs:CBs} (h1:QT X c (TB (tst F cc))) (h2:QTl X ifs (TB (tsts F cs))):QTl X (c::ifs) (TB (tsts F (.cons cc cs))):=by
  delta QTl;delta QT at h1;delta QTl at h2;exact (qfK h1 h2)
theorem yC {tg e:Expr} {c:CE} (h:QE X e (T (ev F c))):QI X tg e (TIt (evI F (.seq c))):=by
  delta QI;delta QE at h;exact (qiQ h)
theorem jL {tg a:Expr} {es:List Expr} {cs:CEs} {p:Pos} (gb:Gb X.mg) (ha:QA X (a::es) (TL (evs F cs))) (hg:Gl X "range":=by rfl) (hs:starEach (a::es) X.env=(false,eval a X.env)::starEach es X.env:=by rfl) (hpl:(backTo pos (starEach es X.env)).any (·.1)=false:=by rfl) :
    QI X tg (.Call (.Name "range" p) (a::es) [] pos) (TIt (evI F (.rng cs))):=by
  delta QI;delta QA at ha;exact (i_rng hg gb.range ha hs hpl)
theorem qi1 {es:List Expr} {n:Nat} {tp:Pos} {e1 e2:Expr} {c1 c2:CE} {p:Pos} (gb:Gb X.mg) (h1:QE X e1 (T (ev F c1))) (h2:QE X e2 (T (ev F c2))) (hg:Gl X "zip":=by rfl) (hs:starEach [e1,e2] X.env=(false,eval e1 X.env)::starEach [e2] X.env:=by rfl) (hs2:starEach [e2] X.env=(false,eval e2 X.env)::starEach [] X.env:=by rfl):QI X (.Tuple es n tp) (.Call (.Name "zip" p) [e1,e2] [] pos) (TIt (evI F (.zip c1 c2))):=by
  delta QI;delta QE at h1;delta QE at h2;exact (qiY hg gb.zip h1 h2 hs hs2)
theorem qu (i:Nat) {x:Str} (hN:nodupB X.N=true:=by rfl) (hi:X.N[i]?=some x:=by rfl) (hx:Loc X.env.scope x:=by first | exact Or.inl rfl | exact Or.inr rfl) (hf:X.fn x=true∨X.env.scope.names.lookup x=some .local:=by first | exact .inl rfl | exact .inr rfl):QG X (.Name x pos) (TGt (asg F (.var i))):=by
  delta QG;exact (qiK (qfe (zk hN) hi hx hf))
theorem zP :QGs X [] (TGts (asgs F .nil)):=by
  delta QGs;exact (qiL)
theorem qr {e:Expr} {es:List Expr} {c:CT} {cs:CTs} (h1:QG X e (TGt (asg F c))) (h2:QGs X es (TGts (asgs F cs))) (hs:(assignEach (e::es) X.env).map (·.2)=assign e X.env::(assignEach es X.env).map (·.2):=by rfl):QGs X (e::es) (TGts (asgs F (.cons c cs))):=by
  delta QGs;delta QG at h1;delta QGs at h2;exact (qhr h1 h2 hs)
theorem zQ {es:List Expr} {k:Nat} {cs:CTs} (h:QGs X es (TGts (asgs F cs))) (hc:X.calm=true:=by rfl) (hn:(assignEach es X.env).length=cs.len:=by rfl) (hst:(assignEach es X.env).findIdx? (·.1)=none:=by rfl):QG X (.Tuple es k pos) (TGt (asg F (.tup cs))):=by
  delta QG;delta QGs at h;exact (qiM hc h hn hst fun l ρ S ρ' S' z=>qaT z)
theorem qgv {k:Nat} {o i:Expr} {co ci:CE} (hr:Room k X.A) (ho:QE X o (T (ev F co))) (hi:QE X i (T (ev F ci))) (ha:∀ v,assign (.Subscript o i pos) X.env v=(do
      let ov ← holding [v] (eval o X.env)
      let iv ← holding [v,ov] (eval i X.env)
      standAt pos
      holding [v,ov,iv] (setItem ov iv v)
      release [v,ov,iv] []):=by intro _;rfl):QG X (.Subscript o i pos) (TGt (asg F (.sub co ci))):=by
  delta QG;delta QE at ho;delta QE at hi;exact (qiN (qgq hr) ho hi ha)
end
end R
namespace R
open PySem PySem.Spec L2 SeqAt
open PyProof.Rows hiding St
section
variable {X:Cx} {F:Fs} {N:Nat} {pos:Pos}
theorem qj :QSs X [] (TSm (exs F N .nil)):=by
  delta QSs;exact (qiO)
theorem qf {st:Stmt} {rest:List Stmt} {c:CS} {cs:CSs} (h1:QS X st (TSm (ex F N c))) (h2:QSs X rest (TSm (exs F N cs))):QSs X (st::rest) (TSm (exs F N (.cons c cs))):=by
  delta QSs;delta QS at h1;delta QSs at h2;exact (qhs h1 h2)
theorem qhK {e:Expr} {c:CE} (he:QE X e (T (ev F c))) (hs:swapsWith e none pos.line X.env=pure false:=by rfl):QS X (.Expr e pos) (TSm (ex F N (.expr c))):=by
  delta QS;delta QE at he;exact (qht he hs)
theorem qo {e:Expr} {c:CE} (he:QE X e (T (ev F c))):QS X (.Return (some e) pos) (TSm (ex F N (.ret c))):=by
  delta QS;delta QE at he;exact (qiP he)
theorem z_if {c:Expr} {a b:List Stmt} {cc:CB} {ca cb:CSs} (hc:QT X c (TB (tst F cc))) (ha:QSs X a (TSm (exs F N ca))) (hb:QSs X b (TSm (exs F N cb))):QS X (.If c a b pos) (TSm (ex F N (.ifs cc ca cb))):=by
  delta QS;delta QT at hc;delta QSs at ha;delta QSs at hb;exact (s_if hc ha hb)
theorem jM {tg e:Expr} {c:CE} {t:CT} (he:QE X e (T (ev F c))) (hg:QG X tg (TGt (asg F t))) (hs:swapsWithSole [tg] e pos.line X.env=pure false:=by rfl) (hw:swappedStores [tg] e X.env=pure none:=by rfl) (h1:(assignEach [tg] X.env).map (·.2)=[assign tg X.env]:=by rfl) :
    QS X (.Assign [tg] e pos) (TSm (ex F N (.set t c))):=by
  delta QS;delta QE at he;delta QG at hg;exact (qgr (qgZ he hg hs hw h1))
theorem qI (i:Nat) {x:Str} {e:Expr} {c:CE} {pos':Pos} (he:QE X e (T (ev F c))) (hN:nodupB X.N=true:=by rfl) (hi:X.N[i]?=some x:=by rfl) (hx:Loc X.env.scope x:=by first | exact Or.inl rfl | exact Or.inr rfl) (hs:swapsWith e (some (.Name x pos')) pos.line X.env=pure false:=by rfl) (hf:X.fn x=true∨X.env.scope.names.lookup x=some .local:=by first | exact .inl rfl | exact .inr rfl):QS X (.Assign [.Name x pos'] e pos) (TSm (ex F N (.set (.var i) c))):=by
  delta QS;delta QE at he
  refine qgr (g:=fun d ρ S=>.ok (ρ.set i (some d)) S) (PSimp (qdl (zk hN) hi hx he hs hf) fun D σ H hw=>?_)
  obtain ⟨ι,S,ρ,er,st,p⟩:=hw
  refine ⟨ι,S,ρ,er,st,?_⟩
  cases z:ev F c ρ S with
  | no=>rw [z] at p;exact p
  | err=>rw [z] at p;exact p
  | ok d S1 =>
    rw [z] at p
    intro v ι1 H1 s1 st1 hv
    obtain ⟨ι2,S2,ρ2,d2,er2,st2,hd2,p2⟩:=p v ι1 H1 s1 st1 hv
    exact p2 _ ι2 H1 (Stp.refl _ _) st2 (er2.set hd2)
theorem jN {tg iter:Expr} {body:List Stmt} {it:CI} {t:CT} {cb:CSs} (hi:QI X tg iter (TIt (evI F it))) (hg:QG X tg (TGt (asg F t))) (hb:QSs X body (TSm (exs F N cb))) (hp:PassesOwn (model X.prog X.w) X.A X.env X.xe:=by exact PassesOwn.never) (hc:X.calm=true:=by rfl) (hs:∀ x,foldedSetIterable iter X.env x=pure x:=by intro _;rfl):QS X (.For tg iter body [] pos) (TSm (ex F N (.forS t it cb))):=by
  delta QS;delta QI at hi;delta QG at hg;delta QSs at hb;exact (qiR hp hc hi hg hb hs)
theorem qcb {c:Expr} {body:List Stmt} {cc:CB} {cb:CSs} (hc:QT X c (TB (tst F cc))) (hb:QSs X body (TSm (exs F N cb))) (hp:PassesOwn (model X.prog X.w) X.A X.env X.xe:=by exact PassesOwn.never):QS X (.While c body [] pos) (TSm (ex F N (.whileS cc cb))):=by
  delta QS;delta QT at hc;delta QSs at hb;exact (qfI hp hc hb)
noncomputable def cscB (O:List (Str × NameKind)) (N':List Str) (sc:Scope) (fr:List Nat) (xs ts:List Str):Bool :=
  (sc.kind == .function)&&sc.names.all (fun y=>y.2 != .cell)&&sc.names.all (fun y=>y.2 != .local || sc.names.lookup y.1 == some .local)&&sc.names.all (fun y=>y.2 != .free || O.lookup y.1 == some .cell || O.lookup y.1 == some .free) &&
  decide (fr.length=xs.length)&&(fr.zip xs).all (fun p=>N'[p.1]? == some p.2)&&xs.all (fun x=>sc.names.lookup x == some .free&&(O.lookup x == some .cell || O.lookup x == some .free))&&ts.all (fun x=>sc.names.lookup x == some .local)&&decide (xs++ts).Nodup
theorem qek {sc:Scope} {fr:List Nat} {xs ts:List Str} (h:cscB X.env.scope.names X.N sc fr xs ts=true):CSc X sc fr xs ts:=by
  unfold cscB at h
  simp only [Bool.and_eq_true,List.all_eq_true,Bool.or_eq_true,bne_iff_ne,beq_iff_eq,decide_eq_true_eq] at h
  obtain ⟨⟨⟨⟨⟨⟨⟨⟨h1,h2⟩,h3⟩,h4⟩,h5⟩,h6⟩,h7⟩,h8⟩,h9⟩:=h
  refine ⟨h1,h2,fun y hy hl=>?_,fun y hy hf=>?_,⟨h5,fun i j x e1 e2=>?_,h7,h8,h9⟩⟩
  · rcases h3 y hy with z | z
    · exact absurd hl z
    · exact z
  · rcases h4 y hy with (z | z) | z
    · exact absurd hf z
    · exact .inl z
    · exact .inr z
  · have hm:(j,x)∈fr.zip xs:=by
      apply List.mem_of_getElem? (i:=i)
      rw [List.getElem?_zip_eq_some]
      exact ⟨e1,e2⟩
    exact h6 (j,x) hm
theorem zo {k:Nat} {sc:Scope} {cl:List (Str × Addr)} {C:Addr} {code:Value} {N':List Str} {fp:List Addr} {tg elt iter:Expr} {ifs:List Expr} {gp:Pos} {it:Addr} {o:Addr × Obj} {s:Shared} {H:Hp} (r:Room (k+1) X.A) :
    Room k (genCx X sc cl C code N' fp (.GeneratorExp elt [⟨tg,iter,ifs,0⟩] sc gp) it o s H).A:=by
  have h1:=r.hd
  have h2:=r.dp
  have h3:=r.un
  refine ⟨h1,?_,?_⟩
  · show X.A.depth+frameCount ([].map Frame.where_)+Code.weight _+3*k+5<_
    have:Code.weight (.compLoop (.GeneratorExp elt [⟨tg,iter,ifs,0⟩] sc gp) 0 (.ref it) .none (genEnv sc cl C code builtinsNs X.env))≤1:=Nat.le_of_ble_eq_true rfl
    have e0:frameCount (([]:List Frame).map Frame.where_)=0:=rfl
    rw [e0]
    lia
  · show X.A.units+1+1+1+1+1+unitsOf ([].map Frame.where_)+Code.cUnits _+16*k+200<_
    have:Code.cUnits (.compLoop (.GeneratorExp elt [⟨tg,iter,ifs,0⟩] sc gp) 0 (.ref it) .none (genEnv sc cl C code builtinsNs X.env))≤3:=Nat.le_of_ble_eq_true rfl
    have e0:unitsOf (([]:List Frame).map Frame.where_)=0:=rfl
    rw [e0]
    lia
theorem k_lc (m:Bool) (fr:List Nat) (xs ts:List Str) {tg elt iter:Expr} {ifs:List Expr} {sc:Scope} {t:CT} {it:CI} {ci:CBs} {ce:CE} (hi:QI X tg iter (TIt (evI F it))) (rt:∀ cl C fp s H,QG (compCx X sc cl C (xs++ts) fp s H) tg (TGt (asg F t))) (ri:∀ cl C fp s H,QTl (compCx X sc cl C (xs++ts) fp s H) ifs (TB (tsts F ci))) (re:∀ cl C fp s H,QE (compCx X sc cl C (xs++ts) fp s H) elt (T (ev F ce))) (hc:X.calm=true:=by rfl) (hs:∀ x,foldedSetIterable iter X.env x=pure x:=by intro _;rfl) (h:cscB X.env.scope.names X.N sc fr xs ts=true:=by rfl):QE X (.ListComp elt [⟨tg,iter,ifs,0⟩] sc pos) (T (ev F (.lc m fr ts.length ce t it ci))):=by
  delta QE;delta QI at hi;delta QG at rt;delta QTl at ri;delta QE at re;exact (r_lc hc hi hs (qek h) ⟨rt,ri,re⟩)
theorem qgw (w:GW) (fr:List Nat) (xs ts:List Str) {id:String} {f:Str} {p gp:Pos} {tg elt iter:Expr} {ifs:List Expr} {sc:Scope} {k:Nat} {c T':Addr} {t:CT} {it:CI} {ci:CBs} {ce:CE} (hr:Room k X.A) (gc:GCall X w (.builtin id)) (hm:X.mg f=none) (hv:bootBuiltins f=some (.builtin id))
    (hcode:X.env.code=.ref c) (htab:codeTab X.K c T'=true) (hi:PI X tg iter (TIt (evI F it)))
    (rt:∀ cl C code fp it o s H,PG (genCx X sc cl C code (xs++ts) fp (.GeneratorExp elt [⟨tg,iter,ifs,0⟩] sc gp) it o s H) tg (TGt (asg F t)))
    (ri:∀ cl C code fp it o s H,PTl (genCx X sc cl C code (xs++ts) fp (.GeneratorExp elt [⟨tg,iter,ifs,0⟩] sc gp) it o s H) ifs (TB (tsts F ci)))
    (re:∀ cl C code fp it o s H,PE (genCx X sc cl C code (xs++ts) fp (.GeneratorExp elt [⟨tg,iter,ifs,0⟩] sc gp) it o s H) elt (T (ev F ce)))
    (hc:X.calm=true:=by rfl) (hgl:Gl X f:=by rfl) (hn:f≠"__name__":=by decide) (hdb:(f == ("__debug__":Str))=false:=by decide) (hs:∀ x,genFold iter X.env x=pure x:=by intro _;rfl) (h:cscB X.env.scope.names X.N sc fr xs ts=true:=by rfl)
    (hz:sc.names.lookup (".0":Str)=some NameKind.local:=by rfl) (hco:sc.isCoroutine=false:=by rfl):PE X (.Call (.Name f p) [.GeneratorExp elt [⟨tg,iter,ifs,0⟩] sc gp] [] pos) (T (ev F (.gen w fr ts.length ce t it ci))) :=
  qiV hc hr.depth gc hgl hm hv hn hdb hi hs (qek h) hz hco hcode htab ⟨rt,ri,re⟩
theorem qbu (fr:List Nat) (xs ts:List Str) {p gp:Pos} {tg elt iter:Expr} {ifs:List Expr} {sc:Scope} {k:Nat} {c T':Addr} {t:CT} {it:CI} {ci:CBs} {ce:CE} (hr:Room k X.A) (gb:Gb X.mg) (hcode:X.env.code=.ref c) (htab:codeTab X.K c T'=true) (hi:QI X tg iter (TIt (evI F it))) (rt:∀ cl C code fp it o s H,QG (genCx X sc cl C code (xs++ts) fp (.GeneratorExp elt [⟨tg,iter,ifs,0⟩] sc gp) it o s H) tg (TGt (asg F t))) (ri:∀ cl C code fp it o s H,QTl (genCx X sc cl C code (xs++ts) fp (.GeneratorExp elt [⟨tg,iter,ifs,0⟩] sc gp) it o s H) ifs (TB (tsts F ci))) (re:∀ cl C code fp it o s H,QE (genCx X sc cl C code (xs++ts) fp (.GeneratorExp elt [⟨tg,iter,ifs,0⟩] sc gp) it o s H) elt (T (ev F ce))) (hc:X.calm=true:=by rfl) (hgl:Gl X "all":=by rfl) (hs:∀ x,genFold iter X.env x=pure x:=by intro _;rfl) (h:cscB X.env.scope.names X.N sc fr xs ts=true:=by rfl) (hz:sc.names.lookup (".0":Str)=some NameKind.local:=by rfl) (hco:sc.isCoroutine=false:=by rfl):QE X (.Call (.Name "all" p) [.GeneratorExp elt [⟨tg,iter,ifs,0⟩] sc gp] [] pos) (T (ev F (.gen .all fr ts.length ce t it ci))):=by
  delta QE;delta QI at hi;delta QG at rt;delta QTl at ri;delta QE at re;exact (qgw .all fr xs ts hr (qhC hc hr.depth fun _=>hr.hd) gb.all (by decide +kernel) hcode htab hi rt ri re hc hgl (by decide) (by decide) hs h hz hco)
theorem qel (fr:List Nat) (xs ts:List Str) {p gp:Pos} {tg elt iter:Expr} {ifs:List Expr} {sc:Scope} {k:Nat} {c T':Addr} {t:CT} {it:CI} {ci:CBs} {ce:CE} (hr:Room k X.A) (gb:Gb X.mg) (hcode:X.env.code=.ref c) (htab:codeTab X.K c T'=true) (hi:QI X tg iter (TIt (evI F it))) (rt:∀ cl C code fp it o s H,QG (genCx X sc cl C code (xs++ts) fp (.GeneratorExp elt [⟨tg,iter,ifs,0⟩] sc gp) it o s H) tg (TGt (asg F t))) (ri:∀ cl C code fp it o s H,QTl (genCx X sc cl C code (xs++ts) fp (.GeneratorExp elt [⟨tg,iter,ifs,0⟩] sc gp) it o s H) ifs (TB (tsts F ci))) (re:∀ cl C code fp it o s H,QE (genCx X sc cl C code (xs++ts) fp (.GeneratorExp elt [⟨tg,iter,ifs,0⟩] sc gp) it o s H) elt (T (ev F ce))) (hc:X.calm=true:=by rfl) (hgl:Gl X "sum":=by rfl) (hs:∀ x,genFold iter X.env x=pure x:=by intro _;rfl) (h:cscB X.env.scope.names X.N sc fr xs ts=true:=by rfl) (hz:sc.names.lookup (".0":Str)=some NameKind.local:=by rfl) (hco:sc.isCoroutine=false:=by rfl):QE X (.Call (.Name "sum" p) [.GeneratorExp elt [⟨tg,iter,ifs,0⟩] sc gp] [] pos) (T (ev F (.gen .sum fr ts.length ce t it ci))):=by
  delta QE;delta QI at hi;delta QG at rt;delta QTl at ri;delta QE at re;exact (qgw .sum fr xs ts hr (qhD hc hr.depth fun _=>hr.hd) gb.sum (by decide +kernel) hcode htab hi rt ri re hc hgl (by decide) (by decide) hs h hz hco)
end
structure FunT (K:PySem.W.Frag) (x:Str) (st:Stmt) (f:Addr) (fd:FuncData) (c T':Addr):Prop where
  ex:∃ (oc:Value) (od:Option Addr) (kV doc pm:Value) (an:Option Addr) (ct:Value) (osl:Array (Option Value)),
    fd=PySem.W.fnOf x x (defArgs st) (defBody st) (defScope st) .none kV doc pm an (.ref c) ct∧K.lookup f=some ⟨oc,od,.func fd,osl⟩∧PySem.W.codeIn K (.ref c) x=true
  tab:codeTab K c T'=true
  kp:PySem.W.keepIn K (.ref f)=true
mutual
theorem Den.frz {ι:List Addr} {H:Hp} {S:Sr} {n:Nat} (st:Sto ι H S):∀ (d:D) {d':D} {v:V},R.frz S n d=some d'→Den ι H d v→Den (ι.take n) H d' v
  | .non,d',v,e,h=>by cases e;exact h
  | .bl b,d',v,e,h=>by cases e;exact h
  | .int b,d',v,e,h=>by cases e;exact h
  | .str b,d',v,e,h=>by cases e;exact h
  | .exc _,d',v,e,h=>by cases e
  | .emp,d',v,e,h=>by
    cases e
    obtain ⟨a,e1,e2,e3⟩:=h
    exact ⟨a,e1,fun m=>e2 (List.mem_of_mem_take m),e3⟩
  | .tup l,d',v,e,h=>by
    unfold R.frz at e
    cases z:R.frzs S n l with
    | none=>rw [z] at e;cases e
    | some l' =>
      rw [z] at e;cases e
      obtain ⟨a,xs,e1,e2,e3,e4⟩:=h
      exact ⟨a,xs,e1,fun m=>e2 (List.mem_of_mem_take m),e3,Dens.frz st l z e4⟩
  | .lst l,d',v,e,h=>by
    unfold R.frz at e
    cases z:R.frzs S n l with
    | none=>rw [z] at e;cases e
    | some l' =>
      rw [z] at e;cases e
      obtain ⟨a,xs,e1,e2,e3,e4⟩:=h
      exact ⟨a,xs,e1,fun m=>e2 (List.mem_of_mem_take m),e3,Dens.frz st l z e4⟩
  | .ref m,d',v,e,h=>by
    obtain ⟨a,e1,e2⟩:=h
    unfold R.frz at e
    split at e
    · rename_i hm
      cases e
      exact ⟨a,e1,by rw [List.getElem?_take];rw [if_pos hm];exact e2⟩
    · rename_i hm
      split at e
      · rename_i l hl
        split at e
        rotate_left
        · cases e
        rename_i f
        cases e
        obtain ⟨_,xs,h1,h2⟩:=st.obj m a _ e2 hl
        refine ⟨a,xs,e1,fun hmem=>?_,.inl h1,Dens.less l f h2⟩
        obtain ⟨i,hi,ei⟩:=List.mem_iff_getElem?.mp hmem |>.elim fun i hi=>(⟨i,by
          have:=(List.getElem?_eq_some_iff.mp hi).1
          rw [List.length_take] at this;lia,hi⟩:∃ i,i<n∧(ι.take n)[i]?=some a)
        rw [List.getElem?_take,if_pos hi] at ei
        have hlt:=(List.getElem?_eq_some_iff.mp ei).1
        have:=(List.getElem?_inj hlt st.nd).mp (ei.trans e2.symm)
        lia
      · cases e
theorem Dens.frz {ι:List Addr} {H:Hp} {S:Sr} {n:Nat} (st:Sto ι H S):∀ (ds:List D) {ds':List D} {xs:List V},R.frzs S n ds=some ds'→Dens ι H ds xs→Dens (ι.take n) H ds' xs
  | [],ds',xs,e,h=>by cases e;exact h
  | d::r,ds',xs,e,h=>by
    unfold R.frzs at e
    split at e
    · rename_i a b h1 h2
      cases e
      obtain ⟨x,t,e1,e2,e3⟩:=h
      exact ⟨x,t,e1,Den.frz st d h1 e2,Dens.frz st r h2 e3⟩
    · cases e
end
theorem qf2 {F:Fs} {N:Nat} {c:CF} {ns ps:List Str} {vs:List V} {H:Hp} {Q:VK} (hp:ps.length=c.np) (hn:ns.length=c.nn) (hle:c.np≤c.nn) (h:SpD ps.length (callC F N c) vs H Q E0):TSm (exs F N c.body) { nx:=fun _ H'=>Q .non H',rt:=Q } (start ns vs) H:=by
  obtain ⟨hl,ι,S,ds,st,dl,p⟩:=h
  have hdl:ds.length=c.np:=by rw [dl.length,hl,hp]
  unfold callC at p
  rw [if_pos hdl] at p
  have er:EnR ι H (ds.map some++List.replicate (c.nn-c.np) none) (start ns vs):=by
    unfold L2.start
    have e1:ns.length-vs.length=c.nn-c.np:=by rw [hn,hl,hp]
    rw [e1]
    refine ⟨by simp [dl.length],fun i d e=>?_⟩
    by_cases hi:i<ds.length
    · rw [List.getElem?_append_left (by simpa using hi),List.getElem?_map,List.getElem?_eq_getElem hi] at e
      cases e
      obtain ⟨x,e2,e3⟩:=dl.get (List.getElem?_eq_getElem hi)
      refine ⟨x,?_,e3⟩
      rw [List.getElem?_append_left (by rw [List.length_map,← dl.length];exact hi),List.getElem?_map,e2];rfl
    · rw [List.getElem?_append_right (by simpa using hi),List.getElem?_replicate] at e
      split at e <;> cases e
  refine ⟨ι,S,_,er,st,?_⟩
  have lv:∀ {d:D} {S1:Sr},Pst Den (leave c.keeps S.length d S1) ι H Q→∀ ι' H',Stp ι H ι' H'→Sto ι' H' S1→∀ v,Den ι' H' d v→Q v H':=by
    intro d S1 q ι' H' s1 st1 v hv
    unfold leave at q
    split at q
    · exact q v ι' H' s1 st1 hv
    · split at q
      · exact q v ι' H' s1 st1 hv
      · split at q
        · rename_i hr
          have e:=s1.take_eq
          have el:ι.length=S.length:=st.len
          refine q v (ι'.take S.length) H' (by rw [← el];exact s1.less) (st1.less _) (Den.less d hr hv)
        · split at q
          · rename_i d' hd
            have el:ι.length=S.length:=st.len
            exact q v (ι'.take S.length) H' (by rw [← el];exact s1.less) (st1.less _) (Den.frz st1 d hd hv)
          · exact q.elim
  cases z:exs F N c.body (ds.map some++List.replicate (c.nn-c.np) none) S with
  | no=>rw [z] at p;exact p.elim
  | err=>rw [z] at p;exact p.elim
  | ok f S1 =>
    rw [z,Res.bind_ok] at p
    intro ι' H' s1 st1
    cases f with
    | nx ρ=>exact fun σ _=>lv p ι' H' s1 st1 .non rfl
    | rt d=>exact fun v hv=>lv p ι' H' s1 st1 v hv
    | bk ρ=>exact p.elim
    | ct ρ=>exact p.elim
end R
namespace R
open PySem PySem.Spec L2 SeqAt
open PyProof.Rows hiding St
noncomputable def isFields:Data→Bool
  | .fields _=>true
  | _=>false
noncomputable def plainK (K:PySem.W.Frag):Bool:=K.all fun p=>p.2.cls != .type "list"&&!(p.2.cls == .none&&isFields p.2.data)
noncomputable def sameData:Data→Bool
  | .fields vs=>sameName vs
  | _=>false
noncomputable def codesK (q:Program) (K:PySem.W.Frag):Bool:=K.all fun p=>p.2.cls != .type "code" || !(sameData p.2.data) || (recsOf q).any fun d=>match PySem.W.nsIn K mainGlobals d.name with
  | some (some (.ref a))=>(match K.lookup a with
    | some ⟨_,_,.func fd,_⟩=>fd.code == .ref p.1
    | _=>false)
  | _=>false
theorem zD:∀ {K:PySem.W.Frag} {a:Addr} {o:Obj},K.lookup a=some o→(a,o)∈K
  | [],_,_,h=>by cases h
  | (b,u)::K,a,o,h=>by
    rw [List.lookup_cons] at h
    cases z:a == b with
    | true=>rw [z] at h;cases h;rw [beq_iff_eq.mp z];exact List.mem_cons_self
    | false=>rw [z] at h;exact List.mem_cons_of_mem _ (zD h)
theorem qem {K:PySem.W.Frag} (h:plainK K=true) {a:Addr} {o:Obj} (e:K.lookup a=some o):o.cls≠.type "list"∧¬ (o.cls=.none∧isFields o.data=true):=by
  unfold plainK at h
  rw [List.all_eq_true] at h
  have:=h _ (zD e)
  simp only [Bool.and_eq_true,bne_iff_ne,Bool.not_eq_true',Bool.and_eq_false_iff,beq_eq_false_iff_ne] at this
  refine ⟨this.1,fun ⟨z1,z2⟩=>?_⟩
  rcases this.2 with z | z
  · exact z z1
  · rw [z2] at z;cases z
theorem jn {K:PySem.W.Frag} {c t:Addr} (h:codeTab K c t=true):∃ o vs,K.lookup c=some o∧o.cls=.type "code"∧o.data=.fields vs∧vs[11]?=some (.ref t)∧sameName vs=true:=by
  unfold codeTab at h
  split at h
  · rename_i cls d vs sl hl
    simp only [Bool.and_eq_true,beq_iff_eq] at h
    obtain ⟨⟨e1,e3⟩,e2⟩:=h
    split at e2
    · rename_i a b x1 x2 x3 x4 x5 x6 x7 h11 h11' h18 h7 h9 h10
      simp only [Bool.and_eq_true,beq_iff_eq,bne_iff_ne] at e2
      obtain ⟨⟨ea,eb⟩,ne⟩:=e2
      subst eb
      exact ⟨_,vs,hl,e1,rfl,h11',e3⟩
    · cases e2
  · cases h
theorem qf3 {q:Program} {loose:List Str} {mean:ExcName→Option Value} {mg mb:Str→Option Value} {h:Heap} {K:PySem.W.Frag} (T:Top q loose mean mg mb h) (KX:K.In h) (hc:codesK q K=true) {c t:Addr} (e:codeTab K c t=true) :
    h.get? t=some { cls:=.none,data:=.fields #[] }∧isCodeTable h t:=by
  obtain ⟨o,vs,lk,cl,da,ix,sn⟩:=jn e
  unfold codesK at hc
  rw [List.all_eq_true] at hc
  have:=hc _ (zD lk)
  simp only [Bool.or_eq_true,bne_iff_ne,List.any_eq_true] at this
  rcases this with (z | z) | ⟨d,hd,hz⟩
  · exact absurd cl z
  · rw [da] at z;rw [show sameData (.fields vs)=true from sn] at z;cases z
  · split at hz
    · rename_i a hn
      split at hz
      · rename_i oc od fd sl hl
        have hcode:fd.code=.ref c:=by simpa using hz
        obtain ⟨a',o',fd',c',P',e1,e2,e3,e4,e5,e6⟩:=T.tab d hd
        have em:=PySem.W.mg_of KX T.g hn
        rw [em] at e1
        cases e1
        have:=KX _ _ hl
        rw [e2] at this
        cases this
        cases e3
        rw [hcode] at e4
        cases e4
        obtain ⟨⟨oc',vc,g1,g2,g3,g4⟩,g5⟩:=e6
        have:=KX _ _ lk
        rw [g1] at this
        cases this
        rw [da] at g3
        cases g3
        rw [ix] at g4
        cases g4
        exact ⟨g5,c,_,_,g1,cl,da,ix⟩
      · cases hz
    · cases hz
noncomputable def tabOf (K:PySem.W.Frag) (b:Addr):Bool:=K.any fun p=>codeTab K p.1 b
theorem jO {K:PySem.W.Frag} {b:Addr}:tabOf K b=true ↔ ∃ c,codeTab K c b=true:=by
  unfold tabOf
  rw [List.any_eq_true]
  constructor
  · rintro ⟨p,_,h⟩;exact ⟨p.1,h⟩
  · rintro ⟨c,h⟩
    obtain ⟨o,vs,lk,_⟩:=jn h
    exact ⟨(c,o),zD lk,h⟩
noncomputable def entryH (K:PySem.W.Frag) (a:Addr) (vs:List Value) (ns:List Int):Hp:=fun b=>if b=a then some (.frz { cls:=.type "list",data:=.seq vs.toArray } (.lst (ns.map V.int))) else if tabOf K b=true then some (.tbl #[]) else none
theorem qc2 {P:Program} {w:World} {q:Program} {loose:List Str} {mean:ExcName→Option Value} {K:PySem.W.Frag} {mg mb:Str→Option Value} {k:Nat} {fa a:Addr} {fd:FuncData} {x:Str} {sp:Sp} {s₁:Shared} {vs:List Value} {ns:List Int} (T:Top q loose mean mg mb s₁.heap)
    (KX:K.In s₁.heap) (hp:plainK K=true) (hcd:codesK q K=true) (hg:s₁.gens=#[])
    (ha:s₁.heap.get? a=some { cls:=.type "list",data:=.seq vs.toArray }) (hi:IntsAre vs ns) (hl:ns.length≤sizeLine) (hr:Room k callerA)
    (F:∀ base:Heap,K.In base→base.Ns mainGlobals mg→FnOk P w K mg base CX0 k fa fd [x] sp) (hbind:∀ (s:Shared) (u:Value),BindsTo s fd ⟨[u],[]⟩ [(x,u)])
    (hsp:∀ H:Hp,H a=some (.frz { cls:=.type "list",data:=.seq vs.toArray } (.lst (ns.map V.int)))→sp [.ref a] H (fun v _=>v=.bl true) fun _ _ _=>False) :
    codeAny (model P w) callerA (.call (.ref fa) ⟨[.ref a],[]⟩) (fun r s'=>r=.ok (.ret (.bool true))∧OldK s₁.heap s'.heap∧s'.os=s₁.os∧AllBare s'.gens) s₁:=by
  have rv:=jH hi
  have tb:∀ {b:Addr},tabOf K b=true→s₁.heap.get? b=some { cls:=.none,data:=.fields #[] }∧isCodeTable s₁.heap b:=fun {b} h=>by
    obtain ⟨c,e⟩:=jO.mp h
    exact qf3 T KX hcd e
  have na:tabOf K a≠true:=fun h=>by
    have:=(tb h).1
    rw [ha] at this;cases this
  generalize hH:entryH K a vs ns=H
  have hHa:H a=some (.frz { cls:=.type "list",data:=.seq vs.toArray } (.lst (ns.map V.int))):=by rw [← hH];unfold entryH;rw [if_pos rfl]
  have hHt:∀ {b:Addr},tabOf K b=true→H b=some (.tbl #[]):=fun {b} h=>by
    rw [← hH];unfold entryH
    rw [if_neg (fun (z:b=a)=>na (by rw [← z];exact h)),if_pos h]
  have hHs:∀ {b:Addr} {u:HO},H b=some u→(b=a∧u=.frz { cls:=.type "list",data:=.seq vs.toArray } (.lst (ns.map V.int)))∨(tabOf K b=true∧u=.tbl #[]):=fun {b u} e=>by
    rw [← hH] at e;unfold entryH at e
    split at e
    · rename_i z;cases e;exact .inl ⟨z,rfl⟩
    · split at e
      · rename_i z;cases e;exact .inr ⟨z,rfl⟩
      · cases e
  have hok:HOk P w H s₁.heap:=fun b u e=>by
    rcases hHs e with ⟨rfl,rfl⟩ | ⟨h,rfl⟩
    · exact ⟨ha,by rw [List.length_map];exact hl,vs,_,rv,ha⟩
    · exact ⟨(tb h).1,trivial⟩
  have base_of:∀ {b:Addr} {o:Obj},s₁.heap.get? b=some o→H b=none→(hidT s₁.heap H).get? b=some o:=fun e n=>qdg e n
  have noD:∀ {b:Addr} {o:Obj} {es:Array DictEntry} {ep:Nat},s₁.heap.get? b=some o→o.data=.dict es ep→H b=none:=fun {b o es ep} e d=>by
    cases z:H b with
    | none=>rfl
    | some u =>
      rcases hHs z with ⟨rfl,rfl⟩ | ⟨h,rfl⟩
      · rw [ha] at e;cases e;cases (show Data.seq vs.toArray _=Data.dict es ep from d)
      · rw [(tb h).1] at e;cases e;cases (show Data.fields #[]=Data.dict es ep from d)
  have nsK:∀ {b:Addr} {m:Str→Option Value},s₁.heap.Ns b m→(hidT s₁.heap H).Ns b m:=fun {b m} ⟨o,es,ep,e,d,r⟩=>⟨o,es,ep,base_of e (noD e d),d,r⟩
  have hKb:K.In (hidT s₁.heap H):=fun b o e=>base_of (KX b o e) (by
    cases z:H b with
    | none=>rfl
    | some u =>
      obtain ⟨p1,p2⟩:=qem hp e
      have e':=KX b o e
      rcases hHs z with ⟨rfl,rfl⟩ | ⟨h,rfl⟩
      · rw [ha] at e';cases e';exact absurd rfl p1
      · rw [(tb h).1] at e';cases e';exact absurd ⟨rfl,rfl⟩ p2)
  have bm:∃ bm ob,mg "__builtins__"=some (.ref bm)∧bm≠builtinsNs∧(hidT s₁.heap H).get? bm=some ob∧ob.cls=.type "module"∧ob.dict=some builtinsNs∧ob.data=.plain:=by
    obtain ⟨bm,ob,e1,e2,e3,e4,e5,e6⟩:=T.bmain
    refine ⟨bm,ob,e1,e2,base_of e3 ?_,e4,e5,e6⟩
    cases z:H bm with
    | none=>rfl
    | some u =>
      rcases hHs z with ⟨rfl,rfl⟩ | ⟨h,rfl⟩
      · rw [ha] at e3;cases e3;exact absurd (show Value.type "list"=Value.type "module" from e4) (by decide)
      · rw [(tb h).1] at e3;cases e3;exact absurd e4 (by decide)
  have hM:Mod K mg (hidT s₁.heap H):=⟨hKb,nsK T.g,⟨mb,nsK T.b,T.builtins⟩,(let ⟨mc,h1,h2⟩:=T.nolimit;⟨mc,nsK h1,h2⟩),bm⟩
  have e0:Env0 P w K mg (hidT s₁.heap H) callerA [] s₁ H:=⟨rfl,hM,fun b o e=>qfc e,Nat.le_of_eq (qcA _ _),trivial,fun b hb=>absurd (show b∈([]:List Addr) from hb) (by simp),hok,.of_eq hg,fun c t z=>⟨_,hHt (jO.mpr ⟨c,z⟩)⟩⟩
  refine codeAny_mono ((F _ hKb (nsK T.g)).run callerA [] s₁ H ⟨[.ref a],[]⟩ [.ref a] [.ref a] _ _ hr e0 (hbind s₁ (.ref a)) (.cons rfl .nil) (hsp H hHa)) fun r s' h=>?_
  cases r with
  | error e=>exact (show False from h).elim
  | ok fl =>
    cases fl with
    | next=>exact False.elim h
    | brk=>exact False.elim h
    | cont=>exact False.elim h
    | ret u =>
      obtain ⟨v,H',os,bare,un,hok',r',q'⟩:=h
      have q':v=.bl true:=q'
      subst q'
      obtain rfl:u=Value.bool true:=r'
      have old:∀ b o,s₁.heap.get? b=some o→asItWas s₁.heap s'.heap b o∧∃ o',s'.heap.get? b=some o':=fun b o e=>by
        cases z:H b with
        | none =>
          have:=un.keep b o e z (by intro y;exact absurd (show b∈([]:List Addr) from y) (by simp)) (by simp)
          exact ⟨.inl this,_,this⟩
        | some u =>
          rcases hHs z with ⟨rfl,rfl⟩ | ⟨h,rfl⟩
          · have z2:=un.frzs _ _ _ z
            obtain ⟨e2,_⟩:=hok' _ _ z2
            rw [ha] at e;cases e
            exact ⟨.inl e2,_,e2⟩
          · obtain ⟨more,z2⟩:=un.tbls _ _ z
            obtain ⟨e2,_⟩:=hok' _ _ z2
            obtain ⟨e3,e4⟩:=tb h
            rw [e3] at e;cases e
            exact ⟨.inr (.inl ⟨e4,rfl,#[],more,rfl,e2⟩),_,e2⟩
      exact ⟨rfl,⟨fun b o e=>(old b o e).1,fun b o e=>(old b o e).2⟩,os,bare.bare⟩
theorem qhL {l:PySem.W.OpenLaw} {n k:Nat} {q:Program} {loose:List Str} {XP:(Str→Option Value)→Heap→Prop} {YP:World→Heap→Prop} {d:DefRec} {K:Params→PySem.W.Frag} {x:Str} {g:List D→Sr→Res D}
    (hn:l.most=some n) (hn2:n≤sizeLine) (hdf:d.params.defaults=[]) (hr:Room k callerA) (hY:∀ (w:World) (h:Heap),YP w h→(K w.params).In h) (hp:∀ P,plainK (K P)=true) (hcd:∀ P,codesK q (K P)=true)
    (F:∀ (w:World) (mg:Str→Option Value) (fa:Addr) (h:Heap),(K w.params).In h→h.Ns mainGlobals mg→mg d.name=some (.ref fa) →
      ∃ fd:FuncData,(∀ (s:Shared) (u:Value),BindsTo s fd ⟨[u],[]⟩ [(x,u)])∧∀ base:Heap,(K w.params).In base→base.Ns mainGlobals mg→FnOk l.prog w (K w.params) mg base CX0 k fa fd [x] (SpD 1 g))
    (hG:∀ ns:List Int,ns.length≤n→∃ S',g [.lst (ns.map .int)] []=.ok (.bl true) S') :
    PySem.W.WalkO q loose XP YP l.row.toRowW d [] (fun f vs=>PySem.call f vs):=by
  refine Att.attach_call hn hdf fun w s₀ s₁ mg mb fa o pm cd doc a vs ns G Y ho hd hcd' hmg hobj hints hlen hg=>?_
  have KX:=hY w _ Y
  obtain ⟨fd,hb,hF⟩:=F w mg fa _ KX G.T.g hmg
  refine qc2 G.T KX (hp _) (hcd _) hg hobj hints (Nat.le_trans hlen hn2) hr hF hb fun H hS=>?_
  obtain ⟨S',e⟩:=hG ns hlen
  have dd:∀ ms:List Int,Dens [] H (ms.map .int) (ms.map V.int):=fun ms=>by
    induction ms with
    | nil=>rfl
    | cons x r ih=>exact ⟨_,_,rfl,rfl,ih⟩
  refine ⟨rfl,[],[],[.lst (ns.map .int)],⟨rfl,.nil,fun n a so e1 _=>by simp at e1⟩,⟨_,_,rfl,⟨a,ns.map V.int,rfl,by simp,.inr ⟨_,hS⟩,dd ns⟩,rfl⟩,?_⟩
  rw [e]
  exact fun v ι' H' _ _ hv=>hv
end R
namespace R
open PySem PySem.Spec L2 SeqAt
open PyProof.Rows hiding St
theorem m2 {k:Nat} {A:Around} (r:Room (k+2) A):Room k A:=r.mono (by lia)
theorem m1 {k:Nat} {A:Around} (r:Room (k+1) A):Room k A:=r.mono (by lia)
theorem qhM:bootBuiltins "len"=some (.builtin "len"):=by decide +kernel
theorem qhN:bootBuiltins "min"=some (.builtin "min"):=by decide +kernel
theorem qhO:bootBuiltins "max"=some (.builtin "max"):=by decide +kernel
theorem qhP:bootBuiltins "abs"=some (.builtin "abs"):=by decide +kernel
theorem qc3:bootBuiltins "divmod"=some (.builtin "divmod"):=by decide +kernel
theorem qc4:bootBuiltins "sorted"=some (.builtin "sorted"):=by decide +kernel
theorem qhQ:bootBuiltins "sum"=some (.builtin "sum"):=by decide +kernel
theorem qf4:bootBuiltins "list"=some (.type "list"):=by decide +kernel
theorem qen:bootBuiltins "tuple"=some (.type "tuple"):=by decide +kernel
section
variable {X:Cx} {F:Fs} {pos p:Pos} {e:Expr} {es:List Expr} {cs:CEs}
theorem zR (gb:Gb X.mg) (ha:QA X (e::es) (TL (evs F cs))) (hg:Gl X "len":=by rfl) (he:starEach (e::es) X.env=(false,eval e X.env)::starEach es X.env:=by rfl) (hpl:(backTo pos (starEach es X.env)).any (·.1)=false:=by rfl):QE X (.Call (.Name "len" p) (e::es) [] pos) (T (ev F (.blt .len cs))):=by
  delta QE;delta QA at ha;exact (jm .len qiE gb.len qhM ha hg (by decide) (by decide) he hpl)
theorem qi2 (gb:Gb X.mg) (ha:QA X (e::es) (TL (evs F cs))) (hc:X.calm=true:=by rfl) (hg:Gl X "min":=by rfl) (he:starEach (e::es) X.env=(false,eval e X.env)::starEach es X.env:=by rfl) (hpl:(backTo pos (starEach es X.env)).any (·.1)=false:=by rfl):QE X (.Call (.Name "min" p) (e::es) [] pos) (T (ev F (.blt .min2 cs))):=by
  delta QE;delta QA at ha;exact (jm .min2 (qiG hc) gb.min qhN ha hg (by decide) (by decide) he hpl)
theorem qi3 (gb:Gb X.mg) (ha:QA X (e::es) (TL (evs F cs))) (hc:X.calm=true:=by rfl) (hg:Gl X "max":=by rfl) (he:starEach (e::es) X.env=(false,eval e X.env)::starEach es X.env:=by rfl) (hpl:(backTo pos (starEach es X.env)).any (·.1)=false:=by rfl):QE X (.Call (.Name "max" p) (e::es) [] pos) (T (ev F (.blt .max2 cs))):=by
  delta QE;delta QA at ha;exact (jm .max2 (qiH hc) gb.max qhO ha hg (by decide) (by decide) he hpl)
theorem qeo (gb:Gb X.mg) (ha:QA X (e::es) (TL (evs F cs))) (hg:Gl X "abs":=by rfl) (he:starEach (e::es) X.env=(false,eval e X.env)::starEach es X.env:=by rfl) (hpl:(backTo pos (starEach es X.env)).any (·.1)=false:=by rfl):QE X (.Call (.Name "abs" p) (e::es) [] pos) (T (ev F (.blt .abs cs))):=by
  delta QE;delta QA at ha;exact (jm .abs qiF gb.abs qhP ha hg (by decide) (by decide) he hpl)
theorem qep (gb:Gb X.mg) (ha:QA X (e::es) (TL (evs F cs))) (hg:Gl X "divmod":=by rfl) (he:starEach (e::es) X.env=(false,eval e X.env)::starEach es X.env:=by rfl) (hpl:(backTo pos (starEach es X.env)).any (·.1)=false:=by rfl):QE X (.Call (.Name "divmod" p) (e::es) [] pos) (T (ev F (.blt .divmod cs))):=by
  delta QE;delta QA at ha;exact (jm .divmod qdQ gb.divmod qc3 ha hg (by decide) (by decide) he hpl)
theorem qeq (m:Bool) (gb:Gb X.mg) (ha:QA X (e::es) (TL (evs F cs))) (hc:X.calm=true:=by rfl) (hg:Gl X "sorted":=by rfl) (he:starEach (e::es) X.env=(false,eval e X.env)::starEach es X.env:=by rfl) (hpl:(backTo pos (starEach es X.env)).any (·.1)=false:=by rfl):QE X (.Call (.Name "sorted" p) (e::es) [] pos) (T (ev F (.blt (.sorted m) cs))):=by
  delta QE;delta QA at ha;exact (jm (.sorted m) (qei m hc) gb.sorted qc4 ha hg (by decide) (by decide) he hpl)
theorem qi4 (gb:Gb X.mg) (ha:QA X (e::es) (TL (evs F cs))) (hc:X.calm=true:=by rfl) (hg:Gl X "sum":=by rfl) (he:starEach (e::es) X.env=(false,eval e X.env)::starEach es X.env:=by rfl) (hpl:(backTo pos (starEach es X.env)).any (·.1)=false:=by rfl):QE X (.Call (.Name "sum" p) (e::es) [] pos) (T (ev F (.blt .sum cs))):=by
  delta QE;delta QA at ha;exact (jm .sum (qiI hc) gb.sum qhQ ha hg (by decide) (by decide) he hpl)
theorem qhR (m:Bool) (gb:Gb X.mg) (ha:QA X (e::es) (TL (evs F cs))) (hg:Gl X "list":=by rfl) (he:starEach (e::es) X.env=(false,eval e X.env)::starEach es X.env:=by rfl) (hpl:(backTo pos (starEach es X.env)).any (·.1)=false:=by rfl):QE X (.Call (.Name "list" p) (e::es) [] pos) (T (ev F (.blt (.list m) cs))):=by
  delta QE;delta QA at ha;exact (qgu (.list m) (qhq m) gb.list qf4 ha hg (by decide) (by decide) he hpl)
theorem qaf (gb:Gb X.mg) (ha:QA X (e::es) (TL (evs F cs))) (hg:Gl X "tuple":=by rfl) (he:starEach (e::es) X.env=(false,eval e X.env)::starEach es X.env:=by rfl) (hpl:(backTo pos (starEach es X.env)).any (·.1)=false:=by rfl):QE X (.Call (.Name "tuple" p) (e::es) [] pos) (T (ev F (.blt .tuple cs))):=by
  delta QE;delta QA at ha;exact (qgu .tuple qfG gb.tuple qen ha hg (by decide) (by decide) he hpl)
end
end R
namespace R
open PySem PySem.Spec L2 SeqAt
open PyProof.Rows hiding St
theorem qF {P:Program} {w:World} {K:PySem.W.Frag} {mg:Str→Option Value} {base:Heap} {k N i:Nat} {F G:Fs} {x:Str} {st:Stmt} {f c T':Addr} {fd:FuncData} {cf:CF} {ns ps:List Str} (U:FunT K x st f fd c T') (S:FnScope ns ps (defScope st))
    (hp:ps.length=cf.np) (hn:ns.length=cf.nn) (hle:cf.np≤cf.nn) (hG:G i=callC F N cf)
    (body:∀ (A:Around) (outer:List Env) (s:Shared) (H:Hp) (E:XK),Room k (A.deeper (envOfC x (defScope st) s.heap.objs.size f (.ref c)))→QSs (cxOf CX0 P w K mg base ns x (defScope st) f (.ref c) A outer s H E).nox (defBody st) (TSm (exs F N cf.body))) :
    FnOk P w K mg base CX0 (k+1) f fd ps (SpD ps.length (G i)):=by
  obtain ⟨oc,od,kV,doc,pm,an,ct,osl,rfl,lk,hcd⟩:=U.ex
  refine qgn lk hcd S (fun vs H Q E h=>h.1) fun A outer s H vs Q E hr h=>⟨_,(body A outer s H E hr).un.nox,?_⟩
  rw [hG] at h
  exact qf2 hp hn hle h
theorem qG {P:Program} {w:World} {K:PySem.W.Frag} {mg:Str→Option Value} {base:Heap} {i:Nat} {G:Fs} {f:Addr} {fd:FuncData} {ps:List Str} (hG:G i=fun _ _=>.no) {k:Nat} :
    FnOk P w K mg base CX0 k f fd ps (SpD ps.length (G i)):=by
  refine ⟨fun vs H Q E h=>h.1,fun A outer s H args us vs Q E _ _ _ _ h=>?_⟩
  obtain ⟨_,ι,S,ds,_,_,p⟩:=h
  rw [hG] at p
  exact p.elim
noncomputable def DefIn (K:PySem.W.Frag) (mg:Str→Option Value) (x:Str) (st:Stmt) (ps:List Str):Prop:=∃ (f:Addr) (fd:FuncData) (c t:Addr),mg x=some (.ref f)∧FunT K x st f fd c t∧Binds K fd ps []
theorem DefIn.fn {P:Program} {w:World} {K:PySem.W.Frag} {mg:Str→Option Value} {base:Heap} {k i:Nat} {F:Fs} {x:Str} {st:Stmt} {ps:List Str} (u:DefIn K mg x st ps) (h:∀ f fd c t,FunT K x st f fd c t→FnOk P w K mg base CX0 k f fd ps (SpD ps.length (F i))):FnAt P w K mg base k F i x ps:=by
  obtain ⟨f,fd,c,t,hm,U,hb⟩:=u
  exact ⟨f,fd,hm,U.kp,hb,h f fd c t U⟩
theorem len0 {us:List Value} (h:us.length=0):us=[]:=List.eq_nil_of_length_eq_zero h
theorem lenS {us:List Value} {n:Nat} (h:us.length=n+1):∃ a r,us=a::r∧r.length=n:=by
  cases us with
  | nil=>cases h
  | cons a r=>exact ⟨a,r,rfl,Nat.succ.inj h⟩
theorem len1 {us:List Value} (h:us.length=1):∃ a0,us=[a0]:=by
  obtain ⟨a,_,rfl,q⟩:=lenS h;cases len0 q;exact ⟨a,rfl⟩
theorem len2 {us:List Value} (h:us.length=2):∃ a0 a1,us=[a0,a1]:=by
  obtain ⟨a,r,rfl,q⟩:=lenS h;obtain ⟨b0,rfl⟩:=len1 q;exact ⟨a,b0,rfl⟩
theorem len3 {us:List Value} (h:us.length=3):∃ a0 a1 a2,us=[a0,a1,a2]:=by
  obtain ⟨a,r,rfl,q⟩:=lenS h;obtain ⟨b0,b1,rfl⟩:=len2 q;exact ⟨a,b0,b1,rfl⟩
theorem len4 {us:List Value} (h:us.length=4):∃ a0 a1 a2 a3,us=[a0,a1,a2,a3]:=by
  obtain ⟨a,r,rfl,q⟩:=lenS h;obtain ⟨b0,b1,b2,rfl⟩:=len3 q;exact ⟨a,b0,b1,b2,rfl⟩
noncomputable def tabIn (vs:Array Value) (c T':Addr):Bool:=match (vs.getD 11 Value.none:Value),(vs.getD 18 Value.none:Value),(vs.getD 7 Value.none:Value),(vs.getD 9 Value.none:Value),(vs.getD 10 Value.none:Value) with
    | .ref a,.str _ _,.int _ _,.bool _,.int _ _=>(a == T'&&c != T')&&sameName vs
    | _,_,_,_,_=>false
theorem qhS {K:PySem.W.Frag} {c t:Addr} {d:Option Addr} {vs:Array Value} {sl:Array (Option Value)} (lc:K.lookup c=some ⟨.type "code",d,.fields vs,sl⟩) (h11:vs[11]?=some (.ref t)) (h:tabIn vs c t=true):codeTab K c t=true:=by
  unfold codeTab
  rw [lc]
  simp only [h11]
  unfold tabIn at h
  split at h
  · rename_i a x1 x2 x3 x4 x5 x6 e1 e2 e3 e4 e5
    simp only [e1,e2,e3,e4,e5]
    simpa [and_comm] using h
  · cases h
theorem qz {K:PySem.W.Frag} {h:Heap} {mg:Str→Option Value} (X:K.In h) (G:h.Ns mainGlobals mg) {x:Str} {st:Stmt} {ps:List Str} {f c t:Addr} {oc kV doc pm ct:Value} {od an:Option Addr} {osl:Array (Option Value)} {d2:Option Addr} {vs:Array Value} {sl2:Array (Option Value)}
    (a:PySem.W.nsIn K mainGlobals x=some (some (.ref f))) (l:K.lookup f=some ⟨oc,od,.func (PySem.W.fnOf x x (defArgs st) (defBody st) (defScope st) .none kV doc pm an (.ref c) ct),osl⟩) (cc:PySem.W.codeIn K (.ref c) x=true)
    (lc:K.lookup c=some ⟨.type "code",d2,.fields vs,sl2⟩) (h11:vs[11]?=some (.ref t)) (ht:tabIn vs c t=true) (kp:PySem.W.keepIn K (.ref f)=true)
    (hb:∀ (kV doc pm:Value) (an:Option Addr) (cdv ct:Value) (us:List Value),us.length=ps.length→bindArgs (PySem.W.fnOf x x (defArgs st) (defBody st) (defScope st) .none kV doc pm an cdv ct) ⟨us,[]⟩=pure (ps.zip us)):DefIn K mg x st ps :=
  ⟨f,_,c,t,PySem.W.mg_of X G a,⟨⟨oc,od,kV,doc,pm,an,ct,osl,rfl,l,cc⟩,qhS lc h11 ht,kp⟩,.all (hb kV doc pm an (.ref c) ct)⟩
theorem qbv {K:PySem.W.Frag} {h:Heap} {mg:Str→Option Value} (X:K.In h) (G:h.Ns mainGlobals mg) {x:Str} {i:Int} {t:Tok} {v:Value} (a:PySem.W.nsIn K mainGlobals x=some (some v)) (e:v=.int i t):∃ t:Tok,mg x=some (.int i t):=⟨t,by rw [PySem.W.mg_of X G a,e]⟩
end R
namespace R
open PySem PySem.Spec L2 SeqAt
open PyProof.Rows hiding St
section
variable {X:Cx} {F:Fs} {N:Nat} {pos:Pos}
theorem qaV (i j:Nat) {x y:Str} {a b:Expr} {ca cb:CE} {px py pt:Pos} {kt k2 pt2} (ha:QA X [a,b] (TL (evs F (.cons ca (.cons cb .nil))))) (hc:X.calm=true:=by rfl) (hN:nodupB X.N=true:=by rfl) (hi:X.N[i]?=some x:=by rfl) (hj:X.N[j]?=some y:=by rfl) (hij:i≠j:=by decide) (hx:X.env.scope.names.lookup x=some .local:=by rfl) (hy:X.env.scope.names.lookup y=some .local:=by rfl) (hw:swappedStores [.Tuple [.Name x px,.Name y py] kt pt] (.Tuple [a,b] k2 pt2) X.env=pure (some [x,y]):=by rfl) (hs:swapsWithSole [.Tuple [.Name x px,.Name y py] kt pt] (.Tuple [a,b] k2 pt2) pos.line X.env=pure false:=by rfl) :
    QS X (.Assign [.Tuple [.Name x px,.Name y py] kt pt] (.Tuple [a,b] k2 pt2) pos) (TSm (ex F N (.set (.tup (.cons (.var i) (.cons (.var j) .nil))) (.tup (.cons ca (.cons cb .nil)))))):=by
  delta QS;delta QA at ha
  refine PSimp (qg0 hc (zk hN) hi hj hij hx hy ha hw hs) fun D0 σ H h=>?_
  obtain ⟨ι,S,ρ,er,st,p⟩:=h
  refine ⟨ι,S,ρ,er,st,?_⟩
  have hlen:∀ {l S'},evs F (.cons ca (.cons cb .nil)) ρ S=.ok l S'→l.length=2:=fun z=>zY z
  simp only [ex,ev] at p
  cases z:evs F (.cons ca (.cons cb .nil)) ρ S with
  | no=>rw [z] at p;exact p
  | err=>rw [z] at p;exact p
  | ok l S1 =>
    rw [z] at p
    have hl:=hlen z
    match l,hl with
    | [d1,d2],_ =>
      have hs:([d1,d2]:List D).length≤sizeLine:=by simp [sizeLine]
      simp only [Res.bind,hs,if_true,asg,asgs] at p
      intro vs ι1 H1 s1 st1 dv
      obtain ⟨v,r,rfl,dv1,w,r2,rfl,dv2,rfl⟩:=dv
      exact ⟨v,w,rfl,p ι1 H1 s1 st1 _ (((er.mono s1).set dv1).set dv2)⟩
end
end R
namespace R
open PySem PySem.Spec L2 SeqAt
open PyProof.Rows hiding St
open PySem.W (KasT kas_sort kas_cmp kas_item_eq kat_lt kat_kind KatTups KatLex kat_cons kat_yes kat_no kat_go kat_nil kat_one)
end R
namespace R
open PySem PySem.Spec L2 SeqAt
open PyProof.Rows hiding St
end R
namespace R
open PySem PySem.Spec L2 SeqAt
open PyProof.Rows hiding St
end R
namespace R
open PySem PySem.Spec L2 SeqAt
open PyProof.Rows hiding St
variable {X:Cx}
end R
namespace R
open PySem PySem.Spec L2 SeqAt
open PyProof.Rows hiding St
end R
namespace R
open PySem PySem.Spec L2 SeqAt
open PyProof.Rows hiding St
end R
namespace R
open PySem PySem.Spec L2
open PyProof.Rows hiding St
namespace EX
noncomputable abbrev fr1 (l:List Env):List Addr:=l.filterMap (·.frame)
structure Kpt (S:List Addr) (e:Addr) (T:Option Addr) (h h':Heap):Prop where
  size:h.objs.size≤h'.objs.size
  slot:∀ b o,b≠e→some b≠T→h.get? b=some o→∃ sl,h'.get? b=some { o with slots:=sl }
  keep:∀ b o,b≠e→some b≠T→b ∉ S→h.get? b=some o→h'.get? b=some o
noncomputable def Fl (h:Heap) (e:Addr) (c:Value) (T:Addr):Prop:=∃ oe vs oT ts,h.get? e=some oe∧oe.cls=c∧oe.data=.fields vs∧vs[1]?=some (.ref T)∧T≠e∧h.get? T=some oT∧oT.data=.fields ts∧ts[3]?=some .none
section
variable {M:Model} {A:Around} {E:Value→Shared→Prop} {s:Shared} {base:Heap}
theorem yO {env:Env} {outer:List Env} {L e:Addr} {oe:Obj} {vs:Array Value} {head:Value} {hadNext:Bool} {Q:Unit→Shared→Prop}
    (hfr:A.frames=some (env::outer)) (hl:s.heap.FunFrames base (env::outer)) (hf:env.frame=some L)
    (he:s.heap.get? e=some oe) (hd:oe.data=.fields vs) (hsz:1<vs.size)
    (h:∀ h' T,s.heap.objs.size≤T→Kpt (fr1 (env::outer)) e none s.heap h'→Fl h' e oe.cls T→Q () { s with heap:=h' }) :
    wpAny M A (do let a ← frameOf env;let pl ← entryPlaceOf L hadNext;let b ← EntryCells.newEntry head a .none (rawInt L) .none pl;setField (.ref e) 1 b) (fun _ s'=>wpAny M A (setFlight (.ref e) none) Q E s') E s:=by
  have hene:e ∉ (env::outer).filterMap (·.frame):=fun hm=>by
    obtain ⟨_,o,ho,hnf⟩:=hl.mem hm
    rw [he] at ho;injection ho with ho;subst ho;exact hnf vs hd
  refine wpAny_bind (wpAny_frameOf_fun hfr hl hf fun h₁ hs₁=>?_)
  refine wpAny_bind (wpAny_entryPlaceOf fun pl hpl=>?_)
  unfold EntryCells.newEntry newFields
  refine wpAny_bind (wpAny_newObj_type ?_ (hpl.sizeOk5 _ _ _ _ _))
  have he₁:h₁.get? e=some oe:=(hs₁.2.1 e hene).trans he
  have he₂:=Heap.get?_push_of_some (h:=h₁) { cls:=.type "traceback",dict:=none,data:=.fields ([head,.ref L,.none,rawInt L,.none]++(if pl.isEmpty then List.replicate 6 Value.none else pl)).toArray } he₁
  refine wpAny_setField he₂ hd hsz ?_
  have hTe:h₁.objs.size≠e:=Nat.ne_of_gt (Heap.lt_size he₁)
  have hd₃:=Obj.data_mapFields hd (·.setIfInBounds 1 (Value.ref h₁.objs.size))
  have he₃:=Heap.get?_update_self (Obj.mapFields (·.setIfInBounds 1 (Value.ref h₁.objs.size))) he₂ (Obj.isFreed_of_fields hd₃)
  have hT₃:=(Heap.get?_update_other (h₁.push { cls:=.type "traceback",dict:=none,data:=.fields ([head,.ref L,.none,rawInt L,.none]++(if pl.isEmpty then List.replicate 6 Value.none else pl)).toArray })
    (Obj.mapFields (·.setIfInBounds 1 (Value.ref h₁.objs.size))) (Ne.symm hTe)).trans (Heap.get?_push_size h₁ rfl)
  unfold setFlight
  refine wpAny_bind (wpAny_field he₃ hd₃ (x:=.ref h₁.objs.size) (by simp [hsz]) ?_)
  rw [if_pos (show (Value.ref h₁.objs.size != Value.none)=true from by simp)]
  refine wpAny_setField hT₃ rfl (by simp only [List.size_toArray,List.length_append,List.length_cons,List.length_nil] <;> omega) (h _ h₁.objs.size (Nat.le_of_eq hs₁.1.symm) ⟨?_,fun b o hbe _ hb=>?_,fun b o hbe _ hbS hb=>?_⟩ ?_)
  · rw [Heap.size_update,Heap.size_update,Heap.size_push,hs₁.1];exact Nat.le_succ _
  · obtain ⟨sl,hs⟩:=hs₁.2.2 b o hb
    have hbT:h₁.objs.size≠b:=Nat.ne_of_gt (Heap.lt_size hs)
    exact ⟨sl,by rw [Heap.get?_update_other _ _ hbT,Heap.get?_update_other _ _ (Ne.symm hbe)];exact Heap.get?_push_of_some _ hs⟩
  · have hb1:h₁.get? b=some o:=(hs₁.2.1 b hbS).trans hb
    have hbT:h₁.objs.size≠b:=Nat.ne_of_gt (Heap.lt_size hb1)
    rw [Heap.get?_update_other _ _ hbT,Heap.get?_update_other _ _ (Ne.symm hbe)];exact Heap.get?_push_of_some _ hb1
  · refine ⟨_,_,_,_,?_,Obj.cls_mapFields _ _,hd₃,by simp [hsz],hTe,Heap.get?_update_self _ hT₃ (Obj.isFreed_of_fields (Obj.data_mapFields rfl _)),Obj.data_mapFields rfl _,by first | (simp;done) | (rcases hpl with rfl | ⟨_,_,_,_,_,_,_,rfl⟩ <;> simp)⟩
    rw [Heap.get?_update_other _ _ hTe];exact he₃
theorem leave1 {env:Env} {outer:List Env} {L e:Addr} {oe:Obj} {vs:Array Value} {Q:Unit→Shared→Prop}
    (hfr:A.frames=some (env::outer)) (hl:s.heap.FunFrames base (env::outer)) (hf:env.frame=some L)
    (he:s.heap.get? e=some oe) (hd:oe.data=.fields vs) (h1:vs[1]?=some .none)
    (h:∀ h' T,s.heap.objs.size≤T→Kpt (fr1 (env::outer)) e none s.heap h'→Fl h' e oe.cls T→Q () { s with heap:=h' }):wpAny M A (leaving env (.ref e)) Q E s:=by
  unfold leaving noteFrame
  simp only [hf]
  refine wpAny_bind (wpAny_bind (wpAny_field he hd h1 ?_))
  rw [if_neg (by decide)]
  exact yO hfr hl hf he hd (Array.getElem?_eq_some_iff.mp h1).1 h
theorem leave2 {env:Env} {outer:List Env} {L e T0:Addr} {c:Value} {Q:Unit→Shared→Prop}
    (hfr:A.frames=some (env::outer)) (hl:s.heap.FunFrames base (env::outer)) (hf:env.frame=some L) (ht:Fl s.heap e c T0)
    (h:∀ h' T,s.heap.objs.size≤T→Kpt (fr1 (env::outer)) e (some T0) s.heap h'→Fl h' e c T→Q () { s with heap:=h' }):wpAny M A (leaving env (.ref e)) Q E s:=by
  obtain ⟨oe,vs,oT,ts,he,hcls,hd,h1,hTe,hT,hdT,h3⟩:=ht
  subst hcls
  unfold leaving noteFrame
  simp only [hf]
  refine wpAny_bind (wpAny_bind (wpAny_field he hd h1 ?_))
  rw [if_pos (show (Value.ref T0 != Value.none)=true from by simp)]
  refine wpAny_bind (wpAny_field hT hdT h3 ?_)
  rw [if_neg (show ¬ ((Value.none == rawInt L)=true) from by simp [rawInt])]
  refine wpAny_bind (wpAny_setField hT hdT (Array.getElem?_eq_some_iff.mp h3).1 ?_)
  have other:∀ b,b≠T0→(s.heap.update T0 (Obj.mapFields (·.setIfInBounds 3 Value.none))).get? b=s.heap.get? b:=fun b hb=>Heap.get?_update_other _ _ (Ne.symm hb)
  have noRecord:∀ b o,s.heap.get? b=some o→(∀ vs,o.data≠.fields vs)→b≠T0:=fun b o hb hnf q=>by
    rw [q,hT] at hb;injection hb with hb;subst hb;exact hnf ts hdT
  refine yO hfr (hl.of_keeps fun b o hb hnf=>⟨o,(other b (noRecord b o hb hnf)).trans hb,rfl⟩) hf ((other e (Ne.symm hTe)).trans he) hd (Array.getElem?_eq_some_iff.mp h1).1 fun h' T hs k f=>h h' T ?_ ⟨?_,fun b o hb hbT e=>?_,fun b o hb hbT hbS e=>?_⟩ f
  · rw [Heap.size_update] at hs;exact hs
  · have:=k.size;rw [Heap.size_update] at this;exact this
  · exact k.slot b o hb (by simp) ((other b fun z=>hbT (by rw [z])).trans e)
  · exact k.keep b o hb (by simp) hbS ((other b fun z=>hbT (by rw [z])).trans e)
end
end EX
end R
namespace R
open PySem PySem.Spec L2
open PyProof.Rows hiding St
namespace EX
end EX
end R
namespace R
open PySem PySem.Spec L2
open PyProof.Rows hiding St
namespace EX
theorem qer {P:Program} {w:World} {H:Hp} {h h':Heap} (x:HOk P w H h) (k:∀ b o,H b≠none→h.get? b=some o→h'.get? b=some o):HOk P w H h':=fun a o e =>
  (x a o e).stay (fun b u q z=>k b u (by rcases q with rfl | q <;> simp [*]) z) (fun _ q=>q) fun _ _ q=>q
theorem there {P:Program} {w:World} {H:Hp} {h:Heap} {a:Addr} {o:HO} (x:ObjOk P w H h a o):∃ u,h.get? a=some u:=by
  cases o with
  | lst xs=>obtain ⟨_,_,_,_,e⟩:=x;exact ⟨_,e⟩
  | tup xs=>obtain ⟨_,_,_,p,_⟩:=x;obtain ⟨_,e,_⟩:=p;exact ⟨_,e⟩
  | dK kvs=>obtain ⟨_,_,_,_,o,_,_,e,_⟩:=x;exact ⟨_,e⟩
  | dT kvs=>obtain ⟨_,_,_,_,o,_,_,e,_⟩:=x;exact ⟨_,e⟩
  | set S n=>obtain ⟨o,_,_,_,e,_⟩:=x;exact ⟨_,e⟩
  | ins C dx fs=>obtain ⟨_,_,_,e,_⟩:=x;exact ⟨_,e⟩
  | own y=>obtain ⟨_,e⟩:=x;exact ⟨_,e⟩
  | xd fs=>obtain ⟨_,⟨_,_,_,e,_⟩,_⟩:=x;exact ⟨_,e⟩
  | rng lo hi=>obtain ⟨_,_,_,e⟩:=x;exact ⟨_,e⟩
  | frz ob u=>obtain ⟨e,_⟩:=x;exact ⟨_,e⟩
  | tbl ps=>exact ⟨_,(show h.get? a=some _ from x.1)⟩
  | met f y=>exact ⟨_,(show h.get? a=some _ from x)⟩
  | ext φ=>obtain ⟨_,⟨_,e⟩,_⟩:=x;exact ⟨_,e⟩
theorem gone {P:Program} {w:World} {H:Hp} {h:Heap} {a:Addr} (x:HOk P w H h) (e:h.get? a=none):H a=none:=by
  cases q:H a with
  | none=>rfl
  | some o =>
    obtain ⟨u,z⟩:=there (x a o q)
    rw [e] at z;cases z
noncomputable def CXR (P:Program) (w:World):CXT:=fun outer H s E e s'=>∃ a C T H',e=.ref a∧s'.os=s.os∧GK s.gens s'.gens∧Un (frs outer) [] H H' s.heap s'.heap∧HOk P w H' s'.heap ∧
  Fl s'.heap a (.ref C) T∧s.heap.get? a=none∧s.heap.get? T=none∧H' a=none∧H' T=none∧E (.ref a) (some C) H'
structure IsDef (X:Cx) (E:XK):Prop where
  xe:∀ e s',X.xe e s'=wpAny (model X.prog X.w) X.A (leaving X.env e) (fun _ s''=>CXR X.prog X.w X.outer X.H₀ X.s₀ E e s'') (fun e' s''=>CXR X.prog X.w X.outer X.H₀ X.s₀ E e' s'') s'
  stk:X.stack=X.env::X.outer
  fr:X.env.frame=some X.env.locals
  ex:X.ex=[]
theorem isDef {P:Program} {w:World} {K:PySem.W.Frag} {mg:Str→Option Value} {base:Heap} {N:List Str} {qual:Str} {scope:Scope} {f:Addr} {cd:Value} {A:Around} {outer:List Env} {s:Shared} {H:Hp} {E:XK} :
    IsDef (cxOf (CXR P w) P w K mg base N qual scope f cd A outer s H E) E:=⟨fun _ _=>rfl,rfl,rfl,rfl⟩
section
variable {X:Cx} {E:XK} {pins:List (Addr × Obj)} {σ:St} {H:Hp} {s:Shared}
theorem qaW (D:IsDef X E) (I:Inv X pins σ H s) {a C T:Addr} {S0:Option Addr} {h1 h':Heap} (un:∀ b o,s.heap.get? b=some o→h1.get? b=some o)
    (k:Kpt (fr1 (X.env::X.outer)) a S0 h1 h') (f:Fl h' a (.ref C) T) (na:X.s₀.heap.get? a=none) (nS:∀ b,S0=some b→X.s₀.heap.get? b=none)
    (Ha:H a=none) (HS:∀ b,S0=some b→H b=none) (hT:h1.objs.size≤T) (e:E (.ref a) (some C) H) :
    CXR X.prog X.w X.outer X.H₀ X.s₀ E (.ref a) { s with heap:=h' }:=by
  have ni:∀ b o,X.s₀.heap.get? b=some o→b≠a∧some b≠S0:=fun b o q=>⟨fun z=>by subst z;exact absurd (na.symm.trans q) (by simp),fun z=>absurd ((nS b z.symm).symm.trans q) (by simp)⟩
  have xi:∀ b,b ∉ X.ex:=fun b z=>by rw [D.ex] at z;cases z
  have nf:∀ b o,X.s₀.heap.get? b=some o→b ∉ frs X.outer→b ∉ fr1 (X.env::X.outer):=fun b o q n z=>by
    unfold fr1 at z
    rw [List.filterMap_cons,D.fr] at z
    rcases List.mem_cons.mp z with z | z
    · subst z;exact absurd (Heap.lt_size q) (Nat.not_lt.mpr I.ok.above)
    · exact n z
  have B:=I.base
  have gT:s.heap.get? T=none:=by
    cases q:s.heap.get? T with
    | none=>rfl
    | some o=>exact absurd (Heap.lt_size (un _ _ q)) (Nat.not_lt.mpr hT)
  refine ⟨a,C,T,H,rfl,I.os,I.bare,⟨?_,?_,?_,?_,B.tups,B.frzs,B.tbls⟩,?_,f,na,?_,Ha,gone I.hok gT,e⟩
  · exact fun b o q n nb _=>k.keep b o (ni b o q).1 (ni b o q).2 (nf b o q nb) (un _ _ (B.keep b o q n nb (xi b)))
  · intro b o q n nb _
    obtain ⟨sl,z⟩:=B.slot b o q n nb (xi b)
    obtain ⟨sl',z'⟩:=k.slot b _ (ni b o q).1 (ni b o q).2 (un _ _ z)
    exact ⟨sl',z'⟩
  · exact fun b o q n _=>B.free b o q n (xi b)
  · intro b o q _
    obtain ⟨o',z⟩:=B.there b o q (xi b)
    obtain ⟨sl',z'⟩:=k.slot b _ (ni b o q).1 (ni b o q).2 (un _ _ z)
    exact ⟨_,z'⟩
  · refine qer I.hok fun b o n q=>k.keep b o (fun z=>n (z ▸ Ha)) (fun z=>n (HS b z.symm)) (fun z=>n (I.stkFree b (by rw [D.stk];exact z))) (un _ _ q)
  · cases q:X.s₀.heap.get? T with
    | none=>rfl
    | some o =>
      obtain ⟨o',z⟩:=B.there T o q (xi T)
      rw [gT] at z;cases z
theorem qes (D:IsDef X E) (I:Inv X pins σ H s) {e C:Addr} {args:List Value} {h1:Heap} (hm:Heap.MadeExcOf s.heap h1 e (.ref C) args) (hE:E (.ref e) (some C) H) :
    X.xe (.ref e) { s with heap:=h1 }:=by
  rw [D.xe]
  obtain ⟨t,he,_,_⟩:=hm.there
  have hl:s.heap.FunFrames X.base (X.env::X.outer):=D.stk ▸ I.stack
  have hl1:h1.FunFrames X.base (X.env::X.outer):=hl.of_keeps fun b o hb _=>⟨o,hm.keeps b o hb,rfl⟩
  have na:X.s₀.heap.get? e=none:=by
    cases q:X.s₀.heap.get? e with
    | none=>rfl
    | some o =>
      obtain ⟨o',z⟩:=I.base.there e o q (by rw [D.ex];simp)
      rw [hm.new] at z;cases z
  have Ha:H e=none:=gone I.hok hm.new
  exact leave1 (s:={ s with heap:=h1 }) (by rw [I.ok.frames,D.stk]) hl1 D.fr he rfl (by simp) fun h' T hT k f =>
    qaW D I hm.keeps k f na (fun _ z=>by cases z) Ha (fun _ z=>by cases z) hT hE
theorem passR (D:IsDef X E) {E1:XK} (hE:∀ a C H',E1 a C H'→E a C H'):Passes (CXR X.prog X.w) X E1:=by
  intro pins σ H s e s' I hq
  obtain ⟨a,C,T0,H',rfl,os,gk,un,hok,fl,na,nT,Ha,HT,q⟩:=hq
  obtain ⟨hh,g,d,t,os'⟩:=s'
  obtain rfl:os'=s.os:=os
  have I':=I.call (h':=hh) (g':=g) (d':=d) (t':=t) (ch:=[]) un hok gk (fun b z=>absurd z (by simp))
  rw [D.xe]
  have up:∀ b,s.heap.get? b=none→X.s₀.heap.get? b=none:=fun b n=>by
    cases q:X.s₀.heap.get? b with
    | none=>rfl
    | some o =>
      obtain ⟨o',z⟩:=I.base.there b o q (by rw [D.ex];simp)
      rw [n] at z;cases z
  exact leave2 (by rw [I.ok.frames,D.stk]) (D.stk ▸ I'.stack) D.fr fl fun h' T hT k f =>
    qaW D I' (fun _ _ z=>z) k f (up _ na) (fun b z=>by cases z;exact up _ nT) Ha (fun b z=>by cases z;exact HT) hT (hE _ _ _ q)
end
end EX
end R
namespace R
open PySem PySem.Spec L2
open PyProof.Rows hiding St
namespace EX
section
variable {X:Cx} {E:XK} {x:Str} {C:Addr} {e:Expr} {es:List Expr} {t:TA} {p cpos pos:Pos} {B Bn newId nid initId inN:String} {bm bmN:List Value}
noncomputable def tRaise (E:XK) (C:Addr) (t:TA):TS:=fun _ σ H=>t σ H fun vs H1=>vs.length≤sizeLine∧∀ a,H1 a=none→E (.ref a) (some C) H1
theorem qet (D:IsDef X E) (hc:X.calm=true) (hg:Gl X x) (O:OwnCls x C bm newId X.mg X.base) (Fn:ExcBaseFacts Bn newId inN bmN) (hBn:bm.contains (.type Bn)=true) (FB:ExcBaseFacts B nid initId bm)
    (ha:PA X (e::es) t) (hdb:(x == ("__debug__":Str))=false:=by decide) (he:starEach (e::es) X.env=(false,eval e X.env)::starEach es X.env:=by rfl) (hpl:(backTo cpos (starEach es X.env)).any (·.1)=false:=by rfl) :
    PS X (.Raise (some (.Call (.Name x p) (e::es) [] cpos)) none pos) (tRaise E C t):=by
  intro pins s σ H Q I h
  have O':OwnCls x C bm newId X.mg s.heap:=O.keeps fun b o q=>(I.bs b o q).1
  obtain ⟨tl,N,nm,q,bs,hdct,sn,sub,ab,col,dd,k0,k1,k2,k3,k5,mN,hC,hN,hni,T⟩:=O.obj
  refine wpAny_Raise_call_subU (C:=C) (nm:=nm) (q:=q) (N:=N) (bs:=bs) (bm:=tl) (hdct:=hdct) (sn:=sn) (sub:=sub) (ab:=ab) (col:=col) (dd:=dd) (k0:=k0) (k1:=k1) (k2:=k2) (k3:=k3) (k5:=k5)
    Fn hBn FB (mN:=mN) (T.hasType FB.hasBase) (I.ok.hd hc) (by rw [he];show (false || (backTo cpos (starEach es X.env)).any (·.1))=false;rw [hpl];rfl) hni (yt I hg O.bound ⟨rfl,?_⟩ hdb)
  have h':=ha cpos pins s σ H _ I h
  rw [he] at h' ⊢
  refine Calls.evalArgs_plain (wpAny_mono h' (fun us s1 h1=>?_) fun _ _ y=>y)
  obtain ⟨vs,H1,I1,r,hl,hE⟩:=h1
  have kp:∀ b o,X.base.get? b=some o→s1.heap.get? b=some o:=fun b o q=>(I1.bs b o q).1
  exact ⟨rfl,by have:=r.length;simp only [← this] at *;exact hl,kp _ _ hC,hN.keeps kp,T.keeps kp,fun h2 a hm=>qes D I1 hm (hE a (gone I1.hok hm.new))⟩
end
end EX
end R
namespace R
open PySem PySem.Spec L2
open PyProof.Rows hiding St
namespace EX
section
variable {M:Model} {A:Around} {E:Value→Shared→Prop} {s:Shared} {base:Heap}
theorem note2 {env:Env} {outer:List Env} {L e T0:Addr} {c:Value} {Q:Unit→Shared→Prop}
    (hfr:A.frames=some (env::outer)) (hl:s.heap.FunFrames base (env::outer)) (hf:env.frame=some L) (ht:Fl s.heap e c T0)
    (h:∀ h' T,s.heap.objs.size≤T→Kpt (fr1 (env::outer)) e (some T0) s.heap h'→Fl h' e c T→Q () { s with heap:=h' }) :
    wpAny M A (noteFrame (.ref e) env) (fun _ s'=>wpAny M A (setFlight (.ref e) none) Q E s') E s:=by
  obtain ⟨oe,vs,oT,ts,he,hcls,hd,h1,hTe,hT,hdT,h3⟩:=ht
  subst hcls
  unfold noteFrame
  simp only [hf]
  refine wpAny_bind (wpAny_field he hd h1 ?_)
  rw [if_pos (show (Value.ref T0 != Value.none)=true from by simp)]
  refine wpAny_bind (wpAny_field hT hdT h3 ?_)
  rw [if_neg (show ¬ ((Value.none == rawInt L)=true) from by simp [rawInt])]
  refine wpAny_bind (wpAny_setField hT hdT (Array.getElem?_eq_some_iff.mp h3).1 ?_)
  have other:∀ b,b≠T0→(s.heap.update T0 (Obj.mapFields (·.setIfInBounds 3 Value.none))).get? b=s.heap.get? b:=fun b hb=>Heap.get?_update_other _ _ (Ne.symm hb)
  have noRecord:∀ b o,s.heap.get? b=some o→(∀ vs,o.data≠.fields vs)→b≠T0:=fun b o hb hnf q=>by
    rw [q,hT] at hb;injection hb with hb;subst hb;exact hnf ts hdT
  refine yO hfr (hl.of_keeps fun b o hb hnf=>⟨o,(other b (noRecord b o hb hnf)).trans hb,rfl⟩) hf ((other e (Ne.symm hTe)).trans he) hd (Array.getElem?_eq_some_iff.mp h1).1 fun h' T hs k f=>h h' T ?_ ⟨?_,fun b o hb hbT e=>?_,fun b o hb hbT hbS e=>?_⟩ f
  · rw [Heap.size_update] at hs;exact hs
  · have:=k.size;rw [Heap.size_update] at this;exact this
  · exact k.slot b o hb (by simp) ((other b fun z=>hbT (by rw [z])).trans e)
  · exact k.keep b o hb (by simp) hbS ((other b fun z=>hbT (by rw [z])).trans e)
end
end EX
end R
namespace R
open PySem PySem.Calls PySem.Spec
open PyProof.Rows hiding St
namespace EX
section
variable {M:Model} {A:Around} {E:Value→Shared→Prop}
variable {nm q nm' q':Str} {C N C' N':Addr} {bs bm bs' bm':List Value} {hdct hdct':Bool} {sn sn':List Str} {sub sub':List Value} {ab ab':Bool} {col col':Option Bool} {dd dd':Option Addr} {k0 k1 k2 k3 k5 k0' k1' k2' k3' k5':Option Value} {newId newId':String}
theorem qaX {b:Bool} {h:Heap} {g:Array GenState} {d:Drawn} {t:Nat} {os:OsState} {e:Addr} {oe:Obj} {Q:Bool→Shared→Prop}
    (hC:h.get? C=some (excClassObj nm q C N bs bm hdct sn sub ab col dd k0 k1 k2 k3 k5 newId)) (hC':h.get? C'=some (excClassObj nm' q' C' N' bs' bm' hdct' sn' sub' ab' col' dd' k0' k1' k2' k3' k5' newId'))
    (he:h.get? e=some oe) (hcls:oe.cls=.ref C) (hbase:bm'.contains (.type "BaseException")=true) (hb:(Value.ref C::bm).contains (.ref C')=b)
    (hq:Q b ⟨h,g,d,t,os⟩):wpAny M A (excMatches (.ref e) (.ref C')) Q E ⟨h,g,d,t,os⟩:=by
  have hcB:(Value.ref C'::bm').contains (.type "BaseException")=true:=by rw [List.contains_cons,hbase,Bool.or_true]
  have f:=tc_notTuple
  unfold excMatches
  cases b <;> (repeat (first | (with_reducible refine wpAny_loadPart_at he ?_;rw [hcls]) | with_reducible refine wpAny_loadPart_at hC' ?_ | (with_reducible refine wpAny_isSubtype_exc hC' ?_;rw [hcB]) | (with_reducible refine wpAny_isSubtype_exc hC ?_;rw [hb]) | wp_step)) <;> exact hq
end
end EX
end R
namespace R
open PySem PySem.Calls PySem.Spec
open PyProof.Rows hiding St
namespace EX
noncomputable def IsExc (h:Heap) (C:Addr) (bm:List Value):Prop:=bm.contains (.type "BaseException")=true ∧
  ∃ N nm q bs hdct sn sub ab col dd k0 k1 k2 k3 k5 newId,h.get? C=some (excClassObj nm q C N bs bm hdct sn sub ab col dd k0 k1 k2 k3 k5 newId)
theorem IsExc.keeps {h h':Heap} {C:Addr} {bm:List Value} (x:IsExc h C bm) (k:∀ b o,h.get? b=some o→h'.get? b=some o):IsExc h' C bm:=by
  obtain ⟨a,N,nm,q,bs,hdct,sn,sub,ab,col,dd,k0,k1,k2,k3,k5,ni,e⟩:=x
  exact ⟨a,N,nm,q,bs,hdct,sn,sub,ab,col,dd,k0,k1,k2,k3,k5,ni,k _ _ e⟩
section
variable {prog:Program} {w:World} {A:Around} {E:Value→Shared→Prop} {s:Shared} {env:Env}
theorem qag {e C C':Addr} {bm bm':List Value} {b:Bool} {t:Expr} {n:Str} {b₀:Stmt} {suite:List Stmt} {pos:Pos} {rest:List ExceptHandler} {Q:Flow→Shared→Prop}
    (hb:(Value.ref C::bm).contains (.ref C')=b)
    (h:wpAny (model prog w) (A.mark (some (.ref e))) (eval t env) (fun c s₁=>c=.ref C'∧IsExc s₁.heap C bm∧IsExc s₁.heap C' bm'∧(∃ oe,s₁.heap.get? e=some oe∧oe.cls=.ref C) ∧
      if b then wpAny (model prog w) (A.mark (some (.ref e))) (setFlight (.ref e) none) (fun _ s₂ =>
          wpAny (model prog w) (A.mark (some (.ref e))) (storeName env n (.ref e)) (fun _ s₃ =>
            wpAny (model prog w) (A.mark (some (.ref e))) (execs (b₀::suite) env)
              (fun f s₄=>wpAny (model prog w) A (do bindName env n .none;unbindBehindTheSuite env n pos) (fun _ s₅=>Q f s₅) E s₄)
              (AsSuiteRaised (model prog w) (A.mark (some (.ref e))) env n pos (notedBy (model prog w) (A.mark (some (.ref e))) env (cameBackBy (model prog w) A env E))) s₃) (notedBy (model prog w) (A.mark (some (.ref e))) env (cameBackBy (model prog w) A env E)) s₂) (notedBy (model prog w) (A.mark (some (.ref e))) env (cameBackBy (model prog w) A env E)) s₁
      else wpAny (model prog w) A (handleBy (.ref e) env rest) Q E s₁) (notedBy (model prog w) (A.mark (some (.ref e))) env (cameBackBy (model prog w) A env E)) s) :
    wpAny (model prog w) A (handleBy (.ref e) env (.ExceptHandler (some t) (some n) (b₀::suite) pos::rest)) Q E s:=by
  refine wpAny_handleBy_cons (codeAny_handlers_test (wpAny_mono h (fun c s₁ h₁=>?_) fun _ _ y=>y)) (by intro q;cases q)
  obtain ⟨rfl,⟨_,N,nm,q,bs,hdct,sn,sub,ab,col,dd,k0,k1,k2,k3,k5,ni,hC⟩,⟨hbase,N',nm',q',bs',hdct',sn',sub',ab',col',dd',k0',k1',k2',k3',k5',ni',hC'⟩,⟨oe,he,hcls⟩,hk⟩:=h₁
  obtain ⟨hh,g,d,tk,os⟩:=s₁
  refine qaX hC hC' he hcls hbase hb ?_
  cases b with
  | true=>exact codeAny_handlers_suite_as hk
  | false=>exact hk
end
end EX
end R
namespace R
open PySem PySem.Spec L2
open PyProof.Rows hiding St
namespace EX
section
variable {X:Cx} {pins:List (Addr × Obj)} {σ:St} {H0 H:Hp} {s0 s:Shared}
theorem qcc (hs:X.stack=X.env::X.outer) (hx:X.ex=[]) (hf:X.env.frame=some X.env.locals) (I0:Inv X pins σ H0 s0) (I:Inv X pins σ H s) {a T0:Addr} {c:Value} {h':Heap} (fl:Fl s.heap a c T0)
    (na:s0.heap.get? a=none) (nT:s0.heap.get? T0=none) (Ha:H a=none) (HT:H T0=none) (k:Kpt (fr1 (X.env::X.outer)) a (some T0) s.heap h') :
    Inv X pins σ H { s with heap:=h' }:=by
  obtain ⟨oe,vs,oT,ts,he,_,hd,_,_,hT,hdT,_⟩:=fl
  have dat:∀ b o,s.heap.get? b=some o→(∀ vs,o.data≠.fields vs)→∃ sl,h'.get? b=some { o with slots:=sl }:=fun b o q n =>
    k.slot b o (fun z=>by subst z;rw [he] at q;cases q;exact n _ hd) (fun z=>by cases z;rw [hT] at q;cases q;exact n _ hdT) q
  have cel:∀ b v,s.heap.IsCell b v→h'.IsCell b v:=fun b v ⟨o,q,e⟩=>by
    obtain ⟨sl,z⟩:=dat b o q (fun vs z=>by rw [e] at z;cases z)
    exact ⟨_,z,e⟩
  have up:∀ b o,X.s₀.heap.get? b=some o→b≠a∧some b≠some T0:=fun b o q=>by
    obtain ⟨o',z⟩:=I0.base.there b o q (by rw [hx];simp)
    exact ⟨fun y=>(by subst y;rw [na] at z;cases z),fun y=>(by cases y;rw [nT] at z;cases z)⟩
  have nf:∀ b o,X.s₀.heap.get? b=some o→b ∉ frs X.outer→b ∉ fr1 (X.env::X.outer):=fun b o q n z=>by
    unfold fr1 at z
    rw [List.filterMap_cons,hf] at z
    rcases List.mem_cons.mp z with z | z
    · subst z;exact absurd (Heap.lt_size q) (Nat.not_lt.mpr I.ok.above)
    · exact n z
  have xi:∀ b,b ∉ X.ex:=fun b z=>by rw [hx] at z;cases z
  have B:=I.base
  refine ⟨I.ok,I.os,I.bare,⟨?_,?_,?_,?_,B.tups,B.frzs,B.tbls⟩,?_,?_,I.free,I.freeC,?_,?_,I.len⟩
  · exact fun b o q n nb nx=>k.keep b o (up b o q).1 (up b o q).2 (nf b o q nb) (B.keep b o q n nb nx)
  · intro b o q n nb nx
    obtain ⟨sl,z⟩:=B.slot b o q n nb nx
    obtain ⟨sl',z'⟩:=k.slot b _ (up b o q).1 (up b o q).2 z
    exact ⟨sl',z'⟩
  · exact B.free
  · intro b o q nx
    obtain ⟨o',z⟩:=B.there b o q nx
    obtain ⟨sl',z'⟩:=k.slot b _ (up b o q).1 (up b o q).2 z
    exact ⟨_,z'⟩
  · obtain ⟨m,⟨o,es,ep,q,hdd,r1,r2⟩,lk⟩:=I.loc
    obtain ⟨sl,z⟩:=dat _ o q (fun vs z=>by rw [hdd] at z;cases z)
    refine ⟨m,⟨_,es,ep,z,hdd,r1,r2⟩,fun i x v a1 a2 a3=>?_⟩
    obtain ⟨u,rv,lo⟩:=lk i x v a1 a2 a3
    refine ⟨u,rv,?_⟩
    rcases lo with y | ⟨y,cc,y1,y2⟩
    · exact .inl y
    · exact .inr ⟨y,cc,y1,cel _ _ y2⟩
  · intro x cc q
    obtain ⟨v,z⟩:=I.cell x cc q
    exact ⟨v,cel _ _ z⟩
  · intro p hp
    obtain ⟨q0,_⟩:=I0.pin p hp
    obtain ⟨q,n1,n2,n3,n4⟩:=I.pin p hp
    refine ⟨k.keep _ _ (fun y=>?_) (fun y=>?_) (fun z=>?_) q,n1,n2,n3,n4⟩
    · rw [y,na] at q0;cases q0
    · rw [Option.some.inj y,nT] at q0;cases q0
    · unfold fr1 at z
      rw [List.filterMap_cons,hf] at z
      rcases List.mem_cons.mp z with z | z
      · exact n2 z
      · exact n3 z
  · exact qer I.hok fun b o n q=>k.keep b o (fun z=>n (z ▸ Ha)) (fun z=>n (by cases z;exact HT)) (fun z=>n (I.stkFree b (by rw [hs];exact z))) q
theorem caught (hs:X.stack=X.env::X.outer) (hx:X.ex=[]) (hf:X.env.frame=some X.env.locals) {E1:XK} {e:Value} {s':Shared} {Q:Unit→Shared→Prop} {E:Value→Shared→Prop}
    (I:Inv X pins σ H s) (hq:CXR X.prog X.w X.stack H s E1 e s')
    (h:∀ a C T H' s'',e=.ref a→Inv X pins σ H' s''→Fl s''.heap a (.ref C) T→H' a=none→H' T=none→s.heap.get? a=none→s.heap.get? T=none→E1 (.ref a) (some C) H'→Q () s'') :
    wpAny (model X.prog X.w) X.A (noteFrame e X.env) (fun _ s2=>wpAny (model X.prog X.w) X.A (setFlight e none) Q E s2) E s':=by
  obtain ⟨a,C,T0,H',rfl,os,gk,un,hok,fl,na,nT,Ha,HT,q⟩:=hq
  obtain ⟨hh,g,d,t,os'⟩:=s'
  obtain rfl:os'=s.os:=os
  have I':=I.call (h':=hh) (g':=g) (d':=d) (t':=t) (ch:=[]) un hok gk (fun b z=>absurd z (by simp))
  refine note2 (by rw [I.ok.frames,hs]) (hs ▸ I'.stack) hf fl fun h' T hT k f=>?_
  have I2:=qcc hs hx hf I I' fl na nT Ha HT k
  have gT:∀ x:Heap,(∀ b o,x.get? b=some o→∃ o',hh.get? b=some o')→x.get? T=none:=fun x up=>by
    cases y:x.get? T with
    | none=>rfl
    | some o =>
      obtain ⟨o',z⟩:=up _ _ y
      exact absurd (Heap.lt_size z) (Nat.not_lt.mpr hT)
  exact h a C T H' _ rfl I2 f Ha (gone I'.hok (gT _ fun b o y=>⟨o,y⟩)) na (gT _ fun b o y=>un.there b o y (by simp)) q
end
end EX
end R
namespace R
open PySem PySem.Spec L2
open PyProof.Rows hiding St
namespace EX
section
variable {X:Cx} {pins:List (Addr × Obj)} {σ:St} {H:Hp} {s:Shared}
theorem goes {M:Model} {A:Around} {E:Value→Shared→Prop} {Q:Unit→Shared→Prop} {n:Str} {i:Nat} {pos:Pos} (I:Inv X pins σ H s) (hN:X.N.Nodup) (hi:X.N[i]?=some n) (hk:X.env.kindOf n=some .local)
    (h:∀ s',Inv X pins (σ.set i none) H s'→Heap.SameBut X.env.locals s.heap s'.heap→Q () s'):wpAny M A (do bindName X.env n .none;unbindBehindTheSuite X.env n pos) Q E s:=by
  obtain ⟨m,hn,hl⟩:=id I.loc
  have hcls:(X.env.scope.kind == .class || (X.env.scope.kind == .module&&X.env.locals != X.env.globals))=false:=by rw [I.ok.kind];rfl
  have hiσ:i<σ.length:=by rw [I.len];exact (List.getElem?_eq_some_iff.mp hi).1
  have cne:=I.cne
  have tracked:∀ {a:Addr} {h':Heap},(∃ o,s.heap.get? a=some o∧H a=none)→Heap.SameBut a s.heap h'→HOk X.prog X.w H h':=fun {a h'} ha hs b ob e=>by
    obtain ⟨_,_,hfree⟩:=ha
    refine (I.hok b ob e).stay (fun c w' hc q=>(hs.2 c ?_).trans q) (fun _ q=>q) fun _ _ q=>q
    rintro rfl
    rcases hc with rfl | hc
    · rw [hfree] at e;cases e
    · rw [hfree] at hc;cases hc
  refine wpAny_nameGoes_keeps hk hn hcls fun h' v hn' hs=>?_
  obtain ⟨oL,_,_,hoL,_⟩:=id hn
  refine h _ ⟨I.ok,I.os,I.bare,⟨fun b o e n hb hx=>?_,fun b o e n hb hx=>?_,I.base.free,fun b o e hx=>?_,I.base.tups,I.base.frzs,I.base.tbls⟩,⟨_,hn',fun j y v' e1 e2 e3=>?_⟩,fun y c e=>?_,I.free,I.freeC,fun p hp=>?_,tracked ⟨oL,hoL,I.free⟩ hs,by simpa using I.len⟩ hs
  · exact (hs.2 b (Nat.ne_of_lt (Nat.lt_of_lt_of_le (Heap.lt_size e) I.ok.above))).trans (I.base.keep b o e n hb hx)
  · obtain ⟨sl,e1⟩:=I.base.slot b o e n hb hx
    exact ⟨sl,(hs.2 b (Nat.ne_of_lt (Nat.lt_of_lt_of_le (Heap.lt_size e) I.ok.above))).trans e1⟩
  · obtain ⟨o',e1⟩:=I.base.there b o e hx
    exact ⟨o',(hs.2 b (Nat.ne_of_lt (Nat.lt_of_lt_of_le (Heap.lt_size e) I.ok.above))).trans e1⟩
  · by_cases hj:j=i
    · subst hj
      rw [List.getElem?_set_self hiσ] at e2
      cases e2
    · rw [List.getElem?_set_ne (Ne.symm hj)] at e2
      obtain ⟨u',r',q⟩:=hl j y v' e1 e2 e3
      refine ⟨u',r',?_⟩
      rcases q with ⟨k,e⟩ | ⟨k,c,e,z⟩
      · refine .inl ⟨k,?_⟩
        have:y≠n:=fun e=>hj (y7 hN e1 (e ▸ hi))
        simp [this,e]
      · exact .inr ⟨k,c,e,z.sameBut hs (cne y c e)⟩
  · obtain ⟨w',z⟩:=I.cell y c e
    exact ⟨w',z.sameBut hs (cne y c e)⟩
  · obtain ⟨e,n,ne,nf,d⟩:=I.pin p hp
    exact ⟨(hs.2 p.1 ne).trans e,n,ne,nf,d⟩
end
end EX
end R
namespace R
open PySem PySem.Spec L2
open PyProof.Rows hiding St
namespace EX
noncomputable def XP (X:Cx) (pins:List (Addr × Obj)) (E:St→XK) (e:Value) (s':Shared):Prop:=∃ σ H s,Inv X pins σ H s∧CXR X.prog X.w X.stack H s (E σ) e s'
noncomputable abbrev TX:=Ends→(St→XK)→St→Hp→Prop
noncomputable def PX (X:Cx) (st:Stmt) (t:TX):Prop :=
  ∀ (pins:List (Addr × Obj)) (s:Shared) (σ:St) (H:Hp) (D:Ends) (E:St→XK),Inv X pins σ H s→t D E σ H→wpAny (model X.prog X.w) X.A (exec st X.env) (SP X pins D) (XP X pins E) s
noncomputable def PXs (X:Cx) (st:List Stmt) (t:TX):Prop :=
  ∀ (pins:List (Addr × Obj)) (s:Shared) (σ:St) (H:Hp) (D:Ends) (E:St→XK),Inv X pins σ H s→t D E σ H→wpAny (model X.prog X.w) X.A (execs st X.env) (SP X pins D) (XP X pins E) s
section
variable {X:Cx} {k:Nat} {f:Addr} {fd:FuncData} {ps:List Str} {sp:Sp} {dvs:List V} {ds:List Value} {x:Str} {p pos pos':Pos} {e:Expr} {es:List Expr} {t:TA}
theorem qi5 {pins:List (Addr × Obj)} {σ:St} {H:Hp} {s:Shared} {Q:VK} {E:XK} {us:List Value} {vs:List V} (F:FnOk X.prog X.w X.K X.mg X.base (CXR X.prog X.w) k f fd ps sp) (hr:Room k X.A) (hb:Binds X.K fd ps ds) (hd:Vals dvs ds)
    (I:Inv X pins σ H s) (r:Vals vs us) (h:sp (vs++dvs) H Q E):wpAny (model X.prog X.w) X.A (call (.ref f) us) (EP X pins σ Q) (fun e s'=>CXR X.prog X.w X.stack H s E e s') s:=by
  have r2:Vals (vs++dvs) (us++ds):=r.append hd
  have hl:(us++ds).length=ps.length:=by rw [← r2.length];exact F.len _ _ _ _ h
  refine wpAny_call (codeAny_mono (F.run X.A X.stack s H ⟨us,[]⟩ (us++ds) (vs++dvs) Q E hr I.env0 (hb s us I.kIn hl) r2 h) fun r s' hq=>?_)
  cases r with
  | error e=>exact hq
  | ok fl =>
    cases fl with
    | ret u=>exact I.after hq
    | next=>exact False.elim hq
    | brk=>exact False.elim hq
    | cont=>exact False.elim hq
noncomputable def tCallX (sp:Sp) (dvs:List V) (t:TA):TX:=fun D E σ H=>t σ H fun vs H1=>sp (vs++dvs) H1 (fun _ H2=>D.nx σ H2) (E σ)
theorem qf5 (F:FnOk X.prog X.w X.K X.mg X.base (CXR X.prog X.w) k f fd ps sp) (hr:Room k X.A) (hg:Gl X x) (hm:X.mg x=some (.ref f)) (hk:PySem.W.keepIn X.K (.ref f)=true) (hb:Binds X.K fd ps ds) (hd:Vals dvs ds)
    (ha:PA X.nox (e::es) t) (hdb:(x == ("__debug__":Str))=false:=by decide) (he:starEach (e::es) X.env=(false,eval e X.env)::starEach es X.env:=by rfl) (hpl:(backTo pos (starEach es X.env)).any (·.1)=false:=by rfl)
    (hs:swapsWith (.Call (.Name x p) (e::es) [] pos) none pos'.line X.env=pure false:=by rfl) :
    PX X (.Expr (.Call (.Name x p) (e::es) [] pos) pos') (tCallX sp dvs t):=by
  intro pins s σ H D E I h
  refine wpAny_Expr_any (Q:=SP X pins D) ?_ I.quiet hs
  refine wpAny_mono (Q:=EP X pins σ (fun _ H2=>D.nx σ H2)) ?_ (fun v s1 ⟨x,H1,I1,r1,q1⟩=>⟨σ,H1,I1,q1⟩) (fun _ _ z=>z)
  refine wpAny_Call_Name_kw (yt I hg hm ?_ hdb)
  refine PySem.W.callWith_K (h₀:=X.base) I.ok.mod.kin hk (wpAny_mono (ha pos pins s σ H _ (I.wish _) h) (fun us s1 ⟨vs,H1,I1,r,q⟩=>⟨I1.unwish.kIn,?_⟩) fun _ _ z=>False.elim z) he hpl
  exact wpAny_mono (qi5 F hr hb hd I1.unwish r q) (fun _ _ z=>z) fun e s' z=>⟨σ,H1,s1,I1.unwish,z⟩
theorem qf6 {st:Stmt} {t:TX} (h:PX X st t):PXs X [st] t:=by
  intro pins s σ H D E I hw
  refine wpAny_execs_cons (wpAny_mono (h pins s σ H D E I hw) (fun f s' q=>?_) fun _ _ z=>z)
  cases f with
  | next=>exact wpAny_execs_nil q
  | brk=>exact q
  | cont=>exact q
  | ret u=>exact q
end
end EX
end R
namespace R
open PySem PySem.Spec L2
open PyProof.Rows hiding St
namespace EX
section
variable {X:Cx} {pins:List (Addr × Obj)} {σ:St} {H H0:Hp} {s s0:Shared}
theorem track (I0:Inv X pins σ H0 s0) (hx:X.ex=[]) (I:Inv X pins σ H s) {a C T:Addr} (fl:Fl s.heap a (.ref C) T) (na:s0.heap.get? a=none) (Ha:H a=none):Inv X pins σ (upd H a (.ext (Errs a C))) s:=by
  obtain ⟨oe,vs,oT,ts,he,hcls,hd,_⟩:=fl
  have nd:∀ b o,s.heap.get? b=some o→(∀ vs,o.data≠.fields vs)→b≠a:=fun b o q n z=>by subst z;rw [he] at q;cases q;exact n _ hd
  have up:∀ b,b≠a→upd H a (.ext (Errs a C)) b=H b:=fun b n=>by simp [upd,n]
  have ni:∀ b o,X.s₀.heap.get? b=some o→b≠a:=fun b o q z=>by
    subst z
    obtain ⟨o',y⟩:=I0.base.there b o q (by rw [hx];simp)
    rw [na] at y;cases y
  have B:=I.base
  have old:∀ b o,H b=some o→upd H a (.ext (Errs a C)) b=some o:=fun b o q=>by rw [up b fun z=>by subst z;rw [Ha] at q;cases q];exact q
  refine ⟨I.ok,I.os,I.bare,⟨B.keep,B.slot,?_,B.there,?_,?_,?_⟩,I.loc,I.cell,?_,?_,?_,?_,I.len⟩
  · exact fun b o q n nx=>by rw [up b (ni b o q)];exact B.free b o q n nx
  · exact fun b xs q=>old _ _ (B.tups b xs q)
  · exact fun b o u q=>old _ _ (B.frzs b o u q)
  · exact fun b ps q=>let ⟨m,z⟩:=B.tbls b ps q;⟨m,old _ _ z⟩
  · obtain ⟨m,⟨o,es,ep,q,hdd,_⟩,_⟩:=I.loc
    rw [up _ (nd _ o q fun vs z=>by rw [hdd] at z;cases z)];exact I.free
  · intro x c q
    obtain ⟨v,o,z,e⟩:=I.cell x c q
    rw [up _ (nd _ o z fun vs y=>by rw [e] at y;cases y)];exact I.freeC x c q
  · intro p hp
    obtain ⟨q0,_⟩:=I0.pin p hp
    obtain ⟨q,n1,n2,n3,n4⟩:=I.pin p hp
    exact ⟨q,by rw [up _ fun z=>by rw [z,na] at q0;cases q0];exact n1,n2,n3,n4⟩
  · intro b o q
    by_cases hb:b=a
    · subst hb
      have:o=.ext (Errs b C):=by simp [upd] at q;exact q.symm
      subst this
      exact ⟨⟨oe,vs,he,hcls,hd⟩,⟨oe,he⟩,fun h1 h2 ⟨o,vs,e,r⟩ k=>⟨o,vs,k _ e,r⟩⟩
    · rw [up b hb] at q
      exact (I.hok b o q).stay (fun _ _ _ z=>z) (fun c z=>old _ _ z) fun c xs z=>old _ _ z
theorem landed {M:Model} {A:Around} {E:Value→Shared→Prop} {Q:Unit→Shared→Prop} (hs:X.stack=X.env::X.outer) (hx:X.ex=[]) (hf:X.env.frame=some X.env.locals) (I0:Inv X pins σ H0 s0) (I:Inv X pins σ H s) {a C T:Addr} (fl:Fl s.heap a (.ref C) T)
    (na:s0.heap.get? a=none) (nT:s0.heap.get? T=none) (Ha:H a=none) (HT:H T=none) (h:∀ s',Inv X pins σ H s'→Fl s'.heap a (.ref C) T→Q () s'):wpAny M A (setFlight (.ref a) none) Q E s:=by
  obtain ⟨oe,vs,oT,ts,he,hcls,hd,h1,hTe,hT,hdT,h3⟩:=id fl
  unfold setFlight
  refine wpAny_bind (wpAny_field he hd h1 ?_)
  rw [if_pos (show (Value.ref T != Value.none)=true from by simp)]
  have hlt:=(Array.getElem?_eq_some_iff.mp h3).1
  refine wpAny_setField hT hdT hlt ?_
  have other:∀ b,b≠T→(s.heap.update T (Obj.mapFields (·.setIfInBounds 3 Value.none))).get? b=s.heap.get? b:=fun b hb=>Heap.get?_update_other _ _ (Ne.symm hb)
  have hT':=Heap.get?_update_self (Obj.mapFields (·.setIfInBounds 3 Value.none)) hT (Obj.isFreed_of_fields (Obj.data_mapFields hdT _))
  refine h _ (qcc hs hx hf I0 I fl na nT Ha HT ⟨?_,fun b o nb nT' q=>⟨o.slots,?_⟩,fun b o nb nT' _ q=>?_⟩) ?_
  · exact Nat.le_of_eq (Heap.size_update ..).symm
  · exact (other b fun z=>nT' (by rw [z])).trans q
  · exact (other b fun z=>nT' (by rw [z])).trans q
  · exact ⟨oe,vs,_,_,(other a (Ne.symm hTe)).trans he,hcls,hd,h1,hTe,hT',Obj.data_mapFields hdT _,by simp [hlt]⟩
end
end EX
end R
namespace R
open PySem PySem.Spec L2
open PyProof.Rows hiding St
namespace EX
noncomputable abbrev inS (X:Cx) (A':Around) (xe':Value→Shared→Prop):Cx:={ X with A:=A',calm:=false,xe:=xe' }
section
variable {X:Cx} {pins:List (Addr × Obj)} {σ:St} {H:Hp} {s:Shared} {A':Around} {xe':Value→Shared→Prop}
theorem okS (ok:X.Ok) (hA:A'.frames=X.A.frames):(inS X A' xe').Ok :=
  ⟨ok.mod,ok.kind,ok.glob,ok.blt,ok.above,ok.inj,ok.has,ok.cab,nofun,hA.trans ok.frames,ok.stk,ok.exf,ok.bs,ok.bsz,ok.noex,ok.exfs,ok.funs,ok.frf,ok.tab⟩
theorem toS (I:Inv X pins σ H s) (hA:A'.frames=X.A.frames):Inv (inS X A' xe') pins σ H s:=⟨okS I.ok hA,I.os,I.bare,I.base,I.loc,I.cell,I.free,I.freeC,I.pin,I.hok,I.len⟩
theorem ofS (ok:X.Ok) (I:Inv (inS X A' xe') pins σ H s):Inv X pins σ H s:=⟨ok,I.os,I.bare,I.base,I.loc,I.cell,I.free,I.freeC,I.pin,I.hok,I.len⟩
end
section
variable {X:Cx} {C':Addr} {bm':List Value} {body suite:List Stmt} {b₀:Stmt} {n x:Str} {p hp pos:Pos} {i:Nat} {tb:TX} {ts:TS}
noncomputable def tTry (base:Heap) (C':Addr) (i:Nat) (tb:TX) (ts:TS):TS:=fun D σ H=>tb D (fun σ' e c H'=>∃ a C bm,e=.ref a∧c=some C∧IsExc base C bm∧(Value.ref C::bm).contains (.ref C')=true ∧
  ts { nx:=fun σ2 H2=>D.nx (σ2.set i none) H2,rt:=fun _ _=>False } (σ'.set i (some (.ref a))) (upd H' a (.ext (Errs a C)))) σ H
theorem qhT (hs:X.stack=X.env::X.outer) (hx:X.ex=[]) (hf:X.env.frame=some X.env.locals) (hc:X.calm=true) (hN:X.N.Nodup) (hi:X.N[i]?=some n) (hk:X.env.kindOf n=some .local) (hl:X.env.scope.names.lookup n=some .local)
    (hg:Gl X x) (hm:X.mg x=some (.ref C')) (hC':IsExc X.base C' bm') (hb:PXs X body tb) (hsu:∀ A' xe',A'.frames=X.A.frames→PSs (inS X A' xe') (b₀::suite) ts) (hdb:(x == ("__debug__":Str))=false:=by decide) :
    PS X (.Try body [.ExceptHandler (some (.Name x p)) (some n) (b₀::suite) hp] [] [] pos) (tTry X.base C' i tb ts):=by
  intro pins s σ H D I h
  refine wpAny_Try_except (wpAny_mono (hb pins s σ H D _ I h) (fun f s1 q=>?_) fun e s' q=>?_)
  · cases f with
    | next=>exact wpAny_execs_nil q
    | brk=>exact q
    | cont=>exact q
    | ret u=>exact q
  · obtain ⟨σ1,H1,s1,I1,q⟩:=q
    refine caught hs hx hf I1 q fun a C T H2 s2 he I2 fl Ha HT na nT w=>?_
    subst he
    obtain ⟨a',C1,bm,e1,e2,hC,hbm,ht⟩:=w
    cases e1;cases e2
    have hA:(X.A.mark (some (.ref a))).frames=X.A.frames:=rfl
    refine qag (C:=C) (C':=C') (bm:=bm) (bm':=bm') (b:=true) hbm ?_
    refine yt (X:=inS X (X.A.mark (some (.ref a))) X.xe) (toS I2 hA) hg hm ⟨rfl,hC.keeps I2.bk,hC'.keeps I2.bk,?_,?_⟩ hdb
    · obtain ⟨oe,vs,oT,tz,z1,z2,_⟩:=fl
      exact ⟨oe,z1,z2⟩
    · rw [if_pos rfl]
      refine landed hs hx hf I1 I2 fl na nT Ha HT fun s3 I3 fl3=>?_
      have I4:=track I1 hx I3 fl3 na Ha
      refine zG (v:=.ref a) I4 hN hi (.inl hl) rfl (fun s5 I5=>?_) (.inr hl)
      refine wpAny_mono (hsu (X.A.mark (some (.ref a))) _ hA pins s5 _ _ _ (toS I5 hA) ht) (fun f s6 z=>?_) fun _ _ z=>z
      cases f with
      | next =>
        obtain ⟨σ6,H6,I6,q6⟩:=z
        exact goes (ofS I5.ok I6) hN hi hk fun s7 I7 _=>⟨_,_,I7,q6⟩
      | brk=>obtain ⟨_,_,_,q⟩:=z;exact q.elim
      | cont=>obtain ⟨_,_,_,q⟩:=z;exact q.elim
      | ret u=>obtain ⟨_,_,_,_,_,q⟩:=z;exact q.elim
end
end EX
end R
namespace R
open PySem PySem.Spec L2
open PyProof.Rows hiding St
namespace EX
noncomputable def excRow (K:PySem.W.Frag) (C:Addr):Option (List Value):=match K.lookup C with
  | some ⟨.type "type",_,.cls cd,sl⟩=>(match cd.mro,sl.toList with
    | .ref C'::bm,[_,_,_,_,some (.builtin n),_]=>if C' == C&&!cd.hasDel&&bm.contains (.type "BaseException") then some bm else none
    | _,_=>none)
  | _=>none
theorem jo {K:PySem.W.Frag} {h:Heap} (X:K.In h) {C:Addr} {bm:List Value} (q:excRow K C=some bm):IsExc h C bm:=by
  unfold excRow at q
  split at q
  · rename_i dd cd sl ho
    split at q
    · rename_i C' bm' k0 k1 k2 k3 n k5 hm hs
      split at q
      · rename_i hc
        cases q
        simp only [Bool.and_eq_true,beq_iff_eq,Bool.not_eq_true'] at hc
        obtain ⟨⟨rfl,hdel⟩,hb⟩:=hc
        obtain ⟨nm,bs,mro,ns,qn,hd,sn,sub,ab,col,del⟩:=cd
        dsimp only at hm hdel
        subst hm hdel
        have hsl:sl=#[k0,k1,k2,k3,some (.builtin n),k5]:=by
          obtain ⟨l⟩:=sl
          simp only at hs
          rw [hs]
        subst hsl
        exact ⟨hb,_,_,_,_,_,_,_,_,_,_,_,_,_,_,_,_,X _ _ ho⟩
      · cases q
    · cases q
  · cases q
end EX
end R
namespace R
open PySem PySem.Spec L2
open PyProof.Rows hiding St
namespace EX
section
variable {X:Cx} {st:Stmt} {rest a b:List Stmt} {c:Expr} {tc:TT} {t u:TX} {v:TS} {pos:Pos}
noncomputable def tIfX (c:TT) (t u:TX):TX:=fun D E σ H=>c σ H fun b H1=>if b=true then t D E σ H1 else u D E σ H1
theorem qi6 (hc:PT X.nox c tc) (ha:PXs X a t) (hb:PXs X b u):PX X (.If c a b pos) (tIfX tc t u):=by
  intro pins s σ H D E I h
  refine wpAny_If (wpAny_mono (hc pins s σ H _ (I.wish _) h) (fun d s1 ⟨H1,I1,q1⟩=>?_) fun _ _ z=>False.elim z)
  cases d with
  | true=>exact ha pins s1 σ H1 D E I1.unwish q1
  | false=>exact hb pins s1 σ H1 D E I1.unwish q1
end
end EX
end R
namespace R
open PySem PySem.Spec L2
open PyProof.Rows hiding St
namespace EX
open PySem.W PySem.Calls PySem.Builtin PySem.Builtin.ObjectAttr PySem.Builtin.Getset_descriptor
section
variable {prog:Program} {w:World} {A:Around} {E:Value→Shared→Prop} {s:Shared} {K:Frag} {a C:Addr}
theorem zA {M:Model} {h:Heap} (I:Errs a C h):Looks M h (typeOf (.ref a)) (.ref C):=by
  obtain ⟨o,vs,h1,h2,_⟩:=I
  exact h2 ▸ (Looks.ld h1).andThen .now
theorem qeu {R:Result→Shared→Prop} {tp:Value} (X:K.In s.heap) (I:Errs a C s.heap) (hm:mroIn K C (.type "object")=some true)
    (h:R (.ok (.ret (.ref C))) s):codeAny (model prog w) A (.call (.builtin "getset_descriptor.__get__") ⟨[.builtin "object.__class__",.ref a,tp],[]⟩) R s:=by
  obtain ⟨hh,g,dr,t,os⟩:=s
  have L0:=zA (M:=model prog w) I
  have L1:=looks_mroIn (M:=model prog w) X hm
  refine codeAny_call_builtin KF.slot_gs.plain KF.entry_gs (KF.slot_gs.check _ _ _ _ _ _ _ _ KF.type_class (KF.args_gs _ _ _) ?_)
  unfold Builtin.«getset_descriptor.__get__» descrGet
  rw [dga_obj]
  refine wpAny_bind (wpAny_pure ?_)
  unfold descrGetter descrCheckInstance descrNameAndClass isInstance
  simp only [KF.owner_class]
  repeat lk
  refine ⟨Code.quiet_builtin _ (by decide +kernel),codeAny_builtin KF.entry_class ?_⟩
  unfold Builtin.«object.__class__» shownTypeOf
  repeat lk
  exact h
structure ErrK (K:Frag) (C:Addr):Prop where
  ga:findIn K (.ref C) "__getattribute__"=some (some (.builtin "BaseException.__getattribute__"))
  no:findIn K (.ref C) "__getattr__"=some none
  cls:findIn K (.ref C) "__class__"=some (some (.builtin "object.__class__"))
  get:specialIn K (.builtin "object.__class__") "__get__"=some (some (.builtin "getset_descriptor.__get__"))
  tk:takesIn K (.builtin "object.__class__")=some true
  obj:mroIn K C (.type "object")=some true
  be:mroIn K C (.type "BaseException")=some true
  ic:(clsIn K C).isSome=true
theorem qc5 {M:Model} {h:Heap} (X:K.In h) (Z:ErrK K C):Looks M h (find (.ref a) (.ref C) "__class__") (.bind (.builtin "getset_descriptor.__get__") (.builtin "object.__class__")):=by
  refine (looks_findIn X Z.cls).andThen ((show Looks M h (getOf (some (.builtin "object.__class__"))) _ from looks_specialIn X Z.get).andThen ?_)
  exact (show Looks M h (dataDescriptor? (some (.builtin "object.__class__")) (some (.builtin "getset_descriptor.__get__"))) (some (.builtin "getset_descriptor.__get__",.builtin "object.__class__")) from (looks_takesIn X Z.tk).andThen .now).andThen (Looks.tag .now)
theorem qbw {tk:Tok} {Q:Fin→Shared→Prop} (X:K.In s.heap) (I:Errs a C s.heap) (Z:ErrK K C) (hq:Q (.done (.ret (.ref C))) s) :
    wpAny (model prog w) A (Builtin.«object.__getattribute__» ⟨[.ref a,.str "__class__" tk],[]⟩) Q E s:=by
  have L0:=zA (M:=model prog w) I
  have L1:=qc5 (a:=a) (M:=model prog w) X Z
  obtain ⟨hh,g,dr,t,os⟩:=s
  unfold Builtin.«object.__getattribute__»
  refine wpAny_bind (wpAny_pure (wpAny_bind (wpAny_pure (wpAny_bind (L0.at (wpAny_bind (L1.at ?_)))))))
  show wpAny _ _ (holding [.builtin "object.__class__"] (call (.builtin "getset_descriptor.__get__") [.builtin "object.__class__",.ref a,.ref C]) >>= ret) _ _ _
  exact wpAny_bind (wpAny_holding (wpAny_call (qeu X I Z.obj (wpAny_pure hq))))
theorem qbx {M:Model} {nameV:Value} {Q:Unit→Shared→Prop} (X:K.In s.heap) (I:Errs a C s.heap) (Z:ErrK K C) (hq:Q () s):wpAny M A (checkBuiltinCall "BaseException.__getattribute__" ⟨[.ref a,nameV],[]⟩) Q E s:=by
  have hk:builtinKind "BaseException.__getattribute__"=some .slot:=by decide +kernel
  have hsplit:splitId "BaseException.__getattribute__"=some ("BaseException","__getattribute__"):=by decide +kernel
  have ha:=F.args_bexc_ga (.ref a) nameV
  have L0:Looks M s.heap (isInstance (.ref a) (.type "BaseException")) true:=(zA I).andThen (looks_mroIn X Z.be)
  obtain ⟨hh,g,dr,t,os⟩:=s
  simp only [checkBuiltinCall,hk,hsplit]
  refine wpAny_bind (L0.at ?_)
  repeat (any_goals (first | assumption | wp_step))
theorem qc6 {tk:Tok} {R:Result→Shared→Prop} (X:K.In s.heap) (I:Errs a C s.heap) (Z:ErrK K C) (hq:R (.ok (.ret (.ref C))) s) :
    codeAny (model prog w) A (.call (.builtin "BaseException.__getattribute__") ⟨[.ref a,.str "__class__" tk],[]⟩) R s :=
  codeAny_call_builtin PySem.F.attr_ValueError.ga.plain F.entry_bexc_ga (qbx X I Z (qbw X I Z hq))
theorem qby {Q:Option Value→Shared→Prop} (X:K.In s.heap) (I:Errs a C s.heap) (Z:ErrK K C) (hq:Q (some (.ref C)) { s with toks:=s.toks+1 }):wpAny (model prog w) A (getAttr? (.ref a) "__class__") Q E s:=by
  obtain ⟨hh,g,d,t,os⟩:=s
  have L0:=zA (M:=model prog w) I
  have L1:=looks_findIn (M:=model prog w) X Z.ga
  have L2:=looks_findIn (M:=model prog w) X Z.no
  have f3:=PySem.F.attr_ValueError.ga.bind (.ref a)
  unfold getAttr? getAttrBy? getAttrBy
  refine wpAny_bind (wpAny_mkText (wpAny_bind (wpAny_attempt (wpAny_holding (wpAny_bind (L0.at (wpAny_bind (L1.at ?_))))))))
  have hx:(onTheHeap (Value.ref C)&&Value.builtin "BaseException.__getattribute__" == Value.builtin "object.__getattribute__")=false:=by
    have:(Value.builtin "BaseException.__getattribute__" == Value.builtin "object.__getattribute__")=false:=by decide +kernel
    rw [this];rfl
  show wpAny _ _ (if (onTheHeap (Value.ref C)&&Value.builtin "BaseException.__getattribute__" == Value.builtin "object.__getattribute__")=true then _ else _) _ _ _
  rw [hx]
  refine wpAny_bind (show wpAny _ _ (typeLookup (.ref C) "__getattr__") _ _ _ from L2.at ?_)
  refine wpAny_bind (wpAny_attempt (wpAny_holding ?_))
  show wpAny _ _ (boundAndCalled _ _ _) _ _ _
  unfold boundAndCalled
  rw [f3]
  refine wpAny_bind (wpAny_pure (wpAny_call (qc6 (s:=⟨hh,g,d,t+1,os⟩) X I Z ?_)))
  exact handed_on rfl (wpAny_pure hq)
theorem qaY (Z:ErrK K C):KitX K (.ref a) (.ref C) (fun h=>Errs a C h) where
  ty:=fun M h _ I=>zA I
  it:=fun _ _ X _=>by
    have hcD:=Z.ic
    unfold clsIn at hcD
    split at hcD
    · rename_i c' d' cd' sl' ho
      intro A' Q' E' s' k q
      unfold isType loadHead
      exact wpAny_bind (wpAny_loadPart (k _ _ (X _ _ ho)) (wpAny_pure q))
    · cases hcD
  ne:=fun h tp dd its n sl X htp=>by
    have hcD:=Z.ic
    refine Bool.eq_false_iff.mpr fun q=>?_
    have e:C=tp:=Value.ref.inj (beq_iff_eq.mp q)
    subst e
    unfold clsIn at hcD
    split at hcD
    · rename_i c' d' cd' sl' ho
      have z:=(X _ _ ho).symm.trans htp
      cases z
    · cases hcD
  ca:=fun X I k=>qby X I Z k
end
end EX
end R
namespace R
open PySem PySem.Spec L2 SeqAt
open PyProof.Rows hiding St
namespace EX
noncomputable def PsX {α β:Type} (R:List Addr→Hp→α→β→Prop) (r:Res α) (ι:List Addr) (H:Hp) (Q:β→Hp→Prop) (E:XK):Prop:=match r with
  | .ok a S'=>∀ b ι' H',Stp ι H ι' H'→Sto ι' H' S'→R ι' H' a b→Q b H'
  | .err (.exc C) S'=>∀ a ι' H',Stp ι H ι' H'→Sto ι' H' S'→H' a=none→E (.ref a) (some C) H'
  | _=>False
theorem PsX.from {α β:Type} {R:List Addr→Hp→α→β→Prop} {r:Res α} {ι ι':List Addr} {H H':Hp} {Q:β→Hp→Prop} {E:XK} (h:PsX R r ι H Q E) (s:Stp ι H ι' H'):PsX R r ι' H' Q E:=by
  cases r with
  | ok a S=>exact fun b ι2 H2 t st q=>h b ι2 H2 (s.trans t) st q
  | err x S =>
    cases x with
    | exc C=>exact fun a ι2 H2 t st q=>h a ι2 H2 (s.trans t) st q
    | _=>exact h
  | no=>exact h
noncomputable def PsFX (r:Res _root_.R.Fl) (ι:List Addr) (H:Hp) (D:Ends) (E:XK):Prop:=match r with
  | .ok f S'=>PsF (.ok f S') ι H D
  | .err (.exc C) S'=>∀ a ι' H',Stp ι H ι' H'→Sto ι' H' S'→H' a=none→E (.ref a) (some C) H'
  | _=>False
theorem PsFX.from {r:Res _root_.R.Fl} {ι ι':List Addr} {H H':Hp} {D:Ends} {E:XK} (h:PsFX r ι H D E) (s:Stp ι H ι' H'):PsFX r ι' H' D E:=by
  cases r with
  | ok f S=>exact PsF.from (show PsF (.ok f S) ι H D from h) s
  | err x S =>
    cases x with
    | exc C=>exact fun a ι2 H2 t st q=>h a ι2 H2 (s.trans t) st q
    | _=>exact h
  | no=>exact h
theorem PsFX.bind {α β:Type} {R:List Addr→Hp→α→β→Prop} {r:Res α} {f:α→Sr→Res _root_.R.Fl} {ι:List Addr} {H:Hp} {D:Ends} {K:β→Hp→Prop} {E:XK}
    (h:PsFX (r.bind f) ι H D E) (k:∀ a S' ι' H' b,Stp ι H ι' H'→Sto ι' H' S'→R ι' H' a b→PsFX (f a S') ι' H' D E→K b H'):PsX R r ι H K E:=by
  cases r with
  | ok a S=>exact fun b ι2 H2 t st q=>k a S ι2 H2 b t st q (PsFX.from h t)
  | err x S =>
    cases x with
    | exc C=>exact h
    | _=>exact h
  | no=>exact h
theorem PsFX.ok {r:Res _root_.R.Fl} {ι:List Addr} {H:Hp} {D:Ends} {E:XK} (h:PsFX (noE r) ι H D E):PsF r ι H D:=by
  cases r with
  | ok f S=>exact h
  | err x S=>exact h.elim
  | no=>exact h.elim
noncomputable def TGX {α β:Type} (R:List Addr→Hp→α→β→Prop) (m:En→Sr→Res α) (E:XK):St→Hp→(β→Hp→Prop)→Prop:=fun σ H Q=>∃ ι S ρ,EnR ι H ρ σ∧Sto ι H S∧PsX R (m ρ S) ι H Q E
noncomputable def TSX (m:En→Sr→Res _root_.R.Fl) (E:XK):TS:=fun D σ H=>∃ ι S ρ,EnR ι H ρ σ∧Sto ι H S∧PsFX (m ρ S) ι H D E
noncomputable def SpX (np:Nat) (g:List D→Sr→Res D):Sp:=fun vs H Q E=>vs.length=np∧∃ ι S ds,Sto ι H S∧Dens ι H ds vs∧PsX Den (g ds S) ι H Q E
noncomputable def FnAtX (P:Program) (w:World) (K:PySem.W.Frag) (mg:Str→Option Value) (base:Heap) (k:Nat) (F:Fs) (i:Nat) (x:Str) (ps:List Str):Prop :=
  ∃ f fd,mg x=some (.ref f)∧PySem.W.keepIn K (.ref f)=true∧Binds K fd ps []∧FnOk P w K mg base (CXR P w) k f fd ps (SpX ps.length (F i))
section
variable {X:Cx} {F:Fs} {N:Nat} {pos:Pos} {E:XK}
theorem PAnox {es:List Expr} {t:TA} (h:PA X.nox es t):PA X es t:=fun pos pins s σ H Q I hw=>wpAny_mono (h pos pins s σ H Q (I.wish _) hw) (fun us s1 ⟨vs,H1,I1,r,q⟩=>⟨vs,H1,I1.unwish,r,q⟩) fun _ _ z=>False.elim z
theorem PSnox {st:Stmt} {t:TS} (h:PS X.nox st t):PS X st t:=fun pins s σ H D I hw=>wpAny_mono (h pins s σ H D (I.wish _) hw) (fun _ _ q=>q.unwish) fun _ _ z=>False.elim z
theorem yp:PSs X [] (TSX (exs F N .nil) E):=PSsimp qbK fun D σ H hw=>by
  obtain ⟨ι,S,ρ,er,st,p⟩:=hw
  exact p ι H (Stp.refl _ _) st σ er
theorem zg {st:Stmt} {rest:List Stmt} {c:CS} {cs:CSs} (h1:PS X st (TSX (ex F N c) E)) (h2:PSs X rest (TSX (exs F N cs) E)):PSs X (st::rest) (TSX (exs F N (.cons c cs)) E):=PSsimp (qau h1 h2) fun D σ H hw=>by
  obtain ⟨ι,S,ρ,er,st,p⟩:=hw
  refine ⟨ι,S,ρ,er,st,?_⟩
  unfold exs at p
  cases z:ex F N c ρ S with
  | no=>rw [z] at p;exact p
  | err x S1 =>
    rw [z] at p
    cases x with
    | exc C=>exact p
    | _=>exact p
  | ok f S1 =>
    rw [z] at p
    intro ι1 H1 s1 st1
    cases f with
    | nx ρ1=>exact fun σ1 er1=>⟨ι1,S1,ρ1,er1,st1,PsFX.from p s1⟩
    | bk ρ1=>exact fun σ1 er1=>p ι1 H1 s1 st1 σ1 er1
    | ct ρ1=>exact fun σ1 er1=>p ι1 H1 s1 st1 σ1 er1
    | rt d=>exact fun v hv=>p ι1 H1 s1 st1 v hv
theorem qev {st:Stmt} {c:CS} (h:QS X.nox st (TSm (ex F N c))):PS X st (TSX (ex F N (.cal c)) E):=by
  delta QS at h
  refine PSnox (PSimp h fun D σ H hw=>?_)
  obtain ⟨ι,S,ρ,er,st,p⟩:=hw
  unfold ex at p
  exact ⟨ι,S,ρ,er,st,PsFX.ok p⟩
theorem x_expr {e:Expr} {c:CE} (he:PE X e (TGX Den (ev F c) E)) (hs:swapsWith e none pos.line X.env=pure false:=by rfl):PS X (.Expr e pos) (TSX (ex F N (.expr c)) E):=PSimp (qbL he hs) fun D σ H hw=>by
  obtain ⟨ι,S,ρ,er,st,p⟩:=hw
  unfold ex at p
  exact ⟨ι,S,ρ,er,st,PsFX.bind p fun a S1 ι1 H1 b s1 st1 ra p1=>p1 ι1 H1 (Stp.refl _ _) st1 σ (er.mono s1)⟩
theorem x_set (i:Nat) {x:Str} {e:Expr} {c:CE} {pos':Pos} (he:PE X e (TGX Den (ev F c) E)) (hN:nodupB X.N=true:=by rfl) (hi:X.N[i]?=some x:=by rfl) (hx:Loc X.env.scope x:=by first | exact Or.inl rfl | exact Or.inr rfl) (hs:swapsWith e (some (.Name x pos')) pos.line X.env=pure false:=by rfl) (hf:X.fn x=true∨X.env.scope.names.lookup x=some .local:=by first | exact .inl rfl | exact .inr rfl) :
    PS X (.Assign [.Name x pos'] e pos) (TSX (ex F N (.set (.var i) c)) E):=PSimp (qdl (zk hN) hi hx he hs hf) fun D σ H hw=>by
  obtain ⟨ι,S,ρ,er,st,p⟩:=hw
  unfold ex at p
  exact ⟨ι,S,ρ,er,st,PsFX.bind p fun a S1 ι1 H1 b s1 st1 ra p1=>p1 ι1 H1 (Stp.refl _ _) st1 _ ((er.mono s1).set ra)⟩
theorem x_if {c:Expr} {a b:List Stmt} {cc:CB} {ca cb:CSs} (hc:PT X c (TGX EqR (tst F cc) E)) (ha:PSs X a (TSX (exs F N ca) E)) (hb:PSs X b (TSX (exs F N cb) E)):PS X (.If c a b pos) (TSX (ex F N (.ifs cc ca cb)) E):=PSimp (qgm hc ha hb) fun D σ H hw=>by
  obtain ⟨ι,S,ρ,er,st,p⟩:=hw
  unfold ex at p
  refine ⟨ι,S,ρ,er,st,PsFX.bind p fun a S1 ι1 H1 b s1 st1 ra p1=>?_⟩
  cases (show a=b from ra)
  cases a with
  | true=>rw [if_pos rfl];exact ⟨ι1,S1,ρ,er.mono s1,st1,p1⟩
  | false=>rw [if_neg (by decide)];exact ⟨ι1,S1,ρ,er.mono s1,st1,p1⟩
theorem qew {c:Expr} {cc:CB} (h:QT X.nox c (TB (tst F cc))):PT X c (TGX EqR (tst F (.cal cc)) E):=by
  delta QT at h
  refine (PTimp h fun σ H Q hw=>?_).nox
  obtain ⟨ι,S,ρ,er,st,p⟩:=hw
  unfold tst at p
  refine ⟨ι,S,ρ,er,st,?_⟩
  cases z:tst F cc ρ S with
  | ok f S1=>rw [z] at p;exact p
  | err x S1=>rw [z] at p;exact p.elim
  | no=>rw [z] at p;exact p.elim
theorem qex (D:IsDef X E) {k i:Nat} {x:Str} {ps:List Str} {e:Expr} {es:List Expr} {cs:CEs} {p:Pos} (h:FnAtX X.prog X.w X.K X.mg X.base k F i x ps) (hr:Room k X.A) (ha:QA X.nox (e::es) (TL (evs F cs))) (hne:∀ ρ S,noE (evs F cs ρ S)=evs F cs ρ S) (hg:Gl X x:=by rfl) (hl:cs.len=ps.length:=by rfl) (hdb:(x == ("__debug__":Str))=false:=by decide)
    (he:starEach (e::es) X.env=(false,eval e X.env)::starEach es X.env:=by rfl) (hpl:(backTo pos (starEach es X.env)).any (·.1)=false:=by rfl):PE X (.Call (.Name x p) (e::es) [] pos) (TGX Den (ev F (.call i cs)) E):=by
  delta QA at ha
  obtain ⟨f,fd,hm,hk,hb,hF⟩:=h
  refine PEimp (qbM hF hr hg hm hk hb (dvs:=[]) .nil (passR D fun _ _ _ z=>z) (PAnox ha) hdb he hpl) fun σ H Q hw=>?_
  obtain ⟨ι,S,ρ,er,st,p⟩:=hw
  refine ⟨ι,S,ρ,er,st,?_⟩
  unfold ev at p
  cases z:evs F cs ρ S with
  | no=>rw [z] at p;exact p.elim
  | err x S1=>have:=hne ρ S;rw [z] at this;cases this
  | ok l S1 =>
    rw [z] at p
    intro xs ι1 H1 s1 st1 dl
    refine ⟨?_,ι1,S1,l,st1,by simpa using dl,PsX.from p s1⟩
    rw [List.append_nil,← dl.length]
    exact (zY z).trans hl
theorem qcd (D:IsDef X E) {x:Str} {C:Addr} {e:Expr} {es:List Expr} {cs:CEs} {p cpos:Pos} {B Bn newId nid initId inN:String} {bm bmN:List Value} (O:OwnCls x C bm newId X.mg X.base) (Fn:ExcBaseFacts Bn newId inN bmN) (hBn:bm.contains (.type Bn)=true) (FB:ExcBaseFacts B nid initId bm)
    (ha:QA X.nox (e::es) (TL (evs F cs))) (hcs:∀ ρ S,∃ l,evs F cs ρ S=.ok l S) (hln:cs.len≤1000) (hc:X.calm=true:=by rfl) (hg:Gl X x:=by rfl) (hdb:(x == ("__debug__":Str))=false:=by decide) (he:starEach (e::es) X.env=(false,eval e X.env)::starEach es X.env:=by rfl) (hpl:(backTo cpos (starEach es X.env)).any (·.1)=false:=by rfl) :
    PS X (.Raise (some (.Call (.Name x p) (e::es) [] cpos)) none pos) (TSX (ex F N (.raise C)) E):=by
  delta QA at ha
  refine PSimp (qet D hc hg O Fn hBn FB (PAnox ha) hdb he hpl) fun D σ H hw=>?_
  obtain ⟨ι,S,ρ,er,st,p⟩:=hw
  unfold ex at p
  obtain ⟨l,el⟩:=hcs ρ S
  refine ⟨ι,S,ρ,er,st,?_⟩
  rw [el]
  intro xs ι1 H1 s1 st1 dl
  refine ⟨?_,fun a ha=>p a ι1 H1 s1 st1 ha⟩
  rw [← dl.length,zY el,sizeLine_eq];lia
end
theorem qey {c:CF} {ns ps:List Str} {vs:List V} {H:Hp} {ι:List Addr} {ds:List D} (hp:ps.length=c.np) (hn:ns.length=c.nn) (hl:vs.length=ps.length) (dl:Dens ι H ds vs):EnR ι H (ds.map some++List.replicate (c.nn-c.np) none) (start ns vs):=by
  have hdl:ds.length=c.np:=by rw [dl.length,hl,hp]
  unfold L2.start
  have e1:ns.length-vs.length=c.nn-c.np:=by rw [hn,hl,hp]
  rw [e1]
  refine ⟨by simp [dl.length],fun i d e=>?_⟩
  by_cases hi:i<ds.length
  · rw [List.getElem?_append_left (by simpa using hi),List.getElem?_map,List.getElem?_eq_getElem hi] at e
    cases e
    obtain ⟨x,e2,e3⟩:=dl.get (List.getElem?_eq_getElem hi)
    refine ⟨x,?_,e3⟩
    rw [List.getElem?_append_left (by rw [List.length_map,← dl.length];exact hi),List.getElem?_map,e2];rfl
  · rw [List.getElem?_append_right (by simpa using hi),List.getElem?_replicate] at e
    split at e <;> cases e
theorem qce {keeps:Bool} {d:D} {S S1:Sr} {ι:List Addr} {H:Hp} {Q:VK} {E:XK} (st:Sto ι H S) (q:PsX Den (leave keeps S.length d S1) ι H Q E):∀ ι' H',Stp ι H ι' H'→Sto ι' H' S1→∀ v,Den ι' H' d v→Q v H':=by
  intro ι' H' s1 st1 v hv
  unfold leave at q
  split at q
  · exact q v ι' H' s1 st1 hv
  · split at q
    · exact q v ι' H' s1 st1 hv
    · split at q
      · rename_i hr
        have e:=s1.take_eq
        have el:ι.length=S.length:=st.len
        refine q v (ι'.take S.length) H' (by rw [← el];exact s1.less) (st1.less _) (Den.less d hr hv)
      · split at q
        · rename_i d' hd
          have el:ι.length=S.length:=st.len
          exact q v (ι'.take S.length) H' (by rw [← el];exact s1.less) (st1.less _) (Den.frz st1 d hd hv)
        · exact q.elim
theorem qez {F:Fs} {N:Nat} {c:CF} {ns ps:List Str} {vs:List V} {H:Hp} {Q:VK} {E:XK} (hp:ps.length=c.np) (hn:ns.length=c.nn) (hle:c.np≤c.nn) (h:SpX ps.length (callC F N c) vs H Q E):TSX (exs F N c.body) E { nx:=fun _ H'=>Q .non H',rt:=Q } (start ns vs) H:=by
  obtain ⟨hl,ι,S,ds,st,dl,p⟩:=h
  have hdl:ds.length=c.np:=by rw [dl.length,hl,hp]
  unfold callC at p
  rw [if_pos hdl] at p
  refine ⟨ι,S,_,qey hp hn hl dl,st,?_⟩
  cases z:exs F N c.body (ds.map some++List.replicate (c.nn-c.np) none) S with
  | ok f S1 =>
    rw [z] at p
    cases f with
    | nx ρ1=>exact fun ι1 H1 s1 st1 σ1 er1=>qce st p ι1 H1 s1 st1 .non rfl
    | rt d=>exact fun ι1 H1 s1 st1 v hv=>qce st p ι1 H1 s1 st1 v hv
    | bk _=>exact p.elim
    | ct _=>exact p.elim
  | err x S1 =>
    rw [z] at p
    cases x with
    | exc C=>exact p
    | _=>exact p
  | no=>rw [z] at p;exact p.elim
theorem qbz {P:Program} {w:World} {K:PySem.W.Frag} {mg:Str→Option Value} {base:Heap} {k N i:Nat} {F G:Fs} {x:Str} {st:Stmt} {f c T':Addr} {fd:FuncData} {cf:CF} {ns ps:List Str} (U:FunT K x st f fd c T') (S:FnScope ns ps (defScope st))
    (hp:ps.length=cf.np) (hn:ns.length=cf.nn) (hle:cf.np≤cf.nn) (hG:G i=callC F N cf)
    (body:∀ (A:Around) (outer:List Env) (s:Shared) (H:Hp) (E:XK),Room k (A.deeper (envOfC x (defScope st) s.heap.objs.size f (.ref c)))→PSs (cxOf (CXR P w) P w K mg base ns x (defScope st) f (.ref c) A outer s H E) (defBody st) (TSX (exs F N cf.body) E)) :
    FnOk P w K mg base (CXR P w) (k+1) f fd ps (SpX ps.length (G i)):=by
  obtain ⟨oc,od,kV,doc,pm,an,ct,osl,rfl,lk,hcd⟩:=U.ex
  refine qgn lk hcd S (fun vs H Q E h=>h.1) fun A outer s H vs Q E hr h=>⟨_,body A outer s H E hr,?_⟩
  rw [hG] at h
  exact qez hp hn hle h
theorem qbA {P:Program} {w:World} {K:PySem.W.Frag} {mg:Str→Option Value} {base:Heap} {i:Nat} {G:Fs} {f:Addr} {fd:FuncData} {ps:List Str} (hG:G i=fun _ _=>.no) {k:Nat} :
    FnOk P w K mg base (CXR P w) k f fd ps (SpX ps.length (G i)):=by
  refine ⟨fun vs H Q E h=>h.1,fun A outer s H args us vs Q E _ _ _ _ h=>?_⟩
  obtain ⟨_,ι,S,ds,_,_,p⟩:=h
  rw [hG] at p
  exact p.elim
theorem DefIn.fnX {P:Program} {w:World} {K:PySem.W.Frag} {mg:Str→Option Value} {base:Heap} {k i:Nat} {F:Fs} {x:Str} {st:Stmt} {ps:List Str} (u:DefIn K mg x st ps) (h:∀ f fd c t,FunT K x st f fd c t→FnOk P w K mg base (CXR P w) k f fd ps (SpX ps.length (F i))):FnAtX P w K mg base k F i x ps:=by
  obtain ⟨f,fd,c,t,hm,U,hb⟩:=u
  exact ⟨f,fd,hm,U.kp,hb,h f fd c t U⟩
end EX
end R
namespace R
open PySem PySem.Spec L2 SeqAt
open PyProof.Rows hiding St
namespace EX
noncomputable def TXm (m:En→Sr→Res _root_.R.Fl):TX:=fun D E σ H=>∃ ι S ρ,EnR ι H ρ σ∧Sto ι H S∧PsFX (m ρ S) ι H D (E σ)
theorem EnR.un {ι:List Addr} {H:Hp} {ρ:En} {σ:St} (e:EnR ι H ρ σ) (i:Nat):EnR ι H (ρ.set i none) (σ.set i none):=by
  refine ⟨by simp [e.len],fun j x q=>?_⟩
  by_cases z:i=j
  · subst z
    by_cases hl:i<ρ.length
    · rw [List.getElem?_set_self hl] at q;cases q
    · rw [List.getElem?_eq_none (by simpa using hl)] at q;cases q
  · rw [List.getElem?_set_ne z] at q ⊢
    exact e.get j x q
section
variable {X:Cx} {F:Fs} {N:Nat} {pos:Pos}
theorem qeA {k i:Nat} {x:Str} {ps:List Str} {e:Expr} {es:List Expr} {cs:CEs} {p pos':Pos} (h:FnAtX X.prog X.w X.K X.mg X.base k F i x ps) (hr:Room k X.A) (ha:QA X.nox (e::es) (TL (evs F cs))) (hne:∀ ρ S,noE (evs F cs ρ S)=evs F cs ρ S) (hg:Gl X x:=by rfl) (hl:cs.len=ps.length:=by rfl) (hdb:(x == ("__debug__":Str))=false:=by decide)
    (he:starEach (e::es) X.env=(false,eval e X.env)::starEach es X.env:=by rfl) (hpl:(backTo pos (starEach es X.env)).any (·.1)=false:=by rfl) (hs:swapsWith (.Call (.Name x p) (e::es) [] pos) none pos'.line X.env=pure false:=by rfl) :
    PX X (.Expr (.Call (.Name x p) (e::es) [] pos) pos') (TXm (ex F N (.expr (.call i cs)))):=by
  delta QA at ha
  obtain ⟨f,fd,hm,hk,hb,hF⟩:=h
  intro pins s σ H D E I hw
  refine qf5 hF hr hg hm hk hb (dvs:=[]) .nil ha hdb he hpl hs pins s σ H D E I ?_
  obtain ⟨ι,S,ρ,er,st,p⟩:=hw
  refine ⟨ι,S,ρ,er,st,?_⟩
  unfold ex ev at p
  cases z:evs F cs ρ S with
  | no=>rw [z] at p;exact p.elim
  | err x S1=>have:=hne ρ S;rw [z] at this;cases this
  | ok l S1 =>
    rw [z] at p
    intro xs ι1 H1 s1 st1 dl
    refine ⟨?_,ι1,S1,l,st1,by simpa using dl,?_⟩
    · rw [List.append_nil,← dl.length]
      exact (zY z).trans hl
    · exact PsFX.bind (PsFX.from p s1) fun a S2 ι2 H2 b s2 st2 ra p2=>p2 ι2 H2 (Stp.refl _ _) st2 σ (er.mono (s1.trans s2))
theorem qeB {st:Stmt} {c:CS} (h:PX X st (TXm (ex F N c))):PXs X [st] (TXm (exs F N (.cons c .nil))):=fun pins s σ H D E I hw=>qf6 h pins s σ H D E I (by
  obtain ⟨ι,S,ρ,er,st,p⟩:=hw
  refine ⟨ι,S,ρ,er,st,?_⟩
  unfold exs at p
  cases z:ex F N c ρ S with
  | no=>rw [z] at p;exact p
  | err x S1=>rw [z] at p;cases x <;> exact p
  | ok f S1=>rw [z] at p;cases f <;> exact p)
theorem y_if {c:Expr} {a b:List Stmt} {cc:CB} {ca cb:CSs} (hc:QT X.nox c (TB (tst F cc))) (ha:PXs X a (TXm (exs F N ca))) (hb:PXs X b (TXm (exs F N cb))):PX X (.If c a b pos) (TXm (ex F N (.ifs (.cal cc) ca cb))):=by
  delta QT at hc
  refine fun pins s σ H D E I hw=>qi6 hc ha hb pins s σ H D E I ?_
  obtain ⟨ι,S,ρ,er,st,p⟩:=hw
  refine ⟨ι,S,ρ,er,st,?_⟩
  unfold ex tst at p
  cases z:tst F cc ρ S with
  | no=>rw [z] at p;exact p.elim
  | err x S1=>rw [z] at p;exact p.elim
  | ok f S1 =>
    rw [z] at p
    intro b ι1 H1 s1 st1 e
    cases (show f=b from e)
    cases f with
    | true=>rw [if_pos rfl];exact ⟨ι1,S1,ρ,er.mono s1,st1,PsFX.from p s1⟩
    | false=>rw [if_neg (by decide)];exact ⟨ι1,S1,ρ,er.mono s1,st1,PsFX.from p s1⟩
theorem qi7 {C':Addr} {bm':List Value} {body suite:List Stmt} {b₀:Stmt} {n x:Str} {p hp:Pos} {t:List (Addr × Bool)} {cb cs:CSs} (i:Nat) (hm:X.mg x=some (.ref C')) (hC':IsExc X.base C' bm')
    (ht:∀ C,lookA C t=some true→∃ bm,IsExc X.base C bm∧(Value.ref C::bm).contains (.ref C')=true)
    (hb:PXs X body (TXm (exs F N cb))) (hsu:∀ A' xe',A'.frames=X.A.frames→QSs (inS X A' xe') (b₀::suite) (TSm (exs F N cs)))
    (hs:X.stack=X.env::X.outer:=by rfl) (hx:X.ex=[]:=by rfl) (hf:X.env.frame=some X.env.locals:=by rfl) (hc:X.calm=true:=by rfl) (hN:nodupB X.N=true:=by rfl) (hi:X.N[i]?=some n:=by rfl) (hk:X.env.kindOf n=some .local:=by rfl) (hl:X.env.scope.names.lookup n=some .local:=by rfl)
    (hg:Gl X x:=by rfl) (hdb:(x == ("__debug__":Str))=false:=by decide) :
    QS X (.Try body [.ExceptHandler (some (.Name x p)) (some n) (b₀::suite) hp] [] [] pos) (TSm (ex F N (.tryX t i cb cs))):=by
  delta QS
  refine PSimp (qhT hs hx hf hc (zk hN) hi hk hl hg hm hC' hb (ts:=TSm (exs F N cs)) (fun A' xe' h=>(hsu A' xe' h).un) hdb) fun D σ H hw=>?_
  obtain ⟨ι,S,ρ,er,st,p⟩:=hw
  refine ⟨ι,S,ρ,er,st,?_⟩
  unfold ex at p
  cases z:exs F N cb ρ S with
  | no=>rw [z] at p;exact p.elim
  | ok f S1=>rw [z] at p;exact p
  | err y S1 =>
    rw [z] at p
    cases y with
    | exc C =>
      dsimp only at p
      cases q:lookA C t with
      | none=>rw [q] at p;exact p.elim
      | some b =>
        rw [q] at p
        cases b with
        | false=>exact p.elim
        | true =>
          dsimp only at p
          intro a ι1 H1 s1 st1 ha
          obtain ⟨bm,h1,h2⟩:=ht C q
          refine ⟨a,C,bm,rfl,rfl,h1,h2,?_⟩
          have na:a ∉ ι1:=st1.fresh ha
          have s2:Stp ι1 H1 ι1 (upd H1 a (.ext (Errs a C))):=Stp.laid ha _
          have st2:Sto ι1 (upd H1 a (.ext (Errs a C))) S1:=st1.laid ha _
          refine ⟨ι1,S1,ρ.set i (some (.exc C)),((er.mono s1).mono s2).set ⟨a,rfl,na,by simp [upd]⟩,st2,?_⟩
          have p2:=PsF.from p (s1.trans s2)
          cases z2:exs F N cs (ρ.set i (some (.exc C))) S1 with
          | no=>rw [z2] at p2;exact p2.elim
          | err=>rw [z2] at p2;exact p2.elim
          | ok f S2 =>
            rw [z2] at p2
            cases f with
            | nx ρ1=>exact fun ι3 H3 s3 st3 σ3 er3=>p2 ι3 H3 s3 st3 _ (EnR.un er3 i)
            | _=>exact p2.elim
    | _=>exact p.elim
end
end EX
end R
namespace R
open PySem PySem.Spec L2 SeqAt
open PyProof.Rows hiding St
namespace EX
section
variable {X:Cx} {F:Fs} {N:Nat} {pos:Pos}
theorem qeC {y:V} {c:Value} (rc:∀ u,RelV y u→u=c):CallR X (.builtin "isinstance") (fun xs H Q=>∃ a C b,xs=[.ref a,y]∧H a=some (.ext (Errs a C))∧ErrK X.K C∧PySem.W.kitOne X.K (.ref C) c=some b∧Q (.bl b) H):=by
  intro pins s σ H xs us Q I r h
  obtain ⟨a,C,b,rfl,h1,h2,h3,q⟩:=h
  obtain ⟨u,w',rfl,r1,r2⟩:=vals2 r
  cases r1
  cases rc _ r2
  obtain ⟨he,_⟩:=(show ObjOk X.prog X.w H s.heap a (.ext (Errs a C)) from I.hok a _ h1)
  exact PySem.W.kia_one (qaY h2) I.kIn he h3 (fun z=>nomatch z) fun tk=>⟨.bl b,H,I.tok _,rfl,q⟩
theorem qgx {a:Expr} {p p':Pos} {c:CE} {t:List (Addr × Bool)} {y:V} {cv:Value} {nm:Str} (hg:Gl X "isinstance") (hm:X.mg "isinstance"=none) (hn:PE X (.Name nm p') (fun _ H Q=>Q y H)) (rc:∀ u,RelV y u→u=cv)
    (ht:∀ C b,lookA C t=some b→ErrK X.K C∧PySem.W.kitOne X.K (.ref C) cv=some b)
    (ha:PE X a (T (ev F c))) (he:starEach [a,.Name nm p'] X.env=(false,eval a X.env)::starEach [.Name nm p'] X.env)
    (he2:starEach [.Name nm p'] X.env=(false,eval (.Name nm p') X.env)::starEach [] X.env) (hpl:(backTo pos (starEach [.Name nm p'] X.env)).any (·.1)=false) :
    PE X (.Call (.Name "isinstance" p) [a,.Name nm p'] [] pos) (T (ev F (.isx t c))):=by
  refine PEimp (yu (qeC rc) hg hm jg (qX ha (qX hn yi he2) he) (by decide) (by decide) he hpl) fun σ H Q hw=>?_
  have hw:T (fun ρ S=>(ev F c ρ S).bind fun x S1=>ofO ((isxD t x).map .bl) S1) σ H Q:=by
    obtain ⟨ι,S,ρ,er,st,p⟩:=hw
    unfold ev at p
    exact ⟨ι,S,ρ,er,st,p⟩
  refine TG.b1 hw fun ι S ρ a b H1 er st ra p=>?_
  obtain ⟨d,e,q⟩:=Pst.ofO p st
  cases a with
  | exc C =>
    obtain ⟨b',z,rfl⟩:=Option.map_eq_some_iff.mp e
    obtain ⟨a0,rfl,_,ha0⟩:=ra
    obtain ⟨h1,h2⟩:=ht C b' z
    exact ⟨a0,C,b',rfl,ha0,h1,h2,q _ ι H1 (Stp.refl _ _) st rfl⟩
  | _=>cases e
theorem qgy (t:List (Addr × Bool)) {a:Expr} {ca:CE} {p p':Pos} {nm:Str} {C':Addr} (gb:Gb X.mg) (hm:X.mg nm=some (.ref C')) (ht:∀ C b,lookA C t=some b→ErrK X.K C∧PySem.W.kitOne X.K (.ref C) (.ref C')=some b) (ha:QE X a (T (ev F ca))) (hg:Gl X "isinstance":=by rfl) (hgn:Gl X nm:=by rfl) (hd:(nm == ("__debug__":Str))=false:=by decide) (he:starEach [a,.Name nm p'] X.env=(false,eval a X.env)::starEach [.Name nm p'] X.env:=by rfl) (he2:starEach [.Name nm p'] X.env=(false,eval (.Name nm p') X.env)::starEach [] X.env:=by rfl) (hpl:(backTo pos (starEach [.Name nm p'] X.env)).any (·.1)=false:=by rfl) :
    QE X (.Call (.Name "isinstance" p) [a,.Name nm p'] [] pos) (T (ev F (.isx t ca))):=by
  delta QE;delta QE at ha
  exact qgx hg gb.isinstance (jW (v:=.ref C') hgn hm rfl hd) (fun u r=>by cases r;rfl) ht ha he he2 hpl
theorem qhU (t:List (Addr × Bool)) {a:Expr} {ca:CE} {p p':Pos} {nm:Str} {ty:String} (gb:Gb X.mg) (hm:X.mg nm=none) (hv:bootBuiltins nm=some (.type ty)) (ht:∀ C b,lookA C t=some b→ErrK X.K C∧PySem.W.kitOne X.K (.ref C) (.type ty)=some b) (ha:QE X a (T (ev F ca))) (hg:Gl X "isinstance":=by rfl) (hgn:Gl X nm:=by rfl) (hn:nm≠"__name__":=by decide) (hd:(nm == ("__debug__":Str))=false:=by decide) (he:starEach [a,.Name nm p'] X.env=(false,eval a X.env)::starEach [.Name nm p'] X.env:=by rfl) (he2:starEach [.Name nm p'] X.env=(false,eval (.Name nm p') X.env)::starEach [] X.env:=by rfl) (hpl:(backTo pos (starEach [.Name nm p'] X.env)).any (·.1)=false:=by rfl) :
    QE X (.Call (.Name "isinstance" p) [a,.Name nm p'] [] pos) (T (ev F (.isx t ca))):=by
  delta QE;delta QE at ha
  exact qgx hg gb.isinstance (qbJ (v:=.ty ty) hgn hm hv rfl hn hd) (fun u r=>by cases r;rfl) ht ha he he2 hpl
noncomputable def eqT:Value→Bool
  | .bool b=>b == true
  | _=>false
noncomputable def rIndexT:V→List V→Hp→VK→Prop:=fun x vs H Q=>∃ (a:Addr) (bs:List Bool),x=.ref a∧vs=[.bl true]∧Rd H a (.lst (bs.map V.bl))∧true∈bs∧bs.length<4000∧Q (.int (bs.idxOf true:Nat)) H
theorem bls_are:∀ {bs:List Bool} {vs:List Value},Vals (bs.map V.bl) vs→vs=bs.map Value.bool
  | [],_,r=>by cases r;rfl
  | b::bs,_,r=>by cases r with | cons r1 r2=>cases r1;rw [bls_are r2];rfl
theorem qc7:MtM X "list.index" rIndexT:=by
  intro pins s σ H x vs v us Q I rx rv h
  obtain ⟨a,bs,rfl,rfl,hH,hb,hlen,q⟩:=h
  cases rx
  obtain ⟨u,rfl,ru⟩:=rv.one
  cases ru
  obtain ⟨its,r,hl,_⟩:=yJ I hH
  cases bls_are r
  obtain ⟨⟨cls,dd,data,sl⟩,ho,hc,n,hd⟩:=id hl
  simp only at hc hd
  subst hc hd
  have hj:bs.idxOf true<bs.length:=List.idxOf_lt_length_iff.mpr hb
  refine call_meets PySem.F.slot_list_index ⟨_,ho,rfl⟩ PySem.F.entry_list_index (PySem.F.args_list_index_2 _ _)
    (list_indexAt a (bs.map Value.bool).toArray n dd sl (.bool true) eqT (bs.idxOf true) (by simpa using hj) (by lia) ?_ ?_) ⟨ho,fun y hy=>?_,?_⟩
  · rw [List.getElem_toArray,List.getElem_map,List.getElem_idxOf];rfl
  · intro j hjs hlt
    rw [List.getElem_toArray,List.getElem_map]
    show (bs[j] == true)=false
    exact List.not_of_lt_findIdx (xs:=bs) (p:=(· == true)) hlt
  · rw [List.mem_toArray,List.mem_map] at hy
    obtain ⟨b,_,rfl⟩:=hy
    exact EqAt.bool_bool _ _
  · exact ⟨.int (bs.idxOf true:Nat),H,I.tok _,⟨_,rfl⟩,q⟩
theorem bools_dens {ι:List Addr} {H:Hp}:∀ {l:List D} {bs:List Bool} {xs:List V},boolsOf l=some bs→Dens ι H l xs→xs=bs.map V.bl
  | [],bs,xs,h,hd=>by cases h;exact hd
  | .bl c::l,bs,xs,h,hd=>by
    obtain ⟨x,t,rfl,h1,h2⟩:=hd
    cases (show x=_ from h1)
    simp only [boolsOf] at h
    cases z:boolsOf l with
    | none=>rw [z] at h;cases h
    | some b2=>rw [z] at h;cases h;rw [bools_dens z h2];rfl
  | .non::_,_,_,h,_=>by cases h
  | .int _::_,_,_,h,_=>by cases h
  | .str _::_,_,_,h,_=>by cases h
  | .tup _::_,_,_,h,_=>by cases h
  | .lst _::_,_,_,h,_=>by cases h
  | .emp::_,_,_,h,_=>by cases h
  | .ref _::_,_,_,h,_=>by cases h
  | .exc _::_,_,_,h,_=>by cases h
theorem qi8 {o:Expr} {co:CE} {apos p':Pos} {j} (ho:QE X o (T (ev F co))) (hst:starEach [.Constant (.bool true) j p'] X.env=(false,eval (.Constant (.bool true) j p') X.env)::starEach [] X.env:=by rfl) (hbase:attributeBase o "index" X.env (eval o X.env)=eval o X.env:=by rfl) (hline:(apos.endLine == pos.line)=true:=by rfl)
    (hfew:((backTo pos (starEach [.Constant (.bool true) j p'] X.env)).all (fun x=>!x.1)&&(backToKw pos (keywordEach [] X.env)).all (fun x=>x.1.isSome)&&decide ([Expr.Constant (.bool true) j p'].length+([]:List Keyword).length+(if ([]:List Keyword).isEmpty then 0 else 1)<30))=true:=by rfl) (hplain:(backTo pos (starEach [] X.env)).any (·.1)=false:=by rfl) :
    QE X (.Call (.Attribute o "index" apos) [.Constant (.bool true) j p'] [] pos) (T (ev F (.ixT co))):=by
  delta QE;delta QE at ho
  refine PEimp (qgo PySem.F.plainAttrs_list PySem.F.slot_list_index PySem.F.type_list_index qc7 ho (qX qdh yi hst) hbase hfew hline hst hplain) fun σ H Q hw=>?_
  have hw:T (fun ρ S=>(ev F co ρ S).bind fun x S1=>ofO (ixtD S1 x) S1) σ H Q:=by
    obtain ⟨ι,S,ρ,er,st,p⟩:=hw
    unfold ev at p
    exact ⟨ι,S,ρ,er,st,p⟩
  refine TG.b1 hw fun ι S ρ x v H1 er st rx p=>?_
  obtain ⟨d,e,q⟩:=Pst.ofO p st
  unfold ixtD at e
  cases z:lstOf S x with
  | none=>rw [z] at e;cases e
  | some l =>
    rw [z,Option.bind_some] at e
    cases z2:boolsOf l with
    | none=>rw [z2] at e;cases e
    | some bs =>
      rw [z2,Option.bind_some] at e
      by_cases hb:true∈bs∧bs.length<4000
      · rw [if_pos hb] at e
        cases e
        obtain ⟨a,xs,rfl,hs,dl⟩:=qD st z rx
        cases bools_dens z2 dl
        exact ⟨.inl ⟨rfl,_,.inl hs⟩,⟨a,bs,rfl,rfl,hs,hb.1,hb.2,q _ ι H1 (Stp.refl _ _) st rfl⟩⟩
      · rw [if_neg hb] at e;cases e
end
end EX
end R
namespace R
open PySem PySem.Spec L2 SeqAt
open PyProof.Rows hiding St
open PySem.W (Frag excIn tailIn nsOkIn nsIn)
open EX
section
variable {X:Cx} {F:Fs} {N:Nat} {pos:Pos}
theorem qcf {st:Stmt} {C:Addr}:QS X st (TSm (ex F N (.raise C))):=by
  delta QS
  exact PSimp qdj fun D σ H hw=>let ⟨_,_,_,_,_,p⟩:=hw;p
theorem qeD {st:Stmt} {c:CS} (h:QS X st (TSm (ex F N c))):QS X st (TSm (ex F N (.cal c))):=by
  delta QS;delta QS at h
  refine PSimp h fun D σ H hw=>?_
  obtain ⟨ι,S,ρ,er,st,p⟩:=hw
  unfold ex at p
  refine ⟨ι,S,ρ,er,st,?_⟩
  cases z:ex F N c ρ S with
  | ok f S1=>rw [z] at p;exact p
  | err x S1=>rw [z] at p;exact p.elim
  | no=>rw [z] at p;exact p.elim
theorem qgz {e:Expr} {c:CB} (h:QT X e (TB (tst F c))):QT X e (TB (tst F (.cal c))):=by
  delta QT;delta QT at h
  refine PTimp h fun σ H Q hw=>?_
  obtain ⟨ι,S,ρ,er,st,p⟩:=hw
  unfold tst at p
  refine ⟨ι,S,ρ,er,st,?_⟩
  cases z:tst F c ρ S with
  | ok f S1=>rw [z] at p;exact p
  | err x S1=>rw [z] at p;exact p.elim
  | no=>rw [z] at p;exact p.elim
theorem qah:∀ (ρ:En) (S:Sr),noE (evs F .nil ρ S)=evs F .nil ρ S:=fun _ _=>rfl
theorem zt {i:Nat} {cs:CEs} (h:∀ ρ S,noE (evs F cs ρ S)=evs F cs ρ S):∀ ρ S,noE (evs F (.cons (.var i) cs) ρ S)=evs F (.cons (.var i) cs) ρ S:=by
  intro ρ S
  unfold evs ev varE
  have:=h ρ S
  split
  · rw [Res.bind_ok]
    cases z:evs F cs ρ S with
    | ok l S1=>rfl
    | err x S1=>rw [z] at this;cases this
    | no=>rfl
  · rfl
variable {p:Pos} {e:Expr} {es:List Expr} {cs:CEs}
end
theorem yP {Q:Addr→Bool→Prop}:∀ C b,lookA C []=some b→Q C b:=fun _ _ h=>by cases h
theorem qM {Q:Addr→Bool→Prop} {c:Addr} {b:Bool} {r:List (Addr × Bool)} (h:Q c b) (hr:∀ C b,lookA C r=some b→Q C b):∀ C b',lookA C ((c,b)::r)=some b'→Q C b':=fun C b' q=>by
  unfold lookA at q
  split at q
  · rename_i z;cases q;subst z;exact h
  · exact hr C b' q
theorem qi9 {Q:Addr→Prop} {r:List (Addr × Bool)} (h:∀ C b,lookA C r=some b→b=true→Q C):∀ C,lookA C r=some true→Q C:=fun C q=>h C true q rfl
theorem qW {K:Frag} {h:Heap} {mg:Str→Option Value} (X:K.In h) (G:h.Ns mainGlobals mg) {x:Str} {v u:Value} (a:nsIn K mainGlobals x=some (some v)) (e:v=u):mg x=some u:=e ▸ PySem.W.mg_of X G a
theorem qeE {K:Frag} {h:Heap} {mg:Str→Option Value} {x:Str} {C:Addr} {bmB:List Value} {newId:String} (X:K.In h) (hm:mg x=some (.ref C)) (q:excIn K C bmB newId=true):OwnCls x C bmB newId mg h:=⟨hm,by
  revert q;unfold excIn
  intro q
  split at q
  · rename_i ld cd sl lk
    split at q
    · rename_i D bm u0 u1 u2 u3 nn u5 em es
      cases cd with | mk nm bs mro ns qn hd sn sub ab col del=>?_
      simp only [Bool.and_eq_true,beq_iff_eq,Bool.not_eq_true'] at q
      have e2:sl=#[u0,u1,u2,u3,some (.builtin nn),u5]:=by cases sl;exact congrArg _ es
      have q1:=q.1.1.1.1.1;have q2:=q.1.1.1.1.2;have q3:=q.1.1.1.2;have q4:=q.1.1.2;have q5:=q.1.2;have q6:=q.2
      dsimp only at em q3 q5 q6
      subst q1 q2 q3 em e2
      exact ⟨_,_,_,_,_,_,_,_,_,_,_,_,_,_,_,_,_,X _ _ lk,.of_isNs (PySem.W.isNs_of_in X q5),PySem.W.nsMap_none_of_in X q5 q6,PySem.W.tail_of_in X q4⟩
    · cases q
  · cases q⟩
end R
namespace R
open PySem PySem.Spec L2 SeqAt
open PyProof.Rows hiding St
namespace EX
section
variable {X:Cx} {F:Fs} {N:Nat} {pos:Pos}
theorem qc8:CallR X (.builtin "isinstance") (fun xs H Q=>∃ a tp C b cs cv,xs=[.ref a,.ref tp]∧H a=some (.ext (Errs a C))∧H tp=some (.tup cs)∧(∀ us,Vals cs us→us=cv)∧ErrK X.K C∧PySem.W.kitAny X.K (.ref C) cv=some b∧Q (.bl b) H):=by
  intro pins s σ H xs us Q I r h
  obtain ⟨a,tp,C,b,cs,cv,rfl,h1,h2,h3,h4,h5,q⟩:=h
  obtain ⟨u,w',rfl,r1,r2⟩:=vals2 r
  cases r1
  cases r2
  obtain ⟨he,_⟩:=(show ObjOk X.prog X.w H s.heap a (.ext (Errs a C)) from I.hok a _ h1)
  obtain ⟨_,its,rv,p,_⟩:=(show ObjOk X.prog X.w H s.heap tp (.tup cs) from I.hok tp _ h2)
  cases h3 its rv
  obtain ⟨⟨oc,od,oda,osl⟩,ho,hc,n,hd⟩:=p
  dsimp only at hc hd
  subst hc hd
  exact PySem.W.kia_tup (qaY h4) I.kIn he ho h5 (fun z=>nomatch z) fun tk=>⟨.bl b,H,I.tok _,rfl,q⟩
noncomputable def tKs (cs:List V):TA:=fun _ H Q=>Q cs H
theorem qeF:PA X [] (tKs []):=yi
theorem qY {nm:Str} {p:Pos} {es:List Expr} {C:Addr} {cs:List V} (hm:X.mg nm=some (.ref C)) (h:PA X es (tKs cs)) (hg:Gl X nm:=by rfl) (hd:(nm == ("__debug__":Str))=false:=by decide) (hs:starEach (.Name nm p::es) X.env=(false,eval (.Name nm p) X.env)::starEach es X.env:=by rfl):PA X (.Name nm p::es) (tKs (.ref C::cs)) :=
  qX (jW (v:=.ref C) hg hm rfl hd) h hs
theorem jP:∀ {l:List Addr} {us:List Value},Vals (l.map V.ref) us→us=l.map Value.ref
  | [],_,r=>by cases r;rfl
  | a::l,_,r=>by cases r with | cons r1 r2=>cases r1;rw [jP r2];rfl
theorem qeG (t:List (Addr × Bool)) (l:List Addr) {a:Expr} {ca:CE} {p p':Pos} {es:List Expr} {k:Nat} (gb:Gb X.mg) (hes:PA X es (tKs (l.map V.ref))) (hl:l.length≤1000) (ht:∀ C b,lookA C t=some b→ErrK X.K C∧PySem.W.kitAny X.K (.ref C) (l.map .ref)=some b) (ha:QE X a (T (ev F ca))) (hg:Gl X "isinstance":=by rfl) (he:starEach [a,.Tuple es k p'] X.env=(false,eval a X.env)::starEach [.Tuple es k p'] X.env:=by rfl) (he2:starEach [.Tuple es k p'] X.env=(false,eval (.Tuple es k p') X.env)::starEach [] X.env:=by rfl) (hpl:(backTo pos (starEach [.Tuple es k p'] X.env)).any (·.1)=false:=by rfl) :
    QE X (.Call (.Name "isinstance" p) [a,.Tuple es k p'] [] pos) (T (ev F (.isx t ca))):=by
  delta QE;delta QE at ha
  refine PEimp (yu qc8 hg gb.isinstance jg (qX ha (qX (qdt hes) yi he2) he) (by decide) (by decide) he hpl) fun σ H Q hw=>?_
  have hw:T (fun ρ S=>(ev F ca ρ S).bind fun x S1=>ofO ((isxD t x).map .bl) S1) σ H Q:=by
    obtain ⟨ι,S,ρ,er,st,p⟩:=hw
    unfold ev at p
    exact ⟨ι,S,ρ,er,st,p⟩
  refine TG.b1 hw fun ι S ρ a b H1 er st ra p=>?_
  obtain ⟨d,e,q⟩:=Pst.ofO p st
  cases a with
  | exc C =>
    obtain ⟨b',z,rfl⟩:=Option.map_eq_some_iff.mp e
    obtain ⟨a0,rfl,n0,ha0⟩:=ra
    obtain ⟨h1,h2⟩:=ht C b' z
    refine ⟨by rw [List.length_map,sizeLine_eq];lia,fun tp htp=>?_⟩
    have hne:a0≠tp:=fun z=>by rw [z,htp] at ha0;cases ha0
    exact ⟨a0,tp,C,b',l.map V.ref,l.map .ref,rfl,by simp [upd,hne,ha0],by simp [upd],fun us=>jP,h1,h2,q _ ι (upd H1 tp (.tup (l.map V.ref))) (Stp.laid htp _) (st.laid htp _) rfl⟩
  | _=>cases e
noncomputable def rCountT:V→List V→Hp→VK→Prop:=fun x vs H Q=>∃ (a:Addr) (bs:List Bool),x=.ref a∧vs=[.bl true]∧Rd H a (.lst (bs.map V.bl))∧Q (.int (bs.count true:Nat)) H
theorem qbB (bs:List Bool):(bs.map Value.bool).countP eqT=bs.count true:=by
  rw [List.countP_map];rfl
theorem qc9:MtM X "list.count" rCountT:=by
  intro pins s σ H x vs v us Q I rx rv h
  obtain ⟨a,bs,rfl,rfl,hH,q⟩:=h
  cases rx
  obtain ⟨u,rfl,ru⟩:=rv.one
  cases ru
  obtain ⟨its,r,hl,_⟩:=yJ I hH
  cases bls_are r
  obtain ⟨⟨cls,dd,data,sl⟩,ho,hc,n,hd⟩:=id hl
  simp only at hc hd
  subst hc hd
  refine call_meets PySem.F.slot_list_count ⟨_,ho,rfl⟩ PySem.F.entry_list_count (PySem.F.args_list_count_2 _ _) (list_countAt a (bs.map Value.bool).toArray n dd sl (.bool true) eqT) ⟨ho,fun y hy=>?_,?_⟩
  · rw [List.mem_toArray,List.mem_map] at hy
    obtain ⟨b,_,rfl⟩:=hy
    exact EqAt.bool_bool _ _
  · rw [show (bs.map Value.bool).toArray.toList=bs.map Value.bool from rfl,qbB]
    exact ⟨.int (bs.count true:Nat),H,I.tok _,⟨_,rfl⟩,q⟩
theorem qhV {o:Expr} {co:CE} {apos p':Pos} {j} (ho:QE X o (T (ev F co))) (hst:starEach [.Constant (.bool true) j p'] X.env=(false,eval (.Constant (.bool true) j p') X.env)::starEach [] X.env:=by rfl) (hbase:attributeBase o "count" X.env (eval o X.env)=eval o X.env:=by rfl) (hline:(apos.endLine == pos.line)=true:=by rfl)
    (hfew:((backTo pos (starEach [.Constant (.bool true) j p'] X.env)).all (fun x=>!x.1)&&(backToKw pos (keywordEach [] X.env)).all (fun x=>x.1.isSome)&&decide ([Expr.Constant (.bool true) j p'].length+([]:List Keyword).length+(if ([]:List Keyword).isEmpty then 0 else 1)<30))=true:=by rfl) (hplain:(backTo pos (starEach [] X.env)).any (·.1)=false:=by rfl) :
    QE X (.Call (.Attribute o "count" apos) [.Constant (.bool true) j p'] [] pos) (T (ev F (.blt .sumB (.cons co .nil)))):=by
  delta QE;delta QE at ho
  refine PEimp (qgo PySem.F.plainAttrs_list PySem.F.slot_list_count PySem.F.type_list_count qc9 ho (qX qdh yi hst) hbase hfew hline hst hplain) fun σ H Q hw=>?_
  have hw:T (fun ρ S=>(ev F co ρ S).bind fun x S1=>bSumB x S1) σ H Q:=by
    obtain ⟨ι,S,ρ,er,st,p⟩:=hw
    refine ⟨ι,S,ρ,er,st,?_⟩
    show Pst Den ((ev F co ρ S).bind fun x S1=>bSumB x S1) ι H Q
    cases z:ev F co ρ S with
    | ok x S1=>simp only [ev,evs,z,Res.bind,bltD,one] at p;exact p
    | err x S1=>simp only [ev,evs,z,Res.bind] at p;exact p.elim
    | no=>simp only [ev,evs,z,Res.bind] at p;exact p.elim
  refine TG.b1 hw fun ι S ρ x v H1 er st rx p=>?_
  obtain ⟨d,e,q⟩:=Pst.ofO p st
  cases z:lstOf S x with
  | none=>rw [z] at e;cases e
  | some l =>
    rw [z] at e
    cases z2:boolsOf l with
    | none=>rw [Option.bind_some,z2] at e;cases e
    | some bs =>
      rw [Option.bind_some,z2] at e
      cases e
      obtain ⟨a,xs,rfl,hs,dl⟩:=qD st z rx
      cases bools_dens z2 dl
      exact ⟨.inl ⟨rfl,_,.inl hs⟩,⟨a,bs,rfl,rfl,hs,q _ ι H1 (Stp.refl _ _) st rfl⟩⟩
end
end EX
end R
namespace RP
open R
def c_0:CF:=⟨1,1,false,.cons (.ret (.and (.isi .int (.var 0)) (.not (.isi .bool (.var 0))))) .nil⟩
def c_1:CF:=⟨3,3,false,.cons (.ret (.and (.call 0 (.cons (.var 0) .nil)) (.chain .le .le (.var 1) (.var 0) (.var 2)))) .nil⟩
def c_2:CF:=⟨2,2,false,.cons (.whileS (.val (.var 1)) (.cons (.set (.tup (.cons (.var 0) (.cons (.var 1) .nil))) (.tup (.cons (.var 1) (.cons (.bin .mod (.var 0) (.var 1)) .nil)))) .nil)) (.cons (.ret (.var 0)) .nil)⟩
def c_3:CF:=⟨2,3,false,.cons (.set (.var 2) (.call 2 (.cons (.blt .abs (.cons (.var 0) .nil)) (.cons (.var 1) .nil)))) (.cons (.ret (.tup (.cons (.bin .fdiv (.var 0) (.var 2)) (.cons (.bin .fdiv (.var 1) (.var 2)) .nil)))) .nil)⟩
def c_4:CF:=⟨2,2,false,.cons (.ifs (.or (.not (.val (.isi .tuple (.var 0)))) (.not (.val (.var 0)))) (.cons (.ret (.cst (.bl false))) .nil) .nil) (.cons (.ret (.and (.gen .all [1] 1 (.call 1 (.cons (.var 1) (.cons (.cst (.int 0)) (.cons (.bin .sub (.var 0) (.cst (.int 1))) .nil)))) (.var 1) (.seq (.var 0)) .nil) (.call 5 (.cons (.var 0) .nil)))) .nil)⟩
def c_5:CF:=⟨1,1,false,.cons (.ret (.gen .all [] 2 (.cmp .lt (.var 0) (.var 1)) (.tup (.cons (.var 0) (.cons (.var 1) .nil))) (.zip (.var 0) (.slc (.var 0) (.some (.cst (.int 1))) .none)) .nil)) .nil⟩
def c_6:CF:=⟨1,3,false,.cons (.ifs (.or (.not (.val (.isi .tuple (.var 0)))) (.val (.cmp .ne (.blt .len (.cons (.var 0) .nil)) (.cst (.int 2))))) (.cons (.ret (.cst (.bl false))) .nil) .nil) (.cons (.set (.tup (.cons (.var 1) (.cons (.var 2) .nil))) (.var 0)) (.cons (.ret (.and (.call 1 (.cons (.var 1) (.cons (.cst (.int 1)) (.cons (.cst (.int 6)) .nil)))) (.call 7 (.cons (.var 2) (.cons (.var 1) .nil))))) .nil))⟩
def c_7:CF:=⟨2,2,false,.cons (.ifs (.or (.not (.val (.isi .tuple (.var 0)))) (.val (.cmp .gt (.blt .len (.cons (.var 0) .nil)) (.cst (.int 20))))) (.cons (.ret (.cst (.bl false))) .nil) .nil) (.cons (.ifs (.not (.val (.gen .all [1] 1 (.call 8 (.cons (.var 1) (.cons (.var 0) .nil))) (.var 1) (.seq (.var 0)) .nil))) (.cons (.ret (.cst (.bl false))) .nil) .nil) (.cons (.ret (.call 5 (.cons (.lc false [] 3 (.tup (.cons (.var 0) (.cons (.var 1) .nil))) (.tup (.cons (.var 0) (.cons (.var 1) (.cons (.var 2) .nil)))) (.seq (.var 0)) .nil) .nil))) .nil))⟩
def c_8:CF:=⟨2,5,false,.cons (.ifs (.or (.not (.val (.isi .tuple (.var 0)))) (.val (.cmp .ne (.blt .len (.cons (.var 0) .nil)) (.cst (.int 3))))) (.cons (.ret (.cst (.bl false))) .nil) .nil) (.cons (.set (.tup (.cons (.var 2) (.cons (.var 3) (.cons (.var 4) .nil)))) (.var 0)) (.cons (.ifs (.or (.not (.val (.call 1 (.cons (.var 2) (.cons (.cst (.int 0)) (.cons (.bin .sub (.var 1) (.cst (.int 1))) .nil)))))) (.not (.val (.call 1 (.cons (.var 3) (.cons (.cst (.int 0)) (.cons (.bin .sub (.var 1) (.cst (.int 1))) .nil))))))) (.cons (.ret (.cst (.bl false))) .nil) .nil) (.cons (.ret (.call 1 (.cons (.var 4) (.cons (.cst (.int 1)) (.cons (.cst (.int 1000000)) .nil))))) .nil)))⟩
def c_9:CF:=⟨1,1,false,.cons (.ifs (.cal (.not (.val (.call 6 (.cons (.var 0) .nil))))) (.cons (.raise 145) .nil) .nil) .nil⟩
def c_10:CF:=⟨3,5,false,.cons (.expr (.call 9 (.cons (.var 0) .nil))) (.cons (.cal (.set (.tup (.cons (.var 3) (.cons (.var 4) .nil))) (.var 0))) (.cons (.ifs (.cal (.or (.not (.val (.call 4 (.cons (.var 1) (.cons (.var 3) .nil))))) (.not (.val (.call 4 (.cons (.var 2) (.cons (.var 3) .nil))))))) (.cons (.raise 77) .nil) .nil) (.cons (.cal (.ret (.gen .sum [1,2] 3 (.var 4) (.tup (.cons (.var 2) (.cons (.var 3) (.cons (.var 4) .nil)))) (.seq (.var 4)) (.cons (.and (.val (.cmp .inn (.var 2) (.var 0))) (.val (.cmp .inn (.var 3) (.var 1)))) .nil)))) .nil)))⟩
def c_11:CF:=⟨3,4,false,.cons (.set (.var 3) (.call 10 (.cons (.var 0) (.cons (.var 1) (.cons (.var 2) .nil))))) (.cons (.cal (.ret (.call 3 (.cons (.bin .mul (.var 3) (.var 3)) (.cons (.bin .mul (.blt .len (.cons (.var 1) .nil)) (.blt .len (.cons (.var 2) .nil))) .nil))))) .nil)⟩
def c_12:CF:=⟨1,1,false,.cons (.ret (.bin .mod (.bin .mul (.bin .mod (.var 0) (.bin .pow (.cst (.int 10)) (.cst (.int 60)))) (.cst (.int 845098040014256830712216258592636193483572396323965406503637))) (.bin .pow (.cst (.int 10)) (.cst (.int 60))))) .nil⟩
def c_13:CF:=⟨2,5,true,.cons (.set (.var 2) (.cst (.int 0))) (.cons (.forS (.var 3) (.seq (.lst false (.cons (.bin .add (.var 1) (.cst (.int 1))) (.cons (.var 1) .nil)))) (.cons (.set (.var 4) (.idx (.bin .add (.slc (.var 0) (.some (.var 3)) (.some (.bin .add (.var 3) (.cst (.int 1))))) (.lst false (.cons (.bin .add (.bin .add (.bin .mul (.cst (.int 5701)) (.var 3)) (.cst (.int 43))) (.bin .mul (.cst (.int 7)) (.idx (.bin .add (.var 0) (.lst false (.cons (.cst (.int 0)) .nil))) (.cst (.int 0))))) .nil))) (.cst (.int 0)))) (.cons (.set (.var 2) (.bin .add (.bin .mul (.var 2) (.bin .pow (.cst (.int 10)) (.cst (.int 60)))) (.call 12 (.cons (.var 4) .nil)))) .nil))) (.cons (.ret (.lst true (.cons (.var 2) .nil))) .nil))⟩
def c_14:CF:=⟨2,3,false,.cons (.set (.tup (.cons (.sub (.var 0) (.cst (.int 0))) (.cons (.var 2) .nil))) (.blt .divmod (.cons (.idx (.var 0) (.cst (.int 0))) (.cons (.var 1) .nil)))) (.cons (.ret (.var 2)) .nil)⟩
def c_15:CF:=⟨2,3,false,.cons (.set (.var 2) (.bin .add (.cst (.int 1)) (.call 14 (.cons (.var 0) (.cons (.bin .sub (.bin .shl (.cst (.int 1)) (.var 1)) (.cst (.int 1))) .nil))))) (.cons (.ret (.blt .tuple (.cons (.lc false [2] 1 (.var 1) (.var 1) (.rng (.cons (.var 1) .nil)) (.cons (.val (.cmp .eq (.bin .band (.bin .shr (.var 0) (.var 1)) (.cst (.int 1))) (.cst (.int 1)))) .nil)) .nil))) .nil)⟩
def c_16:CF:=⟨2,4,false,.cons (.set (.tup (.cons (.var 2) (.cons (.var 3) .nil))) (.tup (.cons (.blt .abs (.cons (.var 0) .nil)) (.cons (.blt .abs (.cons (.var 1) .nil)) .nil)))) (.cons (.whileS (.val (.cmp .ne (.var 3) (.cst (.int 0)))) (.cons (.set (.tup (.cons (.var 2) (.cons (.var 3) .nil))) (.tup (.cons (.var 3) (.cons (.bin .mod (.var 2) (.var 3)) .nil)))) .nil)) (.cons (.ifs (.val (.cmp .lt (.var 1) (.cst (.int 0)))) (.cons (.set (.var 2) (.bin .sub (.cst (.int 0)) (.var 2))) .nil) .nil) (.cons (.ret (.tup (.cons (.bin .fdiv (.var 0) (.var 2)) (.cons (.bin .fdiv (.var 1) (.var 2)) .nil)))) .nil)))⟩
def c_17:CF:=⟨3,8,false,.cons (.set (.var 3) (.bin .add (.cst (.int 1)) (.call 14 (.cons (.var 0) (.cons (.var 1) .nil))))) (.cons (.set (.var 4) (.dic true)) (.cons (.forS (.var 5) (.rng (.cons (.call 14 (.cons (.var 0) (.cons (.bin .add (.var 2) (.cst (.int 1))) .nil))) .nil)) (.cons (.set (.tup (.cons (.var 6) (.cons (.var 7) .nil))) (.tup (.cons (.call 14 (.cons (.var 0) (.cons (.var 3) .nil))) (.cons (.call 14 (.cons (.var 0) (.cons (.var 3) .nil))) .nil)))) (.cons (.set (.sub (.var 4) (.tup (.cons (.var 6) (.cons (.var 7) .nil)))) (.bin .add (.cst (.int 1)) (.call 14 (.cons (.var 0) (.cons (.cst (.int 9)) .nil))))) .nil))) (.cons (.ret (.tup (.cons (.var 3) (.cons (.blt .tuple (.cons (.lc false [4] 1 (.bin .add (.var 1) (.tup (.cons (.idx (.var 0) (.var 1)) .nil))) (.var 1) (.seq (.blt (.sorted false) (.cons (.var 4) .nil))) .nil) .nil)) .nil)))) .nil)))⟩
def c_18:CF:=⟨3,3,false,.cons (.ret (.blt .sum (.cons (.lc false [1,2] 3 (.var 4) (.tup (.cons (.var 2) (.cons (.var 3) (.cons (.var 4) .nil)))) (.seq (.idx (.var 0) (.cst (.int 1)))) (.cons (.and (.val (.cmp .inn (.var 2) (.var 0))) (.val (.cmp .inn (.var 3) (.var 1)))) .nil)) .nil))) .nil⟩
def c_19:CF:=⟨3,4,false,.cons (.set (.var 3) (.call 18 (.cons (.var 0) (.cons (.var 1) (.cons (.var 2) .nil))))) (.cons (.ret (.call 16 (.cons (.bin .mul (.var 3) (.var 3)) (.cons (.bin .mul (.blt .len (.cons (.var 1) .nil)) (.blt .len (.cons (.var 2) .nil))) .nil)))) .nil)⟩
def c_20:CF:=⟨4,8,false,.cons (.set (.var 4) (.cst .non)) (.cons (.tryX [(145,true),(77,true)] 5 (.cons (.ifs (.cal (.val (.cmp .eq (.var 0) (.cst (.int 0))))) (.cons (.expr (.call 10 (.cons (.var 1) (.cons (.var 2) (.cons (.var 3) .nil))))) .nil) (.cons (.expr (.call 11 (.cons (.var 1) (.cons (.var 2) (.cons (.var 3) .nil))))) .nil)) .nil) (.cons (.set (.var 4) (.var 5)) .nil)) (.cons (.set (.var 6) (.lst false (.cons (.isx [(145,true),(77,false)] (.var 4)) (.cons (.isx [(145,false),(77,true)] (.var 4)) .nil)))) (.cons (.set (.var 7) (.isx [(145,false),(77,false)] (.var 4))) (.cons (.set (.var 7) (.or (.var 7) (.isx [(145,false),(77,false)] (.var 4)))) (.cons (.ifs (.or (.val (.var 7)) (.or (.not (.val (.isx [(145,true),(77,true)] (.var 4)))) (.val (.cmp .ne (.blt .sumB (.cons (.var 6) .nil)) (.cst (.int 1)))))) (.cons (.ret (.cst (.str (PySem.Str.ofString "other")))) .nil) .nil) (.cons (.ret (.idx (.lst false (.cons (.cst (.str (PySem.Str.ofString "arrows"))) (.cons (.cst (.str (PySem.Str.ofString "part"))) .nil))) (.ixT (.var 6)))) .nil))))))⟩
def c_21:CF:=⟨3,6,false,.cons (.set (.var 3) (.call 14 (.cons (.var 0) (.cons (.blt .len (.cons (.var 2) .nil)) .nil)))) (.cons (.set (.var 4) (.idx (.lst false (.cons (.var 1) (.cons (.bin .sub (.cst (.int 0)) (.cst (.int 1))) (.cons (.cst (.bl true)) (.cons (.cst .non) (.cons (.cst (.str (PySem.Str.ofString "0"))) (.cons (.tup (.cons (.cst (.int 0)) .nil)) (.cons (.lst false (.cons (.cst (.int 0)) .nil)) .nil)))))))) (.call 14 (.cons (.var 0) (.cons (.cst (.int 7)) .nil))))) (.cons (.set (.var 5) (.lst false (.cons (.bin .add (.bin .add (.slc (.var 2) .none (.some (.var 3))) (.tup (.cons (.var 4) .nil))) (.slc (.var 2) (.some (.bin .add (.var 3) (.cst (.int 1)))) .none)) (.cons (.bin .add (.var 2) (.slc (.var 2) (.some (.var 3)) (.some (.bin .add (.var 3) (.cst (.int 1)))))) (.cons (.tup .nil) (.cons (.blt (.list false) (.cons (.var 2) .nil)) (.cons (.cst .non) (.cons (.cst (.int 0)) (.cons (.cst (.str (PySem.Str.ofString ""))) (.cons (.dic false) (.cons (.tup (.cons (.var 1) .nil)) .nil))))))))))) (.cons (.ret (.idx (.var 5) (.call 14 (.cons (.var 0) (.cons (.cst (.int 9)) .nil))))) .nil)))⟩
def c_22:CF:=⟨2,11,false,.cons (.set (.var 2) (.idx (.var 1) (.cst (.int 0)))) (.cons (.set (.tup (.cons (.var 3) (.cons (.var 4) .nil))) (.tup (.cons (.call 15 (.cons (.var 0) (.cons (.var 2) .nil))) (.cons (.call 15 (.cons (.var 0) (.cons (.var 2) .nil))) .nil)))) (.cons (.forS (.tup (.cons (.var 5) (.cons (.var 6) .nil))) (.seq (.lst false (.cons (.tup (.cons (.var 3) (.cons (.var 4) .nil))) (.cons (.tup (.cons (.var 4) (.cons (.var 3) .nil))) (.cons (.tup (.cons (.var 3) (.cons (.var 3) .nil))) (.cons (.tup (.cons (.rng none (.cons (.var 2) .nil)) (.cons (.var 4) .nil))) .nil)))))) (.cons (.ifs (.val (.cmp .ne (.call 10 (.cons (.var 1) (.cons (.var 5) (.cons (.var 6) .nil)))) (.call 18 (.cons (.var 1) (.cons (.var 5) (.cons (.var 6) .nil)))))) (.cons (.ret (.cst (.bl false))) .nil) .nil) (.cons (.ifs (.val (.cmp .ne (.call 11 (.cons (.var 1) (.cons (.var 5) (.cons (.var 6) .nil)))) (.call 19 (.cons (.var 1) (.cons (.var 5) (.cons (.var 6) .nil)))))) (.cons (.ret (.cst (.bl false))) .nil) .nil) .nil))) (.cons (.forS (.var 7) (.rng (.cons (.cst (.int 2)) .nil)) (.cons (.forS (.var 8) (.rng (.cons (.cst (.int 3)) .nil)) (.cons (.set (.var 9) (.call 21 (.cons (.var 0) (.cons (.var 2) (.cons (.var 3) .nil))))) (.cons (.set (.var 10) (.lst false (.cons (.tup (.cons (.var 2) (.cons (.idx (.var 1) (.cst (.int 1))) (.cons (.cst (.int 0)) .nil)))) (.cons (.tup (.cons (.cst (.int 0)) (.cons (.tup .nil) .nil))) (.cons (.cst .non) (.cons (.lst false (.cons (.var 2) (.cons (.idx (.var 1) (.cst (.int 1))) .nil))) (.cons (.tup (.cons (.var 2) (.cons (.tup (.cons (.tup (.cons (.cst (.int 0)) (.cons (.cst (.int 0)) (.cons (.cst (.int 0)) .nil)))) .nil)) .nil))) (.cons (.tup (.cons (.cst (.int 7)) (.cons (.tup .nil) .nil))) .nil)))))))) (.cons (.set (.var 10) (.bin .add (.var 10) (.lst false (.cons (.tup (.cons (.var 2) (.cons (.tup (.cons (.tup (.cons (.cst (.int 0)) (.cons (.cst (.int 0)) (.cons (.bin .add (.bin .pow (.cst (.int 10)) (.cst (.int 6))) (.cst (.int 1))) .nil)))) .nil)) .nil))) (.cons (.tup (.cons (.cst (.int 6)) (.cons (.blt .tuple (.cons (.lc false [] 1 (.tup (.cons (.bin .fdiv (.var 0) (.cst (.int 6))) (.cons (.bin .mod (.var 0) (.cst (.int 6))) (.cons (.cst (.int 1)) .nil)))) (.var 0) (.rng (.cons (.cst (.int 21)) .nil)) .nil) .nil)) .nil))) .nil))))) (.cons (.set (.var 10) (.idx (.var 10) (.call 14 (.cons (.var 0) (.cons (.cst (.int 8)) .nil))))) (.cons (.ifs (.or (.val (.cmp .ne (.call 20 (.cons (.var 7) (.cons (.var 1) (.cons (.var 9) (.cons (.var 4) .nil))))) (.cst (.str (PySem.Str.ofString "part"))))) (.val (.cmp .ne (.call 20 (.cons (.var 7) (.cons (.var 1) (.cons (.var 4) (.cons (.var 9) .nil))))) (.cst (.str (PySem.Str.ofString "part")))))) (.cons (.ret (.cst (.bl false))) .nil) .nil) (.cons (.ifs (.or (.val (.cmp .ne (.call 20 (.cons (.var 7) (.cons (.var 10) (.cons (.var 9) (.cons (.var 4) .nil))))) (.cst (.str (PySem.Str.ofString "arrows"))))) (.val (.cmp .ne (.call 20 (.cons (.var 7) (.cons (.var 10) (.cons (.var 4) (.cons (.var 4) .nil))))) (.cst (.str (PySem.Str.ofString "arrows")))))) (.cons (.ret (.cst (.bl false))) .nil) .nil) .nil))))))) .nil)) (.cons (.ret (.cmp .eq (.call 10 (.cons (.var 1) (.cons (.var 3) (.cons (.var 4) .nil)))) (.call 18 (.cons (.var 1) (.cons (.var 3) (.cons (.var 4) .nil)))))) .nil))))⟩
def qaZ:CF:=⟨1,2,false,.cons (.forS (.var 1) (.rng (.cons (.cst (.int 0)) (.cons (.blt .max2 (.cons (.cst (.int 1)) (.cons (.blt .min2 (.cons (.blt .len (.cons (.var 0) .nil)) (.cons (.cst (.int 12)) .nil))) .nil))) (.cons (.cst (.int 2)) .nil)))) (.cons (.ifs (.not (.val (.call 22 (.cons (.call 13 (.cons (.var 0) (.cons (.bin .add (.var 1) (.cst (.int 1))) .nil))) (.cons (.call 17 (.cons (.call 13 (.cons (.var 0) (.cons (.var 1) .nil))) (.cons (.cst (.int 6)) (.cons (.cst (.int 12)) .nil)))) .nil))))) (.cons (.ret (.cst (.bl false))) .nil) .nil) .nil)) (.cons (.ret (.cst (.bl true))) .nil)⟩
noncomputable def prg:List CF:=[c_0,c_1,c_2,c_3,c_4,c_5,c_6,c_7,c_8,c_9,c_10,c_11,c_12,c_13,c_14,c_15,c_16,c_17,c_18,c_19,c_20,c_21,c_22,qaZ]
end RP
namespace RP
open PySem PySem.Spec L2 SeqAt R R.EX
open PyProof.Rows hiding St
noncomputable def top (i:Nat):Stmt:=PySem.Challenge.pw_weblayers_k56_flows_and_square_shares.main.body.getD i (.Pass ⟨0,0,0,0⟩)
structure Pre (K:PySem.W.Frag) (mg:Str→Option Value):Prop where
  gb:Gb mg
  g_MOST_ARROW_PLACES:∃ t:Tok,mg "MOST_ARROW_PLACES"=some (.int 6 t)
  g_MOST_WAYS:∃ t:Tok,mg "MOST_WAYS"=some (.int 20 t)
  g_MOST_WEIGHT:∃ t:Tok,mg "MOST_WEIGHT"=some (.int 1000000 t)
  x_NoArrows:mg "NoArrows"=some (.ref 145)
  x_NoCall:mg "NoCall"=some (.ref 209)
  x_NoKept:mg "NoKept"=some (.ref 229)
  x_NoLaying:mg "NoLaying"=some (.ref 89)
  x_NoMeasure:mg "NoMeasure"=some (.ref 101)
  x_NoNumber:mg "NoNumber"=some (.ref 169)
  x_NoPart:mg "NoPart"=some (.ref 77)
  x_NoRoad:mg "NoRoad"=some (.ref 121)
  x_NoSize:mg "NoSize"=some (.ref 133)
  x_NoText:mg "NoText"=some (.ref 189)
  x_NoThread:mg "NoThread"=some (.ref 157)
  x_NoWeb:mg "NoWeb"=some (.ref 65)
  x_WebError:mg "WebError"=some (.ref 52)
  x_ValueError:mg "ValueError"=none
  er_NoArrows:R.EX.excRow K 145=some [.ref 52,.type "ValueError",.type "Exception",.type "BaseException",.type "object"]
  er_NoPart:R.EX.excRow K 77=some [.ref 52,.type "ValueError",.type "Exception",.type "BaseException",.type "object"]
  er_WebError:R.EX.excRow K 52=some [.type "ValueError",.type "Exception",.type "BaseException",.type "object"]
  ei_NoArrows:PySem.W.excIn K 145 [.type "ValueError",.type "Exception",.type "BaseException",.type "object"] "ValueError.__new__"=true
  ek_NoArrows:R.EX.ErrK K 145
  ka_NoArrows_NoCall_NoKept_NoLaying_NoMeasure_NoNumber_NoRoad:PySem.W.kitAny K (.ref 145) [.ref 209,.ref 229,.ref 89,.ref 101,.ref 169,.ref 121]=some false
  ka_NoArrows_NoSize_NoText_NoThread_NoWeb:PySem.W.kitAny K (.ref 145) [.ref 133,.ref 189,.ref 157,.ref 65]=some false
  ki_NoArrows_NoArrows:PySem.W.kitOne K (.ref 145) (.ref 145)=some true
  ki_NoArrows_NoPart:PySem.W.kitOne K (.ref 145) (.ref 77)=some false
  ki_NoArrows_ValueError:PySem.W.kitOne K (.ref 145) (.type "ValueError")=some true
  ei_NoPart:PySem.W.excIn K 77 [.type "ValueError",.type "Exception",.type "BaseException",.type "object"] "ValueError.__new__"=true
  ek_NoPart:R.EX.ErrK K 77
  ka_NoPart_NoCall_NoKept_NoLaying_NoMeasure_NoNumber_NoRoad:PySem.W.kitAny K (.ref 77) [.ref 209,.ref 229,.ref 89,.ref 101,.ref 169,.ref 121]=some false
  ka_NoPart_NoSize_NoText_NoThread_NoWeb:PySem.W.kitAny K (.ref 77) [.ref 133,.ref 189,.ref 157,.ref 65]=some false
  ki_NoPart_NoArrows:PySem.W.kitOne K (.ref 77) (.ref 145)=some false
  ki_NoPart_NoPart:PySem.W.kitOne K (.ref 77) (.ref 77)=some true
  ki_NoPart_ValueError:PySem.W.kitOne K (.ref 77) (.type "ValueError")=some true
  u_0:DefIn K mg "is_whole" (top 1) ["thing"]
  u_1:DefIn K mg "is_whole_within" (top 2) ["thing","least","most"]
  u_2:DefIn K mg "common_divisor" (top 3) ["one","other"]
  u_3:DefIn K mg "lowest" (top 4) ["top","bottom"]
  u_4:DefIn K mg "are_places" (top 21) ["thing","many"]
  u_5:DefIn K mg "is_rising" (top 22) ["things"]
  u_6:DefIn K mg "is_arrows" (top 26) ["thing"]
  u_7:DefIn K mg "are_ways" (top 27) ["thing","many"]
  u_8:DefIn K mg "is_way" (top 28) ["thing","many"]
  u_9:DefIn K mg "need_arrows" (top 29) ["thing"]
  u_10:DefIn K mg "flow" (top 30) ["arrows","ones","others"]
  u_11:DefIn K mg "square_share" (top 31) ["arrows","ones","others"]
  u_12:DefIn K mg "_law_mixed" (top 33) ["_law_cell"]
  u_13:DefIn K mg "_law_pack" (top 34) ["_law_script","_law_k"]
  u_14:DefIn K mg "_law_take" (top 35) ["_law_pack_here","_law_size"]
  u_15:DefIn K mg "_law_part" (top 36) ["_law_pack_here","_law_many"]
  u_16:DefIn K mg "_law_low" (top 37) ["_law_top","_law_bottom"]
  u_17:DefIn K mg "_law_arrows" (top 38) ["_law_pack_here","_law_most","_law_ways"]
  u_18:DefIn K mg "_law_flow" (top 39) ["_law_arrows_here","_law_ones","_law_others"]
  u_19:DefIn K mg "_law_square" (top 40) ["_law_arrows_here","_law_ones","_law_others"]
  u_20:DefIn K mg "_law_kind" (top 41) ["_law_ask","_law_arrows_here","_law_ones","_law_others"]
  u_21:DefIn K mg "_law_bad_set" (top 42) ["_law_pack_here","_law_many","_law_part_here"]
  u_22:DefIn K mg "_law_right" (top 43) ["_law_pack_here","_law_arrows_here"]
  u_23:DefIn K mg "law" (top 44) ["_law_script"]
structure All (P:Program) (w:World) (K:PySem.W.Frag) (mg:Str→Option Value) (base:Heap) (k:Nat) (F:Fs):Prop where
  h_0:FnAt P w K mg base k F 0 "is_whole" ["thing"]
  h_1:FnAt P w K mg base k F 1 "is_whole_within" ["thing","least","most"]
  h_2:FnAt P w K mg base k F 2 "common_divisor" ["one","other"]
  h_3:FnAt P w K mg base k F 3 "lowest" ["top","bottom"]
  h_4:FnAt P w K mg base k F 4 "are_places" ["thing","many"]
  h_5:FnAt P w K mg base k F 5 "is_rising" ["things"]
  h_6:FnAt P w K mg base k F 6 "is_arrows" ["thing"]
  h_7:FnAt P w K mg base k F 7 "are_ways" ["thing","many"]
  h_8:FnAt P w K mg base k F 8 "is_way" ["thing","many"]
  h_9:FnAt P w K mg base k F 9 "need_arrows" ["thing"]
  h_10:FnAt P w K mg base k F 10 "flow" ["arrows","ones","others"]
  h_11:FnAt P w K mg base k F 11 "square_share" ["arrows","ones","others"]
  h_12:FnAt P w K mg base k F 12 "_law_mixed" ["_law_cell"]
  h_13:FnAt P w K mg base k F 13 "_law_pack" ["_law_script","_law_k"]
  h_14:FnAt P w K mg base k F 14 "_law_take" ["_law_pack_here","_law_size"]
  h_15:FnAt P w K mg base k F 15 "_law_part" ["_law_pack_here","_law_many"]
  h_16:FnAt P w K mg base k F 16 "_law_low" ["_law_top","_law_bottom"]
  h_17:FnAt P w K mg base k F 17 "_law_arrows" ["_law_pack_here","_law_most","_law_ways"]
  h_18:FnAt P w K mg base k F 18 "_law_flow" ["_law_arrows_here","_law_ones","_law_others"]
  h_19:FnAt P w K mg base k F 19 "_law_square" ["_law_arrows_here","_law_ones","_law_others"]
  h_20:FnAt P w K mg base k F 20 "_law_kind" ["_law_ask","_law_arrows_here","_law_ones","_law_others"]
  h_21:FnAt P w K mg base k F 21 "_law_bad_set" ["_law_pack_here","_law_many","_law_part_here"]
  h_22:FnAt P w K mg base k F 22 "_law_right" ["_law_pack_here","_law_arrows_here"]
  h_23:FnAt P w K mg base k F 23 "law" ["_law_script"]
  x_9:FnAtX P w K mg base k F 9 "need_arrows" ["thing"]
  x_10:FnAtX P w K mg base k F 10 "flow" ["arrows","ones","others"]
  x_11:FnAtX P w K mg base k F 11 "square_share" ["arrows","ones","others"]
theorem sc_0:FnScope ["thing"] ["thing"] (defScope (top 1)):=⟨rfl,rfl,rfl,by decide +kernel,rfl,by decide +kernel,by decide +kernel⟩
theorem sc_1:FnScope ["thing","least","most"] ["thing","least","most"] (defScope (top 2)):=⟨rfl,rfl,rfl,by decide +kernel,rfl,by decide +kernel,by decide +kernel⟩
theorem sc_2:FnScope ["one","other"] ["one","other"] (defScope (top 3)):=⟨rfl,rfl,rfl,by decide +kernel,rfl,by decide +kernel,by decide +kernel⟩
theorem sc_3:FnScope ["top","bottom","divisor"] ["top","bottom"] (defScope (top 4)):=⟨rfl,rfl,rfl,by decide +kernel,rfl,by decide +kernel,by decide +kernel⟩
theorem sc_4:FnScope ["thing","many"] ["thing","many"] (defScope (top 21)):=⟨rfl,rfl,rfl,by decide +kernel,rfl,by decide +kernel,by decide +kernel⟩
theorem sc_5:FnScope ["things"] ["things"] (defScope (top 22)):=⟨rfl,rfl,rfl,by decide +kernel,rfl,by decide +kernel,by decide +kernel⟩
theorem sc_6:FnScope ["thing","many","ways"] ["thing"] (defScope (top 26)):=⟨rfl,rfl,rfl,by decide +kernel,rfl,by decide +kernel,by decide +kernel⟩
theorem sc_7:FnScope ["thing","many"] ["thing","many"] (defScope (top 27)):=⟨rfl,rfl,rfl,by decide +kernel,rfl,by decide +kernel,by decide +kernel⟩
theorem sc_8:FnScope ["thing","many","start","goal","heavy"] ["thing","many"] (defScope (top 28)):=⟨rfl,rfl,rfl,by decide +kernel,rfl,by decide +kernel,by decide +kernel⟩
theorem sc_9:FnScope ["thing"] ["thing"] (defScope (top 29)):=⟨rfl,rfl,rfl,by decide +kernel,rfl,by decide +kernel,by decide +kernel⟩
theorem sc_10:FnScope ["arrows","ones","others","many","ways"] ["arrows","ones","others"] (defScope (top 30)):=⟨rfl,rfl,rfl,by decide +kernel,rfl,by decide +kernel,by decide +kernel⟩
theorem sc_11:FnScope ["arrows","ones","others","weight"] ["arrows","ones","others"] (defScope (top 31)):=⟨rfl,rfl,rfl,by decide +kernel,rfl,by decide +kernel,by decide +kernel⟩
theorem sc_12:FnScope ["_law_cell"] ["_law_cell"] (defScope (top 33)):=⟨rfl,rfl,rfl,by decide +kernel,rfl,by decide +kernel,by decide +kernel⟩
theorem sc_13:FnScope ["_law_script","_law_k","_law_found","_law_at","_law_cell"] ["_law_script","_law_k"] (defScope (top 34)):=⟨rfl,rfl,rfl,by decide +kernel,rfl,by decide +kernel,by decide +kernel⟩
theorem sc_14:FnScope ["_law_pack_here","_law_size","_law_digit"] ["_law_pack_here","_law_size"] (defScope (top 35)):=⟨rfl,rfl,rfl,by decide +kernel,rfl,by decide +kernel,by decide +kernel⟩
theorem sc_15:FnScope ["_law_pack_here","_law_many","_law_number"] ["_law_pack_here","_law_many"] (defScope (top 36)):=⟨rfl,rfl,rfl,by decide +kernel,rfl,by decide +kernel,by decide +kernel⟩
theorem sc_16:FnScope ["_law_top","_law_bottom","_law_one","_law_other"] ["_law_top","_law_bottom"] (defScope (top 37)):=⟨rfl,rfl,rfl,by decide +kernel,rfl,by decide +kernel,by decide +kernel⟩
theorem sc_17:FnScope ["_law_pack_here","_law_most","_law_ways","_law_many","_law_known","_law_turn","_law_begin","_law_end"] ["_law_pack_here","_law_most","_law_ways"] (defScope (top 38)):=⟨rfl,rfl,rfl,by decide +kernel,rfl,by decide +kernel,by decide +kernel⟩
theorem sc_18:FnScope ["_law_arrows_here","_law_ones","_law_others"] ["_law_arrows_here","_law_ones","_law_others"] (defScope (top 39)):=⟨rfl,rfl,rfl,by decide +kernel,rfl,by decide +kernel,by decide +kernel⟩
theorem sc_19:FnScope ["_law_arrows_here","_law_ones","_law_others","_law_found"] ["_law_arrows_here","_law_ones","_law_others"] (defScope (top 40)):=⟨rfl,rfl,rfl,by decide +kernel,rfl,by decide +kernel,by decide +kernel⟩
theorem sc_20:FnScope ["_law_ask","_law_arrows_here","_law_ones","_law_others","_law_caught","e","_law_kinds","_law_others_too"] ["_law_ask","_law_arrows_here","_law_ones","_law_others"] (defScope (top 41)):=⟨rfl,rfl,rfl,by decide +kernel,rfl,by decide +kernel,by decide +kernel⟩
theorem sc_21:FnScope ["_law_pack_here","_law_many","_law_part_here","_law_at","_law_odd","_law_things"] ["_law_pack_here","_law_many","_law_part_here"] (defScope (top 42)):=⟨rfl,rfl,rfl,by decide +kernel,rfl,by decide +kernel,by decide +kernel⟩
theorem sc_22:FnScope ["_law_pack_here","_law_arrows_here","_law_many","_law_ones","_law_others","_law_begin","_law_end","_law_ask","_law_turn","_law_bad","_law_odd"] ["_law_pack_here","_law_arrows_here"] (defScope (top 43)):=⟨rfl,rfl,rfl,by decide +kernel,rfl,by decide +kernel,by decide +kernel⟩
theorem sc_23:FnScope ["_law_script","_law_k"] ["_law_script"] (defScope (top 44)):=⟨rfl,rfl,rfl,by decide +kernel,rfl,by decide +kernel,by decide +kernel⟩
section
variable {P:Program} {w:World} {K:PySem.W.Frag} {mg:Str→Option Value} {base:Heap} {k n:Nat} {F:Fs} {f c t:Addr} {A:Around} {outer:List Env} {s:Shared} {H:Hp} {E:XK}
noncomputable abbrev Bdy (P:Program) (w:World) (K:PySem.W.Frag) (mg:Str→Option Value) (base:Heap) (n:Nat) (F:Fs) (f c:Addr) (A:Around) (outer:List Env) (s:Shared) (H:Hp) (E:XK) (N:List Str) (x:Str) (i:Nat) (b:CSs):Prop:=QSs (cxOf CX0 P w K mg base N x (defScope (top i)) f (.ref c) A outer s H E).nox (defBody (top i)) (TSm (exs F n b))
noncomputable abbrev Rm (k:Nat) (A:Around) (s:Shared) (f c:Addr) (x:Str) (i:Nat):Prop:=Room (k+2) (A.deeper (envOfC x (defScope (top i)) s.heap.objs.size f (.ref c)))
noncomputable abbrev BdyX (P:Program) (w:World) (K:PySem.W.Frag) (mg:Str→Option Value) (base:Heap) (n:Nat) (F:Fs) (f c:Addr) (A:Around) (outer:List Env) (s:Shared) (H:Hp) (E:XK) (N:List Str) (x:Str) (i:Nat) (b:CSs):Prop:=PSs (cxOf (CXR P w) P w K mg base N x (defScope (top i)) f (.ref c) A outer s H E) (defBody (top i)) (TSX (exs F n b) E)
variable (p:Pre K mg) (kb:K.In base) (a:All P w K mg base k F) (tab:codeTab K c t=true)
include p kb a tab
theorem b_0 (hr:Rm k A s f c "is_whole" 1):Bdy P w K mg base n F f c A outer s H E ["thing"] "is_whole" 1 c_0.body :=
  qf (qo (qca (jK .int p.gb (qc 0)) (qad (qi0 (jK .bool p.gb (qc 0)))))) qj
theorem b_1 (hr:Rm k A s f c "is_whole_within" 2):Bdy P w K mg base n F f c A outer s H E ["thing","least","most"] "is_whole_within" 2 c_1.body :=
  qf (qo (qca (qi a.h_0 (m2 hr) (qb (qc 0) qe)) (qad (qf1 .le .le hr (qc 1) (qc 0) (qc 2))))) qj
theorem b_2 (hr:Rm k A s f c "common_divisor" 3):Bdy P w K mg base n F f c A outer s H E ["one","other"] "common_divisor" 3 c_2.body :=
  qf (qcb (qR (qc 1)) (qf (qaV 0 1 (qb (qc 1) (qb (ql .mod (qc 0) (qc 1)) qe))) qj)) (qf (qo (qc 0)) qj)
theorem b_3 (hr:Rm k A s f c "lowest" 4):Bdy P w K mg base n F f c A outer s H E ["top","bottom","divisor"] "lowest" 4 c_3.body :=
  qf (qI 2 (qi a.h_2 (m2 hr) (qb (qeo p.gb (qb (qc 0) qe)) (qb (qc 1) qe)))) (qf (qo (qC (qb (ql .fdiv (qc 0) (qc 2)) (qb (ql .fdiv (qc 1) (qc 2)) qe)))) qj)
theorem b_4 (hr:Rm k A s f c "are_places" 21):Bdy P w K mg base n F f c A outer s H E ["thing","many"] "are_places" 21 c_4.body :=
  qf (z_if (Qpt (w_or (ze (qR (jK .tuple p.gb (qc 0)))) (yd (ze (qR (qc 0)))))) (qf (qo qV) qj) qj) (qf (qo (qca (qbu [1] ["many"] ["one"] hr p.gb rfl tab (yC (qc 0)) (fun _ _ _ _ _ _ _ _=>qu 1) (fun _ _ _ _ _ _ _ _=>ye) (fun _ _ _ _ _ _ _ _=>qi a.h_1 (m1 (zo hr)) (qb (qc 1) (qb qg (qb (ql .sub (qc 0) qg) qe))))) (qad (qi a.h_5 (m2 hr) (qb (qc 0) qe))))) qj)
theorem b_5 (hr:Rm k A s f c "is_rising" 22):Bdy P w K mg base n F f c A outer s H E ["things"] "is_rising" 22 c_5.body :=
  qf (qo (qbu [] [] ["one","other"] hr p.gb rfl tab (qi1 p.gb (qc 0) (qaU (qc 0) (k_os qg) (k_on))) (fun _ _ _ _ _ _ _ _=>zQ (qr (qu 0) (qr (qu 1) zP))) (fun _ _ _ _ _ _ _ _=>ye) (fun _ _ _ _ _ _ _ _=>qgs .lt (zo hr) (qc 0) (qc 1)))) qj
theorem b_6 (hr:Rm k A s f c "is_arrows" 26):Bdy P w K mg base n F f c A outer s H E ["thing","many","ways"] "is_arrows" 26 c_6.body :=
  qf (z_if (Qpt (w_or (ze (qR (jK .tuple p.gb (qc 0)))) (yd (qP .ne hr (zR p.gb (qb (qc 0) qe)) qg)))) (qf (qo qV) qj) qj) (qf (jM (qc 0) (zQ (qr (qu 1) (qr (qu 2) zP)))) (qf (qo (qca (qi a.h_1 (m2 hr) (qb (qc 1) (qb qg (qb (qbs (p.g_MOST_ARROW_PLACES).choose_spec) qe)))) (qad (qi a.h_7 (m2 hr) (qb (qc 2) (qb (qc 1) qe)))))) qj))
theorem b_7 (hr:Rm k A s f c "are_ways" 27):Bdy P w K mg base n F f c A outer s H E ["thing","many"] "are_ways" 27 c_7.body :=
  qf (z_if (Qpt (w_or (ze (qR (jK .tuple p.gb (qc 0)))) (yd (qP .gt hr (zR p.gb (qb (qc 0) qe)) (qbs (p.g_MOST_WAYS).choose_spec))))) (qf (qo qV) qj) qj) (qf (z_if (ze (qR (qbu [1] ["many"] ["one"] hr p.gb rfl tab (yC (qc 0)) (fun _ _ _ _ _ _ _ _=>qu 1) (fun _ _ _ _ _ _ _ _=>ye) (fun _ _ _ _ _ _ _ _=>qi a.h_8 (m1 (zo hr)) (qb (qc 1) (qb (qc 0) qe)))))) (qf (qo qV) qj) qj) (qf (qo (qi a.h_5 (m2 hr) (qb (k_lc false [] [] ["start","goal","heavy"] (yC (qc 0)) (fun _ _ _ _ _=>zQ (qr (qu 0) (qr (qu 1) (qr (qu 2) zP)))) (fun _ _ _ _ _=>ye) (fun _ _ _ _ _=>qC (qb (qc 0) (qb (qc 1) qe)))) qe))) qj))
theorem b_8 (hr:Rm k A s f c "is_way" 28):Bdy P w K mg base n F f c A outer s H E ["thing","many","start","goal","heavy"] "is_way" 28 c_8.body :=
  qf (z_if (Qpt (w_or (ze (qR (jK .tuple p.gb (qc 0)))) (yd (qP .ne hr (zR p.gb (qb (qc 0) qe)) qg)))) (qf (qo qV) qj) qj) (qf (jM (qc 0) (zQ (qr (qu 2) (qr (qu 3) (qr (qu 4) zP))))) (qf (z_if (Qpt (w_or (ze (qR (qi a.h_1 (m2 hr) (qb (qc 2) (qb qg (qb (ql .sub (qc 1) qg) qe)))))) (yd (ze (qR (qi a.h_1 (m2 hr) (qb (qc 3) (qb qg (qb (ql .sub (qc 1) qg) qe))))))))) (qf (qo qV) qj) qj) (qf (qo (qi a.h_1 (m2 hr) (qb (qc 4) (qb qg (qb (qbs (p.g_MOST_WEIGHT).choose_spec) qe))))) qj)))
theorem b_9 (hr:Rm k A s f c "need_arrows" 29):Bdy P w K mg base n F f c A outer s H E ["thing"] "need_arrows" 29 c_9.body :=
  qf (z_if (qgz (ze (qR (qi a.h_6 (m2 hr) (qb (qc 0) qe))))) (qf (qcf) qj) qj) qj
theorem bx_9 (hr:Rm k A s f c "need_arrows" 29):BdyX P w K mg base n F f c A outer s H E ["thing"] "need_arrows" 29 c_9.body :=
  zg (x_if (qew (ze (qR (qi a.h_6 (m2 hr) (qb (qc 0) qe))))) (zg (qcd isDef (qeE kb p.x_NoArrows p.ei_NoArrows) PySem.F.excBase_ValueError rfl PySem.F.excBase_ValueError (qb zO qe) (fun _ _=>⟨_,rfl⟩) (by decide)) (yp)) (yp)) (yp)
theorem b_10 (hr:Rm k A s f c "flow" 30):Bdy P w K mg base n F f c A outer s H E ["arrows","ones","others","many","ways"] "flow" 30 c_10.body :=
  qf (qhK (qi a.h_9 (m2 hr) (qb (qc 0) qe))) (qf (qeD (jM (qc 0) (zQ (qr (qu 3) (qr (qu 4) zP))))) (qf (z_if (qgz (Qpt (w_or (ze (qR (qi a.h_4 (m2 hr) (qb (qc 1) (qb (qc 3) qe))))) (yd (ze (qR (qi a.h_4 (m2 hr) (qb (qc 2) (qb (qc 3) qe))))))))) (qf (qcf) qj) qj) (qf (qeD (qo (qel [1,2] ["ones","others"] ["start","goal","heavy"] hr p.gb rfl tab (yC (qc 4)) (fun _ _ _ _ _ _ _ _=>zQ (qr (qu 2) (qr (qu 3) (qr (qu 4) zP)))) (fun _ _ _ _ _ _ _ _=>qae (Qpt (qej (qP .inn (zo hr) (qc 2) (qc 0)) (qbt (qP .inn (zo hr) (qc 3) (qc 1))))) ye) (fun _ _ _ _ _ _ _ _=>qc 4)))) qj)))
theorem qja (hr:Rm k A s f c "flow" 30):BdyX P w K mg base n F f c A outer s H E ["arrows","ones","others","many","ways"] "flow" 30 c_10.body :=
  zg (x_expr (qex isDef a.x_9 (m2 hr) (qb (qc 0) qe) (zt (qah)))) (zg (qev (jM (qc 0) (zQ (qr (qu 3) (qr (qu 4) zP))))) (zg (x_if (qew (Qpt (w_or (ze (qR (qi a.h_4 (m2 hr) (qb (qc 1) (qb (qc 3) qe))))) (yd (ze (qR (qi a.h_4 (m2 hr) (qb (qc 2) (qb (qc 3) qe))))))))) (zg (qcd isDef (qeE kb p.x_NoPart p.ei_NoPart) PySem.F.excBase_ValueError rfl PySem.F.excBase_ValueError (qb zO qe) (fun _ _=>⟨_,rfl⟩) (by decide)) (yp)) (yp)) (zg (qev (qo (qel [1,2] ["ones","others"] ["start","goal","heavy"] hr p.gb rfl tab (yC (qc 4)) (fun _ _ _ _ _ _ _ _=>zQ (qr (qu 2) (qr (qu 3) (qr (qu 4) zP)))) (fun _ _ _ _ _ _ _ _=>qae (Qpt (qej (qP .inn (zo hr) (qc 2) (qc 0)) (qbt (qP .inn (zo hr) (qc 3) (qc 1))))) ye) (fun _ _ _ _ _ _ _ _=>qc 4)))) (yp))))
theorem b_11 (hr:Rm k A s f c "square_share" 31):Bdy P w K mg base n F f c A outer s H E ["arrows","ones","others","weight"] "square_share" 31 c_11.body :=
  qf (qI 3 (qi a.h_10 (m2 hr) (qb (qc 0) (qb (qc 1) (qb (qc 2) qe))))) (qf (qeD (qo (qi a.h_3 (m2 hr) (qb (ql .mul (qc 3) (qc 3)) (qb (ql .mul (zR p.gb (qb (qc 1) qe)) (zR p.gb (qb (qc 2) qe))) qe))))) qj)
theorem qjb (hr:Rm k A s f c "square_share" 31):BdyX P w K mg base n F f c A outer s H E ["arrows","ones","others","weight"] "square_share" 31 c_11.body :=
  zg (x_set 3 (qex isDef a.x_10 (m2 hr) (qb (qc 0) (qb (qc 1) (qb (qc 2) qe))) (zt (zt (zt (qah)))))) (zg (qev (qo (qi a.h_3 (m2 hr) (qb (ql .mul (qc 3) (qc 3)) (qb (ql .mul (zR p.gb (qb (qc 1) qe)) (zR p.gb (qb (qc 2) qe))) qe))))) (yp))
theorem b_12 (hr:Rm k A s f c "_law_mixed" 33):Bdy P w K mg base n F f c A outer s H E ["_law_cell"] "_law_mixed" 33 c_12.body :=
  qf (qo (ql .mod (ql .mul (ql .mod (qc 0) (ql .pow qg qg)) qg) (ql .pow qg qg))) qj
theorem b_13 (hr:Rm k A s f c "_law_pack" 34):Bdy P w K mg base n F f c A outer s H E ["_law_script","_law_k","_law_found","_law_at","_law_cell"] "_law_pack" 34 c_13.body :=
  qf (qI 2 qg) (qf (jN (yC (zz false (qb (ql .add (qc 1) qg) (qb (qc 1) qe)))) (qu 3) (qf (qI 4 (zE hr (ql .add (qaU (qc 0) (k_os (qc 3)) (k_os (ql .add (qc 3) qg))) (zz false (qb (ql .add (ql .add (ql .mul qg (qc 3)) qg) (ql .mul qg (zE hr (ql .add (qc 0) (zz false (qb qg qe))) qg))) qe))) qg)) (qf (qI 2 (ql .add (ql .mul (qc 2) (ql .pow qg qg)) (qi a.h_12 (m2 hr) (qb (qc 4) qe)))) qj))) (qf (qo (zz true (qb (qc 2) qe))) qj))
theorem b_14 (hr:Rm k A s f c "_law_take" 35):Bdy P w K mg base n F f c A outer s H E ["_law_pack_here","_law_size","_law_digit"] "_law_take" 35 c_14.body :=
  qf (jM (qep p.gb (qb (zE hr (qc 0) qg) (qb (qc 1) qe))) (zQ (qr (qgv hr (qc 0) qg) (qr (qu 2) zP)))) (qf (qo (qc 2)) qj)
theorem b_15 (hr:Rm k A s f c "_law_part" 36):Bdy P w K mg base n F f c A outer s H E ["_law_pack_here","_law_many","_law_number"] "_law_part" 36 c_15.body :=
  qf (qI 2 (ql .add qg (qi a.h_14 (m2 hr) (qb (qc 0) (qb (ql .sub (ql .shl qg (qc 1)) qg) qe))))) (qf (qo (qaf p.gb (qb (k_lc false [2] ["_law_number"] ["_law_place"] (jL p.gb (qb (qc 1) qe)) (fun _ _ _ _ _=>qu 1) (fun _ _ _ _ _=>qae (qP .eq hr (ql .band (ql .shr (qc 0) (qc 1)) qg) qg) ye) (fun _ _ _ _ _=>qc 1)) qe))) qj)
theorem b_16 (hr:Rm k A s f c "_law_low" 37):Bdy P w K mg base n F f c A outer s H E ["_law_top","_law_bottom","_law_one","_law_other"] "_law_low" 37 c_16.body :=
  qf (qaV 2 3 (qb (qeo p.gb (qb (qc 0) qe)) (qb (qeo p.gb (qb (qc 1) qe)) qe))) (qf (qcb (qP .ne hr (qc 3) qg) (qf (qaV 2 3 (qb (qc 3) (qb (ql .mod (qc 2) (qc 3)) qe))) qj)) (qf (z_if (qP .lt hr (qc 1) qg) (qf (qI 2 (ql .sub qg (qc 2))) qj) qj) (qf (qo (qC (qb (ql .fdiv (qc 0) (qc 2)) (qb (ql .fdiv (qc 1) (qc 2)) qe)))) qj)))
theorem b_17 (hr:Rm k A s f c "_law_arrows" 38):Bdy P w K mg base n F f c A outer s H E ["_law_pack_here","_law_most","_law_ways","_law_many","_law_known","_law_turn","_law_begin","_law_end"] "_law_arrows" 38 c_17.body :=
  qf (qI 3 (ql .add qg (qi a.h_14 (m2 hr) (qb (qc 0) (qb (qc 1) qe))))) (qf (qI 4 (qgt true)) (qf (jN (jL p.gb (qb (qi a.h_14 (m2 hr) (qb (qc 0) (qb (ql .add (qc 2) qg) qe))) qe)) (qu 5) (qf (qaV 6 7 (qb (qi a.h_14 (m2 hr) (qb (qc 0) (qb (qc 3) qe))) (qb (qi a.h_14 (m2 hr) (qb (qc 0) (qb (qc 3) qe))) qe))) (qf (jM (ql .add qg (qi a.h_14 (m2 hr) (qb (qc 0) (qb qg qe)))) (qgv hr (qc 4) (qC (qb (qc 6) (qb (qc 7) qe))))) qj))) (qf (qo (qC (qb (qc 3) (qb (qaf p.gb (qb (k_lc false [4] ["_law_known"] ["_law_way"] (yC (qeq false p.gb (qb (qc 4) qe))) (fun _ _ _ _ _=>qu 1) (fun _ _ _ _ _=>ye) (fun _ _ _ _ _=>ql .add (qc 1) (qC (qb (zE hr (qc 0) (qc 1)) qe)))) qe)) qe)))) qj)))
theorem b_18 (hr:Rm k A s f c "_law_flow" 39):Bdy P w K mg base n F f c A outer s H E ["_law_arrows_here","_law_ones","_law_others"] "_law_flow" 39 c_18.body :=
  qf (qo (qi4 p.gb (qb (k_lc false [1,2] ["_law_ones","_law_others"] ["_law_begin","_law_end","_law_mass"] (yC (zE hr (qc 0) qg)) (fun _ _ _ _ _=>zQ (qr (qu 2) (qr (qu 3) (qr (qu 4) zP)))) (fun _ _ _ _ _=>qae (Qpt (qej (qP .inn hr (qc 2) (qc 0)) (qbt (qP .inn hr (qc 3) (qc 1))))) ye) (fun _ _ _ _ _=>qc 4)) qe))) qj
theorem b_19 (hr:Rm k A s f c "_law_square" 40):Bdy P w K mg base n F f c A outer s H E ["_law_arrows_here","_law_ones","_law_others","_law_found"] "_law_square" 40 c_19.body :=
  qf (qI 3 (qi a.h_18 (m2 hr) (qb (qc 0) (qb (qc 1) (qb (qc 2) qe))))) (qf (qo (qi a.h_16 (m2 hr) (qb (ql .mul (qc 3) (qc 3)) (qb (ql .mul (zR p.gb (qb (qc 1) qe)) (zR p.gb (qb (qc 2) qe))) qe)))) qj)
theorem b_20 (hr:Rm k A s f c "_law_kind" 41):Bdy P w K mg base n F f c A outer s H E ["_law_ask","_law_arrows_here","_law_ones","_law_others","_law_caught","e","_law_kinds","_law_others_too"] "_law_kind" 41 c_20.body :=
  qf (qI 4 qac) (qf (qi7 (t:=[(145,true),(77,true)]) 5 p.x_WebError (jo kb p.er_WebError) (qi9 (qM (fun _=>⟨_,jo kb p.er_NoArrows,by decide +kernel⟩) (qM (fun _=>⟨_,jo kb p.er_NoPart,by decide +kernel⟩) (yP)))) (qeB (y_if (qP .eq hr (qc 0) qg) (qeB (qeA a.x_10 (m2 hr) (qb (qc 1) (qb (qc 2) (qb (qc 3) qe))) (zt (zt (zt (qah)))))) (qeB (qeA a.x_11 (m2 hr) (qb (qc 1) (qb (qc 2) (qb (qc 3) qe))) (zt (zt (zt (qah)))))))) (fun _ _ _=>qf (qI 4 (qc 5)) qj)) (qf (qI 6 (zz false (qb (qgy [(145,true),(77,false)] p.gb p.x_NoArrows (qM ⟨p.ek_NoArrows,p.ki_NoArrows_NoArrows⟩ (qM ⟨p.ek_NoPart,p.ki_NoPart_NoArrows⟩ (yP))) (qc 4)) (qb (qgy [(145,false),(77,true)] p.gb p.x_NoPart (qM ⟨p.ek_NoArrows,p.ki_NoArrows_NoPart⟩ (qM ⟨p.ek_NoPart,p.ki_NoPart_NoPart⟩ (yP))) (qc 4)) qe)))) (qf (qI 7 (qeG [(145,false),(77,false)] [209,229,89,101,169,121] p.gb (qY p.x_NoCall (qY p.x_NoKept (qY p.x_NoLaying (qY p.x_NoMeasure (qY p.x_NoNumber (qY p.x_NoRoad (qeF))))))) (by decide) (qM ⟨p.ek_NoArrows,p.ka_NoArrows_NoCall_NoKept_NoLaying_NoMeasure_NoNumber_NoRoad⟩ (qM ⟨p.ek_NoPart,p.ka_NoPart_NoCall_NoKept_NoLaying_NoMeasure_NoNumber_NoRoad⟩ (yP))) (qc 4))) (qf (qI 7 (k_or (qc 7) (qiZ (qeG [(145,false),(77,false)] [133,189,157,65] p.gb (qY p.x_NoSize (qY p.x_NoText (qY p.x_NoThread (qY p.x_NoWeb (qeF))))) (by decide) (qM ⟨p.ek_NoArrows,p.ka_NoArrows_NoSize_NoText_NoThread_NoWeb⟩ (qM ⟨p.ek_NoPart,p.ka_NoPart_NoSize_NoText_NoThread_NoWeb⟩ (yP))) (qc 4))))) (qf (z_if (Qpt (w_or (qR (qc 7)) (w_or (ze (qR (qhU [(145,true),(77,true)] p.gb p.x_ValueError (by decide +kernel) (qM ⟨p.ek_NoArrows,p.ki_NoArrows_ValueError⟩ (qM ⟨p.ek_NoPart,p.ki_NoPart_ValueError⟩ (yP))) (qc 4)))) (yd (qP .ne hr (qhV (qc 6)) qg))))) (qf (qo zO) qj) qj) (qf (qo (zE hr (zz false (qb zO (qb zO qe))) (qi8 (qc 6)))) qj))))))
theorem b_21 (hr:Rm k A s f c "_law_bad_set" 42):Bdy P w K mg base n F f c A outer s H E ["_law_pack_here","_law_many","_law_part_here","_law_at","_law_odd","_law_things"] "_law_bad_set" 42 c_21.body :=
  qf (qI 3 (qi a.h_14 (m2 hr) (qb (qc 0) (qb (zR p.gb (qb (qc 2) qe)) qe)))) (qf (qI 4 (zE hr (zz false (qb (qc 1) (qb (ql .sub qg qg) (qb qV (qb qac (qb zO (qb (qC (qb qg qe)) (qb (zz false (qb qg qe)) qe)))))))) (qi a.h_14 (m2 hr) (qb (qc 0) (qb qg qe))))) (qf (qI 5 (zz false (qb (ql .add (ql .add (qaU (qc 2) (k_on) (k_os (qc 3))) (qC (qb (qc 4) qe))) (qaU (qc 2) (k_os (ql .add (qc 3) qg)) (k_on))) (qb (ql .add (qc 2) (qaU (qc 2) (k_os (qc 3)) (k_os (ql .add (qc 3) qg)))) (qb (qC qe) (qb (qhR false p.gb (qb (qc 2) qe)) (qb qac (qb qg (qb zO (qb (qgt false) (qb (qC (qb (qc 1) qe)) qe))))))))))) (qf (qo (zE hr (qc 5) (qi a.h_14 (m2 hr) (qb (qc 0) (qb qg qe))))) qj)))
theorem b_22 (hr:Rm k A s f c "_law_right" 43):Bdy P w K mg base n F f c A outer s H E ["_law_pack_here","_law_arrows_here","_law_many","_law_ones","_law_others","_law_begin","_law_end","_law_ask","_law_turn","_law_bad","_law_odd"] "_law_right" 43 c_22.body :=
  qf (qI 2 (zE hr (qc 1) qg)) (qf (qaV 3 4 (qb (qi a.h_15 (m2 hr) (qb (qc 0) (qb (qc 2) qe))) (qb (qi a.h_15 (m2 hr) (qb (qc 0) (qb (qc 2) qe))) qe))) (qf (jN (yC (zz false (qb (qC (qb (qc 3) (qb (qc 4) qe))) (qb (qC (qb (qc 4) (qb (qc 3) qe))) (qb (qC (qb (qc 3) (qb (qc 3) qe))) (qb (qC (qb (qhJ p.gb (qb (qc 2) qe)) (qb (qc 4) qe))) qe)))))) (zQ (qr (qu 5) (qr (qu 6) zP))) (qf (z_if (qP .ne hr (qi a.h_10 (m2 hr) (qb (qc 1) (qb (qc 5) (qb (qc 6) qe)))) (qi a.h_18 (m2 hr) (qb (qc 1) (qb (qc 5) (qb (qc 6) qe))))) (qf (qo qV) qj) qj) (qf (z_if (qP .ne hr (qi a.h_11 (m2 hr) (qb (qc 1) (qb (qc 5) (qb (qc 6) qe)))) (qi a.h_19 (m2 hr) (qb (qc 1) (qb (qc 5) (qb (qc 6) qe))))) (qf (qo qV) qj) qj) qj))) (qf (jN (jL p.gb (qb qg qe)) (qu 7) (qf (jN (jL p.gb (qb qg qe)) (qu 8) (qf (qI 9 (qi a.h_21 (m2 hr) (qb (qc 0) (qb (qc 2) (qb (qc 3) qe))))) (qf (qI 10 (zz false (qb (qC (qb (qc 2) (qb (zE hr (qc 1) qg) (qb qg qe)))) (qb (qC (qb qg (qb (qC qe) qe))) (qb qac (qb (zz false (qb (qc 2) (qb (zE hr (qc 1) qg) qe))) (qb (qC (qb (qc 2) (qb (qC (qb (qC (qb qg (qb qg (qb qg qe)))) qe)) qe))) (qb (qC (qb qg (qb (qC qe) qe))) qe)))))))) (qf (qI 10 (ql .add (qc 10) (zz false (qb (qC (qb (qc 2) (qb (qC (qb (qC (qb qg (qb qg (qb (ql .add (ql .pow qg qg) qg) qe)))) qe)) qe))) (qb (qC (qb qg (qb (qaf p.gb (qb (k_lc false [] [] ["_law_at"] (jL p.gb (qb qg qe)) (fun _ _ _ _ _=>qu 0) (fun _ _ _ _ _=>ye) (fun _ _ _ _ _=>qC (qb (ql .fdiv (qc 0) qg) (qb (ql .mod (qc 0) qg) (qb qg qe))))) qe)) qe))) qe))))) (qf (qI 10 (zE hr (qc 10) (qi a.h_14 (m2 hr) (qb (qc 0) (qb qg qe))))) (qf (z_if (Qpt (w_or (qP .ne hr (qi a.h_20 (m2 hr) (qb (qc 7) (qb (qc 1) (qb (qc 9) (qb (qc 4) qe))))) zO) (yd (qP .ne hr (qi a.h_20 (m2 hr) (qb (qc 7) (qb (qc 1) (qb (qc 4) (qb (qc 9) qe))))) zO)))) (qf (qo qV) qj) qj) (qf (z_if (Qpt (w_or (qP .ne hr (qi a.h_20 (m2 hr) (qb (qc 7) (qb (qc 10) (qb (qc 9) (qb (qc 4) qe))))) zO) (yd (qP .ne hr (qi a.h_20 (m2 hr) (qb (qc 7) (qb (qc 10) (qb (qc 4) (qb (qc 4) qe))))) zO)))) (qf (qo qV) qj) qj) qj))))))) qj)) (qf (qo (qgs .eq hr (qi a.h_10 (m2 hr) (qb (qc 1) (qb (qc 3) (qb (qc 4) qe)))) (qi a.h_18 (m2 hr) (qb (qc 1) (qb (qc 3) (qb (qc 4) qe)))))) qj))))
theorem b_23 (hr:Rm k A s f c "law" 44):Bdy P w K mg base n F f c A outer s H E ["_law_script","_law_k"] "law" 44 qaZ.body :=
  qf (jN (jL p.gb (qb qg (qb (qi3 p.gb (qb qg (qb (qi2 p.gb (qb (zR p.gb (qb (qc 0) qe)) (qb qg qe))) qe))) (qb qg qe)))) (qu 1) (qf (z_if (ze (qR (qi a.h_22 (m2 hr) (qb (qi a.h_13 (m2 hr) (qb (qc 0) (qb (ql .add (qc 1) qg) qe))) (qb (qi a.h_17 (m2 hr) (qb (qi a.h_13 (m2 hr) (qb (qc 0) (qb (qc 1) qe))) (qb qg (qb qg qe)))) qe))))) (qf (qo qV) qj) qj) qj)) (qf (qo qV) qj)
end
section
variable {P:Program} {w:World} {K:PySem.W.Frag} {mg:Str→Option Value} {base:Heap} {k N d:Nat} (p:Pre K mg) (kb:K.In base) (a:All P w K mg base k (run prg N d)) {f:Addr} {fd:FuncData} {c t:Addr}
include p kb a
theorem o_0 (U:FunT K "is_whole" (top 1) f fd c t):FnOk P w K mg base CX0 (k+3) f fd ["thing"] (SpD 1 (run prg N (d+1) 0)):=qF (G:=run prg N (d+1)) (i:=0) U sc_0 rfl rfl (by decide) rfl fun A outer s H E hr=>b_0 p kb a U.tab hr
theorem o_1 (U:FunT K "is_whole_within" (top 2) f fd c t):FnOk P w K mg base CX0 (k+3) f fd ["thing","least","most"] (SpD 3 (run prg N (d+1) 1)):=qF (G:=run prg N (d+1)) (i:=1) U sc_1 rfl rfl (by decide) rfl fun A outer s H E hr=>b_1 p kb a U.tab hr
theorem o_2 (U:FunT K "common_divisor" (top 3) f fd c t):FnOk P w K mg base CX0 (k+3) f fd ["one","other"] (SpD 2 (run prg N (d+1) 2)):=qF (G:=run prg N (d+1)) (i:=2) U sc_2 rfl rfl (by decide) rfl fun A outer s H E hr=>b_2 p kb a U.tab hr
theorem o_3 (U:FunT K "lowest" (top 4) f fd c t):FnOk P w K mg base CX0 (k+3) f fd ["top","bottom"] (SpD 2 (run prg N (d+1) 3)):=qF (G:=run prg N (d+1)) (i:=3) U sc_3 rfl rfl (by decide) rfl fun A outer s H E hr=>b_3 p kb a U.tab hr
theorem o_4 (U:FunT K "are_places" (top 21) f fd c t):FnOk P w K mg base CX0 (k+3) f fd ["thing","many"] (SpD 2 (run prg N (d+1) 4)):=qF (G:=run prg N (d+1)) (i:=4) U sc_4 rfl rfl (by decide) rfl fun A outer s H E hr=>b_4 p kb a U.tab hr
theorem o_5 (U:FunT K "is_rising" (top 22) f fd c t):FnOk P w K mg base CX0 (k+3) f fd ["things"] (SpD 1 (run prg N (d+1) 5)):=qF (G:=run prg N (d+1)) (i:=5) U sc_5 rfl rfl (by decide) rfl fun A outer s H E hr=>b_5 p kb a U.tab hr
theorem o_6 (U:FunT K "is_arrows" (top 26) f fd c t):FnOk P w K mg base CX0 (k+3) f fd ["thing"] (SpD 1 (run prg N (d+1) 6)):=qF (G:=run prg N (d+1)) (i:=6) U sc_6 rfl rfl (by decide) rfl fun A outer s H E hr=>b_6 p kb a U.tab hr
theorem o_7 (U:FunT K "are_ways" (top 27) f fd c t):FnOk P w K mg base CX0 (k+3) f fd ["thing","many"] (SpD 2 (run prg N (d+1) 7)):=qF (G:=run prg N (d+1)) (i:=7) U sc_7 rfl rfl (by decide) rfl fun A outer s H E hr=>b_7 p kb a U.tab hr
theorem o_8 (U:FunT K "is_way" (top 28) f fd c t):FnOk P w K mg base CX0 (k+3) f fd ["thing","many"] (SpD 2 (run prg N (d+1) 8)):=qF (G:=run prg N (d+1)) (i:=8) U sc_8 rfl rfl (by decide) rfl fun A outer s H E hr=>b_8 p kb a U.tab hr
theorem o_9 (U:FunT K "need_arrows" (top 29) f fd c t):FnOk P w K mg base CX0 (k+3) f fd ["thing"] (SpD 1 (run prg N (d+1) 9)):=qF (G:=run prg N (d+1)) (i:=9) U sc_9 rfl rfl (by decide) rfl fun A outer s H E hr=>b_9 p kb a U.tab hr
theorem ox_9 (U:FunT K "need_arrows" (top 29) f fd c t):FnOk P w K mg base (CXR P w) (k+3) f fd ["thing"] (SpX 1 (run prg N (d+1) 9)):=qbz (G:=run prg N (d+1)) (i:=9) U sc_9 rfl rfl (by decide) rfl fun A outer s H E hr=>bx_9 p kb a U.tab hr
theorem o_10 (U:FunT K "flow" (top 30) f fd c t):FnOk P w K mg base CX0 (k+3) f fd ["arrows","ones","others"] (SpD 3 (run prg N (d+1) 10)):=qF (G:=run prg N (d+1)) (i:=10) U sc_10 rfl rfl (by decide) rfl fun A outer s H E hr=>b_10 p kb a U.tab hr
theorem qjc (U:FunT K "flow" (top 30) f fd c t):FnOk P w K mg base (CXR P w) (k+3) f fd ["arrows","ones","others"] (SpX 3 (run prg N (d+1) 10)):=qbz (G:=run prg N (d+1)) (i:=10) U sc_10 rfl rfl (by decide) rfl fun A outer s H E hr=>qja p kb a U.tab hr
theorem o_11 (U:FunT K "square_share" (top 31) f fd c t):FnOk P w K mg base CX0 (k+3) f fd ["arrows","ones","others"] (SpD 3 (run prg N (d+1) 11)):=qF (G:=run prg N (d+1)) (i:=11) U sc_11 rfl rfl (by decide) rfl fun A outer s H E hr=>b_11 p kb a U.tab hr
theorem qjd (U:FunT K "square_share" (top 31) f fd c t):FnOk P w K mg base (CXR P w) (k+3) f fd ["arrows","ones","others"] (SpX 3 (run prg N (d+1) 11)):=qbz (G:=run prg N (d+1)) (i:=11) U sc_11 rfl rfl (by decide) rfl fun A outer s H E hr=>qjb p kb a U.tab hr
theorem o_12 (U:FunT K "_law_mixed" (top 33) f fd c t):FnOk P w K mg base CX0 (k+3) f fd ["_law_cell"] (SpD 1 (run prg N (d+1) 12)):=qF (G:=run prg N (d+1)) (i:=12) U sc_12 rfl rfl (by decide) rfl fun A outer s H E hr=>b_12 p kb a U.tab hr
theorem o_13 (U:FunT K "_law_pack" (top 34) f fd c t):FnOk P w K mg base CX0 (k+3) f fd ["_law_script","_law_k"] (SpD 2 (run prg N (d+1) 13)):=qF (G:=run prg N (d+1)) (i:=13) U sc_13 rfl rfl (by decide) rfl fun A outer s H E hr=>b_13 p kb a U.tab hr
theorem o_14 (U:FunT K "_law_take" (top 35) f fd c t):FnOk P w K mg base CX0 (k+3) f fd ["_law_pack_here","_law_size"] (SpD 2 (run prg N (d+1) 14)):=qF (G:=run prg N (d+1)) (i:=14) U sc_14 rfl rfl (by decide) rfl fun A outer s H E hr=>b_14 p kb a U.tab hr
theorem o_15 (U:FunT K "_law_part" (top 36) f fd c t):FnOk P w K mg base CX0 (k+3) f fd ["_law_pack_here","_law_many"] (SpD 2 (run prg N (d+1) 15)):=qF (G:=run prg N (d+1)) (i:=15) U sc_15 rfl rfl (by decide) rfl fun A outer s H E hr=>b_15 p kb a U.tab hr
theorem o_16 (U:FunT K "_law_low" (top 37) f fd c t):FnOk P w K mg base CX0 (k+3) f fd ["_law_top","_law_bottom"] (SpD 2 (run prg N (d+1) 16)):=qF (G:=run prg N (d+1)) (i:=16) U sc_16 rfl rfl (by decide) rfl fun A outer s H E hr=>b_16 p kb a U.tab hr
theorem o_17 (U:FunT K "_law_arrows" (top 38) f fd c t):FnOk P w K mg base CX0 (k+3) f fd ["_law_pack_here","_law_most","_law_ways"] (SpD 3 (run prg N (d+1) 17)):=qF (G:=run prg N (d+1)) (i:=17) U sc_17 rfl rfl (by decide) rfl fun A outer s H E hr=>b_17 p kb a U.tab hr
theorem o_18 (U:FunT K "_law_flow" (top 39) f fd c t):FnOk P w K mg base CX0 (k+3) f fd ["_law_arrows_here","_law_ones","_law_others"] (SpD 3 (run prg N (d+1) 18)):=qF (G:=run prg N (d+1)) (i:=18) U sc_18 rfl rfl (by decide) rfl fun A outer s H E hr=>b_18 p kb a U.tab hr
theorem o_19 (U:FunT K "_law_square" (top 40) f fd c t):FnOk P w K mg base CX0 (k+3) f fd ["_law_arrows_here","_law_ones","_law_others"] (SpD 3 (run prg N (d+1) 19)):=qF (G:=run prg N (d+1)) (i:=19) U sc_19 rfl rfl (by decide) rfl fun A outer s H E hr=>b_19 p kb a U.tab hr
theorem o_20 (U:FunT K "_law_kind" (top 41) f fd c t):FnOk P w K mg base CX0 (k+3) f fd ["_law_ask","_law_arrows_here","_law_ones","_law_others"] (SpD 4 (run prg N (d+1) 20)):=qF (G:=run prg N (d+1)) (i:=20) U sc_20 rfl rfl (by decide) rfl fun A outer s H E hr=>b_20 p kb a U.tab hr
theorem o_21 (U:FunT K "_law_bad_set" (top 42) f fd c t):FnOk P w K mg base CX0 (k+3) f fd ["_law_pack_here","_law_many","_law_part_here"] (SpD 3 (run prg N (d+1) 21)):=qF (G:=run prg N (d+1)) (i:=21) U sc_21 rfl rfl (by decide) rfl fun A outer s H E hr=>b_21 p kb a U.tab hr
theorem o_22 (U:FunT K "_law_right" (top 43) f fd c t):FnOk P w K mg base CX0 (k+3) f fd ["_law_pack_here","_law_arrows_here"] (SpD 2 (run prg N (d+1) 22)):=qF (G:=run prg N (d+1)) (i:=22) U sc_22 rfl rfl (by decide) rfl fun A outer s H E hr=>b_22 p kb a U.tab hr
theorem o_23 (U:FunT K "law" (top 44) f fd c t):FnOk P w K mg base CX0 (k+3) f fd ["_law_script"] (SpD 1 (run prg N (d+1) 23)):=qF (G:=run prg N (d+1)) (i:=23) U sc_23 rfl rfl (by decide) rfl fun A outer s H E hr=>b_23 p kb a U.tab hr
theorem qeH:All P w K mg base (k+3) (run prg N (d+1)) where
  h_0:=p.u_0.fn fun _ _ _ _ U=>o_0 p kb a U
  h_1:=p.u_1.fn fun _ _ _ _ U=>o_1 p kb a U
  h_2:=p.u_2.fn fun _ _ _ _ U=>o_2 p kb a U
  h_3:=p.u_3.fn fun _ _ _ _ U=>o_3 p kb a U
  h_4:=p.u_4.fn fun _ _ _ _ U=>o_4 p kb a U
  h_5:=p.u_5.fn fun _ _ _ _ U=>o_5 p kb a U
  h_6:=p.u_6.fn fun _ _ _ _ U=>o_6 p kb a U
  h_7:=p.u_7.fn fun _ _ _ _ U=>o_7 p kb a U
  h_8:=p.u_8.fn fun _ _ _ _ U=>o_8 p kb a U
  h_9:=p.u_9.fn fun _ _ _ _ U=>o_9 p kb a U
  h_10:=p.u_10.fn fun _ _ _ _ U=>o_10 p kb a U
  h_11:=p.u_11.fn fun _ _ _ _ U=>o_11 p kb a U
  h_12:=p.u_12.fn fun _ _ _ _ U=>o_12 p kb a U
  h_13:=p.u_13.fn fun _ _ _ _ U=>o_13 p kb a U
  h_14:=p.u_14.fn fun _ _ _ _ U=>o_14 p kb a U
  h_15:=p.u_15.fn fun _ _ _ _ U=>o_15 p kb a U
  h_16:=p.u_16.fn fun _ _ _ _ U=>o_16 p kb a U
  h_17:=p.u_17.fn fun _ _ _ _ U=>o_17 p kb a U
  h_18:=p.u_18.fn fun _ _ _ _ U=>o_18 p kb a U
  h_19:=p.u_19.fn fun _ _ _ _ U=>o_19 p kb a U
  h_20:=p.u_20.fn fun _ _ _ _ U=>o_20 p kb a U
  h_21:=p.u_21.fn fun _ _ _ _ U=>o_21 p kb a U
  h_22:=p.u_22.fn fun _ _ _ _ U=>o_22 p kb a U
  h_23:=p.u_23.fn fun _ _ _ _ U=>o_23 p kb a U
  x_9:=R.EX.DefIn.fnX p.u_9 fun _ _ _ _ U=>ox_9 p kb a U
  x_10:=R.EX.DefIn.fnX p.u_10 fun _ _ _ _ U=>qjc p kb a U
  x_11:=R.EX.DefIn.fnX p.u_11 fun _ _ _ _ U=>qjd p kb a U
omit kb a
theorem qeI:All P w K mg base 0 (run prg N 0) where
  h_0:=p.u_0.fn fun _ _ _ _ _=>qG (i:=0) rfl
  h_1:=p.u_1.fn fun _ _ _ _ _=>qG (i:=1) rfl
  h_2:=p.u_2.fn fun _ _ _ _ _=>qG (i:=2) rfl
  h_3:=p.u_3.fn fun _ _ _ _ _=>qG (i:=3) rfl
  h_4:=p.u_4.fn fun _ _ _ _ _=>qG (i:=4) rfl
  h_5:=p.u_5.fn fun _ _ _ _ _=>qG (i:=5) rfl
  h_6:=p.u_6.fn fun _ _ _ _ _=>qG (i:=6) rfl
  h_7:=p.u_7.fn fun _ _ _ _ _=>qG (i:=7) rfl
  h_8:=p.u_8.fn fun _ _ _ _ _=>qG (i:=8) rfl
  h_9:=p.u_9.fn fun _ _ _ _ _=>qG (i:=9) rfl
  h_10:=p.u_10.fn fun _ _ _ _ _=>qG (i:=10) rfl
  h_11:=p.u_11.fn fun _ _ _ _ _=>qG (i:=11) rfl
  h_12:=p.u_12.fn fun _ _ _ _ _=>qG (i:=12) rfl
  h_13:=p.u_13.fn fun _ _ _ _ _=>qG (i:=13) rfl
  h_14:=p.u_14.fn fun _ _ _ _ _=>qG (i:=14) rfl
  h_15:=p.u_15.fn fun _ _ _ _ _=>qG (i:=15) rfl
  h_16:=p.u_16.fn fun _ _ _ _ _=>qG (i:=16) rfl
  h_17:=p.u_17.fn fun _ _ _ _ _=>qG (i:=17) rfl
  h_18:=p.u_18.fn fun _ _ _ _ _=>qG (i:=18) rfl
  h_19:=p.u_19.fn fun _ _ _ _ _=>qG (i:=19) rfl
  h_20:=p.u_20.fn fun _ _ _ _ _=>qG (i:=20) rfl
  h_21:=p.u_21.fn fun _ _ _ _ _=>qG (i:=21) rfl
  h_22:=p.u_22.fn fun _ _ _ _ _=>qG (i:=22) rfl
  h_23:=p.u_23.fn fun _ _ _ _ _=>qG (i:=23) rfl
  x_9:=R.EX.DefIn.fnX p.u_9 fun _ _ _ _ _=>qbA (i:=9) rfl
  x_10:=R.EX.DefIn.fnX p.u_10 fun _ _ _ _ _=>qbA (i:=10) rfl
  x_11:=R.EX.DefIn.fnX p.u_11 fun _ _ _ _ _=>qbA (i:=11) rfl
omit p
theorem qeJ (p:Pre K mg) (kb:K.In base):∀ d:Nat,All P w K mg base (3*d) (run prg N d)
  | 0=>qeI p
  | d+1=>qeH p kb (qeJ p kb d)
end
end RP
namespace RP
open R
section
variable {α:Type} {g:α→D}
theorem qai {n:Nat} {bind:D→En→Sr→Res En} {test:En→Sr→Res Bool} {elt:En→Sr→Res D} {b:α→Bool} {v:α→D} (R:En→Prop) {S:Sr} (hn:S.length=n):∀ (ds:List α) (made:List D) (ρ:En),made.length+ds.length≤PySem.sizeLine→R ρ →
    (∀ d∈ds,∀ (ρ:En) (m:List D),R ρ→∃ ρ1,bind (g d) ρ (S++[.lst m])=.ok ρ1 (S++[.lst m])∧R ρ1∧test ρ1 (S++[.lst m])=.ok (b d) (S++[.lst m])∧(b d=true→elt ρ1 (S++[.lst m])=.ok (v d) (S++[.lst m])∧refsLt 0 (v d)=true)) →
    ∃ ρ',lcLoop n bind test elt (ds.map g) ρ (S++[.lst made])=.ok ρ' (S++[.lst (made++(ds.filter b).map v)])
  | [],made,ρ,_,_,_=>⟨ρ,by simp [lcLoop]⟩
  | d::ds,made,ρ,hl,hR,H=>by
    obtain ⟨ρ1,e1,hR1,e2,e3⟩:=H d List.mem_cons_self ρ made hR
    simp only [List.length_cons] at hl
    rw [List.map_cons]
    unfold lcLoop
    rw [e1,Res.bind_ok,e2,Res.bind_ok]
    cases z:b d with
    | true =>
      obtain ⟨e4,e5⟩:=e3 z
      have ea:appD (S++[.lst made]) (.ref n) (v d)=.ok .non (S++[.lst (made++[v d])]):=by
        subst hn
        have hl':made.length<PySem.sizeLine:=by lia
        simp [appD,e5,hl']
      rw [if_pos rfl,e4,Res.bind_ok,ea,Res.bind_ok]
      obtain ⟨ρ',e⟩:=qai R hn ds (made++[v d]) ρ1 (by simp;lia) hR1 fun d' hd=>H d' (List.mem_cons_of_mem _ hd)
      exact ⟨ρ',by rw [e];simp [z]⟩
    | false =>
      rw [if_neg (by simp)]
      obtain ⟨ρ',e⟩:=qai R hn ds made ρ1 (by lia) hR1 fun d' hd=>H d' (List.mem_cons_of_mem _ hd)
      exact ⟨ρ',by rw [e];simp [z]⟩
theorem qa0 {F:Fs} {fr:List Nat} {nt:Nat} {elt:CE} {tg:CT} {it:CI} {ifs:CBs} {ρ:En} {S S1:Sr} {ds:List D} (xs:List α) (b:α→Bool) (v:α→D) (R:En→Prop) (hI:evI F it ρ S=.ok ds S1) (hd:ds=xs.map g) (h0:R (frE ρ fr nt)) (hl:xs.length≤PySem.sizeLine)
    (H:∀ d∈xs,∀ (ρ:En) (m:List D),R ρ→∃ ρ1,asg F tg (g d) ρ (S1++[.lst m])=.ok ρ1 (S1++[.lst m])∧R ρ1∧tsts F ifs ρ1 (S1++[.lst m])=.ok (b d) (S1++[.lst m])∧(b d=true→ev F elt ρ1 (S1++[.lst m])=.ok (v d) (S1++[.lst m])∧refsLt 0 (v d)=true)) :
    ev F (.lc false fr nt elt tg it ifs) ρ S=.ok (.lst ((xs.filter b).map v)) S1:=by
  obtain ⟨ρ',e⟩:=qai (n:=S1.length) (bind:=fun d ρ S=>asg F tg d ρ S) (test:=fun ρ S=>tsts F ifs ρ S) (elt:=fun ρ S=>ev F elt ρ S) R rfl xs [] _ (by simpa using hl) h0 H
  simp only [ev,hI,Res.bind,hd,e,lcEnd]
  simp
theorem qcg {bind:D→En→Sr→Res En} {test:En→Sr→Res Bool} {elt:En→Sr→Res D} {p:α→Bool} (R:En→Prop) {S:Sr}:∀ (ds:List α) (ρ:En),R ρ →
    (∀ d∈ds,∀ ρ:En,R ρ→∃ ρ1,bind (g d) ρ S=.ok ρ1 S∧R ρ1∧test ρ1 S=.ok true S∧elt ρ1 S=.ok (.bl (p d)) S) →
    genLoop bind test elt (stepG .all) (finG .all) (ds.map g) ρ .non S=.ok (.bl (ds.all p)) S
  | [],ρ,_,_=>by simp [genLoop,finG]
  | d::ds,ρ,hR,H=>by
    obtain ⟨ρ1,e1,hR1,e2,e3⟩:=H d List.mem_cons_self ρ hR
    rw [List.map_cons]
    unfold genLoop
    rw [e1,Res.bind_ok,e2,Res.bind_ok,if_pos rfl,e3,Res.bind_ok]
    cases z:p d with
    | true=>simp only [stepG];rw [qcg R ds ρ1 hR1 fun d' hd=>H d' (List.mem_cons_of_mem _ hd)];simp [z]
    | false=>simp [stepG,z]
theorem yX {F:Fs} {fr:List Nat} {nt:Nat} {elt:CE} {tg:CT} {it:CI} {ρ:En} {S S1:Sr} {ds:List D} (xs:List α) (p:α→Bool) (R:En→Prop) (hI:evI F it ρ S=.ok ds S1) (hd:ds=xs.map g) (h0:R (frE ρ fr nt))
    (H:∀ d∈xs,∀ ρ:En,R ρ→∃ ρ1,asg F tg (g d) ρ S1=.ok ρ1 S1∧R ρ1∧ev F elt ρ1 S1=.ok (.bl (p d)) S1) :
    ev F (.gen .all fr nt elt tg it .nil) ρ S=.ok (.bl (xs.all p)) S1:=by
  simp only [ev,hI,Res.bind,hd,startG]
  exact qcg R xs _ h0 fun d hd ρ hR=>let ⟨ρ1,a,b,c⟩:=H d hd ρ hR;⟨ρ1,a,b,rfl,c⟩
theorem qaj {bind:D→En→Sr→Res En} {test:En→Sr→Res Bool} {elt:En→Sr→Res D} {b:α→Bool} {v:α→Int} (R:En→Prop) {S:Sr}:∀ (ds:List α) (ρ:En) (acc:Int),R ρ →
    (∀ d∈ds,∀ ρ:En,R ρ→∃ ρ1,bind (g d) ρ S=.ok ρ1 S∧R ρ1∧test ρ1 S=.ok (b d) S∧(b d=true→elt ρ1 S=.ok (.int (v d)) S)) →
    genLoop bind test elt (stepG .sum) (finG .sum) (ds.map g) ρ (.int acc) S=.ok (.int (acc+((ds.filter b).map v).sum)) S
  | [],ρ,acc,_,_=>by simp [genLoop,finG]
  | d::ds,ρ,acc,hR,H=>by
    obtain ⟨ρ1,e1,hR1,e2,e3⟩:=H d List.mem_cons_self ρ hR
    rw [List.map_cons]
    unfold genLoop
    rw [e1,Res.bind_ok,e2,Res.bind_ok]
    cases z:b d with
    | true =>
      rw [if_pos rfl,e3 z,Res.bind_ok]
      simp only [stepG]
      rw [qaj R ds ρ1 _ hR1 fun d' hd=>H d' (List.mem_cons_of_mem _ hd)]
      simp [z,Int.add_assoc]
    | false =>
      rw [if_neg (by simp),qaj R ds ρ1 _ hR1 fun d' hd=>H d' (List.mem_cons_of_mem _ hd)]
      simp [z]
theorem qf7 {F:Fs} {fr:List Nat} {nt:Nat} {elt:CE} {tg:CT} {it:CI} {ifs:CBs} {ρ:En} {S S1:Sr} {ds:List D} (xs:List α) (b:α→Bool) (v:α→Int) (R:En→Prop) (hI:evI F it ρ S=.ok ds S1) (hd:ds=xs.map g) (h0:R (frE ρ fr nt))
    (H:∀ d∈xs,∀ ρ:En,R ρ→∃ ρ1,asg F tg (g d) ρ S1=.ok ρ1 S1∧R ρ1∧tsts F ifs ρ1 S1=.ok (b d) S1∧(b d=true→ev F elt ρ1 S1=.ok (.int (v d)) S1)) :
    ev F (.gen .sum fr nt elt tg it ifs) ρ S=.ok (.int ((xs.filter b).map v).sum) S1:=by
  simp only [ev,hI,Res.bind,hd,startG]
  rw [qaj R xs _ 0 h0 H];simp
end
noncomputable abbrev Tie:=List Int × Int
structure PlOk (n:Nat) (p:List Int):Prop where
  ne:p≠[]
  rng:∀ x∈p,0≤x∧x<n
  up:p.Pairwise (· < ·)
theorem qJ:∀ l:List Int,intsOf (l.map .int)=some l
  | []=>rfl
  | a::r=>by simp [intsOf,qJ r]
theorem qeK:∀ {l:List Int},l.Pairwise (· < ·)→(l.zip (l.drop 1)).all (fun p=>decide (p.1<p.2))=true
  | [],_=>rfl
  | [a],_=>rfl
  | a::b::r,h=>by
    have h1:=List.pairwise_cons.mp h
    have:=qeK h1.2
    simp only [List.drop_succ_cons,List.drop_zero,List.zip_cons_cons,List.all_cons,Bool.and_eq_true,decide_eq_true_eq] at this ⊢
    exact ⟨h1.1 b List.mem_cons_self,this⟩
theorem qch:∀ {l:List (List Int)},l.Pairwise (fun a b=>HT.lexLt a b=true)→(l.zip (l.drop 1)).all (fun p=>HT.lexLt p.1 p.2)=true
  | [],_=>rfl
  | [a],_=>rfl
  | a::b::r,h=>by
    have h1:=List.pairwise_cons.mp h
    have:=qch h1.2
    simp only [List.drop_succ_cons,List.drop_zero,List.zip_cons_cons,List.all_cons,Bool.and_eq_true] at this ⊢
    exact ⟨h1.1 b List.mem_cons_self,this⟩
theorem cut1 (l:List D):cutD l (some 1) none=l.drop 1:=by
  unfold cutD HT.sIx
  cases l with
  | nil=>rfl
  | cons a r =>
    have:min (1:Int).toNat (a::r).length=1:=by simp
    simp only [this]
    rw [if_neg (by lia)]
    simp
end RP
namespace RP
open R
section
variable {F:Fs} {N:Nat} {ρ ρ1:En} {S S1 S2:Sr} {r a b:CSs} {e e1 e2:CE} {t:CT} {c:CB} {X:Res Fl} {d d1 d2:D}
theorem qA (h:ev F e ρ S=.ok d S1):exs F N (.cons (.ret e) r) ρ S=.ok (.rt d) S1:=by simp [exs,ex,h,Res.bind]
theorem jp:exs F N .nil ρ S=.ok (.nx ρ) S:=by simp [exs]
theorem x_set (h:ev F e ρ S=.ok d S1) (h2:asg F t d ρ S1=.ok ρ1 S2) (h3:exs F N r ρ1 S2=X):exs F N (.cons (.set t e) r) ρ S=X:=by simp [exs,ex,h,h2,h3,Res.bind]
theorem x_expr (h:ev F e ρ S=.ok d S1) (h3:exs F N r ρ S1=X):exs F N (.cons (.expr e) r) ρ S=X:=by simp [exs,ex,h,h3,Res.bind]
theorem x_no (h:tst F c ρ S=.ok false S1) (h3:exs F N r ρ S1=X):exs F N (.cons (.ifs c a .nil) r) ρ S=X:=by simp [exs,ex,h,h3,Res.bind]
theorem zS (h:tst F c ρ S=.ok true S1) (h2:exs F N a ρ S1=.ok (.rt d) S2):exs F N (.cons (.ifs c a b) r) ρ S=.ok (.rt d) S2:=by simp [exs,ex,h,h2,Res.bind]
theorem qgA {it:CI} {ds:List D} (h:evI F it ρ S=.ok ds S1) (h2:forLoop (fun d ρ S=>(asg F t d ρ S).bind fun ρ1 S1=>exs F N a ρ1 S1) ds ρ S1=.ok (.nx ρ1) S2) (h3:exs F N r ρ1 S2=X):exs F N (.cons (.forS t it a) r) ρ S=X:=by
  simp only [exs,ex,h,Res.bind] at h2 ⊢
  rw [h2]
  exact h3
theorem qw {f:CF} {l:List D} (hl:l.length=f.np) (h:exs F N f.body (l.map some++List.replicate (f.nn-f.np) none) S=.ok (.rt d) S):callC F N f l S=.ok d S:=by
  simp only [callC,hl,if_pos,h,Res.bind,leave]
  cases f.keeps <;> simp
theorem qf8 {f:CF} {l:List D} (hl:l.length=f.np) (h:exs F N f.body (l.map some++List.replicate (f.nn-f.np) none) S=.ok (.nx ρ) S):callC F N f l S=.ok .non S:=by
  simp only [callC,hl,if_pos,h,Res.bind,leave]
  cases f.keeps <;> simp
theorem qeL {f:CF} {l:List D} (hl:l.length=f.np) (hk:f.keeps=false) (h:exs F N f.body (l.map some++List.replicate (f.nn-f.np) none) S=.ok (.rt d) (S1++S2)) (hs:S1.length=S.length) (hr:refsLt S.length d=true):callC F N f l S=.ok d S1:=by
  simp only [callC,hl,if_pos,h,Res.bind,leave,hk]
  rw [if_neg (by simp)]
  split
  · rename_i z
    have:S2=[]:=by
      rw [List.length_append,hs] at z
      exact List.length_eq_zero_iff.mp (by lia)
    rw [this,List.append_nil]
  · rw [← hs];simp
theorem qhW {f:CF} {l:List D} (hl:l.length=f.np) (hk:f.keeps=true) (h:exs F N f.body (l.map some++List.replicate (f.nn-f.np) none) S=.ok (.rt d) S1):callC F N f l S=.ok d S1:=by
  simp only [callC,hl,if_pos,h,Res.bind,leave,hk]
theorem qgB {x y:Bool} (h:ev F e1 ρ S=.ok (.bl x) S) (h2:ev F e2 ρ S=.ok (.bl y) S):ev F (.and e1 e2) ρ S=.ok (.bl (x&&y)) S:=by
  cases x <;> simp [ev,h,h2,Res.bind]
theorem qh {i:Nat} {es:CEs} {l:List D} (h:evs F es ρ S=.ok l S1) (h2:F i l S1=.ok d S2):ev F (.call i es) ρ S=.ok d S2:=by simp [ev,h,h2,Res.bind]
theorem qL {i:Blt} {es:CEs} {l:List D} (h:evs F es ρ S=.ok l S1) (h2:bltD i l S1=.ok d S2):ev F (.blt i es) ρ S=.ok d S2:=by simp [ev,h,h2,Res.bind]
theorem qd {es:CEs} {l:List D} (h:ev F e ρ S=.ok d S1) (h2:evs F es ρ S1=.ok l S2):evs F (.cons e es) ρ S=.ok (d::l) S2:=by simp [evs,h,h2,Res.bind]
theorem qp {o:BOp} (h:ev F e1 ρ S=.ok d1 S1) (h2:ev F e2 ρ S1=.ok d2 S2) (h3:binD o d1 d2 S2=some d):ev F (.bin o e1 e2) ρ S=.ok d S2:=by simp [ev,h,h2,h3,Res.bind]
theorem zf {o:COp} {x:Bool} (h:ev F e1 ρ S=.ok d1 S1) (h2:ev F e2 ρ S1=.ok d2 S2) (h3:cmpD o d1 d2 S2=some x):ev F (.cmp o e1 e2) ρ S=.ok (.bl x) S2:=by simp [ev,h,h2,h3,Res.bind]
theorem yD (h:ev F e1 ρ S=.ok d1 S1) (h2:ev F e2 ρ S1=.ok d2 S2) (h3:idxD S2 d1 d2=some d):ev F (.idx e1 e2) ρ S=.ok d S2:=by simp [ev,h,h2,h3,Res.bind]
theorem qB {es:CEs} {l:List D} (h:evs F es ρ S=.ok l S1) (hl:l.length≤PySem.sizeLine):ev F (.tup es) ρ S=.ok (.tup l) S1:=by simp [ev,h,hl,Res.bind]
theorem t_of {x:Bool} (h:ev F e ρ S=.ok (.bl x) S1):tst F (.val e) ρ S=.ok x S1:=by simp [tst,h,Res.bind,truD]
theorem t_no {x:Bool} (h:tst F c ρ S=.ok x S1):tst F (.not c) ρ S=.ok (!x) S1:=by simp [tst,h,Res.bind]
theorem qgC {c2:CB} {x y:Bool} (h:tst F c ρ S=.ok x S) (h2:x=true→tst F c2 ρ S=.ok y S):tst F (.and c c2) ρ S=.ok (x&&y) S:=by
  cases x <;> simp [tst,h,h2,Res.bind]
theorem qbC {x:Bool} (h:tst F c ρ S=.ok x S):tsts F (.cons c .nil) ρ S=.ok x S:=by
  cases x <;> simp [tsts,h,Res.bind]
end
theorem yQ {α:Type} (l:List α):l.filter (fun _=>true)=l:=List.filter_eq_self.mpr fun _ _=>rfl
theorem qeM {α:Type} (f:α→D) (p:List α):((p.map f).zip ((p.drop 1).map f)).map (fun q=>D.tup [q.1,q.2])=(p.zip (p.drop 1)).map fun q=>.tup [f q.1,f q.2]:=by
  rw [List.zip_map,List.map_map];rfl
theorem refsI (k:Nat):∀ l:List Int,refsLts k (l.map .int)=true
  | []=>rfl
  | a::r=>by rw [List.map_cons,refsLts,refsI k r];rfl
theorem zm (k:Nat) (l:List Int):refsLt k (tupI l)=true:=refsI k l
theorem jq (l:List Int) (S:Sr):bltD .len [tupI l] S=.ok (.int l.length) S:=by simp [bltD,one,bLen,lenD,tupI]
end RP
namespace RP
open R
theorem yY {a:Int} {n:Nat} (h:a.natAbs<2^n):PySem.Builtin.Int.intBits a≤n:=by
  unfold PySem.Builtin.Int.intBits
  split
  · lia
  · rename_i z
    have hz:a.natAbs≠0:=by
      intro e;apply z;simp;lia
    have:=(Nat.log2_lt hz).mpr h
    lia
theorem yZ {a b:Int} (h:a.natAbs<2^64):mulOk a b=true:=by
  have:=yY h
  unfold mulOk PySem.shortFactorBits
  have e:decide (PySem.Builtin.Int.intBits a>64)=false:=by simp;lia
  rw [e];rfl
theorem qci {a b:Int} (h:a.natAbs<2^250) (h2:b.natAbs<2^250):mulOk a b=true:=by
  have h1:=yY h
  have h2:=yY h2
  unfold mulOk PySem.Builtin.Int.intTooBig PySem.bitsLine
  have e:decide (((PySem.Builtin.Int.intBits a:Int)+(PySem.Builtin.Int.intBits b:Int))>((2^27:Nat):Int))=false:=by
    rw [decide_eq_false_iff_not];norm_cast;lia
  rw [e,Bool.and_false];rfl
theorem qcj {a b:Int} (h0:0<b) (h:b.natAbs<2^64):divOk a b=true:=by
  have hb:=yY h
  unfold divOk PySem.Builtin.divisionGoesByPylong
  unfold PySem.Builtin.Int.intBits at hb
  have e0:(b == 0)=false:=by rw [beq_eq_false_iff_ne];lia
  rw [e0] at hb
  simp only [e0,Bool.false_eq_true,if_false] at hb ⊢
  have e:decide (b.natAbs.log2 / 30+1>300)=false:=by rw [decide_eq_false_iff_not];lia
  simp only [e,Bool.false_and];rfl
theorem bmul {a b:Int} {S:Sr} (h:mulOk a b=true):binD .mul (.int a) (.int b) S=some (.int (a*b)):=by
  simp only [binD,binI];rw [if_pos h];rfl
theorem badd {a b:Int} {S:Sr}:binD .add (.int a) (.int b) S=some (.int (a+b)):=rfl
noncomputable def pk (S:Sr) (n:Nat) (v:Int):Sr:=S.set n (.lst [.int v])
theorem qE (S:Sr) (n:Nat) (v:Int):(pk S n v).length=S.length:=by simp [pk]
theorem qje {S:Sr} {n:Nat} (h:n<S.length) (v:Int):(pk S n v)[n]?=some (.lst [.int v]):=by simp [pk,h]
theorem qeN {S T:Sr} {n:Nat} (h:n<S.length) (v:Int):pk S n v++T=pk (S++T) n v:=by simp [pk,List.set_append_left _ _ h]
theorem qck {S:Sr} {n:Nat} {v:Int} (h:S[n]?=some (.lst [.int v])):pk S n v=S:=by
  unfold pk
  apply List.ext_getElem?
  intro i
  rw [List.getElem?_set]
  split
  · rename_i e;subst e
    obtain ⟨hl,_⟩:=List.getElem?_eq_some_iff.mp h
    rw [if_pos hl,h]
  · rfl
theorem yE {F:Fs} {ρ:En} {S S1:Sr} {es:CEs} {l:List D} (h:evs F es ρ S=.ok l S1) (hl:l.length≤1000):ev F (.lst false es) ρ S=.ok (.lst l) S1:=by
  have:l.length≤PySem.sizeLine:=by unfold PySem.sizeLine;lia
  simp [ev,h,this,Res.bind,newL]
theorem qhX {F:Fs} {ρ:En} {S S1:Sr} {es:CEs} {l:List D} (h:evs F es ρ S=.ok l S1) (hl:l.length≤1000) (hr:refsLts 0 l=true):ev F (.lst true es) ρ S=.ok (.ref S1.length) (S1++[.lst l]):=by
  have:l.length≤PySem.sizeLine:=by unfold PySem.sizeLine;lia
  simp [ev,h,this,Res.bind,newL,hr]
theorem jr {body:D→En→Sr→Res Fl} {d:D} {r:List D} {ρ ρ1:En} {S S1:Sr} (h:body d ρ S=.ok (.nx ρ1) S1):forLoop body (d::r) ρ S=forLoop body r ρ1 S1:=by
  simp only [forLoop,h,Res.bind]
theorem qf9 {α:Type} {g:α→D} {body:D→En→Sr→Res Fl} (P:List α→En→Sr→Prop) (xs:List α) {ρ:En} {S:Sr} (h0:P [] ρ S)
    (H:∀ (pre:List α) (x:α) (suf:List α) (ρ:En) (S:Sr),xs=pre++x::suf→P pre ρ S→∃ ρ1 S1,body (g x) ρ S=.ok (.nx ρ1) S1∧P (pre++[x]) ρ1 S1) :
    ∃ ρ' S',forLoop body (xs.map g) ρ S=.ok (.nx ρ') S'∧P xs ρ' S':=by
  have key:∀ (suf pre:List α) (ρ:En) (S:Sr),xs=pre++suf→P pre ρ S→∃ ρ' S',forLoop body (suf.map g) ρ S=.ok (.nx ρ') S'∧P xs ρ' S':=by
    intro suf
    induction suf with
    | nil=>intro pre ρ S e h;rw [List.append_nil] at e;subst e;exact ⟨ρ,S,rfl,h⟩
    | cons x r ih =>
      intro pre ρ S e h
      obtain ⟨ρ1,S1,e1,h1⟩:=H pre x r ρ S e h
      obtain ⟨ρ',S',e2,h2⟩:=ih (pre++[x]) ρ1 S1 (by rw [e];simp) h1
      exact ⟨ρ',S',by rw [List.map_cons,jr e1,e2],h2⟩
  exact key xs [] ρ S rfl h0
end RP
namespace RP
open R
noncomputable def rI (n:Nat):List Int:=(List.range n).map fun (k:Nat)=>(k:Int)
theorem yq (n:Nat):(rI n).length=n:=by simp [rI]
theorem zT {n:Nat} {x:Int}:x∈rI n ↔ 0≤x∧x<n:=by
  unfold rI
  rw [List.mem_map]
  constructor
  · rintro ⟨k,hk,rfl⟩;have:=List.mem_range.mp hk;lia
  · rintro ⟨h0,h1⟩;exact ⟨x.toNat,List.mem_range.mpr (by lia),by lia⟩
theorem qgD (n:Nat):(rI n).Pairwise (· < ·):=by
  unfold rI
  exact List.Pairwise.map _ (fun a b h=>by lia) List.pairwise_lt_range
theorem qga (n:Nat):rngL 0 n 1=(rI n).map .int:=by
  unfold rngL rI
  have:(((n:Int)-0+1-1) / 1).toNat=n:=by lia
  rw [this,List.map_map]
  apply List.map_congr_left
  intro k _
  simp
theorem qeO {n:Nat} (h:n≤1000):rngD [.int n]=some ((rI n).map .int):=by
  have h1:-(2^62)≤(n:Int):=by lia
  have h2:(n:Int)<2^62:=by lia
  simp only [rngD,h1,h2,and_self,if_true,qga]
theorem qjf {n:Nat} (h:n≤1000):((rI n).map D.int).length≤1000000:=by
  rw [List.length_map,yq];exact Nat.le_trans h (by decide)
theorem fm {v m:Int} (h:0<m):0≤v.fmod m∧v.fmod m<m:=⟨Int.fmod_nonneg_of_pos v h,Int.fmod_lt_of_pos v h⟩
theorem qhY {F:Fs} {ρ:En} {S S1:Sr} {es:CEs} {l:List D} {k:Option Bool} (h:evs F es ρ S=.ok l S1) {ds:List D} (h2:rngD l=some ds) (h3:ds.length≤1000000):ev F (.rng k es) ρ S=match k with | some m=>newL m ds S1 | none=>.ok (.tup ds) S1:=by
  cases k <;> simp only [ev,h,Res.bind,h2,h3,if_true]
theorem qhZ {F:Fs} {ρ:En} {S S1:Sr} {es:CEs} {n:Nat} (h:evs F es ρ S=.ok [.int n] S1) (hn:n≤1000):ev F (.rng none es) ρ S=.ok (tupI (rI n)) S1:=by
  rw [qhY h (qeO hn) (qjf hn)]
  rfl
theorem i_rng {F:Fs} {ρ:En} {S S1:Sr} {es:CEs} {n:Nat} (h:evs F es ρ S=.ok [.int n] S1) (hn:n≤1000):evI F (.rng es) ρ S=.ok ((rI n).map .int) S1:=by
  simp only [evI,h,Res.bind,qeO hn];rfl
end RP
namespace RP
open R
noncomputable def ent (t:Tie):List Int × D:=(t.1,.int t.2)
noncomputable def dicD (ts:List Tie):SO:=.dic (ts.map ent)
noncomputable def putTie (k:List Int) (w:Int) (ts:List Tie):List Tie :=
  if ts.any (fun t=>decide (t.1=k)) then ts.map (fun t=>if t.1=k then (t.1,w) else t) else ts++[(k,w)]
theorem qeP (k:List Int) (w:Int) (ts:List Tie):putT k (.int w) (ts.map ent)=(putTie k w ts).map ent:=by
  unfold putT putTie
  have e:(ts.map ent).any (fun p=>decide (p.1=k))=ts.any (fun t=>decide (t.1=k)):=by rw [List.any_map];rfl
  rw [e]
  split
  · rw [List.map_map,List.map_map]
    apply List.map_congr_left
    intro t _
    show (if t.1=k then (t.1,D.int w) else ent t)=ent (if t.1=k then (t.1,w) else t)
    split <;> rfl
  · simp [ent]
noncomputable def look (ts:List Tie) (k:List Int):Int:=match ts with
  | []=>0
  | t::r=>if t.1=k then t.2 else look r k
theorem qak:∀ {ts:List Tie} {k:List Int},k∈ts.map (·.1)→lookT k (ts.map ent)=some (.int (look ts k))∧∃ t∈ts,t.1=k∧t.2=look ts k
  | [],k,h=>by simp at h
  | t::r,k,h=>by
    rw [List.map_cons]
    show (if t.1=k then some (D.int t.2) else lookT k (r.map ent))=some (.int (if t.1=k then t.2 else look r k))∧∃ s∈t::r,s.1=k∧s.2=(if t.1=k then t.2 else look r k)
    by_cases e:t.1=k
    · rw [if_pos e,if_pos e];exact ⟨rfl,t,List.mem_cons_self,e,rfl⟩
    · rw [if_neg e,if_neg e]
      have h':k∈r.map (·.1):=by
        rw [List.map_cons] at h
        rcases List.mem_cons.mp h with z | z
        · exact absurd z.symm e
        · exact z
      obtain ⟨a,s,hs,b⟩:=qak h'
      exact ⟨a,s,List.mem_cons_of_mem _ hs,b⟩
theorem js:∀ l:List (List Int),tupsOf (l.map tupI)=some l
  | []=>rfl
  | a::r=>by simp [tupsOf,tupI,qJ];exact js r
theorem qda {l:List (List Int)} (h:l.length<64) (nd:l.Nodup) (ne:∀ t∈l,t≠[]):sortL (l.map tupI)=some ((sortT l).map tupI):=by
  unfold sortL
  rw [if_pos (by simpa using h)]
  cases l with
  | nil=>rfl
  | cons a r =>
    have:intsOf ((a::r).map tupI)=none:=rfl
    rw [this]
    show (tupsOf ((a::r).map tupI)).bind _=_
    rw [js,Option.bind_some,if_pos ⟨nd,ne⟩]
end RP
namespace RP
open R
noncomputable def eu:Nat→Int→Int→Int
  | 0,a,_=>a
  | n+1,a,b=>if b=0 then a else eu n b (a.fmod b)
theorem qeQ:∀ (n:Nat) {a b:Int},0<a→0≤b→0<eu n a b
  | 0,a,b,ha,_=>ha
  | n+1,a,b,ha,hb=>by
    unfold eu
    split
    · exact ha
    · exact qeQ n (by omega) (Int.fmod_nonneg_of_pos a (by omega))
theorem qgE:∀ (n:Nat) {a b m:Int},0≤b→a≤m→b≤m→eu n a b≤m
  | 0,a,b,m,_,ha,_=>ha
  | n+1,a,b,m,hb0,ha,hb=>by
    unfold eu
    split
    · exact ha
    · have:=Int.fmod_lt_of_pos a (show 0<b by omega)
      exact qgE n (Int.fmod_nonneg_of_pos a (by omega)) hb (by omega)
theorem qa1 {n:Nat} {a b:Int} (ha:0≤a) (hb:0<b):0<eu (n+1) a b∧eu (n+1) a b≤b:=by
  unfold eu
  rw [if_neg (by omega)]
  have h1:=Int.fmod_nonneg_of_pos a hb
  have h2:=Int.fmod_lt_of_pos a hb
  exact ⟨qeQ n hb h1,qgE n h1 (by omega) (by omega)⟩
theorem half {a b:Int} (h:0<b) (hr:0<a.fmod b):2*b.fmod (a.fmod b)<b:=by
  have h1:=Int.fmod_lt_of_pos a h
  have h2:=Int.fmod_lt_of_pos b hr
  have h3:=Int.fmod_nonneg_of_pos b hr
  have h4:=Int.mul_fdiv_add_fmod b (a.fmod b)
  have h5:0<b.fdiv (a.fmod b):=by
    rcases Int.lt_or_le 0 (b.fdiv (a.fmod b)) with z | z
    · exact z
    · exfalso
      have:a.fmod b*b.fdiv (a.fmod b)≤0:=by
        have:=Int.mul_le_mul_of_nonneg_left z (Int.le_of_lt hr)
        simpa using this
      omega
  have h6:a.fmod b≤a.fmod b*b.fdiv (a.fmod b):=by
    have:=Int.mul_le_mul_of_nonneg_left (show (1:Int)≤b.fdiv (a.fmod b) by omega) (Int.le_of_lt hr)
    simpa using this
  omega
theorem wl {test:En→Sr→Res Bool} {body:En→Sr→Res Fl} {E:Int→Int→En} {S:Sr} (ht:∀ a b,test (E a b) S=.ok (!(b == 0)) S) (hb:∀ a b,0<b→body (E a b) S=.ok (.nx (E b (a.fmod b))) S):∀ (k n:Nat) (a b:Int),0≤a→0≤b→b<2^k→2*k+1≤n→whileLoop test body n (E a b) S=.ok (.nx (E (eu n a b) 0)) S:=by
  have stop:∀ (n:Nat) (a:Int),0<n→whileLoop test body n (E a 0) S=.ok (.nx (E (eu n a 0) 0)) S:=by
    intro n a h
    cases n with
    | zero=>omega
    | succ n =>
      unfold whileLoop eu
      rw [ht,if_pos rfl];rfl
  have go:∀ (n:Nat) (a b:Int),0<b→whileLoop test body (n+1) (E a b) S=whileLoop test body n (E b (a.fmod b)) S:=by
    intro n a b h
    rw [whileLoop,ht,Res.bind_ok]
    have:(!(b == 0))=true:=by simp;omega
    rw [if_pos this,hb a b h,Res.bind_ok]
  have eug:∀ (n:Nat) (a b:Int),0<b→eu (n+1) a b=eu n b (a.fmod b):=fun n a b h=>by rw [eu,if_neg (by omega)]
  intro k
  induction k with
  | zero =>
    intro n a b ha hb0 hb1 hn
    have:b=0:=by simp at hb1;omega
    subst this
    exact stop n a (by omega)
  | succ k ih =>
    intro n a b ha hb0 hb1 hn
    by_cases z:b=0
    · subst z;exact stop n a (by omega)
    · have hbp:0<b:=by omega
      obtain ⟨m,rfl⟩:∃ m,n=m+2:=⟨n-2,by omega⟩
      have h1:=Int.fmod_nonneg_of_pos a hbp
      rw [go _ _ _ hbp,eug _ _ _ hbp]
      by_cases z2:a.fmod b=0
      · rw [z2];exact stop _ _ (by omega)
      · have hr:0<a.fmod b:=by omega
        rw [go _ _ _ hr,eug _ _ _ hr]
        have h2:=half hbp hr
        have e:(2:Int)^(k+1)=2*2^k:=by rw [Int.pow_succ];omega
        exact ih m _ _ h1 (Int.fmod_nonneg_of_pos b hr) (by omega) (by omega)
theorem qcl {F:Fs} {N:Nat} {ρ ρ1:En} {S S1:Sr} {r a:CSs} {c:CB} {X:Res Fl} (h:whileLoop (fun ρ S=>tst F c ρ S) (fun ρ S=>exs F N a ρ S) N ρ S=.ok (.nx ρ1) S1) (h3:exs F N r ρ1 S1=X):exs F N (.cons (.whileS c a) r) ρ S=X:=by
  simp only [exs,ex,h,Res.bind]
  exact h3
theorem bmod {a b:Int} {S:Sr} (h:b≠0):binD .mod (.int a) (.int b) S=some (.int (a.fmod b)):=by
  simp only [binD,binI];rw [if_neg h];rfl
theorem bdiv {a b:Int} {S:Sr} (h:0<b) (h2:b.natAbs<2^64):binD .fdiv (.int a) (.int b) S=some (.int (a.fdiv b)):=by
  simp only [binD,binI];rw [if_pos (qcj h h2)];rfl
theorem qeR {a:Int} {S:Sr} (h:0≤a):bltD .abs [.int a] S=.ok (.int a) S:=by
  simp only [bltD,one,bAbs];rw [if_neg (by omega)]
noncomputable def low (n:Nat) (t b:Int):D:=.tup [.int (t.fdiv (eu n t b)),.int (b.fdiv (eu n t b))]
end RP
namespace RP
open R
noncomputable def isIntB:D→Bool
  | .int _=>true
  | _=>false
noncomputable def wholeB (a b:Int):D→Bool
  | .int i=>decide (a≤i)&&decide (i≤b)
  | _=>false
noncomputable def upB (ns:List Int):Bool:=(ns.zip (ns.drop 1)).all fun p=>decide (p.1<p.2)
noncomputable def upT (ks:List (List Int)):Bool:=(ks.zip (ks.drop 1)).all fun p=>HT.lexLt p.1 p.2
noncomputable def placesB (many:Int):D→Bool
  | .tup l=>match intsOf l with
    | some ns=>!ns.isEmpty&&ns.all (fun i=>decide (0≤i)&&decide (i≤many-1))&&upB ns
    | none=>false
  | _=>false
theorem jQ (a b:Int):∀ l:List D,l.all (wholeB a b)=match intsOf l with
    | some ns=>ns.all (fun i=>decide (a≤i)&&decide (i≤b))
    | none=>false
  | []=>rfl
  | x::r=>by
    have ih:=jQ a b r
    cases x with
    | int i =>
      simp only [List.all_cons,wholeB,intsOf]
      cases z:intsOf r with
      | none=>rw [z] at ih;simp only [Option.map_none];rw [ih];simp
      | some ns=>rw [z] at ih;simp only [Option.map_some,List.all_cons];rw [ih]
    | _=>simp [wholeB,intsOf]
theorem qcm {l:List D} {ns:List Int} (h:intsOf l=some ns):l=ns.map .int:=intsOf_eq h
section
variable {F:Fs} {N:Nat} {ρ ρ1:En} {S S1 S2:Sr} {e1 e2:CE} {c c2:CB}
theorem jR (h:tst F c ρ S=.ok true S1):tst F (.or c c2) ρ S=.ok true S1:=by simp [tst,h,Res.bind]
theorem zU {y:Bool} (h:tst F c ρ S=.ok false S) (h2:tst F c2 ρ S=.ok y S):tst F (.or c c2) ρ S=.ok y S:=by simp [tst,h,h2,Res.bind]
theorem qbD (h:ev F e1 ρ S=.ok (.bl false) S1):ev F (.and e1 e2) ρ S=.ok (.bl false) S1:=by simp [ev,h,Res.bind]
end
theorem yF (l:List D) (S:Sr):bltD .len [.tup l] S=.ok (.int l.length) S:=rfl
theorem pow6 (F:Fs) (ρ:En) (T:Sr):ev F (.bin .pow (.cst (.int 10)) (.cst (.int 6))) ρ T=.ok (.int 1000000) T:=by
  simp [ev,Res.bind,binD,binI]
end RP
namespace RP
open R
mutual
noncomputable def gd:D→Bool
  | .ref _=>false
  | .tup l=>decide (l.length≤900)&&gds l
  | .lst l=>gds l
  | .non=>true
  | .bl _=>true
  | .int _=>true
  | .str _=>true
  | .emp=>true
  | .exc _=>false
noncomputable def gds:List D→Bool
  | []=>true
  | x::r=>gd x&&gds r
end
theorem qcn:∀ l:List D,gds l=l.all gd
  | []=>rfl
  | x::r=>by rw [gds,qcn r,List.all_cons]
mutual
theorem qal:∀ x:D,gd x=true→refsLt 0 x=true
  | .ref _,h=>by simp [gd] at h
  | .tup l,h=>by
    simp only [gd,Bool.and_eq_true] at h
    exact jt l h.2
  | .lst l,h=>jt l h
  | .non,_=>rfl
  | .bl _,_=>rfl
  | .int _,_=>rfl
  | .str _,_=>rfl
  | .emp,_=>rfl
  | .exc _,h=>by simp [gd] at h
theorem jt:∀ l:List D,gds l=true→refsLts 0 l=true
  | [],_=>rfl
  | x::r,h=>by
    simp only [gds,Bool.and_eq_true] at h
    rw [refsLts,qal x h.1,jt r h.2];rfl
end
theorem qgF {l:List D} (h1:l.length≤900) (h2:gds l=true):gd (.tup l)=true:=by simp [gd,h1,h2]
mutual
noncomputable def tr:D→Bool
  | .int i=>decide (i.natAbs≤10000000)
  | .tup l=>decide (l.length≤60)&&trs l
  | _=>false
noncomputable def trs:List D→Bool
  | []=>true
  | x::r=>tr x&&trs r
end
theorem qam (l:List D) (a b:Option Int):(∀ x∈cutD l a b,x∈l)∧(cutD l a b).length≤l.length:=by
  unfold cutD
  exact ⟨fun x hx=>List.mem_of_mem_drop (List.mem_of_mem_take hx),by simp;lia⟩
theorem bcatT {a b:List D} {S:Sr} (h:a.length+b.length≤1000):binD .add (.tup a) (.tup b) S=some (.tup (a++b)):=by
  have:catOk a b=true:=by unfold catOk PySem.sizeLine;rw [decide_eq_true_eq];lia
  simp [binD,this]
theorem qeS {F:Fs} {ρ:En} {S:Sr} {e:CE} {lo hi:CO} {l:List D} {a b:Option Int} (h:ev F e ρ S=.ok (.tup l) S) (h1:evO F lo ρ S=.ok a S) (h2:evO F hi ρ S=.ok b S):ev F (.slc e lo hi) ρ S=.ok (.tup (cutD l a b)) S:=by
  simp only [ev,h,h1,h2,Res.bind,slcD,ofO]
noncomputable def tl:CSs→CSs
  | .cons _ r=>r
  | .nil=>.nil
end RP
namespace RP
open R
@[irreducible] noncomputable def Ok {α:Type} (r:Res α) (Q:α→Sr→Prop):Prop:=∃ a S,r=.ok a S∧Q a S
theorem Ok.ex {α:Type} {r:Res α} {Q:α→Sr→Prop} (h:Ok r Q):∃ a S,r=.ok a S∧Q a S:=by unfold Ok at h;exact h
theorem Ok.mk {α:Type} {r:Res α} {Q:α→Sr→Prop} (h:∃ a S,r=.ok a S∧Q a S):Ok r Q:=by unfold Ok;exact h
theorem Ok.mono {α:Type} {r:Res α} {Q Q':α→Sr→Prop} (h:Ok r Q) (k:∀ a S,Q a S→Q' a S):Ok r Q':=by
  obtain ⟨a,S,e,q⟩:=h.ex
  exact .mk ⟨a,S,e,k a S q⟩
theorem qeT {α:Type} {a:α} {S:Sr} {Q:α→Sr→Prop} (h:Q a S):Ok (.ok a S) Q:=.mk ⟨a,S,rfl,h⟩
theorem Ok.of {α:Type} {r:Res α} {a:α} {S:Sr} {Q:α→Sr→Prop} (e:r=.ok a S) (h:Q a S):Ok r Q:=.mk ⟨a,S,e,h⟩
section
variable {F:Fs} {N:Nat} {ρ:En} {S:Sr} {r a b:CSs} {e e1 e2:CE} {t:CT} {c:CB} {Q:Fl→Sr→Prop} {s:CS}
theorem qco (h:Q (.nx ρ) S):Ok (exs F N .nil ρ S) Q:=by rw [jp];exact qeT h
theorem qeU (h:Ok (ev F e ρ S) fun d S1=>Q (.rt d) S1):Ok (exs F N (.cons (.ret e) r) ρ S) Q:=by
  obtain ⟨d,S1,e1,h1⟩:=h.ex
  rw [qA e1];exact qeT h1
theorem jS (h:Ok (ev F e ρ S) fun d S1=>Ok (asg F t d ρ S1) fun ρ1 S2=>Ok (exs F N r ρ1 S2) Q):Ok (exs F N (.cons (.set t e) r) ρ S) Q:=by
  obtain ⟨d,S1,e1,h1⟩:=h.ex
  obtain ⟨ρ1,S2,e2,h2⟩:=h1.ex
  rw [x_set e1 e2 rfl];exact h2
theorem o_no (h:Ok (tst F c ρ S) fun x S1=>x=false∧Ok (exs F N r ρ S1) Q):Ok (exs F N (.cons (.ifs c a .nil) r) ρ S) Q:=by
  obtain ⟨x,S1,e1,rfl,h1⟩:=h.ex
  rw [x_no e1 rfl];exact h1
theorem qa2 {α:Type} {g:α→D} {it:CI} (P:List α→En→Sr→Prop) (xs:List α) (h:Ok (evI F it ρ S) fun ds S1=>ds=xs.map g∧P [] ρ S1)
    (H:∀ (pre:List α) (x:α) (suf:List α) (ρ:En) (S:Sr),xs=pre++x::suf→P pre ρ S→Ok (asg F t (g x) ρ S) fun ρ1 S1=>Ok (exs F N a ρ1 S1) fun f S2=>match f with | .nx ρ2=>P (pre++[x]) ρ2 S2 | _=>False)
    (K:∀ ρ' S',P xs ρ' S'→Ok (exs F N r ρ' S') Q):Ok (exs F N (.cons (.forS t it a) r) ρ S) Q:=by
  obtain ⟨ds,S1,e1,rfl,h0⟩:=h.ex
  obtain ⟨ρ',S',e2,h2⟩:=qf9 (g:=g) (body:=fun d ρ S=>(asg F t d ρ S).bind fun ρ1 S1=>exs F N a ρ1 S1) P xs h0 (by
    intro pre x suf ρ S hp h1
    obtain ⟨ρ1,S2,e3,h3⟩:=(H pre x suf ρ S hp h1).ex
    obtain ⟨f,S3,e4,h4⟩:=h3.ex
    cases f with
    | nx ρ2=>exact ⟨ρ2,S3,by rw [e3,Res.bind_ok,e4],h4⟩
    | _=>exact h4.elim)
  rw [qgA e1 e2 rfl]
  exact K ρ' S' h2
theorem qan {f:CF} {l:List D} {Q:D→Sr→Prop} (hl:l.length=f.np) (hk:f.keeps=false) (h:Ok (exs F N f.body (l.map some++List.replicate (f.nn-f.np) none) S) fun x S1=>match x with
    | .rt d=>S.length≤S1.length∧refsLt S.length d=true∧Q d (S1.take S.length)
    | _=>False):Ok (callC F N f l S) Q:=by
  obtain ⟨x,S1,e1,h1⟩:=h.ex
  cases x with
  | rt d =>
    obtain ⟨h2,h3,h4⟩:=h1
    have:callC F N f l S=.ok d (S1.take S.length):=by
      simp only [callC,hl,if_pos,e1,Res.bind,leave,hk]
      rw [if_neg (by simp)]
      split
      · rename_i z;rw [← z,List.take_length]
      · first | rfl | rw [if_pos h3]
    rw [this];exact qeT h4
  | _=>exact h1.elim
theorem qh0 {S1:Sr} {l:List D} (h:ev F e ρ S=.ok (.lst l) S1):evI F (.seq e) ρ S=.ok l S1:=by
  simp only [evI,h,Res.bind]
end
end RP
namespace RP
open R
noncomputable def nth (o:List Int) (x:Int):Int:=o.getD x.toNat 0
noncomputable def cal (o p:List Int):List Int:=sortI (p.map (nth o))
theorem qjg {F:Fs} {ρ:En} {S:Sr} {ns:List Int} {c:Int} (h:ρ[0]?=some (some (.lst (ns.map .int)))) (hc1:1≤c) (hc2:c≤1000):∃ n:Nat,(2*n:Int)≤c+1∧evI F (.rng (.cons (.cst (.int 0)) (.cons (.blt .max2 (.cons (.cst (.int 1)) (.cons (.blt .min2 (.cons (.blt .len (.cons (.var 0) .nil)) (.cons (.cst (.int c)) .nil))) .nil))) (.cons (.cst (.int 2)) .nil)))) ρ S=.ok ((List.range n).map fun (k:Nat)=>D.int (0+2*k)) S:=by
  obtain ⟨b,hb⟩:∃ b:Int,b=(if (if c<(ns.length:Int) then c else (ns.length:Int))>1 then (if c<(ns.length:Int) then c else (ns.length:Int)) else 1):=⟨_,rfl⟩
  have hb1:1≤b∧b≤c:=by rw [hb];split <;> split <;> lia
  refine ⟨((b-0+2-1) / 2).toNat,by lia,?_⟩
  have a0:ev F (.var 0) ρ S=.ok (.lst (ns.map .int)) S:=by simp only [ev,varE,h]
  have a1:ev F (.blt .len (.cons (.var 0) .nil)) ρ S=.ok (.int ns.length) S:=qL (qd a0 rfl) (by simp [bltD,one,bLen,lenD])
  have a2:ev F (.blt .min2 (.cons (.blt .len (.cons (.var 0) .nil)) (.cons (.cst (.int c)) .nil))) ρ S=.ok (.int (if c<(ns.length:Int) then c else (ns.length:Int))) S:=qL (qd a1 (qd rfl rfl)) rfl
  have a3:ev F (.blt .max2 (.cons (.cst (.int 1)) (.cons (.blt .min2 (.cons (.blt .len (.cons (.var 0) .nil)) (.cons (.cst (.int c)) .nil))) .nil))) ρ S=.ok (.int b) S:=qL (qd rfl (qd a2 rfl)) (by rw [hb];rfl)
  have a4:evs F (.cons (.cst (.int 0)) (.cons (.blt .max2 (.cons (.cst (.int 1)) (.cons (.blt .min2 (.cons (.blt .len (.cons (.var 0) .nil)) (.cons (.cst (.int c)) .nil))) .nil))) (.cons (.cst (.int 2)) .nil))) ρ S=.ok [.int 0,.int b,.int 2] S:=qd rfl (qd a3 rfl)
  simp only [evI,a4,Res.bind,rngD]
  have hc:-(2^62)≤(0:Int)∧(0:Int)<2^62∧-(2^62)≤b∧b<2^62∧(0:Int)<2∧(2:Int)<2^62:=⟨by decide,by decide,by lia,by lia,by decide,by decide⟩
  rw [if_pos hc];rfl
end RP
namespace RP
open R PySem
noncomputable def tx (p:Int × Int):Str:=if p.2=1 then Str.ofString (toString p.1) else Str.ofString (toString p.1)++Str.ofString "/"++Str.ofString (toString p.2)
end RP
namespace RP
open R
noncomputable abbrev NW:Nat:=60
@[irreducible] noncomputable def G (d:Nat):Fs:=run prg NW d
theorem qeV (d:Nat):G d=run prg NW d:=by unfold G;rfl
theorem G_at {d i:Nat} {c:CF} (h:prg[i]?=some c) (l:List D) (S:Sr):G (d+1) i l S=callC (G d) NW c l S:=by
  rw [qeV,qeV]
  show (match prg[i]? with | some c=>callC (run prg NW d) NW c l S | none=>.no)=_
  rw [h]
theorem qbE {d:Nat} {i:Int} {S:Sr}:G (d+1) 0 [.int i] S=.ok (.bl true) S:=by
  rw [G_at (c:=c_0) rfl]
  simp [callC,c_0,Res.bind,exs,ex,ev,varE,isiD,leave]
theorem yG {d:Nat} {i a b:Int} {S:Sr}:G (d+2) 1 [.int i,.int a,.int b] S=.ok (.bl (decide (a≤i)&&decide (i≤b))) S:=by
  rw [G_at (c:=c_1) rfl]
  by_cases h:a≤i <;> simp [callC,c_1,exs,ex,ev,evs,varE,Res.bind,qbE,cmpD,h,leave]
theorem qa3 {d:Nat} {x:D} {S:Sr} (hx:refsLt 0 x=true):G (d+1) 0 [x] S=.ok (.bl (isIntB x)) S:=by
  rw [G_at (c:=c_0) rfl]
  cases x with
  | ref n=>simp [refsLt] at hx
  | exc n=>simp [refsLt] at hx
  | _=>exact qw rfl (qA rfl)
theorem zB {d:Nat} {x:D} {a b:Int} {S:Sr} (hx:refsLt 0 x=true):G (d+2) 1 [x,.int a,.int b] S=.ok (.bl (wholeB a b x)) S:=by
  cases x with
  | int i=>exact yG
  | ref n=>simp [refsLt] at hx
  | exc n=>simp [refsLt] at hx
  | _ =>
    rw [G_at (c:=c_1) rfl]
    exact qw rfl (qA (qbD (qh rfl (qa3 hx))))
theorem jB {d:Nat} {p:List (List Int)} {S:Sr}:G (d+1) 5 [.lst (p.map tupI)] S=.ok (.bl (upT p)) S:=by
  rw [G_at (c:=c_5) rfl]
  have e:evI (G d) (.zip (.var 0) (.slc (.var 0) (.some (.cst (.int 1))) .none)) [some (.lst (p.map tupI))] S=.ok ((p.zip (p.drop 1)).map fun q=>.tup [tupI q.1,tupI q.2]) S:=by
    have:slcD S (.lst (p.map tupI)) (some 1) none=some (.lst ((p.drop 1).map tupI)):=by
      unfold slcD lstOf
      simp [cut1]
    rw [← qeM]
    simp only [evI,ev,evO,varE,Res.bind,List.getElem?_cons_zero,this,ofO,walkF]
  exact qw rfl (qA (yX (p.zip (p.drop 1)) (fun q=>HT.lexLt q.1 q.2) (fun ρ=>∃ x y,ρ=[x,y]) e rfl ⟨_,_,rfl⟩ (by
    rintro q _ ρ ⟨x,y,rfl⟩
    exact ⟨_,rfl,⟨_,_,rfl⟩,by simp [Res.bind,callC,exs,ex,ev,evs,evO,evI,asg,asgs,tst,tsts,varE,frE,bltD,one,two,leave,ofO,truD,cmpD,tupI,qJ]⟩)))
theorem ne2 (n:Nat) (S:Sr):cmpD .ne (.int n) (.int 2) S=some (!decide (n=2)):=by
  show some (!((n:Int) == 2))=_
  congr 2
  rw [Bool.eq_iff_iff];simp;omega
theorem gtN (n:Nat) (k:Int) (S:Sr):cmpD .gt (.int n) (.int k) S=some (decide (k<n)):=rfl
theorem ne3 (n:Nat) (S:Sr):cmpD .ne (.int n) (.int 3) S=some (!decide (n=3)):=by
  show some (!((n:Int) == 3))=_
  congr 2
  rw [Bool.eq_iff_iff];simp;omega
noncomputable def wayB (many:Int):D→Bool
  | .tup [s,g,h]=>wholeB 0 (many-1) s&&wholeB 0 (many-1) g&&wholeB 1 1000000 h
  | _=>false
noncomputable def wkey:D→List Int
  | .tup [.int s,.int g,_]=>[s,g]
  | _=>[]
noncomputable def waysB (many:Int):D→Bool
  | .tup l=>decide (l.length≤20)&&l.all (wayB many)&&upT (l.map wkey)
  | _=>false
noncomputable def arrB:D→Bool
  | .tup [.int i,w]=>decide (1≤i)&&decide (i≤6)&&waysB i w
  | _=>false
theorem qdb {d:Nat} {many:Int} {x:D} {S:Sr} (hx:refsLt 0 x=true):G (d+3) 8 [x,.int many] S=.ok (.bl (wayB many x)) S:=by
  rw [G_at (c:=c_8) rfl]
  cases x with
  | ref n=>simp [refsLt] at hx
  | exc n=>simp [refsLt] at hx
  | tup l =>
    by_cases h3:l.length=3
    · match l,h3 with
      | [a,b,c],_ =>
        have ha:refsLt 0 a=true:=qv hx (by simp)
        have hb:refsLt 0 b=true:=qv hx (by simp)
        have hc:refsLt 0 c=true:=qv hx (by simp)
        have ea:=zB (d:=d) (a:=0) (b:=many-1) (S:=S) ha
        have eb:=zB (d:=d) (a:=0) (b:=many-1) (S:=S) hb
        have ec:=zB (d:=d) (a:=1) (b:=1000000) (S:=S) hc
        refine qw rfl (x_no (S1:=S) (zU (t_no (x:=true) (t_of rfl)) (t_of (zf (qL rfl (yF _ _)) rfl (ne3 _ _)))) (x_set (d:=.tup [a,b,c]) (S1:=S) rfl (ρ1:=[some (.tup [a,b,c]),some (.int many),some a,some b,some c]) rfl ?_))
        have t1:tst (G (d+2)) (.not (.val (.call 1 (.cons (.var 2) (.cons (.cst (.int 0)) (.cons (.bin .sub (.var 1) (.cst (.int 1))) .nil)))))) [some (.tup [a,b,c]),some (.int many),some a,some b,some c] S=.ok (!wholeB 0 (many-1) a) S:=t_no (t_of (qh rfl ea))
        have t2:tst (G (d+2)) (.not (.val (.call 1 (.cons (.var 3) (.cons (.cst (.int 0)) (.cons (.bin .sub (.var 1) (.cst (.int 1))) .nil)))))) [some (.tup [a,b,c]),some (.int many),some a,some b,some c] S=.ok (!wholeB 0 (many-1) b) S:=t_no (t_of (qh rfl eb))
        rw [show wayB many (.tup [a,b,c])=(wholeB 0 (many-1) a&&wholeB 0 (many-1) b&&wholeB 1 1000000 c) from rfl]
        cases za:wholeB 0 (many-1) a with
        | false=>rw [za] at t1;exact zS (jR t1) (qA rfl)
        | true =>
          rw [za] at t1
          cases zb:wholeB 0 (many-1) b with
          | false=>rw [zb] at t2;exact zS (zU t1 t2) (qA rfl)
          | true =>
            rw [zb] at t2
            exact x_no (zU t1 t2) (qA (qh rfl (by rw [Bool.true_and,Bool.true_and];exact ec)))
    · have e2:wayB many (.tup l)=false:=by
        unfold wayB
        split
        · rename_i z;injection z with z;subst z;simp at h3
        · rfl
      rw [e2]
      exact qw rfl (zS (S1:=S) (zU (t_no (x:=true) (t_of rfl)) (t_of (x:=true) (zf (qL rfl (yF _ _)) rfl (by rw [ne3,decide_eq_false h3];rfl)))) (qA rfl))
  | _=>exact qw rfl (zS (S1:=S) (jR rfl) (qA rfl))
theorem qh1 {many:Int} {x:D} (h:wayB many x=true):∃ s g h:Int,x=.tup [.int s,.int g,.int h]∧0≤s∧s≤many-1∧0≤g∧g≤many-1∧1≤h∧h≤1000000:=by
  unfold wayB at h
  split at h
  · rename_i a b c
    simp only [Bool.and_eq_true] at h
    obtain ⟨⟨h1,h2⟩,h3⟩:=h
    cases a <;> simp [wholeB] at h1
    cases b <;> simp [wholeB] at h2
    cases c <;> simp [wholeB] at h3
    exact ⟨_,_,_,rfl,h1.1,h1.2,h2.1,h2.2,h3.1,h3.2⟩
  · cases h
noncomputable abbrev Way:=Int × Int × Int
noncomputable def wayD (t:Way):D:=.tup [.int t.1,.int t.2.1,.int t.2.2]
noncomputable def wk (t:Way):List Int:=[t.1,t.2.1]
theorem qcp {many:Int}:∀ {l:List D},l.all (wayB many)=true→∃ ts:List Way,l=ts.map wayD∧l.map wkey=ts.map wk
  | [],_=>⟨[],rfl,rfl⟩
  | x::r,h=>by
    simp only [List.all_cons,Bool.and_eq_true] at h
    obtain ⟨a,b,c,rfl,_⟩:=qh1 h.1
    obtain ⟨ts,e3,e4⟩:=qcp h.2
    exact ⟨(a,b,c)::ts,by rw [e3];rfl,by rw [List.map_cons,List.map_cons,e4];rfl⟩
theorem qa4 {d:Nat} {many:Int} {x:D} {S:Sr} (hx:refsLt 0 x=true):G (d+4) 7 [x,.int many] S=.ok (.bl (waysB many x)) S:=by
  rw [G_at (c:=c_7) rfl]
  cases x with
  | ref n=>simp [refsLt] at hx
  | exc n=>simp [refsLt] at hx
  | tup l =>
    have tl:tst (G (d+3)) (.or (.not (.val (.isi .tuple (.var 0)))) (.val (.cmp .gt (.blt .len (.cons (.var 0) .nil)) (.cst (.int 20))))) [some (.tup l),some (.int many)] S=.ok (decide ((20:Int)<l.length)) S:=zU (t_no (x:=true) (t_of rfl)) (t_of (zf (qL rfl (yF _ _)) rfl (gtN _ _ _)))
    by_cases h20:l.length≤20
    · have z:decide ((20:Int)<l.length)=false:=by rw [decide_eq_false_iff_not];omega
      rw [z] at tl
      have eg:=yX (g:=fun y:D=>y) (F:=G (d+3)) (fr:=[1]) (nt:=1) (elt:=.call 8 (.cons (.var 1) (.cons (.var 0) .nil))) (tg:=.var 1) (it:=.seq (.var 0)) (ρ:=[some (.tup l),some (.int many)]) (S:=S) (S1:=S) (ds:=l) l (wayB many) (fun ρ=>∃ y,ρ=[some (.int many),y]) rfl (by simp) ⟨_,rfl⟩ (by
        rintro q hq ρ ⟨y,rfl⟩
        exact ⟨_,rfl,⟨_,rfl⟩,qh rfl (qdb (qv hx hq))⟩)
      have e0:waysB many (.tup l)=(l.all (wayB many)&&upT (l.map wkey)):=by simp only [waysB,decide_eq_true h20,Bool.true_and]
      rw [e0]
      cases za:l.all (wayB many) with
      | false=>rw [za] at eg;exact qw rfl (x_no tl (zS (S1:=S) (t_no (x:=false) (t_of eg)) (qA rfl)))
      | true =>
        rw [za] at eg
        obtain ⟨ts,rfl,e4⟩:=qcp za
        rw [e4,Bool.true_and]
        have el:=qa0 (g:=wayD) (F:=G (d+3)) (fr:=[]) (nt:=3) (elt:=.tup (.cons (.var 0) (.cons (.var 1) .nil))) (tg:=.tup (.cons (.var 0) (.cons (.var 1) (.cons (.var 2) .nil)))) (it:=.seq (.var 0)) (ifs:=.nil) (ρ:=[some (.tup (ts.map wayD)),some (.int many)]) (S:=S) (S1:=S) ts (fun _=>true) (fun t=>tupI (wk t)) (fun ρ=>∃ x y z,ρ=[x,y,z]) rfl rfl ⟨_,_,_,rfl⟩ (by rw [List.length_map] at h20;unfold PySem.sizeLine;omega) (by
          rintro t ht ρ m ⟨x,y,z,rfl⟩
          exact ⟨_,rfl,⟨_,_,_,rfl⟩,rfl,fun _=>⟨rfl,zm _ _⟩⟩)
        rw [yQ] at el
        refine qw rfl (x_no tl (x_no (S1:=S) (t_no (x:=true) (t_of eg)) (qA (qh (l:=[.lst ((ts.map wk).map tupI)]) (qd ?_ rfl) jB))))
        rw [List.map_map];exact el
    · have z:decide ((20:Int)<l.length)=true:=by rw [decide_eq_true_eq];omega
      rw [z] at tl
      have:waysB many (.tup l)=false:=by simp only [waysB,decide_eq_false h20,Bool.false_and]
      rw [this]
      exact qw rfl (zS tl (qA rfl))
  | _=>exact qw rfl (zS (S1:=S) (jR rfl) (qA rfl))
theorem qao {d:Nat} {x:D} {S:Sr} (hx:refsLt 0 x=true):G (d+5) 6 [x] S=.ok (.bl (arrB x)) S:=by
  rw [G_at (c:=c_6) rfl]
  cases x with
  | ref n=>simp [refsLt] at hx
  | exc n=>simp [refsLt] at hx
  | tup l =>
    by_cases h2:l.length=2
    · match l,h2 with
      | [m,w],_ =>
        have hm:refsLt 0 m=true:=qv hx (by simp)
        have hw:refsLt 0 w=true:=qv hx (by simp)
        have em:=zB (d:=d+2) (a:=1) (b:=6) (S:=S) hm
        refine qw rfl (x_no (S1:=S) (zU (t_no (x:=true) (t_of rfl)) (t_of (zf (qL rfl (yF _ _)) rfl (ne2 _ _)))) (x_set (d:=.tup [m,w]) (S1:=S) rfl (ρ1:=[some (.tup [m,w]),some m,some w]) rfl ?_))
        cases m with
        | int i =>
          have ew:=qa4 (d:=d) (many:=i) (S:=S) hw
          exact qA (qgB (qh rfl em) (qh rfl ew))
        | _=>exact qA (qbD (qh rfl em))
    · have e2:arrB (.tup l)=false:=by
        unfold arrB
        split
        · rename_i z;injection z with z;subst z;simp at h2
        · rfl
      rw [e2]
      exact qw rfl (zS (S1:=S) (zU (t_no (x:=true) (t_of rfl)) (t_of (x:=true) (zf (qL rfl (yF _ _)) rfl (by rw [ne2,decide_eq_false h2];rfl)))) (qA rfl))
  | _=>exact qw rfl (zS (S1:=S) (jR rfl) (qA rfl))
theorem qap {d:Nat} {p:List Int} {S:Sr}:G (d+1) 5 [tupI p] S=.ok (.bl (upB p)) S:=by
  rw [G_at (c:=c_5) rfl]
  have e:evI (G d) (.zip (.var 0) (.slc (.var 0) (.some (.cst (.int 1))) .none)) [some (tupI p)] S=.ok ((p.zip (p.drop 1)).map fun q=>.tup [.int q.1,.int q.2]) S:=by
    have:slcD S (tupI p) (some 1) none=some (tupI (p.drop 1)):=by
      unfold slcD tupI
      simp only [cut1];simp
    simp [Res.bind,callC,exs,ex,ev,evs,evO,evI,asg,asgs,tst,tsts,varE,frE,bltD,one,two,leave,ofO,truD,this]
    simp only [tupI,walkF,List.zip_map',List.zip_map,List.map_map]
    simp
  exact qw rfl (qA (yX (p.zip (p.drop 1)) (fun q=>decide (q.1<q.2)) (fun ρ=>∃ x y,ρ=[x,y]) e rfl ⟨_,_,rfl⟩ (by
    rintro q _ ρ ⟨x,y,rfl⟩
    exact ⟨_,rfl,⟨_,_,rfl⟩,by simp [Res.bind,callC,exs,ex,ev,evs,evO,evI,asg,asgs,tst,tsts,varE,frE,bltD,one,two,leave,ofO,truD,cmpD]⟩)))
theorem qZ {d:Nat} {many:Int} {x:D} {S:Sr} (hx:refsLt 0 x=true):G (d+3) 4 [x,.int many] S=.ok (.bl (placesB many x)) S:=by
  rw [G_at (c:=c_4) rfl]
  cases x with
  | ref n=>simp [refsLt] at hx
  | exc n=>simp [refsLt] at hx
  | tup l =>
    cases l with
    | nil=>exact qw rfl (zS (S1:=S) (zU (t_no (x:=true) (t_of rfl)) rfl) (qA rfl))
    | cons a r =>
      refine qw rfl (x_no (S1:=S) (zU (t_no (x:=true) (t_of rfl)) rfl) (qA ?_))
      have e:=yX (g:=fun y:D=>y) (F:=G (d+2)) (fr:=[1]) (nt:=1) (elt:=.call 1 (.cons (.var 1) (.cons (.cst (.int 0)) (.cons (.bin .sub (.var 0) (.cst (.int 1))) .nil)))) (tg:=.var 1) (it:=.seq (.var 0)) (ρ:=[some (.tup (a::r)),some (.int many)]) (S:=S) (S1:=S) (ds:=a::r) (a::r) (wholeB 0 (many-1)) (fun ρ=>∃ y,ρ=[some (.int many),y]) rfl (by simp) ⟨_,rfl⟩ (by
        rintro q hq ρ ⟨y,rfl⟩
        exact ⟨_,rfl,⟨_,rfl⟩,qh rfl (zB (qv hx hq))⟩)
      have hw:=jQ 0 (many-1) (a::r)
      cases z:intsOf (a::r) with
      | none =>
        rw [z] at hw
        rw [hw] at e
        simp only [placesB,z]
        exact qbD e
      | some ns =>
        rw [z] at hw
        rw [hw] at e
        have hl:=qcm z
        have hne:ns.isEmpty=false:=by
          cases ns with
          | nil=>simp at hl
          | cons b t=>rfl
        simp only [placesB,z,hne,Bool.not_false,Bool.true_and]
        rw [hl] at e ⊢
        exact qgB e (qh rfl qap)
  | _=>exact qw rfl (zS (S1:=S) (jR rfl) (qA rfl))
section
variable {F:Fs} {N:Nat} {ρ:En} {S S1 S2:Sr} {e:CE} {s:CS} {r a b:CSs} {c:CB} {y:D}
theorem tc {x:Bool} (h:tst F c ρ S=.ok x S1):tst F (.cal c) ρ S=.ok x S1:=by simp [tst,h]
theorem qeW {X:Res Fl} (h:exs F N (.cons s r) ρ S=X) (h2:noE (ex F N s ρ S)=ex F N s ρ S):exs F N (.cons (.cal s) r) ρ S=X:=by
  rw [← h];simp only [exs,ex,h2]
theorem qeX {d:D} (h:ev F e ρ S=.ok d S1):exs F N (.cons (.cal (.ret e)) r) ρ S=.ok (.rt d) S1:=qeW (qA h) (by simp [ex,h,Res.bind])
theorem yf (h:ex F N s ρ S=.err y S1):exs F N (.cons s r) ρ S=.err y S1:=by simp [exs,h,Res.bind]
theorem qbF (h:tst F c ρ S=.ok true S1) (h2:exs F N a ρ S1=.err y S2):ex F N (.ifs c a b) ρ S=.err y S2:=by simp [ex,h,h2,Res.bind]
theorem qbG (h:ev F e ρ S=.err y S1):ex F N (.expr e) ρ S=.err y S1:=by simp [ex,h,Res.bind]
theorem y4 {i:Nat} {es:CEs} {l:List D} (h:evs F es ρ S=.ok l S1) (h2:F i l S1=.err y S2):ev F (.call i es) ρ S=.err y S2:=by simp [ev,h,h2,Res.bind]
theorem qcq {f:CF} {l:List D} (hl:l.length=f.np) (h:exs F N f.body (l.map some++List.replicate (f.nn-f.np) none) S=.err y S1):callC F N f l S=.err y S1:=by simp [callC,hl,h,Res.bind]
end
theorem qgb {F:Fs} {N:Nat} {ρ:En} {S S1:Sr} {t:CT} {e:CE} {y:D} (h:ev F e ρ S=.err y S1):ex F N (.set t e) ρ S=.err y S1:=by simp [ex,h,Res.bind]
theorem qgc {F:Fs} {N:Nat} {ρ:En} {S S1 S2:Sr} {a b:CSs} {c:CB} {y:D} (h:tst F c ρ S=.ok false S1) (h2:exs F N b ρ S1=.err y S2):ex F N (.ifs c a b) ρ S=.err y S2:=by simp [ex,h,h2,Res.bind]
theorem qcr {F:Fs} {N:Nat} {ρ ρ1:En} {S S1:Sr} {t:CT} {e:CE} {d:D} {r:CSs} {X:Res R.Fl} (h:ev F e ρ S=.ok d S1) (h2:asg F t d ρ S1=.ok ρ1 S1) (h3:exs F N r ρ1 S1=X):exs F N (.cons (.cal (.set t e)) r) ρ S=X:=qeW (x_set h h2 h3) (by simp [ex,h,h2,Res.bind])
theorem zV {d:Nat} {x:D} {S:Sr} (hx:refsLt 0 x=true):G (d+6) 9 [x] S=if arrB x=true then .ok .non S else .err (.exc 145) S:=by
  rw [G_at (c:=c_9) rfl]
  have e:=qao (d:=d) (S:=S) hx
  cases z:arrB x with
  | true=>rw [z] at e;rw [if_pos rfl];exact qf8 rfl (x_no (S1:=S) (tc (t_no (x:=true) (t_of (qh rfl e)))) jp)
  | false=>rw [z] at e;rw [if_neg (by decide)];exact qcq rfl (yf (qbF (S1:=S) (tc (t_no (x:=false) (t_of (qh rfl e)))) (yf rfl)))
theorem qgd (x:Int) (p:List Int):inD (.int x) (p.map .int)=some (p.contains x):=by
  have h1:(p.map D.int).all flatD=true:=by simp [flatD]
  unfold inD
  rw [h1]
  simp only [flatD,Bool.and_self,if_true,List.any_map]
  congr 1
  rw [← List.any_beq']
  rfl
end RP
namespace RP
open R
theorem qge {d:Nat} {c:Int} {S:Sr}:∃ m:Int,0≤m∧m<10^60∧G (d+1) 12 [.int c] S=.ok (.int m) S:=by
  have p0:(0:Int)<10^60:=by decide
  have h1:=Int.fmod_nonneg_of_pos c p0
  have h2:=Int.fmod_lt_of_pos c p0
  refine ⟨(c.fmod (10^60)*845098040014256830712216258592636193483572396323965406503637).fmod (10^60),Int.fmod_nonneg_of_pos _ p0,Int.fmod_lt_of_pos _ p0,?_⟩
  rw [G_at (c:=c_12) rfl]
  refine qw rfl (qA (qp (d1:=.int (c.fmod (10^60)*845098040014256830712216258592636193483572396323965406503637)) (d2:=.int (10^60)) (S1:=S) (qp (d1:=.int (c.fmod (10^60))) (S1:=S) (qp (d1:=.int c) (d2:=.int (10^60)) (S1:=S) rfl rfl rfl) rfl ?_) rfl rfl))
  exact bmul (qci (by
    have e:(10:Int)^60<2^250:=by decide
    have:(((2:Nat)^250:Nat):Int)=(2:Int)^250:=by norm_cast
    lia) (by decide))
theorem yr {d n:Nat} {v m:Int} {S:Sr} (hn:n<S.length) (h0:0<m) (hm:m.natAbs<2^64):G (d+1) 14 [.ref n,.int m] (pk S n v)=.ok (.int (v.fmod m)) (pk S n (v.fdiv m)):=by
  rw [G_at (c:=c_14) rfl]
  have e:=qje hn v
  have hx:exs (G d) NW c_14.body [some (.ref n),some (.int m),none] (pk S n v)=.ok (.rt (.int (v.fmod m))) (pk S n (v.fdiv m)):=by
    refine x_set (d:=.tup [.int (v.fdiv m),.int (v.fmod m)]) (S1:=pk S n v) (qL (qd (yD (d:=.int v) rfl rfl ?_) (qd rfl rfl)) ?_) (ρ1:=[some (.ref n),some (.int m),some (.int (v.fmod m))]) (S2:=pk S n (v.fdiv m)) ?_ (qA rfl)
    · simp [idxD,seqOf,lstOf,e,L2.atI,L2.ixN]
    · simp [bltD,two,bDivmod,qcj h0 hm]
    · have:putE (pk S n v) (.ref n) (.int 0) (.int (v.fdiv m))=some (pk S n (v.fdiv m)):=by
        simp [putE,putN,e,L2.ixN,refsLt]
        unfold pk;simp
      simp only [asg,asgs,ev,varE,Res.bind,List.getElem?_cons_zero,this]
      rfl
  exact qeL (S2:=[]) rfl rfl (by rw [List.append_nil];exact hx) (by simp [qE]) rfl
theorem qa5 (l:List Int) (x:Int) (S:Sr):∃ c:Int,idxD S (.lst (l.map .int++[.int x])) (.int 0)=some (.int c):=by
  cases l with
  | nil=>exact ⟨x,rfl⟩
  | cons a r=>exact ⟨a,by simp [idxD,seqOf,lstOf,L2.atI,L2.ixN]⟩
theorem qgf (l:List Int) (a b:Option Int):∃ m:List Int,cutD (l.map .int) a b=m.map .int∧m.length≤l.length:=by
  unfold cutD
  rw [List.length_map,← List.map_drop,← List.map_take]
  exact ⟨_,rfl,by simp;lia⟩
theorem bcat {a b:List D} {S:Sr} (h:a.length+b.length≤1000):binD .add (.lst a) (.lst b) S=some (.lst (a++b)):=by
  have:catOk a b=true:=by unfold catOk PySem.sizeLine;rw [decide_eq_true_eq];lia
  simp [binD,lstOf,this]
theorem jT {d:Nat} {ns:List Int} (h63:ns.length≤63) {k f a:Int} {x y:Option D} {S:Sr} (hf0:0≤f) (hf:f<10^60) (ha:0≤a) (ha2:a<100):∃ m c:Int,0≤m∧m<10^60 ∧
    (asg (G (d+1)) (.var 3) (.int a) [some (.lst (ns.map .int)),some (.int k),some (.int f),x,y] S).bind (fun ρ1 S1=>exs (G (d+1)) NW (.cons (.set (.var 4) (.idx (.bin .add (.slc (.var 0) (.some (.var 3)) (.some (.bin .add (.var 3) (.cst (.int 1))))) (.lst false (.cons (.bin .add (.bin .add (.bin .mul (.cst (.int 5701)) (.var 3)) (.cst (.int 43))) (.bin .mul (.cst (.int 7)) (.idx (.bin .add (.var 0) (.lst false (.cons (.cst (.int 0)) .nil))) (.cst (.int 0))))) .nil))) (.cst (.int 0)))) (.cons (.set (.var 2) (.bin .add (.bin .mul (.var 2) (.bin .pow (.cst (.int 10)) (.cst (.int 60)))) (.call 12 (.cons (.var 4) .nil)))) .nil)) ρ1 S1)
      = .ok (.nx [some (.lst (ns.map .int)),some (.int k),some (.int (f*10^60+m)),some (.int a),some (.int c)]) S:=by
  obtain ⟨x0,hx0⟩:=qa5 ns 0 S
  obtain ⟨ms,hms,hl⟩:=qgf ns (some a) (some (a+1))
  obtain ⟨c,hc⟩:=qa5 ms (5701*a+43+7*x0) S
  obtain ⟨m,hm0,hm1,hm⟩:=qge (d:=d) (c:=c) (S:=S)
  refine ⟨m,c,hm0,hm1,?_⟩
  rw [show asg (G (d+1)) (.var 3) (.int a) [some (.lst (ns.map .int)),some (.int k),some (.int f),x,y] S=.ok [some (.lst (ns.map .int)),some (.int k),some (.int f),some (.int a),y] S from rfl,Res.bind_ok]
  refine x_set (d:=.int c) (S1:=S) (yD (d1:=.lst (ms.map .int++[.int (5701*a+43+7*x0)])) (S1:=S) (qp (d1:=.lst (ms.map .int)) (d2:=.lst [.int (5701*a+43+7*x0)]) (S1:=S) ?_ ?_ (bcat (by simp;lia))) rfl hc) rfl (x_set (d:=.int (f*10^60+m)) (S1:=S) (qp (d1:=.int (f*10^60)) (S1:=S) (qp (d2:=.int (10^60)) (S1:=S) rfl rfl (bmul (qci ?_ (by decide)))) (qh rfl hm) badd) rfl jp)
  · simp only [ev,evO,varE,Res.bind,List.getElem?_cons_zero,List.getElem?_cons_succ,badd,ofO,slcD,lstOf]
    simp only [Option.map_some,hms]
  · have e1:ev (G (d+1)) (.bin .mul (.cst (.int 7)) (.idx (.bin .add (.var 0) (.lst false (.cons (.cst (.int 0)) .nil))) (.cst (.int 0)))) [some (.lst (ns.map .int)),some (.int k),some (.int f),some (.int a),y] S=.ok (.int (7*x0)) S :=
      qp (S1:=S) rfl (yD (d1:=.lst (ns.map .int++[.int 0])) (S1:=S) (qp (d2:=.lst [.int 0]) (S1:=S) rfl rfl (bcat (by simp;lia))) rfl hx0) (bmul (yZ (by decide)))
    have e2:=qp (F:=G (d+1)) (o:=.add) (S:=S) (S1:=S) (e1:=.bin .add (.bin .mul (.cst (.int 5701)) (.var 3)) (.cst (.int 43))) (d1:=.int (5701*a+43)) (qp (S1:=S) (qp (S1:=S) rfl rfl (bmul (yZ (by decide)))) rfl badd) e1 badd
    exact yE (qd e2 rfl) (by simp)
  · have e:(10:Int)^60<2^250:=by decide
    have:(((2:Nat)^250:Nat):Int)=(2:Int)^250:=by norm_cast
    lia
theorem qeY {d:Nat} {ns:List Int} (h63:ns.length≤63) {k:Int} {S:Sr} (hk:0≤k) (hk2:k<90):∃ v:Int,0≤v∧G (d+2) 13 [.lst (ns.map .int),.int k] S=.ok (.ref S.length) (S++[.lst [.int v]]):=by
  obtain ⟨m,c,hm0,hm1,e1⟩:=jT (d:=d) h63 (k:=k) (f:=0) (a:=k+1) (x:=none) (y:=none) (S:=S) (Int.le_refl 0) (by decide) (by lia) (by lia)
  obtain ⟨m2,c2,hm20,hm21,e2⟩:=jT (d:=d) h63 (k:=k) (f:=0*10^60+m) (a:=k) (x:=some (.int (k+1))) (y:=some (.int c)) (S:=S) (by lia) (by lia) (by lia) (by lia)
  refine ⟨(0*10^60+m)*10^60+m2,by lia,?_⟩
  rw [G_at (c:=c_13) rfl]
  refine qhW rfl rfl (x_set (d:=.int 0) (S1:=S) rfl (ρ1:=[some (.lst (ns.map .int)),some (.int k),some (.int 0),none,none]) rfl (qgA (ds:=[.int (k+1),.int k]) (S1:=S) ?_ (ρ1:=[some (.lst (ns.map .int)),some (.int k),some (.int ((0*10^60+m)*10^60+m2)),some (.int k),some (.int c2)]) (S2:=S) ?_ (qA (qhX rfl (by simp) rfl))))
  · have:ev (G (d+1)) (.lst false (.cons (.bin .add (.var 1) (.cst (.int 1))) (.cons (.var 1) .nil))) [some (.lst (ns.map .int)),some (.int k),some (.int 0),none,none] S=.ok (.lst [.int (k+1),.int k]) S:=yE (qd (qp (S1:=S) rfl rfl badd) (qd rfl rfl)) (by simp)
    simp only [evI,this,Res.bind]
  · rw [jr e1,jr e2];rfl
end RP
namespace RP
open R
theorem band1 {x:Int} (h:0≤x):PySem.Builtin.bitAnd x 1=x % 2:=by
  unfold PySem.Builtin.bitAnd
  simp only [h,decide_true]
  have:(1:Int).toNat=1:=rfl
  rw [show decide ((0:Int)≤1)=true from rfl]
  simp only [this,Nat.and_one_is_mod]
  lia
noncomputable def bitB (x:Int) (i:Int):Bool:=decide (x / 2^i.toNat % 2=1)
theorem qdc {many:Nat} {x:Int} (h1:1≤x) (h2:x<2^many):∃ i∈rI many,bitB x i=true:=by
  induction many generalizing x with
  | zero=>simp at h2;lia
  | succ k ih =>
    by_cases z:x % 2=1
    · exact ⟨0,zT.mpr (by lia),by simp [bitB,z]⟩
    · have e:(2:Int)^(k+1)=2*2^k:=by rw [Int.pow_succ];lia
      obtain ⟨i,hi,hb⟩:=ih (x:=x / 2) (by lia) (by lia)
      have hi':=zT.mp hi
      refine ⟨i+1,zT.mpr (by lia),?_⟩
      unfold bitB at hb ⊢
      have e2:(i+1).toNat=i.toNat+1:=by lia
      rw [decide_eq_true_eq] at hb ⊢
      rw [e2,Int.pow_succ,Int.mul_comm,← Int.ediv_ediv_of_nonneg (by lia)]
      exact hb
theorem qeZ {d n many:Nat} {v:Int} {S:Sr} (hn:n<S.length) (hv:0≤v) (h1:1≤many) (h2:many≤12):∃ (p:List Int) (u:Int),PlOk many p∧0≤u∧G (d+2) 15 [.ref n,.int many] (pk S n v)=.ok (tupI p) (pk S n u):=by
  have hp2:(2:Int)^1≤2^many:=by
    have:=Nat.pow_le_pow_right (n:=2) (by decide) h1
    exact_mod_cast this
  have hp12:(2:Int)^many≤2^12:=by
    have:=Nat.pow_le_pow_right (n:=2) (by decide) h2
    exact_mod_cast this
  have f:=fm (v:=v) (m:=2^many-1) (by lia)
  refine ⟨(rI many).filter (bitB (1+v.fmod (2^many-1))),v.fdiv (2^many-1),⟨?_,?_,(qgD many).filter _⟩,Int.fdiv_nonneg hv (by lia),?_⟩
  · obtain ⟨i,hi,hb⟩:=qdc (many:=many) (x:=1+v.fmod (2^many-1)) (by lia) (by lia)
    intro e
    have:i∈(rI many).filter (bitB (1+v.fmod (2^many-1))):=List.mem_filter.mpr ⟨hi,hb⟩
    rw [e] at this;simp at this
  · exact fun x hx=>zT.mp (List.mem_filter.mp hx).1
  · rw [G_at (c:=c_15) rfl]
    have hsh:binD .shl (.int 1) (.int many) (pk S n v)=some (.int (2^many)):=by
      simp only [binD,binI]
      have:0≤(many:Int)∧(many:Int)≤1000000∧(1:Int).natAbs<2^64:=⟨by lia,by lia,by decide⟩
      rw [if_pos this]
      simp
    have e:=qa0 (g:=.int) (F:=G (d+1)) (fr:=[2]) (nt:=1) (elt:=.var 1) (tg:=.var 1) (it:=.rng (.cons (.var 1) .nil)) (ifs:=.cons (.val (.cmp .eq (.bin .band (.bin .shr (.var 0) (.var 1)) (.cst (.int 1))) (.cst (.int 1)))) .nil) (ρ:=[some (.ref n),some (.int many),some (.int (1+v.fmod (2^many-1)))]) (S:=pk S n (v.fdiv (2^many-1))) (S1:=pk S n (v.fdiv (2^many-1))) (rI many) (bitB (1+v.fmod (2^many-1))) .int (fun ρ=>∃ x,ρ=[some (.int (1+v.fmod (2^many-1))),x]) (i_rng rfl (by lia)) rfl ⟨_,rfl⟩ (by rw [yq];unfold PySem.sizeLine;lia) (by
      rintro q hq ρ m ⟨x,rfl⟩
      have hq':=zT.mp hq
      refine ⟨_,rfl,⟨_,rfl⟩,qbC (t_of (zf (d1:=.int ((1+v.fmod (2^many-1)) / 2^q.toNat % 2)) (qp (d1:=.int ((1+v.fmod (2^many-1)) / 2^q.toNat)) (qp rfl rfl ?_) rfl ?_) rfl ?_)),fun _=>⟨rfl,rfl⟩⟩
      · simp only [binD,binI];rw [if_pos hq'.1];rfl
      · simp only [binD,binI,Option.map_some]
        rw [band1]
        exact Int.ediv_nonneg (by lia) (Int.le_of_lt (Int.pow_pos (by decide)))
      · simp only [cmpD,eqD,bitB]
        rfl)
    refine qeL (S2:=[]) rfl rfl (x_set (d:=.int (1+v.fmod (2^many-1))) (S1:=pk S n (v.fdiv (2^many-1))) (qp (d2:=.int (v.fmod (2^many-1))) (S1:=pk S n v) rfl (qh (qd rfl (qd (qp (qp rfl rfl hsh) rfl rfl) rfl)) (yr hn (by lia) (by lia))) badd) (ρ1:=[some (.ref n),some (.int many),some (.int (1+v.fmod (2^many-1)))]) rfl (qA ?_)) (by rw [qE,qE]) (zm _ _)
    rw [List.append_nil]
    exact qL (qd e rfl) rfl
end RP
namespace RP
open R
theorem y6 {d n:Nat} {v m:Int} {S T:Sr} (hn:n<S.length) (h0:0<m) (hm:m.natAbs<2^64):G (d+1) 14 [.ref n,.int m] (pk S n v++T)=.ok (.int (v.fmod m)) (pk S n (v.fdiv m)++T):=by
  rw [qeN hn,qeN hn]
  exact yr (by rw [List.length_append];omega) h0 hm
structure ArOk (m:Int) (ws:List Way):Prop where
  m1:1≤m
  m2:m≤6
  len:ws.length≤12
  ok:∀ t∈ws,0≤t.1∧t.1≤m-1∧0≤t.2.1∧t.2.1≤m-1∧1≤t.2.2∧t.2.2≤9
  up:(ws.map wk).Pairwise fun a b=>HT.lexLt a b=true
noncomputable def arrD (m:Int) (ws:List Way):D:=.tup [.int m,.tup (ws.map wayD)]
theorem qa6 (ws:List Way):gds (ws.map wayD)=true:=by
  rw [qcn,List.all_map,List.all_eq_true];intro t _;rfl
theorem qe0 {m:Int} {x:D} (h:gd x=true):gd (.tup [.int m,x])=true:=by simp [gd,gds,h]
structure AkOk (m:Int) (ts:List Tie):Prop where
  nd:(ts.map (·.1)).Nodup
  ok:∀ t∈ts,(∃ s g,t.1=[s,g]∧0≤s∧s≤m-1∧0≤g∧g≤m-1)∧1≤t.2∧t.2≤9
theorem AkOk.put {m:Int} {ts:List Tie} (h:AkOk m ts) {k:List Int} {w:Int} (hk:∃ s g,k=[s,g]∧0≤s∧s≤m-1∧0≤g∧g≤m-1) (h1:1≤w) (h2:w≤9):AkOk m (putTie k w ts)∧(putTie k w ts).length≤ts.length+1:=by
  unfold putTie
  split
  · refine ⟨⟨?_,?_⟩,by simp⟩
    · rw [List.map_map]
      have:ts.map ((·.1)∘fun t=>if t.1=k then (t.1,w) else t)=ts.map (·.1):=by
        apply List.map_congr_left
        intro t _
        show (if t.1=k then (t.1,w) else t).1=t.1
        split <;> rfl
      rw [this];exact h.nd
    · intro t ht
      obtain ⟨s,hs,rfl⟩:=List.mem_map.mp ht
      split
      · exact ⟨(h.ok s hs).1,h1,h2⟩
      · exact h.ok s hs
  · rename_i hn
    refine ⟨⟨?_,?_⟩,by simp⟩
    · rw [List.map_append,List.nodup_append]
      refine ⟨h.nd,by simp,fun a ha b hb e=>?_⟩
      simp at hb
      obtain ⟨s,hs,rfl⟩:=List.mem_map.mp ha
      apply hn
      rw [List.any_eq_true]
      exact ⟨s,hs,by rw [decide_eq_true_eq,e,hb]⟩
    · intro t ht
      rcases List.mem_append.mp ht with z | z
      · exact h.ok t z
      · simp at z;subst z;exact ⟨hk,h1,h2⟩
noncomputable def mkW (ts:List Tie) (k:List Int):Way:=(k.getD 0 0,k.getD 1 0,look ts k)
noncomputable def wsOf (ts:List Tie):List Way:=(sortT (ts.map (·.1))).map (mkW ts)
theorem qgG {m:Int} {ts:List Tie} (h:AkOk m ts) (m1:1≤m) (m2:m≤6) (hl:ts.length≤12):ArOk m (wsOf ts):=by
  have hk:∀ k∈sortT (ts.map (·.1)),(∃ s g,k=[s,g]∧0≤s∧s≤m-1∧0≤g∧g≤m-1)∧1≤look ts k∧look ts k≤9:=by
    intro k hk
    obtain ⟨_,s,hs,e1,e2⟩:=qak ((qH _).mem_iff.mp hk)
    have:=h.ok s hs
    rw [e1,e2] at this
    exact this
  refine ⟨m1,m2,?_,?_,?_⟩
  · unfold wsOf;rw [List.length_map,(qH _).length_eq,List.length_map];exact hl
  · intro t ht
    obtain ⟨k,hk',rfl⟩:=List.mem_map.mp ht
    obtain ⟨⟨s,g,rfl,h1,h2,h3,h4⟩,h5,h6⟩:=hk k hk'
    exact ⟨h1,h2,h3,h4,h5,h6⟩
  · have:(wsOf ts).map wk=sortT (ts.map (·.1)):=by
      unfold wsOf
      rw [List.map_map]
      conv=>rhs;rw [← List.map_id (sortT (ts.map (·.1)))]
      apply List.map_congr_left
      intro k hk'
      obtain ⟨⟨s,g,rfl,_⟩,_⟩:=hk k hk'
      rfl
    rw [this];exact yM h.nd
theorem qh2 {F:Fs} {ρ:En} {T:Sr} {j:Nat} {m:Int} {ts:List Tie} (hρ:ρ[4]?=some (some (.ref j))) (hT:T[j]?=some (dicD ts)) (h:AkOk m ts) (hl:ts.length<64) :
    ev F (.blt .tuple (.cons (.lc false [4] 1 (.bin .add (.var 1) (.tup (.cons (.idx (.var 0) (.var 1)) .nil))) (.var 1) (.seq (.blt (.sorted false) (.cons (.var 4) .nil))) .nil) .nil)) ρ T=.ok (.tup ((wsOf ts).map wayD)) T:=by
  have hv:ev F (.var 4) ρ T=.ok (.ref j) T:=by simp only [ev,varE,hρ]
  have hw:walkD T (.ref j)=some ((ts.map (·.1)).map tupI):=by
    simp only [walkD,hT,dicD,List.map_map];rfl
  have hs:bltD (.sorted false) [.ref j] T=.ok (.lst ((sortT (ts.map (·.1))).map tupI)) T:=by
    simp only [bltD,one,bSorted,hw,Option.bind_some]
    rw [qda (by simpa using hl) h.nd (fun t ht=>by obtain ⟨s,hs,rfl⟩:=List.mem_map.mp ht;obtain ⟨⟨a,b,e,_⟩,_⟩:=h.ok s hs;rw [e];simp)]
    rfl
  have hsd:ev F (.blt (.sorted false) (.cons (.var 4) .nil)) ρ T=.ok (.lst ((sortT (ts.map (·.1))).map tupI)) T:=qL (qd hv rfl) hs
  have e:=qa0 (g:=tupI) (F:=F) (fr:=[4]) (nt:=1) (elt:=.bin .add (.var 1) (.tup (.cons (.idx (.var 0) (.var 1)) .nil))) (tg:=.var 1) (it:=.seq (.blt (.sorted false) (.cons (.var 4) .nil))) (ifs:=.nil) (ρ:=ρ) (S:=T) (S1:=T) (ds:=(sortT (ts.map (·.1))).map tupI) (sortT (ts.map (·.1))) (fun _=>true) (fun k=>wayD (mkW ts k)) (fun ρ=>∃ x,ρ=[some (.ref j),x])
    (by simp only [evI,hsd,Res.bind]) rfl ⟨none,by simp [frE,hρ]⟩ (by rw [(qH _).length_eq,List.length_map];unfold PySem.sizeLine;omega) (by
      rintro k hk ρ mm ⟨x,rfl⟩
      obtain ⟨lk,s,hs,e1,e2⟩:=qak ((qH _).mem_iff.mp hk)
      obtain ⟨⟨a,b,e3,_⟩,_⟩:=h.ok s hs
      rw [e1] at e3
      subst e3
      refine ⟨_,rfl,⟨_,rfl⟩,rfl,fun _=>⟨qp (d1:=tupI [a,b]) (d2:=.tup [.int (look ts [a,b])]) rfl (qB (qd (yD (d1:=.ref j) (d2:=tupI [a,b]) rfl rfl ?_) rfl) (by simp [PySem.sizeLine])) rfl,rfl⟩⟩
      have hj:j<T.length:=(List.getElem?_eq_some_iff.mp hT).1
      have:(T++[SO.lst mm])[j]?=some (dicD ts):=by rw [List.getElem?_append_left hj,hT]
      simp only [idxD,tupI,this,dicD,qJ,Option.bind_some]
      exact lk)
  rw [yQ] at e
  refine qL (qd e rfl) ?_
  simp only [bltD,one,bTuple,seqOf,lstOf,Option.map_some,ofO]
  unfold wsOf
  rw [List.map_map];rfl
theorem qe1 {d n:Nat} {v:Int} {S:Sr} (hn:n<S.length) (hv:0≤v):Ok (G (d+2) 17 [.ref n,.int 6,.int 12] (pk S n v)) fun y S'=>∃ m ws u,ArOk m ws∧y=arrD m ws∧0≤u∧S'=pk S n u:=by
  rw [G_at (c:=c_17) rfl]
  refine qan rfl rfl ?_
  have f:=fm (v:=v) (m:=6) (by decide)
  have et:=yr (d:=d) (n:=n) (v:=v) (m:=6) (S:=S) hn (by decide) (by decide)
  have u1:0≤v.fdiv 6:=Int.fdiv_nonneg hv (by decide)
  generalize v.fdiv 6=v1 at u1 et
  obtain ⟨m,hm⟩:∃ m,m=1+v.fmod 6:=⟨_,rfl⟩
  refine jS (Ok.of (a:=.int m) (S:=pk S n v1) (qp rfl (qh rfl et) (by rw [hm];rfl)) (Ok.of (a:=[some (.ref n),some (.int 6),some (.int 12),some (.int m),none,none,none,none]) rfl ?_))
  refine jS (Ok.of (a:=.ref S.length) (S:=pk S n v1++[dicD []]) (by simp only [ev,if_true,qE];rfl) (Ok.of (a:=[some (.ref n),some (.int 6),some (.int 12),some (.int m),some (.ref S.length),none,none,none]) rfl ?_))
  have et2:=y6 (d:=d) (n:=n) (v:=v1) (m:=13) (S:=S) (T:=[dicD []]) hn (by decide) (by decide)
  have f2:=fm (v:=v1) (m:=13) (by decide)
  have u2:0≤v1.fdiv 13:=Int.fdiv_nonneg u1 (by decide)
  generalize v1.fdiv 13=v2 at u2 et2
  obtain ⟨c,hc⟩:∃ c:Nat,(c:Int)=v1.fmod 13:=⟨(v1.fmod 13).toNat,by omega⟩
  rw [← hc] at f2 et2
  have atD:∀ u (ts:List Tie),(pk S n u++[dicD ts])[S.length]?=some (dicD ts):=by
    intro u ts;rw [List.getElem?_append_right (by rw [qE];omega),qE];simp
  refine qa2 (g:=.int) (fun pre ρ U=>∃ x y z u ts,ρ=[some (.ref n),some (.int 6),some (.int 12),some (.int m),some (.ref S.length),x,y,z]∧U=pk S n u++[dicD ts]∧0≤u∧AkOk m ts∧ts.length≤pre.length) (rI c) (Ok.of (i_rng (n:=c) (qd (qh (l:=[.ref n,.int 13]) rfl et2) rfl) (by omega)) ⟨rfl,none,none,none,v2,[],rfl,rfl,u2,⟨by simp,by simp⟩,by simp⟩) ?_ ?_
  · rintro pre x suf ρ U hpre ⟨x0,y0,z0,u,ts,rfl,rfl,hu,ha,hlen⟩
    have hl:=congrArg List.length hpre
    rw [yq,List.length_append,List.length_cons] at hl
    refine Ok.of (a:=[some (.ref n),some (.int 6),some (.int 12),some (.int m),some (.ref S.length),some (.int x),y0,z0]) rfl ?_
    have ea:=y6 (d:=d) (n:=n) (v:=u) (m:=m) (S:=S) (T:=[dicD ts]) hn (by omega) (by omega)
    have fa:=fm (v:=u) (m:=m) (by omega)
    have ua:0≤u.fdiv m:=Int.fdiv_nonneg hu (by omega)
    generalize u.fdiv m=u3 at ua ea
    generalize u.fmod m=sa at fa ea
    have eb:=y6 (d:=d) (n:=n) (v:=u3) (m:=m) (S:=S) (T:=[dicD ts]) hn (by omega) (by omega)
    have fb:=fm (v:=u3) (m:=m) (by omega)
    have ub:0≤u3.fdiv m:=Int.fdiv_nonneg ua (by omega)
    generalize u3.fdiv m=u4 at ub eb
    generalize u3.fmod m=sb at fb eb
    have ec:=y6 (d:=d) (n:=n) (v:=u4) (m:=9) (S:=S) (T:=[dicD ts]) hn (by decide) (by decide)
    have fc:=fm (v:=u4) (m:=9) (by decide)
    have uc:0≤u4.fdiv 9:=Int.fdiv_nonneg ub (by decide)
    generalize u4.fdiv 9=u5 at uc ec
    generalize u4.fmod 9=sc at fc ec
    refine jS (Ok.of (a:=.tup [.int sa,.int sb]) (S:=pk S n u4++[dicD ts]) (qB (qd (qh rfl ea) (qd (qh rfl eb) rfl)) (by simp [PySem.sizeLine])) (Ok.of (a:=[some (.ref n),some (.int 6),some (.int 12),some (.int m),some (.ref S.length),some (.int x),some (.int sa),some (.int sb)]) rfl ?_))
    have hput:putE (pk S n u5++[dicD ts]) (.ref S.length) (.tup [.int sa,.int sb]) (.int (1+sc))=some (pk S n u5++[dicD (putTie [sa,sb] (1+sc) ts)]):=by
      have h1000:ts.length<1000:=by omega
      have e1:(pk S n u5++[dicD ts]).set S.length (dicD (putTie [sa,sb] (1+sc) ts))=pk S n u5++[dicD (putTie [sa,sb] (1+sc) ts)]:=by
        rw [List.set_append_right _ _ (by rw [qE];omega),qE];simp
      rw [← e1]
      simp only [putE,putN,atD]
      simp only [dicD,refsLt,if_true,intsOf,Option.map_some,Option.bind_some,List.length_map,h1000,qeP]
    refine jS (Ok.of (a:=.int (1+sc)) (S:=pk S n u5++[dicD ts]) (qp rfl (qh rfl ec) rfl) (Ok.of (a:=[some (.ref n),some (.int 6),some (.int 12),some (.int m),some (.ref S.length),some (.int x),some (.int sa),some (.int sb)]) (S:=pk S n u5++[dicD (putTie [sa,sb] (1+sc) ts)]) ?_ (qco ?_)))
    · simp only [asg,show ev (G (d+1)) (.var 4) [some (.ref n),some (.int 6),some (.int 12),some (.int m),some (.ref S.length),some (.int x),some (.int sa),some (.int sb)] (pk S n u5++[dicD ts])=.ok (.ref S.length) (pk S n u5++[dicD ts]) from rfl,Res.bind,show ev (G (d+1)) (.tup (.cons (.var 6) (.cons (.var 7) .nil))) [some (.ref n),some (.int 6),some (.int 12),some (.int m),some (.ref S.length),some (.int x),some (.int sa),some (.int sb)] (pk S n u5++[dicD ts])=.ok (.tup [.int sa,.int sb]) (pk S n u5++[dicD ts]) from qB rfl (by simp [PySem.sizeLine]),hput]
    · have:=ha.put (k:=[sa,sb]) (w:=1+sc) ⟨sa,sb,rfl,by omega,by omega,by omega,by omega⟩ (by omega) (by omega)
      exact ⟨_,_,_,u5,_,rfl,rfl,uc,this.1,by rw [List.length_append,List.length_singleton];omega⟩
  · rintro ρ U ⟨x,y,z,u,ts,rfl,rfl,hu,ha,hlen⟩
    rw [yq] at hlen
    refine qeU (Ok.of (a:=arrD m (wsOf ts)) (S:=pk S n u++[dicD ts]) (qB (qd rfl (qd (qh2 rfl (atD u ts) ha (by omega)) rfl)) (by simp [PySem.sizeLine])) ?_)
    refine ⟨by rw [List.length_append,qE,qE];omega,?_,m,wsOf ts,u,qgG ha (by omega) (by omega) (by omega),rfl,hu,?_⟩
    · refine q8 _ (qal _ ?_)
      exact qe0 (qgF (by have:=(qgG ha (by omega) (by omega) (by omega)).len;rw [List.length_map];omega) (qa6 _))
    · rw [qE,← qE S n u,List.take_left]
theorem qe2 {m:Int} {ws:List Way} (h:ArOk m ws):arrB (arrD m ws)=true:=by
  have h1:decide (1≤m)=true:=decide_eq_true h.m1
  have h2:decide (m≤6)=true:=decide_eq_true h.m2
  have h3:decide ((ws.map wayD).length≤20)=true:=decide_eq_true (by have:=h.len;rw [List.length_map];omega)
  have h4:(ws.map wayD).all (wayB m)=true:=by
    rw [List.all_map,List.all_eq_true]
    intro t ht
    obtain ⟨a,b,c,d,e,f⟩:=h.ok t ht
    show (decide (0≤t.1)&&decide (t.1≤m-1)&&(decide (0≤t.2.1)&&decide (t.2.1≤m-1))&&(decide (1≤t.2.2)&&decide (t.2.2≤1000000)))=true
    simp;omega
  have h5:upT ((ws.map wayD).map wkey)=true:=by
    rw [List.map_map]
    exact qch h.up
  show (decide (1≤m)&&decide (m≤6)&&(decide ((ws.map wayD).length≤20)&&(ws.map wayD).all (wayB m)&&upT ((ws.map wayD).map wkey)))=true
  rw [h1,h2,h3,h4,h5];rfl
theorem qh3 {m:Int} {ws:List Way} (h:ArOk m ws):gd (arrD m ws)=true:=qe0 (qgF (by have:=h.len;rw [List.length_map];omega) (qa6 _))
end RP
namespace RP
open R
theorem qjh (l:List Int) (S:Sr):bltD .sum [.lst (l.map .int)] S=.ok (.int l.sum) S:=by
  simp only [bltD,one,bSum,seqOf,lstOf,Option.bind_some,qJ,Option.map_some,ofO]
theorem qbH (p:List Int) (a b:Option Int):(cutD (p.map D.int) a b).length≤p.length:=by have:=(qam (p.map D.int) a b).2;rw [List.length_map] at this;exact this
theorem qe3 (p:List Int) (a b:Option Int):refsLts 0 (cutD (p.map D.int) a b)=true:=qU fun x hx=>by
  obtain ⟨y,_,rfl⟩:=List.mem_map.mp ((qam _ _ _).1 x hx);rfl
theorem qji {d:Nat} {a b:Int} {S:Sr} (ha:0≤a) (hb:0≤b) (hb2:b<2^20):G (d+1) 2 [.int a,.int b] S=.ok (.int (eu NW a b)) S:=by
  rw [G_at (c:=c_2) rfl]
  have h:=wl (S:=S) (test:=fun ρ S=>tst (G d) (.val (.var 1)) ρ S) (body:=fun ρ S=>exs (G d) NW (.cons (.set (.tup (.cons (.var 0) (.cons (.var 1) .nil))) (.tup (.cons (.var 1) (.cons (.bin .mod (.var 0) (.var 1)) .nil)))) .nil) ρ S) (E:=fun a b=>[some (.int a),some (.int b)]) (fun a b=>rfl) (fun a b h=>x_set (qB (qd rfl (qd (qp rfl rfl (bmod (by omega))) rfl)) (by simp [PySem.sizeLine])) rfl jp) 20 NW a b ha hb hb2 (by decide)
  exact qw rfl (qcl h (qA rfl))
theorem qe4 {d:Nat} {t b:Int} {S:Sr} (ht:0≤t) (hb:1≤b) (hb2:b<2^20):G (d+2) 3 [.int t,.int b] S=.ok (low NW t b) S:=by
  rw [G_at (c:=c_3) rfl]
  have hg:=qa1 (n:=59) ht (show 0<b by omega)
  refine qw rfl (x_set (d:=.int (eu NW t b)) (S1:=S) (qh (qd (qL rfl (qeR ht)) rfl) (qji ht (by omega) hb2)) (ρ1:=[some (.int t),some (.int b),some (.int (eu NW t b))]) rfl (qA (qB (qd (qp rfl rfl (bdiv hg.1 (by have:=hg.2;show (eu (59+1) t b).natAbs<2^64;omega))) (qd (qp rfl rfl (bdiv hg.1 (by have:=hg.2;show (eu (59+1) t b).natAbs<2^64;omega))) rfl)) (by simp [PySem.sizeLine]))))
theorem qjj {d:Nat} {t b:Int} {S:Sr} (ht:0≤t) (hb:1≤b) (hb2:b<2^20):G (d+1) 16 [.int t,.int b] S=.ok (low NW t b) S:=by
  have hg:=qa1 (n:=59) ht (show 0<b by omega)
  have h:=wl (S:=S) (test:=fun ρ S=>tst (G d) (.val (.cmp .ne (.var 3) (.cst (.int 0)))) ρ S) (body:=fun ρ S=>exs (G d) NW (.cons (.set (.tup (.cons (.var 2) (.cons (.var 3) .nil))) (.tup (.cons (.var 3) (.cons (.bin .mod (.var 2) (.var 3)) .nil)))) .nil) ρ S) (E:=fun x y=>[some (.int t),some (.int b),some (.int x),some (.int y)]) (fun x y=>rfl) (fun x y h=>x_set (qB (qd rfl (qd (qp rfl rfl (bmod (by omega))) rfl)) (by simp [PySem.sizeLine])) rfl jp) 20 NW t b ht (by omega) hb2 (by decide)
  have hlt:cmpD .lt (.int b) (.int 0) S=some false:=by simp only [cmpD];rw [decide_eq_false (by omega)]
  rw [G_at (c:=c_16) rfl]
  exact qw rfl (x_set (qB (l:=[.int t,.int b]) (qd (qL rfl (qeR ht)) (qd (qL rfl (qeR (show 0≤b by omega))) rfl)) (by simp [PySem.sizeLine])) (ρ1:=[some (.int t),some (.int b),some (.int t),some (.int b)]) rfl (qcl h (x_no (t_of (zf rfl rfl hlt)) (qA (qB (qd (qp rfl rfl (bdiv hg.1 (by have:=hg.2;show (eu (59+1) t b).natAbs<2^64;omega))) (qd (qp rfl rfl (bdiv hg.1 (by have:=hg.2;show (eu (59+1) t b).natAbs<2^64;omega))) rfl)) (by simp [PySem.sizeLine]))))))
theorem qgH:∀ {ns:List Int},upB ns=true→ns.Pairwise (· < ·)
  | [],_=>.nil
  | [a],_=>by simp
  | a::b::r,h=>by
    unfold upB at h
    simp only [List.drop_succ_cons,List.drop_zero,List.zip_cons_cons,List.all_cons,Bool.and_eq_true,decide_eq_true_eq] at h
    have ih:=qgH (ns:=b::r) (by unfold upB;simpa using h.2)
    rw [List.pairwise_cons]
    refine ⟨fun y hy=>?_,ih⟩
    rcases List.mem_cons.mp hy with z | z
    · subst z;exact h.1
    · have:=(List.pairwise_cons.mp ih).1 y z
      have:=h.1
      omega
theorem qdd {m:Int} {l:List D} (h:placesB m (.tup l)=true):∃ ns:List Int,l=ns.map .int∧ns.Pairwise (· < ·)∧(∀ x∈ns,0≤x∧x≤m-1)∧ns≠[]:=by
  unfold placesB at h
  dsimp only at h
  cases z:intsOf l with
  | none=>rw [z] at h;cases h
  | some ns =>
    rw [z] at h
    simp only [Bool.and_eq_true,List.all_eq_true,decide_eq_true_eq,Bool.not_eq_true'] at h
    exact ⟨ns,qcm z,qgH h.2,h.1.2,fun e=>by rw [e] at h;simp at h⟩
theorem qcs {m:Int} {l:List D} (h:∀ ns:List Int,l=ns.map .int→ns.Pairwise (· < ·)→(∀ x∈ns,0≤x∧x≤m-1)→ns≠[]→False):placesB m (.tup l)=false:=by
  cases z:placesB m (.tup l) with
  | false=>rfl
  | true=>obtain ⟨ns,h1,h2,h3,h4⟩:=qdd z;exact (h ns h1 h2 h3 h4).elim
noncomputable def NoPt (m:Nat) (y:D):Prop:=refsLt 0 y=true∧placesB m y=false
theorem qgg {a b:List Int} (h:a.map D.int=b.map D.int):a=b:=by
  have:=congrArg intsOf h
  rw [qJ,qJ] at this
  exact Option.some.inj this
theorem qh4 {m:Nat} {a b:List D} {o:D} (ra:refsLts 0 a=true) (rb:refsLts 0 b=true) (ro:refsLt 0 o=true) (ho:wholeB 0 ((m:Int)-1) o=false):NoPt m (.tup (a++[o]++b)):=by
  refine ⟨by simp [refsLt,refsLts,qQ,ra,rb,ro],qcs fun ns e _ hr _=>?_⟩
  have:o∈ns.map D.int:=by rw [← e];simp
  obtain ⟨x,hx,rfl⟩:=List.mem_map.mp this
  have:=hr x hx
  simp [wholeB] at ho
  omega
theorem idxL {L:List D} {r:Int} {S:Sr} (h0:0≤r) (h1:r<L.length):∃ y,idxD S (.lst L) (.int r)=some y∧y∈L:=by
  have hk:r.toNat<L.length:=by omega
  have:L2.ixN L.length r=some r.toNat:=by
    unfold L2.ixN;rw [if_pos h0,if_pos (by omega)]
  refine ⟨L[r.toNat],?_,List.getElem_mem hk⟩
  show (L2.ixN L.length r).bind (fun j=>L[j]?)=_
  rw [this]
  exact List.getElem?_eq_getElem hk
noncomputable def inF (o t:List Int) (w:Way):Bool:=o.contains w.1&&t.contains w.2.1
noncomputable def flo (ws:List Way) (o t:List Int):Int:=((ws.filter (inF o t)).map (·.2.2)).sum
theorem yR {m:Int} {ws:List Way} (h:ArOk m ws) (o t:List Int):0≤flo ws o t:=by
  unfold flo
  have:∀ l:List Way,(∀ x∈l,0≤x.2.2)→0≤(l.map (·.2.2)).sum:=by
    intro l
    induction l with
    | nil=>intro _;simp
    | cons a r ih=>intro hh;rw [List.map_cons,List.sum_cons];have:=hh a (by simp);have:=ih fun x hx=>hh x (List.mem_cons_of_mem _ hx);omega
  exact this _ fun x hx=>by have:=h.ok x (List.mem_filter.mp hx).1;omega
theorem qe5 {m:Int} {ws:List Way} (h:ArOk m ws):refsLt 0 (arrD m ws)=true:=qal _ (qh3 h)
theorem yg {d:Nat} {m:Int} {ws:List Way} {S:Sr} (h:ArOk m ws):G (d+6) 9 [arrD m ws] S=.ok .non S:=by
  rw [zV (qe5 h),qe2 h,if_pos rfl]
theorem qct {d:Nat} {x a b:D} {S:Sr} (hx:refsLt 0 x=true) (hz:arrB x=false):G (d+7) 10 [x,a,b] S=.err (.exc 145) S:=by
  have e:=zV (d:=d) (S:=S) hx
  rw [hz,if_neg (by decide)] at e
  rw [G_at (c:=c_10) rfl]
  exact qcq rfl (yf (qbG (y4 rfl e)))
theorem qcu {d:Nat} {m:Int} {ws:List Way} {a b:D} {S:Sr} (h:ArOk m ws) (ha:refsLt 0 a=true) (hb:refsLt 0 b=true) (hp:(placesB m a&&placesB m b)=false):G (d+7) 10 [arrD m ws,a,b] S=.err (.exc 77) S:=by
  rw [G_at (c:=c_10) rfl]
  have e1:=qZ (d:=d+3) (many:=m) (S:=S) ha
  have e2:=qZ (d:=d+3) (many:=m) (S:=S) hb
  refine qcq rfl (x_expr (S1:=S) (qh rfl (yg h)) (qcr (d:=arrD m ws) (S1:=S) (ρ1:=[some (arrD m ws),some a,some b,some (.int m),some (.tup (ws.map wayD))]) rfl rfl (yf (qbF (S1:=S) (tc ?_) (yf rfl)))))
  cases z:placesB m a with
  | false=>rw [z] at e1;exact jR (t_no (x:=false) (t_of (qh rfl e1)))
  | true =>
    rw [z] at e1 hp
    have z2:placesB m b=false:=by simpa using hp
    rw [z2] at e2
    exact zU (t_no (x:=true) (t_of (qh rfl e1))) (t_no (x:=false) (t_of (qh rfl e2)))
theorem jU {n:Nat} {p:List Int} (hp:PlOk n p):placesB n (tupI p)=true:=by
  have hu:upB p=true:=by unfold upB;exact qeK hp.up
  show (match intsOf (p.map D.int) with | some ns=>!ns.isEmpty&&ns.all (fun i=>decide (0≤i)&&decide (i≤(n:Int)-1))&&upB ns | none=>false)=true
  rw [qJ]
  have h1:p.isEmpty=false:=by cases p with | nil=>exact absurd rfl hp.ne | cons a r=>rfl
  have h2:p.all (fun i=>decide (0≤i)&&decide (i≤(n:Int)-1))=true:=by
    rw [List.all_eq_true]
    intro x hx
    have:=hp.rng x hx
    simp;omega
  simp only [h1,h2,hu];rfl
theorem qcv {F:Fs} {ρ:En} {S:Sr} {i j:Nat} {x:Int} {p:List Int} (h1:ρ[i]?=some (some (.int x))) (h2:ρ[j]?=some (some (tupI p))):tst F (.val (.cmp .inn (.var i) (.var j))) ρ S=.ok (p.contains x) S:=t_of (zf (S1:=S) (d1:=.int x) (d2:=tupI p) (by simp only [ev,varE,h1]) (by simp only [ev,varE,h2]) (qgd x p))
theorem qbI {d n:Nat} {ws:List Way} {p q:List Int} {S:Sr} (h:ArOk n ws) (hp:PlOk n p) (hq:PlOk n q):G (d+7) 10 [arrD n ws,tupI p,tupI q] S=.ok (.int (flo ws p q)) S:=by
  rw [G_at (c:=c_10) rfl]
  have e1:=qZ (d:=d+3) (many:=n) (S:=S) (zm 0 p)
  have e2:=qZ (d:=d+3) (many:=n) (S:=S) (zm 0 q)
  rw [jU hp] at e1
  rw [jU hq] at e2
  refine qw rfl (x_expr (S1:=S) (qh rfl (yg h)) (qcr (d:=arrD n ws) (S1:=S) (ρ1:=[some (arrD n ws),some (tupI p),some (tupI q),some (.int n),some (.tup (ws.map wayD))]) rfl rfl (x_no (S1:=S) (tc (zU (t_no (x:=true) (t_of (qh rfl e1))) (t_no (x:=true) (t_of (qh rfl e2))))) (qeX ?_))))
  exact qf7 (g:=wayD) (S1:=S) ws (inF p q) (·.2.2) (fun ρ=>∃ a b c,ρ=[some (tupI p),some (tupI q),a,b,c]) rfl rfl ⟨_,_,_,rfl⟩ (by
    rintro t ht ρ ⟨a,b,c,rfl⟩
    exact ⟨_,rfl,⟨_,_,_,rfl⟩,qbC (qgC (qcv rfl rfl) fun _=>qcv rfl rfl),fun _=>rfl⟩)
theorem qaq {d n:Nat} {ws:List Way} {p q:List Int} {S:Sr} (h:ArOk n ws):G (d+1) 18 [arrD n ws,tupI p,tupI q] S=.ok (.int (flo ws p q)) S:=by
  rw [G_at (c:=c_18) rfl]
  have e:=qa0 (g:=wayD) (F:=G d) (fr:=[1,2]) (nt:=3) (elt:=.var 4) (tg:=.tup (.cons (.var 2) (.cons (.var 3) (.cons (.var 4) .nil)))) (it:=.seq (.idx (.var 0) (.cst (.int 1)))) (ifs:=.cons (.and (.val (.cmp .inn (.var 2) (.var 0))) (.val (.cmp .inn (.var 3) (.var 1)))) .nil) (ρ:=[some (arrD n ws),some (tupI p),some (tupI q)]) (S:=S) (S1:=S) (ds:=ws.map wayD) ws (inF p q) (fun t=>.int t.2.2) (fun ρ=>∃ a b c,ρ=[some (tupI p),some (tupI q),a,b,c]) rfl rfl ⟨_,_,_,rfl⟩ (by have:=h.len;unfold PySem.sizeLine;omega) (by
    rintro t ht ρ m ⟨a,b,c,rfl⟩
    exact ⟨_,rfl,⟨_,_,_,rfl⟩,qbC (qgC (qcv rfl rfl) fun _=>qcv rfl rfl),fun _=>⟨rfl,rfl⟩⟩)
  have e4:=qjh ((ws.filter (inF p q)).map (·.2.2)) S
  rw [List.map_map] at e4
  exact qw rfl (qA (qL (qd e rfl) e4))
noncomputable def sqD (ws:List Way) (p q:List Int):D:=low NW (flo ws p q*flo ws p q) (p.length*q.length:Nat)
theorem qe6:∀ {n:Nat} {ns:List Int} {a:Int},ns.Pairwise (· < ·)→(∀ x∈ns,a≤x∧x<a+n)→ns.length≤n
  | _,[],_,_,_=>Nat.zero_le _
  | 0,x::r,a,_,h=>by have:=h x (by simp);omega
  | n+1,x::r,a,hp,h=>by
    have h1:=h x (by simp)
    rw [List.pairwise_cons] at hp
    have:=qe6 (n:=n) (ns:=r) (a:=a+1) hp.2 (fun y hy=>by
      have h2:=hp.1 y hy
      have h3:=h y (List.mem_cons_of_mem _ hy)
      push_cast at h3
      omega)
    simp;omega
theorem ju {n:Nat} {p:List Int} (h:PlOk n p):p.length≤n:=qe6 (a:=0) h.up (fun y hy=>by have:=h.rng y hy;omega)
theorem jv {n:Nat} {p:List Int} (h:PlOk n p):0<p.length:=List.length_pos_iff.mpr h.ne
theorem qe7 {n:Nat} {ws:List Way} (h:ArOk n ws) (o t:List Int):flo ws o t≤108:=by
  unfold flo
  have:∀ l:List Way,(∀ x∈l,x.2.2≤9)→(l.map (·.2.2)).sum≤9*l.length:=by
    intro l
    induction l with
    | nil=>intro _;simp
    | cons a r ih=>intro hh;rw [List.map_cons,List.sum_cons,List.length_cons];have:=hh a (by simp);have:=ih fun x hx=>hh x (List.mem_cons_of_mem _ hx);push_cast;omega
  have h1:=this (ws.filter (inF o t)) fun x hx=>by have:=h.ok x (List.mem_filter.mp hx).1;omega
  have h2:=List.length_filter_le (inF o t) ws
  have h3:=h.len
  omega
theorem qe8 {F:Fs} {ρ:En} {S:Sr} {i:Nat} {x:Int} (h1:ρ[i]?=some (some (.int x))) (h0:0≤x) (h2:x≤108):ev F (.bin .mul (.var i) (.var i)) ρ S=.ok (.int (x*x)) S:=qp (S1:=S) (d1:=.int x) (d2:=.int x) (by simp only [ev,varE,h1]) (by simp only [ev,varE,h1]) (bmul (yZ (by omega)))
theorem qe9 {F:Fs} {S:Sr} {p q:List Int} {a d:Option D} (hp:p.length≤12):ev F (.bin .mul (.blt .len (.cons (.var 1) .nil)) (.blt .len (.cons (.var 2) .nil))) [a,some (tupI p),some (tupI q),d] S=.ok (.int ((p.length*q.length:Nat):Int)) S:=by
  have:((p.length*q.length:Nat):Int)=(p.length:Int)*(q.length:Int):=by push_cast;rfl
  rw [this]
  exact qp (S1:=S) (qL rfl (jq _ _)) (qL rfl (jq _ _)) (bmul (yZ (by omega)))
theorem qcw {a b n:Nat} (ha:a≤n) (hb:b≤n) (hn:n≤6):a*b≤36:=Nat.le_trans (Nat.mul_le_mul ha hb) (by have:=Nat.mul_le_mul hn hn;omega)
theorem qfa {d n:Nat} {ws:List Way} {p q:List Int} {S:Sr} (h:ArOk n ws) (hp:PlOk n p) (hq:PlOk n q):G (d+8) 11 [arrD n ws,tupI p,tupI q] S=.ok (sqD ws p q) S:=by
  have hn:n≤6:=by have:=h.m2;omega
  have l1:=ju hp
  have l2:=ju hq
  have l3:=jv hp
  have l4:=jv hq
  have l5:=qcw l1 l2 hn
  have l6:=Nat.mul_pos l3 l4
  rw [G_at (c:=c_11) rfl]
  exact qw rfl (x_set (qh rfl (qbI (d:=d) h hp hq)) (ρ1:=[some (arrD n ws),some (tupI p),some (tupI q),some (.int (flo ws p q))]) rfl (qeX (qh (qd (qe8 rfl (yR h p q) (qe7 h p q)) (qd (qe9 (by omega)) rfl)) (qe4 (d:=d+5) (Int.mul_nonneg (yR h p q) (yR h p q)) (by omega) (by omega)))))
theorem qde {d n:Nat} {ws:List Way} {p q:List Int} {S:Sr} (h:ArOk n ws) (hp:PlOk n p) (hq:PlOk n q):G (d+2) 19 [arrD n ws,tupI p,tupI q] S=.ok (sqD ws p q) S:=by
  have hn:n≤6:=by have:=h.m2;omega
  have l1:=ju hp
  have l2:=ju hq
  have l3:=jv hp
  have l4:=jv hq
  have l5:=qcw l1 l2 hn
  have l6:=Nat.mul_pos l3 l4
  rw [G_at (c:=c_19) rfl]
  exact qw rfl (x_set (qh rfl (qaq (d:=d) h)) (ρ1:=[some (arrD n ws),some (tupI p),some (tupI q),some (.int (flo ws p q))]) rfl (qA (qh (qd (qe8 rfl (yR h p q) (qe7 h p q)) (qd (qe9 (by omega)) rfl)) (qjj (d:=d) (Int.mul_nonneg (yR h p q) (yR h p q)) (by omega) (by omega)))))
theorem qdf {d:Nat} {x a b:D} {S:Sr} {C:PySem.Addr} (h:G (d+7) 10 [x,a,b] S=.err (.exc C) S):G (d+8) 11 [x,a,b] S=.err (.exc C) S:=by
  rw [G_at (c:=c_11) rfl]
  exact qcq rfl (yf (qgb (y4 rfl h)))
end RP
namespace RP
open R
noncomputable def dropS:Nat→CSs→CSs
  | 0,s=>s
  | n+1,.cons _ r=>dropS n r
  | _+1,.nil=>.nil
noncomputable def bodyF:CSs→CSs
  | .cons (.forS _ _ b) _=>b
  | _=>.nil
noncomputable def tryB:CSs→CSs
  | .cons _ (.cons (.tryX _ _ b _) _)=>b
  | _=>.nil
theorem qh5 {F:Fs} {N:Nat} {ρ ρ':En} {S S1 S2:Sr} {t:List (PySem.Addr × Bool)} {i:Nat} {b s r:CSs} {C:PySem.Addr} {X:Res R.Fl} (h:exs F N b ρ S=.err (.exc C) S1) (ht:lookA C t=some true) (h2:exs F N s (ρ.set i (some (.exc C))) S1=.ok (.nx ρ') S2) (h3:exs F N r (ρ'.set i none) S2=X):exs F N (.cons (.tryX t i b s) r) ρ S=X:=by
  simp only [exs,ex,h,ht,h2,Res.bind];exact h3
noncomputable def nmC (C:PySem.Addr):PySem.Str:=if C=145 then PySem.Str.ofString "arrows" else PySem.Str.ofString "part"
theorem qgh {d:Nat} {k:Int} {x a b:D} {S:Sr} {C:PySem.Addr} (hC:C=145∨C=77) (h:exs (G (d+8)) NW (tryB c_20.body) [some (.int k),some x,some a,some b,some .non,none,none,none] S=.err (.exc C) S):G (d+9) 20 [.int k,x,a,b] S=.ok (.str (nmC C)) S:=by
  rw [G_at (c:=c_20) rfl]
  have hl:lookA C [(145,true),(77,true)]=some true:=by rcases hC with rfl | rfl <;> decide
  refine qw rfl (x_set (S1:=S) (d:=.non) (ρ1:=[some (.int k),some x,some a,some b,some .non,none,none,none]) rfl rfl (qh5 h hl (ρ':=[some (.int k),some x,some a,some b,some (.exc C),some (.exc C),none,none]) (x_set (S1:=S) (d:=.exc C) rfl (ρ1:=[some (.int k),some x,some a,some b,some (.exc C),some (.exc C),none,none]) rfl jp) ?_))
  rcases hC with rfl | rfl
  · simp [exs,ex,ev,evs,varE,Res.bind,isxD,lookA,newL,PySem.sizeLine,asg,tst,truD,bltD,one,bSumB,lstOf,boolsOf,cmpD,eqD,ixtD,idxD,seqOf,nmC]
    try rfl
  · simp [exs,ex,ev,evs,varE,Res.bind,isxD,lookA,newL,PySem.sizeLine,asg,tst,truD,bltD,one,bSumB,lstOf,boolsOf,cmpD,eqD,ixtD,idxD,seqOf,nmC]
    try rfl
theorem q_eq {F:Fs} {k j:Int} {x a b:D} {S:Sr}:tst F (.cal (.val (.cmp .eq (.var 0) (.cst (.int j))))) [some (.int k),some x,some a,some b,some .non,none,none,none] S=.ok (k == j) S:=tc (t_of (zf rfl rfl rfl))
theorem qar {d:Nat} {k:Int} {x a b:D} {S:Sr} {C:PySem.Addr} (hk:k=0∨k=1) (hC:C=145∨C=77) (h:∀ d,G (d+7) 10 [x,a,b] S=.err (.exc C) S):G (d+9) 20 [.int k,x,a,b] S=.ok (.str (nmC C)) S:=by
  refine qgh hC ?_
  simp only [tryB,c_20]
  rcases hk with rfl | rfl
  · exact yf (qbF q_eq (yf (qbG (y4 rfl (h (d+1))))))
  · exact yf (qgc q_eq (yf (qbG (y4 rfl (qdf (d:=d) (h d))))))
theorem qgi {p:List Int} {a:Nat} (h:a<p.length):∃ y,y∈cutD (p.map D.int) (some a) (some (a+1)):=by
  have e:(cutD (p.map D.int) (some a) (some (a+1))).length≠0:=by
    unfold cutD
    rw [HT.qbN,show ((a:Int)+1)=((a+1:Nat):Int) by push_cast;rfl,HT.qbN]
    simp
    omega
  cases z:cutD (p.map D.int) (some a) (some (a+1)) with
  | nil=>rw [z] at e;exact absurd rfl e
  | cons y r=>exact ⟨y,by simp⟩
noncomputable def bsO (m:Nat):List D:=[.int m,.int (0-1),.bl true,.non,.str (PySem.Str.ofString "0"),.tup [.int 0],.lst [.int 0]]
noncomputable def bsL (m a:Nat) (p:List Int) (o:D):List D:=[.tup (cutD (p.map .int) none (some a)++[o]++cutD (p.map .int) (some (a+1)) none),.tup (p.map .int++cutD (p.map .int) (some a) (some (a+1))),.tup [],.lst (p.map .int),.non,.int 0,.str (PySem.Str.ofString ""),.emp,.tup [.int m]]
theorem qh6 {m:Nat}:∀ o∈bsO m,refsLt 0 o=true∧wholeB 0 ((m:Int)-1) o=false:=by
  intro o ho
  unfold bsO at ho
  simp only [List.mem_cons,List.not_mem_nil,or_false] at ho
  rcases ho with rfl | rfl | rfl | rfl | rfl | rfl | rfl
  · exact ⟨rfl,by simp [wholeB];omega⟩
  all_goals exact ⟨rfl,by simp [wholeB]⟩
theorem qh7 {m a:Nat} {p:List Int} {o:D} (ha:a<p.length) (ho:refsLt 0 o=true∧wholeB 0 ((m:Int)-1) o=false):∀ y∈bsL m a p o,NoPt m y:=by
  have rp2:refsLts 0 (p.map D.int)=true:=zm 0 p
  intro y hy
  unfold bsL at hy
  simp only [List.mem_cons,List.not_mem_nil,or_false] at hy
  rcases hy with rfl | rfl | rfl | rfl | rfl | rfl | rfl | rfl | rfl
  · exact qh4 (qe3 _ _ _) (qe3 _ _ _) ho.1 ho.2
  · refine ⟨by simp [refsLt,qQ,rp2,qe3],qcs fun ns e hpw _ _=>?_⟩
    obtain ⟨y,hy⟩:=qgi ha
    have hy2:=(qam _ _ _).1 y hy
    obtain ⟨x,hx,rfl⟩:=List.mem_map.mp hy2
    have hpd:(p.map D.int++cutD (p.map D.int) (some a) (some (a+1))).Pairwise fun a b=>∀ i j,a=.int i→b=.int j→i<j:=by
      rw [e,List.pairwise_map]
      exact hpw.imp fun h i j e1 e2=>by cases e1;cases e2;exact h
    have:=(List.pairwise_append.mp hpd).2.2 (.int x) hy2 (.int x) hy x x rfl rfl
    omega
  · exact ⟨rfl,qcs fun ns e _ _ h=>h (by cases ns with | nil=>rfl | cons a r=>cases e)⟩
  · exact ⟨by simp [refsLt,rp2],rfl⟩
  · exact ⟨rfl,rfl⟩
  · exact ⟨rfl,rfl⟩
  · exact ⟨rfl,rfl⟩
  · exact ⟨rfl,rfl⟩
  · refine ⟨rfl,qcs fun ns e _ hr _=>?_⟩
    have e2:[(m:Int)]=ns:=qgg e
    have:=hr m (by rw [← e2];simp)
    omega
theorem qh8 {d n m:Nat} {v:Int} {p:List Int} {S:Sr} (hn:n<S.length) (hv:0≤v) (hp:PlOk m p) (hm:m≤12):∃ (y:D) (u:Int),NoPt m y∧0≤u∧G (d+2) 21 [.ref n,.int m,tupI p] (pk S n v)=.ok y (pk S n u):=by
  have hp0:=jv hp
  have pl:=ju hp
  obtain ⟨f1,f2⟩:=fm (v:=v) (m:=p.length) (by omega)
  obtain ⟨a,ha⟩:∃ a:Nat,v.fmod p.length=a:=⟨(v.fmod p.length).toNat,by omega⟩
  have hal:a<p.length:=by omega
  obtain ⟨v1,ev1⟩:∃ v1,v1=v.fdiv p.length:=⟨_,rfl⟩
  have hv1:0≤v1:=by rw [ev1];exact Int.fdiv_nonneg hv (by omega)
  obtain ⟨v2,ev2⟩:∃ v2,v2=v1.fdiv 7:=⟨_,rfl⟩
  have hv2:0≤v2:=by rw [ev2];exact Int.fdiv_nonneg hv1 (by omega)
  obtain ⟨r,er⟩:∃ r,r=v1.fmod 7:=⟨_,rfl⟩
  have hr:=fm (v:=v1) (m:=7) (by omega)
  rw [← er] at hr
  obtain ⟨v3,ev3⟩:∃ v3,v3=v2.fdiv 9:=⟨_,rfl⟩
  have hv3:0≤v3:=by rw [ev3];exact Int.fdiv_nonneg hv2 (by omega)
  obtain ⟨q,eq⟩:∃ q,q=v2.fmod 9:=⟨_,rfl⟩
  have hq:=fm (v:=v2) (m:=9) (by omega)
  rw [← eq] at hq
  have t1:=yr (d:=d) (n:=n) (v:=v) (m:=p.length) (S:=S) hn (by omega) (by omega)
  rw [ha,← ev1] at t1
  have t2:=yr (d:=d) (n:=n) (v:=v1) (m:=7) (S:=S) hn (by omega) (by omega)
  rw [← er,← ev2] at t2
  have t3:=yr (d:=d) (n:=n) (v:=v2) (m:=9) (S:=S) hn (by omega) (by omega)
  rw [← eq,← ev3] at t3
  obtain ⟨o,ho,om⟩:=idxL (L:=bsO m) (r:=r) (S:=pk S n v2) hr.1 (by simp [bsO];omega)
  have oo:=qh6 o om
  obtain ⟨y,hy,ym⟩:=idxL (L:=bsL m a p o) (r:=q) (S:=pk S n v3) hq.1 (by simp [bsL];omega)
  have yy:=qh7 hal oo y ym
  refine ⟨y,v3,yy,hv3,?_⟩
  rw [G_at (c:=c_21) rfl]
  have l1:=qbH p none (some a)
  have l2:=qbH p (some (a+1)) none
  have l3:=qbH p (some a) (some (a+1))
  have lb:ev (G (d+1)) (.lst false (.cons (.var 1) (.cons (.bin .sub (.cst (.int 0)) (.cst (.int 1))) (.cons (.cst (.bl true)) (.cons (.cst .non) (.cons (.cst (.str (PySem.Str.ofString "0"))) (.cons (.tup (.cons (.cst (.int 0)) .nil)) (.cons (.lst false (.cons (.cst (.int 0)) .nil)) .nil)))))))) [some (.ref n),some (.int m),some (tupI p),some (.int a),none,none] (pk S n v1)=.ok (.lst (bsO m)) (pk S n v1) :=
    yE (qd rfl (qd (qp rfl rfl rfl) (qd rfl (qd rfl (qd rfl (qd (qB rfl (by simp [PySem.sizeLine])) (qd (yE rfl (by simp)) rfl))))))) (by simp [bsO])
  refine qeL (S2:=[]) rfl rfl (x_set (d:=.int a) (S1:=pk S n v1) (ρ1:=[some (.ref n),some (.int m),some (tupI p),some (.int a),none,none]) (qh (qd rfl (qd (qL rfl (jq _ _)) rfl)) t1) rfl
    (x_set (d:=o) (S1:=pk S n v2) (ρ1:=[some (.ref n),some (.int m),some (tupI p),some (.int a),some o,none]) (yD lb (qh rfl t2) ho) rfl
    (x_set (d:=.lst (bsL m a p o)) (S1:=pk S n v2) (ρ1:=[some (.ref n),some (.int m),some (tupI p),some (.int a),some o,some (.lst (bsL m a p o))]) (yE (qd (qp (qp (qeS (l:=p.map .int) rfl rfl rfl) (qB rfl (by simp [PySem.sizeLine])) (bcatT (by simp;omega))) (qeS (l:=p.map .int) rfl rfl rfl) (bcatT (by rw [List.length_append];simp;omega))) (qd (qp (d1:=tupI p) rfl (qeS (l:=p.map .int) rfl rfl rfl) (bcatT (by rw [List.length_map];omega))) (qd (qB rfl (by simp [PySem.sizeLine])) (qd (qL rfl rfl) (qd rfl (qd rfl (qd rfl (qd rfl (qd (qB rfl (by simp [PySem.sizeLine])) rfl))))))))) (by simp [bsL])) rfl
    (qA ?_)))) (by rw [qE,qE]) (q8 y yy.1)
  rw [List.append_nil]
  exact yD rfl (qh rfl t3) hy
end RP
namespace RP
open R
theorem qh9 {x:Int} {S:Sr}:cmpD .ne (.int x) (.int x) S=some false:=by simp [cmpD,eqD]
theorem qia {x:Int} {S:Sr}:cmpD .eq (.int x) (.int x) S=some true:=by simp [cmpD,eqD]
theorem qjk {ws:List Way} {p q:List Int} {S:Sr}:cmpD .ne (sqD ws p q) (sqD ws p q) S=some false:=by simp [cmpD,eqD,eqL,sqD,low]
theorem qgI {F:Fs} {ρ:En} {S S1 S2:Sr} {c c2:CB} (h:tst F c ρ S=.ok false S1) (h2:tst F c2 ρ S1=.ok false S2):tst F (.or c c2) ρ S=.ok false S2:=by simp [tst,h,h2,Res.bind]
theorem qfb {F:Fs} {ρ:En} {S S1:Sr} {e:CE} (h:ev F e ρ S=.ok (.bl true) S1):tst F (.not (.val e)) ρ S=.ok false S1:=t_no (x:=true) (t_of h)
noncomputable def w21:List D:=(rI 21).map fun k=>.tup [.int (k.fdiv 6),.int (k.fmod 6),.int 1]
noncomputable def oddA (m:Int) (ws:List Way):List D:=[.tup [.int m,.tup (ws.map wayD),.int 0],.tup [.int 0,.tup []],.non,.lst [.int m,.tup (ws.map wayD)],.tup [.int m,.tup [.tup [.int 0,.int 0,.int 0]]],.tup [.int 7,.tup []]]
noncomputable def oddB (m:Int):List D:=[.tup [.int m,.tup [.tup [.int 0,.int 0,.int (1000000+1)]]],.tup [.int 6,.tup w21]]
theorem qib {m:Int} {ws:List Way}:∀ y∈oddA m ws++oddB m,refsLt 0 y=true∧arrB y=false:=by
  have rw':refsLts 0 (ws.map wayD)=true:=qU (by intro y hy;obtain ⟨z,_,rfl⟩:=List.mem_map.mp hy;rfl)
  intro y hy
  unfold oddA oddB at hy
  simp only [List.cons_append,List.nil_append,List.mem_cons,List.not_mem_nil,or_false] at hy
  rcases hy with rfl | rfl | rfl | rfl | rfl | rfl | rfl | rfl
  · exact ⟨by simp [refsLt,refsLts,rw'],rfl⟩
  · exact ⟨rfl,by simp [arrB]⟩
  · exact ⟨rfl,rfl⟩
  · exact ⟨by simp [refsLt,refsLts,rw'],rfl⟩
  · exact ⟨rfl,by simp [arrB,waysB,wayB,wholeB]⟩
  · exact ⟨rfl,by simp [arrB]⟩
  · exact ⟨rfl,by simp [arrB,waysB,wayB,wholeB]⟩
  · have r21:refsLts 0 w21=true:=qU (by intro y hy;obtain ⟨z,_,rfl⟩:=List.mem_map.mp hy;rfl)
    refine ⟨by simp [refsLt,refsLts,r21],?_⟩
    have hl:w21.length=21:=by unfold w21;rw [List.length_map,yq]
    simp [arrB,waysB,hl]
theorem qic {F:Fs} {n:Nat} {m:Int} {ws:List Way} {x3 x4 x5 x6 x7 x8 x9:Option D} {x10:Option D} {S:Sr}:ev F (.lst false (.cons (.tup (.cons (.var 2) (.cons (.idx (.var 1) (.cst (.int 1))) (.cons (.cst (.int 0)) .nil)))) (.cons (.tup (.cons (.cst (.int 0)) (.cons (.tup .nil) .nil))) (.cons (.cst .non) (.cons (.lst false (.cons (.var 2) (.cons (.idx (.var 1) (.cst (.int 1))) .nil))) (.cons (.tup (.cons (.var 2) (.cons (.tup (.cons (.tup (.cons (.cst (.int 0)) (.cons (.cst (.int 0)) (.cons (.cst (.int 0)) .nil)))) .nil)) .nil))) (.cons (.tup (.cons (.cst (.int 7)) (.cons (.tup .nil) .nil))) .nil))))))) [some (.ref n),some (arrD m ws),some (.int m),x3,x4,x5,x6,x7,x8,x9,x10] S=.ok (.lst (oddA m ws)) S:=by
  have i1:ev F (.idx (.var 1) (.cst (.int 1))) [some (.ref n),some (arrD m ws),some (.int m),x3,x4,x5,x6,x7,x8,x9,x10] S=.ok (.tup (ws.map wayD)) S:=yD rfl rfl rfl
  exact yE (qd (qB (qd rfl (qd i1 (qd rfl rfl))) (by simp [PySem.sizeLine])) (qd (qB (qd rfl (qd (qB rfl (by simp [PySem.sizeLine])) rfl)) (by simp [PySem.sizeLine])) (qd rfl (qd (yE (qd rfl (qd i1 rfl)) (by simp)) (qd (qB (qd rfl (qd (qB (qd (qB rfl (by simp [PySem.sizeLine])) rfl) (by simp [PySem.sizeLine])) rfl)) (by simp [PySem.sizeLine])) (qd (qB (qd rfl (qd (qB rfl (by simp [PySem.sizeLine])) rfl)) (by simp [PySem.sizeLine])) rfl)))))) (by simp [oddA])
theorem qgj {F:Fs} {n:Nat} {m:Int} {ws:List Way} {x3 x4 x5 x6 x7 x8 x9:Option D} {L:List D} {S:Sr}:ev F (.lst false (.cons (.tup (.cons (.var 2) (.cons (.tup (.cons (.tup (.cons (.cst (.int 0)) (.cons (.cst (.int 0)) (.cons (.bin .add (.bin .pow (.cst (.int 10)) (.cst (.int 6))) (.cst (.int 1))) .nil)))) .nil)) .nil))) (.cons (.tup (.cons (.cst (.int 6)) (.cons (.blt .tuple (.cons (.lc false [] 1 (.tup (.cons (.bin .fdiv (.var 0) (.cst (.int 6))) (.cons (.bin .mod (.var 0) (.cst (.int 6))) (.cons (.cst (.int 1)) .nil)))) (.var 0) (.rng (.cons (.cst (.int 21)) .nil)) .nil) .nil)) .nil))) .nil))) [some (.ref n),some (arrD m ws),some (.int m),x3,x4,x5,x6,x7,x8,x9,some (.lst L)] S=.ok (.lst (oddB m)) S:=by
  have e:=qa0 (g:=.int) (F:=F) (fr:=[]) (nt:=1) (elt:=.tup (.cons (.bin .fdiv (.var 0) (.cst (.int 6))) (.cons (.bin .mod (.var 0) (.cst (.int 6))) (.cons (.cst (.int 1)) .nil)))) (tg:=.var 0) (it:=.rng (.cons (.cst (.int 21)) .nil)) (ifs:=.nil) (ρ:=[some (.ref n),some (arrD m ws),some (.int m),x3,x4,x5,x6,x7,x8,x9,some (.lst L)]) (S:=S) (S1:=S) (ds:=(rI 21).map .int) (rI 21) (fun _=>true) (fun k=>.tup [.int (k.fdiv 6),.int (k.fmod 6),.int 1]) (fun ρ=>∃ x,ρ=[x]) (i_rng (n:=21) rfl (by decide)) rfl ⟨_,rfl⟩ (by rw [yq];decide) (by
    rintro q hq ρ m ⟨x,rfl⟩
    have hq':=zT.mp hq
    exact ⟨_,rfl,⟨_,rfl⟩,rfl,fun _=>⟨qB (qd (qp rfl rfl (bdiv (by decide) (by decide))) (qd (qp rfl rfl (bmod (by decide))) (qd rfl rfl))) (by simp [PySem.sizeLine]),rfl⟩⟩)
  rw [yQ] at e
  exact yE (qd (qB (qd rfl (qd (qB (qd (qB (qd rfl (qd rfl (qd (qp (pow6 _ _ _) rfl rfl) rfl))) (by simp [PySem.sizeLine])) rfl) (by simp [PySem.sizeLine])) rfl)) (by simp [PySem.sizeLine])) (qd (qB (qd rfl (qd (qL (qd e rfl) rfl) rfl)) (by simp [PySem.sizeLine])) rfl)) (by simp [oddB])
theorem qcx {S:Sr}:cmpD .ne (.str (nmC 77)) (.str (PySem.Str.ofString "part")) S=some false:=by
  have:nmC 77=PySem.Str.ofString "part":=by unfold nmC;rw [if_neg (by decide)]
  rw [this];simp [cmpD,eqD]
theorem jV {S:Sr}:cmpD .ne (.str (nmC 145)) (.str (PySem.Str.ofString "arrows")) S=some false:=by
  have:nmC 145=PySem.Str.ofString "arrows":=by unfold nmC;rw [if_pos rfl]
  rw [this];simp [cmpD,eqD]
theorem qgk {d n m:Nat} {ws:List Way} {p q:List Int} {k:Int} {u:Int} {x5 x6 x8 x9 x10:Option D} {S:Sr} (hn:n<S.length) (hu:0≤u) (h:ArOk m ws) (hp:PlOk m p) (hq:PlOk m q) (hk:k=0∨k=1) (hm:m≤6) :
    ∃ (u2:Int) (y9 y10:Option D),0≤u2∧exs (G (d+9)) NW (bodyF (bodyF (dropS 3 c_22.body))) [some (.ref n),some (arrD m ws),some (.int m),some (tupI p),some (tupI q),x5,x6,some (.int k),x8,x9,x10] (pk S n u)=.ok (.nx [some (.ref n),some (arrD m ws),some (.int m),some (tupI p),some (tupI q),x5,x6,some (.int k),x8,y9,y10]) (pk S n u2):=by
  obtain ⟨y,u1,hy,hu1,e1⟩:=qh8 (d:=d+7) (n:=n) (m:=m) (v:=u) (p:=p) (S:=S) hn hu hp (by omega)
  obtain ⟨u2,eu2⟩:∃ u2,u2=u1.fdiv 8:=⟨_,rfl⟩
  have hu2:0≤u2:=by rw [eu2];exact Int.fdiv_nonneg hu1 (by omega)
  obtain ⟨r,er⟩:∃ r,r=u1.fmod 8:=⟨_,rfl⟩
  have hr:=fm (v:=u1) (m:=8) (by omega)
  rw [← er] at hr
  have t1:=yr (d:=d+8) (n:=n) (v:=u1) (m:=8) (S:=S) hn (by omega) (by omega)
  rw [← er,← eu2] at t1
  obtain ⟨o,ho,om⟩:=idxL (L:=oddA m ws++oddB m) (r:=r) (S:=pk S n u2) hr.1 (by simp [oddA,oddB];omega)
  obtain ⟨o1,o2⟩:=qib o om
  have rq:=zm 0 q
  have pb1:∀ U d',G (d'+7) 10 [arrD m ws,y,tupI q] U=.err (.exc 77) U:=fun U d'=>qcu h hy.1 rq (by rw [hy.2];rfl)
  have pb2:∀ U d',G (d'+7) 10 [arrD m ws,tupI q,y] U=.err (.exc 77) U:=fun U d'=>qcu h rq hy.1 (by rw [hy.2,Bool.and_false])
  have pa1:∀ U d',G (d'+7) 10 [o,y,tupI q] U=.err (.exc 145) U:=fun U d'=>qct o1 o2
  have pa2:∀ U d',G (d'+7) 10 [o,tupI q,tupI q] U=.err (.exc 145) U:=fun U d'=>qct o1 o2
  refine ⟨u2,some y,some o,hu2,?_⟩
  simp only [dropS,bodyF,c_22]
  refine x_set (qh rfl e1) (ρ1:=[some (.ref n),some (arrD m ws),some (.int m),some (tupI p),some (tupI q),x5,x6,some (.int k),x8,some y,x10]) rfl ?_
  refine x_set (S1:=pk S n u1) qic (ρ1:=[some (.ref n),some (arrD m ws),some (.int m),some (tupI p),some (tupI q),x5,x6,some (.int k),x8,some y,some (.lst (oddA m ws))]) rfl ?_
  refine x_set (S1:=pk S n u1) (qp rfl qgj (bcat (by simp [oddA,oddB]))) (ρ1:=[some (.ref n),some (arrD m ws),some (.int m),some (tupI p),some (tupI q),x5,x6,some (.int k),x8,some y,some (.lst (oddA m ws++oddB m))]) rfl ?_
  refine x_set (yD rfl (qh rfl t1) ho) (ρ1:=[some (.ref n),some (arrD m ws),some (.int m),some (tupI p),some (tupI q),x5,x6,some (.int k),x8,some y,some o]) rfl ?_
  exact x_no (qgI (t_of (zf (qh rfl (qar (d:=d) hk (.inr rfl) (pb1 _))) rfl qcx)) (t_of (zf (qh rfl (qar (d:=d) hk (.inr rfl) (pb2 _))) rfl qcx))) (x_no (qgI (t_of (zf (qh rfl (qar (d:=d) hk (.inl rfl) (pa1 _))) rfl jV)) (t_of (zf (qh rfl (qar (d:=d) hk (.inl rfl) (pa2 _))) rfl jV))) jp)
theorem qgl {d n m:Nat} {v:Int} {ws:List Way} {S:Sr} (hn:n<S.length) (hv:0≤v) (h:ArOk m ws):∃ u:Int,0≤u∧G (d+10) 22 [.ref n,arrD m ws] (pk S n v)=.ok (.bl true) (pk S n u):=by
  have hm1:1≤m:=by have:=h.m1;omega
  have hm:m≤6:=by have:=h.m2;omega
  obtain ⟨p,u1,hp,hu1,e1⟩:=qeZ (d:=d+7) (n:=n) (many:=m) (v:=v) (S:=S) hn hv hm1 (by omega)
  obtain ⟨q,u2,hq,hu2,e2⟩:=qeZ (d:=d+7) (n:=n) (many:=m) (v:=u1) (S:=S) hn hu1 hm1 (by omega)
  suffices hs:Ok (G (d+10) 22 [.ref n,arrD m ws] (pk S n v)) fun r U=>∃ u,r=.bl true∧U=pk S n u∧0≤u by
    obtain ⟨r,U,e,u,rfl,rfl,h1⟩:=hs.ex
    exact ⟨u,h1,e⟩
  rw [G_at (c:=c_22) rfl]
  refine qan rfl rfl ?_
  rw [qE]
  have hall:PlOk m (rI m):=⟨fun z=>by have:=congrArg List.length z;rw [yq] at this;simp only [List.length_nil] at this;omega,fun x hx=>zT.mp hx,qgD _⟩
  rw [show c_22.body=.cons (.set (.var 2) (.idx (.var 1) (.cst (.int 0)))) (dropS 1 c_22.body) from rfl]
  refine jS (Ok.of (yD rfl rfl rfl) (Ok.of (a:=[some (.ref n),some (arrD m ws),some (.int m),none,none,none,none,none,none,none,none]) rfl ?_))
  rw [show dropS 1 c_22.body=.cons (.set (.tup (.cons (.var 3) (.cons (.var 4) .nil))) (.tup (.cons (.call 15 (.cons (.var 0) (.cons (.var 2) .nil))) (.cons (.call 15 (.cons (.var 0) (.cons (.var 2) .nil))) .nil)))) (dropS 2 c_22.body) from rfl]
  refine jS (Ok.of (qB (qd (qh rfl e1) (qd (qh rfl e2) rfl)) (by simp [PySem.sizeLine])) (Ok.of (a:=[some (.ref n),some (arrD m ws),some (.int m),some (tupI p),some (tupI q),none,none,none,none,none,none]) rfl ?_))
  rw [show dropS 2 c_22.body=.cons (.forS (.tup (.cons (.var 5) (.cons (.var 6) .nil))) (.seq (.lst false (.cons (.tup (.cons (.var 3) (.cons (.var 4) .nil))) (.cons (.tup (.cons (.var 4) (.cons (.var 3) .nil))) (.cons (.tup (.cons (.var 3) (.cons (.var 3) .nil))) (.cons (.tup (.cons (.rng none (.cons (.var 2) .nil)) (.cons (.var 4) .nil))) .nil)))))) (bodyF (dropS 2 c_22.body))) (dropS 3 c_22.body) from rfl]
  refine qa2 (g:=fun z:List Int × List Int=>D.tup [tupI z.1,tupI z.2]) (fun pre ρ U=>∃ x5 x6,U=pk S n u2∧ρ=[some (.ref n),some (arrD m ws),some (.int m),some (tupI p),some (tupI q),x5,x6,none,none,none,none]) [(p,q),(q,p),(p,p),(rI m,q)]
    (Ok.of (qh0 (yE (qd (qB rfl (by simp [PySem.sizeLine])) (qd (qB rfl (by simp [PySem.sizeLine])) (qd (qB rfl (by simp [PySem.sizeLine])) (qd (qB (qd (qhZ (n:=m) (qd rfl rfl) (by omega)) (qd rfl rfl)) (by simp [PySem.sizeLine])) rfl)))) (by simp))) ⟨rfl,none,none,rfl,rfl⟩) ?_ ?_
  · rintro pre z suf ρ U hpre ⟨x5,x6,rfl,rfl⟩
    have hz:z∈[(p,q),(q,p),(p,p),(rI m,q)]:=by rw [hpre];simp
    have hz2:PlOk m z.1∧PlOk m z.2:=by
      simp only [List.mem_cons,List.not_mem_nil,or_false] at hz
      rcases hz with rfl | rfl | rfl | rfl
      · exact ⟨hp,hq⟩
      · exact ⟨hq,hp⟩
      · exact ⟨hp,hp⟩
      · exact ⟨hall,hq⟩
    refine Ok.of (a:=[some (.ref n),some (arrD m ws),some (.int m),some (tupI p),some (tupI q),some (tupI z.1),some (tupI z.2),none,none,none,none]) rfl ?_
    simp only [dropS,bodyF,c_22]
    exact o_no (Ok.of (t_of (zf (qh rfl (qbI (d:=d+2) h hz2.1 hz2.2)) (qh rfl (qaq (d:=d+8) h)) qh9)) ⟨rfl,o_no (Ok.of (t_of (zf (qh rfl (qfa (d:=d+1) h hz2.1 hz2.2)) (qh rfl (qde (d:=d+7) h hz2.1 hz2.2)) qjk)) ⟨rfl,qco ⟨_,_,rfl,rfl⟩⟩)⟩)
  rintro ρ U ⟨x5,x6,rfl,rfl⟩
  rw [show dropS 3 c_22.body=.cons (.forS (.var 7) (.rng (.cons (.cst (.int 2)) .nil)) (bodyF (dropS 3 c_22.body))) (dropS 4 c_22.body) from rfl]
  refine qa2 (g:=.int) (fun pre ρ U=>∃ u x7 x8 x9 x10,0≤u∧U=pk S n u∧ρ=[some (.ref n),some (arrD m ws),some (.int m),some (tupI p),some (tupI q),x5,x6,x7,x8,x9,x10]) (rI 2)
    (Ok.of (i_rng (n:=2) rfl (by decide)) ⟨rfl,u2,none,none,none,none,hu2,rfl,rfl⟩) ?_ ?_
  · rintro pre k suf ρ U hpre ⟨u,x7,x8,x9,x10,hu,rfl,rfl⟩
    have hk:k=0∨k=1:=by
      have:k∈rI 2:=by rw [hpre];simp
      have:=zT.mp this
      omega
    refine Ok.of (a:=[some (.ref n),some (arrD m ws),some (.int m),some (tupI p),some (tupI q),x5,x6,some (.int k),x8,x9,x10]) rfl ?_
    rw [show bodyF (dropS 3 c_22.body)=.cons (.forS (.var 8) (.rng (.cons (.cst (.int 3)) .nil)) (bodyF (bodyF (dropS 3 c_22.body)))) .nil from rfl]
    refine qa2 (g:=.int) (fun pre ρ U=>∃ u x8 x9 x10,0≤u∧U=pk S n u∧ρ=[some (.ref n),some (arrD m ws),some (.int m),some (tupI p),some (tupI q),x5,x6,some (.int k),x8,x9,x10]) (rI 3)
      (Ok.of (i_rng (n:=3) rfl (by decide)) ⟨rfl,u,x8,x9,x10,hu,rfl,rfl⟩) ?_ ?_
    · rintro pre2 j suf2 ρ U hpre2 ⟨u,x8,x9,x10,hu,rfl,rfl⟩
      refine Ok.of (a:=[some (.ref n),some (arrD m ws),some (.int m),some (tupI p),some (tupI q),x5,x6,some (.int k),some (.int j),x9,x10]) rfl ?_
      obtain ⟨u3,y9,y10,hu3,e⟩:=qgk (d:=d) (n:=n) (m:=m) (ws:=ws) (p:=p) (q:=q) (k:=k) (u:=u) (x5:=x5) (x6:=x6) (x8:=some (.int j)) (x9:=x9) (x10:=x10) (S:=S) hn hu h hp hq hk hm
      exact Ok.of e ⟨u3,_,_,_,hu3,rfl,rfl⟩
    · rintro ρ U ⟨u,x8,x9,x10,hu,rfl,rfl⟩
      exact qco ⟨u,_,_,_,_,hu,rfl,rfl⟩
  rintro ρ U ⟨u,x7,x8,x9,x10,hu,rfl,rfl⟩
  simp only [dropS,c_22]
  exact qeU (Ok.of (zf (qh rfl (qbI (d:=d+2) h hp hq)) (qh rfl (qaq (d:=d+8) h)) qia) ⟨by rw [qE];exact Nat.le_refl _,rfl,u,rfl,by rw [← qE S n u,List.take_length],hu⟩)
theorem turn {d:Nat} {ns:List Int} (h63:ns.length≤63) {k:Int} (hk:0≤k) (hk2:k<50) {S:Sr}:Ok (exs (G (d+10)) NW (bodyF qaZ.body) [some (.lst (ns.map .int)),some (.int k)] S) fun f _=>f=.nx [some (.lst (ns.map .int)),some (.int k)]:=by
  obtain ⟨v1,hv1,ep1⟩:=qeY (d:=d+8) h63 (k:=k+1) (S:=S) (by omega) (by omega)
  obtain ⟨v2,hv2,ep2⟩:=qeY (d:=d+8) h63 (k:=k) (S:=S++[.lst [.int v1]]) hk (by omega)
  have hself:pk ((S++[.lst [.int v1]])++[.lst [.int v2]]) (S++[SO.lst [.int v1]]).length v2=(S++[.lst [.int v1]])++[.lst [.int v2]]:=qck (by simp)
  obtain ⟨y,S',ea,m0,ws,u,har,rfl,hu,rfl⟩:=(qe1 (d:=d+8) (n:=(S++[SO.lst [.int v1]]).length) (v:=v2) (S:=(S++[.lst [.int v1]])++[.lst [.int v2]]) (by simp) hv2).ex
  rw [hself] at ea
  obtain ⟨m,rfl⟩:∃ m:Nat,m0=m:=⟨m0.toNat,by have:=har.m1;omega⟩
  obtain ⟨T,hT⟩:∃ T,T=pk ((S++[SO.lst [.int v1]])++[.lst [.int v2]]) (S++[SO.lst [.int v1]]).length u:=⟨_,rfl⟩
  rw [← hT] at ea
  have hTl:S.length<T.length:=by rw [hT,qE];simp
  have hTs:pk T S.length v1=T:=qck (by
    rw [hT]
    unfold pk
    rw [List.getElem?_set_ne (by simp)]
    simp)
  obtain ⟨u3,hu3,er⟩:=qgl (d:=d) (n:=S.length) (m:=m) (v:=v1) (ws:=ws) (S:=T) hTl hv1 har
  rw [hTs] at er
  simp only [bodyF,qaZ]
  exact o_no (Ok.of (qfb (qh (qd (qh (qd rfl (qd (qp rfl rfl badd) rfl)) ep1) (qd (qh (qd (qh rfl ep2) rfl) ea) rfl)) er)) ⟨rfl,qco rfl⟩)
theorem qid {d:Nat} {ns:List Int} (h63:ns.length≤63):G (d+11) 23 [.lst (ns.map .int)] []=.ok (.bl true) []:=by
  have:Ok (G (d+11) 23 [.lst (ns.map .int)] []) fun r S=>r=.bl true∧S=[]:=by
    rw [G_at (c:=qaZ) rfl]
    refine qan rfl rfl ?_
    obtain ⟨n,hn,ei⟩:=qjg (F:=G (d+10)) (ρ:=[some (.lst (ns.map .int)),none]) (S:=[]) (ns:=ns) (c:=12) rfl (by decide) (by decide)
    refine qa2 (g:=fun k:Nat=>D.int (0+2*k)) (fun pre ρ _=>∃ x1,ρ=[some (.lst (ns.map .int)),x1]) (List.range n) (Ok.of ei ⟨rfl,_,rfl⟩) ?_ ?_
    · rintro pre q suf ρ T hpre ⟨x1,rfl⟩
      have hq:q∈List.range n:=by rw [hpre];simp
      have hq':=List.mem_range.mp hq
      refine Ok.of (a:=[some (.lst (ns.map .int)),some (.int (0+2*q))]) rfl ?_
      refine (turn (d:=d) h63 (k:=0+2*(q:Int)) (by omega) (by omega)).mono ?_
      rintro f S1 rfl
      exact ⟨_,rfl⟩
    · rintro ρ T ⟨x1,rfl⟩
      exact qeU (Ok.of rfl ⟨Nat.zero_le _,rfl,rfl,by simp⟩)
  obtain ⟨a,S,e,rfl,rfl⟩:=this.ex
  exact e
theorem pure_law (ns:List Int) (h:ns.length≤63):∃ S',R.run prg NW 11 23 [.lst (ns.map .int)] []=.ok (.bl true) S':=⟨[],by rw [← qeV];exact qid (d:=0) h⟩
end RP
section
def PySem.W.Fast.tw11292720675214317882:Nat:=0
noncomputable def PySem.W.Fast.tw11726393241937670107:Nat:=0
noncomputable def PySem.W.Fast.tw15014263932632085284:Nat:=0
noncomputable def PySem.W.Fast.tw10915938002584951695:Nat:=0
noncomputable def PySem.W.Fast.tw14177403045161690399:Nat:=0
noncomputable def PySem.W.Fast.tw13303854513922520003:Nat:=0
noncomputable def PySem.W.Fast.tw7330808121791360809:Nat:=0
noncomputable def PySem.W.Fast.tw2145853467046621172:Nat:=0
noncomputable def PySem.W.Fast.tw7265321344605073155:Nat:=0
noncomputable def PySem.W.Fast.tw9751904979557916750:Nat:=0
noncomputable def PySem.W.Fast.tw10519418584885387544:Nat:=0
noncomputable def PySem.W.Fast.tw4150416176326821703:Nat:=0
noncomputable def PySem.W.Fast.tw10836700128152934560:Nat:=0
noncomputable def PySem.W.Fast.tw8430988155894628769:Nat:=0
noncomputable def PySem.W.Fast.tw2863790424158032020:Nat:=0
noncomputable def PySem.W.Fast.tw2516117983843582365:Nat:=0
noncomputable def PySem.W.Fast.tw18369384102583276474:Nat:=0
noncomputable def PySem.W.Fast.tw1390928314858137920:Nat:=0
noncomputable def PySem.W.Fast.tw6037438292080668418:Nat:=0
noncomputable def PySem.W.Fast.tw2082317074469206059:Nat:=0
noncomputable def PySem.W.Fast.tw9140911966694193349:Nat:=0
noncomputable def PySem.W.Fast.tw7574104215443046042:Nat:=0
noncomputable def PySem.W.Fast.tw6500668962275642895:Nat:=0
noncomputable def PySem.W.Fast.tw15827118705377365947:Nat:=0
noncomputable def PySem.W.Fast.tw4311833491692134849:Nat:=0
noncomputable def PySem.W.Fast.tw5127092313964079466:Nat:=0
noncomputable def PySem.W.Fast.tw15317965035548806280:Nat:=0
noncomputable def PySem.W.Fast.tw5289396499427177385:Nat:=0
noncomputable def PySem.W.Fast.tw13140616876054744675:Nat:=0
noncomputable def PySem.W.Fast.tw3701420348127100963:Nat:=0
noncomputable def PySem.W.Fast.tw15136650342283936975:Nat:=0
noncomputable def PySem.W.Fast.tw2267977096266305077:Nat:=0
noncomputable def PySem.W.Fast.tw8617396619350424803:Nat:=0
noncomputable def PySem.W.Fast.tw6775419970716807468:Nat:=0
noncomputable def PySem.W.Fast.tw4259803252807924925:Nat:=0
noncomputable def PySem.W.Fast.tw5650745035618695586:Nat:=0
noncomputable def PySem.W.Fast.tw6805243318912219196:Nat:=0
noncomputable def PySem.W.Fast.tw15379552340975450248:Nat:=0
noncomputable def PySem.W.Fast.tw5750111495981880004:Nat:=0
noncomputable def PySem.W.Fast.tw272186155987995070:Nat:=0
noncomputable def PySem.W.Fast.tw13517404539402106789:Nat:=0
noncomputable def PySem.W.Fast.tw1181622555305262615:Nat:=0
noncomputable def PySem.W.Fast.tw9123390314046278793:Nat:=0
noncomputable def PySem.W.Fast.tw16700423607764157906:Nat:=0
noncomputable def PySem.W.Fast.tw12258181212068225274:Nat:=0
noncomputable def PySem.W.Fast.tw17445522361357804324:Nat:=0
noncomputable def PySem.W.Fast.tw555978281554878419:Nat:=0
noncomputable def PySem.W.Fast.tw4235347329590636845:Nat:=0
noncomputable def PySem.W.Fast.tw1239224061643073752:Nat:=0
noncomputable def PySem.W.Fast.tw17462471980513689607:Nat:=0
noncomputable def PySem.W.Fast.tw15522270183288381983:Nat:=0
noncomputable def PySem.W.Fast.tw7344051146805951529:Nat:=0
noncomputable def PySem.W.Fast.tw14475586987024726223:Nat:=0
noncomputable def PySem.W.Fast.tw2190043769646077190:Nat:=0
noncomputable def PySem.W.Fast.tw15067369401932542121:Nat:=0
noncomputable def PySem.W.Fast.tw14118294255332488151:Nat:=0
noncomputable def PySem.W.Fast.tw11973284321208135162:Nat:=0
noncomputable def PySem.W.Fast.tw9126648721134134340:Nat:=0
noncomputable def PySem.W.Fast.tw9430732754563667234:Nat:=0
noncomputable def PySem.W.Fast.tw2218368899435497833:Nat:=0
noncomputable def PySem.W.Fast.tw169415834727401271:Nat:=0
noncomputable def PySem.W.Fast.tw3977232342707858110:Nat:=0
noncomputable def PySem.W.Fast.tw6454677432471065579:Nat:=0
noncomputable def PySem.W.Fast.tw181480425113420303:Nat:=0
noncomputable def PySem.W.Fast.tw4122779804947600070:Nat:=0
noncomputable def PySem.W.Fast.tw9912812456765071228:Nat:=0
noncomputable def PySem.W.Fast.tw14561274425964658921:Nat:=0
noncomputable def PySem.W.Fast.tw17803407796252347034:Nat:=0
noncomputable def PySem.W.Fast.tw4587979236920360424:PySem.Program:=PySem.Challenge.pw_weblayers_k56_flows_and_square_shares
theorem PySem.W.Fast.te4587979236920360424:PySem.Challenge.pw_weblayers_k56_flows_and_square_shares=PySem.W.Fast.tw4587979236920360424:=rfl
namespace RP
open PySem PySem.W PyProof.Rows R
noncomputable abbrev KOf2 {K:PySem.W.Frag} {h:Heap} (_:K.In h):PySem.W.Frag:=K
end RP
open PySem PySem.W PyProof.Rows R
set_option maxRecDepth 100000 in
set_option maxHeartbeats 0 in
theorem PySem.Challenge.cw_weblayers_k56_flows_and_square_shares_holds : PySem.Challenge.rw_weblayers_k56_flows_and_square_shares.Holds := by
  w_on;o_law;k_head;(case hw=>w_witness2)
  k_fill
  refine R.qhL (l:=PySem.Challenge.rw_weblayers_k56_flows_and_square_shares) (n:=63) (k:=33) (x:="_law_script") (g:=R.run RP.prg RP.NW 11 23) rfl (by decide) rfl ⟨rfl,by decide,by decide⟩ (fun w h Y=>PySem.W.kIn_of Y) ?zp ?zc ?zF RP.pure_law
  case zp=>intro P;rfl
  case zc=>intro P;rfl
  case zF =>
    intro w mg fa h KX G hmg
    have p:RP.Pre (RP.KOf2 KX) mg:=by
      dsimp only [RP.KOf2]
      refine ⟨?gb,?c_MOST_ARROW_PLACES,?c_MOST_WAYS,?c_MOST_WEIGHT,?p_x_NoArrows,?p_x_NoCall,?p_x_NoKept,?p_x_NoLaying,?p_x_NoMeasure,?p_x_NoNumber,?p_x_NoPart,?p_x_NoRoad,?p_x_NoSize,?p_x_NoText,?p_x_NoThread,?p_x_NoWeb,?p_x_WebError,?p_x_ValueError,?p_er_NoArrows,?p_er_NoPart,?p_er_WebError,?p_ei_NoArrows,?p_ek_NoArrows,?p_ka_NoArrows_NoCall_NoKept_NoLaying_NoMeasure_NoNumber_NoRoad,?p_ka_NoArrows_NoSize_NoText_NoThread_NoWeb,?p_ki_NoArrows_NoArrows,?p_ki_NoArrows_NoPart,?p_ki_NoArrows_ValueError,?p_ei_NoPart,?p_ek_NoPart,?p_ka_NoPart_NoCall_NoKept_NoLaying_NoMeasure_NoNumber_NoRoad,?p_ka_NoPart_NoSize_NoText_NoThread_NoWeb,?p_ki_NoPart_NoArrows,?p_ki_NoPart_NoPart,?p_ki_NoPart_ValueError,?u_0,?u_1,?u_2,?u_3,?u_4,?u_5,?u_6,?u_7,?u_8,?u_9,?u_10,?u_11,?u_12,?u_13,?u_14,?u_15,?u_16,?u_17,?u_18,?u_19,?u_20,?u_21,?u_22,?u_23⟩
      case gb =>
        refine ⟨mg_none_of KX G ?x0,mg_none_of KX G ?x1,mg_none_of KX G ?x2,mg_none_of KX G ?x3,mg_none_of KX G ?x4,mg_none_of KX G ?x5,mg_none_of KX G ?x6,mg_none_of KX G ?x7,mg_none_of KX G ?x8,mg_none_of KX G ?x9,mg_none_of KX G ?x10,mg_none_of KX G ?x11,mg_none_of KX G ?x12,mg_none_of KX G ?x13,mg_none_of KX G ?x14,mg_none_of KX G ?x15,mg_none_of KX G ?x16,mg_none_of KX G ?x17,mg_none_of KX G ?x18⟩
        (case x0=>k_is);(case x1=>k_is);(case x2=>k_is);(case x3=>k_is);(case x4=>k_is);(case x5=>k_is);(case x6=>k_is);(case x7=>k_is);(case x8=>k_is);(case x9=>k_is);(case x10=>k_is);(case x11=>k_is);(case x12=>k_is);(case x13=>k_is);(case x14=>k_is);(case x15=>k_is);(case x16=>k_is);(case x17=>k_is);(case x18=>k_is)
      case c_MOST_ARROW_PLACES=>refine' qbv KX G ?a ?b;(case a=>k_is);(case b=>exact rfl)
      case c_MOST_WAYS=>refine' qbv KX G ?a ?b;(case a=>k_is);(case b=>exact rfl)
      case c_MOST_WEIGHT=>refine' qbv KX G ?a ?b;(case a=>k_is);(case b=>exact rfl)
      case p_x_NoArrows=>refine' R.qW KX G ?a ?b;(case a=>k_is);(case b=>exact rfl)
      case p_x_NoCall=>refine' R.qW KX G ?a ?b;(case a=>k_is);(case b=>exact rfl)
      case p_x_NoKept=>refine' R.qW KX G ?a ?b;(case a=>k_is);(case b=>exact rfl)
      case p_x_NoLaying=>refine' R.qW KX G ?a ?b;(case a=>k_is);(case b=>exact rfl)
      case p_x_NoMeasure=>refine' R.qW KX G ?a ?b;(case a=>k_is);(case b=>exact rfl)
      case p_x_NoNumber=>refine' R.qW KX G ?a ?b;(case a=>k_is);(case b=>exact rfl)
      case p_x_NoPart=>refine' R.qW KX G ?a ?b;(case a=>k_is);(case b=>exact rfl)
      case p_x_NoRoad=>refine' R.qW KX G ?a ?b;(case a=>k_is);(case b=>exact rfl)
      case p_x_NoSize=>refine' R.qW KX G ?a ?b;(case a=>k_is);(case b=>exact rfl)
      case p_x_NoText=>refine' R.qW KX G ?a ?b;(case a=>k_is);(case b=>exact rfl)
      case p_x_NoThread=>refine' R.qW KX G ?a ?b;(case a=>k_is);(case b=>exact rfl)
      case p_x_NoWeb=>refine' R.qW KX G ?a ?b;(case a=>k_is);(case b=>exact rfl)
      case p_x_WebError=>refine' R.qW KX G ?a ?b;(case a=>k_is);(case b=>exact rfl)
      case p_x_ValueError=>refine' mg_none_of KX G ?a;(case a=>k_is)
      case p_er_NoArrows=>rfl
      case p_er_NoPart=>rfl
      case p_er_WebError=>rfl
      case p_ei_NoArrows=>k_exc
      case p_ek_NoArrows=>refine' ⟨?a,?b,?c,?d,?e,?f,?g,?h⟩;(case a=>k_is);(case b=>k_is);(case c=>k_is);(case d=>k_is);(case e=>k_is);(case f=>k_is);(case g=>k_is);(case h=>rfl)
      case p_ka_NoArrows_NoCall_NoKept_NoLaying_NoMeasure_NoNumber_NoRoad=>rfl
      case p_ka_NoArrows_NoSize_NoText_NoThread_NoWeb=>rfl
      case p_ki_NoArrows_NoArrows=>rfl
      case p_ki_NoArrows_NoPart=>rfl
      case p_ki_NoArrows_ValueError=>rfl
      case p_ei_NoPart=>k_exc
      case p_ek_NoPart=>refine' ⟨?a,?b,?c,?d,?e,?f,?g,?h⟩;(case a=>k_is);(case b=>k_is);(case c=>k_is);(case d=>k_is);(case e=>k_is);(case f=>k_is);(case g=>k_is);(case h=>rfl)
      case p_ka_NoPart_NoCall_NoKept_NoLaying_NoMeasure_NoNumber_NoRoad=>rfl
      case p_ka_NoPart_NoSize_NoText_NoThread_NoWeb=>rfl
      case p_ki_NoPart_NoArrows=>rfl
      case p_ki_NoPart_NoPart=>rfl
      case p_ki_NoPart_ValueError=>rfl
      case u_0 =>
        refine' qz KX G (ps:=["thing"]) ?a ?l ?c ?d ?h ?t ?k ?b
        (case a=>k_is);(case l=>k_is);(case c=>k_is);(case d=>k_is);(case h=>rfl);(case t=>rfl);(case k=>k_is)
        (case b=>intro _ _ _ _ _ _ _ q;obtain ⟨_,rfl⟩:=len1 q;rfl)
      case u_1 =>
        refine' qz KX G (ps:=["thing","least","most"]) ?a ?l ?c ?d ?h ?t ?k ?b
        (case a=>k_is);(case l=>k_is);(case c=>k_is);(case d=>k_is);(case h=>rfl);(case t=>rfl);(case k=>k_is)
        (case b=>intro _ _ _ _ _ _ _ q;obtain ⟨_,_,_,rfl⟩:=len3 q;rfl)
      case u_2 =>
        refine' qz KX G (ps:=["one","other"]) ?a ?l ?c ?d ?h ?t ?k ?b
        (case a=>k_is);(case l=>k_is);(case c=>k_is);(case d=>k_is);(case h=>rfl);(case t=>rfl);(case k=>k_is)
        (case b=>intro _ _ _ _ _ _ _ q;obtain ⟨_,_,rfl⟩:=len2 q;rfl)
      case u_3 =>
        refine' qz KX G (ps:=["top","bottom"]) ?a ?l ?c ?d ?h ?t ?k ?b
        (case a=>k_is);(case l=>k_is);(case c=>k_is);(case d=>k_is);(case h=>rfl);(case t=>rfl);(case k=>k_is)
        (case b=>intro _ _ _ _ _ _ _ q;obtain ⟨_,_,rfl⟩:=len2 q;rfl)
      case u_4 =>
        refine' qz KX G (ps:=["thing","many"]) ?a ?l ?c ?d ?h ?t ?k ?b
        (case a=>k_is);(case l=>k_is);(case c=>k_is);(case d=>k_is);(case h=>rfl);(case t=>rfl);(case k=>k_is)
        (case b=>intro _ _ _ _ _ _ _ q;obtain ⟨_,_,rfl⟩:=len2 q;rfl)
      case u_5 =>
        refine' qz KX G (ps:=["things"]) ?a ?l ?c ?d ?h ?t ?k ?b
        (case a=>k_is);(case l=>k_is);(case c=>k_is);(case d=>k_is);(case h=>rfl);(case t=>rfl);(case k=>k_is)
        (case b=>intro _ _ _ _ _ _ _ q;obtain ⟨_,rfl⟩:=len1 q;rfl)
      case u_6 =>
        refine' qz KX G (ps:=["thing"]) ?a ?l ?c ?d ?h ?t ?k ?b
        (case a=>k_is);(case l=>k_is);(case c=>k_is);(case d=>k_is);(case h=>rfl);(case t=>rfl);(case k=>k_is)
        (case b=>intro _ _ _ _ _ _ _ q;obtain ⟨_,rfl⟩:=len1 q;rfl)
      case u_7 =>
        refine' qz KX G (ps:=["thing","many"]) ?a ?l ?c ?d ?h ?t ?k ?b
        (case a=>k_is);(case l=>k_is);(case c=>k_is);(case d=>k_is);(case h=>rfl);(case t=>rfl);(case k=>k_is)
        (case b=>intro _ _ _ _ _ _ _ q;obtain ⟨_,_,rfl⟩:=len2 q;rfl)
      case u_8 =>
        refine' qz KX G (ps:=["thing","many"]) ?a ?l ?c ?d ?h ?t ?k ?b
        (case a=>k_is);(case l=>k_is);(case c=>k_is);(case d=>k_is);(case h=>rfl);(case t=>rfl);(case k=>k_is)
        (case b=>intro _ _ _ _ _ _ _ q;obtain ⟨_,_,rfl⟩:=len2 q;rfl)
      case u_9 =>
        refine' qz KX G (ps:=["thing"]) ?a ?l ?c ?d ?h ?t ?k ?b
        (case a=>k_is);(case l=>k_is);(case c=>k_is);(case d=>k_is);(case h=>rfl);(case t=>rfl);(case k=>k_is)
        (case b=>intro _ _ _ _ _ _ _ q;obtain ⟨_,rfl⟩:=len1 q;rfl)
      case u_10 =>
        refine' qz KX G (ps:=["arrows","ones","others"]) ?a ?l ?c ?d ?h ?t ?k ?b
        (case a=>k_is);(case l=>k_is);(case c=>k_is);(case d=>k_is);(case h=>rfl);(case t=>rfl);(case k=>k_is)
        (case b=>intro _ _ _ _ _ _ _ q;obtain ⟨_,_,_,rfl⟩:=len3 q;rfl)
      case u_11 =>
        refine' qz KX G (ps:=["arrows","ones","others"]) ?a ?l ?c ?d ?h ?t ?k ?b
        (case a=>k_is);(case l=>k_is);(case c=>k_is);(case d=>k_is);(case h=>rfl);(case t=>rfl);(case k=>k_is)
        (case b=>intro _ _ _ _ _ _ _ q;obtain ⟨_,_,_,rfl⟩:=len3 q;rfl)
      case u_12 =>
        refine' qz KX G (ps:=["_law_cell"]) ?a ?l ?c ?d ?h ?t ?k ?b
        (case a=>k_is);(case l=>k_is);(case c=>k_is);(case d=>k_is);(case h=>rfl);(case t=>rfl);(case k=>k_is)
        (case b=>intro _ _ _ _ _ _ _ q;obtain ⟨_,rfl⟩:=len1 q;rfl)
      case u_13 =>
        refine' qz KX G (ps:=["_law_script","_law_k"]) ?a ?l ?c ?d ?h ?t ?k ?b
        (case a=>k_is);(case l=>k_is);(case c=>k_is);(case d=>k_is);(case h=>rfl);(case t=>rfl);(case k=>k_is)
        (case b=>intro _ _ _ _ _ _ _ q;obtain ⟨_,_,rfl⟩:=len2 q;rfl)
      case u_14 =>
        refine' qz KX G (ps:=["_law_pack_here","_law_size"]) ?a ?l ?c ?d ?h ?t ?k ?b
        (case a=>k_is);(case l=>k_is);(case c=>k_is);(case d=>k_is);(case h=>rfl);(case t=>rfl);(case k=>k_is)
        (case b=>intro _ _ _ _ _ _ _ q;obtain ⟨_,_,rfl⟩:=len2 q;rfl)
      case u_15 =>
        refine' qz KX G (ps:=["_law_pack_here","_law_many"]) ?a ?l ?c ?d ?h ?t ?k ?b
        (case a=>k_is);(case l=>k_is);(case c=>k_is);(case d=>k_is);(case h=>rfl);(case t=>rfl);(case k=>k_is)
        (case b=>intro _ _ _ _ _ _ _ q;obtain ⟨_,_,rfl⟩:=len2 q;rfl)
      case u_16 =>
        refine' qz KX G (ps:=["_law_top","_law_bottom"]) ?a ?l ?c ?d ?h ?t ?k ?b
        (case a=>k_is);(case l=>k_is);(case c=>k_is);(case d=>k_is);(case h=>rfl);(case t=>rfl);(case k=>k_is)
        (case b=>intro _ _ _ _ _ _ _ q;obtain ⟨_,_,rfl⟩:=len2 q;rfl)
      case u_17 =>
        refine' qz KX G (ps:=["_law_pack_here","_law_most","_law_ways"]) ?a ?l ?c ?d ?h ?t ?k ?b
        (case a=>k_is);(case l=>k_is);(case c=>k_is);(case d=>k_is);(case h=>rfl);(case t=>rfl);(case k=>k_is)
        (case b=>intro _ _ _ _ _ _ _ q;obtain ⟨_,_,_,rfl⟩:=len3 q;rfl)
      case u_18 =>
        refine' qz KX G (ps:=["_law_arrows_here","_law_ones","_law_others"]) ?a ?l ?c ?d ?h ?t ?k ?b
        (case a=>k_is);(case l=>k_is);(case c=>k_is);(case d=>k_is);(case h=>rfl);(case t=>rfl);(case k=>k_is)
        (case b=>intro _ _ _ _ _ _ _ q;obtain ⟨_,_,_,rfl⟩:=len3 q;rfl)
      case u_19 =>
        refine' qz KX G (ps:=["_law_arrows_here","_law_ones","_law_others"]) ?a ?l ?c ?d ?h ?t ?k ?b
        (case a=>k_is);(case l=>k_is);(case c=>k_is);(case d=>k_is);(case h=>rfl);(case t=>rfl);(case k=>k_is)
        (case b=>intro _ _ _ _ _ _ _ q;obtain ⟨_,_,_,rfl⟩:=len3 q;rfl)
      case u_20 =>
        refine' qz KX G (ps:=["_law_ask","_law_arrows_here","_law_ones","_law_others"]) ?a ?l ?c ?d ?h ?t ?k ?b
        (case a=>k_is);(case l=>k_is);(case c=>k_is);(case d=>k_is);(case h=>rfl);(case t=>rfl);(case k=>k_is)
        (case b=>intro _ _ _ _ _ _ _ q;obtain ⟨_,_,_,_,rfl⟩:=len4 q;rfl)
      case u_21 =>
        refine' qz KX G (ps:=["_law_pack_here","_law_many","_law_part_here"]) ?a ?l ?c ?d ?h ?t ?k ?b
        (case a=>k_is);(case l=>k_is);(case c=>k_is);(case d=>k_is);(case h=>rfl);(case t=>rfl);(case k=>k_is)
        (case b=>intro _ _ _ _ _ _ _ q;obtain ⟨_,_,_,rfl⟩:=len3 q;rfl)
      case u_22 =>
        refine' qz KX G (ps:=["_law_pack_here","_law_arrows_here"]) ?a ?l ?c ?d ?h ?t ?k ?b
        (case a=>k_is);(case l=>k_is);(case c=>k_is);(case d=>k_is);(case h=>rfl);(case t=>rfl);(case k=>k_is)
        (case b=>intro _ _ _ _ _ _ _ q;obtain ⟨_,_,rfl⟩:=len2 q;rfl)
      case u_23 =>
        refine' qz KX G (ps:=["_law_script"]) ?a ?l ?c ?d ?h ?t ?k ?b
        (case a=>k_is);(case l=>k_is);(case c=>k_is);(case d=>k_is);(case h=>rfl);(case t=>rfl);(case k=>k_is)
        (case b=>intro _ _ _ _ _ _ _ q;obtain ⟨_,rfl⟩:=len1 q;rfl)
    obtain ⟨f,fd,c,t,hm,U,hb⟩:=p.u_23
    have e0:=hmg.symm.trans hm
    cases e0
    obtain ⟨oc,od,kV,doc,pm,an,ct,osl,rfl,lk,hcd⟩:=U.ex
    exact ⟨_,fun s u=>.of_eq rfl,fun base kb _=>RP.o_23 p kb (RP.qeJ p kb 10) U⟩
end
