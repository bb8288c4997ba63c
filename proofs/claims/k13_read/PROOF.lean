import PyProof.Rows.All
import Wide.All
import OpenK.AllK
import Wide.FinOn
import Lean
import PyProof.EqAt
import PyProof.EqKinds
import PyProof.TupleCall
import PySem.Challenge.RW_markrun_k13_read
set_option Elab.async false
set_option linter.all false
set_option maxRecDepth 100000
namespace L2
open PySem PySem.Spec PyProof.Rows
noncomputable abbrev Key:=Sum Int Str
noncomputable def keyIs:Key→Value→Bool
  | .inl k,v=>Value.isInt k v
  | .inr x,v=>Value.isStrOf x v
noncomputable def keyH (w:World):Key→Int
  | .inl k=>hashInt k
  | .inr x=>hashStr w x
theorem keyIs_shape:∀ {k:Key} {v:Value},keyIs k v=true→(∃ i t,k=Sum.inl i∧v=Value.int i t)∨(∃ x t,k=Sum.inr x∧v=Value.str x t)
  | .inl i,v,h=>by
    obtain ⟨t,e⟩:=Value.isInt_shape (k:=i) (v:=v) h
    exact .inl ⟨i,t,rfl,e⟩
  | .inr x,v,h=>by
    obtain ⟨t,e⟩:=Value.isStrOf_shape (x:=x) (v:=v) h
    exact .inr ⟨x,t,rfl,e⟩
theorem keyIs_int (i:Int) (t:Tok):keyIs (.inl i) (.int i t)=true:=by simp [keyIs,Value.isInt]
theorem keyIs_str (x:Str) (t:Tok):keyIs (.inr x) (.str x t)=true:=by simp [keyIs,Value.isStrOf]
theorem key_ll (a b:Int):decide ((Sum.inl a:Key)=Sum.inl b)=(a == b):=by
  by_cases e:a=b
  · subst e; simp
  · have h:¬ (Sum.inl a:Key)=Sum.inl b:=fun q=>e (Sum.inl.inj q)
    rw [decide_eq_false h]
    exact (beq_eq_false_iff_ne.mpr e).symm
theorem key_rr (a b:Str):decide ((Sum.inr a:Key)=Sum.inr b)=decide (a=b):=by
  by_cases e:a=b
  · subst e; simp
  · have h:¬ (Sum.inr a:Key)=Sum.inr b:=fun q=>e (Sum.inr.inj q)
    rw [decide_eq_false h,decide_eq_false e]
theorem key_lr (a:Int) (b:Str):decide ((Sum.inl a:Key)=Sum.inr b)=false:=decide_eq_false (fun q=>nomatch q)
theorem key_rl (a:Str) (b:Int):decide ((Sum.inr a:Key)=Sum.inl b)=false:=decide_eq_false (fun q=>nomatch q)
noncomputable def mixKind (prog:Program) (w:World):PySem.KeyKind prog w Key where
  is:=keyIs
  hash:=keyH w
  inj:=fun v a b ha hb=>by
    rcases keyIs_shape ha with ⟨i,t,rfl,rfl⟩ | ⟨x,t,rfl,rfl⟩
    · rcases keyIs_shape hb with ⟨j,u,rfl,e⟩ | ⟨y,u,rfl,e⟩
      · injection e with e1 _; rw [e1]
      · exact nomatch e
    · rcases keyIs_shape hb with ⟨j,u,rfl,e⟩ | ⟨y,u,rfl,e⟩
      · exact nomatch e
      · injection e with e1 _; rw [e1]
  byValue:=fun k v h=>by
    rcases keyIs_shape h with ⟨i,t,rfl,rfl⟩ | ⟨x,t,rfl,rfl⟩<;>rfl
  pyHash:=fun hv h=>by
    rcases keyIs_shape hv with ⟨i,t,rfl,rfl⟩ | ⟨x,t,rfl,rfl⟩
    · exact wpAny_pyHash_int h
    · exact wpAny_pyHash_str h
  eqBool:=fun hu hv h=>by
    rcases keyIs_shape hu with ⟨i,t,rfl,rfl⟩ | ⟨x,t,rfl,rfl⟩
    · rcases keyIs_shape hv with ⟨j,u,rfl,rfl⟩ | ⟨y,u,rfl,rfl⟩
      · rw [key_ll] at h; exact wpAny_eqBool_int h
      · rw [key_lr] at h; exact SeqAt.EqAt.int_str i t y u _ _ _ _ h
    · rcases keyIs_shape hv with ⟨j,u,rfl,rfl⟩ | ⟨y,u,rfl,rfl⟩
      · rw [key_rl] at h; exact SeqAt.EqAt.str_int x t j u _ _ _ _ h
      · rw [key_rr] at h; exact wpAny_eqBool_str h
  «strs»:=fun k x t v h=>by
    rcases keyIs_shape h with ⟨i,u,rfl,e⟩ | ⟨y,u,rfl,e⟩
    · exact nomatch e
    · injection e with e1 _
      subst e1
      cases v<;>rfl
theorem mixKind_int (prog:Program) (w:World) (i:Int) (t:Tok):(mixKind prog w).is (.inl i) (.int i t)=true:=keyIs_int i t
theorem mixKind_str (prog:Program) (w:World) (x:Str) (t:Tok):(mixKind prog w).is (.inr x) (.str x t)=true:=keyIs_str x t
end L2
namespace L2
open PySem PySem.Spec PyProof.Rows
inductive V where
  | non | bl (b:Bool) | int (i:Int) | str (x:Str) | byt (b:Array UInt8) | flt (b:UInt64) | ref (a:Addr) | ty (n:String)
  deriving DecidableEq
noncomputable def RelV:V→Value→Prop
  | .non,u=>u=Value.none
  | .bl b,u=>u=Value.bool b
  | .int i,u=>∃ t,u=Value.int i t
  | .str x,u=>∃ t,u=Value.str x t
  | .byt b,u=>∃ t,u=Value.bytes b t
  | .flt b,u=>∃ t,u=Value.float b t
  | .ref a,u=>u=Value.ref a
  | .ty n,u=>u=Value.type n
noncomputable abbrev Vals:List V→List Value→Prop:=Paired RelV
theorem Vals.length {xs:List V} {us:List Value} (r:Vals xs us):xs.length=us.length:=Paired.length r
theorem Vals.get:∀ {xs:List V} {us:List Value} {i:Nat} {x:V},Vals xs us→xs[i]?=some x→∃ u,us[i]?=some u∧RelV x u
  | _,_,_,_,.nil,e=>by simp at e
  | _,_,0,_,.cons r _,e=>by simp at e; subst e; exact ⟨_,rfl,r⟩
  | _,_,i+1,x,.cons _ t,e=>by
    obtain ⟨u,h1,h2⟩:=Vals.get (i:=i) (x:=x) t (by simpa using e)
    exact ⟨u,by simpa using h1,h2⟩
theorem Vals.append:∀ {xs ys:List V} {us ws:List Value},Vals xs us→Vals ys ws→Vals (xs++ys) (us++ws)
  | _,_,_,_,.nil,s=>s
  | _,_,_,_,.cons r t,s=>.cons r (Vals.append t s)
theorem Vals.take:∀ {xs:List V} {us:List Value} (n:Nat),Vals xs us→Vals (xs.take n) (us.take n)
  | _,_,0,_=>.nil
  | _,_,_+1,.nil=>.nil
  | _,_,n+1,.cons r t=>.cons r (Vals.take n t)
theorem Vals.drop:∀ {xs:List V} {us:List Value} (n:Nat),Vals xs us→Vals (xs.drop n) (us.drop n)
  | _,_,0,r=>r
  | _,_,_+1,.nil=>.nil
  | _,_,n+1,.cons _ t=>Vals.drop n t
noncomputable def RelO:Option V→Option Value→Prop
  | some v,some u=>RelV v u
  | none,none=>True
  | _,_=>False
noncomputable def KV {κ:Type}:List (κ×V)→List (κ×Value)→Prop:=Paired fun (p:κ×V) (q:κ×Value)=>p.1=q.1∧RelV p.2 q.2
noncomputable def kV:Key→V
  | .inl i=>.int i
  | .inr x=>.str x
inductive HO where
    | lst (xs:List V)
    | tup (xs:List V)
    | dK (kvs:List (Key×V)) | dT (kvs:List (List Key×V))
    | set (S:Int→Bool) (n:Nat)
    | ins (C dx:Addr) (fs:List (Str×V))
    | own (x:Addr)
    | xd (fs:List (Str×V))
    | met (f x:Addr)
    | rng (lo hi:Int)
    | frz (o:Obj) (u:HO)
    | tbl (ps:Array Value)
    | ext (φ:Heap→Prop)
noncomputable abbrev Hp:=Addr→Option HO
noncomputable def upd (H:Hp) (a:Addr) (o:HO):Hp:=fun b=>if b=a then some o else H b
theorem upd_same {H:Hp} {a:Addr} {o:HO}:upd H a o a=some o:=by unfold upd; rw [if_pos rfl]
theorem upd_ne {H:Hp} {a b:Addr} {o:HO} (h:b≠a):upd H a o b=H b:=by unfold upd; rw [if_neg h]
theorem ne_of {H:Hp} {a b:Addr} {o u:HO} (h:H a=some o) (h':H b=some u) (d:o≠u):a≠b:=by
  intro e; subst e; rw [h] at h'; exact d (Option.some.inj h')
theorem ne_of_none {H:Hp} {a b:Addr} {o:HO} (h:H a=some o) (h':H b=none):a≠b:=by
  intro e; subst e; rw [h] at h'; cases h'
section
variable (P:Program) (w:World)
noncomputable def ObjOk (H:Hp) (h:Heap) (a:Addr):HO→Prop
  | .lst xs=>xs.length≤sizeLine∧∃ (its:List Value) (n:Nat),Vals xs its∧h.get? a=some { cls:=.type "list",data:=.seq its.toArray n }
  | .tup xs=>xs.length≤sizeLine∧∃ its:List Value,Vals xs its∧IsTup h a its.toArray
  | .dK kvs=>kvs.length≤sizeLine∧(a == sysModules)=false∧∃ vs,KV kvs vs∧h.DictOf (mixKind P w) a vs
  | .dT kvs=>kvs.length≤sizeLine∧(a == sysModules)=false∧∃ xs:List (List Key×Addr×Value),
      Paired (fun (p:List Key×V) (q:List Key×Addr×Value)=>p.1=q.1∧H q.2.1=some (.tup (p.1.map kV))∧RelV p.2 q.2.2) kvs xs∧
      ∃ o es ep,h.get? a=some o∧o.ExactDict∧o.data=.dict es ep∧es.toList=xs.map (entryOfKey (tupleKind (mixKind P w)))∧(xs.map (·.1)).Nodup
  | .set S n=>h.SetOf (intKind P w) a S n
  | .ins C dx fs=>H dx=some (.own a)∧fs.length≤1000∧dx≠a∧h.get? a=some (PySem.W.instObj C dx)∧
      ∃ mA,h.Ns1 dx mA∧(∀ f,RelO (fs.lookup f) (mA f))∧PySem.Within mA (fs.map (·.1))
  | .own _=>∃ o,h.get? a=some o
  | .xd fs=>∃ mA,h.Ns1 a mA∧∀ f,RelO (fs.lookup f) (mA f)
  | .rng lo hi=>∃ t u v,h.get? a=some { cls:=.type "range",data:=.fields #[.int lo t,.int hi u,.int 1 v] }
  | .frz o u=>h.get? a=some o∧ObjOk H h a u
  | .tbl ps=>h.get? a=some { cls:=.none,data:=.fields ps }
  | .met f x=>h.get? a=some (PySem.W.methodObj (.ref f) (.ref x))
  | .ext φ=>φ h∧(∃ o,h.get? a=some o)∧∀ h1 h2:Heap,φ h1→(∀ o,h1.get? a=some o→h2.get? a=some o)→φ h2
noncomputable def HOk (H:Hp) (h:Heap):Prop:=∀ a o,H a=some o→ObjOk P w H h a o
end
section
variable {P:Program} {w:World} {H H':Hp} {h h':Heap} {a:Addr} {o:HO}
theorem ObjOk.lt (x:ObjOk P w H h a o):a<h.objs.size:=by
  cases o with
  | lst xs=>obtain ⟨_,_,_,_,e⟩:=x; exact Heap.lt_size e
  | tup xs=>obtain ⟨_,_,_,p⟩:=x; exact p.lt
  | dK kvs=>obtain ⟨_,_,_,_,o,_,_,e,_⟩:=x; exact Heap.lt_size e
  | dT kvs=>obtain ⟨_,_,_,_,o,_,_,e,_⟩:=x; exact Heap.lt_size e
  | set S n=>obtain ⟨o,_,_,_,e,_⟩:=x; exact Heap.lt_size e
  | ins C dx fs=>obtain ⟨_,_,_,e,_⟩:=x; exact Heap.lt_size e
  | own y=>obtain ⟨_,e⟩:=x; exact Heap.lt_size e
  | xd fs=>obtain ⟨_,⟨_,_,_,e,_⟩,_⟩:=x; exact Heap.lt_size e
  | rng lo hi=>obtain ⟨_,_,_,e⟩:=x; exact Heap.lt_size e
  | frz ob u=>obtain ⟨e,_⟩:=x; exact Heap.lt_size e
  | tbl ps=>exact Heap.lt_size (show h.get? a=some _ from x)
  | met f y=>exact Heap.lt_size (show h.get? a=some _ from x)
  | ext φ=>obtain ⟨_,⟨_,e⟩,_⟩:=x; exact Heap.lt_size e
theorem Paired.mapP {α β:Type} {F G:α→β→Prop}:∀ {l₁:List α} {l₂:List β},Paired F l₁ l₂→(∀ a b,F a b→G a b)→Paired G l₁ l₂
  | _,_,.nil,_=>.nil
  | _,_,.cons r t,f=>.cons (f _ _ r) (Paired.mapP t f)
theorem ObjOk.stay (x:ObjOk P w H h a o) (k:∀ b u,(b=a∨H b=some (.own a))→h.get? b=some u→h'.get? b=some u)
    (ho:∀ b,H b=some (.own a)→H' b=some (.own a)) (ht:∀ b xs,H b=some (.tup xs)→H' b=some (.tup xs)):ObjOk P w H' h' a o:=by
  induction o with
  | lst xs=>obtain ⟨z,its,n,r,e⟩:=x; exact ⟨z,its,n,r,k _ _ (.inl rfl) e⟩
  | tup xs=>obtain ⟨z,its,r,ob,e,c⟩:=x; exact ⟨z,its,r,ob,k _ _ (.inl rfl) e,c⟩
  | dK kvs=>obtain ⟨z,y,vs,r,ob,es,ep,e,c⟩:=x; exact ⟨z,y,vs,r,ob,es,ep,k _ _ (.inl rfl) e,c⟩
  | dT kvs=>
    obtain ⟨z,y,xs,r,ob,es,ep,e,c⟩:=x
    exact ⟨z,y,xs,Paired.mapP r fun p q z=>⟨z.1,ht _ _ z.2.1,z.2.2⟩,ob,es,ep,k _ _ (.inl rfl) e,c⟩
  | set S n=>obtain ⟨ob,es,ep,t,e,c⟩:=x; exact ⟨ob,es,ep,t,k _ _ (.inl rfl) e,c⟩
  | ins C dx fs=>
    obtain ⟨d,z,ne,e,mA,⟨od,es,ep,e2,c⟩,r⟩:=x
    exact ⟨ho _ d,z,ne,k _ _ (.inl rfl) e,mA,⟨od,es,ep,k _ _ (.inr d) e2,c⟩,r⟩
  | own y=>obtain ⟨ob,e⟩:=x; exact ⟨ob,k _ _ (.inl rfl) e⟩
  | xd fs=>obtain ⟨mA,⟨od,es,ep,e,c⟩,r⟩:=x; exact ⟨mA,⟨od,es,ep,k _ _ (.inl rfl) e,c⟩,r⟩
  | rng lo hi=>obtain ⟨t,u,v,e⟩:=x; exact ⟨t,u,v,k _ _ (.inl rfl) e⟩
  | frz ob u ih=>obtain ⟨e,q⟩:=x; exact ⟨k _ _ (.inl rfl) e,ih q⟩
  | tbl ps=>
    have e:h.get? a=some { cls:=.none,data:=.fields ps }:=x
    show h'.get? a=some { cls:=.none,data:=.fields ps }
    exact k a _ (.inl rfl) e
  | met f y=>
    have e:h.get? a=some (PySem.W.methodObj (.ref f) (.ref y)):=x
    show h'.get? a=some (PySem.W.methodObj (.ref f) (.ref y))
    exact k a _ (.inl rfl) e
  | ext φ=>obtain ⟨p,⟨o,e⟩,st⟩:=x; exact ⟨st _ _ p fun o q=>k _ _ (.inl rfl) q,⟨o,k _ _ (.inl rfl) e⟩,st⟩
theorem HOk.lt (x:HOk P w H h) (e:H a=some o):a<h.objs.size:=(x a o e).lt
theorem HOk.fresh (x:HOk P w H h) (e:h.objs.size≤a):H a=none:=by
  cases q:H a with
  | none=>rfl
  | some u=>exact absurd (Nat.lt_of_lt_of_le (x.lt q) e) (Nat.lt_irrefl _)
theorem HOk.kept (x:HOk P w H h) (k:∀ b u,h.get? b=some u→h'.get? b=some u):HOk P w H h':=fun a o e=>
  (x a o e).stay (fun b u _ q=>k b u q) (fun _ q=>q) fun _ _ q=>q
theorem HOk.laid (x:HOk P w H h) (k:∀ b u,h.get? b=some u→h'.get? b=some u) (hp:h.objs.size≤a) (new:ObjOk P w (upd H a o) h' a o):HOk P w (upd H a o) h':=fun b u e=>by
  have hn:=x.fresh hp
  by_cases hb:b=a
  · subst hb; rw [upd_same] at e; cases e; exact new
  · rw [upd_ne hb] at e
    exact (x b u e).stay (fun c v _ q=>k c v q) (fun c q=>by rw [upd_ne (ne_of_none q hn)]; exact q) fun c xs q=>by rw [upd_ne (ne_of_none q hn)]; exact q
end
noncomputable def Rd (H:Hp) (a:Addr) (u:HO):Prop:=H a=some u∨∃ o,H a=some (.frz o u)
theorem Rd.ok {P:Program} {w:World} {H:Hp} {h:Heap} {a:Addr} {u:HO} (r:Rd H a u) (x:HOk P w H h):ObjOk P w H h a u:=by
  rcases r with r | ⟨o,r⟩
  · exact x a u r
  · obtain ⟨_,q⟩:=x a _ r
    exact q
noncomputable def Mut:Option HO→Prop
  | some (.lst _)=>True
  | some (.dK _)=>True
  | some (.dT _)=>True
  | some (.set _ _)=>True
  | some (.ins _ _ _)=>True
  | some (.ext _)=>True
  | _=>False
section
variable {P:Program} {w:World} {H:Hp} {h h':Heap} {x e:Addr} {o':HO}
theorem HOk.write (ok:HOk P w H h) (mu:Mut (H x)) (he:e=x∨H e=some (.own x)) (k:∀ b u,b≠e→h.get? b=some u→h'.get? b=some u) (heo:∃ u,h'.get? e=some u)
    (new:ObjOk P w (upd H x o') h' x o'):HOk P w (upd H x o') h':=fun b u q=>by
  have nown:∀ c y,H c=some (.own y)→c≠x:=fun c y r z=>by subst z; rw [r] at mu; exact mu
  have ntup:∀ c xs,H c=some (.tup xs)→c≠x:=fun c xs r z=>by subst z; rw [r] at mu; exact mu
  by_cases hb:b=x
  · subst hb; rw [upd_same] at q; cases q; exact new
  · rw [upd_ne hb] at q
    by_cases hbe:b=e
    · have q':H b=some (.own x):=by
        rcases he with z | z
        · exact absurd (hbe.trans z) hb
        · rw [hbe]; exact z
      rw [q] at q'; cases q'
      obtain ⟨v,hv⟩:=heo
      exact ⟨v,by rw [hbe]; exact hv⟩
    · refine (ok b u q).stay (fun c v hc r=>k c v ?_ r) (fun c r=>by rw [upd_ne (nown c b r)]; exact r) fun c xs r=>by rw [upd_ne (ntup c xs r)]; exact r
      rcases hc with rfl | hc
      · exact hbe
      · rintro rfl
        rcases he with z | z
        · exact nown c b hc z
        · rw [hc] at z; cases z; exact hb rfl
end
structure Un (fs ex:List Addr) (H H':Hp) (h h':Heap):Prop where
  keep:∀ b o,h.get? b=some o→H b=none→b ∉ fs→b ∉ ex→h'.get? b=some o
  slot:∀ b o,h.get? b=some o→H b=none→b∈fs→b ∉ ex→∃ sl,h'.get? b=some { o with slots:=sl }
  free:∀ b o,h.get? b=some o→H b=none→b ∉ ex→H' b=none
  there:∀ b o,h.get? b=some o→b ∉ ex→∃ o',h'.get? b=some o'
  tups:∀ b xs,H b=some (.tup xs)→H' b=some (.tup xs)
  frzs:∀ b o u,H b=some (.frz o u)→H' b=some (.frz o u)
  tbls:∀ b ps,H b=some (.tbl ps)→∃ more,H' b=some (.tbl (ps++more))
section
variable {fs fs' ex ex':List Addr} {H H1 H2:Hp} {h h1 h2 h':Heap} {a x e:Addr} {o:HO}
theorem Un.any (u:Un fs ex H H1 h h1) {b:Addr} {ob:Obj} (q:h.get? b=some ob) (n:H b=none) (hx:b ∉ ex):∃ sl,h1.get? b=some { ob with slots:=sl }:=by
  by_cases hb:b∈fs
  · exact u.slot b ob q n hb hx
  · exact ⟨ob.slots,u.keep b ob q n hb hx⟩
theorem Un.kept (k:∀ b u,h.get? b=some u→h'.get? b=some u):Un fs ex H H h h':=
  ⟨fun b ob q _ _ _=>k b ob q,fun b ob q _ _ _=>⟨ob.slots,k b ob q⟩,fun _ _ _ n _=>n,fun b ob q _=>⟨ob,k b ob q⟩,fun _ _ q=>q,fun _ _ _ q=>q,fun _ ps q=>⟨#[],by rw [q]; simp⟩⟩
theorem Un.refl:Un fs ex H H h h:=Un.kept fun _ _ q=>q
theorem Un.laid (k:∀ b u,h.get? b=some u→h'.get? b=some u) (hp:h.objs.size≤a) (hn:H a=none):Un fs ex H (upd H a o) h h' where
  keep:=fun b u q _ _ _=>k b u q
  slot:=fun b u q _ _ _=>⟨u.slots,k b u q⟩
  free:=fun b u q n _=>by rw [upd_ne (Nat.ne_of_lt (Nat.lt_of_lt_of_le (Heap.lt_size q) hp))]; exact n
  there:=fun b u q _=>⟨u,k b u q⟩
  tups:=fun b xs q=>by rw [upd_ne (ne_of_none q hn)]; exact q
  frzs:=fun b u xs q=>by rw [upd_ne (ne_of_none q hn)]; exact q
  tbls:=fun b ps q=>⟨#[],by rw [upd_ne (ne_of_none q hn),q]; simp⟩
theorem Un.write (mu:Mut (H x)) (he:e=x∨H e=some (.own x)) (k:∀ b u,b≠e→h.get? b=some u→h'.get? b=some u) (heo:∃ u,h'.get? e=some u):Un fs ex H (upd H x o) h h':=by
  have hx:∀ b,H b=none→b≠x:=fun b n z=>by subst z; rw [n] at mu; exact mu
  have hb:∀ b,H b=none→b≠e:=fun b n z=>by
    subst z
    rcases he with r | r
    · exact hx b n r
    · rw [n] at r; cases r
  have hm:∀ b u,H b=some u→¬ Mut (some u)→b≠x:=fun b u q nm z=>by subst z; rw [q] at mu; exact nm mu
  refine ⟨fun b u q n _ _=>k b u (hb b n) q,fun b u q n _ _=>⟨u.slots,k b u (hb b n) q⟩,fun b u q n _=>by rw [upd_ne (hx b n)]; exact n,fun b u q _=>?_,
    fun b xs q=>by rw [upd_ne (hm b _ q fun z=>z)]; exact q,fun b u xs q=>by rw [upd_ne (hm b _ q fun z=>z)]; exact q,fun b ps q=>⟨#[],by rw [upd_ne (hm b _ q fun z=>z),q]; simp⟩⟩
  by_cases hbe:b=e
  · subst hbe; exact heo
  · exact ⟨u,k b u hbe q⟩
end
noncomputable def trk (h:Heap) (H:Hp):List Addr:=(List.range h.objs.size).filter fun a=>(H a).isSome
noncomputable def hidT (h:Heap) (H:Hp):Heap:=PySem.W.hideAll h (trk h H)
theorem hidT_size (h:Heap) (H:Hp):(hidT h H).objs.size=h.objs.size:=PySem.W.hideAll_size _ _
theorem hidT_get {h:Heap} {H:Hp} {b:Addr} {o:Obj} (e:h.get? b=some o) (n:H b=none):(hidT h H).get? b=some o:=
  PySem.W.hideAll_get _ e fun hm=>by
    have q:(H b).isSome=true:=(List.mem_filter.mp hm).2
    rw [n] at q; simp at q
theorem of_hidT {h:Heap} {H:Hp} {b:Addr} {o:Obj} (e:(hidT h H).get? b=some o):h.get? b=some o∧H b=none:=by
  have e':h.get? b=some o:=PySem.W.of_hideAll (trk h H) e
  refine ⟨e',?_⟩
  cases q:H b with
  | none=>rfl
  | some x=>
    have hm:b∈trk h H:=List.mem_filter.mpr ⟨List.mem_range.mpr (Heap.lt_size e'),by simp [q]⟩
    have z:(hidT h H).get? b=none:=PySem.W.hideAll_none (trk h H) hm
    rw [z] at e; cases e
noncomputable def allNews (g h:Heap) (L:Addr):List (Addr×Obj):=(List.range h.objs.size).filterMap fun a=>if a=L∨(g.get? a).isSome=true then none else (h.get? a).map fun o=>(a,o)
noncomputable def rest (g h:Heap) (L d:Addr):List (Addr×Obj):=(allNews g h L).filter fun p=>decide (p.1≠d)
end L2
namespace L2
open PySem PySem.Spec PyProof.Rows
structure Mod (K:PySem.W.Frag) (mg:Str→Option Value) (base:Heap):Prop where
  kin:K.In base
  glob:base.Ns mainGlobals mg
  blt:∃ mb,base.Ns builtinsNs mb∧∀ x:Str,x ≠ "__name__" → mb x=bootBuiltins x
  nolimit:base.NoLimit
structure Cx where
  prog:Program
  w:World
  K:PySem.W.Frag
  mg:Str→Option Value
  base:Heap
  A:Around
  N:List Str
  s₀:Shared
  H₀:Hp
  env:Env
  outer:List Env
  stack:List Env
  ex:List Addr
  fn:Str→Bool
  calm:Bool
  pn:List (Addr×Obj)
  xe:Value→Shared→Prop
noncomputable def frs (l:List Env):List Addr:=l.filterMap (·.frame)
noncomputable abbrev Cx.fs (X:Cx):List Addr:=frs X.outer
noncomputable def Vis (sc:Scope) (x:Str):Prop:=sc.names.lookup x=some .local∨sc.names.lookup x=some .cell∨sc.names.lookup x=some .free
noncomputable def Loc (sc:Scope) (x:Str):Prop:=sc.names.lookup x=some .local∨sc.names.lookup x=some .cell
noncomputable def Look (env:Env) (h:Heap) (m:Str→Option Value) (x:Str) (u:Value):Prop:=
  (env.kindOf x=some .local∧m x=some u)∨((env.kindOf x=some .cell∨env.kindOf x=some .free)∧∃ c,env.cells.lookup x=some c∧h.IsCell c (some u))
structure Cx.Ok (X:Cx):Prop where
  mod:Mod X.K X.mg X.base
  kind:X.env.scope.kind=.function
  glob:X.env.globals=mainGlobals
  blt:X.env.builtins=builtinsNs
  above:X.s₀.heap.objs.size≤X.env.locals
  inj:∀ x y c,X.env.cells.lookup x=some c→X.env.cells.lookup y=some c→x=y
  has:∀ x,(X.env.kindOf x=some .cell∨X.env.kindOf x=some .free)→∃ c,X.env.cells.lookup x=some c
  cab:∀ x c,X.fn x=true→X.env.cells.lookup x=some c→X.s₀.heap.objs.size≤c
  hd:X.calm=true→X.A.handled=none
  frames:X.A.frames=some X.stack
  stk:X.stack=X.outer∨(X.stack=X.env::X.outer∧X.env.frame=some X.env.locals)
  exf:∀ b∈X.ex,b≠X.env.locals∧∀ x c,X.env.cells.lookup x=some c→c≠b
  bs:∀ b o,X.base.get? b=some o→X.s₀.heap.get? b=some o∧X.H₀ b=none
  bsz:X.base.objs.size≤X.s₀.heap.objs.size
  noex:∀ b o,X.base.get? b=some o→b ∉ X.ex
  exfs:∀ b∈X.ex,b ∉ X.fs
  funs:X.s₀.heap.FunFrames X.base X.outer
  frf:∀ b∈X.fs,X.H₀ b=none
structure Inv (X:Cx) (pins:List (Addr×Obj)) (σ:List (Option V)) (H:Hp) (s:Shared):Prop where
  ok:X.Ok
  os:s.os=X.s₀.os
  bare:AllBare s.gens
  base:Un X.fs X.ex X.H₀ H X.s₀.heap s.heap
  loc:∃ m,s.heap.Ns X.env.locals m∧∀ (i:Nat) (x:Str) (v:V),X.N[i]?=some x→σ[i]?=some (some v)→Vis X.env.scope x→∃ u,RelV v u∧Look X.env s.heap m x u
  cell:∀ x c,X.env.cells.lookup x=some c→∃ v,s.heap.IsCell c v
  free:H X.env.locals=none
  freeC:∀ x c,X.env.cells.lookup x=some c→H c=none
  pin:∀ p∈X.pn++pins,s.heap.get? p.1=some p.2∧H p.1=none∧p.1≠X.env.locals∧p.1 ∉ X.fs∧∀ v,p.2.data≠.cell v
  hok:HOk X.prog X.w H s.heap
  len:σ.length=X.N.length
section
variable {X:Cx} {pins:List (Addr×Obj)} {σ:List (Option V)} {H H':Hp} {s:Shared} {h':Heap}
theorem Cx.Ok.nofr (ok:X.Ok) {b:Addr} {o:Obj} (e:X.base.get? b=some o):b ∉ X.fs:=fun hb=>by
  have:=(ok.funs.mem hb).1
  rw [e] at this; cases this
theorem Inv.bs (I:Inv X pins σ H s):∀ b o,X.base.get? b=some o→s.heap.get? b=some o∧H b=none:=fun b o e=>
  ⟨I.base.keep b o (I.ok.bs b o e).1 (I.ok.bs b o e).2 (I.ok.nofr e) (I.ok.noex b o e),I.base.free b o (I.ok.bs b o e).1 (I.ok.bs b o e).2 (I.ok.noex b o e)⟩
theorem Inv.bk (I:Inv X pins σ H s):∀ b o,X.base.get? b=some o→s.heap.get? b=some o:=fun b o e=>(I.bs b o e).1
theorem Inv.mod (I:Inv X pins σ H s):Mod X.K X.mg X.base:=I.ok.mod
theorem Inv.kIn (I:Inv X pins σ H s):X.K.In s.heap:=I.ok.mod.kin.keeps I.bk
theorem Inv.lt (I:Inv X pins σ H s):X.env.locals<s.heap.objs.size:=let ⟨_,hn,_⟩:=I.loc; hn.lt
theorem Inv.sz (I:Inv X pins σ H s):X.s₀.heap.objs.size≤s.heap.objs.size:=Nat.le_trans I.ok.above (Nat.le_of_lt I.lt)
theorem Inv.nofs (I:Inv X pins σ H s) {a:Addr} (h:s.heap.objs.size≤a):a ∉ X.fs:=fun hb=>by
  obtain ⟨_,o,ho,_⟩:=I.ok.funs.mem hb
  exact absurd (Nat.lt_of_lt_of_le (Heap.lt_size ho) (Nat.le_trans I.sz h)) (Nat.lt_irrefl _)
theorem Inv.cne (I:Inv X pins σ H s):∀ x c,X.env.cells.lookup x=some c→c≠X.env.locals:=fun x c e z=>by
  obtain ⟨v,o,ho,hd⟩:=I.cell x c e
  obtain ⟨m,⟨o',es,ep,ho',hd',_⟩,_⟩:=I.loc
  rw [z,ho'] at ho; cases ho; rw [hd'] at hd; cases hd
theorem Inv.funs (I:Inv X pins σ H s):s.heap.FunFrames X.base X.outer:=by
  have all:∀ (l:List Env),(∀ b∈frs l,b∈X.fs)→X.s₀.heap.FunFrames X.base l→s.heap.FunFrames X.base l:=by
    intro l
    induction l with
    | nil=>intro _ _; trivial
    | cons env r ih=>
      intro hs hl
      obtain ⟨hk,⟨L,o,hf,hn,ho,hd⟩,hr⟩:=hl
      have hL:L∈X.fs:=hs L (by unfold frs; rw [List.filterMap_cons,hf]; exact List.mem_cons_self)
      obtain ⟨sl,e⟩:=I.base.slot L o ho (I.ok.frf L hL) hL fun z=>I.ok.exfs L z hL
      exact ⟨hk,⟨L,_,hf,hn,e,hd⟩,ih (fun b hb=>hs b (by unfold frs; rw [List.filterMap_cons,hf]; exact List.mem_cons_of_mem _ hb)) hr⟩
  exact all X.outer (fun _ hb=>hb) I.ok.funs
theorem Inv.stack (I:Inv X pins σ H s):s.heap.FunFrames X.base X.stack:=by
  rcases I.ok.stk with e | ⟨e,hf⟩
  · rw [e]; exact I.funs
  · rw [e]
    obtain ⟨m,hn,_⟩:=I.loc
    refine .cons (by rw [I.ok.kind]; decide) hf hn ?_ I.funs
    exact Heap.get?_none_of_le (Nat.le_trans I.ok.bsz I.ok.above)
theorem Inv.stkSub (I:Inv X pins σ H s):∀ b∈frs X.stack,b∈X.env.locals::X.fs:=fun b hb=>by
  rcases I.ok.stk with e | ⟨e,hf⟩
  · rw [e] at hb; exact List.mem_cons_of_mem _ hb
  · rw [e] at hb
    unfold frs at hb
    rw [List.filterMap_cons,hf] at hb
    exact hb
theorem Inv.stkFree (I:Inv X pins σ H s):∀ b∈frs X.stack,H b=none:=fun b hb=>by
  rcases List.mem_cons.mp (I.stkSub b hb) with e | hb
  · rw [e]; exact I.free
  · obtain ⟨_,o,ho,_⟩:=I.ok.funs.mem hb
    exact I.base.free b o ho (I.ok.frf b hb) fun z=>I.ok.exfs b z hb
theorem Inv.step {g':Array GenState} {t':Nat} {d':Drawn} {ch:List Addr} (I:Inv X pins σ H s)
    (hch:∀ b∈ch,(b∈X.ex∨X.s₀.heap.objs.size≤b)∧b≠X.env.locals∧(∀ x c,X.env.cells.lookup x=some c→c≠b)∧∀ p∈X.pn++pins,p.1≠b)
    (keep:∀ b o,b≠X.env.locals→b ∉ X.fs→b ∉ ch→s.heap.get? b=some o→H b=none→h'.get? b=some o)
    (slot:∀ b o,b≠X.env.locals→b∈X.fs→b ∉ ch→s.heap.get? b=some o→H b=none→∃ sl,h'.get? b=some { o with slots:=sl }) (free:∀ b o,b ∉ ch→s.heap.get? b=some o→H b=none→H' b=none)
    (there:∀ b o,b ∉ ch→s.heap.get? b=some o→∃ o',h'.get? b=some o')
    (tups:∀ b xs,H b=some (.tup xs)→H' b=some (.tup xs)) (frzs:∀ b o u,H b=some (.frz o u)→H' b=some (.frz o u)) (tbls:∀ b ps,H b=some (.tbl ps)→∃ more,H' b=some (.tbl (ps++more)))
    (ns:∀ m,s.heap.Ns X.env.locals m→h'.Ns X.env.locals m) (hok:HOk X.prog X.w H' h') (hg:AllBare g') :
    Inv X pins σ H' { s with heap:=h',gens:=g',drawn:=d',toks:=t' }:=by
  have neL:∀ b o,X.s₀.heap.get? b=some o→b≠X.env.locals:=fun b o e=>Nat.ne_of_lt (Nat.lt_of_lt_of_le (Heap.lt_size e) I.ok.above)
  have neC:∀ b o,X.s₀.heap.get? b=some o→b ∉ X.ex→b ∉ ch:=fun b o e hx hb=>by
    rcases (hch b hb).1 with z | z
    · exact hx z
    · exact absurd (Nat.lt_of_lt_of_le (Heap.lt_size e) z) (Nat.lt_irrefl _)
  have cellK:∀ x c,X.env.cells.lookup x=some c→∀ v,s.heap.IsCell c v→h'.IsCell c v:=fun x c e v ⟨o,ho,hd⟩=>by
    have nch:c ∉ ch:=fun z=>(hch c z).2.2.1 x c e rfl
    by_cases hc:c∈X.fs
    · obtain ⟨sl,q⟩:=slot c o (I.cne x c e) hc nch ho (I.freeC x c e)
      exact ⟨_,q,hd⟩
    · exact ⟨o,keep c o (I.cne x c e) hc nch ho (I.freeC x c e),hd⟩
  refine ⟨I.ok,I.os,hg,⟨fun b o e n hb hx=>?_,fun b o e n hb hx=>?_,fun b o e n hx=>?_,fun b o e hx=>?_,fun b xs e=>tups b xs (I.base.tups b xs e),fun b o xs e=>frzs b o xs (I.base.frzs b o xs e),fun b ps e=>?_⟩,?_,fun x c e=>?_,?_,fun x c e=>?_,fun p hp=>?_,hok,I.len⟩
  · exact keep b o (neL b o e) hb (neC b o e hx) (I.base.keep b o e n hb hx) (I.base.free b o e n hx)
  · obtain ⟨sl,e1⟩:=I.base.slot b o e n hb hx
    obtain ⟨sl',e2⟩:=slot b _ (neL b o e) hb (neC b o e hx) e1 (I.base.free b o e n hx)
    exact ⟨sl',e2⟩
  · obtain ⟨o',e1⟩:=I.base.there b o e hx
    exact free b o' (neC b o e hx) e1 (I.base.free b o e n hx)
  · obtain ⟨o',e1⟩:=I.base.there b o e hx
    exact there b o' (neC b o e hx) e1
  · obtain ⟨m1,e1⟩:=I.base.tbls b ps e
    obtain ⟨m2,e2⟩:=tbls b _ e1
    exact ⟨m1++m2,by rw [e2,Array.append_assoc]⟩
  · obtain ⟨m,hn,hl⟩:=I.loc
    refine ⟨m,ns m hn,fun i x v e1 e2 e3=>?_⟩
    obtain ⟨u,r,l⟩:=hl i x v e1 e2 e3
    refine ⟨u,r,?_⟩
    rcases l with l | ⟨k,c,e,z⟩
    · exact .inl l
    · exact .inr ⟨k,c,e,cellK x c e _ z⟩
  · obtain ⟨v,z⟩:=I.cell x c e
    exact ⟨v,cellK x c e v z⟩
  · obtain ⟨m,⟨o,_,_,ho,_⟩,_⟩:=I.loc
    exact free _ o (fun z=>(hch _ z).2.1 rfl) ho I.free
  · obtain ⟨v,o,ho,hd⟩:=I.cell x c e
    exact free c o (fun z=>(hch c z).2.2.1 x c e rfl) ho (I.freeC x c e)
  · obtain ⟨e,n,ne,nf,d⟩:=I.pin p hp
    have nch:p.1 ∉ ch:=fun z=>(hch p.1 z).2.2.2 p hp rfl
    exact ⟨keep p.1 p.2 ne nf nch e n,free p.1 p.2 nch e n,ne,nf,d⟩
theorem Inv.un {t':Nat} (I:Inv X pins σ H s) (u:Un X.fs [] H H' s.heap h') (hok:HOk X.prog X.w H' h'):Inv X pins σ H' { s with heap:=h',toks:=t' }:=by
  obtain ⟨m,⟨o,es,ep,ho,r⟩,_⟩:=id I.loc
  obtain ⟨sl,hL⟩:=u.any ho I.free (by simp)
  exact I.step (g':=s.gens) (d':=s.drawn) (ch:=[]) (fun _ z=>nomatch z) (fun b o _ hb _ e n=>u.keep b o e n hb (by simp)) (fun b o _ hb _ e n=>u.slot b o e n hb (by simp)) (fun b o _ e n=>u.free b o e n (by simp)) (fun b o _ e=>u.there b o e (by simp)) u.tups u.frzs u.tbls (fun m' hm=>by
    obtain ⟨o',es',ep',ho',r'⟩:=hm
    rw [ho] at ho'; cases ho'
    exact ⟨_,es',ep',hL,r'⟩) hok I.bare
theorem Inv.call {g':Array GenState} {t':Nat} {d':Drawn} {ch:List Addr} (I:Inv X pins σ H s) (u:Un (frs X.stack) ch H H' s.heap h') (hok:HOk X.prog X.w H' h') (hg:AllBare g')
    (hch:∀ b∈ch,(b∈X.ex∨X.s₀.heap.objs.size≤b)∧b≠X.env.locals∧(∀ x c,X.env.cells.lookup x=some c→c≠b)∧∀ p∈X.pn++pins,p.1≠b) :
    Inv X pins σ H' { s with heap:=h',gens:=g',drawn:=d',toks:=t' }:=by
  obtain ⟨m,⟨o,es,ep,ho,r⟩,_⟩:=id I.loc
  obtain ⟨sl,hL⟩:=u.any ho I.free fun z=>(hch _ z).2.1 rfl
  exact I.step (ch:=ch) hch (fun b o hL hb hc e n=>u.keep b o e n (fun z=>(List.mem_cons.mp (I.stkSub b z)).elim hL hb) hc) (fun b o _ _ hc e n=>u.any e n hc) (fun b o hc e n=>u.free b o e n hc) (fun b o hc e=>u.there b o e hc) u.tups u.frzs u.tbls (fun m' hm=>by
    obtain ⟨o',es',ep',ho',r'⟩:=hm
    rw [ho] at ho'; cases ho'
    exact ⟨_,es',ep',hL,r'⟩) hok hg
theorem Inv.turned {t':Nat} {it:Addr} (I:Inv X pins σ H s) (k:∀ b o,b≠it→s.heap.get? b=some o→h'.get? b=some o) (hn:H it=none) (hL:it≠X.env.locals)
    (h1:it∈X.ex∨X.s₀.heap.objs.size≤it) (h2:∀ x c,X.env.cells.lookup x=some c→c≠it) (h3:∀ p∈X.pn++pins,p.1≠it):Inv X pins σ H { s with heap:=h',toks:=t' }:=by
  have nit:∀ b u,H b=some u→b≠it:=fun b u e z=>by rw [z,hn] at e; cases e
  refine I.step (g':=s.gens) (d':=s.drawn) (ch:=[it]) (fun b hb=>?_) (fun b o _ _ hc e _=>k b o (fun z=>hc (by simp [z])) e) (fun b o _ _ hc e _=>⟨o.slots,k b o (fun z=>hc (by simp [z])) e⟩) (fun _ _ _ _ n=>n)
    (fun b o hc e=>⟨o,k b o (fun z=>hc (by simp [z])) e⟩) (fun _ _ e=>e) (fun _ _ _ e=>e) (fun b ps e=>⟨#[],by rw [e]; simp⟩) (fun m hm=>?_) (fun b u e=>?_) I.bare
  · have e:b=it:=by simpa using hb
    subst e
    exact ⟨h1,hL,h2,h3⟩
  · obtain ⟨o,es,ep,ho,r⟩:=hm
    exact ⟨o,es,ep,k _ o (Ne.symm hL) ho,r⟩
  · refine (I.hok b u e).stay (fun c v hc q=>k c v ?_ q) (fun _ q=>q) fun _ _ q=>q
    rcases hc with z | z
    · rw [z]; exact nit b u e
    · exact nit c _ z
theorem Inv.tok (I:Inv X pins σ H s) (t:Nat):Inv X pins σ H { s with toks:=t }:=I.un (h':=s.heap) (t':=t) Un.refl I.hok
theorem Inv.kept {t':Nat} (I:Inv X pins σ H s) (k:∀ b u,s.heap.get? b=some u→h'.get? b=some u):Inv X pins σ H { s with heap:=h',toks:=t' }:=I.un (Un.kept k) (I.hok.kept k)
theorem Inv.laid {a:Addr} {o:HO} {t':Nat} (I:Inv X pins σ H s) (k:∀ b u,s.heap.get? b=some u→h'.get? b=some u) (hp:s.heap.objs.size≤a) (new:ObjOk X.prog X.w (upd H a o) h' a o) :
    Inv X pins σ (upd H a o) { s with heap:=h',toks:=t' }:=I.un (Un.laid k hp (I.hok.fresh hp)) (I.hok.laid k hp new)
theorem Inv.write {x e:Addr} {o:HO} {t':Nat} (I:Inv X pins σ H s) (mu:Mut (H x)) (he:e=x∨H e=some (.own x)) (k:∀ b u,b≠e→s.heap.get? b=some u→h'.get? b=some u) (heo:∃ u,h'.get? e=some u)
    (new:ObjOk X.prog X.w (upd H x o) h' x o):Inv X pins σ (upd H x o) { s with heap:=h',toks:=t' }:=I.un (Un.write mu he k heo) (I.hok.write mu he k heo new)
theorem Inv.weak {σ':List (Option V)} (I:Inv X pins σ H s) (hl:σ'.length=σ.length) (w:∀ (i:Nat) v,σ'[i]?=some (some v)→σ[i]?=some (some v)):Inv X pins σ' H s:=
  ⟨I.ok,I.os,I.bare,I.base,let ⟨m,hn,hl'⟩:=I.loc; ⟨m,hn,fun i x v e1 e2 e3=>hl' i x v e1 (w i v e2) e3⟩,I.cell,I.free,I.freeC,I.pin,I.hok,hl.trans I.len⟩
theorem Inv.pins_of {pins':List (Addr×Obj)} (I:Inv X pins σ H s) (h:∀ p∈pins',s.heap.get? p.1=some p.2∧H p.1=none∧p.1≠X.env.locals∧p.1 ∉ X.fs∧∀ v,p.2.data≠.cell v):Inv X pins' σ H s:=
  ⟨I.ok,I.os,I.bare,I.base,I.loc,I.cell,I.free,I.freeC,fun p hp=>(List.mem_append.mp hp).elim (fun z=>I.pin p (List.mem_append_left _ z)) (h p),I.hok,I.len⟩
theorem nodup_ix {N:List Str} (hN:N.Nodup) {i j:Nat} {x:Str} (a:N[i]?=some x) (b:N[j]?=some x):i=j:=by
  obtain ⟨h1,e1⟩:=List.getElem?_eq_some_iff.mp a
  obtain ⟨h2,e2⟩:=List.getElem?_eq_some_iff.mp b
  exact (List.getElem_inj hN).mp (e1.trans e2.symm)
theorem store_ok2 {M:Model} {A:Around} {E:Value→Shared→Prop} {i:Nat} {x:Str} {v:V} {u:Value} {Q:Unit→Shared→Prop} (I:Inv X pins σ H s) (hN:X.N.Nodup) (hi:X.N[i]?=some x) (hx:Loc X.env.scope x) (r:RelV v u)
    (h:∀ s',Inv X pins (σ.set i (some v)) H s'→(∃ a,Heap.SameBut a s.heap s'.heap∧(a=X.env.locals∨X.env.cells.lookup x=some a))→Q () s') (hf:X.fn x=true∨X.env.scope.names.lookup x=some .local:=by first | exact .inl rfl | exact .inr rfl | assumption):wpAny M A (storeName X.env x u) Q E s:=by
  obtain ⟨m,hn,hl⟩:=id I.loc
  have hcls:(X.env.scope.kind == .class||(X.env.scope.kind == .module&&X.env.locals != X.env.globals))=false:=by rw [I.ok.kind]; rfl
  have hiσ:i<σ.length:=by rw [I.len]; exact (List.getElem?_eq_some_iff.mp hi).1
  have cne:=I.cne
  have tracked:∀ {a:Addr} {h':Heap},(∃ o,s.heap.get? a=some o∧H a=none)→Heap.SameBut a s.heap h'→HOk X.prog X.w H h':=fun {a h'} ha hs b ob e=>by
    obtain ⟨_,_,hfree⟩:=ha
    refine (I.hok b ob e).stay (fun c w' hc q=>(hs.2 c ?_).trans q) (fun _ q=>q) fun _ _ q=>q
    rintro rfl
    rcases hc with rfl | hc
    · rw [hfree] at e; cases e
    · rw [hfree] at hc; cases hc
  rcases hx with hk | hk
  · refine wpAny_storeName_local hk hn (fun h' hn' hs=>?_) hcls
    obtain ⟨oL,_,_,hoL,_⟩:=id hn
    refine h _ ⟨I.ok,I.os,I.bare,⟨fun b o e n hb hx=>?_,fun b o e n hb hx=>?_,I.base.free,fun b o e hx=>?_,I.base.tups,I.base.frzs,I.base.tbls⟩,⟨_,hn',fun j y v' e1 e2 e3=>?_⟩,fun y c e=>?_,I.free,I.freeC,fun p hp=>?_,tracked ⟨oL,hoL,I.free⟩ hs,by simpa using I.len⟩ ⟨_,hs,.inl rfl⟩
    · exact (hs.2 b (Nat.ne_of_lt (Nat.lt_of_lt_of_le (Heap.lt_size e) I.ok.above))).trans (I.base.keep b o e n hb hx)
    · obtain ⟨sl,e1⟩:=I.base.slot b o e n hb hx
      exact ⟨sl,(hs.2 b (Nat.ne_of_lt (Nat.lt_of_lt_of_le (Heap.lt_size e) I.ok.above))).trans e1⟩
    · obtain ⟨o',e1⟩:=I.base.there b o e hx
      exact ⟨o',(hs.2 b (Nat.ne_of_lt (Nat.lt_of_lt_of_le (Heap.lt_size e) I.ok.above))).trans e1⟩
    · by_cases hj:j=i
      · subst hj
        rw [hi] at e1; cases e1
        rw [List.getElem?_set_self hiσ] at e2
        cases e2
        exact ⟨u,r,.inl ⟨hk,by simp⟩⟩
      · rw [List.getElem?_set_ne (Ne.symm hj)] at e2
        obtain ⟨u',r',q⟩:=hl j y v' e1 e2 e3
        refine ⟨u',r',?_⟩
        rcases q with ⟨k,e⟩ | ⟨k,c,e,z⟩
        · refine .inl ⟨k,?_⟩
          have:y≠x:=fun e=>hj (nodup_ix hN e1 (e ▸ hi))
          simp [this,e]
        · exact .inr ⟨k,c,e,z.sameBut hs (cne y c e)⟩
    · obtain ⟨w',z⟩:=I.cell y c e
      exact ⟨w',z.sameBut hs (cne y c e)⟩
    · obtain ⟨e,n,ne,nf,d⟩:=I.pin p hp
      exact ⟨(hs.2 p.1 ne).trans e,n,ne,nf,d⟩
  · have hfn:X.fn x=true:=by
      rcases hf with z | z
      · exact z
      · rw [z] at hk; cases hk
    obtain ⟨c,hc⟩:=I.ok.has x (.inl hk)
    obtain ⟨w',z⟩:=I.cell x c hc
    refine wpAny_storeName_cell I.ok.kind hk hc z (fun h' hc' hs=>?_)
    obtain ⟨oc,hoc,hocd⟩:=id z
    refine h { s with heap:=h' } ⟨I.ok,I.os,I.bare,⟨fun b o e n hb hx=>?_,fun b o e n hb hx=>?_,I.base.free,fun b o e hx=>?_,I.base.tups,I.base.frzs,I.base.tbls⟩,⟨m,hn.sameBut hs (Ne.symm (cne x c hc)),fun j y v' e1 e2 e3=>?_⟩,fun y c' e=>?_,I.free,I.freeC,fun p hp=>?_,tracked ⟨oc,hoc,I.freeC x c hc⟩ hs,by simpa using I.len⟩ ⟨c,hs,.inr hc⟩
    · exact (hs.2 b (Nat.ne_of_lt (Nat.lt_of_lt_of_le (Heap.lt_size e) (I.ok.cab x c hfn hc)))).trans (I.base.keep b o e n hb hx)
    · obtain ⟨sl,e1⟩:=I.base.slot b o e n hb hx
      exact ⟨sl,(hs.2 b (Nat.ne_of_lt (Nat.lt_of_lt_of_le (Heap.lt_size e) (I.ok.cab x c hfn hc)))).trans e1⟩
    · obtain ⟨o',e1⟩:=I.base.there b o e hx
      exact ⟨o',(hs.2 b (Nat.ne_of_lt (Nat.lt_of_lt_of_le (Heap.lt_size e) (I.ok.cab x c hfn hc)))).trans e1⟩
    · by_cases hj:j=i
      · subst hj
        rw [hi] at e1; cases e1
        rw [List.getElem?_set_self hiσ] at e2
        cases e2
        exact ⟨u,r,.inr ⟨.inl hk,c,hc,hc'⟩⟩
      · rw [List.getElem?_set_ne (Ne.symm hj)] at e2
        obtain ⟨u',r',q⟩:=hl j y v' e1 e2 e3
        refine ⟨u',r',?_⟩
        rcases q with q | ⟨k,c',e,z'⟩
        · exact .inl q
        · refine .inr ⟨k,c',e,z'.sameBut hs ?_⟩
          rintro rfl
          exact hj (nodup_ix hN e1 (I.ok.inj _ _ _ e hc ▸ hi))
    · by_cases hcc:c'=c
      · subst hcc; exact ⟨_,hc'⟩
      · obtain ⟨w2,z2⟩:=I.cell y c' e
        exact ⟨w2,z2.sameBut hs hcc⟩
    · obtain ⟨e,n,ne,nf,d⟩:=I.pin p hp
      refine ⟨(hs.2 p.1 ?_).trans e,n,ne,nf,d⟩
      intro q
      rw [q,hoc] at e
      have q':oc=p.2:=Option.some.inj e
      exact d w' (by rw [← q']; exact hocd)
theorem store_ok {M:Model} {A:Around} {E:Value→Shared→Prop} {i:Nat} {x:Str} {v:V} {u:Value} {Q:Unit→Shared→Prop} (I:Inv X pins σ H s) (hN:X.N.Nodup) (hi:X.N[i]?=some x) (hx:Loc X.env.scope x) (r:RelV v u)
    (h:∀ s',Inv X pins (σ.set i (some v)) H s'→Q () s') (hf:X.fn x=true∨X.env.scope.names.lookup x=some .local:=by first | exact .inl rfl | exact .inr rfl | assumption):wpAny M A (storeName X.env x u) Q E s:=
  store_ok2 I hN hi hx r (fun s' I' _=>h s' I') hf
theorem Inv.call' {s':Shared} {ch:List Addr} (I:Inv X pins σ H s) (ho:s'.os=s.os) (u:Un (frs X.stack) ch H H' s.heap s'.heap) (hok:HOk X.prog X.w H' s'.heap) (hg:AllBare s'.gens)
    (hch:∀ b∈ch,(b∈X.ex∨X.s₀.heap.objs.size≤b)∧b≠X.env.locals∧(∀ x c,X.env.cells.lookup x=some c→c≠b)∧∀ p∈X.pn++pins,p.1≠b):Inv X pins σ H' s':=by
  obtain ⟨h',g',d',t',o'⟩:=s'
  have e:o'=s.os:=ho
  subst e
  exact I.call (g':=g') (t':=t') (d':=d') u hok hg hch
end
noncomputable abbrev XK:=Value→Option Addr→Hp→Prop
noncomputable abbrev St:=List (Option V)
noncomputable abbrev VK:=V→Hp→Prop
noncomputable abbrev TE:=St→Hp→VK→Prop
noncomputable abbrev TT:=St→Hp→(Bool→Hp→Prop)→Prop
noncomputable abbrev TA:=St→Hp→(List V→Hp→Prop)→Prop
structure Ends where
  nx:St→Hp→Prop
  rt:VK
  bk:St→Hp→Prop:=fun _ _=>False
  ct:St→Hp→Prop:=fun _ _=>False
noncomputable abbrev TS:=Ends→St→Hp→Prop
noncomputable def EP (X:Cx) (pins:List (Addr×Obj)) (σ:St) (Q:VK) (u:Value) (s':Shared):Prop:=∃ v H',Inv X pins σ H' s'∧RelV v u∧Q v H'
noncomputable def TP (X:Cx) (pins:List (Addr×Obj)) (σ:St) (Q:Bool→Hp→Prop) (b:Bool) (s':Shared):Prop:=∃ H',Inv X pins σ H' s'∧Q b H'
noncomputable def AP (X:Cx) (pins:List (Addr×Obj)) (σ:St) (Q:List V→Hp→Prop) (us:List Value) (s':Shared):Prop:=∃ vs H',Inv X pins σ H' s'∧Vals vs us∧Q vs H'
noncomputable def SP (X:Cx) (pins:List (Addr×Obj)) (D:Ends) (f:Flow) (s':Shared):Prop:=
  match f with
  | .next=>∃ σ' H',Inv X pins σ' H' s'∧D.nx σ' H'
  | .brk=>∃ σ' H',Inv X pins σ' H' s'∧D.bk σ' H'
  | .cont=>∃ σ' H',Inv X pins σ' H' s'∧D.ct σ' H'
  | .ret u=>∃ v σ' H',Inv X pins σ' H' s'∧RelV v u∧D.rt v H'
noncomputable def PE (X:Cx) (e:Expr) (t:TE):Prop:=
  ∀ (pins:List (Addr×Obj)) (s:Shared) (σ:St) (H:Hp) (Q:VK),Inv X pins σ H s→t σ H Q→wpAny (model X.prog X.w) X.A (eval e X.env) (EP X pins σ Q) X.xe s
noncomputable def PT (X:Cx) (e:Expr) (t:TT):Prop:=
  ∀ (pins:List (Addr×Obj)) (s:Shared) (σ:St) (H:Hp) (Q:Bool→Hp→Prop),Inv X pins σ H s→t σ H Q→wpAny (model X.prog X.w) X.A (isTrue e X.env (eval e X.env)) (TP X pins σ Q) X.xe s
noncomputable def PW (X:Cx) (e:Expr) (t:TT):Prop:=
  ∀ (whole:Sem Value) (pins:List (Addr×Obj)) (s:Shared) (σ:St) (H:Hp) (Q:Bool→Hp→Prop),Inv X pins σ H s→t σ H Q→wpAny (model X.prog X.w) X.A (isTrue e X.env whole) (TP X pins σ Q) X.xe s
theorem PW.pt {X:Cx} {e:Expr} {t:TT} (h:PW X e t):PT X e t:=h _
noncomputable def PA (X:Cx) (es:List Expr) (t:TA):Prop:=
  ∀ (pos:Pos) (pins:List (Addr×Obj)) (s:Shared) (σ:St) (H:Hp) (Q:List V→Hp→Prop),Inv X pins σ H s→t σ H Q→wpAny (model X.prog X.w) X.A (spliced (backTo pos (starEach es X.env))) (AP X pins σ Q) X.xe s
noncomputable def PS (X:Cx) (st:Stmt) (t:TS):Prop:=
  ∀ (pins:List (Addr×Obj)) (s:Shared) (σ:St) (H:Hp) (D:Ends),Inv X pins σ H s→t D σ H→wpAny (model X.prog X.w) X.A (exec st X.env) (SP X pins D) X.xe s
noncomputable def PSs (X:Cx) (st:List Stmt) (t:TS):Prop:=
  ∀ (pins:List (Addr×Obj)) (s:Shared) (σ:St) (H:Hp) (D:Ends),Inv X pins σ H s→t D σ H→wpAny (model X.prog X.w) X.A (execs st X.env) (SP X pins D) X.xe s
theorem thn {α:Type} {t:Sem α} {Q Q':α→Shared→Prop} {M:Model} {A:Around} {E:Value→Shared→Prop} {s:Shared} (h:wpAny M A t Q E s) (hQ:∀ a s,Q a s→Q' a s):wpAny M A t Q' E s:=wpAny_mono h hQ fun _ _ x=>x
end L2
namespace L2
open PySem PySem.Spec PyProof.Rows
section
variable {X:Cx}
noncomputable def tVar (i:Nat):TE:=fun σ H Q=>∃ v,σ[i]?=some (some v)∧Q v H
noncomputable def tC (v:V):TE:=fun _ H Q=>Q v H
theorem pe_var {i:Nat} {x:Str} {pos:Pos} (hN:X.N[i]?=some x) (hv:Vis X.env.scope x) (hd:(x == ("__debug__" : Str))=false:=by decide) (hcd:(x == ("__classdict__" : Str))=false:=by decide):PE X (.Name x pos) (tVar i):=by
  intro pins s σ H Q I h
  obtain ⟨v,e,h⟩:=h
  obtain ⟨m,hn,hl⟩:=I.loc
  obtain ⟨u,r,l⟩:=hl i x v hN e hv
  have fin:EP X pins σ Q u s:=⟨v,H,I,r,h⟩
  rcases l with ⟨hk,hm⟩ | ⟨hk,c,hc,hcell⟩
  · exact wpAny_Name (wpAny_loadName_local I.ok.kind hk hn hm fin) hd
  · rcases hk with hk | hk
    · exact wpAny_Name (wpAny_loadName_cell I.ok.kind hk hc hcell fin) hd
    · exact wpAny_Name (wpAny_loadName_free I.ok.kind hk hc hcell fin hcd) hd
theorem pe_int {i j pos}:PE X (.Constant (.int i) j pos) (tC (.int i)):=fun _ _ _ H _ I h=>wpAny_Constant_int ⟨.int i,H,I.tok _,⟨_,rfl⟩,h⟩
theorem pe_bl {b j pos}:PE X (.Constant (.bool b) j pos) (tC (.bl b)):=fun _ _ _ H _ I h=>Constant_bool ⟨.bl b,H,I,rfl,h⟩
theorem pe_non {j pos}:PE X (.Constant .none j pos) (tC .non):=fun _ _ _ H _ I h=>Constant_none ⟨.non,H,I,rfl,h⟩
theorem pe_str {x j pos}:PE X (.Constant (.str x) j pos) (tC (.str x)):=fun _ _ _ H _ I h=>Calls.Constant_str ⟨.str x,H,I.tok _,⟨_,rfl⟩,h⟩
noncomputable def Gl (X:Cx) (x:Str):Prop:=X.env.kindOf x=some .globalImplicit
theorem ld_glob {E:Value→Shared→Prop} {pins:List (Addr×Obj)} {s:Shared} {σ:St} {H:Hp} {x:Str} {u:Value} {pos:Pos} {Q:Value→Shared→Prop} (I:Inv X pins σ H s) (hg:Gl X x) (hm:X.mg x=some u) (h:Q u s)
    (hd:(x == ("__debug__" : Str))=false:=by decide):wpAny (model X.prog X.w) X.A (eval (.Name x pos) X.env) Q E s:=
  Calls.Name_function_global I.ok.kind hg (Calls.loadGlobal_global (by rw [I.ok.glob]; exact I.mod.glob.keeps I.bk) hm h) hd
theorem ld_blt {E:Value→Shared→Prop} {pins:List (Addr×Obj)} {s:Shared} {σ:St} {H:Hp} {x:Str} {u:Value} {pos:Pos} {Q:Value→Shared→Prop} (I:Inv X pins σ H s) (hg:Gl X x) (hm:X.mg x=none) (hv:bootBuiltins x=some u) (h:Q u s)
    (hn:x ≠ "__name__" := by decide) (hd:(x == ("__debug__" : Str))=false:=by decide):wpAny (model X.prog X.w) X.A (eval (.Name x pos) X.env) Q E s:=by
  obtain ⟨mb,h1,h2⟩:=I.mod.blt
  exact Calls.Name_function_global I.ok.kind hg (Calls.loadGlobal_builtin (by rw [I.ok.glob]; exact I.mod.glob.keeps I.bk) hm (by rw [I.ok.blt]; exact h1.keeps I.bk) ((h2 x hn).trans hv) h) hd
theorem pe_glob {x:Str} {v:V} {u:Value} {pos:Pos} (hg:Gl X x) (hm:X.mg x=some u) (r:RelV v u) (hd:(x == ("__debug__" : Str))=false:=by decide):PE X (.Name x pos) (tC v):=
  fun _ _ _ H _ I h=>ld_glob I hg hm ⟨v,H,I,r,h⟩ hd
theorem pe_bltn {x:Str} {v:V} {u:Value} {pos:Pos} (hg:Gl X x) (hm:X.mg x=none) (hv:bootBuiltins x=some u) (r:RelV v u) (hn:x ≠ "__name__" := by decide) (hd:(x == ("__debug__" : Str))=false:=by decide):PE X (.Name x pos) (tC v):=
  fun _ _ _ H _ I h=>ld_blt I hg hm hv ⟨v,H,I,r,h⟩ hn hd
variable {a b:Expr} {ta tb:TE} {pos:Pos}
noncomputable def tB (t:TE):TT:=fun σ H Q=>t σ H fun x H1=>∃ c,x=.bl c∧Q c H1
theorem pt_val {e:Expr} {t:TE} (h:PE X e t) (he:∀ whole,isTrue e X.env whole=(do let v ← whole; standAt e.pos; holding [v] (truthy v)):=by intro _; rfl):PT X e (tB t):=by
  intro pins s σ H Q I hw
  refine isTrue_plain (thn (h pins s σ H _ I hw) fun v s1 ⟨x,H1,I1,r1,q1⟩=>?_) (he _)
  obtain ⟨d,rfl,q⟩:=q1
  cases r1
  exact wpAny_truthy_bool ⟨H1,I1,q⟩
variable {tA tB':TT} {rest:List Expr}
noncomputable def tAnd (t u:TT):TT:=fun σ H Q=>t σ H fun c H1=>if c=true then u σ H1 Q else Q false H1
noncomputable def tOr (t u:TT):TT:=fun σ H Q=>t σ H fun c H1=>if c=true then Q true H1 else u σ H1 Q
noncomputable def tNot (t:TT):TT:=fun σ H Q=>t σ H fun c H1=>Q (!c) H1
theorem pw_and1 (ha:PT X a tA):PW X (.BoolOp .And [a] pos) tA:=by
  intro wh pins s σ H Q I h
  refine isTrue_and (thn (ha pins s σ H Q I h) fun c s1 e=>?_)
  cases c with
  | true=>exact isTrue_and_nil e
  | false=>exact e
theorem pw_or1 (ha:PT X a tA):PW X (.BoolOp .Or [a] pos) tA:=by
  intro wh pins s σ H Q I h
  refine isTrue_or (thn (ha pins s σ H Q I h) fun c s1 e=>?_)
  cases c with
  | false=>exact isTrue_or_nil e
  | true=>exact e
theorem pw_and (ha:PT X a tA) (hb:PW X (.BoolOp .And (b::rest) pos) tB'):PW X (.BoolOp .And (a::b::rest) pos) (tAnd tA tB'):=by
  intro wh pins s σ H Q I h
  refine isTrue_and (thn (ha pins s σ H _ I h) fun c s1 ⟨H1,I1,q1⟩=>?_)
  cases c with
  | true=>exact hb wh pins s1 σ H1 Q I1 q1
  | false=>exact ⟨H1,I1,q1⟩
theorem pw_or (ha:PT X a tA) (hb:PW X (.BoolOp .Or (b::rest) pos) tB'):PW X (.BoolOp .Or (a::b::rest) pos) (tOr tA tB'):=by
  intro wh pins s σ H Q I h
  refine isTrue_or (thn (ha pins s σ H _ I h) fun c s1 ⟨H1,I1,q1⟩=>?_)
  cases c with
  | true=>exact ⟨H1,I1,q1⟩
  | false=>exact hb wh pins s1 σ H1 Q I1 q1
theorem pt_not (ha:PT X a tA):PT X (.UnaryOp .Not a pos) (tNot tA):=by
  intro pins s σ H Q I h
  exact isTrue_not (ha pins s σ H (fun c H1=>Q (!c) H1) I h)
noncomputable def tAndV (ta tb:TE):TE:=fun σ H Q=>ta σ H fun x H1=>∃ c,x=.bl c∧if c=true then tb σ H1 Q else Q (.bl false) H1
noncomputable def tNotV (ta:TE):TE:=fun σ H Q=>ta σ H fun x H1=>∃ c,x=.bl c∧Q (.bl (!c)) H1
theorem pe_one {op} {t:TE} (h:PE X a t):PE X (.BoolOp op [a] pos) t:=fun pins s σ H Q I hw=>BoolOp_one (h pins s σ H Q I hw)
theorem pe_and (ha:PE X a ta) (hb:PE X (.BoolOp .And (b::rest) pos) tb):PE X (.BoolOp .And (a::b::rest) pos) (tAndV ta tb):=by
  intro pins s σ H Q I h
  refine BoolOp_and (thn (ha pins s σ H _ I h) fun v s1 ⟨x,H1,I1,r1,q1⟩=>?_)
  obtain ⟨c,rfl,q1⟩:=q1
  cases r1
  refine wpAny_truthy_bool ?_
  cases c with
  | true=>exact hb pins s1 σ H1 Q I1 q1
  | false=>exact ⟨.bl false,H1,I1,rfl,q1⟩
theorem pe_not (ha:PE X a ta):PE X (.UnaryOp .Not a pos) (tNotV ta):=by
  intro pins s σ H Q I h
  refine UnaryOp_ (thn (ha pins s σ H _ I h) fun v s1 ⟨x,H1,I1,r1,q1⟩=>?_)
  obtain ⟨c,rfl,q1⟩:=q1
  cases r1
  exact not_of (wpAny_truthy_bool ⟨.bl (!c),H1,I1,rfl,q1⟩)
noncomputable def tIf (t:TT) (ta tb:TE):TE:=fun σ H Q=>t σ H fun c H1=>if c=true then ta σ H1 Q else tb σ H1 Q
theorem pe_ifExp {c:Expr} (hc:PT X c tA) (ha:PE X a ta) (hb:PE X b tb):PE X (.IfExp c a b pos) (tIf tA ta tb):=by
  intro pins s σ H Q I h
  refine wpAny_IfExp (thn (hc pins s σ H _ I h) fun d s1 ⟨H1,I1,q1⟩=>?_)
  cases d with
  | true=>exact ha pins s1 σ H1 Q I1 q1
  | false=>exact hb pins s1 σ H1 Q I1 q1
end
end L2
namespace L2
open PySem PySem.Spec PyProof.Rows
noncomputable def SqL (K:PySem.W.Frag) (H:Hp) (a:Addr) (xs:List V):Prop:=
  Rd H a (.lst xs) ∨
    ∃ (o:Obj) (its:Array Value) (n:Nat),K.lookup a=some o∧o.cls=.type "list" ∧ o.dict=none∧o.data=.seq its n∧its.size≤sizeLine∧Vals xs its.toList
noncomputable def SqT (K:PySem.W.Frag) (H:Hp) (a:Addr) (xs:List V):Prop:=
  Rd H a (.tup xs) ∨
    ∃ (o:Obj) (its:Array Value) (n:Nat),K.lookup a=some o∧o.cls=.type "tuple" ∧ o.data=.seq its n∧its.size≤sizeLine∧Vals xs its.toList
noncomputable def absV:Value→Option V
  | .none=>some .non
  | .bool b=>some (.bl b)
  | .int i _=>some (.int i)
  | .str x _=>some (.str x)
  | .bytes b _=>some (.byt b)
  | .float b _=>some (.flt b)
  | .ref a=>some (.ref a)
  | .type n=>some (.ty n)
  | _=>none
theorem RelV.abs {x:V} {u:Value} (r:RelV x u):absV u=some x:=by
  cases x with
  | non=>cases r; rfl
  | bl _=>cases r; rfl
  | int _=>obtain ⟨t,rfl⟩:=r; rfl
  | str _=>obtain ⟨t,rfl⟩:=r; rfl
  | byt _=>obtain ⟨t,rfl⟩:=r; rfl
  | flt _=>obtain ⟨t,rfl⟩:=r; rfl
  | ref _=>cases r; rfl
  | ty _=>cases r; rfl
theorem RelV.inj {x y:V} {u:Value} (r:RelV x u) (q:RelV y u):x=y:=Option.some.inj (r.abs.symm.trans q.abs)
theorem Vals.inj:∀ {xs ys:List V} {us:List Value},Vals xs us→Vals ys us→xs=ys
  | _,_,_,.nil,.nil=>rfl
  | _,_,_,.cons r t,.cons r' t'=>by rw [r.inj r',Vals.inj t t']
section
variable {X:Cx} {pins:List (Addr×Obj)} {σ:St} {H:Hp} {s:Shared} {a:Addr} {xs ys:List V}
theorem SqL.of {K:PySem.W.Frag} (h:H a=some (.lst xs)):SqL K H a xs:=.inl (.inl h)
theorem SqT.of {K:PySem.W.Frag} (h:H a=some (.tup xs)):SqT K H a xs:=.inl (.inl h)
theorem Inv.list (I:Inv X pins σ H s) (h:SqL X.K H a xs):∃ its:List Value,Vals xs its∧PlainL s.heap a its.toArray∧xs.length≤sizeLine:=by
  rcases h with h | ⟨o,its,n,hk,hc,hd,hs,hz,r⟩
  · obtain ⟨z,its,n,r,e⟩:=h.ok I.hok
    exact ⟨its,r,⟨_,n,e,rfl,rfl,rfl⟩,z⟩
  · refine ⟨its.toList,r,⟨o,n,I.kIn a o hk,hc,hd,by simpa using hs⟩,?_⟩
    have e:=r.length
    simp only [Array.length_toList] at e
    omega
theorem Inv.tuple (I:Inv X pins σ H s) (h:SqT X.K H a xs):∃ its:List Value,Vals xs its∧IsTup s.heap a its.toArray∧xs.length≤sizeLine:=by
  rcases h with h | ⟨o,its,n,hk,hc,hs,hz,r⟩
  · obtain ⟨z,its,r,p⟩:=h.ok I.hok
    exact ⟨its,r,p,z⟩
  · refine ⟨its.toList,r,⟨o,I.kIn a o hk,hc,n,by simpa using hs⟩,?_⟩
    have e:=r.length
    simp only [Array.length_toList] at e
    omega
theorem Inv.list_inj (I:Inv X pins σ H s) (h:SqL X.K H a xs) (h':SqL X.K H a ys):xs=ys:=by
  obtain ⟨its,r,⟨o,n,e,_,_,d⟩,_⟩:=I.list h
  obtain ⟨its',r',⟨o',n',e',_,_,d'⟩,_⟩:=I.list h'
  rw [e] at e'; cases e'
  rw [d] at d'
  injection d' with d1 _
  have:its=its':=by simpa using congrArg Array.toList d1
  subst this
  exact r.inj r'
theorem Inv.tuple_inj (I:Inv X pins σ H s) (h:SqT X.K H a xs) (h':SqT X.K H a ys):xs=ys:=by
  obtain ⟨its,r,⟨o,e,_,n,d⟩,_⟩:=I.tuple h
  obtain ⟨its',r',⟨o',e',_,n',d'⟩,_⟩:=I.tuple h'
  rw [e] at e'; cases e'
  rw [d] at d'
  injection d' with d1 _
  have:its=its':=by simpa using congrArg Array.toList d1
  subst this
  exact r.inj r'
end
noncomputable abbrev Cx.wish (X:Cx) (E:Value→Shared→Prop):Cx:={ X with xe:=E }
noncomputable abbrev Cx.nox (X:Cx):Cx:=X.wish fun _ _=>False
theorem Cx.Ok.wish {X:Cx} (ok:X.Ok) (E:Value→Shared→Prop):(X.wish E).Ok:=
  ⟨ok.mod,ok.kind,ok.glob,ok.blt,ok.above,ok.inj,ok.has,ok.cab,ok.hd,ok.frames,ok.stk,ok.exf,ok.bs,ok.bsz,ok.noex,ok.exfs,ok.funs,ok.frf⟩
theorem Cx.Ok.unwish {X:Cx} {E:Value→Shared→Prop} (ok:(X.wish E).Ok):X.Ok:=
  ⟨ok.mod,ok.kind,ok.glob,ok.blt,ok.above,ok.inj,ok.has,ok.cab,ok.hd,ok.frames,ok.stk,ok.exf,ok.bs,ok.bsz,ok.noex,ok.exfs,ok.funs,ok.frf⟩
section
variable {X:Cx} {pins:List (Addr×Obj)} {σ:St} {H:Hp} {s:Shared} {E:Value→Shared→Prop}
theorem Inv.wish (I:Inv X pins σ H s) (E:Value→Shared→Prop):Inv (X.wish E) pins σ H s:=⟨I.ok.wish E,I.os,I.bare,I.base,I.loc,I.cell,I.free,I.freeC,I.pin,I.hok,I.len⟩
theorem Inv.unwish (I:Inv (X.wish E) pins σ H s):Inv X pins σ H s:=⟨I.ok.unwish,I.os,I.bare,I.base,I.loc,I.cell,I.free,I.freeC,I.pin,I.hok,I.len⟩
theorem SP.unwish {D:Ends} {f:Flow} {s':Shared} (h:SP (X.wish E) pins D f s'):SP X pins D f s':=by
  cases f with
  | next=>obtain ⟨σ',H',I,q⟩:=h; exact ⟨σ',H',I.unwish,q⟩
  | brk=>obtain ⟨σ',H',I,q⟩:=h; exact ⟨σ',H',I.unwish,q⟩
  | cont=>obtain ⟨σ',H',I,q⟩:=h; exact ⟨σ',H',I.unwish,q⟩
  | ret u=>obtain ⟨v,σ',H',I,r,q⟩:=h; exact ⟨v,σ',H',I.unwish,r,q⟩
theorem PSs.nox {st:List Stmt} {t:TS} (h:PSs X.nox st t):PSs X st t:=fun pins s σ H D I hw=>
  wpAny_mono (h pins s σ H D (I.wish _) hw) (fun _ _ q=>q.unwish) fun _ _ z=>False.elim z
end
section
variable {X:Cx} {st:Stmt} {rest:List Stmt} {t u:TS} {e:Expr} {te:TE} {pos:Pos}
noncomputable def tNext:TS:=fun D σ H=>D.nx σ H
noncomputable def tSeq (t u:TS):TS:=fun D σ H=>t { D with nx:=u D } σ H
theorem pss_nil:PSs X [] tNext:=fun _ _ σ H _ I h=>wpAny_execs_nil ⟨σ,H,I,h⟩
theorem pss_cons (h1:PS X st t) (h2:PSs X rest u):PSs X (st::rest) (tSeq t u):=by
  intro pins s σ H D I h
  refine wpAny_execs_cons (thn (h1 pins s σ H { D with nx:=u D } I h) fun f s1 q=>?_)
  cases f with
  | next=>
    obtain ⟨σ',H',I',q⟩:=q
    exact h2 pins s1 σ' H' D I' q
  | ret v=>exact q
  | brk=>exact q
  | cont=>exact q
theorem pss_one (h1:PS X st t):PSs X [st] t:=by
  intro pins s σ H D I h
  refine wpAny_execs_cons (thn (h1 pins s σ H D I h) fun f s1 q=>?_)
  cases f with
  | next=>exact wpAny_execs_nil q
  | ret v=>exact q
  | brk=>exact q
  | cont=>exact q
theorem Inv.quiet {pins:List (Addr×Obj)} {σ:St} {H:Hp} {s:Shared} (I:Inv X pins σ H s):interactive X.env=false:=by simp [interactive,I.ok.kind]
noncomputable def tDrop (te:TE):TS:=fun D σ H=>te σ H fun _ H1=>D.nx σ H1
theorem ps_expr (he:PE X e te) (hs:swapsWith e none pos.line X.env=pure false:=by rfl):PS X (.Expr e pos) (tDrop te):=by
  intro pins s σ H D I h
  exact wpAny_Expr_any (thn (he pins s σ H _ I h) fun v s1 ⟨x,H1,I1,r1,q1⟩=>⟨σ,H1,I1,q1⟩) I.quiet hs
noncomputable def tRet (te:TE):TS:=fun D σ H=>te σ H D.rt
theorem ps_ret (he:PE X e te):PS X (.Return (some e) pos) (tRet te):=by
  intro pins s σ H D I h
  exact wpAny_Return_some (thn (he pins s σ H _ I h) fun v s1 ⟨x,H1,I1,r1,q1⟩=>⟨x,σ,H1,I1,r1,q1⟩)
noncomputable def tIfS (c:TT) (t u:TS):TS:=fun D σ H=>c σ H fun b H1=>if b=true then t D σ H1 else u D σ H1
theorem ps_if {c:Expr} {a b:List Stmt} {tc:TT} (hc:PT X c tc) (ha:PSs X a t) (hb:PSs X b u):PS X (.If c a b pos) (tIfS tc t u):=by
  intro pins s σ H D I h
  refine wpAny_If (thn (hc pins s σ H _ I h) fun d s1 ⟨H1,I1,q1⟩=>?_)
  cases d with
  | true=>exact ha pins s1 σ H1 D I1 q1
  | false=>exact hb pins s1 σ H1 D I1 q1
noncomputable def tNever:TS:=fun _ _ _=>False
theorem pss_never {sts:List Stmt}:PSs X sts tNever:=fun _ _ _ _ _ _ h=>h.elim
end
noncomputable abbrev TG:=V→St→Hp→(St→Hp→Prop)→Prop
noncomputable abbrev TGs:=List V→St→Hp→(St→Hp→Prop)→Prop
noncomputable def PG (X:Cx) (target:Expr) (t:TG):Prop:=
  ∀ (pins:List (Addr×Obj)) (s:Shared) (σ:St) (H:Hp) (v:V) (u:Value) (Q:St→Hp→Prop),Inv X pins σ H s→RelV v u→t v σ H Q→
    wpAny (model X.prog X.w) X.A (assign target X.env u) (fun _ s'=>∃ σ' H',Inv X pins σ' H' s'∧Q σ' H') X.xe s
noncomputable def PGs (X:Cx) (ts:List Expr) (t:TGs):Prop:=
  ∀ (pins:List (Addr×Obj)) (s:Shared) (σ:St) (H:Hp) (vs:List V) (us:List Value) (Q:St→Hp→Prop),Inv X pins σ H s→Vals vs us→t vs σ H Q→
    wpAny (model X.prog X.w) X.A (assignInOrder ((assignEach ts X.env).map (·.2)) us) (fun _ s'=>∃ σ' H',Inv X pins σ' H' s'∧Q σ' H') X.xe s
section
variable {X:Cx} {pos:Pos}
noncomputable def gName (i:Nat):TG:=fun v σ H Q=>Q (σ.set i (some v)) H
theorem pg_name {i:Nat} {x:Str} (hN:X.N.Nodup) (hi:X.N[i]?=some x) (hx:Loc X.env.scope x) (hf:X.fn x=true∨X.env.scope.names.lookup x=some .local:=by first | exact .inl rfl | exact .inr rfl | assumption):PG X (.Name x pos) (gName i):=by
  intro pins s σ H v u Q I r h
  exact wpAny_assign_Name (store_ok I hN hi hx r (fun s' I'=>⟨_,H,I',h⟩) hf)
noncomputable def gNil:TGs:=fun vs σ H Q=>vs=[]∧Q σ H
noncomputable def gCons (t:TG) (u:TGs):TGs:=fun vs σ H Q=>∃ v r,vs=v::r∧t v σ H fun σ' H'=>u r σ' H' Q
theorem pgs_nil:PGs X [] gNil:=by
  intro pins s σ H vs us Q I r h
  obtain ⟨e,h⟩:=h
  subst e
  cases r
  exact assignInOrder_nil ⟨σ,H,I,h⟩
theorem pgs_cons {e:Expr} {es:List Expr} {t:TG} {u:TGs} (h1:PG X e t) (h2:PGs X es u)
    (hs:(assignEach (e::es) X.env).map (·.2)=assign e X.env::(assignEach es X.env).map (·.2):=by rfl):PGs X (e::es) (gCons t u):=by
  intro pins s σ H vs us Q I r h
  obtain ⟨v,vr,e1,h⟩:=h
  subst e1
  cases r with
  | cons r rr=>
    rw [hs]
    refine assignInOrder_cons (thn (h1 pins s σ H _ _ _ I r h) fun _ s1 ⟨σ1,H1,I1,q1⟩=>?_)
    exact h2 pins s1 σ1 H1 _ _ Q I1 rr q1
noncomputable def gTup (K:PySem.W.Frag) (n:Nat) (t:TGs):TG:=fun v σ H Q=>∃ a xs,v=.ref a∧SqT K H a xs∧xs.length=n∧t xs σ H Q
theorem pg_tup {es:List Expr} {k:Nat} {t:TGs} {n:Nat} (hc:X.calm=true) (h:PGs X es t)
    (hn:(assignEach es X.env).length=n:=by rfl) (hst:(assignEach es X.env).findIdx? (·.1)=none:=by rfl):PG X (.Tuple es k pos) (gTup X.K n t):=by
  intro pins s σ H v u Q I r hw
  obtain ⟨a,xs,e1,hq,hl,hw⟩:=hw
  subst e1
  cases r
  obtain ⟨its,rv,ht,hz⟩:=I.tuple hq
  refine assign_Tuple_tuple (I.ok.hd hc) ht (by simp [hn,← hl,rv.length]) hst fun h' hx=>?_
  have I1:Inv X pins σ H { s with heap:=h' }:=I.kept (t':=s.toks) fun b o e=>hx b o (Nat.ne_of_lt (Heap.lt_size e)) e
  exact h pins _ σ H xs _ Q I1 (by simpa using rv) hw
noncomputable def tAsg (te:TE) (g:TG):TS:=fun D σ H=>te σ H fun x H1=>g x σ H1 D.nx
theorem ps_set {i:Nat} {x:Str} {e:Expr} {te:TE} {pos':Pos} (hN:X.N.Nodup) (hi:X.N[i]?=some x) (hx:Loc X.env.scope x) (he:PE X e te) (hs:swapsWith e (some (.Name x pos')) pos.line X.env=pure false:=by rfl) (hf:X.fn x=true∨X.env.scope.names.lookup x=some .local:=by first | exact .inl rfl | exact .inr rfl | assumption) :
    PS X (.Assign [.Name x pos'] e pos) (tAsg te (gName i)):=by
  intro pins s σ H D I h
  refine wpAny_Assign_Name (thn (he pins s σ H _ I h) fun v s1 ⟨y,H1,I1,r1,q1⟩=>?_) hs
  exact store_ok I1 hN hi hx r1 (fun s2 I2=>⟨_,H1,I2,q1⟩) hf
end
section
variable {X:Cx} {pos:Pos}
end
structure It where
  go:Nat→Hp→Prop
  yld:Nat→Hp→V→Hp→Prop
  stop:Nat→Hp→Prop
noncomputable def FpOk (X:Cx) (pins:List (Addr×Obj)) (H:Hp) (b:Addr):Prop:=
  H b=none∧b≠X.env.locals∧b ∉ X.fs∧(b∈X.ex∨X.s₀.heap.objs.size≤b)∧(∀ x c,X.env.cells.lookup x=some c→c≠b)∧∀ p∈X.pn++pins,p.1≠b
theorem Inv.fpOk {X:Cx} {pins:List (Addr×Obj)} {σ:St} {H H':Hp} {s:Shared} {b:Addr} (I:Inv X pins σ H s) (hb:s.heap.objs.size≤b) (hn:H' b=none):FpOk X pins H' b:=by
  refine ⟨hn,Nat.ne_of_gt (Nat.lt_of_lt_of_le I.lt hb),I.nofs hb,.inr (Nat.le_trans I.sz hb),fun x c e z=>?_,fun p hp z=>?_⟩
  · obtain ⟨v,q⟩:=I.cell x c e
    exact absurd (Nat.lt_of_lt_of_le q.lt (by rw [z]; exact hb)) (Nat.lt_irrefl _)
  · exact absurd (Nat.lt_of_lt_of_le (Heap.lt_size (I.pin p hp).1) (by rw [z]; exact hb)) (Nat.lt_irrefl _)
structure Turn (P:Program) (w:World) (K:PySem.W.Frag) (tg:Expr) (J:It) (fp:List Addr) (it:Addr) (tn:Nat→Heap→Prop):Prop where
  mem:it∈fp
  obj:∀ i h,tn i h→∀ b∈fp,∃ o,h.get? b=some o∧∀ v,o.data≠.cell v
  keep:∀ i h h',tn i h→(∀ b∈fp,∀ o,h.get? b=some o→h'.get? b=some o)→tn i h'
  item:∀ (X:Cx),X.prog=P→X.w=w→X.K=K→X.calm=true→∀ (i:Nat) (pins:List (Addr×Obj)) (s:Shared) (σ:St) (H:Hp) (E:Value→Shared→Prop),Inv X pins σ H s→(∀ b∈fp,FpOk X pins H b)→tn i s.heap→J.go i H→
    wpAny (model P w) X.A (pyNext (.ref it)) (fun r s1=>∃ u,r=some u∧
      wpAny (model P w) X.A (letOwnedTupleGo tg (.ref it) u) (fun _ s2=>∃ x H',Inv X pins σ H' s2∧RelV x u∧J.yld i H x H'∧tn (i+1) s2.heap∧∀ b∈fp,H' b=none) E s1) E s
  done:∀ (X:Cx),X.prog=P→X.w=w→X.K=K→X.calm=true→∀ (i:Nat) (pins:List (Addr×Obj)) (s:Shared) (σ:St) (H:Hp) (E:Value→Shared→Prop),Inv X pins σ H s→(∀ b∈fp,FpOk X pins H b)→tn i s.heap→J.stop i H→
    wpAny (model P w) X.A (pyNext (.ref it)) (fun r s1=>r=none∧Inv X pins σ H s1) E s
  self:∀ (A:Around) (i:Nat) (s:Shared) (Q:Value→Shared→Prop) (E:Value→Shared→Prop),tn i s.heap→Q (.ref it) s→wpAny (model P w) A (pyIter (.ref it)) Q E s
noncomputable abbrev TI:=St→Hp→(It→Hp→Prop)→Prop
noncomputable def PIE (X:Cx) (pins:List (Addr×Obj)) (σ:St) (tg:Expr) (R:It→Hp→Prop) (itv:Value) (s2:Shared):Prop:=
  ∃ (it:Addr) (fp:List Addr) (tn:Nat→Heap→Prop) (J:It) (H':Hp),itv=.ref it∧Inv X pins σ H' s2∧Turn X.prog X.w X.K tg J fp it tn∧tn 0 s2.heap∧(∀ b∈fp,FpOk X pins H' b)∧R J H'
noncomputable def PI (X:Cx) (tg iter:Expr) (wi:TI):Prop:=
  ∀ (pins:List (Addr×Obj)) (s:Shared) (σ:St) (H:Hp) (R:It→Hp→Prop),Inv X pins σ H s→wi σ H R→
    wpAny (model X.prog X.w) X.A (eval iter X.env) (fun v s1=>wpAny (model X.prog X.w) X.A (pyIter v) (PIE X pins σ tg R) X.xe s1) X.xe s
theorem go_of {M:Model} {A:Around} {E:Value→Shared→Prop} {s:Shared} {tg:Expr} {it:Addr} {u:Value} {o:Obj} {n:String} {vs:Array Value} {Q:Unit→Shared→Prop} (ho:s.heap.get? it=some o) (hc:o.cls=.type n) (hd:o.data=.fields vs)
    (hn:["enumerate", "zip", "dict_itemiterator", "dict_reverseitemiterator", "odict_iterator", "itertools.zip_longest", "itertools.pairwise"].contains n=false) (hQ:Q () s):wpAny M A (letOwnedTupleGo tg (.ref it) u) Q E s:=by
  unfold letOwnedTupleGo
  cases tg<;>first
    | exact wpAny_pure hQ
    | (cases u<;>first
        | exact wpAny_pure hQ
        | (refine wpAny_bind (wpAny_load ho ?_)
           rw [hc,hd]
           show wpAny M A (if (["enumerate", "zip", "dict_itemiterator", "dict_reverseitemiterator", "odict_iterator", "itertools.zip_longest", "itertools.pairwise"].contains n&&vs[0]? == some (rawInt _))=true then _ else _) Q E s
           rw [if_neg (by intro h; rw [hn,Bool.false_and] at h; cases h)]
           exact wpAny_pure hQ))
noncomputable def Itl (K:PySem.W.Frag) (a:Addr):It:=
  ⟨fun i H=>∃ xs x,SqL K H a xs∧xs[i]?=some x,fun i H x H'=>H'=H∧∀ xs,SqL K H a xs→xs[i]?=some x,fun i H=>∃ xs,SqL K H a xs∧xs.length≤i⟩
noncomputable def Itt (K:PySem.W.Frag) (a:Addr):It:=
  ⟨fun i H=>∃ xs x,SqT K H a xs∧xs[i]?=some x,fun i H x H'=>H'=H∧∀ xs,SqT K H a xs→xs[i]?=some x,fun i H=>∃ xs,SqT K H a xs∧xs.length≤i⟩
noncomputable def Itr (lo:Int) (n:Nat):It:=⟨fun i _=>i<n,fun i H x H'=>H'=H∧x=.int (lo+i),fun i _=>n≤i⟩
theorem turn_list {P:Program} {w:World} {K:PySem.W.Frag} {tg:Expr} (a it:Addr):Turn P w K tg (Itl K a) [it] it (fun i h=>h.IsListIter it a i) where
  mem:=by simp
  obj:=fun i h st b hb=>by
    have e:b=it:=by simpa using hb
    subst e
    obtain ⟨o,e,c,d⟩:=st
    exact ⟨o,e,fun v z=>by rw [d] at z; cases z⟩
  keep:=fun i h h' st k=>st.at fun o e=>k it (by simp) o e
  item:=by
    intro X hP hw hK hc i pins s σ H E I hf st hg
    subst hP hw hK
    obtain ⟨xs,x,hq,hx⟩:=hg
    obtain ⟨its,rv,p,hz⟩:=I.list hq
    obtain ⟨u,hu,ru⟩:=rv.get hx
    obtain ⟨f0,f1,f2,f3,f4,f5⟩:=hf it (by simp)
    refine wpAny_pyNext_list_item st p.isList (x:=u) (by simpa using hu) fun h' st' sb=>?_
    have I1:Inv X pins σ H { s with heap:=h' }:=I.turned (t':=s.toks) (fun b o hb e=>(sb.2 b hb).trans e) f0 f1 f3 f4 f5
    obtain ⟨o,e,c,d⟩:=id st'
    exact ⟨u,rfl,go_of (s:={ s with heap:=h' }) e c d (by decide) ⟨x,H,I1,ru,⟨rfl,fun ys hy=>by rw [I.list_inj hy hq]; exact hx⟩,st',fun b hb=>(hf b hb).1⟩⟩
  done:=by
    intro X hP hw hK hc i pins s σ H E I hf st hg
    subst hP hw hK
    obtain ⟨xs,hq,hx⟩:=hg
    obtain ⟨its,rv,p,hz⟩:=I.list hq
    obtain ⟨f0,f1,f2,f3,f4,f5⟩:=hf it (by simp)
    have hl:=rv.length
    exact wpAny_pyNext_list_end (I.ok.hd hc) st p.isList (by simp; omega) fun h' eb=>⟨rfl,I.turned (t':=s.toks) (fun b o hb e=>eb b o hb e) f0 f1 f3 f4 f5⟩
  self:=fun _ _ _ _ _ st h=>wpAny_pyIter_listiter st h
theorem turn_tuple {P:Program} {w:World} {K:PySem.W.Frag} {tg:Expr} (a it:Addr):Turn P w K tg (Itt K a) [it] it (fun i h=>h.IsTupleIter it a i) where
  mem:=by simp
  obj:=fun i h st b hb=>by
    have e:b=it:=by simpa using hb
    subst e
    obtain ⟨o,e,c,d⟩:=st
    exact ⟨o,e,fun v z=>by rw [d] at z; cases z⟩
  keep:=fun i h h' st k=>st.at fun o e=>k it (by simp) o e
  item:=by
    intro X hP hw hK hc i pins s σ H E I hf st hg
    subst hP hw hK
    obtain ⟨xs,x,hq,hx⟩:=hg
    obtain ⟨its,rv,p,hz⟩:=I.tuple hq
    obtain ⟨u,hu,ru⟩:=rv.get hx
    obtain ⟨f0,f1,f2,f3,f4,f5⟩:=hf it (by simp)
    refine wpAny_pyNext_tuple_item st (show s.heap.IsTuple a its.toArray from p) (x:=u) (by simpa using hu) fun h' st' sb=>?_
    have I1:Inv X pins σ H { s with heap:=h' }:=I.turned (t':=s.toks) (fun b o hb e=>(sb.2 b hb).trans e) f0 f1 f3 f4 f5
    obtain ⟨o,e,c,d⟩:=id st'
    exact ⟨u,rfl,go_of (s:={ s with heap:=h' }) e c d (by decide) ⟨x,H,I1,ru,⟨rfl,fun ys hy=>by rw [I.tuple_inj hy hq]; exact hx⟩,st',fun b hb=>(hf b hb).1⟩⟩
  done:=by
    intro X hP hw hK hc i pins s σ H E I hf st hg
    subst hP hw hK
    obtain ⟨xs,hq,hx⟩:=hg
    obtain ⟨its,rv,p,hz⟩:=I.tuple hq
    obtain ⟨f0,f1,f2,f3,f4,f5⟩:=hf it (by simp)
    have hl:=rv.length
    exact wpAny_pyNext_tuple_end (I.ok.hd hc) st (show s.heap.IsTuple a its.toArray from p) (by simp; omega) fun h' eb=>⟨rfl,I.turned (t':=s.toks) (fun b o hb e=>eb b o hb e) f0 f1 f3 f4 f5⟩
  self:=fun _ _ _ _ _ st h=>wpAny_pyIter_tupleiter st h
theorem turn_range {P:Program} {w:World} {K:PySem.W.Frag} {tg:Expr} (it:Addr) (lo:Int) (n:Nat):Turn P w K tg (Itr lo n) [it] it (fun i h=>IsRangeIter h it (lo+(i:Nat)*1) ((n:Int) - (i:Nat)) 1) where
  mem:=by simp
  obj:=fun i h st b hb=>by
    have e:b=it:=by simpa using hb
    subst e
    exact ⟨_,st,fun v z=>by
      have z':Data.fields _=Data.cell v:=z
      cases z'⟩
  keep:=fun i h h' st k=>k it (by simp) _ st
  item:=by
    intro X hP hw hK hc i pins s σ H E I hf st hg
    subst hP hw hK
    obtain ⟨f0,f1,f2,f3,f4,f5⟩:=hf it (by simp)
    have W:=Walks.range (prog:=X.prog) (w:=X.w) (I.ok.hd hc) it lo 1 n
    refine W.item i s _ _ hg st fun v h' tk hv st' kk=>?_
    obtain ⟨t,rfl⟩:=hv
    have I1:Inv X pins σ H { s with heap:=h',toks:=tk }:=I.turned (fun b o hb e=>kk b o (by simpa using hb) e) f0 f1 f3 f4 f5
    refine ⟨_,rfl,go_of (s:={ s with heap:=h',toks:=tk }) (n := "range_iterator") st' rfl rfl (by decide) ⟨.int (lo+i),H,I1,⟨t,?_⟩,⟨rfl,rfl⟩,st',fun b hb=>(hf b hb).1⟩⟩
    rw [Int.mul_one]
  done:=by
    intro X hP hw hK hc i pins s σ H E I hf st hg
    subst hP hw hK
    obtain ⟨f0,f1,f2,f3,f4,f5⟩:=hf it (by simp)
    exact wpAny_pyNext_range_end (I.ok.hd hc) st (by have:n≤i:=hg; omega) fun h' eb=>⟨rfl,I.turned (t':=s.toks) (fun b o hb e=>eb b o hb e) f0 f1 f3 f4 f5⟩
  self:=fun _ _ _ _ _ st h=>wpAny_pyIter_rangeiter st h
end L2
namespace L2
open PySem PySem.Spec PyProof.Rows
section
variable {X:Cx} {tg:Expr}
noncomputable def iList (K:PySem.W.Frag) (tl:TE):TI:=fun σ H R=>tl σ H fun x H1=>∃ a,x=.ref a∧(∃ xs,SqL K H1 a xs)∧R (Itl K a) H1
noncomputable def iTup (K:PySem.W.Frag) (tl:TE):TI:=fun σ H R=>tl σ H fun x H1=>∃ a,x=.ref a∧(∃ xs,SqT K H1 a xs)∧R (Itt K a) H1
theorem pi_list {l:Expr} {tl:TE} (hl:PE X l tl):PI X tg l (iList X.K tl):=by
  intro pins s σ H R I h
  refine thn (hl pins s σ H _ I h) fun v s1 ⟨x,H1,I1,r1,q1⟩=>?_
  obtain ⟨a,e,⟨xs,hq⟩,q⟩:=q1
  subst e
  cases r1
  obtain ⟨its,rv,p,hz⟩:=I1.list hq
  refine wpAny_pyIter_list p.isList ?_
  refine ⟨s1.heap.objs.size,[s1.heap.objs.size],_,_,H1,rfl,I1.kept (t':=s1.toks) fun b o e=>Heap.get?_push_of_some _ e,turn_list a _,⟨_,Heap.get?_push_size _ rfl,rfl,rfl⟩,fun b hb=>?_,q⟩
  have e:b=s1.heap.objs.size:=by simpa using hb
  subst e
  exact I1.fpOk (Nat.le_refl _) (I1.hok.fresh (Nat.le_refl _))
theorem pi_tup {l:Expr} {tl:TE} (hl:PE X l tl):PI X tg l (iTup X.K tl):=by
  intro pins s σ H R I h
  refine thn (hl pins s σ H _ I h) fun v s1 ⟨x,H1,I1,r1,q1⟩=>?_
  obtain ⟨a,e,⟨xs,hq⟩,q⟩:=q1
  subst e
  cases r1
  obtain ⟨its,rv,p,hz⟩:=I1.tuple hq
  refine wpAny_pyIter_tuple (show s1.heap.IsTuple a its.toArray from p) ?_
  refine ⟨s1.heap.objs.size,[s1.heap.objs.size],_,_,H1,rfl,I1.kept (t':=s1.toks) fun b o e=>Heap.get?_push_of_some _ e,turn_tuple a _,⟨_,Heap.get?_push_size _ rfl,rfl,rfl⟩,fun b hb=>?_,q⟩
  have e:b=s1.heap.objs.size:=by simpa using hb
  subst e
  exact I1.fpOk (Nat.le_refl _) (I1.hok.fresh (Nat.le_refl _))
theorem range_it {pins:List (Addr×Obj)} {σ:St} {H:Hp} {s:Shared} {R:It→Hp→Prop} {E:Value→Shared→Prop} {lo hi:Int} {t u v:Tok} {tk:Nat} (I:Inv X pins σ H s) (h1 : -(2 ^ 62)≤lo) (h2:lo<2 ^ 62) (h3 : -(2 ^ 62)≤hi) (h4:hi<2 ^ 62)
    (q:R (Itr lo (hi - lo).toNat) H):wpAny (model X.prog X.w) X.A (pyIter (.ref s.heap.objs.size)) (PIE X pins σ tg R) E { s with heap:=s.heap.push { cls:=.type "range",data:=.fields #[.int lo t,.int hi u,.int 1 v] },toks:=tk }:=by
  refine wpAny_pyIter_range (IsRange.new ..) (small_one h1 h2 h3 h4) ?_
  have I1:Inv X pins σ H { s with heap:=s.heap.push { cls:=.type "range",data:=.fields #[.int lo t,.int hi u,.int 1 v] },toks:=tk }:=I.kept fun b o e=>Heap.get?_push_of_some _ e
  refine ⟨(s.heap.push { cls:=.type "range",data:=.fields #[.int lo t,.int hi u,.int 1 v] }).objs.size,[(s.heap.push { cls:=.type "range",data:=.fields #[.int lo t,.int hi u,.int 1 v] }).objs.size],_,_,H,rfl,
    I1.kept (t':=tk) fun b o e=>Heap.get?_push_of_some _ e,turn_range _ lo (hi - lo).toNat,?_,fun b hb=>?_,q⟩
  · have e1:lo+((0:Nat):Int)*1=lo:=by simp
    have e2:(((hi - lo).toNat:Nat):Int) - ((0:Nat):Int)=Builtin.Range.rangeSize lo hi 1:=by rw [rangeSize_one]; split<;>omega
    show IsRangeIter _ _ (lo+((0:Nat):Int)*1) ((((hi - lo).toNat:Nat):Int) - ((0:Nat):Int)) 1
    rw [e1,e2]
    exact Heap.get?_push_size _ rfl
  · have e:b=(s.heap.push { cls:=.type "range",data:=.fields #[.int lo t,.int hi u,.int 1 v] }).objs.size:=by simpa using hb
    subst e
    exact I1.fpOk (Nat.le_refl _) (I1.hok.fresh (Nat.le_refl _))
noncomputable def iRng1 (ta:TA):TI:=fun σ H R=>ta σ H fun vs H1=>∃ j:Int,vs=[.int j] ∧ -(2 ^ 62)≤j∧j<2 ^ 62∧R (Itr 0 j.toNat) H1
theorem pi_range1 {a:Expr} {ta:TA} {p pos:Pos} (hg:Gl X "range") (hm:X.mg "range" = none) (ha:PA X [a] ta) (hs:starEach [a] X.env=[(false,eval a X.env)]:=by rfl):PI X tg (.Call (.Name "range" p) [a] [] pos) (iRng1 ta):=by
  intro pins s σ H R I h
  refine Call_ (ld_blt I hg hm boot_range (PyProof.Rows.callWith_type1 (thn (ha pos pins s σ H _ I h) fun us s1 ⟨vs,H1,I1,r1,q1⟩=>?_) hs rfl))
  obtain ⟨j,e,q1,q2,q⟩:=q1
  subst e
  cases r1 with
  | cons r rr=>
    cases rr
    obtain ⟨t,rfl⟩:=r
    exact call_range_1 (range_it I1 (by omega) (by omega) q1 q2 (by simpa using q))
noncomputable def tFor (wi:TI) (g:TG) (tb:TS):TS:=fun D σ H=>wi σ H fun J H1=>∃ W:Nat→Nat→St→Hp→Prop,(∃ m,W 0 m σ H1)∧∀ i m σ H,W i m σ H→
  (J.stop i H∧D.nx σ H)∨(J.go i H∧∃ N:St→Hp→Prop,(∀ σ' H',N σ' H'→∃ m',m'<m∧W (i+1) m' σ' H')∧∀ x H',J.yld i H x H'→g x σ H' fun σ2 H2=>tb { D with nx:=N,ct:=N,bk:=D.nx } σ2 H2)
noncomputable def pinsAt (fp:List Addr) (h:Heap):List (Addr×Obj):=fp.filterMap fun b=>(h.get? b).map fun o=>(b,o)
theorem mem_pinsAt {fp:List Addr} {h:Heap} {b:Addr} {o:Obj} (hb:b∈fp) (e:h.get? b=some o):(b,o)∈pinsAt fp h:=List.mem_filterMap.mpr ⟨b,hb,by rw [e]; rfl⟩
theorem of_pinsAt {fp:List Addr} {h:Heap} {p:Addr×Obj} (hp:p∈pinsAt fp h):p.1∈fp∧h.get? p.1=some p.2:=by
  obtain ⟨b,hb,e⟩:=List.mem_filterMap.mp hp
  cases q:h.get? b with
  | none=>rw [q] at e; cases e
  | some o=>
    rw [q] at e
    have e':(b,o)=p:=Option.some.inj e
    subst e'
    exact ⟨hb,q⟩
theorem Inv.pinned {pins:List (Addr×Obj)} {σ:St} {H:Hp} {s:Shared} {fp:List Addr} (I:Inv X pins σ H s) (hf:∀ b∈fp,FpOk X pins H b) (ho:∀ b∈fp,∃ o,s.heap.get? b=some o∧∀ v,o.data≠.cell v):Inv X (pins++pinsAt fp s.heap) σ H s:=
  I.pins_of fun p hp=>(List.mem_append.mp hp).elim (fun z=>I.pin p (List.mem_append_right _ z)) fun z=>by
    obtain ⟨hb,e⟩:=of_pinsAt z
    obtain ⟨f0,f1,f2,_⟩:=hf p.1 hb
    obtain ⟨o,e',d⟩:=ho p.1 hb
    rw [e] at e'; cases e'
    exact ⟨e,f0,f1,f2,d⟩
theorem Inv.unpinned {pins pl:List (Addr×Obj)} {σ:St} {H:Hp} {s:Shared} (I:Inv X (pins++pl) σ H s):Inv X pins σ H s:=I.pins_of fun p hp=>I.pin p (List.mem_append_right _ (List.mem_append_left _ hp))
theorem ps_for {iter:Expr} {body:List Stmt} {wi:TI} {g:TG} {tb:TS} {pos:Pos} (hp:PassesOwn (model X.prog X.w) X.A X.env X.xe) (hc:X.calm=true) (hi:PI X tg iter wi) (hg:PG X tg g) (hb:PSs X body tb)
    (hs:∀ x,foldedSetIterable iter X.env x=pure x:=by intro _; rfl):PS X (.For tg iter body [] pos) (tFor wi g tb):=by
  intro pins s σ H D I h
  refine wpAny_For (thn (hi pins s σ H _ I h) fun v s1 h1=>thn h1 fun itv s2 h2=>?_) hs
  obtain ⟨it,fp,tn,J,H2,e,I2,T,st2,f2,W,⟨m0,w0⟩,turn⟩:=h2
  subst e
  have stat:∀ {H':Hp},(∀ b∈fp,H' b=none)→∀ b∈fp,FpOk X pins H' b:=fun hn b hb=>⟨hn b hb,(f2 b hb).2⟩
  refine codeAny_forLoop_any (fun n s'=>∃ i σ' H',Inv X pins σ' H' s'∧tn i s'.heap∧(∀ b∈fp,H' b=none)∧W i n σ' H') ?_ m0 ⟨0,σ,H2,I2,st2,fun b hb=>(f2 b hb).1,w0⟩
  rintro n s3 ⟨i,σ3,H3,I3,st3,fr3,w3⟩
  rcases turn i n σ3 H3 w3 with ⟨stop,qn⟩ | ⟨go,N,hN,step⟩
  · refine wpAny_passesOwn hp (thn (T.done X rfl rfl rfl hc i pins s3 σ3 H3 X.xe I3 (stat fr3) st3 stop) fun r s4 ⟨hr,I4⟩=>?_)
    subst hr
    exact wpAny_execs_nil ⟨σ3,H3,I4,qn⟩
  · refine wpAny_passesOwn hp (thn (T.item X rfl rfl rfl hc i pins s3 σ3 H3 X.xe I3 (stat fr3) st3 go) fun r s4 ⟨u,hr,h4⟩=>?_)
    subst hr
    refine wpAny_passesOwn hp (thn h4 fun _ s5 ⟨x,H5,I5,r5,y5,st5,fr5⟩=>?_)
    have I5':=I5.pinned (stat fr5) (T.obj _ _ st5)
    refine wpAny_passesOwn hp (thn (hg _ s5 σ3 H5 x u _ I5' r5 (step x H5 y5)) fun _ s6 ⟨σ6,H6,I6,q6⟩=>?_)
    refine wpAny_passesOwn hp (thn (hb _ s6 σ6 H6 _ I6 q6) fun f s7 q7=>?_)
    have again:∀ {σ7:St} {H7:Hp},Inv X (pins++pinsAt fp s5.heap) σ7 H7 s7→N σ7 H7→∃ m,m<n∧∃ i σ' H',Inv X pins σ' H' s7∧tn i s7.heap∧(∀ b∈fp,H' b=none)∧W i m σ' H':=fun {σ7 H7} I7 n7=>by
      obtain ⟨m',hm,w7⟩:=hN σ7 H7 n7
      refine ⟨m',hm,i+1,σ7,H7,I7.unpinned,T.keep _ _ _ st5 fun b hb o e=>(I7.pin (b,o) (List.mem_append_right _ (List.mem_append_right _ (mem_pinsAt hb e)))).1,fun b hb=>?_,w7⟩
      obtain ⟨o,e,d⟩:=T.obj _ _ st5 b hb
      exact (I7.pin (b,o) (List.mem_append_right _ (List.mem_append_right _ (mem_pinsAt hb e)))).2.1
    cases f with
    | next=>obtain ⟨σ7,H7,I7,n7⟩:=q7; exact again I7 n7
    | cont=>obtain ⟨σ7,H7,I7,n7⟩:=q7; exact again I7 n7
    | brk=>obtain ⟨σ7,H7,I7,q7⟩:=q7; exact ⟨σ7,H7,I7.unpinned,q7⟩
    | ret v=>obtain ⟨x7,σ7,H7,I7,r7,q7⟩:=q7; exact ⟨x7,σ7,H7,I7.unpinned,r7,q7⟩
end
end L2
namespace L2
open PySem PySem.Spec PyProof.Rows
noncomputable abbrev R2:=V→V→Hp→VK→Prop
noncomputable def OpR (X:Cx) (f:Value→Value→Sem Value) (r:R2):Prop:=
  ∀ (pins:List (Addr×Obj)) (s:Shared) (σ:St) (H:Hp) (x y:V) (v u:Value) (Q:VK),Inv X pins σ H s→RelV x v→RelV y u→r x y H Q→
    wpAny (model X.prog X.w) X.A (f v u) (EP X pins σ Q) X.xe s
noncomputable def UnR (X:Cx) (f:Value→Sem Value) (r:V→Hp→VK→Prop):Prop:=
  ∀ (pins:List (Addr×Obj)) (s:Shared) (σ:St) (H:Hp) (x:V) (v:Value) (Q:VK),Inv X pins σ H s→RelV x v→r x H Q→
    wpAny (model X.prog X.w) X.A (f v) (EP X pins σ Q) X.xe s
noncomputable def CallR (X:Cx) (f:Value) (r:List V→Hp→VK→Prop):Prop:=
  ∀ (pins:List (Addr×Obj)) (s:Shared) (σ:St) (H:Hp) (xs:List V) (us:List Value) (Q:VK),Inv X pins σ H s→Vals xs us→r xs H Q→
    wpAny (model X.prog X.w) X.A (call f us) (EP X pins σ Q) X.xe s
noncomputable def tOp (r:R2) (ta tb:TE):TE:=fun σ H Q=>ta σ H fun x H1=>tb σ H1 fun y H2=>r x y H2 Q
noncomputable def tUn (r:V→Hp→VK→Prop) (ta:TE):TE:=fun σ H Q=>ta σ H fun x H1=>r x H1 Q
noncomputable def rI (C:Int→Int→Prop) (g:Int→Int→V):R2:=fun x y H Q=>∃ i j,x=.int i∧y=.int j∧C i j∧Q (g i j) H
noncomputable def rI0 (g:Int→Int→V):R2:=fun x y H Q=>∃ i j,x=.int i∧y=.int j∧Q (g i j) H
noncomputable def rU (g:Int→V):V→Hp→VK→Prop:=fun x H Q=>∃ i,x=.int i∧Q (g i) H
section
variable {X:Cx} {a b c:Expr} {ta tb tc:TE} {pos:Pos}
theorem binT (ha:PE X a ta) (hb:PE X b tb) {pins:List (Addr×Obj)} {s:Shared} {σ:St} {H:Hp} {R:V→V→Hp→Prop} (I:Inv X pins σ H s)
    (h:ta σ H fun x H1=>tb σ H1 fun y H2=>R x y H2) {Q:Value→Shared→Prop} {f:Value→Value→Sem Value}
    (hf:∀ v u s2 x y H2,Inv X pins σ H2 s2→RelV x v→RelV y u→R x y H2→wpAny (model X.prog X.w) X.A (f v u) Q X.xe s2) :
    wpAny (model X.prog X.w) X.A (eval a X.env) (fun v s₁=>wpAny (model X.prog X.w) X.A (eval b X.env) (fun u s₂=>wpAny (model X.prog X.w) X.A (f v u) Q X.xe s₂) X.xe s₁) X.xe s:=by
  refine thn (ha pins s σ H _ I h) fun v s1 ⟨x,H1,I1,r1,q1⟩=>?_
  refine thn (hb pins s1 σ H1 _ I1 q1) fun u s2 ⟨y,H2,I2,r2,q2⟩=>?_
  exact hf v u s2 x y H2 I2 r1 r2 q2
theorem pe_op {op:Operator} {r:R2} (ho:OpR X (binaryOp op) r) (ha:PE X a ta) (hb:PE X b tb):PE X (.BinOp a op b pos) (tOp r ta tb):=by
  intro pins s σ H Q I h
  exact wpAny_BinOp (binT ha hb I h fun v u s2 x y H2 I2 rx ry q=>ho pins s2 σ H2 x y v u Q I2 rx ry q)
theorem pe_un {op:UnaryOp} {r:V→Hp→VK→Prop} (ho:UnR X (unaryOp op) r) (ha:PE X a ta):PE X (.UnaryOp op a pos) (tUn r ta):=by
  intro pins s σ H Q I h
  exact UnaryOp_ (thn (ha pins s σ H _ I h) fun v s1 ⟨x,H1,I1,r1,q1⟩=>ho pins s1 σ H1 x v Q I1 r1 q1)
theorem opI {f:Value→Value→Sem Value} {C:Int→Int→Prop} {g:Int→Int→Int}
    (rule:∀ (i j:Int) (t u:Tok) (s:Shared) (Q:Value→Shared→Prop) (E:Value→Shared→Prop),C i j→Q (.int (g i j) s.toks) { s with toks:=s.toks+1 }→wpAny (model X.prog X.w) X.A (f (.int i t) (.int j u)) Q E s) :
    OpR X f (rI C fun i j=>.int (g i j)):=by
  intro pins s σ H x y v u Q I rx ry h
  obtain ⟨i,j,rfl,rfl,hc,q⟩:=h
  obtain ⟨t,rfl⟩:=rx
  obtain ⟨t',rfl⟩:=ry
  exact rule i j t t' s _ _ hc ⟨.int (g i j),H,I.tok _,⟨_,rfl⟩,q⟩
theorem opI0 {f:Value→Value→Sem Value} {g:Int→Int→Int}
    (rule:∀ (i j:Int) (t u:Tok) (s:Shared) (Q:Value→Shared→Prop) (E:Value→Shared→Prop),Q (.int (g i j) s.toks) { s with toks:=s.toks+1 }→wpAny (model X.prog X.w) X.A (f (.int i t) (.int j u)) Q E s) :
    OpR X f (rI0 fun i j=>.int (g i j)):=by
  intro pins s σ H x y v u Q I rx ry h
  obtain ⟨i,j,rfl,rfl,q⟩:=h
  obtain ⟨t,rfl⟩:=rx
  obtain ⟨t',rfl⟩:=ry
  exact rule i j t t' s _ _ ⟨.int (g i j),H,I.tok _,⟨_,rfl⟩,q⟩
theorem opB0 {f:Value→Value→Sem Value} {g:Int→Int→Bool}
    (rule:∀ (i j:Int) (t u:Tok) (s:Shared) (Q:Value→Shared→Prop) (E:Value→Shared→Prop),Q (.bool (g i j)) s→wpAny (model X.prog X.w) X.A (f (.int i t) (.int j u)) Q E s) :
    OpR X f (rI0 fun i j=>.bl (g i j)):=by
  intro pins s σ H x y v u Q I rx ry h
  obtain ⟨i,j,rfl,rfl,q⟩:=h
  obtain ⟨t,rfl⟩:=rx
  obtain ⟨t',rfl⟩:=ry
  exact rule i j t t' s _ _ ⟨.bl (g i j),H,I,rfl,q⟩
noncomputable def CPow (i j:Int):Prop:=0≤j∧j≤1000000∧i.natAbs<2 ^ 64
noncomputable def CMul (i j:Int):Prop:=(-(2 ^ 64)<i∧i<2 ^ 64)∨(-(2 ^ 64)<j∧j<2 ^ 64)
theorem CMul.ok {i j:Int} (h:CMul i j):IntMulOk i j:=by
  rcases h with ⟨h1,h2⟩ | ⟨h1,h2⟩
  · exact .of_left (intBits_le_64 h1 h2)
  · exact .of_right (intBits_le_64 h1 h2)
theorem op_add:OpR X (binaryOp .Add) (rI0 fun i j=>.int (i+j)):=opI0 fun _ _ _ _ _ _ _ q=>add_int q
theorem op_sub:OpR X (binaryOp .Sub) (rI0 fun i j=>.int (i - j)):=opI0 fun _ _ _ _ _ _ _ q=>sub_int q
theorem op_mul:OpR X (binaryOp .Mult) (rI CMul fun i j=>.int (i*j)):=opI fun _ _ _ _ _ _ _ hc q=>mul_int q hc.ok
theorem op_mod:OpR X (binaryOp .Mod) (rI (fun _ j=>0<j) fun i j=>.int (i % j)):=opI fun i j _ _ _ _ _ hc q=>by
  have h1:(0:Int)<j:=hc
  exact mod_int' (by omega) (by rw [Int.fmod_eq_emod_of_nonneg i (by omega)]; exact q)
theorem op_shl:OpR X (binaryOp .LShift) (rI CPow fun i j=>.int (i*2 ^ j.toNat)):=opI fun _ _ _ _ _ _ _ hc q=>lshift_int_small hc.1 hc.2.1 hc.2.2 q
theorem unI {f:Value→Sem Value} {g:Int→Int}
    (rule:∀ (i:Int) (t:Tok) (s:Shared) (Q:Value→Shared→Prop) (E:Value→Shared→Prop),Q (.int (g i) s.toks) { s with toks:=s.toks+1 }→wpAny (model X.prog X.w) X.A (f (.int i t)) Q E s) :
    UnR X f (rU fun i=>.int (g i)):=by
  intro pins s σ H x v Q I rx h
  obtain ⟨i,rfl,q⟩:=h
  obtain ⟨t,rfl⟩:=rx
  exact rule i t s _ _ ⟨.int (g i),H,I.tok _,⟨_,rfl⟩,q⟩
theorem un_neg:UnR X (unaryOp .USub) (rU fun i=>.int (-i)):=unI fun _ _ _ _ _ q=>neg_int q
theorem op_add_ib:OpR X (binaryOp .Add) (fun x y H Q=>∃ i k,x=.int i∧y=.bl k∧Q (.int (i+b2i k)) H):=by
  intro pins s σ H x y v u Q I rx ry h
  obtain ⟨i,k,rfl,rfl,q⟩:=h
  obtain ⟨t,rfl⟩:=rx
  cases ry
  exact add_int_bool ⟨.int (i+b2i k),H,I.tok _,⟨_,rfl⟩,q⟩
end
noncomputable def scal:V→V→Bool
  | .non,.non=>true | .non,.int _=>true | .int _,.non=>true | .non,.bl _=>true | .bl _,.non=>true | .non,.str _=>true | .str _,.non=>true
  | .int _,.int _=>true | .bl _,.bl _=>true | .str _,.str _=>true | .byt _,.byt _=>true
  | .int _,.str _=>true | .str _,.int _=>true | .bl _,.str _=>true | .str _,.bl _=>true
  | _,_=>false
noncomputable def rEq:R2:=fun x y H Q=>scal x y=true∧Q (.bl (decide (x=y))) H
noncomputable def rNe:R2:=fun x y H Q=>scal x y=true∧Q (.bl (!decide (x=y))) H
theorem dec_int {i j:Int}:decide (V.int i=V.int j)=(i == j):=by
  rw [Bool.eq_iff_iff]
  simp
theorem dec_bl {i j:Bool}:decide (V.bl i=V.bl j)=(i == j):=by
  rw [Bool.eq_iff_iff]
  simp
theorem dec_str {i j:Str}:decide (V.str i=V.str j)=(i == j):=by
  rw [Bool.eq_iff_iff]
  simp
theorem dec_byt {i j:Array UInt8}:decide (V.byt i=V.byt j)=(i.toList == j.toList):=by
  rw [Bool.eq_iff_iff]
  cases i
  cases j
  simp
section
variable {X:Cx} {a b c:Expr} {ta tb tc:TE} {pos:Pos}
theorem fin_bl {pins:List (Addr×Obj)} {σ:St} {H:Hp} {s:Shared} {Q:VK} {k k':Bool} (I:Inv X pins σ H s) (q:Q (.bl k) H) (e:k=k'):EP X pins σ Q (.bool k') s:=by
  subst e
  exact ⟨.bl k,H,I,rfl,q⟩
theorem op_eq:OpR X (compareOp .Eq) rEq:=by
  intro pins s σ H x y v u Q I rx ry h
  obtain ⟨hs,q⟩:=h
  cases x with
  | non=>
    cases rx
    cases y with
    | non=>cases ry; exact PySem.EqNone.eq_none_none (fin_bl I q (by simp))
    | bl j=>cases ry; exact PySem.EqNone.eq_none_bool (fin_bl I q (by simp))
    | int j=>obtain ⟨t',rfl⟩:=ry; exact PySem.EqNone.eq_none_int (fin_bl I q (by simp))
    | str j=>obtain ⟨t',rfl⟩:=ry; exact PySem.EqNone.eq_none_str (fin_bl I q (by simp))
    | _=>exact absurd (show false=true from hs) Bool.false_ne_true
  | bl i=>
    cases rx
    cases y with
    | non=>cases ry; exact PySem.EqNone.eq_bool_none (fin_bl I q (by simp))
    | bl j=>cases ry; exact eq_bool (fin_bl I q dec_bl)
    | str j=>obtain ⟨t',rfl⟩:=ry; exact PySem.EqMixed.eq_bool_str (fin_bl I q (by simp))
    | _=>exact absurd (show false=true from hs) Bool.false_ne_true
  | int i=>
    obtain ⟨t,rfl⟩:=rx
    cases y with
    | non=>cases ry; exact PySem.EqNone.eq_int_none (fin_bl I q (by simp))
    | int j=>obtain ⟨t',rfl⟩:=ry; exact eq_int (fin_bl I q dec_int)
    | str j=>obtain ⟨t',rfl⟩:=ry; exact PySem.EqMixed.eq_int_str (fin_bl I q (by simp))
    | _=>exact absurd (show false=true from hs) Bool.false_ne_true
  | str i=>
    obtain ⟨t,rfl⟩:=rx
    cases y with
    | non=>cases ry; exact PySem.EqNone.eq_str_none (fin_bl I q (by simp))
    | bl j=>cases ry; exact PySem.EqMixed.eq_str_bool (fin_bl I q (by simp))
    | int j=>obtain ⟨t',rfl⟩:=ry; exact PySem.EqMixed.eq_str_int (fin_bl I q (by simp))
    | str j=>obtain ⟨t',rfl⟩:=ry; exact eq_str (fin_bl I q dec_str)
    | _=>exact absurd (show false=true from hs) Bool.false_ne_true
  | byt i=>
    obtain ⟨t,rfl⟩:=rx
    cases y with
    | byt j=>obtain ⟨t',rfl⟩:=ry; exact PySem.W.eq_bytes (fin_bl I q dec_byt)
    | _=>exact absurd (show false=true from hs) Bool.false_ne_true
  | _=>cases y<;>exact absurd (show false=true from hs) Bool.false_ne_true
theorem op_ne:OpR X (compareOp .NotEq) rNe:=by
  intro pins s σ H x y v u Q I rx ry h
  obtain ⟨hs,q⟩:=h
  cases x with
  | non=>
    cases rx
    cases y with
    | non=>cases ry; exact PySem.EqNone.ne_none_none (fin_bl I q (by simp))
    | bl j=>cases ry; exact PySem.EqNone.ne_none_bool (fin_bl I q (by simp))
    | int j=>obtain ⟨t',rfl⟩:=ry; exact PySem.EqNone.ne_none_int (fin_bl I q (by simp))
    | str j=>obtain ⟨t',rfl⟩:=ry; exact PySem.EqNone.ne_none_str (fin_bl I q (by simp))
    | _=>exact absurd (show false=true from hs) Bool.false_ne_true
  | bl i=>
    cases rx
    cases y with
    | non=>cases ry; exact PySem.EqNone.ne_bool_none (fin_bl I q (by simp))
    | bl j=>cases ry; exact ne_bool (fin_bl I q (congrArg not dec_bl))
    | str j=>obtain ⟨t',rfl⟩:=ry; exact PySem.EqMixed.ne_bool_str (fin_bl I q (by simp))
    | _=>exact absurd (show false=true from hs) Bool.false_ne_true
  | int i=>
    obtain ⟨t,rfl⟩:=rx
    cases y with
    | non=>cases ry; exact PySem.EqNone.ne_int_none (fin_bl I q (by simp))
    | int j=>obtain ⟨t',rfl⟩:=ry; exact ne_int (fin_bl I q (congrArg not dec_int))
    | str j=>obtain ⟨t',rfl⟩:=ry; exact PySem.EqMixed.ne_int_str (fin_bl I q (by simp))
    | _=>exact absurd (show false=true from hs) Bool.false_ne_true
  | str i=>
    obtain ⟨t,rfl⟩:=rx
    cases y with
    | non=>cases ry; exact PySem.EqNone.ne_str_none (fin_bl I q (by simp))
    | bl j=>cases ry; exact PySem.EqMixed.ne_str_bool (fin_bl I q (by simp))
    | int j=>obtain ⟨t',rfl⟩:=ry; exact PySem.EqMixed.ne_str_int (fin_bl I q (by simp))
    | str j=>obtain ⟨t',rfl⟩:=ry; exact ne_str (fin_bl I q (congrArg not dec_str))
    | _=>exact absurd (show false=true from hs) Bool.false_ne_true
  | byt i=>
    obtain ⟨t,rfl⟩:=rx
    cases y with
    | byt j=>obtain ⟨t',rfl⟩:=ry; exact PySem.W.ne_bytes (fin_bl I q (congrArg not dec_byt))
    | _=>exact absurd (show false=true from hs) Bool.false_ne_true
  | _=>cases y<;>exact absurd (show false=true from hs) Bool.false_ne_true
theorem op_lt:OpR X (compareOp .Lt) (rI0 fun i j=>.bl (decide (i<j))):=opB0 fun _ _ _ _ _ _ _ q=>lt_int q
theorem op_le:OpR X (compareOp .LtE) (rI0 fun i j=>.bl (decide (i≤j))):=opB0 fun _ _ _ _ _ _ _ q=>le_int q
theorem op_gt:OpR X (compareOp .Gt) (rI0 fun i j=>.bl (decide (j<i))):=opB0 fun _ _ _ _ _ _ _ q=>gt_int q
theorem op_in_str:OpR X (compareOp .In) (fun x y H Q=>∃ i j,x=.str i∧y=.str j∧Q (.bl (!(Builtin.Str.occurrences j i 0 j.length 1).isEmpty)) H):=by
  intro pins s σ H x y v u Q I rx ry h
  obtain ⟨i,j,rfl,rfl,q⟩:=h
  obtain ⟨t,rfl⟩:=rx
  obtain ⟨t',rfl⟩:=ry
  exact in_str (fin_bl I q rfl)
theorem op_isN:OpR X (compareOp .Is) (fun x y H Q=>y=.non∧Q (.bl (decide (x=.non))) H):=by
  intro pins s σ H x y v u Q I rx ry h
  obtain ⟨rfl,q⟩:=h
  cases ry
  refine is_none_gen (fin_bl I q ?_)
  cases x<;>first
    | (cases rx; rfl)
    | (obtain ⟨t,rfl⟩:=rx; rfl)
theorem op_notN:OpR X (compareOp .IsNot) (fun x y H Q=>y=.non∧Q (.bl (!decide (x=.non))) H):=by
  intro pins s σ H x y v u Q I rx ry h
  obtain ⟨rfl,q⟩:=h
  cases ry
  refine isnot_none_gen (fin_bl I q ?_)
  cases x<;>first
    | (cases rx; rfl)
    | (obtain ⟨t,rfl⟩:=rx; rfl)
theorem OpR.or {f:Value→Value→Sem Value} {r r':R2} (h:OpR X f r) (h':OpR X f r'):OpR X f (fun x y H Q=>r x y H Q∨r' x y H Q):=by
  intro pins s σ H x y v u Q I rx ry q
  rcases q with q | q
  · exact h pins s σ H x y v u Q I rx ry q
  · exact h' pins s σ H x y v u Q I rx ry q
theorem nomark (b:Expr) {op:CmpOp} (h:op≠.In:=by decide) (h2:op≠.NotIn:=by decide):behindInMarks op b=false:=by
  have e1:(op == CmpOp.In)=false:=by cases op<;>first | rfl | exact absurd rfl h
  have e2:(op == CmpOp.NotIn)=false:=by cases op<;>first | rfl | exact absurd rfl h2
  cases b<;>simp [behindInMarks,e1,e2]
theorem pe_cmpR {op:CmpOp} {r:R2} (ho:OpR X (compareOp op) r) (ha:PE X a ta) (hb:PE X b tb) (hm:behindInMarks op b=false):PE X (.Compare a [op] [b] pos) (tOp r ta tb):=by
  intro pins s σ H Q I h
  exact wpAny_Compare1 (binT ha hb I h fun v u s2 x y H2 I2 rx ry q=>ho pins s2 σ H2 x y v u Q I2 rx ry q) hm
noncomputable def tTest (t:TE):TT:=fun σ H Q=>t σ H fun x H'=>∃ k,x=.bl k∧Q k H'
theorem pt_cmpR {op:CmpOp} {r:R2} (ho:OpR X (compareOp op) r) (ha:PE X a ta) (hb:PE X b tb) (hm:behindInMarks op b=false):PT X (.Compare a [op] [b] pos) (tTest (tOp r ta tb)):=by
  intro pins s σ H Q I h
  refine wpAny_isTrue_Compare1 (thn (ha pins s σ H _ I h) fun v s1 ⟨x,H1,I1,r1,q1⟩=>thn (hb pins s1 σ H1 _ I1 q1) fun u s2 ⟨y,H2,I2,r2,q2⟩=>
    thn (ho pins s2 σ H2 x y v u _ I2 r1 r2 q2) fun c s3 ⟨z,H3,I3,r3,k,e,q3⟩=>?_) hm
  subst e
  cases r3
  exact wpAny_truthy_bool ⟨H3,I3,q3⟩
theorem line63:(sizeLine:Nat)<2 ^ 63:=by rw [sizeLine_eq]; decide
theorem op_add_str:OpR X (binaryOp .Add) (fun x y H Q=>∃ i j,x=.str i∧y=.str j∧i.length+j.length≤sizeLine∧Q (.str (i++j)) H):=by
  intro pins s σ H x y v u Q I rx ry h
  obtain ⟨i,j,rfl,rfl,hz,q⟩:=h
  obtain ⟨t,rfl⟩:=rx
  obtain ⟨t',rfl⟩:=ry
  exact add_str (fun t' tk=>⟨.str (i++j),H,I.tok _,⟨_,rfl⟩,q⟩) hz
theorem vals1 {x:V} {us:List Value} (r:Vals [x] us):∃ u,us=[u]∧RelV x u:=by
  cases r with
  | cons r1 r2=>cases r2; exact ⟨_,rfl,r1⟩
theorem vals2 {x y:V} {us:List Value} (r:Vals [x,y] us):∃ u w',us=[u,w']∧RelV x u∧RelV y w':=by
  cases r with
  | cons r1 r2=>
    cases r2 with
    | cons r3 r4=>cases r4; exact ⟨_,_,rfl,r1,r3⟩
theorem call_int1:CallR X (.type "int") (fun xs H Q=>(∃ i,xs=[.int i]∧Q (.int i) H)∨∃ k,xs=[.bl k]∧Q (.int (if k then 1 else 0)) H):=by
  intro pins s σ H xs us Q I r h
  rcases h with ⟨i,rfl,q⟩ | ⟨k,rfl,q⟩
  · obtain ⟨u,rfl,t,rfl⟩:=vals1 r
    exact call_int_int ⟨.int i,H,I,⟨_,rfl⟩,q⟩
  · obtain ⟨u,rfl,r1⟩:=vals1 r
    cases r1
    exact call_int_bool ⟨.int (if k then 1 else 0),H,I.tok _,⟨_,rfl⟩,q⟩
theorem call_str_int:CallR X (.type "str") (fun xs H Q=>∃ i,xs=[.int i]∧i.natAbs.log2<1920∧Q (.str (toString i)) H):=by
  intro pins s σ H xs us Q I r h
  obtain ⟨i,rfl,hz,q⟩:=h
  obtain ⟨u,rfl,t,rfl⟩:=vals1 r
  exact PySem.P.str_of_int hz ⟨.str _,H,I.tok _,⟨_,rfl⟩,q⟩
end
end L2
namespace L2
open PySem PySem.Spec PyProof.Rows
structure ObjM (h:Heap) (x dx C:Addr) (mA:Str→Option Value):Prop where
  obj:h.get? x=some (PySem.W.instObj C dx)
  ns:h.Ns1 dx mA
  ne:dx≠x
theorem lookIn_ns {h:Heap} {dx:Addr} {mA:Str→Option Value} (n:h.Ns1 dx mA):∃ od,h.get? dx=some od∧∀ name,PySem.W.lookIn name od=some (mA name):=by
  obtain ⟨o,es,ep,ho,hd,hk,_,hm⟩:=n
  refine ⟨o,ho,fun name=>?_⟩
  have e:=hm name
  unfold nsFind findBy at e
  rw [← Array.find?_toList] at e
  unfold PySem.W.lookIn
  rw [hd]
  dsimp only
  split
  · rename_i y q
    rw [q] at e
    exact congrArg some e
  · rename_i q
    rw [q] at e
    have a:es.toList.any (·.refKey)=false:=by
      rw [List.any_eq_false]
      intro y hy
      obtain ⟨z,t,hkey⟩:=hk y (Array.mem_toList_iff.mp hy)
      simp [DictEntry.refKey,hkey]
    have a':¬ es.toList.any (·.refKey)=true:=by rw [a]; exact Bool.false_ne_true
    rw [if_neg a']
    exact congrArg some e
theorem ObjM.look {h:Heap} {x dx C:Addr} {mA:Str→Option Value} (I:ObjM h x dx C mA):∃ od,PySem.W.InstAt h x (PySem.W.instObj C dx) C (some od)∧∀ name,PySem.W.lookIn name od=some (mA name):=
  let ⟨od,ho,hl⟩:=lookIn_ns I.ns
  ⟨od,⟨I.obj,rfl,rfl,ho⟩,hl⟩
section
variable {prog:Program} {w:World} {A:Around} {E:Value→Shared→Prop} {s:Shared} {K:PySem.W.Frag} {x dx C f:Addr} {mA:Str→Option Value} {name:Str} {v:Value}
end
theorem RelO.some_of {v:V} {o:Option Value} (r:RelO (some v) o):∃ u,o=some u∧RelV v u:=by
  cases o with
  | none=>exact (show False from r).elim
  | some u=>exact ⟨u,rfl,r⟩
section
variable {P:Program} {w:World} {H H':Hp} {h h':Heap} {a C dx:Addr} {fs fs':List (Str×V)}
theorem ins_get (hok:HOk P w H h) (e:H a=some (.ins C dx fs)):∃ mA,ObjM h a dx C mA∧(∀ f,RelO (fs.lookup f) (mA f))∧PySem.Within mA (fs.map (·.1))∧fs.length≤1000∧H dx=some (.own a):=by
  obtain ⟨d,z,ne,ob,mA,n,r,q⟩:=(show ObjOk P w H h a (.ins C dx fs) from hok a _ e)
  exact ⟨mA,⟨ob,n,ne⟩,r,q,z,d⟩
end
structure Cls (K:PySem.W.Frag) (C:Addr):Prop where
  pg:PySem.W.plainGet K C Str.empty=true
  hd:PySem.W.hasDictIn K C=true
  po:PySem.W.plainOver K C=true
  sa:PySem.W.findIn K (.ref C) "__setattr__" = some (some (.builtin "object.__setattr__"))
theorem Cls.get {K:PySem.W.Frag} {C:Addr} (c:Cls K C) (f:Str):PySem.W.plainGet K C f=true:=c.pg
section
variable {X:Cx} {pins:List (Addr×Obj)} {σ:St} {H:Hp} {s:Shared} {a C dx:Addr} {fs:List (Str×V)} {f:Str} {v:V} {A:Around} {E:Value→Shared→Prop}
end
section
variable {X:Cx} {o e value:Expr} {f:Str} {pos pos' tpos:Pos} {ta tv:TE}
end
section
variable {X:Cx} {pins:List (Addr×Obj)} {σ:St} {H:Hp} {s:Shared} {A:Around} {E:Value→Shared→Prop} {Q:Value→Shared→Prop} {c:Value} {b:Bool}
inductive TyOf (K:PySem.W.Frag) (H:Hp):V→Value→Prop where
  | non:TyOf K H .non (.type "NoneType")
  | bl (x:Bool):TyOf K H (.bl x) (.type "bool")
  | int (i:Int):TyOf K H (.int i) (.type "int")
  | str (x:Str):TyOf K H (.str x) (.type "str")
  | flt (x:UInt64):TyOf K H (.flt x) (.type "float")
  | lst {a:Addr} {xs:List V} (e:H a=some (.lst xs)):TyOf K H (.ref a) (.type "list")
  | frz {a:Addr} {o:Obj} {xs:List V} (e:H a=some (.frz o (.lst xs))):TyOf K H (.ref a) (.type "list")
  | tup {a:Addr} {xs:List V} (e:H a=some (.tup xs)):TyOf K H (.ref a) (.type "tuple")
  | dK {a:Addr} {kvs:List (Key×V)} (e:H a=some (.dK kvs)):TyOf K H (.ref a) (.type "dict")
  | dT {a:Addr} {kvs:List (List Key×V)} (e:H a=some (.dT kvs)):TyOf K H (.ref a) (.type "dict")
  | ins {a C dx:Addr} {fs:List (Str×V)} (e:H a=some (.ins C dx fs)) (cl:Cls K C) (ha:PySem.W.findIn K (.ref C) "__class__" = some (some (.builtin "object.__class__")))
      (hn:PySem.W.specialIn K (.builtin "object.__class__") "__get__" = some (some (.builtin "getset_descriptor.__get__"))) (htk:PySem.W.takesIn K (.builtin "object.__class__")=some true)
      (hm:PySem.W.mroIn K C (.type "object")=some true):TyOf K H (.ref a) (.ref C)
theorem isinst_ok {x:V} {u t:Value} (I:Inv X pins σ H s) (rx:RelV x u) (ty:TyOf X.K H x t) (e:PySem.W.kitOne X.K t c=some b) (h:∀ tk,Q (.bool b) { s with toks:=tk }) :
    wpAny (model X.prog X.w) A (call (.builtin "isinstance") [u,c]) Q E s:=by
  cases ty with
  | non=>cases (show u=Value.none from rx); exact PySem.W.kia_one PySem.W.kitx_none I.kIn True.intro e (fun z=>nomatch z) h
  | bl y=>cases (show u=Value.bool y from rx); exact PySem.W.kia_one PySem.W.kitx_bool I.kIn True.intro e (fun z=>nomatch z) h
  | int i=>obtain ⟨t,q⟩:=(show ∃ t,u=Value.int i t from rx); cases q; exact PySem.W.kia_one PySem.W.kitx_int I.kIn True.intro e (fun z=>nomatch z) h
  | str y=>obtain ⟨t,q⟩:=(show ∃ t,u=Value.str y t from rx); cases q; exact PySem.W.kia_one PySem.W.kitx_str I.kIn True.intro e (fun z=>nomatch z) h
  | flt y=>obtain ⟨t,q⟩:=(show ∃ t,u=Value.float y t from rx); cases q; exact PySem.W.kia_one PySem.W.kitx_float I.kIn True.intro e (fun z=>nomatch z) h
  | @lst a xs ea=>
    cases (show u=Value.ref a from rx)
    obtain ⟨_,_,n,_,h1⟩:=(show ObjOk X.prog X.w H s.heap a (.lst xs) from I.hok a _ ea)
    exact PySem.W.kia_one PySem.W.kitx_list I.kIn ⟨_,h1,rfl⟩ e (fun z=>nomatch z) h
  | @frz a ob xs ea=>
    cases (show u=Value.ref a from rx)
    obtain ⟨_,_,_,n,_,h1⟩:=(show ObjOk X.prog X.w H s.heap a (.frz ob (.lst xs)) from I.hok a _ ea)
    exact PySem.W.kia_one PySem.W.kitx_list I.kIn ⟨_,h1,rfl⟩ e (fun z=>nomatch z) h
  | @tup a xs ea=>
    cases (show u=Value.ref a from rx)
    obtain ⟨_,_,_,p⟩:=(show ObjOk X.prog X.w H s.heap a (.tup xs) from I.hok a _ ea)
    obtain ⟨o,h1,h2,_⟩:=p
    exact PySem.W.kia_one PySem.W.kitx_tuple I.kIn ⟨o,h1,h2⟩ e (fun z=>nomatch z) h
  | @dK a kvs ea=>
    cases (show u=Value.ref a from rx)
    obtain ⟨_,_,vs,_,p⟩:=(show ObjOk X.prog X.w H s.heap a (.dK kvs) from I.hok a _ ea)
    obtain ⟨o,es,ep,h1,h2,_⟩:=p
    exact PySem.W.kia_one PySem.W.kitx_dict I.kIn ⟨o,h1,h2.1⟩ e (fun z=>nomatch z) h
  | @dT a kvs ea=>
    cases (show u=Value.ref a from rx)
    obtain ⟨_,_,xs,_,o,es,ep,h1,h2,_⟩:=(show ObjOk X.prog X.w H s.heap a (.dT kvs) from I.hok a _ ea)
    exact PySem.W.kia_one PySem.W.kitx_dict I.kIn ⟨o,h1,h2.1⟩ e (fun z=>nomatch z) h
  | @ins a C dx fs ea cl ha hn htk hm=>
    cases (show u=Value.ref a from rx)
    obtain ⟨mA,O,_⟩:=ins_get I.hok ea
    obtain ⟨od,J,_⟩:=O.look
    exact PySem.W.kia_one (PySem.W.kitx_own (cl.get _) cl.hd ha hn htk hm) I.kIn J e (fun z=>nomatch z) h
end
end L2
namespace L2
open PySem PySem.Spec PyProof.Rows
structure Room (k:Nat) (A:Around):Prop where
  hd:A.handled=none
  dp:A.depth+3*k+5<recursionLimit
  un:A.units+16*k+200<cLine
theorem Room.mono {j k:Nat} {A:Around} (r:Room k A) (h:j≤k):Room j A:=⟨r.hd,by have:=r.dp; omega,by have:=r.un; omega⟩
theorem Room.deeper {k:Nat} {A:Around} (r:Room (k+1) A) (env:Env):Room k (A.deeper env):=
  ⟨r.hd,by have:=r.dp; show A.depth+1+3*k+5<_; omega,by have:=r.un; show A.units+3+16*k+200<_; omega⟩
theorem Room.depth {k:Nat} {A:Around} (r:Room k A):A.depth<recursionLimit:=by have:=r.dp; omega
theorem Room.units {k:Nat} {A:Around} (r:Room k A):A.units+64<cLine:=by have:=r.un; omega
noncomputable def tNil:TA:=fun _ H Q=>Q [] H
noncomputable def tCons (ta:TE) (tr:TA):TA:=fun σ H Q=>ta σ H fun x H1=>tr σ H1 fun xs H2=>Q (x::xs) H2
section
variable {X:Cx} {e:Expr} {es:List Expr} {te:TE} {t:TA} {pos:Pos}
theorem pa_nil:PA X [] tNil:=fun _ _ _ _ H Q I h=>Calls.spliced_nil ⟨[],H,I,.nil,h⟩
theorem pa_cons (ha:PE X e te) (hr:PA X es t) (hs:starEach (e::es) X.env=(false,eval e X.env)::starEach es X.env:=by rfl):PA X (e::es) (tCons te t):=by
  intro pos pins s σ H Q I h
  rw [hs]
  show wpAny _ _ (spliced ((false,eval e X.env)::backTo pos (starEach es X.env))) _ _ s
  refine Calls.spliced_cons (thn (ha pins s σ H _ I h) fun u s1 ⟨x,H1,I1,r1,q1⟩=>?_)
  exact thn (hr pos pins s1 σ H1 _ I1 q1) fun us s2 ⟨xs,H2,I2,r2,q2⟩=>⟨x::xs,H2,I2,.cons r1 r2,q2⟩
noncomputable def tTup (t:TA):TE:=fun σ H Q=>t σ H fun xs H1=>xs.length≤sizeLine∧∀ p,H1 p=none→Q (.ref p) (upd H1 p (.tup xs))
noncomputable def tLst (t:TA):TE:=fun σ H Q=>t σ H fun xs H1=>xs.length≤sizeLine∧∀ p,H1 p=none→Q (.ref p) (upd H1 p (.lst xs))
theorem pe_tup {x1} (h:PA X es t):PE X (.Tuple es x1 pos) (tTup t):=by
  intro pins s σ H Q I hq
  refine wpAny_Tuple_spliced (thn (h pos pins s σ H _ I hq) fun us s1 ⟨xs,H1,I1,r,z,q⟩=>⟨by rw [← r.length]; exact z,?_⟩)
  have hf:H1 s1.heap.objs.size=none:=I1.hok.fresh (Nat.le_refl _)
  refine ⟨.ref s1.heap.objs.size,upd H1 s1.heap.objs.size (.tup xs),I1.laid (t':=s1.toks) (fun b u e=>Heap.get?_push_of_some _ e) (Nat.le_refl _) ?_,rfl,q _ hf⟩
  exact ⟨z,us,r,⟨_,Heap.get?_push_size _ rfl,rfl,_,rfl⟩⟩
theorem pe_lst (h:PA X es t):PE X (.List es pos) (tLst t):=by
  intro pins s σ H Q I hq
  refine wpAny_List_spliced (thn (h pos pins s σ H _ I hq) fun us s1 ⟨xs,H1,I1,r,z,q⟩=>⟨by rw [← r.length]; exact z,?_⟩)
  have hf:H1 s1.heap.objs.size=none:=I1.hok.fresh (Nat.le_refl _)
  refine ⟨.ref s1.heap.objs.size,upd H1 s1.heap.objs.size (.lst xs),I1.laid (t':=s1.toks) (fun b u e=>Heap.get?_push_of_some _ e) (Nat.le_refl _) ?_,rfl,q _ hf⟩
  exact ⟨z,us,0,r,Heap.get?_push_size _ rfl⟩
end
noncomputable abbrev Sp:=List V→Hp→VK→XK→Prop
noncomputable abbrev CXT:=List Env→Hp→Shared→XK→Value→Shared→Prop
structure Env0 (P:Program) (w:World) (K:PySem.W.Frag) (mg:Str→Option Value) (base:Heap) (A:Around) (outer:List Env) (s:Shared) (H:Hp):Prop where
  frames:A.frames=some outer
  mod:Mod K mg base
  bs:∀ b o,base.get? b=some o→s.heap.get? b=some o∧H b=none
  bsz:base.objs.size≤s.heap.objs.size
  funs:s.heap.FunFrames base outer
  frf:∀ b∈frs outer,H b=none
  hok:HOk P w H s.heap
  bare:AllBare s.gens
noncomputable def CE (outer:List Env) (P:Program) (w:World) (H:Hp) (s:Shared) (Q:VK) (u:Value) (s':Shared):Prop:=
  ∃ v H',s'.os=s.os∧AllBare s'.gens∧Un (frs outer) [] H H' s.heap s'.heap∧HOk P w H' s'.heap∧RelV v u∧Q v H'
noncomputable def CR (CX:CXT) (outer:List Env) (P:Program) (w:World) (H:Hp) (s:Shared) (Q:VK) (E:XK) (r:Result) (s':Shared):Prop:=
  match r with
  | .ok (.ret u)=>CE outer P w H s Q u s'
  | .ok _=>False
  | .error e=>CX outer H s E e s'
structure FnOk (P:Program) (w:World) (K:PySem.W.Frag) (mg:Str→Option Value) (base:Heap) (CX:CXT) (k:Nat) (f:Addr) (fd:FuncData) (ps:List Str) (sp:Sp):Prop where
  len:∀ vs H Q E,sp vs H Q E→vs.length=ps.length
  run:∀ (A:Around) (outer:List Env) (s:Shared) (H:Hp) (args:Args) (us:List Value) (vs:List V) (Q:VK) (E:XK),Room k A→Env0 P w K mg base A outer s H→BindsTo s fd args (ps.zip us)→Vals vs us→sp vs H Q E→
    codeAny (model P w) A (.call (.ref f) args) (CR CX outer P w H s Q E) s
section
variable {X:Cx} {pins:List (Addr×Obj)} {σ:St} {H:Hp} {s s':Shared}
theorem Inv.env0 (I:Inv X pins σ H s):Env0 X.prog X.w X.K X.mg X.base X.A X.stack s H:=
  ⟨I.ok.frames,I.ok.mod,I.bs,Nat.le_trans I.ok.bsz I.sz,I.stack,I.stkFree,I.hok,I.bare⟩
theorem Inv.after {Q:VK} {u:Value} (I:Inv X pins σ H s) (h:CE X.stack X.prog X.w H s Q u s'):EP X pins σ Q u s':=by
  obtain ⟨v,H',os,bare,un,hok,r,q⟩:=h
  obtain ⟨hh,g,d,t,os'⟩:=s'
  obtain rfl:os'=s.os:=os
  exact ⟨v,H',I.call (h':=hh) (g':=g) (d':=d) (t':=t) (ch:=[]) un hok bare (fun b z=>absurd z (by simp)),r,q⟩
end
noncomputable def tCall (sp:Sp) (dvs:List V) (E:XK) (t:TA):TE:=fun σ H Q=>t σ H fun vs H1=>sp (vs++dvs) H1 Q E
noncomputable def Binds (K:PySem.W.Frag) (fd:FuncData) (ps:List Str) (ds:List Value):Prop:=
  ∀ (s:Shared) (us:List Value),K.In s.heap→(us++ds).length=ps.length→BindsTo s fd ⟨us,[]⟩ (ps.zip (us++ds))
theorem Binds.all {K:PySem.W.Frag} {fd:FuncData} {ps:List Str} (h:∀ us:List Value,us.length=ps.length→bindArgs fd ⟨us,[]⟩=pure (ps.zip us)):Binds K fd ps []:=fun s us _ hl=>by
  rw [List.append_nil] at hl ⊢
  exact .of_eq (h us hl)
noncomputable def Passes (CX:CXT) (X:Cx) (E:XK):Prop:=∀ (pins:List (Addr×Obj)) (σ:St) (H:Hp) (s:Shared) (e:Value) (s':Shared),Inv X pins σ H s→CX X.stack H s E e s'→X.xe e s'
section
variable {X:Cx} {CX:CXT} {k:Nat} {f C:Addr} {fd:FuncData} {ps:List Str} {sp:Sp} {dvs:List V} {ds:List Value} {E:XK} {x m:Str} {p pos apos:Pos} {e o:Expr} {es:List Expr} {ta:TE} {t:TA}
theorem run_fn {pins:List (Addr×Obj)} {σ:St} {H:Hp} {s:Shared} {Q:VK} {us:List Value} {vs:List V} (F:FnOk X.prog X.w X.K X.mg X.base CX k f fd ps sp) (hr:Room k X.A) (hb:Binds X.K fd ps ds) (hd:Vals dvs ds) (hx:Passes CX X E)
    (I:Inv X pins σ H s) (r:Vals vs us) (h:sp (vs++dvs) H Q E):wpAny (model X.prog X.w) X.A (call (.ref f) us) (EP X pins σ Q) X.xe s:=by
  have r2:Vals (vs++dvs) (us++ds):=r.append hd
  have hl:(us++ds).length=ps.length:=by rw [← r2.length]; exact F.len _ _ _ _ h
  refine wpAny_call (codeAny_mono (F.run X.A X.stack s H ⟨us,[]⟩ (us++ds) (vs++dvs) Q E hr I.env0 (hb s us I.kIn hl) r2 h) fun r s' hq=>?_)
  cases r with
  | error e=>exact hx pins σ H s e s' I hq
  | ok fl=>
    cases fl with
    | ret u=>exact I.after hq
    | next=>exact False.elim hq
    | brk=>exact False.elim hq
    | cont=>exact False.elim hq
theorem pe_call (F:FnOk X.prog X.w X.K X.mg X.base CX k f fd ps sp) (hr:Room k X.A) (hg:Gl X x) (hm:X.mg x=some (.ref f)) (hk:PySem.W.keepIn X.K (.ref f)=true) (hb:Binds X.K fd ps ds) (hd:Vals dvs ds) (hx:Passes CX X E)
    (ha:PA X (e::es) t) (hdb:(x == ("__debug__" : Str))=false:=by decide) (he:starEach (e::es) X.env=(false,eval e X.env)::starEach es X.env:=by rfl) (hpl:(backTo pos (starEach es X.env)).any (·.1)=false:=by rfl) :
    PE X (.Call (.Name x p) (e::es) [] pos) (tCall sp dvs E t):=by
  intro pins s σ H Q I h
  refine wpAny_Call_Name_kw (ld_glob I hg hm ?_ hdb)
  refine PySem.W.callWith_K (h₀:=X.base) I.ok.mod.kin hk (thn (ha pos pins s σ H _ I h) fun us s1 ⟨vs,H1,I1,r,q⟩=>⟨I1.kIn,?_⟩) he hpl
  exact run_fn F hr hb hd hx I1 r q
theorem pe_call0 (F:FnOk X.prog X.w X.K X.mg X.base CX k f fd ps sp) (hr:Room k X.A) (hg:Gl X x) (hm:X.mg x=some (.ref f)) (hk:PySem.W.keepIn X.K (.ref f)=true) (hb:Binds X.K fd ps ds) (hd:Vals dvs ds) (hx:Passes CX X E)
    (hdb:(x == ("__debug__" : Str))=false:=by decide):PE X (.Call (.Name x p) [] [] pos) (tCall sp dvs E tNil):=by
  intro pins s σ H Q I h
  refine wpAny_Call_Name_kw (ld_glob I hg hm ?_ hdb)
  exact PySem.W.callWith_K0 I.kIn hk (run_fn (us:=[]) F hr hb hd hx I .nil h)
end
section
variable {X:Cx} {CX:CXT} {k:Nat} {f C:Addr} {fd:FuncData} {ps ks:List Str} {sp:Sp} {E:XK} {x m:Str} {p pos apos kpos:Pos} {e o:Expr} {es:List Expr} {kws:List Keyword} {te ta:TE} {t tk:TA} {nm:Option Str}
variable {g:List Value→List Value→List Value} {gV:List V→List V→List V}
end
structure FnScope (N P:List Str) (sc:Scope):Prop where
  kind:sc.kind=.function
  co:sc.isCoroutine=false
  gen:sc.isGenerator=false
  nd:N.Nodup
  pre:N.take P.length=P
  par:∀ x∈P,sc.names.lookup x=some .local∨sc.names.lookup x=some .cell
  nofree:∀ y∈sc.names,y.2≠.free
theorem bindL_out {kindOf:Str→Option NameKind} {x:Str}:∀ {binds:List (Str×Value)} {m:Str→Option Value},(∀ v,(x,v) ∉ binds)→bindL kindOf binds m x=m x
  | [],_,_=>rfl
  | (n,v)::r,m,h=>by
    unfold bindL
    rw [bindL_out fun w hw=>h w (List.mem_cons_of_mem _ hw)]
    split
    · have:x≠n:=by rintro rfl; exact h v List.mem_cons_self
      simp [this]
    · rfl
theorem bindC_out {kindOf:Str→Option NameKind} {x:Str}:∀ {binds:List (Str×Value)} {m:Str→Option Value},(∀ v,(x,v) ∉ binds)→bindC kindOf binds m x=m x
  | [],_,_=>rfl
  | (n,v)::r,m,h=>by
    unfold bindC
    rw [bindC_out fun w hw=>h w (List.mem_cons_of_mem _ hw)]
    split
    · rfl
    · have:x≠n:=by rintro rfl; exact h v List.mem_cons_self
      simp [this]
theorem bindL_get {kindOf:Str→Option NameKind} {x:Str} {v:Value}:∀ {P:List Str} {vs:List Value} {i:Nat} {m:Str→Option Value},P.Nodup→P[i]?=some x→vs[i]?=some v→kindOf x=some .local→
    bindL kindOf (P.zip vs) m x=some v
  | [],_,_,_,_,h,_,_=>by simp at h
  | _::_,[],_,_,_,_,h,_=>by simp at h
  | p::P,w::vs,0,m,nd,h1,h2,hk=>by
    simp at h1 h2; subst h1; subst h2
    show bindL kindOf ((p,w)::P.zip vs) m p=_
    unfold bindL
    rw [bindL_out fun v hv=>(List.nodup_cons.mp nd).1 (List.of_mem_zip hv).1,if_pos hk]
    simp
  | p::P,w::vs,i+1,m,nd,h1,h2,hk=>by
    show bindL kindOf ((p,w)::P.zip vs) m x=_
    unfold bindL
    exact bindL_get (i:=i) (List.nodup_cons.mp nd).2 (by simpa using h1) (by simpa using h2) hk
theorem bindC_get {kindOf:Str→Option NameKind} {x:Str} {v:Value}:∀ {P:List Str} {vs:List Value} {i:Nat} {m:Str→Option Value},P.Nodup→P[i]?=some x→vs[i]?=some v→kindOf x≠some .local→
    bindC kindOf (P.zip vs) m x=some v
  | [],_,_,_,_,h,_,_=>by simp at h
  | _::_,[],_,_,_,_,h,_=>by simp at h
  | p::P,w::vs,0,m,nd,h1,h2,hk=>by
    simp at h1 h2; subst h1; subst h2
    show bindC kindOf ((p,w)::P.zip vs) m p=_
    unfold bindC
    rw [bindC_out fun v hv=>(List.nodup_cons.mp nd).1 (List.of_mem_zip hv).1,if_neg hk]
    simp
  | p::P,w::vs,i+1,m,nd,h1,h2,hk=>by
    show bindC kindOf ((p,w)::P.zip vs) m x=_
    unfold bindC
    exact bindC_get (i:=i) (List.nodup_cons.mp nd).2 (by simpa using h1) (by simpa using h2) hk
noncomputable def start (N:List Str) (vs:List V):St:=vs.map some++List.replicate (N.length - vs.length) none
noncomputable def cxOf (CX:CXT) (P:Program) (w:World) (K:PySem.W.Frag) (mg:Str→Option Value) (base:Heap) (N:List Str) (qual:Str) (scope:Scope) (f:Addr) (cd:Value) (A:Around) (outer:List Env) (s:Shared) (H:Hp) (E:XK):Cx where
  prog:=P
  w:=w
  K:=K
  mg:=mg
  base:=base
  A:=A.deeper (envOfC qual scope s.heap.objs.size f cd)
  N:=N
  s₀:=s
  H₀:=H
  env:=envOfC qual scope s.heap.objs.size f cd
  outer:=outer
  stack:=envOfC qual scope s.heap.objs.size f cd::outer
  ex:=[]
  calm:=true
  fn:=fun _=>true
  pn:=[]
  xe:=fun e s'=>wpAny (model P w) (A.deeper (envOfC qual scope s.heap.objs.size f cd)) (leaving (envOfC qual scope s.heap.objs.size f cd) e) (fun _ s''=>CX outer H s E e s'') (fun e' s''=>CX outer H s E e' s'') s'
theorem cell_has {sc:Scope} {n:Nat} {x:Str} (h:sc.names.lookup x=some .cell):∃ c,(cellsFrom n sc.names []).lookup x=some c:=by
  have q:=PySem.W.cellsFrom_some sc.names n [] (.inl h)
  exact Option.isSome_iff_exists.mp q
theorem inv_start {CX:CXT} {P:Program} {w:World} {K:PySem.W.Frag} {mg:Str→Option Value} {base:Heap} {N ps:List Str} {qual:Str} {scope:Scope} {f:Addr} {cd:Value} {A:Around} {outer:List Env} {s s1:Shared} {H:Hp} {E:XK} {us:List Value} {vs:List V}
    (S:FnScope N ps scope) (hd:A.handled=none) (e0:Env0 P w K mg base A outer s H) (hl:vs.length=ps.length) (r:Vals vs us)
    (x:InCallC s s.heap.objs.size (bindL (envOfC qual scope s.heap.objs.size f cd).kindOf (ps.zip us) fun _=>none) (cellsFrom (s.heap.objs.size+1) scope.names []) (bindC (envOfC qual scope s.heap.objs.size f cd).kindOf (ps.zip us) fun _=>none) s1) :
    Inv (cxOf CX P w K mg base N qual scope f cd A outer s H E) [] (start N vs) H s1:=by
  have hpl:ps.length≤N.length:=by have:=congrArg List.length S.pre; rw [List.length_take] at this; omega
  obtain ⟨h1,tk,rfl,hk⟩:=x.done
  have noA:∀ b:Addr,b ∉ (cxOf CX P w K mg base N qual scope f cd A outer s H E).ex:=fun b z=>absurd (show b∈([]:List Addr) from z) (by simp)
  refine ⟨⟨e0.mod,S.kind,rfl,rfl,Nat.le_refl _,fun y z c h1 h2=>?_,fun y hy=>?_,fun y c _ h=>?_,fun _=>hd,Around.frames_deeper e0.frames,.inr ⟨rfl,rfl⟩,fun b z=>absurd z (noA b),e0.bs,e0.bsz,fun b _ _=>noA b,fun b z=>absurd z (noA b),e0.funs,e0.frf⟩,
    rfl,e0.bare,Un.kept hk,⟨_,x.toInCall.ns,fun i y v h1 h2 h3=>?_⟩,fun y c h=>⟨_,x.cell y c h⟩,e0.hok.fresh (Nat.le_refl _),fun y c h=>?_,fun p hp=>absurd (show p∈([]:List (Addr×Obj)) from hp) (by simp),e0.hok.kept hk,?_⟩
  · exact name_of_addr x.apart (PySem.mem_of_lookup h1) (PySem.mem_of_lookup h2)
  · have hy:scope.names.lookup y=some .cell∨scope.names.lookup y=some .free:=hy
    rcases hy with hy | hy
    · exact cell_has hy
    · exact absurd rfl (S.nofree _ (PySem.mem_of_lookup hy))
  · exact Nat.le_of_lt (x.above y c (PySem.mem_of_lookup h))
  · have hi:i<vs.length:=by
      unfold start at h2
      by_cases hi:i<vs.length
      · exact hi
      · rw [List.getElem?_append_right (by simpa using hi)] at h2
        rw [List.getElem?_replicate] at h2
        split at h2<;>cases h2
    have ha:vs[i]?=some v:=by
      unfold start at h2
      rw [List.getElem?_append_left (by simpa using hi),List.getElem?_map] at h2
      cases e:vs[i]? with
      | none=>rw [e] at h2; cases h2
      | some a=>rw [e] at h2; cases h2; rfl
    obtain ⟨u,hu,rv⟩:=r.get ha
    have hp:ps[i]?=some y:=by
      rw [← S.pre,List.getElem?_take_of_lt (by omega)]; exact h1
    have ndP:ps.Nodup:=by rw [← S.pre]; exact S.nd.sublist (List.take_sublist _ _)
    refine ⟨u,rv,?_⟩
    rcases S.par y (List.mem_of_getElem? hp) with k | k
    · exact .inl ⟨k,bindL_get ndP hp hu k⟩
    · obtain ⟨c,e⟩:=cell_has (n:=s.heap.objs.size+1) k
      refine .inr ⟨.inl k,c,e,?_⟩
      have q:=x.cell y c e
      rw [bindC_get ndP hp hu (by show scope.names.lookup y≠_; rw [k]; decide)] at q
      exact q
  · exact e0.hok.fresh (Nat.le_of_lt (x.above y c (PySem.mem_of_lookup h)))
  · unfold start
    show _=N.length
    rw [List.length_append,List.length_map,List.length_replicate]
    omega
theorem fn_of {CX:CXT} {P:Program} {w:World} {K:PySem.W.Frag} {mg:Str→Option Value} {base:Heap} {k:Nat} {f:Addr} {name qual:Str} {params:Arguments} {body:List Stmt} {scope:Scope} {dV kV doc pm cdv ct oc:Value} {an od:Option Addr}
    {osl:Array (Option Value)} {N ps:List Str} {sp:Sp} (lk:K.lookup f=some ⟨oc,od,.func (PySem.W.fnOf name qual params body scope dV kV doc pm an cdv ct),osl⟩) (hcd:PySem.W.codeIn K cdv qual=true) (S:FnScope N ps scope)
    (len:∀ vs H Q E,sp vs H Q E→vs.length=ps.length)
    (hbody:∀ (A:Around) (outer:List Env) (s:Shared) (H:Hp) (vs:List V) (Q:VK) (E:XK),Room k (A.deeper (envOfC qual scope s.heap.objs.size f cdv))→sp vs H Q E→
      ∃ t,PSs (cxOf CX P w K mg base N qual scope f cdv A outer s H E) body t∧t { nx:=fun _ H'=>Q .non H',rt:=Q } (start N vs) H) :
    FnOk P w K mg base CX (k+1) f (PySem.W.fnOf name qual params body scope dV kV doc pm an cdv ct) ps sp:=by
  refine ⟨len,fun A outer s H args us vs Q E hr e0 hb r hsp=>?_⟩
  have hl:=len _ _ _ _ hsp
  have KX:K.In s.heap:=e0.mod.kin.keeps fun b o e=>(e0.bs b o e).1
  have lim:s.heap.NoLimit:=e0.mod.nolimit.keeps fun b o e=>(e0.bs b o e).1
  have hkind:∀ y∈ps.zip us,scope.names.lookup y.1=some .local∨(scope.names.lookup y.1=some .cell∧((cellsFrom (s.heap.objs.size+1) scope.names []).lookup y.1).isSome=true):=fun ⟨n,v⟩ hy=>by
    rcases S.par n (List.of_mem_zip hy).1 with q | q
    · exact .inl q
    · exact .inr ⟨q,PySem.W.cellsFrom_some _ _ _ (.inl q)⟩
  refine codeAny_call_function hr.depth (KX _ _ lk) rfl S.co S.gen rfl (PySem.W.codeRec_of KX hcd) (hb _ _ _ _ ?_)
  refine wpAny_newFunctionEnv_cells S.kind hkind fun env he s1 x=>?_
  subst he
  refine ⟨lim.keeps x.toInCall.keep,codeAny_func ?_⟩
  obtain ⟨t,ht,hq⟩:=hbody A outer s H vs Q E (hr.deeper _) hsp
  have I:Inv (cxOf CX P w K mg base N qual scope f cdv A outer s H E) [] (start N vs) H s1:=inv_start S hr.hd e0 hl r x
  refine wpAny_mono (ht [] s1 (start N vs) H _ I hq) (fun fl s' hs=>?_) fun e s' hs=>hs
  have fin:∀ {σ':St} {H':Hp} {v:V} {u:Value},Inv (cxOf CX P w K mg base N qual scope f cdv A outer s H E) [] σ' H' s'→RelV v u→Q v H'→CE outer P w H s Q u s':=
    fun {σ' H' v u} J rv q=>⟨v,H',J.os,J.bare,J.base,J.hok,rv,q⟩
  cases fl with
  | ret u=>
    obtain ⟨v,σ',H',J,rv,q⟩:=hs
    exact fin J rv q
  | next=>
    obtain ⟨σ',H',J,q⟩:=hs
    exact fin (v:=V.non) (u:=Value.none) J rfl q
  | brk=>
    obtain ⟨_,_,_,q⟩:=hs
    exact False.elim q
  | cont=>
    obtain ⟨_,_,_,q⟩:=hs
    exact False.elim q
end L2
namespace L2
open PySem PySem.Spec PyProof.Rows
section
variable {X:Cx} {x:Str} {p pos:Pos} {e:Expr} {es:List Expr} {t:TA} {id T:String} {r:List V→Hp→VK→Prop}
noncomputable def tCB (r:List V→Hp→VK→Prop) (t:TA):TE:=fun σ H Q=>t σ H fun vs H1=>r vs H1 Q
theorem pe_callB (hc:CallR X (.builtin id) r) (hg:Gl X x) (hm:X.mg x=none) (hv:bootBuiltins x=some (.builtin id)) (ha:PA X (e::es) t) (hn:x ≠ "__name__" := by decide) (hdb:(x == ("__debug__" : Str))=false:=by decide)
    (he:starEach (e::es) X.env=(false,eval e X.env)::starEach es X.env:=by rfl) (hpl:(backTo pos (starEach es X.env)).any (·.1)=false:=by rfl):PE X (.Call (.Name x p) (e::es) [] pos) (tCB r t):=by
  intro pins s σ H Q I h
  refine wpAny_Call_Name_kw (ld_blt I hg hm hv ?_ hn hdb)
  exact PyProof.Rows.callWith_builtin1 (thn (ha pos pins s σ H _ I h) fun us s1 ⟨vs,H1,I1,r1,q1⟩=>hc pins s1 σ H1 vs us Q I1 r1 q1) he hpl
theorem pe_callTy (hc:CallR X (.type T) r) (hg:Gl X x) (hm:X.mg x=none) (hv:bootBuiltins x=some (.type T)) (ha:PA X (e::es) t) (hn:x ≠ "__name__" := by decide) (hdb:(x == ("__debug__" : Str))=false:=by decide)
    (he:starEach (e::es) X.env=(false,eval e X.env)::starEach es X.env:=by rfl) (hpl:(backTo pos (starEach es X.env)).any (·.1)=false:=by rfl):PE X (.Call (.Name x p) (e::es) [] pos) (tCB r t):=by
  intro pins s σ H Q I h
  refine wpAny_Call_Name_kw (ld_blt I hg hm hv ?_ hn hdb)
  exact PyProof.Rows.callWith_type1 (thn (ha pos pins s σ H _ I h) fun us s1 ⟨vs,H1,I1,r1,q1⟩=>hc pins s1 σ H1 vs us Q I1 r1 q1) he hpl
end
end L2
namespace HT
open PySem PyProof.Rows
section
open PySem.SeqAt
open PySem.AutoSeq1 (wpAny_loadPart')
open PySem.MeetsSeq PySem.MeetsSeq2 PySem.MeetsSeq3
end
section
variable {prog:Program} {w:World} {A:Around} {E:Value→Shared→Prop} {s:Shared}
theorem cat_tup {t b:Addr} {vs ws:List Value} {Q:Value→Shared→Prop} (ht:IsTup s.heap t vs.toArray) (hb:IsTup s.heap b ws.toArray) (hv:vs≠[])
    (h1:ws=[]→Q (.ref t) s) (h2:ws≠[]→Q (.ref s.heap.objs.size) { s with heap:=s.heap.push { cls:=.type "tuple",data:=.seq (vs++ws).toArray } })
    (hsz:vs.length+ws.length≤sizeLine):wpAny (model prog w) A (binaryOp .Add (.ref t) (.ref b)) Q E s:=by
  obtain ⟨⟨cls,dd,data,sl⟩,ho,hc,n,hd⟩:=id ht
  obtain ⟨⟨cls2,dd2,data2,sl2⟩,ho2,hc2,n2,hd2⟩:=id hb
  simp only at hc hd hc2 hd2
  subst hc hd hc2 hd2
  have e:vs.toArray++ws.toArray=(vs++ws).toArray:=by simp
  by_cases hw:ws=[]
  · exact concat_meets ⟨_,ho,rfl⟩ ⟨_,ho2,rfl⟩ noFill_tuple_add seq_tuple_add PySem.F.slot_tuple_add PySem.F.entry_tuple_add (PySem.F.args_tuple_add_2 _ _)
      (tuple_addW1 t b vs.toArray ws.toArray n n2 dd dd2 sl sl2 (by simpa using hv) (by simp [hw])) ⟨ho,ho2,h1 hw⟩
  · refine concat_meets ⟨_,ho,rfl⟩ ⟨_,ho2,rfl⟩ noFill_tuple_add seq_tuple_add PySem.F.slot_tuple_add PySem.F.entry_tuple_add (PySem.F.args_tuple_add_2 _ _)
      (tuple_addW2 t b vs.toArray ws.toArray n n2 dd dd2 sl sl2 (by simpa using hv) (by simpa using hw) (by rw [List.size_toArray,List.size_toArray]; exact hsz)) ⟨ho,ho2,?_⟩
    rw [e]
    exact h2 hw
noncomputable def sIx (n d:Nat):Option Int→Nat
  | none=>d
  | some v=>if v<0 then (v+(n:Int)).toNat else min v.toNat n
theorem sIx_nat (n d k:Nat):sIx n d (some (k:Int))=min k n:=by
  show (if (k:Int)<0 then ((k:Int)+(n:Int)).toNat else min (k:Int).toNat n)=min k n
  rw [if_neg (by omega),Int.toNat_natCast]
theorem sIx_le (n d:Nat) (hd:d≤n) (o:Option Int):sIx n d o≤n:=by
  cases o with
  | none=>exact hd
  | some v=>
    show (if v<0 then (v+(n:Int)).toNat else min v.toNat n)≤n
    by_cases hv:v<0
    · rw [if_pos hv]; omega
    · rw [if_neg hv]; exact Nat.min_le_right _ _
theorem clip_eq (v:Int) (n d:Nat):(if v<0 then max (v+(n:Int)) 0 else min v (n:Int))=((sIx n d (some v):Nat):Int):=by
  show (if v<0 then max (v+(n:Int)) 0 else min v (n:Int))=(((if v<0 then (v+(n:Int)).toNat else min v.toNat n):Nat):Int)
  by_cases hv:v<0
  · simp only [if_pos hv]; omega
  · simp only [if_neg hv]; omega
theorem adjust_gen (lo hi:Option Int) (n:Nat):Builtin.Slice.sliceAdjust lo hi 1 (n:Int)=(((sIx n 0 lo:Nat):Int),((sIx n n hi:Nat):Int)):=by
  have h1:¬ ((1:Int)<0):=by omega
  unfold Builtin.Slice.sliceAdjust
  simp only [h1,if_false]
  refine Prod.ext ?_ ?_
  · cases lo with
    | none=>rfl
    | some v=>exact clip_eq v n 0
  · cases hi with
    | none=>rfl
    | some v=>exact clip_eq v n n
theorem places_gen (i j:Nat):Builtin.Slice.slicePlaces (i:Int) (j:Int) 1=j - i:=by
  unfold Builtin.Slice.slicePlaces
  have h1:(1:Int) > 0:=by omega
  simp only [h1,if_true,Int.ediv_one]
  split<;>omega
theorem slicePart_ {v:Value} {o:Option Int} {Q:Option Int→Shared→Prop} (p:IsPart v o) (h:Q o s):wpAny (model prog w) A (Builtin.Slice.slicePartIndex v) Q E s:=by
  cases p with
  | none=>exact slicePart_none h
  | int i t=>exact slicePart_int h
theorem sliceApplied_gen {sl:Addr} {vl vu:Value} {lo hi:Option Int} {n:Nat} {Q:Int×Int×Nat→Shared→Prop} (hs:s.heap.IsSliceOf sl vl vu .none) (pl:IsPart vl lo) (pu:IsPart vu hi)
    (h:Q (((sIx n 0 lo:Nat):Int),1,sIx n n hi - sIx n 0 lo) s):wpAny (model prog w) A (Builtin.Slice.sliceApplied (.ref sl) (pure (n:Int))) Q E s:=by
  obtain ⟨os,hos,hcs,hds⟩:=id hs
  unfold Builtin.Slice.sliceApplied Builtin.Slice.sliceFields
  refine wpAny_bind (wpAny_bind (wpAny_field hos hds (x:=vl) rfl (wpAny_bind (wpAny_field hos hds (x:=vu) rfl (wpAny_bind (wpAny_field hos hds (x:=.none) rfl (wpAny_pure ?_)))))))
  refine wpAny_bind (slicePart_none ?_)
  show wpAny _ _ (if ((1:Int) == 0)=true then _ else _) _ _ s
  rw [if_neg (by decide)]
  refine wpAny_bind (slicePart_ pl (wpAny_bind (slicePart_ pu (wpAny_bind (wpAny_pure ?_)))))
  show wpAny _ _ (match Builtin.Slice.sliceAdjust lo hi 1 (n:Int) with | (lo,hi)=>pure (lo,(1:Int),Builtin.Slice.slicePlaces lo hi 1)) _ _ s
  rw [adjust_gen lo hi n]
  show wpAny _ _ (pure (((sIx n 0 lo:Nat):Int),(1:Int),Builtin.Slice.slicePlaces ((sIx n 0 lo:Nat):Int) ((sIx n n hi:Nat):Int) 1)) _ _ s
  rw [places_gen]
  exact wpAny_pure h
theorem pick_gen (xs:Array Value) (i k:Nat):((List.range k).filterMap fun (m:Nat)=>xs[((i:Int)+(m:Int)*1).toNat]?).toArray=((xs.toList.drop i).take k).toArray:=by
  have e:(fun (m:Nat)=>xs[((i:Int)+(m:Int)*1).toNat]?)=fun m=>xs[i+m]?:=by
    funext m
    have:((i:Int)+(m:Int)*1).toNat=i+m:=by omega
    rw [this]
  rw [e]
  have:=pick_run xs i k
  rw [List.filterMap_map] at this
  have e2:((fun x=>xs[x]?) ∘ fun x=>i+x)=fun m=>xs[i+m]?:=rfl
  rw [e2] at this
  rw [this]
theorem getItem_tuple_cut {t sl:Addr} {items:Array Value} {vl vu:Value} {lo hi:Option Int} {Q:Value→Shared→Prop} (ht:IsTup s.heap t items) (hs:s.heap.IsSliceOf sl vl vu .none) (pl:IsPart vl lo) (pu:IsPart vu hi)
    (hw:¬ (sIx items.size 0 lo=0∧sIx items.size items.size hi=items.size))
    (h:Q (.ref s.heap.objs.size) { s with heap:=s.heap.push { cls:=.type "tuple",data:=.seq ((items.toList.drop (sIx items.size 0 lo)).take (sIx items.size items.size hi - sIx items.size 0 lo)).toArray } })
    (hsz:items.size≤sizeLine):wpAny (model prog w) A (getItem (.ref t) (.ref sl)) Q E s:=by
  have htake:sizeOk (.seq ((items.toList.drop (sIx items.size 0 lo)).take (sIx items.size items.size hi - sIx items.size 0 lo)).toArray):=by
    show ((items.toList.drop (sIx items.size 0 lo)).take (sIx items.size items.size hi - sIx items.size 0 lo)).toArray.size≤sizeLine
    rw [List.size_toArray,List.length_take,List.length_drop,Array.length_toList]
    omega
  have hj:sIx items.size items.size hi≤items.size:=sIx_le _ _ (Nat.le_refl _) hi
  obtain ⟨os,hos,hcs,hds⟩:=id hs
  have hTs:s.TypeIs (.ref sl) "slice" := ⟨os,hos,hcs⟩
  unfold getItem
  try with_reducible refine wpAny_holding ?_
  first | refine wpAny_bind (wpAny_pure ?_) | skip
  refine wpAny_bind (wpAny_sequenceKey ht.typeIs (by decide) ?_)
  refine wpAny_bind (wpAny_callSpecial?_slot (name:=Str.ofString "__getitem__") ht.typeIs PyProof.Rows.slot_tuple_getitem
    (wpAny_call_entry PyProof.Rows.slot_tuple_getitem ht.typeIs entry_tuple_getitem ?_ (args_tuple_getitem _ _)))
  show wpAny _ _ (Builtin.Tuple.tupleItemsOf (.ref t) >>= _) _ _ s
  refine wpAny_bind (tupleItemsOf_ ht ?_)
  refine wpAny_bind (wpAny_typeOf hTs ?_)
  rw [if_pos (by decide)]
  refine wpAny_bind (sliceApplied_gen hs pl pu ?_)
  have hno:¬ ((((sIx items.size 0 lo:Nat):Int) == 0&&(1:Int) == 1&&(sIx items.size items.size hi - sIx items.size 0 lo) == items.size)=true):=by
    intro q
    rw [Bool.and_eq_true,Bool.and_eq_true] at q
    have q1:((sIx items.size 0 lo:Nat):Int)=0:=eq_of_beq q.1.1
    have q2:sIx items.size items.size hi - sIx items.size 0 lo=items.size:=eq_of_beq q.2
    exact hw ⟨by omega,by omega⟩
  show wpAny _ _ (if (((sIx items.size 0 lo:Nat):Int) == 0&&(1:Int) == 1&&(sIx items.size items.size hi - sIx items.size 0 lo) == items.size)=true then _ else _) _ _ s
  rw [if_neg hno,pick_gen]
  first
    | exact wpAny_bind (m:=Builtin.Tuple.tupleExact _) (wpAny_newObj_type (wpAny_pure ⟨_,rfl,wpAny_pure h⟩) htake)
    | exact wpAny_bind (m:=Builtin.Tuple.tupleExact _) (wpAny_newObj_type (wpAny_bind (wpAny_pure (wpAny_pure ⟨_,rfl,wpAny_pure h⟩))) htake)
    | exact wpAny_bind (wpAny_bind (m:=Builtin.Tuple.tupleExact _) (wpAny_newObj_type (wpAny_pure (wpAny_pure ⟨_,rfl,wpAny_pure h⟩)) htake))
    | exact wpAny_bind (wpAny_bind (m:=Builtin.Tuple.tupleExact _) (wpAny_newObj_type (wpAny_pure ⟨_,rfl,wpAny_pure h⟩) htake))
end
end HT
namespace L2
open PySem PySem.Spec PyProof.Rows
noncomputable abbrev TO:=St→Hp→(Option Int→Hp→Prop)→Prop
noncomputable def PO (X:Cx) (e:Option Expr) (t:TO):Prop:=
  ∀ (pins:List (Addr×Obj)) (s:Shared) (σ:St) (H:Hp) (Q:Option Int→Hp→Prop),Inv X pins σ H s→t σ H Q→
    wpAny (model X.prog X.w) X.A (evalPart e X.env) (fun u s'=>∃ o H',Inv X pins σ H' s'∧IsPart u o∧Q o H') X.xe s
noncomputable def tNoPart:TO:=fun _ H Q=>Q none H
noncomputable def tPart (t:TE):TO:=fun σ H Q=>t σ H fun x H1=>∃ i,x=.int i∧Q (some i) H1
section
variable {X:Cx} {e:Expr} {te:TE} {lo hi:Option Expr} {tl th:TO} {pos p2:Pos}
theorem po_none:PO X none tNoPart:=by
  intro pins s σ H Q I h
  rw [evalPart_none]
  exact wpAny_pure ⟨none,H,I,.none,h⟩
theorem po_some (h:PE X e te):PO X (some e) (tPart te):=by
  intro pins s σ H Q I hw
  rw [evalPart_some]
  refine thn (h pins s σ H _ I hw) fun u s1 ⟨x,H1,I1,r1,q1⟩=>?_
  obtain ⟨i,rfl,q⟩:=q1
  obtain ⟨t,rfl⟩:=r1
  exact ⟨some i,H1,I1,.int i t,q⟩
noncomputable def SlR (X:Cx) (r:V→Option Int→Option Int→Hp→VK→Prop):Prop:=
  ∀ (pins:List (Addr×Obj)) (s:Shared) (σ:St) (H:Hp) (x:V) (v vl vu:Value) (lo hi:Option Int) (sl:Addr) (Q:VK),Inv X pins σ H s→RelV x v→s.heap.IsSliceOf sl vl vu .none→IsPart vl lo→IsPart vu hi→r x lo hi H Q→
    ∃ T id,typeLookup (.type T) "__getitem__" = pure (some (.builtin id))∧s.TypeIs v T∧wpAny (model X.prog X.w) X.A (getItem v (.ref sl)) (EP X pins σ Q) X.xe s
theorem SlR.or {r r':V→Option Int→Option Int→Hp→VK→Prop} (h:SlR X r) (h':SlR X r'):SlR X (fun x lo hi H Q=>r x lo hi H Q∨r' x lo hi H Q):=by
  intro pins s σ H x v vl vu lo hi sl Q I rx hs pl pu q
  rcases q with q | q
  · exact h pins s σ H x v vl vu lo hi sl Q I rx hs pl pu q
  · exact h' pins s σ H x v vl vu lo hi sl Q I rx hs pl pu q
noncomputable def tSl (r:V→Option Int→Option Int→Hp→VK→Prop) (te:TE) (tl th:TO):TE:=fun σ H Q=>te σ H fun x H1=>tl σ H1 fun l H2=>th σ H2 fun u H3=>r x l u H3 Q
theorem pe_slice {r:V→Option Int→Option Int→Hp→VK→Prop} (hr:SlR X r) (he:PE X e te) (hl:PO X lo tl) (hu:PO X hi th):PE X (.Subscript e (.Slice lo hi none p2) pos) (tSl r te tl th):=by
  intro pins s σ H Q I h
  refine Subscript_ (thn (he pins s σ H _ I h) fun v s1 ⟨x,H1,I1,r1,q1⟩=>?_)
  refine wpAny_Slice (thn (hl pins s1 σ H1 _ I1 q1) fun vl s2 ⟨l,H2,I2,pl,q2⟩=>thn (hu pins s2 σ H2 _ I2 q2) fun vu s3 ⟨u,H3,I3,pu,q3⟩=>?_)
  rw [evalPart_none]
  refine wpAny_pure ?_
  have I4:Inv X pins σ H3 { s3 with heap:=s3.heap.push { cls:=.type "slice",data:=.fields #[vl,vu,.none] } }:=I3.kept (t':=s3.toks) fun b ob q=>Heap.get?_push_of_some _ q
  obtain ⟨T,id,hT,ht,hg⟩:=hr pins { s3 with heap:=s3.heap.push { cls:=.type "slice",data:=.fields #[vl,vu,.none] } } σ H3 x v vl vu l u s3.heap.objs.size Q I4 r1 (Heap.IsSliceOf.new ..) pl pu q3
  show wpAny (model X.prog X.w) X.A (subscriptTail e (.Slice lo hi none p2) v (.ref s3.heap.objs.size)) (EP X pins σ Q) X.xe { s3 with heap:=s3.heap.push { cls:=.type "slice",data:=.fields #[vl,vu,.none] } }
  exact tail_any (ops:=[.ref s3.heap.objs.size,v]) ht hT hg (by with_unfolding_all rfl)
noncomputable def cutV (xs:List V) (lo hi:Option Int):List V:=(xs.drop (HT.sIx xs.length 0 lo)).take (HT.sIx xs.length xs.length hi - HT.sIx xs.length 0 lo)
theorem cutV_length (xs:List V) (lo hi:Option Int):(cutV xs lo hi).length≤xs.length:=by
  unfold cutV
  rw [List.length_take,List.length_drop]
  omega
noncomputable def rSlT (K:PySem.W.Frag):V→Option Int→Option Int→Hp→VK→Prop:=fun x lo hi H Q=>∃ a xs,x=.ref a∧SqT K H a xs∧
  ¬ (HT.sIx xs.length 0 lo=0∧HT.sIx xs.length xs.length hi=xs.length)∧∀ p,H p=none→Q (.ref p) (upd H p (.tup (cutV xs lo hi)))
theorem sl_tup:SlR X (rSlT X.K):=by
  intro pins s σ H x v vl vu lo hi sl Q I rx hs pl pu h
  obtain ⟨a,xs,rfl,hx,hw,q⟩:=h
  cases rx
  obtain ⟨its,r,ht,hz⟩:=I.tuple hx
  have hlen:its.toArray.size=xs.length:=by rw [List.size_toArray]; exact r.length.symm
  refine ⟨"tuple",_,PyProof.Rows.slot_tuple_getitem.lookup,ht.typeIs,?_⟩
  refine HT.getItem_tuple_cut ht hs pl pu (by rw [hlen]; exact hw) ?_ (by rw [hlen]; exact hz)
  rw [hlen]
  refine ⟨.ref s.heap.objs.size,_,I.laid (t':=s.toks) (o:=.tup (cutV xs lo hi)) (fun b ob q=>Heap.get?_push_of_some _ q) (Nat.le_refl _) ?_,rfl,q _ (I.hok.fresh (Nat.le_refl _))⟩
  exact ⟨Nat.le_trans (cutV_length xs lo hi) hz,_,(r.drop (HT.sIx xs.length 0 lo)).take (HT.sIx xs.length xs.length hi - HT.sIx xs.length 0 lo),IsTup.new _ _⟩
noncomputable def rCatT (K:PySem.W.Frag):R2:=fun x y H Q=>∃ a b xs ys,x=.ref a∧y=.ref b∧SqT K H a xs∧SqT K H b ys∧xs≠[]∧xs.length+ys.length≤sizeLine∧
  (ys=[]→Q (.ref a) H)∧(ys≠[]→∀ p,H p=none→Q (.ref p) (upd H p (.tup (xs++ys))))
theorem Vals.nil_iff {xs:List V} {us:List Value} (r:Vals xs us):us=[]↔xs=[]:=by
  cases r with
  | nil=>simp
  | cons _ _=>simp
theorem op_catT:OpR X (binaryOp .Add) (rCatT X.K):=by
  intro pins s σ H x y v u Q I rx ry h
  obtain ⟨a,b,xs,ys,rfl,rfl,ha,hb,hx,hz,q1,q2⟩:=h
  cases rx
  cases ry
  obtain ⟨its,r1,p1,_⟩:=I.tuple ha
  obtain ⟨its2,r2,p2,_⟩:=I.tuple hb
  refine HT.cat_tup p1 p2 (fun z=>hx (r1.nil_iff.mp z)) (fun z=>⟨.ref a,H,I,rfl,q1 (r2.nil_iff.mp z)⟩) (fun z=>?_) (by rw [← r1.length,← r2.length]; exact hz)
  refine ⟨.ref s.heap.objs.size,_,I.laid (t':=s.toks) (o:=.tup (xs++ys)) (fun b ob q=>Heap.get?_push_of_some _ q) (Nat.le_refl _) ?_,rfl,q2 (fun w=>z (r2.nil_iff.mpr w)) _ (I.hok.fresh (Nat.le_refl _))⟩
  exact ⟨by rw [List.length_append]; exact hz,_,r1.append r2,IsTup.new _ _⟩
end
end L2
namespace L2
open PySem PySem.Spec PyProof.Rows
noncomputable def ixN (n:Nat) (i:Int):Option Nat:=if 0≤i then (if i<n then some i.toNat else none) else if -(n:Int)≤i then some (i+n).toNat else none
noncomputable def atI {α:Type} (xs:List α) (i:Int):Option α:=(ixN xs.length i).bind fun j=>xs[j]?
theorem ixN_seq {n:Nat} {i:Int} {j:Nat} (h:ixN n i=some j):seqIndex? i n=some j∧j<n ∧ -(n:Int)≤i∧i<n:=by
  unfold ixN at h
  by_cases h0:0≤i
  · rw [if_pos h0] at h
    by_cases h1:i<n
    · rw [if_pos h1] at h
      have e:i.toNat=j:=Option.some.inj h
      exact ⟨by rw [seqIndex_of h0 h1,e],by omega,by omega,h1⟩
    · rw [if_neg h1] at h; cases h
  · rw [if_neg h0] at h
    by_cases h1 : -(n:Int)≤i
    · rw [if_pos h1] at h
      have e:(i+n).toNat=j:=Option.some.inj h
      exact ⟨by rw [seqIndex_neg (by omega) h1,e],by omega,h1,by omega⟩
    · rw [if_neg h1] at h; cases h
theorem atI_get {α:Type} {xs:List α} {i:Int} {v:α} (h:atI xs i=some v):∃ j,seqIndex? i xs.length=some j∧xs[j]?=some v∧j<xs.length ∧ -(xs.length:Int)≤i∧i<xs.length:=by
  unfold atI at h
  cases e:ixN xs.length i with
  | none=>rw [e] at h; cases h
  | some j=>
    rw [e] at h
    obtain ⟨h1,h2,h3,h4⟩:=ixN_seq e
    exact ⟨j,h1,h,h2,h3,h4⟩
noncomputable def PlainIx (b:Expr):Prop:=∀ o i,subscripted b false o i=operate [o,i] (getItem o i)
noncomputable def IxR (X:Cx) (r:R2):Prop:=
  ∀ (value slice:Expr) (pins:List (Addr×Obj)) (s:Shared) (σ:St) (H:Hp) (x y:V) (v u:Value) (Q:VK),Inv X pins σ H s→RelV x v→RelV y u→r x y H Q→
    subscripted slice false v u=operate [v,u] (getItem v u)→wpAny (model X.prog X.w) X.A (subscriptTail value slice v u) (EP X pins σ Q) X.xe s
noncomputable def MtR (X:Cx) (id:String) (r:V→List V→Hp→VK→Prop):Prop:=
  ∀ (pins:List (Addr×Obj)) (s:Shared) (σ:St) (H:Hp) (x:V) (xs:List V) (v:Value) (us:List Value) (Q:VK),Inv X pins σ H s→RelV x v→Vals xs us→r x xs H Q→
    wpAny (model X.prog X.w) X.A (call (.builtin id) (v::us)) (EP X pins σ Q) X.xe s
section
variable {X:Cx} {a b:Expr} {ta tb:TE} {pos:Pos}
theorem IxR.or {r r':R2} (h:IxR X r) (h':IxR X r'):IxR X (fun x y H Q=>r x y H Q∨r' x y H Q):=by
  intro value slice pins s σ H x y v u Q I rx ry q hs
  rcases q with q | q
  · exact h value slice pins s σ H x y v u Q I rx ry q hs
  · exact h' value slice pins s σ H x y v u Q I rx ry q hs
theorem pe_ix {r:R2} (hr:IxR X r) (ha:PE X a ta) (hb:PE X b tb) (hs:PlainIx b):PE X (.Subscript a b pos) (tOp r ta tb):=by
  intro pins s σ H Q I h
  exact Subscript_ (binT ha hb I h fun v u s2 x y H2 I2 rx ry q=>hr a b pins s2 σ H2 x y v u Q I2 rx ry q (hs _ _))
noncomputable def rIxL (K:PySem.W.Frag):R2:=fun x y H Q=>∃ p xs i v,x=.ref p∧y=.int i∧SqL K H p xs∧atI xs i=some v∧Q v H
noncomputable def rIxT (K:PySem.W.Frag):R2:=fun x y H Q=>∃ p xs i v,x=.ref p∧y=.int i∧SqT K H p xs∧atI xs i=some v∧Q v H
noncomputable def rIxS:R2:=fun x y H Q=>∃ z i c,x=.str z∧y=.int i∧z.length≤sizeLine∧atI z.cps.toList i=some c∧Q (.str ⟨#[c]⟩) H
theorem ix_list:IxR X (rIxL X.K):=by
  intro value slice pins s σ H x y v u Q I rx ry h hs
  obtain ⟨p,xs,i,z,rfl,rfl,hq,he,q⟩:=h
  cases rx
  obtain ⟨t,rfl⟩:=ry
  obtain ⟨its,r,pl,hz⟩:=I.list hq
  obtain ⟨j,h1,h2,h3,h4,h5⟩:=atI_get he
  obtain ⟨w,ew,rw'⟩:=r.get h2
  have hl:=r.length
  have hn:=line63
  have fin:EP X pins σ Q w s:=⟨z,H,I,rw',q⟩
  by_cases h0:0≤i
  · have hj:i.toNat=j:=by
      rw [seqIndex_of h0 h5] at h1
      exact Option.some.inj h1
    exact item_listR pl.isList h0 (by omega) (by rw [hj]; simpa using ew) fin hs
  · have hj:(i+(its.toArray.size:Int)).toNat=j:=by
      rw [seqIndex_neg (by omega) h4] at h1
      rw [List.size_toArray,← hl]
      exact Option.some.inj h1
    exact subscriptTail_builtinR (x:=w) pl.isList.typeIs slot_list_getitem.lookup
      (wpAny_getItem_list_neg (Q:=fun r s'=>r=w∧EP X pins σ Q r s') pl.isList (by omega) (by rw [List.size_toArray]<;>omega) (by omega) (by rw [hj]; simpa using ew) ⟨rfl,fin⟩) hs
theorem ix_tup:IxR X (rIxT X.K):=by
  intro value slice pins s σ H x y v u Q I rx ry h hs
  obtain ⟨p,xs,i,z,rfl,rfl,hq,he,q⟩:=h
  cases rx
  obtain ⟨t,rfl⟩:=ry
  obtain ⟨its,r,pl,hz⟩:=I.tuple hq
  obtain ⟨j,h1,h2,h3,h4,h5⟩:=atI_get he
  obtain ⟨w,ew,rw'⟩:=r.get h2
  have hl:=r.length
  have hn:=line63
  have fin:EP X pins σ Q w s:=⟨z,H,I,rw',q⟩
  exact subscriptTail_builtinR (x:=w) pl.typeIs slot_tuple_getitem.lookup
    (getItem_tuple (j:=j) (Q:=fun r s'=>r=w∧EP X pins σ Q r s') pl (by omega) (by omega) (by rw [List.size_toArray,← hl]; exact h1) (by simpa using ew) ⟨rfl,fin⟩) hs
theorem ix_str:IxR X rIxS:=by
  intro value slice pins s σ H x y v u Q I rx ry h hs
  obtain ⟨z,i,c,rfl,rfl,hz,he,q⟩:=h
  obtain ⟨t,rfl⟩:=rx
  obtain ⟨t',rfl⟩:=ry
  obtain ⟨j,h1,h2,h3,h4,h5⟩:=atI_get he
  have hl:z.cps.toList.length=z.length:=by simp [Str.length]
  rw [hl] at h1 h4 h5
  have hn:=line63
  exact tail_any (typeIs_str s z t) slot_str_getitem.lookup (getItem_str (c:=c) (by
    have e1:decide (i < -(2 ^ 63:Int))=false:=decide_eq_false (by omega)
    have e2:decide (i ≥ 2 ^ 63)=false:=decide_eq_false (by omega)
    rw [e1,e2,Bool.or_false]) (by rw [h1]; simpa using h2) ⟨.str ⟨#[c]⟩,H,I.tok _,⟨_,rfl⟩,q⟩) hs
noncomputable def rIx (K:PySem.W.Frag):R2:=fun x y H Q=>rIxL K x y H Q∨rIxT K x y H Q∨rIxS x y H Q
theorem ix_seq:IxR X (rIx X.K):=ix_list.or (ix_tup.or ix_str)
theorem slice_bounds (lo hi:Option Int) (n:Nat):(sliceBounds lo hi none n).1=((HT.sIx n 0 lo:Nat):Int)∧(sliceBounds lo hi none n).2.1=((HT.sIx n n hi:Nat):Int)∧(sliceBounds lo hi none n).2.2=1:=by
  refine ⟨?_,?_,rfl⟩
  · cases lo with
    | none=>simp [sliceBounds,HT.sIx]
    | some i=>
      simp only [sliceBounds,HT.sIx,Option.getD_none,show (1:Int) > 0 by decide,if_true]
      by_cases h:i<0
      · simp only [h,if_true]<;>omega
      · simp only [h,if_false]<;>omega
  · cases hi with
    | none=>simp [sliceBounds,HT.sIx]
    | some i=>
      simp only [sliceBounds,HT.sIx,Option.getD_none,show (1:Int) > 0 by decide,if_true]
      by_cases h:i<0
      · simp only [h,if_true]<;>omega
      · simp only [h,if_false]<;>omega
theorem slicePick_cut (its:List Value) (lo hi:Option Int):slicePick its.toArray lo hi none=((its.drop (HT.sIx its.length 0 lo)).take (HT.sIx its.length its.length hi - HT.sIx its.length 0 lo)).toArray:=by
  obtain ⟨h1,h2,h3⟩:=slice_bounds lo hi its.toArray.size
  unfold slicePick
  rw [h1,h2,h3]
  simp only [sliceRange_one,pick_run,List.size_toArray]<;>rfl
noncomputable def rSlL (K:PySem.W.Frag):V→Option Int→Option Int→Hp→VK→Prop:=fun x lo hi H Q=>∃ a xs,x=.ref a∧SqL K H a xs∧∀ p,H p=none→Q (.ref p) (upd H p (.lst (cutV xs lo hi)))
theorem sl_list:SlR X (rSlL X.K):=by
  intro pins s σ H x v vl vu lo hi sl Q I rx hs pl pu h
  obtain ⟨a,xs,rfl,hx,q⟩:=h
  cases rx
  obtain ⟨its,r,ht,hz⟩:=I.list hx
  have hlen:=r.length
  refine ⟨"list",_,slot_list_getitem.lookup,ht.isList.typeIs,?_⟩
  refine wpAny_getItem_list_slice ht.isList hs pl pu .none (by simp) ?_ (by rw [List.size_toArray]<;>omega)
  rw [slicePick_cut,← hlen]
  refine ⟨.ref s.heap.objs.size,_,I.laid (t':=s.toks) (o:=.lst (cutV xs lo hi)) (fun b ob q=>Heap.get?_push_of_some _ q) (Nat.le_refl _) ?_,rfl,q _ (I.hok.fresh (Nat.le_refl _))⟩
  exact ⟨Nat.le_trans (cutV_length xs lo hi) hz,_,0,(r.drop (HT.sIx xs.length 0 lo)).take (HT.sIx xs.length xs.length hi - HT.sIx xs.length 0 lo),Heap.get?_push_size _ rfl⟩
noncomputable def flatV:V→Bool
  | .non=>true
  | .bl _=>true
  | .int _=>true
  | .str _=>true
  | _=>false
noncomputable def eqV:V→V→Bool
  | .non,.non=>true
  | .bl a,.bl b=>a == b
  | .bl a,.int b=>(if a then 1 else 0) == b
  | .int a,.bl b=>a == (if b then 1 else 0)
  | .int a,.int b=>a == b
  | .str a,.str b=>a == b
  | _,_=>false
theorem eqAt_V {A:Around} {s:Shared} {y x:V} {u v:Value} (ry:RelV y u) (rx:RelV x v) (fy:flatV y=true) (fx:flatV x=true):SeqAt.EqAt A s u v (eqV y x):=by
  cases y with
  | non=>
    cases ry
    cases x with
    | non=>cases rx; exact SeqAt.EqAt.same _
    | bl b=>cases rx; exact SeqAt.EqAt.none_bool b
    | int b=>obtain ⟨t,rfl⟩:=rx; exact SeqAt.EqAt.none_int b t
    | str b=>obtain ⟨t,rfl⟩:=rx; exact SeqAt.EqAt.none_str b t
    | _=>exact absurd (show false=true from fx) Bool.false_ne_true
  | bl a=>
    cases ry
    cases x with
    | non=>cases rx; exact SeqAt.EqAt.bool_none a
    | bl b=>cases rx; exact SeqAt.EqAt.bool_bool a b
    | int b=>obtain ⟨t,rfl⟩:=rx; exact SeqAt.EqAt.bool_int a b t
    | str b=>obtain ⟨t,rfl⟩:=rx; exact SeqAt.EqAt.bool_str a b t
    | _=>exact absurd (show false=true from fx) Bool.false_ne_true
  | int a=>
    obtain ⟨t',rfl⟩:=ry
    cases x with
    | non=>cases rx; exact SeqAt.EqAt.int_none a t'
    | bl b=>cases rx; exact SeqAt.EqAt.int_bool a t' b
    | int b=>obtain ⟨t,rfl⟩:=rx; exact SeqAt.EqAt.int_int a t' b t
    | str b=>obtain ⟨t,rfl⟩:=rx; exact SeqAt.EqAt.int_str a t' b t
    | _=>exact absurd (show false=true from fx) Bool.false_ne_true
  | str a=>
    obtain ⟨t',rfl⟩:=ry
    cases x with
    | non=>cases rx; exact SeqAt.EqAt.str_none a t'
    | bl b=>cases rx; exact SeqAt.EqAt.str_bool a t' b
    | int b=>obtain ⟨t,rfl⟩:=rx; exact SeqAt.EqAt.str_int a t' b t
    | str b=>obtain ⟨t,rfl⟩:=rx; exact SeqAt.EqAt.str_str a t' b t
    | _=>exact absurd (show false=true from fx) Bool.false_ne_true
  | _=>exact absurd (show false=true from fy) Bool.false_ne_true
noncomputable def eqU (x:V) (u:Value):Bool:=match u with
  | .none=>eqV .non x
  | .bool b=>eqV (.bl b) x
  | .int i _=>eqV (.int i) x
  | .str z _=>eqV (.str z) x
  | _=>false
theorem eqU_of {x y:V} {u:Value} (r:RelV y u) (f:flatV y=true):eqU x u=eqV y x:=by
  cases y with
  | non=>cases r; rfl
  | bl b=>cases r; rfl
  | int i=>obtain ⟨t,rfl⟩:=r; rfl
  | str z=>obtain ⟨t,rfl⟩:=r; rfl
  | _=>exact absurd (show false=true from f) Bool.false_ne_true
theorem any_eqU {x:V}:∀ {xs:List V} {us:List Value},Vals xs us→xs.all flatV=true→us.any (eqU x)=xs.any fun y=>eqV y x
  | _,_,.nil,_=>rfl
  | y::xs,u::us,.cons r t,f=>by
    rw [List.all_cons,Bool.and_eq_true] at f
    rw [List.any_cons,List.any_cons,eqU_of r f.1,any_eqU t f.2]
theorem mem_eqAt {A:Around} {s:Shared} {x:V} {v:Value} (rx:RelV x v) (fx:flatV x=true):∀ {xs:List V} {us:List Value},Vals xs us→xs.all flatV=true→∀ u∈us,SeqAt.EqAt A s u v (eqU x u)
  | _,_,.nil,_=>fun u hu=>by cases hu
  | y::xs,u::us,.cons r t,f=>fun u' hu=>by
    rw [List.all_cons,Bool.and_eq_true] at f
    rcases List.mem_cons.mp hu with rfl | hu
    · rw [eqU_of r f.1]; exact eqAt_V r rx f.1 fx
    · exact mem_eqAt rx fx t f.2 u' hu
noncomputable def inV (x:V) (xs:List V):Bool:=xs.any fun y=>eqV y x
noncomputable def rIn (K:PySem.W.Frag) (neg:Bool):R2:=fun x y H Q=>∃ p xs,y=.ref p∧(SqL K H p xs∨SqT K H p xs)∧flatV x=true∧xs.all flatV=true∧Q (.bl (if neg then !inV x xs else inV x xs)) H
theorem op_in_seq:OpR X (compareOp .In) (rIn X.K false):=by
  intro pins s σ H x y v u Q I rx ry h
  obtain ⟨p,xs,rfl,hq,fx,fs,q⟩:=h
  cases ry
  rcases hq with hq | hq
  · obtain ⟨its,r,pl,hz⟩:=I.list hq
    refine SeqAt.in_listAt (eqU x) pl.isList (fun w hw=>mem_eqAt rx fx r fs w (by simpa using hw)) ⟨.bl _,H,I,rfl,?_⟩
    rw [show its.toArray.any (eqU x)=its.any (eqU x) by simp,any_eqU r fs]
    exact q
  · obtain ⟨its,r,pl,hz⟩:=I.tuple hq
    refine SeqAt.in_tupleAt (eqU x) pl (fun w hw=>mem_eqAt rx fx r fs w (by simpa using hw)) ⟨.bl _,H,I,rfl,?_⟩
    rw [show its.toArray.any (eqU x)=its.any (eqU x) by simp,any_eqU r fs]
    exact q
theorem op_notIn_seq:OpR X (compareOp .NotIn) (rIn X.K true):=by
  intro pins s σ H x y v u Q I rx ry h
  obtain ⟨p,xs,rfl,hq,fx,fs,q⟩:=h
  cases ry
  rcases hq with hq | hq
  · obtain ⟨its,r,pl,hz⟩:=I.list hq
    refine SeqAt.notIn_listAt (eqU x) pl.isList (fun w hw=>mem_eqAt rx fx r fs w (by simpa using hw)) ⟨.bl _,H,I,rfl,?_⟩
    rw [show its.toArray.any (eqU x)=its.any (eqU x) by simp,any_eqU r fs]
    exact q
  · obtain ⟨its,r,pl,hz⟩:=I.tuple hq
    refine SeqAt.notIn_tupleAt (eqU x) pl (fun w hw=>mem_eqAt rx fx r fs w (by simpa using hw)) ⟨.bl _,H,I,rfl,?_⟩
    rw [show its.toArray.any (eqU x)=its.any (eqU x) by simp,any_eqU r fs]
    exact q
theorem op_notIn_str:OpR X (compareOp .NotIn) (fun x y H Q=>∃ i j,x=.str i∧y=.str j∧Q (.bl (!(!(Builtin.Str.occurrences j i 0 j.length 1).isEmpty))) H):=by
  intro pins s σ H x y v u Q I rx ry h
  obtain ⟨i,j,rfl,rfl,q⟩:=h
  obtain ⟨t,rfl⟩:=rx
  obtain ⟨t',rfl⟩:=ry
  exact notIn_str ⟨.bl _,H,I,rfl,q⟩
theorem call_len_seq:CallR X (.builtin "len") (fun xs H Q=>∃ p ys,xs=[.ref p]∧(SqL X.K H p ys∨SqT X.K H p ys)∧Q (.int ys.length) H):=by
  intro pins s σ H xs us Q I r h
  obtain ⟨p,ys,rfl,hq,q⟩:=h
  obtain ⟨u,rfl,rx⟩:=vals1 r
  cases rx
  have hn:=line63
  rcases hq with hq | hq
  · obtain ⟨its,r',pl,hz⟩:=I.list hq
    have hlen:=r'.length
    exact Calls.call_len_list pl.isList (by simp only [List.size_toArray]<;>omega) ⟨.int ys.length,H,I.tok _,⟨s.toks+1,by rw [List.size_toArray,hlen]⟩,q⟩
  · obtain ⟨its,r',pl,hz⟩:=I.tuple hq
    have hlen:=r'.length
    exact len_tuple pl (by simp only [List.size_toArray]<;>omega) ⟨.int ys.length,H,I.tok _,⟨s.toks+1,by rw [List.size_toArray,hlen]⟩,q⟩
theorem call_len_str:CallR X (.builtin "len") (fun xs H Q=>∃ z,xs=[.str z]∧z.length≤sizeLine∧Q (.int z.length) H):=by
  intro pins s σ H xs us Q I r h
  obtain ⟨z,rfl,hz,q⟩:=h
  obtain ⟨u,rfl,t,rfl⟩:=vals1 r
  have hn:=line63
  exact len_str (by omega) ⟨.int z.length,H,I.tok _,⟨_,rfl⟩,q⟩
theorem CallR.or {f:Value} {r r':List V→Hp→VK→Prop} (h:CallR X f r) (h':CallR X f r'):CallR X f (fun xs H Q=>r xs H Q∨r' xs H Q):=by
  intro pins s σ H xs us Q I rs q
  rcases q with q | q
  · exact h pins s σ H xs us Q I rs q
  · exact h' pins s σ H xs us Q I rs q
theorem call_tuple_of:CallR X (.type "tuple") (fun xs H Q=>∃ p ys,xs=[.ref p]∧((SqL X.K H p ys∧∀ l,H l=none→Q (.ref l) (upd H l (.tup ys)))∨(SqT X.K H p ys∧Q (.ref p) H))):=by
  intro pins s σ H xs us Q I r h
  obtain ⟨p,ys,rfl,h⟩:=h
  obtain ⟨u,rfl,rx⟩:=vals1 r
  cases rx
  rcases h with ⟨hq,q⟩ | ⟨hq,q⟩
  · obtain ⟨its,r',pl,hz⟩:=I.list hq
    have hlen:=r'.length
    refine call_tuple_list pl.isList (fun h' kp=>?_) (by simp only [List.size_toArray]<;>omega)
    have I1:Inv X pins σ H { s with heap:=h' }:=I.kept (t':=s.toks) kp
    have I2:Inv X pins σ (upd H h'.objs.size (.tup ys)) { s with heap:=h'.push { cls:=.type "tuple",data:=.seq its.toArray } }:=
      I1.laid (t':=s.toks) (fun b o e=>Heap.get?_push_of_some _ e) (Nat.le_refl _) (show ObjOk X.prog X.w _ _ _ (.tup ys) from ⟨hz,its,r',IsTup.new _ _⟩)
    exact ⟨.ref h'.objs.size,_,I2,rfl,q _ (I1.hok.fresh (Nat.le_refl _))⟩
  · obtain ⟨its,r',pl,hz⟩:=I.tuple hq
    exact call_tuple_same pl ⟨.ref p,H,I,rfl,q⟩
noncomputable def tyV (K:PySem.W.Frag) (T:String) (x:V) (H:Hp):Prop:=match x with
  | .str _=>T = "str"
  | .int _=>T = "int"
  | .ref p=>(T = "list" ∧ ∃ xs,SqL K H p xs)∨(T = "tuple" ∧ ∃ o,K.lookup p=some o∧o.cls=.type "tuple" ∧ o.dict=none) ∨
      (T = "dict" ∧ ((∃ kvs,H p=some (.dK kvs))∨∃ kvs,H p=some (.dT kvs)))∨(T = "set" ∧ ∃ S n,H p=some (.set S n))
  | _=>False
theorem tyV_is {pins:List (Addr×Obj)} {σ:St} {H:Hp} {s:Shared} {T:String} {x:V} {v:Value} (I:Inv X pins σ H s) (r:RelV x v) (ty:tyV X.K T x H) :
    s.TypeIs v T∧∀ a,v=.ref a→∃ ob,s.heap.get? a=some ob∧ob.dict=none:=by
  cases x with
  | str z=>
    obtain ⟨t,rfl⟩:=r
    cases (show T = "str" from ty)
    exact ⟨typeIs_str s z t,fun _ e=>nomatch e⟩
  | int i=>
    obtain ⟨t,rfl⟩:=r
    cases (show T = "int" from ty)
    exact ⟨typeIs_int s i t,fun _ e=>nomatch e⟩
  | ref p=>
    cases r
    rcases ty with ⟨rfl,xs,hq⟩ | ⟨rfl,o,hk,hc,hd⟩ | ⟨rfl,hk⟩ | ⟨rfl,S,n,hk⟩
    · obtain ⟨its,_,pl,_⟩:=I.list hq
      refine ⟨pl.isList.typeIs,fun a e=>?_⟩
      cases e
      obtain ⟨o,n,e,c,hd,_⟩:=pl
      exact ⟨o,e,hd⟩
    · refine ⟨⟨o,I.kIn p o hk,hc⟩,fun a e=>?_⟩
      cases e
      exact ⟨o,I.kIn _ o hk,hd⟩
    · have z:∃ o,s.heap.get? p=some o∧o.ExactDict:=by
        rcases hk with ⟨kvs,hk⟩ | ⟨kvs,hk⟩
        · obtain ⟨_,_,_,_,o,_,_,e,ex,_⟩:=I.hok p _ hk
          exact ⟨o,e,ex⟩
        · obtain ⟨_,_,_,_,o,_,_,e,ex,_⟩:=I.hok p _ hk
          exact ⟨o,e,ex⟩
      obtain ⟨o,e,ex⟩:=z
      refine ⟨⟨o,e,ex.1⟩,fun a e2=>?_⟩
      cases e2
      exact ⟨o,e,ex.2.1⟩
    · obtain ⟨o,_,_,_,e,ex,_⟩:=I.hok p _ hk
      refine ⟨⟨o,e,ex.1⟩,fun a e2=>?_⟩
      cases e2
      exact ⟨o,e,ex.2.1⟩
  | _=>exact False.elim ty
noncomputable def tBM (K:PySem.W.Frag) (T:String) (r:V→List V→Hp→VK→Prop) (to:TE) (t:TA):TE:=fun σ H Q=>to σ H fun x H1=>tyV K T x H1∧t σ H1 fun xs H2=>r x xs H2 Q
variable {o e:Expr} {es:List Expr} {to:TE} {t:TA} {name:Str} {apos cpos:Pos} {T id:String} {r:V→List V→Hp→VK→Prop}
theorem pe_bm (pa:PlainAttrs T) (slot:Slot T name id) (hty:typeOf (.builtin id)=pure (.type "method_descriptor")) (hm:MtR X id r) (ho:PE X o to) (ha:PA X (e::es) t)
    (hbase:attributeBase o name X.env (eval o X.env)=eval o X.env:=by rfl)
    (hfew:((backTo cpos (starEach (e::es) X.env)).all (fun x=>!x.1)&&(backToKw cpos (keywordEach [] X.env)).all (fun x=>x.1.isSome)
      && decide ((e::es).length+([]:List Keyword).length+(if ([]:List Keyword).isEmpty then 0 else 1)<30))=true:=by rfl)
    (hline:(apos.endLine == cpos.line)=true:=by rfl) (hs:starEach (e::es) X.env=(false,eval e X.env)::starEach es X.env:=by rfl) (hplain:(backTo cpos (starEach es X.env)).any (·.1)=false:=by rfl) :
    PE X (.Call (.Attribute o name apos) (e::es) [] cpos) (tBM X.K T r to t):=by
  intro pins s σ H Q I h
  refine wpAny_Call_method_late hbase hfew hline rfl (thn (ho pins s σ H _ I h) fun v s1 ⟨x,H1,I1,r1,ty,q1⟩=>?_)
  obtain ⟨h1,h2⟩:=tyV_is I1 r1 ty
  refine ⟨T,id,pa,slot,hty,h1,h2,?_⟩
  have hA:=ha cpos pins s1 σ H1 _ I1 q1
  rw [hs] at hA ⊢
  refine Calls.callWith_builtin (by show (false||(backTo cpos (starEach es X.env)).any (·.1))=false; rw [hplain]<;>rfl) (Calls.evalArgs_plain ?_)
  exact thn hA fun us s2 ⟨vs,H2,I2,r2,q2⟩=>hm pins s2 σ H2 x vs v us Q I2 r1 r2 q2
end
end L2
namespace L2
open PySem PySem.Spec PyProof.Rows
noncomputable def MtM (X:Cx) (id:String) (r:V→List V→Hp→VK→Prop):Prop:=
  ∀ (pins:List (Addr×Obj)) (s:Shared) (σ:St) (H:Hp) (x:V) (xs:List V) (v:Value) (us:List Value) (Q:VK),Inv X pins σ H s→RelV x v→Vals xs us→r x xs H Q→
    wpAny (model X.prog X.w) X.A (call (.builtin id) (v::us)) (EP X pins σ Q) X.xe s
theorem Vals.one:∀ {x:V} {us:List Value},Vals [x] us→∃ u,us=[u]∧RelV x u
  | _,_,.cons r .nil=>⟨_,rfl,r⟩
section
variable {X:Cx} {pins:List (Addr×Obj)} {σ:St} {H:Hp} {s:Shared} {l b:Addr} {xs ys zs:List V}
theorem Inv.lset {its its':List Value} {n:Nat} {f:Array Value→Array Value} {t':Nat} (I:Inv X pins σ H s) (hH:H l=some (.lst xs))
    (e:s.heap.get? l=some { cls:=.type "list",data:=.seq its.toArray n }) (hf:f its.toArray=its'.toArray) (hv:Vals ys its') (hz:ys.length≤sizeLine) :
    Inv X pins σ (upd H l (.lst ys)) { s with heap:=s.heap.update l (Obj.mapSeq f),toks:=t' }:=by
  have q:=PySem.IsL.update e f
  rw [hf] at q
  refine I.write (x:=l) (e:=l) (by rw [hH]; exact trivial) (.inl rfl) (fun b' u hb hu=>(Heap.get?_update_other s.heap (Obj.mapSeq f) (Ne.symm hb)).trans hu) ⟨_,q⟩ ?_
  exact ⟨hz,its',_,hv,q⟩
theorem Inv.lnew {its:List Value} {t':Nat} (I:Inv X pins σ H s) (hv:Vals ys its) (hz:ys.length≤sizeLine) :
    Inv X pins σ (upd H s.heap.objs.size (.lst ys)) { s with heap:=s.heap.push { cls:=.type "list",data:=.seq its.toArray },toks:=t' }:=
  I.laid (fun _ _ q=>Heap.get?_push_of_some _ q) (Nat.le_refl _) ⟨hz,its,0,hv,Heap.get?_push_size _ rfl⟩
theorem Inv.fresh (I:Inv X pins σ H s):H s.heap.objs.size=none:=I.hok.fresh (Nat.le_refl _)
theorem Inv.lstM (I:Inv X pins σ H s) (hH:H l=some (.lst xs)):xs.length≤sizeLine∧∃ (its:List Value) (n:Nat),Vals xs its∧xs.length=its.length∧s.heap.get? l=some { cls:=.type "list",data:=.seq its.toArray n }:=by
  obtain ⟨z,its,n,r,e⟩:=I.hok l _ hH
  exact ⟨z,its,n,r,r.length,e⟩
end
section
variable {X:Cx}
noncomputable def rAppend:V→List V→Hp→VK→Prop:=fun x vs H Q=>∃ l xs y,x=.ref l∧vs=[y]∧H l=some (.lst xs)∧xs.length<sizeLine∧Q .non (upd H l (.lst (xs++[y])))
theorem mt_append:MtM X "list.append" rAppend:=by
  intro pins s σ H x vs v us Q I rx rv h
  obtain ⟨l,xs,y,rfl,rfl,hH,hz,q⟩:=h
  cases rx
  obtain ⟨u,rfl,ru⟩:=rv.one
  obtain ⟨z,its,n,r,hl,e⟩:=I.lstM hH
  refine call_meets F.slot_list_append ⟨_,e,rfl⟩ F.entry_list_append (F.args_list_append_2 _ _) (PySem.list_append l its.toArray n u (by rw [List.size_toArray]; omega)) ⟨e,?_⟩
  refine ⟨.non,_,I.lset (its':=its++[u]) hH e (by simp) (r.append (.cons ru .nil)) ?_,rfl,q⟩
  rw [List.length_append,List.length_singleton]
  omega
end
section
variable {prog:Program} {w:World} {A:Around} {E:Value→Shared→Prop} {s:Shared}
end
section
variable {X:Cx}
end
end L2
namespace Att
open PySem PySem.W PySem.Calls PyProof.Rows
theorem ints_of_wellAll {P:Params} {h:Heap}:∀ (ns:List Int) (vs:List Value),WellAll P h vs (ns.map WData.int)→IntsAre vs ns:=by
  intro ns
  induction ns with
  | nil=>
    intro vs w
    rw [List.map_nil] at w
    cases w
    exact .nil
  | cons n ns ih=>
    intro vs w
    rw [List.map_cons] at w
    cases w with
    | cons a b=>
      cases a
      exact .cons _ _ (ih _ b)
theorem script_of {l:OpenLaw} {n:Nat} (hn:l.most=some n) {P:Params} {h:Heap} {args:List WData} {vals:List Value}
    (hpre:l.row.toRowW.claim.pre args=true) (hwl:WellAll P h vals args) :
    ∃ a vs ns,vals=[Value.ref a]∧args=[WData.list (ns.map WData.int)]∧h.get? a=some { cls:=.type "list",data:=.seq vs.toArray }∧IntsAre vs ns∧ns.length≤n:=by
  have hsh:WShape.hasAll [] args [.list .int]=true:=(pre_splitW hpre).1
  have hc:l.pre.holds [] { args:=args }=true:=(pre_splitW hpre).2
  obtain ⟨d,r,rfl,h1,h2⟩:=hasAllW_cons hsh
  obtain rfl:=hasAllW_nil h2
  obtain ⟨xs,rfl,h3⟩:=hasW_list h1
  obtain ⟨ns,rfl⟩:=items_int h3
  have hlen:ns.length≤n:=by
    unfold OpenLaw.pre at hc
    have h4:(WTm.not (.lt (.lit (.int (n:Int))) (.len (.arg 0)))).holds [] { args:=[.list (ns.map .int)] }=true:=by
      have h4:=(holds_andW hc).1
      rw [hn] at h4
      exact h4
    have h5:=condW_of h4 (w_not (w_lt w_lit (w_len_list (w_arg rfl))))
    rw [List.length_map] at h5
    refine Nat.le_of_not_lt fun q=>?_
    have q':(n:Int)<((ns.length:Nat):Int):=by omega
    first
      | (rw [decide_eq_true q'] at h5; exact absurd h5 (by decide))
      | (simp at h5; omega)
  cases hwl with
  | cons w1 w2=>
    cases w2
    cases w1 with
    | list ho hall=>exact ⟨_,_,ns,rfl,rfl,ho,ints_of_wellAll ns _ hall,hlen⟩
theorem post_true (l:OpenLaw) (args:List WData):l.row.toRowW.claim.post args (.bool true) args=true:=
  postW_of (r:=l.row.toRowW) (X:=(true == true))
    (show WShape.has [] (.bool true) .bool=true by first | rfl | decide | simp [WShape.has,WShape.arms,WShape.armsAll])
    (show (WTm.eq .res (.lit (.bool true))).value [] { args:=args,res:=some (.bool true),after:=args }=some (.bool (true == true)) from w_eq_bool (w_res rfl) w_lit) rfl
section
variable {prog:Program} {w:World} {A:Around} {E:Value→Shared→Prop} {s:Shared} {K:Frag}
end
end Att
namespace L2
open PySem PySem.Spec PyProof.Rows
theorem vals_ints:∀ {vs:List Value} {ns:List Int},IntsAre vs ns→Vals (ns.map V.int) vs
  | _,_,.nil=>.nil
  | _,_,.cons n t h=>.cons ⟨t,rfl⟩ (vals_ints h)
noncomputable def Only (H:Hp):Prop:=∀ b,H b=none∨∃ o xs,H b=some (.frz o (.lst xs))
theorem law_call {P:Program} {w:World} {K:PySem.W.Frag} {mg mb:Str→Option Value} {CX:CXT} {k:Nat} {fa a:Addr} {fd:FuncData} {x:Str} {sp:Sp} {s₁:Shared} {vs:List Value} {ns:List Int}
    (KX:K.In s₁.heap) (hns:s₁.heap.Ns mainGlobals mg) (hb:s₁.heap.Ns builtinsNs mb) (hbb:∀ x:Str,x ≠ "__name__" → mb x=bootBuiltins x) (hlim:s₁.heap.NoLimit) (hg:s₁.gens=#[])
    (ha:s₁.heap.get? a=some { cls:=.type "list",data:=.seq vs.toArray }) (hi:IntsAre vs ns) (hl:ns.length≤sizeLine) (hr:Room k callerA)
    (F:∀ base:Heap,K.In base→base.Ns mainGlobals mg→FnOk P w K mg base CX k fa fd [x] sp) (hbind:∀ (s:Shared) (u:Value),BindsTo s fd ⟨[u],[]⟩ [(x,u)])
    (hsp:∀ H:Hp,Only H→SqL K H a (ns.map V.int)→sp [.ref a] H (fun v _=>v=.bl true) fun _ _ _=>False)
    (hCX:∀ H e s',CX [] H s₁ (fun _ _ _=>False) e s'→False) :
    codeAny (model P w) callerA (.call (.ref fa) ⟨[.ref a],[]⟩) (fun r s'=>r=.ok (.ret (.bool true))∧OldK s₁.heap s'.heap∧s'.os=s₁.os∧AllBare s'.gens) s₁:=by
  have rv:=vals_ints hi
  have lenV:=hi.length
  have core:∀ H:Hp,Only H→SqL K H a (ns.map V.int)→HOk P w H s₁.heap→(∀ b,H b≠none→b=a)→(H a≠none→K.lookup a=none)→
      codeAny (model P w) callerA (.call (.ref fa) ⟨[.ref a],[]⟩) (fun r s'=>r=.ok (.ret (.bool true))∧OldK s₁.heap s'.heap∧s'.os=s₁.os∧AllBare s'.gens) s₁:=by
    intro H hO hS hok hA hK
    have base_of:∀ {b:Addr} {o:Obj},s₁.heap.get? b=some o→H b=none→(hidT s₁.heap H).get? b=some o:=fun e n=>hidT_get e n
    have noA:∀ {b:Addr} {o:Obj} {es:Array DictEntry} {ep:Nat},s₁.heap.get? b=some o→o.data=.dict es ep→H b=none:=fun {b o es ep} e d=>by
      cases q:H b with
      | none=>rfl
      | some u=>
        have e':b=a:=hA b (by rw [q]; simp)
        subst e'
        rw [ha] at e; cases e
        have d':Data.seq vs.toArray _=Data.dict es ep:=d
        cases d'
    have nsK:∀ {b:Addr} {m:Str→Option Value},s₁.heap.Ns b m→(hidT s₁.heap H).Ns b m:=fun {b m} ⟨o,es,ep,e,d,r⟩=>⟨o,es,ep,base_of e (noA e d),d,r⟩
    have hKb:K.In (hidT s₁.heap H):=fun b o e=>base_of (KX b o e) (by
      cases q:H b with
      | none=>rfl
      | some u=>
        have e':b=a:=hA b (by rw [q]; simp)
        subst e'
        rw [hK (by rw [q]; simp)] at e; cases e)
    have hM:Mod K mg (hidT s₁.heap H):=⟨hKb,nsK hns,⟨mb,nsK hb,hbb⟩,let ⟨mc,h1,h2⟩:=hlim; ⟨mc,nsK h1,h2⟩⟩
    have e0:Env0 P w K mg (hidT s₁.heap H) callerA [] s₁ H:=⟨rfl,hM,fun b o e=>of_hidT e,Nat.le_of_eq (hidT_size _ _),trivial,fun b hb=>absurd (show b∈([]:List Addr) from hb) (by simp),hok,.of_eq hg⟩
    refine codeAny_mono ((F _ hKb (nsK hns)).run callerA [] s₁ H ⟨[.ref a],[]⟩ [.ref a] [.ref a] _ _ hr e0 (hbind s₁ (.ref a)) (.cons rfl .nil) (hsp H hO hS)) fun r s' h=>?_
    cases r with
    | error e=>exact (hCX H e s' h).elim
    | ok fl=>
      cases fl with
      | next=>exact False.elim h
      | brk=>exact False.elim h
      | cont=>exact False.elim h
      | ret u=>
        obtain ⟨v,H',os,bare,un,hok',r',q⟩:=h
        have q':v=.bl true:=q
        subst q'
        obtain rfl:u=Value.bool true:=r'
        refine ⟨rfl,OldK.of_keep fun b o e=>?_,os,bare⟩
        cases q:H b with
        | none=>exact un.keep b o e q (by intro z; exact absurd (show b∈([]:List Addr) from z) (by simp)) (by simp)
        | some u=>
          rcases hO b with z | ⟨ob,xs,z⟩
          · rw [q] at z; cases z
          · have z2:=un.frzs b ob _ z
            obtain ⟨e1,_⟩:=hok b _ z
            obtain ⟨e2,_⟩:=hok' b _ z2
            rw [e] at e1; cases e1
            exact e2
  cases hk:K.lookup a with
  | some o=>
    have e:=KX a o hk
    rw [ha] at e
    cases e
    refine core (fun _=>none) (fun _=>.inl rfl) (.inr ⟨_,vs.toArray,_,hk,rfl,rfl,rfl,by rw [List.size_toArray,lenV]; exact hl,by simpa using rv⟩) (fun b u z=>by have z':(none:Option HO)=some u:=z; cases z') (fun b z=>absurd rfl z) fun z=>absurd rfl z
  | none=>
    refine core (fun b=>if b=a then some (.frz { cls:=.type "list",data:=.seq vs.toArray } (.lst (ns.map V.int))) else none) (fun b=>?_) (.inl (.inr ⟨{ cls:=.type "list",data:=.seq vs.toArray },if_pos rfl⟩)) (fun b u z=>?_) (fun b z=>?_) fun _=>hk
    · by_cases hb:b=a
      · exact .inr ⟨_,_,if_pos hb⟩
      · exact .inl (if_neg hb)
    · by_cases hb:b=a
      · have z':=(if_pos hb).symm.trans z
        cases z'
        subst hb
        exact ⟨ha,by rw [List.length_map]; exact hl,vs,_,rv,ha⟩
      · have z':=(if_neg hb).symm.trans z
        cases z'
    · by_cases hb:b=a
      · exact hb
      · exact absurd (if_neg hb) z
end L2
namespace L2
open PySem PySem.Spec PyProof.Rows
end L2
namespace L2
open PySem PySem.Spec PyProof.Rows
noncomputable def defArgs (s:Stmt):Arguments:=match s with
  | .FunctionDef _ a _ _ _ _ _ _ _ _=>a
  | _=>{ posonlyargs:=[],args:=[],vararg:=none,kwonlyargs:=[],kw_defaults:=[],kwarg:=none,defaults:=[] }
noncomputable def defBody (s:Stmt):List Stmt:=match s with
  | .FunctionDef _ _ b _ _ _ _ _ _ _=>b
  | _=>[]
noncomputable def defScope (s:Stmt):Scope:=match s with
  | .FunctionDef _ _ _ _ _ _ sc _ _ _=>sc
  | _=>{ kind:=.function,names:=[],isGenerator:=false,isCoroutine:=false }
noncomputable abbrev CX0:CXT:=fun _ _ _ _ _ _=>False
noncomputable abbrev E0:XK:=fun _ _ _=>False
theorem pass0 {X:Cx}:Passes CX0 X E0:=fun _ _ _ _ _ _ _ h=>h.elim
structure Fun (K:PySem.W.Frag) (x qual:Str) (st:Stmt) (f:Addr) (fd:FuncData):Prop where
  ex:∃ (oc:Value) (od:Option Addr) (kV doc pm:Value) (an:Option Addr) (cdv ct:Value) (osl:Array (Option Value)),
    fd=PySem.W.fnOf x qual (defArgs st) (defBody st) (defScope st) .none kV doc pm an cdv ct∧K.lookup f=some ⟨oc,od,.func fd,osl⟩∧PySem.W.codeIn K cdv qual=true
  kp:PySem.W.keepIn K (.ref f)=true
section
variable {P:Program} {w:World} {K:PySem.W.Frag} {mg:Str→Option Value} {base:Heap}
theorem Fun.ok {x qual:Str} {st:Stmt} {f:Addr} {fd:FuncData} {N ps:List Str} {k:Nat} {sp:Sp} (F:Fun K x qual st f fd) (S:FnScope N ps (defScope st)) (len:∀ vs H Q E,sp vs H Q E→vs.length=ps.length)
    (hbody:∀ (cdv:Value) (A:Around) (outer:List Env) (s:Shared) (H:Hp) (vs:List V) (Q:VK) (E:XK),Room k (A.deeper (envOfC qual (defScope st) s.heap.objs.size f cdv))→sp vs H Q E→
      ∃ t,PSs (cxOf CX0 P w K mg base N qual (defScope st) f cdv A outer s H E).nox (defBody st) t∧t { nx:=fun _ H'=>Q .non H',rt:=Q } (start N vs) H):FnOk P w K mg base CX0 (k+1) f fd ps sp:=by
  obtain ⟨oc,od,kV,doc,pm,an,cdv,ct,osl,rfl,lk,hcd⟩:=F.ex
  refine fn_of lk hcd S len fun A outer s H vs Q E hr hsp=>?_
  obtain ⟨t,h,q⟩:=hbody cdv A outer s H vs Q E hr hsp
  exact ⟨t,h.nox,q⟩
theorem Fun.binds {x qual:Str} {st:Stmt} {f:Addr} {fd:FuncData} {ps:List Str} (F:Fun K x qual st f fd)
    (h:∀ (kV doc pm:Value) (an:Option Addr) (cdv ct:Value) (us:List Value),us.length=ps.length→bindArgs (PySem.W.fnOf x qual (defArgs st) (defBody st) (defScope st) .none kV doc pm an cdv ct) ⟨us,[]⟩=pure (ps.zip us)):Binds K fd ps []:=by
  obtain ⟨oc,od,kV,doc,pm,an,cdv,ct,osl,rfl,lk,hcd⟩:=F.ex
  exact .all (h kV doc pm an cdv ct)
theorem fun_mk {x qual:Str} {st:Stmt} {f:Addr} {oc:Value} {od an:Option Addr} {osl:Array (Option Value)} {kV doc pm cdv ct:Value} (l:K.lookup f=some ⟨oc,od,.func (PySem.W.fnOf x qual (defArgs st) (defBody st) (defScope st) .none kV doc pm an cdv ct),osl⟩)
    (c:PySem.W.codeIn K cdv qual=true) (k:PySem.W.keepIn K (.ref f)=true):Fun K x qual st f (PySem.W.fnOf x qual (defArgs st) (defBody st) (defScope st) .none kV doc pm an cdv ct):=⟨⟨oc,od,kV,doc,pm,an,cdv,ct,osl,rfl,l,c⟩,k⟩
end
theorem hu_of {A:Around} {k:Nat} (hr:Room k A):A.units+1<cLine:=Nat.lt_of_le_of_lt (Nat.add_le_add_left (by decide:1≤64) _) hr.units
theorem small1000 {n:Nat} (h:n≤1000):n<sizeLine:=Nat.lt_of_le_of_lt h (by decide)
section
variable {X:Cx}
end
theorem iteF {A B:Prop} (h:B):if false=true then A else B:=by
  rw [if_neg Bool.false_ne_true]
  exact h
theorem iteT {A B:Prop} (h:A):if true=true then A else B:=by
  rw [if_pos rfl]
  exact h
noncomputable def Same (H H':Hp):Prop:=∀ b o,H b=some o→H' b=some o
theorem Same.refl (H:Hp):Same H H:=fun _ _ h=>h
theorem Same.trans {H H1 H2:Hp} (a:Same H H1) (b:Same H1 H2):Same H H2:=fun c o h=>b c o (a c o h)
theorem Same.free {H H':Hp} (e:Same H H') {l:Addr} (h:H' l=Option.none):H l=Option.none:=by
  cases q:H l with
  | none=>rfl
  | some o=>
    rw [e l o q] at h
    cases h
end L2
set_option linter.all false
set_option maxRecDepth 100000
set_option maxHeartbeats 4000000
namespace L2
open PySem PySem.Spec PyProof.Rows
noncomputable def Def (K:PySem.W.Frag) (mg:Str→Option Value) (x:Str) (st:Stmt) (ps:List Str):Prop:=
  ∃ (f:Addr) (fd:FuncData),Fun K x x st f fd∧mg x=some (.ref f)∧Binds K fd ps []
noncomputable def Has (P:Program) (w:World) (K:PySem.W.Frag) (mg:Str→Option Value) (base:Heap) (x:Str) (ps:List Str) (k:Nat) (sp:Sp):Prop:=
  ∃ (f:Addr) (fd:FuncData),mg x=some (.ref f)∧PySem.W.keepIn K (.ref f)=true∧Binds K fd ps []∧FnOk P w K mg base CX0 k f fd ps sp
noncomputable def Glb (mg:Str→Option Value) (x:Str) (v:V):Prop:=∃ u,mg x=some u∧RelV v u
section
variable {P:Program} {w:World} {K:PySem.W.Frag} {mg:Str→Option Value} {base:Heap}
theorem Def.ok {x:Str} {st:Stmt} {N ps:List Str} {k:Nat} {sp:Sp} (d:Def K mg x st ps) (S:FnScope N ps (defScope st)) (len:∀ vs H Q E,sp vs H Q E→vs.length=ps.length)
    (hbody:∀ (f:Addr) (cdv:Value) (A:Around) (outer:List Env) (s:Shared) (H:Hp) (vs:List V) (Q:VK) (E:XK),Room k (A.deeper (envOfC x (defScope st) s.heap.objs.size f cdv))→sp vs H Q E→
      ∃ t,PSs (cxOf CX0 P w K mg base N x (defScope st) f cdv A outer s H E).nox (defBody st) t∧t { nx:=fun _ H'=>Q .non H',rt:=Q } (start N vs) H):Has P w K mg base x ps (k+1) sp:=by
  obtain ⟨f,fd,F,hm,hb⟩:=d
  exact ⟨f,fd,hm,F.kp,hb,F.ok S len (hbody f)⟩
end
section
variable {X:Cx} {x:Str} {p pos:Pos} {e:Expr} {es:List Expr} {t:TA} {ps:List Str} {j k:Nat} {sp:Sp} {v:V} {T:String}
noncomputable def noStar:Expr→Bool
  | .Starred ..=>false
  | _=>true
theorem star_cons {e:Expr} {es:List Expr} {env:Env} (h:noStar e=true):starEach (e::es) env=(false,eval e env)::starEach es env:=by
  cases e<;>first | rfl | cases h
theorem star_any {env:Env} {pos:Pos}:∀ {es:List Expr},es.all noStar=true→(backTo pos (starEach es env)).any (·.1)=false
  | [],_=>rfl
  | e::es,h=>by
    rw [List.all_cons,Bool.and_eq_true] at h
    rw [star_cons h.1]
    have ih:=star_any (env:=env) (pos:=pos) h.2
    unfold backTo at ih ⊢
    rw [List.map_cons,List.any_cons,ih]
    rfl
theorem pac {te:TE} (ha:PE X e te) (hr:PA X es t) (h:noStar e=true:=by rfl):PA X (e::es) (tCons te t):=pa_cons ha hr (star_cons h)
noncomputable def asInt:Expr→Option Int
  | .Constant (.int i) _ _=>some i
  | _=>none
theorem asInt_ok {e:Expr} {i:Int} (h:asInt e=some i):∃ k p,e=.Constant (.int i) k p:=by
  cases e<;>first | (cases h; done) | skip
  rename_i c k p
  cases c<;>first | (cases h; done) | skip
  cases h
  exact ⟨k,p,rfl⟩
noncomputable def intsOf:List Expr→Option (List Int)
  | []=>some []
  | e::r=>(asInt e).bind fun i=>(intsOf r).map (i::·)
theorem pa_ints:∀ {es:List Expr} {is:List Int},intsOf es=some is→PA X es (fun _ H Q=>Q (is.map V.int) H)
  | [],is,h=>by
    cases (show some []=some is from h)
    exact pa_nil
  | e::r,is,h=>by
    have q:((asInt e).bind fun i=>(intsOf r).map (i::·))=some is:=h
    cases e1:asInt e with
    | none=>rw [e1] at q; cases q
    | some i=>
      rw [e1] at q
      obtain ⟨k,p,rfl⟩:=asInt_ok e1
      cases e2:intsOf r with
      | none=>rw [e2] at q; cases q
      | some js=>
        rw [e2] at q
        cases (show some (i::js)=some is from q)
        exact pac pe_int (pa_ints e2)
theorem pe_own (h:Has X.prog X.w X.K X.mg X.base x ps k sp) (hr:Room j X.A) (hg:Gl X x) (ha:PA X (e::es) t) (hk:k≤j:=by decide) (hdb:(x == ("__debug__" : Str))=false:=by decide)
    (he:(e::es).all noStar=true:=by rfl):PE X (.Call (.Name x p) (e::es) [] pos) (tCall sp [] E0 t):=by
  obtain ⟨f,fd,hm,kp,b,F⟩:=h
  rw [List.all_cons,Bool.and_eq_true] at he
  exact pe_call F (hr.mono hk) hg hm kp b .nil pass0 ha hdb (star_cons he.1) (star_any he.2)
theorem pe_gl (h:Glb X.mg x v) (hg:Gl X x) (hd:(x == ("__debug__" : Str))=false:=by decide):PE X (.Name x pos) (tC v):=by
  obtain ⟨u,hm,r⟩:=h
  exact pe_glob hg hm r hd
theorem pe_bty (hg:Gl X x) (hm:X.mg x=none) (hv:bootBuiltins x=some (.type T)) (hn:x ≠ "__name__" := by decide) (hd:(x == ("__debug__" : Str))=false:=by decide):PE X (.Name x pos) (tC (.ty T)):=
  pe_bltn hg hm hv rfl hn hd
end
section
variable {X:Cx} {st:Stmt} {t:TS}
end
section
variable {X:Cx}
theorem op_fdivP:OpR X (binaryOp .FloorDiv) (rI (fun _ j=>0<j∧j<2 ^ 64) fun i j=>.int (i / j)):=opI fun i j _ _ _ _ _ hc q=>by
  have h1:(0:Int)<j:=hc.1
  have h2:j<2 ^ 64:=hc.2
  have h3:j.natAbs.log2<64:=(Nat.log2_lt (by omega)).mpr (by omega)
  exact PyProof.Rows.floordiv_int (by omega) (by rw [Int.fdiv_eq_ediv_of_nonneg i (by omega)]; exact q) (.inl (PyProof.noPylong_of_log2 (by omega)))
end
theorem bt_len:bootBuiltins "len" = some (.builtin "len"):=by decide +kernel
theorem bt_isinstance:bootBuiltins "isinstance" = some (.builtin "isinstance"):=by decide +kernel
theorem bt_all:bootBuiltins "all" = some (.builtin "all"):=by decide +kernel
theorem boot_ty_int:bootBuiltins "int" = some (.type "int"):=by decide +kernel
theorem boot_ty_bool:bootBuiltins "bool" = some (.type "bool"):=by decide +kernel
theorem boot_ty_str:bootBuiltins "str" = some (.type "str"):=by decide +kernel
theorem boot_ty_list:bootBuiltins "list" = some (.type "list"):=by decide +kernel
theorem boot_ty_tuple:bootBuiltins "tuple" = some (.type "tuple"):=by decide +kernel
theorem kit_int_int {K:PySem.W.Frag}:PySem.W.kitOne K (.type "int") (.type "int")=some true:=by rfl
theorem kit_bool_int {K:PySem.W.Frag}:PySem.W.kitOne K (.type "bool") (.type "int")=some true:=by kernel_rfl
theorem kit_int_bool {K:PySem.W.Frag}:PySem.W.kitOne K (.type "int") (.type "bool")=some false:=by kernel_rfl
theorem kit_bool_bool {K:PySem.W.Frag}:PySem.W.kitOne K (.type "bool") (.type "bool")=some true:=by rfl
theorem kit_none_int {K:PySem.W.Frag}:PySem.W.kitOne K (.type "NoneType") (.type "int")=some false:=by kernel_rfl
theorem kit_none_bool {K:PySem.W.Frag}:PySem.W.kitOne K (.type "NoneType") (.type "bool")=some false:=by kernel_rfl
theorem kit_tup_tup {K:PySem.W.Frag}:PySem.W.kitOne K (.type "tuple") (.type "tuple")=some true:=by rfl
theorem kit_str_str {K:PySem.W.Frag}:PySem.W.kitOne K (.type "str") (.type "str")=some true:=by rfl
theorem same_new {H:Hp} {p:Addr} (h:H p=none) (o:HO):Same H (upd H p o):=fun b u q=>by rw [upd_ne (ne_of_none q h)]; exact q
theorem small {n:Nat} (h:n≤1000):n≤sizeLine:=Nat.le_of_lt (small1000 h)
end L2
namespace L2
open PySem PySem.Spec PyProof.Rows
section
variable {X:Cx} {tg:Expr}
end
end L2
namespace L2
open PySem PySem.Spec PyProof.Rows
noncomputable def CapAll (env:Env):List (Str×Addr)→Prop
  | []=>True
  | p::r=>env.cells.lookup p.1=some p.2∧CapAll env r
theorem CapAll.get {env:Env}:∀ {cl:List (Str×Addr)} {y:Str} {c:Addr},CapAll env cl→cl.lookup y=some c→env.cells.lookup y=some c
  | [],_,_,_,h=>by cases h
  | (n,a)::r,y,c,hc,h=>by
    rw [List.lookup_cons] at h
    cases e:y == n with
    | true=>
      rw [e] at h
      have e':y=n:=by simpa using e
      subst e'
      have h':a=c:=by simpa using h
      subst h'
      exact hc.1
    | false=>
      rw [e] at h
      exact CapAll.get hc.2 (by simpa using h)
noncomputable def blkOk (scope:Scope) (env:Env) (cl:List (Str×Addr)) (own:List Str):Bool:=
  scope.names.all fun p=>p.1 != ("." : Str)&&((p.2 == .local&&(own.contains p.1||p.1 == (".0" : Str)))||p.2 == .globalImplicit||p.2 == .globalExplicit ||
    (p.2 == .free&&(env.kindOf p.1 == some .cell||env.kindOf p.1 == some .free)&&(cl.lookup p.1).isSome))
noncomputable def hide (own:List Str) (y:Str):Str:=if own.contains y||y == (".0" : Str) then "." else y
noncomputable def blkN (N own:List Str):List Str:=N.map (hide own)++own
theorem relab_mem {env:Env}:∀ {names:List (Str×NameKind)} {y:Str} {k:NameKind},
    (names.map fun (n,k)=>if (k == NameKind.free&&env.scope.kind == .function&&env.kindOf n == some .cell) then (n,NameKind.cell) else (n,k)).lookup y=some k→∃ k0,(y,k0)∈names∧(k=k0∨(k0=.free∧k=.cell))
  | [],_,_,h=>by simp at h
  | (n,k')::r,y,k,h=>by
    rw [List.map_cons] at h
    by_cases hc:(k' == NameKind.free&&env.scope.kind == .function&&env.kindOf n == some .cell)=true
    · dsimp only at h
      rw [if_pos hc,List.lookup_cons] at h
      cases e:y == n with
      | true=>
        rw [e] at h
        have e':y=n:=by simpa using e
        subst e'
        have h':NameKind.cell=k:=by simpa using h
        have hf:k'=.free:=by
          rw [Bool.and_eq_true,Bool.and_eq_true] at hc
          simpa using hc.1.1
        exact ⟨k',List.mem_cons_self,.inr ⟨hf,h'.symm⟩⟩
      | false=>
        rw [e] at h
        obtain ⟨k0,m,z⟩:=relab_mem (env:=env) (by simpa using h)
        exact ⟨k0,List.mem_cons_of_mem _ m,z⟩
    · dsimp only at h
      rw [if_neg hc,List.lookup_cons] at h
      cases e:y == n with
      | true=>
        rw [e] at h
        have e':y=n:=by simpa using e
        subst e'
        have h':k'=k:=by simpa using h
        exact ⟨k',List.mem_cons_self,.inl h'.symm⟩
      | false=>
        rw [e] at h
        obtain ⟨k0,m,z⟩:=relab_mem (env:=env) (by simpa using h)
        exact ⟨k0,List.mem_cons_of_mem _ m,z⟩
noncomputable def cxBlk (X:Cx) (scope:Scope) (cl:List (Str×Addr)) (own:List Str) (C:Addr) (s2:Shared) (H2:Hp) (fp:List Addr) (pn:List (Addr×Obj)):Cx:=
  { X with N:=blkN X.N own,s₀:=s2,H₀:=H2,env:=compEnvC scope cl C X.env,outer:=X.stack,stack:=X.stack,ex:=fp,fn:=fun _=>false,pn:=pn,xe:=fun _ _=>False }
section
variable {X:Cx} {pins:List (Addr×Obj)} {σ:St} {H2:Hp} {s2:Shared} {scope:Scope} {cl:List (Str×Addr)} {own:List Str} {C D:Addr} {fp:List Addr}
theorem blk_name (hb:blkOk scope X.env cl own=true) {y:Str} {k:NameKind} (h:(relabel scope X.env).names.lookup y=some k) :
    y ≠ "." ∧ ((k=.local→own.contains y=true∨y = ".0")∧((k=.cell∨k=.free)→(∃ k0,(y,k0)∈scope.names∧k0=.cell)∨((X.env.kindOf y=some .cell∨X.env.kindOf y=some .free)∧∃ c,cl.lookup y=some c))):=by
  obtain ⟨k0,m,z⟩:=relab_mem h
  have q:=List.all_eq_true.mp hb _ m
  rw [Bool.and_eq_true] at q
  obtain ⟨q1,q2⟩:=q
  refine ⟨by simpa using q1,fun hk=>?_,fun hk=>?_⟩
  · rcases z with z | ⟨_,z⟩
    · subst z
      subst hk
      simpa using q2
    · rw [z] at hk
      cases hk
  · have hf:k0=.free∨k0=.cell:=by
      rcases z with z | ⟨z,_⟩
      · subst z
        rcases hk with hk | hk
        · exact .inr hk
        · exact .inl hk
      · exact .inl z
    rcases hf with hf | hf
    · subst hf
      right
      have q3:((X.env.kindOf y == some .cell||X.env.kindOf y == some .free)&&(cl.lookup y).isSome)=true:=by simpa using q2
      rw [Bool.and_eq_true] at q3
      refine ⟨?_,Option.isSome_iff_exists.mp q3.2⟩
      have:=q3.1
      rw [Bool.or_eq_true] at this
      rcases this with t | t
      · exact .inl (by simpa using t)
      · exact .inr (by simpa using t)
    · exact .inl ⟨k0,m,hf⟩
theorem blk_name' (hb:blkOk scope X.env cl own=true) (hcell:∀ y∈scope.names,y.2≠.cell) {y:Str} {k:NameKind} (h:(relabel scope X.env).names.lookup y=some k) (hk:k=.cell∨k=.free) :
    (X.env.kindOf y=some .cell∨X.env.kindOf y=some .free)∧∃ c,cl.lookup y=some c:=by
  rcases (blk_name hb h).2.2 hk with ⟨k0,m,e⟩ | q
  · exact absurd e (hcell _ m)
  · exact q
theorem blk_ok (I:Inv X pins σ H2 s2) (hk:scope.kind=.function) (hcell:∀ y∈scope.names,y.2≠.cell) (hcap:CapAll X.env cl) (hb:blkOk scope X.env cl own=true) (hC:s2.heap.objs.size≤C)
    (hfp:∀ b∈fp,FpOk X pins H2 b) (hfo:∀ b∈fp,∃ o,s2.heap.get? b=some o):(cxBlk X scope cl own C s2 H2 fp (X.pn++pins)).Ok where
  mod:=I.ok.mod
  kind:=hk
  glob:=I.ok.glob
  blt:=I.ok.blt
  above:=hC
  inj:=fun x y c h1 h2=>I.ok.inj x y c (hcap.get h1) (hcap.get h2)
  has:=fun x hx=>by
    rcases hx with hx | hx
    · exact (blk_name' hb hcell (show (relabel scope X.env).names.lookup x=_ from hx) (.inl rfl)).2
    · exact (blk_name' hb hcell (show (relabel scope X.env).names.lookup x=_ from hx) (.inr rfl)).2
  cab:=fun x c h=>by cases h
  hd:=I.ok.hd
  frames:=I.ok.frames
  stk:=.inl rfl
  exf:=fun b hx=>⟨by
    obtain ⟨o,e⟩:=hfo b hx
    exact Nat.ne_of_lt (Nat.lt_of_lt_of_le (Heap.lt_size e) hC),fun x c h=>(hfp b hx).2.2.2.2.1 x c (hcap.get h)⟩
  bs:=I.bs
  bsz:=Nat.le_trans I.ok.bsz I.sz
  noex:=fun b o e hx=>by
    rcases (hfp b hx).2.2.2.1 with z | z
    · exact I.ok.noex b o e z
    · exact absurd (Nat.lt_of_lt_of_le (Heap.lt_size e) (Nat.le_trans I.ok.bsz z)) (Nat.lt_irrefl _)
  exfs:=fun b hx hz=>by
    rcases List.mem_cons.mp (I.stkSub b hz) with z | z
    · exact (hfp b hx).2.1 z
    · exact (hfp b hx).2.2.1 z
  funs:=I.stack
  frf:=I.stkFree
theorem get_tail {α:Type} {σ:List (Option α)} {n i:Nat} {v:α} (h:(σ++List.replicate n none)[i]?=some (some v)):σ[i]?=some (some v):=by
  by_cases hi:i<σ.length
  · rw [List.getElem?_append_left hi] at h
    exact h
  · rw [List.getElem?_append_right (by omega),List.getElem?_replicate] at h
    split at h<;>cases h
theorem blk_start {h4:Heap} {m0:Str→Option Value} {dobj:Obj} {tk:Nat} (I:Inv X pins σ H2 s2) (hk:scope.kind=.function) (hcell:∀ y∈scope.names,y.2≠.cell) (hcap:CapAll X.env cl) (hb:blkOk scope X.env cl own=true)
    (hC:s2.heap.objs.size≤C) (hD:s2.heap.objs.size≤D) (hDC:D≠C) (hfp:∀ b∈fp,FpOk X pins H2 b) (hfo:∀ b∈fp,∃ o,s2.heap.get? b=some o)
    (keep:∀ b o,s2.heap.get? b=some o→h4.get? b=some o) (ns:h4.Ns C m0) (hd:h4.get? D=some dobj) (hdd:∀ v,dobj.data≠.cell v) :
    Inv (cxBlk X scope cl own C s2 H2 fp (X.pn++pins)) [(D,dobj)] (σ++List.replicate own.length none) H2 { s2 with heap:=h4,toks:=tk }:=by
  have nfs:∀ a,s2.heap.objs.size≤a→a ∉ frs X.stack:=fun a ha hz=>by
    rcases List.mem_cons.mp (I.stkSub a hz) with z | z
    · exact absurd (Nat.lt_of_lt_of_le I.lt ha) (by rw [z]; exact Nat.lt_irrefl _)
    · exact I.nofs ha z
  refine ⟨blk_ok I hk hcell hcap hb hC hfp hfo,rfl,I.bare,Un.kept keep,⟨m0,ns,fun i y v e1 e2 e3=>?_⟩,fun x c h=>?_,I.hok.fresh hC,fun x c h=>I.freeC x c (hcap.get h),fun p hp=>?_,I.hok.kept keep,?_⟩
  · have e2':σ[i]?=some (some v):=get_tail e2
    have hi:i<X.N.length:=by
      have:=(List.getElem?_eq_some_iff.mp e2').1
      rw [I.len] at this
      exact this
    have e1':(X.N.map (hide own)++own)[i]?=some y:=e1
    rw [List.getElem?_append_left (by simpa using hi),List.getElem?_map] at e1'
    cases en:X.N[i]? with
    | none=>
      rw [en] at e1'
      cases e1'
    | some n=>
      rw [en] at e1'
      have ey:hide own n=y:=Option.some.inj e1'
      have vis:∃ k,(relabel scope X.env).names.lookup y=some k∧(k=.local∨k=.cell∨k=.free):=by
        rcases e3 with z | z | z
        · exact ⟨_,z,.inl rfl⟩
        · exact ⟨_,z,.inr (.inl rfl)⟩
        · exact ⟨_,z,.inr (.inr rfl)⟩
      obtain ⟨k,lk,kk⟩:=vis
      obtain ⟨nd,loc,_⟩:=blk_name hb lk
      unfold hide at ey
      by_cases ho:(own.contains n||n == (".0" : Str))=true
      · rw [if_pos ho] at ey
        exact absurd ey.symm nd
      · rw [if_neg ho] at ey
        subst ey
        have kk':k=.cell∨k=.free:=by
          rcases kk with z | z
          · exfalso
            apply ho
            rcases loc z with t | t
            · rw [t]; rfl
            · subst t; simp
          · exact z
        obtain ⟨ok,c,hc⟩:=blk_name' hb hcell lk kk'
        obtain ⟨m,hn,hl⟩:=I.loc
        obtain ⟨u,r,l⟩:=hl i n v en e2' (.inr ok)
        refine ⟨u,r,.inr ⟨?_,c,hc,?_⟩⟩
        · rcases kk' with z | z
          · subst z; exact .inl lk
          · subst z; exact .inr lk
        · rcases l with ⟨z,_⟩ | ⟨_,c',hc',z⟩
          · rcases ok with t | t<;>(rw [t] at z; cases z)
          · rw [hcap.get hc] at hc'
            cases hc'
            obtain ⟨o,ho',hd'⟩:=z
            exact ⟨o,keep _ _ ho',hd'⟩
  · obtain ⟨v,o,ho,hd'⟩:=I.cell x c (hcap.get h)
    exact ⟨v,o,keep _ _ ho,hd'⟩
  · rcases List.mem_append.mp hp with z | z
    · obtain ⟨e,n,ne,nf,d⟩:=I.pin p z
      refine ⟨keep _ _ e,n,Nat.ne_of_lt (Nat.lt_of_lt_of_le (Heap.lt_size e) hC),fun hz=>?_,d⟩
      rcases List.mem_cons.mp (I.stkSub p.1 hz) with t | t
      · exact ne t
      · exact nf t
    · have e:p=(D,dobj):=by simpa using z
      subst e
      exact ⟨hd,I.hok.fresh hD,hDC,nfs D hD,hdd⟩
  · show (σ++List.replicate own.length none).length=(X.N.map (hide own)++own).length
    rw [List.length_append,List.length_append,List.length_replicate,List.length_map,I.len]
end
end L2
namespace L2
open PySem PySem.Spec PyProof.Rows
noncomputable def PTs (X:Cx) (ifs:List Expr) (tc:TT):Prop:=
  ∀ (pins:List (Addr×Obj)) (s:Shared) (σ:St) (H:Hp) (Q:Bool→Hp→Prop),Inv X pins σ H s→tc σ H Q→
    wpAny (model X.prog X.w) X.A (forIn ifs true fun c r=>if r=true then do let ok ← isTrue c X.env (eval c X.env); pure (ForInStep.yield ok) else pure (ForInStep.yield r)) (TP X pins σ Q) X.xe s
noncomputable def tYes:TT:=fun _ H Q=>Q true H
theorem pts_nil {X:Cx}:PTs X [] tYes:=fun _ _ _ H _ I h=>wpAny_tests_nil ⟨H,I,h⟩
theorem pts_one {X:Cx} {c:Expr} {t:TT} (h:PT X c t):PTs X [c] t:=fun pins s σ H Q I q=>wpAny_tests_one (h pins s σ H Q I q)
section
variable {prog:Program} {w:World} {A:Around} {R:Result→Shared→Prop} {s:Shared}
theorem lc_loop {elt tg iter:Expr} {ifs:List Expr} {scope:Scope} {pos:Pos} {it acc:Value} {env:Env} (J:Nat→Shared→Prop)
    (turn:∀ n s,J n s→wpAny (model prog w) A (pyNext it) (fun r s₁=>match r with
      | none=>R (.ok .next) s₁
      | some v=>wpAny (model prog w) A (letOwnedTupleGo tg it v) (fun _ z=>wpAny (model prog w) A (assign tg env v) (fun _ s₂=>
        wpAny (model prog w) A (forIn ifs true fun c r=>if r=true then do let ok ← isTrue c env (eval c env); pure (ForInStep.yield ok) else pure (ForInStep.yield r)) (fun ok s₃=>
          if ok=true then wpAny (model prog w) A (eval elt env) (fun x s₄=>wpAny (model prog w) A (call (.builtin "list.append") [acc,x]) (fun _ s₅=>∃ m,m<n∧J m s₅) (fun _ _=>False) s₄) (fun _ _=>False) s₃
          else ∃ m,m<n∧J m s₃) (fun _ _=>False) s₂) (fun _ _=>False) z) (fun _ _=>False) s₁) (fun _ _=>False) s)
    (n:Nat) (h:J n s):codeAny (model prog w) A (.compLoop (.ListComp elt [⟨tg,iter,ifs,0⟩] scope pos) 0 it acc env) R s:=by
  have no:∀ {P:Value→Shared→Prop},∀ e s',(fun _ _=>False:Value→Shared→Prop) e s'→P e s':=fun _ _ z=>z.elim
  refine codeAny_loop rfl J (fun n s hI=>?_) n h
  show wpAny _ A (Sem.onRaise (compTurn (.ListComp elt [⟨tg,iter,ifs,0⟩] scope pos) 0 it acc env) (fun x=>do noteFrame x env; theTreesLotGoes x)) _ _ s
  refine wpAny_noted ?_
  rw [compTurn_list]
  refine wpAny_bind (wpAny_standAt (wpAny_bind (wpAny_mono (turn n s hI) (fun r s₁ h₁=>?_) no)))
  cases r with
  | none=>exact wpAny_pure h₁
  | some v=>
    refine wpAny_bind (wpAny_mono h₁ (fun _ z hz=>?_) no)
    refine wpAny_bind (wpAny_mono hz (fun _ s₂ h₂=>?_) no)
    refine wpAny_bind (wpAny_mono h₂ (fun ok s₃ h₃=>?_) no)
    cases ok with
    | false=>exact wpAny_pure ⟨rfl,h₃⟩
    | true=>
      refine wpAny_bind (wpAny_bind (wpAny_mono h₃ (fun x s₄ h₄=>?_) no))
      exact wpAny_bind (wpAny_mono h₄ (fun _ s₅ h₅=>wpAny_pure (wpAny_pure ⟨rfl,h₅⟩)) no)
end
noncomputable abbrev lob (its:List Value) (k:Nat):Obj:={ cls:=.type "list",data:=.seq its.toArray k }
theorem lob_no {its:List Value} {k:Nat}:∀ v,(lob its k).data≠.cell v:=fun _ z=>nomatch z
section
variable {X:Cx} {σ:St} {H:Hp} {s:Shared} {D:Addr}
theorem inv_grow {pl:List (Addr×Obj)} {its its':List Value} {k k' tk:Nat} {h':Heap} (I:Inv X ((D,lob its k)::pl) σ H s) (hD:X.s₀.heap.objs.size≤D) (hpn:∀ p∈X.pn,p.1≠D)
    (hs:Heap.SameBut D s.heap h') (hd:h'.get? D=some (lob its' k')):Inv X [(D,lob its' k')] σ H { s with heap:=h',toks:=tk }:=by
  obtain ⟨e,n,ne,nf,d⟩:=I.pin (D,lob its k) (List.mem_append_right _ List.mem_cons_self)
  have I0:Inv X [] σ H s:=I.pins_of fun p hp=>absurd hp (by simp)
  have I1:Inv X [] σ H { s with heap:=h',toks:=tk }:=I0.turned (it:=D) (fun b o hb q=>(hs.2 b hb).trans q) n ne (.inr hD) (fun x c hc z=>by
    subst z
    obtain ⟨v,o,ho,hv⟩:=I.cell x c hc
    rw [show s.heap.get? c=some (lob its k) from e] at ho
    cases ho
    exact d v hv) (fun p hp=>hpn p (by simpa using hp))
  exact I1.pins_of fun p hp=>by
    have q:p=(D,lob its' k'):=by simpa using hp
    subst q
    exact ⟨hd,n,ne,nf,lob_no⟩
end
section
variable {X:Cx} {tg iter elt:Expr} {ifs:List Expr} {scope:Scope} {cl:List (Str×Addr)} {own:List Str} {pos:Pos} {te:TE} {tc:TT} {g:TG} {wi:TI}
theorem un_track {fs ex:List Addr} {H H':Hp} {h h':Heap} {D:Addr} {o:HO} (u:Un fs ex H H' h h') (hD:h.objs.size≤D) (hn:H' D=none):Un fs ex H (upd H' D o) h h' where
  keep:=u.keep
  slot:=u.slot
  free:=fun b ob q n hx=>by rw [upd_ne (fun z=>by subst z; exact absurd (Nat.lt_of_lt_of_le (Heap.lt_size q) hD) (Nat.lt_irrefl _))]; exact u.free b ob q n hx
  there:=u.there
  tups:=fun b xs q=>by rw [upd_ne (ne_of_none (u.tups b xs q) hn)]; exact u.tups b xs q
  frzs:=fun b ob v q=>by rw [upd_ne (ne_of_none (u.frzs b ob v q) hn)]; exact u.frzs b ob v q
  tbls:=fun b ps q=>by
    obtain ⟨more,z⟩:=u.tbls b ps q
    exact ⟨more,by rw [upd_ne (ne_of_none z hn)]; exact z⟩
theorem hok_track {P:Program} {w:World} {H:Hp} {h:Heap} {D:Addr} {o:HO} (x:HOk P w H h) (hn:H D=none) (new:ObjOk P w (upd H D o) h D o):HOk P w (upd H D o) h:=fun b u e=>by
  by_cases hb:b=D
  · subst hb
    rw [upd_same] at e
    cases e
    exact new
  · rw [upd_ne hb] at e
    refine (x b u e).stay (fun c v _ q=>q) (fun c q=>?_) (fun c xs q=>?_)
    · rw [upd_ne (ne_of_none q hn)]; exact q
    · rw [upd_ne (ne_of_none q hn)]; exact q
structure Blk (X:Cx) (scope:Scope) (cl:List (Str×Addr)) (own:List Str):Prop where
  kind:scope.kind=.function
  cell:∀ y∈scope.names,y.2≠.cell
  cap:CapAll X.env cl
  ok:blkOk scope X.env cl own=true
  clos:closureFor scope X.env=pure cl
  names:∀ y∈scope.names,y.2=.local→scope.names.lookup y.1=some .local
structure Off (X:Cx) (pins:List (Addr×Obj)) (H:Hp) (s:Shared) (C:Addr):Prop where
  free:H C=none
  ne:C≠X.env.locals
  old:X.s₀.heap.objs.size≤C
  cell:∀ x c,X.env.cells.lookup x=some c→c≠C
  pin:∀ p∈X.pn++pins,p.1≠C
noncomputable def lcTurn (σ:St) (n:Nat) (J:It) (g:TG) (tc:TT) (te:TE) (W:Nat→Nat→List V→Hp→Prop) (Fin:List V→Hp→Prop):Prop:=
  ∀ i m ys H,W i m ys H→(J.stop i H∧Fin ys H)∨(J.go i H∧ys.length<sizeLine∧∃ N:List V→Hp→Prop,(∀ ys' H',N ys' H'→∃ m',m'<m∧W (i+1) m' ys' H')∧
    ∀ x H',J.yld i H x H'→g x (σ++List.replicate n none) H' fun σ2 H3=>(∃ τ,σ2=σ++τ)∧tc σ2 H3 fun c H4=>if c=true then te σ2 H4 fun y H5=>N (ys++[y]) H5 else N ys H4)
theorem blk_run {pins:List (Addr×Obj)} {σ:St} {H2:Hp} {s2:Shared} {fp:List Addr} {it:Addr} {tn:Nat→Heap→Prop} {J:It} {W:Nat→Nat→List V→Hp→Prop} {Fin:List V→Hp→Prop} {m0:Nat}
    {RR:Value→Addr→Result→Shared→Prop} (hcalm:X.calm=true) (B:Blk X scope cl own) (I:Inv X pins σ H2 s2) (T:Turn X.prog X.w X.K tg J fp it tn) (t0:tn 0 s2.heap) (hfp:∀ b∈fp,FpOk X pins H2 b)
    (hg:∀ C s H fp pn,PG (cxBlk X scope cl own C s H fp pn) tg g) (hc:∀ C s H fp pn,PTs (cxBlk X scope cl own C s H fp pn) ifs tc) (he:∀ C s H fp pn,PE (cxBlk X scope cl own C s H fp pn) elt te)
    (W0:W 0 m0 [] H2) (turn:lcTurn σ own.length J g tc te W Fin)
    (hRR:∀ D C s' H' ys m',Inv X pins σ (upd H' D (.lst ys)) s'→H' D=none→Fin ys H'→s'.heap.Ns C m'→Off X pins (upd H' D (.lst ys)) s' C→RR (.ref D) C (.ok .next) s') {E:Value→Shared→Prop} :
    wpAny (model X.prog X.w) X.A (newList []) (fun acc s3=>wpAny (model X.prog X.w) X.A (newFunctionEnv scope X.env.globals cl [] X.env.qual none .none (some X.env)) (fun cenv s4=>
      codeAny (model X.prog X.w) X.A (.compStart (.ListComp elt [⟨tg,iter,ifs,0⟩] scope pos) 0 (.ref it) acc { cenv with scope:=relabel scope X.env }) (RR acc cenv.locals) s4) E s3) E s2:=by
  refine wpAny_newObj_type (wpAny_newFunctionEnv B.cell (by intro y hy; simp at hy) (fun h4 hns hsb=>?_) B.kind)
  dsimp only at hns hsb ⊢
  generalize hP:s2.heap.push (lob [] 0)=P2 at hns hsb ⊢
  have hC:P2.objs.size=s2.heap.objs.size+1:=by rw [← hP,Heap.size_push]
  have hDC:s2.heap.objs.size≠P2.objs.size:=by rw [hC]; exact Nat.ne_of_lt (Nat.lt_succ_self _)
  have hCle:s2.heap.objs.size≤P2.objs.size:=by rw [hC]; exact Nat.le_succ _
  have keep:∀ b o,s2.heap.get? b=some o→h4.get? b=some o:=fun b o e=>
    hsb.extBut b o (Nat.ne_of_lt (Nat.lt_of_lt_of_le (Heap.lt_size e) hCle)) (Heap.get?_push_of_some _ (hP ▸ Heap.get?_push_of_some _ e))
  have hd4:h4.get? s2.heap.objs.size=some (lob [] 0):=hsb.extBut _ _ hDC (Heap.get?_push_of_some _ (hP ▸ Heap.get?_push_size _ rfl))
  have hfo:∀ b∈fp,∃ o,s2.heap.get? b=some o:=fun b hb=>let ⟨o,e,_⟩:=T.obj 0 _ t0 b hb; ⟨o,e⟩
  have lt:∀ b∈fp,b<s2.heap.objs.size:=fun b hb=>let ⟨o,e⟩:=hfo b hb; Heap.lt_size e
  generalize hDD:s2.heap.objs.size=D at hDC hd4 ⊢
  generalize hCC:P2.objs.size=C at hDC hns hsb hCle ⊢
  have hDle:s2.heap.objs.size≤D:=Nat.le_of_eq hDD
  let X':=cxBlk X scope cl own C s2 H2 fp (X.pn++pins)
  have hpn:∀ p∈X'.pn,p.1≠D:=fun p hp z=>by
    obtain ⟨e,_⟩:=I.pin p hp
    rw [z] at e
    exact absurd (Nat.lt_of_lt_of_le (Heap.lt_size e) hDle) (Nat.lt_irrefl _)
  have okb:=blk_ok I B.kind B.cell B.cap B.ok hCle hfp hfo
  have fpok:∀ {k:Nat} {its:List Value} {H':Hp},(∀ b∈fp,H' b=none)→∀ b∈fp,FpOk X' [(D,lob its k)] H' b:=fun {k its H'} hn b hb=>
    ⟨hn b hb,(okb.exf b hb).1,okb.exfs b hb,.inl hb,(okb.exf b hb).2,fun p hp=>by
      rcases List.mem_append.mp hp with z | z
      · exact (hfp b hb).2.2.2.2.2 p z
      · have q:p=(D,lob its k):=by simpa using z
        subst q
        exact fun z=>absurd (lt b hb) (by rw [← z]; exact Nat.not_lt.mpr hDle)⟩
  have loop:∀ s4:Shared,s4={ s2 with heap:=h4,toks:=s2.toks+([]:List (Str×Value)).length }→
      codeAny (model X.prog X.w) X.A (.compLoop (.ListComp elt [⟨tg,iter,ifs,0⟩] scope pos) 0 (.ref it) (.ref D) (compEnvC scope cl C X.env)) (RR (.ref D) C) s4:=by
    rintro s4 rfl
    refine lc_loop (fun n s'=>∃ (i:Nat) (ys:List V) (its:List Value) (k:Nat) (H':Hp),Inv X' [(D,lob its k)] (σ++List.replicate own.length none) H' s'∧Vals ys its∧tn i s'.heap∧(∀ b∈fp,H' b=none)∧W i n ys H'∧ys.length≤sizeLine) ?_ m0
      ⟨0,[],[],0,H2,blk_start I B.kind B.cell B.cap B.ok hCle hDle hDC hfp hfo keep hns hd4 lob_no,.nil,T.keep _ _ _ t0 fun b _ o e=>keep b o e,fun b hb=>(hfp b hb).1,W0,Nat.zero_le _⟩
    rintro n s5 ⟨i,ys,its,k,H5,I5,v5,st5,fr5,w5,z5⟩
    rcases turn i n ys H5 w5 with ⟨stop,fin⟩ | ⟨go,room,N,hN,step⟩
    · refine wpAny_mono (T.done X' rfl rfl rfl hcalm i _ s5 _ H5 (fun _ _=>False) I5 (fpok fr5) st5 stop) (fun r s6 ⟨hr,I6⟩=>?_) fun _ _ z=>z
      subst hr
      obtain ⟨e6,n6,ne6,nf6,d6⟩:=I6.pin (D,lob its k) (List.mem_append_right _ List.mem_cons_self)
      obtain ⟨m6,ns6,_⟩:=I6.loc
      have u6:Un (frs X.stack) fp H2 (upd H5 D (.lst ys)) s2.heap s6.heap:=un_track I6.base hDle n6
      have new6:ObjOk X.prog X.w (upd H5 D (.lst ys)) s6.heap D (.lst ys):=⟨z5,its,k,v5,e6⟩
      have I7:Inv X pins σ (upd H5 D (.lst ys)) s6:=I.call' I6.os u6 (hok_track I6.hok n6 new6) I6.bare (fun b hb=>⟨(hfp b hb).2.2.2.1,(hfp b hb).2.1,(hfp b hb).2.2.2.2.1,(hfp b hb).2.2.2.2.2⟩)
      refine hRR D C s6 H5 ys m6 I7 n6 fin ns6 ⟨?_,?_,?_,fun x c hcx z=>?_,fun p hp z=>?_⟩
      · rw [upd_ne (Ne.symm hDC)]; exact I6.free
      · exact fun z=>absurd I.lt (by rw [← z]; exact Nat.not_lt.mpr hCle)
      · exact Nat.le_trans I.sz hCle
      · subst z
        obtain ⟨v,o,ho,_⟩:=I.cell x c hcx
        exact absurd (Nat.lt_of_lt_of_le (Heap.lt_size ho) hCle) (Nat.lt_irrefl _)
      · obtain ⟨e,_⟩:=I.pin p hp
        rw [z] at e
        exact absurd (Nat.lt_of_lt_of_le (Heap.lt_size e) hCle) (Nat.lt_irrefl _)
    · refine wpAny_mono (T.item X' rfl rfl rfl hcalm i _ s5 _ H5 (fun _ _=>False) I5 (fpok fr5) st5 go) (fun r s6 ⟨u,hr,h6⟩=>?_) fun _ _ z=>z
      subst hr
      refine wpAny_mono h6 (fun _ s7 ⟨x,H7,I7,r7,y7,st7,fr7⟩=>?_) fun _ _ z=>z
      have I7':=I7.pinned (fpok fr7) (T.obj _ _ st7)
      refine wpAny_mono (hg C s2 H2 fp _ _ s7 _ H7 x u _ I7' r7 (step x H7 y7)) (fun _ s8 ⟨σ8,H8,I8,⟨τ,hτ⟩,q8⟩=>?_) fun _ _ z=>z
      subst hτ
      have back:∀ {n':Nat} {ys':List V} {its':List Value} {k':Nat} {H9:Hp} {s9:Shared} {pl:List (Addr×Obj)},Inv X' ((D,lob its' k')::pl) (σ++τ) H9 s9→Vals ys' its'→tn (i+1) s9.heap→(∀ b∈fp,H9 b=none)→W (i+1) n' ys' H9→ys'.length≤sizeLine→
          ∃ (i:Nat) (ys:List V) (its:List Value) (k:Nat) (H':Hp),Inv X' [(D,lob its k)] (σ++List.replicate own.length none) H' s9∧Vals ys its∧tn i s9.heap∧(∀ b∈fp,H' b=none)∧W i n' ys H'∧ys.length≤sizeLine:=fun {n' ys' its' k' H9 s9 pl} I9 v9 st9 fr9 w9 z9=>by
        have I9':Inv X' [(D,lob its' k')] (σ++τ) H9 s9:=I9.pins_of fun p hp=>I9.pin p (List.mem_append_right _ (by
          have q:p=(D,lob its' k'):=by simpa using hp
          subst q
          exact List.mem_cons_self))
        refine ⟨i+1,ys',its',k',H9,I9'.weak ?_ (fun j v e=>?_),v9,st9,fr9,w9,z9⟩
        · rw [I9'.len,← I5.len]
        · have e':=get_tail e
          rw [List.getElem?_append_left (List.getElem?_eq_some_iff.mp e').1]
          exact e'
      have keepIt:∀ {σ9:St} {H9:Hp} {s9:Shared},Inv X' ([(D,lob its k)]++pinsAt fp s7.heap) σ9 H9 s9→tn (i+1) s9.heap∧∀ b∈fp,H9 b=none:=fun {σ9 H9 s9} I9=>
        ⟨T.keep _ _ _ st7 fun b hb o e=>(I9.pin (b,o) (List.mem_append_right _ (List.mem_append_right _ (mem_pinsAt hb e)))).1,fun b hb=>by
          obtain ⟨o,e,_⟩:=T.obj _ _ st7 b hb
          exact (I9.pin (b,o) (List.mem_append_right _ (List.mem_append_right _ (mem_pinsAt hb e)))).2.1⟩
      refine wpAny_mono (hc C s2 H2 fp _ _ s8 _ H8 _ I8 q8) (fun c s9 ⟨H9,I9,q9⟩=>?_) fun _ _ z=>z
      cases c with
      | false=>
        rw [if_neg Bool.false_ne_true] at q9 ⊢
        obtain ⟨m',hm,w9⟩:=hN _ _ q9
        exact ⟨m',hm,back I9 v5 (keepIt I9).1 (keepIt I9).2 w9 z5⟩
      | true=>
        rw [if_pos rfl] at q9 ⊢
        refine wpAny_mono (he C s2 H2 fp _ _ s9 _ H9 _ I9 q9) (fun yv sa ⟨y,Ha,Ia,ra,qa⟩=>?_) fun _ _ z=>z
        obtain ⟨m',hm,wa⟩:=hN _ _ qa
        obtain ⟨ea,na,_⟩:=Ia.pin (D,lob its k) (List.mem_append_right _ (List.mem_append_left _ List.mem_cons_self))
        have szi:its.toArray.size≤sizeLine:=by
          have:=v5.length
          simp only [List.size_toArray]
          omega
        refine wpAny_list_append_plain (hsz:=szi) ⟨k,ea⟩ fun hb hlb hsb'=>?_
        obtain ⟨kb,eb⟩:=hlb
        have eb':hb.get? D=some (lob (its++[yv]) kb):=by rw [eb]; simp
        have Ib:Inv X' [(D,lob (its++[yv]) kb)] (σ++τ) Ha { sa with heap:=hb,toks:=sa.toks }:=inv_grow (tk:=sa.toks) Ia hDle hpn hsb' eb'
        have stb:tn (i+1) hb:=T.keep _ _ _ (keepIt Ia).1 fun b hbf o e=>(hsb'.2 b (fun z=>absurd (lt b hbf) (by rw [z]; exact Nat.not_lt.mpr hDle))).trans e
        exact ⟨m',hm,back Ib (Vals.append v5 (.cons ra .nil)) stb (keepIt Ia).2 wa (by rw [List.length_append]; exact room)⟩
  exact codeAny_compStart_list (loop _ rfl) (T.self X.A 0 _ _ _ (T.keep _ _ _ t0 fun b _ o e=>keep b o e) (loop _ rfl))
noncomputable def tLc (n:Nat) (wi:TI) (g:TG) (tc:TT) (te:TE):TE:=fun σ H Q=>wi σ H fun J H1=>∃ W:Nat→Nat→List V→Hp→Prop,(∃ m,W 0 m [] H1)∧
  lcTurn σ n J g tc te W fun ys H'=>∀ p,H' p=none→Q (.ref p) (upd H' p (.lst ys))
theorem Off.inv {pins:List (Addr×Obj)} {σ:St} {H:Hp} {s:Shared} {C:Addr} {h':Heap} (o:Off X pins H s C) (I:Inv X pins σ H s) (hs:Heap.SameBut C s.heap h'):Inv X pins σ H { s with heap:=h' }:=
  I.turned (it:=C) (t':=s.toks) (fun b u hb q=>(hs.2 b hb).trans q) o.free o.ne (.inr o.old) o.cell o.pin
theorem pe_lc (hcalm:X.calm=true) (B:Blk X scope cl own) (hi:PI X tg iter wi) (hg:∀ C s H fp pn,PG (cxBlk X scope cl own C s H fp pn) tg g) (hc:∀ C s H fp pn,PTs (cxBlk X scope cl own C s H fp pn) ifs tc)
    (he:∀ C s H fp pn,PE (cxBlk X scope cl own C s H fp pn) elt te) (hs:∀ x,foldedSetIterable iter X.env x=pure x:=by intro _; rfl) :
    PE X (.ListComp elt [⟨tg,iter,ifs,0⟩] scope pos) (tLc own.length wi g tc te):=by
  intro pins s σ H Q I h
  rw [eval_ListComp]
  refine wpAny_comprehension_free (use:=none) rfl hs B.clos B.kind B.names (thn (hi pins s σ H _ I h) fun v s1 h1=>thn h1 fun itv s2 h2=>?_)
  obtain ⟨it,fp,tn,J,H2,e,I2,T,st2,f2,W,⟨m0,w0⟩,turn⟩:=h2
  subst e
  refine blk_run (RR:=fun acc C=>compPost (model X.prog X.w) X.A X.xe none (EP X pins σ Q) acc C) hcalm B I2 T st2 f2 hg hc he w0 turn ?_
  intro D C s' H' ys m' I' n' fin ns' off
  exact ⟨m',ns',fun h' hs'=>⟨.ref D,upd H' D (.lst ys),off.inv I' hs',rfl,fin D n'⟩⟩
noncomputable def tSetLc (i n:Nat) (wi:TI) (g:TG) (tc:TT) (te:TE):TS:=fun D σ H=>wi σ H fun J H1=>∃ W:Nat→Nat→List V→Hp→Prop,(∃ m,W 0 m [] H1)∧
  lcTurn σ n J g tc te W fun ys H'=>∀ p,H' p=none→D.nx (σ.set i (some (.ref p))) (upd H' p (.lst ys))
theorem ps_setLc {i:Nat} {x:Str} {px spos:Pos} (hcalm:X.calm=true) (hN:X.N.Nodup) (hix:X.N[i]?=some x) (hx:X.env.scope.names.lookup x=some .local) (B:Blk X scope cl own)
    (hsw:swapsWith (.ListComp elt [⟨tg,iter,ifs,0⟩] scope pos) (some (.Name x px)) spos.line X.env=pure true) (hi:PI X tg iter wi)
    (hg:∀ C s H fp pn,PG (cxBlk X scope cl own C s H fp pn) tg g) (hc:∀ C s H fp pn,PTs (cxBlk X scope cl own C s H fp pn) ifs tc) (he:∀ C s H fp pn,PE (cxBlk X scope cl own C s H fp pn) elt te)
    (hs:∀ x,foldedSetIterable iter X.env x=pure x:=by intro _; rfl) :
    PS X (.Assign [.Name x px] (.ListComp elt [⟨tg,iter,ifs,0⟩] scope pos) spos) (tSetLc i own.length wi g tc te):=by
  intro pins s σ H D I h
  rw [exec_Assign_Name_used _ _ _ _ hsw]
  refine wpAny_bind (wpAny_standAt (wpAny_bind ?_))
  show wpAny _ X.A (do let _ ← comprehension (.ListComp elt [⟨tg,iter,ifs,0⟩] scope pos) scope X.env _ (newList []) false (eval iter X.env) (some (assign (.Name x px) X.env))) _ _ s
  refine wpAny_bind (thn (wpAny_comprehension_free (use:=some (assign (.Name x px) X.env)) (Q:=fun _ s'=>SP X pins D .next s') rfl hs B.clos B.kind B.names
    (thn (hi pins s σ H _ I h) fun v s1 h1=>thn h1 fun itv s2 h2=>?_)) fun _ s' hq=>wpAny_pure (wpAny_pure hq))
  obtain ⟨it,fp,tn,J,H2,e,I2,T,st2,f2,W,⟨m0,w0⟩,turn⟩:=h2
  subst e
  refine blk_run (RR:=fun acc C=>compPost (model X.prog X.w) X.A X.xe (some (assign (.Name x px) X.env)) (fun _ s'=>SP X pins D .next s') acc C) hcalm B I2 T st2 f2 hg hc he w0 turn ?_
  intro L C s' H' ys m' I' n' fin ns' off
  show wpAny _ X.A (assign (.Name x px) X.env (.ref L)) _ _ s'
  refine wpAny_assign_Name (store_ok2 I' hN hix (.inl hx) (v:=.ref L) rfl (fun s3 I3 q3=>?_) (.inr hx))
  obtain ⟨a,hsa,ha⟩:=q3
  have hCa:C≠a:=by
    rcases ha with z | z
    · rw [z]; exact off.ne
    · exact fun y=>off.cell x a z y.symm
  refine ⟨m',ns'.sameBut hsa hCa,fun h' hs'=>?_⟩
  exact ⟨_,_,Off.inv (H:=upd H' L (.lst ys)) ⟨off.free,off.ne,off.old,off.cell,off.pin⟩ I3 hs',fin L n'⟩
end
end L2
namespace L2
open PySem PySem.Spec PyProof.Rows
structure QE (X:Cx) (e:Expr) (t:TE):Prop where
  h:PE X e t
structure QA (X:Cx) (es:List Expr) (t:TA):Prop where
  h:PA X es t
structure QS (X:Cx) (st:Stmt) (t:TS):Prop where
  h:PS X st t
structure QG (X:Cx) (e:Expr) (t:TG):Prop where
  h:PG X e t
structure QGs (X:Cx) (es:List Expr) (t:TGs):Prop where
  h:PGs X es t
structure QI (X:Cx) (tg e:Expr) (t:TI):Prop where
  h:PI X tg e t
section
variable {X:Cx} {x y:Str} {p pos pos' apos cpos p2:Pos} {e a b c o tg iter elt:Expr} {es rest:List Expr} {te ta tb tc to:TE} {t:TA} {tA tB':TT} {r r':R2} {v:V} {T id:String} {ps:List Str} {j k i:Nat} {sp:Sp}
theorem qv (i:Nat) {x:Str} {pos:Pos} (hN:X.N[i]?=some x:=by rfl) (hv:Vis X.env.scope x:=by first | exact Or.inl rfl | exact Or.inr (Or.inl rfl) | exact Or.inr (Or.inr rfl)) (hd:(x == ("__debug__" : Str))=false:=by decide)
    (hcd:(x == ("__classdict__" : Str))=false:=by decide):QE X (.Name x pos) (tVar i):=⟨pe_var hN hv hd hcd⟩
theorem qe_bty (hg:Gl X x) (hm:X.mg x=none) (hv:bootBuiltins x=some (.type T)) (hn:x ≠ "__name__" := by decide) (hd:(x == ("__debug__" : Str))=false:=by decide):QE X (.Name x pos) (tC (.ty T)):=⟨pe_bty hg hm hv hn hd⟩
noncomputable def plainTest:Expr→Bool
  | .Name ..=>true
  | .Call ..=>true
  | .Subscript ..=>true
  | .Attribute ..=>true
  | .Constant ..=>true
  | .List ..=>true
  | .Tuple ..=>true
  | .BinOp ..=>true
  | _=>false
theorem plain_test {e:Expr} {env:Env} (h:plainTest e=true):∀ whole,isTrue e env whole=(do let v ← whole; standAt e.pos; holding [v] (truthy v)):=by
  cases e<;>first | (intro _; rfl) | cases h
theorem qa_nil:QA X [] tNil:=⟨pa_nil⟩
theorem qa_cons (ha:QE X e te) (hr:QA X es t) (h:noStar e=true:=by rfl):QA X (e::es) (tCons te t):=⟨pac ha.h hr.h h⟩
theorem qe_tup {x1} (h:QA X es t):QE X (.Tuple es x1 pos) (tTup t):=⟨pe_tup h.h⟩
noncomputable def plainIx:Expr→Bool
  | .Name ..=>true
  | .Constant ..=>true
  | .BinOp ..=>true
  | .Call ..=>true
  | .UnaryOp ..=>true
  | .Subscript ..=>true
  | .Attribute ..=>true
  | _=>false
theorem plain_ix {b:Expr} (h:plainIx b=true):PlainIx b:=by
  cases b<;>first | (intro _ _; rfl) | cases h
theorem qe_callB {r:List V→Hp→VK→Prop} (hc:CallR X (.builtin id) r) (hg:Gl X x) (hm:X.mg x=none) (hv:bootBuiltins x=some (.builtin id)) (ha:QA X (e::es) t) (hn:x ≠ "__name__" := by decide) (hdb:(x == ("__debug__" : Str))=false:=by decide)
    (he:(e::es).all noStar=true:=by rfl):QE X (.Call (.Name x p) (e::es) [] pos) (tCB r t):=by
  rw [List.all_cons,Bool.and_eq_true] at he
  exact ⟨pe_callB hc hg hm hv ha.h hn hdb (star_cons he.1) (star_any he.2)⟩
theorem qe_callTy {r:List V→Hp→VK→Prop} (hc:CallR X (.type T) r) (hg:Gl X x) (hm:X.mg x=none) (hv:bootBuiltins x=some (.type T)) (ha:QA X (e::es) t) (hn:x ≠ "__name__" := by decide) (hdb:(x == ("__debug__" : Str))=false:=by decide)
    (he:(e::es).all noStar=true:=by rfl):QE X (.Call (.Name x p) (e::es) [] pos) (tCB r t):=by
  rw [List.all_cons,Bool.and_eq_true] at he
  exact ⟨pe_callTy hc hg hm hv ha.h hn hdb (star_cons he.1) (star_any he.2)⟩
variable {st:Stmt} {sts body:List Stmt} {ts us tbs:TS} {g:TG} {wi:TI}
noncomputable def noComp:Expr→Bool
  | .ListComp ..=>false
  | .SetComp ..=>false
  | .DictComp ..=>false
  | _=>true
theorem no_swap {e:Expr} {tgt:Option Expr} {n:Nat} {env:Env} (h:noComp e=true):swapsWith e tgt n env=pure false:=by
  cases e<;>first | rfl | cases h
theorem qs_expr (he:QE X e te) (hs:noComp e=true:=by rfl):QS X (.Expr e pos) (tDrop te):=⟨ps_expr he.h (no_swap hs)⟩
theorem qs_set {i:Nat} {x:Str} {pos':Pos} (hN:X.N.Nodup) (hi:X.N[i]?=some x) (hx:Loc X.env.scope x) (he:QE X e te) (hs:noComp e=true:=by rfl) (hf:X.fn x=true∨X.env.scope.names.lookup x=some .local:=by first | exact .inl rfl | exact .inr rfl | assumption) :
    QS X (.Assign [.Name x pos'] e pos) (tAsg te (gName i)):=⟨ps_set hN hi hx he.h (no_swap hs) hf⟩
theorem qg_name {i:Nat} {x:Str} (hN:X.N.Nodup) (hi:X.N[i]?=some x) (hx:Loc X.env.scope x) (hf:X.fn x=true∨X.env.scope.names.lookup x=some .local:=by first | exact .inl rfl | exact .inr rfl | assumption):QG X (.Name x pos) (gName i):=⟨pg_name hN hi hx hf⟩
theorem qgs_nil:QGs X [] gNil:=⟨pgs_nil⟩
theorem qgs_cons {t:TG} {u:TGs} (h1:QG X e t) (h2:QGs X es u) (hs:(assignEach (e::es) X.env).map (·.2)=assign e X.env::(assignEach es X.env).map (·.2):=by rfl):QGs X (e::es) (gCons t u):=⟨pgs_cons h1.h h2.h hs⟩
theorem qg_tup {k:Nat} {t:TGs} {n:Nat} (hc:X.calm=true) (h:QGs X es t) (hn:(assignEach es X.env).length=n:=by rfl) (hst:(assignEach es X.env).findIdx? (·.1)=none:=by rfl):QG X (.Tuple es k pos) (gTup X.K n t):=⟨pg_tup hc h.h hn hst⟩
variable {ifs:List Expr} {scope:Scope} {cl:List (Str×Addr)} {own:List Str} {tcc:TT}
variable {name:Str} {rm:V→List V→Hp→VK→Prop}
theorem star_all {env:Env} {pos:Pos}:∀ {es:List Expr},es.all noStar=true→(backTo pos (starEach es env)).all (fun x=>!x.1)=true
  | [],_=>rfl
  | e::es,h=>by
    rw [List.all_cons,Bool.and_eq_true] at h
    rw [star_cons h.1]
    have ih:=star_all (env:=env) (pos:=pos) h.2
    unfold backTo at ih ⊢
    rw [List.map_cons,List.all_cons,ih]
    rfl
theorem qe_bm (pa:PlainAttrs T) (slot:Slot T name id) (hty:typeOf (.builtin id)=pure (.type "method_descriptor")) (hm:MtR X id rm) (ho:QE X o to) (ha:QA X (e::es) t)
    (hbase:attributeBase o name X.env (eval o X.env)=eval o X.env:=by rfl) (hline:(apos.endLine == cpos.line)=true:=by rfl) (he:(e::es).all noStar=true:=by rfl) (hl:(e::es).length<30:=by decide) :
    QE X (.Call (.Attribute o name apos) (e::es) [] cpos) (tBM X.K T rm to t):=⟨by
  have ha':=star_all (env:=X.env) (pos:=cpos) he
  rw [List.all_cons,Bool.and_eq_true] at he
  refine pe_bm pa slot hty hm ho.h ha.h hbase ?_ hline (star_cons he.1) (star_any he.2)
  rw [ha']
  show (true&&true&&decide ((e::es).length+0+0<30))=true
  rw [decide_eq_true (show (e::es).length+0+0<30 from hl)]
  rfl⟩
end
section
variable {P:Program} {w:World} {K:PySem.W.Frag} {mg:Str→Option Value} {base:Heap}
end
end L2
namespace L2
open PySem PySem.Spec PyProof.Rows
noncomputable def SqB (K:PySem.W.Frag) (H:Hp) (a c:Addr) (xs ys:List V):Prop:=(SqT K H a xs∧SqT K H c ys)∨(SqL K H a xs∧SqL K H c ys)
section
variable {X:Cx} {pins:List (Addr×Obj)} {σ:St} {H:Hp} {s:Shared}
theorem rc_seq {A:Around} {a c:Addr} {xs ys:List V} {e:Nat→Bool} (I:Inv X pins σ H s) (hu:A.units<cLine) (hq:SqB X.K H a c xs ys)
    (he:∀ (j:Nat) x' y' u v,xs[j]?=some x'→ys[j]?=some y'→RelV x' u→RelV y' v→SeqAt.EqAt A.in1 s u v (e j)) :
    SeqAt.RcAt A s (.ref a) (.ref c) ((List.range (min xs.length ys.length)).all e&&xs.length == ys.length)∧SeqAt.RcNeAt A s (.ref a) (.ref c) (!((List.range (min xs.length ys.length)).all e&&xs.length == ys.length)):=by
  have get:∀ {zs:List V} {us:List Value} {j:Nat} (hj:j<us.toArray.size),Vals zs us→∃ z,zs[j]?=some z∧RelV z us.toArray[j]:=fun {zs us j} hj r=>by
    have hl:=r.length
    have hj':j<zs.length:=by
      rw [List.size_toArray] at hj
      omega
    obtain ⟨u,hu',ru⟩:=r.get (List.getElem?_eq_getElem hj')
    refine ⟨_,List.getElem?_eq_getElem hj',?_⟩
    have:us.toArray[j]=u:=by
      have h2:us[j]?=some us[j]:=List.getElem?_eq_getElem (by omega)
      rw [h2] at hu'
      simpa using hu'
    rw [this]
    exact ru
  rcases hq with ⟨ha,hc⟩ | ⟨ha,hc⟩
  · obtain ⟨us,ra,pa,_⟩:=I.tuple ha
    obtain ⟨vs,rc,pc,_⟩:=I.tuple hc
    have h1:=ra.length
    have h2:=rc.length
    have key:∀ j (k1:j<us.toArray.size) (k2:j<vs.toArray.size),SeqAt.EqAt A.in1 s us.toArray[j] vs.toArray[j] (e j):=fun j k1 k2=>by
      obtain ⟨z1,e1,r1⟩:=get k1 ra
      obtain ⟨z2,e2,r2⟩:=get k2 rc
      exact he j z1 z2 _ _ e1 e2 r1 r2
    have p:=SeqAt.RcAt.tuples (e:=e) pa pc hu key
    have q:=SeqAt.RcNeAt.tuples (e:=e) pa pc hu key
    rw [List.size_toArray,List.size_toArray,← h1,← h2] at p q
    exact ⟨p,q⟩
  · obtain ⟨us,ra,pa,_⟩:=I.list ha
    obtain ⟨vs,rc,pc,_⟩:=I.list hc
    have h1:=ra.length
    have h2:=rc.length
    have key:∀ j (k1:j<us.toArray.size) (k2:j<vs.toArray.size),SeqAt.EqAt A.in1 s us.toArray[j] vs.toArray[j] (e j):=fun j k1 k2=>by
      obtain ⟨z1,e1,r1⟩:=get k1 ra
      obtain ⟨z2,e2,r2⟩:=get k2 rc
      exact he j z1 z2 _ _ e1 e2 r1 r2
    by_cases hl:xs.length=ys.length
    · have hs:us.toArray.size=vs.toArray.size:=by rw [List.size_toArray,List.size_toArray]; omega
      have p:=SeqAt.RcAt.lists (e:=e) pa.isList pc.isList hs hu key
      have q:=SeqAt.RcNeAt.lists (e:=e) pa.isList pc.isList hs hu key
      have e1:min xs.length ys.length=us.toArray.size:=by rw [List.size_toArray]; omega
      have e2:(xs.length == ys.length)=true:=by simp [hl]
      rw [e1,e2,Bool.and_true]
      exact ⟨p,q⟩
    · have hs:(us.toArray.size != vs.toArray.size)=true:=by
        rw [List.size_toArray,List.size_toArray]
        simp
        omega
      have e2:(xs.length == ys.length)=false:=by simp [hl]
      rw [e2,Bool.and_false]
      exact ⟨SeqAt.RcAt.lists_lengths pa.isList pc.isList hs hu,SeqAt.RcNeAt.lists_lengths pa.isList pc.isList hs hu⟩
theorem in1_units (A:Around):A.in1.units=A.units+1:=rfl
end
theorem eqV_self {x:V} (h:flatV x=true):eqV x x=true:=by
  cases x<;>first | rfl | (simp [eqV]; done) | cases h
end L2
namespace L2
open PySem PySem.Spec PyProof.Rows
open PySem.W (hideAll)
section
variable {P:Program} {w:World} {l:List Env} {H H':Hp} {h B h' h'':Heap}
end
section
variable {X:Cx} {pins:List (Addr×Obj)} {σ:St} {H H':Hp} {s:Shared} {B h':Heap}
variable {x:Str} {C:Addr} {np cpos pos:Pos} {e:Expr} {es:List Expr} {t:TA} {E:XK}
end
section
variable {P:Program} {w:World} {K:PySem.W.Frag} {mg:Str→Option Value} {base:Heap} {N:List Str} {qual:Str} {scope:Scope} {f:Addr} {cd:Value} {A:Around} {outer:List Env} {s₀:Shared} {H₀:Hp} {E:XK}
end
section
variable {X:Cx} {x:Str} {np cpos pos p:Pos} {e:Expr} {es:List Expr} {t:TA} {E:XK} {C:Addr} {ps:List Str} {j k:Nat} {sp:Sp}
end
end L2
namespace L2
open PySem PySem.Spec PyProof.Rows
section
variable {X:Cx} {pins:List (Addr×Obj)} {σ:St} {H H':Hp} {s:Shared} {a C:Addr}
noncomputable def ExcO (a C:Addr) (h:Heap):Prop:=∃ o vs,h.get? a=some o∧o.cls=.ref C∧o.data=.fields vs
theorem un_trackN {fs ex:List Addr} {H H':Hp} {h h':Heap} {D:Addr} {o:HO} (u:Un fs ex H H' h h') (hD:h.get? D=none) (hn:H' D=none):Un fs ex H (upd H' D o) h h' where
  keep:=u.keep
  slot:=u.slot
  free:=fun b ob q n hx=>by rw [upd_ne (fun z=>by subst z; rw [hD] at q; cases q)]; exact u.free b ob q n hx
  there:=u.there
  tups:=fun b xs q=>by rw [upd_ne (ne_of_none (u.tups b xs q) hn)]; exact u.tups b xs q
  frzs:=fun b ob v q=>by rw [upd_ne (ne_of_none (u.frzs b ob v q) hn)]; exact u.frzs b ob v q
  tbls:=fun b ps q=>by
    obtain ⟨more,z⟩:=u.tbls b ps q
    exact ⟨more,by rw [upd_ne (ne_of_none z hn)]; exact z⟩
end
section
variable {X:Cx} {x n:Str} {p pos np hpos tpos:Pos} {e e1 e2:Expr} {es:List Expr} {ta:TA} {te:TE} {tx:TX} {ps:List Str} {j k i:Nat} {sp:Sp} {E:XK} {D:Addr}
variable {suite:List Stmt} {ts:TS} {b₀:Stmt}
end
end L2
namespace L2
open PySem PySem.Spec PyProof.Rows
section
variable {X:Cx} {x:Str} {p pos:Pos} {e:Expr} {es:List Expr} {t:TA} {ps:List Str} {j k:Nat} {sp:Sp}
end
end L2
namespace L2
open PySem PySem.Spec PyProof.Rows
section
variable {X:Cx} {e e1 e2:Expr} {es:List Expr} {te:TE} {t:TJ} {pos:Pos}
theorem int_le {a:Int} (h:a.natAbs.log2<1920):(Str.ofString (toString a)).length≤1921:=by
  have e:=int_text_length_le (k:=1920) (by decide) h
  rw [PySem.ofString_length]; exact e
theorem to_line {a:Str} {m:Nat} (h:a.length≤m) (hm:m≤16777216:=by decide):a.length≤sizeLine:=Nat.le_trans h (by rw [sizeLine_eq]; exact hm)
end
end L2
namespace L2
open PySem PySem.Spec PyProof.Rows
open PySem.W (Looks findIn mroIn looks_findIn looks_mroIn clsIn)
section
variable {prog:Program} {w:World} {A:Around} {E:Value→Shared→Prop} {h:Heap} {g:Array GenState} {d:Drawn} {t:Nat} {os:OsState} {a C:Addr} {o:Obj} {K:PySem.W.Frag}
end
end L2
namespace L2
open PySem PySem.Spec PyProof.Rows
section
variable {X:Cx}
theorem vals_bool {bs:List Bool} {its:List Value} (r:Vals (bs.map V.bl) its) {i:Nat} {v:Value} (h:its.toArray[i]?=some v):v=.bool (bs.getD i false):=by
  have hi:i<its.length:=by
    rw [List.getElem?_toArray] at h
    exact (List.getElem?_eq_some_iff.mp h).1
  have hl:bs.length=its.length:=by have:=r.length; rw [List.length_map] at this; exact this
  have hx:(bs.map V.bl)[i]?=some (.bl (bs.getD i false)):=by
    rw [List.getElem?_map,List.getD_eq_getElem?_getD,List.getElem?_eq_getElem (by omega)]
    rfl
  obtain ⟨u,hu,ru⟩:=r.get hx
  rw [List.getElem?_toArray,hu] at h
  cases h
  exact ru
theorem range_all {bs:List Bool}:(List.range bs.length).all (fun i=>bs.getD i false)=bs.all id:=by
  rw [Bool.eq_iff_iff,List.all_eq_true,List.all_eq_true]
  constructor
  · intro h b hb
    obtain ⟨i,hi,rfl⟩:=List.mem_iff_getElem.mp hb
    have:=h i (List.mem_range.mpr hi)
    rwa [List.getD_eq_getElem?_getD,List.getElem?_eq_getElem hi] at this
  · intro h i hi
    have hi':=List.mem_range.mp hi
    rw [List.getD_eq_getElem?_getD,List.getElem?_eq_getElem hi']
    exact h _ (List.getElem_mem hi')
noncomputable def rAll (K:PySem.W.Frag):List V→Hp→VK→Prop:=fun xs H Q=>∃ (p:Addr) (bs:List Bool),xs=[.ref p]∧SqL K H p (bs.map V.bl)∧Q (.bl (bs.all id)) H
theorem call_all (hc:X.calm=true):CallR X (.builtin "all") (rAll X.K):=by
  intro pins s σ H xs us Q I r h
  obtain ⟨p,bs,rfl,hq,q⟩:=h
  obtain ⟨u,rfl,rx⟩:=vals1 r
  cases rx
  have hd:=I.ok.hd hc
  refine call_all_walk ?_
  obtain ⟨its,rv,pl,hz⟩:=I.list hq
  have hl:bs.length=its.toArray.size:=by have:=rv.length; rw [List.length_map] at this; rw [List.size_toArray]; exact this
  have hlt:p<s.heap.objs.size:=by obtain ⟨o,n,e,_⟩:=pl; exact Heap.lt_size e
  refine wpAny_pyIter_list pl.isList ?_
  refine ⟨_,_,_,_,_,_,fun i=>bs.getD i false,rfl,Walks.list (by exact hd) s.heap.objs.size p (Nat.ne_of_lt hlt) its.toArray,⟨⟨_,Heap.get?_push_size _ rfl,rfl,rfl⟩,pl.isList.push _⟩,?_,?_⟩
  · intro i v Q' E' s' hv h'
    rw [vals_bool rv hv]
    exact wpAny_pure h'
  · intro h' tk k
    rw [← hl,range_all]
    exact ⟨.bl (bs.all id),H,I.kept (t':=tk) fun b o eb=>k b o (fun z=>by
      have:b=s.heap.objs.size:=by simpa using z
      rw [this] at eb
      exact absurd (Heap.lt_size eb) (Nat.lt_irrefl _)) (Heap.get?_push_of_some _ eb),rfl,q⟩
end
end L2
namespace L2
open PySem PySem.Spec PyProof.Rows
open Builtin.SmallTypes (nextOf)
structure Src (P:Program) (w:World) (it l:Addr) (st:Nat→Heap→Prop) (n:Nat) (val:Nat→Value):Prop where
  keep:∀ i h h',st i h→(∀ b o,(b=it∨b=l)→h.get? b=some o→h'.get? b=some o)→st i h'
  item:∀ {A:Around} {Q:Value→Shared→Prop} {E:Value→Shared→Prop} {s:Shared} (i:Nat),st i s.heap→i<n→(∀ h',st (i+1) h'→Heap.SameBut it s.heap h'→Q (val i) { s with heap:=h' })→wpAny (model P w) A (nextOf (.ref it)) Q E s
  done:∀ {A:Around} {Q:Value→Shared→Prop} {E:Value→Shared→Prop} {s:Shared} (i:Nat),A.handled=none→st i s.heap→n≤i→
    (∀ h' e,Heap.ExtBut it s.heap h'→(∃ o,h'.get? e=some o∧o.cls=.type "StopIteration")→E (.ref e) { s with heap:=h' })→wpAny (model P w) A (nextOf (.ref it)) Q E s
section
variable {prog:Program} {w:World} {A:Around} {E:Value→Shared→Prop} {s:Shared}
theorem nextOf_tuple_item {it t:Addr} {i:Nat} {items} {x:Value} {Q:Value→Shared→Prop} (hit:s.heap.IsTupleIter it t i) (ht:s.heap.IsTuple t items) (hx:items[i]?=some x)
    (hQ:∀ h',h'.IsTupleIter it t (i+1)→Heap.SameBut it s.heap h'→Q x { s with heap:=h' }):wpAny (model prog w) A (nextOf (.ref it)) Q E s:=by
  obtain ⟨o,ho,hc,hd⟩:=id hit
  obtain ⟨ol,hol,_,nl,hdl⟩:=ht
  unfold nextOf
  refine wpAny_bind (wpAny_callSpecial?_slot (name:=Str.ofString "__next__") hit.typeIs F.slot_tuple_iterator_next
    (wpAny_call_entry F.slot_tuple_iterator_next hit.typeIs F.entry_tuple_iterator_next ?_ (F.args_tuple_iterator_next_1 _)))
  refine wpAny_bind (m:=field (.ref it) 0) (wpAny_field ho hd (x:=.ref t) rfl ?_)
  show wpAny _ _ (if (Value.ref t == Value.none)=true then _ else _) _ _ s
  rw [if_neg (show ¬ ((Value.ref t == Value.none)=true) from Bool.false_ne_true)]
  refine wpAny_bind (m:=field (.ref it) 1) (wpAny_field ho hd (x:=.int i 0) rfl ?_)
  refine wpAny_bind (m:=seqItems? (.ref t)) (wpAny_seqItems hol hdl ?_)
  simp only [Int.toNat_natCast,hx]
  refine wpAny_bind (wpAny_setField ho hd (by simp) (wpAny_pure ⟨x,rfl,wpAny_pure (hQ _ ?_ (Heap.SameBut.update ..))⟩))
  exact ⟨_,Heap.get?_update_self _ ho (Obj.isFreed_of_fields (Obj.data_mapFields hd _)),(Obj.cls_mapFields ..).trans hc,by
    rw [Obj.data_mapFields hd]; simp [rawInt]⟩
theorem nextOf_tuple_end {it t:Addr} {i:Nat} {items} {Q:Value→Shared→Prop} (hh:A.handled=none) (hit:s.heap.IsTupleIter it t i) (ht:s.heap.IsTuple t items) (hx:items[i]?=none)
    (hE:∀ h' e,Heap.ExtBut it s.heap h'→(∃ o,h'.get? e=some o∧o.cls=.type "StopIteration")→E (.ref e) { s with heap:=h' }):wpAny (model prog w) A (nextOf (.ref it)) Q E s:=by
  obtain ⟨o,ho,hc,hd⟩:=id hit
  obtain ⟨ol,hol,_,nl,hdl⟩:=ht
  unfold nextOf
  refine wpAny_bind (wpAny_callSpecial?_slot (name:=Str.ofString "__next__") hit.typeIs F.slot_tuple_iterator_next
    (wpAny_call_entry F.slot_tuple_iterator_next hit.typeIs F.entry_tuple_iterator_next ?_ (F.args_tuple_iterator_next_1 _)))
  refine wpAny_bind (m:=field (.ref it) 0) (wpAny_field ho hd (x:=.ref t) rfl ?_)
  show wpAny _ _ (if (Value.ref t == Value.none)=true then _ else _) _ _ s
  rw [if_neg (show ¬ ((Value.ref t == Value.none)=true) from Bool.false_ne_true)]
  refine wpAny_bind (m:=field (.ref it) 1) (wpAny_field ho hd (x:=.int i 0) rfl ?_)
  refine wpAny_bind (m:=seqItems? (.ref t)) (wpAny_seqItems hol hdl ?_)
  simp only [Int.toNat_natCast,hx]
  refine wpAny_bind (wpAny_rule (wpAny_bind (wpAny_setField ho hd (by simp) ?_)))
  refine wpAny_bind (m:=newExc (.type "StopIteration") []) ?_
  simp only [newExc,newTuple]
  refine wpAny_bind (wpAny_newObj_type ?_ (by size_fits))
  refine wpAny_bind (m:=firstArgMember _ _) (wpAny_of_eq (a:=Value.none) (by first | rfl | (simp only [firstArgMember]; rfl)) ?_)
  refine wpAny_newObj_type ?_ (by size_fits)
  simp only [raiseNew]
  refine wpAny_bind (wpAny_handled ?_)
  first | rw [show A.in1.handled=none from hh] | rw [hh]
  refine wpAny_bind (wpAny_pure (wpAny_throw ?_))
  exact hE _ _ (((Heap.SameBut.update ..).extBut.push _).push _) ⟨_,Heap.get?_push_size _ rfl,rfl⟩
theorem src_list {it l:Addr} (hne:l≠it) (items:Array Value):Src prog w it l (fun i h=>h.IsListIter it l i∧h.IsList l items) items.size (fun i=>items.getD i .none) where
  keep:=fun i h h' st k=>⟨st.1.at fun o e=>k it o (.inl rfl) e,st.2.at fun o e=>k l o (.inr rfl) e⟩
  item:=fun i st hi hQ=>wpAny_nextOf_list_item st.1 st.2 (x:=items.getD i .none) (by simp [Array.getD,hi]) fun h' st' sb=>hQ h' ⟨st',st.2.extBut sb.extBut hne⟩ sb
  done:=fun i hh st hi hE=>wpAny_nextOf_list_end hh st.1 st.2 (Array.getElem?_eq_none hi) hE
theorem src_tuple {it l:Addr} (hne:l≠it) (items:Array Value):Src prog w it l (fun i h=>h.IsTupleIter it l i∧h.IsTuple l items) items.size (fun i=>items.getD i .none) where
  keep:=fun i h h' st k=>⟨st.1.at fun o e=>k it o (.inl rfl) e,st.2.at fun o e=>k l o (.inr rfl) e⟩
  item:=fun i st hi hQ=>nextOf_tuple_item st.1 st.2 (x:=items.getD i .none) (by simp [Array.getD,hi]) fun h' st' sb=>hQ h' ⟨st',st.2.extBut sb.extBut hne⟩ sb
  done:=fun i hh st hi hE=>nextOf_tuple_end hh st.1 st.2 (Array.getElem?_eq_none hi) hE
variable {z TI TO i1 i2 l1 l2:Addr} {st1 st2:Nat→Heap→Prop} {n1 n2:Nat} {v1 v2:Nat→Value} {a b:Value} {k:Nat}
theorem zipS_item {Q:Value→Shared→Prop} (D:ZipApart z TI TO i1 i2 l1 l2) (S1:Src prog w i1 l1 st1 n1 v1) (S2:Src prog w i2 l2 st2 n2 v2)
    (hz:IsZip s.heap z TI TO .none) (hTI:IsPair s.heap TI (.ref i1) (.ref i2)) (hTO:IsPair s.heap TO a b) (h1:st1 k s.heap) (h2:st2 k s.heap) (k1:k<n1) (k2:k<n2)
    (hi1:i1<s.heap.objs.size) (hi2:i2<s.heap.objs.size) (hl1:l1<s.heap.objs.size) (hl2:l2<s.heap.objs.size)
    (hQ:∀ h',IsZip h' z TI TO (rawInt s.heap.objs.size)→IsPair h' TO (v1 k) (v2 k)→st1 (k+1) h'→st2 (k+1) h'→IsPair h' s.heap.objs.size (v1 k) (v2 k)→
      (∀ c o,c≠z→c≠TO→c≠i1→c≠i2→s.heap.get? c=some o→h'.get? c=some o)→Q (.ref s.heap.objs.size) { s with heap:=h' }) :
    wpAny (model prog w) A (Builtin.«zip.__next__» ⟨[.ref z],[]⟩) (fun fin s'=>∃ v,fin=.done (.ret v)∧Q v s') E s:=by
  refine wpAny_bind (m:=field (.ref z) 2) (wpAny_field hz rfl (x:=.bool false) rfl ?_)
  refine wpAny_bind (m:=field (.ref z) 3) (wpAny_field hz rfl (x:=.ref TI) rfl ?_)
  refine wpAny_bind (wpAny_seqItems hTI rfl ?_)
  refine wpAny_bind (m:=Builtin.SmallTypes.ownedTupleIsFree (.ref z)) ?_
  unfold Builtin.SmallTypes.ownedTupleIsFree
  refine wpAny_bind (wpAny_field hz rfl (x:=.none) rfl (wpAny_pure ?_))
  simp only [if_true]
  refine wpAny_bind (wpAny_rule (wpAny_bind (wpAny_field hz rfl (x:=.ref TO) rfl ?_)))
  refine wpAny_bind (wpAny_setField_rec hz (by simp) fun ha hza sa=>?_)
  replace hza:IsZip ha z TI TO .ellipsis:=hza
  refine wpAny_bind ?_
  simp only [List.zipIdx_cons,List.zipIdx_nil,List.forIn_cons,List.forIn_nil]
  have h1a:st1 k ha:=S1.keep k _ _ h1 fun c o hc e=>sa.extBut c o (by rcases hc with rfl | rfl; exact D.i1z; exact D.l1z) e
  refine wpAny_bind (wpAny_bind (wpAny_onRaise (wpAny_bind (m:=nextOf (.ref i1)) (S1.item k h1a k1 fun hb h1b sb=>wpAny_pure ?_))))
  have hTOb:IsPair hb TO a b:=sb.extBut _ _ D.TOi1 (sa.extBut _ _ D.TOz hTO)
  refine wpAny_bind (wpAny_seqItems hTOb rfl (wpAny_bind (wpAny_updateSeq_pair hTOb fun hc hTOc sc=>?_)))
  replace hTOc:IsPair hc TO (v1 k) b:=hTOc
  refine wpAny_bind (wpAny_letGo (wpAny_pure ?_))
  have h2c:st2 k hc:=S2.keep k _ _ h2 fun c o hcc e=>by
    rcases hcc with rfl | rfl
    · exact sc.extBut _ _ D.TOi2.symm (sb.extBut _ _ D.i12.symm (sa.extBut _ _ D.i2z e))
    · exact sc.extBut _ _ D.l2TO (sb.extBut _ _ D.l2i1 (sa.extBut _ _ D.l2z e))
  refine wpAny_bind (wpAny_bind (wpAny_onRaise (wpAny_bind (m:=nextOf (.ref i2)) (S2.item k h2c k2 fun hd h2d sd=>wpAny_pure ?_))))
  have hTOd:IsPair hd TO (v1 k) b:=sd.extBut _ _ D.TOi2 hTOc
  refine wpAny_bind (wpAny_seqItems hTOd rfl (wpAny_bind (wpAny_updateSeq_pair hTOd fun he hTOe se=>?_)))
  replace hTOe:IsPair he TO (v1 k) (v2 k):=hTOe
  refine wpAny_bind (wpAny_letGo (wpAny_pure (wpAny_pure ?_)))
  refine wpAny_bind (wpAny_seqItems hTOe rfl (wpAny_bind (wpAny_newTuple ?_)))
  have hsz:he.objs.size=s.heap.objs.size:=by rw [se.1,sd.1,sc.1,sb.1,sa.1]
  have hze:IsZip he z TI TO .ellipsis:=se.extBut _ _ D.TOz.symm (sd.extBut _ _ D.i2z.symm (sc.extBut _ _ D.TOz.symm (sb.extBut _ _ D.i1z.symm hza)))
  have hke:∀ c o,c≠z→c≠TO→c≠i1→c≠i2→s.heap.get? c=some o→he.get? c=some o:=fun c o c1 c2 c3 c4 e=>
    se.extBut _ _ c2 (sd.extBut _ _ c4 (sc.extBut _ _ c2 (sb.extBut _ _ c3 (sa.extBut _ _ c1 e))))
  have h1e:st1 (k+1) he:=S1.keep _ _ _ h1b fun c o hcc e=>by
    rcases hcc with rfl | rfl
    · exact se.extBut _ _ D.TOi1.symm (sd.extBut _ _ D.i12 (sc.extBut _ _ D.TOi1.symm e))
    · exact se.extBut _ _ D.l1TO (sd.extBut _ _ D.l1i2 (sc.extBut _ _ D.l1TO e))
  have h2e:st2 (k+1) he:=S2.keep _ _ _ h2d fun c o hcc e=>by
    rcases hcc with rfl | rfl
    · exact se.extBut _ _ D.TOi2.symm e
    · exact se.extBut _ _ D.l2TO e
  have hzlt:z<he.objs.size:=Heap.lt_size hze
  refine wpAny_bind (m:=Builtin.SmallTypes.ownedTupleHandOut (.ref z) (.ref he.objs.size)) ?_
  unfold Builtin.SmallTypes.ownedTupleHandOut
  have hzf:IsZip (he.push { cls:=.type "tuple",data:=.seq #[v1 k,v2 k] }) z TI TO .ellipsis:=Heap.get?_push_of_some _ hze
  refine wpAny_bind (wpAny_setField_rec hzf (by simp) fun hg hzg sg=>?_)
  replace hzg:IsZip hg z TI TO (rawInt he.objs.size):=hzg
  refine wpAny_setField_rec hzg (by simp) fun hh hzh sh=>?_
  replace hzh:IsZip hh z TI TO (rawInt he.objs.size):=hzh
  have up:∀ c o,c≠z→he.get? c=some o→hh.get? c=some o:=fun c o c1 e=>sh.extBut _ _ c1 (sg.extBut _ _ c1 (Heap.get?_push_of_some _ e))
  have hT:IsPair hh he.objs.size (v1 k) (v2 k):=sh.extBut _ _ (Nat.ne_of_gt hzlt) (sg.extBut _ _ (Nat.ne_of_gt hzlt) (Heap.get?_push_size _ rfl))
  rw [hsz] at hzh hT
  refine wpAny_pure ⟨_,rfl,?_⟩
  show Q (.ref he.objs.size) _
  rw [hsz]
  refine hQ hh hzh (up _ _ D.TOz hTOe) (S1.keep _ _ _ h1e fun c o hcc e=>up c o ?_ e) (S2.keep _ _ _ h2e fun c o hcc e=>up c o ?_ e) hT fun c o c1 c2 c3 c4 e=>up c o c1 (hke c o c1 c2 c3 c4 e)
  · rcases hcc with rfl | rfl
    · exact D.i1z
    · exact D.l1z
  · rcases hcc with rfl | rfl
    · exact D.i2z
    · exact D.l2z
theorem zipS_end {Q:Fin→Shared→Prop} (hh:A.handled=none) (D:ZipApart z TI TO i1 i2 l1 l2) (S1:Src prog w i1 l1 st1 n1 v1) (S2:Src prog w i2 l2 st2 n2 v2)
    (hz:IsZip s.heap z TI TO .none) (hTI:IsPair s.heap TI (.ref i1) (.ref i2)) (hTO:IsPair s.heap TO a b) (h1:st1 k s.heap) (h2:st2 k s.heap) (hend:n1≤k∨n2≤k)
    (hE:∀ h' e,(∀ c o,c≠z→c≠TO→c≠i1→c≠i2→s.heap.get? c=some o→h'.get? c=some o)→(∃ o,h'.get? e=some o∧o.cls=.type "StopIteration")→E (.ref e) { s with heap:=h' }) :
    wpAny (model prog w) A (Builtin.«zip.__next__» ⟨[.ref z],[]⟩) Q E s:=by
  refine wpAny_bind (m:=field (.ref z) 2) (wpAny_field hz rfl (x:=.bool false) rfl ?_)
  refine wpAny_bind (m:=field (.ref z) 3) (wpAny_field hz rfl (x:=.ref TI) rfl ?_)
  refine wpAny_bind (wpAny_seqItems hTI rfl ?_)
  refine wpAny_bind (m:=Builtin.SmallTypes.ownedTupleIsFree (.ref z)) ?_
  unfold Builtin.SmallTypes.ownedTupleIsFree
  refine wpAny_bind (wpAny_field hz rfl (x:=.none) rfl (wpAny_pure ?_))
  simp only [if_true]
  refine wpAny_bind (wpAny_rule (wpAny_bind (wpAny_field hz rfl (x:=.ref TO) rfl ?_)))
  refine wpAny_bind (wpAny_setField_rec hz (by simp) fun ha hza sa=>?_)
  replace hza:IsZip ha z TI TO .ellipsis:=hza
  refine wpAny_bind ?_
  simp only [List.zipIdx_cons,List.zipIdx_nil,List.forIn_cons,List.forIn_nil]
  have h1a:st1 k ha:=S1.keep k _ _ h1 fun c o hc e=>sa.extBut c o (by rcases hc with rfl | rfl; exact D.i1z; exact D.l1z) e
  by_cases k1:k<n1
  · have k2:n2≤k:=by omega
    refine wpAny_bind (wpAny_bind (wpAny_onRaise (wpAny_bind (m:=nextOf (.ref i1)) (S1.item k h1a k1 fun hb h1b sb=>wpAny_pure ?_))))
    have hTOb:IsPair hb TO a b:=sb.extBut _ _ D.TOi1 (sa.extBut _ _ D.TOz hTO)
    refine wpAny_bind (wpAny_seqItems hTOb rfl (wpAny_bind (wpAny_updateSeq_pair hTOb fun hc hTOc sc=>?_)))
    refine wpAny_bind (wpAny_letGo (wpAny_pure ?_))
    have h2c:st2 k hc:=S2.keep k _ _ h2 fun c o hcc e=>by
      rcases hcc with rfl | rfl
      · exact sc.extBut _ _ D.TOi2.symm (sb.extBut _ _ D.i12.symm (sa.extBut _ _ D.i2z e))
      · exact sc.extBut _ _ D.l2TO (sb.extBut _ _ D.l2i1 (sa.extBut _ _ D.l2z e))
    refine wpAny_bind (wpAny_bind (wpAny_onRaise (wpAny_bind (m:=nextOf (.ref i2)) (S2.done k hh h2c k2 fun hd e sd he=>?_))))
    obtain ⟨oe,hoe,hce⟩:=he
    have hzd:IsZip hd z TI TO .ellipsis:=sd _ _ D.i2z.symm (sc.extBut _ _ D.TOz.symm (sb.extBut _ _ D.i1z.symm hza))
    have hez:e≠z:=fun x=>by subst x; rw [hzd] at hoe; cases hoe; simp at hce
    exact wpAny_setField_rec hzd (by simp) fun hf _ sf=>hE hf e (fun c o c1 c2 c3 c4 x=>sf.extBut _ _ c1 (sd _ _ c4 (sc.extBut _ _ c2 (sb.extBut _ _ c3 (sa.extBut _ _ c1 x))))) ⟨oe,sf.extBut _ _ hez hoe,hce⟩
  · refine wpAny_bind (wpAny_bind (wpAny_onRaise (wpAny_bind (m:=nextOf (.ref i1)) (S1.done k hh h1a (by omega) fun hb e sb he=>?_))))
    obtain ⟨oe,hoe,hce⟩:=he
    have hzb:IsZip hb z TI TO .ellipsis:=sb _ _ D.i1z.symm hza
    have hez:e≠z:=fun x=>by subst x; rw [hzb] at hoe; cases hoe; simp at hce
    exact wpAny_setField_rec hzb (by simp) fun hf _ sf=>hE hf e (fun c o c1 _ c3 _ x=>sf.extBut _ _ c1 (sb _ _ c3 (sa.extBut _ _ c1 x))) ⟨oe,sf.extBut _ _ hez hoe,hce⟩
end
end L2
namespace L2
open PySem PySem.Spec PyProof.Rows
noncomputable def SqX (K:PySem.W.Frag) (tp:Bool) (H:Hp) (a:Addr) (xs:List V):Prop:=match tp with
  | true=>SqT K H a xs
  | false=>SqL K H a xs
noncomputable def itCls (tp:Bool):String:=match tp with
  | true => "tuple_iterator"
  | false => "list_iterator"
noncomputable def SeqX (tp:Bool) (h:Heap) (a:Addr) (its:Array Value):Prop:=match tp with
  | true=>h.IsTuple a its
  | false=>h.IsList a its
noncomputable def ItX (tp:Bool) (h:Heap) (it l:Addr) (i:Nat):Prop:=∃ o,h.get? it=some o∧o.cls=.type (itCls tp)∧o.data=.fields #[.ref l,.int i 0]
theorem ItX.at {tp:Bool} {h h':Heap} {it l:Addr} {i:Nat} (x:ItX tp h it l i) (e:∀ o,h.get? it=some o→h'.get? it=some o):ItX tp h' it l i:=let ⟨o,ho,r⟩:=x; ⟨o,e _ ho,r⟩
theorem SeqX.push {tp:Bool} {h:Heap} {a:Addr} {its:Array Value} (x:SeqX tp h a its) (o:Obj):SeqX tp (h.push o) a its:=by
  cases tp
  · exact Heap.IsList.push x o
  · exact Heap.IsTuple.push x o
theorem SeqX.lt {tp:Bool} {h:Heap} {a:Addr} {its:Array Value} (x:SeqX tp h a its):a<h.objs.size:=by
  cases tp
  · obtain ⟨o,e,_⟩:=x; exact Heap.lt_size e
  · obtain ⟨o,e,_⟩:=x; exact Heap.lt_size e
section
variable {prog:Program} {w:World} {A:Around} {E:Value→Shared→Prop} {s:Shared}
theorem src_x {tp:Bool} {it l:Addr} (hne:l≠it) (items:Array Value):Src prog w it l (fun i h=>ItX tp h it l i∧SeqX tp h l items) items.size (fun i=>items.getD i .none):=by
  cases tp
  · exact src_list hne items
  · exact src_tuple hne items
theorem pyIter_x {tp:Bool} {l:Addr} {items:Array Value} {Q:Value→Shared→Prop} (h:SeqX tp s.heap l items)
    (hQ:Q (.ref s.heap.objs.size) { s with heap:=s.heap.push { cls:=.type (itCls tp),data:=.fields #[.ref l,.int 0 0] } }):wpAny (model prog w) A (pyIter (.ref l)) Q E s:=by
  cases tp
  · exact wpAny_pyIter_list (show s.heap.IsList l items from h) hQ
  · exact wpAny_pyIter_tuple (show s.heap.IsTuple l items from h) hQ
noncomputable abbrev zX1 (t1:Bool) (h:Heap) (l1:Addr):Heap:=h.push { cls:=.type (itCls t1),data:=.fields #[.ref l1,.int 0 0] }
noncomputable abbrev zX2 (t1 t2:Bool) (h:Heap) (l1 l2:Addr):Heap:=(zX1 t1 h l1).push { cls:=.type (itCls t2),data:=.fields #[.ref l2,.int 0 0] }
noncomputable abbrev zX3 (t1 t2:Bool) (h:Heap) (l1 l2:Addr):Heap:=(zX2 t1 t2 h l1 l2).push { cls:=.type "tuple",data:=.seq #[.ref h.objs.size,.ref (zX1 t1 h l1).objs.size] }
noncomputable abbrev zX4 (t1 t2:Bool) (h:Heap) (l1 l2:Addr):Heap:=(zX3 t1 t2 h l1 l2).push { cls:=.type "tuple",data:=.seq #[.none,.none] }
noncomputable abbrev zX5 (t1 t2:Bool) (h:Heap) (l1 l2:Addr):Heap:=(zX4 t1 t2 h l1 l2).push { cls:=.type "zip",data:=.fields #[.none,.bool false,.bool false,.ref (zX2 t1 t2 h l1 l2).objs.size,.ref (zX3 t1 t2 h l1 l2).objs.size] }
theorem zx_new (t1 t2:Bool) (l1 l2:Addr) (xs ys:Array Value) :
    Meets (Builtin.«zip.__new__» ⟨[.type "zip",.ref l1,.ref l2],[]⟩) (fun _ R s=>SeqX t1 s.heap l1 xs∧SeqX t2 s.heap l2 ys∧R (.ok (.ret (.ref (zX4 t1 t2 s.heap l1 l2).objs.size))) { s with heap:=zX5 t1 t2 s.heap l1 l2 }):=
  .of_wp fun prog w A R s h=>by
    obtain ⟨hp,g,d,tk,os⟩:=s; obtain ⟨hl1,hl2,h⟩:=h
    have hsub:=sub_zip
    have hL1:SeqX t1 (Shared.heap ⟨hp,g,d,tk,os⟩) l1 xs:=hl1
    have hL2:SeqX t2 (Shared.heap ⟨hp.push { cls:=.type (itCls t1),data:=.fields #[.ref l1,.int 0 0] },g,d,tk,os⟩) l2 ys:=SeqX.push hl2 _
    wp_walk using pyIter_x hL1,pyIter_x hL2
    exact ⟨_,rfl,h⟩
theorem call_zx {t1 t2:Bool} {l1 l2:Addr} {xs ys:Array Value} {Q:Value→Shared→Prop} (hl1:SeqX t1 s.heap l1 xs) (hl2:SeqX t2 s.heap l2 ys)
    (h:∀ h',IsZip h' (s.heap.objs.size+4) (s.heap.objs.size+2) (s.heap.objs.size+3) .none→IsPair h' (s.heap.objs.size+2) (.ref s.heap.objs.size) (.ref (s.heap.objs.size+1))→
      IsPair h' (s.heap.objs.size+3) .none .none→ItX t1 h' s.heap.objs.size l1 0→ItX t2 h' (s.heap.objs.size+1) l2 0→
      (∀ c o,s.heap.get? c=some o→h'.get? c=some o)→Q (.ref (s.heap.objs.size+4)) { s with heap:=h' }) :
    wpAny (model prog w) A (call (.type "zip") [.ref l1,.ref l2]) Q E s:=by
  refine callType_new F.called_zip (by decide) (F.typeCall_zip_2 _ _) (F.newCall_zip_2 _ _) (fun obj=>F.args_object_init_3 obj _ _) F.entry_zip_new (zx_new t1 t2 l1 l2 xs ys) ⟨hl1,hl2,?_⟩
  have z1:(zX1 t1 s.heap l1).objs.size=s.heap.objs.size+1:=Heap.size_push ..
  have z2:(zX2 t1 t2 s.heap l1 l2).objs.size=s.heap.objs.size+2:=by rw [Heap.size_push,z1]
  have z3:(zX3 t1 t2 s.heap l1 l2).objs.size=s.heap.objs.size+3:=by rw [Heap.size_push,z2]
  have z4:(zX4 t1 t2 s.heap l1 l2).objs.size=s.heap.objs.size+4:=by rw [Heap.size_push,z3]
  have g5:(zX5 t1 t2 s.heap l1 l2).get? (zX4 t1 t2 s.heap l1 l2).objs.size=some _:=Heap.get?_push_size _ rfl
  have g4:(zX5 t1 t2 s.heap l1 l2).get? (zX3 t1 t2 s.heap l1 l2).objs.size=some _:=Heap.get?_push_of_some _ (Heap.get?_push_size _ rfl)
  have g3:(zX5 t1 t2 s.heap l1 l2).get? (zX2 t1 t2 s.heap l1 l2).objs.size=some _:=Heap.get?_push_of_some _ (Heap.get?_push_of_some _ (Heap.get?_push_size _ rfl))
  have g2:(zX5 t1 t2 s.heap l1 l2).get? (zX1 t1 s.heap l1).objs.size=some _:=Heap.get?_push_of_some _ (Heap.get?_push_of_some _ (Heap.get?_push_of_some _ (Heap.get?_push_size _ rfl)))
  have g1:(zX5 t1 t2 s.heap l1 l2).get? s.heap.objs.size=some _:=Heap.get?_push_of_some _ (Heap.get?_push_of_some _ (Heap.get?_push_of_some _ (Heap.get?_push_of_some _ (Heap.get?_push_size _ rfl))))
  show _∧_
  rw [z2,z3,z4] at g5
  rw [z1,z2] at g3
  rw [z3] at g4
  rw [z1] at g2
  rw [z4]
  exact ⟨⟨_,g5,rfl⟩,h _ g5 g3 g4 ⟨_,g1,rfl,rfl⟩ ⟨_,g2,rfl,rfl⟩ fun c o x=>
    Heap.get?_push_of_some _ (Heap.get?_push_of_some _ (Heap.get?_push_of_some _ (Heap.get?_push_of_some _ (Heap.get?_push_of_some _ x))))⟩
end
section
variable {X:Cx} {pins:List (Addr×Obj)} {σ:St} {H:Hp} {s:Shared}
theorem Inv.seqX {tp:Bool} {a:Addr} {xs:List V} (I:Inv X pins σ H s) (h:SqX X.K tp H a xs):∃ its:List Value,Vals xs its∧SeqX tp s.heap a its.toArray:=by
  cases tp
  · obtain ⟨its,r,p,_⟩:=I.list h
    exact ⟨its,r,p.isList⟩
  · obtain ⟨its,r,p,_⟩:=I.tuple h
    exact ⟨its,r,p⟩
theorem Inv.seqX_inj {tp:Bool} {a:Addr} {xs ys:List V} (I:Inv X pins σ H s) (h:SqX X.K tp H a xs) (h':SqX X.K tp H a ys):xs=ys:=by
  cases tp
  · exact I.list_inj h h'
  · exact I.tuple_inj h h'
theorem un_but {fs ch:List Addr} {h h':Heap} (k:∀ b o,b ∉ ch→h.get? b=some o→h'.get? b=some o):Un fs ch H H h h':=
  ⟨fun b o e _ _ hx=>k b o hx e,fun b o e _ _ hx=>⟨o.slots,k b o hx e⟩,fun _ _ _ n _=>n,fun b o e hx=>⟨o,k b o hx e⟩,fun _ _ z=>z,fun _ _ _ z=>z,fun b ps e=>⟨#[],by rw [e]; simp⟩⟩
theorem hok_but {P:Program} {w:World} {ch:List Addr} {h h':Heap} (x:HOk P w H h) (hn:∀ b∈ch,H b=none) (k:∀ b o,b ∉ ch→h.get? b=some o→h'.get? b=some o):HOk P w H h':=fun b u e=>by
  have nit:∀ c v,H c=some v→c ∉ ch:=fun c v e z=>by rw [hn c z] at e; cases e
  refine (x b u e).stay (fun c v hc q=>k c v ?_ q) (fun _ q=>q) fun _ _ q=>q
  rcases hc with z | z
  · rw [z]; exact nit b u e
  · exact nit c _ z
theorem Inv.but {ch:List Addr} {h':Heap} {tk:Nat} (I:Inv X pins σ H s) (hf:∀ b∈ch,FpOk X pins H b) (k:∀ b o,b ∉ ch→s.heap.get? b=some o→h'.get? b=some o):Inv X pins σ H { s with heap:=h',toks:=tk }:=
  I.call' (s':={ s with heap:=h',toks:=tk }) rfl (un_but k) (hok_but I.hok (fun b hb=>(hf b hb).1) k) I.bare fun b hb=>⟨(hf b hb).2.2.2.1,(hf b hb).2.1,(hf b hb).2.2.2.2.1,(hf b hb).2.2.2.2.2⟩
theorem Inv.butNew {ch:List Addr} {h':Heap} {tk:Nat} {T:Addr} {o:HO} (I:Inv X pins σ H s) (hf:∀ b∈ch,FpOk X pins H b) (k:∀ b o,b ∉ ch→s.heap.get? b=some o→h'.get? b=some o) (hT:s.heap.get? T=none) (hn:H T=none)
    (new:ObjOk X.prog X.w (upd H T o) h' T o):Inv X pins σ (upd H T o) { s with heap:=h',toks:=tk }:=
  I.call' (s':={ s with heap:=h',toks:=tk }) rfl (un_trackN (un_but k) hT hn) (hok_track (hok_but I.hok (fun b hb=>(hf b hb).1) k) hn new) I.bare fun b hb=>⟨(hf b hb).2.2.2.1,(hf b hb).2.1,(hf b hb).2.2.2.2.1,(hf b hb).2.2.2.2.2⟩
end
noncomputable def Itz (K:PySem.W.Frag) (t1 t2:Bool) (a b:Addr):It:=
  ⟨fun i H=>∃ xs ys x y,SqX K t1 H a xs∧SqX K t2 H b ys∧xs[i]?=some x∧ys[i]?=some y,
   fun i H v H'=>∃ p,H p=none∧v=.ref p∧∀ xs ys,SqX K t1 H a xs→SqX K t2 H b ys→∃ x y,xs[i]?=some x∧ys[i]?=some y∧H'=upd H p (.tup [x,y]),
   fun i H=>∃ xs ys,SqX K t1 H a xs∧SqX K t2 H b ys∧(xs.length≤i∨ys.length≤i)⟩
theorem turn_zip {P:Program} {w:World} {K:PySem.W.Frag} {elts:List Expr} {kk:Nat} {pos:Pos} (t1 t2:Bool) (a b z TI TO i1 i2:Addr) (D:ZipApart z TI TO i1 i2 a b) :
    Turn P w K (.Tuple elts kk pos) (Itz K t1 t2 a b) [z,TI,TO,i1,i2] z (fun i h=>IsZip h z TI TO .none∧IsPair h TI (.ref i1) (.ref i2)∧(∃ u v,IsPair h TO u v)∧ItX t1 h i1 a i∧ItX t2 h i2 b i) where
  mem:=by simp
  obj:=fun i h st c hc=>by
    obtain ⟨s1,s2,⟨u,v,s3⟩,⟨o4,s4,_,d4⟩,⟨o5,s5,_,d5⟩⟩:=st
    simp only [List.mem_cons,List.not_mem_nil,or_false] at hc
    rcases hc with rfl | rfl | rfl | rfl | rfl
    · exact ⟨_,s1,fun v q=>nomatch q⟩
    · exact ⟨_,s2,fun v q=>nomatch q⟩
    · exact ⟨_,s3,fun v q=>nomatch q⟩
    · exact ⟨_,s4,fun v q=>by rw [d4] at q; cases q⟩
    · exact ⟨_,s5,fun v q=>by rw [d5] at q; cases q⟩
  keep:=fun i h h' st k=>by
    obtain ⟨s1,s2,⟨u,v,s3⟩,s4,s5⟩:=st
    exact ⟨k z (by simp) _ s1,k TI (by simp) _ s2,⟨u,v,k TO (by simp) _ s3⟩,s4.at fun o e=>k i1 (by simp) o e,s5.at fun o e=>k i2 (by simp) o e⟩
  item:=by
    intro X hP hw hK hc i pins s σ H E I hf st hg
    subst hP hw hK
    obtain ⟨s1,s2,⟨u,v,s3⟩,s4,s5⟩:=st
    obtain ⟨xs,ys,x,y,hx,hy,ex,ey⟩:=hg
    obtain ⟨us,ru,pu⟩:=I.seqX hx
    obtain ⟨ws,rw',pw⟩:=I.seqX hy
    obtain ⟨xu,hxu,rxu⟩:=ru.get ex
    obtain ⟨yw,hyw,ryw⟩:=rw'.get ey
    have k1:i<us.toArray.size:=by rw [List.size_toArray]; exact (List.getElem?_eq_some_iff.mp hxu).1
    have k2:i<ws.toArray.size:=by rw [List.size_toArray]; exact (List.getElem?_eq_some_iff.mp hyw).1
    have e1:us.toArray.getD i .none=xu:=by
      have:=List.getElem?_eq_some_iff.mp hxu
      obtain ⟨l,e⟩:=this
      simp [Array.getD,l,e]
    have e2:ws.toArray.getD i .none=yw:=by
      have:=List.getElem?_eq_some_iff.mp hyw
      obtain ⟨l,e⟩:=this
      simp [Array.getD,l,e]
    have hT:s.TypeIs (.ref z) "zip" := ⟨_,s1,rfl⟩
    have q4:i1<s.heap.objs.size:=by obtain ⟨o,e,_⟩:=s4; exact Heap.lt_size e
    have q5:i2<s.heap.objs.size:=by obtain ⟨o,e,_⟩:=s5; exact Heap.lt_size e
    unfold pyNext
    refine wpAny_bind (wpAny_attempt (wpAny_callSpecial?_slot (name:=Str.ofString "__next__") hT F.slot_zip_next (wpAny_call_entry F.slot_zip_next hT F.entry_zip_next
      (zipS_item D (src_x D.l1i1 us.toArray) (src_x D.l2i2 ws.toArray) s1 s2 s3 ⟨s4,pu⟩ ⟨s5,pw⟩ k1 k2 q4 q5 pu.lt pw.lt fun h' a1 a2 a3 a4 a5 a6=>wpAny_pure ?_) (F.args_zip_next_1 _))))
    rw [e1,e2] at a2 a5
    refine ⟨_,rfl,wpAny_letOwnedTupleGo_zip (s:={ s with heap:=h' }) a1 fun h'' b1 sb=>?_⟩
    have hTs:s.heap.get? s.heap.objs.size=none:=by
      cases q:s.heap.get? s.heap.objs.size with
      | none=>rfl
      | some o=>exact absurd (Heap.lt_size q) (Nat.lt_irrefl _)
    have hTf:H s.heap.objs.size=none:=I.hok.fresh (Nat.le_refl _)
    have hTz:s.heap.objs.size≠z:=Nat.ne_of_gt (Heap.lt_size s1)
    have tup:h''.get? s.heap.objs.size=some { cls:=.type "tuple",data:=.seq #[xu,yw] }:=sb.extBut _ _ hTz a5
    have kk:∀ c o,c ∉ [z,TI,TO,i1,i2]→s.heap.get? c=some o→h''.get? c=some o:=fun c o hc e=>by
      simp only [List.mem_cons,List.not_mem_nil,or_false,not_or] at hc
      exact sb.extBut _ _ hc.1 (a6 c o hc.1 hc.2.2.1 hc.2.2.2.1 hc.2.2.2.2 e)
    have new:ObjOk X.prog X.w (upd H s.heap.objs.size (.tup [x,y])) h'' s.heap.objs.size (.tup [x,y]):=⟨(by show 2≤sizeLine; decide),[xu,yw],.cons rxu (.cons ryw .nil),⟨_,tup,rfl,_,rfl⟩⟩
    refine ⟨.ref s.heap.objs.size,upd H s.heap.objs.size (.tup [x,y]),I.butNew (tk:=s.toks) hf kk hTs hTf new,rfl,⟨s.heap.objs.size,hTf,rfl,fun xs' ys' hx' hy'=>?_⟩,⟨b1,?_,⟨_,_,sb.extBut _ _ D.TOz a2⟩,a3.1.at fun o e=>sb.extBut _ _ D.i1z e,a4.1.at fun o e=>sb.extBut _ _ D.i2z e⟩,fun c hc=>?_⟩
    · rw [I.seqX_inj hx' hx,I.seqX_inj hy' hy]
      exact ⟨x,y,ex,ey,rfl⟩
    · exact sb.extBut _ _ D.TIz (a6 _ _ D.TIz D.TITO D.TIi1 D.TIi2 s2)
    · rw [upd_ne]
      · exact (hf c hc).1
      · intro q
        have hlt:c<s.heap.objs.size:=by
          simp only [List.mem_cons,List.not_mem_nil,or_false] at hc
          rcases hc with rfl | rfl | rfl | rfl | rfl
          · exact Heap.lt_size s1
          · exact Heap.lt_size s2
          · exact Heap.lt_size s3
          · exact q4
          · exact q5
        rw [q] at hlt
        exact absurd hlt (Nat.lt_irrefl _)
  done:=by
    intro X hP hw hK hc i pins s σ H E I hf st hg
    subst hP hw hK
    obtain ⟨s1,s2,⟨u,v,s3⟩,s4,s5⟩:=st
    obtain ⟨xs,ys,hx,hy,hend⟩:=hg
    obtain ⟨us,ru,pu⟩:=I.seqX hx
    obtain ⟨ws,rw',pw⟩:=I.seqX hy
    have hend':us.toArray.size≤i∨ws.toArray.size≤i:=by
      have l1:=ru.length
      have l2:=rw'.length
      rw [List.size_toArray,List.size_toArray]
      omega
    have hT:s.TypeIs (.ref z) "zip" := ⟨_,s1,rfl⟩
    unfold pyNext
    refine wpAny_bind (wpAny_attempt (wpAny_callSpecial?_slot (name:=Str.ofString "__next__") hT F.slot_zip_next (wpAny_call_entry F.slot_zip_next hT F.entry_zip_next
      (zipS_end (by exact I.ok.hd hc) D (src_x D.l1i1 us.toArray) (src_x D.l2i2 ws.toArray) s1 s2 s3 ⟨s4,pu⟩ ⟨s5,pw⟩ hend' fun h' e kk he=>?_) (F.args_zip_next_1 _))))
    obtain ⟨o,ho,hcl⟩:=he
    refine wpAny_bind (wpAny_isInstance (T := "StopIteration") (b:=true) ⟨o,ho,hcl⟩ isSubtype_stop ?_)
    refine wpAny_pure ⟨rfl,I.but (tk:=s.toks) hf fun c ob hcc eb=>?_⟩
    simp only [List.mem_cons,List.not_mem_nil,or_false,not_or] at hcc
    exact kk c ob hcc.1 hcc.2.2.1 hcc.2.2.2.1 hcc.2.2.2.2 eb
  self:=fun _ _ _ _ _ st h=>wpAny_pyIter_zip st.1 h
theorem ne_addr {a b:Nat} (h:a≠b):@Ne Addr a b:=h
theorem zip_apart {n l1 l2:Nat} (h1:l1<n) (h2:l2<n):ZipApart (n+4) (n+2) (n+3) n (n+1) l1 l2:=
  ⟨ne_addr (by omega),ne_addr (by omega),ne_addr (by omega),ne_addr (by omega),ne_addr (by omega),ne_addr (by omega),ne_addr (by omega),ne_addr (by omega),ne_addr (by omega),ne_addr (by omega),ne_addr (by omega),ne_addr (by omega),ne_addr (by omega),ne_addr (by omega),ne_addr (by omega),ne_addr (by omega),ne_addr (by omega),ne_addr (by omega)⟩
theorem boot_zip:bootBuiltins "zip" = some (.type "zip"):=by decide +kernel
section
variable {X:Cx}
noncomputable def iZip (K:PySem.W.Frag) (ta:TA):TI:=fun σ H R=>ta σ H fun vs H1=>∃ a b xs ys t1 t2,vs=[.ref a,.ref b]∧SqX K t1 H1 a xs∧SqX K t2 H1 b ys∧R (Itz K t1 t2 a b) H1
theorem pi_zip {a b:Expr} {ta:TA} {p pos:Pos} {elts:List Expr} {kk:Nat} {tp:Pos} (hg:Gl X "zip") (hm:X.mg "zip" = none) (ha:PA X [a,b] ta) (hs:starEach [a,b] X.env=[(false,eval a X.env),(false,eval b X.env)]:=by rfl)
    (hs2:starEach [b] X.env=[(false,eval b X.env)]:=by rfl):PI X (.Tuple elts kk tp) (.Call (.Name "zip" p) [a,b] [] pos) (iZip X.K ta):=by
  intro pins s σ H R I h
  refine Call_ (ld_blt I hg hm boot_zip (PyProof.Rows.callWith_type1 (thn (ha pos pins s σ H _ I h) fun us s1 ⟨vs,H1,I1,r1,q1⟩=>?_) (by rw [hs,hs2]) (by rw [hs2]; rfl)))
  obtain ⟨l1,l2,xs,ys,t1,t2,rfl,hx,hy,q⟩:=q1
  obtain ⟨u,v,rfl,ru,rv⟩:=vals2 r1
  cases (show u=Value.ref l1 from ru)
  cases (show v=Value.ref l2 from rv)
  obtain ⟨us,_,pu⟩:=I1.seqX hx
  obtain ⟨ws,_,pw⟩:=I1.seqX hy
  have w1:=pu.lt
  have w2:=pw.lt
  refine call_zx pu pw fun h' a1 a2 a3 a4 a5 kp=>?_
  have I2:Inv X pins σ H1 { s1 with heap:=h' }:=I1.kept (t':=s1.toks) kp
  refine wpAny_pyIter_zip (s:={ s1 with heap:=h' }) a1 ?_
  generalize hn:s1.heap.objs.size=n at a1 a2 a3 a4 a5 w1 w2
  have D:ZipApart (n+4) (n+2) (n+3) n (n+1) l1 l2:=by
    exact zip_apart w1 w2
  refine ⟨n+4,[n+4,n+2,n+3,n,n+1],_,_,H1,rfl,I2,turn_zip t1 t2 l1 l2 (n+4) (n+2) (n+3) n (n+1) D,⟨a1,a2,⟨_,_,a3⟩,a4,a5⟩,fun c hc=>?_,q⟩
  have hle:s1.heap.objs.size≤c:=by
    rw [hn]
    simp only [List.mem_cons,List.not_mem_nil,or_false] at hc
    rcases hc with rfl | rfl | rfl | rfl | rfl
    · exact Nat.le_add_right _ _
    · exact Nat.le_add_right _ _
    · exact Nat.le_add_right _ _
    · exact Nat.le_refl _
    · exact Nat.le_add_right _ _
  exact I1.fpOk hle (I1.hok.fresh hle)
theorem qi_zip {a b:Expr} {ta:TA} {p pos:Pos} {elts:List Expr} {kk:Nat} {tp:Pos} (hg:Gl X "zip") (hm:X.mg "zip" = none) (ha:QA X [a,b] ta) (hs:noStar a=true:=by rfl) (hs2:noStar b=true:=by rfl) :
    QI X (.Tuple elts kk tp) (.Call (.Name "zip" p) [a,b] [] pos) (iZip X.K ta):=⟨pi_zip hg hm ha.h (by rw [star_cons hs,star_cons hs2]; rfl) (star_cons hs2)⟩
end
end L2
namespace L2
open PySem PySem.Spec PyProof.Rows
noncomputable def blkB (scope:Scope) (env:Env) (cl:List (Str×Addr)) (own:List Str):Bool:=
  scope.kind == .function&&scope.names.all (fun y=>y.2 != .cell)&&blkOk scope env cl own&&scope.names.all (fun y=>y.2 != .local||scope.names.lookup y.1 == some .local)
theorem blk_mk {X:Cx} {scope:Scope} {cl:List (Str×Addr)} {own:List Str} (clos:closureFor scope X.env=pure cl) (cap:CapAll X.env cl:=by first | exact True.intro | exact ⟨rfl,True.intro⟩ | exact ⟨rfl,rfl,True.intro⟩ | exact ⟨rfl,rfl,rfl,True.intro⟩ | exact ⟨rfl,rfl,rfl,rfl,True.intro⟩)
    (ok:blkB scope X.env cl own=true:=by rfl):Blk X scope cl own:=by
  unfold blkB at ok
  simp only [Bool.and_eq_true] at ok
  obtain ⟨⟨⟨h1,h2⟩,h3⟩,h4⟩:=ok
  refine ⟨beq_iff_eq.mp h1,fun y hy e=>?_,cap,h3,clos,fun y hy e=>?_⟩
  · have:=List.all_eq_true.mp h2 y hy
    rw [e] at this
    cases this
  · have:=List.all_eq_true.mp h4 y hy
    rw [e] at this
    simpa using this
section
variable {X:Cx} (K:PySem.W.Frag) (hK:X.K=K)
include hK
end
noncomputable def CstT (K:PySem.W.Frag) (a:Addr) (xs:List V):Prop:=∀ H,SqT K H a xs
theorem cstT {K:PySem.W.Frag} {a:Addr} {xs:List V} {d:Option Addr} {its:Array Value} {n:Nat} {sl:Array (Option Value)} (h:K.lookup a=some ⟨.type "tuple",d,.seq its n,sl⟩) (hz:its.size≤sizeLine) (r:Vals xs its.toList):CstT K a xs:=
  fun _=>.inr ⟨_,its,n,h,rfl,rfl,hz,r⟩
end L2
namespace L2
open PySem PySem.Spec PyProof.Rows
open Builtin Builtin.Str
section
variable {X:Cx}
theorem vals_str:∀ {ts:List Str} {its:List Value},Vals (ts.map V.str) its→∃ l:List (Str×Tok),its=strValues l∧l.map (·.1)=ts
  | [],_,.nil=>⟨[],rfl,rfl⟩
  | t::ts,_,.cons r rr=>by
    obtain ⟨k,e⟩:=(show ∃ k,_=Value.str t k from r)
    obtain ⟨l,e1,e2⟩:=vals_str rr
    subst e e1
    exact ⟨(t,k)::l,rfl,by rw [List.map_cons,e2]⟩
noncomputable def rJoin (K:PySem.W.Frag):V→List V→Hp→VK→Prop:=fun x vs H Q=>∃ (sep:Str) (p:Addr) (ts:List Str),x=.str sep∧vs=[.ref p]∧SqL K H p (ts.map V.str)∧(ts.map (·.length)).sum+ts.length*sep.length≤sizeLine∧Q (.str (glued sep ts)) H
theorem glued_len (sep:Str):∀ ts:List Str,(glued sep ts).length≤(ts.map (·.length)).sum+ts.length*sep.length
  | []=>by show (Str.length _)≤_; simp [glued,Str.length,Str.empty]
  | t::ts=>by
    have h:∀ (us:List Str) (a:Array Nat),(us.foldl (fun acc p=>acc++sep.cps++p.cps) a).size=a.size+(us.map (·.length)).sum+us.length*sep.length:=fun us=>by
      induction us with
      | nil=>intro a; simp
      | cons u us ih=>
        intro a
        rw [List.foldl_cons,ih]
        simp only [Array.size_append,List.map_cons,List.sum_cons,List.length_cons,Nat.succ_mul,Str.length]
        omega
    show (ts.foldl (fun acc p=>acc++sep.cps++p.cps) t.cps).size≤_
    rw [h]
    simp only [List.map_cons,List.sum_cons,List.length_cons,Nat.succ_mul,Str.length]
    omega
theorem mt_join:MtR X "str.join" (rJoin X.K):=by
  intro pins s σ H x vs v us Q I rx rv h
  obtain ⟨sep,p,ts,rfl,rfl,hq,hz,q⟩:=h
  obtain ⟨t,rfl⟩:=(show ∃ t,v=Value.str sep t from rx)
  obtain ⟨u,rfl,ru⟩:=vals1 rv
  cases (show u=Value.ref p from ru)
  obtain ⟨its,r,pl,_⟩:=I.list hq
  obtain ⟨l,rfl,el⟩:=vals_str r
  have hT:s.TypeIs (.ref p) "list" := pl.isList.typeIs
  obtain ⟨o,ho,hc,n,hd⟩:=pl.isList
  have hno:tooLong ((l.map (·.1)).toArray.foldl (·+·.length+sep.length) 0)=false:=by
    rw [el,StrLaws.joinTotal]
    unfold tooLong
    exact decide_eq_false (by omega)
  have fit:(glued sep ts).length≤sizeLine:=Nat.le_trans (glued_len sep ts) hz
  refine wpAny_call (codeAny_call_builtin F.slot_str_join.plain F.entry_str_join (F.slot_str_join.check _ _ _ _ _ _ _ _ (typeIs_str _ _ _) (F.args_str_join_2 _ _) ?_))
  obtain ⟨other,e⟩:=join_tree sep t p
  rw [e]
  refine wpAny_bind (wpAny_typeOf hT ?_)
  rw [if_pos (by decide)]
  refine wpAny_bind (wpAny_seqItems ho hd ?_)
  show wpAny _ _ (joinTail sep (strValues l)) _ _ _
  rcases l with _ | ⟨a,_ | ⟨b,c⟩⟩
  · subst el
    exact gives_joinTail sep [] hno X.prog X.w _ (fun r s'=>match r with | .ok (.ret v)=>EP X pins σ Q v s' | .ok _=>False | .error e=>X.xe e s') s ⟨fit,.str _,H,I.tok _,⟨_,rfl⟩,q⟩
  · subst el
    exact gives_joinTail sep [a] hno X.prog X.w _ (fun r s'=>match r with | .ok (.ret v)=>EP X pins σ Q v s' | .ok _=>False | .error e=>X.xe e s') s ⟨.str _,H,I,⟨_,rfl⟩,q⟩
  · subst el
    exact gives_joinTail sep (a::b::c) hno X.prog X.w _ (fun r s'=>match r with | .ok (.ret v)=>EP X pins σ Q v s' | .ok _=>False | .error e=>X.xe e s') s ⟨fit,.str _,H,I.tok _,⟨_,rfl⟩,q⟩
end
noncomputable def Its (z:Str):It:=⟨fun i _=>i<z.length,fun i H x H'=>H'=H∧∃ c,z.cps[i]?=some c∧x=.str ⟨#[c]⟩,fun i _=>z.length≤i⟩
section
variable {X:Cx} {tg:Expr}
noncomputable def iStr (te:TE):TI:=fun σ H R=>te σ H fun x H1=>∃ z,x=.str z∧R (Its z) H1
theorem turn_str {P:Program} {w:World} {K:PySem.W.Frag} {it:Addr} {z:Str} {t:Tok} {ty:String} (hty:ty = "str_ascii_iterator" ∨ ty = "str_iterator"):Turn P w K tg (Its z) [it] it (fun i h=>h.IsStrIter it ty z t i∧i≤z.length) where
  mem:=by simp
  obj:=fun i h st b hb=>by
    have e:b=it:=by simpa using hb
    subst e
    obtain ⟨⟨o,e,c,d⟩,_⟩:=st
    exact ⟨o,e,fun v z=>by rw [d] at z; cases z⟩
  keep:=fun i h h' st k=>⟨let ⟨o,ho,r⟩:=st.1; ⟨o,k it (by simp) o ho,r⟩,st.2⟩
  item:=by
    intro X hP hw hK hc i pins s σ H E I hf st hg
    subst hP hw hK
    obtain ⟨f0,f1,f2,f3,f4,f5⟩:=hf it (by simp)
    have hg':i<z.cps.size:=hg
    have hx:z.cps[i]?=some z.cps[i]:=by simp [hg']
    have go:∀ h' tk (u:Value),(∃ t',u=Value.str ⟨#[z.cps[i]]⟩ t')→h'.IsStrIter it ty z t (i+1)→Heap.SameBut it s.heap h'→∃ v,some u=some v∧
        wpAny (model X.prog X.w) X.A (letOwnedTupleGo tg (.ref it) v) (fun _ s2=>∃ x H',Inv X pins σ H' s2∧RelV x v∧(Its z).yld i H x H'∧(s2.heap.IsStrIter it ty z t (i+1)∧i+1≤z.length)∧∀ b∈[it],H' b=none) E { s with heap:=h',toks:=tk }:=fun h' tk u hu st' sb=>by
      obtain ⟨t',rfl⟩:=hu
      have I1:Inv X pins σ H { s with heap:=h',toks:=tk }:=I.turned (fun b o hb e=>(sb.2 b hb).trans e) f0 f1 f3 f4 f5
      obtain ⟨o,e,c,d⟩:=id st'
      exact ⟨_,rfl,go_of (s:={ s with heap:=h',toks:=tk }) e c d (by rcases hty with rfl | rfl<;>decide) ⟨.str ⟨#[z.cps[i]]⟩,H,I1,⟨t',rfl⟩,⟨rfl,_,hx,rfl⟩,⟨st',hg⟩,fun b hb=>(hf b hb).1⟩⟩
    rcases hty with rfl | rfl
    · exact wpAny_pyNext_ascii_item st.1 hx fun h' st' sb=>go h' _ _ ⟨_,rfl⟩ st' sb
    · exact wpAny_pyNext_wide_item st.1 hx fun h' st' sb=>go h' _ _ ⟨_,rfl⟩ st' sb
  done:=by
    intro X hP hw hK hc i pins s σ H E I hf st hg
    subst hP hw hK
    obtain ⟨f0,f1,f2,f3,f4,f5⟩:=hf it (by simp)
    have hx:z.cps[i]?=none:=Array.getElem?_eq_none hg
    rcases hty with rfl | rfl
    · exact wpAny_pyNext_ascii_end (I.ok.hd hc) st.1 hx fun h' eb=>⟨rfl,I.turned (t':=s.toks) (fun b o hb e=>eb b o hb e) f0 f1 f3 f4 f5⟩
    · exact wpAny_pyNext_wide_end (I.ok.hd hc) st.1 hx fun h' eb=>⟨rfl,I.turned (t':=s.toks) (fun b o hb e=>eb b o hb e) f0 f1 f3 f4 f5⟩
  self:=fun _ _ _ _ _ st h=>by
    rcases hty with rfl | rfl
    · exact wpAny_pyIter_striter_ascii st.1 h
    · exact wpAny_pyIter_striter_wide st.1 h
theorem pi_str {e:Expr} {te:TE} (he:PE X e te):PI X tg e (iStr te):=by
  intro pins s σ H R I h
  refine thn (he pins s σ H _ I h) fun v s1 ⟨x,H1,I1,r1,q1⟩=>?_
  obtain ⟨z,rfl,q⟩:=q1
  obtain ⟨t,rfl⟩:=(show ∃ t,v=Value.str z t from r1)
  have fin:∀ (ty:String),(ty = "str_ascii_iterator" ∨ ty = "str_iterator")→∀ o:Obj,(s1.heap.push o).IsStrIter s1.heap.objs.size ty z t 0→PIE X pins σ tg R (.ref s1.heap.objs.size) { s1 with heap:=s1.heap.push o }:=fun ty hty o st=>
    ⟨s1.heap.objs.size,[s1.heap.objs.size],_,_,H1,rfl,I1.kept (t':=s1.toks) fun b o e=>Heap.get?_push_of_some _ e,turn_str hty,⟨st,Nat.zero_le _⟩,fun b hb=>by
      have e:b=s1.heap.objs.size:=by simpa using hb
      subst e
      exact I1.fpOk (Nat.le_refl _) (I1.hok.fresh (Nat.le_refl _)),q⟩
  cases ha:z.cps.all (·<128)
  · exact wpAny_pyIter_wide ha (fin _ (.inr rfl) _ ⟨_,Heap.get?_push_size _ rfl,rfl,rfl⟩)
  · exact wpAny_pyIter_ascii ha (fin _ (.inl rfl) _ ⟨_,Heap.get?_push_size _ rfl,rfl,rfl⟩)
end
end L2
namespace L2
open PySem PySem.Spec PyProof.Rows
open Builtin Builtin.Str
noncomputable def cutS (z:Str) (lo hi:Option Int):Str:=⟨((z.cps.toList.drop (HT.sIx z.length 0 lo)).take (HT.sIx z.length z.length hi - HT.sIx z.length 0 lo)).toArray⟩
theorem clip_lo (n:Nat) (lo:Option Int):(match lo with | none=>(0:Int) | some i=>max 0 (min (if i<0 then i+(n:Int) else i) (n:Int)))=((HT.sIx n 0 lo:Nat):Int)∨∃ i,lo=some i∧i<0∧(n:Int)<i+n:=by
  cases lo with
  | none=>left; rfl
  | some i=>
    left
    show max 0 (min (if i<0 then i+(n:Int) else i) (n:Int))=(((if i<0 then (i+(n:Int)).toNat else min i.toNat n):Nat):Int)
    by_cases h:i<0
    · simp only [h,if_true]; omega
    · simp only [h,if_false]; omega
theorem clip_hi (n:Nat) (hi:Option Int):(match hi with | none=>(n:Int) | some i=>max 0 (min (if i<0 then i+(n:Int) else i) (n:Int)))=((HT.sIx n n hi:Nat):Int):=by
  cases hi with
  | none=>rfl
  | some i=>
    show max 0 (min (if i<0 then i+(n:Int) else i) (n:Int))=(((if i<0 then (i+(n:Int)).toNat else min i.toNat n):Nat):Int)
    by_cases h:i<0
    · simp only [h,if_true]; omega
    · simp only [h,if_false]; omega
theorem clip_lo' (n:Nat) (lo:Option Int):(match lo with | none=>(0:Int) | some i=>max 0 (min (if i<0 then i+(n:Int) else i) (n:Int)))=((HT.sIx n 0 lo:Nat):Int):=by
  rcases clip_lo n lo with h | ⟨i,_,h1,h2⟩
  · exact h
  · omega
theorem picks_eq (z:Str) (lo hi:Option Int):(strSliceIndices lo hi 1 z.length)=(List.range (HT.sIx z.length z.length hi - HT.sIx z.length 0 lo)).map (HT.sIx z.length 0 lo+·):=by
  have h1:=clip_lo' z.length lo
  have h2:=clip_hi z.length hi
  rw [← sliceRange_one,← h1,← h2]
  unfold strSliceIndices
  simp only [show (1:Int) > 0 by decide,if_true]
  cases lo<;>cases hi<;>rfl
theorem cut_eq (z:Str) (lo hi:Option Int):(⟨((strSliceIndices lo hi 1 z.length).filterMap (z.cps[·]?)).toArray⟩:Str)=cutS z lo hi:=by
  rw [picks_eq,pick_run]
  rfl
theorem sIx_le (n d:Nat) (hd:d≤n) (v:Option Int):HT.sIx n d v≤n:=by
  cases v with
  | none=>exact hd
  | some i=>
    show (if i<0 then (i+(n:Int)).toNat else min i.toNat n)≤n
    by_cases h:i<0
    · simp only [h,if_true]; omega
    · simp only [h,if_false]; omega
theorem cut_whole (z:Str) (lo hi:Option Int) (h:(strSliceIndices lo hi 1 z.length).length=z.length):cutS z lo hi=z:=by
  rw [picks_eq,List.length_map,List.length_range] at h
  have a:=sIx_le z.length 0 (Nat.zero_le _) lo
  have b:=sIx_le z.length z.length (Nat.le_refl _) hi
  unfold cutS
  rw [h]
  have hz:HT.sIx z.length 0 lo=0∨z.length=0:=by omega
  have hl:z.cps.toList.length=z.length:=by simp [Str.length]
  rcases hz with q | q
  · rw [q,List.drop_zero,← hl,List.take_length]
  · have e:z.cps.toList=[]:=List.eq_nil_of_length_eq_zero (by omega)
    rw [e]
    simp
    cases z with
    | mk c=>simp [Str.length] at q; simp [q]
theorem cut_len (z:Str) (lo hi:Option Int):(cutS z lo hi).length≤z.length:=by
  show (List.toArray _).size≤z.cps.size
  rw [List.size_toArray,List.length_take,List.length_drop,Array.length_toList]
  omega
section
variable {X:Cx}
theorem part_of {v:Value} {lo:Option Int} (h:IsPart v lo):∃ l:Option (Int×Tok),v=partValue l∧l.map (·.1)=lo:=by
  cases h with
  | none=>exact ⟨none,rfl,rfl⟩
  | int i t=>exact ⟨some (i,t),rfl,rfl⟩
noncomputable def rSlS:V→Option Int→Option Int→Hp→VK→Prop:=fun x lo hi H Q=>∃ z:Str,x=.str z∧z.length≤sizeLine∧Q (.str (cutS z lo hi)) H
theorem sl_str:SlR X rSlS:=by
  intro pins s σ H x v vl vu lo hi sl Q I rx hs pl pu h
  obtain ⟨z,rfl,hz,q⟩:=h
  obtain ⟨t,rfl⟩:=(show ∃ t,v=Value.str z t from rx)
  obtain ⟨l,rfl,rfl⟩:=part_of pl
  obtain ⟨u,rfl,rfl⟩:=part_of pu
  refine ⟨"str",_,F.slot_str_getitem.lookup,typeIs_str _ _ _,?_⟩
  refine wpAny_getItem_str_slice (l:=l) (u:=u) (st:=none) hs rfl ?_
  unfold sliceMade
  have hp:slicePicked z l u none=strSliceIndices (l.map (·.1)) (u.map (·.1)) 1 z.length:=rfl
  rw [hp]
  split
  · rename_i hc
    have e:(strSliceIndices (l.map (·.1)) (u.map (·.1)) 1 z.length).length=z.length:=by
      rw [Bool.and_eq_true] at hc
      exact beq_iff_eq.mp hc.2
    rw [cut_whole z _ _ e] at q
    exact ⟨.str z,H,I,⟨_,rfl⟩,q⟩
  · rw [cut_eq]
    exact ⟨Nat.le_trans (cut_len z _ _) hz,.str _,H,I.tok _,⟨_,rfl⟩,q⟩
end
end L2
namespace L2
open PySem PySem.Spec PyProof.Rows
open Builtin Builtin.Str
section
variable {X:Cx} {e o:Expr} {te to:TE} {pos apos cpos:Pos} {name:Str} {T id:String} {rm:V→List V→Hp→VK→Prop}
end
end L2
namespace L2
open PySem PySem.Spec PyProof.Rows
section
variable {κ:Type} [DecidableEq κ]
noncomputable def valV (kvs:List (κ×V)) (k:κ):Option V:=(kvs.find? fun kv=>decide (kv.1=k)).map (·.2)
noncomputable def putK (kvs:List (κ×V)) (k:κ) (v:V):List (κ×V):=
  if (kvs.any fun kv=>decide (kv.1=k))=true then kvs.map (fun kv=>if kv.1=k then (kv.1,v) else kv) else kvs++[(k,v)]
theorem valV_pos {p:κ×V} {r:List (κ×V)} {k:κ} (e:p.1=k):valV (p::r) k=some p.2:=by simp [valV,List.find?_cons,e]
theorem valV_neg {p:κ×V} {r:List (κ×V)} {k:κ} (e:¬ p.1=k):valV (p::r) k=valV r k:=by simp [valV,List.find?_cons,e]
theorem valV_any (k:κ):∀ kvs:List (κ×V),(kvs.any fun kv=>decide (kv.1=k))=(valV kvs k).isSome
  | []=>rfl
  | p::r=>by
    rw [List.any_cons]
    by_cases e:p.1=k
    · simp only [valV_pos e,decide_eq_true e,Bool.true_or,Option.isSome_some]
    · rw [valV_neg e,decide_eq_false e,Bool.false_or]; exact valV_any k r
theorem valV_snoc (k j:κ) (y:V):∀ kvs:List (κ×V),valV kvs k=none→valV (kvs++[(k,y)]) j=if j=k then some y else valV kvs j
  | [],_=>by
    by_cases e:k=j
    · rw [if_pos e.symm]; exact valV_pos (p:=(k,y)) e
    · rw [if_neg (fun z=>e z.symm)]; exact valV_neg (p:=(k,y)) e
  | p::r,hn=>by
    rw [List.cons_append]
    have hk:¬ p.1=k:=fun z=>by rw [valV_pos z] at hn; cases hn
    rw [valV_neg hk] at hn
    have ih:=valV_snoc k j y r hn
    by_cases e:p.1=j
    · rw [valV_pos e,valV_pos e,if_neg (fun z=>hk (e.trans z))]
    · rw [valV_neg e,valV_neg e,ih]
theorem length_putK (kvs:List (κ×V)) (k:κ) (v:V):(putK kvs k v).length≤kvs.length+1:=by
  unfold putK
  split
  · rw [List.length_map]; omega
  · rw [List.length_append,List.length_cons,List.length_nil]; omega
theorem putK_new {kvs:List (κ×V)} {k:κ} (v:V) (h:valV kvs k=none):putK kvs k v=kvs++[(k,v)]:=by
  unfold putK
  rw [valV_any,h]
  exact if_neg (by decide)
theorem RelO.isSome_eq {o:Option V} {u:Option Value} (r:RelO o u):o.isSome=u.isSome:=by
  cases o with
  | none=>cases u with
    | none=>rfl
    | some _=>exact (show False from r).elim
  | some _=>cases u with
    | none=>exact (show False from r).elim
    | some _=>rfl
theorem KV.val {kvs:List (κ×V)} {vs:List (κ×Value)} (r:KV kvs vs) (k:κ):RelO (valV kvs k) (valueAt vs k):=by
  unfold KV at r
  induction r with
  | nil=>exact True.intro
  | @cons p q ps qs h t ih=>
    obtain ⟨h1,h2⟩:=h
    by_cases e:p.1=k
    · have e':q.1=k:=h1.symm.trans e
      have b:valueAt (q::qs) k=some q.2:=by simp [valueAt,List.find?_cons,e']
      rw [valV_pos e,b]; exact h2
    · have e':¬ q.1=k:=fun z=>e (h1.trans z)
      have b:valueAt (q::qs) k=valueAt qs k:=by simp [valueAt,List.find?_cons,e']
      rw [valV_neg e,b]; exact ih
theorem KV.any {kvs:List (κ×V)} {vs:List (κ×Value)} (r:KV kvs vs) (k:κ):(kvs.any fun kv=>decide (kv.1=k))=vs.any fun kv=>decide (kv.1=k):=by
  unfold KV at r
  induction r with
  | nil=>rfl
  | cons h t ih=>rw [List.any_cons,List.any_cons,ih,h.1]
theorem KV.repl {kvs:List (κ×V)} {vs:List (κ×Value)} (r:KV kvs vs) (k:κ) {y:V} {u:Value} (ry:RelV y u) :
    KV (kvs.map fun kv=>if kv.1=k then (kv.1,y) else kv) (vs.map fun kv=>if kv.1=k then (kv.1,u) else kv):=by
  unfold KV at r ⊢
  induction r with
  | nil=>exact .nil
  | @cons p q ps qs h t ih=>
    rw [List.map_cons,List.map_cons]
    refine .cons ?_ ih
    obtain ⟨h1,h2⟩:=h
    by_cases e:p.1=k
    · rw [if_pos e,if_pos (h1.symm.trans e)]; exact ⟨h1,ry⟩
    · rw [if_neg e,if_neg (fun z=>e (h1.trans z))]; exact ⟨h1,h2⟩
theorem KV.put {kvs:List (κ×V)} {vs:List (κ×Value)} (r:KV kvs vs) (k:κ) {y:V} {u:Value} (ry:RelV y u):KV (putK kvs k y) (stored vs k u):=by
  unfold putK stored
  rw [r.any k]
  by_cases e:(vs.any fun kv=>decide (kv.1=k))=true
  · rw [if_pos e,if_pos e]; exact r.repl k ry
  · rw [if_neg e,if_neg e]; exact Paired.snoc r ⟨rfl,ry⟩
theorem KV.length {kvs:List (κ×V)} {vs:List (κ×Value)} (r:KV kvs vs):kvs.length=vs.length:=Paired.length r
end
theorem kV_is {P:Program} {w:World} {k:Key} {u:Value} (r:RelV (kV k) u):(mixKind P w).is k u=true:=by
  cases k with
  | inl i=>obtain ⟨t,e⟩:=(show ∃ t,u=Value.int i t from r); subst e; exact mixKind_int P w i t
  | inr x=>obtain ⟨t,e⟩:=(show ∃ t,u=Value.str x t from r); subst e; exact mixKind_str P w x t
theorem items_are {P:Program} {w:World}:∀ {ks:List Key} {us:List Value},Vals (ks.map kV) us→ItemsAre (mixKind P w) ks us
  | [],_,r=>by rw [List.map_nil] at r; cases r; exact .nil
  | k::ks,_,r=>by
    rw [List.map_cons] at r
    cases r with
    | cons h t=>exact .cons (kV_is h) (items_are t)
noncomputable abbrev KT (H:Hp):List (List Key×V)→List (List Key×Addr×Value)→Prop:=Paired fun p q=>p.1=q.1∧H q.2.1=some (.tup (p.1.map kV))∧RelV p.2 q.2.2
theorem KT.val {H:Hp} {kvs:List (List Key×V)} {xs:List (List Key×Addr×Value)} (r:KT H kvs xs) (k:List Key):RelO (valV kvs k) ((atKey xs k).map (·.2)):=by
  induction r with
  | nil=>exact True.intro
  | @cons p q ps qs h t ih=>
    obtain ⟨h1,_,h2⟩:=h
    by_cases e:p.1=k
    · have e':q.1=k:=h1.symm.trans e
      have b:atKey (q::qs) k=some q.2:=by simp [atKey,List.find?_cons,e']
      rw [valV_pos e,b]; exact h2
    · have e':¬ q.1=k:=fun z=>e (h1.trans z)
      have b:atKey (q::qs) k=atKey qs k:=by simp [atKey,List.find?_cons,e']
      rw [valV_neg e,b]; exact ih
theorem KT.repl {H:Hp} {kvs:List (List Key×V)} {xs:List (List Key×Addr×Value)} (r:KT H kvs xs) (k:List Key) {y:V} {u:Value} (ry:RelV y u) :
    KT H (kvs.map fun kv=>if kv.1=k then (kv.1,y) else kv) (xs.map (putAt k u)):=by
  induction r with
  | nil=>exact .nil
  | @cons p q ps qs h t ih=>
    rw [List.map_cons,List.map_cons]
    refine .cons ?_ ih
    obtain ⟨h1,h2,h3⟩:=h
    unfold putAt
    by_cases e:p.1=k
    · rw [if_pos e,if_pos (h1.symm.trans e)]; exact ⟨h1,h2,ry⟩
    · rw [if_neg e,if_neg (fun z=>e (h1.trans z))]; exact ⟨h1,h2,h3⟩
theorem KT.put {H:Hp} {kvs:List (List Key×V)} {xs:List (List Key×Addr×Value)} (r:KT H kvs xs) (k:List Key) {b:Addr} {y:V} {u:Value} (hb:H b=some (.tup (k.map kV))) (ry:RelV y u) :
    KT H (putK kvs k y) (storedH xs k b u):=by
  have e:(kvs.any fun kv=>decide (kv.1=k))=(atKey xs k).isSome:=by
    rw [valV_any,(r.val k).isSome_eq,Option.isSome_map]
  unfold putK storedH
  rw [e]
  by_cases q:(atKey xs k).isSome=true
  · rw [if_pos q,if_pos q]; exact r.repl k ry
  · rw [if_neg q,if_neg q]; exact Paired.snoc r ⟨rfl,hb,ry⟩
theorem KT.keeps {H H':Hp} {kvs:List (List Key×V)} {xs:List (List Key×Addr×Value)} (r:KT H kvs xs) (ht:∀ b ys,H b=some (.tup ys)→H' b=some (.tup ys)):KT H' kvs xs:=
  Paired.mapP r fun _ _ z=>⟨z.1,ht _ _ z.2.1,z.2.2⟩
section
variable {P:Program} {w:World} {H:Hp} {h:Heap} {a:Addr}
theorem rd_of {u:HO} (ok:HOk P w H h) (e:Rd H a u):ObjOk P w H h a u:=e.ok ok
theorem dk_rd {kvs:List (Key×V)} (ok:HOk P w H h) (e:Rd H a (.dK kvs)):kvs.length≤sizeLine∧(a == sysModules)=false∧∃ vs,KV kvs vs∧h.DictOf (mixKind P w) a vs:=
  show ObjOk P w H h a (.dK kvs) from rd_of ok e
theorem dk_of {kvs:List (Key×V)} (ok:HOk P w H h) (e:H a=some (.dK kvs)):kvs.length≤sizeLine∧(a == sysModules)=false∧∃ vs,KV kvs vs∧h.DictOf (mixKind P w) a vs:=dk_rd ok (.inl e)
theorem key_of {ks:List Key} (ok:HOk P w H h) (e:H a=some (.tup (ks.map kV))):(tupleKind (mixKind P w)).is h ks a:=by
  obtain ⟨_,its,r,o,h1,h2,n,h3⟩:=(show ObjOk P w H h a (.tup (ks.map kV)) from ok a _ e)
  exact ⟨o,its.toArray,n,h1,h2,h3,by simpa using items_are r⟩
theorem dt_rd {kvs:List (List Key×V)} (ok:HOk P w H h) (e:Rd H a (.dT kvs)):kvs.length≤sizeLine∧(a == sysModules)=false∧
    ∃ xs,KT H kvs xs∧h.DictOfH (tupleKind (mixKind P w)) a xs:=by
  obtain ⟨z,y,xs,r,o,es,ep,h1,h2,h3,h4,h5⟩:=(show ObjOk P w H h a (.dT kvs) from rd_of ok e)
  refine ⟨z,y,xs,r,o,es,ep,h1,h2,h3,h4,fun x hx=>?_,h5⟩
  have all:∀ {l:List (List Key×V)} {m:List (List Key×Addr×Value)},KT H l m→∀ x∈m,(tupleKind (mixKind P w)).is h x.1 x.2.1:=by
    intro l m q
    induction q with
    | nil=>intro x hx; exact nomatch hx
    | @cons p q ps qs hq t ih=>
      intro x hx
      rcases List.mem_cons.mp hx with e | hx
      · subst e
        exact key_of ok (by rw [← hq.1]; exact hq.2.1)
      · exact ih x hx
  exact all r x hx
theorem dt_of {kvs:List (List Key×V)} (ok:HOk P w H h) (e:H a=some (.dT kvs)):kvs.length≤sizeLine∧(a == sysModules)=false∧
    ∃ xs,KT H kvs xs∧h.DictOfH (tupleKind (mixKind P w)) a xs:=dt_rd ok (.inl e)
end
noncomputable def DGet (H:Hp) (a:Addr) (y:V) (r:Option V):Prop:=
  (∃ kvs k,Rd H a (.dK kvs)∧y=kV k∧r=valV kvs k)∨∃ kvs k b,Rd H a (.dT kvs)∧y=.ref b∧H b=some (.tup (k.map kV))∧r=valV kvs k
noncomputable def DPut (H:Hp) (a:Addr) (y v:V) (H':Hp):Prop:=
  (∃ kvs k,H a=some (.dK kvs)∧y=kV k∧kvs.length<sizeLine∧H'=upd H a (.dK (putK kvs k v))) ∨
  ∃ kvs k b,H a=some (.dT kvs)∧y=.ref b∧H b=some (.tup (k.map kV))∧kvs.length<sizeLine∧H'=upd H a (.dT (putK kvs k v))
section
variable {X:Cx} {pins:List (Addr×Obj)} {σ:St} {H:Hp} {s:Shared} {a:Addr} {y v:V} {u r:Value} {o:Option V} {A:Around} {E:Value→Shared→Prop}
theorem Inv.big (I:Inv X pins σ H s):sysModules<s.heap.objs.size:=by
  have h:mainGlobals<s.heap.objs.size:=(I.mod.glob.keeps I.bk).lt
  exact Nat.lt_trans (by decide) h
theorem d_in {Q:Value→Shared→Prop} (hu:A.units+1<cLine) (I:Inv X pins σ H s) (g:DGet H a y o) (ry:RelV y u) (h:∀ s',Inv X pins σ H s'→Q (.bool o.isSome) s') :
    wpAny (model X.prog X.w) A (compareOp .In u (.ref a)) Q E s:=by
  rcases g with ⟨kvs,k,e,ey,l⟩ | ⟨kvs,k,b,e,ey,eb,l⟩
  · subst ey
    obtain ⟨z,hd,vs,rel,dd⟩:=dk_rd I.hok e
    refine wpAny_in_of (kV_is ry) hd dd.mapOf ?_
    rw [← (rel.val k).isSome_eq,← l]
    exact h _ (I.tok _)
  · subst ey
    cases (show u=Value.ref b from ry)
    obtain ⟨z,hd,xs,rel,dd⟩:=dt_rd I.hok e
    refine wpAny_in_heap (tupleKind_room_in1 hu) (key_of I.hok eb) hd dd ?_
    have q:=(rel.val k).isSome_eq
    rw [Option.isSome_map] at q
    rw [← q,← l]
    exact h _ (I.tok _)
theorem d_notIn {Q:Value→Shared→Prop} (hu:A.units+1<cLine) (I:Inv X pins σ H s) (g:DGet H a y o) (ry:RelV y u) (h:∀ s',Inv X pins σ H s'→Q (.bool (!o.isSome)) s') :
    wpAny (model X.prog X.w) A (compareOp .NotIn u (.ref a)) Q E s:=by
  rcases g with ⟨kvs,k,e,ey,l⟩ | ⟨kvs,k,b,e,ey,eb,l⟩
  · subst ey
    obtain ⟨z,hd,vs,rel,dd⟩:=dk_rd I.hok e
    refine wpAny_notIn_of (kV_is ry) hd dd.mapOf ?_
    rw [← (rel.val k).isSome_eq,← l]
    exact h _ (I.tok _)
  · subst ey
    cases (show u=Value.ref b from ry)
    obtain ⟨z,hd,xs,rel,dd⟩:=dt_rd I.hok e
    refine wpAny_notIn_heap (tupleKind_room_in1 hu) (key_of I.hok eb) hd dd ?_
    have q:=(rel.val k).isSome_eq
    rw [Option.isSome_map] at q
    rw [← q,← l]
    exact h _ (I.tok _)
theorem d_write {h':Heap} {t':Nat} {ob:HO} (I:Inv X pins σ H s) (mu:Mut (H a)) (hs:Heap.SameBut a s.heap h') (he:∃ q,h'.get? a=some q) (new:ObjOk X.prog X.w (upd H a ob) h' a ob) :
    Inv X pins σ (upd H a ob) { s with heap:=h',toks:=t' }:=
  I.write (x:=a) (e:=a) mu (.inl rfl) (fun b q hb z=>(hs.2 b hb).trans z) he new
theorem dk_new {P:Program} {w:World} {H':Hp} {h':Heap} {kvs:List (Key×V)} {vs:List (Key×Value)} (z:kvs.length≤sizeLine) (hd:(a == sysModules)=false) (rel:KV kvs vs) (dd:h'.DictOf (mixKind P w) a vs) :
    ObjOk P w H' h' a (.dK kvs):=⟨z,hd,vs,rel,dd⟩
theorem d_setItem {H':Hp} {Q:Unit→Shared→Prop} (hu:A.units+1<cLine) (I:Inv X pins σ H s) (g:DPut H a y v H') (ry:RelV y u) (rv:RelV v r) (h:∀ s',Inv X pins σ H' s'→Q () s') :
    wpAny (model X.prog X.w) A (setItem (.ref a) u r) Q E s:=by
  rcases g with ⟨kvs,k,e,ey,l,eH⟩ | ⟨kvs,k,b,e,ey,eb,l,eH⟩
  · subst ey eH
    obtain ⟨z,hd,vs,rel,dd⟩:=dk_of I.hok e
    have hz:vs.length≤sizeLine:=by rw [← rel.length]; exact z
    have hl:(putK kvs k v).length≤sizeLine:=by have:=length_putK kvs k v; omega
    refine wpAny_setItem_pairs (hsz:=hz) (kV_is ry) dd fun h' dd' hs=>h _ ?_
    have he:∃ q,h'.get? a=some q:=let ⟨q,_,_,hq,_⟩:=dd'; ⟨q,hq⟩
    exact d_write I (by rw [e]; exact True.intro) hs he (dk_new hl hd (rel.put k rv) dd')
  · subst ey eH
    cases (show u=Value.ref b from ry)
    obtain ⟨z,hd,xs,rel,dd⟩:=dt_of I.hok e
    have hz:xs.length≤sizeLine:=by rw [← Paired.length rel]; exact z
    have hl:(putK kvs k v).length≤sizeLine:=by have:=length_putK kvs k v; omega
    refine wpAny_setItem_heap (hsz:=hz) (tupleKind_room_in1 hu) (key_of I.hok eb) dd fun h' dd' hs=>h _ ?_
    obtain ⟨q,es,ep,hq,h2,h3,h4,_,h5⟩:=dd'
    refine d_write I (by rw [e]; exact True.intro) hs ⟨q,hq⟩ ⟨hl,hd,_,(rel.put k eb rv).keeps fun c ys ec=>?_,q,es,ep,hq,h2,h3,h4,h5⟩
    rw [upd_ne (ne_of ec e (fun z=>nomatch z))]
    exact ec
end
section
variable {X:Cx} {pins:List (Addr×Obj)} {σ:St} {H:Hp} {s:Shared} {a:Addr} {kvs:List (Key×V)} {k:Key} {u:Value} {A:Around} {E:Value→Shared→Prop}
end
theorem dict_typeIs {X:Cx} {pins:List (Addr×Obj)} {σ:St} {H:Hp} {s:Shared} {a:Addr} {y:V} {o:Option V} (I:Inv X pins σ H s) (g:DGet H a y o):s.TypeIs (.ref a) "dict" := by
  rcases g with ⟨kvs,k,e,_,_⟩ | ⟨kvs,k,b,e,_,_,_⟩
  · obtain ⟨_,_,vs,_,dd⟩:=dk_rd I.hok e
    exact dd.typeIs
  · obtain ⟨_,_,xs,_,dd⟩:=dt_rd I.hok e
    exact dd.typeIs
noncomputable def sDPut (td ty tv:TE):TS:=fun D σ H=>tv σ H fun v H1=>td σ H1 fun x H2=>ty σ H2 fun y H3=>∃ a H4,x=.ref a∧DPut H3 a y v H4∧D.nx σ H4
section
variable {X:Cx} {o i e value:Expr} {pos pos' tpos:Pos} {td ty tv:TE}
theorem ps_dput (hu:X.A.units+1<cLine) (ho:PE X o td) (hi:PE X i ty) (hv:PE X value tv) (hs:swapsWith value (some (.Subscript o i pos')) pos.line X.env=pure false) :
    PS X (.Assign [.Subscript o i pos'] value pos) (sDPut td ty tv):=by
  intro pins s σ H D I h
  refine wpAny_Assign_Subscript (thn (hv pins s σ H _ I h) fun r s1 ⟨v,H1,I1,rv,q1⟩=>thn (ho pins s1 σ H1 _ I1 q1) fun u s2 ⟨x,H2,I2,rx,q2⟩=>thn (hi pins s2 σ H2 _ I2 q2) fun iv s3 ⟨y,H3,I3,ry,a,H4,ex,g,q3⟩=>?_) hs
  subst ex
  obtain rfl:u=Value.ref a:=rx
  exact d_setItem hu I3 g ry rv fun s4 I4=>⟨σ,H4,I4,q3⟩
end
theorem dk_empty {P:Program} {w:World} {H:Hp} (h:Heap) (hb:sysModules<h.objs.size):ObjOk P w H (h.push { cls:=.type "dict",data:=.dict #[] }) h.objs.size (.dK []):=
  ⟨Nat.zero_le _,beq_eq_false_iff_ne.mpr (Ne.symm (Nat.ne_of_lt hb)),[],.nil,Heap.DictOf.new h⟩
noncomputable def tDNewK:TE:=fun _ H Q=>∀ p,H p=none→Q (.ref p) (upd H p (.dK []))
section
variable {X:Cx} {pos:Pos}
theorem pe_dnewK:PE X (.Dict [] [] pos) tDNewK:=fun pins s σ H Q I h=>
  wpAny_Dict_empty ⟨.ref s.heap.objs.size,_,I.laid (a:=s.heap.objs.size) (o:=.dK []) (t':=s.toks) (fun _ _ q=>Heap.get?_push_of_some _ q) (Nat.le_refl _) (dk_empty s.heap I.big),rfl,h _ (I.hok.fresh (Nat.le_refl _))⟩
end
noncomputable def tPairs:List (TE×TE)→St→Hp→(List (V×V)→Hp→Prop)→Prop
  | [],_,H,Q=>Q [] H
  | (tk,tv)::r,σ,H,Q=>tk σ H fun x H1=>tv σ H1 fun y H2=>tPairs r σ H2 fun ps H3=>Q ((x,y)::ps) H3
noncomputable abbrev VV:List (V×V)→List (Value×Value)→Prop:=Paired fun p q=>RelV p.1 q.1∧RelV p.2 q.2
noncomputable def PPs (X:Cx) (pos:Pos) (keys:List (Option Expr)) (values:List Expr) (trs:List (TE×TE)):Prop:=
  ∀ (pins:List (Addr×Obj)) (s:Shared) (σ:St) (H:Hp) (Q:List (V×V)→Hp→Prop),Inv X pins σ H s→tPairs trs σ H Q→
    wpAny (model X.prog X.w) X.A (evalPairs (pairTrees keys values X.env pos)) (fun vs s'=>∃ ps H',Inv X pins σ H' s'∧VV ps vs∧Q ps H') X.xe s
theorem pps_nil {X:Cx} {pos:Pos}:PPs X pos [] [] []:=fun pins s σ H Q I h=>pairTrees_nil_walk ⟨[],H,I,.nil,h⟩
theorem pps_cons {X:Cx} {pos:Pos} {k v:Expr} {ks:List (Option Expr)} {vs:List Expr} {tk tv:TE} {trs:List (TE×TE)} (hk:PE X k tk) (hv:PE X v tv) (hr:PPs X pos ks vs trs) :
    PPs X pos (some k::ks) (v::vs) ((tk,tv)::trs):=fun pins s σ H Q I h=>
  pairTrees_cons_walk (thn (hk pins s σ H _ I h) fun u s1 ⟨x,H1,I1,rx,q1⟩=>thn (hv pins s1 σ H1 _ I1 q1) fun w2 s2 ⟨y,H2,I2,ry,q2⟩=>
    thn (hr pins s2 σ H2 _ I2 q2) fun ws s3 ⟨ps,H3,I3,rel,q3⟩=>⟨(x,y)::ps,H3,I3,.cons ⟨rx,ry⟩ rel,q3⟩)
noncomputable def mergeK (kvs more:List (Key×V)):List (Key×V):=more.foldl (fun acc kv=>putK acc kv.1 kv.2) kvs
theorem KV.merge:∀ {more:List (Key×V)} {rs:List (Key×Value)} {kvs:List (Key×V)} {vs:List (Key×Value)},KV more rs→KV kvs vs→KV (mergeK kvs more) (merged vs rs):=by
  intro more rs kvs vs r
  unfold KV at r
  induction r generalizing kvs vs with
  | nil=>intro q; exact q
  | @cons p q ps qs h t ih=>
    intro r0
    have e:KV (putK kvs p.1 p.2) (stored vs q.1 q.2):=by
      have:=r0.put p.1 h.2
      rw [← h.1]; exact this
    exact ih e
theorem length_mergeK:∀ (more kvs:List (Key×V)),(mergeK kvs more).length≤kvs.length+more.length
  | [],kvs=>by show kvs.length≤kvs.length+0; omega
  | p::r,kvs=>by
    have h1:=length_mergeK r (putK kvs p.1 p.2)
    have h2:=length_putK kvs p.1 p.2
    show (mergeK (putK kvs p.1 p.2) r).length≤_
    rw [List.length_cons]; omega
theorem carries_of {P:Program} {w:World}:∀ {kvs:List (Key×V)} {ws:List (Value×Value)},VV (kvs.map fun kv=>(kV kv.1,kv.2)) ws→∃ rs,Carries (mixKind P w) ws rs∧KV kvs rs
  | [],_,r=>by rw [List.map_nil] at r; cases r; exact ⟨[],True.intro,.nil⟩
  | p::kvs,_,r=>by
    rw [List.map_cons] at r
    cases r with
    | @cons a b as bs h t=>
      obtain ⟨rs,c,q⟩:=carries_of (P:=P) (w:=w) t
      obtain ⟨b1,b2⟩:=b
      exact ⟨(p.1,b2)::rs,⟨kV_is h.1,rfl,c⟩,.cons ⟨rfl,h.2⟩ q⟩
noncomputable def tDisp (trs:List (TE×TE)):TE:=fun σ H Q=>∀ p,H p=none→tPairs trs σ (upd H p (.dK [])) fun ps H2=>H2 p=some (.dK [])∧∃ kvs:List (Key×V),ps=kvs.map (fun kv=>(kV kv.1,kv.2))∧kvs.length≤15∧Q (.ref p) (upd H2 p (.dK (mergeK [] kvs)))
theorem pe_disp {X:Cx} {pos:Pos} {keys:List (Option Expr)} {values:List Expr} {trs:List (TE×TE)} (h:PPs X pos keys values trs) (hall:keys.all (·.isSome)=true) (hl:keys.length=values.length) (h0:keys≠[])
    (h15:keys.length≤15):PE X (.Dict keys values pos) (tDisp trs):=by
  intro pins s σ H Q I q
  have hn:=I.hok.fresh (Nat.le_refl s.heap.objs.size)
  have I1:=I.laid (a:=s.heap.objs.size) (o:=.dK []) (h':=s.heap.push { cls:=.type "dict",data:=.dict #[] }) (t':=s.toks) (fun _ _ q=>Heap.get?_push_of_some _ q) (Nat.le_refl _) (dk_empty s.heap I.big)
  refine wpAny_Dict_walk (knd:=mixKind X.prog X.w) hall hl h0 h15 (thn (h pins _ σ _ _ I1 (q _ hn)) fun ws s2 ⟨ps,H2,I2,rel,e,kvs,ep,lk,q2⟩=>?_)
  subst ep
  obtain ⟨rs,c,rk⟩:=carries_of (P:=X.prog) (w:=X.w) rel
  obtain ⟨z,hd,vs0,r0,dd⟩:=dk_of I2.hok e
  cases r0
  refine ⟨rs,c,dd,fun h' dd' hs=>⟨.ref s.heap.objs.size,_,?_,rfl,q2⟩⟩
  have hz:(mergeK [] kvs).length≤sizeLine:=by
    have h1:=length_mergeK kvs []
    rw [List.length_nil] at h1
    rw [sizeLine_eq]; omega
  have he:∃ q,h'.get? s.heap.objs.size=some q:=let ⟨q,_,_,hq,_⟩:=dd'; ⟨q,hq⟩
  exact d_write I2 (by rw [e]; exact True.intro) hs he (dk_new hz hd (rk.merge .nil) dd')
section
variable {X:Cx} {pins:List (Addr×Obj)} {σ:St} {H:Hp} {s:Shared} {a:Addr} {y d:V} {u r:Value} {o:Option V} {A:Around} {E:Value→Shared→Prop}
end
section
variable {X:Cx} {o e f:Expr} {apos cpos:Pos} {td ty tx:TE}
end
section
variable {X:Cx} {pins:List (Addr×Obj)} {σ:St} {H:Hp} {s:Shared} {a:Addr} {kvs:List (Key×V)} {A:Around} {E:Value→Shared→Prop}
end
section
variable {X:Cx} {pins:List (Addr×Obj)} {σ:St} {H:Hp} {s:Shared} {a:Addr} {y:V} {u:Value} {A:Around} {E:Value→Shared→Prop}
end
end L2
namespace L3
open PySem
inductive D where
  | non | bl (b:Bool) | int (i:Int) | str (x:Str) | tup (xs:List D) | lst (xs:List D) | dic (ks:List (Sum Int Str)) (vs:List D) | exc (x:Str) | obj (x:Str) (fs:List Str) (vs:List D)
theorem D.ind {P:D→Prop} (non:P .non) (bl:∀ b,P (.bl b)) (int:∀ i,P (.int i)) (str:∀ x,P (.str x)) (tup:∀ xs,(∀ d∈xs,P d)→P (.tup xs)) (lst:∀ xs,(∀ d∈xs,P d)→P (.lst xs))
    (dic:∀ ks xs,(∀ d∈xs,P d)→P (.dic ks xs)) (exc:∀ x,P (.exc x)) (obj:∀ x fs xs,(∀ d∈xs,P d)→P (.obj x fs xs)) (d:D):P d:=
  D.rec (motive_1:=P) (motive_2:=fun ds=>∀ d∈ds,P d) non bl int str (fun xs h=>tup xs h) (fun xs h=>lst xs h) (fun ks xs h=>dic ks xs h) exc (fun x fs xs h=>obj x fs xs h) (fun _ h=>absurd h (by simp))
    (fun d ds hd hds e he=>by
      rcases List.mem_cons.mp he with z | z
      · exact z ▸ hd
      · exact hds e z) d
mutual
noncomputable def dEq:D→D→Bool
  | .non,.non=>true
  | .bl a,.bl b=>a == b
  | .bl a,.int b=>(if a then 1 else 0) == b
  | .int a,.bl b=>a == (if b then 1 else 0)
  | .int a,.int b=>a == b
  | .str a,.str b=>a == b
  | .tup xs,.tup ys=>dEqs xs ys
  | .lst xs,.lst ys=>dEqs xs ys
  | _,_=>false
noncomputable def dEqs:List D→List D→Bool
  | [],[]=>true
  | x::xs,y::ys=>dEq x y&&dEqs xs ys
  | _,_=>false
end
noncomputable abbrev Sl:=Bool×D
noncomputable abbrev SEnv:=List (Option Sl)
noncomputable abbrev FE:=SEnv→Option D
noncomputable abbrev FT:=SEnv→Option Bool
noncomputable abbrev FA:=SEnv→Option (List D)
noncomputable abbrev FG:=D→SEnv→Option SEnv
inductive Fl where
  | nx (σ:SEnv) | rt (o:Bool) (d:D) | bk (σ:SEnv) | ct (σ:SEnv)
noncomputable abbrev FS:=SEnv→Option Fl
noncomputable abbrev LIM:Nat:=16777216
noncomputable def eVar (i:Nat):FE:=fun σ=>match σ[i]? with
  | some (some (false,d))=>some d
  | _=>none
noncomputable def eAny (i:Nat):FE:=fun σ=>match σ[i]? with
  | some (some (_,d))=>some d
  | _=>none
noncomputable def eC (d:D):FE:=fun _=>some d
noncomputable def e1 (F:D→Option D) (a:FE):FE:=fun σ=>(a σ).bind F
noncomputable def e2 (F:D→D→Option D) (a b:FE):FE:=fun σ=>(a σ).bind fun x=>(b σ).bind fun y=>F x y
noncomputable def eL (F:List D→Option D) (a:FA):FE:=fun σ=>(a σ).bind F
noncomputable def aNil:FA:=fun _=>some []
noncomputable def aCons (a:FE) (r:FA):FA:=fun σ=>(a σ).bind fun x=>(r σ).bind fun xs=>some (x::xs)
noncomputable def asB:D→Option Bool
  | .bl b=>some b
  | _=>none
noncomputable def tE (a:FE):FT:=fun σ=>(a σ).bind asB
noncomputable def tAndF (a b:FT):FT:=fun σ=>(a σ).bind fun k=>match k with
  | true=>b σ
  | false=>some false
noncomputable def tOrF (a b:FT):FT:=fun σ=>(a σ).bind fun k=>match k with
  | true=>some true
  | false=>b σ
noncomputable def tNotF (a:FT):FT:=fun σ=>(a σ).bind fun k=>some (!k)
noncomputable def eAnd (a b:FE):FE:=fun σ=>(a σ).bind fun x=>(asB x).bind fun k=>match k with
  | true=>b σ
  | false=>some (.bl false)
noncomputable def eOr (a b:FE):FE:=fun σ=>(a σ).bind fun x=>(asB x).bind fun k=>match k with
  | true=>some (.bl true)
  | false=>b σ
noncomputable def eNot (a:FE):FE:=fun σ=>(a σ).bind fun x=>(asB x).bind fun k=>some (.bl (!k))
noncomputable def eIf (c:FT) (a b:FE):FE:=fun σ=>(c σ).bind fun k=>match k with
  | true=>a σ
  | false=>b σ
noncomputable def eTup (a:FA):FE:=fun σ=>(a σ).bind fun xs=>some (.tup xs)
noncomputable def eLst (a:FA):FE:=fun σ=>(a σ).bind fun xs=>some (.lst xs)
noncomputable def fAdd:D→D→Option D
  | .int i,.int j=>some (.int (i+j))
  | .int i,.bl b=>some (.int (i+(if b then 1 else 0)))
  | .str x,.str y=>if x.length+y.length≤LIM then some (.str (x++y)) else none
  | .lst x,.lst y=>if x.length+y.length≤LIM then some (.lst (x++y)) else none
  | .tup x,.tup y=>if x.isEmpty=false∧x.length+y.length≤LIM then some (.tup (x++y)) else none
  | _,_=>none
noncomputable def fI (C:Int→Int→Bool) (g:Int→Int→Int):D→D→Option D
  | .int i,.int j=>match C i j with
    | true=>some (.int (g i j))
    | false=>none
  | _,_=>none
noncomputable def fSub:D→D→Option D
  | .int i,.int j=>some (.int (i - j))
  | _,_=>none
noncomputable def lt64 (i:Int):Bool:=decide (-(2 ^ 64)<i)&&decide (i<2 ^ 64)
noncomputable def fMulL:D→D→Option D:=fI (fun i _=>lt64 i) (·*·)
noncomputable def fMulR:D→D→Option D:=fI (fun _ j=>lt64 j) (·*·)
noncomputable def fMod:D→D→Option D:=fI (fun _ j=>decide (0<j)) (· % ·)
noncomputable def fDiv:D→D→Option D:=fI (fun _ j=>decide (0<j)&&decide (j<2 ^ 64)) (· / ·)
noncomputable def powOk (i j:Int):Bool:=decide (0≤j)&&(decide (j≤1000000)&&decide (i.natAbs<2 ^ 64))
noncomputable def fPow:D→D→Option D:=fI powOk fun i j=>i ^ j.toNat
noncomputable def fShl:D→D→Option D:=fI powOk fun i j=>i*2 ^ j.toNat
noncomputable def fShr:D→D→Option D:=fI (fun _ j=>decide (0≤j)) fun i j=>i / 2 ^ j.toNat
noncomputable def fBit (g:Int→Int→Int):D→D→Option D
  | .int i,.int j=>some (.int (g i j))
  | _,_=>none
noncomputable def fNeg:D→Option D
  | .int i=>some (.int (-i))
  | _=>none
noncomputable def fCmp (g:Int→Int→Bool):D→D→Option D
  | .int i,.int j=>some (.bl (g i j))
  | _,_=>none
noncomputable def isNon:D→Bool
  | .non=>true
  | _=>false
noncomputable def fIsN:D→D→Option D
  | x,.non=>some (.bl (isNon x))
  | _,_=>none
noncomputable def fNotN:D→D→Option D
  | x,.non=>some (.bl (!isNon x))
  | _,_=>none
noncomputable def flatD:D→Bool
  | .non=>true
  | .bl _=>true
  | .int _=>true
  | .str _=>true
  | _=>false
noncomputable def cmpAll (f:D→D→Bool):List D→List D→Bool
  | x::xs,y::ys=>f x y&&cmpAll f xs ys
  | _,_=>true
noncomputable def cmpOk:Nat→D→D→Bool
  | 0,_,_=>false
  | n+1,x,y=>match x,y with
    | .tup xs,.tup ys=>cmpAll (cmpOk n) xs ys
    | .lst xs,.lst ys=>cmpAll (cmpOk n) xs ys
    | x,y=>flatD x&&flatD y
noncomputable def fEqB:D→D→Option Bool
  | .int _,.bl _=>none
  | .bl _,.int _=>none
  | x,y=>match cmpOk 6 x y with
    | true=>some (dEq x y)
    | false=>none
noncomputable def fEq (x y:D):Option D:=(fEqB x y).bind fun k=>some (.bl k)
noncomputable def fNe (x y:D):Option D:=(fEqB x y).bind fun k=>some (.bl (!k))
noncomputable def keyD:D→Option (Sum Int Str)
  | .int i=>some (.inl i)
  | .str x=>some (.inr x)
  | _=>none
noncomputable def getK {α:Type}:List (Sum Int Str)→List α→Sum Int Str→Option α
  | k'::ks,v::vs,k=>if k'=k then some v else getK ks vs k
  | _,_,_=>none
noncomputable def hasK (ks:List (Sum Int Str)) (k:Sum Int Str):Bool:=ks.any fun j=>decide (j=k)
noncomputable def putKs (ks:List (Sum Int Str)) (k:Sum Int Str):List (Sum Int Str):=if hasK ks k=true then ks else ks++[k]
noncomputable def putVs {α:Type} (ks:List (Sum Int Str)) (vs:List α) (k:Sum Int Str) (v:α):List α:=if hasK ks k=true then List.zipWith (fun k' x=>if k'=k then v else x) ks vs else vs++[v]
noncomputable def fInB (x:D):D→Option Bool
  | .lst ys=>match flatD x&&ys.all flatD with
    | true=>some (ys.any fun y=>dEq y x)
    | false=>none
  | .tup ys=>match flatD x&&ys.all flatD with
    | true=>some (ys.any fun y=>dEq y x)
    | false=>none
  | .str j=>match x with
    | .str i=>some (!(Builtin.Str.occurrences j i 0 j.length 1).isEmpty)
    | _=>none
  | .dic ks _=>(keyD x).bind fun k=>some (hasK ks k)
  | _=>none
noncomputable def fIn (x y:D):Option D:=(fInB x y).bind fun k=>some (.bl k)
noncomputable def fNotIn (x y:D):Option D:=(fInB x y).bind fun k=>some (.bl (!k))
noncomputable def atD {α:Type} (xs:List α) (i:Int):Option α:=if 0≤i then xs[i.toNat]? else if -(xs.length:Int)≤i then xs[(i+xs.length).toNat]? else none
noncomputable def fIx:D→D→Option D
  | .lst xs,.int i=>atD xs i
  | .tup xs,.int i=>atD xs i
  | .str z,.int i=>(atD z.cps.toList i).bind fun c=>some (.str ⟨#[c]⟩)
  | .dic ks vs,k=>(keyD k).bind fun k=>getK ks vs k
  | _,_=>none
noncomputable def fLen:List D→Option D
  | [.lst xs]=>some (.int xs.length)
  | [.tup xs]=>some (.int xs.length)
  | [.str z]=>some (.int z.length)
  | _=>none
noncomputable def fInt:List D→Option D
  | [.int i]=>some (.int i)
  | [.bl k]=>some (.int (if k then 1 else 0))
  | _=>none
inductive TyT where
  | int | bool | str | list | tuple
noncomputable def TyT.nm:TyT→String
  | .int => "int"
  | .bool => "bool"
  | .str => "str"
  | .list => "list"
  | .tuple => "tuple"
noncomputable def isTy:TyT→D→Option Bool
  | _,.dic _ _=>none
  | _,.exc _=>none
  | _,.obj _ _ _=>none
  | .int,.int _=>some true
  | .int,.bl _=>some true
  | .int,_=>some false
  | .bool,.bl _=>some true
  | .bool,_=>some false
  | .str,.str _=>some true
  | .str,_=>some false
  | .list,.lst _=>some true
  | .list,_=>some false
  | .tuple,.tup _=>some true
  | .tuple,_=>some false
noncomputable def eIsi (T:TyT) (a:FE):FE:=fun τ=>(a τ).bind fun d=>(isTy T d).bind fun b=>some (.bl b)
noncomputable def iSeq (a:FE):FA:=fun σ=>(a σ).bind fun d=>match d with
  | .lst xs=>some xs
  | .tup xs=>some xs
  | .str z=>some (z.cps.toList.map fun c=>.str ⟨#[c]⟩)
  | _=>none
noncomputable def iRange (lo hi:FE):FA:=fun σ=>(lo σ).bind fun x=>(hi σ).bind fun y=>match x,y with
  | .int i,.int j=>if i.natAbs≤LIM∧j.natAbs≤LIM∧(j - i).toNat≤LIM then some ((List.range (j - i).toNat).map fun k:Nat=>.int (i+k)) else none
  | _,_=>none
noncomputable def gVar (i:Nat):FG:=fun d σ=>some (σ.set i (some (false,d)))
noncomputable def gTwo (i j:Nat):FG:=fun d σ=>match d with
  | .tup [x,y]=>some ((σ.set i (some (false,x))).set j (some (false,y)))
  | _=>none
noncomputable def sNext:FS:=fun σ=>some (.nx σ)
noncomputable def sSeq (a b:FS):FS:=fun σ=>(a σ).bind fun f=>match f with
  | .nx σ'=>b σ'
  | f=>some f
noncomputable def sSet (i:Nat) (e:FE):FS:=fun σ=>(e σ).bind fun d=>some (.nx (σ.set i (some (false,d))))
noncomputable def sSetO (i:Nat) (e:FE):FS:=fun σ=>(e σ).bind fun d=>some (.nx (σ.set i (some (true,d))))
noncomputable def sRet (e:FE):FS:=fun σ=>(e σ).bind fun d=>some (.rt false d)
noncomputable def sRetO (e:FE):FS:=fun σ=>(e σ).bind fun d=>some (.rt true d)
noncomputable def sRetV (i:Nat):FS:=fun σ=>match σ[i]? with
  | some (some (true,d))=>some (.rt true d)
  | _=>none
noncomputable def sIf (c:FT) (a b:FS):FS:=fun σ=>(c σ).bind fun k=>match k with
  | true=>a σ
  | false=>b σ
noncomputable def loopG (g:FG) (b:FS):List D→SEnv→Option Fl
  | [],σ=>some (.nx σ)
  | d::r,σ=>(g d σ).bind fun σ1=>(b σ1).bind fun f=>match f with
    | .nx σ2=>loopG g b r σ2
    | .ct σ2=>loopG g b r σ2
    | .bk σ2=>some (.nx σ2)
    | .rt o d=>some (.rt o d)
noncomputable def sFor (it:FA) (g:FG) (b:FS):FS:=fun σ=>(it σ).bind fun ds=>loopG g b ds σ
noncomputable def sFreeze (i:Nat):FS:=fun σ=>match σ[i]? with
  | some (some (_,d))=>some (.nx (σ.set i (some (false,d))))
  | _=>none
noncomputable def sMut (i:Nat) (F:D→Option D):FS:=fun σ=>match σ[i]? with
  | some (some (true,d))=>(F d).bind fun d'=>some (.nx (σ.set i (some (true,d'))))
  | _=>none
noncomputable def sMut1 (i:Nat) (F:D→D→Option D) (e:FE):FS:=fun σ=>match σ[i]? with
  | some (some (true,d))=>(e σ).bind fun x=>(F d x).bind fun d'=>some (.nx (σ.set i (some (true,d'))))
  | _=>none
noncomputable def fApp:D→D→Option D
  | .lst xs,y=>if xs.length<LIM then some (.lst (xs++[y])) else none
  | _,_=>none
noncomputable def sPut (i:Nat) (k v:FE):FS:=fun σ=>(v σ).bind fun y=>match σ[i]? with
  | some (some (true,.dic ks ds))=>(k σ).bind fun x=>(keyD x).bind fun x=>if ks.length<LIM then some (.nx (σ.set i (some (true,.dic (putKs ks x) (putVs ks ds x y))))) else none
  | _=>none
noncomputable def fGd (ks:List (Sum Int Str)) (ds:List D) (x:D):Option D:=(keyD x).bind fun k=>getK ks ds k
noncomputable def fGnin (ks:List (Sum Int Str)) (x:D):Option D:=(keyD x).bind fun k=>some (.bl (!hasK ks k))
noncomputable def eDisp (ks:List Str) (vs:FA):FE:=fun σ=>(vs σ).bind fun ds=>if ks.length=ds.length then some (.dic (ks.map .inr) ds) else none
noncomputable def lcGo (g:FG) (c:FT) (e:FE) (σ:SEnv):List D→Option (List D)
  | []=>some []
  | d::r=>(g d σ).bind fun σ1=>(c σ1).bind fun k=>match k with
    | true=>(e σ1).bind fun x=>(lcGo g c e σ r).bind fun xs=>some (x::xs)
    | false=>lcGo g c e σ r
noncomputable def tTrue:FT:=fun _=>some true
noncomputable def eLc (n:Nat) (it:FA) (g:FG) (c:FT) (e:FE):FE:=fun σ=>(it σ).bind fun ds=>(lcGo g c e (σ++List.replicate n none) ds).bind fun xs=>some (.lst xs)
noncomputable def runF (n:Nat) (b:FS) (ds:List D):Option (Bool×D):=(b (ds.map (fun d=>some (false,d))++List.replicate (n - ds.length) none)).bind fun f=>match f with
  | .rt o d=>some (o,d)
  | .nx _=>some (false,.non)
  | _=>none
noncomputable def eCall (F:List D→Option (Bool×D)) (a:FA):FE:=fun σ=>(a σ).bind fun ds=>(F ds).bind fun r=>some r.2
noncomputable def eCallO (F:List D→Option (Bool×D)) (a:FA):FE:=fun σ=>(a σ).bind fun ds=>(F ds).bind fun r=>match r with
  | (true,d)=>some d
  | _=>none
noncomputable def eCallB (F:List D→Option (Bool×D)) (a:FA):FE:=fun σ=>(eCall F a σ).bind fun d=>if flatD d=true then some d else none
end L3
namespace L3
open PySem PySem.Spec PyProof.Rows L2
noncomputable abbrev St:=L2.St
noncomputable def SqD (_:PySem.W.Frag) (H:Hp) (a:Addr) (kvs:List (Key×V)):Prop:=Rd H a (.dK kvs)
mutual
noncomputable def Rep (K:PySem.W.Frag) (H:Hp):D→V→Prop
  | .non,v=>v=.non
  | .bl b,v=>v=.bl b
  | .int i,v=>v=.int i
  | .str x,v=>v=.str x∧x.length≤sizeLine
  | .tup ds,v=>∃ a vs,v=.ref a∧SqT K H a vs∧Reps K H ds vs∧ds.length≤sizeLine
  | .lst ds,v=>∃ a vs,v=.ref a∧SqL K H a vs∧Reps K H ds vs∧ds.length≤sizeLine
  | .dic ks ds,v=>∃ a vs,v=.ref a∧SqD K H a (ks.zip vs)∧ks.length=vs.length∧Reps K H ds vs∧ds.length≤sizeLine
  | .exc x,v=>∃ a C,v=.ref a∧PySem.W.nsIn K mainGlobals x=some (some (.ref C))∧H a=some (.ext (ExcO a C))
  | .obj x fs ds,v=>∃ a C dx vs,v=.ref a∧PySem.W.nsIn K mainGlobals x=some (some (.ref C))∧H a=some (.ins C dx (fs.zip vs))∧fs.length=vs.length∧Reps K H ds vs
noncomputable def Reps (K:PySem.W.Frag) (H:Hp):List D→List V→Prop
  | [],vs=>vs=[]
  | d::ds,vs=>∃ v r,vs=v::r∧Rep K H d v∧Reps K H ds r
end
section
variable {K:PySem.W.Frag} {G H H':Hp}
theorem Rd.mono {a:Addr} {u:HO} (s:Same H H') (h:Rd H a u):Rd H' a u:=by
  rcases h with h | ⟨o,h⟩
  · exact .inl (s _ _ h)
  · exact .inr ⟨o,s _ _ h⟩
theorem sqT_mono {a:Addr} {xs:List V} (s:Same H H') (h:SqT K H a xs):SqT K H' a xs:=by
  rcases h with h | h
  · exact .inl (Rd.mono s h)
  · exact .inr h
theorem sqL_mono {a:Addr} {xs:List V} (s:Same H H') (h:SqL K H a xs):SqL K H' a xs:=by
  rcases h with h | h
  · exact .inl (Rd.mono s h)
  · exact .inr h
theorem Reps.imp:∀ {ds:List D} {vs:List V},(∀ d∈ds,∀ v,Rep K H d v→Rep K H' d v)→Reps K H ds vs→Reps K H' ds vs
  | [],_,_,h=>h
  | d::ds,vs,f,h=>by
    obtain ⟨v,r,rfl,hv,hr⟩:=h
    exact ⟨v,r,rfl,f d List.mem_cons_self v hv,Reps.imp (fun d' m=>f d' (List.mem_cons_of_mem _ m)) hr⟩
theorem Rep.mono (s:Same H H'):∀ {d:D} {v:V},Rep K H d v→Rep K H' d v:=fun {d}=>by
  refine D.ind (P:=fun d=>∀ v,Rep K H d v→Rep K H' d v) (fun v h=>h) (fun b v h=>h) (fun i v h=>h) (fun x v h=>h) ?_ ?_ ?_ ?_ ?_ d _
  · rintro xs ih v ⟨a,vs,e,q,r,l⟩
    exact ⟨a,vs,e,sqT_mono s q,Reps.imp ih r,l⟩
  · rintro xs ih v ⟨a,vs,e,q,r,l⟩
    exact ⟨a,vs,e,sqL_mono s q,Reps.imp ih r,l⟩
  · rintro ks xs ih v ⟨a,vs,e,q,z,r,l⟩
    exact ⟨a,vs,e,Rd.mono s q,z,Reps.imp ih r,l⟩
  · rintro x v ⟨a,C,e,n,h⟩
    exact ⟨a,C,e,n,s _ _ h⟩
  · rintro x fs xs ih v ⟨a,C,dx,vs,e,n,h,l,r⟩
    exact ⟨a,C,dx,vs,e,n,s _ _ h,l,Reps.imp ih r⟩
theorem Reps.mono (s:Same H H') {ds:List D} {vs:List V} (h:Reps K H ds vs):Reps K H' ds vs:=Reps.imp (fun _ _ _=>Rep.mono s) h
theorem Reps.length:∀ {ds:List D} {vs:List V},Reps K H ds vs→vs.length=ds.length
  | [],_,h=>by cases (show _=[] from h); rfl
  | d::ds,_,h=>by
    obtain ⟨v,r,rfl,_,hr⟩:=h
    rw [List.length_cons,List.length_cons,Reps.length hr]
theorem Reps.get:∀ {ds:List D} {vs:List V} {i:Nat} {d:D},Reps K H ds vs→ds[i]?=some d→∃ v,vs[i]?=some v∧Rep K H d v
  | [],_,_,_,_,e=>by cases e
  | d::ds,_,0,_,h,e=>by
    obtain ⟨v,r,rfl,hv,hr⟩:=h
    cases e
    exact ⟨v,rfl,hv⟩
  | d::ds,_,i+1,d',h,e=>by
    obtain ⟨v,r,rfl,hv,hr⟩:=h
    exact Reps.get (i:=i) hr (by simpa using e)
theorem Reps.at {ds:List D} {vs:List V} {i:Nat} {v:V} (h:Reps K H ds vs) (e:vs[i]?=some v):∃ d,ds[i]?=some d∧Rep K H d v:=by
  have l:=h.length
  have hi:i<ds.length:=by rw [← l]; exact (List.getElem?_eq_some_iff.mp e).1
  obtain ⟨v',e',r⟩:=h.get (List.getElem?_eq_getElem hi)
  rw [e] at e'
  cases e'
  exact ⟨_,List.getElem?_eq_getElem hi,r⟩
theorem Reps.append:∀ {ds es:List D} {vs us:List V},Reps K H ds vs→Reps K H es us→Reps K H (ds++es) (vs++us)
  | [],_,_,_,h,g=>by cases (show _=[] from h); exact g
  | d::ds,_,_,_,h,g=>by
    obtain ⟨v,r,rfl,hv,hr⟩:=h
    exact ⟨v,_,rfl,hv,Reps.append hr g⟩
theorem Reps.one {d:D} {v:V} (h:Rep K H d v):Reps K H [d] [v]:=⟨v,[],rfl,h,rfl⟩
theorem Reps.take:∀ {ds:List D} {vs:List V} (n:Nat),Reps K H ds vs→Reps K H (ds.take n) (vs.take n)
  | _,_,0,_=>by rw [List.take_zero,List.take_zero]; rfl
  | [],_,n+1,h=>by cases (show _=[] from h); rfl
  | d::ds,_,n+1,h=>by
    obtain ⟨v,r,rfl,hv,hr⟩:=h
    exact ⟨v,_,rfl,hv,Reps.take n hr⟩
theorem Reps.drop:∀ {ds:List D} {vs:List V} (n:Nat),Reps K H ds vs→Reps K H (ds.drop n) (vs.drop n)
  | _,_,0,h=>h
  | [],_,n+1,h=>by cases (show _=[] from h); rfl
  | d::ds,_,n+1,h=>by
    obtain ⟨v,r,rfl,hv,hr⟩:=h
    exact Reps.drop n hr
theorem Reps.ints:∀ {ns:List Int},Reps K H (ns.map D.int) (ns.map V.int)
  | []=>rfl
  | n::ns=>⟨_,_,rfl,rfl,Reps.ints⟩
end
structure Ext (G H G' H':Hp):Prop where
  g:Same G G'
  h:Same H H'
  gh:Same G' H'
  new:∀ p,G' p≠none→G p≠none∨H p=none
section
variable {G H G' H' G0 H0 G1 H1 G2 H2:Hp} {p:Addr} {o:HO}
theorem Ext.refl (s:Same G H):Ext G H G H:=⟨Same.refl _,Same.refl _,s,fun _ h=>.inl h⟩
theorem Ext.trans (a:Ext G H G1 H1) (b:Ext G1 H1 G2 H2):Ext G H G2 H2:=⟨a.g.trans b.g,a.h.trans b.h,b.gh,fun p h=>by
  rcases b.new p h with z | z
  · exact a.new p z
  · exact .inr (a.h.free z)⟩
theorem Ext.rebase (a:Ext G0 H0 G1 H1) (b:Ext G1 H0 G2 H2):Ext G0 H0 G2 H2:=⟨a.g.trans b.g,b.h,b.gh,fun p h=>by
  rcases b.new p h with z | z
  · exact a.new p z
  · exact .inr z⟩
theorem Ext.far (a:Ext G0 H0 G1 H1):Ext G1 H0 G1 H1:=⟨Same.refl _,a.h,a.gh,fun _ h=>.inl h⟩
theorem upd_some {H:Hp} {p q:Addr} {o:HO} (h:upd H p o q≠none):q=p∨H q≠none:=by
  by_cases e:q=p
  · exact .inl e
  · rw [upd_ne e] at h
    exact .inr h
theorem same_upd2 (s:Same G H):Same (upd G p o) (upd H p o):=fun b u e=>by
  by_cases hb:b=p
  · subst hb
    rw [upd_same] at e ⊢
    exact e
  · rw [upd_ne hb] at e ⊢
    exact s _ _ e
theorem Ext.lay (s:Same G H) (h:H p=none):Ext G H (upd G p o) (upd H p o):=⟨same_new (s.free h) o,same_new h o,same_upd2 s,fun q z=>by
  rcases upd_some z with e | e
  · exact .inr (e ▸ h)
  · exact .inl e⟩
theorem Ext.layO (s:Same G H) (h:H p=none):Ext G H G (upd H p o):=⟨Same.refl _,same_new h o,s.trans (same_new h o),fun _ z=>.inl z⟩
theorem Ext.frz (a:Ext G H G1 H1) (h:H p=none) (g:G1 p=none) (e:H1 p=some o):Ext G H (upd G1 p o) H1:=⟨a.g.trans (same_new g o),a.h,fun b u q=>by
  by_cases hb:b=p
  · subst hb
    rw [upd_same] at q
    cases q
    exact e
  · rw [upd_ne hb] at q
    exact a.gh _ _ q,fun q z=>by
  rcases upd_some z with w | w
  · exact .inr (w ▸ h)
  · exact a.new q w⟩
end
noncomputable def OwnAt (K:PySem.W.Frag) (G H:Hp) (d:D) (p:Addr):Prop:=match d with
  | .lst ds=>∃ vs,H p=some (.lst vs)∧Reps K G ds vs∧ds.length≤sizeLine
  | .dic ks ds=>∃ vs,H p=some (.dK (ks.zip vs))∧ks.length=vs.length∧Reps K G ds vs∧ds.length≤sizeLine
  | _=>False
section
variable {K:PySem.W.Frag} {G H G' H':Hp} {d:D} {p:Addr}
theorem OwnAt.some (h:OwnAt K G H d p):H p≠none:=by
  cases d with
  | lst ds=>obtain ⟨vs,e,_⟩:=h; rw [e]; exact fun z=>nomatch z
  | dic ks ds=>obtain ⟨vs,e,_⟩:=h; rw [e]; exact fun z=>nomatch z
  | _=>exact h.elim
theorem OwnAt.mono (g:Same G G') (h:Same H H') (o:OwnAt K G H d p):OwnAt K G' H' d p:=by
  cases d with
  | lst ds=>obtain ⟨vs,e,r,l⟩:=o; exact ⟨vs,h _ _ e,r.mono g,l⟩
  | dic ks ds=>obtain ⟨vs,e,z,r,l⟩:=o; exact ⟨vs,h _ _ e,z,r.mono g,l⟩
  | _=>exact o.elim
theorem OwnAt.rep (s:Same G H) (o:OwnAt K G H d p):Rep K H d (.ref p):=by
  cases d with
  | lst ds=>obtain ⟨vs,e,r,l⟩:=o; exact ⟨p,vs,rfl,SqL.of e,r.mono s,l⟩
  | dic ks ds=>obtain ⟨vs,e,z,r,l⟩:=o; exact ⟨p,vs,rfl,.inl e,z,r.mono s,l⟩
  | _=>exact o.elim
theorem OwnAt.frz (o:OwnAt K G H d p) (g:G p=none):∃ u,H p=Option.some u∧Rep K (upd G p u) d (.ref p):=by
  cases d with
  | lst ds=>obtain ⟨vs,e,r,l⟩:=o; exact ⟨_,e,p,vs,rfl,SqL.of upd_same,r.mono (same_new g _),l⟩
  | dic ks ds=>obtain ⟨vs,e,z,r,l⟩:=o; exact ⟨_,e,p,vs,rfl,.inl upd_same,z,r.mono (same_new g _),l⟩
  | _=>exact o.elim
end
structure EnvOk (K:PySem.W.Frag) (n:Nat) (G0 H0 G H:Hp) (τ:SEnv) (σ:St):Prop where
  ext:Ext G0 H0 G H
  l1:σ.length=n
  l2:τ.length=n
  fr:∀ (i:Nat) (d:D),τ[i]?=some (some (false,d))→∃ v,σ[i]?=some (some v)∧Rep K G d v
  ow:∀ (i:Nat) (d:D),τ[i]?=some (some (true,d))→∃ p,σ[i]?=some (some (V.ref p))∧G p=none∧H0 p=none∧OwnAt K G H d p
  ap:∀ (i j:Nat) (d e:D) (p:Addr),i≠j→τ[i]?=some (some (true,d))→τ[j]?=some (some (true,e))→σ[i]?=some (some (V.ref p))→σ[j]?=some (some (V.ref p))→False
section
variable {K:PySem.W.Frag} {n:Nat} {G0 H0 G H G' H':Hp} {τ:SEnv} {σ:St}
theorem EnvOk.go (E:EnvOk K n G0 H0 G H τ σ) (x:Ext G H G' H'):EnvOk K n G0 H0 G' H' τ σ:=⟨E.ext.trans x,E.l1,E.l2,fun i d h=>by
  obtain ⟨v,e,r⟩:=E.fr i d h
  exact ⟨v,e,r.mono x.g⟩,fun i d h=>by
  obtain ⟨p,e,g,z,o⟩:=E.ow i d h
  refine ⟨p,e,?_,z,o.mono x.g x.h⟩
  cases q:G' p with
  | none=>rfl
  | some u=>
    rcases x.new p (by rw [q]; exact fun z=>nomatch z) with w | w
    · exact absurd g w
    · exact absurd w o.some,E.ap⟩
theorem EnvOk.far (E:EnvOk K n G0 H0 G H τ σ):EnvOk K n G H0 G H τ σ:=⟨E.ext.far,E.l1,E.l2,E.fr,E.ow,E.ap⟩
theorem EnvOk.near {Ga Ha:Hp} (a:Ext G0 H0 Ga Ha) (E:EnvOk K n Ga H0 G H τ σ):EnvOk K n G0 H0 G H τ σ:=⟨a.rebase E.ext,E.l1,E.l2,E.fr,E.ow,E.ap⟩
theorem EnvOk.lt {i:Nat} {s:Option Sl} (E:EnvOk K n G0 H0 G H τ σ) (h:τ[i]?=some s):i<n:=by
  rw [← E.l2]
  exact (List.getElem?_eq_some_iff.mp h).1
theorem set_get {α:Type} {xs:List α} {i j:Nat} {x y:α} (h:(xs.set i x)[j]?=some y):(j=i∧y=x)∨(j≠i∧xs[j]?=some y):=by
  rw [List.getElem?_set] at h
  by_cases e:i=j
  · subst e
    rw [if_pos rfl] at h
    split at h
    · cases h; exact .inl ⟨rfl,rfl⟩
    · cases h
  · rw [if_neg e] at h
    exact .inr ⟨fun z=>e z.symm,h⟩
theorem get_set_same {α:Type} {xs:List α} {i:Nat} {x:α} (h:i<xs.length):(xs.set i x)[i]?=some x:=by rw [List.getElem?_set,if_pos rfl,if_pos h]
theorem get_set_ne {α:Type} {xs:List α} {i j:Nat} {x:α} (h:j≠i):(xs.set i x)[j]?=xs[j]?:=by rw [List.getElem?_set,if_neg (fun z=>h z.symm)]
theorem EnvOk.set {i:Nat} {d:D} {v:V} (E:EnvOk K n G0 H0 G H τ σ) (hi:i<n) (r:Rep K G d v):EnvOk K n G0 H0 G H (τ.set i (some (false,d))) (σ.set i (some v)):=⟨E.ext,by rw [List.length_set]; exact E.l1,by rw [List.length_set]; exact E.l2,fun j e h=>by
  rcases set_get h with ⟨rfl,z⟩ | ⟨ne,z⟩
  · cases z
    exact ⟨v,get_set_same (by rw [E.l1]; exact hi),r⟩
  · rw [get_set_ne ne]
    exact E.fr j e z,fun j e h=>by
  rcases set_get h with ⟨rfl,z⟩ | ⟨ne,z⟩
  · cases z
  · rw [get_set_ne ne]
    exact E.ow j e z,fun j k e f p hne h1 h2=>by
  rcases set_get h1 with ⟨rfl,z⟩ | ⟨ne,z⟩
  · cases z
  · rcases set_get h2 with ⟨rfl,z'⟩ | ⟨ne',z'⟩
    · cases z'
    · rw [get_set_ne ne,get_set_ne ne']
      exact E.ap j k e f p hne z z'⟩
theorem EnvOk.setO {i:Nat} {d:D} {p:Addr} (E:EnvOk K n G0 H0 G H τ σ) (hi:i<n) (hg:G p=none) (h0:H0 p=none) (o:OwnAt K G H d p) (hn:∀ (j:Nat) (e:D),j≠i→τ[j]?=some (some (true,e))→σ[j]?=some (some (V.ref p))→False) :
    EnvOk K n G0 H0 G H (τ.set i (some (true,d))) (σ.set i (some (.ref p))):=⟨E.ext,by rw [List.length_set]; exact E.l1,by rw [List.length_set]; exact E.l2,fun j e h=>by
  rcases set_get h with ⟨rfl,z⟩ | ⟨ne,z⟩
  · cases z
  · rw [get_set_ne ne]
    exact E.fr j e z,fun j e h=>by
  rcases set_get h with ⟨rfl,z⟩ | ⟨ne,z⟩
  · cases z
    exact ⟨p,get_set_same (by rw [E.l1]; exact hi),hg,h0,o⟩
  · rw [get_set_ne ne]
    exact E.ow j e z,fun j k e f q hne h1 h2 h3 h4=>by
  rcases set_get h1 with ⟨rfl,z⟩ | ⟨ne,z⟩
  · rcases set_get h2 with ⟨rfl,z'⟩ | ⟨ne',z'⟩
    · exact hne rfl
    · rw [get_set_same (by rw [E.l1]; exact hi)] at h3
      rw [get_set_ne ne'] at h4
      cases h3
      exact hn k f ne' z' h4
  · rcases set_get h2 with ⟨rfl,z'⟩ | ⟨ne',z'⟩
    · rw [get_set_same (by rw [E.l1]; exact hi)] at h4
      rw [get_set_ne ne] at h3
      cases h4
      exact hn j e ne z h3
    · rw [get_set_ne ne] at h3
      rw [get_set_ne ne'] at h4
      exact E.ap j k e f q hne z z' h3 h4⟩
theorem EnvOk.newO {i:Nat} {p:Addr} (E:EnvOk K n G0 H0 G H τ σ) (hp:H p=none):∀ (j:Nat) (e:D),j≠i→τ[j]?=some (some (true,e))→σ[j]?=some (some (V.ref p))→False:=fun j e _ h1 h2=>by
  obtain ⟨q,e1,_,_,o⟩:=E.ow j e h1
  rw [h2] at e1
  cases e1
  exact o.some hp
theorem EnvOk.freeze {i:Nat} {b:Bool} {d:D} (E:EnvOk K n G0 H0 G H τ σ) (hi:τ[i]?=some (some (b,d))):∃ G',EnvOk K n G0 H0 G' H (τ.set i (some (false,d))) σ∧Same G G':=by
  have hin:=E.lt hi
  cases b with
  | false=>
    refine ⟨G,?_,Same.refl _⟩
    have e:τ.set i (some (false,d))=τ:=by
      apply List.ext_getElem?
      intro j
      by_cases hj:j=i
      · subst hj; rw [get_set_same (by rw [E.l2]; exact hin),hi]
      · rw [get_set_ne hj]
    rw [e]
    exact E
  | true=>
    obtain ⟨p,e,g,z,o⟩:=E.ow i d hi
    obtain ⟨u,hu,r⟩:=o.frz g
    have x:Ext G0 H0 (upd G p u) H:=E.ext.frz z g hu
    refine ⟨upd G p u,⟨x,E.l1,by rw [List.length_set]; exact E.l2,fun j d' h=>?_,fun j d' h=>?_,fun j k e1 f q hne h1 h2=>?_⟩,same_new g _⟩
    · rcases set_get h with ⟨rfl,w⟩ | ⟨ne,w⟩
      · cases w
        exact ⟨_,e,r⟩
      · obtain ⟨v,e',r'⟩:=E.fr j d' w
        exact ⟨v,e',r'.mono (same_new g _)⟩
    · rcases set_get h with ⟨rfl,w⟩ | ⟨ne,w⟩
      · cases w
      · obtain ⟨q,e',g',z',o'⟩:=E.ow j d' w
        refine ⟨q,e',?_,z',o'.mono (same_new g _) (Same.refl _)⟩
        rw [upd_ne (fun c=>?_)]
        · exact g'
        · subst c
          exact E.ap i j d d' q (fun c=>ne c.symm) hi w e e'
    · rcases set_get h1 with ⟨rfl,w⟩ | ⟨ne,w⟩
      · cases w
      · rcases set_get h2 with ⟨rfl,w'⟩ | ⟨ne',w'⟩
        · cases w'
        · exact E.ap j k e1 f q hne w w'
end
section
variable (X:Cx)
structure SE (e:Expr) (f:FE):Prop where
  h:∃ t,PE X e t∧∀ {G0 H0 G H:Hp} {τ:SEnv} {σ:St} {d:D} {Q:VK},EnvOk X.K X.N.length G0 H0 G H τ σ→f τ=some d→(∀ v G' H',Ext G H G' H'→Rep X.K G' d v→Q v H')→t σ H Q
structure SB (e:Expr) (f:FE):Prop where
  h:∃ t,PE X e t∧∀ {G0 H0 G H:Hp} {τ:SEnv} {σ:St} {d:D} {Q:VK},EnvOk X.K X.N.length G0 H0 G H τ σ→f τ=some d→(∀ v G' H',Ext G H G' H'→Rep X.K H' d v→Q v H')→t σ H Q
structure SF (e:Expr) (f:FE):Prop where
  h:∃ t,PE X e t∧∀ {G0 H0 G H:Hp} {τ:SEnv} {σ:St} {d:D} {Q:VK},EnvOk X.K X.N.length G0 H0 G H τ σ→f τ=some d→(∀ p G' H',Ext G H G' H'→H p=none→G' p=none→OwnAt X.K G' H' d p→Q (.ref p) H')→t σ H Q
structure ST (e:Expr) (f:FT):Prop where
  h:∃ t,PT X e t∧∀ {G0 H0 G H:Hp} {τ:SEnv} {σ:St} {d:Bool} {Q:Bool→Hp→Prop},EnvOk X.K X.N.length G0 H0 G H τ σ→f τ=some d→(∀ G' H',Ext G H G' H'→Q d H')→t σ H Q
structure SW (e:Expr) (f:FT):Prop where
  h:∃ t,PW X e t∧∀ {G0 H0 G H:Hp} {τ:SEnv} {σ:St} {d:Bool} {Q:Bool→Hp→Prop},EnvOk X.K X.N.length G0 H0 G H τ σ→f τ=some d→(∀ G' H',Ext G H G' H'→Q d H')→t σ H Q
structure SA (es:List Expr) (f:FA):Prop where
  h:∃ t,PA X es t∧∀ {G0 H0 G H:Hp} {τ:SEnv} {σ:St} {ds:List D} {Q:List V→Hp→Prop},EnvOk X.K X.N.length G0 H0 G H τ σ→f τ=some ds→(∀ vs G' H',Ext G H G' H'→Reps X.K G' ds vs→Q vs H')→t σ H Q
structure SAB (es:List Expr) (f:FA):Prop where
  h:∃ t,PA X es t∧∀ {G0 H0 G H:Hp} {τ:SEnv} {σ:St} {ds:List D} {Q:List V→Hp→Prop},EnvOk X.K X.N.length G0 H0 G H τ σ→f τ=some ds→(∀ vs G' H',Ext G H G' H'→Reps X.K H' ds vs→Q vs H')→t σ H Q
end
noncomputable def FlOk (K:PySem.W.Frag) (n:Nat) (G0 H0:Hp) (E:Ends):Fl→Prop
  | .nx τ=>∀ σ G H,EnvOk K n G0 H0 G H τ σ→E.nx σ H
  | .bk τ=>∀ σ G H,EnvOk K n G0 H0 G H τ σ→E.bk σ H
  | .ct τ=>∀ σ G H,EnvOk K n G0 H0 G H τ σ→E.ct σ H
  | .rt false d=>∀ v G H,Ext G0 H0 G H→Rep K G d v→E.rt v H
  | .rt true d=>∀ p G H,Ext G0 H0 G H→H0 p=none→G p=none→OwnAt K G H d p→E.rt (.ref p) H
section
variable (X:Cx)
structure SS (st:Stmt) (f:FS):Prop where
  h:∃ t,PS X st t∧∀ {G0 H0 G H:Hp} {τ:SEnv} {σ:St} {fl:Fl} {E:Ends},EnvOk X.K X.N.length G0 H0 G H τ σ→f τ=some fl→FlOk X.K X.N.length G0 H0 E fl→t E σ H
structure SSs (st:List Stmt) (f:FS):Prop where
  h:∃ t,PSs X st t∧∀ {G0 H0 G H:Hp} {τ:SEnv} {σ:St} {fl:Fl} {E:Ends},EnvOk X.K X.N.length G0 H0 G H τ σ→f τ=some fl→FlOk X.K X.N.length G0 H0 E fl→t E σ H
end
structure Walk (K:PySem.W.Frag) (J:It) (G:Hp) (ds:List D):Prop where
  go:∀ i G2 H,Same G G2→Same G2 H→i<ds.length→J.go i H
  yld:∀ i G2 H x H',Same G G2→Same G2 H→i<ds.length→J.yld i H x H'→∃ G3 d,Ext G2 H G3 H'∧ds[i]?=some d∧Rep K G3 d x
  stop:∀ i G2 H,Same G G2→Same G2 H→ds.length≤i→J.stop i H
structure SI (X:Cx) (tg iter:Expr) (f:FA):Prop where
  h:∃ wi,PI X tg iter wi∧∀ {G0 H0 G H:Hp} {τ:SEnv} {σ:St} {ds:List D} {R:It→Hp→Prop},EnvOk X.K X.N.length G0 H0 G H τ σ→f τ=some ds→(∀ J G' H',Ext G H G' H'→ds.length≤sizeLine→Walk X.K J G' ds→R J H')→wi σ H R
noncomputable def spF (K:PySem.W.Frag) (F:List D→Option (Bool×D)):Sp:=fun vs H Q _=>∃ G ds o d,Same G H∧Reps K G ds vs∧F ds=some (o,d)∧
  match o with
  | false=>∀ v G' H',Ext G H G' H'→Rep K G' d v→Q v H'
  | true=>∀ p G' H',Ext G H G' H'→H p=none→G' p=none→OwnAt K G' H' d p→Q (.ref p) H'
end L3
namespace L3
open PySem PySem.Spec PyProof.Rows L2
theorem bindE {α β:Type} {o:Option α} {f:α→Option β} {b:β} (h:o.bind f=some b):∃ a,o=some a∧f a=some b:=by
  cases o with
  | none=>cases h
  | some a=>exact ⟨a,rfl,h⟩
theorem eVar_at {i:Nat} {τ:SEnv} {d:D} (h:eVar i τ=some d):τ[i]?=some (some (false,d)):=by
  unfold eVar at h
  split at h
  · rename_i e
    cases h
    exact e
  · cases h
theorem eAny_at {i:Nat} {τ:SEnv} {d:D} (h:eAny i τ=some d):∃ b,τ[i]?=some (some (b,d)):=by
  unfold eAny at h
  split at h
  · rename_i b d' e
    cases h
    exact ⟨_,e⟩
  · cases h
section
variable {X:Cx} {x:Str} {p pos apos cpos p2:Pos} {e a b c o:Expr} {es rest:List Expr} {f fa fb fc:FE} {ft fu:FT} {fs:FA} {F:D→D→Option D} {r:R2}
theorem SE.sb (h:SE X e f):SB X e f:=⟨let ⟨t,p,k⟩:=h.h; ⟨t,p,fun E hf q=>k E hf fun v G' H' x r=>q v G' H' x (r.mono x.gh)⟩⟩
theorem SF.se (h:SF X e f):SE X e f:=⟨let ⟨t,p,k⟩:=h.h; ⟨t,p,fun E hf q=>k E hf fun p G' H' x hp gp o=>by
  obtain ⟨u,hu,r⟩:=o.frz gp
  exact q _ _ _ (x.frz hp gp hu) r⟩⟩
theorem sb_of (h:SE X e f):SB X e f:=h.sb
theorem se_of (h:SF X e f):SE X e f:=h.se
theorem se_var (i:Nat) {x:Str} {pos:Pos} (hN:X.N[i]?=some x:=by rfl) (hv:Vis X.env.scope x:=by first | exact Or.inl rfl | exact Or.inr (Or.inl rfl) | exact Or.inr (Or.inr rfl)) (hd:(x == ("__debug__" : Str))=false:=by decide)
    (hcd:(x == ("__classdict__" : Str))=false:=by decide):SE X (.Name x pos) (eVar i):=⟨⟨_,pe_var hN hv hd hcd,fun E hf q=>by
  obtain ⟨v,e,r⟩:=E.fr _ _ (eVar_at hf)
  exact ⟨v,e,q v _ _ (Ext.refl E.ext.gh) r⟩⟩⟩
theorem sb_var (i:Nat) {x:Str} {pos:Pos} (hN:X.N[i]?=some x:=by rfl) (hv:Vis X.env.scope x:=by first | exact Or.inl rfl | exact Or.inr (Or.inl rfl) | exact Or.inr (Or.inr rfl)) (hd:(x == ("__debug__" : Str))=false:=by decide)
    (hcd:(x == ("__classdict__" : Str))=false:=by decide):SB X (.Name x pos) (eAny i):=⟨⟨_,pe_var hN hv hd hcd,fun E hf q=>by
  obtain ⟨b,hb⟩:=eAny_at hf
  cases b with
  | false=>
    obtain ⟨v,e,r⟩:=E.fr _ _ hb
    exact ⟨v,e,q v _ _ (Ext.refl E.ext.gh) (r.mono E.ext.gh)⟩
  | true=>
    obtain ⟨p,e,_,_,o⟩:=E.ow _ _ hb
    exact ⟨_,e,q _ _ _ (Ext.refl E.ext.gh) (o.rep E.ext.gh)⟩⟩⟩
theorem se_c {v:V} {d:D} (h:PE X e (tC v)) (r:∀ H,Rep X.K H d v):SE X e (eC d):=⟨⟨_,h,fun E hf q=>by
  cases hf
  exact q v _ _ (Ext.refl E.ext.gh) (r _)⟩⟩
theorem se_int {i k pos}:SE X (.Constant (.int i) k pos) (eC (.int i)):=se_c pe_int fun _=>rfl
theorem se_bl {i k pos}:SE X (.Constant (.bool i) k pos) (eC (.bl i)):=se_c pe_bl fun _=>rfl
theorem se_non {k pos}:SE X (.Constant .none k pos) (eC .non):=se_c pe_non fun _=>rfl
theorem se_str {x k pos} (h:x.length≤1000:=by decide):SE X (.Constant (.str x) k pos) (eC (.str x)):=se_c pe_str fun _=>⟨rfl,small h⟩
theorem se_gl {v:V} {d:D} (h:Glb X.mg x v) (r:∀ H,Rep X.K H d v) (hg:Gl X x) (hd:(x == ("__debug__" : Str))=false:=by decide):SE X (.Name x pos) (eC d):=se_c (pe_gl h hg hd) r
noncomputable def Ok2 (K:PySem.W.Frag) (r:R2) (F:D→D→Option D):Prop:=∀ G H x y u v d (Q:VK),Same G H→Rep K G x u→Rep K G y v→F x y=some d→(∀ w G' H',Ext G H G' H'→Rep K G' d w→Q w H')→r u v H Q
noncomputable def Ok2B (K:PySem.W.Frag) (r:R2) (F:D→D→Option D):Prop:=∀ H x y u v d (Q:VK),Rep K H x u→Rep K H y v→F x y=some d→∃ k,d=.bl k∧(Q (.bl k) H→r u v H Q)
theorem se_bin {op:Operator} (ho:OpR X (binaryOp op) r) (hF:Ok2 X.K r F) (ha:SE X a fa) (hb:SE X b fb):SE X (.BinOp a op b pos) (e2 F fa fb):=by
  obtain ⟨ta,pa,ka⟩:=ha.h
  obtain ⟨tb,pb,kb⟩:=hb.h
  refine ⟨⟨_,pe_op ho pa pb,fun E hf q=>?_⟩⟩
  obtain ⟨x,hx,hf⟩:=bindE hf
  obtain ⟨y,hy,hf⟩:=bindE hf
  refine ka E hx fun v G1 H1 x1 r1=>?_
  refine kb (E.go x1) hy fun u G2 H2 x2 r2=>?_
  exact hF G2 H2 x y v u _ _ x2.gh (r1.mono x2.g) r2 hf fun w G' H' x3 r3=>q w G' H' (x1.trans (x2.trans x3)) r3
theorem se_ix (hr:IxR X r) (hF:Ok2 X.K r F) (ha:SE X a fa) (hb:SE X b fb) (hs:plainIx b=true:=by rfl):SE X (.Subscript a b pos) (e2 F fa fb):=by
  obtain ⟨ta,pa,ka⟩:=ha.h
  obtain ⟨tb,pb,kb⟩:=hb.h
  refine ⟨⟨_,pe_ix hr pa pb (plain_ix hs),fun E hf q=>?_⟩⟩
  obtain ⟨x,hx,hf⟩:=bindE hf
  obtain ⟨y,hy,hf⟩:=bindE hf
  refine ka E hx fun v G1 H1 x1 r1=>?_
  refine kb (E.go x1) hy fun u G2 H2 x2 r2=>?_
  exact hF G2 H2 x y v u _ _ x2.gh (r1.mono x2.g) r2 hf fun w G' H' x3 r3=>q w G' H' (x1.trans (x2.trans x3)) r3
theorem se_cmp {op:CmpOp} (ho:OpR X (compareOp op) r) (hF:Ok2B X.K r F) (ha:SB X a fa) (hb:SB X b fb) (hm:behindInMarks op b=false):SE X (.Compare a [op] [b] pos) (e2 F fa fb):=by
  obtain ⟨ta,pa,ka⟩:=ha.h
  obtain ⟨tb,pb,kb⟩:=hb.h
  refine ⟨⟨_,pe_cmpR ho pa pb hm,fun E hf q=>?_⟩⟩
  obtain ⟨x,hx,hf⟩:=bindE hf
  obtain ⟨y,hy,hf⟩:=bindE hf
  refine ka E hx fun v G1 H1 x1 r1=>?_
  refine kb (E.go x1) hy fun u G2 H2 x2 r2=>?_
  obtain ⟨k,rfl,z⟩:=hF H2 x y v u _ _ (r1.mono x2.h) r2 hf
  exact z (q _ _ _ (x1.trans x2) rfl)
theorem st_cmp {op:CmpOp} (ho:OpR X (compareOp op) r) (hF:Ok2B X.K r F) (ha:SB X a fa) (hb:SB X b fb) (hm:behindInMarks op b=false):ST X (.Compare a [op] [b] pos) (tE (e2 F fa fb)):=by
  obtain ⟨ta,pa,ka⟩:=ha.h
  obtain ⟨tb,pb,kb⟩:=hb.h
  refine ⟨⟨_,pt_cmpR ho pa pb hm,fun E hf q=>?_⟩⟩
  obtain ⟨z,hz,hf⟩:=bindE hf
  obtain ⟨x,hx,hz⟩:=bindE hz
  obtain ⟨y,hy,hz⟩:=bindE hz
  refine ka E hx fun v G1 H1 x1 r1=>?_
  refine kb (E.go x1) hy fun u G2 H2 x2 r2=>?_
  obtain ⟨k,rfl,z⟩:=hF H2 x y v u _ _ (r1.mono x2.h) r2 hz
  cases hf
  exact z ⟨_,rfl,q _ _ (x1.trans x2)⟩
theorem st_val (h:SE X e f) (he:plainTest e=true:=by rfl):ST X e (tE f):=by
  obtain ⟨t,p,k⟩:=h.h
  refine ⟨⟨_,pt_val p (plain_test he),fun E hf q=>?_⟩⟩
  obtain ⟨z,hz,hf⟩:=bindE hf
  refine k E hz fun v G' H' x r=>?_
  cases z<;>first | cases hf | skip
  cases r
  exact ⟨_,rfl,q _ _ x⟩
theorem sw_and1 (h:ST X a ft):SW X (.BoolOp .And [a] pos) ft:=⟨let ⟨t,p,k⟩:=h.h; ⟨t,pw_and1 p,k⟩⟩
theorem sw_or1 (h:ST X a ft):SW X (.BoolOp .Or [a] pos) ft:=⟨let ⟨t,p,k⟩:=h.h; ⟨t,pw_or1 p,k⟩⟩
theorem sw_and (ha:ST X a ft) (hb:SW X (.BoolOp .And (b::rest) pos) fu):SW X (.BoolOp .And (a::b::rest) pos) (tAndF ft fu):=by
  obtain ⟨ta,pa,ka⟩:=ha.h
  obtain ⟨tb,pb,kb⟩:=hb.h
  refine ⟨⟨_,pw_and pa pb,fun E hf q=>?_⟩⟩
  obtain ⟨k,hk,hf⟩:=bindE hf
  refine ka E hk fun G1 H1 x1=>?_
  cases k with
  | true=>exact iteT (kb (E.go x1) hf fun G' H' x2=>q _ _ (x1.trans x2))
  | false=>cases hf; exact iteF (q _ _ x1)
theorem sw_or (ha:ST X a ft) (hb:SW X (.BoolOp .Or (b::rest) pos) fu):SW X (.BoolOp .Or (a::b::rest) pos) (tOrF ft fu):=by
  obtain ⟨ta,pa,ka⟩:=ha.h
  obtain ⟨tb,pb,kb⟩:=hb.h
  refine ⟨⟨_,pw_or pa pb,fun E hf q=>?_⟩⟩
  obtain ⟨k,hk,hf⟩:=bindE hf
  refine ka E hk fun G1 H1 x1=>?_
  cases k with
  | false=>exact iteF (kb (E.go x1) hf fun G' H' x2=>q _ _ (x1.trans x2))
  | true=>cases hf; exact iteT (q _ _ x1)
theorem sw_t (h:SW X e ft):ST X e ft:=⟨let ⟨t,p,k⟩:=h.h; ⟨t,p.pt,k⟩⟩
theorem st_not (h:ST X a ft):ST X (.UnaryOp .Not a pos) (tNotF ft):=by
  obtain ⟨ta,pa,ka⟩:=h.h
  refine ⟨⟨_,pt_not pa,fun E hf q=>?_⟩⟩
  obtain ⟨k,hk,hf⟩:=bindE hf
  cases hf
  exact ka E hk fun G1 H1 x1=>q _ _ x1
theorem se_one {op} (h:SE X a f):SE X (.BoolOp op [a] pos) f:=⟨let ⟨t,p,k⟩:=h.h; ⟨t,pe_one p,k⟩⟩
theorem rep_bl {K:PySem.W.Frag} {G:Hp} {z:D} {v:V} {k:Bool} (r:Rep K G z v) (h:asB z=some k):v=.bl k:=by
  cases z<;>first | cases h | skip
  exact r
theorem se_and (ha:SE X a fa) (hb:SE X (.BoolOp .And (b::rest) pos) fb):SE X (.BoolOp .And (a::b::rest) pos) (eAnd fa fb):=by
  obtain ⟨ta,pa,ka⟩:=ha.h
  obtain ⟨tb,pb,kb⟩:=hb.h
  refine ⟨⟨_,pe_and pa pb,fun E hf q=>?_⟩⟩
  obtain ⟨z,hz,hf⟩:=bindE hf
  obtain ⟨k,hk,hf⟩:=bindE hf
  refine ka E hz fun v G1 H1 x1 r1=>⟨k,rep_bl r1 hk,?_⟩
  cases k with
  | true=>exact iteT (kb (E.go x1) hf fun v G' H' x2 r2=>q v _ _ (x1.trans x2) r2)
  | false=>cases hf; exact iteF (q _ _ _ x1 rfl)
theorem se_not (ha:SE X a fa):SE X (.UnaryOp .Not a pos) (eNot fa):=by
  obtain ⟨ta,pa,ka⟩:=ha.h
  refine ⟨⟨_,pe_not pa,fun E hf q=>?_⟩⟩
  obtain ⟨z,hz,hf⟩:=bindE hf
  obtain ⟨k,hk,hf⟩:=bindE hf
  cases hf
  exact ka E hz fun v G1 H1 x1 r1=>⟨k,rep_bl r1 hk,q _ _ _ x1 rfl⟩
theorem se_if (hc:ST X c ft) (ha:SE X a fa) (hb:SE X b fb):SE X (.IfExp c a b pos) (eIf ft fa fb):=by
  obtain ⟨tc,pc,kc⟩:=hc.h
  obtain ⟨ta,pa,ka⟩:=ha.h
  obtain ⟨tb,pb,kb⟩:=hb.h
  refine ⟨⟨_,pe_ifExp pc pa pb,fun E hf q=>?_⟩⟩
  obtain ⟨k,hk,hf⟩:=bindE hf
  refine kc E hk fun G1 H1 x1=>?_
  cases k with
  | true=>exact iteT (ka (E.go x1) hf fun v G' H' x2 r2=>q v _ _ (x1.trans x2) r2)
  | false=>exact iteF (kb (E.go x1) hf fun v G' H' x2 r2=>q v _ _ (x1.trans x2) r2)
theorem sa_nil:SA X [] aNil:=⟨⟨_,pa_nil,fun E hf q=>by cases hf; exact q _ _ _ (Ext.refl E.ext.gh) rfl⟩⟩
theorem sa_cons (ha:SE X e f) (hr:SA X es fs) (h:noStar e=true:=by rfl):SA X (e::es) (aCons f fs):=by
  obtain ⟨ta,pa,ka⟩:=ha.h
  obtain ⟨tb,pb,kb⟩:=hr.h
  refine ⟨⟨_,pac pa pb h,fun E hf q=>?_⟩⟩
  obtain ⟨x,hx,hf⟩:=bindE hf
  obtain ⟨xs,hxs,hf⟩:=bindE hf
  cases hf
  refine ka E hx fun v G1 H1 x1 r1=>kb (E.go x1) hxs fun vs G2 H2 x2 r2=>?_
  exact q _ _ _ (x1.trans x2) ⟨v,vs,rfl,r1.mono x2.g,r2⟩
theorem sab_nil:SAB X [] aNil:=⟨⟨_,pa_nil,fun E hf q=>by cases hf; exact q _ _ _ (Ext.refl E.ext.gh) rfl⟩⟩
theorem sab_cons (ha:SB X e f) (hr:SAB X es fs) (h:noStar e=true:=by rfl):SAB X (e::es) (aCons f fs):=by
  obtain ⟨ta,pa,ka⟩:=ha.h
  obtain ⟨tb,pb,kb⟩:=hr.h
  refine ⟨⟨_,pac pa pb h,fun E hf q=>?_⟩⟩
  obtain ⟨x,hx,hf⟩:=bindE hf
  obtain ⟨xs,hxs,hf⟩:=bindE hf
  cases hf
  refine ka E hx fun v G1 H1 x1 r1=>kb (E.go x1) hxs fun vs G2 H2 x2 r2=>?_
  exact q _ _ _ (x1.trans x2) ⟨v,vs,rfl,r1.mono x2.h,r2⟩
theorem sa_ints {is:List Int} (h:intsOf es=some is):SA X es (fun _=>some (is.map D.int)):=⟨⟨_,pa_ints h,fun E hf q=>by cases hf; exact q _ _ _ (Ext.refl E.ext.gh) Reps.ints⟩⟩
theorem se_tup {x1} (h:SA X es fs) (hl:∀ τ ds,fs τ=some ds→ds.length≤1000):SE X (.Tuple es x1 pos) (eTup fs):=by
  obtain ⟨t,pt,k⟩:=h.h
  refine ⟨⟨_,pe_tup pt,fun E hf q=>?_⟩⟩
  obtain ⟨xs,hx,hf⟩:=bindE hf
  cases hf
  have l:xs.length≤sizeLine:=small (hl _ _ hx)
  refine k E hx fun vs G1 H1 x1 r1=>⟨by rw [r1.length]; exact l,fun p hp=>?_⟩
  exact q _ _ _ (x1.trans (Ext.lay x1.gh hp)) ⟨p,vs,rfl,SqT.of upd_same,r1.mono (same_new (x1.gh.free hp) _),l⟩
theorem sf_lst (h:SA X es fs) (hl:∀ τ ds,fs τ=some ds→ds.length≤1000):SF X (.List es pos) (eLst fs):=by
  obtain ⟨t,pt,k⟩:=h.h
  refine ⟨⟨_,pe_lst pt,fun E hf q=>?_⟩⟩
  obtain ⟨xs,hx,hf⟩:=bindE hf
  cases hf
  have l:xs.length≤sizeLine:=small (hl _ _ hx)
  refine k E hx fun vs G1 H1 x1 r1=>⟨by rw [r1.length]; exact l,fun p hp=>?_⟩
  exact q _ _ _ (x1.trans (Ext.layO x1.gh hp)) (x1.h.free hp) (x1.gh.free hp) ⟨vs,upd_same,r1,l⟩
theorem al_nil:∀ (τ:SEnv) ds,aNil τ=some ds→ds.length≤0:=fun _ _ h=>by cases h; exact Nat.le_refl _
theorem al_cons {n:Nat} (h:∀ τ ds,fs τ=some ds→ds.length≤n):∀ τ ds,aCons f fs τ=some ds→ds.length≤n+1:=fun τ ds e=>by
  obtain ⟨x,_,e⟩:=bindE e
  obtain ⟨xs,hx,e⟩:=bindE e
  cases e
  exact Nat.succ_le_succ (h _ _ hx)
theorem al_ints {is:List Int} {n:Nat} (h:is.length≤n):∀ (τ:SEnv) ds,(some (is.map D.int))=some ds→ds.length≤n:=fun _ _ e=>by
  cases e
  rw [List.length_map]
  exact h
theorem al_le {m n:Nat} (h:∀ τ ds,fs τ=some ds→ds.length≤m) (hmn:m≤n):∀ τ ds,fs τ=some ds→ds.length≤n:=fun τ ds e=>Nat.le_trans (h τ ds e) hmn
variable {ps:List Str} {j k:Nat} {FF:List D→Option (Bool×D)} {FL:List D→Option D} {id T:String}
theorem sf_call (h:Has X.prog X.w X.K X.mg X.base x ps k (spF X.K FF)) (hr:Room j X.A) (hg:Gl X x) (ha:SA X (e::es) fs) (hk:k≤j:=by decide) (hdb:(x == ("__debug__" : Str))=false:=by decide)
    (he:(e::es).all noStar=true:=by rfl):SF X (.Call (.Name x p) (e::es) [] pos) (eCallO FF fs):=by
  obtain ⟨t,pt,kt⟩:=ha.h
  refine ⟨⟨_,pe_own h hr hg pt hk hdb he,fun E hf q=>?_⟩⟩
  obtain ⟨ds,hd,hf⟩:=bindE hf
  obtain ⟨⟨o,d⟩,hr,hf⟩:=bindE hf
  cases o with
  | false=>cases hf
  | true=>
    cases hf
    refine kt E hd fun vs G1 H1 x1 r1=>⟨G1,ds,true,_,x1.gh,by rw [List.append_nil]; exact r1,hr,fun p G' H' x2 hp gp o=>?_⟩
    exact q p G' H' (x1.trans x2) (x1.h.free hp) gp o
theorem se_call (h:Has X.prog X.w X.K X.mg X.base x ps k (spF X.K FF)) (hr:Room j X.A) (hg:Gl X x) (ha:SA X (e::es) fs) (hk:k≤j:=by decide) (hdb:(x == ("__debug__" : Str))=false:=by decide)
    (he:(e::es).all noStar=true:=by rfl):SE X (.Call (.Name x p) (e::es) [] pos) (eCall FF fs):=by
  obtain ⟨t,pt,kt⟩:=ha.h
  refine ⟨⟨_,pe_own h hr hg pt hk hdb he,fun E hf q=>?_⟩⟩
  obtain ⟨ds,hd,hf⟩:=bindE hf
  obtain ⟨⟨o,d⟩,hr,hf⟩:=bindE hf
  cases hf
  refine kt E hd fun vs G1 H1 x1 r1=>⟨G1,ds,o,d,x1.gh,by rw [List.append_nil]; exact r1,hr,?_⟩
  cases o with
  | false=>exact fun v G' H' x2 r=>q v G' H' (x1.trans x2) r
  | true=>
    intro p G' H' x2 hp gp o
    obtain ⟨u,hu,r⟩:=o.frz gp
    exact q _ _ _ (x1.trans (x2.frz hp gp hu)) r
theorem se_callB (h:Has X.prog X.w X.K X.mg X.base x ps k (spF X.K FF)) (hr:Room j X.A) (hg:Gl X x) (ha:SAB X (e::es) fs) (hk:k≤j:=by decide) (hdb:(x == ("__debug__" : Str))=false:=by decide)
    (he:(e::es).all noStar=true:=by rfl):SE X (.Call (.Name x p) (e::es) [] pos) (eCallB FF fs):=by
  obtain ⟨t,pt,kt⟩:=ha.h
  refine ⟨⟨_,pe_own h hr hg pt hk hdb he,fun E hf q=>?_⟩⟩
  obtain ⟨d0,h0,hf⟩:=bindE hf
  obtain ⟨ds,hd,h0⟩:=bindE h0
  obtain ⟨⟨o,d⟩,hr,h0⟩:=bindE h0
  cases h0
  by_cases fl:flatD d=true
  · rw [if_pos fl] at hf
    cases hf
    refine kt E hd fun vs G1 H1 x1 r1=>⟨H1,ds,o,d,Same.refl _,by rw [List.append_nil]; exact r1,hr,?_⟩
    have flat:∀ {G G':Hp} {v:V},Rep X.K G d v→Rep X.K G' d v:=fun {G G' v} r=>by
      cases d<;>first | exact r | exact absurd fl Bool.false_ne_true
    cases o with
    | false=>exact fun v G' H' x2 r=>q v G1 H' (x1.trans ⟨Same.refl _,x2.h,x1.gh.trans x2.h,fun _ z=>.inl z⟩) (flat r)
    | true=>
      intro p G' H' x2 hp gp o
      cases d<;>first | exact o.elim | exact absurd fl Bool.false_ne_true
  · rw [if_neg fl] at hf
    cases hf
noncomputable def OkCB (K:PySem.W.Frag) (r:List V→Hp→VK→Prop) (F:List D→Option D):Prop:=∀ G H ds vs d (Q:VK),Same G H→Reps K H ds vs→F ds=some d→(∀ w G' H',Ext G H G' H'→Rep K G' d w→Q w H')→r vs H Q
noncomputable def OkCG (K:PySem.W.Frag) (r:List V→Hp→VK→Prop) (F:List D→Option D):Prop:=∀ G H ds vs d (Q:VK),Same G H→Reps K G ds vs→F ds=some d→(∀ w G' H',Ext G H G' H'→Rep K G' d w→Q w H')→r vs H Q
theorem se_cb {rc:List V→Hp→VK→Prop} (hc:CallR X (.builtin id) rc) (hF:OkCB X.K rc FL) (hg:Gl X x) (hm:X.mg x=none) (hv:bootBuiltins x=some (.builtin id)) (ha:SAB X (e::es) fs) (hn:x ≠ "__name__" := by decide) (hdb:(x == ("__debug__" : Str))=false:=by decide)
    (he:(e::es).all noStar=true:=by rfl):SE X (.Call (.Name x p) (e::es) [] pos) (eL FL fs):=by
  obtain ⟨t,pt,kt⟩:=ha.h
  refine ⟨⟨_,(qe_callB hc hg hm hv ⟨pt⟩ hn hdb he).h,fun E hf q=>?_⟩⟩
  obtain ⟨ds,hd,hf⟩:=bindE hf
  exact kt E hd fun vs G1 H1 x1 r1=>hF G1 H1 ds vs _ _ x1.gh r1 hf fun w G' H' x2 r2=>q w G' H' (x1.trans x2) r2
theorem se_cty {rc:List V→Hp→VK→Prop} (hc:CallR X (.type T) rc) (hF:OkCB X.K rc FL) (hg:Gl X x) (hm:X.mg x=none) (hv:bootBuiltins x=some (.type T)) (ha:SAB X (e::es) fs) (hn:x ≠ "__name__" := by decide) (hdb:(x == ("__debug__" : Str))=false:=by decide)
    (he:(e::es).all noStar=true:=by rfl):SE X (.Call (.Name x p) (e::es) [] pos) (eL FL fs):=by
  obtain ⟨t,pt,kt⟩:=ha.h
  refine ⟨⟨_,(qe_callTy hc hg hm hv ⟨pt⟩ hn hdb he).h,fun E hf q=>?_⟩⟩
  obtain ⟨ds,hd,hf⟩:=bindE hf
  exact kt E hd fun vs G1 H1 x1 r1=>hF G1 H1 ds vs _ _ x1.gh r1 hf fun w G' H' x2 r2=>q w G' H' (x1.trans x2) r2
theorem se_ctyG {rc:List V→Hp→VK→Prop} (hc:CallR X (.type T) rc) (hF:OkCG X.K rc FL) (hg:Gl X x) (hm:X.mg x=none) (hv:bootBuiltins x=some (.type T)) (ha:SA X (e::es) fs) (hn:x ≠ "__name__" := by decide) (hdb:(x == ("__debug__" : Str))=false:=by decide)
    (he:(e::es).all noStar=true:=by rfl):SE X (.Call (.Name x p) (e::es) [] pos) (eL FL fs):=by
  obtain ⟨t,pt,kt⟩:=ha.h
  refine ⟨⟨_,(qe_callTy hc hg hm hv ⟨pt⟩ hn hdb he).h,fun E hf q=>?_⟩⟩
  obtain ⟨ds,hd,hf⟩:=bindE hf
  exact kt E hd fun vs G1 H1 x1 r1=>hF G1 H1 ds vs _ _ x1.gh r1 hf fun w G' H' x2 r2=>q w G' H' (x1.trans x2) r2
theorem se_un {op:UnaryOp} {ru:V→Hp→VK→Prop} {F1:D→Option D} (ho:UnR X (unaryOp op) ru) (hF:∀ (G H:Hp) x u d (Q:VK),Rep X.K G x u→F1 x=some d→∃ w,(∀ G,Rep X.K G d w)∧(Q w H→ru u H Q)) (ha:SE X a fa):SE X (.UnaryOp op a pos) (e1 F1 fa):=by
  obtain ⟨t,pt,kt⟩:=ha.h
  refine ⟨⟨_,pe_un ho pt,fun E hf q=>?_⟩⟩
  obtain ⟨x,hx,hf⟩:=bindE hf
  refine kt E hx fun v G1 H1 x1 r1=>?_
  obtain ⟨w,rw_,z⟩:=hF G1 H1 x v _ _ r1 hf
  exact z (q w _ _ x1 (rw_ _))
end
end L3
namespace L3
open PySem PySem.Spec PyProof.Rows L2
section
variable {X:Cx} {x:Str} {p pos pos' apos cpos:Pos} {e a b c tg iter elt:Expr} {es ifs:List Expr} {f fa fb:FE} {ft:FT} {fs:FA} {st:Stmt} {sts body:List Stmt} {g g':FS}
theorem sss_nil:SSs X [] sNext:=⟨⟨_,pss_nil,fun {_ _ G H τ σ fl E} K hf q=>by
  cases hf
  exact q σ G H K⟩⟩
theorem FlOk.with {K:PySem.W.Frag} {n:Nat} {G0 H0:Hp} {E E':Ends} {fl:Fl} (h:FlOk K n G0 H0 E fl) (hn:∀ τ,fl=.nx τ→FlOk K n G0 H0 E' (.nx τ)) (hb:∀ τ,fl=.bk τ→FlOk K n G0 H0 E' (.bk τ)) (hc:∀ τ,fl=.ct τ→FlOk K n G0 H0 E' (.ct τ)) (hr:E'.rt=E.rt):FlOk K n G0 H0 E' fl:=by
  cases fl with
  | nx τ=>exact hn τ rfl
  | bk τ=>exact hb τ rfl
  | ct τ=>exact hc τ rfl
  | rt o d=>
    cases o with
    | false=>intro v G H x r; rw [hr]; exact h v G H x r
    | true=>intro v G H x r1 r2 r3; rw [hr]; exact h v G H x r1 r2 r3
theorem sss_cons (h1:SS X st g) (h2:SSs X sts g'):SSs X (st::sts) (sSeq g g'):=by
  obtain ⟨t,p,k⟩:=h1.h
  obtain ⟨t',p',k'⟩:=h2.h
  refine ⟨⟨_,pss_cons p p',fun {G0 H0 G H τ σ fl E} K hf q=>?_⟩⟩
  obtain ⟨f1,h1,hf⟩:=bindE hf
  refine k K h1 ?_
  cases f1 with
  | nx τ'=>exact fun σ' G' H' K'=>k' K' hf q
  | bk τ'=>cases hf; exact q
  | ct τ'=>cases hf; exact q
  | rt o d=>cases hf; exact FlOk.with q (fun _ z=>nomatch z) (fun _ z=>nomatch z) (fun _ z=>nomatch z) rfl
theorem sss_one (h1:SS X st g):SSs X [st] g:=⟨let ⟨t,p,k⟩:=h1.h; ⟨t,pss_one p,k⟩⟩
theorem sss_freeze (i:Nat) (h:SSs X sts g):SSs X sts (sSeq (sFreeze i) g):=by
  obtain ⟨t,p,k⟩:=h.h
  refine ⟨⟨t,p,fun {G0 H0 G H τ σ fl E} K hf q=>?_⟩⟩
  obtain ⟨f1,h1,hf⟩:=bindE hf
  unfold sFreeze at h1
  split at h1
  · rename_i bb d hd
    cases h1
    obtain ⟨G',K',_⟩:=K.freeze hd
    exact k K' hf q
  · cases h1
theorem ss_set {i:Nat} {x:Str} {pos':Pos} (hN:X.N.Nodup) (hi:X.N[i]?=some x) (hx:Loc X.env.scope x) (he:SE X e f) (hs:noComp e=true:=by rfl) (hf:X.fn x=true∨X.env.scope.names.lookup x=some .local:=by first | exact .inl rfl | exact .inr rfl | assumption) :
    SS X (.Assign [.Name x pos'] e pos) (sSet i f):=by
  obtain ⟨t,p,k⟩:=he.h
  refine ⟨⟨_,(qs_set hN hi hx ⟨p⟩ hs hf).h,fun {G0 H0 G H τ σ fl E} K hf q=>?_⟩⟩
  obtain ⟨d,hd,hf⟩:=bindE hf
  cases hf
  exact k K hd fun v G' H' x r=>q _ _ _ ((K.go x).set (List.getElem?_eq_some_iff.mp hi).1 r)
theorem ss_setO {i:Nat} {x:Str} {pos':Pos} (hN:X.N.Nodup) (hi:X.N[i]?=some x) (hx:Loc X.env.scope x) (he:SF X e f) (hs:noComp e=true:=by rfl) (hf:X.fn x=true∨X.env.scope.names.lookup x=some .local:=by first | exact .inl rfl | exact .inr rfl | assumption) :
    SS X (.Assign [.Name x pos'] e pos) (sSetO i f):=by
  obtain ⟨t,p,k⟩:=he.h
  refine ⟨⟨_,(qs_set hN hi hx ⟨p⟩ hs hf).h,fun {G0 H0 G H τ σ fl E} K hf q=>?_⟩⟩
  obtain ⟨d,hd,hf⟩:=bindE hf
  cases hf
  refine k K hd fun p G' H' x hp gp o=>q _ _ _ ((K.go x).setO (List.getElem?_eq_some_iff.mp hi).1 gp (K.ext.h.free hp) o ?_)
  exact K.newO hp
theorem ss_ret (he:SE X e f):SS X (.Return (some e) pos) (sRet f):=by
  obtain ⟨t,p,k⟩:=he.h
  refine ⟨⟨_,ps_ret p,fun {G0 H0 G H τ σ fl E} K hf q=>?_⟩⟩
  obtain ⟨d,hd,hf⟩:=bindE hf
  cases hf
  exact k K hd fun v G' H' x r=>q v _ _ (K.ext.trans x) r
theorem ss_retO (he:SF X e f):SS X (.Return (some e) pos) (sRetO f):=by
  obtain ⟨t,p,k⟩:=he.h
  refine ⟨⟨_,ps_ret p,fun {G0 H0 G H τ σ fl E} K hf q=>?_⟩⟩
  obtain ⟨d,hd,hf⟩:=bindE hf
  cases hf
  exact k K hd fun p G' H' x hp gp o=>q p _ _ (K.ext.trans x) (K.ext.h.free hp) gp o
theorem ss_retV (i:Nat) {x:Str} {pos':Pos} (hN:X.N[i]?=some x:=by rfl) (hv:Vis X.env.scope x:=by first | exact Or.inl rfl | exact Or.inr (Or.inl rfl) | exact Or.inr (Or.inr rfl)) (hd:(x == ("__debug__" : Str))=false:=by decide)
    (hcd:(x == ("__classdict__" : Str))=false:=by decide):SS X (.Return (some (.Name x pos')) pos) (sRetV i):=by
  refine ⟨⟨_,ps_ret (pe_var hN hv hd hcd),fun {G0 H0 G H τ σ fl E} K hf q=>?_⟩⟩
  unfold sRetV at hf
  split at hf
  · rename_i d he
    cases hf
    obtain ⟨p,e,g,z,o⟩:=K.ow _ _ he
    exact ⟨_,e,q p _ _ K.ext z g o⟩
  · cases hf
theorem ss_if {sa sb:List Stmt} (hc:ST X c ft) (ha:SSs X sa g) (hb:SSs X sb g'):SS X (.If c sa sb pos) (sIf ft g g'):=by
  obtain ⟨tc,pc,kc⟩:=hc.h
  obtain ⟨ta,pa,ka⟩:=ha.h
  obtain ⟨tb,pb,kb⟩:=hb.h
  refine ⟨⟨_,ps_if pc pa pb,fun {G0 H0 G H τ σ fl E} K hf q=>?_⟩⟩
  obtain ⟨k,hk,hf⟩:=bindE hf
  refine kc K hk fun G1 H1 x1=>?_
  cases k with
  | true=>exact iteT (ka (K.go x1) hf q)
  | false=>exact iteF (kb (K.go x1) hf q)
theorem ss_never:SSs X sts (fun _=>none):=⟨⟨_,pss_never,fun _ hf=>by cases hf⟩⟩
theorem FlOk.near {K:PySem.W.Frag} {n:Nat} {G0 H0 Ga Ha:Hp} {E:Ends} {fl:Fl} (x:Ext G0 H0 Ga Ha) (h:FlOk K n G0 H0 E fl):FlOk K n Ga H0 E fl:=by
  cases fl with
  | nx τ=>exact fun σ G H z=>h σ G H (EnvOk.near x z)
  | bk τ=>exact fun σ G H z=>h σ G H (EnvOk.near x z)
  | ct τ=>exact fun σ G H z=>h σ G H (EnvOk.near x z)
  | rt o d=>
    cases o with
    | false=>exact fun v G H y r=>h v G H (x.rebase y) r
    | true=>exact fun p G H y r1 r2 r3=>h p G H (x.rebase y) r1 r2 r3
structure SG (X:Cx) (tg:Expr) (fg:FG):Prop where
  h:∃ t,PG X tg t∧∀ {G0 H0 G H:Hp} {τ τ':SEnv} {σ:St} {d:D} {v:V} {Q:St→Hp→Prop},EnvOk X.K X.N.length G0 H0 G H τ σ→Rep X.K G d v→fg d τ=some τ'→(∀ σ',EnvOk X.K X.N.length G0 H0 G H τ' σ'→Q σ' H)→t v σ H Q
theorem sg_var {i:Nat} {x:Str} (h:QG X (.Name x pos) (gName i)) (hi:X.N[i]?=some x):SG X (.Name x pos) (gVar i):=⟨⟨_,h.h,fun K r hf q=>by
  cases hf
  exact q _ (K.set (List.getElem?_eq_some_iff.mp hi).1 r)⟩⟩
theorem sg_two {i j:Nat} {x y:Str} {p1 p2:Pos} {kk:Nat} (h:QG X (.Tuple [.Name x p1,.Name y p2] kk pos) (gTup X.K 2 (gCons (gName i) (gCons (gName j) gNil)))) (hi:X.N[i]?=some x) (hj:X.N[j]?=some y):SG X (.Tuple [.Name x p1,.Name y p2] kk pos) (gTwo i j):=⟨⟨_,h.h,fun {G0 H0 G H τ τ' σ d v Q} K r hf q=>by
  unfold gTwo at hf
  split at hf
  · rename_i d1 d2
    cases hf
    obtain ⟨a,vs,rfl,sq,⟨v1,r1,rfl,h1,⟨v2,r2,rfl,h2,h3⟩⟩,_⟩:=r
    cases (show r2=[] from h3)
    refine ⟨a,_,rfl,sqT_mono K.ext.gh sq,rfl,v1,_,rfl,v2,_,rfl,rfl,?_⟩
    exact q _ ((K.set (List.getElem?_eq_some_iff.mp hi).1 h1).set (List.getElem?_eq_some_iff.mp hj).1 h2)
  · cases hf⟩⟩
theorem ss_for {fg:FG} (hp:PassesOwn (model X.prog X.w) X.A X.env X.xe) (hc:X.calm=true) (hi:SI X tg iter fs) (hg:SG X tg fg) (hb:SSs X body g) (hs:∀ x,foldedSetIterable iter X.env x=pure x:=by intro _; rfl):SS X (.For tg iter body [] pos) (sFor fs fg g):=by
  obtain ⟨ti,pi,ki⟩:=hi.h
  obtain ⟨tg',pg,kg⟩:=hg.h
  obtain ⟨tb,pb,kb⟩:=hb.h
  refine ⟨⟨_,ps_for hp hc pi pg pb hs,fun {G0 H0 G H τ σ fl E} K hf q=>?_⟩⟩
  obtain ⟨ds,hd,hf⟩:=bindE hf
  refine ki K hd fun J Ga Ha xa _ wk=>?_
  have Ka:=K.go xa
  have q':=FlOk.near Ka.ext q
  refine ⟨fun i m σ H=>m=ds.length - i∧i≤ds.length∧∃ τ G,EnvOk X.K X.N.length Ga H0 G H τ σ∧loopG fg g (ds.drop i) τ=some fl,⟨ds.length,rfl,Nat.zero_le _,τ,Ga,Ka.far,hf⟩,?_⟩
  rintro i m σ H ⟨rfl,hle,τ,G,K,hf⟩
  by_cases hlt:i<ds.length
  · refine .inr ⟨wk.go i G H K.ext.g K.ext.gh hlt,fun σ' H'=>∃ τ G,EnvOk X.K X.N.length Ga H0 G H' τ σ'∧loopG fg g (ds.drop (i+1)) τ=some fl,fun σ' H' z=>⟨ds.length - (i+1),by omega,rfl,hlt,z⟩,fun x H' y=>?_⟩
    obtain ⟨G3,d,x3,ed,rd⟩:=wk.yld i G H x H' K.ext.g K.ext.gh hlt y
    rw [List.drop_eq_getElem_cons hlt] at hf
    rw [List.getElem?_eq_getElem hlt] at ed
    cases ed
    obtain ⟨τ1,h1,hf⟩:=bindE (show (fg _ τ).bind _=_ from hf)
    obtain ⟨f1,h2,hf⟩:=bindE hf
    refine kg (K.go x3) rd h1 fun σ1 K1=>kb K1 h2 ?_
    cases f1 with
    | nx τ2=>exact fun σ2 G2 H2 K2=>⟨τ2,G2,K2,hf⟩
    | ct τ2=>exact fun σ2 G2 H2 K2=>⟨τ2,G2,K2,hf⟩
    | bk τ2=>cases hf; exact q'
    | rt o d=>cases hf; exact FlOk.with q' (fun _ z=>nomatch z) (fun _ z=>nomatch z) (fun _ z=>nomatch z) rfl
  · have e:ds.drop i=[]:=List.drop_eq_nil_of_le (by omega)
    rw [e] at hf
    cases hf
    exact .inl ⟨wk.stop i G H K.ext.g K.ext.gh (by omega),q' _ _ _ K⟩
theorem ints_walk {K:PySem.W.Frag} {G:Hp} {lo:Int} {n:Nat}:Walk K (Itr lo n) G ((List.range n).map fun k:Nat=>D.int (lo+k)) where
  go:=fun i G2 H _ _ hi=>by
    show i<n
    simpa using hi
  yld:=fun i G2 H x H' _ g2 hi y=>by
    obtain ⟨rfl,rfl⟩:=y
    exact ⟨G2,.int (lo+i),Ext.refl g2,by simp at hi; simp [hi],rfl⟩
  stop:=fun i G2 H _ _ hi=>by
    show n≤i
    simpa using hi
theorem si_range1 (hg:Gl X "range") (hm:X.mg "range" = none) (ha:SE X a fa) (hs:noStar a=true:=by rfl):SI X tg (.Call (.Name "range" p) [a] [] pos) (iRange (eC (.int 0)) fa):=by
  obtain ⟨t,pt,k⟩:=(sa_cons ha sa_nil hs).h
  refine ⟨⟨_,pi_range1 hg hm pt (star_cons hs),fun {G0 H0 G H τ σ ds R} K hf q=>?_⟩⟩
  obtain ⟨x,hx,hf⟩:=bindE hf
  cases hx
  obtain ⟨y,hy,hf⟩:=bindE hf
  refine k K (ds:=[y]) (by unfold aCons; rw [hy]; rfl) fun vs G1 H1 x1 r1=>?_
  cases y<;>first | cases hf | skip
  rename_i j
  obtain ⟨v,r,rfl,hv,hr⟩:=r1
  cases (show r=[] from hr)
  cases (show v=.int j from hv)
  change (if (0:Int).natAbs≤LIM∧j.natAbs≤LIM∧(j - 0).toNat≤LIM then _ else _)=_ at hf
  by_cases c:(0:Int).natAbs≤LIM∧j.natAbs≤LIM∧(j - 0).toNat≤LIM
  · rw [if_pos c] at hf
    cases hf
    have c2:j.natAbs≤16777216:=c.2.1
    have c3:(j - 0).toNat≤16777216:=c.2.2
    refine ⟨j,rfl,by omega,by omega,q _ _ _ x1 ?_ ?_⟩
    · rw [List.length_map,List.length_range,sizeLine_eq]; omega
    · have e:(j - 0).toNat=j.toNat:=by omega
      rw [e]
      exact ints_walk
  · rw [if_neg c] at hf
    cases hf
theorem list_walk {K:PySem.W.Frag} {G:Hp} {a:Addr} {vs:List V} {ds:List D} (sq:SqL K G a vs) (r:Reps K G ds vs):Walk K (Itl K a) G ds where
  go:=fun i G2 H g1 g2 hi=>by
    obtain ⟨v,e,_⟩:=r.get (List.getElem?_eq_getElem hi)
    exact ⟨vs,v,sqL_mono (g1.trans g2) sq,e⟩
  yld:=fun i G2 H x H' g1 g2 hi y=>by
    obtain ⟨rfl,y⟩:=y
    have e:=y vs (sqL_mono (g1.trans g2) sq)
    obtain ⟨d,ed,rd⟩:=r.at e
    exact ⟨G2,d,Ext.refl g2,ed,rd.mono g1⟩
  stop:=fun i G2 H g1 g2 hi=>⟨vs,sqL_mono (g1.trans g2) sq,by rw [r.length]; exact hi⟩
theorem tup_walk {K:PySem.W.Frag} {G:Hp} {a:Addr} {vs:List V} {ds:List D} (sq:SqT K G a vs) (r:Reps K G ds vs):Walk K (Itt K a) G ds where
  go:=fun i G2 H g1 g2 hi=>by
    obtain ⟨v,e,_⟩:=r.get (List.getElem?_eq_getElem hi)
    exact ⟨vs,v,sqT_mono (g1.trans g2) sq,e⟩
  yld:=fun i G2 H x H' g1 g2 hi y=>by
    obtain ⟨rfl,y⟩:=y
    have e:=y vs (sqT_mono (g1.trans g2) sq)
    obtain ⟨d,ed,rd⟩:=r.at e
    exact ⟨G2,d,Ext.refl g2,ed,rd.mono g1⟩
  stop:=fun i G2 H g1 g2 hi=>⟨vs,sqT_mono (g1.trans g2) sq,by rw [r.length]; exact hi⟩
theorem str_walk {K:PySem.W.Frag} {G:Hp} {z:Str}:Walk K (Its z) G (z.cps.toList.map fun c=>D.str ⟨#[c]⟩) where
  go:=fun i G2 H _ _ hi=>by
    rw [List.length_map,Array.length_toList] at hi
    exact hi
  yld:=fun i G2 H x H' _ g2 hi y=>by
    obtain ⟨rfl,c,ec,rfl⟩:=y
    refine ⟨G2,.str ⟨#[c]⟩,Ext.refl g2,?_,rfl,small (n:=1) (by decide)⟩
    rw [List.getElem?_map,Array.getElem?_toList,ec]
    rfl
  stop:=fun i G2 H _ _ hi=>by
    rw [List.length_map,Array.length_toList] at hi
    exact hi
theorem PI.or {w1 w2:TI} (h1:PI X tg e w1) (h2:PI X tg e w2):PI X tg e (fun σ H R=>w1 σ H R∨w2 σ H R):=fun pins s σ H R I q=>by
  rcases q with q | q
  · exact h1 pins s σ H R I q
  · exact h2 pins s σ H R I q
theorem si_seq (h:SE X e f):SI X tg e (iSeq f):=by
  obtain ⟨t,p,k⟩:=h.h
  refine ⟨⟨_,PI.or (pi_list p) (PI.or (pi_tup p) (pi_str p)),fun {G0 H0 G H τ σ ds R} K hf q=>?_⟩⟩
  obtain ⟨d,hd,hf⟩:=bindE hf
  cases d<;>first | cases hf | skip
  · rename_i z
    refine .inr (.inr (k K hd fun v G' H' x r=>?_))
    obtain ⟨rfl,l⟩:=r
    exact ⟨z,rfl,q _ _ _ x (by rw [List.length_map,Array.length_toList]; exact l) str_walk⟩
  · refine .inr (.inl (k K hd fun v G' H' x r=>?_))
    obtain ⟨a,vs,rfl,sq,rs,l⟩:=r
    exact ⟨a,rfl,⟨vs,sqT_mono x.gh sq⟩,q _ _ _ x l (tup_walk sq rs)⟩
  · refine .inl (k K hd fun v G' H' x r=>?_)
    obtain ⟨a,vs,rfl,sq,rs,l⟩:=r
    exact ⟨a,rfl,⟨vs,sqL_mono x.gh sq⟩,q _ _ _ x l (list_walk sq rs)⟩
end
noncomputable def tSE (K:PySem.W.Frag) (n:Nat) (f:FE):TE:=fun σ H Q=>∃ G0 H0 G τ d,EnvOk K n G0 H0 G H τ σ∧f τ=some d∧∀ v G' H',Ext G H G' H'→Rep K G' d v→Q v H'
noncomputable def tST (K:PySem.W.Frag) (n:Nat) (f:FT):TT:=fun σ H Q=>∃ G0 H0 G τ d,EnvOk K n G0 H0 G H τ σ∧f τ=some d∧∀ G' H',Ext G H G' H'→Q d H'
structure STs (X:Cx) (es:List Expr) (f:FT):Prop where
  h:PTs X es (tST X.K X.N.length f)
section
variable {X:Cx} {e c:Expr} {f:FE} {ft:FT}
theorem SE.pe (h:SE X e f):PE X e (tSE X.K X.N.length f):=fun pins s σ H Q I q=>by
  obtain ⟨t,p,k⟩:=h.h
  obtain ⟨G0,H0,G,τ,d,K,hf,z⟩:=q
  exact p pins s σ H Q I (k K hf z)
theorem ST.pt (h:ST X e ft):PT X e (tST X.K X.N.length ft):=fun pins s σ H Q I q=>by
  obtain ⟨t,p,k⟩:=h.h
  obtain ⟨G0,H0,G,τ,d,K,hf,z⟩:=q
  exact p pins s σ H Q I (k K hf z)
theorem sts_nil:STs X [] tTrue:=⟨fun pins s σ H Q I q=>by
  obtain ⟨G0,H0,G,τ,d,K,hf,z⟩:=q
  cases hf
  exact pts_nil pins s σ H Q I (z _ _ (Ext.refl K.ext.gh))⟩
theorem sts_one (h:ST X c ft):STs X [c] ft:=⟨pts_one h.pt⟩
end
theorem EnvOk.more {K:PySem.W.Frag} {n:Nat} {G0 H0 G H:Hp} {τ:SEnv} {σ:St} (k:Nat) (E:EnvOk K n G0 H0 G H τ σ):EnvOk K (n+k) G0 H0 G H (τ++List.replicate k none) (σ++List.replicate k none):=by
  have at_:∀ {i:Nat} {s:Sl},(τ++List.replicate k none)[i]?=some (some s)→τ[i]?=some (some s)∧(σ++List.replicate k none)[i]?=σ[i]?:=fun {i s} h=>by
    have h':=get_tail h
    have hi:i<n:=E.lt h'
    exact ⟨h',List.getElem?_append_left (by rw [E.l1]; exact hi)⟩
  refine ⟨E.ext,by rw [List.length_append,List.length_replicate,E.l1],by rw [List.length_append,List.length_replicate,E.l2],fun i d h=>?_,fun i d h=>?_,fun i j d e p hne h1 h2 h3 h4=>?_⟩
  · obtain ⟨h',e⟩:=at_ h
    rw [e]
    exact E.fr i d h'
  · obtain ⟨h',e⟩:=at_ h
    rw [e]
    exact E.ow i d h'
  · obtain ⟨h1',e1⟩:=at_ h1
    obtain ⟨h2',e2⟩:=at_ h2
    rw [e1] at h3
    rw [e2] at h4
    exact E.ap i j d e p hne h1' h2' h3 h4
theorem lc_walk {K:PySem.W.Frag} {n k:Nat} {G0 H0 Ga Ha:Hp} {τ:SEnv} {σ:St} {J:It} {ds out:List D} {g:TG} {fg:FG} {ft:FT} {f:FE} {Fin:List V→Hp→Prop} (wk:Walk K J Ga ds) (hl:ds.length≤sizeLine) (Ka:EnvOk K n G0 H0 Ga Ha τ σ)
    (hf:lcGo fg ft f (τ++List.replicate k none) ds=some out)
    (kg:∀ G H d v τ' (Q:St→Hp→Prop),EnvOk K (n+k) G0 H0 G H (τ++List.replicate k none) (σ++List.replicate k none)→Rep K G d v→fg d (τ++List.replicate k none)=some τ'→(∀ ρ,EnvOk K (n+k) G0 H0 G H τ' (σ++ρ)→Q (σ++ρ) H)→g v (σ++List.replicate k none) H Q)
    (fin:∀ ys G H,Ext Ga Ha G H→Reps K G out ys→out.length≤sizeLine→Fin ys H) :
    ∃ W:Nat→Nat→List V→Hp→Prop,(∃ m,W 0 m [] Ha)∧lcTurn σ k J g (tST K (n+k) ft) (tSE K (n+k) f) W Fin:=by
  refine ⟨fun i m ys H=>m=ds.length - i∧i≤ds.length∧ys.length≤i∧∃ G done rest,Ext Ga Ha G H∧Reps K G done ys∧lcGo fg ft f (τ++List.replicate k none) (ds.drop i)=some rest∧done++rest=out,⟨ds.length,rfl,Nat.zero_le _,Nat.le_refl _,Ga,[],out,Ext.refl Ka.ext.gh,rfl,hf,rfl⟩,?_⟩
  rintro i m ys H ⟨rfl,hle,hys,G,done,rest,x,rd,hf,eo⟩
  by_cases hlt:i<ds.length
  · refine .inr ⟨wk.go i G H x.g x.gh hlt,by omega,fun ys H=>ys.length≤i+1∧∃ G done rest,Ext Ga Ha G H∧Reps K G done ys∧lcGo fg ft f (τ++List.replicate k none) (ds.drop (i+1))=some rest∧done++rest=out,fun ys' H' z=>⟨ds.length - (i+1),by omega,rfl,hlt,z.1,z.2⟩,fun v H' y=>?_⟩
    obtain ⟨G3,d,x3,ed,rv⟩:=wk.yld i G H v H' x.g x.gh hlt y
    rw [List.drop_eq_getElem_cons hlt] at hf
    rw [List.getElem?_eq_getElem hlt] at ed
    cases ed
    obtain ⟨τ1,h1,hf⟩:=bindE (show (fg _ _).bind _=_ from hf)
    obtain ⟨kk,h2,hf⟩:=bindE hf
    have K3:=((Ka.go x).go x3).more k
    refine kg G3 H' _ v τ1 _ K3 rv h1 fun ρ K4=>⟨⟨ρ,rfl⟩,_,_,_,_,kk,K4,h2,fun G5 H5 x5=>?_⟩
    cases kk with
    | false=>exact iteF ⟨by omega,G5,done,rest,x.trans (x3.trans x5),rd.mono (x3.g.trans x5.g),hf,eo⟩
    | true=>
      obtain ⟨z,hz,hf⟩:=bindE (show (f _).bind _=_ from hf)
      obtain ⟨more,hm,hf⟩:=bindE hf
      cases hf
      refine iteT ⟨_,_,_,_,z,K4.go x5,hz,fun u G6 H6 x6 r6=>⟨by rw [List.length_append]; exact Nat.succ_le_succ hys,G6,done++[z],more,x.trans (x3.trans (x5.trans x6)),(rd.mono (x3.g.trans (x5.g.trans x6.g))).append (Reps.one r6),hm,?_⟩⟩
      rw [List.append_assoc]
      exact eo
  · have e:ds.drop i=[]:=List.drop_eq_nil_of_le (by omega)
    rw [e] at hf
    cases hf
    rw [List.append_nil] at eo
    subst eo
    refine .inl ⟨wk.stop i G H x.g x.gh (by omega),fin ys G H x rd ?_⟩
    rw [← rd.length]
    omega
section
variable {X:Cx} {tg iter elt:Expr} {ifs:List Expr} {scope:Scope} {cl:List (Str×Addr)} {own:List Str} {pos:Pos} {fs:FA} {fg:FG} {ft:FT} {f:FE} {g:TG}
theorem set_tail {α:Type} (xs:List α) (y:α) (ys:List α) {n:Nat} (h:n=xs.length) (z:α):(xs++y::ys).set n z=xs++z::ys:=by
  subst h
  rw [List.set_append_right _ _ (Nat.le_refl _),Nat.sub_self]
  rfl
structure BG (X:Cx) (scope:Scope) (cl:List (Str×Addr)) (own:List Str) (tg:Expr) (g:TG) (fg:FG):Prop where
  q:∀ C s H fp pn,QG (cxBlk X scope cl own C s H fp pn) tg g
  k:∀ {G0 H0:Hp} {τ:SEnv} {σ:St},τ.length=X.N.length→σ.length=X.N.length→∀ G H d v τ' (Q:St→Hp→Prop),EnvOk X.K (X.N.length+own.length) G0 H0 G H (τ++List.replicate own.length none) (σ++List.replicate own.length none)→Rep X.K G d v→fg d (τ++List.replicate own.length none)=some τ'→
    (∀ ρ,EnvOk X.K (X.N.length+own.length) G0 H0 G H τ' (σ++ρ)→Q (σ++ρ) H)→g v (σ++List.replicate own.length none) H Q
theorem bg_one {x:Str} {i:Nat} (q:∀ C s H fp pn,QG (cxBlk X scope cl [x] C s H fp pn) tg (gName i)) (hi:i=X.N.length):BG X scope cl [x] tg (gName i) (gVar i):=⟨q,fun {G0 H0 τ σ} l1 l2 G H d v τ' Q E r hf k=>by
  cases hf
  have E':=E.set (i:=i) (v:=v) (by rw [hi]; exact Nat.lt_succ_self _) r
  have es:(σ++List.replicate 1 none).set i (some v)=σ++[some v]:=set_tail σ none [] (hi.trans l2.symm) (some v)
  show Q ((σ++List.replicate 1 none).set i (some v)) H
  rw [es]
  refine k [some v] ?_
  rw [← es]
  exact E'⟩
theorem bg_two {x y:Str} {i j:Nat} (q:∀ C s H fp pn,QG (cxBlk X scope cl [x,y] C s H fp pn) tg (gTup X.K 2 (gCons (gName i) (gCons (gName j) gNil)))) (hi:i=X.N.length) (hj:j=X.N.length+1):BG X scope cl [x,y] tg (gTup X.K 2 (gCons (gName i) (gCons (gName j) gNil))) (gTwo i j):=⟨q,fun {G0 H0 τ σ} l1 l2 G H d v τ' Q E r hf k=>by
  unfold gTwo at hf
  split at hf
  · rename_i d1 d2
    cases hf
    obtain ⟨a,vs,rfl,sq,⟨v1,r1,rfl,h1,⟨v2,r2,rfl,h2,h3⟩⟩,_⟩:=r
    cases (show r2=[] from h3)
    have E':=(E.set (i:=i) (v:=v1) (by rw [hi]; exact Nat.lt_add_of_pos_right (Nat.succ_pos _)) h1).set (i:=j) (v:=v2) (by rw [hj]; exact Nat.lt_succ_self _) h2
    have es:((σ++List.replicate 2 none).set i (some v1)).set j (some v2)=σ++[some v1,some v2]:=by
      have e1:(σ++List.replicate 2 none).set i (some v1)=σ++[some v1,none]:=set_tail σ none [none] (hi.trans l2.symm) (some v1)
      rw [e1]
      have e2:σ++[some v1,none]=(σ++[some v1])++[none]:=by simp
      rw [e2,set_tail (σ++[some v1]) none [] (by rw [List.length_append,hj,l2]; rfl) (some v2)]
      simp
    refine ⟨a,_,rfl,sqT_mono E.ext.gh sq,rfl,v1,_,rfl,v2,_,rfl,rfl,?_⟩
    show Q (((σ++List.replicate 2 none).set i (some v1)).set j (some v2)) H
    rw [es]
    refine k [some v1,some v2] ?_
    rw [← es]
    exact E'
  · cases hf⟩
theorem blk_len (X:Cx) (own:List Str):(blkN X.N own).length=X.N.length+own.length:=by
  unfold blkN
  rw [List.length_append,List.length_map]
theorem blk_pe {C:Addr} {s:Shared} {H:Hp} {fp:List Addr} {pn:List (Addr×Obj)} (h:SE (cxBlk X scope cl own C s H fp pn) elt f):PE (cxBlk X scope cl own C s H fp pn) elt (tSE X.K (X.N.length+own.length) f):=by
  have q:=h.pe
  rw [show (cxBlk X scope cl own C s H fp pn).N.length=X.N.length+own.length from blk_len X own] at q
  exact q
theorem blk_pts {C:Addr} {s:Shared} {H:Hp} {fp:List Addr} {pn:List (Addr×Obj)} (h:STs (cxBlk X scope cl own C s H fp pn) ifs ft):PTs (cxBlk X scope cl own C s H fp pn) ifs (tST X.K (X.N.length+own.length) ft):=by
  have q:=h.h
  rw [show (cxBlk X scope cl own C s H fp pn).N.length=X.N.length+own.length from blk_len X own] at q
  exact q
theorem sf_lc (hcalm:X.calm=true) (B:Blk X scope cl own) (hi:SI X tg iter fs) (hg:BG X scope cl own tg g fg) (hc:∀ C s H fp pn,STs (cxBlk X scope cl own C s H fp pn) ifs ft)
    (he:∀ C s H fp pn,SE (cxBlk X scope cl own C s H fp pn) elt f) (hs:∀ x,foldedSetIterable iter X.env x=pure x:=by intro _; rfl) :
    SF X (.ListComp elt [⟨tg,iter,ifs,0⟩] scope pos) (eLc own.length fs fg ft f):=by
  obtain ⟨ti,pi,ki⟩:=hi.h
  refine ⟨⟨_,pe_lc hcalm B pi (fun C s H fp pn=>(hg.q C s H fp pn).h) (fun C s H fp pn=>blk_pts (hc C s H fp pn)) (fun C s H fp pn=>blk_pe (he C s H fp pn)) hs,fun {G0 H0 G H τ σ d Q} K hf q=>?_⟩⟩
  obtain ⟨ds,hd,hf⟩:=bindE hf
  obtain ⟨out,ho,hf⟩:=bindE hf
  cases hf
  refine ki K hd fun J Ga Ha xa l wk=>lc_walk wk l (K.go xa) ho (hg.k K.l2 K.l1) fun ys G1 H1 x1 r1 l1 p hp=>?_
  exact q p _ _ (xa.trans (x1.trans (Ext.layO x1.gh hp))) (xa.h.free (x1.h.free hp)) (x1.gh.free hp) ⟨ys,upd_same,r1,l1⟩
theorem ss_lcO {i:Nat} {x:Str} {px spos:Pos} (hcalm:X.calm=true) (hN:X.N.Nodup) (hix:X.N[i]?=some x) (hx:X.env.scope.names.lookup x=some .local) (B:Blk X scope cl own)
    (hsw:swapsWith (.ListComp elt [⟨tg,iter,ifs,0⟩] scope pos) (some (.Name x px)) spos.line X.env=pure true) (hi:SI X tg iter fs) (hg:BG X scope cl own tg g fg) (hc:∀ C s H fp pn,STs (cxBlk X scope cl own C s H fp pn) ifs ft)
    (he:∀ C s H fp pn,SE (cxBlk X scope cl own C s H fp pn) elt f) (hs:∀ x,foldedSetIterable iter X.env x=pure x:=by intro _; rfl) :
    SS X (.Assign [.Name x px] (.ListComp elt [⟨tg,iter,ifs,0⟩] scope pos) spos) (sSetO i (eLc own.length fs fg ft f)):=by
  obtain ⟨ti,pi,ki⟩:=hi.h
  refine ⟨⟨_,ps_setLc hcalm hN hix hx B hsw pi (fun C s H fp pn=>(hg.q C s H fp pn).h) (fun C s H fp pn=>blk_pts (hc C s H fp pn)) (fun C s H fp pn=>blk_pe (he C s H fp pn)) hs,fun {G0 H0 G H τ σ fl E} K hf q=>?_⟩⟩
  obtain ⟨d,hf1,hf⟩:=bindE hf
  cases hf
  obtain ⟨ds,hd,hf1⟩:=bindE hf1
  obtain ⟨out,ho,hf1⟩:=bindE hf1
  cases hf1
  refine ki K hd fun J Ga Ha xa l wk=>lc_walk wk l (K.go xa) ho (hg.k K.l2 K.l1) fun ys G1 H1 x1 r1 l1 p hp=>?_
  have K1:=(K.go xa).go x1
  have K2:=K1.go (Ext.layO (o:=.lst ys) x1.gh hp)
  exact q _ _ _ (K2.setO (List.getElem?_eq_some_iff.mp hix).1 (x1.gh.free hp) (K1.ext.h.free hp) ⟨ys,upd_same,r1,l1⟩ (K1.newO hp))
theorem ss_lc {i:Nat} {x:Str} {px spos:Pos} (hcalm:X.calm=true) (hN:X.N.Nodup) (hix:X.N[i]?=some x) (hx:X.env.scope.names.lookup x=some .local) (B:Blk X scope cl own)
    (hsw:swapsWith (.ListComp elt [⟨tg,iter,ifs,0⟩] scope pos) (some (.Name x px)) spos.line X.env=pure true) (hi:SI X tg iter fs) (hg:BG X scope cl own tg g fg) (hc:∀ C s H fp pn,STs (cxBlk X scope cl own C s H fp pn) ifs ft)
    (he:∀ C s H fp pn,SE (cxBlk X scope cl own C s H fp pn) elt f) (hs:∀ x,foldedSetIterable iter X.env x=pure x:=by intro _; rfl) :
    SS X (.Assign [.Name x px] (.ListComp elt [⟨tg,iter,ifs,0⟩] scope pos) spos) (sSet i (eLc own.length fs fg ft f)):=by
  obtain ⟨ti,pi,ki⟩:=hi.h
  refine ⟨⟨_,ps_setLc hcalm hN hix hx B hsw pi (fun C s H fp pn=>(hg.q C s H fp pn).h) (fun C s H fp pn=>blk_pts (hc C s H fp pn)) (fun C s H fp pn=>blk_pe (he C s H fp pn)) hs,fun {G0 H0 G H τ σ fl E} K hf q=>?_⟩⟩
  obtain ⟨d,hf1,hf⟩:=bindE hf
  cases hf
  obtain ⟨ds,hd,hf1⟩:=bindE hf1
  obtain ⟨out,ho,hf1⟩:=bindE hf1
  cases hf1
  refine ki K hd fun J Ga Ha xa l wk=>lc_walk wk l (K.go xa) ho (hg.k K.l2 K.l1) fun ys G1 H1 x1 r1 l1 p hp=>?_
  have K2:=((K.go xa).go x1).go (Ext.lay (o:=.lst ys) x1.gh hp)
  exact q _ _ _ (K2.set (List.getElem?_eq_some_iff.mp hix).1 ⟨p,ys,rfl,SqL.of upd_same,r1.mono (same_new (x1.gh.free hp) _),l1⟩)
end
section
variable {K:PySem.W.Frag} {n:Nat} {G0 H0 G H:Hp} {τ:SEnv} {σ:St}
theorem EnvOk.mut {i:Nat} {d d':D} {p:Addr} {o:HO} (E:EnvOk K n G0 H0 G H τ σ) (hi:τ[i]?=some (some (true,d))) (hp:σ[i]?=some (some (.ref p))) (new:OwnAt K G (upd H p o) d' p):EnvOk K n G0 H0 G (upd H p o) (τ.set i (some (true,d'))) σ:=by
  obtain ⟨p',e,g,z,_⟩:=E.ow i d hi
  rw [hp] at e
  cases e
  have keep:∀ {H1:Hp},H1 p=none→Same H1 H→Same H1 (upd H p o):=fun {H1} h s b u q=>by
    rw [upd_ne (ne_of_none q h)]
    exact s _ _ q
  refine ⟨⟨E.ext.g,keep z E.ext.h,keep g E.ext.gh,E.ext.new⟩,E.l1,by rw [List.length_set]; exact E.l2,fun j e h=>?_,fun j e h=>?_,fun j k e f q hne h1 h2 h3 h4=>?_⟩
  · rcases set_get h with ⟨rfl,w⟩ | ⟨ne,w⟩
    · cases w
    · exact E.fr j e w
  · rcases set_get h with ⟨rfl,w⟩ | ⟨ne,w⟩
    · cases w
      exact ⟨p,hp,g,z,new⟩
    · obtain ⟨q,eq,gq,zq,oq⟩:=E.ow j e w
      refine ⟨q,eq,gq,zq,?_⟩
      have hne:q≠p:=fun c=>by
        subst c
        exact E.ap i j d e q (fun c=>ne c.symm) hi w hp eq
      cases e with
      | lst ds=>obtain ⟨vs,ev,r⟩:=oq; exact ⟨vs,by rw [upd_ne hne]; exact ev,r⟩
      | dic ks ds=>obtain ⟨vs,ev,r⟩:=oq; exact ⟨vs,by rw [upd_ne hne]; exact ev,r⟩
      | _=>exact oq.elim
  · have t:∀ {j:Nat} {e:D},(τ.set i (some (true,d')))[j]?=some (some (true,e))→∃ e,τ[j]?=some (some (true,e)):=fun {j e} h=>by
      rcases set_get h with ⟨rfl,_⟩ | ⟨_,w⟩
      · exact ⟨_,hi⟩
      · exact ⟨_,w⟩
    obtain ⟨e1,w1⟩:=t h1
    obtain ⟨e2,w2⟩:=t h2
    exact E.ap j k e1 e2 q hne w1 w2 h3 h4
end
section
variable {X:Cx} {x:Str} {xp pos apos cpos:Pos} {e:Expr} {f:FE}
theorem ss_append {i:Nat} (ho:QE X (.Name x xp) (tVar i)) (he:SE X e f) (hbase:attributeBase (.Name x xp) "append" X.env (eval (.Name x xp) X.env)=eval (.Name x xp) X.env:=by rfl) (hline:(apos.endLine == cpos.line)=true:=by rfl) (hs:noStar e=true:=by rfl) :
    SS X (.Expr (.Call (.Attribute (.Name x xp) "append" apos) [e] [] cpos) pos) (sMut1 i fApp f):=by
  obtain ⟨t,p,k⟩:=(sa_cons he sa_nil hs).h
  refine ⟨⟨_,(qs_expr (qe_bm PySem.F.plainAttrs_list PySem.F.slot_list_append PySem.F.type_list_append mt_append ho ⟨p⟩ hbase hline (by rw [List.all_cons,hs]; rfl) (by show 1<30; decide)) rfl).h,fun {G0 H0 G H τ σ fl E} K hf q=>?_⟩⟩
  unfold sMut1 at hf
  split at hf
  · rename_i d hd
    obtain ⟨y,hy,hf⟩:=bindE hf
    obtain ⟨d',hd',hf⟩:=bindE hf
    cases hf
    obtain ⟨a,ea,g,z,o⟩:=K.ow _ _ hd
    cases d with
    | lst ds=>
      obtain ⟨vs,ev,rs,l⟩:=o
      refine ⟨_,ea,.inl ⟨rfl,vs,SqL.of ev⟩,k K (ds:=[y]) (by unfold aCons; rw [hy]; rfl) fun us G1 H1 x1 r1=>?_⟩
      obtain ⟨u,r,rfl,hu,hr⟩:=r1
      cases (show r=[] from hr)
      change (if ds.length<LIM then some (D.lst (ds++[y])) else none)=some d' at hd'
      by_cases c:ds.length<LIM
      · rw [if_pos c] at hd'
        cases hd'
        refine ⟨a,vs,u,rfl,rfl,x1.h _ _ ev,by rw [rs.length,sizeLine_eq]; exact c,?_⟩
        refine q _ _ _ ((K.go x1).mut hd ea ⟨vs++[u],upd_same,(rs.mono x1.g).append (Reps.one hu),?_⟩)
        rw [List.length_append,sizeLine_eq]
        exact c
      · rw [if_neg c] at hd'
        cases hd'
    | _=>cases hd'
  · cases hf
end
section
variable {P:Program} {w:World} {K:PySem.W.Frag} {mg:Str→Option Value} {base:Heap}
theorem map_get {α β:Type} {ds:List α} {k i:Nat} {h:α→Option β} {y:β} (e:(ds.map h++List.replicate k none)[i]?=some (some y)):∃ d,ds[i]?=some d∧h d=some y:=by
  have e':=get_tail e
  rw [List.getElem?_map] at e'
  cases q:ds[i]? with
  | none=>rw [q] at e'; cases e'
  | some d=>
    rw [q] at e'
    exact ⟨d,rfl,Option.some.inj e'⟩
theorem env_start {N:List Str} {G H:Hp} {ds:List D} {vs:List V} (s:Same G H) (r:Reps K G ds vs) (hl:ds.length≤N.length):EnvOk K N.length G H G H (ds.map (fun d=>some (false,d))++List.replicate (N.length - ds.length) none) (L2.start N vs):=by
  have l:=r.length
  refine ⟨Ext.refl s,?_,?_,fun i d h=>?_,fun i d h=>?_,fun i j d e p _ h1=>?_⟩
  · unfold L2.start
    rw [List.length_append,List.length_map,List.length_replicate]
    omega
  · rw [List.length_append,List.length_map,List.length_replicate]
    omega
  · obtain ⟨d',e,z⟩:=map_get h
    cases z
    obtain ⟨v,ev,rv⟩:=r.get e
    refine ⟨v,?_,rv⟩
    unfold L2.start
    rw [List.getElem?_append_left (by rw [List.length_map]; exact (List.getElem?_eq_some_iff.mp ev).1),List.getElem?_map,ev]
    rfl
  · obtain ⟨d',e,z⟩:=map_get h
    cases z
  · obtain ⟨d',e,z⟩:=map_get h1
    cases z
theorem Def.okS {x:Str} {st:Stmt} {N ps:List Str} {k:Nat} {F:List D→Option (Bool×D)} {b:FS} (d:Def K mg x st ps) (S:FnScope N ps (defScope st)) (hN:ps.length≤N.length) (hF:∀ ds r,F ds=some r→ds.length=ps.length∧runF N.length b ds=some r)
    (hb:∀ (f:Addr) (cdv:Value) (A:Around) (outer:List Env) (s:Shared) (H:Hp) (E:XK),Room k (A.deeper (envOfC x (defScope st) s.heap.objs.size f cdv))→SSs (cxOf CX0 P w K mg base N x (defScope st) f cdv A outer s H E).nox (defBody st) b):Has P w K mg base x ps (k+1) (spF K F):=by
  refine d.ok S (fun vs H Q E h=>?_) fun f cdv A outer s H vs Q E hr h=>?_
  · obtain ⟨G,ds,o,dd,_,r,e,_⟩:=h
    rw [r.length,(hF _ _ e).1]
  · obtain ⟨G,ds,o,dd,s',r,e,q⟩:=h
    obtain ⟨l,hrun⟩:=hF _ _ e
    obtain ⟨t,p,kt⟩:=(hb f cdv A outer s H E hr).h
    obtain ⟨fl,hfl,hrun⟩:=bindE hrun
    refine ⟨t,p,kt (env_start (N:=N) s' r (by omega)) hfl ?_⟩
    cases fl with
    | nx τ=>
      cases hrun
      exact fun σ G' H' z=>q .non G' H' z.ext rfl
    | rt o' d'=>
      cases hrun
      cases o with
      | false=>exact q
      | true=>exact q
    | _=>cases hrun
end
end L3
namespace L3
open PySem PySem.Spec PyProof.Rows L2
section
variable {P:Program} {w:World} {K:PySem.W.Frag} {mg:Str→Option Value} {base:Heap}
end
end L3
namespace L3
open PySem PySem.Spec PyProof.Rows L2
section
variable {X:Cx} {K:PySem.W.Frag}
theorem ok_I {C:Int→Int→Prop} {Cb:Int→Int→Bool} {g:Int→Int→Int} (h:∀ i j,Cb i j=true→C i j):Ok2 K (rI C fun i j=>.int (g i j)) (fI Cb g):=fun G H x y u v d Q s rx ry hf q=>by
  cases x<;>first | (cases hf; done) | skip
  cases y<;>first | (cases hf; done) | skip
  rename_i i j
  change (match Cb i j with | true=>some (D.int (g i j)) | false=>none)=some d at hf
  cases c:Cb i j with
  | false=>rw [c] at hf; cases hf
  | true=>
    rw [c] at hf
    cases hf
    exact ⟨i,j,rx,ry,h i j c,q _ _ _ (Ext.refl s) rfl⟩
theorem ok_sub:Ok2 K (rI0 fun i j=>.int (i - j)) fSub:=fun G H x y u v d Q s rx ry hf q=>by
  cases x<;>first | (cases hf; done) | skip
  cases y<;>first | (cases hf; done) | skip
  cases hf
  exact ⟨_,_,rx,ry,q _ _ _ (Ext.refl s) rfl⟩
theorem lt64_of {i:Int} (h:lt64 i=true) : -(2 ^ 64)<i∧i<2 ^ 64:=by
  unfold lt64 at h
  rw [Bool.and_eq_true] at h
  exact ⟨of_decide_eq_true h.1,of_decide_eq_true h.2⟩
theorem ok_mulL:Ok2 K (rI CMul fun i j=>.int (i*j)) fMulL:=ok_I fun _ _ h=>.inl (lt64_of h)
theorem ok_mulR:Ok2 K (rI CMul fun i j=>.int (i*j)) fMulR:=ok_I fun _ _ h=>.inr (lt64_of h)
theorem ok_mod:Ok2 K (rI (fun _ j=>0<j) fun i j=>.int (i % j)) fMod:=ok_I fun _ _ h=>of_decide_eq_true h
theorem ok_div:Ok2 K (rI (fun _ j=>0<j∧j<2 ^ 64) fun i j=>.int (i / j)) fDiv:=ok_I fun _ _ h=>by
  rw [Bool.and_eq_true] at h
  exact ⟨of_decide_eq_true h.1,of_decide_eq_true h.2⟩
theorem powOk_of {i j:Int} (h:powOk i j=true):CPow i j:=by
  unfold powOk at h
  rw [Bool.and_eq_true,Bool.and_eq_true] at h
  exact ⟨of_decide_eq_true h.1,of_decide_eq_true h.2.1,of_decide_eq_true h.2.2⟩
theorem ok_shl:Ok2 K (rI CPow fun i j=>.int (i*2 ^ j.toNat)) fShl:=ok_I fun _ _ h=>powOk_of h
theorem ok_cmp {g:Int→Int→Bool}:Ok2B K (rI0 fun i j=>.bl (g i j)) (fCmp g):=fun H x y u v d Q rx ry hf=>by
  cases x<;>first | (cases hf; done) | skip
  cases y<;>first | (cases hf; done) | skip
  cases hf
  exact ⟨_,rfl,fun q=>⟨_,_,rx,ry,q⟩⟩
theorem isNon_of {H:Hp} {x:D} {u:V} (r:Rep K H x u):isNon x=decide (u=.non):=by
  cases x with
  | non=>cases r; rfl
  | bl b=>cases r; rfl
  | int b=>cases r; rfl
  | str b=>obtain ⟨rfl,_⟩:=r; rfl
  | tup b=>obtain ⟨a,vs,rfl,_⟩:=r; rfl
  | lst b=>obtain ⟨a,vs,rfl,_⟩:=r; rfl
  | dic b c=>obtain ⟨a,vs,rfl,_⟩:=r; rfl
  | exc b=>obtain ⟨a,C,rfl,_⟩:=r; rfl
  | obj b c e=>obtain ⟨a,C,dx,vs,rfl,_⟩:=r; rfl
theorem ok_isN:Ok2B K (fun x y H Q=>y=.non∧Q (.bl (decide (x=.non))) H) fIsN:=fun H x y u v d Q rx ry hf=>by
  cases y<;>first | (cases hf; done) | skip
  have e:=isNon_of rx
  refine ⟨isNon x,(Option.some.inj hf).symm,fun q=>⟨ry,?_⟩⟩
  rw [← e]
  exact q
theorem ok_notN:Ok2B K (fun x y H Q=>y=.non∧Q (.bl (!decide (x=.non))) H) fNotN:=fun H x y u v d Q rx ry hf=>by
  cases y<;>first | (cases hf; done) | skip
  have e:=isNon_of rx
  refine ⟨!isNon x,(Option.some.inj hf).symm,fun q=>⟨ry,?_⟩⟩
  rw [← e]
  exact q
theorem unI_neg:∀ (G H:Hp) x u d (Q:VK),Rep K G x u→fNeg x=some d→∃ w,(∀ G,Rep K G d w)∧(Q w H→rU (fun i=>.int (-i)) u H Q):=fun G H x u d Q r hf=>by
  cases x<;>first | (cases hf; done) | skip
  cases hf
  exact ⟨_,fun _=>rfl,fun q=>⟨_,r,q⟩⟩
noncomputable def rCatS (K:PySem.W.Frag):R2:=fun x y H Q=>∃ l b xs zs,x=.ref l∧y=.ref b∧SqL K H l xs∧SqL K H b zs∧xs.length+zs.length≤sizeLine∧∀ p,H p=none→Q (.ref p) (upd H p (.lst (xs++zs)))
theorem op_catS:OpR X (binaryOp .Add) (rCatS X.K):=by
  intro pins s σ H x y v u Q I rx ry h
  obtain ⟨l,b,xs,zs,rfl,rfl,hl,hb,hz,q⟩:=h
  cases rx
  cases ry
  obtain ⟨its,r1,p1,_⟩:=I.list hl
  obtain ⟨its2,r2,p2,_⟩:=I.list hb
  obtain ⟨⟨c1,d1,t1,sl1⟩,n1,ho1,hc1,hd1,ht1⟩:=p1
  obtain ⟨⟨c2,d2,t2,sl2⟩,n2,ho2,hc2,hd2,ht2⟩:=p2
  simp only at hc1 ht1 hc2 ht2
  subst hc1 ht1 hc2 ht2
  refine concat_meets ⟨_,ho1,rfl⟩ ⟨_,ho2,rfl⟩ noFill_list_add seq_list_add PySem.F.slot_list_add PySem.F.entry_list_add (PySem.F.args_list_add_2 _ _)
    (list_addW l b its.toArray its2.toArray n1 n2 d1 d2 sl1 sl2 (by rw [List.size_toArray,List.size_toArray,← r1.length,← r2.length]; exact hz)) ⟨ho1,ho2,?_⟩
  rw [show its.toArray++its2.toArray=(its++its2).toArray by simp]
  exact ⟨.ref _,_,I.lnew (t':=s.toks) (r1.append r2) (by rw [List.length_append]; exact hz),rfl,q _ I.fresh⟩
noncomputable def rAddA (K:PySem.W.Frag):R2:=fun x y H Q=>rI0 (fun i j=>.int (i+j)) x y H Q∨(∃ i k,x=.int i∧y=.bl k∧Q (.int (i+b2i k)) H)∨(∃ i j,x=.str i∧y=.str j∧i.length+j.length≤sizeLine∧Q (.str (i++j)) H)∨rCatS K x y H Q∨rCatT K x y H Q
theorem op_addA:OpR X (binaryOp .Add) (rAddA X.K):=op_add.or (op_add_ib.or (op_add_str.or (op_catS.or op_catT)))
theorem ok_add:Ok2 K (rAddA K) fAdd:=fun G H x y u v d Q s rx ry hf q=>by
  cases x<;>cases y<;>first | (cases hf; done) | skip
  · rename_i i b
    cases rx
    cases ry
    cases hf
    refine .inr (.inl ⟨i,b,rfl,rfl,?_⟩)
    have e:i+b2i b=i+(if b then 1 else 0):=by cases b<;>rfl
    rw [e]
    exact q _ _ _ (Ext.refl s) rfl
  · cases hf
    exact .inl ⟨_,_,rx,ry,q _ _ _ (Ext.refl s) rfl⟩
  · rename_i i j
    obtain ⟨rfl,l1⟩:=rx
    obtain ⟨rfl,l2⟩:=ry
    change (if i.length+j.length≤LIM then _ else _)=_ at hf
    by_cases c:i.length+j.length≤LIM
    · rw [if_pos c] at hf
      cases hf
      have c':i.length+j.length≤sizeLine:=by rw [sizeLine_eq]; exact c
      exact .inr (.inr (.inl ⟨i,j,rfl,rfl,c',q _ _ _ (Ext.refl s) ⟨rfl,by rw [strLen_append]; exact c'⟩⟩))
    · rw [if_neg c] at hf
      cases hf
  · rename_i xs ys
    obtain ⟨a,vs,rfl,sa,ra,_⟩:=rx
    obtain ⟨b,us,rfl,sb,rb,_⟩:=ry
    change (if xs.isEmpty=false∧xs.length+ys.length≤LIM then _ else _)=_ at hf
    by_cases c0:xs.isEmpty=false∧xs.length+ys.length≤LIM
    · rw [if_pos c0] at hf
      have c:=c0.2
      cases hf
      have c':(xs++ys).length≤sizeLine:=by rw [sizeLine_eq,List.length_append]; exact c
      have hx:vs≠[]:=fun e=>by
        have l:=ra.length
        rw [e] at l
        cases xs with
        | nil=>cases c0.1
        | cons=>cases l
      · refine .inr (.inr (.inr (.inr ⟨a,b,vs,us,rfl,rfl,sqT_mono s sa,sqT_mono s sb,hx,by rw [ra.length,rb.length,sizeLine_eq]; exact c,fun e=>?_,fun e p hp=>?_⟩)))
        · subst e
          have e2:ys=[]:=by
            cases ys with
            | nil=>rfl
            | cons=>obtain ⟨_,_,z,_⟩:=rb; cases z
          subst e2
          exact q _ _ _ (Ext.refl s) ⟨a,vs,rfl,sa,by rw [List.append_nil]; exact ra,c'⟩
        · exact q _ _ _ (Ext.lay s hp) ⟨p,vs++us,rfl,SqT.of upd_same,(ra.append rb).mono (same_new (s.free hp) _),c'⟩
    · rw [if_neg c0] at hf
      cases hf
  · rename_i xs ys
    obtain ⟨a,vs,rfl,sa,ra,_⟩:=rx
    obtain ⟨b,us,rfl,sb,rb,_⟩:=ry
    change (if xs.length+ys.length≤LIM then _ else _)=_ at hf
    by_cases c:xs.length+ys.length≤LIM
    · rw [if_pos c] at hf
      cases hf
      have c':(xs++ys).length≤sizeLine:=by rw [sizeLine_eq,List.length_append]; exact c
      refine .inr (.inr (.inr (.inl ⟨a,b,vs,us,rfl,rfl,sqL_mono s sa,sqL_mono s sb,by rw [ra.length,rb.length,sizeLine_eq]; exact c,fun p hp=>?_⟩)))
      exact q _ _ _ (Ext.lay s hp) ⟨p,vs++us,rfl,SqL.of upd_same,(ra.append rb).mono (same_new (s.free hp) _),c'⟩
    · rw [if_neg c] at hf
      cases hf
theorem atI_map {α:Type} {xs:List α} {i:Int} {x:α} (h:atI xs i=some x):∃ j:Nat,xs[j]?=some x∧∀ {β:Type} (ys:List β),ys.length=xs.length→atI ys i=ys[j]?:=by
  unfold atI at h
  cases e:ixN xs.length i with
  | none=>rw [e] at h; cases h
  | some j=>
    rw [e] at h
    exact ⟨j,h,fun ys l=>by unfold atI; rw [l,e]; rfl⟩
theorem atI_D {α:Type} (xs:List α) (i:Int):atI xs i=atD xs i:=by
  unfold atI atD ixN
  by_cases h:0≤i
  · rw [if_pos h,if_pos h]
    by_cases h2:i<xs.length
    · rw [if_pos h2]; rfl
    · rw [if_neg h2]
      exact (List.getElem?_eq_none (by omega)).symm
  · rw [if_neg h,if_neg h]
    split<;>rfl
theorem reps_atI {H:Hp} {ds:List D} {vs:List V} {i:Int} {d:D} (r:Reps K H ds vs) (h:atD ds i=some d):∃ v,atI vs i=some v∧Rep K H d v:=by
  rw [← atI_D] at h
  obtain ⟨j,e,k⟩:=atI_map h
  obtain ⟨v,ev,rv⟩:=r.get e
  exact ⟨v,by rw [k vs r.length]; exact ev,rv⟩
noncomputable def fIx0:D→D→Option D
  | .lst xs,.int i=>atD xs i
  | .tup xs,.int i=>atD xs i
  | .str z,.int i=>(atD z.cps.toList i).bind fun c=>some (.str ⟨#[c]⟩)
  | _,_=>none
theorem ok_ix0:Ok2 K (rIx K) fIx0:=fun G H x y u v d Q s rx ry hf q=>by
  cases x<;>first | (cases hf; done) | skip
  all_goals (cases y<;>first | (cases hf; done) | skip)
  · rename_i z i
    obtain ⟨rfl,l⟩:=rx
    cases ry
    obtain ⟨c,hc,hf⟩:=bindE hf
    cases hf
    rw [← atI_D] at hc
    exact .inr (.inr ⟨z,i,c,rfl,rfl,l,hc,q _ _ _ (Ext.refl s) ⟨rfl,small (n:=1) (by decide)⟩⟩)
  · rename_i xs i
    obtain ⟨a,vs,rfl,sa,ra,_⟩:=rx
    cases ry
    obtain ⟨w,hw,rw_⟩:=reps_atI ra hf
    exact .inr (.inl ⟨a,vs,i,w,rfl,rfl,sqT_mono s sa,hw,q _ _ _ (Ext.refl s) rw_⟩)
  · rename_i xs i
    obtain ⟨a,vs,rfl,sa,ra,_⟩:=rx
    cases ry
    obtain ⟨w,hw,rw_⟩:=reps_atI ra hf
    exact .inl ⟨a,vs,i,w,rfl,rfl,sqL_mono s sa,hw,q _ _ _ (Ext.refl s) rw_⟩
theorem call_lenS:CallR X (.builtin "len") (fun xs H Q=>(∃ p ys,xs=[.ref p]∧(SqL X.K H p ys∨SqT X.K H p ys)∧Q (.int ys.length) H)∨∃ z,xs=[.str z]∧z.length≤sizeLine∧Q (.int z.length) H):=call_len_seq.or call_len_str
theorem ok_len:OkCB K (fun xs H Q=>(∃ p ys,xs=[.ref p]∧(SqL K H p ys∨SqT K H p ys)∧Q (.int ys.length) H)∨∃ z,xs=[.str z]∧z.length≤sizeLine∧Q (.int z.length) H) fLen:=fun G H ds vs d Q s r hf q=>by
  match ds,hf with
  | [.lst xs],hf=>
    cases hf
    obtain ⟨v,r',rfl,⟨a,us,rfl,sq,ru,_⟩,h2⟩:=r
    cases (show r'=[] from h2)
    exact .inl ⟨a,us,rfl,.inl sq,by rw [ru.length]; exact q _ _ _ (Ext.refl s) rfl⟩
  | [.tup xs],hf=>
    cases hf
    obtain ⟨v,r',rfl,⟨a,us,rfl,sq,ru,_⟩,h2⟩:=r
    cases (show r'=[] from h2)
    exact .inl ⟨a,us,rfl,.inr sq,by rw [ru.length]; exact q _ _ _ (Ext.refl s) rfl⟩
  | [.str z],hf=>
    cases hf
    obtain ⟨v,r',rfl,⟨rfl,l⟩,h2⟩:=r
    cases (show r'=[] from h2)
    exact .inr ⟨z,rfl,l,q _ _ _ (Ext.refl s) rfl⟩
theorem ok_int:OkCB K (fun xs H Q=>(∃ i,xs=[.int i]∧Q (.int i) H)∨∃ k,xs=[.bl k]∧Q (.int (if k then 1 else 0)) H) fInt:=fun G H ds vs d Q s r hf q=>by
  match ds,hf with
  | [.int i],hf=>
    cases hf
    obtain ⟨v,r',rfl,rfl,h2⟩:=r
    cases (show r'=[] from h2)
    exact .inl ⟨i,rfl,q _ _ _ (Ext.refl s) rfl⟩
  | [.bl k],hf=>
    cases hf
    obtain ⟨v,r',rfl,rfl,h2⟩:=r
    cases (show r'=[] from h2)
    exact .inr ⟨k,rfl,q _ _ _ (Ext.refl s) rfl⟩
end
end L3
namespace L3
open PySem PySem.Spec PyProof.Rows L2
theorem dEqs_range:∀ xs ys:List D,(((List.range (min xs.length ys.length)).all fun j=>dEq (xs.getD j .non) (ys.getD j .non))&&xs.length == ys.length)=dEqs xs ys
  | [],[]=>rfl
  | [],_::_=>rfl
  | _::_,[]=>rfl
  | x::xs,y::ys=>by
    have ih:=dEqs_range xs ys
    show _=(dEq x y&&dEqs xs ys)
    rw [← ih,List.length_cons,List.length_cons,Nat.succ_min_succ,List.range_succ_eq_map,List.all_cons,List.all_map,Bool.and_assoc]
    congr 1
    congr 1
    rw [Bool.eq_iff_iff]
    simp
theorem cmpAll_at {f:D→D→Bool}:∀ {xs ys:List D},cmpAll f xs ys=true→∀ (j:Nat) x y,xs[j]?=some x→ys[j]?=some y→f x y=true
  | [],_,_,j,x,y,e,_=>by cases e
  | x::xs,[],_,j,_,y,_,e=>by cases e
  | x::xs,y::ys,h,0,_,_,e1,e2=>by
    cases e1
    cases e2
    have h':(f x y&&cmpAll f xs ys)=true:=h
    rw [Bool.and_eq_true] at h'
    exact h'.1
  | x::xs,y::ys,h,j+1,a,b,e1,e2=>by
    have h':(f x y&&cmpAll f xs ys)=true:=h
    rw [Bool.and_eq_true] at h'
    exact cmpAll_at h'.2 j a b (by simpa using e1) (by simpa using e2)
section
variable {X:Cx} {pins:List (Addr×Obj)} {σ:St} {H:Hp} {s:Shared} {K:PySem.W.Frag}
theorem eqs_of {n:Nat} (ih:∀ d1 d2 v,cmpOk n d1 d2=true→Rep K H d1 v→Rep K H d2 v→dEq d1 d2=true):∀ {xs ys:List D} {vs:List V},cmpAll (cmpOk n) xs ys=true→Reps K H xs vs→Reps K H ys vs→dEqs xs ys=true
  | [],[],_,_,_,_=>rfl
  | [],_::_,_,_,r1,r2=>by
    cases (show _=[] from r1)
    obtain ⟨_,_,e,_⟩:=r2
    cases e
  | _::_,[],_,_,r1,r2=>by
    cases (show _=[] from r2)
    obtain ⟨_,_,e,_⟩:=r1
    cases e
  | x::xs,y::ys,_,h,r1,r2=>by
    obtain ⟨v,r,rfl,a,b⟩:=r1
    obtain ⟨v',r',e,a',b'⟩:=r2
    cases e
    have h':(cmpOk n x y&&cmpAll (cmpOk n) xs ys)=true:=h
    rw [Bool.and_eq_true] at h'
    show (dEq x y&&dEqs xs ys)=true
    rw [ih x y v h'.1 a a',eqs_of ih h'.2 b b']
    rfl
theorem cmp_cases {n:Nat} {x y:D} (h:cmpOk (n+1) x y=true):(∃ xs ys,x=.tup xs∧y=.tup ys∧cmpAll (cmpOk n) xs ys=true)∨(∃ xs ys,x=.lst xs∧y=.lst ys∧cmpAll (cmpOk n) xs ys=true)∨(flatD x=true∧flatD y=true):=by
  unfold cmpOk at h
  split at h
  · exact .inl ⟨_,_,rfl,rfl,h⟩
  · exact .inr (.inl ⟨_,_,rfl,rfl,h⟩)
  · rw [Bool.and_eq_true] at h
    exact .inr (.inr h)
theorem rep_flat {d:D} {v:V} (h:flatD d=true) (r:Rep K H d v):flatV v=true:=by
  cases d<;>first | exact absurd h Bool.false_ne_true | skip
  · cases (show v=_ from r); rfl
  · cases (show v=_ from r); rfl
  · cases (show v=_ from r); rfl
  · cases (show v=_∧_ from r).1; rfl
theorem rep_eqV {d1 d2:D} {x y:V} (h1:flatD d1=true) (h2:flatD d2=true) (r1:Rep K H d1 x) (r2:Rep K H d2 y):eqV x y=dEq d1 d2:=by
  cases d1<;>first | exact absurd h1 Bool.false_ne_true | skip
  all_goals (cases d2<;>first | exact absurd h2 Bool.false_ne_true | skip)
  all_goals first
    | (cases (show x=_ from r1); cases (show y=_ from r2); rfl)
    | (cases (show x=_ from r1); cases (show y=_∧_ from r2).1; rfl)
    | (cases (show x=_∧_ from r1).1; cases (show y=_ from r2); rfl)
    | (cases (show x=_∧_ from r1).1; cases (show y=_∧_ from r2).1; rfl)
theorem eq_same (I:Inv X pins σ H s):∀ (n:Nat) (d1 d2:D) (v:V),cmpOk n d1 d2=true→Rep X.K H d1 v→Rep X.K H d2 v→dEq d1 d2=true
  | 0,_,_,_,h,_,_=>by cases h
  | n+1,d1,d2,v,h,r1,r2=>by
    rcases cmp_cases h with ⟨xs,ys,rfl,rfl,h⟩ | ⟨xs,ys,rfl,rfl,h⟩ | ⟨f1,f2⟩
    · obtain ⟨a,vs,rfl,s1,q1,_⟩:=r1
      obtain ⟨a',us,e,s2,q2,_⟩:=r2
      cases e
      cases I.tuple_inj s1 s2
      exact eqs_of (fun d1 d2 v=>eq_same I n d1 d2 v) h q1 q2
    · obtain ⟨a,vs,rfl,s1,q1,_⟩:=r1
      obtain ⟨a',us,e,s2,q2,_⟩:=r2
      cases e
      cases I.list_inj s1 s2
      exact eqs_of (fun d1 d2 v=>eq_same I n d1 d2 v) h q1 q2
    · rw [← rep_eqV f1 f2 r1 r2]
      exact eqV_self (rep_flat f1 r1)
theorem getD_at {α:Type} {xs:List α} {j:Nat} {x d:α} (h:xs[j]?=some x):xs.getD j d=x:=by rw [List.getD_eq_getElem?_getD,h]; rfl
theorem rc_reps {A:Around} {n:Nat} {a c:Addr} {xs ys:List D} {vs us:List V} (I:Inv X pins σ H s) (hu:A.units<cLine) (hq:SqB X.K H a c vs us) (q1:Reps X.K H xs vs) (q2:Reps X.K H ys us) (h:cmpAll (cmpOk n) xs ys=true)
    (ih:∀ (d1 d2:D) (x y:V) (u v:Value),cmpOk n d1 d2=true→Rep X.K H d1 x→Rep X.K H d2 y→RelV x u→RelV y v→SeqAt.EqAt A.in1 s u v (dEq d1 d2)):SeqAt.RcAt A s (.ref a) (.ref c) (dEqs xs ys)∧SeqAt.RcNeAt A s (.ref a) (.ref c) (!dEqs xs ys):=by
  have z:=rc_seq (A:=A) (e:=fun j=>dEq (xs.getD j .non) (ys.getD j .non)) I hu hq fun j x' y' u' v' e1 e2 w1 w2=>by
    obtain ⟨d1,g1,t1⟩:=q1.at e1
    obtain ⟨d2,g2,t2⟩:=q2.at e2
    show SeqAt.EqAt A.in1 s u' v' (dEq (xs.getD j .non) (ys.getD j .non))
    rw [getD_at g1,getD_at g2]
    exact ih d1 d2 x' y' u' v' (cmpAll_at h j d1 d2 g1 g2) t1 t2 w1 w2
  rw [q1.length,q2.length,dEqs_range] at z
  exact z
theorem eqAt_rep (I:Inv X pins σ H s):∀ (n:Nat) (A:Around) (d1 d2:D) (x y:V) (u v:Value),A.units+n<cLine→cmpOk n d1 d2=true→Rep X.K H d1 x→Rep X.K H d2 y→RelV x u→RelV y v→SeqAt.EqAt A s u v (dEq d1 d2)
  | 0,_,_,_,_,_,_,_,_,h,_,_,_,_=>by cases h
  | n+1,A,d1,d2,x,y,u,v,hu,h,r1,r2,rx,ry=>by
    have h0:=h
    have ra:=r1
    have rb:=r2
    rcases cmp_cases h with ⟨xs,ys,rfl,rfl,h⟩ | ⟨xs,ys,rfl,rfl,h⟩ | ⟨f1,f2⟩
    · obtain ⟨a,vs,rfl,s1,q1,l1⟩:=r1
      obtain ⟨c,us,rfl,s2,q2,l2⟩:=r2
      cases (show u=Value.ref a from rx)
      cases (show v=Value.ref c from ry)
      by_cases hac:a=c
      · subst hac
        rw [eq_same I (n+1) _ _ _ h0 ra rb]
        exact SeqAt.EqAt.same _
      · exact SeqAt.EqAt.of_refs hac (rc_reps I (by omega) (.inl ⟨s1,s2⟩) q1 q2 h fun d1 d2 x y u v hh t1 t2 w1 w2=>eqAt_rep I n A.in1 d1 d2 x y u v (by rw [in1_units]; omega) hh t1 t2 w1 w2).1
    · obtain ⟨a,vs,rfl,s1,q1,l1⟩:=r1
      obtain ⟨c,us,rfl,s2,q2,l2⟩:=r2
      cases (show u=Value.ref a from rx)
      cases (show v=Value.ref c from ry)
      by_cases hac:a=c
      · subst hac
        rw [eq_same I (n+1) _ _ _ h0 ra rb]
        exact SeqAt.EqAt.same _
      · exact SeqAt.EqAt.of_refs hac (rc_reps I (by omega) (.inr ⟨s1,s2⟩) q1 q2 h fun d1 d2 x y u v hh t1 t2 w1 w2=>eqAt_rep I n A.in1 d1 d2 x y u v (by rw [in1_units]; omega) hh t1 t2 w1 w2).1
    · rw [← rep_eqV f1 f2 r1 r2]
      exact eqAt_V rx ry (rep_flat f1 r1) (rep_flat f2 r2)
end
noncomputable def rEqS (K:PySem.W.Frag) (neg:Bool):R2:=fun x y H Q=>∃ d1 d2 k,Rep K H d1 x∧Rep K H d2 y∧fEqB d1 d2=some k∧Q (.bl (if neg then !k else k)) H
theorem hu7 {A:Around} {k:Nat} (hr:Room k A):A.units+7<cLine:=Nat.lt_of_le_of_lt (Nat.add_le_add_left (by decide:7≤64) _) hr.units
section
variable {X:Cx} {K:PySem.W.Frag}
theorem fEqB_ok {d1 d2:D} {k:Bool} (h:fEqB d1 d2=some k):cmpOk 6 d1 d2=true∧k=dEq d1 d2:=by
  unfold fEqB at h
  split at h
  · cases h
  · cases h
  · split at h
    · rename_i e
      cases h
      exact ⟨e,rfl⟩
    · cases h
theorem scal_of {H:Hp} {d1 d2:D} {x y:V} {k:Bool} (h:fEqB d1 d2=some k) (h1:flatD d1=true) (h2:flatD d2=true) (r1:Rep K H d1 x) (r2:Rep K H d2 y):scal x y=true∧decide (x=y)=k:=by
  obtain ⟨_,e⟩:=fEqB_ok h
  subst e
  cases d1<;>first | exact absurd h1 Bool.false_ne_true | skip
  all_goals (cases d2<;>first | exact absurd h2 Bool.false_ne_true | (cases h; done) | skip)
  all_goals first
    | (cases (show x=_ from r1); cases (show y=_ from r2); exact ⟨rfl,by first | rfl | exact dec_int | exact dec_bl⟩)
    | (cases (show x=_ from r1); cases (show y=_∧_ from r2).1; exact ⟨rfl,rfl⟩)
    | (cases (show x=_∧_ from r1).1; cases (show y=_ from r2); exact ⟨rfl,rfl⟩)
    | (cases (show x=_∧_ from r1).1; cases (show y=_∧_ from r2).1; exact ⟨rfl,dec_str⟩)
theorem eqS_core {pins:List (Addr×Obj)} {σ:St} {H:Hp} {s:Shared} {A:Around} {d1 d2:D} {x y:V} {u v:Value} (I:Inv X pins σ H s) (hu:A.units+7<cLine) (h:cmpOk 6 d1 d2=true) (hf:¬ (flatD d1&&flatD d2)=true) (r1:Rep X.K H d1 x) (r2:Rep X.K H d2 y) (rx:RelV x u) (ry:RelV y v) :
    SeqAt.RcAt A s u v (dEq d1 d2)∧SeqAt.RcNeAt A s u v (!dEq d1 d2):=by
  rcases cmp_cases h with ⟨xs,ys,rfl,rfl,h⟩ | ⟨xs,ys,rfl,rfl,h⟩ | ⟨f1,f2⟩
  · obtain ⟨a,vs,rfl,s1,q1,l1⟩:=r1
    obtain ⟨c,us,rfl,s2,q2,l2⟩:=r2
    cases (show u=Value.ref a from rx)
    cases (show v=Value.ref c from ry)
    exact rc_reps I (by omega) (.inl ⟨s1,s2⟩) q1 q2 h fun d1 d2 x y u v hh t1 t2 w1 w2=>eqAt_rep I 5 A.in1 d1 d2 x y u v (by rw [in1_units]; omega) hh t1 t2 w1 w2
  · obtain ⟨a,vs,rfl,s1,q1,l1⟩:=r1
    obtain ⟨c,us,rfl,s2,q2,l2⟩:=r2
    cases (show u=Value.ref a from rx)
    cases (show v=Value.ref c from ry)
    exact rc_reps I (by omega) (.inr ⟨s1,s2⟩) q1 q2 h fun d1 d2 x y u v hh t1 t2 w1 w2=>eqAt_rep I 5 A.in1 d1 d2 x y u v (by rw [in1_units]; omega) hh t1 t2 w1 w2
  · exact absurd (by rw [f1,f2]; rfl) hf
theorem op_eqS (hu:X.A.units+7<cLine):OpR X (compareOp .Eq) (rEqS X.K false):=by
  intro pins s σ H x y v u Q I rx ry h
  obtain ⟨d1,d2,k,r1,r2,hk,q⟩:=h
  by_cases hf:(flatD d1&&flatD d2)=true
  · have hf':=hf
    rw [Bool.and_eq_true] at hf'
    obtain ⟨a,b⟩:=scal_of hk hf'.1 hf'.2 r1 r2
    exact op_eq pins s σ H x y v u Q I rx ry ⟨a,by rw [b]; exact q⟩
  · obtain ⟨hc,rfl⟩:=fEqB_ok hk
    exact (eqS_core I hu hc hf r1 r2 rx ry).1 _ _ _ _ ⟨.bl _,H,I,rfl,q⟩
theorem op_neS (hu:X.A.units+7<cLine):OpR X (compareOp .NotEq) (rEqS X.K true):=by
  intro pins s σ H x y v u Q I rx ry h
  obtain ⟨d1,d2,k,r1,r2,hk,q⟩:=h
  by_cases hf:(flatD d1&&flatD d2)=true
  · have hf':=hf
    rw [Bool.and_eq_true] at hf'
    obtain ⟨a,b⟩:=scal_of hk hf'.1 hf'.2 r1 r2
    exact op_ne pins s σ H x y v u Q I rx ry ⟨a,by rw [b]; exact q⟩
  · obtain ⟨hc,rfl⟩:=fEqB_ok hk
    exact (eqS_core I hu hc hf r1 r2 rx ry).2 _ _ _ _ ⟨.bl _,H,I,rfl,q⟩
theorem ok_eq:Ok2B K (rEqS K false) fEq:=fun H x y u v d Q rx ry hf=>by
  obtain ⟨k,hk,hf⟩:=bindE hf
  cases hf
  exact ⟨_,rfl,fun q=>⟨x,y,k,rx,ry,hk,q⟩⟩
theorem ok_ne:Ok2B K (rEqS K true) fNe:=fun H x y u v d Q rx ry hf=>by
  obtain ⟨k,hk,hf⟩:=bindE hf
  cases hf
  exact ⟨_,rfl,fun q=>⟨x,y,k,rx,ry,hk,q⟩⟩
end
theorem kit_x {K:PySem.W.Frag}:PySem.W.kitOne K (.type "NoneType") (.type "str")=some false∧PySem.W.kitOne K (.type "NoneType") (.type "list")=some false∧PySem.W.kitOne K (.type "NoneType") (.type "tuple")=some false∧
    PySem.W.kitOne K (.type "bool") (.type "str")=some false∧PySem.W.kitOne K (.type "bool") (.type "list")=some false∧PySem.W.kitOne K (.type "bool") (.type "tuple")=some false∧
    PySem.W.kitOne K (.type "int") (.type "str")=some false∧PySem.W.kitOne K (.type "int") (.type "list")=some false∧PySem.W.kitOne K (.type "int") (.type "tuple")=some false:=by refine ⟨?_,?_,?_,?_,?_,?_,?_,?_,?_⟩<;>kernel_rfl
theorem kit_y {K:PySem.W.Frag}:PySem.W.kitOne K (.type "str") (.type "int")=some false∧PySem.W.kitOne K (.type "str") (.type "bool")=some false∧PySem.W.kitOne K (.type "str") (.type "list")=some false∧PySem.W.kitOne K (.type "str") (.type "tuple")=some false∧
    PySem.W.kitOne K (.type "list") (.type "int")=some false∧PySem.W.kitOne K (.type "list") (.type "bool")=some false∧PySem.W.kitOne K (.type "list") (.type "str")=some false∧PySem.W.kitOne K (.type "list") (.type "tuple")=some false∧PySem.W.kitOne K (.type "list") (.type "list")=some true:=by refine ⟨?_,?_,?_,?_,?_,?_,?_,?_,?_⟩<;>first | kernel_rfl | rfl
theorem kit_z {K:PySem.W.Frag}:PySem.W.kitOne K (.type "tuple") (.type "int")=some false∧PySem.W.kitOne K (.type "tuple") (.type "bool")=some false∧PySem.W.kitOne K (.type "tuple") (.type "list")=some false∧PySem.W.kitOne K (.type "tuple") (.type "str")=some false:=by refine ⟨?_,?_,?_,?_⟩<;>kernel_rfl
noncomputable def tyN:D→String
  | .non => "NoneType"
  | .bl _ => "bool"
  | .int _ => "int"
  | .str _ => "str"
  | .tup _ => "tuple"
  | .lst _ => "list"
  | .dic _ _ => "dict"
  | .exc _ => "x"
  | .obj _ _ _ => "x"
theorem kit_of {K:PySem.W.Frag} {T:TyT} {d:D} {b:Bool} (h:isTy T d=some b):PySem.W.kitOne K (.type (tyN d)) (.type T.nm)=some b:=by
  obtain ⟨x1,x2,x3,x4,x5,x6,x7,x8,x9⟩:=kit_x (K:=K)
  obtain ⟨y1,y2,y3,y4,y5,y6,y7,y8,y9⟩:=kit_y (K:=K)
  obtain ⟨z1,z2,z3,z4⟩:=kit_z (K:=K)
  cases T<;>cases d<;>cases h
  all_goals first | exact kit_int_int | exact kit_bool_int | exact kit_int_bool | exact kit_bool_bool | exact kit_none_int | exact kit_none_bool | exact kit_tup_tup | exact kit_str_str | assumption
noncomputable def rIsi (K:PySem.W.Frag) (T:TyT):List V→Hp→VK→Prop:=fun xs H Q=>∃ x d b,xs=[x,.ty T.nm]∧Rep K H d x∧isTy T d=some b∧Q (.bl b) H
theorem call_isi {X:Cx} (T:TyT):CallR X (.builtin "isinstance") (rIsi X.K T):=by
  intro pins s σ H xs us Q I r h
  obtain ⟨x,d,b,rfl,rd,e,q⟩:=h
  obtain ⟨u,c,rfl,rx,rc⟩:=vals2 r
  cases (show c=Value.type T.nm from rc)
  have fin:∀ tk,EP X pins σ Q (.bool b) { s with toks:=tk }:=fun tk=>⟨.bl b,H,I.tok tk,rfl,q⟩
  cases d with
  | non=>cases (show x=_ from rd); exact isinst_ok I rx .non (kit_of (d:=.non) e) fin
  | bl y=>cases (show x=_ from rd); exact isinst_ok I rx (.bl _) (kit_of (d:=.bl y) e) fin
  | int y=>cases (show x=_ from rd); exact isinst_ok I rx (.int _) (kit_of (d:=.int y) e) fin
  | str y=>cases (show x=_∧_ from rd).1; exact isinst_ok I rx (.str _) (kit_of (d:=.str y) e) fin
  | tup ds=>
    obtain ⟨a,vs,rfl,sq,_⟩:=rd
    cases (show u=Value.ref a from rx)
    obtain ⟨its,_,⟨o,h1,h2,_⟩,_⟩:=I.tuple sq
    exact PySem.W.kia_one PySem.W.kitx_tuple I.kIn ⟨o,h1,h2⟩ (kit_of (d:=.tup ds) e) (fun z=>nomatch z) fin
  | lst ds=>
    obtain ⟨a,vs,rfl,sq,_⟩:=rd
    cases (show u=Value.ref a from rx)
    obtain ⟨its,_,⟨o,n,h1,h2,_⟩,_⟩:=I.list sq
    exact PySem.W.kia_one PySem.W.kitx_list I.kIn ⟨o,h1,h2⟩ (kit_of (d:=.lst ds) e) (fun z=>nomatch z) fin
  | dic ks ds=>cases T<;>cases e
  | exc _=>cases T<;>cases e
  | obj _ _ _=>cases T<;>cases e
theorem se_isi {X:Cx} {a:Expr} {f:FE} {x:Str} {p p1 pos:Pos} (T:TyT) (hg:Gl X "isinstance") (hgT:Gl X x) (hm:X.mg "isinstance" = none) (hmT:X.mg x=none) (hv:bootBuiltins x=some (.type T.nm)) (ha:SB X a f) (hs:noStar a=true:=by rfl)
    (hn:x ≠ "__name__" := by decide) (hd:(x == ("__debug__" : Str))=false:=by decide):SE X (.Call (.Name "isinstance" p) [a,.Name x p1] [] pos) (eIsi T f):=by
  obtain ⟨t,pt,k⟩:=ha.h
  refine ⟨⟨_,(qe_callB (call_isi T) hg hm bt_isinstance (qa_cons ⟨pt⟩ (qa_cons (qe_bty hgT hmT hv hn hd) qa_nil rfl) hs) (by decide) (by decide) (by rw [List.all_cons,hs]; rfl)).h,fun {G0 H0 G H τ σ d Q} E hf q=>?_⟩⟩
  obtain ⟨z,hz,hf⟩:=bindE hf
  obtain ⟨b,hb,hf⟩:=bindE hf
  cases hf
  exact k E hz fun v G' H' x r=>⟨v,z,b,rfl,r,hb,q _ _ _ x rfl⟩
end L3
namespace L3
open PySem
theorem loop_by {g:FG} {b:FS} (P:Nat→SEnv→Prop):∀ {ds:List D} {σ:SEnv} (n:Nat),P n σ→(∀ i d σ,ds[i]?=some d→P (n+i) σ→∃ σ1 σ2,g d σ=some σ1∧(b σ1=some (.nx σ2)∨b σ1=some (.ct σ2))∧P (n+i+1) σ2)→
    ∃ σ',loopG g b ds σ=some (.nx σ')∧P (n+ds.length) σ'
  | [],σ,n,h,_=>⟨σ,rfl,h⟩
  | d::ds,σ,n,h,step=>by
    obtain ⟨σ1,σ2,e1,e2,p2⟩:=step 0 d σ rfl h
    obtain ⟨σ',e3,p3⟩:=loop_by P (ds:=ds) (σ:=σ2) (n+1) p2 fun i d' τ hd hp=>by
      obtain ⟨a,b',c1,c2,c3⟩:=step (i+1) d' τ (by simpa using hd) (by rw [show n+(i+1)=n+1+i by omega]; exact hp)
      exact ⟨a,b',c1,c2,by rw [show n+1+i+1=n+(i+1)+1 by omega]; exact c3⟩
    refine ⟨σ',?_,by rw [List.length_cons,show n+(ds.length+1)=n+1+ds.length by omega]; exact p3⟩
    show (g d σ).bind _=_
    rw [e1]
    show (b σ1).bind _=_
    rcases e2 with e2 | e2
    · rw [e2]; exact e3
    · rw [e2]; exact e3
theorem seq_nx {a b:FS} {σ σ':SEnv} (h:a σ=some (.nx σ')):sSeq a b σ=b σ':=by
  show (a σ).bind _=_
  rw [h]
  rfl
theorem if_t {c:FT} {a b:FS} {σ:SEnv} (h:c σ=some true):sIf c a b σ=a σ:=by
  show (c σ).bind _=_
  rw [h]
  rfl
noncomputable abbrev upTo (j:Nat):List D:=(List.range j).map fun k:Nat=>D.int k
theorem range_of {f:FE} {τ:SEnv} {n:Int} (h:f τ=some (.int n)) (h1:n.natAbs≤1000000):iRange (eC (.int 0)) f τ=some (upTo n.toNat):=by
  unfold iRange
  rw [h]
  show (if (0:Int).natAbs≤LIM∧n.natAbs≤LIM∧(n - 0).toNat≤LIM then _ else _)=_
  rw [if_pos ⟨by decide,by show _≤16777216; omega,by show _≤16777216; omega⟩,Int.sub_zero]
  simp only [Int.zero_add]
end L3
namespace L3
noncomputable def shx:=
  And.intro runF.eq_1 <| And.intro sSeq.eq_1 <| And.intro sSet.eq_1 <| And.intro sSetO.eq_1 <| And.intro sRet.eq_1 <| And.intro sRetO.eq_1 <| And.intro sRetV.eq_1 <| And.intro sIf.eq_1 <| And.intro sNext.eq_1 <| And.intro sFreeze.eq_1 <|
  And.intro sMut.eq_1 <| And.intro sMut1.eq_1 <| And.intro sFor.eq_1 <| And.intro loopG.eq_1 <| And.intro loopG.eq_2 <| And.intro e1.eq_1 <| And.intro e2.eq_1 <| And.intro eL.eq_1 <| And.intro eC.eq_1 <| And.intro eVar.eq_1 <| And.intro eAny.eq_1 <|
  And.intro aCons.eq_1 <| And.intro aNil.eq_1 <| And.intro tE.eq_1 <| And.intro asB.eq_def <| And.intro tAndF.eq_1 <| And.intro tOrF.eq_1 <| And.intro tNotF.eq_1 <| And.intro eAnd.eq_1 <| And.intro eOr.eq_1 <| And.intro eNot.eq_1 <| And.intro eIf.eq_1 <|
  And.intro eTup.eq_1 <| And.intro eLst.eq_1 <| And.intro eIsi.eq_1 <| And.intro isTy.eq_def <| And.intro fI.eq_def <| And.intro fSub.eq_def <| And.intro fCmp.eq_def <| And.intro fMulL.eq_1 <| And.intro fMulR.eq_1 <| And.intro fMod.eq_1 <| And.intro fDiv.eq_1 <|
  And.intro fPow.eq_1 <| And.intro fShl.eq_1 <| And.intro fShr.eq_1 <| And.intro fBit.eq_def <| And.intro fNeg.eq_def <| And.intro fLen.eq_def <| And.intro fInt.eq_def <| And.intro fIsN.eq_def <| And.intro fNotN.eq_def <| And.intro isNon.eq_def <|
  And.intro gVar.eq_1 <| And.intro gTwo.eq_1 <| And.intro iSeq.eq_1 <| And.intro eCall.eq_1 <| And.intro eCallO.eq_1 <| And.intro eLc.eq_1 <|
  And.intro @Option.bind_some.{0,0} <| And.intro @Option.bind_none.{0,0} <| And.intro @List.getElem?_cons_zero.{0} <| And.intro @List.getElem?_cons_succ.{0} <| And.intro @List.set_cons_zero.{0} <| And.intro @List.set_cons_succ.{0} <| And.intro @List.map_cons.{0,0} <| And.intro @List.map_nil.{0,0} <|
  And.intro @List.cons_append.{0} <| And.intro @List.nil_append.{0} <| And.intro @List.length_cons.{0} <| And.intro @List.length_nil.{0} <| And.intro @List.replicate_zero.{0} <| And.intro @List.replicate_succ.{0} <| And.intro Bool.not_true <| And.intro Bool.not_false <|
  And.intro @decide_true <| And.intro @decide_false <| And.intro Bool.and_self <| And.intro Bool.and_true Bool.true_and
end L3
namespace L3
open PySem PySem.Spec PyProof.Rows L2
section
variable {α:Type}
theorem zip_any:∀ {ks:List Key} {vs:List α} (k:Key),ks.length=vs.length→((ks.zip vs).any fun kv=>decide (kv.1=k))=hasK ks k
  | [],[],_,_=>rfl
  | k'::ks,v::vs,k,h=>by
    have ih:=zip_any (ks:=ks) (vs:=vs) k (by simpa using h)
    show (decide (k'=k)||((ks.zip vs).any fun kv=>decide (kv.1=k)))=(decide (k'=k)||hasK ks k)
    rw [ih]
theorem zip_val:∀ {ks:List Key} {vs:List V} (k:Key),ks.length=vs.length→valV (ks.zip vs) k=getK ks vs k
  | [],[],_,_=>rfl
  | k'::ks,v::vs,k,h=>by
    have ih:=zip_val (ks:=ks) (vs:=vs) k (by simpa using h)
    by_cases e:k'=k
    · rw [List.zip_cons_cons,valV_pos (p:=(k',v)) e]
      show _=(if k'=k then some v else _)
      rw [if_pos e]
    · rw [List.zip_cons_cons,valV_neg (p:=(k',v)) e,ih]
      show _=(if k'=k then some v else _)
      rw [if_neg e]
theorem zip_map:∀ {ks:List Key} {vs:List V} (k:Key) (v:V),ks.length=vs.length→((ks.zip vs).map fun kv=>if kv.1=k then (kv.1,v) else kv)=ks.zip (List.zipWith (fun k' x=>if k'=k then v else x) ks vs)
  | [],[],_,_,_=>rfl
  | k'::ks,u::vs,k,v,h=>by
    have ih:=zip_map (ks:=ks) (vs:=vs) k v (by simpa using h)
    rw [List.zip_cons_cons,List.map_cons,ih,List.zipWith_cons_cons,List.zip_cons_cons]
    by_cases e:k'=k
    · rw [if_pos e,if_pos e]
    · rw [if_neg e,if_neg e]
theorem zip_put {ks:List Key} {vs:List V} {k:Key} {v:V} (h:ks.length=vs.length):putK (ks.zip vs) k v=(putKs ks k).zip (putVs ks vs k v):=by
  unfold putK putKs putVs
  rw [zip_any k h]
  by_cases c:hasK ks k=true
  · rw [if_pos c,if_pos c,if_pos c,zip_map k v h]
  · rw [if_neg c,if_neg c,if_neg c,List.zip_append h]
    rfl
theorem put_len {ks:List Key} {vs:List α} {k:Key} {v:α} (h:ks.length=vs.length):(putKs ks k).length=(putVs ks vs k v).length:=by
  unfold putKs putVs
  split
  · rw [List.length_zipWith,h,Nat.min_self]
  · rw [List.length_append,List.length_append,h]
    rfl
theorem put_le {ks:List Key} {vs:List α} {k:Key} {v:α} (h:ks.length=vs.length):(putVs ks vs k v).length≤vs.length+1:=by
  unfold putVs
  split
  · rw [List.length_zipWith,h,Nat.min_self]
    exact Nat.le_succ _
  · rw [List.length_append]
    exact Nat.le_refl _
end
section
variable {K:PySem.W.Frag} {G H:Hp}
theorem Reps.getK:∀ {ks:List Key} {ds:List D} {vs:List V} {k:Key} {d:D},Reps K H ds vs→getK ks ds k=some d→∃ v,getK ks vs k=some v∧Rep K H d v
  | [],_,_,_,_,_,e=>by cases e
  | _::_,[],_,_,_,_,e=>by cases e
  | k'::ks,d'::ds,_,k,d,r,e=>by
    obtain ⟨v,r',rfl,hv,hr⟩:=r
    change (if k'=k then some d' else L3.getK ks ds k)=some d at e
    by_cases c:k'=k
    · rw [if_pos c] at e
      cases e
      exact ⟨v,by show (if k'=k then some v else _)=_; rw [if_pos c],hv⟩
    · rw [if_neg c] at e
      obtain ⟨u,hu,ru⟩:=Reps.getK hr e
      exact ⟨u,by show (if k'=k then some v else _)=_; rw [if_neg c]; exact hu,ru⟩
theorem getK_has {α:Type}:∀ {ks:List Key} {vs:List α} (k:Key),ks.length=vs.length→(getK ks vs k).isSome=hasK ks k
  | [],[],_,_=>rfl
  | k'::ks,v::vs,k,h=>by
    have ih:=getK_has (ks:=ks) (vs:=vs) k (by simpa using h)
    show (if k'=k then some v else getK ks vs k).isSome=(decide (k'=k)||_)
    by_cases c:k'=k
    · rw [if_pos c,decide_eq_true c]; rfl
    · rw [if_neg c,decide_eq_false c,ih]; rfl
theorem Reps.zipW {k:Key} {d:D} {v:V} (hv:Rep K H d v):∀ {ks:List Key} {ds:List D} {vs:List V},Reps K H ds vs→Reps K H (List.zipWith (fun k' x=>if k'=k then d else x) ks ds) (List.zipWith (fun k' x=>if k'=k then v else x) ks vs)
  | [],_,_,_=>rfl
  | _::_,[],_,r=>by cases (show _=[] from r); rfl
  | k'::ks,d'::ds,_,r=>by
    obtain ⟨u,r',rfl,hu,hr⟩:=r
    refine ⟨_,_,rfl,?_,Reps.zipW hv hr⟩
    show Rep K H (if k'=k then d else d') (if k'=k then v else u)
    by_cases c:k'=k
    · rw [if_pos c,if_pos c]; exact hv
    · rw [if_neg c,if_neg c]; exact hu
theorem Reps.put {ks:List Key} {ds:List D} {vs:List V} {k:Key} {d:D} {v:V} (r:Reps K H ds vs) (hv:Rep K H d v):Reps K H (putVs ks ds k d) (putVs ks vs k v):=by
  unfold putVs
  split
  · exact Reps.zipW hv r
  · exact r.append (Reps.one hv)
theorem key_rep {x:D} {k:Key} {u:V} (h:keyD x=some k) (r:Rep K H x u):u=kV k:=by
  cases x<;>first | (cases h; done) | skip
  · cases h; exact r
  · cases h; exact (show u=_∧_ from r).1
end
section
variable {X:Cx} {K:PySem.W.Frag}
noncomputable def rIxD:R2:=fun x y H Q=>∃ a kvs k v,x=.ref a∧y=kV k∧Rd H a (.dK kvs)∧valV kvs k=some v∧Q v H
theorem ix_dict:IxR X rIxD:=by
  intro value slice pins s σ H x y v u Q I rx ry h hs
  obtain ⟨a,kvs,k,z,rfl,rfl,e,l,q⟩:=h
  cases rx
  obtain ⟨_,_,vs,rel,dd⟩:=dk_rd I.hok e
  obtain ⟨w',hw,rw'⟩:=RelO.some_of (v:=z) (o:=valueAt vs k) (by rw [← l]; exact rel.val k)
  exact subscriptTail_builtinR (x:=w') (dict_typeIs I (.inl ⟨kvs,k,e,rfl,rfl⟩)) PySem.F.slot_dict_getitem.lookup
    (wpAny_getItem_of (Q:=fun r s'=>r=w'∧EP X pins σ Q r s') (kV_is ry) dd.mapOf hw ⟨rfl,z,H,I.tok _,rw',q⟩) hs
noncomputable def rIxA (K:PySem.W.Frag):R2:=fun x y H Q=>rIx K x y H Q∨rIxD x y H Q
theorem ix_S (_:X.A.units+1<cLine):IxR X (rIxA X.K):=ix_seq.or ix_dict
theorem ok_ix:Ok2 K (rIxA K) fIx:=fun G H x y u v d Q s rx ry hf q=>by
  cases x with
  | dic ks ds=>
    obtain ⟨a,vs,rfl,sq,l,rs,_⟩:=rx
    obtain ⟨k,hk,hf⟩:=bindE hf
    obtain ⟨z,hz,rz⟩:=rs.getK hf
    exact .inr ⟨a,_,k,z,rfl,key_rep hk ry,Rd.mono s sq,by rw [zip_val k l]; exact hz,q _ _ _ (Ext.refl s) rz⟩
  | non=>cases hf
  | bl b=>cases hf
  | int b=>cases hf
  | str z=>exact .inl (ok_ix0 G H (.str z) y u v d Q s rx ry (by cases y<;>exact hf) q)
  | tup z=>exact .inl (ok_ix0 G H (.tup z) y u v d Q s rx ry (by cases y<;>exact hf) q)
  | lst z=>exact .inl (ok_ix0 G H (.lst z) y u v d Q s rx ry (by cases y<;>exact hf) q)
  | exc z=>cases hf
  | obj z _ _=>cases hf
noncomputable def rInD (neg:Bool):R2:=fun x y H Q=>∃ a kvs k,y=.ref a∧x=kV k∧Rd H a (.dK kvs)∧Q (.bl (if neg then !(valV kvs k).isSome else (valV kvs k).isSome)) H
theorem op_inD (hu:X.A.units+1<cLine):OpR X (compareOp .In) (rInD false):=by
  intro pins s σ H x y v u Q I rx ry h
  obtain ⟨a,kvs,k,rfl,rfl,e,q⟩:=h
  cases ry
  exact d_in hu I (.inl ⟨kvs,k,e,rfl,rfl⟩) rx fun s' I'=>⟨.bl _,H,I',rfl,q⟩
theorem op_notInD (hu:X.A.units+1<cLine):OpR X (compareOp .NotIn) (rInD true):=by
  intro pins s σ H x y v u Q I rx ry h
  obtain ⟨a,kvs,k,rfl,rfl,e,q⟩:=h
  cases ry
  exact d_notIn hu I (.inl ⟨kvs,k,e,rfl,rfl⟩) rx fun s' I'=>⟨.bl _,H,I',rfl,q⟩
noncomputable def rInA (K:PySem.W.Frag) (neg:Bool):R2:=fun x y H Q=>rIn K neg x y H Q∨(∃ i j,x=.str i∧y=.str j∧Q (.bl (if neg then !(!(Builtin.Str.occurrences j i 0 j.length 1).isEmpty) else !(Builtin.Str.occurrences j i 0 j.length 1).isEmpty)) H)∨rInD neg x y H Q
theorem op_inS (hu:X.A.units+1<cLine):OpR X (compareOp .In) (rInA X.K false):=op_in_seq.or (op_in_str.or (op_inD hu))
theorem op_notInS (hu:X.A.units+1<cLine):OpR X (compareOp .NotIn) (rInA X.K true):=op_notIn_seq.or (op_notIn_str.or (op_notInD hu))
theorem reps_any {H:Hp} {x:D} {u:V} (hx:flatD x=true) (rx:Rep K H x u):∀ {ys:List D} {vs:List V},Reps K H ys vs→ys.all flatD=true→vs.all flatV=true∧inV u vs=ys.any fun y=>dEq y x
  | [],_,r,_=>by cases (show _=[] from r); exact ⟨rfl,rfl⟩
  | y::ys,_,r,h=>by
    obtain ⟨v,r',rfl,hv,hr⟩:=r
    rw [List.all_cons,Bool.and_eq_true] at h
    obtain ⟨a,b⟩:=reps_any hx rx hr h.2
    refine ⟨by rw [List.all_cons,rep_flat h.1 hv,a]; rfl,?_⟩
    show (eqV v u||inV u r')=(dEq y x||_)
    rw [rep_eqV h.1 hx hv rx,b]
theorem in_core {neg:Bool} {H:Hp} {x y:D} {u v:V} {k:Bool} {Q:VK} (rx:Rep K H x u) (ry:Rep K H y v) (hf:fInB x y=some k) (q:Q (.bl (if neg then !k else k)) H):rInA K neg u v H Q:=by
  cases y with
  | lst ys=>
    obtain ⟨a,vs,rfl,sq,rs,_⟩:=ry
    change (match flatD x&&ys.all flatD with | true=>some (ys.any fun y=>dEq y x) | false=>none)=some k at hf
    cases c:(flatD x&&ys.all flatD) with
    | false=>rw [c] at hf; cases hf
    | true=>
      rw [c] at hf
      cases hf
      rw [Bool.and_eq_true] at c
      obtain ⟨c1,c2⟩:=reps_any c.1 rx rs c.2
      exact .inl ⟨a,vs,rfl,.inl sq,rep_flat c.1 rx,c1,by rw [c2]; exact q⟩
  | tup ys=>
    obtain ⟨a,vs,rfl,sq,rs,_⟩:=ry
    change (match flatD x&&ys.all flatD with | true=>some (ys.any fun y=>dEq y x) | false=>none)=some k at hf
    cases c:(flatD x&&ys.all flatD) with
    | false=>rw [c] at hf; cases hf
    | true=>
      rw [c] at hf
      cases hf
      rw [Bool.and_eq_true] at c
      obtain ⟨c1,c2⟩:=reps_any c.1 rx rs c.2
      exact .inl ⟨a,vs,rfl,.inr sq,rep_flat c.1 rx,c1,by rw [c2]; exact q⟩
  | str j=>
    cases x<;>first | (cases hf; done) | skip
    rename_i i
    cases hf
    exact .inr (.inl ⟨i,j,(show u=_∧_ from rx).1,(show v=_∧_ from ry).1,q⟩)
  | dic ks ds=>
    obtain ⟨kk,hk,hf⟩:=bindE hf
    cases hf
    obtain ⟨a,vs,rfl,sq,l,rs,_⟩:=ry
    refine .inr (.inr ⟨a,_,kk,rfl,key_rep hk rx,sq,?_⟩)
    rw [zip_val kk l,getK_has kk l]
    exact q
  | _=>cases hf
theorem ok_in:Ok2B K (rInA K false) fIn:=fun H x y u v d Q rx ry hf=>by
  obtain ⟨k,hk,hf⟩:=bindE hf
  cases hf
  exact ⟨_,rfl,fun q=>in_core rx ry hk q⟩
theorem ok_notIn:Ok2B K (rInA K true) fNotIn:=fun H x y u v d Q rx ry hf=>by
  obtain ⟨k,hk,hf⟩:=bindE hf
  cases hf
  exact ⟨_,rfl,fun q=>in_core rx ry hk q⟩
theorem sf_dnew {pos:Pos}:SF X (.Dict [] [] pos) (eC (.dic [] [])):=⟨⟨_,pe_dnewK,fun {G0 H0 G H τ σ d Q} E hf q p hp=>by
  cases hf
  exact q p G _ (Ext.layO E.ext.gh hp) hp (E.ext.gh.free hp) ⟨[],upd_same,rfl,rfl,Nat.zero_le _⟩⟩⟩
theorem ss_dput {i:Nat} {x:Str} {xp pos pos':Pos} {k v:Expr} {fk fv:FE} (hu:X.A.units+1<cLine) (ho:QE X (.Name x xp) (tVar i)) (hk:SE X k fk) (hv:SE X v fv) (hs:swapsWith v (some (.Subscript (.Name x xp) k pos')) pos.line X.env=pure false:=by rfl) :
    SS X (.Assign [.Subscript (.Name x xp) k pos'] v pos) (sPut i fk fv):=by
  obtain ⟨tk,pk,kk⟩:=hk.h
  obtain ⟨tv,pv,kv⟩:=hv.h
  refine ⟨⟨_,ps_dput hu ho.h pk pv hs,fun {G0 H0 G H τ σ fl E} K hf q=>?_⟩⟩
  obtain ⟨y,hy,hf⟩:=bindE hf
  refine kv K hy fun w G1 H1 x1 r1=>?_
  split at hf
  · rename_i ks ds hd
    obtain ⟨xk,hx,hf⟩:=bindE hf
    obtain ⟨key,hkey,hf⟩:=bindE hf
    by_cases c:ks.length<LIM
    · rw [if_pos c] at hf
      cases hf
      have K1:=K.go x1
      obtain ⟨a,ea,g,z,vs,ev,l,rs,hl⟩:=K1.ow _ _ hd
      refine ⟨_,ea,kk K1 hx fun u G2 H2 x2 r2=>⟨a,_,rfl,.inl ⟨_,key,x2.h _ _ ev,key_rep hkey r2,?_,rfl⟩,?_⟩⟩
      · rw [List.length_zip,l,Nat.min_self,sizeLine_eq,← l]; exact c
      · refine q _ _ _ ((K1.go x2).mut hd ea ⟨putVs ks vs key w,?_,put_len l,(rs.mono x2.g).put (r1.mono x2.g),?_⟩)
        · rw [upd_same,zip_put l]
        · have h1:=put_le (ks:=ks) (vs:=ds) (k:=key) (v:=y) (by rw [l,rs.length])
          have h2:ds.length<16777216:=by rw [← rs.length,← l]; exact c
          rw [sizeLine_eq]
          omega
    · rw [if_neg c] at hf
      cases hf
  · cases hf
noncomputable def GDict (K:PySem.W.Frag) (w:World) (a:Addr) (ks:List Key) (ds:List D):Prop:=
  ∃ us:List V,ks.length=us.length∧(a == sysModules)=false∧(∀ H,Reps K H ds us)∧∀ (P:Program) (h:Heap),K.In h→∃ vs,KV (ks.zip us) vs∧h.DictOf (mixKind P w) a vs
inductive Ents (w:World):List DictEntry→List Str→List Value→Prop
  | nil:Ents w [] [] []
  | cons {x:Str} {t:Tok} {v:Value} {es:List DictEntry} {xs:List Str} {vs:List Value} (r:Ents w es xs vs):Ents w (⟨PyData.keyHash w.params x,.str x t,v⟩::es) (x::xs) (v::vs)
theorem Ents.pairs {w:World} {P:Program}:∀ {es:List DictEntry} {xs:List Str} {vs:List Value},Ents w es xs vs→Pairs (mixKind P w) es ((xs.map Sum.inr).zip vs)∧(∀ e∈es,∃ k,(mixKind P w).is k e.key=true∧e.hash=(mixKind P w).hash k)
  | _,_,_,.nil=>⟨.nil,fun e h=>absurd h (by simp)⟩
  | _,_,_,.cons (x:=x) (t:=t) r=>by
    obtain ⟨a,b⟩:=Ents.pairs (P:=P) r
    refine ⟨.cons (mixKind_str P w x t) rfl a,fun e h=>?_⟩
    rcases List.mem_cons.mp h with rfl | h
    · exact ⟨.inr x,mixKind_str P w x t,rfl⟩
    · exact b e h
theorem Ents.len {w:World}:∀ {es:List DictEntry} {xs:List Str} {vs:List Value},Ents w es xs vs→xs.length=vs.length
  | _,_,_,.nil=>rfl
  | _,_,_,.cons r=>by rw [List.length_cons,List.length_cons,r.len]
theorem kv_zip:∀ {ks:List Key} {us:List V} {vs:List Value},Vals us vs→ks.length=us.length→KV (ks.zip us) (ks.zip vs)
  | [],_,_,.nil,_=>.nil
  | k::ks,_,_,.cons r t,h=>.cons ⟨rfl,r⟩ (kv_zip t (by simpa using h))
theorem zip_fst:∀ {ks:List Key} {vs:List Value},ks.length=vs.length→(ks.zip vs).map (·.1)=ks
  | [],[],_=>rfl
  | k::ks,v::vs,h=>by rw [List.zip_cons_cons,List.map_cons,zip_fst (by simpa using h)]
theorem gdict_mk {w:World} {a:Addr} {es:List DictEntry} {n:Nat} {xs:List Str} {vs:List Value} {us:List V} {ds:List D} (l:K.lookup a=some { cls:=.type "dict",data:=.dict es.toArray n }) (e:Ents w es xs vs) (nd:xs.Nodup) (hs:(a == sysModules)=false) (r:Vals us vs) (rd:∀ H,Reps K H ds us) :
    GDict K w a (xs.map .inr) ds:=by
  have hl:(xs.map Sum.inr:List Key).length=us.length:=by rw [List.length_map,e.len,r.length]
  refine ⟨us,hl,hs,rd,fun P h KI=>⟨_,kv_zip r hl,?_⟩⟩
  obtain ⟨p,q⟩:=e.pairs (P:=P)
  refine ⟨_,_,_,KI _ _ l,⟨rfl,rfl,rfl⟩,rfl,fun e he=>q e (by simpa using he),p,?_⟩
  rw [zip_fst (by rw [List.length_map]; exact e.len)]
  exact List.Pairwise.map _ (fun a b h z=>h (Sum.inr.inj z)) nd
theorem gd_ix {A:Addr} {ks:List Key} {ds:List D} (g:GDict X.K X.w A ks ds):IxR X (fun x y H Q=>x=.ref A∧∃ k,y=kV k∧∃ d,getK ks ds k=some d∧∀ v,(∀ H,∃ H',Same H H'∧True)→(∀ H,Rep X.K H d v)→Q v H):=by
  intro value slice pins s σ H x y v u Q I rx ry h hs
  obtain ⟨rfl,k,rfl,d,hd,q⟩:=h
  cases rx
  obtain ⟨us,hl,hsys,rd,mk⟩:=g
  obtain ⟨vs,rel,dd⟩:=mk X.prog s.heap I.kIn
  obtain ⟨z,hz,_⟩:=(rd H).getK hd
  have rz:∀ H,Rep X.K H d z:=fun H'=>by
    obtain ⟨z',hz',r'⟩:=(rd H').getK hd
    rw [hz] at hz'
    cases hz'
    exact r'
  obtain ⟨w',hw,rw'⟩:=RelO.some_of (v:=z) (o:=valueAt vs k) (by rw [← hz,← zip_val k hl]; exact rel.val k)
  exact subscriptTail_builtinR (x:=w') dd.typeIs PySem.F.slot_dict_getitem.lookup
    (wpAny_getItem_of (Q:=fun r s'=>r=w'∧EP X pins σ Q r s') (kV_is ry) dd.mapOf hw ⟨rfl,z,H,I.tok _,rw',q z (fun H=>⟨H,Same.refl H,trivial⟩) rz⟩) hs
theorem se_gdix {A:Addr} {ks:List Key} {ds:List D} {x:Str} {p pos:Pos} {b:Expr} {fb:FE} (h:Glb X.mg x (.ref A)) (g:GDict X.K X.w A ks ds) (hg:Gl X x) (hb:SE X b fb) (hs:plainIx b=true:=by rfl) (hd:(x == ("__debug__" : Str))=false:=by decide) :
    SE X (.Subscript (.Name x p) b pos) (e1 (fGd ks ds) fb):=by
  obtain ⟨tb,pb,kb⟩:=hb.h
  refine ⟨⟨_,pe_ix (gd_ix g) (pe_gl h hg hd) pb (plain_ix hs),fun {G0 H0 G H τ σ d Q} E hf q=>?_⟩⟩
  obtain ⟨y,hy,hf⟩:=bindE hf
  obtain ⟨k,hk,hf⟩:=bindE hf
  exact kb E hy fun u G2 H2 x2 r2=>⟨rfl,k,key_rep hk r2,d,hf,fun v _ rv=>q v _ _ x2 (rv _)⟩
theorem gd_notIn {A:Addr} {ks:List Key} {ds:List D} (g:GDict X.K X.w A ks ds):OpR X (compareOp .NotIn) (fun x y H Q=>y=.ref A∧∃ k,x=kV k∧Q (.bl (!hasK ks k)) H):=by
  intro pins s σ H x y v u Q I rx ry h
  obtain ⟨rfl,k,rfl,q⟩:=h
  cases ry
  obtain ⟨us,hl,hsys,rd,mk⟩:=g
  obtain ⟨vs,rel,dd⟩:=mk X.prog s.heap I.kIn
  refine wpAny_notIn_of (kV_is rx) hsys dd.mapOf ?_
  rw [← (rel.val k).isSome_eq,zip_val k hl,getK_has k hl]
  exact ⟨.bl _,H,I.tok _,rfl,q⟩
end
end L3
namespace L3
open PySem PySem.Spec PyProof.Rows L2
noncomputable def seqD:D→Option (List D)
  | .lst xs=>some xs
  | .tup xs=>some xs
  | _=>none
noncomputable def iZip2 (a b:FE):FA:=fun σ=>(a σ).bind fun x=>(b σ).bind fun y=>(seqD x).bind fun xs=>(seqD y).bind fun ys=>some (List.zipWith (fun x y=>D.tup [x,y]) xs ys)
section
variable {K:PySem.W.Frag} {G H:Hp}
theorem seqD_rep {x:D} {xs:List D} {u:V} (h:seqD x=some xs) (r:Rep K G x u):∃ t a vs,u=.ref a∧SqX K t G a vs∧Reps K G xs vs∧xs.length≤sizeLine:=by
  cases x<;>first | (cases h; done) | skip
  · cases h
    obtain ⟨a,vs,rfl,sq,rs,l⟩:=r
    exact ⟨true,a,vs,rfl,sq,rs,l⟩
  · cases h
    obtain ⟨a,vs,rfl,sq,rs,l⟩:=r
    exact ⟨false,a,vs,rfl,sq,rs,l⟩
theorem sqX_mono {H':Hp} {t:Bool} {a:Addr} {vs:List V} (s:Same H H') (h:SqX K t H a vs):SqX K t H' a vs:=by
  cases t
  · exact sqL_mono s h
  · exact sqT_mono s h
theorem zip_walk {t1 t2:Bool} {a b:Addr} {vs us:List V} {xs ys:List D} (s1:SqX K t1 G a vs) (s2:SqX K t2 G b us) (r1:Reps K G xs vs) (r2:Reps K G ys us):Walk K (Itz K t1 t2 a b) G (List.zipWith (fun x y=>D.tup [x,y]) xs ys) where
  go:=fun i G2 H g1 g2 hi=>by
    rw [List.length_zipWith] at hi
    obtain ⟨v,e1,_⟩:=r1.get (List.getElem?_eq_getElem (show i<xs.length by omega))
    obtain ⟨u,e2,_⟩:=r2.get (List.getElem?_eq_getElem (show i<ys.length by omega))
    exact ⟨vs,us,v,u,sqX_mono (g1.trans g2) s1,sqX_mono (g1.trans g2) s2,e1,e2⟩
  yld:=fun i G2 H x H' g1 g2 hi y=>by
    obtain ⟨p,hp,rfl,k⟩:=y
    obtain ⟨v,u,e1,e2,rfl⟩:=k vs us (sqX_mono (g1.trans g2) s1) (sqX_mono (g1.trans g2) s2)
    obtain ⟨d1,f1,q1⟩:=r1.at e1
    obtain ⟨d2,f2,q2⟩:=r2.at e2
    refine ⟨upd G2 p (.tup [v,u]),.tup [d1,d2],Ext.lay g2 hp,by rw [List.getElem?_zipWith,f1,f2],?_⟩
    have sm:Same G (upd G2 p (.tup [v,u])):=g1.trans (same_new (g2.free hp) _)
    exact ⟨p,[v,u],rfl,SqT.of upd_same,⟨v,_,rfl,q1.mono sm,⟨u,_,rfl,q2.mono sm,rfl⟩⟩,small (n:=2) (by decide)⟩
  stop:=fun i G2 H g1 g2 hi=>by
    rw [List.length_zipWith] at hi
    refine ⟨vs,us,sqX_mono (g1.trans g2) s1,sqX_mono (g1.trans g2) s2,?_⟩
    rw [r1.length,r2.length]
    omega
end
section
variable {X:Cx} {a b e o:Expr} {fa fb f:FE} {p pos apos cpos:Pos}
theorem si_zip {elts:List Expr} {kk:Nat} {tp:Pos} (hg:Gl X "zip") (hm:X.mg "zip" = none) (ha:SE X a fa) (hb:SE X b fb) (hs:noStar a=true:=by rfl) (hs2:noStar b=true:=by rfl):SI X (.Tuple elts kk tp) (.Call (.Name "zip" p) [a,b] [] pos) (iZip2 fa fb):=by
  obtain ⟨t,pt,k⟩:=(sa_cons ha (sa_cons hb sa_nil hs2) hs).h
  refine ⟨⟨_,(qi_zip hg hm ⟨pt⟩ hs hs2).h,fun {G0 H0 G H τ σ ds R} K hf q=>?_⟩⟩
  obtain ⟨x,hx,hf⟩:=bindE hf
  obtain ⟨y,hy,hf⟩:=bindE hf
  obtain ⟨xs,hxs,hf⟩:=bindE hf
  obtain ⟨ys,hys,hf⟩:=bindE hf
  cases hf
  refine k K (ds:=[x,y]) (by unfold aCons; rw [hx,hy]; rfl) fun vs G1 H1 x1 r1=>?_
  obtain ⟨v,r,rfl,hv,⟨v2,r2,rfl,hv2,hr⟩⟩:=r1
  cases (show r2=[] from hr)
  obtain ⟨t1,a1,vs1,rfl,s1,q1,l1⟩:=seqD_rep hxs hv
  obtain ⟨t2,a2,vs2,rfl,s2,q2,l2⟩:=seqD_rep hys hv2
  refine ⟨a1,a2,vs1,vs2,t1,t2,rfl,sqX_mono x1.gh s1,sqX_mono x1.gh s2,q _ _ _ x1 ?_ (zip_walk s1 s2 q1 q2)⟩
  rw [List.length_zipWith]
  omega
noncomputable abbrev FO:=SEnv→Option (Option Int)
noncomputable def oNone:FO:=fun _=>some none
noncomputable def oSome (f:FE):FO:=fun σ=>(f σ).bind fun d=>match d with
  | .int i=>some (some i)
  | _=>none
noncomputable def cutD {α:Type} (xs:List α) (lo hi:Option Int):List α:=(xs.drop (HT.sIx xs.length 0 lo)).take (HT.sIx xs.length xs.length hi - HT.sIx xs.length 0 lo)
noncomputable def fSl (d:D) (lo hi:Option Int):Option D:=match d with
  | .lst xs=>some (.lst (cutD xs lo hi))
  | .tup xs=>if HT.sIx xs.length 0 lo=0∧HT.sIx xs.length xs.length hi=xs.length then none else some (.tup (cutD xs lo hi))
  | .str z=>some (.str (cutS z lo hi))
  | _=>none
noncomputable def eSl (a:FE) (lo hi:FO):FE:=fun σ=>(a σ).bind fun d=>(lo σ).bind fun l=>(hi σ).bind fun h=>fSl d l h
structure SO (X:Cx) (e:Option Expr) (f:FO):Prop where
  h:∃ t,PO X e t∧∀ {G0 H0 G H:Hp} {τ:SEnv} {σ:St} {d:Option Int} {Q:Option Int→Hp→Prop},EnvOk X.K X.N.length G0 H0 G H τ σ→f τ=some d→(∀ G' H',Ext G H G' H'→Q d H')→t σ H Q
theorem so_none:SO X none oNone:=⟨⟨_,po_none,fun E hf q=>by cases hf; exact q _ _ (Ext.refl E.ext.gh)⟩⟩
theorem so_some (h:SE X e f):SO X (some e) (oSome f):=by
  obtain ⟨t,pt,k⟩:=h.h
  refine ⟨⟨_,po_some pt,fun {G0 H0 G H τ σ d Q} E hf q=>?_⟩⟩
  obtain ⟨x,hx,hf⟩:=bindE hf
  cases x<;>first | (cases hf; done) | skip
  cases hf
  exact k E hx fun v G' H' x r=>⟨_,r,q _ _ x⟩
theorem Reps.cut {K:PySem.W.Frag} {G:Hp} {ds:List D} {vs:List V} (r:Reps K G ds vs) (lo hi:Option Int):Reps K G (cutD ds lo hi) (cutV vs lo hi):=by
  unfold cutD cutV
  rw [r.length]
  exact (r.drop _).take _
theorem cutD_len {α:Type} (xs:List α) (lo hi:Option Int):(cutD xs lo hi).length≤xs.length:=by
  unfold cutD
  rw [List.length_take,List.length_drop]
  omega
noncomputable def rSlA (K:PySem.W.Frag):V→Option Int→Option Int→Hp→VK→Prop:=fun x lo hi H Q=>rSlL K x lo hi H Q∨rSlT K x lo hi H Q∨rSlS x lo hi H Q
theorem sl_S:SlR X (rSlA X.K):=sl_list.or (sl_tup.or sl_str)
theorem se_sl {lo hi:Option Expr} {fl fh:FO} {p2:Pos} (ha:SE X a fa) (hl:SO X lo fl) (hh:SO X hi fh):SE X (.Subscript a (.Slice lo hi none p2) pos) (eSl fa fl fh):=by
  obtain ⟨ta,pa,ka⟩:=ha.h
  obtain ⟨tl,pl,kl⟩:=hl.h
  obtain ⟨th,ph,kh⟩:=hh.h
  refine ⟨⟨_,pe_slice sl_S pa pl ph,fun {G0 H0 G H τ σ d Q} E hf q=>?_⟩⟩
  obtain ⟨x,hx,hf⟩:=bindE hf
  obtain ⟨l,hl,hf⟩:=bindE hf
  obtain ⟨h,hh,hf⟩:=bindE hf
  refine ka E hx fun v G1 H1 x1 r1=>kl (E.go x1) hl fun G2 H2 x2=>kh ((E.go x1).go x2) hh fun G3 H3 x3=>?_
  have xx:=x1.trans (x2.trans x3)
  have r3:=r1.mono (x2.g.trans x3.g)
  cases x with
  | lst xs=>
    cases hf
    obtain ⟨a,vs,rfl,sq,rs,ll⟩:=r3
    refine .inl ⟨a,vs,rfl,sqL_mono x3.gh sq,fun p hp=>q _ _ _ (xx.trans (Ext.lay x3.gh hp)) ⟨p,_,rfl,SqL.of upd_same,(rs.cut l h).mono (same_new (x3.gh.free hp) _),Nat.le_trans (cutD_len ..) ll⟩⟩
  | tup xs=>
    change (if HT.sIx xs.length 0 l=0∧HT.sIx xs.length xs.length h=xs.length then none else some (D.tup (cutD xs l h)))=some d at hf
    by_cases c:HT.sIx xs.length 0 l=0∧HT.sIx xs.length xs.length h=xs.length
    · rw [if_pos c] at hf
      cases hf
    · rw [if_neg c] at hf
      cases hf
      obtain ⟨a,vs,rfl,sq,rs,ll⟩:=r3
      refine .inr (.inl ⟨a,vs,rfl,sqT_mono x3.gh sq,by rw [rs.length]; exact c,fun p hp=>?_⟩)
      exact q _ _ _ (xx.trans (Ext.lay x3.gh hp)) ⟨p,_,rfl,SqT.of upd_same,(rs.cut l h).mono (same_new (x3.gh.free hp) _),Nat.le_trans (cutD_len ..) ll⟩
  | str z=>
    cases hf
    obtain ⟨rfl,ll⟩:=r3
    exact .inr (.inr ⟨z,rfl,ll,q _ _ _ xx ⟨rfl,Nat.le_trans (cut_len ..) ll⟩⟩)
  | _=>cases hf
noncomputable def fTuple:List D→Option D
  | [.lst xs]=>some (.tup xs)
  | [.tup xs]=>some (.tup xs)
  | _=>none
theorem reps_one {K:PySem.W.Frag} {G:Hp} {d:D} {vs:List V} (r:Reps K G [d] vs):∃ v,vs=[v]∧Rep K G d v:=by
  obtain ⟨v,r',rfl,hv,hr⟩:=r
  cases (show r'=[] from hr)
  exact ⟨v,rfl,hv⟩
theorem ok_tuple {K:PySem.W.Frag}:OkCG K (fun xs H Q=>∃ p ys,xs=[.ref p]∧((SqL K H p ys∧∀ l,H l=none→Q (.ref l) (upd H l (.tup ys)))∨(SqT K H p ys∧Q (.ref p) H))) fTuple:=fun G H ds vs d Q s r hf q=>by
  match ds,hf with
  | [.lst xs],hf=>
    cases hf
    obtain ⟨v,rfl,a,us,rfl,sq,rs,l⟩:=reps_one r
    exact ⟨a,us,rfl,.inl ⟨sqL_mono s sq,fun p hp=>q _ _ _ (Ext.lay s hp) ⟨p,us,rfl,SqT.of upd_same,rs.mono (same_new (s.free hp) _),l⟩⟩⟩
  | [.tup xs],hf=>
    cases hf
    obtain ⟨v,rfl,a,us,rfl,sq,rs,l⟩:=reps_one r
    exact ⟨a,us,rfl,.inr ⟨sqT_mono s sq,q _ _ _ (Ext.refl s) ⟨a,us,rfl,sq,rs,l⟩⟩⟩
theorem st_gdnin {A:Addr} {ks:List Key} {ds:List D} {x:Str} {p:Pos} (h:Glb X.mg x (.ref A)) (g:GDict X.K X.w A ks ds) (hg:Gl X x) (ha:SE X a fa) (hm:behindInMarks .NotIn (.Name x p)=false:=by with_unfolding_all rfl) (hd:(x == ("__debug__" : Str))=false:=by decide) :
    ST X (.Compare a [.NotIn] [.Name x p] pos) (tE (e1 (fGnin ks) fa)):=by
  obtain ⟨tb,pb,kb⟩:=ha.h
  refine ⟨⟨_,pt_cmpR (gd_notIn g) pb (pe_gl h hg hd) hm,fun {G0 H0 G H τ σ d Q} E hf q=>?_⟩⟩
  obtain ⟨z,hz,hf⟩:=bindE hf
  obtain ⟨y,hy,hz⟩:=bindE hz
  obtain ⟨k,hk,hz⟩:=bindE hz
  cases hz
  cases hf
  exact kb E hy fun u G2 H2 x2 r2=>⟨rfl,k,key_rep hk r2,_,rfl,q _ _ x2⟩
variable {x:Str} {ps:List Str} {j k:Nat} {FF:List D→Option (Bool×D)}
theorem se_call0 (h:Has X.prog X.w X.K X.mg X.base x ps k (spF X.K FF)) (hr:Room j X.A) (hg:Gl X x) (hk:k≤j:=by decide) (hdb:(x == ("__debug__" : Str))=false:=by decide):SE X (.Call (.Name x p) [] [] pos) (eCall FF aNil):=by
  obtain ⟨f,fd,hm,kp,b,F⟩:=h
  refine ⟨⟨_,pe_call0 F (hr.mono hk) hg hm kp b .nil pass0 hdb,fun {G0 H0 G H τ σ d Q} E hf q=>?_⟩⟩
  obtain ⟨ds,hd,hf⟩:=bindE hf
  cases hd
  obtain ⟨⟨o,d⟩,hr,hf⟩:=bindE hf
  cases hf
  refine ⟨G,[],o,d,E.ext.gh,rfl,hr,?_⟩
  cases o with
  | false=>exact fun v G' H' x2 r=>q v G' H' x2 r
  | true=>
    intro p G' H' x2 hp gp o
    obtain ⟨u,hu,r⟩:=o.frz gp
    exact q _ _ _ (x2.frz hp gp hu) r
end
noncomputable def FR (n N:Nat) (b:FS) (ds:List D):Option (Bool×D):=if ds.length=n then runF N b ds else none
theorem FR_ok {n N:Nat} {b:FS}:∀ ds r,FR n N b ds=some r→ds.length=n∧runF N b ds=some r:=fun ds r h=>by
  unfold FR at h
  split at h
  · rename_i c
    exact ⟨c,h⟩
  · cases h
end L3
namespace L3
open PySem PySem.Spec PyProof.Rows L2
section
variable {X:Cx} {e o k v:Expr} {f fo fk fv:FE} {x:Str} {xp p pos apos cpos:Pos}
noncomputable def TupK (K:PySem.W.Frag) (A:Addr):Prop:=∃ o,K.lookup A=some o∧o.cls=.type "tuple" ∧ o.dict=none
structure SD (X:Cx) (pos:Pos) (keys:List (Option Expr)) (values:List Expr) (ks:List Str) (fs:FA):Prop where
  h:∃ trs,PPs X pos keys values trs∧∀ {G0 H0 G H:Hp} {τ:SEnv} {σ:St} {ds:List D} {Q:List (V×V)→Hp→Prop},EnvOk X.K X.N.length G0 H0 G H τ σ→fs τ=some ds→(∀ vs G' H',Ext G H G' H'→Reps X.K G' ds vs→vs.length=ks.length→Q ((ks.map V.str).zip vs) H')→tPairs trs σ H Q
theorem sd_nil:SD X pos [] [] [] aNil:=⟨⟨_,pps_nil,fun E hf q=>by
  cases hf
  exact q [] _ _ (Ext.refl E.ext.gh) rfl rfl⟩⟩
theorem sd_cons {x:Str} {j:Nat} {ks:List (Option Expr)} {vs:List Expr} {xs:List Str} {fs:FA} (hv:SE X v fv) (hr:SD X pos ks vs xs fs):SD X pos (some (.Constant (.str x) j xp)::ks) (v::vs) (x::xs) (aCons fv fs):=by
  obtain ⟨tv,pv,kv⟩:=hv.h
  obtain ⟨tr,pr,kr⟩:=hr.h
  refine ⟨⟨_,pps_cons pe_str pv pr,fun {G0 H0 G H τ σ ds Q} E hf q=>?_⟩⟩
  obtain ⟨d,hd,hf⟩:=bindE hf
  obtain ⟨es,hes,hf⟩:=bindE hf
  cases hf
  refine kv E hd fun u G1 H1 x1 r1=>kr (E.go x1) hes fun us G2 H2 x2 r2 l=>?_
  exact q (u::us) _ _ (x1.trans x2) ⟨u,us,rfl,r1.mono x2.g,r2⟩ (by rw [List.length_cons,List.length_cons,l])
theorem merge_new:∀ (kvs acc:List (Key×V)),(kvs.map (·.1)).Nodup→(∀ kv∈kvs,valV acc kv.1=none)→mergeK acc kvs=acc++kvs
  | [],acc,_,_=>by rw [List.append_nil]; rfl
  | kv::r,acc,nd,hn=>by
    rw [List.map_cons,List.nodup_cons] at nd
    have h0:=hn kv List.mem_cons_self
    show mergeK (putK acc kv.1 kv.2) r=_
    rw [putK_new kv.2 h0,merge_new r _ nd.2 (fun kv' m=>?_)]
    · rw [List.append_assoc]; rfl
    · rw [valV_snoc kv.1 kv'.1 kv.2 acc h0,if_neg (fun e=>nd.1 (by rw [← e]; exact List.mem_map_of_mem m))]
      exact hn kv' (List.mem_cons_of_mem _ m)
theorem zip_strs:∀ {ks:List Str} {vs:List V},(ks.map V.str).zip vs=(((ks.map Sum.inr:List Key).zip vs).map fun kv=>(kV kv.1,kv.2))
  | [],_=>rfl
  | _::_,[]=>rfl
  | k::ks,v::vs=>by
    rw [List.map_cons,List.map_cons,List.zip_cons_cons,List.zip_cons_cons,List.map_cons,zip_strs]
    rfl
theorem zip_keys:∀ {ks:List Key} {vs:List V},ks.length=vs.length→(ks.zip vs).map (·.1)=ks
  | [],[],_=>rfl
  | k::ks,v::vs,h=>by rw [List.zip_cons_cons,List.map_cons,zip_keys (by simpa using h)]
theorem sf_disp {keys:List (Option Expr)} {values:List Expr} {ks:List Str} {fs:FA} (h:SD X pos keys values ks fs) (nd:ks.Nodup) (h15:ks.length≤15) (hall:keys.all (·.isSome)=true:=by rfl) (hl:keys.length=values.length:=by rfl) (h0:keys≠[]:=by exact fun z=>nomatch z) (h15':keys.length≤15:=by decide) :
    SF X (.Dict keys values pos) (eDisp ks fs):=by
  obtain ⟨trs,pr,kr⟩:=h.h
  refine ⟨⟨_,pe_disp pr hall hl h0 h15',fun {G0 H0 G H τ σ d Q} E hf q p hp=>?_⟩⟩
  obtain ⟨ds,hds,hf⟩:=bindE hf
  have x0:Ext G H G (upd H p (.dK [])):=Ext.layO E.ext.gh hp
  refine kr (E.go x0) hds fun vs G2 H2 x2 r2 l=>?_
  have e2:H2 p=some (.dK []):=x2.h _ _ upd_same
  have g2:G2 p=none:=by
    cases c:G2 p with
    | none=>rfl
    | some u=>
      rcases x2.new p (by rw [c]; exact fun z=>nomatch z) with z | z
      · exact absurd (E.ext.gh.free hp) z
      · rw [upd_same] at z; cases z
  have hk:(ks.map Sum.inr:List Key).length=vs.length:=by rw [List.length_map,l]
  by_cases c:ks.length=ds.length
  · rw [if_pos c] at hf
    cases hf
    refine ⟨e2,(ks.map Sum.inr:List Key).zip vs,zip_strs,by rw [List.length_zip,hk,Nat.min_self,l]; exact h15,?_⟩
    rw [merge_new _ [] (by rw [zip_keys hk]; exact List.Pairwise.map _ (fun a b h z=>h (Sum.inr.inj z)) nd) (fun _ _=>rfl),List.nil_append]
    have xx:Ext G H G2 (upd H2 p (.dK ((ks.map Sum.inr:List Key).zip vs))):=by
      have y:=x0.trans x2
      refine ⟨y.g,fun b u z=>?_,fun b u z=>?_,y.new⟩
      · rw [upd_ne (ne_of_none z hp)]; exact y.h _ _ z
      · rw [upd_ne (ne_of_none z g2)]; exact x2.gh _ _ z
    exact q p _ _ xx hp g2 ⟨vs,upd_same,hk,r2,by rw [← c]; exact small (by omega)⟩
  · rw [if_neg c] at hf
    cases hf
noncomputable def bitsI (i:Int):Nat:=Builtin.Int.intBits i
noncomputable def fMulB:D→D→Option D:=fI (fun i j=>decide (bitsI i+bitsI j≤134217728)) (·*·)
theorem op_mulB:OpR X (binaryOp .Mult) (rI (fun i j=>bitsI i+bitsI j≤134217728) fun i j=>.int (i*j)):=opI fun i j _ _ _ _ _ hc q=>mul_int q (by
  unfold IntMulOk
  intro h
  rw [Bool.and_eq_true] at h
  have h2:decide (((Builtin.Int.intBits i+Builtin.Int.intBits j:Nat):Int) > (134217728:Nat))=true:=h.2
  have h3:=of_decide_eq_true h2
  have h4:Builtin.Int.intBits i+Builtin.Int.intBits j≤134217728:=hc
  omega)
theorem ok_mulB {K:PySem.W.Frag}:Ok2 K (rI (fun i j=>bitsI i+bitsI j≤134217728) fun i j=>.int (i*j)) fMulB:=ok_I fun _ _ h=>of_decide_eq_true h
end
end L3
namespace L3
open PySem PySem.Spec PyProof.Rows L2 PySem.W
theorem weight_bits:∀ {ns:List Int} {m:Int},m∈ns→bitsI m≤WData.weightAll (ns.map WData.int)
  | [],_,h=>by cases h
  | n::ns,m,h=>by
    have e:WData.weightAll ((n::ns).map WData.int)=bitsI n+1+WData.weightAll (ns.map WData.int):=by
      show WData.weightAll (WData.int n::ns.map WData.int)=_
      rw [WData.weightAll]
      rfl
    rw [e]
    rcases List.mem_cons.mp h with rfl | h
    · omega
    · have:=weight_bits h
      omega
theorem lay_bits {ns:List Int} (h:WData.layableAll [.list (ns.map WData.int)]=true):∀ m∈ns,bitsI m≤1048576:=fun m hm=>by
  have h1:WData.layable (.list (ns.map WData.int))=true:=List.all_eq_true.mp h _ (List.mem_singleton.mpr rfl)
  unfold WData.layable at h1
  rw [Bool.and_eq_true] at h1
  have h2:WData.weight (.list (ns.map WData.int))≤2 ^ 20:=of_decide_eq_true h1.2
  have h3:=weight_bits hm
  have h4:WData.weight (.list (ns.map WData.int))=WData.weightAll (ns.map WData.int):=by rw [WData.weight]
  omega
section
variable {P:Program} {w:World} {K:PySem.W.Frag} {mg:Str→Option Value} {base:Heap}
noncomputable def spLawB (K:PySem.W.Frag):Sp:=fun vs H Q _=>∃ (a:Addr) (ns:List Int),vs=[.ref a]∧SqL K H a (ns.map V.int)∧ns.length≤63∧(∀ m∈ns,bitsI m≤1048576)∧∀ H',Q (.bl true) H'
theorem law_okB {x:Str} {st:Stmt} {N:List Str} {k:Nat} {b:FS} {f:Addr} {fd:FuncData} (d:Fun K "law" "law" st f fd) (S:FnScope N [x] (defScope st)) (hN:1≤N.length) (hrun:∀ ns:List Int,ns.length≤63→(∀ m∈ns,bitsI m≤1048576)→∃ o,runF N.length b [.lst (ns.map D.int)]=some (o,.bl true))
    (hb:∀ (cdv:Value) (A:Around) (outer:List Env) (s:Shared) (H:Hp) (E:XK),Room k (A.deeper (envOfC "law" (defScope st) s.heap.objs.size f cdv))→SSs (cxOf CX0 P w K mg base N "law" (defScope st) f cdv A outer s H E).nox (defBody st) b):FnOk P w K mg base CX0 (k+1) f fd [x] (spLawB K):=by
  refine d.ok S (fun vs H Q E h=>?_) fun cdv A outer s H vs Q E hr h=>?_
  · obtain ⟨a,ns,rfl,_⟩:=h
    rfl
  · obtain ⟨a,ns,rfl,sq,l,hbits,q⟩:=h
    obtain ⟨o,hrun⟩:=hrun ns l hbits
    obtain ⟨t,p,kt⟩:=(hb cdv A outer s H E hr).h
    obtain ⟨fl,hfl,hrun⟩:=bindE hrun
    have r:Reps K H [.lst (ns.map D.int)] [.ref a]:=⟨_,_,rfl,⟨a,_,rfl,sq,Reps.ints,by rw [List.length_map]; exact small (by omega)⟩,rfl⟩
    refine ⟨t,p,kt (env_start (N:=N) (Same.refl H) r hN) hfl ?_⟩
    cases fl with
    | nx τ=>cases hrun
    | rt o' d'=>
      cases hrun
      cases o with
      | false=>
        intro v G H' _ r
        cases (show v=.bl true from r)
        exact q H'
      | true=>exact fun p G H' _ _ _ z=>z.elim
    | _=>cases hrun
end
theorem walkB {l:PySem.W.OpenLaw} {n k:Nat} {q:Program} {loose:List Str} {XP:(Str→Option Value)→Heap→Prop} {YP:World→Heap→Prop} {d:DefRec} {K:Params→PySem.W.Frag} {sp:PySem.W.Frag→Sp} {x:Str}
    (hn:l.most=some n) (hn2:n≤sizeLine) (hdf:d.params.defaults=[]) (hr:Room k callerA) (hY:∀ (w:World) (h:Heap),YP w h→(K w.params).In h)
    (F:∀ (w:World) (mg:Str→Option Value) (fa:Addr) (h:Heap),(K w.params).In h→h.Ns mainGlobals mg→mg d.name=some (.ref fa)→
      ∃ fd:FuncData,(∀ (s:Shared) (u:Value),BindsTo s fd ⟨[u],[]⟩ [(x,u)])∧∀ base:Heap,(K w.params).In base→base.Ns mainGlobals mg→FnOk l.prog w (K w.params) mg base CX0 k fa fd [x] (sp (K w.params)))
    (hsp:∀ (K:PySem.W.Frag) (H:Hp) (a:Addr) (ns:List Int),ns.length≤n→(∀ m∈ns,bitsI m≤1048576)→SqL K H a (ns.map V.int)→sp K [.ref a] H (fun v _=>v=.bl true) fun _ _ _=>False) :
    PySem.W.WalkO q loose XP YP l.row.toRowW d [] (fun f vs=>PySem.call f vs):=by
  intro w s0 s1 mg mb Gr Y fa o pm cd doc dV kV ho hd hcd hD hmg hg args vals as hpre hlay hrd hwl hlo
  have e1:dV=.none:=Dflts.none hD hdf
  have e2:kV=.none:=Dflts.noKw hD
  subst e1 e2
  obtain ⟨a,vs,ns,rfl,rfl,hobj,hints,hlen⟩:=Att.script_of hn hpre hwl
  have KX:=hY w _ Y
  obtain ⟨fd,hb,hF⟩:=F w mg fa _ KX Gr.T.g hmg
  have main:=law_call KX Gr.T.g Gr.T.b Gr.T.builtins Gr.T.nolimit hg hobj hints (Nat.le_trans hlen hn2) hr hF hb (fun H _ hS=>hsp _ H a ns hlen (lay_bits hlay) hS) (fun _ _ _ z=>z)
  refine enter_call (codeAny_mono main fun r s' hq=>?_)
  obtain ⟨rfl,h2,h3,h4⟩:=hq
  refine ⟨.inl ⟨.bool true,.bool true,[],rfl,fun _=>rfl,.bool true,Att.post_true l _,fun _=>?_⟩,h2,h3,h4⟩
  exact ⟨List.Pairwise.nil,fun _ hm=>nomatch hm⟩
end L3
namespace L3
open PySem PySem.Spec PyProof.Rows L2
section
variable {X:Cx}
end
end L3
namespace L3
open PySem PySem.Spec PyProof PyProof.Rows L2 Builtin Builtin.Str
section
variable {X:Cx} {e o a b c:Expr} {f fo fa fb fc:FE} {x:Str} {xp p pos apos cpos:Pos}
noncomputable def strsOf:List D→Option (List Str)
  | []=>some []
  | .str z::r=>(strsOf r).bind fun ts=>some (z::ts)
  | _=>none
noncomputable def fJoin:D→D→Option D
  | .str sep,.lst xs=>(strsOf xs).bind fun ts=>if (ts.map (·.length)).sum+ts.length*sep.length≤LIM then some (.str (glued sep ts)) else none
  | _,_=>none
theorem strs_vals {K:PySem.W.Frag} {G:Hp}:∀ {xs:List D} {vs:List V} {ts:List Str},strsOf xs=some ts→Reps K G xs vs→vs=ts.map V.str
  | [],_,_,h,r=>by
    cases h
    exact r
  | x::xs,_,ts,h,r=>by
    obtain ⟨v,r',rfl,hv,hr⟩:=r
    unfold strsOf at h
    split at h
    · rename_i e; cases e
    · rename_i z r2 e
      cases e
      obtain ⟨ts2,h2,h⟩:=bindE h
      cases h
      rw [List.map_cons,(show v=_∧_ from hv).1,strs_vals h2 hr]
    · cases h
theorem se_m_join (ho:SE X o fo) (he:SB X e f) (hbase:attributeBase o "join" X.env (eval o X.env)=eval o X.env:=by rfl) (hline:(apos.endLine == cpos.line)=true:=by rfl) (hs:noStar e=true:=by rfl) :
    SE X (.Call (.Attribute o "join" apos) [e] [] cpos) (e2 fJoin fo f):=by
  obtain ⟨to,po,ko⟩:=ho.h
  obtain ⟨te,pe,ke⟩:=(sab_cons he sab_nil hs).h
  refine ⟨⟨_,(qe_bm PySem.F.plainAttrs_str PySem.F.slot_str_join PySem.F.type_str_join mt_join ⟨po⟩ ⟨pe⟩ hbase hline (by rw [List.all_cons,hs]; rfl) (by show 1<30; decide)).h,fun {G0 H0 G H τ σ d Q} E hf q=>?_⟩⟩
  obtain ⟨x,hx,hf⟩:=bindE hf
  obtain ⟨y,hy,hf⟩:=bindE hf
  refine ko E hx fun v G1 H1 x1 r1=>?_
  cases x with
  | str sep=>
    obtain ⟨rfl,l1⟩:=r1
    refine ⟨rfl,ke (E.go x1) (ds:=[y]) (by unfold aCons; rw [hy]; rfl) fun ws G2 H2 x2 r2=>?_⟩
    obtain ⟨w,rfl,rw_⟩:=reps_one r2
    cases y with
    | lst xs=>
      obtain ⟨ts,hts,hf⟩:=bindE hf
      obtain ⟨aa,vs,rfl,sq,rs,_⟩:=rw_
      have ev:=strs_vals hts rs
      subst ev
      by_cases cc:(ts.map (·.length)).sum+ts.length*sep.length≤LIM
      · rw [if_pos cc] at hf
        cases hf
        have c':(ts.map (·.length)).sum+ts.length*sep.length≤sizeLine:=by rw [sizeLine_eq]; exact cc
        exact ⟨sep,aa,ts,rfl,rfl,sq,c',q _ _ _ (x1.trans x2) ⟨rfl,Nat.le_trans (glued_len sep ts) c'⟩⟩
      · rw [if_neg cc] at hf
        cases hf
    | _=>cases hf
  | _=>cases hf
noncomputable def okI (i:Int):Bool:=decide (i.natAbs.log2<1920)
noncomputable def fStr:List D→Option D
  | [.int i]=>match okI i with
    | true=>some (.str (toString i))
    | false=>none
  | [.str z]=>some (.str z)
  | _=>none
theorem call_strS:CallR X (.type "str") (fun xs H Q=>(∃ i,xs=[.int i]∧i.natAbs.log2<1920∧Q (.str (toString i)) H)∨∃ z,xs=[.str z]∧Q (.str z) H):=call_str_int.or (by
  intro pins s σ H xs us Q I r h
  obtain ⟨z,rfl,q⟩:=h
  obtain ⟨u,rfl,t,rfl⟩:=vals1 r
  exact PySem.P.str_of_str ⟨.str z,H,I,⟨_,rfl⟩,q⟩)
theorem strI_len {i:Int} (h:i.natAbs.log2<1920):(Str.ofString (toString i)).length≤sizeLine:=to_line (int_le h)
theorem ok_str {K:PySem.W.Frag}:OkCB K (fun xs H Q=>(∃ i,xs=[.int i]∧i.natAbs.log2<1920∧Q (.str (toString i)) H)∨∃ z,xs=[.str z]∧Q (.str z) H) fStr:=fun G H ds vs d Q s r hf q=>by
  unfold fStr at hf
  split at hf
  · rename_i i
    obtain ⟨v,rfl,hv⟩:=reps_one r
    cases c:okI i with
    | false=>rw [c] at hf; cases hf
    | true=>
      rw [c] at hf
      cases hf
      cases (show v=_ from hv)
      have h:=of_decide_eq_true c
      exact .inl ⟨i,rfl,h,q _ _ _ (Ext.refl s) ⟨rfl,strI_len h⟩⟩
  · rename_i z
    cases hf
    obtain ⟨v,rfl,hv⟩:=reps_one r
    obtain ⟨rfl,l⟩:=hv
    exact .inr ⟨z,rfl,q _ _ _ (Ext.refl s) ⟨rfl,l⟩⟩
  · cases hf
end
end L3
namespace L2
open PySem PySem.Spec PyProof.Rows
noncomputable def Ite (K:PySem.W.Frag) (a:Addr):It:=
  ⟨fun i H=>∃ xs x,SqL K H a xs∧xs[i]?=some x,
   fun i H v H'=>∃ p,H p=none∧v=.ref p∧∀ xs,SqL K H a xs→∃ x,xs[i]?=some x∧H'=upd H p (.tup [.int (i:Int),x]),
   fun i H=>∃ xs,SqL K H a xs∧xs.length≤i⟩
theorem turn_enum {P:Program} {w:World} {K:PySem.W.Frag} {elts:List Expr} {kk:Nat} {pos:Pos} (a e it:Addr) (hei:e≠it) :
    Turn P w K (.Tuple elts kk pos) (Ite K a) [e,it] e (fun i h=>(∃ old,IsEnum h e it (i:Int) old)∧h.IsListIter it a i) where
  mem:=by simp
  obj:=fun i h st c hc=>by
    obtain ⟨⟨old,s1⟩,⟨o2,s2,_,d2⟩⟩:=st
    simp only [List.mem_cons,List.not_mem_nil,or_false] at hc
    rcases hc with rfl | rfl
    · exact ⟨_,s1,fun v q=>nomatch q⟩
    · exact ⟨_,s2,fun v q=>by rw [d2] at q; cases q⟩
  keep:=fun i h h' st k=>by
    obtain ⟨⟨old,s1⟩,s2⟩:=st
    exact ⟨⟨old,k e (by simp) _ s1⟩,s2.at fun o x=>k it (by simp) o x⟩
  item:=by
    intro X hP hw hK hc i pins s σ H E I hf st hg
    subst hP hw hK
    obtain ⟨⟨old,s1⟩,s2⟩:=st
    obtain ⟨xs,x,hx,ex⟩:=hg
    obtain ⟨us,ru,pu,_⟩:=I.list hx
    have pl:=pu.isList
    obtain ⟨xu,hxu,rxu⟩:=ru.get ex
    have hx':us.toArray[i]?=some xu:=by rw [List.getElem?_toArray]; exact hxu
    have lt1:e<s.heap.objs.size:=Heap.lt_size s1
    have lt2:it<s.heap.objs.size:=by obtain ⟨o,z,_⟩:=s2; exact Heap.lt_size z
    refine wpAny_pyNext_enum_item s1 s2 pl hx' hei fun h1 heo hit1 ht1 hz1 hk1=>?_
    refine ⟨_,rfl,wpAny_letOwnedTupleGo_enum (s:={ s with heap:=h1,toks:=s.toks+1 }) heo fun h2 he2 hs2=>?_⟩
    replace hs2:Heap.SameBut e h1 h2:=hs2
    have hTs:s.heap.get? s.heap.objs.size=none:=by
      cases q:s.heap.get? s.heap.objs.size with
      | none=>rfl
      | some o=>exact absurd (Heap.lt_size q) (Nat.lt_irrefl _)
    have hTf:H s.heap.objs.size=none:=I.hok.fresh (Nat.le_refl _)
    have tup:h2.get? s.heap.objs.size=some { cls:=.type "tuple",data:=.seq #[.int i s.toks,xu] }:=hs2.extBut _ _ (Nat.ne_of_gt lt1) ht1
    have kk:∀ c o,c ∉ [e,it]→s.heap.get? c=some o→h2.get? c=some o:=fun c o hc z=>by
      simp only [List.mem_cons,List.not_mem_nil,or_false,not_or] at hc
      exact hs2.extBut _ _ hc.1 (hk1 c o hc.1 hc.2 z)
    have new:ObjOk X.prog X.w (upd H s.heap.objs.size (.tup [.int (i:Int),x])) h2 s.heap.objs.size (.tup [.int (i:Int),x]):=⟨(by show 2≤sizeLine; decide),[.int i s.toks,xu],.cons ⟨_,rfl⟩ (.cons rxu .nil),⟨_,tup,rfl,_,rfl⟩⟩
    refine ⟨.ref s.heap.objs.size,upd H s.heap.objs.size (.tup [.int (i:Int),x]),I.butNew (tk:=s.toks+1) hf kk hTs hTf new,rfl,⟨s.heap.objs.size,hTf,rfl,fun xs' hx'=>?_⟩,⟨⟨xu,?_⟩,hit1.at fun o z=>hs2.extBut _ _ hei.symm z⟩,fun c hc=>?_⟩
    · rw [I.list_inj hx' hx]
      exact ⟨x,ex,rfl⟩
    · rw [show ((i+1:Nat):Int)=(i:Int)+1 from rfl]
      exact he2
    · rw [upd_ne]
      · exact (hf c hc).1
      · intro q
        have hlt:c<s.heap.objs.size:=by
          simp only [List.mem_cons,List.not_mem_nil,or_false] at hc
          rcases hc with rfl | rfl
          · exact lt1
          · exact lt2
        rw [q] at hlt
        exact absurd hlt (Nat.lt_irrefl _)
  done:=by
    intro X hP hw hK hc i pins s σ H E I hf st hg
    subst hP hw hK
    obtain ⟨⟨old,s1⟩,s2⟩:=st
    obtain ⟨xs,hx,hend⟩:=hg
    obtain ⟨us,ru,pu,_⟩:=I.list hx
    have pl:=pu.isList
    have hx':us.toArray[i]?=none:=by
      rw [List.getElem?_toArray]
      exact List.getElem?_eq_none (by have:=ru.length; omega)
    refine wpAny_pyNext_enum_end (by exact I.ok.hd hc) s1 s2 pl hx' fun h1 he1=>?_
    refine ⟨rfl,I.but (tk:=s.toks) hf fun c ob hcc eb=>?_⟩
    simp only [List.mem_cons,List.not_mem_nil,or_false,not_or] at hcc
    exact he1 c ob hcc.2 eb
  self:=fun _ _ _ _ _ st h=>by
    obtain ⟨⟨old,s1⟩,_⟩:=st
    exact wpAny_pyIter_enum s1 h
section
variable {X:Cx}
noncomputable def iEnumT (K:PySem.W.Frag) (ta:TA):TI:=fun σ H R=>ta σ H fun vs H1=>∃ a xs,vs=[.ref a]∧SqL K H1 a xs∧R (Ite K a) H1
theorem pi_enum {a:Expr} {ta:TA} {p pos:Pos} {elts:List Expr} {kk:Nat} {tp:Pos} (hg:Gl X "enumerate") (hm:X.mg "enumerate" = none) (ha:PA X [a] ta) (hs:starEach [a] X.env=[(false,eval a X.env)]:=by rfl) :
    PI X (.Tuple elts kk tp) (.Call (.Name "enumerate" p) [a] [] pos) (iEnumT X.K ta):=by
  intro pins s σ H R I h
  refine Call_ (ld_blt I hg hm boot_enumerate (PyProof.Rows.callWith_type1 (thn (ha pos pins s σ H _ I h) fun us s1 ⟨vs,H1,I1,r1,q1⟩=>?_) (by rw [hs]; rfl) rfl))
  obtain ⟨l1,xs,rfl,hx,q⟩:=q1
  obtain ⟨u,rfl,ru⟩:=vals1 r1
  cases (show u=Value.ref l1 from ru)
  obtain ⟨us,_,pu,_⟩:=I1.list hx
  refine call_enumerate_list pu.isList fun h' a1 a2 hz kp=>?_
  have I2:Inv X pins σ H1 { s1 with heap:=h' }:=I1.kept (t':=s1.toks) kp
  refine wpAny_pyIter_enum (s:={ s1 with heap:=h' }) a1 ?_
  generalize hn:s1.heap.objs.size=n at a1 a2 hz
  refine ⟨n+1,[n+1,n],_,_,H1,rfl,I2,turn_enum l1 (n+1) n (ne_addr (by omega)),⟨⟨_,a1⟩,a2⟩,fun c hc=>?_,q⟩
  have hle:s1.heap.objs.size≤c:=by
    rw [hn]
    simp only [List.mem_cons,List.not_mem_nil,or_false] at hc
    rcases hc with rfl | rfl
    · exact Nat.le_add_right _ _
    · exact Nat.le_refl _
  exact I1.fpOk hle (I1.hok.fresh hle)
end
end L2
namespace L3
open PySem PySem.Spec PyProof.Rows L2
noncomputable def numbered (xs:List D):List D:=List.zipWith (fun (i:Nat) x=>D.tup [.int (i:Int),x]) (List.range xs.length) xs
noncomputable def iEnum (a:FE):FA:=fun σ=>(a σ).bind fun d=>match d with
  | .lst xs=>some (numbered xs)
  | _=>none
theorem numbered_len (xs:List D):(numbered xs).length=xs.length:=by simp [numbered]
theorem numbered_get (xs:List D) (i:Nat):(numbered xs)[i]?=(xs[i]?).map fun x=>D.tup [.int (i:Int),x]:=by
  unfold numbered
  rw [List.getElem?_zipWith]
  by_cases h:i<xs.length
  · rw [List.getElem?_range h,List.getElem?_eq_getElem h]; rfl
  · rw [List.getElem?_eq_none (by simpa using h),List.getElem?_eq_none (by omega)]; rfl
section
variable {K:PySem.W.Frag} {G H:Hp}
theorem enum_walk {a:Addr} {vs:List V} {xs:List D} (s1:SqL K G a vs) (r1:Reps K G xs vs):Walk K (Ite K a) G (numbered xs) where
  go:=fun i G2 H g1 g2 hi=>by
    rw [numbered_len] at hi
    obtain ⟨v,e1,_⟩:=r1.get (List.getElem?_eq_getElem hi)
    exact ⟨vs,v,sqL_mono (g1.trans g2) s1,e1⟩
  yld:=fun i G2 H x H' g1 g2 hi y=>by
    obtain ⟨p,hp,rfl,k⟩:=y
    obtain ⟨v,e1,rfl⟩:=k vs (sqL_mono (g1.trans g2) s1)
    obtain ⟨d1,f1,q1⟩:=r1.at e1
    refine ⟨upd G2 p (.tup [.int (i:Int),v]),.tup [.int (i:Int),d1],Ext.lay g2 hp,by rw [numbered_get,f1]; rfl,?_⟩
    have sm:Same G (upd G2 p (.tup [.int (i:Int),v])):=g1.trans (same_new (g2.free hp) _)
    exact ⟨p,[.int (i:Int),v],rfl,SqT.of upd_same,⟨_,_,rfl,rfl,⟨v,_,rfl,q1.mono sm,rfl⟩⟩,small (n:=2) (by decide)⟩
  stop:=fun i G2 H g1 g2 hi=>by
    rw [numbered_len] at hi
    exact ⟨vs,sqL_mono (g1.trans g2) s1,by rw [r1.length]; exact hi⟩
end
theorem si_enum {X:Cx} {a:Expr} {fa:FE} {p pos:Pos} {elts:List Expr} {kk:Nat} {tp:Pos} (hg:Gl X "enumerate") (hm:X.mg "enumerate" = none) (ha:SE X a fa) (hs:noStar a=true:=by rfl):SI X (.Tuple elts kk tp) (.Call (.Name "enumerate" p) [a] [] pos) (iEnum fa):=by
  obtain ⟨t,pt,k⟩:=(sa_cons ha sa_nil hs).h
  refine ⟨⟨_,pi_enum hg hm pt (star_cons hs),fun {G0 H0 G H τ σ ds R} K hf q=>?_⟩⟩
  obtain ⟨x,hx,hf⟩:=bindE hf
  cases x<;>first | (cases hf; done) | skip
  cases hf
  rename_i xs
  refine k K (ds:=[.lst xs]) (by unfold aCons; rw [hx]; rfl) fun vs G1 H1 x1 r1=>?_
  obtain ⟨v,r,rfl,hv,hr⟩:=r1
  cases (show r=[] from hr)
  obtain ⟨aa,vs1,rfl,s1,q1,l1⟩:=hv
  exact ⟨aa,vs1,rfl,sqL_mono x1.gh s1,q _ _ _ x1 (by rw [numbered_len]; exact l1) (enum_walk s1 q1)⟩
end L3
namespace L2
open PySem PySem.Spec PyProof PyProof.Rows
section
variable {X:Cx}
end
end L2
namespace L3
open PySem PySem.Spec PyProof.Rows L2
end L3
namespace L2
open PySem PySem.Spec PyProof.Rows
section
variable {X:Cx}
noncomputable def rInsert:V→List V→Hp→VK→Prop:=fun x vs H Q=>∃ l xs i y,x=.ref l∧vs=[.int i,y]∧H l=some (.lst xs)∧xs.length<sizeLine∧0≤i∧i<2 ^ 62∧Q .non (upd H l (.lst (xs.take i.toNat++[y]++xs.drop i.toNat)))
theorem mt_insert:MtM X "list.insert" rInsert:=by
  intro pins s σ H x vs v us Q I rx rv h
  obtain ⟨l,xs,i,y,rfl,rfl,hH,hz,i0,i1,q⟩:=h
  cases rx
  obtain ⟨u,w,rfl,ru,rw'⟩:=vals2 rv
  obtain ⟨t,rfl⟩:=(show ∃ t,u=Value.int i t from ru)
  obtain ⟨z,its,n,r,hl,e⟩:=I.lstM hH
  have fit:¬ (!Builtin.List.listFitsIndex i)=true:=by
    unfold Builtin.List.listFitsIndex
    rw [decide_eq_true (show -(2 ^ 63:Int)≤i by omega),decide_eq_true (show i<2 ^ 63 by omega)]
    decide
  refine call_meets F.slot_list_insert ⟨_,e,rfl⟩ F.entry_list_insert (F.args_list_insert_3 _ _ _) (AutoSeq1.list_insert_list_int_val_1 l its.toArray n i t w fit (by rw [List.size_toArray]; omega)) ⟨e,?_⟩
  refine ⟨.non,_,I.lset (its':=its.take i.toNat++[w]++its.drop i.toNat) hH e ?_ (((r.take _).append (.cons rw' .nil)).append (r.drop _)) ?_,rfl,q⟩
  · show (its.toArray.extract 0 (if i<0 then (i+((its.toArray.size:Nat):Int)).toNat else min i.toNat its.toArray.size)).push w++its.toArray.extract (if i<0 then (i+((its.toArray.size:Nat):Int)).toNat else min i.toNat its.toArray.size)=_
    rw [if_neg (by omega),List.size_toArray]
    apply Array.ext'
    simp only [Array.toList_append,Array.toList_push,Array.toList_extract,List.extract_eq_take_drop,List.drop_zero,Nat.sub_zero]
    have e1:its.take (min i.toNat its.length)=its.take i.toNat:=by
      rcases Nat.le_total i.toNat its.length with h | h
      · rw [Nat.min_eq_left h]
      · rw [Nat.min_eq_right h,List.take_of_length_le (Nat.le_refl _),List.take_of_length_le h]
    have e2:(its.drop (min i.toNat its.length)).take (its.length - min i.toNat its.length)=its.drop i.toNat:=by
      rw [List.take_of_length_le (by rw [List.length_drop]; omega)]
      rcases Nat.le_total i.toNat its.length with h | h
      · rw [Nat.min_eq_left h]
      · rw [Nat.min_eq_right h,List.drop_of_length_le (Nat.le_refl _),List.drop_of_length_le h]
    first
      | rw [e1,e2]
      | (simp only [List.size_toArray]; rw [e1,e2])
  · rw [List.length_append,List.length_append,List.length_singleton,List.length_take,List.length_drop]
    omega
end
end L2
namespace L3
open PySem PySem.Spec PyProof.Rows L2
noncomputable def insD (ds:List D) (j:Int) (y:D):List D:=ds.take j.toNat++[y]++ds.drop j.toNat
noncomputable def sIns (i:Nat) (k v:FE):FS:=fun σ=>match σ[i]? with
  | some (some (true,.lst ds))=>(k σ).bind fun x=>(v σ).bind fun y=>match x with
    | .int j=>if 0≤j∧j<2 ^ 62∧ds.length<LIM then some (.nx (σ.set i (some (true,.lst (insD ds j y))))) else none
    | _=>none
  | _=>none
section
variable {X:Cx} {e o a b c:Expr} {f fo fa fb fc:FE} {x:Str} {xp p pos apos cpos:Pos}
theorem ss_insert {i:Nat} {k v:Expr} {fk fv:FE} (ho:QE X (.Name x xp) (tVar i)) (hk:SE X k fk) (hv:SE X v fv) (hbase:attributeBase (.Name x xp) "insert" X.env (eval (.Name x xp) X.env)=eval (.Name x xp) X.env:=by rfl) (hline:(apos.endLine == cpos.line)=true:=by rfl) (hs:noStar k=true:=by rfl) (hs2:noStar v=true:=by rfl) :
    SS X (.Expr (.Call (.Attribute (.Name x xp) "insert" apos) [k,v] [] cpos) pos) (sIns i fk fv):=by
  obtain ⟨t,p,kk⟩:=(sa_cons hk (sa_cons hv sa_nil hs2) hs).h
  refine ⟨⟨_,(qs_expr (qe_bm PySem.F.plainAttrs_list PySem.F.slot_list_insert PySem.F.type_list_insert mt_insert ho ⟨p⟩ hbase hline (by rw [List.all_cons,hs,List.all_cons,hs2]; rfl) (by show 2<30; decide)) rfl).h,fun {G0 H0 G H τ σ fl E} K hf q=>?_⟩⟩
  unfold sIns at hf
  split at hf
  · rename_i ds hd
    obtain ⟨xk,hx,hf⟩:=bindE hf
    obtain ⟨y,hy,hf⟩:=bindE hf
    cases xk with
    | int j=>
      change (if 0≤j∧j<2 ^ 62∧ds.length<LIM then some (Fl.nx (τ.set i (some (true,.lst (insD ds j y))))) else none)=some fl at hf
      by_cases c:0≤j∧j<2 ^ 62∧ds.length<LIM
      · rw [if_pos c] at hf
        cases hf
        obtain ⟨aa,ea,g,z,vs,ev,rs,l⟩:=K.ow _ _ hd
        refine ⟨_,ea,.inl ⟨rfl,vs,SqL.of ev⟩,kk K (ds:=[.int j,y]) (by unfold aCons; rw [hx,hy]; rfl) fun us G1 H1 x1 r1=>?_⟩
        obtain ⟨u,r,rfl,hu,⟨u2,r2,rfl,hu2,hr⟩⟩:=r1
        cases (show r2=[] from hr)
        cases (show u=_ from hu)
        refine ⟨aa,vs,j,u2,rfl,rfl,x1.h _ _ ev,by rw [rs.length,sizeLine_eq]; exact c.2.2,c.1,c.2.1,?_⟩
        refine q _ _ _ ((K.go x1).mut hd ea ⟨_,upd_same,(((rs.mono x1.g).take _).append (Reps.one hu2)).append ((rs.mono x1.g).drop _),?_⟩)
        unfold insD
        rw [List.length_append,List.length_append,List.length_singleton,List.length_take,List.length_drop,sizeLine_eq]
        have h2:ds.length<16777216:=c.2.2
        have h3:min j.toNat ds.length+1+(ds.length - j.toNat)≤ds.length+1:=by omega
        exact Nat.le_trans h3 h2
      · rw [if_neg c] at hf
        cases hf
    | _=>cases hf
  · cases hf
end
end L3
namespace L3
open PySem PySem.Spec PyProof.Rows L2
section
variable {X:Cx} {a b:Expr} {fa fb:FE} {x:Str} {xp pos:Pos}
end
end L3
namespace L3
open PySem PySem.Spec PyProof.Rows L2
section
variable {X:Cx} {e:Expr} {es:List Expr} {fs:FA} {x:Str} {ps:List Str} {k j:Nat} {FF:List D→Option (Bool×D)} {p pos:Pos}
end
end L3
namespace L3
open PySem PySem.Spec PyProof.Rows L2
section
variable {X:Cx} {e:Expr} {es:List Expr} {fs:FA} {x y:Str} {ps:List Str} {k j:Nat} {FF:List D→Option (Bool×D)} {p pos pos' cpos:Pos}
end
end L3
namespace L3
open PySem PySem.Spec PyProof.Rows L2
section
variable {X:Cx} {x:Str} {xp pos apos cpos:Pos}
end
end L3
namespace L3
open PySem PySem.Spec PyProof.Rows L2
section
variable {K:PySem.W.Frag} {n:Nat} {G0 H0 G H G' H':Hp} {τ:SEnv} {σ:St}
end
section
variable {X:Cx} {e:Expr} {f:FE} {ft:FT}
end
section
variable {X:Cx} {a b:Expr} {f fa fb:FE} {x:Str} {xp pos apos cpos:Pos} {e:Expr}
end
end L3
namespace L3
open PySem PySem.Spec PyProof.Rows L2
section
variable {X:Cx} {js:List Nat} {e c:Expr} {f:FE} {ft:FT} {g g':FS} {sts sa:List Stmt} {pos xp apos cpos:Pos} {x:Str}
end
section
variable {X:Cx} {js:List Nat} {e0 e1:Expr} {f0 f1:FE} {fm fr:FS} {mid rest:List Stmt} {p1 p2 p3 xp cp sp apos cpos pos:Pos} {x:Str} {kd:Nat}
end
end L3
namespace L2
open PySem PySem.Spec PyProof PyProof.Rows
section
variable {X:Cx}
noncomputable def isStrV:V→Bool
  | .str _=>true
  | _=>false
noncomputable def rInRef (K:PySem.W.Frag):R2:=fun x y H Q=>∃ p xs r ys,x=.ref r∧(SqL K H r ys∨SqT K H r ys)∧y=.ref p∧SqT K H p xs∧xs.all isStrV=true∧Q (.bl false) H
theorem strs_eqAt {A:Around} {s:Shared} {r:Addr} (hr:(∃ its,s.heap.IsList r its)∨∃ its,s.heap.IsTuple r its) (hu:A.units<cLine):∀ {xs:List V} {us:List Value},Vals xs us→xs.all isStrV=true→∀ u∈us,SeqAt.EqAt A s u (.ref r) false
  | _,_,.nil,_=>fun u hu=>by cases hu
  | y::xs,u::us,.cons h t,f=>fun u' hu'=>by
    rw [List.all_cons,Bool.and_eq_true] at f
    rcases List.mem_cons.mp hu' with rfl | hu'
    · cases y with
      | str z=>
        obtain ⟨tk,rfl⟩:=h
        rcases hr with ⟨its,hl⟩ | ⟨its,hl⟩
        · exact SeqAt.EqAt.str_list z tk hl hu
        · exact SeqAt.EqAt.str_tuple z tk hl hu
      | _=>exact absurd f.1 Bool.false_ne_true
    · exact strs_eqAt hr hu t f.2 u' hu'
theorem op_in_ref (hu:X.A.units+1<cLine):OpR X (compareOp .In) (rInRef X.K):=by
  intro pins s σ H x y v u Q I rx ry h
  obtain ⟨p,xs,r,ys,rfl,hq,rfl,hp,fs,q⟩:=h
  cases rx
  cases ry
  obtain ⟨its,rr,pl,hz⟩:=I.tuple hp
  have hr:(∃ its,s.heap.IsList r its)∨∃ its,s.heap.IsTuple r its:=by
    rcases hq with hq | hq
    · obtain ⟨its2,_,pl2,_⟩:=I.list hq
      exact .inl ⟨_,pl2.isList⟩
    · obtain ⟨its2,_,pl2,_⟩:=I.tuple hq
      exact .inr ⟨_,pl2⟩
  refine SeqAt.in_tupleAt (fun _=>false) pl (fun w hw=>strs_eqAt hr hu rr fs w (by simpa using hw)) ⟨.bl _,H,I,rfl,?_⟩
  rw [show (its.toArray.any fun _=>false)=false by simp]
  exact q
end
end L2
namespace L3
open PySem PySem.Spec PyProof.Rows L2
noncomputable def strsAll (ys:List D):Bool:=ys.all fun y=>match y with
  | .str _=>true
  | _=>false
noncomputable def inRefD:D→Option D
  | .tup ys=>if strsAll ys=true then some (.bl false) else none
  | _=>none
noncomputable def fInX (x y:D):Option D:=match x with
  | .lst _=>inRefD y
  | .tup _=>inRefD y
  | x=>fIn x y
section
variable {X:Cx} {K:PySem.W.Frag}
theorem reps_strs {H:Hp}:∀ {ys:List D} {vs:List V},Reps K H ys vs→strsAll ys=true→vs.all isStrV=true
  | [],_,r,_=>by cases (show _=[] from r); rfl
  | y::ys,_,r,h=>by
    obtain ⟨v,r',rfl,hv,hr⟩:=r
    unfold strsAll at h
    rw [List.all_cons,Bool.and_eq_true] at h
    rw [List.all_cons,reps_strs hr h.2,Bool.and_true]
    cases y with
    | str z=>rw [(show v=.str z∧_ from hv).1]; rfl
    | _=>exact absurd h.1 Bool.false_ne_true
theorem op_inX (hu:X.A.units+1<cLine):OpR X (compareOp .In) (fun x y H Q=>rInA X.K false x y H Q∨rInRef X.K x y H Q):=(op_inS hu).or (op_in_ref hu)
theorem ok_inX:Ok2B K (fun x y H Q=>rInA K false x y H Q∨rInRef K x y H Q) fInX:=fun H x y u v d Q rx ry hf=>by
  have ref:∀ (r:Addr) (ys:List V),u=.ref r→(SqL K H r ys∨SqT K H r ys)→inRefD y=some d→∃ k,d=.bl k∧(Q (.bl k) H→(rInA K false u v H Q∨rInRef K u v H Q)):=fun r ys hu hq hf=>by
    cases y with
    | tup zs=>
      have hf:(if strsAll zs=true then some (D.bl false) else none)=some d:=hf
      by_cases c:strsAll zs=true
      · rw [if_pos c] at hf
        cases hf
        obtain ⟨b,vs,rfl,sb,rb,_⟩:=ry
        exact ⟨false,rfl,fun q=>.inr ⟨b,vs,r,ys,hu,hq,rfl,sb,reps_strs rb c,q⟩⟩
      · rw [if_neg c] at hf
        cases hf
    | _=>cases hf
  have old:fIn x y=some d→∃ k,d=.bl k∧(Q (.bl k) H→(rInA K false u v H Q∨rInRef K u v H Q)):=fun hf=>by
    obtain ⟨k,e,z⟩:=ok_in H x y u v d Q rx ry hf
    exact ⟨k,e,fun q=>.inl (z q)⟩
  cases x with
  | lst xs=>
    obtain ⟨a,vs,ea,sa,_,_⟩:=rx
    exact ref a vs ea (.inl sa) hf
  | tup xs=>
    obtain ⟨a,vs,ea,sa,_,_⟩:=rx
    exact ref a vs ea (.inr sa) hf
  | _=>exact old hf
end
noncomputable def boolsOf:List D→Option (List Bool)
  | []=>some []
  | .bl b::r=>(boolsOf r).bind fun bs=>some (b::bs)
  | _=>none
theorem bools_of:∀ bs:List Bool,boolsOf (bs.map D.bl)=some bs
  | []=>rfl
  | b::bs=>by
    show (boolsOf (bs.map D.bl)).bind _=_
    rw [bools_of bs]
    rfl
theorem boolsOf_ok:∀ {ds:List D} {bs:List Bool},boolsOf ds=some bs→ds=bs.map D.bl
  | [],_,h=>by cases h; rfl
  | d::ds,bs,h=>by
    unfold boolsOf at h
    split at h
    · rename_i e; cases e
    · rename_i b r e
      cases e
      obtain ⟨bs',h1,h⟩:=bindE h
      cases h
      rw [boolsOf_ok h1]
      rfl
    · cases h
theorem reps_bools {K:PySem.W.Frag} {G:Hp}:∀ {bs:List Bool} {vs:List V},Reps K G (bs.map D.bl) vs→vs=bs.map V.bl
  | [],_,r=>r
  | b::bs,_,r=>by
    obtain ⟨v,r',rfl,hv,hr⟩:=r
    rw [reps_bools hr,show v=V.bl b from hv]
    rfl
noncomputable def fAll:List D→Option D
  | [.lst xs]=>(boolsOf xs).bind fun bs=>some (.bl (bs.all id))
  | _=>none
theorem ok_all {K:PySem.W.Frag}:OkCB K (rAll K) fAll:=fun G H ds vs d Q s r hf q=>by
  match ds,hf with
  | [.lst xs],hf=>
    obtain ⟨bs,hb,hf⟩:=bindE (show (boolsOf xs).bind _=some d from hf)
    cases hf
    obtain ⟨v,rfl,a,us,rfl,sq,rs,l⟩:=reps_one r
    rw [boolsOf_ok hb] at rs
    rw [reps_bools rs] at sq
    exact ⟨a,bs,rfl,sq,q _ _ _ (Ext.refl s) rfl⟩
end L3
namespace L2
open PySem PySem.Spec PyProof PyProof.Rows
section
variable {prog:Program} {w:World}
end
end L2
namespace L2
open PySem PySem.Spec PyProof PyProof.Rows
section
variable {X:Cx}
end
end L2
namespace L2
open PySem PySem.Spec PyProof PyProof.Rows
end L2
namespace L3
open PySem PySem.Spec PyProof.Rows L2
section
variable {X:Cx} {K:PySem.W.Frag}
end
end L3
namespace L2
open PySem PySem.Spec PyProof PyProof.Rows
end L2
namespace L2
open PySem PySem.Spec PyProof PyProof.Rows
section
variable {prog:Program} {w:World} {K:Type} [DecidableEq K] {knd:KeyKind prog w K} {A:Around} {E:Value→Shared→Prop}
end
end L2
namespace L2
open PySem PySem.Spec PyProof PyProof.Rows
section
variable {prog:Program} {w:World}
end
end L2
namespace L2
open PySem PySem.Spec PyProof PyProof.Rows
section
variable {M:Model} {A:Around} {E:Value→Shared→Prop}
end
end L2
namespace L2
open PySem PySem.Spec PyProof PyProof.Rows
section
variable {prog:Program} {w:World} {A:Around} {E:Value→Shared→Prop}
end
end L2
namespace L2
open PySem PySem.Spec PyProof PyProof.Rows
section
variable {prog:Program} {w:World} {A:Around} {E:Value→Shared→Prop}
end
end L2
namespace L2
open PySem PySem.Spec PyProof PyProof.Rows
section
variable {prog:Program} {w:World} {A:Around} {E:Value→Shared→Prop}
end
section
variable {X:Cx}
end
end L2
namespace L3
open PySem PySem.Spec PyProof.Rows L2
end L3
namespace L2
open PySem PySem.Spec PyProof PyProof.Rows
section
variable {X:Cx} {tg:Expr}
end
end L2
namespace L3
open PySem PySem.Spec PyProof.Rows L2
end L3
namespace L2
open PySem PySem.Spec PyProof PyProof.Rows
section
variable {X:Cx}
end
end L2
namespace L3
open PySem PySem.Spec PyProof.Rows L2
section
variable {X:Cx} {x y:Str} {xp yp pos apos cpos:Pos} {e:Expr} {f:FE}
end
end L3
namespace L3
open PySem PySem.Spec PyProof.Rows L2
section
variable {K:PySem.W.Frag} {n:Nat} {G0 H0 G H G' H':Hp} {τ:SEnv} {σ:St} {i:Nat} {nds:List (List D)} {p:Addr} {qs:List Addr}
end
section
variable {X:Cx} {i:Nat} {x:Str} {p pos pos' apos cpos xp sp:Pos} {e k v c tg iter:Expr} {f fk fv:FE} {ft:FT} {fs:FA} {st:Stmt} {sts body sa sb:List Stmt} {g g':NFS} {fg:FG}
end
section
variable {X:Cx} {i:Nat} {x:Str} {pos pos' p spos:Pos} {e tg iter:Expr} {st:Stmt} {fi:SEnv→Option Nat} {fs:FA} {rest:List Stmt} {g:NFS} {scope:Scope} {cl:List (Str×Addr)} {own:List Str} {tG:TG} {fg:FG}
end
end L3
namespace L3
open PySem PySem.Spec PyProof.Rows L2
section
variable {P:Program} {w:World} {K:PySem.W.Frag} {mg:Str→Option Value} {base:Heap}
end
section
variable {X:Cx} {e:Expr} {es:List Expr} {f:FE} {fs:FA} {x:Str} {p pos:Pos} {ps:List Str} {j k:Nat} {FF:List D→Option (Bool×D)}
end
end L3
namespace L2
open PySem PySem.Spec PyProof PyProof.Rows
section
variable {prog:Program} {w:World} {A:Around} {E:Value→Shared→Prop}
end
section
variable {X:Cx}
end
end L2
namespace L3
open PySem PySem.Spec PyProof.Rows L2
end L3
namespace L2
open PySem PySem.Spec PyProof PyProof.Rows
section
variable {X:Cx} {x:Str} {e:Expr} {es:List Expr} {t:TA} {p pos:Pos} {i j:Nat}
end
end L2
namespace L3
open PySem PySem.Spec PyProof.Rows L2
section
variable {X:Cx} {x y o gn:Str} {e:Expr} {es:List Expr} {fs:FA} {p p2 pos pos' xp gp op apos cpos:Pos} {i io iy j:Nat} {body rest:List Stmt} {t:TS} {g:FS}
end
section
variable {X:Cx} {x y o gn:Str} {e:Expr} {es:List Expr} {fs:FA} {p p2 pos pos' xp xp2 gp op apos cpos:Pos} {i io iy j:Nat} {rest:List Stmt} {g:FS} {a:Addr} {names:List Str} {Fs:List (List D→Option (Bool×D))} {gs:List FS}
end
end L3
namespace L3
open PySem PySem.Spec PyProof.Rows L2
section
variable {α:Type} {P:List α→Prop}
theorem us0 (h:P []):∀ us:List α,us.length=0→P us
  | [],_=>h
theorem usS {n:Nat} (h:∀ a (r:List α),r.length=n→P (a::r)):∀ us:List α,us.length=n+1→P us
  | a::r,e=>h a r (Nat.succ.inj e)
theorem us1 (h:∀ a,P [a]):∀ us:List α,us.length=1→P us:=usS fun a=>us0 (P:=fun r=>P (a::r)) (h a)
theorem us2 (h:∀ a b,P [a,b]):∀ us:List α,us.length=2→P us:=usS fun a=>us1 (P:=fun r=>P (a::r)) (h a)
theorem us3 (h:∀ a b c,P [a,b,c]):∀ us:List α,us.length=3→P us:=usS fun a=>us2 (P:=fun r=>P (a::r)) (h a)
theorem us4 (h:∀ a b c d,P [a,b,c,d]):∀ us:List α,us.length=4→P us:=usS fun a=>us3 (P:=fun r=>P (a::r)) (h a)
end
noncomputable abbrev fnO (x:Str) (st:Stmt) (oc:Value) (od:Option Addr) (sl:Array (Option Value)) (kV dc pm:Value) (an:Option Addr) (cd ct:Value):Option Obj:=some ⟨oc,od,.func (PySem.W.fnOf x x (defArgs st) (defBody st) (defScope st) .none kV dc pm an cd ct),sl⟩
end L3
namespace L3
open PySem PySem.Spec PyProof.Rows L2
section
variable {P:Program} {w:World} {K:PySem.W.Frag} {mg:Str→Option Value} {base:Heap}
end
section
variable {X:Cx} {tg iter elt:Expr} {scope:Scope} {cl:List (Str×Addr)} {own:List Str} {pos p1:Pos} {fs:FA} {fg:FG} {f:FE} {tG:TG} {st:Stmt} {sts:List Stmt} {g:FS} {b:FSN}
end
end L3
namespace L3
open PySem PySem.Spec PyProof PyProof.Rows L2
section
variable {X:Cx} {i m:Nat} {x:Str} {es:List Expr} {p pos pos' spos:Pos}
end
section
variable {X:Cx} {K:PySem.W.Frag}
end
end L3
namespace L3
open PySem PySem.Spec PyProof PyProof.Rows L2
noncomputable def eIsi2 (T U:TyT) (f:FE):FE:=fun σ=>(f σ).bind fun d=>(isTy T d).bind fun a=>(isTy U d).bind fun b=>some (.bl (a||b))
noncomputable def rIsi2 (K:PySem.W.Frag) (T U:TyT):List V→Hp→VK→Prop:=fun xs H Q=>∃ x d a b tp,xs=[x,.ref tp]∧Rep K H d x∧SqT K H tp [.ty T.nm,.ty U.nm]∧isTy T d=some a∧isTy U d=some b∧Q (.bl (a||b)) H
theorem kit_any2 {K:PySem.W.Frag} {t c1 c2:Value} {a b:Bool} (h1:PySem.W.kitOne K t c1=some a) (h2:PySem.W.kitOne K t c2=some b):PySem.W.kitAny K t [c1,c2]=some (a||b):=by
  unfold PySem.W.kitAny
  rw [h1]
  cases a with
  | true=>rfl
  | false=>
    show PySem.W.kitAny K t [c2]=_
    unfold PySem.W.kitAny
    rw [h2]
    cases b<;>rfl
theorem call_isi2 {X:Cx} (T U:TyT):CallR X (.builtin "isinstance") (rIsi2 X.K T U):=by
  intro pins s σ H xs us Q I r h
  obtain ⟨x,d,a,b,tp,rfl,rd,sq,ea,eb,q⟩:=h
  obtain ⟨u,c,rfl,rx,rc⟩:=vals2 r
  cases (show c=Value.ref tp from rc)
  obtain ⟨its,rv,pt,_⟩:=I.tuple sq
  obtain ⟨u1,u2,rfl,r1,r2⟩:=vals2 rv
  cases (show u1=Value.type T.nm from r1)
  cases (show u2=Value.type U.nm from r2)
  obtain ⟨⟨c,dd,dt,sl⟩,h1,h2,n,h3⟩:=pt
  cases (show c=.type "tuple" from h2)
  cases (show dt=_ from h3)
  have fin:∀ tk,EP X pins σ Q (.bool (a||b)) { s with toks:=tk }:=fun tk=>⟨.bl (a||b),H,I.tok tk,rfl,q⟩
  cases d with
  | non=>
    cases (show x=_ from rd)
    cases (show u=Value.none from rx)
    exact PySem.W.kia_tup PySem.W.kitx_none I.kIn trivial h1 (kit_any2 (kit_of (d:=.non) ea) (kit_of (d:=.non) eb)) (fun z=>nomatch z) fin
  | bl y=>
    cases (show x=_ from rd)
    cases (show u=Value.bool y from rx)
    exact PySem.W.kia_tup PySem.W.kitx_bool I.kIn trivial h1 (kit_any2 (kit_of (d:=.bl y) ea) (kit_of (d:=.bl y) eb)) (fun z=>nomatch z) fin
  | int y=>
    cases (show x=_ from rd)
    obtain ⟨t,rfl⟩:=(show ∃ t,u=Value.int y t from rx)
    exact PySem.W.kia_tup PySem.W.kitx_int I.kIn trivial h1 (kit_any2 (kit_of (d:=.int y) ea) (kit_of (d:=.int y) eb)) (fun z=>nomatch z) fin
  | str y=>
    cases (show x=_∧_ from rd).1
    obtain ⟨t,rfl⟩:=(show ∃ t,u=Value.str y t from rx)
    exact PySem.W.kia_tup PySem.W.kitx_str I.kIn trivial h1 (kit_any2 (kit_of (d:=.str y) ea) (kit_of (d:=.str y) eb)) (fun z=>nomatch z) fin
  | tup ds=>
    obtain ⟨aa,vs,rfl,sq',_⟩:=rd
    cases (show u=Value.ref aa from rx)
    obtain ⟨its,_,⟨o,g1,g2,_⟩,_⟩:=I.tuple sq'
    exact PySem.W.kia_tup PySem.W.kitx_tuple I.kIn ⟨o,g1,g2⟩ h1 (kit_any2 (kit_of (d:=.tup ds) ea) (kit_of (d:=.tup ds) eb)) (fun z=>nomatch z) fin
  | lst ds=>
    obtain ⟨aa,vs,rfl,sq',_⟩:=rd
    cases (show u=Value.ref aa from rx)
    obtain ⟨its,_,⟨o,n,g1,g2,_⟩,_⟩:=I.list sq'
    exact PySem.W.kia_tup PySem.W.kitx_list I.kIn ⟨o,g1,g2⟩ h1 (kit_any2 (kit_of (d:=.lst ds) ea) (kit_of (d:=.lst ds) eb)) (fun z=>nomatch z) fin
  | dic ks ds=>cases T<;>cases ea
  | exc _=>cases T<;>cases ea
  | obj _ _ _=>cases T<;>cases ea
theorem se_isi2 {X:Cx} {a:Expr} {f:FE} {x y:Str} {p p1 p2 p3 pos:Pos} {kk:Nat} (T U:TyT) (hg:Gl X "isinstance") (hgT:Gl X x) (hgU:Gl X y) (hm:X.mg "isinstance" = none) (hmT:X.mg x=none) (hmU:X.mg y=none) (hv:bootBuiltins x=some (.type T.nm)) (hw:bootBuiltins y=some (.type U.nm)) (ha:SB X a f) (hs:noStar a=true:=by rfl)
    (hn:x ≠ "__name__" := by decide) (hd:(x == ("__debug__" : Str))=false:=by decide) (hn':y ≠ "__name__" := by decide) (hd':(y == ("__debug__" : Str))=false:=by decide):SE X (.Call (.Name "isinstance" p) [a,.Tuple [.Name x p1,.Name y p2] kk p3] [] pos) (eIsi2 T U f):=by
  obtain ⟨t,pt,k⟩:=ha.h
  refine ⟨⟨_,(qe_callB (call_isi2 T U) hg hm bt_isinstance (qa_cons ⟨pt⟩ (qa_cons (qe_tup (qa_cons (qe_bty hgT hmT hv hn hd) (qa_cons (qe_bty hgU hmU hw hn' hd') qa_nil rfl) rfl)) qa_nil rfl) hs) (by decide) (by decide) (by rw [List.all_cons,hs]; rfl)).h,fun {G0 H0 G H τ σ d Q} E hf q=>?_⟩⟩
  obtain ⟨z,hz,hf⟩:=bindE hf
  obtain ⟨b1,hb1,hf⟩:=bindE hf
  obtain ⟨b2,hb2,hf⟩:=bindE hf
  cases hf
  refine k E hz fun v G' H' x r=>⟨small (n:=2) (by decide),fun tp htp=>?_⟩
  exact ⟨v,z,b1,b2,tp,rfl,r.mono (same_new htp _),SqT.of upd_same,hb1,hb2,q _ _ _ (x.trans (Ext.layO x.gh htp)) rfl⟩
end L3
namespace L2
open PySem PySem.Spec PyProof PyProof.Rows
end L2
namespace L3
open PySem PySem.Spec PyProof PyProof.Rows L2
end L3
namespace L2
open PySem PySem.Spec PyProof PyProof.Rows
section
variable {X:Cx} {A:Addr} {ks:List Key} {us:List V} {x:Str} {p apos cpos:Pos}
end
end L2
namespace L3
open PySem PySem.Spec PyProof PyProof.Rows L2
end L3
namespace L2
open PySem PySem.Spec PyProof PyProof.Rows
section
variable {X:Cx} {x n:Str} {p pos np hpos tpos:Pos} {e e1 e2:Expr} {es:List Expr} {ta:TA} {te:TE} {tx:TX} {ps:List Str} {j k i:Nat} {sp:Sp} {E:XK} {D:Addr} {suite:List Stmt} {ts:TS} {b₀:Stmt}
end
end L2
namespace L3
open PySem PySem.Spec PyProof PyProof.Rows L2
section
variable {X:Cx} {E:XK} {x:Str} {C:Addr} {st:Stmt} {sts rest:List Stmt} {g:FS} {f:FSX} {ft:FT} {fa:FA} {c e:Expr} {es:List Expr} {np cpos pos ipos:Pos}
end
section
variable {P:Program} {w:World} {K:PySem.W.Frag} {mg:Str→Option Value} {base:Heap}
end
section
variable {X:Cx} {iy i j k kb:Nat} {y n x z f g pn:Str} {C D:Addr} {ps:List Str} {F:FX} {B:Str→Option Bool} {fa:FA} {fc:FE} {c e:Expr} {es:List Expr} {yp fp cp ap np gp mp gc bp rp hpos tpos:Pos}
end
end L3
namespace L2
open PySem PySem.Spec PyProof PyProof.Rows
section
variable {prog:Program} {w:World} {A:Around} {E:Value→Shared→Prop} {s:Shared}
end
end L2
namespace L3
open PySem PySem.Spec PyProof PyProof.Rows L2
end L3
namespace L2
open PySem PySem.Spec PyProof PyProof.Rows
section
variable {X:Cx} {pins:List (Addr×Obj)} {σ:St} {H:Hp} {s:Shared} {a:Addr} {o:Obj} {kvs:List (Key×V)}
end
end L2
namespace L2
open PySem PySem.Spec PyProof PyProof.Rows
end L2
namespace L3
open PySem PySem.Spec PyProof PyProof.Rows L2
section
variable {K:PySem.W.Frag} {a:Addr} {o:Obj} {kvs:List (Key×V)} {G G' H H' G0 H0:Hp}
end
end L3
namespace L2
open PySem PySem.Spec PyProof PyProof.Rows
end L2
namespace L3
open PySem PySem.Spec PyProof PyProof.Rows L2
section
variable {X:Cx} {i:Nat} {tg iter elt:Expr} {ifs:List Expr} {scope:Scope} {cl:List (Str×Addr)} {own:List Str} {pos:Pos} {fs:FA} {fg:FG} {ft:FT} {f:FE} {g:TG}
end
end L3
namespace L2
open PySem PySem.Spec PyProof PyProof.Rows
end L2
namespace L3
open PySem PySem.Spec PyProof PyProof.Rows L2
end L3
namespace L2
open PySem PySem.Spec PyProof PyProof.Rows
section
variable {prog:Program} {w:World} {K:Type} [DecidableEq K] {knd:KeyKind prog w K} {A:Around} {E:Value→Shared→Prop} {s:Shared}
end
end L2
namespace L3
open PySem PySem.Spec PyProof PyProof.Rows L2
end L3
namespace L2
open PySem PySem.Spec PyProof PyProof.Rows
section
variable {prog:Program} {w:World} {A:Around} {R:Result→Shared→Prop} {I:Addr} {fp wr:List Addr} {n:Nat} {P:Nat→Value→Prop} {St:Nat→Heap→Prop} {kw:List (Str×Value)}
end
section
variable {prog:Program} {w:World} {A:Around} {E:Value→Shared→Prop} {s:Shared}
end
section
variable {X:Cx}
end
end L2
namespace L3
open PySem PySem.Spec PyProof PyProof.Rows L2
end L3
namespace L3
open PySem PySem.Spec PyProof PyProof.Rows L2
section
variable {X:Cx} {j k kk i:Nat} {f x n z g:Str} {C D':Addr} {ps:List Str} {F:FX} {FF:List D→Option (Bool×D)} {fa:FA} {fc:FE} {fx:FEX} {gs:FS} {c e b:Expr} {es:List Expr} {b₀:Stmt} {suite sts:List Stmt} {fp cp np p p1 pos rp hpos tpos:Pos}
end
section
variable {P:Program} {w:World} {K:PySem.W.Frag} {mg:Str→Option Value} {base:Heap}
end
end L3
namespace L2
open PySem PySem.Spec PyProof PyProof.Rows
section
variable {X:Cx}
end
end L2
namespace L3
open PySem PySem.Spec PyProof PyProof.Rows L2
end L3
namespace L2
open PySem PySem.Spec PyProof PyProof.Rows
open Builtin Builtin.Str
section
variable {X:Cx}
theorem mt_starts:MtR X "str.startswith" (fun x vs H Q=>∃ z y:Str,x=.str z∧vs=[.str y]∧Q (.bl (Txt.startswith z y)) H):=by
  intro pins s σ H x vs v us Q I rx rv h
  obtain ⟨z,y,rfl,rfl,q⟩:=h
  obtain ⟨t,rfl⟩:=(show ∃ t,v=Value.str z t from rx)
  obtain ⟨u,rfl,t',rfl⟩:=vals1 rv
  exact call_gives F.slot_str_startswith (typeIs_str _ _ _) F.entry_str_startswith (F.args_str_startswith_2 _ _) (gives_str_startswith z y t t') ⟨.bl _,H,I,rfl,q⟩
theorem mt_ends:MtR X "str.endswith" (fun x vs H Q=>∃ z y:Str,x=.str z∧vs=[.str y]∧Q (.bl (Txt.endswith z y)) H):=by
  intro pins s σ H x vs v us Q I rx rv h
  obtain ⟨z,y,rfl,rfl,q⟩:=h
  obtain ⟨t,rfl⟩:=(show ∃ t,v=Value.str z t from rx)
  obtain ⟨u,rfl,t',rfl⟩:=vals1 rv
  exact call_gives F.slot_str_endswith (typeIs_str _ _ _) F.entry_str_endswith (F.args_str_endswith_2 _ _) (gives_str_endswith z y t t') ⟨.bl _,H,I,rfl,q⟩
theorem mt_strip:MtR X "str.strip" (fun x vs H Q=>∃ z y:Str,x=.str z∧vs=[.str y]∧z.length≤sizeLine∧Q (.str (Txt.stripChars z y)) H):=by
  intro pins s σ H x vs v us Q I rx rv h
  obtain ⟨z,y,rfl,rfl,hz,q⟩:=h
  obtain ⟨t,rfl⟩:=(show ∃ t,v=Value.str z t from rx)
  obtain ⟨u,rfl,t',rfl⟩:=vals1 rv
  exact SC.stripChars (hsz:=hz) fun t' k=>⟨.str _,H,I.tok _,⟨_,rfl⟩,q⟩
theorem mt_part:MtR X "str.partition" (fun x vs H Q=>∃ z y:Str,x=.str z∧vs=[.str y]∧(y.length == 0)=false∧z.length≤sizeLine∧∀ p,H p=none→Q (.ref p) (upd H p (.tup [.str (Txt.partition z y).1,.str (Txt.partition z y).2.1,.str (Txt.partition z y).2.2]))):=by
  intro pins s σ H x vs v us Q I rx rv h
  obtain ⟨z,y,rfl,rfl,hy,hz,q⟩:=h
  obtain ⟨t,rfl⟩:=(show ∃ t,v=Value.str z t from rx)
  obtain ⟨u,rfl,t',rfl⟩:=vals1 rv
  refine call_meets F.slot_str_partition (typeIs_str _ _ _) F.entry_str_partition (F.args_str_partition_2 _ _) (meets_str_partition z y t t' hy hz) ?_
  have lay:∀ (ta tb tc:Tok) (k:Nat),EP X pins σ Q (.ref s.heap.objs.size) { s with toks:=k,heap:=s.heap.push { cls:=.type "tuple",data:=.seq [.str (Txt.partition z y).1 ta,.str (Txt.partition z y).2.1 tb,.str (Txt.partition z y).2.2 tc].toArray } }:=fun ta tb tc k=>by
    have hv:Vals [V.str (Txt.partition z y).1,.str (Txt.partition z y).2.1,.str (Txt.partition z y).2.2] [.str (Txt.partition z y).1 ta,.str (Txt.partition z y).2.1 tb,.str (Txt.partition z y).2.2 tc]:=.cons ⟨_,rfl⟩ (.cons ⟨_,rfl⟩ (.cons ⟨_,rfl⟩ .nil))
    exact ⟨.ref s.heap.objs.size,_,I.laid (o:=.tup _) (t':=k) (fun b u e=>Heap.get?_push_of_some _ e) (Nat.le_refl _) ⟨(by show 3≤sizeLine; decide),_,hv,⟨_,Heap.get?_push_size _ rfl,rfl,_,rfl⟩⟩,rfl,q _ I.fresh⟩
  unfold Txt.partition at lay
  revert lay
  cases occurrences z y 0 z.length 1 with
  | nil=>intro lay; exact lay _ _ _ _
  | cons i r=>intro lay; exact lay _ _ _ _
theorem strs_vals2:∀ l:List (Str×Tok),Vals ((l.map (·.1)).map V.str) (strValues l)
  | []=>.nil
  | p::r=>.cons ⟨p.2,rfl⟩ (strs_vals2 r)
theorem split_lenS (x y:Str) (h:x.length+2≤sizeLine):(Txt.split x y).length≤sizeLine:=by
  have one:[x].length≤sizeLine:=by show 1≤sizeLine; decide
  unfold Txt.split
  split
  · exact one
  · split
    · exact one
    · have e1:=StrLaws.occ_length_le x y 0 x.length (x.length+1)
      rw [length_partsBetween]
      omega
theorem mt_split:MtR X "str.split" (fun x vs H Q=>∃ z y:Str,x=.str z∧vs=[.str y]∧(y.length == 0)=false∧z.length+2≤sizeLine∧∀ p,H p=none→Q (.ref p) (upd H p (.lst ((Txt.split z y).map V.str)))):=by
  intro pins s σ H xv vs v us Q I rx rv h
  obtain ⟨x,y,rfl,rfl,hy,hz,q⟩:=h
  obtain ⟨t,rfl⟩:=(show ∃ t,v=Value.str x t from rx)
  obtain ⟨u',rfl,u,rfl⟩:=vals1 rv
  have lay:∀ (l:List (Str×Tok)) (k:Nat),l.map (·.1)=Txt.split x y→EP X pins σ Q (.ref s.heap.objs.size) { s with toks:=k,heap:=s.heap.push { cls:=.type "list",data:=.seq (strValues l).toArray } }:=fun l k e=>by
    refine ⟨.ref s.heap.objs.size,_,I.laid (o:=.lst ((Txt.split x y).map V.str)) (t':=k) (fun b u e=>Heap.get?_push_of_some _ e) (Nat.le_refl _) ⟨?_,strValues l,0,?_,Heap.get?_push_size _ rfl⟩,rfl,q _ I.fresh⟩
    · rw [List.length_map]
      exact split_lenS x y hz
    · rw [← e]
      exact strs_vals2 l
  have hn:(partsBetween x (occurrences x y 0 x.length (x.length+1)) y.length).length≤sizeLine:=by
    have e1:=StrLaws.occ_length_le x y 0 x.length (x.length+1)
    rw [length_partsBetween]; omega
  cases h1:(decide (x.length<y.length)||decide (strKind x<strKind y))
  · cases hf:(occurrences x y 0 x.length (x.length+1)).isEmpty
    · refine call_meets F.slot_str_split (typeIs_str _ _ _) F.entry_str_split (F.args_str_split_2 _ _) (meets_str_split_sep x y t u h1 hy hf (by omega) hn) ?_
      show wants (EP X pins σ Q) X.xe _ { s with toks:=_,heap:=s.heap.push { cls:=.type "list",data:=.seq (strsFrom s.toks (partsBetween x (occurrences x y 0 x.length (x.length+1)) y.length)).toArray } }
      rw [strsFrom_eq]
      exact lay (numbered s.toks _) _ ((numbered_texts _ _).trans ((if_neg (ne_true_of_eq_false h1)).trans (if_neg (ne_true_of_eq_false hf))).symm)
    · exact call_meets F.slot_str_split (typeIs_str _ _ _) F.entry_str_split (F.args_str_split_2 _ _) (meets_str_split_not_found x y t u h1 hy hf)
        (lay [(x,t)] s.toks ((if_neg (ne_true_of_eq_false h1)).trans (if_pos hf)).symm)
  · exact call_meets F.slot_str_split (typeIs_str _ _ _) F.entry_str_split (F.args_str_split_2 _ _) (meets_str_split_cannot_occur x y t u h1)
      (lay [(x,t)] s.toks (if_pos h1).symm)
noncomputable def PEt (X:Cx) (e:Expr) (t:TE):Prop:=∀ (pins:List (Addr×Obj)) (s:Shared) (σ:St) (H:Hp) (Q:VK),Inv X pins σ H s→t σ H Q→wpAny (model X.prog X.w) X.A (eval e X.env) (fun v s'=>EP X pins σ Q v s'∧0<s'.toks) X.xe s
variable {a o:Expr} {ta to:TE} {i:Int} {ck ck1 ck2:Nat} {cp pos apos cpos p1 p2:Pos} {y z:Str}
theorem pet_ix (ha:PE X a ta) (hs:PlainIx (.Constant (.int i) ck cp)):PEt X (.Subscript a (.Constant (.int i) ck cp) pos) (tOp (rIxT X.K) ta (tC (.int i))):=by
  intro pins s σ H Q I h
  refine Subscript_ (thn (ha pins s σ H _ I h) fun v s1 ⟨x,H1,I1,r1,q1⟩=>wpAny_Constant_int ?_)
  obtain ⟨p,xs,j',zz,rfl,e,hq,he,q⟩:=(show rIxT X.K x (.int i) H1 Q from q1)
  cases e
  cases r1
  have I2:Inv X pins σ H1 { s1 with toks:=s1.toks+1 }:=I1.tok _
  obtain ⟨its,r,pl,hz⟩:=I2.tuple hq
  obtain ⟨j,h1,h2,h3,h4,h5⟩:=atI_get he
  obtain ⟨w,ew,rw'⟩:=r.get h2
  have hl:=r.length
  have hn:=line63
  have fin:EP X pins σ Q w { s1 with toks:=s1.toks+1 }∧0<s1.toks+1:=⟨⟨zz,H1,I2,rw',q⟩,Nat.succ_pos _⟩
  exact subscriptTail_builtinR (x:=w) pl.typeIs slot_tuple_getitem.lookup
    (getItem_tuple (j:=j) (Q:=fun r s'=>r=w∧(EP X pins σ Q r s'∧0<s'.toks)) pl (by omega) (by omega) (by rw [List.size_toArray,← hl]; exact h1) (by simpa using ew) ⟨rfl,fin⟩) (hs _ _)
noncomputable def tRepl (y z:Str) (to:TE):TE:=fun σ H Q=>to σ H fun x H1=>∃ w:Str,x=.str w∧w.length+(w.length+1)*z.length≤16777216∧Q (.str (Txt.replace w y z)) H1
theorem pe_repl (ho:PEt X o to) (hyz:(y == z)=false) (hbase:attributeBase o "replace" X.env (eval o X.env)=eval o X.env:=by rfl) (hline:(apos.endLine == cpos.line)=true:=by rfl) :
    PE X (.Call (.Attribute o "replace" apos) [.Constant (.str y) ck1 p1,.Constant (.str z) ck2 p2] [] cpos) (tRepl y z to):=by
  intro pins s σ H Q I h
  refine wpAny_Call_method_late hbase rfl hline rfl (thn (ho pins s σ H _ I h) fun v s1 ⟨⟨x,H1,I1,r1,w,hx,hb,q1⟩,tk⟩=>?_)
  subst hx
  obtain ⟨h1,h2⟩:=tyV_is (T := "str") I1 r1 rfl
  refine ⟨"str", "str.replace",PySem.F.plainAttrs_str,PySem.F.slot_str_replace,PySem.F.type_str_replace,h1,h2,?_⟩
  obtain ⟨t,rfl⟩:=(show ∃ t,v=Value.str w t from r1)
  refine Calls.callWith_builtin rfl (Calls.evalArgs_plain ?_)
  refine Calls.spliced_cons (Calls.Constant_str (k:=ck1) (pos:=p1) ?_)
  refine Calls.spliced_cons (Calls.Constant_str (k:=ck2) (pos:=p2) ?_)
  refine Calls.spliced_nil ?_
  exact SC.replace (by show s1.toks≠0; omega) (by show s1.toks+1≠0; omega) (by show s1.toks≠s1.toks+1; omega) hyz hb fun t' k=>⟨.str _,H1,I1.tok _,⟨_,rfl⟩,q1⟩
end
end L2
namespace L3
open PySem PySem.Spec PyProof PyProof.Rows L2
noncomputable def fStarts:D→D→Option D
  | .str z,.str y=>some (.bl (Txt.startswith z y))
  | _,_=>none
noncomputable def fEnds:D→D→Option D
  | .str z,.str y=>some (.bl (Txt.endswith z y))
  | _,_=>none
noncomputable def fStrip:D→D→Option D
  | .str z,.str y=>if (Txt.stripChars z y).length≤16777216 then some (.str (Txt.stripChars z y)) else none
  | _,_=>none
noncomputable def fPart:D→D→Option D
  | .str z,.str y=>if (y.length == 0)=false∧(Txt.partition z y).1.length≤16777216∧(Txt.partition z y).2.1.length≤16777216∧(Txt.partition z y).2.2.length≤16777216 then some (.tup [.str (Txt.partition z y).1,.str (Txt.partition z y).2.1,.str (Txt.partition z y).2.2]) else none
  | _,_=>none
noncomputable def fSplit:D→D→Option D
  | .str z,.str y=>if (y.length == 0)=false∧z.length+2≤16777216 then some (.lst ((Txt.split z y).map D.str)) else none
  | _,_=>none
noncomputable def fTupIx (i:Int):D→Option D
  | .tup xs=>atD xs i
  | _=>none
noncomputable def fRepl (y z:Str):D→Option D
  | .str w=>if w.length+(w.length+1)*z.length≤16777216∧(Txt.replace w y z).length≤16777216 then some (.str (Txt.replace w y z)) else none
  | _=>none
section
variable {X:Cx} {o e a:Expr} {fo f fa:FE} {apos cpos p1 p2 cp pos:Pos} {nm:Str} {id:String} {rm:V→List V→Hp→VK→Prop} {F:D→D→Option D} {ck ck1 ck2:Nat} {i:Int} {y z:Str}
theorem se_strm (slot:Slot "str" nm id) (hty:typeOf (.builtin id)=pure (.type "method_descriptor")) (hm:MtR X id rm)
    (hF:∀ {x y d:D},F x y=some d→∃ w,x=.str w) (hR:∀ {w:Str} {y d:D} {v:V} {G H:Hp} {Q:VK},Same G H→w.length≤sizeLine→F (.str w) y=some d→Rep X.K G y v→(∀ u G' H',Ext G H G' H'→Rep X.K G' d u→Q u H')→rm (.str w) [v] H Q)
    (ho:SE X o fo) (he:SE X e f) (hbase:attributeBase o nm X.env (eval o X.env)=eval o X.env:=by rfl) (hline:(apos.endLine == cpos.line)=true:=by rfl) (hs:noStar e=true:=by rfl) :
    SE X (.Call (.Attribute o nm apos) [e] [] cpos) (e2 F fo f):=by
  obtain ⟨to,po,ko⟩:=ho.h
  obtain ⟨te,pe,ke⟩:=(sa_cons he sa_nil hs).h
  refine ⟨⟨_,(qe_bm PySem.F.plainAttrs_str slot hty hm ⟨po⟩ ⟨pe⟩ hbase hline (by rw [List.all_cons,hs]; rfl) (by show 1<30; decide)).h,fun {G0 H0 G H τ σ d Q} E hf q=>?_⟩⟩
  obtain ⟨x,hx,hf⟩:=bindE hf
  obtain ⟨y,hy,hf⟩:=bindE hf
  obtain ⟨w,rfl⟩:=hF hf
  refine ko E hx fun v G1 H1 x1 r1=>?_
  obtain ⟨rfl,l1⟩:=r1
  refine ⟨rfl,ke (E.go x1) (ds:=[y]) (by unfold aCons; rw [hy]; rfl) fun ws G2 H2 x2 r2=>?_⟩
  obtain ⟨u,rfl,ru⟩:=reps_one r2
  exact hR x2.gh l1 hf ru fun u G' H' x3 r3=>q u G' H' ((x1.trans x2).trans x3) r3
theorem se_starts (ho:SE X o fo) (he:SE X e f) (hbase:attributeBase o "startswith" X.env (eval o X.env)=eval o X.env:=by rfl) (hline:(apos.endLine == cpos.line)=true:=by rfl) (hs:noStar e=true:=by rfl) :
    SE X (.Call (.Attribute o "startswith" apos) [e] [] cpos) (e2 fStarts fo f):=
  se_strm PySem.F.slot_str_startswith PySem.F.type_str_startswith mt_starts (fun {x y d} h=>by
    cases x with
    | str w=>exact ⟨w,rfl⟩
    | _=>cases h) (fun {w y d v G H Q} g l h r q=>by
    cases y with
    | str y=>
      cases h
      obtain ⟨rfl,_⟩:=r
      exact ⟨w,y,rfl,rfl,q _ G H (Ext.refl g) rfl⟩
    | _=>cases h) ho he hbase hline hs
theorem se_ends (ho:SE X o fo) (he:SE X e f) (hbase:attributeBase o "endswith" X.env (eval o X.env)=eval o X.env:=by rfl) (hline:(apos.endLine == cpos.line)=true:=by rfl) (hs:noStar e=true:=by rfl) :
    SE X (.Call (.Attribute o "endswith" apos) [e] [] cpos) (e2 fEnds fo f):=
  se_strm PySem.F.slot_str_endswith PySem.F.type_str_endswith mt_ends (fun {x y d} h=>by
    cases x with
    | str w=>exact ⟨w,rfl⟩
    | _=>cases h) (fun {w y d v G H Q} g l h r q=>by
    cases y with
    | str y=>
      cases h
      obtain ⟨rfl,_⟩:=r
      exact ⟨w,y,rfl,rfl,q _ G H (Ext.refl g) rfl⟩
    | _=>cases h) ho he hbase hline hs
theorem se_strip (ho:SE X o fo) (he:SE X e f) (hbase:attributeBase o "strip" X.env (eval o X.env)=eval o X.env:=by rfl) (hline:(apos.endLine == cpos.line)=true:=by rfl) (hs:noStar e=true:=by rfl) :
    SE X (.Call (.Attribute o "strip" apos) [e] [] cpos) (e2 fStrip fo f):=
  se_strm PySem.F.slot_str_strip PySem.F.type_str_strip mt_strip (fun {x y d} h=>by
    cases x with
    | str w=>exact ⟨w,rfl⟩
    | _=>cases h) (fun {w y d v G H Q} g l h r q=>by
    cases y with
    | str y=>
      change (if (Txt.stripChars w y).length≤16777216 then some (D.str (Txt.stripChars w y)) else none)=some d at h
      by_cases c:(Txt.stripChars w y).length≤16777216
      · rw [if_pos c] at h
        cases h
        obtain ⟨rfl,_⟩:=r
        exact ⟨w,y,rfl,rfl,l,q _ G H (Ext.refl g) ⟨rfl,by rw [sizeLine_eq]; exact c⟩⟩
      · rw [if_neg c] at h
        cases h
    | _=>cases h) ho he hbase hline hs
theorem se_part (ho:SE X o fo) (he:SE X e f) (hbase:attributeBase o "partition" X.env (eval o X.env)=eval o X.env:=by rfl) (hline:(apos.endLine == cpos.line)=true:=by rfl) (hs:noStar e=true:=by rfl) :
    SE X (.Call (.Attribute o "partition" apos) [e] [] cpos) (e2 fPart fo f):=
  se_strm PySem.F.slot_str_partition PySem.F.type_str_partition mt_part (fun {x y d} h=>by
    cases x with
    | str w=>exact ⟨w,rfl⟩
    | _=>cases h) (fun {w y d v G H Q} g l h r q=>by
    cases y with
    | str y=>
      change (if (y.length == 0)=false∧(Txt.partition w y).1.length≤16777216∧(Txt.partition w y).2.1.length≤16777216∧(Txt.partition w y).2.2.length≤16777216 then some (D.tup [.str (Txt.partition w y).1,.str (Txt.partition w y).2.1,.str (Txt.partition w y).2.2]) else none)=some d at h
      by_cases c:(y.length == 0)=false∧(Txt.partition w y).1.length≤16777216∧(Txt.partition w y).2.1.length≤16777216∧(Txt.partition w y).2.2.length≤16777216
      · rw [if_pos c] at h
        cases h
        obtain ⟨rfl,_⟩:=r
        obtain ⟨c0,c1,c2,c3⟩:=c
        rw [← sizeLine_eq] at c1 c2 c3
        exact ⟨w,y,rfl,rfl,c0,l,fun p hp=>q _ _ _ (Ext.lay g hp) ⟨p,_,rfl,SqT.of upd_same,⟨_,_,rfl,⟨rfl,c1⟩,_,_,rfl,⟨rfl,c2⟩,_,_,rfl,⟨rfl,c3⟩,rfl⟩,(by show 3≤sizeLine; decide)⟩⟩
      · rw [if_neg c] at h
        cases h
    | _=>cases h) ho he hbase hline hs
theorem repsStrs {K:PySem.W.Frag} {G:Hp}:∀ {l:List Str},(∀ a∈l,a.length≤sizeLine)→Reps K G (l.map D.str) (l.map V.str)
  | [],_=>rfl
  | a::l,h=>⟨_,_,rfl,⟨rfl,h a (List.mem_cons_self ..)⟩,repsStrs fun b hb=>h b (List.mem_cons_of_mem _ hb)⟩
theorem sf_split (ho:SE X o fo) (he:SE X e f) (hbase:attributeBase o "split" X.env (eval o X.env)=eval o X.env:=by rfl) (hline:(apos.endLine == cpos.line)=true:=by rfl) (hs:noStar e=true:=by rfl) :
    SF X (.Call (.Attribute o "split" apos) [e] [] cpos) (e2 fSplit fo f):=by
  obtain ⟨to,po,ko⟩:=ho.h
  obtain ⟨te,pe,ke⟩:=(sa_cons he sa_nil hs).h
  refine ⟨⟨_,(qe_bm PySem.F.plainAttrs_str PySem.F.slot_str_split PySem.F.type_str_split mt_split ⟨po⟩ ⟨pe⟩ hbase hline (by rw [List.all_cons,hs]; rfl) (by show 1<30; decide)).h,fun {G0 H0 G H τ σ d Q} E hf q=>?_⟩⟩
  obtain ⟨x,hx,hf⟩:=bindE hf
  obtain ⟨y,hy,hf⟩:=bindE hf
  refine ko E hx fun v G1 H1 x1 r1=>?_
  cases x with
  | str w=>
    obtain ⟨rfl,l1⟩:=r1
    refine ⟨rfl,ke (E.go x1) (ds:=[y]) (by unfold aCons; rw [hy]; rfl) fun ws G2 H2 x2 r2=>?_⟩
    obtain ⟨u,rfl,ru⟩:=reps_one r2
    cases y with
    | str y=>
      change (if (y.length == 0)=false∧w.length+2≤16777216 then some (D.lst ((Txt.split w y).map D.str)) else none)=some d at hf
      by_cases c:(y.length == 0)=false∧w.length+2≤16777216
      · rw [if_pos c] at hf
        cases hf
        obtain ⟨rfl,_⟩:=ru
        have c2:w.length+2≤sizeLine:=by rw [sizeLine_eq]; exact c.2
        have x12:=x1.trans x2
        refine ⟨w,y,rfl,rfl,c.1,c2,fun p hp=>q p _ _ (x12.trans (Ext.layO x12.gh hp)) (x12.h.free hp) (x12.gh.free hp) ⟨_,upd_same,repsStrs fun a ha=>Nat.le_trans (part_short ha) l1,?_⟩⟩
        rw [List.length_map]
        exact split_lenS w y c2
      · rw [if_neg c] at hf
        cases hf
    | _=>cases hf
  | _=>cases hf
theorem se_repl {y z:Str} (ha:SE X a fa) (hs:PlainIx (.Constant (.int i) ck cp)) (hyz:(y == z)=false) (hbase:attributeBase (.Subscript a (.Constant (.int i) ck cp) pos) "replace" X.env (eval (.Subscript a (.Constant (.int i) ck cp) pos) X.env)=eval (.Subscript a (.Constant (.int i) ck cp) pos) X.env:=by rfl) (hline:(apos.endLine == cpos.line)=true:=by rfl) :
    SE X (.Call (.Attribute (.Subscript a (.Constant (.int i) ck cp) pos) "replace" apos) [.Constant (.str y) ck1 p1,.Constant (.str z) ck2 p2] [] cpos) (e1 (fRepl y z) (e1 (fTupIx i) fa)):=by
  obtain ⟨ta,pa,ka⟩:=ha.h
  refine ⟨⟨_,pe_repl (pet_ix pa hs) hyz hbase hline,fun {G0 H0 G H τ σ d Q} E hf q=>?_⟩⟩
  obtain ⟨w,hw,hf⟩:=bindE hf
  obtain ⟨x,hx,hw⟩:=bindE hw
  refine ka E hx fun v G1 H1 x1 r1=>?_
  cases x with
  | tup xs=>
    have hw:atD xs i=some w:=hw
    obtain ⟨p,vs,rfl,sq,rs,l⟩:=r1
    obtain ⟨u,hu,ru⟩:=reps_atI rs hw
    refine ⟨p,vs,i,u,rfl,rfl,sqT_mono x1.gh sq,hu,?_⟩
    cases w with
    | str w=>
      change (if w.length+(w.length+1)*z.length≤16777216∧(Txt.replace w y z).length≤16777216 then some (D.str (Txt.replace w y z)) else none)=some d at hf
      by_cases c:w.length+(w.length+1)*z.length≤16777216∧(Txt.replace w y z).length≤16777216
      · rw [if_pos c] at hf
        cases hf
        obtain ⟨rfl,_⟩:=ru
        exact ⟨w,rfl,c.1,q _ _ _ x1 ⟨rfl,by rw [sizeLine_eq]; exact c.2⟩⟩
      · rw [if_neg c] at hf
        cases hf
    | _=>cases hf
  | _=>cases hw
end
end L3
namespace L2
open PySem PySem.Spec PyProof PyProof.Rows
theorem call_int_t {X:Cx}:CallR X (.type "int") (fun xs H Q=>∃ (z:Str) (n:Int),xs=[.str z]∧z.length≤640∧PySem.intText? z=some n∧Q (.int n) H):=by
  intro pins s σ H xs us Q I r h
  obtain ⟨z,n,rfl,hl,hn,q⟩:=h
  obtain ⟨u,rfl,t,rfl⟩:=vals1 r
  exact PySem.W.KIN.call_text hn hl ⟨.int n,H,I.tok _,⟨_,rfl⟩,q⟩
end L2
namespace L3
open PySem PySem.Spec PyProof PyProof.Rows L2
noncomputable def fIntT:List D→Option D
  | [.str z]=>if z.length≤640 then (PySem.intText? z).bind fun n=>some (.int n) else none
  | _=>none
theorem se_intT {X:Cx} {e:Expr} {fs:FA} {p pos:Pos} (hg:Gl X "int") (hm:X.mg "int" = none) (ha:SA X [e] fs) (hs:noStar e=true:=by rfl):SE X (.Call (.Name "int" p) [e] [] pos) (eL fIntT fs):=by
  obtain ⟨t,pt,k⟩:=ha.h
  refine ⟨⟨_,(qe_callTy (p:=p) (pos:=pos) call_int_t hg hm boot_ty_int ⟨pt⟩ (by decide) (by decide) (by rw [List.all_cons,hs]; rfl)).h,fun {G0 H0 G H τ σ d Q} E hf q=>?_⟩⟩
  obtain ⟨ds,hd,hf⟩:=bindE hf
  refine k E hd fun vs G1 H1 x1 r1=>?_
  match ds,hf with
  | [.str z],hf=>
    change (if z.length≤640 then (PySem.intText? z).bind fun n=>some (D.int n) else none)=some d at hf
    by_cases c:z.length≤640
    · rw [if_pos c] at hf
      obtain ⟨n,hn,hf⟩:=bindE hf
      cases hf
      obtain ⟨v,rfl,rv⟩:=reps_one r1
      obtain ⟨rfl,_⟩:=rv
      exact ⟨z,n,rfl,c,hn,q _ _ _ x1 rfl⟩
    · rw [if_neg c] at hf
      cases hf
end L3
local macro_rules
  | `(tactic| simp! [$ls,*])=>`(tactic| simp only [L3.shx,Nat.reduceAdd,Nat.reduceSub,Int.reduceLT,Int.reduceLE,Int.reducePow,Int.reduceToNat,Int.reduceAdd,Int.reduceSub,Int.reduceMul,Int.reduceNeg,$ls,*])
namespace L3
open PySem
noncomputable def gl_MARKS:List D:=[(.str "carry"),(.str "nought"),(.str "sign")]
noncomputable def gt_MARKS:D:=.tup gl_MARKS
noncomputable def gl_JUMPS:List D:=[(.str "jump"),(.str "when"),(.str "unless")]
noncomputable def gt_JUMPS:D:=.tup gl_JUMPS
noncomputable def gk_FIELDS:List (Sum Int Str):=List.map .inr ["label", "set", "high", "copy", "add", "addc", "sub", "subc", "and", "or", "xor", "test", "left", "right", "load", "store", "loadw", "storew", "jump", "when", "unless", "stop"]
noncomputable def gv_FIELDS:List D:=[(.tup [(.str "name")]),(.tup [(.str "d"),(.str "n")]),(.tup [(.str "d"),(.str "n")]),(.tup [(.str "d"),(.str "s")]),(.tup [(.str "d"),(.str "s")]),(.tup [(.str "d"),(.str "s")]),(.tup [(.str "d"),(.str "s")]),(.tup [(.str "d"),(.str "s")]),(.tup [(.str "d"),(.str "s")]),(.tup [(.str "d"),(.str "s")]),(.tup [(.str "d"),(.str "s")]),(.tup [(.str "d"),(.str "s")]),(.tup [(.str "d"),(.str "n")]),(.tup [(.str "d"),(.str "n")]),(.tup [(.str "d"),(.str "s"),(.str "n")]),(.tup [(.str "d"),(.str "s"),(.str "n")]),(.tup [(.str "d"),(.str "s"),(.str "n")]),(.tup [(.str "d"),(.str "s"),(.str "n")]),(.tup [(.str "name")]),(.tup [(.str "mark"),(.str "name")]),(.tup [(.str "mark"),(.str "name")]),(.tup [])]
noncomputable def gk_NUMBER_WIDTHS:List (Sum Int Str):=List.map .inr ["set", "high", "left", "right", "load", "store", "loadw", "storew"]
noncomputable def gv_NUMBER_WIDTHS:List D:=[(.int 16),(.int 16),(.int 5),(.int 5),(.int 8),(.int 8),(.int 8),(.int 8)]
noncomputable def gk_PLACES:List (Sum Int Str):=List.map .inr ["kind", "d", "s", "mark", "distance"]
noncomputable def gv_PLACES:List D:=[(.tup [(.int 27),(.int 5)]),(.tup [(.int 24),(.int 3)]),(.tup [(.int 21),(.int 3)]),(.tup [(.int 24),(.int 2)]),(.tup [(.int 0),(.int 5)])]
end L3
namespace L3
open PySem
noncomputable def b_law_cell_at:FS:=
  (sSeq (sIf (tE (e2 (fCmp fun i j=>decide (i<j)) (eVar 1) (eL fLen (aCons (eVar 0) aNil))))
      (sRet (e2 fIx (eVar 0) (eVar 1)))
      sNext)
    (sRet (eC (.int 0))))
theorem ints_at (ns:List Int) (k:Nat):(ns.map D.int)[k]?=(ns[k]?).map D.int:=List.getElem?_map
noncomputable def cellAt (ns:List Int) (k:Int):Int:=ns.getD k.toNat 0
noncomputable def F_law_cell_at:List D→Option (Bool×D)
  | [.lst xs,.int k]=>if 0≤k then ((xs[k.toNat]?).getD (.int 0) |> fun d=>some (false,d)) else none
  | _=>none
theorem cell_ints (ns:List Int) {k:Int} (h:0≤k):F_law_cell_at [.lst (ns.map D.int),.int k]=some (false,.int (cellAt ns k)):=by
  show (if 0≤k then _ else _)=_
  rw [if_pos h,ints_at]
  unfold cellAt
  rw [List.getD_eq_getElem?_getD]
  cases ns[k.toNat]?<;>rfl
theorem run_law_cell_at:∀ ds r,F_law_cell_at ds=some r→ds.length=2∧runF 2 b_law_cell_at ds=some r:=fun ds r h=>by
  unfold F_law_cell_at at h
  split at h
  · rename_i xs k
    refine ⟨rfl,?_⟩
    by_cases h0:0≤k
    · rw [if_pos h0] at h
      cases h
      unfold b_law_cell_at
      by_cases c:k<(xs.length:Int)
      · have e:fIx (.lst xs) (.int k)=some ((xs[k.toNat]?).getD (.int 0)):=by
          show atD xs k=_
          unfold atD
          rw [if_pos h0,List.getElem?_eq_getElem (by omega)]
          rfl
        simp! [decide_eq_true c,e]
      · have e:xs[k.toNat]?=none:=List.getElem?_eq_none (by omega)
        simp! [decide_eq_false c,e,Option.getD]
    · rw [if_neg h0] at h
      cases h
  · cases h
end L3
namespace L3
open PySem
noncomputable def lt (k:Int):Str:=⟨#[97+k.toNat]⟩
theorem abc_at {k:Int} (h0:0≤k) (h1:k<26):atD ("abcdefghijklmnopqrstuvwxyz" : Str).cps.toList k=some (97+k.toNat):=by
  have h:∀ j:Fin 26,atD ("abcdefghijklmnopqrstuvwxyz" : Str).cps.toList (j.val:Int)=some (97+j.val):=by decide +kernel
  have:=h ⟨k.toNat,by omega⟩
  rw [show ((⟨k.toNat,by omega⟩:Fin 26).val:Int)=k by show (k.toNat:Int)=k; omega] at this
  exact this
theorem abc_ix {k:Int} (h0:0≤k) (h1:k<26):fIx (.str "abcdefghijklmnopqrstuvwxyz") (.int k)=some (.str (lt k)):=by
  show (atD _ k).bind _=_
  rw [abc_at h0 h1]
  rfl
theorem add_str {a b:Str} (h:a.length+b.length≤100000):fAdd (.str a) (.str b)=some (.str (a++b)):=by
  show (if a.length+b.length≤LIM then _ else _)=_
  rw [if_pos (by show _≤16777216; omega)]
theorem len_app (a b:Str):(a++b).length=a.length+b.length:=Array.size_append
theorem lt_len (k:Int):(lt k).length=1:=rfl
end L3
namespace L3
open PySem
theorem lc_all {g:FG} {c:FT} {e:FE} {σ:SEnv} (p:D→Bool) (v:D→D):∀ {ds:List D},(∀ d∈ds,∃ σ1,g d σ=some σ1∧c σ1=some (p d)∧(p d=true→e σ1=some (v d)))→lcGo g c e σ ds=some ((ds.filter p).map v)
  | [],_=>rfl
  | d::ds,h=>by
    obtain ⟨σ1,e1,e2,e3⟩:=h d (List.mem_cons_self ..)
    have ih:=lc_all p v (ds:=ds) fun x hx=>h x (List.mem_cons_of_mem _ hx)
    show (g d σ).bind _=_
    rw [e1]
    show (c σ1).bind _=_
    rw [e2]
    cases hp:p d with
    | false=>
      rw [List.filter_cons_of_neg (by rw [hp]; decide)]
      exact ih
    | true=>
      rw [List.filter_cons_of_pos hp]
      show (e σ1).bind _=_
      rw [e3 hp]
      show (lcGo g c e σ ds).bind _=_
      rw [ih]
      rfl
theorem lc_map {g:FG} {e:FE} {σ:SEnv} (v:D→D) {ds:List D} (h:∀ d∈ds,∃ σ1,g d σ=some σ1∧e σ1=some (v d)):lcGo g tTrue e σ ds=some (ds.map v):=by
  have:=lc_all (g:=g) (c:=tTrue) (e:=e) (σ:=σ) (fun _=>true) v (ds:=ds) fun d hd=>by
    obtain ⟨σ1,a,b⟩:=h d hd
    exact ⟨σ1,a,rfl,fun _=>b⟩
  rw [this,List.filter_eq_self.mpr (fun _ _=>rfl)]
inductive Each (R:D→D→Prop):List D→List D→Prop
  | nil:Each R [] []
  | cons {x y:D} {xs ys:List D}:R x y→Each R xs ys→Each R (x::xs) (y::ys)
theorem lc_ex {g:FG} {e:FE} {σ:SEnv} (R:D→D→Prop):∀ {ds:List D},(∀ d∈ds,∃ σ1 x,g d σ=some σ1∧e σ1=some x∧R d x)→∃ xs,lcGo g tTrue e σ ds=some xs∧Each R ds xs
  | [],_=>⟨[],rfl,.nil⟩
  | d::ds,h=>by
    obtain ⟨σ1,x,e1,e2,r⟩:=h d (List.mem_cons_self ..)
    obtain ⟨xs,ih,rs⟩:=lc_ex R (ds:=ds) fun x hx=>h x (List.mem_cons_of_mem _ hx)
    refine ⟨x::xs,?_,.cons r rs⟩
    show (g d σ).bind _=_
    rw [e1]
    show (e σ1).bind _=_
    rw [e2]
    show (lcGo g tTrue e σ ds).bind _=_
    rw [ih]
    rfl
theorem upTo_get {n i:Nat} {d:D} (h:(upTo n)[i]?=some d):i<n∧d=.int (i:Int):=by
  have hi:i<n:=by
    have:=(List.getElem?_eq_some_iff.mp h).1
    simpa using this
  refine ⟨hi,?_⟩
  simp [hi] at h
  exact h.symm
theorem upTo_mem {n:Nat} {d:D} (h:d∈upTo n):∃ i:Nat,i<n∧d=.int (i:Int):=by
  obtain ⟨i,hi,e⟩:=List.getElem_of_mem h
  exact ⟨i,(upTo_get (List.getElem?_eq_some_iff.mpr ⟨hi,e⟩))⟩
theorem upTo_len (n:Nat):(upTo n).length=n:=by simp
theorem at_nat {α:Type} {xs:List α} {i:Int} {a:α} (h0:0≤i) (h:xs[i.toNat]?=some a):atD xs i=some a:=by
  unfold atD
  rw [if_pos h0,h]
noncomputable def okD:Nat→D→Bool
  | 0,_=>false
  | n+1,.tup xs=>xs.all (okD n)
  | n+1,.lst xs=>xs.all (okD n)
  | _+1,d=>flatD d
theorem cmpAll_self {f:D→D→Bool}:∀ {xs:List D},(∀ x∈xs,f x x=true)→cmpAll f xs xs=true
  | [],_=>rfl
  | x::xs,h=>by
    show (f x x&&cmpAll f xs xs)=true
    rw [h x (List.mem_cons_self ..),cmpAll_self fun y hy=>h y (List.mem_cons_of_mem _ hy)]
    rfl
theorem dEqs_self:∀ {xs:List D},(∀ x∈xs,dEq x x=true)→dEqs xs xs=true
  | [],_=>by unfold dEqs; rfl
  | x::xs,h=>by
    unfold dEqs
    rw [h x (List.mem_cons_self ..),dEqs_self fun y hy=>h y (List.mem_cons_of_mem _ hy)]
    rfl
theorem ok_self:∀ (n:Nat) (d:D),okD n d=true→cmpOk n d d=true∧dEq d d=true
  | 0,_,h=>by cases h
  | n+1,d,h=>by
    cases d with
    | tup xs=>
      have h':∀ x∈xs,okD n x=true:=List.all_eq_true.mp h
      exact ⟨cmpAll_self fun x hx=>(ok_self n x (h' x hx)).1,by unfold dEq; exact dEqs_self fun x hx=>(ok_self n x (h' x hx)).2⟩
    | lst xs=>
      have h':∀ x∈xs,okD n x=true:=List.all_eq_true.mp h
      exact ⟨cmpAll_self fun x hx=>(ok_self n x (h' x hx)).1,by unfold dEq; exact dEqs_self fun x hx=>(ok_self n x (h' x hx)).2⟩
    | dic ks vs=>cases h
    | exc _=>cases h
    | obj _ _ _=>cases h
    | non=>exact ⟨rfl,by unfold dEq; rfl⟩
    | bl b=>exact ⟨rfl,by unfold dEq; exact beq_self_eq_true b⟩
    | int i=>exact ⟨rfl,by unfold dEq; exact beq_self_eq_true i⟩
    | str z=>exact ⟨rfl,by unfold dEq; exact beq_self_eq_true z⟩
theorem eqB_self {d:D} (h:okD 6 d=true):fEqB d d=some true:=by
  obtain ⟨h1,h2⟩:=ok_self 6 d h
  have e:fEqB d d=match cmpOk 6 d d with
    | true=>some (dEq d d)
    | false=>none:=by cases d<;>rfl
  rw [e,h1,h2]
theorem int_eq {i j:Int} (h:i=j):fEq (.int i) (.int j)=some (.bl true):=by
  subst h
  show some (D.bl (i == i))=_
  rw [beq_self_eq_true]
theorem int_ne {i j:Int} (h:i≠j):fEq (.int i) (.int j)=some (.bl false):=by
  show some (D.bl (i == j))=_
  rw [beq_eq_false_iff_ne.mpr h]
theorem add_int {i j:Int}:fAdd (.int i) (.int j)=some (.int (i+j)):=rfl
theorem strs_of:∀ ts:List Str,strsOf (ts.map D.str)=some ts
  | []=>rfl
  | t::ts=>by
    show (strsOf (ts.map D.str)).bind _=_
    rw [strs_of ts]
    rfl
theorem join_of {sep:Str} {ts:List Str} (h:(ts.map (·.length)).sum+ts.length*sep.length≤1000000):fJoin (.str sep) (.lst (ts.map D.str))=some (.str (Builtin.Str.glued sep ts)):=by
  show (strsOf (ts.map D.str)).bind _=_
  rw [strs_of]
  show (if _≤LIM then _ else _)=_
  rw [if_pos (by show _≤16777216; omega)]
theorem has_put {k:Sum Int Str} {ks:List (Sum Int Str)} (k':Sum Int Str):hasK (putKs ks k) k'=(hasK ks k'||decide (k=k')):=by
  unfold putKs
  by_cases h:hasK ks k=true
  · rw [if_pos h]
    by_cases e:k=k'
    · subst e; rw [h]; rfl
    · rw [decide_eq_false e,Bool.or_false]
  · rw [if_neg h]
    unfold hasK
    rw [List.any_append]
    simp
theorem add_lst {L M:List D} (h:L.length+M.length≤1000):fAdd (.lst L) (.lst M)=some (.lst (L++M)):=by
  show (if L.length+M.length≤LIM then _ else _)=_
  rw [if_pos (by show _≤16777216; omega)]
theorem ne_of_eq {x y:D} {b:Bool} (h:fEq x y=some (.bl b)):fNe x y=some (.bl (!b)):=by
  unfold fEq at h
  unfold fNe
  cases e:fEqB x y with
  | none=>rw [e] at h; cases h
  | some k=>
    rw [e] at h
    cases h
    rfl
end L3
namespace L3
open PySem
theorem bits_lt {i:Int} {m:Nat} (h:bitsI i≤m):i.natAbs<2 ^ m:=by
  by_cases c:i=0
  · subst c
    exact Nat.pow_pos (by decide)
  · have e:bitsI i=i.natAbs.log2+1:=by
      show (if (i == 0)=true then 0 else i.natAbs.log2+1)=_
      rw [if_neg (by simpa using c)]
    exact (Nat.log2_lt (by omega)).mp (by omega)
theorem bits_le {i:Int} {m:Nat} (h:i.natAbs<2 ^ m):bitsI i≤m:=by
  by_cases c:i=0
  · subst c
    exact Nat.zero_le _
  · have e:bitsI i=i.natAbs.log2+1:=by
      show (if (i == 0)=true then 0 else i.natAbs.log2+1)=_
      rw [if_neg (by simpa using c)]
    rw [e]
    exact (Nat.log2_lt (by omega)).mpr h
end L3
namespace L3
open PySem
theorem pick4 {a b c d i:Int} (h0:0≤i) (h1:i<4):∃ n,(n=a∨n=b∨n=c∨n=d)∧fIx (.lst [.int a,.int b,.int c,.int d]) (.int i)=some (.int n):=by
  rcases (show i=0∨i=1∨i=2∨i=3 by omega) with rfl | rfl | rfl | rfl
  · exact ⟨a,by simp,rfl⟩
  · exact ⟨b,by simp,rfl⟩
  · exact ⟨c,by simp,rfl⟩
  · exact ⟨d,by simp,rfl⟩
theorem pick3 {a b c i:Int} (h0:0≤i) (h1:i<3):∃ n,(n=a∨n=b∨n=c)∧fIx (.lst [.int a,.int b,.int c]) (.int i)=some (.int n):=by
  rcases (show i=0∨i=1∨i=2 by omega) with rfl | rfl | rfl
  · exact ⟨a,by simp,rfl⟩
  · exact ⟨b,by simp,rfl⟩
  · exact ⟨c,by simp,rfl⟩
inductive PlainRow:D→Prop
  | stop:PlainRow (.tup [.str "stop"])
  | imm {w:Str} {d n:Int} (hw:w = "set" ∨ w = "high") (d0:0≤d) (d1:d<8) (n0:0≤n) (n1:n<65536):PlainRow (.tup [.str w,.int d,.int n])
  | two {w:Str} {d s:Int} (hw:w = "copy" ∨ w = "add" ∨ w = "addc" ∨ w = "sub" ∨ w = "subc" ∨ w = "and" ∨ w = "or" ∨ w = "xor" ∨ w = "test") (d0:0≤d) (d1:d<8) (s0:0≤s) (s1:s<8):PlainRow (.tup [.str w,.int d,.int s])
  | mov {w:Str} {d n:Int} (hw:w = "left" ∨ w = "right") (d0:0≤d) (d1:d<8) (n0:0≤n) (n1:n<32):PlainRow (.tup [.str w,.int d,.int n])
  | mem {w:Str} {d s n:Int} (hw:w = "load" ∨ w = "store" ∨ w = "loadw" ∨ w = "storew") (d0:0≤d) (d1:d<8) (s0:0≤s) (s1:s<8) (n0:0≤n) (n1:n<256):PlainRow (.tup [.str w,.int d,.int s,.int n])
inductive JRow (m:Int):D→Prop
  | jump {p:Int} (p0:0≤p) (p1:p≤m):JRow m (.tup [.str "jump",.int p])
  | cond {w k:Str} {p:Int} (hw:w = "when" ∨ w = "unless") (hk:k = "carry" ∨ k = "nought" ∨ k = "sign") (p0:0≤p) (p1:p≤m):JRow m (.tup [.str w,.str k,.int p])
noncomputable def RowG (m:Int) (d:D):Prop:=PlainRow d∨JRow m d
theorem ix0 {a:D} {r:List D}:fIx (.tup (a::r)) (.int 0)=some a:=rfl
noncomputable def isJ:D→Bool
  | .tup (.str w::_)=>w == "jump" || w == "when" || w == "unless"
  | _=>false
noncomputable def lastD:D→D
  | .tup xs=>(atD xs (-1)).getD .non
  | _=>.non
noncomputable def jumpT:D:=.tup [.str "jump",.str "when",.str "unless"]
theorem plain_fx {d:D} (h:PlainRow d):∃ w,fIx d (.int 0)=some (.str w)∧fIn (.str w) jumpT=some (.bl false)∧fEq (.str w) (.str "label")=some (.bl false)∧isJ d=false∧okD 5 d=true:=by
  cases h with
  | stop=>exact ⟨_,rfl,rfl,rfl,rfl,rfl⟩
  | imm hw=>rcases hw with rfl | rfl<;>exact ⟨_,rfl,rfl,rfl,rfl,rfl⟩
  | two hw=>rcases hw with rfl | rfl | rfl | rfl | rfl | rfl | rfl | rfl | rfl<;>exact ⟨_,rfl,rfl,rfl,rfl,rfl⟩
  | mov hw=>rcases hw with rfl | rfl<;>exact ⟨_,rfl,rfl,rfl,rfl,rfl⟩
  | mem hw=>rcases hw with rfl | rfl | rfl | rfl<;>exact ⟨_,rfl,rfl,rfl,rfl,rfl⟩
noncomputable def isL:D→Bool
  | .tup (.str w::_)=>w == "label"
  | _=>false
noncomputable def labelD (t:Str):D:=.tup [.str "label",.str t]
theorem rowG_fx {m:Int} {d:D} (h:RowG m d):∃ w,fIx d (.int 0)=some (.str w)∧fEq (.str w) (.str "label")=some (.bl false)∧isL d=false∧okD 5 d=true:=by
  rcases h with h | h
  · cases h with
    | stop=>exact ⟨_,rfl,rfl,rfl,rfl⟩
    | imm hw=>rcases hw with rfl | rfl<;>exact ⟨_,rfl,rfl,rfl,rfl⟩
    | two hw=>rcases hw with rfl | rfl | rfl | rfl | rfl | rfl | rfl | rfl | rfl<;>exact ⟨_,rfl,rfl,rfl,rfl⟩
    | mov hw=>rcases hw with rfl | rfl<;>exact ⟨_,rfl,rfl,rfl,rfl⟩
    | mem hw=>rcases hw with rfl | rfl | rfl | rfl<;>exact ⟨_,rfl,rfl,rfl,rfl⟩
  · cases h with
    | jump=>exact ⟨_,rfl,rfl,rfl,rfl⟩
    | cond hw hk=>rcases hw with rfl | rfl<;>rcases hk with rfl | rfl | rfl<;>exact ⟨_,rfl,rfl,rfl,rfl⟩
theorem app_ok {L:List D} {r:D} (h:L.length≤1000):fApp (.lst L) r=some (.lst (L++[r])):=by
  show (if L.length<LIM then _ else _)=_
  rw [if_pos (by show _<16777216; omega)]
inductive Item:D→Prop
  | label (t:Str):Item (labelD t)
  | plain {d:D}:PlainRow d→Item d
  | jump (t:Str):Item (.tup [.str "jump",.str t])
  | cond {w k:Str} (t:Str) (hw:w = "when" ∨ w = "unless") (hk:k = "carry" ∨ k = "nought" ∨ k = "sign"):Item (.tup [.str w,.str k,.str t])
theorem item_fx {d:D} (h:Item d):∃ w,fIx d (.int 0)=some (.str w)∧fEq (.str w) (.str "label")=some (.bl (isL d))∧okD 5 d=true:=by
  cases h with
  | label=>exact ⟨_,rfl,rfl,rfl⟩
  | plain h=>
    obtain ⟨w,a,b,c,e⟩:=rowG_fx (m:=0) (.inl h)
    exact ⟨w,a,by rw [c]; exact b,e⟩
  | jump=>exact ⟨_,rfl,rfl,rfl⟩
  | cond t hw hk=>rcases hw with rfl | rfl<;>rcases hk with rfl | rfl | rfl<;>exact ⟨_,rfl,rfl,rfl⟩
theorem isL_notJ {x:D} (h:isL x=true):isJ x=false:=by
  unfold isL at h
  split at h
  · rename_i w r
    have e:w = "label" := by simpa using h
    subst e
    rfl
  · cases h
theorem each_len {R:D→D→Prop}:∀ {xs ys:List D},Each R xs ys→xs.length=ys.length
  | _,_,.nil=>rfl
  | _,_,.cons _ r=>by rw [List.length_cons,List.length_cons,each_len r]
theorem each_mem {R:D→D→Prop}:∀ {xs ys:List D},Each R xs ys→∀ y∈ys,∃ x∈xs,R x y
  | _,_,.nil,_,h=>by cases h
  | x::xs,y::ys,.cons r rs,z,hz=>by
    rcases List.mem_cons.mp hz with rfl | hz
    · exact ⟨x,List.mem_cons_self ..,r⟩
    · obtain ⟨w,hw,h⟩:=each_mem rs z hz
      exact ⟨w,List.mem_cons_of_mem _ hw,h⟩
theorem each_get {R:D→D→Prop}:∀ {xs ys:List D},Each R xs ys→∀ {i:Nat} {x:D},xs[i]?=some x→∃ y,ys[i]?=some y∧R x y
  | _,_,.nil,_,_,h=>by cases h
  | _,_,.cons r _,0,_,h=>by cases h; exact ⟨_,rfl,r⟩
  | _,_,.cons _ rs,i+1,_,h=>each_get rs (by simpa using h)
theorem each_of {R:D→D→Prop}:∀ {xs ys:List D},xs.length=ys.length→(∀ (i:Nat) x y,xs[i]?=some x→ys[i]?=some y→R x y)→Each R xs ys
  | [],[],_,_=>.nil
  | [],_::_,h,_=>by cases h
  | _::_,[],h,_=>by cases h
  | x::xs,y::ys,h,r=>.cons (r 0 x y rfl rfl) (each_of (by simpa using h) fun i a b ha hb=>r (i+1) a b (by simpa using ha) (by simpa using hb))
inductive RowA (N:List Str):D→Prop
  | plain {d:D}:PlainRow d→RowA N d
  | jump {t:Str} (ht:t∈N):RowA N (.tup [.str "jump",.str t])
  | cond {w k t:Str} (hw:w = "when" ∨ w = "unless") (hk:k = "carry" ∨ k = "nought" ∨ k = "sign") (ht:t∈N):RowA N (.tup [.str w,.str k,.str t])
noncomputable def ItemA (N:List Str) (d:D):Prop:=RowA N d∨∃ t∈N,d=labelD t
theorem rowA_item {N:List Str} {d:D} (h:RowA N d):Item d∧isL d=false:=by
  cases h with
  | plain h=>
    obtain ⟨_,_,_,l,_⟩:=rowG_fx (m:=0) (.inl h)
    exact ⟨.plain h,l⟩
  | jump ht=>exact ⟨.jump _,rfl⟩
  | cond hw hk ht=>exact ⟨.cond _ hw hk,by rcases hw with rfl | rfl<;>rfl⟩
theorem itemA_item {N:List Str} {d:D} (h:ItemA N d):Item d:=by
  rcases h with h | ⟨t,_,rfl⟩
  · exact (rowA_item h).1
  · exact .label t
end L3
namespace L3
open PySem
noncomputable def b_law_mixed:FS:=
  (sSeq (sSet 3 (eLst (fun _=>some (List.map D.int [99991,99989,99971,99961,99929,99923,99907,99901,99881,99877,99871]))))
    (sSeq (sSet 4 (e2 fMod (e2 fMulR (e2 fAdd (eVar 0) (e2 fMulL (eC (.int 7)) (eVar 1))) (eC (.int 48271))) (e2 fIx (eVar 3) (e2 fMod (eVar 1) (eC (.int 11))))))
    (sRet (e2 fMod (e2 fMod (e2 fAdd (e2 fAdd (e2 fMulR (e2 fMulB (eVar 4) (eVar 4)) (eC (.int 7))) (eVar 4)) (eVar 1)) (eC (.int 1000003))) (eVar 2)))))
noncomputable def F_law_mixed:List D→Option (Bool×D):=FR 3 5 b_law_mixed
theorem run_law_mixed:∀ ds r,F_law_mixed ds=some r→ds.length=3∧runF 5 b_law_mixed ds=some r:=FR_ok
theorem go_law_mixed (x0 x1 x2:D):F_law_mixed [x0,x1,x2]=runF 5 b_law_mixed [x0,x1,x2]:=rfl
noncomputable def b_law_letter:FS:=
  (sRet (e2 fIx (eC (.str "abcdefghijklmnopqrstuvwxyz")) (e2 fMod (eVar 0) (eC (.int 26)))))
noncomputable def F_law_letter:List D→Option (Bool×D):=FR 1 1 b_law_letter
theorem run_law_letter:∀ ds r,F_law_letter ds=some r→ds.length=1∧runF 1 b_law_letter ds=some r:=FR_ok
theorem go_law_letter (x0:D):F_law_letter [x0]=runF 1 b_law_letter [x0]:=rfl
noncomputable def x_law_names_1:FE:=(eCall F_law_letter (aCons (eCall F_law_mixed (aCons (eVar 0) (aCons (e2 fAdd (eC (.int 4)) (eVar 11)) (aCons (eC (.int 26)) aNil)))) aNil))
noncomputable def r_law_names_1:FA:=(iRange (eC (.int 0)) (eVar 1))
noncomputable def x_law_names_2:FE:=(e2 fAdd (eCall F_law_letter (aCons (eVar 11) aNil)) (eC (.str "qzqz")))
noncomputable def x_law_names_3:FE:=(e2 fAdd (eCall F_law_letter (aCons (eVar 11) aNil)) (eC (.str "zqzq")))
noncomputable def x_law_names_4:FE:=(eVar 11)
noncomputable def y_law_names_1:FT:=(tE (e2 fNotIn (eVar 11) (eAny 6)))
noncomputable def l_law_names_1:FS:=(sSeq (sSet 8 (eCall F_law_letter (aCons (e2 fAdd (eCall F_law_mixed (aCons (eVar 0) (aCons (eC (.int 5)) (aCons (eC (.int 26)) aNil)))) (e2 fMulL (eC (.int 5)) (eVar 7))) aNil)))
        (sSeq (sSet 9 (e2 fAdd (e2 fAdd (eSl (eVar 4) oNone (oSome (eVar 3))) (eVar 8)) (eSl (eVar 4) (oSome (e2 fAdd (eVar 3) (eC (.int 1)))) (oSome (eVar 2)))))
        (sSeq (sIf (tAndF (tE (e2 fEq (eCall F_law_mixed (aCons (eVar 0) (aCons (eC (.int 6)) (aCons (eC (.int 4)) aNil)))) (eC (.int 0)))) (tE (e2 (fCmp fun i j=>decide (i<j)) (eVar 7) (eC (.int 8)))))
          (sSet 9 (e2 fIx (eLst (aCons (eSl (eVar 4) oNone (oSome (e2 fAdd (eVar 7) (eC (.int 1))))) (aCons (e2 fIx (eVar 5) (eVar 7)) aNil))) (eCall F_law_mixed (aCons (eVar 0) (aCons (eC (.int 7)) (aCons (eC (.int 2)) aNil))))))
          sNext)
        (sSeq (sIf (tE (e2 fIn (eVar 9) (eAny 6)))
          (sSeq (sSet 10 (e2 fAdd (eLc 1 (iRange (eC (.int 0)) (eC (.int 26))) (gVar 11) tTrue x_law_names_2) (eLc 1 (iRange (eC (.int 0)) (eC (.int 26))) (gVar 11) tTrue x_law_names_3)))
            (sSet 9 (e2 fIx (eLc 1 (iSeq (eVar 10)) (gVar 11) y_law_names_1 x_law_names_4) (eC (.int 0)))))
          sNext)
        (sMut1 6 fApp (eVar 9))))))
noncomputable def b_law_names:FS:=
  (sSeq (sSet 2 (e2 fAdd (eC (.int 1)) (eCall F_law_mixed (aCons (eVar 0) (aCons (eC (.int 2)) (aCons (eC (.int 8)) aNil))))))
    (sSeq (sSet 3 (eCall F_law_mixed (aCons (eVar 0) (aCons (eC (.int 3)) (aCons (eVar 2) aNil)))))
    (sSeq (sSet 4 (e2 fJoin (eC (.str "")) (eLc 1 (iRange (eC (.int 0)) (eC (.int 8))) (gVar 11) tTrue x_law_names_1)))
    (sSeq (sSet 5 (eLst (aCons (eC (.str "add")) (aCons (eC (.str "stop")) (aCons (eC (.str "carry")) (aCons (eC (.str "label")) (aCons (eC (.str "jump")) (aCons (eC (.str "set")) (aCons (eC (.str "sign")) (aCons (eC (.str "when")) aNil))))))))))
    (sSeq (sSetO 6 (eLst aNil))
    (sSeq (sFor r_law_names_1 (gVar 7)
      l_law_names_1)
    (sRetV 6)))))))
noncomputable def F_law_names:List D→Option (Bool×D):=FR 2 11 b_law_names
theorem run_law_names:∀ ds r,F_law_names ds=some r→ds.length=2∧runF 11 b_law_names ds=some r:=FR_ok
theorem go_law_names (x0 x1:D):F_law_names [x0,x1]=runF 11 b_law_names [x0,x1]:=rfl
noncomputable def b_law_shape:FS:=
  (sSeq (sIf (tE (e2 fIn (eVar 0) (eLst (aCons (eC (.str "set")) (aCons (eC (.str "high")) aNil)))))
      (sRetO (eLst (aCons (eC (.int 8)) (aCons (eC (.int 65536)) aNil))))
      sNext)
    (sSeq (sIf (tE (e2 fIn (eVar 0) (eLst (aCons (eC (.str "left")) (aCons (eC (.str "right")) aNil)))))
      (sRetO (eLst (aCons (eC (.int 8)) (aCons (eC (.int 32)) aNil))))
      sNext)
    (sSeq (sIf (tE (e2 fIn (eVar 0) (eLst (aCons (eC (.str "load")) (aCons (eC (.str "store")) (aCons (eC (.str "loadw")) (aCons (eC (.str "storew")) aNil)))))))
      (sRetO (eLst (fun _=>some (List.map D.int [8,8,256]))))
      sNext)
    (sSeq (sIf (tE (e2 fIn (eVar 0) (eLst (aCons (eC (.str "copy")) (aCons (eC (.str "add")) (aCons (eC (.str "addc")) (aCons (eC (.str "sub")) (aCons (eC (.str "subc")) (aCons (eC (.str "and")) (aCons (eC (.str "or")) (aCons (eC (.str "xor")) (aCons (eC (.str "test")) aNil))))))))))))
      (sRetO (eLst (aCons (eC (.int 8)) (aCons (eC (.int 8)) aNil))))
      sNext)
    (sRet (e2 fIx (eDisp ["label", "jump", "when", "unless", "stop"] (aCons (eLst (aCons (eC (.str "name")) aNil)) (aCons (eLst (aCons (eC (.str "name")) aNil)) (aCons (eLst (aCons (eC (.str "mark")) (aCons (eC (.str "name")) aNil))) (aCons (eLst (aCons (eC (.str "mark")) (aCons (eC (.str "name")) aNil))) (aCons (eLst aNil) aNil)))))) (eVar 0)))))))
noncomputable def F_law_shape:List D→Option (Bool×D):=FR 1 1 b_law_shape
theorem run_law_shape:∀ ds r,F_law_shape ds=some r→ds.length=1∧runF 1 b_law_shape ds=some r:=FR_ok
noncomputable def b_law_words:FS:=
  (sSeq (sSet 0 (eLst (aCons (eC (.str "set")) (aCons (eC (.str "high")) (aCons (eC (.str "copy")) (aCons (eC (.str "add")) (aCons (eC (.str "addc")) (aCons (eC (.str "sub")) (aCons (eC (.str "subc")) (aCons (eC (.str "and")) (aCons (eC (.str "or")) (aCons (eC (.str "xor")) (aCons (eC (.str "test")) (aCons (eC (.str "left")) (aCons (eC (.str "right")) (aCons (eC (.str "load")) aNil))))))))))))))))
    (sRet (e2 fAdd (eVar 0) (eLst (aCons (eC (.str "store")) (aCons (eC (.str "loadw")) (aCons (eC (.str "storew")) (aCons (eC (.str "jump")) (aCons (eC (.str "when")) (aCons (eC (.str "unless")) (aCons (eC (.str "stop")) aNil)))))))))))
noncomputable def F_law_words:List D→Option (Bool×D):=FR 0 1 b_law_words
theorem run_law_words:∀ ds r,F_law_words ds=some r→ds.length=0∧runF 1 b_law_words ds=some r:=FR_ok
noncomputable def b_law_part_by:FS:=
  (sSeq (sIf (tE (e2 fEq (eVar 0) (eC (.str "name"))))
      (sRet (e2 fIx (eVar 3) (eCall F_law_mixed (aCons (eVar 1) (aCons (eVar 2) (aCons (eL fLen (aCons (eVar 3) aNil)) aNil))))))
      sNext)
    (sSeq (sIf (tE (e2 fEq (eVar 0) (eC (.str "mark"))))
      (sRet (e2 fIx (eLst (aCons (eC (.str "carry")) (aCons (eC (.str "nought")) (aCons (eC (.str "sign")) aNil)))) (eCall F_law_mixed (aCons (eVar 1) (aCons (eVar 2) (aCons (eC (.int 3)) aNil))))))
      sNext)
    (sRet (e2 fIx (eLst (aCons (eC (.int 0)) (aCons (e2 fSub (eVar 0) (eC (.int 1))) (aCons (eCall F_law_mixed (aCons (eVar 1) (aCons (eVar 2) (aCons (eVar 0) aNil)))) (aCons (eCall F_law_mixed (aCons (eVar 1) (aCons (e2 fAdd (eVar 2) (eC (.int 1))) (aCons (eVar 0) aNil)))) aNil))))) (eCall F_law_mixed (aCons (eVar 1) (aCons (e2 fAdd (eVar 2) (eC (.int 2))) (aCons (eC (.int 4)) aNil))))))))
noncomputable def F_law_part_by:List D→Option (Bool×D):=FR 4 4 b_law_part_by
theorem run_law_part_by:∀ ds r,F_law_part_by ds=some r→ds.length=4∧runF 4 b_law_part_by ds=some r:=FR_ok
theorem go_law_part_by (x0 x1 x2 x3:D):F_law_part_by [x0,x1,x2,x3]=runF 4 b_law_part_by [x0,x1,x2,x3]:=rfl
noncomputable def r_law_row_by_1:FA:=(iRange (eC (.int 0)) (eL fLen (aCons (eVar 3) aNil)))
noncomputable def x_law_row_by_1:FE:=(eCall F_law_part_by (aCons (e2 fIx (eVar 3) (eVar 4)) (aCons (eVar 0) (aCons (e2 fAdd (e2 fMulL (eC (.int 2)) (eVar 4)) (eC (.int 1))) (aCons (eVar 1) aNil)))))
noncomputable def b_law_row_by:FS:=
  (sSeq (sSet 2 (e2 fIx (eCall F_law_words aNil) (eCall F_law_mixed (aCons (eVar 0) (aCons (eC (.int 0)) (aCons (eC (.int 21)) aNil))))))
    (sSeq (sIf (tE (e2 fEq (eCall F_law_mixed (aCons (eVar 0) (aCons (eC (.int 8)) (aCons (eC (.int 4)) aNil)))) (eC (.int 1))))
      (sSet 2 (e2 fIx (eLst (aCons (eC (.str "jump")) (aCons (eC (.str "when")) (aCons (eC (.str "unless")) aNil)))) (eCall F_law_mixed (aCons (eVar 0) (aCons (eC (.int 9)) (aCons (eC (.int 3)) aNil))))))
      sNext)
    (sSeq (sIf (tAndF (tE (e2 fIn (eVar 2) (eLst (aCons (eC (.str "jump")) (aCons (eC (.str "when")) (aCons (eC (.str "unless")) aNil)))))) (tE (e2 fEq (eL fLen (aCons (eVar 1) aNil)) (eC (.int 0)))))
      (sSet 2 (eC (.str "stop")))
      sNext)
    (sSeq (sSet 3 (eCall F_law_shape (aCons (eVar 2) aNil)))
    (sRet (e2 fAdd (eTup (aCons (eVar 2) aNil)) (eL fTuple (aCons (eLc 1 r_law_row_by_1 (gVar 4) tTrue x_law_row_by_1) aNil))))))))
noncomputable def F_law_row_by:List D→Option (Bool×D):=FR 2 4 b_law_row_by
theorem run_law_row_by:∀ ds r,F_law_row_by ds=some r→ds.length=2∧runF 4 b_law_row_by ds=some r:=FR_ok
theorem go_law_row_by (x0 x1:D):F_law_row_by [x0,x1]=runF 4 b_law_row_by [x0,x1]:=rfl
noncomputable def mixA (c k m:Int):Int:=match F_law_mixed [.int c,.int k,.int m] with
  | some (_,.int v)=>v
  | _=>0
theorem bits_small {i:Int} (h0:0≤i) (h1:i<100000):bitsI i≤20:=by
  exact bits_le (by have e:(2:Nat) ^ 20=1048576:=by decide
                    omega)
theorem mixed_F (c k m:Int) (hm:0<m):F_law_mixed [.int c,.int k,.int m]=some (false,.int (mixA c k m))∧0≤mixA c k m∧mixA c k m<m:=by
  have:∃ v:Int,0≤v∧v<m∧F_law_mixed [.int c,.int k,.int m]=some (false,.int v):=by
    obtain ⟨p,p0,p1,ep⟩:∃ p:Int,0<p∧p<100000∧fIx (.lst (List.map D.int [99991,99989,99971,99961,99929,99923,99907,99901,99881,99877,99871])) (.int (k % 11))=some (.int p):=by
      rcases (show k % 11=0∨k % 11=1∨k % 11=2∨k % 11=3∨k % 11=4∨k % 11=5∨k % 11=6∨k % 11=7∨k % 11=8∨k % 11=9∨k % 11=10 by omega) with h | h | h | h | h | h | h | h | h | h | h<;>rw [h]<;>exact ⟨_,by decide,by decide,rfl⟩
    have q0:=Int.emod_nonneg ((c+7*k)*48271) (show p≠0 by omega)
    have q1:=Int.emod_lt_of_pos ((c+7*k)*48271) p0
    have l1:lt64 7=true∧lt64 48271=true:=⟨by decide,by decide⟩
    have b:=bits_small (i:=(c+7*k)*48271 % p) q0 (by omega)
    have e1:decide (0<p)=true:=decide_eq_true p0
    have e2:decide (0<m)=true:=decide_eq_true hm
    have e3:decide (bitsI ((c+7*k)*48271 % p)+bitsI ((c+7*k)*48271 % p)≤134217728)=true:=decide_eq_true (by omega)
    refine ⟨((c+7*k)*48271 % p*((c+7*k)*48271 % p)*7+(c+7*k)*48271 % p+k) % 1000003 % m,?_,?_,?_⟩
    rotate_left 2
    · rw [go_law_mixed]
      unfold b_law_mixed
      generalize List.map D.int [99991,99989,99971,99961,99929,99923,99907,99901,99881,99877,99871]=PS at ep
      simp! [l1,add_int,ep,e1,fMulB,e3,e2]
    · exact Int.emod_nonneg _ (by omega)
    · exact Int.emod_lt_of_pos _ hm
  obtain ⟨v,v0,v1,e⟩:=this
  have:mixA c k m=v:=by unfold mixA; rw [e]
  rw [this]
  exact ⟨e,v0,v1⟩
theorem letter_F (k:Int):F_law_letter [.int k]=some (false,.str (lt (k % 26))):=by
  have a:=abc_ix (k:=k % 26) (by omega) (by omega)
  rw [go_law_letter]
  unfold b_law_letter
  simp! [a]
noncomputable def lowB (z:Str):Bool:=z.cps.toList.all fun c=>decide (97≤c)&&decide (c≤122)
noncomputable def nameB (z:Str):Bool:=decide (1≤z.length)&&(decide (z.length≤8)&&lowB z)
theorem cps_app (a b:Str):(a++b).cps.toList=a.cps.toList++b.cps.toList:=Array.toList_append
theorem low_app {a b:Str} (ha:lowB a=true) (hb:lowB b=true):lowB (a++b)=true:=by
  unfold lowB
  rw [cps_app,List.all_append,Bool.and_eq_true]
  exact ⟨ha,hb⟩
theorem low_lt {k:Int} (h0:0≤k) (h1:k<26):lowB (lt k)=true:=by
  show ((decide (97≤97+k.toNat)&&decide (97+k.toNat≤122))&&true)=true
  rw [decide_eq_true (by omega),decide_eq_true (by omega)]
  rfl
theorem low_cut {z:Str} (h:lowB z=true) (lo hi:Option Int):lowB (L2.cutS z lo hi)=true:=
  List.all_eq_true.mpr fun c hc=>List.all_eq_true.mp h c (List.mem_of_mem_drop (List.mem_of_mem_take (by
    have e:(L2.cutS z lo hi).cps.toList=(z.cps.toList.drop (HT.sIx z.length 0 lo)).take (HT.sIx z.length z.length hi - HT.sIx z.length 0 lo):=rfl
    rw [e] at hc
    exact hc)))
theorem cut_size (z:Str) {a b:Nat} (hab:a≤b) (hb:b≤z.length):(L2.cutS z (some (a:Int)) (some (b:Int))).length=b - a:=by
  show (((z.cps.toList.drop (HT.sIx z.length 0 (some (a:Int)))).take (HT.sIx z.length z.length (some (b:Int)) - HT.sIx z.length 0 (some (a:Int)))).toArray).size=_
  rw [HT.sIx_nat,HT.sIx_nat,List.size_toArray,List.length_take,List.length_drop]
  have:z.cps.toList.length=z.length:=Array.length_toList
  omega
theorem cut_size0 (z:Str) {b:Nat} (hb:b≤z.length):(L2.cutS z none (some (b:Int))).length=b:=by
  show (((z.cps.toList.drop 0).take (HT.sIx z.length z.length (some (b:Int)) - 0)).toArray).size=_
  rw [HT.sIx_nat,List.size_toArray,List.length_take,List.length_drop]
  have:z.cps.toList.length=z.length:=Array.length_toList
  omega
theorem glued_cps:∀ (ts:List Str),(Builtin.Str.glued "" ts).cps.toList=(ts.map fun t=>t.cps.toList).flatten
  | []=>rfl
  | t::ts=>by
    have h:∀ (us:List Str) (a:Array Nat),(us.foldl (fun acc p=>acc++("" : Str).cps++p.cps) a).toList=a.toList++(us.map fun t=>t.cps.toList).flatten:=fun us=>by
      induction us with
      | nil=>intro a; simp
      | cons u us ih=>
        intro a
        rw [List.foldl_cons,ih]
        have e:("" : Str).cps=#[]:=rfl
        rw [e]
        simp
    show (ts.foldl (fun acc p=>acc++("" : Str).cps++p.cps) t.cps).toList=_
    rw [h]
    rfl
theorem in_strs (x:Str) (ts:List Str):fInB (.str x) (.lst (ts.map D.str))=some (decide (x∈ts)):=by
  have ha:(ts.map D.str).all flatD=true:=List.all_eq_true.mpr fun y hy=>by
    obtain ⟨p,_,rfl⟩:=List.mem_map.mp hy
    rfl
  show (match flatD (.str x)&&(ts.map D.str).all flatD with | true=>some ((ts.map D.str).any fun y=>dEq y (.str x)) | false=>none)=_
  rw [ha]
  show some _=_
  congr 1
  have e:∀ y:Str,dEq (.str y) (.str x)=(y == x):=fun y=>by unfold dEq; rfl
  by_cases h:x∈ts
  · rw [decide_eq_true h]
    exact List.any_eq_true.mpr ⟨.str x,List.mem_map.mpr ⟨x,h,rfl⟩,by rw [e]; exact beq_self_eq_true _⟩
  · rw [decide_eq_false h]
    cases z:(ts.map D.str).any fun y=>dEq y (.str x) with
    | false=>rfl
    | true=>
      obtain ⟨d,hd,q⟩:=List.any_eq_true.mp z
      obtain ⟨y,hy,rfl⟩:=List.mem_map.mp hd
      rw [e,beq_iff_eq] at q
      exact absurd (q ▸ hy) h
theorem sub_lenS:∀ {l ps:List Str},l.Nodup→(∀ x∈l,x∈ps)→l.length≤ps.length
  | [],_,_,_=>Nat.zero_le _
  | x::l,ps,nd,h=>by
    obtain ⟨n1,n2⟩:=List.nodup_cons.mp nd
    have hx:=h x (List.mem_cons_self ..)
    have ih:=sub_lenS (l:=l) (ps:=ps.erase x) n2 fun y hy=>(List.mem_erase_of_ne (fun (e:y=x)=>n1 (e ▸ hy))).mpr (h y (List.mem_cons_of_mem _ hy))
    rw [List.length_erase_of_mem hx] at ih
    have:0<ps.length:=List.length_pos_of_mem hx
    rw [List.length_cons]
    omega
noncomputable def otherS:List Str:=((List.range 26).map fun j:Nat=>lt ((j:Int) % 26) ++ "qzqz")++(List.range 26).map fun j:Nat=>lt ((j:Int) % 26) ++ "zqzq"
theorem other_nd:otherS.Nodup:=by decide +kernel
theorem other_ok:∀ t∈otherS,nameB t=true:=by decide +kernel
theorem other_len:otherS.length=52:=by decide +kernel
structure Names (N:List Str):Prop where
  nd:N.Nodup
  ok:∀ t∈N,nameB t=true
theorem name_len {t:Str} (h:nameB t=true):1≤t.length∧t.length≤8∧lowB t=true:=by
  unfold nameB at h
  rw [Bool.and_eq_true,Bool.and_eq_true] at h
  exact ⟨of_decide_eq_true h.1,of_decide_eq_true h.2.1,h.2.2⟩
theorem name_mk {t:Str} (h0:1≤t.length) (h1:t.length≤8) (h:lowB t=true):nameB t=true:=by
  unfold nameB
  rw [decide_eq_true h0,decide_eq_true h1,h]
  rfl
noncomputable abbrev ownD:D:=.lst [.str "add",.str "stop",.str "carry",.str "label",.str "jump",.str "set",.str "sign",.str "when"]
theorem own_at {i:Nat} (h:i<8):∃ t:Str,nameB t=true∧fIx ownD (.int (i:Int))=some (.str t):=by
  rcases (show i=0∨i=1∨i=2∨i=3∨i=4∨i=5∨i=6∨i=7 by omega) with rfl | rfl | rfl | rfl | rfl | rfl | rfl | rfl
  · exact ⟨"add",by decide +kernel,rfl⟩
  · exact ⟨"stop",by decide +kernel,rfl⟩
  · exact ⟨"carry",by decide +kernel,rfl⟩
  · exact ⟨"label",by decide +kernel,rfl⟩
  · exact ⟨"jump",by decide +kernel,rfl⟩
  · exact ⟨"set",by decide +kernel,rfl⟩
  · exact ⟨"sign",by decide +kernel,rfl⟩
  · exact ⟨"when",by decide +kernel,rfl⟩
theorem names_last {c m:D} {sz sp W own:D} {N:List Str} (hN:N.length<52) {kk lx x10:Option Sl} {x0:Str} (h0:nameB x0=true):∃ (x:Str) (y10:Option Sl),nameB x=true∧x ∉ N∧
    sIf (tE (e2 fIn (eVar 9) (eAny 6)))
          (sSeq (sSet 10 (e2 fAdd (eLc 1 (iRange (eC (.int 0)) (eC (.int 26))) (gVar 11) tTrue x_law_names_2) (eLc 1 (iRange (eC (.int 0)) (eC (.int 26))) (gVar 11) tTrue x_law_names_3)))
            (sSet 9 (e2 fIx (eLc 1 (iSeq (eVar 10)) (gVar 11) y_law_names_1 x_law_names_4) (eC (.int 0)))))
          sNext [some (false,c),some (false,m),some (false,sz),some (false,sp),some (false,W),some (false,own),some (true,.lst (N.map D.str)),kk,lx,some (false,.str x0),x10]=some (.nx [some (false,c),some (false,m),some (false,sz),some (false,sp),some (false,W),some (false,own),some (true,.lst (N.map D.str)),kk,lx,some (false,.str x),y10]):=by
  have hin:∀ x:Str,fIn (.str x) (.lst (N.map D.str))=some (.bl (decide (x∈N))):=fun x=>by
    show (fInB _ _).bind _=_
    rw [in_strs]
    rfl
  have hni:∀ x:Str,fNotIn (.str x) (.lst (N.map D.str))=some (.bl (!decide (x∈N))):=fun x=>by
    show (fInB _ _).bind _=_
    rw [in_strs]
    rfl
  by_cases hm:x0∈N
  · have h1:=hin x0
    rw [decide_eq_true hm] at h1
    have r26:∀ σ,iRange (eC (.int 0)) (eC (.int 26)) σ=some (upTo 26):=fun σ=>range_of (n:=26) rfl (by decide)
    obtain ⟨σ0,hσ⟩:∃ σ0:SEnv,σ0=[some (false,c),some (false,m),some (false,sz),some (false,sp),some (false,W),some (false,own),some (true,.lst (N.map D.str)),kk,lx,some (false,.str x0),x10]:=⟨_,rfl⟩
    have l2:=lc_map (g:=gVar 11) (e:=x_law_names_2) (σ:=σ0++List.replicate 1 none) (fun d=>match d with | .int j=>D.str (lt (j % 26) ++ "qzqz") | d=>d) (ds:=upTo 26) fun d hd=>by
      obtain ⟨i,hi,rfl⟩:=upTo_mem hd
      have hl:=letter_F (i:Int)
      have ha:=add_str (a:=lt ((i:Int) % 26)) (b := "qzqz") (by rw [lt_len]; decide)
      rw [hσ]
      refine ⟨_,rfl,?_⟩
      unfold x_law_names_2
      simp! [hl,ha]
    have l3:=lc_map (g:=gVar 11) (e:=x_law_names_3) (σ:=σ0++List.replicate 1 none) (fun d=>match d with | .int j=>D.str (lt (j % 26) ++ "zqzq") | d=>d) (ds:=upTo 26) fun d hd=>by
      obtain ⟨i,hi,rfl⟩:=upTo_mem hd
      have hl:=letter_F (i:Int)
      have ha:=add_str (a:=lt ((i:Int) % 26)) (b := "zqzq") (by rw [lt_len]; decide)
      rw [hσ]
      refine ⟨_,rfl,?_⟩
      unfold x_law_names_3
      simp! [hl,ha]
    have w2:(upTo 26).map (fun d=>match d with | .int j=>D.str (lt (j % 26) ++ "qzqz") | d=>d)=((List.range 26).map fun j:Nat=>lt ((j:Int) % 26) ++ "qzqz").map D.str:=by
      rw [List.map_map,List.map_map]
      rfl
    have w3:(upTo 26).map (fun d=>match d with | .int j=>D.str (lt (j % 26) ++ "zqzq") | d=>d)=((List.range 26).map fun j:Nat=>lt ((j:Int) % 26) ++ "zqzq").map D.str:=by
      rw [List.map_map,List.map_map]
      rfl
    rw [w2] at l2
    rw [w3] at l3
    have ad:fAdd (.lst (((List.range 26).map fun j:Nat=>lt ((j:Int) % 26) ++ "qzqz").map D.str)) (.lst (((List.range 26).map fun j:Nat=>lt ((j:Int) % 26) ++ "zqzq").map D.str))=some (.lst (otherS.map D.str)):=by
      rw [add_lst (by simp only [List.length_map,List.length_range]; decide)]
      unfold otherS
      rw [List.map_append]
    have l4:=lc_all (g:=gVar 11) (c:=y_law_names_1) (e:=x_law_names_4) (σ:=[some (false,c),some (false,m),some (false,sz),some (false,sp),some (false,W),some (false,own),some (true,.lst (N.map D.str)),kk,lx,some (false,.str x0),some (false,.lst (otherS.map D.str)),none]) (fun d=>match d with | .str x=>!decide (x∈N) | _=>false) id (ds:=otherS.map D.str) fun d hd=>by
      obtain ⟨x,_,rfl⟩:=List.mem_map.mp hd
      have h2:=hni x
      refine ⟨_,rfl,?_,fun _=>rfl⟩
      unfold y_law_names_1
      simp! [h2]
    have e4:List.map id ((otherS.map D.str).filter fun d=>match d with | .str x=>!decide (x∈N) | _=>false)=(otherS.filter fun x=>!decide (x∈N)).map D.str:=by
      rw [List.map_id,List.filter_map]
      rfl
    rw [e4] at l4
    obtain ⟨x,r,ex⟩:∃ x r,otherS.filter (fun x=>!decide (x∈N))=x::r:=by
      cases z:otherS.filter fun x=>!decide (x∈N) with
      | cons x r=>exact ⟨x,r,rfl⟩
      | nil=>
        exfalso
        have:=sub_lenS other_nd (ps:=N) fun y hy=>by
          have:=List.filter_eq_nil_iff.mp z y hy
          simpa using this
        rw [other_len] at this
        omega
    have mx:x∈otherS.filter fun x=>!decide (x∈N):=by rw [ex]; exact List.mem_cons_self ..
    obtain ⟨mx1,mx2⟩:=List.mem_filter.mp mx
    refine ⟨x,some (false,.lst (otherS.map D.str)),other_ok x mx1,by simpa using mx2,?_⟩
    rw [ex] at l4
    have i0:fIx (.lst ((x::r).map D.str)) (.int 0)=some (.str x):=rfl
    rw [if_t (by simp! [h1])]
    have s1:eLc 1 (iRange (eC (.int 0)) (eC (.int 26))) (gVar 11) tTrue x_law_names_2 σ0=some (.lst (((List.range 26).map fun j:Nat=>lt ((j:Int) % 26) ++ "qzqz").map D.str)):=by
      unfold eLc
      rw [r26]
      show (lcGo _ _ _ _ _).bind _=_
      rw [l2]
      rfl
    have s2:eLc 1 (iRange (eC (.int 0)) (eC (.int 26))) (gVar 11) tTrue x_law_names_3 σ0=some (.lst (((List.range 26).map fun j:Nat=>lt ((j:Int) % 26) ++ "zqzq").map D.str)):=by
      unfold eLc
      rw [r26]
      show (lcGo _ _ _ _ _).bind _=_
      rw [l3]
      rfl
    rw [seq_nx (σ':=[some (false,c),some (false,m),some (false,sz),some (false,sp),some (false,W),some (false,own),some (true,.lst (N.map D.str)),kk,lx,some (false,.str x0),some (false,.lst (otherS.map D.str))]) (by
      rw [← hσ]
      show ((e2 fAdd _ _ σ0).bind _)=_
      unfold e2
      rw [s1]
      show (((eLc 1 (iRange (eC (.int 0)) (eC (.int 26))) (gVar 11) tTrue x_law_names_3 σ0).bind _).bind _)=_
      rw [s2,Option.bind_some,ad,Option.bind_some,hσ]
      rfl)]
    generalize otherS.map D.str=OO at *
    generalize List.map D.str (x::r)=XR at *
    simp! [l4,i0]
  · refine ⟨x0,x10,h0,hm,?_⟩
    have h1:=hin x0
    rw [decide_eq_false hm] at h1
    simp! [h1]
theorem names_F (cell:Int) {many:Int} (m0:0≤many) (m1:many≤40):∃ N:List Str,N.length=many.toNat∧Names N∧F_law_names [.int cell,.int many]=some (true,.lst (N.map D.str)):=by
  obtain ⟨a1,a2,a3⟩:=mixed_F cell 2 8 (by decide)
  obtain ⟨sz,hsz⟩:∃ z:Int,z=1+mixA cell 2 8:=⟨_,rfl⟩
  obtain ⟨b1,b2,b3⟩:=mixed_F cell 3 sz (by omega)
  generalize mixA cell 3 sz=sp at b1 b2 b3
  obtain ⟨ts,hts⟩:∃ ts:List Str,ts=(List.range 8).map fun j:Nat=>lt (mixA cell (4+(j:Int)) 26 % 26):=⟨_,rfl⟩
  obtain ⟨W,hW⟩:∃ W:Str,W=Builtin.Str.glued "" ts:=⟨_,rfl⟩
  have tl:∀ t∈ts,t.length=1∧lowB t=true:=fun t ht=>by
    rw [hts] at ht
    obtain ⟨j,_,rfl⟩:=List.mem_map.mp ht
    exact ⟨lt_len _,low_lt (by omega) (by omega)⟩
  have lenW:W.length=8:=by
    have e:W.cps.toList.length=8:=by
      rw [hW,glued_cps,hts]
      rfl
    rw [← e]
    exact Array.length_toList.symm
  have lowW:lowB W=true:=by
    unfold lowB
    rw [hW,glued_cps]
    refine List.all_eq_true.mpr fun c hc=>?_
    obtain ⟨l,hl,hc⟩:=List.mem_flatten.mp hc
    obtain ⟨t,ht,rfl⟩:=List.mem_map.mp hl
    exact List.all_eq_true.mp (tl t ht).2 c hc
  have r8:∀ σ,iRange (eC (.int 0)) (eC (.int 8)) σ=some (upTo 8):=fun σ=>range_of (n:=8) rfl (by decide)
  have l1:=lc_map (g:=gVar 11) (e:=x_law_names_1) (σ:=[some (false,.int cell),some (false,.int many),some (false,.int sz),some (false,.int sp),none,none,none,none,none,none,none,none]) (fun d=>match d with | .int j=>D.str (lt (mixA cell (4+j) 26 % 26)) | d=>d) (ds:=upTo 8) fun d hd=>by
    obtain ⟨i,hi,rfl⟩:=upTo_mem hd
    have hm:=(mixed_F cell (4+(i:Int)) 26 (by decide)).1
    have hl:=letter_F (mixA cell (4+(i:Int)) 26)
    refine ⟨_,rfl,?_⟩
    unfold x_law_names_1
    simp! [add_int,hm,hl]
  have w1:(upTo 8).map (fun d=>match d with | .int j=>D.str (lt (mixA cell (4+j) 26 % 26)) | d=>d)=ts.map D.str:=by
    rw [hts,List.map_map,List.map_map]
    rfl
  rw [w1] at l1
  have jn:=join_of (sep := "") (ts:=ts) (by rw [hts]; exact Nat.le_trans (Nat.le_of_eq (show _=8 from rfl)) (by decide))
  rw [← hW] at jn
  have rr:r_law_names_1 [some (false,.int cell),some (false,.int many),some (false,.int sz),some (false,.int sp),some (false,.str W),some (false,ownD),some (true,.lst []),none,none,none,none]=some (upTo many.toNat):=range_of (n:=many) rfl (by omega)
  have c5:=mixed_F cell 5 26 (by decide)
  have c6:=mixed_F cell 6 4 (by decide)
  have c7:=mixed_F cell 7 2 (by decide)
  generalize mixA cell 5 26=m5 at c5
  generalize mixA cell 6 4=m6 at c6
  generalize mixA cell 7 2=m7 at c7
  have l5:lt64 5=true:=by decide
  obtain ⟨spn,hsp⟩:∃ n:Nat,(n:Int)=sp:=⟨sp.toNat,by omega⟩
  obtain ⟨szn,hszn⟩:∃ n:Nat,(n:Int)=sz:=⟨sz.toNat,by omega⟩
  have h2:∀ x y:Str,(x++y).length=x.length+y.length:=len_app
  obtain ⟨σ',e3,N,x7,x8,x9,x10,hl,hN,rfl⟩:=loop_by (g:=gVar 7) (b:=l_law_names_1) (fun i σ=>∃ N x7 x8 x9 x10,N.length=i∧Names N∧σ=[some (false,.int cell),some (false,.int many),some (false,.int sz),some (false,.int sp),some (false,.str W),some (false,ownD),some (true,.lst (N.map D.str)),x7,x8,x9,x10]) (ds:=upTo many.toNat)
    (σ:=[some (false,.int cell),some (false,.int many),some (false,.int sz),some (false,.int sp),some (false,.str W),some (false,ownD),some (true,.lst []),none,none,none,none]) 0 ⟨[],none,none,none,none,rfl,⟨List.nodup_nil,fun _ h=>by cases h⟩,rfl⟩ (by
    rintro i v σ hv ⟨N,x7,x8,x9,x10,hl,hN,rfl⟩
    obtain ⟨hi,rfl⟩:=upTo_get hv
    rw [Nat.zero_add] at *
    have lf:=letter_F (m5+5*(i:Int))
    have lz:=lt_len ((m5+5*(i:Int)) % 26)
    have ll:=low_lt (k:=(m5+5*(i:Int)) % 26) (by omega) (by omega)
    generalize lt ((m5+5*(i:Int)) % 26)=L at lf lz ll
    have k1:=cut_size0 W (b:=spn) (by omega)
    have k2:=cut_size W (a:=spn+1) (b:=szn) (by omega) (by omega)
    have k3:=low_cut lowW none (some (spn:Int))
    have k4:=low_cut lowW (some ((spn+1:Nat):Int)) (some (szn:Int))
    rw [hsp] at k1 k3
    rw [show ((spn+1:Nat):Int)=sp+1 by omega,hszn] at k2 k4
    have s1:eSl (eVar 4) oNone (oSome (eVar 3)) [some (false,.int cell),some (false,.int many),some (false,.int sz),some (false,.int sp),some (false,.str W),some (false,ownD),some (true,.lst (N.map D.str)),some (false,.int (i:Int)),some (false,.str L),x9,x10]=some (.str (L2.cutS W none (some sp))):=rfl
    have s2:eSl (eVar 4) (oSome (e2 fAdd (eVar 3) (eC (.int 1)))) (oSome (eVar 2)) [some (false,.int cell),some (false,.int many),some (false,.int sz),some (false,.int sp),some (false,.str W),some (false,ownD),some (true,.lst (N.map D.str)),some (false,.int (i:Int)),some (false,.str L),x9,x10]=some (.str (L2.cutS W (some (sp+1)) (some sz))):=rfl
    generalize L2.cutS W none (some sp)=A at *
    generalize L2.cutS W (some (sp+1)) (some sz)=B at *
    have ad1:=add_str (a:=A) (b:=L) (by omega)
    have ad2:=add_str (a:=A++L) (b:=B) (by rw [h2]; omega)
    have okb:nameB (A++L++B)=true:=name_mk (by rw [h2,h2]; omega) (by rw [h2,h2]; omega) (low_app (low_app k3 ll) k4)
    unfold l_law_names_1
    have base:∃ x0:Str,nameB x0=true∧sIf (tAndF (tE (e2 fEq (eCall F_law_mixed (aCons (eVar 0) (aCons (eC (.int 6)) (aCons (eC (.int 4)) aNil)))) (eC (.int 0)))) (tE (e2 (fCmp fun i j=>decide (i<j)) (eVar 7) (eC (.int 8)))))
          (sSet 9 (e2 fIx (eLst (aCons (eSl (eVar 4) oNone (oSome (e2 fAdd (eVar 7) (eC (.int 1))))) (aCons (e2 fIx (eVar 5) (eVar 7)) aNil))) (eCall F_law_mixed (aCons (eVar 0) (aCons (eC (.int 7)) (aCons (eC (.int 2)) aNil))))))
          sNext [some (false,.int cell),some (false,.int many),some (false,.int sz),some (false,.int sp),some (false,.str W),some (false,ownD),some (true,.lst (N.map D.str)),some (false,.int (i:Int)),some (false,.str L),some (false,.str (A++L++B)),x10]=some (.nx [some (false,.int cell),some (false,.int many),some (false,.int sz),some (false,.int sp),some (false,.str W),some (false,ownD),some (true,.lst (N.map D.str)),some (false,.int (i:Int)),some (false,.str L),some (false,.str x0),x10]):=by
      have c61:=c6.1
      have c71:=c7.1
      by_cases h6:m6=0
      · have q6:=int_eq h6
        by_cases h8:i<8
        · have q8:decide ((i:Int)<8)=true:=decide_eq_true (by omega)
          obtain ⟨t,ht,et⟩:=own_at h8
          have s3:eSl (eVar 4) oNone (oSome (e2 fAdd (eVar 7) (eC (.int 1)))) [some (false,.int cell),some (false,.int many),some (false,.int sz),some (false,.int sp),some (false,.str W),some (false,ownD),some (true,.lst (N.map D.str)),some (false,.int (i:Int)),some (false,.str L),some (false,.str (A++L++B)),x10]=some (.str (L2.cutS W none (some ((i+1:Nat):Int)))):=rfl
          have kc:=cut_size0 W (b:=i+1) (by omega)
          have kl:=low_cut lowW none (some ((i+1:Nat):Int))
          generalize L2.cutS W none (some ((i+1:Nat):Int))=C at *
          generalize ownD=OD at *
          rcases (show m7=0∨m7=1 by omega) with h7 | h7
          · have i7:fIx (.lst [.str C,.str t]) (.int m7)=some (.str C):=by rw [h7]; rfl
            refine ⟨C,name_mk (by omega) (by omega) kl,?_⟩
            simp! [c61,q6,q8,s3,et,c71,i7]
          · have i7:fIx (.lst [.str C,.str t]) (.int m7)=some (.str t):=by rw [h7]; rfl
            refine ⟨t,ht,?_⟩
            simp! [c61,q6,q8,s3,et,c71,i7]
        · have q8:decide ((i:Int)<8)=false:=decide_eq_false (by omega)
          refine ⟨_,okb,?_⟩
          generalize ownD=OD at *
          simp! [c61,q6,q8]
      · have q6:=int_ne h6
        refine ⟨_,okb,?_⟩
        generalize ownD=OD at *
        simp! [c61,q6]
    obtain ⟨x0,ok0,eb⟩:=base
    obtain ⟨x,y10,okx,nx,ex⟩:=names_last (c:=.int cell) (m:=.int many) (sz:=.int sz) (sp:=.int sp) (W:=.str W) (own:=ownD) (N:=N) (by omega) (kk:=some (false,.int (i:Int))) (lx:=some (false,.str L)) (x10:=x10) ok0
    have hap:=app_ok (L:=N.map D.str) (r:=.str x) (by rw [List.length_map]; omega)
    have c51:=c5.1
    refine ⟨_,[some (false,.int cell),some (false,.int many),some (false,.int sz),some (false,.int sp),some (false,.str W),some (false,ownD),some (true,.lst ((N++[x]).map D.str)),some (false,.int (i:Int)),some (false,.str L),some (false,.str x),y10],rfl,.inl ?_,N++[x],_,_,_,_,by rw [List.length_append,hl]; rfl,⟨?_,?_⟩,rfl⟩
    · show sSeq _ _ [some (false,.int cell),some (false,.int many),some (false,.int sz),some (false,.int sp),some (false,.str W),some (false,ownD),some (true,.lst (N.map D.str)),some (false,.int (i:Int)),x8,x9,x10]=_
      rw [seq_nx (σ':=[some (false,.int cell),some (false,.int many),some (false,.int sz),some (false,.int sp),some (false,.str W),some (false,ownD),some (true,.lst (N.map D.str)),some (false,.int (i:Int)),some (false,.str L),x9,x10]) (by
        generalize ownD=OD at *
        simp! [c51,add_int,l5,lf])]
      rw [seq_nx (σ':=[some (false,.int cell),some (false,.int many),some (false,.int sz),some (false,.int sp),some (false,.str W),some (false,ownD),some (true,.lst (N.map D.str)),some (false,.int (i:Int)),some (false,.str L),some (false,.str (A++L++B)),x10]) (by
        generalize ownD=OD at *
        simp! [s1,s2,ad1,ad2])]
      rw [seq_nx eb,seq_nx ex,List.map_append]
      generalize ownD=OD at *
      simp! [hap]
    · exact List.nodup_append.mpr ⟨hN.nd,List.nodup_cons.mpr ⟨by simp,List.nodup_nil⟩,fun a ha b hb e=>by
        cases List.mem_singleton.mp hb
        exact nx (e ▸ ha)⟩
    · intro t ht
      rcases List.mem_append.mp ht with ht | ht
      · exact hN.ok t ht
      · cases List.mem_singleton.mp ht
        exact okx)
  rw [upTo_len,Nat.zero_add] at hl
  refine ⟨N,hl,hN,?_⟩
  rw [go_law_names]
  unfold b_law_names
  have a11:=a1
  simp! [a1,add_int,← hsz,b1,r8,l1,jn,rr,e3]
noncomputable def fitsA (N:List Str) (kind d:D):Prop:=(kind=.str "name" ∧ ∃ t∈N,d=.str t)∨(kind=.str "mark" ∧ ∃ k:Str,(k = "carry" ∨ k = "nought" ∨ k = "sign")∧d=.str k)∨∃ m n:Int,kind=.int m∧d=.int n∧0≤n∧n<m
noncomputable def kindA (N:List Str) (kind:D):Prop:=(kind=.str "name" ∧ N≠[])∨kind=.str "mark" ∨ ∃ m:Int,kind=.int m∧0<m
theorem part_F {N:List Str} {kind:D} (h:kindA N kind) (c k:Int):∃ d,F_law_part_by [kind,.int c,.int k,.lst (N.map D.str)]=some (false,d)∧fitsA N kind d:=by
  rcases h with ⟨rfl,hN⟩ | rfl | ⟨m,rfl,hm⟩
  · have hp:0<N.length:=List.length_pos_iff.mpr hN
    obtain ⟨a,b,b'⟩:=mixed_F c k (N.length:Int) (by omega)
    generalize mixA c k (N.length:Int)=v at *
    have hv:v.toNat<N.length:=by omega
    have e:fIx (.lst (N.map D.str)) (.int v)=some (.str N[v.toNat]):=at_nat b (by rw [List.getElem?_map,List.getElem?_eq_getElem hv]; rfl)
    have e1:fEq (.str "name") (.str "name")=some (.bl true):=by rfl
    refine ⟨_,?_,.inl ⟨rfl,N[v.toNat],List.getElem_mem hv,rfl⟩⟩
    rw [go_law_part_by]
    unfold b_law_part_by
    simp! [e1,List.length_map,a,e]
  · obtain ⟨a,b,b'⟩:=mixed_F c k 3 (by decide)
    generalize mixA c k 3=v at *
    obtain ⟨w,hw,ew⟩:∃ w:Str,(w = "carry" ∨ w = "nought" ∨ w = "sign")∧fIx (.lst [.str "carry",.str "nought",.str "sign"]) (.int v)=some (.str w):=by
      rcases (show v=0∨v=1∨v=2 by omega) with rfl | rfl | rfl
      · exact ⟨"carry",by simp,rfl⟩
      · exact ⟨"nought",by simp,rfl⟩
      · exact ⟨"sign",by simp,rfl⟩
    have e1:fEq (.str "mark") (.str "name")=some (.bl false):=by rfl
    have e2:fEq (.str "mark") (.str "mark")=some (.bl true):=by rfl
    refine ⟨_,?_,.inr (.inl ⟨rfl,w,hw,rfl⟩)⟩
    rw [go_law_part_by]
    unfold b_law_part_by
    simp! [e1,e2,a,ew]
  · obtain ⟨a,a0,a1⟩:=mixed_F c k m hm
    obtain ⟨b,b0,b1⟩:=mixed_F c (k+1) m hm
    obtain ⟨q,q0,q1⟩:=mixed_F c (k+2) 4 (by decide)
    obtain ⟨n,hn,en⟩:=pick4 (a:=0) (b:=m - 1) (c:=mixA c k m) (d:=mixA c (k+1) m) (i:=mixA c (k+2) 4) q0 q1
    have e1:fEq (.int m) (.str "name")=some (.bl false):=by rfl
    have e2:fEq (.int m) (.str "mark")=some (.bl false):=by rfl
    refine ⟨.int n,?_,.inr (.inr ⟨m,n,rfl,rfl,by omega,by omega⟩)⟩
    rw [go_law_part_by]
    unfold b_law_part_by
    simp! [e1,e2,a,add_int,b,q,en]
theorem shape_imm {w:Str} (hw:w = "set" ∨ w = "high"):F_law_shape [.str w]=some (true,.lst [.int 8,.int 65536]):=by rcases hw with rfl | rfl<;>rfl
theorem shape_mov {w:Str} (hw:w = "left" ∨ w = "right"):F_law_shape [.str w]=some (true,.lst [.int 8,.int 32]):=by rcases hw with rfl | rfl<;>rfl
theorem shape_mem {w:Str} (hw:w = "load" ∨ w = "store" ∨ w = "loadw" ∨ w = "storew"):F_law_shape [.str w]=some (true,.lst [.int 8,.int 8,.int 256]):=by rcases hw with rfl | rfl | rfl | rfl<;>rfl
theorem shape_two {w:Str} (hw:w = "copy" ∨ w = "add" ∨ w = "addc" ∨ w = "sub" ∨ w = "subc" ∨ w = "and" ∨ w = "or" ∨ w = "xor" ∨ w = "test"):F_law_shape [.str w]=some (true,.lst [.int 8,.int 8]):=by
  rcases hw with rfl | rfl | rfl | rfl | rfl | rfl | rfl | rfl | rfl<;>rfl
theorem shape_name {w:Str} (hw:w = "jump" ∨ w = "label"):F_law_shape [.str w]=some (false,.lst [.str "name"]):=by rcases hw with rfl | rfl<;>rfl
theorem shape_cond {w:Str} (hw:w = "when" ∨ w = "unless"):F_law_shape [.str w]=some (false,.lst [.str "mark",.str "name"]):=by rcases hw with rfl | rfl<;>rfl
theorem shape_stop:F_law_shape [.str "stop"]=some (false,.lst []):=by rfl
noncomputable def WordA (w:Str):Prop:=(w = "set" ∨ w = "high")∨(w = "left" ∨ w = "right")∨(w = "load" ∨ w = "store" ∨ w = "loadw" ∨ w = "storew")∨(w = "copy" ∨ w = "add" ∨ w = "addc" ∨ w = "sub" ∨ w = "subc" ∨ w = "and" ∨ w = "or" ∨ w = "xor" ∨ w = "test")∨w = "jump" ∨ (w = "when" ∨ w = "unless")∨w = "stop"
noncomputable abbrev wordsD:D:=.lst [.str "set",.str "high",.str "copy",.str "add",.str "addc",.str "sub",.str "subc",.str "and",.str "or",.str "xor",.str "test",.str "left",.str "right",.str "load",.str "store",.str "loadw",.str "storew",.str "jump",.str "when",.str "unless",.str "stop"]
theorem words_F:F_law_words []=some (false,wordsD):=by rfl
theorem words_at {v:Int} (h0:0≤v) (h1:v<21):∃ w:Str,WordA w∧fIx wordsD (.int v)=some (.str w):=by
  rcases (show v=0∨v=1∨v=2∨v=3∨v=4∨v=5∨v=6∨v=7∨v=8∨v=9∨v=10∨v=11∨v=12∨v=13∨v=14∨v=15∨v=16∨v=17∨v=18∨v=19∨v=20 by omega) with rfl | rfl | rfl | rfl | rfl | rfl | rfl | rfl | rfl | rfl | rfl | rfl | rfl | rfl | rfl | rfl | rfl | rfl | rfl | rfl | rfl<;>exact ⟨_,by unfold WordA; simp,rfl⟩
theorem row_parts {N:List Str} {w:Str} {ks:List D} {o:Bool} (hs:F_law_shape [.str w]=some (o,.lst ks)) (hk:∀ k∈ks,kindA N k) (hl:ks.length≤5) (c:Int):∃ ds:List D,Each (fitsA N) ks ds∧sSeq (sSet 3 (eCall F_law_shape (aCons (eVar 2) aNil)))
    (sRet (e2 fAdd (eTup (aCons (eVar 2) aNil)) (eL fTuple (aCons (eLc 1 r_law_row_by_1 (gVar 4) tTrue x_law_row_by_1) aNil)))) [some (false,.int c),some (false,.lst (N.map D.str)),some (false,.str w),none]=some (.rt false (.tup (.str w::ds))):=by
  have rr:r_law_row_by_1 [some (false,.int c),some (false,.lst (N.map D.str)),some (false,.str w),some (false,.lst ks)]=some (upTo ks.length):=range_of (n:=(ks.length:Int)) rfl (by omega)
  obtain ⟨ds,e1,ea⟩:=lc_ex (g:=gVar 4) (e:=x_law_row_by_1) (σ:=[some (false,.int c),some (false,.lst (N.map D.str)),some (false,.str w),some (false,.lst ks),none]) (fun d x=>∃ i:Nat,d=.int (i:Int)∧∃ k,ks[i]?=some k∧fitsA N k x) (ds:=upTo ks.length) fun d hd=>by
    obtain ⟨i,hi,rfl⟩:=upTo_mem hd
    obtain ⟨x,ex,fx⟩:=part_F (hk _ (List.getElem_mem hi)) c (2*(i:Int)+1)
    have ei:fIx (.lst ks) (.int (i:Int))=some ks[i]:=at_nat (by omega) (by rw [Int.toNat_natCast]; exact List.getElem?_eq_getElem hi)
    have l2:lt64 2=true:=by decide
    refine ⟨_,x,rfl,?_,i,rfl,_,List.getElem?_eq_getElem hi,fx⟩
    unfold x_law_row_by_1
    simp! [ei,l2,add_int,ex]
  have ld:ds.length=ks.length:=by rw [← each_len ea,upTo_len]
  refine ⟨ds,?_,?_⟩
  · refine each_of ld.symm fun i k d hk hd=>?_
    have hi:i<ks.length:=(List.getElem?_eq_some_iff.mp hk).1
    obtain ⟨y,ey,j,ej,k',ek,fk⟩:=each_get ea (i:=i) (x:=.int (i:Int)) (by simp [hi])
    rw [ey] at hd
    cases hd
    have e0:j=i:=by injection ej with z; omega
    subst e0
    rw [hk] at ek
    cases ek
    exact fk
  · have ad:fAdd (.tup [.str w]) (.tup ds)=some (.tup (.str w::ds)):=by
      show (if _∧_ then _ else _)=_
      rw [if_pos ⟨rfl,by show 1+ds.length≤16777216; omega⟩]
      rfl
    have ft:fTuple [.lst ds]=some (.tup ds):=rfl
    simp! [hs,rr,e1,ft,ad]
theorem each_nil {R:D→D→Prop} {ds:List D} (h:Each R [] ds):ds=[]:=by cases h; rfl
theorem each_cons {R:D→D→Prop} {k:D} {ks ds:List D} (h:Each R (k::ks) ds):∃ d r,ds=d::r∧R k d∧Each R ks r:=by
  cases h with
  | cons r rs=>exact ⟨_,_,rfl,r,rs⟩
theorem fits_int {N:List Str} {m:Int} {d:D} (h:fitsA N (.int m) d):∃ n:Int,d=.int n∧0≤n∧n<m:=by
  rcases h with ⟨h,_⟩ | ⟨h,_⟩ | ⟨m',n,h,e,a,b⟩
  · cases h
  · cases h
  · injection h with h
    subst h
    exact ⟨n,e,a,b⟩
theorem fits_name {N:List Str} {d:D} (h:fitsA N (.str "name") d):∃ t∈N,d=.str t:=by
  rcases h with ⟨_,h⟩ | ⟨h,_⟩ | ⟨_,_,h,_⟩
  · exact h
  · exact absurd (D.str.inj h) (by decide)
  · cases h
theorem fits_mark {N:List Str} {d:D} (h:fitsA N (.str "mark") d):∃ k:Str,(k = "carry" ∨ k = "nought" ∨ k = "sign")∧d=.str k:=by
  rcases h with ⟨h,_⟩ | ⟨_,h⟩ | ⟨_,_,h,_⟩
  · exact absurd (D.str.inj h) (by decide)
  · exact h
  · cases h
theorem row_of_parts {N:List Str} {w:Str} (hw:WordA w) (hn:N=[]→w ≠ "jump" ∧ w ≠ "when" ∧ w ≠ "unless") (c:Int):∃ r,RowA N r∧sSeq (sSet 3 (eCall F_law_shape (aCons (eVar 2) aNil)))
    (sRet (e2 fAdd (eTup (aCons (eVar 2) aNil)) (eL fTuple (aCons (eLc 1 r_law_row_by_1 (gVar 4) tTrue x_law_row_by_1) aNil)))) [some (false,.int c),some (false,.lst (N.map D.str)),some (false,.str w),none]=some (.rt false r):=by
  have ki:∀ m:Int,0<m→kindA N (.int m):=fun m h=>.inr (.inr ⟨m,rfl,h⟩)
  rcases hw with hw | hw | hw | hw | hw | hw | hw
  · obtain ⟨ds,ea,e⟩:=row_parts (N:=N) (shape_imm hw) (fun k hk=>by
      rcases List.mem_cons.mp hk with rfl | hk
      · exact ki 8 (by decide)
      · cases List.mem_singleton.mp hk; exact ki 65536 (by decide)) (by decide) c
    obtain ⟨d1,r1,rfl,f1,ea⟩:=each_cons ea
    obtain ⟨d2,r2,rfl,f2,ea⟩:=each_cons ea
    cases each_nil ea
    obtain ⟨x,rfl,x0,x1⟩:=fits_int f1
    obtain ⟨y,rfl,y0,y1⟩:=fits_int f2
    exact ⟨_,.plain (.imm hw x0 x1 y0 y1),e⟩
  · obtain ⟨ds,ea,e⟩:=row_parts (N:=N) (shape_mov hw) (fun k hk=>by
      rcases List.mem_cons.mp hk with rfl | hk
      · exact ki 8 (by decide)
      · cases List.mem_singleton.mp hk; exact ki 32 (by decide)) (by decide) c
    obtain ⟨d1,r1,rfl,f1,ea⟩:=each_cons ea
    obtain ⟨d2,r2,rfl,f2,ea⟩:=each_cons ea
    cases each_nil ea
    obtain ⟨x,rfl,x0,x1⟩:=fits_int f1
    obtain ⟨y,rfl,y0,y1⟩:=fits_int f2
    exact ⟨_,.plain (.mov hw x0 x1 y0 y1),e⟩
  · obtain ⟨ds,ea,e⟩:=row_parts (N:=N) (shape_mem hw) (fun k hk=>by
      rcases List.mem_cons.mp hk with rfl | hk
      · exact ki 8 (by decide)
      · rcases List.mem_cons.mp hk with rfl | hk
        · exact ki 8 (by decide)
        · cases List.mem_singleton.mp hk; exact ki 256 (by decide)) (by decide) c
    obtain ⟨d1,r1,rfl,f1,ea⟩:=each_cons ea
    obtain ⟨d2,r2,rfl,f2,ea⟩:=each_cons ea
    obtain ⟨d3,r3,rfl,f3,ea⟩:=each_cons ea
    cases each_nil ea
    obtain ⟨x,rfl,x0,x1⟩:=fits_int f1
    obtain ⟨y,rfl,y0,y1⟩:=fits_int f2
    obtain ⟨z,rfl,z0,z1⟩:=fits_int f3
    exact ⟨_,.plain (.mem hw x0 x1 y0 y1 z0 z1),e⟩
  · obtain ⟨ds,ea,e⟩:=row_parts (N:=N) (shape_two hw) (fun k hk=>by
      rcases List.mem_cons.mp hk with rfl | hk
      · exact ki 8 (by decide)
      · cases List.mem_singleton.mp hk; exact ki 8 (by decide)) (by decide) c
    obtain ⟨d1,r1,rfl,f1,ea⟩:=each_cons ea
    obtain ⟨d2,r2,rfl,f2,ea⟩:=each_cons ea
    cases each_nil ea
    obtain ⟨x,rfl,x0,x1⟩:=fits_int f1
    obtain ⟨y,rfl,y0,y1⟩:=fits_int f2
    exact ⟨_,.plain (.two hw x0 x1 y0 y1),e⟩
  · have nn:N≠[]:=fun z=>(hn z).1 hw
    obtain ⟨ds,ea,e⟩:=row_parts (N:=N) (shape_name (.inl hw)) (fun k hk=>by
      cases List.mem_singleton.mp hk; exact .inl ⟨rfl,nn⟩) (by decide) c
    obtain ⟨d1,r1,rfl,f1,ea⟩:=each_cons ea
    cases each_nil ea
    obtain ⟨t,ht,rfl⟩:=fits_name f1
    subst hw
    exact ⟨_,.jump ht,e⟩
  · have nn:N≠[]:=fun z=>by
      rcases hw with hw | hw
      · exact (hn z).2.1 hw
      · exact (hn z).2.2 hw
    obtain ⟨ds,ea,e⟩:=row_parts (N:=N) (shape_cond hw) (fun k hk=>by
      rcases List.mem_cons.mp hk with rfl | hk
      · exact .inr (.inl rfl)
      · cases List.mem_singleton.mp hk; exact .inl ⟨rfl,nn⟩) (by decide) c
    obtain ⟨d1,r1,rfl,f1,ea⟩:=each_cons ea
    obtain ⟨d2,r2,rfl,f2,ea⟩:=each_cons ea
    cases each_nil ea
    obtain ⟨k,hk,rfl⟩:=fits_mark f1
    obtain ⟨t,ht,rfl⟩:=fits_name f2
    exact ⟨_,.cond hw hk ht,e⟩
  · subst hw
    obtain ⟨ds,ea,e⟩:=row_parts (N:=N) shape_stop (fun k hk=>by cases hk) (by decide) c
    cases each_nil ea
    exact ⟨_,.plain .stop,e⟩
theorem row_FA (N:List Str) (c:Int):∃ r,RowA N r∧F_law_row_by [.int c,.lst (N.map D.str)]=some (false,r):=by
  obtain ⟨a,a0,a1⟩:=mixed_F c 0 21 (by decide)
  obtain ⟨w0,hw0,e0⟩:=words_at a0 a1
  obtain ⟨b,b0,b1⟩:=mixed_F c 8 4 (by decide)
  obtain ⟨q,q0,q1⟩:=mixed_F c 9 3 (by decide)
  generalize mixA c 0 21=v0 at *
  generalize mixA c 8 4=v8 at *
  generalize mixA c 9 3=v9 at *
  obtain ⟨w9,hw9,e9⟩:∃ w:Str,WordA w∧fIx (.lst [.str "jump",.str "when",.str "unless"]) (.int v9)=some (.str w):=by
    rcases (show v9=0∨v9=1∨v9=2 by omega) with rfl | rfl | rfl<;>exact ⟨_,by unfold WordA; simp,rfl⟩
  have wF:=words_F
  have step:∃ w:Str,WordA w∧∀ (rest:FS),sSeq (sSet 2 (e2 fIx (eCall F_law_words aNil) (eCall F_law_mixed (aCons (eVar 0) (aCons (eC (.int 0)) (aCons (eC (.int 21)) aNil))))))
    (sSeq (sIf (tE (e2 fEq (eCall F_law_mixed (aCons (eVar 0) (aCons (eC (.int 8)) (aCons (eC (.int 4)) aNil)))) (eC (.int 1))))
      (sSet 2 (e2 fIx (eLst (aCons (eC (.str "jump")) (aCons (eC (.str "when")) (aCons (eC (.str "unless")) aNil)))) (eCall F_law_mixed (aCons (eVar 0) (aCons (eC (.int 9)) (aCons (eC (.int 3)) aNil))))))
      sNext) rest) [some (false,.int c),some (false,.lst (N.map D.str)),none,none]=rest [some (false,.int c),some (false,.lst (N.map D.str)),some (false,.str w),none]:=by
    by_cases h8:v8=1
    · refine ⟨w9,hw9,fun rest=>?_⟩
      have k8:=int_eq h8
      rw [seq_nx (σ':=[some (false,.int c),some (false,.lst (N.map D.str)),some (false,.str w0),none]) (by
        generalize wordsD=WD at *
        simp! [wF,a,e0])]
      rw [seq_nx (σ':=[some (false,.int c),some (false,.lst (N.map D.str)),some (false,.str w9),none]) (by simp! [b,k8,q,e9])]
    · refine ⟨w0,hw0,fun rest=>?_⟩
      have k8:=int_ne h8
      rw [seq_nx (σ':=[some (false,.int c),some (false,.lst (N.map D.str)),some (false,.str w0),none]) (by
        generalize wordsD=WD at *
        simp! [wF,a,e0])]
      rw [seq_nx (σ':=[some (false,.int c),some (false,.lst (N.map D.str)),some (false,.str w0),none]) (by simp! [b,k8])]
  obtain ⟨w,hw,es⟩:=step
  obtain ⟨kj,ej⟩:∃ k:Bool,fIn (.str w) (.lst [.str "jump",.str "when",.str "unless"])=some (.bl k)∧(k=false→w ≠ "jump" ∧ w ≠ "when" ∧ w ≠ "unless"):=by
    rcases hw with hw | hw | hw | hw | hw | hw | hw
    · rcases hw with rfl | rfl<;>exact ⟨false,rfl,fun _=>by decide⟩
    · rcases hw with rfl | rfl<;>exact ⟨false,rfl,fun _=>by decide⟩
    · rcases hw with rfl | rfl | rfl | rfl<;>exact ⟨false,rfl,fun _=>by decide⟩
    · rcases hw with rfl | rfl | rfl | rfl | rfl | rfl | rfl | rfl | rfl<;>exact ⟨false,rfl,fun _=>by decide⟩
    · subst hw; exact ⟨true,rfl,fun z=>by cases z⟩
    · rcases hw with rfl | rfl<;>exact ⟨true,rfl,fun z=>by cases z⟩
    · subst hw; exact ⟨false,rfl,fun _=>by decide⟩
  have fin:∃ w':Str,WordA w'∧(N=[]→w' ≠ "jump" ∧ w' ≠ "when" ∧ w' ≠ "unless")∧sIf (tAndF (tE (e2 fIn (eVar 2) (eLst (aCons (eC (.str "jump")) (aCons (eC (.str "when")) (aCons (eC (.str "unless")) aNil)))))) (tE (e2 fEq (eL fLen (aCons (eVar 1) aNil)) (eC (.int 0)))))
      (sSet 2 (eC (.str "stop")))
      sNext [some (false,.int c),some (false,.lst (N.map D.str)),some (false,.str w),none]=some (.nx [some (false,.int c),some (false,.lst (N.map D.str)),some (false,.str w'),none]):=by
    obtain ⟨ej,hj⟩:=ej
    cases kj with
    | false=>
      refine ⟨w,hw,fun _=>hj rfl,?_⟩
      simp! [ej]
    | true=>
      by_cases hN:N=[]
      · subst hN
        refine ⟨"stop",by unfold WordA; simp,fun _=>by decide,?_⟩
        have k0:fEq (.int (0:Nat)) (.int 0)=some (.bl true):=by rfl
        simp! [ej]
        rfl
      · have hp:0<N.length:=List.length_pos_iff.mpr hN
        have k0:fEq (.int (N.length:Int)) (.int 0)=some (.bl false):=int_ne (by omega)
        refine ⟨w,hw,fun z=>absurd z hN,?_⟩
        simp! [ej,List.length_map,k0]
  obtain ⟨w',hw',hn,ef⟩:=fin
  obtain ⟨r,hr,er⟩:=row_of_parts (N:=N) hw' hn c
  refine ⟨r,hr,?_⟩
  rw [go_law_row_by]
  unfold b_law_row_by
  show ((sSeq _ _ [some (false,.int c),some (false,.lst (N.map D.str)),none,none]).bind _)=_
  rw [es,seq_nx ef,er]
  rfl
end L3
namespace L3
open PySem
noncomputable def r_law_program_1:FA:=(iRange (eC (.int 0)) (e2 fAdd (eC (.int 40)) (e2 fMod (e2 fDiv (eVar 2) (eC (.int 12))) (eC (.int 160)))))
noncomputable def x_law_program_1:FE:=(e2 fAdd (e2 fDiv (eVar 2) (eC (.int 12))) (e2 fMulL (eC (.int 17)) (eVar 8)))
noncomputable def x_law_program_2:FE:=(eCall F_law_row_by (aCons (eVar 8) (aCons (eVar 6) aNil)))
noncomputable def r_law_program_2:FA:=(iRange (eC (.int 0)) (eL fLen (aCons (eVar 6) aNil)))
noncomputable def l_law_program_1:FS:=(sIns 7 (eCall F_law_mixed (aCons (e2 fAdd (eVar 2) (e2 fDiv (eVar 4) (eC (.int 5)))) (aCons (eVar 4) (aCons (e2 fAdd (eL fLen (aCons (eAny 7) aNil)) (eC (.int 1))) aNil)))) (eTup (aCons (eC (.str "label")) (aCons (e2 fIx (eVar 6) (eVar 4)) aNil))))
noncomputable def b_law_program:FS:=
  (sSeq (sSet 2 (eCall F_law_cell_at (aCons (eVar 0) (aCons (eVar 1) aNil))))
    (sSeq (sSet 3 (eSl (eVar 0) (oSome (e2 fAdd (eVar 1) (eC (.int 1)))) (oSome (e2 fAdd (eVar 1) (eC (.int 31))))))
    (sSeq (sIf (tE (e2 fEq (e2 fMod (eVar 2) (eC (.int 12))) (eC (.int 5))))
      (sSet 3 (eLc 1 r_law_program_1 (gVar 8) tTrue x_law_program_1))
      sNext)
    (sSeq (sSet 5 (e2 fIx (eLst (fun _=>some (List.map D.int [0,1,2,3,4,6,8,20]))) (eCall F_law_mixed (aCons (eVar 2) (aCons (eC (.int 1)) (aCons (eC (.int 8)) aNil))))))
    (sSeq (sIf (tE (e2 fEq (e2 fMod (eVar 2) (eC (.int 24))) (eC (.int 5))))
      (sSet 5 (eC (.int 40)))
      sNext)
    (sSeq (sSet 6 (eCall F_law_names (aCons (e2 fDiv (eVar 2) (eC (.int 3))) (aCons (eVar 5) aNil))))
    (sSeq (sSetO 7 (eLc 1 (iSeq (eVar 3)) (gVar 8) tTrue x_law_program_2))
    (sSeq (sFor r_law_program_2 (gVar 4)
      l_law_program_1)
    (sRetV 7)))))))))
noncomputable def F_law_program:List D→Option (Bool×D):=FR 2 8 b_law_program
theorem run_law_program:∀ ds r,F_law_program ds=some r→ds.length=2∧runF 8 b_law_program ds=some r:=FR_ok
theorem go_law_program (x0 x1:D):F_law_program [x0,x1]=runF 8 b_law_program [x0,x1]:=rfl
theorem fil_insP (p:D→Bool) (xs:List D) (n:Nat) (y:D) (h:p y=true):((xs.take n++[y]++xs.drop n).filter p).Perm (xs.filter p++[y]):=by
  have e:xs.filter p=(xs.take n).filter p++(xs.drop n).filter p:=by rw [← List.filter_append,List.take_append_drop]
  rw [List.filter_append,List.filter_append,List.filter_cons_of_pos h,e,List.filter_nil,List.append_assoc,List.append_assoc]
  exact List.Perm.append_left _ List.perm_append_comm
structure Prog (N:List Str) (items:List D):Prop where
  nm:Names N
  it:∀ d∈items,ItemA N d
  lb:(items.filter isL).Perm (N.map labelD)
  ln:items.length≤300
  nl:N.length≤40
theorem program_F (ns:List Int) (hl:ns.length≤63) {first:Int} (f0:0≤first):∃ N items,Prog N items∧F_law_program [.lst (ns.map D.int),.int first]=some (true,.lst items):=by
  have hc:=cell_ints ns (k:=first) f0
  generalize cellAt ns first=far at hc
  have b1:=mixed_F far 1 8 (by decide)
  obtain ⟨mn,mn0,mn1,emn⟩:∃ m:Int,0≤m∧m≤40∧fIx (.lst (List.map D.int [0,1,2,3,4,6,8,20])) (.int (mixA far 1 8))=some (.int m):=by
    obtain ⟨_,h0,h1⟩:=b1
    generalize mixA far 1 8=v at *
    rcases (show v=0∨v=1∨v=2∨v=3∨v=4∨v=5∨v=6∨v=7 by omega) with rfl | rfl | rfl | rfl | rfl | rfl | rfl | rfl<;>exact ⟨_,by decide,by decide,rfl⟩
  have b1:=b1.1
  obtain ⟨s,hs⟩:∃ s:D,s=.lst (ns.map D.int):=⟨_,rfl⟩
  have cells:∃ cs:List Int,cs.length≤200∧∀ rest:FS,sSeq (sSet 3 (eSl (eVar 0) (oSome (e2 fAdd (eVar 1) (eC (.int 1)))) (oSome (e2 fAdd (eVar 1) (eC (.int 31))))))
    (sSeq (sIf (tE (e2 fEq (e2 fMod (eVar 2) (eC (.int 12))) (eC (.int 5))))
      (sSet 3 (eLc 1 r_law_program_1 (gVar 8) tTrue x_law_program_1))
      sNext) rest) [some (false,s),some (false,.int first),some (false,.int far),none,none,none,none,none]=rest [some (false,s),some (false,.int first),some (false,.int far),some (false,.lst (cs.map D.int)),none,none,none,none]:=by
    have sl:eSl (eVar 0) (oSome (e2 fAdd (eVar 1) (eC (.int 1)))) (oSome (e2 fAdd (eVar 1) (eC (.int 31)))) [some (false,s),some (false,.int first),some (false,.int far),none,none,none,none,none]=some (.lst ((cutD ns (some (first+1)) (some (first+31))).map D.int)):=by
      rw [hs]
      show some (D.lst (cutD (ns.map D.int) (some (first+1)) (some (first+31))))=_
      unfold cutD
      rw [List.length_map,List.map_take,List.map_drop]
    have cl:(cutD ns (some (first+1)) (some (first+31))).length≤63:=by
      unfold cutD
      rw [List.length_take,List.length_drop]
      omega
    by_cases h5:far % 12=5
    · have k5:=int_eq h5
      have rr:r_law_program_1 [some (false,s),some (false,.int first),some (false,.int far),some (false,.lst ((cutD ns (some (first+1)) (some (first+31))).map D.int)),none,none,none,none]=some (upTo (40+far / 12 % 160).toNat):=range_of (n:=40+far / 12 % 160) rfl (by omega)
      have l17:lt64 17=true:=by decide
      have l1:=lc_map (g:=gVar 8) (e:=x_law_program_1) (σ:=[some (false,s),some (false,.int first),some (false,.int far),some (false,.lst ((cutD ns (some (first+1)) (some (first+31))).map D.int)),none,none,none,none,none]) (fun d=>match d with | .int j=>D.int (far / 12+17*j) | d=>d) (ds:=upTo (40+far / 12 % 160).toNat) fun d hd=>by
        obtain ⟨i,hi,rfl⟩:=upTo_mem hd
        refine ⟨_,rfl,?_⟩
        unfold x_law_program_1
        simp! [l17,add_int]
      have w1:(upTo (40+far / 12 % 160).toNat).map (fun d=>match d with | .int j=>D.int (far / 12+17*j) | d=>d)=((List.range (40+far / 12 % 160).toNat).map fun j:Nat=>far / 12+17*(j:Int)).map D.int:=by
        rw [List.map_map,List.map_map]
        rfl
      rw [w1] at l1
      refine ⟨(List.range (40+far / 12 % 160).toNat).map fun j:Nat=>far / 12+17*(j:Int),?_,fun rest=>?_⟩
      rotate_left
      · rw [seq_nx (σ':=[some (false,s),some (false,.int first),some (false,.int far),some (false,.lst ((cutD ns (some (first+1)) (some (first+31))).map D.int)),none,none,none,none]) (by
          generalize (cutD ns (some (first+1)) (some (first+31))).map D.int=CC at *
          simp! [sl])]
        rw [seq_nx (σ':=[some (false,s),some (false,.int first),some (false,.int far),some (false,.lst (((List.range (40+far / 12 % 160).toNat).map fun j:Nat=>far / 12+17*(j:Int)).map D.int)),none,none,none,none]) (by
          generalize (cutD ns (some (first+1)) (some (first+31))).map D.int=CC at *
          generalize List.map D.int (List.map (fun j:Nat=>far / 12+17*(j:Int)) (List.range (40+far / 12 % 160).toNat))=LL at *
          simp! [k5,rr,l1])]
      · rw [List.length_map,List.length_range]
        omega
    · have k5:=int_ne h5
      refine ⟨cutD ns (some (first+1)) (some (first+31)),by omega,fun rest=>?_⟩
      · rw [seq_nx (σ':=[some (false,s),some (false,.int first),some (false,.int far),some (false,.lst ((cutD ns (some (first+1)) (some (first+31))).map D.int)),none,none,none,none]) (by
          generalize (cutD ns (some (first+1)) (some (first+31))).map D.int=CC at *
          simp! [sl])]
        rw [seq_nx (σ':=[some (false,s),some (false,.int first),some (false,.int far),some (false,.lst ((cutD ns (some (first+1)) (some (first+31))).map D.int)),none,none,none,none]) (by
          generalize (cutD ns (some (first+1)) (some (first+31))).map D.int=CC at *
          simp! [k5])]
  obtain ⟨cs,lcs,ecs⟩:=cells
  have many:∃ m:Int,0≤m∧m≤40∧∀ (CC:D) (rest:FS),sSeq (sSet 5 (e2 fIx (eLst (fun _=>some (List.map D.int [0,1,2,3,4,6,8,20]))) (eCall F_law_mixed (aCons (eVar 2) (aCons (eC (.int 1)) (aCons (eC (.int 8)) aNil))))))
    (sSeq (sIf (tE (e2 fEq (e2 fMod (eVar 2) (eC (.int 24))) (eC (.int 5))))
      (sSet 5 (eC (.int 40)))
      sNext) rest) [some (false,s),some (false,.int first),some (false,.int far),some (false,CC),none,none,none,none]=rest [some (false,s),some (false,.int first),some (false,.int far),some (false,CC),none,some (false,.int m),none,none]:=by
    by_cases h5:far % 24=5
    · have k5:=int_eq h5
      refine ⟨40,by decide,by decide,fun CC rest=>?_⟩
      rw [seq_nx (σ':=[some (false,s),some (false,.int first),some (false,.int far),some (false,CC),none,some (false,.int mn),none,none]) (by
        generalize List.map D.int [0,1,2,3,4,6,8,20]=PS at *
        simp! [b1,emn])]
      rw [seq_nx (σ':=[some (false,s),some (false,.int first),some (false,.int far),some (false,CC),none,some (false,.int 40),none,none]) (by simp! [k5])]
    · have k5:=int_ne h5
      refine ⟨mn,mn0,mn1,fun CC rest=>?_⟩
      rw [seq_nx (σ':=[some (false,s),some (false,.int first),some (false,.int far),some (false,CC),none,some (false,.int mn),none,none]) (by
        generalize List.map D.int [0,1,2,3,4,6,8,20]=PS at *
        simp! [b1,emn])]
      rw [seq_nx (σ':=[some (false,s),some (false,.int first),some (false,.int far),some (false,CC),none,some (false,.int mn),none,none]) (by simp! [k5])]
  obtain ⟨m,m0,m1,em⟩:=many
  obtain ⟨N,nl,hN,en⟩:=names_F (far / 3) m0 m1
  obtain ⟨I0,e1,ea⟩:=lc_ex (g:=gVar 8) (e:=x_law_program_2) (σ:=[some (false,s),some (false,.int first),some (false,.int far),some (false,.lst (cs.map D.int)),none,some (false,.int m),some (false,.lst (N.map D.str)),none,none]) (fun _ y=>RowA N y) (ds:=cs.map D.int) fun d hd=>by
    obtain ⟨c,_,rfl⟩:=List.mem_map.mp hd
    obtain ⟨r,hr,er⟩:=row_FA N c
    exact ⟨_,r,rfl,by unfold x_law_program_2; simp! [er],hr⟩
  have li:I0.length=cs.length:=by rw [← each_len ea,List.length_map]
  have p0:∀ b∈I0,RowA N b:=fun b hb=>by
    obtain ⟨_,_,h⟩:=each_mem ea b hb
    exact h
  have rr:r_law_program_2 [some (false,s),some (false,.int first),some (false,.int far),some (false,.lst (cs.map D.int)),none,some (false,.int m),some (false,.lst (N.map D.str)),some (true,.lst I0)]=some (upTo N.length):=by
    have:=range_of (f:=eL fLen (aCons (eVar 6) aNil)) (τ:=[some (false,s),some (false,.int first),some (false,.int far),some (false,.lst (cs.map D.int)),none,some (false,.int m),some (false,.lst (N.map D.str)),some (true,.lst I0)]) (n:=((N.map D.str).length:Int)) rfl (by rw [List.length_map]; omega)
    rw [List.length_map,Int.toNat_natCast] at this
    exact this
  obtain ⟨σ',e3,J,x4,jl,jI,jP,rfl⟩:=loop_by (g:=gVar 4) (b:=l_law_program_1) (fun i σ=>∃ J x4,J.length=cs.length+i∧(∀ d∈J,ItemA N d)∧(J.filter isL).Perm ((N.take i).map labelD)∧σ=[some (false,s),some (false,.int first),some (false,.int far),some (false,.lst (cs.map D.int)),x4,some (false,.int m),some (false,.lst (N.map D.str)),some (true,.lst J)]) (ds:=upTo N.length)
    (σ:=[some (false,s),some (false,.int first),some (false,.int far),some (false,.lst (cs.map D.int)),none,some (false,.int m),some (false,.lst (N.map D.str)),some (true,.lst I0)]) 0 ⟨I0,none,li,(fun d hd=>.inl (p0 d hd)),by
      rw [List.filter_eq_nil_iff.mpr fun b hb=>by rw [(rowA_item (p0 b hb)).2]; decide]
      exact List.Perm.refl _,rfl⟩ (by
    rintro i v σ hv ⟨J,x4,jl,jI,jP,rfl⟩
    obtain ⟨hi,rfl⟩:=upTo_get hv
    rw [Nat.zero_add] at *
    obtain ⟨a,a0,a1⟩:=mixed_F (far+(i:Int) / 5) (i:Int) ((J.length:Int)+1) (by omega)
    generalize mixA (far+(i:Int) / 5) (i:Int) ((J.length:Int)+1)=v at *
    have ix:fIx (.lst (N.map D.str)) (.int (i:Int))=some (.str N[i]):=at_nat (by omega) (by rw [Int.toNat_natCast,List.getElem?_map,List.getElem?_eq_getElem hi]; rfl)
    have cc:0≤v∧v<4611686018427387904∧J.length<LIM:=⟨a0,by omega,by show _<16777216; omega⟩
    refine ⟨_,[some (false,s),some (false,.int first),some (false,.int far),some (false,.lst (cs.map D.int)),some (false,.int (i:Int)),some (false,.int m),some (false,.lst (N.map D.str)),some (true,.lst (insD J v (labelD N[i])))],rfl,.inl ?_,_,_,?_,?_,?_,rfl⟩
    · unfold l_law_program_1 labelD
      generalize N.map D.str=NN at *
      simp! [sIns,add_int,a,ix]
      exact if_pos cc
    · unfold insD
      rw [List.length_append,List.length_append,List.length_take,List.length_drop,List.length_singleton]
      omega
    · intro b hb
      unfold insD at hb
      rcases List.mem_append.mp hb with hb | hb
      · rcases List.mem_append.mp hb with hb | hb
        · exact jI b (List.mem_of_mem_take hb)
        · cases List.mem_singleton.mp hb
          exact .inr ⟨_,List.getElem_mem hi,rfl⟩
      · exact jI b (List.mem_of_mem_drop hb)
    · unfold insD
      refine (fil_insP isL J v.toNat _ rfl).trans ?_
      rw [List.take_succ_eq_append_getElem hi,List.map_append]
      exact jP.append_right _)
  rw [upTo_len,Nat.zero_add] at jl jP
  rw [List.take_length] at jP
  refine ⟨N,J,⟨hN,jI,jP,by omega,by omega⟩,?_⟩
  rw [← hs] at hc ⊢
  rw [go_law_program]
  unfold b_law_program
  show ((sSeq _ _ [some (false,s),some (false,.int first),none,none,none,none,none,none]).bind _)=_
  rw [seq_nx (σ':=[some (false,s),some (false,.int first),some (false,.int far),none,none,none,none,none]) (by simp! [hc]),ecs,em]
  rw [seq_nx (σ':=[some (false,s),some (false,.int first),some (false,.int far),some (false,.lst (cs.map D.int)),none,some (false,.int m),some (false,.lst (N.map D.str)),none]) (by
    generalize cs.map D.int=CC at *
    generalize N.map D.str=NN at *
    simp! [en])]
  rw [seq_nx (σ':=[some (false,s),some (false,.int first),some (false,.int far),some (false,.lst (cs.map D.int)),none,some (false,.int m),some (false,.lst (N.map D.str)),some (true,.lst I0)]) (by
    generalize cs.map D.int=CC at *
    generalize N.map D.str=NN at *
    simp! [e1])]
  generalize cs.map D.int=CC at *
  generalize N.map D.str=NN at *
  simp! [rr,e3]
end L3
namespace L3
open PySem
noncomputable def b_is_label:FS:=
  (sRet (e2 fEq (e2 fIx (eVar 0) (eC (.int 0))) (eC (.str "label"))))
noncomputable def F_is_label:List D→Option (Bool×D):=FR 1 1 b_is_label
theorem run_is_label:∀ ds r,F_is_label ds=some r→ds.length=1∧runF 1 b_is_label ds=some r:=FR_ok
theorem go_is_label (x0:D):F_is_label [x0]=runF 1 b_is_label [x0]:=rfl
theorem isl_F {d:D} (h:Item d):F_is_label [d]=some (false,.bl (isL d)):=by
  obtain ⟨w,a,b,_⟩:=item_fx h
  rw [go_is_label]
  unfold b_is_label
  simp! [a,b]
end L3
namespace L3
open PySem
noncomputable def leafD:D→Bool
  | .int _=>true
  | .str _=>true
  | _=>false
noncomputable def rowD:D→Bool
  | .tup xs=>xs.all leafD
  | _=>false
theorem item_row {d:D} (h:Item d):rowD d=true:=by
  cases h with
  | label u=>rfl
  | plain h=>cases h<;>rfl
  | jump u=>rfl
  | cond u hw hk=>rfl
end L3
namespace L3
open PySem
noncomputable def b_law_whole:FS:=
  (sRet (eAnd (eIsi .int (eVar 0)) (eNot (eIsi .bool (eVar 0)))))
noncomputable def F_law_whole:List D→Option (Bool×D):=FR 1 1 b_law_whole
theorem run_law_whole:∀ ds r,F_law_whole ds=some r→ds.length=1∧runF 1 b_law_whole ds=some r:=FR_ok
theorem go_law_whole (x0:D):F_law_whole [x0]=runF 1 b_law_whole [x0]:=rfl
noncomputable def r_law_alike_1 (F_law_alike:List D→Option (Bool×D)):FA:=(iRange (eC (.int 0)) (eL fLen (aCons (eVar 1) aNil)))
noncomputable def x_law_alike_1 (F_law_alike:List D→Option (Bool×D)):FE:=(eCall F_law_alike (aCons (e2 fIx (eVar 0) (eVar 2)) (aCons (e2 fIx (eVar 1) (eVar 2)) aNil)))
noncomputable def b_law_alike (F_law_alike:List D→Option (Bool×D)):FS:=
  (sSeq (sIf (tE (eIsi2 .tuple .list (eVar 1)))
      (sSeq (sIf (tOrF (tNotF (tE (eIsi2 .tuple .list (eVar 0)))) (tE (e2 fNe (eIsi .tuple (eVar 0)) (eIsi .tuple (eVar 1)))))
          (sRet (eC (.bl false)))
          sNext)
        (sRet (eAnd (e2 fEq (eL fLen (aCons (eVar 0) aNil)) (eL fLen (aCons (eVar 1) aNil))) (eL fAll (aCons (eLc 1 (r_law_alike_1 F_law_alike) (gVar 2) tTrue (x_law_alike_1 F_law_alike)) aNil)))))
      sNext)
    (sSeq (sIf (tE (eIsi .str (eVar 1)))
      (sRet (eAnd (eIsi .str (eVar 0)) (e2 fEq (eVar 0) (eVar 1))))
      sNext)
    (sRet (eAnd (eCall F_law_whole (aCons (eVar 0) aNil)) (e2 fEq (eVar 0) (eVar 1))))))
noncomputable def R_law_alike:Nat→List D→Option (Bool×D)
  | 0=>fun _=>none
  | k+1=>FR 2 2 (b_law_alike (R_law_alike k))
noncomputable def F_law_alike:List D→Option (Bool×D):=R_law_alike 3
theorem go_law_alike (k:Nat) (x0 x1:D):R_law_alike (k+1) [x0,x1]=runF 2 (b_law_alike (R_law_alike k)) [x0,x1]:=rfl
theorem alike_leaf {x:D} (h:leafD x=true) (n:Nat):R_law_alike (n+1) [x,x]=some (false,.bl true):=by
  cases x<;>first | (cases h; done) | skip
  · rename_i i
    have q:=int_eq (i:=i) rfl
    have w:F_law_whole [.int i]=some (false,.bl true):=by
      rw [go_law_whole]
      unfold b_law_whole
      simp! []
    rw [go_law_alike]
    unfold b_law_alike
    simp! [eIsi2,isTy,Bool.or_false,w,q]
  · rename_i t
    have q:fEq (.str t) (.str t)=some (.bl true):=by
      show some (D.bl (t == t))=_
      rw [beq_self_eq_true]
    rw [go_law_alike]
    unfold b_law_alike
    simp! [eIsi2,isTy,Bool.or_false,q]
theorem alike_seq {xs:List D} (n:Nat) (hl:xs.length≤10000) (ih:∀ x∈xs,R_law_alike n [x,x]=some (false,.bl true)):R_law_alike (n+1) [.tup xs,.tup xs]=some (false,.bl true)∧R_law_alike (n+1) [.lst xs,.lst xs]=some (false,.bl true):=by
  have q:=int_eq (i:=(xs.length:Int)) rfl
  have ay:fAll [.lst ((upTo xs.length).map fun _=>D.bl true)]=some (.bl true):=by
    show (boolsOf _).bind _=_
    have:∀ l:List D,boolsOf (l.map fun _=>D.bl true)=some (l.map fun _=>true):=fun l=>by
      induction l with
      | nil=>rfl
      | cons a l ih=>
        show (boolsOf (l.map fun _=>D.bl true)).bind _=_
        rw [ih]
        rfl
    rw [this]
    show some (D.bl _)=_
    congr 2
    refine List.all_eq_true.mpr fun b hb=>?_
    obtain ⟨_,_,rfl⟩:=List.mem_map.mp hb
    rfl
  have nb:∀ b:Bool,fNe (.bl b) (.bl b)=some (.bl false):=fun b=>by cases b<;>rfl
  refine ⟨?_,?_⟩
  · have r1:r_law_alike_1 (R_law_alike n) [some (false,.tup xs),some (false,.tup xs)]=some (upTo xs.length):=range_of (n:=(xs.length:Int)) rfl (by omega)
    have e1:=lc_map (g:=gVar 2) (e:=x_law_alike_1 (R_law_alike n)) (σ:=[some (false,.tup xs),some (false,.tup xs),none]) (fun _=>D.bl true) (ds:=upTo xs.length) fun d hd=>by
      obtain ⟨i,hi,rfl⟩:=upTo_mem hd
      have ix:fIx (.tup xs) (.int (i:Int))=some xs[i]:=at_nat (by omega) (by rw [Int.toNat_natCast]; exact List.getElem?_eq_getElem hi)
      have a:=ih _ (List.getElem_mem hi)
      generalize xs[i]=x at *
      refine ⟨_,rfl,?_⟩
      unfold x_law_alike_1
      simp! [ix,a]
    rw [go_law_alike]
    unfold b_law_alike
    generalize (upTo xs.length).map (fun _=>D.bl true)=AA at *
    generalize upTo xs.length=UU at *
    simp! [eIsi2,isTy,Bool.or_false,Bool.true_or,nb,q,r1,e1,ay]
  · have r1:r_law_alike_1 (R_law_alike n) [some (false,.lst xs),some (false,.lst xs)]=some (upTo xs.length):=range_of (n:=(xs.length:Int)) rfl (by omega)
    have e1:=lc_map (g:=gVar 2) (e:=x_law_alike_1 (R_law_alike n)) (σ:=[some (false,.lst xs),some (false,.lst xs),none]) (fun _=>D.bl true) (ds:=upTo xs.length) fun d hd=>by
      obtain ⟨i,hi,rfl⟩:=upTo_mem hd
      have ix:fIx (.lst xs) (.int (i:Int))=some xs[i]:=at_nat (by omega) (by rw [Int.toNat_natCast]; exact List.getElem?_eq_getElem hi)
      have a:=ih _ (List.getElem_mem hi)
      generalize xs[i]=x at *
      refine ⟨_,rfl,?_⟩
      unfold x_law_alike_1
      simp! [ix,a]
    rw [go_law_alike]
    unfold b_law_alike
    generalize (upTo xs.length).map (fun _=>D.bl true)=AA at *
    generalize upTo xs.length=UU at *
    simp! [eIsi2,isTy,Bool.or_true,Bool.false_or,nb,q,r1,e1,ay]
theorem alike_F {L:List D} (hl:L.length≤1000) (h:∀ d∈L,Item d):F_law_alike [.lst L,.lst L]=some (false,.bl true):=(alike_seq 2 (by omega) fun x hx=>by
  have hr:=item_row (h x hx)
  have hn:∃ xs,x=.tup xs∧xs.length≤10000∧∀ y∈xs,leafD y=true:=by
    cases x<;>first | (cases hr; done) | skip
    rename_i xs
    refine ⟨xs,rfl,?_,List.all_eq_true.mp hr⟩
    have:=h _ hx
    cases this with
    | plain h=>cases h<;>simp
    | jump u=>show 2≤10000; decide
    | cond u hw hk=>show 3≤10000; decide
    | label u=>show 2≤10000; decide
  obtain ⟨xs,rfl,l,hx⟩:=hn
  exact (alike_seq 1 l fun y hy=>alike_leaf (hx y hy) 0).1).2
end L3
namespace L3
open PySem
noncomputable def b_is_number:FS:=
  (sSeq (sIf (tOrF (tE (eIsi .bool (eVar 0))) (tNotF (tE (eIsi .int (eVar 0)))))
      (sRet (eC (.bl false)))
      sNext)
    (sRet (eAnd (e2 (fCmp fun i j=>decide (i≤j)) (eC (.int 0)) (eVar 0)) (e2 (fCmp fun i j=>decide (i<j)) (eVar 0) (e2 fShl (eC (.int 1)) (eVar 1))))))
noncomputable def F_is_number:List D→Option (Bool×D):=FR 2 2 b_is_number
theorem run_is_number:∀ ds r,F_is_number ds=some r→ds.length=2∧runF 2 b_is_number ds=some r:=FR_ok
theorem go_is_number (x0 x1:D):F_is_number [x0,x1]=runF 2 b_is_number [x0,x1]:=rfl
noncomputable def x_is_name_1:FE:=(e2 fIn (eVar 1) (eC (.str "abcdefghijklmnopqrstuvwxyz")))
noncomputable def b_is_name:FS:=
  (sSeq (sIf (tNotF (tE (eIsi .str (eVar 0))))
      (sRet (eC (.bl false)))
      sNext)
    (sSeq (sIf (tOrF (tE (e2 (fCmp fun i j=>decide (i<j)) (eL fLen (aCons (eVar 0) aNil)) (eC (.int 1)))) (tE (e2 (fCmp fun i j=>decide (j<i)) (eL fLen (aCons (eVar 0) aNil)) (eC (.int 8)))))
      (sRet (eC (.bl false)))
      sNext)
    (sRet (eL fAll (aCons (eLc 1 (iSeq (eVar 0)) (gVar 1) tTrue x_is_name_1) aNil)))))
noncomputable def F_is_name:List D→Option (Bool×D):=FR 1 1 b_is_name
theorem run_is_name:∀ ds r,F_is_name ds=some r→ds.length=1∧runF 1 b_is_name ds=some r:=FR_ok
theorem go_is_name (x0:D):F_is_name [x0]=runF 1 b_is_name [x0]:=rfl
noncomputable def b_fits:FS:=
  (sSeq (sIf (tE (e2 fEq (eVar 1) (eC (.str "name"))))
      (sRet (eCall F_is_name (aCons (eVar 2) aNil)))
      sNext)
    (sSeq (sIf (tE (e2 fEq (eVar 1) (eC (.str "mark"))))
      (sRet (e2 fInX (eVar 2) (eC gt_MARKS)))
      sNext)
    (sSeq (sSet 3 (eIf (tE (e2 fEq (eVar 1) (eC (.str "n")))) (e1 (fGd gk_NUMBER_WIDTHS gv_NUMBER_WIDTHS) (eVar 0)) (e2 fIx (e1 (fGd gk_PLACES gv_PLACES) (eVar 1)) (eC (.int 1)))))
    (sRet (eCall F_is_number (aCons (eVar 2) (aCons (eVar 3) aNil)))))))
noncomputable def F_fits:List D→Option (Bool×D):=FR 3 4 b_fits
theorem run_fits:∀ ds r,F_fits ds=some r→ds.length=3∧runF 4 b_fits ds=some r:=FR_ok
theorem go_fits (x0 x1 x2:D):F_fits [x0,x1,x2]=runF 4 b_fits [x0,x1,x2]:=rfl
noncomputable def x_is_item_1:FE:=(eCall F_fits (aCons (eVar 1) (aCons (eVar 3) (aCons (eVar 4) aNil))))
noncomputable def b_is_item:FS:=
  (sSeq (sIf (tOrF (tNotF (tE (eIsi .tuple (eVar 0)))) (tE (e2 fEq (eL fLen (aCons (eVar 0) aNil)) (eC (.int 0)))))
      (sRet (eC (.bl false)))
      sNext)
    (sSeq (sSet 1 (e2 fIx (eVar 0) (eC (.int 0))))
    (sSeq (sIf (tOrF (tNotF (tE (eIsi .str (eVar 1)))) (tE (e1 (fGnin gk_FIELDS) (eVar 1))))
      (sRet (eC (.bl false)))
      sNext)
    (sSeq (sSet 2 (e1 (fGd gk_FIELDS gv_FIELDS) (eVar 1)))
    (sSeq (sIf (tE (e2 fNe (eL fLen (aCons (eVar 0) aNil)) (e2 fAdd (eL fLen (aCons (eVar 2) aNil)) (eC (.int 1)))))
      (sRet (eC (.bl false)))
      sNext)
    (sRet (eL fAll (aCons (eLc 2 (iZip2 (eVar 2) (eSl (eVar 0) (oSome (eC (.int 1))) oNone)) (gTwo 3 4) tTrue x_is_item_1) aNil))))))))
noncomputable def F_is_item:List D→Option (Bool×D):=FR 1 3 b_is_item
theorem run_is_item:∀ ds r,F_is_item ds=some r→ds.length=1∧runF 3 b_is_item ds=some r:=FR_ok
theorem go_is_item (x0:D):F_is_item [x0]=runF 3 b_is_item [x0]:=rfl
inductive Kd where
  | name | mark | num (m:Int)
noncomputable def letB (z:Str):Bool:=!(Builtin.Str.occurrences "abcdefghijklmnopqrstuvwxyz" z 0 ("abcdefghijklmnopqrstuvwxyz" : Str).length 1).isEmpty
theorem in_let (z:Str):fIn (.str z) (.str "abcdefghijklmnopqrstuvwxyz")=some (.bl (letB z)):=rfl
noncomputable def nmB (t:Str):Bool:=!decide ((t.length:Int)<1)&&(!decide (8<(t.length:Int))&&(t.cps.toList.map fun c=>letB ⟨#[c]⟩).all id)
noncomputable def mkB (t:Str):Bool:=("carry" : Str) == t||(("nought" : Str) == t||(("sign" : Str) == t||false))
noncomputable def fitK:Kd→D→Bool
  | .name,.str t=>nmB t
  | .mark,.str t=>mkB t
  | .num m,.int i=>decide (0≤i)&&decide (i<m)
  | _,_=>false
noncomputable def noDic:D→Bool
  | .dic _ _=>false
  | .exc _=>false
  | .obj _ _ _=>false
  | _=>true
theorem lets_lc {σ:SEnv} {n:Nat} {e:FE} (he:∀ z:Str,∃ σ1,gVar n (.str z) σ=some σ1∧e σ1=some (.bl (letB z))) (t:Str):lcGo (gVar n) tTrue e σ (t.cps.toList.map fun c=>.str ⟨#[c]⟩)=some ((t.cps.toList.map fun c=>letB ⟨#[c]⟩).map D.bl):=by
  have:=lc_map (g:=gVar n) (e:=e) (σ:=σ) (fun d=>match d with | .str z=>.bl (letB z) | d=>d) (ds:=t.cps.toList.map fun c=>.str ⟨#[c]⟩) fun d hd=>by
    obtain ⟨c,_,rfl⟩:=List.mem_map.mp hd
    exact he _
  rw [this,List.map_map,List.map_map]
  rfl
theorem all_of (bs:List Bool):fAll [.lst (bs.map D.bl)]=some (.bl (bs.all id)):=by
  show (boolsOf _).bind _=_
  rw [bools_of]
  rfl
theorem name_is {d:D} (h:noDic d=true):F_is_name [d]=some (false,.bl (fitK .name d)):=by
  cases d with
  | str t=>
    have lc:=lets_lc (n:=1) (e:=x_is_name_1) (σ:=[some (false,.str t),none]) (fun z=>⟨_,rfl,by have:=in_let z; unfold x_is_name_1; simp! [this]⟩) t
    have al:=all_of (t.cps.toList.map fun c=>letB ⟨#[c]⟩)
    show _=some (false,D.bl (!decide ((t.length:Int)<1)&&(!decide (8<(t.length:Int))&&(t.cps.toList.map fun c=>letB ⟨#[c]⟩).all id)))
    rw [go_is_name]
    unfold b_is_name
    generalize (t.cps.toList.map fun c=>letB ⟨#[c]⟩)=BB at *
    cases h1:decide ((t.length:Int)<1) with
    | true=>simp! [h1,Bool.not_true,Bool.false_and]
    | false=>
      cases h2:decide (8<(t.length:Int)) with
      | true=>simp! [h1,h2,Bool.not_true,Bool.not_false,Bool.false_and,Bool.and_false]
      | false=>simp! [h1,h2,lc,al,Bool.not_false,Bool.true_and]
  | dic ks ds=>cases h
  | exc _=>cases h
  | obj _ _ _=>cases h
  | _=>rw [go_is_name]; unfold b_is_name; simp! []; rfl
theorem mark_is {d:D} (h:noDic d=true):fInX d gt_MARKS=some (.bl (fitK .mark d)):=by
  cases d with
  | str t=>
    have e:∀ u:Str,dEq (.str u) (.str t)=(u == t):=fun u=>by unfold dEq; rfl
    show some (D.bl (dEq (.str "carry") (.str t)||(dEq (.str "nought") (.str t)||(dEq (.str "sign") (.str t)||false))))=_
    rw [e,e,e]
    rfl
  | dic ks ds=>cases h
  | exc _=>cases h
  | obj _ _ _=>cases h
  | lst xs=>rfl
  | tup xs=>rfl
  | int i=>
    have e:∀ u:Str,dEq (.str u) (.int i)=false:=fun u=>by unfold dEq; rfl
    show some (D.bl (dEq (.str "carry") (.int i)||(dEq (.str "nought") (.int i)||(dEq (.str "sign") (.int i)||false))))=_
    rw [e,e,e]
    rfl
  | bl b=>
    have e:∀ u:Str,dEq (.str u) (.bl b)=false:=fun u=>by unfold dEq; rfl
    show some (D.bl (dEq (.str "carry") (.bl b)||(dEq (.str "nought") (.bl b)||(dEq (.str "sign") (.bl b)||false))))=_
    rw [e,e,e]
    rfl
  | non=>
    have e:∀ u:Str,dEq (.str u) .non=false:=fun u=>by unfold dEq; rfl
    show some (D.bl (dEq (.str "carry") .non||(dEq (.str "nought") .non||(dEq (.str "sign") .non||false))))=_
    rw [e,e,e]
    rfl
theorem num_is {d:D} (h:noDic d=true) {W m:Int} (hp:powOk 1 W=true) (hm:1*2 ^ W.toNat=m):F_is_number [d,.int W]=some (false,.bl (fitK (.num m) d)):=by
  cases d with
  | int i=>
    show _=some (false,D.bl (decide (0≤i)&&decide (i<m)))
    rw [go_is_number]
    unfold b_is_number
    cases h1:decide (0≤i)<;>simp! [h1,hp,hm,Bool.true_and,Bool.false_and]
  | dic ks ds=>cases h
  | exc _=>cases h
  | obj _ _ _=>cases h
  | _=>rw [go_is_number]; unfold b_is_number; simp! []; rfl
structure FK (w f:Str) (k:Kd) (s:D):Prop where
  ft:∀ d,noDic d=true→F_fits [.str w,.str f,d]=some (false,.bl (fitK k d))
  sh:(k=.name∧s=.str "name")∨(k=.mark∧s=.str "mark")∨∃ m:Int,k=.num m∧s=.int m
theorem fk_name (w:Str):FK w "name" .name (.str "name"):=⟨fun d h=>by
  have e:fEq (.str "name") (.str "name")=some (.bl true):=by rfl
  have n:=name_is h
  rw [go_fits]
  unfold b_fits
  simp! [e,n],.inl ⟨rfl,rfl⟩⟩
theorem fk_mark (w:Str):FK w "mark" .mark (.str "mark"):=⟨fun d h=>by
  have e:fEq (.str "mark") (.str "name")=some (.bl false):=by rfl
  have e2:fEq (.str "mark") (.str "mark")=some (.bl true):=by rfl
  have n:=mark_is h
  rw [go_fits]
  unfold b_fits
  simp! [e,e2,n],.inr (.inl ⟨rfl,rfl⟩)⟩
theorem fk_reg (w:Str) {f:Str} (hf:f = "d" ∨ f = "s"):FK w f (.num 8) (.int 8):=⟨fun d h=>by
  have n:=num_is h (W:=3) (m:=8) (by decide) (by decide)
  rcases hf with rfl | rfl
  · have e:fEq (.str "d") (.str "name")=some (.bl false):=by rfl
    have e2:fEq (.str "d") (.str "mark")=some (.bl false):=by rfl
    have e3:fEq (.str "d") (.str "n")=some (.bl false):=by rfl
    have g:fGd gk_PLACES gv_PLACES (.str "d")=some (.tup [.int 24,.int 3]):=by rfl
    have i1:fIx (.tup [.int 24,.int 3]) (.int 1)=some (.int 3):=rfl
    rw [go_fits]
    unfold b_fits
    simp! [e,e2,e3,g,i1,n]
  · have e:fEq (.str "s") (.str "name")=some (.bl false):=by rfl
    have e2:fEq (.str "s") (.str "mark")=some (.bl false):=by rfl
    have e3:fEq (.str "s") (.str "n")=some (.bl false):=by rfl
    have g:fGd gk_PLACES gv_PLACES (.str "s")=some (.tup [.int 21,.int 3]):=by rfl
    have i1:fIx (.tup [.int 21,.int 3]) (.int 1)=some (.int 3):=rfl
    rw [go_fits]
    unfold b_fits
    simp! [e,e2,e3,g,i1,n],.inr (.inr ⟨8,rfl,rfl⟩)⟩
theorem fk_num {w:Str} {W m:Int} (hw:fGd gk_NUMBER_WIDTHS gv_NUMBER_WIDTHS (.str w)=some (.int W)) (hp:powOk 1 W=true) (hm:1*2 ^ W.toNat=m):FK w "n" (.num m) (.int m):=⟨fun d h=>by
  have n:=num_is h hp hm
  have e:fEq (.str "n") (.str "name")=some (.bl false):=by rfl
  have e2:fEq (.str "n") (.str "mark")=some (.bl false):=by rfl
  have e3:fEq (.str "n") (.str "n")=some (.bl true):=by rfl
  rw [go_fits]
  unfold b_fits
  simp! [e,e2,e3,hw,n],.inr (.inr ⟨m,rfl,rfl⟩)⟩
end L3
namespace L3
open PySem
structure KW1 (w:Str) (fs:List Str):Prop where
  ni:fGnin gk_FIELDS (.str w)=some (.bl false)
  gd:fGd gk_FIELDS gv_FIELDS (.str w)=some (.tup (fs.map D.str))
noncomputable def allF:List Kd→List D→Bool
  | k::ks,d::ds=>fitK k d&&allF ks ds
  | [],[]=>true
  | _,_=>false
inductive FKs (w:Str):List Str→List Kd→List D→Prop
  | nil:FKs w [] [] []
  | cons {f:Str} {k:Kd} {s:D} {fs:List Str} {ks:List Kd} {ss:List D}:FK w f k s→FKs w fs ks ss→FKs w (f::fs) (k::ks) (s::ss)
theorem fks_len {w:Str}:∀ {fs:List Str} {ks:List Kd} {ss:List D},FKs w fs ks ss→fs.length=ks.length∧ss.length=ks.length
  | _,_,_,.nil=>⟨rfl,rfl⟩
  | _,_,_,.cons _ r=>by
    obtain ⟨a,b⟩:=fks_len r
    exact ⟨by rw [List.length_cons,List.length_cons,a],by rw [List.length_cons,List.length_cons,b]⟩
theorem zip_fit {w:Str} {σ:SEnv} (he:∀ f d:D,∃ σ1,gTwo 3 4 (.tup [f,d]) σ=some σ1∧x_is_item_1 σ1=(F_fits [.str w,f,d]).bind fun r=>some r.2):∀ {fs:List Str} {ks:List Kd} {ss ds:List D},FKs w fs ks ss→(∀ d∈ds,noDic d=true)→ds.length=ks.length→
    ∃ bs:List Bool,bs.all id=allF ks ds∧lcGo (gTwo 3 4) tTrue x_is_item_1 σ (List.zipWith (fun x y=>D.tup [x,y]) (fs.map D.str) ds)=some (bs.map D.bl)
  | _,_,_,ds,.nil,_,hl=>by
    cases ds with
    | nil=>exact ⟨[],rfl,rfl⟩
    | cons _ _=>cases hl
  | f::fs,k::ks,s::ss,ds,.cons F r,hn,hl=>by
    cases ds with
    | nil=>cases hl
    | cons d ds=>
      obtain ⟨bs,hb,e⟩:=zip_fit he r (ds:=ds) (fun x hx=>hn x (List.mem_cons_of_mem _ hx)) (by simpa using hl)
      obtain ⟨σ1,e1,e2⟩:=he (.str f) d
      refine ⟨fitK k d::bs,by rw [List.all_cons,hb]; rfl,?_⟩
      rw [List.map_cons,List.zipWith_cons_cons]
      show (gTwo 3 4 (.tup [.str f,d]) σ).bind _=_
      rw [e1]
      show (x_is_item_1 σ1).bind _=_
      rw [e2,F.ft d (hn d (List.mem_cons_self ..))]
      show (lcGo _ _ _ _ _).bind _=_
      rw [e]
      rfl
theorem known1 {w:Str} {fs:List Str} {ks:List Kd} {ss ds:List D} (W:KW1 w fs) (F:FKs w fs ks ss) (hn:∀ d∈ds,noDic d=true) (hk:ks.length≤5) (hd:ds.length≤400) :
    F_is_item [.tup (.str w::ds)]=some (false,.bl (allF ks ds)):=by
  obtain ⟨l1,l2⟩:=fks_len F
  obtain ⟨ni,gd⟩:=W
  have e0:fEq (.int ((ds.length+1:Nat):Int)) (.int 0)=some (.bl false):=int_ne (by omega)
  have lf:(fs.map D.str).length=ks.length:=by rw [List.length_map,l1]
  have mis:ds.length≠ks.length→allF ks ds=false:=fun h=>by
    have g:∀ {ks:List Kd} {ds:List D},ds.length≠ks.length→allF ks ds=false:=fun {ks}=>by
      induction ks with
      | nil=>
        intro ds h
        cases ds with
        | nil=>exact absurd rfl h
        | cons _ _=>rfl
      | cons k ks ih=>
        intro ds h
        cases ds with
        | nil=>rfl
        | cons d ds=>
          show (fitK k d&&allF ks ds)=false
          rw [ih (by simpa using h),Bool.and_false]
    exact g h
  by_cases hl:ds.length=ks.length
  · have sl:fSl (.tup (.str w::ds)) (some 1) none=some (.tup ds):=by
      show (if HT.sIx (ds.length+1) 0 (some 1)=0∧HT.sIx (ds.length+1) (ds.length+1) none=ds.length+1 then none else some (D.tup (cutD (.str w::ds) (some 1) none)))=_
      rw [if_neg (fun z=>by
        have:=z.1
        rw [show (1:Int)=((1:Nat):Int) from rfl,HT.sIx_nat] at this
        omega)]
      unfold cutD
      rw [show (1:Int)=((1:Nat):Int) from rfl,HT.sIx_nat]
      show some (D.tup ((List.drop (min 1 (ds.length+1)) (.str w::ds)).take (ds.length+1 - min 1 (ds.length+1))))=_
      rw [show min 1 (ds.length+1)=1 by omega,show ds.length+1 - 1=ds.length by omega]
      show some (D.tup (ds.take ds.length))=_
      rw [List.take_length]
    have q1:fNe (.int ((ds.length+1:Nat):Int)) (.int ((ks.length:Int)+1))=some (.bl false):=by
      have:=int_eq (i:=((ds.length+1:Nat):Int)) (j:=(ks.length:Int)+1) (by omega)
      exact ne_of_eq this
    obtain ⟨bs,hbs,ez⟩:=zip_fit (w:=w) (σ:=[some (false,.tup (.str w::ds)),some (false,.str w),some (false,.tup (fs.map D.str)),none,none]) (fun f d=>⟨_,rfl,by unfold x_is_item_1; simp! []⟩) F hn hl
    have al:=all_of bs
    rw [hbs] at al
    rw [go_is_item]
    unfold b_is_item
    generalize bs.map D.bl=BB at *
    generalize hF:fs.map D.str=FF at *
    simp! [e0,ix0,ni,gd,lf,add_int,q1,iZip2,eSl,oSome,oNone,sl,seqD,ez,al]
  · have q1:fNe (.int ((ds.length+1:Nat):Int)) (.int ((ks.length:Int)+1))=some (.bl true):=by
      have:=int_ne (i:=((ds.length+1:Nat):Int)) (j:=(ks.length:Int)+1) (by omega)
      exact ne_of_eq this
    rw [mis hl,go_is_item]
    unfold b_is_item
    generalize hF:fs.map D.str=FF at *
    simp! [e0,ix0,ni,gd,lf,add_int,q1]
theorem unknown1 {w:Str} (hw:¬ (WordA w∨w = "label")) (ds:List D):F_is_item [.tup (.str w::ds)]=some (false,.bl false):=by
  have e0:fEq (.int ((ds.length+1:Nat):Int)) (.int 0)=some (.bl false):=int_ne (by omega)
  have hk:hasK gk_FIELDS (.inr w)=false:=by
    cases h:hasK gk_FIELDS (.inr w) with
    | false=>rfl
    | true=>
      exfalso
      obtain ⟨j,hj,e⟩:=List.any_eq_true.mp h
      obtain ⟨u,hu,rfl⟩:=List.mem_map.mp hj
      have e:=Sum.inr.inj (of_decide_eq_true e)
      subst e
      simp only [List.mem_cons,List.not_mem_nil,or_false] at hu
      rcases hu with rfl | rfl | rfl | rfl | rfl | rfl | rfl | rfl | rfl | rfl | rfl | rfl | rfl | rfl | rfl | rfl | rfl | rfl | rfl | rfl | rfl | rfl<;>exact hw (by unfold WordA; simp)
  have ni:fGnin gk_FIELDS (.str w)=some (.bl true):=by
    show some (D.bl (!hasK gk_FIELDS (.inr w)))=_
    rw [hk]
    rfl
  rw [go_is_item]
  unfold b_is_item
  simp! [e0,ix0,ni]
end L3
namespace L3
open PySem
theorem low_let {c:Nat} (h0:97≤c) (h1:c≤122):letB ⟨#[c]⟩=true:=by
  have h:∀ j:Fin 26,letB ⟨#[97+j.val]⟩=true:=by decide +kernel
  have:=h ⟨c - 97,by omega⟩
  rw [show 97+(⟨c - 97,by omega⟩:Fin 26).val=c by show 97+(c - 97)=c; omega] at this
  exact this
theorem nm_of {t:Str} (h:nameB t=true):nmB t=true:=by
  obtain ⟨l1,l2,l3⟩:=name_len h
  unfold nmB
  rw [decide_eq_false (by omega),decide_eq_false (by omega)]
  show (t.cps.toList.map fun c=>letB ⟨#[c]⟩).all id=true
  refine List.all_eq_true.mpr fun b hb=>?_
  obtain ⟨c,hc,rfl⟩:=List.mem_map.mp hb
  have:=List.all_eq_true.mp l3 c hc
  rw [Bool.and_eq_true] at this
  exact low_let (of_decide_eq_true this.1) (of_decide_eq_true this.2)
theorem num_fit {m n:Int} (h0:0≤n) (h1:n<m):fitK (.num m) (.int n)=true:=by
  show (decide (0≤n)&&decide (n<m))=true
  rw [decide_eq_true h0,decide_eq_true h1]
  rfl
theorem made1 {N:List Str} (hN:Names N) {d:D} (h:ItemA N d):F_is_item [d]=some (false,.bl true):=by
  have go:∀ {w:Str} {fs:List Str} {ks:List Kd} {ss ds:List D},KW1 w fs→FKs w fs ks ss→ks.length≤5→(∀ d∈ds,noDic d=true)→ds.length≤400→allF ks ds=true→F_is_item [.tup (.str w::ds)]=some (false,.bl true):=fun W F a b c e=>by
    have:=known1 W F b a c
    rw [e] at this
    exact this
  have a1:∀ {k:Kd} {x:D},fitK k x=true→allF [k] [x]=true:=fun {k x} h=>by
    show (fitK k x&&true)=true
    rw [h]; rfl
  have a2:∀ {k l:Kd} {x y:D},fitK k x=true→fitK l y=true→allF [k,l] [x,y]=true:=fun {k l x y} h1 h2=>by
    show (fitK k x&&(fitK l y&&true))=true
    rw [h1,h2]; rfl
  have a3:∀ {k l m:Kd} {x y z:D},fitK k x=true→fitK l y=true→fitK m z=true→allF [k,l,m] [x,y,z]=true:=fun {k l m x y z} h1 h2 h3=>by
    show (fitK k x&&(fitK l y&&(fitK m z&&true)))=true
    rw [h1,h2,h3]; rfl
  have n1:∀ {x:D},noDic x=true→∀ d∈[x],noDic d=true:=fun h d hd=>by rw [List.mem_singleton.mp hd]; exact h
  have n2:∀ {x y:D},noDic x=true→noDic y=true→∀ d∈[x,y],noDic d=true:=fun h1 h2 d hd=>by
    rcases List.mem_cons.mp hd with rfl | hd
    · exact h1
    · exact n1 h2 d hd
  have n3:∀ {x y z:D},noDic x=true→noDic y=true→noDic z=true→∀ d∈[x,y,z],noDic d=true:=fun h1 h2 h3 d hd=>by
    rcases List.mem_cons.mp hd with rfl | hd
    · exact h1
    · exact n2 h2 h3 d hd
  rcases h with h | ⟨t,ht,rfl⟩
  · cases h with
    | plain h=>
      cases h with
      | stop=>exact go (ks:=[]) (ss:=[]) ⟨rfl,rfl⟩ .nil (by simp) (fun _ h=>by cases h) (by simp) rfl
      | imm hw d0 d1 z0 z1=>
        rename_i w x n
        exact go (fs:=["d", "n"]) (ks:=[.num 8,.num 65536]) (ss:=[.int 8,.int 65536]) (by rcases hw with rfl | rfl<;>exact ⟨rfl,rfl⟩) (.cons (fk_reg w (.inl rfl)) (.cons (fk_num (W:=16) (by rcases hw with rfl | rfl<;>rfl) (by decide) (by decide)) .nil)) (by simp) (n2 rfl rfl) (by simp) (a2 (num_fit d0 d1) (num_fit z0 z1))
      | mov hw d0 d1 z0 z1=>
        rename_i w x n
        exact go (fs:=["d", "n"]) (ks:=[.num 8,.num 32]) (ss:=[.int 8,.int 32]) (by rcases hw with rfl | rfl<;>exact ⟨rfl,rfl⟩) (.cons (fk_reg w (.inl rfl)) (.cons (fk_num (W:=5) (by rcases hw with rfl | rfl<;>rfl) (by decide) (by decide)) .nil)) (by simp) (n2 rfl rfl) (by simp) (a2 (num_fit d0 d1) (num_fit z0 z1))
      | two hw d0 d1 z0 z1=>
        rename_i w x n
        exact go (fs:=["d", "s"]) (ks:=[.num 8,.num 8]) (ss:=[.int 8,.int 8]) (by rcases hw with rfl | rfl | rfl | rfl | rfl | rfl | rfl | rfl | rfl<;>exact ⟨rfl,rfl⟩) (.cons (fk_reg w (.inl rfl)) (.cons (fk_reg w (.inr rfl)) .nil)) (by simp) (n2 rfl rfl) (by simp) (a2 (num_fit d0 d1) (num_fit z0 z1))
      | mem hw d0 d1 z0 z1 y0 y1=>
        rename_i w x n m
        exact go (fs:=["d", "s", "n"]) (ks:=[.num 8,.num 8,.num 256]) (ss:=[.int 8,.int 8,.int 256]) (by rcases hw with rfl | rfl | rfl | rfl<;>exact ⟨rfl,rfl⟩) (.cons (fk_reg w (.inl rfl)) (.cons (fk_reg w (.inr rfl)) (.cons (fk_num (W:=8) (by rcases hw with rfl | rfl | rfl | rfl<;>rfl) (by decide) (by decide)) .nil))) (by simp) (n3 rfl rfl rfl) (by simp) (a3 (num_fit d0 d1) (num_fit z0 z1) (num_fit y0 y1))
    | jump ht=>exact go (fs:=["name"]) (ks:=[.name]) (ss:=[.str "name"]) ⟨rfl,rfl⟩ (.cons (fk_name _) .nil) (by simp) (n1 rfl) (by simp) (a1 (nm_of (hN.ok _ ht)))
    | cond hw hk ht=>
      rename_i w k0 t
      exact go (fs:=["mark", "name"]) (ks:=[.mark,.name]) (ss:=[.str "mark",.str "name"]) (by rcases hw with rfl | rfl<;>exact ⟨rfl,rfl⟩) (.cons (fk_mark w) (.cons (fk_name w) .nil)) (by simp) (n2 rfl rfl) (by simp) (a2 (by rcases hk with rfl | rfl | rfl<;>rfl) (nm_of (hN.ok _ ht)))
  · exact go (fs:=["name"]) (ks:=[.name]) (ss:=[.str "name"]) ⟨rfl,rfl⟩ (.cons (fk_name _) .nil) (by simp) (n1 rfl) (by simp) (a1 (nm_of (hN.ok _ ht)))
end L3
namespace L3
open PySem
noncomputable def spl (c:Nat):List Nat→List (List Nat)
  | []=>[[]]
  | a::l=>if a=c then []::spl c l else match spl c l with
    | p::r=>(a::p)::r
    | []=>[[a]]
theorem spl_cons (c a:Nat) (l:List Nat):spl c (a::l)=if a=c then []::spl c l else match spl c l with
    | p::r=>(a::p)::r
    | []=>[[a]]:=rfl
noncomputable def jn (c:Nat):List (List Nat)→List Nat
  | []=>[]
  | [p]=>p
  | p::q::r=>p++c::jn c (q::r)
theorem spl_ne (c:Nat):∀ l,∃ p r,spl c l=p::r
  | []=>⟨_,_,rfl⟩
  | a::l=>by
    obtain ⟨p,r,e⟩:=spl_ne c l
    rw [spl_cons,e]
    split
    · exact ⟨_,_,rfl⟩
    · exact ⟨_,_,rfl⟩
theorem spl_free {c:Nat}:∀ {p:List Nat},c ∉ p→spl c p=[p]
  | [],_=>rfl
  | a::p,h=>by
    have ne:¬ a=c:=fun e=>h (by rw [e]; exact List.mem_cons_self)
    rw [spl_cons,if_neg ne,spl_free (fun z=>h (List.mem_cons_of_mem _ z))]
theorem spl_app (c:Nat):∀ (p l:List Nat),spl c (p++c::l)=spl c p++spl c l
  | [],l=>by
    rw [List.nil_append,spl_cons,if_pos rfl]
    rfl
  | a::p,l=>by
    rw [List.cons_append,spl_cons,spl_cons,spl_app c p l]
    obtain ⟨q,r,e⟩:=spl_ne c p
    rw [e]
    split
    · rfl
    · rfl
theorem spl_jn {c:Nat}:∀ {ps:List (List Nat)},ps≠[]→(∀ p∈ps,c ∉ p)→spl c (jn c ps)=ps
  | [],h,_=>absurd rfl h
  | [p],_,h=>spl_free (h p List.mem_cons_self)
  | p::q::r,_,h=>by
    show spl c (p++c::jn c (q::r))=_
    rw [spl_app,spl_free (h p List.mem_cons_self),spl_jn (ps:=q::r) (by simp) fun z hz=>h z (List.mem_cons_of_mem _ hz)]
    rfl
theorem jn_spl (c d:Nat):∀ l,jn d (spl c l)=l.map fun a=>if a=c then d else a
  | []=>rfl
  | a::l=>by
    have ih:=jn_spl c d l
    obtain ⟨p,r,e⟩:=spl_ne c l
    rw [spl_cons]
    rw [e] at ih ⊢
    by_cases h:a=c
    · rw [if_pos h,List.map_cons,if_pos h,← ih]
      rfl
    · rw [if_neg h,List.map_cons,if_neg h,← ih]
      cases r<;>rfl
theorem capp (a b:Str):(a++b).cps.toList=a.cps.toList++b.cps.toList:=Array.toList_append
theorem join_cps (c:Nat):∀ ts:List Str,(Str.join ⟨#[c]⟩ ts).cps.toList=jn c (ts.map fun t=>t.cps.toList)
  | []=>rfl
  | [x]=>rfl
  | x::y::r=>by
    show (x++⟨#[c]⟩++Str.join ⟨#[c]⟩ (y::r)).cps.toList=_
    rw [capp,capp,join_cps c (y::r),List.append_assoc]
    rfl
theorem split_cps (x:Str) (c:Nat):(Txt.split x ⟨#[c]⟩).map (fun t=>t.cps.toList)=spl c x.cps.toList:=by
  have h1:=congrArg (fun z:Str=>z.cps.toList) (StrLaws.join_split x ⟨#[c]⟩)
  have h1:jn c ((Txt.split x ⟨#[c]⟩).map fun t=>t.cps.toList)=x.cps.toList:=(join_cps c _).symm.trans h1
  rw [← h1,spl_jn]
  · intro z
    have:=congrArg List.length z
    rw [List.length_map] at this
    have p:=PyProof.Rows.split_pos x ⟨#[c]⟩
    rw [this] at p
    exact absurd p (by decide)
  · intro p hp
    obtain ⟨t,ht,rfl⟩:=List.mem_map.mp hp
    exact StrLaws.split_free x c t ht
theorem repl_cps (x:Str) (c d:Nat):(Txt.replace x ⟨#[c]⟩ ⟨#[d]⟩).cps.toList=x.cps.toList.map fun a=>if a=c then d else a:=by
  rw [StrLaws.replace_one,join_cps,split_cps,jn_spl]
theorem take_free {c:Nat}:∀ {l:List Nat},c ∉ l→l.takeWhile (· != c)=l
  | [],_=>rfl
  | a::l,h=>by
    rw [List.takeWhile_cons_of_pos (by simp; exact fun e=>h (e ▸ List.mem_cons_self)),take_free (fun z=>h (List.mem_cons_of_mem _ z))]
theorem part_cps (x:Str) (c:Nat):(Txt.partition x ⟨#[c]⟩).1.cps.toList=x.cps.toList.takeWhile (· != c):=by
  have sum:=congrArg (fun z:Str=>z.cps.toList) (StrLaws.partition_sum x ⟨#[c]⟩)
  have sum:((Txt.partition x ⟨#[c]⟩).1++(Txt.partition x ⟨#[c]⟩).2.1++(Txt.partition x ⟨#[c]⟩).2.2).cps.toList=x.cps.toList:=sum
  cases h:(Builtin.Str.occurrences x ⟨#[c]⟩ 0 x.length 1).isEmpty with
  | true=>
    have e:=PyProof.Rows.empty_one x c
    rw [h] at e
    have nf:c ∉ x.cps.toList:=fun z=>by
      rw [decide_eq_true z] at e
      cases e
    rw [take_free nf]
    unfold Txt.partition
    rw [List.isEmpty_iff.mp h]
  | false=>
    have q:=PyProof.Rows.from_first_some (x:=x) (y:=⟨#[c]⟩) (z:=⟨#[c]⟩) (c:=c) rfl rfl h
    have q:=congrArg (fun z:Str=>z.cps.toList) (eq_of_beq q)
    have q:((⟨#[c]⟩:Str)++(Txt.partition x ⟨#[c]⟩).2.2).cps.toList=x.cps.toList.dropWhile (· != c):=by
      rw [show ((⟨#[c]⟩:Str)++(Txt.partition x ⟨#[c]⟩).2.2).cps.toList=(⟨(x.cps.toList.dropWhile (· != c)).toArray⟩:Str).cps.toList from q]
    have y2:(Txt.partition x ⟨#[c]⟩).2.1=⟨#[c]⟩:=by
      unfold Txt.partition
      cases ho:Builtin.Str.occurrences x ⟨#[c]⟩ 0 x.length 1 with
      | nil=>rw [ho] at h; cases h
      | cons i r=>rfl
    rw [y2,capp,capp,List.append_assoc] at sum
    rw [capp] at q
    rw [q] at sum
    have t:=List.takeWhile_append_dropWhile (p:=(· != c)) (l:=x.cps.toList)
    exact List.append_cancel_right (sum.trans t.symm)
noncomputable def tb (a:Nat):Nat:=if a=9 then 32 else a
noncomputable def W (l:List Nat):List (List Nat):=(spl 32 ((l.takeWhile (· != 59)).map tb)).filter fun p=>!p.isEmpty
noncomputable def Bl (b:Nat):Prop:=b=32∨b=9
structure Wd (w:List Nat):Prop where
  ne:w≠[]
  ok:∀ a∈w,a≠32∧a≠9∧a≠59∧a≠10
theorem W_nil:W []=[]:=rfl
theorem W_blank {b:Nat} (h:Bl b) (l:List Nat):W (b::l)=W l:=by
  unfold W
  rw [List.takeWhile_cons_of_pos (by rcases h with rfl | rfl<;>decide),List.map_cons,show tb b=32 by rcases h with rfl | rfl<;>rfl,spl_cons,if_pos rfl,List.filter_cons_of_neg (by decide)]
theorem wd_tb {w:List Nat} (h:Wd w):w.map tb=w∧32 ∉ w∧(∀ a∈w,(a != 59)=true):=by
  refine ⟨?_,fun z=>(h.ok 32 z).1 rfl,fun a ha=>by simpa using (h.ok a ha).2.2.1⟩
  have:w.map tb=w.map id:=List.map_congr_left fun a ha=>if_neg (h.ok a ha).2.1
  rw [this,List.map_id]
theorem W_word {w:List Nat} (h:Wd w) {b:Nat} (hb:Bl b) (l:List Nat):W (w++b::l)=w::W l:=by
  obtain ⟨e1,e2,e3⟩:=wd_tb h
  unfold W
  rw [List.takeWhile_append_of_pos e3,List.takeWhile_cons_of_pos (by rcases hb with rfl | rfl<;>decide),List.map_append,e1,List.map_cons,show tb b=32 by rcases hb with rfl | rfl<;>rfl,spl_app,spl_free e2,List.singleton_append,List.filter_cons_of_pos (by
    cases w with
    | nil=>exact absurd rfl h.ne
    | cons _ _=>rfl)]
theorem W_last {w:List Nat} (h:Wd w) {l:List Nat} (hl:l=[]∨∃ r,l=59::r):W (w++l)=[w]:=by
  obtain ⟨e1,e2,e3⟩:=wd_tb h
  have:(w++l).takeWhile (· != 59)=w:=by
    rw [List.takeWhile_append_of_pos e3]
    rcases hl with rfl | ⟨r,rfl⟩
    · exact List.append_nil _
    · rw [List.takeWhile_cons_of_neg (by decide),List.append_nil]
  unfold W
  rw [this,e1,spl_free e2,List.filter_cons_of_pos (by
    cases w with
    | nil=>exact absurd rfl h.ne
    | cons _ _=>rfl)]
  rfl
theorem W_blanks {g:List Nat} (h:∀ b∈g,Bl b) (l:List Nat):W (g++l)=W l:=by
  induction g with
  | nil=>rfl
  | cons b g ih=>
    rw [List.cons_append,W_blank (h b List.mem_cons_self),ih fun x hx=>h x (List.mem_cons_of_mem _ hx)]
noncomputable def loose:List (List Nat)→List (List Nat)→List Nat
  | w::ws,g::gs=>w++g++loose ws gs
  | _,_=>[]
noncomputable def Gap (g:List Nat):Prop:=g≠[]∧∀ b∈g,Bl b
theorem W_loose:∀ {ws gs:List (List Nat)},ws.length=gs.length→(∀ w∈ws,Wd w)→(∀ g∈gs,Gap g)→∀ rest,W (loose ws gs++rest)=ws++W rest
  | [],[],_,_,_,rest=>rfl
  | w::ws,g::gs,hl,hw,hg,rest=>by
    obtain ⟨gn,gb⟩:=hg g List.mem_cons_self
    cases g with
    | nil=>exact absurd rfl gn
    | cons b g=>
      show W (w++(b::g)++loose ws gs++rest)=_
      rw [List.append_assoc,List.append_assoc,List.cons_append,W_word (hw w List.mem_cons_self) (gb b List.mem_cons_self),W_blanks (fun x hx=>gb x (List.mem_cons_of_mem _ hx)),W_loose (by simpa using hl) (fun x hx=>hw x (List.mem_cons_of_mem _ hx)) (fun x hx=>hg x (List.mem_cons_of_mem _ hx)) rest]
      rfl
end L3
namespace L3
open PySem
noncomputable def dgs (m:Nat):List Nat:=(Nat.toDigits 10 m).map Char.toNat
theorem dgc:∀ d:Nat,d<10→(Nat.digitChar d).toNat=48+d:=by decide
theorem dgs_lt {m:Nat} (h:m<10):dgs m=[48+m]:=by
  unfold dgs
  rw [Nat.toDigits_of_lt_base h,List.map_cons,List.map_nil,dgc m h]
theorem dgs_ge {m:Nat} (h:10≤m):dgs m=dgs (m / 10)++[48+m % 10]:=by
  have hm:m % 10<10:=Nat.mod_lt m (by decide)
  have t:Nat.toDigits 10 (m / 10)++Nat.toDigits 10 (m % 10)=Nat.toDigits 10 (10*(m / 10)+m % 10):=Nat.toDigits_append_toDigits (by decide) (by omega) hm
  rw [Nat.div_add_mod] at t
  have e:dgs (m % 10)=[48+m % 10]:=dgs_lt hm
  unfold dgs at e ⊢
  rw [← t,List.map_append,e]
theorem dgs_ok:∀ m:Nat,dgs m≠[]∧(∀ c∈dgs m,48≤c∧c≤57)∧(m≠0→(dgs m).head?≠some 48):=fun m=>by
  induction m using Nat.strongRecOn with
  | _ m ih=>
    by_cases h:m<10
    · rw [dgs_lt h]
      refine ⟨by simp,fun c hc=>?_,fun h0 z=>?_⟩
      · rw [List.mem_singleton.mp hc]
        omega
      · have:48+m=48:=Option.some.inj z
        omega
    · obtain ⟨a,b,c⟩:=ih (m / 10) (by omega)
      rw [dgs_ge (by omega)]
      refine ⟨by simp,fun x hx=>?_,fun _=>?_⟩
      · rcases List.mem_append.mp hx with hx | hx
        · exact b x hx
        · rw [List.mem_singleton.mp hx]
          omega
      · cases e:dgs (m / 10) with
        | nil=>exact absurd e a
        | cons y r=>
          have:=c (by omega)
          rw [e] at this
          exact this
theorem dgs_len:∀ (k m:Nat),m<10 ^ (k+1)→(dgs m).length≤k+1
  | 0,m,h=>by rw [dgs_lt (by simpa using h)]; exact Nat.le_refl _
  | k+1,m,h=>by
    by_cases c:m<10
    · rw [dgs_lt c]
      show 1≤_
      omega
    · rw [dgs_ge (by omega),List.length_append]
      have:=dgs_len k (m / 10) (by rw [Nat.div_lt_iff_lt_mul (by decide)]; rw [Nat.pow_succ] at h; exact h)
      simp only [List.length_cons,List.length_nil]
      omega
noncomputable def decT (n:Int):Str:=Str.ofString (toString n)
theorem dec_cps {n:Int} (h:0≤n):(decT n).cps.toList=dgs n.toNat:=by
  have:=PySem.W.KIN.signs_num n.toNat
  rw [show ((n.toNat:Nat):Int)=n by omega] at this
  exact this
theorem starts_one (z:Str) (c:Nat):Txt.startswith z ⟨#[c]⟩=decide (z.cps.toList.head?=some c):=by
  have s:=StrLaws.subAt_one z c 0
  rw [List.head?_eq_getElem?]
  refine Bool.eq_iff_iff.mpr ?_
  rw [decide_eq_true_iff,← s]
  show (decide (0+(⟨#[c]⟩:Str).length≤z.length)&&Builtin.Str.subAt z ⟨#[c]⟩ 0)=true↔_
  rw [Bool.and_eq_true,decide_eq_true_iff]
theorem ends_one (z:Str) (c:Nat) (h:1≤z.length):Txt.endswith z ⟨#[c]⟩=decide (z.cps.toList[z.length - 1]?=some c):=by
  have s:=StrLaws.subAt_one z c (z.length - 1)
  refine Bool.eq_iff_iff.mpr ?_
  rw [decide_eq_true_iff,← s]
  show (decide (0+(⟨#[c]⟩:Str).length≤z.length)&&Builtin.Str.subAt z ⟨#[c]⟩ (z.length - 1))=true↔_
  rw [Bool.and_eq_true,decide_eq_true_iff]
  have e:(⟨#[c]⟩:Str).length=1:=rfl
  rw [e]
  exact ⟨fun q=>⟨by omega,q.2⟩,fun q=>⟨by omega,q.2⟩⟩
end L3
namespace L3
open PySem
noncomputable def x_number_told_1:FE:=(e2 fIn (eVar 1) (eC (.str "0123456789")))
noncomputable def b_number_told:FS:=
  (sSeq (sIf (tOrF (tE (e2 fEq (eVar 0) (eC (.str "")))) (tE (e2 (fCmp fun i j=>decide (j<i)) (eL fLen (aCons (eVar 0) aNil)) (eC (.int 5)))))
      (sRet (eC .non))
      sNext)
    (sSeq (sIf (tNotF (tE (eL fAll (aCons (eLc 1 (iSeq (eVar 0)) (gVar 1) tTrue x_number_told_1) aNil))))
      (sRet (eC .non))
      sNext)
    (sSeq (sIf (tAndF (tE (e2 fStarts (eVar 0) (eC (.str "0")))) (tE (e2 fNe (eVar 0) (eC (.str "0")))))
      (sRet (eC .non))
      sNext)
    (sRet (eL fIntT (aCons (eVar 0) aNil))))))
noncomputable def F_number_told:List D→Option (Bool×D):=FR 1 1 b_number_told
theorem run_number_told:∀ ds r,F_number_told ds=some r→ds.length=1∧runF 1 b_number_told ds=some r:=FR_ok
theorem go_number_told (x0:D):F_number_told [x0]=runF 1 b_number_told [x0]:=rfl
noncomputable def b_field_told:FS:=
  (sSeq (sIf (tE (e2 fEq (eVar 0) (eC (.str "n"))))
      (sRet (eCall F_number_told (aCons (eVar 1) aNil)))
      sNext)
    (sSeq (sIf (tOrF (tE (e2 fEq (eVar 0) (eC (.str "d")))) (tE (e2 fEq (eVar 0) (eC (.str "s")))))
      (sRet (eIf (tE (e2 fStarts (eVar 1) (eC (.str "r")))) (eCall F_number_told (aCons (eSl (eVar 1) (oSome (eC (.int 1))) oNone) aNil)) (eC .non)))
      sNext)
    (sRet (eVar 1))))
noncomputable def F_field_told:List D→Option (Bool×D):=FR 2 2 b_field_told
theorem run_field_told:∀ ds r,F_field_told ds=some r→ds.length=2∧runF 2 b_field_told ds=some r:=FR_ok
theorem go_field_told (x0 x1:D):F_field_told [x0,x1]=runF 2 b_field_told [x0,x1]:=rfl
noncomputable def x_row_told_1:FE:=(eCall F_field_told (aCons (eVar 3) (aCons (eVar 4) aNil)))
noncomputable def b_row_told:FS:=
  (sSeq (sSet 1 (e2 fIx (eVar 0) (eC (.int 0))))
    (sSeq (sIf (tOrF (tE (e2 fEq (eVar 1) (eC (.str "label")))) (tE (e1 (fGnin gk_FIELDS) (eVar 1))))
      (sRet (eC .non))
      sNext)
    (sSeq (sSet 2 (e1 (fGd gk_FIELDS gv_FIELDS) (eVar 1)))
    (sSeq (sIf (tE (e2 fNe (eL fLen (aCons (eVar 0) aNil)) (e2 fAdd (eL fLen (aCons (eVar 2) aNil)) (eC (.int 1)))))
      (sRet (eC .non))
      sNext)
    (sRet (eL fTuple (aCons (e2 fAdd (eLst (aCons (eVar 1) aNil)) (eLc 2 (iZip2 (eVar 2) (eSl (eVar 0) (oSome (eC (.int 1))) oNone)) (gTwo 3 4) tTrue x_row_told_1)) aNil)))))))
noncomputable def F_row_told:List D→Option (Bool×D):=FR 1 3 b_row_told
theorem run_row_told:∀ ds r,F_row_told ds=some r→ds.length=1∧runF 3 b_row_told ds=some r:=FR_ok
theorem go_row_told (x0:D):F_row_told [x0]=runF 3 b_row_told [x0]:=rfl
noncomputable def b_item_told:FS:=
  (sSeq (sSet 1 (eCall F_row_told (aCons (eVar 0) aNil)))
    (sSeq (sIf (tAndF (tE (e2 fEq (eL fLen (aCons (eVar 0) aNil)) (eC (.int 1)))) (tE (e2 fEnds (e2 fIx (eVar 0) (eC (.int 0))) (eC (.str ":")))))
      (sSet 1 (eTup (aCons (eC (.str "label")) (aCons (eSl (e2 fIx (eVar 0) (eC (.int 0))) oNone (oSome (e1 fNeg (eC (.int 1))))) aNil))))
      sNext)
    (sRet (eIf (tE (eCall F_is_item (aCons (eVar 1) aNil))) (eVar 1) (eC .non)))))
noncomputable def F_item_told:List D→Option (Bool×D):=FR 1 2 b_item_told
theorem run_item_told:∀ ds r,F_item_told ds=some r→ds.length=1∧runF 2 b_item_told ds=some r:=FR_ok
theorem go_item_told (x0:D):F_item_told [x0]=runF 2 b_item_told [x0]:=rfl
noncomputable def r_law_item_text_1:FA:=(iRange (eC (.int 0)) (eL fLen (aCons (eVar 1) aNil)))
noncomputable def l_law_item_text_1:FS:=(sMut1 2 fApp (e2 fIx (eLst (aCons (eL fStr (aCons (e2 fIx (eVar 0) (e2 fAdd (eVar 3) (eC (.int 1)))) aNil)) (aCons (e2 fAdd (eC (.str "r")) (eL fStr (aCons (e2 fIx (eVar 0) (e2 fAdd (eVar 3) (eC (.int 1)))) aNil))) aNil))) (eL fInt (aCons (e2 fEq (e2 fIx (eVar 1) (eVar 3)) (eC (.int 8))) aNil))))
noncomputable def b_law_item_text:FS:=
  (sSeq (sIf (tE (e2 fEq (e2 fIx (eVar 0) (eC (.int 0))) (eC (.str "label"))))
      (sRet (e2 fAdd (e2 fIx (eVar 0) (eC (.int 1))) (eC (.str ":"))))
      sNext)
    (sSeq (sSet 1 (eCall F_law_shape (aCons (e2 fIx (eVar 0) (eC (.int 0))) aNil)))
    (sSeq (sSetO 2 (eLst (aCons (e2 fIx (eVar 0) (eC (.int 0))) aNil)))
    (sSeq (sFor r_law_item_text_1 (gVar 3)
      l_law_item_text_1)
    (sSeq (sFreeze 2) (sRet (e2 fJoin (eC (.str " ")) (eVar 2))))))))
noncomputable def F_law_item_text:List D→Option (Bool×D):=FR 1 4 b_law_item_text
theorem run_law_item_text:∀ ds r,F_law_item_text ds=some r→ds.length=1∧runF 4 b_law_item_text ds=some r:=FR_ok
theorem go_law_item_text (x0:D):F_law_item_text [x0]=runF 4 b_law_item_text [x0]:=rfl
theorem dig_in {c:Nat} (h:48≤c∧c≤57):fIn (.str ⟨#[c]⟩) (.str "0123456789")=some (.bl true):=by
  show some (D.bl (!(Builtin.Str.occurrences ("0123456789" : Str) ⟨#[c]⟩ 0 ("0123456789" : Str).length 1).isEmpty))=_
  have e:("0123456789" : Str).cps.toList=[48,49,50,51,52,53,54,55,56,57]:=by rfl
  rw [StrLaws.found_one,e,decide_eq_true (show c∈[48,49,50,51,52,53,54,55,56,57] by simp only [List.mem_cons,List.not_mem_nil,or_false]; omega)]
theorem len_cps (z:Str):z.cps.toList.length=z.length:=Array.length_toList
theorem ne_empty {z:Str} (h:z.cps.toList≠[]):fEq (.str z) (.str "")=some (.bl false):=by
  obtain ⟨⟨l⟩⟩:=z
  cases l with
  | nil=>exact absurd rfl h
  | cons a r=>rfl
theorem zero_eq {z:Str} (h:z.cps.toList=[48]):z = "0" := by
  obtain ⟨⟨l⟩⟩:=z
  cases (show l=[48] from h)
  rfl
theorem num_told {n:Int} (h0:0≤n) (h1:n<65536):F_number_told [.str (decT n)]=some (false,.int n)∧(decT n).length≤5∧Wd (decT n).cps.toList:=by
  have ec:=dec_cps h0
  obtain ⟨d1,d2,d3⟩:=dgs_ok n.toNat
  have dl:=dgs_len 4 n.toNat (by show _<100000; omega)
  rw [← ec] at d1 d2 d3 dl
  rw [len_cps] at dl
  have ne:=ne_empty d1
  have le:decide ((5:Int)<((decT n).length:Int))=false:=decide_eq_false (by omega)
  have lc:lcGo (gVar 1) tTrue x_number_told_1 [some (false,.str (decT n)),none] ((decT n).cps.toList.map fun c=>D.str ⟨#[c]⟩)=some (((decT n).cps.toList.map fun c=>D.str ⟨#[c]⟩).map fun _=>D.bl true):=lc_map (fun _=>.bl true) fun d hd=>by
    obtain ⟨c,hc,rfl⟩:=List.mem_map.mp hd
    have:=dig_in (d2 c hc)
    refine ⟨_,rfl,?_⟩
    unfold x_number_told_1
    simp! [this]
  have al:fAll [.lst (((decT n).cps.toList.map fun c=>D.str ⟨#[c]⟩).map fun _=>D.bl true)]=some (.bl true):=by
    have:=all_of (((decT n).cps.toList.map fun c=>D.str ⟨#[c]⟩).map fun _=>true)
    rw [List.map_map] at this
    have e:(((decT n).cps.toList.map fun c=>D.str ⟨#[c]⟩).map fun _=>true).all id=true:=List.all_eq_true.mpr fun x hx=>by
      obtain ⟨_,_,rfl⟩:=List.mem_map.mp hx
      rfl
    rw [e] at this
    exact this
  have it:fIntT [.str (decT n)]=some (.int n):=by
    show (if (decT n).length≤640 then (PySem.intText? (decT n)).bind _ else none)=_
    rw [if_pos (by omega),show PySem.intText? (decT n)=some n from PySem.W.KIN.num_reads h0 (by omega)]
    rfl
  refine ⟨?_,dl,⟨d1,fun a ha=>by have:=d2 a ha; omega⟩⟩
  have ln:fLen [.str (decT n)]=some (.int (decT n).length):=rfl
  have st:fStarts (.str (decT n)) (.str "0")=some (.bl (decide ((decT n).cps.toList.head?=some 48))):=by
    show some (D.bl (Txt.startswith (decT n) ⟨#[48]⟩))=_
    rw [starts_one]
  rw [go_number_told]
  unfold b_number_told
  by_cases hz:n=0
  · have e0:decT n = "0" := zero_eq (by rw [ec,hz]; rfl)
    have nz:fNe (.str (decT n)) (.str "0")=some (.bl false):=by rw [e0]; rfl
    have hd:(decT n).cps.toList.head?=some 48:=by rw [ec,hz]; rfl
    rw [decide_eq_true hd] at st
    generalize decT n=Z at *
    generalize ((Z.cps.toList.map fun c=>D.str ⟨#[c]⟩).map fun _=>D.bl true)=ZB at *
    simp! [ne,ln,le,lc,al,st,nz,it]
  · rw [decide_eq_false (d3 (by omega))] at st
    generalize decT n=Z at *
    generalize ((Z.cps.toList.map fun c=>D.str ⟨#[c]⟩).map fun _=>D.bl true)=ZB at *
    simp! [ne,ln,le,lc,al,st,it]
structure Pt (f:Str) (k d:D) (z:Str):Prop where
  ft:F_field_told [.str f,.str z]=some (false,d)
  lt:∃ (sd:Str) (b:Bool),fStr [d]=some (.str sd)∧fAdd (.str "r") (.str sd)=some (.str ("r" ++ sd))∧fEq k (.int 8)=some (.bl b)∧fIx (.lst [.str sd,.str ("r" ++ sd)]) (.int (if b=true then 1 else 0))=some (.str z)
  ln:z.length≤20
  wd:Wd z.cps.toList
theorem okI_small {n:Int} (h0:0≤n) (h1:n<100000):okI n=true:=decide_eq_true (by
  by_cases e:n.natAbs=0
  · rw [e]; decide
  · have p:(2:Nat) ^ 17=131072:=by decide
    have:n.natAbs.log2<17:=(Nat.log2_lt e).mpr (by omega)
    omega)
theorem str_int {n:Int} (h:okI n=true):fStr [.int n]=some (.str (decT n)):=by
  show (match okI n with | true=>_ | false=>_)=_
  rw [h]
  rfl
theorem add_r {x:Str} (h:x.length≤2000):fAdd (.str "r") (.str x)=some (.str ("r" ++ x)):=add_str (by show 1+_≤_; omega)
theorem r_cps (x:Str):(("r" : Str)++x).cps.toList=114::x.cps.toList:=by rw [capp]; rfl
theorem r_cut (x:Str):L2.cutS (("r" : Str)++x) (some 1) none=x:=by
  have e:(L2.cutS (("r" : Str)++x) (some 1) none).cps.toList=x.cps.toList:=by
    show (((("r" : Str)++x).cps.toList.drop (HT.sIx (("r" : Str)++x).length 0 (some 1))).take (HT.sIx (("r" : Str)++x).length (("r" : Str)++x).length none - HT.sIx (("r" : Str)++x).length 0 (some 1)))=_
    have e1:HT.sIx (("r" : Str)++x).length 0 (some 1)=1:=by
      have:=HT.sIx_nat (("r" : Str)++x).length 0 1
      rw [show (((1:Nat):Int))=1 from rfl] at this
      rw [this,len_app]
      show min 1 (1+x.length)=1
      omega
    rw [e1,r_cps]
    show (x.cps.toList.take _)=_
    refine List.take_of_length_le ?_
    rw [len_cps]
    show _≤(("r" : Str)++x).length - 1
    rw [len_app]
    show _≤1+x.length - 1
    omega
  obtain ⟨⟨l⟩⟩:=x
  generalize L2.cutS _ _ _=C at e
  obtain ⟨⟨m⟩⟩:=C
  cases (show m=l from e)
  rfl
theorem pt_n {m n:Int} (hm:m≠8) (n0:0≤n) (n1:n<65536):Pt "n" (.int m) (.int n) (decT n):=by
  obtain ⟨a,b,c⟩:=num_told n0 n1
  have e:fEq (.str "n") (.str "n")=some (.bl true):=by rfl
  refine ⟨?_,⟨decT n,false,str_int (okI_small n0 (by omega)),add_r (by omega),int_ne hm,rfl⟩,by omega,c⟩
  rw [go_field_told]
  unfold b_field_told
  simp! [e,a]
theorem pt_r {f:Str} {n:Int} (hf:f = "d" ∨ f = "s") (n0:0≤n) (n1:n<8):Pt f (.int 8) (.int n) ("r" ++ decT n):=by
  obtain ⟨a,b,c⟩:=num_told n0 (by omega)
  have st:fStarts (.str ("r" ++ decT n)) (.str "r")=some (.bl true):=by
    show some (D.bl (Txt.startswith (("r" : Str)++decT n) ⟨#[114]⟩))=_
    rw [starts_one,r_cps]
    rfl
  have sl:fSl (.str ("r" ++ decT n)) (some 1) none=some (.str (decT n)):=by
    show some (D.str (L2.cutS (("r" : Str)++decT n) (some 1) none))=_
    rw [r_cut]
  refine ⟨?_,⟨decT n,true,str_int (okI_small n0 (by omega)),add_r (by omega),by rfl,rfl⟩,by rw [len_app]; show 1+_≤_; omega,⟨by rw [r_cps]; simp,fun x hx=>?_⟩⟩
  · have g1:fEq (.str f) (.str "n")=some (.bl false):=by rcases hf with rfl | rfl<;>rfl
    rw [go_field_told]
    unfold b_field_told
    generalize ("r" : Str)++decT n=Z at *
    rcases hf with rfl | rfl
    · have e2:fEq (.str "d") (.str "d")=some (.bl true):=by rfl
      simp! [g1,e2,eSl,oSome,oNone,st,sl,a]
    · have e2:fEq (.str "s") (.str "d")=some (.bl false):=by rfl
      have e3:fEq (.str "s") (.str "s")=some (.bl true):=by rfl
      simp! [g1,e2,e3,eSl,oSome,oNone,st,sl,a]
  · rw [r_cps] at hx
    rcases List.mem_cons.mp hx with rfl | hx
    · decide
    · exact c.ok x hx
theorem pt_t {f t u:Str} (hf:f = "name" ∨ f = "mark") (ht:t.length≤20) (hw:Wd t.cps.toList):Pt f (.str u) (.str t) t:=by
  refine ⟨?_,⟨t,false,rfl,add_r (by omega),by rfl,rfl⟩,ht,hw⟩
  have e1:fEq (.str f) (.str "n")=some (.bl false):=by rcases hf with rfl | rfl<;>rfl
  have e2:fEq (.str f) (.str "d")=some (.bl false):=by rcases hf with rfl | rfl<;>rfl
  have e3:fEq (.str f) (.str "s")=some (.bl false):=by rcases hf with rfl | rfl<;>rfl
  rw [go_field_told]
  unfold b_field_told
  simp! [e1,e2,e3]
theorem join_ofL {sep:Str} {ts:List Str} (h:(ts.map (·.length)).sum+ts.length*sep.length≤16777216):fJoin (.str sep) (.lst (ts.map D.str))=some (.str (Builtin.Str.glued sep ts)):=by
  show (strsOf _).bind _=_
  rw [strs_of]
  show (if _≤LIM then _ else _)=_
  rw [if_pos h]
theorem tx0 {w:Str} {o:Bool} (hl:fEq (.str w) (.str "label")=some (.bl false)) (hw:w.length≤20) (hin:fGnin gk_FIELDS (.str w)=some (.bl false)) (hF:fGd gk_FIELDS gv_FIELDS (.str w)=some (.tup [])) (hs:F_law_shape [.str w]=some (o,.lst [])) (hi:F_is_item [.tup [.str w]]=some (false,.bl true)) (he:fEnds (.str w) (.str ":")=some (.bl false)) :
    F_law_item_text [.tup [.str w]]=some (false,.str (Builtin.Str.glued " " [w]))∧F_item_told [.lst [.str w]]=some (false,.tup [.str w]):=by
  have jn:fJoin (.str " ") (.lst [.str w])=some (.str (Builtin.Str.glued " " [w])):=join_ofL (ts:=[w]) (by show w.length+0+1*1≤_; omega)
  have sl:fSl (.lst [.str w]) (some 1) none=some (.lst []):=by rfl
  have ad:=add_lst (L:=[.str w]) (M:=[]) (by show 1+0≤_; omega)
  rw [show [D.str w]++[]=[.str w] from rfl] at ad
  have x0:fIx (.lst [.str w]) (.int 0)=some (.str w):=rfl
  have ln:fLen [.lst [.str w]]=some (.int 1):=rfl
  have lf:fLen [.tup []]=some (.int 0):=rfl
  have tp:fTuple [.lst [.str w]]=some (.tup [.str w]):=rfl
  have nn:fNe (.int ((1:Nat):Int)) (.int (((0:Nat):Int)+1))=some (.bl false):=rfl
  have n1:fEq (.int ((1:Nat):Int)) (.int 1)=some (.bl true):=rfl
  have rt:F_row_told [.lst [.str w]]=some (false,.tup [.str w]):=by
    rw [go_row_told]
    unfold b_row_told
    simp! [x0,hl,hin,hF,ln,lf,nn,add_int,iZip2,eSl,oSome,oNone,sl,seqD,List.zipWith_cons_cons,List.zipWith_nil_left,x_row_told_1,lcGo,tTrue,gTwo,ad,tp]
  constructor
  · have rr:r_law_item_text_1 [some (false,.tup [.str w]),some (false,.lst []),some (true,.lst [.str w]),none]=some []:=rfl
    rw [go_law_item_text]
    unfold b_law_item_text
    simp! [ix0,hl,hs,rr,l_law_item_text_1,add_int,jn]
  · rw [go_item_told]
    unfold b_item_told
    generalize D.tup [.str w]=TT at *
    simp! [rt,ln,n1,x0,he,hi]
theorem tx1 {w f1 z1:Str} {d1 k1:D} {o:Bool} (hl:fEq (.str w) (.str "label")=some (.bl false)) (hw:w.length≤20) (hin:fGnin gk_FIELDS (.str w)=some (.bl false)) (hF:fGd gk_FIELDS gv_FIELDS (.str w)=some (.tup [.str f1])) (hs:F_law_shape [.str w]=some (o,.lst [k1])) (P1:Pt f1 k1 d1 z1) (hi:F_is_item [.tup [.str w,d1]]=some (false,.bl true)) :
    F_law_item_text [.tup [.str w,d1]]=some (false,.str (Builtin.Str.glued " " [w,z1]))∧F_item_told [.lst [.str w,.str z1]]=some (false,.tup [.str w,d1]):=by
  obtain ⟨g1,⟨s1,b1,a1,b1',c1,e1⟩,l1,_⟩:=P1
  have jn:fJoin (.str " ") (.lst [.str w,.str z1])=some (.str (Builtin.Str.glued " " [w,z1])):=join_ofL (ts:=[w,z1]) (by show w.length+(z1.length+0)+2*1≤_; omega)
  have sl:fSl (.lst [.str w,.str z1]) (some 1) none=some (.lst [.str z1]):=by rfl
  have ad:=add_lst (L:=[.str w]) (M:=[d1]) (by show 1+1≤_; omega)
  rw [show [D.str w]++[d1]=[.str w,d1] from rfl] at ad
  have x0:fIx (.lst [.str w,.str z1]) (.int 0)=some (.str w):=rfl
  have ln:fLen [.lst [.str w,.str z1]]=some (.int 2):=rfl
  have lf:fLen [.tup [.str f1]]=some (.int 1):=rfl
  have tp:fTuple [.lst [.str w,d1]]=some (.tup [.str w,d1]):=rfl
  have nn:fNe (.int ((2:Nat):Int)) (.int (((1:Nat):Int)+1))=some (.bl false):=rfl
  have n1:fEq (.int ((2:Nat):Int)) (.int 1)=some (.bl false):=rfl
  have rt:F_row_told [.lst [.str w,.str z1]]=some (false,.tup [.str w,d1]):=by
    rw [go_row_told]
    unfold b_row_told
    simp! [x0,hl,hin,hF,ln,lf,nn,add_int,iZip2,eSl,oSome,oNone,sl,seqD,List.zipWith_cons_cons,List.zipWith_nil_left,x_row_told_1,lcGo,tTrue,gTwo,g1,ad,tp]
  constructor
  · have rr:r_law_item_text_1 [some (false,.tup [.str w,d1]),some (false,.lst [k1]),some (true,.lst [.str w]),none]=some [.int 0]:=rfl
    have i1:fIx (.tup [.str w,d1]) (.int 1)=some d1:=rfl
    have j1:fIx (.lst [k1]) (.int 0)=some k1:=rfl
    have p1:fApp (.lst [.str w]) (.str z1)=some (.lst [.str w,.str z1]):=app_ok (by simp)
    rw [go_law_item_text]
    unfold b_law_item_text
    simp! [ix0,hl,hs,rr,l_law_item_text_1,add_int,i1,j1,a1,b1',c1,e1,p1,jn]
  · rw [go_item_told]
    unfold b_item_told
    generalize D.tup [.str w,d1]=TT at *
    simp! [rt,ln,n1,x0,hi]
theorem tx2 {w f1 f2 z1 z2:Str} {d1 d2 k1 k2:D} {o:Bool} (hl:fEq (.str w) (.str "label")=some (.bl false)) (hw:w.length≤20) (hin:fGnin gk_FIELDS (.str w)=some (.bl false)) (hF:fGd gk_FIELDS gv_FIELDS (.str w)=some (.tup [.str f1,.str f2])) (hs:F_law_shape [.str w]=some (o,.lst [k1,k2])) (P1:Pt f1 k1 d1 z1) (P2:Pt f2 k2 d2 z2) (hi:F_is_item [.tup [.str w,d1,d2]]=some (false,.bl true)) :
    F_law_item_text [.tup [.str w,d1,d2]]=some (false,.str (Builtin.Str.glued " " [w,z1,z2]))∧F_item_told [.lst [.str w,.str z1,.str z2]]=some (false,.tup [.str w,d1,d2]):=by
  obtain ⟨g1,⟨s1,b1,a1,b1',c1,e1⟩,l1,_⟩:=P1
  obtain ⟨g2,⟨s2,b2,a2,b2',c2,e2⟩,l2,_⟩:=P2
  have jn:fJoin (.str " ") (.lst [.str w,.str z1,.str z2])=some (.str (Builtin.Str.glued " " [w,z1,z2])):=join_ofL (ts:=[w,z1,z2]) (by show w.length+(z1.length+(z2.length+0))+3*1≤_; omega)
  have sl:fSl (.lst [.str w,.str z1,.str z2]) (some 1) none=some (.lst [.str z1,.str z2]):=by rfl
  have ad:=add_lst (L:=[.str w]) (M:=[d1,d2]) (by show 1+2≤_; omega)
  rw [show [D.str w]++[d1,d2]=[.str w,d1,d2] from rfl] at ad
  have x0:fIx (.lst [.str w,.str z1,.str z2]) (.int 0)=some (.str w):=rfl
  have ln:fLen [.lst [.str w,.str z1,.str z2]]=some (.int 3):=rfl
  have lf:fLen [.tup [.str f1,.str f2]]=some (.int 2):=rfl
  have tp:fTuple [.lst [.str w,d1,d2]]=some (.tup [.str w,d1,d2]):=rfl
  have nn:fNe (.int ((3:Nat):Int)) (.int (((2:Nat):Int)+1))=some (.bl false):=rfl
  have n1:fEq (.int ((3:Nat):Int)) (.int 1)=some (.bl false):=rfl
  have rt:F_row_told [.lst [.str w,.str z1,.str z2]]=some (false,.tup [.str w,d1,d2]):=by
    rw [go_row_told]
    unfold b_row_told
    simp! [x0,hl,hin,hF,ln,lf,nn,add_int,iZip2,eSl,oSome,oNone,sl,seqD,List.zipWith_cons_cons,List.zipWith_nil_left,x_row_told_1,lcGo,tTrue,gTwo,g1,g2,ad,tp]
  constructor
  · have rr:r_law_item_text_1 [some (false,.tup [.str w,d1,d2]),some (false,.lst [k1,k2]),some (true,.lst [.str w]),none]=some [.int 0,.int 1]:=rfl
    have i1:fIx (.tup [.str w,d1,d2]) (.int 1)=some d1:=rfl
    have j1:fIx (.lst [k1,k2]) (.int 0)=some k1:=rfl
    have p1:fApp (.lst [.str w]) (.str z1)=some (.lst [.str w,.str z1]):=app_ok (by simp)
    have i2:fIx (.tup [.str w,d1,d2]) (.int 2)=some d2:=rfl
    have j2:fIx (.lst [k1,k2]) (.int 1)=some k2:=rfl
    have p2:fApp (.lst [.str w,.str z1]) (.str z2)=some (.lst [.str w,.str z1,.str z2]):=app_ok (by simp)
    rw [go_law_item_text]
    unfold b_law_item_text
    simp! [ix0,hl,hs,rr,l_law_item_text_1,add_int,i1,j1,a1,b1',c1,e1,p1,i2,j2,a2,b2',c2,e2,p2,jn]
  · rw [go_item_told]
    unfold b_item_told
    generalize D.tup [.str w,d1,d2]=TT at *
    simp! [rt,ln,n1,x0,hi]
theorem tx3 {w f1 f2 f3 z1 z2 z3:Str} {d1 d2 d3 k1 k2 k3:D} {o:Bool} (hl:fEq (.str w) (.str "label")=some (.bl false)) (hw:w.length≤20) (hin:fGnin gk_FIELDS (.str w)=some (.bl false)) (hF:fGd gk_FIELDS gv_FIELDS (.str w)=some (.tup [.str f1,.str f2,.str f3])) (hs:F_law_shape [.str w]=some (o,.lst [k1,k2,k3])) (P1:Pt f1 k1 d1 z1) (P2:Pt f2 k2 d2 z2) (P3:Pt f3 k3 d3 z3) (hi:F_is_item [.tup [.str w,d1,d2,d3]]=some (false,.bl true)) :
    F_law_item_text [.tup [.str w,d1,d2,d3]]=some (false,.str (Builtin.Str.glued " " [w,z1,z2,z3]))∧F_item_told [.lst [.str w,.str z1,.str z2,.str z3]]=some (false,.tup [.str w,d1,d2,d3]):=by
  obtain ⟨g1,⟨s1,b1,a1,b1',c1,e1⟩,l1,_⟩:=P1
  obtain ⟨g2,⟨s2,b2,a2,b2',c2,e2⟩,l2,_⟩:=P2
  obtain ⟨g3,⟨s3,b3,a3,b3',c3,e3⟩,l3,_⟩:=P3
  have jn:fJoin (.str " ") (.lst [.str w,.str z1,.str z2,.str z3])=some (.str (Builtin.Str.glued " " [w,z1,z2,z3])):=join_ofL (ts:=[w,z1,z2,z3]) (by show w.length+(z1.length+(z2.length+(z3.length+0)))+4*1≤_; omega)
  have sl:fSl (.lst [.str w,.str z1,.str z2,.str z3]) (some 1) none=some (.lst [.str z1,.str z2,.str z3]):=by rfl
  have ad:=add_lst (L:=[.str w]) (M:=[d1,d2,d3]) (by show 1+3≤_; omega)
  rw [show [D.str w]++[d1,d2,d3]=[.str w,d1,d2,d3] from rfl] at ad
  have x0:fIx (.lst [.str w,.str z1,.str z2,.str z3]) (.int 0)=some (.str w):=rfl
  have ln:fLen [.lst [.str w,.str z1,.str z2,.str z3]]=some (.int 4):=rfl
  have lf:fLen [.tup [.str f1,.str f2,.str f3]]=some (.int 3):=rfl
  have tp:fTuple [.lst [.str w,d1,d2,d3]]=some (.tup [.str w,d1,d2,d3]):=rfl
  have nn:fNe (.int ((4:Nat):Int)) (.int (((3:Nat):Int)+1))=some (.bl false):=rfl
  have n1:fEq (.int ((4:Nat):Int)) (.int 1)=some (.bl false):=rfl
  have rt:F_row_told [.lst [.str w,.str z1,.str z2,.str z3]]=some (false,.tup [.str w,d1,d2,d3]):=by
    rw [go_row_told]
    unfold b_row_told
    simp! [x0,hl,hin,hF,ln,lf,nn,add_int,iZip2,eSl,oSome,oNone,sl,seqD,List.zipWith_cons_cons,List.zipWith_nil_left,x_row_told_1,lcGo,tTrue,gTwo,g1,g2,g3,ad,tp]
  constructor
  · have rr:r_law_item_text_1 [some (false,.tup [.str w,d1,d2,d3]),some (false,.lst [k1,k2,k3]),some (true,.lst [.str w]),none]=some [.int 0,.int 1,.int 2]:=rfl
    have i1:fIx (.tup [.str w,d1,d2,d3]) (.int 1)=some d1:=rfl
    have j1:fIx (.lst [k1,k2,k3]) (.int 0)=some k1:=rfl
    have p1:fApp (.lst [.str w]) (.str z1)=some (.lst [.str w,.str z1]):=app_ok (by simp)
    have i2:fIx (.tup [.str w,d1,d2,d3]) (.int 2)=some d2:=rfl
    have j2:fIx (.lst [k1,k2,k3]) (.int 1)=some k2:=rfl
    have p2:fApp (.lst [.str w,.str z1]) (.str z2)=some (.lst [.str w,.str z1,.str z2]):=app_ok (by simp)
    have i3:fIx (.tup [.str w,d1,d2,d3]) (.int 3)=some d3:=rfl
    have j3:fIx (.lst [k1,k2,k3]) (.int 2)=some k3:=rfl
    have p3:fApp (.lst [.str w,.str z1,.str z2]) (.str z3)=some (.lst [.str w,.str z1,.str z2,.str z3]):=app_ok (by simp)
    rw [go_law_item_text]
    unfold b_law_item_text
    simp! [ix0,hl,hs,rr,l_law_item_text_1,add_int,i1,j1,a1,b1',c1,e1,p1,i2,j2,a2,b2',c2,e2,p2,i3,j3,a3,b3',c3,e3,p3,jn]
  · rw [go_item_told]
    unfold b_item_told
    generalize D.tup [.str w,d1,d2,d3]=TT at *
    simp! [rt,ln,n1,x0,hi]
end L3
namespace L3
open PySem
theorem low_wd {t:Str} (h1:1≤t.length) (h:lowB t=true):Wd t.cps.toList:=⟨fun z=>by
  have:=len_cps t
  rw [z] at this
  simp only [List.length_nil] at this
  omega,fun a ha=>by
  have q:=List.all_eq_true.mp h a ha
  rw [Bool.and_eq_true] at q
  have:=of_decide_eq_true q.1
  omega⟩
theorem colon_gone {z:Str} (h:58∈z.cps.toList):fGnin gk_FIELDS (.str z)=some (.bl true):=by
  have no:hasK gk_FIELDS (.inr z)=false:=by
    cases c:hasK gk_FIELDS (.inr z) with
    | false=>rfl
    | true=>
      obtain ⟨j,hj,e⟩:=List.any_eq_true.mp c
      have e:=of_decide_eq_true e
      have all:(gk_FIELDS.all fun j=>match j with | .inr s=>decide (58 ∉ s.cps.toList) | .inl _=>false)=true:=by decide +kernel
      have:=List.all_eq_true.mp all j hj
      rw [e] at this
      exact absurd h (of_decide_eq_true this)
  show some (D.bl (!hasK gk_FIELDS (.inr z)))=_
  rw [no]
  rfl
theorem colon_ne {z:Str} (h:58∈z.cps.toList):fEq (.str z) (.str "label")=some (.bl false):=by
  have ne:z ≠ "label" := fun e=>by
    rw [e] at h
    revert h
    decide
  show (fEqB (.str z) (.str "label")).bind _=_
  have:fEqB (.str z) (.str "label")=some (z == "label"):=rfl
  rw [this,beq_eq_false_iff_ne.mpr ne]
  rfl
theorem app_cut {t:Str}:L2.cutS (t ++ ":") none (some (-1))=t:=by
  have ln:(t ++ ":").length=t.length+1:=len_app t ":"
  have e:(L2.cutS (t ++ ":") none (some (-1))).cps.toList=t.cps.toList:=by
    show (((t ++ ":").cps.toList.drop (HT.sIx (t ++ ":").length 0 none)).take (HT.sIx (t ++ ":").length (t ++ ":").length (some (-1)) - HT.sIx (t ++ ":").length 0 none))=_
    have e1:HT.sIx (t ++ ":").length 0 none=0:=rfl
    have e2:HT.sIx (t ++ ":").length (t ++ ":").length (some (-1))=t.length:=by
      rw [ln]
      unfold HT.sIx
      simp
      omega
    rw [e1,e2,capp]
    show (t.cps.toList++[58]).take (t.length - 0)=_
    rw [Nat.sub_zero,← len_cps t,List.take_left']
    rfl
  obtain ⟨⟨l⟩⟩:=t
  generalize L2.cutS _ _ _=C at e
  obtain ⟨⟨m⟩⟩:=C
  cases (show m=l from e)
  rfl
theorem item_words {N:List Str} (hN:Names N) {d:D} (h:ItemA N d):∃ ws:List Str,ws≠[]∧ws.length≤4∧(∀ w∈ws,Wd w.cps.toList∧w.length≤20)∧F_law_item_text [d]=some (false,.str (Builtin.Str.glued " " ws))∧F_item_told [.lst (ws.map D.str)]=some (false,d):=by
  have hi:=made1 hN h
  have one:∀ {w:Str} {zs:List Str},w.length≤20→Wd w.cps.toList→(∀ z∈zs,Wd z.cps.toList∧z.length≤20)→∀ x∈w::zs,Wd x.cps.toList∧x.length≤20:=fun a b c x hx=>by
    rcases List.mem_cons.mp hx with rfl | hx
    · exact ⟨b,a⟩
    · exact c x hx
  have nil_:∀ z∈([]:List Str),Wd z.cps.toList∧z.length≤20:=fun _ h=>by cases h
  rcases h with h | ⟨t,ht,rfl⟩
  · cases h with
    | plain h=>
      cases h with
      | stop=>
        have he:fEnds (.str "stop") (.str ":")=some (.bl false):=by
          show some (D.bl (Txt.endswith ("stop" : Str) ⟨#[58]⟩))=_
          rw [ends_one _ _ (by decide)]
          rfl
        obtain ⟨a,b⟩:=tx0 (w := "stop") (by rfl) (by decide) (by rfl) (by rfl) shape_stop hi he
        exact ⟨["stop"],by simp,by simp,one (by decide) ⟨by decide,by decide⟩ nil_,a,b⟩
      | imm hw d0 d1 z0 z1=>
        rename_i w x n
        have p1:=pt_r (f := "d") (.inl rfl) d0 d1
        have p2:=pt_n (m:=65536) (by decide) z0 z1
        obtain ⟨a,b⟩:=tx2 (w:=w) (f1 := "d") (f2 := "n") (by rcases hw with rfl | rfl<;>rfl) (by rcases hw with rfl | rfl<;>decide) (by rcases hw with rfl | rfl<;>rfl) (by rcases hw with rfl | rfl<;>rfl) (shape_imm hw) p1 p2 hi
        exact ⟨_,by simp,by simp,one (by rcases hw with rfl | rfl<;>decide) (by rcases hw with rfl | rfl<;>exact ⟨by decide,by decide⟩) (one p1.ln p1.wd (one p2.ln p2.wd nil_)),a,b⟩
      | mov hw d0 d1 z0 z1=>
        rename_i w x n
        have p1:=pt_r (f := "d") (.inl rfl) d0 d1
        have p2:=pt_n (m:=32) (by decide) z0 (by omega)
        obtain ⟨a,b⟩:=tx2 (w:=w) (f1 := "d") (f2 := "n") (by rcases hw with rfl | rfl<;>rfl) (by rcases hw with rfl | rfl<;>decide) (by rcases hw with rfl | rfl<;>rfl) (by rcases hw with rfl | rfl<;>rfl) (shape_mov hw) p1 p2 hi
        exact ⟨_,by simp,by simp,one (by rcases hw with rfl | rfl<;>decide) (by rcases hw with rfl | rfl<;>exact ⟨by decide,by decide⟩) (one p1.ln p1.wd (one p2.ln p2.wd nil_)),a,b⟩
      | two hw d0 d1 z0 z1=>
        rename_i w x n
        have p1:=pt_r (f := "d") (.inl rfl) d0 d1
        have p2:=pt_r (f := "s") (.inr rfl) z0 z1
        obtain ⟨a,b⟩:=tx2 (w:=w) (f1 := "d") (f2 := "s") (by rcases hw with rfl | rfl | rfl | rfl | rfl | rfl | rfl | rfl | rfl<;>rfl) (by rcases hw with rfl | rfl | rfl | rfl | rfl | rfl | rfl | rfl | rfl<;>decide) (by rcases hw with rfl | rfl | rfl | rfl | rfl | rfl | rfl | rfl | rfl<;>rfl) (by rcases hw with rfl | rfl | rfl | rfl | rfl | rfl | rfl | rfl | rfl<;>rfl) (shape_two hw) p1 p2 hi
        exact ⟨_,by simp,by simp,one (by rcases hw with rfl | rfl | rfl | rfl | rfl | rfl | rfl | rfl | rfl<;>decide) (by rcases hw with rfl | rfl | rfl | rfl | rfl | rfl | rfl | rfl | rfl<;>exact ⟨by decide,by decide⟩) (one p1.ln p1.wd (one p2.ln p2.wd nil_)),a,b⟩
      | mem hw d0 d1 z0 z1 y0 y1=>
        rename_i w x n m
        have p1:=pt_r (f := "d") (.inl rfl) d0 d1
        have p2:=pt_r (f := "s") (.inr rfl) z0 z1
        have p3:=pt_n (m:=256) (by decide) y0 (by omega)
        obtain ⟨a,b⟩:=tx3 (w:=w) (f1 := "d") (f2 := "s") (f3 := "n") (by rcases hw with rfl | rfl | rfl | rfl<;>rfl) (by rcases hw with rfl | rfl | rfl | rfl<;>decide) (by rcases hw with rfl | rfl | rfl | rfl<;>rfl) (by rcases hw with rfl | rfl | rfl | rfl<;>rfl) (shape_mem hw) p1 p2 p3 hi
        exact ⟨_,by simp,by simp,one (by rcases hw with rfl | rfl | rfl | rfl<;>decide) (by rcases hw with rfl | rfl | rfl | rfl<;>exact ⟨by decide,by decide⟩) (one p1.ln p1.wd (one p2.ln p2.wd (one p3.ln p3.wd nil_))),a,b⟩
    | jump ht=>
      rename_i t
      obtain ⟨l1,l2,l3⟩:=name_len (hN.ok t ht)
      have p1:=pt_t (f := "name") (u := "name") (.inl rfl) (by omega) (low_wd l1 l3)
      obtain ⟨a,b⟩:=tx1 (w := "jump") (f1 := "name") (by rfl) (by decide) (by rfl) (by rfl) (shape_name (.inl rfl)) p1 hi
      exact ⟨_,by simp,by simp,one (by decide) ⟨by decide,by decide⟩ (one p1.ln p1.wd nil_),a,b⟩
    | cond hw hk ht=>
      rename_i w k0 t
      obtain ⟨l1,l2,l3⟩:=name_len (hN.ok t ht)
      have p1:=pt_t (f := "mark") (t:=k0) (u := "mark") (.inr rfl) (by rcases hk with rfl | rfl | rfl<;>decide) (by rcases hk with rfl | rfl | rfl<;>exact ⟨by decide,by decide⟩)
      have p2:=pt_t (f := "name") (u := "name") (.inl rfl) (by omega) (low_wd l1 l3)
      obtain ⟨a,b⟩:=tx2 (w:=w) (f1 := "mark") (f2 := "name") (by rcases hw with rfl | rfl<;>rfl) (by rcases hw with rfl | rfl<;>decide) (by rcases hw with rfl | rfl<;>rfl) (by rcases hw with rfl | rfl<;>rfl) (shape_cond hw) p1 p2 hi
      exact ⟨_,by simp,by simp,one (by rcases hw with rfl | rfl<;>decide) (by rcases hw with rfl | rfl<;>exact ⟨by decide,by decide⟩) (one p1.ln p1.wd (one p2.ln p2.wd nil_)),a,b⟩
  · obtain ⟨l1,l2,l3⟩:=name_len (hN.ok t ht)
    have wd:=low_wd l1 l3
    have zc:(t ++ ":").cps.toList=t.cps.toList++[58]:=capp t ":"
    have hz:58∈(t ++ ":").cps.toList:=by rw [zc]; exact List.mem_append_right _ List.mem_cons_self
    have ln:(t ++ ":").length=t.length+1:=len_app t ":"
    have c1:=colon_gone hz
    have c2:=colon_ne hz
    have c3:fEnds (.str (t ++ ":")) (.str ":")=some (.bl true):=by
      show some (D.bl (Txt.endswith (t ++ ":") ⟨#[58]⟩))=_
      rw [ends_one _ _ (by omega),zc,ln,Nat.add_sub_cancel,← len_cps t,List.getElem?_append_right (Nat.le_refl _),Nat.sub_self]
      rfl
    have c4:fSl (.str (t ++ ":")) none (some (-1))=some (.str t):=by
      show some (D.str (L2.cutS (t ++ ":") none (some (-1))))=_
      rw [app_cut]
    have ad:fAdd (.str t) (.str ":")=some (.str (t ++ ":")):=add_str (by show t.length+1≤_; omega)
    have i1:fIx (labelD t) (.int 1)=some (.str t):=rfl
    have lb:fEq (.str "label") (.str "label")=some (.bl true):=by rfl
    refine ⟨[t ++ ":"],by simp,by simp,one (by omega) ⟨by rw [zc]; simp,fun a ha=>?_⟩ nil_,?_,?_⟩
    · rw [zc] at ha
      rcases List.mem_append.mp ha with ha | ha
      · exact wd.ok a ha
      · rw [List.mem_singleton.mp ha]
        decide
    · have gl:Builtin.Str.glued " " [t ++ ":"]=t ++ ":" := by rw [StrLaws.glued_eq_join]; rfl
      rw [gl,go_law_item_text]
      unfold b_law_item_text
      have i0:fIx (labelD t) (.int 0)=some (.str "label"):=rfl
      simp! [i0,lb,i1,ad]
    · have x0:fIx (.lst [.str (t ++ ":")]) (.int 0)=some (.str (t ++ ":")):=rfl
      have rt:F_row_told [.lst [.str (t ++ ":")]]=some (false,.non):=by
        rw [go_row_told]
        unfold b_row_told
        generalize t ++ ":" = Z at *
        simp! [x0,c2,c1]
      have n1:fEq (.int ((1:Nat):Int)) (.int 1)=some (.bl true):=rfl
      show F_item_told [.lst [.str (t ++ ":")]]=_
      rw [go_item_told]
      unfold b_item_told
      generalize t ++ ":" = Z at *
      unfold labelD at hi ⊢
      simp! [rt,n1,x0,c3,eSl,oNone,oSome,c4,hi]
end L3
namespace L3
open PySem
noncomputable def b_is_jump:FS:=
  (sRet (e2 fIn (e2 fIx (eVar 0) (eC (.int 0))) (eC gt_JUMPS)))
noncomputable def F_is_jump:List D→Option (Bool×D):=FR 1 1 b_is_jump
theorem run_is_jump:∀ ds r,F_is_jump ds=some r→ds.length=1∧runF 1 b_is_jump ds=some r:=FR_ok
theorem go_is_jump (x0:D):F_is_jump [x0]=runF 1 b_is_jump [x0]:=rfl
noncomputable def x_words_in_1:FE:=(eVar 2)
noncomputable def y_words_in_1:FT:=(tE (e2 fNe (eVar 2) (eC (.str ""))))
noncomputable def b_words_in:FS:=
  (sSeq (sSet 1 (e1 (fRepl "\t" " ") (e1 (fTupIx 0) (e2 fPart (eVar 0) (eC (.str ";"))))))
    (sRetO (eLc 1 (iSeq (e2 fSplit (eVar 1) (eC (.str " ")))) (gVar 2) y_words_in_1 x_words_in_1)))
noncomputable def F_words_in:List D→Option (Bool×D):=FR 1 2 b_words_in
theorem run_words_in:∀ ds r,F_words_in ds=some r→ds.length=1∧runF 2 b_words_in ds=some r:=FR_ok
theorem go_words_in (x0:D):F_words_in [x0]=runF 2 b_words_in [x0]:=rfl
noncomputable def l_told_rows_1:FS:=(sSeq (sSet 4 (eCall F_words_in (aCons (eVar 3) aNil)))
        (sIf (tE (e2 fNe (eVar 4) (eLst aNil)))
          (sMut1 1 fApp (eTup (aCons (eVar 2) (aCons (eCall F_item_told (aCons (eVar 4) aNil)) aNil))))
          sNext))
noncomputable def b_told_rows:FS:=
  (sSeq (sSetO 1 (eLst aNil))
    (sSeq (sFor (iEnum (e2 fSplit (eVar 0) (eC (.str "\n")))) (gTwo 2 3)
      l_told_rows_1)
    (sRetV 1)))
noncomputable def F_told_rows:List D→Option (Bool×D):=FR 1 5 b_told_rows
theorem run_told_rows:∀ ds r,F_told_rows ds=some r→ds.length=1∧runF 5 b_told_rows ds=some r:=FR_ok
theorem go_told_rows (x0:D):F_told_rows [x0]=runF 5 b_told_rows [x0]:=rfl
noncomputable def l_least_fault_1:FS:=(sIf (tAndF (tE (e2 fNotN (eVar 3) (eC .non))) (tE (eCall F_is_label (aCons (eVar 3) aNil))))
          (sPut 1 (e2 fIx (eVar 3) (eC (.int 1))) (eC (.bl true)))
          sNext)
noncomputable def l_least_fault_2:FS:=(sSeq (sIf (tE (e2 fIsN (eVar 3) (eC .non)))
          (sRet (eVar 2))
          sNext)
        (sSeq (sIf (tAndF (tE (eCall F_is_jump (aCons (eVar 3) aNil))) (tE (e2 fNotIn (e2 fIx (eVar 3) (e1 fNeg (eC (.int 1)))) (eVar 1))))
          (sRet (eVar 2))
          sNext)
        (sIf (tE (eCall F_is_label (aCons (eVar 3) aNil)))
          (sSeq (sIf (tE (e2 fIn (e2 fIx (eVar 3) (eC (.int 1))) (eAny 4)))
              (sRet (eVar 2))
              sNext)
            (sPut 4 (e2 fIx (eVar 3) (eC (.int 1))) (eC (.bl true))))
          sNext)))
noncomputable def b_least_fault:FS:=
  (sSeq (sSetO 1 (eC (.dic [] [])))
    (sSeq (sFor (iSeq (eVar 0)) (gTwo 2 3)
      l_least_fault_1)
    (sSeq (sFreeze 1) (sSeq (sSetO 4 (eC (.dic [] [])))
    (sSeq (sFor (iSeq (eVar 0)) (gTwo 2 3)
      l_least_fault_2)
    (sSeq (sFreeze 4) (sRet (eC .non))))))))
noncomputable def F_least_fault:List D→Option (Bool×D):=FR 1 5 b_least_fault
theorem run_least_fault:∀ ds r,F_least_fault ds=some r→ds.length=1∧runF 5 b_least_fault ds=some r:=FR_ok
theorem go_least_fault (x0:D):F_least_fault [x0]=runF 5 b_least_fault [x0]:=rfl
noncomputable def b_fault:FS:=
  (sRet (eCall F_least_fault (aCons (eCall F_told_rows (aCons (eVar 0) aNil)) aNil)))
noncomputable def F_fault:List D→Option (Bool×D):=FR 1 1 b_fault
theorem run_fault:∀ ds r,F_fault ds=some r→ds.length=1∧runF 1 b_fault ds=some r:=FR_ok
theorem go_fault (x0:D):F_fault [x0]=runF 1 b_fault [x0]:=rfl
noncomputable def x_read_1:FE:=(eVar 4)
noncomputable def b_read:FS:=
  (sSeq (sSet 1 (eCall F_told_rows (aCons (eVar 0) aNil)))
    (sSeq (sSet 2 (eCall F_least_fault (aCons (eVar 1) aNil)))
    (sSeq (sIf (tE (e2 fNotN (eVar 2) (eC .non)))
      (fun _=>none)
      sNext)
    (sRetO (eLc 2 (iSeq (eVar 1)) (gTwo 3 4) tTrue x_read_1)))))
noncomputable def F_read:List D→Option (Bool×D):=FR 1 3 b_read
theorem run_read:∀ ds r,F_read ds=some r→ds.length=1∧runF 3 b_read ds=some r:=FR_ok
theorem go_read (x0:D):F_read [x0]=runF 3 b_read [x0]:=rfl
noncomputable def sD (l:List Nat):D:=.str ⟨l.toArray⟩
theorem sD_cps (z:Str):sD z.cps.toList=.str z:=by
  obtain ⟨⟨l⟩⟩:=z
  rfl
theorem words_in_F {row:Str} (h:row.length≤100000):F_words_in [.str row]=some (true,.lst ((W row.cps.toList).map sD)):=by
  have sum:=congrArg Str.length (StrLaws.partition_sum row ⟨#[59]⟩)
  rw [len_app,len_app] at sum
  have fp:fPart (.str row) (.str ";")=some (.tup [.str (Txt.partition row ⟨#[59]⟩).1,.str (Txt.partition row ⟨#[59]⟩).2.1,.str (Txt.partition row ⟨#[59]⟩).2.2]):=if_pos ⟨rfl,by show (Txt.partition row ⟨#[59]⟩).1.length≤_; omega,by show (Txt.partition row ⟨#[59]⟩).2.1.length≤_; omega,by show (Txt.partition row ⟨#[59]⟩).2.2.length≤_; omega⟩
  have pc:=part_cps row 59
  generalize (Txt.partition row ⟨#[59]⟩).1=P1 at *
  generalize (Txt.partition row ⟨#[59]⟩).2.1=P2 at *
  generalize (Txt.partition row ⟨#[59]⟩).2.2=P3 at *
  have t0:fTupIx 0 (.tup [.str P1,.str P2,.str P3])=some (.str P1):=rfl
  have rc:=repl_cps P1 9 32
  have rl:(Txt.replace P1 ⟨#[9]⟩ ⟨#[32]⟩).length=P1.length:=by rw [← len_cps,rc,List.length_map,len_cps]
  have fr:fRepl "\t" " " (.str P1)=some (.str (Txt.replace P1 ⟨#[9]⟩ ⟨#[32]⟩)):=if_pos ⟨by show P1.length+(P1.length+1)*1≤_; omega,by show (Txt.replace P1 ⟨#[9]⟩ ⟨#[32]⟩).length≤_; omega⟩
  generalize Txt.replace P1 ⟨#[9]⟩ ⟨#[32]⟩=R at *
  have fs:fSplit (.str R) (.str " ")=some (.lst ((Txt.split R ⟨#[32]⟩).map D.str)):=if_pos ⟨rfl,by omega⟩
  have lc:=lc_all (g:=gVar 2) (c:=y_words_in_1) (e:=x_words_in_1) (σ:=[some (false,.str row),some (false,.str R),none]) (fun d=>match d with | .str z=>!z.cps.toList.isEmpty | _=>false) id (ds:=(Txt.split R ⟨#[32]⟩).map D.str) fun d hd=>by
    obtain ⟨z,_,rfl⟩:=List.mem_map.mp hd
    have n:fNe (.str z) (.str "")=some (.bl (!z.cps.toList.isEmpty)):=by
      obtain ⟨⟨l⟩⟩:=z
      cases l<;>rfl
    refine ⟨_,rfl,?_,fun _=>rfl⟩
    unfold y_words_in_1
    simp! [n]
  have ws:W row.cps.toList=((Txt.split R ⟨#[32]⟩).map fun t=>t.cps.toList).filter fun p=>!p.isEmpty:=by
    unfold W
    rw [split_cps,rc,pc]
    rfl
  have fin:(((Txt.split R ⟨#[32]⟩).map D.str).filter fun d=>match d with | .str z=>!z.cps.toList.isEmpty | _=>false).map id=(W row.cps.toList).map sD:=by
    rw [ws,List.map_id,List.filter_map,List.filter_map,List.map_map]
    refine List.map_congr_left fun z _=>(sD_cps z).symm
  rw [fin] at lc
  rw [go_words_in]
  unfold b_words_in
  generalize (W row.cps.toList).map sD=WW at *
  generalize (Txt.split R ⟨#[32]⟩).map D.str=SS at *
  simp! [fp,t0,fr,fs,lc]
inductive Tells:List (List Nat)→List D→Prop
  | nil:Tells [] []
  | skip {l:List Nat} {ps:List (List Nat)} {items:List D}:W l=[]→Tells ps items→Tells (l::ps) items
  | one {l:List Nat} {ps:List (List Nat)} {d:D} {items:List D}:W l≠[]→F_item_told [.lst ((W l).map sD)]=some (false,d)→Tells ps items→Tells (l::ps) (d::items)
theorem Tells.app:∀ {a b:List (List Nat)} {x y:List D},Tells a x→Tells b y→Tells (a++b) (x++y)
  | _,_,_,_,.nil,h=>h
  | _,_,_,_,.skip e r,h=>.skip e (r.app h)
  | _,_,_,_,.one e f r,h=>.one e f (r.app h)
noncomputable def Numb (d r:D):Prop:=∃ k:Nat,r=.tup [.int (k:Int),d]
theorem each_snoc {R:D→D→Prop} {x y:D} (h:R x y):∀ {xs ys:List D},Each R xs ys→Each R (xs++[x]) (ys++[y])
  | _,_,.nil=>.cons h .nil
  | _,_,.cons a r=>.cons a (each_snoc h r)
theorem told_rows_F {T:Str} (hT:T.length≤100000) {items:List D} (hn:items.length≤900) (hq:Tells (spl 10 T.cps.toList) items):∃ R:List D,F_told_rows [.str T]=some (true,.lst R)∧Each Numb items R:=by
  have fs:fSplit (.str T) (.str "\n")=some (.lst ((Txt.split T ⟨#[10]⟩).map D.str)):=if_pos ⟨rfl,by omega⟩
  have sc:=split_cps T 10
  have sl:(Txt.split T ⟨#[10]⟩).length≤T.length+2:=PyProof.Rows.split_le T ⟨#[10]⟩
  have sp:∀ z∈Txt.split T ⟨#[10]⟩,z.length≤T.length:=fun z hz=>PyProof.Rows.part_short hz
  generalize Txt.split T ⟨#[10]⟩=zs at *
  rw [← sc] at hq
  have en:iEnum (e2 fSplit (eVar 0) (eC (.str "\n"))) [some (false,.str T),some (true,.lst []),none,none,none]=some (numbered (zs.map D.str)):=by
    unfold iEnum
    have:e2 fSplit (eVar 0) (eC (.str "\n")) [some (false,.str T),some (true,.lst []),none,none,none]=some (.lst (zs.map D.str)):=by simp! [fs]
    rw [this]
    rfl
  obtain ⟨σ',e,R,i1,i2,x2,x3,x4,a1,a2,a3,a4,rfl⟩:=loop_by (g:=gTwo 2 3) (b:=l_told_rows_1) (fun i σ=>∃ R i1 i2 x2 x3 x4,items=i1++i2∧Each Numb i1 R∧Tells ((zs.map fun t:Str=>t.cps.toList).drop i) i2∧R.length≤i∧σ=[some (false,.str T),some (true,.lst R),x2,x3,x4]) (ds:=numbered (zs.map D.str))
    (σ:=[some (false,.str T),some (true,.lst []),none,none,none]) 0 ⟨[],[],items,none,none,none,rfl,.nil,hq,Nat.le_refl _,rfl⟩ (by
    rintro i v σ hv ⟨R,i1,i2,x2,x3,x4,a1,a2,a3,a4,rfl⟩
    rw [Nat.zero_add] at *
    rw [numbered_get,List.getElem?_map] at hv
    obtain ⟨z,hz,rfl⟩:∃ z,zs[i]?=some z∧v=.tup [.int (i:Int),.str z]:=by
      cases q:zs[i]? with
      | none=>rw [q] at hv; cases hv
      | some z=>rw [q] at hv; cases hv; exact ⟨z,rfl,rfl⟩
    have hi:=(List.getElem?_eq_some_iff.mp hz).1
    have hm:=List.mem_of_getElem? hz
    have dr:(zs.map fun t:Str=>t.cps.toList).drop i=z.cps.toList::(zs.map fun t:Str=>t.cps.toList).drop (i+1):=by
      rw [List.drop_eq_getElem_cons (by rw [List.length_map]; exact hi),List.getElem_map]
      rw [(List.getElem?_eq_some_iff.mp hz).2]
    rw [dr] at a3
    have wf:=words_in_F (row:=z) (Nat.le_trans (sp z hm) hT)
    cases a3 with
    | skip e r=>
      rw [e] at wf
      have ne:fNe (.lst ([].map sD)) (.lst [])=some (.bl false):=rfl
      refine ⟨_,[some (false,.str T),some (true,.lst R),some (false,.int (i:Int)),some (false,.str z),some (false,.lst [])],rfl,.inl ?_,R,i1,i2,_,_,_,a1,a2,r,by omega,rfl⟩
      have ne:fNe (.lst []) (.lst [])=some (.bl false):=rfl
      have wf:F_words_in [.str z]=some (true,.lst []):=wf
      unfold l_told_rows_1
      simp! [wf,ne]
    | one e f r=>
      rename_i d i2'
      have ne:fNe (.lst ((W z.cps.toList).map sD)) (.lst [])=some (.bl true):=by
        cases q:W z.cps.toList with
        | nil=>exact absurd q e
        | cons a b=>rfl
      have ap:=app_ok (L:=R) (r:=.tup [.int (i:Int),d]) (by
        have:=each_len a2
        have:=congrArg List.length a1
        rw [List.length_append] at this
        omega)
      refine ⟨_,[some (false,.str T),some (true,.lst (R++[.tup [.int (i:Int),d]])),some (false,.int (i:Int)),some (false,.str z),some (false,.lst ((W z.cps.toList).map sD))],rfl,.inl ?_,_,i1++[d],i2',_,_,_,by rw [a1,List.append_assoc]; rfl,each_snoc ⟨i,rfl⟩ a2,r,by rw [List.length_append]; simp only [List.length_cons,List.length_nil]; omega,rfl⟩
      unfold l_told_rows_1
      generalize (W z.cps.toList).map sD=WW at *
      simp! [wf,ne,f,ap])
  have dn:(zs.map fun t:Str=>t.cps.toList).drop (0+(numbered (zs.map D.str)).length)=[]:=List.drop_eq_nil_of_le (by rw [numbered_len,List.length_map,List.length_map]; omega)
  rw [dn] at a3
  cases a3
  rw [List.append_nil] at a1
  subst a1
  refine ⟨R,?_,a2⟩
  rw [go_told_rows]
  unfold b_told_rows
  generalize numbered (zs.map D.str)=NN at *
  simp! [en,e]
theorem isj_T {d:D} (h:Item d):F_is_jump [d]=some (false,.bl (isJ d)):=by
  have:∃ w,fIx d (.int 0)=some (.str w)∧fIn (.str w) gt_JUMPS=some (.bl (isJ d)):=by
    cases h with
    | label=>exact ⟨_,rfl,rfl⟩
    | plain h=>
      obtain ⟨w,a,b,_,c,_⟩:=plain_fx h
      exact ⟨w,a,by rw [c]; exact b⟩
    | jump=>exact ⟨_,rfl,rfl⟩
    | cond t hw hk=>rcases hw with rfl | rfl<;>exact ⟨_,rfl,rfl⟩
  obtain ⟨w,a,b⟩:=this
  rw [go_is_jump]
  unfold b_is_jump
  simp! [a,b]
theorem item_label' {d:D} (h:Item d) (hl:isL d=true):∃ t,d=labelD t:=by
  cases h with
  | label t=>exact ⟨t,rfl⟩
  | plain h=>
    obtain ⟨_,_,_,z,_⟩:=rowG_fx (m:=0) (.inl h)
    rw [z] at hl
    cases hl
  | jump=>cases hl
  | cond t hw hk=>rcases hw with rfl | rfl<;>cases hl
theorem item_tup {d:D} (h:Item d):∃ xs,d=.tup xs:=by
  cases h with
  | label t=>exact ⟨_,rfl⟩
  | plain h=>cases h<;>exact ⟨_,rfl⟩
  | jump=>exact ⟨_,rfl⟩
  | cond=>exact ⟨_,rfl⟩
theorem least_F {N:List Str} {items:List D} (P:Prog N items) {R:List D} (E:Each Numb items R):F_least_fault [.lst R]=some (false,.non):=by
  have hI:∀ d∈items,Item d:=fun d hd=>itemA_item (P.it d hd)
  have ln:=P.ln
  have el:=each_len E
  have at_:∀ {i:Nat} {r:D},R[i]?=some r→∃ d,items[i]?=some d∧d∈items∧Numb d r:=fun {i r} h=>by
    have hi:i<items.length:=by rw [el]; exact (List.getElem?_eq_some_iff.mp h).1
    obtain ⟨y,hy,n⟩:=each_get E (List.getElem?_eq_getElem hi)
    rw [h] at hy
    cases hy
    exact ⟨_,List.getElem?_eq_getElem hi,List.getElem_mem hi,n⟩
  have tk:∀ {i:Nat} {d:D},items[i]?=some d→items.take (i+1)=items.take i++[d]:=fun {i d} h=>by
    obtain ⟨hi,e⟩:=List.getElem?_eq_some_iff.mp h
    rw [List.take_succ_eq_append_getElem hi,e]
  have nn:∀ {d:D},Item d→fNotN d .non=some (.bl true)∧fIsN d .non=some (.bl false):=fun {d} h=>by
    obtain ⟨xs,rfl⟩:=item_tup h
    exact ⟨rfl,rfl⟩
  have nd:(items.filter isL).Nodup:=P.lb.nodup_iff.mpr (List.pairwise_map.mpr (List.Pairwise.imp (fun {a b} h z=>h (by cases z; rfl)) P.nm.nd))
  obtain ⟨σ',e1,ks,vs,x2,x3,a1,a2,a3,rfl⟩:=loop_by (g:=gTwo 2 3) (b:=l_least_fault_1) (fun i σ=>∃ ks vs x2 x3,ks.length=vs.length∧ks.length≤i∧(∀ t,labelD t∈items.take i→hasK ks (.inr t)=true)∧σ=[some (false,.lst R),some (true,.dic ks vs),x2,x3,none]) (ds:=R)
    (σ:=[some (false,.lst R),some (true,.dic [] []),none,none,none]) 0 ⟨[],[],none,none,rfl,Nat.le_refl _,(fun t h=>by cases h),rfl⟩ (by
    rintro i v σ hv ⟨ks,vs,x2,x3,a1,a2,a3,rfl⟩
    rw [Nat.zero_add] at *
    obtain ⟨d,hd,hm,k,rfl⟩:=at_ hv
    have hIv:=hI d hm
    have hf:=isl_F hIv
    have n1:=(nn hIv).1
    have hi:i<items.length:=(List.getElem?_eq_some_iff.mp hd).1
    cases hL:isL d with
    | true=>
      obtain ⟨u,rfl⟩:=item_label' hIv hL
      rw [hL] at hf
      have i1:fIx (labelD u) (.int 1)=some (.str u):=rfl
      have kd:keyD (.str u)=some (.inr u):=rfl
      have hlim:ks.length<LIM:=by show _<16777216; omega
      refine ⟨_,[some (false,.lst R),some (true,.dic (putKs ks (.inr u)) (putVs ks vs (.inr u) (.bl true))),some (false,.int (k:Int)),some (false,labelD u),none],rfl,.inl ?_,putKs ks (.inr u),putVs ks vs (.inr u) (.bl true),_,_,put_len a1,?_,fun t ht=>?_,rfl⟩
      · unfold l_least_fault_1
        unfold labelD at *
        simp! [hf,sPut,i1,kd,if_pos hlim]
      · unfold putKs
        split
        · omega
        · rw [List.length_append]; show _+1≤_; omega
      · rw [has_put]
        rw [tk hd] at ht
        rcases List.mem_append.mp ht with ht | ht
        · rw [a3 t ht]
          rfl
        · cases List.mem_singleton.mp ht
          rw [decide_eq_true rfl,Bool.or_true]
    | false=>
      rw [hL] at hf
      refine ⟨_,[some (false,.lst R),some (true,.dic ks vs),some (false,.int (k:Int)),some (false,d),none],rfl,.inl ?_,ks,vs,_,_,a1,by omega,fun t ht=>?_,rfl⟩
      · obtain ⟨xs,rfl⟩:=item_tup hIv
        unfold l_least_fault_1
        simp! [hf]
      · rw [tk hd] at ht
        rcases List.mem_append.mp ht with ht | ht
        · exact a3 t ht
        · rw [← List.mem_singleton.mp ht] at hL
          cases hL)
  rw [Nat.zero_add,← el,List.take_length] at a3
  have known:∀ t∈N,hasK ks (.inr t)=true:=fun t ht=>a3 t (by
    have:labelD t∈N.map labelD:=List.mem_map.mpr ⟨t,ht,rfl⟩
    exact (List.mem_filter.mp (P.lb.mem_iff.mpr this)).1)
  have jn:∀ d∈items,isJ d=true→∃ t∈N,fIx d (.int (-1))=some (.str t):=fun d hd hj=>by
    rcases P.it d hd with h | ⟨t,_,rfl⟩
    · cases h with
      | plain h=>
        obtain ⟨_,_,_,_,z,_⟩:=plain_fx h
        rw [z] at hj
        cases hj
      | jump ht=>exact ⟨_,ht,rfl⟩
      | cond hw hk ht=>exact ⟨_,ht,rfl⟩
    · cases hj
  obtain ⟨σ',e2,k2,v2,y2,y3,b1,b2,b3,rfl⟩:=loop_by (g:=gTwo 2 3) (b:=l_least_fault_2) (fun i σ=>∃ k2 v2 x2 x3,k2.length=v2.length∧k2.length≤i∧(∀ t,hasK k2 (.inr t)=true→labelD t∈items.take i)∧σ=[some (false,.lst R),some (false,.dic ks vs),x2,x3,some (true,.dic k2 v2)]) (ds:=R)
    (σ:=[some (false,.lst R),some (false,.dic ks vs),x2,x3,some (true,.dic [] [])]) 0 ⟨[],[],x2,x3,rfl,Nat.le_refl _,(fun t h=>by cases h),rfl⟩ (by
    rintro i v σ hv ⟨k2,v2,x2,x3,b1,b2,b3,rfl⟩
    rw [Nat.zero_add] at *
    obtain ⟨d,hd,hm,k,rfl⟩:=at_ hv
    have hIv:=hI d hm
    have hf:=isl_F hIv
    have hj:=isj_T hIv
    have n1:=(nn hIv).2
    have hi:i<items.length:=(List.getElem?_eq_some_iff.mp hd).1
    have sub:∀ t,labelD t∈items.take i→labelD t∈items.take (i+1):=fun t ht=>by rw [tk hd]; exact List.mem_append_left _ ht
    cases hL:isL d with
    | true=>
      obtain ⟨u,rfl⟩:=item_label' hIv hL
      rw [hL] at hf
      rw [isL_notJ hL] at hj
      have i1:fIx (labelD u) (.int 1)=some (.str u):=rfl
      have kd:keyD (.str u)=some (.inr u):=rfl
      have hlim:k2.length<LIM:=by show _<16777216; omega
      have no:hasK k2 (.inr u)=false:=by
        cases c:hasK k2 (.inr u) with
        | false=>rfl
        | true=>
          exfalso
          have h1:=b3 u c
          have e:items=items.take i++(labelD u::items.drop (i+1)):=by
            have:=List.take_append_drop i items
            rw [List.drop_eq_getElem_cons hi,(List.getElem?_eq_some_iff.mp hd).2] at this
            exact this.symm
          rw [e,List.filter_append,List.filter_cons_of_pos hL] at nd
          have:=(List.nodup_append.mp nd).2.2 _ (List.mem_filter.mpr ⟨h1,hL⟩) _ List.mem_cons_self
          exact this rfl
      have fi:fIn (.str u) (.dic k2 v2)=some (.bl false):=by
        show some (D.bl (hasK k2 (.inr u)))=_
        rw [no]
      refine ⟨_,[some (false,.lst R),some (false,.dic ks vs),some (false,.int (k:Int)),some (false,labelD u),some (true,.dic (putKs k2 (.inr u)) (putVs k2 v2 (.inr u) (.bl true)))],rfl,.inl ?_,putKs k2 (.inr u),putVs k2 v2 (.inr u) (.bl true),_,_,put_len b1,?_,fun t ht=>?_,rfl⟩
      · unfold l_least_fault_2
        unfold labelD at *
        simp! [hj,hf,i1,fi,sPut,kd,if_pos hlim]
      · unfold putKs
        split
        · omega
        · rw [List.length_append]; show _+1≤_; omega
      · rw [has_put,Bool.or_eq_true,decide_eq_true_iff] at ht
        rcases ht with ht | ht
        · exact sub t (b3 t ht)
        · cases ht
          rw [tk hd]
          exact List.mem_append_right _ List.mem_cons_self
    | false=>
      rw [hL] at hf
      refine ⟨_,[some (false,.lst R),some (false,.dic ks vs),some (false,.int (k:Int)),some (false,d),some (true,.dic k2 v2)],rfl,.inl ?_,k2,v2,_,_,b1,by omega,fun t ht=>sub t (b3 t ht),rfl⟩
      cases hJ:isJ d with
      | false=>
        rw [hJ] at hj
        obtain ⟨xs,rfl⟩:=item_tup hIv
        unfold l_least_fault_2
        simp! [hj,hf]
      | true=>
        rw [hJ] at hj
        obtain ⟨t,ht,lx⟩:=jn d hm hJ
        have fi:fNotIn (.str t) (.dic ks vs)=some (.bl false):=by
          show some (D.bl (!hasK ks (.inr t)))=_
          rw [known t ht]
          rfl
        obtain ⟨xs,rfl⟩:=item_tup hIv
        unfold l_least_fault_2
        simp! [hj,lx,fi,hf])
  rw [go_least_fault]
  unfold b_least_fault
  simp! [e1,e2]
theorem each_lcT {R:D→D→Prop} {g:FG} {e:FE} {σ:SEnv} (h:∀ r y,R r y→∃ σ1,g y σ=some σ1∧e σ1=some r):∀ {rs ys:List D},Each R rs ys→lcGo g tTrue e σ ys=some rs
  | _,_,.nil=>rfl
  | r::rs,y::ys,.cons x xs=>by
    obtain ⟨σ1,e1,e2⟩:=h r y x
    show (g y σ).bind _=_
    rw [e1]
    show (e σ1).bind _=_
    rw [e2]
    show (lcGo g tTrue e σ ys).bind _=_
    rw [each_lcT h xs]
    rfl
theorem read_T {N:List Str} {items:List D} (P:Prog N items) {T:Str} (hT:T.length≤100000) (hq:Tells (spl 10 T.cps.toList) items):F_fault [.str T]=some (false,.non)∧F_read [.str T]=some (true,.lst items):=by
  have ln:=P.ln
  obtain ⟨R,e1,E⟩:=told_rows_F hT (by omega) hq
  have e2:=least_F P E
  have lc:lcGo (gTwo 3 4) tTrue x_read_1 [some (false,.str T),some (false,.lst R),some (false,.non),none,none] R=some items:=each_lcT (R:=Numb) (fun d r h=>by
    obtain ⟨k,rfl⟩:=h
    exact ⟨_,rfl,rfl⟩) E
  refine ⟨?_,?_⟩
  · rw [go_fault]
    unfold b_fault
    simp! [e1,e2]
  · rw [go_read]
    unfold b_read
    simp! [e1,e2,lc]
end L3
namespace L3
open PySem
noncomputable def r_law_loose_1:FA:=(iRange (eC (.int 0)) (eL fLen (aCons (eVar 2) aNil)))
noncomputable def l_law_loose_1:FS:=(sSet 3 (e2 fAdd (e2 fAdd (eVar 3) (e2 fIx (eVar 2) (eVar 4))) (e2 fIx (eLst (aCons (eC (.str " ")) (aCons (eC (.str "  ")) (aCons (eC (.str "\t")) (aCons (eC (.str " \t ")) aNil))))) (eCall F_law_mixed (aCons (eVar 1) (aCons (e2 fAdd (eC (.int 2)) (eVar 4)) (aCons (eC (.int 4)) aNil)))))))
noncomputable def b_law_loose:FS:=
  (sSeq (sSet 2 (e2 fSplit (eVar 0) (eC (.str " "))))
    (sSeq (sSet 3 (e2 fIx (eLst (aCons (eC (.str "")) (aCons (eC (.str " ")) (aCons (eC (.str "\t")) (aCons (eC (.str "  \t ")) aNil))))) (eCall F_law_mixed (aCons (eVar 1) (aCons (eC (.int 1)) (aCons (eC (.int 4)) aNil))))))
    (sSeq (sFor r_law_loose_1 (gVar 4)
      l_law_loose_1)
    (sSeq (sIf (tE (e2 (fCmp fun i j=>decide (j<i)) (eCall F_law_mixed (aCons (eVar 1) (aCons (eC (.int 7)) (aCons (eC (.int 3)) aNil)))) (eC (.int 0))))
      (sSet 3 (e2 fStrip (eVar 3) (eC (.str " \t"))))
      sNext)
    (sSeq (sSet 5 (eLst (aCons (eC (.str "")) (aCons (eC (.str ";")) (aCons (eC (.str " ; set r1 2")) (aCons (eC (.str ";;")) (aCons (eC (.str "\t;loop: jump")) (aCons (eC (.str "; note")) aNil))))))))
    (sRet (e2 fAdd (eVar 3) (e2 fIx (eVar 5) (eCall F_law_mixed (aCons (eVar 1) (aCons (eC (.int 8)) (aCons (eC (.int 6)) aNil))))))))))))
noncomputable def F_law_loose:List D→Option (Bool×D):=FR 2 6 b_law_loose
theorem run_law_loose:∀ ds r,F_law_loose ds=some r→ds.length=2∧runF 6 b_law_loose ds=some r:=FR_ok
theorem go_law_loose (x0 x1:D):F_law_loose [x0,x1]=runF 6 b_law_loose [x0,x1]:=rfl
noncomputable def r_law_lines_1:FA:=(iRange (eC (.int 0)) (eL fLen (aCons (eVar 0) aNil)))
noncomputable def l_law_lines_1:FS:=(sSeq (sIf (tE (e2 fEq (eCall F_law_mixed (aCons (e2 fAdd (eVar 1) (eVar 3)) (aCons (eC (.int 9)) (aCons (eC (.int 6)) aNil)))) (eC (.int 1))))
          (sMut1 2 fApp (e2 fIx (eLst (aCons (eC (.str "")) (aCons (eC (.str "  ")) (aCons (eC (.str "\t")) (aCons (eC (.str "; stop")) (aCons (eC (.str " ;")) (aCons (eC (.str "\t \t;a:")) aNil))))))) (eCall F_law_mixed (aCons (e2 fAdd (eVar 1) (eVar 3)) (aCons (eC (.int 10)) (aCons (eC (.int 6)) aNil))))))
          sNext)
        (sMut1 2 fApp (eCall F_law_loose (aCons (eCall F_law_item_text (aCons (e2 fIx (eVar 0) (eVar 3)) aNil)) (aCons (e2 fAdd (eVar 1) (e2 fMulL (eC (.int 3)) (eVar 3))) aNil)))))
noncomputable def b_law_lines:FS:=
  (sSeq (sSetO 2 (eLst aNil))
    (sSeq (sFor r_law_lines_1 (gVar 3)
      l_law_lines_1)
    (sRetV 2)))
noncomputable def F_law_lines:List D→Option (Bool×D):=FR 2 4 b_law_lines
theorem run_law_lines:∀ ds r,F_law_lines ds=some r→ds.length=2∧runF 4 b_law_lines ds=some r:=FR_ok
theorem go_law_lines (x0 x1:D):F_law_lines [x0,x1]=runF 4 b_law_lines [x0,x1]:=rfl
noncomputable def x_law_1:FE:=(eCall F_law_item_text (aCons (eVar 5) aNil))
noncomputable def b_law:FS:=
  (sSeq (sSet 1 (eCall F_law_program (aCons (eVar 0) (aCons (eC (.int 1)) aNil))))
    (sSeq (sSet 2 (eCall F_law_lines (aCons (eVar 1) (aCons (eCall F_law_cell_at (aCons (eVar 0) (aCons (eC (.int 0)) aNil))) aNil))))
    (sSeq (sSet 3 (e2 fAdd (e2 fJoin (eC (.str "\n")) (eVar 2)) (e2 fIx (eLst (aCons (eC (.str "")) (aCons (eC (.str "\n")) (aCons (eC (.str "\n\n \t")) (aCons (eC (.str "\n; end")) aNil))))) (e2 fMod (eCall F_law_cell_at (aCons (eVar 0) (aCons (eC (.int 0)) aNil))) (eC (.int 4))))))
    (sSeq (sIf (tE (e2 (fCmp fun i j=>decide (j<i)) (eL fLen (aCons (eVar 3) aNil)) (eC (.int 12000))))
      (sSet 3 (e2 fJoin (eC (.str "\n")) (eLc 1 (iSeq (eVar 1)) (gVar 5) tTrue x_law_1)))
      sNext)
    (sSeq (sIf (tE (e2 fNotN (eCall F_fault (aCons (eVar 3) aNil)) (eC .non)))
      (sRet (eC (.bl false)))
      sNext)
    (sSeq (sSetO 4 (eCallO F_read (aCons (eVar 3) aNil)))
    (sSeq (sIf (tOrF (tNotF (tE (eIsi .list (eAny 4)))) (tNotF (tE (eCallB F_law_alike (aCons (eAny 4) (aCons (eVar 1) aNil))))))
      (sRet (eC (.bl false)))
      sNext)
    (sSeq (sMut1 4 fApp (eTup (aCons (eC (.str "stop")) aNil)))
    (sSeq (sFreeze 4) (sRet (eAnd (eCall F_law_alike (aCons (eCallO F_read (aCons (eVar 3) aNil)) (aCons (eVar 1) aNil))) (e2 fIsN (eCall F_fault (aCons (eVar 3) aNil)) (eC .non)))))))))))))
theorem cps_inj {a b:Str} (h:a.cps.toList=b.cps.toList):a=b:=by
  obtain ⟨⟨l⟩⟩:=a
  obtain ⟨⟨m⟩⟩:=b
  cases (show l=m from h)
  rfl
theorem map_inj:∀ {a b:List Str},a.map (fun t=>t.cps.toList)=b.map (fun t=>t.cps.toList)→a=b
  | [],[],_=>rfl
  | [],_::_,h=>by cases h
  | _::_,[],h=>by cases h
  | x::a,y::b,h=>by
    rw [List.map_cons,List.map_cons] at h
    rw [cps_inj (List.cons.inj h).1,map_inj (List.cons.inj h).2]
theorem glued_cps1 (c:Nat) (ts:List Str):(Builtin.Str.glued ⟨#[c]⟩ ts).cps.toList=jn c (ts.map fun t=>t.cps.toList):=by
  rw [StrLaws.glued_eq_join,join_cps]
theorem split_words {ws:List Str} (ne:ws≠[]) (h:∀ w∈ws,Wd w.cps.toList):Txt.split (Builtin.Str.glued ⟨#[32]⟩ ws) ⟨#[32]⟩=ws:=map_inj (by
  rw [split_cps,glued_cps1,spl_jn]
  · exact fun z=>ne (List.map_eq_nil_iff.mp z)
  · intro p hp
    obtain ⟨w,hw,rfl⟩:=List.mem_map.mp hp
    exact fun z=>((h w hw).ok 32 z).1 rfl)
theorem loose_snoc:∀ {ws gs:List (List Nat)} (w g:List Nat),ws.length=gs.length→loose (ws++[w]) (gs++[g])=loose ws gs++(w++g)
  | [],[],w,g,_=>by
    show w++g++[]=_
    rw [List.append_nil]
    rfl
  | a::ws,b::gs,w,g,h=>by
    show a++b++loose (ws++[w]) (gs++[g])=a++b++loose ws gs++(w++g)
    rw [loose_snoc w g (by simpa using h)]
    simp only [List.append_assoc]
noncomputable def isB (a:Nat):Bool:=#[32,9].contains a
theorem isB_of {a:Nat}:isB a=true↔Bl a:=by
  unfold isB Bl
  simp
theorem take_all {g:Nat→Bool} {a r:List Nat} (h:∀ x∈a,g x=true) (hr:∀ x l,r=x::l→g x=false):(a++r).takeWhile g=a:=by
  rw [List.takeWhile_append_of_pos h]
  cases r with
  | nil=>exact List.append_nil _
  | cons x l=>rw [List.takeWhile_cons_of_neg (by rw [hr x l rfl]; decide),List.append_nil]
theorem strip_cps {x:Str} {a m b:List Nat} (e:x.cps.toList=a++(m++b)) (ha:∀ y∈a,Bl y) (hb:∀ y∈b,Bl y) (h0:∀ y l,m++b=y::l→¬ Bl y) (h1:∀ y l,m.reverse=y::l→¬ Bl y) (hm:m≠[]):(Txt.stripChars x ⟨#[32,9]⟩).cps.toList=m:=by
  have no:∀ {y:Nat},¬ Bl y→isB y=false:=fun {y} h=>by
    cases c:isB y with
    | false=>rfl
    | true=>exact absurd (isB_of.mp c) h
  have lx:x.length=a.length+(m.length+b.length):=by rw [← len_cps,e,List.length_append,List.length_append]
  unfold Txt.stripChars
  rw [PySem.W.stripBy_eq]
  show (Builtin.Str.strSub x (x.cps.toList.takeWhile isB).length (x.length - ((x.cps.toList.drop (x.cps.toList.takeWhile isB).length).reverse.takeWhile isB).length)).cps.toList=m
  have e1:x.cps.toList.takeWhile isB=a:=by
    rw [e]
    exact take_all (fun y hy=>isB_of.mpr (ha y hy)) fun y l h=>no (h0 y l h)
  have e2:x.cps.toList.drop a.length=m++b:=by rw [e,List.drop_left']; rfl
  have e3:(m++b).reverse.takeWhile isB=b.reverse:=by
    rw [List.reverse_append]
    exact take_all (fun y hy=>isB_of.mpr (hb y (List.mem_reverse.mp hy))) fun y l h=>no (h1 y l h)
  rw [e1,e2,e3,StrLaws.strSub_toList,e2,List.length_reverse,lx]
  rw [show a.length+(m.length+b.length) - b.length - a.length=m.length by omega,List.take_left']
  rfl
theorem pickT (l:List Str) {i:Int} (h0:0≤i) (h1:i<l.length):∃ t∈l,fIx (.lst (l.map D.str)) (.int i)=some (.str t):=by
  have hi:i.toNat<l.length:=by omega
  refine ⟨l[i.toNat],List.getElem_mem hi,?_⟩
  refine at_nat h0 ?_
  rw [List.getElem?_map,List.getElem?_eq_getElem hi]
  rfl
structure Cm (l:List Nat):Prop where
  w:W l=[]
  hd:l=[]∨∃ b r,l=b::r∧(b=59∨Bl b)
  fr:10 ∉ l
theorem W_end {w l:List Nat} (h:Wd w) (c:Cm l):W (w++l)=[w]:=by
  rcases c.hd with rfl | ⟨b,r,rfl,rfl | hb⟩
  · exact W_last h (.inl rfl)
  · exact W_last h (.inr ⟨_,rfl⟩)
  · rw [W_word h hb]
    have:=c.w
    rw [W_blank hb] at this
    rw [this]
theorem loose_F {ws:List Str} (ne:ws≠[]) (hl:ws.length≤4) (h:∀ w∈ws,Wd w.cps.toList∧w.length≤20) (c:Int):∃ Z:Str,F_law_loose [.str (Builtin.Str.glued " " ws),.int c]=some (false,.str Z)∧Z.length≤200∧W Z.cps.toList=ws.map (fun t=>t.cps.toList)∧10 ∉ Z.cps.toList:=by
  have sp:fSplit (.str (Builtin.Str.glued " " ws)) (.str " ")=some (.lst (ws.map D.str)):=by
    have:=split_words ne fun w hw=>(h w hw).1
    have gl:=L2.glued_len (" " : Str) ws
    have sm:(ws.map (·.length)).sum≤80:=by
      have:∀ l:List Str,(∀ w∈l,w.length≤20)→(l.map (·.length)).sum≤20*l.length:=fun l=>by
        induction l with
        | nil=>intro _; exact Nat.le_refl _
        | cons a l ih=>
          intro q
          have:=ih fun w hw=>q w (List.mem_cons_of_mem _ hw)
          have:=q a List.mem_cons_self
          simp only [List.map_cons,List.sum_cons,List.length_cons]
          omega
      have:=this ws fun w hw=>(h w hw).2
      omega
    show (if _∧_ then some (D.lst ((Txt.split (Builtin.Str.glued ⟨#[32]⟩ ws) ⟨#[32]⟩).map D.str)) else none)=_
    have g2:(Builtin.Str.glued (" " : Str) ws).length≤100:=by
      have:(" " : Str).length=1:=rfl
      rw [this] at gl
      omega
    rw [if_pos ⟨rfl,by omega⟩,this]
  obtain ⟨m1,a1,a2⟩:=mixed_F c 1 4 (by decide)
  obtain ⟨g0,hg0,ex0⟩:=pickT ["", " ", "\t", "  \t "] a1 a2
  have ex0:fIx (.lst [.str "",.str " ",.str "\t",.str "  \t "]) (.int (mixA c 1 4))=some (.str g0):=ex0
  have b0:(∀ b∈g0.cps.toList,Bl b)∧g0.length≤4:=by
    simp only [List.mem_cons,List.not_mem_nil,or_false] at hg0
    rcases hg0 with rfl | rfl | rfl | rfl<;>exact ⟨by unfold Bl; decide,by decide⟩
  generalize Builtin.Str.glued " " ws=X at *
  have rg:r_law_loose_1 [some (false,.str X),some (false,.int c),some (false,.lst (ws.map D.str)),some (false,.str g0),none,none]=some (upTo ws.length):=range_of (n:=(ws.length:Int)) (by rw [← List.length_map (f:=D.str)]; rfl) (by omega)
  obtain ⟨σ',e1,B,gs,x4,l1,l2,l3,l4,rfl⟩:=loop_by (g:=gVar 4) (b:=l_law_loose_1) (fun i σ=>∃ (B:Str) (gs:List (List Nat)) (x4:Option Sl),gs.length=i∧(∀ g∈gs,Gap g∧10 ∉ g)∧B.cps.toList=g0.cps.toList++loose ((ws.map fun t:Str=>t.cps.toList).take i) gs∧B.length≤4+30*i∧σ=[some (false,.str X),some (false,.int c),some (false,.lst (ws.map D.str)),some (false,.str B),x4,none]) (ds:=upTo ws.length)
    (σ:=[some (false,.str X),some (false,.int c),some (false,.lst (ws.map D.str)),some (false,.str g0),none,none]) 0 ⟨g0,[],none,rfl,(fun _ h=>by cases h),(List.append_nil _).symm,b0.2,rfl⟩ (by
    rintro i v σ hv ⟨B,gs,x4,l1,l2,l3,l4,rfl⟩
    obtain ⟨hi,rfl⟩:=upTo_get hv
    rw [Nat.zero_add] at *
    obtain ⟨m1,a1,a2⟩:=mixed_F c (2+(i:Int)) 4 (by decide)
    obtain ⟨g,hg,ex⟩:=pickT [" ", "  ", "\t", " \t "] a1 a2
    have ex:fIx (.lst [.str " ",.str "  ",.str "\t",.str " \t "]) (.int (mixA c (2+(i:Int)) 4))=some (.str g):=ex
    have bg:(Gap g.cps.toList∧10 ∉ g.cps.toList)∧g.length≤3:=by
      simp only [List.mem_cons,List.not_mem_nil,or_false] at hg
      rcases hg with rfl | rfl | rfl | rfl<;>exact ⟨⟨⟨by decide,by unfold Bl; decide⟩,by decide⟩,by decide⟩
    have xw:fIx (.lst (ws.map D.str)) (.int (i:Int))=some (.str ws[i]):=at_nat (by omega) (by rw [Int.toNat_natCast,List.getElem?_map,List.getElem?_eq_getElem hi]; rfl)
    obtain ⟨wd,wl⟩:=h ws[i] (List.getElem_mem hi)
    have ad1:fAdd (.str B) (.str ws[i])=some (.str (B++ws[i])):=add_str (by omega)
    have ad2:fAdd (.str (B++ws[i])) (.str g)=some (.str (B++ws[i]++g)):=add_str (by rw [len_app]; omega)
    have tk:(ws.map fun t:Str=>t.cps.toList).take (i+1)=(ws.map fun t:Str=>t.cps.toList).take i++[ws[i].cps.toList]:=by
      rw [List.take_succ_eq_append_getElem (by rw [List.length_map]; exact hi),List.getElem_map]
    refine ⟨_,[some (false,.str X),some (false,.int c),some (false,.lst (ws.map D.str)),some (false,.str (B++ws[i]++g)),some (false,.int (i:Int)),none],rfl,.inl ?_,B++ws[i]++g,gs++[g.cps.toList],_,by rw [List.length_append,l1]; rfl,fun y hy=>?_,?_,?_,rfl⟩
    · generalize ws[i]=WI at *
      unfold l_law_loose_1
      simp! [xw,ad1,add_int,m1,ex,ad2]
    · rcases List.mem_append.mp hy with hy | hy
      · exact l2 y hy
      · rw [List.mem_singleton.mp hy]
        exact bg.1
    · rw [capp,capp,l3,tk,loose_snoc _ _ (by rw [List.length_take,List.length_map]; omega)]
      simp only [List.append_assoc]
    · rw [len_app,len_app]
      omega)
  rw [upTo_len,Nat.zero_add] at *
  rw [List.take_of_length_le (by rw [List.length_map]; exact Nat.le_refl _)] at l3
  have wsW:∀ w∈ws.map (fun t:Str=>t.cps.toList),Wd w:=fun w hw=>by
    obtain ⟨t,ht,rfl⟩:=List.mem_map.mp hw
    exact (h t ht).1
  have lls:(ws.map fun t:Str=>t.cps.toList).length=gs.length:=by rw [List.length_map,l1]
  obtain ⟨m8,s1,s2⟩:=mixed_F c 8 6 (by decide)
  obtain ⟨cm,hcm,exc⟩:=pickT ["", ";", " ; set r1 2", ";;", "\t;loop: jump", "; note"] s1 s2
  have exc:fIx (.lst [.str "",.str ";",.str " ; set r1 2",.str ";;",.str "\t;loop: jump",.str "; note"]) (.int (mixA c 8 6))=some (.str cm):=exc
  have hc:Cm cm.cps.toList∧cm.length≤20:=by
    simp only [List.mem_cons,List.not_mem_nil,or_false] at hcm
    rcases hcm with rfl | rfl | rfl | rfl | rfl | rfl
    · exact ⟨⟨by rfl,.inl rfl,by decide⟩,by decide⟩
    · exact ⟨⟨by rfl,.inr ⟨_,_,rfl,.inl rfl⟩,by decide⟩,by decide⟩
    · exact ⟨⟨by rfl,.inr ⟨_,_,rfl,.inr (.inl rfl)⟩,by decide⟩,by decide⟩
    · exact ⟨⟨by rfl,.inr ⟨_,_,rfl,.inl rfl⟩,by decide⟩,by decide⟩
    · exact ⟨⟨by rfl,.inr ⟨_,_,rfl,.inr (.inr rfl)⟩,by decide⟩,by decide⟩
    · exact ⟨⟨by rfl,.inr ⟨_,_,rfl,.inl rfl⟩,by decide⟩,by decide⟩
  have lf10:∀ {vs hs:List (List Nat)},(∀ w∈vs,Wd w)→(∀ g∈hs,Gap g∧10 ∉ g)→10 ∉ loose vs hs:=fun {vs}=>by
    induction vs with
    | nil=>intro hs _ _ z; cases z
    | cons w vs ih=>
      intro hs hw hg
      cases hs with
      | nil=>intro z; cases z
      | cons g hs=>
        intro z
        rcases List.mem_append.mp z with z | z
        · rcases List.mem_append.mp z with z | z
          · exact ((hw w List.mem_cons_self).ok 10 z).2.2.2 rfl
          · exact (hg g List.mem_cons_self).2 z
        · exact ih (fun x hx=>hw x (List.mem_cons_of_mem _ hx)) (fun x hx=>hg x (List.mem_cons_of_mem _ hx)) z
  have g10:10 ∉ g0.cps.toList:=fun z=>by
    rcases b0.1 10 z with q | q<;>exact absurd q (by decide)
  obtain ⟨m7,t1,t2⟩:=mixed_F c 7 3 (by decide)
  have fin:∀ B':Str,B'.length≤B.length→W (B'.cps.toList++cm.cps.toList)=ws.map (fun t=>t.cps.toList)→10 ∉ B'.cps.toList→∃ Z:Str,fAdd (.str B') (.str cm)=some (.str Z)∧Z.length≤200∧W Z.cps.toList=ws.map (fun t=>t.cps.toList)∧10 ∉ Z.cps.toList:=fun B' hb hw h10=>by
    refine ⟨B'++cm,add_str (by omega),by rw [len_app]; omega,by rw [capp]; exact hw,?_⟩
    rw [capp]
    intro z
    rcases List.mem_append.mp z with z | z
    · exact h10 z
    · exact hc.1.fr z
  have b10:10 ∉ B.cps.toList:=by
    rw [l3]
    intro z
    rcases List.mem_append.mp z with z | z
    · exact g10 z
    · exact lf10 wsW l2 z
  rw [go_law_loose]
  unfold b_law_loose
  by_cases hs:0<mixA c 7 3
  · -- stripped
    obtain ⟨vi,vl,ev⟩:∃ vi vl,ws.map (fun t:Str=>t.cps.toList)=vi++[vl]:=⟨_,_,(List.dropLast_concat_getLast (by exact fun z=>ne (List.map_eq_nil_iff.mp z))).symm⟩
    obtain ⟨gi,gl,eg⟩:∃ gi gl,gs=gi++[gl]:=⟨_,_,(List.dropLast_concat_getLast (by
      intro z
      rw [z] at lls
      rw [ev,List.length_append] at lls
      simp at lls)).symm⟩
    have lig:vi.length=gi.length:=by
      rw [ev,eg,List.length_append,List.length_append] at lls
      simpa using lls
    have wvi:∀ w∈vi,Wd w:=fun w hw=>wsW w (by rw [ev]; exact List.mem_append_left _ hw)
    have wvl:Wd vl:=wsW vl (by rw [ev]; exact List.mem_append_right _ List.mem_cons_self)
    have ggi:∀ g∈gi,Gap g∧10 ∉ g:=fun g hg=>l2 g (by rw [eg]; exact List.mem_append_left _ hg)
    have ggl:=(l2 gl (by rw [eg]; exact List.mem_append_right _ List.mem_cons_self)).1
    rw [ev,eg,loose_snoc _ _ lig,← List.append_assoc (loose vi gi)] at l3
    have nb:∀ {w:List Nat} {y:Nat},Wd w→y∈w→¬ Bl y:=fun {w y} q hy z=>by
      have:=q.ok y hy
      rcases z with z | z
      · exact this.1 z
      · exact this.2.1 z
    have st:=strip_cps l3 b0.1 ggl.2 (fun y l q=>by
      cases vi with
      | nil=>
        cases vl with
        | nil=>exact absurd rfl wvl.ne
        | cons a r=>
          have q:a::(r++gl)=y::l:=by cases gi<;>exact q
          rw [← (List.cons.inj q).1]
          exact nb wvl List.mem_cons_self
      | cons w vi=>
        cases gi with
        | nil=>simp at lig
        | cons g gi=>
          have ww:=wvi w List.mem_cons_self
          cases w with
          | nil=>exact absurd rfl ww.ne
          | cons a r=>
            have q:a::(r++g++loose vi gi++vl++gl)=y::l:=q
            rw [← (List.cons.inj q).1]
            exact nb ww List.mem_cons_self) (fun y l q=>by
      rw [List.reverse_append] at q
      have:y∈vl.reverse:=by
        cases r:vl.reverse with
        | nil=>exact absurd (List.reverse_eq_nil_iff.mp r) wvl.ne
        | cons a b=>
          rw [r] at q
          rw [(List.cons.inj q).1]
          exact List.mem_cons_self
      exact nb wvl (List.mem_reverse.mp this)) (by
      intro z
      exact wvl.ne (List.append_eq_nil_iff.mp z).2)
    have sl:(Txt.stripChars B ⟨#[32,9]⟩).length≤B.length:=by
      rw [← len_cps,st,← len_cps B,l3]
      simp only [List.length_append]
      omega
    have fs:fStrip (.str B) (.str " \t")=some (.str (Txt.stripChars B ⟨#[32,9]⟩)):=if_pos (by show (Txt.stripChars B ⟨#[32,9]⟩).length≤_; omega)
    obtain ⟨Z,z1,z2⟩:=fin (Txt.stripChars B ⟨#[32,9]⟩) sl (by
      rw [st,List.append_assoc,W_loose lig wvi (fun g hg=>(ggi g hg).1),W_end wvl hc.1,ev]) (by
      rw [st]
      intro z
      rcases List.mem_append.mp z with z | z
      · exact lf10 wvi ggi z
      · exact (wvl.ok 10 z).2.2.2 rfl)
    refine ⟨Z,?_,z2⟩
    have d1:decide ((0:Int)<mixA c 7 3)=true:=decide_eq_true hs
    generalize Txt.stripChars B ⟨#[32,9]⟩=SB at *
    simp! [sp,m1,ex0,rg,e1,m7,d1,fs,m8,exc,z1]
  · obtain ⟨Z,z1,z2⟩:=fin B (Nat.le_refl _) (by
      rw [l3,List.append_assoc,W_blanks b0.1,W_loose lls wsW (fun g hg=>(l2 g hg).1),hc.1.w,List.append_nil]) b10
    refine ⟨Z,?_,z2⟩
    have d1:decide ((0:Int)<mixA c 7 3)=false:=decide_eq_false hs
    simp! [sp,m1,ex0,rg,e1,m7,d1,m8,exc,z1]
theorem tells_one {N:List Str} (hN:Names N) {d:D} (h:ItemA N d):∃ ws:List Str,ws≠[]∧ws.length≤4∧(∀ w∈ws,Wd w.cps.toList∧w.length≤20)∧F_law_item_text [d]=some (false,.str (Builtin.Str.glued " " ws))∧∀ l:List Nat,W l=ws.map (fun t=>t.cps.toList)→Tells [l] [d]:=by
  obtain ⟨ws,a,b,c,e,f⟩:=item_words hN h
  refine ⟨ws,a,b,c,e,fun l hl=>.one (by rw [hl]; exact fun z=>a (List.map_eq_nil_iff.mp z)) ?_ .nil⟩
  rw [hl,List.map_map]
  have:ws.map (sD ∘ fun t:Str=>t.cps.toList)=ws.map D.str:=List.map_congr_left fun z _=>sD_cps z
  rw [this]
  exact f
theorem lines_F {N:List Str} {items:List D} (P:Prog N items) (c:Int):∃ ls:List Str,F_law_lines [.lst items,.int c]=some (true,.lst (ls.map D.str))∧Tells (ls.map fun t:Str=>t.cps.toList) items∧(∀ l∈ls,10 ∉ l.cps.toList∧l.length≤200)∧ls.length≤2*items.length:=by
  have ln:=P.ln
  have rg:r_law_lines_1 [some (false,.lst items),some (false,.int c),some (true,.lst []),none]=some (upTo items.length):=range_of (n:=(items.length:Int)) rfl (by omega)
  obtain ⟨σ',e1,ls,x3,a1,a2,a3,rfl⟩:=loop_by (g:=gVar 3) (b:=l_law_lines_1) (fun i σ=>∃ (ls:List Str) (x3:Option Sl),Tells (ls.map fun t:Str=>t.cps.toList) (items.take i)∧(∀ l∈ls,10 ∉ l.cps.toList∧l.length≤200)∧ls.length≤2*i∧σ=[some (false,.lst items),some (false,.int c),some (true,.lst (ls.map D.str)),x3]) (ds:=upTo items.length)
    (σ:=[some (false,.lst items),some (false,.int c),some (true,.lst []),none]) 0 ⟨[],none,.nil,(fun _ h=>by cases h),Nat.le_refl _,rfl⟩ (by
    rintro i v σ hv ⟨ls,x3,a1,a2,a3,rfl⟩
    obtain ⟨hi,rfl⟩:=upTo_get hv
    rw [Nat.zero_add] at *
    have xi:fIx (.lst items) (.int (i:Int))=some items[i]:=at_nat (by omega) (by rw [Int.toNat_natCast]; exact List.getElem?_eq_getElem hi)
    have tk:items.take (i+1)=items.take i++[items[i]]:=List.take_succ_eq_append_getElem hi
    obtain ⟨ws,w1,w2,w3,w4,w5⟩:=tells_one P.nm (P.it _ (List.getElem_mem hi))
    obtain ⟨Z,z1,z2,z3,z4⟩:=loose_F w1 w2 w3 (c+3*(i:Int))
    have tz:=w5 _ z3
    obtain ⟨m9,s1,s2⟩:=mixed_F (c+(i:Int)) 9 6 (by decide)
    obtain ⟨m10,t1,t2⟩:=mixed_F (c+(i:Int)) 10 6 (by decide)
    obtain ⟨b,hb,exb⟩:=pickT ["", "  ", "\t", "; stop", " ;", "\t \t;a:"] t1 t2
    have exb:fIx (.lst [.str "",.str "  ",.str "\t",.str "; stop",.str " ;",.str "\t \t;a:"]) (.int (mixA (c+(i:Int)) 10 6))=some (.str b):=exb
    have hbl:W b.cps.toList=[]∧10 ∉ b.cps.toList∧b.length≤200:=by
      simp only [List.mem_cons,List.not_mem_nil,or_false] at hb
      rcases hb with rfl | rfl | rfl | rfl | rfl | rfl<;>exact ⟨by rfl,by decide,by decide⟩
    have ll:∀ ks:List Str,(ks.map D.str).length=ks.length:=fun ks=>List.length_map _
    have l3:lt64 3=true:=by decide
    by_cases h9:mixA (c+(i:Int)) 9 6=1
    · have f9:fEq (.int (mixA (c+(i:Int)) 9 6)) (.int 1)=some (.bl true):=by rw [h9]; rfl
      have ap1:=app_ok (L:=ls.map D.str) (r:=.str b) (by rw [ll]; omega)
      have ap2:=app_ok (L:=ls.map D.str++[.str b]) (r:=.str Z) (by rw [List.length_append,ll]; simp only [List.length_cons,List.length_nil]; omega)
      refine ⟨_,[some (false,.lst items),some (false,.int c),some (true,.lst (ls.map D.str++[.str b]++[.str Z])),some (false,.int (i:Int))],rfl,.inl ?_,ls++[b]++[Z],_,?_,fun l hl=>?_,?_,by rw [List.map_append,List.map_append]; rfl⟩
      · generalize ls.map D.str=LS at *
        generalize items[i]=IT at *
        unfold l_law_lines_1
        simp! [add_int,m9,f9,m10,exb,ap1,xi,w4,l3,z1,ap2]
      · rw [tk,List.map_append,List.map_append,List.append_assoc]
        exact a1.app (.skip hbl.1 tz)
      · rcases List.mem_append.mp hl with hl | hl
        · rcases List.mem_append.mp hl with hl | hl
          · exact a2 l hl
          · rw [List.mem_singleton.mp hl]
            exact hbl.2
        · rw [List.mem_singleton.mp hl]
          exact ⟨z4,z2⟩
      · simp only [List.length_append,List.length_cons,List.length_nil]
        omega
    · have f9:fEq (.int (mixA (c+(i:Int)) 9 6)) (.int 1)=some (.bl false):=int_ne h9
      have ap2:=app_ok (L:=ls.map D.str) (r:=.str Z) (by rw [ll]; omega)
      refine ⟨_,[some (false,.lst items),some (false,.int c),some (true,.lst (ls.map D.str++[.str Z])),some (false,.int (i:Int))],rfl,.inl ?_,ls++[Z],_,?_,fun l hl=>?_,?_,by rw [List.map_append]; rfl⟩
      · generalize ls.map D.str=LS at *
        generalize items[i]=IT at *
        unfold l_law_lines_1
        simp! [add_int,m9,f9,xi,w4,l3,z1,ap2]
      · rw [tk,List.map_append]
        exact a1.app tz
      · rcases List.mem_append.mp hl with hl | hl
        · exact a2 l hl
        · rw [List.mem_singleton.mp hl]
          exact ⟨z4,z2⟩
      · simp only [List.length_append,List.length_cons,List.length_nil]
        omega)
  rw [upTo_len,Nat.zero_add] at *
  rw [List.take_length] at a1
  refine ⟨ls,?_,a1,a2,a3⟩
  rw [go_law_lines]
  unfold b_law_lines
  simp! [rg,e1]
theorem sum_le {m:Nat}:∀ {l:List Str},(∀ w∈l,w.length≤m)→(l.map (·.length)).sum≤m*l.length
  | [],_=>Nat.zero_le _
  | a::l,h=>by
    have:=sum_le fun w hw=>h w (List.mem_cons_of_mem _ hw)
    have:=h a List.mem_cons_self
    simp only [List.map_cons,List.sum_cons,List.length_cons,Nat.mul_add,Nat.mul_one]
    omega
theorem tells_jn {ls:List Str} {items:List D} (h:Tells (ls.map fun t:Str=>t.cps.toList) items) (hf:∀ l∈ls,10 ∉ l.cps.toList):Tells (spl 10 (jn 10 (ls.map fun t:Str=>t.cps.toList))) items:=by
  cases ls with
  | nil=>
    cases h
    exact .skip W_nil .nil
  | cons a r=>
    rw [spl_jn (by simp) fun p hp=>?_]
    · exact h
    · obtain ⟨t,ht,rfl⟩:=List.mem_map.mp hp
      exact hf t ht
theorem texts_lc {N:List Str} (hN:Names N) {σ:SEnv} (hs:σ.length=6):∀ {items:List D},(∀ d∈items,ItemA N d)→∃ ts:List Str,lcGo (gVar 5) tTrue x_law_1 σ items=some (ts.map D.str)∧ts.length=items.length∧Tells (ts.map fun t:Str=>t.cps.toList) items∧∀ t∈ts,10 ∉ t.cps.toList∧t.length≤100
  | [],_=>⟨[],rfl,rfl,.nil,fun _ h=>by cases h⟩
  | d::items,h=>by
    obtain ⟨ts,e,l,t,b⟩:=texts_lc hN hs fun x hx=>h x (List.mem_cons_of_mem _ hx)
    obtain ⟨ws,w1,w2,w3,w4,w5⟩:=tells_one hN (h d List.mem_cons_self)
    have gc:(Builtin.Str.glued (" " : Str) ws).cps.toList=jn 32 (ws.map fun t:Str=>t.cps.toList):=glued_cps1 32 ws
    have wj:∀ {vs:List (List Nat)},vs≠[]→(∀ w∈vs,Wd w)→W (jn 32 vs)=vs∧10 ∉ jn 32 vs:=fun {vs}=>by
      induction vs with
      | nil=>intro z; exact absurd rfl z
      | cons w vs ih=>
        intro _ hw
        have ww:=hw w List.mem_cons_self
        have w10:10 ∉ w:=fun z=>(ww.ok 10 z).2.2.2 rfl
        cases vs with
        | nil=>
          refine ⟨?_,w10⟩
          have:=W_last ww (l:=[]) (.inl rfl)
          rw [List.append_nil] at this
          exact this
        | cons x xs=>
          obtain ⟨i1,i2⟩:=ih (by simp) fun y hy=>hw y (List.mem_cons_of_mem _ hy)
          refine ⟨?_,?_⟩
          · show W (w++32::jn 32 (x::xs))=_
            rw [W_word ww (.inl rfl),i1]
          · show 10 ∉ w++32::jn 32 (x::xs)
            intro z
            rcases List.mem_append.mp z with z | z
            · exact w10 z
            · rcases List.mem_cons.mp z with z | z
              · exact absurd z (by decide)
              · exact i2 z
    obtain ⟨j1,j2⟩:=wj (vs:=ws.map fun t:Str=>t.cps.toList) (fun z=>w1 (List.map_eq_nil_iff.mp z)) fun w hw=>by
      obtain ⟨q,hq,rfl⟩:=List.mem_map.mp hw
      exact (w3 q hq).1
    have gl:=L2.glued_len (" " : Str) ws
    have sm:=sum_le fun w hw=>(w3 w hw).2
    have l1:(" " : Str).length=1:=rfl
    rw [l1] at gl
    refine ⟨Builtin.Str.glued " " ws::ts,?_,by rw [List.length_cons,List.length_cons,l],(w5 (Builtin.Str.glued (" " : Str) ws).cps.toList (by rw [gc]; exact j1)).app t,fun x hx=>?_⟩
    · have hg:gVar 5 d σ=some (σ.set 5 (some (false,d))):=rfl
      have he:x_law_1 (σ.set 5 (some (false,d)))=some (.str (Builtin.Str.glued " " ws)):=by
        have g5:(σ.set 5 (some (false,d)))[5]?=some (some (false,d)):=by rw [List.getElem?_set,if_pos rfl,if_pos (by omega)]
        unfold x_law_1
        simp! [g5,w4]
      show (gVar 5 d σ).bind _=_
      rw [hg]
      show (x_law_1 (σ.set 5 (some (false,d)))).bind _=_
      rw [he]
      show (lcGo (gVar 5) tTrue x_law_1 σ items).bind _=_
      rw [e]
      rfl
    · rcases List.mem_cons.mp hx with rfl | hx
      · refine ⟨by rw [gc]; exact j2,?_⟩
        omega
      · exact b x hx
theorem run_law:∀ ns:List Int,ns.length≤63→(∀ m∈ns,bitsI m≤1048576)→∃ o,runF 5 b_law [.lst (ns.map D.int)]=some (o,.bl true):=fun ns hl hb=>by
  refine ⟨false,?_⟩
  obtain ⟨N,items,P,ep⟩:=program_F ns hl (first:=1) (by decide)
  have ec:=cell_ints ns (k:=0) (by decide)
  generalize cellAt ns 0=c at ec
  generalize D.lst (ns.map D.int)=S at *
  have ln:=P.ln
  obtain ⟨ls,el,t1,t2,t3⟩:=lines_F P c
  have sm:=sum_le (m:=200) (l:=ls) fun w hw=>(t2 w hw).2
  have gn:=L2.glued_len ("\n" : Str) ls
  have n1:("\n" : Str).length=1:=rfl
  have jn1:=join_ofL (sep := "\n") (ts:=ls) (by rw [n1]; omega)
  have gc:(Builtin.Str.glued ("\n" : Str) ls).cps.toList=jn 10 (ls.map fun t:Str=>t.cps.toList):=glued_cps1 10 ls
  have tj:=tells_jn t1 fun l hl=>(t2 l hl).1
  rw [← gc] at tj
  rw [n1] at gn
  generalize Builtin.Str.glued ("\n" : Str) ls=J at *
  obtain ⟨tl,htl,ext⟩:=pickT ["", "\n", "\n\n \t", "\n; end"] (i:=c % 4) (by omega) (by show c % 4<4; omega)
  have ext:fIx (.lst [.str "",.str "\n",.str "\n\n \t",.str "\n; end"]) (.int (c % 4))=some (.str tl):=ext
  have tT:tl.length≤10∧Tells (spl 10 (J++tl).cps.toList) items:=by
    simp only [List.mem_cons,List.not_mem_nil,or_false] at htl
    rw [capp]
    have ap:∀ r:List Nat,Tells (spl 10 r) []→Tells (spl 10 (J.cps.toList++10::r)) items:=fun r h=>by
      rw [spl_app]
      have:=tj.app h
      rw [List.append_nil] at this
      exact this
    rcases htl with rfl | rfl | rfl | rfl
    · refine ⟨by decide,?_⟩
      show Tells (spl 10 (J.cps.toList++[])) items
      rw [List.append_nil]
      exact tj
    · exact ⟨by decide,ap [] (.skip rfl .nil)⟩
    · exact ⟨by decide,ap [10,32,9] (.skip rfl (.skip rfl .nil))⟩
    · exact ⟨by decide,ap [59,32,101,110,100] (.skip rfl .nil)⟩
  have ad:fAdd (.str J) (.str tl)=some (.str (J++tl)):=if_pos (by show _≤16777216; omega)
  have q:∃ T:Str,T.length≤100000∧Tells (spl 10 T.cps.toList) items∧sIf (tE (e2 (fCmp fun i j=>decide (j<i)) (eL fLen (aCons (eVar 3) aNil)) (eC (.int 12000)))) (sSet 3 (e2 fJoin (eC (.str "\n")) (eLc 1 (iSeq (eVar 1)) (gVar 5) tTrue x_law_1))) sNext [some (false,S),some (false,.lst items),some (false,.lst (ls.map D.str)),some (false,.str (J++tl)),none]=some (.nx [some (false,S),some (false,.lst items),some (false,.lst (ls.map D.str)),some (false,.str T),none]):=by
    by_cases h:(12000:Int)<((J++tl).length:Int)
    · obtain ⟨ts,e,l,t,b⟩:=texts_lc (σ:=[some (false,S),some (false,.lst items),some (false,.lst (ls.map D.str)),some (false,.str (J++tl)),none,none]) P.nm rfl P.it
      have sm:=sum_le (m:=100) (l:=ts) fun w hw=>(b w hw).2
      have gn:=L2.glued_len ("\n" : Str) ts
      rw [n1] at gn
      have jn2:=join_ofL (sep := "\n") (ts:=ts) (by rw [n1]; omega)
      have gc2:(Builtin.Str.glued ("\n" : Str) ts).cps.toList=jn 10 (ts.map fun t:Str=>t.cps.toList):=glued_cps1 10 ts
      refine ⟨Builtin.Str.glued "\n" ts,by omega,by rw [gc2]; exact tells_jn t fun l hl=>(b l hl).1,?_⟩
      have d1:=decide_eq_true h
      generalize Builtin.Str.glued ("\n" : Str) ts=J2 at *
      generalize J++tl=JT at *
      generalize ls.map D.str=LS at *
      generalize ts.map D.str=TS at *
      simp! [d1,e,jn2]
    · refine ⟨J++tl,by omega,tT.2,?_⟩
      have d1:=decide_eq_false h
      generalize J++tl=JT at *
      generalize ls.map D.str=LS at *
      simp! [d1]
  obtain ⟨T,hT,tT,eq⟩:=q
  obtain ⟨f1,f2⟩:=read_T P hT tT
  have hI:∀ d∈items,Item d:=fun d hd=>itemA_item (P.it d hd)
  have ea:=alike_F (by omega) hI
  have hap:=app_ok (L:=items) (r:=.tup [.str "stop"]) (by omega)
  have fl:flatD (.bl true)=true:=rfl
  unfold b_law
  generalize J++tl=JT at *
  generalize ls.map D.str=LS at *
  show ((sSeq _ _:FS) [some (false,S),none,none,none,none]).bind _=_
  rw [seq_nx (σ':=[some (false,S),some (false,.lst items),none,none,none]) (by simp! [ep]),seq_nx (σ':=[some (false,S),some (false,.lst items),some (false,.lst LS),none,none]) (by simp! [ec,el]),seq_nx (σ':=[some (false,S),some (false,.lst items),some (false,.lst LS),some (false,.str JT),none]) (by simp! [ec,jn1,ext,ad]),seq_nx eq]
  simp! [f1,f2,eCallB,ea,fl,if_true,hap]
end L3
namespace My
open PySem L2 L3
set_option maxHeartbeats 4000000
noncomputable def top (i:Nat):Stmt:=PySem.Challenge.pw_markrun_k13_read.main.body.getD i (.Pass ⟨0,0,0,0⟩)
section
variable {P:Program} {w:World} {K:PySem.W.Frag} {mg:Str→Option Value} {base:Heap} {A_MARKS:Addr} {A_JUMPS:Addr} {A_FIELDS:Addr} {A_NUMBER_WIDTHS:Addr} {A_PLACES:Addr}
noncomputable abbrev s_is_number:Stmt:=top 4
theorem sc_is_number:FnScope ["thing", "width"] ["thing", "width"] (defScope s_is_number):=⟨rfl,rfl,rfl,by decide +kernel,rfl,by decide +kernel,by decide +kernel⟩
theorem ok_is_number (d:Def K mg "is_number" s_is_number ["thing", "width"]) (z_isinstance:mg "isinstance" = none) (z_int:mg "int" = none) (z_bool:mg "bool" = none):Has P w K mg base "is_number" ["thing", "width"] 1 (spF K F_is_number):=
  Def.okS d sc_is_number (by decide) run_is_number fun f cdv A outer s H E hr=>(sss_cons (ss_if (sw_t (sw_or (st_val (se_isi .bool rfl rfl z_isinstance z_bool boot_ty_bool (sb_of (se_var 0)))) (sw_or1 (st_not (st_val (se_isi .int rfl rfl z_isinstance z_int boot_ty_int (sb_of (se_var 0))))))))
      (sss_one (ss_ret se_bl))
      sss_nil)
    (sss_one (ss_ret (se_and (se_cmp op_le ok_cmp (sb_of se_int) (sb_of (se_var 0)) (nomark _)) (se_one (se_cmp op_lt ok_cmp (sb_of (se_var 0)) (sb_of (se_bin op_shl ok_shl se_int (se_var 1))) (nomark _)))))))
noncomputable abbrev s_is_name:Stmt:=top 15
theorem sc_is_name:FnScope ["thing"] ["thing"] (defScope s_is_name):=⟨rfl,rfl,rfl,by decide +kernel,rfl,by decide +kernel,by decide +kernel⟩
theorem ok_is_name (d:Def K mg "is_name" s_is_name ["thing"]) (z_isinstance:mg "isinstance" = none) (z_str:mg "str" = none) (z_len:mg "len" = none) (z_all:mg "all" = none) (g_NAME_LONGEST:Glb mg "NAME_LONGEST" (.int 8)) (q_NAME_LONGEST:∀ H,Rep K H (.int 8) (.int 8)) (g_LETTERS:Glb mg "LETTERS" (.str "abcdefghijklmnopqrstuvwxyz")) (q_LETTERS:∀ H,Rep K H (.str "abcdefghijklmnopqrstuvwxyz") (.str "abcdefghijklmnopqrstuvwxyz")):Has P w K mg base "is_name" ["thing"] 1 (spF K F_is_name):=
  Def.okS d sc_is_name (by decide) run_is_name fun f cdv A outer s H E hr=>(sss_cons (ss_if (st_not (st_val (se_isi .str rfl rfl z_isinstance z_str boot_ty_str (sb_of (se_var 0)))))
      (sss_one (ss_ret se_bl))
      sss_nil)
    (sss_cons (ss_if (sw_t (sw_or (st_cmp op_lt ok_cmp (sb_of (se_cb call_lenS ok_len rfl z_len bt_len (sab_cons (sb_of (se_var 0)) sab_nil))) (sb_of se_int) (nomark _)) (sw_or1 (st_cmp op_gt ok_cmp (sb_of (se_cb call_lenS ok_len rfl z_len bt_len (sab_cons (sb_of (se_var 0)) sab_nil))) (sb_of (se_gl g_NAME_LONGEST q_NAME_LONGEST rfl)) (nomark _)))))
      (sss_one (ss_ret se_bl))
      sss_nil)
    (sss_one (ss_ret (se_cb (call_all rfl) ok_all rfl z_all bt_all (sab_cons (sb_of (se_of (sf_lc rfl (blk_mk (own:=["sign"]) rfl) (si_seq (se_var 0)) (bg_one (fun C s H fp pn=>(qg_name (i:=1) (show (blkN ["thing"] ["sign"]).Nodup by decide +kernel) rfl (Or.inl rfl))) rfl) (fun C s H fp pn=>sts_nil) (fun C s H fp pn=>(se_cmp (op_inS (hu_of hr)) ok_in (sb_of (se_var 1)) (sb_of (se_gl g_LETTERS q_LETTERS rfl)) (by with_unfolding_all rfl)))))) sab_nil))))))
noncomputable abbrev s_fits:Stmt:=top 14
theorem sc_fits:FnScope ["kind", "field", "thing", "width"] ["kind", "field", "thing"] (defScope s_fits):=⟨rfl,rfl,rfl,by decide +kernel,rfl,by decide +kernel,by decide +kernel⟩
theorem ok_fits (d:Def K mg "fits" s_fits ["kind", "field", "thing"]) (g_MARKS:Glb mg "MARKS" (.ref A_MARKS)) (q_MARKS:∀ H,Rep K H gt_MARKS (.ref A_MARKS)) (g_NUMBER_WIDTHS:Glb mg "NUMBER_WIDTHS" (.ref A_NUMBER_WIDTHS)) (q_NUMBER_WIDTHS:GDict K w A_NUMBER_WIDTHS gk_NUMBER_WIDTHS gv_NUMBER_WIDTHS) (g_PLACES:Glb mg "PLACES" (.ref A_PLACES)) (q_PLACES:GDict K w A_PLACES gk_PLACES gv_PLACES) (h_is_name:Has P w K mg base "is_name" ["thing"] 1 (spF K F_is_name)) (h_is_number:Has P w K mg base "is_number" ["thing", "width"] 1 (spF K F_is_number)):Has P w K mg base "fits" ["kind", "field", "thing"] 2 (spF K F_fits):=
  Def.okS d sc_fits (by decide) run_fits fun f cdv A outer s H E hr=>(sss_cons (ss_if (st_cmp (op_eqS (hu7 hr)) ok_eq (sb_of (se_var 1)) (sb_of se_str) (nomark _))
      (sss_one (ss_ret (se_call h_is_name hr rfl (sa_cons (se_var 2) sa_nil))))
      sss_nil)
    (sss_cons (ss_if (st_cmp (op_eqS (hu7 hr)) ok_eq (sb_of (se_var 1)) (sb_of se_str) (nomark _))
      (sss_one (ss_ret (se_cmp (op_inX (hu_of hr)) ok_inX (sb_of (se_var 2)) (sb_of (se_gl g_MARKS q_MARKS rfl)) (by with_unfolding_all rfl))))
      sss_nil)
    (sss_cons (ss_set (i:=3) sc_fits.nd rfl (Or.inl rfl) (se_if (st_cmp (op_eqS (hu7 hr)) ok_eq (sb_of (se_var 1)) (sb_of se_str) (nomark _)) (se_gdix g_NUMBER_WIDTHS q_NUMBER_WIDTHS rfl (se_var 0)) (se_ix (ix_S (hu_of hr)) ok_ix (se_gdix g_PLACES q_PLACES rfl (se_var 1)) se_int)))
    (sss_one (ss_ret (se_call h_is_number hr rfl (sa_cons (se_var 2) (sa_cons (se_var 3) sa_nil))))))))
noncomputable abbrev s_is_item:Stmt:=top 13
theorem sc_is_item:FnScope ["thing", "kind", "fields"] ["thing"] (defScope s_is_item):=⟨rfl,rfl,rfl,by decide +kernel,rfl,by decide +kernel,by decide +kernel⟩
theorem ok_is_item (d:Def K mg "is_item" s_is_item ["thing"]) (z_len:mg "len" = none) (z_isinstance:mg "isinstance" = none) (z_tuple:mg "tuple" = none) (z_str:mg "str" = none) (z_all:mg "all" = none) (z_zip:mg "zip" = none) (g_FIELDS:Glb mg "FIELDS" (.ref A_FIELDS)) (q_FIELDS:GDict K w A_FIELDS gk_FIELDS gv_FIELDS) (h_fits:Has P w K mg base "fits" ["kind", "field", "thing"] 2 (spF K F_fits)):Has P w K mg base "is_item" ["thing"] 3 (spF K F_is_item):=
  Def.okS d sc_is_item (by decide) run_is_item fun f cdv A outer s H E hr=>(sss_cons (ss_if (sw_t (sw_or (st_not (st_val (se_isi .tuple rfl rfl z_isinstance z_tuple boot_ty_tuple (sb_of (se_var 0))))) (sw_or1 (st_cmp (op_eqS (hu7 hr)) ok_eq (sb_of (se_cb call_lenS ok_len rfl z_len bt_len (sab_cons (sb_of (se_var 0)) sab_nil))) (sb_of se_int) (nomark _)))))
      (sss_one (ss_ret se_bl))
      sss_nil)
    (sss_cons (ss_set (i:=1) sc_is_item.nd rfl (Or.inr rfl) (se_ix (ix_S (hu_of hr)) ok_ix (se_var 0) se_int))
    (sss_cons (ss_if (sw_t (sw_or (st_not (st_val (se_isi .str rfl rfl z_isinstance z_str boot_ty_str (sb_of (se_var 1))))) (sw_or1 (st_gdnin g_FIELDS q_FIELDS rfl (se_var 1)))))
      (sss_one (ss_ret se_bl))
      sss_nil)
    (sss_cons (ss_set (i:=2) sc_is_item.nd rfl (Or.inl rfl) (se_gdix g_FIELDS q_FIELDS rfl (se_var 1)))
    (sss_cons (ss_if (st_cmp (op_neS (hu7 hr)) ok_ne (sb_of (se_cb call_lenS ok_len rfl z_len bt_len (sab_cons (sb_of (se_var 0)) sab_nil))) (sb_of (se_bin op_addA ok_add (se_cb call_lenS ok_len rfl z_len bt_len (sab_cons (sb_of (se_var 2)) sab_nil)) se_int)) (nomark _))
      (sss_one (ss_ret se_bl))
      sss_nil)
    (sss_one (ss_ret (se_cb (call_all rfl) ok_all rfl z_all bt_all (sab_cons (sb_of (se_of (sf_lc rfl (blk_mk (own:=["field", "held"]) rfl) (si_zip rfl z_zip (se_var 2) (se_sl (se_var 0) (so_some se_int) so_none)) (bg_two (fun C s H fp pn=>(qg_tup (n:=2) rfl (qgs_cons (qg_name (i:=3) (show (blkN ["thing", "kind", "fields"] ["field", "held"]).Nodup by decide +kernel) rfl (Or.inl rfl)) (qgs_cons (qg_name (i:=4) (show (blkN ["thing", "kind", "fields"] ["field", "held"]).Nodup by decide +kernel) rfl (Or.inl rfl)) qgs_nil)))) rfl rfl) (fun C s H fp pn=>sts_nil) (fun C s H fp pn=>(se_call h_fits hr rfl (sa_cons (se_var 1) (sa_cons (se_var 3) (sa_cons (se_var 4) sa_nil)))))))) sab_nil)))))))))
noncomputable abbrev s_is_label:Stmt:=top 16
theorem sc_is_label:FnScope ["item"] ["item"] (defScope s_is_label):=⟨rfl,rfl,rfl,by decide +kernel,rfl,by decide +kernel,by decide +kernel⟩
theorem ok_is_label (d:Def K mg "is_label" s_is_label ["item"]):Has P w K mg base "is_label" ["item"] 1 (spF K F_is_label):=
  Def.okS d sc_is_label (by decide) run_is_label fun f cdv A outer s H E hr=>(sss_one (ss_ret (se_cmp (op_eqS (hu7 hr)) ok_eq (sb_of (se_ix (ix_S (hu_of hr)) ok_ix (se_var 0) se_int)) (sb_of se_str) (nomark _))))
noncomputable abbrev s_is_jump:Stmt:=top 17
theorem sc_is_jump:FnScope ["item"] ["item"] (defScope s_is_jump):=⟨rfl,rfl,rfl,by decide +kernel,rfl,by decide +kernel,by decide +kernel⟩
theorem ok_is_jump (d:Def K mg "is_jump" s_is_jump ["item"]) (g_JUMPS:Glb mg "JUMPS" (.ref A_JUMPS)) (q_JUMPS:∀ H,Rep K H gt_JUMPS (.ref A_JUMPS)):Has P w K mg base "is_jump" ["item"] 1 (spF K F_is_jump):=
  Def.okS d sc_is_jump (by decide) run_is_jump fun f cdv A outer s H E hr=>(sss_one (ss_ret (se_cmp (op_inS (hu_of hr)) ok_in (sb_of (se_ix (ix_S (hu_of hr)) ok_ix (se_var 0) se_int)) (sb_of (se_gl g_JUMPS q_JUMPS rfl)) (by with_unfolding_all rfl))))
noncomputable abbrev s_words_in:Stmt:=top 24
theorem sc_words_in:FnScope ["row", "looked_at"] ["row"] (defScope s_words_in):=⟨rfl,rfl,rfl,by decide +kernel,rfl,by decide +kernel,by decide +kernel⟩
theorem ok_words_in (d:Def K mg "words_in" s_words_in ["row"]):Has P w K mg base "words_in" ["row"] 1 (spF K F_words_in):=
  Def.okS d sc_words_in (by decide) run_words_in fun f cdv A outer s H E hr=>(sss_cons (ss_set (i:=1) sc_words_in.nd rfl (Or.inl rfl) (se_repl (se_part (se_var 0) se_str) (plain_ix rfl) (by decide)))
    (sss_one (ss_retO (sf_lc rfl (blk_mk (own:=["word"]) rfl) (si_seq (se_of (sf_split (se_var 1) se_str))) (bg_one (fun C s H fp pn=>(qg_name (i:=2) (show (blkN ["row", "looked_at"] ["word"]).Nodup by decide +kernel) rfl (Or.inl rfl))) rfl) (fun C s H fp pn=>(sts_one (st_cmp (op_neS (hu7 hr)) ok_ne (sb_of (se_var 2)) (sb_of se_str) (nomark _)))) (fun C s H fp pn=>(se_var 2))))))
noncomputable abbrev s_number_told:Stmt:=top 28
theorem sc_number_told:FnScope ["word"] ["word"] (defScope s_number_told):=⟨rfl,rfl,rfl,by decide +kernel,rfl,by decide +kernel,by decide +kernel⟩
theorem ok_number_told (d:Def K mg "number_told" s_number_told ["word"]) (z_len:mg "len" = none) (z_all:mg "all" = none) (z_int:mg "int" = none) (g_FIGURES_MOST:Glb mg "FIGURES_MOST" (.int 5)) (q_FIGURES_MOST:∀ H,Rep K H (.int 5) (.int 5)) (g_FIGURES:Glb mg "FIGURES" (.str "0123456789")) (q_FIGURES:∀ H,Rep K H (.str "0123456789") (.str "0123456789")):Has P w K mg base "number_told" ["word"] 1 (spF K F_number_told):=
  Def.okS d sc_number_told (by decide) run_number_told fun f cdv A outer s H E hr=>(sss_cons (ss_if (sw_t (sw_or (st_cmp (op_eqS (hu7 hr)) ok_eq (sb_of (se_var 0)) (sb_of se_str) (nomark _)) (sw_or1 (st_cmp op_gt ok_cmp (sb_of (se_cb call_lenS ok_len rfl z_len bt_len (sab_cons (sb_of (se_var 0)) sab_nil))) (sb_of (se_gl g_FIGURES_MOST q_FIGURES_MOST rfl)) (nomark _)))))
      (sss_one (ss_ret se_non))
      sss_nil)
    (sss_cons (ss_if (st_not (st_val (se_cb (call_all rfl) ok_all rfl z_all bt_all (sab_cons (sb_of (se_of (sf_lc rfl (blk_mk (own:=["sign"]) rfl) (si_seq (se_var 0)) (bg_one (fun C s H fp pn=>(qg_name (i:=1) (show (blkN ["word"] ["sign"]).Nodup by decide +kernel) rfl (Or.inl rfl))) rfl) (fun C s H fp pn=>sts_nil) (fun C s H fp pn=>(se_cmp (op_inS (hu_of hr)) ok_in (sb_of (se_var 1)) (sb_of (se_gl g_FIGURES q_FIGURES rfl)) (by with_unfolding_all rfl)))))) sab_nil))))
      (sss_one (ss_ret se_non))
      sss_nil)
    (sss_cons (ss_if (sw_t (sw_and (st_val (se_starts (se_var 0) se_str)) (sw_and1 (st_cmp (op_neS (hu7 hr)) ok_ne (sb_of (se_var 0)) (sb_of se_str) (nomark _)))))
      (sss_one (ss_ret se_non))
      sss_nil)
    (sss_one (ss_ret (se_intT rfl z_int (sa_cons (se_var 0) sa_nil)))))))
noncomputable abbrev s_field_told:Stmt:=top 27
theorem sc_field_told:FnScope ["field", "word"] ["field", "word"] (defScope s_field_told):=⟨rfl,rfl,rfl,by decide +kernel,rfl,by decide +kernel,by decide +kernel⟩
theorem ok_field_told (d:Def K mg "field_told" s_field_told ["field", "word"]) (h_number_told:Has P w K mg base "number_told" ["word"] 1 (spF K F_number_told)):Has P w K mg base "field_told" ["field", "word"] 2 (spF K F_field_told):=
  Def.okS d sc_field_told (by decide) run_field_told fun f cdv A outer s H E hr=>(sss_cons (ss_if (st_cmp (op_eqS (hu7 hr)) ok_eq (sb_of (se_var 0)) (sb_of se_str) (nomark _))
      (sss_one (ss_ret (se_call h_number_told hr rfl (sa_cons (se_var 1) sa_nil))))
      sss_nil)
    (sss_cons (ss_if (sw_t (sw_or (st_cmp (op_eqS (hu7 hr)) ok_eq (sb_of (se_var 0)) (sb_of se_str) (nomark _)) (sw_or1 (st_cmp (op_eqS (hu7 hr)) ok_eq (sb_of (se_var 0)) (sb_of se_str) (nomark _)))))
      (sss_one (ss_ret (se_if (st_val (se_starts (se_var 1) se_str)) (se_call h_number_told hr rfl (sa_cons (se_sl (se_var 1) (so_some se_int) so_none) sa_nil)) se_non)))
      sss_nil)
    (sss_one (ss_ret (se_var 1)))))
noncomputable abbrev s_row_told:Stmt:=top 26
theorem sc_row_told:FnScope ["words", "kind", "fields"] ["words"] (defScope s_row_told):=⟨rfl,rfl,rfl,by decide +kernel,rfl,by decide +kernel,by decide +kernel⟩
theorem ok_row_told (d:Def K mg "row_told" s_row_told ["words"]) (z_len:mg "len" = none) (z_tuple:mg "tuple" = none) (z_zip:mg "zip" = none) (g_FIELDS:Glb mg "FIELDS" (.ref A_FIELDS)) (q_FIELDS:GDict K w A_FIELDS gk_FIELDS gv_FIELDS) (h_field_told:Has P w K mg base "field_told" ["field", "word"] 2 (spF K F_field_told)):Has P w K mg base "row_told" ["words"] 3 (spF K F_row_told):=
  Def.okS d sc_row_told (by decide) run_row_told fun f cdv A outer s H E hr=>(sss_cons (ss_set (i:=1) sc_row_told.nd rfl (Or.inl rfl) (se_ix (ix_S (hu_of hr)) ok_ix (se_var 0) se_int))
    (sss_cons (ss_if (sw_t (sw_or (st_cmp (op_eqS (hu7 hr)) ok_eq (sb_of (se_var 1)) (sb_of se_str) (nomark _)) (sw_or1 (st_gdnin g_FIELDS q_FIELDS rfl (se_var 1)))))
      (sss_one (ss_ret se_non))
      sss_nil)
    (sss_cons (ss_set (i:=2) sc_row_told.nd rfl (Or.inl rfl) (se_gdix g_FIELDS q_FIELDS rfl (se_var 1)))
    (sss_cons (ss_if (st_cmp (op_neS (hu7 hr)) ok_ne (sb_of (se_cb call_lenS ok_len rfl z_len bt_len (sab_cons (sb_of (se_var 0)) sab_nil))) (sb_of (se_bin op_addA ok_add (se_cb call_lenS ok_len rfl z_len bt_len (sab_cons (sb_of (se_var 2)) sab_nil)) se_int)) (nomark _))
      (sss_one (ss_ret se_non))
      sss_nil)
    (sss_one (ss_ret (se_ctyG call_tuple_of ok_tuple rfl z_tuple boot_ty_tuple (sa_cons (se_bin op_addA ok_add (se_of (sf_lst (sa_cons (se_var 1) sa_nil) (al_le (al_cons al_nil) (by decide)))) (se_of (sf_lc rfl (blk_mk (own:=["field", "word"]) rfl) (si_zip rfl z_zip (se_var 2) (se_sl (se_var 0) (so_some se_int) so_none)) (bg_two (fun C s H fp pn=>(qg_tup (n:=2) rfl (qgs_cons (qg_name (i:=3) (show (blkN ["words", "kind", "fields"] ["field", "word"]).Nodup by decide +kernel) rfl (Or.inl rfl)) (qgs_cons (qg_name (i:=4) (show (blkN ["words", "kind", "fields"] ["field", "word"]).Nodup by decide +kernel) rfl (Or.inl rfl)) qgs_nil)))) rfl rfl) (fun C s H fp pn=>sts_nil) (fun C s H fp pn=>(se_call h_field_told hr rfl (sa_cons (se_var 3) (sa_cons (se_var 4) sa_nil))))))) sa_nil))))))))
noncomputable abbrev s_item_told:Stmt:=top 25
theorem sc_item_told:FnScope ["words", "item"] ["words"] (defScope s_item_told):=⟨rfl,rfl,rfl,by decide +kernel,rfl,by decide +kernel,by decide +kernel⟩
theorem ok_item_told (d:Def K mg "item_told" s_item_told ["words"]) (z_len:mg "len" = none) (h_row_told:Has P w K mg base "row_told" ["words"] 3 (spF K F_row_told)) (h_is_item:Has P w K mg base "is_item" ["thing"] 3 (spF K F_is_item)):Has P w K mg base "item_told" ["words"] 4 (spF K F_item_told):=
  Def.okS d sc_item_told (by decide) run_item_told fun f cdv A outer s H E hr=>(sss_cons (ss_set (i:=1) sc_item_told.nd rfl (Or.inl rfl) (se_call h_row_told hr rfl (sa_cons (se_var 0) sa_nil)))
    (sss_cons (ss_if (sw_t (sw_and (st_cmp (op_eqS (hu7 hr)) ok_eq (sb_of (se_cb call_lenS ok_len rfl z_len bt_len (sab_cons (sb_of (se_var 0)) sab_nil))) (sb_of se_int) (nomark _)) (sw_and1 (st_val (se_ends (se_ix (ix_S (hu_of hr)) ok_ix (se_var 0) se_int) se_str)))))
      (sss_one (ss_set (i:=1) sc_item_told.nd rfl (Or.inl rfl) (se_tup (sa_cons se_str (sa_cons (se_sl (se_ix (ix_S (hu_of hr)) ok_ix (se_var 0) se_int) so_none (so_some (se_un un_neg unI_neg se_int))) sa_nil)) (al_le (al_cons (al_cons al_nil)) (by decide)))))
      sss_nil)
    (sss_one (ss_ret (se_if (st_val (se_call h_is_item hr rfl (sa_cons (se_var 1) sa_nil))) (se_var 1) se_non)))))
noncomputable abbrev s_told_rows:Stmt:=top 23
theorem sc_told_rows:FnScope ["text", "told", "number", "row", "words"] ["text"] (defScope s_told_rows):=⟨rfl,rfl,rfl,by decide +kernel,rfl,by decide +kernel,by decide +kernel⟩
theorem ok_told_rows (d:Def K mg "told_rows" s_told_rows ["text"]) (z_enumerate:mg "enumerate" = none) (h_words_in:Has P w K mg base "words_in" ["row"] 1 (spF K F_words_in)) (h_item_told:Has P w K mg base "item_told" ["words"] 4 (spF K F_item_told)):Has P w K mg base "told_rows" ["text"] 5 (spF K F_told_rows):=
  Def.okS d sc_told_rows (by decide) run_told_rows fun f cdv A outer s H E hr=>(sss_cons (ss_setO (i:=1) sc_told_rows.nd rfl (Or.inl rfl) (sf_lst sa_nil (al_le al_nil (by decide))))
    (sss_cons (ss_for PassesOwn.never rfl (si_enum rfl z_enumerate (se_of (sf_split (se_var 0) se_str))) (sg_two (qg_tup (n:=2) rfl (qgs_cons (qg_name (i:=2) sc_told_rows.nd rfl (Or.inl rfl)) (qgs_cons (qg_name (i:=3) sc_told_rows.nd rfl (Or.inl rfl)) qgs_nil))) rfl rfl)
      (sss_cons (ss_set (i:=4) sc_told_rows.nd rfl (Or.inl rfl) (se_call h_words_in hr rfl (sa_cons (se_var 3) sa_nil)))
        (sss_one (ss_if (st_cmp (op_neS (hu7 hr)) ok_ne (sb_of (se_var 4)) (sb_of (se_of (sf_lst sa_nil (al_le al_nil (by decide))))) (nomark _))
          (sss_one (ss_append (qv 1) (se_tup (sa_cons (se_var 2) (sa_cons (se_call h_item_told hr rfl (sa_cons (se_var 4) sa_nil)) sa_nil)) (al_le (al_cons (al_cons al_nil)) (by decide)))))
          sss_nil))))
    (sss_one (ss_retV 1))))
noncomputable abbrev s_least_fault:Stmt:=top 29
theorem sc_least_fault:FnScope ["told", "names", "number", "item", "ahead"] ["told"] (defScope s_least_fault):=⟨rfl,rfl,rfl,by decide +kernel,rfl,by decide +kernel,by decide +kernel⟩
theorem ok_least_fault (d:Def K mg "least_fault" s_least_fault ["told"]) (h_is_label:Has P w K mg base "is_label" ["item"] 1 (spF K F_is_label)) (h_is_jump:Has P w K mg base "is_jump" ["item"] 1 (spF K F_is_jump)):Has P w K mg base "least_fault" ["told"] 2 (spF K F_least_fault):=
  Def.okS d sc_least_fault (by decide) run_least_fault fun f cdv A outer s H E hr=>(sss_cons (ss_setO (i:=1) sc_least_fault.nd rfl (Or.inl rfl) sf_dnew)
    (sss_cons (ss_for PassesOwn.never rfl (si_seq (se_var 0)) (sg_two (qg_tup (n:=2) rfl (qgs_cons (qg_name (i:=2) sc_least_fault.nd rfl (Or.inl rfl)) (qgs_cons (qg_name (i:=3) sc_least_fault.nd rfl (Or.inl rfl)) qgs_nil))) rfl rfl)
      (sss_one (ss_if (sw_t (sw_and (st_cmp op_notN ok_notN (sb_of (se_var 3)) (sb_of se_non) (nomark _)) (sw_and1 (st_val (se_call h_is_label hr rfl (sa_cons (se_var 3) sa_nil))))))
          (sss_one (ss_dput (hu_of hr) (qv 1) (se_ix (ix_S (hu_of hr)) ok_ix (se_var 3) se_int) se_bl))
          sss_nil)))
    (sss_freeze 1 (sss_cons (ss_setO (i:=4) sc_least_fault.nd rfl (Or.inl rfl) sf_dnew)
    (sss_cons (ss_for PassesOwn.never rfl (si_seq (se_var 0)) (sg_two (qg_tup (n:=2) rfl (qgs_cons (qg_name (i:=2) sc_least_fault.nd rfl (Or.inl rfl)) (qgs_cons (qg_name (i:=3) sc_least_fault.nd rfl (Or.inl rfl)) qgs_nil))) rfl rfl)
      (sss_cons (ss_if (st_cmp op_isN ok_isN (sb_of (se_var 3)) (sb_of se_non) (nomark _))
          (sss_one (ss_ret (se_var 2)))
          sss_nil)
        (sss_cons (ss_if (sw_t (sw_and (st_val (se_call h_is_jump hr rfl (sa_cons (se_var 3) sa_nil))) (sw_and1 (st_cmp (op_notInS (hu_of hr)) ok_notIn (sb_of (se_ix (ix_S (hu_of hr)) ok_ix (se_var 3) (se_un un_neg unI_neg se_int))) (sb_of (se_var 1)) (by with_unfolding_all rfl)))))
          (sss_one (ss_ret (se_var 2)))
          sss_nil)
        (sss_one (ss_if (st_val (se_call h_is_label hr rfl (sa_cons (se_var 3) sa_nil)))
          (sss_cons (ss_if (st_cmp (op_inS (hu_of hr)) ok_in (sb_of (se_ix (ix_S (hu_of hr)) ok_ix (se_var 3) se_int)) (sb_var 4) (by with_unfolding_all rfl))
              (sss_one (ss_ret (se_var 2)))
              sss_nil)
            (sss_one (ss_dput (hu_of hr) (qv 4) (se_ix (ix_S (hu_of hr)) ok_ix (se_var 3) se_int) se_bl)))
          sss_nil)))))
    (sss_freeze 4 (sss_one (ss_ret se_non))))))))
noncomputable abbrev s_fault:Stmt:=top 22
theorem sc_fault:FnScope ["text"] ["text"] (defScope s_fault):=⟨rfl,rfl,rfl,by decide +kernel,rfl,by decide +kernel,by decide +kernel⟩
theorem ok_fault (d:Def K mg "fault" s_fault ["text"]) (h_least_fault:Has P w K mg base "least_fault" ["told"] 2 (spF K F_least_fault)) (h_told_rows:Has P w K mg base "told_rows" ["text"] 5 (spF K F_told_rows)):Has P w K mg base "fault" ["text"] 6 (spF K F_fault):=
  Def.okS d sc_fault (by decide) run_fault fun f cdv A outer s H E hr=>(sss_one (ss_ret (se_call h_least_fault hr rfl (sa_cons (se_call h_told_rows hr rfl (sa_cons (se_var 0) sa_nil)) sa_nil))))
noncomputable abbrev s_read:Stmt:=top 21
theorem sc_read:FnScope ["text", "told", "wrong"] ["text"] (defScope s_read):=⟨rfl,rfl,rfl,by decide +kernel,rfl,by decide +kernel,by decide +kernel⟩
theorem ok_read (d:Def K mg "read" s_read ["text"]) (h_told_rows:Has P w K mg base "told_rows" ["text"] 5 (spF K F_told_rows)) (h_least_fault:Has P w K mg base "least_fault" ["told"] 2 (spF K F_least_fault)):Has P w K mg base "read" ["text"] 6 (spF K F_read):=
  Def.okS d sc_read (by decide) run_read fun f cdv A outer s H E hr=>(sss_cons (ss_set (i:=1) sc_read.nd rfl (Or.inl rfl) (se_call h_told_rows hr rfl (sa_cons (se_var 0) sa_nil)))
    (sss_cons (ss_set (i:=2) sc_read.nd rfl (Or.inl rfl) (se_call h_least_fault hr rfl (sa_cons (se_var 1) sa_nil)))
    (sss_cons (ss_if (st_cmp op_notN ok_notN (sb_of (se_var 2)) (sb_of se_non) (nomark _))
      ss_never
      sss_nil)
    (sss_one (ss_retO (sf_lc rfl (blk_mk (own:=["number", "item"]) rfl) (si_seq (se_var 1)) (bg_two (fun C s H fp pn=>(qg_tup (n:=2) rfl (qgs_cons (qg_name (i:=3) (show (blkN ["text", "told", "wrong"] ["number", "item"]).Nodup by decide +kernel) rfl (Or.inl rfl)) (qgs_cons (qg_name (i:=4) (show (blkN ["text", "told", "wrong"] ["number", "item"]).Nodup by decide +kernel) rfl (Or.inl rfl)) qgs_nil)))) rfl rfl) (fun C s H fp pn=>sts_nil) (fun C s H fp pn=>(se_var 4))))))))
noncomputable abbrev s_law_cell_at:Stmt:=top 31
theorem sc_law_cell_at:FnScope ["_law_script", "_law_k"] ["_law_script", "_law_k"] (defScope s_law_cell_at):=⟨rfl,rfl,rfl,by decide +kernel,rfl,by decide +kernel,by decide +kernel⟩
theorem ok_law_cell_at (d:Def K mg "_law_cell_at" s_law_cell_at ["_law_script", "_law_k"]) (z_len:mg "len" = none):Has P w K mg base "_law_cell_at" ["_law_script", "_law_k"] 1 (spF K F_law_cell_at):=
  Def.okS d sc_law_cell_at (by decide) run_law_cell_at fun f cdv A outer s H E hr=>(sss_cons (ss_if (st_cmp op_lt ok_cmp (sb_of (se_var 1)) (sb_of (se_cb call_lenS ok_len rfl z_len bt_len (sab_cons (sb_of (se_var 0)) sab_nil))) (nomark _))
      (sss_one (ss_ret (se_ix (ix_S (hu_of hr)) ok_ix (se_var 0) (se_var 1))))
      sss_nil)
    (sss_one (ss_ret se_int)))
noncomputable abbrev s_law_whole:Stmt:=top 32
theorem sc_law_whole:FnScope ["_law_found"] ["_law_found"] (defScope s_law_whole):=⟨rfl,rfl,rfl,by decide +kernel,rfl,by decide +kernel,by decide +kernel⟩
theorem ok_law_whole (d:Def K mg "_law_whole" s_law_whole ["_law_found"]) (z_isinstance:mg "isinstance" = none) (z_bool:mg "bool" = none) (z_int:mg "int" = none):Has P w K mg base "_law_whole" ["_law_found"] 1 (spF K F_law_whole):=
  Def.okS d sc_law_whole (by decide) run_law_whole fun f cdv A outer s H E hr=>(sss_one (ss_ret (se_and (se_isi .int rfl rfl z_isinstance z_int boot_ty_int (sb_of (se_var 0))) (se_one (se_not (se_isi .bool rfl rfl z_isinstance z_bool boot_ty_bool (sb_of (se_var 0))))))))
noncomputable abbrev s_law_mixed:Stmt:=top 33
theorem sc_law_mixed:FnScope ["_law_cell", "_law_k", "_law_many", "_law_some", "_law_made"] ["_law_cell", "_law_k", "_law_many"] (defScope s_law_mixed):=⟨rfl,rfl,rfl,by decide +kernel,rfl,by decide +kernel,by decide +kernel⟩
theorem ok_law_mixed (d:Def K mg "_law_mixed" s_law_mixed ["_law_cell", "_law_k", "_law_many"]):Has P w K mg base "_law_mixed" ["_law_cell", "_law_k", "_law_many"] 1 (spF K F_law_mixed):=
  Def.okS d sc_law_mixed (by decide) run_law_mixed fun f cdv A outer s H E hr=>(sss_cons (ss_set (i:=3) sc_law_mixed.nd rfl (Or.inl rfl) (se_of (sf_lst (sa_ints (is:=[99991,99989,99971,99961,99929,99923,99907,99901,99881,99877,99871]) rfl) (al_le (al_ints (n:=11) (by decide)) (by decide)))))
    (sss_cons (ss_set (i:=4) sc_law_mixed.nd rfl (Or.inl rfl) (se_bin op_mod ok_mod (se_bin op_mul ok_mulR (se_bin op_addA ok_add (se_var 0) (se_bin op_mul ok_mulL se_int (se_var 1))) se_int) (se_ix (ix_S (hu_of hr)) ok_ix (se_var 3) (se_bin op_mod ok_mod (se_var 1) se_int))))
    (sss_one (ss_ret (se_bin op_mod ok_mod (se_bin op_mod ok_mod (se_bin op_addA ok_add (se_bin op_addA ok_add (se_bin op_mul ok_mulR (se_bin op_mulB ok_mulB (se_var 4) (se_var 4)) se_int) (se_var 4)) (se_var 1)) se_int) (se_var 2))))))
noncomputable abbrev s_law_letter:Stmt:=top 34
theorem sc_law_letter:FnScope ["_law_k"] ["_law_k"] (defScope s_law_letter):=⟨rfl,rfl,rfl,by decide +kernel,rfl,by decide +kernel,by decide +kernel⟩
theorem ok_law_letter (d:Def K mg "_law_letter" s_law_letter ["_law_k"]):Has P w K mg base "_law_letter" ["_law_k"] 1 (spF K F_law_letter):=
  Def.okS d sc_law_letter (by decide) run_law_letter fun f cdv A outer s H E hr=>(sss_one (ss_ret (se_ix (ix_S (hu_of hr)) ok_ix se_str (se_bin op_mod ok_mod (se_var 0) se_int))))
noncomputable abbrev s_law_names:Stmt:=top 35
theorem sc_law_names:FnScope ["_law_cell", "_law_many", "_law_size", "_law_spot", "_law_word", "_law_own", "_law_names_here", "_law_k", "_law_letter_here", "_law_name", "_law_others"] ["_law_cell", "_law_many"] (defScope s_law_names):=⟨rfl,rfl,rfl,by decide +kernel,rfl,by decide +kernel,by decide +kernel⟩
theorem ok_law_names (d:Def K mg "_law_names" s_law_names ["_law_cell", "_law_many"]) (z_range:mg "range" = none) (h_law_mixed:Has P w K mg base "_law_mixed" ["_law_cell", "_law_k", "_law_many"] 1 (spF K F_law_mixed)) (h_law_letter:Has P w K mg base "_law_letter" ["_law_k"] 1 (spF K F_law_letter)):Has P w K mg base "_law_names" ["_law_cell", "_law_many"] 2 (spF K F_law_names):=
  Def.okS d sc_law_names (by decide) run_law_names fun f cdv A outer s H E hr=>(sss_cons (ss_set (i:=2) sc_law_names.nd rfl (Or.inl rfl) (se_bin op_addA ok_add se_int (se_call h_law_mixed hr rfl (sa_cons (se_var 0) (sa_cons se_int (sa_cons se_int sa_nil))))))
    (sss_cons (ss_set (i:=3) sc_law_names.nd rfl (Or.inl rfl) (se_call h_law_mixed hr rfl (sa_cons (se_var 0) (sa_cons se_int (sa_cons (se_var 2) sa_nil)))))
    (sss_cons (ss_set (i:=4) sc_law_names.nd rfl (Or.inl rfl) (se_m_join se_str (sb_of (se_of (sf_lc rfl (blk_mk (own:=["_law_j"]) rfl) (si_range1 rfl z_range se_int) (bg_one (fun C s H fp pn=>(qg_name (i:=11) (show (blkN ["_law_cell", "_law_many", "_law_size", "_law_spot", "_law_word", "_law_own", "_law_names_here", "_law_k", "_law_letter_here", "_law_name", "_law_others"] ["_law_j"]).Nodup by decide +kernel) rfl (Or.inl rfl))) rfl) (fun C s H fp pn=>sts_nil) (fun C s H fp pn=>(se_call h_law_letter hr rfl (sa_cons (se_call h_law_mixed hr rfl (sa_cons (se_var 0) (sa_cons (se_bin op_addA ok_add se_int (se_var 11)) (sa_cons se_int sa_nil)))) sa_nil))))))))
    (sss_cons (ss_set (i:=5) sc_law_names.nd rfl (Or.inl rfl) (se_of (sf_lst (sa_cons se_str (sa_cons se_str (sa_cons se_str (sa_cons se_str (sa_cons se_str (sa_cons se_str (sa_cons se_str (sa_cons se_str sa_nil)))))))) (al_le (al_cons (al_cons (al_cons (al_cons (al_cons (al_cons (al_cons (al_cons al_nil)))))))) (by decide)))))
    (sss_cons (ss_setO (i:=6) sc_law_names.nd rfl (Or.inr rfl) (sf_lst sa_nil (al_le al_nil (by decide))))
    (sss_cons (ss_for PassesOwn.never rfl (si_range1 rfl z_range (se_var 1)) (sg_var (qg_name (i:=7) sc_law_names.nd rfl (Or.inl rfl)) rfl)
      (sss_cons (ss_set (i:=8) sc_law_names.nd rfl (Or.inl rfl) (se_call h_law_letter hr rfl (sa_cons (se_bin op_addA ok_add (se_call h_law_mixed hr rfl (sa_cons (se_var 0) (sa_cons se_int (sa_cons se_int sa_nil)))) (se_bin op_mul ok_mulL se_int (se_var 7))) sa_nil)))
        (sss_cons (ss_set (i:=9) sc_law_names.nd rfl (Or.inl rfl) (se_bin op_addA ok_add (se_bin op_addA ok_add (se_sl (se_var 4) so_none (so_some (se_var 3))) (se_var 8)) (se_sl (se_var 4) (so_some (se_bin op_addA ok_add (se_var 3) se_int)) (so_some (se_var 2)))))
        (sss_cons (ss_if (sw_t (sw_and (st_cmp (op_eqS (hu7 hr)) ok_eq (sb_of (se_call h_law_mixed hr rfl (sa_cons (se_var 0) (sa_cons se_int (sa_cons se_int sa_nil))))) (sb_of se_int) (nomark _)) (sw_and1 (st_cmp op_lt ok_cmp (sb_of (se_var 7)) (sb_of se_int) (nomark _)))))
          (sss_one (ss_set (i:=9) sc_law_names.nd rfl (Or.inl rfl) (se_ix (ix_S (hu_of hr)) ok_ix (se_of (sf_lst (sa_cons (se_sl (se_var 4) so_none (so_some (se_bin op_addA ok_add (se_var 7) se_int))) (sa_cons (se_ix (ix_S (hu_of hr)) ok_ix (se_var 5) (se_var 7)) sa_nil)) (al_le (al_cons (al_cons al_nil)) (by decide)))) (se_call h_law_mixed hr rfl (sa_cons (se_var 0) (sa_cons se_int (sa_cons se_int sa_nil)))))))
          sss_nil)
        (sss_cons (ss_if (st_cmp (op_inS (hu_of hr)) ok_in (sb_of (se_var 9)) (sb_var 6) (by with_unfolding_all rfl))
          (sss_cons (ss_set (i:=10) sc_law_names.nd rfl (Or.inl rfl) (se_bin op_addA ok_add (se_of (sf_lc rfl (blk_mk (own:=["_law_j"]) rfl) (si_range1 rfl z_range se_int) (bg_one (fun C s H fp pn=>(qg_name (i:=11) (show (blkN ["_law_cell", "_law_many", "_law_size", "_law_spot", "_law_word", "_law_own", "_law_names_here", "_law_k", "_law_letter_here", "_law_name", "_law_others"] ["_law_j"]).Nodup by decide +kernel) rfl (Or.inl rfl))) rfl) (fun C s H fp pn=>sts_nil) (fun C s H fp pn=>(se_bin op_addA ok_add (se_call h_law_letter hr rfl (sa_cons (se_var 11) sa_nil)) se_str)))) (se_of (sf_lc rfl (blk_mk (own:=["_law_j"]) rfl) (si_range1 rfl z_range se_int) (bg_one (fun C s H fp pn=>(qg_name (i:=11) (show (blkN ["_law_cell", "_law_many", "_law_size", "_law_spot", "_law_word", "_law_own", "_law_names_here", "_law_k", "_law_letter_here", "_law_name", "_law_others"] ["_law_j"]).Nodup by decide +kernel) rfl (Or.inl rfl))) rfl) (fun C s H fp pn=>sts_nil) (fun C s H fp pn=>(se_bin op_addA ok_add (se_call h_law_letter hr rfl (sa_cons (se_var 11) sa_nil)) se_str))))))
            (sss_one (ss_set (i:=9) sc_law_names.nd rfl (Or.inl rfl) (se_ix (ix_S (hu_of hr)) ok_ix (se_of (sf_lc rfl (blk_mk (own:=["_law_one"]) rfl) (si_seq (se_var 10)) (bg_one (fun C s H fp pn=>(qg_name (i:=11) (show (blkN ["_law_cell", "_law_many", "_law_size", "_law_spot", "_law_word", "_law_own", "_law_names_here", "_law_k", "_law_letter_here", "_law_name", "_law_others"] ["_law_one"]).Nodup by decide +kernel) rfl (Or.inl rfl))) rfl) (fun C s H fp pn=>(sts_one (st_cmp (op_notInS (hu_of hr)) ok_notIn (sb_of (se_var 11)) (sb_var 6) (by with_unfolding_all rfl)))) (fun C s H fp pn=>(se_var 11)))) se_int))))
          sss_nil)
        (sss_one (ss_append (qv 6) (se_var 9))))))))
    (sss_one (ss_retV 6))))))))
noncomputable abbrev s_law_shape:Stmt:=top 36
theorem sc_law_shape:FnScope ["_law_word"] ["_law_word"] (defScope s_law_shape):=⟨rfl,rfl,rfl,by decide +kernel,rfl,by decide +kernel,by decide +kernel⟩
theorem ok_law_shape (d:Def K mg "_law_shape" s_law_shape ["_law_word"]):Has P w K mg base "_law_shape" ["_law_word"] 1 (spF K F_law_shape):=
  Def.okS d sc_law_shape (by decide) run_law_shape fun f cdv A outer s H E hr=>(sss_cons (ss_if (st_cmp (op_inS (hu_of hr)) ok_in (sb_of (se_var 0)) (sb_of (se_of (sf_lst (sa_cons se_str (sa_cons se_str sa_nil)) (al_le (al_cons (al_cons al_nil)) (by decide))))) (by with_unfolding_all rfl))
      (sss_one (ss_retO (sf_lst (sa_cons se_int (sa_cons se_int sa_nil)) (al_le (al_cons (al_cons al_nil)) (by decide)))))
      sss_nil)
    (sss_cons (ss_if (st_cmp (op_inS (hu_of hr)) ok_in (sb_of (se_var 0)) (sb_of (se_of (sf_lst (sa_cons se_str (sa_cons se_str sa_nil)) (al_le (al_cons (al_cons al_nil)) (by decide))))) (by with_unfolding_all rfl))
      (sss_one (ss_retO (sf_lst (sa_cons se_int (sa_cons se_int sa_nil)) (al_le (al_cons (al_cons al_nil)) (by decide)))))
      sss_nil)
    (sss_cons (ss_if (st_cmp (op_inS (hu_of hr)) ok_in (sb_of (se_var 0)) (sb_of (se_of (sf_lst (sa_cons se_str (sa_cons se_str (sa_cons se_str (sa_cons se_str sa_nil)))) (al_le (al_cons (al_cons (al_cons (al_cons al_nil)))) (by decide))))) (by with_unfolding_all rfl))
      (sss_one (ss_retO (sf_lst (sa_ints (is:=[8,8,256]) rfl) (al_le (al_ints (n:=3) (by decide)) (by decide)))))
      sss_nil)
    (sss_cons (ss_if (st_cmp (op_inS (hu_of hr)) ok_in (sb_of (se_var 0)) (sb_of (se_of (sf_lst (sa_cons se_str (sa_cons se_str (sa_cons se_str (sa_cons se_str (sa_cons se_str (sa_cons se_str (sa_cons se_str (sa_cons se_str (sa_cons se_str sa_nil))))))))) (al_le (al_cons (al_cons (al_cons (al_cons (al_cons (al_cons (al_cons (al_cons (al_cons al_nil))))))))) (by decide))))) (by with_unfolding_all rfl))
      (sss_one (ss_retO (sf_lst (sa_cons se_int (sa_cons se_int sa_nil)) (al_le (al_cons (al_cons al_nil)) (by decide)))))
      sss_nil)
    (sss_one (ss_ret (se_ix (ix_S (hu_of hr)) ok_ix (se_of (sf_disp (sd_cons (se_of (sf_lst (sa_cons se_str sa_nil) (al_le (al_cons al_nil) (by decide)))) (sd_cons (se_of (sf_lst (sa_cons se_str sa_nil) (al_le (al_cons al_nil) (by decide)))) (sd_cons (se_of (sf_lst (sa_cons se_str (sa_cons se_str sa_nil)) (al_le (al_cons (al_cons al_nil)) (by decide)))) (sd_cons (se_of (sf_lst (sa_cons se_str (sa_cons se_str sa_nil)) (al_le (al_cons (al_cons al_nil)) (by decide)))) (sd_cons (se_of (sf_lst sa_nil (al_le al_nil (by decide)))) sd_nil))))) (by decide +kernel) (by decide))) (se_var 0))))))))
noncomputable abbrev s_law_words:Stmt:=top 37
theorem sc_law_words:FnScope ["_law_some"] [] (defScope s_law_words):=⟨rfl,rfl,rfl,by decide +kernel,rfl,by decide +kernel,by decide +kernel⟩
theorem ok_law_words (d:Def K mg "_law_words" s_law_words []):Has P w K mg base "_law_words" [] 1 (spF K F_law_words):=
  Def.okS d sc_law_words (by decide) run_law_words fun f cdv A outer s H E hr=>(sss_cons (ss_set (i:=0) sc_law_words.nd rfl (Or.inl rfl) (se_of (sf_lst (sa_cons se_str (sa_cons se_str (sa_cons se_str (sa_cons se_str (sa_cons se_str (sa_cons se_str (sa_cons se_str (sa_cons se_str (sa_cons se_str (sa_cons se_str (sa_cons se_str (sa_cons se_str (sa_cons se_str (sa_cons se_str sa_nil)))))))))))))) (al_le (al_cons (al_cons (al_cons (al_cons (al_cons (al_cons (al_cons (al_cons (al_cons (al_cons (al_cons (al_cons (al_cons (al_cons al_nil)))))))))))))) (by decide)))))
    (sss_one (ss_ret (se_bin op_addA ok_add (se_var 0) (se_of (sf_lst (sa_cons se_str (sa_cons se_str (sa_cons se_str (sa_cons se_str (sa_cons se_str (sa_cons se_str (sa_cons se_str sa_nil))))))) (al_le (al_cons (al_cons (al_cons (al_cons (al_cons (al_cons (al_cons al_nil))))))) (by decide))))))))
noncomputable abbrev s_law_part_by:Stmt:=top 38
theorem sc_law_part_by:FnScope ["_law_kind", "_law_cell", "_law_k", "_law_names_here"] ["_law_kind", "_law_cell", "_law_k", "_law_names_here"] (defScope s_law_part_by):=⟨rfl,rfl,rfl,by decide +kernel,rfl,by decide +kernel,by decide +kernel⟩
theorem ok_law_part_by (d:Def K mg "_law_part_by" s_law_part_by ["_law_kind", "_law_cell", "_law_k", "_law_names_here"]) (z_len:mg "len" = none) (h_law_mixed:Has P w K mg base "_law_mixed" ["_law_cell", "_law_k", "_law_many"] 1 (spF K F_law_mixed)):Has P w K mg base "_law_part_by" ["_law_kind", "_law_cell", "_law_k", "_law_names_here"] 2 (spF K F_law_part_by):=
  Def.okS d sc_law_part_by (by decide) run_law_part_by fun f cdv A outer s H E hr=>(sss_cons (ss_if (st_cmp (op_eqS (hu7 hr)) ok_eq (sb_of (se_var 0)) (sb_of se_str) (nomark _))
      (sss_one (ss_ret (se_ix (ix_S (hu_of hr)) ok_ix (se_var 3) (se_call h_law_mixed hr rfl (sa_cons (se_var 1) (sa_cons (se_var 2) (sa_cons (se_cb call_lenS ok_len rfl z_len bt_len (sab_cons (sb_of (se_var 3)) sab_nil)) sa_nil)))))))
      sss_nil)
    (sss_cons (ss_if (st_cmp (op_eqS (hu7 hr)) ok_eq (sb_of (se_var 0)) (sb_of se_str) (nomark _))
      (sss_one (ss_ret (se_ix (ix_S (hu_of hr)) ok_ix (se_of (sf_lst (sa_cons se_str (sa_cons se_str (sa_cons se_str sa_nil))) (al_le (al_cons (al_cons (al_cons al_nil))) (by decide)))) (se_call h_law_mixed hr rfl (sa_cons (se_var 1) (sa_cons (se_var 2) (sa_cons se_int sa_nil)))))))
      sss_nil)
    (sss_one (ss_ret (se_ix (ix_S (hu_of hr)) ok_ix (se_of (sf_lst (sa_cons se_int (sa_cons (se_bin op_sub ok_sub (se_var 0) se_int) (sa_cons (se_call h_law_mixed hr rfl (sa_cons (se_var 1) (sa_cons (se_var 2) (sa_cons (se_var 0) sa_nil)))) (sa_cons (se_call h_law_mixed hr rfl (sa_cons (se_var 1) (sa_cons (se_bin op_addA ok_add (se_var 2) se_int) (sa_cons (se_var 0) sa_nil)))) sa_nil)))) (al_le (al_cons (al_cons (al_cons (al_cons al_nil)))) (by decide)))) (se_call h_law_mixed hr rfl (sa_cons (se_var 1) (sa_cons (se_bin op_addA ok_add (se_var 2) se_int) (sa_cons se_int sa_nil)))))))))
noncomputable abbrev s_law_row_by:Stmt:=top 39
theorem sc_law_row_by:FnScope ["_law_cell", "_law_names_here", "_law_word", "_law_shape_here"] ["_law_cell", "_law_names_here"] (defScope s_law_row_by):=⟨rfl,rfl,rfl,by decide +kernel,rfl,by decide +kernel,by decide +kernel⟩
theorem ok_law_row_by (d:Def K mg "_law_row_by" s_law_row_by ["_law_cell", "_law_names_here"]) (z_len:mg "len" = none) (z_tuple:mg "tuple" = none) (z_range:mg "range" = none) (h_law_mixed:Has P w K mg base "_law_mixed" ["_law_cell", "_law_k", "_law_many"] 1 (spF K F_law_mixed)) (h_law_words:Has P w K mg base "_law_words" [] 1 (spF K F_law_words)) (h_law_shape:Has P w K mg base "_law_shape" ["_law_word"] 1 (spF K F_law_shape)) (h_law_part_by:Has P w K mg base "_law_part_by" ["_law_kind", "_law_cell", "_law_k", "_law_names_here"] 2 (spF K F_law_part_by)):Has P w K mg base "_law_row_by" ["_law_cell", "_law_names_here"] 3 (spF K F_law_row_by):=
  Def.okS d sc_law_row_by (by decide) run_law_row_by fun f cdv A outer s H E hr=>(sss_cons (ss_set (i:=2) sc_law_row_by.nd rfl (Or.inl rfl) (se_ix (ix_S (hu_of hr)) ok_ix (se_call0 h_law_words hr rfl) (se_call h_law_mixed hr rfl (sa_cons (se_var 0) (sa_cons se_int (sa_cons se_int sa_nil))))))
    (sss_cons (ss_if (st_cmp (op_eqS (hu7 hr)) ok_eq (sb_of (se_call h_law_mixed hr rfl (sa_cons (se_var 0) (sa_cons se_int (sa_cons se_int sa_nil))))) (sb_of se_int) (nomark _))
      (sss_one (ss_set (i:=2) sc_law_row_by.nd rfl (Or.inl rfl) (se_ix (ix_S (hu_of hr)) ok_ix (se_of (sf_lst (sa_cons se_str (sa_cons se_str (sa_cons se_str sa_nil))) (al_le (al_cons (al_cons (al_cons al_nil))) (by decide)))) (se_call h_law_mixed hr rfl (sa_cons (se_var 0) (sa_cons se_int (sa_cons se_int sa_nil)))))))
      sss_nil)
    (sss_cons (ss_if (sw_t (sw_and (st_cmp (op_inS (hu_of hr)) ok_in (sb_of (se_var 2)) (sb_of (se_of (sf_lst (sa_cons se_str (sa_cons se_str (sa_cons se_str sa_nil))) (al_le (al_cons (al_cons (al_cons al_nil))) (by decide))))) (by with_unfolding_all rfl)) (sw_and1 (st_cmp (op_eqS (hu7 hr)) ok_eq (sb_of (se_cb call_lenS ok_len rfl z_len bt_len (sab_cons (sb_of (se_var 1)) sab_nil))) (sb_of se_int) (nomark _)))))
      (sss_one (ss_set (i:=2) sc_law_row_by.nd rfl (Or.inl rfl) se_str))
      sss_nil)
    (sss_cons (ss_set (i:=3) sc_law_row_by.nd rfl (Or.inr rfl) (se_call h_law_shape hr rfl (sa_cons (se_var 2) sa_nil)))
    (sss_one (ss_ret (se_bin op_addA ok_add (se_tup (sa_cons (se_var 2) sa_nil) (al_le (al_cons al_nil) (by decide))) (se_ctyG call_tuple_of ok_tuple rfl z_tuple boot_ty_tuple (sa_cons (se_of (sf_lc rfl (blk_mk (own:=["_law_k"]) rfl) (si_range1 rfl z_range (se_cb call_lenS ok_len rfl z_len bt_len (sab_cons (sb_of (se_var 3)) sab_nil))) (bg_one (fun C s H fp pn=>(qg_name (i:=4) (show (blkN ["_law_cell", "_law_names_here", "_law_word", "_law_shape_here"] ["_law_k"]).Nodup by decide +kernel) rfl (Or.inl rfl))) rfl) (fun C s H fp pn=>sts_nil) (fun C s H fp pn=>(se_call h_law_part_by hr rfl (sa_cons (se_ix (ix_S (hu_of hr)) ok_ix (se_var 3) (se_var 4)) (sa_cons (se_var 0) (sa_cons (se_bin op_addA ok_add (se_bin op_mul ok_mulL se_int (se_var 4)) se_int) (sa_cons (se_var 1) sa_nil)))))))) sa_nil)))))))))
noncomputable abbrev s_law_program:Stmt:=top 40
theorem sc_law_program:FnScope ["_law_script", "_law_first", "_law_far", "_law_cells", "_law_k", "_law_many", "_law_names_here", "_law_items"] ["_law_script", "_law_first"] (defScope s_law_program):=⟨rfl,rfl,rfl,by decide +kernel,rfl,by decide +kernel,by decide +kernel⟩
theorem ok_law_program (d:Def K mg "_law_program" s_law_program ["_law_script", "_law_first"]) (z_range:mg "range" = none) (z_len:mg "len" = none) (h_law_cell_at:Has P w K mg base "_law_cell_at" ["_law_script", "_law_k"] 1 (spF K F_law_cell_at)) (h_law_mixed:Has P w K mg base "_law_mixed" ["_law_cell", "_law_k", "_law_many"] 1 (spF K F_law_mixed)) (h_law_names:Has P w K mg base "_law_names" ["_law_cell", "_law_many"] 2 (spF K F_law_names)) (h_law_row_by:Has P w K mg base "_law_row_by" ["_law_cell", "_law_names_here"] 3 (spF K F_law_row_by)):Has P w K mg base "_law_program" ["_law_script", "_law_first"] 4 (spF K F_law_program):=
  Def.okS d sc_law_program (by decide) run_law_program fun f cdv A outer s H E hr=>(sss_cons (ss_set (i:=2) sc_law_program.nd rfl (Or.inr rfl) (se_call h_law_cell_at hr rfl (sa_cons (se_var 0) (sa_cons (se_var 1) sa_nil))))
    (sss_cons (ss_set (i:=3) sc_law_program.nd rfl (Or.inl rfl) (se_sl (se_var 0) (so_some (se_bin op_addA ok_add (se_var 1) se_int)) (so_some (se_bin op_addA ok_add (se_var 1) se_int))))
    (sss_cons (ss_if (st_cmp (op_eqS (hu7 hr)) ok_eq (sb_of (se_bin op_mod ok_mod (se_var 2) se_int)) (sb_of se_int) (nomark _))
      (sss_one (ss_lc (i:=3) rfl sc_law_program.nd rfl rfl (blk_mk (own:=["_law_k"]) rfl) rfl (si_range1 rfl z_range (se_bin op_addA ok_add se_int (se_bin op_mod ok_mod (se_bin op_fdivP ok_div (se_var 2) se_int) se_int))) (bg_one (fun C s H fp pn=>(qg_name (i:=8) (show (blkN ["_law_script", "_law_first", "_law_far", "_law_cells", "_law_k", "_law_many", "_law_names_here", "_law_items"] ["_law_k"]).Nodup by decide +kernel) rfl (Or.inl rfl))) rfl) (fun C s H fp pn=>sts_nil) (fun C s H fp pn=>(se_bin op_addA ok_add (se_bin op_fdivP ok_div (se_var 2) se_int) (se_bin op_mul ok_mulL se_int (se_var 8))))))
      sss_nil)
    (sss_cons (ss_set (i:=5) sc_law_program.nd rfl (Or.inl rfl) (se_ix (ix_S (hu_of hr)) ok_ix (se_of (sf_lst (sa_ints (is:=[0,1,2,3,4,6,8,20]) rfl) (al_le (al_ints (n:=8) (by decide)) (by decide)))) (se_call h_law_mixed hr rfl (sa_cons (se_var 2) (sa_cons se_int (sa_cons se_int sa_nil))))))
    (sss_cons (ss_if (st_cmp (op_eqS (hu7 hr)) ok_eq (sb_of (se_bin op_mod ok_mod (se_var 2) se_int)) (sb_of se_int) (nomark _))
      (sss_one (ss_set (i:=5) sc_law_program.nd rfl (Or.inl rfl) se_int))
      sss_nil)
    (sss_cons (ss_set (i:=6) sc_law_program.nd rfl (Or.inr rfl) (se_call h_law_names hr rfl (sa_cons (se_bin op_fdivP ok_div (se_var 2) se_int) (sa_cons (se_var 5) sa_nil))))
    (sss_cons (ss_lcO (i:=7) rfl sc_law_program.nd rfl rfl (blk_mk (own:=["_law_cell"]) rfl) rfl (si_seq (se_var 3)) (bg_one (fun C s H fp pn=>(qg_name (i:=8) (show (blkN ["_law_script", "_law_first", "_law_far", "_law_cells", "_law_k", "_law_many", "_law_names_here", "_law_items"] ["_law_cell"]).Nodup by decide +kernel) rfl (Or.inl rfl))) rfl) (fun C s H fp pn=>sts_nil) (fun C s H fp pn=>(se_call h_law_row_by hr rfl (sa_cons (se_var 8) (sa_cons (se_var 6) sa_nil)))))
    (sss_cons (ss_for PassesOwn.never rfl (si_range1 rfl z_range (se_cb call_lenS ok_len rfl z_len bt_len (sab_cons (sb_of (se_var 6)) sab_nil))) (sg_var (qg_name (i:=4) sc_law_program.nd rfl (Or.inl rfl)) rfl)
      (sss_one (ss_insert (qv 7) (se_call h_law_mixed hr rfl (sa_cons (se_bin op_addA ok_add (se_var 2) (se_bin op_fdivP ok_div (se_var 4) se_int)) (sa_cons (se_var 4) (sa_cons (se_bin op_addA ok_add (se_cb call_lenS ok_len rfl z_len bt_len (sab_cons (sb_var 7) sab_nil)) se_int) sa_nil)))) (se_tup (sa_cons se_str (sa_cons (se_ix (ix_S (hu_of hr)) ok_ix (se_var 6) (se_var 4)) sa_nil)) (al_le (al_cons (al_cons al_nil)) (by decide))))))
    (sss_one (ss_retV 7))))))))))
noncomputable abbrev s_law_alike:Stmt:=top 41
theorem sc_law_alike:FnScope ["_law_found", "_law_due"] ["_law_found", "_law_due"] (defScope s_law_alike):=⟨rfl,rfl,rfl,by decide +kernel,rfl,by decide +kernel,by decide +kernel⟩
theorem ok_law_alike_0 (d:Def K mg "_law_alike" s_law_alike ["_law_found", "_law_due"]):Has P w K mg base "_law_alike" ["_law_found", "_law_due"] 2 (spF K (R_law_alike 0)):=
  Def.okS d sc_law_alike (by decide) (b:=fun _=>none) (fun _ _ h=>nomatch h) fun f cdv A outer s H E hr=>ss_never
theorem ok_law_alike_1 (d:Def K mg "_law_alike" s_law_alike ["_law_found", "_law_due"]) (z_isinstance:mg "isinstance" = none) (z_tuple:mg "tuple" = none) (z_list:mg "list" = none) (z_all:mg "all" = none) (z_range:mg "range" = none) (z_len:mg "len" = none) (z_str:mg "str" = none) (h_law_whole:Has P w K mg base "_law_whole" ["_law_found"] 1 (spF K F_law_whole)) (h_law_alike:Has P w K mg base "_law_alike" ["_law_found", "_law_due"] 2 (spF K (R_law_alike 0))):Has P w K mg base "_law_alike" ["_law_found", "_law_due"] 3 (spF K (R_law_alike 1)):=
  Def.okS d sc_law_alike (by decide) (b:=b_law_alike (R_law_alike 0)) FR_ok fun f cdv A outer s H E hr=>(sss_cons (ss_if (st_val (se_isi2 .tuple .list rfl rfl rfl z_isinstance z_tuple z_list boot_ty_tuple boot_ty_list (sb_of (se_var 1))))
      (sss_cons (ss_if (sw_t (sw_or (st_not (st_val (se_isi2 .tuple .list rfl rfl rfl z_isinstance z_tuple z_list boot_ty_tuple boot_ty_list (sb_of (se_var 0))))) (sw_or1 (st_cmp (op_neS (hu7 hr)) ok_ne (sb_of (se_isi .tuple rfl rfl z_isinstance z_tuple boot_ty_tuple (sb_of (se_var 0)))) (sb_of (se_isi .tuple rfl rfl z_isinstance z_tuple boot_ty_tuple (sb_of (se_var 1)))) (nomark _)))))
          (sss_one (ss_ret se_bl))
          sss_nil)
        (sss_one (ss_ret (se_and (se_cmp (op_eqS (hu7 hr)) ok_eq (sb_of (se_cb call_lenS ok_len rfl z_len bt_len (sab_cons (sb_of (se_var 0)) sab_nil))) (sb_of (se_cb call_lenS ok_len rfl z_len bt_len (sab_cons (sb_of (se_var 1)) sab_nil))) (nomark _)) (se_one (se_cb (call_all rfl) ok_all rfl z_all bt_all (sab_cons (sb_of (se_of (sf_lc rfl (blk_mk (own:=["_law_k"]) rfl) (si_range1 rfl z_range (se_cb call_lenS ok_len rfl z_len bt_len (sab_cons (sb_of (se_var 1)) sab_nil))) (bg_one (fun C s H fp pn=>(qg_name (i:=2) (show (blkN ["_law_found", "_law_due"] ["_law_k"]).Nodup by decide +kernel) rfl (Or.inl rfl))) rfl) (fun C s H fp pn=>sts_nil) (fun C s H fp pn=>(se_call h_law_alike hr rfl (sa_cons (se_ix (ix_S (hu_of hr)) ok_ix (se_var 0) (se_var 2)) (sa_cons (se_ix (ix_S (hu_of hr)) ok_ix (se_var 1) (se_var 2)) sa_nil))))))) sab_nil)))))))
      sss_nil)
    (sss_cons (ss_if (st_val (se_isi .str rfl rfl z_isinstance z_str boot_ty_str (sb_of (se_var 1))))
      (sss_one (ss_ret (se_and (se_isi .str rfl rfl z_isinstance z_str boot_ty_str (sb_of (se_var 0))) (se_one (se_cmp (op_eqS (hu7 hr)) ok_eq (sb_of (se_var 0)) (sb_of (se_var 1)) (nomark _))))))
      sss_nil)
    (sss_one (ss_ret (se_and (se_call h_law_whole hr rfl (sa_cons (se_var 0) sa_nil)) (se_one (se_cmp (op_eqS (hu7 hr)) ok_eq (sb_of (se_var 0)) (sb_of (se_var 1)) (nomark _))))))))
theorem ok_law_alike_2 (d:Def K mg "_law_alike" s_law_alike ["_law_found", "_law_due"]) (z_isinstance:mg "isinstance" = none) (z_tuple:mg "tuple" = none) (z_list:mg "list" = none) (z_all:mg "all" = none) (z_range:mg "range" = none) (z_len:mg "len" = none) (z_str:mg "str" = none) (h_law_whole:Has P w K mg base "_law_whole" ["_law_found"] 1 (spF K F_law_whole)) (h_law_alike:Has P w K mg base "_law_alike" ["_law_found", "_law_due"] 3 (spF K (R_law_alike 1))):Has P w K mg base "_law_alike" ["_law_found", "_law_due"] 4 (spF K (R_law_alike 2)):=
  Def.okS d sc_law_alike (by decide) (b:=b_law_alike (R_law_alike 1)) FR_ok fun f cdv A outer s H E hr=>(sss_cons (ss_if (st_val (se_isi2 .tuple .list rfl rfl rfl z_isinstance z_tuple z_list boot_ty_tuple boot_ty_list (sb_of (se_var 1))))
      (sss_cons (ss_if (sw_t (sw_or (st_not (st_val (se_isi2 .tuple .list rfl rfl rfl z_isinstance z_tuple z_list boot_ty_tuple boot_ty_list (sb_of (se_var 0))))) (sw_or1 (st_cmp (op_neS (hu7 hr)) ok_ne (sb_of (se_isi .tuple rfl rfl z_isinstance z_tuple boot_ty_tuple (sb_of (se_var 0)))) (sb_of (se_isi .tuple rfl rfl z_isinstance z_tuple boot_ty_tuple (sb_of (se_var 1)))) (nomark _)))))
          (sss_one (ss_ret se_bl))
          sss_nil)
        (sss_one (ss_ret (se_and (se_cmp (op_eqS (hu7 hr)) ok_eq (sb_of (se_cb call_lenS ok_len rfl z_len bt_len (sab_cons (sb_of (se_var 0)) sab_nil))) (sb_of (se_cb call_lenS ok_len rfl z_len bt_len (sab_cons (sb_of (se_var 1)) sab_nil))) (nomark _)) (se_one (se_cb (call_all rfl) ok_all rfl z_all bt_all (sab_cons (sb_of (se_of (sf_lc rfl (blk_mk (own:=["_law_k"]) rfl) (si_range1 rfl z_range (se_cb call_lenS ok_len rfl z_len bt_len (sab_cons (sb_of (se_var 1)) sab_nil))) (bg_one (fun C s H fp pn=>(qg_name (i:=2) (show (blkN ["_law_found", "_law_due"] ["_law_k"]).Nodup by decide +kernel) rfl (Or.inl rfl))) rfl) (fun C s H fp pn=>sts_nil) (fun C s H fp pn=>(se_call h_law_alike hr rfl (sa_cons (se_ix (ix_S (hu_of hr)) ok_ix (se_var 0) (se_var 2)) (sa_cons (se_ix (ix_S (hu_of hr)) ok_ix (se_var 1) (se_var 2)) sa_nil))))))) sab_nil)))))))
      sss_nil)
    (sss_cons (ss_if (st_val (se_isi .str rfl rfl z_isinstance z_str boot_ty_str (sb_of (se_var 1))))
      (sss_one (ss_ret (se_and (se_isi .str rfl rfl z_isinstance z_str boot_ty_str (sb_of (se_var 0))) (se_one (se_cmp (op_eqS (hu7 hr)) ok_eq (sb_of (se_var 0)) (sb_of (se_var 1)) (nomark _))))))
      sss_nil)
    (sss_one (ss_ret (se_and (se_call h_law_whole hr rfl (sa_cons (se_var 0) sa_nil)) (se_one (se_cmp (op_eqS (hu7 hr)) ok_eq (sb_of (se_var 0)) (sb_of (se_var 1)) (nomark _))))))))
theorem ok_law_alike_3 (d:Def K mg "_law_alike" s_law_alike ["_law_found", "_law_due"]) (z_isinstance:mg "isinstance" = none) (z_tuple:mg "tuple" = none) (z_list:mg "list" = none) (z_all:mg "all" = none) (z_range:mg "range" = none) (z_len:mg "len" = none) (z_str:mg "str" = none) (h_law_whole:Has P w K mg base "_law_whole" ["_law_found"] 1 (spF K F_law_whole)) (h_law_alike:Has P w K mg base "_law_alike" ["_law_found", "_law_due"] 4 (spF K (R_law_alike 2))):Has P w K mg base "_law_alike" ["_law_found", "_law_due"] 5 (spF K (R_law_alike 3)):=
  Def.okS d sc_law_alike (by decide) (b:=b_law_alike (R_law_alike 2)) FR_ok fun f cdv A outer s H E hr=>(sss_cons (ss_if (st_val (se_isi2 .tuple .list rfl rfl rfl z_isinstance z_tuple z_list boot_ty_tuple boot_ty_list (sb_of (se_var 1))))
      (sss_cons (ss_if (sw_t (sw_or (st_not (st_val (se_isi2 .tuple .list rfl rfl rfl z_isinstance z_tuple z_list boot_ty_tuple boot_ty_list (sb_of (se_var 0))))) (sw_or1 (st_cmp (op_neS (hu7 hr)) ok_ne (sb_of (se_isi .tuple rfl rfl z_isinstance z_tuple boot_ty_tuple (sb_of (se_var 0)))) (sb_of (se_isi .tuple rfl rfl z_isinstance z_tuple boot_ty_tuple (sb_of (se_var 1)))) (nomark _)))))
          (sss_one (ss_ret se_bl))
          sss_nil)
        (sss_one (ss_ret (se_and (se_cmp (op_eqS (hu7 hr)) ok_eq (sb_of (se_cb call_lenS ok_len rfl z_len bt_len (sab_cons (sb_of (se_var 0)) sab_nil))) (sb_of (se_cb call_lenS ok_len rfl z_len bt_len (sab_cons (sb_of (se_var 1)) sab_nil))) (nomark _)) (se_one (se_cb (call_all rfl) ok_all rfl z_all bt_all (sab_cons (sb_of (se_of (sf_lc rfl (blk_mk (own:=["_law_k"]) rfl) (si_range1 rfl z_range (se_cb call_lenS ok_len rfl z_len bt_len (sab_cons (sb_of (se_var 1)) sab_nil))) (bg_one (fun C s H fp pn=>(qg_name (i:=2) (show (blkN ["_law_found", "_law_due"] ["_law_k"]).Nodup by decide +kernel) rfl (Or.inl rfl))) rfl) (fun C s H fp pn=>sts_nil) (fun C s H fp pn=>(se_call h_law_alike hr rfl (sa_cons (se_ix (ix_S (hu_of hr)) ok_ix (se_var 0) (se_var 2)) (sa_cons (se_ix (ix_S (hu_of hr)) ok_ix (se_var 1) (se_var 2)) sa_nil))))))) sab_nil)))))))
      sss_nil)
    (sss_cons (ss_if (st_val (se_isi .str rfl rfl z_isinstance z_str boot_ty_str (sb_of (se_var 1))))
      (sss_one (ss_ret (se_and (se_isi .str rfl rfl z_isinstance z_str boot_ty_str (sb_of (se_var 0))) (se_one (se_cmp (op_eqS (hu7 hr)) ok_eq (sb_of (se_var 0)) (sb_of (se_var 1)) (nomark _))))))
      sss_nil)
    (sss_one (ss_ret (se_and (se_call h_law_whole hr rfl (sa_cons (se_var 0) sa_nil)) (se_one (se_cmp (op_eqS (hu7 hr)) ok_eq (sb_of (se_var 0)) (sb_of (se_var 1)) (nomark _))))))))
noncomputable abbrev s_law_item_text:Stmt:=top 42
theorem sc_law_item_text:FnScope ["_law_item", "_law_shape_here", "_law_words_here", "_law_k"] ["_law_item"] (defScope s_law_item_text):=⟨rfl,rfl,rfl,by decide +kernel,rfl,by decide +kernel,by decide +kernel⟩
theorem ok_law_item_text (d:Def K mg "_law_item_text" s_law_item_text ["_law_item"]) (z_range:mg "range" = none) (z_len:mg "len" = none) (z_int:mg "int" = none) (z_str:mg "str" = none) (h_law_shape:Has P w K mg base "_law_shape" ["_law_word"] 1 (spF K F_law_shape)):Has P w K mg base "_law_item_text" ["_law_item"] 2 (spF K F_law_item_text):=
  Def.okS d sc_law_item_text (by decide) run_law_item_text fun f cdv A outer s H E hr=>(sss_cons (ss_if (st_cmp (op_eqS (hu7 hr)) ok_eq (sb_of (se_ix (ix_S (hu_of hr)) ok_ix (se_var 0) se_int)) (sb_of se_str) (nomark _))
      (sss_one (ss_ret (se_bin op_addA ok_add (se_ix (ix_S (hu_of hr)) ok_ix (se_var 0) se_int) se_str)))
      sss_nil)
    (sss_cons (ss_set (i:=1) sc_law_item_text.nd rfl (Or.inl rfl) (se_call h_law_shape hr rfl (sa_cons (se_ix (ix_S (hu_of hr)) ok_ix (se_var 0) se_int) sa_nil)))
    (sss_cons (ss_setO (i:=2) sc_law_item_text.nd rfl (Or.inl rfl) (sf_lst (sa_cons (se_ix (ix_S (hu_of hr)) ok_ix (se_var 0) se_int) sa_nil) (al_le (al_cons al_nil) (by decide))))
    (sss_cons (ss_for PassesOwn.never rfl (si_range1 rfl z_range (se_cb call_lenS ok_len rfl z_len bt_len (sab_cons (sb_of (se_var 1)) sab_nil))) (sg_var (qg_name (i:=3) sc_law_item_text.nd rfl (Or.inl rfl)) rfl)
      (sss_one (ss_append (qv 2) (se_ix (ix_S (hu_of hr)) ok_ix (se_of (sf_lst (sa_cons (se_cty call_strS ok_str rfl z_str boot_ty_str (sab_cons (sb_of (se_ix (ix_S (hu_of hr)) ok_ix (se_var 0) (se_bin op_addA ok_add (se_var 3) se_int))) sab_nil)) (sa_cons (se_bin op_addA ok_add se_str (se_cty call_strS ok_str rfl z_str boot_ty_str (sab_cons (sb_of (se_ix (ix_S (hu_of hr)) ok_ix (se_var 0) (se_bin op_addA ok_add (se_var 3) se_int))) sab_nil))) sa_nil)) (al_le (al_cons (al_cons al_nil)) (by decide)))) (se_cty call_int1 ok_int rfl z_int boot_ty_int (sab_cons (sb_of (se_cmp (op_eqS (hu7 hr)) ok_eq (sb_of (se_ix (ix_S (hu_of hr)) ok_ix (se_var 1) (se_var 3))) (sb_of se_int) (nomark _))) sab_nil))))))
    (sss_freeze 2 (sss_one (ss_ret (se_m_join se_str (sb_of (se_var 2))))))))))
noncomputable abbrev s_law_loose:Stmt:=top 43
theorem sc_law_loose:FnScope ["_law_line", "_law_cell", "_law_words_here", "_law_built", "_law_k", "_law_some"] ["_law_line", "_law_cell"] (defScope s_law_loose):=⟨rfl,rfl,rfl,by decide +kernel,rfl,by decide +kernel,by decide +kernel⟩
theorem ok_law_loose (d:Def K mg "_law_loose" s_law_loose ["_law_line", "_law_cell"]) (z_range:mg "range" = none) (z_len:mg "len" = none) (h_law_mixed:Has P w K mg base "_law_mixed" ["_law_cell", "_law_k", "_law_many"] 1 (spF K F_law_mixed)):Has P w K mg base "_law_loose" ["_law_line", "_law_cell"] 2 (spF K F_law_loose):=
  Def.okS d sc_law_loose (by decide) run_law_loose fun f cdv A outer s H E hr=>(sss_cons (ss_set (i:=2) sc_law_loose.nd rfl (Or.inl rfl) (se_of (sf_split (se_var 0) se_str)))
    (sss_cons (ss_set (i:=3) sc_law_loose.nd rfl (Or.inl rfl) (se_ix (ix_S (hu_of hr)) ok_ix (se_of (sf_lst (sa_cons se_str (sa_cons se_str (sa_cons se_str (sa_cons se_str sa_nil)))) (al_le (al_cons (al_cons (al_cons (al_cons al_nil)))) (by decide)))) (se_call h_law_mixed hr rfl (sa_cons (se_var 1) (sa_cons se_int (sa_cons se_int sa_nil))))))
    (sss_cons (ss_for PassesOwn.never rfl (si_range1 rfl z_range (se_cb call_lenS ok_len rfl z_len bt_len (sab_cons (sb_of (se_var 2)) sab_nil))) (sg_var (qg_name (i:=4) sc_law_loose.nd rfl (Or.inl rfl)) rfl)
      (sss_one (ss_set (i:=3) sc_law_loose.nd rfl (Or.inl rfl) (se_bin op_addA ok_add (se_bin op_addA ok_add (se_var 3) (se_ix (ix_S (hu_of hr)) ok_ix (se_var 2) (se_var 4))) (se_ix (ix_S (hu_of hr)) ok_ix (se_of (sf_lst (sa_cons se_str (sa_cons se_str (sa_cons se_str (sa_cons se_str sa_nil)))) (al_le (al_cons (al_cons (al_cons (al_cons al_nil)))) (by decide)))) (se_call h_law_mixed hr rfl (sa_cons (se_var 1) (sa_cons (se_bin op_addA ok_add se_int (se_var 4)) (sa_cons se_int sa_nil)))))))))
    (sss_cons (ss_if (st_cmp op_gt ok_cmp (sb_of (se_call h_law_mixed hr rfl (sa_cons (se_var 1) (sa_cons se_int (sa_cons se_int sa_nil))))) (sb_of se_int) (nomark _))
      (sss_one (ss_set (i:=3) sc_law_loose.nd rfl (Or.inl rfl) (se_strip (se_var 3) se_str)))
      sss_nil)
    (sss_cons (ss_set (i:=5) sc_law_loose.nd rfl (Or.inl rfl) (se_of (sf_lst (sa_cons se_str (sa_cons se_str (sa_cons se_str (sa_cons se_str (sa_cons se_str (sa_cons se_str sa_nil)))))) (al_le (al_cons (al_cons (al_cons (al_cons (al_cons (al_cons al_nil)))))) (by decide)))))
    (sss_one (ss_ret (se_bin op_addA ok_add (se_var 3) (se_ix (ix_S (hu_of hr)) ok_ix (se_var 5) (se_call h_law_mixed hr rfl (sa_cons (se_var 1) (sa_cons se_int (sa_cons se_int sa_nil)))))))))))))
noncomputable abbrev s_law_lines:Stmt:=top 44
theorem sc_law_lines:FnScope ["_law_items", "_law_cell", "_law_lines_here", "_law_k"] ["_law_items", "_law_cell"] (defScope s_law_lines):=⟨rfl,rfl,rfl,by decide +kernel,rfl,by decide +kernel,by decide +kernel⟩
theorem ok_law_lines (d:Def K mg "_law_lines" s_law_lines ["_law_items", "_law_cell"]) (z_range:mg "range" = none) (z_len:mg "len" = none) (h_law_mixed:Has P w K mg base "_law_mixed" ["_law_cell", "_law_k", "_law_many"] 1 (spF K F_law_mixed)) (h_law_loose:Has P w K mg base "_law_loose" ["_law_line", "_law_cell"] 2 (spF K F_law_loose)) (h_law_item_text:Has P w K mg base "_law_item_text" ["_law_item"] 2 (spF K F_law_item_text)):Has P w K mg base "_law_lines" ["_law_items", "_law_cell"] 3 (spF K F_law_lines):=
  Def.okS d sc_law_lines (by decide) run_law_lines fun f cdv A outer s H E hr=>(sss_cons (ss_setO (i:=2) sc_law_lines.nd rfl (Or.inl rfl) (sf_lst sa_nil (al_le al_nil (by decide))))
    (sss_cons (ss_for PassesOwn.never rfl (si_range1 rfl z_range (se_cb call_lenS ok_len rfl z_len bt_len (sab_cons (sb_of (se_var 0)) sab_nil))) (sg_var (qg_name (i:=3) sc_law_lines.nd rfl (Or.inl rfl)) rfl)
      (sss_cons (ss_if (st_cmp (op_eqS (hu7 hr)) ok_eq (sb_of (se_call h_law_mixed hr rfl (sa_cons (se_bin op_addA ok_add (se_var 1) (se_var 3)) (sa_cons se_int (sa_cons se_int sa_nil))))) (sb_of se_int) (nomark _))
          (sss_one (ss_append (qv 2) (se_ix (ix_S (hu_of hr)) ok_ix (se_of (sf_lst (sa_cons se_str (sa_cons se_str (sa_cons se_str (sa_cons se_str (sa_cons se_str (sa_cons se_str sa_nil)))))) (al_le (al_cons (al_cons (al_cons (al_cons (al_cons (al_cons al_nil)))))) (by decide)))) (se_call h_law_mixed hr rfl (sa_cons (se_bin op_addA ok_add (se_var 1) (se_var 3)) (sa_cons se_int (sa_cons se_int sa_nil)))))))
          sss_nil)
        (sss_one (ss_append (qv 2) (se_call h_law_loose hr rfl (sa_cons (se_call h_law_item_text hr rfl (sa_cons (se_ix (ix_S (hu_of hr)) ok_ix (se_var 0) (se_var 3)) sa_nil)) (sa_cons (se_bin op_addA ok_add (se_var 1) (se_bin op_mul ok_mulL se_int (se_var 3))) sa_nil)))))))
    (sss_one (ss_retV 2))))
noncomputable abbrev s_law:Stmt:=top 45
theorem sc_law:FnScope ["_law_script", "_law_items", "_law_lines_here", "_law_text", "_law_found"] ["_law_script"] (defScope s_law):=⟨rfl,rfl,rfl,by decide +kernel,rfl,by decide +kernel,by decide +kernel⟩
theorem ok_law {f:Addr} {fd:FuncData} (d:Fun K "law" "law" s_law f fd) (z_len:mg "len" = none) (z_isinstance:mg "isinstance" = none) (z_list:mg "list" = none) (h_law_program:Has P w K mg base "_law_program" ["_law_script", "_law_first"] 4 (spF K F_law_program)) (h_law_lines:Has P w K mg base "_law_lines" ["_law_items", "_law_cell"] 3 (spF K F_law_lines)) (h_law_cell_at:Has P w K mg base "_law_cell_at" ["_law_script", "_law_k"] 1 (spF K F_law_cell_at)) (h_law_item_text:Has P w K mg base "_law_item_text" ["_law_item"] 2 (spF K F_law_item_text)) (h_fault:Has P w K mg base "fault" ["text"] 6 (spF K F_fault)) (h_read:Has P w K mg base "read" ["text"] 6 (spF K F_read)) (h_law_alike:Has P w K mg base "_law_alike" ["_law_found", "_law_due"] 5 (spF K F_law_alike)):FnOk P w K mg base CX0 7 f fd ["_law_script"] (spLawB K):=
  law_okB d sc_law (by decide) run_law fun cdv A outer s H E hr=>(sss_cons (ss_set (i:=1) sc_law.nd rfl (Or.inl rfl) (se_call h_law_program hr rfl (sa_cons (se_var 0) (sa_cons se_int sa_nil))))
    (sss_cons (ss_set (i:=2) sc_law.nd rfl (Or.inl rfl) (se_call h_law_lines hr rfl (sa_cons (se_var 1) (sa_cons (se_call h_law_cell_at hr rfl (sa_cons (se_var 0) (sa_cons se_int sa_nil))) sa_nil))))
    (sss_cons (ss_set (i:=3) sc_law.nd rfl (Or.inl rfl) (se_bin op_addA ok_add (se_m_join se_str (sb_of (se_var 2))) (se_ix (ix_S (hu_of hr)) ok_ix (se_of (sf_lst (sa_cons se_str (sa_cons se_str (sa_cons se_str (sa_cons se_str sa_nil)))) (al_le (al_cons (al_cons (al_cons (al_cons al_nil)))) (by decide)))) (se_bin op_mod ok_mod (se_call h_law_cell_at hr rfl (sa_cons (se_var 0) (sa_cons se_int sa_nil))) se_int))))
    (sss_cons (ss_if (st_cmp op_gt ok_cmp (sb_of (se_cb call_lenS ok_len rfl z_len bt_len (sab_cons (sb_of (se_var 3)) sab_nil))) (sb_of se_int) (nomark _))
      (sss_one (ss_set (i:=3) sc_law.nd rfl (Or.inl rfl) (se_m_join se_str (sb_of (se_of (sf_lc rfl (blk_mk (own:=["_law_item"]) rfl) (si_seq (se_var 1)) (bg_one (fun C s H fp pn=>(qg_name (i:=5) (show (blkN ["_law_script", "_law_items", "_law_lines_here", "_law_text", "_law_found"] ["_law_item"]).Nodup by decide +kernel) rfl (Or.inl rfl))) rfl) (fun C s H fp pn=>sts_nil) (fun C s H fp pn=>(se_call h_law_item_text hr rfl (sa_cons (se_var 5) sa_nil)))))))))
      sss_nil)
    (sss_cons (ss_if (st_cmp op_notN ok_notN (sb_of (se_call h_fault hr rfl (sa_cons (se_var 3) sa_nil))) (sb_of se_non) (nomark _))
      (sss_one (ss_ret se_bl))
      sss_nil)
    (sss_cons (ss_setO (i:=4) sc_law.nd rfl (Or.inl rfl) (sf_call h_read hr rfl (sa_cons (se_var 3) sa_nil)))
    (sss_cons (ss_if (sw_t (sw_or (st_not (st_val (se_isi .list rfl rfl z_isinstance z_list boot_ty_list (sb_var 4)))) (sw_or1 (st_not (st_val (se_callB h_law_alike hr rfl (sab_cons (sb_var 4) (sab_cons (sb_of (se_var 1)) sab_nil))))))))
      (sss_one (ss_ret se_bl))
      sss_nil)
    (sss_cons (ss_append (qv 4) (se_tup (sa_cons se_str sa_nil) (al_le (al_cons al_nil) (by decide))))
    (sss_freeze 4 (sss_one (ss_ret (se_and (se_call h_law_alike hr rfl (sa_cons (se_of (sf_call h_read hr rfl (sa_cons (se_var 3) sa_nil))) (sa_cons (se_var 1) sa_nil))) (se_one (se_cmp op_isN ok_isN (sb_of (se_call h_fault hr rfl (sa_cons (se_var 3) sa_nil))) (sb_of se_non) (nomark _)))))))))))))))
end
theorem all_mk {l:PySem.W.OpenLaw} {w:World} {K:PySem.W.Frag} {h:Heap} {mg:Str→Option Value} {fa:Addr} (X:K.In h) (G:h.Ns mainGlobals mg) (hfa:mg "law" = some (.ref fa))
    {f0:Addr} {od0 an0:Option Addr} {sl0:Array (Option Value)} {oc0 kV0 dc0 pm0 cd0 ct0:Value}
    {f1:Addr} {od1 an1:Option Addr} {sl1:Array (Option Value)} {oc1 kV1 dc1 pm1 cd1 ct1:Value}
    {f2:Addr} {od2 an2:Option Addr} {sl2:Array (Option Value)} {oc2 kV2 dc2 pm2 cd2 ct2:Value}
    {f3:Addr} {od3 an3:Option Addr} {sl3:Array (Option Value)} {oc3 kV3 dc3 pm3 cd3 ct3:Value}
    {f4:Addr} {od4 an4:Option Addr} {sl4:Array (Option Value)} {oc4 kV4 dc4 pm4 cd4 ct4:Value}
    {f5:Addr} {od5 an5:Option Addr} {sl5:Array (Option Value)} {oc5 kV5 dc5 pm5 cd5 ct5:Value}
    {f6:Addr} {od6 an6:Option Addr} {sl6:Array (Option Value)} {oc6 kV6 dc6 pm6 cd6 ct6:Value}
    {f7:Addr} {od7 an7:Option Addr} {sl7:Array (Option Value)} {oc7 kV7 dc7 pm7 cd7 ct7:Value}
    {f8:Addr} {od8 an8:Option Addr} {sl8:Array (Option Value)} {oc8 kV8 dc8 pm8 cd8 ct8:Value}
    {f9:Addr} {od9 an9:Option Addr} {sl9:Array (Option Value)} {oc9 kV9 dc9 pm9 cd9 ct9:Value}
    {f10:Addr} {od10 an10:Option Addr} {sl10:Array (Option Value)} {oc10 kV10 dc10 pm10 cd10 ct10:Value}
    {f11:Addr} {od11 an11:Option Addr} {sl11:Array (Option Value)} {oc11 kV11 dc11 pm11 cd11 ct11:Value}
    {f12:Addr} {od12 an12:Option Addr} {sl12:Array (Option Value)} {oc12 kV12 dc12 pm12 cd12 ct12:Value}
    {f13:Addr} {od13 an13:Option Addr} {sl13:Array (Option Value)} {oc13 kV13 dc13 pm13 cd13 ct13:Value}
    {f14:Addr} {od14 an14:Option Addr} {sl14:Array (Option Value)} {oc14 kV14 dc14 pm14 cd14 ct14:Value}
    {f15:Addr} {od15 an15:Option Addr} {sl15:Array (Option Value)} {oc15 kV15 dc15 pm15 cd15 ct15:Value}
    {f16:Addr} {od16 an16:Option Addr} {sl16:Array (Option Value)} {oc16 kV16 dc16 pm16 cd16 ct16:Value}
    {f17:Addr} {od17 an17:Option Addr} {sl17:Array (Option Value)} {oc17 kV17 dc17 pm17 cd17 ct17:Value}
    {f18:Addr} {od18 an18:Option Addr} {sl18:Array (Option Value)} {oc18 kV18 dc18 pm18 cd18 ct18:Value}
    {f19:Addr} {od19 an19:Option Addr} {sl19:Array (Option Value)} {oc19 kV19 dc19 pm19 cd19 ct19:Value}
    {f20:Addr} {od20 an20:Option Addr} {sl20:Array (Option Value)} {oc20 kV20 dc20 pm20 cd20 ct20:Value}
    {f21:Addr} {od21 an21:Option Addr} {sl21:Array (Option Value)} {oc21 kV21 dc21 pm21 cd21 ct21:Value}
    {f22:Addr} {od22 an22:Option Addr} {sl22:Array (Option Value)} {oc22 kV22 dc22 pm22 cd22 ct22:Value}
    {f23:Addr} {od23 an23:Option Addr} {sl23:Array (Option Value)} {oc23 kV23 dc23 pm23 cd23 ct23:Value}
    {f24:Addr} {od24 an24:Option Addr} {sl24:Array (Option Value)} {oc24 kV24 dc24 pm24 cd24 ct24:Value}
    {f25:Addr} {od25 an25:Option Addr} {sl25:Array (Option Value)} {oc25 kV25 dc25 pm25 cd25 ct25:Value}
    {f26:Addr} {od26 an26:Option Addr} {sl26:Array (Option Value)} {oc26 kV26 dc26 pm26 cd26 ct26:Value}
    {f27:Addr} {od27 an27:Option Addr} {sl27:Array (Option Value)} {oc27 kV27 dc27 pm27 cd27 ct27:Value}
    {f28:Addr} {od28 an28:Option Addr} {sl28:Array (Option Value)} {oc28 kV28 dc28 pm28 cd28 ct28:Value}
    {f29:Addr} {od29 an29:Option Addr} {sl29:Array (Option Value)} {oc29 kV29 dc29 pm29 cd29 ct29:Value}
    (a0:PySem.W.nsIn K mainGlobals "is_number" = some (some (.ref f0)))
    (l0:K.lookup f0=fnO "is_number" s_is_number oc0 od0 sl0 kV0 dc0 pm0 an0 cd0 ct0)
    (c0:PySem.W.codeIn K cd0 "is_number" = true) (k0:PySem.W.keepIn K (.ref f0)=true)
    (a1:PySem.W.nsIn K mainGlobals "is_name" = some (some (.ref f1)))
    (l1:K.lookup f1=fnO "is_name" s_is_name oc1 od1 sl1 kV1 dc1 pm1 an1 cd1 ct1)
    (c1:PySem.W.codeIn K cd1 "is_name" = true) (k1:PySem.W.keepIn K (.ref f1)=true)
    (a2:PySem.W.nsIn K mainGlobals "fits" = some (some (.ref f2)))
    (l2:K.lookup f2=fnO "fits" s_fits oc2 od2 sl2 kV2 dc2 pm2 an2 cd2 ct2)
    (c2:PySem.W.codeIn K cd2 "fits" = true) (k2:PySem.W.keepIn K (.ref f2)=true)
    (a3:PySem.W.nsIn K mainGlobals "is_item" = some (some (.ref f3)))
    (l3:K.lookup f3=fnO "is_item" s_is_item oc3 od3 sl3 kV3 dc3 pm3 an3 cd3 ct3)
    (c3:PySem.W.codeIn K cd3 "is_item" = true) (k3:PySem.W.keepIn K (.ref f3)=true)
    (a4:PySem.W.nsIn K mainGlobals "is_label" = some (some (.ref f4)))
    (l4:K.lookup f4=fnO "is_label" s_is_label oc4 od4 sl4 kV4 dc4 pm4 an4 cd4 ct4)
    (c4:PySem.W.codeIn K cd4 "is_label" = true) (k4:PySem.W.keepIn K (.ref f4)=true)
    (a5:PySem.W.nsIn K mainGlobals "is_jump" = some (some (.ref f5)))
    (l5:K.lookup f5=fnO "is_jump" s_is_jump oc5 od5 sl5 kV5 dc5 pm5 an5 cd5 ct5)
    (c5:PySem.W.codeIn K cd5 "is_jump" = true) (k5:PySem.W.keepIn K (.ref f5)=true)
    (a6:PySem.W.nsIn K mainGlobals "words_in" = some (some (.ref f6)))
    (l6:K.lookup f6=fnO "words_in" s_words_in oc6 od6 sl6 kV6 dc6 pm6 an6 cd6 ct6)
    (c6:PySem.W.codeIn K cd6 "words_in" = true) (k6:PySem.W.keepIn K (.ref f6)=true)
    (a7:PySem.W.nsIn K mainGlobals "number_told" = some (some (.ref f7)))
    (l7:K.lookup f7=fnO "number_told" s_number_told oc7 od7 sl7 kV7 dc7 pm7 an7 cd7 ct7)
    (c7:PySem.W.codeIn K cd7 "number_told" = true) (k7:PySem.W.keepIn K (.ref f7)=true)
    (a8:PySem.W.nsIn K mainGlobals "field_told" = some (some (.ref f8)))
    (l8:K.lookup f8=fnO "field_told" s_field_told oc8 od8 sl8 kV8 dc8 pm8 an8 cd8 ct8)
    (c8:PySem.W.codeIn K cd8 "field_told" = true) (k8:PySem.W.keepIn K (.ref f8)=true)
    (a9:PySem.W.nsIn K mainGlobals "row_told" = some (some (.ref f9)))
    (l9:K.lookup f9=fnO "row_told" s_row_told oc9 od9 sl9 kV9 dc9 pm9 an9 cd9 ct9)
    (c9:PySem.W.codeIn K cd9 "row_told" = true) (k9:PySem.W.keepIn K (.ref f9)=true)
    (a10:PySem.W.nsIn K mainGlobals "item_told" = some (some (.ref f10)))
    (l10:K.lookup f10=fnO "item_told" s_item_told oc10 od10 sl10 kV10 dc10 pm10 an10 cd10 ct10)
    (c10:PySem.W.codeIn K cd10 "item_told" = true) (k10:PySem.W.keepIn K (.ref f10)=true)
    (a11:PySem.W.nsIn K mainGlobals "told_rows" = some (some (.ref f11)))
    (l11:K.lookup f11=fnO "told_rows" s_told_rows oc11 od11 sl11 kV11 dc11 pm11 an11 cd11 ct11)
    (c11:PySem.W.codeIn K cd11 "told_rows" = true) (k11:PySem.W.keepIn K (.ref f11)=true)
    (a12:PySem.W.nsIn K mainGlobals "least_fault" = some (some (.ref f12)))
    (l12:K.lookup f12=fnO "least_fault" s_least_fault oc12 od12 sl12 kV12 dc12 pm12 an12 cd12 ct12)
    (c12:PySem.W.codeIn K cd12 "least_fault" = true) (k12:PySem.W.keepIn K (.ref f12)=true)
    (a13:PySem.W.nsIn K mainGlobals "fault" = some (some (.ref f13)))
    (l13:K.lookup f13=fnO "fault" s_fault oc13 od13 sl13 kV13 dc13 pm13 an13 cd13 ct13)
    (c13:PySem.W.codeIn K cd13 "fault" = true) (k13:PySem.W.keepIn K (.ref f13)=true)
    (a14:PySem.W.nsIn K mainGlobals "read" = some (some (.ref f14)))
    (l14:K.lookup f14=fnO "read" s_read oc14 od14 sl14 kV14 dc14 pm14 an14 cd14 ct14)
    (c14:PySem.W.codeIn K cd14 "read" = true) (k14:PySem.W.keepIn K (.ref f14)=true)
    (a15:PySem.W.nsIn K mainGlobals "_law_cell_at" = some (some (.ref f15)))
    (l15:K.lookup f15=fnO "_law_cell_at" s_law_cell_at oc15 od15 sl15 kV15 dc15 pm15 an15 cd15 ct15)
    (c15:PySem.W.codeIn K cd15 "_law_cell_at" = true) (k15:PySem.W.keepIn K (.ref f15)=true)
    (a16:PySem.W.nsIn K mainGlobals "_law_whole" = some (some (.ref f16)))
    (l16:K.lookup f16=fnO "_law_whole" s_law_whole oc16 od16 sl16 kV16 dc16 pm16 an16 cd16 ct16)
    (c16:PySem.W.codeIn K cd16 "_law_whole" = true) (k16:PySem.W.keepIn K (.ref f16)=true)
    (a17:PySem.W.nsIn K mainGlobals "_law_mixed" = some (some (.ref f17)))
    (l17:K.lookup f17=fnO "_law_mixed" s_law_mixed oc17 od17 sl17 kV17 dc17 pm17 an17 cd17 ct17)
    (c17:PySem.W.codeIn K cd17 "_law_mixed" = true) (k17:PySem.W.keepIn K (.ref f17)=true)
    (a18:PySem.W.nsIn K mainGlobals "_law_letter" = some (some (.ref f18)))
    (l18:K.lookup f18=fnO "_law_letter" s_law_letter oc18 od18 sl18 kV18 dc18 pm18 an18 cd18 ct18)
    (c18:PySem.W.codeIn K cd18 "_law_letter" = true) (k18:PySem.W.keepIn K (.ref f18)=true)
    (a19:PySem.W.nsIn K mainGlobals "_law_names" = some (some (.ref f19)))
    (l19:K.lookup f19=fnO "_law_names" s_law_names oc19 od19 sl19 kV19 dc19 pm19 an19 cd19 ct19)
    (c19:PySem.W.codeIn K cd19 "_law_names" = true) (k19:PySem.W.keepIn K (.ref f19)=true)
    (a20:PySem.W.nsIn K mainGlobals "_law_shape" = some (some (.ref f20)))
    (l20:K.lookup f20=fnO "_law_shape" s_law_shape oc20 od20 sl20 kV20 dc20 pm20 an20 cd20 ct20)
    (c20:PySem.W.codeIn K cd20 "_law_shape" = true) (k20:PySem.W.keepIn K (.ref f20)=true)
    (a21:PySem.W.nsIn K mainGlobals "_law_words" = some (some (.ref f21)))
    (l21:K.lookup f21=fnO "_law_words" s_law_words oc21 od21 sl21 kV21 dc21 pm21 an21 cd21 ct21)
    (c21:PySem.W.codeIn K cd21 "_law_words" = true) (k21:PySem.W.keepIn K (.ref f21)=true)
    (a22:PySem.W.nsIn K mainGlobals "_law_part_by" = some (some (.ref f22)))
    (l22:K.lookup f22=fnO "_law_part_by" s_law_part_by oc22 od22 sl22 kV22 dc22 pm22 an22 cd22 ct22)
    (c22:PySem.W.codeIn K cd22 "_law_part_by" = true) (k22:PySem.W.keepIn K (.ref f22)=true)
    (a23:PySem.W.nsIn K mainGlobals "_law_row_by" = some (some (.ref f23)))
    (l23:K.lookup f23=fnO "_law_row_by" s_law_row_by oc23 od23 sl23 kV23 dc23 pm23 an23 cd23 ct23)
    (c23:PySem.W.codeIn K cd23 "_law_row_by" = true) (k23:PySem.W.keepIn K (.ref f23)=true)
    (a24:PySem.W.nsIn K mainGlobals "_law_program" = some (some (.ref f24)))
    (l24:K.lookup f24=fnO "_law_program" s_law_program oc24 od24 sl24 kV24 dc24 pm24 an24 cd24 ct24)
    (c24:PySem.W.codeIn K cd24 "_law_program" = true) (k24:PySem.W.keepIn K (.ref f24)=true)
    (a25:PySem.W.nsIn K mainGlobals "_law_alike" = some (some (.ref f25)))
    (l25:K.lookup f25=fnO "_law_alike" s_law_alike oc25 od25 sl25 kV25 dc25 pm25 an25 cd25 ct25)
    (c25:PySem.W.codeIn K cd25 "_law_alike" = true) (k25:PySem.W.keepIn K (.ref f25)=true)
    (a26:PySem.W.nsIn K mainGlobals "_law_item_text" = some (some (.ref f26)))
    (l26:K.lookup f26=fnO "_law_item_text" s_law_item_text oc26 od26 sl26 kV26 dc26 pm26 an26 cd26 ct26)
    (c26:PySem.W.codeIn K cd26 "_law_item_text" = true) (k26:PySem.W.keepIn K (.ref f26)=true)
    (a27:PySem.W.nsIn K mainGlobals "_law_loose" = some (some (.ref f27)))
    (l27:K.lookup f27=fnO "_law_loose" s_law_loose oc27 od27 sl27 kV27 dc27 pm27 an27 cd27 ct27)
    (c27:PySem.W.codeIn K cd27 "_law_loose" = true) (k27:PySem.W.keepIn K (.ref f27)=true)
    (a28:PySem.W.nsIn K mainGlobals "_law_lines" = some (some (.ref f28)))
    (l28:K.lookup f28=fnO "_law_lines" s_law_lines oc28 od28 sl28 kV28 dc28 pm28 an28 cd28 ct28)
    (c28:PySem.W.codeIn K cd28 "_law_lines" = true) (k28:PySem.W.keepIn K (.ref f28)=true)
    (a29:PySem.W.nsIn K mainGlobals "law" = some (some (.ref f29)))
    (l29:K.lookup f29=fnO "law" s_law oc29 od29 sl29 kV29 dc29 pm29 an29 cd29 ct29)
    (c29:PySem.W.codeIn K cd29 "law" = true) (k29:PySem.W.keepIn K (.ref f29)=true)
    (nz_isinstance:PySem.W.nsIn K mainGlobals "isinstance" = some none)
    (nz_int:PySem.W.nsIn K mainGlobals "int" = some none)
    (nz_bool:PySem.W.nsIn K mainGlobals "bool" = some none)
    (nz_str:PySem.W.nsIn K mainGlobals "str" = some none)
    (nz_len:PySem.W.nsIn K mainGlobals "len" = some none)
    (nz_all:PySem.W.nsIn K mainGlobals "all" = some none)
    (nz_tuple:PySem.W.nsIn K mainGlobals "tuple" = some none)
    (nz_zip:PySem.W.nsIn K mainGlobals "zip" = some none)
    (nz_enumerate:PySem.W.nsIn K mainGlobals "enumerate" = some none)
    (nz_range:PySem.W.nsIn K mainGlobals "range" = some none)
    (nz_list:PySem.W.nsIn K mainGlobals "list" = some none)
    {tg_NAME_LONGEST:Tok} (ng_NAME_LONGEST:PySem.W.nsIn K mainGlobals "NAME_LONGEST" = some (some (.int 8 tg_NAME_LONGEST)))
    {tg_LETTERS:Tok} (ng_LETTERS:PySem.W.nsIn K mainGlobals "LETTERS" = some (some (.str "abcdefghijklmnopqrstuvwxyz" tg_LETTERS)))
    {A_MARKS:Addr} {n_MARKS:Nat} {sl_MARKS:Array (Option Value)} {u0_MARKS u1_MARKS u2_MARKS:Tok} (ng_MARKS:PySem.W.nsIn K mainGlobals "MARKS" = some (some (.ref A_MARKS)))
    (nq_MARKS:K.lookup A_MARKS=some ⟨.type "tuple",none,.seq #[.str "carry" u0_MARKS,.str "nought" u1_MARKS,.str "sign" u2_MARKS] n_MARKS,sl_MARKS⟩)
    {A_NUMBER_WIDTHS:Addr} {n_NUMBER_WIDTHS:Nat} (ng_NUMBER_WIDTHS:PySem.W.nsIn K mainGlobals "NUMBER_WIDTHS" = some (some (.ref A_NUMBER_WIDTHS)))
    {tk0_NUMBER_WIDTHS:Tok}
    {tv0_NUMBER_WIDTHS:Tok}
    {tk1_NUMBER_WIDTHS:Tok}
    {tv1_NUMBER_WIDTHS:Tok}
    {tk2_NUMBER_WIDTHS:Tok}
    {tv2_NUMBER_WIDTHS:Tok}
    {tk3_NUMBER_WIDTHS:Tok}
    {tv3_NUMBER_WIDTHS:Tok}
    {tk4_NUMBER_WIDTHS:Tok}
    {tv4_NUMBER_WIDTHS:Tok}
    {tk5_NUMBER_WIDTHS:Tok}
    {tv5_NUMBER_WIDTHS:Tok}
    {tk6_NUMBER_WIDTHS:Tok}
    {tv6_NUMBER_WIDTHS:Tok}
    {tk7_NUMBER_WIDTHS:Tok}
    {tv7_NUMBER_WIDTHS:Tok}
    (nq_NUMBER_WIDTHS:K.lookup A_NUMBER_WIDTHS=some { cls:=.type "dict",data:=.dict #[⟨PyData.keyHash w.params "set",.str "set" tk0_NUMBER_WIDTHS,.int 16 tv0_NUMBER_WIDTHS⟩,⟨PyData.keyHash w.params "high",.str "high" tk1_NUMBER_WIDTHS,.int 16 tv1_NUMBER_WIDTHS⟩,⟨PyData.keyHash w.params "left",.str "left" tk2_NUMBER_WIDTHS,.int 5 tv2_NUMBER_WIDTHS⟩,⟨PyData.keyHash w.params "right",.str "right" tk3_NUMBER_WIDTHS,.int 5 tv3_NUMBER_WIDTHS⟩,⟨PyData.keyHash w.params "load",.str "load" tk4_NUMBER_WIDTHS,.int 8 tv4_NUMBER_WIDTHS⟩,⟨PyData.keyHash w.params "store",.str "store" tk5_NUMBER_WIDTHS,.int 8 tv5_NUMBER_WIDTHS⟩,⟨PyData.keyHash w.params "loadw",.str "loadw" tk6_NUMBER_WIDTHS,.int 8 tv6_NUMBER_WIDTHS⟩,⟨PyData.keyHash w.params "storew",.str "storew" tk7_NUMBER_WIDTHS,.int 8 tv7_NUMBER_WIDTHS⟩] n_NUMBER_WIDTHS }) (ns_NUMBER_WIDTHS:(A_NUMBER_WIDTHS == sysModules)=false)
    {A_PLACES:Addr} {n_PLACES:Nat} (ng_PLACES:PySem.W.nsIn K mainGlobals "PLACES" = some (some (.ref A_PLACES)))
    {tk0_PLACES:Tok}
    {A0_PLACES:Addr} {d0_PLACES:Option Addr} {n0_PLACES:Nat} {sl0_PLACES:Array (Option Value)}
    {w0_0_PLACES w0_1_PLACES:Tok}
    {tk1_PLACES:Tok}
    {A1_PLACES:Addr} {d1_PLACES:Option Addr} {n1_PLACES:Nat} {sl1_PLACES:Array (Option Value)}
    {w1_0_PLACES w1_1_PLACES:Tok}
    {tk2_PLACES:Tok}
    {A2_PLACES:Addr} {d2_PLACES:Option Addr} {n2_PLACES:Nat} {sl2_PLACES:Array (Option Value)}
    {w2_0_PLACES w2_1_PLACES:Tok}
    {tk3_PLACES:Tok}
    {A3_PLACES:Addr} {d3_PLACES:Option Addr} {n3_PLACES:Nat} {sl3_PLACES:Array (Option Value)}
    {w3_0_PLACES w3_1_PLACES:Tok}
    {tk4_PLACES:Tok}
    {A4_PLACES:Addr} {d4_PLACES:Option Addr} {n4_PLACES:Nat} {sl4_PLACES:Array (Option Value)}
    {w4_0_PLACES w4_1_PLACES:Tok}
    (nq_PLACES:K.lookup A_PLACES=some { cls:=.type "dict",data:=.dict #[⟨PyData.keyHash w.params "kind",.str "kind" tk0_PLACES,.ref A0_PLACES⟩,⟨PyData.keyHash w.params "d",.str "d" tk1_PLACES,.ref A1_PLACES⟩,⟨PyData.keyHash w.params "s",.str "s" tk2_PLACES,.ref A2_PLACES⟩,⟨PyData.keyHash w.params "mark",.str "mark" tk3_PLACES,.ref A3_PLACES⟩,⟨PyData.keyHash w.params "distance",.str "distance" tk4_PLACES,.ref A4_PLACES⟩] n_PLACES }) (ns_PLACES:(A_PLACES == sysModules)=false)
    (nt0_PLACES:K.lookup A0_PLACES=some ⟨.type "tuple",d0_PLACES,.seq #[.int 27 w0_0_PLACES,.int 5 w0_1_PLACES] n0_PLACES,sl0_PLACES⟩)
    (nt1_PLACES:K.lookup A1_PLACES=some ⟨.type "tuple",d1_PLACES,.seq #[.int 24 w1_0_PLACES,.int 3 w1_1_PLACES] n1_PLACES,sl1_PLACES⟩)
    (nt2_PLACES:K.lookup A2_PLACES=some ⟨.type "tuple",d2_PLACES,.seq #[.int 21 w2_0_PLACES,.int 3 w2_1_PLACES] n2_PLACES,sl2_PLACES⟩)
    (nt3_PLACES:K.lookup A3_PLACES=some ⟨.type "tuple",d3_PLACES,.seq #[.int 24 w3_0_PLACES,.int 2 w3_1_PLACES] n3_PLACES,sl3_PLACES⟩)
    (nt4_PLACES:K.lookup A4_PLACES=some ⟨.type "tuple",d4_PLACES,.seq #[.int 0 w4_0_PLACES,.int 5 w4_1_PLACES] n4_PLACES,sl4_PLACES⟩)
    {A_FIELDS:Addr} {n_FIELDS:Nat} (ng_FIELDS:PySem.W.nsIn K mainGlobals "FIELDS" = some (some (.ref A_FIELDS)))
    {tk0_FIELDS:Tok}
    {A0_FIELDS:Addr} {d0_FIELDS:Option Addr} {n0_FIELDS:Nat} {sl0_FIELDS:Array (Option Value)}
    {w0_0_FIELDS:Tok}
    {tk1_FIELDS:Tok}
    {A1_FIELDS:Addr} {d1_FIELDS:Option Addr} {n1_FIELDS:Nat} {sl1_FIELDS:Array (Option Value)}
    {w1_0_FIELDS w1_1_FIELDS:Tok}
    {tk2_FIELDS:Tok}
    {A2_FIELDS:Addr} {d2_FIELDS:Option Addr} {n2_FIELDS:Nat} {sl2_FIELDS:Array (Option Value)}
    {w2_0_FIELDS w2_1_FIELDS:Tok}
    {tk3_FIELDS:Tok}
    {A3_FIELDS:Addr} {d3_FIELDS:Option Addr} {n3_FIELDS:Nat} {sl3_FIELDS:Array (Option Value)}
    {w3_0_FIELDS w3_1_FIELDS:Tok}
    {tk4_FIELDS:Tok}
    {A4_FIELDS:Addr} {d4_FIELDS:Option Addr} {n4_FIELDS:Nat} {sl4_FIELDS:Array (Option Value)}
    {w4_0_FIELDS w4_1_FIELDS:Tok}
    {tk5_FIELDS:Tok}
    {A5_FIELDS:Addr} {d5_FIELDS:Option Addr} {n5_FIELDS:Nat} {sl5_FIELDS:Array (Option Value)}
    {w5_0_FIELDS w5_1_FIELDS:Tok}
    {tk6_FIELDS:Tok}
    {A6_FIELDS:Addr} {d6_FIELDS:Option Addr} {n6_FIELDS:Nat} {sl6_FIELDS:Array (Option Value)}
    {w6_0_FIELDS w6_1_FIELDS:Tok}
    {tk7_FIELDS:Tok}
    {A7_FIELDS:Addr} {d7_FIELDS:Option Addr} {n7_FIELDS:Nat} {sl7_FIELDS:Array (Option Value)}
    {w7_0_FIELDS w7_1_FIELDS:Tok}
    {tk8_FIELDS:Tok}
    {A8_FIELDS:Addr} {d8_FIELDS:Option Addr} {n8_FIELDS:Nat} {sl8_FIELDS:Array (Option Value)}
    {w8_0_FIELDS w8_1_FIELDS:Tok}
    {tk9_FIELDS:Tok}
    {A9_FIELDS:Addr} {d9_FIELDS:Option Addr} {n9_FIELDS:Nat} {sl9_FIELDS:Array (Option Value)}
    {w9_0_FIELDS w9_1_FIELDS:Tok}
    {tk10_FIELDS:Tok}
    {A10_FIELDS:Addr} {d10_FIELDS:Option Addr} {n10_FIELDS:Nat} {sl10_FIELDS:Array (Option Value)}
    {w10_0_FIELDS w10_1_FIELDS:Tok}
    {tk11_FIELDS:Tok}
    {A11_FIELDS:Addr} {d11_FIELDS:Option Addr} {n11_FIELDS:Nat} {sl11_FIELDS:Array (Option Value)}
    {w11_0_FIELDS w11_1_FIELDS:Tok}
    {tk12_FIELDS:Tok}
    {A12_FIELDS:Addr} {d12_FIELDS:Option Addr} {n12_FIELDS:Nat} {sl12_FIELDS:Array (Option Value)}
    {w12_0_FIELDS w12_1_FIELDS:Tok}
    {tk13_FIELDS:Tok}
    {A13_FIELDS:Addr} {d13_FIELDS:Option Addr} {n13_FIELDS:Nat} {sl13_FIELDS:Array (Option Value)}
    {w13_0_FIELDS w13_1_FIELDS:Tok}
    {tk14_FIELDS:Tok}
    {A14_FIELDS:Addr} {d14_FIELDS:Option Addr} {n14_FIELDS:Nat} {sl14_FIELDS:Array (Option Value)}
    {w14_0_FIELDS w14_1_FIELDS w14_2_FIELDS:Tok}
    {tk15_FIELDS:Tok}
    {A15_FIELDS:Addr} {d15_FIELDS:Option Addr} {n15_FIELDS:Nat} {sl15_FIELDS:Array (Option Value)}
    {w15_0_FIELDS w15_1_FIELDS w15_2_FIELDS:Tok}
    {tk16_FIELDS:Tok}
    {A16_FIELDS:Addr} {d16_FIELDS:Option Addr} {n16_FIELDS:Nat} {sl16_FIELDS:Array (Option Value)}
    {w16_0_FIELDS w16_1_FIELDS w16_2_FIELDS:Tok}
    {tk17_FIELDS:Tok}
    {A17_FIELDS:Addr} {d17_FIELDS:Option Addr} {n17_FIELDS:Nat} {sl17_FIELDS:Array (Option Value)}
    {w17_0_FIELDS w17_1_FIELDS w17_2_FIELDS:Tok}
    {tk18_FIELDS:Tok}
    {A18_FIELDS:Addr} {d18_FIELDS:Option Addr} {n18_FIELDS:Nat} {sl18_FIELDS:Array (Option Value)}
    {w18_0_FIELDS:Tok}
    {tk19_FIELDS:Tok}
    {A19_FIELDS:Addr} {d19_FIELDS:Option Addr} {n19_FIELDS:Nat} {sl19_FIELDS:Array (Option Value)}
    {w19_0_FIELDS w19_1_FIELDS:Tok}
    {tk20_FIELDS:Tok}
    {A20_FIELDS:Addr} {d20_FIELDS:Option Addr} {n20_FIELDS:Nat} {sl20_FIELDS:Array (Option Value)}
    {w20_0_FIELDS w20_1_FIELDS:Tok}
    {tk21_FIELDS:Tok}
    {A21_FIELDS:Addr} {d21_FIELDS:Option Addr} {n21_FIELDS:Nat} {sl21_FIELDS:Array (Option Value)}
    (nq_FIELDS:K.lookup A_FIELDS=some { cls:=.type "dict",data:=.dict #[⟨PyData.keyHash w.params "label",.str "label" tk0_FIELDS,.ref A0_FIELDS⟩,⟨PyData.keyHash w.params "set",.str "set" tk1_FIELDS,.ref A1_FIELDS⟩,⟨PyData.keyHash w.params "high",.str "high" tk2_FIELDS,.ref A2_FIELDS⟩,⟨PyData.keyHash w.params "copy",.str "copy" tk3_FIELDS,.ref A3_FIELDS⟩,⟨PyData.keyHash w.params "add",.str "add" tk4_FIELDS,.ref A4_FIELDS⟩,⟨PyData.keyHash w.params "addc",.str "addc" tk5_FIELDS,.ref A5_FIELDS⟩,⟨PyData.keyHash w.params "sub",.str "sub" tk6_FIELDS,.ref A6_FIELDS⟩,⟨PyData.keyHash w.params "subc",.str "subc" tk7_FIELDS,.ref A7_FIELDS⟩,⟨PyData.keyHash w.params "and",.str "and" tk8_FIELDS,.ref A8_FIELDS⟩,⟨PyData.keyHash w.params "or",.str "or" tk9_FIELDS,.ref A9_FIELDS⟩,⟨PyData.keyHash w.params "xor",.str "xor" tk10_FIELDS,.ref A10_FIELDS⟩,⟨PyData.keyHash w.params "test",.str "test" tk11_FIELDS,.ref A11_FIELDS⟩,⟨PyData.keyHash w.params "left",.str "left" tk12_FIELDS,.ref A12_FIELDS⟩,⟨PyData.keyHash w.params "right",.str "right" tk13_FIELDS,.ref A13_FIELDS⟩,⟨PyData.keyHash w.params "load",.str "load" tk14_FIELDS,.ref A14_FIELDS⟩,⟨PyData.keyHash w.params "store",.str "store" tk15_FIELDS,.ref A15_FIELDS⟩,⟨PyData.keyHash w.params "loadw",.str "loadw" tk16_FIELDS,.ref A16_FIELDS⟩,⟨PyData.keyHash w.params "storew",.str "storew" tk17_FIELDS,.ref A17_FIELDS⟩,⟨PyData.keyHash w.params "jump",.str "jump" tk18_FIELDS,.ref A18_FIELDS⟩,⟨PyData.keyHash w.params "when",.str "when" tk19_FIELDS,.ref A19_FIELDS⟩,⟨PyData.keyHash w.params "unless",.str "unless" tk20_FIELDS,.ref A20_FIELDS⟩,⟨PyData.keyHash w.params "stop",.str "stop" tk21_FIELDS,.ref A21_FIELDS⟩] n_FIELDS }) (ns_FIELDS:(A_FIELDS == sysModules)=false)
    (nt0_FIELDS:K.lookup A0_FIELDS=some ⟨.type "tuple",d0_FIELDS,.seq #[.str "name" w0_0_FIELDS] n0_FIELDS,sl0_FIELDS⟩)
    (nt1_FIELDS:K.lookup A1_FIELDS=some ⟨.type "tuple",d1_FIELDS,.seq #[.str "d" w1_0_FIELDS,.str "n" w1_1_FIELDS] n1_FIELDS,sl1_FIELDS⟩)
    (nt2_FIELDS:K.lookup A2_FIELDS=some ⟨.type "tuple",d2_FIELDS,.seq #[.str "d" w2_0_FIELDS,.str "n" w2_1_FIELDS] n2_FIELDS,sl2_FIELDS⟩)
    (nt3_FIELDS:K.lookup A3_FIELDS=some ⟨.type "tuple",d3_FIELDS,.seq #[.str "d" w3_0_FIELDS,.str "s" w3_1_FIELDS] n3_FIELDS,sl3_FIELDS⟩)
    (nt4_FIELDS:K.lookup A4_FIELDS=some ⟨.type "tuple",d4_FIELDS,.seq #[.str "d" w4_0_FIELDS,.str "s" w4_1_FIELDS] n4_FIELDS,sl4_FIELDS⟩)
    (nt5_FIELDS:K.lookup A5_FIELDS=some ⟨.type "tuple",d5_FIELDS,.seq #[.str "d" w5_0_FIELDS,.str "s" w5_1_FIELDS] n5_FIELDS,sl5_FIELDS⟩)
    (nt6_FIELDS:K.lookup A6_FIELDS=some ⟨.type "tuple",d6_FIELDS,.seq #[.str "d" w6_0_FIELDS,.str "s" w6_1_FIELDS] n6_FIELDS,sl6_FIELDS⟩)
    (nt7_FIELDS:K.lookup A7_FIELDS=some ⟨.type "tuple",d7_FIELDS,.seq #[.str "d" w7_0_FIELDS,.str "s" w7_1_FIELDS] n7_FIELDS,sl7_FIELDS⟩)
    (nt8_FIELDS:K.lookup A8_FIELDS=some ⟨.type "tuple",d8_FIELDS,.seq #[.str "d" w8_0_FIELDS,.str "s" w8_1_FIELDS] n8_FIELDS,sl8_FIELDS⟩)
    (nt9_FIELDS:K.lookup A9_FIELDS=some ⟨.type "tuple",d9_FIELDS,.seq #[.str "d" w9_0_FIELDS,.str "s" w9_1_FIELDS] n9_FIELDS,sl9_FIELDS⟩)
    (nt10_FIELDS:K.lookup A10_FIELDS=some ⟨.type "tuple",d10_FIELDS,.seq #[.str "d" w10_0_FIELDS,.str "s" w10_1_FIELDS] n10_FIELDS,sl10_FIELDS⟩)
    (nt11_FIELDS:K.lookup A11_FIELDS=some ⟨.type "tuple",d11_FIELDS,.seq #[.str "d" w11_0_FIELDS,.str "s" w11_1_FIELDS] n11_FIELDS,sl11_FIELDS⟩)
    (nt12_FIELDS:K.lookup A12_FIELDS=some ⟨.type "tuple",d12_FIELDS,.seq #[.str "d" w12_0_FIELDS,.str "n" w12_1_FIELDS] n12_FIELDS,sl12_FIELDS⟩)
    (nt13_FIELDS:K.lookup A13_FIELDS=some ⟨.type "tuple",d13_FIELDS,.seq #[.str "d" w13_0_FIELDS,.str "n" w13_1_FIELDS] n13_FIELDS,sl13_FIELDS⟩)
    (nt14_FIELDS:K.lookup A14_FIELDS=some ⟨.type "tuple",d14_FIELDS,.seq #[.str "d" w14_0_FIELDS,.str "s" w14_1_FIELDS,.str "n" w14_2_FIELDS] n14_FIELDS,sl14_FIELDS⟩)
    (nt15_FIELDS:K.lookup A15_FIELDS=some ⟨.type "tuple",d15_FIELDS,.seq #[.str "d" w15_0_FIELDS,.str "s" w15_1_FIELDS,.str "n" w15_2_FIELDS] n15_FIELDS,sl15_FIELDS⟩)
    (nt16_FIELDS:K.lookup A16_FIELDS=some ⟨.type "tuple",d16_FIELDS,.seq #[.str "d" w16_0_FIELDS,.str "s" w16_1_FIELDS,.str "n" w16_2_FIELDS] n16_FIELDS,sl16_FIELDS⟩)
    (nt17_FIELDS:K.lookup A17_FIELDS=some ⟨.type "tuple",d17_FIELDS,.seq #[.str "d" w17_0_FIELDS,.str "s" w17_1_FIELDS,.str "n" w17_2_FIELDS] n17_FIELDS,sl17_FIELDS⟩)
    (nt18_FIELDS:K.lookup A18_FIELDS=some ⟨.type "tuple",d18_FIELDS,.seq #[.str "name" w18_0_FIELDS] n18_FIELDS,sl18_FIELDS⟩)
    (nt19_FIELDS:K.lookup A19_FIELDS=some ⟨.type "tuple",d19_FIELDS,.seq #[.str "mark" w19_0_FIELDS,.str "name" w19_1_FIELDS] n19_FIELDS,sl19_FIELDS⟩)
    (nt20_FIELDS:K.lookup A20_FIELDS=some ⟨.type "tuple",d20_FIELDS,.seq #[.str "mark" w20_0_FIELDS,.str "name" w20_1_FIELDS] n20_FIELDS,sl20_FIELDS⟩)
    (nt21_FIELDS:K.lookup A21_FIELDS=some ⟨.type "tuple",d21_FIELDS,.seq #[] n21_FIELDS,sl21_FIELDS⟩)
    {A_JUMPS:Addr} {n_JUMPS:Nat} {sl_JUMPS:Array (Option Value)} {u0_JUMPS u1_JUMPS u2_JUMPS:Tok} (ng_JUMPS:PySem.W.nsIn K mainGlobals "JUMPS" = some (some (.ref A_JUMPS)))
    (nq_JUMPS:K.lookup A_JUMPS=some ⟨.type "tuple",none,.seq #[.str "jump" u0_JUMPS,.str "when" u1_JUMPS,.str "unless" u2_JUMPS] n_JUMPS,sl_JUMPS⟩)
    {tg_FIGURES_MOST:Tok} (ng_FIGURES_MOST:PySem.W.nsIn K mainGlobals "FIGURES_MOST" = some (some (.int 5 tg_FIGURES_MOST)))
    {tg_FIGURES:Tok} (ng_FIGURES:PySem.W.nsIn K mainGlobals "FIGURES" = some (some (.str "0123456789" tg_FIGURES)))
    : ∃ fd:FuncData,(∀ (s:Shared) (v:Value),BindsTo s fd ⟨[v],[]⟩ [("_law_script",v)])∧∀ base:Heap,K.In base→base.Ns mainGlobals mg→FnOk l.prog w K mg base CX0 7 fa fd ["_law_script"] (spLawB K):=by
  have e:=hfa.symm.trans (PySem.W.mg_of X G a29)
  cases e
  have z_isinstance:mg "isinstance" = none:=PySem.W.mg_none_of X G nz_isinstance
  have z_int:mg "int" = none:=PySem.W.mg_none_of X G nz_int
  have z_bool:mg "bool" = none:=PySem.W.mg_none_of X G nz_bool
  have z_str:mg "str" = none:=PySem.W.mg_none_of X G nz_str
  have z_len:mg "len" = none:=PySem.W.mg_none_of X G nz_len
  have z_all:mg "all" = none:=PySem.W.mg_none_of X G nz_all
  have z_tuple:mg "tuple" = none:=PySem.W.mg_none_of X G nz_tuple
  have z_zip:mg "zip" = none:=PySem.W.mg_none_of X G nz_zip
  have z_enumerate:mg "enumerate" = none:=PySem.W.mg_none_of X G nz_enumerate
  have z_range:mg "range" = none:=PySem.W.mg_none_of X G nz_range
  have z_list:mg "list" = none:=PySem.W.mg_none_of X G nz_list
  have g_NAME_LONGEST:Glb mg "NAME_LONGEST" (.int 8):=⟨_,PySem.W.mg_of X G ng_NAME_LONGEST,⟨_,rfl⟩⟩
  have q_NAME_LONGEST:∀ H,Rep K H (.int 8) (.int 8):=fun _=>rfl
  have g_LETTERS:Glb mg "LETTERS" (.str "abcdefghijklmnopqrstuvwxyz"):=⟨_,PySem.W.mg_of X G ng_LETTERS,⟨_,rfl⟩⟩
  have q_LETTERS:∀ H,Rep K H (.str "abcdefghijklmnopqrstuvwxyz") (.str "abcdefghijklmnopqrstuvwxyz"):=fun _=>⟨rfl,small (by decide)⟩
  have k_MARKS:TupK K A_MARKS:=⟨_,nq_MARKS,rfl,rfl⟩
  have g_MARKS:Glb mg "MARKS" (.ref A_MARKS):=⟨_,PySem.W.mg_of X G ng_MARKS,rfl⟩
  have q_MARKS:∀ H,Rep K H gt_MARKS (.ref A_MARKS):=fun H=>⟨A_MARKS,_,rfl,cstT (xs:=[.str "carry",.str "nought",.str "sign"]) nq_MARKS (by show (3:Nat)≤sizeLine; decide) (.cons ⟨_,rfl⟩ (.cons ⟨_,rfl⟩ (.cons ⟨_,rfl⟩ .nil))) H,⟨_,_,rfl,⟨rfl,small (by decide)⟩,⟨_,_,rfl,⟨rfl,small (by decide)⟩,⟨_,_,rfl,⟨rfl,small (by decide)⟩,rfl⟩⟩⟩,small (by decide)⟩
  have g_NUMBER_WIDTHS:Glb mg "NUMBER_WIDTHS" (.ref A_NUMBER_WIDTHS):=⟨_,PySem.W.mg_of X G ng_NUMBER_WIDTHS,rfl⟩
  have q_NUMBER_WIDTHS:GDict K w A_NUMBER_WIDTHS gk_NUMBER_WIDTHS gv_NUMBER_WIDTHS:=gdict_mk (us:=[.int 16,.int 16,.int 5,.int 5,.int 8,.int 8,.int 8,.int 8]) nq_NUMBER_WIDTHS (.cons (.cons (.cons (.cons (.cons (.cons (.cons (.cons .nil)))))))) (by decide +kernel) ns_NUMBER_WIDTHS (.cons ⟨_,rfl⟩ (.cons ⟨_,rfl⟩ (.cons ⟨_,rfl⟩ (.cons ⟨_,rfl⟩ (.cons ⟨_,rfl⟩ (.cons ⟨_,rfl⟩ (.cons ⟨_,rfl⟩ (.cons ⟨_,rfl⟩ .nil)))))))) fun H=>⟨_,_,rfl,rfl,⟨_,_,rfl,rfl,⟨_,_,rfl,rfl,⟨_,_,rfl,rfl,⟨_,_,rfl,rfl,⟨_,_,rfl,rfl,⟨_,_,rfl,rfl,⟨_,_,rfl,rfl,rfl⟩⟩⟩⟩⟩⟩⟩⟩
  have g_PLACES:Glb mg "PLACES" (.ref A_PLACES):=⟨_,PySem.W.mg_of X G ng_PLACES,rfl⟩
  have q_PLACES:GDict K w A_PLACES gk_PLACES gv_PLACES:=gdict_mk (us:=[.ref A0_PLACES,.ref A1_PLACES,.ref A2_PLACES,.ref A3_PLACES,.ref A4_PLACES]) nq_PLACES (.cons (.cons (.cons (.cons (.cons .nil))))) (by decide +kernel) ns_PLACES (.cons rfl (.cons rfl (.cons rfl (.cons rfl (.cons rfl .nil))))) fun H=>⟨_,_,rfl,⟨A0_PLACES,_,rfl,cstT (xs:=[.int 27,.int 5]) nt0_PLACES (by show (2:Nat)≤sizeLine; decide) (.cons ⟨_,rfl⟩ (.cons ⟨_,rfl⟩ .nil)) H,⟨_,_,rfl,rfl,⟨_,_,rfl,rfl,rfl⟩⟩,small (by decide)⟩,⟨_,_,rfl,⟨A1_PLACES,_,rfl,cstT (xs:=[.int 24,.int 3]) nt1_PLACES (by show (2:Nat)≤sizeLine; decide) (.cons ⟨_,rfl⟩ (.cons ⟨_,rfl⟩ .nil)) H,⟨_,_,rfl,rfl,⟨_,_,rfl,rfl,rfl⟩⟩,small (by decide)⟩,⟨_,_,rfl,⟨A2_PLACES,_,rfl,cstT (xs:=[.int 21,.int 3]) nt2_PLACES (by show (2:Nat)≤sizeLine; decide) (.cons ⟨_,rfl⟩ (.cons ⟨_,rfl⟩ .nil)) H,⟨_,_,rfl,rfl,⟨_,_,rfl,rfl,rfl⟩⟩,small (by decide)⟩,⟨_,_,rfl,⟨A3_PLACES,_,rfl,cstT (xs:=[.int 24,.int 2]) nt3_PLACES (by show (2:Nat)≤sizeLine; decide) (.cons ⟨_,rfl⟩ (.cons ⟨_,rfl⟩ .nil)) H,⟨_,_,rfl,rfl,⟨_,_,rfl,rfl,rfl⟩⟩,small (by decide)⟩,⟨_,_,rfl,⟨A4_PLACES,_,rfl,cstT (xs:=[.int 0,.int 5]) nt4_PLACES (by show (2:Nat)≤sizeLine; decide) (.cons ⟨_,rfl⟩ (.cons ⟨_,rfl⟩ .nil)) H,⟨_,_,rfl,rfl,⟨_,_,rfl,rfl,rfl⟩⟩,small (by decide)⟩,rfl⟩⟩⟩⟩⟩
  have g_FIELDS:Glb mg "FIELDS" (.ref A_FIELDS):=⟨_,PySem.W.mg_of X G ng_FIELDS,rfl⟩
  have q_FIELDS:GDict K w A_FIELDS gk_FIELDS gv_FIELDS:=gdict_mk (us:=[.ref A0_FIELDS,.ref A1_FIELDS,.ref A2_FIELDS,.ref A3_FIELDS,.ref A4_FIELDS,.ref A5_FIELDS,.ref A6_FIELDS,.ref A7_FIELDS,.ref A8_FIELDS,.ref A9_FIELDS,.ref A10_FIELDS,.ref A11_FIELDS,.ref A12_FIELDS,.ref A13_FIELDS,.ref A14_FIELDS,.ref A15_FIELDS,.ref A16_FIELDS,.ref A17_FIELDS,.ref A18_FIELDS,.ref A19_FIELDS,.ref A20_FIELDS,.ref A21_FIELDS]) nq_FIELDS (.cons (.cons (.cons (.cons (.cons (.cons (.cons (.cons (.cons (.cons (.cons (.cons (.cons (.cons (.cons (.cons (.cons (.cons (.cons (.cons (.cons (.cons .nil)))))))))))))))))))))) (by decide +kernel) ns_FIELDS (.cons rfl (.cons rfl (.cons rfl (.cons rfl (.cons rfl (.cons rfl (.cons rfl (.cons rfl (.cons rfl (.cons rfl (.cons rfl (.cons rfl (.cons rfl (.cons rfl (.cons rfl (.cons rfl (.cons rfl (.cons rfl (.cons rfl (.cons rfl (.cons rfl (.cons rfl .nil)))))))))))))))))))))) fun H=>⟨_,_,rfl,⟨A0_FIELDS,_,rfl,cstT (xs:=[.str "name"]) nt0_FIELDS (by show (1:Nat)≤sizeLine; decide) (.cons ⟨_,rfl⟩ .nil) H,⟨_,_,rfl,⟨rfl,small (by decide)⟩,rfl⟩,small (by decide)⟩,⟨_,_,rfl,⟨A1_FIELDS,_,rfl,cstT (xs:=[.str "d",.str "n"]) nt1_FIELDS (by show (2:Nat)≤sizeLine; decide) (.cons ⟨_,rfl⟩ (.cons ⟨_,rfl⟩ .nil)) H,⟨_,_,rfl,⟨rfl,small (by decide)⟩,⟨_,_,rfl,⟨rfl,small (by decide)⟩,rfl⟩⟩,small (by decide)⟩,⟨_,_,rfl,⟨A2_FIELDS,_,rfl,cstT (xs:=[.str "d",.str "n"]) nt2_FIELDS (by show (2:Nat)≤sizeLine; decide) (.cons ⟨_,rfl⟩ (.cons ⟨_,rfl⟩ .nil)) H,⟨_,_,rfl,⟨rfl,small (by decide)⟩,⟨_,_,rfl,⟨rfl,small (by decide)⟩,rfl⟩⟩,small (by decide)⟩,⟨_,_,rfl,⟨A3_FIELDS,_,rfl,cstT (xs:=[.str "d",.str "s"]) nt3_FIELDS (by show (2:Nat)≤sizeLine; decide) (.cons ⟨_,rfl⟩ (.cons ⟨_,rfl⟩ .nil)) H,⟨_,_,rfl,⟨rfl,small (by decide)⟩,⟨_,_,rfl,⟨rfl,small (by decide)⟩,rfl⟩⟩,small (by decide)⟩,⟨_,_,rfl,⟨A4_FIELDS,_,rfl,cstT (xs:=[.str "d",.str "s"]) nt4_FIELDS (by show (2:Nat)≤sizeLine; decide) (.cons ⟨_,rfl⟩ (.cons ⟨_,rfl⟩ .nil)) H,⟨_,_,rfl,⟨rfl,small (by decide)⟩,⟨_,_,rfl,⟨rfl,small (by decide)⟩,rfl⟩⟩,small (by decide)⟩,⟨_,_,rfl,⟨A5_FIELDS,_,rfl,cstT (xs:=[.str "d",.str "s"]) nt5_FIELDS (by show (2:Nat)≤sizeLine; decide) (.cons ⟨_,rfl⟩ (.cons ⟨_,rfl⟩ .nil)) H,⟨_,_,rfl,⟨rfl,small (by decide)⟩,⟨_,_,rfl,⟨rfl,small (by decide)⟩,rfl⟩⟩,small (by decide)⟩,⟨_,_,rfl,⟨A6_FIELDS,_,rfl,cstT (xs:=[.str "d",.str "s"]) nt6_FIELDS (by show (2:Nat)≤sizeLine; decide) (.cons ⟨_,rfl⟩ (.cons ⟨_,rfl⟩ .nil)) H,⟨_,_,rfl,⟨rfl,small (by decide)⟩,⟨_,_,rfl,⟨rfl,small (by decide)⟩,rfl⟩⟩,small (by decide)⟩,⟨_,_,rfl,⟨A7_FIELDS,_,rfl,cstT (xs:=[.str "d",.str "s"]) nt7_FIELDS (by show (2:Nat)≤sizeLine; decide) (.cons ⟨_,rfl⟩ (.cons ⟨_,rfl⟩ .nil)) H,⟨_,_,rfl,⟨rfl,small (by decide)⟩,⟨_,_,rfl,⟨rfl,small (by decide)⟩,rfl⟩⟩,small (by decide)⟩,⟨_,_,rfl,⟨A8_FIELDS,_,rfl,cstT (xs:=[.str "d",.str "s"]) nt8_FIELDS (by show (2:Nat)≤sizeLine; decide) (.cons ⟨_,rfl⟩ (.cons ⟨_,rfl⟩ .nil)) H,⟨_,_,rfl,⟨rfl,small (by decide)⟩,⟨_,_,rfl,⟨rfl,small (by decide)⟩,rfl⟩⟩,small (by decide)⟩,⟨_,_,rfl,⟨A9_FIELDS,_,rfl,cstT (xs:=[.str "d",.str "s"]) nt9_FIELDS (by show (2:Nat)≤sizeLine; decide) (.cons ⟨_,rfl⟩ (.cons ⟨_,rfl⟩ .nil)) H,⟨_,_,rfl,⟨rfl,small (by decide)⟩,⟨_,_,rfl,⟨rfl,small (by decide)⟩,rfl⟩⟩,small (by decide)⟩,⟨_,_,rfl,⟨A10_FIELDS,_,rfl,cstT (xs:=[.str "d",.str "s"]) nt10_FIELDS (by show (2:Nat)≤sizeLine; decide) (.cons ⟨_,rfl⟩ (.cons ⟨_,rfl⟩ .nil)) H,⟨_,_,rfl,⟨rfl,small (by decide)⟩,⟨_,_,rfl,⟨rfl,small (by decide)⟩,rfl⟩⟩,small (by decide)⟩,⟨_,_,rfl,⟨A11_FIELDS,_,rfl,cstT (xs:=[.str "d",.str "s"]) nt11_FIELDS (by show (2:Nat)≤sizeLine; decide) (.cons ⟨_,rfl⟩ (.cons ⟨_,rfl⟩ .nil)) H,⟨_,_,rfl,⟨rfl,small (by decide)⟩,⟨_,_,rfl,⟨rfl,small (by decide)⟩,rfl⟩⟩,small (by decide)⟩,⟨_,_,rfl,⟨A12_FIELDS,_,rfl,cstT (xs:=[.str "d",.str "n"]) nt12_FIELDS (by show (2:Nat)≤sizeLine; decide) (.cons ⟨_,rfl⟩ (.cons ⟨_,rfl⟩ .nil)) H,⟨_,_,rfl,⟨rfl,small (by decide)⟩,⟨_,_,rfl,⟨rfl,small (by decide)⟩,rfl⟩⟩,small (by decide)⟩,⟨_,_,rfl,⟨A13_FIELDS,_,rfl,cstT (xs:=[.str "d",.str "n"]) nt13_FIELDS (by show (2:Nat)≤sizeLine; decide) (.cons ⟨_,rfl⟩ (.cons ⟨_,rfl⟩ .nil)) H,⟨_,_,rfl,⟨rfl,small (by decide)⟩,⟨_,_,rfl,⟨rfl,small (by decide)⟩,rfl⟩⟩,small (by decide)⟩,⟨_,_,rfl,⟨A14_FIELDS,_,rfl,cstT (xs:=[.str "d",.str "s",.str "n"]) nt14_FIELDS (by show (3:Nat)≤sizeLine; decide) (.cons ⟨_,rfl⟩ (.cons ⟨_,rfl⟩ (.cons ⟨_,rfl⟩ .nil))) H,⟨_,_,rfl,⟨rfl,small (by decide)⟩,⟨_,_,rfl,⟨rfl,small (by decide)⟩,⟨_,_,rfl,⟨rfl,small (by decide)⟩,rfl⟩⟩⟩,small (by decide)⟩,⟨_,_,rfl,⟨A15_FIELDS,_,rfl,cstT (xs:=[.str "d",.str "s",.str "n"]) nt15_FIELDS (by show (3:Nat)≤sizeLine; decide) (.cons ⟨_,rfl⟩ (.cons ⟨_,rfl⟩ (.cons ⟨_,rfl⟩ .nil))) H,⟨_,_,rfl,⟨rfl,small (by decide)⟩,⟨_,_,rfl,⟨rfl,small (by decide)⟩,⟨_,_,rfl,⟨rfl,small (by decide)⟩,rfl⟩⟩⟩,small (by decide)⟩,⟨_,_,rfl,⟨A16_FIELDS,_,rfl,cstT (xs:=[.str "d",.str "s",.str "n"]) nt16_FIELDS (by show (3:Nat)≤sizeLine; decide) (.cons ⟨_,rfl⟩ (.cons ⟨_,rfl⟩ (.cons ⟨_,rfl⟩ .nil))) H,⟨_,_,rfl,⟨rfl,small (by decide)⟩,⟨_,_,rfl,⟨rfl,small (by decide)⟩,⟨_,_,rfl,⟨rfl,small (by decide)⟩,rfl⟩⟩⟩,small (by decide)⟩,⟨_,_,rfl,⟨A17_FIELDS,_,rfl,cstT (xs:=[.str "d",.str "s",.str "n"]) nt17_FIELDS (by show (3:Nat)≤sizeLine; decide) (.cons ⟨_,rfl⟩ (.cons ⟨_,rfl⟩ (.cons ⟨_,rfl⟩ .nil))) H,⟨_,_,rfl,⟨rfl,small (by decide)⟩,⟨_,_,rfl,⟨rfl,small (by decide)⟩,⟨_,_,rfl,⟨rfl,small (by decide)⟩,rfl⟩⟩⟩,small (by decide)⟩,⟨_,_,rfl,⟨A18_FIELDS,_,rfl,cstT (xs:=[.str "name"]) nt18_FIELDS (by show (1:Nat)≤sizeLine; decide) (.cons ⟨_,rfl⟩ .nil) H,⟨_,_,rfl,⟨rfl,small (by decide)⟩,rfl⟩,small (by decide)⟩,⟨_,_,rfl,⟨A19_FIELDS,_,rfl,cstT (xs:=[.str "mark",.str "name"]) nt19_FIELDS (by show (2:Nat)≤sizeLine; decide) (.cons ⟨_,rfl⟩ (.cons ⟨_,rfl⟩ .nil)) H,⟨_,_,rfl,⟨rfl,small (by decide)⟩,⟨_,_,rfl,⟨rfl,small (by decide)⟩,rfl⟩⟩,small (by decide)⟩,⟨_,_,rfl,⟨A20_FIELDS,_,rfl,cstT (xs:=[.str "mark",.str "name"]) nt20_FIELDS (by show (2:Nat)≤sizeLine; decide) (.cons ⟨_,rfl⟩ (.cons ⟨_,rfl⟩ .nil)) H,⟨_,_,rfl,⟨rfl,small (by decide)⟩,⟨_,_,rfl,⟨rfl,small (by decide)⟩,rfl⟩⟩,small (by decide)⟩,⟨_,_,rfl,⟨A21_FIELDS,_,rfl,cstT (xs:=[]) nt21_FIELDS (by show (0:Nat)≤sizeLine; decide) .nil H,rfl,small (by decide)⟩,rfl⟩⟩⟩⟩⟩⟩⟩⟩⟩⟩⟩⟩⟩⟩⟩⟩⟩⟩⟩⟩⟩⟩
  have k_JUMPS:TupK K A_JUMPS:=⟨_,nq_JUMPS,rfl,rfl⟩
  have g_JUMPS:Glb mg "JUMPS" (.ref A_JUMPS):=⟨_,PySem.W.mg_of X G ng_JUMPS,rfl⟩
  have q_JUMPS:∀ H,Rep K H gt_JUMPS (.ref A_JUMPS):=fun H=>⟨A_JUMPS,_,rfl,cstT (xs:=[.str "jump",.str "when",.str "unless"]) nq_JUMPS (by show (3:Nat)≤sizeLine; decide) (.cons ⟨_,rfl⟩ (.cons ⟨_,rfl⟩ (.cons ⟨_,rfl⟩ .nil))) H,⟨_,_,rfl,⟨rfl,small (by decide)⟩,⟨_,_,rfl,⟨rfl,small (by decide)⟩,⟨_,_,rfl,⟨rfl,small (by decide)⟩,rfl⟩⟩⟩,small (by decide)⟩
  have g_FIGURES_MOST:Glb mg "FIGURES_MOST" (.int 5):=⟨_,PySem.W.mg_of X G ng_FIGURES_MOST,⟨_,rfl⟩⟩
  have q_FIGURES_MOST:∀ H,Rep K H (.int 5) (.int 5):=fun _=>rfl
  have g_FIGURES:Glb mg "FIGURES" (.str "0123456789"):=⟨_,PySem.W.mg_of X G ng_FIGURES,⟨_,rfl⟩⟩
  have q_FIGURES:∀ H,Rep K H (.str "0123456789") (.str "0123456789"):=fun _=>⟨rfl,small (by decide)⟩
  have F0:=fun_mk (st:=s_is_number) l0 c0 k0
  have D0:Def K mg "is_number" s_is_number ["thing", "width"]:=⟨_,_,F0,PySem.W.mg_of X G a0,F0.binds fun _ _ _ _ _ _=>us2 fun _ _=>rfl⟩
  have F1:=fun_mk (st:=s_is_name) l1 c1 k1
  have D1:Def K mg "is_name" s_is_name ["thing"]:=⟨_,_,F1,PySem.W.mg_of X G a1,F1.binds fun _ _ _ _ _ _=>us1 fun _=>rfl⟩
  have F2:=fun_mk (st:=s_fits) l2 c2 k2
  have D2:Def K mg "fits" s_fits ["kind", "field", "thing"]:=⟨_,_,F2,PySem.W.mg_of X G a2,F2.binds fun _ _ _ _ _ _=>us3 fun _ _ _=>rfl⟩
  have F3:=fun_mk (st:=s_is_item) l3 c3 k3
  have D3:Def K mg "is_item" s_is_item ["thing"]:=⟨_,_,F3,PySem.W.mg_of X G a3,F3.binds fun _ _ _ _ _ _=>us1 fun _=>rfl⟩
  have F4:=fun_mk (st:=s_is_label) l4 c4 k4
  have D4:Def K mg "is_label" s_is_label ["item"]:=⟨_,_,F4,PySem.W.mg_of X G a4,F4.binds fun _ _ _ _ _ _=>us1 fun _=>rfl⟩
  have F5:=fun_mk (st:=s_is_jump) l5 c5 k5
  have D5:Def K mg "is_jump" s_is_jump ["item"]:=⟨_,_,F5,PySem.W.mg_of X G a5,F5.binds fun _ _ _ _ _ _=>us1 fun _=>rfl⟩
  have F6:=fun_mk (st:=s_words_in) l6 c6 k6
  have D6:Def K mg "words_in" s_words_in ["row"]:=⟨_,_,F6,PySem.W.mg_of X G a6,F6.binds fun _ _ _ _ _ _=>us1 fun _=>rfl⟩
  have F7:=fun_mk (st:=s_number_told) l7 c7 k7
  have D7:Def K mg "number_told" s_number_told ["word"]:=⟨_,_,F7,PySem.W.mg_of X G a7,F7.binds fun _ _ _ _ _ _=>us1 fun _=>rfl⟩
  have F8:=fun_mk (st:=s_field_told) l8 c8 k8
  have D8:Def K mg "field_told" s_field_told ["field", "word"]:=⟨_,_,F8,PySem.W.mg_of X G a8,F8.binds fun _ _ _ _ _ _=>us2 fun _ _=>rfl⟩
  have F9:=fun_mk (st:=s_row_told) l9 c9 k9
  have D9:Def K mg "row_told" s_row_told ["words"]:=⟨_,_,F9,PySem.W.mg_of X G a9,F9.binds fun _ _ _ _ _ _=>us1 fun _=>rfl⟩
  have F10:=fun_mk (st:=s_item_told) l10 c10 k10
  have D10:Def K mg "item_told" s_item_told ["words"]:=⟨_,_,F10,PySem.W.mg_of X G a10,F10.binds fun _ _ _ _ _ _=>us1 fun _=>rfl⟩
  have F11:=fun_mk (st:=s_told_rows) l11 c11 k11
  have D11:Def K mg "told_rows" s_told_rows ["text"]:=⟨_,_,F11,PySem.W.mg_of X G a11,F11.binds fun _ _ _ _ _ _=>us1 fun _=>rfl⟩
  have F12:=fun_mk (st:=s_least_fault) l12 c12 k12
  have D12:Def K mg "least_fault" s_least_fault ["told"]:=⟨_,_,F12,PySem.W.mg_of X G a12,F12.binds fun _ _ _ _ _ _=>us1 fun _=>rfl⟩
  have F13:=fun_mk (st:=s_fault) l13 c13 k13
  have D13:Def K mg "fault" s_fault ["text"]:=⟨_,_,F13,PySem.W.mg_of X G a13,F13.binds fun _ _ _ _ _ _=>us1 fun _=>rfl⟩
  have F14:=fun_mk (st:=s_read) l14 c14 k14
  have D14:Def K mg "read" s_read ["text"]:=⟨_,_,F14,PySem.W.mg_of X G a14,F14.binds fun _ _ _ _ _ _=>us1 fun _=>rfl⟩
  have F15:=fun_mk (st:=s_law_cell_at) l15 c15 k15
  have D15:Def K mg "_law_cell_at" s_law_cell_at ["_law_script", "_law_k"]:=⟨_,_,F15,PySem.W.mg_of X G a15,F15.binds fun _ _ _ _ _ _=>us2 fun _ _=>rfl⟩
  have F16:=fun_mk (st:=s_law_whole) l16 c16 k16
  have D16:Def K mg "_law_whole" s_law_whole ["_law_found"]:=⟨_,_,F16,PySem.W.mg_of X G a16,F16.binds fun _ _ _ _ _ _=>us1 fun _=>rfl⟩
  have F17:=fun_mk (st:=s_law_mixed) l17 c17 k17
  have D17:Def K mg "_law_mixed" s_law_mixed ["_law_cell", "_law_k", "_law_many"]:=⟨_,_,F17,PySem.W.mg_of X G a17,F17.binds fun _ _ _ _ _ _=>us3 fun _ _ _=>rfl⟩
  have F18:=fun_mk (st:=s_law_letter) l18 c18 k18
  have D18:Def K mg "_law_letter" s_law_letter ["_law_k"]:=⟨_,_,F18,PySem.W.mg_of X G a18,F18.binds fun _ _ _ _ _ _=>us1 fun _=>rfl⟩
  have F19:=fun_mk (st:=s_law_names) l19 c19 k19
  have D19:Def K mg "_law_names" s_law_names ["_law_cell", "_law_many"]:=⟨_,_,F19,PySem.W.mg_of X G a19,F19.binds fun _ _ _ _ _ _=>us2 fun _ _=>rfl⟩
  have F20:=fun_mk (st:=s_law_shape) l20 c20 k20
  have D20:Def K mg "_law_shape" s_law_shape ["_law_word"]:=⟨_,_,F20,PySem.W.mg_of X G a20,F20.binds fun _ _ _ _ _ _=>us1 fun _=>rfl⟩
  have F21:=fun_mk (st:=s_law_words) l21 c21 k21
  have D21:Def K mg "_law_words" s_law_words []:=⟨_,_,F21,PySem.W.mg_of X G a21,F21.binds fun _ _ _ _ _ _=>us0 rfl⟩
  have F22:=fun_mk (st:=s_law_part_by) l22 c22 k22
  have D22:Def K mg "_law_part_by" s_law_part_by ["_law_kind", "_law_cell", "_law_k", "_law_names_here"]:=⟨_,_,F22,PySem.W.mg_of X G a22,F22.binds fun _ _ _ _ _ _=>us4 fun _ _ _ _=>rfl⟩
  have F23:=fun_mk (st:=s_law_row_by) l23 c23 k23
  have D23:Def K mg "_law_row_by" s_law_row_by ["_law_cell", "_law_names_here"]:=⟨_,_,F23,PySem.W.mg_of X G a23,F23.binds fun _ _ _ _ _ _=>us2 fun _ _=>rfl⟩
  have F24:=fun_mk (st:=s_law_program) l24 c24 k24
  have D24:Def K mg "_law_program" s_law_program ["_law_script", "_law_first"]:=⟨_,_,F24,PySem.W.mg_of X G a24,F24.binds fun _ _ _ _ _ _=>us2 fun _ _=>rfl⟩
  have F25:=fun_mk (st:=s_law_alike) l25 c25 k25
  have D25:Def K mg "_law_alike" s_law_alike ["_law_found", "_law_due"]:=⟨_,_,F25,PySem.W.mg_of X G a25,F25.binds fun _ _ _ _ _ _=>us2 fun _ _=>rfl⟩
  have F26:=fun_mk (st:=s_law_item_text) l26 c26 k26
  have D26:Def K mg "_law_item_text" s_law_item_text ["_law_item"]:=⟨_,_,F26,PySem.W.mg_of X G a26,F26.binds fun _ _ _ _ _ _=>us1 fun _=>rfl⟩
  have F27:=fun_mk (st:=s_law_loose) l27 c27 k27
  have D27:Def K mg "_law_loose" s_law_loose ["_law_line", "_law_cell"]:=⟨_,_,F27,PySem.W.mg_of X G a27,F27.binds fun _ _ _ _ _ _=>us2 fun _ _=>rfl⟩
  have F28:=fun_mk (st:=s_law_lines) l28 c28 k28
  have D28:Def K mg "_law_lines" s_law_lines ["_law_items", "_law_cell"]:=⟨_,_,F28,PySem.W.mg_of X G a28,F28.binds fun _ _ _ _ _ _=>us2 fun _ _=>rfl⟩
  have F29:=fun_mk (st:=s_law) l29 c29 k29
  refine ⟨PySem.W.fnOf "law" "law" (defArgs s_law) (defBody s_law) (defScope s_law) .none kV29 dc29 pm29 an29 cd29 ct29,fun s v=>.of_eq rfl,fun base _ _=>?_⟩
  have h_is_number:=ok_is_number (P:=l.prog) (w:=w) (base:=base) D0 z_isinstance z_int z_bool
  have h_is_name:=ok_is_name (P:=l.prog) (w:=w) (base:=base) D1 z_isinstance z_str z_len z_all g_NAME_LONGEST q_NAME_LONGEST g_LETTERS q_LETTERS
  have h_fits:=ok_fits (P:=l.prog) (w:=w) (base:=base) D2 g_MARKS q_MARKS g_NUMBER_WIDTHS q_NUMBER_WIDTHS g_PLACES q_PLACES h_is_name h_is_number
  have h_is_item:=ok_is_item (P:=l.prog) (w:=w) (base:=base) D3 z_len z_isinstance z_tuple z_str z_all z_zip g_FIELDS q_FIELDS h_fits
  have h_is_label:=ok_is_label (P:=l.prog) (w:=w) (base:=base) D4 
  have h_is_jump:=ok_is_jump (P:=l.prog) (w:=w) (base:=base) D5 g_JUMPS q_JUMPS
  have h_words_in:=ok_words_in (P:=l.prog) (w:=w) (base:=base) D6 
  have h_number_told:=ok_number_told (P:=l.prog) (w:=w) (base:=base) D7 z_len z_all z_int g_FIGURES_MOST q_FIGURES_MOST g_FIGURES q_FIGURES
  have h_field_told:=ok_field_told (P:=l.prog) (w:=w) (base:=base) D8 h_number_told
  have h_row_told:=ok_row_told (P:=l.prog) (w:=w) (base:=base) D9 z_len z_tuple z_zip g_FIELDS q_FIELDS h_field_told
  have h_item_told:=ok_item_told (P:=l.prog) (w:=w) (base:=base) D10 z_len h_row_told h_is_item
  have h_told_rows:=ok_told_rows (P:=l.prog) (w:=w) (base:=base) D11 z_enumerate h_words_in h_item_told
  have h_least_fault:=ok_least_fault (P:=l.prog) (w:=w) (base:=base) D12 h_is_label h_is_jump
  have h_fault:=ok_fault (P:=l.prog) (w:=w) (base:=base) D13 h_least_fault h_told_rows
  have h_read:=ok_read (P:=l.prog) (w:=w) (base:=base) D14 h_told_rows h_least_fault
  have h_law_cell_at:=ok_law_cell_at (P:=l.prog) (w:=w) (base:=base) D15 z_len
  have h_law_whole:=ok_law_whole (P:=l.prog) (w:=w) (base:=base) D16 z_isinstance z_bool z_int
  have h_law_mixed:=ok_law_mixed (P:=l.prog) (w:=w) (base:=base) D17 
  have h_law_letter:=ok_law_letter (P:=l.prog) (w:=w) (base:=base) D18 
  have h_law_names:=ok_law_names (P:=l.prog) (w:=w) (base:=base) D19 z_range h_law_mixed h_law_letter
  have h_law_shape:=ok_law_shape (P:=l.prog) (w:=w) (base:=base) D20 
  have h_law_words:=ok_law_words (P:=l.prog) (w:=w) (base:=base) D21 
  have h_law_part_by:=ok_law_part_by (P:=l.prog) (w:=w) (base:=base) D22 z_len h_law_mixed
  have h_law_row_by:=ok_law_row_by (P:=l.prog) (w:=w) (base:=base) D23 z_len z_tuple z_range h_law_mixed h_law_words h_law_shape h_law_part_by
  have h_law_program:=ok_law_program (P:=l.prog) (w:=w) (base:=base) D24 z_range z_len h_law_cell_at h_law_mixed h_law_names h_law_row_by
  have r0_law_alike:=ok_law_alike_0 (P:=l.prog) (w:=w) (base:=base) D25
  have r1_law_alike:=ok_law_alike_1 (P:=l.prog) (w:=w) (base:=base) D25 z_isinstance z_tuple z_list z_all z_range z_len z_str h_law_whole r0_law_alike
  have r2_law_alike:=ok_law_alike_2 (P:=l.prog) (w:=w) (base:=base) D25 z_isinstance z_tuple z_list z_all z_range z_len z_str h_law_whole r1_law_alike
  have h_law_alike:=ok_law_alike_3 (P:=l.prog) (w:=w) (base:=base) D25 z_isinstance z_tuple z_list z_all z_range z_len z_str h_law_whole r2_law_alike
  have h_law_item_text:=ok_law_item_text (P:=l.prog) (w:=w) (base:=base) D26 z_range z_len z_int z_str h_law_shape
  have h_law_loose:=ok_law_loose (P:=l.prog) (w:=w) (base:=base) D27 z_range z_len h_law_mixed
  have h_law_lines:=ok_law_lines (P:=l.prog) (w:=w) (base:=base) D28 z_range z_len h_law_mixed h_law_loose h_law_item_text
  exact ok_law F29 z_len z_isinstance z_list h_law_program h_law_lines h_law_cell_at h_law_item_text h_fault h_read h_law_alike
theorem walk {l:PySem.W.OpenLaw} {q:Program} {loose:List Str} {XP:(Str→Option Value)→Heap→Prop} {YP:World→Heap→Prop} {d:DefRec} {K:Params→PySem.W.Frag} (hn:l.most=some 63) (hdf:d.params.defaults=[])
    (hY:∀ (w:World) (h:Heap),YP w h→(K w.params).In h)
    (F:∀ (w:World) (mg:Str→Option Value) (fa:Addr) (h:Heap),(K w.params).In h→h.Ns mainGlobals mg→mg d.name=some (.ref fa)→
      ∃ fd:FuncData,(∀ (s:Shared) (u:Value),BindsTo s fd ⟨[u],[]⟩ [("_law_script",u)])∧∀ base:Heap,(K w.params).In base→base.Ns mainGlobals mg→FnOk l.prog w (K w.params) mg base CX0 7 fa fd ["_law_script"] (spLawB (K w.params))) :
    PySem.W.WalkO q loose XP YP l.row.toRowW d [] (fun f vs=>PySem.call f vs):=
  L3.walkB (n:=63) (k:=7) (x := "_law_script") (sp:=spLawB) hn (by decide) hdf ⟨rfl,by decide,by decide⟩ hY F fun _ _ a ns hl hb hS=>⟨a,ns,rfl,hS,hl,hb,fun _=>rfl⟩
end My
namespace PySem.W.Fast
noncomputable def tw5868384512263843148:=0
noncomputable def tw10917464871007090341:=0
noncomputable def tw8359385090720649521:=0
noncomputable def tw10702931236634503442:=0
noncomputable def tw1148536882089538192:=0
noncomputable def tw3159438439514015506:=0
noncomputable def tw14648764847490445627:=0
noncomputable def tw16942962281214959451:=0
noncomputable def tw12315417935288573871:=0
noncomputable def tw754564105652588941:=0
noncomputable def tw16662422128397504467:=0
noncomputable def tw615535008122050017:=0
noncomputable def tw4292116747016272816:=0
noncomputable def tw3846809432250193637:=0
noncomputable def tw9943825556217242849:=0
noncomputable def tw18190244427388054578:=0
noncomputable def tw362412204664581241:=0
noncomputable def tw14358133608046762823:=0
noncomputable def tw8190104250193639041:=0
noncomputable def tw14668926557890831286:=0
noncomputable def tw2671427439485406142:=0
noncomputable def tw7035151946959147905:=0
noncomputable def tw7684910838990052563:=0
noncomputable def tw2573645939066480095:=0
noncomputable def tw6757799945653432290:=0
noncomputable def tw70288955300722870:=0
noncomputable def tw11299441137787957736:=0
noncomputable def tw4981602910991244572:=0
noncomputable def tw12454994430900746573:=0
noncomputable def tw10969795465850205074:=0
noncomputable def tw16367315675116503726:=0
noncomputable def tw2092757212521317287:=0
noncomputable def tw13230730545288918477:=0
noncomputable def tw12717683336969540874:=0
noncomputable def tw6010340445947221589:=0
noncomputable def tw13727730628938269612:=0
noncomputable def tw157077811183122786:=0
noncomputable def tw16293194470635769068:=0
noncomputable def tw11191435464620407744:=0
noncomputable def tw15286263746434361314:=0
noncomputable def tw14632648978675451228:=0
noncomputable def tw7668052337955781619:=0
noncomputable def tw11456549554078328981:=0
noncomputable def tw6610312680962055738:=0
noncomputable def tw3339988556005183719:=0
noncomputable def tw4524487477832401308:=0
noncomputable def tw5924705561892143393:=0
noncomputable def tw2022514278148087186:=0
noncomputable def tw1931900355787872515:=0
noncomputable def tw8744268254078977379:=0
noncomputable def tw9068092030153872156:=0
noncomputable def tw11188858470815911207:=0
noncomputable def tw15812382200677815930:=0
noncomputable def tw997954644622178576:=0
noncomputable def tw18055123059890830316:=0
noncomputable def tw15280698874819276441:=0
noncomputable def tw4001202152944489918:=0
noncomputable def tw3406143682697664967:=0
noncomputable def tw18396733330669147294:=0
noncomputable def tw5865562401420303070:=0
noncomputable def tw11301111386742133975:=0
noncomputable def tw4699747521785439465:=0
noncomputable def tw13185666517362427482:=0
noncomputable def tw15417285988040131277:=0
noncomputable def tw15929867411193344388:=0
noncomputable def tw11817075766119204136:=0
noncomputable def tw9031054203028686141:=0
noncomputable def tw11955618406159744808:=0
noncomputable def tw11665066095303518258:=0
noncomputable def tw13338381113699155323:=0
noncomputable def tw12365968977012179027:=0
end PySem.W.Fast
open PySem PySem.W PyProof.Rows
set_option maxRecDepth 100000 in
set_option maxHeartbeats 0 in
theorem PySem.Challenge.cw_markrun_k13_read_holds : PySem.Challenge.rw_markrun_k13_read.Holds := by
  w_on; o_law; k_head; (case hw=>w_witness2)
  k_fill
  refine My.walk (l:=PySem.Challenge.rw_markrun_k13_read) rfl rfl (fun w h Y=>PySem.W.kIn_of Y) ?F
  case F=>
    intro w mg fa h KX G hmg
    refine' My.all_mk KX G hmg ?a0 ?l0 ?c0 ?k0 ?a1 ?l1 ?c1 ?k1 ?a2 ?l2 ?c2 ?k2 ?a3 ?l3 ?c3 ?k3 ?a4 ?l4 ?c4 ?k4 ?a5 ?l5 ?c5 ?k5 ?a6 ?l6 ?c6 ?k6 ?a7 ?l7 ?c7 ?k7 ?a8 ?l8 ?c8 ?k8 ?a9 ?l9 ?c9 ?k9 ?a10 ?l10 ?c10 ?k10 ?a11 ?l11 ?c11 ?k11 ?a12 ?l12 ?c12 ?k12 ?a13 ?l13 ?c13 ?k13 ?a14 ?l14 ?c14 ?k14 ?a15 ?l15 ?c15 ?k15 ?a16 ?l16 ?c16 ?k16 ?a17 ?l17 ?c17 ?k17 ?a18 ?l18 ?c18 ?k18 ?a19 ?l19 ?c19 ?k19 ?a20 ?l20 ?c20 ?k20 ?a21 ?l21 ?c21 ?k21 ?a22 ?l22 ?c22 ?k22 ?a23 ?l23 ?c23 ?k23 ?a24 ?l24 ?c24 ?k24 ?a25 ?l25 ?c25 ?k25 ?a26 ?l26 ?c26 ?k26 ?a27 ?l27 ?c27 ?k27 ?a28 ?l28 ?c28 ?k28 ?a29 ?l29 ?c29 ?k29 ?nz_isinstance ?nz_int ?nz_bool ?nz_str ?nz_len ?nz_all ?nz_tuple ?nz_zip ?nz_enumerate ?nz_range ?nz_list ?ng_NAME_LONGEST ?ng_LETTERS ?ng_MARKS ?nq_MARKS ?ng_NUMBER_WIDTHS ?nq_NUMBER_WIDTHS ?ns_NUMBER_WIDTHS ?ng_PLACES ?nt0_PLACES ?nt1_PLACES ?nt2_PLACES ?nt3_PLACES ?nt4_PLACES ?nq_PLACES ?ns_PLACES ?ng_FIELDS ?nt0_FIELDS ?nt1_FIELDS ?nt2_FIELDS ?nt3_FIELDS ?nt4_FIELDS ?nt5_FIELDS ?nt6_FIELDS ?nt7_FIELDS ?nt8_FIELDS ?nt9_FIELDS ?nt10_FIELDS ?nt11_FIELDS ?nt12_FIELDS ?nt13_FIELDS ?nt14_FIELDS ?nt15_FIELDS ?nt16_FIELDS ?nt17_FIELDS ?nt18_FIELDS ?nt19_FIELDS ?nt20_FIELDS ?nt21_FIELDS ?nq_FIELDS ?ns_FIELDS ?ng_JUMPS ?nq_JUMPS ?ng_FIGURES_MOST ?ng_FIGURES
    all_goals try (first | k_is | k_exc | kit_is | kts_exm)
    all_goals decide
