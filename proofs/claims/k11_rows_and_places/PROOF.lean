import PyProof.Rows.All
import Wide.All
import OpenK.AllK
import Wide.FinOn
import Lean
import PyProof.EqAt
import PyProof.EqKinds
import PyProof.TupleCall
import PySem.Challenge.RW_markrun_k11_rows_and_places
set_option Elab.async false
set_option linter.all false
set_option maxRecDepth 100000
namespace L2
open PySem PySem.Spec PyProof.Rows
noncomputable abbrev Key:=Sum Int Str
noncomputable def keyIs:Key→Value→Bool
  | .inl k,v=>Value.isInt k v
  | .inr x,v=>Value.isStrOf x v
noncomputable def keyH (w:World):Key→Int
  | .inl k=>hashInt k
  | .inr x=>hashStr w x
theorem keyIs_shape:∀ {k:Key} {v:Value},keyIs k v=true→(∃ i t,k=Sum.inl i∧v=Value.int i t)∨(∃ x t,k=Sum.inr x∧v=Value.str x t)
  | .inl i,v,h=>by
    obtain ⟨t,e⟩:=Value.isInt_shape (k:=i) (v:=v) h
    exact .inl ⟨i,t,rfl,e⟩
  | .inr x,v,h=>by
    obtain ⟨t,e⟩:=Value.isStrOf_shape (x:=x) (v:=v) h
    exact .inr ⟨x,t,rfl,e⟩
theorem keyIs_int (i:Int) (t:Tok):keyIs (.inl i) (.int i t)=true:=by simp [keyIs,Value.isInt]
theorem keyIs_str (x:Str) (t:Tok):keyIs (.inr x) (.str x t)=true:=by simp [keyIs,Value.isStrOf]
theorem key_ll (a b:Int):decide ((Sum.inl a:Key)=Sum.inl b)=(a == b):=by
  by_cases e:a=b
  · subst e; simp
  · have h:¬ (Sum.inl a:Key)=Sum.inl b:=fun q=>e (Sum.inl.inj q)
    rw [decide_eq_false h]
    exact (beq_eq_false_iff_ne.mpr e).symm
theorem key_rr (a b:Str):decide ((Sum.inr a:Key)=Sum.inr b)=decide (a=b):=by
  by_cases e:a=b
  · subst e; simp
  · have h:¬ (Sum.inr a:Key)=Sum.inr b:=fun q=>e (Sum.inr.inj q)
    rw [decide_eq_false h,decide_eq_false e]
theorem key_lr (a:Int) (b:Str):decide ((Sum.inl a:Key)=Sum.inr b)=false:=decide_eq_false (fun q=>nomatch q)
theorem key_rl (a:Str) (b:Int):decide ((Sum.inr a:Key)=Sum.inl b)=false:=decide_eq_false (fun q=>nomatch q)
noncomputable def mixKind (prog:Program) (w:World):PySem.KeyKind prog w Key where
  is:=keyIs
  hash:=keyH w
  inj:=fun v a b ha hb=>by
    rcases keyIs_shape ha with ⟨i,t,rfl,rfl⟩ | ⟨x,t,rfl,rfl⟩
    · rcases keyIs_shape hb with ⟨j,u,rfl,e⟩ | ⟨y,u,rfl,e⟩
      · injection e with e1 _; rw [e1]
      · exact nomatch e
    · rcases keyIs_shape hb with ⟨j,u,rfl,e⟩ | ⟨y,u,rfl,e⟩
      · exact nomatch e
      · injection e with e1 _; rw [e1]
  byValue:=fun k v h=>by
    rcases keyIs_shape h with ⟨i,t,rfl,rfl⟩ | ⟨x,t,rfl,rfl⟩<;>rfl
  pyHash:=fun hv h=>by
    rcases keyIs_shape hv with ⟨i,t,rfl,rfl⟩ | ⟨x,t,rfl,rfl⟩
    · exact wpAny_pyHash_int h
    · exact wpAny_pyHash_str h
  eqBool:=fun hu hv h=>by
    rcases keyIs_shape hu with ⟨i,t,rfl,rfl⟩ | ⟨x,t,rfl,rfl⟩
    · rcases keyIs_shape hv with ⟨j,u,rfl,rfl⟩ | ⟨y,u,rfl,rfl⟩
      · rw [key_ll] at h; exact wpAny_eqBool_int h
      · rw [key_lr] at h; exact SeqAt.EqAt.int_str i t y u _ _ _ _ h
    · rcases keyIs_shape hv with ⟨j,u,rfl,rfl⟩ | ⟨y,u,rfl,rfl⟩
      · rw [key_rl] at h; exact SeqAt.EqAt.str_int x t j u _ _ _ _ h
      · rw [key_rr] at h; exact wpAny_eqBool_str h
  «strs»:=fun k x t v h=>by
    rcases keyIs_shape h with ⟨i,u,rfl,e⟩ | ⟨y,u,rfl,e⟩
    · exact nomatch e
    · injection e with e1 _
      subst e1
      cases v<;>rfl
theorem mixKind_int (prog:Program) (w:World) (i:Int) (t:Tok):(mixKind prog w).is (.inl i) (.int i t)=true:=keyIs_int i t
theorem mixKind_str (prog:Program) (w:World) (x:Str) (t:Tok):(mixKind prog w).is (.inr x) (.str x t)=true:=keyIs_str x t
end L2
namespace L2
open PySem PySem.Spec PyProof.Rows
inductive V where
  | non | bl (b:Bool) | int (i:Int) | str (x:Str) | byt (b:Array UInt8) | flt (b:UInt64) | ref (a:Addr) | ty (n:String)
  deriving DecidableEq
noncomputable def RelV:V→Value→Prop
  | .non,u=>u=Value.none
  | .bl b,u=>u=Value.bool b
  | .int i,u=>∃ t,u=Value.int i t
  | .str x,u=>∃ t,u=Value.str x t
  | .byt b,u=>∃ t,u=Value.bytes b t
  | .flt b,u=>∃ t,u=Value.float b t
  | .ref a,u=>u=Value.ref a
  | .ty n,u=>u=Value.type n
noncomputable abbrev Vals:List V→List Value→Prop:=Paired RelV
theorem Vals.length {xs:List V} {us:List Value} (r:Vals xs us):xs.length=us.length:=Paired.length r
theorem Vals.get:∀ {xs:List V} {us:List Value} {i:Nat} {x:V},Vals xs us→xs[i]?=some x→∃ u,us[i]?=some u∧RelV x u
  | _,_,_,_,.nil,e=>by simp at e
  | _,_,0,_,.cons r _,e=>by simp at e; subst e; exact ⟨_,rfl,r⟩
  | _,_,i+1,x,.cons _ t,e=>by
    obtain ⟨u,h1,h2⟩:=Vals.get (i:=i) (x:=x) t (by simpa using e)
    exact ⟨u,by simpa using h1,h2⟩
theorem Vals.append:∀ {xs ys:List V} {us ws:List Value},Vals xs us→Vals ys ws→Vals (xs++ys) (us++ws)
  | _,_,_,_,.nil,s=>s
  | _,_,_,_,.cons r t,s=>.cons r (Vals.append t s)
theorem Vals.take:∀ {xs:List V} {us:List Value} (n:Nat),Vals xs us→Vals (xs.take n) (us.take n)
  | _,_,0,_=>.nil
  | _,_,_+1,.nil=>.nil
  | _,_,n+1,.cons r t=>.cons r (Vals.take n t)
theorem Vals.drop:∀ {xs:List V} {us:List Value} (n:Nat),Vals xs us→Vals (xs.drop n) (us.drop n)
  | _,_,0,r=>r
  | _,_,_+1,.nil=>.nil
  | _,_,n+1,.cons _ t=>Vals.drop n t
noncomputable def RelO:Option V→Option Value→Prop
  | some v,some u=>RelV v u
  | none,none=>True
  | _,_=>False
noncomputable def KV {κ:Type}:List (κ×V)→List (κ×Value)→Prop:=Paired fun (p:κ×V) (q:κ×Value)=>p.1=q.1∧RelV p.2 q.2
noncomputable def kV:Key→V
  | .inl i=>.int i
  | .inr x=>.str x
inductive HO where
    | lst (xs:List V)
    | tup (xs:List V)
    | dK (kvs:List (Key×V)) | dT (kvs:List (List Key×V))
    | set (S:Int→Bool) (n:Nat)
    | ins (C dx:Addr) (fs:List (Str×V))
    | own (x:Addr)
    | xd (fs:List (Str×V))
    | met (f x:Addr)
    | rng (lo hi:Int)
    | frz (o:Obj) (u:HO)
    | tbl (ps:Array Value)
    | ext (φ:Heap→Prop)
noncomputable abbrev Hp:=Addr→Option HO
noncomputable def upd (H:Hp) (a:Addr) (o:HO):Hp:=fun b=>if b=a then some o else H b
theorem upd_same {H:Hp} {a:Addr} {o:HO}:upd H a o a=some o:=by unfold upd; rw [if_pos rfl]
theorem upd_ne {H:Hp} {a b:Addr} {o:HO} (h:b≠a):upd H a o b=H b:=by unfold upd; rw [if_neg h]
theorem ne_of {H:Hp} {a b:Addr} {o u:HO} (h:H a=some o) (h':H b=some u) (d:o≠u):a≠b:=by
  intro e; subst e; rw [h] at h'; exact d (Option.some.inj h')
theorem ne_of_none {H:Hp} {a b:Addr} {o:HO} (h:H a=some o) (h':H b=none):a≠b:=by
  intro e; subst e; rw [h] at h'; cases h'
section
variable (P:Program) (w:World)
noncomputable def ObjOk (H:Hp) (h:Heap) (a:Addr):HO→Prop
  | .lst xs=>xs.length≤sizeLine∧∃ (its:List Value) (n:Nat),Vals xs its∧h.get? a=some { cls:=.type "list",data:=.seq its.toArray n }
  | .tup xs=>xs.length≤sizeLine∧∃ its:List Value,Vals xs its∧IsTup h a its.toArray
  | .dK kvs=>kvs.length≤sizeLine∧(a == sysModules)=false∧∃ vs,KV kvs vs∧h.DictOf (mixKind P w) a vs
  | .dT kvs=>kvs.length≤sizeLine∧(a == sysModules)=false∧∃ xs:List (List Key×Addr×Value),
      Paired (fun (p:List Key×V) (q:List Key×Addr×Value)=>p.1=q.1∧H q.2.1=some (.tup (p.1.map kV))∧RelV p.2 q.2.2) kvs xs∧
      ∃ o es ep,h.get? a=some o∧o.ExactDict∧o.data=.dict es ep∧es.toList=xs.map (entryOfKey (tupleKind (mixKind P w)))∧(xs.map (·.1)).Nodup
  | .set S n=>h.SetOf (intKind P w) a S n
  | .ins C dx fs=>H dx=some (.own a)∧fs.length≤1000∧dx≠a∧h.get? a=some (PySem.W.instObj C dx)∧
      ∃ mA,h.Ns1 dx mA∧(∀ f,RelO (fs.lookup f) (mA f))∧PySem.Within mA (fs.map (·.1))
  | .own _=>∃ o,h.get? a=some o
  | .xd fs=>∃ mA,h.Ns1 a mA∧∀ f,RelO (fs.lookup f) (mA f)
  | .rng lo hi=>∃ t u v,h.get? a=some { cls:=.type "range",data:=.fields #[.int lo t,.int hi u,.int 1 v] }
  | .frz o u=>h.get? a=some o∧ObjOk H h a u
  | .tbl ps=>h.get? a=some { cls:=.none,data:=.fields ps }
  | .met f x=>h.get? a=some (PySem.W.methodObj (.ref f) (.ref x))
  | .ext φ=>φ h∧(∃ o,h.get? a=some o)∧∀ h1 h2:Heap,φ h1→(∀ o,h1.get? a=some o→h2.get? a=some o)→φ h2
noncomputable def HOk (H:Hp) (h:Heap):Prop:=∀ a o,H a=some o→ObjOk P w H h a o
end
section
variable {P:Program} {w:World} {H H':Hp} {h h':Heap} {a:Addr} {o:HO}
theorem ObjOk.lt (x:ObjOk P w H h a o):a<h.objs.size:=by
  cases o with
  | lst xs=>obtain ⟨_,_,_,_,e⟩:=x; exact Heap.lt_size e
  | tup xs=>obtain ⟨_,_,_,p⟩:=x; exact p.lt
  | dK kvs=>obtain ⟨_,_,_,_,o,_,_,e,_⟩:=x; exact Heap.lt_size e
  | dT kvs=>obtain ⟨_,_,_,_,o,_,_,e,_⟩:=x; exact Heap.lt_size e
  | set S n=>obtain ⟨o,_,_,_,e,_⟩:=x; exact Heap.lt_size e
  | ins C dx fs=>obtain ⟨_,_,_,e,_⟩:=x; exact Heap.lt_size e
  | own y=>obtain ⟨_,e⟩:=x; exact Heap.lt_size e
  | xd fs=>obtain ⟨_,⟨_,_,_,e,_⟩,_⟩:=x; exact Heap.lt_size e
  | rng lo hi=>obtain ⟨_,_,_,e⟩:=x; exact Heap.lt_size e
  | frz ob u=>obtain ⟨e,_⟩:=x; exact Heap.lt_size e
  | tbl ps=>exact Heap.lt_size (show h.get? a=some _ from x)
  | met f y=>exact Heap.lt_size (show h.get? a=some _ from x)
  | ext φ=>obtain ⟨_,⟨_,e⟩,_⟩:=x; exact Heap.lt_size e
theorem Paired.mapP {α β:Type} {F G:α→β→Prop}:∀ {l₁:List α} {l₂:List β},Paired F l₁ l₂→(∀ a b,F a b→G a b)→Paired G l₁ l₂
  | _,_,.nil,_=>.nil
  | _,_,.cons r t,f=>.cons (f _ _ r) (Paired.mapP t f)
theorem ObjOk.stay (x:ObjOk P w H h a o) (k:∀ b u,(b=a∨H b=some (.own a))→h.get? b=some u→h'.get? b=some u)
    (ho:∀ b,H b=some (.own a)→H' b=some (.own a)) (ht:∀ b xs,H b=some (.tup xs)→H' b=some (.tup xs)):ObjOk P w H' h' a o:=by
  induction o with
  | lst xs=>obtain ⟨z,its,n,r,e⟩:=x; exact ⟨z,its,n,r,k _ _ (.inl rfl) e⟩
  | tup xs=>obtain ⟨z,its,r,ob,e,c⟩:=x; exact ⟨z,its,r,ob,k _ _ (.inl rfl) e,c⟩
  | dK kvs=>obtain ⟨z,y,vs,r,ob,es,ep,e,c⟩:=x; exact ⟨z,y,vs,r,ob,es,ep,k _ _ (.inl rfl) e,c⟩
  | dT kvs=>
    obtain ⟨z,y,xs,r,ob,es,ep,e,c⟩:=x
    exact ⟨z,y,xs,Paired.mapP r fun p q z=>⟨z.1,ht _ _ z.2.1,z.2.2⟩,ob,es,ep,k _ _ (.inl rfl) e,c⟩
  | set S n=>obtain ⟨ob,es,ep,t,e,c⟩:=x; exact ⟨ob,es,ep,t,k _ _ (.inl rfl) e,c⟩
  | ins C dx fs=>
    obtain ⟨d,z,ne,e,mA,⟨od,es,ep,e2,c⟩,r⟩:=x
    exact ⟨ho _ d,z,ne,k _ _ (.inl rfl) e,mA,⟨od,es,ep,k _ _ (.inr d) e2,c⟩,r⟩
  | own y=>obtain ⟨ob,e⟩:=x; exact ⟨ob,k _ _ (.inl rfl) e⟩
  | xd fs=>obtain ⟨mA,⟨od,es,ep,e,c⟩,r⟩:=x; exact ⟨mA,⟨od,es,ep,k _ _ (.inl rfl) e,c⟩,r⟩
  | rng lo hi=>obtain ⟨t,u,v,e⟩:=x; exact ⟨t,u,v,k _ _ (.inl rfl) e⟩
  | frz ob u ih=>obtain ⟨e,q⟩:=x; exact ⟨k _ _ (.inl rfl) e,ih q⟩
  | tbl ps=>
    have e:h.get? a=some { cls:=.none,data:=.fields ps }:=x
    show h'.get? a=some { cls:=.none,data:=.fields ps }
    exact k a _ (.inl rfl) e
  | met f y=>
    have e:h.get? a=some (PySem.W.methodObj (.ref f) (.ref y)):=x
    show h'.get? a=some (PySem.W.methodObj (.ref f) (.ref y))
    exact k a _ (.inl rfl) e
  | ext φ=>obtain ⟨p,⟨o,e⟩,st⟩:=x; exact ⟨st _ _ p fun o q=>k _ _ (.inl rfl) q,⟨o,k _ _ (.inl rfl) e⟩,st⟩
theorem HOk.lt (x:HOk P w H h) (e:H a=some o):a<h.objs.size:=(x a o e).lt
theorem HOk.fresh (x:HOk P w H h) (e:h.objs.size≤a):H a=none:=by
  cases q:H a with
  | none=>rfl
  | some u=>exact absurd (Nat.lt_of_lt_of_le (x.lt q) e) (Nat.lt_irrefl _)
theorem HOk.kept (x:HOk P w H h) (k:∀ b u,h.get? b=some u→h'.get? b=some u):HOk P w H h':=fun a o e=>
  (x a o e).stay (fun b u _ q=>k b u q) (fun _ q=>q) fun _ _ q=>q
theorem HOk.laid (x:HOk P w H h) (k:∀ b u,h.get? b=some u→h'.get? b=some u) (hp:h.objs.size≤a) (new:ObjOk P w (upd H a o) h' a o):HOk P w (upd H a o) h':=fun b u e=>by
  have hn:=x.fresh hp
  by_cases hb:b=a
  · subst hb; rw [upd_same] at e; cases e; exact new
  · rw [upd_ne hb] at e
    exact (x b u e).stay (fun c v _ q=>k c v q) (fun c q=>by rw [upd_ne (ne_of_none q hn)]; exact q) fun c xs q=>by rw [upd_ne (ne_of_none q hn)]; exact q
end
noncomputable def Rd (H:Hp) (a:Addr) (u:HO):Prop:=H a=some u∨∃ o,H a=some (.frz o u)
theorem Rd.ok {P:Program} {w:World} {H:Hp} {h:Heap} {a:Addr} {u:HO} (r:Rd H a u) (x:HOk P w H h):ObjOk P w H h a u:=by
  rcases r with r | ⟨o,r⟩
  · exact x a u r
  · obtain ⟨_,q⟩:=x a _ r
    exact q
noncomputable def Mut:Option HO→Prop
  | some (.lst _)=>True
  | some (.dK _)=>True
  | some (.dT _)=>True
  | some (.set _ _)=>True
  | some (.ins _ _ _)=>True
  | some (.ext _)=>True
  | _=>False
section
variable {P:Program} {w:World} {H:Hp} {h h':Heap} {x e:Addr} {o':HO}
theorem HOk.write (ok:HOk P w H h) (mu:Mut (H x)) (he:e=x∨H e=some (.own x)) (k:∀ b u,b≠e→h.get? b=some u→h'.get? b=some u) (heo:∃ u,h'.get? e=some u)
    (new:ObjOk P w (upd H x o') h' x o'):HOk P w (upd H x o') h':=fun b u q=>by
  have nown:∀ c y,H c=some (.own y)→c≠x:=fun c y r z=>by subst z; rw [r] at mu; exact mu
  have ntup:∀ c xs,H c=some (.tup xs)→c≠x:=fun c xs r z=>by subst z; rw [r] at mu; exact mu
  by_cases hb:b=x
  · subst hb; rw [upd_same] at q; cases q; exact new
  · rw [upd_ne hb] at q
    by_cases hbe:b=e
    · have q':H b=some (.own x):=by
        rcases he with z | z
        · exact absurd (hbe.trans z) hb
        · rw [hbe]; exact z
      rw [q] at q'; cases q'
      obtain ⟨v,hv⟩:=heo
      exact ⟨v,by rw [hbe]; exact hv⟩
    · refine (ok b u q).stay (fun c v hc r=>k c v ?_ r) (fun c r=>by rw [upd_ne (nown c b r)]; exact r) fun c xs r=>by rw [upd_ne (ntup c xs r)]; exact r
      rcases hc with rfl | hc
      · exact hbe
      · rintro rfl
        rcases he with z | z
        · exact nown c b hc z
        · rw [hc] at z; cases z; exact hb rfl
end
structure Un (fs ex:List Addr) (H H':Hp) (h h':Heap):Prop where
  keep:∀ b o,h.get? b=some o→H b=none→b ∉ fs→b ∉ ex→h'.get? b=some o
  slot:∀ b o,h.get? b=some o→H b=none→b∈fs→b ∉ ex→∃ sl,h'.get? b=some { o with slots:=sl }
  free:∀ b o,h.get? b=some o→H b=none→b ∉ ex→H' b=none
  there:∀ b o,h.get? b=some o→b ∉ ex→∃ o',h'.get? b=some o'
  tups:∀ b xs,H b=some (.tup xs)→H' b=some (.tup xs)
  frzs:∀ b o u,H b=some (.frz o u)→H' b=some (.frz o u)
  tbls:∀ b ps,H b=some (.tbl ps)→∃ more,H' b=some (.tbl (ps++more))
section
variable {fs fs' ex ex':List Addr} {H H1 H2:Hp} {h h1 h2 h':Heap} {a x e:Addr} {o:HO}
theorem Un.any (u:Un fs ex H H1 h h1) {b:Addr} {ob:Obj} (q:h.get? b=some ob) (n:H b=none) (hx:b ∉ ex):∃ sl,h1.get? b=some { ob with slots:=sl }:=by
  by_cases hb:b∈fs
  · exact u.slot b ob q n hb hx
  · exact ⟨ob.slots,u.keep b ob q n hb hx⟩
theorem Un.kept (k:∀ b u,h.get? b=some u→h'.get? b=some u):Un fs ex H H h h':=
  ⟨fun b ob q _ _ _=>k b ob q,fun b ob q _ _ _=>⟨ob.slots,k b ob q⟩,fun _ _ _ n _=>n,fun b ob q _=>⟨ob,k b ob q⟩,fun _ _ q=>q,fun _ _ _ q=>q,fun _ ps q=>⟨#[],by rw [q]; simp⟩⟩
theorem Un.refl:Un fs ex H H h h:=Un.kept fun _ _ q=>q
theorem Un.laid (k:∀ b u,h.get? b=some u→h'.get? b=some u) (hp:h.objs.size≤a) (hn:H a=none):Un fs ex H (upd H a o) h h' where
  keep:=fun b u q _ _ _=>k b u q
  slot:=fun b u q _ _ _=>⟨u.slots,k b u q⟩
  free:=fun b u q n _=>by rw [upd_ne (Nat.ne_of_lt (Nat.lt_of_lt_of_le (Heap.lt_size q) hp))]; exact n
  there:=fun b u q _=>⟨u,k b u q⟩
  tups:=fun b xs q=>by rw [upd_ne (ne_of_none q hn)]; exact q
  frzs:=fun b u xs q=>by rw [upd_ne (ne_of_none q hn)]; exact q
  tbls:=fun b ps q=>⟨#[],by rw [upd_ne (ne_of_none q hn),q]; simp⟩
theorem Un.write (mu:Mut (H x)) (he:e=x∨H e=some (.own x)) (k:∀ b u,b≠e→h.get? b=some u→h'.get? b=some u) (heo:∃ u,h'.get? e=some u):Un fs ex H (upd H x o) h h':=by
  have hx:∀ b,H b=none→b≠x:=fun b n z=>by subst z; rw [n] at mu; exact mu
  have hb:∀ b,H b=none→b≠e:=fun b n z=>by
    subst z
    rcases he with r | r
    · exact hx b n r
    · rw [n] at r; cases r
  have hm:∀ b u,H b=some u→¬ Mut (some u)→b≠x:=fun b u q nm z=>by subst z; rw [q] at mu; exact nm mu
  refine ⟨fun b u q n _ _=>k b u (hb b n) q,fun b u q n _ _=>⟨u.slots,k b u (hb b n) q⟩,fun b u q n _=>by rw [upd_ne (hx b n)]; exact n,fun b u q _=>?_,
    fun b xs q=>by rw [upd_ne (hm b _ q fun z=>z)]; exact q,fun b u xs q=>by rw [upd_ne (hm b _ q fun z=>z)]; exact q,fun b ps q=>⟨#[],by rw [upd_ne (hm b _ q fun z=>z),q]; simp⟩⟩
  by_cases hbe:b=e
  · subst hbe; exact heo
  · exact ⟨u,k b u hbe q⟩
end
noncomputable def trk (h:Heap) (H:Hp):List Addr:=(List.range h.objs.size).filter fun a=>(H a).isSome
noncomputable def hidT (h:Heap) (H:Hp):Heap:=PySem.W.hideAll h (trk h H)
theorem hidT_size (h:Heap) (H:Hp):(hidT h H).objs.size=h.objs.size:=PySem.W.hideAll_size _ _
theorem hidT_get {h:Heap} {H:Hp} {b:Addr} {o:Obj} (e:h.get? b=some o) (n:H b=none):(hidT h H).get? b=some o:=
  PySem.W.hideAll_get _ e fun hm=>by
    have q:(H b).isSome=true:=(List.mem_filter.mp hm).2
    rw [n] at q; simp at q
theorem of_hidT {h:Heap} {H:Hp} {b:Addr} {o:Obj} (e:(hidT h H).get? b=some o):h.get? b=some o∧H b=none:=by
  have e':h.get? b=some o:=PySem.W.of_hideAll (trk h H) e
  refine ⟨e',?_⟩
  cases q:H b with
  | none=>rfl
  | some x=>
    have hm:b∈trk h H:=List.mem_filter.mpr ⟨List.mem_range.mpr (Heap.lt_size e'),by simp [q]⟩
    have z:(hidT h H).get? b=none:=PySem.W.hideAll_none (trk h H) hm
    rw [z] at e; cases e
noncomputable def allNews (g h:Heap) (L:Addr):List (Addr×Obj):=(List.range h.objs.size).filterMap fun a=>if a=L∨(g.get? a).isSome=true then none else (h.get? a).map fun o=>(a,o)
noncomputable def rest (g h:Heap) (L d:Addr):List (Addr×Obj):=(allNews g h L).filter fun p=>decide (p.1≠d)
end L2
namespace L2
open PySem PySem.Spec PyProof.Rows
structure Mod (K:PySem.W.Frag) (mg:Str→Option Value) (base:Heap):Prop where
  kin:K.In base
  glob:base.Ns mainGlobals mg
  blt:∃ mb,base.Ns builtinsNs mb∧∀ x:Str,x ≠ "__name__" → mb x=bootBuiltins x
  nolimit:base.NoLimit
structure Cx where
  prog:Program
  w:World
  K:PySem.W.Frag
  mg:Str→Option Value
  base:Heap
  A:Around
  N:List Str
  s₀:Shared
  H₀:Hp
  env:Env
  outer:List Env
  stack:List Env
  ex:List Addr
  fn:Str→Bool
  calm:Bool
  pn:List (Addr×Obj)
  xe:Value→Shared→Prop
noncomputable def frs (l:List Env):List Addr:=l.filterMap (·.frame)
noncomputable abbrev Cx.fs (X:Cx):List Addr:=frs X.outer
noncomputable def Vis (sc:Scope) (x:Str):Prop:=sc.names.lookup x=some .local∨sc.names.lookup x=some .cell∨sc.names.lookup x=some .free
noncomputable def Loc (sc:Scope) (x:Str):Prop:=sc.names.lookup x=some .local∨sc.names.lookup x=some .cell
noncomputable def Look (env:Env) (h:Heap) (m:Str→Option Value) (x:Str) (u:Value):Prop:=
  (env.kindOf x=some .local∧m x=some u)∨((env.kindOf x=some .cell∨env.kindOf x=some .free)∧∃ c,env.cells.lookup x=some c∧h.IsCell c (some u))
structure Cx.Ok (X:Cx):Prop where
  mod:Mod X.K X.mg X.base
  kind:X.env.scope.kind=.function
  glob:X.env.globals=mainGlobals
  blt:X.env.builtins=builtinsNs
  above:X.s₀.heap.objs.size≤X.env.locals
  inj:∀ x y c,X.env.cells.lookup x=some c→X.env.cells.lookup y=some c→x=y
  has:∀ x,(X.env.kindOf x=some .cell∨X.env.kindOf x=some .free)→∃ c,X.env.cells.lookup x=some c
  cab:∀ x c,X.fn x=true→X.env.cells.lookup x=some c→X.s₀.heap.objs.size≤c
  hd:X.calm=true→X.A.handled=none
  frames:X.A.frames=some X.stack
  stk:X.stack=X.outer∨(X.stack=X.env::X.outer∧X.env.frame=some X.env.locals)
  exf:∀ b∈X.ex,b≠X.env.locals∧∀ x c,X.env.cells.lookup x=some c→c≠b
  bs:∀ b o,X.base.get? b=some o→X.s₀.heap.get? b=some o∧X.H₀ b=none
  bsz:X.base.objs.size≤X.s₀.heap.objs.size
  noex:∀ b o,X.base.get? b=some o→b ∉ X.ex
  exfs:∀ b∈X.ex,b ∉ X.fs
  funs:X.s₀.heap.FunFrames X.base X.outer
  frf:∀ b∈X.fs,X.H₀ b=none
structure Inv (X:Cx) (pins:List (Addr×Obj)) (σ:List (Option V)) (H:Hp) (s:Shared):Prop where
  ok:X.Ok
  os:s.os=X.s₀.os
  bare:AllBare s.gens
  base:Un X.fs X.ex X.H₀ H X.s₀.heap s.heap
  loc:∃ m,s.heap.Ns X.env.locals m∧∀ (i:Nat) (x:Str) (v:V),X.N[i]?=some x→σ[i]?=some (some v)→Vis X.env.scope x→∃ u,RelV v u∧Look X.env s.heap m x u
  cell:∀ x c,X.env.cells.lookup x=some c→∃ v,s.heap.IsCell c v
  free:H X.env.locals=none
  freeC:∀ x c,X.env.cells.lookup x=some c→H c=none
  pin:∀ p∈X.pn++pins,s.heap.get? p.1=some p.2∧H p.1=none∧p.1≠X.env.locals∧p.1 ∉ X.fs∧∀ v,p.2.data≠.cell v
  hok:HOk X.prog X.w H s.heap
  len:σ.length=X.N.length
section
variable {X:Cx} {pins:List (Addr×Obj)} {σ:List (Option V)} {H H':Hp} {s:Shared} {h':Heap}
theorem Cx.Ok.nofr (ok:X.Ok) {b:Addr} {o:Obj} (e:X.base.get? b=some o):b ∉ X.fs:=fun hb=>by
  have:=(ok.funs.mem hb).1
  rw [e] at this; cases this
theorem Inv.bs (I:Inv X pins σ H s):∀ b o,X.base.get? b=some o→s.heap.get? b=some o∧H b=none:=fun b o e=>
  ⟨I.base.keep b o (I.ok.bs b o e).1 (I.ok.bs b o e).2 (I.ok.nofr e) (I.ok.noex b o e),I.base.free b o (I.ok.bs b o e).1 (I.ok.bs b o e).2 (I.ok.noex b o e)⟩
theorem Inv.bk (I:Inv X pins σ H s):∀ b o,X.base.get? b=some o→s.heap.get? b=some o:=fun b o e=>(I.bs b o e).1
theorem Inv.mod (I:Inv X pins σ H s):Mod X.K X.mg X.base:=I.ok.mod
theorem Inv.kIn (I:Inv X pins σ H s):X.K.In s.heap:=I.ok.mod.kin.keeps I.bk
theorem Inv.lt (I:Inv X pins σ H s):X.env.locals<s.heap.objs.size:=let ⟨_,hn,_⟩:=I.loc; hn.lt
theorem Inv.sz (I:Inv X pins σ H s):X.s₀.heap.objs.size≤s.heap.objs.size:=Nat.le_trans I.ok.above (Nat.le_of_lt I.lt)
theorem Inv.nofs (I:Inv X pins σ H s) {a:Addr} (h:s.heap.objs.size≤a):a ∉ X.fs:=fun hb=>by
  obtain ⟨_,o,ho,_⟩:=I.ok.funs.mem hb
  exact absurd (Nat.lt_of_lt_of_le (Heap.lt_size ho) (Nat.le_trans I.sz h)) (Nat.lt_irrefl _)
theorem Inv.cne (I:Inv X pins σ H s):∀ x c,X.env.cells.lookup x=some c→c≠X.env.locals:=fun x c e z=>by
  obtain ⟨v,o,ho,hd⟩:=I.cell x c e
  obtain ⟨m,⟨o',es,ep,ho',hd',_⟩,_⟩:=I.loc
  rw [z,ho'] at ho; cases ho; rw [hd'] at hd; cases hd
theorem Inv.funs (I:Inv X pins σ H s):s.heap.FunFrames X.base X.outer:=by
  have all:∀ (l:List Env),(∀ b∈frs l,b∈X.fs)→X.s₀.heap.FunFrames X.base l→s.heap.FunFrames X.base l:=by
    intro l
    induction l with
    | nil=>intro _ _; trivial
    | cons env r ih=>
      intro hs hl
      obtain ⟨hk,⟨L,o,hf,hn,ho,hd⟩,hr⟩:=hl
      have hL:L∈X.fs:=hs L (by unfold frs; rw [List.filterMap_cons,hf]; exact List.mem_cons_self)
      obtain ⟨sl,e⟩:=I.base.slot L o ho (I.ok.frf L hL) hL fun z=>I.ok.exfs L z hL
      exact ⟨hk,⟨L,_,hf,hn,e,hd⟩,ih (fun b hb=>hs b (by unfold frs; rw [List.filterMap_cons,hf]; exact List.mem_cons_of_mem _ hb)) hr⟩
  exact all X.outer (fun _ hb=>hb) I.ok.funs
theorem Inv.stack (I:Inv X pins σ H s):s.heap.FunFrames X.base X.stack:=by
  rcases I.ok.stk with e | ⟨e,hf⟩
  · rw [e]; exact I.funs
  · rw [e]
    obtain ⟨m,hn,_⟩:=I.loc
    refine .cons (by rw [I.ok.kind]; decide) hf hn ?_ I.funs
    exact Heap.get?_none_of_le (Nat.le_trans I.ok.bsz I.ok.above)
theorem Inv.stkSub (I:Inv X pins σ H s):∀ b∈frs X.stack,b∈X.env.locals::X.fs:=fun b hb=>by
  rcases I.ok.stk with e | ⟨e,hf⟩
  · rw [e] at hb; exact List.mem_cons_of_mem _ hb
  · rw [e] at hb
    unfold frs at hb
    rw [List.filterMap_cons,hf] at hb
    exact hb
theorem Inv.stkFree (I:Inv X pins σ H s):∀ b∈frs X.stack,H b=none:=fun b hb=>by
  rcases List.mem_cons.mp (I.stkSub b hb) with e | hb
  · rw [e]; exact I.free
  · obtain ⟨_,o,ho,_⟩:=I.ok.funs.mem hb
    exact I.base.free b o ho (I.ok.frf b hb) fun z=>I.ok.exfs b z hb
theorem Inv.step {g':Array GenState} {t':Nat} {d':Drawn} {ch:List Addr} (I:Inv X pins σ H s)
    (hch:∀ b∈ch,(b∈X.ex∨X.s₀.heap.objs.size≤b)∧b≠X.env.locals∧(∀ x c,X.env.cells.lookup x=some c→c≠b)∧∀ p∈X.pn++pins,p.1≠b)
    (keep:∀ b o,b≠X.env.locals→b ∉ X.fs→b ∉ ch→s.heap.get? b=some o→H b=none→h'.get? b=some o)
    (slot:∀ b o,b≠X.env.locals→b∈X.fs→b ∉ ch→s.heap.get? b=some o→H b=none→∃ sl,h'.get? b=some { o with slots:=sl }) (free:∀ b o,b ∉ ch→s.heap.get? b=some o→H b=none→H' b=none)
    (there:∀ b o,b ∉ ch→s.heap.get? b=some o→∃ o',h'.get? b=some o')
    (tups:∀ b xs,H b=some (.tup xs)→H' b=some (.tup xs)) (frzs:∀ b o u,H b=some (.frz o u)→H' b=some (.frz o u)) (tbls:∀ b ps,H b=some (.tbl ps)→∃ more,H' b=some (.tbl (ps++more)))
    (ns:∀ m,s.heap.Ns X.env.locals m→h'.Ns X.env.locals m) (hok:HOk X.prog X.w H' h') (hg:AllBare g') :
    Inv X pins σ H' { s with heap:=h',gens:=g',drawn:=d',toks:=t' }:=by
  have neL:∀ b o,X.s₀.heap.get? b=some o→b≠X.env.locals:=fun b o e=>Nat.ne_of_lt (Nat.lt_of_lt_of_le (Heap.lt_size e) I.ok.above)
  have neC:∀ b o,X.s₀.heap.get? b=some o→b ∉ X.ex→b ∉ ch:=fun b o e hx hb=>by
    rcases (hch b hb).1 with z | z
    · exact hx z
    · exact absurd (Nat.lt_of_lt_of_le (Heap.lt_size e) z) (Nat.lt_irrefl _)
  have cellK:∀ x c,X.env.cells.lookup x=some c→∀ v,s.heap.IsCell c v→h'.IsCell c v:=fun x c e v ⟨o,ho,hd⟩=>by
    have nch:c ∉ ch:=fun z=>(hch c z).2.2.1 x c e rfl
    by_cases hc:c∈X.fs
    · obtain ⟨sl,q⟩:=slot c o (I.cne x c e) hc nch ho (I.freeC x c e)
      exact ⟨_,q,hd⟩
    · exact ⟨o,keep c o (I.cne x c e) hc nch ho (I.freeC x c e),hd⟩
  refine ⟨I.ok,I.os,hg,⟨fun b o e n hb hx=>?_,fun b o e n hb hx=>?_,fun b o e n hx=>?_,fun b o e hx=>?_,fun b xs e=>tups b xs (I.base.tups b xs e),fun b o xs e=>frzs b o xs (I.base.frzs b o xs e),fun b ps e=>?_⟩,?_,fun x c e=>?_,?_,fun x c e=>?_,fun p hp=>?_,hok,I.len⟩
  · exact keep b o (neL b o e) hb (neC b o e hx) (I.base.keep b o e n hb hx) (I.base.free b o e n hx)
  · obtain ⟨sl,e1⟩:=I.base.slot b o e n hb hx
    obtain ⟨sl',e2⟩:=slot b _ (neL b o e) hb (neC b o e hx) e1 (I.base.free b o e n hx)
    exact ⟨sl',e2⟩
  · obtain ⟨o',e1⟩:=I.base.there b o e hx
    exact free b o' (neC b o e hx) e1 (I.base.free b o e n hx)
  · obtain ⟨o',e1⟩:=I.base.there b o e hx
    exact there b o' (neC b o e hx) e1
  · obtain ⟨m1,e1⟩:=I.base.tbls b ps e
    obtain ⟨m2,e2⟩:=tbls b _ e1
    exact ⟨m1++m2,by rw [e2,Array.append_assoc]⟩
  · obtain ⟨m,hn,hl⟩:=I.loc
    refine ⟨m,ns m hn,fun i x v e1 e2 e3=>?_⟩
    obtain ⟨u,r,l⟩:=hl i x v e1 e2 e3
    refine ⟨u,r,?_⟩
    rcases l with l | ⟨k,c,e,z⟩
    · exact .inl l
    · exact .inr ⟨k,c,e,cellK x c e _ z⟩
  · obtain ⟨v,z⟩:=I.cell x c e
    exact ⟨v,cellK x c e v z⟩
  · obtain ⟨m,⟨o,_,_,ho,_⟩,_⟩:=I.loc
    exact free _ o (fun z=>(hch _ z).2.1 rfl) ho I.free
  · obtain ⟨v,o,ho,hd⟩:=I.cell x c e
    exact free c o (fun z=>(hch c z).2.2.1 x c e rfl) ho (I.freeC x c e)
  · obtain ⟨e,n,ne,nf,d⟩:=I.pin p hp
    have nch:p.1 ∉ ch:=fun z=>(hch p.1 z).2.2.2 p hp rfl
    exact ⟨keep p.1 p.2 ne nf nch e n,free p.1 p.2 nch e n,ne,nf,d⟩
theorem Inv.un {t':Nat} (I:Inv X pins σ H s) (u:Un X.fs [] H H' s.heap h') (hok:HOk X.prog X.w H' h'):Inv X pins σ H' { s with heap:=h',toks:=t' }:=by
  obtain ⟨m,⟨o,es,ep,ho,r⟩,_⟩:=id I.loc
  obtain ⟨sl,hL⟩:=u.any ho I.free (by simp)
  exact I.step (g':=s.gens) (d':=s.drawn) (ch:=[]) (fun _ z=>nomatch z) (fun b o _ hb _ e n=>u.keep b o e n hb (by simp)) (fun b o _ hb _ e n=>u.slot b o e n hb (by simp)) (fun b o _ e n=>u.free b o e n (by simp)) (fun b o _ e=>u.there b o e (by simp)) u.tups u.frzs u.tbls (fun m' hm=>by
    obtain ⟨o',es',ep',ho',r'⟩:=hm
    rw [ho] at ho'; cases ho'
    exact ⟨_,es',ep',hL,r'⟩) hok I.bare
theorem Inv.call {g':Array GenState} {t':Nat} {d':Drawn} {ch:List Addr} (I:Inv X pins σ H s) (u:Un (frs X.stack) ch H H' s.heap h') (hok:HOk X.prog X.w H' h') (hg:AllBare g')
    (hch:∀ b∈ch,(b∈X.ex∨X.s₀.heap.objs.size≤b)∧b≠X.env.locals∧(∀ x c,X.env.cells.lookup x=some c→c≠b)∧∀ p∈X.pn++pins,p.1≠b) :
    Inv X pins σ H' { s with heap:=h',gens:=g',drawn:=d',toks:=t' }:=by
  obtain ⟨m,⟨o,es,ep,ho,r⟩,_⟩:=id I.loc
  obtain ⟨sl,hL⟩:=u.any ho I.free fun z=>(hch _ z).2.1 rfl
  exact I.step (ch:=ch) hch (fun b o hL hb hc e n=>u.keep b o e n (fun z=>(List.mem_cons.mp (I.stkSub b z)).elim hL hb) hc) (fun b o _ _ hc e n=>u.any e n hc) (fun b o hc e n=>u.free b o e n hc) (fun b o hc e=>u.there b o e hc) u.tups u.frzs u.tbls (fun m' hm=>by
    obtain ⟨o',es',ep',ho',r'⟩:=hm
    rw [ho] at ho'; cases ho'
    exact ⟨_,es',ep',hL,r'⟩) hok hg
theorem Inv.turned {t':Nat} {it:Addr} (I:Inv X pins σ H s) (k:∀ b o,b≠it→s.heap.get? b=some o→h'.get? b=some o) (hn:H it=none) (hL:it≠X.env.locals)
    (h1:it∈X.ex∨X.s₀.heap.objs.size≤it) (h2:∀ x c,X.env.cells.lookup x=some c→c≠it) (h3:∀ p∈X.pn++pins,p.1≠it):Inv X pins σ H { s with heap:=h',toks:=t' }:=by
  have nit:∀ b u,H b=some u→b≠it:=fun b u e z=>by rw [z,hn] at e; cases e
  refine I.step (g':=s.gens) (d':=s.drawn) (ch:=[it]) (fun b hb=>?_) (fun b o _ _ hc e _=>k b o (fun z=>hc (by simp [z])) e) (fun b o _ _ hc e _=>⟨o.slots,k b o (fun z=>hc (by simp [z])) e⟩) (fun _ _ _ _ n=>n)
    (fun b o hc e=>⟨o,k b o (fun z=>hc (by simp [z])) e⟩) (fun _ _ e=>e) (fun _ _ _ e=>e) (fun b ps e=>⟨#[],by rw [e]; simp⟩) (fun m hm=>?_) (fun b u e=>?_) I.bare
  · have e:b=it:=by simpa using hb
    subst e
    exact ⟨h1,hL,h2,h3⟩
  · obtain ⟨o,es,ep,ho,r⟩:=hm
    exact ⟨o,es,ep,k _ o (Ne.symm hL) ho,r⟩
  · refine (I.hok b u e).stay (fun c v hc q=>k c v ?_ q) (fun _ q=>q) fun _ _ q=>q
    rcases hc with z | z
    · rw [z]; exact nit b u e
    · exact nit c _ z
theorem Inv.tok (I:Inv X pins σ H s) (t:Nat):Inv X pins σ H { s with toks:=t }:=I.un (h':=s.heap) (t':=t) Un.refl I.hok
theorem Inv.kept {t':Nat} (I:Inv X pins σ H s) (k:∀ b u,s.heap.get? b=some u→h'.get? b=some u):Inv X pins σ H { s with heap:=h',toks:=t' }:=I.un (Un.kept k) (I.hok.kept k)
theorem Inv.laid {a:Addr} {o:HO} {t':Nat} (I:Inv X pins σ H s) (k:∀ b u,s.heap.get? b=some u→h'.get? b=some u) (hp:s.heap.objs.size≤a) (new:ObjOk X.prog X.w (upd H a o) h' a o) :
    Inv X pins σ (upd H a o) { s with heap:=h',toks:=t' }:=I.un (Un.laid k hp (I.hok.fresh hp)) (I.hok.laid k hp new)
theorem Inv.write {x e:Addr} {o:HO} {t':Nat} (I:Inv X pins σ H s) (mu:Mut (H x)) (he:e=x∨H e=some (.own x)) (k:∀ b u,b≠e→s.heap.get? b=some u→h'.get? b=some u) (heo:∃ u,h'.get? e=some u)
    (new:ObjOk X.prog X.w (upd H x o) h' x o):Inv X pins σ (upd H x o) { s with heap:=h',toks:=t' }:=I.un (Un.write mu he k heo) (I.hok.write mu he k heo new)
theorem Inv.weak {σ':List (Option V)} (I:Inv X pins σ H s) (hl:σ'.length=σ.length) (w:∀ (i:Nat) v,σ'[i]?=some (some v)→σ[i]?=some (some v)):Inv X pins σ' H s:=
  ⟨I.ok,I.os,I.bare,I.base,let ⟨m,hn,hl'⟩:=I.loc; ⟨m,hn,fun i x v e1 e2 e3=>hl' i x v e1 (w i v e2) e3⟩,I.cell,I.free,I.freeC,I.pin,I.hok,hl.trans I.len⟩
theorem Inv.pins_of {pins':List (Addr×Obj)} (I:Inv X pins σ H s) (h:∀ p∈pins',s.heap.get? p.1=some p.2∧H p.1=none∧p.1≠X.env.locals∧p.1 ∉ X.fs∧∀ v,p.2.data≠.cell v):Inv X pins' σ H s:=
  ⟨I.ok,I.os,I.bare,I.base,I.loc,I.cell,I.free,I.freeC,fun p hp=>(List.mem_append.mp hp).elim (fun z=>I.pin p (List.mem_append_left _ z)) (h p),I.hok,I.len⟩
theorem nodup_ix {N:List Str} (hN:N.Nodup) {i j:Nat} {x:Str} (a:N[i]?=some x) (b:N[j]?=some x):i=j:=by
  obtain ⟨h1,e1⟩:=List.getElem?_eq_some_iff.mp a
  obtain ⟨h2,e2⟩:=List.getElem?_eq_some_iff.mp b
  exact (List.getElem_inj hN).mp (e1.trans e2.symm)
theorem store_ok2 {M:Model} {A:Around} {E:Value→Shared→Prop} {i:Nat} {x:Str} {v:V} {u:Value} {Q:Unit→Shared→Prop} (I:Inv X pins σ H s) (hN:X.N.Nodup) (hi:X.N[i]?=some x) (hx:Loc X.env.scope x) (r:RelV v u)
    (h:∀ s',Inv X pins (σ.set i (some v)) H s'→(∃ a,Heap.SameBut a s.heap s'.heap∧(a=X.env.locals∨X.env.cells.lookup x=some a))→Q () s') (hf:X.fn x=true∨X.env.scope.names.lookup x=some .local:=by first | exact .inl rfl | exact .inr rfl | assumption):wpAny M A (storeName X.env x u) Q E s:=by
  obtain ⟨m,hn,hl⟩:=id I.loc
  have hcls:(X.env.scope.kind == .class||(X.env.scope.kind == .module&&X.env.locals != X.env.globals))=false:=by rw [I.ok.kind]; rfl
  have hiσ:i<σ.length:=by rw [I.len]; exact (List.getElem?_eq_some_iff.mp hi).1
  have cne:=I.cne
  have tracked:∀ {a:Addr} {h':Heap},(∃ o,s.heap.get? a=some o∧H a=none)→Heap.SameBut a s.heap h'→HOk X.prog X.w H h':=fun {a h'} ha hs b ob e=>by
    obtain ⟨_,_,hfree⟩:=ha
    refine (I.hok b ob e).stay (fun c w' hc q=>(hs.2 c ?_).trans q) (fun _ q=>q) fun _ _ q=>q
    rintro rfl
    rcases hc with rfl | hc
    · rw [hfree] at e; cases e
    · rw [hfree] at hc; cases hc
  rcases hx with hk | hk
  · refine wpAny_storeName_local hk hn (fun h' hn' hs=>?_) hcls
    obtain ⟨oL,_,_,hoL,_⟩:=id hn
    refine h _ ⟨I.ok,I.os,I.bare,⟨fun b o e n hb hx=>?_,fun b o e n hb hx=>?_,I.base.free,fun b o e hx=>?_,I.base.tups,I.base.frzs,I.base.tbls⟩,⟨_,hn',fun j y v' e1 e2 e3=>?_⟩,fun y c e=>?_,I.free,I.freeC,fun p hp=>?_,tracked ⟨oL,hoL,I.free⟩ hs,by simpa using I.len⟩ ⟨_,hs,.inl rfl⟩
    · exact (hs.2 b (Nat.ne_of_lt (Nat.lt_of_lt_of_le (Heap.lt_size e) I.ok.above))).trans (I.base.keep b o e n hb hx)
    · obtain ⟨sl,e1⟩:=I.base.slot b o e n hb hx
      exact ⟨sl,(hs.2 b (Nat.ne_of_lt (Nat.lt_of_lt_of_le (Heap.lt_size e) I.ok.above))).trans e1⟩
    · obtain ⟨o',e1⟩:=I.base.there b o e hx
      exact ⟨o',(hs.2 b (Nat.ne_of_lt (Nat.lt_of_lt_of_le (Heap.lt_size e) I.ok.above))).trans e1⟩
    · by_cases hj:j=i
      · subst hj
        rw [hi] at e1; cases e1
        rw [List.getElem?_set_self hiσ] at e2
        cases e2
        exact ⟨u,r,.inl ⟨hk,by simp⟩⟩
      · rw [List.getElem?_set_ne (Ne.symm hj)] at e2
        obtain ⟨u',r',q⟩:=hl j y v' e1 e2 e3
        refine ⟨u',r',?_⟩
        rcases q with ⟨k,e⟩ | ⟨k,c,e,z⟩
        · refine .inl ⟨k,?_⟩
          have:y≠x:=fun e=>hj (nodup_ix hN e1 (e ▸ hi))
          simp [this,e]
        · exact .inr ⟨k,c,e,z.sameBut hs (cne y c e)⟩
    · obtain ⟨w',z⟩:=I.cell y c e
      exact ⟨w',z.sameBut hs (cne y c e)⟩
    · obtain ⟨e,n,ne,nf,d⟩:=I.pin p hp
      exact ⟨(hs.2 p.1 ne).trans e,n,ne,nf,d⟩
  · have hfn:X.fn x=true:=by
      rcases hf with z | z
      · exact z
      · rw [z] at hk; cases hk
    obtain ⟨c,hc⟩:=I.ok.has x (.inl hk)
    obtain ⟨w',z⟩:=I.cell x c hc
    refine wpAny_storeName_cell I.ok.kind hk hc z (fun h' hc' hs=>?_)
    obtain ⟨oc,hoc,hocd⟩:=id z
    refine h { s with heap:=h' } ⟨I.ok,I.os,I.bare,⟨fun b o e n hb hx=>?_,fun b o e n hb hx=>?_,I.base.free,fun b o e hx=>?_,I.base.tups,I.base.frzs,I.base.tbls⟩,⟨m,hn.sameBut hs (Ne.symm (cne x c hc)),fun j y v' e1 e2 e3=>?_⟩,fun y c' e=>?_,I.free,I.freeC,fun p hp=>?_,tracked ⟨oc,hoc,I.freeC x c hc⟩ hs,by simpa using I.len⟩ ⟨c,hs,.inr hc⟩
    · exact (hs.2 b (Nat.ne_of_lt (Nat.lt_of_lt_of_le (Heap.lt_size e) (I.ok.cab x c hfn hc)))).trans (I.base.keep b o e n hb hx)
    · obtain ⟨sl,e1⟩:=I.base.slot b o e n hb hx
      exact ⟨sl,(hs.2 b (Nat.ne_of_lt (Nat.lt_of_lt_of_le (Heap.lt_size e) (I.ok.cab x c hfn hc)))).trans e1⟩
    · obtain ⟨o',e1⟩:=I.base.there b o e hx
      exact ⟨o',(hs.2 b (Nat.ne_of_lt (Nat.lt_of_lt_of_le (Heap.lt_size e) (I.ok.cab x c hfn hc)))).trans e1⟩
    · by_cases hj:j=i
      · subst hj
        rw [hi] at e1; cases e1
        rw [List.getElem?_set_self hiσ] at e2
        cases e2
        exact ⟨u,r,.inr ⟨.inl hk,c,hc,hc'⟩⟩
      · rw [List.getElem?_set_ne (Ne.symm hj)] at e2
        obtain ⟨u',r',q⟩:=hl j y v' e1 e2 e3
        refine ⟨u',r',?_⟩
        rcases q with q | ⟨k,c',e,z'⟩
        · exact .inl q
        · refine .inr ⟨k,c',e,z'.sameBut hs ?_⟩
          rintro rfl
          exact hj (nodup_ix hN e1 (I.ok.inj _ _ _ e hc ▸ hi))
    · by_cases hcc:c'=c
      · subst hcc; exact ⟨_,hc'⟩
      · obtain ⟨w2,z2⟩:=I.cell y c' e
        exact ⟨w2,z2.sameBut hs hcc⟩
    · obtain ⟨e,n,ne,nf,d⟩:=I.pin p hp
      refine ⟨(hs.2 p.1 ?_).trans e,n,ne,nf,d⟩
      intro q
      rw [q,hoc] at e
      have q':oc=p.2:=Option.some.inj e
      exact d w' (by rw [← q']; exact hocd)
theorem store_ok {M:Model} {A:Around} {E:Value→Shared→Prop} {i:Nat} {x:Str} {v:V} {u:Value} {Q:Unit→Shared→Prop} (I:Inv X pins σ H s) (hN:X.N.Nodup) (hi:X.N[i]?=some x) (hx:Loc X.env.scope x) (r:RelV v u)
    (h:∀ s',Inv X pins (σ.set i (some v)) H s'→Q () s') (hf:X.fn x=true∨X.env.scope.names.lookup x=some .local:=by first | exact .inl rfl | exact .inr rfl | assumption):wpAny M A (storeName X.env x u) Q E s:=
  store_ok2 I hN hi hx r (fun s' I' _=>h s' I') hf
theorem Inv.call' {s':Shared} {ch:List Addr} (I:Inv X pins σ H s) (ho:s'.os=s.os) (u:Un (frs X.stack) ch H H' s.heap s'.heap) (hok:HOk X.prog X.w H' s'.heap) (hg:AllBare s'.gens)
    (hch:∀ b∈ch,(b∈X.ex∨X.s₀.heap.objs.size≤b)∧b≠X.env.locals∧(∀ x c,X.env.cells.lookup x=some c→c≠b)∧∀ p∈X.pn++pins,p.1≠b):Inv X pins σ H' s':=by
  obtain ⟨h',g',d',t',o'⟩:=s'
  have e:o'=s.os:=ho
  subst e
  exact I.call (g':=g') (t':=t') (d':=d') u hok hg hch
end
noncomputable abbrev XK:=Value→Option Addr→Hp→Prop
noncomputable abbrev St:=List (Option V)
noncomputable abbrev VK:=V→Hp→Prop
noncomputable abbrev TE:=St→Hp→VK→Prop
noncomputable abbrev TT:=St→Hp→(Bool→Hp→Prop)→Prop
noncomputable abbrev TA:=St→Hp→(List V→Hp→Prop)→Prop
structure Ends where
  nx:St→Hp→Prop
  rt:VK
  bk:St→Hp→Prop:=fun _ _=>False
  ct:St→Hp→Prop:=fun _ _=>False
noncomputable abbrev TS:=Ends→St→Hp→Prop
noncomputable def EP (X:Cx) (pins:List (Addr×Obj)) (σ:St) (Q:VK) (u:Value) (s':Shared):Prop:=∃ v H',Inv X pins σ H' s'∧RelV v u∧Q v H'
noncomputable def TP (X:Cx) (pins:List (Addr×Obj)) (σ:St) (Q:Bool→Hp→Prop) (b:Bool) (s':Shared):Prop:=∃ H',Inv X pins σ H' s'∧Q b H'
noncomputable def AP (X:Cx) (pins:List (Addr×Obj)) (σ:St) (Q:List V→Hp→Prop) (us:List Value) (s':Shared):Prop:=∃ vs H',Inv X pins σ H' s'∧Vals vs us∧Q vs H'
noncomputable def SP (X:Cx) (pins:List (Addr×Obj)) (D:Ends) (f:Flow) (s':Shared):Prop:=
  match f with
  | .next=>∃ σ' H',Inv X pins σ' H' s'∧D.nx σ' H'
  | .brk=>∃ σ' H',Inv X pins σ' H' s'∧D.bk σ' H'
  | .cont=>∃ σ' H',Inv X pins σ' H' s'∧D.ct σ' H'
  | .ret u=>∃ v σ' H',Inv X pins σ' H' s'∧RelV v u∧D.rt v H'
noncomputable def PE (X:Cx) (e:Expr) (t:TE):Prop:=
  ∀ (pins:List (Addr×Obj)) (s:Shared) (σ:St) (H:Hp) (Q:VK),Inv X pins σ H s→t σ H Q→wpAny (model X.prog X.w) X.A (eval e X.env) (EP X pins σ Q) X.xe s
noncomputable def PT (X:Cx) (e:Expr) (t:TT):Prop:=
  ∀ (pins:List (Addr×Obj)) (s:Shared) (σ:St) (H:Hp) (Q:Bool→Hp→Prop),Inv X pins σ H s→t σ H Q→wpAny (model X.prog X.w) X.A (isTrue e X.env (eval e X.env)) (TP X pins σ Q) X.xe s
noncomputable def PW (X:Cx) (e:Expr) (t:TT):Prop:=
  ∀ (whole:Sem Value) (pins:List (Addr×Obj)) (s:Shared) (σ:St) (H:Hp) (Q:Bool→Hp→Prop),Inv X pins σ H s→t σ H Q→wpAny (model X.prog X.w) X.A (isTrue e X.env whole) (TP X pins σ Q) X.xe s
theorem PW.pt {X:Cx} {e:Expr} {t:TT} (h:PW X e t):PT X e t:=h _
noncomputable def PA (X:Cx) (es:List Expr) (t:TA):Prop:=
  ∀ (pos:Pos) (pins:List (Addr×Obj)) (s:Shared) (σ:St) (H:Hp) (Q:List V→Hp→Prop),Inv X pins σ H s→t σ H Q→wpAny (model X.prog X.w) X.A (spliced (backTo pos (starEach es X.env))) (AP X pins σ Q) X.xe s
noncomputable def PS (X:Cx) (st:Stmt) (t:TS):Prop:=
  ∀ (pins:List (Addr×Obj)) (s:Shared) (σ:St) (H:Hp) (D:Ends),Inv X pins σ H s→t D σ H→wpAny (model X.prog X.w) X.A (exec st X.env) (SP X pins D) X.xe s
noncomputable def PSs (X:Cx) (st:List Stmt) (t:TS):Prop:=
  ∀ (pins:List (Addr×Obj)) (s:Shared) (σ:St) (H:Hp) (D:Ends),Inv X pins σ H s→t D σ H→wpAny (model X.prog X.w) X.A (execs st X.env) (SP X pins D) X.xe s
theorem thn {α:Type} {t:Sem α} {Q Q':α→Shared→Prop} {M:Model} {A:Around} {E:Value→Shared→Prop} {s:Shared} (h:wpAny M A t Q E s) (hQ:∀ a s,Q a s→Q' a s):wpAny M A t Q' E s:=wpAny_mono h hQ fun _ _ x=>x
end L2
namespace L2
open PySem PySem.Spec PyProof.Rows
section
variable {X:Cx}
noncomputable def tVar (i:Nat):TE:=fun σ H Q=>∃ v,σ[i]?=some (some v)∧Q v H
noncomputable def tC (v:V):TE:=fun _ H Q=>Q v H
theorem pe_var {i:Nat} {x:Str} {pos:Pos} (hN:X.N[i]?=some x) (hv:Vis X.env.scope x) (hd:(x == ("__debug__" : Str))=false:=by decide) (hcd:(x == ("__classdict__" : Str))=false:=by decide):PE X (.Name x pos) (tVar i):=by
  intro pins s σ H Q I h
  obtain ⟨v,e,h⟩:=h
  obtain ⟨m,hn,hl⟩:=I.loc
  obtain ⟨u,r,l⟩:=hl i x v hN e hv
  have fin:EP X pins σ Q u s:=⟨v,H,I,r,h⟩
  rcases l with ⟨hk,hm⟩ | ⟨hk,c,hc,hcell⟩
  · exact wpAny_Name (wpAny_loadName_local I.ok.kind hk hn hm fin) hd
  · rcases hk with hk | hk
    · exact wpAny_Name (wpAny_loadName_cell I.ok.kind hk hc hcell fin) hd
    · exact wpAny_Name (wpAny_loadName_free I.ok.kind hk hc hcell fin hcd) hd
theorem pe_int {i j pos}:PE X (.Constant (.int i) j pos) (tC (.int i)):=fun _ _ _ H _ I h=>wpAny_Constant_int ⟨.int i,H,I.tok _,⟨_,rfl⟩,h⟩
theorem pe_bl {b j pos}:PE X (.Constant (.bool b) j pos) (tC (.bl b)):=fun _ _ _ H _ I h=>Constant_bool ⟨.bl b,H,I,rfl,h⟩
theorem pe_non {j pos}:PE X (.Constant .none j pos) (tC .non):=fun _ _ _ H _ I h=>Constant_none ⟨.non,H,I,rfl,h⟩
theorem pe_str {x j pos}:PE X (.Constant (.str x) j pos) (tC (.str x)):=fun _ _ _ H _ I h=>Calls.Constant_str ⟨.str x,H,I.tok _,⟨_,rfl⟩,h⟩
noncomputable def Gl (X:Cx) (x:Str):Prop:=X.env.kindOf x=some .globalImplicit
theorem ld_glob {E:Value→Shared→Prop} {pins:List (Addr×Obj)} {s:Shared} {σ:St} {H:Hp} {x:Str} {u:Value} {pos:Pos} {Q:Value→Shared→Prop} (I:Inv X pins σ H s) (hg:Gl X x) (hm:X.mg x=some u) (h:Q u s)
    (hd:(x == ("__debug__" : Str))=false:=by decide):wpAny (model X.prog X.w) X.A (eval (.Name x pos) X.env) Q E s:=
  Calls.Name_function_global I.ok.kind hg (Calls.loadGlobal_global (by rw [I.ok.glob]; exact I.mod.glob.keeps I.bk) hm h) hd
theorem ld_blt {E:Value→Shared→Prop} {pins:List (Addr×Obj)} {s:Shared} {σ:St} {H:Hp} {x:Str} {u:Value} {pos:Pos} {Q:Value→Shared→Prop} (I:Inv X pins σ H s) (hg:Gl X x) (hm:X.mg x=none) (hv:bootBuiltins x=some u) (h:Q u s)
    (hn:x ≠ "__name__" := by decide) (hd:(x == ("__debug__" : Str))=false:=by decide):wpAny (model X.prog X.w) X.A (eval (.Name x pos) X.env) Q E s:=by
  obtain ⟨mb,h1,h2⟩:=I.mod.blt
  exact Calls.Name_function_global I.ok.kind hg (Calls.loadGlobal_builtin (by rw [I.ok.glob]; exact I.mod.glob.keeps I.bk) hm (by rw [I.ok.blt]; exact h1.keeps I.bk) ((h2 x hn).trans hv) h) hd
theorem pe_glob {x:Str} {v:V} {u:Value} {pos:Pos} (hg:Gl X x) (hm:X.mg x=some u) (r:RelV v u) (hd:(x == ("__debug__" : Str))=false:=by decide):PE X (.Name x pos) (tC v):=
  fun _ _ _ H _ I h=>ld_glob I hg hm ⟨v,H,I,r,h⟩ hd
theorem pe_bltn {x:Str} {v:V} {u:Value} {pos:Pos} (hg:Gl X x) (hm:X.mg x=none) (hv:bootBuiltins x=some u) (r:RelV v u) (hn:x ≠ "__name__" := by decide) (hd:(x == ("__debug__" : Str))=false:=by decide):PE X (.Name x pos) (tC v):=
  fun _ _ _ H _ I h=>ld_blt I hg hm hv ⟨v,H,I,r,h⟩ hn hd
variable {a b:Expr} {ta tb:TE} {pos:Pos}
noncomputable def tB (t:TE):TT:=fun σ H Q=>t σ H fun x H1=>∃ c,x=.bl c∧Q c H1
theorem pt_val {e:Expr} {t:TE} (h:PE X e t) (he:∀ whole,isTrue e X.env whole=(do let v ← whole; standAt e.pos; holding [v] (truthy v)):=by intro _; rfl):PT X e (tB t):=by
  intro pins s σ H Q I hw
  refine isTrue_plain (thn (h pins s σ H _ I hw) fun v s1 ⟨x,H1,I1,r1,q1⟩=>?_) (he _)
  obtain ⟨d,rfl,q⟩:=q1
  cases r1
  exact wpAny_truthy_bool ⟨H1,I1,q⟩
variable {tA tB':TT} {rest:List Expr}
noncomputable def tAnd (t u:TT):TT:=fun σ H Q=>t σ H fun c H1=>if c=true then u σ H1 Q else Q false H1
noncomputable def tOr (t u:TT):TT:=fun σ H Q=>t σ H fun c H1=>if c=true then Q true H1 else u σ H1 Q
noncomputable def tNot (t:TT):TT:=fun σ H Q=>t σ H fun c H1=>Q (!c) H1
theorem pw_and1 (ha:PT X a tA):PW X (.BoolOp .And [a] pos) tA:=by
  intro wh pins s σ H Q I h
  refine isTrue_and (thn (ha pins s σ H Q I h) fun c s1 e=>?_)
  cases c with
  | true=>exact isTrue_and_nil e
  | false=>exact e
theorem pw_or1 (ha:PT X a tA):PW X (.BoolOp .Or [a] pos) tA:=by
  intro wh pins s σ H Q I h
  refine isTrue_or (thn (ha pins s σ H Q I h) fun c s1 e=>?_)
  cases c with
  | false=>exact isTrue_or_nil e
  | true=>exact e
theorem pw_and (ha:PT X a tA) (hb:PW X (.BoolOp .And (b::rest) pos) tB'):PW X (.BoolOp .And (a::b::rest) pos) (tAnd tA tB'):=by
  intro wh pins s σ H Q I h
  refine isTrue_and (thn (ha pins s σ H _ I h) fun c s1 ⟨H1,I1,q1⟩=>?_)
  cases c with
  | true=>exact hb wh pins s1 σ H1 Q I1 q1
  | false=>exact ⟨H1,I1,q1⟩
theorem pw_or (ha:PT X a tA) (hb:PW X (.BoolOp .Or (b::rest) pos) tB'):PW X (.BoolOp .Or (a::b::rest) pos) (tOr tA tB'):=by
  intro wh pins s σ H Q I h
  refine isTrue_or (thn (ha pins s σ H _ I h) fun c s1 ⟨H1,I1,q1⟩=>?_)
  cases c with
  | true=>exact ⟨H1,I1,q1⟩
  | false=>exact hb wh pins s1 σ H1 Q I1 q1
theorem pt_not (ha:PT X a tA):PT X (.UnaryOp .Not a pos) (tNot tA):=by
  intro pins s σ H Q I h
  exact isTrue_not (ha pins s σ H (fun c H1=>Q (!c) H1) I h)
noncomputable def tAndV (ta tb:TE):TE:=fun σ H Q=>ta σ H fun x H1=>∃ c,x=.bl c∧if c=true then tb σ H1 Q else Q (.bl false) H1
noncomputable def tNotV (ta:TE):TE:=fun σ H Q=>ta σ H fun x H1=>∃ c,x=.bl c∧Q (.bl (!c)) H1
theorem pe_one {op} {t:TE} (h:PE X a t):PE X (.BoolOp op [a] pos) t:=fun pins s σ H Q I hw=>BoolOp_one (h pins s σ H Q I hw)
theorem pe_and (ha:PE X a ta) (hb:PE X (.BoolOp .And (b::rest) pos) tb):PE X (.BoolOp .And (a::b::rest) pos) (tAndV ta tb):=by
  intro pins s σ H Q I h
  refine BoolOp_and (thn (ha pins s σ H _ I h) fun v s1 ⟨x,H1,I1,r1,q1⟩=>?_)
  obtain ⟨c,rfl,q1⟩:=q1
  cases r1
  refine wpAny_truthy_bool ?_
  cases c with
  | true=>exact hb pins s1 σ H1 Q I1 q1
  | false=>exact ⟨.bl false,H1,I1,rfl,q1⟩
theorem pe_not (ha:PE X a ta):PE X (.UnaryOp .Not a pos) (tNotV ta):=by
  intro pins s σ H Q I h
  refine UnaryOp_ (thn (ha pins s σ H _ I h) fun v s1 ⟨x,H1,I1,r1,q1⟩=>?_)
  obtain ⟨c,rfl,q1⟩:=q1
  cases r1
  exact not_of (wpAny_truthy_bool ⟨.bl (!c),H1,I1,rfl,q1⟩)
end
end L2
namespace L2
open PySem PySem.Spec PyProof.Rows
noncomputable def SqL (K:PySem.W.Frag) (H:Hp) (a:Addr) (xs:List V):Prop:=
  Rd H a (.lst xs) ∨
    ∃ (o:Obj) (its:Array Value) (n:Nat),K.lookup a=some o∧o.cls=.type "list" ∧ o.dict=none∧o.data=.seq its n∧its.size≤sizeLine∧Vals xs its.toList
noncomputable def SqT (K:PySem.W.Frag) (H:Hp) (a:Addr) (xs:List V):Prop:=
  Rd H a (.tup xs) ∨
    ∃ (o:Obj) (its:Array Value) (n:Nat),K.lookup a=some o∧o.cls=.type "tuple" ∧ o.data=.seq its n∧its.size≤sizeLine∧Vals xs its.toList
noncomputable def absV:Value→Option V
  | .none=>some .non
  | .bool b=>some (.bl b)
  | .int i _=>some (.int i)
  | .str x _=>some (.str x)
  | .bytes b _=>some (.byt b)
  | .float b _=>some (.flt b)
  | .ref a=>some (.ref a)
  | .type n=>some (.ty n)
  | _=>none
theorem RelV.abs {x:V} {u:Value} (r:RelV x u):absV u=some x:=by
  cases x with
  | non=>cases r; rfl
  | bl _=>cases r; rfl
  | int _=>obtain ⟨t,rfl⟩:=r; rfl
  | str _=>obtain ⟨t,rfl⟩:=r; rfl
  | byt _=>obtain ⟨t,rfl⟩:=r; rfl
  | flt _=>obtain ⟨t,rfl⟩:=r; rfl
  | ref _=>cases r; rfl
  | ty _=>cases r; rfl
theorem RelV.inj {x y:V} {u:Value} (r:RelV x u) (q:RelV y u):x=y:=Option.some.inj (r.abs.symm.trans q.abs)
theorem Vals.inj:∀ {xs ys:List V} {us:List Value},Vals xs us→Vals ys us→xs=ys
  | _,_,_,.nil,.nil=>rfl
  | _,_,_,.cons r t,.cons r' t'=>by rw [r.inj r',Vals.inj t t']
section
variable {X:Cx} {pins:List (Addr×Obj)} {σ:St} {H:Hp} {s:Shared} {a:Addr} {xs ys:List V}
theorem SqL.of {K:PySem.W.Frag} (h:H a=some (.lst xs)):SqL K H a xs:=.inl (.inl h)
theorem SqT.of {K:PySem.W.Frag} (h:H a=some (.tup xs)):SqT K H a xs:=.inl (.inl h)
theorem Inv.list (I:Inv X pins σ H s) (h:SqL X.K H a xs):∃ its:List Value,Vals xs its∧PlainL s.heap a its.toArray∧xs.length≤sizeLine:=by
  rcases h with h | ⟨o,its,n,hk,hc,hd,hs,hz,r⟩
  · obtain ⟨z,its,n,r,e⟩:=h.ok I.hok
    exact ⟨its,r,⟨_,n,e,rfl,rfl,rfl⟩,z⟩
  · refine ⟨its.toList,r,⟨o,n,I.kIn a o hk,hc,hd,by simpa using hs⟩,?_⟩
    have e:=r.length
    simp only [Array.length_toList] at e
    omega
theorem Inv.tuple (I:Inv X pins σ H s) (h:SqT X.K H a xs):∃ its:List Value,Vals xs its∧IsTup s.heap a its.toArray∧xs.length≤sizeLine:=by
  rcases h with h | ⟨o,its,n,hk,hc,hs,hz,r⟩
  · obtain ⟨z,its,r,p⟩:=h.ok I.hok
    exact ⟨its,r,p,z⟩
  · refine ⟨its.toList,r,⟨o,I.kIn a o hk,hc,n,by simpa using hs⟩,?_⟩
    have e:=r.length
    simp only [Array.length_toList] at e
    omega
theorem Inv.list_inj (I:Inv X pins σ H s) (h:SqL X.K H a xs) (h':SqL X.K H a ys):xs=ys:=by
  obtain ⟨its,r,⟨o,n,e,_,_,d⟩,_⟩:=I.list h
  obtain ⟨its',r',⟨o',n',e',_,_,d'⟩,_⟩:=I.list h'
  rw [e] at e'; cases e'
  rw [d] at d'
  injection d' with d1 _
  have:its=its':=by simpa using congrArg Array.toList d1
  subst this
  exact r.inj r'
theorem Inv.tuple_inj (I:Inv X pins σ H s) (h:SqT X.K H a xs) (h':SqT X.K H a ys):xs=ys:=by
  obtain ⟨its,r,⟨o,e,_,n,d⟩,_⟩:=I.tuple h
  obtain ⟨its',r',⟨o',e',_,n',d'⟩,_⟩:=I.tuple h'
  rw [e] at e'; cases e'
  rw [d] at d'
  injection d' with d1 _
  have:its=its':=by simpa using congrArg Array.toList d1
  subst this
  exact r.inj r'
end
noncomputable abbrev Cx.wish (X:Cx) (E:Value→Shared→Prop):Cx:={ X with xe:=E }
noncomputable abbrev Cx.nox (X:Cx):Cx:=X.wish fun _ _=>False
theorem Cx.Ok.wish {X:Cx} (ok:X.Ok) (E:Value→Shared→Prop):(X.wish E).Ok:=
  ⟨ok.mod,ok.kind,ok.glob,ok.blt,ok.above,ok.inj,ok.has,ok.cab,ok.hd,ok.frames,ok.stk,ok.exf,ok.bs,ok.bsz,ok.noex,ok.exfs,ok.funs,ok.frf⟩
theorem Cx.Ok.unwish {X:Cx} {E:Value→Shared→Prop} (ok:(X.wish E).Ok):X.Ok:=
  ⟨ok.mod,ok.kind,ok.glob,ok.blt,ok.above,ok.inj,ok.has,ok.cab,ok.hd,ok.frames,ok.stk,ok.exf,ok.bs,ok.bsz,ok.noex,ok.exfs,ok.funs,ok.frf⟩
section
variable {X:Cx} {pins:List (Addr×Obj)} {σ:St} {H:Hp} {s:Shared} {E:Value→Shared→Prop}
theorem Inv.wish (I:Inv X pins σ H s) (E:Value→Shared→Prop):Inv (X.wish E) pins σ H s:=⟨I.ok.wish E,I.os,I.bare,I.base,I.loc,I.cell,I.free,I.freeC,I.pin,I.hok,I.len⟩
theorem Inv.unwish (I:Inv (X.wish E) pins σ H s):Inv X pins σ H s:=⟨I.ok.unwish,I.os,I.bare,I.base,I.loc,I.cell,I.free,I.freeC,I.pin,I.hok,I.len⟩
theorem SP.unwish {D:Ends} {f:Flow} {s':Shared} (h:SP (X.wish E) pins D f s'):SP X pins D f s':=by
  cases f with
  | next=>obtain ⟨σ',H',I,q⟩:=h; exact ⟨σ',H',I.unwish,q⟩
  | brk=>obtain ⟨σ',H',I,q⟩:=h; exact ⟨σ',H',I.unwish,q⟩
  | cont=>obtain ⟨σ',H',I,q⟩:=h; exact ⟨σ',H',I.unwish,q⟩
  | ret u=>obtain ⟨v,σ',H',I,r,q⟩:=h; exact ⟨v,σ',H',I.unwish,r,q⟩
theorem PSs.nox {st:List Stmt} {t:TS} (h:PSs X.nox st t):PSs X st t:=fun pins s σ H D I hw=>
  wpAny_mono (h pins s σ H D (I.wish _) hw) (fun _ _ q=>q.unwish) fun _ _ z=>False.elim z
end
section
variable {X:Cx} {st:Stmt} {rest:List Stmt} {t u:TS} {e:Expr} {te:TE} {pos:Pos}
noncomputable def tNext:TS:=fun D σ H=>D.nx σ H
noncomputable def tSeq (t u:TS):TS:=fun D σ H=>t { D with nx:=u D } σ H
theorem pss_nil:PSs X [] tNext:=fun _ _ σ H _ I h=>wpAny_execs_nil ⟨σ,H,I,h⟩
theorem pss_cons (h1:PS X st t) (h2:PSs X rest u):PSs X (st::rest) (tSeq t u):=by
  intro pins s σ H D I h
  refine wpAny_execs_cons (thn (h1 pins s σ H { D with nx:=u D } I h) fun f s1 q=>?_)
  cases f with
  | next=>
    obtain ⟨σ',H',I',q⟩:=q
    exact h2 pins s1 σ' H' D I' q
  | ret v=>exact q
  | brk=>exact q
  | cont=>exact q
theorem pss_one (h1:PS X st t):PSs X [st] t:=by
  intro pins s σ H D I h
  refine wpAny_execs_cons (thn (h1 pins s σ H D I h) fun f s1 q=>?_)
  cases f with
  | next=>exact wpAny_execs_nil q
  | ret v=>exact q
  | brk=>exact q
  | cont=>exact q
theorem Inv.quiet {pins:List (Addr×Obj)} {σ:St} {H:Hp} {s:Shared} (I:Inv X pins σ H s):interactive X.env=false:=by simp [interactive,I.ok.kind]
noncomputable def tDrop (te:TE):TS:=fun D σ H=>te σ H fun _ H1=>D.nx σ H1
theorem ps_expr (he:PE X e te) (hs:swapsWith e none pos.line X.env=pure false:=by rfl):PS X (.Expr e pos) (tDrop te):=by
  intro pins s σ H D I h
  exact wpAny_Expr_any (thn (he pins s σ H _ I h) fun v s1 ⟨x,H1,I1,r1,q1⟩=>⟨σ,H1,I1,q1⟩) I.quiet hs
noncomputable def tRet (te:TE):TS:=fun D σ H=>te σ H D.rt
theorem ps_ret (he:PE X e te):PS X (.Return (some e) pos) (tRet te):=by
  intro pins s σ H D I h
  exact wpAny_Return_some (thn (he pins s σ H _ I h) fun v s1 ⟨x,H1,I1,r1,q1⟩=>⟨x,σ,H1,I1,r1,q1⟩)
noncomputable def tIfS (c:TT) (t u:TS):TS:=fun D σ H=>c σ H fun b H1=>if b=true then t D σ H1 else u D σ H1
theorem ps_if {c:Expr} {a b:List Stmt} {tc:TT} (hc:PT X c tc) (ha:PSs X a t) (hb:PSs X b u):PS X (.If c a b pos) (tIfS tc t u):=by
  intro pins s σ H D I h
  refine wpAny_If (thn (hc pins s σ H _ I h) fun d s1 ⟨H1,I1,q1⟩=>?_)
  cases d with
  | true=>exact ha pins s1 σ H1 D I1 q1
  | false=>exact hb pins s1 σ H1 D I1 q1
noncomputable def tNever:TS:=fun _ _ _=>False
theorem pss_never {sts:List Stmt}:PSs X sts tNever:=fun _ _ _ _ _ _ h=>h.elim
end
noncomputable abbrev TG:=V→St→Hp→(St→Hp→Prop)→Prop
noncomputable def PG (X:Cx) (target:Expr) (t:TG):Prop:=
  ∀ (pins:List (Addr×Obj)) (s:Shared) (σ:St) (H:Hp) (v:V) (u:Value) (Q:St→Hp→Prop),Inv X pins σ H s→RelV v u→t v σ H Q→
    wpAny (model X.prog X.w) X.A (assign target X.env u) (fun _ s'=>∃ σ' H',Inv X pins σ' H' s'∧Q σ' H') X.xe s
noncomputable abbrev TIp:=V→V→Hp→VK→Prop
noncomputable def PIp (X:Cx) (op:Operator) (t:TIp):Prop:=
  ∀ (pins:List (Addr×Obj)) (s:Shared) (σ:St) (H:Hp) (x y:V) (v u:Value) (Q:VK),Inv X pins σ H s→RelV x v→RelV y u→t x y H Q→
    wpAny (model X.prog X.w) X.A (inplaceOp op v u) (EP X pins σ Q) X.xe s
section
variable {X:Cx} {pos:Pos}
noncomputable def gName (i:Nat):TG:=fun v σ H Q=>Q (σ.set i (some v)) H
theorem pg_name {i:Nat} {x:Str} (hN:X.N.Nodup) (hi:X.N[i]?=some x) (hx:Loc X.env.scope x) (hf:X.fn x=true∨X.env.scope.names.lookup x=some .local:=by first | exact .inl rfl | exact .inr rfl | assumption):PG X (.Name x pos) (gName i):=by
  intro pins s σ H v u Q I r h
  exact wpAny_assign_Name (store_ok I hN hi hx r (fun s' I'=>⟨_,H,I',h⟩) hf)
noncomputable def tAsg (te:TE) (g:TG):TS:=fun D σ H=>te σ H fun x H1=>g x σ H1 D.nx
theorem ps_set {i:Nat} {x:Str} {e:Expr} {te:TE} {pos':Pos} (hN:X.N.Nodup) (hi:X.N[i]?=some x) (hx:Loc X.env.scope x) (he:PE X e te) (hs:swapsWith e (some (.Name x pos')) pos.line X.env=pure false:=by rfl) (hf:X.fn x=true∨X.env.scope.names.lookup x=some .local:=by first | exact .inl rfl | exact .inr rfl | assumption) :
    PS X (.Assign [.Name x pos'] e pos) (tAsg te (gName i)):=by
  intro pins s σ H D I h
  refine wpAny_Assign_Name (thn (he pins s σ H _ I h) fun v s1 ⟨y,H1,I1,r1,q1⟩=>?_) hs
  exact store_ok I1 hN hi hx r1 (fun s2 I2=>⟨_,H1,I2,q1⟩) hf
noncomputable def tAug (i:Nat) (te:TE) (ti:TIp):TS:=fun D σ H=>∃ x,σ[i]?=some (some x)∧te σ H fun y H1=>ti x y H1 fun z H2=>D.nx (σ.set i (some z)) H2
theorem ps_aug {i:Nat} {x:Str} {e:Expr} {te:TE} {op:Operator} {ti:TIp} {pos':Pos} (hN:X.N.Nodup) (hi:X.N[i]?=some x) (hx:Loc X.env.scope x) (he:PE X e te) (ho:PIp X op ti) (hf:X.fn x=true∨X.env.scope.names.lookup x=some .local:=by first | exact .inl rfl | exact .inr rfl | assumption) :
    PS X (.AugAssign (.Name x pos') op e pos) (tAug i te ti):=by
  intro pins s σ H D I h
  obtain ⟨v,e1,h⟩:=h
  obtain ⟨m,hn,hl⟩:=I.loc
  have vis:Vis X.env.scope x:=by rcases hx with k | k; exact .inl k; exact .inr (.inl k)
  obtain ⟨u,r,l⟩:=hl i x v hi e1 vis
  refine wpAny_AugAssign_Name ?_
  have go:wpAny (model X.prog X.w) X.A (eval e X.env) (fun w s₂=>wpAny (model X.prog X.w) X.A (inplaceOp op u w) (fun r s₃=>wpAny (model X.prog X.w) X.A (storeName X.env x r) (fun _=>SP X pins D .next) X.xe s₃) X.xe s₂) X.xe s:=by
    refine thn (he pins s σ H _ I h) fun w s1 ⟨y,H1,I1,r1,q1⟩=>?_
    refine thn (ho pins s1 σ H1 v y u w _ I1 r r1 q1) fun z s2 ⟨zv,H2,I2,r2,q2⟩=>?_
    exact store_ok I2 hN hi hx r2 (fun s3 I3=>⟨_,H2,I3,q2⟩) hf
  rcases l with ⟨hk,hm⟩ | ⟨hk,c,hc,hcell⟩
  · exact wpAny_loadName_local I.ok.kind hk hn hm go
  · rcases hk with hk | hk
    · exact wpAny_loadName_cell I.ok.kind hk hc hcell go
    · rcases hx with k | k
      · have:X.env.scope.names.lookup x=some .free:=hk
        rw [k] at this; cases this
      · have:X.env.scope.names.lookup x=some .free:=hk
        rw [k] at this; cases this
noncomputable def ipI (f:Int→Int→Int):TIp:=fun x y H Q=>∃ i j,x=.int i∧y=.int j∧Q (.int (f i j)) H
theorem ip_add:PIp X .Add (ipI fun i j=>i+j):=by
  intro pins s σ H x y v u Q I r1 r2 h
  obtain ⟨i,j,e1,e2,q⟩:=h
  subst e1; subst e2
  obtain ⟨t,rfl⟩:=r1
  obtain ⟨t',rfl⟩:=r2
  exact iadd_int ⟨.int _,H,I.tok _,⟨_,rfl⟩,q⟩
end
section
variable {X:Cx} {pos:Pos}
end
structure It where
  go:Nat→Hp→Prop
  yld:Nat→Hp→V→Hp→Prop
  stop:Nat→Hp→Prop
noncomputable def FpOk (X:Cx) (pins:List (Addr×Obj)) (H:Hp) (b:Addr):Prop:=
  H b=none∧b≠X.env.locals∧b ∉ X.fs∧(b∈X.ex∨X.s₀.heap.objs.size≤b)∧(∀ x c,X.env.cells.lookup x=some c→c≠b)∧∀ p∈X.pn++pins,p.1≠b
theorem Inv.fpOk {X:Cx} {pins:List (Addr×Obj)} {σ:St} {H H':Hp} {s:Shared} {b:Addr} (I:Inv X pins σ H s) (hb:s.heap.objs.size≤b) (hn:H' b=none):FpOk X pins H' b:=by
  refine ⟨hn,Nat.ne_of_gt (Nat.lt_of_lt_of_le I.lt hb),I.nofs hb,.inr (Nat.le_trans I.sz hb),fun x c e z=>?_,fun p hp z=>?_⟩
  · obtain ⟨v,q⟩:=I.cell x c e
    exact absurd (Nat.lt_of_lt_of_le q.lt (by rw [z]; exact hb)) (Nat.lt_irrefl _)
  · exact absurd (Nat.lt_of_lt_of_le (Heap.lt_size (I.pin p hp).1) (by rw [z]; exact hb)) (Nat.lt_irrefl _)
structure Turn (P:Program) (w:World) (K:PySem.W.Frag) (tg:Expr) (J:It) (fp:List Addr) (it:Addr) (tn:Nat→Heap→Prop):Prop where
  mem:it∈fp
  obj:∀ i h,tn i h→∀ b∈fp,∃ o,h.get? b=some o∧∀ v,o.data≠.cell v
  keep:∀ i h h',tn i h→(∀ b∈fp,∀ o,h.get? b=some o→h'.get? b=some o)→tn i h'
  item:∀ (X:Cx),X.prog=P→X.w=w→X.K=K→X.calm=true→∀ (i:Nat) (pins:List (Addr×Obj)) (s:Shared) (σ:St) (H:Hp) (E:Value→Shared→Prop),Inv X pins σ H s→(∀ b∈fp,FpOk X pins H b)→tn i s.heap→J.go i H→
    wpAny (model P w) X.A (pyNext (.ref it)) (fun r s1=>∃ u,r=some u∧
      wpAny (model P w) X.A (letOwnedTupleGo tg (.ref it) u) (fun _ s2=>∃ x H',Inv X pins σ H' s2∧RelV x u∧J.yld i H x H'∧tn (i+1) s2.heap∧∀ b∈fp,H' b=none) E s1) E s
  done:∀ (X:Cx),X.prog=P→X.w=w→X.K=K→X.calm=true→∀ (i:Nat) (pins:List (Addr×Obj)) (s:Shared) (σ:St) (H:Hp) (E:Value→Shared→Prop),Inv X pins σ H s→(∀ b∈fp,FpOk X pins H b)→tn i s.heap→J.stop i H→
    wpAny (model P w) X.A (pyNext (.ref it)) (fun r s1=>r=none∧Inv X pins σ H s1) E s
  self:∀ (A:Around) (i:Nat) (s:Shared) (Q:Value→Shared→Prop) (E:Value→Shared→Prop),tn i s.heap→Q (.ref it) s→wpAny (model P w) A (pyIter (.ref it)) Q E s
noncomputable abbrev TI:=St→Hp→(It→Hp→Prop)→Prop
noncomputable def PIE (X:Cx) (pins:List (Addr×Obj)) (σ:St) (tg:Expr) (R:It→Hp→Prop) (itv:Value) (s2:Shared):Prop:=
  ∃ (it:Addr) (fp:List Addr) (tn:Nat→Heap→Prop) (J:It) (H':Hp),itv=.ref it∧Inv X pins σ H' s2∧Turn X.prog X.w X.K tg J fp it tn∧tn 0 s2.heap∧(∀ b∈fp,FpOk X pins H' b)∧R J H'
noncomputable def PI (X:Cx) (tg iter:Expr) (wi:TI):Prop:=
  ∀ (pins:List (Addr×Obj)) (s:Shared) (σ:St) (H:Hp) (R:It→Hp→Prop),Inv X pins σ H s→wi σ H R→
    wpAny (model X.prog X.w) X.A (eval iter X.env) (fun v s1=>wpAny (model X.prog X.w) X.A (pyIter v) (PIE X pins σ tg R) X.xe s1) X.xe s
theorem go_of {M:Model} {A:Around} {E:Value→Shared→Prop} {s:Shared} {tg:Expr} {it:Addr} {u:Value} {o:Obj} {n:String} {vs:Array Value} {Q:Unit→Shared→Prop} (ho:s.heap.get? it=some o) (hc:o.cls=.type n) (hd:o.data=.fields vs)
    (hn:["enumerate", "zip", "dict_itemiterator", "dict_reverseitemiterator", "odict_iterator", "itertools.zip_longest", "itertools.pairwise"].contains n=false) (hQ:Q () s):wpAny M A (letOwnedTupleGo tg (.ref it) u) Q E s:=by
  unfold letOwnedTupleGo
  cases tg<;>first
    | exact wpAny_pure hQ
    | (cases u<;>first
        | exact wpAny_pure hQ
        | (refine wpAny_bind (wpAny_load ho ?_)
           rw [hc,hd]
           show wpAny M A (if (["enumerate", "zip", "dict_itemiterator", "dict_reverseitemiterator", "odict_iterator", "itertools.zip_longest", "itertools.pairwise"].contains n&&vs[0]? == some (rawInt _))=true then _ else _) Q E s
           rw [if_neg (by intro h; rw [hn,Bool.false_and] at h; cases h)]
           exact wpAny_pure hQ))
noncomputable def Itl (K:PySem.W.Frag) (a:Addr):It:=
  ⟨fun i H=>∃ xs x,SqL K H a xs∧xs[i]?=some x,fun i H x H'=>H'=H∧∀ xs,SqL K H a xs→xs[i]?=some x,fun i H=>∃ xs,SqL K H a xs∧xs.length≤i⟩
noncomputable def Itt (K:PySem.W.Frag) (a:Addr):It:=
  ⟨fun i H=>∃ xs x,SqT K H a xs∧xs[i]?=some x,fun i H x H'=>H'=H∧∀ xs,SqT K H a xs→xs[i]?=some x,fun i H=>∃ xs,SqT K H a xs∧xs.length≤i⟩
noncomputable def Itr (lo:Int) (n:Nat):It:=⟨fun i _=>i<n,fun i H x H'=>H'=H∧x=.int (lo+i),fun i _=>n≤i⟩
theorem turn_list {P:Program} {w:World} {K:PySem.W.Frag} {tg:Expr} (a it:Addr):Turn P w K tg (Itl K a) [it] it (fun i h=>h.IsListIter it a i) where
  mem:=by simp
  obj:=fun i h st b hb=>by
    have e:b=it:=by simpa using hb
    subst e
    obtain ⟨o,e,c,d⟩:=st
    exact ⟨o,e,fun v z=>by rw [d] at z; cases z⟩
  keep:=fun i h h' st k=>st.at fun o e=>k it (by simp) o e
  item:=by
    intro X hP hw hK hc i pins s σ H E I hf st hg
    subst hP hw hK
    obtain ⟨xs,x,hq,hx⟩:=hg
    obtain ⟨its,rv,p,hz⟩:=I.list hq
    obtain ⟨u,hu,ru⟩:=rv.get hx
    obtain ⟨f0,f1,f2,f3,f4,f5⟩:=hf it (by simp)
    refine wpAny_pyNext_list_item st p.isList (x:=u) (by simpa using hu) fun h' st' sb=>?_
    have I1:Inv X pins σ H { s with heap:=h' }:=I.turned (t':=s.toks) (fun b o hb e=>(sb.2 b hb).trans e) f0 f1 f3 f4 f5
    obtain ⟨o,e,c,d⟩:=id st'
    exact ⟨u,rfl,go_of (s:={ s with heap:=h' }) e c d (by decide) ⟨x,H,I1,ru,⟨rfl,fun ys hy=>by rw [I.list_inj hy hq]; exact hx⟩,st',fun b hb=>(hf b hb).1⟩⟩
  done:=by
    intro X hP hw hK hc i pins s σ H E I hf st hg
    subst hP hw hK
    obtain ⟨xs,hq,hx⟩:=hg
    obtain ⟨its,rv,p,hz⟩:=I.list hq
    obtain ⟨f0,f1,f2,f3,f4,f5⟩:=hf it (by simp)
    have hl:=rv.length
    exact wpAny_pyNext_list_end (I.ok.hd hc) st p.isList (by simp; omega) fun h' eb=>⟨rfl,I.turned (t':=s.toks) (fun b o hb e=>eb b o hb e) f0 f1 f3 f4 f5⟩
  self:=fun _ _ _ _ _ st h=>wpAny_pyIter_listiter st h
theorem turn_tuple {P:Program} {w:World} {K:PySem.W.Frag} {tg:Expr} (a it:Addr):Turn P w K tg (Itt K a) [it] it (fun i h=>h.IsTupleIter it a i) where
  mem:=by simp
  obj:=fun i h st b hb=>by
    have e:b=it:=by simpa using hb
    subst e
    obtain ⟨o,e,c,d⟩:=st
    exact ⟨o,e,fun v z=>by rw [d] at z; cases z⟩
  keep:=fun i h h' st k=>st.at fun o e=>k it (by simp) o e
  item:=by
    intro X hP hw hK hc i pins s σ H E I hf st hg
    subst hP hw hK
    obtain ⟨xs,x,hq,hx⟩:=hg
    obtain ⟨its,rv,p,hz⟩:=I.tuple hq
    obtain ⟨u,hu,ru⟩:=rv.get hx
    obtain ⟨f0,f1,f2,f3,f4,f5⟩:=hf it (by simp)
    refine wpAny_pyNext_tuple_item st (show s.heap.IsTuple a its.toArray from p) (x:=u) (by simpa using hu) fun h' st' sb=>?_
    have I1:Inv X pins σ H { s with heap:=h' }:=I.turned (t':=s.toks) (fun b o hb e=>(sb.2 b hb).trans e) f0 f1 f3 f4 f5
    obtain ⟨o,e,c,d⟩:=id st'
    exact ⟨u,rfl,go_of (s:={ s with heap:=h' }) e c d (by decide) ⟨x,H,I1,ru,⟨rfl,fun ys hy=>by rw [I.tuple_inj hy hq]; exact hx⟩,st',fun b hb=>(hf b hb).1⟩⟩
  done:=by
    intro X hP hw hK hc i pins s σ H E I hf st hg
    subst hP hw hK
    obtain ⟨xs,hq,hx⟩:=hg
    obtain ⟨its,rv,p,hz⟩:=I.tuple hq
    obtain ⟨f0,f1,f2,f3,f4,f5⟩:=hf it (by simp)
    have hl:=rv.length
    exact wpAny_pyNext_tuple_end (I.ok.hd hc) st (show s.heap.IsTuple a its.toArray from p) (by simp; omega) fun h' eb=>⟨rfl,I.turned (t':=s.toks) (fun b o hb e=>eb b o hb e) f0 f1 f3 f4 f5⟩
  self:=fun _ _ _ _ _ st h=>wpAny_pyIter_tupleiter st h
theorem turn_range {P:Program} {w:World} {K:PySem.W.Frag} {tg:Expr} (it:Addr) (lo:Int) (n:Nat):Turn P w K tg (Itr lo n) [it] it (fun i h=>IsRangeIter h it (lo+(i:Nat)*1) ((n:Int) - (i:Nat)) 1) where
  mem:=by simp
  obj:=fun i h st b hb=>by
    have e:b=it:=by simpa using hb
    subst e
    exact ⟨_,st,fun v z=>by
      have z':Data.fields _=Data.cell v:=z
      cases z'⟩
  keep:=fun i h h' st k=>k it (by simp) _ st
  item:=by
    intro X hP hw hK hc i pins s σ H E I hf st hg
    subst hP hw hK
    obtain ⟨f0,f1,f2,f3,f4,f5⟩:=hf it (by simp)
    have W:=Walks.range (prog:=X.prog) (w:=X.w) (I.ok.hd hc) it lo 1 n
    refine W.item i s _ _ hg st fun v h' tk hv st' kk=>?_
    obtain ⟨t,rfl⟩:=hv
    have I1:Inv X pins σ H { s with heap:=h',toks:=tk }:=I.turned (fun b o hb e=>kk b o (by simpa using hb) e) f0 f1 f3 f4 f5
    refine ⟨_,rfl,go_of (s:={ s with heap:=h',toks:=tk }) (n := "range_iterator") st' rfl rfl (by decide) ⟨.int (lo+i),H,I1,⟨t,?_⟩,⟨rfl,rfl⟩,st',fun b hb=>(hf b hb).1⟩⟩
    rw [Int.mul_one]
  done:=by
    intro X hP hw hK hc i pins s σ H E I hf st hg
    subst hP hw hK
    obtain ⟨f0,f1,f2,f3,f4,f5⟩:=hf it (by simp)
    exact wpAny_pyNext_range_end (I.ok.hd hc) st (by have:n≤i:=hg; omega) fun h' eb=>⟨rfl,I.turned (t':=s.toks) (fun b o hb e=>eb b o hb e) f0 f1 f3 f4 f5⟩
  self:=fun _ _ _ _ _ st h=>wpAny_pyIter_rangeiter st h
end L2
namespace L2
open PySem PySem.Spec PyProof.Rows
section
variable {X:Cx} {tg:Expr}
noncomputable def iList (K:PySem.W.Frag) (tl:TE):TI:=fun σ H R=>tl σ H fun x H1=>∃ a,x=.ref a∧(∃ xs,SqL K H1 a xs)∧R (Itl K a) H1
noncomputable def iTup (K:PySem.W.Frag) (tl:TE):TI:=fun σ H R=>tl σ H fun x H1=>∃ a,x=.ref a∧(∃ xs,SqT K H1 a xs)∧R (Itt K a) H1
theorem pi_list {l:Expr} {tl:TE} (hl:PE X l tl):PI X tg l (iList X.K tl):=by
  intro pins s σ H R I h
  refine thn (hl pins s σ H _ I h) fun v s1 ⟨x,H1,I1,r1,q1⟩=>?_
  obtain ⟨a,e,⟨xs,hq⟩,q⟩:=q1
  subst e
  cases r1
  obtain ⟨its,rv,p,hz⟩:=I1.list hq
  refine wpAny_pyIter_list p.isList ?_
  refine ⟨s1.heap.objs.size,[s1.heap.objs.size],_,_,H1,rfl,I1.kept (t':=s1.toks) fun b o e=>Heap.get?_push_of_some _ e,turn_list a _,⟨_,Heap.get?_push_size _ rfl,rfl,rfl⟩,fun b hb=>?_,q⟩
  have e:b=s1.heap.objs.size:=by simpa using hb
  subst e
  exact I1.fpOk (Nat.le_refl _) (I1.hok.fresh (Nat.le_refl _))
theorem pi_tup {l:Expr} {tl:TE} (hl:PE X l tl):PI X tg l (iTup X.K tl):=by
  intro pins s σ H R I h
  refine thn (hl pins s σ H _ I h) fun v s1 ⟨x,H1,I1,r1,q1⟩=>?_
  obtain ⟨a,e,⟨xs,hq⟩,q⟩:=q1
  subst e
  cases r1
  obtain ⟨its,rv,p,hz⟩:=I1.tuple hq
  refine wpAny_pyIter_tuple (show s1.heap.IsTuple a its.toArray from p) ?_
  refine ⟨s1.heap.objs.size,[s1.heap.objs.size],_,_,H1,rfl,I1.kept (t':=s1.toks) fun b o e=>Heap.get?_push_of_some _ e,turn_tuple a _,⟨_,Heap.get?_push_size _ rfl,rfl,rfl⟩,fun b hb=>?_,q⟩
  have e:b=s1.heap.objs.size:=by simpa using hb
  subst e
  exact I1.fpOk (Nat.le_refl _) (I1.hok.fresh (Nat.le_refl _))
theorem range_it {pins:List (Addr×Obj)} {σ:St} {H:Hp} {s:Shared} {R:It→Hp→Prop} {E:Value→Shared→Prop} {lo hi:Int} {t u v:Tok} {tk:Nat} (I:Inv X pins σ H s) (h1 : -(2 ^ 62)≤lo) (h2:lo<2 ^ 62) (h3 : -(2 ^ 62)≤hi) (h4:hi<2 ^ 62)
    (q:R (Itr lo (hi - lo).toNat) H):wpAny (model X.prog X.w) X.A (pyIter (.ref s.heap.objs.size)) (PIE X pins σ tg R) E { s with heap:=s.heap.push { cls:=.type "range",data:=.fields #[.int lo t,.int hi u,.int 1 v] },toks:=tk }:=by
  refine wpAny_pyIter_range (IsRange.new ..) (small_one h1 h2 h3 h4) ?_
  have I1:Inv X pins σ H { s with heap:=s.heap.push { cls:=.type "range",data:=.fields #[.int lo t,.int hi u,.int 1 v] },toks:=tk }:=I.kept fun b o e=>Heap.get?_push_of_some _ e
  refine ⟨(s.heap.push { cls:=.type "range",data:=.fields #[.int lo t,.int hi u,.int 1 v] }).objs.size,[(s.heap.push { cls:=.type "range",data:=.fields #[.int lo t,.int hi u,.int 1 v] }).objs.size],_,_,H,rfl,
    I1.kept (t':=tk) fun b o e=>Heap.get?_push_of_some _ e,turn_range _ lo (hi - lo).toNat,?_,fun b hb=>?_,q⟩
  · have e1:lo+((0:Nat):Int)*1=lo:=by simp
    have e2:(((hi - lo).toNat:Nat):Int) - ((0:Nat):Int)=Builtin.Range.rangeSize lo hi 1:=by rw [rangeSize_one]; split<;>omega
    show IsRangeIter _ _ (lo+((0:Nat):Int)*1) ((((hi - lo).toNat:Nat):Int) - ((0:Nat):Int)) 1
    rw [e1,e2]
    exact Heap.get?_push_size _ rfl
  · have e:b=(s.heap.push { cls:=.type "range",data:=.fields #[.int lo t,.int hi u,.int 1 v] }).objs.size:=by simpa using hb
    subst e
    exact I1.fpOk (Nat.le_refl _) (I1.hok.fresh (Nat.le_refl _))
noncomputable def iRng1 (ta:TA):TI:=fun σ H R=>ta σ H fun vs H1=>∃ j:Int,vs=[.int j] ∧ -(2 ^ 62)≤j∧j<2 ^ 62∧R (Itr 0 j.toNat) H1
theorem pi_range1 {a:Expr} {ta:TA} {p pos:Pos} (hg:Gl X "range") (hm:X.mg "range" = none) (ha:PA X [a] ta) (hs:starEach [a] X.env=[(false,eval a X.env)]:=by rfl):PI X tg (.Call (.Name "range" p) [a] [] pos) (iRng1 ta):=by
  intro pins s σ H R I h
  refine Call_ (ld_blt I hg hm boot_range (PyProof.Rows.callWith_type1 (thn (ha pos pins s σ H _ I h) fun us s1 ⟨vs,H1,I1,r1,q1⟩=>?_) hs rfl))
  obtain ⟨j,e,q1,q2,q⟩:=q1
  subst e
  cases r1 with
  | cons r rr=>
    cases rr
    obtain ⟨t,rfl⟩:=r
    exact call_range_1 (range_it I1 (by omega) (by omega) q1 q2 (by simpa using q))
noncomputable def tFor (wi:TI) (g:TG) (tb:TS):TS:=fun D σ H=>wi σ H fun J H1=>∃ W:Nat→Nat→St→Hp→Prop,(∃ m,W 0 m σ H1)∧∀ i m σ H,W i m σ H→
  (J.stop i H∧D.nx σ H)∨(J.go i H∧∃ N:St→Hp→Prop,(∀ σ' H',N σ' H'→∃ m',m'<m∧W (i+1) m' σ' H')∧∀ x H',J.yld i H x H'→g x σ H' fun σ2 H2=>tb { D with nx:=N,ct:=N,bk:=D.nx } σ2 H2)
noncomputable def pinsAt (fp:List Addr) (h:Heap):List (Addr×Obj):=fp.filterMap fun b=>(h.get? b).map fun o=>(b,o)
theorem mem_pinsAt {fp:List Addr} {h:Heap} {b:Addr} {o:Obj} (hb:b∈fp) (e:h.get? b=some o):(b,o)∈pinsAt fp h:=List.mem_filterMap.mpr ⟨b,hb,by rw [e]; rfl⟩
theorem of_pinsAt {fp:List Addr} {h:Heap} {p:Addr×Obj} (hp:p∈pinsAt fp h):p.1∈fp∧h.get? p.1=some p.2:=by
  obtain ⟨b,hb,e⟩:=List.mem_filterMap.mp hp
  cases q:h.get? b with
  | none=>rw [q] at e; cases e
  | some o=>
    rw [q] at e
    have e':(b,o)=p:=Option.some.inj e
    subst e'
    exact ⟨hb,q⟩
theorem Inv.pinned {pins:List (Addr×Obj)} {σ:St} {H:Hp} {s:Shared} {fp:List Addr} (I:Inv X pins σ H s) (hf:∀ b∈fp,FpOk X pins H b) (ho:∀ b∈fp,∃ o,s.heap.get? b=some o∧∀ v,o.data≠.cell v):Inv X (pins++pinsAt fp s.heap) σ H s:=
  I.pins_of fun p hp=>(List.mem_append.mp hp).elim (fun z=>I.pin p (List.mem_append_right _ z)) fun z=>by
    obtain ⟨hb,e⟩:=of_pinsAt z
    obtain ⟨f0,f1,f2,_⟩:=hf p.1 hb
    obtain ⟨o,e',d⟩:=ho p.1 hb
    rw [e] at e'; cases e'
    exact ⟨e,f0,f1,f2,d⟩
theorem Inv.unpinned {pins pl:List (Addr×Obj)} {σ:St} {H:Hp} {s:Shared} (I:Inv X (pins++pl) σ H s):Inv X pins σ H s:=I.pins_of fun p hp=>I.pin p (List.mem_append_right _ (List.mem_append_left _ hp))
theorem ps_for {iter:Expr} {body:List Stmt} {wi:TI} {g:TG} {tb:TS} {pos:Pos} (hp:PassesOwn (model X.prog X.w) X.A X.env X.xe) (hc:X.calm=true) (hi:PI X tg iter wi) (hg:PG X tg g) (hb:PSs X body tb)
    (hs:∀ x,foldedSetIterable iter X.env x=pure x:=by intro _; rfl):PS X (.For tg iter body [] pos) (tFor wi g tb):=by
  intro pins s σ H D I h
  refine wpAny_For (thn (hi pins s σ H _ I h) fun v s1 h1=>thn h1 fun itv s2 h2=>?_) hs
  obtain ⟨it,fp,tn,J,H2,e,I2,T,st2,f2,W,⟨m0,w0⟩,turn⟩:=h2
  subst e
  have stat:∀ {H':Hp},(∀ b∈fp,H' b=none)→∀ b∈fp,FpOk X pins H' b:=fun hn b hb=>⟨hn b hb,(f2 b hb).2⟩
  refine codeAny_forLoop_any (fun n s'=>∃ i σ' H',Inv X pins σ' H' s'∧tn i s'.heap∧(∀ b∈fp,H' b=none)∧W i n σ' H') ?_ m0 ⟨0,σ,H2,I2,st2,fun b hb=>(f2 b hb).1,w0⟩
  rintro n s3 ⟨i,σ3,H3,I3,st3,fr3,w3⟩
  rcases turn i n σ3 H3 w3 with ⟨stop,qn⟩ | ⟨go,N,hN,step⟩
  · refine wpAny_passesOwn hp (thn (T.done X rfl rfl rfl hc i pins s3 σ3 H3 X.xe I3 (stat fr3) st3 stop) fun r s4 ⟨hr,I4⟩=>?_)
    subst hr
    exact wpAny_execs_nil ⟨σ3,H3,I4,qn⟩
  · refine wpAny_passesOwn hp (thn (T.item X rfl rfl rfl hc i pins s3 σ3 H3 X.xe I3 (stat fr3) st3 go) fun r s4 ⟨u,hr,h4⟩=>?_)
    subst hr
    refine wpAny_passesOwn hp (thn h4 fun _ s5 ⟨x,H5,I5,r5,y5,st5,fr5⟩=>?_)
    have I5':=I5.pinned (stat fr5) (T.obj _ _ st5)
    refine wpAny_passesOwn hp (thn (hg _ s5 σ3 H5 x u _ I5' r5 (step x H5 y5)) fun _ s6 ⟨σ6,H6,I6,q6⟩=>?_)
    refine wpAny_passesOwn hp (thn (hb _ s6 σ6 H6 _ I6 q6) fun f s7 q7=>?_)
    have again:∀ {σ7:St} {H7:Hp},Inv X (pins++pinsAt fp s5.heap) σ7 H7 s7→N σ7 H7→∃ m,m<n∧∃ i σ' H',Inv X pins σ' H' s7∧tn i s7.heap∧(∀ b∈fp,H' b=none)∧W i m σ' H':=fun {σ7 H7} I7 n7=>by
      obtain ⟨m',hm,w7⟩:=hN σ7 H7 n7
      refine ⟨m',hm,i+1,σ7,H7,I7.unpinned,T.keep _ _ _ st5 fun b hb o e=>(I7.pin (b,o) (List.mem_append_right _ (List.mem_append_right _ (mem_pinsAt hb e)))).1,fun b hb=>?_,w7⟩
      obtain ⟨o,e,d⟩:=T.obj _ _ st5 b hb
      exact (I7.pin (b,o) (List.mem_append_right _ (List.mem_append_right _ (mem_pinsAt hb e)))).2.1
    cases f with
    | next=>obtain ⟨σ7,H7,I7,n7⟩:=q7; exact again I7 n7
    | cont=>obtain ⟨σ7,H7,I7,n7⟩:=q7; exact again I7 n7
    | brk=>obtain ⟨σ7,H7,I7,q7⟩:=q7; exact ⟨σ7,H7,I7.unpinned,q7⟩
    | ret v=>obtain ⟨x7,σ7,H7,I7,r7,q7⟩:=q7; exact ⟨x7,σ7,H7,I7.unpinned,r7,q7⟩
end
end L2
namespace L2
open PySem PySem.Spec PyProof.Rows
noncomputable abbrev R2:=V→V→Hp→VK→Prop
noncomputable def OpR (X:Cx) (f:Value→Value→Sem Value) (r:R2):Prop:=
  ∀ (pins:List (Addr×Obj)) (s:Shared) (σ:St) (H:Hp) (x y:V) (v u:Value) (Q:VK),Inv X pins σ H s→RelV x v→RelV y u→r x y H Q→
    wpAny (model X.prog X.w) X.A (f v u) (EP X pins σ Q) X.xe s
noncomputable def UnR (X:Cx) (f:Value→Sem Value) (r:V→Hp→VK→Prop):Prop:=
  ∀ (pins:List (Addr×Obj)) (s:Shared) (σ:St) (H:Hp) (x:V) (v:Value) (Q:VK),Inv X pins σ H s→RelV x v→r x H Q→
    wpAny (model X.prog X.w) X.A (f v) (EP X pins σ Q) X.xe s
noncomputable def CallR (X:Cx) (f:Value) (r:List V→Hp→VK→Prop):Prop:=
  ∀ (pins:List (Addr×Obj)) (s:Shared) (σ:St) (H:Hp) (xs:List V) (us:List Value) (Q:VK),Inv X pins σ H s→Vals xs us→r xs H Q→
    wpAny (model X.prog X.w) X.A (call f us) (EP X pins σ Q) X.xe s
noncomputable def tOp (r:R2) (ta tb:TE):TE:=fun σ H Q=>ta σ H fun x H1=>tb σ H1 fun y H2=>r x y H2 Q
noncomputable def tUn (r:V→Hp→VK→Prop) (ta:TE):TE:=fun σ H Q=>ta σ H fun x H1=>r x H1 Q
noncomputable def rI (C:Int→Int→Prop) (g:Int→Int→V):R2:=fun x y H Q=>∃ i j,x=.int i∧y=.int j∧C i j∧Q (g i j) H
noncomputable def rI0 (g:Int→Int→V):R2:=fun x y H Q=>∃ i j,x=.int i∧y=.int j∧Q (g i j) H
noncomputable def rU (g:Int→V):V→Hp→VK→Prop:=fun x H Q=>∃ i,x=.int i∧Q (g i) H
section
variable {X:Cx} {a b c:Expr} {ta tb tc:TE} {pos:Pos}
theorem binT (ha:PE X a ta) (hb:PE X b tb) {pins:List (Addr×Obj)} {s:Shared} {σ:St} {H:Hp} {R:V→V→Hp→Prop} (I:Inv X pins σ H s)
    (h:ta σ H fun x H1=>tb σ H1 fun y H2=>R x y H2) {Q:Value→Shared→Prop} {f:Value→Value→Sem Value}
    (hf:∀ v u s2 x y H2,Inv X pins σ H2 s2→RelV x v→RelV y u→R x y H2→wpAny (model X.prog X.w) X.A (f v u) Q X.xe s2) :
    wpAny (model X.prog X.w) X.A (eval a X.env) (fun v s₁=>wpAny (model X.prog X.w) X.A (eval b X.env) (fun u s₂=>wpAny (model X.prog X.w) X.A (f v u) Q X.xe s₂) X.xe s₁) X.xe s:=by
  refine thn (ha pins s σ H _ I h) fun v s1 ⟨x,H1,I1,r1,q1⟩=>?_
  refine thn (hb pins s1 σ H1 _ I1 q1) fun u s2 ⟨y,H2,I2,r2,q2⟩=>?_
  exact hf v u s2 x y H2 I2 r1 r2 q2
theorem pe_op {op:Operator} {r:R2} (ho:OpR X (binaryOp op) r) (ha:PE X a ta) (hb:PE X b tb):PE X (.BinOp a op b pos) (tOp r ta tb):=by
  intro pins s σ H Q I h
  exact wpAny_BinOp (binT ha hb I h fun v u s2 x y H2 I2 rx ry q=>ho pins s2 σ H2 x y v u Q I2 rx ry q)
theorem pe_un {op:UnaryOp} {r:V→Hp→VK→Prop} (ho:UnR X (unaryOp op) r) (ha:PE X a ta):PE X (.UnaryOp op a pos) (tUn r ta):=by
  intro pins s σ H Q I h
  exact UnaryOp_ (thn (ha pins s σ H _ I h) fun v s1 ⟨x,H1,I1,r1,q1⟩=>ho pins s1 σ H1 x v Q I1 r1 q1)
theorem opI {f:Value→Value→Sem Value} {C:Int→Int→Prop} {g:Int→Int→Int}
    (rule:∀ (i j:Int) (t u:Tok) (s:Shared) (Q:Value→Shared→Prop) (E:Value→Shared→Prop),C i j→Q (.int (g i j) s.toks) { s with toks:=s.toks+1 }→wpAny (model X.prog X.w) X.A (f (.int i t) (.int j u)) Q E s) :
    OpR X f (rI C fun i j=>.int (g i j)):=by
  intro pins s σ H x y v u Q I rx ry h
  obtain ⟨i,j,rfl,rfl,hc,q⟩:=h
  obtain ⟨t,rfl⟩:=rx
  obtain ⟨t',rfl⟩:=ry
  exact rule i j t t' s _ _ hc ⟨.int (g i j),H,I.tok _,⟨_,rfl⟩,q⟩
theorem opI0 {f:Value→Value→Sem Value} {g:Int→Int→Int}
    (rule:∀ (i j:Int) (t u:Tok) (s:Shared) (Q:Value→Shared→Prop) (E:Value→Shared→Prop),Q (.int (g i j) s.toks) { s with toks:=s.toks+1 }→wpAny (model X.prog X.w) X.A (f (.int i t) (.int j u)) Q E s) :
    OpR X f (rI0 fun i j=>.int (g i j)):=by
  intro pins s σ H x y v u Q I rx ry h
  obtain ⟨i,j,rfl,rfl,q⟩:=h
  obtain ⟨t,rfl⟩:=rx
  obtain ⟨t',rfl⟩:=ry
  exact rule i j t t' s _ _ ⟨.int (g i j),H,I.tok _,⟨_,rfl⟩,q⟩
theorem opB0 {f:Value→Value→Sem Value} {g:Int→Int→Bool}
    (rule:∀ (i j:Int) (t u:Tok) (s:Shared) (Q:Value→Shared→Prop) (E:Value→Shared→Prop),Q (.bool (g i j)) s→wpAny (model X.prog X.w) X.A (f (.int i t) (.int j u)) Q E s) :
    OpR X f (rI0 fun i j=>.bl (g i j)):=by
  intro pins s σ H x y v u Q I rx ry h
  obtain ⟨i,j,rfl,rfl,q⟩:=h
  obtain ⟨t,rfl⟩:=rx
  obtain ⟨t',rfl⟩:=ry
  exact rule i j t t' s _ _ ⟨.bl (g i j),H,I,rfl,q⟩
noncomputable def CMul (i j:Int):Prop:=(-(2 ^ 64)<i∧i<2 ^ 64)∨(-(2 ^ 64)<j∧j<2 ^ 64)
theorem CMul.ok {i j:Int} (h:CMul i j):IntMulOk i j:=by
  rcases h with ⟨h1,h2⟩ | ⟨h1,h2⟩
  · exact .of_left (intBits_le_64 h1 h2)
  · exact .of_right (intBits_le_64 h1 h2)
theorem op_add:OpR X (binaryOp .Add) (rI0 fun i j=>.int (i+j)):=opI0 fun _ _ _ _ _ _ _ q=>add_int q
theorem op_sub:OpR X (binaryOp .Sub) (rI0 fun i j=>.int (i - j)):=opI0 fun _ _ _ _ _ _ _ q=>sub_int q
theorem op_mul:OpR X (binaryOp .Mult) (rI CMul fun i j=>.int (i*j)):=opI fun _ _ _ _ _ _ _ hc q=>mul_int q hc.ok
theorem op_mod:OpR X (binaryOp .Mod) (rI (fun _ j=>0<j) fun i j=>.int (i % j)):=opI fun i j _ _ _ _ _ hc q=>by
  have h1:(0:Int)<j:=hc
  exact mod_int' (by omega) (by rw [Int.fmod_eq_emod_of_nonneg i (by omega)]; exact q)
theorem unI {f:Value→Sem Value} {g:Int→Int}
    (rule:∀ (i:Int) (t:Tok) (s:Shared) (Q:Value→Shared→Prop) (E:Value→Shared→Prop),Q (.int (g i) s.toks) { s with toks:=s.toks+1 }→wpAny (model X.prog X.w) X.A (f (.int i t)) Q E s) :
    UnR X f (rU fun i=>.int (g i)):=by
  intro pins s σ H x v Q I rx h
  obtain ⟨i,rfl,q⟩:=h
  obtain ⟨t,rfl⟩:=rx
  exact rule i t s _ _ ⟨.int (g i),H,I.tok _,⟨_,rfl⟩,q⟩
theorem un_neg:UnR X (unaryOp .USub) (rU fun i=>.int (-i)):=unI fun _ _ _ _ _ q=>neg_int q
theorem op_add_ib:OpR X (binaryOp .Add) (fun x y H Q=>∃ i k,x=.int i∧y=.bl k∧Q (.int (i+b2i k)) H):=by
  intro pins s σ H x y v u Q I rx ry h
  obtain ⟨i,k,rfl,rfl,q⟩:=h
  obtain ⟨t,rfl⟩:=rx
  cases ry
  exact add_int_bool ⟨.int (i+b2i k),H,I.tok _,⟨_,rfl⟩,q⟩
end
noncomputable def scal:V→V→Bool
  | .non,.non=>true | .non,.int _=>true | .int _,.non=>true | .non,.bl _=>true | .bl _,.non=>true | .non,.str _=>true | .str _,.non=>true
  | .int _,.int _=>true | .bl _,.bl _=>true | .str _,.str _=>true | .byt _,.byt _=>true
  | .int _,.str _=>true | .str _,.int _=>true | .bl _,.str _=>true | .str _,.bl _=>true
  | _,_=>false
noncomputable def rEq:R2:=fun x y H Q=>scal x y=true∧Q (.bl (decide (x=y))) H
noncomputable def rNe:R2:=fun x y H Q=>scal x y=true∧Q (.bl (!decide (x=y))) H
theorem dec_int {i j:Int}:decide (V.int i=V.int j)=(i == j):=by
  rw [Bool.eq_iff_iff]
  simp
theorem dec_bl {i j:Bool}:decide (V.bl i=V.bl j)=(i == j):=by
  rw [Bool.eq_iff_iff]
  simp
theorem dec_str {i j:Str}:decide (V.str i=V.str j)=(i == j):=by
  rw [Bool.eq_iff_iff]
  simp
theorem dec_byt {i j:Array UInt8}:decide (V.byt i=V.byt j)=(i.toList == j.toList):=by
  rw [Bool.eq_iff_iff]
  cases i
  cases j
  simp
section
variable {X:Cx} {a b c:Expr} {ta tb tc:TE} {pos:Pos}
theorem fin_bl {pins:List (Addr×Obj)} {σ:St} {H:Hp} {s:Shared} {Q:VK} {k k':Bool} (I:Inv X pins σ H s) (q:Q (.bl k) H) (e:k=k'):EP X pins σ Q (.bool k') s:=by
  subst e
  exact ⟨.bl k,H,I,rfl,q⟩
theorem op_eq:OpR X (compareOp .Eq) rEq:=by
  intro pins s σ H x y v u Q I rx ry h
  obtain ⟨hs,q⟩:=h
  cases x with
  | non=>
    cases rx
    cases y with
    | non=>cases ry; exact PySem.EqNone.eq_none_none (fin_bl I q (by simp))
    | bl j=>cases ry; exact PySem.EqNone.eq_none_bool (fin_bl I q (by simp))
    | int j=>obtain ⟨t',rfl⟩:=ry; exact PySem.EqNone.eq_none_int (fin_bl I q (by simp))
    | str j=>obtain ⟨t',rfl⟩:=ry; exact PySem.EqNone.eq_none_str (fin_bl I q (by simp))
    | _=>exact absurd (show false=true from hs) Bool.false_ne_true
  | bl i=>
    cases rx
    cases y with
    | non=>cases ry; exact PySem.EqNone.eq_bool_none (fin_bl I q (by simp))
    | bl j=>cases ry; exact eq_bool (fin_bl I q dec_bl)
    | str j=>obtain ⟨t',rfl⟩:=ry; exact PySem.EqMixed.eq_bool_str (fin_bl I q (by simp))
    | _=>exact absurd (show false=true from hs) Bool.false_ne_true
  | int i=>
    obtain ⟨t,rfl⟩:=rx
    cases y with
    | non=>cases ry; exact PySem.EqNone.eq_int_none (fin_bl I q (by simp))
    | int j=>obtain ⟨t',rfl⟩:=ry; exact eq_int (fin_bl I q dec_int)
    | str j=>obtain ⟨t',rfl⟩:=ry; exact PySem.EqMixed.eq_int_str (fin_bl I q (by simp))
    | _=>exact absurd (show false=true from hs) Bool.false_ne_true
  | str i=>
    obtain ⟨t,rfl⟩:=rx
    cases y with
    | non=>cases ry; exact PySem.EqNone.eq_str_none (fin_bl I q (by simp))
    | bl j=>cases ry; exact PySem.EqMixed.eq_str_bool (fin_bl I q (by simp))
    | int j=>obtain ⟨t',rfl⟩:=ry; exact PySem.EqMixed.eq_str_int (fin_bl I q (by simp))
    | str j=>obtain ⟨t',rfl⟩:=ry; exact eq_str (fin_bl I q dec_str)
    | _=>exact absurd (show false=true from hs) Bool.false_ne_true
  | byt i=>
    obtain ⟨t,rfl⟩:=rx
    cases y with
    | byt j=>obtain ⟨t',rfl⟩:=ry; exact PySem.W.eq_bytes (fin_bl I q dec_byt)
    | _=>exact absurd (show false=true from hs) Bool.false_ne_true
  | _=>cases y<;>exact absurd (show false=true from hs) Bool.false_ne_true
theorem op_ne:OpR X (compareOp .NotEq) rNe:=by
  intro pins s σ H x y v u Q I rx ry h
  obtain ⟨hs,q⟩:=h
  cases x with
  | non=>
    cases rx
    cases y with
    | non=>cases ry; exact PySem.EqNone.ne_none_none (fin_bl I q (by simp))
    | bl j=>cases ry; exact PySem.EqNone.ne_none_bool (fin_bl I q (by simp))
    | int j=>obtain ⟨t',rfl⟩:=ry; exact PySem.EqNone.ne_none_int (fin_bl I q (by simp))
    | str j=>obtain ⟨t',rfl⟩:=ry; exact PySem.EqNone.ne_none_str (fin_bl I q (by simp))
    | _=>exact absurd (show false=true from hs) Bool.false_ne_true
  | bl i=>
    cases rx
    cases y with
    | non=>cases ry; exact PySem.EqNone.ne_bool_none (fin_bl I q (by simp))
    | bl j=>cases ry; exact ne_bool (fin_bl I q (congrArg not dec_bl))
    | str j=>obtain ⟨t',rfl⟩:=ry; exact PySem.EqMixed.ne_bool_str (fin_bl I q (by simp))
    | _=>exact absurd (show false=true from hs) Bool.false_ne_true
  | int i=>
    obtain ⟨t,rfl⟩:=rx
    cases y with
    | non=>cases ry; exact PySem.EqNone.ne_int_none (fin_bl I q (by simp))
    | int j=>obtain ⟨t',rfl⟩:=ry; exact ne_int (fin_bl I q (congrArg not dec_int))
    | str j=>obtain ⟨t',rfl⟩:=ry; exact PySem.EqMixed.ne_int_str (fin_bl I q (by simp))
    | _=>exact absurd (show false=true from hs) Bool.false_ne_true
  | str i=>
    obtain ⟨t,rfl⟩:=rx
    cases y with
    | non=>cases ry; exact PySem.EqNone.ne_str_none (fin_bl I q (by simp))
    | bl j=>cases ry; exact PySem.EqMixed.ne_str_bool (fin_bl I q (by simp))
    | int j=>obtain ⟨t',rfl⟩:=ry; exact PySem.EqMixed.ne_str_int (fin_bl I q (by simp))
    | str j=>obtain ⟨t',rfl⟩:=ry; exact ne_str (fin_bl I q (congrArg not dec_str))
    | _=>exact absurd (show false=true from hs) Bool.false_ne_true
  | byt i=>
    obtain ⟨t,rfl⟩:=rx
    cases y with
    | byt j=>obtain ⟨t',rfl⟩:=ry; exact PySem.W.ne_bytes (fin_bl I q (congrArg not dec_byt))
    | _=>exact absurd (show false=true from hs) Bool.false_ne_true
  | _=>cases y<;>exact absurd (show false=true from hs) Bool.false_ne_true
theorem op_lt:OpR X (compareOp .Lt) (rI0 fun i j=>.bl (decide (i<j))):=opB0 fun _ _ _ _ _ _ _ q=>lt_int q
theorem op_gt:OpR X (compareOp .Gt) (rI0 fun i j=>.bl (decide (j<i))):=opB0 fun _ _ _ _ _ _ _ q=>gt_int q
theorem op_in_str:OpR X (compareOp .In) (fun x y H Q=>∃ i j,x=.str i∧y=.str j∧Q (.bl (!(Builtin.Str.occurrences j i 0 j.length 1).isEmpty)) H):=by
  intro pins s σ H x y v u Q I rx ry h
  obtain ⟨i,j,rfl,rfl,q⟩:=h
  obtain ⟨t,rfl⟩:=rx
  obtain ⟨t',rfl⟩:=ry
  exact in_str (fin_bl I q rfl)
theorem OpR.or {f:Value→Value→Sem Value} {r r':R2} (h:OpR X f r) (h':OpR X f r'):OpR X f (fun x y H Q=>r x y H Q∨r' x y H Q):=by
  intro pins s σ H x y v u Q I rx ry q
  rcases q with q | q
  · exact h pins s σ H x y v u Q I rx ry q
  · exact h' pins s σ H x y v u Q I rx ry q
theorem nomark (b:Expr) {op:CmpOp} (h:op≠.In:=by decide) (h2:op≠.NotIn:=by decide):behindInMarks op b=false:=by
  have e1:(op == CmpOp.In)=false:=by cases op<;>first | rfl | exact absurd rfl h
  have e2:(op == CmpOp.NotIn)=false:=by cases op<;>first | rfl | exact absurd rfl h2
  cases b<;>simp [behindInMarks,e1,e2]
theorem pe_cmpR {op:CmpOp} {r:R2} (ho:OpR X (compareOp op) r) (ha:PE X a ta) (hb:PE X b tb) (hm:behindInMarks op b=false):PE X (.Compare a [op] [b] pos) (tOp r ta tb):=by
  intro pins s σ H Q I h
  exact wpAny_Compare1 (binT ha hb I h fun v u s2 x y H2 I2 rx ry q=>ho pins s2 σ H2 x y v u Q I2 rx ry q) hm
noncomputable def tTest (t:TE):TT:=fun σ H Q=>t σ H fun x H'=>∃ k,x=.bl k∧Q k H'
theorem pt_cmpR {op:CmpOp} {r:R2} (ho:OpR X (compareOp op) r) (ha:PE X a ta) (hb:PE X b tb) (hm:behindInMarks op b=false):PT X (.Compare a [op] [b] pos) (tTest (tOp r ta tb)):=by
  intro pins s σ H Q I h
  refine wpAny_isTrue_Compare1 (thn (ha pins s σ H _ I h) fun v s1 ⟨x,H1,I1,r1,q1⟩=>thn (hb pins s1 σ H1 _ I1 q1) fun u s2 ⟨y,H2,I2,r2,q2⟩=>
    thn (ho pins s2 σ H2 x y v u _ I2 r1 r2 q2) fun c s3 ⟨z,H3,I3,r3,k,e,q3⟩=>?_) hm
  subst e
  cases r3
  exact wpAny_truthy_bool ⟨H3,I3,q3⟩
theorem line63:(sizeLine:Nat)<2 ^ 63:=by rw [sizeLine_eq]; decide
theorem op_add_str:OpR X (binaryOp .Add) (fun x y H Q=>∃ i j,x=.str i∧y=.str j∧i.length+j.length≤sizeLine∧Q (.str (i++j)) H):=by
  intro pins s σ H x y v u Q I rx ry h
  obtain ⟨i,j,rfl,rfl,hz,q⟩:=h
  obtain ⟨t,rfl⟩:=rx
  obtain ⟨t',rfl⟩:=ry
  exact add_str (fun t' tk=>⟨.str (i++j),H,I.tok _,⟨_,rfl⟩,q⟩) hz
theorem vals1 {x:V} {us:List Value} (r:Vals [x] us):∃ u,us=[u]∧RelV x u:=by
  cases r with
  | cons r1 r2=>cases r2; exact ⟨_,rfl,r1⟩
theorem vals2 {x y:V} {us:List Value} (r:Vals [x,y] us):∃ u w',us=[u,w']∧RelV x u∧RelV y w':=by
  cases r with
  | cons r1 r2=>
    cases r2 with
    | cons r3 r4=>cases r4; exact ⟨_,_,rfl,r1,r3⟩
end
end L2
namespace L2
open PySem PySem.Spec PyProof.Rows
structure ObjM (h:Heap) (x dx C:Addr) (mA:Str→Option Value):Prop where
  obj:h.get? x=some (PySem.W.instObj C dx)
  ns:h.Ns1 dx mA
  ne:dx≠x
theorem lookIn_ns {h:Heap} {dx:Addr} {mA:Str→Option Value} (n:h.Ns1 dx mA):∃ od,h.get? dx=some od∧∀ name,PySem.W.lookIn name od=some (mA name):=by
  obtain ⟨o,es,ep,ho,hd,hk,_,hm⟩:=n
  refine ⟨o,ho,fun name=>?_⟩
  have e:=hm name
  unfold nsFind findBy at e
  rw [← Array.find?_toList] at e
  unfold PySem.W.lookIn
  rw [hd]
  dsimp only
  split
  · rename_i y q
    rw [q] at e
    exact congrArg some e
  · rename_i q
    rw [q] at e
    have a:es.toList.any (·.refKey)=false:=by
      rw [List.any_eq_false]
      intro y hy
      obtain ⟨z,t,hkey⟩:=hk y (Array.mem_toList_iff.mp hy)
      simp [DictEntry.refKey,hkey]
    have a':¬ es.toList.any (·.refKey)=true:=by rw [a]; exact Bool.false_ne_true
    rw [if_neg a']
    exact congrArg some e
theorem ObjM.look {h:Heap} {x dx C:Addr} {mA:Str→Option Value} (I:ObjM h x dx C mA):∃ od,PySem.W.InstAt h x (PySem.W.instObj C dx) C (some od)∧∀ name,PySem.W.lookIn name od=some (mA name):=
  let ⟨od,ho,hl⟩:=lookIn_ns I.ns
  ⟨od,⟨I.obj,rfl,rfl,ho⟩,hl⟩
section
variable {prog:Program} {w:World} {A:Around} {E:Value→Shared→Prop} {s:Shared} {K:PySem.W.Frag} {x dx C f:Addr} {mA:Str→Option Value} {name:Str} {v:Value}
end
theorem RelO.some_of {v:V} {o:Option Value} (r:RelO (some v) o):∃ u,o=some u∧RelV v u:=by
  cases o with
  | none=>exact (show False from r).elim
  | some u=>exact ⟨u,rfl,r⟩
section
variable {P:Program} {w:World} {H H':Hp} {h h':Heap} {a C dx:Addr} {fs fs':List (Str×V)}
theorem ins_get (hok:HOk P w H h) (e:H a=some (.ins C dx fs)):∃ mA,ObjM h a dx C mA∧(∀ f,RelO (fs.lookup f) (mA f))∧PySem.Within mA (fs.map (·.1))∧fs.length≤1000∧H dx=some (.own a):=by
  obtain ⟨d,z,ne,ob,mA,n,r,q⟩:=(show ObjOk P w H h a (.ins C dx fs) from hok a _ e)
  exact ⟨mA,⟨ob,n,ne⟩,r,q,z,d⟩
end
structure Cls (K:PySem.W.Frag) (C:Addr):Prop where
  pg:PySem.W.plainGet K C Str.empty=true
  hd:PySem.W.hasDictIn K C=true
  po:PySem.W.plainOver K C=true
  sa:PySem.W.findIn K (.ref C) "__setattr__" = some (some (.builtin "object.__setattr__"))
theorem Cls.get {K:PySem.W.Frag} {C:Addr} (c:Cls K C) (f:Str):PySem.W.plainGet K C f=true:=c.pg
section
variable {X:Cx} {pins:List (Addr×Obj)} {σ:St} {H:Hp} {s:Shared} {a C dx:Addr} {fs:List (Str×V)} {f:Str} {v:V} {A:Around} {E:Value→Shared→Prop}
end
section
variable {X:Cx} {o e value:Expr} {f:Str} {pos pos' tpos:Pos} {ta tv:TE}
end
section
variable {X:Cx} {pins:List (Addr×Obj)} {σ:St} {H:Hp} {s:Shared} {A:Around} {E:Value→Shared→Prop} {Q:Value→Shared→Prop} {c:Value} {b:Bool}
inductive TyOf (K:PySem.W.Frag) (H:Hp):V→Value→Prop where
  | non:TyOf K H .non (.type "NoneType")
  | bl (x:Bool):TyOf K H (.bl x) (.type "bool")
  | int (i:Int):TyOf K H (.int i) (.type "int")
  | str (x:Str):TyOf K H (.str x) (.type "str")
  | flt (x:UInt64):TyOf K H (.flt x) (.type "float")
  | lst {a:Addr} {xs:List V} (e:H a=some (.lst xs)):TyOf K H (.ref a) (.type "list")
  | frz {a:Addr} {o:Obj} {xs:List V} (e:H a=some (.frz o (.lst xs))):TyOf K H (.ref a) (.type "list")
  | tup {a:Addr} {xs:List V} (e:H a=some (.tup xs)):TyOf K H (.ref a) (.type "tuple")
  | dK {a:Addr} {kvs:List (Key×V)} (e:H a=some (.dK kvs)):TyOf K H (.ref a) (.type "dict")
  | dT {a:Addr} {kvs:List (List Key×V)} (e:H a=some (.dT kvs)):TyOf K H (.ref a) (.type "dict")
  | ins {a C dx:Addr} {fs:List (Str×V)} (e:H a=some (.ins C dx fs)) (cl:Cls K C) (ha:PySem.W.findIn K (.ref C) "__class__" = some (some (.builtin "object.__class__")))
      (hn:PySem.W.specialIn K (.builtin "object.__class__") "__get__" = some (some (.builtin "getset_descriptor.__get__"))) (htk:PySem.W.takesIn K (.builtin "object.__class__")=some true)
      (hm:PySem.W.mroIn K C (.type "object")=some true):TyOf K H (.ref a) (.ref C)
theorem isinst_ok {x:V} {u t:Value} (I:Inv X pins σ H s) (rx:RelV x u) (ty:TyOf X.K H x t) (e:PySem.W.kitOne X.K t c=some b) (h:∀ tk,Q (.bool b) { s with toks:=tk }) :
    wpAny (model X.prog X.w) A (call (.builtin "isinstance") [u,c]) Q E s:=by
  cases ty with
  | non=>cases (show u=Value.none from rx); exact PySem.W.kia_one PySem.W.kitx_none I.kIn True.intro e (fun z=>nomatch z) h
  | bl y=>cases (show u=Value.bool y from rx); exact PySem.W.kia_one PySem.W.kitx_bool I.kIn True.intro e (fun z=>nomatch z) h
  | int i=>obtain ⟨t,q⟩:=(show ∃ t,u=Value.int i t from rx); cases q; exact PySem.W.kia_one PySem.W.kitx_int I.kIn True.intro e (fun z=>nomatch z) h
  | str y=>obtain ⟨t,q⟩:=(show ∃ t,u=Value.str y t from rx); cases q; exact PySem.W.kia_one PySem.W.kitx_str I.kIn True.intro e (fun z=>nomatch z) h
  | flt y=>obtain ⟨t,q⟩:=(show ∃ t,u=Value.float y t from rx); cases q; exact PySem.W.kia_one PySem.W.kitx_float I.kIn True.intro e (fun z=>nomatch z) h
  | @lst a xs ea=>
    cases (show u=Value.ref a from rx)
    obtain ⟨_,_,n,_,h1⟩:=(show ObjOk X.prog X.w H s.heap a (.lst xs) from I.hok a _ ea)
    exact PySem.W.kia_one PySem.W.kitx_list I.kIn ⟨_,h1,rfl⟩ e (fun z=>nomatch z) h
  | @frz a ob xs ea=>
    cases (show u=Value.ref a from rx)
    obtain ⟨_,_,_,n,_,h1⟩:=(show ObjOk X.prog X.w H s.heap a (.frz ob (.lst xs)) from I.hok a _ ea)
    exact PySem.W.kia_one PySem.W.kitx_list I.kIn ⟨_,h1,rfl⟩ e (fun z=>nomatch z) h
  | @tup a xs ea=>
    cases (show u=Value.ref a from rx)
    obtain ⟨_,_,_,p⟩:=(show ObjOk X.prog X.w H s.heap a (.tup xs) from I.hok a _ ea)
    obtain ⟨o,h1,h2,_⟩:=p
    exact PySem.W.kia_one PySem.W.kitx_tuple I.kIn ⟨o,h1,h2⟩ e (fun z=>nomatch z) h
  | @dK a kvs ea=>
    cases (show u=Value.ref a from rx)
    obtain ⟨_,_,vs,_,p⟩:=(show ObjOk X.prog X.w H s.heap a (.dK kvs) from I.hok a _ ea)
    obtain ⟨o,es,ep,h1,h2,_⟩:=p
    exact PySem.W.kia_one PySem.W.kitx_dict I.kIn ⟨o,h1,h2.1⟩ e (fun z=>nomatch z) h
  | @dT a kvs ea=>
    cases (show u=Value.ref a from rx)
    obtain ⟨_,_,xs,_,o,es,ep,h1,h2,_⟩:=(show ObjOk X.prog X.w H s.heap a (.dT kvs) from I.hok a _ ea)
    exact PySem.W.kia_one PySem.W.kitx_dict I.kIn ⟨o,h1,h2.1⟩ e (fun z=>nomatch z) h
  | @ins a C dx fs ea cl ha hn htk hm=>
    cases (show u=Value.ref a from rx)
    obtain ⟨mA,O,_⟩:=ins_get I.hok ea
    obtain ⟨od,J,_⟩:=O.look
    exact PySem.W.kia_one (PySem.W.kitx_own (cl.get _) cl.hd ha hn htk hm) I.kIn J e (fun z=>nomatch z) h
end
end L2
namespace L2
open PySem PySem.Spec PyProof.Rows
structure Room (k:Nat) (A:Around):Prop where
  hd:A.handled=none
  dp:A.depth+3*k+5<recursionLimit
  un:A.units+16*k+200<cLine
theorem Room.mono {j k:Nat} {A:Around} (r:Room k A) (h:j≤k):Room j A:=⟨r.hd,by have:=r.dp; omega,by have:=r.un; omega⟩
theorem Room.deeper {k:Nat} {A:Around} (r:Room (k+1) A) (env:Env):Room k (A.deeper env):=
  ⟨r.hd,by have:=r.dp; show A.depth+1+3*k+5<_; omega,by have:=r.un; show A.units+3+16*k+200<_; omega⟩
theorem Room.depth {k:Nat} {A:Around} (r:Room k A):A.depth<recursionLimit:=by have:=r.dp; omega
theorem Room.units {k:Nat} {A:Around} (r:Room k A):A.units+64<cLine:=by have:=r.un; omega
noncomputable def tNil:TA:=fun _ H Q=>Q [] H
noncomputable def tCons (ta:TE) (tr:TA):TA:=fun σ H Q=>ta σ H fun x H1=>tr σ H1 fun xs H2=>Q (x::xs) H2
section
variable {X:Cx} {e:Expr} {es:List Expr} {te:TE} {t:TA} {pos:Pos}
theorem pa_nil:PA X [] tNil:=fun _ _ _ _ H Q I h=>Calls.spliced_nil ⟨[],H,I,.nil,h⟩
theorem pa_cons (ha:PE X e te) (hr:PA X es t) (hs:starEach (e::es) X.env=(false,eval e X.env)::starEach es X.env:=by rfl):PA X (e::es) (tCons te t):=by
  intro pos pins s σ H Q I h
  rw [hs]
  show wpAny _ _ (spliced ((false,eval e X.env)::backTo pos (starEach es X.env))) _ _ s
  refine Calls.spliced_cons (thn (ha pins s σ H _ I h) fun u s1 ⟨x,H1,I1,r1,q1⟩=>?_)
  exact thn (hr pos pins s1 σ H1 _ I1 q1) fun us s2 ⟨xs,H2,I2,r2,q2⟩=>⟨x::xs,H2,I2,.cons r1 r2,q2⟩
noncomputable def tTup (t:TA):TE:=fun σ H Q=>t σ H fun xs H1=>xs.length≤sizeLine∧∀ p,H1 p=none→Q (.ref p) (upd H1 p (.tup xs))
noncomputable def tLst (t:TA):TE:=fun σ H Q=>t σ H fun xs H1=>xs.length≤sizeLine∧∀ p,H1 p=none→Q (.ref p) (upd H1 p (.lst xs))
theorem pe_tup {x1} (h:PA X es t):PE X (.Tuple es x1 pos) (tTup t):=by
  intro pins s σ H Q I hq
  refine wpAny_Tuple_spliced (thn (h pos pins s σ H _ I hq) fun us s1 ⟨xs,H1,I1,r,z,q⟩=>⟨by rw [← r.length]; exact z,?_⟩)
  have hf:H1 s1.heap.objs.size=none:=I1.hok.fresh (Nat.le_refl _)
  refine ⟨.ref s1.heap.objs.size,upd H1 s1.heap.objs.size (.tup xs),I1.laid (t':=s1.toks) (fun b u e=>Heap.get?_push_of_some _ e) (Nat.le_refl _) ?_,rfl,q _ hf⟩
  exact ⟨z,us,r,⟨_,Heap.get?_push_size _ rfl,rfl,_,rfl⟩⟩
theorem pe_lst (h:PA X es t):PE X (.List es pos) (tLst t):=by
  intro pins s σ H Q I hq
  refine wpAny_List_spliced (thn (h pos pins s σ H _ I hq) fun us s1 ⟨xs,H1,I1,r,z,q⟩=>⟨by rw [← r.length]; exact z,?_⟩)
  have hf:H1 s1.heap.objs.size=none:=I1.hok.fresh (Nat.le_refl _)
  refine ⟨.ref s1.heap.objs.size,upd H1 s1.heap.objs.size (.lst xs),I1.laid (t':=s1.toks) (fun b u e=>Heap.get?_push_of_some _ e) (Nat.le_refl _) ?_,rfl,q _ hf⟩
  exact ⟨z,us,0,r,Heap.get?_push_size _ rfl⟩
end
noncomputable abbrev Sp:=List V→Hp→VK→XK→Prop
noncomputable abbrev CXT:=List Env→Hp→Shared→XK→Value→Shared→Prop
structure Env0 (P:Program) (w:World) (K:PySem.W.Frag) (mg:Str→Option Value) (base:Heap) (A:Around) (outer:List Env) (s:Shared) (H:Hp):Prop where
  frames:A.frames=some outer
  mod:Mod K mg base
  bs:∀ b o,base.get? b=some o→s.heap.get? b=some o∧H b=none
  bsz:base.objs.size≤s.heap.objs.size
  funs:s.heap.FunFrames base outer
  frf:∀ b∈frs outer,H b=none
  hok:HOk P w H s.heap
  bare:AllBare s.gens
noncomputable def CE (outer:List Env) (P:Program) (w:World) (H:Hp) (s:Shared) (Q:VK) (u:Value) (s':Shared):Prop:=
  ∃ v H',s'.os=s.os∧AllBare s'.gens∧Un (frs outer) [] H H' s.heap s'.heap∧HOk P w H' s'.heap∧RelV v u∧Q v H'
noncomputable def CR (CX:CXT) (outer:List Env) (P:Program) (w:World) (H:Hp) (s:Shared) (Q:VK) (E:XK) (r:Result) (s':Shared):Prop:=
  match r with
  | .ok (.ret u)=>CE outer P w H s Q u s'
  | .ok _=>False
  | .error e=>CX outer H s E e s'
structure FnOk (P:Program) (w:World) (K:PySem.W.Frag) (mg:Str→Option Value) (base:Heap) (CX:CXT) (k:Nat) (f:Addr) (fd:FuncData) (ps:List Str) (sp:Sp):Prop where
  len:∀ vs H Q E,sp vs H Q E→vs.length=ps.length
  run:∀ (A:Around) (outer:List Env) (s:Shared) (H:Hp) (args:Args) (us:List Value) (vs:List V) (Q:VK) (E:XK),Room k A→Env0 P w K mg base A outer s H→BindsTo s fd args (ps.zip us)→Vals vs us→sp vs H Q E→
    codeAny (model P w) A (.call (.ref f) args) (CR CX outer P w H s Q E) s
section
variable {X:Cx} {pins:List (Addr×Obj)} {σ:St} {H:Hp} {s s':Shared}
theorem Inv.env0 (I:Inv X pins σ H s):Env0 X.prog X.w X.K X.mg X.base X.A X.stack s H:=
  ⟨I.ok.frames,I.ok.mod,I.bs,Nat.le_trans I.ok.bsz I.sz,I.stack,I.stkFree,I.hok,I.bare⟩
theorem Inv.after {Q:VK} {u:Value} (I:Inv X pins σ H s) (h:CE X.stack X.prog X.w H s Q u s'):EP X pins σ Q u s':=by
  obtain ⟨v,H',os,bare,un,hok,r,q⟩:=h
  obtain ⟨hh,g,d,t,os'⟩:=s'
  obtain rfl:os'=s.os:=os
  exact ⟨v,H',I.call (h':=hh) (g':=g) (d':=d) (t':=t) (ch:=[]) un hok bare (fun b z=>absurd z (by simp)),r,q⟩
end
noncomputable def tCall (sp:Sp) (dvs:List V) (E:XK) (t:TA):TE:=fun σ H Q=>t σ H fun vs H1=>sp (vs++dvs) H1 Q E
noncomputable def Binds (K:PySem.W.Frag) (fd:FuncData) (ps:List Str) (ds:List Value):Prop:=
  ∀ (s:Shared) (us:List Value),K.In s.heap→(us++ds).length=ps.length→BindsTo s fd ⟨us,[]⟩ (ps.zip (us++ds))
theorem Binds.all {K:PySem.W.Frag} {fd:FuncData} {ps:List Str} (h:∀ us:List Value,us.length=ps.length→bindArgs fd ⟨us,[]⟩=pure (ps.zip us)):Binds K fd ps []:=fun s us _ hl=>by
  rw [List.append_nil] at hl ⊢
  exact .of_eq (h us hl)
noncomputable def Passes (CX:CXT) (X:Cx) (E:XK):Prop:=∀ (pins:List (Addr×Obj)) (σ:St) (H:Hp) (s:Shared) (e:Value) (s':Shared),Inv X pins σ H s→CX X.stack H s E e s'→X.xe e s'
section
variable {X:Cx} {CX:CXT} {k:Nat} {f C:Addr} {fd:FuncData} {ps:List Str} {sp:Sp} {dvs:List V} {ds:List Value} {E:XK} {x m:Str} {p pos apos:Pos} {e o:Expr} {es:List Expr} {ta:TE} {t:TA}
theorem run_fn {pins:List (Addr×Obj)} {σ:St} {H:Hp} {s:Shared} {Q:VK} {us:List Value} {vs:List V} (F:FnOk X.prog X.w X.K X.mg X.base CX k f fd ps sp) (hr:Room k X.A) (hb:Binds X.K fd ps ds) (hd:Vals dvs ds) (hx:Passes CX X E)
    (I:Inv X pins σ H s) (r:Vals vs us) (h:sp (vs++dvs) H Q E):wpAny (model X.prog X.w) X.A (call (.ref f) us) (EP X pins σ Q) X.xe s:=by
  have r2:Vals (vs++dvs) (us++ds):=r.append hd
  have hl:(us++ds).length=ps.length:=by rw [← r2.length]; exact F.len _ _ _ _ h
  refine wpAny_call (codeAny_mono (F.run X.A X.stack s H ⟨us,[]⟩ (us++ds) (vs++dvs) Q E hr I.env0 (hb s us I.kIn hl) r2 h) fun r s' hq=>?_)
  cases r with
  | error e=>exact hx pins σ H s e s' I hq
  | ok fl=>
    cases fl with
    | ret u=>exact I.after hq
    | next=>exact False.elim hq
    | brk=>exact False.elim hq
    | cont=>exact False.elim hq
theorem pe_call (F:FnOk X.prog X.w X.K X.mg X.base CX k f fd ps sp) (hr:Room k X.A) (hg:Gl X x) (hm:X.mg x=some (.ref f)) (hk:PySem.W.keepIn X.K (.ref f)=true) (hb:Binds X.K fd ps ds) (hd:Vals dvs ds) (hx:Passes CX X E)
    (ha:PA X (e::es) t) (hdb:(x == ("__debug__" : Str))=false:=by decide) (he:starEach (e::es) X.env=(false,eval e X.env)::starEach es X.env:=by rfl) (hpl:(backTo pos (starEach es X.env)).any (·.1)=false:=by rfl) :
    PE X (.Call (.Name x p) (e::es) [] pos) (tCall sp dvs E t):=by
  intro pins s σ H Q I h
  refine wpAny_Call_Name_kw (ld_glob I hg hm ?_ hdb)
  refine PySem.W.callWith_K (h₀:=X.base) I.ok.mod.kin hk (thn (ha pos pins s σ H _ I h) fun us s1 ⟨vs,H1,I1,r,q⟩=>⟨I1.kIn,?_⟩) he hpl
  exact run_fn F hr hb hd hx I1 r q
theorem pe_call0 (F:FnOk X.prog X.w X.K X.mg X.base CX k f fd ps sp) (hr:Room k X.A) (hg:Gl X x) (hm:X.mg x=some (.ref f)) (hk:PySem.W.keepIn X.K (.ref f)=true) (hb:Binds X.K fd ps ds) (hd:Vals dvs ds) (hx:Passes CX X E)
    (hdb:(x == ("__debug__" : Str))=false:=by decide):PE X (.Call (.Name x p) [] [] pos) (tCall sp dvs E tNil):=by
  intro pins s σ H Q I h
  refine wpAny_Call_Name_kw (ld_glob I hg hm ?_ hdb)
  exact PySem.W.callWith_K0 I.kIn hk (run_fn (us:=[]) F hr hb hd hx I .nil h)
end
section
variable {X:Cx} {CX:CXT} {k:Nat} {f C:Addr} {fd:FuncData} {ps ks:List Str} {sp:Sp} {E:XK} {x m:Str} {p pos apos kpos:Pos} {e o:Expr} {es:List Expr} {kws:List Keyword} {te ta:TE} {t tk:TA} {nm:Option Str}
variable {g:List Value→List Value→List Value} {gV:List V→List V→List V}
end
structure FnScope (N P:List Str) (sc:Scope):Prop where
  kind:sc.kind=.function
  co:sc.isCoroutine=false
  gen:sc.isGenerator=false
  nd:N.Nodup
  pre:N.take P.length=P
  par:∀ x∈P,sc.names.lookup x=some .local∨sc.names.lookup x=some .cell
  nofree:∀ y∈sc.names,y.2≠.free
theorem bindL_out {kindOf:Str→Option NameKind} {x:Str}:∀ {binds:List (Str×Value)} {m:Str→Option Value},(∀ v,(x,v) ∉ binds)→bindL kindOf binds m x=m x
  | [],_,_=>rfl
  | (n,v)::r,m,h=>by
    unfold bindL
    rw [bindL_out fun w hw=>h w (List.mem_cons_of_mem _ hw)]
    split
    · have:x≠n:=by rintro rfl; exact h v List.mem_cons_self
      simp [this]
    · rfl
theorem bindC_out {kindOf:Str→Option NameKind} {x:Str}:∀ {binds:List (Str×Value)} {m:Str→Option Value},(∀ v,(x,v) ∉ binds)→bindC kindOf binds m x=m x
  | [],_,_=>rfl
  | (n,v)::r,m,h=>by
    unfold bindC
    rw [bindC_out fun w hw=>h w (List.mem_cons_of_mem _ hw)]
    split
    · rfl
    · have:x≠n:=by rintro rfl; exact h v List.mem_cons_self
      simp [this]
theorem bindL_get {kindOf:Str→Option NameKind} {x:Str} {v:Value}:∀ {P:List Str} {vs:List Value} {i:Nat} {m:Str→Option Value},P.Nodup→P[i]?=some x→vs[i]?=some v→kindOf x=some .local→
    bindL kindOf (P.zip vs) m x=some v
  | [],_,_,_,_,h,_,_=>by simp at h
  | _::_,[],_,_,_,_,h,_=>by simp at h
  | p::P,w::vs,0,m,nd,h1,h2,hk=>by
    simp at h1 h2; subst h1; subst h2
    show bindL kindOf ((p,w)::P.zip vs) m p=_
    unfold bindL
    rw [bindL_out fun v hv=>(List.nodup_cons.mp nd).1 (List.of_mem_zip hv).1,if_pos hk]
    simp
  | p::P,w::vs,i+1,m,nd,h1,h2,hk=>by
    show bindL kindOf ((p,w)::P.zip vs) m x=_
    unfold bindL
    exact bindL_get (i:=i) (List.nodup_cons.mp nd).2 (by simpa using h1) (by simpa using h2) hk
theorem bindC_get {kindOf:Str→Option NameKind} {x:Str} {v:Value}:∀ {P:List Str} {vs:List Value} {i:Nat} {m:Str→Option Value},P.Nodup→P[i]?=some x→vs[i]?=some v→kindOf x≠some .local→
    bindC kindOf (P.zip vs) m x=some v
  | [],_,_,_,_,h,_,_=>by simp at h
  | _::_,[],_,_,_,_,h,_=>by simp at h
  | p::P,w::vs,0,m,nd,h1,h2,hk=>by
    simp at h1 h2; subst h1; subst h2
    show bindC kindOf ((p,w)::P.zip vs) m p=_
    unfold bindC
    rw [bindC_out fun v hv=>(List.nodup_cons.mp nd).1 (List.of_mem_zip hv).1,if_neg hk]
    simp
  | p::P,w::vs,i+1,m,nd,h1,h2,hk=>by
    show bindC kindOf ((p,w)::P.zip vs) m x=_
    unfold bindC
    exact bindC_get (i:=i) (List.nodup_cons.mp nd).2 (by simpa using h1) (by simpa using h2) hk
noncomputable def start (N:List Str) (vs:List V):St:=vs.map some++List.replicate (N.length - vs.length) none
noncomputable def cxOf (CX:CXT) (P:Program) (w:World) (K:PySem.W.Frag) (mg:Str→Option Value) (base:Heap) (N:List Str) (qual:Str) (scope:Scope) (f:Addr) (cd:Value) (A:Around) (outer:List Env) (s:Shared) (H:Hp) (E:XK):Cx where
  prog:=P
  w:=w
  K:=K
  mg:=mg
  base:=base
  A:=A.deeper (envOfC qual scope s.heap.objs.size f cd)
  N:=N
  s₀:=s
  H₀:=H
  env:=envOfC qual scope s.heap.objs.size f cd
  outer:=outer
  stack:=envOfC qual scope s.heap.objs.size f cd::outer
  ex:=[]
  calm:=true
  fn:=fun _=>true
  pn:=[]
  xe:=fun e s'=>wpAny (model P w) (A.deeper (envOfC qual scope s.heap.objs.size f cd)) (leaving (envOfC qual scope s.heap.objs.size f cd) e) (fun _ s''=>CX outer H s E e s'') (fun e' s''=>CX outer H s E e' s'') s'
theorem cell_has {sc:Scope} {n:Nat} {x:Str} (h:sc.names.lookup x=some .cell):∃ c,(cellsFrom n sc.names []).lookup x=some c:=by
  have q:=PySem.W.cellsFrom_some sc.names n [] (.inl h)
  exact Option.isSome_iff_exists.mp q
theorem inv_start {CX:CXT} {P:Program} {w:World} {K:PySem.W.Frag} {mg:Str→Option Value} {base:Heap} {N ps:List Str} {qual:Str} {scope:Scope} {f:Addr} {cd:Value} {A:Around} {outer:List Env} {s s1:Shared} {H:Hp} {E:XK} {us:List Value} {vs:List V}
    (S:FnScope N ps scope) (hd:A.handled=none) (e0:Env0 P w K mg base A outer s H) (hl:vs.length=ps.length) (r:Vals vs us)
    (x:InCallC s s.heap.objs.size (bindL (envOfC qual scope s.heap.objs.size f cd).kindOf (ps.zip us) fun _=>none) (cellsFrom (s.heap.objs.size+1) scope.names []) (bindC (envOfC qual scope s.heap.objs.size f cd).kindOf (ps.zip us) fun _=>none) s1) :
    Inv (cxOf CX P w K mg base N qual scope f cd A outer s H E) [] (start N vs) H s1:=by
  have hpl:ps.length≤N.length:=by have:=congrArg List.length S.pre; rw [List.length_take] at this; omega
  obtain ⟨h1,tk,rfl,hk⟩:=x.done
  have noA:∀ b:Addr,b ∉ (cxOf CX P w K mg base N qual scope f cd A outer s H E).ex:=fun b z=>absurd (show b∈([]:List Addr) from z) (by simp)
  refine ⟨⟨e0.mod,S.kind,rfl,rfl,Nat.le_refl _,fun y z c h1 h2=>?_,fun y hy=>?_,fun y c _ h=>?_,fun _=>hd,Around.frames_deeper e0.frames,.inr ⟨rfl,rfl⟩,fun b z=>absurd z (noA b),e0.bs,e0.bsz,fun b _ _=>noA b,fun b z=>absurd z (noA b),e0.funs,e0.frf⟩,
    rfl,e0.bare,Un.kept hk,⟨_,x.toInCall.ns,fun i y v h1 h2 h3=>?_⟩,fun y c h=>⟨_,x.cell y c h⟩,e0.hok.fresh (Nat.le_refl _),fun y c h=>?_,fun p hp=>absurd (show p∈([]:List (Addr×Obj)) from hp) (by simp),e0.hok.kept hk,?_⟩
  · exact name_of_addr x.apart (PySem.mem_of_lookup h1) (PySem.mem_of_lookup h2)
  · have hy:scope.names.lookup y=some .cell∨scope.names.lookup y=some .free:=hy
    rcases hy with hy | hy
    · exact cell_has hy
    · exact absurd rfl (S.nofree _ (PySem.mem_of_lookup hy))
  · exact Nat.le_of_lt (x.above y c (PySem.mem_of_lookup h))
  · have hi:i<vs.length:=by
      unfold start at h2
      by_cases hi:i<vs.length
      · exact hi
      · rw [List.getElem?_append_right (by simpa using hi)] at h2
        rw [List.getElem?_replicate] at h2
        split at h2<;>cases h2
    have ha:vs[i]?=some v:=by
      unfold start at h2
      rw [List.getElem?_append_left (by simpa using hi),List.getElem?_map] at h2
      cases e:vs[i]? with
      | none=>rw [e] at h2; cases h2
      | some a=>rw [e] at h2; cases h2; rfl
    obtain ⟨u,hu,rv⟩:=r.get ha
    have hp:ps[i]?=some y:=by
      rw [← S.pre,List.getElem?_take_of_lt (by omega)]; exact h1
    have ndP:ps.Nodup:=by rw [← S.pre]; exact S.nd.sublist (List.take_sublist _ _)
    refine ⟨u,rv,?_⟩
    rcases S.par y (List.mem_of_getElem? hp) with k | k
    · exact .inl ⟨k,bindL_get ndP hp hu k⟩
    · obtain ⟨c,e⟩:=cell_has (n:=s.heap.objs.size+1) k
      refine .inr ⟨.inl k,c,e,?_⟩
      have q:=x.cell y c e
      rw [bindC_get ndP hp hu (by show scope.names.lookup y≠_; rw [k]; decide)] at q
      exact q
  · exact e0.hok.fresh (Nat.le_of_lt (x.above y c (PySem.mem_of_lookup h)))
  · unfold start
    show _=N.length
    rw [List.length_append,List.length_map,List.length_replicate]
    omega
theorem fn_of {CX:CXT} {P:Program} {w:World} {K:PySem.W.Frag} {mg:Str→Option Value} {base:Heap} {k:Nat} {f:Addr} {name qual:Str} {params:Arguments} {body:List Stmt} {scope:Scope} {dV kV doc pm cdv ct oc:Value} {an od:Option Addr}
    {osl:Array (Option Value)} {N ps:List Str} {sp:Sp} (lk:K.lookup f=some ⟨oc,od,.func (PySem.W.fnOf name qual params body scope dV kV doc pm an cdv ct),osl⟩) (hcd:PySem.W.codeIn K cdv qual=true) (S:FnScope N ps scope)
    (len:∀ vs H Q E,sp vs H Q E→vs.length=ps.length)
    (hbody:∀ (A:Around) (outer:List Env) (s:Shared) (H:Hp) (vs:List V) (Q:VK) (E:XK),Room k (A.deeper (envOfC qual scope s.heap.objs.size f cdv))→sp vs H Q E→
      ∃ t,PSs (cxOf CX P w K mg base N qual scope f cdv A outer s H E) body t∧t { nx:=fun _ H'=>Q .non H',rt:=Q } (start N vs) H) :
    FnOk P w K mg base CX (k+1) f (PySem.W.fnOf name qual params body scope dV kV doc pm an cdv ct) ps sp:=by
  refine ⟨len,fun A outer s H args us vs Q E hr e0 hb r hsp=>?_⟩
  have hl:=len _ _ _ _ hsp
  have KX:K.In s.heap:=e0.mod.kin.keeps fun b o e=>(e0.bs b o e).1
  have lim:s.heap.NoLimit:=e0.mod.nolimit.keeps fun b o e=>(e0.bs b o e).1
  have hkind:∀ y∈ps.zip us,scope.names.lookup y.1=some .local∨(scope.names.lookup y.1=some .cell∧((cellsFrom (s.heap.objs.size+1) scope.names []).lookup y.1).isSome=true):=fun ⟨n,v⟩ hy=>by
    rcases S.par n (List.of_mem_zip hy).1 with q | q
    · exact .inl q
    · exact .inr ⟨q,PySem.W.cellsFrom_some _ _ _ (.inl q)⟩
  refine codeAny_call_function hr.depth (KX _ _ lk) rfl S.co S.gen rfl (PySem.W.codeRec_of KX hcd) (hb _ _ _ _ ?_)
  refine wpAny_newFunctionEnv_cells S.kind hkind fun env he s1 x=>?_
  subst he
  refine ⟨lim.keeps x.toInCall.keep,codeAny_func ?_⟩
  obtain ⟨t,ht,hq⟩:=hbody A outer s H vs Q E (hr.deeper _) hsp
  have I:Inv (cxOf CX P w K mg base N qual scope f cdv A outer s H E) [] (start N vs) H s1:=inv_start S hr.hd e0 hl r x
  refine wpAny_mono (ht [] s1 (start N vs) H _ I hq) (fun fl s' hs=>?_) fun e s' hs=>hs
  have fin:∀ {σ':St} {H':Hp} {v:V} {u:Value},Inv (cxOf CX P w K mg base N qual scope f cdv A outer s H E) [] σ' H' s'→RelV v u→Q v H'→CE outer P w H s Q u s':=
    fun {σ' H' v u} J rv q=>⟨v,H',J.os,J.bare,J.base,J.hok,rv,q⟩
  cases fl with
  | ret u=>
    obtain ⟨v,σ',H',J,rv,q⟩:=hs
    exact fin J rv q
  | next=>
    obtain ⟨σ',H',J,q⟩:=hs
    exact fin (v:=V.non) (u:=Value.none) J rfl q
  | brk=>
    obtain ⟨_,_,_,q⟩:=hs
    exact False.elim q
  | cont=>
    obtain ⟨_,_,_,q⟩:=hs
    exact False.elim q
end L2
namespace L2
open PySem PySem.Spec PyProof.Rows
section
variable {X:Cx} {x:Str} {p pos:Pos} {e:Expr} {es:List Expr} {t:TA} {id T:String} {r:List V→Hp→VK→Prop}
noncomputable def tCB (r:List V→Hp→VK→Prop) (t:TA):TE:=fun σ H Q=>t σ H fun vs H1=>r vs H1 Q
theorem pe_callB (hc:CallR X (.builtin id) r) (hg:Gl X x) (hm:X.mg x=none) (hv:bootBuiltins x=some (.builtin id)) (ha:PA X (e::es) t) (hn:x ≠ "__name__" := by decide) (hdb:(x == ("__debug__" : Str))=false:=by decide)
    (he:starEach (e::es) X.env=(false,eval e X.env)::starEach es X.env:=by rfl) (hpl:(backTo pos (starEach es X.env)).any (·.1)=false:=by rfl):PE X (.Call (.Name x p) (e::es) [] pos) (tCB r t):=by
  intro pins s σ H Q I h
  refine wpAny_Call_Name_kw (ld_blt I hg hm hv ?_ hn hdb)
  exact PyProof.Rows.callWith_builtin1 (thn (ha pos pins s σ H _ I h) fun us s1 ⟨vs,H1,I1,r1,q1⟩=>hc pins s1 σ H1 vs us Q I1 r1 q1) he hpl
theorem pe_callTy (hc:CallR X (.type T) r) (hg:Gl X x) (hm:X.mg x=none) (hv:bootBuiltins x=some (.type T)) (ha:PA X (e::es) t) (hn:x ≠ "__name__" := by decide) (hdb:(x == ("__debug__" : Str))=false:=by decide)
    (he:starEach (e::es) X.env=(false,eval e X.env)::starEach es X.env:=by rfl) (hpl:(backTo pos (starEach es X.env)).any (·.1)=false:=by rfl):PE X (.Call (.Name x p) (e::es) [] pos) (tCB r t):=by
  intro pins s σ H Q I h
  refine wpAny_Call_Name_kw (ld_blt I hg hm hv ?_ hn hdb)
  exact PyProof.Rows.callWith_type1 (thn (ha pos pins s σ H _ I h) fun us s1 ⟨vs,H1,I1,r1,q1⟩=>hc pins s1 σ H1 vs us Q I1 r1 q1) he hpl
end
end L2
namespace HT
open PySem PyProof.Rows
section
open PySem.SeqAt
open PySem.AutoSeq1 (wpAny_loadPart')
open PySem.MeetsSeq PySem.MeetsSeq2 PySem.MeetsSeq3
end
section
variable {prog:Program} {w:World} {A:Around} {E:Value→Shared→Prop} {s:Shared}
theorem cat_tup {t b:Addr} {vs ws:List Value} {Q:Value→Shared→Prop} (ht:IsTup s.heap t vs.toArray) (hb:IsTup s.heap b ws.toArray) (hv:vs≠[])
    (h1:ws=[]→Q (.ref t) s) (h2:ws≠[]→Q (.ref s.heap.objs.size) { s with heap:=s.heap.push { cls:=.type "tuple",data:=.seq (vs++ws).toArray } })
    (hsz:vs.length+ws.length≤sizeLine):wpAny (model prog w) A (binaryOp .Add (.ref t) (.ref b)) Q E s:=by
  obtain ⟨⟨cls,dd,data,sl⟩,ho,hc,n,hd⟩:=id ht
  obtain ⟨⟨cls2,dd2,data2,sl2⟩,ho2,hc2,n2,hd2⟩:=id hb
  simp only at hc hd hc2 hd2
  subst hc hd hc2 hd2
  have e:vs.toArray++ws.toArray=(vs++ws).toArray:=by simp
  by_cases hw:ws=[]
  · exact concat_meets ⟨_,ho,rfl⟩ ⟨_,ho2,rfl⟩ noFill_tuple_add seq_tuple_add PySem.F.slot_tuple_add PySem.F.entry_tuple_add (PySem.F.args_tuple_add_2 _ _)
      (tuple_addW1 t b vs.toArray ws.toArray n n2 dd dd2 sl sl2 (by simpa using hv) (by simp [hw])) ⟨ho,ho2,h1 hw⟩
  · refine concat_meets ⟨_,ho,rfl⟩ ⟨_,ho2,rfl⟩ noFill_tuple_add seq_tuple_add PySem.F.slot_tuple_add PySem.F.entry_tuple_add (PySem.F.args_tuple_add_2 _ _)
      (tuple_addW2 t b vs.toArray ws.toArray n n2 dd dd2 sl sl2 (by simpa using hv) (by simpa using hw) (by rw [List.size_toArray,List.size_toArray]; exact hsz)) ⟨ho,ho2,?_⟩
    rw [e]
    exact h2 hw
noncomputable def sIx (n d:Nat):Option Int→Nat
  | none=>d
  | some v=>if v<0 then (v+(n:Int)).toNat else min v.toNat n
theorem sIx_nat (n d k:Nat):sIx n d (some (k:Int))=min k n:=by
  show (if (k:Int)<0 then ((k:Int)+(n:Int)).toNat else min (k:Int).toNat n)=min k n
  rw [if_neg (by omega),Int.toNat_natCast]
theorem sIx_le (n d:Nat) (hd:d≤n) (o:Option Int):sIx n d o≤n:=by
  cases o with
  | none=>exact hd
  | some v=>
    show (if v<0 then (v+(n:Int)).toNat else min v.toNat n)≤n
    by_cases hv:v<0
    · rw [if_pos hv]; omega
    · rw [if_neg hv]; exact Nat.min_le_right _ _
theorem clip_eq (v:Int) (n d:Nat):(if v<0 then max (v+(n:Int)) 0 else min v (n:Int))=((sIx n d (some v):Nat):Int):=by
  show (if v<0 then max (v+(n:Int)) 0 else min v (n:Int))=(((if v<0 then (v+(n:Int)).toNat else min v.toNat n):Nat):Int)
  by_cases hv:v<0
  · simp only [if_pos hv]; omega
  · simp only [if_neg hv]; omega
theorem adjust_gen (lo hi:Option Int) (n:Nat):Builtin.Slice.sliceAdjust lo hi 1 (n:Int)=(((sIx n 0 lo:Nat):Int),((sIx n n hi:Nat):Int)):=by
  have h1:¬ ((1:Int)<0):=by omega
  unfold Builtin.Slice.sliceAdjust
  simp only [h1,if_false]
  refine Prod.ext ?_ ?_
  · cases lo with
    | none=>rfl
    | some v=>exact clip_eq v n 0
  · cases hi with
    | none=>rfl
    | some v=>exact clip_eq v n n
theorem places_gen (i j:Nat):Builtin.Slice.slicePlaces (i:Int) (j:Int) 1=j - i:=by
  unfold Builtin.Slice.slicePlaces
  have h1:(1:Int) > 0:=by omega
  simp only [h1,if_true,Int.ediv_one]
  split<;>omega
theorem slicePart_ {v:Value} {o:Option Int} {Q:Option Int→Shared→Prop} (p:IsPart v o) (h:Q o s):wpAny (model prog w) A (Builtin.Slice.slicePartIndex v) Q E s:=by
  cases p with
  | none=>exact slicePart_none h
  | int i t=>exact slicePart_int h
theorem sliceApplied_gen {sl:Addr} {vl vu:Value} {lo hi:Option Int} {n:Nat} {Q:Int×Int×Nat→Shared→Prop} (hs:s.heap.IsSliceOf sl vl vu .none) (pl:IsPart vl lo) (pu:IsPart vu hi)
    (h:Q (((sIx n 0 lo:Nat):Int),1,sIx n n hi - sIx n 0 lo) s):wpAny (model prog w) A (Builtin.Slice.sliceApplied (.ref sl) (pure (n:Int))) Q E s:=by
  obtain ⟨os,hos,hcs,hds⟩:=id hs
  unfold Builtin.Slice.sliceApplied Builtin.Slice.sliceFields
  refine wpAny_bind (wpAny_bind (wpAny_field hos hds (x:=vl) rfl (wpAny_bind (wpAny_field hos hds (x:=vu) rfl (wpAny_bind (wpAny_field hos hds (x:=.none) rfl (wpAny_pure ?_)))))))
  refine wpAny_bind (slicePart_none ?_)
  show wpAny _ _ (if ((1:Int) == 0)=true then _ else _) _ _ s
  rw [if_neg (by decide)]
  refine wpAny_bind (slicePart_ pl (wpAny_bind (slicePart_ pu (wpAny_bind (wpAny_pure ?_)))))
  show wpAny _ _ (match Builtin.Slice.sliceAdjust lo hi 1 (n:Int) with | (lo,hi)=>pure (lo,(1:Int),Builtin.Slice.slicePlaces lo hi 1)) _ _ s
  rw [adjust_gen lo hi n]
  show wpAny _ _ (pure (((sIx n 0 lo:Nat):Int),(1:Int),Builtin.Slice.slicePlaces ((sIx n 0 lo:Nat):Int) ((sIx n n hi:Nat):Int) 1)) _ _ s
  rw [places_gen]
  exact wpAny_pure h
theorem pick_gen (xs:Array Value) (i k:Nat):((List.range k).filterMap fun (m:Nat)=>xs[((i:Int)+(m:Int)*1).toNat]?).toArray=((xs.toList.drop i).take k).toArray:=by
  have e:(fun (m:Nat)=>xs[((i:Int)+(m:Int)*1).toNat]?)=fun m=>xs[i+m]?:=by
    funext m
    have:((i:Int)+(m:Int)*1).toNat=i+m:=by omega
    rw [this]
  rw [e]
  have:=pick_run xs i k
  rw [List.filterMap_map] at this
  have e2:((fun x=>xs[x]?) ∘ fun x=>i+x)=fun m=>xs[i+m]?:=rfl
  rw [e2] at this
  rw [this]
theorem getItem_tuple_cut {t sl:Addr} {items:Array Value} {vl vu:Value} {lo hi:Option Int} {Q:Value→Shared→Prop} (ht:IsTup s.heap t items) (hs:s.heap.IsSliceOf sl vl vu .none) (pl:IsPart vl lo) (pu:IsPart vu hi)
    (hw:¬ (sIx items.size 0 lo=0∧sIx items.size items.size hi=items.size))
    (h:Q (.ref s.heap.objs.size) { s with heap:=s.heap.push { cls:=.type "tuple",data:=.seq ((items.toList.drop (sIx items.size 0 lo)).take (sIx items.size items.size hi - sIx items.size 0 lo)).toArray } })
    (hsz:items.size≤sizeLine):wpAny (model prog w) A (getItem (.ref t) (.ref sl)) Q E s:=by
  have htake:sizeOk (.seq ((items.toList.drop (sIx items.size 0 lo)).take (sIx items.size items.size hi - sIx items.size 0 lo)).toArray):=by
    show ((items.toList.drop (sIx items.size 0 lo)).take (sIx items.size items.size hi - sIx items.size 0 lo)).toArray.size≤sizeLine
    rw [List.size_toArray,List.length_take,List.length_drop,Array.length_toList]
    omega
  have hj:sIx items.size items.size hi≤items.size:=sIx_le _ _ (Nat.le_refl _) hi
  obtain ⟨os,hos,hcs,hds⟩:=id hs
  have hTs:s.TypeIs (.ref sl) "slice" := ⟨os,hos,hcs⟩
  unfold getItem
  try with_reducible refine wpAny_holding ?_
  first | refine wpAny_bind (wpAny_pure ?_) | skip
  refine wpAny_bind (wpAny_sequenceKey ht.typeIs (by decide) ?_)
  refine wpAny_bind (wpAny_callSpecial?_slot (name:=Str.ofString "__getitem__") ht.typeIs PyProof.Rows.slot_tuple_getitem
    (wpAny_call_entry PyProof.Rows.slot_tuple_getitem ht.typeIs entry_tuple_getitem ?_ (args_tuple_getitem _ _)))
  show wpAny _ _ (Builtin.Tuple.tupleItemsOf (.ref t) >>= _) _ _ s
  refine wpAny_bind (tupleItemsOf_ ht ?_)
  refine wpAny_bind (wpAny_typeOf hTs ?_)
  rw [if_pos (by decide)]
  refine wpAny_bind (sliceApplied_gen hs pl pu ?_)
  have hno:¬ ((((sIx items.size 0 lo:Nat):Int) == 0&&(1:Int) == 1&&(sIx items.size items.size hi - sIx items.size 0 lo) == items.size)=true):=by
    intro q
    rw [Bool.and_eq_true,Bool.and_eq_true] at q
    have q1:((sIx items.size 0 lo:Nat):Int)=0:=eq_of_beq q.1.1
    have q2:sIx items.size items.size hi - sIx items.size 0 lo=items.size:=eq_of_beq q.2
    exact hw ⟨by omega,by omega⟩
  show wpAny _ _ (if (((sIx items.size 0 lo:Nat):Int) == 0&&(1:Int) == 1&&(sIx items.size items.size hi - sIx items.size 0 lo) == items.size)=true then _ else _) _ _ s
  rw [if_neg hno,pick_gen]
  first
    | exact wpAny_bind (m:=Builtin.Tuple.tupleExact _) (wpAny_newObj_type (wpAny_pure ⟨_,rfl,wpAny_pure h⟩) htake)
    | exact wpAny_bind (m:=Builtin.Tuple.tupleExact _) (wpAny_newObj_type (wpAny_bind (wpAny_pure (wpAny_pure ⟨_,rfl,wpAny_pure h⟩))) htake)
    | exact wpAny_bind (wpAny_bind (m:=Builtin.Tuple.tupleExact _) (wpAny_newObj_type (wpAny_pure (wpAny_pure ⟨_,rfl,wpAny_pure h⟩)) htake))
    | exact wpAny_bind (wpAny_bind (m:=Builtin.Tuple.tupleExact _) (wpAny_newObj_type (wpAny_pure ⟨_,rfl,wpAny_pure h⟩) htake))
end
end HT
namespace L2
open PySem PySem.Spec PyProof.Rows
noncomputable abbrev TO:=St→Hp→(Option Int→Hp→Prop)→Prop
noncomputable def PO (X:Cx) (e:Option Expr) (t:TO):Prop:=
  ∀ (pins:List (Addr×Obj)) (s:Shared) (σ:St) (H:Hp) (Q:Option Int→Hp→Prop),Inv X pins σ H s→t σ H Q→
    wpAny (model X.prog X.w) X.A (evalPart e X.env) (fun u s'=>∃ o H',Inv X pins σ H' s'∧IsPart u o∧Q o H') X.xe s
noncomputable def tNoPart:TO:=fun _ H Q=>Q none H
noncomputable def tPart (t:TE):TO:=fun σ H Q=>t σ H fun x H1=>∃ i,x=.int i∧Q (some i) H1
section
variable {X:Cx} {e:Expr} {te:TE} {lo hi:Option Expr} {tl th:TO} {pos p2:Pos}
theorem po_none:PO X none tNoPart:=by
  intro pins s σ H Q I h
  rw [evalPart_none]
  exact wpAny_pure ⟨none,H,I,.none,h⟩
theorem po_some (h:PE X e te):PO X (some e) (tPart te):=by
  intro pins s σ H Q I hw
  rw [evalPart_some]
  refine thn (h pins s σ H _ I hw) fun u s1 ⟨x,H1,I1,r1,q1⟩=>?_
  obtain ⟨i,rfl,q⟩:=q1
  obtain ⟨t,rfl⟩:=r1
  exact ⟨some i,H1,I1,.int i t,q⟩
noncomputable def SlR (X:Cx) (r:V→Option Int→Option Int→Hp→VK→Prop):Prop:=
  ∀ (pins:List (Addr×Obj)) (s:Shared) (σ:St) (H:Hp) (x:V) (v vl vu:Value) (lo hi:Option Int) (sl:Addr) (Q:VK),Inv X pins σ H s→RelV x v→s.heap.IsSliceOf sl vl vu .none→IsPart vl lo→IsPart vu hi→r x lo hi H Q→
    ∃ T id,typeLookup (.type T) "__getitem__" = pure (some (.builtin id))∧s.TypeIs v T∧wpAny (model X.prog X.w) X.A (getItem v (.ref sl)) (EP X pins σ Q) X.xe s
theorem SlR.or {r r':V→Option Int→Option Int→Hp→VK→Prop} (h:SlR X r) (h':SlR X r'):SlR X (fun x lo hi H Q=>r x lo hi H Q∨r' x lo hi H Q):=by
  intro pins s σ H x v vl vu lo hi sl Q I rx hs pl pu q
  rcases q with q | q
  · exact h pins s σ H x v vl vu lo hi sl Q I rx hs pl pu q
  · exact h' pins s σ H x v vl vu lo hi sl Q I rx hs pl pu q
noncomputable def tSl (r:V→Option Int→Option Int→Hp→VK→Prop) (te:TE) (tl th:TO):TE:=fun σ H Q=>te σ H fun x H1=>tl σ H1 fun l H2=>th σ H2 fun u H3=>r x l u H3 Q
theorem pe_slice {r:V→Option Int→Option Int→Hp→VK→Prop} (hr:SlR X r) (he:PE X e te) (hl:PO X lo tl) (hu:PO X hi th):PE X (.Subscript e (.Slice lo hi none p2) pos) (tSl r te tl th):=by
  intro pins s σ H Q I h
  refine Subscript_ (thn (he pins s σ H _ I h) fun v s1 ⟨x,H1,I1,r1,q1⟩=>?_)
  refine wpAny_Slice (thn (hl pins s1 σ H1 _ I1 q1) fun vl s2 ⟨l,H2,I2,pl,q2⟩=>thn (hu pins s2 σ H2 _ I2 q2) fun vu s3 ⟨u,H3,I3,pu,q3⟩=>?_)
  rw [evalPart_none]
  refine wpAny_pure ?_
  have I4:Inv X pins σ H3 { s3 with heap:=s3.heap.push { cls:=.type "slice",data:=.fields #[vl,vu,.none] } }:=I3.kept (t':=s3.toks) fun b ob q=>Heap.get?_push_of_some _ q
  obtain ⟨T,id,hT,ht,hg⟩:=hr pins { s3 with heap:=s3.heap.push { cls:=.type "slice",data:=.fields #[vl,vu,.none] } } σ H3 x v vl vu l u s3.heap.objs.size Q I4 r1 (Heap.IsSliceOf.new ..) pl pu q3
  show wpAny (model X.prog X.w) X.A (subscriptTail e (.Slice lo hi none p2) v (.ref s3.heap.objs.size)) (EP X pins σ Q) X.xe { s3 with heap:=s3.heap.push { cls:=.type "slice",data:=.fields #[vl,vu,.none] } }
  exact tail_any (ops:=[.ref s3.heap.objs.size,v]) ht hT hg (by with_unfolding_all rfl)
noncomputable def cutV (xs:List V) (lo hi:Option Int):List V:=(xs.drop (HT.sIx xs.length 0 lo)).take (HT.sIx xs.length xs.length hi - HT.sIx xs.length 0 lo)
theorem cutV_length (xs:List V) (lo hi:Option Int):(cutV xs lo hi).length≤xs.length:=by
  unfold cutV
  rw [List.length_take,List.length_drop]
  omega
noncomputable def rSlT (K:PySem.W.Frag):V→Option Int→Option Int→Hp→VK→Prop:=fun x lo hi H Q=>∃ a xs,x=.ref a∧SqT K H a xs∧
  ¬ (HT.sIx xs.length 0 lo=0∧HT.sIx xs.length xs.length hi=xs.length)∧∀ p,H p=none→Q (.ref p) (upd H p (.tup (cutV xs lo hi)))
theorem sl_tup:SlR X (rSlT X.K):=by
  intro pins s σ H x v vl vu lo hi sl Q I rx hs pl pu h
  obtain ⟨a,xs,rfl,hx,hw,q⟩:=h
  cases rx
  obtain ⟨its,r,ht,hz⟩:=I.tuple hx
  have hlen:its.toArray.size=xs.length:=by rw [List.size_toArray]; exact r.length.symm
  refine ⟨"tuple",_,PyProof.Rows.slot_tuple_getitem.lookup,ht.typeIs,?_⟩
  refine HT.getItem_tuple_cut ht hs pl pu (by rw [hlen]; exact hw) ?_ (by rw [hlen]; exact hz)
  rw [hlen]
  refine ⟨.ref s.heap.objs.size,_,I.laid (t':=s.toks) (o:=.tup (cutV xs lo hi)) (fun b ob q=>Heap.get?_push_of_some _ q) (Nat.le_refl _) ?_,rfl,q _ (I.hok.fresh (Nat.le_refl _))⟩
  exact ⟨Nat.le_trans (cutV_length xs lo hi) hz,_,(r.drop (HT.sIx xs.length 0 lo)).take (HT.sIx xs.length xs.length hi - HT.sIx xs.length 0 lo),IsTup.new _ _⟩
noncomputable def rCatT (K:PySem.W.Frag):R2:=fun x y H Q=>∃ a b xs ys,x=.ref a∧y=.ref b∧SqT K H a xs∧SqT K H b ys∧xs≠[]∧xs.length+ys.length≤sizeLine∧
  (ys=[]→Q (.ref a) H)∧(ys≠[]→∀ p,H p=none→Q (.ref p) (upd H p (.tup (xs++ys))))
theorem Vals.nil_iff {xs:List V} {us:List Value} (r:Vals xs us):us=[]↔xs=[]:=by
  cases r with
  | nil=>simp
  | cons _ _=>simp
theorem op_catT:OpR X (binaryOp .Add) (rCatT X.K):=by
  intro pins s σ H x y v u Q I rx ry h
  obtain ⟨a,b,xs,ys,rfl,rfl,ha,hb,hx,hz,q1,q2⟩:=h
  cases rx
  cases ry
  obtain ⟨its,r1,p1,_⟩:=I.tuple ha
  obtain ⟨its2,r2,p2,_⟩:=I.tuple hb
  refine HT.cat_tup p1 p2 (fun z=>hx (r1.nil_iff.mp z)) (fun z=>⟨.ref a,H,I,rfl,q1 (r2.nil_iff.mp z)⟩) (fun z=>?_) (by rw [← r1.length,← r2.length]; exact hz)
  refine ⟨.ref s.heap.objs.size,_,I.laid (t':=s.toks) (o:=.tup (xs++ys)) (fun b ob q=>Heap.get?_push_of_some _ q) (Nat.le_refl _) ?_,rfl,q2 (fun w=>z (r2.nil_iff.mpr w)) _ (I.hok.fresh (Nat.le_refl _))⟩
  exact ⟨by rw [List.length_append]; exact hz,_,r1.append r2,IsTup.new _ _⟩
end
end L2
namespace L2
open PySem PySem.Spec PyProof.Rows
noncomputable def ixN (n:Nat) (i:Int):Option Nat:=if 0≤i then (if i<n then some i.toNat else none) else if -(n:Int)≤i then some (i+n).toNat else none
noncomputable def atI {α:Type} (xs:List α) (i:Int):Option α:=(ixN xs.length i).bind fun j=>xs[j]?
theorem ixN_seq {n:Nat} {i:Int} {j:Nat} (h:ixN n i=some j):seqIndex? i n=some j∧j<n ∧ -(n:Int)≤i∧i<n:=by
  unfold ixN at h
  by_cases h0:0≤i
  · rw [if_pos h0] at h
    by_cases h1:i<n
    · rw [if_pos h1] at h
      have e:i.toNat=j:=Option.some.inj h
      exact ⟨by rw [seqIndex_of h0 h1,e],by omega,by omega,h1⟩
    · rw [if_neg h1] at h; cases h
  · rw [if_neg h0] at h
    by_cases h1 : -(n:Int)≤i
    · rw [if_pos h1] at h
      have e:(i+n).toNat=j:=Option.some.inj h
      exact ⟨by rw [seqIndex_neg (by omega) h1,e],by omega,h1,by omega⟩
    · rw [if_neg h1] at h; cases h
theorem atI_get {α:Type} {xs:List α} {i:Int} {v:α} (h:atI xs i=some v):∃ j,seqIndex? i xs.length=some j∧xs[j]?=some v∧j<xs.length ∧ -(xs.length:Int)≤i∧i<xs.length:=by
  unfold atI at h
  cases e:ixN xs.length i with
  | none=>rw [e] at h; cases h
  | some j=>
    rw [e] at h
    obtain ⟨h1,h2,h3,h4⟩:=ixN_seq e
    exact ⟨j,h1,h,h2,h3,h4⟩
noncomputable def PlainIx (b:Expr):Prop:=∀ o i,subscripted b false o i=operate [o,i] (getItem o i)
noncomputable def IxR (X:Cx) (r:R2):Prop:=
  ∀ (value slice:Expr) (pins:List (Addr×Obj)) (s:Shared) (σ:St) (H:Hp) (x y:V) (v u:Value) (Q:VK),Inv X pins σ H s→RelV x v→RelV y u→r x y H Q→
    subscripted slice false v u=operate [v,u] (getItem v u)→wpAny (model X.prog X.w) X.A (subscriptTail value slice v u) (EP X pins σ Q) X.xe s
noncomputable def MtR (X:Cx) (id:String) (r:V→List V→Hp→VK→Prop):Prop:=
  ∀ (pins:List (Addr×Obj)) (s:Shared) (σ:St) (H:Hp) (x:V) (xs:List V) (v:Value) (us:List Value) (Q:VK),Inv X pins σ H s→RelV x v→Vals xs us→r x xs H Q→
    wpAny (model X.prog X.w) X.A (call (.builtin id) (v::us)) (EP X pins σ Q) X.xe s
section
variable {X:Cx} {a b:Expr} {ta tb:TE} {pos:Pos}
theorem IxR.or {r r':R2} (h:IxR X r) (h':IxR X r'):IxR X (fun x y H Q=>r x y H Q∨r' x y H Q):=by
  intro value slice pins s σ H x y v u Q I rx ry q hs
  rcases q with q | q
  · exact h value slice pins s σ H x y v u Q I rx ry q hs
  · exact h' value slice pins s σ H x y v u Q I rx ry q hs
theorem pe_ix {r:R2} (hr:IxR X r) (ha:PE X a ta) (hb:PE X b tb) (hs:PlainIx b):PE X (.Subscript a b pos) (tOp r ta tb):=by
  intro pins s σ H Q I h
  exact Subscript_ (binT ha hb I h fun v u s2 x y H2 I2 rx ry q=>hr a b pins s2 σ H2 x y v u Q I2 rx ry q (hs _ _))
noncomputable def rIxL (K:PySem.W.Frag):R2:=fun x y H Q=>∃ p xs i v,x=.ref p∧y=.int i∧SqL K H p xs∧atI xs i=some v∧Q v H
noncomputable def rIxT (K:PySem.W.Frag):R2:=fun x y H Q=>∃ p xs i v,x=.ref p∧y=.int i∧SqT K H p xs∧atI xs i=some v∧Q v H
noncomputable def rIxS:R2:=fun x y H Q=>∃ z i c,x=.str z∧y=.int i∧z.length≤sizeLine∧atI z.cps.toList i=some c∧Q (.str ⟨#[c]⟩) H
theorem ix_list:IxR X (rIxL X.K):=by
  intro value slice pins s σ H x y v u Q I rx ry h hs
  obtain ⟨p,xs,i,z,rfl,rfl,hq,he,q⟩:=h
  cases rx
  obtain ⟨t,rfl⟩:=ry
  obtain ⟨its,r,pl,hz⟩:=I.list hq
  obtain ⟨j,h1,h2,h3,h4,h5⟩:=atI_get he
  obtain ⟨w,ew,rw'⟩:=r.get h2
  have hl:=r.length
  have hn:=line63
  have fin:EP X pins σ Q w s:=⟨z,H,I,rw',q⟩
  by_cases h0:0≤i
  · have hj:i.toNat=j:=by
      rw [seqIndex_of h0 h5] at h1
      exact Option.some.inj h1
    exact item_listR pl.isList h0 (by omega) (by rw [hj]; simpa using ew) fin hs
  · have hj:(i+(its.toArray.size:Int)).toNat=j:=by
      rw [seqIndex_neg (by omega) h4] at h1
      rw [List.size_toArray,← hl]
      exact Option.some.inj h1
    exact subscriptTail_builtinR (x:=w) pl.isList.typeIs slot_list_getitem.lookup
      (wpAny_getItem_list_neg (Q:=fun r s'=>r=w∧EP X pins σ Q r s') pl.isList (by omega) (by rw [List.size_toArray]<;>omega) (by omega) (by rw [hj]; simpa using ew) ⟨rfl,fin⟩) hs
theorem ix_tup:IxR X (rIxT X.K):=by
  intro value slice pins s σ H x y v u Q I rx ry h hs
  obtain ⟨p,xs,i,z,rfl,rfl,hq,he,q⟩:=h
  cases rx
  obtain ⟨t,rfl⟩:=ry
  obtain ⟨its,r,pl,hz⟩:=I.tuple hq
  obtain ⟨j,h1,h2,h3,h4,h5⟩:=atI_get he
  obtain ⟨w,ew,rw'⟩:=r.get h2
  have hl:=r.length
  have hn:=line63
  have fin:EP X pins σ Q w s:=⟨z,H,I,rw',q⟩
  exact subscriptTail_builtinR (x:=w) pl.typeIs slot_tuple_getitem.lookup
    (getItem_tuple (j:=j) (Q:=fun r s'=>r=w∧EP X pins σ Q r s') pl (by omega) (by omega) (by rw [List.size_toArray,← hl]; exact h1) (by simpa using ew) ⟨rfl,fin⟩) hs
theorem ix_str:IxR X rIxS:=by
  intro value slice pins s σ H x y v u Q I rx ry h hs
  obtain ⟨z,i,c,rfl,rfl,hz,he,q⟩:=h
  obtain ⟨t,rfl⟩:=rx
  obtain ⟨t',rfl⟩:=ry
  obtain ⟨j,h1,h2,h3,h4,h5⟩:=atI_get he
  have hl:z.cps.toList.length=z.length:=by simp [Str.length]
  rw [hl] at h1 h4 h5
  have hn:=line63
  exact tail_any (typeIs_str s z t) slot_str_getitem.lookup (getItem_str (c:=c) (by
    have e1:decide (i < -(2 ^ 63:Int))=false:=decide_eq_false (by omega)
    have e2:decide (i ≥ 2 ^ 63)=false:=decide_eq_false (by omega)
    rw [e1,e2,Bool.or_false]) (by rw [h1]; simpa using h2) ⟨.str ⟨#[c]⟩,H,I.tok _,⟨_,rfl⟩,q⟩) hs
noncomputable def rIx (K:PySem.W.Frag):R2:=fun x y H Q=>rIxL K x y H Q∨rIxT K x y H Q∨rIxS x y H Q
theorem ix_seq:IxR X (rIx X.K):=ix_list.or (ix_tup.or ix_str)
theorem slice_bounds (lo hi:Option Int) (n:Nat):(sliceBounds lo hi none n).1=((HT.sIx n 0 lo:Nat):Int)∧(sliceBounds lo hi none n).2.1=((HT.sIx n n hi:Nat):Int)∧(sliceBounds lo hi none n).2.2=1:=by
  refine ⟨?_,?_,rfl⟩
  · cases lo with
    | none=>simp [sliceBounds,HT.sIx]
    | some i=>
      simp only [sliceBounds,HT.sIx,Option.getD_none,show (1:Int) > 0 by decide,if_true]
      by_cases h:i<0
      · simp only [h,if_true]<;>omega
      · simp only [h,if_false]<;>omega
  · cases hi with
    | none=>simp [sliceBounds,HT.sIx]
    | some i=>
      simp only [sliceBounds,HT.sIx,Option.getD_none,show (1:Int) > 0 by decide,if_true]
      by_cases h:i<0
      · simp only [h,if_true]<;>omega
      · simp only [h,if_false]<;>omega
theorem slicePick_cut (its:List Value) (lo hi:Option Int):slicePick its.toArray lo hi none=((its.drop (HT.sIx its.length 0 lo)).take (HT.sIx its.length its.length hi - HT.sIx its.length 0 lo)).toArray:=by
  obtain ⟨h1,h2,h3⟩:=slice_bounds lo hi its.toArray.size
  unfold slicePick
  rw [h1,h2,h3]
  simp only [sliceRange_one,pick_run,List.size_toArray]<;>rfl
noncomputable def rSlL (K:PySem.W.Frag):V→Option Int→Option Int→Hp→VK→Prop:=fun x lo hi H Q=>∃ a xs,x=.ref a∧SqL K H a xs∧∀ p,H p=none→Q (.ref p) (upd H p (.lst (cutV xs lo hi)))
theorem sl_list:SlR X (rSlL X.K):=by
  intro pins s σ H x v vl vu lo hi sl Q I rx hs pl pu h
  obtain ⟨a,xs,rfl,hx,q⟩:=h
  cases rx
  obtain ⟨its,r,ht,hz⟩:=I.list hx
  have hlen:=r.length
  refine ⟨"list",_,slot_list_getitem.lookup,ht.isList.typeIs,?_⟩
  refine wpAny_getItem_list_slice ht.isList hs pl pu .none (by simp) ?_ (by rw [List.size_toArray]<;>omega)
  rw [slicePick_cut,← hlen]
  refine ⟨.ref s.heap.objs.size,_,I.laid (t':=s.toks) (o:=.lst (cutV xs lo hi)) (fun b ob q=>Heap.get?_push_of_some _ q) (Nat.le_refl _) ?_,rfl,q _ (I.hok.fresh (Nat.le_refl _))⟩
  exact ⟨Nat.le_trans (cutV_length xs lo hi) hz,_,0,(r.drop (HT.sIx xs.length 0 lo)).take (HT.sIx xs.length xs.length hi - HT.sIx xs.length 0 lo),Heap.get?_push_size _ rfl⟩
noncomputable def flatV:V→Bool
  | .non=>true
  | .bl _=>true
  | .int _=>true
  | .str _=>true
  | _=>false
noncomputable def eqV:V→V→Bool
  | .non,.non=>true
  | .bl a,.bl b=>a == b
  | .bl a,.int b=>(if a then 1 else 0) == b
  | .int a,.bl b=>a == (if b then 1 else 0)
  | .int a,.int b=>a == b
  | .str a,.str b=>a == b
  | _,_=>false
theorem eqAt_V {A:Around} {s:Shared} {y x:V} {u v:Value} (ry:RelV y u) (rx:RelV x v) (fy:flatV y=true) (fx:flatV x=true):SeqAt.EqAt A s u v (eqV y x):=by
  cases y with
  | non=>
    cases ry
    cases x with
    | non=>cases rx; exact SeqAt.EqAt.same _
    | bl b=>cases rx; exact SeqAt.EqAt.none_bool b
    | int b=>obtain ⟨t,rfl⟩:=rx; exact SeqAt.EqAt.none_int b t
    | str b=>obtain ⟨t,rfl⟩:=rx; exact SeqAt.EqAt.none_str b t
    | _=>exact absurd (show false=true from fx) Bool.false_ne_true
  | bl a=>
    cases ry
    cases x with
    | non=>cases rx; exact SeqAt.EqAt.bool_none a
    | bl b=>cases rx; exact SeqAt.EqAt.bool_bool a b
    | int b=>obtain ⟨t,rfl⟩:=rx; exact SeqAt.EqAt.bool_int a b t
    | str b=>obtain ⟨t,rfl⟩:=rx; exact SeqAt.EqAt.bool_str a b t
    | _=>exact absurd (show false=true from fx) Bool.false_ne_true
  | int a=>
    obtain ⟨t',rfl⟩:=ry
    cases x with
    | non=>cases rx; exact SeqAt.EqAt.int_none a t'
    | bl b=>cases rx; exact SeqAt.EqAt.int_bool a t' b
    | int b=>obtain ⟨t,rfl⟩:=rx; exact SeqAt.EqAt.int_int a t' b t
    | str b=>obtain ⟨t,rfl⟩:=rx; exact SeqAt.EqAt.int_str a t' b t
    | _=>exact absurd (show false=true from fx) Bool.false_ne_true
  | str a=>
    obtain ⟨t',rfl⟩:=ry
    cases x with
    | non=>cases rx; exact SeqAt.EqAt.str_none a t'
    | bl b=>cases rx; exact SeqAt.EqAt.str_bool a t' b
    | int b=>obtain ⟨t,rfl⟩:=rx; exact SeqAt.EqAt.str_int a t' b t
    | str b=>obtain ⟨t,rfl⟩:=rx; exact SeqAt.EqAt.str_str a t' b t
    | _=>exact absurd (show false=true from fx) Bool.false_ne_true
  | _=>exact absurd (show false=true from fy) Bool.false_ne_true
noncomputable def eqU (x:V) (u:Value):Bool:=match u with
  | .none=>eqV .non x
  | .bool b=>eqV (.bl b) x
  | .int i _=>eqV (.int i) x
  | .str z _=>eqV (.str z) x
  | _=>false
theorem eqU_of {x y:V} {u:Value} (r:RelV y u) (f:flatV y=true):eqU x u=eqV y x:=by
  cases y with
  | non=>cases r; rfl
  | bl b=>cases r; rfl
  | int i=>obtain ⟨t,rfl⟩:=r; rfl
  | str z=>obtain ⟨t,rfl⟩:=r; rfl
  | _=>exact absurd (show false=true from f) Bool.false_ne_true
theorem any_eqU {x:V}:∀ {xs:List V} {us:List Value},Vals xs us→xs.all flatV=true→us.any (eqU x)=xs.any fun y=>eqV y x
  | _,_,.nil,_=>rfl
  | y::xs,u::us,.cons r t,f=>by
    rw [List.all_cons,Bool.and_eq_true] at f
    rw [List.any_cons,List.any_cons,eqU_of r f.1,any_eqU t f.2]
theorem mem_eqAt {A:Around} {s:Shared} {x:V} {v:Value} (rx:RelV x v) (fx:flatV x=true):∀ {xs:List V} {us:List Value},Vals xs us→xs.all flatV=true→∀ u∈us,SeqAt.EqAt A s u v (eqU x u)
  | _,_,.nil,_=>fun u hu=>by cases hu
  | y::xs,u::us,.cons r t,f=>fun u' hu=>by
    rw [List.all_cons,Bool.and_eq_true] at f
    rcases List.mem_cons.mp hu with rfl | hu
    · rw [eqU_of r f.1]; exact eqAt_V r rx f.1 fx
    · exact mem_eqAt rx fx t f.2 u' hu
noncomputable def inV (x:V) (xs:List V):Bool:=xs.any fun y=>eqV y x
noncomputable def rIn (K:PySem.W.Frag) (neg:Bool):R2:=fun x y H Q=>∃ p xs,y=.ref p∧(SqL K H p xs∨SqT K H p xs)∧flatV x=true∧xs.all flatV=true∧Q (.bl (if neg then !inV x xs else inV x xs)) H
theorem op_in_seq:OpR X (compareOp .In) (rIn X.K false):=by
  intro pins s σ H x y v u Q I rx ry h
  obtain ⟨p,xs,rfl,hq,fx,fs,q⟩:=h
  cases ry
  rcases hq with hq | hq
  · obtain ⟨its,r,pl,hz⟩:=I.list hq
    refine SeqAt.in_listAt (eqU x) pl.isList (fun w hw=>mem_eqAt rx fx r fs w (by simpa using hw)) ⟨.bl _,H,I,rfl,?_⟩
    rw [show its.toArray.any (eqU x)=its.any (eqU x) by simp,any_eqU r fs]
    exact q
  · obtain ⟨its,r,pl,hz⟩:=I.tuple hq
    refine SeqAt.in_tupleAt (eqU x) pl (fun w hw=>mem_eqAt rx fx r fs w (by simpa using hw)) ⟨.bl _,H,I,rfl,?_⟩
    rw [show its.toArray.any (eqU x)=its.any (eqU x) by simp,any_eqU r fs]
    exact q
theorem op_notIn_seq:OpR X (compareOp .NotIn) (rIn X.K true):=by
  intro pins s σ H x y v u Q I rx ry h
  obtain ⟨p,xs,rfl,hq,fx,fs,q⟩:=h
  cases ry
  rcases hq with hq | hq
  · obtain ⟨its,r,pl,hz⟩:=I.list hq
    refine SeqAt.notIn_listAt (eqU x) pl.isList (fun w hw=>mem_eqAt rx fx r fs w (by simpa using hw)) ⟨.bl _,H,I,rfl,?_⟩
    rw [show its.toArray.any (eqU x)=its.any (eqU x) by simp,any_eqU r fs]
    exact q
  · obtain ⟨its,r,pl,hz⟩:=I.tuple hq
    refine SeqAt.notIn_tupleAt (eqU x) pl (fun w hw=>mem_eqAt rx fx r fs w (by simpa using hw)) ⟨.bl _,H,I,rfl,?_⟩
    rw [show its.toArray.any (eqU x)=its.any (eqU x) by simp,any_eqU r fs]
    exact q
theorem op_notIn_str:OpR X (compareOp .NotIn) (fun x y H Q=>∃ i j,x=.str i∧y=.str j∧Q (.bl (!(!(Builtin.Str.occurrences j i 0 j.length 1).isEmpty))) H):=by
  intro pins s σ H x y v u Q I rx ry h
  obtain ⟨i,j,rfl,rfl,q⟩:=h
  obtain ⟨t,rfl⟩:=rx
  obtain ⟨t',rfl⟩:=ry
  exact notIn_str ⟨.bl _,H,I,rfl,q⟩
theorem call_len_seq:CallR X (.builtin "len") (fun xs H Q=>∃ p ys,xs=[.ref p]∧(SqL X.K H p ys∨SqT X.K H p ys)∧Q (.int ys.length) H):=by
  intro pins s σ H xs us Q I r h
  obtain ⟨p,ys,rfl,hq,q⟩:=h
  obtain ⟨u,rfl,rx⟩:=vals1 r
  cases rx
  have hn:=line63
  rcases hq with hq | hq
  · obtain ⟨its,r',pl,hz⟩:=I.list hq
    have hlen:=r'.length
    exact Calls.call_len_list pl.isList (by simp only [List.size_toArray]<;>omega) ⟨.int ys.length,H,I.tok _,⟨s.toks+1,by rw [List.size_toArray,hlen]⟩,q⟩
  · obtain ⟨its,r',pl,hz⟩:=I.tuple hq
    have hlen:=r'.length
    exact len_tuple pl (by simp only [List.size_toArray]<;>omega) ⟨.int ys.length,H,I.tok _,⟨s.toks+1,by rw [List.size_toArray,hlen]⟩,q⟩
theorem call_len_str:CallR X (.builtin "len") (fun xs H Q=>∃ z,xs=[.str z]∧z.length≤sizeLine∧Q (.int z.length) H):=by
  intro pins s σ H xs us Q I r h
  obtain ⟨z,rfl,hz,q⟩:=h
  obtain ⟨u,rfl,t,rfl⟩:=vals1 r
  have hn:=line63
  exact len_str (by omega) ⟨.int z.length,H,I.tok _,⟨_,rfl⟩,q⟩
theorem CallR.or {f:Value} {r r':List V→Hp→VK→Prop} (h:CallR X f r) (h':CallR X f r'):CallR X f (fun xs H Q=>r xs H Q∨r' xs H Q):=by
  intro pins s σ H xs us Q I rs q
  rcases q with q | q
  · exact h pins s σ H xs us Q I rs q
  · exact h' pins s σ H xs us Q I rs q
theorem call_list_of:CallR X (.type "list") (fun xs H Q=>∃ p ys,xs=[.ref p]∧(SqL X.K H p ys∨SqT X.K H p ys)∧∀ l,H l=none→Q (.ref l) (upd H l (.lst ys))):=by
  intro pins s σ H xs us Q I r h
  obtain ⟨p,ys,rfl,hq,q⟩:=h
  obtain ⟨u,rfl,rx⟩:=vals1 r
  cases rx
  have fin:∀ (its:List Value),Vals ys its→ys.length≤sizeLine→∀ (h':Heap) (c':Nat),(∀ b o',s.heap.get? b=some o'→h'.get? b=some o')→
      h'.get? s.heap.objs.size=some { cls:=.type "list",dict:=none,data:=.seq its.toArray c',slots:=#[] }→EP X pins σ Q (.ref s.heap.objs.size) { s with heap:=h' }:=fun its r' hz h' c' kp e=>
    ⟨.ref s.heap.objs.size,_,I.laid (t':=s.toks) kp (Nat.le_refl _) (show ObjOk X.prog X.w _ h' _ (.lst ys) from ⟨hz,its,c',r',e⟩),rfl,q _ (I.hok.fresh (Nat.le_refl _))⟩
  rcases hq with hq | hq
  · obtain ⟨its,r',pl,hz⟩:=I.list hq
    have hlen:=r'.length
    obtain ⟨o,ho,hc,n,hd⟩:=pl.isList
    exact call_list_seq p (.inl rfl) ho hc hd (fun h' c' kp e=>fin its r' hz h' c' kp e) (by simp only [List.size_toArray]<;>omega)
  · obtain ⟨its,r',pl,hz⟩:=I.tuple hq
    have hlen:=r'.length
    obtain ⟨o,ho,hc,n,hd⟩:=pl
    exact call_list_seq p (.inr rfl) ho hc hd (fun h' c' kp e=>fin its r' hz h' c' kp e) (by simp only [List.size_toArray]<;>omega)
theorem call_tuple_of:CallR X (.type "tuple") (fun xs H Q=>∃ p ys,xs=[.ref p]∧((SqL X.K H p ys∧∀ l,H l=none→Q (.ref l) (upd H l (.tup ys)))∨(SqT X.K H p ys∧Q (.ref p) H))):=by
  intro pins s σ H xs us Q I r h
  obtain ⟨p,ys,rfl,h⟩:=h
  obtain ⟨u,rfl,rx⟩:=vals1 r
  cases rx
  rcases h with ⟨hq,q⟩ | ⟨hq,q⟩
  · obtain ⟨its,r',pl,hz⟩:=I.list hq
    have hlen:=r'.length
    refine call_tuple_list pl.isList (fun h' kp=>?_) (by simp only [List.size_toArray]<;>omega)
    have I1:Inv X pins σ H { s with heap:=h' }:=I.kept (t':=s.toks) kp
    have I2:Inv X pins σ (upd H h'.objs.size (.tup ys)) { s with heap:=h'.push { cls:=.type "tuple",data:=.seq its.toArray } }:=
      I1.laid (t':=s.toks) (fun b o e=>Heap.get?_push_of_some _ e) (Nat.le_refl _) (show ObjOk X.prog X.w _ _ _ (.tup ys) from ⟨hz,its,r',IsTup.new _ _⟩)
    exact ⟨.ref h'.objs.size,_,I2,rfl,q _ (I1.hok.fresh (Nat.le_refl _))⟩
  · obtain ⟨its,r',pl,hz⟩:=I.tuple hq
    exact call_tuple_same pl ⟨.ref p,H,I,rfl,q⟩
noncomputable def tyV (K:PySem.W.Frag) (T:String) (x:V) (H:Hp):Prop:=match x with
  | .str _=>T = "str"
  | .int _=>T = "int"
  | .ref p=>(T = "list" ∧ ∃ xs,SqL K H p xs)∨(T = "tuple" ∧ ∃ o,K.lookup p=some o∧o.cls=.type "tuple" ∧ o.dict=none) ∨
      (T = "dict" ∧ ((∃ kvs,H p=some (.dK kvs))∨∃ kvs,H p=some (.dT kvs)))∨(T = "set" ∧ ∃ S n,H p=some (.set S n))
  | _=>False
theorem tyV_is {pins:List (Addr×Obj)} {σ:St} {H:Hp} {s:Shared} {T:String} {x:V} {v:Value} (I:Inv X pins σ H s) (r:RelV x v) (ty:tyV X.K T x H) :
    s.TypeIs v T∧∀ a,v=.ref a→∃ ob,s.heap.get? a=some ob∧ob.dict=none:=by
  cases x with
  | str z=>
    obtain ⟨t,rfl⟩:=r
    cases (show T = "str" from ty)
    exact ⟨typeIs_str s z t,fun _ e=>nomatch e⟩
  | int i=>
    obtain ⟨t,rfl⟩:=r
    cases (show T = "int" from ty)
    exact ⟨typeIs_int s i t,fun _ e=>nomatch e⟩
  | ref p=>
    cases r
    rcases ty with ⟨rfl,xs,hq⟩ | ⟨rfl,o,hk,hc,hd⟩ | ⟨rfl,hk⟩ | ⟨rfl,S,n,hk⟩
    · obtain ⟨its,_,pl,_⟩:=I.list hq
      refine ⟨pl.isList.typeIs,fun a e=>?_⟩
      cases e
      obtain ⟨o,n,e,c,hd,_⟩:=pl
      exact ⟨o,e,hd⟩
    · refine ⟨⟨o,I.kIn p o hk,hc⟩,fun a e=>?_⟩
      cases e
      exact ⟨o,I.kIn _ o hk,hd⟩
    · have z:∃ o,s.heap.get? p=some o∧o.ExactDict:=by
        rcases hk with ⟨kvs,hk⟩ | ⟨kvs,hk⟩
        · obtain ⟨_,_,_,_,o,_,_,e,ex,_⟩:=I.hok p _ hk
          exact ⟨o,e,ex⟩
        · obtain ⟨_,_,_,_,o,_,_,e,ex,_⟩:=I.hok p _ hk
          exact ⟨o,e,ex⟩
      obtain ⟨o,e,ex⟩:=z
      refine ⟨⟨o,e,ex.1⟩,fun a e2=>?_⟩
      cases e2
      exact ⟨o,e,ex.2.1⟩
    · obtain ⟨o,_,_,_,e,ex,_⟩:=I.hok p _ hk
      refine ⟨⟨o,e,ex.1⟩,fun a e2=>?_⟩
      cases e2
      exact ⟨o,e,ex.2.1⟩
  | _=>exact False.elim ty
noncomputable def tBM (K:PySem.W.Frag) (T:String) (r:V→List V→Hp→VK→Prop) (to:TE) (t:TA):TE:=fun σ H Q=>to σ H fun x H1=>tyV K T x H1∧t σ H1 fun xs H2=>r x xs H2 Q
variable {o e:Expr} {es:List Expr} {to:TE} {t:TA} {name:Str} {apos cpos:Pos} {T id:String} {r:V→List V→Hp→VK→Prop}
theorem pe_bm (pa:PlainAttrs T) (slot:Slot T name id) (hty:typeOf (.builtin id)=pure (.type "method_descriptor")) (hm:MtR X id r) (ho:PE X o to) (ha:PA X (e::es) t)
    (hbase:attributeBase o name X.env (eval o X.env)=eval o X.env:=by rfl)
    (hfew:((backTo cpos (starEach (e::es) X.env)).all (fun x=>!x.1)&&(backToKw cpos (keywordEach [] X.env)).all (fun x=>x.1.isSome)
      && decide ((e::es).length+([]:List Keyword).length+(if ([]:List Keyword).isEmpty then 0 else 1)<30))=true:=by rfl)
    (hline:(apos.endLine == cpos.line)=true:=by rfl) (hs:starEach (e::es) X.env=(false,eval e X.env)::starEach es X.env:=by rfl) (hplain:(backTo cpos (starEach es X.env)).any (·.1)=false:=by rfl) :
    PE X (.Call (.Attribute o name apos) (e::es) [] cpos) (tBM X.K T r to t):=by
  intro pins s σ H Q I h
  refine wpAny_Call_method_late hbase hfew hline rfl (thn (ho pins s σ H _ I h) fun v s1 ⟨x,H1,I1,r1,ty,q1⟩=>?_)
  obtain ⟨h1,h2⟩:=tyV_is I1 r1 ty
  refine ⟨T,id,pa,slot,hty,h1,h2,?_⟩
  have hA:=ha cpos pins s1 σ H1 _ I1 q1
  rw [hs] at hA ⊢
  refine Calls.callWith_builtin (by show (false||(backTo cpos (starEach es X.env)).any (·.1))=false; rw [hplain]<;>rfl) (Calls.evalArgs_plain ?_)
  exact thn hA fun us s2 ⟨vs,H2,I2,r2,q2⟩=>hm pins s2 σ H2 x vs v us Q I2 r1 r2 q2
end
end L2
namespace L2
open PySem PySem.Spec PyProof.Rows
noncomputable def MtM (X:Cx) (id:String) (r:V→List V→Hp→VK→Prop):Prop:=
  ∀ (pins:List (Addr×Obj)) (s:Shared) (σ:St) (H:Hp) (x:V) (xs:List V) (v:Value) (us:List Value) (Q:VK),Inv X pins σ H s→RelV x v→Vals xs us→r x xs H Q→
    wpAny (model X.prog X.w) X.A (call (.builtin id) (v::us)) (EP X pins σ Q) X.xe s
theorem Vals.one:∀ {x:V} {us:List Value},Vals [x] us→∃ u,us=[u]∧RelV x u
  | _,_,.cons r .nil=>⟨_,rfl,r⟩
section
variable {X:Cx} {pins:List (Addr×Obj)} {σ:St} {H:Hp} {s:Shared} {l b:Addr} {xs ys zs:List V}
theorem Inv.lset {its its':List Value} {n:Nat} {f:Array Value→Array Value} {t':Nat} (I:Inv X pins σ H s) (hH:H l=some (.lst xs))
    (e:s.heap.get? l=some { cls:=.type "list",data:=.seq its.toArray n }) (hf:f its.toArray=its'.toArray) (hv:Vals ys its') (hz:ys.length≤sizeLine) :
    Inv X pins σ (upd H l (.lst ys)) { s with heap:=s.heap.update l (Obj.mapSeq f),toks:=t' }:=by
  have q:=PySem.IsL.update e f
  rw [hf] at q
  refine I.write (x:=l) (e:=l) (by rw [hH]; exact trivial) (.inl rfl) (fun b' u hb hu=>(Heap.get?_update_other s.heap (Obj.mapSeq f) (Ne.symm hb)).trans hu) ⟨_,q⟩ ?_
  exact ⟨hz,its',_,hv,q⟩
theorem Inv.lnew {its:List Value} {t':Nat} (I:Inv X pins σ H s) (hv:Vals ys its) (hz:ys.length≤sizeLine) :
    Inv X pins σ (upd H s.heap.objs.size (.lst ys)) { s with heap:=s.heap.push { cls:=.type "list",data:=.seq its.toArray },toks:=t' }:=
  I.laid (fun _ _ q=>Heap.get?_push_of_some _ q) (Nat.le_refl _) ⟨hz,its,0,hv,Heap.get?_push_size _ rfl⟩
theorem Inv.fresh (I:Inv X pins σ H s):H s.heap.objs.size=none:=I.hok.fresh (Nat.le_refl _)
theorem Inv.lstM (I:Inv X pins σ H s) (hH:H l=some (.lst xs)):xs.length≤sizeLine∧∃ (its:List Value) (n:Nat),Vals xs its∧xs.length=its.length∧s.heap.get? l=some { cls:=.type "list",data:=.seq its.toArray n }:=by
  obtain ⟨z,its,n,r,e⟩:=I.hok l _ hH
  exact ⟨z,its,n,r,r.length,e⟩
end
section
variable {X:Cx}
noncomputable def rAppend:V→List V→Hp→VK→Prop:=fun x vs H Q=>∃ l xs y,x=.ref l∧vs=[y]∧H l=some (.lst xs)∧xs.length<sizeLine∧Q .non (upd H l (.lst (xs++[y])))
theorem mt_append:MtM X "list.append" rAppend:=by
  intro pins s σ H x vs v us Q I rx rv h
  obtain ⟨l,xs,y,rfl,rfl,hH,hz,q⟩:=h
  cases rx
  obtain ⟨u,rfl,ru⟩:=rv.one
  obtain ⟨z,its,n,r,hl,e⟩:=I.lstM hH
  refine call_meets F.slot_list_append ⟨_,e,rfl⟩ F.entry_list_append (F.args_list_append_2 _ _) (PySem.list_append l its.toArray n u (by rw [List.size_toArray]; omega)) ⟨e,?_⟩
  refine ⟨.non,_,I.lset (its':=its++[u]) hH e (by simp) (r.append (.cons ru .nil)) ?_,rfl,q⟩
  rw [List.length_append,List.length_singleton]
  omega
end
section
variable {prog:Program} {w:World} {A:Around} {E:Value→Shared→Prop} {s:Shared}
end
section
variable {X:Cx}
end
end L2
namespace Att
open PySem PySem.W PySem.Calls PyProof.Rows
theorem ints_of_wellAll {P:Params} {h:Heap}:∀ (ns:List Int) (vs:List Value),WellAll P h vs (ns.map WData.int)→IntsAre vs ns:=by
  intro ns
  induction ns with
  | nil=>
    intro vs w
    rw [List.map_nil] at w
    cases w
    exact .nil
  | cons n ns ih=>
    intro vs w
    rw [List.map_cons] at w
    cases w with
    | cons a b=>
      cases a
      exact .cons _ _ (ih _ b)
theorem script_of {l:OpenLaw} {n:Nat} (hn:l.most=some n) {P:Params} {h:Heap} {args:List WData} {vals:List Value}
    (hpre:l.row.toRowW.claim.pre args=true) (hwl:WellAll P h vals args) :
    ∃ a vs ns,vals=[Value.ref a]∧args=[WData.list (ns.map WData.int)]∧h.get? a=some { cls:=.type "list",data:=.seq vs.toArray }∧IntsAre vs ns∧ns.length≤n:=by
  have hsh:WShape.hasAll [] args [.list .int]=true:=(pre_splitW hpre).1
  have hc:l.pre.holds [] { args:=args }=true:=(pre_splitW hpre).2
  obtain ⟨d,r,rfl,h1,h2⟩:=hasAllW_cons hsh
  obtain rfl:=hasAllW_nil h2
  obtain ⟨xs,rfl,h3⟩:=hasW_list h1
  obtain ⟨ns,rfl⟩:=items_int h3
  have hlen:ns.length≤n:=by
    unfold OpenLaw.pre at hc
    have h4:(WTm.not (.lt (.lit (.int (n:Int))) (.len (.arg 0)))).holds [] { args:=[.list (ns.map .int)] }=true:=by
      have h4:=(holds_andW hc).1
      rw [hn] at h4
      exact h4
    have h5:=condW_of h4 (w_not (w_lt w_lit (w_len_list (w_arg rfl))))
    rw [List.length_map] at h5
    refine Nat.le_of_not_lt fun q=>?_
    have q':(n:Int)<((ns.length:Nat):Int):=by omega
    first
      | (rw [decide_eq_true q'] at h5; exact absurd h5 (by decide))
      | (simp at h5; omega)
  cases hwl with
  | cons w1 w2=>
    cases w2
    cases w1 with
    | list ho hall=>exact ⟨_,_,ns,rfl,rfl,ho,ints_of_wellAll ns _ hall,hlen⟩
theorem post_true (l:OpenLaw) (args:List WData):l.row.toRowW.claim.post args (.bool true) args=true:=
  postW_of (r:=l.row.toRowW) (X:=(true == true))
    (show WShape.has [] (.bool true) .bool=true by first | rfl | decide | simp [WShape.has,WShape.arms,WShape.armsAll])
    (show (WTm.eq .res (.lit (.bool true))).value [] { args:=args,res:=some (.bool true),after:=args }=some (.bool (true == true)) from w_eq_bool (w_res rfl) w_lit) rfl
section
variable {prog:Program} {w:World} {A:Around} {E:Value→Shared→Prop} {s:Shared} {K:Frag}
end
end Att
namespace L2
open PySem PySem.Spec PyProof.Rows
theorem vals_ints:∀ {vs:List Value} {ns:List Int},IntsAre vs ns→Vals (ns.map V.int) vs
  | _,_,.nil=>.nil
  | _,_,.cons n t h=>.cons ⟨t,rfl⟩ (vals_ints h)
noncomputable def Only (H:Hp):Prop:=∀ b,H b=none∨∃ o xs,H b=some (.frz o (.lst xs))
theorem law_call {P:Program} {w:World} {K:PySem.W.Frag} {mg mb:Str→Option Value} {CX:CXT} {k:Nat} {fa a:Addr} {fd:FuncData} {x:Str} {sp:Sp} {s₁:Shared} {vs:List Value} {ns:List Int}
    (KX:K.In s₁.heap) (hns:s₁.heap.Ns mainGlobals mg) (hb:s₁.heap.Ns builtinsNs mb) (hbb:∀ x:Str,x ≠ "__name__" → mb x=bootBuiltins x) (hlim:s₁.heap.NoLimit) (hg:s₁.gens=#[])
    (ha:s₁.heap.get? a=some { cls:=.type "list",data:=.seq vs.toArray }) (hi:IntsAre vs ns) (hl:ns.length≤sizeLine) (hr:Room k callerA)
    (F:∀ base:Heap,K.In base→base.Ns mainGlobals mg→FnOk P w K mg base CX k fa fd [x] sp) (hbind:∀ (s:Shared) (u:Value),BindsTo s fd ⟨[u],[]⟩ [(x,u)])
    (hsp:∀ H:Hp,Only H→SqL K H a (ns.map V.int)→sp [.ref a] H (fun v _=>v=.bl true) fun _ _ _=>False)
    (hCX:∀ H e s',CX [] H s₁ (fun _ _ _=>False) e s'→False) :
    codeAny (model P w) callerA (.call (.ref fa) ⟨[.ref a],[]⟩) (fun r s'=>r=.ok (.ret (.bool true))∧OldK s₁.heap s'.heap∧s'.os=s₁.os∧AllBare s'.gens) s₁:=by
  have rv:=vals_ints hi
  have lenV:=hi.length
  have core:∀ H:Hp,Only H→SqL K H a (ns.map V.int)→HOk P w H s₁.heap→(∀ b,H b≠none→b=a)→(H a≠none→K.lookup a=none)→
      codeAny (model P w) callerA (.call (.ref fa) ⟨[.ref a],[]⟩) (fun r s'=>r=.ok (.ret (.bool true))∧OldK s₁.heap s'.heap∧s'.os=s₁.os∧AllBare s'.gens) s₁:=by
    intro H hO hS hok hA hK
    have base_of:∀ {b:Addr} {o:Obj},s₁.heap.get? b=some o→H b=none→(hidT s₁.heap H).get? b=some o:=fun e n=>hidT_get e n
    have noA:∀ {b:Addr} {o:Obj} {es:Array DictEntry} {ep:Nat},s₁.heap.get? b=some o→o.data=.dict es ep→H b=none:=fun {b o es ep} e d=>by
      cases q:H b with
      | none=>rfl
      | some u=>
        have e':b=a:=hA b (by rw [q]; simp)
        subst e'
        rw [ha] at e; cases e
        have d':Data.seq vs.toArray _=Data.dict es ep:=d
        cases d'
    have nsK:∀ {b:Addr} {m:Str→Option Value},s₁.heap.Ns b m→(hidT s₁.heap H).Ns b m:=fun {b m} ⟨o,es,ep,e,d,r⟩=>⟨o,es,ep,base_of e (noA e d),d,r⟩
    have hKb:K.In (hidT s₁.heap H):=fun b o e=>base_of (KX b o e) (by
      cases q:H b with
      | none=>rfl
      | some u=>
        have e':b=a:=hA b (by rw [q]; simp)
        subst e'
        rw [hK (by rw [q]; simp)] at e; cases e)
    have hM:Mod K mg (hidT s₁.heap H):=⟨hKb,nsK hns,⟨mb,nsK hb,hbb⟩,let ⟨mc,h1,h2⟩:=hlim; ⟨mc,nsK h1,h2⟩⟩
    have e0:Env0 P w K mg (hidT s₁.heap H) callerA [] s₁ H:=⟨rfl,hM,fun b o e=>of_hidT e,Nat.le_of_eq (hidT_size _ _),trivial,fun b hb=>absurd (show b∈([]:List Addr) from hb) (by simp),hok,.of_eq hg⟩
    refine codeAny_mono ((F _ hKb (nsK hns)).run callerA [] s₁ H ⟨[.ref a],[]⟩ [.ref a] [.ref a] _ _ hr e0 (hbind s₁ (.ref a)) (.cons rfl .nil) (hsp H hO hS)) fun r s' h=>?_
    cases r with
    | error e=>exact (hCX H e s' h).elim
    | ok fl=>
      cases fl with
      | next=>exact False.elim h
      | brk=>exact False.elim h
      | cont=>exact False.elim h
      | ret u=>
        obtain ⟨v,H',os,bare,un,hok',r',q⟩:=h
        have q':v=.bl true:=q
        subst q'
        obtain rfl:u=Value.bool true:=r'
        refine ⟨rfl,OldK.of_keep fun b o e=>?_,os,bare⟩
        cases q:H b with
        | none=>exact un.keep b o e q (by intro z; exact absurd (show b∈([]:List Addr) from z) (by simp)) (by simp)
        | some u=>
          rcases hO b with z | ⟨ob,xs,z⟩
          · rw [q] at z; cases z
          · have z2:=un.frzs b ob _ z
            obtain ⟨e1,_⟩:=hok b _ z
            obtain ⟨e2,_⟩:=hok' b _ z2
            rw [e] at e1; cases e1
            exact e2
  cases hk:K.lookup a with
  | some o=>
    have e:=KX a o hk
    rw [ha] at e
    cases e
    refine core (fun _=>none) (fun _=>.inl rfl) (.inr ⟨_,vs.toArray,_,hk,rfl,rfl,rfl,by rw [List.size_toArray,lenV]; exact hl,by simpa using rv⟩) (fun b u z=>by have z':(none:Option HO)=some u:=z; cases z') (fun b z=>absurd rfl z) fun z=>absurd rfl z
  | none=>
    refine core (fun b=>if b=a then some (.frz { cls:=.type "list",data:=.seq vs.toArray } (.lst (ns.map V.int))) else none) (fun b=>?_) (.inl (.inr ⟨{ cls:=.type "list",data:=.seq vs.toArray },if_pos rfl⟩)) (fun b u z=>?_) (fun b z=>?_) fun _=>hk
    · by_cases hb:b=a
      · exact .inr ⟨_,_,if_pos hb⟩
      · exact .inl (if_neg hb)
    · by_cases hb:b=a
      · have z':=(if_pos hb).symm.trans z
        cases z'
        subst hb
        exact ⟨ha,by rw [List.length_map]; exact hl,vs,_,rv,ha⟩
      · have z':=(if_neg hb).symm.trans z
        cases z'
    · by_cases hb:b=a
      · exact hb
      · exact absurd (if_neg hb) z
end L2
namespace L2
open PySem PySem.Spec PyProof.Rows
end L2
namespace L2
open PySem PySem.Spec PyProof.Rows
noncomputable def defArgs (s:Stmt):Arguments:=match s with
  | .FunctionDef _ a _ _ _ _ _ _ _ _=>a
  | _=>{ posonlyargs:=[],args:=[],vararg:=none,kwonlyargs:=[],kw_defaults:=[],kwarg:=none,defaults:=[] }
noncomputable def defBody (s:Stmt):List Stmt:=match s with
  | .FunctionDef _ _ b _ _ _ _ _ _ _=>b
  | _=>[]
noncomputable def defScope (s:Stmt):Scope:=match s with
  | .FunctionDef _ _ _ _ _ _ sc _ _ _=>sc
  | _=>{ kind:=.function,names:=[],isGenerator:=false,isCoroutine:=false }
noncomputable abbrev CX0:CXT:=fun _ _ _ _ _ _=>False
noncomputable abbrev E0:XK:=fun _ _ _=>False
theorem pass0 {X:Cx}:Passes CX0 X E0:=fun _ _ _ _ _ _ _ h=>h.elim
structure Fun (K:PySem.W.Frag) (x qual:Str) (st:Stmt) (f:Addr) (fd:FuncData):Prop where
  ex:∃ (oc:Value) (od:Option Addr) (kV doc pm:Value) (an:Option Addr) (cdv ct:Value) (osl:Array (Option Value)),
    fd=PySem.W.fnOf x qual (defArgs st) (defBody st) (defScope st) .none kV doc pm an cdv ct∧K.lookup f=some ⟨oc,od,.func fd,osl⟩∧PySem.W.codeIn K cdv qual=true
  kp:PySem.W.keepIn K (.ref f)=true
section
variable {P:Program} {w:World} {K:PySem.W.Frag} {mg:Str→Option Value} {base:Heap}
theorem Fun.ok {x qual:Str} {st:Stmt} {f:Addr} {fd:FuncData} {N ps:List Str} {k:Nat} {sp:Sp} (F:Fun K x qual st f fd) (S:FnScope N ps (defScope st)) (len:∀ vs H Q E,sp vs H Q E→vs.length=ps.length)
    (hbody:∀ (cdv:Value) (A:Around) (outer:List Env) (s:Shared) (H:Hp) (vs:List V) (Q:VK) (E:XK),Room k (A.deeper (envOfC qual (defScope st) s.heap.objs.size f cdv))→sp vs H Q E→
      ∃ t,PSs (cxOf CX0 P w K mg base N qual (defScope st) f cdv A outer s H E).nox (defBody st) t∧t { nx:=fun _ H'=>Q .non H',rt:=Q } (start N vs) H):FnOk P w K mg base CX0 (k+1) f fd ps sp:=by
  obtain ⟨oc,od,kV,doc,pm,an,cdv,ct,osl,rfl,lk,hcd⟩:=F.ex
  refine fn_of lk hcd S len fun A outer s H vs Q E hr hsp=>?_
  obtain ⟨t,h,q⟩:=hbody cdv A outer s H vs Q E hr hsp
  exact ⟨t,h.nox,q⟩
theorem Fun.binds {x qual:Str} {st:Stmt} {f:Addr} {fd:FuncData} {ps:List Str} (F:Fun K x qual st f fd)
    (h:∀ (kV doc pm:Value) (an:Option Addr) (cdv ct:Value) (us:List Value),us.length=ps.length→bindArgs (PySem.W.fnOf x qual (defArgs st) (defBody st) (defScope st) .none kV doc pm an cdv ct) ⟨us,[]⟩=pure (ps.zip us)):Binds K fd ps []:=by
  obtain ⟨oc,od,kV,doc,pm,an,cdv,ct,osl,rfl,lk,hcd⟩:=F.ex
  exact .all (h kV doc pm an cdv ct)
theorem fun_mk {x qual:Str} {st:Stmt} {f:Addr} {oc:Value} {od an:Option Addr} {osl:Array (Option Value)} {kV doc pm cdv ct:Value} (l:K.lookup f=some ⟨oc,od,.func (PySem.W.fnOf x qual (defArgs st) (defBody st) (defScope st) .none kV doc pm an cdv ct),osl⟩)
    (c:PySem.W.codeIn K cdv qual=true) (k:PySem.W.keepIn K (.ref f)=true):Fun K x qual st f (PySem.W.fnOf x qual (defArgs st) (defBody st) (defScope st) .none kV doc pm an cdv ct):=⟨⟨oc,od,kV,doc,pm,an,cdv,ct,osl,rfl,l,c⟩,k⟩
end
theorem hu_of {A:Around} {k:Nat} (hr:Room k A):A.units+1<cLine:=Nat.lt_of_le_of_lt (Nat.add_le_add_left (by decide:1≤64) _) hr.units
theorem small1000 {n:Nat} (h:n≤1000):n<sizeLine:=Nat.lt_of_le_of_lt h (by decide)
section
variable {X:Cx}
end
theorem iteF {A B:Prop} (h:B):if false=true then A else B:=by
  rw [if_neg Bool.false_ne_true]
  exact h
theorem iteT {A B:Prop} (h:A):if true=true then A else B:=by
  rw [if_pos rfl]
  exact h
noncomputable def Same (H H':Hp):Prop:=∀ b o,H b=some o→H' b=some o
theorem Same.refl (H:Hp):Same H H:=fun _ _ h=>h
theorem Same.trans {H H1 H2:Hp} (a:Same H H1) (b:Same H1 H2):Same H H2:=fun c o h=>b c o (a c o h)
theorem Same.free {H H':Hp} (e:Same H H') {l:Addr} (h:H' l=Option.none):H l=Option.none:=by
  cases q:H l with
  | none=>rfl
  | some o=>
    rw [e l o q] at h
    cases h
end L2
set_option linter.all false
set_option maxRecDepth 100000
set_option maxHeartbeats 4000000
namespace L2
open PySem PySem.Spec PyProof.Rows
noncomputable def Def (K:PySem.W.Frag) (mg:Str→Option Value) (x:Str) (st:Stmt) (ps:List Str):Prop:=
  ∃ (f:Addr) (fd:FuncData),Fun K x x st f fd∧mg x=some (.ref f)∧Binds K fd ps []
noncomputable def Has (P:Program) (w:World) (K:PySem.W.Frag) (mg:Str→Option Value) (base:Heap) (x:Str) (ps:List Str) (k:Nat) (sp:Sp):Prop:=
  ∃ (f:Addr) (fd:FuncData),mg x=some (.ref f)∧PySem.W.keepIn K (.ref f)=true∧Binds K fd ps []∧FnOk P w K mg base CX0 k f fd ps sp
noncomputable def Glb (mg:Str→Option Value) (x:Str) (v:V):Prop:=∃ u,mg x=some u∧RelV v u
section
variable {P:Program} {w:World} {K:PySem.W.Frag} {mg:Str→Option Value} {base:Heap}
theorem Def.ok {x:Str} {st:Stmt} {N ps:List Str} {k:Nat} {sp:Sp} (d:Def K mg x st ps) (S:FnScope N ps (defScope st)) (len:∀ vs H Q E,sp vs H Q E→vs.length=ps.length)
    (hbody:∀ (f:Addr) (cdv:Value) (A:Around) (outer:List Env) (s:Shared) (H:Hp) (vs:List V) (Q:VK) (E:XK),Room k (A.deeper (envOfC x (defScope st) s.heap.objs.size f cdv))→sp vs H Q E→
      ∃ t,PSs (cxOf CX0 P w K mg base N x (defScope st) f cdv A outer s H E).nox (defBody st) t∧t { nx:=fun _ H'=>Q .non H',rt:=Q } (start N vs) H):Has P w K mg base x ps (k+1) sp:=by
  obtain ⟨f,fd,F,hm,hb⟩:=d
  exact ⟨f,fd,hm,F.kp,hb,F.ok S len (hbody f)⟩
end
section
variable {X:Cx} {x:Str} {p pos:Pos} {e:Expr} {es:List Expr} {t:TA} {ps:List Str} {j k:Nat} {sp:Sp} {v:V} {T:String}
noncomputable def noStar:Expr→Bool
  | .Starred ..=>false
  | _=>true
theorem star_cons {e:Expr} {es:List Expr} {env:Env} (h:noStar e=true):starEach (e::es) env=(false,eval e env)::starEach es env:=by
  cases e<;>first | rfl | cases h
theorem star_any {env:Env} {pos:Pos}:∀ {es:List Expr},es.all noStar=true→(backTo pos (starEach es env)).any (·.1)=false
  | [],_=>rfl
  | e::es,h=>by
    rw [List.all_cons,Bool.and_eq_true] at h
    rw [star_cons h.1]
    have ih:=star_any (env:=env) (pos:=pos) h.2
    unfold backTo at ih ⊢
    rw [List.map_cons,List.any_cons,ih]
    rfl
theorem pac {te:TE} (ha:PE X e te) (hr:PA X es t) (h:noStar e=true:=by rfl):PA X (e::es) (tCons te t):=pa_cons ha hr (star_cons h)
noncomputable def asInt:Expr→Option Int
  | .Constant (.int i) _ _=>some i
  | _=>none
theorem asInt_ok {e:Expr} {i:Int} (h:asInt e=some i):∃ k p,e=.Constant (.int i) k p:=by
  cases e<;>first | (cases h; done) | skip
  rename_i c k p
  cases c<;>first | (cases h; done) | skip
  cases h
  exact ⟨k,p,rfl⟩
noncomputable def intsOf:List Expr→Option (List Int)
  | []=>some []
  | e::r=>(asInt e).bind fun i=>(intsOf r).map (i::·)
theorem pa_ints:∀ {es:List Expr} {is:List Int},intsOf es=some is→PA X es (fun _ H Q=>Q (is.map V.int) H)
  | [],is,h=>by
    cases (show some []=some is from h)
    exact pa_nil
  | e::r,is,h=>by
    have q:((asInt e).bind fun i=>(intsOf r).map (i::·))=some is:=h
    cases e1:asInt e with
    | none=>rw [e1] at q; cases q
    | some i=>
      rw [e1] at q
      obtain ⟨k,p,rfl⟩:=asInt_ok e1
      cases e2:intsOf r with
      | none=>rw [e2] at q; cases q
      | some js=>
        rw [e2] at q
        cases (show some (i::js)=some is from q)
        exact pac pe_int (pa_ints e2)
theorem pe_own (h:Has X.prog X.w X.K X.mg X.base x ps k sp) (hr:Room j X.A) (hg:Gl X x) (ha:PA X (e::es) t) (hk:k≤j:=by decide) (hdb:(x == ("__debug__" : Str))=false:=by decide)
    (he:(e::es).all noStar=true:=by rfl):PE X (.Call (.Name x p) (e::es) [] pos) (tCall sp [] E0 t):=by
  obtain ⟨f,fd,hm,kp,b,F⟩:=h
  rw [List.all_cons,Bool.and_eq_true] at he
  exact pe_call F (hr.mono hk) hg hm kp b .nil pass0 ha hdb (star_cons he.1) (star_any he.2)
theorem pe_gl (h:Glb X.mg x v) (hg:Gl X x) (hd:(x == ("__debug__" : Str))=false:=by decide):PE X (.Name x pos) (tC v):=by
  obtain ⟨u,hm,r⟩:=h
  exact pe_glob hg hm r hd
theorem pe_bty (hg:Gl X x) (hm:X.mg x=none) (hv:bootBuiltins x=some (.type T)) (hn:x ≠ "__name__" := by decide) (hd:(x == ("__debug__" : Str))=false:=by decide):PE X (.Name x pos) (tC (.ty T)):=
  pe_bltn hg hm hv rfl hn hd
end
section
variable {X:Cx} {st:Stmt} {t:TS}
end
section
variable {X:Cx}
theorem op_fdivP:OpR X (binaryOp .FloorDiv) (rI (fun _ j=>0<j∧j<2 ^ 64) fun i j=>.int (i / j)):=opI fun i j _ _ _ _ _ hc q=>by
  have h1:(0:Int)<j:=hc.1
  have h2:j<2 ^ 64:=hc.2
  have h3:j.natAbs.log2<64:=(Nat.log2_lt (by omega)).mpr (by omega)
  exact PyProof.Rows.floordiv_int (by omega) (by rw [Int.fdiv_eq_ediv_of_nonneg i (by omega)]; exact q) (.inl (PyProof.noPylong_of_log2 (by omega)))
end
theorem bt_len:bootBuiltins "len" = some (.builtin "len"):=by decide +kernel
theorem bt_isinstance:bootBuiltins "isinstance" = some (.builtin "isinstance"):=by decide +kernel
theorem bt_all:bootBuiltins "all" = some (.builtin "all"):=by decide +kernel
theorem boot_ty_int:bootBuiltins "int" = some (.type "int"):=by decide +kernel
theorem boot_ty_bool:bootBuiltins "bool" = some (.type "bool"):=by decide +kernel
theorem boot_ty_str:bootBuiltins "str" = some (.type "str"):=by decide +kernel
theorem boot_ty_list:bootBuiltins "list" = some (.type "list"):=by decide +kernel
theorem boot_ty_tuple:bootBuiltins "tuple" = some (.type "tuple"):=by decide +kernel
theorem kit_int_int {K:PySem.W.Frag}:PySem.W.kitOne K (.type "int") (.type "int")=some true:=by rfl
theorem kit_bool_int {K:PySem.W.Frag}:PySem.W.kitOne K (.type "bool") (.type "int")=some true:=by kernel_rfl
theorem kit_int_bool {K:PySem.W.Frag}:PySem.W.kitOne K (.type "int") (.type "bool")=some false:=by kernel_rfl
theorem kit_bool_bool {K:PySem.W.Frag}:PySem.W.kitOne K (.type "bool") (.type "bool")=some true:=by rfl
theorem kit_none_int {K:PySem.W.Frag}:PySem.W.kitOne K (.type "NoneType") (.type "int")=some false:=by kernel_rfl
theorem kit_none_bool {K:PySem.W.Frag}:PySem.W.kitOne K (.type "NoneType") (.type "bool")=some false:=by kernel_rfl
theorem kit_tup_tup {K:PySem.W.Frag}:PySem.W.kitOne K (.type "tuple") (.type "tuple")=some true:=by rfl
theorem kit_str_str {K:PySem.W.Frag}:PySem.W.kitOne K (.type "str") (.type "str")=some true:=by rfl
theorem same_new {H:Hp} {p:Addr} (h:H p=none) (o:HO):Same H (upd H p o):=fun b u q=>by rw [upd_ne (ne_of_none q h)]; exact q
theorem small {n:Nat} (h:n≤1000):n≤sizeLine:=Nat.le_of_lt (small1000 h)
end L2
namespace L2
open PySem PySem.Spec PyProof.Rows
section
variable {X:Cx} {tg:Expr}
end
end L2
namespace L2
open PySem PySem.Spec PyProof.Rows
noncomputable def CapAll (env:Env):List (Str×Addr)→Prop
  | []=>True
  | p::r=>env.cells.lookup p.1=some p.2∧CapAll env r
theorem CapAll.get {env:Env}:∀ {cl:List (Str×Addr)} {y:Str} {c:Addr},CapAll env cl→cl.lookup y=some c→env.cells.lookup y=some c
  | [],_,_,_,h=>by cases h
  | (n,a)::r,y,c,hc,h=>by
    rw [List.lookup_cons] at h
    cases e:y == n with
    | true=>
      rw [e] at h
      have e':y=n:=by simpa using e
      subst e'
      have h':a=c:=by simpa using h
      subst h'
      exact hc.1
    | false=>
      rw [e] at h
      exact CapAll.get hc.2 (by simpa using h)
noncomputable def blkOk (scope:Scope) (env:Env) (cl:List (Str×Addr)) (own:List Str):Bool:=
  scope.names.all fun p=>p.1 != ("." : Str)&&((p.2 == .local&&(own.contains p.1||p.1 == (".0" : Str)))||p.2 == .globalImplicit||p.2 == .globalExplicit ||
    (p.2 == .free&&(env.kindOf p.1 == some .cell||env.kindOf p.1 == some .free)&&(cl.lookup p.1).isSome))
noncomputable def hide (own:List Str) (y:Str):Str:=if own.contains y||y == (".0" : Str) then "." else y
noncomputable def blkN (N own:List Str):List Str:=N.map (hide own)++own
theorem relab_mem {env:Env}:∀ {names:List (Str×NameKind)} {y:Str} {k:NameKind},
    (names.map fun (n,k)=>if (k == NameKind.free&&env.scope.kind == .function&&env.kindOf n == some .cell) then (n,NameKind.cell) else (n,k)).lookup y=some k→∃ k0,(y,k0)∈names∧(k=k0∨(k0=.free∧k=.cell))
  | [],_,_,h=>by simp at h
  | (n,k')::r,y,k,h=>by
    rw [List.map_cons] at h
    by_cases hc:(k' == NameKind.free&&env.scope.kind == .function&&env.kindOf n == some .cell)=true
    · dsimp only at h
      rw [if_pos hc,List.lookup_cons] at h
      cases e:y == n with
      | true=>
        rw [e] at h
        have e':y=n:=by simpa using e
        subst e'
        have h':NameKind.cell=k:=by simpa using h
        have hf:k'=.free:=by
          rw [Bool.and_eq_true,Bool.and_eq_true] at hc
          simpa using hc.1.1
        exact ⟨k',List.mem_cons_self,.inr ⟨hf,h'.symm⟩⟩
      | false=>
        rw [e] at h
        obtain ⟨k0,m,z⟩:=relab_mem (env:=env) (by simpa using h)
        exact ⟨k0,List.mem_cons_of_mem _ m,z⟩
    · dsimp only at h
      rw [if_neg hc,List.lookup_cons] at h
      cases e:y == n with
      | true=>
        rw [e] at h
        have e':y=n:=by simpa using e
        subst e'
        have h':k'=k:=by simpa using h
        exact ⟨k',List.mem_cons_self,.inl h'.symm⟩
      | false=>
        rw [e] at h
        obtain ⟨k0,m,z⟩:=relab_mem (env:=env) (by simpa using h)
        exact ⟨k0,List.mem_cons_of_mem _ m,z⟩
noncomputable def cxBlk (X:Cx) (scope:Scope) (cl:List (Str×Addr)) (own:List Str) (C:Addr) (s2:Shared) (H2:Hp) (fp:List Addr) (pn:List (Addr×Obj)):Cx:=
  { X with N:=blkN X.N own,s₀:=s2,H₀:=H2,env:=compEnvC scope cl C X.env,outer:=X.stack,stack:=X.stack,ex:=fp,fn:=fun _=>false,pn:=pn,xe:=fun _ _=>False }
section
variable {X:Cx} {pins:List (Addr×Obj)} {σ:St} {H2:Hp} {s2:Shared} {scope:Scope} {cl:List (Str×Addr)} {own:List Str} {C D:Addr} {fp:List Addr}
theorem blk_name (hb:blkOk scope X.env cl own=true) {y:Str} {k:NameKind} (h:(relabel scope X.env).names.lookup y=some k) :
    y ≠ "." ∧ ((k=.local→own.contains y=true∨y = ".0")∧((k=.cell∨k=.free)→(∃ k0,(y,k0)∈scope.names∧k0=.cell)∨((X.env.kindOf y=some .cell∨X.env.kindOf y=some .free)∧∃ c,cl.lookup y=some c))):=by
  obtain ⟨k0,m,z⟩:=relab_mem h
  have q:=List.all_eq_true.mp hb _ m
  rw [Bool.and_eq_true] at q
  obtain ⟨q1,q2⟩:=q
  refine ⟨by simpa using q1,fun hk=>?_,fun hk=>?_⟩
  · rcases z with z | ⟨_,z⟩
    · subst z
      subst hk
      simpa using q2
    · rw [z] at hk
      cases hk
  · have hf:k0=.free∨k0=.cell:=by
      rcases z with z | ⟨z,_⟩
      · subst z
        rcases hk with hk | hk
        · exact .inr hk
        · exact .inl hk
      · exact .inl z
    rcases hf with hf | hf
    · subst hf
      right
      have q3:((X.env.kindOf y == some .cell||X.env.kindOf y == some .free)&&(cl.lookup y).isSome)=true:=by simpa using q2
      rw [Bool.and_eq_true] at q3
      refine ⟨?_,Option.isSome_iff_exists.mp q3.2⟩
      have:=q3.1
      rw [Bool.or_eq_true] at this
      rcases this with t | t
      · exact .inl (by simpa using t)
      · exact .inr (by simpa using t)
    · exact .inl ⟨k0,m,hf⟩
theorem blk_name' (hb:blkOk scope X.env cl own=true) (hcell:∀ y∈scope.names,y.2≠.cell) {y:Str} {k:NameKind} (h:(relabel scope X.env).names.lookup y=some k) (hk:k=.cell∨k=.free) :
    (X.env.kindOf y=some .cell∨X.env.kindOf y=some .free)∧∃ c,cl.lookup y=some c:=by
  rcases (blk_name hb h).2.2 hk with ⟨k0,m,e⟩ | q
  · exact absurd e (hcell _ m)
  · exact q
theorem blk_ok (I:Inv X pins σ H2 s2) (hk:scope.kind=.function) (hcell:∀ y∈scope.names,y.2≠.cell) (hcap:CapAll X.env cl) (hb:blkOk scope X.env cl own=true) (hC:s2.heap.objs.size≤C)
    (hfp:∀ b∈fp,FpOk X pins H2 b) (hfo:∀ b∈fp,∃ o,s2.heap.get? b=some o):(cxBlk X scope cl own C s2 H2 fp (X.pn++pins)).Ok where
  mod:=I.ok.mod
  kind:=hk
  glob:=I.ok.glob
  blt:=I.ok.blt
  above:=hC
  inj:=fun x y c h1 h2=>I.ok.inj x y c (hcap.get h1) (hcap.get h2)
  has:=fun x hx=>by
    rcases hx with hx | hx
    · exact (blk_name' hb hcell (show (relabel scope X.env).names.lookup x=_ from hx) (.inl rfl)).2
    · exact (blk_name' hb hcell (show (relabel scope X.env).names.lookup x=_ from hx) (.inr rfl)).2
  cab:=fun x c h=>by cases h
  hd:=I.ok.hd
  frames:=I.ok.frames
  stk:=.inl rfl
  exf:=fun b hx=>⟨by
    obtain ⟨o,e⟩:=hfo b hx
    exact Nat.ne_of_lt (Nat.lt_of_lt_of_le (Heap.lt_size e) hC),fun x c h=>(hfp b hx).2.2.2.2.1 x c (hcap.get h)⟩
  bs:=I.bs
  bsz:=Nat.le_trans I.ok.bsz I.sz
  noex:=fun b o e hx=>by
    rcases (hfp b hx).2.2.2.1 with z | z
    · exact I.ok.noex b o e z
    · exact absurd (Nat.lt_of_lt_of_le (Heap.lt_size e) (Nat.le_trans I.ok.bsz z)) (Nat.lt_irrefl _)
  exfs:=fun b hx hz=>by
    rcases List.mem_cons.mp (I.stkSub b hz) with z | z
    · exact (hfp b hx).2.1 z
    · exact (hfp b hx).2.2.1 z
  funs:=I.stack
  frf:=I.stkFree
theorem get_tail {α:Type} {σ:List (Option α)} {n i:Nat} {v:α} (h:(σ++List.replicate n none)[i]?=some (some v)):σ[i]?=some (some v):=by
  by_cases hi:i<σ.length
  · rw [List.getElem?_append_left hi] at h
    exact h
  · rw [List.getElem?_append_right (by omega),List.getElem?_replicate] at h
    split at h<;>cases h
theorem blk_start {h4:Heap} {m0:Str→Option Value} {dobj:Obj} {tk:Nat} (I:Inv X pins σ H2 s2) (hk:scope.kind=.function) (hcell:∀ y∈scope.names,y.2≠.cell) (hcap:CapAll X.env cl) (hb:blkOk scope X.env cl own=true)
    (hC:s2.heap.objs.size≤C) (hD:s2.heap.objs.size≤D) (hDC:D≠C) (hfp:∀ b∈fp,FpOk X pins H2 b) (hfo:∀ b∈fp,∃ o,s2.heap.get? b=some o)
    (keep:∀ b o,s2.heap.get? b=some o→h4.get? b=some o) (ns:h4.Ns C m0) (hd:h4.get? D=some dobj) (hdd:∀ v,dobj.data≠.cell v) :
    Inv (cxBlk X scope cl own C s2 H2 fp (X.pn++pins)) [(D,dobj)] (σ++List.replicate own.length none) H2 { s2 with heap:=h4,toks:=tk }:=by
  have nfs:∀ a,s2.heap.objs.size≤a→a ∉ frs X.stack:=fun a ha hz=>by
    rcases List.mem_cons.mp (I.stkSub a hz) with z | z
    · exact absurd (Nat.lt_of_lt_of_le I.lt ha) (by rw [z]; exact Nat.lt_irrefl _)
    · exact I.nofs ha z
  refine ⟨blk_ok I hk hcell hcap hb hC hfp hfo,rfl,I.bare,Un.kept keep,⟨m0,ns,fun i y v e1 e2 e3=>?_⟩,fun x c h=>?_,I.hok.fresh hC,fun x c h=>I.freeC x c (hcap.get h),fun p hp=>?_,I.hok.kept keep,?_⟩
  · have e2':σ[i]?=some (some v):=get_tail e2
    have hi:i<X.N.length:=by
      have:=(List.getElem?_eq_some_iff.mp e2').1
      rw [I.len] at this
      exact this
    have e1':(X.N.map (hide own)++own)[i]?=some y:=e1
    rw [List.getElem?_append_left (by simpa using hi),List.getElem?_map] at e1'
    cases en:X.N[i]? with
    | none=>
      rw [en] at e1'
      cases e1'
    | some n=>
      rw [en] at e1'
      have ey:hide own n=y:=Option.some.inj e1'
      have vis:∃ k,(relabel scope X.env).names.lookup y=some k∧(k=.local∨k=.cell∨k=.free):=by
        rcases e3 with z | z | z
        · exact ⟨_,z,.inl rfl⟩
        · exact ⟨_,z,.inr (.inl rfl)⟩
        · exact ⟨_,z,.inr (.inr rfl)⟩
      obtain ⟨k,lk,kk⟩:=vis
      obtain ⟨nd,loc,_⟩:=blk_name hb lk
      unfold hide at ey
      by_cases ho:(own.contains n||n == (".0" : Str))=true
      · rw [if_pos ho] at ey
        exact absurd ey.symm nd
      · rw [if_neg ho] at ey
        subst ey
        have kk':k=.cell∨k=.free:=by
          rcases kk with z | z
          · exfalso
            apply ho
            rcases loc z with t | t
            · rw [t]; rfl
            · subst t; simp
          · exact z
        obtain ⟨ok,c,hc⟩:=blk_name' hb hcell lk kk'
        obtain ⟨m,hn,hl⟩:=I.loc
        obtain ⟨u,r,l⟩:=hl i n v en e2' (.inr ok)
        refine ⟨u,r,.inr ⟨?_,c,hc,?_⟩⟩
        · rcases kk' with z | z
          · subst z; exact .inl lk
          · subst z; exact .inr lk
        · rcases l with ⟨z,_⟩ | ⟨_,c',hc',z⟩
          · rcases ok with t | t<;>(rw [t] at z; cases z)
          · rw [hcap.get hc] at hc'
            cases hc'
            obtain ⟨o,ho',hd'⟩:=z
            exact ⟨o,keep _ _ ho',hd'⟩
  · obtain ⟨v,o,ho,hd'⟩:=I.cell x c (hcap.get h)
    exact ⟨v,o,keep _ _ ho,hd'⟩
  · rcases List.mem_append.mp hp with z | z
    · obtain ⟨e,n,ne,nf,d⟩:=I.pin p z
      refine ⟨keep _ _ e,n,Nat.ne_of_lt (Nat.lt_of_lt_of_le (Heap.lt_size e) hC),fun hz=>?_,d⟩
      rcases List.mem_cons.mp (I.stkSub p.1 hz) with t | t
      · exact ne t
      · exact nf t
    · have e:p=(D,dobj):=by simpa using z
      subst e
      exact ⟨hd,I.hok.fresh hD,hDC,nfs D hD,hdd⟩
  · show (σ++List.replicate own.length none).length=(X.N.map (hide own)++own).length
    rw [List.length_append,List.length_append,List.length_replicate,List.length_map,I.len]
end
end L2
namespace L2
open PySem PySem.Spec PyProof.Rows
noncomputable def PTs (X:Cx) (ifs:List Expr) (tc:TT):Prop:=
  ∀ (pins:List (Addr×Obj)) (s:Shared) (σ:St) (H:Hp) (Q:Bool→Hp→Prop),Inv X pins σ H s→tc σ H Q→
    wpAny (model X.prog X.w) X.A (forIn ifs true fun c r=>if r=true then do let ok ← isTrue c X.env (eval c X.env); pure (ForInStep.yield ok) else pure (ForInStep.yield r)) (TP X pins σ Q) X.xe s
noncomputable def tYes:TT:=fun _ H Q=>Q true H
theorem pts_nil {X:Cx}:PTs X [] tYes:=fun _ _ _ H _ I h=>wpAny_tests_nil ⟨H,I,h⟩
theorem pts_one {X:Cx} {c:Expr} {t:TT} (h:PT X c t):PTs X [c] t:=fun pins s σ H Q I q=>wpAny_tests_one (h pins s σ H Q I q)
section
variable {prog:Program} {w:World} {A:Around} {R:Result→Shared→Prop} {s:Shared}
theorem lc_loop {elt tg iter:Expr} {ifs:List Expr} {scope:Scope} {pos:Pos} {it acc:Value} {env:Env} (J:Nat→Shared→Prop)
    (turn:∀ n s,J n s→wpAny (model prog w) A (pyNext it) (fun r s₁=>match r with
      | none=>R (.ok .next) s₁
      | some v=>wpAny (model prog w) A (letOwnedTupleGo tg it v) (fun _ z=>wpAny (model prog w) A (assign tg env v) (fun _ s₂=>
        wpAny (model prog w) A (forIn ifs true fun c r=>if r=true then do let ok ← isTrue c env (eval c env); pure (ForInStep.yield ok) else pure (ForInStep.yield r)) (fun ok s₃=>
          if ok=true then wpAny (model prog w) A (eval elt env) (fun x s₄=>wpAny (model prog w) A (call (.builtin "list.append") [acc,x]) (fun _ s₅=>∃ m,m<n∧J m s₅) (fun _ _=>False) s₄) (fun _ _=>False) s₃
          else ∃ m,m<n∧J m s₃) (fun _ _=>False) s₂) (fun _ _=>False) z) (fun _ _=>False) s₁) (fun _ _=>False) s)
    (n:Nat) (h:J n s):codeAny (model prog w) A (.compLoop (.ListComp elt [⟨tg,iter,ifs,0⟩] scope pos) 0 it acc env) R s:=by
  have no:∀ {P:Value→Shared→Prop},∀ e s',(fun _ _=>False:Value→Shared→Prop) e s'→P e s':=fun _ _ z=>z.elim
  refine codeAny_loop rfl J (fun n s hI=>?_) n h
  show wpAny _ A (Sem.onRaise (compTurn (.ListComp elt [⟨tg,iter,ifs,0⟩] scope pos) 0 it acc env) (fun x=>do noteFrame x env; theTreesLotGoes x)) _ _ s
  refine wpAny_noted ?_
  rw [compTurn_list]
  refine wpAny_bind (wpAny_standAt (wpAny_bind (wpAny_mono (turn n s hI) (fun r s₁ h₁=>?_) no)))
  cases r with
  | none=>exact wpAny_pure h₁
  | some v=>
    refine wpAny_bind (wpAny_mono h₁ (fun _ z hz=>?_) no)
    refine wpAny_bind (wpAny_mono hz (fun _ s₂ h₂=>?_) no)
    refine wpAny_bind (wpAny_mono h₂ (fun ok s₃ h₃=>?_) no)
    cases ok with
    | false=>exact wpAny_pure ⟨rfl,h₃⟩
    | true=>
      refine wpAny_bind (wpAny_bind (wpAny_mono h₃ (fun x s₄ h₄=>?_) no))
      exact wpAny_bind (wpAny_mono h₄ (fun _ s₅ h₅=>wpAny_pure (wpAny_pure ⟨rfl,h₅⟩)) no)
end
noncomputable abbrev lob (its:List Value) (k:Nat):Obj:={ cls:=.type "list",data:=.seq its.toArray k }
theorem lob_no {its:List Value} {k:Nat}:∀ v,(lob its k).data≠.cell v:=fun _ z=>nomatch z
section
variable {X:Cx} {σ:St} {H:Hp} {s:Shared} {D:Addr}
theorem inv_grow {pl:List (Addr×Obj)} {its its':List Value} {k k' tk:Nat} {h':Heap} (I:Inv X ((D,lob its k)::pl) σ H s) (hD:X.s₀.heap.objs.size≤D) (hpn:∀ p∈X.pn,p.1≠D)
    (hs:Heap.SameBut D s.heap h') (hd:h'.get? D=some (lob its' k')):Inv X [(D,lob its' k')] σ H { s with heap:=h',toks:=tk }:=by
  obtain ⟨e,n,ne,nf,d⟩:=I.pin (D,lob its k) (List.mem_append_right _ List.mem_cons_self)
  have I0:Inv X [] σ H s:=I.pins_of fun p hp=>absurd hp (by simp)
  have I1:Inv X [] σ H { s with heap:=h',toks:=tk }:=I0.turned (it:=D) (fun b o hb q=>(hs.2 b hb).trans q) n ne (.inr hD) (fun x c hc z=>by
    subst z
    obtain ⟨v,o,ho,hv⟩:=I.cell x c hc
    rw [show s.heap.get? c=some (lob its k) from e] at ho
    cases ho
    exact d v hv) (fun p hp=>hpn p (by simpa using hp))
  exact I1.pins_of fun p hp=>by
    have q:p=(D,lob its' k'):=by simpa using hp
    subst q
    exact ⟨hd,n,ne,nf,lob_no⟩
end
section
variable {X:Cx} {tg iter elt:Expr} {ifs:List Expr} {scope:Scope} {cl:List (Str×Addr)} {own:List Str} {pos:Pos} {te:TE} {tc:TT} {g:TG} {wi:TI}
theorem un_track {fs ex:List Addr} {H H':Hp} {h h':Heap} {D:Addr} {o:HO} (u:Un fs ex H H' h h') (hD:h.objs.size≤D) (hn:H' D=none):Un fs ex H (upd H' D o) h h' where
  keep:=u.keep
  slot:=u.slot
  free:=fun b ob q n hx=>by rw [upd_ne (fun z=>by subst z; exact absurd (Nat.lt_of_lt_of_le (Heap.lt_size q) hD) (Nat.lt_irrefl _))]; exact u.free b ob q n hx
  there:=u.there
  tups:=fun b xs q=>by rw [upd_ne (ne_of_none (u.tups b xs q) hn)]; exact u.tups b xs q
  frzs:=fun b ob v q=>by rw [upd_ne (ne_of_none (u.frzs b ob v q) hn)]; exact u.frzs b ob v q
  tbls:=fun b ps q=>by
    obtain ⟨more,z⟩:=u.tbls b ps q
    exact ⟨more,by rw [upd_ne (ne_of_none z hn)]; exact z⟩
theorem hok_track {P:Program} {w:World} {H:Hp} {h:Heap} {D:Addr} {o:HO} (x:HOk P w H h) (hn:H D=none) (new:ObjOk P w (upd H D o) h D o):HOk P w (upd H D o) h:=fun b u e=>by
  by_cases hb:b=D
  · subst hb
    rw [upd_same] at e
    cases e
    exact new
  · rw [upd_ne hb] at e
    refine (x b u e).stay (fun c v _ q=>q) (fun c q=>?_) (fun c xs q=>?_)
    · rw [upd_ne (ne_of_none q hn)]; exact q
    · rw [upd_ne (ne_of_none q hn)]; exact q
structure Blk (X:Cx) (scope:Scope) (cl:List (Str×Addr)) (own:List Str):Prop where
  kind:scope.kind=.function
  cell:∀ y∈scope.names,y.2≠.cell
  cap:CapAll X.env cl
  ok:blkOk scope X.env cl own=true
  clos:closureFor scope X.env=pure cl
  names:∀ y∈scope.names,y.2=.local→scope.names.lookup y.1=some .local
structure Off (X:Cx) (pins:List (Addr×Obj)) (H:Hp) (s:Shared) (C:Addr):Prop where
  free:H C=none
  ne:C≠X.env.locals
  old:X.s₀.heap.objs.size≤C
  cell:∀ x c,X.env.cells.lookup x=some c→c≠C
  pin:∀ p∈X.pn++pins,p.1≠C
noncomputable def lcTurn (σ:St) (n:Nat) (J:It) (g:TG) (tc:TT) (te:TE) (W:Nat→Nat→List V→Hp→Prop) (Fin:List V→Hp→Prop):Prop:=
  ∀ i m ys H,W i m ys H→(J.stop i H∧Fin ys H)∨(J.go i H∧ys.length<sizeLine∧∃ N:List V→Hp→Prop,(∀ ys' H',N ys' H'→∃ m',m'<m∧W (i+1) m' ys' H')∧
    ∀ x H',J.yld i H x H'→g x (σ++List.replicate n none) H' fun σ2 H3=>(∃ τ,σ2=σ++τ)∧tc σ2 H3 fun c H4=>if c=true then te σ2 H4 fun y H5=>N (ys++[y]) H5 else N ys H4)
theorem blk_run {pins:List (Addr×Obj)} {σ:St} {H2:Hp} {s2:Shared} {fp:List Addr} {it:Addr} {tn:Nat→Heap→Prop} {J:It} {W:Nat→Nat→List V→Hp→Prop} {Fin:List V→Hp→Prop} {m0:Nat}
    {RR:Value→Addr→Result→Shared→Prop} (hcalm:X.calm=true) (B:Blk X scope cl own) (I:Inv X pins σ H2 s2) (T:Turn X.prog X.w X.K tg J fp it tn) (t0:tn 0 s2.heap) (hfp:∀ b∈fp,FpOk X pins H2 b)
    (hg:∀ C s H fp pn,PG (cxBlk X scope cl own C s H fp pn) tg g) (hc:∀ C s H fp pn,PTs (cxBlk X scope cl own C s H fp pn) ifs tc) (he:∀ C s H fp pn,PE (cxBlk X scope cl own C s H fp pn) elt te)
    (W0:W 0 m0 [] H2) (turn:lcTurn σ own.length J g tc te W Fin)
    (hRR:∀ D C s' H' ys m',Inv X pins σ (upd H' D (.lst ys)) s'→H' D=none→Fin ys H'→s'.heap.Ns C m'→Off X pins (upd H' D (.lst ys)) s' C→RR (.ref D) C (.ok .next) s') {E:Value→Shared→Prop} :
    wpAny (model X.prog X.w) X.A (newList []) (fun acc s3=>wpAny (model X.prog X.w) X.A (newFunctionEnv scope X.env.globals cl [] X.env.qual none .none (some X.env)) (fun cenv s4=>
      codeAny (model X.prog X.w) X.A (.compStart (.ListComp elt [⟨tg,iter,ifs,0⟩] scope pos) 0 (.ref it) acc { cenv with scope:=relabel scope X.env }) (RR acc cenv.locals) s4) E s3) E s2:=by
  refine wpAny_newObj_type (wpAny_newFunctionEnv B.cell (by intro y hy; simp at hy) (fun h4 hns hsb=>?_) B.kind)
  dsimp only at hns hsb ⊢
  generalize hP:s2.heap.push (lob [] 0)=P2 at hns hsb ⊢
  have hC:P2.objs.size=s2.heap.objs.size+1:=by rw [← hP,Heap.size_push]
  have hDC:s2.heap.objs.size≠P2.objs.size:=by rw [hC]; exact Nat.ne_of_lt (Nat.lt_succ_self _)
  have hCle:s2.heap.objs.size≤P2.objs.size:=by rw [hC]; exact Nat.le_succ _
  have keep:∀ b o,s2.heap.get? b=some o→h4.get? b=some o:=fun b o e=>
    hsb.extBut b o (Nat.ne_of_lt (Nat.lt_of_lt_of_le (Heap.lt_size e) hCle)) (Heap.get?_push_of_some _ (hP ▸ Heap.get?_push_of_some _ e))
  have hd4:h4.get? s2.heap.objs.size=some (lob [] 0):=hsb.extBut _ _ hDC (Heap.get?_push_of_some _ (hP ▸ Heap.get?_push_size _ rfl))
  have hfo:∀ b∈fp,∃ o,s2.heap.get? b=some o:=fun b hb=>let ⟨o,e,_⟩:=T.obj 0 _ t0 b hb; ⟨o,e⟩
  have lt:∀ b∈fp,b<s2.heap.objs.size:=fun b hb=>let ⟨o,e⟩:=hfo b hb; Heap.lt_size e
  generalize hDD:s2.heap.objs.size=D at hDC hd4 ⊢
  generalize hCC:P2.objs.size=C at hDC hns hsb hCle ⊢
  have hDle:s2.heap.objs.size≤D:=Nat.le_of_eq hDD
  let X':=cxBlk X scope cl own C s2 H2 fp (X.pn++pins)
  have hpn:∀ p∈X'.pn,p.1≠D:=fun p hp z=>by
    obtain ⟨e,_⟩:=I.pin p hp
    rw [z] at e
    exact absurd (Nat.lt_of_lt_of_le (Heap.lt_size e) hDle) (Nat.lt_irrefl _)
  have okb:=blk_ok I B.kind B.cell B.cap B.ok hCle hfp hfo
  have fpok:∀ {k:Nat} {its:List Value} {H':Hp},(∀ b∈fp,H' b=none)→∀ b∈fp,FpOk X' [(D,lob its k)] H' b:=fun {k its H'} hn b hb=>
    ⟨hn b hb,(okb.exf b hb).1,okb.exfs b hb,.inl hb,(okb.exf b hb).2,fun p hp=>by
      rcases List.mem_append.mp hp with z | z
      · exact (hfp b hb).2.2.2.2.2 p z
      · have q:p=(D,lob its k):=by simpa using z
        subst q
        exact fun z=>absurd (lt b hb) (by rw [← z]; exact Nat.not_lt.mpr hDle)⟩
  have loop:∀ s4:Shared,s4={ s2 with heap:=h4,toks:=s2.toks+([]:List (Str×Value)).length }→
      codeAny (model X.prog X.w) X.A (.compLoop (.ListComp elt [⟨tg,iter,ifs,0⟩] scope pos) 0 (.ref it) (.ref D) (compEnvC scope cl C X.env)) (RR (.ref D) C) s4:=by
    rintro s4 rfl
    refine lc_loop (fun n s'=>∃ (i:Nat) (ys:List V) (its:List Value) (k:Nat) (H':Hp),Inv X' [(D,lob its k)] (σ++List.replicate own.length none) H' s'∧Vals ys its∧tn i s'.heap∧(∀ b∈fp,H' b=none)∧W i n ys H'∧ys.length≤sizeLine) ?_ m0
      ⟨0,[],[],0,H2,blk_start I B.kind B.cell B.cap B.ok hCle hDle hDC hfp hfo keep hns hd4 lob_no,.nil,T.keep _ _ _ t0 fun b _ o e=>keep b o e,fun b hb=>(hfp b hb).1,W0,Nat.zero_le _⟩
    rintro n s5 ⟨i,ys,its,k,H5,I5,v5,st5,fr5,w5,z5⟩
    rcases turn i n ys H5 w5 with ⟨stop,fin⟩ | ⟨go,room,N,hN,step⟩
    · refine wpAny_mono (T.done X' rfl rfl rfl hcalm i _ s5 _ H5 (fun _ _=>False) I5 (fpok fr5) st5 stop) (fun r s6 ⟨hr,I6⟩=>?_) fun _ _ z=>z
      subst hr
      obtain ⟨e6,n6,ne6,nf6,d6⟩:=I6.pin (D,lob its k) (List.mem_append_right _ List.mem_cons_self)
      obtain ⟨m6,ns6,_⟩:=I6.loc
      have u6:Un (frs X.stack) fp H2 (upd H5 D (.lst ys)) s2.heap s6.heap:=un_track I6.base hDle n6
      have new6:ObjOk X.prog X.w (upd H5 D (.lst ys)) s6.heap D (.lst ys):=⟨z5,its,k,v5,e6⟩
      have I7:Inv X pins σ (upd H5 D (.lst ys)) s6:=I.call' I6.os u6 (hok_track I6.hok n6 new6) I6.bare (fun b hb=>⟨(hfp b hb).2.2.2.1,(hfp b hb).2.1,(hfp b hb).2.2.2.2.1,(hfp b hb).2.2.2.2.2⟩)
      refine hRR D C s6 H5 ys m6 I7 n6 fin ns6 ⟨?_,?_,?_,fun x c hcx z=>?_,fun p hp z=>?_⟩
      · rw [upd_ne (Ne.symm hDC)]; exact I6.free
      · exact fun z=>absurd I.lt (by rw [← z]; exact Nat.not_lt.mpr hCle)
      · exact Nat.le_trans I.sz hCle
      · subst z
        obtain ⟨v,o,ho,_⟩:=I.cell x c hcx
        exact absurd (Nat.lt_of_lt_of_le (Heap.lt_size ho) hCle) (Nat.lt_irrefl _)
      · obtain ⟨e,_⟩:=I.pin p hp
        rw [z] at e
        exact absurd (Nat.lt_of_lt_of_le (Heap.lt_size e) hCle) (Nat.lt_irrefl _)
    · refine wpAny_mono (T.item X' rfl rfl rfl hcalm i _ s5 _ H5 (fun _ _=>False) I5 (fpok fr5) st5 go) (fun r s6 ⟨u,hr,h6⟩=>?_) fun _ _ z=>z
      subst hr
      refine wpAny_mono h6 (fun _ s7 ⟨x,H7,I7,r7,y7,st7,fr7⟩=>?_) fun _ _ z=>z
      have I7':=I7.pinned (fpok fr7) (T.obj _ _ st7)
      refine wpAny_mono (hg C s2 H2 fp _ _ s7 _ H7 x u _ I7' r7 (step x H7 y7)) (fun _ s8 ⟨σ8,H8,I8,⟨τ,hτ⟩,q8⟩=>?_) fun _ _ z=>z
      subst hτ
      have back:∀ {n':Nat} {ys':List V} {its':List Value} {k':Nat} {H9:Hp} {s9:Shared} {pl:List (Addr×Obj)},Inv X' ((D,lob its' k')::pl) (σ++τ) H9 s9→Vals ys' its'→tn (i+1) s9.heap→(∀ b∈fp,H9 b=none)→W (i+1) n' ys' H9→ys'.length≤sizeLine→
          ∃ (i:Nat) (ys:List V) (its:List Value) (k:Nat) (H':Hp),Inv X' [(D,lob its k)] (σ++List.replicate own.length none) H' s9∧Vals ys its∧tn i s9.heap∧(∀ b∈fp,H' b=none)∧W i n' ys H'∧ys.length≤sizeLine:=fun {n' ys' its' k' H9 s9 pl} I9 v9 st9 fr9 w9 z9=>by
        have I9':Inv X' [(D,lob its' k')] (σ++τ) H9 s9:=I9.pins_of fun p hp=>I9.pin p (List.mem_append_right _ (by
          have q:p=(D,lob its' k'):=by simpa using hp
          subst q
          exact List.mem_cons_self))
        refine ⟨i+1,ys',its',k',H9,I9'.weak ?_ (fun j v e=>?_),v9,st9,fr9,w9,z9⟩
        · rw [I9'.len,← I5.len]
        · have e':=get_tail e
          rw [List.getElem?_append_left (List.getElem?_eq_some_iff.mp e').1]
          exact e'
      have keepIt:∀ {σ9:St} {H9:Hp} {s9:Shared},Inv X' ([(D,lob its k)]++pinsAt fp s7.heap) σ9 H9 s9→tn (i+1) s9.heap∧∀ b∈fp,H9 b=none:=fun {σ9 H9 s9} I9=>
        ⟨T.keep _ _ _ st7 fun b hb o e=>(I9.pin (b,o) (List.mem_append_right _ (List.mem_append_right _ (mem_pinsAt hb e)))).1,fun b hb=>by
          obtain ⟨o,e,_⟩:=T.obj _ _ st7 b hb
          exact (I9.pin (b,o) (List.mem_append_right _ (List.mem_append_right _ (mem_pinsAt hb e)))).2.1⟩
      refine wpAny_mono (hc C s2 H2 fp _ _ s8 _ H8 _ I8 q8) (fun c s9 ⟨H9,I9,q9⟩=>?_) fun _ _ z=>z
      cases c with
      | false=>
        rw [if_neg Bool.false_ne_true] at q9 ⊢
        obtain ⟨m',hm,w9⟩:=hN _ _ q9
        exact ⟨m',hm,back I9 v5 (keepIt I9).1 (keepIt I9).2 w9 z5⟩
      | true=>
        rw [if_pos rfl] at q9 ⊢
        refine wpAny_mono (he C s2 H2 fp _ _ s9 _ H9 _ I9 q9) (fun yv sa ⟨y,Ha,Ia,ra,qa⟩=>?_) fun _ _ z=>z
        obtain ⟨m',hm,wa⟩:=hN _ _ qa
        obtain ⟨ea,na,_⟩:=Ia.pin (D,lob its k) (List.mem_append_right _ (List.mem_append_left _ List.mem_cons_self))
        have szi:its.toArray.size≤sizeLine:=by
          have:=v5.length
          simp only [List.size_toArray]
          omega
        refine wpAny_list_append_plain (hsz:=szi) ⟨k,ea⟩ fun hb hlb hsb'=>?_
        obtain ⟨kb,eb⟩:=hlb
        have eb':hb.get? D=some (lob (its++[yv]) kb):=by rw [eb]; simp
        have Ib:Inv X' [(D,lob (its++[yv]) kb)] (σ++τ) Ha { sa with heap:=hb,toks:=sa.toks }:=inv_grow (tk:=sa.toks) Ia hDle hpn hsb' eb'
        have stb:tn (i+1) hb:=T.keep _ _ _ (keepIt Ia).1 fun b hbf o e=>(hsb'.2 b (fun z=>absurd (lt b hbf) (by rw [z]; exact Nat.not_lt.mpr hDle))).trans e
        exact ⟨m',hm,back Ib (Vals.append v5 (.cons ra .nil)) stb (keepIt Ia).2 wa (by rw [List.length_append]; exact room)⟩
  exact codeAny_compStart_list (loop _ rfl) (T.self X.A 0 _ _ _ (T.keep _ _ _ t0 fun b _ o e=>keep b o e) (loop _ rfl))
noncomputable def tLc (n:Nat) (wi:TI) (g:TG) (tc:TT) (te:TE):TE:=fun σ H Q=>wi σ H fun J H1=>∃ W:Nat→Nat→List V→Hp→Prop,(∃ m,W 0 m [] H1)∧
  lcTurn σ n J g tc te W fun ys H'=>∀ p,H' p=none→Q (.ref p) (upd H' p (.lst ys))
theorem Off.inv {pins:List (Addr×Obj)} {σ:St} {H:Hp} {s:Shared} {C:Addr} {h':Heap} (o:Off X pins H s C) (I:Inv X pins σ H s) (hs:Heap.SameBut C s.heap h'):Inv X pins σ H { s with heap:=h' }:=
  I.turned (it:=C) (t':=s.toks) (fun b u hb q=>(hs.2 b hb).trans q) o.free o.ne (.inr o.old) o.cell o.pin
theorem pe_lc (hcalm:X.calm=true) (B:Blk X scope cl own) (hi:PI X tg iter wi) (hg:∀ C s H fp pn,PG (cxBlk X scope cl own C s H fp pn) tg g) (hc:∀ C s H fp pn,PTs (cxBlk X scope cl own C s H fp pn) ifs tc)
    (he:∀ C s H fp pn,PE (cxBlk X scope cl own C s H fp pn) elt te) (hs:∀ x,foldedSetIterable iter X.env x=pure x:=by intro _; rfl) :
    PE X (.ListComp elt [⟨tg,iter,ifs,0⟩] scope pos) (tLc own.length wi g tc te):=by
  intro pins s σ H Q I h
  rw [eval_ListComp]
  refine wpAny_comprehension_free (use:=none) rfl hs B.clos B.kind B.names (thn (hi pins s σ H _ I h) fun v s1 h1=>thn h1 fun itv s2 h2=>?_)
  obtain ⟨it,fp,tn,J,H2,e,I2,T,st2,f2,W,⟨m0,w0⟩,turn⟩:=h2
  subst e
  refine blk_run (RR:=fun acc C=>compPost (model X.prog X.w) X.A X.xe none (EP X pins σ Q) acc C) hcalm B I2 T st2 f2 hg hc he w0 turn ?_
  intro D C s' H' ys m' I' n' fin ns' off
  exact ⟨m',ns',fun h' hs'=>⟨.ref D,upd H' D (.lst ys),off.inv I' hs',rfl,fin D n'⟩⟩
noncomputable def tSetLc (i n:Nat) (wi:TI) (g:TG) (tc:TT) (te:TE):TS:=fun D σ H=>wi σ H fun J H1=>∃ W:Nat→Nat→List V→Hp→Prop,(∃ m,W 0 m [] H1)∧
  lcTurn σ n J g tc te W fun ys H'=>∀ p,H' p=none→D.nx (σ.set i (some (.ref p))) (upd H' p (.lst ys))
theorem ps_setLc {i:Nat} {x:Str} {px spos:Pos} (hcalm:X.calm=true) (hN:X.N.Nodup) (hix:X.N[i]?=some x) (hx:X.env.scope.names.lookup x=some .local) (B:Blk X scope cl own)
    (hsw:swapsWith (.ListComp elt [⟨tg,iter,ifs,0⟩] scope pos) (some (.Name x px)) spos.line X.env=pure true) (hi:PI X tg iter wi)
    (hg:∀ C s H fp pn,PG (cxBlk X scope cl own C s H fp pn) tg g) (hc:∀ C s H fp pn,PTs (cxBlk X scope cl own C s H fp pn) ifs tc) (he:∀ C s H fp pn,PE (cxBlk X scope cl own C s H fp pn) elt te)
    (hs:∀ x,foldedSetIterable iter X.env x=pure x:=by intro _; rfl) :
    PS X (.Assign [.Name x px] (.ListComp elt [⟨tg,iter,ifs,0⟩] scope pos) spos) (tSetLc i own.length wi g tc te):=by
  intro pins s σ H D I h
  rw [exec_Assign_Name_used _ _ _ _ hsw]
  refine wpAny_bind (wpAny_standAt (wpAny_bind ?_))
  show wpAny _ X.A (do let _ ← comprehension (.ListComp elt [⟨tg,iter,ifs,0⟩] scope pos) scope X.env _ (newList []) false (eval iter X.env) (some (assign (.Name x px) X.env))) _ _ s
  refine wpAny_bind (thn (wpAny_comprehension_free (use:=some (assign (.Name x px) X.env)) (Q:=fun _ s'=>SP X pins D .next s') rfl hs B.clos B.kind B.names
    (thn (hi pins s σ H _ I h) fun v s1 h1=>thn h1 fun itv s2 h2=>?_)) fun _ s' hq=>wpAny_pure (wpAny_pure hq))
  obtain ⟨it,fp,tn,J,H2,e,I2,T,st2,f2,W,⟨m0,w0⟩,turn⟩:=h2
  subst e
  refine blk_run (RR:=fun acc C=>compPost (model X.prog X.w) X.A X.xe (some (assign (.Name x px) X.env)) (fun _ s'=>SP X pins D .next s') acc C) hcalm B I2 T st2 f2 hg hc he w0 turn ?_
  intro L C s' H' ys m' I' n' fin ns' off
  show wpAny _ X.A (assign (.Name x px) X.env (.ref L)) _ _ s'
  refine wpAny_assign_Name (store_ok2 I' hN hix (.inl hx) (v:=.ref L) rfl (fun s3 I3 q3=>?_) (.inr hx))
  obtain ⟨a,hsa,ha⟩:=q3
  have hCa:C≠a:=by
    rcases ha with z | z
    · rw [z]; exact off.ne
    · exact fun y=>off.cell x a z y.symm
  refine ⟨m',ns'.sameBut hsa hCa,fun h' hs'=>?_⟩
  exact ⟨_,_,Off.inv (H:=upd H' L (.lst ys)) ⟨off.free,off.ne,off.old,off.cell,off.pin⟩ I3 hs',fin L n'⟩
end
end L2
namespace L2
open PySem PySem.Spec PyProof.Rows
structure QE (X:Cx) (e:Expr) (t:TE):Prop where
  h:PE X e t
structure QA (X:Cx) (es:List Expr) (t:TA):Prop where
  h:PA X es t
structure QS (X:Cx) (st:Stmt) (t:TS):Prop where
  h:PS X st t
structure QSs (X:Cx) (st:List Stmt) (t:TS):Prop where
  h:PSs X st t
structure QG (X:Cx) (e:Expr) (t:TG):Prop where
  h:PG X e t
section
variable {X:Cx} {x y:Str} {p pos pos' apos cpos p2:Pos} {e a b c o tg iter elt:Expr} {es rest:List Expr} {te ta tb tc to:TE} {t:TA} {tA tB':TT} {r r':R2} {v:V} {T id:String} {ps:List Str} {j k i:Nat} {sp:Sp}
theorem qv (i:Nat) {x:Str} {pos:Pos} (hN:X.N[i]?=some x:=by rfl) (hv:Vis X.env.scope x:=by first | exact Or.inl rfl | exact Or.inr (Or.inl rfl) | exact Or.inr (Or.inr rfl)) (hd:(x == ("__debug__" : Str))=false:=by decide)
    (hcd:(x == ("__classdict__" : Str))=false:=by decide):QE X (.Name x pos) (tVar i):=⟨pe_var hN hv hd hcd⟩
theorem qe_gl (h:Glb X.mg x v) (hg:Gl X x) (hd:(x == ("__debug__" : Str))=false:=by decide):QE X (.Name x pos) (tC v):=⟨pe_gl h hg hd⟩
theorem qe_bty (hg:Gl X x) (hm:X.mg x=none) (hv:bootBuiltins x=some (.type T)) (hn:x ≠ "__name__" := by decide) (hd:(x == ("__debug__" : Str))=false:=by decide):QE X (.Name x pos) (tC (.ty T)):=⟨pe_bty hg hm hv hn hd⟩
noncomputable def plainTest:Expr→Bool
  | .Name ..=>true
  | .Call ..=>true
  | .Subscript ..=>true
  | .Attribute ..=>true
  | .Constant ..=>true
  | .List ..=>true
  | .Tuple ..=>true
  | .BinOp ..=>true
  | _=>false
theorem plain_test {e:Expr} {env:Env} (h:plainTest e=true):∀ whole,isTrue e env whole=(do let v ← whole; standAt e.pos; holding [v] (truthy v)):=by
  cases e<;>first | (intro _; rfl) | cases h
theorem qa_nil:QA X [] tNil:=⟨pa_nil⟩
theorem qa_cons (ha:QE X e te) (hr:QA X es t) (h:noStar e=true:=by rfl):QA X (e::es) (tCons te t):=⟨pac ha.h hr.h h⟩
theorem qe_tup {x1} (h:QA X es t):QE X (.Tuple es x1 pos) (tTup t):=⟨pe_tup h.h⟩
noncomputable def plainIx:Expr→Bool
  | .Name ..=>true
  | .Constant ..=>true
  | .BinOp ..=>true
  | .Call ..=>true
  | .UnaryOp ..=>true
  | .Subscript ..=>true
  | .Attribute ..=>true
  | _=>false
theorem plain_ix {b:Expr} (h:plainIx b=true):PlainIx b:=by
  cases b<;>first | (intro _ _; rfl) | cases h
theorem qe_callB {r:List V→Hp→VK→Prop} (hc:CallR X (.builtin id) r) (hg:Gl X x) (hm:X.mg x=none) (hv:bootBuiltins x=some (.builtin id)) (ha:QA X (e::es) t) (hn:x ≠ "__name__" := by decide) (hdb:(x == ("__debug__" : Str))=false:=by decide)
    (he:(e::es).all noStar=true:=by rfl):QE X (.Call (.Name x p) (e::es) [] pos) (tCB r t):=by
  rw [List.all_cons,Bool.and_eq_true] at he
  exact ⟨pe_callB hc hg hm hv ha.h hn hdb (star_cons he.1) (star_any he.2)⟩
theorem qe_callTy {r:List V→Hp→VK→Prop} (hc:CallR X (.type T) r) (hg:Gl X x) (hm:X.mg x=none) (hv:bootBuiltins x=some (.type T)) (ha:QA X (e::es) t) (hn:x ≠ "__name__" := by decide) (hdb:(x == ("__debug__" : Str))=false:=by decide)
    (he:(e::es).all noStar=true:=by rfl):QE X (.Call (.Name x p) (e::es) [] pos) (tCB r t):=by
  rw [List.all_cons,Bool.and_eq_true] at he
  exact ⟨pe_callTy hc hg hm hv ha.h hn hdb (star_cons he.1) (star_any he.2)⟩
variable {st:Stmt} {sts body:List Stmt} {ts us tbs:TS} {g:TG} {wi:TI}
noncomputable def noComp:Expr→Bool
  | .ListComp ..=>false
  | .SetComp ..=>false
  | .DictComp ..=>false
  | _=>true
theorem no_swap {e:Expr} {tgt:Option Expr} {n:Nat} {env:Env} (h:noComp e=true):swapsWith e tgt n env=pure false:=by
  cases e<;>first | rfl | cases h
theorem qs_expr (he:QE X e te) (hs:noComp e=true:=by rfl):QS X (.Expr e pos) (tDrop te):=⟨ps_expr he.h (no_swap hs)⟩
theorem qs_set {i:Nat} {x:Str} {pos':Pos} (hN:X.N.Nodup) (hi:X.N[i]?=some x) (hx:Loc X.env.scope x) (he:QE X e te) (hs:noComp e=true:=by rfl) (hf:X.fn x=true∨X.env.scope.names.lookup x=some .local:=by first | exact .inl rfl | exact .inr rfl | assumption) :
    QS X (.Assign [.Name x pos'] e pos) (tAsg te (gName i)):=⟨ps_set hN hi hx he.h (no_swap hs) hf⟩
theorem qg_name {i:Nat} {x:Str} (hN:X.N.Nodup) (hi:X.N[i]?=some x) (hx:Loc X.env.scope x) (hf:X.fn x=true∨X.env.scope.names.lookup x=some .local:=by first | exact .inl rfl | exact .inr rfl | assumption):QG X (.Name x pos) (gName i):=⟨pg_name hN hi hx hf⟩
variable {ifs:List Expr} {scope:Scope} {cl:List (Str×Addr)} {own:List Str} {tcc:TT}
variable {name:Str} {rm:V→List V→Hp→VK→Prop}
theorem star_all {env:Env} {pos:Pos}:∀ {es:List Expr},es.all noStar=true→(backTo pos (starEach es env)).all (fun x=>!x.1)=true
  | [],_=>rfl
  | e::es,h=>by
    rw [List.all_cons,Bool.and_eq_true] at h
    rw [star_cons h.1]
    have ih:=star_all (env:=env) (pos:=pos) h.2
    unfold backTo at ih ⊢
    rw [List.map_cons,List.all_cons,ih]
    rfl
theorem qe_bm (pa:PlainAttrs T) (slot:Slot T name id) (hty:typeOf (.builtin id)=pure (.type "method_descriptor")) (hm:MtR X id rm) (ho:QE X o to) (ha:QA X (e::es) t)
    (hbase:attributeBase o name X.env (eval o X.env)=eval o X.env:=by rfl) (hline:(apos.endLine == cpos.line)=true:=by rfl) (he:(e::es).all noStar=true:=by rfl) (hl:(e::es).length<30:=by decide) :
    QE X (.Call (.Attribute o name apos) (e::es) [] cpos) (tBM X.K T rm to t):=⟨by
  have ha':=star_all (env:=X.env) (pos:=cpos) he
  rw [List.all_cons,Bool.and_eq_true] at he
  refine pe_bm pa slot hty hm ho.h ha.h hbase ?_ hline (star_cons he.1) (star_any he.2)
  rw [ha']
  show (true&&true&&decide ((e::es).length+0+0<30))=true
  rw [decide_eq_true (show (e::es).length+0+0<30 from hl)]
  rfl⟩
end
section
variable {P:Program} {w:World} {K:PySem.W.Frag} {mg:Str→Option Value} {base:Heap}
end
end L2
namespace L2
open PySem PySem.Spec PyProof.Rows
noncomputable def SqB (K:PySem.W.Frag) (H:Hp) (a c:Addr) (xs ys:List V):Prop:=(SqT K H a xs∧SqT K H c ys)∨(SqL K H a xs∧SqL K H c ys)
section
variable {X:Cx} {pins:List (Addr×Obj)} {σ:St} {H:Hp} {s:Shared}
theorem rc_seq {A:Around} {a c:Addr} {xs ys:List V} {e:Nat→Bool} (I:Inv X pins σ H s) (hu:A.units<cLine) (hq:SqB X.K H a c xs ys)
    (he:∀ (j:Nat) x' y' u v,xs[j]?=some x'→ys[j]?=some y'→RelV x' u→RelV y' v→SeqAt.EqAt A.in1 s u v (e j)) :
    SeqAt.RcAt A s (.ref a) (.ref c) ((List.range (min xs.length ys.length)).all e&&xs.length == ys.length)∧SeqAt.RcNeAt A s (.ref a) (.ref c) (!((List.range (min xs.length ys.length)).all e&&xs.length == ys.length)):=by
  have get:∀ {zs:List V} {us:List Value} {j:Nat} (hj:j<us.toArray.size),Vals zs us→∃ z,zs[j]?=some z∧RelV z us.toArray[j]:=fun {zs us j} hj r=>by
    have hl:=r.length
    have hj':j<zs.length:=by
      rw [List.size_toArray] at hj
      omega
    obtain ⟨u,hu',ru⟩:=r.get (List.getElem?_eq_getElem hj')
    refine ⟨_,List.getElem?_eq_getElem hj',?_⟩
    have:us.toArray[j]=u:=by
      have h2:us[j]?=some us[j]:=List.getElem?_eq_getElem (by omega)
      rw [h2] at hu'
      simpa using hu'
    rw [this]
    exact ru
  rcases hq with ⟨ha,hc⟩ | ⟨ha,hc⟩
  · obtain ⟨us,ra,pa,_⟩:=I.tuple ha
    obtain ⟨vs,rc,pc,_⟩:=I.tuple hc
    have h1:=ra.length
    have h2:=rc.length
    have key:∀ j (k1:j<us.toArray.size) (k2:j<vs.toArray.size),SeqAt.EqAt A.in1 s us.toArray[j] vs.toArray[j] (e j):=fun j k1 k2=>by
      obtain ⟨z1,e1,r1⟩:=get k1 ra
      obtain ⟨z2,e2,r2⟩:=get k2 rc
      exact he j z1 z2 _ _ e1 e2 r1 r2
    have p:=SeqAt.RcAt.tuples (e:=e) pa pc hu key
    have q:=SeqAt.RcNeAt.tuples (e:=e) pa pc hu key
    rw [List.size_toArray,List.size_toArray,← h1,← h2] at p q
    exact ⟨p,q⟩
  · obtain ⟨us,ra,pa,_⟩:=I.list ha
    obtain ⟨vs,rc,pc,_⟩:=I.list hc
    have h1:=ra.length
    have h2:=rc.length
    have key:∀ j (k1:j<us.toArray.size) (k2:j<vs.toArray.size),SeqAt.EqAt A.in1 s us.toArray[j] vs.toArray[j] (e j):=fun j k1 k2=>by
      obtain ⟨z1,e1,r1⟩:=get k1 ra
      obtain ⟨z2,e2,r2⟩:=get k2 rc
      exact he j z1 z2 _ _ e1 e2 r1 r2
    by_cases hl:xs.length=ys.length
    · have hs:us.toArray.size=vs.toArray.size:=by rw [List.size_toArray,List.size_toArray]; omega
      have p:=SeqAt.RcAt.lists (e:=e) pa.isList pc.isList hs hu key
      have q:=SeqAt.RcNeAt.lists (e:=e) pa.isList pc.isList hs hu key
      have e1:min xs.length ys.length=us.toArray.size:=by rw [List.size_toArray]; omega
      have e2:(xs.length == ys.length)=true:=by simp [hl]
      rw [e1,e2,Bool.and_true]
      exact ⟨p,q⟩
    · have hs:(us.toArray.size != vs.toArray.size)=true:=by
        rw [List.size_toArray,List.size_toArray]
        simp
        omega
      have e2:(xs.length == ys.length)=false:=by simp [hl]
      rw [e2,Bool.and_false]
      exact ⟨SeqAt.RcAt.lists_lengths pa.isList pc.isList hs hu,SeqAt.RcNeAt.lists_lengths pa.isList pc.isList hs hu⟩
theorem in1_units (A:Around):A.in1.units=A.units+1:=rfl
end
theorem eqV_self {x:V} (h:flatV x=true):eqV x x=true:=by
  cases x<;>first | rfl | (simp [eqV]; done) | cases h
end L2
namespace L2
open PySem PySem.Spec PyProof.Rows
open PySem.W (hideAll)
structure ExD (P:Program) (w:World) (l:List Env) (H:Hp) (h B:Heap) (H':Hp) (h':Heap):Prop where
  un:Un (frs l) [] H H' h h'
  ok:HOk P w H' h'
  kb:∀ b o,h.get? b=some o→H b=none→b ∉ frs l→B.get? b=some o
  all:∀ b o,h.get? b=some o→b ∉ frs l→∃ o',B.get? b=some o'
  tr:∀ b o,H' b=some o→∃ ob,B.get? b=some ob
noncomputable def ExF (P:Program) (w:World) (l:List Env) (H:Hp) (s:Shared) (E:XK) (e:Value) (s':Shared):Prop:=
  ∃ (a C:Addr) (a0:Value) (B:Heap) (H':Hp),e=.ref a∧s'.os=s.os∧AllBare s'.gens∧Heap.FlyingW B l a (.ref C) a0 s'.heap∧ExD P w l H s.heap B H' s'.heap∧E (.ref C) none H'
theorem ObjOk.there {P:Program} {w:World} {H:Hp} {h:Heap} {a:Addr} {o:HO} (x:ObjOk P w H h a o):∃ ob,h.get? a=some ob:=by
  cases o with
  | lst xs=>obtain ⟨_,_,_,_,e⟩:=x; exact ⟨_,e⟩
  | tup xs=>obtain ⟨_,_,_,o,e,_⟩:=x; exact ⟨_,e⟩
  | dK kvs=>obtain ⟨_,_,_,_,o,_,_,e,_⟩:=x; exact ⟨_,e⟩
  | dT kvs=>obtain ⟨_,_,_,_,o,_,_,e,_⟩:=x; exact ⟨_,e⟩
  | set S n=>obtain ⟨o,_,_,_,e,_⟩:=x; exact ⟨_,e⟩
  | ins C dx fs=>obtain ⟨_,_,_,e,_⟩:=x; exact ⟨_,e⟩
  | own y=>obtain ⟨_,e⟩:=x; exact ⟨_,e⟩
  | xd fs=>obtain ⟨_,⟨_,_,_,e,_⟩,_⟩:=x; exact ⟨_,e⟩
  | rng lo hi=>obtain ⟨_,_,_,e⟩:=x; exact ⟨_,e⟩
  | frz ob u=>obtain ⟨e,_⟩:=x; exact ⟨_,e⟩
  | tbl ps=>exact ⟨_,(show h.get? a=some _ from x)⟩
  | met f y=>exact ⟨_,(show h.get? a=some _ from x)⟩
  | ext φ=>obtain ⟨_,⟨_,e⟩,_⟩:=x; exact ⟨_,e⟩
section
variable {P:Program} {w:World} {l:List Env} {H H':Hp} {h B h' h'':Heap}
theorem ExD.hok (x:HOk P w H' h') (tr:∀ b o,H' b=some o→∃ ob,B.get? b=some ob) (k1:B.StaysIn h') (k2:B.StaysIn h''):HOk P w H' h'':=fun b o e=>
  (x b o e).stay (fun c u hc q=>by
    have hc':∃ z,H' c=some z:=by
      rcases hc with z | z
      · exact ⟨o,by rw [z]; exact e⟩
      · exact ⟨_,z⟩
    obtain ⟨z,hz⟩:=hc'
    obtain ⟨ob,hb⟩:=tr c z hz
    have e1:some ob=some u:=(k1 c ob hb).symm.trans q
    cases e1
    exact k2 c _ hb) (fun _ z=>z) (fun _ _ z=>z)
theorem ExD.fly (x:ExD P w l H h B H' h') (k1:B.StaysIn h') (k2:B.StaysIn h'') (up:h'.UpToSlots h'') (fr:∀ b∈frs l,H b=none∧∃ o,h.get? b=some o∧∀ vs,o.data≠.fields vs):ExD P w l H h B H' h'' where
  un:=by
    have sl:∀ b o,h.get? b=some o→H b=none→b∈frs l→∃ sl,h''.get? b=some { o with slots:=sl }:=fun b o e n hb=>by
      obtain ⟨s1,e1⟩:=x.un.slot b o e n hb (by simp)
      obtain ⟨_,o2,e2,d2⟩:=fr b hb
      rw [e] at e2
      cases e2
      obtain ⟨s2,e3⟩:=up b _ e1 d2
      exact ⟨s2,e3⟩
    exact ⟨fun b o e n hb _=>k2 b o (x.kb b o e n hb),fun b o e n hb _=>sl b o e n hb,x.un.free,fun b o e hx=>by
      by_cases hb:b∈frs l
      · obtain ⟨s1,e1⟩:=sl b o e (fr b hb).1 hb
        exact ⟨_,e1⟩
      · obtain ⟨o',e'⟩:=x.all b o e hb
        exact ⟨o',k2 b o' e'⟩,x.un.tups,x.un.frzs,x.un.tbls⟩
  ok:=ExD.hok x.ok x.tr k1 k2
  kb:=x.kb
  all:=x.all
  tr:=x.tr
end
section
variable {X:Cx} {pins:List (Addr×Obj)} {σ:St} {H H':Hp} {s:Shared} {B h':Heap}
theorem Inv.frData (I:Inv X pins σ H s):∀ b∈frs X.stack,H b=none∧∃ o,s.heap.get? b=some o∧∀ vs,o.data≠.fields vs:=fun b hb=>⟨I.stkFree b hb,(I.stack.mem hb).2⟩
theorem ExD.pop (I:Inv X pins σ H s) (hst:X.stack=X.env::X.outer) (hf:X.env.frame=some X.env.locals) (hex:X.ex=[]) (x:ExD X.prog X.w X.stack H s.heap B H' h'):ExD X.prog X.w X.outer X.H₀ X.s₀.heap B H' h':=by
  have ne:∀ b o,X.s₀.heap.get? b=some o→b≠X.env.locals:=fun b o e=>Nat.ne_of_lt (Nat.lt_of_lt_of_le (Heap.lt_size e) I.ok.above)
  have nex:∀ b,b ∉ X.ex:=fun b=>by rw [hex]; simp
  have nst:∀ b o,X.s₀.heap.get? b=some o→b ∉ X.fs→b ∉ frs X.stack:=fun b o e hb z=>(List.mem_cons.mp (I.stkSub b z)).elim (ne b o e) hb
  have ist:∀ b,b∈X.fs→b∈frs X.stack:=fun b hb=>by
    rw [hst]
    unfold frs
    rw [List.filterMap_cons,hf]
    exact List.mem_cons_of_mem _ hb
  have kb':∀ b o,X.s₀.heap.get? b=some o→X.H₀ b=none→b ∉ frs X.outer→B.get? b=some o:=fun b o e n hb=>
    x.kb b o (I.base.keep b o e n hb (nex b)) (I.base.free b o e n (nex b)) (nst b o e hb)
  have all':∀ b o,X.s₀.heap.get? b=some o→b ∉ frs X.outer→∃ o',B.get? b=some o':=fun b o e hb=>by
    obtain ⟨o1,e1⟩:=I.base.there b o e (nex b)
    exact x.all b o1 e1 (nst b o e hb)
  refine ⟨⟨fun b o e n hb _=>?_,fun b o e n hb _=>?_,fun b o e n _=>?_,fun b o e _=>?_,fun b xs e=>x.un.tups b xs (I.base.tups b xs e),fun b o u e=>x.un.frzs b o u (I.base.frzs b o u e),fun b ps e=>?_⟩,x.ok,kb',all',x.tr⟩
  · exact x.un.keep b o (I.base.keep b o e n hb (nex b)) (I.base.free b o e n (nex b)) (nst b o e hb) (by simp)
  · obtain ⟨s1,e1⟩:=I.base.slot b o e n hb (nex b)
    obtain ⟨s2,e2⟩:=x.un.slot b _ e1 (I.base.free b o e n (nex b)) (ist b hb) (by simp)
    exact ⟨s2,e2⟩
  · obtain ⟨o1,e1⟩:=I.base.there b o e (nex b)
    exact x.un.free b o1 e1 (I.base.free b o e n (nex b)) (by simp)
  · obtain ⟨o1,e1⟩:=I.base.there b o e (nex b)
    exact x.un.there b o1 e1 (by simp)
  · obtain ⟨m1,e1⟩:=I.base.tbls b ps e
    obtain ⟨m2,e2⟩:=x.un.tbls b _ e1
    exact ⟨m1++m2,by rw [e2,Array.append_assoc]⟩
theorem ExD.made (I:Inv X pins σ H s) (k:(hideAll s.heap (frs X.stack)).StaysIn h') (up:s.heap.UpToSlots h'):ExD X.prog X.w X.stack H s.heap (hideAll s.heap (frs X.stack)) H h':=by
  have hid:∀ b o,s.heap.get? b=some o→b ∉ frs X.stack→(hideAll s.heap (frs X.stack)).get? b=some o:=fun b o e hb=>PySem.W.hideAll_get _ e hb
  have tr:∀ b o,H b=some o→∃ ob,(hideAll s.heap (frs X.stack)).get? b=some ob:=fun b o e=>by
    have hb:b ∉ frs X.stack:=fun z=>by rw [I.stkFree b z] at e; cases e
    have lt:=I.hok.lt e
    cases q:s.heap.get? b with
    | some ob=>exact ⟨ob,hid b ob q hb⟩
    | none=>
      exfalso
      have hk:=I.hok b o e
      have th:∃ ob,s.heap.get? b=some ob:=ObjOk.there hk
      obtain ⟨ob,z⟩:=th
      rw [q] at z
      cases z
  have sl:∀ b o,s.heap.get? b=some o→b∈frs X.stack→∃ sl,h'.get? b=some { o with slots:=sl }:=fun b o e hb=>by
    obtain ⟨_,o2,e2,d2⟩:=I.frData b hb
    rw [e] at e2
    cases e2
    exact up b o e d2
  refine ⟨⟨fun b o e n hb _=>k b o (hid b o e hb),fun b o e n hb _=>sl b o e hb,fun b o e n _=>n,fun b o e _=>?_,fun _ _ z=>z,fun _ _ _ z=>z,fun b ps e=>⟨#[],by rw [e]; simp⟩⟩,?_,fun b o e _ hb=>hid b o e hb,fun b o e hb=>⟨o,hid b o e hb⟩,tr⟩
  · by_cases hb:b∈frs X.stack
    · obtain ⟨s1,e1⟩:=sl b o e hb
      exact ⟨_,e1⟩
    · exact ⟨o,k b o (hid b o e hb)⟩
  · exact ExD.hok I.hok tr (fun b o e=>PySem.W.of_hideAll _ e) k
structure ExC (K:PySem.W.Frag) (mg:Str→Option Value) (x:Str) (C:Addr):Prop where
  at_:mg x=some (.ref C)
  ex:PySem.W.excIn K C [.type "ValueError",.type "Exception",.type "BaseException",.type "object"] "ValueError.__new__" = true
theorem ExC.own {K:PySem.W.Frag} {mg:Str→Option Value} {x:Str} {C:Addr} {h:Heap} (c:ExC K mg x C) (X:K.In h):OwnCls x C [.type "ValueError",.type "Exception",.type "BaseException",.type "object"] "ValueError.__new__" mg h:=by
  refine ⟨c.at_,?_⟩
  have q:=c.ex
  unfold PySem.W.excIn at q
  split at q
  · rename_i dd cd sl ho
    split at q
    · rename_i C' bm k0 k1 k2 k3 n k5 hm hs
      simp only [Bool.and_eq_true,beq_iff_eq,Bool.not_eq_true'] at q
      obtain ⟨⟨⟨⟨⟨rfl,rfl⟩,hdel⟩,ht⟩,hok⟩,hni⟩:=q
      obtain ⟨nm,bs,mro,ns,qn,hd,sn,sub,ab,col,del⟩:=cd
      dsimp only at hm hdel hok hni
      subst hm hdel
      have hsl:sl=#[k0,k1,k2,k3,some (.builtin "ValueError.__new__"),k5]:=by
        obtain ⟨l⟩:=sl
        simp only at hs
        rw [hs]
      subst hsl
      exact ⟨bm,ns,nm,qn,bs,hd,sn,sub,ab,col,dd,k0,k1,k2,k3,k5,_,X _ _ ho,.of_isNs (PySem.W.isNs_of_in X hok),PySem.W.nsMap_none_of_in X hok hni,PySem.W.tail_of_in X ht⟩
    · cases q
  · cases q
variable {x:Str} {C:Addr} {np cpos pos:Pos} {e:Expr} {es:List Expr} {t:TA} {E:XK}
noncomputable def Raises (X:Cx) (E:XK):Prop:=∀ (pins:List (Addr×Obj)) (σ:St) (H:Hp) (s:Shared) (a C:Addr) (vs:List Value) (h':Heap),Inv X pins σ H s→Heap.MadeExcOf s.heap h' a (.ref C) vs→E (.ref C) none H→X.xe (.ref a) { s with heap:=h' }
noncomputable def tRaise (C:Addr) (E:XK) (t:TA):TS:=fun _ σ H=>t σ H fun vs H1=>vs.length≤sizeLine∧E (.ref C) none H1
theorem ps_raise (c:ExC X.K X.mg x C) (hr:Raises X E) (hh:X.A.handled=none) (hg:Gl X x) (ha:PA X (e::es) t) (hdb:(x == ("__debug__" : Str))=false:=by decide) (he:(e::es).all noStar=true:=by rfl) :
    PS X (.Raise (some (.Call (.Name x np) (e::es) [] cpos)) none pos) (tRaise C E t):=by
  intro pins s σ H D I h
  have he':=he
  rw [List.all_cons,Bool.and_eq_true] at he'
  have O:=c.own I.mod.kin
  obtain ⟨tl,N,nm,q,bs,hdct,sn,sub,ab,col,dd,k0,k1,k2,k3,k5,mN,hC,hN,hni,T⟩:=O.obj
  have FB:=PySem.F.excBase_ValueError
  refine wpAny_Raise_call_subT (C:=C) (nm:=nm) (q:=q) (N:=N) (bs:=bs) (bm:=tl) (hdct:=hdct) (sn:=sn) (sub:=sub) (ab:=ab) (col:=col) (dd:=dd) (k0:=k0) (k1:=k1) (k2:=k2) (k3:=k3) (k5:=k5)
    FB (mN:=mN) (T.hasType FB.hasBase) hh (star_any he) hni (ld_glob I hg c.at_ ⟨rfl,?_⟩ hdb)
  have ha':=ha cpos pins s σ H _ I h
  rw [star_cons he'.1] at ha' ⊢
  refine Calls.evalArgs_plain (thn ha' fun us s2 ⟨vs,H1,I1,r,hl,q1⟩=>?_)
  exact ⟨rfl,by rw [← r.length]; exact hl,I1.bk _ _ hC,hN.keeps I1.bk,T.keeps I1.bk,fun h' a hm=>hr pins σ H1 s2 a C us h' I1 hm q1⟩
end
section
variable {P:Program} {w:World} {K:PySem.W.Frag} {mg:Str→Option Value} {base:Heap} {N:List Str} {qual:Str} {scope:Scope} {f:Addr} {cd:Value} {A:Around} {outer:List Env} {s₀:Shared} {H₀:Hp} {E:XK}
noncomputable abbrev cxE (P:Program) (w:World) (K:PySem.W.Frag) (mg:Str→Option Value) (base:Heap) (N:List Str) (qual:Str) (scope:Scope) (f:Addr) (cd:Value) (A:Around) (outer:List Env) (s:Shared) (H:Hp) (E:XK):Cx:=
  cxOf (ExF P w) P w K mg base N qual scope f cd A outer s H E
theorem raises_def:Raises (cxE P w K mg base N qual scope f cd A outer s₀ H₀ E) E:=by
  intro pins σ H s a C vs h' I hm hE
  have hin:∀ env∈(cxE P w K mg base N qual scope f cd A outer s₀ H₀ E).stack,∀ b,env.frame=some b→b∈frs (cxE P w K mg base N qual scope f cd A outer s₀ H₀ E).stack:=fun env he b hb=>List.mem_filterMap.mpr ⟨env,he,hb⟩
  show wpAny (model P w) _ (leaving _ (.ref a)) _ _ _
  refine wpAny_leaves_madeW (s:={ s with heap:=h' }) (base:=hideAll s.heap (frs (cxE P w K mg base N qual scope f cd A outer s₀ H₀ E).stack)) I.ok.frames rfl (fun b o q=>PySem.W.of_hideAll _ q) (PySem.W.funFrames_hide I.stack hin) hm fun h2 t x1 x2 x3 x4=>?_
  have up:s.heap.UpToSlots h2:=(Heap.UpToSlots.of_keeps hm.keeps).trans x4
  exact ⟨a,C,.ref t,_,H,rfl,I.os,I.bare,x1,ExD.pop I rfl rfl rfl (ExD.made I x1.1 up),hE⟩
noncomputable def HasX (P:Program) (w:World) (K:PySem.W.Frag) (mg:Str→Option Value) (base:Heap) (x:Str) (ps:List Str) (k:Nat) (sp:Sp):Prop:=
  ∃ (f:Addr) (fd:FuncData),mg x=some (.ref f)∧PySem.W.keepIn K (.ref f)=true∧Binds K fd ps []∧FnOk P w K mg base (ExF P w) k f fd ps sp
theorem Def.okX {x:Str} {st:Stmt} {N ps:List Str} {k:Nat} {sp:Sp} (d:Def K mg x st ps) (S:FnScope N ps (defScope st)) (len:∀ vs H Q E,sp vs H Q E→vs.length=ps.length)
    (hbody:∀ (f:Addr) (cdv:Value) (A:Around) (outer:List Env) (s:Shared) (H:Hp) (vs:List V) (Q:VK) (E:XK),Room k (A.deeper (envOfC x (defScope st) s.heap.objs.size f cdv))→sp vs H Q E→
      ∃ t,QSs (cxE P w K mg base N x (defScope st) f cdv A outer s H E) (defBody st) t∧t { nx:=fun _ H'=>Q .non H',rt:=Q } (start N vs) H):HasX P w K mg base x ps (k+1) sp:=by
  obtain ⟨f,fd,F,hm,hb⟩:=d
  obtain ⟨oc,od,kV,doc,pm,an,cdv,ct,osl,rfl,lk,hcd⟩:=F.ex
  refine ⟨f,_,hm,F.kp,hb,fn_of lk hcd S len fun A outer s H vs Q E hr hsp=>?_⟩
  obtain ⟨t,h,q⟩:=hbody f cdv A outer s H vs Q E hr hsp
  exact ⟨t,h.h,q⟩
end
section
variable {X:Cx} {x:Str} {np cpos pos p:Pos} {e:Expr} {es:List Expr} {t:TA} {E:XK} {C:Addr} {ps:List Str} {j k:Nat} {sp:Sp}
end
end L2
namespace L2
open PySem PySem.Spec PyProof.Rows
noncomputable abbrev Cx.marked (X:Cx) (a:Addr):Cx:={ X with A:=X.A.mark (some (.ref a)),calm:=false,xe:=fun _ _=>False }
noncomputable abbrev Cx.uncalm (X:Cx) (A:Around) (xe:Value→Shared→Prop):Cx:={ X with A:=A,calm:=false,xe:=xe }
section
variable {X:Cx} {pins:List (Addr×Obj)} {σ:St} {H H':Hp} {s:Shared} {a C:Addr}
theorem Inv.uncalm (I:Inv X pins σ H s) {A:Around} (hf:A.frames=X.A.frames) (xe:Value→Shared→Prop):Inv (X.uncalm A xe) pins σ H s:=
  ⟨⟨I.ok.mod,I.ok.kind,I.ok.glob,I.ok.blt,I.ok.above,I.ok.inj,I.ok.has,I.ok.cab,(fun z=>nomatch z),hf.trans I.ok.frames,I.ok.stk,I.ok.exf,I.ok.bs,I.ok.bsz,I.ok.noex,I.ok.exfs,I.ok.funs,I.ok.frf⟩,I.os,I.bare,I.base,I.loc,I.cell,I.free,I.freeC,I.pin,I.hok,I.len⟩
theorem Inv.marked (I:Inv X pins σ H s) (a:Addr):Inv (X.marked a) pins σ H s:=I.uncalm (A:=X.A.mark (some (.ref a))) rfl _
theorem Inv.unmarked (I:Inv (X.marked a) pins σ H s) (hd:X.calm=true→X.A.handled=none):Inv X pins σ H s:=
  ⟨⟨I.ok.mod,I.ok.kind,I.ok.glob,I.ok.blt,I.ok.above,I.ok.inj,I.ok.has,I.ok.cab,hd,I.ok.frames,I.ok.stk,I.ok.exf,I.ok.bs,I.ok.bsz,I.ok.noex,I.ok.exfs,I.ok.funs,I.ok.frf⟩,I.os,I.bare,I.base,I.loc,I.cell,I.free,I.freeC,I.pin,I.hok,I.len⟩
theorem Inv.forget {h':Heap} {m':Str→Option Value} {tk:Nat} (I:Inv X pins σ H s) (ns:h'.Ns X.env.locals m') (hs:Heap.SameBut X.env.locals s.heap h'):Inv X pins (List.replicate X.N.length none) H { s with heap:=h',toks:=tk }:=by
  have ne:∀ b o,X.s₀.heap.get? b=some o→b≠X.env.locals:=fun b o e=>Nat.ne_of_lt (Nat.lt_of_lt_of_le (Heap.lt_size e) I.ok.above)
  have kp:∀ b o,b≠X.env.locals→s.heap.get? b=some o→h'.get? b=some o:=fun b o hb e=>(hs.2 b hb).trans e
  have tn:∀ b o,H b=some o→b≠X.env.locals:=fun b o e z=>by rw [z,I.free] at e; cases e
  refine ⟨I.ok,I.os,I.bare,⟨fun b o e n hb hx=>kp b o (ne b o e) (I.base.keep b o e n hb hx),fun b o e n hb hx=>?_,I.base.free,fun b o e hx=>?_,I.base.tups,I.base.frzs,I.base.tbls⟩,⟨m',ns,fun i x v _ e2 _=>?_⟩,fun x c e=>?_,I.free,I.freeC,fun p hp=>?_,fun b o e=>?_,List.length_replicate ..⟩
  · obtain ⟨sl,e1⟩:=I.base.slot b o e n hb hx
    exact ⟨sl,kp b _ (ne b o e) e1⟩
  · obtain ⟨o',e1⟩:=I.base.there b o e hx
    exact ⟨o',kp b _ (ne b o e) e1⟩
  · rw [List.getElem?_replicate] at e2
    split at e2<;>cases e2
  · obtain ⟨v,o,ho,hd⟩:=I.cell x c e
    exact ⟨v,o,kp c o (I.cne x c e) ho,hd⟩
  · obtain ⟨e,n,hne,nf,d⟩:=I.pin p hp
    exact ⟨kp _ _ hne e,n,hne,nf,d⟩
  · refine (I.hok b o e).stay (fun c u hc q=>kp c u ?_ q) (fun _ z=>z) (fun _ _ z=>z)
    rcases hc with z | z
    · rw [z]; exact tn b o e
    · exact tn c _ z
noncomputable def ExcO (a C:Addr) (h:Heap):Prop:=∃ o vs,h.get? a=some o∧o.cls=.ref C∧o.data=.fields vs
theorem un_trackN {fs ex:List Addr} {H H':Hp} {h h':Heap} {D:Addr} {o:HO} (u:Un fs ex H H' h h') (hD:h.get? D=none) (hn:H' D=none):Un fs ex H (upd H' D o) h h' where
  keep:=u.keep
  slot:=u.slot
  free:=fun b ob q n hx=>by rw [upd_ne (fun z=>by subst z; rw [hD] at q; cases q)]; exact u.free b ob q n hx
  there:=u.there
  tups:=fun b xs q=>by rw [upd_ne (ne_of_none (u.tups b xs q) hn)]; exact u.tups b xs q
  frzs:=fun b ob v q=>by rw [upd_ne (ne_of_none (u.frzs b ob v q) hn)]; exact u.frzs b ob v q
  tbls:=fun b ps q=>by
    obtain ⟨more,z⟩:=u.tbls b ps q
    exact ⟨more,by rw [upd_ne (ne_of_none z hn)]; exact z⟩
noncomputable def XP (X:Cx) (pins:List (Addr×Obj)) (σ:St) (E:XK) (ev:Value) (s':Shared):Prop:=∃ H s1,Inv X pins σ H s1∧ExF X.prog X.w X.stack H s1 E ev s'
end
noncomputable abbrev TX:=St→Hp→VK→XK→Prop
structure QX (X:Cx) (e:Expr) (t:TX):Prop where
  h:∀ (pins:List (Addr×Obj)) (s:Shared) (σ:St) (H:Hp) (Q:VK) (E:XK),Inv X pins σ H s→t σ H Q E→wpAny (model X.prog X.w) X.A (eval e X.env) (EP X pins σ Q) (XP X pins σ E) s
section
variable {X:Cx} {x n:Str} {p pos np hpos tpos:Pos} {e e1 e2:Expr} {es:List Expr} {ta:TA} {te:TE} {tx:TX} {ps:List Str} {j k i:Nat} {sp:Sp} {E:XK} {D:Addr}
theorem EP.unnox {pins:List (Addr×Obj)} {σ:St} {Q:VK} {u:Value} {s':Shared} (h:EP X.nox pins σ Q u s'):EP X pins σ Q u s':=by
  obtain ⟨v,H',I,r,q⟩:=h
  exact ⟨v,H',I.unwish,r,q⟩
noncomputable def xCall (sp:Sp) (t:TA):TX:=fun σ H Q E=>t σ H fun vs H1=>sp vs H1 Q E
theorem qx_call (h:HasX X.prog X.w X.K X.mg X.base x ps k sp) (hr:Room j X.A) (hg:Gl X x) (ha:QA X.nox (e::es) ta) (hk:k≤j:=by decide) (hdb:(x == ("__debug__" : Str))=false:=by decide)
    (he:(e::es).all noStar=true:=by rfl):QX X (.Call (.Name x p) (e::es) [] pos) (xCall sp ta):=by
  obtain ⟨f,fd,hm,kp,b,F⟩:=h
  rw [List.all_cons,Bool.and_eq_true] at he
  refine ⟨fun pins s σ H Q E I q=>?_⟩
  refine wpAny_Call_Name_kw (ld_glob I hg hm ?_ hdb)
  have ha':=ha.h pos pins s σ H (fun vs H1=>sp vs H1 Q E) (I.wish _) q
  refine PySem.W.callWith_K (h₀:=X.base) I.ok.mod.kin kp (wpAny_mono ha' (fun us s1 ⟨vs,H1,I1',r,q1⟩=>?_) fun _ _ z=>z.elim) (star_cons he.1) (star_any he.2)
  have I1:Inv X pins σ H1 s1:=I1'.unwish
  refine ⟨I1.kIn,?_⟩
  have hl:us.length=ps.length:=by rw [← r.length]; exact F.len _ _ _ _ q1
  have hl2:(us++[]).length=ps.length:=by rw [List.append_nil]; exact hl
  have hb:=b s1 us I1.kIn hl2
  rw [List.append_nil] at hb
  refine wpAny_call (codeAny_mono (F.run X.A X.stack s1 H1 ⟨us,[]⟩ us vs Q E (hr.mono hk) I1.env0 hb r q1) fun r s' hq=>?_)
  cases r with
  | error e=>exact ⟨H1,s1,I1,hq⟩
  | ok fl=>
    cases fl with
    | ret u=>exact I1.after hq
    | next=>exact False.elim hq
    | brk=>exact False.elim hq
    | cont=>exact False.elim hq
noncomputable def xPair (te:TE) (tx:TX):TX:=fun σ H Q E=>te σ H fun x1 H1=>tx σ H1 (fun x2 H2=>∀ p,H2 p=none→Q (.ref p) (upd H2 p (.tup [x1,x2]))) E
theorem qx_pair {kk:Nat} (h1:QE X.nox e1 te) (h2:QX X e2 tx) (n1:noStar e1=true:=by rfl) (n2:noStar e2=true:=by rfl):QX X (.Tuple [e1,e2] kk pos) (xPair te tx):=by
  refine ⟨fun pins s σ H Q E I q=>?_⟩
  refine wpAny_Tuple_spliced ?_
  rw [star_cons n1,star_cons n2]
  show wpAny _ _ (spliced ((false,eval e1 X.env)::(false,eval e2 X.env)::[])) _ _ s
  refine Calls.spliced_cons (wpAny_mono (h1.h pins s σ H _ (I.wish _) q) (fun v1 s1 z=>?_) fun _ _ z=>z.elim)
  obtain ⟨x1,H1,I1,r1,q1⟩:=EP.unnox z
  refine Calls.spliced_cons (wpAny_mono (h2.h pins s1 σ H1 _ E I1 q1) (fun v2 s2 ⟨x2,H2,I2,r2,q2⟩=>?_) fun _ _ z=>z)
  refine Calls.spliced_nil ⟨(by show 2≤sizeLine; decide),?_⟩
  have hv:Vals [x1,x2] [v1,v2]:=.cons r1 (.cons r2 .nil)
  refine ⟨.ref s2.heap.objs.size,_,I2.laid (o:=.tup [x1,x2]) (t':=s2.toks) (fun b u e=>Heap.get?_push_of_some _ e) (Nat.le_refl _) ?_,rfl,q2 _ (I2.hok.fresh (Nat.le_refl _))⟩
  exact ⟨(by show 2≤sizeLine; decide),[v1,v2],hv,⟨_,Heap.get?_push_size _ rfl,rfl,_,rfl⟩⟩
theorem exf_caught {pins:List (Addr×Obj)} {σ:St} {H H':Hp} {s1 s':Shared} {a C:Addr} {a0:Value} {B:Heap} (I:Inv X pins σ H s1) (hex:X.ex=[]) (ho:s'.os=s1.os) (hg:AllBare s'.gens)
    (fl:Heap.FlyingW B X.stack a (.ref C) a0 s'.heap) (x:ExD X.prog X.w X.stack H s1.heap B H' s'.heap):H' a=none∧Inv X pins σ H' s'∧Inv X pins σ (upd H' a (.ext (ExcO a C))) s':=by
  have na:H' a=none:=by
    cases q:H' a with
    | none=>rfl
    | some o=>
      obtain ⟨ob,e⟩:=x.tr a o q
      rw [fl.2.1] at e
      cases e
  obtain ⟨oe,vs,e1,c1,d1,_⟩:=fl.first
  have ns:s1.heap.get? a=none:=by
    cases q:s1.heap.get? a with
    | none=>rfl
    | some o=>
      exfalso
      by_cases hb:a∈frs X.stack
      · obtain ⟨n0,o2,e2,d2⟩:=I.frData a hb
        obtain ⟨sl,e3⟩:=x.un.slot a o2 e2 n0 hb (by simp)
        rw [e1] at e3
        cases e3
        exact d2 vs d1
      · obtain ⟨o',e'⟩:=x.all a o q hb
        rw [fl.2.1] at e'
        cases e'
  have J:Inv X pins σ H' s':=I.call' ho x.un x.ok hg (ch:=[]) (fun b hb=>absurd hb (by simp))
  have new:ObjOk X.prog X.w (upd H' a (.ext (ExcO a C))) s'.heap a (.ext (ExcO a C)):=⟨⟨oe,vs,e1,c1,d1⟩,⟨oe,e1⟩,fun h1 h2 ⟨o,ws,q1,q2,q3⟩ k=>⟨o,ws,k o q1,q2,q3⟩⟩
  exact ⟨na,J,I.call' ho (un_trackN x.un ns na) (hok_track x.ok na new) hg (ch:=[]) (fun b hb=>absurd hb (by simp))⟩
variable {suite:List Stmt} {ts:TS} {b₀:Stmt}
noncomputable def tTryRet (K:PySem.W.Frag) (i m:Nat) (D:Addr) (tx:TX) (ts:TS):TS:=fun F σ H=>tx σ H F.rt fun cv _ H1=>∃ C,cv=.ref C∧PySem.W.exmOne K (.ref C) (.ref D)=some true∧
  ∀ a,H1 a=none→ts { nx:=fun _ H2=>F.nx (List.replicate m none) H2,rt:=F.rt,bk:=fun _ H2=>F.bk (List.replicate m none) H2,ct:=fun _ H2=>F.ct (List.replicate m none) H2 } (σ.set i (some (.ref a))) (upd H1 a (.ext (ExcO a C)))
theorem ps_tryRet (hst:X.stack=X.env::X.outer) (hf:X.env.frame=some X.env.locals) (hex:X.ex=[]) (hcalm:X.A.handled=none) (hd:X.mg x=some (.ref D)) (hg:Gl X x) (hN:X.N.Nodup) (hi:X.N[i]?=some n) (hx:X.env.scope.names.lookup n=some .local)
    (hb:QX X e tx) (hs:∀ a,QSs (X.marked a) (b₀::suite) ts) (hdb:(x == ("__debug__" : Str))=false:=by decide) :
    PS X (.Try [.Return (some e) pos] [.ExceptHandler (some (.Name x np)) (some n) (b₀::suite) hpos] [] [] tpos) (tTryRet X.K i X.N.length D tx ts):=by
  intro pins s σ H F I h
  have hloc:X.env.kindOf n=some .local:=hx
  have hp:(X.env.scope.kind == .class||(X.env.scope.kind == .module&&X.env.locals != X.env.globals))=false:=by rw [I.ok.kind]; rfl
  refine wpAny_Try_except ?_
  refine wpAny_execs_cons ?_
  refine wpAny_Return_some (wpAny_mono (hb.h pins s σ H _ _ I h) (fun u s1 ⟨v,H1,I1,r1,q1⟩=>?_) fun ev s1 z=>?_)
  · exact ⟨v,σ,H1,I1,r1,q1⟩
  obtain ⟨H0,s0,I0,a,C,a0,B,H',rfl,ho,hg',fl,xd,C',hC,hm,hq⟩:=z
  cases hC
  have fr:=I0.frData
  have hfr:X.A.frames=some (X.env::X.outer):=by rw [I0.ok.frames,hst]
  have fl':=fl
  rw [hst] at fl'
  refine wpAny_looks_onW hfr hf fl' fun h2 held up2=>?_
  refine wpAny_landsW (s:={ s1 with heap:=h2 }) held fun h3 fl3 up3=>?_
  have fl3':Heap.FlyingW B X.stack a (.ref C) a0 h3:=by rw [hst]; exact fl3
  have x3:ExD X.prog X.w X.stack H0 s0.heap B H' h3:=xd.fly fl.1 fl3.1 (up2.trans up3) fr
  obtain ⟨na,J3,_⟩:=exf_caught (s':={ s1 with heap:=h3 }) I0 hex ho hg' fl3' x3
  refine wpAny_handleBy_cons (codeAny_handlers_test ?_) (by intro q; cases q)
  refine ld_glob (X:=X.marked a) (J3.marked a) hg hd ?_ hdb
  obtain ⟨ob,hob,hobc⟩:=fl3.there
  have LT:PySem.W.Looks (model X.prog X.w) h3 (typeOf (.ref a)) (.ref C):=hobc ▸ (PySem.W.Looks.ld hob).andThen .now
  refine (PySem.W.exm_one (K:=X.K) (show X.K.In h3 from J3.kIn) LT hm).here ?_
  show codeAny _ _ (.handlers (.ref a) [.ExceptHandler none (some n) (b₀::suite) hpos] X.env) _ _
  refine codeAny_handlers_suite_as ?_
  refine lands_againW (s:={ s1 with heap:=h3 }) fl3 fun h4 fl4 up4=>?_
  have fl4':Heap.FlyingW B X.stack a (.ref C) a0 h4:=by rw [hst]; exact fl4
  have x4:ExD X.prog X.w X.stack H0 s0.heap B H' h4:=x3.fly fl3.1 fl4.1 up4 fr
  obtain ⟨_,_,J4⟩:=exf_caught (s':={ s1 with heap:=h4 }) I0 hex ho hg' fl4' x4
  refine store_ok (X:=X.marked a) (J4.marked a) hN hi (.inl hx) (v:=.ref a) rfl (fun s5 I5=>?_) (.inr hx)
  refine wpAny_mono ((hs a).h pins s5 _ _ _ I5 (hq a na)) (fun f s6 z6=>?_) fun _ _ z=>z.elim
  show wpAny _ X.A _ _ _ s6
  have go:∀ {σ6:St} {H6:Hp},Inv (X.marked a) pins σ6 H6 s6→(∀ h7 m7,Inv X pins (List.replicate X.N.length none) H6 { s6 with heap:=h7,toks:=s6.toks+1 }→SP X pins F f { s6 with heap:=h7,toks:=s6.toks+1 })→
      wpAny (model X.prog X.w) X.A (do bindName X.env n .none; unbindBehindTheSuite X.env n hpos) (fun _ s7=>SP X pins F f s7) X.xe s6:=fun {σ6 H6} I6 k=>by
    have I6':Inv X pins σ6 H6 s6:=I6.unmarked fun _=>hcalm
    obtain ⟨m6,ns6,_⟩:=I6'.loc
    refine wpAny_nameGoes hloc ns6 hp fun h7 m7 ns7 hs7=>k h7 m7 (I6'.forget ns7 hs7)
  cases f with
  | next=>obtain ⟨σ6,H6,I6,q6⟩:=z6; exact go I6 fun h7 m7 I7=>⟨_,_,I7,q6⟩
  | brk=>obtain ⟨σ6,H6,I6,q6⟩:=z6; exact go I6 fun h7 m7 I7=>⟨_,_,I7,q6⟩
  | cont=>obtain ⟨σ6,H6,I6,q6⟩:=z6; exact go I6 fun h7 m7 I7=>⟨_,_,I7,q6⟩
  | ret u=>obtain ⟨v6,σ6,H6,I6,r6,q6⟩:=z6; exact go I6 fun h7 m7 I7=>⟨v6,_,_,I7,r6,q6⟩
end
end L2
namespace L2
open PySem PySem.Spec PyProof.Rows
structure RoomH (k:Nat) (A:Around):Prop where
  dp:A.depth+3*k+5<recursionLimit
  un:A.units+16*k+200<cLine
theorem RoomH.mono {j k:Nat} {A:Around} (r:RoomH k A) (h:j≤k):RoomH j A:=⟨by have:=r.dp; omega,by have:=r.un; omega⟩
theorem RoomH.deeper {k:Nat} {A:Around} (r:RoomH (k+1) A) (env:Env):RoomH k (A.deeper env):=
  ⟨by have:=r.dp; show A.depth+1+3*k+5<_; omega,by have:=r.un; show A.units+3+16*k+200<_; omega⟩
theorem RoomH.depth {k:Nat} {A:Around} (r:RoomH k A):A.depth<recursionLimit:=by have:=r.dp; omega
theorem Room.marked {k:Nat} {A:Around} (r:Room k A) (v:Option Value):RoomH k (A.mark v):=⟨r.dp,r.un⟩
structure FnOkH (P:Program) (w:World) (K:PySem.W.Frag) (mg:Str→Option Value) (base:Heap) (k:Nat) (f:Addr) (fd:FuncData) (ps:List Str) (sp:Sp):Prop where
  len:∀ vs H Q E,sp vs H Q E→vs.length=ps.length
  run:∀ (A:Around) (outer:List Env) (s:Shared) (H:Hp) (args:Args) (us:List Value) (vs:List V) (Q:VK) (E:XK),RoomH k A→Env0 P w K mg base A outer s H→BindsTo s fd args (ps.zip us)→Vals vs us→sp vs H Q E→
    codeAny (model P w) A (.call (.ref f) args) (CR CX0 outer P w H s Q E) s
noncomputable def HasH (P:Program) (w:World) (K:PySem.W.Frag) (mg:Str→Option Value) (base:Heap) (x:Str) (ps:List Str) (k:Nat) (sp:Sp):Prop:=
  ∃ (f:Addr) (fd:FuncData),mg x=some (.ref f)∧PySem.W.keepIn K (.ref f)=true∧Binds K fd ps []∧FnOkH P w K mg base k f fd ps sp
noncomputable abbrev cxH (P:Program) (w:World) (K:PySem.W.Frag) (mg:Str→Option Value) (base:Heap) (N:List Str) (qual:Str) (scope:Scope) (f:Addr) (cd:Value) (A:Around) (outer:List Env) (s:Shared) (H:Hp) (E:XK):Cx:=
  { (cxOf CX0 P w K mg base N qual scope f cd A outer s H E) with calm:=false,xe:=fun _ _=>False }
theorem Env0.calm {P:Program} {w:World} {K:PySem.W.Frag} {mg:Str→Option Value} {base:Heap} {A:Around} {outer:List Env} {s:Shared} {H:Hp} (e:Env0 P w K mg base A outer s H):Env0 P w K mg base { A with handled:=none } outer s H:=
  ⟨e.frames,e.mod,e.bs,e.bsz,e.funs,e.frf,e.hok,e.bare⟩
theorem fn_ofH {P:Program} {w:World} {K:PySem.W.Frag} {mg:Str→Option Value} {base:Heap} {k:Nat} {f:Addr} {name qual:Str} {params:Arguments} {body:List Stmt} {scope:Scope} {dV kV doc pm cdv ct oc:Value} {an od:Option Addr}
    {osl:Array (Option Value)} {N ps:List Str} {sp:Sp} (lk:K.lookup f=some ⟨oc,od,.func (PySem.W.fnOf name qual params body scope dV kV doc pm an cdv ct),osl⟩) (hcd:PySem.W.codeIn K cdv qual=true) (S:FnScope N ps scope)
    (len:∀ vs H Q E,sp vs H Q E→vs.length=ps.length)
    (hbody:∀ (A:Around) (outer:List Env) (s:Shared) (H:Hp) (vs:List V) (Q:VK) (E:XK),RoomH k (A.deeper (envOfC qual scope s.heap.objs.size f cdv))→sp vs H Q E→
      ∃ t,PSs (cxH P w K mg base N qual scope f cdv A outer s H E) body t∧t { nx:=fun _ H'=>Q .non H',rt:=Q } (start N vs) H) :
    FnOkH P w K mg base (k+1) f (PySem.W.fnOf name qual params body scope dV kV doc pm an cdv ct) ps sp:=by
  refine ⟨len,fun A outer s H args us vs Q E hr e0 hb r hsp=>?_⟩
  have hl:=len _ _ _ _ hsp
  have KX:K.In s.heap:=e0.mod.kin.keeps fun b o e=>(e0.bs b o e).1
  have lim:s.heap.NoLimit:=e0.mod.nolimit.keeps fun b o e=>(e0.bs b o e).1
  have hkind:∀ y∈ps.zip us,scope.names.lookup y.1=some .local∨(scope.names.lookup y.1=some .cell∧((cellsFrom (s.heap.objs.size+1) scope.names []).lookup y.1).isSome=true):=fun ⟨n,v⟩ hy=>by
    rcases S.par n (List.of_mem_zip hy).1 with q | q
    · exact .inl q
    · exact .inr ⟨q,PySem.W.cellsFrom_some _ _ _ (.inl q)⟩
  refine codeAny_call_function hr.depth (KX _ _ lk) rfl S.co S.gen rfl (PySem.W.codeRec_of KX hcd) (hb _ _ _ _ ?_)
  refine wpAny_newFunctionEnv_cells S.kind hkind fun env he s1 x=>?_
  subst he
  refine ⟨lim.keeps x.toInCall.keep,codeAny_func ?_⟩
  obtain ⟨t,ht,hq⟩:=hbody A outer s H vs Q E (hr.deeper _) hsp
  have I0:Inv (cxOf CX0 P w K mg base N qual scope f cdv { A with handled:=none } outer s H E) [] (start N vs) H s1:=inv_start S rfl e0.calm hl r x
  have I:Inv (cxH P w K mg base N qual scope f cdv A outer s H E) [] (start N vs) H s1:=I0.uncalm (A:=A.deeper (envOfC qual scope s.heap.objs.size f cdv)) rfl _
  refine wpAny_mono (ht [] s1 (start N vs) H _ I hq) (fun fl s' hs=>?_) fun e s' hs=>hs.elim
  have fin:∀ {σ':St} {H':Hp} {v:V} {u:Value},Inv (cxH P w K mg base N qual scope f cdv A outer s H E) [] σ' H' s'→RelV v u→Q v H'→CE outer P w H s Q u s':=
    fun {σ' H' v u} J rv q=>⟨v,H',J.os,J.bare,J.base,J.hok,rv,q⟩
  cases fl with
  | ret u=>
    obtain ⟨v,σ',H',J,rv,q⟩:=hs
    exact fin J rv q
  | next=>
    obtain ⟨σ',H',J,q⟩:=hs
    exact fin (v:=V.non) (u:=Value.none) J rfl q
  | brk=>
    obtain ⟨_,_,_,q⟩:=hs
    exact False.elim q
  | cont=>
    obtain ⟨_,_,_,q⟩:=hs
    exact False.elim q
theorem Def.okH {P:Program} {w:World} {K:PySem.W.Frag} {mg:Str→Option Value} {base:Heap} {x:Str} {st:Stmt} {N ps:List Str} {k:Nat} {sp:Sp} (d:Def K mg x st ps) (S:FnScope N ps (defScope st)) (len:∀ vs H Q E,sp vs H Q E→vs.length=ps.length)
    (hbody:∀ (f:Addr) (cdv:Value) (A:Around) (outer:List Env) (s:Shared) (H:Hp) (vs:List V) (Q:VK) (E:XK),RoomH k (A.deeper (envOfC x (defScope st) s.heap.objs.size f cdv))→sp vs H Q E→
      ∃ t,QSs (cxH P w K mg base N x (defScope st) f cdv A outer s H E) (defBody st) t∧t { nx:=fun _ H'=>Q .non H',rt:=Q } (start N vs) H):HasH P w K mg base x ps (k+1) sp:=by
  obtain ⟨f,fd,F,hm,hb⟩:=d
  obtain ⟨oc,od,kV,doc,pm,an,cdv,ct,osl,rfl,lk,hcd⟩:=F.ex
  refine ⟨f,_,hm,F.kp,hb,fn_ofH lk hcd S len fun A outer s H vs Q E hr hsp=>?_⟩
  obtain ⟨t,h,q⟩:=hbody f cdv A outer s H vs Q E hr hsp
  exact ⟨t,h.h,q⟩
section
variable {X:Cx} {x:Str} {p pos:Pos} {e:Expr} {es:List Expr} {t:TA} {ps:List Str} {j k:Nat} {sp:Sp}
theorem qe_ownH (h:HasH X.prog X.w X.K X.mg X.base x ps k sp) (hr:RoomH j X.A) (hg:Gl X x) (ha:QA X (e::es) t) (hk:k≤j:=by decide) (hdb:(x == ("__debug__" : Str))=false:=by decide)
    (he:(e::es).all noStar=true:=by rfl):QE X (.Call (.Name x p) (e::es) [] pos) (tCall sp [] E0 t):=by
  obtain ⟨f,fd,hm,kp,b,F⟩:=h
  rw [List.all_cons,Bool.and_eq_true] at he
  refine ⟨fun pins s σ H Q I q=>?_⟩
  refine wpAny_Call_Name_kw (ld_glob I hg hm ?_ hdb)
  refine PySem.W.callWith_K (h₀:=X.base) I.ok.mod.kin kp (thn (ha.h pos pins s σ H _ I q) fun us s1 ⟨vs,H1,I1,r,q1⟩=>⟨I1.kIn,?_⟩) (star_cons he.1) (star_any he.2)
  have q1':sp vs H1 Q E0:=by simpa only [List.append_nil] using q1
  have hl:us.length=ps.length:=by rw [← r.length]; exact F.len _ _ _ _ q1'
  have hl2:(us++[]).length=ps.length:=by rw [List.append_nil]; exact hl
  have hb:=b s1 us I1.kIn hl2
  rw [List.append_nil] at hb
  refine wpAny_call (codeAny_mono (F.run X.A X.stack s1 H1 ⟨us,[]⟩ us vs Q E0 (hr.mono hk) I1.env0 hb r q1') fun r s' hq=>?_)
  cases r with
  | error e=>exact False.elim hq
  | ok fl=>
    cases fl with
    | ret u=>exact I1.after hq
    | next=>exact False.elim hq
    | brk=>exact False.elim hq
    | cont=>exact False.elim hq
end
end L2
namespace L2
open PySem PySem.Spec PyProof.Rows
noncomputable abbrev TJ:=St→Hp→Str→VK→Prop
structure QJ (X:Cx) (es:List Expr) (t:TJ):Prop where
  h:∀ (pins:List (Addr×Obj)) (s:Shared) (σ:St) (H:Hp) (acc:Str) (Q:VK),Inv X pins σ H s→t σ H acc Q→wpAny (model X.prog X.w) X.A (joinParts acc (evalEach es X.env)) (EP X pins σ Q) X.xe s
section
variable {X:Cx} {e e1 e2:Expr} {es:List Expr} {te:TE} {t:TJ} {pos:Pos}
noncomputable def tJn (te:TE) (t:TJ):TJ:=fun σ H acc Q=>te σ H fun v H1=>∃ y,v=.str y∧(acc++y).length≤sizeLine∧t σ H1 (acc++y) Q
theorem qj_nil:QJ X [] (fun _ H acc Q=>acc.length≤sizeLine∧Q (.str acc) H):=⟨fun pins s σ H acc Q I q=>wpAny_mkStr ⟨.str acc,H,I.tok _,⟨_,rfl⟩,q.2⟩ q.1⟩
theorem qj_cons (he:QE X e te) (ht:QJ X es t):QJ X (e::es) (tJn te t):=by
  refine ⟨fun pins s σ H acc Q I q=>?_⟩
  show wpAny _ _ (joinParts acc (eval e X.env::evalEach es X.env)) _ _ s
  refine joinParts_cons (thn (he.h pins s σ H _ I q) fun u s1 ⟨v,H1,I1,r,y,hv,hl,q1⟩=>?_)
  subst hv
  obtain ⟨tk,rfl⟩:=(show ∃ tk,u=Value.str y tk from r)
  exact ⟨hl,ht.h pins s1 σ H1 _ Q I1 q1⟩
theorem qe_fstr (h:QJ X (e1::e2::es) t):QE X (.JoinedStr (e1::e2::es) pos) (fun σ H Q=>t σ H Str.empty Q):=⟨fun pins s σ H Q I q=>h.h pins s σ H _ Q I q⟩
end
end L2
namespace L2
open PySem PySem.Spec PyProof.Rows
open PySem.W (Looks findIn mroIn looks_findIn looks_mroIn clsIn)
structure ExK (K:PySem.W.Frag) (C:Addr):Prop where
  ga:findIn K (.ref C) "__getattribute__" = some (some (.builtin "BaseException.__getattribute__"))
  gt:findIn K (.ref C) "__getattr__" = some none
  cl:findIn K (.ref C) "__class__" = some (some (.builtin "object.__class__"))
  mo:mroIn K C (.type "object")=some true
  mb:mroIn K C (.type "BaseException")=some true
section
variable {prog:Program} {w:World} {A:Around} {E:Value→Shared→Prop} {h:Heap} {g:Array GenState} {d:Drawn} {t:Nat} {os:OsState} {a C:Addr} {o:Obj} {K:PySem.W.Frag}
theorem excClass_get {R:Result→Shared→Prop} (Z:ExK K C) (KI:K.In h) (hx:h.get? a=some o) (hc:o.cls=.ref C) (hq:R (.ok (.ret (.ref C))) ⟨h,g,d,t,os⟩) :
    codeAny (model prog w) A (.call (.builtin "getset_descriptor.__get__") ⟨[.builtin "object.__class__",.ref a,.ref C],[]⟩) R ⟨h,g,d,t,os⟩:=by
  have hT5:(⟨h,g,d,t,os⟩:Shared).TypeIs (.builtin "object.__class__") "getset_descriptor" := F.typeOf_object_class
  have L:Looks (model prog w) h (isSubtype (.ref C) (.type (".".intercalate ("object.__class__".cutAt '.').dropLast))) true:=by rw [F.owner_object_class]; exact looks_mroIn KI Z.mo
  refine codeAny_call_builtin F.slot_gs_get.plain F.entry_gs_get (F.slot_gs_get.check _ _ _ _ _ _ _ _ hT5 (F.args_gs_get _ _ _) ?_)
  repeat (any_goals (first | assumption | (with_reducible refine wpAny_loadPart_at hx ?_; rw [hc]) | with_reducible refine L.at ?_ | wp_step))
  refine ⟨Code.quiet_builtin _ (by decide +kernel),codeAny_builtin F.entry_object_class ?_⟩
  repeat (any_goals (first | assumption | (with_reducible refine wpAny_loadPart_at hx ?_; rw [hc]) | wp_step))
theorem excClass_check {M:Model} {nameV:Value} {Q:Unit→Shared→Prop} (Z:ExK K C) (KI:K.In h) (hx:h.get? a=some o) (hc:o.cls=.ref C) (hq:Q () ⟨h,g,d,t,os⟩) :
    wpAny M A (checkBuiltinCall "BaseException.__getattribute__" ⟨[.ref a,nameV],[]⟩) Q E ⟨h,g,d,t,os⟩:=by
  have hk:builtinKind "BaseException.__getattribute__" = some .slot:=by decide +kernel
  have hsplit:splitId "BaseException.__getattribute__" = some ("BaseException", "__getattribute__"):=by decide +kernel
  have L:Looks M h (isSubtype (.ref C) (.type "BaseException")) true:=looks_mroIn KI Z.mb
  have ha:=F.args_bexc_ga (.ref a) nameV
  simp only [checkBuiltinCall,hk,hsplit]
  refine wpAny_bind ?_
  · unfold isInstance
    repeat (first | (with_reducible refine wpAny_loadPart_at hx ?_; rw [hc]) | with_reducible refine L.at ?_ | wp_step)
    exact hq
theorem excClass_entry {tk:Tok} {Q:Fin→Shared→Prop} (Z:ExK K C) (KI:K.In h) (hx:h.get? a=some o) (hc:o.cls=.ref C) (hq:Q (.done (.ret (.ref C))) ⟨h,g,d,t,os⟩) :
    wpAny (model prog w) A (Builtin.«object.__getattribute__» ⟨[.ref a,.str "__class__" tk],[]⟩) Q E ⟨h,g,d,t,os⟩:=by
  have hT5:(⟨h,g,d,t,os⟩:Shared).TypeIs (.builtin "object.__class__") "getset_descriptor" := F.typeOf_object_class
  have L:=looks_findIn (M:=model prog w) KI Z.cl
  have f5:=F.typeOf_object_class
  have f6:=F.slot_gs_get.lookup
  have f7:=F.slot_gs_set.lookup
  repeat (any_goals (first | assumption | (with_reducible refine wpAny_loadPart_at hx ?_; rw [hc]) | with_reducible refine L.at ?_ | wp_step))
  refine excClass_get Z KI hx hc ?_
  repeat (any_goals (first | assumption | wp_step))
theorem excClass_by {tk:Tok} {Q:Value→Shared→Prop} (Z:ExK K C) (KI:K.In h) (hx:h.get? a=some o) (hc:o.cls=.ref C) (hq:Q (.ref C) ⟨h,g,d,t,os⟩) :
    wpAny (model prog w) A (getAttrBy (.ref a) (.str "__class__" tk) false) Q E ⟨h,g,d,t,os⟩:=by
  have FB:=F.excAttr_ValueError
  have f3:=FB.ga.bind (.ref a)
  have hx2:(Value.builtin "BaseException.__getattribute__" == Value.builtin "object.__getattribute__")=false:=by decide +kernel
  have hx1:(onTheHeap (Value.ref C)&&Value.builtin "BaseException.__getattribute__" == Value.builtin "object.__getattribute__")=false:=by rw [hx2]; rfl
  have L1:=looks_findIn (M:=model prog w) KI Z.ga
  have L2:=looks_findIn (M:=model prog w) KI Z.gt
  repeat (any_goals (first | assumption | (with_reducible refine wpAny_loadPart_at hx ?_; rw [hc]) | with_reducible refine L1.at ?_ | with_reducible refine L2.at ?_ | wp_step))
  refine codeAny_call_builtin FB.ga.plain F.entry_bexc_ga (excClass_check Z KI hx hc (excClass_entry Z KI hx hc ?_))
  repeat (any_goals (first | assumption | wp_step))
theorem excClass_attr {Q:Option Value→Shared→Prop} (Z:ExK K C) (KI:K.In h) (hx:h.get? a=some o) (hc:o.cls=.ref C) (hq:Q (some (.ref C)) ⟨h,g,d,t+1,os⟩) :
    wpAny (model prog w) A (getAttr? (.ref a) "__class__") Q E ⟨h,g,d,t,os⟩:=by
  unfold getAttr? getAttrBy?
  repeat (any_goals (first | assumption | with_reducible apply excClass_by Z KI hx hc | wp_step))
theorem kitx_exc (Z:ExK K C):PySem.W.KitX K (.ref a) (.ref C) (ExcO a C) where
  ty:=fun M h _ ⟨o,vs,e,c,_⟩=>c ▸ (Looks.ld e).andThen .now
  it:=fun M h X _=>by
    have q:=Z.mo
    unfold mroIn at q
    cases hcD:clsIn K C with
    | none=>rw [hcD] at q; cases q
    | some cd=>
      unfold clsIn at hcD
      split at hcD
      · rename_i c' d' cd' sl' ho
        intro A' Q' E' s' k q
        unfold isType loadHead
        exact wpAny_bind (wpAny_loadPart (k _ _ (X _ _ ho)) (wpAny_pure q))
      · cases hcD
  ne:=fun h tp dd its n sl X htp=>by
    have q:=Z.mo
    unfold mroIn at q
    refine Bool.eq_false_iff.mpr fun z=>?_
    have e:C=tp:=Value.ref.inj (beq_iff_eq.mp z)
    subst e
    cases hcD:clsIn K C with
    | none=>rw [hcD] at q; cases q
    | some cd=>
      unfold clsIn at hcD
      split at hcD
      · rename_i c' d' cd' sl' ho
        have z:=(X _ _ ho).symm.trans htp
        cases z
      · cases hcD
  ca:=fun {prog w A E Q s} X ⟨o,vs,e,c,_⟩ k=>by obtain ⟨h,g,d,t,os⟩:=s; exact excClass_attr Z X e c k
end
theorem ExC.glb {K:PySem.W.Frag} {mg:Str→Option Value} {x:Str} {C:Addr} (c:ExC K mg x C):Glb mg x (.ref C):=⟨.ref C,c.at_,rfl⟩
theorem boot_ty_ValueError:bootBuiltins "ValueError" = some (.type "ValueError"):=by decide +kernel
noncomputable def clsV:V→Option Value
  | .ref D=>some (.ref D)
  | .ty T=>some (.type T)
  | _=>none
theorem clsV_rel {c:V} {cv u:Value} (h:clsV c=some cv) (r:RelV c u):u=cv:=by
  cases c<;>first | (cases h; exact r) | cases h
theorem call_isX {X:Cx}:CallR X (.builtin "isinstance") (fun xs H Q=>∃ a C c cv b,xs=[.ref a,c]∧H a=some (.ext (ExcO a C))∧ExK X.K C∧clsV c=some cv∧PySem.W.kitOne X.K (.ref C) cv=some b∧Q (.bl b) H):=by
  intro pins s σ H xs us Q I r h
  obtain ⟨a,C,c,cv,b,rfl,ea,Z,hc,e,q⟩:=h
  obtain ⟨u,c',rfl,rx,rc⟩:=vals2 r
  cases (show u=Value.ref a from rx)
  obtain rfl:=clsV_rel hc rc
  obtain ⟨ho,_⟩:=(show ObjOk X.prog X.w H s.heap a (.ext (ExcO a C)) from I.hok a _ ea)
  exact PySem.W.kia_one (kitx_exc Z) I.kIn ho e (fun z=>nomatch z) fun tk=>⟨.bl b,H,I.tok tk,rfl,q⟩
end L2
namespace L2
open PySem PySem.Spec PyProof.Rows
section
variable {X:Cx}
theorem vals_bool {bs:List Bool} {its:List Value} (r:Vals (bs.map V.bl) its) {i:Nat} {v:Value} (h:its.toArray[i]?=some v):v=.bool (bs.getD i false):=by
  have hi:i<its.length:=by
    rw [List.getElem?_toArray] at h
    exact (List.getElem?_eq_some_iff.mp h).1
  have hl:bs.length=its.length:=by have:=r.length; rw [List.length_map] at this; exact this
  have hx:(bs.map V.bl)[i]?=some (.bl (bs.getD i false)):=by
    rw [List.getElem?_map,List.getD_eq_getElem?_getD,List.getElem?_eq_getElem (by omega)]
    rfl
  obtain ⟨u,hu,ru⟩:=r.get hx
  rw [List.getElem?_toArray,hu] at h
  cases h
  exact ru
theorem range_all {bs:List Bool}:(List.range bs.length).all (fun i=>bs.getD i false)=bs.all id:=by
  rw [Bool.eq_iff_iff,List.all_eq_true,List.all_eq_true]
  constructor
  · intro h b hb
    obtain ⟨i,hi,rfl⟩:=List.mem_iff_getElem.mp hb
    have:=h i (List.mem_range.mpr hi)
    rwa [List.getD_eq_getElem?_getD,List.getElem?_eq_getElem hi] at this
  · intro h i hi
    have hi':=List.mem_range.mp hi
    rw [List.getD_eq_getElem?_getD,List.getElem?_eq_getElem hi']
    exact h _ (List.getElem_mem hi')
noncomputable def rAll (K:PySem.W.Frag):List V→Hp→VK→Prop:=fun xs H Q=>∃ (p:Addr) (bs:List Bool),xs=[.ref p]∧SqL K H p (bs.map V.bl)∧Q (.bl (bs.all id)) H
theorem call_all (hc:X.calm=true):CallR X (.builtin "all") (rAll X.K):=by
  intro pins s σ H xs us Q I r h
  obtain ⟨p,bs,rfl,hq,q⟩:=h
  obtain ⟨u,rfl,rx⟩:=vals1 r
  cases rx
  have hd:=I.ok.hd hc
  refine call_all_walk ?_
  obtain ⟨its,rv,pl,hz⟩:=I.list hq
  have hl:bs.length=its.toArray.size:=by have:=rv.length; rw [List.length_map] at this; rw [List.size_toArray]; exact this
  have hlt:p<s.heap.objs.size:=by obtain ⟨o,n,e,_⟩:=pl; exact Heap.lt_size e
  refine wpAny_pyIter_list pl.isList ?_
  refine ⟨_,_,_,_,_,_,fun i=>bs.getD i false,rfl,Walks.list (by exact hd) s.heap.objs.size p (Nat.ne_of_lt hlt) its.toArray,⟨⟨_,Heap.get?_push_size _ rfl,rfl,rfl⟩,pl.isList.push _⟩,?_,?_⟩
  · intro i v Q' E' s' hv h'
    rw [vals_bool rv hv]
    exact wpAny_pure h'
  · intro h' tk k
    rw [← hl,range_all]
    exact ⟨.bl (bs.all id),H,I.kept (t':=tk) fun b o eb=>k b o (fun z=>by
      have:b=s.heap.objs.size:=by simpa using z
      rw [this] at eb
      exact absurd (Heap.lt_size eb) (Nat.lt_irrefl _)) (Heap.get?_push_of_some _ eb),rfl,q⟩
end
end L2
namespace L2
open PySem PySem.Spec PyProof.Rows
open Builtin.SmallTypes (nextOf)
section
variable {prog:Program} {w:World} {A:Around} {E:Value→Shared→Prop} {s:Shared}
variable {z TI TO i1 i2 l1 l2:Addr} {st1 st2:Nat→Heap→Prop} {n1 n2:Nat} {v1 v2:Nat→Value} {a b:Value} {k:Nat}
end
end L2
namespace L2
open PySem PySem.Spec PyProof.Rows
section
variable {prog:Program} {w:World} {A:Around} {E:Value→Shared→Prop} {s:Shared}
end
section
variable {X:Cx} {pins:List (Addr×Obj)} {σ:St} {H:Hp} {s:Shared}
end
section
variable {X:Cx}
end
end L2
namespace L2
open PySem PySem.Spec PyProof.Rows
noncomputable def blkB (scope:Scope) (env:Env) (cl:List (Str×Addr)) (own:List Str):Bool:=
  scope.kind == .function&&scope.names.all (fun y=>y.2 != .cell)&&blkOk scope env cl own&&scope.names.all (fun y=>y.2 != .local||scope.names.lookup y.1 == some .local)
theorem blk_mk {X:Cx} {scope:Scope} {cl:List (Str×Addr)} {own:List Str} (clos:closureFor scope X.env=pure cl) (cap:CapAll X.env cl:=by first | exact True.intro | exact ⟨rfl,True.intro⟩ | exact ⟨rfl,rfl,True.intro⟩ | exact ⟨rfl,rfl,rfl,True.intro⟩ | exact ⟨rfl,rfl,rfl,rfl,True.intro⟩)
    (ok:blkB scope X.env cl own=true:=by rfl):Blk X scope cl own:=by
  unfold blkB at ok
  simp only [Bool.and_eq_true] at ok
  obtain ⟨⟨⟨h1,h2⟩,h3⟩,h4⟩:=ok
  refine ⟨beq_iff_eq.mp h1,fun y hy e=>?_,cap,h3,clos,fun y hy e=>?_⟩
  · have:=List.all_eq_true.mp h2 y hy
    rw [e] at this
    cases this
  · have:=List.all_eq_true.mp h4 y hy
    rw [e] at this
    simpa using this
section
variable {X:Cx} (K:PySem.W.Frag) (hK:X.K=K)
include hK
end
end L2
namespace L2
open PySem PySem.Spec PyProof.Rows
open Builtin Builtin.Str
section
variable {X:Cx}
theorem vals_str:∀ {ts:List Str} {its:List Value},Vals (ts.map V.str) its→∃ l:List (Str×Tok),its=strValues l∧l.map (·.1)=ts
  | [],_,.nil=>⟨[],rfl,rfl⟩
  | t::ts,_,.cons r rr=>by
    obtain ⟨k,e⟩:=(show ∃ k,_=Value.str t k from r)
    obtain ⟨l,e1,e2⟩:=vals_str rr
    subst e e1
    exact ⟨(t,k)::l,rfl,by rw [List.map_cons,e2]⟩
noncomputable def rJoin (K:PySem.W.Frag):V→List V→Hp→VK→Prop:=fun x vs H Q=>∃ (sep:Str) (p:Addr) (ts:List Str),x=.str sep∧vs=[.ref p]∧SqL K H p (ts.map V.str)∧(ts.map (·.length)).sum+ts.length*sep.length≤sizeLine∧Q (.str (glued sep ts)) H
theorem glued_len (sep:Str):∀ ts:List Str,(glued sep ts).length≤(ts.map (·.length)).sum+ts.length*sep.length
  | []=>by show (Str.length _)≤_; simp [glued,Str.length,Str.empty]
  | t::ts=>by
    have h:∀ (us:List Str) (a:Array Nat),(us.foldl (fun acc p=>acc++sep.cps++p.cps) a).size=a.size+(us.map (·.length)).sum+us.length*sep.length:=fun us=>by
      induction us with
      | nil=>intro a; simp
      | cons u us ih=>
        intro a
        rw [List.foldl_cons,ih]
        simp only [Array.size_append,List.map_cons,List.sum_cons,List.length_cons,Nat.succ_mul,Str.length]
        omega
    show (ts.foldl (fun acc p=>acc++sep.cps++p.cps) t.cps).size≤_
    rw [h]
    simp only [List.map_cons,List.sum_cons,List.length_cons,Nat.succ_mul,Str.length]
    omega
theorem mt_join:MtR X "str.join" (rJoin X.K):=by
  intro pins s σ H x vs v us Q I rx rv h
  obtain ⟨sep,p,ts,rfl,rfl,hq,hz,q⟩:=h
  obtain ⟨t,rfl⟩:=(show ∃ t,v=Value.str sep t from rx)
  obtain ⟨u,rfl,ru⟩:=vals1 rv
  cases (show u=Value.ref p from ru)
  obtain ⟨its,r,pl,_⟩:=I.list hq
  obtain ⟨l,rfl,el⟩:=vals_str r
  have hT:s.TypeIs (.ref p) "list" := pl.isList.typeIs
  obtain ⟨o,ho,hc,n,hd⟩:=pl.isList
  have hno:tooLong ((l.map (·.1)).toArray.foldl (·+·.length+sep.length) 0)=false:=by
    rw [el,StrLaws.joinTotal]
    unfold tooLong
    exact decide_eq_false (by omega)
  have fit:(glued sep ts).length≤sizeLine:=Nat.le_trans (glued_len sep ts) hz
  refine wpAny_call (codeAny_call_builtin F.slot_str_join.plain F.entry_str_join (F.slot_str_join.check _ _ _ _ _ _ _ _ (typeIs_str _ _ _) (F.args_str_join_2 _ _) ?_))
  obtain ⟨other,e⟩:=join_tree sep t p
  rw [e]
  refine wpAny_bind (wpAny_typeOf hT ?_)
  rw [if_pos (by decide)]
  refine wpAny_bind (wpAny_seqItems ho hd ?_)
  show wpAny _ _ (joinTail sep (strValues l)) _ _ _
  rcases l with _ | ⟨a,_ | ⟨b,c⟩⟩
  · subst el
    exact gives_joinTail sep [] hno X.prog X.w _ (fun r s'=>match r with | .ok (.ret v)=>EP X pins σ Q v s' | .ok _=>False | .error e=>X.xe e s') s ⟨fit,.str _,H,I.tok _,⟨_,rfl⟩,q⟩
  · subst el
    exact gives_joinTail sep [a] hno X.prog X.w _ (fun r s'=>match r with | .ok (.ret v)=>EP X pins σ Q v s' | .ok _=>False | .error e=>X.xe e s') s ⟨.str _,H,I,⟨_,rfl⟩,q⟩
  · subst el
    exact gives_joinTail sep (a::b::c) hno X.prog X.w _ (fun r s'=>match r with | .ok (.ret v)=>EP X pins σ Q v s' | .ok _=>False | .error e=>X.xe e s') s ⟨fit,.str _,H,I.tok _,⟨_,rfl⟩,q⟩
end
noncomputable def Its (z:Str):It:=⟨fun i _=>i<z.length,fun i H x H'=>H'=H∧∃ c,z.cps[i]?=some c∧x=.str ⟨#[c]⟩,fun i _=>z.length≤i⟩
section
variable {X:Cx} {tg:Expr}
noncomputable def iStr (te:TE):TI:=fun σ H R=>te σ H fun x H1=>∃ z,x=.str z∧R (Its z) H1
theorem turn_str {P:Program} {w:World} {K:PySem.W.Frag} {it:Addr} {z:Str} {t:Tok} {ty:String} (hty:ty = "str_ascii_iterator" ∨ ty = "str_iterator"):Turn P w K tg (Its z) [it] it (fun i h=>h.IsStrIter it ty z t i∧i≤z.length) where
  mem:=by simp
  obj:=fun i h st b hb=>by
    have e:b=it:=by simpa using hb
    subst e
    obtain ⟨⟨o,e,c,d⟩,_⟩:=st
    exact ⟨o,e,fun v z=>by rw [d] at z; cases z⟩
  keep:=fun i h h' st k=>⟨let ⟨o,ho,r⟩:=st.1; ⟨o,k it (by simp) o ho,r⟩,st.2⟩
  item:=by
    intro X hP hw hK hc i pins s σ H E I hf st hg
    subst hP hw hK
    obtain ⟨f0,f1,f2,f3,f4,f5⟩:=hf it (by simp)
    have hg':i<z.cps.size:=hg
    have hx:z.cps[i]?=some z.cps[i]:=by simp [hg']
    have go:∀ h' tk (u:Value),(∃ t',u=Value.str ⟨#[z.cps[i]]⟩ t')→h'.IsStrIter it ty z t (i+1)→Heap.SameBut it s.heap h'→∃ v,some u=some v∧
        wpAny (model X.prog X.w) X.A (letOwnedTupleGo tg (.ref it) v) (fun _ s2=>∃ x H',Inv X pins σ H' s2∧RelV x v∧(Its z).yld i H x H'∧(s2.heap.IsStrIter it ty z t (i+1)∧i+1≤z.length)∧∀ b∈[it],H' b=none) E { s with heap:=h',toks:=tk }:=fun h' tk u hu st' sb=>by
      obtain ⟨t',rfl⟩:=hu
      have I1:Inv X pins σ H { s with heap:=h',toks:=tk }:=I.turned (fun b o hb e=>(sb.2 b hb).trans e) f0 f1 f3 f4 f5
      obtain ⟨o,e,c,d⟩:=id st'
      exact ⟨_,rfl,go_of (s:={ s with heap:=h',toks:=tk }) e c d (by rcases hty with rfl | rfl<;>decide) ⟨.str ⟨#[z.cps[i]]⟩,H,I1,⟨t',rfl⟩,⟨rfl,_,hx,rfl⟩,⟨st',hg⟩,fun b hb=>(hf b hb).1⟩⟩
    rcases hty with rfl | rfl
    · exact wpAny_pyNext_ascii_item st.1 hx fun h' st' sb=>go h' _ _ ⟨_,rfl⟩ st' sb
    · exact wpAny_pyNext_wide_item st.1 hx fun h' st' sb=>go h' _ _ ⟨_,rfl⟩ st' sb
  done:=by
    intro X hP hw hK hc i pins s σ H E I hf st hg
    subst hP hw hK
    obtain ⟨f0,f1,f2,f3,f4,f5⟩:=hf it (by simp)
    have hx:z.cps[i]?=none:=Array.getElem?_eq_none hg
    rcases hty with rfl | rfl
    · exact wpAny_pyNext_ascii_end (I.ok.hd hc) st.1 hx fun h' eb=>⟨rfl,I.turned (t':=s.toks) (fun b o hb e=>eb b o hb e) f0 f1 f3 f4 f5⟩
    · exact wpAny_pyNext_wide_end (I.ok.hd hc) st.1 hx fun h' eb=>⟨rfl,I.turned (t':=s.toks) (fun b o hb e=>eb b o hb e) f0 f1 f3 f4 f5⟩
  self:=fun _ _ _ _ _ st h=>by
    rcases hty with rfl | rfl
    · exact wpAny_pyIter_striter_ascii st.1 h
    · exact wpAny_pyIter_striter_wide st.1 h
theorem pi_str {e:Expr} {te:TE} (he:PE X e te):PI X tg e (iStr te):=by
  intro pins s σ H R I h
  refine thn (he pins s σ H _ I h) fun v s1 ⟨x,H1,I1,r1,q1⟩=>?_
  obtain ⟨z,rfl,q⟩:=q1
  obtain ⟨t,rfl⟩:=(show ∃ t,v=Value.str z t from r1)
  have fin:∀ (ty:String),(ty = "str_ascii_iterator" ∨ ty = "str_iterator")→∀ o:Obj,(s1.heap.push o).IsStrIter s1.heap.objs.size ty z t 0→PIE X pins σ tg R (.ref s1.heap.objs.size) { s1 with heap:=s1.heap.push o }:=fun ty hty o st=>
    ⟨s1.heap.objs.size,[s1.heap.objs.size],_,_,H1,rfl,I1.kept (t':=s1.toks) fun b o e=>Heap.get?_push_of_some _ e,turn_str hty,⟨st,Nat.zero_le _⟩,fun b hb=>by
      have e:b=s1.heap.objs.size:=by simpa using hb
      subst e
      exact I1.fpOk (Nat.le_refl _) (I1.hok.fresh (Nat.le_refl _)),q⟩
  cases ha:z.cps.all (·<128)
  · exact wpAny_pyIter_wide ha (fin _ (.inr rfl) _ ⟨_,Heap.get?_push_size _ rfl,rfl,rfl⟩)
  · exact wpAny_pyIter_ascii ha (fin _ (.inl rfl) _ ⟨_,Heap.get?_push_size _ rfl,rfl,rfl⟩)
end
end L2
namespace L2
open PySem PySem.Spec PyProof.Rows
open Builtin Builtin.Str
noncomputable def cutS (z:Str) (lo hi:Option Int):Str:=⟨((z.cps.toList.drop (HT.sIx z.length 0 lo)).take (HT.sIx z.length z.length hi - HT.sIx z.length 0 lo)).toArray⟩
theorem clip_lo (n:Nat) (lo:Option Int):(match lo with | none=>(0:Int) | some i=>max 0 (min (if i<0 then i+(n:Int) else i) (n:Int)))=((HT.sIx n 0 lo:Nat):Int)∨∃ i,lo=some i∧i<0∧(n:Int)<i+n:=by
  cases lo with
  | none=>left; rfl
  | some i=>
    left
    show max 0 (min (if i<0 then i+(n:Int) else i) (n:Int))=(((if i<0 then (i+(n:Int)).toNat else min i.toNat n):Nat):Int)
    by_cases h:i<0
    · simp only [h,if_true]; omega
    · simp only [h,if_false]; omega
theorem clip_hi (n:Nat) (hi:Option Int):(match hi with | none=>(n:Int) | some i=>max 0 (min (if i<0 then i+(n:Int) else i) (n:Int)))=((HT.sIx n n hi:Nat):Int):=by
  cases hi with
  | none=>rfl
  | some i=>
    show max 0 (min (if i<0 then i+(n:Int) else i) (n:Int))=(((if i<0 then (i+(n:Int)).toNat else min i.toNat n):Nat):Int)
    by_cases h:i<0
    · simp only [h,if_true]; omega
    · simp only [h,if_false]; omega
theorem clip_lo' (n:Nat) (lo:Option Int):(match lo with | none=>(0:Int) | some i=>max 0 (min (if i<0 then i+(n:Int) else i) (n:Int)))=((HT.sIx n 0 lo:Nat):Int):=by
  rcases clip_lo n lo with h | ⟨i,_,h1,h2⟩
  · exact h
  · omega
theorem picks_eq (z:Str) (lo hi:Option Int):(strSliceIndices lo hi 1 z.length)=(List.range (HT.sIx z.length z.length hi - HT.sIx z.length 0 lo)).map (HT.sIx z.length 0 lo+·):=by
  have h1:=clip_lo' z.length lo
  have h2:=clip_hi z.length hi
  rw [← sliceRange_one,← h1,← h2]
  unfold strSliceIndices
  simp only [show (1:Int) > 0 by decide,if_true]
  cases lo<;>cases hi<;>rfl
theorem cut_eq (z:Str) (lo hi:Option Int):(⟨((strSliceIndices lo hi 1 z.length).filterMap (z.cps[·]?)).toArray⟩:Str)=cutS z lo hi:=by
  rw [picks_eq,pick_run]
  rfl
theorem sIx_le (n d:Nat) (hd:d≤n) (v:Option Int):HT.sIx n d v≤n:=by
  cases v with
  | none=>exact hd
  | some i=>
    show (if i<0 then (i+(n:Int)).toNat else min i.toNat n)≤n
    by_cases h:i<0
    · simp only [h,if_true]; omega
    · simp only [h,if_false]; omega
theorem cut_whole (z:Str) (lo hi:Option Int) (h:(strSliceIndices lo hi 1 z.length).length=z.length):cutS z lo hi=z:=by
  rw [picks_eq,List.length_map,List.length_range] at h
  have a:=sIx_le z.length 0 (Nat.zero_le _) lo
  have b:=sIx_le z.length z.length (Nat.le_refl _) hi
  unfold cutS
  rw [h]
  have hz:HT.sIx z.length 0 lo=0∨z.length=0:=by omega
  have hl:z.cps.toList.length=z.length:=by simp [Str.length]
  rcases hz with q | q
  · rw [q,List.drop_zero,← hl,List.take_length]
  · have e:z.cps.toList=[]:=List.eq_nil_of_length_eq_zero (by omega)
    rw [e]
    simp
    cases z with
    | mk c=>simp [Str.length] at q; simp [q]
theorem cut_len (z:Str) (lo hi:Option Int):(cutS z lo hi).length≤z.length:=by
  show (List.toArray _).size≤z.cps.size
  rw [List.size_toArray,List.length_take,List.length_drop,Array.length_toList]
  omega
section
variable {X:Cx}
theorem part_of {v:Value} {lo:Option Int} (h:IsPart v lo):∃ l:Option (Int×Tok),v=partValue l∧l.map (·.1)=lo:=by
  cases h with
  | none=>exact ⟨none,rfl,rfl⟩
  | int i t=>exact ⟨some (i,t),rfl,rfl⟩
noncomputable def rSlS:V→Option Int→Option Int→Hp→VK→Prop:=fun x lo hi H Q=>∃ z:Str,x=.str z∧z.length≤sizeLine∧Q (.str (cutS z lo hi)) H
theorem sl_str:SlR X rSlS:=by
  intro pins s σ H x v vl vu lo hi sl Q I rx hs pl pu h
  obtain ⟨z,rfl,hz,q⟩:=h
  obtain ⟨t,rfl⟩:=(show ∃ t,v=Value.str z t from rx)
  obtain ⟨l,rfl,rfl⟩:=part_of pl
  obtain ⟨u,rfl,rfl⟩:=part_of pu
  refine ⟨"str",_,F.slot_str_getitem.lookup,typeIs_str _ _ _,?_⟩
  refine wpAny_getItem_str_slice (l:=l) (u:=u) (st:=none) hs rfl ?_
  unfold sliceMade
  have hp:slicePicked z l u none=strSliceIndices (l.map (·.1)) (u.map (·.1)) 1 z.length:=rfl
  rw [hp]
  split
  · rename_i hc
    have e:(strSliceIndices (l.map (·.1)) (u.map (·.1)) 1 z.length).length=z.length:=by
      rw [Bool.and_eq_true] at hc
      exact beq_iff_eq.mp hc.2
    rw [cut_whole z _ _ e] at q
    exact ⟨.str z,H,I,⟨_,rfl⟩,q⟩
  · rw [cut_eq]
    exact ⟨Nat.le_trans (cut_len z _ _) hz,.str _,H,I.tok _,⟨_,rfl⟩,q⟩
end
end L2
namespace L2
open PySem PySem.Spec PyProof.Rows
open Builtin Builtin.Str
section
variable {X:Cx} {e o:Expr} {te to:TE} {pos apos cpos:Pos} {name:Str} {T id:String} {rm:V→List V→Hp→VK→Prop}
noncomputable def Asc (z:Str):Prop:=∀ c∈z.cps.toList,c<128
theorem Asc.repr {a:Str} (ha:Asc a):(reprText a).length≤10*a.length+2:=StrLaws.reprText_len a fun c hc=>Nat.lt_trans (ha c hc) (by decide)
noncomputable def tFmtR (te:TE):TE:=fun σ H Q=>te σ H fun v H1=>∃ y:Str,v=.str y∧(reprText y).length≤sizeLine∧Q (.str (reprText y)) H1
theorem qe_fmtR (he:QE X e te):QE X (.FormattedValue e 114 none pos) (tFmtR te):=by
  refine ⟨fun pins s σ H Q I q=>?_⟩
  refine wpAny_FormattedValue_repr (thn (he.h pins s σ H _ I q) fun u s1 ⟨v,H1,I1,r,y,hv,hl,q1⟩=>?_)
  subst hv
  obtain ⟨tk,rfl⟩:=(show ∃ tk,u=Value.str y tk from r)
  refine wpAny_pyReprObj_str (formatField_str (fun t' tk'=>⟨.str (reprText y),H1,I1.tok _,⟨_,rfl⟩,q1⟩) hl) hl
end
end L2
namespace L2
open PySem PySem.Spec PyProof.Rows
section
variable {κ:Type} [DecidableEq κ]
noncomputable def valV (kvs:List (κ×V)) (k:κ):Option V:=(kvs.find? fun kv=>decide (kv.1=k)).map (·.2)
noncomputable def putK (kvs:List (κ×V)) (k:κ) (v:V):List (κ×V):=
  if (kvs.any fun kv=>decide (kv.1=k))=true then kvs.map (fun kv=>if kv.1=k then (kv.1,v) else kv) else kvs++[(k,v)]
theorem valV_pos {p:κ×V} {r:List (κ×V)} {k:κ} (e:p.1=k):valV (p::r) k=some p.2:=by simp [valV,List.find?_cons,e]
theorem valV_neg {p:κ×V} {r:List (κ×V)} {k:κ} (e:¬ p.1=k):valV (p::r) k=valV r k:=by simp [valV,List.find?_cons,e]
theorem valV_any (k:κ):∀ kvs:List (κ×V),(kvs.any fun kv=>decide (kv.1=k))=(valV kvs k).isSome
  | []=>rfl
  | p::r=>by
    rw [List.any_cons]
    by_cases e:p.1=k
    · simp only [valV_pos e,decide_eq_true e,Bool.true_or,Option.isSome_some]
    · rw [valV_neg e,decide_eq_false e,Bool.false_or]; exact valV_any k r
theorem valV_snoc (k j:κ) (y:V):∀ kvs:List (κ×V),valV kvs k=none→valV (kvs++[(k,y)]) j=if j=k then some y else valV kvs j
  | [],_=>by
    by_cases e:k=j
    · rw [if_pos e.symm]; exact valV_pos (p:=(k,y)) e
    · rw [if_neg (fun z=>e z.symm)]; exact valV_neg (p:=(k,y)) e
  | p::r,hn=>by
    rw [List.cons_append]
    have hk:¬ p.1=k:=fun z=>by rw [valV_pos z] at hn; cases hn
    rw [valV_neg hk] at hn
    have ih:=valV_snoc k j y r hn
    by_cases e:p.1=j
    · rw [valV_pos e,valV_pos e,if_neg (fun z=>hk (e.trans z))]
    · rw [valV_neg e,valV_neg e,ih]
theorem length_putK (kvs:List (κ×V)) (k:κ) (v:V):(putK kvs k v).length≤kvs.length+1:=by
  unfold putK
  split
  · rw [List.length_map]; omega
  · rw [List.length_append,List.length_cons,List.length_nil]; omega
theorem putK_new {kvs:List (κ×V)} {k:κ} (v:V) (h:valV kvs k=none):putK kvs k v=kvs++[(k,v)]:=by
  unfold putK
  rw [valV_any,h]
  exact if_neg (by decide)
theorem RelO.isSome_eq {o:Option V} {u:Option Value} (r:RelO o u):o.isSome=u.isSome:=by
  cases o with
  | none=>cases u with
    | none=>rfl
    | some _=>exact (show False from r).elim
  | some _=>cases u with
    | none=>exact (show False from r).elim
    | some _=>rfl
theorem KV.val {kvs:List (κ×V)} {vs:List (κ×Value)} (r:KV kvs vs) (k:κ):RelO (valV kvs k) (valueAt vs k):=by
  unfold KV at r
  induction r with
  | nil=>exact True.intro
  | @cons p q ps qs h t ih=>
    obtain ⟨h1,h2⟩:=h
    by_cases e:p.1=k
    · have e':q.1=k:=h1.symm.trans e
      have b:valueAt (q::qs) k=some q.2:=by simp [valueAt,List.find?_cons,e']
      rw [valV_pos e,b]; exact h2
    · have e':¬ q.1=k:=fun z=>e (h1.trans z)
      have b:valueAt (q::qs) k=valueAt qs k:=by simp [valueAt,List.find?_cons,e']
      rw [valV_neg e,b]; exact ih
theorem KV.any {kvs:List (κ×V)} {vs:List (κ×Value)} (r:KV kvs vs) (k:κ):(kvs.any fun kv=>decide (kv.1=k))=vs.any fun kv=>decide (kv.1=k):=by
  unfold KV at r
  induction r with
  | nil=>rfl
  | cons h t ih=>rw [List.any_cons,List.any_cons,ih,h.1]
theorem KV.repl {kvs:List (κ×V)} {vs:List (κ×Value)} (r:KV kvs vs) (k:κ) {y:V} {u:Value} (ry:RelV y u) :
    KV (kvs.map fun kv=>if kv.1=k then (kv.1,y) else kv) (vs.map fun kv=>if kv.1=k then (kv.1,u) else kv):=by
  unfold KV at r ⊢
  induction r with
  | nil=>exact .nil
  | @cons p q ps qs h t ih=>
    rw [List.map_cons,List.map_cons]
    refine .cons ?_ ih
    obtain ⟨h1,h2⟩:=h
    by_cases e:p.1=k
    · rw [if_pos e,if_pos (h1.symm.trans e)]; exact ⟨h1,ry⟩
    · rw [if_neg e,if_neg (fun z=>e (h1.trans z))]; exact ⟨h1,h2⟩
theorem KV.put {kvs:List (κ×V)} {vs:List (κ×Value)} (r:KV kvs vs) (k:κ) {y:V} {u:Value} (ry:RelV y u):KV (putK kvs k y) (stored vs k u):=by
  unfold putK stored
  rw [r.any k]
  by_cases e:(vs.any fun kv=>decide (kv.1=k))=true
  · rw [if_pos e,if_pos e]; exact r.repl k ry
  · rw [if_neg e,if_neg e]; exact Paired.snoc r ⟨rfl,ry⟩
theorem KV.length {kvs:List (κ×V)} {vs:List (κ×Value)} (r:KV kvs vs):kvs.length=vs.length:=Paired.length r
end
theorem kV_is {P:Program} {w:World} {k:Key} {u:Value} (r:RelV (kV k) u):(mixKind P w).is k u=true:=by
  cases k with
  | inl i=>obtain ⟨t,e⟩:=(show ∃ t,u=Value.int i t from r); subst e; exact mixKind_int P w i t
  | inr x=>obtain ⟨t,e⟩:=(show ∃ t,u=Value.str x t from r); subst e; exact mixKind_str P w x t
theorem items_are {P:Program} {w:World}:∀ {ks:List Key} {us:List Value},Vals (ks.map kV) us→ItemsAre (mixKind P w) ks us
  | [],_,r=>by rw [List.map_nil] at r; cases r; exact .nil
  | k::ks,_,r=>by
    rw [List.map_cons] at r
    cases r with
    | cons h t=>exact .cons (kV_is h) (items_are t)
noncomputable abbrev KT (H:Hp):List (List Key×V)→List (List Key×Addr×Value)→Prop:=Paired fun p q=>p.1=q.1∧H q.2.1=some (.tup (p.1.map kV))∧RelV p.2 q.2.2
theorem KT.val {H:Hp} {kvs:List (List Key×V)} {xs:List (List Key×Addr×Value)} (r:KT H kvs xs) (k:List Key):RelO (valV kvs k) ((atKey xs k).map (·.2)):=by
  induction r with
  | nil=>exact True.intro
  | @cons p q ps qs h t ih=>
    obtain ⟨h1,_,h2⟩:=h
    by_cases e:p.1=k
    · have e':q.1=k:=h1.symm.trans e
      have b:atKey (q::qs) k=some q.2:=by simp [atKey,List.find?_cons,e']
      rw [valV_pos e,b]; exact h2
    · have e':¬ q.1=k:=fun z=>e (h1.trans z)
      have b:atKey (q::qs) k=atKey qs k:=by simp [atKey,List.find?_cons,e']
      rw [valV_neg e,b]; exact ih
theorem KT.repl {H:Hp} {kvs:List (List Key×V)} {xs:List (List Key×Addr×Value)} (r:KT H kvs xs) (k:List Key) {y:V} {u:Value} (ry:RelV y u) :
    KT H (kvs.map fun kv=>if kv.1=k then (kv.1,y) else kv) (xs.map (putAt k u)):=by
  induction r with
  | nil=>exact .nil
  | @cons p q ps qs h t ih=>
    rw [List.map_cons,List.map_cons]
    refine .cons ?_ ih
    obtain ⟨h1,h2,h3⟩:=h
    unfold putAt
    by_cases e:p.1=k
    · rw [if_pos e,if_pos (h1.symm.trans e)]; exact ⟨h1,h2,ry⟩
    · rw [if_neg e,if_neg (fun z=>e (h1.trans z))]; exact ⟨h1,h2,h3⟩
theorem KT.put {H:Hp} {kvs:List (List Key×V)} {xs:List (List Key×Addr×Value)} (r:KT H kvs xs) (k:List Key) {b:Addr} {y:V} {u:Value} (hb:H b=some (.tup (k.map kV))) (ry:RelV y u) :
    KT H (putK kvs k y) (storedH xs k b u):=by
  have e:(kvs.any fun kv=>decide (kv.1=k))=(atKey xs k).isSome:=by
    rw [valV_any,(r.val k).isSome_eq,Option.isSome_map]
  unfold putK storedH
  rw [e]
  by_cases q:(atKey xs k).isSome=true
  · rw [if_pos q,if_pos q]; exact r.repl k ry
  · rw [if_neg q,if_neg q]; exact Paired.snoc r ⟨rfl,hb,ry⟩
theorem KT.keeps {H H':Hp} {kvs:List (List Key×V)} {xs:List (List Key×Addr×Value)} (r:KT H kvs xs) (ht:∀ b ys,H b=some (.tup ys)→H' b=some (.tup ys)):KT H' kvs xs:=
  Paired.mapP r fun _ _ z=>⟨z.1,ht _ _ z.2.1,z.2.2⟩
section
variable {P:Program} {w:World} {H:Hp} {h:Heap} {a:Addr}
theorem rd_of {u:HO} (ok:HOk P w H h) (e:Rd H a u):ObjOk P w H h a u:=e.ok ok
theorem dk_rd {kvs:List (Key×V)} (ok:HOk P w H h) (e:Rd H a (.dK kvs)):kvs.length≤sizeLine∧(a == sysModules)=false∧∃ vs,KV kvs vs∧h.DictOf (mixKind P w) a vs:=
  show ObjOk P w H h a (.dK kvs) from rd_of ok e
theorem dk_of {kvs:List (Key×V)} (ok:HOk P w H h) (e:H a=some (.dK kvs)):kvs.length≤sizeLine∧(a == sysModules)=false∧∃ vs,KV kvs vs∧h.DictOf (mixKind P w) a vs:=dk_rd ok (.inl e)
theorem key_of {ks:List Key} (ok:HOk P w H h) (e:H a=some (.tup (ks.map kV))):(tupleKind (mixKind P w)).is h ks a:=by
  obtain ⟨_,its,r,o,h1,h2,n,h3⟩:=(show ObjOk P w H h a (.tup (ks.map kV)) from ok a _ e)
  exact ⟨o,its.toArray,n,h1,h2,h3,by simpa using items_are r⟩
theorem dt_rd {kvs:List (List Key×V)} (ok:HOk P w H h) (e:Rd H a (.dT kvs)):kvs.length≤sizeLine∧(a == sysModules)=false∧
    ∃ xs,KT H kvs xs∧h.DictOfH (tupleKind (mixKind P w)) a xs:=by
  obtain ⟨z,y,xs,r,o,es,ep,h1,h2,h3,h4,h5⟩:=(show ObjOk P w H h a (.dT kvs) from rd_of ok e)
  refine ⟨z,y,xs,r,o,es,ep,h1,h2,h3,h4,fun x hx=>?_,h5⟩
  have all:∀ {l:List (List Key×V)} {m:List (List Key×Addr×Value)},KT H l m→∀ x∈m,(tupleKind (mixKind P w)).is h x.1 x.2.1:=by
    intro l m q
    induction q with
    | nil=>intro x hx; exact nomatch hx
    | @cons p q ps qs hq t ih=>
      intro x hx
      rcases List.mem_cons.mp hx with e | hx
      · subst e
        exact key_of ok (by rw [← hq.1]; exact hq.2.1)
      · exact ih x hx
  exact all r x hx
theorem dt_of {kvs:List (List Key×V)} (ok:HOk P w H h) (e:H a=some (.dT kvs)):kvs.length≤sizeLine∧(a == sysModules)=false∧
    ∃ xs,KT H kvs xs∧h.DictOfH (tupleKind (mixKind P w)) a xs:=dt_rd ok (.inl e)
end
noncomputable def DGet (H:Hp) (a:Addr) (y:V) (r:Option V):Prop:=
  (∃ kvs k,Rd H a (.dK kvs)∧y=kV k∧r=valV kvs k)∨∃ kvs k b,Rd H a (.dT kvs)∧y=.ref b∧H b=some (.tup (k.map kV))∧r=valV kvs k
noncomputable def DPut (H:Hp) (a:Addr) (y v:V) (H':Hp):Prop:=
  (∃ kvs k,H a=some (.dK kvs)∧y=kV k∧kvs.length<sizeLine∧H'=upd H a (.dK (putK kvs k v))) ∨
  ∃ kvs k b,H a=some (.dT kvs)∧y=.ref b∧H b=some (.tup (k.map kV))∧kvs.length<sizeLine∧H'=upd H a (.dT (putK kvs k v))
section
variable {X:Cx} {pins:List (Addr×Obj)} {σ:St} {H:Hp} {s:Shared} {a:Addr} {y v:V} {u r:Value} {o:Option V} {A:Around} {E:Value→Shared→Prop}
theorem Inv.big (I:Inv X pins σ H s):sysModules<s.heap.objs.size:=by
  have h:mainGlobals<s.heap.objs.size:=(I.mod.glob.keeps I.bk).lt
  exact Nat.lt_trans (by decide) h
theorem d_in {Q:Value→Shared→Prop} (hu:A.units+1<cLine) (I:Inv X pins σ H s) (g:DGet H a y o) (ry:RelV y u) (h:∀ s',Inv X pins σ H s'→Q (.bool o.isSome) s') :
    wpAny (model X.prog X.w) A (compareOp .In u (.ref a)) Q E s:=by
  rcases g with ⟨kvs,k,e,ey,l⟩ | ⟨kvs,k,b,e,ey,eb,l⟩
  · subst ey
    obtain ⟨z,hd,vs,rel,dd⟩:=dk_rd I.hok e
    refine wpAny_in_of (kV_is ry) hd dd.mapOf ?_
    rw [← (rel.val k).isSome_eq,← l]
    exact h _ (I.tok _)
  · subst ey
    cases (show u=Value.ref b from ry)
    obtain ⟨z,hd,xs,rel,dd⟩:=dt_rd I.hok e
    refine wpAny_in_heap (tupleKind_room_in1 hu) (key_of I.hok eb) hd dd ?_
    have q:=(rel.val k).isSome_eq
    rw [Option.isSome_map] at q
    rw [← q,← l]
    exact h _ (I.tok _)
theorem d_notIn {Q:Value→Shared→Prop} (hu:A.units+1<cLine) (I:Inv X pins σ H s) (g:DGet H a y o) (ry:RelV y u) (h:∀ s',Inv X pins σ H s'→Q (.bool (!o.isSome)) s') :
    wpAny (model X.prog X.w) A (compareOp .NotIn u (.ref a)) Q E s:=by
  rcases g with ⟨kvs,k,e,ey,l⟩ | ⟨kvs,k,b,e,ey,eb,l⟩
  · subst ey
    obtain ⟨z,hd,vs,rel,dd⟩:=dk_rd I.hok e
    refine wpAny_notIn_of (kV_is ry) hd dd.mapOf ?_
    rw [← (rel.val k).isSome_eq,← l]
    exact h _ (I.tok _)
  · subst ey
    cases (show u=Value.ref b from ry)
    obtain ⟨z,hd,xs,rel,dd⟩:=dt_rd I.hok e
    refine wpAny_notIn_heap (tupleKind_room_in1 hu) (key_of I.hok eb) hd dd ?_
    have q:=(rel.val k).isSome_eq
    rw [Option.isSome_map] at q
    rw [← q,← l]
    exact h _ (I.tok _)
theorem d_write {h':Heap} {t':Nat} {ob:HO} (I:Inv X pins σ H s) (mu:Mut (H a)) (hs:Heap.SameBut a s.heap h') (he:∃ q,h'.get? a=some q) (new:ObjOk X.prog X.w (upd H a ob) h' a ob) :
    Inv X pins σ (upd H a ob) { s with heap:=h',toks:=t' }:=
  I.write (x:=a) (e:=a) mu (.inl rfl) (fun b q hb z=>(hs.2 b hb).trans z) he new
theorem dk_new {P:Program} {w:World} {H':Hp} {h':Heap} {kvs:List (Key×V)} {vs:List (Key×Value)} (z:kvs.length≤sizeLine) (hd:(a == sysModules)=false) (rel:KV kvs vs) (dd:h'.DictOf (mixKind P w) a vs) :
    ObjOk P w H' h' a (.dK kvs):=⟨z,hd,vs,rel,dd⟩
theorem d_setItem {H':Hp} {Q:Unit→Shared→Prop} (hu:A.units+1<cLine) (I:Inv X pins σ H s) (g:DPut H a y v H') (ry:RelV y u) (rv:RelV v r) (h:∀ s',Inv X pins σ H' s'→Q () s') :
    wpAny (model X.prog X.w) A (setItem (.ref a) u r) Q E s:=by
  rcases g with ⟨kvs,k,e,ey,l,eH⟩ | ⟨kvs,k,b,e,ey,eb,l,eH⟩
  · subst ey eH
    obtain ⟨z,hd,vs,rel,dd⟩:=dk_of I.hok e
    have hz:vs.length≤sizeLine:=by rw [← rel.length]; exact z
    have hl:(putK kvs k v).length≤sizeLine:=by have:=length_putK kvs k v; omega
    refine wpAny_setItem_pairs (hsz:=hz) (kV_is ry) dd fun h' dd' hs=>h _ ?_
    have he:∃ q,h'.get? a=some q:=let ⟨q,_,_,hq,_⟩:=dd'; ⟨q,hq⟩
    exact d_write I (by rw [e]; exact True.intro) hs he (dk_new hl hd (rel.put k rv) dd')
  · subst ey eH
    cases (show u=Value.ref b from ry)
    obtain ⟨z,hd,xs,rel,dd⟩:=dt_of I.hok e
    have hz:xs.length≤sizeLine:=by rw [← Paired.length rel]; exact z
    have hl:(putK kvs k v).length≤sizeLine:=by have:=length_putK kvs k v; omega
    refine wpAny_setItem_heap (hsz:=hz) (tupleKind_room_in1 hu) (key_of I.hok eb) dd fun h' dd' hs=>h _ ?_
    obtain ⟨q,es,ep,hq,h2,h3,h4,_,h5⟩:=dd'
    refine d_write I (by rw [e]; exact True.intro) hs ⟨q,hq⟩ ⟨hl,hd,_,(rel.put k eb rv).keeps fun c ys ec=>?_,q,es,ep,hq,h2,h3,h4,h5⟩
    rw [upd_ne (ne_of ec e (fun z=>nomatch z))]
    exact ec
end
section
variable {X:Cx} {pins:List (Addr×Obj)} {σ:St} {H:Hp} {s:Shared} {a:Addr} {kvs:List (Key×V)} {k:Key} {u:Value} {A:Around} {E:Value→Shared→Prop}
theorem d_len {Q:Value→Shared→Prop} (I:Inv X pins σ H s) (e:Rd H a (.dK kvs)) (h:∀ t s',Inv X pins σ H s'→Q (.int kvs.length t) s'):wpAny (model X.prog X.w) A (call (.builtin "len") [.ref a]) Q E s:=by
  obtain ⟨z,hd,vs,rel,dd⟩:=dk_rd I.hok e
  refine call_len_dict hd dd (by rw [← rel.length]; rw [sizeLine_eq] at z; omega) ?_
  rw [← rel.length]
  exact h _ _ (I.tok _)
end
theorem dict_typeIs {X:Cx} {pins:List (Addr×Obj)} {σ:St} {H:Hp} {s:Shared} {a:Addr} {y:V} {o:Option V} (I:Inv X pins σ H s) (g:DGet H a y o):s.TypeIs (.ref a) "dict" := by
  rcases g with ⟨kvs,k,e,_,_⟩ | ⟨kvs,k,b,e,_,_,_⟩
  · obtain ⟨_,_,vs,_,dd⟩:=dk_rd I.hok e
    exact dd.typeIs
  · obtain ⟨_,_,xs,_,dd⟩:=dt_rd I.hok e
    exact dd.typeIs
noncomputable def sDPut (td ty tv:TE):TS:=fun D σ H=>tv σ H fun v H1=>td σ H1 fun x H2=>ty σ H2 fun y H3=>∃ a H4,x=.ref a∧DPut H3 a y v H4∧D.nx σ H4
section
variable {X:Cx} {o i e value:Expr} {pos pos' tpos:Pos} {td ty tv:TE}
theorem ps_dput (hu:X.A.units+1<cLine) (ho:PE X o td) (hi:PE X i ty) (hv:PE X value tv) (hs:swapsWith value (some (.Subscript o i pos')) pos.line X.env=pure false) :
    PS X (.Assign [.Subscript o i pos'] value pos) (sDPut td ty tv):=by
  intro pins s σ H D I h
  refine wpAny_Assign_Subscript (thn (hv pins s σ H _ I h) fun r s1 ⟨v,H1,I1,rv,q1⟩=>thn (ho pins s1 σ H1 _ I1 q1) fun u s2 ⟨x,H2,I2,rx,q2⟩=>thn (hi pins s2 σ H2 _ I2 q2) fun iv s3 ⟨y,H3,I3,ry,a,H4,ex,g,q3⟩=>?_) hs
  subst ex
  obtain rfl:u=Value.ref a:=rx
  exact d_setItem hu I3 g ry rv fun s4 I4=>⟨σ,H4,I4,q3⟩
end
theorem dk_empty {P:Program} {w:World} {H:Hp} (h:Heap) (hb:sysModules<h.objs.size):ObjOk P w H (h.push { cls:=.type "dict",data:=.dict #[] }) h.objs.size (.dK []):=
  ⟨Nat.zero_le _,beq_eq_false_iff_ne.mpr (Ne.symm (Nat.ne_of_lt hb)),[],.nil,Heap.DictOf.new h⟩
noncomputable def tDNewK:TE:=fun _ H Q=>∀ p,H p=none→Q (.ref p) (upd H p (.dK []))
section
variable {X:Cx} {pos:Pos}
theorem pe_dnewK:PE X (.Dict [] [] pos) tDNewK:=fun pins s σ H Q I h=>
  wpAny_Dict_empty ⟨.ref s.heap.objs.size,_,I.laid (a:=s.heap.objs.size) (o:=.dK []) (t':=s.toks) (fun _ _ q=>Heap.get?_push_of_some _ q) (Nat.le_refl _) (dk_empty s.heap I.big),rfl,h _ (I.hok.fresh (Nat.le_refl _))⟩
end
noncomputable def tPairs:List (TE×TE)→St→Hp→(List (V×V)→Hp→Prop)→Prop
  | [],_,H,Q=>Q [] H
  | (tk,tv)::r,σ,H,Q=>tk σ H fun x H1=>tv σ H1 fun y H2=>tPairs r σ H2 fun ps H3=>Q ((x,y)::ps) H3
noncomputable abbrev VV:List (V×V)→List (Value×Value)→Prop:=Paired fun p q=>RelV p.1 q.1∧RelV p.2 q.2
noncomputable def PPs (X:Cx) (pos:Pos) (keys:List (Option Expr)) (values:List Expr) (trs:List (TE×TE)):Prop:=
  ∀ (pins:List (Addr×Obj)) (s:Shared) (σ:St) (H:Hp) (Q:List (V×V)→Hp→Prop),Inv X pins σ H s→tPairs trs σ H Q→
    wpAny (model X.prog X.w) X.A (evalPairs (pairTrees keys values X.env pos)) (fun vs s'=>∃ ps H',Inv X pins σ H' s'∧VV ps vs∧Q ps H') X.xe s
theorem pps_nil {X:Cx} {pos:Pos}:PPs X pos [] [] []:=fun pins s σ H Q I h=>pairTrees_nil_walk ⟨[],H,I,.nil,h⟩
theorem pps_cons {X:Cx} {pos:Pos} {k v:Expr} {ks:List (Option Expr)} {vs:List Expr} {tk tv:TE} {trs:List (TE×TE)} (hk:PE X k tk) (hv:PE X v tv) (hr:PPs X pos ks vs trs) :
    PPs X pos (some k::ks) (v::vs) ((tk,tv)::trs):=fun pins s σ H Q I h=>
  pairTrees_cons_walk (thn (hk pins s σ H _ I h) fun u s1 ⟨x,H1,I1,rx,q1⟩=>thn (hv pins s1 σ H1 _ I1 q1) fun w2 s2 ⟨y,H2,I2,ry,q2⟩=>
    thn (hr pins s2 σ H2 _ I2 q2) fun ws s3 ⟨ps,H3,I3,rel,q3⟩=>⟨(x,y)::ps,H3,I3,.cons ⟨rx,ry⟩ rel,q3⟩)
noncomputable def mergeK (kvs more:List (Key×V)):List (Key×V):=more.foldl (fun acc kv=>putK acc kv.1 kv.2) kvs
theorem KV.merge:∀ {more:List (Key×V)} {rs:List (Key×Value)} {kvs:List (Key×V)} {vs:List (Key×Value)},KV more rs→KV kvs vs→KV (mergeK kvs more) (merged vs rs):=by
  intro more rs kvs vs r
  unfold KV at r
  induction r generalizing kvs vs with
  | nil=>intro q; exact q
  | @cons p q ps qs h t ih=>
    intro r0
    have e:KV (putK kvs p.1 p.2) (stored vs q.1 q.2):=by
      have:=r0.put p.1 h.2
      rw [← h.1]; exact this
    exact ih e
theorem length_mergeK:∀ (more kvs:List (Key×V)),(mergeK kvs more).length≤kvs.length+more.length
  | [],kvs=>by show kvs.length≤kvs.length+0; omega
  | p::r,kvs=>by
    have h1:=length_mergeK r (putK kvs p.1 p.2)
    have h2:=length_putK kvs p.1 p.2
    show (mergeK (putK kvs p.1 p.2) r).length≤_
    rw [List.length_cons]; omega
theorem carries_of {P:Program} {w:World}:∀ {kvs:List (Key×V)} {ws:List (Value×Value)},VV (kvs.map fun kv=>(kV kv.1,kv.2)) ws→∃ rs,Carries (mixKind P w) ws rs∧KV kvs rs
  | [],_,r=>by rw [List.map_nil] at r; cases r; exact ⟨[],True.intro,.nil⟩
  | p::kvs,_,r=>by
    rw [List.map_cons] at r
    cases r with
    | @cons a b as bs h t=>
      obtain ⟨rs,c,q⟩:=carries_of (P:=P) (w:=w) t
      obtain ⟨b1,b2⟩:=b
      exact ⟨(p.1,b2)::rs,⟨kV_is h.1,rfl,c⟩,.cons ⟨rfl,h.2⟩ q⟩
noncomputable def tDisp (trs:List (TE×TE)):TE:=fun σ H Q=>∀ p,H p=none→tPairs trs σ (upd H p (.dK [])) fun ps H2=>H2 p=some (.dK [])∧∃ kvs:List (Key×V),ps=kvs.map (fun kv=>(kV kv.1,kv.2))∧kvs.length≤15∧Q (.ref p) (upd H2 p (.dK (mergeK [] kvs)))
theorem pe_disp {X:Cx} {pos:Pos} {keys:List (Option Expr)} {values:List Expr} {trs:List (TE×TE)} (h:PPs X pos keys values trs) (hall:keys.all (·.isSome)=true) (hl:keys.length=values.length) (h0:keys≠[])
    (h15:keys.length≤15):PE X (.Dict keys values pos) (tDisp trs):=by
  intro pins s σ H Q I q
  have hn:=I.hok.fresh (Nat.le_refl s.heap.objs.size)
  have I1:=I.laid (a:=s.heap.objs.size) (o:=.dK []) (h':=s.heap.push { cls:=.type "dict",data:=.dict #[] }) (t':=s.toks) (fun _ _ q=>Heap.get?_push_of_some _ q) (Nat.le_refl _) (dk_empty s.heap I.big)
  refine wpAny_Dict_walk (knd:=mixKind X.prog X.w) hall hl h0 h15 (thn (h pins _ σ _ _ I1 (q _ hn)) fun ws s2 ⟨ps,H2,I2,rel,e,kvs,ep,lk,q2⟩=>?_)
  subst ep
  obtain ⟨rs,c,rk⟩:=carries_of (P:=X.prog) (w:=X.w) rel
  obtain ⟨z,hd,vs0,r0,dd⟩:=dk_of I2.hok e
  cases r0
  refine ⟨rs,c,dd,fun h' dd' hs=>⟨.ref s.heap.objs.size,_,?_,rfl,q2⟩⟩
  have hz:(mergeK [] kvs).length≤sizeLine:=by
    have h1:=length_mergeK kvs []
    rw [List.length_nil] at h1
    rw [sizeLine_eq]; omega
  have he:∃ q,h'.get? s.heap.objs.size=some q:=let ⟨q,_,_,hq,_⟩:=dd'; ⟨q,hq⟩
  exact d_write I2 (by rw [e]; exact True.intro) hs he (dk_new hz hd (rk.merge .nil) dd')
section
variable {X:Cx} {pins:List (Addr×Obj)} {σ:St} {H:Hp} {s:Shared} {a:Addr} {y d:V} {u r:Value} {o:Option V} {A:Around} {E:Value→Shared→Prop}
end
section
variable {X:Cx} {o e f:Expr} {apos cpos:Pos} {td ty tx:TE}
end
section
variable {X:Cx} {pins:List (Addr×Obj)} {σ:St} {H:Hp} {s:Shared} {a:Addr} {kvs:List (Key×V)} {A:Around} {E:Value→Shared→Prop}
end
section
variable {X:Cx} {pins:List (Addr×Obj)} {σ:St} {H:Hp} {s:Shared} {a:Addr} {y:V} {u:Value} {A:Around} {E:Value→Shared→Prop}
end
end L2
namespace L3
open PySem
inductive D where
  | non | bl (b:Bool) | int (i:Int) | str (x:Str) | tup (xs:List D) | lst (xs:List D) | dic (ks:List (Sum Int Str)) (vs:List D) | exc (x:Str) | obj (x:Str) (fs:List Str) (vs:List D)
theorem D.ind {P:D→Prop} (non:P .non) (bl:∀ b,P (.bl b)) (int:∀ i,P (.int i)) (str:∀ x,P (.str x)) (tup:∀ xs,(∀ d∈xs,P d)→P (.tup xs)) (lst:∀ xs,(∀ d∈xs,P d)→P (.lst xs))
    (dic:∀ ks xs,(∀ d∈xs,P d)→P (.dic ks xs)) (exc:∀ x,P (.exc x)) (obj:∀ x fs xs,(∀ d∈xs,P d)→P (.obj x fs xs)) (d:D):P d:=
  D.rec (motive_1:=P) (motive_2:=fun ds=>∀ d∈ds,P d) non bl int str (fun xs h=>tup xs h) (fun xs h=>lst xs h) (fun ks xs h=>dic ks xs h) exc (fun x fs xs h=>obj x fs xs h) (fun _ h=>absurd h (by simp))
    (fun d ds hd hds e he=>by
      rcases List.mem_cons.mp he with z | z
      · exact z ▸ hd
      · exact hds e z) d
mutual
noncomputable def dEq:D→D→Bool
  | .non,.non=>true
  | .bl a,.bl b=>a == b
  | .bl a,.int b=>(if a then 1 else 0) == b
  | .int a,.bl b=>a == (if b then 1 else 0)
  | .int a,.int b=>a == b
  | .str a,.str b=>a == b
  | .tup xs,.tup ys=>dEqs xs ys
  | .lst xs,.lst ys=>dEqs xs ys
  | _,_=>false
noncomputable def dEqs:List D→List D→Bool
  | [],[]=>true
  | x::xs,y::ys=>dEq x y&&dEqs xs ys
  | _,_=>false
end
noncomputable abbrev Sl:=Bool×D
noncomputable abbrev SEnv:=List (Option Sl)
noncomputable abbrev FE:=SEnv→Option D
noncomputable abbrev FT:=SEnv→Option Bool
noncomputable abbrev FA:=SEnv→Option (List D)
noncomputable abbrev FG:=D→SEnv→Option SEnv
inductive Fl where
  | nx (σ:SEnv) | rt (o:Bool) (d:D) | bk (σ:SEnv) | ct (σ:SEnv)
noncomputable abbrev FS:=SEnv→Option Fl
noncomputable abbrev LIM:Nat:=16777216
noncomputable def eVar (i:Nat):FE:=fun σ=>match σ[i]? with
  | some (some (false,d))=>some d
  | _=>none
noncomputable def eAny (i:Nat):FE:=fun σ=>match σ[i]? with
  | some (some (_,d))=>some d
  | _=>none
noncomputable def eC (d:D):FE:=fun _=>some d
noncomputable def e1 (F:D→Option D) (a:FE):FE:=fun σ=>(a σ).bind F
noncomputable def e2 (F:D→D→Option D) (a b:FE):FE:=fun σ=>(a σ).bind fun x=>(b σ).bind fun y=>F x y
noncomputable def eL (F:List D→Option D) (a:FA):FE:=fun σ=>(a σ).bind F
noncomputable def aNil:FA:=fun _=>some []
noncomputable def aCons (a:FE) (r:FA):FA:=fun σ=>(a σ).bind fun x=>(r σ).bind fun xs=>some (x::xs)
noncomputable def asB:D→Option Bool
  | .bl b=>some b
  | _=>none
noncomputable def tE (a:FE):FT:=fun σ=>(a σ).bind asB
noncomputable def tAndF (a b:FT):FT:=fun σ=>(a σ).bind fun k=>match k with
  | true=>b σ
  | false=>some false
noncomputable def tOrF (a b:FT):FT:=fun σ=>(a σ).bind fun k=>match k with
  | true=>some true
  | false=>b σ
noncomputable def tNotF (a:FT):FT:=fun σ=>(a σ).bind fun k=>some (!k)
noncomputable def eAnd (a b:FE):FE:=fun σ=>(a σ).bind fun x=>(asB x).bind fun k=>match k with
  | true=>b σ
  | false=>some (.bl false)
noncomputable def eOr (a b:FE):FE:=fun σ=>(a σ).bind fun x=>(asB x).bind fun k=>match k with
  | true=>some (.bl true)
  | false=>b σ
noncomputable def eNot (a:FE):FE:=fun σ=>(a σ).bind fun x=>(asB x).bind fun k=>some (.bl (!k))
noncomputable def eIf (c:FT) (a b:FE):FE:=fun σ=>(c σ).bind fun k=>match k with
  | true=>a σ
  | false=>b σ
noncomputable def eTup (a:FA):FE:=fun σ=>(a σ).bind fun xs=>some (.tup xs)
noncomputable def eLst (a:FA):FE:=fun σ=>(a σ).bind fun xs=>some (.lst xs)
noncomputable def fAdd:D→D→Option D
  | .int i,.int j=>some (.int (i+j))
  | .int i,.bl b=>some (.int (i+(if b then 1 else 0)))
  | .str x,.str y=>if x.length+y.length≤LIM then some (.str (x++y)) else none
  | .lst x,.lst y=>if x.length+y.length≤LIM then some (.lst (x++y)) else none
  | .tup x,.tup y=>if x.isEmpty=false∧x.length+y.length≤LIM then some (.tup (x++y)) else none
  | _,_=>none
noncomputable def fI (C:Int→Int→Bool) (g:Int→Int→Int):D→D→Option D
  | .int i,.int j=>match C i j with
    | true=>some (.int (g i j))
    | false=>none
  | _,_=>none
noncomputable def fSub:D→D→Option D
  | .int i,.int j=>some (.int (i - j))
  | _,_=>none
noncomputable def lt64 (i:Int):Bool:=decide (-(2 ^ 64)<i)&&decide (i<2 ^ 64)
noncomputable def fMulL:D→D→Option D:=fI (fun i _=>lt64 i) (·*·)
noncomputable def fMulR:D→D→Option D:=fI (fun _ j=>lt64 j) (·*·)
noncomputable def fMod:D→D→Option D:=fI (fun _ j=>decide (0<j)) (· % ·)
noncomputable def fDiv:D→D→Option D:=fI (fun _ j=>decide (0<j)&&decide (j<2 ^ 64)) (· / ·)
noncomputable def powOk (i j:Int):Bool:=decide (0≤j)&&(decide (j≤1000000)&&decide (i.natAbs<2 ^ 64))
noncomputable def fPow:D→D→Option D:=fI powOk fun i j=>i ^ j.toNat
noncomputable def fShl:D→D→Option D:=fI powOk fun i j=>i*2 ^ j.toNat
noncomputable def fShr:D→D→Option D:=fI (fun _ j=>decide (0≤j)) fun i j=>i / 2 ^ j.toNat
noncomputable def fBit (g:Int→Int→Int):D→D→Option D
  | .int i,.int j=>some (.int (g i j))
  | _,_=>none
noncomputable def fNeg:D→Option D
  | .int i=>some (.int (-i))
  | _=>none
noncomputable def fCmp (g:Int→Int→Bool):D→D→Option D
  | .int i,.int j=>some (.bl (g i j))
  | _,_=>none
noncomputable def isNon:D→Bool
  | .non=>true
  | _=>false
noncomputable def fIsN:D→D→Option D
  | x,.non=>some (.bl (isNon x))
  | _,_=>none
noncomputable def fNotN:D→D→Option D
  | x,.non=>some (.bl (!isNon x))
  | _,_=>none
noncomputable def flatD:D→Bool
  | .non=>true
  | .bl _=>true
  | .int _=>true
  | .str _=>true
  | _=>false
noncomputable def cmpAll (f:D→D→Bool):List D→List D→Bool
  | x::xs,y::ys=>f x y&&cmpAll f xs ys
  | _,_=>true
noncomputable def cmpOk:Nat→D→D→Bool
  | 0,_,_=>false
  | n+1,x,y=>match x,y with
    | .tup xs,.tup ys=>cmpAll (cmpOk n) xs ys
    | .lst xs,.lst ys=>cmpAll (cmpOk n) xs ys
    | x,y=>flatD x&&flatD y
noncomputable def fEqB:D→D→Option Bool
  | .int _,.bl _=>none
  | .bl _,.int _=>none
  | x,y=>match cmpOk 6 x y with
    | true=>some (dEq x y)
    | false=>none
noncomputable def fEq (x y:D):Option D:=(fEqB x y).bind fun k=>some (.bl k)
noncomputable def fNe (x y:D):Option D:=(fEqB x y).bind fun k=>some (.bl (!k))
noncomputable def keyD:D→Option (Sum Int Str)
  | .int i=>some (.inl i)
  | .str x=>some (.inr x)
  | _=>none
noncomputable def getK {α:Type}:List (Sum Int Str)→List α→Sum Int Str→Option α
  | k'::ks,v::vs,k=>if k'=k then some v else getK ks vs k
  | _,_,_=>none
noncomputable def hasK (ks:List (Sum Int Str)) (k:Sum Int Str):Bool:=ks.any fun j=>decide (j=k)
noncomputable def putKs (ks:List (Sum Int Str)) (k:Sum Int Str):List (Sum Int Str):=if hasK ks k=true then ks else ks++[k]
noncomputable def putVs {α:Type} (ks:List (Sum Int Str)) (vs:List α) (k:Sum Int Str) (v:α):List α:=if hasK ks k=true then List.zipWith (fun k' x=>if k'=k then v else x) ks vs else vs++[v]
noncomputable def fInB (x:D):D→Option Bool
  | .lst ys=>match flatD x&&ys.all flatD with
    | true=>some (ys.any fun y=>dEq y x)
    | false=>none
  | .tup ys=>match flatD x&&ys.all flatD with
    | true=>some (ys.any fun y=>dEq y x)
    | false=>none
  | .str j=>match x with
    | .str i=>some (!(Builtin.Str.occurrences j i 0 j.length 1).isEmpty)
    | _=>none
  | .dic ks _=>(keyD x).bind fun k=>some (hasK ks k)
  | _=>none
noncomputable def fIn (x y:D):Option D:=(fInB x y).bind fun k=>some (.bl k)
noncomputable def fNotIn (x y:D):Option D:=(fInB x y).bind fun k=>some (.bl (!k))
noncomputable def atD {α:Type} (xs:List α) (i:Int):Option α:=if 0≤i then xs[i.toNat]? else if -(xs.length:Int)≤i then xs[(i+xs.length).toNat]? else none
noncomputable def fIx:D→D→Option D
  | .lst xs,.int i=>atD xs i
  | .tup xs,.int i=>atD xs i
  | .str z,.int i=>(atD z.cps.toList i).bind fun c=>some (.str ⟨#[c]⟩)
  | .dic ks vs,k=>(keyD k).bind fun k=>getK ks vs k
  | _,_=>none
noncomputable def fLen:List D→Option D
  | [.lst xs]=>some (.int xs.length)
  | [.tup xs]=>some (.int xs.length)
  | [.str z]=>some (.int z.length)
  | _=>none
noncomputable def fInt:List D→Option D
  | [.int i]=>some (.int i)
  | [.bl k]=>some (.int (if k then 1 else 0))
  | _=>none
inductive TyT where
  | int | bool | str | list | tuple
noncomputable def TyT.nm:TyT→String
  | .int => "int"
  | .bool => "bool"
  | .str => "str"
  | .list => "list"
  | .tuple => "tuple"
noncomputable def isTy:TyT→D→Option Bool
  | _,.dic _ _=>none
  | _,.exc _=>none
  | _,.obj _ _ _=>none
  | .int,.int _=>some true
  | .int,.bl _=>some true
  | .int,_=>some false
  | .bool,.bl _=>some true
  | .bool,_=>some false
  | .str,.str _=>some true
  | .str,_=>some false
  | .list,.lst _=>some true
  | .list,_=>some false
  | .tuple,.tup _=>some true
  | .tuple,_=>some false
noncomputable def eIsi (T:TyT) (a:FE):FE:=fun τ=>(a τ).bind fun d=>(isTy T d).bind fun b=>some (.bl b)
noncomputable def iSeq (a:FE):FA:=fun σ=>(a σ).bind fun d=>match d with
  | .lst xs=>some xs
  | .tup xs=>some xs
  | .str z=>some (z.cps.toList.map fun c=>.str ⟨#[c]⟩)
  | _=>none
noncomputable def iRange (lo hi:FE):FA:=fun σ=>(lo σ).bind fun x=>(hi σ).bind fun y=>match x,y with
  | .int i,.int j=>if i.natAbs≤LIM∧j.natAbs≤LIM∧(j - i).toNat≤LIM then some ((List.range (j - i).toNat).map fun k:Nat=>.int (i+k)) else none
  | _,_=>none
noncomputable def gVar (i:Nat):FG:=fun d σ=>some (σ.set i (some (false,d)))
noncomputable def gTwo (i j:Nat):FG:=fun d σ=>match d with
  | .tup [x,y]=>some ((σ.set i (some (false,x))).set j (some (false,y)))
  | _=>none
noncomputable def sNext:FS:=fun σ=>some (.nx σ)
noncomputable def sSeq (a b:FS):FS:=fun σ=>(a σ).bind fun f=>match f with
  | .nx σ'=>b σ'
  | f=>some f
noncomputable def sSet (i:Nat) (e:FE):FS:=fun σ=>(e σ).bind fun d=>some (.nx (σ.set i (some (false,d))))
noncomputable def sSetO (i:Nat) (e:FE):FS:=fun σ=>(e σ).bind fun d=>some (.nx (σ.set i (some (true,d))))
noncomputable def sRet (e:FE):FS:=fun σ=>(e σ).bind fun d=>some (.rt false d)
noncomputable def sRetO (e:FE):FS:=fun σ=>(e σ).bind fun d=>some (.rt true d)
noncomputable def sRetV (i:Nat):FS:=fun σ=>match σ[i]? with
  | some (some (true,d))=>some (.rt true d)
  | _=>none
noncomputable def sIf (c:FT) (a b:FS):FS:=fun σ=>(c σ).bind fun k=>match k with
  | true=>a σ
  | false=>b σ
noncomputable def loopG (g:FG) (b:FS):List D→SEnv→Option Fl
  | [],σ=>some (.nx σ)
  | d::r,σ=>(g d σ).bind fun σ1=>(b σ1).bind fun f=>match f with
    | .nx σ2=>loopG g b r σ2
    | .ct σ2=>loopG g b r σ2
    | .bk σ2=>some (.nx σ2)
    | .rt o d=>some (.rt o d)
noncomputable def sFor (it:FA) (g:FG) (b:FS):FS:=fun σ=>(it σ).bind fun ds=>loopG g b ds σ
noncomputable def sFreeze (i:Nat):FS:=fun σ=>match σ[i]? with
  | some (some (_,d))=>some (.nx (σ.set i (some (false,d))))
  | _=>none
noncomputable def sMut (i:Nat) (F:D→Option D):FS:=fun σ=>match σ[i]? with
  | some (some (true,d))=>(F d).bind fun d'=>some (.nx (σ.set i (some (true,d'))))
  | _=>none
noncomputable def sMut1 (i:Nat) (F:D→D→Option D) (e:FE):FS:=fun σ=>match σ[i]? with
  | some (some (true,d))=>(e σ).bind fun x=>(F d x).bind fun d'=>some (.nx (σ.set i (some (true,d'))))
  | _=>none
noncomputable def fApp:D→D→Option D
  | .lst xs,y=>if xs.length<LIM then some (.lst (xs++[y])) else none
  | _,_=>none
noncomputable def sPut (i:Nat) (k v:FE):FS:=fun σ=>(v σ).bind fun y=>match σ[i]? with
  | some (some (true,.dic ks ds))=>(k σ).bind fun x=>(keyD x).bind fun x=>if ks.length<LIM then some (.nx (σ.set i (some (true,.dic (putKs ks x) (putVs ks ds x y))))) else none
  | _=>none
noncomputable def eDisp (ks:List Str) (vs:FA):FE:=fun σ=>(vs σ).bind fun ds=>if ks.length=ds.length then some (.dic (ks.map .inr) ds) else none
noncomputable def lcGo (g:FG) (c:FT) (e:FE) (σ:SEnv):List D→Option (List D)
  | []=>some []
  | d::r=>(g d σ).bind fun σ1=>(c σ1).bind fun k=>match k with
    | true=>(e σ1).bind fun x=>(lcGo g c e σ r).bind fun xs=>some (x::xs)
    | false=>lcGo g c e σ r
noncomputable def tTrue:FT:=fun _=>some true
noncomputable def eLc (n:Nat) (it:FA) (g:FG) (c:FT) (e:FE):FE:=fun σ=>(it σ).bind fun ds=>(lcGo g c e (σ++List.replicate n none) ds).bind fun xs=>some (.lst xs)
noncomputable def runF (n:Nat) (b:FS) (ds:List D):Option (Bool×D):=(b (ds.map (fun d=>some (false,d))++List.replicate (n - ds.length) none)).bind fun f=>match f with
  | .rt o d=>some (o,d)
  | .nx _=>some (false,.non)
  | _=>none
noncomputable def eCall (F:List D→Option (Bool×D)) (a:FA):FE:=fun σ=>(a σ).bind fun ds=>(F ds).bind fun r=>some r.2
noncomputable def eCallO (F:List D→Option (Bool×D)) (a:FA):FE:=fun σ=>(a σ).bind fun ds=>(F ds).bind fun r=>match r with
  | (true,d)=>some d
  | _=>none
noncomputable def eCallB (F:List D→Option (Bool×D)) (a:FA):FE:=fun σ=>(eCall F a σ).bind fun d=>if flatD d=true then some d else none
end L3
namespace L3
open PySem PySem.Spec PyProof.Rows L2
noncomputable abbrev St:=L2.St
noncomputable def SqD (_:PySem.W.Frag) (H:Hp) (a:Addr) (kvs:List (Key×V)):Prop:=Rd H a (.dK kvs)
mutual
noncomputable def Rep (K:PySem.W.Frag) (H:Hp):D→V→Prop
  | .non,v=>v=.non
  | .bl b,v=>v=.bl b
  | .int i,v=>v=.int i
  | .str x,v=>v=.str x∧x.length≤sizeLine
  | .tup ds,v=>∃ a vs,v=.ref a∧SqT K H a vs∧Reps K H ds vs∧ds.length≤sizeLine
  | .lst ds,v=>∃ a vs,v=.ref a∧SqL K H a vs∧Reps K H ds vs∧ds.length≤sizeLine
  | .dic ks ds,v=>∃ a vs,v=.ref a∧SqD K H a (ks.zip vs)∧ks.length=vs.length∧Reps K H ds vs∧ds.length≤sizeLine
  | .exc x,v=>∃ a C,v=.ref a∧PySem.W.nsIn K mainGlobals x=some (some (.ref C))∧H a=some (.ext (ExcO a C))
  | .obj x fs ds,v=>∃ a C dx vs,v=.ref a∧PySem.W.nsIn K mainGlobals x=some (some (.ref C))∧H a=some (.ins C dx (fs.zip vs))∧fs.length=vs.length∧Reps K H ds vs
noncomputable def Reps (K:PySem.W.Frag) (H:Hp):List D→List V→Prop
  | [],vs=>vs=[]
  | d::ds,vs=>∃ v r,vs=v::r∧Rep K H d v∧Reps K H ds r
end
section
variable {K:PySem.W.Frag} {G H H':Hp}
theorem Rd.mono {a:Addr} {u:HO} (s:Same H H') (h:Rd H a u):Rd H' a u:=by
  rcases h with h | ⟨o,h⟩
  · exact .inl (s _ _ h)
  · exact .inr ⟨o,s _ _ h⟩
theorem sqT_mono {a:Addr} {xs:List V} (s:Same H H') (h:SqT K H a xs):SqT K H' a xs:=by
  rcases h with h | h
  · exact .inl (Rd.mono s h)
  · exact .inr h
theorem sqL_mono {a:Addr} {xs:List V} (s:Same H H') (h:SqL K H a xs):SqL K H' a xs:=by
  rcases h with h | h
  · exact .inl (Rd.mono s h)
  · exact .inr h
theorem Reps.imp:∀ {ds:List D} {vs:List V},(∀ d∈ds,∀ v,Rep K H d v→Rep K H' d v)→Reps K H ds vs→Reps K H' ds vs
  | [],_,_,h=>h
  | d::ds,vs,f,h=>by
    obtain ⟨v,r,rfl,hv,hr⟩:=h
    exact ⟨v,r,rfl,f d List.mem_cons_self v hv,Reps.imp (fun d' m=>f d' (List.mem_cons_of_mem _ m)) hr⟩
theorem Rep.mono (s:Same H H'):∀ {d:D} {v:V},Rep K H d v→Rep K H' d v:=fun {d}=>by
  refine D.ind (P:=fun d=>∀ v,Rep K H d v→Rep K H' d v) (fun v h=>h) (fun b v h=>h) (fun i v h=>h) (fun x v h=>h) ?_ ?_ ?_ ?_ ?_ d _
  · rintro xs ih v ⟨a,vs,e,q,r,l⟩
    exact ⟨a,vs,e,sqT_mono s q,Reps.imp ih r,l⟩
  · rintro xs ih v ⟨a,vs,e,q,r,l⟩
    exact ⟨a,vs,e,sqL_mono s q,Reps.imp ih r,l⟩
  · rintro ks xs ih v ⟨a,vs,e,q,z,r,l⟩
    exact ⟨a,vs,e,Rd.mono s q,z,Reps.imp ih r,l⟩
  · rintro x v ⟨a,C,e,n,h⟩
    exact ⟨a,C,e,n,s _ _ h⟩
  · rintro x fs xs ih v ⟨a,C,dx,vs,e,n,h,l,r⟩
    exact ⟨a,C,dx,vs,e,n,s _ _ h,l,Reps.imp ih r⟩
theorem Reps.mono (s:Same H H') {ds:List D} {vs:List V} (h:Reps K H ds vs):Reps K H' ds vs:=Reps.imp (fun _ _ _=>Rep.mono s) h
theorem Reps.length:∀ {ds:List D} {vs:List V},Reps K H ds vs→vs.length=ds.length
  | [],_,h=>by cases (show _=[] from h); rfl
  | d::ds,_,h=>by
    obtain ⟨v,r,rfl,_,hr⟩:=h
    rw [List.length_cons,List.length_cons,Reps.length hr]
theorem Reps.get:∀ {ds:List D} {vs:List V} {i:Nat} {d:D},Reps K H ds vs→ds[i]?=some d→∃ v,vs[i]?=some v∧Rep K H d v
  | [],_,_,_,_,e=>by cases e
  | d::ds,_,0,_,h,e=>by
    obtain ⟨v,r,rfl,hv,hr⟩:=h
    cases e
    exact ⟨v,rfl,hv⟩
  | d::ds,_,i+1,d',h,e=>by
    obtain ⟨v,r,rfl,hv,hr⟩:=h
    exact Reps.get (i:=i) hr (by simpa using e)
theorem Reps.at {ds:List D} {vs:List V} {i:Nat} {v:V} (h:Reps K H ds vs) (e:vs[i]?=some v):∃ d,ds[i]?=some d∧Rep K H d v:=by
  have l:=h.length
  have hi:i<ds.length:=by rw [← l]; exact (List.getElem?_eq_some_iff.mp e).1
  obtain ⟨v',e',r⟩:=h.get (List.getElem?_eq_getElem hi)
  rw [e] at e'
  cases e'
  exact ⟨_,List.getElem?_eq_getElem hi,r⟩
theorem Reps.append:∀ {ds es:List D} {vs us:List V},Reps K H ds vs→Reps K H es us→Reps K H (ds++es) (vs++us)
  | [],_,_,_,h,g=>by cases (show _=[] from h); exact g
  | d::ds,_,_,_,h,g=>by
    obtain ⟨v,r,rfl,hv,hr⟩:=h
    exact ⟨v,_,rfl,hv,Reps.append hr g⟩
theorem Reps.one {d:D} {v:V} (h:Rep K H d v):Reps K H [d] [v]:=⟨v,[],rfl,h,rfl⟩
theorem Reps.take:∀ {ds:List D} {vs:List V} (n:Nat),Reps K H ds vs→Reps K H (ds.take n) (vs.take n)
  | _,_,0,_=>by rw [List.take_zero,List.take_zero]; rfl
  | [],_,n+1,h=>by cases (show _=[] from h); rfl
  | d::ds,_,n+1,h=>by
    obtain ⟨v,r,rfl,hv,hr⟩:=h
    exact ⟨v,_,rfl,hv,Reps.take n hr⟩
theorem Reps.drop:∀ {ds:List D} {vs:List V} (n:Nat),Reps K H ds vs→Reps K H (ds.drop n) (vs.drop n)
  | _,_,0,h=>h
  | [],_,n+1,h=>by cases (show _=[] from h); rfl
  | d::ds,_,n+1,h=>by
    obtain ⟨v,r,rfl,hv,hr⟩:=h
    exact Reps.drop n hr
theorem Reps.ints:∀ {ns:List Int},Reps K H (ns.map D.int) (ns.map V.int)
  | []=>rfl
  | n::ns=>⟨_,_,rfl,rfl,Reps.ints⟩
end
structure Ext (G H G' H':Hp):Prop where
  g:Same G G'
  h:Same H H'
  gh:Same G' H'
  new:∀ p,G' p≠none→G p≠none∨H p=none
section
variable {G H G' H' G0 H0 G1 H1 G2 H2:Hp} {p:Addr} {o:HO}
theorem Ext.refl (s:Same G H):Ext G H G H:=⟨Same.refl _,Same.refl _,s,fun _ h=>.inl h⟩
theorem Ext.trans (a:Ext G H G1 H1) (b:Ext G1 H1 G2 H2):Ext G H G2 H2:=⟨a.g.trans b.g,a.h.trans b.h,b.gh,fun p h=>by
  rcases b.new p h with z | z
  · exact a.new p z
  · exact .inr (a.h.free z)⟩
theorem Ext.rebase (a:Ext G0 H0 G1 H1) (b:Ext G1 H0 G2 H2):Ext G0 H0 G2 H2:=⟨a.g.trans b.g,b.h,b.gh,fun p h=>by
  rcases b.new p h with z | z
  · exact a.new p z
  · exact .inr z⟩
theorem Ext.far (a:Ext G0 H0 G1 H1):Ext G1 H0 G1 H1:=⟨Same.refl _,a.h,a.gh,fun _ h=>.inl h⟩
theorem upd_some {H:Hp} {p q:Addr} {o:HO} (h:upd H p o q≠none):q=p∨H q≠none:=by
  by_cases e:q=p
  · exact .inl e
  · rw [upd_ne e] at h
    exact .inr h
theorem same_upd2 (s:Same G H):Same (upd G p o) (upd H p o):=fun b u e=>by
  by_cases hb:b=p
  · subst hb
    rw [upd_same] at e ⊢
    exact e
  · rw [upd_ne hb] at e ⊢
    exact s _ _ e
theorem Ext.lay (s:Same G H) (h:H p=none):Ext G H (upd G p o) (upd H p o):=⟨same_new (s.free h) o,same_new h o,same_upd2 s,fun q z=>by
  rcases upd_some z with e | e
  · exact .inr (e ▸ h)
  · exact .inl e⟩
theorem Ext.layO (s:Same G H) (h:H p=none):Ext G H G (upd H p o):=⟨Same.refl _,same_new h o,s.trans (same_new h o),fun _ z=>.inl z⟩
theorem Ext.frz (a:Ext G H G1 H1) (h:H p=none) (g:G1 p=none) (e:H1 p=some o):Ext G H (upd G1 p o) H1:=⟨a.g.trans (same_new g o),a.h,fun b u q=>by
  by_cases hb:b=p
  · subst hb
    rw [upd_same] at q
    cases q
    exact e
  · rw [upd_ne hb] at q
    exact a.gh _ _ q,fun q z=>by
  rcases upd_some z with w | w
  · exact .inr (w ▸ h)
  · exact a.new q w⟩
end
noncomputable def OwnAt (K:PySem.W.Frag) (G H:Hp) (d:D) (p:Addr):Prop:=match d with
  | .lst ds=>∃ vs,H p=some (.lst vs)∧Reps K G ds vs∧ds.length≤sizeLine
  | .dic ks ds=>∃ vs,H p=some (.dK (ks.zip vs))∧ks.length=vs.length∧Reps K G ds vs∧ds.length≤sizeLine
  | _=>False
section
variable {K:PySem.W.Frag} {G H G' H':Hp} {d:D} {p:Addr}
theorem OwnAt.some (h:OwnAt K G H d p):H p≠none:=by
  cases d with
  | lst ds=>obtain ⟨vs,e,_⟩:=h; rw [e]; exact fun z=>nomatch z
  | dic ks ds=>obtain ⟨vs,e,_⟩:=h; rw [e]; exact fun z=>nomatch z
  | _=>exact h.elim
theorem OwnAt.mono (g:Same G G') (h:Same H H') (o:OwnAt K G H d p):OwnAt K G' H' d p:=by
  cases d with
  | lst ds=>obtain ⟨vs,e,r,l⟩:=o; exact ⟨vs,h _ _ e,r.mono g,l⟩
  | dic ks ds=>obtain ⟨vs,e,z,r,l⟩:=o; exact ⟨vs,h _ _ e,z,r.mono g,l⟩
  | _=>exact o.elim
theorem OwnAt.rep (s:Same G H) (o:OwnAt K G H d p):Rep K H d (.ref p):=by
  cases d with
  | lst ds=>obtain ⟨vs,e,r,l⟩:=o; exact ⟨p,vs,rfl,SqL.of e,r.mono s,l⟩
  | dic ks ds=>obtain ⟨vs,e,z,r,l⟩:=o; exact ⟨p,vs,rfl,.inl e,z,r.mono s,l⟩
  | _=>exact o.elim
theorem OwnAt.frz (o:OwnAt K G H d p) (g:G p=none):∃ u,H p=Option.some u∧Rep K (upd G p u) d (.ref p):=by
  cases d with
  | lst ds=>obtain ⟨vs,e,r,l⟩:=o; exact ⟨_,e,p,vs,rfl,SqL.of upd_same,r.mono (same_new g _),l⟩
  | dic ks ds=>obtain ⟨vs,e,z,r,l⟩:=o; exact ⟨_,e,p,vs,rfl,.inl upd_same,z,r.mono (same_new g _),l⟩
  | _=>exact o.elim
end
structure EnvOk (K:PySem.W.Frag) (n:Nat) (G0 H0 G H:Hp) (τ:SEnv) (σ:St):Prop where
  ext:Ext G0 H0 G H
  l1:σ.length=n
  l2:τ.length=n
  fr:∀ (i:Nat) (d:D),τ[i]?=some (some (false,d))→∃ v,σ[i]?=some (some v)∧Rep K G d v
  ow:∀ (i:Nat) (d:D),τ[i]?=some (some (true,d))→∃ p,σ[i]?=some (some (V.ref p))∧G p=none∧H0 p=none∧OwnAt K G H d p
  ap:∀ (i j:Nat) (d e:D) (p:Addr),i≠j→τ[i]?=some (some (true,d))→τ[j]?=some (some (true,e))→σ[i]?=some (some (V.ref p))→σ[j]?=some (some (V.ref p))→False
section
variable {K:PySem.W.Frag} {n:Nat} {G0 H0 G H G' H':Hp} {τ:SEnv} {σ:St}
theorem EnvOk.go (E:EnvOk K n G0 H0 G H τ σ) (x:Ext G H G' H'):EnvOk K n G0 H0 G' H' τ σ:=⟨E.ext.trans x,E.l1,E.l2,fun i d h=>by
  obtain ⟨v,e,r⟩:=E.fr i d h
  exact ⟨v,e,r.mono x.g⟩,fun i d h=>by
  obtain ⟨p,e,g,z,o⟩:=E.ow i d h
  refine ⟨p,e,?_,z,o.mono x.g x.h⟩
  cases q:G' p with
  | none=>rfl
  | some u=>
    rcases x.new p (by rw [q]; exact fun z=>nomatch z) with w | w
    · exact absurd g w
    · exact absurd w o.some,E.ap⟩
theorem EnvOk.far (E:EnvOk K n G0 H0 G H τ σ):EnvOk K n G H0 G H τ σ:=⟨E.ext.far,E.l1,E.l2,E.fr,E.ow,E.ap⟩
theorem EnvOk.near {Ga Ha:Hp} (a:Ext G0 H0 Ga Ha) (E:EnvOk K n Ga H0 G H τ σ):EnvOk K n G0 H0 G H τ σ:=⟨a.rebase E.ext,E.l1,E.l2,E.fr,E.ow,E.ap⟩
theorem EnvOk.lt {i:Nat} {s:Option Sl} (E:EnvOk K n G0 H0 G H τ σ) (h:τ[i]?=some s):i<n:=by
  rw [← E.l2]
  exact (List.getElem?_eq_some_iff.mp h).1
theorem set_get {α:Type} {xs:List α} {i j:Nat} {x y:α} (h:(xs.set i x)[j]?=some y):(j=i∧y=x)∨(j≠i∧xs[j]?=some y):=by
  rw [List.getElem?_set] at h
  by_cases e:i=j
  · subst e
    rw [if_pos rfl] at h
    split at h
    · cases h; exact .inl ⟨rfl,rfl⟩
    · cases h
  · rw [if_neg e] at h
    exact .inr ⟨fun z=>e z.symm,h⟩
theorem get_set_same {α:Type} {xs:List α} {i:Nat} {x:α} (h:i<xs.length):(xs.set i x)[i]?=some x:=by rw [List.getElem?_set,if_pos rfl,if_pos h]
theorem get_set_ne {α:Type} {xs:List α} {i j:Nat} {x:α} (h:j≠i):(xs.set i x)[j]?=xs[j]?:=by rw [List.getElem?_set,if_neg (fun z=>h z.symm)]
theorem EnvOk.set {i:Nat} {d:D} {v:V} (E:EnvOk K n G0 H0 G H τ σ) (hi:i<n) (r:Rep K G d v):EnvOk K n G0 H0 G H (τ.set i (some (false,d))) (σ.set i (some v)):=⟨E.ext,by rw [List.length_set]; exact E.l1,by rw [List.length_set]; exact E.l2,fun j e h=>by
  rcases set_get h with ⟨rfl,z⟩ | ⟨ne,z⟩
  · cases z
    exact ⟨v,get_set_same (by rw [E.l1]; exact hi),r⟩
  · rw [get_set_ne ne]
    exact E.fr j e z,fun j e h=>by
  rcases set_get h with ⟨rfl,z⟩ | ⟨ne,z⟩
  · cases z
  · rw [get_set_ne ne]
    exact E.ow j e z,fun j k e f p hne h1 h2=>by
  rcases set_get h1 with ⟨rfl,z⟩ | ⟨ne,z⟩
  · cases z
  · rcases set_get h2 with ⟨rfl,z'⟩ | ⟨ne',z'⟩
    · cases z'
    · rw [get_set_ne ne,get_set_ne ne']
      exact E.ap j k e f p hne z z'⟩
theorem EnvOk.setO {i:Nat} {d:D} {p:Addr} (E:EnvOk K n G0 H0 G H τ σ) (hi:i<n) (hg:G p=none) (h0:H0 p=none) (o:OwnAt K G H d p) (hn:∀ (j:Nat) (e:D),j≠i→τ[j]?=some (some (true,e))→σ[j]?=some (some (V.ref p))→False) :
    EnvOk K n G0 H0 G H (τ.set i (some (true,d))) (σ.set i (some (.ref p))):=⟨E.ext,by rw [List.length_set]; exact E.l1,by rw [List.length_set]; exact E.l2,fun j e h=>by
  rcases set_get h with ⟨rfl,z⟩ | ⟨ne,z⟩
  · cases z
  · rw [get_set_ne ne]
    exact E.fr j e z,fun j e h=>by
  rcases set_get h with ⟨rfl,z⟩ | ⟨ne,z⟩
  · cases z
    exact ⟨p,get_set_same (by rw [E.l1]; exact hi),hg,h0,o⟩
  · rw [get_set_ne ne]
    exact E.ow j e z,fun j k e f q hne h1 h2 h3 h4=>by
  rcases set_get h1 with ⟨rfl,z⟩ | ⟨ne,z⟩
  · rcases set_get h2 with ⟨rfl,z'⟩ | ⟨ne',z'⟩
    · exact hne rfl
    · rw [get_set_same (by rw [E.l1]; exact hi)] at h3
      rw [get_set_ne ne'] at h4
      cases h3
      exact hn k f ne' z' h4
  · rcases set_get h2 with ⟨rfl,z'⟩ | ⟨ne',z'⟩
    · rw [get_set_same (by rw [E.l1]; exact hi)] at h4
      rw [get_set_ne ne] at h3
      cases h4
      exact hn j e ne z h3
    · rw [get_set_ne ne] at h3
      rw [get_set_ne ne'] at h4
      exact E.ap j k e f q hne z z' h3 h4⟩
theorem EnvOk.newO {i:Nat} {p:Addr} (E:EnvOk K n G0 H0 G H τ σ) (hp:H p=none):∀ (j:Nat) (e:D),j≠i→τ[j]?=some (some (true,e))→σ[j]?=some (some (V.ref p))→False:=fun j e _ h1 h2=>by
  obtain ⟨q,e1,_,_,o⟩:=E.ow j e h1
  rw [h2] at e1
  cases e1
  exact o.some hp
theorem EnvOk.freeze {i:Nat} {b:Bool} {d:D} (E:EnvOk K n G0 H0 G H τ σ) (hi:τ[i]?=some (some (b,d))):∃ G',EnvOk K n G0 H0 G' H (τ.set i (some (false,d))) σ∧Same G G':=by
  have hin:=E.lt hi
  cases b with
  | false=>
    refine ⟨G,?_,Same.refl _⟩
    have e:τ.set i (some (false,d))=τ:=by
      apply List.ext_getElem?
      intro j
      by_cases hj:j=i
      · subst hj; rw [get_set_same (by rw [E.l2]; exact hin),hi]
      · rw [get_set_ne hj]
    rw [e]
    exact E
  | true=>
    obtain ⟨p,e,g,z,o⟩:=E.ow i d hi
    obtain ⟨u,hu,r⟩:=o.frz g
    have x:Ext G0 H0 (upd G p u) H:=E.ext.frz z g hu
    refine ⟨upd G p u,⟨x,E.l1,by rw [List.length_set]; exact E.l2,fun j d' h=>?_,fun j d' h=>?_,fun j k e1 f q hne h1 h2=>?_⟩,same_new g _⟩
    · rcases set_get h with ⟨rfl,w⟩ | ⟨ne,w⟩
      · cases w
        exact ⟨_,e,r⟩
      · obtain ⟨v,e',r'⟩:=E.fr j d' w
        exact ⟨v,e',r'.mono (same_new g _)⟩
    · rcases set_get h with ⟨rfl,w⟩ | ⟨ne,w⟩
      · cases w
      · obtain ⟨q,e',g',z',o'⟩:=E.ow j d' w
        refine ⟨q,e',?_,z',o'.mono (same_new g _) (Same.refl _)⟩
        rw [upd_ne (fun c=>?_)]
        · exact g'
        · subst c
          exact E.ap i j d d' q (fun c=>ne c.symm) hi w e e'
    · rcases set_get h1 with ⟨rfl,w⟩ | ⟨ne,w⟩
      · cases w
      · rcases set_get h2 with ⟨rfl,w'⟩ | ⟨ne',w'⟩
        · cases w'
        · exact E.ap j k e1 f q hne w w'
end
section
variable (X:Cx)
structure SE (e:Expr) (f:FE):Prop where
  h:∃ t,PE X e t∧∀ {G0 H0 G H:Hp} {τ:SEnv} {σ:St} {d:D} {Q:VK},EnvOk X.K X.N.length G0 H0 G H τ σ→f τ=some d→(∀ v G' H',Ext G H G' H'→Rep X.K G' d v→Q v H')→t σ H Q
structure SB (e:Expr) (f:FE):Prop where
  h:∃ t,PE X e t∧∀ {G0 H0 G H:Hp} {τ:SEnv} {σ:St} {d:D} {Q:VK},EnvOk X.K X.N.length G0 H0 G H τ σ→f τ=some d→(∀ v G' H',Ext G H G' H'→Rep X.K H' d v→Q v H')→t σ H Q
structure SF (e:Expr) (f:FE):Prop where
  h:∃ t,PE X e t∧∀ {G0 H0 G H:Hp} {τ:SEnv} {σ:St} {d:D} {Q:VK},EnvOk X.K X.N.length G0 H0 G H τ σ→f τ=some d→(∀ p G' H',Ext G H G' H'→H p=none→G' p=none→OwnAt X.K G' H' d p→Q (.ref p) H')→t σ H Q
structure ST (e:Expr) (f:FT):Prop where
  h:∃ t,PT X e t∧∀ {G0 H0 G H:Hp} {τ:SEnv} {σ:St} {d:Bool} {Q:Bool→Hp→Prop},EnvOk X.K X.N.length G0 H0 G H τ σ→f τ=some d→(∀ G' H',Ext G H G' H'→Q d H')→t σ H Q
structure SW (e:Expr) (f:FT):Prop where
  h:∃ t,PW X e t∧∀ {G0 H0 G H:Hp} {τ:SEnv} {σ:St} {d:Bool} {Q:Bool→Hp→Prop},EnvOk X.K X.N.length G0 H0 G H τ σ→f τ=some d→(∀ G' H',Ext G H G' H'→Q d H')→t σ H Q
structure SA (es:List Expr) (f:FA):Prop where
  h:∃ t,PA X es t∧∀ {G0 H0 G H:Hp} {τ:SEnv} {σ:St} {ds:List D} {Q:List V→Hp→Prop},EnvOk X.K X.N.length G0 H0 G H τ σ→f τ=some ds→(∀ vs G' H',Ext G H G' H'→Reps X.K G' ds vs→Q vs H')→t σ H Q
structure SAB (es:List Expr) (f:FA):Prop where
  h:∃ t,PA X es t∧∀ {G0 H0 G H:Hp} {τ:SEnv} {σ:St} {ds:List D} {Q:List V→Hp→Prop},EnvOk X.K X.N.length G0 H0 G H τ σ→f τ=some ds→(∀ vs G' H',Ext G H G' H'→Reps X.K H' ds vs→Q vs H')→t σ H Q
end
noncomputable def FlOk (K:PySem.W.Frag) (n:Nat) (G0 H0:Hp) (E:Ends):Fl→Prop
  | .nx τ=>∀ σ G H,EnvOk K n G0 H0 G H τ σ→E.nx σ H
  | .bk τ=>∀ σ G H,EnvOk K n G0 H0 G H τ σ→E.bk σ H
  | .ct τ=>∀ σ G H,EnvOk K n G0 H0 G H τ σ→E.ct σ H
  | .rt false d=>∀ v G H,Ext G0 H0 G H→Rep K G d v→E.rt v H
  | .rt true d=>∀ p G H,Ext G0 H0 G H→H0 p=none→G p=none→OwnAt K G H d p→E.rt (.ref p) H
section
variable (X:Cx)
structure SS (st:Stmt) (f:FS):Prop where
  h:∃ t,PS X st t∧∀ {G0 H0 G H:Hp} {τ:SEnv} {σ:St} {fl:Fl} {E:Ends},EnvOk X.K X.N.length G0 H0 G H τ σ→f τ=some fl→FlOk X.K X.N.length G0 H0 E fl→t E σ H
structure SSs (st:List Stmt) (f:FS):Prop where
  h:∃ t,PSs X st t∧∀ {G0 H0 G H:Hp} {τ:SEnv} {σ:St} {fl:Fl} {E:Ends},EnvOk X.K X.N.length G0 H0 G H τ σ→f τ=some fl→FlOk X.K X.N.length G0 H0 E fl→t E σ H
end
structure Walk (K:PySem.W.Frag) (J:It) (G:Hp) (ds:List D):Prop where
  go:∀ i G2 H,Same G G2→Same G2 H→i<ds.length→J.go i H
  yld:∀ i G2 H x H',Same G G2→Same G2 H→i<ds.length→J.yld i H x H'→∃ G3 d,Ext G2 H G3 H'∧ds[i]?=some d∧Rep K G3 d x
  stop:∀ i G2 H,Same G G2→Same G2 H→ds.length≤i→J.stop i H
structure SI (X:Cx) (tg iter:Expr) (f:FA):Prop where
  h:∃ wi,PI X tg iter wi∧∀ {G0 H0 G H:Hp} {τ:SEnv} {σ:St} {ds:List D} {R:It→Hp→Prop},EnvOk X.K X.N.length G0 H0 G H τ σ→f τ=some ds→(∀ J G' H',Ext G H G' H'→ds.length≤sizeLine→Walk X.K J G' ds→R J H')→wi σ H R
noncomputable def spF (K:PySem.W.Frag) (F:List D→Option (Bool×D)):Sp:=fun vs H Q _=>∃ G ds o d,Same G H∧Reps K G ds vs∧F ds=some (o,d)∧
  match o with
  | false=>∀ v G' H',Ext G H G' H'→Rep K G' d v→Q v H'
  | true=>∀ p G' H',Ext G H G' H'→H p=none→G' p=none→OwnAt K G' H' d p→Q (.ref p) H'
end L3
namespace L3
open PySem PySem.Spec PyProof.Rows L2
theorem bindE {α β:Type} {o:Option α} {f:α→Option β} {b:β} (h:o.bind f=some b):∃ a,o=some a∧f a=some b:=by
  cases o with
  | none=>cases h
  | some a=>exact ⟨a,rfl,h⟩
theorem eVar_at {i:Nat} {τ:SEnv} {d:D} (h:eVar i τ=some d):τ[i]?=some (some (false,d)):=by
  unfold eVar at h
  split at h
  · rename_i e
    cases h
    exact e
  · cases h
theorem eAny_at {i:Nat} {τ:SEnv} {d:D} (h:eAny i τ=some d):∃ b,τ[i]?=some (some (b,d)):=by
  unfold eAny at h
  split at h
  · rename_i b d' e
    cases h
    exact ⟨_,e⟩
  · cases h
section
variable {X:Cx} {x:Str} {p pos apos cpos p2:Pos} {e a b c o:Expr} {es rest:List Expr} {f fa fb fc:FE} {ft fu:FT} {fs:FA} {F:D→D→Option D} {r:R2}
theorem SE.sb (h:SE X e f):SB X e f:=⟨let ⟨t,p,k⟩:=h.h; ⟨t,p,fun E hf q=>k E hf fun v G' H' x r=>q v G' H' x (r.mono x.gh)⟩⟩
theorem SF.se (h:SF X e f):SE X e f:=⟨let ⟨t,p,k⟩:=h.h; ⟨t,p,fun E hf q=>k E hf fun p G' H' x hp gp o=>by
  obtain ⟨u,hu,r⟩:=o.frz gp
  exact q _ _ _ (x.frz hp gp hu) r⟩⟩
theorem sb_of (h:SE X e f):SB X e f:=h.sb
theorem se_of (h:SF X e f):SE X e f:=h.se
theorem se_var (i:Nat) {x:Str} {pos:Pos} (hN:X.N[i]?=some x:=by rfl) (hv:Vis X.env.scope x:=by first | exact Or.inl rfl | exact Or.inr (Or.inl rfl) | exact Or.inr (Or.inr rfl)) (hd:(x == ("__debug__" : Str))=false:=by decide)
    (hcd:(x == ("__classdict__" : Str))=false:=by decide):SE X (.Name x pos) (eVar i):=⟨⟨_,pe_var hN hv hd hcd,fun E hf q=>by
  obtain ⟨v,e,r⟩:=E.fr _ _ (eVar_at hf)
  exact ⟨v,e,q v _ _ (Ext.refl E.ext.gh) r⟩⟩⟩
theorem sb_var (i:Nat) {x:Str} {pos:Pos} (hN:X.N[i]?=some x:=by rfl) (hv:Vis X.env.scope x:=by first | exact Or.inl rfl | exact Or.inr (Or.inl rfl) | exact Or.inr (Or.inr rfl)) (hd:(x == ("__debug__" : Str))=false:=by decide)
    (hcd:(x == ("__classdict__" : Str))=false:=by decide):SB X (.Name x pos) (eAny i):=⟨⟨_,pe_var hN hv hd hcd,fun E hf q=>by
  obtain ⟨b,hb⟩:=eAny_at hf
  cases b with
  | false=>
    obtain ⟨v,e,r⟩:=E.fr _ _ hb
    exact ⟨v,e,q v _ _ (Ext.refl E.ext.gh) (r.mono E.ext.gh)⟩
  | true=>
    obtain ⟨p,e,_,_,o⟩:=E.ow _ _ hb
    exact ⟨_,e,q _ _ _ (Ext.refl E.ext.gh) (o.rep E.ext.gh)⟩⟩⟩
theorem se_c {v:V} {d:D} (h:PE X e (tC v)) (r:∀ H,Rep X.K H d v):SE X e (eC d):=⟨⟨_,h,fun E hf q=>by
  cases hf
  exact q v _ _ (Ext.refl E.ext.gh) (r _)⟩⟩
theorem se_int {i k pos}:SE X (.Constant (.int i) k pos) (eC (.int i)):=se_c pe_int fun _=>rfl
theorem se_bl {i k pos}:SE X (.Constant (.bool i) k pos) (eC (.bl i)):=se_c pe_bl fun _=>rfl
theorem se_non {k pos}:SE X (.Constant .none k pos) (eC .non):=se_c pe_non fun _=>rfl
theorem se_str {x k pos} (h:x.length≤1000:=by decide):SE X (.Constant (.str x) k pos) (eC (.str x)):=se_c pe_str fun _=>⟨rfl,small h⟩
noncomputable def Ok2 (K:PySem.W.Frag) (r:R2) (F:D→D→Option D):Prop:=∀ G H x y u v d (Q:VK),Same G H→Rep K G x u→Rep K G y v→F x y=some d→(∀ w G' H',Ext G H G' H'→Rep K G' d w→Q w H')→r u v H Q
noncomputable def Ok2B (K:PySem.W.Frag) (r:R2) (F:D→D→Option D):Prop:=∀ H x y u v d (Q:VK),Rep K H x u→Rep K H y v→F x y=some d→∃ k,d=.bl k∧(Q (.bl k) H→r u v H Q)
theorem se_bin {op:Operator} (ho:OpR X (binaryOp op) r) (hF:Ok2 X.K r F) (ha:SE X a fa) (hb:SE X b fb):SE X (.BinOp a op b pos) (e2 F fa fb):=by
  obtain ⟨ta,pa,ka⟩:=ha.h
  obtain ⟨tb,pb,kb⟩:=hb.h
  refine ⟨⟨_,pe_op ho pa pb,fun E hf q=>?_⟩⟩
  obtain ⟨x,hx,hf⟩:=bindE hf
  obtain ⟨y,hy,hf⟩:=bindE hf
  refine ka E hx fun v G1 H1 x1 r1=>?_
  refine kb (E.go x1) hy fun u G2 H2 x2 r2=>?_
  exact hF G2 H2 x y v u _ _ x2.gh (r1.mono x2.g) r2 hf fun w G' H' x3 r3=>q w G' H' (x1.trans (x2.trans x3)) r3
theorem se_ix (hr:IxR X r) (hF:Ok2 X.K r F) (ha:SE X a fa) (hb:SE X b fb) (hs:plainIx b=true:=by rfl):SE X (.Subscript a b pos) (e2 F fa fb):=by
  obtain ⟨ta,pa,ka⟩:=ha.h
  obtain ⟨tb,pb,kb⟩:=hb.h
  refine ⟨⟨_,pe_ix hr pa pb (plain_ix hs),fun E hf q=>?_⟩⟩
  obtain ⟨x,hx,hf⟩:=bindE hf
  obtain ⟨y,hy,hf⟩:=bindE hf
  refine ka E hx fun v G1 H1 x1 r1=>?_
  refine kb (E.go x1) hy fun u G2 H2 x2 r2=>?_
  exact hF G2 H2 x y v u _ _ x2.gh (r1.mono x2.g) r2 hf fun w G' H' x3 r3=>q w G' H' (x1.trans (x2.trans x3)) r3
theorem se_cmp {op:CmpOp} (ho:OpR X (compareOp op) r) (hF:Ok2B X.K r F) (ha:SB X a fa) (hb:SB X b fb) (hm:behindInMarks op b=false):SE X (.Compare a [op] [b] pos) (e2 F fa fb):=by
  obtain ⟨ta,pa,ka⟩:=ha.h
  obtain ⟨tb,pb,kb⟩:=hb.h
  refine ⟨⟨_,pe_cmpR ho pa pb hm,fun E hf q=>?_⟩⟩
  obtain ⟨x,hx,hf⟩:=bindE hf
  obtain ⟨y,hy,hf⟩:=bindE hf
  refine ka E hx fun v G1 H1 x1 r1=>?_
  refine kb (E.go x1) hy fun u G2 H2 x2 r2=>?_
  obtain ⟨k,rfl,z⟩:=hF H2 x y v u _ _ (r1.mono x2.h) r2 hf
  exact z (q _ _ _ (x1.trans x2) rfl)
theorem st_cmp {op:CmpOp} (ho:OpR X (compareOp op) r) (hF:Ok2B X.K r F) (ha:SB X a fa) (hb:SB X b fb) (hm:behindInMarks op b=false):ST X (.Compare a [op] [b] pos) (tE (e2 F fa fb)):=by
  obtain ⟨ta,pa,ka⟩:=ha.h
  obtain ⟨tb,pb,kb⟩:=hb.h
  refine ⟨⟨_,pt_cmpR ho pa pb hm,fun E hf q=>?_⟩⟩
  obtain ⟨z,hz,hf⟩:=bindE hf
  obtain ⟨x,hx,hz⟩:=bindE hz
  obtain ⟨y,hy,hz⟩:=bindE hz
  refine ka E hx fun v G1 H1 x1 r1=>?_
  refine kb (E.go x1) hy fun u G2 H2 x2 r2=>?_
  obtain ⟨k,rfl,z⟩:=hF H2 x y v u _ _ (r1.mono x2.h) r2 hz
  cases hf
  exact z ⟨_,rfl,q _ _ (x1.trans x2)⟩
theorem st_val (h:SE X e f) (he:plainTest e=true:=by rfl):ST X e (tE f):=by
  obtain ⟨t,p,k⟩:=h.h
  refine ⟨⟨_,pt_val p (plain_test he),fun E hf q=>?_⟩⟩
  obtain ⟨z,hz,hf⟩:=bindE hf
  refine k E hz fun v G' H' x r=>?_
  cases z<;>first | cases hf | skip
  cases r
  exact ⟨_,rfl,q _ _ x⟩
theorem sw_and1 (h:ST X a ft):SW X (.BoolOp .And [a] pos) ft:=⟨let ⟨t,p,k⟩:=h.h; ⟨t,pw_and1 p,k⟩⟩
theorem sw_or1 (h:ST X a ft):SW X (.BoolOp .Or [a] pos) ft:=⟨let ⟨t,p,k⟩:=h.h; ⟨t,pw_or1 p,k⟩⟩
theorem sw_and (ha:ST X a ft) (hb:SW X (.BoolOp .And (b::rest) pos) fu):SW X (.BoolOp .And (a::b::rest) pos) (tAndF ft fu):=by
  obtain ⟨ta,pa,ka⟩:=ha.h
  obtain ⟨tb,pb,kb⟩:=hb.h
  refine ⟨⟨_,pw_and pa pb,fun E hf q=>?_⟩⟩
  obtain ⟨k,hk,hf⟩:=bindE hf
  refine ka E hk fun G1 H1 x1=>?_
  cases k with
  | true=>exact iteT (kb (E.go x1) hf fun G' H' x2=>q _ _ (x1.trans x2))
  | false=>cases hf; exact iteF (q _ _ x1)
theorem sw_or (ha:ST X a ft) (hb:SW X (.BoolOp .Or (b::rest) pos) fu):SW X (.BoolOp .Or (a::b::rest) pos) (tOrF ft fu):=by
  obtain ⟨ta,pa,ka⟩:=ha.h
  obtain ⟨tb,pb,kb⟩:=hb.h
  refine ⟨⟨_,pw_or pa pb,fun E hf q=>?_⟩⟩
  obtain ⟨k,hk,hf⟩:=bindE hf
  refine ka E hk fun G1 H1 x1=>?_
  cases k with
  | false=>exact iteF (kb (E.go x1) hf fun G' H' x2=>q _ _ (x1.trans x2))
  | true=>cases hf; exact iteT (q _ _ x1)
theorem sw_t (h:SW X e ft):ST X e ft:=⟨let ⟨t,p,k⟩:=h.h; ⟨t,p.pt,k⟩⟩
theorem st_not (h:ST X a ft):ST X (.UnaryOp .Not a pos) (tNotF ft):=by
  obtain ⟨ta,pa,ka⟩:=h.h
  refine ⟨⟨_,pt_not pa,fun E hf q=>?_⟩⟩
  obtain ⟨k,hk,hf⟩:=bindE hf
  cases hf
  exact ka E hk fun G1 H1 x1=>q _ _ x1
theorem se_one {op} (h:SE X a f):SE X (.BoolOp op [a] pos) f:=⟨let ⟨t,p,k⟩:=h.h; ⟨t,pe_one p,k⟩⟩
theorem rep_bl {K:PySem.W.Frag} {G:Hp} {z:D} {v:V} {k:Bool} (r:Rep K G z v) (h:asB z=some k):v=.bl k:=by
  cases z<;>first | cases h | skip
  exact r
theorem se_and (ha:SE X a fa) (hb:SE X (.BoolOp .And (b::rest) pos) fb):SE X (.BoolOp .And (a::b::rest) pos) (eAnd fa fb):=by
  obtain ⟨ta,pa,ka⟩:=ha.h
  obtain ⟨tb,pb,kb⟩:=hb.h
  refine ⟨⟨_,pe_and pa pb,fun E hf q=>?_⟩⟩
  obtain ⟨z,hz,hf⟩:=bindE hf
  obtain ⟨k,hk,hf⟩:=bindE hf
  refine ka E hz fun v G1 H1 x1 r1=>⟨k,rep_bl r1 hk,?_⟩
  cases k with
  | true=>exact iteT (kb (E.go x1) hf fun v G' H' x2 r2=>q v _ _ (x1.trans x2) r2)
  | false=>cases hf; exact iteF (q _ _ _ x1 rfl)
theorem se_not (ha:SE X a fa):SE X (.UnaryOp .Not a pos) (eNot fa):=by
  obtain ⟨ta,pa,ka⟩:=ha.h
  refine ⟨⟨_,pe_not pa,fun E hf q=>?_⟩⟩
  obtain ⟨z,hz,hf⟩:=bindE hf
  obtain ⟨k,hk,hf⟩:=bindE hf
  cases hf
  exact ka E hz fun v G1 H1 x1 r1=>⟨k,rep_bl r1 hk,q _ _ _ x1 rfl⟩
theorem sa_nil:SA X [] aNil:=⟨⟨_,pa_nil,fun E hf q=>by cases hf; exact q _ _ _ (Ext.refl E.ext.gh) rfl⟩⟩
theorem sa_cons (ha:SE X e f) (hr:SA X es fs) (h:noStar e=true:=by rfl):SA X (e::es) (aCons f fs):=by
  obtain ⟨ta,pa,ka⟩:=ha.h
  obtain ⟨tb,pb,kb⟩:=hr.h
  refine ⟨⟨_,pac pa pb h,fun E hf q=>?_⟩⟩
  obtain ⟨x,hx,hf⟩:=bindE hf
  obtain ⟨xs,hxs,hf⟩:=bindE hf
  cases hf
  refine ka E hx fun v G1 H1 x1 r1=>kb (E.go x1) hxs fun vs G2 H2 x2 r2=>?_
  exact q _ _ _ (x1.trans x2) ⟨v,vs,rfl,r1.mono x2.g,r2⟩
theorem sab_nil:SAB X [] aNil:=⟨⟨_,pa_nil,fun E hf q=>by cases hf; exact q _ _ _ (Ext.refl E.ext.gh) rfl⟩⟩
theorem sab_cons (ha:SB X e f) (hr:SAB X es fs) (h:noStar e=true:=by rfl):SAB X (e::es) (aCons f fs):=by
  obtain ⟨ta,pa,ka⟩:=ha.h
  obtain ⟨tb,pb,kb⟩:=hr.h
  refine ⟨⟨_,pac pa pb h,fun E hf q=>?_⟩⟩
  obtain ⟨x,hx,hf⟩:=bindE hf
  obtain ⟨xs,hxs,hf⟩:=bindE hf
  cases hf
  refine ka E hx fun v G1 H1 x1 r1=>kb (E.go x1) hxs fun vs G2 H2 x2 r2=>?_
  exact q _ _ _ (x1.trans x2) ⟨v,vs,rfl,r1.mono x2.h,r2⟩
theorem sa_ints {is:List Int} (h:intsOf es=some is):SA X es (fun _=>some (is.map D.int)):=⟨⟨_,pa_ints h,fun E hf q=>by cases hf; exact q _ _ _ (Ext.refl E.ext.gh) Reps.ints⟩⟩
theorem se_tup {x1} (h:SA X es fs) (hl:∀ τ ds,fs τ=some ds→ds.length≤1000):SE X (.Tuple es x1 pos) (eTup fs):=by
  obtain ⟨t,pt,k⟩:=h.h
  refine ⟨⟨_,pe_tup pt,fun E hf q=>?_⟩⟩
  obtain ⟨xs,hx,hf⟩:=bindE hf
  cases hf
  have l:xs.length≤sizeLine:=small (hl _ _ hx)
  refine k E hx fun vs G1 H1 x1 r1=>⟨by rw [r1.length]; exact l,fun p hp=>?_⟩
  exact q _ _ _ (x1.trans (Ext.lay x1.gh hp)) ⟨p,vs,rfl,SqT.of upd_same,r1.mono (same_new (x1.gh.free hp) _),l⟩
theorem sf_lst (h:SA X es fs) (hl:∀ τ ds,fs τ=some ds→ds.length≤1000):SF X (.List es pos) (eLst fs):=by
  obtain ⟨t,pt,k⟩:=h.h
  refine ⟨⟨_,pe_lst pt,fun E hf q=>?_⟩⟩
  obtain ⟨xs,hx,hf⟩:=bindE hf
  cases hf
  have l:xs.length≤sizeLine:=small (hl _ _ hx)
  refine k E hx fun vs G1 H1 x1 r1=>⟨by rw [r1.length]; exact l,fun p hp=>?_⟩
  exact q _ _ _ (x1.trans (Ext.layO x1.gh hp)) (x1.h.free hp) (x1.gh.free hp) ⟨vs,upd_same,r1,l⟩
theorem al_nil:∀ (τ:SEnv) ds,aNil τ=some ds→ds.length≤0:=fun _ _ h=>by cases h; exact Nat.le_refl _
theorem al_cons {n:Nat} (h:∀ τ ds,fs τ=some ds→ds.length≤n):∀ τ ds,aCons f fs τ=some ds→ds.length≤n+1:=fun τ ds e=>by
  obtain ⟨x,_,e⟩:=bindE e
  obtain ⟨xs,hx,e⟩:=bindE e
  cases e
  exact Nat.succ_le_succ (h _ _ hx)
theorem al_ints {is:List Int} {n:Nat} (h:is.length≤n):∀ (τ:SEnv) ds,(some (is.map D.int))=some ds→ds.length≤n:=fun _ _ e=>by
  cases e
  rw [List.length_map]
  exact h
theorem al_le {m n:Nat} (h:∀ τ ds,fs τ=some ds→ds.length≤m) (hmn:m≤n):∀ τ ds,fs τ=some ds→ds.length≤n:=fun τ ds e=>Nat.le_trans (h τ ds e) hmn
variable {ps:List Str} {j k:Nat} {FF:List D→Option (Bool×D)} {FL:List D→Option D} {id T:String}
theorem sf_call (h:Has X.prog X.w X.K X.mg X.base x ps k (spF X.K FF)) (hr:Room j X.A) (hg:Gl X x) (ha:SA X (e::es) fs) (hk:k≤j:=by decide) (hdb:(x == ("__debug__" : Str))=false:=by decide)
    (he:(e::es).all noStar=true:=by rfl):SF X (.Call (.Name x p) (e::es) [] pos) (eCallO FF fs):=by
  obtain ⟨t,pt,kt⟩:=ha.h
  refine ⟨⟨_,pe_own h hr hg pt hk hdb he,fun E hf q=>?_⟩⟩
  obtain ⟨ds,hd,hf⟩:=bindE hf
  obtain ⟨⟨o,d⟩,hr,hf⟩:=bindE hf
  cases o with
  | false=>cases hf
  | true=>
    cases hf
    refine kt E hd fun vs G1 H1 x1 r1=>⟨G1,ds,true,_,x1.gh,by rw [List.append_nil]; exact r1,hr,fun p G' H' x2 hp gp o=>?_⟩
    exact q p G' H' (x1.trans x2) (x1.h.free hp) gp o
theorem se_call (h:Has X.prog X.w X.K X.mg X.base x ps k (spF X.K FF)) (hr:Room j X.A) (hg:Gl X x) (ha:SA X (e::es) fs) (hk:k≤j:=by decide) (hdb:(x == ("__debug__" : Str))=false:=by decide)
    (he:(e::es).all noStar=true:=by rfl):SE X (.Call (.Name x p) (e::es) [] pos) (eCall FF fs):=by
  obtain ⟨t,pt,kt⟩:=ha.h
  refine ⟨⟨_,pe_own h hr hg pt hk hdb he,fun E hf q=>?_⟩⟩
  obtain ⟨ds,hd,hf⟩:=bindE hf
  obtain ⟨⟨o,d⟩,hr,hf⟩:=bindE hf
  cases hf
  refine kt E hd fun vs G1 H1 x1 r1=>⟨G1,ds,o,d,x1.gh,by rw [List.append_nil]; exact r1,hr,?_⟩
  cases o with
  | false=>exact fun v G' H' x2 r=>q v G' H' (x1.trans x2) r
  | true=>
    intro p G' H' x2 hp gp o
    obtain ⟨u,hu,r⟩:=o.frz gp
    exact q _ _ _ (x1.trans (x2.frz hp gp hu)) r
theorem se_callB (h:Has X.prog X.w X.K X.mg X.base x ps k (spF X.K FF)) (hr:Room j X.A) (hg:Gl X x) (ha:SAB X (e::es) fs) (hk:k≤j:=by decide) (hdb:(x == ("__debug__" : Str))=false:=by decide)
    (he:(e::es).all noStar=true:=by rfl):SE X (.Call (.Name x p) (e::es) [] pos) (eCallB FF fs):=by
  obtain ⟨t,pt,kt⟩:=ha.h
  refine ⟨⟨_,pe_own h hr hg pt hk hdb he,fun E hf q=>?_⟩⟩
  obtain ⟨d0,h0,hf⟩:=bindE hf
  obtain ⟨ds,hd,h0⟩:=bindE h0
  obtain ⟨⟨o,d⟩,hr,h0⟩:=bindE h0
  cases h0
  by_cases fl:flatD d=true
  · rw [if_pos fl] at hf
    cases hf
    refine kt E hd fun vs G1 H1 x1 r1=>⟨H1,ds,o,d,Same.refl _,by rw [List.append_nil]; exact r1,hr,?_⟩
    have flat:∀ {G G':Hp} {v:V},Rep X.K G d v→Rep X.K G' d v:=fun {G G' v} r=>by
      cases d<;>first | exact r | exact absurd fl Bool.false_ne_true
    cases o with
    | false=>exact fun v G' H' x2 r=>q v G1 H' (x1.trans ⟨Same.refl _,x2.h,x1.gh.trans x2.h,fun _ z=>.inl z⟩) (flat r)
    | true=>
      intro p G' H' x2 hp gp o
      cases d<;>first | exact o.elim | exact absurd fl Bool.false_ne_true
  · rw [if_neg fl] at hf
    cases hf
noncomputable def OkCB (K:PySem.W.Frag) (r:List V→Hp→VK→Prop) (F:List D→Option D):Prop:=∀ G H ds vs d (Q:VK),Same G H→Reps K H ds vs→F ds=some d→(∀ w G' H',Ext G H G' H'→Rep K G' d w→Q w H')→r vs H Q
noncomputable def OkCG (K:PySem.W.Frag) (r:List V→Hp→VK→Prop) (F:List D→Option D):Prop:=∀ G H ds vs d (Q:VK),Same G H→Reps K G ds vs→F ds=some d→(∀ w G' H',Ext G H G' H'→Rep K G' d w→Q w H')→r vs H Q
theorem se_cb {rc:List V→Hp→VK→Prop} (hc:CallR X (.builtin id) rc) (hF:OkCB X.K rc FL) (hg:Gl X x) (hm:X.mg x=none) (hv:bootBuiltins x=some (.builtin id)) (ha:SAB X (e::es) fs) (hn:x ≠ "__name__" := by decide) (hdb:(x == ("__debug__" : Str))=false:=by decide)
    (he:(e::es).all noStar=true:=by rfl):SE X (.Call (.Name x p) (e::es) [] pos) (eL FL fs):=by
  obtain ⟨t,pt,kt⟩:=ha.h
  refine ⟨⟨_,(qe_callB hc hg hm hv ⟨pt⟩ hn hdb he).h,fun E hf q=>?_⟩⟩
  obtain ⟨ds,hd,hf⟩:=bindE hf
  exact kt E hd fun vs G1 H1 x1 r1=>hF G1 H1 ds vs _ _ x1.gh r1 hf fun w G' H' x2 r2=>q w G' H' (x1.trans x2) r2
theorem se_ctyG {rc:List V→Hp→VK→Prop} (hc:CallR X (.type T) rc) (hF:OkCG X.K rc FL) (hg:Gl X x) (hm:X.mg x=none) (hv:bootBuiltins x=some (.type T)) (ha:SA X (e::es) fs) (hn:x ≠ "__name__" := by decide) (hdb:(x == ("__debug__" : Str))=false:=by decide)
    (he:(e::es).all noStar=true:=by rfl):SE X (.Call (.Name x p) (e::es) [] pos) (eL FL fs):=by
  obtain ⟨t,pt,kt⟩:=ha.h
  refine ⟨⟨_,(qe_callTy hc hg hm hv ⟨pt⟩ hn hdb he).h,fun E hf q=>?_⟩⟩
  obtain ⟨ds,hd,hf⟩:=bindE hf
  exact kt E hd fun vs G1 H1 x1 r1=>hF G1 H1 ds vs _ _ x1.gh r1 hf fun w G' H' x2 r2=>q w G' H' (x1.trans x2) r2
theorem se_un {op:UnaryOp} {ru:V→Hp→VK→Prop} {F1:D→Option D} (ho:UnR X (unaryOp op) ru) (hF:∀ (G H:Hp) x u d (Q:VK),Rep X.K G x u→F1 x=some d→∃ w,(∀ G,Rep X.K G d w)∧(Q w H→ru u H Q)) (ha:SE X a fa):SE X (.UnaryOp op a pos) (e1 F1 fa):=by
  obtain ⟨t,pt,kt⟩:=ha.h
  refine ⟨⟨_,pe_un ho pt,fun E hf q=>?_⟩⟩
  obtain ⟨x,hx,hf⟩:=bindE hf
  refine kt E hx fun v G1 H1 x1 r1=>?_
  obtain ⟨w,rw_,z⟩:=hF G1 H1 x v _ _ r1 hf
  exact z (q w _ _ x1 (rw_ _))
end
end L3
namespace L3
open PySem PySem.Spec PyProof.Rows L2
section
variable {X:Cx} {x:Str} {p pos pos' apos cpos:Pos} {e a b c tg iter elt:Expr} {es ifs:List Expr} {f fa fb:FE} {ft:FT} {fs:FA} {st:Stmt} {sts body:List Stmt} {g g':FS}
theorem sss_nil:SSs X [] sNext:=⟨⟨_,pss_nil,fun {_ _ G H τ σ fl E} K hf q=>by
  cases hf
  exact q σ G H K⟩⟩
theorem FlOk.with {K:PySem.W.Frag} {n:Nat} {G0 H0:Hp} {E E':Ends} {fl:Fl} (h:FlOk K n G0 H0 E fl) (hn:∀ τ,fl=.nx τ→FlOk K n G0 H0 E' (.nx τ)) (hb:∀ τ,fl=.bk τ→FlOk K n G0 H0 E' (.bk τ)) (hc:∀ τ,fl=.ct τ→FlOk K n G0 H0 E' (.ct τ)) (hr:E'.rt=E.rt):FlOk K n G0 H0 E' fl:=by
  cases fl with
  | nx τ=>exact hn τ rfl
  | bk τ=>exact hb τ rfl
  | ct τ=>exact hc τ rfl
  | rt o d=>
    cases o with
    | false=>intro v G H x r; rw [hr]; exact h v G H x r
    | true=>intro v G H x r1 r2 r3; rw [hr]; exact h v G H x r1 r2 r3
theorem sss_cons (h1:SS X st g) (h2:SSs X sts g'):SSs X (st::sts) (sSeq g g'):=by
  obtain ⟨t,p,k⟩:=h1.h
  obtain ⟨t',p',k'⟩:=h2.h
  refine ⟨⟨_,pss_cons p p',fun {G0 H0 G H τ σ fl E} K hf q=>?_⟩⟩
  obtain ⟨f1,h1,hf⟩:=bindE hf
  refine k K h1 ?_
  cases f1 with
  | nx τ'=>exact fun σ' G' H' K'=>k' K' hf q
  | bk τ'=>cases hf; exact q
  | ct τ'=>cases hf; exact q
  | rt o d=>cases hf; exact FlOk.with q (fun _ z=>nomatch z) (fun _ z=>nomatch z) (fun _ z=>nomatch z) rfl
theorem sss_one (h1:SS X st g):SSs X [st] g:=⟨let ⟨t,p,k⟩:=h1.h; ⟨t,pss_one p,k⟩⟩
theorem sss_freeze (i:Nat) (h:SSs X sts g):SSs X sts (sSeq (sFreeze i) g):=by
  obtain ⟨t,p,k⟩:=h.h
  refine ⟨⟨t,p,fun {G0 H0 G H τ σ fl E} K hf q=>?_⟩⟩
  obtain ⟨f1,h1,hf⟩:=bindE hf
  unfold sFreeze at h1
  split at h1
  · rename_i bb d hd
    cases h1
    obtain ⟨G',K',_⟩:=K.freeze hd
    exact k K' hf q
  · cases h1
theorem ss_set {i:Nat} {x:Str} {pos':Pos} (hN:X.N.Nodup) (hi:X.N[i]?=some x) (hx:Loc X.env.scope x) (he:SE X e f) (hs:noComp e=true:=by rfl) (hf:X.fn x=true∨X.env.scope.names.lookup x=some .local:=by first | exact .inl rfl | exact .inr rfl | assumption) :
    SS X (.Assign [.Name x pos'] e pos) (sSet i f):=by
  obtain ⟨t,p,k⟩:=he.h
  refine ⟨⟨_,(qs_set hN hi hx ⟨p⟩ hs hf).h,fun {G0 H0 G H τ σ fl E} K hf q=>?_⟩⟩
  obtain ⟨d,hd,hf⟩:=bindE hf
  cases hf
  exact k K hd fun v G' H' x r=>q _ _ _ ((K.go x).set (List.getElem?_eq_some_iff.mp hi).1 r)
theorem ss_setO {i:Nat} {x:Str} {pos':Pos} (hN:X.N.Nodup) (hi:X.N[i]?=some x) (hx:Loc X.env.scope x) (he:SF X e f) (hs:noComp e=true:=by rfl) (hf:X.fn x=true∨X.env.scope.names.lookup x=some .local:=by first | exact .inl rfl | exact .inr rfl | assumption) :
    SS X (.Assign [.Name x pos'] e pos) (sSetO i f):=by
  obtain ⟨t,p,k⟩:=he.h
  refine ⟨⟨_,(qs_set hN hi hx ⟨p⟩ hs hf).h,fun {G0 H0 G H τ σ fl E} K hf q=>?_⟩⟩
  obtain ⟨d,hd,hf⟩:=bindE hf
  cases hf
  refine k K hd fun p G' H' x hp gp o=>q _ _ _ ((K.go x).setO (List.getElem?_eq_some_iff.mp hi).1 gp (K.ext.h.free hp) o ?_)
  exact K.newO hp
theorem ss_ret (he:SE X e f):SS X (.Return (some e) pos) (sRet f):=by
  obtain ⟨t,p,k⟩:=he.h
  refine ⟨⟨_,ps_ret p,fun {G0 H0 G H τ σ fl E} K hf q=>?_⟩⟩
  obtain ⟨d,hd,hf⟩:=bindE hf
  cases hf
  exact k K hd fun v G' H' x r=>q v _ _ (K.ext.trans x) r
theorem ss_retO (he:SF X e f):SS X (.Return (some e) pos) (sRetO f):=by
  obtain ⟨t,p,k⟩:=he.h
  refine ⟨⟨_,ps_ret p,fun {G0 H0 G H τ σ fl E} K hf q=>?_⟩⟩
  obtain ⟨d,hd,hf⟩:=bindE hf
  cases hf
  exact k K hd fun p G' H' x hp gp o=>q p _ _ (K.ext.trans x) (K.ext.h.free hp) gp o
theorem ss_retV (i:Nat) {x:Str} {pos':Pos} (hN:X.N[i]?=some x:=by rfl) (hv:Vis X.env.scope x:=by first | exact Or.inl rfl | exact Or.inr (Or.inl rfl) | exact Or.inr (Or.inr rfl)) (hd:(x == ("__debug__" : Str))=false:=by decide)
    (hcd:(x == ("__classdict__" : Str))=false:=by decide):SS X (.Return (some (.Name x pos')) pos) (sRetV i):=by
  refine ⟨⟨_,ps_ret (pe_var hN hv hd hcd),fun {G0 H0 G H τ σ fl E} K hf q=>?_⟩⟩
  unfold sRetV at hf
  split at hf
  · rename_i d he
    cases hf
    obtain ⟨p,e,g,z,o⟩:=K.ow _ _ he
    exact ⟨_,e,q p _ _ K.ext z g o⟩
  · cases hf
theorem ss_if {sa sb:List Stmt} (hc:ST X c ft) (ha:SSs X sa g) (hb:SSs X sb g'):SS X (.If c sa sb pos) (sIf ft g g'):=by
  obtain ⟨tc,pc,kc⟩:=hc.h
  obtain ⟨ta,pa,ka⟩:=ha.h
  obtain ⟨tb,pb,kb⟩:=hb.h
  refine ⟨⟨_,ps_if pc pa pb,fun {G0 H0 G H τ σ fl E} K hf q=>?_⟩⟩
  obtain ⟨k,hk,hf⟩:=bindE hf
  refine kc K hk fun G1 H1 x1=>?_
  cases k with
  | true=>exact iteT (ka (K.go x1) hf q)
  | false=>exact iteF (kb (K.go x1) hf q)
theorem ss_never:SSs X sts (fun _=>none):=⟨⟨_,pss_never,fun _ hf=>by cases hf⟩⟩
theorem FlOk.near {K:PySem.W.Frag} {n:Nat} {G0 H0 Ga Ha:Hp} {E:Ends} {fl:Fl} (x:Ext G0 H0 Ga Ha) (h:FlOk K n G0 H0 E fl):FlOk K n Ga H0 E fl:=by
  cases fl with
  | nx τ=>exact fun σ G H z=>h σ G H (EnvOk.near x z)
  | bk τ=>exact fun σ G H z=>h σ G H (EnvOk.near x z)
  | ct τ=>exact fun σ G H z=>h σ G H (EnvOk.near x z)
  | rt o d=>
    cases o with
    | false=>exact fun v G H y r=>h v G H (x.rebase y) r
    | true=>exact fun p G H y r1 r2 r3=>h p G H (x.rebase y) r1 r2 r3
structure SG (X:Cx) (tg:Expr) (fg:FG):Prop where
  h:∃ t,PG X tg t∧∀ {G0 H0 G H:Hp} {τ τ':SEnv} {σ:St} {d:D} {v:V} {Q:St→Hp→Prop},EnvOk X.K X.N.length G0 H0 G H τ σ→Rep X.K G d v→fg d τ=some τ'→(∀ σ',EnvOk X.K X.N.length G0 H0 G H τ' σ'→Q σ' H)→t v σ H Q
theorem sg_var {i:Nat} {x:Str} (h:QG X (.Name x pos) (gName i)) (hi:X.N[i]?=some x):SG X (.Name x pos) (gVar i):=⟨⟨_,h.h,fun K r hf q=>by
  cases hf
  exact q _ (K.set (List.getElem?_eq_some_iff.mp hi).1 r)⟩⟩
theorem ss_for {fg:FG} (hp:PassesOwn (model X.prog X.w) X.A X.env X.xe) (hc:X.calm=true) (hi:SI X tg iter fs) (hg:SG X tg fg) (hb:SSs X body g) (hs:∀ x,foldedSetIterable iter X.env x=pure x:=by intro _; rfl):SS X (.For tg iter body [] pos) (sFor fs fg g):=by
  obtain ⟨ti,pi,ki⟩:=hi.h
  obtain ⟨tg',pg,kg⟩:=hg.h
  obtain ⟨tb,pb,kb⟩:=hb.h
  refine ⟨⟨_,ps_for hp hc pi pg pb hs,fun {G0 H0 G H τ σ fl E} K hf q=>?_⟩⟩
  obtain ⟨ds,hd,hf⟩:=bindE hf
  refine ki K hd fun J Ga Ha xa _ wk=>?_
  have Ka:=K.go xa
  have q':=FlOk.near Ka.ext q
  refine ⟨fun i m σ H=>m=ds.length - i∧i≤ds.length∧∃ τ G,EnvOk X.K X.N.length Ga H0 G H τ σ∧loopG fg g (ds.drop i) τ=some fl,⟨ds.length,rfl,Nat.zero_le _,τ,Ga,Ka.far,hf⟩,?_⟩
  rintro i m σ H ⟨rfl,hle,τ,G,K,hf⟩
  by_cases hlt:i<ds.length
  · refine .inr ⟨wk.go i G H K.ext.g K.ext.gh hlt,fun σ' H'=>∃ τ G,EnvOk X.K X.N.length Ga H0 G H' τ σ'∧loopG fg g (ds.drop (i+1)) τ=some fl,fun σ' H' z=>⟨ds.length - (i+1),by omega,rfl,hlt,z⟩,fun x H' y=>?_⟩
    obtain ⟨G3,d,x3,ed,rd⟩:=wk.yld i G H x H' K.ext.g K.ext.gh hlt y
    rw [List.drop_eq_getElem_cons hlt] at hf
    rw [List.getElem?_eq_getElem hlt] at ed
    cases ed
    obtain ⟨τ1,h1,hf⟩:=bindE (show (fg _ τ).bind _=_ from hf)
    obtain ⟨f1,h2,hf⟩:=bindE hf
    refine kg (K.go x3) rd h1 fun σ1 K1=>kb K1 h2 ?_
    cases f1 with
    | nx τ2=>exact fun σ2 G2 H2 K2=>⟨τ2,G2,K2,hf⟩
    | ct τ2=>exact fun σ2 G2 H2 K2=>⟨τ2,G2,K2,hf⟩
    | bk τ2=>cases hf; exact q'
    | rt o d=>cases hf; exact FlOk.with q' (fun _ z=>nomatch z) (fun _ z=>nomatch z) (fun _ z=>nomatch z) rfl
  · have e:ds.drop i=[]:=List.drop_eq_nil_of_le (by omega)
    rw [e] at hf
    cases hf
    exact .inl ⟨wk.stop i G H K.ext.g K.ext.gh (by omega),q' _ _ _ K⟩
theorem ints_walk {K:PySem.W.Frag} {G:Hp} {lo:Int} {n:Nat}:Walk K (Itr lo n) G ((List.range n).map fun k:Nat=>D.int (lo+k)) where
  go:=fun i G2 H _ _ hi=>by
    show i<n
    simpa using hi
  yld:=fun i G2 H x H' _ g2 hi y=>by
    obtain ⟨rfl,rfl⟩:=y
    exact ⟨G2,.int (lo+i),Ext.refl g2,by simp at hi; simp [hi],rfl⟩
  stop:=fun i G2 H _ _ hi=>by
    show n≤i
    simpa using hi
theorem si_range1 (hg:Gl X "range") (hm:X.mg "range" = none) (ha:SE X a fa) (hs:noStar a=true:=by rfl):SI X tg (.Call (.Name "range" p) [a] [] pos) (iRange (eC (.int 0)) fa):=by
  obtain ⟨t,pt,k⟩:=(sa_cons ha sa_nil hs).h
  refine ⟨⟨_,pi_range1 hg hm pt (star_cons hs),fun {G0 H0 G H τ σ ds R} K hf q=>?_⟩⟩
  obtain ⟨x,hx,hf⟩:=bindE hf
  cases hx
  obtain ⟨y,hy,hf⟩:=bindE hf
  refine k K (ds:=[y]) (by unfold aCons; rw [hy]; rfl) fun vs G1 H1 x1 r1=>?_
  cases y<;>first | cases hf | skip
  rename_i j
  obtain ⟨v,r,rfl,hv,hr⟩:=r1
  cases (show r=[] from hr)
  cases (show v=.int j from hv)
  change (if (0:Int).natAbs≤LIM∧j.natAbs≤LIM∧(j - 0).toNat≤LIM then _ else _)=_ at hf
  by_cases c:(0:Int).natAbs≤LIM∧j.natAbs≤LIM∧(j - 0).toNat≤LIM
  · rw [if_pos c] at hf
    cases hf
    have c2:j.natAbs≤16777216:=c.2.1
    have c3:(j - 0).toNat≤16777216:=c.2.2
    refine ⟨j,rfl,by omega,by omega,q _ _ _ x1 ?_ ?_⟩
    · rw [List.length_map,List.length_range,sizeLine_eq]; omega
    · have e:(j - 0).toNat=j.toNat:=by omega
      rw [e]
      exact ints_walk
  · rw [if_neg c] at hf
    cases hf
theorem list_walk {K:PySem.W.Frag} {G:Hp} {a:Addr} {vs:List V} {ds:List D} (sq:SqL K G a vs) (r:Reps K G ds vs):Walk K (Itl K a) G ds where
  go:=fun i G2 H g1 g2 hi=>by
    obtain ⟨v,e,_⟩:=r.get (List.getElem?_eq_getElem hi)
    exact ⟨vs,v,sqL_mono (g1.trans g2) sq,e⟩
  yld:=fun i G2 H x H' g1 g2 hi y=>by
    obtain ⟨rfl,y⟩:=y
    have e:=y vs (sqL_mono (g1.trans g2) sq)
    obtain ⟨d,ed,rd⟩:=r.at e
    exact ⟨G2,d,Ext.refl g2,ed,rd.mono g1⟩
  stop:=fun i G2 H g1 g2 hi=>⟨vs,sqL_mono (g1.trans g2) sq,by rw [r.length]; exact hi⟩
theorem tup_walk {K:PySem.W.Frag} {G:Hp} {a:Addr} {vs:List V} {ds:List D} (sq:SqT K G a vs) (r:Reps K G ds vs):Walk K (Itt K a) G ds where
  go:=fun i G2 H g1 g2 hi=>by
    obtain ⟨v,e,_⟩:=r.get (List.getElem?_eq_getElem hi)
    exact ⟨vs,v,sqT_mono (g1.trans g2) sq,e⟩
  yld:=fun i G2 H x H' g1 g2 hi y=>by
    obtain ⟨rfl,y⟩:=y
    have e:=y vs (sqT_mono (g1.trans g2) sq)
    obtain ⟨d,ed,rd⟩:=r.at e
    exact ⟨G2,d,Ext.refl g2,ed,rd.mono g1⟩
  stop:=fun i G2 H g1 g2 hi=>⟨vs,sqT_mono (g1.trans g2) sq,by rw [r.length]; exact hi⟩
theorem str_walk {K:PySem.W.Frag} {G:Hp} {z:Str}:Walk K (Its z) G (z.cps.toList.map fun c=>D.str ⟨#[c]⟩) where
  go:=fun i G2 H _ _ hi=>by
    rw [List.length_map,Array.length_toList] at hi
    exact hi
  yld:=fun i G2 H x H' _ g2 hi y=>by
    obtain ⟨rfl,c,ec,rfl⟩:=y
    refine ⟨G2,.str ⟨#[c]⟩,Ext.refl g2,?_,rfl,small (n:=1) (by decide)⟩
    rw [List.getElem?_map,Array.getElem?_toList,ec]
    rfl
  stop:=fun i G2 H _ _ hi=>by
    rw [List.length_map,Array.length_toList] at hi
    exact hi
theorem PI.or {w1 w2:TI} (h1:PI X tg e w1) (h2:PI X tg e w2):PI X tg e (fun σ H R=>w1 σ H R∨w2 σ H R):=fun pins s σ H R I q=>by
  rcases q with q | q
  · exact h1 pins s σ H R I q
  · exact h2 pins s σ H R I q
theorem si_seq (h:SE X e f):SI X tg e (iSeq f):=by
  obtain ⟨t,p,k⟩:=h.h
  refine ⟨⟨_,PI.or (pi_list p) (PI.or (pi_tup p) (pi_str p)),fun {G0 H0 G H τ σ ds R} K hf q=>?_⟩⟩
  obtain ⟨d,hd,hf⟩:=bindE hf
  cases d<;>first | cases hf | skip
  · rename_i z
    refine .inr (.inr (k K hd fun v G' H' x r=>?_))
    obtain ⟨rfl,l⟩:=r
    exact ⟨z,rfl,q _ _ _ x (by rw [List.length_map,Array.length_toList]; exact l) str_walk⟩
  · refine .inr (.inl (k K hd fun v G' H' x r=>?_))
    obtain ⟨a,vs,rfl,sq,rs,l⟩:=r
    exact ⟨a,rfl,⟨vs,sqT_mono x.gh sq⟩,q _ _ _ x l (tup_walk sq rs)⟩
  · refine .inl (k K hd fun v G' H' x r=>?_)
    obtain ⟨a,vs,rfl,sq,rs,l⟩:=r
    exact ⟨a,rfl,⟨vs,sqL_mono x.gh sq⟩,q _ _ _ x l (list_walk sq rs)⟩
end
noncomputable def tSE (K:PySem.W.Frag) (n:Nat) (f:FE):TE:=fun σ H Q=>∃ G0 H0 G τ d,EnvOk K n G0 H0 G H τ σ∧f τ=some d∧∀ v G' H',Ext G H G' H'→Rep K G' d v→Q v H'
noncomputable def tST (K:PySem.W.Frag) (n:Nat) (f:FT):TT:=fun σ H Q=>∃ G0 H0 G τ d,EnvOk K n G0 H0 G H τ σ∧f τ=some d∧∀ G' H',Ext G H G' H'→Q d H'
structure STs (X:Cx) (es:List Expr) (f:FT):Prop where
  h:PTs X es (tST X.K X.N.length f)
section
variable {X:Cx} {e c:Expr} {f:FE} {ft:FT}
theorem SE.pe (h:SE X e f):PE X e (tSE X.K X.N.length f):=fun pins s σ H Q I q=>by
  obtain ⟨t,p,k⟩:=h.h
  obtain ⟨G0,H0,G,τ,d,K,hf,z⟩:=q
  exact p pins s σ H Q I (k K hf z)
theorem ST.pt (h:ST X e ft):PT X e (tST X.K X.N.length ft):=fun pins s σ H Q I q=>by
  obtain ⟨t,p,k⟩:=h.h
  obtain ⟨G0,H0,G,τ,d,K,hf,z⟩:=q
  exact p pins s σ H Q I (k K hf z)
theorem sts_nil:STs X [] tTrue:=⟨fun pins s σ H Q I q=>by
  obtain ⟨G0,H0,G,τ,d,K,hf,z⟩:=q
  cases hf
  exact pts_nil pins s σ H Q I (z _ _ (Ext.refl K.ext.gh))⟩
theorem sts_one (h:ST X c ft):STs X [c] ft:=⟨pts_one h.pt⟩
end
theorem EnvOk.more {K:PySem.W.Frag} {n:Nat} {G0 H0 G H:Hp} {τ:SEnv} {σ:St} (k:Nat) (E:EnvOk K n G0 H0 G H τ σ):EnvOk K (n+k) G0 H0 G H (τ++List.replicate k none) (σ++List.replicate k none):=by
  have at_:∀ {i:Nat} {s:Sl},(τ++List.replicate k none)[i]?=some (some s)→τ[i]?=some (some s)∧(σ++List.replicate k none)[i]?=σ[i]?:=fun {i s} h=>by
    have h':=get_tail h
    have hi:i<n:=E.lt h'
    exact ⟨h',List.getElem?_append_left (by rw [E.l1]; exact hi)⟩
  refine ⟨E.ext,by rw [List.length_append,List.length_replicate,E.l1],by rw [List.length_append,List.length_replicate,E.l2],fun i d h=>?_,fun i d h=>?_,fun i j d e p hne h1 h2 h3 h4=>?_⟩
  · obtain ⟨h',e⟩:=at_ h
    rw [e]
    exact E.fr i d h'
  · obtain ⟨h',e⟩:=at_ h
    rw [e]
    exact E.ow i d h'
  · obtain ⟨h1',e1⟩:=at_ h1
    obtain ⟨h2',e2⟩:=at_ h2
    rw [e1] at h3
    rw [e2] at h4
    exact E.ap i j d e p hne h1' h2' h3 h4
theorem lc_walk {K:PySem.W.Frag} {n k:Nat} {G0 H0 Ga Ha:Hp} {τ:SEnv} {σ:St} {J:It} {ds out:List D} {g:TG} {fg:FG} {ft:FT} {f:FE} {Fin:List V→Hp→Prop} (wk:Walk K J Ga ds) (hl:ds.length≤sizeLine) (Ka:EnvOk K n G0 H0 Ga Ha τ σ)
    (hf:lcGo fg ft f (τ++List.replicate k none) ds=some out)
    (kg:∀ G H d v τ' (Q:St→Hp→Prop),EnvOk K (n+k) G0 H0 G H (τ++List.replicate k none) (σ++List.replicate k none)→Rep K G d v→fg d (τ++List.replicate k none)=some τ'→(∀ ρ,EnvOk K (n+k) G0 H0 G H τ' (σ++ρ)→Q (σ++ρ) H)→g v (σ++List.replicate k none) H Q)
    (fin:∀ ys G H,Ext Ga Ha G H→Reps K G out ys→out.length≤sizeLine→Fin ys H) :
    ∃ W:Nat→Nat→List V→Hp→Prop,(∃ m,W 0 m [] Ha)∧lcTurn σ k J g (tST K (n+k) ft) (tSE K (n+k) f) W Fin:=by
  refine ⟨fun i m ys H=>m=ds.length - i∧i≤ds.length∧ys.length≤i∧∃ G done rest,Ext Ga Ha G H∧Reps K G done ys∧lcGo fg ft f (τ++List.replicate k none) (ds.drop i)=some rest∧done++rest=out,⟨ds.length,rfl,Nat.zero_le _,Nat.le_refl _,Ga,[],out,Ext.refl Ka.ext.gh,rfl,hf,rfl⟩,?_⟩
  rintro i m ys H ⟨rfl,hle,hys,G,done,rest,x,rd,hf,eo⟩
  by_cases hlt:i<ds.length
  · refine .inr ⟨wk.go i G H x.g x.gh hlt,by omega,fun ys H=>ys.length≤i+1∧∃ G done rest,Ext Ga Ha G H∧Reps K G done ys∧lcGo fg ft f (τ++List.replicate k none) (ds.drop (i+1))=some rest∧done++rest=out,fun ys' H' z=>⟨ds.length - (i+1),by omega,rfl,hlt,z.1,z.2⟩,fun v H' y=>?_⟩
    obtain ⟨G3,d,x3,ed,rv⟩:=wk.yld i G H v H' x.g x.gh hlt y
    rw [List.drop_eq_getElem_cons hlt] at hf
    rw [List.getElem?_eq_getElem hlt] at ed
    cases ed
    obtain ⟨τ1,h1,hf⟩:=bindE (show (fg _ _).bind _=_ from hf)
    obtain ⟨kk,h2,hf⟩:=bindE hf
    have K3:=((Ka.go x).go x3).more k
    refine kg G3 H' _ v τ1 _ K3 rv h1 fun ρ K4=>⟨⟨ρ,rfl⟩,_,_,_,_,kk,K4,h2,fun G5 H5 x5=>?_⟩
    cases kk with
    | false=>exact iteF ⟨by omega,G5,done,rest,x.trans (x3.trans x5),rd.mono (x3.g.trans x5.g),hf,eo⟩
    | true=>
      obtain ⟨z,hz,hf⟩:=bindE (show (f _).bind _=_ from hf)
      obtain ⟨more,hm,hf⟩:=bindE hf
      cases hf
      refine iteT ⟨_,_,_,_,z,K4.go x5,hz,fun u G6 H6 x6 r6=>⟨by rw [List.length_append]; exact Nat.succ_le_succ hys,G6,done++[z],more,x.trans (x3.trans (x5.trans x6)),(rd.mono (x3.g.trans (x5.g.trans x6.g))).append (Reps.one r6),hm,?_⟩⟩
      rw [List.append_assoc]
      exact eo
  · have e:ds.drop i=[]:=List.drop_eq_nil_of_le (by omega)
    rw [e] at hf
    cases hf
    rw [List.append_nil] at eo
    subst eo
    refine .inl ⟨wk.stop i G H x.g x.gh (by omega),fin ys G H x rd ?_⟩
    rw [← rd.length]
    omega
section
variable {X:Cx} {tg iter elt:Expr} {ifs:List Expr} {scope:Scope} {cl:List (Str×Addr)} {own:List Str} {pos:Pos} {fs:FA} {fg:FG} {ft:FT} {f:FE} {g:TG}
theorem set_tail {α:Type} (xs:List α) (y:α) (ys:List α) {n:Nat} (h:n=xs.length) (z:α):(xs++y::ys).set n z=xs++z::ys:=by
  subst h
  rw [List.set_append_right _ _ (Nat.le_refl _),Nat.sub_self]
  rfl
structure BG (X:Cx) (scope:Scope) (cl:List (Str×Addr)) (own:List Str) (tg:Expr) (g:TG) (fg:FG):Prop where
  q:∀ C s H fp pn,QG (cxBlk X scope cl own C s H fp pn) tg g
  k:∀ {G0 H0:Hp} {τ:SEnv} {σ:St},τ.length=X.N.length→σ.length=X.N.length→∀ G H d v τ' (Q:St→Hp→Prop),EnvOk X.K (X.N.length+own.length) G0 H0 G H (τ++List.replicate own.length none) (σ++List.replicate own.length none)→Rep X.K G d v→fg d (τ++List.replicate own.length none)=some τ'→
    (∀ ρ,EnvOk X.K (X.N.length+own.length) G0 H0 G H τ' (σ++ρ)→Q (σ++ρ) H)→g v (σ++List.replicate own.length none) H Q
theorem bg_one {x:Str} {i:Nat} (q:∀ C s H fp pn,QG (cxBlk X scope cl [x] C s H fp pn) tg (gName i)) (hi:i=X.N.length):BG X scope cl [x] tg (gName i) (gVar i):=⟨q,fun {G0 H0 τ σ} l1 l2 G H d v τ' Q E r hf k=>by
  cases hf
  have E':=E.set (i:=i) (v:=v) (by rw [hi]; exact Nat.lt_succ_self _) r
  have es:(σ++List.replicate 1 none).set i (some v)=σ++[some v]:=set_tail σ none [] (hi.trans l2.symm) (some v)
  show Q ((σ++List.replicate 1 none).set i (some v)) H
  rw [es]
  refine k [some v] ?_
  rw [← es]
  exact E'⟩
theorem blk_len (X:Cx) (own:List Str):(blkN X.N own).length=X.N.length+own.length:=by
  unfold blkN
  rw [List.length_append,List.length_map]
theorem blk_pe {C:Addr} {s:Shared} {H:Hp} {fp:List Addr} {pn:List (Addr×Obj)} (h:SE (cxBlk X scope cl own C s H fp pn) elt f):PE (cxBlk X scope cl own C s H fp pn) elt (tSE X.K (X.N.length+own.length) f):=by
  have q:=h.pe
  rw [show (cxBlk X scope cl own C s H fp pn).N.length=X.N.length+own.length from blk_len X own] at q
  exact q
theorem blk_pts {C:Addr} {s:Shared} {H:Hp} {fp:List Addr} {pn:List (Addr×Obj)} (h:STs (cxBlk X scope cl own C s H fp pn) ifs ft):PTs (cxBlk X scope cl own C s H fp pn) ifs (tST X.K (X.N.length+own.length) ft):=by
  have q:=h.h
  rw [show (cxBlk X scope cl own C s H fp pn).N.length=X.N.length+own.length from blk_len X own] at q
  exact q
theorem sf_lc (hcalm:X.calm=true) (B:Blk X scope cl own) (hi:SI X tg iter fs) (hg:BG X scope cl own tg g fg) (hc:∀ C s H fp pn,STs (cxBlk X scope cl own C s H fp pn) ifs ft)
    (he:∀ C s H fp pn,SE (cxBlk X scope cl own C s H fp pn) elt f) (hs:∀ x,foldedSetIterable iter X.env x=pure x:=by intro _; rfl) :
    SF X (.ListComp elt [⟨tg,iter,ifs,0⟩] scope pos) (eLc own.length fs fg ft f):=by
  obtain ⟨ti,pi,ki⟩:=hi.h
  refine ⟨⟨_,pe_lc hcalm B pi (fun C s H fp pn=>(hg.q C s H fp pn).h) (fun C s H fp pn=>blk_pts (hc C s H fp pn)) (fun C s H fp pn=>blk_pe (he C s H fp pn)) hs,fun {G0 H0 G H τ σ d Q} K hf q=>?_⟩⟩
  obtain ⟨ds,hd,hf⟩:=bindE hf
  obtain ⟨out,ho,hf⟩:=bindE hf
  cases hf
  refine ki K hd fun J Ga Ha xa l wk=>lc_walk wk l (K.go xa) ho (hg.k K.l2 K.l1) fun ys G1 H1 x1 r1 l1 p hp=>?_
  exact q p _ _ (xa.trans (x1.trans (Ext.layO x1.gh hp))) (xa.h.free (x1.h.free hp)) (x1.gh.free hp) ⟨ys,upd_same,r1,l1⟩
theorem ss_lcO {i:Nat} {x:Str} {px spos:Pos} (hcalm:X.calm=true) (hN:X.N.Nodup) (hix:X.N[i]?=some x) (hx:X.env.scope.names.lookup x=some .local) (B:Blk X scope cl own)
    (hsw:swapsWith (.ListComp elt [⟨tg,iter,ifs,0⟩] scope pos) (some (.Name x px)) spos.line X.env=pure true) (hi:SI X tg iter fs) (hg:BG X scope cl own tg g fg) (hc:∀ C s H fp pn,STs (cxBlk X scope cl own C s H fp pn) ifs ft)
    (he:∀ C s H fp pn,SE (cxBlk X scope cl own C s H fp pn) elt f) (hs:∀ x,foldedSetIterable iter X.env x=pure x:=by intro _; rfl) :
    SS X (.Assign [.Name x px] (.ListComp elt [⟨tg,iter,ifs,0⟩] scope pos) spos) (sSetO i (eLc own.length fs fg ft f)):=by
  obtain ⟨ti,pi,ki⟩:=hi.h
  refine ⟨⟨_,ps_setLc hcalm hN hix hx B hsw pi (fun C s H fp pn=>(hg.q C s H fp pn).h) (fun C s H fp pn=>blk_pts (hc C s H fp pn)) (fun C s H fp pn=>blk_pe (he C s H fp pn)) hs,fun {G0 H0 G H τ σ fl E} K hf q=>?_⟩⟩
  obtain ⟨d,hf1,hf⟩:=bindE hf
  cases hf
  obtain ⟨ds,hd,hf1⟩:=bindE hf1
  obtain ⟨out,ho,hf1⟩:=bindE hf1
  cases hf1
  refine ki K hd fun J Ga Ha xa l wk=>lc_walk wk l (K.go xa) ho (hg.k K.l2 K.l1) fun ys G1 H1 x1 r1 l1 p hp=>?_
  have K1:=(K.go xa).go x1
  have K2:=K1.go (Ext.layO (o:=.lst ys) x1.gh hp)
  exact q _ _ _ (K2.setO (List.getElem?_eq_some_iff.mp hix).1 (x1.gh.free hp) (K1.ext.h.free hp) ⟨ys,upd_same,r1,l1⟩ (K1.newO hp))
theorem ss_lc {i:Nat} {x:Str} {px spos:Pos} (hcalm:X.calm=true) (hN:X.N.Nodup) (hix:X.N[i]?=some x) (hx:X.env.scope.names.lookup x=some .local) (B:Blk X scope cl own)
    (hsw:swapsWith (.ListComp elt [⟨tg,iter,ifs,0⟩] scope pos) (some (.Name x px)) spos.line X.env=pure true) (hi:SI X tg iter fs) (hg:BG X scope cl own tg g fg) (hc:∀ C s H fp pn,STs (cxBlk X scope cl own C s H fp pn) ifs ft)
    (he:∀ C s H fp pn,SE (cxBlk X scope cl own C s H fp pn) elt f) (hs:∀ x,foldedSetIterable iter X.env x=pure x:=by intro _; rfl) :
    SS X (.Assign [.Name x px] (.ListComp elt [⟨tg,iter,ifs,0⟩] scope pos) spos) (sSet i (eLc own.length fs fg ft f)):=by
  obtain ⟨ti,pi,ki⟩:=hi.h
  refine ⟨⟨_,ps_setLc hcalm hN hix hx B hsw pi (fun C s H fp pn=>(hg.q C s H fp pn).h) (fun C s H fp pn=>blk_pts (hc C s H fp pn)) (fun C s H fp pn=>blk_pe (he C s H fp pn)) hs,fun {G0 H0 G H τ σ fl E} K hf q=>?_⟩⟩
  obtain ⟨d,hf1,hf⟩:=bindE hf
  cases hf
  obtain ⟨ds,hd,hf1⟩:=bindE hf1
  obtain ⟨out,ho,hf1⟩:=bindE hf1
  cases hf1
  refine ki K hd fun J Ga Ha xa l wk=>lc_walk wk l (K.go xa) ho (hg.k K.l2 K.l1) fun ys G1 H1 x1 r1 l1 p hp=>?_
  have K2:=((K.go xa).go x1).go (Ext.lay (o:=.lst ys) x1.gh hp)
  exact q _ _ _ (K2.set (List.getElem?_eq_some_iff.mp hix).1 ⟨p,ys,rfl,SqL.of upd_same,r1.mono (same_new (x1.gh.free hp) _),l1⟩)
end
section
variable {K:PySem.W.Frag} {n:Nat} {G0 H0 G H:Hp} {τ:SEnv} {σ:St}
theorem EnvOk.mut {i:Nat} {d d':D} {p:Addr} {o:HO} (E:EnvOk K n G0 H0 G H τ σ) (hi:τ[i]?=some (some (true,d))) (hp:σ[i]?=some (some (.ref p))) (new:OwnAt K G (upd H p o) d' p):EnvOk K n G0 H0 G (upd H p o) (τ.set i (some (true,d'))) σ:=by
  obtain ⟨p',e,g,z,_⟩:=E.ow i d hi
  rw [hp] at e
  cases e
  have keep:∀ {H1:Hp},H1 p=none→Same H1 H→Same H1 (upd H p o):=fun {H1} h s b u q=>by
    rw [upd_ne (ne_of_none q h)]
    exact s _ _ q
  refine ⟨⟨E.ext.g,keep z E.ext.h,keep g E.ext.gh,E.ext.new⟩,E.l1,by rw [List.length_set]; exact E.l2,fun j e h=>?_,fun j e h=>?_,fun j k e f q hne h1 h2 h3 h4=>?_⟩
  · rcases set_get h with ⟨rfl,w⟩ | ⟨ne,w⟩
    · cases w
    · exact E.fr j e w
  · rcases set_get h with ⟨rfl,w⟩ | ⟨ne,w⟩
    · cases w
      exact ⟨p,hp,g,z,new⟩
    · obtain ⟨q,eq,gq,zq,oq⟩:=E.ow j e w
      refine ⟨q,eq,gq,zq,?_⟩
      have hne:q≠p:=fun c=>by
        subst c
        exact E.ap i j d e q (fun c=>ne c.symm) hi w hp eq
      cases e with
      | lst ds=>obtain ⟨vs,ev,r⟩:=oq; exact ⟨vs,by rw [upd_ne hne]; exact ev,r⟩
      | dic ks ds=>obtain ⟨vs,ev,r⟩:=oq; exact ⟨vs,by rw [upd_ne hne]; exact ev,r⟩
      | _=>exact oq.elim
  · have t:∀ {j:Nat} {e:D},(τ.set i (some (true,d')))[j]?=some (some (true,e))→∃ e,τ[j]?=some (some (true,e)):=fun {j e} h=>by
      rcases set_get h with ⟨rfl,_⟩ | ⟨_,w⟩
      · exact ⟨_,hi⟩
      · exact ⟨_,w⟩
    obtain ⟨e1,w1⟩:=t h1
    obtain ⟨e2,w2⟩:=t h2
    exact E.ap j k e1 e2 q hne w1 w2 h3 h4
end
section
variable {X:Cx} {x:Str} {xp pos apos cpos:Pos} {e:Expr} {f:FE}
theorem ss_append {i:Nat} (ho:QE X (.Name x xp) (tVar i)) (he:SE X e f) (hbase:attributeBase (.Name x xp) "append" X.env (eval (.Name x xp) X.env)=eval (.Name x xp) X.env:=by rfl) (hline:(apos.endLine == cpos.line)=true:=by rfl) (hs:noStar e=true:=by rfl) :
    SS X (.Expr (.Call (.Attribute (.Name x xp) "append" apos) [e] [] cpos) pos) (sMut1 i fApp f):=by
  obtain ⟨t,p,k⟩:=(sa_cons he sa_nil hs).h
  refine ⟨⟨_,(qs_expr (qe_bm PySem.F.plainAttrs_list PySem.F.slot_list_append PySem.F.type_list_append mt_append ho ⟨p⟩ hbase hline (by rw [List.all_cons,hs]; rfl) (by show 1<30; decide)) rfl).h,fun {G0 H0 G H τ σ fl E} K hf q=>?_⟩⟩
  unfold sMut1 at hf
  split at hf
  · rename_i d hd
    obtain ⟨y,hy,hf⟩:=bindE hf
    obtain ⟨d',hd',hf⟩:=bindE hf
    cases hf
    obtain ⟨a,ea,g,z,o⟩:=K.ow _ _ hd
    cases d with
    | lst ds=>
      obtain ⟨vs,ev,rs,l⟩:=o
      refine ⟨_,ea,.inl ⟨rfl,vs,SqL.of ev⟩,k K (ds:=[y]) (by unfold aCons; rw [hy]; rfl) fun us G1 H1 x1 r1=>?_⟩
      obtain ⟨u,r,rfl,hu,hr⟩:=r1
      cases (show r=[] from hr)
      change (if ds.length<LIM then some (D.lst (ds++[y])) else none)=some d' at hd'
      by_cases c:ds.length<LIM
      · rw [if_pos c] at hd'
        cases hd'
        refine ⟨a,vs,u,rfl,rfl,x1.h _ _ ev,by rw [rs.length,sizeLine_eq]; exact c,?_⟩
        refine q _ _ _ ((K.go x1).mut hd ea ⟨vs++[u],upd_same,(rs.mono x1.g).append (Reps.one hu),?_⟩)
        rw [List.length_append,sizeLine_eq]
        exact c
      · rw [if_neg c] at hd'
        cases hd'
    | _=>cases hd'
  · cases hf
end
section
variable {P:Program} {w:World} {K:PySem.W.Frag} {mg:Str→Option Value} {base:Heap}
theorem map_get {α β:Type} {ds:List α} {k i:Nat} {h:α→Option β} {y:β} (e:(ds.map h++List.replicate k none)[i]?=some (some y)):∃ d,ds[i]?=some d∧h d=some y:=by
  have e':=get_tail e
  rw [List.getElem?_map] at e'
  cases q:ds[i]? with
  | none=>rw [q] at e'; cases e'
  | some d=>
    rw [q] at e'
    exact ⟨d,rfl,Option.some.inj e'⟩
theorem env_start {N:List Str} {G H:Hp} {ds:List D} {vs:List V} (s:Same G H) (r:Reps K G ds vs) (hl:ds.length≤N.length):EnvOk K N.length G H G H (ds.map (fun d=>some (false,d))++List.replicate (N.length - ds.length) none) (L2.start N vs):=by
  have l:=r.length
  refine ⟨Ext.refl s,?_,?_,fun i d h=>?_,fun i d h=>?_,fun i j d e p _ h1=>?_⟩
  · unfold L2.start
    rw [List.length_append,List.length_map,List.length_replicate]
    omega
  · rw [List.length_append,List.length_map,List.length_replicate]
    omega
  · obtain ⟨d',e,z⟩:=map_get h
    cases z
    obtain ⟨v,ev,rv⟩:=r.get e
    refine ⟨v,?_,rv⟩
    unfold L2.start
    rw [List.getElem?_append_left (by rw [List.length_map]; exact (List.getElem?_eq_some_iff.mp ev).1),List.getElem?_map,ev]
    rfl
  · obtain ⟨d',e,z⟩:=map_get h
    cases z
  · obtain ⟨d',e,z⟩:=map_get h1
    cases z
theorem Def.okS {x:Str} {st:Stmt} {N ps:List Str} {k:Nat} {F:List D→Option (Bool×D)} {b:FS} (d:Def K mg x st ps) (S:FnScope N ps (defScope st)) (hN:ps.length≤N.length) (hF:∀ ds r,F ds=some r→ds.length=ps.length∧runF N.length b ds=some r)
    (hb:∀ (f:Addr) (cdv:Value) (A:Around) (outer:List Env) (s:Shared) (H:Hp) (E:XK),Room k (A.deeper (envOfC x (defScope st) s.heap.objs.size f cdv))→SSs (cxOf CX0 P w K mg base N x (defScope st) f cdv A outer s H E).nox (defBody st) b):Has P w K mg base x ps (k+1) (spF K F):=by
  refine d.ok S (fun vs H Q E h=>?_) fun f cdv A outer s H vs Q E hr h=>?_
  · obtain ⟨G,ds,o,dd,_,r,e,_⟩:=h
    rw [r.length,(hF _ _ e).1]
  · obtain ⟨G,ds,o,dd,s',r,e,q⟩:=h
    obtain ⟨l,hrun⟩:=hF _ _ e
    obtain ⟨t,p,kt⟩:=(hb f cdv A outer s H E hr).h
    obtain ⟨fl,hfl,hrun⟩:=bindE hrun
    refine ⟨t,p,kt (env_start (N:=N) s' r (by omega)) hfl ?_⟩
    cases fl with
    | nx τ=>
      cases hrun
      exact fun σ G' H' z=>q .non G' H' z.ext rfl
    | rt o' d'=>
      cases hrun
      cases o with
      | false=>exact q
      | true=>exact q
    | _=>cases hrun
end
end L3
namespace L3
open PySem PySem.Spec PyProof.Rows L2
section
variable {P:Program} {w:World} {K:PySem.W.Frag} {mg:Str→Option Value} {base:Heap}
end
end L3
namespace L3
open PySem PySem.Spec PyProof.Rows L2
section
variable {X:Cx} {K:PySem.W.Frag}
theorem ok_I {C:Int→Int→Prop} {Cb:Int→Int→Bool} {g:Int→Int→Int} (h:∀ i j,Cb i j=true→C i j):Ok2 K (rI C fun i j=>.int (g i j)) (fI Cb g):=fun G H x y u v d Q s rx ry hf q=>by
  cases x<;>first | (cases hf; done) | skip
  cases y<;>first | (cases hf; done) | skip
  rename_i i j
  change (match Cb i j with | true=>some (D.int (g i j)) | false=>none)=some d at hf
  cases c:Cb i j with
  | false=>rw [c] at hf; cases hf
  | true=>
    rw [c] at hf
    cases hf
    exact ⟨i,j,rx,ry,h i j c,q _ _ _ (Ext.refl s) rfl⟩
theorem ok_sub:Ok2 K (rI0 fun i j=>.int (i - j)) fSub:=fun G H x y u v d Q s rx ry hf q=>by
  cases x<;>first | (cases hf; done) | skip
  cases y<;>first | (cases hf; done) | skip
  cases hf
  exact ⟨_,_,rx,ry,q _ _ _ (Ext.refl s) rfl⟩
theorem lt64_of {i:Int} (h:lt64 i=true) : -(2 ^ 64)<i∧i<2 ^ 64:=by
  unfold lt64 at h
  rw [Bool.and_eq_true] at h
  exact ⟨of_decide_eq_true h.1,of_decide_eq_true h.2⟩
theorem ok_mulL:Ok2 K (rI CMul fun i j=>.int (i*j)) fMulL:=ok_I fun _ _ h=>.inl (lt64_of h)
theorem ok_mulR:Ok2 K (rI CMul fun i j=>.int (i*j)) fMulR:=ok_I fun _ _ h=>.inr (lt64_of h)
theorem ok_mod:Ok2 K (rI (fun _ j=>0<j) fun i j=>.int (i % j)) fMod:=ok_I fun _ _ h=>of_decide_eq_true h
theorem ok_div:Ok2 K (rI (fun _ j=>0<j∧j<2 ^ 64) fun i j=>.int (i / j)) fDiv:=ok_I fun _ _ h=>by
  rw [Bool.and_eq_true] at h
  exact ⟨of_decide_eq_true h.1,of_decide_eq_true h.2⟩
theorem ok_cmp {g:Int→Int→Bool}:Ok2B K (rI0 fun i j=>.bl (g i j)) (fCmp g):=fun H x y u v d Q rx ry hf=>by
  cases x<;>first | (cases hf; done) | skip
  cases y<;>first | (cases hf; done) | skip
  cases hf
  exact ⟨_,rfl,fun q=>⟨_,_,rx,ry,q⟩⟩
theorem unI_neg:∀ (G H:Hp) x u d (Q:VK),Rep K G x u→fNeg x=some d→∃ w,(∀ G,Rep K G d w)∧(Q w H→rU (fun i=>.int (-i)) u H Q):=fun G H x u d Q r hf=>by
  cases x<;>first | (cases hf; done) | skip
  cases hf
  exact ⟨_,fun _=>rfl,fun q=>⟨_,r,q⟩⟩
noncomputable def rCatS (K:PySem.W.Frag):R2:=fun x y H Q=>∃ l b xs zs,x=.ref l∧y=.ref b∧SqL K H l xs∧SqL K H b zs∧xs.length+zs.length≤sizeLine∧∀ p,H p=none→Q (.ref p) (upd H p (.lst (xs++zs)))
theorem op_catS:OpR X (binaryOp .Add) (rCatS X.K):=by
  intro pins s σ H x y v u Q I rx ry h
  obtain ⟨l,b,xs,zs,rfl,rfl,hl,hb,hz,q⟩:=h
  cases rx
  cases ry
  obtain ⟨its,r1,p1,_⟩:=I.list hl
  obtain ⟨its2,r2,p2,_⟩:=I.list hb
  obtain ⟨⟨c1,d1,t1,sl1⟩,n1,ho1,hc1,hd1,ht1⟩:=p1
  obtain ⟨⟨c2,d2,t2,sl2⟩,n2,ho2,hc2,hd2,ht2⟩:=p2
  simp only at hc1 ht1 hc2 ht2
  subst hc1 ht1 hc2 ht2
  refine concat_meets ⟨_,ho1,rfl⟩ ⟨_,ho2,rfl⟩ noFill_list_add seq_list_add PySem.F.slot_list_add PySem.F.entry_list_add (PySem.F.args_list_add_2 _ _)
    (list_addW l b its.toArray its2.toArray n1 n2 d1 d2 sl1 sl2 (by rw [List.size_toArray,List.size_toArray,← r1.length,← r2.length]; exact hz)) ⟨ho1,ho2,?_⟩
  rw [show its.toArray++its2.toArray=(its++its2).toArray by simp]
  exact ⟨.ref _,_,I.lnew (t':=s.toks) (r1.append r2) (by rw [List.length_append]; exact hz),rfl,q _ I.fresh⟩
noncomputable def rAddA (K:PySem.W.Frag):R2:=fun x y H Q=>rI0 (fun i j=>.int (i+j)) x y H Q∨(∃ i k,x=.int i∧y=.bl k∧Q (.int (i+b2i k)) H)∨(∃ i j,x=.str i∧y=.str j∧i.length+j.length≤sizeLine∧Q (.str (i++j)) H)∨rCatS K x y H Q∨rCatT K x y H Q
theorem op_addA:OpR X (binaryOp .Add) (rAddA X.K):=op_add.or (op_add_ib.or (op_add_str.or (op_catS.or op_catT)))
theorem ok_add:Ok2 K (rAddA K) fAdd:=fun G H x y u v d Q s rx ry hf q=>by
  cases x<;>cases y<;>first | (cases hf; done) | skip
  · rename_i i b
    cases rx
    cases ry
    cases hf
    refine .inr (.inl ⟨i,b,rfl,rfl,?_⟩)
    have e:i+b2i b=i+(if b then 1 else 0):=by cases b<;>rfl
    rw [e]
    exact q _ _ _ (Ext.refl s) rfl
  · cases hf
    exact .inl ⟨_,_,rx,ry,q _ _ _ (Ext.refl s) rfl⟩
  · rename_i i j
    obtain ⟨rfl,l1⟩:=rx
    obtain ⟨rfl,l2⟩:=ry
    change (if i.length+j.length≤LIM then _ else _)=_ at hf
    by_cases c:i.length+j.length≤LIM
    · rw [if_pos c] at hf
      cases hf
      have c':i.length+j.length≤sizeLine:=by rw [sizeLine_eq]; exact c
      exact .inr (.inr (.inl ⟨i,j,rfl,rfl,c',q _ _ _ (Ext.refl s) ⟨rfl,by rw [strLen_append]; exact c'⟩⟩))
    · rw [if_neg c] at hf
      cases hf
  · rename_i xs ys
    obtain ⟨a,vs,rfl,sa,ra,_⟩:=rx
    obtain ⟨b,us,rfl,sb,rb,_⟩:=ry
    change (if xs.isEmpty=false∧xs.length+ys.length≤LIM then _ else _)=_ at hf
    by_cases c0:xs.isEmpty=false∧xs.length+ys.length≤LIM
    · rw [if_pos c0] at hf
      have c:=c0.2
      cases hf
      have c':(xs++ys).length≤sizeLine:=by rw [sizeLine_eq,List.length_append]; exact c
      have hx:vs≠[]:=fun e=>by
        have l:=ra.length
        rw [e] at l
        cases xs with
        | nil=>cases c0.1
        | cons=>cases l
      · refine .inr (.inr (.inr (.inr ⟨a,b,vs,us,rfl,rfl,sqT_mono s sa,sqT_mono s sb,hx,by rw [ra.length,rb.length,sizeLine_eq]; exact c,fun e=>?_,fun e p hp=>?_⟩)))
        · subst e
          have e2:ys=[]:=by
            cases ys with
            | nil=>rfl
            | cons=>obtain ⟨_,_,z,_⟩:=rb; cases z
          subst e2
          exact q _ _ _ (Ext.refl s) ⟨a,vs,rfl,sa,by rw [List.append_nil]; exact ra,c'⟩
        · exact q _ _ _ (Ext.lay s hp) ⟨p,vs++us,rfl,SqT.of upd_same,(ra.append rb).mono (same_new (s.free hp) _),c'⟩
    · rw [if_neg c0] at hf
      cases hf
  · rename_i xs ys
    obtain ⟨a,vs,rfl,sa,ra,_⟩:=rx
    obtain ⟨b,us,rfl,sb,rb,_⟩:=ry
    change (if xs.length+ys.length≤LIM then _ else _)=_ at hf
    by_cases c:xs.length+ys.length≤LIM
    · rw [if_pos c] at hf
      cases hf
      have c':(xs++ys).length≤sizeLine:=by rw [sizeLine_eq,List.length_append]; exact c
      refine .inr (.inr (.inr (.inl ⟨a,b,vs,us,rfl,rfl,sqL_mono s sa,sqL_mono s sb,by rw [ra.length,rb.length,sizeLine_eq]; exact c,fun p hp=>?_⟩)))
      exact q _ _ _ (Ext.lay s hp) ⟨p,vs++us,rfl,SqL.of upd_same,(ra.append rb).mono (same_new (s.free hp) _),c'⟩
    · rw [if_neg c] at hf
      cases hf
theorem atI_map {α:Type} {xs:List α} {i:Int} {x:α} (h:atI xs i=some x):∃ j:Nat,xs[j]?=some x∧∀ {β:Type} (ys:List β),ys.length=xs.length→atI ys i=ys[j]?:=by
  unfold atI at h
  cases e:ixN xs.length i with
  | none=>rw [e] at h; cases h
  | some j=>
    rw [e] at h
    exact ⟨j,h,fun ys l=>by unfold atI; rw [l,e]; rfl⟩
theorem atI_D {α:Type} (xs:List α) (i:Int):atI xs i=atD xs i:=by
  unfold atI atD ixN
  by_cases h:0≤i
  · rw [if_pos h,if_pos h]
    by_cases h2:i<xs.length
    · rw [if_pos h2]; rfl
    · rw [if_neg h2]
      exact (List.getElem?_eq_none (by omega)).symm
  · rw [if_neg h,if_neg h]
    split<;>rfl
theorem reps_atI {H:Hp} {ds:List D} {vs:List V} {i:Int} {d:D} (r:Reps K H ds vs) (h:atD ds i=some d):∃ v,atI vs i=some v∧Rep K H d v:=by
  rw [← atI_D] at h
  obtain ⟨j,e,k⟩:=atI_map h
  obtain ⟨v,ev,rv⟩:=r.get e
  exact ⟨v,by rw [k vs r.length]; exact ev,rv⟩
noncomputable def fIx0:D→D→Option D
  | .lst xs,.int i=>atD xs i
  | .tup xs,.int i=>atD xs i
  | .str z,.int i=>(atD z.cps.toList i).bind fun c=>some (.str ⟨#[c]⟩)
  | _,_=>none
theorem ok_ix0:Ok2 K (rIx K) fIx0:=fun G H x y u v d Q s rx ry hf q=>by
  cases x<;>first | (cases hf; done) | skip
  all_goals (cases y<;>first | (cases hf; done) | skip)
  · rename_i z i
    obtain ⟨rfl,l⟩:=rx
    cases ry
    obtain ⟨c,hc,hf⟩:=bindE hf
    cases hf
    rw [← atI_D] at hc
    exact .inr (.inr ⟨z,i,c,rfl,rfl,l,hc,q _ _ _ (Ext.refl s) ⟨rfl,small (n:=1) (by decide)⟩⟩)
  · rename_i xs i
    obtain ⟨a,vs,rfl,sa,ra,_⟩:=rx
    cases ry
    obtain ⟨w,hw,rw_⟩:=reps_atI ra hf
    exact .inr (.inl ⟨a,vs,i,w,rfl,rfl,sqT_mono s sa,hw,q _ _ _ (Ext.refl s) rw_⟩)
  · rename_i xs i
    obtain ⟨a,vs,rfl,sa,ra,_⟩:=rx
    cases ry
    obtain ⟨w,hw,rw_⟩:=reps_atI ra hf
    exact .inl ⟨a,vs,i,w,rfl,rfl,sqL_mono s sa,hw,q _ _ _ (Ext.refl s) rw_⟩
theorem call_lenS:CallR X (.builtin "len") (fun xs H Q=>(∃ p ys,xs=[.ref p]∧(SqL X.K H p ys∨SqT X.K H p ys)∧Q (.int ys.length) H)∨∃ z,xs=[.str z]∧z.length≤sizeLine∧Q (.int z.length) H):=call_len_seq.or call_len_str
theorem ok_len:OkCB K (fun xs H Q=>(∃ p ys,xs=[.ref p]∧(SqL K H p ys∨SqT K H p ys)∧Q (.int ys.length) H)∨∃ z,xs=[.str z]∧z.length≤sizeLine∧Q (.int z.length) H) fLen:=fun G H ds vs d Q s r hf q=>by
  match ds,hf with
  | [.lst xs],hf=>
    cases hf
    obtain ⟨v,r',rfl,⟨a,us,rfl,sq,ru,_⟩,h2⟩:=r
    cases (show r'=[] from h2)
    exact .inl ⟨a,us,rfl,.inl sq,by rw [ru.length]; exact q _ _ _ (Ext.refl s) rfl⟩
  | [.tup xs],hf=>
    cases hf
    obtain ⟨v,r',rfl,⟨a,us,rfl,sq,ru,_⟩,h2⟩:=r
    cases (show r'=[] from h2)
    exact .inl ⟨a,us,rfl,.inr sq,by rw [ru.length]; exact q _ _ _ (Ext.refl s) rfl⟩
  | [.str z],hf=>
    cases hf
    obtain ⟨v,r',rfl,⟨rfl,l⟩,h2⟩:=r
    cases (show r'=[] from h2)
    exact .inr ⟨z,rfl,l,q _ _ _ (Ext.refl s) rfl⟩
end
end L3
namespace L3
open PySem PySem.Spec PyProof.Rows L2
theorem dEqs_range:∀ xs ys:List D,(((List.range (min xs.length ys.length)).all fun j=>dEq (xs.getD j .non) (ys.getD j .non))&&xs.length == ys.length)=dEqs xs ys
  | [],[]=>rfl
  | [],_::_=>rfl
  | _::_,[]=>rfl
  | x::xs,y::ys=>by
    have ih:=dEqs_range xs ys
    show _=(dEq x y&&dEqs xs ys)
    rw [← ih,List.length_cons,List.length_cons,Nat.succ_min_succ,List.range_succ_eq_map,List.all_cons,List.all_map,Bool.and_assoc]
    congr 1
    congr 1
    rw [Bool.eq_iff_iff]
    simp
theorem cmpAll_at {f:D→D→Bool}:∀ {xs ys:List D},cmpAll f xs ys=true→∀ (j:Nat) x y,xs[j]?=some x→ys[j]?=some y→f x y=true
  | [],_,_,j,x,y,e,_=>by cases e
  | x::xs,[],_,j,_,y,_,e=>by cases e
  | x::xs,y::ys,h,0,_,_,e1,e2=>by
    cases e1
    cases e2
    have h':(f x y&&cmpAll f xs ys)=true:=h
    rw [Bool.and_eq_true] at h'
    exact h'.1
  | x::xs,y::ys,h,j+1,a,b,e1,e2=>by
    have h':(f x y&&cmpAll f xs ys)=true:=h
    rw [Bool.and_eq_true] at h'
    exact cmpAll_at h'.2 j a b (by simpa using e1) (by simpa using e2)
section
variable {X:Cx} {pins:List (Addr×Obj)} {σ:St} {H:Hp} {s:Shared} {K:PySem.W.Frag}
theorem eqs_of {n:Nat} (ih:∀ d1 d2 v,cmpOk n d1 d2=true→Rep K H d1 v→Rep K H d2 v→dEq d1 d2=true):∀ {xs ys:List D} {vs:List V},cmpAll (cmpOk n) xs ys=true→Reps K H xs vs→Reps K H ys vs→dEqs xs ys=true
  | [],[],_,_,_,_=>rfl
  | [],_::_,_,_,r1,r2=>by
    cases (show _=[] from r1)
    obtain ⟨_,_,e,_⟩:=r2
    cases e
  | _::_,[],_,_,r1,r2=>by
    cases (show _=[] from r2)
    obtain ⟨_,_,e,_⟩:=r1
    cases e
  | x::xs,y::ys,_,h,r1,r2=>by
    obtain ⟨v,r,rfl,a,b⟩:=r1
    obtain ⟨v',r',e,a',b'⟩:=r2
    cases e
    have h':(cmpOk n x y&&cmpAll (cmpOk n) xs ys)=true:=h
    rw [Bool.and_eq_true] at h'
    show (dEq x y&&dEqs xs ys)=true
    rw [ih x y v h'.1 a a',eqs_of ih h'.2 b b']
    rfl
theorem cmp_cases {n:Nat} {x y:D} (h:cmpOk (n+1) x y=true):(∃ xs ys,x=.tup xs∧y=.tup ys∧cmpAll (cmpOk n) xs ys=true)∨(∃ xs ys,x=.lst xs∧y=.lst ys∧cmpAll (cmpOk n) xs ys=true)∨(flatD x=true∧flatD y=true):=by
  unfold cmpOk at h
  split at h
  · exact .inl ⟨_,_,rfl,rfl,h⟩
  · exact .inr (.inl ⟨_,_,rfl,rfl,h⟩)
  · rw [Bool.and_eq_true] at h
    exact .inr (.inr h)
theorem rep_flat {d:D} {v:V} (h:flatD d=true) (r:Rep K H d v):flatV v=true:=by
  cases d<;>first | exact absurd h Bool.false_ne_true | skip
  · cases (show v=_ from r); rfl
  · cases (show v=_ from r); rfl
  · cases (show v=_ from r); rfl
  · cases (show v=_∧_ from r).1; rfl
theorem rep_eqV {d1 d2:D} {x y:V} (h1:flatD d1=true) (h2:flatD d2=true) (r1:Rep K H d1 x) (r2:Rep K H d2 y):eqV x y=dEq d1 d2:=by
  cases d1<;>first | exact absurd h1 Bool.false_ne_true | skip
  all_goals (cases d2<;>first | exact absurd h2 Bool.false_ne_true | skip)
  all_goals first
    | (cases (show x=_ from r1); cases (show y=_ from r2); rfl)
    | (cases (show x=_ from r1); cases (show y=_∧_ from r2).1; rfl)
    | (cases (show x=_∧_ from r1).1; cases (show y=_ from r2); rfl)
    | (cases (show x=_∧_ from r1).1; cases (show y=_∧_ from r2).1; rfl)
theorem eq_same (I:Inv X pins σ H s):∀ (n:Nat) (d1 d2:D) (v:V),cmpOk n d1 d2=true→Rep X.K H d1 v→Rep X.K H d2 v→dEq d1 d2=true
  | 0,_,_,_,h,_,_=>by cases h
  | n+1,d1,d2,v,h,r1,r2=>by
    rcases cmp_cases h with ⟨xs,ys,rfl,rfl,h⟩ | ⟨xs,ys,rfl,rfl,h⟩ | ⟨f1,f2⟩
    · obtain ⟨a,vs,rfl,s1,q1,_⟩:=r1
      obtain ⟨a',us,e,s2,q2,_⟩:=r2
      cases e
      cases I.tuple_inj s1 s2
      exact eqs_of (fun d1 d2 v=>eq_same I n d1 d2 v) h q1 q2
    · obtain ⟨a,vs,rfl,s1,q1,_⟩:=r1
      obtain ⟨a',us,e,s2,q2,_⟩:=r2
      cases e
      cases I.list_inj s1 s2
      exact eqs_of (fun d1 d2 v=>eq_same I n d1 d2 v) h q1 q2
    · rw [← rep_eqV f1 f2 r1 r2]
      exact eqV_self (rep_flat f1 r1)
theorem getD_at {α:Type} {xs:List α} {j:Nat} {x d:α} (h:xs[j]?=some x):xs.getD j d=x:=by rw [List.getD_eq_getElem?_getD,h]; rfl
theorem rc_reps {A:Around} {n:Nat} {a c:Addr} {xs ys:List D} {vs us:List V} (I:Inv X pins σ H s) (hu:A.units<cLine) (hq:SqB X.K H a c vs us) (q1:Reps X.K H xs vs) (q2:Reps X.K H ys us) (h:cmpAll (cmpOk n) xs ys=true)
    (ih:∀ (d1 d2:D) (x y:V) (u v:Value),cmpOk n d1 d2=true→Rep X.K H d1 x→Rep X.K H d2 y→RelV x u→RelV y v→SeqAt.EqAt A.in1 s u v (dEq d1 d2)):SeqAt.RcAt A s (.ref a) (.ref c) (dEqs xs ys)∧SeqAt.RcNeAt A s (.ref a) (.ref c) (!dEqs xs ys):=by
  have z:=rc_seq (A:=A) (e:=fun j=>dEq (xs.getD j .non) (ys.getD j .non)) I hu hq fun j x' y' u' v' e1 e2 w1 w2=>by
    obtain ⟨d1,g1,t1⟩:=q1.at e1
    obtain ⟨d2,g2,t2⟩:=q2.at e2
    show SeqAt.EqAt A.in1 s u' v' (dEq (xs.getD j .non) (ys.getD j .non))
    rw [getD_at g1,getD_at g2]
    exact ih d1 d2 x' y' u' v' (cmpAll_at h j d1 d2 g1 g2) t1 t2 w1 w2
  rw [q1.length,q2.length,dEqs_range] at z
  exact z
theorem eqAt_rep (I:Inv X pins σ H s):∀ (n:Nat) (A:Around) (d1 d2:D) (x y:V) (u v:Value),A.units+n<cLine→cmpOk n d1 d2=true→Rep X.K H d1 x→Rep X.K H d2 y→RelV x u→RelV y v→SeqAt.EqAt A s u v (dEq d1 d2)
  | 0,_,_,_,_,_,_,_,_,h,_,_,_,_=>by cases h
  | n+1,A,d1,d2,x,y,u,v,hu,h,r1,r2,rx,ry=>by
    have h0:=h
    have ra:=r1
    have rb:=r2
    rcases cmp_cases h with ⟨xs,ys,rfl,rfl,h⟩ | ⟨xs,ys,rfl,rfl,h⟩ | ⟨f1,f2⟩
    · obtain ⟨a,vs,rfl,s1,q1,l1⟩:=r1
      obtain ⟨c,us,rfl,s2,q2,l2⟩:=r2
      cases (show u=Value.ref a from rx)
      cases (show v=Value.ref c from ry)
      by_cases hac:a=c
      · subst hac
        rw [eq_same I (n+1) _ _ _ h0 ra rb]
        exact SeqAt.EqAt.same _
      · exact SeqAt.EqAt.of_refs hac (rc_reps I (by omega) (.inl ⟨s1,s2⟩) q1 q2 h fun d1 d2 x y u v hh t1 t2 w1 w2=>eqAt_rep I n A.in1 d1 d2 x y u v (by rw [in1_units]; omega) hh t1 t2 w1 w2).1
    · obtain ⟨a,vs,rfl,s1,q1,l1⟩:=r1
      obtain ⟨c,us,rfl,s2,q2,l2⟩:=r2
      cases (show u=Value.ref a from rx)
      cases (show v=Value.ref c from ry)
      by_cases hac:a=c
      · subst hac
        rw [eq_same I (n+1) _ _ _ h0 ra rb]
        exact SeqAt.EqAt.same _
      · exact SeqAt.EqAt.of_refs hac (rc_reps I (by omega) (.inr ⟨s1,s2⟩) q1 q2 h fun d1 d2 x y u v hh t1 t2 w1 w2=>eqAt_rep I n A.in1 d1 d2 x y u v (by rw [in1_units]; omega) hh t1 t2 w1 w2).1
    · rw [← rep_eqV f1 f2 r1 r2]
      exact eqAt_V rx ry (rep_flat f1 r1) (rep_flat f2 r2)
end
noncomputable def rEqS (K:PySem.W.Frag) (neg:Bool):R2:=fun x y H Q=>∃ d1 d2 k,Rep K H d1 x∧Rep K H d2 y∧fEqB d1 d2=some k∧Q (.bl (if neg then !k else k)) H
theorem hu7 {A:Around} {k:Nat} (hr:Room k A):A.units+7<cLine:=Nat.lt_of_le_of_lt (Nat.add_le_add_left (by decide:7≤64) _) hr.units
section
variable {X:Cx} {K:PySem.W.Frag}
theorem fEqB_ok {d1 d2:D} {k:Bool} (h:fEqB d1 d2=some k):cmpOk 6 d1 d2=true∧k=dEq d1 d2:=by
  unfold fEqB at h
  split at h
  · cases h
  · cases h
  · split at h
    · rename_i e
      cases h
      exact ⟨e,rfl⟩
    · cases h
theorem scal_of {H:Hp} {d1 d2:D} {x y:V} {k:Bool} (h:fEqB d1 d2=some k) (h1:flatD d1=true) (h2:flatD d2=true) (r1:Rep K H d1 x) (r2:Rep K H d2 y):scal x y=true∧decide (x=y)=k:=by
  obtain ⟨_,e⟩:=fEqB_ok h
  subst e
  cases d1<;>first | exact absurd h1 Bool.false_ne_true | skip
  all_goals (cases d2<;>first | exact absurd h2 Bool.false_ne_true | (cases h; done) | skip)
  all_goals first
    | (cases (show x=_ from r1); cases (show y=_ from r2); exact ⟨rfl,by first | rfl | exact dec_int | exact dec_bl⟩)
    | (cases (show x=_ from r1); cases (show y=_∧_ from r2).1; exact ⟨rfl,rfl⟩)
    | (cases (show x=_∧_ from r1).1; cases (show y=_ from r2); exact ⟨rfl,rfl⟩)
    | (cases (show x=_∧_ from r1).1; cases (show y=_∧_ from r2).1; exact ⟨rfl,dec_str⟩)
theorem eqS_core {pins:List (Addr×Obj)} {σ:St} {H:Hp} {s:Shared} {A:Around} {d1 d2:D} {x y:V} {u v:Value} (I:Inv X pins σ H s) (hu:A.units+7<cLine) (h:cmpOk 6 d1 d2=true) (hf:¬ (flatD d1&&flatD d2)=true) (r1:Rep X.K H d1 x) (r2:Rep X.K H d2 y) (rx:RelV x u) (ry:RelV y v) :
    SeqAt.RcAt A s u v (dEq d1 d2)∧SeqAt.RcNeAt A s u v (!dEq d1 d2):=by
  rcases cmp_cases h with ⟨xs,ys,rfl,rfl,h⟩ | ⟨xs,ys,rfl,rfl,h⟩ | ⟨f1,f2⟩
  · obtain ⟨a,vs,rfl,s1,q1,l1⟩:=r1
    obtain ⟨c,us,rfl,s2,q2,l2⟩:=r2
    cases (show u=Value.ref a from rx)
    cases (show v=Value.ref c from ry)
    exact rc_reps I (by omega) (.inl ⟨s1,s2⟩) q1 q2 h fun d1 d2 x y u v hh t1 t2 w1 w2=>eqAt_rep I 5 A.in1 d1 d2 x y u v (by rw [in1_units]; omega) hh t1 t2 w1 w2
  · obtain ⟨a,vs,rfl,s1,q1,l1⟩:=r1
    obtain ⟨c,us,rfl,s2,q2,l2⟩:=r2
    cases (show u=Value.ref a from rx)
    cases (show v=Value.ref c from ry)
    exact rc_reps I (by omega) (.inr ⟨s1,s2⟩) q1 q2 h fun d1 d2 x y u v hh t1 t2 w1 w2=>eqAt_rep I 5 A.in1 d1 d2 x y u v (by rw [in1_units]; omega) hh t1 t2 w1 w2
  · exact absurd (by rw [f1,f2]; rfl) hf
theorem op_eqS (hu:X.A.units+7<cLine):OpR X (compareOp .Eq) (rEqS X.K false):=by
  intro pins s σ H x y v u Q I rx ry h
  obtain ⟨d1,d2,k,r1,r2,hk,q⟩:=h
  by_cases hf:(flatD d1&&flatD d2)=true
  · have hf':=hf
    rw [Bool.and_eq_true] at hf'
    obtain ⟨a,b⟩:=scal_of hk hf'.1 hf'.2 r1 r2
    exact op_eq pins s σ H x y v u Q I rx ry ⟨a,by rw [b]; exact q⟩
  · obtain ⟨hc,rfl⟩:=fEqB_ok hk
    exact (eqS_core I hu hc hf r1 r2 rx ry).1 _ _ _ _ ⟨.bl _,H,I,rfl,q⟩
theorem op_neS (hu:X.A.units+7<cLine):OpR X (compareOp .NotEq) (rEqS X.K true):=by
  intro pins s σ H x y v u Q I rx ry h
  obtain ⟨d1,d2,k,r1,r2,hk,q⟩:=h
  by_cases hf:(flatD d1&&flatD d2)=true
  · have hf':=hf
    rw [Bool.and_eq_true] at hf'
    obtain ⟨a,b⟩:=scal_of hk hf'.1 hf'.2 r1 r2
    exact op_ne pins s σ H x y v u Q I rx ry ⟨a,by rw [b]; exact q⟩
  · obtain ⟨hc,rfl⟩:=fEqB_ok hk
    exact (eqS_core I hu hc hf r1 r2 rx ry).2 _ _ _ _ ⟨.bl _,H,I,rfl,q⟩
theorem ok_eq:Ok2B K (rEqS K false) fEq:=fun H x y u v d Q rx ry hf=>by
  obtain ⟨k,hk,hf⟩:=bindE hf
  cases hf
  exact ⟨_,rfl,fun q=>⟨x,y,k,rx,ry,hk,q⟩⟩
theorem ok_ne:Ok2B K (rEqS K true) fNe:=fun H x y u v d Q rx ry hf=>by
  obtain ⟨k,hk,hf⟩:=bindE hf
  cases hf
  exact ⟨_,rfl,fun q=>⟨x,y,k,rx,ry,hk,q⟩⟩
end
theorem kit_x {K:PySem.W.Frag}:PySem.W.kitOne K (.type "NoneType") (.type "str")=some false∧PySem.W.kitOne K (.type "NoneType") (.type "list")=some false∧PySem.W.kitOne K (.type "NoneType") (.type "tuple")=some false∧
    PySem.W.kitOne K (.type "bool") (.type "str")=some false∧PySem.W.kitOne K (.type "bool") (.type "list")=some false∧PySem.W.kitOne K (.type "bool") (.type "tuple")=some false∧
    PySem.W.kitOne K (.type "int") (.type "str")=some false∧PySem.W.kitOne K (.type "int") (.type "list")=some false∧PySem.W.kitOne K (.type "int") (.type "tuple")=some false:=by refine ⟨?_,?_,?_,?_,?_,?_,?_,?_,?_⟩<;>kernel_rfl
theorem kit_y {K:PySem.W.Frag}:PySem.W.kitOne K (.type "str") (.type "int")=some false∧PySem.W.kitOne K (.type "str") (.type "bool")=some false∧PySem.W.kitOne K (.type "str") (.type "list")=some false∧PySem.W.kitOne K (.type "str") (.type "tuple")=some false∧
    PySem.W.kitOne K (.type "list") (.type "int")=some false∧PySem.W.kitOne K (.type "list") (.type "bool")=some false∧PySem.W.kitOne K (.type "list") (.type "str")=some false∧PySem.W.kitOne K (.type "list") (.type "tuple")=some false∧PySem.W.kitOne K (.type "list") (.type "list")=some true:=by refine ⟨?_,?_,?_,?_,?_,?_,?_,?_,?_⟩<;>first | kernel_rfl | rfl
theorem kit_z {K:PySem.W.Frag}:PySem.W.kitOne K (.type "tuple") (.type "int")=some false∧PySem.W.kitOne K (.type "tuple") (.type "bool")=some false∧PySem.W.kitOne K (.type "tuple") (.type "list")=some false∧PySem.W.kitOne K (.type "tuple") (.type "str")=some false:=by refine ⟨?_,?_,?_,?_⟩<;>kernel_rfl
noncomputable def tyN:D→String
  | .non => "NoneType"
  | .bl _ => "bool"
  | .int _ => "int"
  | .str _ => "str"
  | .tup _ => "tuple"
  | .lst _ => "list"
  | .dic _ _ => "dict"
  | .exc _ => "x"
  | .obj _ _ _ => "x"
theorem kit_of {K:PySem.W.Frag} {T:TyT} {d:D} {b:Bool} (h:isTy T d=some b):PySem.W.kitOne K (.type (tyN d)) (.type T.nm)=some b:=by
  obtain ⟨x1,x2,x3,x4,x5,x6,x7,x8,x9⟩:=kit_x (K:=K)
  obtain ⟨y1,y2,y3,y4,y5,y6,y7,y8,y9⟩:=kit_y (K:=K)
  obtain ⟨z1,z2,z3,z4⟩:=kit_z (K:=K)
  cases T<;>cases d<;>cases h
  all_goals first | exact kit_int_int | exact kit_bool_int | exact kit_int_bool | exact kit_bool_bool | exact kit_none_int | exact kit_none_bool | exact kit_tup_tup | exact kit_str_str | assumption
noncomputable def rIsi (K:PySem.W.Frag) (T:TyT):List V→Hp→VK→Prop:=fun xs H Q=>∃ x d b,xs=[x,.ty T.nm]∧Rep K H d x∧isTy T d=some b∧Q (.bl b) H
theorem call_isi {X:Cx} (T:TyT):CallR X (.builtin "isinstance") (rIsi X.K T):=by
  intro pins s σ H xs us Q I r h
  obtain ⟨x,d,b,rfl,rd,e,q⟩:=h
  obtain ⟨u,c,rfl,rx,rc⟩:=vals2 r
  cases (show c=Value.type T.nm from rc)
  have fin:∀ tk,EP X pins σ Q (.bool b) { s with toks:=tk }:=fun tk=>⟨.bl b,H,I.tok tk,rfl,q⟩
  cases d with
  | non=>cases (show x=_ from rd); exact isinst_ok I rx .non (kit_of (d:=.non) e) fin
  | bl y=>cases (show x=_ from rd); exact isinst_ok I rx (.bl _) (kit_of (d:=.bl y) e) fin
  | int y=>cases (show x=_ from rd); exact isinst_ok I rx (.int _) (kit_of (d:=.int y) e) fin
  | str y=>cases (show x=_∧_ from rd).1; exact isinst_ok I rx (.str _) (kit_of (d:=.str y) e) fin
  | tup ds=>
    obtain ⟨a,vs,rfl,sq,_⟩:=rd
    cases (show u=Value.ref a from rx)
    obtain ⟨its,_,⟨o,h1,h2,_⟩,_⟩:=I.tuple sq
    exact PySem.W.kia_one PySem.W.kitx_tuple I.kIn ⟨o,h1,h2⟩ (kit_of (d:=.tup ds) e) (fun z=>nomatch z) fin
  | lst ds=>
    obtain ⟨a,vs,rfl,sq,_⟩:=rd
    cases (show u=Value.ref a from rx)
    obtain ⟨its,_,⟨o,n,h1,h2,_⟩,_⟩:=I.list sq
    exact PySem.W.kia_one PySem.W.kitx_list I.kIn ⟨o,h1,h2⟩ (kit_of (d:=.lst ds) e) (fun z=>nomatch z) fin
  | dic ks ds=>cases T<;>cases e
  | exc _=>cases T<;>cases e
  | obj _ _ _=>cases T<;>cases e
theorem se_isi {X:Cx} {a:Expr} {f:FE} {x:Str} {p p1 pos:Pos} (T:TyT) (hg:Gl X "isinstance") (hgT:Gl X x) (hm:X.mg "isinstance" = none) (hmT:X.mg x=none) (hv:bootBuiltins x=some (.type T.nm)) (ha:SB X a f) (hs:noStar a=true:=by rfl)
    (hn:x ≠ "__name__" := by decide) (hd:(x == ("__debug__" : Str))=false:=by decide):SE X (.Call (.Name "isinstance" p) [a,.Name x p1] [] pos) (eIsi T f):=by
  obtain ⟨t,pt,k⟩:=ha.h
  refine ⟨⟨_,(qe_callB (call_isi T) hg hm bt_isinstance (qa_cons ⟨pt⟩ (qa_cons (qe_bty hgT hmT hv hn hd) qa_nil rfl) hs) (by decide) (by decide) (by rw [List.all_cons,hs]; rfl)).h,fun {G0 H0 G H τ σ d Q} E hf q=>?_⟩⟩
  obtain ⟨z,hz,hf⟩:=bindE hf
  obtain ⟨b,hb,hf⟩:=bindE hf
  cases hf
  exact k E hz fun v G' H' x r=>⟨v,z,b,rfl,r,hb,q _ _ _ x rfl⟩
end L3
namespace L3
open PySem
theorem loop_by {g:FG} {b:FS} (P:Nat→SEnv→Prop):∀ {ds:List D} {σ:SEnv} (n:Nat),P n σ→(∀ i d σ,ds[i]?=some d→P (n+i) σ→∃ σ1 σ2,g d σ=some σ1∧(b σ1=some (.nx σ2)∨b σ1=some (.ct σ2))∧P (n+i+1) σ2)→
    ∃ σ',loopG g b ds σ=some (.nx σ')∧P (n+ds.length) σ'
  | [],σ,n,h,_=>⟨σ,rfl,h⟩
  | d::ds,σ,n,h,step=>by
    obtain ⟨σ1,σ2,e1,e2,p2⟩:=step 0 d σ rfl h
    obtain ⟨σ',e3,p3⟩:=loop_by P (ds:=ds) (σ:=σ2) (n+1) p2 fun i d' τ hd hp=>by
      obtain ⟨a,b',c1,c2,c3⟩:=step (i+1) d' τ (by simpa using hd) (by rw [show n+(i+1)=n+1+i by omega]; exact hp)
      exact ⟨a,b',c1,c2,by rw [show n+1+i+1=n+(i+1)+1 by omega]; exact c3⟩
    refine ⟨σ',?_,by rw [List.length_cons,show n+(ds.length+1)=n+1+ds.length by omega]; exact p3⟩
    show (g d σ).bind _=_
    rw [e1]
    show (b σ1).bind _=_
    rcases e2 with e2 | e2
    · rw [e2]; exact e3
    · rw [e2]; exact e3
theorem seq_nx {a b:FS} {σ σ':SEnv} (h:a σ=some (.nx σ')):sSeq a b σ=b σ':=by
  show (a σ).bind _=_
  rw [h]
  rfl
theorem if_t {c:FT} {a b:FS} {σ:SEnv} (h:c σ=some true):sIf c a b σ=a σ:=by
  show (c σ).bind _=_
  rw [h]
  rfl
noncomputable abbrev upTo (j:Nat):List D:=(List.range j).map fun k:Nat=>D.int k
theorem range_of {f:FE} {τ:SEnv} {n:Int} (h:f τ=some (.int n)) (h1:n.natAbs≤1000000):iRange (eC (.int 0)) f τ=some (upTo n.toNat):=by
  unfold iRange
  rw [h]
  show (if (0:Int).natAbs≤LIM∧n.natAbs≤LIM∧(n - 0).toNat≤LIM then _ else _)=_
  rw [if_pos ⟨by decide,by show _≤16777216; omega,by show _≤16777216; omega⟩,Int.sub_zero]
  simp only [Int.zero_add]
end L3
namespace L3
noncomputable def shx:=
  And.intro runF.eq_1 <| And.intro sSeq.eq_1 <| And.intro sSet.eq_1 <| And.intro sSetO.eq_1 <| And.intro sRet.eq_1 <| And.intro sRetO.eq_1 <| And.intro sRetV.eq_1 <| And.intro sIf.eq_1 <| And.intro sNext.eq_1 <| And.intro sFreeze.eq_1 <|
  And.intro sMut.eq_1 <| And.intro sMut1.eq_1 <| And.intro sFor.eq_1 <| And.intro loopG.eq_1 <| And.intro loopG.eq_2 <| And.intro e1.eq_1 <| And.intro e2.eq_1 <| And.intro eL.eq_1 <| And.intro eC.eq_1 <| And.intro eVar.eq_1 <| And.intro eAny.eq_1 <|
  And.intro aCons.eq_1 <| And.intro aNil.eq_1 <| And.intro tE.eq_1 <| And.intro asB.eq_def <| And.intro tAndF.eq_1 <| And.intro tOrF.eq_1 <| And.intro tNotF.eq_1 <| And.intro eAnd.eq_1 <| And.intro eOr.eq_1 <| And.intro eNot.eq_1 <| And.intro eIf.eq_1 <|
  And.intro eTup.eq_1 <| And.intro eLst.eq_1 <| And.intro eIsi.eq_1 <| And.intro isTy.eq_def <| And.intro fI.eq_def <| And.intro fSub.eq_def <| And.intro fCmp.eq_def <| And.intro fMulL.eq_1 <| And.intro fMulR.eq_1 <| And.intro fMod.eq_1 <| And.intro fDiv.eq_1 <|
  And.intro fPow.eq_1 <| And.intro fShl.eq_1 <| And.intro fShr.eq_1 <| And.intro fBit.eq_def <| And.intro fNeg.eq_def <| And.intro fLen.eq_def <| And.intro fInt.eq_def <| And.intro fIsN.eq_def <| And.intro fNotN.eq_def <| And.intro isNon.eq_def <|
  And.intro gVar.eq_1 <| And.intro gTwo.eq_1 <| And.intro iSeq.eq_1 <| And.intro eCall.eq_1 <| And.intro eCallO.eq_1 <| And.intro eLc.eq_1 <|
  And.intro @Option.bind_some.{0,0} <| And.intro @Option.bind_none.{0,0} <| And.intro @List.getElem?_cons_zero.{0} <| And.intro @List.getElem?_cons_succ.{0} <| And.intro @List.set_cons_zero.{0} <| And.intro @List.set_cons_succ.{0} <| And.intro @List.map_cons.{0,0} <| And.intro @List.map_nil.{0,0} <|
  And.intro @List.cons_append.{0} <| And.intro @List.nil_append.{0} <| And.intro @List.length_cons.{0} <| And.intro @List.length_nil.{0} <| And.intro @List.replicate_zero.{0} <| And.intro @List.replicate_succ.{0} <| And.intro Bool.not_true <| And.intro Bool.not_false <|
  And.intro @decide_true <| And.intro @decide_false <| And.intro Bool.and_self <| And.intro Bool.and_true Bool.true_and
end L3
namespace L3
open PySem PySem.Spec PyProof.Rows L2
section
variable {α:Type}
theorem zip_any:∀ {ks:List Key} {vs:List α} (k:Key),ks.length=vs.length→((ks.zip vs).any fun kv=>decide (kv.1=k))=hasK ks k
  | [],[],_,_=>rfl
  | k'::ks,v::vs,k,h=>by
    have ih:=zip_any (ks:=ks) (vs:=vs) k (by simpa using h)
    show (decide (k'=k)||((ks.zip vs).any fun kv=>decide (kv.1=k)))=(decide (k'=k)||hasK ks k)
    rw [ih]
theorem zip_val:∀ {ks:List Key} {vs:List V} (k:Key),ks.length=vs.length→valV (ks.zip vs) k=getK ks vs k
  | [],[],_,_=>rfl
  | k'::ks,v::vs,k,h=>by
    have ih:=zip_val (ks:=ks) (vs:=vs) k (by simpa using h)
    by_cases e:k'=k
    · rw [List.zip_cons_cons,valV_pos (p:=(k',v)) e]
      show _=(if k'=k then some v else _)
      rw [if_pos e]
    · rw [List.zip_cons_cons,valV_neg (p:=(k',v)) e,ih]
      show _=(if k'=k then some v else _)
      rw [if_neg e]
theorem zip_map:∀ {ks:List Key} {vs:List V} (k:Key) (v:V),ks.length=vs.length→((ks.zip vs).map fun kv=>if kv.1=k then (kv.1,v) else kv)=ks.zip (List.zipWith (fun k' x=>if k'=k then v else x) ks vs)
  | [],[],_,_,_=>rfl
  | k'::ks,u::vs,k,v,h=>by
    have ih:=zip_map (ks:=ks) (vs:=vs) k v (by simpa using h)
    rw [List.zip_cons_cons,List.map_cons,ih,List.zipWith_cons_cons,List.zip_cons_cons]
    by_cases e:k'=k
    · rw [if_pos e,if_pos e]
    · rw [if_neg e,if_neg e]
theorem zip_put {ks:List Key} {vs:List V} {k:Key} {v:V} (h:ks.length=vs.length):putK (ks.zip vs) k v=(putKs ks k).zip (putVs ks vs k v):=by
  unfold putK putKs putVs
  rw [zip_any k h]
  by_cases c:hasK ks k=true
  · rw [if_pos c,if_pos c,if_pos c,zip_map k v h]
  · rw [if_neg c,if_neg c,if_neg c,List.zip_append h]
    rfl
theorem put_len {ks:List Key} {vs:List α} {k:Key} {v:α} (h:ks.length=vs.length):(putKs ks k).length=(putVs ks vs k v).length:=by
  unfold putKs putVs
  split
  · rw [List.length_zipWith,h,Nat.min_self]
  · rw [List.length_append,List.length_append,h]
    rfl
theorem put_le {ks:List Key} {vs:List α} {k:Key} {v:α} (h:ks.length=vs.length):(putVs ks vs k v).length≤vs.length+1:=by
  unfold putVs
  split
  · rw [List.length_zipWith,h,Nat.min_self]
    exact Nat.le_succ _
  · rw [List.length_append]
    exact Nat.le_refl _
end
section
variable {K:PySem.W.Frag} {G H:Hp}
theorem Reps.getK:∀ {ks:List Key} {ds:List D} {vs:List V} {k:Key} {d:D},Reps K H ds vs→getK ks ds k=some d→∃ v,getK ks vs k=some v∧Rep K H d v
  | [],_,_,_,_,_,e=>by cases e
  | _::_,[],_,_,_,_,e=>by cases e
  | k'::ks,d'::ds,_,k,d,r,e=>by
    obtain ⟨v,r',rfl,hv,hr⟩:=r
    change (if k'=k then some d' else L3.getK ks ds k)=some d at e
    by_cases c:k'=k
    · rw [if_pos c] at e
      cases e
      exact ⟨v,by show (if k'=k then some v else _)=_; rw [if_pos c],hv⟩
    · rw [if_neg c] at e
      obtain ⟨u,hu,ru⟩:=Reps.getK hr e
      exact ⟨u,by show (if k'=k then some v else _)=_; rw [if_neg c]; exact hu,ru⟩
theorem getK_has {α:Type}:∀ {ks:List Key} {vs:List α} (k:Key),ks.length=vs.length→(getK ks vs k).isSome=hasK ks k
  | [],[],_,_=>rfl
  | k'::ks,v::vs,k,h=>by
    have ih:=getK_has (ks:=ks) (vs:=vs) k (by simpa using h)
    show (if k'=k then some v else getK ks vs k).isSome=(decide (k'=k)||_)
    by_cases c:k'=k
    · rw [if_pos c,decide_eq_true c]; rfl
    · rw [if_neg c,decide_eq_false c,ih]; rfl
theorem Reps.zipW {k:Key} {d:D} {v:V} (hv:Rep K H d v):∀ {ks:List Key} {ds:List D} {vs:List V},Reps K H ds vs→Reps K H (List.zipWith (fun k' x=>if k'=k then d else x) ks ds) (List.zipWith (fun k' x=>if k'=k then v else x) ks vs)
  | [],_,_,_=>rfl
  | _::_,[],_,r=>by cases (show _=[] from r); rfl
  | k'::ks,d'::ds,_,r=>by
    obtain ⟨u,r',rfl,hu,hr⟩:=r
    refine ⟨_,_,rfl,?_,Reps.zipW hv hr⟩
    show Rep K H (if k'=k then d else d') (if k'=k then v else u)
    by_cases c:k'=k
    · rw [if_pos c,if_pos c]; exact hv
    · rw [if_neg c,if_neg c]; exact hu
theorem Reps.put {ks:List Key} {ds:List D} {vs:List V} {k:Key} {d:D} {v:V} (r:Reps K H ds vs) (hv:Rep K H d v):Reps K H (putVs ks ds k d) (putVs ks vs k v):=by
  unfold putVs
  split
  · exact Reps.zipW hv r
  · exact r.append (Reps.one hv)
theorem key_rep {x:D} {k:Key} {u:V} (h:keyD x=some k) (r:Rep K H x u):u=kV k:=by
  cases x<;>first | (cases h; done) | skip
  · cases h; exact r
  · cases h; exact (show u=_∧_ from r).1
end
section
variable {X:Cx} {K:PySem.W.Frag}
noncomputable def rIxD:R2:=fun x y H Q=>∃ a kvs k v,x=.ref a∧y=kV k∧Rd H a (.dK kvs)∧valV kvs k=some v∧Q v H
theorem ix_dict:IxR X rIxD:=by
  intro value slice pins s σ H x y v u Q I rx ry h hs
  obtain ⟨a,kvs,k,z,rfl,rfl,e,l,q⟩:=h
  cases rx
  obtain ⟨_,_,vs,rel,dd⟩:=dk_rd I.hok e
  obtain ⟨w',hw,rw'⟩:=RelO.some_of (v:=z) (o:=valueAt vs k) (by rw [← l]; exact rel.val k)
  exact subscriptTail_builtinR (x:=w') (dict_typeIs I (.inl ⟨kvs,k,e,rfl,rfl⟩)) PySem.F.slot_dict_getitem.lookup
    (wpAny_getItem_of (Q:=fun r s'=>r=w'∧EP X pins σ Q r s') (kV_is ry) dd.mapOf hw ⟨rfl,z,H,I.tok _,rw',q⟩) hs
noncomputable def rIxA (K:PySem.W.Frag):R2:=fun x y H Q=>rIx K x y H Q∨rIxD x y H Q
theorem ix_S (_:X.A.units+1<cLine):IxR X (rIxA X.K):=ix_seq.or ix_dict
theorem ok_ix:Ok2 K (rIxA K) fIx:=fun G H x y u v d Q s rx ry hf q=>by
  cases x with
  | dic ks ds=>
    obtain ⟨a,vs,rfl,sq,l,rs,_⟩:=rx
    obtain ⟨k,hk,hf⟩:=bindE hf
    obtain ⟨z,hz,rz⟩:=rs.getK hf
    exact .inr ⟨a,_,k,z,rfl,key_rep hk ry,Rd.mono s sq,by rw [zip_val k l]; exact hz,q _ _ _ (Ext.refl s) rz⟩
  | non=>cases hf
  | bl b=>cases hf
  | int b=>cases hf
  | str z=>exact .inl (ok_ix0 G H (.str z) y u v d Q s rx ry (by cases y<;>exact hf) q)
  | tup z=>exact .inl (ok_ix0 G H (.tup z) y u v d Q s rx ry (by cases y<;>exact hf) q)
  | lst z=>exact .inl (ok_ix0 G H (.lst z) y u v d Q s rx ry (by cases y<;>exact hf) q)
  | exc z=>cases hf
  | obj z _ _=>cases hf
noncomputable def rInD (neg:Bool):R2:=fun x y H Q=>∃ a kvs k,y=.ref a∧x=kV k∧Rd H a (.dK kvs)∧Q (.bl (if neg then !(valV kvs k).isSome else (valV kvs k).isSome)) H
theorem op_inD (hu:X.A.units+1<cLine):OpR X (compareOp .In) (rInD false):=by
  intro pins s σ H x y v u Q I rx ry h
  obtain ⟨a,kvs,k,rfl,rfl,e,q⟩:=h
  cases ry
  exact d_in hu I (.inl ⟨kvs,k,e,rfl,rfl⟩) rx fun s' I'=>⟨.bl _,H,I',rfl,q⟩
theorem op_notInD (hu:X.A.units+1<cLine):OpR X (compareOp .NotIn) (rInD true):=by
  intro pins s σ H x y v u Q I rx ry h
  obtain ⟨a,kvs,k,rfl,rfl,e,q⟩:=h
  cases ry
  exact d_notIn hu I (.inl ⟨kvs,k,e,rfl,rfl⟩) rx fun s' I'=>⟨.bl _,H,I',rfl,q⟩
noncomputable def rInA (K:PySem.W.Frag) (neg:Bool):R2:=fun x y H Q=>rIn K neg x y H Q∨(∃ i j,x=.str i∧y=.str j∧Q (.bl (if neg then !(!(Builtin.Str.occurrences j i 0 j.length 1).isEmpty) else !(Builtin.Str.occurrences j i 0 j.length 1).isEmpty)) H)∨rInD neg x y H Q
theorem op_inS (hu:X.A.units+1<cLine):OpR X (compareOp .In) (rInA X.K false):=op_in_seq.or (op_in_str.or (op_inD hu))
theorem op_notInS (hu:X.A.units+1<cLine):OpR X (compareOp .NotIn) (rInA X.K true):=op_notIn_seq.or (op_notIn_str.or (op_notInD hu))
theorem reps_any {H:Hp} {x:D} {u:V} (hx:flatD x=true) (rx:Rep K H x u):∀ {ys:List D} {vs:List V},Reps K H ys vs→ys.all flatD=true→vs.all flatV=true∧inV u vs=ys.any fun y=>dEq y x
  | [],_,r,_=>by cases (show _=[] from r); exact ⟨rfl,rfl⟩
  | y::ys,_,r,h=>by
    obtain ⟨v,r',rfl,hv,hr⟩:=r
    rw [List.all_cons,Bool.and_eq_true] at h
    obtain ⟨a,b⟩:=reps_any hx rx hr h.2
    refine ⟨by rw [List.all_cons,rep_flat h.1 hv,a]; rfl,?_⟩
    show (eqV v u||inV u r')=(dEq y x||_)
    rw [rep_eqV h.1 hx hv rx,b]
theorem in_core {neg:Bool} {H:Hp} {x y:D} {u v:V} {k:Bool} {Q:VK} (rx:Rep K H x u) (ry:Rep K H y v) (hf:fInB x y=some k) (q:Q (.bl (if neg then !k else k)) H):rInA K neg u v H Q:=by
  cases y with
  | lst ys=>
    obtain ⟨a,vs,rfl,sq,rs,_⟩:=ry
    change (match flatD x&&ys.all flatD with | true=>some (ys.any fun y=>dEq y x) | false=>none)=some k at hf
    cases c:(flatD x&&ys.all flatD) with
    | false=>rw [c] at hf; cases hf
    | true=>
      rw [c] at hf
      cases hf
      rw [Bool.and_eq_true] at c
      obtain ⟨c1,c2⟩:=reps_any c.1 rx rs c.2
      exact .inl ⟨a,vs,rfl,.inl sq,rep_flat c.1 rx,c1,by rw [c2]; exact q⟩
  | tup ys=>
    obtain ⟨a,vs,rfl,sq,rs,_⟩:=ry
    change (match flatD x&&ys.all flatD with | true=>some (ys.any fun y=>dEq y x) | false=>none)=some k at hf
    cases c:(flatD x&&ys.all flatD) with
    | false=>rw [c] at hf; cases hf
    | true=>
      rw [c] at hf
      cases hf
      rw [Bool.and_eq_true] at c
      obtain ⟨c1,c2⟩:=reps_any c.1 rx rs c.2
      exact .inl ⟨a,vs,rfl,.inr sq,rep_flat c.1 rx,c1,by rw [c2]; exact q⟩
  | str j=>
    cases x<;>first | (cases hf; done) | skip
    rename_i i
    cases hf
    exact .inr (.inl ⟨i,j,(show u=_∧_ from rx).1,(show v=_∧_ from ry).1,q⟩)
  | dic ks ds=>
    obtain ⟨kk,hk,hf⟩:=bindE hf
    cases hf
    obtain ⟨a,vs,rfl,sq,l,rs,_⟩:=ry
    refine .inr (.inr ⟨a,_,kk,rfl,key_rep hk rx,sq,?_⟩)
    rw [zip_val kk l,getK_has kk l]
    exact q
  | _=>cases hf
theorem ok_in:Ok2B K (rInA K false) fIn:=fun H x y u v d Q rx ry hf=>by
  obtain ⟨k,hk,hf⟩:=bindE hf
  cases hf
  exact ⟨_,rfl,fun q=>in_core rx ry hk q⟩
theorem ok_notIn:Ok2B K (rInA K true) fNotIn:=fun H x y u v d Q rx ry hf=>by
  obtain ⟨k,hk,hf⟩:=bindE hf
  cases hf
  exact ⟨_,rfl,fun q=>in_core rx ry hk q⟩
theorem sf_dnew {pos:Pos}:SF X (.Dict [] [] pos) (eC (.dic [] [])):=⟨⟨_,pe_dnewK,fun {G0 H0 G H τ σ d Q} E hf q p hp=>by
  cases hf
  exact q p G _ (Ext.layO E.ext.gh hp) hp (E.ext.gh.free hp) ⟨[],upd_same,rfl,rfl,Nat.zero_le _⟩⟩⟩
theorem ss_dput {i:Nat} {x:Str} {xp pos pos':Pos} {k v:Expr} {fk fv:FE} (hu:X.A.units+1<cLine) (ho:QE X (.Name x xp) (tVar i)) (hk:SE X k fk) (hv:SE X v fv) (hs:swapsWith v (some (.Subscript (.Name x xp) k pos')) pos.line X.env=pure false:=by rfl) :
    SS X (.Assign [.Subscript (.Name x xp) k pos'] v pos) (sPut i fk fv):=by
  obtain ⟨tk,pk,kk⟩:=hk.h
  obtain ⟨tv,pv,kv⟩:=hv.h
  refine ⟨⟨_,ps_dput hu ho.h pk pv hs,fun {G0 H0 G H τ σ fl E} K hf q=>?_⟩⟩
  obtain ⟨y,hy,hf⟩:=bindE hf
  refine kv K hy fun w G1 H1 x1 r1=>?_
  split at hf
  · rename_i ks ds hd
    obtain ⟨xk,hx,hf⟩:=bindE hf
    obtain ⟨key,hkey,hf⟩:=bindE hf
    by_cases c:ks.length<LIM
    · rw [if_pos c] at hf
      cases hf
      have K1:=K.go x1
      obtain ⟨a,ea,g,z,vs,ev,l,rs,hl⟩:=K1.ow _ _ hd
      refine ⟨_,ea,kk K1 hx fun u G2 H2 x2 r2=>⟨a,_,rfl,.inl ⟨_,key,x2.h _ _ ev,key_rep hkey r2,?_,rfl⟩,?_⟩⟩
      · rw [List.length_zip,l,Nat.min_self,sizeLine_eq,← l]; exact c
      · refine q _ _ _ ((K1.go x2).mut hd ea ⟨putVs ks vs key w,?_,put_len l,(rs.mono x2.g).put (r1.mono x2.g),?_⟩)
        · rw [upd_same,zip_put l]
        · have h1:=put_le (ks:=ks) (vs:=ds) (k:=key) (v:=y) (by rw [l,rs.length])
          have h2:ds.length<16777216:=by rw [← rs.length,← l]; exact c
          rw [sizeLine_eq]
          omega
    · rw [if_neg c] at hf
      cases hf
  · cases hf
end
end L3
namespace L3
open PySem PySem.Spec PyProof.Rows L2
section
variable {K:PySem.W.Frag} {G H:Hp}
end
section
variable {X:Cx} {a b e o:Expr} {fa fb f:FE} {p pos apos cpos:Pos}
noncomputable abbrev FO:=SEnv→Option (Option Int)
noncomputable def oNone:FO:=fun _=>some none
noncomputable def oSome (f:FE):FO:=fun σ=>(f σ).bind fun d=>match d with
  | .int i=>some (some i)
  | _=>none
noncomputable def cutD {α:Type} (xs:List α) (lo hi:Option Int):List α:=(xs.drop (HT.sIx xs.length 0 lo)).take (HT.sIx xs.length xs.length hi - HT.sIx xs.length 0 lo)
noncomputable def fSl (d:D) (lo hi:Option Int):Option D:=match d with
  | .lst xs=>some (.lst (cutD xs lo hi))
  | .tup xs=>if HT.sIx xs.length 0 lo=0∧HT.sIx xs.length xs.length hi=xs.length then none else some (.tup (cutD xs lo hi))
  | .str z=>some (.str (cutS z lo hi))
  | _=>none
noncomputable def eSl (a:FE) (lo hi:FO):FE:=fun σ=>(a σ).bind fun d=>(lo σ).bind fun l=>(hi σ).bind fun h=>fSl d l h
structure SO (X:Cx) (e:Option Expr) (f:FO):Prop where
  h:∃ t,PO X e t∧∀ {G0 H0 G H:Hp} {τ:SEnv} {σ:St} {d:Option Int} {Q:Option Int→Hp→Prop},EnvOk X.K X.N.length G0 H0 G H τ σ→f τ=some d→(∀ G' H',Ext G H G' H'→Q d H')→t σ H Q
theorem so_none:SO X none oNone:=⟨⟨_,po_none,fun E hf q=>by cases hf; exact q _ _ (Ext.refl E.ext.gh)⟩⟩
theorem so_some (h:SE X e f):SO X (some e) (oSome f):=by
  obtain ⟨t,pt,k⟩:=h.h
  refine ⟨⟨_,po_some pt,fun {G0 H0 G H τ σ d Q} E hf q=>?_⟩⟩
  obtain ⟨x,hx,hf⟩:=bindE hf
  cases x<;>first | (cases hf; done) | skip
  cases hf
  exact k E hx fun v G' H' x r=>⟨_,r,q _ _ x⟩
theorem Reps.cut {K:PySem.W.Frag} {G:Hp} {ds:List D} {vs:List V} (r:Reps K G ds vs) (lo hi:Option Int):Reps K G (cutD ds lo hi) (cutV vs lo hi):=by
  unfold cutD cutV
  rw [r.length]
  exact (r.drop _).take _
theorem cutD_len {α:Type} (xs:List α) (lo hi:Option Int):(cutD xs lo hi).length≤xs.length:=by
  unfold cutD
  rw [List.length_take,List.length_drop]
  omega
noncomputable def rSlA (K:PySem.W.Frag):V→Option Int→Option Int→Hp→VK→Prop:=fun x lo hi H Q=>rSlL K x lo hi H Q∨rSlT K x lo hi H Q∨rSlS x lo hi H Q
theorem sl_S:SlR X (rSlA X.K):=sl_list.or (sl_tup.or sl_str)
theorem se_sl {lo hi:Option Expr} {fl fh:FO} {p2:Pos} (ha:SE X a fa) (hl:SO X lo fl) (hh:SO X hi fh):SE X (.Subscript a (.Slice lo hi none p2) pos) (eSl fa fl fh):=by
  obtain ⟨ta,pa,ka⟩:=ha.h
  obtain ⟨tl,pl,kl⟩:=hl.h
  obtain ⟨th,ph,kh⟩:=hh.h
  refine ⟨⟨_,pe_slice sl_S pa pl ph,fun {G0 H0 G H τ σ d Q} E hf q=>?_⟩⟩
  obtain ⟨x,hx,hf⟩:=bindE hf
  obtain ⟨l,hl,hf⟩:=bindE hf
  obtain ⟨h,hh,hf⟩:=bindE hf
  refine ka E hx fun v G1 H1 x1 r1=>kl (E.go x1) hl fun G2 H2 x2=>kh ((E.go x1).go x2) hh fun G3 H3 x3=>?_
  have xx:=x1.trans (x2.trans x3)
  have r3:=r1.mono (x2.g.trans x3.g)
  cases x with
  | lst xs=>
    cases hf
    obtain ⟨a,vs,rfl,sq,rs,ll⟩:=r3
    refine .inl ⟨a,vs,rfl,sqL_mono x3.gh sq,fun p hp=>q _ _ _ (xx.trans (Ext.lay x3.gh hp)) ⟨p,_,rfl,SqL.of upd_same,(rs.cut l h).mono (same_new (x3.gh.free hp) _),Nat.le_trans (cutD_len ..) ll⟩⟩
  | tup xs=>
    change (if HT.sIx xs.length 0 l=0∧HT.sIx xs.length xs.length h=xs.length then none else some (D.tup (cutD xs l h)))=some d at hf
    by_cases c:HT.sIx xs.length 0 l=0∧HT.sIx xs.length xs.length h=xs.length
    · rw [if_pos c] at hf
      cases hf
    · rw [if_neg c] at hf
      cases hf
      obtain ⟨a,vs,rfl,sq,rs,ll⟩:=r3
      refine .inr (.inl ⟨a,vs,rfl,sqT_mono x3.gh sq,by rw [rs.length]; exact c,fun p hp=>?_⟩)
      exact q _ _ _ (xx.trans (Ext.lay x3.gh hp)) ⟨p,_,rfl,SqT.of upd_same,(rs.cut l h).mono (same_new (x3.gh.free hp) _),Nat.le_trans (cutD_len ..) ll⟩
  | str z=>
    cases hf
    obtain ⟨rfl,ll⟩:=r3
    exact .inr (.inr ⟨z,rfl,ll,q _ _ _ xx ⟨rfl,Nat.le_trans (cut_len ..) ll⟩⟩)
  | _=>cases hf
noncomputable def fList:List D→Option D
  | [.lst xs]=>some (.lst xs)
  | [.tup xs]=>some (.lst xs)
  | _=>none
noncomputable def fTuple:List D→Option D
  | [.lst xs]=>some (.tup xs)
  | [.tup xs]=>some (.tup xs)
  | _=>none
theorem reps_one {K:PySem.W.Frag} {G:Hp} {d:D} {vs:List V} (r:Reps K G [d] vs):∃ v,vs=[v]∧Rep K G d v:=by
  obtain ⟨v,r',rfl,hv,hr⟩:=r
  cases (show r'=[] from hr)
  exact ⟨v,rfl,hv⟩
theorem sf_list {fs:FA} (hg:Gl X "list") (hm:X.mg "list" = none) (ha:SA X [e] fs) (hs:noStar e=true:=by rfl):SF X (.Call (.Name "list" p) [e] [] pos) (eL fList fs):=by
  obtain ⟨t,pt,k⟩:=ha.h
  refine ⟨⟨_,(qe_callTy call_list_of hg hm boot_ty_list ⟨pt⟩ (by decide) (by decide) (by rw [List.all_cons,hs]; rfl)).h,fun {G0 H0 G H τ σ d Q} E hf q=>?_⟩⟩
  obtain ⟨ds,hd,hf⟩:=bindE hf
  refine k E hd fun vs G1 H1 x1 r1=>?_
  match ds,hf with
  | [.lst xs],hf=>
    cases hf
    obtain ⟨v,rfl,a,us,rfl,sq,rs,l⟩:=reps_one r1
    exact ⟨a,us,rfl,.inl (sqL_mono x1.gh sq),fun p hp=>q p _ _ (x1.trans (Ext.layO x1.gh hp)) (x1.h.free hp) (x1.gh.free hp) ⟨us,upd_same,rs,l⟩⟩
  | [.tup xs],hf=>
    cases hf
    obtain ⟨v,rfl,a,us,rfl,sq,rs,l⟩:=reps_one r1
    exact ⟨a,us,rfl,.inr (sqT_mono x1.gh sq),fun p hp=>q p _ _ (x1.trans (Ext.layO x1.gh hp)) (x1.h.free hp) (x1.gh.free hp) ⟨us,upd_same,rs,l⟩⟩
theorem ok_tuple {K:PySem.W.Frag}:OkCG K (fun xs H Q=>∃ p ys,xs=[.ref p]∧((SqL K H p ys∧∀ l,H l=none→Q (.ref l) (upd H l (.tup ys)))∨(SqT K H p ys∧Q (.ref p) H))) fTuple:=fun G H ds vs d Q s r hf q=>by
  match ds,hf with
  | [.lst xs],hf=>
    cases hf
    obtain ⟨v,rfl,a,us,rfl,sq,rs,l⟩:=reps_one r
    exact ⟨a,us,rfl,.inl ⟨sqL_mono s sq,fun p hp=>q _ _ _ (Ext.lay s hp) ⟨p,us,rfl,SqT.of upd_same,rs.mono (same_new (s.free hp) _),l⟩⟩⟩
  | [.tup xs],hf=>
    cases hf
    obtain ⟨v,rfl,a,us,rfl,sq,rs,l⟩:=reps_one r
    exact ⟨a,us,rfl,.inr ⟨sqT_mono s sq,q _ _ _ (Ext.refl s) ⟨a,us,rfl,sq,rs,l⟩⟩⟩
theorem ss_aug {i:Nat} {x:Str} {op:Operator} {ti:TIp} {F:D→D→Option D} {pos':Pos} (ho:PIp X op ti) (hF:Ok2 X.K ti F) (hN:X.N.Nodup) (hi:X.N[i]?=some x) (hx:Loc X.env.scope x) (he:SE X e f) (hf:X.fn x=true∨X.env.scope.names.lookup x=some .local:=by first | exact .inl rfl | exact .inr rfl | assumption) :
    SS X (.AugAssign (.Name x pos') op e pos) (sSet i (e2 F (eVar i) f)):=by
  obtain ⟨t,pt,k⟩:=he.h
  refine ⟨⟨_,ps_aug hN hi hx pt ho hf,fun {G0 H0 G H τ σ fl E} K hf q=>?_⟩⟩
  obtain ⟨d,hd,hf⟩:=bindE hf
  cases hf
  obtain ⟨x,hx,hd⟩:=bindE hd
  obtain ⟨y,hy,hd⟩:=bindE hd
  obtain ⟨v,ev,rv⟩:=K.fr _ _ (eVar_at hx)
  refine ⟨v,ev,k K hy fun u G1 H1 x1 r1=>hF G1 H1 x y v u d _ x1.gh (rv.mono x1.g) r1 hd fun w G2 H2 x2 r2=>?_⟩
  exact q _ _ _ (((K.go x1).go x2).set (List.getElem?_eq_some_iff.mp hi).1 r2)
theorem ok_ipI {K:PySem.W.Frag}:Ok2 K (ipI fun i j=>i+j) (fBit fun i j=>i+j):=fun G H x y u v d Q s rx ry hf q=>by
  cases x<;>first | (cases hf; done) | skip
  cases y<;>first | (cases hf; done) | skip
  cases hf
  exact ⟨_,_,rx,ry,q _ _ _ (Ext.refl s) rfl⟩
variable {x:Str} {ps:List Str} {j k:Nat} {FF:List D→Option (Bool×D)}
theorem se_call0 (h:Has X.prog X.w X.K X.mg X.base x ps k (spF X.K FF)) (hr:Room j X.A) (hg:Gl X x) (hk:k≤j:=by decide) (hdb:(x == ("__debug__" : Str))=false:=by decide):SE X (.Call (.Name x p) [] [] pos) (eCall FF aNil):=by
  obtain ⟨f,fd,hm,kp,b,F⟩:=h
  refine ⟨⟨_,pe_call0 F (hr.mono hk) hg hm kp b .nil pass0 hdb,fun {G0 H0 G H τ σ d Q} E hf q=>?_⟩⟩
  obtain ⟨ds,hd,hf⟩:=bindE hf
  cases hd
  obtain ⟨⟨o,d⟩,hr,hf⟩:=bindE hf
  cases hf
  refine ⟨G,[],o,d,E.ext.gh,rfl,hr,?_⟩
  cases o with
  | false=>exact fun v G' H' x2 r=>q v G' H' x2 r
  | true=>
    intro p G' H' x2 hp gp o
    obtain ⟨u,hu,r⟩:=o.frz gp
    exact q _ _ _ (x2.frz hp gp hu) r
end
noncomputable def FR (n N:Nat) (b:FS) (ds:List D):Option (Bool×D):=if ds.length=n then runF N b ds else none
theorem FR_ok {n N:Nat} {b:FS}:∀ ds r,FR n N b ds=some r→ds.length=n∧runF N b ds=some r:=fun ds r h=>by
  unfold FR at h
  split at h
  · rename_i c
    exact ⟨c,h⟩
  · cases h
end L3
namespace L3
open PySem PySem.Spec PyProof.Rows L2
section
variable {X:Cx} {e o k v:Expr} {f fo fk fv:FE} {x:Str} {xp p pos apos cpos:Pos}
structure SD (X:Cx) (pos:Pos) (keys:List (Option Expr)) (values:List Expr) (ks:List Str) (fs:FA):Prop where
  h:∃ trs,PPs X pos keys values trs∧∀ {G0 H0 G H:Hp} {τ:SEnv} {σ:St} {ds:List D} {Q:List (V×V)→Hp→Prop},EnvOk X.K X.N.length G0 H0 G H τ σ→fs τ=some ds→(∀ vs G' H',Ext G H G' H'→Reps X.K G' ds vs→vs.length=ks.length→Q ((ks.map V.str).zip vs) H')→tPairs trs σ H Q
theorem sd_nil:SD X pos [] [] [] aNil:=⟨⟨_,pps_nil,fun E hf q=>by
  cases hf
  exact q [] _ _ (Ext.refl E.ext.gh) rfl rfl⟩⟩
theorem sd_cons {x:Str} {j:Nat} {ks:List (Option Expr)} {vs:List Expr} {xs:List Str} {fs:FA} (hv:SE X v fv) (hr:SD X pos ks vs xs fs):SD X pos (some (.Constant (.str x) j xp)::ks) (v::vs) (x::xs) (aCons fv fs):=by
  obtain ⟨tv,pv,kv⟩:=hv.h
  obtain ⟨tr,pr,kr⟩:=hr.h
  refine ⟨⟨_,pps_cons pe_str pv pr,fun {G0 H0 G H τ σ ds Q} E hf q=>?_⟩⟩
  obtain ⟨d,hd,hf⟩:=bindE hf
  obtain ⟨es,hes,hf⟩:=bindE hf
  cases hf
  refine kv E hd fun u G1 H1 x1 r1=>kr (E.go x1) hes fun us G2 H2 x2 r2 l=>?_
  exact q (u::us) _ _ (x1.trans x2) ⟨u,us,rfl,r1.mono x2.g,r2⟩ (by rw [List.length_cons,List.length_cons,l])
theorem merge_new:∀ (kvs acc:List (Key×V)),(kvs.map (·.1)).Nodup→(∀ kv∈kvs,valV acc kv.1=none)→mergeK acc kvs=acc++kvs
  | [],acc,_,_=>by rw [List.append_nil]; rfl
  | kv::r,acc,nd,hn=>by
    rw [List.map_cons,List.nodup_cons] at nd
    have h0:=hn kv List.mem_cons_self
    show mergeK (putK acc kv.1 kv.2) r=_
    rw [putK_new kv.2 h0,merge_new r _ nd.2 (fun kv' m=>?_)]
    · rw [List.append_assoc]; rfl
    · rw [valV_snoc kv.1 kv'.1 kv.2 acc h0,if_neg (fun e=>nd.1 (by rw [← e]; exact List.mem_map_of_mem m))]
      exact hn kv' (List.mem_cons_of_mem _ m)
theorem zip_strs:∀ {ks:List Str} {vs:List V},(ks.map V.str).zip vs=(((ks.map Sum.inr:List Key).zip vs).map fun kv=>(kV kv.1,kv.2))
  | [],_=>rfl
  | _::_,[]=>rfl
  | k::ks,v::vs=>by
    rw [List.map_cons,List.map_cons,List.zip_cons_cons,List.zip_cons_cons,List.map_cons,zip_strs]
    rfl
theorem zip_keys:∀ {ks:List Key} {vs:List V},ks.length=vs.length→(ks.zip vs).map (·.1)=ks
  | [],[],_=>rfl
  | k::ks,v::vs,h=>by rw [List.zip_cons_cons,List.map_cons,zip_keys (by simpa using h)]
theorem sf_disp {keys:List (Option Expr)} {values:List Expr} {ks:List Str} {fs:FA} (h:SD X pos keys values ks fs) (nd:ks.Nodup) (h15:ks.length≤15) (hall:keys.all (·.isSome)=true:=by rfl) (hl:keys.length=values.length:=by rfl) (h0:keys≠[]:=by exact fun z=>nomatch z) (h15':keys.length≤15:=by decide) :
    SF X (.Dict keys values pos) (eDisp ks fs):=by
  obtain ⟨trs,pr,kr⟩:=h.h
  refine ⟨⟨_,pe_disp pr hall hl h0 h15',fun {G0 H0 G H τ σ d Q} E hf q p hp=>?_⟩⟩
  obtain ⟨ds,hds,hf⟩:=bindE hf
  have x0:Ext G H G (upd H p (.dK [])):=Ext.layO E.ext.gh hp
  refine kr (E.go x0) hds fun vs G2 H2 x2 r2 l=>?_
  have e2:H2 p=some (.dK []):=x2.h _ _ upd_same
  have g2:G2 p=none:=by
    cases c:G2 p with
    | none=>rfl
    | some u=>
      rcases x2.new p (by rw [c]; exact fun z=>nomatch z) with z | z
      · exact absurd (E.ext.gh.free hp) z
      · rw [upd_same] at z; cases z
  have hk:(ks.map Sum.inr:List Key).length=vs.length:=by rw [List.length_map,l]
  by_cases c:ks.length=ds.length
  · rw [if_pos c] at hf
    cases hf
    refine ⟨e2,(ks.map Sum.inr:List Key).zip vs,zip_strs,by rw [List.length_zip,hk,Nat.min_self,l]; exact h15,?_⟩
    rw [merge_new _ [] (by rw [zip_keys hk]; exact List.Pairwise.map _ (fun a b h z=>h (Sum.inr.inj z)) nd) (fun _ _=>rfl),List.nil_append]
    have xx:Ext G H G2 (upd H2 p (.dK ((ks.map Sum.inr:List Key).zip vs))):=by
      have y:=x0.trans x2
      refine ⟨y.g,fun b u z=>?_,fun b u z=>?_,y.new⟩
      · rw [upd_ne (ne_of_none z hp)]; exact y.h _ _ z
      · rw [upd_ne (ne_of_none z g2)]; exact x2.gh _ _ z
    exact q p _ _ xx hp g2 ⟨vs,upd_same,hk,r2,by rw [← c]; exact small (by omega)⟩
  · rw [if_neg c] at hf
    cases hf
noncomputable def bitsI (i:Int):Nat:=Builtin.Int.intBits i
noncomputable def fMulB:D→D→Option D:=fI (fun i j=>decide (bitsI i+bitsI j≤134217728)) (·*·)
theorem op_mulB:OpR X (binaryOp .Mult) (rI (fun i j=>bitsI i+bitsI j≤134217728) fun i j=>.int (i*j)):=opI fun i j _ _ _ _ _ hc q=>mul_int q (by
  unfold IntMulOk
  intro h
  rw [Bool.and_eq_true] at h
  have h2:decide (((Builtin.Int.intBits i+Builtin.Int.intBits j:Nat):Int) > (134217728:Nat))=true:=h.2
  have h3:=of_decide_eq_true h2
  have h4:Builtin.Int.intBits i+Builtin.Int.intBits j≤134217728:=hc
  omega)
theorem ok_mulB {K:PySem.W.Frag}:Ok2 K (rI (fun i j=>bitsI i+bitsI j≤134217728) fun i j=>.int (i*j)) fMulB:=ok_I fun _ _ h=>of_decide_eq_true h
end
end L3
namespace L3
open PySem PySem.Spec PyProof.Rows L2 PySem.W
theorem weight_bits:∀ {ns:List Int} {m:Int},m∈ns→bitsI m≤WData.weightAll (ns.map WData.int)
  | [],_,h=>by cases h
  | n::ns,m,h=>by
    have e:WData.weightAll ((n::ns).map WData.int)=bitsI n+1+WData.weightAll (ns.map WData.int):=by
      show WData.weightAll (WData.int n::ns.map WData.int)=_
      rw [WData.weightAll]
      rfl
    rw [e]
    rcases List.mem_cons.mp h with rfl | h
    · omega
    · have:=weight_bits h
      omega
theorem lay_bits {ns:List Int} (h:WData.layableAll [.list (ns.map WData.int)]=true):∀ m∈ns,bitsI m≤1048576:=fun m hm=>by
  have h1:WData.layable (.list (ns.map WData.int))=true:=List.all_eq_true.mp h _ (List.mem_singleton.mpr rfl)
  unfold WData.layable at h1
  rw [Bool.and_eq_true] at h1
  have h2:WData.weight (.list (ns.map WData.int))≤2 ^ 20:=of_decide_eq_true h1.2
  have h3:=weight_bits hm
  have h4:WData.weight (.list (ns.map WData.int))=WData.weightAll (ns.map WData.int):=by rw [WData.weight]
  omega
section
variable {P:Program} {w:World} {K:PySem.W.Frag} {mg:Str→Option Value} {base:Heap}
noncomputable def spLawB (K:PySem.W.Frag):Sp:=fun vs H Q _=>∃ (a:Addr) (ns:List Int),vs=[.ref a]∧SqL K H a (ns.map V.int)∧ns.length≤63∧(∀ m∈ns,bitsI m≤1048576)∧∀ H',Q (.bl true) H'
theorem law_okB {x:Str} {st:Stmt} {N:List Str} {k:Nat} {b:FS} {f:Addr} {fd:FuncData} (d:Fun K "law" "law" st f fd) (S:FnScope N [x] (defScope st)) (hN:1≤N.length) (hrun:∀ ns:List Int,ns.length≤63→(∀ m∈ns,bitsI m≤1048576)→∃ o,runF N.length b [.lst (ns.map D.int)]=some (o,.bl true))
    (hb:∀ (cdv:Value) (A:Around) (outer:List Env) (s:Shared) (H:Hp) (E:XK),Room k (A.deeper (envOfC "law" (defScope st) s.heap.objs.size f cdv))→SSs (cxOf CX0 P w K mg base N "law" (defScope st) f cdv A outer s H E).nox (defBody st) b):FnOk P w K mg base CX0 (k+1) f fd [x] (spLawB K):=by
  refine d.ok S (fun vs H Q E h=>?_) fun cdv A outer s H vs Q E hr h=>?_
  · obtain ⟨a,ns,rfl,_⟩:=h
    rfl
  · obtain ⟨a,ns,rfl,sq,l,hbits,q⟩:=h
    obtain ⟨o,hrun⟩:=hrun ns l hbits
    obtain ⟨t,p,kt⟩:=(hb cdv A outer s H E hr).h
    obtain ⟨fl,hfl,hrun⟩:=bindE hrun
    have r:Reps K H [.lst (ns.map D.int)] [.ref a]:=⟨_,_,rfl,⟨a,_,rfl,sq,Reps.ints,by rw [List.length_map]; exact small (by omega)⟩,rfl⟩
    refine ⟨t,p,kt (env_start (N:=N) (Same.refl H) r hN) hfl ?_⟩
    cases fl with
    | nx τ=>cases hrun
    | rt o' d'=>
      cases hrun
      cases o with
      | false=>
        intro v G H' _ r
        cases (show v=.bl true from r)
        exact q H'
      | true=>exact fun p G H' _ _ _ z=>z.elim
    | _=>cases hrun
end
theorem walkB {l:PySem.W.OpenLaw} {n k:Nat} {q:Program} {loose:List Str} {XP:(Str→Option Value)→Heap→Prop} {YP:World→Heap→Prop} {d:DefRec} {K:Params→PySem.W.Frag} {sp:PySem.W.Frag→Sp} {x:Str}
    (hn:l.most=some n) (hn2:n≤sizeLine) (hdf:d.params.defaults=[]) (hr:Room k callerA) (hY:∀ (w:World) (h:Heap),YP w h→(K w.params).In h)
    (F:∀ (w:World) (mg:Str→Option Value) (fa:Addr) (h:Heap),(K w.params).In h→h.Ns mainGlobals mg→mg d.name=some (.ref fa)→
      ∃ fd:FuncData,(∀ (s:Shared) (u:Value),BindsTo s fd ⟨[u],[]⟩ [(x,u)])∧∀ base:Heap,(K w.params).In base→base.Ns mainGlobals mg→FnOk l.prog w (K w.params) mg base CX0 k fa fd [x] (sp (K w.params)))
    (hsp:∀ (K:PySem.W.Frag) (H:Hp) (a:Addr) (ns:List Int),ns.length≤n→(∀ m∈ns,bitsI m≤1048576)→SqL K H a (ns.map V.int)→sp K [.ref a] H (fun v _=>v=.bl true) fun _ _ _=>False) :
    PySem.W.WalkO q loose XP YP l.row.toRowW d [] (fun f vs=>PySem.call f vs):=by
  intro w s0 s1 mg mb Gr Y fa o pm cd doc dV kV ho hd hcd hD hmg hg args vals as hpre hlay hrd hwl hlo
  have e1:dV=.none:=Dflts.none hD hdf
  have e2:kV=.none:=Dflts.noKw hD
  subst e1 e2
  obtain ⟨a,vs,ns,rfl,rfl,hobj,hints,hlen⟩:=Att.script_of hn hpre hwl
  have KX:=hY w _ Y
  obtain ⟨fd,hb,hF⟩:=F w mg fa _ KX Gr.T.g hmg
  have main:=law_call KX Gr.T.g Gr.T.b Gr.T.builtins Gr.T.nolimit hg hobj hints (Nat.le_trans hlen hn2) hr hF hb (fun H _ hS=>hsp _ H a ns hlen (lay_bits hlay) hS) (fun _ _ _ z=>z)
  refine enter_call (codeAny_mono main fun r s' hq=>?_)
  obtain ⟨rfl,h2,h3,h4⟩:=hq
  refine ⟨.inl ⟨.bool true,.bool true,[],rfl,fun _=>rfl,.bool true,Att.post_true l _,fun _=>?_⟩,h2,h3,h4⟩
  exact ⟨List.Pairwise.nil,fun _ hm=>nomatch hm⟩
end L3
namespace L3
open PySem PySem.Spec PyProof.Rows L2
section
variable {X:Cx}
end
end L3
namespace L3
open PySem PySem.Spec PyProof PyProof.Rows L2 Builtin Builtin.Str
section
variable {X:Cx} {e o a b c:Expr} {f fo fa fb fc:FE} {x:Str} {xp p pos apos cpos:Pos}
noncomputable def strsOf:List D→Option (List Str)
  | []=>some []
  | .str z::r=>(strsOf r).bind fun ts=>some (z::ts)
  | _=>none
noncomputable def fJoin:D→D→Option D
  | .str sep,.lst xs=>(strsOf xs).bind fun ts=>if (ts.map (·.length)).sum+ts.length*sep.length≤LIM then some (.str (glued sep ts)) else none
  | _,_=>none
theorem strs_vals {K:PySem.W.Frag} {G:Hp}:∀ {xs:List D} {vs:List V} {ts:List Str},strsOf xs=some ts→Reps K G xs vs→vs=ts.map V.str
  | [],_,_,h,r=>by
    cases h
    exact r
  | x::xs,_,ts,h,r=>by
    obtain ⟨v,r',rfl,hv,hr⟩:=r
    unfold strsOf at h
    split at h
    · rename_i e; cases e
    · rename_i z r2 e
      cases e
      obtain ⟨ts2,h2,h⟩:=bindE h
      cases h
      rw [List.map_cons,(show v=_∧_ from hv).1,strs_vals h2 hr]
    · cases h
theorem se_m_join (ho:SE X o fo) (he:SB X e f) (hbase:attributeBase o "join" X.env (eval o X.env)=eval o X.env:=by rfl) (hline:(apos.endLine == cpos.line)=true:=by rfl) (hs:noStar e=true:=by rfl) :
    SE X (.Call (.Attribute o "join" apos) [e] [] cpos) (e2 fJoin fo f):=by
  obtain ⟨to,po,ko⟩:=ho.h
  obtain ⟨te,pe,ke⟩:=(sab_cons he sab_nil hs).h
  refine ⟨⟨_,(qe_bm PySem.F.plainAttrs_str PySem.F.slot_str_join PySem.F.type_str_join mt_join ⟨po⟩ ⟨pe⟩ hbase hline (by rw [List.all_cons,hs]; rfl) (by show 1<30; decide)).h,fun {G0 H0 G H τ σ d Q} E hf q=>?_⟩⟩
  obtain ⟨x,hx,hf⟩:=bindE hf
  obtain ⟨y,hy,hf⟩:=bindE hf
  refine ko E hx fun v G1 H1 x1 r1=>?_
  cases x with
  | str sep=>
    obtain ⟨rfl,l1⟩:=r1
    refine ⟨rfl,ke (E.go x1) (ds:=[y]) (by unfold aCons; rw [hy]; rfl) fun ws G2 H2 x2 r2=>?_⟩
    obtain ⟨w,rfl,rw_⟩:=reps_one r2
    cases y with
    | lst xs=>
      obtain ⟨ts,hts,hf⟩:=bindE hf
      obtain ⟨aa,vs,rfl,sq,rs,_⟩:=rw_
      have ev:=strs_vals hts rs
      subst ev
      by_cases cc:(ts.map (·.length)).sum+ts.length*sep.length≤LIM
      · rw [if_pos cc] at hf
        cases hf
        have c':(ts.map (·.length)).sum+ts.length*sep.length≤sizeLine:=by rw [sizeLine_eq]; exact cc
        exact ⟨sep,aa,ts,rfl,rfl,sq,c',q _ _ _ (x1.trans x2) ⟨rfl,Nat.le_trans (glued_len sep ts) c'⟩⟩
      · rw [if_neg cc] at hf
        cases hf
    | _=>cases hf
  | _=>cases hf
noncomputable abbrev FJ:=SEnv→Str→Option D
noncomputable def jNil:FJ:=fun _ acc=>some (.str acc)
noncomputable def jCons (f:FE) (r:FJ):FJ:=fun σ acc=>(f σ).bind fun d=>match d with
  | .str y=>if (acc++y).length≤LIM then r σ (acc++y) else none
  | _=>none
noncomputable def eFstr (f:FJ):FE:=fun σ=>f σ Str.empty
structure SJ (X:Cx) (es:List Expr) (f:FJ):Prop where
  h:∃ t,QJ X es t∧∀ {G0 H0 G H:Hp} {τ:SEnv} {σ:St} {acc:Str} {d:D} {Q:VK},EnvOk X.K X.N.length G0 H0 G H τ σ→acc.length≤sizeLine→f τ acc=some d→(∀ v G' H',Ext G H G' H'→Rep X.K G' d v→Q v H')→t σ H acc Q
theorem sj_nil:SJ X [] jNil:=⟨⟨_,qj_nil,fun E l hf q=>by
  cases hf
  exact ⟨l,q _ _ _ (Ext.refl E.ext.gh) ⟨rfl,l⟩⟩⟩⟩
theorem sj_cons {es:List Expr} {fj:FJ} (he:SE X e f) (hr:SJ X es fj):SJ X (e::es) (jCons f fj):=by
  obtain ⟨te,pe,ke⟩:=he.h
  obtain ⟨tr,pr,kr⟩:=hr.h
  refine ⟨⟨_,qj_cons ⟨pe⟩ pr,fun {G0 H0 G H τ σ acc d Q} E l hf q=>?_⟩⟩
  obtain ⟨x,hx,hf⟩:=bindE hf
  refine ke E hx fun v G1 H1 x1 r1=>?_
  cases x with
  | str y=>
    obtain ⟨rfl,_⟩:=r1
    change (if (acc++y).length≤LIM then fj τ (acc++y) else none)=some d at hf
    by_cases cc:(acc++y).length≤LIM
    · rw [if_pos cc] at hf
      have c':(acc++y).length≤sizeLine:=by rw [sizeLine_eq]; exact cc
      exact ⟨y,rfl,c',kr (E.go x1) c' hf fun v G' H' x2 r2=>q v _ _ (x1.trans x2) r2⟩
    · rw [if_neg cc] at hf
      cases hf
  | _=>cases hf
theorem se_fstr {e1' e2':Expr} {es:List Expr} {fj:FJ} (h:SJ X (e1'::e2'::es) fj):SE X (.JoinedStr (e1'::e2'::es) pos) (eFstr fj):=by
  obtain ⟨t,pt,k⟩:=h.h
  exact ⟨⟨_,(qe_fstr pt).h,fun E hf q=>k E (Nat.zero_le _) hf q⟩⟩
noncomputable def sAsg (f:FE) (fg:FG):FS:=fun τ=>(f τ).bind fun d=>(fg d τ).bind fun τ'=>some (.nx τ')
end
end L3
namespace L2
open PySem PySem.Spec PyProof.Rows
section
variable {X:Cx}
end
end L2
namespace L3
open PySem PySem.Spec PyProof.Rows L2
section
variable {K:PySem.W.Frag} {G H:Hp}
end
end L3
namespace L2
open PySem PySem.Spec PyProof PyProof.Rows
section
variable {X:Cx}
end
end L2
namespace L3
open PySem PySem.Spec PyProof.Rows L2
end L3
namespace L2
open PySem PySem.Spec PyProof.Rows
section
variable {X:Cx}
noncomputable def rInsert:V→List V→Hp→VK→Prop:=fun x vs H Q=>∃ l xs i y,x=.ref l∧vs=[.int i,y]∧H l=some (.lst xs)∧xs.length<sizeLine∧0≤i∧i<2 ^ 62∧Q .non (upd H l (.lst (xs.take i.toNat++[y]++xs.drop i.toNat)))
theorem mt_insert:MtM X "list.insert" rInsert:=by
  intro pins s σ H x vs v us Q I rx rv h
  obtain ⟨l,xs,i,y,rfl,rfl,hH,hz,i0,i1,q⟩:=h
  cases rx
  obtain ⟨u,w,rfl,ru,rw'⟩:=vals2 rv
  obtain ⟨t,rfl⟩:=(show ∃ t,u=Value.int i t from ru)
  obtain ⟨z,its,n,r,hl,e⟩:=I.lstM hH
  have fit:¬ (!Builtin.List.listFitsIndex i)=true:=by
    unfold Builtin.List.listFitsIndex
    rw [decide_eq_true (show -(2 ^ 63:Int)≤i by omega),decide_eq_true (show i<2 ^ 63 by omega)]
    decide
  refine call_meets F.slot_list_insert ⟨_,e,rfl⟩ F.entry_list_insert (F.args_list_insert_3 _ _ _) (AutoSeq1.list_insert_list_int_val_1 l its.toArray n i t w fit (by rw [List.size_toArray]; omega)) ⟨e,?_⟩
  refine ⟨.non,_,I.lset (its':=its.take i.toNat++[w]++its.drop i.toNat) hH e ?_ (((r.take _).append (.cons rw' .nil)).append (r.drop _)) ?_,rfl,q⟩
  · show (its.toArray.extract 0 (if i<0 then (i+((its.toArray.size:Nat):Int)).toNat else min i.toNat its.toArray.size)).push w++its.toArray.extract (if i<0 then (i+((its.toArray.size:Nat):Int)).toNat else min i.toNat its.toArray.size)=_
    rw [if_neg (by omega),List.size_toArray]
    apply Array.ext'
    simp only [Array.toList_append,Array.toList_push,Array.toList_extract,List.extract_eq_take_drop,List.drop_zero,Nat.sub_zero]
    have e1:its.take (min i.toNat its.length)=its.take i.toNat:=by
      rcases Nat.le_total i.toNat its.length with h | h
      · rw [Nat.min_eq_left h]
      · rw [Nat.min_eq_right h,List.take_of_length_le (Nat.le_refl _),List.take_of_length_le h]
    have e2:(its.drop (min i.toNat its.length)).take (its.length - min i.toNat its.length)=its.drop i.toNat:=by
      rw [List.take_of_length_le (by rw [List.length_drop]; omega)]
      rcases Nat.le_total i.toNat its.length with h | h
      · rw [Nat.min_eq_left h]
      · rw [Nat.min_eq_right h,List.drop_of_length_le (Nat.le_refl _),List.drop_of_length_le h]
    first
      | rw [e1,e2]
      | (simp only [List.size_toArray]; rw [e1,e2])
  · rw [List.length_append,List.length_append,List.length_singleton,List.length_take,List.length_drop]
    omega
end
end L2
namespace L3
open PySem PySem.Spec PyProof.Rows L2
noncomputable def insD (ds:List D) (j:Int) (y:D):List D:=ds.take j.toNat++[y]++ds.drop j.toNat
noncomputable def sIns (i:Nat) (k v:FE):FS:=fun σ=>match σ[i]? with
  | some (some (true,.lst ds))=>(k σ).bind fun x=>(v σ).bind fun y=>match x with
    | .int j=>if 0≤j∧j<2 ^ 62∧ds.length<LIM then some (.nx (σ.set i (some (true,.lst (insD ds j y))))) else none
    | _=>none
  | _=>none
section
variable {X:Cx} {e o a b c:Expr} {f fo fa fb fc:FE} {x:Str} {xp p pos apos cpos:Pos}
theorem ss_insert {i:Nat} {k v:Expr} {fk fv:FE} (ho:QE X (.Name x xp) (tVar i)) (hk:SE X k fk) (hv:SE X v fv) (hbase:attributeBase (.Name x xp) "insert" X.env (eval (.Name x xp) X.env)=eval (.Name x xp) X.env:=by rfl) (hline:(apos.endLine == cpos.line)=true:=by rfl) (hs:noStar k=true:=by rfl) (hs2:noStar v=true:=by rfl) :
    SS X (.Expr (.Call (.Attribute (.Name x xp) "insert" apos) [k,v] [] cpos) pos) (sIns i fk fv):=by
  obtain ⟨t,p,kk⟩:=(sa_cons hk (sa_cons hv sa_nil hs2) hs).h
  refine ⟨⟨_,(qs_expr (qe_bm PySem.F.plainAttrs_list PySem.F.slot_list_insert PySem.F.type_list_insert mt_insert ho ⟨p⟩ hbase hline (by rw [List.all_cons,hs,List.all_cons,hs2]; rfl) (by show 2<30; decide)) rfl).h,fun {G0 H0 G H τ σ fl E} K hf q=>?_⟩⟩
  unfold sIns at hf
  split at hf
  · rename_i ds hd
    obtain ⟨xk,hx,hf⟩:=bindE hf
    obtain ⟨y,hy,hf⟩:=bindE hf
    cases xk with
    | int j=>
      change (if 0≤j∧j<2 ^ 62∧ds.length<LIM then some (Fl.nx (τ.set i (some (true,.lst (insD ds j y))))) else none)=some fl at hf
      by_cases c:0≤j∧j<2 ^ 62∧ds.length<LIM
      · rw [if_pos c] at hf
        cases hf
        obtain ⟨aa,ea,g,z,vs,ev,rs,l⟩:=K.ow _ _ hd
        refine ⟨_,ea,.inl ⟨rfl,vs,SqL.of ev⟩,kk K (ds:=[.int j,y]) (by unfold aCons; rw [hx,hy]; rfl) fun us G1 H1 x1 r1=>?_⟩
        obtain ⟨u,r,rfl,hu,⟨u2,r2,rfl,hu2,hr⟩⟩:=r1
        cases (show r2=[] from hr)
        cases (show u=_ from hu)
        refine ⟨aa,vs,j,u2,rfl,rfl,x1.h _ _ ev,by rw [rs.length,sizeLine_eq]; exact c.2.2,c.1,c.2.1,?_⟩
        refine q _ _ _ ((K.go x1).mut hd ea ⟨_,upd_same,(((rs.mono x1.g).take _).append (Reps.one hu2)).append ((rs.mono x1.g).drop _),?_⟩)
        unfold insD
        rw [List.length_append,List.length_append,List.length_singleton,List.length_take,List.length_drop,sizeLine_eq]
        have h2:ds.length<16777216:=c.2.2
        have h3:min j.toNat ds.length+1+(ds.length - j.toNat)≤ds.length+1:=by omega
        exact Nat.le_trans h3 h2
      · rw [if_neg c] at hf
        cases hf
    | _=>cases hf
  · cases hf
end
end L3
namespace L3
open PySem PySem.Spec PyProof.Rows L2
section
variable {X:Cx} {a b:Expr} {fa fb:FE} {x:Str} {xp pos:Pos}
end
end L3
namespace L3
open PySem PySem.Spec PyProof.Rows L2
section
variable {X:Cx} {e:Expr} {es:List Expr} {fs:FA} {x:Str} {ps:List Str} {k j:Nat} {FF:List D→Option (Bool×D)} {p pos:Pos}
end
end L3
namespace L3
open PySem PySem.Spec PyProof.Rows L2
section
variable {X:Cx} {e:Expr} {es:List Expr} {fs:FA} {x y:Str} {ps:List Str} {k j:Nat} {FF:List D→Option (Bool×D)} {p pos pos' cpos:Pos}
end
end L3
namespace L3
open PySem PySem.Spec PyProof.Rows L2
section
variable {X:Cx} {x:Str} {xp pos apos cpos:Pos}
end
end L3
namespace L3
open PySem PySem.Spec PyProof.Rows L2
section
variable {K:PySem.W.Frag} {n:Nat} {G0 H0 G H G' H':Hp} {τ:SEnv} {σ:St}
end
section
variable {X:Cx} {e:Expr} {f:FE} {ft:FT}
end
section
variable {X:Cx} {a b:Expr} {f fa fb:FE} {x:Str} {xp pos apos cpos:Pos} {e:Expr}
end
end L3
namespace L3
open PySem PySem.Spec PyProof.Rows L2
section
variable {X:Cx} {js:List Nat} {e c:Expr} {f:FE} {ft:FT} {g g':FS} {sts sa:List Stmt} {pos xp apos cpos:Pos} {x:Str}
end
section
variable {X:Cx} {js:List Nat} {e0 e1:Expr} {f0 f1:FE} {fm fr:FS} {mid rest:List Stmt} {p1 p2 p3 xp cp sp apos cpos pos:Pos} {x:Str} {kd:Nat}
end
end L3
namespace L2
open PySem PySem.Spec PyProof PyProof.Rows
section
variable {X:Cx}
end
end L2
namespace L3
open PySem PySem.Spec PyProof.Rows L2
section
variable {X:Cx} {K:PySem.W.Frag}
end
noncomputable def boolsOf:List D→Option (List Bool)
  | []=>some []
  | .bl b::r=>(boolsOf r).bind fun bs=>some (b::bs)
  | _=>none
theorem boolsOf_ok:∀ {ds:List D} {bs:List Bool},boolsOf ds=some bs→ds=bs.map D.bl
  | [],_,h=>by cases h; rfl
  | d::ds,bs,h=>by
    unfold boolsOf at h
    split at h
    · rename_i e; cases e
    · rename_i b r e
      cases e
      obtain ⟨bs',h1,h⟩:=bindE h
      cases h
      rw [boolsOf_ok h1]
      rfl
    · cases h
theorem reps_bools {K:PySem.W.Frag} {G:Hp}:∀ {bs:List Bool} {vs:List V},Reps K G (bs.map D.bl) vs→vs=bs.map V.bl
  | [],_,r=>r
  | b::bs,_,r=>by
    obtain ⟨v,r',rfl,hv,hr⟩:=r
    rw [reps_bools hr,show v=V.bl b from hv]
    rfl
noncomputable def fAll:List D→Option D
  | [.lst xs]=>(boolsOf xs).bind fun bs=>some (.bl (bs.all id))
  | _=>none
theorem ok_all {K:PySem.W.Frag}:OkCB K (rAll K) fAll:=fun G H ds vs d Q s r hf q=>by
  match ds,hf with
  | [.lst xs],hf=>
    obtain ⟨bs,hb,hf⟩:=bindE (show (boolsOf xs).bind _=some d from hf)
    cases hf
    obtain ⟨v,rfl,a,us,rfl,sq,rs,l⟩:=reps_one r
    rw [boolsOf_ok hb] at rs
    rw [reps_bools rs] at sq
    exact ⟨a,bs,rfl,sq,q _ _ _ (Ext.refl s) rfl⟩
end L3
namespace L2
open PySem PySem.Spec PyProof PyProof.Rows
section
variable {prog:Program} {w:World}
end
end L2
namespace L2
open PySem PySem.Spec PyProof PyProof.Rows
section
variable {X:Cx}
end
end L2
namespace L2
open PySem PySem.Spec PyProof PyProof.Rows
end L2
namespace L3
open PySem PySem.Spec PyProof.Rows L2
section
variable {X:Cx} {K:PySem.W.Frag}
end
end L3
namespace L2
open PySem PySem.Spec PyProof PyProof.Rows
end L2
namespace L2
open PySem PySem.Spec PyProof PyProof.Rows
section
variable {prog:Program} {w:World} {K:Type} [DecidableEq K] {knd:KeyKind prog w K} {A:Around} {E:Value→Shared→Prop}
end
end L2
namespace L2
open PySem PySem.Spec PyProof PyProof.Rows
noncomputable def keyOf:Value→Key
  | .int i _=>.inl i
  | .str x _=>.inr x
  | _=>.inl 0
section
variable {prog:Program} {w:World}
end
end L2
namespace L2
open PySem PySem.Spec PyProof PyProof.Rows
section
variable {M:Model} {A:Around} {E:Value→Shared→Prop}
end
end L2
namespace L2
open PySem PySem.Spec PyProof PyProof.Rows
section
variable {prog:Program} {w:World} {A:Around} {E:Value→Shared→Prop}
end
end L2
namespace L2
open PySem PySem.Spec PyProof PyProof.Rows
section
variable {prog:Program} {w:World} {A:Around} {E:Value→Shared→Prop}
end
end L2
namespace L2
open PySem PySem.Spec PyProof PyProof.Rows
section
variable {prog:Program} {w:World} {A:Around} {E:Value→Shared→Prop}
end
section
variable {X:Cx}
end
end L2
namespace L3
open PySem PySem.Spec PyProof.Rows L2
end L3
namespace L2
open PySem PySem.Spec PyProof PyProof.Rows
section
variable {X:Cx} {tg:Expr}
end
end L2
namespace L3
open PySem PySem.Spec PyProof.Rows L2
end L3
namespace L2
open PySem PySem.Spec PyProof PyProof.Rows
theorem Vals.of_get:∀ {xs:List V} {us:List Value},us.length=xs.length→(∀ (j:Nat) (x:V) (v:Value),xs[j]?=some x→us[j]?=some v→RelV x v)→Vals xs us
  | [],[],_,_=>.nil
  | [],_::_,h,_=>by cases h
  | _::_,[],h,_=>by cases h
  | x::xs,u::us,h,f=>.cons (f 0 x u rfl rfl) (Vals.of_get (by simpa using h) fun j y v h1 h2=>f (j+1) y v (by simpa using h1) (by simpa using h2))
section
variable {X:Cx}
end
end L2
namespace L3
open PySem PySem.Spec PyProof.Rows L2
section
variable {X:Cx} {x y:Str} {xp yp pos apos cpos:Pos} {e:Expr} {f:FE}
end
end L3
namespace L3
open PySem PySem.Spec PyProof.Rows L2
section
variable {K:PySem.W.Frag} {n:Nat} {G0 H0 G H G' H':Hp} {τ:SEnv} {σ:St} {i:Nat} {nds:List (List D)} {p:Addr} {qs:List Addr}
end
section
variable {X:Cx} {i:Nat} {x:Str} {p pos pos' apos cpos xp sp:Pos} {e k v c tg iter:Expr} {f fk fv:FE} {ft:FT} {fs:FA} {st:Stmt} {sts body sa sb:List Stmt} {g g':NFS} {fg:FG}
end
section
variable {X:Cx} {i:Nat} {x:Str} {pos pos' p spos:Pos} {e tg iter:Expr} {st:Stmt} {fi:SEnv→Option Nat} {fs:FA} {rest:List Stmt} {g:NFS} {scope:Scope} {cl:List (Str×Addr)} {own:List Str} {tG:TG} {fg:FG}
end
end L3
namespace L3
open PySem PySem.Spec PyProof.Rows L2
section
variable {P:Program} {w:World} {K:PySem.W.Frag} {mg:Str→Option Value} {base:Heap}
end
section
variable {X:Cx} {e:Expr} {es:List Expr} {f:FE} {fs:FA} {x:Str} {p pos:Pos} {ps:List Str} {j k:Nat} {FF:List D→Option (Bool×D)}
end
end L3
namespace L2
open PySem PySem.Spec PyProof PyProof.Rows
section
variable {prog:Program} {w:World} {A:Around} {E:Value→Shared→Prop}
end
section
variable {X:Cx}
end
end L2
namespace L3
open PySem PySem.Spec PyProof.Rows L2
end L3
namespace L2
open PySem PySem.Spec PyProof PyProof.Rows
section
variable {X:Cx} {x:Str} {e:Expr} {es:List Expr} {t:TA} {p pos:Pos} {i j:Nat}
end
end L2
namespace L3
open PySem PySem.Spec PyProof.Rows L2
section
variable {X:Cx} {x y o gn:Str} {e:Expr} {es:List Expr} {fs:FA} {p p2 pos pos' xp gp op apos cpos:Pos} {i io iy j:Nat} {body rest:List Stmt} {t:TS} {g:FS}
end
section
variable {X:Cx} {x y o gn:Str} {e:Expr} {es:List Expr} {fs:FA} {p p2 pos pos' xp xp2 gp op apos cpos:Pos} {i io iy j:Nat} {rest:List Stmt} {g:FS} {a:Addr} {names:List Str} {Fs:List (List D→Option (Bool×D))} {gs:List FS}
end
end L3
namespace L3
open PySem PySem.Spec PyProof.Rows L2
section
variable {α:Type} {P:List α→Prop}
theorem us0 (h:P []):∀ us:List α,us.length=0→P us
  | [],_=>h
theorem usS {n:Nat} (h:∀ a (r:List α),r.length=n→P (a::r)):∀ us:List α,us.length=n+1→P us
  | a::r,e=>h a r (Nat.succ.inj e)
theorem us1 (h:∀ a,P [a]):∀ us:List α,us.length=1→P us:=usS fun a=>us0 (P:=fun r=>P (a::r)) (h a)
theorem us2 (h:∀ a b,P [a,b]):∀ us:List α,us.length=2→P us:=usS fun a=>us1 (P:=fun r=>P (a::r)) (h a)
theorem us3 (h:∀ a b c,P [a,b,c]):∀ us:List α,us.length=3→P us:=usS fun a=>us2 (P:=fun r=>P (a::r)) (h a)
theorem us4 (h:∀ a b c d,P [a,b,c,d]):∀ us:List α,us.length=4→P us:=usS fun a=>us3 (P:=fun r=>P (a::r)) (h a)
end
noncomputable abbrev fnO (x:Str) (st:Stmt) (oc:Value) (od:Option Addr) (sl:Array (Option Value)) (kV dc pm:Value) (an:Option Addr) (cd ct:Value):Option Obj:=some ⟨oc,od,.func (PySem.W.fnOf x x (defArgs st) (defBody st) (defScope st) .none kV dc pm an cd ct),sl⟩
end L3
namespace L3
open PySem PySem.Spec PyProof.Rows L2
section
variable {P:Program} {w:World} {K:PySem.W.Frag} {mg:Str→Option Value} {base:Heap}
end
section
variable {X:Cx} {tg iter elt:Expr} {scope:Scope} {cl:List (Str×Addr)} {own:List Str} {pos p1:Pos} {fs:FA} {fg:FG} {f:FE} {tG:TG} {st:Stmt} {sts:List Stmt} {g:FS} {b:FSN}
end
end L3
namespace L3
open PySem PySem.Spec PyProof PyProof.Rows L2
section
variable {X:Cx} {i m:Nat} {x:Str} {es:List Expr} {p pos pos' spos:Pos}
end
section
variable {X:Cx} {K:PySem.W.Frag}
end
end L3
namespace L3
open PySem PySem.Spec PyProof PyProof.Rows L2
noncomputable def eIsi2 (T U:TyT) (f:FE):FE:=fun σ=>(f σ).bind fun d=>(isTy T d).bind fun a=>(isTy U d).bind fun b=>some (.bl (a||b))
noncomputable def rIsi2 (K:PySem.W.Frag) (T U:TyT):List V→Hp→VK→Prop:=fun xs H Q=>∃ x d a b tp,xs=[x,.ref tp]∧Rep K H d x∧SqT K H tp [.ty T.nm,.ty U.nm]∧isTy T d=some a∧isTy U d=some b∧Q (.bl (a||b)) H
theorem kit_any2 {K:PySem.W.Frag} {t c1 c2:Value} {a b:Bool} (h1:PySem.W.kitOne K t c1=some a) (h2:PySem.W.kitOne K t c2=some b):PySem.W.kitAny K t [c1,c2]=some (a||b):=by
  unfold PySem.W.kitAny
  rw [h1]
  cases a with
  | true=>rfl
  | false=>
    show PySem.W.kitAny K t [c2]=_
    unfold PySem.W.kitAny
    rw [h2]
    cases b<;>rfl
theorem call_isi2 {X:Cx} (T U:TyT):CallR X (.builtin "isinstance") (rIsi2 X.K T U):=by
  intro pins s σ H xs us Q I r h
  obtain ⟨x,d,a,b,tp,rfl,rd,sq,ea,eb,q⟩:=h
  obtain ⟨u,c,rfl,rx,rc⟩:=vals2 r
  cases (show c=Value.ref tp from rc)
  obtain ⟨its,rv,pt,_⟩:=I.tuple sq
  obtain ⟨u1,u2,rfl,r1,r2⟩:=vals2 rv
  cases (show u1=Value.type T.nm from r1)
  cases (show u2=Value.type U.nm from r2)
  obtain ⟨⟨c,dd,dt,sl⟩,h1,h2,n,h3⟩:=pt
  cases (show c=.type "tuple" from h2)
  cases (show dt=_ from h3)
  have fin:∀ tk,EP X pins σ Q (.bool (a||b)) { s with toks:=tk }:=fun tk=>⟨.bl (a||b),H,I.tok tk,rfl,q⟩
  cases d with
  | non=>
    cases (show x=_ from rd)
    cases (show u=Value.none from rx)
    exact PySem.W.kia_tup PySem.W.kitx_none I.kIn trivial h1 (kit_any2 (kit_of (d:=.non) ea) (kit_of (d:=.non) eb)) (fun z=>nomatch z) fin
  | bl y=>
    cases (show x=_ from rd)
    cases (show u=Value.bool y from rx)
    exact PySem.W.kia_tup PySem.W.kitx_bool I.kIn trivial h1 (kit_any2 (kit_of (d:=.bl y) ea) (kit_of (d:=.bl y) eb)) (fun z=>nomatch z) fin
  | int y=>
    cases (show x=_ from rd)
    obtain ⟨t,rfl⟩:=(show ∃ t,u=Value.int y t from rx)
    exact PySem.W.kia_tup PySem.W.kitx_int I.kIn trivial h1 (kit_any2 (kit_of (d:=.int y) ea) (kit_of (d:=.int y) eb)) (fun z=>nomatch z) fin
  | str y=>
    cases (show x=_∧_ from rd).1
    obtain ⟨t,rfl⟩:=(show ∃ t,u=Value.str y t from rx)
    exact PySem.W.kia_tup PySem.W.kitx_str I.kIn trivial h1 (kit_any2 (kit_of (d:=.str y) ea) (kit_of (d:=.str y) eb)) (fun z=>nomatch z) fin
  | tup ds=>
    obtain ⟨aa,vs,rfl,sq',_⟩:=rd
    cases (show u=Value.ref aa from rx)
    obtain ⟨its,_,⟨o,g1,g2,_⟩,_⟩:=I.tuple sq'
    exact PySem.W.kia_tup PySem.W.kitx_tuple I.kIn ⟨o,g1,g2⟩ h1 (kit_any2 (kit_of (d:=.tup ds) ea) (kit_of (d:=.tup ds) eb)) (fun z=>nomatch z) fin
  | lst ds=>
    obtain ⟨aa,vs,rfl,sq',_⟩:=rd
    cases (show u=Value.ref aa from rx)
    obtain ⟨its,_,⟨o,n,g1,g2,_⟩,_⟩:=I.list sq'
    exact PySem.W.kia_tup PySem.W.kitx_list I.kIn ⟨o,g1,g2⟩ h1 (kit_any2 (kit_of (d:=.lst ds) ea) (kit_of (d:=.lst ds) eb)) (fun z=>nomatch z) fin
  | dic ks ds=>cases T<;>cases ea
  | exc _=>cases T<;>cases ea
  | obj _ _ _=>cases T<;>cases ea
theorem se_isi2 {X:Cx} {a:Expr} {f:FE} {x y:Str} {p p1 p2 p3 pos:Pos} {kk:Nat} (T U:TyT) (hg:Gl X "isinstance") (hgT:Gl X x) (hgU:Gl X y) (hm:X.mg "isinstance" = none) (hmT:X.mg x=none) (hmU:X.mg y=none) (hv:bootBuiltins x=some (.type T.nm)) (hw:bootBuiltins y=some (.type U.nm)) (ha:SB X a f) (hs:noStar a=true:=by rfl)
    (hn:x ≠ "__name__" := by decide) (hd:(x == ("__debug__" : Str))=false:=by decide) (hn':y ≠ "__name__" := by decide) (hd':(y == ("__debug__" : Str))=false:=by decide):SE X (.Call (.Name "isinstance" p) [a,.Tuple [.Name x p1,.Name y p2] kk p3] [] pos) (eIsi2 T U f):=by
  obtain ⟨t,pt,k⟩:=ha.h
  refine ⟨⟨_,(qe_callB (call_isi2 T U) hg hm bt_isinstance (qa_cons ⟨pt⟩ (qa_cons (qe_tup (qa_cons (qe_bty hgT hmT hv hn hd) (qa_cons (qe_bty hgU hmU hw hn' hd') qa_nil rfl) rfl)) qa_nil rfl) hs) (by decide) (by decide) (by rw [List.all_cons,hs]; rfl)).h,fun {G0 H0 G H τ σ d Q} E hf q=>?_⟩⟩
  obtain ⟨z,hz,hf⟩:=bindE hf
  obtain ⟨b1,hb1,hf⟩:=bindE hf
  obtain ⟨b2,hb2,hf⟩:=bindE hf
  cases hf
  refine k E hz fun v G' H' x r=>⟨small (n:=2) (by decide),fun tp htp=>?_⟩
  exact ⟨v,z,b1,b2,tp,rfl,r.mono (same_new htp _),SqT.of upd_same,hb1,hb2,q _ _ _ (x.trans (Ext.layO x.gh htp)) rfl⟩
end L3
namespace L2
open PySem PySem.Spec PyProof PyProof.Rows
theorem key_rel {k:Key} {v:Value} (h:keyIs k v=true):RelV (kV k) v:=by
  rcases keyIs_shape h with ⟨i,t,rfl,rfl⟩ | ⟨x,t,rfl,rfl⟩
  · exact ⟨t,rfl⟩
  · exact ⟨t,rfl⟩
theorem kv_len:∀ {kvs:List (Key×V)} {vs:List (Key×Value)},KV kvs vs→vs.length=kvs.length
  | _,_,.nil=>rfl
  | _,_,.cons _ t=>by rw [List.length_cons,List.length_cons,kv_len t]
end L2
namespace L3
open PySem PySem.Spec PyProof PyProof.Rows L2
noncomputable def keyOf:Key→D
  | .inl i=>.int i
  | .inr x=>.str x
noncomputable def okKey:Key→Bool
  | .inl _=>true
  | .inr x=>decide (x.length≤LIM)
theorem key_rep2 {K:PySem.W.Frag} {G:Hp} {k:Key} (h:okKey k=true):Rep K G (keyOf k) (kV k):=by
  cases k with
  | inl i=>rfl
  | inr x=>exact ⟨rfl,by rw [sizeLine_eq]; exact of_decide_eq_true h⟩
end L3
namespace L2
open PySem PySem.Spec PyProof PyProof.Rows
section
variable {X:Cx} {A:Addr} {ks:List Key} {us:List V} {x:Str} {p apos cpos:Pos}
end
end L2
namespace L3
open PySem PySem.Spec PyProof PyProof.Rows L2
end L3
namespace L2
open PySem PySem.Spec PyProof PyProof.Rows
section
variable {X:Cx} {x n:Str} {p pos np hpos tpos:Pos} {e e1 e2:Expr} {es:List Expr} {ta:TA} {te:TE} {tx:TX} {ps:List Str} {j k i:Nat} {sp:Sp} {E:XK} {D:Addr} {suite:List Stmt} {ts:TS} {b₀:Stmt}
end
end L2
namespace L3
open PySem PySem.Spec PyProof PyProof.Rows L2
noncomputable abbrev FX:=List D→Option (Sum (Bool×D) Str)
noncomputable abbrev FSX:=SEnv→Option (Sum Fl Str)
noncomputable def XOk (mg:Str→Option Value) (G0 H0:Hp) (E:XK) (x:Str):Prop:=∃ C,mg x=some (.ref C)∧∀ G' H',Ext G0 H0 G' H'→E (.ref C) none H'
noncomputable def RxOk (K:PySem.W.Frag) (n:Nat) (mg:Str→Option Value) (G0 H0:Hp) (En:Ends) (E:XK):Sum Fl Str→Prop
  | .inl fl=>FlOk K n G0 H0 En fl
  | .inr x=>XOk mg G0 H0 E x
structure SXs (X:Cx) (E:XK) (sts:List Stmt) (f:FSX):Prop where
  h:∃ t,PSs X sts t∧∀ {G0 H0 G H:Hp} {τ:SEnv} {σ:St} {r:Sum Fl Str} {En:Ends},EnvOk X.K X.N.length G0 H0 G H τ σ→f τ=some r→RxOk X.K X.N.length X.mg G0 H0 En E r→t En σ H
noncomputable def xOf (g:FS):FSX:=fun τ=>(g τ).bind fun fl=>some (.inl fl)
noncomputable def xSeq (g:FS) (f:FSX):FSX:=fun τ=>(g τ).bind fun fl=>match fl with
  | .nx τ'=>f τ'
  | fl=>some (.inl fl)
noncomputable def xRaise (c:FT) (a:FA) (x:Str) (f:FSX):FSX:=fun τ=>(c τ).bind fun b=>match b with
  | true=>(a τ).bind fun ds=>if ds.length≤1000 then some (.inr x) else none
  | false=>f τ
section
variable {X:Cx} {E:XK} {x:Str} {C:Addr} {st:Stmt} {sts rest:List Stmt} {g:FS} {f:FSX} {ft:FT} {fa:FA} {c e:Expr} {es:List Expr} {np cpos pos ipos:Pos}
theorem sxs_of (h:SSs X sts g):SXs X E sts (xOf g):=by
  obtain ⟨t,p,k⟩:=h.h
  refine ⟨⟨t,p,fun {G0 H0 G H τ σ r En} K hf q=>?_⟩⟩
  obtain ⟨fl,h1,hf⟩:=bindE hf
  cases hf
  exact k K h1 q
theorem sxs_cons (h1:SS X st g) (h2:SXs X E rest f):SXs X E (st::rest) (xSeq g f):=by
  obtain ⟨t,p,k⟩:=h1.h
  obtain ⟨t',p',k'⟩:=h2.h
  refine ⟨⟨_,pss_cons p p',fun {G0 H0 G H τ σ r En} K hf q=>?_⟩⟩
  obtain ⟨fl,h1,hf⟩:=bindE hf
  refine k K h1 ?_
  cases fl with
  | nx τ'=>exact fun σ' G' H' K'=>k' K' hf q
  | rt o d=>cases hf; exact FlOk.with q (fun _ z=>nomatch z) (fun _ z=>nomatch z) (fun _ z=>nomatch z) rfl
  | bk τ'=>cases hf; exact q
  | ct τ'=>cases hf; exact q
theorem sxs_raise (hc:ST X c ft) (cx:ExC X.K X.mg x C) (hr:Raises X E) (hh:X.A.handled=none) (hg:Gl X x) (ha:SA X (e::es) fa) (hrest:SXs X E rest f) (hdb:(x == ("__debug__" : Str))=false:=by decide) (he:(e::es).all noStar=true:=by rfl) :
    SXs X E (.If c [.Raise (some (.Call (.Name x np) (e::es) [] cpos)) none pos] [] ipos::rest) (xRaise ft fa x f):=by
  obtain ⟨tc,pc,kc⟩:=hc.h
  obtain ⟨ta,pa,ka⟩:=ha.h
  obtain ⟨tr,pr,kr⟩:=hrest.h
  refine ⟨⟨_,pss_cons (ps_if pc (pss_one (ps_raise cx hr hh hg pa hdb he)) pss_nil) pr,fun {G0 H0 G H τ σ r En} K hf q=>?_⟩⟩
  obtain ⟨b,hb,hf⟩:=bindE hf
  refine kc K hb fun G1 H1 x1=>?_
  cases b with
  | true=>
    obtain ⟨ds,hd,hf⟩:=bindE hf
    by_cases z:ds.length≤1000
    · rw [if_pos z] at hf
      cases hf
      refine iteT (ka (K.go x1) hd fun vs G2 H2 x2 r2=>⟨?_,?_⟩)
      · rw [r2.length,sizeLine_eq]
        exact Nat.le_trans z (by decide)
      · obtain ⟨C',hm,q⟩:=q
        rw [cx.at_] at hm
        cases hm
        exact q G2 H2 (((K.ext).trans x1).trans x2)
    · rw [if_neg z] at hf
      cases hf
  | false=>exact iteF (kr (K.go x1) hf q)
end
noncomputable def spX (K:PySem.W.Frag) (mg:Str→Option Value) (F:FX):Sp:=fun vs H Q E=>∃ G ds r,Same G H∧Reps K G ds vs∧F ds=some r∧
  match r with
  | .inl (false,d)=>∀ v G' H',Ext G H G' H'→Rep K G' d v→Q v H'
  | .inl (true,d)=>∀ p G' H',Ext G H G' H'→H p=none→G' p=none→OwnAt K G' H' d p→Q (.ref p) H'
  | .inr x=>XOk mg G H E x
noncomputable def runX (n:Nat) (b:FSX) (ds:List D):Option (Sum (Bool×D) Str):=(b (ds.map (fun d=>some (false,d))++List.replicate (n - ds.length) none)).bind fun r=>match r with
  | .inl (.rt o d)=>some (.inl (o,d))
  | .inl (.nx _)=>some (.inl (false,.non))
  | .inl _=>none
  | .inr x=>some (.inr x)
noncomputable def FRX (n N:Nat) (b:FSX):FX:=fun ds=>if ds.length=n then runX N b ds else none
theorem FRX_ok {n N:Nat} {b:FSX}:∀ ds r,FRX n N b ds=some r→ds.length=n∧runX N b ds=some r:=fun ds r h=>by
  unfold FRX at h
  split at h
  · rename_i c
    exact ⟨c,h⟩
  · cases h
section
variable {P:Program} {w:World} {K:PySem.W.Frag} {mg:Str→Option Value} {base:Heap}
theorem Def.okXS {x:Str} {st:Stmt} {N ps:List Str} {k:Nat} {F:FX} {b:FSX} (d:Def K mg x st ps) (S:FnScope N ps (defScope st)) (hN:ps.length≤N.length) (hF:∀ ds r,F ds=some r→ds.length=ps.length∧runX N.length b ds=some r)
    (hb:∀ (f:Addr) (cdv:Value) (A:Around) (outer:List Env) (s:Shared) (H:Hp) (E:XK),Room k (A.deeper (envOfC x (defScope st) s.heap.objs.size f cdv))→SXs (cxE P w K mg base N x (defScope st) f cdv A outer s H E) E (defBody st) b):HasX P w K mg base x ps (k+1) (spX K mg F):=by
  refine d.okX S (fun vs H Q E h=>?_) fun f cdv A outer s H vs Q E hr h=>?_
  · obtain ⟨G,ds,r,_,rs,e,_⟩:=h
    rw [rs.length,(hF _ _ e).1]
  · obtain ⟨G,ds,r,s',rs,e,q⟩:=h
    obtain ⟨l,hrun⟩:=hF _ _ e
    obtain ⟨t,p,kt⟩:=(hb f cdv A outer s H E hr).h
    obtain ⟨fl,hfl,hrun⟩:=bindE hrun
    refine ⟨t,⟨p⟩,kt (env_start (N:=N) s' rs (by omega)) hfl ?_⟩
    cases fl with
    | inr y=>
      cases hrun
      exact q
    | inl fl=>
      cases fl with
      | nx τ=>
        cases hrun
        exact fun σ G' H' z=>q .non G' H' z.ext rfl
      | rt o' d'=>
        cases hrun
        cases o' with
        | false=>exact q
        | true=>exact q
      | bk τ=>cases hrun
      | ct τ=>cases hrun
end
section
variable {X:Cx} {iy i j k kb:Nat} {y n x z f g pn:Str} {C D:Addr} {ps:List Str} {F:FX} {B:Str→Option Bool} {fa:FA} {fc:FE} {c e:Expr} {es:List Expr} {yp fp cp ap np gp mp gc bp rp hpos tpos:Pos}
end
end L3
namespace L2
open PySem PySem.Spec PyProof PyProof.Rows
section
variable {prog:Program} {w:World} {A:Around} {E:Value→Shared→Prop} {s:Shared}
end
end L2
namespace L3
open PySem PySem.Spec PyProof PyProof.Rows L2
end L3
namespace L2
open PySem PySem.Spec PyProof PyProof.Rows
section
variable {X:Cx} {pins:List (Addr×Obj)} {σ:St} {H:Hp} {s:Shared} {a:Addr} {o:Obj} {kvs:List (Key×V)}
theorem Inv.swap {u u':HO} (I:Inv X pins σ H s) (e:H a=some u) (no:∀ x,u≠.own x) (nt:∀ xs,u≠.tup xs) (nb:∀ ps,X.H₀ a≠some (.tbl ps)) (nf:∀ ob v,X.H₀ a≠some (.frz ob v)) (nq:∀ xs,X.H₀ a≠some (.tup xs)) (new:ObjOk X.prog X.w (upd H a u') s.heap a u'):Inv X pins σ (upd H a u') s:=by
  have ne:∀ b,H b=none→b≠a:=fun b hb z=>by subst z; rw [e] at hb; cases hb
  refine ⟨I.ok,I.os,I.bare,⟨I.base.keep,I.base.slot,fun b ob q n hx=>?_,I.base.there,fun b xs q=>?_,fun b ob v q=>?_,fun b ps q=>?_⟩,I.loc,I.cell,?_,fun x c q=>?_,fun p hp=>?_,fun b v q=>?_,I.len⟩
  · have:=I.base.free b ob q n hx
    rw [upd_ne (ne b this)]; exact this
  · have hb:b≠a:=fun z=>by subst z; exact nq xs q
    rw [upd_ne hb]; exact I.base.tups b xs q
  · have hb:b≠a:=fun z=>by subst z; exact nf ob v q
    rw [upd_ne hb]; exact I.base.frzs b ob v q
  · have hb:b≠a:=fun z=>by subst z; exact nb ps q
    rw [upd_ne hb]; exact I.base.tbls b ps q
  · rw [upd_ne (ne _ I.free)]; exact I.free
  · rw [upd_ne (ne _ (I.freeC x c q))]; exact I.freeC x c q
  · obtain ⟨h1,h2,h3⟩:=I.pin p hp
    exact ⟨h1,by rw [upd_ne (ne _ h2)]; exact h2,h3⟩
  · by_cases hb:b=a
    · subst hb; rw [upd_same] at q; cases q; exact new
    · rw [upd_ne hb] at q
      refine (I.hok b v q).stay (fun c w _ z=>z) (fun c z=>?_) fun c xs z=>?_
      · have hc:c≠a:=fun y=>by subst y; rw [e] at z; cases z; exact no _ rfl
        rw [upd_ne hc]; exact z
      · have hc:c≠a:=fun y=>by subst y; rw [e] at z; cases z; exact nt _ rfl
        rw [upd_ne hc]; exact z
theorem Inv.noH (I:Inv X pins σ H s) (e:H a=some (.dK kvs)):(∀ ps,X.H₀ a≠some (.tbl ps))∧(∀ ob v,X.H₀ a≠some (.frz ob v))∧∀ xs,X.H₀ a≠some (.tup xs):=by
  refine ⟨fun ps z=>?_,fun ob v z=>?_,fun xs z=>?_⟩
  · obtain ⟨_,q⟩:=I.base.tbls a ps z; rw [e] at q; cases q
  · have q:=I.base.frzs a ob v z; rw [e] at q; cases q
  · have q:=I.base.tups a xs z; rw [e] at q; cases q
theorem Inv.up (I:Inv X pins σ H s) (e:H a=some (.dK kvs)):∃ o,Inv X pins σ (upd H a (.frz o (.dK kvs))) s:=by
  obtain ⟨n1,n2,n3⟩:=I.noH e
  obtain ⟨z,y,vs,r,ob,es,ep,g,c⟩:=(show ObjOk X.prog X.w H s.heap a (.dK kvs) from I.hok a _ e)
  exact ⟨ob,I.swap e (fun _ z=>nomatch z) (fun _ z=>nomatch z) n1 n2 n3 ⟨g,z,y,vs,r,ob,es,ep,g,c⟩⟩
theorem Inv.dn (I:Inv X pins σ H s) (e:H a=some (.frz o (.dK kvs))) (n:(∀ ps,X.H₀ a≠some (.tbl ps))∧(∀ ob v,X.H₀ a≠some (.frz ob v))∧∀ xs,X.H₀ a≠some (.tup xs)):Inv X pins σ (upd H a (.dK kvs)) s:=by
  obtain ⟨n1,n2,n3⟩:=n
  obtain ⟨_,z,y,vs,r,ob,es,ep,g,c⟩:=(show ObjOk X.prog X.w H s.heap a (.frz o (.dK kvs)) from I.hok a _ e)
  exact I.swap e (fun _ z=>nomatch z) (fun _ z=>nomatch z) n1 n2 n3 ⟨z,y,vs,r,ob,es,ep,g,c⟩
end
noncomputable def Ends.dn (D:Ends) (a:Addr) (o:Obj) (kvs:List (Key×V)):Ends:=
  ⟨fun σ H=>H a=some (.frz o (.dK kvs))∧D.nx σ (upd H a (.dK kvs)),fun v H=>H a=some (.frz o (.dK kvs))∧D.rt v (upd H a (.dK kvs)),fun σ H=>H a=some (.frz o (.dK kvs))∧D.bk σ (upd H a (.dK kvs)),fun σ H=>H a=some (.frz o (.dK kvs))∧D.ct σ (upd H a (.dK kvs))⟩
noncomputable def sScope (i:Nat) (t:TS):TS:=fun D σ H=>∃ a,σ[i]?=some (some (.ref a))∧((∃ o kvs,H a=some (.frz o (.dK kvs))∧t D σ H)∨∃ kvs,H a=some (.dK kvs)∧∀ o,t (D.dn a o kvs) σ (upd H a (.frz o (.dK kvs))))
theorem ps_scope {X:Cx} {st:Stmt} {t:TS} {i:Nat} (h:PS X st t):PS X st (sScope i t):=by
  intro pins s σ H D I ht
  obtain ⟨a,ha,⟨_,_,_,ht⟩ | ⟨kvs,e,ht⟩⟩:=ht
  · exact h pins s σ H D I ht
  · obtain ⟨o,I1⟩:=I.up e
    refine thn (h pins s σ _ _ I1 (ht o)) fun f s' hf=>?_
    cases f with
    | next=>obtain ⟨σ',H',I',e',q⟩:=hf; exact ⟨σ',_,I'.dn e' (I.noH e),q⟩
    | brk=>obtain ⟨σ',H',I',e',q⟩:=hf; exact ⟨σ',_,I'.dn e' (I.noH e),q⟩
    | cont=>obtain ⟨σ',H',I',e',q⟩:=hf; exact ⟨σ',_,I'.dn e' (I.noH e),q⟩
    | ret u=>obtain ⟨v,σ',H',I',r,e',q⟩:=hf; exact ⟨v,σ',_,I'.dn e' (I.noH e),r,q⟩
noncomputable def Itk (a:Addr) (o:Obj) (kvs:List (Key×V)):It:=⟨fun i H=>H a=some (.frz o (.dK kvs))∧i<kvs.length,fun i H v H'=>H'=H∧∃ k u,kvs[i]?=some (k,u)∧v=kV k,fun i H=>H a=some (.frz o (.dK kvs))∧kvs.length≤i⟩
theorem frz_at {P:Program} {w:World} {H:Hp} {h:Heap} {a:Addr} {o:Obj} {kvs:List (Key×V)} {es:Array DictEntry} {ep:Nat} (ok:HOk P w H h) (e:H a=some (.frz o (.dK kvs))) (d:o.data=.dict es ep):(a == sysModules)=false∧∃ vs,KV kvs vs∧h.DictAt (mixKind P w) a vs ep:=by
  obtain ⟨g,z,y,vs,r,ob,es',ep',g',c⟩:=(show ObjOk P w H h a (.frz o (.dK kvs)) from ok a _ e)
  rw [g] at g'
  cases g'
  refine ⟨y,vs,r,o,es',g,c.1,?_,c.2.2⟩
  have e1:=c.2.1
  rw [d] at e1
  cases e1
  exact d
end L2
namespace L2
open PySem PySem.Spec PyProof PyProof.Rows
theorem kv_get:∀ {kvs:List (Key×V)} {vs:List (Key×Value)} {i:Nat} {k:Key} {x:Value},KV kvs vs→vs[i]?=some (k,x)→∃ u,kvs[i]?=some (k,u)∧RelV u x
  | _,_,_,_,_,.nil,e=>by cases e
  | _,_,0,_,_,.cons r t,e=>by
    cases e
    obtain ⟨r1,r2⟩:=r
    exact ⟨_,congrArg some (Prod.ext r1 rfl),r2⟩
  | _,_,i+1,_,_,.cons _ t,e=>kv_get (i:=i) t (by simpa using e)
theorem turn_dkeys {P:Program} {w:World} {K:PySem.W.Frag} {tg:Expr} {kvs:List (Key×V)} {o:Obj} {es:Array DictEntry} {ep:Nat} (a it:Addr) (d:o.data=.dict es ep) :
    Turn P w K tg (Itk a o kvs) [it] it (fun i h=>h.IsKeyIter it a i kvs.length ep) where
  mem:=by simp
  obj:=fun i h st b hb=>by
    have e:b=it:=by simpa using hb
    subst e
    obtain ⟨o,e,c,d⟩:=st
    exact ⟨o,e,fun v z=>by rw [d] at z; cases z⟩
  keep:=fun i h h' st k=>st.at fun o e=>k it (by simp) o e
  item:=by
    intro X hP hw hK hc i pins s σ H E I hf st hg
    subst hP hw hK
    obtain ⟨_,vs,rel,dd⟩:=frz_at I.hok hg.1 d
    have ln:vs.length=kvs.length:=kv_len rel
    have hi:i<vs.length:=by rw [ln]; exact hg.2
    have hx:vs[i]?=some (vs[i].1,vs[i].2):=List.getElem?_eq_getElem hi
    obtain ⟨u,hk,_⟩:=kv_get rel hx
    obtain ⟨f0,f1,f2,f3,f4,f5⟩:=hf it (by simp)
    rw [← ln] at st
    refine wpAny_pyNext_dict_item st dd hx fun key h' hkey st' sb=>?_
    rw [ln] at st'
    have I1:Inv X pins σ H { s with heap:=h' }:=I.turned (t':=s.toks) (fun b o hb e=>(sb.2 b hb).trans e) f0 f1 f3 f4 f5
    obtain ⟨o,e,c,d⟩:=id st'
    exact ⟨key,rfl,go_of (s:={ s with heap:=h' }) e c d (by decide) ⟨kV vs[i].1,H,I1,key_rel hkey,⟨rfl,_,_,hk,rfl⟩,st',fun b hb=>(hf b hb).1⟩⟩
  done:=by
    intro X hP hw hK hc i pins s σ H E I hf st hg
    subst hP hw hK
    obtain ⟨_,vs,rel,dd⟩:=frz_at I.hok hg.1 d
    have ln:vs.length=kvs.length:=kv_len rel
    have hx:vs[i]?=none:=List.getElem?_eq_none (by rw [ln]; exact hg.2)
    obtain ⟨f0,f1,f2,f3,f4,f5⟩:=hf it (by simp)
    rw [← ln] at st
    exact wpAny_pyNext_dict_end (I.ok.hd hc) st dd hx fun h' eb=>⟨rfl,I.turned (t':=s.toks) (fun b o hb e=>eb b o hb e) f0 f1 f3 f4 f5⟩
  self:=fun _ _ _ _ _ st h=>wpAny_pyIter_keyiter st h
noncomputable def iDk (i:Nat):TI:=fun σ H R=>∃ a o kvs,σ[i]?=some (some (.ref a))∧H a=some (.frz o (.dK kvs))∧R (Itk a o kvs) H
theorem pi_dkeys {X:Cx} {tg:Expr} {x:Str} {p:Pos} {i:Nat} (hN:X.N[i]?=some x) (hv:Vis X.env.scope x) (hd:(x == ("__debug__" : Str))=false:=by decide) (hcd:(x == ("__classdict__" : Str))=false:=by decide):PI X tg (.Name x p) (iDk i):=by
  intro pins s σ H R I hR
  obtain ⟨a,o,kvs,ha,e,hR⟩:=hR
  refine thn (pe_var (pos:=p) hN hv hd hcd pins s σ H (fun v H1=>v=.ref a∧H1=H) I ⟨_,ha,rfl,rfl⟩) fun v s1 ⟨y,H1,I1,r1,e1,e2⟩=>?_
  subst e1 e2
  cases (show v=Value.ref a from r1)
  obtain ⟨g,_,_,_,_,o',es,ep,g',_,hdat,_⟩:=(show ObjOk X.prog X.w H1 s1.heap a (.frz o (.dK kvs)) from I1.hok a _ e)
  rw [g] at g'
  cases g'
  obtain ⟨lo,vs,rel,dd⟩:=frz_at I1.hok e hdat
  have ln:vs.length=kvs.length:=kv_len rel
  refine wpAny_pyIter_dict lo dd ?_
  rw [ln]
  refine ⟨s1.heap.objs.size,[s1.heap.objs.size],_,_,H1,rfl,I1.kept (t':=s1.toks) fun b o e=>Heap.get?_push_of_some _ e,turn_dkeys a _ hdat,⟨_,Heap.get?_push_size _ rfl,rfl,rfl⟩,fun b hb=>?_,hR⟩
  have e:b=s1.heap.objs.size:=by simpa using hb
  subst e
  exact I1.fpOk (Nat.le_refl _) (I1.hok.fresh (Nat.le_refl _))
end L2
namespace L3
open PySem PySem.Spec PyProof PyProof.Rows L2
structure Tw (a:Addr) (kvs:List (Key×V)) (G G':Hp):Prop where
  ne:∀ b,b≠a→G' b=G b
  l:Rd G a (.dK kvs)
  r:Rd G' a (.dK kvs)
section
variable {K:PySem.W.Frag} {a:Addr} {o:Obj} {kvs:List (Key×V)} {G G' H H' G0 H0:Hp}
theorem Rd.tw {b:Addr} {u:HO} (t:Tw a kvs G G') (hu:∀ ob v,u≠.frz ob v) (h:Rd G b u):Rd G' b u:=by
  by_cases hb:b=a
  · subst hb
    have e:u=.dK kvs:=by
      rcases h with h | ⟨ob,h⟩<;>rcases t.l with l | ⟨oc,l⟩<;>rw [l] at h
      · cases h; rfl
      · cases h; exact absurd rfl (hu oc _)
      · cases h
      · cases h; rfl
    rw [e]
    exact t.r
  · rcases h with h | ⟨ob,h⟩
    · exact .inl (by rw [t.ne b hb]; exact h)
    · exact .inr ⟨ob,by rw [t.ne b hb]; exact h⟩
theorem Tw.at {b:Addr} {u:HO} (t:Tw a kvs G G') (h:G b=some u) (h1:u≠.dK kvs) (h2:∀ o,u≠.frz o (.dK kvs)):G' b=some u:=by
  by_cases hb:b=a
  · subst hb
    rcases t.l with l | ⟨oc,l⟩<;>rw [l] at h
    · cases h; exact absurd rfl h1
    · cases h; exact absurd rfl (h2 oc)
  · rw [t.ne b hb]; exact h
theorem Rep.tw (t:Tw a kvs G G'):∀ {d:D} {v:V},Rep K G d v→Rep K G' d v:=fun {d}=>by
  refine D.ind (P:=fun d=>∀ v,Rep K G d v→Rep K G' d v) (fun v h=>h) (fun b v h=>h) (fun i v h=>h) (fun x v h=>h) ?_ ?_ ?_ ?_ ?_ d _
  · rintro xs ih v ⟨b,vs,e,q,r,l⟩
    refine ⟨b,vs,e,?_,Reps.imp ih r,l⟩
    rcases q with q | q
    · exact .inl (Rd.tw t (fun _ _ z=>nomatch z) q)
    · exact .inr q
  · rintro xs ih v ⟨b,vs,e,q,r,l⟩
    refine ⟨b,vs,e,?_,Reps.imp ih r,l⟩
    rcases q with q | q
    · exact .inl (Rd.tw t (fun _ _ z=>nomatch z) q)
    · exact .inr q
  · rintro ks xs ih v ⟨b,vs,e,q,z,r,l⟩
    exact ⟨b,vs,e,Rd.tw t (fun _ _ z=>nomatch z) q,z,Reps.imp ih r,l⟩
  · rintro x v ⟨b,C,e,n,h⟩
    exact ⟨b,C,e,n,t.at h (fun z=>nomatch z) (fun _ z=>nomatch z)⟩
  · rintro x fs xs ih v ⟨b,C,dx,vs,e,n,h,l,r⟩
    exact ⟨b,C,dx,vs,e,n,t.at h (fun z=>nomatch z) (fun _ z=>nomatch z),l,Reps.imp ih r⟩
theorem Reps.tw (t:Tw a kvs G G') {ds:List D} {vs:List V} (h:Reps K G ds vs):Reps K G' ds vs:=Reps.imp (fun _ _ _=>Rep.tw t) h
theorem OwnAt.tw {d:D} {p:Addr} (t:Tw a kvs G G') (hp:H' p=H p) (ow:OwnAt K G H d p):OwnAt K G' H' d p:=by
  cases d with
  | lst ds=>obtain ⟨vs,e,r,l⟩:=ow; exact ⟨vs,by rw [hp]; exact e,r.tw t,l⟩
  | dic ks ds=>obtain ⟨vs,e,z,r,l⟩:=ow; exact ⟨vs,by rw [hp]; exact e,z,r.tw t,l⟩
  | _=>exact ow.elim
theorem tw_up (e:G a=some (.dK kvs)):Tw a kvs G (upd G a (.frz o (.dK kvs))):=⟨fun b hb=>upd_ne hb,.inl e,.inr ⟨o,upd_same⟩⟩
theorem tw_dn (e:G a=some (.frz o (.dK kvs))):Tw a kvs G (upd G a (.dK kvs)):=⟨fun b hb=>upd_ne hb,.inr ⟨o,e⟩,.inl upd_same⟩
noncomputable def upH (a:Addr) (f:HO) (H0:Hp):Hp:=fun b=>if b=a then (H0 a).bind fun _=>some f else H0 b
theorem upH_ne {f:HO} {b:Addr} (h:b≠a):upH a f H0 b=H0 b:=if_neg h
theorem upH_none {f:HO} {b:Addr}:upH a f H0 b=none↔H0 b=none:=by
  unfold upH
  by_cases h:b=a
  · subst h
    rw [if_pos rfl]
    cases H0 b with
    | none=>exact ⟨fun _=>rfl,fun _=>rfl⟩
    | some u=>exact ⟨fun z=>(nomatch z),fun z=>(nomatch z)⟩
  · rw [if_neg h]
theorem upH_at {f u:HO} (h:upH a f H0 a=some u):u=f:=by
  unfold upH at h
  rw [if_pos rfl] at h
  cases e:H0 a with
  | none=>rw [e] at h; cases h
  | some w=>rw [e] at h; cases h; rfl
theorem EnvOk.up {n:Nat} {τ:SEnv} {σ:St} (E:EnvOk K n G0 H0 G H τ σ) (e:G a=some (.dK kvs)):EnvOk K n (upd G a (.frz o (.dK kvs))) (upH a (.frz o (.dK kvs)) H0) (upd G a (.frz o (.dK kvs))) (upd H a (.frz o (.dK kvs))) τ σ:=by
  have t:=tw_up (o:=o) e
  refine ⟨⟨Same.refl _,fun b u h=>?_,same_upd2 E.ext.gh,fun _ h=>.inl h⟩,E.l1,E.l2,fun i d h=>?_,fun i d h=>?_,E.ap⟩
  · by_cases hb:b=a
    · subst hb
      rw [upd_same,upH_at h]
    · rw [upH_ne hb] at h
      rw [upd_ne hb]
      exact E.ext.h _ _ h
  · obtain ⟨v,e',r⟩:=E.fr i d h
    exact ⟨v,e',r.tw t⟩
  · obtain ⟨p,e',g,z,ow⟩:=E.ow i d h
    have hp:p≠a:=fun z=>by subst z; rw [e] at g; cases g
    exact ⟨p,e',by rw [upd_ne hp]; exact g,upH_none.mpr z,ow.tw t (upd_ne hp)⟩
theorem Ext.backD (x0:Ext G0 H0 G H) (e:G a=some (.dK kvs)) (x:Ext (upd G a (.frz o (.dK kvs))) (upH a (.frz o (.dK kvs)) H0) G' H'):G' a=some (.frz o (.dK kvs))∧H' a=some (.frz o (.dK kvs))∧Ext G0 H0 (upd G' a (.dK kvs)) (upd H' a (.dK kvs)):=by
  have g':G' a=some (.frz o (.dK kvs)):=x.g _ _ upd_same
  refine ⟨g',x.gh _ _ g',x0.rebase ⟨fun b u h=>?_,fun b u h=>?_,same_upd2 x.gh,fun p h=>?_⟩⟩
  · by_cases hb:b=a
    · subst hb
      rw [e] at h
      cases h
      exact upd_same
    · rw [upd_ne hb]
      exact x.g _ _ (by rw [upd_ne hb]; exact h)
  · by_cases hb:b=a
    · subst hb
      have:=x0.h _ _ h
      rw [x0.gh _ _ e] at this
      cases this
      exact upd_same
    · rw [upd_ne hb]
      exact x.h _ _ (by rw [upH_ne hb]; exact h)
  · by_cases hb:p=a
    · subst hb
      exact .inl (by rw [e]; exact fun z=>nomatch z)
    · rw [upd_ne hb] at h
      rcases x.new p h with z | z
      · rw [upd_ne hb] at z
        exact .inl z
      · exact .inr (upH_none.mp z)
theorem EnvOk.backD {n:Nat} {τ τ':SEnv} {σ σ':St} (E:EnvOk K n G0 H0 G H τ σ) (e:G a=some (.dK kvs)) (E':EnvOk K n (upd G a (.frz o (.dK kvs))) (upH a (.frz o (.dK kvs)) H0) G' H' τ' σ'):H' a=some (.frz o (.dK kvs))∧EnvOk K n G0 H0 (upd G' a (.dK kvs)) (upd H' a (.dK kvs)) τ' σ':=by
  obtain ⟨g',h',x⟩:=E.ext.backD e E'.ext
  have t:=tw_dn g'
  refine ⟨h',x,E'.l1,E'.l2,fun i d h=>?_,fun i d h=>?_,E'.ap⟩
  · obtain ⟨v,e',r⟩:=E'.fr i d h
    exact ⟨v,e',r.tw t⟩
  · obtain ⟨p,e',g,z,ow⟩:=E'.ow i d h
    have hp:p≠a:=fun z=>by subst z; rw [g'] at g; cases g
    exact ⟨p,e',by rw [upd_ne hp]; exact g,upH_none.mp z,ow.tw t (upd_ne hp)⟩
end
noncomputable def Kn (K:PySem.W.Frag) (i:Nat) (τ:SEnv) (σ:St) (G:Hp):Prop:=∃ a o ks ds vs,τ[i]?=some (some (false,.dic ks ds))∧σ[i]?=some (some (.ref a))∧G a=some (.frz o (.dK (ks.zip vs)))∧ks.length=vs.length∧Reps K G ds vs∧ds.length≤sizeLine
structure SSK (X:Cx) (i:Nat) (st:Stmt) (f:FS):Prop where
  h:∃ t,PS X st t∧∀ {G0 H0 G H:Hp} {τ:SEnv} {σ:St} {fl:Fl} {E:Ends},EnvOk X.K X.N.length G0 H0 G H τ σ→Kn X.K i τ σ G→f τ=some fl→FlOk X.K X.N.length G0 H0 E fl→t E σ H
structure SIK (X:Cx) (i:Nat) (tg iter:Expr) (f:FA):Prop where
  h:∃ wi,PI X tg iter wi∧∀ {G0 H0 G H:Hp} {τ:SEnv} {σ:St} {ds:List D} {R:It→Hp→Prop},EnvOk X.K X.N.length G0 H0 G H τ σ→Kn X.K i τ σ G→f τ=some ds→(∀ J G' H',Ext G H G' H'→ds.length≤sizeLine→Walk X.K J G' ds→R J H')→wi σ H R
noncomputable def DicAt {α:Type} (i:Nat) (f:SEnv→Option α):Prop:=∀ τ x,f τ=some x→∃ ks ds,τ[i]?=some (some (false,.dic ks ds))
theorem ss_scope {X:Cx} {i:Nat} {st:Stmt} {f:FS} (h:SSK X i st f) (hk:DicAt i f):SS X st f:=by
  obtain ⟨t,pt,k⟩:=h.h
  refine ⟨⟨_,ps_scope (i:=i) pt,fun {G0 H0 G H τ σ fl E} K hf q=>?_⟩⟩
  obtain ⟨ks,ds,ht⟩:=hk _ _ hf
  obtain ⟨v,hv,a,vs,rfl,rd,hl,rs,ll⟩:=K.fr i _ ht
  refine ⟨a,hv,?_⟩
  rcases rd with e | ⟨o,e⟩
  · refine .inr ⟨_,K.ext.gh _ _ e,fun o=>?_⟩
    have K1:=K.up (o:=o) e
    refine k K1 ⟨a,o,ks,ds,vs,ht,hv,upd_same,hl,rs.tw (tw_up e),ll⟩ hf ?_
    cases fl with
    | nx τ'=>exact fun σ' G' H' z=>let ⟨h1,h2⟩:=K.backD e z; ⟨h1,q σ' _ _ h2⟩
    | bk τ'=>exact fun σ' G' H' z=>let ⟨h1,h2⟩:=K.backD e z; ⟨h1,q σ' _ _ h2⟩
    | ct τ'=>exact fun σ' G' H' z=>let ⟨h1,h2⟩:=K.backD e z; ⟨h1,q σ' _ _ h2⟩
    | rt ow d=>
      cases ow with
      | false=>
        intro v G' H' x r
        obtain ⟨g',h',x'⟩:=K.ext.backD e x
        exact ⟨h',q v _ _ x' (r.tw (tw_dn g'))⟩
      | true=>
        intro p G' H' x hp gp ow
        obtain ⟨g',h',x'⟩:=K.ext.backD e x
        have ne:p≠a:=fun z=>by subst z; rw [g'] at gp; cases gp
        exact ⟨h',q p _ _ x' (upH_none.mp hp) (by rw [upd_ne ne]; exact gp) (ow.tw (tw_dn g') (upd_ne ne))⟩
  · exact .inl ⟨o,_,K.ext.gh _ _ e,k K ⟨a,o,ks,ds,vs,ht,hv,e,hl,rs,ll⟩ hf q⟩
theorem ss_forK {X:Cx} {i:Nat} {tg iter:Expr} {body:List Stmt} {fs:FA} {g:FS} {pos:Pos} {fg:FG} (hp:PassesOwn (model X.prog X.w) X.A X.env X.xe) (hc:X.calm=true) (hi:SIK X i tg iter fs) (hg:SG X tg fg) (hb:SSs X body g) (hs:∀ x,foldedSetIterable iter X.env x=pure x:=by intro _; rfl):SSK X i (.For tg iter body [] pos) (sFor fs fg g):=by
  obtain ⟨ti,pi,ki⟩:=hi.h
  obtain ⟨tg',pg,kg⟩:=hg.h
  obtain ⟨tb,pb,kb⟩:=hb.h
  refine ⟨⟨_,ps_for hp hc pi pg pb hs,fun {G0 H0 G H τ σ fl E} K kn hf q=>?_⟩⟩
  obtain ⟨ds,hd,hf⟩:=bindE hf
  refine ki K kn hd fun J Ga Ha xa _ wk=>?_
  have Ka:=K.go xa
  have q':=FlOk.near Ka.ext q
  refine ⟨fun i m σ H=>m=ds.length - i∧i≤ds.length∧∃ τ G,EnvOk X.K X.N.length Ga H0 G H τ σ∧loopG fg g (ds.drop i) τ=some fl,⟨ds.length,rfl,Nat.zero_le _,τ,Ga,Ka.far,hf⟩,?_⟩
  rintro i m σ H ⟨rfl,hle,τ,G,K,hf⟩
  by_cases hlt:i<ds.length
  · refine .inr ⟨wk.go i G H K.ext.g K.ext.gh hlt,fun σ' H'=>∃ τ G,EnvOk X.K X.N.length Ga H0 G H' τ σ'∧loopG fg g (ds.drop (i+1)) τ=some fl,fun σ' H' z=>⟨ds.length - (i+1),by omega,rfl,hlt,z⟩,fun x H' y=>?_⟩
    obtain ⟨G3,d,x3,ed,rd⟩:=wk.yld i G H x H' K.ext.g K.ext.gh hlt y
    rw [List.drop_eq_getElem_cons hlt] at hf
    rw [List.getElem?_eq_getElem hlt] at ed
    cases ed
    obtain ⟨τ1,h1,hf⟩:=bindE (show (fg _ τ).bind _=_ from hf)
    obtain ⟨f1,h2,hf⟩:=bindE hf
    refine kg (K.go x3) rd h1 fun σ1 K1=>kb K1 h2 ?_
    cases f1 with
    | nx τ2=>exact fun σ2 G2 H2 K2=>⟨τ2,G2,K2,hf⟩
    | ct τ2=>exact fun σ2 G2 H2 K2=>⟨τ2,G2,K2,hf⟩
    | bk τ2=>cases hf; exact q'
    | rt o d=>cases hf; exact FlOk.with q' (fun _ z=>nomatch z) (fun _ z=>nomatch z) (fun _ z=>nomatch z) rfl
  · have e:ds.drop i=[]:=List.drop_eq_nil_of_le (by omega)
    rw [e] at hf
    cases hf
    exact .inl ⟨wk.stop i G H K.ext.g K.ext.gh (by omega),q' _ _ _ K⟩
noncomputable def iDKeys (i:Nat):FA:=fun τ=>match τ[i]? with
  | some (some (false,.dic ks _))=>if ks.all okKey=true then some (ks.map keyOf) else none
  | _=>none
theorem dicAt_for {i:Nat} {fs:FA} {fg:FG} {g:FS} (h:DicAt i fs):DicAt i (sFor fs fg g):=fun τ x hf=>by
  obtain ⟨ds,hd,_⟩:=bindE hf
  exact h τ ds hd
theorem dicAt_keys (i:Nat):DicAt i (iDKeys i):=fun τ x hf=>by
  unfold iDKeys at hf
  split at hf
  · rename_i ks ds e
    exact ⟨ks,ds,e⟩
  · cases hf
theorem dk_walk {K:PySem.W.Frag} {G:Hp} {a:Addr} {o:Obj} {ks:List Key} {vs:List V} (hl:ks.length=vs.length) (e:G a=some (.frz o (.dK (ks.zip vs)))) (h:ks.all okKey=true):Walk K (Itk a o (ks.zip vs)) G (ks.map keyOf) where
  go:=fun i G2 H g1 g2 hi=>⟨g2 _ _ (g1 _ _ e),by rw [List.length_map] at hi; rw [List.length_zip,← hl,Nat.min_self]; exact hi⟩
  yld:=fun i G2 H x H' g1 g2 hi y=>by
    obtain ⟨rfl,k,u,hk,rfl⟩:=y
    have hk1:ks[i]?=some k:=by
      have:=congrArg (Option.map Prod.fst) hk
      rw [← List.getElem?_map,List.map_fst_zip (by omega)] at this
      exact this
    exact ⟨G2,keyOf k,Ext.refl g2,by rw [List.getElem?_map,hk1]; rfl,key_rep2 (List.all_eq_true.mp h k (List.mem_of_getElem? hk1))⟩
  stop:=fun i G2 H g1 g2 hi=>⟨g2 _ _ (g1 _ _ e),by rw [List.length_map] at hi; rw [List.length_zip,← hl,Nat.min_self]; exact hi⟩
theorem si_dkeys {X:Cx} {tg:Expr} {x:Str} {p:Pos} {i:Nat} (hN:X.N[i]?=some x) (hv:Vis X.env.scope x) (hd:(x == ("__debug__" : Str))=false:=by decide) (hcd:(x == ("__classdict__" : Str))=false:=by decide):SIK X i tg (.Name x p) (iDKeys i):=by
  refine ⟨⟨_,pi_dkeys hN hv hd hcd,fun {G0 H0 G H τ σ ds R} K kn hf q=>?_⟩⟩
  obtain ⟨a,o,ks,ds',vs,ht,hs,e,hl,rs,ll⟩:=kn
  unfold iDKeys at hf
  rw [ht] at hf
  change (if ks.all okKey=true then some (ks.map keyOf) else none)=some ds at hf
  by_cases c:ks.all okKey=true
  · rw [if_pos c] at hf
    cases hf
    refine ⟨a,o,_,hs,K.ext.gh _ _ e,q _ _ _ (Ext.refl K.ext.gh) ?_ (dk_walk hl e c)⟩
    rw [List.length_map,hl,rs.length]
    exact ll
  · rw [if_neg c] at hf
    cases hf
end L3
namespace L2
open PySem PySem.Spec PyProof PyProof.Rows
end L2
namespace L3
open PySem PySem.Spec PyProof PyProof.Rows L2
section
variable {X:Cx} {i:Nat} {tg iter elt:Expr} {ifs:List Expr} {scope:Scope} {cl:List (Str×Addr)} {own:List Str} {pos:Pos} {fs:FA} {fg:FG} {ft:FT} {f:FE} {g:TG}
end
end L3
namespace L2
open PySem PySem.Spec PyProof PyProof.Rows
end L2
namespace L3
open PySem PySem.Spec PyProof PyProof.Rows L2
end L3
namespace L2
open PySem PySem.Spec PyProof PyProof.Rows
section
variable {prog:Program} {w:World} {K:Type} [DecidableEq K] {knd:KeyKind prog w K} {A:Around} {E:Value→Shared→Prop} {s:Shared}
end
end L2
namespace L3
open PySem PySem.Spec PyProof PyProof.Rows L2
end L3
namespace L2
open PySem PySem.Spec PyProof PyProof.Rows
section
variable {prog:Program} {w:World} {A:Around} {R:Result→Shared→Prop} {I:Addr} {fp wr:List Addr} {n:Nat} {P:Nat→Value→Prop} {St:Nat→Heap→Prop} {kw:List (Str×Value)}
end
section
variable {prog:Program} {w:World} {A:Around} {E:Value→Shared→Prop} {s:Shared}
end
section
variable {X:Cx}
end
end L2
namespace L3
open PySem PySem.Spec PyProof PyProof.Rows L2
noncomputable def fLenD:List D→Option D
  | [.dic ks _]=>some (.int ks.length)
  | _=>none
theorem call_lenR {X:Cx}:CallR X (.builtin "len") (fun xs H Q=>∃ a kvs,xs=[V.ref a]∧Rd H a (.dK kvs)∧Q (.int kvs.length) H):=by
  intro pins s σ H xs us Q I r h
  obtain ⟨a,kvs,rfl,ha,q⟩:=h
  obtain ⟨u,rfl,ru⟩:=vals1 r
  cases ru
  exact d_len I ha fun t s' I'=>⟨.int kvs.length,H,I',⟨t,rfl⟩,q⟩
theorem ok_lenD {K:PySem.W.Frag}:OkCB K (fun xs H Q=>∃ a kvs,xs=[V.ref a]∧Rd H a (.dK kvs)∧Q (.int kvs.length) H) fLenD:=fun G H ds vs d Q s r hf q=>by
  match ds,hf with
  | [.dic ks xs],hf=>
    cases hf
    obtain ⟨v,r',rfl,hv,hr⟩:=r
    cases (show r'=[] from hr)
    obtain ⟨a,vs,rfl,sq,hl,rs,_⟩:=hv
    refine ⟨a,_,rfl,sq,?_⟩
    rw [List.length_zip,← hl,Nat.min_self]
    exact q _ _ _ (Ext.refl s) rfl
end L3
namespace L3
open PySem PySem.Spec PyProof PyProof.Rows L2
noncomputable abbrev FEX:=SEnv→Option (Sum (Bool×D) Str)
structure SX (X:Cx) (e:Expr) (f:FEX):Prop where
  h:∃ t,QX X e t∧∀ {G0 H0 G H:Hp} {τ:SEnv} {σ:St} {r:Sum (Bool×D) Str} {Q:VK} {E:XK},EnvOk X.K X.N.length G0 H0 G H τ σ→f τ=some r→(match r with
    | .inl (false,d)=>∀ v G' H',Ext G H G' H'→Rep X.K G' d v→Q v H'
    | .inl (true,d)=>∀ p G' H',Ext G H G' H'→H p=none→G' p=none→OwnAt X.K G' H' d p→Q (.ref p) H'
    | .inr x=>XOk X.mg G H E x)→t σ H Q E
noncomputable def xCallE (F:FX) (fa:FA):FEX:=fun τ=>(fa τ).bind fun ds=>F ds
noncomputable def xPairE (c:FE) (f:FEX):FEX:=fun τ=>(c τ).bind fun d=>(f τ).bind fun r=>match r with
  | .inl (_,u)=>some (.inl (false,.tup [d,u]))
  | .inr x=>some (.inr x)
section
variable {X:Cx} {j k kk i:Nat} {f x n z g:Str} {C D':Addr} {ps:List Str} {F:FX} {FF:List D→Option (Bool×D)} {fa:FA} {fc:FE} {fx:FEX} {gs:FS} {c e b:Expr} {es:List Expr} {b₀:Stmt} {suite sts:List Stmt} {fp cp np p p1 pos rp hpos tpos:Pos}
theorem sx_call (hnx:X.nox=X) (hF:HasX X.prog X.w X.K X.mg X.base f ps k (spX X.K X.mg F)) (hr:Room j X.A) (hg:Gl X f) (ha:SA X (e::es) fa) (hk:k≤j:=by decide) (hdb:(f == ("__debug__" : Str))=false:=by decide) (he:(e::es).all noStar=true:=by rfl) :
    SX X (.Call (.Name f fp) (e::es) [] cp) (xCallE F fa):=by
  obtain ⟨ta,pa,ka⟩:=ha.h
  have pa':QA X.nox (e::es) ta:=by rw [hnx]; exact ⟨pa⟩
  refine ⟨⟨_,qx_call hF hr hg pa' hk hdb he,fun {G0 H0 G H τ σ r Q E} K hf q=>?_⟩⟩
  obtain ⟨ds,hd,hf⟩:=bindE hf
  refine ka K hd fun vs G1 H1 x1 r1=>⟨G1,ds,r,x1.gh,r1,hf,?_⟩
  cases r with
  | inl od=>
    obtain ⟨o,d⟩:=od
    cases o with
    | false=>exact fun v G' H' x2 rv=>q v G' H' (x1.trans x2) rv
    | true=>exact fun p G' H' x2 hp gp o=>q p G' H' (x1.trans x2) (x1.h.free hp) gp o
  | inr w=>
    obtain ⟨C',hm,q⟩:=q
    exact ⟨C',hm,fun G' H' x2=>q G' H' (x1.trans x2)⟩
theorem sx_pair (hnx:X.nox=X) (hc:SE X c fc) (h:SX X e fx) (n1:noStar c=true:=by rfl) (n2:noStar e=true:=by rfl):SX X (.Tuple [c,e] kk pos) (xPairE fc fx):=by
  obtain ⟨tc,pc,kc⟩:=hc.h
  obtain ⟨t,pt,kt⟩:=h.h
  have pc':QE X.nox c tc:=by rw [hnx]; exact ⟨pc⟩
  refine ⟨⟨_,qx_pair pc' pt n1 n2,fun {G0 H0 G H τ σ r Q E} K hf q=>?_⟩⟩
  obtain ⟨d,hd,hf⟩:=bindE hf
  obtain ⟨r',hr',hf⟩:=bindE hf
  refine kc K hd fun v1 G1 H1 x1 r1=>kt (K.go x1) hr' ?_
  have two:∀ {v2:V} {u:D} {G2 H2:Hp},Ext G1 H1 G2 H2→Rep X.K G2 u v2→r=.inl (false,.tup [d,u])→∀ p,H2 p=none→Q (.ref p) (upd H2 p (.tup [v1,v2])):=fun {v2 u G2 H2} x2 r2 er p hp=>by
    subst er
    have l:(2:Nat)≤sizeLine:=small (n:=2) (by decide)
    exact q _ _ _ ((x1.trans x2).trans (Ext.lay x2.gh hp)) ⟨p,[v1,v2],rfl,SqT.of upd_same,Reps.mono (ds:=[d,u]) (same_new (x2.gh.free hp) _) ⟨v1,[v2],rfl,r1.mono x2.g,v2,[],rfl,r2,rfl⟩,l⟩
  cases r' with
  | inl od=>
    obtain ⟨o,u⟩:=od
    cases hf
    cases o with
    | false=>exact fun v2 G2 H2 x2 r2=>two x2 r2 rfl
    | true=>
      intro p G2 H2 x2 hp gp ow
      obtain ⟨w,hw,rw_⟩:=ow.frz gp
      exact two (x2.frz hp gp hw) rw_ rfl
  | inr w=>
    cases hf
    obtain ⟨C',hm,q⟩:=q
    exact ⟨C',hm,fun G' H' x2=>q G' H' (x1.trans x2)⟩
noncomputable def tSS (K:PySem.W.Frag) (n:Nat) (f:FS):TS:=fun En σ H=>∃ G0 H0 G τ fl,EnvOk K n G0 H0 G H τ σ∧f τ=some fl∧FlOk K n G0 H0 En fl
theorem SSs.asT (h:SSs X sts gs):QSs X sts (tSS X.K X.N.length gs):=by
  obtain ⟨t,p,k⟩:=h.h
  refine ⟨fun pins s σ H F I q=>?_⟩
  obtain ⟨G0,H0,G,τ,fl,K,hf,q⟩:=q
  exact p pins s σ H F I (k K hf q)
noncomputable def sTryR (i:Nat) (z:Str) (fx:FEX) (g:FS):FS:=fun τ=>(fx τ).bind fun r=>match r with
  | .inl (o,d)=>some (.rt o d)
  | .inr x=>if x=z then (g (τ.set i (some (false,.exc x)))).bind fun fl=>match fl with
      | .rt o d=>some (.rt o d)
      | _=>none
    else none
theorem ss_tryR (hst:X.stack=X.env::X.outer) (hfr:X.env.frame=some X.env.locals) (hex:X.ex=[]) (hr:Room j X.A) (hD:X.mg x=some (.ref D')) (hgx:Gl X x) (hz:X.mg z=some (.ref C)) (hns:PySem.W.nsIn X.K mainGlobals z=some (some (.ref C))) (hm:PySem.W.exmOne X.K (.ref C) (.ref D')=some true)
    (hN:X.N.Nodup) (hi:X.N[i]?=some n) (hx:X.env.scope.names.lookup n=some .local) (hb:SX X e fx) (hs:∀ a,SSs (X.marked a) (b₀::suite) gs) (hdb:(x == ("__debug__" : Str))=false:=by decide) :
    SS X (.Try [.Return (some e) rp] [.ExceptHandler (some (.Name x np)) (some n) (b₀::suite) hpos] [] [] tpos) (sTryR i z fx gs):=by
  obtain ⟨t,pt,kt⟩:=hb.h
  refine ⟨⟨_,ps_tryRet (ts:=tSS X.K X.N.length gs) hst hfr hex hr.hd hD hgx hN hi hx pt (fun a=>(hs a).asT) hdb,fun {G0 H0 G H τ σ fl En} K hf q=>?_⟩⟩
  obtain ⟨r,hr',hf⟩:=bindE hf
  refine kt K hr' ?_
  cases r with
  | inl od=>
    obtain ⟨o,d⟩:=od
    cases hf
    cases o with
    | false=>exact fun v G' H' x2 rv=>q v G' H' (K.ext.trans x2) rv
    | true=>exact fun p G' H' x2 hp gp ow=>q p G' H' (K.ext.trans x2) (K.ext.h.free hp) gp ow
  | inr w=>
    by_cases ez:w=z
    · subst ez
      have hf:((gs (τ.set i (some (false,.exc w)))).bind fun fl=>match fl with
        | .rt o d=>some (Fl.rt o d)
        | _=>none)=some fl:=by
        have hf':=hf
        dsimp only at hf'
        rw [if_pos rfl] at hf'
        exact hf'
      obtain ⟨fl',hg',hf⟩:=bindE hf
      refine ⟨C,hz,fun G2 H2 x2=>⟨C,rfl,hm,fun a na=>?_⟩⟩
      have K2:=(K.go x2).go (Ext.lay (o:=.ext (ExcO a C)) x2.gh na)
      have K3:=K2.set (i:=i) (d:=.exc w) (v:=.ref a) (List.getElem?_eq_some_iff.mp hi).1 ⟨a,C,rfl,hns,upd_same⟩
      refine ⟨G0,H0,_,_,fl',K3,hg',?_⟩
      cases fl' with
      | rt o d=>
        cases hf
        cases o with
        | false=>exact q
        | true=>exact q
      | nx _=>cases hf
      | bk _=>cases hf
      | ct _=>cases hf
    · dsimp only at hf
      rw [if_neg ez] at hf
      cases hf
theorem hu_ofH {A:Around} {k:Nat} (hr:RoomH k A):A.units+1<cLine:=by have:=hr.un; omega
theorem hu7H {A:Around} {k:Nat} (hr:RoomH k A):A.units+7<cLine:=by have:=hr.un; omega
theorem se_callH (h:HasH X.prog X.w X.K X.mg X.base x ps k (spF X.K FF)) (hr:RoomH j X.A) (hg:Gl X x) (ha:SA X (e::es) fa) (hk:k≤j:=by decide) (hdb:(x == ("__debug__" : Str))=false:=by decide)
    (he:(e::es).all noStar=true:=by rfl):SE X (.Call (.Name x p) (e::es) [] pos) (eCall FF fa):=by
  obtain ⟨t,pt,kt⟩:=ha.h
  refine ⟨⟨_,(qe_ownH h hr hg ⟨pt⟩ hk hdb he).h,fun E hf q=>?_⟩⟩
  obtain ⟨ds,hd,hf⟩:=bindE hf
  obtain ⟨⟨o,d⟩,hr,hf⟩:=bindE hf
  cases hf
  refine kt E hd fun vs G1 H1 x1 r1=>⟨G1,ds,o,d,x1.gh,by rw [List.append_nil]; exact r1,hr,?_⟩
  cases o with
  | false=>exact fun v G' H' x2 r=>q v G' H' (x1.trans x2) r
  | true=>
    intro p G' H' x2 hp gp o
    obtain ⟨u,hu,r⟩:=o.frz gp
    exact q _ _ _ (x1.trans (x2.frz hp gp hu)) r
noncomputable def fIsX (z:Str) (b:Bool):D→Option D
  | .exc x=>if x=z then some (.bl b) else none
  | _=>none
theorem isx_read {K:PySem.W.Frag} {G:Hp} {d u:D} {v:V} {b:Bool} (hns:PySem.W.nsIn K mainGlobals z=some (some (.ref C))) (hf:fIsX z b d=some u) (r:Rep K G d v):u=.bl b∧∃ a,v=.ref a∧G a=some (.ext (ExcO a C)):=by
  cases d with
  | exc w=>
    change (if w=z then some (D.bl b) else none)=some u at hf
    by_cases ez:w=z
    · rw [if_pos ez] at hf
      cases hf
      subst ez
      obtain ⟨a,C',rfl,h1,h2⟩:=r
      rw [hns] at h1
      cases h1
      exact ⟨rfl,a,rfl,h2⟩
    · rw [if_neg ez] at hf
      cases hf
  | _=>cases hf
theorem se_isx {B:Addr} {y:Str} {bb:Bool} (hg:Gl X "isinstance") (hmi:X.mg "isinstance" = none) (hns:PySem.W.nsIn X.K mainGlobals z=some (some (.ref C))) (hZ:ExK X.K C) (cy:ExC X.K X.mg y B) (hgy:Gl X y) (ht:PySem.W.kitOne X.K (.ref C) (.ref B)=some bb) (ha:SE X e fc) (hs:noStar e=true:=by rfl) (hdb:(y == ("__debug__" : Str))=false:=by decide) :
    SE X (.Call (.Name "isinstance" p) [e,.Name y p1] [] pos) (e1 (fIsX z bb) fc):=by
  obtain ⟨t,pt,k⟩:=ha.h
  refine ⟨⟨_,(qe_callB call_isX hg hmi bt_isinstance (qa_cons ⟨pt⟩ (qa_cons (qe_gl cy.glb hgy hdb) qa_nil rfl) hs) (by decide) (by decide) (by rw [List.all_cons,hs]; rfl)).h,fun {G0 H0 G H τ σ d Q} E hf q=>?_⟩⟩
  obtain ⟨u,hu,hf⟩:=bindE hf
  refine k E hu fun v G' H' x r=>?_
  obtain ⟨rfl,a,rfl,ga⟩:=isx_read hns hf r
  exact ⟨a,C,_,_,bb,rfl,x.gh _ _ ga,hZ,rfl,ht,q _ _ _ x rfl⟩
theorem se_isxT {y:Str} {T:String} {bb:Bool} (hg:Gl X "isinstance") (hmi:X.mg "isinstance" = none) (hns:PySem.W.nsIn X.K mainGlobals z=some (some (.ref C))) (hZ:ExK X.K C) (hgy:Gl X y) (hmy:X.mg y=none) (hv:bootBuiltins y=some (.type T)) (ht:PySem.W.kitOne X.K (.ref C) (.type T)=some bb) (ha:SE X e fc) (hs:noStar e=true:=by rfl) (hn:y ≠ "__name__" := by decide) (hdb:(y == ("__debug__" : Str))=false:=by decide) :
    SE X (.Call (.Name "isinstance" p) [e,.Name y p1] [] pos) (e1 (fIsX z bb) fc):=by
  obtain ⟨t,pt,k⟩:=ha.h
  refine ⟨⟨_,(qe_callB call_isX hg hmi bt_isinstance (qa_cons ⟨pt⟩ (qa_cons (qe_bty hgy hmy hv hn hdb) qa_nil rfl) hs) (by decide) (by decide) (by rw [List.all_cons,hs]; rfl)).h,fun {G0 H0 G H τ σ d Q} E hf q=>?_⟩⟩
  obtain ⟨u,hu,hf⟩:=bindE hf
  refine k E hu fun v G' H' x r=>?_
  obtain ⟨rfl,a,rfl,ga⟩:=isx_read hns hf r
  exact ⟨a,C,_,_,bb,rfl,x.gh _ _ ga,hZ,rfl,ht,q _ _ _ x rfl⟩
noncomputable def fFmtR:D→Option D
  | .str y=>if (reprText y).length≤16777216 then some (.str (reprText y)) else none
  | _=>none
theorem se_fmtR (he:SE X e fc):SE X (.FormattedValue e 114 none pos) (e1 fFmtR fc):=by
  obtain ⟨t,pt,k⟩:=he.h
  refine ⟨⟨_,(qe_fmtR ⟨pt⟩).h,fun {G0 H0 G H τ σ d Q} E hf q=>?_⟩⟩
  obtain ⟨u,hu,hf⟩:=bindE hf
  refine k E hu fun v G' H' x r=>?_
  cases u with
  | str y=>
    change (if (reprText y).length≤16777216 then some (D.str (reprText y)) else none)=some d at hf
    by_cases c:(reprText y).length≤16777216
    · rw [if_pos c] at hf
      cases hf
      obtain ⟨rfl,_⟩:=r
      have l:(reprText y).length≤sizeLine:=by rw [sizeLine_eq]; exact c
      exact ⟨y,rfl,l,q _ _ _ x ⟨rfl,l⟩⟩
    · rw [if_neg c] at hf
      cases hf
  | _=>cases hf
end
section
variable {P:Program} {w:World} {K:PySem.W.Frag} {mg:Str→Option Value} {base:Heap}
theorem Def.okHS {x:Str} {st:Stmt} {N ps:List Str} {k:Nat} {F:List D→Option (Bool×D)} {b:FS} (d:Def K mg x st ps) (S:FnScope N ps (defScope st)) (hN:ps.length≤N.length) (hF:∀ ds r,F ds=some r→ds.length=ps.length∧runF N.length b ds=some r)
    (hb:∀ (f:Addr) (cdv:Value) (A:Around) (outer:List Env) (s:Shared) (H:Hp) (E:XK),RoomH k (A.deeper (envOfC x (defScope st) s.heap.objs.size f cdv))→SSs (cxH P w K mg base N x (defScope st) f cdv A outer s H E) (defBody st) b):HasH P w K mg base x ps (k+1) (spF K F):=by
  refine d.okH S (fun vs H Q E h=>?_) fun f cdv A outer s H vs Q E hr h=>?_
  · obtain ⟨G,ds,o,r,_,rs,e,_⟩:=h
    rw [rs.length,(hF _ _ e).1]
  · obtain ⟨G,ds,o,r,s',rs,e,q⟩:=h
    obtain ⟨l,hrun⟩:=hF _ _ e
    obtain ⟨t,p,kt⟩:=(hb f cdv A outer s H E hr).h
    obtain ⟨fl,hfl,hrun⟩:=bindE hrun
    refine ⟨t,⟨p⟩,kt (env_start (N:=N) s' rs (by omega)) hfl ?_⟩
    cases fl with
    | nx τ=>
      cases hrun
      exact fun σ G' H' z=>q .non G' H' z.ext rfl
    | rt o' d'=>
      cases hrun
      cases o with
      | false=>exact q
      | true=>exact q
    | bk τ=>cases hrun
    | ct τ=>cases hrun
end
end L3
namespace L2
open PySem PySem.Spec PyProof PyProof.Rows
section
variable {X:Cx}
noncomputable def rListD:List V→Hp→VK→Prop:=fun xs H Q=>∃ (a:Addr) (kvs:List (Key×V)),xs=[.ref a]∧Rd H a (.dK kvs)∧kvs.length≤1000∧∀ p,H p=none→Q (.ref p) (upd H p (.lst (kvs.map fun kv=>kV kv.1)))
theorem call_listD (hcalm:X.calm=true):CallR X (.type "list") rListD:=by
  intro pins s σ H xs us Q I r h
  obtain ⟨a,kvs,rfl,ea,hn,q⟩:=h
  obtain ⟨u,rfl,ru⟩:=vals1 r
  cases (show u=Value.ref a from ru)
  obtain ⟨_,lo,vs,rel,o,es,ep,ho,hx,hd,k1,k2,k3⟩:=dk_rd I.hok ea
  have hm:s.heap.DictAt (mixKind X.prog X.w) a vs ep:=⟨o,es,ho,hx,hd,k1,k2,k3⟩
  have ln:=kv_len rel
  have hb:vs.length≤sizeLine:=by rw [ln,sizeLine_eq]; exact Nat.le_trans hn (by decide)
  refine PySem.W.kdl_call (PySem.W.kdl_dict (knd:=mixKind X.prog X.w) (kvs:=vs) (ep:=ep) lo) (I.ok.hd hcalm) hm hb fun h' tk acc' c' kp hS hacc=>?_
  obtain ⟨hsz,hat⟩:=hacc
  have rv:Vals (kvs.map fun kv=>kV kv.1) acc'.toList:=by
    refine Vals.of_get (by rw [List.length_map,Array.length_toList,hsz,ln]) fun j x v h1 h2=>?_
    obtain ⟨k,y,e,hk⟩:=hat j v (by rw [← Array.getElem?_toList]; exact h2)
    obtain ⟨w,e2,_⟩:=kv_get rel e
    rw [List.getElem?_map,e2] at h1
    cases h1
    exact key_rel hk
  refine ⟨.ref s.heap.objs.size,_,I.laid (a:=s.heap.objs.size) (o:=.lst (kvs.map fun kv=>kV kv.1)) (t':=tk) kp (Nat.le_refl _) ⟨?_,acc'.toList,c',rv,?_⟩,rfl,q _ I.fresh⟩
  · rw [List.length_map,sizeLine_eq]
    exact Nat.le_trans hn (by decide)
  · rw [hS]
end
end L2
namespace L3
open PySem PySem.Spec PyProof PyProof.Rows L2
noncomputable def fListD:List D→Option D
  | [.dic ks _]=>if ks.length≤1000∧ks.all okKey=true then some (.lst (ks.map keyOf)) else none
  | _=>none
theorem reps_keys {K:PySem.W.Frag} {G:Hp}:∀ {ks:List Key},ks.all okKey=true→Reps K G (ks.map keyOf) (ks.map kV)
  | [],_=>rfl
  | k::ks,h=>by
    rw [List.all_cons,Bool.and_eq_true] at h
    exact ⟨kV k,_,rfl,key_rep2 h.1,reps_keys h.2⟩
theorem sf_listD {X:Cx} {e:Expr} {fs:FA} {p pos:Pos} (hcalm:X.calm=true) (hg:Gl X "list") (hm:X.mg "list" = none) (ha:SA X [e] fs) (hs:noStar e=true:=by rfl) :
    SF X (.Call (.Name "list" p) [e] [] pos) (eL fListD fs):=by
  obtain ⟨t,pt,k⟩:=ha.h
  refine ⟨⟨_,(qe_callTy (p:=p) (pos:=pos) (call_listD hcalm) hg hm boot_ty_list ⟨pt⟩ (by decide) (by decide) (by rw [List.all_cons,hs]; rfl)).h,fun {G0 H0 G H τ σ d Q} E hf q=>?_⟩⟩
  obtain ⟨ds,hd,hf⟩:=bindE hf
  refine k E hd fun vs G1 H1 x1 r1=>?_
  match ds,hf with
  | [.dic ks xs],hf=>
    by_cases c:ks.length≤1000∧ks.all okKey=true
    · change (if ks.length≤1000∧ks.all okKey=true then some (D.lst (ks.map keyOf)) else none)=some d at hf
      rw [if_pos c] at hf
      cases hf
      obtain ⟨v,rfl,a,us,rfl,sq,hl,rs,l⟩:=reps_one r1
      have z:(ks.zip us).map (fun kv=>kV kv.1)=ks.map kV:=by
        have:(ks.zip us).map Prod.fst=ks:=List.map_fst_zip (by omega)
        rw [← congrArg (List.map kV) this,List.map_map]
        rfl
      refine ⟨a,ks.zip us,rfl,Rd.mono x1.gh sq,by rw [List.length_zip]; omega,fun p' hp'=>?_⟩
      rw [z]
      refine q p' _ _ (x1.trans (Ext.layO x1.gh hp')) (x1.h.free hp') (x1.gh.free hp') ⟨_,upd_same,reps_keys c.2,?_⟩
      rw [List.length_map,sizeLine_eq]
      exact Nat.le_trans c.1 (by decide)
    · change (if ks.length≤1000∧ks.all okKey=true then some (D.lst (ks.map keyOf)) else none)=some d at hf
      rw [if_neg c] at hf
      cases hf
end L3
local macro_rules
  | `(tactic| simp! [$ls,*])=>`(tactic| simp only [L3.shx,Nat.reduceAdd,Nat.reduceSub,Int.reduceLT,Int.reduceLE,Int.reducePow,Int.reduceToNat,Int.reduceAdd,Int.reduceSub,Int.reduceMul,Int.reduceNeg,$ls,*])
namespace L3
open PySem
end L3
namespace L3
open PySem
noncomputable def b_law_cell_at:FS:=
  (sSeq (sIf (tE (e2 (fCmp fun i j=>decide (i<j)) (eVar 1) (eL fLen (aCons (eVar 0) aNil))))
      (sRet (e2 fIx (eVar 0) (eVar 1)))
      sNext)
    (sRet (eC (.int 0))))
theorem ints_at (ns:List Int) (k:Nat):(ns.map D.int)[k]?=(ns[k]?).map D.int:=List.getElem?_map
noncomputable def cellAt (ns:List Int) (k:Int):Int:=ns.getD k.toNat 0
noncomputable def F_law_cell_at:List D→Option (Bool×D)
  | [.lst xs,.int k]=>if 0≤k then ((xs[k.toNat]?).getD (.int 0) |> fun d=>some (false,d)) else none
  | _=>none
theorem cell_ints (ns:List Int) {k:Int} (h:0≤k):F_law_cell_at [.lst (ns.map D.int),.int k]=some (false,.int (cellAt ns k)):=by
  show (if 0≤k then _ else _)=_
  rw [if_pos h,ints_at]
  unfold cellAt
  rw [List.getD_eq_getElem?_getD]
  cases ns[k.toNat]?<;>rfl
theorem run_law_cell_at:∀ ds r,F_law_cell_at ds=some r→ds.length=2∧runF 2 b_law_cell_at ds=some r:=fun ds r h=>by
  unfold F_law_cell_at at h
  split at h
  · rename_i xs k
    refine ⟨rfl,?_⟩
    by_cases h0:0≤k
    · rw [if_pos h0] at h
      cases h
      unfold b_law_cell_at
      by_cases c:k<(xs.length:Int)
      · have e:fIx (.lst xs) (.int k)=some ((xs[k.toNat]?).getD (.int 0)):=by
          show atD xs k=_
          unfold atD
          rw [if_pos h0,List.getElem?_eq_getElem (by omega)]
          rfl
        simp! [decide_eq_true c,e]
      · have e:xs[k.toNat]?=none:=List.getElem?_eq_none (by omega)
        simp! [decide_eq_false c,e,Option.getD]
    · rw [if_neg h0] at h
      cases h
  · cases h
end L3
namespace L3
open PySem
noncomputable def lt (k:Int):Str:=⟨#[97+k.toNat]⟩
theorem abc_at {k:Int} (h0:0≤k) (h1:k<26):atD ("abcdefghijklmnopqrstuvwxyz" : Str).cps.toList k=some (97+k.toNat):=by
  have h:∀ j:Fin 26,atD ("abcdefghijklmnopqrstuvwxyz" : Str).cps.toList (j.val:Int)=some (97+j.val):=by decide +kernel
  have:=h ⟨k.toNat,by omega⟩
  rw [show ((⟨k.toNat,by omega⟩:Fin 26).val:Int)=k by show (k.toNat:Int)=k; omega] at this
  exact this
theorem abc_ix {k:Int} (h0:0≤k) (h1:k<26):fIx (.str "abcdefghijklmnopqrstuvwxyz") (.int k)=some (.str (lt k)):=by
  show (atD _ k).bind _=_
  rw [abc_at h0 h1]
  rfl
theorem add_str {a b:Str} (h:a.length+b.length≤100000):fAdd (.str a) (.str b)=some (.str (a++b)):=by
  show (if a.length+b.length≤LIM then _ else _)=_
  rw [if_pos (by show _≤16777216; omega)]
theorem len_app (a b:Str):(a++b).length=a.length+b.length:=Array.size_append
theorem lt_len (k:Int):(lt k).length=1:=rfl
end L3
namespace L3
open PySem
theorem lc_all {g:FG} {c:FT} {e:FE} {σ:SEnv} (p:D→Bool) (v:D→D):∀ {ds:List D},(∀ d∈ds,∃ σ1,g d σ=some σ1∧c σ1=some (p d)∧(p d=true→e σ1=some (v d)))→lcGo g c e σ ds=some ((ds.filter p).map v)
  | [],_=>rfl
  | d::ds,h=>by
    obtain ⟨σ1,e1,e2,e3⟩:=h d (List.mem_cons_self ..)
    have ih:=lc_all p v (ds:=ds) fun x hx=>h x (List.mem_cons_of_mem _ hx)
    show (g d σ).bind _=_
    rw [e1]
    show (c σ1).bind _=_
    rw [e2]
    cases hp:p d with
    | false=>
      rw [List.filter_cons_of_neg (by rw [hp]; decide)]
      exact ih
    | true=>
      rw [List.filter_cons_of_pos hp]
      show (e σ1).bind _=_
      rw [e3 hp]
      show (lcGo g c e σ ds).bind _=_
      rw [ih]
      rfl
theorem lc_map {g:FG} {e:FE} {σ:SEnv} (v:D→D) {ds:List D} (h:∀ d∈ds,∃ σ1,g d σ=some σ1∧e σ1=some (v d)):lcGo g tTrue e σ ds=some (ds.map v):=by
  have:=lc_all (g:=g) (c:=tTrue) (e:=e) (σ:=σ) (fun _=>true) v (ds:=ds) fun d hd=>by
    obtain ⟨σ1,a,b⟩:=h d hd
    exact ⟨σ1,a,rfl,fun _=>b⟩
  rw [this,List.filter_eq_self.mpr (fun _ _=>rfl)]
inductive Each (R:D→D→Prop):List D→List D→Prop
  | nil:Each R [] []
  | cons {x y:D} {xs ys:List D}:R x y→Each R xs ys→Each R (x::xs) (y::ys)
theorem lc_ex {g:FG} {e:FE} {σ:SEnv} (R:D→D→Prop):∀ {ds:List D},(∀ d∈ds,∃ σ1 x,g d σ=some σ1∧e σ1=some x∧R d x)→∃ xs,lcGo g tTrue e σ ds=some xs∧Each R ds xs
  | [],_=>⟨[],rfl,.nil⟩
  | d::ds,h=>by
    obtain ⟨σ1,x,e1,e2,r⟩:=h d (List.mem_cons_self ..)
    obtain ⟨xs,ih,rs⟩:=lc_ex R (ds:=ds) fun x hx=>h x (List.mem_cons_of_mem _ hx)
    refine ⟨x::xs,?_,.cons r rs⟩
    show (g d σ).bind _=_
    rw [e1]
    show (e σ1).bind _=_
    rw [e2]
    show (lcGo g tTrue e σ ds).bind _=_
    rw [ih]
    rfl
theorem upTo_get {n i:Nat} {d:D} (h:(upTo n)[i]?=some d):i<n∧d=.int (i:Int):=by
  have hi:i<n:=by
    have:=(List.getElem?_eq_some_iff.mp h).1
    simpa using this
  refine ⟨hi,?_⟩
  simp [hi] at h
  exact h.symm
theorem upTo_mem {n:Nat} {d:D} (h:d∈upTo n):∃ i:Nat,i<n∧d=.int (i:Int):=by
  obtain ⟨i,hi,e⟩:=List.getElem_of_mem h
  exact ⟨i,(upTo_get (List.getElem?_eq_some_iff.mpr ⟨hi,e⟩))⟩
theorem upTo_len (n:Nat):(upTo n).length=n:=by simp
theorem at_nat {α:Type} {xs:List α} {i:Int} {a:α} (h0:0≤i) (h:xs[i.toNat]?=some a):atD xs i=some a:=by
  unfold atD
  rw [if_pos h0,h]
noncomputable def okD:Nat→D→Bool
  | 0,_=>false
  | n+1,.tup xs=>xs.all (okD n)
  | n+1,.lst xs=>xs.all (okD n)
  | _+1,d=>flatD d
theorem cmpAll_self {f:D→D→Bool}:∀ {xs:List D},(∀ x∈xs,f x x=true)→cmpAll f xs xs=true
  | [],_=>rfl
  | x::xs,h=>by
    show (f x x&&cmpAll f xs xs)=true
    rw [h x (List.mem_cons_self ..),cmpAll_self fun y hy=>h y (List.mem_cons_of_mem _ hy)]
    rfl
theorem dEqs_self:∀ {xs:List D},(∀ x∈xs,dEq x x=true)→dEqs xs xs=true
  | [],_=>by unfold dEqs; rfl
  | x::xs,h=>by
    unfold dEqs
    rw [h x (List.mem_cons_self ..),dEqs_self fun y hy=>h y (List.mem_cons_of_mem _ hy)]
    rfl
theorem ok_self:∀ (n:Nat) (d:D),okD n d=true→cmpOk n d d=true∧dEq d d=true
  | 0,_,h=>by cases h
  | n+1,d,h=>by
    cases d with
    | tup xs=>
      have h':∀ x∈xs,okD n x=true:=List.all_eq_true.mp h
      exact ⟨cmpAll_self fun x hx=>(ok_self n x (h' x hx)).1,by unfold dEq; exact dEqs_self fun x hx=>(ok_self n x (h' x hx)).2⟩
    | lst xs=>
      have h':∀ x∈xs,okD n x=true:=List.all_eq_true.mp h
      exact ⟨cmpAll_self fun x hx=>(ok_self n x (h' x hx)).1,by unfold dEq; exact dEqs_self fun x hx=>(ok_self n x (h' x hx)).2⟩
    | dic ks vs=>cases h
    | exc _=>cases h
    | obj _ _ _=>cases h
    | non=>exact ⟨rfl,by unfold dEq; rfl⟩
    | bl b=>exact ⟨rfl,by unfold dEq; exact beq_self_eq_true b⟩
    | int i=>exact ⟨rfl,by unfold dEq; exact beq_self_eq_true i⟩
    | str z=>exact ⟨rfl,by unfold dEq; exact beq_self_eq_true z⟩
theorem eqB_self {d:D} (h:okD 6 d=true):fEqB d d=some true:=by
  obtain ⟨h1,h2⟩:=ok_self 6 d h
  have e:fEqB d d=match cmpOk 6 d d with
    | true=>some (dEq d d)
    | false=>none:=by cases d<;>rfl
  rw [e,h1,h2]
theorem eq_self {d:D} (h:okD 6 d=true):fEq d d=some (.bl true):=by
  unfold fEq
  rw [eqB_self h]
  rfl
theorem ne_self {d:D} (h:okD 6 d=true):fNe d d=some (.bl false):=by
  unfold fNe
  rw [eqB_self h]
  rfl
theorem int_eq {i j:Int} (h:i=j):fEq (.int i) (.int j)=some (.bl true):=by
  subst h
  show some (D.bl (i == i))=_
  rw [beq_self_eq_true]
theorem int_ne {i j:Int} (h:i≠j):fEq (.int i) (.int j)=some (.bl false):=by
  show some (D.bl (i == j))=_
  rw [beq_eq_false_iff_ne.mpr h]
theorem add_int {i j:Int}:fAdd (.int i) (.int j)=some (.int (i+j)):=rfl
theorem strs_of:∀ ts:List Str,strsOf (ts.map D.str)=some ts
  | []=>rfl
  | t::ts=>by
    show (strsOf (ts.map D.str)).bind _=_
    rw [strs_of ts]
    rfl
theorem join_of {sep:Str} {ts:List Str} (h:(ts.map (·.length)).sum+ts.length*sep.length≤1000000):fJoin (.str sep) (.lst (ts.map D.str))=some (.str (Builtin.Str.glued sep ts)):=by
  show (strsOf (ts.map D.str)).bind _=_
  rw [strs_of]
  show (if _≤LIM then _ else _)=_
  rw [if_pos (by show _≤16777216; omega)]
theorem get_put {α:Type} {k:Sum Int Str} {v:α}:∀ {ks:List (Sum Int Str)} {vs:List α},ks.length=vs.length→∀ k',getK (putKs ks k) (putVs ks vs k v) k'=if k=k' then some v else getK ks vs k':=by
  have one:∀ {ks:List (Sum Int Str)} {vs:List α},ks.length=vs.length→∀ k',hasK ks k=true→getK ks (List.zipWith (fun k' x=>if k'=k then v else x) ks vs) k'=if k=k' then some v else getK ks vs k':=by
    intro ks
    induction ks with
    | nil=>intro vs _ k' h; cases h
    | cons a ks ih=>
      intro vs hl k' h
      cases vs with
      | nil=>cases hl
      | cons b vs=>
        rw [List.zipWith_cons_cons]
        unfold getK
        by_cases e1:a=k
        · subst e1
          by_cases e2:a=k'
          · rw [if_pos e2,if_pos e2,if_pos rfl]
          · rw [if_neg e2,if_neg e2,if_neg e2]
            by_cases e3:hasK ks a=true
            · have:=ih (vs:=vs) (by simpa using hl) k' e3
              rw [this,if_neg e2]
            · have:∀ {ks:List (Sum Int Str)} {vs:List α},ks.length=vs.length→hasK ks a=false→getK ks (List.zipWith (fun k' x=>if k'=a then v else x) ks vs) k'=getK ks vs k':=by
                intro ks
                induction ks with
                | nil=>intro vs _ _; rfl
                | cons a' ks ih'=>
                  intro vs hl h
                  cases vs with
                  | nil=>cases hl
                  | cons b vs=>
                    have h2:decide (a'=a)=false∧hasK ks a=false:=by
                      have:(decide (a'=a)||hasK ks a)=false:=h
                      exact Bool.or_eq_false_iff.mp this
                    rw [List.zipWith_cons_cons]
                    unfold getK
                    rw [if_neg (of_decide_eq_false h2.1),ih' (by simpa using hl) h2.2]
              exact this (by simpa using hl) (by simpa using e3)
        · have h2:hasK ks k=true:=by
            have:(decide (a=k)||hasK ks k)=true:=h
            rw [decide_eq_false e1] at this
            exact this
          have:=ih (vs:=vs) (by simpa using hl) k' h2
          rw [this,if_neg e1]
          by_cases e2:a=k'
          · rw [if_pos e2]
            rw [if_neg (fun e=>e1 (e2.trans e.symm)),if_pos e2]
          · rw [if_neg e2]
            by_cases e3:k=k'
            · rw [if_pos e3,if_pos e3]
            · rw [if_neg e3,if_neg e3,if_neg e2]
  intro ks vs hl k'
  unfold putKs putVs
  by_cases h:hasK ks k=true
  · rw [if_pos h,if_pos h]
    exact one hl k' h
  · rw [if_neg h,if_neg h]
    clear one
    induction ks generalizing vs with
    | nil=>
      cases vs with
      | nil=>rfl
      | cons _ _=>cases hl
    | cons a ks ih=>
      cases vs with
      | nil=>cases hl
      | cons b vs=>
        have h2:¬ a=k∧¬ hasK ks k=true:=by
          have:¬ (decide (a=k)||hasK ks k)=true:=h
          constructor
          · intro e; exact this (by rw [decide_eq_true e]; rfl)
          · intro e; exact this (by rw [e,Bool.or_true])
        rw [List.cons_append,List.cons_append]
        show (if a=k' then some b else getK (ks++[k]) (vs++[v]) k')=if k=k' then some v else if a=k' then some b else getK ks vs k'
        rw [ih (by simpa using hl) h2.2]
        by_cases e:a=k'
        · rw [if_pos e,if_pos e]
          rw [if_neg (fun e'=>h2.1 (e.trans e'.symm))]
        · rw [if_neg e,if_neg e]
theorem add_lst {L M:List D} (h:L.length+M.length≤1000):fAdd (.lst L) (.lst M)=some (.lst (L++M)):=by
  show (if L.length+M.length≤LIM then _ else _)=_
  rw [if_pos (by show _≤16777216; omega)]
end L3
namespace L3
open PySem
theorem bits_lt {i:Int} {m:Nat} (h:bitsI i≤m):i.natAbs<2 ^ m:=by
  by_cases c:i=0
  · subst c
    exact Nat.pow_pos (by decide)
  · have e:bitsI i=i.natAbs.log2+1:=by
      show (if (i == 0)=true then 0 else i.natAbs.log2+1)=_
      rw [if_neg (by simpa using c)]
    exact (Nat.log2_lt (by omega)).mp (by omega)
theorem bits_le {i:Int} {m:Nat} (h:i.natAbs<2 ^ m):bitsI i≤m:=by
  by_cases c:i=0
  · subst c
    exact Nat.zero_le _
  · have e:bitsI i=i.natAbs.log2+1:=by
      show (if (i == 0)=true then 0 else i.natAbs.log2+1)=_
      rw [if_neg (by simpa using c)]
    rw [e]
    exact (Nat.log2_lt (by omega)).mpr h
end L3
namespace L3
open PySem
theorem pick4 {a b c d i:Int} (h0:0≤i) (h1:i<4):∃ n,(n=a∨n=b∨n=c∨n=d)∧fIx (.lst [.int a,.int b,.int c,.int d]) (.int i)=some (.int n):=by
  rcases (show i=0∨i=1∨i=2∨i=3 by omega) with rfl | rfl | rfl | rfl
  · exact ⟨a,by simp,rfl⟩
  · exact ⟨b,by simp,rfl⟩
  · exact ⟨c,by simp,rfl⟩
  · exact ⟨d,by simp,rfl⟩
theorem pick3 {a b c i:Int} (h0:0≤i) (h1:i<3):∃ n,(n=a∨n=b∨n=c)∧fIx (.lst [.int a,.int b,.int c]) (.int i)=some (.int n):=by
  rcases (show i=0∨i=1∨i=2 by omega) with rfl | rfl | rfl
  · exact ⟨a,by simp,rfl⟩
  · exact ⟨b,by simp,rfl⟩
  · exact ⟨c,by simp,rfl⟩
inductive PlainRow:D→Prop
  | stop:PlainRow (.tup [.str "stop"])
  | imm {w:Str} {d n:Int} (hw:w = "set" ∨ w = "high") (d0:0≤d) (d1:d<8) (n0:0≤n) (n1:n<65536):PlainRow (.tup [.str w,.int d,.int n])
  | two {w:Str} {d s:Int} (hw:w = "copy" ∨ w = "add" ∨ w = "addc" ∨ w = "sub" ∨ w = "subc" ∨ w = "and" ∨ w = "or" ∨ w = "xor" ∨ w = "test") (d0:0≤d) (d1:d<8) (s0:0≤s) (s1:s<8):PlainRow (.tup [.str w,.int d,.int s])
  | mov {w:Str} {d n:Int} (hw:w = "left" ∨ w = "right") (d0:0≤d) (d1:d<8) (n0:0≤n) (n1:n<32):PlainRow (.tup [.str w,.int d,.int n])
  | mem {w:Str} {d s n:Int} (hw:w = "load" ∨ w = "store" ∨ w = "loadw" ∨ w = "storew") (d0:0≤d) (d1:d<8) (s0:0≤s) (s1:s<8) (n0:0≤n) (n1:n<256):PlainRow (.tup [.str w,.int d,.int s,.int n])
inductive JRow (m:Int):D→Prop
  | jump {p:Int} (p0:0≤p) (p1:p≤m):JRow m (.tup [.str "jump",.int p])
  | cond {w k:Str} {p:Int} (hw:w = "when" ∨ w = "unless") (hk:k = "carry" ∨ k = "nought" ∨ k = "sign") (p0:0≤p) (p1:p≤m):JRow m (.tup [.str w,.str k,.int p])
noncomputable def RowG (m:Int) (d:D):Prop:=PlainRow d∨JRow m d
noncomputable def isJ:D→Bool
  | .tup (.str w::_)=>w == "jump" || w == "when" || w == "unless"
  | _=>false
noncomputable def lastD:D→D
  | .tup xs=>(atD xs (-1)).getD .non
  | _=>.non
noncomputable def isL:D→Bool
  | .tup (.str w::_)=>w == "label"
  | _=>false
noncomputable def labelD (t:Str):D:=.tup [.str "label",.str t]
theorem rowG_fx {m:Int} {d:D} (h:RowG m d):∃ w,fIx d (.int 0)=some (.str w)∧fEq (.str w) (.str "label")=some (.bl false)∧isL d=false∧okD 5 d=true:=by
  rcases h with h | h
  · cases h with
    | stop=>exact ⟨_,rfl,rfl,rfl,rfl⟩
    | imm hw=>rcases hw with rfl | rfl<;>exact ⟨_,rfl,rfl,rfl,rfl⟩
    | two hw=>rcases hw with rfl | rfl | rfl | rfl | rfl | rfl | rfl | rfl | rfl<;>exact ⟨_,rfl,rfl,rfl,rfl⟩
    | mov hw=>rcases hw with rfl | rfl<;>exact ⟨_,rfl,rfl,rfl,rfl⟩
    | mem hw=>rcases hw with rfl | rfl | rfl | rfl<;>exact ⟨_,rfl,rfl,rfl,rfl⟩
  · cases h with
    | jump=>exact ⟨_,rfl,rfl,rfl,rfl⟩
    | cond hw hk=>rcases hw with rfl | rfl<;>rcases hk with rfl | rfl | rfl<;>exact ⟨_,rfl,rfl,rfl,rfl⟩
noncomputable def nameIs (t:Str):D→Bool
  | .tup [_,.str u]=>u == t
  | _=>false
noncomputable def plStep (t:Str) (s:Nat×Option Nat) (d:D):Nat×Option Nat:=match isL d with
  | true=>(s.1,match nameIs t d with
    | true=>some s.1
    | false=>s.2)
  | false=>(s.1+1,s.2)
noncomputable def plc (t:Str) (L:List D):Nat×Option Nat:=L.foldl (plStep t) (0,none)
theorem plc_snoc (t:Str) (L:List D) (d:D):plc t (L++[d])=plStep t (plc t L) d:=by
  unfold plc
  rw [List.foldl_append]
  rfl
theorem plc_num (t:Str):∀ (L:List D) (s:Nat×Option Nat),(L.foldl (plStep t) s).1=s.1+(L.filter fun d=>!isL d).length
  | [],_=>rfl
  | d::L,s=>by
    rw [List.foldl_cons,plc_num t L]
    unfold plStep
    cases h:isL d with
    | true=>rw [List.filter_cons_of_neg (by rw [h]; decide)]
    | false=>
      rw [List.filter_cons_of_pos (by rw [h]; rfl),List.length_cons]
      show s.1+1+_=_
      omega
theorem plc_lab (t u:Str) (L:List D):(plc t (L++[labelD u])).2=if u=t then some (L.filter fun d=>!isL d).length else (plc t L).2:=by
  rw [plc_snoc]
  have h:=plc_num t L (0,none)
  show (match (u == t) with | true=>some (plc t L).1 | false=>(plc t L).2)=_
  by_cases e:u=t
  · rw [if_pos e,beq_iff_eq.mpr e]
    show some (plc t L).1=_
    rw [show (plc t L).1=_ from h,Nat.zero_add]
  · rw [if_neg e,beq_eq_false_iff_ne.mpr e]
theorem plc_row {t:Str} {L:List D} {d:D} (h:isL d=false):(plc t (L++[d])).2=(plc t L).2:=by
  rw [plc_snoc]
  unfold plStep
  rw [h]
theorem app_ok {L:List D} {r:D} (h:L.length≤1000):fApp (.lst L) r=some (.lst (L++[r])):=by
  show (if L.length<LIM then _ else _)=_
  rw [if_pos (by show _<16777216; omega)]
inductive Item:D→Prop
  | label (t:Str):Item (labelD t)
  | plain {d:D}:PlainRow d→Item d
  | jump (t:Str):Item (.tup [.str "jump",.str t])
  | cond {w k:Str} (t:Str) (hw:w = "when" ∨ w = "unless") (hk:k = "carry" ∨ k = "nought" ∨ k = "sign"):Item (.tup [.str w,.str k,.str t])
theorem item_fx {d:D} (h:Item d):∃ w,fIx d (.int 0)=some (.str w)∧fEq (.str w) (.str "label")=some (.bl (isL d))∧okD 5 d=true:=by
  cases h with
  | label=>exact ⟨_,rfl,rfl,rfl⟩
  | plain h=>
    obtain ⟨w,a,b,c,e⟩:=rowG_fx (m:=0) (.inl h)
    exact ⟨w,a,by rw [c]; exact b,e⟩
  | jump=>exact ⟨_,rfl,rfl,rfl⟩
  | cond t hw hk=>rcases hw with rfl | rfl<;>rcases hk with rfl | rfl | rfl<;>exact ⟨_,rfl,rfl,rfl⟩
theorem each_len {R:D→D→Prop}:∀ {xs ys:List D},Each R xs ys→xs.length=ys.length
  | _,_,.nil=>rfl
  | _,_,.cons _ r=>by rw [List.length_cons,List.length_cons,each_len r]
theorem each_mem {R:D→D→Prop}:∀ {xs ys:List D},Each R xs ys→∀ y∈ys,∃ x∈xs,R x y
  | _,_,.nil,_,h=>by cases h
  | x::xs,y::ys,.cons r rs,z,hz=>by
    rcases List.mem_cons.mp hz with rfl | hz
    · exact ⟨x,List.mem_cons_self ..,r⟩
    · obtain ⟨w,hw,h⟩:=each_mem rs z hz
      exact ⟨w,List.mem_cons_of_mem _ hw,h⟩
theorem each_get {R:D→D→Prop}:∀ {xs ys:List D},Each R xs ys→∀ {i:Nat} {x:D},xs[i]?=some x→∃ y,ys[i]?=some y∧R x y
  | _,_,.nil,_,_,h=>by cases h
  | _,_,.cons r _,0,_,h=>by cases h; exact ⟨_,rfl,r⟩
  | _,_,.cons _ rs,i+1,_,h=>each_get rs (by simpa using h)
theorem each_of {R:D→D→Prop}:∀ {xs ys:List D},xs.length=ys.length→(∀ (i:Nat) x y,xs[i]?=some x→ys[i]?=some y→R x y)→Each R xs ys
  | [],[],_,_=>.nil
  | [],_::_,h,_=>by cases h
  | _::_,[],h,_=>by cases h
  | x::xs,y::ys,h,r=>.cons (r 0 x y rfl rfl) (each_of (by simpa using h) fun i a b ha hb=>r (i+1) a b (by simpa using ha) (by simpa using hb))
inductive RowA (N:List Str):D→Prop
  | plain {d:D}:PlainRow d→RowA N d
  | jump {t:Str} (ht:t∈N):RowA N (.tup [.str "jump",.str t])
  | cond {w k t:Str} (hw:w = "when" ∨ w = "unless") (hk:k = "carry" ∨ k = "nought" ∨ k = "sign") (ht:t∈N):RowA N (.tup [.str w,.str k,.str t])
noncomputable def ItemA (N:List Str) (d:D):Prop:=RowA N d∨∃ t∈N,d=labelD t
theorem rowA_item {N:List Str} {d:D} (h:RowA N d):Item d∧isL d=false:=by
  cases h with
  | plain h=>
    obtain ⟨_,_,_,l,_⟩:=rowG_fx (m:=0) (.inl h)
    exact ⟨.plain h,l⟩
  | jump ht=>exact ⟨.jump _,rfl⟩
  | cond hw hk ht=>exact ⟨.cond _ hw hk,by rcases hw with rfl | rfl<;>rfl⟩
theorem itemA_item {N:List Str} {d:D} (h:ItemA N d):Item d:=by
  rcases h with h | ⟨t,_,rfl⟩
  · exact (rowA_item h).1
  · exact .label t
end L3
namespace L3
open PySem
noncomputable def b_law_mixed:FS:=
  (sSeq (sSet 3 (eLst (fun _=>some (List.map D.int [99991,99989,99971,99961,99929,99923,99907,99901,99881,99877,99871]))))
    (sSeq (sSet 4 (e2 fMod (e2 fMulR (e2 fAdd (eVar 0) (e2 fMulL (eC (.int 7)) (eVar 1))) (eC (.int 48271))) (e2 fIx (eVar 3) (e2 fMod (eVar 1) (eC (.int 11))))))
    (sRet (e2 fMod (e2 fMod (e2 fAdd (e2 fAdd (e2 fMulR (e2 fMulB (eVar 4) (eVar 4)) (eC (.int 7))) (eVar 4)) (eVar 1)) (eC (.int 1000003))) (eVar 2)))))
noncomputable def F_law_mixed:List D→Option (Bool×D):=FR 3 5 b_law_mixed
theorem run_law_mixed:∀ ds r,F_law_mixed ds=some r→ds.length=3∧runF 5 b_law_mixed ds=some r:=FR_ok
theorem go_law_mixed (x0 x1 x2:D):F_law_mixed [x0,x1,x2]=runF 5 b_law_mixed [x0,x1,x2]:=rfl
noncomputable def b_law_letter:FS:=
  (sRet (e2 fIx (eC (.str "abcdefghijklmnopqrstuvwxyz")) (e2 fMod (eVar 0) (eC (.int 26)))))
noncomputable def F_law_letter:List D→Option (Bool×D):=FR 1 1 b_law_letter
theorem run_law_letter:∀ ds r,F_law_letter ds=some r→ds.length=1∧runF 1 b_law_letter ds=some r:=FR_ok
theorem go_law_letter (x0:D):F_law_letter [x0]=runF 1 b_law_letter [x0]:=rfl
noncomputable def x_law_names_1:FE:=(eCall F_law_letter (aCons (eCall F_law_mixed (aCons (eVar 0) (aCons (e2 fAdd (eC (.int 4)) (eVar 11)) (aCons (eC (.int 26)) aNil)))) aNil))
noncomputable def r_law_names_1:FA:=(iRange (eC (.int 0)) (eVar 1))
noncomputable def x_law_names_2:FE:=(e2 fAdd (eCall F_law_letter (aCons (eVar 11) aNil)) (eC (.str "qzqz")))
noncomputable def x_law_names_3:FE:=(e2 fAdd (eCall F_law_letter (aCons (eVar 11) aNil)) (eC (.str "zqzq")))
noncomputable def x_law_names_4:FE:=(eVar 11)
noncomputable def y_law_names_1:FT:=(tE (e2 fNotIn (eVar 11) (eAny 6)))
noncomputable def l_law_names_1:FS:=(sSeq (sSet 8 (eCall F_law_letter (aCons (e2 fAdd (eCall F_law_mixed (aCons (eVar 0) (aCons (eC (.int 5)) (aCons (eC (.int 26)) aNil)))) (e2 fMulL (eC (.int 5)) (eVar 7))) aNil)))
        (sSeq (sSet 9 (e2 fAdd (e2 fAdd (eSl (eVar 4) oNone (oSome (eVar 3))) (eVar 8)) (eSl (eVar 4) (oSome (e2 fAdd (eVar 3) (eC (.int 1)))) (oSome (eVar 2)))))
        (sSeq (sIf (tAndF (tE (e2 fEq (eCall F_law_mixed (aCons (eVar 0) (aCons (eC (.int 6)) (aCons (eC (.int 4)) aNil)))) (eC (.int 0)))) (tE (e2 (fCmp fun i j=>decide (i<j)) (eVar 7) (eC (.int 8)))))
          (sSet 9 (e2 fIx (eLst (aCons (eSl (eVar 4) oNone (oSome (e2 fAdd (eVar 7) (eC (.int 1))))) (aCons (e2 fIx (eVar 5) (eVar 7)) aNil))) (eCall F_law_mixed (aCons (eVar 0) (aCons (eC (.int 7)) (aCons (eC (.int 2)) aNil))))))
          sNext)
        (sSeq (sIf (tE (e2 fIn (eVar 9) (eAny 6)))
          (sSeq (sSet 10 (e2 fAdd (eLc 1 (iRange (eC (.int 0)) (eC (.int 26))) (gVar 11) tTrue x_law_names_2) (eLc 1 (iRange (eC (.int 0)) (eC (.int 26))) (gVar 11) tTrue x_law_names_3)))
            (sSet 9 (e2 fIx (eLc 1 (iSeq (eVar 10)) (gVar 11) y_law_names_1 x_law_names_4) (eC (.int 0)))))
          sNext)
        (sMut1 6 fApp (eVar 9))))))
noncomputable def b_law_names:FS:=
  (sSeq (sSet 2 (e2 fAdd (eC (.int 1)) (eCall F_law_mixed (aCons (eVar 0) (aCons (eC (.int 2)) (aCons (eC (.int 8)) aNil))))))
    (sSeq (sSet 3 (eCall F_law_mixed (aCons (eVar 0) (aCons (eC (.int 3)) (aCons (eVar 2) aNil)))))
    (sSeq (sSet 4 (e2 fJoin (eC (.str "")) (eLc 1 (iRange (eC (.int 0)) (eC (.int 8))) (gVar 11) tTrue x_law_names_1)))
    (sSeq (sSet 5 (eLst (aCons (eC (.str "add")) (aCons (eC (.str "stop")) (aCons (eC (.str "carry")) (aCons (eC (.str "label")) (aCons (eC (.str "jump")) (aCons (eC (.str "set")) (aCons (eC (.str "sign")) (aCons (eC (.str "when")) aNil))))))))))
    (sSeq (sSetO 6 (eLst aNil))
    (sSeq (sFor r_law_names_1 (gVar 7)
      l_law_names_1)
    (sRetV 6)))))))
noncomputable def F_law_names:List D→Option (Bool×D):=FR 2 11 b_law_names
theorem run_law_names:∀ ds r,F_law_names ds=some r→ds.length=2∧runF 11 b_law_names ds=some r:=FR_ok
theorem go_law_names (x0 x1:D):F_law_names [x0,x1]=runF 11 b_law_names [x0,x1]:=rfl
noncomputable def b_law_shape:FS:=
  (sSeq (sIf (tE (e2 fIn (eVar 0) (eLst (aCons (eC (.str "set")) (aCons (eC (.str "high")) aNil)))))
      (sRetO (eLst (aCons (eC (.int 8)) (aCons (eC (.int 65536)) aNil))))
      sNext)
    (sSeq (sIf (tE (e2 fIn (eVar 0) (eLst (aCons (eC (.str "left")) (aCons (eC (.str "right")) aNil)))))
      (sRetO (eLst (aCons (eC (.int 8)) (aCons (eC (.int 32)) aNil))))
      sNext)
    (sSeq (sIf (tE (e2 fIn (eVar 0) (eLst (aCons (eC (.str "load")) (aCons (eC (.str "store")) (aCons (eC (.str "loadw")) (aCons (eC (.str "storew")) aNil)))))))
      (sRetO (eLst (fun _=>some (List.map D.int [8,8,256]))))
      sNext)
    (sSeq (sIf (tE (e2 fIn (eVar 0) (eLst (aCons (eC (.str "copy")) (aCons (eC (.str "add")) (aCons (eC (.str "addc")) (aCons (eC (.str "sub")) (aCons (eC (.str "subc")) (aCons (eC (.str "and")) (aCons (eC (.str "or")) (aCons (eC (.str "xor")) (aCons (eC (.str "test")) aNil))))))))))))
      (sRetO (eLst (aCons (eC (.int 8)) (aCons (eC (.int 8)) aNil))))
      sNext)
    (sRet (e2 fIx (eDisp ["label", "jump", "when", "unless", "stop"] (aCons (eLst (aCons (eC (.str "name")) aNil)) (aCons (eLst (aCons (eC (.str "name")) aNil)) (aCons (eLst (aCons (eC (.str "mark")) (aCons (eC (.str "name")) aNil))) (aCons (eLst (aCons (eC (.str "mark")) (aCons (eC (.str "name")) aNil))) (aCons (eLst aNil) aNil)))))) (eVar 0)))))))
noncomputable def F_law_shape:List D→Option (Bool×D):=FR 1 1 b_law_shape
theorem run_law_shape:∀ ds r,F_law_shape ds=some r→ds.length=1∧runF 1 b_law_shape ds=some r:=FR_ok
noncomputable def b_law_words:FS:=
  (sSeq (sSet 0 (eLst (aCons (eC (.str "set")) (aCons (eC (.str "high")) (aCons (eC (.str "copy")) (aCons (eC (.str "add")) (aCons (eC (.str "addc")) (aCons (eC (.str "sub")) (aCons (eC (.str "subc")) (aCons (eC (.str "and")) (aCons (eC (.str "or")) (aCons (eC (.str "xor")) (aCons (eC (.str "test")) (aCons (eC (.str "left")) (aCons (eC (.str "right")) (aCons (eC (.str "load")) aNil))))))))))))))))
    (sRet (e2 fAdd (eVar 0) (eLst (aCons (eC (.str "store")) (aCons (eC (.str "loadw")) (aCons (eC (.str "storew")) (aCons (eC (.str "jump")) (aCons (eC (.str "when")) (aCons (eC (.str "unless")) (aCons (eC (.str "stop")) aNil)))))))))))
noncomputable def F_law_words:List D→Option (Bool×D):=FR 0 1 b_law_words
theorem run_law_words:∀ ds r,F_law_words ds=some r→ds.length=0∧runF 1 b_law_words ds=some r:=FR_ok
noncomputable def b_law_part_by:FS:=
  (sSeq (sIf (tE (e2 fEq (eVar 0) (eC (.str "name"))))
      (sRet (e2 fIx (eVar 3) (eCall F_law_mixed (aCons (eVar 1) (aCons (eVar 2) (aCons (eL fLen (aCons (eVar 3) aNil)) aNil))))))
      sNext)
    (sSeq (sIf (tE (e2 fEq (eVar 0) (eC (.str "mark"))))
      (sRet (e2 fIx (eLst (aCons (eC (.str "carry")) (aCons (eC (.str "nought")) (aCons (eC (.str "sign")) aNil)))) (eCall F_law_mixed (aCons (eVar 1) (aCons (eVar 2) (aCons (eC (.int 3)) aNil))))))
      sNext)
    (sRet (e2 fIx (eLst (aCons (eC (.int 0)) (aCons (e2 fSub (eVar 0) (eC (.int 1))) (aCons (eCall F_law_mixed (aCons (eVar 1) (aCons (eVar 2) (aCons (eVar 0) aNil)))) (aCons (eCall F_law_mixed (aCons (eVar 1) (aCons (e2 fAdd (eVar 2) (eC (.int 1))) (aCons (eVar 0) aNil)))) aNil))))) (eCall F_law_mixed (aCons (eVar 1) (aCons (e2 fAdd (eVar 2) (eC (.int 2))) (aCons (eC (.int 4)) aNil))))))))
noncomputable def F_law_part_by:List D→Option (Bool×D):=FR 4 4 b_law_part_by
theorem run_law_part_by:∀ ds r,F_law_part_by ds=some r→ds.length=4∧runF 4 b_law_part_by ds=some r:=FR_ok
theorem go_law_part_by (x0 x1 x2 x3:D):F_law_part_by [x0,x1,x2,x3]=runF 4 b_law_part_by [x0,x1,x2,x3]:=rfl
noncomputable def r_law_row_by_1:FA:=(iRange (eC (.int 0)) (eL fLen (aCons (eVar 3) aNil)))
noncomputable def x_law_row_by_1:FE:=(eCall F_law_part_by (aCons (e2 fIx (eVar 3) (eVar 4)) (aCons (eVar 0) (aCons (e2 fAdd (e2 fMulL (eC (.int 2)) (eVar 4)) (eC (.int 1))) (aCons (eVar 1) aNil)))))
noncomputable def b_law_row_by:FS:=
  (sSeq (sSet 2 (e2 fIx (eCall F_law_words aNil) (eCall F_law_mixed (aCons (eVar 0) (aCons (eC (.int 0)) (aCons (eC (.int 21)) aNil))))))
    (sSeq (sIf (tE (e2 fEq (eCall F_law_mixed (aCons (eVar 0) (aCons (eC (.int 8)) (aCons (eC (.int 4)) aNil)))) (eC (.int 1))))
      (sSet 2 (e2 fIx (eLst (aCons (eC (.str "jump")) (aCons (eC (.str "when")) (aCons (eC (.str "unless")) aNil)))) (eCall F_law_mixed (aCons (eVar 0) (aCons (eC (.int 9)) (aCons (eC (.int 3)) aNil))))))
      sNext)
    (sSeq (sIf (tAndF (tE (e2 fIn (eVar 2) (eLst (aCons (eC (.str "jump")) (aCons (eC (.str "when")) (aCons (eC (.str "unless")) aNil)))))) (tE (e2 fEq (eL fLen (aCons (eVar 1) aNil)) (eC (.int 0)))))
      (sSet 2 (eC (.str "stop")))
      sNext)
    (sSeq (sSet 3 (eCall F_law_shape (aCons (eVar 2) aNil)))
    (sRet (e2 fAdd (eTup (aCons (eVar 2) aNil)) (eL fTuple (aCons (eLc 1 r_law_row_by_1 (gVar 4) tTrue x_law_row_by_1) aNil))))))))
noncomputable def F_law_row_by:List D→Option (Bool×D):=FR 2 4 b_law_row_by
theorem run_law_row_by:∀ ds r,F_law_row_by ds=some r→ds.length=2∧runF 4 b_law_row_by ds=some r:=FR_ok
theorem go_law_row_by (x0 x1:D):F_law_row_by [x0,x1]=runF 4 b_law_row_by [x0,x1]:=rfl
noncomputable def mixA (c k m:Int):Int:=match F_law_mixed [.int c,.int k,.int m] with
  | some (_,.int v)=>v
  | _=>0
theorem bits_small {i:Int} (h0:0≤i) (h1:i<100000):bitsI i≤20:=by
  exact bits_le (by have e:(2:Nat) ^ 20=1048576:=by decide
                    omega)
theorem mixed_F (c k m:Int) (hm:0<m):F_law_mixed [.int c,.int k,.int m]=some (false,.int (mixA c k m))∧0≤mixA c k m∧mixA c k m<m:=by
  have:∃ v:Int,0≤v∧v<m∧F_law_mixed [.int c,.int k,.int m]=some (false,.int v):=by
    obtain ⟨p,p0,p1,ep⟩:∃ p:Int,0<p∧p<100000∧fIx (.lst (List.map D.int [99991,99989,99971,99961,99929,99923,99907,99901,99881,99877,99871])) (.int (k % 11))=some (.int p):=by
      rcases (show k % 11=0∨k % 11=1∨k % 11=2∨k % 11=3∨k % 11=4∨k % 11=5∨k % 11=6∨k % 11=7∨k % 11=8∨k % 11=9∨k % 11=10 by omega) with h | h | h | h | h | h | h | h | h | h | h<;>rw [h]<;>exact ⟨_,by decide,by decide,rfl⟩
    have q0:=Int.emod_nonneg ((c+7*k)*48271) (show p≠0 by omega)
    have q1:=Int.emod_lt_of_pos ((c+7*k)*48271) p0
    have l1:lt64 7=true∧lt64 48271=true:=⟨by decide,by decide⟩
    have b:=bits_small (i:=(c+7*k)*48271 % p) q0 (by omega)
    have e1:decide (0<p)=true:=decide_eq_true p0
    have e2:decide (0<m)=true:=decide_eq_true hm
    have e3:decide (bitsI ((c+7*k)*48271 % p)+bitsI ((c+7*k)*48271 % p)≤134217728)=true:=decide_eq_true (by omega)
    refine ⟨((c+7*k)*48271 % p*((c+7*k)*48271 % p)*7+(c+7*k)*48271 % p+k) % 1000003 % m,?_,?_,?_⟩
    rotate_left 2
    · rw [go_law_mixed]
      unfold b_law_mixed
      generalize List.map D.int [99991,99989,99971,99961,99929,99923,99907,99901,99881,99877,99871]=PS at ep
      simp! [l1,add_int,ep,e1,fMulB,e3,e2]
    · exact Int.emod_nonneg _ (by omega)
    · exact Int.emod_lt_of_pos _ hm
  obtain ⟨v,v0,v1,e⟩:=this
  have:mixA c k m=v:=by unfold mixA; rw [e]
  rw [this]
  exact ⟨e,v0,v1⟩
theorem letter_F (k:Int):F_law_letter [.int k]=some (false,.str (lt (k % 26))):=by
  have a:=abc_ix (k:=k % 26) (by omega) (by omega)
  rw [go_law_letter]
  unfold b_law_letter
  simp! [a]
noncomputable def lowB (z:Str):Bool:=z.cps.toList.all fun c=>decide (97≤c)&&decide (c≤122)
noncomputable def nameB (z:Str):Bool:=decide (1≤z.length)&&(decide (z.length≤8)&&lowB z)
theorem cps_app (a b:Str):(a++b).cps.toList=a.cps.toList++b.cps.toList:=Array.toList_append
theorem low_app {a b:Str} (ha:lowB a=true) (hb:lowB b=true):lowB (a++b)=true:=by
  unfold lowB
  rw [cps_app,List.all_append,Bool.and_eq_true]
  exact ⟨ha,hb⟩
theorem low_lt {k:Int} (h0:0≤k) (h1:k<26):lowB (lt k)=true:=by
  show ((decide (97≤97+k.toNat)&&decide (97+k.toNat≤122))&&true)=true
  rw [decide_eq_true (by omega),decide_eq_true (by omega)]
  rfl
theorem low_cut {z:Str} (h:lowB z=true) (lo hi:Option Int):lowB (L2.cutS z lo hi)=true:=
  List.all_eq_true.mpr fun c hc=>List.all_eq_true.mp h c (List.mem_of_mem_drop (List.mem_of_mem_take (by
    have e:(L2.cutS z lo hi).cps.toList=(z.cps.toList.drop (HT.sIx z.length 0 lo)).take (HT.sIx z.length z.length hi - HT.sIx z.length 0 lo):=rfl
    rw [e] at hc
    exact hc)))
theorem cut_size (z:Str) {a b:Nat} (hab:a≤b) (hb:b≤z.length):(L2.cutS z (some (a:Int)) (some (b:Int))).length=b - a:=by
  show (((z.cps.toList.drop (HT.sIx z.length 0 (some (a:Int)))).take (HT.sIx z.length z.length (some (b:Int)) - HT.sIx z.length 0 (some (a:Int)))).toArray).size=_
  rw [HT.sIx_nat,HT.sIx_nat,List.size_toArray,List.length_take,List.length_drop]
  have:z.cps.toList.length=z.length:=Array.length_toList
  omega
theorem cut_size0 (z:Str) {b:Nat} (hb:b≤z.length):(L2.cutS z none (some (b:Int))).length=b:=by
  show (((z.cps.toList.drop 0).take (HT.sIx z.length z.length (some (b:Int)) - 0)).toArray).size=_
  rw [HT.sIx_nat,List.size_toArray,List.length_take,List.length_drop]
  have:z.cps.toList.length=z.length:=Array.length_toList
  omega
theorem glued_cps:∀ (ts:List Str),(Builtin.Str.glued "" ts).cps.toList=(ts.map fun t=>t.cps.toList).flatten
  | []=>rfl
  | t::ts=>by
    have h:∀ (us:List Str) (a:Array Nat),(us.foldl (fun acc p=>acc++("" : Str).cps++p.cps) a).toList=a.toList++(us.map fun t=>t.cps.toList).flatten:=fun us=>by
      induction us with
      | nil=>intro a; simp
      | cons u us ih=>
        intro a
        rw [List.foldl_cons,ih]
        have e:("" : Str).cps=#[]:=rfl
        rw [e]
        simp
    show (ts.foldl (fun acc p=>acc++("" : Str).cps++p.cps) t.cps).toList=_
    rw [h]
    rfl
theorem in_strs (x:Str) (ts:List Str):fInB (.str x) (.lst (ts.map D.str))=some (decide (x∈ts)):=by
  have ha:(ts.map D.str).all flatD=true:=List.all_eq_true.mpr fun y hy=>by
    obtain ⟨p,_,rfl⟩:=List.mem_map.mp hy
    rfl
  show (match flatD (.str x)&&(ts.map D.str).all flatD with | true=>some ((ts.map D.str).any fun y=>dEq y (.str x)) | false=>none)=_
  rw [ha]
  show some _=_
  congr 1
  have e:∀ y:Str,dEq (.str y) (.str x)=(y == x):=fun y=>by unfold dEq; rfl
  by_cases h:x∈ts
  · rw [decide_eq_true h]
    exact List.any_eq_true.mpr ⟨.str x,List.mem_map.mpr ⟨x,h,rfl⟩,by rw [e]; exact beq_self_eq_true _⟩
  · rw [decide_eq_false h]
    cases z:(ts.map D.str).any fun y=>dEq y (.str x) with
    | false=>rfl
    | true=>
      obtain ⟨d,hd,q⟩:=List.any_eq_true.mp z
      obtain ⟨y,hy,rfl⟩:=List.mem_map.mp hd
      rw [e,beq_iff_eq] at q
      exact absurd (q ▸ hy) h
theorem sub_lenS:∀ {l ps:List Str},l.Nodup→(∀ x∈l,x∈ps)→l.length≤ps.length
  | [],_,_,_=>Nat.zero_le _
  | x::l,ps,nd,h=>by
    obtain ⟨n1,n2⟩:=List.nodup_cons.mp nd
    have hx:=h x (List.mem_cons_self ..)
    have ih:=sub_lenS (l:=l) (ps:=ps.erase x) n2 fun y hy=>(List.mem_erase_of_ne (fun (e:y=x)=>n1 (e ▸ hy))).mpr (h y (List.mem_cons_of_mem _ hy))
    rw [List.length_erase_of_mem hx] at ih
    have:0<ps.length:=List.length_pos_of_mem hx
    rw [List.length_cons]
    omega
noncomputable def otherS:List Str:=((List.range 26).map fun j:Nat=>lt ((j:Int) % 26) ++ "qzqz")++(List.range 26).map fun j:Nat=>lt ((j:Int) % 26) ++ "zqzq"
theorem other_nd:otherS.Nodup:=by decide +kernel
theorem other_ok:∀ t∈otherS,nameB t=true:=by decide +kernel
theorem other_len:otherS.length=52:=by decide +kernel
structure Names (N:List Str):Prop where
  nd:N.Nodup
  ok:∀ t∈N,nameB t=true
theorem name_len {t:Str} (h:nameB t=true):1≤t.length∧t.length≤8∧lowB t=true:=by
  unfold nameB at h
  rw [Bool.and_eq_true,Bool.and_eq_true] at h
  exact ⟨of_decide_eq_true h.1,of_decide_eq_true h.2.1,h.2.2⟩
theorem name_mk {t:Str} (h0:1≤t.length) (h1:t.length≤8) (h:lowB t=true):nameB t=true:=by
  unfold nameB
  rw [decide_eq_true h0,decide_eq_true h1,h]
  rfl
noncomputable abbrev ownD:D:=.lst [.str "add",.str "stop",.str "carry",.str "label",.str "jump",.str "set",.str "sign",.str "when"]
theorem own_at {i:Nat} (h:i<8):∃ t:Str,nameB t=true∧fIx ownD (.int (i:Int))=some (.str t):=by
  rcases (show i=0∨i=1∨i=2∨i=3∨i=4∨i=5∨i=6∨i=7 by omega) with rfl | rfl | rfl | rfl | rfl | rfl | rfl | rfl
  · exact ⟨"add",by decide +kernel,rfl⟩
  · exact ⟨"stop",by decide +kernel,rfl⟩
  · exact ⟨"carry",by decide +kernel,rfl⟩
  · exact ⟨"label",by decide +kernel,rfl⟩
  · exact ⟨"jump",by decide +kernel,rfl⟩
  · exact ⟨"set",by decide +kernel,rfl⟩
  · exact ⟨"sign",by decide +kernel,rfl⟩
  · exact ⟨"when",by decide +kernel,rfl⟩
theorem names_last {c m:D} {sz sp W own:D} {N:List Str} (hN:N.length<52) {kk lx x10:Option Sl} {x0:Str} (h0:nameB x0=true):∃ (x:Str) (y10:Option Sl),nameB x=true∧x ∉ N∧
    sIf (tE (e2 fIn (eVar 9) (eAny 6)))
          (sSeq (sSet 10 (e2 fAdd (eLc 1 (iRange (eC (.int 0)) (eC (.int 26))) (gVar 11) tTrue x_law_names_2) (eLc 1 (iRange (eC (.int 0)) (eC (.int 26))) (gVar 11) tTrue x_law_names_3)))
            (sSet 9 (e2 fIx (eLc 1 (iSeq (eVar 10)) (gVar 11) y_law_names_1 x_law_names_4) (eC (.int 0)))))
          sNext [some (false,c),some (false,m),some (false,sz),some (false,sp),some (false,W),some (false,own),some (true,.lst (N.map D.str)),kk,lx,some (false,.str x0),x10]=some (.nx [some (false,c),some (false,m),some (false,sz),some (false,sp),some (false,W),some (false,own),some (true,.lst (N.map D.str)),kk,lx,some (false,.str x),y10]):=by
  have hin:∀ x:Str,fIn (.str x) (.lst (N.map D.str))=some (.bl (decide (x∈N))):=fun x=>by
    show (fInB _ _).bind _=_
    rw [in_strs]
    rfl
  have hni:∀ x:Str,fNotIn (.str x) (.lst (N.map D.str))=some (.bl (!decide (x∈N))):=fun x=>by
    show (fInB _ _).bind _=_
    rw [in_strs]
    rfl
  by_cases hm:x0∈N
  · have h1:=hin x0
    rw [decide_eq_true hm] at h1
    have r26:∀ σ,iRange (eC (.int 0)) (eC (.int 26)) σ=some (upTo 26):=fun σ=>range_of (n:=26) rfl (by decide)
    obtain ⟨σ0,hσ⟩:∃ σ0:SEnv,σ0=[some (false,c),some (false,m),some (false,sz),some (false,sp),some (false,W),some (false,own),some (true,.lst (N.map D.str)),kk,lx,some (false,.str x0),x10]:=⟨_,rfl⟩
    have l2:=lc_map (g:=gVar 11) (e:=x_law_names_2) (σ:=σ0++List.replicate 1 none) (fun d=>match d with | .int j=>D.str (lt (j % 26) ++ "qzqz") | d=>d) (ds:=upTo 26) fun d hd=>by
      obtain ⟨i,hi,rfl⟩:=upTo_mem hd
      have hl:=letter_F (i:Int)
      have ha:=add_str (a:=lt ((i:Int) % 26)) (b := "qzqz") (by rw [lt_len]; decide)
      rw [hσ]
      refine ⟨_,rfl,?_⟩
      unfold x_law_names_2
      simp! [hl,ha]
    have l3:=lc_map (g:=gVar 11) (e:=x_law_names_3) (σ:=σ0++List.replicate 1 none) (fun d=>match d with | .int j=>D.str (lt (j % 26) ++ "zqzq") | d=>d) (ds:=upTo 26) fun d hd=>by
      obtain ⟨i,hi,rfl⟩:=upTo_mem hd
      have hl:=letter_F (i:Int)
      have ha:=add_str (a:=lt ((i:Int) % 26)) (b := "zqzq") (by rw [lt_len]; decide)
      rw [hσ]
      refine ⟨_,rfl,?_⟩
      unfold x_law_names_3
      simp! [hl,ha]
    have w2:(upTo 26).map (fun d=>match d with | .int j=>D.str (lt (j % 26) ++ "qzqz") | d=>d)=((List.range 26).map fun j:Nat=>lt ((j:Int) % 26) ++ "qzqz").map D.str:=by
      rw [List.map_map,List.map_map]
      rfl
    have w3:(upTo 26).map (fun d=>match d with | .int j=>D.str (lt (j % 26) ++ "zqzq") | d=>d)=((List.range 26).map fun j:Nat=>lt ((j:Int) % 26) ++ "zqzq").map D.str:=by
      rw [List.map_map,List.map_map]
      rfl
    rw [w2] at l2
    rw [w3] at l3
    have ad:fAdd (.lst (((List.range 26).map fun j:Nat=>lt ((j:Int) % 26) ++ "qzqz").map D.str)) (.lst (((List.range 26).map fun j:Nat=>lt ((j:Int) % 26) ++ "zqzq").map D.str))=some (.lst (otherS.map D.str)):=by
      rw [add_lst (by simp only [List.length_map,List.length_range]; decide)]
      unfold otherS
      rw [List.map_append]
    have l4:=lc_all (g:=gVar 11) (c:=y_law_names_1) (e:=x_law_names_4) (σ:=[some (false,c),some (false,m),some (false,sz),some (false,sp),some (false,W),some (false,own),some (true,.lst (N.map D.str)),kk,lx,some (false,.str x0),some (false,.lst (otherS.map D.str)),none]) (fun d=>match d with | .str x=>!decide (x∈N) | _=>false) id (ds:=otherS.map D.str) fun d hd=>by
      obtain ⟨x,_,rfl⟩:=List.mem_map.mp hd
      have h2:=hni x
      refine ⟨_,rfl,?_,fun _=>rfl⟩
      unfold y_law_names_1
      simp! [h2]
    have e4:List.map id ((otherS.map D.str).filter fun d=>match d with | .str x=>!decide (x∈N) | _=>false)=(otherS.filter fun x=>!decide (x∈N)).map D.str:=by
      rw [List.map_id,List.filter_map]
      rfl
    rw [e4] at l4
    obtain ⟨x,r,ex⟩:∃ x r,otherS.filter (fun x=>!decide (x∈N))=x::r:=by
      cases z:otherS.filter fun x=>!decide (x∈N) with
      | cons x r=>exact ⟨x,r,rfl⟩
      | nil=>
        exfalso
        have:=sub_lenS other_nd (ps:=N) fun y hy=>by
          have:=List.filter_eq_nil_iff.mp z y hy
          simpa using this
        rw [other_len] at this
        omega
    have mx:x∈otherS.filter fun x=>!decide (x∈N):=by rw [ex]; exact List.mem_cons_self ..
    obtain ⟨mx1,mx2⟩:=List.mem_filter.mp mx
    refine ⟨x,some (false,.lst (otherS.map D.str)),other_ok x mx1,by simpa using mx2,?_⟩
    rw [ex] at l4
    have i0:fIx (.lst ((x::r).map D.str)) (.int 0)=some (.str x):=rfl
    rw [if_t (by simp! [h1])]
    have s1:eLc 1 (iRange (eC (.int 0)) (eC (.int 26))) (gVar 11) tTrue x_law_names_2 σ0=some (.lst (((List.range 26).map fun j:Nat=>lt ((j:Int) % 26) ++ "qzqz").map D.str)):=by
      unfold eLc
      rw [r26]
      show (lcGo _ _ _ _ _).bind _=_
      rw [l2]
      rfl
    have s2:eLc 1 (iRange (eC (.int 0)) (eC (.int 26))) (gVar 11) tTrue x_law_names_3 σ0=some (.lst (((List.range 26).map fun j:Nat=>lt ((j:Int) % 26) ++ "zqzq").map D.str)):=by
      unfold eLc
      rw [r26]
      show (lcGo _ _ _ _ _).bind _=_
      rw [l3]
      rfl
    rw [seq_nx (σ':=[some (false,c),some (false,m),some (false,sz),some (false,sp),some (false,W),some (false,own),some (true,.lst (N.map D.str)),kk,lx,some (false,.str x0),some (false,.lst (otherS.map D.str))]) (by
      rw [← hσ]
      show ((e2 fAdd _ _ σ0).bind _)=_
      unfold e2
      rw [s1]
      show (((eLc 1 (iRange (eC (.int 0)) (eC (.int 26))) (gVar 11) tTrue x_law_names_3 σ0).bind _).bind _)=_
      rw [s2,Option.bind_some,ad,Option.bind_some,hσ]
      rfl)]
    generalize otherS.map D.str=OO at *
    generalize List.map D.str (x::r)=XR at *
    simp! [l4,i0]
  · refine ⟨x0,x10,h0,hm,?_⟩
    have h1:=hin x0
    rw [decide_eq_false hm] at h1
    simp! [h1]
theorem names_F (cell:Int) {many:Int} (m0:0≤many) (m1:many≤40):∃ N:List Str,N.length=many.toNat∧Names N∧F_law_names [.int cell,.int many]=some (true,.lst (N.map D.str)):=by
  obtain ⟨a1,a2,a3⟩:=mixed_F cell 2 8 (by decide)
  obtain ⟨sz,hsz⟩:∃ z:Int,z=1+mixA cell 2 8:=⟨_,rfl⟩
  obtain ⟨b1,b2,b3⟩:=mixed_F cell 3 sz (by omega)
  generalize mixA cell 3 sz=sp at b1 b2 b3
  obtain ⟨ts,hts⟩:∃ ts:List Str,ts=(List.range 8).map fun j:Nat=>lt (mixA cell (4+(j:Int)) 26 % 26):=⟨_,rfl⟩
  obtain ⟨W,hW⟩:∃ W:Str,W=Builtin.Str.glued "" ts:=⟨_,rfl⟩
  have tl:∀ t∈ts,t.length=1∧lowB t=true:=fun t ht=>by
    rw [hts] at ht
    obtain ⟨j,_,rfl⟩:=List.mem_map.mp ht
    exact ⟨lt_len _,low_lt (by omega) (by omega)⟩
  have lenW:W.length=8:=by
    have e:W.cps.toList.length=8:=by
      rw [hW,glued_cps,hts]
      rfl
    rw [← e]
    exact Array.length_toList.symm
  have lowW:lowB W=true:=by
    unfold lowB
    rw [hW,glued_cps]
    refine List.all_eq_true.mpr fun c hc=>?_
    obtain ⟨l,hl,hc⟩:=List.mem_flatten.mp hc
    obtain ⟨t,ht,rfl⟩:=List.mem_map.mp hl
    exact List.all_eq_true.mp (tl t ht).2 c hc
  have r8:∀ σ,iRange (eC (.int 0)) (eC (.int 8)) σ=some (upTo 8):=fun σ=>range_of (n:=8) rfl (by decide)
  have l1:=lc_map (g:=gVar 11) (e:=x_law_names_1) (σ:=[some (false,.int cell),some (false,.int many),some (false,.int sz),some (false,.int sp),none,none,none,none,none,none,none,none]) (fun d=>match d with | .int j=>D.str (lt (mixA cell (4+j) 26 % 26)) | d=>d) (ds:=upTo 8) fun d hd=>by
    obtain ⟨i,hi,rfl⟩:=upTo_mem hd
    have hm:=(mixed_F cell (4+(i:Int)) 26 (by decide)).1
    have hl:=letter_F (mixA cell (4+(i:Int)) 26)
    refine ⟨_,rfl,?_⟩
    unfold x_law_names_1
    simp! [add_int,hm,hl]
  have w1:(upTo 8).map (fun d=>match d with | .int j=>D.str (lt (mixA cell (4+j) 26 % 26)) | d=>d)=ts.map D.str:=by
    rw [hts,List.map_map,List.map_map]
    rfl
  rw [w1] at l1
  have jn:=join_of (sep := "") (ts:=ts) (by rw [hts]; exact Nat.le_trans (Nat.le_of_eq (show _=8 from rfl)) (by decide))
  rw [← hW] at jn
  have rr:r_law_names_1 [some (false,.int cell),some (false,.int many),some (false,.int sz),some (false,.int sp),some (false,.str W),some (false,ownD),some (true,.lst []),none,none,none,none]=some (upTo many.toNat):=range_of (n:=many) rfl (by omega)
  have c5:=mixed_F cell 5 26 (by decide)
  have c6:=mixed_F cell 6 4 (by decide)
  have c7:=mixed_F cell 7 2 (by decide)
  generalize mixA cell 5 26=m5 at c5
  generalize mixA cell 6 4=m6 at c6
  generalize mixA cell 7 2=m7 at c7
  have l5:lt64 5=true:=by decide
  obtain ⟨spn,hsp⟩:∃ n:Nat,(n:Int)=sp:=⟨sp.toNat,by omega⟩
  obtain ⟨szn,hszn⟩:∃ n:Nat,(n:Int)=sz:=⟨sz.toNat,by omega⟩
  have h2:∀ x y:Str,(x++y).length=x.length+y.length:=len_app
  obtain ⟨σ',e3,N,x7,x8,x9,x10,hl,hN,rfl⟩:=loop_by (g:=gVar 7) (b:=l_law_names_1) (fun i σ=>∃ N x7 x8 x9 x10,N.length=i∧Names N∧σ=[some (false,.int cell),some (false,.int many),some (false,.int sz),some (false,.int sp),some (false,.str W),some (false,ownD),some (true,.lst (N.map D.str)),x7,x8,x9,x10]) (ds:=upTo many.toNat)
    (σ:=[some (false,.int cell),some (false,.int many),some (false,.int sz),some (false,.int sp),some (false,.str W),some (false,ownD),some (true,.lst []),none,none,none,none]) 0 ⟨[],none,none,none,none,rfl,⟨List.nodup_nil,fun _ h=>by cases h⟩,rfl⟩ (by
    rintro i v σ hv ⟨N,x7,x8,x9,x10,hl,hN,rfl⟩
    obtain ⟨hi,rfl⟩:=upTo_get hv
    rw [Nat.zero_add] at *
    have lf:=letter_F (m5+5*(i:Int))
    have lz:=lt_len ((m5+5*(i:Int)) % 26)
    have ll:=low_lt (k:=(m5+5*(i:Int)) % 26) (by omega) (by omega)
    generalize lt ((m5+5*(i:Int)) % 26)=L at lf lz ll
    have k1:=cut_size0 W (b:=spn) (by omega)
    have k2:=cut_size W (a:=spn+1) (b:=szn) (by omega) (by omega)
    have k3:=low_cut lowW none (some (spn:Int))
    have k4:=low_cut lowW (some ((spn+1:Nat):Int)) (some (szn:Int))
    rw [hsp] at k1 k3
    rw [show ((spn+1:Nat):Int)=sp+1 by omega,hszn] at k2 k4
    have s1:eSl (eVar 4) oNone (oSome (eVar 3)) [some (false,.int cell),some (false,.int many),some (false,.int sz),some (false,.int sp),some (false,.str W),some (false,ownD),some (true,.lst (N.map D.str)),some (false,.int (i:Int)),some (false,.str L),x9,x10]=some (.str (L2.cutS W none (some sp))):=rfl
    have s2:eSl (eVar 4) (oSome (e2 fAdd (eVar 3) (eC (.int 1)))) (oSome (eVar 2)) [some (false,.int cell),some (false,.int many),some (false,.int sz),some (false,.int sp),some (false,.str W),some (false,ownD),some (true,.lst (N.map D.str)),some (false,.int (i:Int)),some (false,.str L),x9,x10]=some (.str (L2.cutS W (some (sp+1)) (some sz))):=rfl
    generalize L2.cutS W none (some sp)=A at *
    generalize L2.cutS W (some (sp+1)) (some sz)=B at *
    have ad1:=add_str (a:=A) (b:=L) (by omega)
    have ad2:=add_str (a:=A++L) (b:=B) (by rw [h2]; omega)
    have okb:nameB (A++L++B)=true:=name_mk (by rw [h2,h2]; omega) (by rw [h2,h2]; omega) (low_app (low_app k3 ll) k4)
    unfold l_law_names_1
    have base:∃ x0:Str,nameB x0=true∧sIf (tAndF (tE (e2 fEq (eCall F_law_mixed (aCons (eVar 0) (aCons (eC (.int 6)) (aCons (eC (.int 4)) aNil)))) (eC (.int 0)))) (tE (e2 (fCmp fun i j=>decide (i<j)) (eVar 7) (eC (.int 8)))))
          (sSet 9 (e2 fIx (eLst (aCons (eSl (eVar 4) oNone (oSome (e2 fAdd (eVar 7) (eC (.int 1))))) (aCons (e2 fIx (eVar 5) (eVar 7)) aNil))) (eCall F_law_mixed (aCons (eVar 0) (aCons (eC (.int 7)) (aCons (eC (.int 2)) aNil))))))
          sNext [some (false,.int cell),some (false,.int many),some (false,.int sz),some (false,.int sp),some (false,.str W),some (false,ownD),some (true,.lst (N.map D.str)),some (false,.int (i:Int)),some (false,.str L),some (false,.str (A++L++B)),x10]=some (.nx [some (false,.int cell),some (false,.int many),some (false,.int sz),some (false,.int sp),some (false,.str W),some (false,ownD),some (true,.lst (N.map D.str)),some (false,.int (i:Int)),some (false,.str L),some (false,.str x0),x10]):=by
      have c61:=c6.1
      have c71:=c7.1
      by_cases h6:m6=0
      · have q6:=int_eq h6
        by_cases h8:i<8
        · have q8:decide ((i:Int)<8)=true:=decide_eq_true (by omega)
          obtain ⟨t,ht,et⟩:=own_at h8
          have s3:eSl (eVar 4) oNone (oSome (e2 fAdd (eVar 7) (eC (.int 1)))) [some (false,.int cell),some (false,.int many),some (false,.int sz),some (false,.int sp),some (false,.str W),some (false,ownD),some (true,.lst (N.map D.str)),some (false,.int (i:Int)),some (false,.str L),some (false,.str (A++L++B)),x10]=some (.str (L2.cutS W none (some ((i+1:Nat):Int)))):=rfl
          have kc:=cut_size0 W (b:=i+1) (by omega)
          have kl:=low_cut lowW none (some ((i+1:Nat):Int))
          generalize L2.cutS W none (some ((i+1:Nat):Int))=C at *
          generalize ownD=OD at *
          rcases (show m7=0∨m7=1 by omega) with h7 | h7
          · have i7:fIx (.lst [.str C,.str t]) (.int m7)=some (.str C):=by rw [h7]; rfl
            refine ⟨C,name_mk (by omega) (by omega) kl,?_⟩
            simp! [c61,q6,q8,s3,et,c71,i7]
          · have i7:fIx (.lst [.str C,.str t]) (.int m7)=some (.str t):=by rw [h7]; rfl
            refine ⟨t,ht,?_⟩
            simp! [c61,q6,q8,s3,et,c71,i7]
        · have q8:decide ((i:Int)<8)=false:=decide_eq_false (by omega)
          refine ⟨_,okb,?_⟩
          generalize ownD=OD at *
          simp! [c61,q6,q8]
      · have q6:=int_ne h6
        refine ⟨_,okb,?_⟩
        generalize ownD=OD at *
        simp! [c61,q6]
    obtain ⟨x0,ok0,eb⟩:=base
    obtain ⟨x,y10,okx,nx,ex⟩:=names_last (c:=.int cell) (m:=.int many) (sz:=.int sz) (sp:=.int sp) (W:=.str W) (own:=ownD) (N:=N) (by omega) (kk:=some (false,.int (i:Int))) (lx:=some (false,.str L)) (x10:=x10) ok0
    have hap:=app_ok (L:=N.map D.str) (r:=.str x) (by rw [List.length_map]; omega)
    have c51:=c5.1
    refine ⟨_,[some (false,.int cell),some (false,.int many),some (false,.int sz),some (false,.int sp),some (false,.str W),some (false,ownD),some (true,.lst ((N++[x]).map D.str)),some (false,.int (i:Int)),some (false,.str L),some (false,.str x),y10],rfl,.inl ?_,N++[x],_,_,_,_,by rw [List.length_append,hl]; rfl,⟨?_,?_⟩,rfl⟩
    · show sSeq _ _ [some (false,.int cell),some (false,.int many),some (false,.int sz),some (false,.int sp),some (false,.str W),some (false,ownD),some (true,.lst (N.map D.str)),some (false,.int (i:Int)),x8,x9,x10]=_
      rw [seq_nx (σ':=[some (false,.int cell),some (false,.int many),some (false,.int sz),some (false,.int sp),some (false,.str W),some (false,ownD),some (true,.lst (N.map D.str)),some (false,.int (i:Int)),some (false,.str L),x9,x10]) (by
        generalize ownD=OD at *
        simp! [c51,add_int,l5,lf])]
      rw [seq_nx (σ':=[some (false,.int cell),some (false,.int many),some (false,.int sz),some (false,.int sp),some (false,.str W),some (false,ownD),some (true,.lst (N.map D.str)),some (false,.int (i:Int)),some (false,.str L),some (false,.str (A++L++B)),x10]) (by
        generalize ownD=OD at *
        simp! [s1,s2,ad1,ad2])]
      rw [seq_nx eb,seq_nx ex,List.map_append]
      generalize ownD=OD at *
      simp! [hap]
    · exact List.nodup_append.mpr ⟨hN.nd,List.nodup_cons.mpr ⟨by simp,List.nodup_nil⟩,fun a ha b hb e=>by
        cases List.mem_singleton.mp hb
        exact nx (e ▸ ha)⟩
    · intro t ht
      rcases List.mem_append.mp ht with ht | ht
      · exact hN.ok t ht
      · cases List.mem_singleton.mp ht
        exact okx)
  rw [upTo_len,Nat.zero_add] at hl
  refine ⟨N,hl,hN,?_⟩
  rw [go_law_names]
  unfold b_law_names
  have a11:=a1
  simp! [a1,add_int,← hsz,b1,r8,l1,jn,rr,e3]
noncomputable def fitsA (N:List Str) (kind d:D):Prop:=(kind=.str "name" ∧ ∃ t∈N,d=.str t)∨(kind=.str "mark" ∧ ∃ k:Str,(k = "carry" ∨ k = "nought" ∨ k = "sign")∧d=.str k)∨∃ m n:Int,kind=.int m∧d=.int n∧0≤n∧n<m
noncomputable def kindA (N:List Str) (kind:D):Prop:=(kind=.str "name" ∧ N≠[])∨kind=.str "mark" ∨ ∃ m:Int,kind=.int m∧0<m
theorem part_F {N:List Str} {kind:D} (h:kindA N kind) (c k:Int):∃ d,F_law_part_by [kind,.int c,.int k,.lst (N.map D.str)]=some (false,d)∧fitsA N kind d:=by
  rcases h with ⟨rfl,hN⟩ | rfl | ⟨m,rfl,hm⟩
  · have hp:0<N.length:=List.length_pos_iff.mpr hN
    obtain ⟨a,b,b'⟩:=mixed_F c k (N.length:Int) (by omega)
    generalize mixA c k (N.length:Int)=v at *
    have hv:v.toNat<N.length:=by omega
    have e:fIx (.lst (N.map D.str)) (.int v)=some (.str N[v.toNat]):=at_nat b (by rw [List.getElem?_map,List.getElem?_eq_getElem hv]; rfl)
    have e1:fEq (.str "name") (.str "name")=some (.bl true):=by rfl
    refine ⟨_,?_,.inl ⟨rfl,N[v.toNat],List.getElem_mem hv,rfl⟩⟩
    rw [go_law_part_by]
    unfold b_law_part_by
    simp! [e1,List.length_map,a,e]
  · obtain ⟨a,b,b'⟩:=mixed_F c k 3 (by decide)
    generalize mixA c k 3=v at *
    obtain ⟨w,hw,ew⟩:∃ w:Str,(w = "carry" ∨ w = "nought" ∨ w = "sign")∧fIx (.lst [.str "carry",.str "nought",.str "sign"]) (.int v)=some (.str w):=by
      rcases (show v=0∨v=1∨v=2 by omega) with rfl | rfl | rfl
      · exact ⟨"carry",by simp,rfl⟩
      · exact ⟨"nought",by simp,rfl⟩
      · exact ⟨"sign",by simp,rfl⟩
    have e1:fEq (.str "mark") (.str "name")=some (.bl false):=by rfl
    have e2:fEq (.str "mark") (.str "mark")=some (.bl true):=by rfl
    refine ⟨_,?_,.inr (.inl ⟨rfl,w,hw,rfl⟩)⟩
    rw [go_law_part_by]
    unfold b_law_part_by
    simp! [e1,e2,a,ew]
  · obtain ⟨a,a0,a1⟩:=mixed_F c k m hm
    obtain ⟨b,b0,b1⟩:=mixed_F c (k+1) m hm
    obtain ⟨q,q0,q1⟩:=mixed_F c (k+2) 4 (by decide)
    obtain ⟨n,hn,en⟩:=pick4 (a:=0) (b:=m - 1) (c:=mixA c k m) (d:=mixA c (k+1) m) (i:=mixA c (k+2) 4) q0 q1
    have e1:fEq (.int m) (.str "name")=some (.bl false):=by rfl
    have e2:fEq (.int m) (.str "mark")=some (.bl false):=by rfl
    refine ⟨.int n,?_,.inr (.inr ⟨m,n,rfl,rfl,by omega,by omega⟩)⟩
    rw [go_law_part_by]
    unfold b_law_part_by
    simp! [e1,e2,a,add_int,b,q,en]
theorem shape_imm {w:Str} (hw:w = "set" ∨ w = "high"):F_law_shape [.str w]=some (true,.lst [.int 8,.int 65536]):=by rcases hw with rfl | rfl<;>rfl
theorem shape_mov {w:Str} (hw:w = "left" ∨ w = "right"):F_law_shape [.str w]=some (true,.lst [.int 8,.int 32]):=by rcases hw with rfl | rfl<;>rfl
theorem shape_mem {w:Str} (hw:w = "load" ∨ w = "store" ∨ w = "loadw" ∨ w = "storew"):F_law_shape [.str w]=some (true,.lst [.int 8,.int 8,.int 256]):=by rcases hw with rfl | rfl | rfl | rfl<;>rfl
theorem shape_two {w:Str} (hw:w = "copy" ∨ w = "add" ∨ w = "addc" ∨ w = "sub" ∨ w = "subc" ∨ w = "and" ∨ w = "or" ∨ w = "xor" ∨ w = "test"):F_law_shape [.str w]=some (true,.lst [.int 8,.int 8]):=by
  rcases hw with rfl | rfl | rfl | rfl | rfl | rfl | rfl | rfl | rfl<;>rfl
theorem shape_name {w:Str} (hw:w = "jump" ∨ w = "label"):F_law_shape [.str w]=some (false,.lst [.str "name"]):=by rcases hw with rfl | rfl<;>rfl
theorem shape_cond {w:Str} (hw:w = "when" ∨ w = "unless"):F_law_shape [.str w]=some (false,.lst [.str "mark",.str "name"]):=by rcases hw with rfl | rfl<;>rfl
theorem shape_stop:F_law_shape [.str "stop"]=some (false,.lst []):=by rfl
noncomputable def WordA (w:Str):Prop:=(w = "set" ∨ w = "high")∨(w = "left" ∨ w = "right")∨(w = "load" ∨ w = "store" ∨ w = "loadw" ∨ w = "storew")∨(w = "copy" ∨ w = "add" ∨ w = "addc" ∨ w = "sub" ∨ w = "subc" ∨ w = "and" ∨ w = "or" ∨ w = "xor" ∨ w = "test")∨w = "jump" ∨ (w = "when" ∨ w = "unless")∨w = "stop"
noncomputable abbrev wordsD:D:=.lst [.str "set",.str "high",.str "copy",.str "add",.str "addc",.str "sub",.str "subc",.str "and",.str "or",.str "xor",.str "test",.str "left",.str "right",.str "load",.str "store",.str "loadw",.str "storew",.str "jump",.str "when",.str "unless",.str "stop"]
theorem words_F:F_law_words []=some (false,wordsD):=by rfl
theorem words_at {v:Int} (h0:0≤v) (h1:v<21):∃ w:Str,WordA w∧fIx wordsD (.int v)=some (.str w):=by
  rcases (show v=0∨v=1∨v=2∨v=3∨v=4∨v=5∨v=6∨v=7∨v=8∨v=9∨v=10∨v=11∨v=12∨v=13∨v=14∨v=15∨v=16∨v=17∨v=18∨v=19∨v=20 by omega) with rfl | rfl | rfl | rfl | rfl | rfl | rfl | rfl | rfl | rfl | rfl | rfl | rfl | rfl | rfl | rfl | rfl | rfl | rfl | rfl | rfl<;>exact ⟨_,by unfold WordA; simp,rfl⟩
theorem row_parts {N:List Str} {w:Str} {ks:List D} {o:Bool} (hs:F_law_shape [.str w]=some (o,.lst ks)) (hk:∀ k∈ks,kindA N k) (hl:ks.length≤5) (c:Int):∃ ds:List D,Each (fitsA N) ks ds∧sSeq (sSet 3 (eCall F_law_shape (aCons (eVar 2) aNil)))
    (sRet (e2 fAdd (eTup (aCons (eVar 2) aNil)) (eL fTuple (aCons (eLc 1 r_law_row_by_1 (gVar 4) tTrue x_law_row_by_1) aNil)))) [some (false,.int c),some (false,.lst (N.map D.str)),some (false,.str w),none]=some (.rt false (.tup (.str w::ds))):=by
  have rr:r_law_row_by_1 [some (false,.int c),some (false,.lst (N.map D.str)),some (false,.str w),some (false,.lst ks)]=some (upTo ks.length):=range_of (n:=(ks.length:Int)) rfl (by omega)
  obtain ⟨ds,e1,ea⟩:=lc_ex (g:=gVar 4) (e:=x_law_row_by_1) (σ:=[some (false,.int c),some (false,.lst (N.map D.str)),some (false,.str w),some (false,.lst ks),none]) (fun d x=>∃ i:Nat,d=.int (i:Int)∧∃ k,ks[i]?=some k∧fitsA N k x) (ds:=upTo ks.length) fun d hd=>by
    obtain ⟨i,hi,rfl⟩:=upTo_mem hd
    obtain ⟨x,ex,fx⟩:=part_F (hk _ (List.getElem_mem hi)) c (2*(i:Int)+1)
    have ei:fIx (.lst ks) (.int (i:Int))=some ks[i]:=at_nat (by omega) (by rw [Int.toNat_natCast]; exact List.getElem?_eq_getElem hi)
    have l2:lt64 2=true:=by decide
    refine ⟨_,x,rfl,?_,i,rfl,_,List.getElem?_eq_getElem hi,fx⟩
    unfold x_law_row_by_1
    simp! [ei,l2,add_int,ex]
  have ld:ds.length=ks.length:=by rw [← each_len ea,upTo_len]
  refine ⟨ds,?_,?_⟩
  · refine each_of ld.symm fun i k d hk hd=>?_
    have hi:i<ks.length:=(List.getElem?_eq_some_iff.mp hk).1
    obtain ⟨y,ey,j,ej,k',ek,fk⟩:=each_get ea (i:=i) (x:=.int (i:Int)) (by simp [hi])
    rw [ey] at hd
    cases hd
    have e0:j=i:=by injection ej with z; omega
    subst e0
    rw [hk] at ek
    cases ek
    exact fk
  · have ad:fAdd (.tup [.str w]) (.tup ds)=some (.tup (.str w::ds)):=by
      show (if _∧_ then _ else _)=_
      rw [if_pos ⟨rfl,by show 1+ds.length≤16777216; omega⟩]
      rfl
    have ft:fTuple [.lst ds]=some (.tup ds):=rfl
    simp! [hs,rr,e1,ft,ad]
theorem each_nil {R:D→D→Prop} {ds:List D} (h:Each R [] ds):ds=[]:=by cases h; rfl
theorem each_cons {R:D→D→Prop} {k:D} {ks ds:List D} (h:Each R (k::ks) ds):∃ d r,ds=d::r∧R k d∧Each R ks r:=by
  cases h with
  | cons r rs=>exact ⟨_,_,rfl,r,rs⟩
theorem fits_int {N:List Str} {m:Int} {d:D} (h:fitsA N (.int m) d):∃ n:Int,d=.int n∧0≤n∧n<m:=by
  rcases h with ⟨h,_⟩ | ⟨h,_⟩ | ⟨m',n,h,e,a,b⟩
  · cases h
  · cases h
  · injection h with h
    subst h
    exact ⟨n,e,a,b⟩
theorem fits_name {N:List Str} {d:D} (h:fitsA N (.str "name") d):∃ t∈N,d=.str t:=by
  rcases h with ⟨_,h⟩ | ⟨h,_⟩ | ⟨_,_,h,_⟩
  · exact h
  · exact absurd (D.str.inj h) (by decide)
  · cases h
theorem fits_mark {N:List Str} {d:D} (h:fitsA N (.str "mark") d):∃ k:Str,(k = "carry" ∨ k = "nought" ∨ k = "sign")∧d=.str k:=by
  rcases h with ⟨h,_⟩ | ⟨_,h⟩ | ⟨_,_,h,_⟩
  · exact absurd (D.str.inj h) (by decide)
  · exact h
  · cases h
theorem row_of_parts {N:List Str} {w:Str} (hw:WordA w) (hn:N=[]→w ≠ "jump" ∧ w ≠ "when" ∧ w ≠ "unless") (c:Int):∃ r,RowA N r∧sSeq (sSet 3 (eCall F_law_shape (aCons (eVar 2) aNil)))
    (sRet (e2 fAdd (eTup (aCons (eVar 2) aNil)) (eL fTuple (aCons (eLc 1 r_law_row_by_1 (gVar 4) tTrue x_law_row_by_1) aNil)))) [some (false,.int c),some (false,.lst (N.map D.str)),some (false,.str w),none]=some (.rt false r):=by
  have ki:∀ m:Int,0<m→kindA N (.int m):=fun m h=>.inr (.inr ⟨m,rfl,h⟩)
  rcases hw with hw | hw | hw | hw | hw | hw | hw
  · obtain ⟨ds,ea,e⟩:=row_parts (N:=N) (shape_imm hw) (fun k hk=>by
      rcases List.mem_cons.mp hk with rfl | hk
      · exact ki 8 (by decide)
      · cases List.mem_singleton.mp hk; exact ki 65536 (by decide)) (by decide) c
    obtain ⟨d1,r1,rfl,f1,ea⟩:=each_cons ea
    obtain ⟨d2,r2,rfl,f2,ea⟩:=each_cons ea
    cases each_nil ea
    obtain ⟨x,rfl,x0,x1⟩:=fits_int f1
    obtain ⟨y,rfl,y0,y1⟩:=fits_int f2
    exact ⟨_,.plain (.imm hw x0 x1 y0 y1),e⟩
  · obtain ⟨ds,ea,e⟩:=row_parts (N:=N) (shape_mov hw) (fun k hk=>by
      rcases List.mem_cons.mp hk with rfl | hk
      · exact ki 8 (by decide)
      · cases List.mem_singleton.mp hk; exact ki 32 (by decide)) (by decide) c
    obtain ⟨d1,r1,rfl,f1,ea⟩:=each_cons ea
    obtain ⟨d2,r2,rfl,f2,ea⟩:=each_cons ea
    cases each_nil ea
    obtain ⟨x,rfl,x0,x1⟩:=fits_int f1
    obtain ⟨y,rfl,y0,y1⟩:=fits_int f2
    exact ⟨_,.plain (.mov hw x0 x1 y0 y1),e⟩
  · obtain ⟨ds,ea,e⟩:=row_parts (N:=N) (shape_mem hw) (fun k hk=>by
      rcases List.mem_cons.mp hk with rfl | hk
      · exact ki 8 (by decide)
      · rcases List.mem_cons.mp hk with rfl | hk
        · exact ki 8 (by decide)
        · cases List.mem_singleton.mp hk; exact ki 256 (by decide)) (by decide) c
    obtain ⟨d1,r1,rfl,f1,ea⟩:=each_cons ea
    obtain ⟨d2,r2,rfl,f2,ea⟩:=each_cons ea
    obtain ⟨d3,r3,rfl,f3,ea⟩:=each_cons ea
    cases each_nil ea
    obtain ⟨x,rfl,x0,x1⟩:=fits_int f1
    obtain ⟨y,rfl,y0,y1⟩:=fits_int f2
    obtain ⟨z,rfl,z0,z1⟩:=fits_int f3
    exact ⟨_,.plain (.mem hw x0 x1 y0 y1 z0 z1),e⟩
  · obtain ⟨ds,ea,e⟩:=row_parts (N:=N) (shape_two hw) (fun k hk=>by
      rcases List.mem_cons.mp hk with rfl | hk
      · exact ki 8 (by decide)
      · cases List.mem_singleton.mp hk; exact ki 8 (by decide)) (by decide) c
    obtain ⟨d1,r1,rfl,f1,ea⟩:=each_cons ea
    obtain ⟨d2,r2,rfl,f2,ea⟩:=each_cons ea
    cases each_nil ea
    obtain ⟨x,rfl,x0,x1⟩:=fits_int f1
    obtain ⟨y,rfl,y0,y1⟩:=fits_int f2
    exact ⟨_,.plain (.two hw x0 x1 y0 y1),e⟩
  · have nn:N≠[]:=fun z=>(hn z).1 hw
    obtain ⟨ds,ea,e⟩:=row_parts (N:=N) (shape_name (.inl hw)) (fun k hk=>by
      cases List.mem_singleton.mp hk; exact .inl ⟨rfl,nn⟩) (by decide) c
    obtain ⟨d1,r1,rfl,f1,ea⟩:=each_cons ea
    cases each_nil ea
    obtain ⟨t,ht,rfl⟩:=fits_name f1
    subst hw
    exact ⟨_,.jump ht,e⟩
  · have nn:N≠[]:=fun z=>by
      rcases hw with hw | hw
      · exact (hn z).2.1 hw
      · exact (hn z).2.2 hw
    obtain ⟨ds,ea,e⟩:=row_parts (N:=N) (shape_cond hw) (fun k hk=>by
      rcases List.mem_cons.mp hk with rfl | hk
      · exact .inr (.inl rfl)
      · cases List.mem_singleton.mp hk; exact .inl ⟨rfl,nn⟩) (by decide) c
    obtain ⟨d1,r1,rfl,f1,ea⟩:=each_cons ea
    obtain ⟨d2,r2,rfl,f2,ea⟩:=each_cons ea
    cases each_nil ea
    obtain ⟨k,hk,rfl⟩:=fits_mark f1
    obtain ⟨t,ht,rfl⟩:=fits_name f2
    exact ⟨_,.cond hw hk ht,e⟩
  · subst hw
    obtain ⟨ds,ea,e⟩:=row_parts (N:=N) shape_stop (fun k hk=>by cases hk) (by decide) c
    cases each_nil ea
    exact ⟨_,.plain .stop,e⟩
theorem row_FA (N:List Str) (c:Int):∃ r,RowA N r∧F_law_row_by [.int c,.lst (N.map D.str)]=some (false,r):=by
  obtain ⟨a,a0,a1⟩:=mixed_F c 0 21 (by decide)
  obtain ⟨w0,hw0,e0⟩:=words_at a0 a1
  obtain ⟨b,b0,b1⟩:=mixed_F c 8 4 (by decide)
  obtain ⟨q,q0,q1⟩:=mixed_F c 9 3 (by decide)
  generalize mixA c 0 21=v0 at *
  generalize mixA c 8 4=v8 at *
  generalize mixA c 9 3=v9 at *
  obtain ⟨w9,hw9,e9⟩:∃ w:Str,WordA w∧fIx (.lst [.str "jump",.str "when",.str "unless"]) (.int v9)=some (.str w):=by
    rcases (show v9=0∨v9=1∨v9=2 by omega) with rfl | rfl | rfl<;>exact ⟨_,by unfold WordA; simp,rfl⟩
  have wF:=words_F
  have step:∃ w:Str,WordA w∧∀ (rest:FS),sSeq (sSet 2 (e2 fIx (eCall F_law_words aNil) (eCall F_law_mixed (aCons (eVar 0) (aCons (eC (.int 0)) (aCons (eC (.int 21)) aNil))))))
    (sSeq (sIf (tE (e2 fEq (eCall F_law_mixed (aCons (eVar 0) (aCons (eC (.int 8)) (aCons (eC (.int 4)) aNil)))) (eC (.int 1))))
      (sSet 2 (e2 fIx (eLst (aCons (eC (.str "jump")) (aCons (eC (.str "when")) (aCons (eC (.str "unless")) aNil)))) (eCall F_law_mixed (aCons (eVar 0) (aCons (eC (.int 9)) (aCons (eC (.int 3)) aNil))))))
      sNext) rest) [some (false,.int c),some (false,.lst (N.map D.str)),none,none]=rest [some (false,.int c),some (false,.lst (N.map D.str)),some (false,.str w),none]:=by
    by_cases h8:v8=1
    · refine ⟨w9,hw9,fun rest=>?_⟩
      have k8:=int_eq h8
      rw [seq_nx (σ':=[some (false,.int c),some (false,.lst (N.map D.str)),some (false,.str w0),none]) (by
        generalize wordsD=WD at *
        simp! [wF,a,e0])]
      rw [seq_nx (σ':=[some (false,.int c),some (false,.lst (N.map D.str)),some (false,.str w9),none]) (by simp! [b,k8,q,e9])]
    · refine ⟨w0,hw0,fun rest=>?_⟩
      have k8:=int_ne h8
      rw [seq_nx (σ':=[some (false,.int c),some (false,.lst (N.map D.str)),some (false,.str w0),none]) (by
        generalize wordsD=WD at *
        simp! [wF,a,e0])]
      rw [seq_nx (σ':=[some (false,.int c),some (false,.lst (N.map D.str)),some (false,.str w0),none]) (by simp! [b,k8])]
  obtain ⟨w,hw,es⟩:=step
  obtain ⟨kj,ej⟩:∃ k:Bool,fIn (.str w) (.lst [.str "jump",.str "when",.str "unless"])=some (.bl k)∧(k=false→w ≠ "jump" ∧ w ≠ "when" ∧ w ≠ "unless"):=by
    rcases hw with hw | hw | hw | hw | hw | hw | hw
    · rcases hw with rfl | rfl<;>exact ⟨false,rfl,fun _=>by decide⟩
    · rcases hw with rfl | rfl<;>exact ⟨false,rfl,fun _=>by decide⟩
    · rcases hw with rfl | rfl | rfl | rfl<;>exact ⟨false,rfl,fun _=>by decide⟩
    · rcases hw with rfl | rfl | rfl | rfl | rfl | rfl | rfl | rfl | rfl<;>exact ⟨false,rfl,fun _=>by decide⟩
    · subst hw; exact ⟨true,rfl,fun z=>by cases z⟩
    · rcases hw with rfl | rfl<;>exact ⟨true,rfl,fun z=>by cases z⟩
    · subst hw; exact ⟨false,rfl,fun _=>by decide⟩
  have fin:∃ w':Str,WordA w'∧(N=[]→w' ≠ "jump" ∧ w' ≠ "when" ∧ w' ≠ "unless")∧sIf (tAndF (tE (e2 fIn (eVar 2) (eLst (aCons (eC (.str "jump")) (aCons (eC (.str "when")) (aCons (eC (.str "unless")) aNil)))))) (tE (e2 fEq (eL fLen (aCons (eVar 1) aNil)) (eC (.int 0)))))
      (sSet 2 (eC (.str "stop")))
      sNext [some (false,.int c),some (false,.lst (N.map D.str)),some (false,.str w),none]=some (.nx [some (false,.int c),some (false,.lst (N.map D.str)),some (false,.str w'),none]):=by
    obtain ⟨ej,hj⟩:=ej
    cases kj with
    | false=>
      refine ⟨w,hw,fun _=>hj rfl,?_⟩
      simp! [ej]
    | true=>
      by_cases hN:N=[]
      · subst hN
        refine ⟨"stop",by unfold WordA; simp,fun _=>by decide,?_⟩
        have k0:fEq (.int (0:Nat)) (.int 0)=some (.bl true):=by rfl
        simp! [ej]
        rfl
      · have hp:0<N.length:=List.length_pos_iff.mpr hN
        have k0:fEq (.int (N.length:Int)) (.int 0)=some (.bl false):=int_ne (by omega)
        refine ⟨w,hw,fun z=>absurd z hN,?_⟩
        simp! [ej,List.length_map,k0]
  obtain ⟨w',hw',hn,ef⟩:=fin
  obtain ⟨r,hr,er⟩:=row_of_parts (N:=N) hw' hn c
  refine ⟨r,hr,?_⟩
  rw [go_law_row_by]
  unfold b_law_row_by
  show ((sSeq _ _ [some (false,.int c),some (false,.lst (N.map D.str)),none,none]).bind _)=_
  rw [es,seq_nx ef,er]
  rfl
end L3
namespace L3
open PySem
noncomputable def r_law_program_1:FA:=(iRange (eC (.int 0)) (e2 fAdd (eC (.int 40)) (e2 fMod (e2 fDiv (eVar 2) (eC (.int 12))) (eC (.int 160)))))
noncomputable def x_law_program_1:FE:=(e2 fAdd (e2 fDiv (eVar 2) (eC (.int 12))) (e2 fMulL (eC (.int 17)) (eVar 8)))
noncomputable def x_law_program_2:FE:=(eCall F_law_row_by (aCons (eVar 8) (aCons (eVar 6) aNil)))
noncomputable def r_law_program_2:FA:=(iRange (eC (.int 0)) (eL fLen (aCons (eVar 6) aNil)))
noncomputable def l_law_program_1:FS:=(sIns 7 (eCall F_law_mixed (aCons (e2 fAdd (eVar 2) (e2 fDiv (eVar 4) (eC (.int 5)))) (aCons (eVar 4) (aCons (e2 fAdd (eL fLen (aCons (eAny 7) aNil)) (eC (.int 1))) aNil)))) (eTup (aCons (eC (.str "label")) (aCons (e2 fIx (eVar 6) (eVar 4)) aNil))))
noncomputable def b_law_program:FS:=
  (sSeq (sSet 2 (eCall F_law_cell_at (aCons (eVar 0) (aCons (eVar 1) aNil))))
    (sSeq (sSet 3 (eSl (eVar 0) (oSome (e2 fAdd (eVar 1) (eC (.int 1)))) (oSome (e2 fAdd (eVar 1) (eC (.int 31))))))
    (sSeq (sIf (tE (e2 fEq (e2 fMod (eVar 2) (eC (.int 12))) (eC (.int 5))))
      (sSet 3 (eLc 1 r_law_program_1 (gVar 8) tTrue x_law_program_1))
      sNext)
    (sSeq (sSet 5 (e2 fIx (eLst (fun _=>some (List.map D.int [0,1,2,3,4,6,8,20]))) (eCall F_law_mixed (aCons (eVar 2) (aCons (eC (.int 1)) (aCons (eC (.int 8)) aNil))))))
    (sSeq (sIf (tE (e2 fEq (e2 fMod (eVar 2) (eC (.int 24))) (eC (.int 5))))
      (sSet 5 (eC (.int 40)))
      sNext)
    (sSeq (sSet 6 (eCall F_law_names (aCons (e2 fDiv (eVar 2) (eC (.int 3))) (aCons (eVar 5) aNil))))
    (sSeq (sSetO 7 (eLc 1 (iSeq (eVar 3)) (gVar 8) tTrue x_law_program_2))
    (sSeq (sFor r_law_program_2 (gVar 4)
      l_law_program_1)
    (sRetV 7)))))))))
noncomputable def F_law_program:List D→Option (Bool×D):=FR 2 8 b_law_program
theorem run_law_program:∀ ds r,F_law_program ds=some r→ds.length=2∧runF 8 b_law_program ds=some r:=FR_ok
theorem go_law_program (x0 x1:D):F_law_program [x0,x1]=runF 8 b_law_program [x0,x1]:=rfl
theorem fil_insP (p:D→Bool) (xs:List D) (n:Nat) (y:D) (h:p y=true):((xs.take n++[y]++xs.drop n).filter p).Perm (xs.filter p++[y]):=by
  have e:xs.filter p=(xs.take n).filter p++(xs.drop n).filter p:=by rw [← List.filter_append,List.take_append_drop]
  rw [List.filter_append,List.filter_append,List.filter_cons_of_pos h,e,List.filter_nil,List.append_assoc,List.append_assoc]
  exact List.Perm.append_left _ List.perm_append_comm
structure Prog (N:List Str) (items:List D):Prop where
  nm:Names N
  it:∀ d∈items,ItemA N d
  lb:(items.filter isL).Perm (N.map labelD)
  ln:items.length≤300
  nl:N.length≤40
theorem program_F (ns:List Int) (hl:ns.length≤63) {first:Int} (f0:0≤first):∃ N items,Prog N items∧F_law_program [.lst (ns.map D.int),.int first]=some (true,.lst items):=by
  have hc:=cell_ints ns (k:=first) f0
  generalize cellAt ns first=far at hc
  have b1:=mixed_F far 1 8 (by decide)
  obtain ⟨mn,mn0,mn1,emn⟩:∃ m:Int,0≤m∧m≤40∧fIx (.lst (List.map D.int [0,1,2,3,4,6,8,20])) (.int (mixA far 1 8))=some (.int m):=by
    obtain ⟨_,h0,h1⟩:=b1
    generalize mixA far 1 8=v at *
    rcases (show v=0∨v=1∨v=2∨v=3∨v=4∨v=5∨v=6∨v=7 by omega) with rfl | rfl | rfl | rfl | rfl | rfl | rfl | rfl<;>exact ⟨_,by decide,by decide,rfl⟩
  have b1:=b1.1
  obtain ⟨s,hs⟩:∃ s:D,s=.lst (ns.map D.int):=⟨_,rfl⟩
  have cells:∃ cs:List Int,cs.length≤200∧∀ rest:FS,sSeq (sSet 3 (eSl (eVar 0) (oSome (e2 fAdd (eVar 1) (eC (.int 1)))) (oSome (e2 fAdd (eVar 1) (eC (.int 31))))))
    (sSeq (sIf (tE (e2 fEq (e2 fMod (eVar 2) (eC (.int 12))) (eC (.int 5))))
      (sSet 3 (eLc 1 r_law_program_1 (gVar 8) tTrue x_law_program_1))
      sNext) rest) [some (false,s),some (false,.int first),some (false,.int far),none,none,none,none,none]=rest [some (false,s),some (false,.int first),some (false,.int far),some (false,.lst (cs.map D.int)),none,none,none,none]:=by
    have sl:eSl (eVar 0) (oSome (e2 fAdd (eVar 1) (eC (.int 1)))) (oSome (e2 fAdd (eVar 1) (eC (.int 31)))) [some (false,s),some (false,.int first),some (false,.int far),none,none,none,none,none]=some (.lst ((cutD ns (some (first+1)) (some (first+31))).map D.int)):=by
      rw [hs]
      show some (D.lst (cutD (ns.map D.int) (some (first+1)) (some (first+31))))=_
      unfold cutD
      rw [List.length_map,List.map_take,List.map_drop]
    have cl:(cutD ns (some (first+1)) (some (first+31))).length≤63:=by
      unfold cutD
      rw [List.length_take,List.length_drop]
      omega
    by_cases h5:far % 12=5
    · have k5:=int_eq h5
      have rr:r_law_program_1 [some (false,s),some (false,.int first),some (false,.int far),some (false,.lst ((cutD ns (some (first+1)) (some (first+31))).map D.int)),none,none,none,none]=some (upTo (40+far / 12 % 160).toNat):=range_of (n:=40+far / 12 % 160) rfl (by omega)
      have l17:lt64 17=true:=by decide
      have l1:=lc_map (g:=gVar 8) (e:=x_law_program_1) (σ:=[some (false,s),some (false,.int first),some (false,.int far),some (false,.lst ((cutD ns (some (first+1)) (some (first+31))).map D.int)),none,none,none,none,none]) (fun d=>match d with | .int j=>D.int (far / 12+17*j) | d=>d) (ds:=upTo (40+far / 12 % 160).toNat) fun d hd=>by
        obtain ⟨i,hi,rfl⟩:=upTo_mem hd
        refine ⟨_,rfl,?_⟩
        unfold x_law_program_1
        simp! [l17,add_int]
      have w1:(upTo (40+far / 12 % 160).toNat).map (fun d=>match d with | .int j=>D.int (far / 12+17*j) | d=>d)=((List.range (40+far / 12 % 160).toNat).map fun j:Nat=>far / 12+17*(j:Int)).map D.int:=by
        rw [List.map_map,List.map_map]
        rfl
      rw [w1] at l1
      refine ⟨(List.range (40+far / 12 % 160).toNat).map fun j:Nat=>far / 12+17*(j:Int),?_,fun rest=>?_⟩
      rotate_left
      · rw [seq_nx (σ':=[some (false,s),some (false,.int first),some (false,.int far),some (false,.lst ((cutD ns (some (first+1)) (some (first+31))).map D.int)),none,none,none,none]) (by
          generalize (cutD ns (some (first+1)) (some (first+31))).map D.int=CC at *
          simp! [sl])]
        rw [seq_nx (σ':=[some (false,s),some (false,.int first),some (false,.int far),some (false,.lst (((List.range (40+far / 12 % 160).toNat).map fun j:Nat=>far / 12+17*(j:Int)).map D.int)),none,none,none,none]) (by
          generalize (cutD ns (some (first+1)) (some (first+31))).map D.int=CC at *
          generalize List.map D.int (List.map (fun j:Nat=>far / 12+17*(j:Int)) (List.range (40+far / 12 % 160).toNat))=LL at *
          simp! [k5,rr,l1])]
      · rw [List.length_map,List.length_range]
        omega
    · have k5:=int_ne h5
      refine ⟨cutD ns (some (first+1)) (some (first+31)),by omega,fun rest=>?_⟩
      · rw [seq_nx (σ':=[some (false,s),some (false,.int first),some (false,.int far),some (false,.lst ((cutD ns (some (first+1)) (some (first+31))).map D.int)),none,none,none,none]) (by
          generalize (cutD ns (some (first+1)) (some (first+31))).map D.int=CC at *
          simp! [sl])]
        rw [seq_nx (σ':=[some (false,s),some (false,.int first),some (false,.int far),some (false,.lst ((cutD ns (some (first+1)) (some (first+31))).map D.int)),none,none,none,none]) (by
          generalize (cutD ns (some (first+1)) (some (first+31))).map D.int=CC at *
          simp! [k5])]
  obtain ⟨cs,lcs,ecs⟩:=cells
  have many:∃ m:Int,0≤m∧m≤40∧∀ (CC:D) (rest:FS),sSeq (sSet 5 (e2 fIx (eLst (fun _=>some (List.map D.int [0,1,2,3,4,6,8,20]))) (eCall F_law_mixed (aCons (eVar 2) (aCons (eC (.int 1)) (aCons (eC (.int 8)) aNil))))))
    (sSeq (sIf (tE (e2 fEq (e2 fMod (eVar 2) (eC (.int 24))) (eC (.int 5))))
      (sSet 5 (eC (.int 40)))
      sNext) rest) [some (false,s),some (false,.int first),some (false,.int far),some (false,CC),none,none,none,none]=rest [some (false,s),some (false,.int first),some (false,.int far),some (false,CC),none,some (false,.int m),none,none]:=by
    by_cases h5:far % 24=5
    · have k5:=int_eq h5
      refine ⟨40,by decide,by decide,fun CC rest=>?_⟩
      rw [seq_nx (σ':=[some (false,s),some (false,.int first),some (false,.int far),some (false,CC),none,some (false,.int mn),none,none]) (by
        generalize List.map D.int [0,1,2,3,4,6,8,20]=PS at *
        simp! [b1,emn])]
      rw [seq_nx (σ':=[some (false,s),some (false,.int first),some (false,.int far),some (false,CC),none,some (false,.int 40),none,none]) (by simp! [k5])]
    · have k5:=int_ne h5
      refine ⟨mn,mn0,mn1,fun CC rest=>?_⟩
      rw [seq_nx (σ':=[some (false,s),some (false,.int first),some (false,.int far),some (false,CC),none,some (false,.int mn),none,none]) (by
        generalize List.map D.int [0,1,2,3,4,6,8,20]=PS at *
        simp! [b1,emn])]
      rw [seq_nx (σ':=[some (false,s),some (false,.int first),some (false,.int far),some (false,CC),none,some (false,.int mn),none,none]) (by simp! [k5])]
  obtain ⟨m,m0,m1,em⟩:=many
  obtain ⟨N,nl,hN,en⟩:=names_F (far / 3) m0 m1
  obtain ⟨I0,e1,ea⟩:=lc_ex (g:=gVar 8) (e:=x_law_program_2) (σ:=[some (false,s),some (false,.int first),some (false,.int far),some (false,.lst (cs.map D.int)),none,some (false,.int m),some (false,.lst (N.map D.str)),none,none]) (fun _ y=>RowA N y) (ds:=cs.map D.int) fun d hd=>by
    obtain ⟨c,_,rfl⟩:=List.mem_map.mp hd
    obtain ⟨r,hr,er⟩:=row_FA N c
    exact ⟨_,r,rfl,by unfold x_law_program_2; simp! [er],hr⟩
  have li:I0.length=cs.length:=by rw [← each_len ea,List.length_map]
  have p0:∀ b∈I0,RowA N b:=fun b hb=>by
    obtain ⟨_,_,h⟩:=each_mem ea b hb
    exact h
  have rr:r_law_program_2 [some (false,s),some (false,.int first),some (false,.int far),some (false,.lst (cs.map D.int)),none,some (false,.int m),some (false,.lst (N.map D.str)),some (true,.lst I0)]=some (upTo N.length):=by
    have:=range_of (f:=eL fLen (aCons (eVar 6) aNil)) (τ:=[some (false,s),some (false,.int first),some (false,.int far),some (false,.lst (cs.map D.int)),none,some (false,.int m),some (false,.lst (N.map D.str)),some (true,.lst I0)]) (n:=((N.map D.str).length:Int)) rfl (by rw [List.length_map]; omega)
    rw [List.length_map,Int.toNat_natCast] at this
    exact this
  obtain ⟨σ',e3,J,x4,jl,jI,jP,rfl⟩:=loop_by (g:=gVar 4) (b:=l_law_program_1) (fun i σ=>∃ J x4,J.length=cs.length+i∧(∀ d∈J,ItemA N d)∧(J.filter isL).Perm ((N.take i).map labelD)∧σ=[some (false,s),some (false,.int first),some (false,.int far),some (false,.lst (cs.map D.int)),x4,some (false,.int m),some (false,.lst (N.map D.str)),some (true,.lst J)]) (ds:=upTo N.length)
    (σ:=[some (false,s),some (false,.int first),some (false,.int far),some (false,.lst (cs.map D.int)),none,some (false,.int m),some (false,.lst (N.map D.str)),some (true,.lst I0)]) 0 ⟨I0,none,li,(fun d hd=>.inl (p0 d hd)),by
      rw [List.filter_eq_nil_iff.mpr fun b hb=>by rw [(rowA_item (p0 b hb)).2]; decide]
      exact List.Perm.refl _,rfl⟩ (by
    rintro i v σ hv ⟨J,x4,jl,jI,jP,rfl⟩
    obtain ⟨hi,rfl⟩:=upTo_get hv
    rw [Nat.zero_add] at *
    obtain ⟨a,a0,a1⟩:=mixed_F (far+(i:Int) / 5) (i:Int) ((J.length:Int)+1) (by omega)
    generalize mixA (far+(i:Int) / 5) (i:Int) ((J.length:Int)+1)=v at *
    have ix:fIx (.lst (N.map D.str)) (.int (i:Int))=some (.str N[i]):=at_nat (by omega) (by rw [Int.toNat_natCast,List.getElem?_map,List.getElem?_eq_getElem hi]; rfl)
    have cc:0≤v∧v<4611686018427387904∧J.length<LIM:=⟨a0,by omega,by show _<16777216; omega⟩
    refine ⟨_,[some (false,s),some (false,.int first),some (false,.int far),some (false,.lst (cs.map D.int)),some (false,.int (i:Int)),some (false,.int m),some (false,.lst (N.map D.str)),some (true,.lst (insD J v (labelD N[i])))],rfl,.inl ?_,_,_,?_,?_,?_,rfl⟩
    · unfold l_law_program_1 labelD
      generalize N.map D.str=NN at *
      simp! [sIns,add_int,a,ix]
      exact if_pos cc
    · unfold insD
      rw [List.length_append,List.length_append,List.length_take,List.length_drop,List.length_singleton]
      omega
    · intro b hb
      unfold insD at hb
      rcases List.mem_append.mp hb with hb | hb
      · rcases List.mem_append.mp hb with hb | hb
        · exact jI b (List.mem_of_mem_take hb)
        · cases List.mem_singleton.mp hb
          exact .inr ⟨_,List.getElem_mem hi,rfl⟩
      · exact jI b (List.mem_of_mem_drop hb)
    · unfold insD
      refine (fil_insP isL J v.toNat _ rfl).trans ?_
      rw [List.take_succ_eq_append_getElem hi,List.map_append]
      exact jP.append_right _)
  rw [upTo_len,Nat.zero_add] at jl jP
  rw [List.take_length] at jP
  refine ⟨N,J,⟨hN,jI,jP,by omega,by omega⟩,?_⟩
  rw [← hs] at hc ⊢
  rw [go_law_program]
  unfold b_law_program
  show ((sSeq _ _ [some (false,s),some (false,.int first),none,none,none,none,none,none]).bind _)=_
  rw [seq_nx (σ':=[some (false,s),some (false,.int first),some (false,.int far),none,none,none,none,none]) (by simp! [hc]),ecs,em]
  rw [seq_nx (σ':=[some (false,s),some (false,.int first),some (false,.int far),some (false,.lst (cs.map D.int)),none,some (false,.int m),some (false,.lst (N.map D.str)),none]) (by
    generalize cs.map D.int=CC at *
    generalize N.map D.str=NN at *
    simp! [en])]
  rw [seq_nx (σ':=[some (false,s),some (false,.int first),some (false,.int far),some (false,.lst (cs.map D.int)),none,some (false,.int m),some (false,.lst (N.map D.str)),some (true,.lst I0)]) (by
    generalize cs.map D.int=CC at *
    generalize N.map D.str=NN at *
    simp! [e1])]
  generalize cs.map D.int=CC at *
  generalize N.map D.str=NN at *
  simp! [rr,e3]
end L3
namespace L3
open PySem
noncomputable def b_is_label:FS:=
  (sRet (e2 fEq (e2 fIx (eVar 0) (eC (.int 0))) (eC (.str "label"))))
noncomputable def F_is_label:List D→Option (Bool×D):=FR 1 1 b_is_label
theorem run_is_label:∀ ds r,F_is_label ds=some r→ds.length=1∧runF 1 b_is_label ds=some r:=FR_ok
theorem go_is_label (x0:D):F_is_label [x0]=runF 1 b_is_label [x0]:=rfl
noncomputable def x_rows_of_1:FE:=(eVar 1)
noncomputable def y_rows_of_1:FT:=(tNotF (tE (eCall F_is_label (aCons (eVar 1) aNil))))
noncomputable def b_rows_of:FS:=
  (sRetO (eLc 1 (iSeq (eVar 0)) (gVar 1) y_rows_of_1 x_rows_of_1))
noncomputable def F_rows_of:List D→Option (Bool×D):=FR 1 1 b_rows_of
theorem run_rows_of:∀ ds r,F_rows_of ds=some r→ds.length=1∧runF 1 b_rows_of ds=some r:=FR_ok
theorem go_rows_of (x0:D):F_rows_of [x0]=runF 1 b_rows_of [x0]:=rfl
theorem isl_F {d:D} (h:Item d):F_is_label [d]=some (false,.bl (isL d)):=by
  obtain ⟨w,a,b,_⟩:=item_fx h
  rw [go_is_label]
  unfold b_is_label
  simp! [a,b]
theorem rows_of_F {items:List D} (h:∀ d∈items,Item d):F_rows_of [.lst items]=some (true,.lst (items.filter fun d=>!isL d)):=by
  have e:=lc_all (g:=gVar 1) (c:=y_rows_of_1) (e:=x_rows_of_1) (σ:=[some (false,.lst items),none]) (fun d=>!isL d) id (ds:=items) fun d hd=>by
    have hf:=isl_F (h d hd)
    refine ⟨_,rfl,?_,fun _=>rfl⟩
    unfold y_rows_of_1
    simp! [hf]
  rw [List.map_id] at e
  rw [go_rows_of]
  unfold b_rows_of
  simp! [e]
end L3
namespace L3
open PySem
noncomputable def l_label_places_1:FS:=(sIf (tE (eCall F_is_label (aCons (eVar 3) aNil)))
          (sPut 1 (e2 fIx (eVar 3) (eC (.int 1))) (eVar 2))
          (sSet 2 (e2 (fBit fun i j=>i+j) (eVar 2) (eC (.int 1)))))
noncomputable def b_label_places:FS:=
  (sSeq (sSetO 1 (eC (.dic [] [])))
    (sSeq (sSet 2 (eC (.int 0)))
    (sSeq (sFor (iSeq (eVar 0)) (gVar 3)
      l_label_places_1)
    (sRetV 1))))
noncomputable def F_label_places:List D→Option (Bool×D):=FR 1 4 b_label_places
theorem run_label_places:∀ ds r,F_label_places ds=some r→ds.length=1∧runF 4 b_label_places ds=some r:=FR_ok
theorem go_label_places (x0:D):F_label_places [x0]=runF 4 b_label_places [x0]:=rfl
theorem item_label {d:D} (h:Item d) (hl:isL d=true):∃ t,d=labelD t:=by
  cases h with
  | label t=>exact ⟨t,rfl⟩
  | plain h=>
    obtain ⟨_,_,_,z,_⟩:=rowG_fx (m:=0) (.inl h)
    rw [z] at hl
    cases hl
  | jump=>cases hl
  | cond t hw hk=>rcases hw with rfl | rfl<;>cases hl
theorem labels_F2 {items:List D} (h:∀ d∈items,Item d) (hl:items.length≤1000):∃ ks vs,F_label_places [.lst items]=some (true,.dic ks vs)∧ks.length=vs.length∧∀ t,getK ks vs (.inr t)=((plc t items).2).map fun n:Nat=>D.int n:=by
  obtain ⟨σ',e,ks,vs,x3,a1,a2,a3,rfl⟩:=loop_by (g:=gVar 3) (b:=l_label_places_1) (fun i σ=>∃ ks vs x3,ks.length=vs.length∧ks.length≤i∧(∀ t,getK ks vs (.inr t)=((plc t (items.take i)).2).map fun n:Nat=>D.int n)∧σ=[some (false,.lst items),some (true,.dic ks vs),some (false,.int (((items.take i).filter fun d=>!isL d).length:Nat)),x3]) (ds:=items)
    (σ:=[some (false,.lst items),some (true,.dic [] []),some (false,.int 0),none]) 0 ⟨[],[],none,rfl,Nat.le_refl _,fun t=>rfl,rfl⟩ (by
    rintro i v σ hv ⟨ks,vs,x3,a1,a2,a3,rfl⟩
    rw [Nat.zero_add] at *
    have hi:i<items.length:=(List.getElem?_eq_some_iff.mp hv).1
    have ev:items[i]=v:=(List.getElem?_eq_some_iff.mp hv).2
    have ht:items.take (i+1)=items.take i++[v]:=by rw [List.take_succ_eq_append_getElem hi,ev]
    have hI:=h v (List.mem_of_getElem? hv)
    have hf:=isl_F hI
    generalize hn:((items.take i).filter fun d=>!isL d).length=n
    cases hL:isL v with
    | true=>
      obtain ⟨u,rfl⟩:=item_label hI hL
      rw [hL] at hf
      have i1:fIx (labelD u) (.int 1)=some (.str u):=rfl
      have kd:keyD (.str u)=some (.inr u):=rfl
      have hlim:ks.length<LIM:=by show _<16777216; omega
      have hn2:((items.take (i+1)).filter fun d=>!isL d).length=n:=by
        rw [ht,List.filter_append,List.length_append,hn]
        rfl
      have hlk:(putKs ks (.inr u)).length≤i+1:=by
        unfold putKs
        split
        · omega
        · rw [List.length_append]; show _+1≤_; omega
      refine ⟨_,[some (false,.lst items),some (true,.dic (putKs ks (.inr u)) (putVs ks vs (.inr u) (.int (n:Nat)))),some (false,.int (n:Nat)),some (false,labelD u)],rfl,.inl ?_,putKs ks (.inr u),putVs ks vs (.inr u) (.int (n:Nat)),_,put_len a1,hlk,fun t=>?_,by rw [hn2]⟩
      · unfold l_label_places_1
        simp! [hf,sPut,i1,kd,if_pos hlim]
      · rw [get_put a1,ht,plc_lab,hn,a3]
        by_cases e:u=t
        · rw [if_pos (by rw [e]),if_pos e]
          rfl
        · rw [if_neg (fun z=>e (Sum.inr.inj z)),if_neg e]
    | false=>
      rw [hL] at hf
      have hn2:((items.take (i+1)).filter fun d=>!isL d).length=n+1:=by
        rw [ht,List.filter_append,List.length_append,hn,List.filter_cons_of_pos (by rw [hL]; rfl)]
        rfl
      refine ⟨_,[some (false,.lst items),some (true,.dic ks vs),some (false,.int ((n:Nat)+1:Int)),some (false,v)],rfl,.inl ?_,ks,vs,_,a1,by omega,fun t=>?_,by rw [hn2]; rfl⟩
      · unfold l_label_places_1
        simp! [hf]
      · rw [ht,plc_row hL,a3])
  rw [Nat.zero_add,List.take_length] at a3
  refine ⟨ks,vs,?_,a1,a3⟩
  rw [go_label_places]
  unfold b_label_places
  simp! [e]
end L3
namespace L3
open PySem
noncomputable def leafD:D→Bool
  | .int _=>true
  | .str _=>true
  | _=>false
noncomputable def rowD:D→Bool
  | .tup xs=>xs.all leafD
  | _=>false
theorem item_row {d:D} (h:Item d):rowD d=true:=by
  cases h with
  | label u=>rfl
  | plain h=>cases h<;>rfl
  | jump u=>rfl
  | cond u hw hk=>rfl
theorem ok_items {items:List D} (h:∀ d∈items,Item d):okD 6 (.lst items)=true:=List.all_eq_true.mpr fun d hd=>(item_fx (h d hd)).choose_spec.2.2
end L3
namespace L3
open PySem
noncomputable def b_law_whole:FS:=
  (sRet (eAnd (eIsi .int (eVar 0)) (eNot (eIsi .bool (eVar 0)))))
noncomputable def F_law_whole:List D→Option (Bool×D):=FR 1 1 b_law_whole
theorem run_law_whole:∀ ds r,F_law_whole ds=some r→ds.length=1∧runF 1 b_law_whole ds=some r:=FR_ok
theorem go_law_whole (x0:D):F_law_whole [x0]=runF 1 b_law_whole [x0]:=rfl
noncomputable def r_law_alike_1 (F_law_alike:List D→Option (Bool×D)):FA:=(iRange (eC (.int 0)) (eL fLen (aCons (eVar 1) aNil)))
noncomputable def x_law_alike_1 (F_law_alike:List D→Option (Bool×D)):FE:=(eCall F_law_alike (aCons (e2 fIx (eVar 0) (eVar 2)) (aCons (e2 fIx (eVar 1) (eVar 2)) aNil)))
noncomputable def b_law_alike (F_law_alike:List D→Option (Bool×D)):FS:=
  (sSeq (sIf (tE (eIsi2 .tuple .list (eVar 1)))
      (sSeq (sIf (tOrF (tNotF (tE (eIsi2 .tuple .list (eVar 0)))) (tE (e2 fNe (eIsi .tuple (eVar 0)) (eIsi .tuple (eVar 1)))))
          (sRet (eC (.bl false)))
          sNext)
        (sRet (eAnd (e2 fEq (eL fLen (aCons (eVar 0) aNil)) (eL fLen (aCons (eVar 1) aNil))) (eL fAll (aCons (eLc 1 (r_law_alike_1 F_law_alike) (gVar 2) tTrue (x_law_alike_1 F_law_alike)) aNil)))))
      sNext)
    (sSeq (sIf (tE (eIsi .str (eVar 1)))
      (sRet (eAnd (eIsi .str (eVar 0)) (e2 fEq (eVar 0) (eVar 1))))
      sNext)
    (sRet (eAnd (eCall F_law_whole (aCons (eVar 0) aNil)) (e2 fEq (eVar 0) (eVar 1))))))
noncomputable def R_law_alike:Nat→List D→Option (Bool×D)
  | 0=>fun _=>none
  | k+1=>FR 2 2 (b_law_alike (R_law_alike k))
noncomputable def F_law_alike:List D→Option (Bool×D):=R_law_alike 3
theorem go_law_alike (k:Nat) (x0 x1:D):R_law_alike (k+1) [x0,x1]=runF 2 (b_law_alike (R_law_alike k)) [x0,x1]:=rfl
theorem alike_leaf {x:D} (h:leafD x=true) (n:Nat):R_law_alike (n+1) [x,x]=some (false,.bl true):=by
  cases x<;>first | (cases h; done) | skip
  · rename_i i
    have q:=int_eq (i:=i) rfl
    have w:F_law_whole [.int i]=some (false,.bl true):=by
      rw [go_law_whole]
      unfold b_law_whole
      simp! []
    rw [go_law_alike]
    unfold b_law_alike
    simp! [eIsi2,isTy,Bool.or_false,w,q]
  · rename_i t
    have q:fEq (.str t) (.str t)=some (.bl true):=by
      show some (D.bl (t == t))=_
      rw [beq_self_eq_true]
    rw [go_law_alike]
    unfold b_law_alike
    simp! [eIsi2,isTy,Bool.or_false,q]
theorem alike_seq {xs:List D} (n:Nat) (hl:xs.length≤10000) (ih:∀ x∈xs,R_law_alike n [x,x]=some (false,.bl true)):R_law_alike (n+1) [.tup xs,.tup xs]=some (false,.bl true)∧R_law_alike (n+1) [.lst xs,.lst xs]=some (false,.bl true):=by
  have q:=int_eq (i:=(xs.length:Int)) rfl
  have ay:fAll [.lst ((upTo xs.length).map fun _=>D.bl true)]=some (.bl true):=by
    show (boolsOf _).bind _=_
    have:∀ l:List D,boolsOf (l.map fun _=>D.bl true)=some (l.map fun _=>true):=fun l=>by
      induction l with
      | nil=>rfl
      | cons a l ih=>
        show (boolsOf (l.map fun _=>D.bl true)).bind _=_
        rw [ih]
        rfl
    rw [this]
    show some (D.bl _)=_
    congr 2
    refine List.all_eq_true.mpr fun b hb=>?_
    obtain ⟨_,_,rfl⟩:=List.mem_map.mp hb
    rfl
  have nb:∀ b:Bool,fNe (.bl b) (.bl b)=some (.bl false):=fun b=>by cases b<;>rfl
  refine ⟨?_,?_⟩
  · have r1:r_law_alike_1 (R_law_alike n) [some (false,.tup xs),some (false,.tup xs)]=some (upTo xs.length):=range_of (n:=(xs.length:Int)) rfl (by omega)
    have e1:=lc_map (g:=gVar 2) (e:=x_law_alike_1 (R_law_alike n)) (σ:=[some (false,.tup xs),some (false,.tup xs),none]) (fun _=>D.bl true) (ds:=upTo xs.length) fun d hd=>by
      obtain ⟨i,hi,rfl⟩:=upTo_mem hd
      have ix:fIx (.tup xs) (.int (i:Int))=some xs[i]:=at_nat (by omega) (by rw [Int.toNat_natCast]; exact List.getElem?_eq_getElem hi)
      have a:=ih _ (List.getElem_mem hi)
      generalize xs[i]=x at *
      refine ⟨_,rfl,?_⟩
      unfold x_law_alike_1
      simp! [ix,a]
    rw [go_law_alike]
    unfold b_law_alike
    generalize (upTo xs.length).map (fun _=>D.bl true)=AA at *
    generalize upTo xs.length=UU at *
    simp! [eIsi2,isTy,Bool.or_false,Bool.true_or,nb,q,r1,e1,ay]
  · have r1:r_law_alike_1 (R_law_alike n) [some (false,.lst xs),some (false,.lst xs)]=some (upTo xs.length):=range_of (n:=(xs.length:Int)) rfl (by omega)
    have e1:=lc_map (g:=gVar 2) (e:=x_law_alike_1 (R_law_alike n)) (σ:=[some (false,.lst xs),some (false,.lst xs),none]) (fun _=>D.bl true) (ds:=upTo xs.length) fun d hd=>by
      obtain ⟨i,hi,rfl⟩:=upTo_mem hd
      have ix:fIx (.lst xs) (.int (i:Int))=some xs[i]:=at_nat (by omega) (by rw [Int.toNat_natCast]; exact List.getElem?_eq_getElem hi)
      have a:=ih _ (List.getElem_mem hi)
      generalize xs[i]=x at *
      refine ⟨_,rfl,?_⟩
      unfold x_law_alike_1
      simp! [ix,a]
    rw [go_law_alike]
    unfold b_law_alike
    generalize (upTo xs.length).map (fun _=>D.bl true)=AA at *
    generalize upTo xs.length=UU at *
    simp! [eIsi2,isTy,Bool.or_true,Bool.false_or,nb,q,r1,e1,ay]
theorem alike_F {L:List D} (hl:L.length≤1000) (h:∀ d∈L,Item d):F_law_alike [.lst L,.lst L]=some (false,.bl true):=(alike_seq 2 (by omega) fun x hx=>by
  have hr:=item_row (h x hx)
  have hn:∃ xs,x=.tup xs∧xs.length≤10000∧∀ y∈xs,leafD y=true:=by
    cases x<;>first | (cases hr; done) | skip
    rename_i xs
    refine ⟨xs,rfl,?_,List.all_eq_true.mp hr⟩
    have:=h _ hx
    cases this with
    | plain h=>cases h<;>simp
    | jump u=>show 2≤10000; decide
    | cond u hw hk=>show 3≤10000; decide
    | label u=>show 2≤10000; decide
  obtain ⟨xs,rfl,l,hx⟩:=hn
  exact (alike_seq 1 l fun y hy=>alike_leaf (hx y hy) 0).1).2
end L3
namespace L3
open PySem
noncomputable def b_place_of:FSX:=
  (xSeq (sSet 2 (eCall F_label_places (aCons (eVar 0) aNil)))
    (xRaise (tE (e2 fNotIn (eVar 1) (eVar 2))) (aCons (eFstr (jCons (eC (.str "no label is called ")) (jCons (e1 fFmtR (eVar 1)) jNil))) aNil) "NoLabel"
      (xOf (sRet (e2 fIx (eVar 2) (eVar 1))))))
noncomputable def F_place_of:FX:=FRX 2 3 b_place_of
theorem go_place_of (x0 x1:D):F_place_of [x0,x1]=runX 3 b_place_of [x0,x1]:=rfl
noncomputable def b_law_class:FS:=
  (sSeq (sSetO 1 (eLst aNil))
    (sSeq (sIf (tE (e1 (fIsX "NoLabel" false) (eVar 0)))
      (sMut1 1 fApp (eC (.str "number")))
      sNext)
    (sSeq (sIf (tE (e1 (fIsX "NoLabel" false) (eVar 0)))
      (sMut1 1 fApp (eC (.str "text")))
      sNext)
    (sSeq (sIf (tE (e1 (fIsX "NoLabel" true) (eVar 0)))
      (sMut1 1 fApp (eC (.str "label")))
      sNext)
    (sSeq (sIf (tOrF (tE (e1 (fIsX "NoLabel" false) (eVar 0))) (tOrF (tE (e1 (fIsX "NoLabel" false) (eVar 0))) (tE (e1 (fIsX "NoLabel" false) (eVar 0)))))
      (sMut1 1 fApp (eC (.str "other")))
      sNext)
    (sSeq (sFreeze 1) (sSeq (sIf (tAndF (tE (e2 fEq (eL fLen (aCons (eVar 1) aNil)) (eC (.int 1)))) (tE (e1 (fIsX "NoLabel" true) (eVar 0))))
      (sRet (e2 fIx (eVar 1) (eC (.int 0))))
      sNext)
    (sRet (eC (.str "other"))))))))))
noncomputable def F_law_class:List D→Option (Bool×D):=FR 1 2 b_law_class
theorem run_law_class:∀ ds r,F_law_class ds=some r→ds.length=1∧runF 2 b_law_class ds=some r:=FR_ok
noncomputable def b_law_place:FS:=
  (sTryR 2 "NoLabel" (xPairE (eC (.str "")) (xCallE F_place_of (aCons (eVar 0) (aCons (eVar 1) aNil)))) (sRet (eTup (aCons (eCall F_law_class (aCons (eVar 2) aNil)) (aCons (eC .non) aNil)))))
noncomputable def F_law_place:List D→Option (Bool×D):=FR 2 3 b_law_place
theorem run_law_place:∀ ds r,F_law_place ds=some r→ds.length=2∧runF 3 b_law_place ds=some r:=FR_ok
theorem go_law_place (x0 x1:D):F_law_place [x0,x1]=runF 3 b_law_place [x0,x1]:=rfl
noncomputable def x_law_1:FE:=(eVar 11)
noncomputable def y_law_1:FT:=(tE (e2 fNe (e2 fIx (eVar 11) (eC (.int 0))) (eC (.str "label"))))
noncomputable def l_law_1:FS:=(sIf (tE (e2 fEq (e2 fIx (eVar 4) (eC (.int 0))) (eC (.str "label"))))
          (sPut 6 (e2 fIx (eVar 4) (eC (.int 1))) (eVar 7))
          (sSet 7 (e2 fAdd (eVar 7) (eC (.int 1)))))
noncomputable def l_law_2:FS:=(sSeq (sSet 9 (eCall F_law_place (aCons (eVar 2) (aCons (eVar 8) aNil))))
        (sIf (tOrF (tE (e2 fNe (e2 fIx (eVar 9) (eC (.int 0))) (eC (.str "")))) (tOrF (tNotF (tE (eCall F_law_whole (aCons (e2 fIx (eVar 9) (eC (.int 1))) aNil)))) (tE (e2 fNe (e2 fIx (eVar 9) (eC (.int 1))) (e2 fIx (eVar 6) (eVar 8))))))
          (sRet (eC (.bl false)))
          sNext))
noncomputable def b_law:FS:=
  (sSeq (sSet 1 (eCall F_law_program (aCons (eVar 0) (aCons (eC (.int 1)) aNil))))
    (sSeq (sSet 2 (eL fList (aCons (eVar 1) aNil)))
    (sSeq (sSet 3 (eLc 1 (iSeq (eVar 1)) (gVar 11) y_law_1 x_law_1))
    (sSeq (sSetO 5 (eCallO F_rows_of (aCons (eVar 2) aNil)))
    (sSeq (sIf (tOrF (tNotF (tE (eIsi .list (eAny 5)))) (tOrF (tNotF (tE (eCallB F_law_alike (aCons (eAny 5) (aCons (eVar 3) aNil))))) (tE (e2 fNe (eVar 2) (eVar 1)))))
      (sRet (eC (.bl false)))
      sNext)
    (sSeq (sMut1 5 fApp (eTup (aCons (eC (.str "stop")) aNil)))
    (sSeq (sFreeze 5) (sSeq (sSetO 6 (eC (.dic [] [])))
    (sSeq (sSet 7 (eC (.int 0)))
    (sSeq (sFor (iSeq (eVar 1)) (gVar 4)
      l_law_1)
    (sSeq (sFreeze 6) (sSeq (sFor (iDKeys 6) (gVar 8)
      l_law_2)
    (sSeq (sSet 10 (e2 fIx (eLst (aCons (eC (.str "strange")) (aCons (eC (.str "a")) (aCons (eC (.str "add")) (aCons (eC (.str "stop")) (aCons (eC (.str "zz")) aNil)))))) (e2 fMod (eCall F_law_cell_at (aCons (eVar 0) (aCons (eC (.int 0)) aNil))) (eC (.int 5)))))
    (sSeq (sIf (tE (e2 (fCmp fun i j=>decide (j<i)) (eL fLenD (aCons (eVar 6) aNil)) (eC (.int 0))))
      (sSet 10 (e2 fIx (eLst (aCons (eVar 10) (aCons (e2 fAdd (eSl (e2 fIx (eL fListD (aCons (eVar 6) aNil)) (eC (.int 0))) oNone (oSome (e1 fNeg (eC (.int 1))))) (eC (.str "x"))) (aCons (e2 fAdd (e2 fIx (eL fListD (aCons (eVar 6) aNil)) (eC (.int 0))) (eC (.str "y"))) aNil)))) (e2 fMod (e2 fDiv (eCall F_law_cell_at (aCons (eVar 0) (aCons (eC (.int 0)) aNil))) (eC (.int 5))) (eC (.int 3)))))
      sNext)
    (sSeq (sSet 9 (eCall F_law_place (aCons (eVar 2) (aCons (eVar 10) aNil))))
    (sSeq (sIf (tAndF (tE (e2 fNotIn (eVar 10) (eVar 6))) (tE (e2 fNe (eVar 9) (eTup (aCons (eC (.str "label")) (aCons (eC .non) aNil))))))
      (sRet (eC (.bl false)))
      sNext)
    (sRet (eAnd (e2 fEq (eVar 2) (eVar 1)) (eCall F_law_alike (aCons (eCallO F_rows_of (aCons (eVar 2) aNil)) (aCons (eVar 3) aNil)))))))))))))))))))))
theorem low_asc {t:Str} (h:lowB t=true):L2.Asc t:=fun c hc=>by
  have q:=List.all_eq_true.mp h c hc
  rw [Bool.and_eq_true] at q
  have:=of_decide_eq_true q.2
  omega
theorem len_appS (a b:Str):(a++b).length=a.length+b.length:=by
  show (a.cps++b.cps).size=_
  rw [Array.size_append]
  rfl
theorem cut_leS (z:Str) (lo hi:Option Int):(L2.cutS z lo hi).length≤z.length:=by
  show (((z.cps.toList.drop (HT.sIx z.length 0 lo)).take (HT.sIx z.length z.length hi - HT.sIx z.length 0 lo)).toArray).size≤_
  rw [List.size_toArray,List.length_take,List.length_drop]
  have:z.cps.toList.length=z.length:=Array.length_toList
  omega
noncomputable def placeD (items:List D) (t:Str):D:=match (plc t items).2 with
  | some n=>.tup [.str "",.int (n:Nat)]
  | none=>.tup [.str "label",.non]
theorem class_F:F_law_class [.exc "NoLabel"]=some (false,.str "label"):=by rfl
theorem placeof_F {items:List D} (h:∀ d∈items,Item d) (hl:items.length≤1000) {t:Str} (ht:lowB t=true) (hn:t.length≤20):F_place_of [.lst items,.str t]=some (match (plc t items).2 with
    | some n=>.inl (false,.int (n:Nat))
    | none=>.inr "NoLabel"):=by
  obtain ⟨ks,vs,e1,hk,hg⟩:=labels_F2 h hl
  have g:=hg t
  have hh:=getK_has (vs:=vs) (.inr t) hk
  rw [go_place_of]
  cases hp:(plc t items).2 with
  | some n=>
    rw [hp] at g
    rw [g] at hh
    have n1:fNotIn (.str t) (.dic ks vs)=some (.bl false):=by
      show (some (hasK ks (.inr t))).bind _=_
      rw [← hh]
      rfl
    have n2:fIx (.dic ks vs) (.str t)=some (.int (n:Nat)):=g
    unfold b_place_of
    generalize D.dic ks vs=KV at *
    simp! [runX,xSeq,xRaise,xOf,e1,n1,n2]
  | none=>
    rw [hp] at g
    rw [g] at hh
    have n1:fNotIn (.str t) (.dic ks vs)=some (.bl true):=by
      show (some (hasK ks (.inr t))).bind _=_
      rw [← hh]
      rfl
    have rl:=(low_asc ht).repr
    have fr:fFmtR (.str t)=some (.str (reprText t)):=if_pos (by omega)
    have l1:(Str.empty++("no label is called " : Str)).length≤LIM:=by decide
    have l2:(Str.empty++("no label is called " : Str)++reprText t).length≤LIM:=by
      rw [len_appS]
      have:(Str.empty++("no label is called " : Str)).length=19:=by decide
      show _≤16777216
      omega
    unfold b_place_of
    generalize D.dic ks vs=KV at *
    simp! [runX,xSeq,xRaise,xOf,e1,n1,eFstr,jCons,jNil,fr,if_pos l1,if_pos l2,Nat.reduceLeDiff,if_true]
theorem place_F {items:List D} (h:∀ d∈items,Item d) (hl:items.length≤1000) {t:Str} (ht:lowB t=true) (hn:t.length≤20):F_law_place [.lst items,.str t]=some (false,placeD items t):=by
  have e:=placeof_F h hl ht hn
  rw [go_law_place]
  unfold b_law_place placeD
  cases hp:(plc t items).2 with
  | some n=>
    rw [hp] at e
    simp! [sTryR,xPairE,xCallE,e]
  | none=>
    rw [hp] at e
    have c:=class_F
    simp! [sTryR,xPairE,xCallE,e,c,if_true]
theorem pick5 {i:Int} (h0:0≤i) (h1:i<5):∃ w:Str,(lowB w=true∧w.length≤8)∧fIx (.lst [.str "strange",.str "a",.str "add",.str "stop",.str "zz"]) (.int i)=some (.str w):=by
  have:i=0∨i=1∨i=2∨i=3∨i=4:=by omega
  rcases this with rfl | rfl | rfl | rfl | rfl
  · exact ⟨"strange",⟨by decide,by decide⟩,rfl⟩
  · exact ⟨"a",⟨by decide,by decide⟩,rfl⟩
  · exact ⟨"add",⟨by decide,by decide⟩,rfl⟩
  · exact ⟨"stop",⟨by decide,by decide⟩,rfl⟩
  · exact ⟨"zz",⟨by decide,by decide⟩,rfl⟩
theorem pickS {a b c:Str} {P:Str→Prop} (ha:P a) (hb:P b) (hc:P c) {i:Int} (h0:0≤i) (h1:i<3):∃ w:Str,P w∧fIx (.lst [.str a,.str b,.str c]) (.int i)=some (.str w):=by
  have:i=0∨i=1∨i=2:=by omega
  rcases this with rfl | rfl | rfl
  · exact ⟨a,ha,rfl⟩
  · exact ⟨b,hb,rfl⟩
  · exact ⟨c,hc,rfl⟩
theorem label_in {N:List Str} {u:Str} (h:ItemA N (labelD u)):u∈N:=by
  rcases h with h | ⟨t,ht,e⟩
  · have:=(rowA_item h).2
    cases this
  · cases e
    exact ht
theorem run_law:∀ ns:List Int,ns.length≤63→(∀ m∈ns,bitsI m≤1048576)→∃ o,runF 11 b_law [.lst (ns.map D.int)]=some (o,.bl true):=fun ns hl hb=>by
  refine ⟨false,?_⟩
  obtain ⟨N,items,P,ep⟩:=program_F ns hl (first:=1) (by decide)
  have ec:=cell_ints ns (k:=0) (by decide)
  generalize cellAt ns 0=c at ec
  generalize D.lst (ns.map D.int)=S at *
  have hI:∀ d∈items,Item d:=fun d hd=>itemA_item (P.it d hd)
  have ln:=P.ln
  have er:=rows_of_F hI
  have dI:∀ d∈items.filter (fun d=>!isL d),Item d:=fun d hd=>hI d (List.mem_filter.mp hd).1
  have dl:(items.filter fun d=>!isL d).length≤1000:=Nat.le_trans (List.length_filter_le _ _) (by omega)
  have ea:=alike_F dl dI
  have lc:lcGo (gVar 11) y_law_1 x_law_1 [some (false,S),some (false,.lst items),some (false,.lst items),none,none,none,none,none,none,none,none,none] items=some (items.filter fun d=>!isL d):=by
    have:=lc_all (g:=gVar 11) (c:=y_law_1) (e:=x_law_1) (σ:=[some (false,S),some (false,.lst items),some (false,.lst items),none,none,none,none,none,none,none,none,none]) (fun d=>!isL d) id (ds:=items) fun d hd=>by
      obtain ⟨w,a,b,_⟩:=item_fx (hI d hd)
      have n:fNe (.str w) (.str "label")=some (.bl (!isL d)):=by
        obtain ⟨k,hk,hb⟩:=bindE (show (fEqB (.str w) (.str "label")).bind (fun k=>some (D.bl k))=some (.bl (isL d)) from b)
        cases hb
        show (fEqB (.str w) (.str "label")).bind _=_
        rw [hk]
        rfl
      refine ⟨_,rfl,?_,fun _=>rfl⟩
      unfold y_law_1
      simp! [a,n]
    rw [this,List.map_id]
  have q1:=eq_self (d:=.lst items) (ok_items hI)
  have q2:=ne_self (d:=.lst items) (ok_items hI)
  have l1:fList [.lst items]=some (.lst items):=rfl
  have fl:flatD (.bl true)=true:=rfl
  have hap:=app_ok (L:=items.filter fun d=>!isL d) (r:=.tup [.str "stop"]) dl
  obtain ⟨σ',e1,ks,vs,x4,a1,a2,a3,a4,rfl⟩:=loop_by (g:=gVar 4) (b:=l_law_1) (fun i σ=>∃ ks vs x4,ks.length=vs.length∧ks.length≤i∧(∀ t,getK ks vs (.inr t)=((plc t (items.take i)).2).map fun n:Nat=>D.int n)∧(∀ k∈ks,∃ t∈N,k=.inr t)∧
      σ=[some (false,S),some (false,.lst items),some (false,.lst items),some (false,.lst (items.filter fun d=>!isL d)),x4,some (false,.lst ((items.filter fun d=>!isL d)++[.tup [.str "stop"]])),some (true,.dic ks vs),some (false,.int (((items.take i).filter fun d=>!isL d).length:Nat)),none,none,none]) (ds:=items)
    (σ:=[some (false,S),some (false,.lst items),some (false,.lst items),some (false,.lst (items.filter fun d=>!isL d)),none,some (false,.lst ((items.filter fun d=>!isL d)++[.tup [.str "stop"]])),some (true,.dic [] []),some (false,.int 0),none,none,none]) 0 ⟨[],[],none,rfl,Nat.le_refl _,fun t=>rfl,(fun k hk=>by cases hk),rfl⟩ (by
    rintro i v σ hv ⟨ks,vs,x4,a1,a2,a3,a4,rfl⟩
    rw [Nat.zero_add] at *
    have hi:i<items.length:=(List.getElem?_eq_some_iff.mp hv).1
    have ev:items[i]=v:=(List.getElem?_eq_some_iff.mp hv).2
    have ht:items.take (i+1)=items.take i++[v]:=by rw [List.take_succ_eq_append_getElem hi,ev]
    have hm:=List.mem_of_getElem? hv
    have hIv:=hI v hm
    obtain ⟨w,f0,f1,_⟩:=item_fx hIv
    generalize hn:((items.take i).filter fun d=>!isL d).length=n
    generalize ((items.filter fun d=>!isL d)++[D.tup [.str "stop"]])=FF
    generalize (items.filter fun d=>!isL d)=DD
    cases hL:isL v with
    | true=>
      obtain ⟨u,rfl⟩:=item_label hIv hL
      rw [hL] at f1
      have i1:fIx (labelD u) (.int 1)=some (.str u):=rfl
      have kd:keyD (.str u)=some (.inr u):=rfl
      have hlim:ks.length<LIM:=by show _<16777216; omega
      have hn2:((items.take (i+1)).filter fun d=>!isL d).length=n:=by
        rw [ht,List.filter_append,List.length_append,hn]
        rfl
      have hlk:(putKs ks (.inr u)).length≤i+1:=by
        unfold putKs
        split
        · omega
        · rw [List.length_append]; show _+1≤_; omega
      refine ⟨_,[some (false,S),some (false,.lst items),some (false,.lst items),some (false,.lst DD),some (false,labelD u),some (false,.lst FF),some (true,.dic (putKs ks (.inr u)) (putVs ks vs (.inr u) (.int (n:Nat)))),some (false,.int (n:Nat)),none,none,none],rfl,.inl ?_,putKs ks (.inr u),putVs ks vs (.inr u) (.int (n:Nat)),_,put_len a1,hlk,fun t=>?_,fun k hk=>?_,by rw [hn2]⟩
      · unfold l_law_1
        simp! [f0,f1,sPut,i1,kd,if_pos hlim]
      · rw [get_put a1,ht,plc_lab,hn,a3]
        by_cases e:u=t
        · rw [if_pos (by rw [e]),if_pos e]
          rfl
        · rw [if_neg (fun z=>e (Sum.inr.inj z)),if_neg e]
      · unfold putKs at hk
        split at hk
        · exact a4 k hk
        · rcases List.mem_append.mp hk with hk | hk
          · exact a4 k hk
          · exact ⟨u,label_in (P.it _ hm),List.mem_singleton.mp hk⟩
    | false=>
      rw [hL] at f1
      have hn2:((items.take (i+1)).filter fun d=>!isL d).length=n+1:=by
        rw [ht,List.filter_append,List.length_append,hn,List.filter_cons_of_pos (by rw [hL]; rfl)]
        rfl
      refine ⟨_,[some (false,S),some (false,.lst items),some (false,.lst items),some (false,.lst DD),some (false,v),some (false,.lst FF),some (true,.dic ks vs),some (false,.int ((n:Nat)+1:Int)),none,none,none],rfl,.inl ?_,ks,vs,_,a1,by omega,fun t=>?_,a4,by rw [hn2]; rfl⟩
      · unfold l_law_1
        simp! [f0,f1,add_int]
      · rw [ht,plc_row hL,a3])
  rw [Nat.zero_add,List.take_length] at a3 e1
  generalize (((items.filter fun d=>!isL d).length:Nat):Int)=num at e1
  have kok:ks.all okKey=true:=List.all_eq_true.mpr fun k hk=>by
    obtain ⟨t,ht,rfl⟩:=a4 k hk
    have:=(name_len (P.nm.ok t ht)).2.1
    exact decide_eq_true (by show _≤16777216; omega)
  have dk:iDKeys 6 [some (false,S),some (false,.lst items),some (false,.lst items),some (false,.lst (items.filter fun d=>!isL d)),x4,some (false,.lst ((items.filter fun d=>!isL d)++[.tup [.str "stop"]])),some (false,.dic ks vs),some (false,.int num),none,none,none]=some (ks.map keyOf):=by
    show (if ks.all okKey=true then _ else _)=_
    rw [if_pos kok]
  obtain ⟨σ',e2,x8,x9,rfl⟩:=loop_by (g:=gVar 8) (b:=l_law_2) (fun i σ=>∃ x8 x9,σ=[some (false,S),some (false,.lst items),some (false,.lst items),some (false,.lst (items.filter fun d=>!isL d)),x4,some (false,.lst ((items.filter fun d=>!isL d)++[.tup [.str "stop"]])),some (false,.dic ks vs),some (false,.int num),x8,x9,none]) (ds:=ks.map keyOf)
    (σ:=[some (false,S),some (false,.lst items),some (false,.lst items),some (false,.lst (items.filter fun d=>!isL d)),x4,some (false,.lst ((items.filter fun d=>!isL d)++[.tup [.str "stop"]])),some (false,.dic ks vs),some (false,.int num),none,none,none]) 0 ⟨none,none,rfl⟩ (by
    rintro i v σ hv ⟨x8,x9,rfl⟩
    rw [List.getElem?_map] at hv
    obtain ⟨k,hk,rfl⟩:∃ k,ks[i]?=some k∧v=keyOf k:=by
      cases z:ks[i]? with
      | none=>rw [z] at hv; cases hv
      | some k=>rw [z] at hv; cases hv; exact ⟨k,rfl,rfl⟩
    have km:=List.mem_of_getElem? hk
    obtain ⟨t,ht,rfl⟩:=a4 k km
    obtain ⟨_,t8,tl⟩:=name_len (P.nm.ok t ht)
    have hs:(getK ks vs (.inr t)).isSome=true:=by
      rw [getK_has _ a1]
      exact List.any_eq_true.mpr ⟨_,km,decide_eq_true rfl⟩
    have ep:=place_F hI (by omega) tl (by omega)
    have g:=a3 t
    unfold placeD at ep
    cases hp:(plc t items).2 with
    | none=>
      rw [g,hp] at hs
      cases hs
    | some n=>
      rw [hp] at g ep
      have ep:F_law_place [.lst items,.str t]=some (false,.tup [.str "",.int ((n:Nat):Int)]):=ep
      have i0:fIx (.tup [.str "",.int ((n:Nat):Int)]) (.int 0)=some (.str ""):=rfl
      have i1:fIx (.tup [.str "",.int ((n:Nat):Int)]) (.int 1)=some (.int (n:Nat)):=rfl
      have n0:fNe (.str "") (.str "")=some (.bl false):=rfl
      have n1:=ne_self (d:=.int (n:Nat)) rfl
      have w1:F_law_whole [.int (n:Nat)]=some (false,.bl true):=rfl
      have g1:fIx (.dic ks vs) (.str t)=some (.int (n:Nat)):=g
      have kt:keyOf (.inr t)=.str t:=rfl
      rw [kt]
      generalize ((items.filter fun d=>!isL d)++[D.tup [.str "stop"]])=FF at *
      generalize (items.filter fun d=>!isL d)=DD at *
      refine ⟨_,[some (false,S),some (false,.lst items),some (false,.lst items),some (false,.lst DD),x4,some (false,.lst FF),some (false,.dic ks vs),some (false,.int num),some (false,.str t),some (false,.tup [.str "",.int (n:Nat)]),none],rfl,.inl ?_,_,_,rfl⟩
      unfold l_law_2
      generalize D.tup [.str "",.int ((n:Nat):Int)]=TT at *
      generalize D.dic ks vs=KV at *
      simp! [ep,i0,i1,n0,n1,w1,g1])
  have c5:0≤c % 5∧c % 5<5:=by omega
  have c3:0≤c / 5 % 3∧c / 5 % 3<3:=by omega
  obtain ⟨w,⟨w1,w2⟩,w3⟩:=pick5 c5.1 c5.2
  have fin:∀ u:Str,lowB u=true→u.length≤20→F_law_place [.lst items,.str u]=some (false,placeD items u)∧∃ b:Bool,fNotIn (.str u) (.dic ks vs)=some (.bl b)∧(b=true→fNe (placeD items u) (.tup [.str "label",.non])=some (.bl false)):=fun u hu hl=>by
    refine ⟨place_F hI (by omega) hu hl,!hasK ks (.inr u),rfl,fun hb=>?_⟩
    have hh:=getK_has (vs:=vs) (.inr u) a1
    rw [a3] at hh
    unfold placeD
    cases hp:(plc u items).2 with
    | some n=>
      rw [hp] at hh
      rw [← hh] at hb
      cases hb
    | none=>rfl
  have ld:fLenD [.dic ks vs]=some (.int ks.length):=rfl
  cases hks:ks with
  | nil=>
    have d0:decide ((0:Int)<((ks.length:Nat):Int))=false:=by rw [hks]; rfl
    obtain ⟨p1,b,p2,p3⟩:=fin w w1 (by omega)
    generalize ((items.filter fun d=>!isL d)++[D.tup [.str "stop"]])=FF at *
    generalize (items.filter fun d=>!isL d)=DD at *
    generalize placeD items w=PD at *
    generalize ks.map keyOf=KK at *
    unfold b_law
    cases b with
    | false=>simp! [sAsg,ep,l1,lc,er,eCallB,ea,fl,if_true,q2,hap,e1,dk,e2,ec,w3,ld,d0,p1,p2,q1]
    | true=>
      have p3:=p3 rfl
      simp! [sAsg,ep,l1,lc,er,eCallB,ea,fl,if_true,q2,hap,e1,dk,e2,ec,w3,ld,d0,p1,p2,p3,q1]
  | cons k0 kr=>
    have d0:decide ((0:Int)<((ks.length:Nat):Int))=true:=by
      rw [hks]
      exact decide_eq_true (by rw [List.length_cons]; omega)
    obtain ⟨t,ht,e0⟩:=a4 k0 (by rw [hks]; exact List.mem_cons_self)
    obtain ⟨_,t8,tl⟩:=name_len (P.nm.ok t ht)
    have lk:fListD [.dic ks vs]=some (.lst (ks.map keyOf)):=if_pos ⟨by omega,kok⟩
    have k1:fIx (.lst (ks.map keyOf)) (.int 0)=some (.str t):=by rw [hks,e0]; rfl
    have s1:fSl (.str t) none (some (-1))=some (.str (L2.cutS t none (some (-1)))):=rfl
    have cl:=cut_leS t none (some (-1))
    have lx:("x" : Str).length=1:=rfl
    have ly:("y" : Str).length=1:=rfl
    have u1:fAdd (.str (L2.cutS t none (some (-1)))) (.str "x")=some (.str (L2.cutS t none (some (-1)) ++ "x")):=if_pos (by show _≤16777216; omega)
    have u2:fAdd (.str t) (.str "y")=some (.str (t ++ "y")):=if_pos (by show _≤16777216; omega)
    obtain ⟨u,⟨v1,v2⟩,v3⟩:=pickS (P:=fun w=>lowB w=true∧w.length≤20) (a:=w) (b:=L2.cutS t none (some (-1)) ++ "x") (c:=t ++ "y") ⟨w1,by omega⟩ ⟨low_app (low_cut tl _ _) (by decide),by rw [len_appS]; omega⟩ ⟨low_app tl (by decide),by rw [len_appS]; omega⟩ c3.1 c3.2
    obtain ⟨p1,b,p2,p3⟩:=fin u v1 v2
    generalize ((items.filter fun d=>!isL d)++[D.tup [.str "stop"]])=FF at *
    generalize (items.filter fun d=>!isL d)=DD at *
    generalize placeD items u=PD at *
    generalize ks.map keyOf=KK at *
    generalize L2.cutS t none (some (-1)) ++ "x" = U1 at *
    generalize t++("y" : Str)=U2 at *
    unfold b_law
    cases b with
    | false=>simp! [sAsg,ep,l1,lc,er,eCallB,ea,fl,if_true,q2,hap,e1,dk,e2,ec,w3,ld,d0,lk,k1,eSl,oNone,oSome,s1,u1,u2,v3,p1,p2,q1]
    | true=>
      have p3:=p3 rfl
      simp! [sAsg,ep,l1,lc,er,eCallB,ea,fl,if_true,q2,hap,e1,dk,e2,ec,w3,ld,d0,lk,k1,eSl,oNone,oSome,s1,u1,u2,v3,p1,p2,p3,q1]
end L3
namespace My
open PySem L2 L3
set_option maxHeartbeats 4000000
noncomputable def top (i:Nat):Stmt:=PySem.Challenge.pw_markrun_k11_rows_and_places.main.body.getD i (.Pass ⟨0,0,0,0⟩)
section
variable {P:Program} {w:World} {K:PySem.W.Frag} {mg:Str→Option Value} {base:Heap} {A_JUMPS:Addr} {C_BadNumber:Addr} {C_BadState:Addr} {C_BadText:Addr} {C_BadWords:Addr} {C_NoAddress:Addr} {C_NoLabel:Addr} {C_RunError:Addr}
noncomputable abbrev s_is_label:Stmt:=top 9
theorem sc_is_label:FnScope ["item"] ["item"] (defScope s_is_label):=⟨rfl,rfl,rfl,by decide +kernel,rfl,by decide +kernel,by decide +kernel⟩
theorem ok_is_label (d:Def K mg "is_label" s_is_label ["item"]):Has P w K mg base "is_label" ["item"] 1 (spF K F_is_label):=
  Def.okS d sc_is_label (by decide) run_is_label fun f cdv A outer s H E hr=>(sss_one (ss_ret (se_cmp (op_eqS (hu7 hr)) ok_eq (sb_of (se_ix (ix_S (hu_of hr)) ok_ix (se_var 0) se_int)) (sb_of se_str) (nomark _))))
noncomputable abbrev s_rows_of:Stmt:=top 10
theorem sc_rows_of:FnScope ["items"] ["items"] (defScope s_rows_of):=⟨rfl,rfl,rfl,by decide +kernel,rfl,by decide +kernel,by decide +kernel⟩
theorem ok_rows_of (d:Def K mg "rows_of" s_rows_of ["items"]) (h_is_label:Has P w K mg base "is_label" ["item"] 1 (spF K F_is_label)):Has P w K mg base "rows_of" ["items"] 2 (spF K F_rows_of):=
  Def.okS d sc_rows_of (by decide) run_rows_of fun f cdv A outer s H E hr=>(sss_one (ss_retO (sf_lc rfl (blk_mk (own:=["item"]) rfl) (si_seq (se_var 0)) (bg_one (fun C s H fp pn=>(qg_name (i:=1) (show (blkN ["items"] ["item"]).Nodup by decide +kernel) rfl (Or.inl rfl))) rfl) (fun C s H fp pn=>(sts_one (st_not (st_val (se_call h_is_label hr rfl (sa_cons (se_var 1) sa_nil)))))) (fun C s H fp pn=>(se_var 1)))))
noncomputable abbrev s_label_places:Stmt:=top 12
theorem sc_label_places:FnScope ["items", "places", "place", "item"] ["items"] (defScope s_label_places):=⟨rfl,rfl,rfl,by decide +kernel,rfl,by decide +kernel,by decide +kernel⟩
theorem ok_label_places (d:Def K mg "label_places" s_label_places ["items"]) (h_is_label:Has P w K mg base "is_label" ["item"] 1 (spF K F_is_label)):Has P w K mg base "label_places" ["items"] 2 (spF K F_label_places):=
  Def.okS d sc_label_places (by decide) run_label_places fun f cdv A outer s H E hr=>(sss_cons (ss_setO (i:=1) sc_label_places.nd rfl (Or.inl rfl) sf_dnew)
    (sss_cons (ss_set (i:=2) sc_label_places.nd rfl (Or.inl rfl) se_int)
    (sss_cons (ss_for PassesOwn.never rfl (si_seq (se_var 0)) (sg_var (qg_name (i:=3) sc_label_places.nd rfl (Or.inl rfl)) rfl)
      (sss_one (ss_if (st_val (se_call h_is_label hr rfl (sa_cons (se_var 3) sa_nil)))
          (sss_one (ss_dput (hu_of hr) (qv 1) (se_ix (ix_S (hu_of hr)) ok_ix (se_var 3) se_int) (se_var 2)))
          (sss_one (ss_aug (i:=2) ip_add ok_ipI sc_label_places.nd rfl (Or.inl rfl) se_int)))))
    (sss_one (ss_retV 1)))))
noncomputable abbrev s_place_of:Stmt:=top 11
theorem sc_place_of:FnScope ["items", "name", "places"] ["items", "name"] (defScope s_place_of):=⟨rfl,rfl,rfl,by decide +kernel,rfl,by decide +kernel,by decide +kernel⟩
theorem ok_place_of (d:Def K mg "place_of" s_place_of ["items", "name"]) (c_NoLabel:ExC K mg "NoLabel" C_NoLabel) (h_label_places:Has P w K mg base "label_places" ["items"] 2 (spF K F_label_places)):HasX P w K mg base "place_of" ["items", "name"] 3 (spX K mg F_place_of):=
  Def.okXS d sc_place_of (by decide) FRX_ok fun f cdv A outer s H E hr=>(sxs_cons (ss_set (i:=2) sc_place_of.nd rfl (Or.inl rfl) (se_call h_label_places hr rfl (sa_cons (se_var 0) sa_nil)))
    (sxs_raise (st_cmp (op_notInS (hu_of hr)) ok_notIn (sb_of (se_var 1)) (sb_of (se_var 2)) (by with_unfolding_all rfl)) c_NoLabel raises_def hr.hd rfl (sa_cons (se_fstr (sj_cons se_str (sj_cons (se_fmtR (se_var 1)) sj_nil))) sa_nil)
      (sxs_of (sss_one (ss_ret (se_ix (ix_S (hu_of hr)) ok_ix (se_var 2) (se_var 1)))))))
noncomputable abbrev s_law_cell_at:Stmt:=top 14
theorem sc_law_cell_at:FnScope ["_law_script", "_law_k"] ["_law_script", "_law_k"] (defScope s_law_cell_at):=⟨rfl,rfl,rfl,by decide +kernel,rfl,by decide +kernel,by decide +kernel⟩
theorem ok_law_cell_at (d:Def K mg "_law_cell_at" s_law_cell_at ["_law_script", "_law_k"]) (z_len:mg "len" = none):Has P w K mg base "_law_cell_at" ["_law_script", "_law_k"] 1 (spF K F_law_cell_at):=
  Def.okS d sc_law_cell_at (by decide) run_law_cell_at fun f cdv A outer s H E hr=>(sss_cons (ss_if (st_cmp op_lt ok_cmp (sb_of (se_var 1)) (sb_of (se_cb call_lenS ok_len rfl z_len bt_len (sab_cons (sb_of (se_var 0)) sab_nil))) (nomark _))
      (sss_one (ss_ret (se_ix (ix_S (hu_of hr)) ok_ix (se_var 0) (se_var 1))))
      sss_nil)
    (sss_one (ss_ret se_int)))
noncomputable abbrev s_law_whole:Stmt:=top 15
theorem sc_law_whole:FnScope ["_law_found"] ["_law_found"] (defScope s_law_whole):=⟨rfl,rfl,rfl,by decide +kernel,rfl,by decide +kernel,by decide +kernel⟩
theorem ok_law_whole (d:Def K mg "_law_whole" s_law_whole ["_law_found"]) (z_isinstance:mg "isinstance" = none) (z_bool:mg "bool" = none) (z_int:mg "int" = none):Has P w K mg base "_law_whole" ["_law_found"] 1 (spF K F_law_whole):=
  Def.okS d sc_law_whole (by decide) run_law_whole fun f cdv A outer s H E hr=>(sss_one (ss_ret (se_and (se_isi .int rfl rfl z_isinstance z_int boot_ty_int (sb_of (se_var 0))) (se_one (se_not (se_isi .bool rfl rfl z_isinstance z_bool boot_ty_bool (sb_of (se_var 0))))))))
noncomputable abbrev s_law_mixed:Stmt:=top 16
theorem sc_law_mixed:FnScope ["_law_cell", "_law_k", "_law_many", "_law_some", "_law_made"] ["_law_cell", "_law_k", "_law_many"] (defScope s_law_mixed):=⟨rfl,rfl,rfl,by decide +kernel,rfl,by decide +kernel,by decide +kernel⟩
theorem ok_law_mixed (d:Def K mg "_law_mixed" s_law_mixed ["_law_cell", "_law_k", "_law_many"]):Has P w K mg base "_law_mixed" ["_law_cell", "_law_k", "_law_many"] 1 (spF K F_law_mixed):=
  Def.okS d sc_law_mixed (by decide) run_law_mixed fun f cdv A outer s H E hr=>(sss_cons (ss_set (i:=3) sc_law_mixed.nd rfl (Or.inl rfl) (se_of (sf_lst (sa_ints (is:=[99991,99989,99971,99961,99929,99923,99907,99901,99881,99877,99871]) rfl) (al_le (al_ints (n:=11) (by decide)) (by decide)))))
    (sss_cons (ss_set (i:=4) sc_law_mixed.nd rfl (Or.inl rfl) (se_bin op_mod ok_mod (se_bin op_mul ok_mulR (se_bin op_addA ok_add (se_var 0) (se_bin op_mul ok_mulL se_int (se_var 1))) se_int) (se_ix (ix_S (hu_of hr)) ok_ix (se_var 3) (se_bin op_mod ok_mod (se_var 1) se_int))))
    (sss_one (ss_ret (se_bin op_mod ok_mod (se_bin op_mod ok_mod (se_bin op_addA ok_add (se_bin op_addA ok_add (se_bin op_mul ok_mulR (se_bin op_mulB ok_mulB (se_var 4) (se_var 4)) se_int) (se_var 4)) (se_var 1)) se_int) (se_var 2))))))
noncomputable abbrev s_law_letter:Stmt:=top 18
theorem sc_law_letter:FnScope ["_law_k"] ["_law_k"] (defScope s_law_letter):=⟨rfl,rfl,rfl,by decide +kernel,rfl,by decide +kernel,by decide +kernel⟩
theorem ok_law_letter (d:Def K mg "_law_letter" s_law_letter ["_law_k"]):Has P w K mg base "_law_letter" ["_law_k"] 1 (spF K F_law_letter):=
  Def.okS d sc_law_letter (by decide) run_law_letter fun f cdv A outer s H E hr=>(sss_one (ss_ret (se_ix (ix_S (hu_of hr)) ok_ix se_str (se_bin op_mod ok_mod (se_var 0) se_int))))
noncomputable abbrev s_law_names:Stmt:=top 19
theorem sc_law_names:FnScope ["_law_cell", "_law_many", "_law_size", "_law_spot", "_law_word", "_law_own", "_law_names_here", "_law_k", "_law_letter_here", "_law_name", "_law_others"] ["_law_cell", "_law_many"] (defScope s_law_names):=⟨rfl,rfl,rfl,by decide +kernel,rfl,by decide +kernel,by decide +kernel⟩
theorem ok_law_names (d:Def K mg "_law_names" s_law_names ["_law_cell", "_law_many"]) (z_range:mg "range" = none) (h_law_mixed:Has P w K mg base "_law_mixed" ["_law_cell", "_law_k", "_law_many"] 1 (spF K F_law_mixed)) (h_law_letter:Has P w K mg base "_law_letter" ["_law_k"] 1 (spF K F_law_letter)):Has P w K mg base "_law_names" ["_law_cell", "_law_many"] 2 (spF K F_law_names):=
  Def.okS d sc_law_names (by decide) run_law_names fun f cdv A outer s H E hr=>(sss_cons (ss_set (i:=2) sc_law_names.nd rfl (Or.inl rfl) (se_bin op_addA ok_add se_int (se_call h_law_mixed hr rfl (sa_cons (se_var 0) (sa_cons se_int (sa_cons se_int sa_nil))))))
    (sss_cons (ss_set (i:=3) sc_law_names.nd rfl (Or.inl rfl) (se_call h_law_mixed hr rfl (sa_cons (se_var 0) (sa_cons se_int (sa_cons (se_var 2) sa_nil)))))
    (sss_cons (ss_set (i:=4) sc_law_names.nd rfl (Or.inl rfl) (se_m_join se_str (sb_of (se_of (sf_lc rfl (blk_mk (own:=["_law_j"]) rfl) (si_range1 rfl z_range se_int) (bg_one (fun C s H fp pn=>(qg_name (i:=11) (show (blkN ["_law_cell", "_law_many", "_law_size", "_law_spot", "_law_word", "_law_own", "_law_names_here", "_law_k", "_law_letter_here", "_law_name", "_law_others"] ["_law_j"]).Nodup by decide +kernel) rfl (Or.inl rfl))) rfl) (fun C s H fp pn=>sts_nil) (fun C s H fp pn=>(se_call h_law_letter hr rfl (sa_cons (se_call h_law_mixed hr rfl (sa_cons (se_var 0) (sa_cons (se_bin op_addA ok_add se_int (se_var 11)) (sa_cons se_int sa_nil)))) sa_nil))))))))
    (sss_cons (ss_set (i:=5) sc_law_names.nd rfl (Or.inl rfl) (se_of (sf_lst (sa_cons se_str (sa_cons se_str (sa_cons se_str (sa_cons se_str (sa_cons se_str (sa_cons se_str (sa_cons se_str (sa_cons se_str sa_nil)))))))) (al_le (al_cons (al_cons (al_cons (al_cons (al_cons (al_cons (al_cons (al_cons al_nil)))))))) (by decide)))))
    (sss_cons (ss_setO (i:=6) sc_law_names.nd rfl (Or.inr rfl) (sf_lst sa_nil (al_le al_nil (by decide))))
    (sss_cons (ss_for PassesOwn.never rfl (si_range1 rfl z_range (se_var 1)) (sg_var (qg_name (i:=7) sc_law_names.nd rfl (Or.inl rfl)) rfl)
      (sss_cons (ss_set (i:=8) sc_law_names.nd rfl (Or.inl rfl) (se_call h_law_letter hr rfl (sa_cons (se_bin op_addA ok_add (se_call h_law_mixed hr rfl (sa_cons (se_var 0) (sa_cons se_int (sa_cons se_int sa_nil)))) (se_bin op_mul ok_mulL se_int (se_var 7))) sa_nil)))
        (sss_cons (ss_set (i:=9) sc_law_names.nd rfl (Or.inl rfl) (se_bin op_addA ok_add (se_bin op_addA ok_add (se_sl (se_var 4) so_none (so_some (se_var 3))) (se_var 8)) (se_sl (se_var 4) (so_some (se_bin op_addA ok_add (se_var 3) se_int)) (so_some (se_var 2)))))
        (sss_cons (ss_if (sw_t (sw_and (st_cmp (op_eqS (hu7 hr)) ok_eq (sb_of (se_call h_law_mixed hr rfl (sa_cons (se_var 0) (sa_cons se_int (sa_cons se_int sa_nil))))) (sb_of se_int) (nomark _)) (sw_and1 (st_cmp op_lt ok_cmp (sb_of (se_var 7)) (sb_of se_int) (nomark _)))))
          (sss_one (ss_set (i:=9) sc_law_names.nd rfl (Or.inl rfl) (se_ix (ix_S (hu_of hr)) ok_ix (se_of (sf_lst (sa_cons (se_sl (se_var 4) so_none (so_some (se_bin op_addA ok_add (se_var 7) se_int))) (sa_cons (se_ix (ix_S (hu_of hr)) ok_ix (se_var 5) (se_var 7)) sa_nil)) (al_le (al_cons (al_cons al_nil)) (by decide)))) (se_call h_law_mixed hr rfl (sa_cons (se_var 0) (sa_cons se_int (sa_cons se_int sa_nil)))))))
          sss_nil)
        (sss_cons (ss_if (st_cmp (op_inS (hu_of hr)) ok_in (sb_of (se_var 9)) (sb_var 6) (by with_unfolding_all rfl))
          (sss_cons (ss_set (i:=10) sc_law_names.nd rfl (Or.inl rfl) (se_bin op_addA ok_add (se_of (sf_lc rfl (blk_mk (own:=["_law_j"]) rfl) (si_range1 rfl z_range se_int) (bg_one (fun C s H fp pn=>(qg_name (i:=11) (show (blkN ["_law_cell", "_law_many", "_law_size", "_law_spot", "_law_word", "_law_own", "_law_names_here", "_law_k", "_law_letter_here", "_law_name", "_law_others"] ["_law_j"]).Nodup by decide +kernel) rfl (Or.inl rfl))) rfl) (fun C s H fp pn=>sts_nil) (fun C s H fp pn=>(se_bin op_addA ok_add (se_call h_law_letter hr rfl (sa_cons (se_var 11) sa_nil)) se_str)))) (se_of (sf_lc rfl (blk_mk (own:=["_law_j"]) rfl) (si_range1 rfl z_range se_int) (bg_one (fun C s H fp pn=>(qg_name (i:=11) (show (blkN ["_law_cell", "_law_many", "_law_size", "_law_spot", "_law_word", "_law_own", "_law_names_here", "_law_k", "_law_letter_here", "_law_name", "_law_others"] ["_law_j"]).Nodup by decide +kernel) rfl (Or.inl rfl))) rfl) (fun C s H fp pn=>sts_nil) (fun C s H fp pn=>(se_bin op_addA ok_add (se_call h_law_letter hr rfl (sa_cons (se_var 11) sa_nil)) se_str))))))
            (sss_one (ss_set (i:=9) sc_law_names.nd rfl (Or.inl rfl) (se_ix (ix_S (hu_of hr)) ok_ix (se_of (sf_lc rfl (blk_mk (own:=["_law_one"]) rfl) (si_seq (se_var 10)) (bg_one (fun C s H fp pn=>(qg_name (i:=11) (show (blkN ["_law_cell", "_law_many", "_law_size", "_law_spot", "_law_word", "_law_own", "_law_names_here", "_law_k", "_law_letter_here", "_law_name", "_law_others"] ["_law_one"]).Nodup by decide +kernel) rfl (Or.inl rfl))) rfl) (fun C s H fp pn=>(sts_one (st_cmp (op_notInS (hu_of hr)) ok_notIn (sb_of (se_var 11)) (sb_var 6) (by with_unfolding_all rfl)))) (fun C s H fp pn=>(se_var 11)))) se_int))))
          sss_nil)
        (sss_one (ss_append (qv 6) (se_var 9))))))))
    (sss_one (ss_retV 6))))))))
noncomputable abbrev s_law_shape:Stmt:=top 20
theorem sc_law_shape:FnScope ["_law_word"] ["_law_word"] (defScope s_law_shape):=⟨rfl,rfl,rfl,by decide +kernel,rfl,by decide +kernel,by decide +kernel⟩
theorem ok_law_shape (d:Def K mg "_law_shape" s_law_shape ["_law_word"]):Has P w K mg base "_law_shape" ["_law_word"] 1 (spF K F_law_shape):=
  Def.okS d sc_law_shape (by decide) run_law_shape fun f cdv A outer s H E hr=>(sss_cons (ss_if (st_cmp (op_inS (hu_of hr)) ok_in (sb_of (se_var 0)) (sb_of (se_of (sf_lst (sa_cons se_str (sa_cons se_str sa_nil)) (al_le (al_cons (al_cons al_nil)) (by decide))))) (by with_unfolding_all rfl))
      (sss_one (ss_retO (sf_lst (sa_cons se_int (sa_cons se_int sa_nil)) (al_le (al_cons (al_cons al_nil)) (by decide)))))
      sss_nil)
    (sss_cons (ss_if (st_cmp (op_inS (hu_of hr)) ok_in (sb_of (se_var 0)) (sb_of (se_of (sf_lst (sa_cons se_str (sa_cons se_str sa_nil)) (al_le (al_cons (al_cons al_nil)) (by decide))))) (by with_unfolding_all rfl))
      (sss_one (ss_retO (sf_lst (sa_cons se_int (sa_cons se_int sa_nil)) (al_le (al_cons (al_cons al_nil)) (by decide)))))
      sss_nil)
    (sss_cons (ss_if (st_cmp (op_inS (hu_of hr)) ok_in (sb_of (se_var 0)) (sb_of (se_of (sf_lst (sa_cons se_str (sa_cons se_str (sa_cons se_str (sa_cons se_str sa_nil)))) (al_le (al_cons (al_cons (al_cons (al_cons al_nil)))) (by decide))))) (by with_unfolding_all rfl))
      (sss_one (ss_retO (sf_lst (sa_ints (is:=[8,8,256]) rfl) (al_le (al_ints (n:=3) (by decide)) (by decide)))))
      sss_nil)
    (sss_cons (ss_if (st_cmp (op_inS (hu_of hr)) ok_in (sb_of (se_var 0)) (sb_of (se_of (sf_lst (sa_cons se_str (sa_cons se_str (sa_cons se_str (sa_cons se_str (sa_cons se_str (sa_cons se_str (sa_cons se_str (sa_cons se_str (sa_cons se_str sa_nil))))))))) (al_le (al_cons (al_cons (al_cons (al_cons (al_cons (al_cons (al_cons (al_cons (al_cons al_nil))))))))) (by decide))))) (by with_unfolding_all rfl))
      (sss_one (ss_retO (sf_lst (sa_cons se_int (sa_cons se_int sa_nil)) (al_le (al_cons (al_cons al_nil)) (by decide)))))
      sss_nil)
    (sss_one (ss_ret (se_ix (ix_S (hu_of hr)) ok_ix (se_of (sf_disp (sd_cons (se_of (sf_lst (sa_cons se_str sa_nil) (al_le (al_cons al_nil) (by decide)))) (sd_cons (se_of (sf_lst (sa_cons se_str sa_nil) (al_le (al_cons al_nil) (by decide)))) (sd_cons (se_of (sf_lst (sa_cons se_str (sa_cons se_str sa_nil)) (al_le (al_cons (al_cons al_nil)) (by decide)))) (sd_cons (se_of (sf_lst (sa_cons se_str (sa_cons se_str sa_nil)) (al_le (al_cons (al_cons al_nil)) (by decide)))) (sd_cons (se_of (sf_lst sa_nil (al_le al_nil (by decide)))) sd_nil))))) (by decide +kernel) (by decide))) (se_var 0))))))))
noncomputable abbrev s_law_words:Stmt:=top 21
theorem sc_law_words:FnScope ["_law_some"] [] (defScope s_law_words):=⟨rfl,rfl,rfl,by decide +kernel,rfl,by decide +kernel,by decide +kernel⟩
theorem ok_law_words (d:Def K mg "_law_words" s_law_words []):Has P w K mg base "_law_words" [] 1 (spF K F_law_words):=
  Def.okS d sc_law_words (by decide) run_law_words fun f cdv A outer s H E hr=>(sss_cons (ss_set (i:=0) sc_law_words.nd rfl (Or.inl rfl) (se_of (sf_lst (sa_cons se_str (sa_cons se_str (sa_cons se_str (sa_cons se_str (sa_cons se_str (sa_cons se_str (sa_cons se_str (sa_cons se_str (sa_cons se_str (sa_cons se_str (sa_cons se_str (sa_cons se_str (sa_cons se_str (sa_cons se_str sa_nil)))))))))))))) (al_le (al_cons (al_cons (al_cons (al_cons (al_cons (al_cons (al_cons (al_cons (al_cons (al_cons (al_cons (al_cons (al_cons (al_cons al_nil)))))))))))))) (by decide)))))
    (sss_one (ss_ret (se_bin op_addA ok_add (se_var 0) (se_of (sf_lst (sa_cons se_str (sa_cons se_str (sa_cons se_str (sa_cons se_str (sa_cons se_str (sa_cons se_str (sa_cons se_str sa_nil))))))) (al_le (al_cons (al_cons (al_cons (al_cons (al_cons (al_cons (al_cons al_nil))))))) (by decide))))))))
noncomputable abbrev s_law_part_by:Stmt:=top 22
theorem sc_law_part_by:FnScope ["_law_kind", "_law_cell", "_law_k", "_law_names_here"] ["_law_kind", "_law_cell", "_law_k", "_law_names_here"] (defScope s_law_part_by):=⟨rfl,rfl,rfl,by decide +kernel,rfl,by decide +kernel,by decide +kernel⟩
theorem ok_law_part_by (d:Def K mg "_law_part_by" s_law_part_by ["_law_kind", "_law_cell", "_law_k", "_law_names_here"]) (z_len:mg "len" = none) (h_law_mixed:Has P w K mg base "_law_mixed" ["_law_cell", "_law_k", "_law_many"] 1 (spF K F_law_mixed)):Has P w K mg base "_law_part_by" ["_law_kind", "_law_cell", "_law_k", "_law_names_here"] 2 (spF K F_law_part_by):=
  Def.okS d sc_law_part_by (by decide) run_law_part_by fun f cdv A outer s H E hr=>(sss_cons (ss_if (st_cmp (op_eqS (hu7 hr)) ok_eq (sb_of (se_var 0)) (sb_of se_str) (nomark _))
      (sss_one (ss_ret (se_ix (ix_S (hu_of hr)) ok_ix (se_var 3) (se_call h_law_mixed hr rfl (sa_cons (se_var 1) (sa_cons (se_var 2) (sa_cons (se_cb call_lenS ok_len rfl z_len bt_len (sab_cons (sb_of (se_var 3)) sab_nil)) sa_nil)))))))
      sss_nil)
    (sss_cons (ss_if (st_cmp (op_eqS (hu7 hr)) ok_eq (sb_of (se_var 0)) (sb_of se_str) (nomark _))
      (sss_one (ss_ret (se_ix (ix_S (hu_of hr)) ok_ix (se_of (sf_lst (sa_cons se_str (sa_cons se_str (sa_cons se_str sa_nil))) (al_le (al_cons (al_cons (al_cons al_nil))) (by decide)))) (se_call h_law_mixed hr rfl (sa_cons (se_var 1) (sa_cons (se_var 2) (sa_cons se_int sa_nil)))))))
      sss_nil)
    (sss_one (ss_ret (se_ix (ix_S (hu_of hr)) ok_ix (se_of (sf_lst (sa_cons se_int (sa_cons (se_bin op_sub ok_sub (se_var 0) se_int) (sa_cons (se_call h_law_mixed hr rfl (sa_cons (se_var 1) (sa_cons (se_var 2) (sa_cons (se_var 0) sa_nil)))) (sa_cons (se_call h_law_mixed hr rfl (sa_cons (se_var 1) (sa_cons (se_bin op_addA ok_add (se_var 2) se_int) (sa_cons (se_var 0) sa_nil)))) sa_nil)))) (al_le (al_cons (al_cons (al_cons (al_cons al_nil)))) (by decide)))) (se_call h_law_mixed hr rfl (sa_cons (se_var 1) (sa_cons (se_bin op_addA ok_add (se_var 2) se_int) (sa_cons se_int sa_nil)))))))))
noncomputable abbrev s_law_row_by:Stmt:=top 23
theorem sc_law_row_by:FnScope ["_law_cell", "_law_names_here", "_law_word", "_law_shape_here"] ["_law_cell", "_law_names_here"] (defScope s_law_row_by):=⟨rfl,rfl,rfl,by decide +kernel,rfl,by decide +kernel,by decide +kernel⟩
theorem ok_law_row_by (d:Def K mg "_law_row_by" s_law_row_by ["_law_cell", "_law_names_here"]) (z_len:mg "len" = none) (z_tuple:mg "tuple" = none) (z_range:mg "range" = none) (h_law_mixed:Has P w K mg base "_law_mixed" ["_law_cell", "_law_k", "_law_many"] 1 (spF K F_law_mixed)) (h_law_words:Has P w K mg base "_law_words" [] 1 (spF K F_law_words)) (h_law_shape:Has P w K mg base "_law_shape" ["_law_word"] 1 (spF K F_law_shape)) (h_law_part_by:Has P w K mg base "_law_part_by" ["_law_kind", "_law_cell", "_law_k", "_law_names_here"] 2 (spF K F_law_part_by)):Has P w K mg base "_law_row_by" ["_law_cell", "_law_names_here"] 3 (spF K F_law_row_by):=
  Def.okS d sc_law_row_by (by decide) run_law_row_by fun f cdv A outer s H E hr=>(sss_cons (ss_set (i:=2) sc_law_row_by.nd rfl (Or.inl rfl) (se_ix (ix_S (hu_of hr)) ok_ix (se_call0 h_law_words hr rfl) (se_call h_law_mixed hr rfl (sa_cons (se_var 0) (sa_cons se_int (sa_cons se_int sa_nil))))))
    (sss_cons (ss_if (st_cmp (op_eqS (hu7 hr)) ok_eq (sb_of (se_call h_law_mixed hr rfl (sa_cons (se_var 0) (sa_cons se_int (sa_cons se_int sa_nil))))) (sb_of se_int) (nomark _))
      (sss_one (ss_set (i:=2) sc_law_row_by.nd rfl (Or.inl rfl) (se_ix (ix_S (hu_of hr)) ok_ix (se_of (sf_lst (sa_cons se_str (sa_cons se_str (sa_cons se_str sa_nil))) (al_le (al_cons (al_cons (al_cons al_nil))) (by decide)))) (se_call h_law_mixed hr rfl (sa_cons (se_var 0) (sa_cons se_int (sa_cons se_int sa_nil)))))))
      sss_nil)
    (sss_cons (ss_if (sw_t (sw_and (st_cmp (op_inS (hu_of hr)) ok_in (sb_of (se_var 2)) (sb_of (se_of (sf_lst (sa_cons se_str (sa_cons se_str (sa_cons se_str sa_nil))) (al_le (al_cons (al_cons (al_cons al_nil))) (by decide))))) (by with_unfolding_all rfl)) (sw_and1 (st_cmp (op_eqS (hu7 hr)) ok_eq (sb_of (se_cb call_lenS ok_len rfl z_len bt_len (sab_cons (sb_of (se_var 1)) sab_nil))) (sb_of se_int) (nomark _)))))
      (sss_one (ss_set (i:=2) sc_law_row_by.nd rfl (Or.inl rfl) se_str))
      sss_nil)
    (sss_cons (ss_set (i:=3) sc_law_row_by.nd rfl (Or.inr rfl) (se_call h_law_shape hr rfl (sa_cons (se_var 2) sa_nil)))
    (sss_one (ss_ret (se_bin op_addA ok_add (se_tup (sa_cons (se_var 2) sa_nil) (al_le (al_cons al_nil) (by decide))) (se_ctyG call_tuple_of ok_tuple rfl z_tuple boot_ty_tuple (sa_cons (se_of (sf_lc rfl (blk_mk (own:=["_law_k"]) rfl) (si_range1 rfl z_range (se_cb call_lenS ok_len rfl z_len bt_len (sab_cons (sb_of (se_var 3)) sab_nil))) (bg_one (fun C s H fp pn=>(qg_name (i:=4) (show (blkN ["_law_cell", "_law_names_here", "_law_word", "_law_shape_here"] ["_law_k"]).Nodup by decide +kernel) rfl (Or.inl rfl))) rfl) (fun C s H fp pn=>sts_nil) (fun C s H fp pn=>(se_call h_law_part_by hr rfl (sa_cons (se_ix (ix_S (hu_of hr)) ok_ix (se_var 3) (se_var 4)) (sa_cons (se_var 0) (sa_cons (se_bin op_addA ok_add (se_bin op_mul ok_mulL se_int (se_var 4)) se_int) (sa_cons (se_var 1) sa_nil)))))))) sa_nil)))))))))
noncomputable abbrev s_law_program:Stmt:=top 24
theorem sc_law_program:FnScope ["_law_script", "_law_first", "_law_far", "_law_cells", "_law_k", "_law_many", "_law_names_here", "_law_items"] ["_law_script", "_law_first"] (defScope s_law_program):=⟨rfl,rfl,rfl,by decide +kernel,rfl,by decide +kernel,by decide +kernel⟩
theorem ok_law_program (d:Def K mg "_law_program" s_law_program ["_law_script", "_law_first"]) (z_range:mg "range" = none) (z_len:mg "len" = none) (h_law_cell_at:Has P w K mg base "_law_cell_at" ["_law_script", "_law_k"] 1 (spF K F_law_cell_at)) (h_law_mixed:Has P w K mg base "_law_mixed" ["_law_cell", "_law_k", "_law_many"] 1 (spF K F_law_mixed)) (h_law_names:Has P w K mg base "_law_names" ["_law_cell", "_law_many"] 2 (spF K F_law_names)) (h_law_row_by:Has P w K mg base "_law_row_by" ["_law_cell", "_law_names_here"] 3 (spF K F_law_row_by)):Has P w K mg base "_law_program" ["_law_script", "_law_first"] 4 (spF K F_law_program):=
  Def.okS d sc_law_program (by decide) run_law_program fun f cdv A outer s H E hr=>(sss_cons (ss_set (i:=2) sc_law_program.nd rfl (Or.inr rfl) (se_call h_law_cell_at hr rfl (sa_cons (se_var 0) (sa_cons (se_var 1) sa_nil))))
    (sss_cons (ss_set (i:=3) sc_law_program.nd rfl (Or.inl rfl) (se_sl (se_var 0) (so_some (se_bin op_addA ok_add (se_var 1) se_int)) (so_some (se_bin op_addA ok_add (se_var 1) se_int))))
    (sss_cons (ss_if (st_cmp (op_eqS (hu7 hr)) ok_eq (sb_of (se_bin op_mod ok_mod (se_var 2) se_int)) (sb_of se_int) (nomark _))
      (sss_one (ss_lc (i:=3) rfl sc_law_program.nd rfl rfl (blk_mk (own:=["_law_k"]) rfl) rfl (si_range1 rfl z_range (se_bin op_addA ok_add se_int (se_bin op_mod ok_mod (se_bin op_fdivP ok_div (se_var 2) se_int) se_int))) (bg_one (fun C s H fp pn=>(qg_name (i:=8) (show (blkN ["_law_script", "_law_first", "_law_far", "_law_cells", "_law_k", "_law_many", "_law_names_here", "_law_items"] ["_law_k"]).Nodup by decide +kernel) rfl (Or.inl rfl))) rfl) (fun C s H fp pn=>sts_nil) (fun C s H fp pn=>(se_bin op_addA ok_add (se_bin op_fdivP ok_div (se_var 2) se_int) (se_bin op_mul ok_mulL se_int (se_var 8))))))
      sss_nil)
    (sss_cons (ss_set (i:=5) sc_law_program.nd rfl (Or.inl rfl) (se_ix (ix_S (hu_of hr)) ok_ix (se_of (sf_lst (sa_ints (is:=[0,1,2,3,4,6,8,20]) rfl) (al_le (al_ints (n:=8) (by decide)) (by decide)))) (se_call h_law_mixed hr rfl (sa_cons (se_var 2) (sa_cons se_int (sa_cons se_int sa_nil))))))
    (sss_cons (ss_if (st_cmp (op_eqS (hu7 hr)) ok_eq (sb_of (se_bin op_mod ok_mod (se_var 2) se_int)) (sb_of se_int) (nomark _))
      (sss_one (ss_set (i:=5) sc_law_program.nd rfl (Or.inl rfl) se_int))
      sss_nil)
    (sss_cons (ss_set (i:=6) sc_law_program.nd rfl (Or.inr rfl) (se_call h_law_names hr rfl (sa_cons (se_bin op_fdivP ok_div (se_var 2) se_int) (sa_cons (se_var 5) sa_nil))))
    (sss_cons (ss_lcO (i:=7) rfl sc_law_program.nd rfl rfl (blk_mk (own:=["_law_cell"]) rfl) rfl (si_seq (se_var 3)) (bg_one (fun C s H fp pn=>(qg_name (i:=8) (show (blkN ["_law_script", "_law_first", "_law_far", "_law_cells", "_law_k", "_law_many", "_law_names_here", "_law_items"] ["_law_cell"]).Nodup by decide +kernel) rfl (Or.inl rfl))) rfl) (fun C s H fp pn=>sts_nil) (fun C s H fp pn=>(se_call h_law_row_by hr rfl (sa_cons (se_var 8) (sa_cons (se_var 6) sa_nil)))))
    (sss_cons (ss_for PassesOwn.never rfl (si_range1 rfl z_range (se_cb call_lenS ok_len rfl z_len bt_len (sab_cons (sb_of (se_var 6)) sab_nil))) (sg_var (qg_name (i:=4) sc_law_program.nd rfl (Or.inl rfl)) rfl)
      (sss_one (ss_insert (qv 7) (se_call h_law_mixed hr rfl (sa_cons (se_bin op_addA ok_add (se_var 2) (se_bin op_fdivP ok_div (se_var 4) se_int)) (sa_cons (se_var 4) (sa_cons (se_bin op_addA ok_add (se_cb call_lenS ok_len rfl z_len bt_len (sab_cons (sb_var 7) sab_nil)) se_int) sa_nil)))) (se_tup (sa_cons se_str (sa_cons (se_ix (ix_S (hu_of hr)) ok_ix (se_var 6) (se_var 4)) sa_nil)) (al_le (al_cons (al_cons al_nil)) (by decide))))))
    (sss_one (ss_retV 7))))))))))
noncomputable abbrev s_law_alike:Stmt:=top 25
theorem sc_law_alike:FnScope ["_law_found", "_law_due"] ["_law_found", "_law_due"] (defScope s_law_alike):=⟨rfl,rfl,rfl,by decide +kernel,rfl,by decide +kernel,by decide +kernel⟩
theorem ok_law_alike_0 (d:Def K mg "_law_alike" s_law_alike ["_law_found", "_law_due"]):Has P w K mg base "_law_alike" ["_law_found", "_law_due"] 2 (spF K (R_law_alike 0)):=
  Def.okS d sc_law_alike (by decide) (b:=fun _=>none) (fun _ _ h=>nomatch h) fun f cdv A outer s H E hr=>ss_never
theorem ok_law_alike_1 (d:Def K mg "_law_alike" s_law_alike ["_law_found", "_law_due"]) (z_isinstance:mg "isinstance" = none) (z_tuple:mg "tuple" = none) (z_list:mg "list" = none) (z_all:mg "all" = none) (z_range:mg "range" = none) (z_len:mg "len" = none) (z_str:mg "str" = none) (h_law_whole:Has P w K mg base "_law_whole" ["_law_found"] 1 (spF K F_law_whole)) (h_law_alike:Has P w K mg base "_law_alike" ["_law_found", "_law_due"] 2 (spF K (R_law_alike 0))):Has P w K mg base "_law_alike" ["_law_found", "_law_due"] 3 (spF K (R_law_alike 1)):=
  Def.okS d sc_law_alike (by decide) (b:=b_law_alike (R_law_alike 0)) FR_ok fun f cdv A outer s H E hr=>(sss_cons (ss_if (st_val (se_isi2 .tuple .list rfl rfl rfl z_isinstance z_tuple z_list boot_ty_tuple boot_ty_list (sb_of (se_var 1))))
      (sss_cons (ss_if (sw_t (sw_or (st_not (st_val (se_isi2 .tuple .list rfl rfl rfl z_isinstance z_tuple z_list boot_ty_tuple boot_ty_list (sb_of (se_var 0))))) (sw_or1 (st_cmp (op_neS (hu7 hr)) ok_ne (sb_of (se_isi .tuple rfl rfl z_isinstance z_tuple boot_ty_tuple (sb_of (se_var 0)))) (sb_of (se_isi .tuple rfl rfl z_isinstance z_tuple boot_ty_tuple (sb_of (se_var 1)))) (nomark _)))))
          (sss_one (ss_ret se_bl))
          sss_nil)
        (sss_one (ss_ret (se_and (se_cmp (op_eqS (hu7 hr)) ok_eq (sb_of (se_cb call_lenS ok_len rfl z_len bt_len (sab_cons (sb_of (se_var 0)) sab_nil))) (sb_of (se_cb call_lenS ok_len rfl z_len bt_len (sab_cons (sb_of (se_var 1)) sab_nil))) (nomark _)) (se_one (se_cb (call_all rfl) ok_all rfl z_all bt_all (sab_cons (sb_of (se_of (sf_lc rfl (blk_mk (own:=["_law_k"]) rfl) (si_range1 rfl z_range (se_cb call_lenS ok_len rfl z_len bt_len (sab_cons (sb_of (se_var 1)) sab_nil))) (bg_one (fun C s H fp pn=>(qg_name (i:=2) (show (blkN ["_law_found", "_law_due"] ["_law_k"]).Nodup by decide +kernel) rfl (Or.inl rfl))) rfl) (fun C s H fp pn=>sts_nil) (fun C s H fp pn=>(se_call h_law_alike hr rfl (sa_cons (se_ix (ix_S (hu_of hr)) ok_ix (se_var 0) (se_var 2)) (sa_cons (se_ix (ix_S (hu_of hr)) ok_ix (se_var 1) (se_var 2)) sa_nil))))))) sab_nil)))))))
      sss_nil)
    (sss_cons (ss_if (st_val (se_isi .str rfl rfl z_isinstance z_str boot_ty_str (sb_of (se_var 1))))
      (sss_one (ss_ret (se_and (se_isi .str rfl rfl z_isinstance z_str boot_ty_str (sb_of (se_var 0))) (se_one (se_cmp (op_eqS (hu7 hr)) ok_eq (sb_of (se_var 0)) (sb_of (se_var 1)) (nomark _))))))
      sss_nil)
    (sss_one (ss_ret (se_and (se_call h_law_whole hr rfl (sa_cons (se_var 0) sa_nil)) (se_one (se_cmp (op_eqS (hu7 hr)) ok_eq (sb_of (se_var 0)) (sb_of (se_var 1)) (nomark _))))))))
theorem ok_law_alike_2 (d:Def K mg "_law_alike" s_law_alike ["_law_found", "_law_due"]) (z_isinstance:mg "isinstance" = none) (z_tuple:mg "tuple" = none) (z_list:mg "list" = none) (z_all:mg "all" = none) (z_range:mg "range" = none) (z_len:mg "len" = none) (z_str:mg "str" = none) (h_law_whole:Has P w K mg base "_law_whole" ["_law_found"] 1 (spF K F_law_whole)) (h_law_alike:Has P w K mg base "_law_alike" ["_law_found", "_law_due"] 3 (spF K (R_law_alike 1))):Has P w K mg base "_law_alike" ["_law_found", "_law_due"] 4 (spF K (R_law_alike 2)):=
  Def.okS d sc_law_alike (by decide) (b:=b_law_alike (R_law_alike 1)) FR_ok fun f cdv A outer s H E hr=>(sss_cons (ss_if (st_val (se_isi2 .tuple .list rfl rfl rfl z_isinstance z_tuple z_list boot_ty_tuple boot_ty_list (sb_of (se_var 1))))
      (sss_cons (ss_if (sw_t (sw_or (st_not (st_val (se_isi2 .tuple .list rfl rfl rfl z_isinstance z_tuple z_list boot_ty_tuple boot_ty_list (sb_of (se_var 0))))) (sw_or1 (st_cmp (op_neS (hu7 hr)) ok_ne (sb_of (se_isi .tuple rfl rfl z_isinstance z_tuple boot_ty_tuple (sb_of (se_var 0)))) (sb_of (se_isi .tuple rfl rfl z_isinstance z_tuple boot_ty_tuple (sb_of (se_var 1)))) (nomark _)))))
          (sss_one (ss_ret se_bl))
          sss_nil)
        (sss_one (ss_ret (se_and (se_cmp (op_eqS (hu7 hr)) ok_eq (sb_of (se_cb call_lenS ok_len rfl z_len bt_len (sab_cons (sb_of (se_var 0)) sab_nil))) (sb_of (se_cb call_lenS ok_len rfl z_len bt_len (sab_cons (sb_of (se_var 1)) sab_nil))) (nomark _)) (se_one (se_cb (call_all rfl) ok_all rfl z_all bt_all (sab_cons (sb_of (se_of (sf_lc rfl (blk_mk (own:=["_law_k"]) rfl) (si_range1 rfl z_range (se_cb call_lenS ok_len rfl z_len bt_len (sab_cons (sb_of (se_var 1)) sab_nil))) (bg_one (fun C s H fp pn=>(qg_name (i:=2) (show (blkN ["_law_found", "_law_due"] ["_law_k"]).Nodup by decide +kernel) rfl (Or.inl rfl))) rfl) (fun C s H fp pn=>sts_nil) (fun C s H fp pn=>(se_call h_law_alike hr rfl (sa_cons (se_ix (ix_S (hu_of hr)) ok_ix (se_var 0) (se_var 2)) (sa_cons (se_ix (ix_S (hu_of hr)) ok_ix (se_var 1) (se_var 2)) sa_nil))))))) sab_nil)))))))
      sss_nil)
    (sss_cons (ss_if (st_val (se_isi .str rfl rfl z_isinstance z_str boot_ty_str (sb_of (se_var 1))))
      (sss_one (ss_ret (se_and (se_isi .str rfl rfl z_isinstance z_str boot_ty_str (sb_of (se_var 0))) (se_one (se_cmp (op_eqS (hu7 hr)) ok_eq (sb_of (se_var 0)) (sb_of (se_var 1)) (nomark _))))))
      sss_nil)
    (sss_one (ss_ret (se_and (se_call h_law_whole hr rfl (sa_cons (se_var 0) sa_nil)) (se_one (se_cmp (op_eqS (hu7 hr)) ok_eq (sb_of (se_var 0)) (sb_of (se_var 1)) (nomark _))))))))
theorem ok_law_alike_3 (d:Def K mg "_law_alike" s_law_alike ["_law_found", "_law_due"]) (z_isinstance:mg "isinstance" = none) (z_tuple:mg "tuple" = none) (z_list:mg "list" = none) (z_all:mg "all" = none) (z_range:mg "range" = none) (z_len:mg "len" = none) (z_str:mg "str" = none) (h_law_whole:Has P w K mg base "_law_whole" ["_law_found"] 1 (spF K F_law_whole)) (h_law_alike:Has P w K mg base "_law_alike" ["_law_found", "_law_due"] 4 (spF K (R_law_alike 2))):Has P w K mg base "_law_alike" ["_law_found", "_law_due"] 5 (spF K (R_law_alike 3)):=
  Def.okS d sc_law_alike (by decide) (b:=b_law_alike (R_law_alike 2)) FR_ok fun f cdv A outer s H E hr=>(sss_cons (ss_if (st_val (se_isi2 .tuple .list rfl rfl rfl z_isinstance z_tuple z_list boot_ty_tuple boot_ty_list (sb_of (se_var 1))))
      (sss_cons (ss_if (sw_t (sw_or (st_not (st_val (se_isi2 .tuple .list rfl rfl rfl z_isinstance z_tuple z_list boot_ty_tuple boot_ty_list (sb_of (se_var 0))))) (sw_or1 (st_cmp (op_neS (hu7 hr)) ok_ne (sb_of (se_isi .tuple rfl rfl z_isinstance z_tuple boot_ty_tuple (sb_of (se_var 0)))) (sb_of (se_isi .tuple rfl rfl z_isinstance z_tuple boot_ty_tuple (sb_of (se_var 1)))) (nomark _)))))
          (sss_one (ss_ret se_bl))
          sss_nil)
        (sss_one (ss_ret (se_and (se_cmp (op_eqS (hu7 hr)) ok_eq (sb_of (se_cb call_lenS ok_len rfl z_len bt_len (sab_cons (sb_of (se_var 0)) sab_nil))) (sb_of (se_cb call_lenS ok_len rfl z_len bt_len (sab_cons (sb_of (se_var 1)) sab_nil))) (nomark _)) (se_one (se_cb (call_all rfl) ok_all rfl z_all bt_all (sab_cons (sb_of (se_of (sf_lc rfl (blk_mk (own:=["_law_k"]) rfl) (si_range1 rfl z_range (se_cb call_lenS ok_len rfl z_len bt_len (sab_cons (sb_of (se_var 1)) sab_nil))) (bg_one (fun C s H fp pn=>(qg_name (i:=2) (show (blkN ["_law_found", "_law_due"] ["_law_k"]).Nodup by decide +kernel) rfl (Or.inl rfl))) rfl) (fun C s H fp pn=>sts_nil) (fun C s H fp pn=>(se_call h_law_alike hr rfl (sa_cons (se_ix (ix_S (hu_of hr)) ok_ix (se_var 0) (se_var 2)) (sa_cons (se_ix (ix_S (hu_of hr)) ok_ix (se_var 1) (se_var 2)) sa_nil))))))) sab_nil)))))))
      sss_nil)
    (sss_cons (ss_if (st_val (se_isi .str rfl rfl z_isinstance z_str boot_ty_str (sb_of (se_var 1))))
      (sss_one (ss_ret (se_and (se_isi .str rfl rfl z_isinstance z_str boot_ty_str (sb_of (se_var 0))) (se_one (se_cmp (op_eqS (hu7 hr)) ok_eq (sb_of (se_var 0)) (sb_of (se_var 1)) (nomark _))))))
      sss_nil)
    (sss_one (ss_ret (se_and (se_call h_law_whole hr rfl (sa_cons (se_var 0) sa_nil)) (se_one (se_cmp (op_eqS (hu7 hr)) ok_eq (sb_of (se_var 0)) (sb_of (se_var 1)) (nomark _))))))))
noncomputable abbrev s_law_class:Stmt:=top 17
theorem sc_law_class:FnScope ["_law_e", "_law_words_here"] ["_law_e"] (defScope s_law_class):=⟨rfl,rfl,rfl,by decide +kernel,rfl,by decide +kernel,by decide +kernel⟩
theorem ok_law_class (d:Def K mg "_law_class" s_law_class ["_law_e"]) (z_isinstance:mg "isinstance" = none) (z_ValueError:mg "ValueError" = none) (z_len:mg "len" = none) (c_NoLabel:ExC K mg "NoLabel" C_NoLabel) (c_BadNumber:ExC K mg "BadNumber" C_BadNumber) (c_BadText:ExC K mg "BadText" C_BadText) (c_NoAddress:ExC K mg "NoAddress" C_NoAddress) (c_BadState:ExC K mg "BadState" C_BadState) (c_BadWords:ExC K mg "BadWords" C_BadWords) (y_NoLabel:PySem.W.nsIn K mainGlobals "NoLabel" = some (some (.ref C_NoLabel))) (x_NoLabel:ExK K C_NoLabel) (t_NoLabel_BadNumber:PySem.W.kitOne K (.ref C_NoLabel) (.ref C_BadNumber)=some false) (t_NoLabel_BadText:PySem.W.kitOne K (.ref C_NoLabel) (.ref C_BadText)=some false) (t_NoLabel_NoLabel:PySem.W.kitOne K (.ref C_NoLabel) (.ref C_NoLabel)=some true) (t_NoLabel_NoAddress:PySem.W.kitOne K (.ref C_NoLabel) (.ref C_NoAddress)=some false) (t_NoLabel_BadState:PySem.W.kitOne K (.ref C_NoLabel) (.ref C_BadState)=some false) (t_NoLabel_BadWords:PySem.W.kitOne K (.ref C_NoLabel) (.ref C_BadWords)=some false) (t_NoLabel_ValueError:PySem.W.kitOne K (.ref C_NoLabel) (.type "ValueError")=some true):HasH P w K mg base "_law_class" ["_law_e"] 1 (spF K F_law_class):=
  Def.okHS d sc_law_class (by decide) run_law_class fun f cdv A outer s H E hr=>(sss_cons (ss_setO (i:=1) sc_law_class.nd rfl (Or.inl rfl) (sf_lst sa_nil (al_le al_nil (by decide))))
    (sss_cons (ss_if (st_val (se_isx rfl z_isinstance y_NoLabel x_NoLabel c_BadNumber rfl t_NoLabel_BadNumber (se_var 0)))
      (sss_one (ss_append (qv 1) se_str))
      sss_nil)
    (sss_cons (ss_if (st_val (se_isx rfl z_isinstance y_NoLabel x_NoLabel c_BadText rfl t_NoLabel_BadText (se_var 0)))
      (sss_one (ss_append (qv 1) se_str))
      sss_nil)
    (sss_cons (ss_if (st_val (se_isx rfl z_isinstance y_NoLabel x_NoLabel c_NoLabel rfl t_NoLabel_NoLabel (se_var 0)))
      (sss_one (ss_append (qv 1) se_str))
      sss_nil)
    (sss_cons (ss_if (sw_t (sw_or (st_val (se_isx rfl z_isinstance y_NoLabel x_NoLabel c_BadWords rfl t_NoLabel_BadWords (se_var 0))) (sw_or (st_val (se_isx rfl z_isinstance y_NoLabel x_NoLabel c_BadState rfl t_NoLabel_BadState (se_var 0))) (sw_or1 (st_val (se_isx rfl z_isinstance y_NoLabel x_NoLabel c_NoAddress rfl t_NoLabel_NoAddress (se_var 0)))))))
      (sss_one (ss_append (qv 1) se_str))
      sss_nil)
    (sss_freeze 1 (sss_cons (ss_if (sw_t (sw_and (st_cmp (op_eqS (hu7H hr)) ok_eq (sb_of (se_cb call_lenS ok_len rfl z_len bt_len (sab_cons (sb_of (se_var 1)) sab_nil))) (sb_of se_int) (nomark _)) (sw_and1 (st_val (se_isxT rfl z_isinstance y_NoLabel x_NoLabel rfl z_ValueError boot_ty_ValueError t_NoLabel_ValueError (se_var 0))))))
      (sss_one (ss_ret (se_ix (ix_S (hu_ofH hr)) ok_ix (se_var 1) se_int)))
      sss_nil)
    (sss_one (ss_ret se_str)))))))))
noncomputable abbrev s_law_place:Stmt:=top 26
theorem sc_law_place:FnScope ["_law_items", "_law_name", "_law_e"] ["_law_items", "_law_name"] (defScope s_law_place):=⟨rfl,rfl,rfl,by decide +kernel,rfl,by decide +kernel,by decide +kernel⟩
theorem ok_law_place (d:Def K mg "_law_place" s_law_place ["_law_items", "_law_name"]) (c_RunError:ExC K mg "RunError" C_RunError) (c_NoLabel:ExC K mg "NoLabel" C_NoLabel) (y_NoLabel:PySem.W.nsIn K mainGlobals "NoLabel" = some (some (.ref C_NoLabel))) (m_NoLabel_RunError:PySem.W.exmOne K (.ref C_NoLabel) (.ref C_RunError)=some true) (h_place_of:HasX P w K mg base "place_of" ["items", "name"] 3 (spX K mg F_place_of)) (h_law_class:HasH P w K mg base "_law_class" ["_law_e"] 1 (spF K F_law_class)):Has P w K mg base "_law_place" ["_law_items", "_law_name"] 4 (spF K F_law_place):=
  Def.okS d sc_law_place (by decide) run_law_place fun f cdv A outer s H E hr=>(sss_one (ss_tryR (i:=2) rfl rfl rfl hr c_RunError.at_ rfl c_NoLabel.at_ y_NoLabel m_NoLabel_RunError sc_law_place.nd rfl rfl (sx_pair rfl se_str (sx_call rfl h_place_of hr rfl (sa_cons (se_var 0) (sa_cons (se_var 1) sa_nil)))) (fun a=>(sss_one (ss_ret (se_tup (sa_cons (se_callH h_law_class (hr.marked _) rfl (sa_cons (se_var 2) sa_nil)) (sa_cons se_non sa_nil)) (al_le (al_cons (al_cons al_nil)) (by decide))))))))
noncomputable abbrev s_law:Stmt:=top 27
theorem sc_law:FnScope ["_law_script", "_law_items", "_law_handed", "_law_due", "_law_item", "_law_found", "_law_places", "_law_number", "_law_name", "_law_told", "_law_word"] ["_law_script"] (defScope s_law):=⟨rfl,rfl,rfl,by decide +kernel,rfl,by decide +kernel,by decide +kernel⟩
theorem ok_law {f:Addr} {fd:FuncData} (d:Fun K "law" "law" s_law f fd) (z_list:mg "list" = none) (z_isinstance:mg "isinstance" = none) (z_len:mg "len" = none) (h_law_program:Has P w K mg base "_law_program" ["_law_script", "_law_first"] 4 (spF K F_law_program)) (h_rows_of:Has P w K mg base "rows_of" ["items"] 2 (spF K F_rows_of)) (h_law_alike:Has P w K mg base "_law_alike" ["_law_found", "_law_due"] 5 (spF K F_law_alike)) (h_law_place:Has P w K mg base "_law_place" ["_law_items", "_law_name"] 4 (spF K F_law_place)) (h_law_whole:Has P w K mg base "_law_whole" ["_law_found"] 1 (spF K F_law_whole)) (h_law_cell_at:Has P w K mg base "_law_cell_at" ["_law_script", "_law_k"] 1 (spF K F_law_cell_at)):FnOk P w K mg base CX0 6 f fd ["_law_script"] (spLawB K):=
  law_okB d sc_law (by decide) run_law fun cdv A outer s H E hr=>(sss_cons (ss_set (i:=1) sc_law.nd rfl (Or.inl rfl) (se_call h_law_program hr rfl (sa_cons (se_var 0) (sa_cons se_int sa_nil))))
    (sss_cons (ss_set (i:=2) sc_law.nd rfl (Or.inl rfl) (se_of (sf_list rfl z_list (sa_cons (se_var 1) sa_nil))))
    (sss_cons (ss_lc (i:=3) rfl sc_law.nd rfl rfl (blk_mk (own:=["_law_item"]) rfl) rfl (si_seq (se_var 1)) (bg_one (fun C s H fp pn=>(qg_name (i:=11) (show (blkN ["_law_script", "_law_items", "_law_handed", "_law_due", "_law_item", "_law_found", "_law_places", "_law_number", "_law_name", "_law_told", "_law_word"] ["_law_item"]).Nodup by decide +kernel) rfl (Or.inl rfl))) rfl) (fun C s H fp pn=>(sts_one (st_cmp (op_neS (hu7 hr)) ok_ne (sb_of (se_ix (ix_S (hu_of hr)) ok_ix (se_var 11) se_int)) (sb_of se_str) (nomark _)))) (fun C s H fp pn=>(se_var 11)))
    (sss_cons (ss_setO (i:=5) sc_law.nd rfl (Or.inl rfl) (sf_call h_rows_of hr rfl (sa_cons (se_var 2) sa_nil)))
    (sss_cons (ss_if (sw_t (sw_or (st_not (st_val (se_isi .list rfl rfl z_isinstance z_list boot_ty_list (sb_var 5)))) (sw_or (st_not (st_val (se_callB h_law_alike hr rfl (sab_cons (sb_var 5) (sab_cons (sb_of (se_var 3)) sab_nil))))) (sw_or1 (st_cmp (op_neS (hu7 hr)) ok_ne (sb_of (se_var 2)) (sb_of (se_var 1)) (nomark _))))))
      (sss_one (ss_ret se_bl))
      sss_nil)
    (sss_cons (ss_append (qv 5) (se_tup (sa_cons se_str sa_nil) (al_le (al_cons al_nil) (by decide))))
    (sss_freeze 5 (sss_cons (ss_setO (i:=6) sc_law.nd rfl (Or.inl rfl) sf_dnew)
    (sss_cons (ss_set (i:=7) sc_law.nd rfl (Or.inl rfl) se_int)
    (sss_cons (ss_for PassesOwn.never rfl (si_seq (se_var 1)) (sg_var (qg_name (i:=4) sc_law.nd rfl (Or.inl rfl)) rfl)
      (sss_one (ss_if (st_cmp (op_eqS (hu7 hr)) ok_eq (sb_of (se_ix (ix_S (hu_of hr)) ok_ix (se_var 4) se_int)) (sb_of se_str) (nomark _))
          (sss_one (ss_dput (hu_of hr) (qv 6) (se_ix (ix_S (hu_of hr)) ok_ix (se_var 4) se_int) (se_var 7)))
          (sss_one (ss_set (i:=7) sc_law.nd rfl (Or.inl rfl) (se_bin op_addA ok_add (se_var 7) se_int))))))
    (sss_freeze 6 (sss_cons (ss_scope (ss_forK PassesOwn.never rfl (si_dkeys (i:=6) rfl (by first | exact Or.inl rfl | exact Or.inr (Or.inl rfl) | exact Or.inr (Or.inr rfl))) (sg_var (qg_name (i:=8) sc_law.nd rfl (Or.inl rfl)) rfl)
      (sss_cons (ss_set (i:=9) sc_law.nd rfl (Or.inl rfl) (se_call h_law_place hr rfl (sa_cons (se_var 2) (sa_cons (se_var 8) sa_nil))))
        (sss_one (ss_if (sw_t (sw_or (st_cmp (op_neS (hu7 hr)) ok_ne (sb_of (se_ix (ix_S (hu_of hr)) ok_ix (se_var 9) se_int)) (sb_of se_str) (nomark _)) (sw_or (st_not (st_val (se_call h_law_whole hr rfl (sa_cons (se_ix (ix_S (hu_of hr)) ok_ix (se_var 9) se_int) sa_nil)))) (sw_or1 (st_cmp (op_neS (hu7 hr)) ok_ne (sb_of (se_ix (ix_S (hu_of hr)) ok_ix (se_var 9) se_int)) (sb_of (se_ix (ix_S (hu_of hr)) ok_ix (se_var 6) (se_var 8))) (nomark _))))))
          (sss_one (ss_ret se_bl))
          sss_nil)))) (dicAt_for (dicAt_keys 6)))
    (sss_cons (ss_set (i:=10) sc_law.nd rfl (Or.inl rfl) (se_ix (ix_S (hu_of hr)) ok_ix (se_of (sf_lst (sa_cons se_str (sa_cons se_str (sa_cons se_str (sa_cons se_str (sa_cons se_str sa_nil))))) (al_le (al_cons (al_cons (al_cons (al_cons (al_cons al_nil))))) (by decide)))) (se_bin op_mod ok_mod (se_call h_law_cell_at hr rfl (sa_cons (se_var 0) (sa_cons se_int sa_nil))) se_int)))
    (sss_cons (ss_if (st_cmp op_gt ok_cmp (sb_of (se_cb call_lenR ok_lenD rfl z_len bt_len (sab_cons (sb_of (se_var 6)) sab_nil))) (sb_of se_int) (nomark _))
      (sss_one (ss_set (i:=10) sc_law.nd rfl (Or.inl rfl) (se_ix (ix_S (hu_of hr)) ok_ix (se_of (sf_lst (sa_cons (se_var 10) (sa_cons (se_bin op_addA ok_add (se_sl (se_ix (ix_S (hu_of hr)) ok_ix (se_of (sf_listD rfl rfl z_list (sa_cons (se_var 6) sa_nil))) se_int) so_none (so_some (se_un un_neg unI_neg se_int))) se_str) (sa_cons (se_bin op_addA ok_add (se_ix (ix_S (hu_of hr)) ok_ix (se_of (sf_listD rfl rfl z_list (sa_cons (se_var 6) sa_nil))) se_int) se_str) sa_nil))) (al_le (al_cons (al_cons (al_cons al_nil))) (by decide)))) (se_bin op_mod ok_mod (se_bin op_fdivP ok_div (se_call h_law_cell_at hr rfl (sa_cons (se_var 0) (sa_cons se_int sa_nil))) se_int) se_int))))
      sss_nil)
    (sss_cons (ss_set (i:=9) sc_law.nd rfl (Or.inl rfl) (se_call h_law_place hr rfl (sa_cons (se_var 2) (sa_cons (se_var 10) sa_nil))))
    (sss_cons (ss_if (sw_t (sw_and (st_cmp (op_notInS (hu_of hr)) ok_notIn (sb_of (se_var 10)) (sb_of (se_var 6)) (by with_unfolding_all rfl)) (sw_and1 (st_cmp (op_neS (hu7 hr)) ok_ne (sb_of (se_var 9)) (sb_of (se_tup (sa_cons se_str (sa_cons se_non sa_nil)) (al_le (al_cons (al_cons al_nil)) (by decide)))) (nomark _)))))
      (sss_one (ss_ret se_bl))
      sss_nil)
    (sss_one (ss_ret (se_and (se_cmp (op_eqS (hu7 hr)) ok_eq (sb_of (se_var 2)) (sb_of (se_var 1)) (nomark _)) (se_one (se_call h_law_alike hr rfl (sa_cons (se_of (sf_call h_rows_of hr rfl (sa_cons (se_var 2) sa_nil))) (sa_cons (se_var 3) sa_nil)))))))))))))))))))))))
end
theorem all_mk {l:PySem.W.OpenLaw} {w:World} {K:PySem.W.Frag} {h:Heap} {mg:Str→Option Value} {fa:Addr} (X:K.In h) (G:h.Ns mainGlobals mg) (hfa:mg "law" = some (.ref fa))
    {f0:Addr} {od0 an0:Option Addr} {sl0:Array (Option Value)} {oc0 kV0 dc0 pm0 cd0 ct0:Value}
    {f1:Addr} {od1 an1:Option Addr} {sl1:Array (Option Value)} {oc1 kV1 dc1 pm1 cd1 ct1:Value}
    {f2:Addr} {od2 an2:Option Addr} {sl2:Array (Option Value)} {oc2 kV2 dc2 pm2 cd2 ct2:Value}
    {f3:Addr} {od3 an3:Option Addr} {sl3:Array (Option Value)} {oc3 kV3 dc3 pm3 cd3 ct3:Value}
    {f4:Addr} {od4 an4:Option Addr} {sl4:Array (Option Value)} {oc4 kV4 dc4 pm4 cd4 ct4:Value}
    {f5:Addr} {od5 an5:Option Addr} {sl5:Array (Option Value)} {oc5 kV5 dc5 pm5 cd5 ct5:Value}
    {f6:Addr} {od6 an6:Option Addr} {sl6:Array (Option Value)} {oc6 kV6 dc6 pm6 cd6 ct6:Value}
    {f7:Addr} {od7 an7:Option Addr} {sl7:Array (Option Value)} {oc7 kV7 dc7 pm7 cd7 ct7:Value}
    {f8:Addr} {od8 an8:Option Addr} {sl8:Array (Option Value)} {oc8 kV8 dc8 pm8 cd8 ct8:Value}
    {f9:Addr} {od9 an9:Option Addr} {sl9:Array (Option Value)} {oc9 kV9 dc9 pm9 cd9 ct9:Value}
    {f10:Addr} {od10 an10:Option Addr} {sl10:Array (Option Value)} {oc10 kV10 dc10 pm10 cd10 ct10:Value}
    {f11:Addr} {od11 an11:Option Addr} {sl11:Array (Option Value)} {oc11 kV11 dc11 pm11 cd11 ct11:Value}
    {f12:Addr} {od12 an12:Option Addr} {sl12:Array (Option Value)} {oc12 kV12 dc12 pm12 cd12 ct12:Value}
    {f13:Addr} {od13 an13:Option Addr} {sl13:Array (Option Value)} {oc13 kV13 dc13 pm13 cd13 ct13:Value}
    {f14:Addr} {od14 an14:Option Addr} {sl14:Array (Option Value)} {oc14 kV14 dc14 pm14 cd14 ct14:Value}
    {f15:Addr} {od15 an15:Option Addr} {sl15:Array (Option Value)} {oc15 kV15 dc15 pm15 cd15 ct15:Value}
    {f16:Addr} {od16 an16:Option Addr} {sl16:Array (Option Value)} {oc16 kV16 dc16 pm16 cd16 ct16:Value}
    {f17:Addr} {od17 an17:Option Addr} {sl17:Array (Option Value)} {oc17 kV17 dc17 pm17 cd17 ct17:Value}
    (a0:PySem.W.nsIn K mainGlobals "is_label" = some (some (.ref f0)))
    (l0:K.lookup f0=fnO "is_label" s_is_label oc0 od0 sl0 kV0 dc0 pm0 an0 cd0 ct0)
    (c0:PySem.W.codeIn K cd0 "is_label" = true) (k0:PySem.W.keepIn K (.ref f0)=true)
    (a1:PySem.W.nsIn K mainGlobals "rows_of" = some (some (.ref f1)))
    (l1:K.lookup f1=fnO "rows_of" s_rows_of oc1 od1 sl1 kV1 dc1 pm1 an1 cd1 ct1)
    (c1:PySem.W.codeIn K cd1 "rows_of" = true) (k1:PySem.W.keepIn K (.ref f1)=true)
    (a2:PySem.W.nsIn K mainGlobals "label_places" = some (some (.ref f2)))
    (l2:K.lookup f2=fnO "label_places" s_label_places oc2 od2 sl2 kV2 dc2 pm2 an2 cd2 ct2)
    (c2:PySem.W.codeIn K cd2 "label_places" = true) (k2:PySem.W.keepIn K (.ref f2)=true)
    (a3:PySem.W.nsIn K mainGlobals "place_of" = some (some (.ref f3)))
    (l3:K.lookup f3=fnO "place_of" s_place_of oc3 od3 sl3 kV3 dc3 pm3 an3 cd3 ct3)
    (c3:PySem.W.codeIn K cd3 "place_of" = true) (k3:PySem.W.keepIn K (.ref f3)=true)
    (a4:PySem.W.nsIn K mainGlobals "_law_cell_at" = some (some (.ref f4)))
    (l4:K.lookup f4=fnO "_law_cell_at" s_law_cell_at oc4 od4 sl4 kV4 dc4 pm4 an4 cd4 ct4)
    (c4:PySem.W.codeIn K cd4 "_law_cell_at" = true) (k4:PySem.W.keepIn K (.ref f4)=true)
    (a5:PySem.W.nsIn K mainGlobals "_law_whole" = some (some (.ref f5)))
    (l5:K.lookup f5=fnO "_law_whole" s_law_whole oc5 od5 sl5 kV5 dc5 pm5 an5 cd5 ct5)
    (c5:PySem.W.codeIn K cd5 "_law_whole" = true) (k5:PySem.W.keepIn K (.ref f5)=true)
    (a6:PySem.W.nsIn K mainGlobals "_law_mixed" = some (some (.ref f6)))
    (l6:K.lookup f6=fnO "_law_mixed" s_law_mixed oc6 od6 sl6 kV6 dc6 pm6 an6 cd6 ct6)
    (c6:PySem.W.codeIn K cd6 "_law_mixed" = true) (k6:PySem.W.keepIn K (.ref f6)=true)
    (a7:PySem.W.nsIn K mainGlobals "_law_letter" = some (some (.ref f7)))
    (l7:K.lookup f7=fnO "_law_letter" s_law_letter oc7 od7 sl7 kV7 dc7 pm7 an7 cd7 ct7)
    (c7:PySem.W.codeIn K cd7 "_law_letter" = true) (k7:PySem.W.keepIn K (.ref f7)=true)
    (a8:PySem.W.nsIn K mainGlobals "_law_names" = some (some (.ref f8)))
    (l8:K.lookup f8=fnO "_law_names" s_law_names oc8 od8 sl8 kV8 dc8 pm8 an8 cd8 ct8)
    (c8:PySem.W.codeIn K cd8 "_law_names" = true) (k8:PySem.W.keepIn K (.ref f8)=true)
    (a9:PySem.W.nsIn K mainGlobals "_law_shape" = some (some (.ref f9)))
    (l9:K.lookup f9=fnO "_law_shape" s_law_shape oc9 od9 sl9 kV9 dc9 pm9 an9 cd9 ct9)
    (c9:PySem.W.codeIn K cd9 "_law_shape" = true) (k9:PySem.W.keepIn K (.ref f9)=true)
    (a10:PySem.W.nsIn K mainGlobals "_law_words" = some (some (.ref f10)))
    (l10:K.lookup f10=fnO "_law_words" s_law_words oc10 od10 sl10 kV10 dc10 pm10 an10 cd10 ct10)
    (c10:PySem.W.codeIn K cd10 "_law_words" = true) (k10:PySem.W.keepIn K (.ref f10)=true)
    (a11:PySem.W.nsIn K mainGlobals "_law_part_by" = some (some (.ref f11)))
    (l11:K.lookup f11=fnO "_law_part_by" s_law_part_by oc11 od11 sl11 kV11 dc11 pm11 an11 cd11 ct11)
    (c11:PySem.W.codeIn K cd11 "_law_part_by" = true) (k11:PySem.W.keepIn K (.ref f11)=true)
    (a12:PySem.W.nsIn K mainGlobals "_law_row_by" = some (some (.ref f12)))
    (l12:K.lookup f12=fnO "_law_row_by" s_law_row_by oc12 od12 sl12 kV12 dc12 pm12 an12 cd12 ct12)
    (c12:PySem.W.codeIn K cd12 "_law_row_by" = true) (k12:PySem.W.keepIn K (.ref f12)=true)
    (a13:PySem.W.nsIn K mainGlobals "_law_program" = some (some (.ref f13)))
    (l13:K.lookup f13=fnO "_law_program" s_law_program oc13 od13 sl13 kV13 dc13 pm13 an13 cd13 ct13)
    (c13:PySem.W.codeIn K cd13 "_law_program" = true) (k13:PySem.W.keepIn K (.ref f13)=true)
    (a14:PySem.W.nsIn K mainGlobals "_law_alike" = some (some (.ref f14)))
    (l14:K.lookup f14=fnO "_law_alike" s_law_alike oc14 od14 sl14 kV14 dc14 pm14 an14 cd14 ct14)
    (c14:PySem.W.codeIn K cd14 "_law_alike" = true) (k14:PySem.W.keepIn K (.ref f14)=true)
    (a15:PySem.W.nsIn K mainGlobals "_law_class" = some (some (.ref f15)))
    (l15:K.lookup f15=fnO "_law_class" s_law_class oc15 od15 sl15 kV15 dc15 pm15 an15 cd15 ct15)
    (c15:PySem.W.codeIn K cd15 "_law_class" = true) (k15:PySem.W.keepIn K (.ref f15)=true)
    (a16:PySem.W.nsIn K mainGlobals "_law_place" = some (some (.ref f16)))
    (l16:K.lookup f16=fnO "_law_place" s_law_place oc16 od16 sl16 kV16 dc16 pm16 an16 cd16 ct16)
    (c16:PySem.W.codeIn K cd16 "_law_place" = true) (k16:PySem.W.keepIn K (.ref f16)=true)
    (a17:PySem.W.nsIn K mainGlobals "law" = some (some (.ref f17)))
    (l17:K.lookup f17=fnO "law" s_law oc17 od17 sl17 kV17 dc17 pm17 an17 cd17 ct17)
    (c17:PySem.W.codeIn K cd17 "law" = true) (k17:PySem.W.keepIn K (.ref f17)=true)
    (nz_len:PySem.W.nsIn K mainGlobals "len" = some none)
    (nz_isinstance:PySem.W.nsIn K mainGlobals "isinstance" = some none)
    (nz_bool:PySem.W.nsIn K mainGlobals "bool" = some none)
    (nz_int:PySem.W.nsIn K mainGlobals "int" = some none)
    (nz_range:PySem.W.nsIn K mainGlobals "range" = some none)
    (nz_tuple:PySem.W.nsIn K mainGlobals "tuple" = some none)
    (nz_list:PySem.W.nsIn K mainGlobals "list" = some none)
    (nz_all:PySem.W.nsIn K mainGlobals "all" = some none)
    (nz_str:PySem.W.nsIn K mainGlobals "str" = some none)
    (nz_ValueError:PySem.W.nsIn K mainGlobals "ValueError" = some none)
    {C_NoLabel:Addr} (nc_NoLabel:PySem.W.nsIn K mainGlobals "NoLabel" = some (some (.ref C_NoLabel))) (ec_NoLabel:PySem.W.excIn K C_NoLabel [.type "ValueError",.type "Exception",.type "BaseException",.type "object"] "ValueError.__new__" = true)
    {C_BadNumber:Addr} (nc_BadNumber:PySem.W.nsIn K mainGlobals "BadNumber" = some (some (.ref C_BadNumber))) (ec_BadNumber:PySem.W.excIn K C_BadNumber [.type "ValueError",.type "Exception",.type "BaseException",.type "object"] "ValueError.__new__" = true)
    {C_BadText:Addr} (nc_BadText:PySem.W.nsIn K mainGlobals "BadText" = some (some (.ref C_BadText))) (ec_BadText:PySem.W.excIn K C_BadText [.type "ValueError",.type "Exception",.type "BaseException",.type "object"] "ValueError.__new__" = true)
    {C_NoAddress:Addr} (nc_NoAddress:PySem.W.nsIn K mainGlobals "NoAddress" = some (some (.ref C_NoAddress))) (ec_NoAddress:PySem.W.excIn K C_NoAddress [.type "ValueError",.type "Exception",.type "BaseException",.type "object"] "ValueError.__new__" = true)
    {C_BadState:Addr} (nc_BadState:PySem.W.nsIn K mainGlobals "BadState" = some (some (.ref C_BadState))) (ec_BadState:PySem.W.excIn K C_BadState [.type "ValueError",.type "Exception",.type "BaseException",.type "object"] "ValueError.__new__" = true)
    {C_BadWords:Addr} (nc_BadWords:PySem.W.nsIn K mainGlobals "BadWords" = some (some (.ref C_BadWords))) (ec_BadWords:PySem.W.excIn K C_BadWords [.type "ValueError",.type "Exception",.type "BaseException",.type "object"] "ValueError.__new__" = true)
    {C_RunError:Addr} (nc_RunError:PySem.W.nsIn K mainGlobals "RunError" = some (some (.ref C_RunError))) (ec_RunError:PySem.W.excIn K C_RunError [.type "ValueError",.type "Exception",.type "BaseException",.type "object"] "ValueError.__new__" = true)
    (px_NoLabel_ga:PySem.W.findIn K (.ref C_NoLabel) "__getattribute__" = some (some (.builtin "BaseException.__getattribute__")))
    (px_NoLabel_gt:PySem.W.findIn K (.ref C_NoLabel) "__getattr__" = some none)
    (px_NoLabel_cl:PySem.W.findIn K (.ref C_NoLabel) "__class__" = some (some (.builtin "object.__class__")))
    (px_NoLabel_mo:PySem.W.mroIn K C_NoLabel (.type "object")=some true)
    (px_NoLabel_mb:PySem.W.mroIn K C_NoLabel (.type "BaseException")=some true)
    (pt_NoLabel_BadNumber:PySem.W.kitOne K (.ref C_NoLabel) (.ref C_BadNumber)=some false)
    (pt_NoLabel_BadText:PySem.W.kitOne K (.ref C_NoLabel) (.ref C_BadText)=some false)
    (pt_NoLabel_NoLabel:PySem.W.kitOne K (.ref C_NoLabel) (.ref C_NoLabel)=some true)
    (pt_NoLabel_NoAddress:PySem.W.kitOne K (.ref C_NoLabel) (.ref C_NoAddress)=some false)
    (pt_NoLabel_BadState:PySem.W.kitOne K (.ref C_NoLabel) (.ref C_BadState)=some false)
    (pt_NoLabel_BadWords:PySem.W.kitOne K (.ref C_NoLabel) (.ref C_BadWords)=some false)
    (pt_NoLabel_ValueError:PySem.W.kitOne K (.ref C_NoLabel) (.type "ValueError")=some true)
    (pm_NoLabel_RunError:PySem.W.exmOne K (.ref C_NoLabel) (.ref C_RunError)=some true)
    : ∃ fd:FuncData,(∀ (s:Shared) (v:Value),BindsTo s fd ⟨[v],[]⟩ [("_law_script",v)])∧∀ base:Heap,K.In base→base.Ns mainGlobals mg→FnOk l.prog w K mg base CX0 6 fa fd ["_law_script"] (spLawB K):=by
  have e:=hfa.symm.trans (PySem.W.mg_of X G a17)
  cases e
  have z_len:mg "len" = none:=PySem.W.mg_none_of X G nz_len
  have z_isinstance:mg "isinstance" = none:=PySem.W.mg_none_of X G nz_isinstance
  have z_bool:mg "bool" = none:=PySem.W.mg_none_of X G nz_bool
  have z_int:mg "int" = none:=PySem.W.mg_none_of X G nz_int
  have z_range:mg "range" = none:=PySem.W.mg_none_of X G nz_range
  have z_tuple:mg "tuple" = none:=PySem.W.mg_none_of X G nz_tuple
  have z_list:mg "list" = none:=PySem.W.mg_none_of X G nz_list
  have z_all:mg "all" = none:=PySem.W.mg_none_of X G nz_all
  have z_str:mg "str" = none:=PySem.W.mg_none_of X G nz_str
  have z_ValueError:mg "ValueError" = none:=PySem.W.mg_none_of X G nz_ValueError
  have c_NoLabel:ExC K mg "NoLabel" C_NoLabel:=⟨PySem.W.mg_of X G nc_NoLabel,ec_NoLabel⟩
  have y_NoLabel:=nc_NoLabel
  have c_BadNumber:ExC K mg "BadNumber" C_BadNumber:=⟨PySem.W.mg_of X G nc_BadNumber,ec_BadNumber⟩
  have c_BadText:ExC K mg "BadText" C_BadText:=⟨PySem.W.mg_of X G nc_BadText,ec_BadText⟩
  have c_NoAddress:ExC K mg "NoAddress" C_NoAddress:=⟨PySem.W.mg_of X G nc_NoAddress,ec_NoAddress⟩
  have c_BadState:ExC K mg "BadState" C_BadState:=⟨PySem.W.mg_of X G nc_BadState,ec_BadState⟩
  have c_BadWords:ExC K mg "BadWords" C_BadWords:=⟨PySem.W.mg_of X G nc_BadWords,ec_BadWords⟩
  have c_RunError:ExC K mg "RunError" C_RunError:=⟨PySem.W.mg_of X G nc_RunError,ec_RunError⟩
  have x_NoLabel:ExK K C_NoLabel:=⟨px_NoLabel_ga,px_NoLabel_gt,px_NoLabel_cl,px_NoLabel_mo,px_NoLabel_mb⟩
  have t_NoLabel_BadNumber:PySem.W.kitOne K (.ref C_NoLabel) (.ref C_BadNumber)=some false:=pt_NoLabel_BadNumber
  have t_NoLabel_BadText:PySem.W.kitOne K (.ref C_NoLabel) (.ref C_BadText)=some false:=pt_NoLabel_BadText
  have t_NoLabel_NoLabel:PySem.W.kitOne K (.ref C_NoLabel) (.ref C_NoLabel)=some true:=pt_NoLabel_NoLabel
  have t_NoLabel_NoAddress:PySem.W.kitOne K (.ref C_NoLabel) (.ref C_NoAddress)=some false:=pt_NoLabel_NoAddress
  have t_NoLabel_BadState:PySem.W.kitOne K (.ref C_NoLabel) (.ref C_BadState)=some false:=pt_NoLabel_BadState
  have t_NoLabel_BadWords:PySem.W.kitOne K (.ref C_NoLabel) (.ref C_BadWords)=some false:=pt_NoLabel_BadWords
  have t_NoLabel_ValueError:PySem.W.kitOne K (.ref C_NoLabel) (.type "ValueError")=some true:=pt_NoLabel_ValueError
  have m_NoLabel_RunError:PySem.W.exmOne K (.ref C_NoLabel) (.ref C_RunError)=some true:=pm_NoLabel_RunError
  have F0:=fun_mk (st:=s_is_label) l0 c0 k0
  have D0:Def K mg "is_label" s_is_label ["item"]:=⟨_,_,F0,PySem.W.mg_of X G a0,F0.binds fun _ _ _ _ _ _=>us1 fun _=>rfl⟩
  have F1:=fun_mk (st:=s_rows_of) l1 c1 k1
  have D1:Def K mg "rows_of" s_rows_of ["items"]:=⟨_,_,F1,PySem.W.mg_of X G a1,F1.binds fun _ _ _ _ _ _=>us1 fun _=>rfl⟩
  have F2:=fun_mk (st:=s_label_places) l2 c2 k2
  have D2:Def K mg "label_places" s_label_places ["items"]:=⟨_,_,F2,PySem.W.mg_of X G a2,F2.binds fun _ _ _ _ _ _=>us1 fun _=>rfl⟩
  have F3:=fun_mk (st:=s_place_of) l3 c3 k3
  have D3:Def K mg "place_of" s_place_of ["items", "name"]:=⟨_,_,F3,PySem.W.mg_of X G a3,F3.binds fun _ _ _ _ _ _=>us2 fun _ _=>rfl⟩
  have F4:=fun_mk (st:=s_law_cell_at) l4 c4 k4
  have D4:Def K mg "_law_cell_at" s_law_cell_at ["_law_script", "_law_k"]:=⟨_,_,F4,PySem.W.mg_of X G a4,F4.binds fun _ _ _ _ _ _=>us2 fun _ _=>rfl⟩
  have F5:=fun_mk (st:=s_law_whole) l5 c5 k5
  have D5:Def K mg "_law_whole" s_law_whole ["_law_found"]:=⟨_,_,F5,PySem.W.mg_of X G a5,F5.binds fun _ _ _ _ _ _=>us1 fun _=>rfl⟩
  have F6:=fun_mk (st:=s_law_mixed) l6 c6 k6
  have D6:Def K mg "_law_mixed" s_law_mixed ["_law_cell", "_law_k", "_law_many"]:=⟨_,_,F6,PySem.W.mg_of X G a6,F6.binds fun _ _ _ _ _ _=>us3 fun _ _ _=>rfl⟩
  have F7:=fun_mk (st:=s_law_letter) l7 c7 k7
  have D7:Def K mg "_law_letter" s_law_letter ["_law_k"]:=⟨_,_,F7,PySem.W.mg_of X G a7,F7.binds fun _ _ _ _ _ _=>us1 fun _=>rfl⟩
  have F8:=fun_mk (st:=s_law_names) l8 c8 k8
  have D8:Def K mg "_law_names" s_law_names ["_law_cell", "_law_many"]:=⟨_,_,F8,PySem.W.mg_of X G a8,F8.binds fun _ _ _ _ _ _=>us2 fun _ _=>rfl⟩
  have F9:=fun_mk (st:=s_law_shape) l9 c9 k9
  have D9:Def K mg "_law_shape" s_law_shape ["_law_word"]:=⟨_,_,F9,PySem.W.mg_of X G a9,F9.binds fun _ _ _ _ _ _=>us1 fun _=>rfl⟩
  have F10:=fun_mk (st:=s_law_words) l10 c10 k10
  have D10:Def K mg "_law_words" s_law_words []:=⟨_,_,F10,PySem.W.mg_of X G a10,F10.binds fun _ _ _ _ _ _=>us0 rfl⟩
  have F11:=fun_mk (st:=s_law_part_by) l11 c11 k11
  have D11:Def K mg "_law_part_by" s_law_part_by ["_law_kind", "_law_cell", "_law_k", "_law_names_here"]:=⟨_,_,F11,PySem.W.mg_of X G a11,F11.binds fun _ _ _ _ _ _=>us4 fun _ _ _ _=>rfl⟩
  have F12:=fun_mk (st:=s_law_row_by) l12 c12 k12
  have D12:Def K mg "_law_row_by" s_law_row_by ["_law_cell", "_law_names_here"]:=⟨_,_,F12,PySem.W.mg_of X G a12,F12.binds fun _ _ _ _ _ _=>us2 fun _ _=>rfl⟩
  have F13:=fun_mk (st:=s_law_program) l13 c13 k13
  have D13:Def K mg "_law_program" s_law_program ["_law_script", "_law_first"]:=⟨_,_,F13,PySem.W.mg_of X G a13,F13.binds fun _ _ _ _ _ _=>us2 fun _ _=>rfl⟩
  have F14:=fun_mk (st:=s_law_alike) l14 c14 k14
  have D14:Def K mg "_law_alike" s_law_alike ["_law_found", "_law_due"]:=⟨_,_,F14,PySem.W.mg_of X G a14,F14.binds fun _ _ _ _ _ _=>us2 fun _ _=>rfl⟩
  have F15:=fun_mk (st:=s_law_class) l15 c15 k15
  have D15:Def K mg "_law_class" s_law_class ["_law_e"]:=⟨_,_,F15,PySem.W.mg_of X G a15,F15.binds fun _ _ _ _ _ _=>us1 fun _=>rfl⟩
  have F16:=fun_mk (st:=s_law_place) l16 c16 k16
  have D16:Def K mg "_law_place" s_law_place ["_law_items", "_law_name"]:=⟨_,_,F16,PySem.W.mg_of X G a16,F16.binds fun _ _ _ _ _ _=>us2 fun _ _=>rfl⟩
  have F17:=fun_mk (st:=s_law) l17 c17 k17
  refine ⟨PySem.W.fnOf "law" "law" (defArgs s_law) (defBody s_law) (defScope s_law) .none kV17 dc17 pm17 an17 cd17 ct17,fun s v=>.of_eq rfl,fun base _ _=>?_⟩
  have h_is_label:=ok_is_label (P:=l.prog) (w:=w) (base:=base) D0 
  have h_rows_of:=ok_rows_of (P:=l.prog) (w:=w) (base:=base) D1 h_is_label
  have h_label_places:=ok_label_places (P:=l.prog) (w:=w) (base:=base) D2 h_is_label
  have h_place_of:=ok_place_of (P:=l.prog) (w:=w) (base:=base) D3 c_NoLabel h_label_places
  have h_law_cell_at:=ok_law_cell_at (P:=l.prog) (w:=w) (base:=base) D4 z_len
  have h_law_whole:=ok_law_whole (P:=l.prog) (w:=w) (base:=base) D5 z_isinstance z_bool z_int
  have h_law_mixed:=ok_law_mixed (P:=l.prog) (w:=w) (base:=base) D6 
  have h_law_letter:=ok_law_letter (P:=l.prog) (w:=w) (base:=base) D7 
  have h_law_names:=ok_law_names (P:=l.prog) (w:=w) (base:=base) D8 z_range h_law_mixed h_law_letter
  have h_law_shape:=ok_law_shape (P:=l.prog) (w:=w) (base:=base) D9 
  have h_law_words:=ok_law_words (P:=l.prog) (w:=w) (base:=base) D10 
  have h_law_part_by:=ok_law_part_by (P:=l.prog) (w:=w) (base:=base) D11 z_len h_law_mixed
  have h_law_row_by:=ok_law_row_by (P:=l.prog) (w:=w) (base:=base) D12 z_len z_tuple z_range h_law_mixed h_law_words h_law_shape h_law_part_by
  have h_law_program:=ok_law_program (P:=l.prog) (w:=w) (base:=base) D13 z_range z_len h_law_cell_at h_law_mixed h_law_names h_law_row_by
  have r0_law_alike:=ok_law_alike_0 (P:=l.prog) (w:=w) (base:=base) D14
  have r1_law_alike:=ok_law_alike_1 (P:=l.prog) (w:=w) (base:=base) D14 z_isinstance z_tuple z_list z_all z_range z_len z_str h_law_whole r0_law_alike
  have r2_law_alike:=ok_law_alike_2 (P:=l.prog) (w:=w) (base:=base) D14 z_isinstance z_tuple z_list z_all z_range z_len z_str h_law_whole r1_law_alike
  have h_law_alike:=ok_law_alike_3 (P:=l.prog) (w:=w) (base:=base) D14 z_isinstance z_tuple z_list z_all z_range z_len z_str h_law_whole r2_law_alike
  have h_law_class:=ok_law_class (P:=l.prog) (w:=w) (base:=base) D15 z_isinstance z_ValueError z_len c_NoLabel c_BadNumber c_BadText c_NoAddress c_BadState c_BadWords y_NoLabel x_NoLabel t_NoLabel_BadNumber t_NoLabel_BadText t_NoLabel_NoLabel t_NoLabel_NoAddress t_NoLabel_BadState t_NoLabel_BadWords t_NoLabel_ValueError
  have h_law_place:=ok_law_place (P:=l.prog) (w:=w) (base:=base) D16 c_RunError c_NoLabel y_NoLabel m_NoLabel_RunError h_place_of h_law_class
  exact ok_law F17 z_list z_isinstance z_len h_law_program h_rows_of h_law_alike h_law_place h_law_whole h_law_cell_at
theorem walk {l:PySem.W.OpenLaw} {q:Program} {loose:List Str} {XP:(Str→Option Value)→Heap→Prop} {YP:World→Heap→Prop} {d:DefRec} {K:Params→PySem.W.Frag} (hn:l.most=some 63) (hdf:d.params.defaults=[])
    (hY:∀ (w:World) (h:Heap),YP w h→(K w.params).In h)
    (F:∀ (w:World) (mg:Str→Option Value) (fa:Addr) (h:Heap),(K w.params).In h→h.Ns mainGlobals mg→mg d.name=some (.ref fa)→
      ∃ fd:FuncData,(∀ (s:Shared) (u:Value),BindsTo s fd ⟨[u],[]⟩ [("_law_script",u)])∧∀ base:Heap,(K w.params).In base→base.Ns mainGlobals mg→FnOk l.prog w (K w.params) mg base CX0 6 fa fd ["_law_script"] (spLawB (K w.params))) :
    PySem.W.WalkO q loose XP YP l.row.toRowW d [] (fun f vs=>PySem.call f vs):=
  L3.walkB (n:=63) (k:=6) (x := "_law_script") (sp:=spLawB) hn (by decide) hdf ⟨rfl,by decide,by decide⟩ hY F fun _ _ a ns hl hb hS=>⟨a,ns,rfl,hS,hl,hb,fun _=>rfl⟩
end My
namespace PySem.W.Fast
noncomputable def tw7244002493136874330:=0
noncomputable def tw7321928469510603158:=0
noncomputable def tw12881418320767058910:=0
noncomputable def tw14558810573297319423:=0
noncomputable def tw2424730018012014549:=0
noncomputable def tw14652247040112688193:=0
noncomputable def tw8237083955381634109:=0
noncomputable def tw11588014579141596486:=0
noncomputable def tw5587551897718242621:=0
noncomputable def tw13880379075662080960:=0
noncomputable def tw14455508213436197785:=0
noncomputable def tw1650295630487315028:=0
noncomputable def tw17414538501857273318:=0
noncomputable def tw12417901087969180124:=0
noncomputable def tw1098402427828547331:=0
noncomputable def tw17464585579591655996:=0
noncomputable def tw10838212363941166813:=0
noncomputable def tw17245363246811407912:=0
noncomputable def tw15015794245365275625:=0
noncomputable def tw1175948546669234374:=0
noncomputable def tw2678087997395264259:=0
noncomputable def tw3522132370602921778:=0
noncomputable def tw11841442637319813539:=0
noncomputable def tw1225173260739193054:=0
noncomputable def tw1213345012695095375:=0
noncomputable def tw13283716136504639844:=0
noncomputable def tw4128600172394642453:=0
noncomputable def tw6769618126166308021:=0
noncomputable def tw9888231056432037469:=0
noncomputable def tw7219143953179315448:=0
noncomputable def tw3367102424097436329:=0
noncomputable def tw6751960749590211560:=0
noncomputable def tw16766556301492127047:=0
noncomputable def tw14837086038033164829:=0
noncomputable def tw14190749192165754851:=0
noncomputable def tw1882782541212051459:=0
noncomputable def tw12276094129412883223:=0
noncomputable def tw11161321172156490656:=0
noncomputable def tw15956020981132482441:=0
noncomputable def tw6968495800911970860:=0
noncomputable def tw6404991454488436963:=0
noncomputable def tw16066632391796524809:=0
noncomputable def tw16855556341293946620:=0
noncomputable def tw7594771739531136931:=0
noncomputable def tw11891775967017488862:=0
noncomputable def tw16158617354715986664:=0
noncomputable def tw15203648647826724842:=0
noncomputable def tw4373176594505911125:=0
noncomputable def tw12053752852389797440:=0
noncomputable def tw4396400753731258480:=0
noncomputable def tw16545288550698935156:=0
end PySem.W.Fast
open PySem PySem.W PyProof.Rows
set_option maxRecDepth 100000 in
set_option maxHeartbeats 0 in
theorem PySem.Challenge.cw_markrun_k11_rows_and_places_holds : PySem.Challenge.rw_markrun_k11_rows_and_places.Holds := by
  w_on; o_law; k_head; (case hw=>w_witness2)
  k_fill
  refine My.walk (l:=PySem.Challenge.rw_markrun_k11_rows_and_places) rfl rfl (fun w h Y=>PySem.W.kIn_of Y) ?F
  case F=>
    intro w mg fa h KX G hmg
    refine' My.all_mk KX G hmg ?a0 ?l0 ?c0 ?k0 ?a1 ?l1 ?c1 ?k1 ?a2 ?l2 ?c2 ?k2 ?a3 ?l3 ?c3 ?k3 ?a4 ?l4 ?c4 ?k4 ?a5 ?l5 ?c5 ?k5 ?a6 ?l6 ?c6 ?k6 ?a7 ?l7 ?c7 ?k7 ?a8 ?l8 ?c8 ?k8 ?a9 ?l9 ?c9 ?k9 ?a10 ?l10 ?c10 ?k10 ?a11 ?l11 ?c11 ?k11 ?a12 ?l12 ?c12 ?k12 ?a13 ?l13 ?c13 ?k13 ?a14 ?l14 ?c14 ?k14 ?a15 ?l15 ?c15 ?k15 ?a16 ?l16 ?c16 ?k16 ?a17 ?l17 ?c17 ?k17 ?nz_len ?nz_isinstance ?nz_bool ?nz_int ?nz_range ?nz_tuple ?nz_list ?nz_all ?nz_str ?nz_ValueError ?nc_NoLabel ?ec_NoLabel ?nc_BadNumber ?ec_BadNumber ?nc_BadText ?ec_BadText ?nc_NoAddress ?ec_NoAddress ?nc_BadState ?ec_BadState ?nc_BadWords ?ec_BadWords ?nc_RunError ?ec_RunError ?px_NoLabel_ga ?px_NoLabel_gt ?px_NoLabel_cl ?px_NoLabel_mo ?px_NoLabel_mb ?pt_NoLabel_BadNumber ?pt_NoLabel_BadText ?pt_NoLabel_NoLabel ?pt_NoLabel_NoAddress ?pt_NoLabel_BadState ?pt_NoLabel_BadWords ?pt_NoLabel_ValueError ?pm_NoLabel_RunError
    all_goals try (first | k_is | k_exc | kit_is | kts_exm)
    all_goals decide
