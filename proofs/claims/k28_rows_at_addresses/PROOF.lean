import PyProof.Rows.All
import Wide.All
import OpenK.AllK
import Wide.FinOn
import Lean
import PyProof.EqAt
import PyProof.EqKinds
import PyProof.TupleCall
import PySem.Challenge.RW_markrun_k28_rows_at_addresses
set_option Elab.async false
set_option linter.all false
set_option maxRecDepth 100000
namespace L2
open PySem PySem.Spec PyProof.Rows
noncomputable abbrev Key:=Sum Int Str
noncomputable def keyIs:Key→Value→Bool
  | .inl k,v=>Value.isInt k v
  | .inr x,v=>Value.isStrOf x v
noncomputable def keyH (w:World):Key→Int
  | .inl k=>hashInt k
  | .inr x=>hashStr w x
theorem keyIs_shape:∀ {k:Key} {v:Value},keyIs k v=true→(∃ i t,k=Sum.inl i∧v=Value.int i t)∨(∃ x t,k=Sum.inr x∧v=Value.str x t)
  | .inl i,v,h=>by
    obtain ⟨t,e⟩:=Value.isInt_shape (k:=i) (v:=v) h
    exact .inl ⟨i,t,rfl,e⟩
  | .inr x,v,h=>by
    obtain ⟨t,e⟩:=Value.isStrOf_shape (x:=x) (v:=v) h
    exact .inr ⟨x,t,rfl,e⟩
theorem keyIs_int (i:Int) (t:Tok):keyIs (.inl i) (.int i t)=true:=by simp [keyIs,Value.isInt]
theorem keyIs_str (x:Str) (t:Tok):keyIs (.inr x) (.str x t)=true:=by simp [keyIs,Value.isStrOf]
theorem key_ll (a b:Int):decide ((Sum.inl a:Key)=Sum.inl b)=(a == b):=by
  by_cases e:a=b
  · subst e; simp
  · have h:¬ (Sum.inl a:Key)=Sum.inl b:=fun q=>e (Sum.inl.inj q)
    rw [decide_eq_false h]
    exact (beq_eq_false_iff_ne.mpr e).symm
theorem key_rr (a b:Str):decide ((Sum.inr a:Key)=Sum.inr b)=decide (a=b):=by
  by_cases e:a=b
  · subst e; simp
  · have h:¬ (Sum.inr a:Key)=Sum.inr b:=fun q=>e (Sum.inr.inj q)
    rw [decide_eq_false h,decide_eq_false e]
theorem key_lr (a:Int) (b:Str):decide ((Sum.inl a:Key)=Sum.inr b)=false:=decide_eq_false (fun q=>nomatch q)
theorem key_rl (a:Str) (b:Int):decide ((Sum.inr a:Key)=Sum.inl b)=false:=decide_eq_false (fun q=>nomatch q)
noncomputable def mixKind (prog:Program) (w:World):PySem.KeyKind prog w Key where
  is:=keyIs
  hash:=keyH w
  inj:=fun v a b ha hb=>by
    rcases keyIs_shape ha with ⟨i,t,rfl,rfl⟩ | ⟨x,t,rfl,rfl⟩
    · rcases keyIs_shape hb with ⟨j,u,rfl,e⟩ | ⟨y,u,rfl,e⟩
      · injection e with e1 _; rw [e1]
      · exact nomatch e
    · rcases keyIs_shape hb with ⟨j,u,rfl,e⟩ | ⟨y,u,rfl,e⟩
      · exact nomatch e
      · injection e with e1 _; rw [e1]
  byValue:=fun k v h=>by
    rcases keyIs_shape h with ⟨i,t,rfl,rfl⟩ | ⟨x,t,rfl,rfl⟩<;>rfl
  pyHash:=fun hv h=>by
    rcases keyIs_shape hv with ⟨i,t,rfl,rfl⟩ | ⟨x,t,rfl,rfl⟩
    · exact wpAny_pyHash_int h
    · exact wpAny_pyHash_str h
  eqBool:=fun hu hv h=>by
    rcases keyIs_shape hu with ⟨i,t,rfl,rfl⟩ | ⟨x,t,rfl,rfl⟩
    · rcases keyIs_shape hv with ⟨j,u,rfl,rfl⟩ | ⟨y,u,rfl,rfl⟩
      · rw [key_ll] at h; exact wpAny_eqBool_int h
      · rw [key_lr] at h; exact SeqAt.EqAt.int_str i t y u _ _ _ _ h
    · rcases keyIs_shape hv with ⟨j,u,rfl,rfl⟩ | ⟨y,u,rfl,rfl⟩
      · rw [key_rl] at h; exact SeqAt.EqAt.str_int x t j u _ _ _ _ h
      · rw [key_rr] at h; exact wpAny_eqBool_str h
  «strs»:=fun k x t v h=>by
    rcases keyIs_shape h with ⟨i,u,rfl,e⟩ | ⟨y,u,rfl,e⟩
    · exact nomatch e
    · injection e with e1 _
      subst e1
      cases v<;>rfl
theorem mixKind_int (prog:Program) (w:World) (i:Int) (t:Tok):(mixKind prog w).is (.inl i) (.int i t)=true:=keyIs_int i t
theorem mixKind_str (prog:Program) (w:World) (x:Str) (t:Tok):(mixKind prog w).is (.inr x) (.str x t)=true:=keyIs_str x t
end L2
namespace L2
open PySem PySem.Spec PyProof.Rows
inductive V where
  | non | bl (b:Bool) | int (i:Int) | str (x:Str) | byt (b:Array UInt8) | flt (b:UInt64) | ref (a:Addr) | ty (n:String)
  deriving DecidableEq
noncomputable def RelV:V→Value→Prop
  | .non,u=>u=Value.none
  | .bl b,u=>u=Value.bool b
  | .int i,u=>∃ t,u=Value.int i t
  | .str x,u=>∃ t,u=Value.str x t
  | .byt b,u=>∃ t,u=Value.bytes b t
  | .flt b,u=>∃ t,u=Value.float b t
  | .ref a,u=>u=Value.ref a
  | .ty n,u=>u=Value.type n
noncomputable abbrev Vals:List V→List Value→Prop:=Paired RelV
theorem Vals.length {xs:List V} {us:List Value} (r:Vals xs us):xs.length=us.length:=Paired.length r
theorem Vals.get:∀ {xs:List V} {us:List Value} {i:Nat} {x:V},Vals xs us→xs[i]?=some x→∃ u,us[i]?=some u∧RelV x u
  | _,_,_,_,.nil,e=>by simp at e
  | _,_,0,_,.cons r _,e=>by simp at e; subst e; exact ⟨_,rfl,r⟩
  | _,_,i+1,x,.cons _ t,e=>by
    obtain ⟨u,h1,h2⟩:=Vals.get (i:=i) (x:=x) t (by simpa using e)
    exact ⟨u,by simpa using h1,h2⟩
theorem Vals.set {x:V} {u:Value} (r:RelV x u):∀ {xs:List V} {us:List Value} (i:Nat),Vals xs us→Vals (xs.set i x) (us.set i u)
  | _,_,_,.nil=>.nil
  | _,_,0,.cons _ t=>.cons r t
  | _,_,i+1,.cons q t=>.cons q (Vals.set r i t)
theorem Vals.append:∀ {xs ys:List V} {us ws:List Value},Vals xs us→Vals ys ws→Vals (xs++ys) (us++ws)
  | _,_,_,_,.nil,s=>s
  | _,_,_,_,.cons r t,s=>.cons r (Vals.append t s)
theorem Vals.take:∀ {xs:List V} {us:List Value} (n:Nat),Vals xs us→Vals (xs.take n) (us.take n)
  | _,_,0,_=>.nil
  | _,_,_+1,.nil=>.nil
  | _,_,n+1,.cons r t=>.cons r (Vals.take n t)
theorem Vals.drop:∀ {xs:List V} {us:List Value} (n:Nat),Vals xs us→Vals (xs.drop n) (us.drop n)
  | _,_,0,r=>r
  | _,_,_+1,.nil=>.nil
  | _,_,n+1,.cons _ t=>Vals.drop n t
noncomputable def RelO:Option V→Option Value→Prop
  | some v,some u=>RelV v u
  | none,none=>True
  | _,_=>False
noncomputable def KV {κ:Type}:List (κ×V)→List (κ×Value)→Prop:=Paired fun (p:κ×V) (q:κ×Value)=>p.1=q.1∧RelV p.2 q.2
noncomputable def kV:Key→V
  | .inl i=>.int i
  | .inr x=>.str x
inductive HO where
    | lst (xs:List V)
    | tup (xs:List V)
    | dK (kvs:List (Key×V)) | dT (kvs:List (List Key×V))
    | set (S:Int→Bool) (n:Nat)
    | ins (C dx:Addr) (fs:List (Str×V))
    | own (x:Addr)
    | xd (fs:List (Str×V))
    | met (f x:Addr)
    | rng (lo hi:Int)
    | frz (o:Obj) (u:HO)
    | tbl (ps:Array Value)
    | ext (φ:Heap→Prop)
noncomputable abbrev Hp:=Addr→Option HO
noncomputable def upd (H:Hp) (a:Addr) (o:HO):Hp:=fun b=>if b=a then some o else H b
theorem upd_same {H:Hp} {a:Addr} {o:HO}:upd H a o a=some o:=by unfold upd; rw [if_pos rfl]
theorem upd_ne {H:Hp} {a b:Addr} {o:HO} (h:b≠a):upd H a o b=H b:=by unfold upd; rw [if_neg h]
theorem ne_of {H:Hp} {a b:Addr} {o u:HO} (h:H a=some o) (h':H b=some u) (d:o≠u):a≠b:=by
  intro e; subst e; rw [h] at h'; exact d (Option.some.inj h')
theorem ne_of_none {H:Hp} {a b:Addr} {o:HO} (h:H a=some o) (h':H b=none):a≠b:=by
  intro e; subst e; rw [h] at h'; cases h'
section
variable (P:Program) (w:World)
noncomputable def ObjOk (H:Hp) (h:Heap) (a:Addr):HO→Prop
  | .lst xs=>xs.length≤sizeLine∧∃ (its:List Value) (n:Nat),Vals xs its∧h.get? a=some { cls:=.type "list",data:=.seq its.toArray n }
  | .tup xs=>xs.length≤sizeLine∧∃ its:List Value,Vals xs its∧IsTup h a its.toArray
  | .dK kvs=>kvs.length≤sizeLine∧(a == sysModules)=false∧∃ vs,KV kvs vs∧h.DictOf (mixKind P w) a vs
  | .dT kvs=>kvs.length≤sizeLine∧(a == sysModules)=false∧∃ xs:List (List Key×Addr×Value),
      Paired (fun (p:List Key×V) (q:List Key×Addr×Value)=>p.1=q.1∧H q.2.1=some (.tup (p.1.map kV))∧RelV p.2 q.2.2) kvs xs∧
      ∃ o es ep,h.get? a=some o∧o.ExactDict∧o.data=.dict es ep∧es.toList=xs.map (entryOfKey (tupleKind (mixKind P w)))∧(xs.map (·.1)).Nodup
  | .set S n=>h.SetOf (intKind P w) a S n
  | .ins C dx fs=>H dx=some (.own a)∧fs.length≤1000∧dx≠a∧h.get? a=some (PySem.W.instObj C dx)∧
      ∃ mA,h.Ns1 dx mA∧(∀ f,RelO (fs.lookup f) (mA f))∧PySem.Within mA (fs.map (·.1))
  | .own _=>∃ o,h.get? a=some o
  | .xd fs=>∃ mA,h.Ns1 a mA∧∀ f,RelO (fs.lookup f) (mA f)
  | .rng lo hi=>∃ t u v,h.get? a=some { cls:=.type "range",data:=.fields #[.int lo t,.int hi u,.int 1 v] }
  | .frz o u=>h.get? a=some o∧ObjOk H h a u
  | .tbl ps=>h.get? a=some { cls:=.none,data:=.fields ps }
  | .met f x=>h.get? a=some (PySem.W.methodObj (.ref f) (.ref x))
  | .ext φ=>φ h∧(∃ o,h.get? a=some o)∧∀ h1 h2:Heap,φ h1→(∀ o,h1.get? a=some o→h2.get? a=some o)→φ h2
noncomputable def HOk (H:Hp) (h:Heap):Prop:=∀ a o,H a=some o→ObjOk P w H h a o
end
section
variable {P:Program} {w:World} {H H':Hp} {h h':Heap} {a:Addr} {o:HO}
theorem ObjOk.lt (x:ObjOk P w H h a o):a<h.objs.size:=by
  cases o with
  | lst xs=>obtain ⟨_,_,_,_,e⟩:=x; exact Heap.lt_size e
  | tup xs=>obtain ⟨_,_,_,p⟩:=x; exact p.lt
  | dK kvs=>obtain ⟨_,_,_,_,o,_,_,e,_⟩:=x; exact Heap.lt_size e
  | dT kvs=>obtain ⟨_,_,_,_,o,_,_,e,_⟩:=x; exact Heap.lt_size e
  | set S n=>obtain ⟨o,_,_,_,e,_⟩:=x; exact Heap.lt_size e
  | ins C dx fs=>obtain ⟨_,_,_,e,_⟩:=x; exact Heap.lt_size e
  | own y=>obtain ⟨_,e⟩:=x; exact Heap.lt_size e
  | xd fs=>obtain ⟨_,⟨_,_,_,e,_⟩,_⟩:=x; exact Heap.lt_size e
  | rng lo hi=>obtain ⟨_,_,_,e⟩:=x; exact Heap.lt_size e
  | frz ob u=>obtain ⟨e,_⟩:=x; exact Heap.lt_size e
  | tbl ps=>exact Heap.lt_size (show h.get? a=some _ from x)
  | met f y=>exact Heap.lt_size (show h.get? a=some _ from x)
  | ext φ=>obtain ⟨_,⟨_,e⟩,_⟩:=x; exact Heap.lt_size e
theorem Paired.mapP {α β:Type} {F G:α→β→Prop}:∀ {l₁:List α} {l₂:List β},Paired F l₁ l₂→(∀ a b,F a b→G a b)→Paired G l₁ l₂
  | _,_,.nil,_=>.nil
  | _,_,.cons r t,f=>.cons (f _ _ r) (Paired.mapP t f)
theorem ObjOk.stay (x:ObjOk P w H h a o) (k:∀ b u,(b=a∨H b=some (.own a))→h.get? b=some u→h'.get? b=some u)
    (ho:∀ b,H b=some (.own a)→H' b=some (.own a)) (ht:∀ b xs,H b=some (.tup xs)→H' b=some (.tup xs)):ObjOk P w H' h' a o:=by
  induction o with
  | lst xs=>obtain ⟨z,its,n,r,e⟩:=x; exact ⟨z,its,n,r,k _ _ (.inl rfl) e⟩
  | tup xs=>obtain ⟨z,its,r,ob,e,c⟩:=x; exact ⟨z,its,r,ob,k _ _ (.inl rfl) e,c⟩
  | dK kvs=>obtain ⟨z,y,vs,r,ob,es,ep,e,c⟩:=x; exact ⟨z,y,vs,r,ob,es,ep,k _ _ (.inl rfl) e,c⟩
  | dT kvs=>
    obtain ⟨z,y,xs,r,ob,es,ep,e,c⟩:=x
    exact ⟨z,y,xs,Paired.mapP r fun p q z=>⟨z.1,ht _ _ z.2.1,z.2.2⟩,ob,es,ep,k _ _ (.inl rfl) e,c⟩
  | set S n=>obtain ⟨ob,es,ep,t,e,c⟩:=x; exact ⟨ob,es,ep,t,k _ _ (.inl rfl) e,c⟩
  | ins C dx fs=>
    obtain ⟨d,z,ne,e,mA,⟨od,es,ep,e2,c⟩,r⟩:=x
    exact ⟨ho _ d,z,ne,k _ _ (.inl rfl) e,mA,⟨od,es,ep,k _ _ (.inr d) e2,c⟩,r⟩
  | own y=>obtain ⟨ob,e⟩:=x; exact ⟨ob,k _ _ (.inl rfl) e⟩
  | xd fs=>obtain ⟨mA,⟨od,es,ep,e,c⟩,r⟩:=x; exact ⟨mA,⟨od,es,ep,k _ _ (.inl rfl) e,c⟩,r⟩
  | rng lo hi=>obtain ⟨t,u,v,e⟩:=x; exact ⟨t,u,v,k _ _ (.inl rfl) e⟩
  | frz ob u ih=>obtain ⟨e,q⟩:=x; exact ⟨k _ _ (.inl rfl) e,ih q⟩
  | tbl ps=>
    have e:h.get? a=some { cls:=.none,data:=.fields ps }:=x
    show h'.get? a=some { cls:=.none,data:=.fields ps }
    exact k a _ (.inl rfl) e
  | met f y=>
    have e:h.get? a=some (PySem.W.methodObj (.ref f) (.ref y)):=x
    show h'.get? a=some (PySem.W.methodObj (.ref f) (.ref y))
    exact k a _ (.inl rfl) e
  | ext φ=>obtain ⟨p,⟨o,e⟩,st⟩:=x; exact ⟨st _ _ p fun o q=>k _ _ (.inl rfl) q,⟨o,k _ _ (.inl rfl) e⟩,st⟩
theorem HOk.lt (x:HOk P w H h) (e:H a=some o):a<h.objs.size:=(x a o e).lt
theorem HOk.fresh (x:HOk P w H h) (e:h.objs.size≤a):H a=none:=by
  cases q:H a with
  | none=>rfl
  | some u=>exact absurd (Nat.lt_of_lt_of_le (x.lt q) e) (Nat.lt_irrefl _)
theorem HOk.kept (x:HOk P w H h) (k:∀ b u,h.get? b=some u→h'.get? b=some u):HOk P w H h':=fun a o e=>
  (x a o e).stay (fun b u _ q=>k b u q) (fun _ q=>q) fun _ _ q=>q
theorem HOk.laid (x:HOk P w H h) (k:∀ b u,h.get? b=some u→h'.get? b=some u) (hp:h.objs.size≤a) (new:ObjOk P w (upd H a o) h' a o):HOk P w (upd H a o) h':=fun b u e=>by
  have hn:=x.fresh hp
  by_cases hb:b=a
  · subst hb; rw [upd_same] at e; cases e; exact new
  · rw [upd_ne hb] at e
    exact (x b u e).stay (fun c v _ q=>k c v q) (fun c q=>by rw [upd_ne (ne_of_none q hn)]; exact q) fun c xs q=>by rw [upd_ne (ne_of_none q hn)]; exact q
end
noncomputable def Rd (H:Hp) (a:Addr) (u:HO):Prop:=H a=some u∨∃ o,H a=some (.frz o u)
theorem Rd.ok {P:Program} {w:World} {H:Hp} {h:Heap} {a:Addr} {u:HO} (r:Rd H a u) (x:HOk P w H h):ObjOk P w H h a u:=by
  rcases r with r | ⟨o,r⟩
  · exact x a u r
  · obtain ⟨_,q⟩:=x a _ r
    exact q
noncomputable def Mut:Option HO→Prop
  | some (.lst _)=>True
  | some (.dK _)=>True
  | some (.dT _)=>True
  | some (.set _ _)=>True
  | some (.ins _ _ _)=>True
  | some (.ext _)=>True
  | _=>False
section
variable {P:Program} {w:World} {H:Hp} {h h':Heap} {x e:Addr} {o':HO}
theorem HOk.write (ok:HOk P w H h) (mu:Mut (H x)) (he:e=x∨H e=some (.own x)) (k:∀ b u,b≠e→h.get? b=some u→h'.get? b=some u) (heo:∃ u,h'.get? e=some u)
    (new:ObjOk P w (upd H x o') h' x o'):HOk P w (upd H x o') h':=fun b u q=>by
  have nown:∀ c y,H c=some (.own y)→c≠x:=fun c y r z=>by subst z; rw [r] at mu; exact mu
  have ntup:∀ c xs,H c=some (.tup xs)→c≠x:=fun c xs r z=>by subst z; rw [r] at mu; exact mu
  by_cases hb:b=x
  · subst hb; rw [upd_same] at q; cases q; exact new
  · rw [upd_ne hb] at q
    by_cases hbe:b=e
    · have q':H b=some (.own x):=by
        rcases he with z | z
        · exact absurd (hbe.trans z) hb
        · rw [hbe]; exact z
      rw [q] at q'; cases q'
      obtain ⟨v,hv⟩:=heo
      exact ⟨v,by rw [hbe]; exact hv⟩
    · refine (ok b u q).stay (fun c v hc r=>k c v ?_ r) (fun c r=>by rw [upd_ne (nown c b r)]; exact r) fun c xs r=>by rw [upd_ne (ntup c xs r)]; exact r
      rcases hc with rfl | hc
      · exact hbe
      · rintro rfl
        rcases he with z | z
        · exact nown c b hc z
        · rw [hc] at z; cases z; exact hb rfl
end
structure Un (fs ex:List Addr) (H H':Hp) (h h':Heap):Prop where
  keep:∀ b o,h.get? b=some o→H b=none→b ∉ fs→b ∉ ex→h'.get? b=some o
  slot:∀ b o,h.get? b=some o→H b=none→b∈fs→b ∉ ex→∃ sl,h'.get? b=some { o with slots:=sl }
  free:∀ b o,h.get? b=some o→H b=none→b ∉ ex→H' b=none
  there:∀ b o,h.get? b=some o→b ∉ ex→∃ o',h'.get? b=some o'
  tups:∀ b xs,H b=some (.tup xs)→H' b=some (.tup xs)
  frzs:∀ b o u,H b=some (.frz o u)→H' b=some (.frz o u)
  tbls:∀ b ps,H b=some (.tbl ps)→∃ more,H' b=some (.tbl (ps++more))
section
variable {fs fs' ex ex':List Addr} {H H1 H2:Hp} {h h1 h2 h':Heap} {a x e:Addr} {o:HO}
theorem Un.any (u:Un fs ex H H1 h h1) {b:Addr} {ob:Obj} (q:h.get? b=some ob) (n:H b=none) (hx:b ∉ ex):∃ sl,h1.get? b=some { ob with slots:=sl }:=by
  by_cases hb:b∈fs
  · exact u.slot b ob q n hb hx
  · exact ⟨ob.slots,u.keep b ob q n hb hx⟩
theorem Un.kept (k:∀ b u,h.get? b=some u→h'.get? b=some u):Un fs ex H H h h':=
  ⟨fun b ob q _ _ _=>k b ob q,fun b ob q _ _ _=>⟨ob.slots,k b ob q⟩,fun _ _ _ n _=>n,fun b ob q _=>⟨ob,k b ob q⟩,fun _ _ q=>q,fun _ _ _ q=>q,fun _ ps q=>⟨#[],by rw [q]; simp⟩⟩
theorem Un.refl:Un fs ex H H h h:=Un.kept fun _ _ q=>q
theorem Un.laid (k:∀ b u,h.get? b=some u→h'.get? b=some u) (hp:h.objs.size≤a) (hn:H a=none):Un fs ex H (upd H a o) h h' where
  keep:=fun b u q _ _ _=>k b u q
  slot:=fun b u q _ _ _=>⟨u.slots,k b u q⟩
  free:=fun b u q n _=>by rw [upd_ne (Nat.ne_of_lt (Nat.lt_of_lt_of_le (Heap.lt_size q) hp))]; exact n
  there:=fun b u q _=>⟨u,k b u q⟩
  tups:=fun b xs q=>by rw [upd_ne (ne_of_none q hn)]; exact q
  frzs:=fun b u xs q=>by rw [upd_ne (ne_of_none q hn)]; exact q
  tbls:=fun b ps q=>⟨#[],by rw [upd_ne (ne_of_none q hn),q]; simp⟩
theorem Un.write (mu:Mut (H x)) (he:e=x∨H e=some (.own x)) (k:∀ b u,b≠e→h.get? b=some u→h'.get? b=some u) (heo:∃ u,h'.get? e=some u):Un fs ex H (upd H x o) h h':=by
  have hx:∀ b,H b=none→b≠x:=fun b n z=>by subst z; rw [n] at mu; exact mu
  have hb:∀ b,H b=none→b≠e:=fun b n z=>by
    subst z
    rcases he with r | r
    · exact hx b n r
    · rw [n] at r; cases r
  have hm:∀ b u,H b=some u→¬ Mut (some u)→b≠x:=fun b u q nm z=>by subst z; rw [q] at mu; exact nm mu
  refine ⟨fun b u q n _ _=>k b u (hb b n) q,fun b u q n _ _=>⟨u.slots,k b u (hb b n) q⟩,fun b u q n _=>by rw [upd_ne (hx b n)]; exact n,fun b u q _=>?_,
    fun b xs q=>by rw [upd_ne (hm b _ q fun z=>z)]; exact q,fun b u xs q=>by rw [upd_ne (hm b _ q fun z=>z)]; exact q,fun b ps q=>⟨#[],by rw [upd_ne (hm b _ q fun z=>z),q]; simp⟩⟩
  by_cases hbe:b=e
  · subst hbe; exact heo
  · exact ⟨u,k b u hbe q⟩
end
noncomputable def trk (h:Heap) (H:Hp):List Addr:=(List.range h.objs.size).filter fun a=>(H a).isSome
noncomputable def hidT (h:Heap) (H:Hp):Heap:=PySem.W.hideAll h (trk h H)
theorem hidT_size (h:Heap) (H:Hp):(hidT h H).objs.size=h.objs.size:=PySem.W.hideAll_size _ _
theorem hidT_get {h:Heap} {H:Hp} {b:Addr} {o:Obj} (e:h.get? b=some o) (n:H b=none):(hidT h H).get? b=some o:=
  PySem.W.hideAll_get _ e fun hm=>by
    have q:(H b).isSome=true:=(List.mem_filter.mp hm).2
    rw [n] at q; simp at q
theorem of_hidT {h:Heap} {H:Hp} {b:Addr} {o:Obj} (e:(hidT h H).get? b=some o):h.get? b=some o∧H b=none:=by
  have e':h.get? b=some o:=PySem.W.of_hideAll (trk h H) e
  refine ⟨e',?_⟩
  cases q:H b with
  | none=>rfl
  | some x=>
    have hm:b∈trk h H:=List.mem_filter.mpr ⟨List.mem_range.mpr (Heap.lt_size e'),by simp [q]⟩
    have z:(hidT h H).get? b=none:=PySem.W.hideAll_none (trk h H) hm
    rw [z] at e; cases e
end L2
namespace L2
open PySem PySem.Spec PyProof.Rows
structure Mod (K:PySem.W.Frag) (mg:Str→Option Value) (base:Heap):Prop where
  kin:K.In base
  glob:base.Ns mainGlobals mg
  blt:∃ mb,base.Ns builtinsNs mb∧∀ x:Str,x ≠ "__name__" → mb x=bootBuiltins x
  nolimit:base.NoLimit
structure Cx where
  prog:Program
  w:World
  K:PySem.W.Frag
  mg:Str→Option Value
  base:Heap
  A:Around
  N:List Str
  s₀:Shared
  H₀:Hp
  env:Env
  outer:List Env
  stack:List Env
  ex:List Addr
  fn:Str→Bool
  calm:Bool
  pn:List (Addr×Obj)
  xe:Value→Shared→Prop
noncomputable def frs (l:List Env):List Addr:=l.filterMap (·.frame)
noncomputable abbrev Cx.fs (X:Cx):List Addr:=frs X.outer
noncomputable def Vis (sc:Scope) (x:Str):Prop:=sc.names.lookup x=some .local∨sc.names.lookup x=some .cell∨sc.names.lookup x=some .free
noncomputable def Loc (sc:Scope) (x:Str):Prop:=sc.names.lookup x=some .local∨sc.names.lookup x=some .cell
noncomputable def Look (env:Env) (h:Heap) (m:Str→Option Value) (x:Str) (u:Value):Prop:=
  (env.kindOf x=some .local∧m x=some u)∨((env.kindOf x=some .cell∨env.kindOf x=some .free)∧∃ c,env.cells.lookup x=some c∧h.IsCell c (some u))
structure Cx.Ok (X:Cx):Prop where
  mod:Mod X.K X.mg X.base
  kind:X.env.scope.kind=.function
  glob:X.env.globals=mainGlobals
  blt:X.env.builtins=builtinsNs
  above:X.s₀.heap.objs.size≤X.env.locals
  inj:∀ x y c,X.env.cells.lookup x=some c→X.env.cells.lookup y=some c→x=y
  has:∀ x,(X.env.kindOf x=some .cell∨X.env.kindOf x=some .free)→∃ c,X.env.cells.lookup x=some c
  cab:∀ x c,X.fn x=true→X.env.cells.lookup x=some c→X.s₀.heap.objs.size≤c
  hd:X.calm=true→X.A.handled=none
  frames:X.A.frames=some X.stack
  stk:X.stack=X.outer∨(X.stack=X.env::X.outer∧X.env.frame=some X.env.locals)
  exf:∀ b∈X.ex,b≠X.env.locals∧∀ x c,X.env.cells.lookup x=some c→c≠b
  bs:∀ b o,X.base.get? b=some o→X.s₀.heap.get? b=some o∧X.H₀ b=none
  bsz:X.base.objs.size≤X.s₀.heap.objs.size
  noex:∀ b o,X.base.get? b=some o→b ∉ X.ex
  exfs:∀ b∈X.ex,b ∉ X.fs
  funs:X.s₀.heap.FunFrames X.base X.outer
  frf:∀ b∈X.fs,X.H₀ b=none
structure Inv (X:Cx) (pins:List (Addr×Obj)) (σ:List (Option V)) (H:Hp) (s:Shared):Prop where
  ok:X.Ok
  os:s.os=X.s₀.os
  bare:AllBare s.gens
  base:Un X.fs X.ex X.H₀ H X.s₀.heap s.heap
  loc:∃ m,s.heap.Ns X.env.locals m∧∀ (i:Nat) (x:Str) (v:V),X.N[i]?=some x→σ[i]?=some (some v)→Vis X.env.scope x→∃ u,RelV v u∧Look X.env s.heap m x u
  cell:∀ x c,X.env.cells.lookup x=some c→∃ v,s.heap.IsCell c v
  free:H X.env.locals=none
  freeC:∀ x c,X.env.cells.lookup x=some c→H c=none
  pin:∀ p∈X.pn++pins,s.heap.get? p.1=some p.2∧H p.1=none∧p.1≠X.env.locals∧p.1 ∉ X.fs∧∀ v,p.2.data≠.cell v
  hok:HOk X.prog X.w H s.heap
  len:σ.length=X.N.length
section
variable {X:Cx} {pins:List (Addr×Obj)} {σ:List (Option V)} {H H':Hp} {s:Shared} {h':Heap}
theorem Cx.Ok.nofr (ok:X.Ok) {b:Addr} {o:Obj} (e:X.base.get? b=some o):b ∉ X.fs:=fun hb=>by
  have:=(ok.funs.mem hb).1
  rw [e] at this; cases this
theorem Inv.bs (I:Inv X pins σ H s):∀ b o,X.base.get? b=some o→s.heap.get? b=some o∧H b=none:=fun b o e=>
  ⟨I.base.keep b o (I.ok.bs b o e).1 (I.ok.bs b o e).2 (I.ok.nofr e) (I.ok.noex b o e),I.base.free b o (I.ok.bs b o e).1 (I.ok.bs b o e).2 (I.ok.noex b o e)⟩
theorem Inv.bk (I:Inv X pins σ H s):∀ b o,X.base.get? b=some o→s.heap.get? b=some o:=fun b o e=>(I.bs b o e).1
theorem Inv.mod (I:Inv X pins σ H s):Mod X.K X.mg X.base:=I.ok.mod
theorem Inv.kIn (I:Inv X pins σ H s):X.K.In s.heap:=I.ok.mod.kin.keeps I.bk
theorem Inv.lt (I:Inv X pins σ H s):X.env.locals<s.heap.objs.size:=let ⟨_,hn,_⟩:=I.loc; hn.lt
theorem Inv.sz (I:Inv X pins σ H s):X.s₀.heap.objs.size≤s.heap.objs.size:=Nat.le_trans I.ok.above (Nat.le_of_lt I.lt)
theorem Inv.nofs (I:Inv X pins σ H s) {a:Addr} (h:s.heap.objs.size≤a):a ∉ X.fs:=fun hb=>by
  obtain ⟨_,o,ho,_⟩:=I.ok.funs.mem hb
  exact absurd (Nat.lt_of_lt_of_le (Heap.lt_size ho) (Nat.le_trans I.sz h)) (Nat.lt_irrefl _)
theorem Inv.cne (I:Inv X pins σ H s):∀ x c,X.env.cells.lookup x=some c→c≠X.env.locals:=fun x c e z=>by
  obtain ⟨v,o,ho,hd⟩:=I.cell x c e
  obtain ⟨m,⟨o',es,ep,ho',hd',_⟩,_⟩:=I.loc
  rw [z,ho'] at ho; cases ho; rw [hd'] at hd; cases hd
theorem Inv.funs (I:Inv X pins σ H s):s.heap.FunFrames X.base X.outer:=by
  have all:∀ (l:List Env),(∀ b∈frs l,b∈X.fs)→X.s₀.heap.FunFrames X.base l→s.heap.FunFrames X.base l:=by
    intro l
    induction l with
    | nil=>intro _ _; trivial
    | cons env r ih=>
      intro hs hl
      obtain ⟨hk,⟨L,o,hf,hn,ho,hd⟩,hr⟩:=hl
      have hL:L∈X.fs:=hs L (by unfold frs; rw [List.filterMap_cons,hf]; exact List.mem_cons_self)
      obtain ⟨sl,e⟩:=I.base.slot L o ho (I.ok.frf L hL) hL fun z=>I.ok.exfs L z hL
      exact ⟨hk,⟨L,_,hf,hn,e,hd⟩,ih (fun b hb=>hs b (by unfold frs; rw [List.filterMap_cons,hf]; exact List.mem_cons_of_mem _ hb)) hr⟩
  exact all X.outer (fun _ hb=>hb) I.ok.funs
theorem Inv.stack (I:Inv X pins σ H s):s.heap.FunFrames X.base X.stack:=by
  rcases I.ok.stk with e | ⟨e,hf⟩
  · rw [e]; exact I.funs
  · rw [e]
    obtain ⟨m,hn,_⟩:=I.loc
    refine .cons (by rw [I.ok.kind]; decide) hf hn ?_ I.funs
    exact Heap.get?_none_of_le (Nat.le_trans I.ok.bsz I.ok.above)
theorem Inv.stkSub (I:Inv X pins σ H s):∀ b∈frs X.stack,b∈X.env.locals::X.fs:=fun b hb=>by
  rcases I.ok.stk with e | ⟨e,hf⟩
  · rw [e] at hb; exact List.mem_cons_of_mem _ hb
  · rw [e] at hb
    unfold frs at hb
    rw [List.filterMap_cons,hf] at hb
    exact hb
theorem Inv.stkFree (I:Inv X pins σ H s):∀ b∈frs X.stack,H b=none:=fun b hb=>by
  rcases List.mem_cons.mp (I.stkSub b hb) with e | hb
  · rw [e]; exact I.free
  · obtain ⟨_,o,ho,_⟩:=I.ok.funs.mem hb
    exact I.base.free b o ho (I.ok.frf b hb) fun z=>I.ok.exfs b z hb
theorem Inv.step {g':Array GenState} {t':Nat} {d':Drawn} {ch:List Addr} (I:Inv X pins σ H s)
    (hch:∀ b∈ch,(b∈X.ex∨X.s₀.heap.objs.size≤b)∧b≠X.env.locals∧(∀ x c,X.env.cells.lookup x=some c→c≠b)∧∀ p∈X.pn++pins,p.1≠b)
    (keep:∀ b o,b≠X.env.locals→b ∉ X.fs→b ∉ ch→s.heap.get? b=some o→H b=none→h'.get? b=some o)
    (slot:∀ b o,b≠X.env.locals→b∈X.fs→b ∉ ch→s.heap.get? b=some o→H b=none→∃ sl,h'.get? b=some { o with slots:=sl }) (free:∀ b o,b ∉ ch→s.heap.get? b=some o→H b=none→H' b=none)
    (there:∀ b o,b ∉ ch→s.heap.get? b=some o→∃ o',h'.get? b=some o')
    (tups:∀ b xs,H b=some (.tup xs)→H' b=some (.tup xs)) (frzs:∀ b o u,H b=some (.frz o u)→H' b=some (.frz o u)) (tbls:∀ b ps,H b=some (.tbl ps)→∃ more,H' b=some (.tbl (ps++more)))
    (ns:∀ m,s.heap.Ns X.env.locals m→h'.Ns X.env.locals m) (hok:HOk X.prog X.w H' h') (hg:AllBare g') :
    Inv X pins σ H' { s with heap:=h',gens:=g',drawn:=d',toks:=t' }:=by
  have neL:∀ b o,X.s₀.heap.get? b=some o→b≠X.env.locals:=fun b o e=>Nat.ne_of_lt (Nat.lt_of_lt_of_le (Heap.lt_size e) I.ok.above)
  have neC:∀ b o,X.s₀.heap.get? b=some o→b ∉ X.ex→b ∉ ch:=fun b o e hx hb=>by
    rcases (hch b hb).1 with z | z
    · exact hx z
    · exact absurd (Nat.lt_of_lt_of_le (Heap.lt_size e) z) (Nat.lt_irrefl _)
  have cellK:∀ x c,X.env.cells.lookup x=some c→∀ v,s.heap.IsCell c v→h'.IsCell c v:=fun x c e v ⟨o,ho,hd⟩=>by
    have nch:c ∉ ch:=fun z=>(hch c z).2.2.1 x c e rfl
    by_cases hc:c∈X.fs
    · obtain ⟨sl,q⟩:=slot c o (I.cne x c e) hc nch ho (I.freeC x c e)
      exact ⟨_,q,hd⟩
    · exact ⟨o,keep c o (I.cne x c e) hc nch ho (I.freeC x c e),hd⟩
  refine ⟨I.ok,I.os,hg,⟨fun b o e n hb hx=>?_,fun b o e n hb hx=>?_,fun b o e n hx=>?_,fun b o e hx=>?_,fun b xs e=>tups b xs (I.base.tups b xs e),fun b o xs e=>frzs b o xs (I.base.frzs b o xs e),fun b ps e=>?_⟩,?_,fun x c e=>?_,?_,fun x c e=>?_,fun p hp=>?_,hok,I.len⟩
  · exact keep b o (neL b o e) hb (neC b o e hx) (I.base.keep b o e n hb hx) (I.base.free b o e n hx)
  · obtain ⟨sl,e1⟩:=I.base.slot b o e n hb hx
    obtain ⟨sl',e2⟩:=slot b _ (neL b o e) hb (neC b o e hx) e1 (I.base.free b o e n hx)
    exact ⟨sl',e2⟩
  · obtain ⟨o',e1⟩:=I.base.there b o e hx
    exact free b o' (neC b o e hx) e1 (I.base.free b o e n hx)
  · obtain ⟨o',e1⟩:=I.base.there b o e hx
    exact there b o' (neC b o e hx) e1
  · obtain ⟨m1,e1⟩:=I.base.tbls b ps e
    obtain ⟨m2,e2⟩:=tbls b _ e1
    exact ⟨m1++m2,by rw [e2,Array.append_assoc]⟩
  · obtain ⟨m,hn,hl⟩:=I.loc
    refine ⟨m,ns m hn,fun i x v e1 e2 e3=>?_⟩
    obtain ⟨u,r,l⟩:=hl i x v e1 e2 e3
    refine ⟨u,r,?_⟩
    rcases l with l | ⟨k,c,e,z⟩
    · exact .inl l
    · exact .inr ⟨k,c,e,cellK x c e _ z⟩
  · obtain ⟨v,z⟩:=I.cell x c e
    exact ⟨v,cellK x c e v z⟩
  · obtain ⟨m,⟨o,_,_,ho,_⟩,_⟩:=I.loc
    exact free _ o (fun z=>(hch _ z).2.1 rfl) ho I.free
  · obtain ⟨v,o,ho,hd⟩:=I.cell x c e
    exact free c o (fun z=>(hch c z).2.2.1 x c e rfl) ho (I.freeC x c e)
  · obtain ⟨e,n,ne,nf,d⟩:=I.pin p hp
    have nch:p.1 ∉ ch:=fun z=>(hch p.1 z).2.2.2 p hp rfl
    exact ⟨keep p.1 p.2 ne nf nch e n,free p.1 p.2 nch e n,ne,nf,d⟩
theorem Inv.un {t':Nat} (I:Inv X pins σ H s) (u:Un X.fs [] H H' s.heap h') (hok:HOk X.prog X.w H' h'):Inv X pins σ H' { s with heap:=h',toks:=t' }:=by
  obtain ⟨m,⟨o,es,ep,ho,r⟩,_⟩:=id I.loc
  obtain ⟨sl,hL⟩:=u.any ho I.free (by simp)
  exact I.step (g':=s.gens) (d':=s.drawn) (ch:=[]) (fun _ z=>nomatch z) (fun b o _ hb _ e n=>u.keep b o e n hb (by simp)) (fun b o _ hb _ e n=>u.slot b o e n hb (by simp)) (fun b o _ e n=>u.free b o e n (by simp)) (fun b o _ e=>u.there b o e (by simp)) u.tups u.frzs u.tbls (fun m' hm=>by
    obtain ⟨o',es',ep',ho',r'⟩:=hm
    rw [ho] at ho'; cases ho'
    exact ⟨_,es',ep',hL,r'⟩) hok I.bare
theorem Inv.call {g':Array GenState} {t':Nat} {d':Drawn} {ch:List Addr} (I:Inv X pins σ H s) (u:Un (frs X.stack) ch H H' s.heap h') (hok:HOk X.prog X.w H' h') (hg:AllBare g')
    (hch:∀ b∈ch,(b∈X.ex∨X.s₀.heap.objs.size≤b)∧b≠X.env.locals∧(∀ x c,X.env.cells.lookup x=some c→c≠b)∧∀ p∈X.pn++pins,p.1≠b) :
    Inv X pins σ H' { s with heap:=h',gens:=g',drawn:=d',toks:=t' }:=by
  obtain ⟨m,⟨o,es,ep,ho,r⟩,_⟩:=id I.loc
  obtain ⟨sl,hL⟩:=u.any ho I.free fun z=>(hch _ z).2.1 rfl
  exact I.step (ch:=ch) hch (fun b o hL hb hc e n=>u.keep b o e n (fun z=>(List.mem_cons.mp (I.stkSub b z)).elim hL hb) hc) (fun b o _ _ hc e n=>u.any e n hc) (fun b o hc e n=>u.free b o e n hc) (fun b o hc e=>u.there b o e hc) u.tups u.frzs u.tbls (fun m' hm=>by
    obtain ⟨o',es',ep',ho',r'⟩:=hm
    rw [ho] at ho'; cases ho'
    exact ⟨_,es',ep',hL,r'⟩) hok hg
theorem Inv.turned {t':Nat} {it:Addr} (I:Inv X pins σ H s) (k:∀ b o,b≠it→s.heap.get? b=some o→h'.get? b=some o) (hn:H it=none) (hL:it≠X.env.locals)
    (h1:it∈X.ex∨X.s₀.heap.objs.size≤it) (h2:∀ x c,X.env.cells.lookup x=some c→c≠it) (h3:∀ p∈X.pn++pins,p.1≠it):Inv X pins σ H { s with heap:=h',toks:=t' }:=by
  have nit:∀ b u,H b=some u→b≠it:=fun b u e z=>by rw [z,hn] at e; cases e
  refine I.step (g':=s.gens) (d':=s.drawn) (ch:=[it]) (fun b hb=>?_) (fun b o _ _ hc e _=>k b o (fun z=>hc (by simp [z])) e) (fun b o _ _ hc e _=>⟨o.slots,k b o (fun z=>hc (by simp [z])) e⟩) (fun _ _ _ _ n=>n)
    (fun b o hc e=>⟨o,k b o (fun z=>hc (by simp [z])) e⟩) (fun _ _ e=>e) (fun _ _ _ e=>e) (fun b ps e=>⟨#[],by rw [e]; simp⟩) (fun m hm=>?_) (fun b u e=>?_) I.bare
  · have e:b=it:=by simpa using hb
    subst e
    exact ⟨h1,hL,h2,h3⟩
  · obtain ⟨o,es,ep,ho,r⟩:=hm
    exact ⟨o,es,ep,k _ o (Ne.symm hL) ho,r⟩
  · refine (I.hok b u e).stay (fun c v hc q=>k c v ?_ q) (fun _ q=>q) fun _ _ q=>q
    rcases hc with z | z
    · rw [z]; exact nit b u e
    · exact nit c _ z
theorem Inv.tok (I:Inv X pins σ H s) (t:Nat):Inv X pins σ H { s with toks:=t }:=I.un (h':=s.heap) (t':=t) Un.refl I.hok
theorem Inv.kept {t':Nat} (I:Inv X pins σ H s) (k:∀ b u,s.heap.get? b=some u→h'.get? b=some u):Inv X pins σ H { s with heap:=h',toks:=t' }:=I.un (Un.kept k) (I.hok.kept k)
theorem Inv.laid {a:Addr} {o:HO} {t':Nat} (I:Inv X pins σ H s) (k:∀ b u,s.heap.get? b=some u→h'.get? b=some u) (hp:s.heap.objs.size≤a) (new:ObjOk X.prog X.w (upd H a o) h' a o) :
    Inv X pins σ (upd H a o) { s with heap:=h',toks:=t' }:=I.un (Un.laid k hp (I.hok.fresh hp)) (I.hok.laid k hp new)
theorem Inv.write {x e:Addr} {o:HO} {t':Nat} (I:Inv X pins σ H s) (mu:Mut (H x)) (he:e=x∨H e=some (.own x)) (k:∀ b u,b≠e→s.heap.get? b=some u→h'.get? b=some u) (heo:∃ u,h'.get? e=some u)
    (new:ObjOk X.prog X.w (upd H x o) h' x o):Inv X pins σ (upd H x o) { s with heap:=h',toks:=t' }:=I.un (Un.write mu he k heo) (I.hok.write mu he k heo new)
theorem Inv.weak {σ':List (Option V)} (I:Inv X pins σ H s) (hl:σ'.length=σ.length) (w:∀ (i:Nat) v,σ'[i]?=some (some v)→σ[i]?=some (some v)):Inv X pins σ' H s:=
  ⟨I.ok,I.os,I.bare,I.base,let ⟨m,hn,hl'⟩:=I.loc; ⟨m,hn,fun i x v e1 e2 e3=>hl' i x v e1 (w i v e2) e3⟩,I.cell,I.free,I.freeC,I.pin,I.hok,hl.trans I.len⟩
theorem Inv.pins_of {pins':List (Addr×Obj)} (I:Inv X pins σ H s) (h:∀ p∈pins',s.heap.get? p.1=some p.2∧H p.1=none∧p.1≠X.env.locals∧p.1 ∉ X.fs∧∀ v,p.2.data≠.cell v):Inv X pins' σ H s:=
  ⟨I.ok,I.os,I.bare,I.base,I.loc,I.cell,I.free,I.freeC,fun p hp=>(List.mem_append.mp hp).elim (fun z=>I.pin p (List.mem_append_left _ z)) (h p),I.hok,I.len⟩
theorem nodup_ix {N:List Str} (hN:N.Nodup) {i j:Nat} {x:Str} (a:N[i]?=some x) (b:N[j]?=some x):i=j:=by
  obtain ⟨h1,e1⟩:=List.getElem?_eq_some_iff.mp a
  obtain ⟨h2,e2⟩:=List.getElem?_eq_some_iff.mp b
  exact (List.getElem_inj hN).mp (e1.trans e2.symm)
theorem store_ok2 {M:Model} {A:Around} {E:Value→Shared→Prop} {i:Nat} {x:Str} {v:V} {u:Value} {Q:Unit→Shared→Prop} (I:Inv X pins σ H s) (hN:X.N.Nodup) (hi:X.N[i]?=some x) (hx:Loc X.env.scope x) (r:RelV v u)
    (h:∀ s',Inv X pins (σ.set i (some v)) H s'→(∃ a,Heap.SameBut a s.heap s'.heap∧(a=X.env.locals∨X.env.cells.lookup x=some a))→Q () s') (hf:X.fn x=true∨X.env.scope.names.lookup x=some .local:=by first | exact .inl rfl | exact .inr rfl | assumption):wpAny M A (storeName X.env x u) Q E s:=by
  obtain ⟨m,hn,hl⟩:=id I.loc
  have hcls:(X.env.scope.kind == .class||(X.env.scope.kind == .module&&X.env.locals != X.env.globals))=false:=by rw [I.ok.kind]; rfl
  have hiσ:i<σ.length:=by rw [I.len]; exact (List.getElem?_eq_some_iff.mp hi).1
  have cne:=I.cne
  have tracked:∀ {a:Addr} {h':Heap},(∃ o,s.heap.get? a=some o∧H a=none)→Heap.SameBut a s.heap h'→HOk X.prog X.w H h':=fun {a h'} ha hs b ob e=>by
    obtain ⟨_,_,hfree⟩:=ha
    refine (I.hok b ob e).stay (fun c w' hc q=>(hs.2 c ?_).trans q) (fun _ q=>q) fun _ _ q=>q
    rintro rfl
    rcases hc with rfl | hc
    · rw [hfree] at e; cases e
    · rw [hfree] at hc; cases hc
  rcases hx with hk | hk
  · refine wpAny_storeName_local hk hn (fun h' hn' hs=>?_) hcls
    obtain ⟨oL,_,_,hoL,_⟩:=id hn
    refine h _ ⟨I.ok,I.os,I.bare,⟨fun b o e n hb hx=>?_,fun b o e n hb hx=>?_,I.base.free,fun b o e hx=>?_,I.base.tups,I.base.frzs,I.base.tbls⟩,⟨_,hn',fun j y v' e1 e2 e3=>?_⟩,fun y c e=>?_,I.free,I.freeC,fun p hp=>?_,tracked ⟨oL,hoL,I.free⟩ hs,by simpa using I.len⟩ ⟨_,hs,.inl rfl⟩
    · exact (hs.2 b (Nat.ne_of_lt (Nat.lt_of_lt_of_le (Heap.lt_size e) I.ok.above))).trans (I.base.keep b o e n hb hx)
    · obtain ⟨sl,e1⟩:=I.base.slot b o e n hb hx
      exact ⟨sl,(hs.2 b (Nat.ne_of_lt (Nat.lt_of_lt_of_le (Heap.lt_size e) I.ok.above))).trans e1⟩
    · obtain ⟨o',e1⟩:=I.base.there b o e hx
      exact ⟨o',(hs.2 b (Nat.ne_of_lt (Nat.lt_of_lt_of_le (Heap.lt_size e) I.ok.above))).trans e1⟩
    · by_cases hj:j=i
      · subst hj
        rw [hi] at e1; cases e1
        rw [List.getElem?_set_self hiσ] at e2
        cases e2
        exact ⟨u,r,.inl ⟨hk,by simp⟩⟩
      · rw [List.getElem?_set_ne (Ne.symm hj)] at e2
        obtain ⟨u',r',q⟩:=hl j y v' e1 e2 e3
        refine ⟨u',r',?_⟩
        rcases q with ⟨k,e⟩ | ⟨k,c,e,z⟩
        · refine .inl ⟨k,?_⟩
          have:y≠x:=fun e=>hj (nodup_ix hN e1 (e ▸ hi))
          simp [this,e]
        · exact .inr ⟨k,c,e,z.sameBut hs (cne y c e)⟩
    · obtain ⟨w',z⟩:=I.cell y c e
      exact ⟨w',z.sameBut hs (cne y c e)⟩
    · obtain ⟨e,n,ne,nf,d⟩:=I.pin p hp
      exact ⟨(hs.2 p.1 ne).trans e,n,ne,nf,d⟩
  · have hfn:X.fn x=true:=by
      rcases hf with z | z
      · exact z
      · rw [z] at hk; cases hk
    obtain ⟨c,hc⟩:=I.ok.has x (.inl hk)
    obtain ⟨w',z⟩:=I.cell x c hc
    refine wpAny_storeName_cell I.ok.kind hk hc z (fun h' hc' hs=>?_)
    obtain ⟨oc,hoc,hocd⟩:=id z
    refine h { s with heap:=h' } ⟨I.ok,I.os,I.bare,⟨fun b o e n hb hx=>?_,fun b o e n hb hx=>?_,I.base.free,fun b o e hx=>?_,I.base.tups,I.base.frzs,I.base.tbls⟩,⟨m,hn.sameBut hs (Ne.symm (cne x c hc)),fun j y v' e1 e2 e3=>?_⟩,fun y c' e=>?_,I.free,I.freeC,fun p hp=>?_,tracked ⟨oc,hoc,I.freeC x c hc⟩ hs,by simpa using I.len⟩ ⟨c,hs,.inr hc⟩
    · exact (hs.2 b (Nat.ne_of_lt (Nat.lt_of_lt_of_le (Heap.lt_size e) (I.ok.cab x c hfn hc)))).trans (I.base.keep b o e n hb hx)
    · obtain ⟨sl,e1⟩:=I.base.slot b o e n hb hx
      exact ⟨sl,(hs.2 b (Nat.ne_of_lt (Nat.lt_of_lt_of_le (Heap.lt_size e) (I.ok.cab x c hfn hc)))).trans e1⟩
    · obtain ⟨o',e1⟩:=I.base.there b o e hx
      exact ⟨o',(hs.2 b (Nat.ne_of_lt (Nat.lt_of_lt_of_le (Heap.lt_size e) (I.ok.cab x c hfn hc)))).trans e1⟩
    · by_cases hj:j=i
      · subst hj
        rw [hi] at e1; cases e1
        rw [List.getElem?_set_self hiσ] at e2
        cases e2
        exact ⟨u,r,.inr ⟨.inl hk,c,hc,hc'⟩⟩
      · rw [List.getElem?_set_ne (Ne.symm hj)] at e2
        obtain ⟨u',r',q⟩:=hl j y v' e1 e2 e3
        refine ⟨u',r',?_⟩
        rcases q with q | ⟨k,c',e,z'⟩
        · exact .inl q
        · refine .inr ⟨k,c',e,z'.sameBut hs ?_⟩
          rintro rfl
          exact hj (nodup_ix hN e1 (I.ok.inj _ _ _ e hc ▸ hi))
    · by_cases hcc:c'=c
      · subst hcc; exact ⟨_,hc'⟩
      · obtain ⟨w2,z2⟩:=I.cell y c' e
        exact ⟨w2,z2.sameBut hs hcc⟩
    · obtain ⟨e,n,ne,nf,d⟩:=I.pin p hp
      refine ⟨(hs.2 p.1 ?_).trans e,n,ne,nf,d⟩
      intro q
      rw [q,hoc] at e
      have q':oc=p.2:=Option.some.inj e
      exact d w' (by rw [← q']; exact hocd)
theorem store_ok {M:Model} {A:Around} {E:Value→Shared→Prop} {i:Nat} {x:Str} {v:V} {u:Value} {Q:Unit→Shared→Prop} (I:Inv X pins σ H s) (hN:X.N.Nodup) (hi:X.N[i]?=some x) (hx:Loc X.env.scope x) (r:RelV v u)
    (h:∀ s',Inv X pins (σ.set i (some v)) H s'→Q () s') (hf:X.fn x=true∨X.env.scope.names.lookup x=some .local:=by first | exact .inl rfl | exact .inr rfl | assumption):wpAny M A (storeName X.env x u) Q E s:=
  store_ok2 I hN hi hx r (fun s' I' _=>h s' I') hf
theorem Inv.call' {s':Shared} {ch:List Addr} (I:Inv X pins σ H s) (ho:s'.os=s.os) (u:Un (frs X.stack) ch H H' s.heap s'.heap) (hok:HOk X.prog X.w H' s'.heap) (hg:AllBare s'.gens)
    (hch:∀ b∈ch,(b∈X.ex∨X.s₀.heap.objs.size≤b)∧b≠X.env.locals∧(∀ x c,X.env.cells.lookup x=some c→c≠b)∧∀ p∈X.pn++pins,p.1≠b):Inv X pins σ H' s':=by
  obtain ⟨h',g',d',t',o'⟩:=s'
  have e:o'=s.os:=ho
  subst e
  exact I.call (g':=g') (t':=t') (d':=d') u hok hg hch
end
noncomputable abbrev XK:=Value→Option Addr→Hp→Prop
noncomputable abbrev St:=List (Option V)
noncomputable abbrev VK:=V→Hp→Prop
noncomputable abbrev TE:=St→Hp→VK→Prop
noncomputable abbrev TT:=St→Hp→(Bool→Hp→Prop)→Prop
noncomputable abbrev TA:=St→Hp→(List V→Hp→Prop)→Prop
structure Ends where
  nx:St→Hp→Prop
  rt:VK
  bk:St→Hp→Prop:=fun _ _=>False
  ct:St→Hp→Prop:=fun _ _=>False
noncomputable abbrev TS:=Ends→St→Hp→Prop
noncomputable def EP (X:Cx) (pins:List (Addr×Obj)) (σ:St) (Q:VK) (u:Value) (s':Shared):Prop:=∃ v H',Inv X pins σ H' s'∧RelV v u∧Q v H'
noncomputable def TP (X:Cx) (pins:List (Addr×Obj)) (σ:St) (Q:Bool→Hp→Prop) (b:Bool) (s':Shared):Prop:=∃ H',Inv X pins σ H' s'∧Q b H'
noncomputable def AP (X:Cx) (pins:List (Addr×Obj)) (σ:St) (Q:List V→Hp→Prop) (us:List Value) (s':Shared):Prop:=∃ vs H',Inv X pins σ H' s'∧Vals vs us∧Q vs H'
noncomputable def SP (X:Cx) (pins:List (Addr×Obj)) (D:Ends) (f:Flow) (s':Shared):Prop:=
  match f with
  | .next=>∃ σ' H',Inv X pins σ' H' s'∧D.nx σ' H'
  | .brk=>∃ σ' H',Inv X pins σ' H' s'∧D.bk σ' H'
  | .cont=>∃ σ' H',Inv X pins σ' H' s'∧D.ct σ' H'
  | .ret u=>∃ v σ' H',Inv X pins σ' H' s'∧RelV v u∧D.rt v H'
noncomputable def PE (X:Cx) (e:Expr) (t:TE):Prop:=
  ∀ (pins:List (Addr×Obj)) (s:Shared) (σ:St) (H:Hp) (Q:VK),Inv X pins σ H s→t σ H Q→wpAny (model X.prog X.w) X.A (eval e X.env) (EP X pins σ Q) X.xe s
noncomputable def PT (X:Cx) (e:Expr) (t:TT):Prop:=
  ∀ (pins:List (Addr×Obj)) (s:Shared) (σ:St) (H:Hp) (Q:Bool→Hp→Prop),Inv X pins σ H s→t σ H Q→wpAny (model X.prog X.w) X.A (isTrue e X.env (eval e X.env)) (TP X pins σ Q) X.xe s
noncomputable def PW (X:Cx) (e:Expr) (t:TT):Prop:=
  ∀ (whole:Sem Value) (pins:List (Addr×Obj)) (s:Shared) (σ:St) (H:Hp) (Q:Bool→Hp→Prop),Inv X pins σ H s→t σ H Q→wpAny (model X.prog X.w) X.A (isTrue e X.env whole) (TP X pins σ Q) X.xe s
theorem PW.pt {X:Cx} {e:Expr} {t:TT} (h:PW X e t):PT X e t:=h _
noncomputable def PA (X:Cx) (es:List Expr) (t:TA):Prop:=
  ∀ (pos:Pos) (pins:List (Addr×Obj)) (s:Shared) (σ:St) (H:Hp) (Q:List V→Hp→Prop),Inv X pins σ H s→t σ H Q→wpAny (model X.prog X.w) X.A (spliced (backTo pos (starEach es X.env))) (AP X pins σ Q) X.xe s
noncomputable def PS (X:Cx) (st:Stmt) (t:TS):Prop:=
  ∀ (pins:List (Addr×Obj)) (s:Shared) (σ:St) (H:Hp) (D:Ends),Inv X pins σ H s→t D σ H→wpAny (model X.prog X.w) X.A (exec st X.env) (SP X pins D) X.xe s
noncomputable def PSs (X:Cx) (st:List Stmt) (t:TS):Prop:=
  ∀ (pins:List (Addr×Obj)) (s:Shared) (σ:St) (H:Hp) (D:Ends),Inv X pins σ H s→t D σ H→wpAny (model X.prog X.w) X.A (execs st X.env) (SP X pins D) X.xe s
theorem thn {α:Type} {t:Sem α} {Q Q':α→Shared→Prop} {M:Model} {A:Around} {E:Value→Shared→Prop} {s:Shared} (h:wpAny M A t Q E s) (hQ:∀ a s,Q a s→Q' a s):wpAny M A t Q' E s:=wpAny_mono h hQ fun _ _ x=>x
end L2
namespace L2
open PySem PySem.Spec PyProof.Rows
section
variable {X:Cx}
noncomputable def tVar (i:Nat):TE:=fun σ H Q=>∃ v,σ[i]?=some (some v)∧Q v H
noncomputable def tC (v:V):TE:=fun _ H Q=>Q v H
theorem pe_var {i:Nat} {x:Str} {pos:Pos} (hN:X.N[i]?=some x) (hv:Vis X.env.scope x) (hd:(x == ("__debug__" : Str))=false:=by decide) (hcd:(x == ("__classdict__" : Str))=false:=by decide):PE X (.Name x pos) (tVar i):=by
  intro pins s σ H Q I h
  obtain ⟨v,e,h⟩:=h
  obtain ⟨m,hn,hl⟩:=I.loc
  obtain ⟨u,r,l⟩:=hl i x v hN e hv
  have fin:EP X pins σ Q u s:=⟨v,H,I,r,h⟩
  rcases l with ⟨hk,hm⟩ | ⟨hk,c,hc,hcell⟩
  · exact wpAny_Name (wpAny_loadName_local I.ok.kind hk hn hm fin) hd
  · rcases hk with hk | hk
    · exact wpAny_Name (wpAny_loadName_cell I.ok.kind hk hc hcell fin) hd
    · exact wpAny_Name (wpAny_loadName_free I.ok.kind hk hc hcell fin hcd) hd
theorem pe_int {i j pos}:PE X (.Constant (.int i) j pos) (tC (.int i)):=fun _ _ _ H _ I h=>wpAny_Constant_int ⟨.int i,H,I.tok _,⟨_,rfl⟩,h⟩
theorem pe_bl {b j pos}:PE X (.Constant (.bool b) j pos) (tC (.bl b)):=fun _ _ _ H _ I h=>Constant_bool ⟨.bl b,H,I,rfl,h⟩
theorem pe_non {j pos}:PE X (.Constant .none j pos) (tC .non):=fun _ _ _ H _ I h=>Constant_none ⟨.non,H,I,rfl,h⟩
theorem pe_str {x j pos}:PE X (.Constant (.str x) j pos) (tC (.str x)):=fun _ _ _ H _ I h=>Calls.Constant_str ⟨.str x,H,I.tok _,⟨_,rfl⟩,h⟩
noncomputable def Gl (X:Cx) (x:Str):Prop:=X.env.kindOf x=some .globalImplicit
theorem ld_glob {E:Value→Shared→Prop} {pins:List (Addr×Obj)} {s:Shared} {σ:St} {H:Hp} {x:Str} {u:Value} {pos:Pos} {Q:Value→Shared→Prop} (I:Inv X pins σ H s) (hg:Gl X x) (hm:X.mg x=some u) (h:Q u s)
    (hd:(x == ("__debug__" : Str))=false:=by decide):wpAny (model X.prog X.w) X.A (eval (.Name x pos) X.env) Q E s:=
  Calls.Name_function_global I.ok.kind hg (Calls.loadGlobal_global (by rw [I.ok.glob]; exact I.mod.glob.keeps I.bk) hm h) hd
theorem ld_blt {E:Value→Shared→Prop} {pins:List (Addr×Obj)} {s:Shared} {σ:St} {H:Hp} {x:Str} {u:Value} {pos:Pos} {Q:Value→Shared→Prop} (I:Inv X pins σ H s) (hg:Gl X x) (hm:X.mg x=none) (hv:bootBuiltins x=some u) (h:Q u s)
    (hn:x ≠ "__name__" := by decide) (hd:(x == ("__debug__" : Str))=false:=by decide):wpAny (model X.prog X.w) X.A (eval (.Name x pos) X.env) Q E s:=by
  obtain ⟨mb,h1,h2⟩:=I.mod.blt
  exact Calls.Name_function_global I.ok.kind hg (Calls.loadGlobal_builtin (by rw [I.ok.glob]; exact I.mod.glob.keeps I.bk) hm (by rw [I.ok.blt]; exact h1.keeps I.bk) ((h2 x hn).trans hv) h) hd
theorem pe_glob {x:Str} {v:V} {u:Value} {pos:Pos} (hg:Gl X x) (hm:X.mg x=some u) (r:RelV v u) (hd:(x == ("__debug__" : Str))=false:=by decide):PE X (.Name x pos) (tC v):=
  fun _ _ _ H _ I h=>ld_glob I hg hm ⟨v,H,I,r,h⟩ hd
theorem pe_bltn {x:Str} {v:V} {u:Value} {pos:Pos} (hg:Gl X x) (hm:X.mg x=none) (hv:bootBuiltins x=some u) (r:RelV v u) (hn:x ≠ "__name__" := by decide) (hd:(x == ("__debug__" : Str))=false:=by decide):PE X (.Name x pos) (tC v):=
  fun _ _ _ H _ I h=>ld_blt I hg hm hv ⟨v,H,I,r,h⟩ hn hd
variable {a b:Expr} {ta tb:TE} {pos:Pos}
noncomputable def tB (t:TE):TT:=fun σ H Q=>t σ H fun x H1=>∃ c,x=.bl c∧Q c H1
theorem pt_val {e:Expr} {t:TE} (h:PE X e t) (he:∀ whole,isTrue e X.env whole=(do let v ← whole; standAt e.pos; holding [v] (truthy v)):=by intro _; rfl):PT X e (tB t):=by
  intro pins s σ H Q I hw
  refine isTrue_plain (thn (h pins s σ H _ I hw) fun v s1 ⟨x,H1,I1,r1,q1⟩=>?_) (he _)
  obtain ⟨d,rfl,q⟩:=q1
  cases r1
  exact wpAny_truthy_bool ⟨H1,I1,q⟩
variable {tA tB':TT} {rest:List Expr}
noncomputable def tAnd (t u:TT):TT:=fun σ H Q=>t σ H fun c H1=>if c=true then u σ H1 Q else Q false H1
noncomputable def tOr (t u:TT):TT:=fun σ H Q=>t σ H fun c H1=>if c=true then Q true H1 else u σ H1 Q
noncomputable def tNot (t:TT):TT:=fun σ H Q=>t σ H fun c H1=>Q (!c) H1
theorem pw_and1 (ha:PT X a tA):PW X (.BoolOp .And [a] pos) tA:=by
  intro wh pins s σ H Q I h
  refine isTrue_and (thn (ha pins s σ H Q I h) fun c s1 e=>?_)
  cases c with
  | true=>exact isTrue_and_nil e
  | false=>exact e
theorem pw_or1 (ha:PT X a tA):PW X (.BoolOp .Or [a] pos) tA:=by
  intro wh pins s σ H Q I h
  refine isTrue_or (thn (ha pins s σ H Q I h) fun c s1 e=>?_)
  cases c with
  | false=>exact isTrue_or_nil e
  | true=>exact e
theorem pw_and (ha:PT X a tA) (hb:PW X (.BoolOp .And (b::rest) pos) tB'):PW X (.BoolOp .And (a::b::rest) pos) (tAnd tA tB'):=by
  intro wh pins s σ H Q I h
  refine isTrue_and (thn (ha pins s σ H _ I h) fun c s1 ⟨H1,I1,q1⟩=>?_)
  cases c with
  | true=>exact hb wh pins s1 σ H1 Q I1 q1
  | false=>exact ⟨H1,I1,q1⟩
theorem pw_or (ha:PT X a tA) (hb:PW X (.BoolOp .Or (b::rest) pos) tB'):PW X (.BoolOp .Or (a::b::rest) pos) (tOr tA tB'):=by
  intro wh pins s σ H Q I h
  refine isTrue_or (thn (ha pins s σ H _ I h) fun c s1 ⟨H1,I1,q1⟩=>?_)
  cases c with
  | true=>exact ⟨H1,I1,q1⟩
  | false=>exact hb wh pins s1 σ H1 Q I1 q1
theorem pt_not (ha:PT X a tA):PT X (.UnaryOp .Not a pos) (tNot tA):=by
  intro pins s σ H Q I h
  exact isTrue_not (ha pins s σ H (fun c H1=>Q (!c) H1) I h)
noncomputable def tAndV (ta tb:TE):TE:=fun σ H Q=>ta σ H fun x H1=>∃ c,x=.bl c∧if c=true then tb σ H1 Q else Q (.bl false) H1
theorem pe_one {op} {t:TE} (h:PE X a t):PE X (.BoolOp op [a] pos) t:=fun pins s σ H Q I hw=>BoolOp_one (h pins s σ H Q I hw)
theorem pe_and (ha:PE X a ta) (hb:PE X (.BoolOp .And (b::rest) pos) tb):PE X (.BoolOp .And (a::b::rest) pos) (tAndV ta tb):=by
  intro pins s σ H Q I h
  refine BoolOp_and (thn (ha pins s σ H _ I h) fun v s1 ⟨x,H1,I1,r1,q1⟩=>?_)
  obtain ⟨c,rfl,q1⟩:=q1
  cases r1
  refine wpAny_truthy_bool ?_
  cases c with
  | true=>exact hb pins s1 σ H1 Q I1 q1
  | false=>exact ⟨.bl false,H1,I1,rfl,q1⟩
noncomputable def tIf (t:TT) (ta tb:TE):TE:=fun σ H Q=>t σ H fun c H1=>if c=true then ta σ H1 Q else tb σ H1 Q
theorem pe_ifExp {c:Expr} (hc:PT X c tA) (ha:PE X a ta) (hb:PE X b tb):PE X (.IfExp c a b pos) (tIf tA ta tb):=by
  intro pins s σ H Q I h
  refine wpAny_IfExp (thn (hc pins s σ H _ I h) fun d s1 ⟨H1,I1,q1⟩=>?_)
  cases d with
  | true=>exact ha pins s1 σ H1 Q I1 q1
  | false=>exact hb pins s1 σ H1 Q I1 q1
end
end L2
namespace L2
open PySem PySem.Spec PyProof.Rows
noncomputable def SqL (K:PySem.W.Frag) (H:Hp) (a:Addr) (xs:List V):Prop:=
  Rd H a (.lst xs) ∨
    ∃ (o:Obj) (its:Array Value) (n:Nat),K.lookup a=some o∧o.cls=.type "list" ∧ o.dict=none∧o.data=.seq its n∧its.size≤sizeLine∧Vals xs its.toList
noncomputable def SqT (K:PySem.W.Frag) (H:Hp) (a:Addr) (xs:List V):Prop:=
  Rd H a (.tup xs) ∨
    ∃ (o:Obj) (its:Array Value) (n:Nat),K.lookup a=some o∧o.cls=.type "tuple" ∧ o.data=.seq its n∧its.size≤sizeLine∧Vals xs its.toList
noncomputable def absV:Value→Option V
  | .none=>some .non
  | .bool b=>some (.bl b)
  | .int i _=>some (.int i)
  | .str x _=>some (.str x)
  | .bytes b _=>some (.byt b)
  | .float b _=>some (.flt b)
  | .ref a=>some (.ref a)
  | .type n=>some (.ty n)
  | _=>none
theorem RelV.abs {x:V} {u:Value} (r:RelV x u):absV u=some x:=by
  cases x with
  | non=>cases r; rfl
  | bl _=>cases r; rfl
  | int _=>obtain ⟨t,rfl⟩:=r; rfl
  | str _=>obtain ⟨t,rfl⟩:=r; rfl
  | byt _=>obtain ⟨t,rfl⟩:=r; rfl
  | flt _=>obtain ⟨t,rfl⟩:=r; rfl
  | ref _=>cases r; rfl
  | ty _=>cases r; rfl
theorem RelV.inj {x y:V} {u:Value} (r:RelV x u) (q:RelV y u):x=y:=Option.some.inj (r.abs.symm.trans q.abs)
theorem Vals.inj:∀ {xs ys:List V} {us:List Value},Vals xs us→Vals ys us→xs=ys
  | _,_,_,.nil,.nil=>rfl
  | _,_,_,.cons r t,.cons r' t'=>by rw [r.inj r',Vals.inj t t']
section
variable {X:Cx} {pins:List (Addr×Obj)} {σ:St} {H:Hp} {s:Shared} {a:Addr} {xs ys:List V}
theorem SqL.of {K:PySem.W.Frag} (h:H a=some (.lst xs)):SqL K H a xs:=.inl (.inl h)
theorem SqT.of {K:PySem.W.Frag} (h:H a=some (.tup xs)):SqT K H a xs:=.inl (.inl h)
theorem Inv.list (I:Inv X pins σ H s) (h:SqL X.K H a xs):∃ its:List Value,Vals xs its∧PlainL s.heap a its.toArray∧xs.length≤sizeLine:=by
  rcases h with h | ⟨o,its,n,hk,hc,hd,hs,hz,r⟩
  · obtain ⟨z,its,n,r,e⟩:=h.ok I.hok
    exact ⟨its,r,⟨_,n,e,rfl,rfl,rfl⟩,z⟩
  · refine ⟨its.toList,r,⟨o,n,I.kIn a o hk,hc,hd,by simpa using hs⟩,?_⟩
    have e:=r.length
    simp only [Array.length_toList] at e
    omega
theorem Inv.tuple (I:Inv X pins σ H s) (h:SqT X.K H a xs):∃ its:List Value,Vals xs its∧IsTup s.heap a its.toArray∧xs.length≤sizeLine:=by
  rcases h with h | ⟨o,its,n,hk,hc,hs,hz,r⟩
  · obtain ⟨z,its,r,p⟩:=h.ok I.hok
    exact ⟨its,r,p,z⟩
  · refine ⟨its.toList,r,⟨o,I.kIn a o hk,hc,n,by simpa using hs⟩,?_⟩
    have e:=r.length
    simp only [Array.length_toList] at e
    omega
theorem Inv.list_inj (I:Inv X pins σ H s) (h:SqL X.K H a xs) (h':SqL X.K H a ys):xs=ys:=by
  obtain ⟨its,r,⟨o,n,e,_,_,d⟩,_⟩:=I.list h
  obtain ⟨its',r',⟨o',n',e',_,_,d'⟩,_⟩:=I.list h'
  rw [e] at e'; cases e'
  rw [d] at d'
  injection d' with d1 _
  have:its=its':=by simpa using congrArg Array.toList d1
  subst this
  exact r.inj r'
theorem Inv.tuple_inj (I:Inv X pins σ H s) (h:SqT X.K H a xs) (h':SqT X.K H a ys):xs=ys:=by
  obtain ⟨its,r,⟨o,e,_,n,d⟩,_⟩:=I.tuple h
  obtain ⟨its',r',⟨o',e',_,n',d'⟩,_⟩:=I.tuple h'
  rw [e] at e'; cases e'
  rw [d] at d'
  injection d' with d1 _
  have:its=its':=by simpa using congrArg Array.toList d1
  subst this
  exact r.inj r'
end
noncomputable abbrev Cx.wish (X:Cx) (E:Value→Shared→Prop):Cx:={ X with xe:=E }
noncomputable abbrev Cx.nox (X:Cx):Cx:=X.wish fun _ _=>False
theorem Cx.Ok.wish {X:Cx} (ok:X.Ok) (E:Value→Shared→Prop):(X.wish E).Ok:=
  ⟨ok.mod,ok.kind,ok.glob,ok.blt,ok.above,ok.inj,ok.has,ok.cab,ok.hd,ok.frames,ok.stk,ok.exf,ok.bs,ok.bsz,ok.noex,ok.exfs,ok.funs,ok.frf⟩
theorem Cx.Ok.unwish {X:Cx} {E:Value→Shared→Prop} (ok:(X.wish E).Ok):X.Ok:=
  ⟨ok.mod,ok.kind,ok.glob,ok.blt,ok.above,ok.inj,ok.has,ok.cab,ok.hd,ok.frames,ok.stk,ok.exf,ok.bs,ok.bsz,ok.noex,ok.exfs,ok.funs,ok.frf⟩
section
variable {X:Cx} {pins:List (Addr×Obj)} {σ:St} {H:Hp} {s:Shared} {E:Value→Shared→Prop}
theorem Inv.wish (I:Inv X pins σ H s) (E:Value→Shared→Prop):Inv (X.wish E) pins σ H s:=⟨I.ok.wish E,I.os,I.bare,I.base,I.loc,I.cell,I.free,I.freeC,I.pin,I.hok,I.len⟩
theorem Inv.unwish (I:Inv (X.wish E) pins σ H s):Inv X pins σ H s:=⟨I.ok.unwish,I.os,I.bare,I.base,I.loc,I.cell,I.free,I.freeC,I.pin,I.hok,I.len⟩
theorem SP.unwish {D:Ends} {f:Flow} {s':Shared} (h:SP (X.wish E) pins D f s'):SP X pins D f s':=by
  cases f with
  | next=>obtain ⟨σ',H',I,q⟩:=h; exact ⟨σ',H',I.unwish,q⟩
  | brk=>obtain ⟨σ',H',I,q⟩:=h; exact ⟨σ',H',I.unwish,q⟩
  | cont=>obtain ⟨σ',H',I,q⟩:=h; exact ⟨σ',H',I.unwish,q⟩
  | ret u=>obtain ⟨v,σ',H',I,r,q⟩:=h; exact ⟨v,σ',H',I.unwish,r,q⟩
theorem PSs.nox {st:List Stmt} {t:TS} (h:PSs X.nox st t):PSs X st t:=fun pins s σ H D I hw=>
  wpAny_mono (h pins s σ H D (I.wish _) hw) (fun _ _ q=>q.unwish) fun _ _ z=>False.elim z
end
section
variable {X:Cx} {st:Stmt} {rest:List Stmt} {t u:TS} {e:Expr} {te:TE} {pos:Pos}
noncomputable def tNext:TS:=fun D σ H=>D.nx σ H
noncomputable def tSeq (t u:TS):TS:=fun D σ H=>t { D with nx:=u D } σ H
theorem pss_nil:PSs X [] tNext:=fun _ _ σ H _ I h=>wpAny_execs_nil ⟨σ,H,I,h⟩
theorem pss_cons (h1:PS X st t) (h2:PSs X rest u):PSs X (st::rest) (tSeq t u):=by
  intro pins s σ H D I h
  refine wpAny_execs_cons (thn (h1 pins s σ H { D with nx:=u D } I h) fun f s1 q=>?_)
  cases f with
  | next=>
    obtain ⟨σ',H',I',q⟩:=q
    exact h2 pins s1 σ' H' D I' q
  | ret v=>exact q
  | brk=>exact q
  | cont=>exact q
theorem pss_one (h1:PS X st t):PSs X [st] t:=by
  intro pins s σ H D I h
  refine wpAny_execs_cons (thn (h1 pins s σ H D I h) fun f s1 q=>?_)
  cases f with
  | next=>exact wpAny_execs_nil q
  | ret v=>exact q
  | brk=>exact q
  | cont=>exact q
theorem Inv.quiet {pins:List (Addr×Obj)} {σ:St} {H:Hp} {s:Shared} (I:Inv X pins σ H s):interactive X.env=false:=by simp [interactive,I.ok.kind]
noncomputable def tDrop (te:TE):TS:=fun D σ H=>te σ H fun _ H1=>D.nx σ H1
theorem ps_expr (he:PE X e te) (hs:swapsWith e none pos.line X.env=pure false:=by rfl):PS X (.Expr e pos) (tDrop te):=by
  intro pins s σ H D I h
  exact wpAny_Expr_any (thn (he pins s σ H _ I h) fun v s1 ⟨x,H1,I1,r1,q1⟩=>⟨σ,H1,I1,q1⟩) I.quiet hs
noncomputable def tRet (te:TE):TS:=fun D σ H=>te σ H D.rt
theorem ps_ret (he:PE X e te):PS X (.Return (some e) pos) (tRet te):=by
  intro pins s σ H D I h
  exact wpAny_Return_some (thn (he pins s σ H _ I h) fun v s1 ⟨x,H1,I1,r1,q1⟩=>⟨x,σ,H1,I1,r1,q1⟩)
noncomputable def tIfS (c:TT) (t u:TS):TS:=fun D σ H=>c σ H fun b H1=>if b=true then t D σ H1 else u D σ H1
theorem ps_if {c:Expr} {a b:List Stmt} {tc:TT} (hc:PT X c tc) (ha:PSs X a t) (hb:PSs X b u):PS X (.If c a b pos) (tIfS tc t u):=by
  intro pins s σ H D I h
  refine wpAny_If (thn (hc pins s σ H _ I h) fun d s1 ⟨H1,I1,q1⟩=>?_)
  cases d with
  | true=>exact ha pins s1 σ H1 D I1 q1
  | false=>exact hb pins s1 σ H1 D I1 q1
end
noncomputable abbrev TG:=V→St→Hp→(St→Hp→Prop)→Prop
noncomputable abbrev TGs:=List V→St→Hp→(St→Hp→Prop)→Prop
noncomputable def PG (X:Cx) (target:Expr) (t:TG):Prop:=
  ∀ (pins:List (Addr×Obj)) (s:Shared) (σ:St) (H:Hp) (v:V) (u:Value) (Q:St→Hp→Prop),Inv X pins σ H s→RelV v u→t v σ H Q→
    wpAny (model X.prog X.w) X.A (assign target X.env u) (fun _ s'=>∃ σ' H',Inv X pins σ' H' s'∧Q σ' H') X.xe s
noncomputable def PGs (X:Cx) (ts:List Expr) (t:TGs):Prop:=
  ∀ (pins:List (Addr×Obj)) (s:Shared) (σ:St) (H:Hp) (vs:List V) (us:List Value) (Q:St→Hp→Prop),Inv X pins σ H s→Vals vs us→t vs σ H Q→
    wpAny (model X.prog X.w) X.A (assignInOrder ((assignEach ts X.env).map (·.2)) us) (fun _ s'=>∃ σ' H',Inv X pins σ' H' s'∧Q σ' H') X.xe s
noncomputable abbrev TSet:=V→V→V→Hp→(Hp→Prop)→Prop
noncomputable def PSet (X:Cx) (t:TSet):Prop:=
  ∀ (pins:List (Addr×Obj)) (s:Shared) (σ:St) (H:Hp) (o i v:V) (ov iv u:Value) (Q:Hp→Prop),Inv X pins σ H s→RelV o ov→RelV i iv→RelV v u→t o i v H Q→
    wpAny (model X.prog X.w) X.A (setItem ov iv u) (fun _ s'=>∃ H',Inv X pins σ H' s'∧Q H') X.xe s
noncomputable abbrev TIp:=V→V→Hp→VK→Prop
noncomputable def PIp (X:Cx) (op:Operator) (t:TIp):Prop:=
  ∀ (pins:List (Addr×Obj)) (s:Shared) (σ:St) (H:Hp) (x y:V) (v u:Value) (Q:VK),Inv X pins σ H s→RelV x v→RelV y u→t x y H Q→
    wpAny (model X.prog X.w) X.A (inplaceOp op v u) (EP X pins σ Q) X.xe s
section
variable {X:Cx} {pos:Pos}
noncomputable def gName (i:Nat):TG:=fun v σ H Q=>Q (σ.set i (some v)) H
theorem pg_name {i:Nat} {x:Str} (hN:X.N.Nodup) (hi:X.N[i]?=some x) (hx:Loc X.env.scope x) (hf:X.fn x=true∨X.env.scope.names.lookup x=some .local:=by first | exact .inl rfl | exact .inr rfl | assumption):PG X (.Name x pos) (gName i):=by
  intro pins s σ H v u Q I r h
  exact wpAny_assign_Name (store_ok I hN hi hx r (fun s' I'=>⟨_,H,I',h⟩) hf)
noncomputable def gNil:TGs:=fun vs σ H Q=>vs=[]∧Q σ H
noncomputable def gCons (t:TG) (u:TGs):TGs:=fun vs σ H Q=>∃ v r,vs=v::r∧t v σ H fun σ' H'=>u r σ' H' Q
theorem pgs_nil:PGs X [] gNil:=by
  intro pins s σ H vs us Q I r h
  obtain ⟨e,h⟩:=h
  subst e
  cases r
  exact assignInOrder_nil ⟨σ,H,I,h⟩
theorem pgs_cons {e:Expr} {es:List Expr} {t:TG} {u:TGs} (h1:PG X e t) (h2:PGs X es u)
    (hs:(assignEach (e::es) X.env).map (·.2)=assign e X.env::(assignEach es X.env).map (·.2):=by rfl):PGs X (e::es) (gCons t u):=by
  intro pins s σ H vs us Q I r h
  obtain ⟨v,vr,e1,h⟩:=h
  subst e1
  cases r with
  | cons r rr=>
    rw [hs]
    refine assignInOrder_cons (thn (h1 pins s σ H _ _ _ I r h) fun _ s1 ⟨σ1,H1,I1,q1⟩=>?_)
    exact h2 pins s1 σ1 H1 _ _ Q I1 rr q1
noncomputable def gTup (K:PySem.W.Frag) (n:Nat) (t:TGs):TG:=fun v σ H Q=>∃ a xs,v=.ref a∧SqT K H a xs∧xs.length=n∧t xs σ H Q
theorem pg_tup {es:List Expr} {k:Nat} {t:TGs} {n:Nat} (hc:X.calm=true) (h:PGs X es t)
    (hn:(assignEach es X.env).length=n:=by rfl) (hst:(assignEach es X.env).findIdx? (·.1)=none:=by rfl):PG X (.Tuple es k pos) (gTup X.K n t):=by
  intro pins s σ H v u Q I r hw
  obtain ⟨a,xs,e1,hq,hl,hw⟩:=hw
  subst e1
  cases r
  obtain ⟨its,rv,ht,hz⟩:=I.tuple hq
  refine assign_Tuple_tuple (I.ok.hd hc) ht (by simp [hn,← hl,rv.length]) hst fun h' hx=>?_
  have I1:Inv X pins σ H { s with heap:=h' }:=I.kept (t':=s.toks) fun b o e=>hx b o (Nat.ne_of_lt (Heap.lt_size e)) e
  exact h pins _ σ H xs _ Q I1 (by simpa using rv) hw
noncomputable def gSub (to ti:TE) (t:TSet):TG:=fun v σ H Q=>to σ H fun o H1=>ti σ H1 fun i H2=>t o i v H2 fun H3=>Q σ H3
theorem pg_sub {o i:Expr} {to ti:TE} {t:TSet} (ho:PE X o to) (hi:PE X i ti) (hs:PSet X t)
    (ha:∀ v,assign (.Subscript o i pos) X.env v=(do
      let ov ← holding [v] (eval o X.env)
      let iv ← holding [v,ov] (eval i X.env)
      standAt pos
      holding [v,ov,iv] (setItem ov iv v)
      release [v,ov,iv] []):=by intro _; rfl):PG X (.Subscript o i pos) (gSub to ti t):=by
  intro pins s σ H v u Q I r h
  rw [ha]
  refine wpAny_bind (wpAny_holding (thn (ho pins s σ H _ I h) fun ov s1 ⟨x,H1,I1,r1,q1⟩=>?_))
  refine wpAny_bind (wpAny_holding (thn (hi pins s1 σ H1 _ I1 q1) fun iv s2 ⟨y,H2,I2,r2,q2⟩=>?_))
  refine wpAny_bind (wpAny_standAt (wpAny_bind (wpAny_holding (thn (hs pins s2 σ H2 x y v ov iv u _ I2 r1 r2 r q2) fun _ s3 ⟨H3,I3,q3⟩=>?_))))
  exact wpAny_release ⟨σ,H3,I3,q3⟩
noncomputable def tAsg (te:TE) (g:TG):TS:=fun D σ H=>te σ H fun x H1=>g x σ H1 D.nx
theorem ps_asg {tg e:Expr} {te:TE} {g:TG} (he:PE X e te) (hg:PG X tg g) (hs:swapsWithSole [tg] e pos.line X.env=pure false:=by rfl) (hw:swappedStores [tg] e X.env=pure none:=by rfl)
    (h1:(assignEach [tg] X.env).map (·.2)=[assign tg X.env]:=by rfl):PS X (.Assign [tg] e pos) (tAsg te g):=by
  intro pins s σ H D I h
  refine wpAny_Assign_stores (thn (he pins s σ H _ I h) fun v s1 ⟨x,H1,I1,r1,q1⟩=>?_) hs hw
  rw [h1]
  exact thn (hg pins s1 σ H1 x v _ I1 r1 q1) fun _ s2 q=>q
theorem ps_set {i:Nat} {x:Str} {e:Expr} {te:TE} {pos':Pos} (hN:X.N.Nodup) (hi:X.N[i]?=some x) (hx:Loc X.env.scope x) (he:PE X e te) (hs:swapsWith e (some (.Name x pos')) pos.line X.env=pure false:=by rfl) (hf:X.fn x=true∨X.env.scope.names.lookup x=some .local:=by first | exact .inl rfl | exact .inr rfl | assumption) :
    PS X (.Assign [.Name x pos'] e pos) (tAsg te (gName i)):=by
  intro pins s σ H D I h
  refine wpAny_Assign_Name (thn (he pins s σ H _ I h) fun v s1 ⟨y,H1,I1,r1,q1⟩=>?_) hs
  exact store_ok I1 hN hi hx r1 (fun s2 I2=>⟨_,H1,I2,q1⟩) hf
noncomputable def tAug (i:Nat) (te:TE) (ti:TIp):TS:=fun D σ H=>∃ x,σ[i]?=some (some x)∧te σ H fun y H1=>ti x y H1 fun z H2=>D.nx (σ.set i (some z)) H2
theorem ps_aug {i:Nat} {x:Str} {e:Expr} {te:TE} {op:Operator} {ti:TIp} {pos':Pos} (hN:X.N.Nodup) (hi:X.N[i]?=some x) (hx:Loc X.env.scope x) (he:PE X e te) (ho:PIp X op ti) (hf:X.fn x=true∨X.env.scope.names.lookup x=some .local:=by first | exact .inl rfl | exact .inr rfl | assumption) :
    PS X (.AugAssign (.Name x pos') op e pos) (tAug i te ti):=by
  intro pins s σ H D I h
  obtain ⟨v,e1,h⟩:=h
  obtain ⟨m,hn,hl⟩:=I.loc
  have vis:Vis X.env.scope x:=by rcases hx with k | k; exact .inl k; exact .inr (.inl k)
  obtain ⟨u,r,l⟩:=hl i x v hi e1 vis
  refine wpAny_AugAssign_Name ?_
  have go:wpAny (model X.prog X.w) X.A (eval e X.env) (fun w s₂=>wpAny (model X.prog X.w) X.A (inplaceOp op u w) (fun r s₃=>wpAny (model X.prog X.w) X.A (storeName X.env x r) (fun _=>SP X pins D .next) X.xe s₃) X.xe s₂) X.xe s:=by
    refine thn (he pins s σ H _ I h) fun w s1 ⟨y,H1,I1,r1,q1⟩=>?_
    refine thn (ho pins s1 σ H1 v y u w _ I1 r r1 q1) fun z s2 ⟨zv,H2,I2,r2,q2⟩=>?_
    exact store_ok I2 hN hi hx r2 (fun s3 I3=>⟨_,H2,I3,q2⟩) hf
  rcases l with ⟨hk,hm⟩ | ⟨hk,c,hc,hcell⟩
  · exact wpAny_loadName_local I.ok.kind hk hn hm go
  · rcases hk with hk | hk
    · exact wpAny_loadName_cell I.ok.kind hk hc hcell go
    · rcases hx with k | k
      · have:X.env.scope.names.lookup x=some .free:=hk
        rw [k] at this; cases this
      · have:X.env.scope.names.lookup x=some .free:=hk
        rw [k] at this; cases this
noncomputable def ipI (f:Int→Int→Int):TIp:=fun x y H Q=>∃ i j,x=.int i∧y=.int j∧Q (.int (f i j)) H
theorem ip_add:PIp X .Add (ipI fun i j=>i+j):=by
  intro pins s σ H x y v u Q I r1 r2 h
  obtain ⟨i,j,e1,e2,q⟩:=h
  subst e1; subst e2
  obtain ⟨t,rfl⟩:=r1
  obtain ⟨t',rfl⟩:=r2
  exact iadd_int ⟨.int _,H,I.tok _,⟨_,rfl⟩,q⟩
end
section
variable {X:Cx} {pos:Pos}
noncomputable def tWhile (c:TT) (tb:TS):TS:=fun D σ H=>∃ W:Nat→St→Hp→Prop,(∃ m,W m σ H)∧∀ m σ H,W m σ H→
  c σ H fun b H1=>if b=true then ∃ N:St→Hp→Prop,(∀ σ' H',N σ' H'→∃ m',m'<m∧W m' σ' H')∧tb { D with nx:=N,ct:=N,bk:=D.nx } σ H1 else D.nx σ H1
theorem ps_while {c:Expr} {body:List Stmt} {tc:TT} {tb:TS} (hp:PassesOwn (model X.prog X.w) X.A X.env X.xe) (hc:PT X c tc) (hb:PSs X body tb):PS X (.While c body [] pos) (tWhile tc tb):=by
  intro pins s σ H D I h
  obtain ⟨W,⟨m0,w0⟩,turn⟩:=h
  refine wpAny_While (codeAny_whileLoop (fun n s'=>∃ σ' H',Inv X pins σ' H' s'∧W n σ' H') ?_ m0 ⟨σ,H,I,w0⟩)
  rintro n s1 ⟨σ1,H1,I1,w1⟩
  refine wpAny_passesOwn hp (thn (hc pins s1 σ1 H1 _ I1 (turn n σ1 H1 w1)) fun b s2 ⟨H2,I2,q2⟩=>?_)
  cases b with
  | true=>
    obtain ⟨N,hN,q2⟩:=q2
    rw [if_pos rfl]
    refine wpAny_passesOwn hp (thn (hb pins s2 σ1 H2 _ I2 q2) fun f s3 q3=>?_)
    cases f with
    | next=>
      obtain ⟨σ3,H3,I3,n3⟩:=q3
      obtain ⟨m',hm,w3⟩:=hN σ3 H3 n3
      exact ⟨m',hm,σ3,H3,I3,w3⟩
    | cont=>
      obtain ⟨σ3,H3,I3,n3⟩:=q3
      obtain ⟨m',hm,w3⟩:=hN σ3 H3 n3
      exact ⟨m',hm,σ3,H3,I3,w3⟩
    | brk=>exact q3
    | ret v=>exact q3
  | false=>
    rw [if_neg Bool.false_ne_true]
    exact wpAny_execs_nil ⟨σ1,H2,I2,q2⟩
end
structure It where
  go:Nat→Hp→Prop
  yld:Nat→Hp→V→Hp→Prop
  stop:Nat→Hp→Prop
noncomputable def FpOk (X:Cx) (pins:List (Addr×Obj)) (H:Hp) (b:Addr):Prop:=
  H b=none∧b≠X.env.locals∧b ∉ X.fs∧(b∈X.ex∨X.s₀.heap.objs.size≤b)∧(∀ x c,X.env.cells.lookup x=some c→c≠b)∧∀ p∈X.pn++pins,p.1≠b
theorem Inv.fpOk {X:Cx} {pins:List (Addr×Obj)} {σ:St} {H H':Hp} {s:Shared} {b:Addr} (I:Inv X pins σ H s) (hb:s.heap.objs.size≤b) (hn:H' b=none):FpOk X pins H' b:=by
  refine ⟨hn,Nat.ne_of_gt (Nat.lt_of_lt_of_le I.lt hb),I.nofs hb,.inr (Nat.le_trans I.sz hb),fun x c e z=>?_,fun p hp z=>?_⟩
  · obtain ⟨v,q⟩:=I.cell x c e
    exact absurd (Nat.lt_of_lt_of_le q.lt (by rw [z]; exact hb)) (Nat.lt_irrefl _)
  · exact absurd (Nat.lt_of_lt_of_le (Heap.lt_size (I.pin p hp).1) (by rw [z]; exact hb)) (Nat.lt_irrefl _)
structure Turn (P:Program) (w:World) (K:PySem.W.Frag) (tg:Expr) (J:It) (fp:List Addr) (it:Addr) (tn:Nat→Heap→Prop):Prop where
  mem:it∈fp
  obj:∀ i h,tn i h→∀ b∈fp,∃ o,h.get? b=some o∧∀ v,o.data≠.cell v
  keep:∀ i h h',tn i h→(∀ b∈fp,∀ o,h.get? b=some o→h'.get? b=some o)→tn i h'
  item:∀ (X:Cx),X.prog=P→X.w=w→X.K=K→X.calm=true→∀ (i:Nat) (pins:List (Addr×Obj)) (s:Shared) (σ:St) (H:Hp) (E:Value→Shared→Prop),Inv X pins σ H s→(∀ b∈fp,FpOk X pins H b)→tn i s.heap→J.go i H→
    wpAny (model P w) X.A (pyNext (.ref it)) (fun r s1=>∃ u,r=some u∧
      wpAny (model P w) X.A (letOwnedTupleGo tg (.ref it) u) (fun _ s2=>∃ x H',Inv X pins σ H' s2∧RelV x u∧J.yld i H x H'∧tn (i+1) s2.heap∧∀ b∈fp,H' b=none) E s1) E s
  done:∀ (X:Cx),X.prog=P→X.w=w→X.K=K→X.calm=true→∀ (i:Nat) (pins:List (Addr×Obj)) (s:Shared) (σ:St) (H:Hp) (E:Value→Shared→Prop),Inv X pins σ H s→(∀ b∈fp,FpOk X pins H b)→tn i s.heap→J.stop i H→
    wpAny (model P w) X.A (pyNext (.ref it)) (fun r s1=>r=none∧Inv X pins σ H s1) E s
  self:∀ (A:Around) (i:Nat) (s:Shared) (Q:Value→Shared→Prop) (E:Value→Shared→Prop),tn i s.heap→Q (.ref it) s→wpAny (model P w) A (pyIter (.ref it)) Q E s
noncomputable abbrev TI:=St→Hp→(It→Hp→Prop)→Prop
noncomputable def PIE (X:Cx) (pins:List (Addr×Obj)) (σ:St) (tg:Expr) (R:It→Hp→Prop) (itv:Value) (s2:Shared):Prop:=
  ∃ (it:Addr) (fp:List Addr) (tn:Nat→Heap→Prop) (J:It) (H':Hp),itv=.ref it∧Inv X pins σ H' s2∧Turn X.prog X.w X.K tg J fp it tn∧tn 0 s2.heap∧(∀ b∈fp,FpOk X pins H' b)∧R J H'
noncomputable def PI (X:Cx) (tg iter:Expr) (wi:TI):Prop:=
  ∀ (pins:List (Addr×Obj)) (s:Shared) (σ:St) (H:Hp) (R:It→Hp→Prop),Inv X pins σ H s→wi σ H R→
    wpAny (model X.prog X.w) X.A (eval iter X.env) (fun v s1=>wpAny (model X.prog X.w) X.A (pyIter v) (PIE X pins σ tg R) X.xe s1) X.xe s
theorem go_of {M:Model} {A:Around} {E:Value→Shared→Prop} {s:Shared} {tg:Expr} {it:Addr} {u:Value} {o:Obj} {n:String} {vs:Array Value} {Q:Unit→Shared→Prop} (ho:s.heap.get? it=some o) (hc:o.cls=.type n) (hd:o.data=.fields vs)
    (hn:["enumerate", "zip", "dict_itemiterator", "dict_reverseitemiterator", "odict_iterator", "itertools.zip_longest", "itertools.pairwise"].contains n=false) (hQ:Q () s):wpAny M A (letOwnedTupleGo tg (.ref it) u) Q E s:=by
  unfold letOwnedTupleGo
  cases tg<;>first
    | exact wpAny_pure hQ
    | (cases u<;>first
        | exact wpAny_pure hQ
        | (refine wpAny_bind (wpAny_load ho ?_)
           rw [hc,hd]
           show wpAny M A (if (["enumerate", "zip", "dict_itemiterator", "dict_reverseitemiterator", "odict_iterator", "itertools.zip_longest", "itertools.pairwise"].contains n&&vs[0]? == some (rawInt _))=true then _ else _) Q E s
           rw [if_neg (by intro h; rw [hn,Bool.false_and] at h; cases h)]
           exact wpAny_pure hQ))
noncomputable def Itl (K:PySem.W.Frag) (a:Addr):It:=
  ⟨fun i H=>∃ xs x,SqL K H a xs∧xs[i]?=some x,fun i H x H'=>H'=H∧∀ xs,SqL K H a xs→xs[i]?=some x,fun i H=>∃ xs,SqL K H a xs∧xs.length≤i⟩
noncomputable def Itt (K:PySem.W.Frag) (a:Addr):It:=
  ⟨fun i H=>∃ xs x,SqT K H a xs∧xs[i]?=some x,fun i H x H'=>H'=H∧∀ xs,SqT K H a xs→xs[i]?=some x,fun i H=>∃ xs,SqT K H a xs∧xs.length≤i⟩
noncomputable def Itr (lo:Int) (n:Nat):It:=⟨fun i _=>i<n,fun i H x H'=>H'=H∧x=.int (lo+i),fun i _=>n≤i⟩
theorem turn_list {P:Program} {w:World} {K:PySem.W.Frag} {tg:Expr} (a it:Addr):Turn P w K tg (Itl K a) [it] it (fun i h=>h.IsListIter it a i) where
  mem:=by simp
  obj:=fun i h st b hb=>by
    have e:b=it:=by simpa using hb
    subst e
    obtain ⟨o,e,c,d⟩:=st
    exact ⟨o,e,fun v z=>by rw [d] at z; cases z⟩
  keep:=fun i h h' st k=>st.at fun o e=>k it (by simp) o e
  item:=by
    intro X hP hw hK hc i pins s σ H E I hf st hg
    subst hP hw hK
    obtain ⟨xs,x,hq,hx⟩:=hg
    obtain ⟨its,rv,p,hz⟩:=I.list hq
    obtain ⟨u,hu,ru⟩:=rv.get hx
    obtain ⟨f0,f1,f2,f3,f4,f5⟩:=hf it (by simp)
    refine wpAny_pyNext_list_item st p.isList (x:=u) (by simpa using hu) fun h' st' sb=>?_
    have I1:Inv X pins σ H { s with heap:=h' }:=I.turned (t':=s.toks) (fun b o hb e=>(sb.2 b hb).trans e) f0 f1 f3 f4 f5
    obtain ⟨o,e,c,d⟩:=id st'
    exact ⟨u,rfl,go_of (s:={ s with heap:=h' }) e c d (by decide) ⟨x,H,I1,ru,⟨rfl,fun ys hy=>by rw [I.list_inj hy hq]; exact hx⟩,st',fun b hb=>(hf b hb).1⟩⟩
  done:=by
    intro X hP hw hK hc i pins s σ H E I hf st hg
    subst hP hw hK
    obtain ⟨xs,hq,hx⟩:=hg
    obtain ⟨its,rv,p,hz⟩:=I.list hq
    obtain ⟨f0,f1,f2,f3,f4,f5⟩:=hf it (by simp)
    have hl:=rv.length
    exact wpAny_pyNext_list_end (I.ok.hd hc) st p.isList (by simp; omega) fun h' eb=>⟨rfl,I.turned (t':=s.toks) (fun b o hb e=>eb b o hb e) f0 f1 f3 f4 f5⟩
  self:=fun _ _ _ _ _ st h=>wpAny_pyIter_listiter st h
theorem turn_tuple {P:Program} {w:World} {K:PySem.W.Frag} {tg:Expr} (a it:Addr):Turn P w K tg (Itt K a) [it] it (fun i h=>h.IsTupleIter it a i) where
  mem:=by simp
  obj:=fun i h st b hb=>by
    have e:b=it:=by simpa using hb
    subst e
    obtain ⟨o,e,c,d⟩:=st
    exact ⟨o,e,fun v z=>by rw [d] at z; cases z⟩
  keep:=fun i h h' st k=>st.at fun o e=>k it (by simp) o e
  item:=by
    intro X hP hw hK hc i pins s σ H E I hf st hg
    subst hP hw hK
    obtain ⟨xs,x,hq,hx⟩:=hg
    obtain ⟨its,rv,p,hz⟩:=I.tuple hq
    obtain ⟨u,hu,ru⟩:=rv.get hx
    obtain ⟨f0,f1,f2,f3,f4,f5⟩:=hf it (by simp)
    refine wpAny_pyNext_tuple_item st (show s.heap.IsTuple a its.toArray from p) (x:=u) (by simpa using hu) fun h' st' sb=>?_
    have I1:Inv X pins σ H { s with heap:=h' }:=I.turned (t':=s.toks) (fun b o hb e=>(sb.2 b hb).trans e) f0 f1 f3 f4 f5
    obtain ⟨o,e,c,d⟩:=id st'
    exact ⟨u,rfl,go_of (s:={ s with heap:=h' }) e c d (by decide) ⟨x,H,I1,ru,⟨rfl,fun ys hy=>by rw [I.tuple_inj hy hq]; exact hx⟩,st',fun b hb=>(hf b hb).1⟩⟩
  done:=by
    intro X hP hw hK hc i pins s σ H E I hf st hg
    subst hP hw hK
    obtain ⟨xs,hq,hx⟩:=hg
    obtain ⟨its,rv,p,hz⟩:=I.tuple hq
    obtain ⟨f0,f1,f2,f3,f4,f5⟩:=hf it (by simp)
    have hl:=rv.length
    exact wpAny_pyNext_tuple_end (I.ok.hd hc) st (show s.heap.IsTuple a its.toArray from p) (by simp; omega) fun h' eb=>⟨rfl,I.turned (t':=s.toks) (fun b o hb e=>eb b o hb e) f0 f1 f3 f4 f5⟩
  self:=fun _ _ _ _ _ st h=>wpAny_pyIter_tupleiter st h
theorem turn_range {P:Program} {w:World} {K:PySem.W.Frag} {tg:Expr} (it:Addr) (lo:Int) (n:Nat):Turn P w K tg (Itr lo n) [it] it (fun i h=>IsRangeIter h it (lo+(i:Nat)*1) ((n:Int) - (i:Nat)) 1) where
  mem:=by simp
  obj:=fun i h st b hb=>by
    have e:b=it:=by simpa using hb
    subst e
    exact ⟨_,st,fun v z=>by
      have z':Data.fields _=Data.cell v:=z
      cases z'⟩
  keep:=fun i h h' st k=>k it (by simp) _ st
  item:=by
    intro X hP hw hK hc i pins s σ H E I hf st hg
    subst hP hw hK
    obtain ⟨f0,f1,f2,f3,f4,f5⟩:=hf it (by simp)
    have W:=Walks.range (prog:=X.prog) (w:=X.w) (I.ok.hd hc) it lo 1 n
    refine W.item i s _ _ hg st fun v h' tk hv st' kk=>?_
    obtain ⟨t,rfl⟩:=hv
    have I1:Inv X pins σ H { s with heap:=h',toks:=tk }:=I.turned (fun b o hb e=>kk b o (by simpa using hb) e) f0 f1 f3 f4 f5
    refine ⟨_,rfl,go_of (s:={ s with heap:=h',toks:=tk }) (n := "range_iterator") st' rfl rfl (by decide) ⟨.int (lo+i),H,I1,⟨t,?_⟩,⟨rfl,rfl⟩,st',fun b hb=>(hf b hb).1⟩⟩
    rw [Int.mul_one]
  done:=by
    intro X hP hw hK hc i pins s σ H E I hf st hg
    subst hP hw hK
    obtain ⟨f0,f1,f2,f3,f4,f5⟩:=hf it (by simp)
    exact wpAny_pyNext_range_end (I.ok.hd hc) st (by have:n≤i:=hg; omega) fun h' eb=>⟨rfl,I.turned (t':=s.toks) (fun b o hb e=>eb b o hb e) f0 f1 f3 f4 f5⟩
  self:=fun _ _ _ _ _ st h=>wpAny_pyIter_rangeiter st h
end L2
namespace L2
open PySem PySem.Spec PyProof.Rows
section
variable {X:Cx} {tg:Expr}
noncomputable def iList (K:PySem.W.Frag) (tl:TE):TI:=fun σ H R=>tl σ H fun x H1=>∃ a,x=.ref a∧(∃ xs,SqL K H1 a xs)∧R (Itl K a) H1
noncomputable def iTup (K:PySem.W.Frag) (tl:TE):TI:=fun σ H R=>tl σ H fun x H1=>∃ a,x=.ref a∧(∃ xs,SqT K H1 a xs)∧R (Itt K a) H1
theorem pi_list {l:Expr} {tl:TE} (hl:PE X l tl):PI X tg l (iList X.K tl):=by
  intro pins s σ H R I h
  refine thn (hl pins s σ H _ I h) fun v s1 ⟨x,H1,I1,r1,q1⟩=>?_
  obtain ⟨a,e,⟨xs,hq⟩,q⟩:=q1
  subst e
  cases r1
  obtain ⟨its,rv,p,hz⟩:=I1.list hq
  refine wpAny_pyIter_list p.isList ?_
  refine ⟨s1.heap.objs.size,[s1.heap.objs.size],_,_,H1,rfl,I1.kept (t':=s1.toks) fun b o e=>Heap.get?_push_of_some _ e,turn_list a _,⟨_,Heap.get?_push_size _ rfl,rfl,rfl⟩,fun b hb=>?_,q⟩
  have e:b=s1.heap.objs.size:=by simpa using hb
  subst e
  exact I1.fpOk (Nat.le_refl _) (I1.hok.fresh (Nat.le_refl _))
theorem pi_tup {l:Expr} {tl:TE} (hl:PE X l tl):PI X tg l (iTup X.K tl):=by
  intro pins s σ H R I h
  refine thn (hl pins s σ H _ I h) fun v s1 ⟨x,H1,I1,r1,q1⟩=>?_
  obtain ⟨a,e,⟨xs,hq⟩,q⟩:=q1
  subst e
  cases r1
  obtain ⟨its,rv,p,hz⟩:=I1.tuple hq
  refine wpAny_pyIter_tuple (show s1.heap.IsTuple a its.toArray from p) ?_
  refine ⟨s1.heap.objs.size,[s1.heap.objs.size],_,_,H1,rfl,I1.kept (t':=s1.toks) fun b o e=>Heap.get?_push_of_some _ e,turn_tuple a _,⟨_,Heap.get?_push_size _ rfl,rfl,rfl⟩,fun b hb=>?_,q⟩
  have e:b=s1.heap.objs.size:=by simpa using hb
  subst e
  exact I1.fpOk (Nat.le_refl _) (I1.hok.fresh (Nat.le_refl _))
theorem range_it {pins:List (Addr×Obj)} {σ:St} {H:Hp} {s:Shared} {R:It→Hp→Prop} {E:Value→Shared→Prop} {lo hi:Int} {t u v:Tok} {tk:Nat} (I:Inv X pins σ H s) (h1 : -(2 ^ 62)≤lo) (h2:lo<2 ^ 62) (h3 : -(2 ^ 62)≤hi) (h4:hi<2 ^ 62)
    (q:R (Itr lo (hi - lo).toNat) H):wpAny (model X.prog X.w) X.A (pyIter (.ref s.heap.objs.size)) (PIE X pins σ tg R) E { s with heap:=s.heap.push { cls:=.type "range",data:=.fields #[.int lo t,.int hi u,.int 1 v] },toks:=tk }:=by
  refine wpAny_pyIter_range (IsRange.new ..) (small_one h1 h2 h3 h4) ?_
  have I1:Inv X pins σ H { s with heap:=s.heap.push { cls:=.type "range",data:=.fields #[.int lo t,.int hi u,.int 1 v] },toks:=tk }:=I.kept fun b o e=>Heap.get?_push_of_some _ e
  refine ⟨(s.heap.push { cls:=.type "range",data:=.fields #[.int lo t,.int hi u,.int 1 v] }).objs.size,[(s.heap.push { cls:=.type "range",data:=.fields #[.int lo t,.int hi u,.int 1 v] }).objs.size],_,_,H,rfl,
    I1.kept (t':=tk) fun b o e=>Heap.get?_push_of_some _ e,turn_range _ lo (hi - lo).toNat,?_,fun b hb=>?_,q⟩
  · have e1:lo+((0:Nat):Int)*1=lo:=by simp
    have e2:(((hi - lo).toNat:Nat):Int) - ((0:Nat):Int)=Builtin.Range.rangeSize lo hi 1:=by rw [rangeSize_one]; split<;>omega
    show IsRangeIter _ _ (lo+((0:Nat):Int)*1) ((((hi - lo).toNat:Nat):Int) - ((0:Nat):Int)) 1
    rw [e1,e2]
    exact Heap.get?_push_size _ rfl
  · have e:b=(s.heap.push { cls:=.type "range",data:=.fields #[.int lo t,.int hi u,.int 1 v] }).objs.size:=by simpa using hb
    subst e
    exact I1.fpOk (Nat.le_refl _) (I1.hok.fresh (Nat.le_refl _))
noncomputable def iRng1 (ta:TA):TI:=fun σ H R=>ta σ H fun vs H1=>∃ j:Int,vs=[.int j] ∧ -(2 ^ 62)≤j∧j<2 ^ 62∧R (Itr 0 j.toNat) H1
noncomputable def iRng2 (ta:TA):TI:=fun σ H R=>ta σ H fun vs H1=>∃ i j:Int,vs=[.int i,.int j]∧(-(2 ^ 62)≤i∧i<2 ^ 62 ∧ -(2 ^ 62)≤j∧j<2 ^ 62)∧R (Itr i (j - i).toNat) H1
theorem pi_range1 {a:Expr} {ta:TA} {p pos:Pos} (hg:Gl X "range") (hm:X.mg "range" = none) (ha:PA X [a] ta) (hs:starEach [a] X.env=[(false,eval a X.env)]:=by rfl):PI X tg (.Call (.Name "range" p) [a] [] pos) (iRng1 ta):=by
  intro pins s σ H R I h
  refine Call_ (ld_blt I hg hm boot_range (PyProof.Rows.callWith_type1 (thn (ha pos pins s σ H _ I h) fun us s1 ⟨vs,H1,I1,r1,q1⟩=>?_) hs rfl))
  obtain ⟨j,e,q1,q2,q⟩:=q1
  subst e
  cases r1 with
  | cons r rr=>
    cases rr
    obtain ⟨t,rfl⟩:=r
    exact call_range_1 (range_it I1 (by omega) (by omega) q1 q2 (by simpa using q))
theorem pi_range2 {a b:Expr} {ta:TA} {p pos:Pos} (hg:Gl X "range") (hm:X.mg "range" = none) (ha:PA X [a,b] ta) (hs:starEach [a,b] X.env=[(false,eval a X.env),(false,eval b X.env)]:=by rfl) (hs2:starEach [b] X.env=[(false,eval b X.env)]:=by rfl) :
    PI X tg (.Call (.Name "range" p) [a,b] [] pos) (iRng2 ta):=by
  intro pins s σ H R I h
  refine Call_ (ld_blt I hg hm boot_range (PyProof.Rows.callWith_type1 (thn (ha pos pins s σ H _ I h) fun us s1 ⟨vs,H1,I1,r1,q1⟩=>?_) (by rw [hs,hs2]) (by rw [hs2]; rfl)))
  obtain ⟨i,j,e,⟨q1,q2,q3,q4⟩,q⟩:=q1
  subst e
  cases r1 with
  | cons r rr=>
    cases rr with
    | cons r' rr=>
      cases rr
      obtain ⟨t,rfl⟩:=r
      obtain ⟨t',rfl⟩:=r'
      exact call_range_2 (range_it I1 q1 q2 q3 q4 q)
noncomputable def tFor (wi:TI) (g:TG) (tb:TS):TS:=fun D σ H=>wi σ H fun J H1=>∃ W:Nat→Nat→St→Hp→Prop,(∃ m,W 0 m σ H1)∧∀ i m σ H,W i m σ H→
  (J.stop i H∧D.nx σ H)∨(J.go i H∧∃ N:St→Hp→Prop,(∀ σ' H',N σ' H'→∃ m',m'<m∧W (i+1) m' σ' H')∧∀ x H',J.yld i H x H'→g x σ H' fun σ2 H2=>tb { D with nx:=N,ct:=N,bk:=D.nx } σ2 H2)
noncomputable def pinsAt (fp:List Addr) (h:Heap):List (Addr×Obj):=fp.filterMap fun b=>(h.get? b).map fun o=>(b,o)
theorem mem_pinsAt {fp:List Addr} {h:Heap} {b:Addr} {o:Obj} (hb:b∈fp) (e:h.get? b=some o):(b,o)∈pinsAt fp h:=List.mem_filterMap.mpr ⟨b,hb,by rw [e]; rfl⟩
theorem of_pinsAt {fp:List Addr} {h:Heap} {p:Addr×Obj} (hp:p∈pinsAt fp h):p.1∈fp∧h.get? p.1=some p.2:=by
  obtain ⟨b,hb,e⟩:=List.mem_filterMap.mp hp
  cases q:h.get? b with
  | none=>rw [q] at e; cases e
  | some o=>
    rw [q] at e
    have e':(b,o)=p:=Option.some.inj e
    subst e'
    exact ⟨hb,q⟩
theorem Inv.pinned {pins:List (Addr×Obj)} {σ:St} {H:Hp} {s:Shared} {fp:List Addr} (I:Inv X pins σ H s) (hf:∀ b∈fp,FpOk X pins H b) (ho:∀ b∈fp,∃ o,s.heap.get? b=some o∧∀ v,o.data≠.cell v):Inv X (pins++pinsAt fp s.heap) σ H s:=
  I.pins_of fun p hp=>(List.mem_append.mp hp).elim (fun z=>I.pin p (List.mem_append_right _ z)) fun z=>by
    obtain ⟨hb,e⟩:=of_pinsAt z
    obtain ⟨f0,f1,f2,_⟩:=hf p.1 hb
    obtain ⟨o,e',d⟩:=ho p.1 hb
    rw [e] at e'; cases e'
    exact ⟨e,f0,f1,f2,d⟩
theorem Inv.unpinned {pins pl:List (Addr×Obj)} {σ:St} {H:Hp} {s:Shared} (I:Inv X (pins++pl) σ H s):Inv X pins σ H s:=I.pins_of fun p hp=>I.pin p (List.mem_append_right _ (List.mem_append_left _ hp))
theorem ps_for {iter:Expr} {body:List Stmt} {wi:TI} {g:TG} {tb:TS} {pos:Pos} (hp:PassesOwn (model X.prog X.w) X.A X.env X.xe) (hc:X.calm=true) (hi:PI X tg iter wi) (hg:PG X tg g) (hb:PSs X body tb)
    (hs:∀ x,foldedSetIterable iter X.env x=pure x:=by intro _; rfl):PS X (.For tg iter body [] pos) (tFor wi g tb):=by
  intro pins s σ H D I h
  refine wpAny_For (thn (hi pins s σ H _ I h) fun v s1 h1=>thn h1 fun itv s2 h2=>?_) hs
  obtain ⟨it,fp,tn,J,H2,e,I2,T,st2,f2,W,⟨m0,w0⟩,turn⟩:=h2
  subst e
  have stat:∀ {H':Hp},(∀ b∈fp,H' b=none)→∀ b∈fp,FpOk X pins H' b:=fun hn b hb=>⟨hn b hb,(f2 b hb).2⟩
  refine codeAny_forLoop_any (fun n s'=>∃ i σ' H',Inv X pins σ' H' s'∧tn i s'.heap∧(∀ b∈fp,H' b=none)∧W i n σ' H') ?_ m0 ⟨0,σ,H2,I2,st2,fun b hb=>(f2 b hb).1,w0⟩
  rintro n s3 ⟨i,σ3,H3,I3,st3,fr3,w3⟩
  rcases turn i n σ3 H3 w3 with ⟨stop,qn⟩ | ⟨go,N,hN,step⟩
  · refine wpAny_passesOwn hp (thn (T.done X rfl rfl rfl hc i pins s3 σ3 H3 X.xe I3 (stat fr3) st3 stop) fun r s4 ⟨hr,I4⟩=>?_)
    subst hr
    exact wpAny_execs_nil ⟨σ3,H3,I4,qn⟩
  · refine wpAny_passesOwn hp (thn (T.item X rfl rfl rfl hc i pins s3 σ3 H3 X.xe I3 (stat fr3) st3 go) fun r s4 ⟨u,hr,h4⟩=>?_)
    subst hr
    refine wpAny_passesOwn hp (thn h4 fun _ s5 ⟨x,H5,I5,r5,y5,st5,fr5⟩=>?_)
    have I5':=I5.pinned (stat fr5) (T.obj _ _ st5)
    refine wpAny_passesOwn hp (thn (hg _ s5 σ3 H5 x u _ I5' r5 (step x H5 y5)) fun _ s6 ⟨σ6,H6,I6,q6⟩=>?_)
    refine wpAny_passesOwn hp (thn (hb _ s6 σ6 H6 _ I6 q6) fun f s7 q7=>?_)
    have again:∀ {σ7:St} {H7:Hp},Inv X (pins++pinsAt fp s5.heap) σ7 H7 s7→N σ7 H7→∃ m,m<n∧∃ i σ' H',Inv X pins σ' H' s7∧tn i s7.heap∧(∀ b∈fp,H' b=none)∧W i m σ' H':=fun {σ7 H7} I7 n7=>by
      obtain ⟨m',hm,w7⟩:=hN σ7 H7 n7
      refine ⟨m',hm,i+1,σ7,H7,I7.unpinned,T.keep _ _ _ st5 fun b hb o e=>(I7.pin (b,o) (List.mem_append_right _ (List.mem_append_right _ (mem_pinsAt hb e)))).1,fun b hb=>?_,w7⟩
      obtain ⟨o,e,d⟩:=T.obj _ _ st5 b hb
      exact (I7.pin (b,o) (List.mem_append_right _ (List.mem_append_right _ (mem_pinsAt hb e)))).2.1
    cases f with
    | next=>obtain ⟨σ7,H7,I7,n7⟩:=q7; exact again I7 n7
    | cont=>obtain ⟨σ7,H7,I7,n7⟩:=q7; exact again I7 n7
    | brk=>obtain ⟨σ7,H7,I7,q7⟩:=q7; exact ⟨σ7,H7,I7.unpinned,q7⟩
    | ret v=>obtain ⟨x7,σ7,H7,I7,r7,q7⟩:=q7; exact ⟨x7,σ7,H7,I7.unpinned,r7,q7⟩
end
end L2
namespace L2
open PySem PySem.Spec PyProof.Rows
noncomputable abbrev R2:=V→V→Hp→VK→Prop
noncomputable def OpR (X:Cx) (f:Value→Value→Sem Value) (r:R2):Prop:=
  ∀ (pins:List (Addr×Obj)) (s:Shared) (σ:St) (H:Hp) (x y:V) (v u:Value) (Q:VK),Inv X pins σ H s→RelV x v→RelV y u→r x y H Q→
    wpAny (model X.prog X.w) X.A (f v u) (EP X pins σ Q) X.xe s
noncomputable def UnR (X:Cx) (f:Value→Sem Value) (r:V→Hp→VK→Prop):Prop:=
  ∀ (pins:List (Addr×Obj)) (s:Shared) (σ:St) (H:Hp) (x:V) (v:Value) (Q:VK),Inv X pins σ H s→RelV x v→r x H Q→
    wpAny (model X.prog X.w) X.A (f v) (EP X pins σ Q) X.xe s
noncomputable def CallR (X:Cx) (f:Value) (r:List V→Hp→VK→Prop):Prop:=
  ∀ (pins:List (Addr×Obj)) (s:Shared) (σ:St) (H:Hp) (xs:List V) (us:List Value) (Q:VK),Inv X pins σ H s→Vals xs us→r xs H Q→
    wpAny (model X.prog X.w) X.A (call f us) (EP X pins σ Q) X.xe s
noncomputable def tOp (r:R2) (ta tb:TE):TE:=fun σ H Q=>ta σ H fun x H1=>tb σ H1 fun y H2=>r x y H2 Q
noncomputable def tUn (r:V→Hp→VK→Prop) (ta:TE):TE:=fun σ H Q=>ta σ H fun x H1=>r x H1 Q
noncomputable def rI (C:Int→Int→Prop) (g:Int→Int→V):R2:=fun x y H Q=>∃ i j,x=.int i∧y=.int j∧C i j∧Q (g i j) H
noncomputable def rI0 (g:Int→Int→V):R2:=fun x y H Q=>∃ i j,x=.int i∧y=.int j∧Q (g i j) H
noncomputable def rU (g:Int→V):V→Hp→VK→Prop:=fun x H Q=>∃ i,x=.int i∧Q (g i) H
section
variable {X:Cx} {a b c:Expr} {ta tb tc:TE} {pos:Pos}
theorem binT (ha:PE X a ta) (hb:PE X b tb) {pins:List (Addr×Obj)} {s:Shared} {σ:St} {H:Hp} {R:V→V→Hp→Prop} (I:Inv X pins σ H s)
    (h:ta σ H fun x H1=>tb σ H1 fun y H2=>R x y H2) {Q:Value→Shared→Prop} {f:Value→Value→Sem Value}
    (hf:∀ v u s2 x y H2,Inv X pins σ H2 s2→RelV x v→RelV y u→R x y H2→wpAny (model X.prog X.w) X.A (f v u) Q X.xe s2) :
    wpAny (model X.prog X.w) X.A (eval a X.env) (fun v s₁=>wpAny (model X.prog X.w) X.A (eval b X.env) (fun u s₂=>wpAny (model X.prog X.w) X.A (f v u) Q X.xe s₂) X.xe s₁) X.xe s:=by
  refine thn (ha pins s σ H _ I h) fun v s1 ⟨x,H1,I1,r1,q1⟩=>?_
  refine thn (hb pins s1 σ H1 _ I1 q1) fun u s2 ⟨y,H2,I2,r2,q2⟩=>?_
  exact hf v u s2 x y H2 I2 r1 r2 q2
theorem pe_op {op:Operator} {r:R2} (ho:OpR X (binaryOp op) r) (ha:PE X a ta) (hb:PE X b tb):PE X (.BinOp a op b pos) (tOp r ta tb):=by
  intro pins s σ H Q I h
  exact wpAny_BinOp (binT ha hb I h fun v u s2 x y H2 I2 rx ry q=>ho pins s2 σ H2 x y v u Q I2 rx ry q)
theorem pe_un {op:UnaryOp} {r:V→Hp→VK→Prop} (ho:UnR X (unaryOp op) r) (ha:PE X a ta):PE X (.UnaryOp op a pos) (tUn r ta):=by
  intro pins s σ H Q I h
  exact UnaryOp_ (thn (ha pins s σ H _ I h) fun v s1 ⟨x,H1,I1,r1,q1⟩=>ho pins s1 σ H1 x v Q I1 r1 q1)
theorem opI {f:Value→Value→Sem Value} {C:Int→Int→Prop} {g:Int→Int→Int}
    (rule:∀ (i j:Int) (t u:Tok) (s:Shared) (Q:Value→Shared→Prop) (E:Value→Shared→Prop),C i j→Q (.int (g i j) s.toks) { s with toks:=s.toks+1 }→wpAny (model X.prog X.w) X.A (f (.int i t) (.int j u)) Q E s) :
    OpR X f (rI C fun i j=>.int (g i j)):=by
  intro pins s σ H x y v u Q I rx ry h
  obtain ⟨i,j,rfl,rfl,hc,q⟩:=h
  obtain ⟨t,rfl⟩:=rx
  obtain ⟨t',rfl⟩:=ry
  exact rule i j t t' s _ _ hc ⟨.int (g i j),H,I.tok _,⟨_,rfl⟩,q⟩
theorem opI0 {f:Value→Value→Sem Value} {g:Int→Int→Int}
    (rule:∀ (i j:Int) (t u:Tok) (s:Shared) (Q:Value→Shared→Prop) (E:Value→Shared→Prop),Q (.int (g i j) s.toks) { s with toks:=s.toks+1 }→wpAny (model X.prog X.w) X.A (f (.int i t) (.int j u)) Q E s) :
    OpR X f (rI0 fun i j=>.int (g i j)):=by
  intro pins s σ H x y v u Q I rx ry h
  obtain ⟨i,j,rfl,rfl,q⟩:=h
  obtain ⟨t,rfl⟩:=rx
  obtain ⟨t',rfl⟩:=ry
  exact rule i j t t' s _ _ ⟨.int (g i j),H,I.tok _,⟨_,rfl⟩,q⟩
theorem opB0 {f:Value→Value→Sem Value} {g:Int→Int→Bool}
    (rule:∀ (i j:Int) (t u:Tok) (s:Shared) (Q:Value→Shared→Prop) (E:Value→Shared→Prop),Q (.bool (g i j)) s→wpAny (model X.prog X.w) X.A (f (.int i t) (.int j u)) Q E s) :
    OpR X f (rI0 fun i j=>.bl (g i j)):=by
  intro pins s σ H x y v u Q I rx ry h
  obtain ⟨i,j,rfl,rfl,q⟩:=h
  obtain ⟨t,rfl⟩:=rx
  obtain ⟨t',rfl⟩:=ry
  exact rule i j t t' s _ _ ⟨.bl (g i j),H,I,rfl,q⟩
noncomputable def CPow (i j:Int):Prop:=0≤j∧j≤1000000∧i.natAbs<2 ^ 64
noncomputable def CMul (i j:Int):Prop:=(-(2 ^ 64)<i∧i<2 ^ 64)∨(-(2 ^ 64)<j∧j<2 ^ 64)
theorem CMul.ok {i j:Int} (h:CMul i j):IntMulOk i j:=by
  rcases h with ⟨h1,h2⟩ | ⟨h1,h2⟩
  · exact .of_left (intBits_le_64 h1 h2)
  · exact .of_right (intBits_le_64 h1 h2)
theorem two_pow_nn (k:Nat):(0:Int)≤2 ^ k:=by
  rw [two_pow_cast]
  exact Int.natCast_nonneg _
theorem op_add:OpR X (binaryOp .Add) (rI0 fun i j=>.int (i+j)):=opI0 fun _ _ _ _ _ _ _ q=>add_int q
theorem op_sub:OpR X (binaryOp .Sub) (rI0 fun i j=>.int (i - j)):=opI0 fun _ _ _ _ _ _ _ q=>sub_int q
theorem op_mul:OpR X (binaryOp .Mult) (rI CMul fun i j=>.int (i*j)):=opI fun _ _ _ _ _ _ _ hc q=>mul_int q hc.ok
theorem op_mod:OpR X (binaryOp .Mod) (rI (fun _ j=>0<j) fun i j=>.int (i % j)):=opI fun i j _ _ _ _ _ hc q=>by
  have h1:(0:Int)<j:=hc
  exact mod_int' (by omega) (by rw [Int.fmod_eq_emod_of_nonneg i (by omega)]; exact q)
theorem op_pow:OpR X (binaryOp .Pow) (rI CPow fun i j=>.int (i ^ j.toNat)):=opI fun _ _ _ _ _ _ _ hc q=>pow_int_small hc.1 hc.2.1 hc.2.2 q
theorem op_shl:OpR X (binaryOp .LShift) (rI CPow fun i j=>.int (i*2 ^ j.toNat)):=opI fun _ _ _ _ _ _ _ hc q=>lshift_int_small hc.1 hc.2.1 hc.2.2 q
theorem op_shr:OpR X (binaryOp .RShift) (rI (fun _ j=>0≤j) fun i j=>.int (i / 2 ^ j.toNat)):=opI fun i j _ _ _ _ _ hc q=>
  rshift_int hc (by rw [Int.fdiv_eq_ediv_of_nonneg i (two_pow_nn _)]; exact q)
theorem op_and:OpR X (binaryOp .BitAnd) (rI0 fun i j=>.int (Builtin.bitAnd i j)):=opI0 fun _ _ _ _ _ _ _ q=>and_int q
theorem op_or:OpR X (binaryOp .BitOr) (rI0 fun i j=>.int (Builtin.bitOr i j)):=opI0 fun _ _ _ _ _ _ _ q=>or_int q
theorem unI {f:Value→Sem Value} {g:Int→Int}
    (rule:∀ (i:Int) (t:Tok) (s:Shared) (Q:Value→Shared→Prop) (E:Value→Shared→Prop),Q (.int (g i) s.toks) { s with toks:=s.toks+1 }→wpAny (model X.prog X.w) X.A (f (.int i t)) Q E s) :
    UnR X f (rU fun i=>.int (g i)):=by
  intro pins s σ H x v Q I rx h
  obtain ⟨i,rfl,q⟩:=h
  obtain ⟨t,rfl⟩:=rx
  exact rule i t s _ _ ⟨.int (g i),H,I.tok _,⟨_,rfl⟩,q⟩
theorem un_neg:UnR X (unaryOp .USub) (rU fun i=>.int (-i)):=unI fun _ _ _ _ _ q=>neg_int q
theorem un_inv:UnR X (unaryOp .Invert) (rU fun i=>.int (Builtin.bitNot i)):=unI fun _ _ _ _ _ q=>invert_int q
theorem op_add_ib:OpR X (binaryOp .Add) (fun x y H Q=>∃ i k,x=.int i∧y=.bl k∧Q (.int (i+b2i k)) H):=by
  intro pins s σ H x y v u Q I rx ry h
  obtain ⟨i,k,rfl,rfl,q⟩:=h
  obtain ⟨t,rfl⟩:=rx
  cases ry
  exact add_int_bool ⟨.int (i+b2i k),H,I.tok _,⟨_,rfl⟩,q⟩
end
noncomputable def scal:V→V→Bool
  | .non,.non=>true | .non,.int _=>true | .int _,.non=>true | .non,.bl _=>true | .bl _,.non=>true | .non,.str _=>true | .str _,.non=>true
  | .int _,.int _=>true | .bl _,.bl _=>true | .str _,.str _=>true | .byt _,.byt _=>true
  | .int _,.str _=>true | .str _,.int _=>true | .bl _,.str _=>true | .str _,.bl _=>true
  | _,_=>false
noncomputable def rEq:R2:=fun x y H Q=>scal x y=true∧Q (.bl (decide (x=y))) H
noncomputable def rNe:R2:=fun x y H Q=>scal x y=true∧Q (.bl (!decide (x=y))) H
theorem dec_int {i j:Int}:decide (V.int i=V.int j)=(i == j):=by
  rw [Bool.eq_iff_iff]
  simp
theorem dec_bl {i j:Bool}:decide (V.bl i=V.bl j)=(i == j):=by
  rw [Bool.eq_iff_iff]
  simp
theorem dec_str {i j:Str}:decide (V.str i=V.str j)=(i == j):=by
  rw [Bool.eq_iff_iff]
  simp
theorem dec_byt {i j:Array UInt8}:decide (V.byt i=V.byt j)=(i.toList == j.toList):=by
  rw [Bool.eq_iff_iff]
  cases i
  cases j
  simp
section
variable {X:Cx} {a b c:Expr} {ta tb tc:TE} {pos:Pos}
theorem fin_bl {pins:List (Addr×Obj)} {σ:St} {H:Hp} {s:Shared} {Q:VK} {k k':Bool} (I:Inv X pins σ H s) (q:Q (.bl k) H) (e:k=k'):EP X pins σ Q (.bool k') s:=by
  subst e
  exact ⟨.bl k,H,I,rfl,q⟩
theorem op_eq:OpR X (compareOp .Eq) rEq:=by
  intro pins s σ H x y v u Q I rx ry h
  obtain ⟨hs,q⟩:=h
  cases x with
  | non=>
    cases rx
    cases y with
    | non=>cases ry; exact PySem.EqNone.eq_none_none (fin_bl I q (by simp))
    | bl j=>cases ry; exact PySem.EqNone.eq_none_bool (fin_bl I q (by simp))
    | int j=>obtain ⟨t',rfl⟩:=ry; exact PySem.EqNone.eq_none_int (fin_bl I q (by simp))
    | str j=>obtain ⟨t',rfl⟩:=ry; exact PySem.EqNone.eq_none_str (fin_bl I q (by simp))
    | _=>exact absurd (show false=true from hs) Bool.false_ne_true
  | bl i=>
    cases rx
    cases y with
    | non=>cases ry; exact PySem.EqNone.eq_bool_none (fin_bl I q (by simp))
    | bl j=>cases ry; exact eq_bool (fin_bl I q dec_bl)
    | str j=>obtain ⟨t',rfl⟩:=ry; exact PySem.EqMixed.eq_bool_str (fin_bl I q (by simp))
    | _=>exact absurd (show false=true from hs) Bool.false_ne_true
  | int i=>
    obtain ⟨t,rfl⟩:=rx
    cases y with
    | non=>cases ry; exact PySem.EqNone.eq_int_none (fin_bl I q (by simp))
    | int j=>obtain ⟨t',rfl⟩:=ry; exact eq_int (fin_bl I q dec_int)
    | str j=>obtain ⟨t',rfl⟩:=ry; exact PySem.EqMixed.eq_int_str (fin_bl I q (by simp))
    | _=>exact absurd (show false=true from hs) Bool.false_ne_true
  | str i=>
    obtain ⟨t,rfl⟩:=rx
    cases y with
    | non=>cases ry; exact PySem.EqNone.eq_str_none (fin_bl I q (by simp))
    | bl j=>cases ry; exact PySem.EqMixed.eq_str_bool (fin_bl I q (by simp))
    | int j=>obtain ⟨t',rfl⟩:=ry; exact PySem.EqMixed.eq_str_int (fin_bl I q (by simp))
    | str j=>obtain ⟨t',rfl⟩:=ry; exact eq_str (fin_bl I q dec_str)
    | _=>exact absurd (show false=true from hs) Bool.false_ne_true
  | byt i=>
    obtain ⟨t,rfl⟩:=rx
    cases y with
    | byt j=>obtain ⟨t',rfl⟩:=ry; exact PySem.W.eq_bytes (fin_bl I q dec_byt)
    | _=>exact absurd (show false=true from hs) Bool.false_ne_true
  | _=>cases y<;>exact absurd (show false=true from hs) Bool.false_ne_true
theorem op_ne:OpR X (compareOp .NotEq) rNe:=by
  intro pins s σ H x y v u Q I rx ry h
  obtain ⟨hs,q⟩:=h
  cases x with
  | non=>
    cases rx
    cases y with
    | non=>cases ry; exact PySem.EqNone.ne_none_none (fin_bl I q (by simp))
    | bl j=>cases ry; exact PySem.EqNone.ne_none_bool (fin_bl I q (by simp))
    | int j=>obtain ⟨t',rfl⟩:=ry; exact PySem.EqNone.ne_none_int (fin_bl I q (by simp))
    | str j=>obtain ⟨t',rfl⟩:=ry; exact PySem.EqNone.ne_none_str (fin_bl I q (by simp))
    | _=>exact absurd (show false=true from hs) Bool.false_ne_true
  | bl i=>
    cases rx
    cases y with
    | non=>cases ry; exact PySem.EqNone.ne_bool_none (fin_bl I q (by simp))
    | bl j=>cases ry; exact ne_bool (fin_bl I q (congrArg not dec_bl))
    | str j=>obtain ⟨t',rfl⟩:=ry; exact PySem.EqMixed.ne_bool_str (fin_bl I q (by simp))
    | _=>exact absurd (show false=true from hs) Bool.false_ne_true
  | int i=>
    obtain ⟨t,rfl⟩:=rx
    cases y with
    | non=>cases ry; exact PySem.EqNone.ne_int_none (fin_bl I q (by simp))
    | int j=>obtain ⟨t',rfl⟩:=ry; exact ne_int (fin_bl I q (congrArg not dec_int))
    | str j=>obtain ⟨t',rfl⟩:=ry; exact PySem.EqMixed.ne_int_str (fin_bl I q (by simp))
    | _=>exact absurd (show false=true from hs) Bool.false_ne_true
  | str i=>
    obtain ⟨t,rfl⟩:=rx
    cases y with
    | non=>cases ry; exact PySem.EqNone.ne_str_none (fin_bl I q (by simp))
    | bl j=>cases ry; exact PySem.EqMixed.ne_str_bool (fin_bl I q (by simp))
    | int j=>obtain ⟨t',rfl⟩:=ry; exact PySem.EqMixed.ne_str_int (fin_bl I q (by simp))
    | str j=>obtain ⟨t',rfl⟩:=ry; exact ne_str (fin_bl I q (congrArg not dec_str))
    | _=>exact absurd (show false=true from hs) Bool.false_ne_true
  | byt i=>
    obtain ⟨t,rfl⟩:=rx
    cases y with
    | byt j=>obtain ⟨t',rfl⟩:=ry; exact PySem.W.ne_bytes (fin_bl I q (congrArg not dec_byt))
    | _=>exact absurd (show false=true from hs) Bool.false_ne_true
  | _=>cases y<;>exact absurd (show false=true from hs) Bool.false_ne_true
theorem op_lt:OpR X (compareOp .Lt) (rI0 fun i j=>.bl (decide (i<j))):=opB0 fun _ _ _ _ _ _ _ q=>lt_int q
theorem op_le:OpR X (compareOp .LtE) (rI0 fun i j=>.bl (decide (i≤j))):=opB0 fun _ _ _ _ _ _ _ q=>le_int q
theorem op_gt:OpR X (compareOp .Gt) (rI0 fun i j=>.bl (decide (j<i))):=opB0 fun _ _ _ _ _ _ _ q=>gt_int q
theorem op_ge:OpR X (compareOp .GtE) (rI0 fun i j=>.bl (decide (j≤i))):=opB0 fun _ _ _ _ _ _ _ q=>ge_int q
theorem op_in_str:OpR X (compareOp .In) (fun x y H Q=>∃ i j,x=.str i∧y=.str j∧Q (.bl (!(Builtin.Str.occurrences j i 0 j.length 1).isEmpty)) H):=by
  intro pins s σ H x y v u Q I rx ry h
  obtain ⟨i,j,rfl,rfl,q⟩:=h
  obtain ⟨t,rfl⟩:=rx
  obtain ⟨t',rfl⟩:=ry
  exact in_str (fin_bl I q rfl)
theorem op_isN:OpR X (compareOp .Is) (fun x y H Q=>y=.non∧Q (.bl (decide (x=.non))) H):=by
  intro pins s σ H x y v u Q I rx ry h
  obtain ⟨rfl,q⟩:=h
  cases ry
  refine is_none_gen (fin_bl I q ?_)
  cases x<;>first
    | (cases rx; rfl)
    | (obtain ⟨t,rfl⟩:=rx; rfl)
theorem op_notN:OpR X (compareOp .IsNot) (fun x y H Q=>y=.non∧Q (.bl (!decide (x=.non))) H):=by
  intro pins s σ H x y v u Q I rx ry h
  obtain ⟨rfl,q⟩:=h
  cases ry
  refine isnot_none_gen (fin_bl I q ?_)
  cases x<;>first
    | (cases rx; rfl)
    | (obtain ⟨t,rfl⟩:=rx; rfl)
theorem OpR.or {f:Value→Value→Sem Value} {r r':R2} (h:OpR X f r) (h':OpR X f r'):OpR X f (fun x y H Q=>r x y H Q∨r' x y H Q):=by
  intro pins s σ H x y v u Q I rx ry q
  rcases q with q | q
  · exact h pins s σ H x y v u Q I rx ry q
  · exact h' pins s σ H x y v u Q I rx ry q
theorem nomark (b:Expr) {op:CmpOp} (h:op≠.In:=by decide) (h2:op≠.NotIn:=by decide):behindInMarks op b=false:=by
  have e1:(op == CmpOp.In)=false:=by cases op<;>first | rfl | exact absurd rfl h
  have e2:(op == CmpOp.NotIn)=false:=by cases op<;>first | rfl | exact absurd rfl h2
  cases b<;>simp [behindInMarks,e1,e2]
theorem pe_cmpR {op:CmpOp} {r:R2} (ho:OpR X (compareOp op) r) (ha:PE X a ta) (hb:PE X b tb) (hm:behindInMarks op b=false):PE X (.Compare a [op] [b] pos) (tOp r ta tb):=by
  intro pins s σ H Q I h
  exact wpAny_Compare1 (binT ha hb I h fun v u s2 x y H2 I2 rx ry q=>ho pins s2 σ H2 x y v u Q I2 rx ry q) hm
noncomputable def tTest (t:TE):TT:=fun σ H Q=>t σ H fun x H'=>∃ k,x=.bl k∧Q k H'
theorem pt_cmpR {op:CmpOp} {r:R2} (ho:OpR X (compareOp op) r) (ha:PE X a ta) (hb:PE X b tb) (hm:behindInMarks op b=false):PT X (.Compare a [op] [b] pos) (tTest (tOp r ta tb)):=by
  intro pins s σ H Q I h
  refine wpAny_isTrue_Compare1 (thn (ha pins s σ H _ I h) fun v s1 ⟨x,H1,I1,r1,q1⟩=>thn (hb pins s1 σ H1 _ I1 q1) fun u s2 ⟨y,H2,I2,r2,q2⟩=>
    thn (ho pins s2 σ H2 x y v u _ I2 r1 r2 q2) fun c s3 ⟨z,H3,I3,r3,k,e,q3⟩=>?_) hm
  subst e
  cases r3
  exact wpAny_truthy_bool ⟨H3,I3,q3⟩
noncomputable def tChain (r r':R2) (ta tb tc:TE):TE:=fun σ H Q=>ta σ H fun x H1=>tb σ H1 fun y H2=>r x y H2 fun z H3=>∃ k,z=.bl k∧
  (if k=true then tc σ H3 fun w' H4=>r' y w' H4 Q else Q (.bl false) H3)
theorem pt_chain {op op':CmpOp} {r r':R2} (ho:OpR X (compareOp op) r) (ho':OpR X (compareOp op') r') (ha:PE X a ta) (hb:PE X b tb) (hc:PE X c tc)
    (hm:lastMarks [op,op'] [b,c]=false:=by with_unfolding_all rfl):PT X (.Compare a [op,op'] [b,c] pos) (tTest (tChain r r' ta tb tc)):=by
  intro pins s σ H Q I h
  refine isTrue_chain (thn (ha pins s σ H _ I h) fun v s1 ⟨x,H1,I1,r1,q1⟩=>test_link (thn (hb pins s1 σ H1 _ I1 q1) fun u s2 ⟨y,H2,I2,r2,q2⟩=>
    thn (ho pins s2 σ H2 x y v u _ I2 r1 r2 q2) fun d s3 ⟨z,H3,I3,r3,k,e,q3⟩=>?_)) hm
  subst e
  cases r3
  refine wpAny_truthy_bool ?_
  cases k with
  | false=>
    obtain ⟨k',e',q'⟩:=q3
    cases e'
    exact ite_ff ⟨H3,I3,q'⟩
  | true=>
    refine ite_tt (test_last (thn (hc pins s3 σ H3 _ I3 q3) fun w' s4 ⟨z',H4,I4,r4,q4⟩=>thn (ho' pins s4 σ H4 y z' u w' _ I4 r2 r4 q4) fun d' s5 ⟨z2,H5,I5,r5,k2,e2,q5⟩=>?_))
    subst e2
    cases r5
    exact wpAny_truthy_bool ⟨H5,I5,q5⟩
theorem line63:(sizeLine:Nat)<2 ^ 63:=by rw [sizeLine_eq]; decide
theorem op_add_str:OpR X (binaryOp .Add) (fun x y H Q=>∃ i j,x=.str i∧y=.str j∧i.length+j.length≤sizeLine∧Q (.str (i++j)) H):=by
  intro pins s σ H x y v u Q I rx ry h
  obtain ⟨i,j,rfl,rfl,hz,q⟩:=h
  obtain ⟨t,rfl⟩:=rx
  obtain ⟨t',rfl⟩:=ry
  exact add_str (fun t' tk=>⟨.str (i++j),H,I.tok _,⟨_,rfl⟩,q⟩) hz
theorem vals1 {x:V} {us:List Value} (r:Vals [x] us):∃ u,us=[u]∧RelV x u:=by
  cases r with
  | cons r1 r2=>cases r2; exact ⟨_,rfl,r1⟩
theorem vals2 {x y:V} {us:List Value} (r:Vals [x,y] us):∃ u w',us=[u,w']∧RelV x u∧RelV y w':=by
  cases r with
  | cons r1 r2=>
    cases r2 with
    | cons r3 r4=>cases r4; exact ⟨_,_,rfl,r1,r3⟩
theorem call_max2 (hc:X.calm=true):CallR X (.builtin "max") (fun xs H Q=>∃ i j,xs=[.int i,.int j]∧Q (.int (if j > i then j else i)) H):=by
  intro pins s σ H xs us Q I r h
  obtain ⟨i,j,rfl,q⟩:=h
  obtain ⟨u,w',rfl,⟨t,rfl⟩,⟨t',rfl⟩⟩:=vals2 r
  refine max_two_ints (I.ok.hd hc) fun h' tk k=>⟨_,H,I.kept k,?_,q⟩
  by_cases hj:j > i
  · rw [if_pos hj,if_pos hj]; exact ⟨_,rfl⟩
  · rw [if_neg hj,if_neg hj]; exact ⟨_,rfl⟩
theorem call_min2 (hc:X.calm=true):CallR X (.builtin "min") (fun xs H Q=>∃ i j,xs=[.int i,.int j]∧Q (.int (if j<i then j else i)) H):=by
  intro pins s σ H xs us Q I r h
  obtain ⟨i,j,rfl,q⟩:=h
  obtain ⟨u,w',rfl,⟨t,rfl⟩,⟨t',rfl⟩⟩:=vals2 r
  refine min_two_ints (I.ok.hd hc) fun h' tk k=>⟨_,H,I.kept k,?_,q⟩
  by_cases hj:j<i
  · rw [if_pos hj,if_pos hj]; exact ⟨_,rfl⟩
  · rw [if_neg hj,if_neg hj]; exact ⟨_,rfl⟩
theorem call_int1:CallR X (.type "int") (fun xs H Q=>(∃ i,xs=[.int i]∧Q (.int i) H)∨∃ k,xs=[.bl k]∧Q (.int (if k then 1 else 0)) H):=by
  intro pins s σ H xs us Q I r h
  rcases h with ⟨i,rfl,q⟩ | ⟨k,rfl,q⟩
  · obtain ⟨u,rfl,t,rfl⟩:=vals1 r
    exact call_int_int ⟨.int i,H,I,⟨_,rfl⟩,q⟩
  · obtain ⟨u,rfl,r1⟩:=vals1 r
    cases r1
    exact call_int_bool ⟨.int (if k then 1 else 0),H,I.tok _,⟨_,rfl⟩,q⟩
end
end L2
namespace L2
open PySem PySem.Spec PyProof.Rows
structure ObjM (h:Heap) (x dx C:Addr) (mA:Str→Option Value):Prop where
  obj:h.get? x=some (PySem.W.instObj C dx)
  ns:h.Ns1 dx mA
  ne:dx≠x
theorem lookIn_ns {h:Heap} {dx:Addr} {mA:Str→Option Value} (n:h.Ns1 dx mA):∃ od,h.get? dx=some od∧∀ name,PySem.W.lookIn name od=some (mA name):=by
  obtain ⟨o,es,ep,ho,hd,hk,_,hm⟩:=n
  refine ⟨o,ho,fun name=>?_⟩
  have e:=hm name
  unfold nsFind findBy at e
  rw [← Array.find?_toList] at e
  unfold PySem.W.lookIn
  rw [hd]
  dsimp only
  split
  · rename_i y q
    rw [q] at e
    exact congrArg some e
  · rename_i q
    rw [q] at e
    have a:es.toList.any (·.refKey)=false:=by
      rw [List.any_eq_false]
      intro y hy
      obtain ⟨z,t,hkey⟩:=hk y (Array.mem_toList_iff.mp hy)
      simp [DictEntry.refKey,hkey]
    have a':¬ es.toList.any (·.refKey)=true:=by rw [a]; exact Bool.false_ne_true
    rw [if_neg a']
    exact congrArg some e
theorem ObjM.look {h:Heap} {x dx C:Addr} {mA:Str→Option Value} (I:ObjM h x dx C mA):∃ od,PySem.W.InstAt h x (PySem.W.instObj C dx) C (some od)∧∀ name,PySem.W.lookIn name od=some (mA name):=
  let ⟨od,ho,hl⟩:=lookIn_ns I.ns
  ⟨od,⟨I.obj,rfl,rfl,ho⟩,hl⟩
section
variable {prog:Program} {w:World} {A:Around} {E:Value→Shared→Prop} {s:Shared} {K:PySem.W.Frag} {x dx C f:Addr} {mA:Str→Option Value} {name:Str} {v:Value}
end
theorem RelO.some_of {v:V} {o:Option Value} (r:RelO (some v) o):∃ u,o=some u∧RelV v u:=by
  cases o with
  | none=>exact (show False from r).elim
  | some u=>exact ⟨u,rfl,r⟩
section
variable {P:Program} {w:World} {H H':Hp} {h h':Heap} {a C dx:Addr} {fs fs':List (Str×V)}
theorem ins_get (hok:HOk P w H h) (e:H a=some (.ins C dx fs)):∃ mA,ObjM h a dx C mA∧(∀ f,RelO (fs.lookup f) (mA f))∧PySem.Within mA (fs.map (·.1))∧fs.length≤1000∧H dx=some (.own a):=by
  obtain ⟨d,z,ne,ob,mA,n,r,q⟩:=(show ObjOk P w H h a (.ins C dx fs) from hok a _ e)
  exact ⟨mA,⟨ob,n,ne⟩,r,q,z,d⟩
end
structure Cls (K:PySem.W.Frag) (C:Addr):Prop where
  pg:PySem.W.plainGet K C Str.empty=true
  hd:PySem.W.hasDictIn K C=true
  po:PySem.W.plainOver K C=true
  sa:PySem.W.findIn K (.ref C) "__setattr__" = some (some (.builtin "object.__setattr__"))
theorem Cls.get {K:PySem.W.Frag} {C:Addr} (c:Cls K C) (f:Str):PySem.W.plainGet K C f=true:=c.pg
section
variable {X:Cx} {pins:List (Addr×Obj)} {σ:St} {H:Hp} {s:Shared} {a C dx:Addr} {fs:List (Str×V)} {f:Str} {v:V} {A:Around} {E:Value→Shared→Prop}
end
section
variable {X:Cx} {o e value:Expr} {f:Str} {pos pos' tpos:Pos} {ta tv:TE}
end
section
variable {X:Cx} {pins:List (Addr×Obj)} {σ:St} {H:Hp} {s:Shared} {A:Around} {E:Value→Shared→Prop} {Q:Value→Shared→Prop} {c:Value} {b:Bool}
inductive TyOf (K:PySem.W.Frag) (H:Hp):V→Value→Prop where
  | non:TyOf K H .non (.type "NoneType")
  | bl (x:Bool):TyOf K H (.bl x) (.type "bool")
  | int (i:Int):TyOf K H (.int i) (.type "int")
  | str (x:Str):TyOf K H (.str x) (.type "str")
  | flt (x:UInt64):TyOf K H (.flt x) (.type "float")
  | lst {a:Addr} {xs:List V} (e:H a=some (.lst xs)):TyOf K H (.ref a) (.type "list")
  | frz {a:Addr} {o:Obj} {xs:List V} (e:H a=some (.frz o (.lst xs))):TyOf K H (.ref a) (.type "list")
  | tup {a:Addr} {xs:List V} (e:H a=some (.tup xs)):TyOf K H (.ref a) (.type "tuple")
  | dK {a:Addr} {kvs:List (Key×V)} (e:H a=some (.dK kvs)):TyOf K H (.ref a) (.type "dict")
  | dT {a:Addr} {kvs:List (List Key×V)} (e:H a=some (.dT kvs)):TyOf K H (.ref a) (.type "dict")
  | ins {a C dx:Addr} {fs:List (Str×V)} (e:H a=some (.ins C dx fs)) (cl:Cls K C) (ha:PySem.W.findIn K (.ref C) "__class__" = some (some (.builtin "object.__class__")))
      (hn:PySem.W.specialIn K (.builtin "object.__class__") "__get__" = some (some (.builtin "getset_descriptor.__get__"))) (htk:PySem.W.takesIn K (.builtin "object.__class__")=some true)
      (hm:PySem.W.mroIn K C (.type "object")=some true):TyOf K H (.ref a) (.ref C)
theorem isinst_ok {x:V} {u t:Value} (I:Inv X pins σ H s) (rx:RelV x u) (ty:TyOf X.K H x t) (e:PySem.W.kitOne X.K t c=some b) (h:∀ tk,Q (.bool b) { s with toks:=tk }) :
    wpAny (model X.prog X.w) A (call (.builtin "isinstance") [u,c]) Q E s:=by
  cases ty with
  | non=>cases (show u=Value.none from rx); exact PySem.W.kia_one PySem.W.kitx_none I.kIn True.intro e (fun z=>nomatch z) h
  | bl y=>cases (show u=Value.bool y from rx); exact PySem.W.kia_one PySem.W.kitx_bool I.kIn True.intro e (fun z=>nomatch z) h
  | int i=>obtain ⟨t,q⟩:=(show ∃ t,u=Value.int i t from rx); cases q; exact PySem.W.kia_one PySem.W.kitx_int I.kIn True.intro e (fun z=>nomatch z) h
  | str y=>obtain ⟨t,q⟩:=(show ∃ t,u=Value.str y t from rx); cases q; exact PySem.W.kia_one PySem.W.kitx_str I.kIn True.intro e (fun z=>nomatch z) h
  | flt y=>obtain ⟨t,q⟩:=(show ∃ t,u=Value.float y t from rx); cases q; exact PySem.W.kia_one PySem.W.kitx_float I.kIn True.intro e (fun z=>nomatch z) h
  | @lst a xs ea=>
    cases (show u=Value.ref a from rx)
    obtain ⟨_,_,n,_,h1⟩:=(show ObjOk X.prog X.w H s.heap a (.lst xs) from I.hok a _ ea)
    exact PySem.W.kia_one PySem.W.kitx_list I.kIn ⟨_,h1,rfl⟩ e (fun z=>nomatch z) h
  | @frz a ob xs ea=>
    cases (show u=Value.ref a from rx)
    obtain ⟨_,_,_,n,_,h1⟩:=(show ObjOk X.prog X.w H s.heap a (.frz ob (.lst xs)) from I.hok a _ ea)
    exact PySem.W.kia_one PySem.W.kitx_list I.kIn ⟨_,h1,rfl⟩ e (fun z=>nomatch z) h
  | @tup a xs ea=>
    cases (show u=Value.ref a from rx)
    obtain ⟨_,_,_,p⟩:=(show ObjOk X.prog X.w H s.heap a (.tup xs) from I.hok a _ ea)
    obtain ⟨o,h1,h2,_⟩:=p
    exact PySem.W.kia_one PySem.W.kitx_tuple I.kIn ⟨o,h1,h2⟩ e (fun z=>nomatch z) h
  | @dK a kvs ea=>
    cases (show u=Value.ref a from rx)
    obtain ⟨_,_,vs,_,p⟩:=(show ObjOk X.prog X.w H s.heap a (.dK kvs) from I.hok a _ ea)
    obtain ⟨o,es,ep,h1,h2,_⟩:=p
    exact PySem.W.kia_one PySem.W.kitx_dict I.kIn ⟨o,h1,h2.1⟩ e (fun z=>nomatch z) h
  | @dT a kvs ea=>
    cases (show u=Value.ref a from rx)
    obtain ⟨_,_,xs,_,o,es,ep,h1,h2,_⟩:=(show ObjOk X.prog X.w H s.heap a (.dT kvs) from I.hok a _ ea)
    exact PySem.W.kia_one PySem.W.kitx_dict I.kIn ⟨o,h1,h2.1⟩ e (fun z=>nomatch z) h
  | @ins a C dx fs ea cl ha hn htk hm=>
    cases (show u=Value.ref a from rx)
    obtain ⟨mA,O,_⟩:=ins_get I.hok ea
    obtain ⟨od,J,_⟩:=O.look
    exact PySem.W.kia_one (PySem.W.kitx_own (cl.get _) cl.hd ha hn htk hm) I.kIn J e (fun z=>nomatch z) h
end
end L2
namespace L2
open PySem PySem.Spec PyProof.Rows
structure Room (k:Nat) (A:Around):Prop where
  hd:A.handled=none
  dp:A.depth+3*k+5<recursionLimit
  un:A.units+16*k+200<cLine
theorem Room.mono {j k:Nat} {A:Around} (r:Room k A) (h:j≤k):Room j A:=⟨r.hd,by have:=r.dp; omega,by have:=r.un; omega⟩
theorem Room.deeper {k:Nat} {A:Around} (r:Room (k+1) A) (env:Env):Room k (A.deeper env):=
  ⟨r.hd,by have:=r.dp; show A.depth+1+3*k+5<_; omega,by have:=r.un; show A.units+3+16*k+200<_; omega⟩
theorem Room.depth {k:Nat} {A:Around} (r:Room k A):A.depth<recursionLimit:=by have:=r.dp; omega
theorem Room.units {k:Nat} {A:Around} (r:Room k A):A.units+64<cLine:=by have:=r.un; omega
noncomputable def tNil:TA:=fun _ H Q=>Q [] H
noncomputable def tCons (ta:TE) (tr:TA):TA:=fun σ H Q=>ta σ H fun x H1=>tr σ H1 fun xs H2=>Q (x::xs) H2
section
variable {X:Cx} {e:Expr} {es:List Expr} {te:TE} {t:TA} {pos:Pos}
theorem pa_nil:PA X [] tNil:=fun _ _ _ _ H Q I h=>Calls.spliced_nil ⟨[],H,I,.nil,h⟩
theorem pa_cons (ha:PE X e te) (hr:PA X es t) (hs:starEach (e::es) X.env=(false,eval e X.env)::starEach es X.env:=by rfl):PA X (e::es) (tCons te t):=by
  intro pos pins s σ H Q I h
  rw [hs]
  show wpAny _ _ (spliced ((false,eval e X.env)::backTo pos (starEach es X.env))) _ _ s
  refine Calls.spliced_cons (thn (ha pins s σ H _ I h) fun u s1 ⟨x,H1,I1,r1,q1⟩=>?_)
  exact thn (hr pos pins s1 σ H1 _ I1 q1) fun us s2 ⟨xs,H2,I2,r2,q2⟩=>⟨x::xs,H2,I2,.cons r1 r2,q2⟩
noncomputable def tTup (t:TA):TE:=fun σ H Q=>t σ H fun xs H1=>xs.length≤sizeLine∧∀ p,H1 p=none→Q (.ref p) (upd H1 p (.tup xs))
noncomputable def tLst (t:TA):TE:=fun σ H Q=>t σ H fun xs H1=>xs.length≤sizeLine∧∀ p,H1 p=none→Q (.ref p) (upd H1 p (.lst xs))
theorem pe_tup {x1} (h:PA X es t):PE X (.Tuple es x1 pos) (tTup t):=by
  intro pins s σ H Q I hq
  refine wpAny_Tuple_spliced (thn (h pos pins s σ H _ I hq) fun us s1 ⟨xs,H1,I1,r,z,q⟩=>⟨by rw [← r.length]; exact z,?_⟩)
  have hf:H1 s1.heap.objs.size=none:=I1.hok.fresh (Nat.le_refl _)
  refine ⟨.ref s1.heap.objs.size,upd H1 s1.heap.objs.size (.tup xs),I1.laid (t':=s1.toks) (fun b u e=>Heap.get?_push_of_some _ e) (Nat.le_refl _) ?_,rfl,q _ hf⟩
  exact ⟨z,us,r,⟨_,Heap.get?_push_size _ rfl,rfl,_,rfl⟩⟩
theorem pe_lst (h:PA X es t):PE X (.List es pos) (tLst t):=by
  intro pins s σ H Q I hq
  refine wpAny_List_spliced (thn (h pos pins s σ H _ I hq) fun us s1 ⟨xs,H1,I1,r,z,q⟩=>⟨by rw [← r.length]; exact z,?_⟩)
  have hf:H1 s1.heap.objs.size=none:=I1.hok.fresh (Nat.le_refl _)
  refine ⟨.ref s1.heap.objs.size,upd H1 s1.heap.objs.size (.lst xs),I1.laid (t':=s1.toks) (fun b u e=>Heap.get?_push_of_some _ e) (Nat.le_refl _) ?_,rfl,q _ hf⟩
  exact ⟨z,us,0,r,Heap.get?_push_size _ rfl⟩
end
noncomputable abbrev Sp:=List V→Hp→VK→XK→Prop
noncomputable abbrev CXT:=List Env→Hp→Shared→XK→Value→Shared→Prop
structure Env0 (P:Program) (w:World) (K:PySem.W.Frag) (mg:Str→Option Value) (base:Heap) (A:Around) (outer:List Env) (s:Shared) (H:Hp):Prop where
  frames:A.frames=some outer
  mod:Mod K mg base
  bs:∀ b o,base.get? b=some o→s.heap.get? b=some o∧H b=none
  bsz:base.objs.size≤s.heap.objs.size
  funs:s.heap.FunFrames base outer
  frf:∀ b∈frs outer,H b=none
  hok:HOk P w H s.heap
  bare:AllBare s.gens
noncomputable def CE (outer:List Env) (P:Program) (w:World) (H:Hp) (s:Shared) (Q:VK) (u:Value) (s':Shared):Prop:=
  ∃ v H',s'.os=s.os∧AllBare s'.gens∧Un (frs outer) [] H H' s.heap s'.heap∧HOk P w H' s'.heap∧RelV v u∧Q v H'
noncomputable def CR (CX:CXT) (outer:List Env) (P:Program) (w:World) (H:Hp) (s:Shared) (Q:VK) (E:XK) (r:Result) (s':Shared):Prop:=
  match r with
  | .ok (.ret u)=>CE outer P w H s Q u s'
  | .ok _=>False
  | .error e=>CX outer H s E e s'
structure FnOk (P:Program) (w:World) (K:PySem.W.Frag) (mg:Str→Option Value) (base:Heap) (CX:CXT) (k:Nat) (f:Addr) (fd:FuncData) (ps:List Str) (sp:Sp):Prop where
  len:∀ vs H Q E,sp vs H Q E→vs.length=ps.length
  run:∀ (A:Around) (outer:List Env) (s:Shared) (H:Hp) (args:Args) (us:List Value) (vs:List V) (Q:VK) (E:XK),Room k A→Env0 P w K mg base A outer s H→BindsTo s fd args (ps.zip us)→Vals vs us→sp vs H Q E→
    codeAny (model P w) A (.call (.ref f) args) (CR CX outer P w H s Q E) s
section
variable {X:Cx} {pins:List (Addr×Obj)} {σ:St} {H:Hp} {s s':Shared}
theorem Inv.env0 (I:Inv X pins σ H s):Env0 X.prog X.w X.K X.mg X.base X.A X.stack s H:=
  ⟨I.ok.frames,I.ok.mod,I.bs,Nat.le_trans I.ok.bsz I.sz,I.stack,I.stkFree,I.hok,I.bare⟩
theorem Inv.after {Q:VK} {u:Value} (I:Inv X pins σ H s) (h:CE X.stack X.prog X.w H s Q u s'):EP X pins σ Q u s':=by
  obtain ⟨v,H',os,bare,un,hok,r,q⟩:=h
  obtain ⟨hh,g,d,t,os'⟩:=s'
  obtain rfl:os'=s.os:=os
  exact ⟨v,H',I.call (h':=hh) (g':=g) (d':=d) (t':=t) (ch:=[]) un hok bare (fun b z=>absurd z (by simp)),r,q⟩
end
noncomputable def tCall (sp:Sp) (dvs:List V) (E:XK) (t:TA):TE:=fun σ H Q=>t σ H fun vs H1=>sp (vs++dvs) H1 Q E
noncomputable def Binds (K:PySem.W.Frag) (fd:FuncData) (ps:List Str) (ds:List Value):Prop:=
  ∀ (s:Shared) (us:List Value),K.In s.heap→(us++ds).length=ps.length→BindsTo s fd ⟨us,[]⟩ (ps.zip (us++ds))
theorem Binds.all {K:PySem.W.Frag} {fd:FuncData} {ps:List Str} (h:∀ us:List Value,us.length=ps.length→bindArgs fd ⟨us,[]⟩=pure (ps.zip us)):Binds K fd ps []:=fun s us _ hl=>by
  rw [List.append_nil] at hl ⊢
  exact .of_eq (h us hl)
noncomputable def Passes (CX:CXT) (X:Cx) (E:XK):Prop:=∀ (pins:List (Addr×Obj)) (σ:St) (H:Hp) (s:Shared) (e:Value) (s':Shared),Inv X pins σ H s→CX X.stack H s E e s'→X.xe e s'
section
variable {X:Cx} {CX:CXT} {k:Nat} {f C:Addr} {fd:FuncData} {ps:List Str} {sp:Sp} {dvs:List V} {ds:List Value} {E:XK} {x m:Str} {p pos apos:Pos} {e o:Expr} {es:List Expr} {ta:TE} {t:TA}
theorem run_fn {pins:List (Addr×Obj)} {σ:St} {H:Hp} {s:Shared} {Q:VK} {us:List Value} {vs:List V} (F:FnOk X.prog X.w X.K X.mg X.base CX k f fd ps sp) (hr:Room k X.A) (hb:Binds X.K fd ps ds) (hd:Vals dvs ds) (hx:Passes CX X E)
    (I:Inv X pins σ H s) (r:Vals vs us) (h:sp (vs++dvs) H Q E):wpAny (model X.prog X.w) X.A (call (.ref f) us) (EP X pins σ Q) X.xe s:=by
  have r2:Vals (vs++dvs) (us++ds):=r.append hd
  have hl:(us++ds).length=ps.length:=by rw [← r2.length]; exact F.len _ _ _ _ h
  refine wpAny_call (codeAny_mono (F.run X.A X.stack s H ⟨us,[]⟩ (us++ds) (vs++dvs) Q E hr I.env0 (hb s us I.kIn hl) r2 h) fun r s' hq=>?_)
  cases r with
  | error e=>exact hx pins σ H s e s' I hq
  | ok fl=>
    cases fl with
    | ret u=>exact I.after hq
    | next=>exact False.elim hq
    | brk=>exact False.elim hq
    | cont=>exact False.elim hq
theorem pe_call (F:FnOk X.prog X.w X.K X.mg X.base CX k f fd ps sp) (hr:Room k X.A) (hg:Gl X x) (hm:X.mg x=some (.ref f)) (hk:PySem.W.keepIn X.K (.ref f)=true) (hb:Binds X.K fd ps ds) (hd:Vals dvs ds) (hx:Passes CX X E)
    (ha:PA X (e::es) t) (hdb:(x == ("__debug__" : Str))=false:=by decide) (he:starEach (e::es) X.env=(false,eval e X.env)::starEach es X.env:=by rfl) (hpl:(backTo pos (starEach es X.env)).any (·.1)=false:=by rfl) :
    PE X (.Call (.Name x p) (e::es) [] pos) (tCall sp dvs E t):=by
  intro pins s σ H Q I h
  refine wpAny_Call_Name_kw (ld_glob I hg hm ?_ hdb)
  refine PySem.W.callWith_K (h₀:=X.base) I.ok.mod.kin hk (thn (ha pos pins s σ H _ I h) fun us s1 ⟨vs,H1,I1,r,q⟩=>⟨I1.kIn,?_⟩) he hpl
  exact run_fn F hr hb hd hx I1 r q
theorem pe_call0 (F:FnOk X.prog X.w X.K X.mg X.base CX k f fd ps sp) (hr:Room k X.A) (hg:Gl X x) (hm:X.mg x=some (.ref f)) (hk:PySem.W.keepIn X.K (.ref f)=true) (hb:Binds X.K fd ps ds) (hd:Vals dvs ds) (hx:Passes CX X E)
    (hdb:(x == ("__debug__" : Str))=false:=by decide):PE X (.Call (.Name x p) [] [] pos) (tCall sp dvs E tNil):=by
  intro pins s σ H Q I h
  refine wpAny_Call_Name_kw (ld_glob I hg hm ?_ hdb)
  exact PySem.W.callWith_K0 I.kIn hk (run_fn (us:=[]) F hr hb hd hx I .nil h)
end
section
variable {X:Cx} {CX:CXT} {k:Nat} {f C:Addr} {fd:FuncData} {ps ks:List Str} {sp:Sp} {E:XK} {x m:Str} {p pos apos kpos:Pos} {e o:Expr} {es:List Expr} {kws:List Keyword} {te ta:TE} {t tk:TA} {nm:Option Str}
variable {g:List Value→List Value→List Value} {gV:List V→List V→List V}
end
structure FnScope (N P:List Str) (sc:Scope):Prop where
  kind:sc.kind=.function
  co:sc.isCoroutine=false
  gen:sc.isGenerator=false
  nd:N.Nodup
  pre:N.take P.length=P
  par:∀ x∈P,sc.names.lookup x=some .local∨sc.names.lookup x=some .cell
  nofree:∀ y∈sc.names,y.2≠.free
theorem bindL_out {kindOf:Str→Option NameKind} {x:Str}:∀ {binds:List (Str×Value)} {m:Str→Option Value},(∀ v,(x,v) ∉ binds)→bindL kindOf binds m x=m x
  | [],_,_=>rfl
  | (n,v)::r,m,h=>by
    unfold bindL
    rw [bindL_out fun w hw=>h w (List.mem_cons_of_mem _ hw)]
    split
    · have:x≠n:=by rintro rfl; exact h v List.mem_cons_self
      simp [this]
    · rfl
theorem bindC_out {kindOf:Str→Option NameKind} {x:Str}:∀ {binds:List (Str×Value)} {m:Str→Option Value},(∀ v,(x,v) ∉ binds)→bindC kindOf binds m x=m x
  | [],_,_=>rfl
  | (n,v)::r,m,h=>by
    unfold bindC
    rw [bindC_out fun w hw=>h w (List.mem_cons_of_mem _ hw)]
    split
    · rfl
    · have:x≠n:=by rintro rfl; exact h v List.mem_cons_self
      simp [this]
theorem bindL_get {kindOf:Str→Option NameKind} {x:Str} {v:Value}:∀ {P:List Str} {vs:List Value} {i:Nat} {m:Str→Option Value},P.Nodup→P[i]?=some x→vs[i]?=some v→kindOf x=some .local→
    bindL kindOf (P.zip vs) m x=some v
  | [],_,_,_,_,h,_,_=>by simp at h
  | _::_,[],_,_,_,_,h,_=>by simp at h
  | p::P,w::vs,0,m,nd,h1,h2,hk=>by
    simp at h1 h2; subst h1; subst h2
    show bindL kindOf ((p,w)::P.zip vs) m p=_
    unfold bindL
    rw [bindL_out fun v hv=>(List.nodup_cons.mp nd).1 (List.of_mem_zip hv).1,if_pos hk]
    simp
  | p::P,w::vs,i+1,m,nd,h1,h2,hk=>by
    show bindL kindOf ((p,w)::P.zip vs) m x=_
    unfold bindL
    exact bindL_get (i:=i) (List.nodup_cons.mp nd).2 (by simpa using h1) (by simpa using h2) hk
theorem bindC_get {kindOf:Str→Option NameKind} {x:Str} {v:Value}:∀ {P:List Str} {vs:List Value} {i:Nat} {m:Str→Option Value},P.Nodup→P[i]?=some x→vs[i]?=some v→kindOf x≠some .local→
    bindC kindOf (P.zip vs) m x=some v
  | [],_,_,_,_,h,_,_=>by simp at h
  | _::_,[],_,_,_,_,h,_=>by simp at h
  | p::P,w::vs,0,m,nd,h1,h2,hk=>by
    simp at h1 h2; subst h1; subst h2
    show bindC kindOf ((p,w)::P.zip vs) m p=_
    unfold bindC
    rw [bindC_out fun v hv=>(List.nodup_cons.mp nd).1 (List.of_mem_zip hv).1,if_neg hk]
    simp
  | p::P,w::vs,i+1,m,nd,h1,h2,hk=>by
    show bindC kindOf ((p,w)::P.zip vs) m x=_
    unfold bindC
    exact bindC_get (i:=i) (List.nodup_cons.mp nd).2 (by simpa using h1) (by simpa using h2) hk
noncomputable def start (N:List Str) (vs:List V):St:=vs.map some++List.replicate (N.length - vs.length) none
noncomputable def cxOf (CX:CXT) (P:Program) (w:World) (K:PySem.W.Frag) (mg:Str→Option Value) (base:Heap) (N:List Str) (qual:Str) (scope:Scope) (f:Addr) (cd:Value) (A:Around) (outer:List Env) (s:Shared) (H:Hp) (E:XK):Cx where
  prog:=P
  w:=w
  K:=K
  mg:=mg
  base:=base
  A:=A.deeper (envOfC qual scope s.heap.objs.size f cd)
  N:=N
  s₀:=s
  H₀:=H
  env:=envOfC qual scope s.heap.objs.size f cd
  outer:=outer
  stack:=envOfC qual scope s.heap.objs.size f cd::outer
  ex:=[]
  calm:=true
  fn:=fun _=>true
  pn:=[]
  xe:=fun e s'=>wpAny (model P w) (A.deeper (envOfC qual scope s.heap.objs.size f cd)) (leaving (envOfC qual scope s.heap.objs.size f cd) e) (fun _ s''=>CX outer H s E e s'') (fun e' s''=>CX outer H s E e' s'') s'
theorem cell_has {sc:Scope} {n:Nat} {x:Str} (h:sc.names.lookup x=some .cell):∃ c,(cellsFrom n sc.names []).lookup x=some c:=by
  have q:=PySem.W.cellsFrom_some sc.names n [] (.inl h)
  exact Option.isSome_iff_exists.mp q
theorem inv_start {CX:CXT} {P:Program} {w:World} {K:PySem.W.Frag} {mg:Str→Option Value} {base:Heap} {N ps:List Str} {qual:Str} {scope:Scope} {f:Addr} {cd:Value} {A:Around} {outer:List Env} {s s1:Shared} {H:Hp} {E:XK} {us:List Value} {vs:List V}
    (S:FnScope N ps scope) (hd:A.handled=none) (e0:Env0 P w K mg base A outer s H) (hl:vs.length=ps.length) (r:Vals vs us)
    (x:InCallC s s.heap.objs.size (bindL (envOfC qual scope s.heap.objs.size f cd).kindOf (ps.zip us) fun _=>none) (cellsFrom (s.heap.objs.size+1) scope.names []) (bindC (envOfC qual scope s.heap.objs.size f cd).kindOf (ps.zip us) fun _=>none) s1) :
    Inv (cxOf CX P w K mg base N qual scope f cd A outer s H E) [] (start N vs) H s1:=by
  have hpl:ps.length≤N.length:=by have:=congrArg List.length S.pre; rw [List.length_take] at this; omega
  obtain ⟨h1,tk,rfl,hk⟩:=x.done
  have noA:∀ b:Addr,b ∉ (cxOf CX P w K mg base N qual scope f cd A outer s H E).ex:=fun b z=>absurd (show b∈([]:List Addr) from z) (by simp)
  refine ⟨⟨e0.mod,S.kind,rfl,rfl,Nat.le_refl _,fun y z c h1 h2=>?_,fun y hy=>?_,fun y c _ h=>?_,fun _=>hd,Around.frames_deeper e0.frames,.inr ⟨rfl,rfl⟩,fun b z=>absurd z (noA b),e0.bs,e0.bsz,fun b _ _=>noA b,fun b z=>absurd z (noA b),e0.funs,e0.frf⟩,
    rfl,e0.bare,Un.kept hk,⟨_,x.toInCall.ns,fun i y v h1 h2 h3=>?_⟩,fun y c h=>⟨_,x.cell y c h⟩,e0.hok.fresh (Nat.le_refl _),fun y c h=>?_,fun p hp=>absurd (show p∈([]:List (Addr×Obj)) from hp) (by simp),e0.hok.kept hk,?_⟩
  · exact name_of_addr x.apart (PySem.mem_of_lookup h1) (PySem.mem_of_lookup h2)
  · have hy:scope.names.lookup y=some .cell∨scope.names.lookup y=some .free:=hy
    rcases hy with hy | hy
    · exact cell_has hy
    · exact absurd rfl (S.nofree _ (PySem.mem_of_lookup hy))
  · exact Nat.le_of_lt (x.above y c (PySem.mem_of_lookup h))
  · have hi:i<vs.length:=by
      unfold start at h2
      by_cases hi:i<vs.length
      · exact hi
      · rw [List.getElem?_append_right (by simpa using hi)] at h2
        rw [List.getElem?_replicate] at h2
        split at h2<;>cases h2
    have ha:vs[i]?=some v:=by
      unfold start at h2
      rw [List.getElem?_append_left (by simpa using hi),List.getElem?_map] at h2
      cases e:vs[i]? with
      | none=>rw [e] at h2; cases h2
      | some a=>rw [e] at h2; cases h2; rfl
    obtain ⟨u,hu,rv⟩:=r.get ha
    have hp:ps[i]?=some y:=by
      rw [← S.pre,List.getElem?_take_of_lt (by omega)]; exact h1
    have ndP:ps.Nodup:=by rw [← S.pre]; exact S.nd.sublist (List.take_sublist _ _)
    refine ⟨u,rv,?_⟩
    rcases S.par y (List.mem_of_getElem? hp) with k | k
    · exact .inl ⟨k,bindL_get ndP hp hu k⟩
    · obtain ⟨c,e⟩:=cell_has (n:=s.heap.objs.size+1) k
      refine .inr ⟨.inl k,c,e,?_⟩
      have q:=x.cell y c e
      rw [bindC_get ndP hp hu (by show scope.names.lookup y≠_; rw [k]; decide)] at q
      exact q
  · exact e0.hok.fresh (Nat.le_of_lt (x.above y c (PySem.mem_of_lookup h)))
  · unfold start
    show _=N.length
    rw [List.length_append,List.length_map,List.length_replicate]
    omega
theorem fn_of {CX:CXT} {P:Program} {w:World} {K:PySem.W.Frag} {mg:Str→Option Value} {base:Heap} {k:Nat} {f:Addr} {name qual:Str} {params:Arguments} {body:List Stmt} {scope:Scope} {dV kV doc pm cdv ct oc:Value} {an od:Option Addr}
    {osl:Array (Option Value)} {N ps:List Str} {sp:Sp} (lk:K.lookup f=some ⟨oc,od,.func (PySem.W.fnOf name qual params body scope dV kV doc pm an cdv ct),osl⟩) (hcd:PySem.W.codeIn K cdv qual=true) (S:FnScope N ps scope)
    (len:∀ vs H Q E,sp vs H Q E→vs.length=ps.length)
    (hbody:∀ (A:Around) (outer:List Env) (s:Shared) (H:Hp) (vs:List V) (Q:VK) (E:XK),Room k (A.deeper (envOfC qual scope s.heap.objs.size f cdv))→sp vs H Q E→
      ∃ t,PSs (cxOf CX P w K mg base N qual scope f cdv A outer s H E) body t∧t { nx:=fun _ H'=>Q .non H',rt:=Q } (start N vs) H) :
    FnOk P w K mg base CX (k+1) f (PySem.W.fnOf name qual params body scope dV kV doc pm an cdv ct) ps sp:=by
  refine ⟨len,fun A outer s H args us vs Q E hr e0 hb r hsp=>?_⟩
  have hl:=len _ _ _ _ hsp
  have KX:K.In s.heap:=e0.mod.kin.keeps fun b o e=>(e0.bs b o e).1
  have lim:s.heap.NoLimit:=e0.mod.nolimit.keeps fun b o e=>(e0.bs b o e).1
  have hkind:∀ y∈ps.zip us,scope.names.lookup y.1=some .local∨(scope.names.lookup y.1=some .cell∧((cellsFrom (s.heap.objs.size+1) scope.names []).lookup y.1).isSome=true):=fun ⟨n,v⟩ hy=>by
    rcases S.par n (List.of_mem_zip hy).1 with q | q
    · exact .inl q
    · exact .inr ⟨q,PySem.W.cellsFrom_some _ _ _ (.inl q)⟩
  refine codeAny_call_function hr.depth (KX _ _ lk) rfl S.co S.gen rfl (PySem.W.codeRec_of KX hcd) (hb _ _ _ _ ?_)
  refine wpAny_newFunctionEnv_cells S.kind hkind fun env he s1 x=>?_
  subst he
  refine ⟨lim.keeps x.toInCall.keep,codeAny_func ?_⟩
  obtain ⟨t,ht,hq⟩:=hbody A outer s H vs Q E (hr.deeper _) hsp
  have I:Inv (cxOf CX P w K mg base N qual scope f cdv A outer s H E) [] (start N vs) H s1:=inv_start S hr.hd e0 hl r x
  refine wpAny_mono (ht [] s1 (start N vs) H _ I hq) (fun fl s' hs=>?_) fun e s' hs=>hs
  have fin:∀ {σ':St} {H':Hp} {v:V} {u:Value},Inv (cxOf CX P w K mg base N qual scope f cdv A outer s H E) [] σ' H' s'→RelV v u→Q v H'→CE outer P w H s Q u s':=
    fun {σ' H' v u} J rv q=>⟨v,H',J.os,J.bare,J.base,J.hok,rv,q⟩
  cases fl with
  | ret u=>
    obtain ⟨v,σ',H',J,rv,q⟩:=hs
    exact fin J rv q
  | next=>
    obtain ⟨σ',H',J,q⟩:=hs
    exact fin (v:=V.non) (u:=Value.none) J rfl q
  | brk=>
    obtain ⟨_,_,_,q⟩:=hs
    exact False.elim q
  | cont=>
    obtain ⟨_,_,_,q⟩:=hs
    exact False.elim q
end L2
namespace L2
open PySem PySem.Spec PyProof.Rows
section
variable {X:Cx} {x:Str} {p pos:Pos} {e:Expr} {es:List Expr} {t:TA} {id T:String} {r:List V→Hp→VK→Prop}
noncomputable def tCB (r:List V→Hp→VK→Prop) (t:TA):TE:=fun σ H Q=>t σ H fun vs H1=>r vs H1 Q
theorem pe_callB (hc:CallR X (.builtin id) r) (hg:Gl X x) (hm:X.mg x=none) (hv:bootBuiltins x=some (.builtin id)) (ha:PA X (e::es) t) (hn:x ≠ "__name__" := by decide) (hdb:(x == ("__debug__" : Str))=false:=by decide)
    (he:starEach (e::es) X.env=(false,eval e X.env)::starEach es X.env:=by rfl) (hpl:(backTo pos (starEach es X.env)).any (·.1)=false:=by rfl):PE X (.Call (.Name x p) (e::es) [] pos) (tCB r t):=by
  intro pins s σ H Q I h
  refine wpAny_Call_Name_kw (ld_blt I hg hm hv ?_ hn hdb)
  exact PyProof.Rows.callWith_builtin1 (thn (ha pos pins s σ H _ I h) fun us s1 ⟨vs,H1,I1,r1,q1⟩=>hc pins s1 σ H1 vs us Q I1 r1 q1) he hpl
theorem pe_callTy (hc:CallR X (.type T) r) (hg:Gl X x) (hm:X.mg x=none) (hv:bootBuiltins x=some (.type T)) (ha:PA X (e::es) t) (hn:x ≠ "__name__" := by decide) (hdb:(x == ("__debug__" : Str))=false:=by decide)
    (he:starEach (e::es) X.env=(false,eval e X.env)::starEach es X.env:=by rfl) (hpl:(backTo pos (starEach es X.env)).any (·.1)=false:=by rfl):PE X (.Call (.Name x p) (e::es) [] pos) (tCB r t):=by
  intro pins s σ H Q I h
  refine wpAny_Call_Name_kw (ld_blt I hg hm hv ?_ hn hdb)
  exact PyProof.Rows.callWith_type1 (thn (ha pos pins s σ H _ I h) fun us s1 ⟨vs,H1,I1,r1,q1⟩=>hc pins s1 σ H1 vs us Q I1 r1 q1) he hpl
end
end L2
namespace HT
open PySem PyProof.Rows
section
open PySem.SeqAt
open PySem.AutoSeq1 (wpAny_loadPart')
open PySem.MeetsSeq PySem.MeetsSeq2 PySem.MeetsSeq3
end
section
variable {prog:Program} {w:World} {A:Around} {E:Value→Shared→Prop} {s:Shared}
theorem cat_tup {t b:Addr} {vs ws:List Value} {Q:Value→Shared→Prop} (ht:IsTup s.heap t vs.toArray) (hb:IsTup s.heap b ws.toArray) (hv:vs≠[])
    (h1:ws=[]→Q (.ref t) s) (h2:ws≠[]→Q (.ref s.heap.objs.size) { s with heap:=s.heap.push { cls:=.type "tuple",data:=.seq (vs++ws).toArray } })
    (hsz:vs.length+ws.length≤sizeLine):wpAny (model prog w) A (binaryOp .Add (.ref t) (.ref b)) Q E s:=by
  obtain ⟨⟨cls,dd,data,sl⟩,ho,hc,n,hd⟩:=id ht
  obtain ⟨⟨cls2,dd2,data2,sl2⟩,ho2,hc2,n2,hd2⟩:=id hb
  simp only at hc hd hc2 hd2
  subst hc hd hc2 hd2
  have e:vs.toArray++ws.toArray=(vs++ws).toArray:=by simp
  by_cases hw:ws=[]
  · exact concat_meets ⟨_,ho,rfl⟩ ⟨_,ho2,rfl⟩ noFill_tuple_add seq_tuple_add PySem.F.slot_tuple_add PySem.F.entry_tuple_add (PySem.F.args_tuple_add_2 _ _)
      (tuple_addW1 t b vs.toArray ws.toArray n n2 dd dd2 sl sl2 (by simpa using hv) (by simp [hw])) ⟨ho,ho2,h1 hw⟩
  · refine concat_meets ⟨_,ho,rfl⟩ ⟨_,ho2,rfl⟩ noFill_tuple_add seq_tuple_add PySem.F.slot_tuple_add PySem.F.entry_tuple_add (PySem.F.args_tuple_add_2 _ _)
      (tuple_addW2 t b vs.toArray ws.toArray n n2 dd dd2 sl sl2 (by simpa using hv) (by simpa using hw) (by rw [List.size_toArray,List.size_toArray]; exact hsz)) ⟨ho,ho2,?_⟩
    rw [e]
    exact h2 hw
noncomputable def sIx (n d:Nat):Option Int→Nat
  | none=>d
  | some v=>if v<0 then (v+(n:Int)).toNat else min v.toNat n
theorem sIx_le (n d:Nat) (hd:d≤n) (o:Option Int):sIx n d o≤n:=by
  cases o with
  | none=>exact hd
  | some v=>
    show (if v<0 then (v+(n:Int)).toNat else min v.toNat n)≤n
    by_cases hv:v<0
    · rw [if_pos hv]; omega
    · rw [if_neg hv]; exact Nat.min_le_right _ _
theorem clip_eq (v:Int) (n d:Nat):(if v<0 then max (v+(n:Int)) 0 else min v (n:Int))=((sIx n d (some v):Nat):Int):=by
  show (if v<0 then max (v+(n:Int)) 0 else min v (n:Int))=(((if v<0 then (v+(n:Int)).toNat else min v.toNat n):Nat):Int)
  by_cases hv:v<0
  · simp only [if_pos hv]; omega
  · simp only [if_neg hv]; omega
theorem adjust_gen (lo hi:Option Int) (n:Nat):Builtin.Slice.sliceAdjust lo hi 1 (n:Int)=(((sIx n 0 lo:Nat):Int),((sIx n n hi:Nat):Int)):=by
  have h1:¬ ((1:Int)<0):=by omega
  unfold Builtin.Slice.sliceAdjust
  simp only [h1,if_false]
  refine Prod.ext ?_ ?_
  · cases lo with
    | none=>rfl
    | some v=>exact clip_eq v n 0
  · cases hi with
    | none=>rfl
    | some v=>exact clip_eq v n n
theorem places_gen (i j:Nat):Builtin.Slice.slicePlaces (i:Int) (j:Int) 1=j - i:=by
  unfold Builtin.Slice.slicePlaces
  have h1:(1:Int) > 0:=by omega
  simp only [h1,if_true,Int.ediv_one]
  split<;>omega
theorem slicePart_ {v:Value} {o:Option Int} {Q:Option Int→Shared→Prop} (p:IsPart v o) (h:Q o s):wpAny (model prog w) A (Builtin.Slice.slicePartIndex v) Q E s:=by
  cases p with
  | none=>exact slicePart_none h
  | int i t=>exact slicePart_int h
theorem sliceApplied_gen {sl:Addr} {vl vu:Value} {lo hi:Option Int} {n:Nat} {Q:Int×Int×Nat→Shared→Prop} (hs:s.heap.IsSliceOf sl vl vu .none) (pl:IsPart vl lo) (pu:IsPart vu hi)
    (h:Q (((sIx n 0 lo:Nat):Int),1,sIx n n hi - sIx n 0 lo) s):wpAny (model prog w) A (Builtin.Slice.sliceApplied (.ref sl) (pure (n:Int))) Q E s:=by
  obtain ⟨os,hos,hcs,hds⟩:=id hs
  unfold Builtin.Slice.sliceApplied Builtin.Slice.sliceFields
  refine wpAny_bind (wpAny_bind (wpAny_field hos hds (x:=vl) rfl (wpAny_bind (wpAny_field hos hds (x:=vu) rfl (wpAny_bind (wpAny_field hos hds (x:=.none) rfl (wpAny_pure ?_)))))))
  refine wpAny_bind (slicePart_none ?_)
  show wpAny _ _ (if ((1:Int) == 0)=true then _ else _) _ _ s
  rw [if_neg (by decide)]
  refine wpAny_bind (slicePart_ pl (wpAny_bind (slicePart_ pu (wpAny_bind (wpAny_pure ?_)))))
  show wpAny _ _ (match Builtin.Slice.sliceAdjust lo hi 1 (n:Int) with | (lo,hi)=>pure (lo,(1:Int),Builtin.Slice.slicePlaces lo hi 1)) _ _ s
  rw [adjust_gen lo hi n]
  show wpAny _ _ (pure (((sIx n 0 lo:Nat):Int),(1:Int),Builtin.Slice.slicePlaces ((sIx n 0 lo:Nat):Int) ((sIx n n hi:Nat):Int) 1)) _ _ s
  rw [places_gen]
  exact wpAny_pure h
theorem pick_gen (xs:Array Value) (i k:Nat):((List.range k).filterMap fun (m:Nat)=>xs[((i:Int)+(m:Int)*1).toNat]?).toArray=((xs.toList.drop i).take k).toArray:=by
  have e:(fun (m:Nat)=>xs[((i:Int)+(m:Int)*1).toNat]?)=fun m=>xs[i+m]?:=by
    funext m
    have:((i:Int)+(m:Int)*1).toNat=i+m:=by omega
    rw [this]
  rw [e]
  have:=pick_run xs i k
  rw [List.filterMap_map] at this
  have e2:((fun x=>xs[x]?) ∘ fun x=>i+x)=fun m=>xs[i+m]?:=rfl
  rw [e2] at this
  rw [this]
theorem getItem_tuple_cut {t sl:Addr} {items:Array Value} {vl vu:Value} {lo hi:Option Int} {Q:Value→Shared→Prop} (ht:IsTup s.heap t items) (hs:s.heap.IsSliceOf sl vl vu .none) (pl:IsPart vl lo) (pu:IsPart vu hi)
    (hw:¬ (sIx items.size 0 lo=0∧sIx items.size items.size hi=items.size))
    (h:Q (.ref s.heap.objs.size) { s with heap:=s.heap.push { cls:=.type "tuple",data:=.seq ((items.toList.drop (sIx items.size 0 lo)).take (sIx items.size items.size hi - sIx items.size 0 lo)).toArray } })
    (hsz:items.size≤sizeLine):wpAny (model prog w) A (getItem (.ref t) (.ref sl)) Q E s:=by
  have htake:sizeOk (.seq ((items.toList.drop (sIx items.size 0 lo)).take (sIx items.size items.size hi - sIx items.size 0 lo)).toArray):=by
    show ((items.toList.drop (sIx items.size 0 lo)).take (sIx items.size items.size hi - sIx items.size 0 lo)).toArray.size≤sizeLine
    rw [List.size_toArray,List.length_take,List.length_drop,Array.length_toList]
    omega
  have hj:sIx items.size items.size hi≤items.size:=sIx_le _ _ (Nat.le_refl _) hi
  obtain ⟨os,hos,hcs,hds⟩:=id hs
  have hTs:s.TypeIs (.ref sl) "slice" := ⟨os,hos,hcs⟩
  unfold getItem
  try with_reducible refine wpAny_holding ?_
  first | refine wpAny_bind (wpAny_pure ?_) | skip
  refine wpAny_bind (wpAny_sequenceKey ht.typeIs (by decide) ?_)
  refine wpAny_bind (wpAny_callSpecial?_slot (name:=Str.ofString "__getitem__") ht.typeIs PyProof.Rows.slot_tuple_getitem
    (wpAny_call_entry PyProof.Rows.slot_tuple_getitem ht.typeIs entry_tuple_getitem ?_ (args_tuple_getitem _ _)))
  show wpAny _ _ (Builtin.Tuple.tupleItemsOf (.ref t) >>= _) _ _ s
  refine wpAny_bind (tupleItemsOf_ ht ?_)
  refine wpAny_bind (wpAny_typeOf hTs ?_)
  rw [if_pos (by decide)]
  refine wpAny_bind (sliceApplied_gen hs pl pu ?_)
  have hno:¬ ((((sIx items.size 0 lo:Nat):Int) == 0&&(1:Int) == 1&&(sIx items.size items.size hi - sIx items.size 0 lo) == items.size)=true):=by
    intro q
    rw [Bool.and_eq_true,Bool.and_eq_true] at q
    have q1:((sIx items.size 0 lo:Nat):Int)=0:=eq_of_beq q.1.1
    have q2:sIx items.size items.size hi - sIx items.size 0 lo=items.size:=eq_of_beq q.2
    exact hw ⟨by omega,by omega⟩
  show wpAny _ _ (if (((sIx items.size 0 lo:Nat):Int) == 0&&(1:Int) == 1&&(sIx items.size items.size hi - sIx items.size 0 lo) == items.size)=true then _ else _) _ _ s
  rw [if_neg hno,pick_gen]
  first
    | exact wpAny_bind (m:=Builtin.Tuple.tupleExact _) (wpAny_newObj_type (wpAny_pure ⟨_,rfl,wpAny_pure h⟩) htake)
    | exact wpAny_bind (m:=Builtin.Tuple.tupleExact _) (wpAny_newObj_type (wpAny_bind (wpAny_pure (wpAny_pure ⟨_,rfl,wpAny_pure h⟩))) htake)
    | exact wpAny_bind (wpAny_bind (m:=Builtin.Tuple.tupleExact _) (wpAny_newObj_type (wpAny_pure (wpAny_pure ⟨_,rfl,wpAny_pure h⟩)) htake))
    | exact wpAny_bind (wpAny_bind (m:=Builtin.Tuple.tupleExact _) (wpAny_newObj_type (wpAny_pure ⟨_,rfl,wpAny_pure h⟩) htake))
end
end HT
namespace L2
open PySem PySem.Spec PyProof.Rows
noncomputable abbrev TO:=St→Hp→(Option Int→Hp→Prop)→Prop
noncomputable def PO (X:Cx) (e:Option Expr) (t:TO):Prop:=
  ∀ (pins:List (Addr×Obj)) (s:Shared) (σ:St) (H:Hp) (Q:Option Int→Hp→Prop),Inv X pins σ H s→t σ H Q→
    wpAny (model X.prog X.w) X.A (evalPart e X.env) (fun u s'=>∃ o H',Inv X pins σ H' s'∧IsPart u o∧Q o H') X.xe s
noncomputable def tNoPart:TO:=fun _ H Q=>Q none H
noncomputable def tPart (t:TE):TO:=fun σ H Q=>t σ H fun x H1=>∃ i,x=.int i∧Q (some i) H1
section
variable {X:Cx} {e:Expr} {te:TE} {lo hi:Option Expr} {tl th:TO} {pos p2:Pos}
theorem po_none:PO X none tNoPart:=by
  intro pins s σ H Q I h
  rw [evalPart_none]
  exact wpAny_pure ⟨none,H,I,.none,h⟩
theorem po_some (h:PE X e te):PO X (some e) (tPart te):=by
  intro pins s σ H Q I hw
  rw [evalPart_some]
  refine thn (h pins s σ H _ I hw) fun u s1 ⟨x,H1,I1,r1,q1⟩=>?_
  obtain ⟨i,rfl,q⟩:=q1
  obtain ⟨t,rfl⟩:=r1
  exact ⟨some i,H1,I1,.int i t,q⟩
noncomputable def SlR (X:Cx) (r:V→Option Int→Option Int→Hp→VK→Prop):Prop:=
  ∀ (pins:List (Addr×Obj)) (s:Shared) (σ:St) (H:Hp) (x:V) (v vl vu:Value) (lo hi:Option Int) (sl:Addr) (Q:VK),Inv X pins σ H s→RelV x v→s.heap.IsSliceOf sl vl vu .none→IsPart vl lo→IsPart vu hi→r x lo hi H Q→
    ∃ T id,typeLookup (.type T) "__getitem__" = pure (some (.builtin id))∧s.TypeIs v T∧wpAny (model X.prog X.w) X.A (getItem v (.ref sl)) (EP X pins σ Q) X.xe s
theorem SlR.or {r r':V→Option Int→Option Int→Hp→VK→Prop} (h:SlR X r) (h':SlR X r'):SlR X (fun x lo hi H Q=>r x lo hi H Q∨r' x lo hi H Q):=by
  intro pins s σ H x v vl vu lo hi sl Q I rx hs pl pu q
  rcases q with q | q
  · exact h pins s σ H x v vl vu lo hi sl Q I rx hs pl pu q
  · exact h' pins s σ H x v vl vu lo hi sl Q I rx hs pl pu q
noncomputable def tSl (r:V→Option Int→Option Int→Hp→VK→Prop) (te:TE) (tl th:TO):TE:=fun σ H Q=>te σ H fun x H1=>tl σ H1 fun l H2=>th σ H2 fun u H3=>r x l u H3 Q
theorem pe_slice {r:V→Option Int→Option Int→Hp→VK→Prop} (hr:SlR X r) (he:PE X e te) (hl:PO X lo tl) (hu:PO X hi th):PE X (.Subscript e (.Slice lo hi none p2) pos) (tSl r te tl th):=by
  intro pins s σ H Q I h
  refine Subscript_ (thn (he pins s σ H _ I h) fun v s1 ⟨x,H1,I1,r1,q1⟩=>?_)
  refine wpAny_Slice (thn (hl pins s1 σ H1 _ I1 q1) fun vl s2 ⟨l,H2,I2,pl,q2⟩=>thn (hu pins s2 σ H2 _ I2 q2) fun vu s3 ⟨u,H3,I3,pu,q3⟩=>?_)
  rw [evalPart_none]
  refine wpAny_pure ?_
  have I4:Inv X pins σ H3 { s3 with heap:=s3.heap.push { cls:=.type "slice",data:=.fields #[vl,vu,.none] } }:=I3.kept (t':=s3.toks) fun b ob q=>Heap.get?_push_of_some _ q
  obtain ⟨T,id,hT,ht,hg⟩:=hr pins { s3 with heap:=s3.heap.push { cls:=.type "slice",data:=.fields #[vl,vu,.none] } } σ H3 x v vl vu l u s3.heap.objs.size Q I4 r1 (Heap.IsSliceOf.new ..) pl pu q3
  show wpAny (model X.prog X.w) X.A (subscriptTail e (.Slice lo hi none p2) v (.ref s3.heap.objs.size)) (EP X pins σ Q) X.xe { s3 with heap:=s3.heap.push { cls:=.type "slice",data:=.fields #[vl,vu,.none] } }
  exact tail_any (ops:=[.ref s3.heap.objs.size,v]) ht hT hg (by with_unfolding_all rfl)
noncomputable def cutV (xs:List V) (lo hi:Option Int):List V:=(xs.drop (HT.sIx xs.length 0 lo)).take (HT.sIx xs.length xs.length hi - HT.sIx xs.length 0 lo)
theorem cutV_length (xs:List V) (lo hi:Option Int):(cutV xs lo hi).length≤xs.length:=by
  unfold cutV
  rw [List.length_take,List.length_drop]
  omega
noncomputable def rSlT (K:PySem.W.Frag):V→Option Int→Option Int→Hp→VK→Prop:=fun x lo hi H Q=>∃ a xs,x=.ref a∧SqT K H a xs∧
  ¬ (HT.sIx xs.length 0 lo=0∧HT.sIx xs.length xs.length hi=xs.length)∧∀ p,H p=none→Q (.ref p) (upd H p (.tup (cutV xs lo hi)))
theorem sl_tup:SlR X (rSlT X.K):=by
  intro pins s σ H x v vl vu lo hi sl Q I rx hs pl pu h
  obtain ⟨a,xs,rfl,hx,hw,q⟩:=h
  cases rx
  obtain ⟨its,r,ht,hz⟩:=I.tuple hx
  have hlen:its.toArray.size=xs.length:=by rw [List.size_toArray]; exact r.length.symm
  refine ⟨"tuple",_,PyProof.Rows.slot_tuple_getitem.lookup,ht.typeIs,?_⟩
  refine HT.getItem_tuple_cut ht hs pl pu (by rw [hlen]; exact hw) ?_ (by rw [hlen]; exact hz)
  rw [hlen]
  refine ⟨.ref s.heap.objs.size,_,I.laid (t':=s.toks) (o:=.tup (cutV xs lo hi)) (fun b ob q=>Heap.get?_push_of_some _ q) (Nat.le_refl _) ?_,rfl,q _ (I.hok.fresh (Nat.le_refl _))⟩
  exact ⟨Nat.le_trans (cutV_length xs lo hi) hz,_,(r.drop (HT.sIx xs.length 0 lo)).take (HT.sIx xs.length xs.length hi - HT.sIx xs.length 0 lo),IsTup.new _ _⟩
noncomputable def rCatT (K:PySem.W.Frag):R2:=fun x y H Q=>∃ a b xs ys,x=.ref a∧y=.ref b∧SqT K H a xs∧SqT K H b ys∧xs≠[]∧xs.length+ys.length≤sizeLine∧
  (ys=[]→Q (.ref a) H)∧(ys≠[]→∀ p,H p=none→Q (.ref p) (upd H p (.tup (xs++ys))))
theorem Vals.nil_iff {xs:List V} {us:List Value} (r:Vals xs us):us=[]↔xs=[]:=by
  cases r with
  | nil=>simp
  | cons _ _=>simp
theorem op_catT:OpR X (binaryOp .Add) (rCatT X.K):=by
  intro pins s σ H x y v u Q I rx ry h
  obtain ⟨a,b,xs,ys,rfl,rfl,ha,hb,hx,hz,q1,q2⟩:=h
  cases rx
  cases ry
  obtain ⟨its,r1,p1,_⟩:=I.tuple ha
  obtain ⟨its2,r2,p2,_⟩:=I.tuple hb
  refine HT.cat_tup p1 p2 (fun z=>hx (r1.nil_iff.mp z)) (fun z=>⟨.ref a,H,I,rfl,q1 (r2.nil_iff.mp z)⟩) (fun z=>?_) (by rw [← r1.length,← r2.length]; exact hz)
  refine ⟨.ref s.heap.objs.size,_,I.laid (t':=s.toks) (o:=.tup (xs++ys)) (fun b ob q=>Heap.get?_push_of_some _ q) (Nat.le_refl _) ?_,rfl,q2 (fun w=>z (r2.nil_iff.mpr w)) _ (I.hok.fresh (Nat.le_refl _))⟩
  exact ⟨by rw [List.length_append]; exact hz,_,r1.append r2,IsTup.new _ _⟩
end
end L2
namespace L2
open PySem PySem.Spec PyProof.Rows
noncomputable def ixN (n:Nat) (i:Int):Option Nat:=if 0≤i then (if i<n then some i.toNat else none) else if -(n:Int)≤i then some (i+n).toNat else none
noncomputable def atI {α:Type} (xs:List α) (i:Int):Option α:=(ixN xs.length i).bind fun j=>xs[j]?
theorem ixN_seq {n:Nat} {i:Int} {j:Nat} (h:ixN n i=some j):seqIndex? i n=some j∧j<n ∧ -(n:Int)≤i∧i<n:=by
  unfold ixN at h
  by_cases h0:0≤i
  · rw [if_pos h0] at h
    by_cases h1:i<n
    · rw [if_pos h1] at h
      have e:i.toNat=j:=Option.some.inj h
      exact ⟨by rw [seqIndex_of h0 h1,e],by omega,by omega,h1⟩
    · rw [if_neg h1] at h; cases h
  · rw [if_neg h0] at h
    by_cases h1 : -(n:Int)≤i
    · rw [if_pos h1] at h
      have e:(i+n).toNat=j:=Option.some.inj h
      exact ⟨by rw [seqIndex_neg (by omega) h1,e],by omega,h1,by omega⟩
    · rw [if_neg h1] at h; cases h
theorem atI_get {α:Type} {xs:List α} {i:Int} {v:α} (h:atI xs i=some v):∃ j,seqIndex? i xs.length=some j∧xs[j]?=some v∧j<xs.length ∧ -(xs.length:Int)≤i∧i<xs.length:=by
  unfold atI at h
  cases e:ixN xs.length i with
  | none=>rw [e] at h; cases h
  | some j=>
    rw [e] at h
    obtain ⟨h1,h2,h3,h4⟩:=ixN_seq e
    exact ⟨j,h1,h,h2,h3,h4⟩
noncomputable def PlainIx (b:Expr):Prop:=∀ o i,subscripted b false o i=operate [o,i] (getItem o i)
noncomputable def IxR (X:Cx) (r:R2):Prop:=
  ∀ (value slice:Expr) (pins:List (Addr×Obj)) (s:Shared) (σ:St) (H:Hp) (x y:V) (v u:Value) (Q:VK),Inv X pins σ H s→RelV x v→RelV y u→r x y H Q→
    subscripted slice false v u=operate [v,u] (getItem v u)→wpAny (model X.prog X.w) X.A (subscriptTail value slice v u) (EP X pins σ Q) X.xe s
noncomputable def MtR (X:Cx) (id:String) (r:V→List V→Hp→VK→Prop):Prop:=
  ∀ (pins:List (Addr×Obj)) (s:Shared) (σ:St) (H:Hp) (x:V) (xs:List V) (v:Value) (us:List Value) (Q:VK),Inv X pins σ H s→RelV x v→Vals xs us→r x xs H Q→
    wpAny (model X.prog X.w) X.A (call (.builtin id) (v::us)) (EP X pins σ Q) X.xe s
section
variable {X:Cx} {a b:Expr} {ta tb:TE} {pos:Pos}
theorem IxR.or {r r':R2} (h:IxR X r) (h':IxR X r'):IxR X (fun x y H Q=>r x y H Q∨r' x y H Q):=by
  intro value slice pins s σ H x y v u Q I rx ry q hs
  rcases q with q | q
  · exact h value slice pins s σ H x y v u Q I rx ry q hs
  · exact h' value slice pins s σ H x y v u Q I rx ry q hs
theorem pe_ix {r:R2} (hr:IxR X r) (ha:PE X a ta) (hb:PE X b tb) (hs:PlainIx b):PE X (.Subscript a b pos) (tOp r ta tb):=by
  intro pins s σ H Q I h
  exact Subscript_ (binT ha hb I h fun v u s2 x y H2 I2 rx ry q=>hr a b pins s2 σ H2 x y v u Q I2 rx ry q (hs _ _))
noncomputable def rIxL (K:PySem.W.Frag):R2:=fun x y H Q=>∃ p xs i v,x=.ref p∧y=.int i∧SqL K H p xs∧atI xs i=some v∧Q v H
noncomputable def rIxT (K:PySem.W.Frag):R2:=fun x y H Q=>∃ p xs i v,x=.ref p∧y=.int i∧SqT K H p xs∧atI xs i=some v∧Q v H
noncomputable def rIxS:R2:=fun x y H Q=>∃ z i c,x=.str z∧y=.int i∧z.length≤sizeLine∧atI z.cps.toList i=some c∧Q (.str ⟨#[c]⟩) H
theorem ix_list:IxR X (rIxL X.K):=by
  intro value slice pins s σ H x y v u Q I rx ry h hs
  obtain ⟨p,xs,i,z,rfl,rfl,hq,he,q⟩:=h
  cases rx
  obtain ⟨t,rfl⟩:=ry
  obtain ⟨its,r,pl,hz⟩:=I.list hq
  obtain ⟨j,h1,h2,h3,h4,h5⟩:=atI_get he
  obtain ⟨w,ew,rw'⟩:=r.get h2
  have hl:=r.length
  have hn:=line63
  have fin:EP X pins σ Q w s:=⟨z,H,I,rw',q⟩
  by_cases h0:0≤i
  · have hj:i.toNat=j:=by
      rw [seqIndex_of h0 h5] at h1
      exact Option.some.inj h1
    exact item_listR pl.isList h0 (by omega) (by rw [hj]; simpa using ew) fin hs
  · have hj:(i+(its.toArray.size:Int)).toNat=j:=by
      rw [seqIndex_neg (by omega) h4] at h1
      rw [List.size_toArray,← hl]
      exact Option.some.inj h1
    exact subscriptTail_builtinR (x:=w) pl.isList.typeIs slot_list_getitem.lookup
      (wpAny_getItem_list_neg (Q:=fun r s'=>r=w∧EP X pins σ Q r s') pl.isList (by omega) (by rw [List.size_toArray]<;>omega) (by omega) (by rw [hj]; simpa using ew) ⟨rfl,fin⟩) hs
theorem ix_tup:IxR X (rIxT X.K):=by
  intro value slice pins s σ H x y v u Q I rx ry h hs
  obtain ⟨p,xs,i,z,rfl,rfl,hq,he,q⟩:=h
  cases rx
  obtain ⟨t,rfl⟩:=ry
  obtain ⟨its,r,pl,hz⟩:=I.tuple hq
  obtain ⟨j,h1,h2,h3,h4,h5⟩:=atI_get he
  obtain ⟨w,ew,rw'⟩:=r.get h2
  have hl:=r.length
  have hn:=line63
  have fin:EP X pins σ Q w s:=⟨z,H,I,rw',q⟩
  exact subscriptTail_builtinR (x:=w) pl.typeIs slot_tuple_getitem.lookup
    (getItem_tuple (j:=j) (Q:=fun r s'=>r=w∧EP X pins σ Q r s') pl (by omega) (by omega) (by rw [List.size_toArray,← hl]; exact h1) (by simpa using ew) ⟨rfl,fin⟩) hs
theorem ix_str:IxR X rIxS:=by
  intro value slice pins s σ H x y v u Q I rx ry h hs
  obtain ⟨z,i,c,rfl,rfl,hz,he,q⟩:=h
  obtain ⟨t,rfl⟩:=rx
  obtain ⟨t',rfl⟩:=ry
  obtain ⟨j,h1,h2,h3,h4,h5⟩:=atI_get he
  have hl:z.cps.toList.length=z.length:=by simp [Str.length]
  rw [hl] at h1 h4 h5
  have hn:=line63
  exact tail_any (typeIs_str s z t) slot_str_getitem.lookup (getItem_str (c:=c) (by
    have e1:decide (i < -(2 ^ 63:Int))=false:=decide_eq_false (by omega)
    have e2:decide (i ≥ 2 ^ 63)=false:=decide_eq_false (by omega)
    rw [e1,e2,Bool.or_false]) (by rw [h1]; simpa using h2) ⟨.str ⟨#[c]⟩,H,I.tok _,⟨_,rfl⟩,q⟩) hs
noncomputable def rIx (K:PySem.W.Frag):R2:=fun x y H Q=>rIxL K x y H Q∨rIxT K x y H Q∨rIxS x y H Q
theorem ix_seq:IxR X (rIx X.K):=ix_list.or (ix_tup.or ix_str)
theorem mapSeq_set (its:List Value) (n j:Nat) (u:Value):Obj.mapSeq (·.setIfInBounds j u) { cls:=.type "list",data:=.seq its.toArray n }={ cls:=.type "list",data:=.seq (its.set j u).toArray n }:=by
  simp [Obj.mapSeq]
theorem Inv.lst {pins:List (Addr×Obj)} {σ:St} {H:Hp} {s:Shared} {p:Addr} {xs:List V} (I:Inv X pins σ H s) (h:H p=some (.lst xs)) :
    ∃ (its:List Value) (n:Nat),Vals xs its∧s.heap.get? p=some { cls:=.type "list",data:=.seq its.toArray n }∧xs.length≤sizeLine:=by
  obtain ⟨z,its,n,r,e⟩:=I.hok p _ h
  exact ⟨its,n,r,e,z⟩
theorem Inv.lstUpd {pins:List (Addr×Obj)} {σ:St} {H:Hp} {s:Shared} {p:Addr} {xs ys:List V} {its its':List Value} {n n':Nat} {f:Obj→Obj} (I:Inv X pins σ H s) (h:H p=some (.lst xs))
    (ho:s.heap.get? p=some { cls:=.type "list",data:=.seq its.toArray n }) (hf:f { cls:=.type "list",data:=.seq its.toArray n }={ cls:=.type "list",data:=.seq its'.toArray n' }) (r:Vals ys its') (hz:ys.length≤sizeLine) (t:Nat) :
    Inv X pins σ (upd H p (.lst ys)) { s with heap:=s.heap.update p f,toks:=t }:=by
  have e:(s.heap.update p f).get? p=some { cls:=.type "list",data:=.seq its'.toArray n' }:=by
    rw [Heap.get?_update_self f ho (by rw [hf]<;>rfl),hf]
  refine I.write (x:=p) (e:=p) (by rw [h]; trivial) (.inl rfl) (fun b u hb q=>(Heap.get?_update_other _ _ (Ne.symm hb)).trans q) ⟨_,e⟩ ?_
  exact ⟨hz,its',n',r,e⟩
noncomputable def rSetL:V→V→V→Hp→(Hp→Prop)→Prop:=fun o i v H Q=>∃ p xs k j,o=.ref p∧i=.int k∧H p=some (.lst xs)∧ixN xs.length k=some j∧Q (upd H p (.lst (xs.set j v)))
theorem set_list:PSet X rSetL:=by
  intro pins s σ H o i v ov iv u Q I ro ri rv h
  obtain ⟨p,xs,k,j,rfl,rfl,hp,hj,q⟩:=h
  cases ro
  obtain ⟨t,rfl⟩:=ri
  obtain ⟨its,n,r,ho,hz⟩:=I.lst hp
  obtain ⟨h1,h2,h3,h4⟩:=ixN_seq hj
  have hl:=r.length
  have hn:=line63
  have I':Inv X pins σ (upd H p (.lst (xs.set j v))) { s with heap:=s.heap.update p (Obj.mapSeq (·.setIfInBounds j u)) }:=
    I.lstUpd hp ho (mapSeq_set its n j u) (r.set rv j) (by rw [List.length_set]; exact hz) s.toks
  by_cases h0:0≤k
  · have hk:k.toNat=j:=by
      rw [seqIndex_of h0 h4] at h1
      exact Option.some.inj h1
    exact PySem.W.ki_setAt ho h0 (by omega) (by rw [List.size_toArray,← hl]; exact h4) (by rw [hk]; exact ⟨_,I',q⟩)
  · have hk:(k+(its.toArray.size:Int)).toNat=j:=by
      rw [seqIndex_neg (by omega) h3] at h1
      rw [List.size_toArray,← hl]
      exact Option.some.inj h1
    exact PySem.W.ki_setBack ho (by omega) (by rw [List.size_toArray,← hl]; exact h3) (by omega) (by rw [hk]; exact ⟨_,I',q⟩)
theorem slice_bounds (lo hi:Option Int) (n:Nat):(sliceBounds lo hi none n).1=((HT.sIx n 0 lo:Nat):Int)∧(sliceBounds lo hi none n).2.1=((HT.sIx n n hi:Nat):Int)∧(sliceBounds lo hi none n).2.2=1:=by
  refine ⟨?_,?_,rfl⟩
  · cases lo with
    | none=>simp [sliceBounds,HT.sIx]
    | some i=>
      simp only [sliceBounds,HT.sIx,Option.getD_none,show (1:Int) > 0 by decide,if_true]
      by_cases h:i<0
      · simp only [h,if_true]<;>omega
      · simp only [h,if_false]<;>omega
  · cases hi with
    | none=>simp [sliceBounds,HT.sIx]
    | some i=>
      simp only [sliceBounds,HT.sIx,Option.getD_none,show (1:Int) > 0 by decide,if_true]
      by_cases h:i<0
      · simp only [h,if_true]<;>omega
      · simp only [h,if_false]<;>omega
theorem slicePick_cut (its:List Value) (lo hi:Option Int):slicePick its.toArray lo hi none=((its.drop (HT.sIx its.length 0 lo)).take (HT.sIx its.length its.length hi - HT.sIx its.length 0 lo)).toArray:=by
  obtain ⟨h1,h2,h3⟩:=slice_bounds lo hi its.toArray.size
  unfold slicePick
  rw [h1,h2,h3]
  simp only [sliceRange_one,pick_run,List.size_toArray]<;>rfl
noncomputable def rSlL (K:PySem.W.Frag):V→Option Int→Option Int→Hp→VK→Prop:=fun x lo hi H Q=>∃ a xs,x=.ref a∧SqL K H a xs∧∀ p,H p=none→Q (.ref p) (upd H p (.lst (cutV xs lo hi)))
theorem sl_list:SlR X (rSlL X.K):=by
  intro pins s σ H x v vl vu lo hi sl Q I rx hs pl pu h
  obtain ⟨a,xs,rfl,hx,q⟩:=h
  cases rx
  obtain ⟨its,r,ht,hz⟩:=I.list hx
  have hlen:=r.length
  refine ⟨"list",_,slot_list_getitem.lookup,ht.isList.typeIs,?_⟩
  refine wpAny_getItem_list_slice ht.isList hs pl pu .none (by simp) ?_ (by rw [List.size_toArray]<;>omega)
  rw [slicePick_cut,← hlen]
  refine ⟨.ref s.heap.objs.size,_,I.laid (t':=s.toks) (o:=.lst (cutV xs lo hi)) (fun b ob q=>Heap.get?_push_of_some _ q) (Nat.le_refl _) ?_,rfl,q _ (I.hok.fresh (Nat.le_refl _))⟩
  exact ⟨Nat.le_trans (cutV_length xs lo hi) hz,_,0,(r.drop (HT.sIx xs.length 0 lo)).take (HT.sIx xs.length xs.length hi - HT.sIx xs.length 0 lo),Heap.get?_push_size _ rfl⟩
noncomputable def flatV:V→Bool
  | .non=>true
  | .bl _=>true
  | .int _=>true
  | .str _=>true
  | _=>false
noncomputable def eqV:V→V→Bool
  | .non,.non=>true
  | .bl a,.bl b=>a == b
  | .bl a,.int b=>(if a then 1 else 0) == b
  | .int a,.bl b=>a == (if b then 1 else 0)
  | .int a,.int b=>a == b
  | .str a,.str b=>a == b
  | _,_=>false
theorem eqAt_V {A:Around} {s:Shared} {y x:V} {u v:Value} (ry:RelV y u) (rx:RelV x v) (fy:flatV y=true) (fx:flatV x=true):SeqAt.EqAt A s u v (eqV y x):=by
  cases y with
  | non=>
    cases ry
    cases x with
    | non=>cases rx; exact SeqAt.EqAt.same _
    | bl b=>cases rx; exact SeqAt.EqAt.none_bool b
    | int b=>obtain ⟨t,rfl⟩:=rx; exact SeqAt.EqAt.none_int b t
    | str b=>obtain ⟨t,rfl⟩:=rx; exact SeqAt.EqAt.none_str b t
    | _=>exact absurd (show false=true from fx) Bool.false_ne_true
  | bl a=>
    cases ry
    cases x with
    | non=>cases rx; exact SeqAt.EqAt.bool_none a
    | bl b=>cases rx; exact SeqAt.EqAt.bool_bool a b
    | int b=>obtain ⟨t,rfl⟩:=rx; exact SeqAt.EqAt.bool_int a b t
    | str b=>obtain ⟨t,rfl⟩:=rx; exact SeqAt.EqAt.bool_str a b t
    | _=>exact absurd (show false=true from fx) Bool.false_ne_true
  | int a=>
    obtain ⟨t',rfl⟩:=ry
    cases x with
    | non=>cases rx; exact SeqAt.EqAt.int_none a t'
    | bl b=>cases rx; exact SeqAt.EqAt.int_bool a t' b
    | int b=>obtain ⟨t,rfl⟩:=rx; exact SeqAt.EqAt.int_int a t' b t
    | str b=>obtain ⟨t,rfl⟩:=rx; exact SeqAt.EqAt.int_str a t' b t
    | _=>exact absurd (show false=true from fx) Bool.false_ne_true
  | str a=>
    obtain ⟨t',rfl⟩:=ry
    cases x with
    | non=>cases rx; exact SeqAt.EqAt.str_none a t'
    | bl b=>cases rx; exact SeqAt.EqAt.str_bool a t' b
    | int b=>obtain ⟨t,rfl⟩:=rx; exact SeqAt.EqAt.str_int a t' b t
    | str b=>obtain ⟨t,rfl⟩:=rx; exact SeqAt.EqAt.str_str a t' b t
    | _=>exact absurd (show false=true from fx) Bool.false_ne_true
  | _=>exact absurd (show false=true from fy) Bool.false_ne_true
noncomputable def eqU (x:V) (u:Value):Bool:=match u with
  | .none=>eqV .non x
  | .bool b=>eqV (.bl b) x
  | .int i _=>eqV (.int i) x
  | .str z _=>eqV (.str z) x
  | _=>false
theorem eqU_of {x y:V} {u:Value} (r:RelV y u) (f:flatV y=true):eqU x u=eqV y x:=by
  cases y with
  | non=>cases r; rfl
  | bl b=>cases r; rfl
  | int i=>obtain ⟨t,rfl⟩:=r; rfl
  | str z=>obtain ⟨t,rfl⟩:=r; rfl
  | _=>exact absurd (show false=true from f) Bool.false_ne_true
theorem any_eqU {x:V}:∀ {xs:List V} {us:List Value},Vals xs us→xs.all flatV=true→us.any (eqU x)=xs.any fun y=>eqV y x
  | _,_,.nil,_=>rfl
  | y::xs,u::us,.cons r t,f=>by
    rw [List.all_cons,Bool.and_eq_true] at f
    rw [List.any_cons,List.any_cons,eqU_of r f.1,any_eqU t f.2]
theorem mem_eqAt {A:Around} {s:Shared} {x:V} {v:Value} (rx:RelV x v) (fx:flatV x=true):∀ {xs:List V} {us:List Value},Vals xs us→xs.all flatV=true→∀ u∈us,SeqAt.EqAt A s u v (eqU x u)
  | _,_,.nil,_=>fun u hu=>by cases hu
  | y::xs,u::us,.cons r t,f=>fun u' hu=>by
    rw [List.all_cons,Bool.and_eq_true] at f
    rcases List.mem_cons.mp hu with rfl | hu
    · rw [eqU_of r f.1]; exact eqAt_V r rx f.1 fx
    · exact mem_eqAt rx fx t f.2 u' hu
noncomputable def inV (x:V) (xs:List V):Bool:=xs.any fun y=>eqV y x
noncomputable def rIn (K:PySem.W.Frag) (neg:Bool):R2:=fun x y H Q=>∃ p xs,y=.ref p∧(SqL K H p xs∨SqT K H p xs)∧flatV x=true∧xs.all flatV=true∧Q (.bl (if neg then !inV x xs else inV x xs)) H
theorem op_in_seq:OpR X (compareOp .In) (rIn X.K false):=by
  intro pins s σ H x y v u Q I rx ry h
  obtain ⟨p,xs,rfl,hq,fx,fs,q⟩:=h
  cases ry
  rcases hq with hq | hq
  · obtain ⟨its,r,pl,hz⟩:=I.list hq
    refine SeqAt.in_listAt (eqU x) pl.isList (fun w hw=>mem_eqAt rx fx r fs w (by simpa using hw)) ⟨.bl _,H,I,rfl,?_⟩
    rw [show its.toArray.any (eqU x)=its.any (eqU x) by simp,any_eqU r fs]
    exact q
  · obtain ⟨its,r,pl,hz⟩:=I.tuple hq
    refine SeqAt.in_tupleAt (eqU x) pl (fun w hw=>mem_eqAt rx fx r fs w (by simpa using hw)) ⟨.bl _,H,I,rfl,?_⟩
    rw [show its.toArray.any (eqU x)=its.any (eqU x) by simp,any_eqU r fs]
    exact q
theorem op_notIn_seq:OpR X (compareOp .NotIn) (rIn X.K true):=by
  intro pins s σ H x y v u Q I rx ry h
  obtain ⟨p,xs,rfl,hq,fx,fs,q⟩:=h
  cases ry
  rcases hq with hq | hq
  · obtain ⟨its,r,pl,hz⟩:=I.list hq
    refine SeqAt.notIn_listAt (eqU x) pl.isList (fun w hw=>mem_eqAt rx fx r fs w (by simpa using hw)) ⟨.bl _,H,I,rfl,?_⟩
    rw [show its.toArray.any (eqU x)=its.any (eqU x) by simp,any_eqU r fs]
    exact q
  · obtain ⟨its,r,pl,hz⟩:=I.tuple hq
    refine SeqAt.notIn_tupleAt (eqU x) pl (fun w hw=>mem_eqAt rx fx r fs w (by simpa using hw)) ⟨.bl _,H,I,rfl,?_⟩
    rw [show its.toArray.any (eqU x)=its.any (eqU x) by simp,any_eqU r fs]
    exact q
theorem op_notIn_str:OpR X (compareOp .NotIn) (fun x y H Q=>∃ i j,x=.str i∧y=.str j∧Q (.bl (!(!(Builtin.Str.occurrences j i 0 j.length 1).isEmpty))) H):=by
  intro pins s σ H x y v u Q I rx ry h
  obtain ⟨i,j,rfl,rfl,q⟩:=h
  obtain ⟨t,rfl⟩:=rx
  obtain ⟨t',rfl⟩:=ry
  exact notIn_str ⟨.bl _,H,I,rfl,q⟩
theorem call_len_seq:CallR X (.builtin "len") (fun xs H Q=>∃ p ys,xs=[.ref p]∧(SqL X.K H p ys∨SqT X.K H p ys)∧Q (.int ys.length) H):=by
  intro pins s σ H xs us Q I r h
  obtain ⟨p,ys,rfl,hq,q⟩:=h
  obtain ⟨u,rfl,rx⟩:=vals1 r
  cases rx
  have hn:=line63
  rcases hq with hq | hq
  · obtain ⟨its,r',pl,hz⟩:=I.list hq
    have hlen:=r'.length
    exact Calls.call_len_list pl.isList (by simp only [List.size_toArray]<;>omega) ⟨.int ys.length,H,I.tok _,⟨s.toks+1,by rw [List.size_toArray,hlen]⟩,q⟩
  · obtain ⟨its,r',pl,hz⟩:=I.tuple hq
    have hlen:=r'.length
    exact len_tuple pl (by simp only [List.size_toArray]<;>omega) ⟨.int ys.length,H,I.tok _,⟨s.toks+1,by rw [List.size_toArray,hlen]⟩,q⟩
theorem call_len_str:CallR X (.builtin "len") (fun xs H Q=>∃ z,xs=[.str z]∧z.length≤sizeLine∧Q (.int z.length) H):=by
  intro pins s σ H xs us Q I r h
  obtain ⟨z,rfl,hz,q⟩:=h
  obtain ⟨u,rfl,t,rfl⟩:=vals1 r
  have hn:=line63
  exact len_str (by omega) ⟨.int z.length,H,I.tok _,⟨_,rfl⟩,q⟩
theorem CallR.or {f:Value} {r r':List V→Hp→VK→Prop} (h:CallR X f r) (h':CallR X f r'):CallR X f (fun xs H Q=>r xs H Q∨r' xs H Q):=by
  intro pins s σ H xs us Q I rs q
  rcases q with q | q
  · exact h pins s σ H xs us Q I rs q
  · exact h' pins s σ H xs us Q I rs q
theorem call_list_of:CallR X (.type "list") (fun xs H Q=>∃ p ys,xs=[.ref p]∧(SqL X.K H p ys∨SqT X.K H p ys)∧∀ l,H l=none→Q (.ref l) (upd H l (.lst ys))):=by
  intro pins s σ H xs us Q I r h
  obtain ⟨p,ys,rfl,hq,q⟩:=h
  obtain ⟨u,rfl,rx⟩:=vals1 r
  cases rx
  have fin:∀ (its:List Value),Vals ys its→ys.length≤sizeLine→∀ (h':Heap) (c':Nat),(∀ b o',s.heap.get? b=some o'→h'.get? b=some o')→
      h'.get? s.heap.objs.size=some { cls:=.type "list",dict:=none,data:=.seq its.toArray c',slots:=#[] }→EP X pins σ Q (.ref s.heap.objs.size) { s with heap:=h' }:=fun its r' hz h' c' kp e=>
    ⟨.ref s.heap.objs.size,_,I.laid (t':=s.toks) kp (Nat.le_refl _) (show ObjOk X.prog X.w _ h' _ (.lst ys) from ⟨hz,its,c',r',e⟩),rfl,q _ (I.hok.fresh (Nat.le_refl _))⟩
  rcases hq with hq | hq
  · obtain ⟨its,r',pl,hz⟩:=I.list hq
    have hlen:=r'.length
    obtain ⟨o,ho,hc,n,hd⟩:=pl.isList
    exact call_list_seq p (.inl rfl) ho hc hd (fun h' c' kp e=>fin its r' hz h' c' kp e) (by simp only [List.size_toArray]<;>omega)
  · obtain ⟨its,r',pl,hz⟩:=I.tuple hq
    have hlen:=r'.length
    obtain ⟨o,ho,hc,n,hd⟩:=pl
    exact call_list_seq p (.inr rfl) ho hc hd (fun h' c' kp e=>fin its r' hz h' c' kp e) (by simp only [List.size_toArray]<;>omega)
theorem call_tuple_of:CallR X (.type "tuple") (fun xs H Q=>∃ p ys,xs=[.ref p]∧((SqL X.K H p ys∧∀ l,H l=none→Q (.ref l) (upd H l (.tup ys)))∨(SqT X.K H p ys∧Q (.ref p) H))):=by
  intro pins s σ H xs us Q I r h
  obtain ⟨p,ys,rfl,h⟩:=h
  obtain ⟨u,rfl,rx⟩:=vals1 r
  cases rx
  rcases h with ⟨hq,q⟩ | ⟨hq,q⟩
  · obtain ⟨its,r',pl,hz⟩:=I.list hq
    have hlen:=r'.length
    refine call_tuple_list pl.isList (fun h' kp=>?_) (by simp only [List.size_toArray]<;>omega)
    have I1:Inv X pins σ H { s with heap:=h' }:=I.kept (t':=s.toks) kp
    have I2:Inv X pins σ (upd H h'.objs.size (.tup ys)) { s with heap:=h'.push { cls:=.type "tuple",data:=.seq its.toArray } }:=
      I1.laid (t':=s.toks) (fun b o e=>Heap.get?_push_of_some _ e) (Nat.le_refl _) (show ObjOk X.prog X.w _ _ _ (.tup ys) from ⟨hz,its,r',IsTup.new _ _⟩)
    exact ⟨.ref h'.objs.size,_,I2,rfl,q _ (I1.hok.fresh (Nat.le_refl _))⟩
  · obtain ⟨its,r',pl,hz⟩:=I.tuple hq
    exact call_tuple_same pl ⟨.ref p,H,I,rfl,q⟩
noncomputable def tyV (K:PySem.W.Frag) (T:String) (x:V) (H:Hp):Prop:=match x with
  | .str _=>T = "str"
  | .int _=>T = "int"
  | .ref p=>(T = "list" ∧ ∃ xs,SqL K H p xs)∨(T = "tuple" ∧ ∃ o,K.lookup p=some o∧o.cls=.type "tuple" ∧ o.dict=none) ∨
      (T = "dict" ∧ ((∃ kvs,H p=some (.dK kvs))∨∃ kvs,H p=some (.dT kvs)))∨(T = "set" ∧ ∃ S n,H p=some (.set S n))
  | _=>False
theorem tyV_is {pins:List (Addr×Obj)} {σ:St} {H:Hp} {s:Shared} {T:String} {x:V} {v:Value} (I:Inv X pins σ H s) (r:RelV x v) (ty:tyV X.K T x H) :
    s.TypeIs v T∧∀ a,v=.ref a→∃ ob,s.heap.get? a=some ob∧ob.dict=none:=by
  cases x with
  | str z=>
    obtain ⟨t,rfl⟩:=r
    cases (show T = "str" from ty)
    exact ⟨typeIs_str s z t,fun _ e=>nomatch e⟩
  | int i=>
    obtain ⟨t,rfl⟩:=r
    cases (show T = "int" from ty)
    exact ⟨typeIs_int s i t,fun _ e=>nomatch e⟩
  | ref p=>
    cases r
    rcases ty with ⟨rfl,xs,hq⟩ | ⟨rfl,o,hk,hc,hd⟩ | ⟨rfl,hk⟩ | ⟨rfl,S,n,hk⟩
    · obtain ⟨its,_,pl,_⟩:=I.list hq
      refine ⟨pl.isList.typeIs,fun a e=>?_⟩
      cases e
      obtain ⟨o,n,e,c,hd,_⟩:=pl
      exact ⟨o,e,hd⟩
    · refine ⟨⟨o,I.kIn p o hk,hc⟩,fun a e=>?_⟩
      cases e
      exact ⟨o,I.kIn _ o hk,hd⟩
    · have z:∃ o,s.heap.get? p=some o∧o.ExactDict:=by
        rcases hk with ⟨kvs,hk⟩ | ⟨kvs,hk⟩
        · obtain ⟨_,_,_,_,o,_,_,e,ex,_⟩:=I.hok p _ hk
          exact ⟨o,e,ex⟩
        · obtain ⟨_,_,_,_,o,_,_,e,ex,_⟩:=I.hok p _ hk
          exact ⟨o,e,ex⟩
      obtain ⟨o,e,ex⟩:=z
      refine ⟨⟨o,e,ex.1⟩,fun a e2=>?_⟩
      cases e2
      exact ⟨o,e,ex.2.1⟩
    · obtain ⟨o,_,_,_,e,ex,_⟩:=I.hok p _ hk
      refine ⟨⟨o,e,ex.1⟩,fun a e2=>?_⟩
      cases e2
      exact ⟨o,e,ex.2.1⟩
  | _=>exact False.elim ty
noncomputable def tBM (K:PySem.W.Frag) (T:String) (r:V→List V→Hp→VK→Prop) (to:TE) (t:TA):TE:=fun σ H Q=>to σ H fun x H1=>tyV K T x H1∧t σ H1 fun xs H2=>r x xs H2 Q
variable {o e:Expr} {es:List Expr} {to:TE} {t:TA} {name:Str} {apos cpos:Pos} {T id:String} {r:V→List V→Hp→VK→Prop}
theorem pe_bm (pa:PlainAttrs T) (slot:Slot T name id) (hty:typeOf (.builtin id)=pure (.type "method_descriptor")) (hm:MtR X id r) (ho:PE X o to) (ha:PA X (e::es) t)
    (hbase:attributeBase o name X.env (eval o X.env)=eval o X.env:=by rfl)
    (hfew:((backTo cpos (starEach (e::es) X.env)).all (fun x=>!x.1)&&(backToKw cpos (keywordEach [] X.env)).all (fun x=>x.1.isSome)
      && decide ((e::es).length+([]:List Keyword).length+(if ([]:List Keyword).isEmpty then 0 else 1)<30))=true:=by rfl)
    (hline:(apos.endLine == cpos.line)=true:=by rfl) (hs:starEach (e::es) X.env=(false,eval e X.env)::starEach es X.env:=by rfl) (hplain:(backTo cpos (starEach es X.env)).any (·.1)=false:=by rfl) :
    PE X (.Call (.Attribute o name apos) (e::es) [] cpos) (tBM X.K T r to t):=by
  intro pins s σ H Q I h
  refine wpAny_Call_method_late hbase hfew hline rfl (thn (ho pins s σ H _ I h) fun v s1 ⟨x,H1,I1,r1,ty,q1⟩=>?_)
  obtain ⟨h1,h2⟩:=tyV_is I1 r1 ty
  refine ⟨T,id,pa,slot,hty,h1,h2,?_⟩
  have hA:=ha cpos pins s1 σ H1 _ I1 q1
  rw [hs] at hA ⊢
  refine Calls.callWith_builtin (by show (false||(backTo cpos (starEach es X.env)).any (·.1))=false; rw [hplain]<;>rfl) (Calls.evalArgs_plain ?_)
  exact thn hA fun us s2 ⟨vs,H2,I2,r2,q2⟩=>hm pins s2 σ H2 x vs v us Q I2 r1 r2 q2
end
end L2
namespace L2
open PySem PySem.Spec PyProof.Rows
noncomputable def MtM (X:Cx) (id:String) (r:V→List V→Hp→VK→Prop):Prop:=
  ∀ (pins:List (Addr×Obj)) (s:Shared) (σ:St) (H:Hp) (x:V) (xs:List V) (v:Value) (us:List Value) (Q:VK),Inv X pins σ H s→RelV x v→Vals xs us→r x xs H Q→
    wpAny (model X.prog X.w) X.A (call (.builtin id) (v::us)) (EP X pins σ Q) X.xe s
theorem Vals.one:∀ {x:V} {us:List Value},Vals [x] us→∃ u,us=[u]∧RelV x u
  | _,_,.cons r .nil=>⟨_,rfl,r⟩
section
variable {X:Cx} {pins:List (Addr×Obj)} {σ:St} {H:Hp} {s:Shared} {l b:Addr} {xs ys zs:List V}
theorem Inv.lset {its its':List Value} {n:Nat} {f:Array Value→Array Value} {t':Nat} (I:Inv X pins σ H s) (hH:H l=some (.lst xs))
    (e:s.heap.get? l=some { cls:=.type "list",data:=.seq its.toArray n }) (hf:f its.toArray=its'.toArray) (hv:Vals ys its') (hz:ys.length≤sizeLine) :
    Inv X pins σ (upd H l (.lst ys)) { s with heap:=s.heap.update l (Obj.mapSeq f),toks:=t' }:=by
  have q:=PySem.IsL.update e f
  rw [hf] at q
  refine I.write (x:=l) (e:=l) (by rw [hH]; exact trivial) (.inl rfl) (fun b' u hb hu=>(Heap.get?_update_other s.heap (Obj.mapSeq f) (Ne.symm hb)).trans hu) ⟨_,q⟩ ?_
  exact ⟨hz,its',_,hv,q⟩
theorem Inv.lnew {its:List Value} {t':Nat} (I:Inv X pins σ H s) (hv:Vals ys its) (hz:ys.length≤sizeLine) :
    Inv X pins σ (upd H s.heap.objs.size (.lst ys)) { s with heap:=s.heap.push { cls:=.type "list",data:=.seq its.toArray },toks:=t' }:=
  I.laid (fun _ _ q=>Heap.get?_push_of_some _ q) (Nat.le_refl _) ⟨hz,its,0,hv,Heap.get?_push_size _ rfl⟩
theorem Inv.fresh (I:Inv X pins σ H s):H s.heap.objs.size=none:=I.hok.fresh (Nat.le_refl _)
theorem Inv.lstM (I:Inv X pins σ H s) (hH:H l=some (.lst xs)):xs.length≤sizeLine∧∃ (its:List Value) (n:Nat),Vals xs its∧xs.length=its.length∧s.heap.get? l=some { cls:=.type "list",data:=.seq its.toArray n }:=by
  obtain ⟨z,its,n,r,e⟩:=I.hok l _ hH
  exact ⟨z,its,n,r,r.length,e⟩
theorem notLongL {n:Nat} (h:n≤sizeLine):Builtin.List.listTooLong n=false:=by
  unfold Builtin.List.listTooLong
  exact decide_eq_false (by omega)
end
section
variable {X:Cx}
noncomputable def rAppend:V→List V→Hp→VK→Prop:=fun x vs H Q=>∃ l xs y,x=.ref l∧vs=[y]∧H l=some (.lst xs)∧xs.length<sizeLine∧Q .non (upd H l (.lst (xs++[y])))
theorem mt_append:MtM X "list.append" rAppend:=by
  intro pins s σ H x vs v us Q I rx rv h
  obtain ⟨l,xs,y,rfl,rfl,hH,hz,q⟩:=h
  cases rx
  obtain ⟨u,rfl,ru⟩:=rv.one
  obtain ⟨z,its,n,r,hl,e⟩:=I.lstM hH
  refine call_meets F.slot_list_append ⟨_,e,rfl⟩ F.entry_list_append (F.args_list_append_2 _ _) (PySem.list_append l its.toArray n u (by rw [List.size_toArray]; omega)) ⟨e,?_⟩
  refine ⟨.non,_,I.lset (its':=its++[u]) hH e (by simp) (r.append (.cons ru .nil)) ?_,rfl,q⟩
  rw [List.length_append,List.length_singleton]
  omega
noncomputable def rExtend:V→List V→Hp→VK→Prop:=fun x vs H Q=>∃ l b xs zs,x=.ref l∧vs=[.ref b]∧H l=some (.lst xs)∧H b=some (.lst zs)∧xs.length+zs.length≤sizeLine∧Q .non (upd H l (.lst (xs++zs)))
theorem mt_extend:MtM X "list.extend" rExtend:=by
  intro pins s σ H x vs v us Q I rx rv h
  obtain ⟨l,b,xs,zs,rfl,rfl,hH,hB,hz,q⟩:=h
  cases rx
  obtain ⟨u,rfl,ru⟩:=rv.one
  cases ru
  obtain ⟨z,its,n,r,hl,e⟩:=I.lstM hH
  obtain ⟨z2,its2,n2,r2,hl2,e2⟩:=I.lstM hB
  have hsz:its.toArray.size+its2.toArray.size≤sizeLine:=by rw [List.size_toArray,List.size_toArray]; omega
  have hlong:¬ (!its.toArray.isEmpty&&Builtin.List.listTooLong (its.toArray.size+its2.toArray.size))=true:=by
    rw [notLongL hsz,Bool.and_false]
    exact Bool.false_ne_true
  refine call_meets F.slot_list_extend ⟨_,e,rfl⟩ F.entry_list_extend (F.args_list_extend_2 _ _)
    (AutoSeq1.list_extend_list_list_0 l its.toArray n b its2.toArray n2 hlong (by rw [List.size_toArray]; omega) (by omega)) ⟨e,e2,?_⟩
  refine ⟨.non,_,I.lset (its':=its++its2) hH e (by simp) (r.append r2) ?_,rfl,q⟩
  rw [List.length_append]
  omega
end
section
variable {prog:Program} {w:World} {A:Around} {E:Value→Shared→Prop} {s:Shared}
end
section
variable {X:Cx}
end
end L2
namespace Att
open PySem PySem.W PySem.Calls PyProof.Rows
theorem ints_of_wellAll {P:Params} {h:Heap}:∀ (ns:List Int) (vs:List Value),WellAll P h vs (ns.map WData.int)→IntsAre vs ns:=by
  intro ns
  induction ns with
  | nil=>
    intro vs w
    rw [List.map_nil] at w
    cases w
    exact .nil
  | cons n ns ih=>
    intro vs w
    rw [List.map_cons] at w
    cases w with
    | cons a b=>
      cases a
      exact .cons _ _ (ih _ b)
theorem script_of {l:OpenLaw} {n:Nat} (hn:l.most=some n) {P:Params} {h:Heap} {args:List WData} {vals:List Value}
    (hpre:l.row.toRowW.claim.pre args=true) (hwl:WellAll P h vals args) :
    ∃ a vs ns,vals=[Value.ref a]∧args=[WData.list (ns.map WData.int)]∧h.get? a=some { cls:=.type "list",data:=.seq vs.toArray }∧IntsAre vs ns∧ns.length≤n:=by
  have hsh:WShape.hasAll [] args [.list .int]=true:=(pre_splitW hpre).1
  have hc:l.pre.holds [] { args:=args }=true:=(pre_splitW hpre).2
  obtain ⟨d,r,rfl,h1,h2⟩:=hasAllW_cons hsh
  obtain rfl:=hasAllW_nil h2
  obtain ⟨xs,rfl,h3⟩:=hasW_list h1
  obtain ⟨ns,rfl⟩:=items_int h3
  have hlen:ns.length≤n:=by
    unfold OpenLaw.pre at hc
    have h4:(WTm.not (.lt (.lit (.int (n:Int))) (.len (.arg 0)))).holds [] { args:=[.list (ns.map .int)] }=true:=by
      have h4:=(holds_andW hc).1
      rw [hn] at h4
      exact h4
    have h5:=condW_of h4 (w_not (w_lt w_lit (w_len_list (w_arg rfl))))
    rw [List.length_map] at h5
    refine Nat.le_of_not_lt fun q=>?_
    have q':(n:Int)<((ns.length:Nat):Int):=by omega
    first
      | (rw [decide_eq_true q'] at h5; exact absurd h5 (by decide))
      | (simp at h5; omega)
  cases hwl with
  | cons w1 w2=>
    cases w2
    cases w1 with
    | list ho hall=>exact ⟨_,_,ns,rfl,rfl,ho,ints_of_wellAll ns _ hall,hlen⟩
theorem post_true (l:OpenLaw) (args:List WData):l.row.toRowW.claim.post args (.bool true) args=true:=
  postW_of (r:=l.row.toRowW) (X:=(true == true))
    (show WShape.has [] (.bool true) .bool=true by first | rfl | decide | simp [WShape.has,WShape.arms,WShape.armsAll])
    (show (WTm.eq .res (.lit (.bool true))).value [] { args:=args,res:=some (.bool true),after:=args }=some (.bool (true == true)) from w_eq_bool (w_res rfl) w_lit) rfl
section
variable {prog:Program} {w:World} {A:Around} {E:Value→Shared→Prop} {s:Shared} {K:Frag}
end
end Att
namespace L2
open PySem PySem.Spec PyProof.Rows
theorem vals_ints:∀ {vs:List Value} {ns:List Int},IntsAre vs ns→Vals (ns.map V.int) vs
  | _,_,.nil=>.nil
  | _,_,.cons n t h=>.cons ⟨t,rfl⟩ (vals_ints h)
noncomputable def Only (H:Hp):Prop:=∀ b,H b=none∨∃ o xs,H b=some (.frz o (.lst xs))
theorem law_call {P:Program} {w:World} {K:PySem.W.Frag} {mg mb:Str→Option Value} {CX:CXT} {k:Nat} {fa a:Addr} {fd:FuncData} {x:Str} {sp:Sp} {s₁:Shared} {vs:List Value} {ns:List Int}
    (KX:K.In s₁.heap) (hns:s₁.heap.Ns mainGlobals mg) (hb:s₁.heap.Ns builtinsNs mb) (hbb:∀ x:Str,x ≠ "__name__" → mb x=bootBuiltins x) (hlim:s₁.heap.NoLimit) (hg:s₁.gens=#[])
    (ha:s₁.heap.get? a=some { cls:=.type "list",data:=.seq vs.toArray }) (hi:IntsAre vs ns) (hl:ns.length≤sizeLine) (hr:Room k callerA)
    (F:∀ base:Heap,K.In base→base.Ns mainGlobals mg→FnOk P w K mg base CX k fa fd [x] sp) (hbind:∀ (s:Shared) (u:Value),BindsTo s fd ⟨[u],[]⟩ [(x,u)])
    (hsp:∀ H:Hp,Only H→SqL K H a (ns.map V.int)→sp [.ref a] H (fun v _=>v=.bl true) fun _ _ _=>False)
    (hCX:∀ H e s',CX [] H s₁ (fun _ _ _=>False) e s'→False) :
    codeAny (model P w) callerA (.call (.ref fa) ⟨[.ref a],[]⟩) (fun r s'=>r=.ok (.ret (.bool true))∧OldK s₁.heap s'.heap∧s'.os=s₁.os∧AllBare s'.gens) s₁:=by
  have rv:=vals_ints hi
  have lenV:=hi.length
  have core:∀ H:Hp,Only H→SqL K H a (ns.map V.int)→HOk P w H s₁.heap→(∀ b,H b≠none→b=a)→(H a≠none→K.lookup a=none)→
      codeAny (model P w) callerA (.call (.ref fa) ⟨[.ref a],[]⟩) (fun r s'=>r=.ok (.ret (.bool true))∧OldK s₁.heap s'.heap∧s'.os=s₁.os∧AllBare s'.gens) s₁:=by
    intro H hO hS hok hA hK
    have base_of:∀ {b:Addr} {o:Obj},s₁.heap.get? b=some o→H b=none→(hidT s₁.heap H).get? b=some o:=fun e n=>hidT_get e n
    have noA:∀ {b:Addr} {o:Obj} {es:Array DictEntry} {ep:Nat},s₁.heap.get? b=some o→o.data=.dict es ep→H b=none:=fun {b o es ep} e d=>by
      cases q:H b with
      | none=>rfl
      | some u=>
        have e':b=a:=hA b (by rw [q]; simp)
        subst e'
        rw [ha] at e; cases e
        have d':Data.seq vs.toArray _=Data.dict es ep:=d
        cases d'
    have nsK:∀ {b:Addr} {m:Str→Option Value},s₁.heap.Ns b m→(hidT s₁.heap H).Ns b m:=fun {b m} ⟨o,es,ep,e,d,r⟩=>⟨o,es,ep,base_of e (noA e d),d,r⟩
    have hKb:K.In (hidT s₁.heap H):=fun b o e=>base_of (KX b o e) (by
      cases q:H b with
      | none=>rfl
      | some u=>
        have e':b=a:=hA b (by rw [q]; simp)
        subst e'
        rw [hK (by rw [q]; simp)] at e; cases e)
    have hM:Mod K mg (hidT s₁.heap H):=⟨hKb,nsK hns,⟨mb,nsK hb,hbb⟩,let ⟨mc,h1,h2⟩:=hlim; ⟨mc,nsK h1,h2⟩⟩
    have e0:Env0 P w K mg (hidT s₁.heap H) callerA [] s₁ H:=⟨rfl,hM,fun b o e=>of_hidT e,Nat.le_of_eq (hidT_size _ _),trivial,fun b hb=>absurd (show b∈([]:List Addr) from hb) (by simp),hok,.of_eq hg⟩
    refine codeAny_mono ((F _ hKb (nsK hns)).run callerA [] s₁ H ⟨[.ref a],[]⟩ [.ref a] [.ref a] _ _ hr e0 (hbind s₁ (.ref a)) (.cons rfl .nil) (hsp H hO hS)) fun r s' h=>?_
    cases r with
    | error e=>exact (hCX H e s' h).elim
    | ok fl=>
      cases fl with
      | next=>exact False.elim h
      | brk=>exact False.elim h
      | cont=>exact False.elim h
      | ret u=>
        obtain ⟨v,H',os,bare,un,hok',r',q⟩:=h
        have q':v=.bl true:=q
        subst q'
        obtain rfl:u=Value.bool true:=r'
        refine ⟨rfl,OldK.of_keep fun b o e=>?_,os,bare⟩
        cases q:H b with
        | none=>exact un.keep b o e q (by intro z; exact absurd (show b∈([]:List Addr) from z) (by simp)) (by simp)
        | some u=>
          rcases hO b with z | ⟨ob,xs,z⟩
          · rw [q] at z; cases z
          · have z2:=un.frzs b ob _ z
            obtain ⟨e1,_⟩:=hok b _ z
            obtain ⟨e2,_⟩:=hok' b _ z2
            rw [e] at e1; cases e1
            exact e2
  cases hk:K.lookup a with
  | some o=>
    have e:=KX a o hk
    rw [ha] at e
    cases e
    refine core (fun _=>none) (fun _=>.inl rfl) (.inr ⟨_,vs.toArray,_,hk,rfl,rfl,rfl,by rw [List.size_toArray,lenV]; exact hl,by simpa using rv⟩) (fun b u z=>by have z':(none:Option HO)=some u:=z; cases z') (fun b z=>absurd rfl z) fun z=>absurd rfl z
  | none=>
    refine core (fun b=>if b=a then some (.frz { cls:=.type "list",data:=.seq vs.toArray } (.lst (ns.map V.int))) else none) (fun b=>?_) (.inl (.inr ⟨{ cls:=.type "list",data:=.seq vs.toArray },if_pos rfl⟩)) (fun b u z=>?_) (fun b z=>?_) fun _=>hk
    · by_cases hb:b=a
      · exact .inr ⟨_,_,if_pos hb⟩
      · exact .inl (if_neg hb)
    · by_cases hb:b=a
      · have z':=(if_pos hb).symm.trans z
        cases z'
        subst hb
        exact ⟨ha,by rw [List.length_map]; exact hl,vs,_,rv,ha⟩
      · have z':=(if_neg hb).symm.trans z
        cases z'
    · by_cases hb:b=a
      · exact hb
      · exact absurd (if_neg hb) z
end L2
namespace L2
open PySem PySem.Spec PyProof.Rows
end L2
namespace L2
open PySem PySem.Spec PyProof.Rows
noncomputable def defArgs (s:Stmt):Arguments:=match s with
  | .FunctionDef _ a _ _ _ _ _ _ _ _=>a
  | _=>{ posonlyargs:=[],args:=[],vararg:=none,kwonlyargs:=[],kw_defaults:=[],kwarg:=none,defaults:=[] }
noncomputable def defBody (s:Stmt):List Stmt:=match s with
  | .FunctionDef _ _ b _ _ _ _ _ _ _=>b
  | _=>[]
noncomputable def defScope (s:Stmt):Scope:=match s with
  | .FunctionDef _ _ _ _ _ _ sc _ _ _=>sc
  | _=>{ kind:=.function,names:=[],isGenerator:=false,isCoroutine:=false }
noncomputable abbrev CX0:CXT:=fun _ _ _ _ _ _=>False
noncomputable abbrev E0:XK:=fun _ _ _=>False
theorem pass0 {X:Cx}:Passes CX0 X E0:=fun _ _ _ _ _ _ _ h=>h.elim
structure Fun (K:PySem.W.Frag) (x qual:Str) (st:Stmt) (f:Addr) (fd:FuncData):Prop where
  ex:∃ (oc:Value) (od:Option Addr) (kV doc pm:Value) (an:Option Addr) (cdv ct:Value) (osl:Array (Option Value)),
    fd=PySem.W.fnOf x qual (defArgs st) (defBody st) (defScope st) .none kV doc pm an cdv ct∧K.lookup f=some ⟨oc,od,.func fd,osl⟩∧PySem.W.codeIn K cdv qual=true
  kp:PySem.W.keepIn K (.ref f)=true
section
variable {P:Program} {w:World} {K:PySem.W.Frag} {mg:Str→Option Value} {base:Heap}
theorem Fun.ok {x qual:Str} {st:Stmt} {f:Addr} {fd:FuncData} {N ps:List Str} {k:Nat} {sp:Sp} (F:Fun K x qual st f fd) (S:FnScope N ps (defScope st)) (len:∀ vs H Q E,sp vs H Q E→vs.length=ps.length)
    (hbody:∀ (cdv:Value) (A:Around) (outer:List Env) (s:Shared) (H:Hp) (vs:List V) (Q:VK) (E:XK),Room k (A.deeper (envOfC qual (defScope st) s.heap.objs.size f cdv))→sp vs H Q E→
      ∃ t,PSs (cxOf CX0 P w K mg base N qual (defScope st) f cdv A outer s H E).nox (defBody st) t∧t { nx:=fun _ H'=>Q .non H',rt:=Q } (start N vs) H):FnOk P w K mg base CX0 (k+1) f fd ps sp:=by
  obtain ⟨oc,od,kV,doc,pm,an,cdv,ct,osl,rfl,lk,hcd⟩:=F.ex
  refine fn_of lk hcd S len fun A outer s H vs Q E hr hsp=>?_
  obtain ⟨t,h,q⟩:=hbody cdv A outer s H vs Q E hr hsp
  exact ⟨t,h.nox,q⟩
theorem Fun.binds {x qual:Str} {st:Stmt} {f:Addr} {fd:FuncData} {ps:List Str} (F:Fun K x qual st f fd)
    (h:∀ (kV doc pm:Value) (an:Option Addr) (cdv ct:Value) (us:List Value),us.length=ps.length→bindArgs (PySem.W.fnOf x qual (defArgs st) (defBody st) (defScope st) .none kV doc pm an cdv ct) ⟨us,[]⟩=pure (ps.zip us)):Binds K fd ps []:=by
  obtain ⟨oc,od,kV,doc,pm,an,cdv,ct,osl,rfl,lk,hcd⟩:=F.ex
  exact .all (h kV doc pm an cdv ct)
theorem fun_mk {x qual:Str} {st:Stmt} {f:Addr} {oc:Value} {od an:Option Addr} {osl:Array (Option Value)} {kV doc pm cdv ct:Value} (l:K.lookup f=some ⟨oc,od,.func (PySem.W.fnOf x qual (defArgs st) (defBody st) (defScope st) .none kV doc pm an cdv ct),osl⟩)
    (c:PySem.W.codeIn K cdv qual=true) (k:PySem.W.keepIn K (.ref f)=true):Fun K x qual st f (PySem.W.fnOf x qual (defArgs st) (defBody st) (defScope st) .none kV doc pm an cdv ct):=⟨⟨oc,od,kV,doc,pm,an,cdv,ct,osl,rfl,l,c⟩,k⟩
end
theorem hu_of {A:Around} {k:Nat} (hr:Room k A):A.units+1<cLine:=Nat.lt_of_le_of_lt (Nat.add_le_add_left (by decide:1≤64) _) hr.units
theorem small1000 {n:Nat} (h:n≤1000):n<sizeLine:=Nat.lt_of_le_of_lt h (by decide)
section
variable {X:Cx}
end
theorem iteF {A B:Prop} (h:B):if false=true then A else B:=by
  rw [if_neg Bool.false_ne_true]
  exact h
theorem iteT {A B:Prop} (h:A):if true=true then A else B:=by
  rw [if_pos rfl]
  exact h
noncomputable def Same (H H':Hp):Prop:=∀ b o,H b=some o→H' b=some o
theorem Same.refl (H:Hp):Same H H:=fun _ _ h=>h
theorem Same.trans {H H1 H2:Hp} (a:Same H H1) (b:Same H1 H2):Same H H2:=fun c o h=>b c o (a c o h)
theorem Same.free {H H':Hp} (e:Same H H') {l:Addr} (h:H' l=Option.none):H l=Option.none:=by
  cases q:H l with
  | none=>rfl
  | some o=>
    rw [e l o q] at h
    cases h
end L2
set_option linter.all false
set_option maxRecDepth 100000
set_option maxHeartbeats 4000000
namespace L2
open PySem PySem.Spec PyProof.Rows
noncomputable def Def (K:PySem.W.Frag) (mg:Str→Option Value) (x:Str) (st:Stmt) (ps:List Str):Prop:=
  ∃ (f:Addr) (fd:FuncData),Fun K x x st f fd∧mg x=some (.ref f)∧Binds K fd ps []
noncomputable def Has (P:Program) (w:World) (K:PySem.W.Frag) (mg:Str→Option Value) (base:Heap) (x:Str) (ps:List Str) (k:Nat) (sp:Sp):Prop:=
  ∃ (f:Addr) (fd:FuncData),mg x=some (.ref f)∧PySem.W.keepIn K (.ref f)=true∧Binds K fd ps []∧FnOk P w K mg base CX0 k f fd ps sp
noncomputable def Glb (mg:Str→Option Value) (x:Str) (v:V):Prop:=∃ u,mg x=some u∧RelV v u
section
variable {P:Program} {w:World} {K:PySem.W.Frag} {mg:Str→Option Value} {base:Heap}
theorem Def.ok {x:Str} {st:Stmt} {N ps:List Str} {k:Nat} {sp:Sp} (d:Def K mg x st ps) (S:FnScope N ps (defScope st)) (len:∀ vs H Q E,sp vs H Q E→vs.length=ps.length)
    (hbody:∀ (f:Addr) (cdv:Value) (A:Around) (outer:List Env) (s:Shared) (H:Hp) (vs:List V) (Q:VK) (E:XK),Room k (A.deeper (envOfC x (defScope st) s.heap.objs.size f cdv))→sp vs H Q E→
      ∃ t,PSs (cxOf CX0 P w K mg base N x (defScope st) f cdv A outer s H E).nox (defBody st) t∧t { nx:=fun _ H'=>Q .non H',rt:=Q } (start N vs) H):Has P w K mg base x ps (k+1) sp:=by
  obtain ⟨f,fd,F,hm,hb⟩:=d
  exact ⟨f,fd,hm,F.kp,hb,F.ok S len (hbody f)⟩
end
section
variable {X:Cx} {x:Str} {p pos:Pos} {e:Expr} {es:List Expr} {t:TA} {ps:List Str} {j k:Nat} {sp:Sp} {v:V} {T:String}
noncomputable def noStar:Expr→Bool
  | .Starred ..=>false
  | _=>true
theorem star_cons {e:Expr} {es:List Expr} {env:Env} (h:noStar e=true):starEach (e::es) env=(false,eval e env)::starEach es env:=by
  cases e<;>first | rfl | cases h
theorem star_any {env:Env} {pos:Pos}:∀ {es:List Expr},es.all noStar=true→(backTo pos (starEach es env)).any (·.1)=false
  | [],_=>rfl
  | e::es,h=>by
    rw [List.all_cons,Bool.and_eq_true] at h
    rw [star_cons h.1]
    have ih:=star_any (env:=env) (pos:=pos) h.2
    unfold backTo at ih ⊢
    rw [List.map_cons,List.any_cons,ih]
    rfl
theorem pac {te:TE} (ha:PE X e te) (hr:PA X es t) (h:noStar e=true:=by rfl):PA X (e::es) (tCons te t):=pa_cons ha hr (star_cons h)
noncomputable def asInt:Expr→Option Int
  | .Constant (.int i) _ _=>some i
  | _=>none
theorem asInt_ok {e:Expr} {i:Int} (h:asInt e=some i):∃ k p,e=.Constant (.int i) k p:=by
  cases e<;>first | (cases h; done) | skip
  rename_i c k p
  cases c<;>first | (cases h; done) | skip
  cases h
  exact ⟨k,p,rfl⟩
noncomputable def intsOf:List Expr→Option (List Int)
  | []=>some []
  | e::r=>(asInt e).bind fun i=>(intsOf r).map (i::·)
theorem pa_ints:∀ {es:List Expr} {is:List Int},intsOf es=some is→PA X es (fun _ H Q=>Q (is.map V.int) H)
  | [],is,h=>by
    cases (show some []=some is from h)
    exact pa_nil
  | e::r,is,h=>by
    have q:((asInt e).bind fun i=>(intsOf r).map (i::·))=some is:=h
    cases e1:asInt e with
    | none=>rw [e1] at q; cases q
    | some i=>
      rw [e1] at q
      obtain ⟨k,p,rfl⟩:=asInt_ok e1
      cases e2:intsOf r with
      | none=>rw [e2] at q; cases q
      | some js=>
        rw [e2] at q
        cases (show some (i::js)=some is from q)
        exact pac pe_int (pa_ints e2)
theorem pe_own (h:Has X.prog X.w X.K X.mg X.base x ps k sp) (hr:Room j X.A) (hg:Gl X x) (ha:PA X (e::es) t) (hk:k≤j:=by decide) (hdb:(x == ("__debug__" : Str))=false:=by decide)
    (he:(e::es).all noStar=true:=by rfl):PE X (.Call (.Name x p) (e::es) [] pos) (tCall sp [] E0 t):=by
  obtain ⟨f,fd,hm,kp,b,F⟩:=h
  rw [List.all_cons,Bool.and_eq_true] at he
  exact pe_call F (hr.mono hk) hg hm kp b .nil pass0 ha hdb (star_cons he.1) (star_any he.2)
theorem pe_gl (h:Glb X.mg x v) (hg:Gl X x) (hd:(x == ("__debug__" : Str))=false:=by decide):PE X (.Name x pos) (tC v):=by
  obtain ⟨u,hm,r⟩:=h
  exact pe_glob hg hm r hd
theorem pe_bty (hg:Gl X x) (hm:X.mg x=none) (hv:bootBuiltins x=some (.type T)) (hn:x ≠ "__name__" := by decide) (hd:(x == ("__debug__" : Str))=false:=by decide):PE X (.Name x pos) (tC (.ty T)):=
  pe_bltn hg hm hv rfl hn hd
end
section
variable {X:Cx} {st:Stmt} {t:TS}
end
section
variable {X:Cx}
theorem op_fdivP:OpR X (binaryOp .FloorDiv) (rI (fun _ j=>0<j∧j<2 ^ 64) fun i j=>.int (i / j)):=opI fun i j _ _ _ _ _ hc q=>by
  have h1:(0:Int)<j:=hc.1
  have h2:j<2 ^ 64:=hc.2
  have h3:j.natAbs.log2<64:=(Nat.log2_lt (by omega)).mpr (by omega)
  exact PyProof.Rows.floordiv_int (by omega) (by rw [Int.fdiv_eq_ediv_of_nonneg i (by omega)]; exact q) (.inl (PyProof.noPylong_of_log2 (by omega)))
end
theorem bt_len:bootBuiltins "len" = some (.builtin "len"):=by decide +kernel
theorem bt_isinstance:bootBuiltins "isinstance" = some (.builtin "isinstance"):=by decide +kernel
theorem bt_min:bootBuiltins "min" = some (.builtin "min"):=by decide +kernel
theorem bt_max:bootBuiltins "max" = some (.builtin "max"):=by decide +kernel
theorem boot_ty_int:bootBuiltins "int" = some (.type "int"):=by decide +kernel
theorem boot_ty_bool:bootBuiltins "bool" = some (.type "bool"):=by decide +kernel
theorem boot_ty_list:bootBuiltins "list" = some (.type "list"):=by decide +kernel
theorem boot_ty_tuple:bootBuiltins "tuple" = some (.type "tuple"):=by decide +kernel
theorem kit_int_int {K:PySem.W.Frag}:PySem.W.kitOne K (.type "int") (.type "int")=some true:=by rfl
theorem kit_bool_int {K:PySem.W.Frag}:PySem.W.kitOne K (.type "bool") (.type "int")=some true:=by kernel_rfl
theorem kit_int_bool {K:PySem.W.Frag}:PySem.W.kitOne K (.type "int") (.type "bool")=some false:=by kernel_rfl
theorem kit_bool_bool {K:PySem.W.Frag}:PySem.W.kitOne K (.type "bool") (.type "bool")=some true:=by rfl
theorem kit_none_int {K:PySem.W.Frag}:PySem.W.kitOne K (.type "NoneType") (.type "int")=some false:=by kernel_rfl
theorem kit_none_bool {K:PySem.W.Frag}:PySem.W.kitOne K (.type "NoneType") (.type "bool")=some false:=by kernel_rfl
theorem kit_tup_tup {K:PySem.W.Frag}:PySem.W.kitOne K (.type "tuple") (.type "tuple")=some true:=by rfl
theorem kit_str_str {K:PySem.W.Frag}:PySem.W.kitOne K (.type "str") (.type "str")=some true:=by rfl
theorem same_new {H:Hp} {p:Addr} (h:H p=none) (o:HO):Same H (upd H p o):=fun b u q=>by rw [upd_ne (ne_of_none q h)]; exact q
theorem small {n:Nat} (h:n≤1000):n≤sizeLine:=Nat.le_of_lt (small1000 h)
end L2
namespace L2
open PySem PySem.Spec PyProof.Rows
section
variable {X:Cx} {tg:Expr}
end
end L2
namespace L2
open PySem PySem.Spec PyProof.Rows
noncomputable def CapAll (env:Env):List (Str×Addr)→Prop
  | []=>True
  | p::r=>env.cells.lookup p.1=some p.2∧CapAll env r
theorem CapAll.get {env:Env}:∀ {cl:List (Str×Addr)} {y:Str} {c:Addr},CapAll env cl→cl.lookup y=some c→env.cells.lookup y=some c
  | [],_,_,_,h=>by cases h
  | (n,a)::r,y,c,hc,h=>by
    rw [List.lookup_cons] at h
    cases e:y == n with
    | true=>
      rw [e] at h
      have e':y=n:=by simpa using e
      subst e'
      have h':a=c:=by simpa using h
      subst h'
      exact hc.1
    | false=>
      rw [e] at h
      exact CapAll.get hc.2 (by simpa using h)
noncomputable def blkOk (scope:Scope) (env:Env) (cl:List (Str×Addr)) (own:List Str):Bool:=
  scope.names.all fun p=>p.1 != ("." : Str)&&((p.2 == .local&&(own.contains p.1||p.1 == (".0" : Str)))||p.2 == .globalImplicit||p.2 == .globalExplicit ||
    (p.2 == .free&&(env.kindOf p.1 == some .cell||env.kindOf p.1 == some .free)&&(cl.lookup p.1).isSome))
noncomputable def hide (own:List Str) (y:Str):Str:=if own.contains y||y == (".0" : Str) then "." else y
noncomputable def blkN (N own:List Str):List Str:=N.map (hide own)++own
theorem relab_mem {env:Env}:∀ {names:List (Str×NameKind)} {y:Str} {k:NameKind},
    (names.map fun (n,k)=>if (k == NameKind.free&&env.scope.kind == .function&&env.kindOf n == some .cell) then (n,NameKind.cell) else (n,k)).lookup y=some k→∃ k0,(y,k0)∈names∧(k=k0∨(k0=.free∧k=.cell))
  | [],_,_,h=>by simp at h
  | (n,k')::r,y,k,h=>by
    rw [List.map_cons] at h
    by_cases hc:(k' == NameKind.free&&env.scope.kind == .function&&env.kindOf n == some .cell)=true
    · dsimp only at h
      rw [if_pos hc,List.lookup_cons] at h
      cases e:y == n with
      | true=>
        rw [e] at h
        have e':y=n:=by simpa using e
        subst e'
        have h':NameKind.cell=k:=by simpa using h
        have hf:k'=.free:=by
          rw [Bool.and_eq_true,Bool.and_eq_true] at hc
          simpa using hc.1.1
        exact ⟨k',List.mem_cons_self,.inr ⟨hf,h'.symm⟩⟩
      | false=>
        rw [e] at h
        obtain ⟨k0,m,z⟩:=relab_mem (env:=env) (by simpa using h)
        exact ⟨k0,List.mem_cons_of_mem _ m,z⟩
    · dsimp only at h
      rw [if_neg hc,List.lookup_cons] at h
      cases e:y == n with
      | true=>
        rw [e] at h
        have e':y=n:=by simpa using e
        subst e'
        have h':k'=k:=by simpa using h
        exact ⟨k',List.mem_cons_self,.inl h'.symm⟩
      | false=>
        rw [e] at h
        obtain ⟨k0,m,z⟩:=relab_mem (env:=env) (by simpa using h)
        exact ⟨k0,List.mem_cons_of_mem _ m,z⟩
noncomputable def cxBlk (X:Cx) (scope:Scope) (cl:List (Str×Addr)) (own:List Str) (C:Addr) (s2:Shared) (H2:Hp) (fp:List Addr) (pn:List (Addr×Obj)):Cx:=
  { X with N:=blkN X.N own,s₀:=s2,H₀:=H2,env:=compEnvC scope cl C X.env,outer:=X.stack,stack:=X.stack,ex:=fp,fn:=fun _=>false,pn:=pn,xe:=fun _ _=>False }
section
variable {X:Cx} {pins:List (Addr×Obj)} {σ:St} {H2:Hp} {s2:Shared} {scope:Scope} {cl:List (Str×Addr)} {own:List Str} {C D:Addr} {fp:List Addr}
theorem blk_name (hb:blkOk scope X.env cl own=true) {y:Str} {k:NameKind} (h:(relabel scope X.env).names.lookup y=some k) :
    y ≠ "." ∧ ((k=.local→own.contains y=true∨y = ".0")∧((k=.cell∨k=.free)→(∃ k0,(y,k0)∈scope.names∧k0=.cell)∨((X.env.kindOf y=some .cell∨X.env.kindOf y=some .free)∧∃ c,cl.lookup y=some c))):=by
  obtain ⟨k0,m,z⟩:=relab_mem h
  have q:=List.all_eq_true.mp hb _ m
  rw [Bool.and_eq_true] at q
  obtain ⟨q1,q2⟩:=q
  refine ⟨by simpa using q1,fun hk=>?_,fun hk=>?_⟩
  · rcases z with z | ⟨_,z⟩
    · subst z
      subst hk
      simpa using q2
    · rw [z] at hk
      cases hk
  · have hf:k0=.free∨k0=.cell:=by
      rcases z with z | ⟨z,_⟩
      · subst z
        rcases hk with hk | hk
        · exact .inr hk
        · exact .inl hk
      · exact .inl z
    rcases hf with hf | hf
    · subst hf
      right
      have q3:((X.env.kindOf y == some .cell||X.env.kindOf y == some .free)&&(cl.lookup y).isSome)=true:=by simpa using q2
      rw [Bool.and_eq_true] at q3
      refine ⟨?_,Option.isSome_iff_exists.mp q3.2⟩
      have:=q3.1
      rw [Bool.or_eq_true] at this
      rcases this with t | t
      · exact .inl (by simpa using t)
      · exact .inr (by simpa using t)
    · exact .inl ⟨k0,m,hf⟩
theorem blk_name' (hb:blkOk scope X.env cl own=true) (hcell:∀ y∈scope.names,y.2≠.cell) {y:Str} {k:NameKind} (h:(relabel scope X.env).names.lookup y=some k) (hk:k=.cell∨k=.free) :
    (X.env.kindOf y=some .cell∨X.env.kindOf y=some .free)∧∃ c,cl.lookup y=some c:=by
  rcases (blk_name hb h).2.2 hk with ⟨k0,m,e⟩ | q
  · exact absurd e (hcell _ m)
  · exact q
theorem blk_ok (I:Inv X pins σ H2 s2) (hk:scope.kind=.function) (hcell:∀ y∈scope.names,y.2≠.cell) (hcap:CapAll X.env cl) (hb:blkOk scope X.env cl own=true) (hC:s2.heap.objs.size≤C)
    (hfp:∀ b∈fp,FpOk X pins H2 b) (hfo:∀ b∈fp,∃ o,s2.heap.get? b=some o):(cxBlk X scope cl own C s2 H2 fp (X.pn++pins)).Ok where
  mod:=I.ok.mod
  kind:=hk
  glob:=I.ok.glob
  blt:=I.ok.blt
  above:=hC
  inj:=fun x y c h1 h2=>I.ok.inj x y c (hcap.get h1) (hcap.get h2)
  has:=fun x hx=>by
    rcases hx with hx | hx
    · exact (blk_name' hb hcell (show (relabel scope X.env).names.lookup x=_ from hx) (.inl rfl)).2
    · exact (blk_name' hb hcell (show (relabel scope X.env).names.lookup x=_ from hx) (.inr rfl)).2
  cab:=fun x c h=>by cases h
  hd:=I.ok.hd
  frames:=I.ok.frames
  stk:=.inl rfl
  exf:=fun b hx=>⟨by
    obtain ⟨o,e⟩:=hfo b hx
    exact Nat.ne_of_lt (Nat.lt_of_lt_of_le (Heap.lt_size e) hC),fun x c h=>(hfp b hx).2.2.2.2.1 x c (hcap.get h)⟩
  bs:=I.bs
  bsz:=Nat.le_trans I.ok.bsz I.sz
  noex:=fun b o e hx=>by
    rcases (hfp b hx).2.2.2.1 with z | z
    · exact I.ok.noex b o e z
    · exact absurd (Nat.lt_of_lt_of_le (Heap.lt_size e) (Nat.le_trans I.ok.bsz z)) (Nat.lt_irrefl _)
  exfs:=fun b hx hz=>by
    rcases List.mem_cons.mp (I.stkSub b hz) with z | z
    · exact (hfp b hx).2.1 z
    · exact (hfp b hx).2.2.1 z
  funs:=I.stack
  frf:=I.stkFree
theorem get_tail {α:Type} {σ:List (Option α)} {n i:Nat} {v:α} (h:(σ++List.replicate n none)[i]?=some (some v)):σ[i]?=some (some v):=by
  by_cases hi:i<σ.length
  · rw [List.getElem?_append_left hi] at h
    exact h
  · rw [List.getElem?_append_right (by omega),List.getElem?_replicate] at h
    split at h<;>cases h
theorem blk_start {h4:Heap} {m0:Str→Option Value} {dobj:Obj} {tk:Nat} (I:Inv X pins σ H2 s2) (hk:scope.kind=.function) (hcell:∀ y∈scope.names,y.2≠.cell) (hcap:CapAll X.env cl) (hb:blkOk scope X.env cl own=true)
    (hC:s2.heap.objs.size≤C) (hD:s2.heap.objs.size≤D) (hDC:D≠C) (hfp:∀ b∈fp,FpOk X pins H2 b) (hfo:∀ b∈fp,∃ o,s2.heap.get? b=some o)
    (keep:∀ b o,s2.heap.get? b=some o→h4.get? b=some o) (ns:h4.Ns C m0) (hd:h4.get? D=some dobj) (hdd:∀ v,dobj.data≠.cell v) :
    Inv (cxBlk X scope cl own C s2 H2 fp (X.pn++pins)) [(D,dobj)] (σ++List.replicate own.length none) H2 { s2 with heap:=h4,toks:=tk }:=by
  have nfs:∀ a,s2.heap.objs.size≤a→a ∉ frs X.stack:=fun a ha hz=>by
    rcases List.mem_cons.mp (I.stkSub a hz) with z | z
    · exact absurd (Nat.lt_of_lt_of_le I.lt ha) (by rw [z]; exact Nat.lt_irrefl _)
    · exact I.nofs ha z
  refine ⟨blk_ok I hk hcell hcap hb hC hfp hfo,rfl,I.bare,Un.kept keep,⟨m0,ns,fun i y v e1 e2 e3=>?_⟩,fun x c h=>?_,I.hok.fresh hC,fun x c h=>I.freeC x c (hcap.get h),fun p hp=>?_,I.hok.kept keep,?_⟩
  · have e2':σ[i]?=some (some v):=get_tail e2
    have hi:i<X.N.length:=by
      have:=(List.getElem?_eq_some_iff.mp e2').1
      rw [I.len] at this
      exact this
    have e1':(X.N.map (hide own)++own)[i]?=some y:=e1
    rw [List.getElem?_append_left (by simpa using hi),List.getElem?_map] at e1'
    cases en:X.N[i]? with
    | none=>
      rw [en] at e1'
      cases e1'
    | some n=>
      rw [en] at e1'
      have ey:hide own n=y:=Option.some.inj e1'
      have vis:∃ k,(relabel scope X.env).names.lookup y=some k∧(k=.local∨k=.cell∨k=.free):=by
        rcases e3 with z | z | z
        · exact ⟨_,z,.inl rfl⟩
        · exact ⟨_,z,.inr (.inl rfl)⟩
        · exact ⟨_,z,.inr (.inr rfl)⟩
      obtain ⟨k,lk,kk⟩:=vis
      obtain ⟨nd,loc,_⟩:=blk_name hb lk
      unfold hide at ey
      by_cases ho:(own.contains n||n == (".0" : Str))=true
      · rw [if_pos ho] at ey
        exact absurd ey.symm nd
      · rw [if_neg ho] at ey
        subst ey
        have kk':k=.cell∨k=.free:=by
          rcases kk with z | z
          · exfalso
            apply ho
            rcases loc z with t | t
            · rw [t]; rfl
            · subst t; simp
          · exact z
        obtain ⟨ok,c,hc⟩:=blk_name' hb hcell lk kk'
        obtain ⟨m,hn,hl⟩:=I.loc
        obtain ⟨u,r,l⟩:=hl i n v en e2' (.inr ok)
        refine ⟨u,r,.inr ⟨?_,c,hc,?_⟩⟩
        · rcases kk' with z | z
          · subst z; exact .inl lk
          · subst z; exact .inr lk
        · rcases l with ⟨z,_⟩ | ⟨_,c',hc',z⟩
          · rcases ok with t | t<;>(rw [t] at z; cases z)
          · rw [hcap.get hc] at hc'
            cases hc'
            obtain ⟨o,ho',hd'⟩:=z
            exact ⟨o,keep _ _ ho',hd'⟩
  · obtain ⟨v,o,ho,hd'⟩:=I.cell x c (hcap.get h)
    exact ⟨v,o,keep _ _ ho,hd'⟩
  · rcases List.mem_append.mp hp with z | z
    · obtain ⟨e,n,ne,nf,d⟩:=I.pin p z
      refine ⟨keep _ _ e,n,Nat.ne_of_lt (Nat.lt_of_lt_of_le (Heap.lt_size e) hC),fun hz=>?_,d⟩
      rcases List.mem_cons.mp (I.stkSub p.1 hz) with t | t
      · exact ne t
      · exact nf t
    · have e:p=(D,dobj):=by simpa using z
      subst e
      exact ⟨hd,I.hok.fresh hD,hDC,nfs D hD,hdd⟩
  · show (σ++List.replicate own.length none).length=(X.N.map (hide own)++own).length
    rw [List.length_append,List.length_append,List.length_replicate,List.length_map,I.len]
end
end L2
namespace L2
open PySem PySem.Spec PyProof.Rows
noncomputable def PTs (X:Cx) (ifs:List Expr) (tc:TT):Prop:=
  ∀ (pins:List (Addr×Obj)) (s:Shared) (σ:St) (H:Hp) (Q:Bool→Hp→Prop),Inv X pins σ H s→tc σ H Q→
    wpAny (model X.prog X.w) X.A (forIn ifs true fun c r=>if r=true then do let ok ← isTrue c X.env (eval c X.env); pure (ForInStep.yield ok) else pure (ForInStep.yield r)) (TP X pins σ Q) X.xe s
noncomputable def tYes:TT:=fun _ H Q=>Q true H
theorem pts_nil {X:Cx}:PTs X [] tYes:=fun _ _ _ H _ I h=>wpAny_tests_nil ⟨H,I,h⟩
theorem pts_one {X:Cx} {c:Expr} {t:TT} (h:PT X c t):PTs X [c] t:=fun pins s σ H Q I q=>wpAny_tests_one (h pins s σ H Q I q)
section
variable {prog:Program} {w:World} {A:Around} {R:Result→Shared→Prop} {s:Shared}
theorem lc_loop {elt tg iter:Expr} {ifs:List Expr} {scope:Scope} {pos:Pos} {it acc:Value} {env:Env} (J:Nat→Shared→Prop)
    (turn:∀ n s,J n s→wpAny (model prog w) A (pyNext it) (fun r s₁=>match r with
      | none=>R (.ok .next) s₁
      | some v=>wpAny (model prog w) A (letOwnedTupleGo tg it v) (fun _ z=>wpAny (model prog w) A (assign tg env v) (fun _ s₂=>
        wpAny (model prog w) A (forIn ifs true fun c r=>if r=true then do let ok ← isTrue c env (eval c env); pure (ForInStep.yield ok) else pure (ForInStep.yield r)) (fun ok s₃=>
          if ok=true then wpAny (model prog w) A (eval elt env) (fun x s₄=>wpAny (model prog w) A (call (.builtin "list.append") [acc,x]) (fun _ s₅=>∃ m,m<n∧J m s₅) (fun _ _=>False) s₄) (fun _ _=>False) s₃
          else ∃ m,m<n∧J m s₃) (fun _ _=>False) s₂) (fun _ _=>False) z) (fun _ _=>False) s₁) (fun _ _=>False) s)
    (n:Nat) (h:J n s):codeAny (model prog w) A (.compLoop (.ListComp elt [⟨tg,iter,ifs,0⟩] scope pos) 0 it acc env) R s:=by
  have no:∀ {P:Value→Shared→Prop},∀ e s',(fun _ _=>False:Value→Shared→Prop) e s'→P e s':=fun _ _ z=>z.elim
  refine codeAny_loop rfl J (fun n s hI=>?_) n h
  show wpAny _ A (Sem.onRaise (compTurn (.ListComp elt [⟨tg,iter,ifs,0⟩] scope pos) 0 it acc env) (fun x=>do noteFrame x env; theTreesLotGoes x)) _ _ s
  refine wpAny_noted ?_
  rw [compTurn_list]
  refine wpAny_bind (wpAny_standAt (wpAny_bind (wpAny_mono (turn n s hI) (fun r s₁ h₁=>?_) no)))
  cases r with
  | none=>exact wpAny_pure h₁
  | some v=>
    refine wpAny_bind (wpAny_mono h₁ (fun _ z hz=>?_) no)
    refine wpAny_bind (wpAny_mono hz (fun _ s₂ h₂=>?_) no)
    refine wpAny_bind (wpAny_mono h₂ (fun ok s₃ h₃=>?_) no)
    cases ok with
    | false=>exact wpAny_pure ⟨rfl,h₃⟩
    | true=>
      refine wpAny_bind (wpAny_bind (wpAny_mono h₃ (fun x s₄ h₄=>?_) no))
      exact wpAny_bind (wpAny_mono h₄ (fun _ s₅ h₅=>wpAny_pure (wpAny_pure ⟨rfl,h₅⟩)) no)
end
noncomputable abbrev lob (its:List Value) (k:Nat):Obj:={ cls:=.type "list",data:=.seq its.toArray k }
theorem lob_no {its:List Value} {k:Nat}:∀ v,(lob its k).data≠.cell v:=fun _ z=>nomatch z
section
variable {X:Cx} {σ:St} {H:Hp} {s:Shared} {D:Addr}
theorem inv_grow {pl:List (Addr×Obj)} {its its':List Value} {k k' tk:Nat} {h':Heap} (I:Inv X ((D,lob its k)::pl) σ H s) (hD:X.s₀.heap.objs.size≤D) (hpn:∀ p∈X.pn,p.1≠D)
    (hs:Heap.SameBut D s.heap h') (hd:h'.get? D=some (lob its' k')):Inv X [(D,lob its' k')] σ H { s with heap:=h',toks:=tk }:=by
  obtain ⟨e,n,ne,nf,d⟩:=I.pin (D,lob its k) (List.mem_append_right _ List.mem_cons_self)
  have I0:Inv X [] σ H s:=I.pins_of fun p hp=>absurd hp (by simp)
  have I1:Inv X [] σ H { s with heap:=h',toks:=tk }:=I0.turned (it:=D) (fun b o hb q=>(hs.2 b hb).trans q) n ne (.inr hD) (fun x c hc z=>by
    subst z
    obtain ⟨v,o,ho,hv⟩:=I.cell x c hc
    rw [show s.heap.get? c=some (lob its k) from e] at ho
    cases ho
    exact d v hv) (fun p hp=>hpn p (by simpa using hp))
  exact I1.pins_of fun p hp=>by
    have q:p=(D,lob its' k'):=by simpa using hp
    subst q
    exact ⟨hd,n,ne,nf,lob_no⟩
end
section
variable {X:Cx} {tg iter elt:Expr} {ifs:List Expr} {scope:Scope} {cl:List (Str×Addr)} {own:List Str} {pos:Pos} {te:TE} {tc:TT} {g:TG} {wi:TI}
theorem un_track {fs ex:List Addr} {H H':Hp} {h h':Heap} {D:Addr} {o:HO} (u:Un fs ex H H' h h') (hD:h.objs.size≤D) (hn:H' D=none):Un fs ex H (upd H' D o) h h' where
  keep:=u.keep
  slot:=u.slot
  free:=fun b ob q n hx=>by rw [upd_ne (fun z=>by subst z; exact absurd (Nat.lt_of_lt_of_le (Heap.lt_size q) hD) (Nat.lt_irrefl _))]; exact u.free b ob q n hx
  there:=u.there
  tups:=fun b xs q=>by rw [upd_ne (ne_of_none (u.tups b xs q) hn)]; exact u.tups b xs q
  frzs:=fun b ob v q=>by rw [upd_ne (ne_of_none (u.frzs b ob v q) hn)]; exact u.frzs b ob v q
  tbls:=fun b ps q=>by
    obtain ⟨more,z⟩:=u.tbls b ps q
    exact ⟨more,by rw [upd_ne (ne_of_none z hn)]; exact z⟩
theorem hok_track {P:Program} {w:World} {H:Hp} {h:Heap} {D:Addr} {o:HO} (x:HOk P w H h) (hn:H D=none) (new:ObjOk P w (upd H D o) h D o):HOk P w (upd H D o) h:=fun b u e=>by
  by_cases hb:b=D
  · subst hb
    rw [upd_same] at e
    cases e
    exact new
  · rw [upd_ne hb] at e
    refine (x b u e).stay (fun c v _ q=>q) (fun c q=>?_) (fun c xs q=>?_)
    · rw [upd_ne (ne_of_none q hn)]; exact q
    · rw [upd_ne (ne_of_none q hn)]; exact q
structure Blk (X:Cx) (scope:Scope) (cl:List (Str×Addr)) (own:List Str):Prop where
  kind:scope.kind=.function
  cell:∀ y∈scope.names,y.2≠.cell
  cap:CapAll X.env cl
  ok:blkOk scope X.env cl own=true
  clos:closureFor scope X.env=pure cl
  names:∀ y∈scope.names,y.2=.local→scope.names.lookup y.1=some .local
structure Off (X:Cx) (pins:List (Addr×Obj)) (H:Hp) (s:Shared) (C:Addr):Prop where
  free:H C=none
  ne:C≠X.env.locals
  old:X.s₀.heap.objs.size≤C
  cell:∀ x c,X.env.cells.lookup x=some c→c≠C
  pin:∀ p∈X.pn++pins,p.1≠C
noncomputable def lcTurn (σ:St) (n:Nat) (J:It) (g:TG) (tc:TT) (te:TE) (W:Nat→Nat→List V→Hp→Prop) (Fin:List V→Hp→Prop):Prop:=
  ∀ i m ys H,W i m ys H→(J.stop i H∧Fin ys H)∨(J.go i H∧ys.length<sizeLine∧∃ N:List V→Hp→Prop,(∀ ys' H',N ys' H'→∃ m',m'<m∧W (i+1) m' ys' H')∧
    ∀ x H',J.yld i H x H'→g x (σ++List.replicate n none) H' fun σ2 H3=>(∃ τ,σ2=σ++τ)∧tc σ2 H3 fun c H4=>if c=true then te σ2 H4 fun y H5=>N (ys++[y]) H5 else N ys H4)
theorem blk_run {pins:List (Addr×Obj)} {σ:St} {H2:Hp} {s2:Shared} {fp:List Addr} {it:Addr} {tn:Nat→Heap→Prop} {J:It} {W:Nat→Nat→List V→Hp→Prop} {Fin:List V→Hp→Prop} {m0:Nat}
    {RR:Value→Addr→Result→Shared→Prop} (hcalm:X.calm=true) (B:Blk X scope cl own) (I:Inv X pins σ H2 s2) (T:Turn X.prog X.w X.K tg J fp it tn) (t0:tn 0 s2.heap) (hfp:∀ b∈fp,FpOk X pins H2 b)
    (hg:∀ C s H fp pn,PG (cxBlk X scope cl own C s H fp pn) tg g) (hc:∀ C s H fp pn,PTs (cxBlk X scope cl own C s H fp pn) ifs tc) (he:∀ C s H fp pn,PE (cxBlk X scope cl own C s H fp pn) elt te)
    (W0:W 0 m0 [] H2) (turn:lcTurn σ own.length J g tc te W Fin)
    (hRR:∀ D C s' H' ys m',Inv X pins σ (upd H' D (.lst ys)) s'→H' D=none→Fin ys H'→s'.heap.Ns C m'→Off X pins (upd H' D (.lst ys)) s' C→RR (.ref D) C (.ok .next) s') {E:Value→Shared→Prop} :
    wpAny (model X.prog X.w) X.A (newList []) (fun acc s3=>wpAny (model X.prog X.w) X.A (newFunctionEnv scope X.env.globals cl [] X.env.qual none .none (some X.env)) (fun cenv s4=>
      codeAny (model X.prog X.w) X.A (.compStart (.ListComp elt [⟨tg,iter,ifs,0⟩] scope pos) 0 (.ref it) acc { cenv with scope:=relabel scope X.env }) (RR acc cenv.locals) s4) E s3) E s2:=by
  refine wpAny_newObj_type (wpAny_newFunctionEnv B.cell (by intro y hy; simp at hy) (fun h4 hns hsb=>?_) B.kind)
  dsimp only at hns hsb ⊢
  generalize hP:s2.heap.push (lob [] 0)=P2 at hns hsb ⊢
  have hC:P2.objs.size=s2.heap.objs.size+1:=by rw [← hP,Heap.size_push]
  have hDC:s2.heap.objs.size≠P2.objs.size:=by rw [hC]; exact Nat.ne_of_lt (Nat.lt_succ_self _)
  have hCle:s2.heap.objs.size≤P2.objs.size:=by rw [hC]; exact Nat.le_succ _
  have keep:∀ b o,s2.heap.get? b=some o→h4.get? b=some o:=fun b o e=>
    hsb.extBut b o (Nat.ne_of_lt (Nat.lt_of_lt_of_le (Heap.lt_size e) hCle)) (Heap.get?_push_of_some _ (hP ▸ Heap.get?_push_of_some _ e))
  have hd4:h4.get? s2.heap.objs.size=some (lob [] 0):=hsb.extBut _ _ hDC (Heap.get?_push_of_some _ (hP ▸ Heap.get?_push_size _ rfl))
  have hfo:∀ b∈fp,∃ o,s2.heap.get? b=some o:=fun b hb=>let ⟨o,e,_⟩:=T.obj 0 _ t0 b hb; ⟨o,e⟩
  have lt:∀ b∈fp,b<s2.heap.objs.size:=fun b hb=>let ⟨o,e⟩:=hfo b hb; Heap.lt_size e
  generalize hDD:s2.heap.objs.size=D at hDC hd4 ⊢
  generalize hCC:P2.objs.size=C at hDC hns hsb hCle ⊢
  have hDle:s2.heap.objs.size≤D:=Nat.le_of_eq hDD
  let X':=cxBlk X scope cl own C s2 H2 fp (X.pn++pins)
  have hpn:∀ p∈X'.pn,p.1≠D:=fun p hp z=>by
    obtain ⟨e,_⟩:=I.pin p hp
    rw [z] at e
    exact absurd (Nat.lt_of_lt_of_le (Heap.lt_size e) hDle) (Nat.lt_irrefl _)
  have okb:=blk_ok I B.kind B.cell B.cap B.ok hCle hfp hfo
  have fpok:∀ {k:Nat} {its:List Value} {H':Hp},(∀ b∈fp,H' b=none)→∀ b∈fp,FpOk X' [(D,lob its k)] H' b:=fun {k its H'} hn b hb=>
    ⟨hn b hb,(okb.exf b hb).1,okb.exfs b hb,.inl hb,(okb.exf b hb).2,fun p hp=>by
      rcases List.mem_append.mp hp with z | z
      · exact (hfp b hb).2.2.2.2.2 p z
      · have q:p=(D,lob its k):=by simpa using z
        subst q
        exact fun z=>absurd (lt b hb) (by rw [← z]; exact Nat.not_lt.mpr hDle)⟩
  have loop:∀ s4:Shared,s4={ s2 with heap:=h4,toks:=s2.toks+([]:List (Str×Value)).length }→
      codeAny (model X.prog X.w) X.A (.compLoop (.ListComp elt [⟨tg,iter,ifs,0⟩] scope pos) 0 (.ref it) (.ref D) (compEnvC scope cl C X.env)) (RR (.ref D) C) s4:=by
    rintro s4 rfl
    refine lc_loop (fun n s'=>∃ (i:Nat) (ys:List V) (its:List Value) (k:Nat) (H':Hp),Inv X' [(D,lob its k)] (σ++List.replicate own.length none) H' s'∧Vals ys its∧tn i s'.heap∧(∀ b∈fp,H' b=none)∧W i n ys H'∧ys.length≤sizeLine) ?_ m0
      ⟨0,[],[],0,H2,blk_start I B.kind B.cell B.cap B.ok hCle hDle hDC hfp hfo keep hns hd4 lob_no,.nil,T.keep _ _ _ t0 fun b _ o e=>keep b o e,fun b hb=>(hfp b hb).1,W0,Nat.zero_le _⟩
    rintro n s5 ⟨i,ys,its,k,H5,I5,v5,st5,fr5,w5,z5⟩
    rcases turn i n ys H5 w5 with ⟨stop,fin⟩ | ⟨go,room,N,hN,step⟩
    · refine wpAny_mono (T.done X' rfl rfl rfl hcalm i _ s5 _ H5 (fun _ _=>False) I5 (fpok fr5) st5 stop) (fun r s6 ⟨hr,I6⟩=>?_) fun _ _ z=>z
      subst hr
      obtain ⟨e6,n6,ne6,nf6,d6⟩:=I6.pin (D,lob its k) (List.mem_append_right _ List.mem_cons_self)
      obtain ⟨m6,ns6,_⟩:=I6.loc
      have u6:Un (frs X.stack) fp H2 (upd H5 D (.lst ys)) s2.heap s6.heap:=un_track I6.base hDle n6
      have new6:ObjOk X.prog X.w (upd H5 D (.lst ys)) s6.heap D (.lst ys):=⟨z5,its,k,v5,e6⟩
      have I7:Inv X pins σ (upd H5 D (.lst ys)) s6:=I.call' I6.os u6 (hok_track I6.hok n6 new6) I6.bare (fun b hb=>⟨(hfp b hb).2.2.2.1,(hfp b hb).2.1,(hfp b hb).2.2.2.2.1,(hfp b hb).2.2.2.2.2⟩)
      refine hRR D C s6 H5 ys m6 I7 n6 fin ns6 ⟨?_,?_,?_,fun x c hcx z=>?_,fun p hp z=>?_⟩
      · rw [upd_ne (Ne.symm hDC)]; exact I6.free
      · exact fun z=>absurd I.lt (by rw [← z]; exact Nat.not_lt.mpr hCle)
      · exact Nat.le_trans I.sz hCle
      · subst z
        obtain ⟨v,o,ho,_⟩:=I.cell x c hcx
        exact absurd (Nat.lt_of_lt_of_le (Heap.lt_size ho) hCle) (Nat.lt_irrefl _)
      · obtain ⟨e,_⟩:=I.pin p hp
        rw [z] at e
        exact absurd (Nat.lt_of_lt_of_le (Heap.lt_size e) hCle) (Nat.lt_irrefl _)
    · refine wpAny_mono (T.item X' rfl rfl rfl hcalm i _ s5 _ H5 (fun _ _=>False) I5 (fpok fr5) st5 go) (fun r s6 ⟨u,hr,h6⟩=>?_) fun _ _ z=>z
      subst hr
      refine wpAny_mono h6 (fun _ s7 ⟨x,H7,I7,r7,y7,st7,fr7⟩=>?_) fun _ _ z=>z
      have I7':=I7.pinned (fpok fr7) (T.obj _ _ st7)
      refine wpAny_mono (hg C s2 H2 fp _ _ s7 _ H7 x u _ I7' r7 (step x H7 y7)) (fun _ s8 ⟨σ8,H8,I8,⟨τ,hτ⟩,q8⟩=>?_) fun _ _ z=>z
      subst hτ
      have back:∀ {n':Nat} {ys':List V} {its':List Value} {k':Nat} {H9:Hp} {s9:Shared} {pl:List (Addr×Obj)},Inv X' ((D,lob its' k')::pl) (σ++τ) H9 s9→Vals ys' its'→tn (i+1) s9.heap→(∀ b∈fp,H9 b=none)→W (i+1) n' ys' H9→ys'.length≤sizeLine→
          ∃ (i:Nat) (ys:List V) (its:List Value) (k:Nat) (H':Hp),Inv X' [(D,lob its k)] (σ++List.replicate own.length none) H' s9∧Vals ys its∧tn i s9.heap∧(∀ b∈fp,H' b=none)∧W i n' ys H'∧ys.length≤sizeLine:=fun {n' ys' its' k' H9 s9 pl} I9 v9 st9 fr9 w9 z9=>by
        have I9':Inv X' [(D,lob its' k')] (σ++τ) H9 s9:=I9.pins_of fun p hp=>I9.pin p (List.mem_append_right _ (by
          have q:p=(D,lob its' k'):=by simpa using hp
          subst q
          exact List.mem_cons_self))
        refine ⟨i+1,ys',its',k',H9,I9'.weak ?_ (fun j v e=>?_),v9,st9,fr9,w9,z9⟩
        · rw [I9'.len,← I5.len]
        · have e':=get_tail e
          rw [List.getElem?_append_left (List.getElem?_eq_some_iff.mp e').1]
          exact e'
      have keepIt:∀ {σ9:St} {H9:Hp} {s9:Shared},Inv X' ([(D,lob its k)]++pinsAt fp s7.heap) σ9 H9 s9→tn (i+1) s9.heap∧∀ b∈fp,H9 b=none:=fun {σ9 H9 s9} I9=>
        ⟨T.keep _ _ _ st7 fun b hb o e=>(I9.pin (b,o) (List.mem_append_right _ (List.mem_append_right _ (mem_pinsAt hb e)))).1,fun b hb=>by
          obtain ⟨o,e,_⟩:=T.obj _ _ st7 b hb
          exact (I9.pin (b,o) (List.mem_append_right _ (List.mem_append_right _ (mem_pinsAt hb e)))).2.1⟩
      refine wpAny_mono (hc C s2 H2 fp _ _ s8 _ H8 _ I8 q8) (fun c s9 ⟨H9,I9,q9⟩=>?_) fun _ _ z=>z
      cases c with
      | false=>
        rw [if_neg Bool.false_ne_true] at q9 ⊢
        obtain ⟨m',hm,w9⟩:=hN _ _ q9
        exact ⟨m',hm,back I9 v5 (keepIt I9).1 (keepIt I9).2 w9 z5⟩
      | true=>
        rw [if_pos rfl] at q9 ⊢
        refine wpAny_mono (he C s2 H2 fp _ _ s9 _ H9 _ I9 q9) (fun yv sa ⟨y,Ha,Ia,ra,qa⟩=>?_) fun _ _ z=>z
        obtain ⟨m',hm,wa⟩:=hN _ _ qa
        obtain ⟨ea,na,_⟩:=Ia.pin (D,lob its k) (List.mem_append_right _ (List.mem_append_left _ List.mem_cons_self))
        have szi:its.toArray.size≤sizeLine:=by
          have:=v5.length
          simp only [List.size_toArray]
          omega
        refine wpAny_list_append_plain (hsz:=szi) ⟨k,ea⟩ fun hb hlb hsb'=>?_
        obtain ⟨kb,eb⟩:=hlb
        have eb':hb.get? D=some (lob (its++[yv]) kb):=by rw [eb]; simp
        have Ib:Inv X' [(D,lob (its++[yv]) kb)] (σ++τ) Ha { sa with heap:=hb,toks:=sa.toks }:=inv_grow (tk:=sa.toks) Ia hDle hpn hsb' eb'
        have stb:tn (i+1) hb:=T.keep _ _ _ (keepIt Ia).1 fun b hbf o e=>(hsb'.2 b (fun z=>absurd (lt b hbf) (by rw [z]; exact Nat.not_lt.mpr hDle))).trans e
        exact ⟨m',hm,back Ib (Vals.append v5 (.cons ra .nil)) stb (keepIt Ia).2 wa (by rw [List.length_append]; exact room)⟩
  exact codeAny_compStart_list (loop _ rfl) (T.self X.A 0 _ _ _ (T.keep _ _ _ t0 fun b _ o e=>keep b o e) (loop _ rfl))
noncomputable def tLc (n:Nat) (wi:TI) (g:TG) (tc:TT) (te:TE):TE:=fun σ H Q=>wi σ H fun J H1=>∃ W:Nat→Nat→List V→Hp→Prop,(∃ m,W 0 m [] H1)∧
  lcTurn σ n J g tc te W fun ys H'=>∀ p,H' p=none→Q (.ref p) (upd H' p (.lst ys))
theorem Off.inv {pins:List (Addr×Obj)} {σ:St} {H:Hp} {s:Shared} {C:Addr} {h':Heap} (o:Off X pins H s C) (I:Inv X pins σ H s) (hs:Heap.SameBut C s.heap h'):Inv X pins σ H { s with heap:=h' }:=
  I.turned (it:=C) (t':=s.toks) (fun b u hb q=>(hs.2 b hb).trans q) o.free o.ne (.inr o.old) o.cell o.pin
theorem pe_lc (hcalm:X.calm=true) (B:Blk X scope cl own) (hi:PI X tg iter wi) (hg:∀ C s H fp pn,PG (cxBlk X scope cl own C s H fp pn) tg g) (hc:∀ C s H fp pn,PTs (cxBlk X scope cl own C s H fp pn) ifs tc)
    (he:∀ C s H fp pn,PE (cxBlk X scope cl own C s H fp pn) elt te) (hs:∀ x,foldedSetIterable iter X.env x=pure x:=by intro _; rfl) :
    PE X (.ListComp elt [⟨tg,iter,ifs,0⟩] scope pos) (tLc own.length wi g tc te):=by
  intro pins s σ H Q I h
  rw [eval_ListComp]
  refine wpAny_comprehension_free (use:=none) rfl hs B.clos B.kind B.names (thn (hi pins s σ H _ I h) fun v s1 h1=>thn h1 fun itv s2 h2=>?_)
  obtain ⟨it,fp,tn,J,H2,e,I2,T,st2,f2,W,⟨m0,w0⟩,turn⟩:=h2
  subst e
  refine blk_run (RR:=fun acc C=>compPost (model X.prog X.w) X.A X.xe none (EP X pins σ Q) acc C) hcalm B I2 T st2 f2 hg hc he w0 turn ?_
  intro D C s' H' ys m' I' n' fin ns' off
  exact ⟨m',ns',fun h' hs'=>⟨.ref D,upd H' D (.lst ys),off.inv I' hs',rfl,fin D n'⟩⟩
noncomputable def tSetLc (i n:Nat) (wi:TI) (g:TG) (tc:TT) (te:TE):TS:=fun D σ H=>wi σ H fun J H1=>∃ W:Nat→Nat→List V→Hp→Prop,(∃ m,W 0 m [] H1)∧
  lcTurn σ n J g tc te W fun ys H'=>∀ p,H' p=none→D.nx (σ.set i (some (.ref p))) (upd H' p (.lst ys))
theorem ps_setLc {i:Nat} {x:Str} {px spos:Pos} (hcalm:X.calm=true) (hN:X.N.Nodup) (hix:X.N[i]?=some x) (hx:X.env.scope.names.lookup x=some .local) (B:Blk X scope cl own)
    (hsw:swapsWith (.ListComp elt [⟨tg,iter,ifs,0⟩] scope pos) (some (.Name x px)) spos.line X.env=pure true) (hi:PI X tg iter wi)
    (hg:∀ C s H fp pn,PG (cxBlk X scope cl own C s H fp pn) tg g) (hc:∀ C s H fp pn,PTs (cxBlk X scope cl own C s H fp pn) ifs tc) (he:∀ C s H fp pn,PE (cxBlk X scope cl own C s H fp pn) elt te)
    (hs:∀ x,foldedSetIterable iter X.env x=pure x:=by intro _; rfl) :
    PS X (.Assign [.Name x px] (.ListComp elt [⟨tg,iter,ifs,0⟩] scope pos) spos) (tSetLc i own.length wi g tc te):=by
  intro pins s σ H D I h
  rw [exec_Assign_Name_used _ _ _ _ hsw]
  refine wpAny_bind (wpAny_standAt (wpAny_bind ?_))
  show wpAny _ X.A (do let _ ← comprehension (.ListComp elt [⟨tg,iter,ifs,0⟩] scope pos) scope X.env _ (newList []) false (eval iter X.env) (some (assign (.Name x px) X.env))) _ _ s
  refine wpAny_bind (thn (wpAny_comprehension_free (use:=some (assign (.Name x px) X.env)) (Q:=fun _ s'=>SP X pins D .next s') rfl hs B.clos B.kind B.names
    (thn (hi pins s σ H _ I h) fun v s1 h1=>thn h1 fun itv s2 h2=>?_)) fun _ s' hq=>wpAny_pure (wpAny_pure hq))
  obtain ⟨it,fp,tn,J,H2,e,I2,T,st2,f2,W,⟨m0,w0⟩,turn⟩:=h2
  subst e
  refine blk_run (RR:=fun acc C=>compPost (model X.prog X.w) X.A X.xe (some (assign (.Name x px) X.env)) (fun _ s'=>SP X pins D .next s') acc C) hcalm B I2 T st2 f2 hg hc he w0 turn ?_
  intro L C s' H' ys m' I' n' fin ns' off
  show wpAny _ X.A (assign (.Name x px) X.env (.ref L)) _ _ s'
  refine wpAny_assign_Name (store_ok2 I' hN hix (.inl hx) (v:=.ref L) rfl (fun s3 I3 q3=>?_) (.inr hx))
  obtain ⟨a,hsa,ha⟩:=q3
  have hCa:C≠a:=by
    rcases ha with z | z
    · rw [z]; exact off.ne
    · exact fun y=>off.cell x a z y.symm
  refine ⟨m',ns'.sameBut hsa hCa,fun h' hs'=>?_⟩
  exact ⟨_,_,Off.inv (H:=upd H' L (.lst ys)) ⟨off.free,off.ne,off.old,off.cell,off.pin⟩ I3 hs',fin L n'⟩
end
end L2
namespace L2
open PySem PySem.Spec PyProof.Rows
structure QE (X:Cx) (e:Expr) (t:TE):Prop where
  h:PE X e t
structure QT (X:Cx) (e:Expr) (t:TT):Prop where
  h:PT X e t
structure QW (X:Cx) (e:Expr) (t:TT):Prop where
  h:PW X e t
structure QA (X:Cx) (es:List Expr) (t:TA):Prop where
  h:PA X es t
structure QS (X:Cx) (st:Stmt) (t:TS):Prop where
  h:PS X st t
structure QSs (X:Cx) (st:List Stmt) (t:TS):Prop where
  h:PSs X st t
structure QG (X:Cx) (e:Expr) (t:TG):Prop where
  h:PG X e t
structure QGs (X:Cx) (es:List Expr) (t:TGs):Prop where
  h:PGs X es t
structure QI (X:Cx) (tg e:Expr) (t:TI):Prop where
  h:PI X tg e t
section
variable {X:Cx} {x y:Str} {p pos pos' apos cpos p2:Pos} {e a b c o tg iter elt:Expr} {es rest:List Expr} {te ta tb tc to:TE} {t:TA} {tA tB':TT} {r r':R2} {v:V} {T id:String} {ps:List Str} {j k i:Nat} {sp:Sp}
theorem qv (i:Nat) {x:Str} {pos:Pos} (hN:X.N[i]?=some x:=by rfl) (hv:Vis X.env.scope x:=by first | exact Or.inl rfl | exact Or.inr (Or.inl rfl) | exact Or.inr (Or.inr rfl)) (hd:(x == ("__debug__" : Str))=false:=by decide)
    (hcd:(x == ("__classdict__" : Str))=false:=by decide):QE X (.Name x pos) (tVar i):=⟨pe_var hN hv hd hcd⟩
theorem qe_bl {b k pos}:QE X (.Constant (.bool b) k pos) (tC (.bl b)):=⟨pe_bl⟩
theorem qe_gl (h:Glb X.mg x v) (hg:Gl X x) (hd:(x == ("__debug__" : Str))=false:=by decide):QE X (.Name x pos) (tC v):=⟨pe_gl h hg hd⟩
theorem qe_bty (hg:Gl X x) (hm:X.mg x=none) (hv:bootBuiltins x=some (.type T)) (hn:x ≠ "__name__" := by decide) (hd:(x == ("__debug__" : Str))=false:=by decide):QE X (.Name x pos) (tC (.ty T)):=⟨pe_bty hg hm hv hn hd⟩
theorem qe_one {op} (h:QE X a ta):QE X (.BoolOp op [a] pos) ta:=⟨pe_one h.h⟩
theorem qe_and (ha:QE X a ta) (hb:QE X (.BoolOp .And (b::rest) pos) tb):QE X (.BoolOp .And (a::b::rest) pos) (tAndV ta tb):=⟨pe_and ha.h hb.h⟩
theorem qw_or1 (ha:QT X a tA):QW X (.BoolOp .Or [a] pos) tA:=⟨pw_or1 ha.h⟩
theorem qw_or (ha:QT X a tA) (hb:QW X (.BoolOp .Or (b::rest) pos) tB'):QW X (.BoolOp .Or (a::b::rest) pos) (tOr tA tB'):=⟨pw_or ha.h hb.h⟩
theorem qw_t (h:QW X e tA):QT X e tA:=⟨h.h.pt⟩
noncomputable def plainTest:Expr→Bool
  | .Name ..=>true
  | .Call ..=>true
  | .Subscript ..=>true
  | .Attribute ..=>true
  | .Constant ..=>true
  | .List ..=>true
  | .Tuple ..=>true
  | .BinOp ..=>true
  | _=>false
theorem plain_test {e:Expr} {env:Env} (h:plainTest e=true):∀ whole,isTrue e env whole=(do let v ← whole; standAt e.pos; holding [v] (truthy v)):=by
  cases e<;>first | (intro _; rfl) | cases h
theorem qt_val (h:QE X e te) (he:plainTest e=true:=by rfl):QT X e (tB te):=⟨pt_val h.h (plain_test he)⟩
theorem qa_nil:QA X [] tNil:=⟨pa_nil⟩
theorem qa_cons (ha:QE X e te) (hr:QA X es t) (h:noStar e=true:=by rfl):QA X (e::es) (tCons te t):=⟨pac ha.h hr.h h⟩
noncomputable def plainIx:Expr→Bool
  | .Name ..=>true
  | .Constant ..=>true
  | .BinOp ..=>true
  | .Call ..=>true
  | .UnaryOp ..=>true
  | .Subscript ..=>true
  | .Attribute ..=>true
  | _=>false
theorem plain_ix {b:Expr} (h:plainIx b=true):PlainIx b:=by
  cases b<;>first | (intro _ _; rfl) | cases h
theorem qe_callB {r:List V→Hp→VK→Prop} (hc:CallR X (.builtin id) r) (hg:Gl X x) (hm:X.mg x=none) (hv:bootBuiltins x=some (.builtin id)) (ha:QA X (e::es) t) (hn:x ≠ "__name__" := by decide) (hdb:(x == ("__debug__" : Str))=false:=by decide)
    (he:(e::es).all noStar=true:=by rfl):QE X (.Call (.Name x p) (e::es) [] pos) (tCB r t):=by
  rw [List.all_cons,Bool.and_eq_true] at he
  exact ⟨pe_callB hc hg hm hv ha.h hn hdb (star_cons he.1) (star_any he.2)⟩
theorem qe_callTy {r:List V→Hp→VK→Prop} (hc:CallR X (.type T) r) (hg:Gl X x) (hm:X.mg x=none) (hv:bootBuiltins x=some (.type T)) (ha:QA X (e::es) t) (hn:x ≠ "__name__" := by decide) (hdb:(x == ("__debug__" : Str))=false:=by decide)
    (he:(e::es).all noStar=true:=by rfl):QE X (.Call (.Name x p) (e::es) [] pos) (tCB r t):=by
  rw [List.all_cons,Bool.and_eq_true] at he
  exact ⟨pe_callTy hc hg hm hv ha.h hn hdb (star_cons he.1) (star_any he.2)⟩
variable {st:Stmt} {sts body:List Stmt} {ts us tbs:TS} {g:TG} {wi:TI}
theorem qss_nil:QSs X [] tNext:=⟨pss_nil⟩
theorem qss_cons (h1:QS X st ts) (h2:QSs X sts us):QSs X (st::sts) (tSeq ts us):=⟨pss_cons h1.h h2.h⟩
theorem qss_one (h1:QS X st ts):QSs X [st] ts:=⟨pss_one h1.h⟩
theorem qs_ret (he:QE X e te):QS X (.Return (some e) pos) (tRet te):=⟨ps_ret he.h⟩
theorem qs_if {c:Expr} {a b:List Stmt} {tc:TT} (hc:QT X c tc) (ha:QSs X a ts) (hb:QSs X b us):QS X (.If c a b pos) (tIfS tc ts us):=⟨ps_if hc.h ha.h hb.h⟩
noncomputable def noComp:Expr→Bool
  | .ListComp ..=>false
  | .SetComp ..=>false
  | .DictComp ..=>false
  | _=>true
theorem no_swap {e:Expr} {tgt:Option Expr} {n:Nat} {env:Env} (h:noComp e=true):swapsWith e tgt n env=pure false:=by
  cases e<;>first | rfl | cases h
theorem qs_expr (he:QE X e te) (hs:noComp e=true:=by rfl):QS X (.Expr e pos) (tDrop te):=⟨ps_expr he.h (no_swap hs)⟩
theorem qs_set {i:Nat} {x:Str} {pos':Pos} (hN:X.N.Nodup) (hi:X.N[i]?=some x) (hx:Loc X.env.scope x) (he:QE X e te) (hs:noComp e=true:=by rfl) (hf:X.fn x=true∨X.env.scope.names.lookup x=some .local:=by first | exact .inl rfl | exact .inr rfl | assumption) :
    QS X (.Assign [.Name x pos'] e pos) (tAsg te (gName i)):=⟨ps_set hN hi hx he.h (no_swap hs) hf⟩
theorem qg_name {i:Nat} {x:Str} (hN:X.N.Nodup) (hi:X.N[i]?=some x) (hx:Loc X.env.scope x) (hf:X.fn x=true∨X.env.scope.names.lookup x=some .local:=by first | exact .inl rfl | exact .inr rfl | assumption):QG X (.Name x pos) (gName i):=⟨pg_name hN hi hx hf⟩
theorem qg_sub {o i:Expr} {to ti:TE} {t:TSet} (ho:QE X o to) (hi:QE X i ti) (hs:PSet X t) (hp:plainIx i=true:=by rfl):QG X (.Subscript o i pos) (gSub to ti t):=by
  refine ⟨pg_sub ho.h hi.h hs ?_⟩
  cases i<;>first | (intro _; rfl) | cases hp
theorem qgs_nil:QGs X [] gNil:=⟨pgs_nil⟩
theorem qgs_cons {t:TG} {u:TGs} (h1:QG X e t) (h2:QGs X es u) (hs:(assignEach (e::es) X.env).map (·.2)=assign e X.env::(assignEach es X.env).map (·.2):=by rfl):QGs X (e::es) (gCons t u):=⟨pgs_cons h1.h h2.h hs⟩
theorem qg_tup {k:Nat} {t:TGs} {n:Nat} (hc:X.calm=true) (h:QGs X es t) (hn:(assignEach es X.env).length=n:=by rfl) (hst:(assignEach es X.env).findIdx? (·.1)=none:=by rfl):QG X (.Tuple es k pos) (gTup X.K n t):=⟨pg_tup hc h.h hn hst⟩
variable {ifs:List Expr} {scope:Scope} {cl:List (Str×Addr)} {own:List Str} {tcc:TT}
variable {name:Str} {rm:V→List V→Hp→VK→Prop}
theorem star_all {env:Env} {pos:Pos}:∀ {es:List Expr},es.all noStar=true→(backTo pos (starEach es env)).all (fun x=>!x.1)=true
  | [],_=>rfl
  | e::es,h=>by
    rw [List.all_cons,Bool.and_eq_true] at h
    rw [star_cons h.1]
    have ih:=star_all (env:=env) (pos:=pos) h.2
    unfold backTo at ih ⊢
    rw [List.map_cons,List.all_cons,ih]
    rfl
theorem qe_bm (pa:PlainAttrs T) (slot:Slot T name id) (hty:typeOf (.builtin id)=pure (.type "method_descriptor")) (hm:MtR X id rm) (ho:QE X o to) (ha:QA X (e::es) t)
    (hbase:attributeBase o name X.env (eval o X.env)=eval o X.env:=by rfl) (hline:(apos.endLine == cpos.line)=true:=by rfl) (he:(e::es).all noStar=true:=by rfl) (hl:(e::es).length<30:=by decide) :
    QE X (.Call (.Attribute o name apos) (e::es) [] cpos) (tBM X.K T rm to t):=⟨by
  have ha':=star_all (env:=X.env) (pos:=cpos) he
  rw [List.all_cons,Bool.and_eq_true] at he
  refine pe_bm pa slot hty hm ho.h ha.h hbase ?_ hline (star_cons he.1) (star_any he.2)
  rw [ha']
  show (true&&true&&decide ((e::es).length+0+0<30))=true
  rw [decide_eq_true (show (e::es).length+0+0<30 from hl)]
  rfl⟩
end
section
variable {P:Program} {w:World} {K:PySem.W.Frag} {mg:Str→Option Value} {base:Heap}
end
end L2
namespace L2
open PySem PySem.Spec PyProof.Rows
noncomputable def SqB (K:PySem.W.Frag) (H:Hp) (a c:Addr) (xs ys:List V):Prop:=(SqT K H a xs∧SqT K H c ys)∨(SqL K H a xs∧SqL K H c ys)
section
variable {X:Cx} {pins:List (Addr×Obj)} {σ:St} {H:Hp} {s:Shared}
theorem rc_seq {A:Around} {a c:Addr} {xs ys:List V} {e:Nat→Bool} (I:Inv X pins σ H s) (hu:A.units<cLine) (hq:SqB X.K H a c xs ys)
    (he:∀ (j:Nat) x' y' u v,xs[j]?=some x'→ys[j]?=some y'→RelV x' u→RelV y' v→SeqAt.EqAt A.in1 s u v (e j)) :
    SeqAt.RcAt A s (.ref a) (.ref c) ((List.range (min xs.length ys.length)).all e&&xs.length == ys.length)∧SeqAt.RcNeAt A s (.ref a) (.ref c) (!((List.range (min xs.length ys.length)).all e&&xs.length == ys.length)):=by
  have get:∀ {zs:List V} {us:List Value} {j:Nat} (hj:j<us.toArray.size),Vals zs us→∃ z,zs[j]?=some z∧RelV z us.toArray[j]:=fun {zs us j} hj r=>by
    have hl:=r.length
    have hj':j<zs.length:=by
      rw [List.size_toArray] at hj
      omega
    obtain ⟨u,hu',ru⟩:=r.get (List.getElem?_eq_getElem hj')
    refine ⟨_,List.getElem?_eq_getElem hj',?_⟩
    have:us.toArray[j]=u:=by
      have h2:us[j]?=some us[j]:=List.getElem?_eq_getElem (by omega)
      rw [h2] at hu'
      simpa using hu'
    rw [this]
    exact ru
  rcases hq with ⟨ha,hc⟩ | ⟨ha,hc⟩
  · obtain ⟨us,ra,pa,_⟩:=I.tuple ha
    obtain ⟨vs,rc,pc,_⟩:=I.tuple hc
    have h1:=ra.length
    have h2:=rc.length
    have key:∀ j (k1:j<us.toArray.size) (k2:j<vs.toArray.size),SeqAt.EqAt A.in1 s us.toArray[j] vs.toArray[j] (e j):=fun j k1 k2=>by
      obtain ⟨z1,e1,r1⟩:=get k1 ra
      obtain ⟨z2,e2,r2⟩:=get k2 rc
      exact he j z1 z2 _ _ e1 e2 r1 r2
    have p:=SeqAt.RcAt.tuples (e:=e) pa pc hu key
    have q:=SeqAt.RcNeAt.tuples (e:=e) pa pc hu key
    rw [List.size_toArray,List.size_toArray,← h1,← h2] at p q
    exact ⟨p,q⟩
  · obtain ⟨us,ra,pa,_⟩:=I.list ha
    obtain ⟨vs,rc,pc,_⟩:=I.list hc
    have h1:=ra.length
    have h2:=rc.length
    have key:∀ j (k1:j<us.toArray.size) (k2:j<vs.toArray.size),SeqAt.EqAt A.in1 s us.toArray[j] vs.toArray[j] (e j):=fun j k1 k2=>by
      obtain ⟨z1,e1,r1⟩:=get k1 ra
      obtain ⟨z2,e2,r2⟩:=get k2 rc
      exact he j z1 z2 _ _ e1 e2 r1 r2
    by_cases hl:xs.length=ys.length
    · have hs:us.toArray.size=vs.toArray.size:=by rw [List.size_toArray,List.size_toArray]; omega
      have p:=SeqAt.RcAt.lists (e:=e) pa.isList pc.isList hs hu key
      have q:=SeqAt.RcNeAt.lists (e:=e) pa.isList pc.isList hs hu key
      have e1:min xs.length ys.length=us.toArray.size:=by rw [List.size_toArray]; omega
      have e2:(xs.length == ys.length)=true:=by simp [hl]
      rw [e1,e2,Bool.and_true]
      exact ⟨p,q⟩
    · have hs:(us.toArray.size != vs.toArray.size)=true:=by
        rw [List.size_toArray,List.size_toArray]
        simp
        omega
      have e2:(xs.length == ys.length)=false:=by simp [hl]
      rw [e2,Bool.and_false]
      exact ⟨SeqAt.RcAt.lists_lengths pa.isList pc.isList hs hu,SeqAt.RcNeAt.lists_lengths pa.isList pc.isList hs hu⟩
theorem in1_units (A:Around):A.in1.units=A.units+1:=rfl
end
theorem eqV_self {x:V} (h:flatV x=true):eqV x x=true:=by
  cases x<;>first | rfl | (simp [eqV]; done) | cases h
end L2
namespace L2
open PySem PySem.Spec PyProof.Rows
open PySem.W (hideAll)
structure ExD (P:Program) (w:World) (l:List Env) (H:Hp) (h B:Heap) (H':Hp) (h':Heap):Prop where
  un:Un (frs l) [] H H' h h'
  ok:HOk P w H' h'
  kb:∀ b o,h.get? b=some o→H b=none→b ∉ frs l→B.get? b=some o
  all:∀ b o,h.get? b=some o→b ∉ frs l→∃ o',B.get? b=some o'
  tr:∀ b o,H' b=some o→∃ ob,B.get? b=some ob
noncomputable def ExF (P:Program) (w:World) (l:List Env) (H:Hp) (s:Shared) (E:XK) (e:Value) (s':Shared):Prop:=
  ∃ (a C:Addr) (a0:Value) (B:Heap) (H':Hp),e=.ref a∧s'.os=s.os∧AllBare s'.gens∧Heap.FlyingW B l a (.ref C) a0 s'.heap∧ExD P w l H s.heap B H' s'.heap∧E (.ref C) none H'
theorem ObjOk.there {P:Program} {w:World} {H:Hp} {h:Heap} {a:Addr} {o:HO} (x:ObjOk P w H h a o):∃ ob,h.get? a=some ob:=by
  cases o with
  | lst xs=>obtain ⟨_,_,_,_,e⟩:=x; exact ⟨_,e⟩
  | tup xs=>obtain ⟨_,_,_,o,e,_⟩:=x; exact ⟨_,e⟩
  | dK kvs=>obtain ⟨_,_,_,_,o,_,_,e,_⟩:=x; exact ⟨_,e⟩
  | dT kvs=>obtain ⟨_,_,_,_,o,_,_,e,_⟩:=x; exact ⟨_,e⟩
  | set S n=>obtain ⟨o,_,_,_,e,_⟩:=x; exact ⟨_,e⟩
  | ins C dx fs=>obtain ⟨_,_,_,e,_⟩:=x; exact ⟨_,e⟩
  | own y=>obtain ⟨_,e⟩:=x; exact ⟨_,e⟩
  | xd fs=>obtain ⟨_,⟨_,_,_,e,_⟩,_⟩:=x; exact ⟨_,e⟩
  | rng lo hi=>obtain ⟨_,_,_,e⟩:=x; exact ⟨_,e⟩
  | frz ob u=>obtain ⟨e,_⟩:=x; exact ⟨_,e⟩
  | tbl ps=>exact ⟨_,(show h.get? a=some _ from x)⟩
  | met f y=>exact ⟨_,(show h.get? a=some _ from x)⟩
  | ext φ=>obtain ⟨_,⟨_,e⟩,_⟩:=x; exact ⟨_,e⟩
section
variable {P:Program} {w:World} {l:List Env} {H H':Hp} {h B h' h'':Heap}
theorem ExD.hok (x:HOk P w H' h') (tr:∀ b o,H' b=some o→∃ ob,B.get? b=some ob) (k1:B.StaysIn h') (k2:B.StaysIn h''):HOk P w H' h'':=fun b o e=>
  (x b o e).stay (fun c u hc q=>by
    have hc':∃ z,H' c=some z:=by
      rcases hc with z | z
      · exact ⟨o,by rw [z]; exact e⟩
      · exact ⟨_,z⟩
    obtain ⟨z,hz⟩:=hc'
    obtain ⟨ob,hb⟩:=tr c z hz
    have e1:some ob=some u:=(k1 c ob hb).symm.trans q
    cases e1
    exact k2 c _ hb) (fun _ z=>z) (fun _ _ z=>z)
theorem ExD.fly (x:ExD P w l H h B H' h') (k1:B.StaysIn h') (k2:B.StaysIn h'') (up:h'.UpToSlots h'') (fr:∀ b∈frs l,H b=none∧∃ o,h.get? b=some o∧∀ vs,o.data≠.fields vs):ExD P w l H h B H' h'' where
  un:=by
    have sl:∀ b o,h.get? b=some o→H b=none→b∈frs l→∃ sl,h''.get? b=some { o with slots:=sl }:=fun b o e n hb=>by
      obtain ⟨s1,e1⟩:=x.un.slot b o e n hb (by simp)
      obtain ⟨_,o2,e2,d2⟩:=fr b hb
      rw [e] at e2
      cases e2
      obtain ⟨s2,e3⟩:=up b _ e1 d2
      exact ⟨s2,e3⟩
    exact ⟨fun b o e n hb _=>k2 b o (x.kb b o e n hb),fun b o e n hb _=>sl b o e n hb,x.un.free,fun b o e hx=>by
      by_cases hb:b∈frs l
      · obtain ⟨s1,e1⟩:=sl b o e (fr b hb).1 hb
        exact ⟨_,e1⟩
      · obtain ⟨o',e'⟩:=x.all b o e hb
        exact ⟨o',k2 b o' e'⟩,x.un.tups,x.un.frzs,x.un.tbls⟩
  ok:=ExD.hok x.ok x.tr k1 k2
  kb:=x.kb
  all:=x.all
  tr:=x.tr
end
section
variable {X:Cx} {pins:List (Addr×Obj)} {σ:St} {H H':Hp} {s:Shared} {B h':Heap}
theorem Inv.frData (I:Inv X pins σ H s):∀ b∈frs X.stack,H b=none∧∃ o,s.heap.get? b=some o∧∀ vs,o.data≠.fields vs:=fun b hb=>⟨I.stkFree b hb,(I.stack.mem hb).2⟩
theorem ExD.pop (I:Inv X pins σ H s) (hst:X.stack=X.env::X.outer) (hf:X.env.frame=some X.env.locals) (hex:X.ex=[]) (x:ExD X.prog X.w X.stack H s.heap B H' h'):ExD X.prog X.w X.outer X.H₀ X.s₀.heap B H' h':=by
  have ne:∀ b o,X.s₀.heap.get? b=some o→b≠X.env.locals:=fun b o e=>Nat.ne_of_lt (Nat.lt_of_lt_of_le (Heap.lt_size e) I.ok.above)
  have nex:∀ b,b ∉ X.ex:=fun b=>by rw [hex]; simp
  have nst:∀ b o,X.s₀.heap.get? b=some o→b ∉ X.fs→b ∉ frs X.stack:=fun b o e hb z=>(List.mem_cons.mp (I.stkSub b z)).elim (ne b o e) hb
  have ist:∀ b,b∈X.fs→b∈frs X.stack:=fun b hb=>by
    rw [hst]
    unfold frs
    rw [List.filterMap_cons,hf]
    exact List.mem_cons_of_mem _ hb
  have kb':∀ b o,X.s₀.heap.get? b=some o→X.H₀ b=none→b ∉ frs X.outer→B.get? b=some o:=fun b o e n hb=>
    x.kb b o (I.base.keep b o e n hb (nex b)) (I.base.free b o e n (nex b)) (nst b o e hb)
  have all':∀ b o,X.s₀.heap.get? b=some o→b ∉ frs X.outer→∃ o',B.get? b=some o':=fun b o e hb=>by
    obtain ⟨o1,e1⟩:=I.base.there b o e (nex b)
    exact x.all b o1 e1 (nst b o e hb)
  refine ⟨⟨fun b o e n hb _=>?_,fun b o e n hb _=>?_,fun b o e n _=>?_,fun b o e _=>?_,fun b xs e=>x.un.tups b xs (I.base.tups b xs e),fun b o u e=>x.un.frzs b o u (I.base.frzs b o u e),fun b ps e=>?_⟩,x.ok,kb',all',x.tr⟩
  · exact x.un.keep b o (I.base.keep b o e n hb (nex b)) (I.base.free b o e n (nex b)) (nst b o e hb) (by simp)
  · obtain ⟨s1,e1⟩:=I.base.slot b o e n hb (nex b)
    obtain ⟨s2,e2⟩:=x.un.slot b _ e1 (I.base.free b o e n (nex b)) (ist b hb) (by simp)
    exact ⟨s2,e2⟩
  · obtain ⟨o1,e1⟩:=I.base.there b o e (nex b)
    exact x.un.free b o1 e1 (I.base.free b o e n (nex b)) (by simp)
  · obtain ⟨o1,e1⟩:=I.base.there b o e (nex b)
    exact x.un.there b o1 e1 (by simp)
  · obtain ⟨m1,e1⟩:=I.base.tbls b ps e
    obtain ⟨m2,e2⟩:=x.un.tbls b _ e1
    exact ⟨m1++m2,by rw [e2,Array.append_assoc]⟩
theorem ExD.made (I:Inv X pins σ H s) (k:(hideAll s.heap (frs X.stack)).StaysIn h') (up:s.heap.UpToSlots h'):ExD X.prog X.w X.stack H s.heap (hideAll s.heap (frs X.stack)) H h':=by
  have hid:∀ b o,s.heap.get? b=some o→b ∉ frs X.stack→(hideAll s.heap (frs X.stack)).get? b=some o:=fun b o e hb=>PySem.W.hideAll_get _ e hb
  have tr:∀ b o,H b=some o→∃ ob,(hideAll s.heap (frs X.stack)).get? b=some ob:=fun b o e=>by
    have hb:b ∉ frs X.stack:=fun z=>by rw [I.stkFree b z] at e; cases e
    have lt:=I.hok.lt e
    cases q:s.heap.get? b with
    | some ob=>exact ⟨ob,hid b ob q hb⟩
    | none=>
      exfalso
      have hk:=I.hok b o e
      have th:∃ ob,s.heap.get? b=some ob:=ObjOk.there hk
      obtain ⟨ob,z⟩:=th
      rw [q] at z
      cases z
  have sl:∀ b o,s.heap.get? b=some o→b∈frs X.stack→∃ sl,h'.get? b=some { o with slots:=sl }:=fun b o e hb=>by
    obtain ⟨_,o2,e2,d2⟩:=I.frData b hb
    rw [e] at e2
    cases e2
    exact up b o e d2
  refine ⟨⟨fun b o e n hb _=>k b o (hid b o e hb),fun b o e n hb _=>sl b o e hb,fun b o e n _=>n,fun b o e _=>?_,fun _ _ z=>z,fun _ _ _ z=>z,fun b ps e=>⟨#[],by rw [e]; simp⟩⟩,?_,fun b o e _ hb=>hid b o e hb,fun b o e hb=>⟨o,hid b o e hb⟩,tr⟩
  · by_cases hb:b∈frs X.stack
    · obtain ⟨s1,e1⟩:=sl b o e hb
      exact ⟨_,e1⟩
    · exact ⟨o,k b o (hid b o e hb)⟩
  · exact ExD.hok I.hok tr (fun b o e=>PySem.W.of_hideAll _ e) k
structure ExC (K:PySem.W.Frag) (mg:Str→Option Value) (x:Str) (C:Addr):Prop where
  at_:mg x=some (.ref C)
  ex:PySem.W.excIn K C [.type "ValueError",.type "Exception",.type "BaseException",.type "object"] "ValueError.__new__" = true
theorem ExC.own {K:PySem.W.Frag} {mg:Str→Option Value} {x:Str} {C:Addr} {h:Heap} (c:ExC K mg x C) (X:K.In h):OwnCls x C [.type "ValueError",.type "Exception",.type "BaseException",.type "object"] "ValueError.__new__" mg h:=by
  refine ⟨c.at_,?_⟩
  have q:=c.ex
  unfold PySem.W.excIn at q
  split at q
  · rename_i dd cd sl ho
    split at q
    · rename_i C' bm k0 k1 k2 k3 n k5 hm hs
      simp only [Bool.and_eq_true,beq_iff_eq,Bool.not_eq_true'] at q
      obtain ⟨⟨⟨⟨⟨rfl,rfl⟩,hdel⟩,ht⟩,hok⟩,hni⟩:=q
      obtain ⟨nm,bs,mro,ns,qn,hd,sn,sub,ab,col,del⟩:=cd
      dsimp only at hm hdel hok hni
      subst hm hdel
      have hsl:sl=#[k0,k1,k2,k3,some (.builtin "ValueError.__new__"),k5]:=by
        obtain ⟨l⟩:=sl
        simp only at hs
        rw [hs]
      subst hsl
      exact ⟨bm,ns,nm,qn,bs,hd,sn,sub,ab,col,dd,k0,k1,k2,k3,k5,_,X _ _ ho,.of_isNs (PySem.W.isNs_of_in X hok),PySem.W.nsMap_none_of_in X hok hni,PySem.W.tail_of_in X ht⟩
    · cases q
  · cases q
variable {x:Str} {C:Addr} {np cpos pos:Pos} {e:Expr} {es:List Expr} {t:TA} {E:XK}
noncomputable def Raises (X:Cx) (E:XK):Prop:=∀ (pins:List (Addr×Obj)) (σ:St) (H:Hp) (s:Shared) (a C:Addr) (vs:List Value) (h':Heap),Inv X pins σ H s→Heap.MadeExcOf s.heap h' a (.ref C) vs→E (.ref C) none H→X.xe (.ref a) { s with heap:=h' }
noncomputable def tRaise (C:Addr) (E:XK) (t:TA):TS:=fun _ σ H=>t σ H fun vs H1=>vs.length≤sizeLine∧E (.ref C) none H1
theorem ps_raise (c:ExC X.K X.mg x C) (hr:Raises X E) (hh:X.A.handled=none) (hg:Gl X x) (ha:PA X (e::es) t) (hdb:(x == ("__debug__" : Str))=false:=by decide) (he:(e::es).all noStar=true:=by rfl) :
    PS X (.Raise (some (.Call (.Name x np) (e::es) [] cpos)) none pos) (tRaise C E t):=by
  intro pins s σ H D I h
  have he':=he
  rw [List.all_cons,Bool.and_eq_true] at he'
  have O:=c.own I.mod.kin
  obtain ⟨tl,N,nm,q,bs,hdct,sn,sub,ab,col,dd,k0,k1,k2,k3,k5,mN,hC,hN,hni,T⟩:=O.obj
  have FB:=PySem.F.excBase_ValueError
  refine wpAny_Raise_call_subT (C:=C) (nm:=nm) (q:=q) (N:=N) (bs:=bs) (bm:=tl) (hdct:=hdct) (sn:=sn) (sub:=sub) (ab:=ab) (col:=col) (dd:=dd) (k0:=k0) (k1:=k1) (k2:=k2) (k3:=k3) (k5:=k5)
    FB (mN:=mN) (T.hasType FB.hasBase) hh (star_any he) hni (ld_glob I hg c.at_ ⟨rfl,?_⟩ hdb)
  have ha':=ha cpos pins s σ H _ I h
  rw [star_cons he'.1] at ha' ⊢
  refine Calls.evalArgs_plain (thn ha' fun us s2 ⟨vs,H1,I1,r,hl,q1⟩=>?_)
  exact ⟨rfl,by rw [← r.length]; exact hl,I1.bk _ _ hC,hN.keeps I1.bk,T.keeps I1.bk,fun h' a hm=>hr pins σ H1 s2 a C us h' I1 hm q1⟩
end
section
variable {P:Program} {w:World} {K:PySem.W.Frag} {mg:Str→Option Value} {base:Heap} {N:List Str} {qual:Str} {scope:Scope} {f:Addr} {cd:Value} {A:Around} {outer:List Env} {s₀:Shared} {H₀:Hp} {E:XK}
noncomputable abbrev cxE (P:Program) (w:World) (K:PySem.W.Frag) (mg:Str→Option Value) (base:Heap) (N:List Str) (qual:Str) (scope:Scope) (f:Addr) (cd:Value) (A:Around) (outer:List Env) (s:Shared) (H:Hp) (E:XK):Cx:=
  cxOf (ExF P w) P w K mg base N qual scope f cd A outer s H E
theorem raises_def:Raises (cxE P w K mg base N qual scope f cd A outer s₀ H₀ E) E:=by
  intro pins σ H s a C vs h' I hm hE
  have hin:∀ env∈(cxE P w K mg base N qual scope f cd A outer s₀ H₀ E).stack,∀ b,env.frame=some b→b∈frs (cxE P w K mg base N qual scope f cd A outer s₀ H₀ E).stack:=fun env he b hb=>List.mem_filterMap.mpr ⟨env,he,hb⟩
  show wpAny (model P w) _ (leaving _ (.ref a)) _ _ _
  refine wpAny_leaves_madeW (s:={ s with heap:=h' }) (base:=hideAll s.heap (frs (cxE P w K mg base N qual scope f cd A outer s₀ H₀ E).stack)) I.ok.frames rfl (fun b o q=>PySem.W.of_hideAll _ q) (PySem.W.funFrames_hide I.stack hin) hm fun h2 t x1 x2 x3 x4=>?_
  have up:s.heap.UpToSlots h2:=(Heap.UpToSlots.of_keeps hm.keeps).trans x4
  exact ⟨a,C,.ref t,_,H,rfl,I.os,I.bare,x1,ExD.pop I rfl rfl rfl (ExD.made I x1.1 up),hE⟩
noncomputable def HasX (P:Program) (w:World) (K:PySem.W.Frag) (mg:Str→Option Value) (base:Heap) (x:Str) (ps:List Str) (k:Nat) (sp:Sp):Prop:=
  ∃ (f:Addr) (fd:FuncData),mg x=some (.ref f)∧PySem.W.keepIn K (.ref f)=true∧Binds K fd ps []∧FnOk P w K mg base (ExF P w) k f fd ps sp
theorem Def.okX {x:Str} {st:Stmt} {N ps:List Str} {k:Nat} {sp:Sp} (d:Def K mg x st ps) (S:FnScope N ps (defScope st)) (len:∀ vs H Q E,sp vs H Q E→vs.length=ps.length)
    (hbody:∀ (f:Addr) (cdv:Value) (A:Around) (outer:List Env) (s:Shared) (H:Hp) (vs:List V) (Q:VK) (E:XK),Room k (A.deeper (envOfC x (defScope st) s.heap.objs.size f cdv))→sp vs H Q E→
      ∃ t,QSs (cxE P w K mg base N x (defScope st) f cdv A outer s H E) (defBody st) t∧t { nx:=fun _ H'=>Q .non H',rt:=Q } (start N vs) H):HasX P w K mg base x ps (k+1) sp:=by
  obtain ⟨f,fd,F,hm,hb⟩:=d
  obtain ⟨oc,od,kV,doc,pm,an,cdv,ct,osl,rfl,lk,hcd⟩:=F.ex
  refine ⟨f,_,hm,F.kp,hb,fn_of lk hcd S len fun A outer s H vs Q E hr hsp=>?_⟩
  obtain ⟨t,h,q⟩:=hbody f cdv A outer s H vs Q E hr hsp
  exact ⟨t,h.h,q⟩
end
section
variable {X:Cx} {x:Str} {np cpos pos p:Pos} {e:Expr} {es:List Expr} {t:TA} {E:XK} {C:Addr} {ps:List Str} {j k:Nat} {sp:Sp}
end
end L2
namespace L2
open PySem PySem.Spec PyProof.Rows
noncomputable abbrev Cx.marked (X:Cx) (a:Addr):Cx:={ X with A:=X.A.mark (some (.ref a)),calm:=false,xe:=fun _ _=>False }
noncomputable abbrev Cx.uncalm (X:Cx) (A:Around) (xe:Value→Shared→Prop):Cx:={ X with A:=A,calm:=false,xe:=xe }
section
variable {X:Cx} {pins:List (Addr×Obj)} {σ:St} {H H':Hp} {s:Shared} {a C:Addr}
theorem Inv.uncalm (I:Inv X pins σ H s) {A:Around} (hf:A.frames=X.A.frames) (xe:Value→Shared→Prop):Inv (X.uncalm A xe) pins σ H s:=
  ⟨⟨I.ok.mod,I.ok.kind,I.ok.glob,I.ok.blt,I.ok.above,I.ok.inj,I.ok.has,I.ok.cab,(fun z=>nomatch z),hf.trans I.ok.frames,I.ok.stk,I.ok.exf,I.ok.bs,I.ok.bsz,I.ok.noex,I.ok.exfs,I.ok.funs,I.ok.frf⟩,I.os,I.bare,I.base,I.loc,I.cell,I.free,I.freeC,I.pin,I.hok,I.len⟩
theorem Inv.marked (I:Inv X pins σ H s) (a:Addr):Inv (X.marked a) pins σ H s:=I.uncalm (A:=X.A.mark (some (.ref a))) rfl _
theorem Inv.unmarked (I:Inv (X.marked a) pins σ H s) (hd:X.calm=true→X.A.handled=none):Inv X pins σ H s:=
  ⟨⟨I.ok.mod,I.ok.kind,I.ok.glob,I.ok.blt,I.ok.above,I.ok.inj,I.ok.has,I.ok.cab,hd,I.ok.frames,I.ok.stk,I.ok.exf,I.ok.bs,I.ok.bsz,I.ok.noex,I.ok.exfs,I.ok.funs,I.ok.frf⟩,I.os,I.bare,I.base,I.loc,I.cell,I.free,I.freeC,I.pin,I.hok,I.len⟩
theorem Inv.forget {h':Heap} {m':Str→Option Value} {tk:Nat} (I:Inv X pins σ H s) (ns:h'.Ns X.env.locals m') (hs:Heap.SameBut X.env.locals s.heap h'):Inv X pins (List.replicate X.N.length none) H { s with heap:=h',toks:=tk }:=by
  have ne:∀ b o,X.s₀.heap.get? b=some o→b≠X.env.locals:=fun b o e=>Nat.ne_of_lt (Nat.lt_of_lt_of_le (Heap.lt_size e) I.ok.above)
  have kp:∀ b o,b≠X.env.locals→s.heap.get? b=some o→h'.get? b=some o:=fun b o hb e=>(hs.2 b hb).trans e
  have tn:∀ b o,H b=some o→b≠X.env.locals:=fun b o e z=>by rw [z,I.free] at e; cases e
  refine ⟨I.ok,I.os,I.bare,⟨fun b o e n hb hx=>kp b o (ne b o e) (I.base.keep b o e n hb hx),fun b o e n hb hx=>?_,I.base.free,fun b o e hx=>?_,I.base.tups,I.base.frzs,I.base.tbls⟩,⟨m',ns,fun i x v _ e2 _=>?_⟩,fun x c e=>?_,I.free,I.freeC,fun p hp=>?_,fun b o e=>?_,List.length_replicate ..⟩
  · obtain ⟨sl,e1⟩:=I.base.slot b o e n hb hx
    exact ⟨sl,kp b _ (ne b o e) e1⟩
  · obtain ⟨o',e1⟩:=I.base.there b o e hx
    exact ⟨o',kp b _ (ne b o e) e1⟩
  · rw [List.getElem?_replicate] at e2
    split at e2<;>cases e2
  · obtain ⟨v,o,ho,hd⟩:=I.cell x c e
    exact ⟨v,o,kp c o (I.cne x c e) ho,hd⟩
  · obtain ⟨e,n,hne,nf,d⟩:=I.pin p hp
    exact ⟨kp _ _ hne e,n,hne,nf,d⟩
  · refine (I.hok b o e).stay (fun c u hc q=>kp c u ?_ q) (fun _ z=>z) (fun _ _ z=>z)
    rcases hc with z | z
    · rw [z]; exact tn b o e
    · exact tn c _ z
noncomputable def ExcO (a C:Addr) (h:Heap):Prop:=∃ o vs,h.get? a=some o∧o.cls=.ref C∧o.data=.fields vs
theorem un_trackN {fs ex:List Addr} {H H':Hp} {h h':Heap} {D:Addr} {o:HO} (u:Un fs ex H H' h h') (hD:h.get? D=none) (hn:H' D=none):Un fs ex H (upd H' D o) h h' where
  keep:=u.keep
  slot:=u.slot
  free:=fun b ob q n hx=>by rw [upd_ne (fun z=>by subst z; rw [hD] at q; cases q)]; exact u.free b ob q n hx
  there:=u.there
  tups:=fun b xs q=>by rw [upd_ne (ne_of_none (u.tups b xs q) hn)]; exact u.tups b xs q
  frzs:=fun b ob v q=>by rw [upd_ne (ne_of_none (u.frzs b ob v q) hn)]; exact u.frzs b ob v q
  tbls:=fun b ps q=>by
    obtain ⟨more,z⟩:=u.tbls b ps q
    exact ⟨more,by rw [upd_ne (ne_of_none z hn)]; exact z⟩
noncomputable def XP (X:Cx) (pins:List (Addr×Obj)) (σ:St) (E:XK) (ev:Value) (s':Shared):Prop:=∃ H s1,Inv X pins σ H s1∧ExF X.prog X.w X.stack H s1 E ev s'
end
noncomputable abbrev TX:=St→Hp→VK→XK→Prop
structure QX (X:Cx) (e:Expr) (t:TX):Prop where
  h:∀ (pins:List (Addr×Obj)) (s:Shared) (σ:St) (H:Hp) (Q:VK) (E:XK),Inv X pins σ H s→t σ H Q E→wpAny (model X.prog X.w) X.A (eval e X.env) (EP X pins σ Q) (XP X pins σ E) s
section
variable {X:Cx} {x n:Str} {p pos np hpos tpos:Pos} {e e1 e2:Expr} {es:List Expr} {ta:TA} {te:TE} {tx:TX} {ps:List Str} {j k i:Nat} {sp:Sp} {E:XK} {D:Addr}
noncomputable def xCall (sp:Sp) (t:TA):TX:=fun σ H Q E=>t σ H fun vs H1=>sp vs H1 Q E
theorem qx_call (h:HasX X.prog X.w X.K X.mg X.base x ps k sp) (hr:Room j X.A) (hg:Gl X x) (ha:QA X.nox (e::es) ta) (hk:k≤j:=by decide) (hdb:(x == ("__debug__" : Str))=false:=by decide)
    (he:(e::es).all noStar=true:=by rfl):QX X (.Call (.Name x p) (e::es) [] pos) (xCall sp ta):=by
  obtain ⟨f,fd,hm,kp,b,F⟩:=h
  rw [List.all_cons,Bool.and_eq_true] at he
  refine ⟨fun pins s σ H Q E I q=>?_⟩
  refine wpAny_Call_Name_kw (ld_glob I hg hm ?_ hdb)
  have ha':=ha.h pos pins s σ H (fun vs H1=>sp vs H1 Q E) (I.wish _) q
  refine PySem.W.callWith_K (h₀:=X.base) I.ok.mod.kin kp (wpAny_mono ha' (fun us s1 ⟨vs,H1,I1',r,q1⟩=>?_) fun _ _ z=>z.elim) (star_cons he.1) (star_any he.2)
  have I1:Inv X pins σ H1 s1:=I1'.unwish
  refine ⟨I1.kIn,?_⟩
  have hl:us.length=ps.length:=by rw [← r.length]; exact F.len _ _ _ _ q1
  have hl2:(us++[]).length=ps.length:=by rw [List.append_nil]; exact hl
  have hb:=b s1 us I1.kIn hl2
  rw [List.append_nil] at hb
  refine wpAny_call (codeAny_mono (F.run X.A X.stack s1 H1 ⟨us,[]⟩ us vs Q E (hr.mono hk) I1.env0 hb r q1) fun r s' hq=>?_)
  cases r with
  | error e=>exact ⟨H1,s1,I1,hq⟩
  | ok fl=>
    cases fl with
    | ret u=>exact I1.after hq
    | next=>exact False.elim hq
    | brk=>exact False.elim hq
    | cont=>exact False.elim hq
theorem exf_caught {pins:List (Addr×Obj)} {σ:St} {H H':Hp} {s1 s':Shared} {a C:Addr} {a0:Value} {B:Heap} (I:Inv X pins σ H s1) (hex:X.ex=[]) (ho:s'.os=s1.os) (hg:AllBare s'.gens)
    (fl:Heap.FlyingW B X.stack a (.ref C) a0 s'.heap) (x:ExD X.prog X.w X.stack H s1.heap B H' s'.heap):H' a=none∧Inv X pins σ H' s'∧Inv X pins σ (upd H' a (.ext (ExcO a C))) s':=by
  have na:H' a=none:=by
    cases q:H' a with
    | none=>rfl
    | some o=>
      obtain ⟨ob,e⟩:=x.tr a o q
      rw [fl.2.1] at e
      cases e
  obtain ⟨oe,vs,e1,c1,d1,_⟩:=fl.first
  have ns:s1.heap.get? a=none:=by
    cases q:s1.heap.get? a with
    | none=>rfl
    | some o=>
      exfalso
      by_cases hb:a∈frs X.stack
      · obtain ⟨n0,o2,e2,d2⟩:=I.frData a hb
        obtain ⟨sl,e3⟩:=x.un.slot a o2 e2 n0 hb (by simp)
        rw [e1] at e3
        cases e3
        exact d2 vs d1
      · obtain ⟨o',e'⟩:=x.all a o q hb
        rw [fl.2.1] at e'
        cases e'
  have J:Inv X pins σ H' s':=I.call' ho x.un x.ok hg (ch:=[]) (fun b hb=>absurd hb (by simp))
  have new:ObjOk X.prog X.w (upd H' a (.ext (ExcO a C))) s'.heap a (.ext (ExcO a C)):=⟨⟨oe,vs,e1,c1,d1⟩,⟨oe,e1⟩,fun h1 h2 ⟨o,ws,q1,q2,q3⟩ k=>⟨o,ws,k o q1,q2,q3⟩⟩
  exact ⟨na,J,I.call' ho (un_trackN x.un ns na) (hok_track x.ok na new) hg (ch:=[]) (fun b hb=>absurd hb (by simp))⟩
variable {suite:List Stmt} {ts:TS} {b₀:Stmt}
end
end L2
namespace L2
open PySem PySem.Spec PyProof.Rows
structure RoomH (k:Nat) (A:Around):Prop where
  dp:A.depth+3*k+5<recursionLimit
  un:A.units+16*k+200<cLine
theorem RoomH.mono {j k:Nat} {A:Around} (r:RoomH k A) (h:j≤k):RoomH j A:=⟨by have:=r.dp; omega,by have:=r.un; omega⟩
theorem RoomH.deeper {k:Nat} {A:Around} (r:RoomH (k+1) A) (env:Env):RoomH k (A.deeper env):=
  ⟨by have:=r.dp; show A.depth+1+3*k+5<_; omega,by have:=r.un; show A.units+3+16*k+200<_; omega⟩
theorem RoomH.depth {k:Nat} {A:Around} (r:RoomH k A):A.depth<recursionLimit:=by have:=r.dp; omega
theorem Room.marked {k:Nat} {A:Around} (r:Room k A) (v:Option Value):RoomH k (A.mark v):=⟨r.dp,r.un⟩
structure FnOkH (P:Program) (w:World) (K:PySem.W.Frag) (mg:Str→Option Value) (base:Heap) (k:Nat) (f:Addr) (fd:FuncData) (ps:List Str) (sp:Sp):Prop where
  len:∀ vs H Q E,sp vs H Q E→vs.length=ps.length
  run:∀ (A:Around) (outer:List Env) (s:Shared) (H:Hp) (args:Args) (us:List Value) (vs:List V) (Q:VK) (E:XK),RoomH k A→Env0 P w K mg base A outer s H→BindsTo s fd args (ps.zip us)→Vals vs us→sp vs H Q E→
    codeAny (model P w) A (.call (.ref f) args) (CR CX0 outer P w H s Q E) s
noncomputable def HasH (P:Program) (w:World) (K:PySem.W.Frag) (mg:Str→Option Value) (base:Heap) (x:Str) (ps:List Str) (k:Nat) (sp:Sp):Prop:=
  ∃ (f:Addr) (fd:FuncData),mg x=some (.ref f)∧PySem.W.keepIn K (.ref f)=true∧Binds K fd ps []∧FnOkH P w K mg base k f fd ps sp
noncomputable abbrev cxH (P:Program) (w:World) (K:PySem.W.Frag) (mg:Str→Option Value) (base:Heap) (N:List Str) (qual:Str) (scope:Scope) (f:Addr) (cd:Value) (A:Around) (outer:List Env) (s:Shared) (H:Hp) (E:XK):Cx:=
  { (cxOf CX0 P w K mg base N qual scope f cd A outer s H E) with calm:=false,xe:=fun _ _=>False }
theorem Env0.calm {P:Program} {w:World} {K:PySem.W.Frag} {mg:Str→Option Value} {base:Heap} {A:Around} {outer:List Env} {s:Shared} {H:Hp} (e:Env0 P w K mg base A outer s H):Env0 P w K mg base { A with handled:=none } outer s H:=
  ⟨e.frames,e.mod,e.bs,e.bsz,e.funs,e.frf,e.hok,e.bare⟩
theorem fn_ofH {P:Program} {w:World} {K:PySem.W.Frag} {mg:Str→Option Value} {base:Heap} {k:Nat} {f:Addr} {name qual:Str} {params:Arguments} {body:List Stmt} {scope:Scope} {dV kV doc pm cdv ct oc:Value} {an od:Option Addr}
    {osl:Array (Option Value)} {N ps:List Str} {sp:Sp} (lk:K.lookup f=some ⟨oc,od,.func (PySem.W.fnOf name qual params body scope dV kV doc pm an cdv ct),osl⟩) (hcd:PySem.W.codeIn K cdv qual=true) (S:FnScope N ps scope)
    (len:∀ vs H Q E,sp vs H Q E→vs.length=ps.length)
    (hbody:∀ (A:Around) (outer:List Env) (s:Shared) (H:Hp) (vs:List V) (Q:VK) (E:XK),RoomH k (A.deeper (envOfC qual scope s.heap.objs.size f cdv))→sp vs H Q E→
      ∃ t,PSs (cxH P w K mg base N qual scope f cdv A outer s H E) body t∧t { nx:=fun _ H'=>Q .non H',rt:=Q } (start N vs) H) :
    FnOkH P w K mg base (k+1) f (PySem.W.fnOf name qual params body scope dV kV doc pm an cdv ct) ps sp:=by
  refine ⟨len,fun A outer s H args us vs Q E hr e0 hb r hsp=>?_⟩
  have hl:=len _ _ _ _ hsp
  have KX:K.In s.heap:=e0.mod.kin.keeps fun b o e=>(e0.bs b o e).1
  have lim:s.heap.NoLimit:=e0.mod.nolimit.keeps fun b o e=>(e0.bs b o e).1
  have hkind:∀ y∈ps.zip us,scope.names.lookup y.1=some .local∨(scope.names.lookup y.1=some .cell∧((cellsFrom (s.heap.objs.size+1) scope.names []).lookup y.1).isSome=true):=fun ⟨n,v⟩ hy=>by
    rcases S.par n (List.of_mem_zip hy).1 with q | q
    · exact .inl q
    · exact .inr ⟨q,PySem.W.cellsFrom_some _ _ _ (.inl q)⟩
  refine codeAny_call_function hr.depth (KX _ _ lk) rfl S.co S.gen rfl (PySem.W.codeRec_of KX hcd) (hb _ _ _ _ ?_)
  refine wpAny_newFunctionEnv_cells S.kind hkind fun env he s1 x=>?_
  subst he
  refine ⟨lim.keeps x.toInCall.keep,codeAny_func ?_⟩
  obtain ⟨t,ht,hq⟩:=hbody A outer s H vs Q E (hr.deeper _) hsp
  have I0:Inv (cxOf CX0 P w K mg base N qual scope f cdv { A with handled:=none } outer s H E) [] (start N vs) H s1:=inv_start S rfl e0.calm hl r x
  have I:Inv (cxH P w K mg base N qual scope f cdv A outer s H E) [] (start N vs) H s1:=I0.uncalm (A:=A.deeper (envOfC qual scope s.heap.objs.size f cdv)) rfl _
  refine wpAny_mono (ht [] s1 (start N vs) H _ I hq) (fun fl s' hs=>?_) fun e s' hs=>hs.elim
  have fin:∀ {σ':St} {H':Hp} {v:V} {u:Value},Inv (cxH P w K mg base N qual scope f cdv A outer s H E) [] σ' H' s'→RelV v u→Q v H'→CE outer P w H s Q u s':=
    fun {σ' H' v u} J rv q=>⟨v,H',J.os,J.bare,J.base,J.hok,rv,q⟩
  cases fl with
  | ret u=>
    obtain ⟨v,σ',H',J,rv,q⟩:=hs
    exact fin J rv q
  | next=>
    obtain ⟨σ',H',J,q⟩:=hs
    exact fin (v:=V.non) (u:=Value.none) J rfl q
  | brk=>
    obtain ⟨_,_,_,q⟩:=hs
    exact False.elim q
  | cont=>
    obtain ⟨_,_,_,q⟩:=hs
    exact False.elim q
theorem Def.okH {P:Program} {w:World} {K:PySem.W.Frag} {mg:Str→Option Value} {base:Heap} {x:Str} {st:Stmt} {N ps:List Str} {k:Nat} {sp:Sp} (d:Def K mg x st ps) (S:FnScope N ps (defScope st)) (len:∀ vs H Q E,sp vs H Q E→vs.length=ps.length)
    (hbody:∀ (f:Addr) (cdv:Value) (A:Around) (outer:List Env) (s:Shared) (H:Hp) (vs:List V) (Q:VK) (E:XK),RoomH k (A.deeper (envOfC x (defScope st) s.heap.objs.size f cdv))→sp vs H Q E→
      ∃ t,QSs (cxH P w K mg base N x (defScope st) f cdv A outer s H E) (defBody st) t∧t { nx:=fun _ H'=>Q .non H',rt:=Q } (start N vs) H):HasH P w K mg base x ps (k+1) sp:=by
  obtain ⟨f,fd,F,hm,hb⟩:=d
  obtain ⟨oc,od,kV,doc,pm,an,cdv,ct,osl,rfl,lk,hcd⟩:=F.ex
  refine ⟨f,_,hm,F.kp,hb,fn_ofH lk hcd S len fun A outer s H vs Q E hr hsp=>?_⟩
  obtain ⟨t,h,q⟩:=hbody f cdv A outer s H vs Q E hr hsp
  exact ⟨t,h.h,q⟩
section
variable {X:Cx} {x:Str} {p pos:Pos} {e:Expr} {es:List Expr} {t:TA} {ps:List Str} {j k:Nat} {sp:Sp}
theorem qe_ownH (h:HasH X.prog X.w X.K X.mg X.base x ps k sp) (hr:RoomH j X.A) (hg:Gl X x) (ha:QA X (e::es) t) (hk:k≤j:=by decide) (hdb:(x == ("__debug__" : Str))=false:=by decide)
    (he:(e::es).all noStar=true:=by rfl):QE X (.Call (.Name x p) (e::es) [] pos) (tCall sp [] E0 t):=by
  obtain ⟨f,fd,hm,kp,b,F⟩:=h
  rw [List.all_cons,Bool.and_eq_true] at he
  refine ⟨fun pins s σ H Q I q=>?_⟩
  refine wpAny_Call_Name_kw (ld_glob I hg hm ?_ hdb)
  refine PySem.W.callWith_K (h₀:=X.base) I.ok.mod.kin kp (thn (ha.h pos pins s σ H _ I q) fun us s1 ⟨vs,H1,I1,r,q1⟩=>⟨I1.kIn,?_⟩) (star_cons he.1) (star_any he.2)
  have q1':sp vs H1 Q E0:=by simpa only [List.append_nil] using q1
  have hl:us.length=ps.length:=by rw [← r.length]; exact F.len _ _ _ _ q1'
  have hl2:(us++[]).length=ps.length:=by rw [List.append_nil]; exact hl
  have hb:=b s1 us I1.kIn hl2
  rw [List.append_nil] at hb
  refine wpAny_call (codeAny_mono (F.run X.A X.stack s1 H1 ⟨us,[]⟩ us vs Q E0 (hr.mono hk) I1.env0 hb r q1') fun r s' hq=>?_)
  cases r with
  | error e=>exact False.elim hq
  | ok fl=>
    cases fl with
    | ret u=>exact I1.after hq
    | next=>exact False.elim hq
    | brk=>exact False.elim hq
    | cont=>exact False.elim hq
end
end L2
namespace L2
open PySem PySem.Spec PyProof.Rows
section
variable {X:Cx} {e e1 e2:Expr} {es:List Expr} {te:TE} {t:TJ} {pos:Pos}
end
end L2
namespace L2
open PySem PySem.Spec PyProof.Rows
open PySem.W (Looks findIn mroIn looks_findIn looks_mroIn clsIn)
structure ExK (K:PySem.W.Frag) (C:Addr):Prop where
  ga:findIn K (.ref C) "__getattribute__" = some (some (.builtin "BaseException.__getattribute__"))
  gt:findIn K (.ref C) "__getattr__" = some none
  cl:findIn K (.ref C) "__class__" = some (some (.builtin "object.__class__"))
  mo:mroIn K C (.type "object")=some true
  mb:mroIn K C (.type "BaseException")=some true
section
variable {prog:Program} {w:World} {A:Around} {E:Value→Shared→Prop} {h:Heap} {g:Array GenState} {d:Drawn} {t:Nat} {os:OsState} {a C:Addr} {o:Obj} {K:PySem.W.Frag}
theorem excClass_get {R:Result→Shared→Prop} (Z:ExK K C) (KI:K.In h) (hx:h.get? a=some o) (hc:o.cls=.ref C) (hq:R (.ok (.ret (.ref C))) ⟨h,g,d,t,os⟩) :
    codeAny (model prog w) A (.call (.builtin "getset_descriptor.__get__") ⟨[.builtin "object.__class__",.ref a,.ref C],[]⟩) R ⟨h,g,d,t,os⟩:=by
  have hT5:(⟨h,g,d,t,os⟩:Shared).TypeIs (.builtin "object.__class__") "getset_descriptor" := F.typeOf_object_class
  have L:Looks (model prog w) h (isSubtype (.ref C) (.type (".".intercalate ("object.__class__".cutAt '.').dropLast))) true:=by rw [F.owner_object_class]; exact looks_mroIn KI Z.mo
  refine codeAny_call_builtin F.slot_gs_get.plain F.entry_gs_get (F.slot_gs_get.check _ _ _ _ _ _ _ _ hT5 (F.args_gs_get _ _ _) ?_)
  repeat (any_goals (first | assumption | (with_reducible refine wpAny_loadPart_at hx ?_; rw [hc]) | with_reducible refine L.at ?_ | wp_step))
  refine ⟨Code.quiet_builtin _ (by decide +kernel),codeAny_builtin F.entry_object_class ?_⟩
  repeat (any_goals (first | assumption | (with_reducible refine wpAny_loadPart_at hx ?_; rw [hc]) | wp_step))
theorem excClass_check {M:Model} {nameV:Value} {Q:Unit→Shared→Prop} (Z:ExK K C) (KI:K.In h) (hx:h.get? a=some o) (hc:o.cls=.ref C) (hq:Q () ⟨h,g,d,t,os⟩) :
    wpAny M A (checkBuiltinCall "BaseException.__getattribute__" ⟨[.ref a,nameV],[]⟩) Q E ⟨h,g,d,t,os⟩:=by
  have hk:builtinKind "BaseException.__getattribute__" = some .slot:=by decide +kernel
  have hsplit:splitId "BaseException.__getattribute__" = some ("BaseException", "__getattribute__"):=by decide +kernel
  have L:Looks M h (isSubtype (.ref C) (.type "BaseException")) true:=looks_mroIn KI Z.mb
  have ha:=F.args_bexc_ga (.ref a) nameV
  simp only [checkBuiltinCall,hk,hsplit]
  refine wpAny_bind ?_
  · unfold isInstance
    repeat (first | (with_reducible refine wpAny_loadPart_at hx ?_; rw [hc]) | with_reducible refine L.at ?_ | wp_step)
    exact hq
theorem excClass_entry {tk:Tok} {Q:Fin→Shared→Prop} (Z:ExK K C) (KI:K.In h) (hx:h.get? a=some o) (hc:o.cls=.ref C) (hq:Q (.done (.ret (.ref C))) ⟨h,g,d,t,os⟩) :
    wpAny (model prog w) A (Builtin.«object.__getattribute__» ⟨[.ref a,.str "__class__" tk],[]⟩) Q E ⟨h,g,d,t,os⟩:=by
  have hT5:(⟨h,g,d,t,os⟩:Shared).TypeIs (.builtin "object.__class__") "getset_descriptor" := F.typeOf_object_class
  have L:=looks_findIn (M:=model prog w) KI Z.cl
  have f5:=F.typeOf_object_class
  have f6:=F.slot_gs_get.lookup
  have f7:=F.slot_gs_set.lookup
  repeat (any_goals (first | assumption | (with_reducible refine wpAny_loadPart_at hx ?_; rw [hc]) | with_reducible refine L.at ?_ | wp_step))
  refine excClass_get Z KI hx hc ?_
  repeat (any_goals (first | assumption | wp_step))
theorem excClass_by {tk:Tok} {Q:Value→Shared→Prop} (Z:ExK K C) (KI:K.In h) (hx:h.get? a=some o) (hc:o.cls=.ref C) (hq:Q (.ref C) ⟨h,g,d,t,os⟩) :
    wpAny (model prog w) A (getAttrBy (.ref a) (.str "__class__" tk) false) Q E ⟨h,g,d,t,os⟩:=by
  have FB:=F.excAttr_ValueError
  have f3:=FB.ga.bind (.ref a)
  have hx2:(Value.builtin "BaseException.__getattribute__" == Value.builtin "object.__getattribute__")=false:=by decide +kernel
  have hx1:(onTheHeap (Value.ref C)&&Value.builtin "BaseException.__getattribute__" == Value.builtin "object.__getattribute__")=false:=by rw [hx2]; rfl
  have L1:=looks_findIn (M:=model prog w) KI Z.ga
  have L2:=looks_findIn (M:=model prog w) KI Z.gt
  repeat (any_goals (first | assumption | (with_reducible refine wpAny_loadPart_at hx ?_; rw [hc]) | with_reducible refine L1.at ?_ | with_reducible refine L2.at ?_ | wp_step))
  refine codeAny_call_builtin FB.ga.plain F.entry_bexc_ga (excClass_check Z KI hx hc (excClass_entry Z KI hx hc ?_))
  repeat (any_goals (first | assumption | wp_step))
theorem excClass_attr {Q:Option Value→Shared→Prop} (Z:ExK K C) (KI:K.In h) (hx:h.get? a=some o) (hc:o.cls=.ref C) (hq:Q (some (.ref C)) ⟨h,g,d,t+1,os⟩) :
    wpAny (model prog w) A (getAttr? (.ref a) "__class__") Q E ⟨h,g,d,t,os⟩:=by
  unfold getAttr? getAttrBy?
  repeat (any_goals (first | assumption | with_reducible apply excClass_by Z KI hx hc | wp_step))
theorem kitx_exc (Z:ExK K C):PySem.W.KitX K (.ref a) (.ref C) (ExcO a C) where
  ty:=fun M h _ ⟨o,vs,e,c,_⟩=>c ▸ (Looks.ld e).andThen .now
  it:=fun M h X _=>by
    have q:=Z.mo
    unfold mroIn at q
    cases hcD:clsIn K C with
    | none=>rw [hcD] at q; cases q
    | some cd=>
      unfold clsIn at hcD
      split at hcD
      · rename_i c' d' cd' sl' ho
        intro A' Q' E' s' k q
        unfold isType loadHead
        exact wpAny_bind (wpAny_loadPart (k _ _ (X _ _ ho)) (wpAny_pure q))
      · cases hcD
  ne:=fun h tp dd its n sl X htp=>by
    have q:=Z.mo
    unfold mroIn at q
    refine Bool.eq_false_iff.mpr fun z=>?_
    have e:C=tp:=Value.ref.inj (beq_iff_eq.mp z)
    subst e
    cases hcD:clsIn K C with
    | none=>rw [hcD] at q; cases q
    | some cd=>
      unfold clsIn at hcD
      split at hcD
      · rename_i c' d' cd' sl' ho
        have z:=(X _ _ ho).symm.trans htp
        cases z
      · cases hcD
  ca:=fun {prog w A E Q s} X ⟨o,vs,e,c,_⟩ k=>by obtain ⟨h,g,d,t,os⟩:=s; exact excClass_attr Z X e c k
end
theorem ExC.glb {K:PySem.W.Frag} {mg:Str→Option Value} {x:Str} {C:Addr} (c:ExC K mg x C):Glb mg x (.ref C):=⟨.ref C,c.at_,rfl⟩
theorem boot_ty_ValueError:bootBuiltins "ValueError" = some (.type "ValueError"):=by decide +kernel
noncomputable def clsV:V→Option Value
  | .ref D=>some (.ref D)
  | .ty T=>some (.type T)
  | _=>none
theorem clsV_rel {c:V} {cv u:Value} (h:clsV c=some cv) (r:RelV c u):u=cv:=by
  cases c<;>first | (cases h; exact r) | cases h
theorem call_isX {X:Cx}:CallR X (.builtin "isinstance") (fun xs H Q=>∃ a C c cv b,xs=[.ref a,c]∧H a=some (.ext (ExcO a C))∧ExK X.K C∧clsV c=some cv∧PySem.W.kitOne X.K (.ref C) cv=some b∧Q (.bl b) H):=by
  intro pins s σ H xs us Q I r h
  obtain ⟨a,C,c,cv,b,rfl,ea,Z,hc,e,q⟩:=h
  obtain ⟨u,c',rfl,rx,rc⟩:=vals2 r
  cases (show u=Value.ref a from rx)
  obtain rfl:=clsV_rel hc rc
  obtain ⟨ho,_⟩:=(show ObjOk X.prog X.w H s.heap a (.ext (ExcO a C)) from I.hok a _ ea)
  exact PySem.W.kia_one (kitx_exc Z) I.kIn ho e (fun z=>nomatch z) fun tk=>⟨.bl b,H,I.tok tk,rfl,q⟩
end L2
namespace L2
open PySem PySem.Spec PyProof.Rows
section
variable {X:Cx}
end
end L2
namespace L2
open PySem PySem.Spec PyProof.Rows
open Builtin.SmallTypes (nextOf)
structure Src (P:Program) (w:World) (it l:Addr) (st:Nat→Heap→Prop) (n:Nat) (val:Nat→Value):Prop where
  keep:∀ i h h',st i h→(∀ b o,(b=it∨b=l)→h.get? b=some o→h'.get? b=some o)→st i h'
  item:∀ {A:Around} {Q:Value→Shared→Prop} {E:Value→Shared→Prop} {s:Shared} (i:Nat),st i s.heap→i<n→(∀ h',st (i+1) h'→Heap.SameBut it s.heap h'→Q (val i) { s with heap:=h' })→wpAny (model P w) A (nextOf (.ref it)) Q E s
  done:∀ {A:Around} {Q:Value→Shared→Prop} {E:Value→Shared→Prop} {s:Shared} (i:Nat),A.handled=none→st i s.heap→n≤i→
    (∀ h' e,Heap.ExtBut it s.heap h'→(∃ o,h'.get? e=some o∧o.cls=.type "StopIteration")→E (.ref e) { s with heap:=h' })→wpAny (model P w) A (nextOf (.ref it)) Q E s
section
variable {prog:Program} {w:World} {A:Around} {E:Value→Shared→Prop} {s:Shared}
theorem nextOf_tuple_item {it t:Addr} {i:Nat} {items} {x:Value} {Q:Value→Shared→Prop} (hit:s.heap.IsTupleIter it t i) (ht:s.heap.IsTuple t items) (hx:items[i]?=some x)
    (hQ:∀ h',h'.IsTupleIter it t (i+1)→Heap.SameBut it s.heap h'→Q x { s with heap:=h' }):wpAny (model prog w) A (nextOf (.ref it)) Q E s:=by
  obtain ⟨o,ho,hc,hd⟩:=id hit
  obtain ⟨ol,hol,_,nl,hdl⟩:=ht
  unfold nextOf
  refine wpAny_bind (wpAny_callSpecial?_slot (name:=Str.ofString "__next__") hit.typeIs F.slot_tuple_iterator_next
    (wpAny_call_entry F.slot_tuple_iterator_next hit.typeIs F.entry_tuple_iterator_next ?_ (F.args_tuple_iterator_next_1 _)))
  refine wpAny_bind (m:=field (.ref it) 0) (wpAny_field ho hd (x:=.ref t) rfl ?_)
  show wpAny _ _ (if (Value.ref t == Value.none)=true then _ else _) _ _ s
  rw [if_neg (show ¬ ((Value.ref t == Value.none)=true) from Bool.false_ne_true)]
  refine wpAny_bind (m:=field (.ref it) 1) (wpAny_field ho hd (x:=.int i 0) rfl ?_)
  refine wpAny_bind (m:=seqItems? (.ref t)) (wpAny_seqItems hol hdl ?_)
  simp only [Int.toNat_natCast,hx]
  refine wpAny_bind (wpAny_setField ho hd (by simp) (wpAny_pure ⟨x,rfl,wpAny_pure (hQ _ ?_ (Heap.SameBut.update ..))⟩))
  exact ⟨_,Heap.get?_update_self _ ho (Obj.isFreed_of_fields (Obj.data_mapFields hd _)),(Obj.cls_mapFields ..).trans hc,by
    rw [Obj.data_mapFields hd]; simp [rawInt]⟩
theorem nextOf_tuple_end {it t:Addr} {i:Nat} {items} {Q:Value→Shared→Prop} (hh:A.handled=none) (hit:s.heap.IsTupleIter it t i) (ht:s.heap.IsTuple t items) (hx:items[i]?=none)
    (hE:∀ h' e,Heap.ExtBut it s.heap h'→(∃ o,h'.get? e=some o∧o.cls=.type "StopIteration")→E (.ref e) { s with heap:=h' }):wpAny (model prog w) A (nextOf (.ref it)) Q E s:=by
  obtain ⟨o,ho,hc,hd⟩:=id hit
  obtain ⟨ol,hol,_,nl,hdl⟩:=ht
  unfold nextOf
  refine wpAny_bind (wpAny_callSpecial?_slot (name:=Str.ofString "__next__") hit.typeIs F.slot_tuple_iterator_next
    (wpAny_call_entry F.slot_tuple_iterator_next hit.typeIs F.entry_tuple_iterator_next ?_ (F.args_tuple_iterator_next_1 _)))
  refine wpAny_bind (m:=field (.ref it) 0) (wpAny_field ho hd (x:=.ref t) rfl ?_)
  show wpAny _ _ (if (Value.ref t == Value.none)=true then _ else _) _ _ s
  rw [if_neg (show ¬ ((Value.ref t == Value.none)=true) from Bool.false_ne_true)]
  refine wpAny_bind (m:=field (.ref it) 1) (wpAny_field ho hd (x:=.int i 0) rfl ?_)
  refine wpAny_bind (m:=seqItems? (.ref t)) (wpAny_seqItems hol hdl ?_)
  simp only [Int.toNat_natCast,hx]
  refine wpAny_bind (wpAny_rule (wpAny_bind (wpAny_setField ho hd (by simp) ?_)))
  refine wpAny_bind (m:=newExc (.type "StopIteration") []) ?_
  simp only [newExc,newTuple]
  refine wpAny_bind (wpAny_newObj_type ?_ (by size_fits))
  refine wpAny_bind (m:=firstArgMember _ _) (wpAny_of_eq (a:=Value.none) (by first | rfl | (simp only [firstArgMember]; rfl)) ?_)
  refine wpAny_newObj_type ?_ (by size_fits)
  simp only [raiseNew]
  refine wpAny_bind (wpAny_handled ?_)
  first | rw [show A.in1.handled=none from hh] | rw [hh]
  refine wpAny_bind (wpAny_pure (wpAny_throw ?_))
  exact hE _ _ (((Heap.SameBut.update ..).extBut.push _).push _) ⟨_,Heap.get?_push_size _ rfl,rfl⟩
theorem src_list {it l:Addr} (hne:l≠it) (items:Array Value):Src prog w it l (fun i h=>h.IsListIter it l i∧h.IsList l items) items.size (fun i=>items.getD i .none) where
  keep:=fun i h h' st k=>⟨st.1.at fun o e=>k it o (.inl rfl) e,st.2.at fun o e=>k l o (.inr rfl) e⟩
  item:=fun i st hi hQ=>wpAny_nextOf_list_item st.1 st.2 (x:=items.getD i .none) (by simp [Array.getD,hi]) fun h' st' sb=>hQ h' ⟨st',st.2.extBut sb.extBut hne⟩ sb
  done:=fun i hh st hi hE=>wpAny_nextOf_list_end hh st.1 st.2 (Array.getElem?_eq_none hi) hE
theorem src_tuple {it l:Addr} (hne:l≠it) (items:Array Value):Src prog w it l (fun i h=>h.IsTupleIter it l i∧h.IsTuple l items) items.size (fun i=>items.getD i .none) where
  keep:=fun i h h' st k=>⟨st.1.at fun o e=>k it o (.inl rfl) e,st.2.at fun o e=>k l o (.inr rfl) e⟩
  item:=fun i st hi hQ=>nextOf_tuple_item st.1 st.2 (x:=items.getD i .none) (by simp [Array.getD,hi]) fun h' st' sb=>hQ h' ⟨st',st.2.extBut sb.extBut hne⟩ sb
  done:=fun i hh st hi hE=>nextOf_tuple_end hh st.1 st.2 (Array.getElem?_eq_none hi) hE
variable {z TI TO i1 i2 l1 l2:Addr} {st1 st2:Nat→Heap→Prop} {n1 n2:Nat} {v1 v2:Nat→Value} {a b:Value} {k:Nat}
theorem zipS_item {Q:Value→Shared→Prop} (D:ZipApart z TI TO i1 i2 l1 l2) (S1:Src prog w i1 l1 st1 n1 v1) (S2:Src prog w i2 l2 st2 n2 v2)
    (hz:IsZip s.heap z TI TO .none) (hTI:IsPair s.heap TI (.ref i1) (.ref i2)) (hTO:IsPair s.heap TO a b) (h1:st1 k s.heap) (h2:st2 k s.heap) (k1:k<n1) (k2:k<n2)
    (hi1:i1<s.heap.objs.size) (hi2:i2<s.heap.objs.size) (hl1:l1<s.heap.objs.size) (hl2:l2<s.heap.objs.size)
    (hQ:∀ h',IsZip h' z TI TO (rawInt s.heap.objs.size)→IsPair h' TO (v1 k) (v2 k)→st1 (k+1) h'→st2 (k+1) h'→IsPair h' s.heap.objs.size (v1 k) (v2 k)→
      (∀ c o,c≠z→c≠TO→c≠i1→c≠i2→s.heap.get? c=some o→h'.get? c=some o)→Q (.ref s.heap.objs.size) { s with heap:=h' }) :
    wpAny (model prog w) A (Builtin.«zip.__next__» ⟨[.ref z],[]⟩) (fun fin s'=>∃ v,fin=.done (.ret v)∧Q v s') E s:=by
  refine wpAny_bind (m:=field (.ref z) 2) (wpAny_field hz rfl (x:=.bool false) rfl ?_)
  refine wpAny_bind (m:=field (.ref z) 3) (wpAny_field hz rfl (x:=.ref TI) rfl ?_)
  refine wpAny_bind (wpAny_seqItems hTI rfl ?_)
  refine wpAny_bind (m:=Builtin.SmallTypes.ownedTupleIsFree (.ref z)) ?_
  unfold Builtin.SmallTypes.ownedTupleIsFree
  refine wpAny_bind (wpAny_field hz rfl (x:=.none) rfl (wpAny_pure ?_))
  simp only [if_true]
  refine wpAny_bind (wpAny_rule (wpAny_bind (wpAny_field hz rfl (x:=.ref TO) rfl ?_)))
  refine wpAny_bind (wpAny_setField_rec hz (by simp) fun ha hza sa=>?_)
  replace hza:IsZip ha z TI TO .ellipsis:=hza
  refine wpAny_bind ?_
  simp only [List.zipIdx_cons,List.zipIdx_nil,List.forIn_cons,List.forIn_nil]
  have h1a:st1 k ha:=S1.keep k _ _ h1 fun c o hc e=>sa.extBut c o (by rcases hc with rfl | rfl; exact D.i1z; exact D.l1z) e
  refine wpAny_bind (wpAny_bind (wpAny_onRaise (wpAny_bind (m:=nextOf (.ref i1)) (S1.item k h1a k1 fun hb h1b sb=>wpAny_pure ?_))))
  have hTOb:IsPair hb TO a b:=sb.extBut _ _ D.TOi1 (sa.extBut _ _ D.TOz hTO)
  refine wpAny_bind (wpAny_seqItems hTOb rfl (wpAny_bind (wpAny_updateSeq_pair hTOb fun hc hTOc sc=>?_)))
  replace hTOc:IsPair hc TO (v1 k) b:=hTOc
  refine wpAny_bind (wpAny_letGo (wpAny_pure ?_))
  have h2c:st2 k hc:=S2.keep k _ _ h2 fun c o hcc e=>by
    rcases hcc with rfl | rfl
    · exact sc.extBut _ _ D.TOi2.symm (sb.extBut _ _ D.i12.symm (sa.extBut _ _ D.i2z e))
    · exact sc.extBut _ _ D.l2TO (sb.extBut _ _ D.l2i1 (sa.extBut _ _ D.l2z e))
  refine wpAny_bind (wpAny_bind (wpAny_onRaise (wpAny_bind (m:=nextOf (.ref i2)) (S2.item k h2c k2 fun hd h2d sd=>wpAny_pure ?_))))
  have hTOd:IsPair hd TO (v1 k) b:=sd.extBut _ _ D.TOi2 hTOc
  refine wpAny_bind (wpAny_seqItems hTOd rfl (wpAny_bind (wpAny_updateSeq_pair hTOd fun he hTOe se=>?_)))
  replace hTOe:IsPair he TO (v1 k) (v2 k):=hTOe
  refine wpAny_bind (wpAny_letGo (wpAny_pure (wpAny_pure ?_)))
  refine wpAny_bind (wpAny_seqItems hTOe rfl (wpAny_bind (wpAny_newTuple ?_)))
  have hsz:he.objs.size=s.heap.objs.size:=by rw [se.1,sd.1,sc.1,sb.1,sa.1]
  have hze:IsZip he z TI TO .ellipsis:=se.extBut _ _ D.TOz.symm (sd.extBut _ _ D.i2z.symm (sc.extBut _ _ D.TOz.symm (sb.extBut _ _ D.i1z.symm hza)))
  have hke:∀ c o,c≠z→c≠TO→c≠i1→c≠i2→s.heap.get? c=some o→he.get? c=some o:=fun c o c1 c2 c3 c4 e=>
    se.extBut _ _ c2 (sd.extBut _ _ c4 (sc.extBut _ _ c2 (sb.extBut _ _ c3 (sa.extBut _ _ c1 e))))
  have h1e:st1 (k+1) he:=S1.keep _ _ _ h1b fun c o hcc e=>by
    rcases hcc with rfl | rfl
    · exact se.extBut _ _ D.TOi1.symm (sd.extBut _ _ D.i12 (sc.extBut _ _ D.TOi1.symm e))
    · exact se.extBut _ _ D.l1TO (sd.extBut _ _ D.l1i2 (sc.extBut _ _ D.l1TO e))
  have h2e:st2 (k+1) he:=S2.keep _ _ _ h2d fun c o hcc e=>by
    rcases hcc with rfl | rfl
    · exact se.extBut _ _ D.TOi2.symm e
    · exact se.extBut _ _ D.l2TO e
  have hzlt:z<he.objs.size:=Heap.lt_size hze
  refine wpAny_bind (m:=Builtin.SmallTypes.ownedTupleHandOut (.ref z) (.ref he.objs.size)) ?_
  unfold Builtin.SmallTypes.ownedTupleHandOut
  have hzf:IsZip (he.push { cls:=.type "tuple",data:=.seq #[v1 k,v2 k] }) z TI TO .ellipsis:=Heap.get?_push_of_some _ hze
  refine wpAny_bind (wpAny_setField_rec hzf (by simp) fun hg hzg sg=>?_)
  replace hzg:IsZip hg z TI TO (rawInt he.objs.size):=hzg
  refine wpAny_setField_rec hzg (by simp) fun hh hzh sh=>?_
  replace hzh:IsZip hh z TI TO (rawInt he.objs.size):=hzh
  have up:∀ c o,c≠z→he.get? c=some o→hh.get? c=some o:=fun c o c1 e=>sh.extBut _ _ c1 (sg.extBut _ _ c1 (Heap.get?_push_of_some _ e))
  have hT:IsPair hh he.objs.size (v1 k) (v2 k):=sh.extBut _ _ (Nat.ne_of_gt hzlt) (sg.extBut _ _ (Nat.ne_of_gt hzlt) (Heap.get?_push_size _ rfl))
  rw [hsz] at hzh hT
  refine wpAny_pure ⟨_,rfl,?_⟩
  show Q (.ref he.objs.size) _
  rw [hsz]
  refine hQ hh hzh (up _ _ D.TOz hTOe) (S1.keep _ _ _ h1e fun c o hcc e=>up c o ?_ e) (S2.keep _ _ _ h2e fun c o hcc e=>up c o ?_ e) hT fun c o c1 c2 c3 c4 e=>up c o c1 (hke c o c1 c2 c3 c4 e)
  · rcases hcc with rfl | rfl
    · exact D.i1z
    · exact D.l1z
  · rcases hcc with rfl | rfl
    · exact D.i2z
    · exact D.l2z
theorem zipS_end {Q:Fin→Shared→Prop} (hh:A.handled=none) (D:ZipApart z TI TO i1 i2 l1 l2) (S1:Src prog w i1 l1 st1 n1 v1) (S2:Src prog w i2 l2 st2 n2 v2)
    (hz:IsZip s.heap z TI TO .none) (hTI:IsPair s.heap TI (.ref i1) (.ref i2)) (hTO:IsPair s.heap TO a b) (h1:st1 k s.heap) (h2:st2 k s.heap) (hend:n1≤k∨n2≤k)
    (hE:∀ h' e,(∀ c o,c≠z→c≠TO→c≠i1→c≠i2→s.heap.get? c=some o→h'.get? c=some o)→(∃ o,h'.get? e=some o∧o.cls=.type "StopIteration")→E (.ref e) { s with heap:=h' }) :
    wpAny (model prog w) A (Builtin.«zip.__next__» ⟨[.ref z],[]⟩) Q E s:=by
  refine wpAny_bind (m:=field (.ref z) 2) (wpAny_field hz rfl (x:=.bool false) rfl ?_)
  refine wpAny_bind (m:=field (.ref z) 3) (wpAny_field hz rfl (x:=.ref TI) rfl ?_)
  refine wpAny_bind (wpAny_seqItems hTI rfl ?_)
  refine wpAny_bind (m:=Builtin.SmallTypes.ownedTupleIsFree (.ref z)) ?_
  unfold Builtin.SmallTypes.ownedTupleIsFree
  refine wpAny_bind (wpAny_field hz rfl (x:=.none) rfl (wpAny_pure ?_))
  simp only [if_true]
  refine wpAny_bind (wpAny_rule (wpAny_bind (wpAny_field hz rfl (x:=.ref TO) rfl ?_)))
  refine wpAny_bind (wpAny_setField_rec hz (by simp) fun ha hza sa=>?_)
  replace hza:IsZip ha z TI TO .ellipsis:=hza
  refine wpAny_bind ?_
  simp only [List.zipIdx_cons,List.zipIdx_nil,List.forIn_cons,List.forIn_nil]
  have h1a:st1 k ha:=S1.keep k _ _ h1 fun c o hc e=>sa.extBut c o (by rcases hc with rfl | rfl; exact D.i1z; exact D.l1z) e
  by_cases k1:k<n1
  · have k2:n2≤k:=by omega
    refine wpAny_bind (wpAny_bind (wpAny_onRaise (wpAny_bind (m:=nextOf (.ref i1)) (S1.item k h1a k1 fun hb h1b sb=>wpAny_pure ?_))))
    have hTOb:IsPair hb TO a b:=sb.extBut _ _ D.TOi1 (sa.extBut _ _ D.TOz hTO)
    refine wpAny_bind (wpAny_seqItems hTOb rfl (wpAny_bind (wpAny_updateSeq_pair hTOb fun hc hTOc sc=>?_)))
    refine wpAny_bind (wpAny_letGo (wpAny_pure ?_))
    have h2c:st2 k hc:=S2.keep k _ _ h2 fun c o hcc e=>by
      rcases hcc with rfl | rfl
      · exact sc.extBut _ _ D.TOi2.symm (sb.extBut _ _ D.i12.symm (sa.extBut _ _ D.i2z e))
      · exact sc.extBut _ _ D.l2TO (sb.extBut _ _ D.l2i1 (sa.extBut _ _ D.l2z e))
    refine wpAny_bind (wpAny_bind (wpAny_onRaise (wpAny_bind (m:=nextOf (.ref i2)) (S2.done k hh h2c k2 fun hd e sd he=>?_))))
    obtain ⟨oe,hoe,hce⟩:=he
    have hzd:IsZip hd z TI TO .ellipsis:=sd _ _ D.i2z.symm (sc.extBut _ _ D.TOz.symm (sb.extBut _ _ D.i1z.symm hza))
    have hez:e≠z:=fun x=>by subst x; rw [hzd] at hoe; cases hoe; simp at hce
    exact wpAny_setField_rec hzd (by simp) fun hf _ sf=>hE hf e (fun c o c1 c2 c3 c4 x=>sf.extBut _ _ c1 (sd _ _ c4 (sc.extBut _ _ c2 (sb.extBut _ _ c3 (sa.extBut _ _ c1 x))))) ⟨oe,sf.extBut _ _ hez hoe,hce⟩
  · refine wpAny_bind (wpAny_bind (wpAny_onRaise (wpAny_bind (m:=nextOf (.ref i1)) (S1.done k hh h1a (by omega) fun hb e sb he=>?_))))
    obtain ⟨oe,hoe,hce⟩:=he
    have hzb:IsZip hb z TI TO .ellipsis:=sb _ _ D.i1z.symm hza
    have hez:e≠z:=fun x=>by subst x; rw [hzb] at hoe; cases hoe; simp at hce
    exact wpAny_setField_rec hzb (by simp) fun hf _ sf=>hE hf e (fun c o c1 _ c3 _ x=>sf.extBut _ _ c1 (sb _ _ c3 (sa.extBut _ _ c1 x))) ⟨oe,sf.extBut _ _ hez hoe,hce⟩
end
end L2
namespace L2
open PySem PySem.Spec PyProof.Rows
noncomputable def SqX (K:PySem.W.Frag) (tp:Bool) (H:Hp) (a:Addr) (xs:List V):Prop:=match tp with
  | true=>SqT K H a xs
  | false=>SqL K H a xs
noncomputable def itCls (tp:Bool):String:=match tp with
  | true => "tuple_iterator"
  | false => "list_iterator"
noncomputable def SeqX (tp:Bool) (h:Heap) (a:Addr) (its:Array Value):Prop:=match tp with
  | true=>h.IsTuple a its
  | false=>h.IsList a its
noncomputable def ItX (tp:Bool) (h:Heap) (it l:Addr) (i:Nat):Prop:=∃ o,h.get? it=some o∧o.cls=.type (itCls tp)∧o.data=.fields #[.ref l,.int i 0]
theorem ItX.at {tp:Bool} {h h':Heap} {it l:Addr} {i:Nat} (x:ItX tp h it l i) (e:∀ o,h.get? it=some o→h'.get? it=some o):ItX tp h' it l i:=let ⟨o,ho,r⟩:=x; ⟨o,e _ ho,r⟩
theorem SeqX.push {tp:Bool} {h:Heap} {a:Addr} {its:Array Value} (x:SeqX tp h a its) (o:Obj):SeqX tp (h.push o) a its:=by
  cases tp
  · exact Heap.IsList.push x o
  · exact Heap.IsTuple.push x o
theorem SeqX.lt {tp:Bool} {h:Heap} {a:Addr} {its:Array Value} (x:SeqX tp h a its):a<h.objs.size:=by
  cases tp
  · obtain ⟨o,e,_⟩:=x; exact Heap.lt_size e
  · obtain ⟨o,e,_⟩:=x; exact Heap.lt_size e
section
variable {prog:Program} {w:World} {A:Around} {E:Value→Shared→Prop} {s:Shared}
theorem src_x {tp:Bool} {it l:Addr} (hne:l≠it) (items:Array Value):Src prog w it l (fun i h=>ItX tp h it l i∧SeqX tp h l items) items.size (fun i=>items.getD i .none):=by
  cases tp
  · exact src_list hne items
  · exact src_tuple hne items
theorem pyIter_x {tp:Bool} {l:Addr} {items:Array Value} {Q:Value→Shared→Prop} (h:SeqX tp s.heap l items)
    (hQ:Q (.ref s.heap.objs.size) { s with heap:=s.heap.push { cls:=.type (itCls tp),data:=.fields #[.ref l,.int 0 0] } }):wpAny (model prog w) A (pyIter (.ref l)) Q E s:=by
  cases tp
  · exact wpAny_pyIter_list (show s.heap.IsList l items from h) hQ
  · exact wpAny_pyIter_tuple (show s.heap.IsTuple l items from h) hQ
noncomputable abbrev zX1 (t1:Bool) (h:Heap) (l1:Addr):Heap:=h.push { cls:=.type (itCls t1),data:=.fields #[.ref l1,.int 0 0] }
noncomputable abbrev zX2 (t1 t2:Bool) (h:Heap) (l1 l2:Addr):Heap:=(zX1 t1 h l1).push { cls:=.type (itCls t2),data:=.fields #[.ref l2,.int 0 0] }
noncomputable abbrev zX3 (t1 t2:Bool) (h:Heap) (l1 l2:Addr):Heap:=(zX2 t1 t2 h l1 l2).push { cls:=.type "tuple",data:=.seq #[.ref h.objs.size,.ref (zX1 t1 h l1).objs.size] }
noncomputable abbrev zX4 (t1 t2:Bool) (h:Heap) (l1 l2:Addr):Heap:=(zX3 t1 t2 h l1 l2).push { cls:=.type "tuple",data:=.seq #[.none,.none] }
noncomputable abbrev zX5 (t1 t2:Bool) (h:Heap) (l1 l2:Addr):Heap:=(zX4 t1 t2 h l1 l2).push { cls:=.type "zip",data:=.fields #[.none,.bool false,.bool false,.ref (zX2 t1 t2 h l1 l2).objs.size,.ref (zX3 t1 t2 h l1 l2).objs.size] }
theorem zx_new (t1 t2:Bool) (l1 l2:Addr) (xs ys:Array Value) :
    Meets (Builtin.«zip.__new__» ⟨[.type "zip",.ref l1,.ref l2],[]⟩) (fun _ R s=>SeqX t1 s.heap l1 xs∧SeqX t2 s.heap l2 ys∧R (.ok (.ret (.ref (zX4 t1 t2 s.heap l1 l2).objs.size))) { s with heap:=zX5 t1 t2 s.heap l1 l2 }):=
  .of_wp fun prog w A R s h=>by
    obtain ⟨hp,g,d,tk,os⟩:=s; obtain ⟨hl1,hl2,h⟩:=h
    have hsub:=sub_zip
    have hL1:SeqX t1 (Shared.heap ⟨hp,g,d,tk,os⟩) l1 xs:=hl1
    have hL2:SeqX t2 (Shared.heap ⟨hp.push { cls:=.type (itCls t1),data:=.fields #[.ref l1,.int 0 0] },g,d,tk,os⟩) l2 ys:=SeqX.push hl2 _
    wp_walk using pyIter_x hL1,pyIter_x hL2
    exact ⟨_,rfl,h⟩
theorem call_zx {t1 t2:Bool} {l1 l2:Addr} {xs ys:Array Value} {Q:Value→Shared→Prop} (hl1:SeqX t1 s.heap l1 xs) (hl2:SeqX t2 s.heap l2 ys)
    (h:∀ h',IsZip h' (s.heap.objs.size+4) (s.heap.objs.size+2) (s.heap.objs.size+3) .none→IsPair h' (s.heap.objs.size+2) (.ref s.heap.objs.size) (.ref (s.heap.objs.size+1))→
      IsPair h' (s.heap.objs.size+3) .none .none→ItX t1 h' s.heap.objs.size l1 0→ItX t2 h' (s.heap.objs.size+1) l2 0→
      (∀ c o,s.heap.get? c=some o→h'.get? c=some o)→Q (.ref (s.heap.objs.size+4)) { s with heap:=h' }) :
    wpAny (model prog w) A (call (.type "zip") [.ref l1,.ref l2]) Q E s:=by
  refine callType_new F.called_zip (by decide) (F.typeCall_zip_2 _ _) (F.newCall_zip_2 _ _) (fun obj=>F.args_object_init_3 obj _ _) F.entry_zip_new (zx_new t1 t2 l1 l2 xs ys) ⟨hl1,hl2,?_⟩
  have z1:(zX1 t1 s.heap l1).objs.size=s.heap.objs.size+1:=Heap.size_push ..
  have z2:(zX2 t1 t2 s.heap l1 l2).objs.size=s.heap.objs.size+2:=by rw [Heap.size_push,z1]
  have z3:(zX3 t1 t2 s.heap l1 l2).objs.size=s.heap.objs.size+3:=by rw [Heap.size_push,z2]
  have z4:(zX4 t1 t2 s.heap l1 l2).objs.size=s.heap.objs.size+4:=by rw [Heap.size_push,z3]
  have g5:(zX5 t1 t2 s.heap l1 l2).get? (zX4 t1 t2 s.heap l1 l2).objs.size=some _:=Heap.get?_push_size _ rfl
  have g4:(zX5 t1 t2 s.heap l1 l2).get? (zX3 t1 t2 s.heap l1 l2).objs.size=some _:=Heap.get?_push_of_some _ (Heap.get?_push_size _ rfl)
  have g3:(zX5 t1 t2 s.heap l1 l2).get? (zX2 t1 t2 s.heap l1 l2).objs.size=some _:=Heap.get?_push_of_some _ (Heap.get?_push_of_some _ (Heap.get?_push_size _ rfl))
  have g2:(zX5 t1 t2 s.heap l1 l2).get? (zX1 t1 s.heap l1).objs.size=some _:=Heap.get?_push_of_some _ (Heap.get?_push_of_some _ (Heap.get?_push_of_some _ (Heap.get?_push_size _ rfl)))
  have g1:(zX5 t1 t2 s.heap l1 l2).get? s.heap.objs.size=some _:=Heap.get?_push_of_some _ (Heap.get?_push_of_some _ (Heap.get?_push_of_some _ (Heap.get?_push_of_some _ (Heap.get?_push_size _ rfl))))
  show _∧_
  rw [z2,z3,z4] at g5
  rw [z1,z2] at g3
  rw [z3] at g4
  rw [z1] at g2
  rw [z4]
  exact ⟨⟨_,g5,rfl⟩,h _ g5 g3 g4 ⟨_,g1,rfl,rfl⟩ ⟨_,g2,rfl,rfl⟩ fun c o x=>
    Heap.get?_push_of_some _ (Heap.get?_push_of_some _ (Heap.get?_push_of_some _ (Heap.get?_push_of_some _ (Heap.get?_push_of_some _ x))))⟩
end
section
variable {X:Cx} {pins:List (Addr×Obj)} {σ:St} {H:Hp} {s:Shared}
theorem Inv.seqX {tp:Bool} {a:Addr} {xs:List V} (I:Inv X pins σ H s) (h:SqX X.K tp H a xs):∃ its:List Value,Vals xs its∧SeqX tp s.heap a its.toArray:=by
  cases tp
  · obtain ⟨its,r,p,_⟩:=I.list h
    exact ⟨its,r,p.isList⟩
  · obtain ⟨its,r,p,_⟩:=I.tuple h
    exact ⟨its,r,p⟩
theorem Inv.seqX_inj {tp:Bool} {a:Addr} {xs ys:List V} (I:Inv X pins σ H s) (h:SqX X.K tp H a xs) (h':SqX X.K tp H a ys):xs=ys:=by
  cases tp
  · exact I.list_inj h h'
  · exact I.tuple_inj h h'
theorem un_but {fs ch:List Addr} {h h':Heap} (k:∀ b o,b ∉ ch→h.get? b=some o→h'.get? b=some o):Un fs ch H H h h':=
  ⟨fun b o e _ _ hx=>k b o hx e,fun b o e _ _ hx=>⟨o.slots,k b o hx e⟩,fun _ _ _ n _=>n,fun b o e hx=>⟨o,k b o hx e⟩,fun _ _ z=>z,fun _ _ _ z=>z,fun b ps e=>⟨#[],by rw [e]; simp⟩⟩
theorem hok_but {P:Program} {w:World} {ch:List Addr} {h h':Heap} (x:HOk P w H h) (hn:∀ b∈ch,H b=none) (k:∀ b o,b ∉ ch→h.get? b=some o→h'.get? b=some o):HOk P w H h':=fun b u e=>by
  have nit:∀ c v,H c=some v→c ∉ ch:=fun c v e z=>by rw [hn c z] at e; cases e
  refine (x b u e).stay (fun c v hc q=>k c v ?_ q) (fun _ q=>q) fun _ _ q=>q
  rcases hc with z | z
  · rw [z]; exact nit b u e
  · exact nit c _ z
theorem Inv.but {ch:List Addr} {h':Heap} {tk:Nat} (I:Inv X pins σ H s) (hf:∀ b∈ch,FpOk X pins H b) (k:∀ b o,b ∉ ch→s.heap.get? b=some o→h'.get? b=some o):Inv X pins σ H { s with heap:=h',toks:=tk }:=
  I.call' (s':={ s with heap:=h',toks:=tk }) rfl (un_but k) (hok_but I.hok (fun b hb=>(hf b hb).1) k) I.bare fun b hb=>⟨(hf b hb).2.2.2.1,(hf b hb).2.1,(hf b hb).2.2.2.2.1,(hf b hb).2.2.2.2.2⟩
theorem Inv.butNew {ch:List Addr} {h':Heap} {tk:Nat} {T:Addr} {o:HO} (I:Inv X pins σ H s) (hf:∀ b∈ch,FpOk X pins H b) (k:∀ b o,b ∉ ch→s.heap.get? b=some o→h'.get? b=some o) (hT:s.heap.get? T=none) (hn:H T=none)
    (new:ObjOk X.prog X.w (upd H T o) h' T o):Inv X pins σ (upd H T o) { s with heap:=h',toks:=tk }:=
  I.call' (s':={ s with heap:=h',toks:=tk }) rfl (un_trackN (un_but k) hT hn) (hok_track (hok_but I.hok (fun b hb=>(hf b hb).1) k) hn new) I.bare fun b hb=>⟨(hf b hb).2.2.2.1,(hf b hb).2.1,(hf b hb).2.2.2.2.1,(hf b hb).2.2.2.2.2⟩
end
noncomputable def Itz (K:PySem.W.Frag) (t1 t2:Bool) (a b:Addr):It:=
  ⟨fun i H=>∃ xs ys x y,SqX K t1 H a xs∧SqX K t2 H b ys∧xs[i]?=some x∧ys[i]?=some y,
   fun i H v H'=>∃ p,H p=none∧v=.ref p∧∀ xs ys,SqX K t1 H a xs→SqX K t2 H b ys→∃ x y,xs[i]?=some x∧ys[i]?=some y∧H'=upd H p (.tup [x,y]),
   fun i H=>∃ xs ys,SqX K t1 H a xs∧SqX K t2 H b ys∧(xs.length≤i∨ys.length≤i)⟩
theorem turn_zip {P:Program} {w:World} {K:PySem.W.Frag} {elts:List Expr} {kk:Nat} {pos:Pos} (t1 t2:Bool) (a b z TI TO i1 i2:Addr) (D:ZipApart z TI TO i1 i2 a b) :
    Turn P w K (.Tuple elts kk pos) (Itz K t1 t2 a b) [z,TI,TO,i1,i2] z (fun i h=>IsZip h z TI TO .none∧IsPair h TI (.ref i1) (.ref i2)∧(∃ u v,IsPair h TO u v)∧ItX t1 h i1 a i∧ItX t2 h i2 b i) where
  mem:=by simp
  obj:=fun i h st c hc=>by
    obtain ⟨s1,s2,⟨u,v,s3⟩,⟨o4,s4,_,d4⟩,⟨o5,s5,_,d5⟩⟩:=st
    simp only [List.mem_cons,List.not_mem_nil,or_false] at hc
    rcases hc with rfl | rfl | rfl | rfl | rfl
    · exact ⟨_,s1,fun v q=>nomatch q⟩
    · exact ⟨_,s2,fun v q=>nomatch q⟩
    · exact ⟨_,s3,fun v q=>nomatch q⟩
    · exact ⟨_,s4,fun v q=>by rw [d4] at q; cases q⟩
    · exact ⟨_,s5,fun v q=>by rw [d5] at q; cases q⟩
  keep:=fun i h h' st k=>by
    obtain ⟨s1,s2,⟨u,v,s3⟩,s4,s5⟩:=st
    exact ⟨k z (by simp) _ s1,k TI (by simp) _ s2,⟨u,v,k TO (by simp) _ s3⟩,s4.at fun o e=>k i1 (by simp) o e,s5.at fun o e=>k i2 (by simp) o e⟩
  item:=by
    intro X hP hw hK hc i pins s σ H E I hf st hg
    subst hP hw hK
    obtain ⟨s1,s2,⟨u,v,s3⟩,s4,s5⟩:=st
    obtain ⟨xs,ys,x,y,hx,hy,ex,ey⟩:=hg
    obtain ⟨us,ru,pu⟩:=I.seqX hx
    obtain ⟨ws,rw',pw⟩:=I.seqX hy
    obtain ⟨xu,hxu,rxu⟩:=ru.get ex
    obtain ⟨yw,hyw,ryw⟩:=rw'.get ey
    have k1:i<us.toArray.size:=by rw [List.size_toArray]; exact (List.getElem?_eq_some_iff.mp hxu).1
    have k2:i<ws.toArray.size:=by rw [List.size_toArray]; exact (List.getElem?_eq_some_iff.mp hyw).1
    have e1:us.toArray.getD i .none=xu:=by
      have:=List.getElem?_eq_some_iff.mp hxu
      obtain ⟨l,e⟩:=this
      simp [Array.getD,l,e]
    have e2:ws.toArray.getD i .none=yw:=by
      have:=List.getElem?_eq_some_iff.mp hyw
      obtain ⟨l,e⟩:=this
      simp [Array.getD,l,e]
    have hT:s.TypeIs (.ref z) "zip" := ⟨_,s1,rfl⟩
    have q4:i1<s.heap.objs.size:=by obtain ⟨o,e,_⟩:=s4; exact Heap.lt_size e
    have q5:i2<s.heap.objs.size:=by obtain ⟨o,e,_⟩:=s5; exact Heap.lt_size e
    unfold pyNext
    refine wpAny_bind (wpAny_attempt (wpAny_callSpecial?_slot (name:=Str.ofString "__next__") hT F.slot_zip_next (wpAny_call_entry F.slot_zip_next hT F.entry_zip_next
      (zipS_item D (src_x D.l1i1 us.toArray) (src_x D.l2i2 ws.toArray) s1 s2 s3 ⟨s4,pu⟩ ⟨s5,pw⟩ k1 k2 q4 q5 pu.lt pw.lt fun h' a1 a2 a3 a4 a5 a6=>wpAny_pure ?_) (F.args_zip_next_1 _))))
    rw [e1,e2] at a2 a5
    refine ⟨_,rfl,wpAny_letOwnedTupleGo_zip (s:={ s with heap:=h' }) a1 fun h'' b1 sb=>?_⟩
    have hTs:s.heap.get? s.heap.objs.size=none:=by
      cases q:s.heap.get? s.heap.objs.size with
      | none=>rfl
      | some o=>exact absurd (Heap.lt_size q) (Nat.lt_irrefl _)
    have hTf:H s.heap.objs.size=none:=I.hok.fresh (Nat.le_refl _)
    have hTz:s.heap.objs.size≠z:=Nat.ne_of_gt (Heap.lt_size s1)
    have tup:h''.get? s.heap.objs.size=some { cls:=.type "tuple",data:=.seq #[xu,yw] }:=sb.extBut _ _ hTz a5
    have kk:∀ c o,c ∉ [z,TI,TO,i1,i2]→s.heap.get? c=some o→h''.get? c=some o:=fun c o hc e=>by
      simp only [List.mem_cons,List.not_mem_nil,or_false,not_or] at hc
      exact sb.extBut _ _ hc.1 (a6 c o hc.1 hc.2.2.1 hc.2.2.2.1 hc.2.2.2.2 e)
    have new:ObjOk X.prog X.w (upd H s.heap.objs.size (.tup [x,y])) h'' s.heap.objs.size (.tup [x,y]):=⟨(by show 2≤sizeLine; decide),[xu,yw],.cons rxu (.cons ryw .nil),⟨_,tup,rfl,_,rfl⟩⟩
    refine ⟨.ref s.heap.objs.size,upd H s.heap.objs.size (.tup [x,y]),I.butNew (tk:=s.toks) hf kk hTs hTf new,rfl,⟨s.heap.objs.size,hTf,rfl,fun xs' ys' hx' hy'=>?_⟩,⟨b1,?_,⟨_,_,sb.extBut _ _ D.TOz a2⟩,a3.1.at fun o e=>sb.extBut _ _ D.i1z e,a4.1.at fun o e=>sb.extBut _ _ D.i2z e⟩,fun c hc=>?_⟩
    · rw [I.seqX_inj hx' hx,I.seqX_inj hy' hy]
      exact ⟨x,y,ex,ey,rfl⟩
    · exact sb.extBut _ _ D.TIz (a6 _ _ D.TIz D.TITO D.TIi1 D.TIi2 s2)
    · rw [upd_ne]
      · exact (hf c hc).1
      · intro q
        have hlt:c<s.heap.objs.size:=by
          simp only [List.mem_cons,List.not_mem_nil,or_false] at hc
          rcases hc with rfl | rfl | rfl | rfl | rfl
          · exact Heap.lt_size s1
          · exact Heap.lt_size s2
          · exact Heap.lt_size s3
          · exact q4
          · exact q5
        rw [q] at hlt
        exact absurd hlt (Nat.lt_irrefl _)
  done:=by
    intro X hP hw hK hc i pins s σ H E I hf st hg
    subst hP hw hK
    obtain ⟨s1,s2,⟨u,v,s3⟩,s4,s5⟩:=st
    obtain ⟨xs,ys,hx,hy,hend⟩:=hg
    obtain ⟨us,ru,pu⟩:=I.seqX hx
    obtain ⟨ws,rw',pw⟩:=I.seqX hy
    have hend':us.toArray.size≤i∨ws.toArray.size≤i:=by
      have l1:=ru.length
      have l2:=rw'.length
      rw [List.size_toArray,List.size_toArray]
      omega
    have hT:s.TypeIs (.ref z) "zip" := ⟨_,s1,rfl⟩
    unfold pyNext
    refine wpAny_bind (wpAny_attempt (wpAny_callSpecial?_slot (name:=Str.ofString "__next__") hT F.slot_zip_next (wpAny_call_entry F.slot_zip_next hT F.entry_zip_next
      (zipS_end (by exact I.ok.hd hc) D (src_x D.l1i1 us.toArray) (src_x D.l2i2 ws.toArray) s1 s2 s3 ⟨s4,pu⟩ ⟨s5,pw⟩ hend' fun h' e kk he=>?_) (F.args_zip_next_1 _))))
    obtain ⟨o,ho,hcl⟩:=he
    refine wpAny_bind (wpAny_isInstance (T := "StopIteration") (b:=true) ⟨o,ho,hcl⟩ isSubtype_stop ?_)
    refine wpAny_pure ⟨rfl,I.but (tk:=s.toks) hf fun c ob hcc eb=>?_⟩
    simp only [List.mem_cons,List.not_mem_nil,or_false,not_or] at hcc
    exact kk c ob hcc.1 hcc.2.2.1 hcc.2.2.2.1 hcc.2.2.2.2 eb
  self:=fun _ _ _ _ _ st h=>wpAny_pyIter_zip st.1 h
theorem ne_addr {a b:Nat} (h:a≠b):@Ne Addr a b:=h
theorem zip_apart {n l1 l2:Nat} (h1:l1<n) (h2:l2<n):ZipApart (n+4) (n+2) (n+3) n (n+1) l1 l2:=
  ⟨ne_addr (by omega),ne_addr (by omega),ne_addr (by omega),ne_addr (by omega),ne_addr (by omega),ne_addr (by omega),ne_addr (by omega),ne_addr (by omega),ne_addr (by omega),ne_addr (by omega),ne_addr (by omega),ne_addr (by omega),ne_addr (by omega),ne_addr (by omega),ne_addr (by omega),ne_addr (by omega),ne_addr (by omega),ne_addr (by omega)⟩
theorem boot_zip:bootBuiltins "zip" = some (.type "zip"):=by decide +kernel
section
variable {X:Cx}
noncomputable def iZip (K:PySem.W.Frag) (ta:TA):TI:=fun σ H R=>ta σ H fun vs H1=>∃ a b xs ys t1 t2,vs=[.ref a,.ref b]∧SqX K t1 H1 a xs∧SqX K t2 H1 b ys∧R (Itz K t1 t2 a b) H1
theorem pi_zip {a b:Expr} {ta:TA} {p pos:Pos} {elts:List Expr} {kk:Nat} {tp:Pos} (hg:Gl X "zip") (hm:X.mg "zip" = none) (ha:PA X [a,b] ta) (hs:starEach [a,b] X.env=[(false,eval a X.env),(false,eval b X.env)]:=by rfl)
    (hs2:starEach [b] X.env=[(false,eval b X.env)]:=by rfl):PI X (.Tuple elts kk tp) (.Call (.Name "zip" p) [a,b] [] pos) (iZip X.K ta):=by
  intro pins s σ H R I h
  refine Call_ (ld_blt I hg hm boot_zip (PyProof.Rows.callWith_type1 (thn (ha pos pins s σ H _ I h) fun us s1 ⟨vs,H1,I1,r1,q1⟩=>?_) (by rw [hs,hs2]) (by rw [hs2]; rfl)))
  obtain ⟨l1,l2,xs,ys,t1,t2,rfl,hx,hy,q⟩:=q1
  obtain ⟨u,v,rfl,ru,rv⟩:=vals2 r1
  cases (show u=Value.ref l1 from ru)
  cases (show v=Value.ref l2 from rv)
  obtain ⟨us,_,pu⟩:=I1.seqX hx
  obtain ⟨ws,_,pw⟩:=I1.seqX hy
  have w1:=pu.lt
  have w2:=pw.lt
  refine call_zx pu pw fun h' a1 a2 a3 a4 a5 kp=>?_
  have I2:Inv X pins σ H1 { s1 with heap:=h' }:=I1.kept (t':=s1.toks) kp
  refine wpAny_pyIter_zip (s:={ s1 with heap:=h' }) a1 ?_
  generalize hn:s1.heap.objs.size=n at a1 a2 a3 a4 a5 w1 w2
  have D:ZipApart (n+4) (n+2) (n+3) n (n+1) l1 l2:=by
    exact zip_apart w1 w2
  refine ⟨n+4,[n+4,n+2,n+3,n,n+1],_,_,H1,rfl,I2,turn_zip t1 t2 l1 l2 (n+4) (n+2) (n+3) n (n+1) D,⟨a1,a2,⟨_,_,a3⟩,a4,a5⟩,fun c hc=>?_,q⟩
  have hle:s1.heap.objs.size≤c:=by
    rw [hn]
    simp only [List.mem_cons,List.not_mem_nil,or_false] at hc
    rcases hc with rfl | rfl | rfl | rfl | rfl
    · exact Nat.le_add_right _ _
    · exact Nat.le_add_right _ _
    · exact Nat.le_add_right _ _
    · exact Nat.le_refl _
    · exact Nat.le_add_right _ _
  exact I1.fpOk hle (I1.hok.fresh hle)
theorem qi_zip {a b:Expr} {ta:TA} {p pos:Pos} {elts:List Expr} {kk:Nat} {tp:Pos} (hg:Gl X "zip") (hm:X.mg "zip" = none) (ha:QA X [a,b] ta) (hs:noStar a=true:=by rfl) (hs2:noStar b=true:=by rfl) :
    QI X (.Tuple elts kk tp) (.Call (.Name "zip" p) [a,b] [] pos) (iZip X.K ta):=⟨pi_zip hg hm ha.h (by rw [star_cons hs,star_cons hs2]; rfl) (star_cons hs2)⟩
end
end L2
namespace L2
open PySem PySem.Spec PyProof.Rows
noncomputable def blkB (scope:Scope) (env:Env) (cl:List (Str×Addr)) (own:List Str):Bool:=
  scope.kind == .function&&scope.names.all (fun y=>y.2 != .cell)&&blkOk scope env cl own&&scope.names.all (fun y=>y.2 != .local||scope.names.lookup y.1 == some .local)
theorem blk_mk {X:Cx} {scope:Scope} {cl:List (Str×Addr)} {own:List Str} (clos:closureFor scope X.env=pure cl) (cap:CapAll X.env cl:=by first | exact True.intro | exact ⟨rfl,True.intro⟩ | exact ⟨rfl,rfl,True.intro⟩ | exact ⟨rfl,rfl,rfl,True.intro⟩ | exact ⟨rfl,rfl,rfl,rfl,True.intro⟩)
    (ok:blkB scope X.env cl own=true:=by rfl):Blk X scope cl own:=by
  unfold blkB at ok
  simp only [Bool.and_eq_true] at ok
  obtain ⟨⟨⟨h1,h2⟩,h3⟩,h4⟩:=ok
  refine ⟨beq_iff_eq.mp h1,fun y hy e=>?_,cap,h3,clos,fun y hy e=>?_⟩
  · have:=List.all_eq_true.mp h2 y hy
    rw [e] at this
    cases this
  · have:=List.all_eq_true.mp h4 y hy
    rw [e] at this
    simpa using this
section
variable {X:Cx} (K:PySem.W.Frag) (hK:X.K=K)
include hK
end
noncomputable def CstT (K:PySem.W.Frag) (a:Addr) (xs:List V):Prop:=∀ H,SqT K H a xs
theorem cstT {K:PySem.W.Frag} {a:Addr} {xs:List V} {d:Option Addr} {its:Array Value} {n:Nat} {sl:Array (Option Value)} (h:K.lookup a=some ⟨.type "tuple",d,.seq its n,sl⟩) (hz:its.size≤sizeLine) (r:Vals xs its.toList):CstT K a xs:=
  fun _=>.inr ⟨_,its,n,h,rfl,rfl,hz,r⟩
end L2
namespace L2
open PySem PySem.Spec PyProof.Rows
open Builtin Builtin.Str
section
variable {X:Cx}
theorem vals_str:∀ {ts:List Str} {its:List Value},Vals (ts.map V.str) its→∃ l:List (Str×Tok),its=strValues l∧l.map (·.1)=ts
  | [],_,.nil=>⟨[],rfl,rfl⟩
  | t::ts,_,.cons r rr=>by
    obtain ⟨k,e⟩:=(show ∃ k,_=Value.str t k from r)
    obtain ⟨l,e1,e2⟩:=vals_str rr
    subst e e1
    exact ⟨(t,k)::l,rfl,by rw [List.map_cons,e2]⟩
noncomputable def rJoin (K:PySem.W.Frag):V→List V→Hp→VK→Prop:=fun x vs H Q=>∃ (sep:Str) (p:Addr) (ts:List Str),x=.str sep∧vs=[.ref p]∧SqL K H p (ts.map V.str)∧(ts.map (·.length)).sum+ts.length*sep.length≤sizeLine∧Q (.str (glued sep ts)) H
theorem glued_len (sep:Str):∀ ts:List Str,(glued sep ts).length≤(ts.map (·.length)).sum+ts.length*sep.length
  | []=>by show (Str.length _)≤_; simp [glued,Str.length,Str.empty]
  | t::ts=>by
    have h:∀ (us:List Str) (a:Array Nat),(us.foldl (fun acc p=>acc++sep.cps++p.cps) a).size=a.size+(us.map (·.length)).sum+us.length*sep.length:=fun us=>by
      induction us with
      | nil=>intro a; simp
      | cons u us ih=>
        intro a
        rw [List.foldl_cons,ih]
        simp only [Array.size_append,List.map_cons,List.sum_cons,List.length_cons,Nat.succ_mul,Str.length]
        omega
    show (ts.foldl (fun acc p=>acc++sep.cps++p.cps) t.cps).size≤_
    rw [h]
    simp only [List.map_cons,List.sum_cons,List.length_cons,Nat.succ_mul,Str.length]
    omega
theorem mt_join:MtR X "str.join" (rJoin X.K):=by
  intro pins s σ H x vs v us Q I rx rv h
  obtain ⟨sep,p,ts,rfl,rfl,hq,hz,q⟩:=h
  obtain ⟨t,rfl⟩:=(show ∃ t,v=Value.str sep t from rx)
  obtain ⟨u,rfl,ru⟩:=vals1 rv
  cases (show u=Value.ref p from ru)
  obtain ⟨its,r,pl,_⟩:=I.list hq
  obtain ⟨l,rfl,el⟩:=vals_str r
  have hT:s.TypeIs (.ref p) "list" := pl.isList.typeIs
  obtain ⟨o,ho,hc,n,hd⟩:=pl.isList
  have hno:tooLong ((l.map (·.1)).toArray.foldl (·+·.length+sep.length) 0)=false:=by
    rw [el,StrLaws.joinTotal]
    unfold tooLong
    exact decide_eq_false (by omega)
  have fit:(glued sep ts).length≤sizeLine:=Nat.le_trans (glued_len sep ts) hz
  refine wpAny_call (codeAny_call_builtin F.slot_str_join.plain F.entry_str_join (F.slot_str_join.check _ _ _ _ _ _ _ _ (typeIs_str _ _ _) (F.args_str_join_2 _ _) ?_))
  obtain ⟨other,e⟩:=join_tree sep t p
  rw [e]
  refine wpAny_bind (wpAny_typeOf hT ?_)
  rw [if_pos (by decide)]
  refine wpAny_bind (wpAny_seqItems ho hd ?_)
  show wpAny _ _ (joinTail sep (strValues l)) _ _ _
  rcases l with _ | ⟨a,_ | ⟨b,c⟩⟩
  · subst el
    exact gives_joinTail sep [] hno X.prog X.w _ (fun r s'=>match r with | .ok (.ret v)=>EP X pins σ Q v s' | .ok _=>False | .error e=>X.xe e s') s ⟨fit,.str _,H,I.tok _,⟨_,rfl⟩,q⟩
  · subst el
    exact gives_joinTail sep [a] hno X.prog X.w _ (fun r s'=>match r with | .ok (.ret v)=>EP X pins σ Q v s' | .ok _=>False | .error e=>X.xe e s') s ⟨.str _,H,I,⟨_,rfl⟩,q⟩
  · subst el
    exact gives_joinTail sep (a::b::c) hno X.prog X.w _ (fun r s'=>match r with | .ok (.ret v)=>EP X pins σ Q v s' | .ok _=>False | .error e=>X.xe e s') s ⟨fit,.str _,H,I.tok _,⟨_,rfl⟩,q⟩
end
noncomputable def Its (z:Str):It:=⟨fun i _=>i<z.length,fun i H x H'=>H'=H∧∃ c,z.cps[i]?=some c∧x=.str ⟨#[c]⟩,fun i _=>z.length≤i⟩
section
variable {X:Cx} {tg:Expr}
noncomputable def iStr (te:TE):TI:=fun σ H R=>te σ H fun x H1=>∃ z,x=.str z∧R (Its z) H1
theorem turn_str {P:Program} {w:World} {K:PySem.W.Frag} {it:Addr} {z:Str} {t:Tok} {ty:String} (hty:ty = "str_ascii_iterator" ∨ ty = "str_iterator"):Turn P w K tg (Its z) [it] it (fun i h=>h.IsStrIter it ty z t i∧i≤z.length) where
  mem:=by simp
  obj:=fun i h st b hb=>by
    have e:b=it:=by simpa using hb
    subst e
    obtain ⟨⟨o,e,c,d⟩,_⟩:=st
    exact ⟨o,e,fun v z=>by rw [d] at z; cases z⟩
  keep:=fun i h h' st k=>⟨let ⟨o,ho,r⟩:=st.1; ⟨o,k it (by simp) o ho,r⟩,st.2⟩
  item:=by
    intro X hP hw hK hc i pins s σ H E I hf st hg
    subst hP hw hK
    obtain ⟨f0,f1,f2,f3,f4,f5⟩:=hf it (by simp)
    have hg':i<z.cps.size:=hg
    have hx:z.cps[i]?=some z.cps[i]:=by simp [hg']
    have go:∀ h' tk (u:Value),(∃ t',u=Value.str ⟨#[z.cps[i]]⟩ t')→h'.IsStrIter it ty z t (i+1)→Heap.SameBut it s.heap h'→∃ v,some u=some v∧
        wpAny (model X.prog X.w) X.A (letOwnedTupleGo tg (.ref it) v) (fun _ s2=>∃ x H',Inv X pins σ H' s2∧RelV x v∧(Its z).yld i H x H'∧(s2.heap.IsStrIter it ty z t (i+1)∧i+1≤z.length)∧∀ b∈[it],H' b=none) E { s with heap:=h',toks:=tk }:=fun h' tk u hu st' sb=>by
      obtain ⟨t',rfl⟩:=hu
      have I1:Inv X pins σ H { s with heap:=h',toks:=tk }:=I.turned (fun b o hb e=>(sb.2 b hb).trans e) f0 f1 f3 f4 f5
      obtain ⟨o,e,c,d⟩:=id st'
      exact ⟨_,rfl,go_of (s:={ s with heap:=h',toks:=tk }) e c d (by rcases hty with rfl | rfl<;>decide) ⟨.str ⟨#[z.cps[i]]⟩,H,I1,⟨t',rfl⟩,⟨rfl,_,hx,rfl⟩,⟨st',hg⟩,fun b hb=>(hf b hb).1⟩⟩
    rcases hty with rfl | rfl
    · exact wpAny_pyNext_ascii_item st.1 hx fun h' st' sb=>go h' _ _ ⟨_,rfl⟩ st' sb
    · exact wpAny_pyNext_wide_item st.1 hx fun h' st' sb=>go h' _ _ ⟨_,rfl⟩ st' sb
  done:=by
    intro X hP hw hK hc i pins s σ H E I hf st hg
    subst hP hw hK
    obtain ⟨f0,f1,f2,f3,f4,f5⟩:=hf it (by simp)
    have hx:z.cps[i]?=none:=Array.getElem?_eq_none hg
    rcases hty with rfl | rfl
    · exact wpAny_pyNext_ascii_end (I.ok.hd hc) st.1 hx fun h' eb=>⟨rfl,I.turned (t':=s.toks) (fun b o hb e=>eb b o hb e) f0 f1 f3 f4 f5⟩
    · exact wpAny_pyNext_wide_end (I.ok.hd hc) st.1 hx fun h' eb=>⟨rfl,I.turned (t':=s.toks) (fun b o hb e=>eb b o hb e) f0 f1 f3 f4 f5⟩
  self:=fun _ _ _ _ _ st h=>by
    rcases hty with rfl | rfl
    · exact wpAny_pyIter_striter_ascii st.1 h
    · exact wpAny_pyIter_striter_wide st.1 h
theorem pi_str {e:Expr} {te:TE} (he:PE X e te):PI X tg e (iStr te):=by
  intro pins s σ H R I h
  refine thn (he pins s σ H _ I h) fun v s1 ⟨x,H1,I1,r1,q1⟩=>?_
  obtain ⟨z,rfl,q⟩:=q1
  obtain ⟨t,rfl⟩:=(show ∃ t,v=Value.str z t from r1)
  have fin:∀ (ty:String),(ty = "str_ascii_iterator" ∨ ty = "str_iterator")→∀ o:Obj,(s1.heap.push o).IsStrIter s1.heap.objs.size ty z t 0→PIE X pins σ tg R (.ref s1.heap.objs.size) { s1 with heap:=s1.heap.push o }:=fun ty hty o st=>
    ⟨s1.heap.objs.size,[s1.heap.objs.size],_,_,H1,rfl,I1.kept (t':=s1.toks) fun b o e=>Heap.get?_push_of_some _ e,turn_str hty,⟨st,Nat.zero_le _⟩,fun b hb=>by
      have e:b=s1.heap.objs.size:=by simpa using hb
      subst e
      exact I1.fpOk (Nat.le_refl _) (I1.hok.fresh (Nat.le_refl _)),q⟩
  cases ha:z.cps.all (·<128)
  · exact wpAny_pyIter_wide ha (fin _ (.inr rfl) _ ⟨_,Heap.get?_push_size _ rfl,rfl,rfl⟩)
  · exact wpAny_pyIter_ascii ha (fin _ (.inl rfl) _ ⟨_,Heap.get?_push_size _ rfl,rfl,rfl⟩)
end
end L2
namespace L2
open PySem PySem.Spec PyProof.Rows
open Builtin Builtin.Str
noncomputable def cutS (z:Str) (lo hi:Option Int):Str:=⟨((z.cps.toList.drop (HT.sIx z.length 0 lo)).take (HT.sIx z.length z.length hi - HT.sIx z.length 0 lo)).toArray⟩
theorem clip_lo (n:Nat) (lo:Option Int):(match lo with | none=>(0:Int) | some i=>max 0 (min (if i<0 then i+(n:Int) else i) (n:Int)))=((HT.sIx n 0 lo:Nat):Int)∨∃ i,lo=some i∧i<0∧(n:Int)<i+n:=by
  cases lo with
  | none=>left; rfl
  | some i=>
    left
    show max 0 (min (if i<0 then i+(n:Int) else i) (n:Int))=(((if i<0 then (i+(n:Int)).toNat else min i.toNat n):Nat):Int)
    by_cases h:i<0
    · simp only [h,if_true]; omega
    · simp only [h,if_false]; omega
theorem clip_hi (n:Nat) (hi:Option Int):(match hi with | none=>(n:Int) | some i=>max 0 (min (if i<0 then i+(n:Int) else i) (n:Int)))=((HT.sIx n n hi:Nat):Int):=by
  cases hi with
  | none=>rfl
  | some i=>
    show max 0 (min (if i<0 then i+(n:Int) else i) (n:Int))=(((if i<0 then (i+(n:Int)).toNat else min i.toNat n):Nat):Int)
    by_cases h:i<0
    · simp only [h,if_true]; omega
    · simp only [h,if_false]; omega
theorem clip_lo' (n:Nat) (lo:Option Int):(match lo with | none=>(0:Int) | some i=>max 0 (min (if i<0 then i+(n:Int) else i) (n:Int)))=((HT.sIx n 0 lo:Nat):Int):=by
  rcases clip_lo n lo with h | ⟨i,_,h1,h2⟩
  · exact h
  · omega
theorem picks_eq (z:Str) (lo hi:Option Int):(strSliceIndices lo hi 1 z.length)=(List.range (HT.sIx z.length z.length hi - HT.sIx z.length 0 lo)).map (HT.sIx z.length 0 lo+·):=by
  have h1:=clip_lo' z.length lo
  have h2:=clip_hi z.length hi
  rw [← sliceRange_one,← h1,← h2]
  unfold strSliceIndices
  simp only [show (1:Int) > 0 by decide,if_true]
  cases lo<;>cases hi<;>rfl
theorem cut_eq (z:Str) (lo hi:Option Int):(⟨((strSliceIndices lo hi 1 z.length).filterMap (z.cps[·]?)).toArray⟩:Str)=cutS z lo hi:=by
  rw [picks_eq,pick_run]
  rfl
theorem sIx_le (n d:Nat) (hd:d≤n) (v:Option Int):HT.sIx n d v≤n:=by
  cases v with
  | none=>exact hd
  | some i=>
    show (if i<0 then (i+(n:Int)).toNat else min i.toNat n)≤n
    by_cases h:i<0
    · simp only [h,if_true]; omega
    · simp only [h,if_false]; omega
theorem cut_whole (z:Str) (lo hi:Option Int) (h:(strSliceIndices lo hi 1 z.length).length=z.length):cutS z lo hi=z:=by
  rw [picks_eq,List.length_map,List.length_range] at h
  have a:=sIx_le z.length 0 (Nat.zero_le _) lo
  have b:=sIx_le z.length z.length (Nat.le_refl _) hi
  unfold cutS
  rw [h]
  have hz:HT.sIx z.length 0 lo=0∨z.length=0:=by omega
  have hl:z.cps.toList.length=z.length:=by simp [Str.length]
  rcases hz with q | q
  · rw [q,List.drop_zero,← hl,List.take_length]
  · have e:z.cps.toList=[]:=List.eq_nil_of_length_eq_zero (by omega)
    rw [e]
    simp
    cases z with
    | mk c=>simp [Str.length] at q; simp [q]
theorem cut_len (z:Str) (lo hi:Option Int):(cutS z lo hi).length≤z.length:=by
  show (List.toArray _).size≤z.cps.size
  rw [List.size_toArray,List.length_take,List.length_drop,Array.length_toList]
  omega
section
variable {X:Cx}
theorem part_of {v:Value} {lo:Option Int} (h:IsPart v lo):∃ l:Option (Int×Tok),v=partValue l∧l.map (·.1)=lo:=by
  cases h with
  | none=>exact ⟨none,rfl,rfl⟩
  | int i t=>exact ⟨some (i,t),rfl,rfl⟩
noncomputable def rSlS:V→Option Int→Option Int→Hp→VK→Prop:=fun x lo hi H Q=>∃ z:Str,x=.str z∧z.length≤sizeLine∧Q (.str (cutS z lo hi)) H
theorem sl_str:SlR X rSlS:=by
  intro pins s σ H x v vl vu lo hi sl Q I rx hs pl pu h
  obtain ⟨z,rfl,hz,q⟩:=h
  obtain ⟨t,rfl⟩:=(show ∃ t,v=Value.str z t from rx)
  obtain ⟨l,rfl,rfl⟩:=part_of pl
  obtain ⟨u,rfl,rfl⟩:=part_of pu
  refine ⟨"str",_,F.slot_str_getitem.lookup,typeIs_str _ _ _,?_⟩
  refine wpAny_getItem_str_slice (l:=l) (u:=u) (st:=none) hs rfl ?_
  unfold sliceMade
  have hp:slicePicked z l u none=strSliceIndices (l.map (·.1)) (u.map (·.1)) 1 z.length:=rfl
  rw [hp]
  split
  · rename_i hc
    have e:(strSliceIndices (l.map (·.1)) (u.map (·.1)) 1 z.length).length=z.length:=by
      rw [Bool.and_eq_true] at hc
      exact beq_iff_eq.mp hc.2
    rw [cut_whole z _ _ e] at q
    exact ⟨.str z,H,I,⟨_,rfl⟩,q⟩
  · rw [cut_eq]
    exact ⟨Nat.le_trans (cut_len z _ _) hz,.str _,H,I.tok _,⟨_,rfl⟩,q⟩
end
end L2
namespace L2
open PySem PySem.Spec PyProof.Rows
open Builtin Builtin.Str
section
variable {X:Cx} {e o:Expr} {te to:TE} {pos apos cpos:Pos} {name:Str} {T id:String} {rm:V→List V→Hp→VK→Prop}
end
end L2
namespace L2
open PySem PySem.Spec PyProof.Rows
section
variable {κ:Type} [DecidableEq κ]
noncomputable def valV (kvs:List (κ×V)) (k:κ):Option V:=(kvs.find? fun kv=>decide (kv.1=k)).map (·.2)
noncomputable def putK (kvs:List (κ×V)) (k:κ) (v:V):List (κ×V):=
  if (kvs.any fun kv=>decide (kv.1=k))=true then kvs.map (fun kv=>if kv.1=k then (kv.1,v) else kv) else kvs++[(k,v)]
theorem valV_pos {p:κ×V} {r:List (κ×V)} {k:κ} (e:p.1=k):valV (p::r) k=some p.2:=by simp [valV,List.find?_cons,e]
theorem valV_neg {p:κ×V} {r:List (κ×V)} {k:κ} (e:¬ p.1=k):valV (p::r) k=valV r k:=by simp [valV,List.find?_cons,e]
theorem valV_any (k:κ):∀ kvs:List (κ×V),(kvs.any fun kv=>decide (kv.1=k))=(valV kvs k).isSome
  | []=>rfl
  | p::r=>by
    rw [List.any_cons]
    by_cases e:p.1=k
    · simp only [valV_pos e,decide_eq_true e,Bool.true_or,Option.isSome_some]
    · rw [valV_neg e,decide_eq_false e,Bool.false_or]; exact valV_any k r
theorem length_putK (kvs:List (κ×V)) (k:κ) (v:V):(putK kvs k v).length≤kvs.length+1:=by
  unfold putK
  split
  · rw [List.length_map]; omega
  · rw [List.length_append,List.length_cons,List.length_nil]; omega
theorem RelO.isSome_eq {o:Option V} {u:Option Value} (r:RelO o u):o.isSome=u.isSome:=by
  cases o with
  | none=>cases u with
    | none=>rfl
    | some _=>exact (show False from r).elim
  | some _=>cases u with
    | none=>exact (show False from r).elim
    | some _=>rfl
theorem KV.val {kvs:List (κ×V)} {vs:List (κ×Value)} (r:KV kvs vs) (k:κ):RelO (valV kvs k) (valueAt vs k):=by
  unfold KV at r
  induction r with
  | nil=>exact True.intro
  | @cons p q ps qs h t ih=>
    obtain ⟨h1,h2⟩:=h
    by_cases e:p.1=k
    · have e':q.1=k:=h1.symm.trans e
      have b:valueAt (q::qs) k=some q.2:=by simp [valueAt,List.find?_cons,e']
      rw [valV_pos e,b]; exact h2
    · have e':¬ q.1=k:=fun z=>e (h1.trans z)
      have b:valueAt (q::qs) k=valueAt qs k:=by simp [valueAt,List.find?_cons,e']
      rw [valV_neg e,b]; exact ih
theorem KV.any {kvs:List (κ×V)} {vs:List (κ×Value)} (r:KV kvs vs) (k:κ):(kvs.any fun kv=>decide (kv.1=k))=vs.any fun kv=>decide (kv.1=k):=by
  unfold KV at r
  induction r with
  | nil=>rfl
  | cons h t ih=>rw [List.any_cons,List.any_cons,ih,h.1]
theorem KV.repl {kvs:List (κ×V)} {vs:List (κ×Value)} (r:KV kvs vs) (k:κ) {y:V} {u:Value} (ry:RelV y u) :
    KV (kvs.map fun kv=>if kv.1=k then (kv.1,y) else kv) (vs.map fun kv=>if kv.1=k then (kv.1,u) else kv):=by
  unfold KV at r ⊢
  induction r with
  | nil=>exact .nil
  | @cons p q ps qs h t ih=>
    rw [List.map_cons,List.map_cons]
    refine .cons ?_ ih
    obtain ⟨h1,h2⟩:=h
    by_cases e:p.1=k
    · rw [if_pos e,if_pos (h1.symm.trans e)]; exact ⟨h1,ry⟩
    · rw [if_neg e,if_neg (fun z=>e (h1.trans z))]; exact ⟨h1,h2⟩
theorem KV.put {kvs:List (κ×V)} {vs:List (κ×Value)} (r:KV kvs vs) (k:κ) {y:V} {u:Value} (ry:RelV y u):KV (putK kvs k y) (stored vs k u):=by
  unfold putK stored
  rw [r.any k]
  by_cases e:(vs.any fun kv=>decide (kv.1=k))=true
  · rw [if_pos e,if_pos e]; exact r.repl k ry
  · rw [if_neg e,if_neg e]; exact Paired.snoc r ⟨rfl,ry⟩
theorem KV.length {kvs:List (κ×V)} {vs:List (κ×Value)} (r:KV kvs vs):kvs.length=vs.length:=Paired.length r
end
theorem kV_is {P:Program} {w:World} {k:Key} {u:Value} (r:RelV (kV k) u):(mixKind P w).is k u=true:=by
  cases k with
  | inl i=>obtain ⟨t,e⟩:=(show ∃ t,u=Value.int i t from r); subst e; exact mixKind_int P w i t
  | inr x=>obtain ⟨t,e⟩:=(show ∃ t,u=Value.str x t from r); subst e; exact mixKind_str P w x t
theorem items_are {P:Program} {w:World}:∀ {ks:List Key} {us:List Value},Vals (ks.map kV) us→ItemsAre (mixKind P w) ks us
  | [],_,r=>by rw [List.map_nil] at r; cases r; exact .nil
  | k::ks,_,r=>by
    rw [List.map_cons] at r
    cases r with
    | cons h t=>exact .cons (kV_is h) (items_are t)
noncomputable abbrev KT (H:Hp):List (List Key×V)→List (List Key×Addr×Value)→Prop:=Paired fun p q=>p.1=q.1∧H q.2.1=some (.tup (p.1.map kV))∧RelV p.2 q.2.2
theorem KT.val {H:Hp} {kvs:List (List Key×V)} {xs:List (List Key×Addr×Value)} (r:KT H kvs xs) (k:List Key):RelO (valV kvs k) ((atKey xs k).map (·.2)):=by
  induction r with
  | nil=>exact True.intro
  | @cons p q ps qs h t ih=>
    obtain ⟨h1,_,h2⟩:=h
    by_cases e:p.1=k
    · have e':q.1=k:=h1.symm.trans e
      have b:atKey (q::qs) k=some q.2:=by simp [atKey,List.find?_cons,e']
      rw [valV_pos e,b]; exact h2
    · have e':¬ q.1=k:=fun z=>e (h1.trans z)
      have b:atKey (q::qs) k=atKey qs k:=by simp [atKey,List.find?_cons,e']
      rw [valV_neg e,b]; exact ih
theorem KT.repl {H:Hp} {kvs:List (List Key×V)} {xs:List (List Key×Addr×Value)} (r:KT H kvs xs) (k:List Key) {y:V} {u:Value} (ry:RelV y u) :
    KT H (kvs.map fun kv=>if kv.1=k then (kv.1,y) else kv) (xs.map (putAt k u)):=by
  induction r with
  | nil=>exact .nil
  | @cons p q ps qs h t ih=>
    rw [List.map_cons,List.map_cons]
    refine .cons ?_ ih
    obtain ⟨h1,h2,h3⟩:=h
    unfold putAt
    by_cases e:p.1=k
    · rw [if_pos e,if_pos (h1.symm.trans e)]; exact ⟨h1,h2,ry⟩
    · rw [if_neg e,if_neg (fun z=>e (h1.trans z))]; exact ⟨h1,h2,h3⟩
theorem KT.put {H:Hp} {kvs:List (List Key×V)} {xs:List (List Key×Addr×Value)} (r:KT H kvs xs) (k:List Key) {b:Addr} {y:V} {u:Value} (hb:H b=some (.tup (k.map kV))) (ry:RelV y u) :
    KT H (putK kvs k y) (storedH xs k b u):=by
  have e:(kvs.any fun kv=>decide (kv.1=k))=(atKey xs k).isSome:=by
    rw [valV_any,(r.val k).isSome_eq,Option.isSome_map]
  unfold putK storedH
  rw [e]
  by_cases q:(atKey xs k).isSome=true
  · rw [if_pos q,if_pos q]; exact r.repl k ry
  · rw [if_neg q,if_neg q]; exact Paired.snoc r ⟨rfl,hb,ry⟩
theorem KT.keeps {H H':Hp} {kvs:List (List Key×V)} {xs:List (List Key×Addr×Value)} (r:KT H kvs xs) (ht:∀ b ys,H b=some (.tup ys)→H' b=some (.tup ys)):KT H' kvs xs:=
  Paired.mapP r fun _ _ z=>⟨z.1,ht _ _ z.2.1,z.2.2⟩
section
variable {P:Program} {w:World} {H:Hp} {h:Heap} {a:Addr}
theorem rd_of {u:HO} (ok:HOk P w H h) (e:Rd H a u):ObjOk P w H h a u:=e.ok ok
theorem dk_rd {kvs:List (Key×V)} (ok:HOk P w H h) (e:Rd H a (.dK kvs)):kvs.length≤sizeLine∧(a == sysModules)=false∧∃ vs,KV kvs vs∧h.DictOf (mixKind P w) a vs:=
  show ObjOk P w H h a (.dK kvs) from rd_of ok e
theorem dk_of {kvs:List (Key×V)} (ok:HOk P w H h) (e:H a=some (.dK kvs)):kvs.length≤sizeLine∧(a == sysModules)=false∧∃ vs,KV kvs vs∧h.DictOf (mixKind P w) a vs:=dk_rd ok (.inl e)
theorem key_of {ks:List Key} (ok:HOk P w H h) (e:H a=some (.tup (ks.map kV))):(tupleKind (mixKind P w)).is h ks a:=by
  obtain ⟨_,its,r,o,h1,h2,n,h3⟩:=(show ObjOk P w H h a (.tup (ks.map kV)) from ok a _ e)
  exact ⟨o,its.toArray,n,h1,h2,h3,by simpa using items_are r⟩
theorem dt_rd {kvs:List (List Key×V)} (ok:HOk P w H h) (e:Rd H a (.dT kvs)):kvs.length≤sizeLine∧(a == sysModules)=false∧
    ∃ xs,KT H kvs xs∧h.DictOfH (tupleKind (mixKind P w)) a xs:=by
  obtain ⟨z,y,xs,r,o,es,ep,h1,h2,h3,h4,h5⟩:=(show ObjOk P w H h a (.dT kvs) from rd_of ok e)
  refine ⟨z,y,xs,r,o,es,ep,h1,h2,h3,h4,fun x hx=>?_,h5⟩
  have all:∀ {l:List (List Key×V)} {m:List (List Key×Addr×Value)},KT H l m→∀ x∈m,(tupleKind (mixKind P w)).is h x.1 x.2.1:=by
    intro l m q
    induction q with
    | nil=>intro x hx; exact nomatch hx
    | @cons p q ps qs hq t ih=>
      intro x hx
      rcases List.mem_cons.mp hx with e | hx
      · subst e
        exact key_of ok (by rw [← hq.1]; exact hq.2.1)
      · exact ih x hx
  exact all r x hx
theorem dt_of {kvs:List (List Key×V)} (ok:HOk P w H h) (e:H a=some (.dT kvs)):kvs.length≤sizeLine∧(a == sysModules)=false∧
    ∃ xs,KT H kvs xs∧h.DictOfH (tupleKind (mixKind P w)) a xs:=dt_rd ok (.inl e)
end
noncomputable def DGet (H:Hp) (a:Addr) (y:V) (r:Option V):Prop:=
  (∃ kvs k,Rd H a (.dK kvs)∧y=kV k∧r=valV kvs k)∨∃ kvs k b,Rd H a (.dT kvs)∧y=.ref b∧H b=some (.tup (k.map kV))∧r=valV kvs k
noncomputable def DPut (H:Hp) (a:Addr) (y v:V) (H':Hp):Prop:=
  (∃ kvs k,H a=some (.dK kvs)∧y=kV k∧kvs.length<sizeLine∧H'=upd H a (.dK (putK kvs k v))) ∨
  ∃ kvs k b,H a=some (.dT kvs)∧y=.ref b∧H b=some (.tup (k.map kV))∧kvs.length<sizeLine∧H'=upd H a (.dT (putK kvs k v))
section
variable {X:Cx} {pins:List (Addr×Obj)} {σ:St} {H:Hp} {s:Shared} {a:Addr} {y v:V} {u r:Value} {o:Option V} {A:Around} {E:Value→Shared→Prop}
theorem Inv.big (I:Inv X pins σ H s):sysModules<s.heap.objs.size:=by
  have h:mainGlobals<s.heap.objs.size:=(I.mod.glob.keeps I.bk).lt
  exact Nat.lt_trans (by decide) h
theorem d_in {Q:Value→Shared→Prop} (hu:A.units+1<cLine) (I:Inv X pins σ H s) (g:DGet H a y o) (ry:RelV y u) (h:∀ s',Inv X pins σ H s'→Q (.bool o.isSome) s') :
    wpAny (model X.prog X.w) A (compareOp .In u (.ref a)) Q E s:=by
  rcases g with ⟨kvs,k,e,ey,l⟩ | ⟨kvs,k,b,e,ey,eb,l⟩
  · subst ey
    obtain ⟨z,hd,vs,rel,dd⟩:=dk_rd I.hok e
    refine wpAny_in_of (kV_is ry) hd dd.mapOf ?_
    rw [← (rel.val k).isSome_eq,← l]
    exact h _ (I.tok _)
  · subst ey
    cases (show u=Value.ref b from ry)
    obtain ⟨z,hd,xs,rel,dd⟩:=dt_rd I.hok e
    refine wpAny_in_heap (tupleKind_room_in1 hu) (key_of I.hok eb) hd dd ?_
    have q:=(rel.val k).isSome_eq
    rw [Option.isSome_map] at q
    rw [← q,← l]
    exact h _ (I.tok _)
theorem d_notIn {Q:Value→Shared→Prop} (hu:A.units+1<cLine) (I:Inv X pins σ H s) (g:DGet H a y o) (ry:RelV y u) (h:∀ s',Inv X pins σ H s'→Q (.bool (!o.isSome)) s') :
    wpAny (model X.prog X.w) A (compareOp .NotIn u (.ref a)) Q E s:=by
  rcases g with ⟨kvs,k,e,ey,l⟩ | ⟨kvs,k,b,e,ey,eb,l⟩
  · subst ey
    obtain ⟨z,hd,vs,rel,dd⟩:=dk_rd I.hok e
    refine wpAny_notIn_of (kV_is ry) hd dd.mapOf ?_
    rw [← (rel.val k).isSome_eq,← l]
    exact h _ (I.tok _)
  · subst ey
    cases (show u=Value.ref b from ry)
    obtain ⟨z,hd,xs,rel,dd⟩:=dt_rd I.hok e
    refine wpAny_notIn_heap (tupleKind_room_in1 hu) (key_of I.hok eb) hd dd ?_
    have q:=(rel.val k).isSome_eq
    rw [Option.isSome_map] at q
    rw [← q,← l]
    exact h _ (I.tok _)
theorem d_write {h':Heap} {t':Nat} {ob:HO} (I:Inv X pins σ H s) (mu:Mut (H a)) (hs:Heap.SameBut a s.heap h') (he:∃ q,h'.get? a=some q) (new:ObjOk X.prog X.w (upd H a ob) h' a ob) :
    Inv X pins σ (upd H a ob) { s with heap:=h',toks:=t' }:=
  I.write (x:=a) (e:=a) mu (.inl rfl) (fun b q hb z=>(hs.2 b hb).trans z) he new
theorem dk_new {P:Program} {w:World} {H':Hp} {h':Heap} {kvs:List (Key×V)} {vs:List (Key×Value)} (z:kvs.length≤sizeLine) (hd:(a == sysModules)=false) (rel:KV kvs vs) (dd:h'.DictOf (mixKind P w) a vs) :
    ObjOk P w H' h' a (.dK kvs):=⟨z,hd,vs,rel,dd⟩
theorem d_setItem {H':Hp} {Q:Unit→Shared→Prop} (hu:A.units+1<cLine) (I:Inv X pins σ H s) (g:DPut H a y v H') (ry:RelV y u) (rv:RelV v r) (h:∀ s',Inv X pins σ H' s'→Q () s') :
    wpAny (model X.prog X.w) A (setItem (.ref a) u r) Q E s:=by
  rcases g with ⟨kvs,k,e,ey,l,eH⟩ | ⟨kvs,k,b,e,ey,eb,l,eH⟩
  · subst ey eH
    obtain ⟨z,hd,vs,rel,dd⟩:=dk_of I.hok e
    have hz:vs.length≤sizeLine:=by rw [← rel.length]; exact z
    have hl:(putK kvs k v).length≤sizeLine:=by have:=length_putK kvs k v; omega
    refine wpAny_setItem_pairs (hsz:=hz) (kV_is ry) dd fun h' dd' hs=>h _ ?_
    have he:∃ q,h'.get? a=some q:=let ⟨q,_,_,hq,_⟩:=dd'; ⟨q,hq⟩
    exact d_write I (by rw [e]; exact True.intro) hs he (dk_new hl hd (rel.put k rv) dd')
  · subst ey eH
    cases (show u=Value.ref b from ry)
    obtain ⟨z,hd,xs,rel,dd⟩:=dt_of I.hok e
    have hz:xs.length≤sizeLine:=by rw [← Paired.length rel]; exact z
    have hl:(putK kvs k v).length≤sizeLine:=by have:=length_putK kvs k v; omega
    refine wpAny_setItem_heap (hsz:=hz) (tupleKind_room_in1 hu) (key_of I.hok eb) dd fun h' dd' hs=>h _ ?_
    obtain ⟨q,es,ep,hq,h2,h3,h4,_,h5⟩:=dd'
    refine d_write I (by rw [e]; exact True.intro) hs ⟨q,hq⟩ ⟨hl,hd,_,(rel.put k eb rv).keeps fun c ys ec=>?_,q,es,ep,hq,h2,h3,h4,h5⟩
    rw [upd_ne (ne_of ec e (fun z=>nomatch z))]
    exact ec
end
section
variable {X:Cx} {pins:List (Addr×Obj)} {σ:St} {H:Hp} {s:Shared} {a:Addr} {kvs:List (Key×V)} {k:Key} {u:Value} {A:Around} {E:Value→Shared→Prop}
end
theorem dict_typeIs {X:Cx} {pins:List (Addr×Obj)} {σ:St} {H:Hp} {s:Shared} {a:Addr} {y:V} {o:Option V} (I:Inv X pins σ H s) (g:DGet H a y o):s.TypeIs (.ref a) "dict" := by
  rcases g with ⟨kvs,k,e,_,_⟩ | ⟨kvs,k,b,e,_,_,_⟩
  · obtain ⟨_,_,vs,_,dd⟩:=dk_rd I.hok e
    exact dd.typeIs
  · obtain ⟨_,_,xs,_,dd⟩:=dt_rd I.hok e
    exact dd.typeIs
noncomputable def sDPut (td ty tv:TE):TS:=fun D σ H=>tv σ H fun v H1=>td σ H1 fun x H2=>ty σ H2 fun y H3=>∃ a H4,x=.ref a∧DPut H3 a y v H4∧D.nx σ H4
section
variable {X:Cx} {o i e value:Expr} {pos pos' tpos:Pos} {td ty tv:TE}
theorem ps_dput (hu:X.A.units+1<cLine) (ho:PE X o td) (hi:PE X i ty) (hv:PE X value tv) (hs:swapsWith value (some (.Subscript o i pos')) pos.line X.env=pure false) :
    PS X (.Assign [.Subscript o i pos'] value pos) (sDPut td ty tv):=by
  intro pins s σ H D I h
  refine wpAny_Assign_Subscript (thn (hv pins s σ H _ I h) fun r s1 ⟨v,H1,I1,rv,q1⟩=>thn (ho pins s1 σ H1 _ I1 q1) fun u s2 ⟨x,H2,I2,rx,q2⟩=>thn (hi pins s2 σ H2 _ I2 q2) fun iv s3 ⟨y,H3,I3,ry,a,H4,ex,g,q3⟩=>?_) hs
  subst ex
  obtain rfl:u=Value.ref a:=rx
  exact d_setItem hu I3 g ry rv fun s4 I4=>⟨σ,H4,I4,q3⟩
end
theorem dk_empty {P:Program} {w:World} {H:Hp} (h:Heap) (hb:sysModules<h.objs.size):ObjOk P w H (h.push { cls:=.type "dict",data:=.dict #[] }) h.objs.size (.dK []):=
  ⟨Nat.zero_le _,beq_eq_false_iff_ne.mpr (Ne.symm (Nat.ne_of_lt hb)),[],.nil,Heap.DictOf.new h⟩
noncomputable def tDNewK:TE:=fun _ H Q=>∀ p,H p=none→Q (.ref p) (upd H p (.dK []))
section
variable {X:Cx} {pos:Pos}
theorem pe_dnewK:PE X (.Dict [] [] pos) tDNewK:=fun pins s σ H Q I h=>
  wpAny_Dict_empty ⟨.ref s.heap.objs.size,_,I.laid (a:=s.heap.objs.size) (o:=.dK []) (t':=s.toks) (fun _ _ q=>Heap.get?_push_of_some _ q) (Nat.le_refl _) (dk_empty s.heap I.big),rfl,h _ (I.hok.fresh (Nat.le_refl _))⟩
end
section
variable {X:Cx} {pins:List (Addr×Obj)} {σ:St} {H:Hp} {s:Shared} {a:Addr} {y d:V} {u r:Value} {o:Option V} {A:Around} {E:Value→Shared→Prop}
end
section
variable {X:Cx} {o e f:Expr} {apos cpos:Pos} {td ty tx:TE}
end
section
variable {X:Cx} {pins:List (Addr×Obj)} {σ:St} {H:Hp} {s:Shared} {a:Addr} {kvs:List (Key×V)} {A:Around} {E:Value→Shared→Prop}
end
section
variable {X:Cx} {pins:List (Addr×Obj)} {σ:St} {H:Hp} {s:Shared} {a:Addr} {y:V} {u:Value} {A:Around} {E:Value→Shared→Prop}
end
end L2
namespace L3
open PySem
inductive D where
  | non | bl (b:Bool) | int (i:Int) | str (x:Str) | tup (xs:List D) | lst (xs:List D) | dic (ks:List (Sum Int Str)) (vs:List D)
theorem D.ind {P:D→Prop} (non:P .non) (bl:∀ b,P (.bl b)) (int:∀ i,P (.int i)) (str:∀ x,P (.str x)) (tup:∀ xs,(∀ d∈xs,P d)→P (.tup xs)) (lst:∀ xs,(∀ d∈xs,P d)→P (.lst xs))
    (dic:∀ ks xs,(∀ d∈xs,P d)→P (.dic ks xs)) (d:D):P d:=
  D.rec (motive_1:=P) (motive_2:=fun ds=>∀ d∈ds,P d) non bl int str (fun xs h=>tup xs h) (fun xs h=>lst xs h) (fun ks xs h=>dic ks xs h) (fun _ h=>absurd h (by simp))
    (fun d ds hd hds e he=>by
      rcases List.mem_cons.mp he with z | z
      · exact z ▸ hd
      · exact hds e z) d
mutual
noncomputable def dEq:D→D→Bool
  | .non,.non=>true
  | .bl a,.bl b=>a == b
  | .bl a,.int b=>(if a then 1 else 0) == b
  | .int a,.bl b=>a == (if b then 1 else 0)
  | .int a,.int b=>a == b
  | .str a,.str b=>a == b
  | .tup xs,.tup ys=>dEqs xs ys
  | .lst xs,.lst ys=>dEqs xs ys
  | _,_=>false
noncomputable def dEqs:List D→List D→Bool
  | [],[]=>true
  | x::xs,y::ys=>dEq x y&&dEqs xs ys
  | _,_=>false
end
noncomputable abbrev Sl:=Bool×D
noncomputable abbrev SEnv:=List (Option Sl)
noncomputable abbrev FE:=SEnv→Option D
noncomputable abbrev FT:=SEnv→Option Bool
noncomputable abbrev FA:=SEnv→Option (List D)
noncomputable abbrev FG:=D→SEnv→Option SEnv
inductive Fl where
  | nx (σ:SEnv) | rt (o:Bool) (d:D) | bk (σ:SEnv) | ct (σ:SEnv)
noncomputable abbrev FS:=SEnv→Option Fl
noncomputable abbrev LIM:Nat:=16777216
noncomputable def eVar (i:Nat):FE:=fun σ=>match σ[i]? with
  | some (some (false,d))=>some d
  | _=>none
noncomputable def eAny (i:Nat):FE:=fun σ=>match σ[i]? with
  | some (some (_,d))=>some d
  | _=>none
noncomputable def eC (d:D):FE:=fun _=>some d
noncomputable def e1 (F:D→Option D) (a:FE):FE:=fun σ=>(a σ).bind F
noncomputable def e2 (F:D→D→Option D) (a b:FE):FE:=fun σ=>(a σ).bind fun x=>(b σ).bind fun y=>F x y
noncomputable def eL (F:List D→Option D) (a:FA):FE:=fun σ=>(a σ).bind F
noncomputable def aNil:FA:=fun _=>some []
noncomputable def aCons (a:FE) (r:FA):FA:=fun σ=>(a σ).bind fun x=>(r σ).bind fun xs=>some (x::xs)
noncomputable def asB:D→Option Bool
  | .bl b=>some b
  | _=>none
noncomputable def tE (a:FE):FT:=fun σ=>(a σ).bind asB
noncomputable def tAndF (a b:FT):FT:=fun σ=>(a σ).bind fun k=>match k with
  | true=>b σ
  | false=>some false
noncomputable def tOrF (a b:FT):FT:=fun σ=>(a σ).bind fun k=>match k with
  | true=>some true
  | false=>b σ
noncomputable def tNotF (a:FT):FT:=fun σ=>(a σ).bind fun k=>some (!k)
noncomputable def eAnd (a b:FE):FE:=fun σ=>(a σ).bind fun x=>(asB x).bind fun k=>match k with
  | true=>b σ
  | false=>some (.bl false)
noncomputable def eOr (a b:FE):FE:=fun σ=>(a σ).bind fun x=>(asB x).bind fun k=>match k with
  | true=>some (.bl true)
  | false=>b σ
noncomputable def eNot (a:FE):FE:=fun σ=>(a σ).bind fun x=>(asB x).bind fun k=>some (.bl (!k))
noncomputable def eIf (c:FT) (a b:FE):FE:=fun σ=>(c σ).bind fun k=>match k with
  | true=>a σ
  | false=>b σ
noncomputable def eTup (a:FA):FE:=fun σ=>(a σ).bind fun xs=>some (.tup xs)
noncomputable def eLst (a:FA):FE:=fun σ=>(a σ).bind fun xs=>some (.lst xs)
noncomputable def fAdd:D→D→Option D
  | .int i,.int j=>some (.int (i+j))
  | .int i,.bl b=>some (.int (i+(if b then 1 else 0)))
  | .str x,.str y=>if x.length+y.length≤LIM then some (.str (x++y)) else none
  | .lst x,.lst y=>if x.length+y.length≤LIM then some (.lst (x++y)) else none
  | .tup x,.tup y=>if x.isEmpty=false∧x.length+y.length≤LIM then some (.tup (x++y)) else none
  | _,_=>none
noncomputable def fI (C:Int→Int→Bool) (g:Int→Int→Int):D→D→Option D
  | .int i,.int j=>match C i j with
    | true=>some (.int (g i j))
    | false=>none
  | _,_=>none
noncomputable def fSub:D→D→Option D
  | .int i,.int j=>some (.int (i - j))
  | _,_=>none
noncomputable def lt64 (i:Int):Bool:=decide (-(2 ^ 64)<i)&&decide (i<2 ^ 64)
noncomputable def fMulL:D→D→Option D:=fI (fun i _=>lt64 i) (·*·)
noncomputable def fMulR:D→D→Option D:=fI (fun _ j=>lt64 j) (·*·)
noncomputable def fMod:D→D→Option D:=fI (fun _ j=>decide (0<j)) (· % ·)
noncomputable def fDiv:D→D→Option D:=fI (fun _ j=>decide (0<j)&&decide (j<2 ^ 64)) (· / ·)
noncomputable def powOk (i j:Int):Bool:=decide (0≤j)&&(decide (j≤1000000)&&decide (i.natAbs<2 ^ 64))
noncomputable def fPow:D→D→Option D:=fI powOk fun i j=>i ^ j.toNat
noncomputable def fShl:D→D→Option D:=fI powOk fun i j=>i*2 ^ j.toNat
noncomputable def fShr:D→D→Option D:=fI (fun _ j=>decide (0≤j)) fun i j=>i / 2 ^ j.toNat
noncomputable def fBit (g:Int→Int→Int):D→D→Option D
  | .int i,.int j=>some (.int (g i j))
  | _,_=>none
noncomputable def fNeg:D→Option D
  | .int i=>some (.int (-i))
  | _=>none
noncomputable def fInv:D→Option D
  | .int i=>some (.int (Builtin.bitNot i))
  | _=>none
noncomputable def fCmp (g:Int→Int→Bool):D→D→Option D
  | .int i,.int j=>some (.bl (g i j))
  | _,_=>none
noncomputable def isNon:D→Bool
  | .non=>true
  | _=>false
noncomputable def fIsN:D→D→Option D
  | x,.non=>some (.bl (isNon x))
  | _,_=>none
noncomputable def fNotN:D→D→Option D
  | x,.non=>some (.bl (!isNon x))
  | _,_=>none
noncomputable def flatD:D→Bool
  | .non=>true
  | .bl _=>true
  | .int _=>true
  | .str _=>true
  | _=>false
noncomputable def cmpAll (f:D→D→Bool):List D→List D→Bool
  | x::xs,y::ys=>f x y&&cmpAll f xs ys
  | _,_=>true
noncomputable def cmpOk:Nat→D→D→Bool
  | 0,_,_=>false
  | n+1,x,y=>match x,y with
    | .tup xs,.tup ys=>cmpAll (cmpOk n) xs ys
    | .lst xs,.lst ys=>cmpAll (cmpOk n) xs ys
    | x,y=>flatD x&&flatD y
noncomputable def fEqB:D→D→Option Bool
  | .int _,.bl _=>none
  | .bl _,.int _=>none
  | x,y=>match cmpOk 6 x y with
    | true=>some (dEq x y)
    | false=>none
noncomputable def fEq (x y:D):Option D:=(fEqB x y).bind fun k=>some (.bl k)
noncomputable def fNe (x y:D):Option D:=(fEqB x y).bind fun k=>some (.bl (!k))
noncomputable def keyD:D→Option (Sum Int Str)
  | .int i=>some (.inl i)
  | .str x=>some (.inr x)
  | _=>none
noncomputable def getK {α:Type}:List (Sum Int Str)→List α→Sum Int Str→Option α
  | k'::ks,v::vs,k=>if k'=k then some v else getK ks vs k
  | _,_,_=>none
noncomputable def hasK (ks:List (Sum Int Str)) (k:Sum Int Str):Bool:=ks.any fun j=>decide (j=k)
noncomputable def putKs (ks:List (Sum Int Str)) (k:Sum Int Str):List (Sum Int Str):=if hasK ks k=true then ks else ks++[k]
noncomputable def putVs {α:Type} (ks:List (Sum Int Str)) (vs:List α) (k:Sum Int Str) (v:α):List α:=if hasK ks k=true then List.zipWith (fun k' x=>if k'=k then v else x) ks vs else vs++[v]
noncomputable def fInB (x:D):D→Option Bool
  | .lst ys=>match flatD x&&ys.all flatD with
    | true=>some (ys.any fun y=>dEq y x)
    | false=>none
  | .tup ys=>match flatD x&&ys.all flatD with
    | true=>some (ys.any fun y=>dEq y x)
    | false=>none
  | .str j=>match x with
    | .str i=>some (!(Builtin.Str.occurrences j i 0 j.length 1).isEmpty)
    | _=>none
  | .dic ks _=>(keyD x).bind fun k=>some (hasK ks k)
  | _=>none
noncomputable def fIn (x y:D):Option D:=(fInB x y).bind fun k=>some (.bl k)
noncomputable def fNotIn (x y:D):Option D:=(fInB x y).bind fun k=>some (.bl (!k))
noncomputable def atD {α:Type} (xs:List α) (i:Int):Option α:=if 0≤i then xs[i.toNat]? else if -(xs.length:Int)≤i then xs[(i+xs.length).toNat]? else none
noncomputable def fIx:D→D→Option D
  | .lst xs,.int i=>atD xs i
  | .tup xs,.int i=>atD xs i
  | .str z,.int i=>(atD z.cps.toList i).bind fun c=>some (.str ⟨#[c]⟩)
  | .dic ks vs,k=>(keyD k).bind fun k=>getK ks vs k
  | _,_=>none
noncomputable def fLen:List D→Option D
  | [.lst xs]=>some (.int xs.length)
  | [.tup xs]=>some (.int xs.length)
  | [.str z]=>some (.int z.length)
  | _=>none
noncomputable def fMax:List D→Option D
  | [.int i,.int j]=>some (.int (if j > i then j else i))
  | _=>none
noncomputable def fMin:List D→Option D
  | [.int i,.int j]=>some (.int (if j<i then j else i))
  | _=>none
noncomputable def fInt:List D→Option D
  | [.int i]=>some (.int i)
  | [.bl k]=>some (.int (if k then 1 else 0))
  | _=>none
inductive TyT where
  | int | bool | str | list | tuple
noncomputable def TyT.nm:TyT→String
  | .int => "int"
  | .bool => "bool"
  | .str => "str"
  | .list => "list"
  | .tuple => "tuple"
noncomputable def isTy:TyT→D→Option Bool
  | _,.dic _ _=>none
  | .int,.int _=>some true
  | .int,.bl _=>some true
  | .int,_=>some false
  | .bool,.bl _=>some true
  | .bool,_=>some false
  | .str,.str _=>some true
  | .str,_=>some false
  | .list,.lst _=>some true
  | .list,_=>some false
  | .tuple,.tup _=>some true
  | .tuple,_=>some false
noncomputable def eIsi (T:TyT) (a:FE):FE:=fun τ=>(a τ).bind fun d=>(isTy T d).bind fun b=>some (.bl b)
noncomputable def iSeq (a:FE):FA:=fun σ=>(a σ).bind fun d=>match d with
  | .lst xs=>some xs
  | .tup xs=>some xs
  | .str z=>some (z.cps.toList.map fun c=>.str ⟨#[c]⟩)
  | _=>none
noncomputable def iRange (lo hi:FE):FA:=fun σ=>(lo σ).bind fun x=>(hi σ).bind fun y=>match x,y with
  | .int i,.int j=>if i.natAbs≤LIM∧j.natAbs≤LIM∧(j - i).toNat≤LIM then some ((List.range (j - i).toNat).map fun k:Nat=>.int (i+k)) else none
  | _,_=>none
noncomputable def gVar (i:Nat):FG:=fun d σ=>some (σ.set i (some (false,d)))
noncomputable def gTwo (i j:Nat):FG:=fun d σ=>match d with
  | .tup [x,y]=>some ((σ.set i (some (false,x))).set j (some (false,y)))
  | _=>none
noncomputable def sNext:FS:=fun σ=>some (.nx σ)
noncomputable def sSeq (a b:FS):FS:=fun σ=>(a σ).bind fun f=>match f with
  | .nx σ'=>b σ'
  | f=>some f
noncomputable def sSet (i:Nat) (e:FE):FS:=fun σ=>(e σ).bind fun d=>some (.nx (σ.set i (some (false,d))))
noncomputable def sSetO (i:Nat) (e:FE):FS:=fun σ=>(e σ).bind fun d=>some (.nx (σ.set i (some (true,d))))
noncomputable def sRet (e:FE):FS:=fun σ=>(e σ).bind fun d=>some (.rt false d)
noncomputable def sRetO (e:FE):FS:=fun σ=>(e σ).bind fun d=>some (.rt true d)
noncomputable def sRetV (i:Nat):FS:=fun σ=>match σ[i]? with
  | some (some (true,d))=>some (.rt true d)
  | _=>none
noncomputable def sIf (c:FT) (a b:FS):FS:=fun σ=>(c σ).bind fun k=>match k with
  | true=>a σ
  | false=>b σ
noncomputable def loopG (g:FG) (b:FS):List D→SEnv→Option Fl
  | [],σ=>some (.nx σ)
  | d::r,σ=>(g d σ).bind fun σ1=>(b σ1).bind fun f=>match f with
    | .nx σ2=>loopG g b r σ2
    | .ct σ2=>loopG g b r σ2
    | .bk σ2=>some (.nx σ2)
    | .rt o d=>some (.rt o d)
noncomputable def sFor (it:FA) (g:FG) (b:FS):FS:=fun σ=>(it σ).bind fun ds=>loopG g b ds σ
noncomputable def whileG (c:FT) (b:FS):Nat→SEnv→Option Fl
  | 0,_=>none
  | n+1,σ=>(c σ).bind fun k=>match k with
    | false=>some (.nx σ)
    | true=>(b σ).bind fun f=>match f with
      | .nx σ2=>whileG c b n σ2
      | .ct σ2=>whileG c b n σ2
      | .bk σ2=>some (.nx σ2)
      | .rt o d=>some (.rt o d)
noncomputable def FUEL:Nat:=100000000
noncomputable def sWhile (c:FT) (b:FS):FS:=fun σ=>whileG c b FUEL σ
noncomputable def sFreeze (i:Nat):FS:=fun σ=>match σ[i]? with
  | some (some (_,d))=>some (.nx (σ.set i (some (false,d))))
  | _=>none
noncomputable def sMut (i:Nat) (F:D→Option D):FS:=fun σ=>match σ[i]? with
  | some (some (true,d))=>(F d).bind fun d'=>some (.nx (σ.set i (some (true,d'))))
  | _=>none
noncomputable def sMut1 (i:Nat) (F:D→D→Option D) (e:FE):FS:=fun σ=>match σ[i]? with
  | some (some (true,d))=>(e σ).bind fun x=>(F d x).bind fun d'=>some (.nx (σ.set i (some (true,d'))))
  | _=>none
noncomputable def fApp:D→D→Option D
  | .lst xs,y=>if xs.length<LIM then some (.lst (xs++[y])) else none
  | _,_=>none
noncomputable def sPut (i:Nat) (k v:FE):FS:=fun σ=>(v σ).bind fun y=>match σ[i]? with
  | some (some (true,.dic ks ds))=>(k σ).bind fun x=>(keyD x).bind fun x=>if ks.length<LIM then some (.nx (σ.set i (some (true,.dic (putKs ks x) (putVs ks ds x y))))) else none
  | _=>none
noncomputable def fGd (ks:List (Sum Int Str)) (ds:List D) (x:D):Option D:=(keyD x).bind fun k=>getK ks ds k
noncomputable def eChain (F F':D→D→Option D) (a b c:FE):FE:=fun τ=>(a τ).bind fun x=>(b τ).bind fun y=>(F x y).bind fun k=>(asB k).bind fun k=>match k with
  | true=>(c τ).bind fun z=>F' y z
  | false=>some (.bl false)
noncomputable def lcGo (g:FG) (c:FT) (e:FE) (σ:SEnv):List D→Option (List D)
  | []=>some []
  | d::r=>(g d σ).bind fun σ1=>(c σ1).bind fun k=>match k with
    | true=>(e σ1).bind fun x=>(lcGo g c e σ r).bind fun xs=>some (x::xs)
    | false=>lcGo g c e σ r
noncomputable def tTrue:FT:=fun _=>some true
noncomputable def eLc (n:Nat) (it:FA) (g:FG) (c:FT) (e:FE):FE:=fun σ=>(it σ).bind fun ds=>(lcGo g c e (σ++List.replicate n none) ds).bind fun xs=>some (.lst xs)
noncomputable def runF (n:Nat) (b:FS) (ds:List D):Option (Bool×D):=(b (ds.map (fun d=>some (false,d))++List.replicate (n - ds.length) none)).bind fun f=>match f with
  | .rt o d=>some (o,d)
  | .nx _=>some (false,.non)
  | _=>none
noncomputable def eCall (F:List D→Option (Bool×D)) (a:FA):FE:=fun σ=>(a σ).bind fun ds=>(F ds).bind fun r=>some r.2
noncomputable def eCallO (F:List D→Option (Bool×D)) (a:FA):FE:=fun σ=>(a σ).bind fun ds=>(F ds).bind fun r=>match r with
  | (true,d)=>some d
  | _=>none
end L3
namespace L3
open PySem PySem.Spec PyProof.Rows L2
noncomputable abbrev St:=L2.St
noncomputable def SqD (_:PySem.W.Frag) (H:Hp) (a:Addr) (kvs:List (Key×V)):Prop:=Rd H a (.dK kvs)
mutual
noncomputable def Rep (K:PySem.W.Frag) (H:Hp):D→V→Prop
  | .non,v=>v=.non
  | .bl b,v=>v=.bl b
  | .int i,v=>v=.int i
  | .str x,v=>v=.str x∧x.length≤sizeLine
  | .tup ds,v=>∃ a vs,v=.ref a∧SqT K H a vs∧Reps K H ds vs∧ds.length≤sizeLine
  | .lst ds,v=>∃ a vs,v=.ref a∧SqL K H a vs∧Reps K H ds vs∧ds.length≤sizeLine
  | .dic ks ds,v=>∃ a vs,v=.ref a∧SqD K H a (ks.zip vs)∧ks.length=vs.length∧Reps K H ds vs∧ds.length≤sizeLine
noncomputable def Reps (K:PySem.W.Frag) (H:Hp):List D→List V→Prop
  | [],vs=>vs=[]
  | d::ds,vs=>∃ v r,vs=v::r∧Rep K H d v∧Reps K H ds r
end
section
variable {K:PySem.W.Frag} {G H H':Hp}
theorem Rd.mono {a:Addr} {u:HO} (s:Same H H') (h:Rd H a u):Rd H' a u:=by
  rcases h with h | ⟨o,h⟩
  · exact .inl (s _ _ h)
  · exact .inr ⟨o,s _ _ h⟩
theorem sqT_mono {a:Addr} {xs:List V} (s:Same H H') (h:SqT K H a xs):SqT K H' a xs:=by
  rcases h with h | h
  · exact .inl (Rd.mono s h)
  · exact .inr h
theorem sqL_mono {a:Addr} {xs:List V} (s:Same H H') (h:SqL K H a xs):SqL K H' a xs:=by
  rcases h with h | h
  · exact .inl (Rd.mono s h)
  · exact .inr h
theorem Reps.imp:∀ {ds:List D} {vs:List V},(∀ d∈ds,∀ v,Rep K H d v→Rep K H' d v)→Reps K H ds vs→Reps K H' ds vs
  | [],_,_,h=>h
  | d::ds,vs,f,h=>by
    obtain ⟨v,r,rfl,hv,hr⟩:=h
    exact ⟨v,r,rfl,f d List.mem_cons_self v hv,Reps.imp (fun d' m=>f d' (List.mem_cons_of_mem _ m)) hr⟩
theorem Rep.mono (s:Same H H'):∀ {d:D} {v:V},Rep K H d v→Rep K H' d v:=fun {d}=>by
  refine D.ind (P:=fun d=>∀ v,Rep K H d v→Rep K H' d v) (fun v h=>h) (fun b v h=>h) (fun i v h=>h) (fun x v h=>h) ?_ ?_ ?_ d _
  · rintro xs ih v ⟨a,vs,e,q,r,l⟩
    exact ⟨a,vs,e,sqT_mono s q,Reps.imp ih r,l⟩
  · rintro xs ih v ⟨a,vs,e,q,r,l⟩
    exact ⟨a,vs,e,sqL_mono s q,Reps.imp ih r,l⟩
  · rintro ks xs ih v ⟨a,vs,e,q,z,r,l⟩
    exact ⟨a,vs,e,Rd.mono s q,z,Reps.imp ih r,l⟩
theorem Reps.mono (s:Same H H') {ds:List D} {vs:List V} (h:Reps K H ds vs):Reps K H' ds vs:=Reps.imp (fun _ _ _=>Rep.mono s) h
theorem Reps.length:∀ {ds:List D} {vs:List V},Reps K H ds vs→vs.length=ds.length
  | [],_,h=>by cases (show _=[] from h); rfl
  | d::ds,_,h=>by
    obtain ⟨v,r,rfl,_,hr⟩:=h
    rw [List.length_cons,List.length_cons,Reps.length hr]
theorem Reps.get:∀ {ds:List D} {vs:List V} {i:Nat} {d:D},Reps K H ds vs→ds[i]?=some d→∃ v,vs[i]?=some v∧Rep K H d v
  | [],_,_,_,_,e=>by cases e
  | d::ds,_,0,_,h,e=>by
    obtain ⟨v,r,rfl,hv,hr⟩:=h
    cases e
    exact ⟨v,rfl,hv⟩
  | d::ds,_,i+1,d',h,e=>by
    obtain ⟨v,r,rfl,hv,hr⟩:=h
    exact Reps.get (i:=i) hr (by simpa using e)
theorem Reps.at {ds:List D} {vs:List V} {i:Nat} {v:V} (h:Reps K H ds vs) (e:vs[i]?=some v):∃ d,ds[i]?=some d∧Rep K H d v:=by
  have l:=h.length
  have hi:i<ds.length:=by rw [← l]; exact (List.getElem?_eq_some_iff.mp e).1
  obtain ⟨v',e',r⟩:=h.get (List.getElem?_eq_getElem hi)
  rw [e] at e'
  cases e'
  exact ⟨_,List.getElem?_eq_getElem hi,r⟩
theorem Reps.append:∀ {ds es:List D} {vs us:List V},Reps K H ds vs→Reps K H es us→Reps K H (ds++es) (vs++us)
  | [],_,_,_,h,g=>by cases (show _=[] from h); exact g
  | d::ds,_,_,_,h,g=>by
    obtain ⟨v,r,rfl,hv,hr⟩:=h
    exact ⟨v,_,rfl,hv,Reps.append hr g⟩
theorem Reps.one {d:D} {v:V} (h:Rep K H d v):Reps K H [d] [v]:=⟨v,[],rfl,h,rfl⟩
theorem Reps.take:∀ {ds:List D} {vs:List V} (n:Nat),Reps K H ds vs→Reps K H (ds.take n) (vs.take n)
  | _,_,0,_=>by rw [List.take_zero,List.take_zero]; rfl
  | [],_,n+1,h=>by cases (show _=[] from h); rfl
  | d::ds,_,n+1,h=>by
    obtain ⟨v,r,rfl,hv,hr⟩:=h
    exact ⟨v,_,rfl,hv,Reps.take n hr⟩
theorem Reps.drop:∀ {ds:List D} {vs:List V} (n:Nat),Reps K H ds vs→Reps K H (ds.drop n) (vs.drop n)
  | _,_,0,h=>h
  | [],_,n+1,h=>by cases (show _=[] from h); rfl
  | d::ds,_,n+1,h=>by
    obtain ⟨v,r,rfl,hv,hr⟩:=h
    exact Reps.drop n hr
theorem Reps.ints:∀ {ns:List Int},Reps K H (ns.map D.int) (ns.map V.int)
  | []=>rfl
  | n::ns=>⟨_,_,rfl,rfl,Reps.ints⟩
end
structure Ext (G H G' H':Hp):Prop where
  g:Same G G'
  h:Same H H'
  gh:Same G' H'
  new:∀ p,G' p≠none→G p≠none∨H p=none
section
variable {G H G' H' G0 H0 G1 H1 G2 H2:Hp} {p:Addr} {o:HO}
theorem Ext.refl (s:Same G H):Ext G H G H:=⟨Same.refl _,Same.refl _,s,fun _ h=>.inl h⟩
theorem Ext.trans (a:Ext G H G1 H1) (b:Ext G1 H1 G2 H2):Ext G H G2 H2:=⟨a.g.trans b.g,a.h.trans b.h,b.gh,fun p h=>by
  rcases b.new p h with z | z
  · exact a.new p z
  · exact .inr (a.h.free z)⟩
theorem Ext.rebase (a:Ext G0 H0 G1 H1) (b:Ext G1 H0 G2 H2):Ext G0 H0 G2 H2:=⟨a.g.trans b.g,b.h,b.gh,fun p h=>by
  rcases b.new p h with z | z
  · exact a.new p z
  · exact .inr z⟩
theorem Ext.far (a:Ext G0 H0 G1 H1):Ext G1 H0 G1 H1:=⟨Same.refl _,a.h,a.gh,fun _ h=>.inl h⟩
theorem upd_some {H:Hp} {p q:Addr} {o:HO} (h:upd H p o q≠none):q=p∨H q≠none:=by
  by_cases e:q=p
  · exact .inl e
  · rw [upd_ne e] at h
    exact .inr h
theorem same_upd2 (s:Same G H):Same (upd G p o) (upd H p o):=fun b u e=>by
  by_cases hb:b=p
  · subst hb
    rw [upd_same] at e ⊢
    exact e
  · rw [upd_ne hb] at e ⊢
    exact s _ _ e
theorem Ext.lay (s:Same G H) (h:H p=none):Ext G H (upd G p o) (upd H p o):=⟨same_new (s.free h) o,same_new h o,same_upd2 s,fun q z=>by
  rcases upd_some z with e | e
  · exact .inr (e ▸ h)
  · exact .inl e⟩
theorem Ext.layO (s:Same G H) (h:H p=none):Ext G H G (upd H p o):=⟨Same.refl _,same_new h o,s.trans (same_new h o),fun _ z=>.inl z⟩
theorem Ext.frz (a:Ext G H G1 H1) (h:H p=none) (g:G1 p=none) (e:H1 p=some o):Ext G H (upd G1 p o) H1:=⟨a.g.trans (same_new g o),a.h,fun b u q=>by
  by_cases hb:b=p
  · subst hb
    rw [upd_same] at q
    cases q
    exact e
  · rw [upd_ne hb] at q
    exact a.gh _ _ q,fun q z=>by
  rcases upd_some z with w | w
  · exact .inr (w ▸ h)
  · exact a.new q w⟩
end
noncomputable def OwnAt (K:PySem.W.Frag) (G H:Hp) (d:D) (p:Addr):Prop:=match d with
  | .lst ds=>∃ vs,H p=some (.lst vs)∧Reps K G ds vs∧ds.length≤sizeLine
  | .dic ks ds=>∃ vs,H p=some (.dK (ks.zip vs))∧ks.length=vs.length∧Reps K G ds vs∧ds.length≤sizeLine
  | _=>False
section
variable {K:PySem.W.Frag} {G H G' H':Hp} {d:D} {p:Addr}
theorem OwnAt.some (h:OwnAt K G H d p):H p≠none:=by
  cases d with
  | lst ds=>obtain ⟨vs,e,_⟩:=h; rw [e]; exact fun z=>nomatch z
  | dic ks ds=>obtain ⟨vs,e,_⟩:=h; rw [e]; exact fun z=>nomatch z
  | _=>exact h.elim
theorem OwnAt.mono (g:Same G G') (h:Same H H') (o:OwnAt K G H d p):OwnAt K G' H' d p:=by
  cases d with
  | lst ds=>obtain ⟨vs,e,r,l⟩:=o; exact ⟨vs,h _ _ e,r.mono g,l⟩
  | dic ks ds=>obtain ⟨vs,e,z,r,l⟩:=o; exact ⟨vs,h _ _ e,z,r.mono g,l⟩
  | _=>exact o.elim
theorem OwnAt.frz (o:OwnAt K G H d p) (g:G p=none):∃ u,H p=Option.some u∧Rep K (upd G p u) d (.ref p):=by
  cases d with
  | lst ds=>obtain ⟨vs,e,r,l⟩:=o; exact ⟨_,e,p,vs,rfl,SqL.of upd_same,r.mono (same_new g _),l⟩
  | dic ks ds=>obtain ⟨vs,e,z,r,l⟩:=o; exact ⟨_,e,p,vs,rfl,.inl upd_same,z,r.mono (same_new g _),l⟩
  | _=>exact o.elim
end
structure EnvOk (K:PySem.W.Frag) (n:Nat) (G0 H0 G H:Hp) (τ:SEnv) (σ:St):Prop where
  ext:Ext G0 H0 G H
  l1:σ.length=n
  l2:τ.length=n
  fr:∀ (i:Nat) (d:D),τ[i]?=some (some (false,d))→∃ v,σ[i]?=some (some v)∧Rep K G d v
  ow:∀ (i:Nat) (d:D),τ[i]?=some (some (true,d))→∃ p,σ[i]?=some (some (V.ref p))∧G p=none∧H0 p=none∧OwnAt K G H d p
  ap:∀ (i j:Nat) (d e:D) (p:Addr),i≠j→τ[i]?=some (some (true,d))→τ[j]?=some (some (true,e))→σ[i]?=some (some (V.ref p))→σ[j]?=some (some (V.ref p))→False
section
variable {K:PySem.W.Frag} {n:Nat} {G0 H0 G H G' H':Hp} {τ:SEnv} {σ:St}
theorem EnvOk.go (E:EnvOk K n G0 H0 G H τ σ) (x:Ext G H G' H'):EnvOk K n G0 H0 G' H' τ σ:=⟨E.ext.trans x,E.l1,E.l2,fun i d h=>by
  obtain ⟨v,e,r⟩:=E.fr i d h
  exact ⟨v,e,r.mono x.g⟩,fun i d h=>by
  obtain ⟨p,e,g,z,o⟩:=E.ow i d h
  refine ⟨p,e,?_,z,o.mono x.g x.h⟩
  cases q:G' p with
  | none=>rfl
  | some u=>
    rcases x.new p (by rw [q]; exact fun z=>nomatch z) with w | w
    · exact absurd g w
    · exact absurd w o.some,E.ap⟩
theorem EnvOk.far (E:EnvOk K n G0 H0 G H τ σ):EnvOk K n G H0 G H τ σ:=⟨E.ext.far,E.l1,E.l2,E.fr,E.ow,E.ap⟩
theorem EnvOk.near {Ga Ha:Hp} (a:Ext G0 H0 Ga Ha) (E:EnvOk K n Ga H0 G H τ σ):EnvOk K n G0 H0 G H τ σ:=⟨a.rebase E.ext,E.l1,E.l2,E.fr,E.ow,E.ap⟩
theorem EnvOk.lt {i:Nat} {s:Option Sl} (E:EnvOk K n G0 H0 G H τ σ) (h:τ[i]?=some s):i<n:=by
  rw [← E.l2]
  exact (List.getElem?_eq_some_iff.mp h).1
theorem set_get {α:Type} {xs:List α} {i j:Nat} {x y:α} (h:(xs.set i x)[j]?=some y):(j=i∧y=x)∨(j≠i∧xs[j]?=some y):=by
  rw [List.getElem?_set] at h
  by_cases e:i=j
  · subst e
    rw [if_pos rfl] at h
    split at h
    · cases h; exact .inl ⟨rfl,rfl⟩
    · cases h
  · rw [if_neg e] at h
    exact .inr ⟨fun z=>e z.symm,h⟩
theorem get_set_same {α:Type} {xs:List α} {i:Nat} {x:α} (h:i<xs.length):(xs.set i x)[i]?=some x:=by rw [List.getElem?_set,if_pos rfl,if_pos h]
theorem get_set_ne {α:Type} {xs:List α} {i j:Nat} {x:α} (h:j≠i):(xs.set i x)[j]?=xs[j]?:=by rw [List.getElem?_set,if_neg (fun z=>h z.symm)]
theorem EnvOk.set {i:Nat} {d:D} {v:V} (E:EnvOk K n G0 H0 G H τ σ) (hi:i<n) (r:Rep K G d v):EnvOk K n G0 H0 G H (τ.set i (some (false,d))) (σ.set i (some v)):=⟨E.ext,by rw [List.length_set]; exact E.l1,by rw [List.length_set]; exact E.l2,fun j e h=>by
  rcases set_get h with ⟨rfl,z⟩ | ⟨ne,z⟩
  · cases z
    exact ⟨v,get_set_same (by rw [E.l1]; exact hi),r⟩
  · rw [get_set_ne ne]
    exact E.fr j e z,fun j e h=>by
  rcases set_get h with ⟨rfl,z⟩ | ⟨ne,z⟩
  · cases z
  · rw [get_set_ne ne]
    exact E.ow j e z,fun j k e f p hne h1 h2=>by
  rcases set_get h1 with ⟨rfl,z⟩ | ⟨ne,z⟩
  · cases z
  · rcases set_get h2 with ⟨rfl,z'⟩ | ⟨ne',z'⟩
    · cases z'
    · rw [get_set_ne ne,get_set_ne ne']
      exact E.ap j k e f p hne z z'⟩
theorem EnvOk.setO {i:Nat} {d:D} {p:Addr} (E:EnvOk K n G0 H0 G H τ σ) (hi:i<n) (hg:G p=none) (h0:H0 p=none) (o:OwnAt K G H d p) (hn:∀ (j:Nat) (e:D),j≠i→τ[j]?=some (some (true,e))→σ[j]?=some (some (V.ref p))→False) :
    EnvOk K n G0 H0 G H (τ.set i (some (true,d))) (σ.set i (some (.ref p))):=⟨E.ext,by rw [List.length_set]; exact E.l1,by rw [List.length_set]; exact E.l2,fun j e h=>by
  rcases set_get h with ⟨rfl,z⟩ | ⟨ne,z⟩
  · cases z
  · rw [get_set_ne ne]
    exact E.fr j e z,fun j e h=>by
  rcases set_get h with ⟨rfl,z⟩ | ⟨ne,z⟩
  · cases z
    exact ⟨p,get_set_same (by rw [E.l1]; exact hi),hg,h0,o⟩
  · rw [get_set_ne ne]
    exact E.ow j e z,fun j k e f q hne h1 h2 h3 h4=>by
  rcases set_get h1 with ⟨rfl,z⟩ | ⟨ne,z⟩
  · rcases set_get h2 with ⟨rfl,z'⟩ | ⟨ne',z'⟩
    · exact hne rfl
    · rw [get_set_same (by rw [E.l1]; exact hi)] at h3
      rw [get_set_ne ne'] at h4
      cases h3
      exact hn k f ne' z' h4
  · rcases set_get h2 with ⟨rfl,z'⟩ | ⟨ne',z'⟩
    · rw [get_set_same (by rw [E.l1]; exact hi)] at h4
      rw [get_set_ne ne] at h3
      cases h4
      exact hn j e ne z h3
    · rw [get_set_ne ne] at h3
      rw [get_set_ne ne'] at h4
      exact E.ap j k e f q hne z z' h3 h4⟩
theorem EnvOk.newO {i:Nat} {p:Addr} (E:EnvOk K n G0 H0 G H τ σ) (hp:H p=none):∀ (j:Nat) (e:D),j≠i→τ[j]?=some (some (true,e))→σ[j]?=some (some (V.ref p))→False:=fun j e _ h1 h2=>by
  obtain ⟨q,e1,_,_,o⟩:=E.ow j e h1
  rw [h2] at e1
  cases e1
  exact o.some hp
theorem EnvOk.freeze {i:Nat} {b:Bool} {d:D} (E:EnvOk K n G0 H0 G H τ σ) (hi:τ[i]?=some (some (b,d))):∃ G',EnvOk K n G0 H0 G' H (τ.set i (some (false,d))) σ∧Same G G':=by
  have hin:=E.lt hi
  cases b with
  | false=>
    refine ⟨G,?_,Same.refl _⟩
    have e:τ.set i (some (false,d))=τ:=by
      apply List.ext_getElem?
      intro j
      by_cases hj:j=i
      · subst hj; rw [get_set_same (by rw [E.l2]; exact hin),hi]
      · rw [get_set_ne hj]
    rw [e]
    exact E
  | true=>
    obtain ⟨p,e,g,z,o⟩:=E.ow i d hi
    obtain ⟨u,hu,r⟩:=o.frz g
    have x:Ext G0 H0 (upd G p u) H:=E.ext.frz z g hu
    refine ⟨upd G p u,⟨x,E.l1,by rw [List.length_set]; exact E.l2,fun j d' h=>?_,fun j d' h=>?_,fun j k e1 f q hne h1 h2=>?_⟩,same_new g _⟩
    · rcases set_get h with ⟨rfl,w⟩ | ⟨ne,w⟩
      · cases w
        exact ⟨_,e,r⟩
      · obtain ⟨v,e',r'⟩:=E.fr j d' w
        exact ⟨v,e',r'.mono (same_new g _)⟩
    · rcases set_get h with ⟨rfl,w⟩ | ⟨ne,w⟩
      · cases w
      · obtain ⟨q,e',g',z',o'⟩:=E.ow j d' w
        refine ⟨q,e',?_,z',o'.mono (same_new g _) (Same.refl _)⟩
        rw [upd_ne (fun c=>?_)]
        · exact g'
        · subst c
          exact E.ap i j d d' q (fun c=>ne c.symm) hi w e e'
    · rcases set_get h1 with ⟨rfl,w⟩ | ⟨ne,w⟩
      · cases w
      · rcases set_get h2 with ⟨rfl,w'⟩ | ⟨ne',w'⟩
        · cases w'
        · exact E.ap j k e1 f q hne w w'
end
section
variable (X:Cx)
structure SE (e:Expr) (f:FE):Prop where
  h:∃ t,PE X e t∧∀ {G0 H0 G H:Hp} {τ:SEnv} {σ:St} {d:D} {Q:VK},EnvOk X.K X.N.length G0 H0 G H τ σ→f τ=some d→(∀ v G' H',Ext G H G' H'→Rep X.K G' d v→Q v H')→t σ H Q
structure SB (e:Expr) (f:FE):Prop where
  h:∃ t,PE X e t∧∀ {G0 H0 G H:Hp} {τ:SEnv} {σ:St} {d:D} {Q:VK},EnvOk X.K X.N.length G0 H0 G H τ σ→f τ=some d→(∀ v G' H',Ext G H G' H'→Rep X.K H' d v→Q v H')→t σ H Q
structure SF (e:Expr) (f:FE):Prop where
  h:∃ t,PE X e t∧∀ {G0 H0 G H:Hp} {τ:SEnv} {σ:St} {d:D} {Q:VK},EnvOk X.K X.N.length G0 H0 G H τ σ→f τ=some d→(∀ p G' H',Ext G H G' H'→H p=none→G' p=none→OwnAt X.K G' H' d p→Q (.ref p) H')→t σ H Q
structure ST (e:Expr) (f:FT):Prop where
  h:∃ t,PT X e t∧∀ {G0 H0 G H:Hp} {τ:SEnv} {σ:St} {d:Bool} {Q:Bool→Hp→Prop},EnvOk X.K X.N.length G0 H0 G H τ σ→f τ=some d→(∀ G' H',Ext G H G' H'→Q d H')→t σ H Q
structure SW (e:Expr) (f:FT):Prop where
  h:∃ t,PW X e t∧∀ {G0 H0 G H:Hp} {τ:SEnv} {σ:St} {d:Bool} {Q:Bool→Hp→Prop},EnvOk X.K X.N.length G0 H0 G H τ σ→f τ=some d→(∀ G' H',Ext G H G' H'→Q d H')→t σ H Q
structure SA (es:List Expr) (f:FA):Prop where
  h:∃ t,PA X es t∧∀ {G0 H0 G H:Hp} {τ:SEnv} {σ:St} {ds:List D} {Q:List V→Hp→Prop},EnvOk X.K X.N.length G0 H0 G H τ σ→f τ=some ds→(∀ vs G' H',Ext G H G' H'→Reps X.K G' ds vs→Q vs H')→t σ H Q
structure SAB (es:List Expr) (f:FA):Prop where
  h:∃ t,PA X es t∧∀ {G0 H0 G H:Hp} {τ:SEnv} {σ:St} {ds:List D} {Q:List V→Hp→Prop},EnvOk X.K X.N.length G0 H0 G H τ σ→f τ=some ds→(∀ vs G' H',Ext G H G' H'→Reps X.K H' ds vs→Q vs H')→t σ H Q
end
noncomputable def FlOk (K:PySem.W.Frag) (n:Nat) (G0 H0:Hp) (E:Ends):Fl→Prop
  | .nx τ=>∀ σ G H,EnvOk K n G0 H0 G H τ σ→E.nx σ H
  | .bk τ=>∀ σ G H,EnvOk K n G0 H0 G H τ σ→E.bk σ H
  | .ct τ=>∀ σ G H,EnvOk K n G0 H0 G H τ σ→E.ct σ H
  | .rt false d=>∀ v G H,Ext G0 H0 G H→Rep K G d v→E.rt v H
  | .rt true d=>∀ p G H,Ext G0 H0 G H→H0 p=none→G p=none→OwnAt K G H d p→E.rt (.ref p) H
section
variable (X:Cx)
structure SS (st:Stmt) (f:FS):Prop where
  h:∃ t,PS X st t∧∀ {G0 H0 G H:Hp} {τ:SEnv} {σ:St} {fl:Fl} {E:Ends},EnvOk X.K X.N.length G0 H0 G H τ σ→f τ=some fl→FlOk X.K X.N.length G0 H0 E fl→t E σ H
structure SSs (st:List Stmt) (f:FS):Prop where
  h:∃ t,PSs X st t∧∀ {G0 H0 G H:Hp} {τ:SEnv} {σ:St} {fl:Fl} {E:Ends},EnvOk X.K X.N.length G0 H0 G H τ σ→f τ=some fl→FlOk X.K X.N.length G0 H0 E fl→t E σ H
end
structure Walk (K:PySem.W.Frag) (J:It) (G:Hp) (ds:List D):Prop where
  go:∀ i G2 H,Same G G2→Same G2 H→i<ds.length→J.go i H
  yld:∀ i G2 H x H',Same G G2→Same G2 H→i<ds.length→J.yld i H x H'→∃ G3 d,Ext G2 H G3 H'∧ds[i]?=some d∧Rep K G3 d x
  stop:∀ i G2 H,Same G G2→Same G2 H→ds.length≤i→J.stop i H
structure SI (X:Cx) (tg iter:Expr) (f:FA):Prop where
  h:∃ wi,PI X tg iter wi∧∀ {G0 H0 G H:Hp} {τ:SEnv} {σ:St} {ds:List D} {R:It→Hp→Prop},EnvOk X.K X.N.length G0 H0 G H τ σ→f τ=some ds→(∀ J G' H',Ext G H G' H'→ds.length≤sizeLine→Walk X.K J G' ds→R J H')→wi σ H R
noncomputable def spF (K:PySem.W.Frag) (F:List D→Option (Bool×D)):Sp:=fun vs H Q _=>∃ G ds o d,Same G H∧Reps K G ds vs∧F ds=some (o,d)∧
  match o with
  | false=>∀ v G' H',Ext G H G' H'→Rep K G' d v→Q v H'
  | true=>∀ p G' H',Ext G H G' H'→H p=none→G' p=none→OwnAt K G' H' d p→Q (.ref p) H'
end L3
namespace L3
open PySem PySem.Spec PyProof.Rows L2
theorem bindE {α β:Type} {o:Option α} {f:α→Option β} {b:β} (h:o.bind f=some b):∃ a,o=some a∧f a=some b:=by
  cases o with
  | none=>cases h
  | some a=>exact ⟨a,rfl,h⟩
theorem eVar_at {i:Nat} {τ:SEnv} {d:D} (h:eVar i τ=some d):τ[i]?=some (some (false,d)):=by
  unfold eVar at h
  split at h
  · rename_i e
    cases h
    exact e
  · cases h
theorem eAny_at {i:Nat} {τ:SEnv} {d:D} (h:eAny i τ=some d):∃ b,τ[i]?=some (some (b,d)):=by
  unfold eAny at h
  split at h
  · rename_i b d' e
    cases h
    exact ⟨_,e⟩
  · cases h
section
variable {X:Cx} {x:Str} {p pos apos cpos p2:Pos} {e a b c o:Expr} {es rest:List Expr} {f fa fb fc:FE} {ft fu:FT} {fs:FA} {F:D→D→Option D} {r:R2}
theorem SE.sb (h:SE X e f):SB X e f:=⟨let ⟨t,p,k⟩:=h.h; ⟨t,p,fun E hf q=>k E hf fun v G' H' x r=>q v G' H' x (r.mono x.gh)⟩⟩
theorem SF.se (h:SF X e f):SE X e f:=⟨let ⟨t,p,k⟩:=h.h; ⟨t,p,fun E hf q=>k E hf fun p G' H' x hp gp o=>by
  obtain ⟨u,hu,r⟩:=o.frz gp
  exact q _ _ _ (x.frz hp gp hu) r⟩⟩
theorem sb_of (h:SE X e f):SB X e f:=h.sb
theorem se_of (h:SF X e f):SE X e f:=h.se
theorem se_var (i:Nat) {x:Str} {pos:Pos} (hN:X.N[i]?=some x:=by rfl) (hv:Vis X.env.scope x:=by first | exact Or.inl rfl | exact Or.inr (Or.inl rfl) | exact Or.inr (Or.inr rfl)) (hd:(x == ("__debug__" : Str))=false:=by decide)
    (hcd:(x == ("__classdict__" : Str))=false:=by decide):SE X (.Name x pos) (eVar i):=⟨⟨_,pe_var hN hv hd hcd,fun E hf q=>by
  obtain ⟨v,e,r⟩:=E.fr _ _ (eVar_at hf)
  exact ⟨v,e,q v _ _ (Ext.refl E.ext.gh) r⟩⟩⟩
theorem se_c {v:V} {d:D} (h:PE X e (tC v)) (r:∀ H,Rep X.K H d v):SE X e (eC d):=⟨⟨_,h,fun E hf q=>by
  cases hf
  exact q v _ _ (Ext.refl E.ext.gh) (r _)⟩⟩
theorem se_int {i k pos}:SE X (.Constant (.int i) k pos) (eC (.int i)):=se_c pe_int fun _=>rfl
theorem se_bl {i k pos}:SE X (.Constant (.bool i) k pos) (eC (.bl i)):=se_c pe_bl fun _=>rfl
theorem se_non {k pos}:SE X (.Constant .none k pos) (eC .non):=se_c pe_non fun _=>rfl
theorem se_str {x k pos} (h:x.length≤1000:=by decide):SE X (.Constant (.str x) k pos) (eC (.str x)):=se_c pe_str fun _=>⟨rfl,small h⟩
theorem se_gl {v:V} {d:D} (h:Glb X.mg x v) (r:∀ H,Rep X.K H d v) (hg:Gl X x) (hd:(x == ("__debug__" : Str))=false:=by decide):SE X (.Name x pos) (eC d):=se_c (pe_gl h hg hd) r
noncomputable def Ok2 (K:PySem.W.Frag) (r:R2) (F:D→D→Option D):Prop:=∀ G H x y u v d (Q:VK),Same G H→Rep K G x u→Rep K G y v→F x y=some d→(∀ w G' H',Ext G H G' H'→Rep K G' d w→Q w H')→r u v H Q
noncomputable def Ok2B (K:PySem.W.Frag) (r:R2) (F:D→D→Option D):Prop:=∀ H x y u v d (Q:VK),Rep K H x u→Rep K H y v→F x y=some d→∃ k,d=.bl k∧(Q (.bl k) H→r u v H Q)
theorem se_bin {op:Operator} (ho:OpR X (binaryOp op) r) (hF:Ok2 X.K r F) (ha:SE X a fa) (hb:SE X b fb):SE X (.BinOp a op b pos) (e2 F fa fb):=by
  obtain ⟨ta,pa,ka⟩:=ha.h
  obtain ⟨tb,pb,kb⟩:=hb.h
  refine ⟨⟨_,pe_op ho pa pb,fun E hf q=>?_⟩⟩
  obtain ⟨x,hx,hf⟩:=bindE hf
  obtain ⟨y,hy,hf⟩:=bindE hf
  refine ka E hx fun v G1 H1 x1 r1=>?_
  refine kb (E.go x1) hy fun u G2 H2 x2 r2=>?_
  exact hF G2 H2 x y v u _ _ x2.gh (r1.mono x2.g) r2 hf fun w G' H' x3 r3=>q w G' H' (x1.trans (x2.trans x3)) r3
theorem se_ix (hr:IxR X r) (hF:Ok2 X.K r F) (ha:SE X a fa) (hb:SE X b fb) (hs:plainIx b=true:=by rfl):SE X (.Subscript a b pos) (e2 F fa fb):=by
  obtain ⟨ta,pa,ka⟩:=ha.h
  obtain ⟨tb,pb,kb⟩:=hb.h
  refine ⟨⟨_,pe_ix hr pa pb (plain_ix hs),fun E hf q=>?_⟩⟩
  obtain ⟨x,hx,hf⟩:=bindE hf
  obtain ⟨y,hy,hf⟩:=bindE hf
  refine ka E hx fun v G1 H1 x1 r1=>?_
  refine kb (E.go x1) hy fun u G2 H2 x2 r2=>?_
  exact hF G2 H2 x y v u _ _ x2.gh (r1.mono x2.g) r2 hf fun w G' H' x3 r3=>q w G' H' (x1.trans (x2.trans x3)) r3
theorem se_cmp {op:CmpOp} (ho:OpR X (compareOp op) r) (hF:Ok2B X.K r F) (ha:SB X a fa) (hb:SB X b fb) (hm:behindInMarks op b=false):SE X (.Compare a [op] [b] pos) (e2 F fa fb):=by
  obtain ⟨ta,pa,ka⟩:=ha.h
  obtain ⟨tb,pb,kb⟩:=hb.h
  refine ⟨⟨_,pe_cmpR ho pa pb hm,fun E hf q=>?_⟩⟩
  obtain ⟨x,hx,hf⟩:=bindE hf
  obtain ⟨y,hy,hf⟩:=bindE hf
  refine ka E hx fun v G1 H1 x1 r1=>?_
  refine kb (E.go x1) hy fun u G2 H2 x2 r2=>?_
  obtain ⟨k,rfl,z⟩:=hF H2 x y v u _ _ (r1.mono x2.h) r2 hf
  exact z (q _ _ _ (x1.trans x2) rfl)
theorem st_cmp {op:CmpOp} (ho:OpR X (compareOp op) r) (hF:Ok2B X.K r F) (ha:SB X a fa) (hb:SB X b fb) (hm:behindInMarks op b=false):ST X (.Compare a [op] [b] pos) (tE (e2 F fa fb)):=by
  obtain ⟨ta,pa,ka⟩:=ha.h
  obtain ⟨tb,pb,kb⟩:=hb.h
  refine ⟨⟨_,pt_cmpR ho pa pb hm,fun E hf q=>?_⟩⟩
  obtain ⟨z,hz,hf⟩:=bindE hf
  obtain ⟨x,hx,hz⟩:=bindE hz
  obtain ⟨y,hy,hz⟩:=bindE hz
  refine ka E hx fun v G1 H1 x1 r1=>?_
  refine kb (E.go x1) hy fun u G2 H2 x2 r2=>?_
  obtain ⟨k,rfl,z⟩:=hF H2 x y v u _ _ (r1.mono x2.h) r2 hz
  cases hf
  exact z ⟨_,rfl,q _ _ (x1.trans x2)⟩
theorem st_val (h:SE X e f) (he:plainTest e=true:=by rfl):ST X e (tE f):=by
  obtain ⟨t,p,k⟩:=h.h
  refine ⟨⟨_,pt_val p (plain_test he),fun E hf q=>?_⟩⟩
  obtain ⟨z,hz,hf⟩:=bindE hf
  refine k E hz fun v G' H' x r=>?_
  cases z<;>first | cases hf | skip
  cases r
  exact ⟨_,rfl,q _ _ x⟩
theorem sw_and1 (h:ST X a ft):SW X (.BoolOp .And [a] pos) ft:=⟨let ⟨t,p,k⟩:=h.h; ⟨t,pw_and1 p,k⟩⟩
theorem sw_or1 (h:ST X a ft):SW X (.BoolOp .Or [a] pos) ft:=⟨let ⟨t,p,k⟩:=h.h; ⟨t,pw_or1 p,k⟩⟩
theorem sw_and (ha:ST X a ft) (hb:SW X (.BoolOp .And (b::rest) pos) fu):SW X (.BoolOp .And (a::b::rest) pos) (tAndF ft fu):=by
  obtain ⟨ta,pa,ka⟩:=ha.h
  obtain ⟨tb,pb,kb⟩:=hb.h
  refine ⟨⟨_,pw_and pa pb,fun E hf q=>?_⟩⟩
  obtain ⟨k,hk,hf⟩:=bindE hf
  refine ka E hk fun G1 H1 x1=>?_
  cases k with
  | true=>exact iteT (kb (E.go x1) hf fun G' H' x2=>q _ _ (x1.trans x2))
  | false=>cases hf; exact iteF (q _ _ x1)
theorem sw_or (ha:ST X a ft) (hb:SW X (.BoolOp .Or (b::rest) pos) fu):SW X (.BoolOp .Or (a::b::rest) pos) (tOrF ft fu):=by
  obtain ⟨ta,pa,ka⟩:=ha.h
  obtain ⟨tb,pb,kb⟩:=hb.h
  refine ⟨⟨_,pw_or pa pb,fun E hf q=>?_⟩⟩
  obtain ⟨k,hk,hf⟩:=bindE hf
  refine ka E hk fun G1 H1 x1=>?_
  cases k with
  | false=>exact iteF (kb (E.go x1) hf fun G' H' x2=>q _ _ (x1.trans x2))
  | true=>cases hf; exact iteT (q _ _ x1)
theorem sw_t (h:SW X e ft):ST X e ft:=⟨let ⟨t,p,k⟩:=h.h; ⟨t,p.pt,k⟩⟩
theorem st_not (h:ST X a ft):ST X (.UnaryOp .Not a pos) (tNotF ft):=by
  obtain ⟨ta,pa,ka⟩:=h.h
  refine ⟨⟨_,pt_not pa,fun E hf q=>?_⟩⟩
  obtain ⟨k,hk,hf⟩:=bindE hf
  cases hf
  exact ka E hk fun G1 H1 x1=>q _ _ x1
theorem se_if (hc:ST X c ft) (ha:SE X a fa) (hb:SE X b fb):SE X (.IfExp c a b pos) (eIf ft fa fb):=by
  obtain ⟨tc,pc,kc⟩:=hc.h
  obtain ⟨ta,pa,ka⟩:=ha.h
  obtain ⟨tb,pb,kb⟩:=hb.h
  refine ⟨⟨_,pe_ifExp pc pa pb,fun E hf q=>?_⟩⟩
  obtain ⟨k,hk,hf⟩:=bindE hf
  refine kc E hk fun G1 H1 x1=>?_
  cases k with
  | true=>exact iteT (ka (E.go x1) hf fun v G' H' x2 r2=>q v _ _ (x1.trans x2) r2)
  | false=>exact iteF (kb (E.go x1) hf fun v G' H' x2 r2=>q v _ _ (x1.trans x2) r2)
theorem sa_nil:SA X [] aNil:=⟨⟨_,pa_nil,fun E hf q=>by cases hf; exact q _ _ _ (Ext.refl E.ext.gh) rfl⟩⟩
theorem sa_cons (ha:SE X e f) (hr:SA X es fs) (h:noStar e=true:=by rfl):SA X (e::es) (aCons f fs):=by
  obtain ⟨ta,pa,ka⟩:=ha.h
  obtain ⟨tb,pb,kb⟩:=hr.h
  refine ⟨⟨_,pac pa pb h,fun E hf q=>?_⟩⟩
  obtain ⟨x,hx,hf⟩:=bindE hf
  obtain ⟨xs,hxs,hf⟩:=bindE hf
  cases hf
  refine ka E hx fun v G1 H1 x1 r1=>kb (E.go x1) hxs fun vs G2 H2 x2 r2=>?_
  exact q _ _ _ (x1.trans x2) ⟨v,vs,rfl,r1.mono x2.g,r2⟩
theorem sab_nil:SAB X [] aNil:=⟨⟨_,pa_nil,fun E hf q=>by cases hf; exact q _ _ _ (Ext.refl E.ext.gh) rfl⟩⟩
theorem sab_cons (ha:SB X e f) (hr:SAB X es fs) (h:noStar e=true:=by rfl):SAB X (e::es) (aCons f fs):=by
  obtain ⟨ta,pa,ka⟩:=ha.h
  obtain ⟨tb,pb,kb⟩:=hr.h
  refine ⟨⟨_,pac pa pb h,fun E hf q=>?_⟩⟩
  obtain ⟨x,hx,hf⟩:=bindE hf
  obtain ⟨xs,hxs,hf⟩:=bindE hf
  cases hf
  refine ka E hx fun v G1 H1 x1 r1=>kb (E.go x1) hxs fun vs G2 H2 x2 r2=>?_
  exact q _ _ _ (x1.trans x2) ⟨v,vs,rfl,r1.mono x2.h,r2⟩
theorem sa_ints {is:List Int} (h:intsOf es=some is):SA X es (fun _=>some (is.map D.int)):=⟨⟨_,pa_ints h,fun E hf q=>by cases hf; exact q _ _ _ (Ext.refl E.ext.gh) Reps.ints⟩⟩
theorem se_tup {x1} (h:SA X es fs) (hl:∀ τ ds,fs τ=some ds→ds.length≤1000):SE X (.Tuple es x1 pos) (eTup fs):=by
  obtain ⟨t,pt,k⟩:=h.h
  refine ⟨⟨_,pe_tup pt,fun E hf q=>?_⟩⟩
  obtain ⟨xs,hx,hf⟩:=bindE hf
  cases hf
  have l:xs.length≤sizeLine:=small (hl _ _ hx)
  refine k E hx fun vs G1 H1 x1 r1=>⟨by rw [r1.length]; exact l,fun p hp=>?_⟩
  exact q _ _ _ (x1.trans (Ext.lay x1.gh hp)) ⟨p,vs,rfl,SqT.of upd_same,r1.mono (same_new (x1.gh.free hp) _),l⟩
theorem sf_lst (h:SA X es fs) (hl:∀ τ ds,fs τ=some ds→ds.length≤1000):SF X (.List es pos) (eLst fs):=by
  obtain ⟨t,pt,k⟩:=h.h
  refine ⟨⟨_,pe_lst pt,fun E hf q=>?_⟩⟩
  obtain ⟨xs,hx,hf⟩:=bindE hf
  cases hf
  have l:xs.length≤sizeLine:=small (hl _ _ hx)
  refine k E hx fun vs G1 H1 x1 r1=>⟨by rw [r1.length]; exact l,fun p hp=>?_⟩
  exact q _ _ _ (x1.trans (Ext.layO x1.gh hp)) (x1.h.free hp) (x1.gh.free hp) ⟨vs,upd_same,r1,l⟩
theorem al_nil:∀ (τ:SEnv) ds,aNil τ=some ds→ds.length≤0:=fun _ _ h=>by cases h; exact Nat.le_refl _
theorem al_cons {n:Nat} (h:∀ τ ds,fs τ=some ds→ds.length≤n):∀ τ ds,aCons f fs τ=some ds→ds.length≤n+1:=fun τ ds e=>by
  obtain ⟨x,_,e⟩:=bindE e
  obtain ⟨xs,hx,e⟩:=bindE e
  cases e
  exact Nat.succ_le_succ (h _ _ hx)
theorem al_ints {is:List Int} {n:Nat} (h:is.length≤n):∀ (τ:SEnv) ds,(some (is.map D.int))=some ds→ds.length≤n:=fun _ _ e=>by
  cases e
  rw [List.length_map]
  exact h
theorem al_le {m n:Nat} (h:∀ τ ds,fs τ=some ds→ds.length≤m) (hmn:m≤n):∀ τ ds,fs τ=some ds→ds.length≤n:=fun τ ds e=>Nat.le_trans (h τ ds e) hmn
variable {ps:List Str} {j k:Nat} {FF:List D→Option (Bool×D)} {FL:List D→Option D} {id T:String}
theorem sf_call (h:Has X.prog X.w X.K X.mg X.base x ps k (spF X.K FF)) (hr:Room j X.A) (hg:Gl X x) (ha:SA X (e::es) fs) (hk:k≤j:=by decide) (hdb:(x == ("__debug__" : Str))=false:=by decide)
    (he:(e::es).all noStar=true:=by rfl):SF X (.Call (.Name x p) (e::es) [] pos) (eCallO FF fs):=by
  obtain ⟨t,pt,kt⟩:=ha.h
  refine ⟨⟨_,pe_own h hr hg pt hk hdb he,fun E hf q=>?_⟩⟩
  obtain ⟨ds,hd,hf⟩:=bindE hf
  obtain ⟨⟨o,d⟩,hr,hf⟩:=bindE hf
  cases o with
  | false=>cases hf
  | true=>
    cases hf
    refine kt E hd fun vs G1 H1 x1 r1=>⟨G1,ds,true,_,x1.gh,by rw [List.append_nil]; exact r1,hr,fun p G' H' x2 hp gp o=>?_⟩
    exact q p G' H' (x1.trans x2) (x1.h.free hp) gp o
theorem se_call (h:Has X.prog X.w X.K X.mg X.base x ps k (spF X.K FF)) (hr:Room j X.A) (hg:Gl X x) (ha:SA X (e::es) fs) (hk:k≤j:=by decide) (hdb:(x == ("__debug__" : Str))=false:=by decide)
    (he:(e::es).all noStar=true:=by rfl):SE X (.Call (.Name x p) (e::es) [] pos) (eCall FF fs):=by
  obtain ⟨t,pt,kt⟩:=ha.h
  refine ⟨⟨_,pe_own h hr hg pt hk hdb he,fun E hf q=>?_⟩⟩
  obtain ⟨ds,hd,hf⟩:=bindE hf
  obtain ⟨⟨o,d⟩,hr,hf⟩:=bindE hf
  cases hf
  refine kt E hd fun vs G1 H1 x1 r1=>⟨G1,ds,o,d,x1.gh,by rw [List.append_nil]; exact r1,hr,?_⟩
  cases o with
  | false=>exact fun v G' H' x2 r=>q v G' H' (x1.trans x2) r
  | true=>
    intro p G' H' x2 hp gp o
    obtain ⟨u,hu,r⟩:=o.frz gp
    exact q _ _ _ (x1.trans (x2.frz hp gp hu)) r
noncomputable def OkCB (K:PySem.W.Frag) (r:List V→Hp→VK→Prop) (F:List D→Option D):Prop:=∀ G H ds vs d (Q:VK),Same G H→Reps K H ds vs→F ds=some d→(∀ w G' H',Ext G H G' H'→Rep K G' d w→Q w H')→r vs H Q
noncomputable def OkCG (K:PySem.W.Frag) (r:List V→Hp→VK→Prop) (F:List D→Option D):Prop:=∀ G H ds vs d (Q:VK),Same G H→Reps K G ds vs→F ds=some d→(∀ w G' H',Ext G H G' H'→Rep K G' d w→Q w H')→r vs H Q
theorem se_cb {rc:List V→Hp→VK→Prop} (hc:CallR X (.builtin id) rc) (hF:OkCB X.K rc FL) (hg:Gl X x) (hm:X.mg x=none) (hv:bootBuiltins x=some (.builtin id)) (ha:SAB X (e::es) fs) (hn:x ≠ "__name__" := by decide) (hdb:(x == ("__debug__" : Str))=false:=by decide)
    (he:(e::es).all noStar=true:=by rfl):SE X (.Call (.Name x p) (e::es) [] pos) (eL FL fs):=by
  obtain ⟨t,pt,kt⟩:=ha.h
  refine ⟨⟨_,(qe_callB hc hg hm hv ⟨pt⟩ hn hdb he).h,fun E hf q=>?_⟩⟩
  obtain ⟨ds,hd,hf⟩:=bindE hf
  exact kt E hd fun vs G1 H1 x1 r1=>hF G1 H1 ds vs _ _ x1.gh r1 hf fun w G' H' x2 r2=>q w G' H' (x1.trans x2) r2
theorem se_cty {rc:List V→Hp→VK→Prop} (hc:CallR X (.type T) rc) (hF:OkCB X.K rc FL) (hg:Gl X x) (hm:X.mg x=none) (hv:bootBuiltins x=some (.type T)) (ha:SAB X (e::es) fs) (hn:x ≠ "__name__" := by decide) (hdb:(x == ("__debug__" : Str))=false:=by decide)
    (he:(e::es).all noStar=true:=by rfl):SE X (.Call (.Name x p) (e::es) [] pos) (eL FL fs):=by
  obtain ⟨t,pt,kt⟩:=ha.h
  refine ⟨⟨_,(qe_callTy hc hg hm hv ⟨pt⟩ hn hdb he).h,fun E hf q=>?_⟩⟩
  obtain ⟨ds,hd,hf⟩:=bindE hf
  exact kt E hd fun vs G1 H1 x1 r1=>hF G1 H1 ds vs _ _ x1.gh r1 hf fun w G' H' x2 r2=>q w G' H' (x1.trans x2) r2
theorem se_ctyG {rc:List V→Hp→VK→Prop} (hc:CallR X (.type T) rc) (hF:OkCG X.K rc FL) (hg:Gl X x) (hm:X.mg x=none) (hv:bootBuiltins x=some (.type T)) (ha:SA X (e::es) fs) (hn:x ≠ "__name__" := by decide) (hdb:(x == ("__debug__" : Str))=false:=by decide)
    (he:(e::es).all noStar=true:=by rfl):SE X (.Call (.Name x p) (e::es) [] pos) (eL FL fs):=by
  obtain ⟨t,pt,kt⟩:=ha.h
  refine ⟨⟨_,(qe_callTy hc hg hm hv ⟨pt⟩ hn hdb he).h,fun E hf q=>?_⟩⟩
  obtain ⟨ds,hd,hf⟩:=bindE hf
  exact kt E hd fun vs G1 H1 x1 r1=>hF G1 H1 ds vs _ _ x1.gh r1 hf fun w G' H' x2 r2=>q w G' H' (x1.trans x2) r2
theorem se_un {op:UnaryOp} {ru:V→Hp→VK→Prop} {F1:D→Option D} (ho:UnR X (unaryOp op) ru) (hF:∀ (G H:Hp) x u d (Q:VK),Rep X.K G x u→F1 x=some d→∃ w,(∀ G,Rep X.K G d w)∧(Q w H→ru u H Q)) (ha:SE X a fa):SE X (.UnaryOp op a pos) (e1 F1 fa):=by
  obtain ⟨t,pt,kt⟩:=ha.h
  refine ⟨⟨_,pe_un ho pt,fun E hf q=>?_⟩⟩
  obtain ⟨x,hx,hf⟩:=bindE hf
  refine kt E hx fun v G1 H1 x1 r1=>?_
  obtain ⟨w,rw_,z⟩:=hF G1 H1 x v _ _ r1 hf
  exact z (q w _ _ x1 (rw_ _))
end
end L3
namespace L3
open PySem PySem.Spec PyProof.Rows L2
section
variable {X:Cx} {x:Str} {p pos pos' apos cpos:Pos} {e a b c tg iter elt:Expr} {es ifs:List Expr} {f fa fb:FE} {ft:FT} {fs:FA} {st:Stmt} {sts body:List Stmt} {g g':FS}
theorem sss_nil:SSs X [] sNext:=⟨⟨_,pss_nil,fun {_ _ G H τ σ fl E} K hf q=>by
  cases hf
  exact q σ G H K⟩⟩
theorem FlOk.with {K:PySem.W.Frag} {n:Nat} {G0 H0:Hp} {E E':Ends} {fl:Fl} (h:FlOk K n G0 H0 E fl) (hn:∀ τ,fl=.nx τ→FlOk K n G0 H0 E' (.nx τ)) (hb:∀ τ,fl=.bk τ→FlOk K n G0 H0 E' (.bk τ)) (hc:∀ τ,fl=.ct τ→FlOk K n G0 H0 E' (.ct τ)) (hr:E'.rt=E.rt):FlOk K n G0 H0 E' fl:=by
  cases fl with
  | nx τ=>exact hn τ rfl
  | bk τ=>exact hb τ rfl
  | ct τ=>exact hc τ rfl
  | rt o d=>
    cases o with
    | false=>intro v G H x r; rw [hr]; exact h v G H x r
    | true=>intro v G H x r1 r2 r3; rw [hr]; exact h v G H x r1 r2 r3
theorem sss_cons (h1:SS X st g) (h2:SSs X sts g'):SSs X (st::sts) (sSeq g g'):=by
  obtain ⟨t,p,k⟩:=h1.h
  obtain ⟨t',p',k'⟩:=h2.h
  refine ⟨⟨_,pss_cons p p',fun {G0 H0 G H τ σ fl E} K hf q=>?_⟩⟩
  obtain ⟨f1,h1,hf⟩:=bindE hf
  refine k K h1 ?_
  cases f1 with
  | nx τ'=>exact fun σ' G' H' K'=>k' K' hf q
  | bk τ'=>cases hf; exact q
  | ct τ'=>cases hf; exact q
  | rt o d=>cases hf; exact FlOk.with q (fun _ z=>nomatch z) (fun _ z=>nomatch z) (fun _ z=>nomatch z) rfl
theorem sss_one (h1:SS X st g):SSs X [st] g:=⟨let ⟨t,p,k⟩:=h1.h; ⟨t,pss_one p,k⟩⟩
theorem sss_freeze (i:Nat) (h:SSs X sts g):SSs X sts (sSeq (sFreeze i) g):=by
  obtain ⟨t,p,k⟩:=h.h
  refine ⟨⟨t,p,fun {G0 H0 G H τ σ fl E} K hf q=>?_⟩⟩
  obtain ⟨f1,h1,hf⟩:=bindE hf
  unfold sFreeze at h1
  split at h1
  · rename_i bb d hd
    cases h1
    obtain ⟨G',K',_⟩:=K.freeze hd
    exact k K' hf q
  · cases h1
theorem ss_set {i:Nat} {x:Str} {pos':Pos} (hN:X.N.Nodup) (hi:X.N[i]?=some x) (hx:Loc X.env.scope x) (he:SE X e f) (hs:noComp e=true:=by rfl) (hf:X.fn x=true∨X.env.scope.names.lookup x=some .local:=by first | exact .inl rfl | exact .inr rfl | assumption) :
    SS X (.Assign [.Name x pos'] e pos) (sSet i f):=by
  obtain ⟨t,p,k⟩:=he.h
  refine ⟨⟨_,(qs_set hN hi hx ⟨p⟩ hs hf).h,fun {G0 H0 G H τ σ fl E} K hf q=>?_⟩⟩
  obtain ⟨d,hd,hf⟩:=bindE hf
  cases hf
  exact k K hd fun v G' H' x r=>q _ _ _ ((K.go x).set (List.getElem?_eq_some_iff.mp hi).1 r)
theorem ss_setO {i:Nat} {x:Str} {pos':Pos} (hN:X.N.Nodup) (hi:X.N[i]?=some x) (hx:Loc X.env.scope x) (he:SF X e f) (hs:noComp e=true:=by rfl) (hf:X.fn x=true∨X.env.scope.names.lookup x=some .local:=by first | exact .inl rfl | exact .inr rfl | assumption) :
    SS X (.Assign [.Name x pos'] e pos) (sSetO i f):=by
  obtain ⟨t,p,k⟩:=he.h
  refine ⟨⟨_,(qs_set hN hi hx ⟨p⟩ hs hf).h,fun {G0 H0 G H τ σ fl E} K hf q=>?_⟩⟩
  obtain ⟨d,hd,hf⟩:=bindE hf
  cases hf
  refine k K hd fun p G' H' x hp gp o=>q _ _ _ ((K.go x).setO (List.getElem?_eq_some_iff.mp hi).1 gp (K.ext.h.free hp) o ?_)
  exact K.newO hp
theorem ss_ret (he:SE X e f):SS X (.Return (some e) pos) (sRet f):=by
  obtain ⟨t,p,k⟩:=he.h
  refine ⟨⟨_,ps_ret p,fun {G0 H0 G H τ σ fl E} K hf q=>?_⟩⟩
  obtain ⟨d,hd,hf⟩:=bindE hf
  cases hf
  exact k K hd fun v G' H' x r=>q v _ _ (K.ext.trans x) r
theorem ss_retO (he:SF X e f):SS X (.Return (some e) pos) (sRetO f):=by
  obtain ⟨t,p,k⟩:=he.h
  refine ⟨⟨_,ps_ret p,fun {G0 H0 G H τ σ fl E} K hf q=>?_⟩⟩
  obtain ⟨d,hd,hf⟩:=bindE hf
  cases hf
  exact k K hd fun p G' H' x hp gp o=>q p _ _ (K.ext.trans x) (K.ext.h.free hp) gp o
theorem ss_retV (i:Nat) {x:Str} {pos':Pos} (hN:X.N[i]?=some x:=by rfl) (hv:Vis X.env.scope x:=by first | exact Or.inl rfl | exact Or.inr (Or.inl rfl) | exact Or.inr (Or.inr rfl)) (hd:(x == ("__debug__" : Str))=false:=by decide)
    (hcd:(x == ("__classdict__" : Str))=false:=by decide):SS X (.Return (some (.Name x pos')) pos) (sRetV i):=by
  refine ⟨⟨_,ps_ret (pe_var hN hv hd hcd),fun {G0 H0 G H τ σ fl E} K hf q=>?_⟩⟩
  unfold sRetV at hf
  split at hf
  · rename_i d he
    cases hf
    obtain ⟨p,e,g,z,o⟩:=K.ow _ _ he
    exact ⟨_,e,q p _ _ K.ext z g o⟩
  · cases hf
theorem ss_if {sa sb:List Stmt} (hc:ST X c ft) (ha:SSs X sa g) (hb:SSs X sb g'):SS X (.If c sa sb pos) (sIf ft g g'):=by
  obtain ⟨tc,pc,kc⟩:=hc.h
  obtain ⟨ta,pa,ka⟩:=ha.h
  obtain ⟨tb,pb,kb⟩:=hb.h
  refine ⟨⟨_,ps_if pc pa pb,fun {G0 H0 G H τ σ fl E} K hf q=>?_⟩⟩
  obtain ⟨k,hk,hf⟩:=bindE hf
  refine kc K hk fun G1 H1 x1=>?_
  cases k with
  | true=>exact iteT (ka (K.go x1) hf q)
  | false=>exact iteF (kb (K.go x1) hf q)
theorem ss_while {ft:FT} (hp:PassesOwn (model X.prog X.w) X.A X.env X.xe) (hc:ST X c ft) (hb:SSs X body g):SS X (.While c body [] pos) (sWhile ft g):=by
  obtain ⟨tc,pc,kc⟩:=hc.h
  obtain ⟨tb,pb,kb⟩:=hb.h
  refine ⟨⟨_,ps_while hp pc pb,fun {G0 H0 G H τ σ fl E} K hf q=>?_⟩⟩
  refine ⟨fun m σ H=>∃ τ G,EnvOk X.K X.N.length G0 H0 G H τ σ∧whileG ft g m τ=some fl,⟨FUEL,τ,G,K,hf⟩,?_⟩
  rintro m σ H ⟨τ,G,K,hf⟩
  cases m with
  | zero=>cases hf
  | succ n=>
    obtain ⟨k,hk,hf⟩:=bindE (show (ft τ).bind _=_ from hf)
    refine kc K hk fun G1 H1 x1=>?_
    cases k with
    | false=>
      cases hf
      exact iteF (q _ _ _ (K.go x1))
    | true=>
      obtain ⟨f1,h1,hf⟩:=bindE (show (g τ).bind _=_ from hf)
      refine iteT ⟨fun σ' H'=>∃ τ G,EnvOk X.K X.N.length G0 H0 G H' τ σ'∧whileG ft g n τ=some fl,fun σ' H' z=>⟨n,Nat.lt_succ_self n,z⟩,kb (K.go x1) h1 ?_⟩
      cases f1 with
      | nx τ2=>exact fun σ2 G2 H2 K2=>⟨τ2,G2,K2,hf⟩
      | ct τ2=>exact fun σ2 G2 H2 K2=>⟨τ2,G2,K2,hf⟩
      | bk τ2=>cases hf; exact q
      | rt o d=>cases hf; exact FlOk.with q (fun _ z=>nomatch z) (fun _ z=>nomatch z) (fun _ z=>nomatch z) rfl
theorem FlOk.near {K:PySem.W.Frag} {n:Nat} {G0 H0 Ga Ha:Hp} {E:Ends} {fl:Fl} (x:Ext G0 H0 Ga Ha) (h:FlOk K n G0 H0 E fl):FlOk K n Ga H0 E fl:=by
  cases fl with
  | nx τ=>exact fun σ G H z=>h σ G H (EnvOk.near x z)
  | bk τ=>exact fun σ G H z=>h σ G H (EnvOk.near x z)
  | ct τ=>exact fun σ G H z=>h σ G H (EnvOk.near x z)
  | rt o d=>
    cases o with
    | false=>exact fun v G H y r=>h v G H (x.rebase y) r
    | true=>exact fun p G H y r1 r2 r3=>h p G H (x.rebase y) r1 r2 r3
structure SG (X:Cx) (tg:Expr) (fg:FG):Prop where
  h:∃ t,PG X tg t∧∀ {G0 H0 G H:Hp} {τ τ':SEnv} {σ:St} {d:D} {v:V} {Q:St→Hp→Prop},EnvOk X.K X.N.length G0 H0 G H τ σ→Rep X.K G d v→fg d τ=some τ'→(∀ σ',EnvOk X.K X.N.length G0 H0 G H τ' σ'→Q σ' H)→t v σ H Q
theorem sg_var {i:Nat} {x:Str} (h:QG X (.Name x pos) (gName i)) (hi:X.N[i]?=some x):SG X (.Name x pos) (gVar i):=⟨⟨_,h.h,fun K r hf q=>by
  cases hf
  exact q _ (K.set (List.getElem?_eq_some_iff.mp hi).1 r)⟩⟩
theorem sg_two {i j:Nat} {x y:Str} {p1 p2:Pos} {kk:Nat} (h:QG X (.Tuple [.Name x p1,.Name y p2] kk pos) (gTup X.K 2 (gCons (gName i) (gCons (gName j) gNil)))) (hi:X.N[i]?=some x) (hj:X.N[j]?=some y):SG X (.Tuple [.Name x p1,.Name y p2] kk pos) (gTwo i j):=⟨⟨_,h.h,fun {G0 H0 G H τ τ' σ d v Q} K r hf q=>by
  unfold gTwo at hf
  split at hf
  · rename_i d1 d2
    cases hf
    obtain ⟨a,vs,rfl,sq,⟨v1,r1,rfl,h1,⟨v2,r2,rfl,h2,h3⟩⟩,_⟩:=r
    cases (show r2=[] from h3)
    refine ⟨a,_,rfl,sqT_mono K.ext.gh sq,rfl,v1,_,rfl,v2,_,rfl,rfl,?_⟩
    exact q _ ((K.set (List.getElem?_eq_some_iff.mp hi).1 h1).set (List.getElem?_eq_some_iff.mp hj).1 h2)
  · cases hf⟩⟩
theorem ss_for {fg:FG} (hp:PassesOwn (model X.prog X.w) X.A X.env X.xe) (hc:X.calm=true) (hi:SI X tg iter fs) (hg:SG X tg fg) (hb:SSs X body g) (hs:∀ x,foldedSetIterable iter X.env x=pure x:=by intro _; rfl):SS X (.For tg iter body [] pos) (sFor fs fg g):=by
  obtain ⟨ti,pi,ki⟩:=hi.h
  obtain ⟨tg',pg,kg⟩:=hg.h
  obtain ⟨tb,pb,kb⟩:=hb.h
  refine ⟨⟨_,ps_for hp hc pi pg pb hs,fun {G0 H0 G H τ σ fl E} K hf q=>?_⟩⟩
  obtain ⟨ds,hd,hf⟩:=bindE hf
  refine ki K hd fun J Ga Ha xa _ wk=>?_
  have Ka:=K.go xa
  have q':=FlOk.near Ka.ext q
  refine ⟨fun i m σ H=>m=ds.length - i∧i≤ds.length∧∃ τ G,EnvOk X.K X.N.length Ga H0 G H τ σ∧loopG fg g (ds.drop i) τ=some fl,⟨ds.length,rfl,Nat.zero_le _,τ,Ga,Ka.far,hf⟩,?_⟩
  rintro i m σ H ⟨rfl,hle,τ,G,K,hf⟩
  by_cases hlt:i<ds.length
  · refine .inr ⟨wk.go i G H K.ext.g K.ext.gh hlt,fun σ' H'=>∃ τ G,EnvOk X.K X.N.length Ga H0 G H' τ σ'∧loopG fg g (ds.drop (i+1)) τ=some fl,fun σ' H' z=>⟨ds.length - (i+1),by omega,rfl,hlt,z⟩,fun x H' y=>?_⟩
    obtain ⟨G3,d,x3,ed,rd⟩:=wk.yld i G H x H' K.ext.g K.ext.gh hlt y
    rw [List.drop_eq_getElem_cons hlt] at hf
    rw [List.getElem?_eq_getElem hlt] at ed
    cases ed
    obtain ⟨τ1,h1,hf⟩:=bindE (show (fg _ τ).bind _=_ from hf)
    obtain ⟨f1,h2,hf⟩:=bindE hf
    refine kg (K.go x3) rd h1 fun σ1 K1=>kb K1 h2 ?_
    cases f1 with
    | nx τ2=>exact fun σ2 G2 H2 K2=>⟨τ2,G2,K2,hf⟩
    | ct τ2=>exact fun σ2 G2 H2 K2=>⟨τ2,G2,K2,hf⟩
    | bk τ2=>cases hf; exact q'
    | rt o d=>cases hf; exact FlOk.with q' (fun _ z=>nomatch z) (fun _ z=>nomatch z) (fun _ z=>nomatch z) rfl
  · have e:ds.drop i=[]:=List.drop_eq_nil_of_le (by omega)
    rw [e] at hf
    cases hf
    exact .inl ⟨wk.stop i G H K.ext.g K.ext.gh (by omega),q' _ _ _ K⟩
theorem ints_walk {K:PySem.W.Frag} {G:Hp} {lo:Int} {n:Nat}:Walk K (Itr lo n) G ((List.range n).map fun k:Nat=>D.int (lo+k)) where
  go:=fun i G2 H _ _ hi=>by
    show i<n
    simpa using hi
  yld:=fun i G2 H x H' _ g2 hi y=>by
    obtain ⟨rfl,rfl⟩:=y
    exact ⟨G2,.int (lo+i),Ext.refl g2,by simp at hi; simp [hi],rfl⟩
  stop:=fun i G2 H _ _ hi=>by
    show n≤i
    simpa using hi
theorem si_range1 (hg:Gl X "range") (hm:X.mg "range" = none) (ha:SE X a fa) (hs:noStar a=true:=by rfl):SI X tg (.Call (.Name "range" p) [a] [] pos) (iRange (eC (.int 0)) fa):=by
  obtain ⟨t,pt,k⟩:=(sa_cons ha sa_nil hs).h
  refine ⟨⟨_,pi_range1 hg hm pt (star_cons hs),fun {G0 H0 G H τ σ ds R} K hf q=>?_⟩⟩
  obtain ⟨x,hx,hf⟩:=bindE hf
  cases hx
  obtain ⟨y,hy,hf⟩:=bindE hf
  refine k K (ds:=[y]) (by unfold aCons; rw [hy]; rfl) fun vs G1 H1 x1 r1=>?_
  cases y<;>first | cases hf | skip
  rename_i j
  obtain ⟨v,r,rfl,hv,hr⟩:=r1
  cases (show r=[] from hr)
  cases (show v=.int j from hv)
  change (if (0:Int).natAbs≤LIM∧j.natAbs≤LIM∧(j - 0).toNat≤LIM then _ else _)=_ at hf
  by_cases c:(0:Int).natAbs≤LIM∧j.natAbs≤LIM∧(j - 0).toNat≤LIM
  · rw [if_pos c] at hf
    cases hf
    have c2:j.natAbs≤16777216:=c.2.1
    have c3:(j - 0).toNat≤16777216:=c.2.2
    refine ⟨j,rfl,by omega,by omega,q _ _ _ x1 ?_ ?_⟩
    · rw [List.length_map,List.length_range,sizeLine_eq]; omega
    · have e:(j - 0).toNat=j.toNat:=by omega
      rw [e]
      exact ints_walk
  · rw [if_neg c] at hf
    cases hf
theorem si_range2 (hg:Gl X "range") (hm:X.mg "range" = none) (ha:SE X a fa) (hb:SE X b fb) (hs:noStar a=true:=by rfl) (hs2:noStar b=true:=by rfl):SI X tg (.Call (.Name "range" p) [a,b] [] pos) (iRange fa fb):=by
  obtain ⟨t,pt,k⟩:=(sa_cons ha (sa_cons hb sa_nil hs2) hs).h
  refine ⟨⟨_,pi_range2 hg hm pt (by rw [star_cons hs,star_cons hs2]; rfl) (star_cons hs2),fun {G0 H0 G H τ σ ds R} K hf q=>?_⟩⟩
  obtain ⟨x,hx,hf⟩:=bindE hf
  obtain ⟨y,hy,hf⟩:=bindE hf
  refine k K (ds:=[x,y]) (by unfold aCons; rw [hx,hy]; rfl) fun vs G1 H1 x1 r1=>?_
  cases x with
  | int i=>
    cases y with
    | int j=>
      obtain ⟨v,r,rfl,hv,⟨v2,r2,rfl,hv2,hr⟩⟩:=r1
      cases (show r2=[] from hr)
      cases (show v=.int i from hv)
      cases (show v2=.int j from hv2)
      change (if i.natAbs≤LIM∧j.natAbs≤LIM∧(j - i).toNat≤LIM then _ else _)=_ at hf
      by_cases c:i.natAbs≤LIM∧j.natAbs≤LIM∧(j - i).toNat≤LIM
      · rw [if_pos c] at hf
        have c1:i.natAbs≤16777216:=c.1
        have c2:j.natAbs≤16777216:=c.2.1
        have c3:(j - i).toNat≤16777216:=c.2.2
        cases hf
        refine ⟨i,j,rfl,⟨by omega,by omega,by omega,by omega⟩,q _ _ _ x1 ?_ ints_walk⟩
        rw [List.length_map,List.length_range,sizeLine_eq]; exact c3
      · rw [if_neg c] at hf
        cases hf
    | _=>cases hf
  | _=>cases hf
theorem list_walk {K:PySem.W.Frag} {G:Hp} {a:Addr} {vs:List V} {ds:List D} (sq:SqL K G a vs) (r:Reps K G ds vs):Walk K (Itl K a) G ds where
  go:=fun i G2 H g1 g2 hi=>by
    obtain ⟨v,e,_⟩:=r.get (List.getElem?_eq_getElem hi)
    exact ⟨vs,v,sqL_mono (g1.trans g2) sq,e⟩
  yld:=fun i G2 H x H' g1 g2 hi y=>by
    obtain ⟨rfl,y⟩:=y
    have e:=y vs (sqL_mono (g1.trans g2) sq)
    obtain ⟨d,ed,rd⟩:=r.at e
    exact ⟨G2,d,Ext.refl g2,ed,rd.mono g1⟩
  stop:=fun i G2 H g1 g2 hi=>⟨vs,sqL_mono (g1.trans g2) sq,by rw [r.length]; exact hi⟩
theorem tup_walk {K:PySem.W.Frag} {G:Hp} {a:Addr} {vs:List V} {ds:List D} (sq:SqT K G a vs) (r:Reps K G ds vs):Walk K (Itt K a) G ds where
  go:=fun i G2 H g1 g2 hi=>by
    obtain ⟨v,e,_⟩:=r.get (List.getElem?_eq_getElem hi)
    exact ⟨vs,v,sqT_mono (g1.trans g2) sq,e⟩
  yld:=fun i G2 H x H' g1 g2 hi y=>by
    obtain ⟨rfl,y⟩:=y
    have e:=y vs (sqT_mono (g1.trans g2) sq)
    obtain ⟨d,ed,rd⟩:=r.at e
    exact ⟨G2,d,Ext.refl g2,ed,rd.mono g1⟩
  stop:=fun i G2 H g1 g2 hi=>⟨vs,sqT_mono (g1.trans g2) sq,by rw [r.length]; exact hi⟩
theorem str_walk {K:PySem.W.Frag} {G:Hp} {z:Str}:Walk K (Its z) G (z.cps.toList.map fun c=>D.str ⟨#[c]⟩) where
  go:=fun i G2 H _ _ hi=>by
    rw [List.length_map,Array.length_toList] at hi
    exact hi
  yld:=fun i G2 H x H' _ g2 hi y=>by
    obtain ⟨rfl,c,ec,rfl⟩:=y
    refine ⟨G2,.str ⟨#[c]⟩,Ext.refl g2,?_,rfl,small (n:=1) (by decide)⟩
    rw [List.getElem?_map,Array.getElem?_toList,ec]
    rfl
  stop:=fun i G2 H _ _ hi=>by
    rw [List.length_map,Array.length_toList] at hi
    exact hi
theorem PI.or {w1 w2:TI} (h1:PI X tg e w1) (h2:PI X tg e w2):PI X tg e (fun σ H R=>w1 σ H R∨w2 σ H R):=fun pins s σ H R I q=>by
  rcases q with q | q
  · exact h1 pins s σ H R I q
  · exact h2 pins s σ H R I q
theorem si_seq (h:SE X e f):SI X tg e (iSeq f):=by
  obtain ⟨t,p,k⟩:=h.h
  refine ⟨⟨_,PI.or (pi_list p) (PI.or (pi_tup p) (pi_str p)),fun {G0 H0 G H τ σ ds R} K hf q=>?_⟩⟩
  obtain ⟨d,hd,hf⟩:=bindE hf
  cases d<;>first | cases hf | skip
  · rename_i z
    refine .inr (.inr (k K hd fun v G' H' x r=>?_))
    obtain ⟨rfl,l⟩:=r
    exact ⟨z,rfl,q _ _ _ x (by rw [List.length_map,Array.length_toList]; exact l) str_walk⟩
  · refine .inr (.inl (k K hd fun v G' H' x r=>?_))
    obtain ⟨a,vs,rfl,sq,rs,l⟩:=r
    exact ⟨a,rfl,⟨vs,sqT_mono x.gh sq⟩,q _ _ _ x l (tup_walk sq rs)⟩
  · refine .inl (k K hd fun v G' H' x r=>?_)
    obtain ⟨a,vs,rfl,sq,rs,l⟩:=r
    exact ⟨a,rfl,⟨vs,sqL_mono x.gh sq⟩,q _ _ _ x l (list_walk sq rs)⟩
end
noncomputable def tSE (K:PySem.W.Frag) (n:Nat) (f:FE):TE:=fun σ H Q=>∃ G0 H0 G τ d,EnvOk K n G0 H0 G H τ σ∧f τ=some d∧∀ v G' H',Ext G H G' H'→Rep K G' d v→Q v H'
noncomputable def tST (K:PySem.W.Frag) (n:Nat) (f:FT):TT:=fun σ H Q=>∃ G0 H0 G τ d,EnvOk K n G0 H0 G H τ σ∧f τ=some d∧∀ G' H',Ext G H G' H'→Q d H'
structure STs (X:Cx) (es:List Expr) (f:FT):Prop where
  h:PTs X es (tST X.K X.N.length f)
section
variable {X:Cx} {e c:Expr} {f:FE} {ft:FT}
theorem SE.pe (h:SE X e f):PE X e (tSE X.K X.N.length f):=fun pins s σ H Q I q=>by
  obtain ⟨t,p,k⟩:=h.h
  obtain ⟨G0,H0,G,τ,d,K,hf,z⟩:=q
  exact p pins s σ H Q I (k K hf z)
theorem ST.pt (h:ST X e ft):PT X e (tST X.K X.N.length ft):=fun pins s σ H Q I q=>by
  obtain ⟨t,p,k⟩:=h.h
  obtain ⟨G0,H0,G,τ,d,K,hf,z⟩:=q
  exact p pins s σ H Q I (k K hf z)
theorem sts_nil:STs X [] tTrue:=⟨fun pins s σ H Q I q=>by
  obtain ⟨G0,H0,G,τ,d,K,hf,z⟩:=q
  cases hf
  exact pts_nil pins s σ H Q I (z _ _ (Ext.refl K.ext.gh))⟩
theorem sts_one (h:ST X c ft):STs X [c] ft:=⟨pts_one h.pt⟩
end
theorem EnvOk.more {K:PySem.W.Frag} {n:Nat} {G0 H0 G H:Hp} {τ:SEnv} {σ:St} (k:Nat) (E:EnvOk K n G0 H0 G H τ σ):EnvOk K (n+k) G0 H0 G H (τ++List.replicate k none) (σ++List.replicate k none):=by
  have at_:∀ {i:Nat} {s:Sl},(τ++List.replicate k none)[i]?=some (some s)→τ[i]?=some (some s)∧(σ++List.replicate k none)[i]?=σ[i]?:=fun {i s} h=>by
    have h':=get_tail h
    have hi:i<n:=E.lt h'
    exact ⟨h',List.getElem?_append_left (by rw [E.l1]; exact hi)⟩
  refine ⟨E.ext,by rw [List.length_append,List.length_replicate,E.l1],by rw [List.length_append,List.length_replicate,E.l2],fun i d h=>?_,fun i d h=>?_,fun i j d e p hne h1 h2 h3 h4=>?_⟩
  · obtain ⟨h',e⟩:=at_ h
    rw [e]
    exact E.fr i d h'
  · obtain ⟨h',e⟩:=at_ h
    rw [e]
    exact E.ow i d h'
  · obtain ⟨h1',e1⟩:=at_ h1
    obtain ⟨h2',e2⟩:=at_ h2
    rw [e1] at h3
    rw [e2] at h4
    exact E.ap i j d e p hne h1' h2' h3 h4
theorem lc_walk {K:PySem.W.Frag} {n k:Nat} {G0 H0 Ga Ha:Hp} {τ:SEnv} {σ:St} {J:It} {ds out:List D} {g:TG} {fg:FG} {ft:FT} {f:FE} {Fin:List V→Hp→Prop} (wk:Walk K J Ga ds) (hl:ds.length≤sizeLine) (Ka:EnvOk K n G0 H0 Ga Ha τ σ)
    (hf:lcGo fg ft f (τ++List.replicate k none) ds=some out)
    (kg:∀ G H d v τ' (Q:St→Hp→Prop),EnvOk K (n+k) G0 H0 G H (τ++List.replicate k none) (σ++List.replicate k none)→Rep K G d v→fg d (τ++List.replicate k none)=some τ'→(∀ ρ,EnvOk K (n+k) G0 H0 G H τ' (σ++ρ)→Q (σ++ρ) H)→g v (σ++List.replicate k none) H Q)
    (fin:∀ ys G H,Ext Ga Ha G H→Reps K G out ys→out.length≤sizeLine→Fin ys H) :
    ∃ W:Nat→Nat→List V→Hp→Prop,(∃ m,W 0 m [] Ha)∧lcTurn σ k J g (tST K (n+k) ft) (tSE K (n+k) f) W Fin:=by
  refine ⟨fun i m ys H=>m=ds.length - i∧i≤ds.length∧ys.length≤i∧∃ G done rest,Ext Ga Ha G H∧Reps K G done ys∧lcGo fg ft f (τ++List.replicate k none) (ds.drop i)=some rest∧done++rest=out,⟨ds.length,rfl,Nat.zero_le _,Nat.le_refl _,Ga,[],out,Ext.refl Ka.ext.gh,rfl,hf,rfl⟩,?_⟩
  rintro i m ys H ⟨rfl,hle,hys,G,done,rest,x,rd,hf,eo⟩
  by_cases hlt:i<ds.length
  · refine .inr ⟨wk.go i G H x.g x.gh hlt,by omega,fun ys H=>ys.length≤i+1∧∃ G done rest,Ext Ga Ha G H∧Reps K G done ys∧lcGo fg ft f (τ++List.replicate k none) (ds.drop (i+1))=some rest∧done++rest=out,fun ys' H' z=>⟨ds.length - (i+1),by omega,rfl,hlt,z.1,z.2⟩,fun v H' y=>?_⟩
    obtain ⟨G3,d,x3,ed,rv⟩:=wk.yld i G H v H' x.g x.gh hlt y
    rw [List.drop_eq_getElem_cons hlt] at hf
    rw [List.getElem?_eq_getElem hlt] at ed
    cases ed
    obtain ⟨τ1,h1,hf⟩:=bindE (show (fg _ _).bind _=_ from hf)
    obtain ⟨kk,h2,hf⟩:=bindE hf
    have K3:=((Ka.go x).go x3).more k
    refine kg G3 H' _ v τ1 _ K3 rv h1 fun ρ K4=>⟨⟨ρ,rfl⟩,_,_,_,_,kk,K4,h2,fun G5 H5 x5=>?_⟩
    cases kk with
    | false=>exact iteF ⟨by omega,G5,done,rest,x.trans (x3.trans x5),rd.mono (x3.g.trans x5.g),hf,eo⟩
    | true=>
      obtain ⟨z,hz,hf⟩:=bindE (show (f _).bind _=_ from hf)
      obtain ⟨more,hm,hf⟩:=bindE hf
      cases hf
      refine iteT ⟨_,_,_,_,z,K4.go x5,hz,fun u G6 H6 x6 r6=>⟨by rw [List.length_append]; exact Nat.succ_le_succ hys,G6,done++[z],more,x.trans (x3.trans (x5.trans x6)),(rd.mono (x3.g.trans (x5.g.trans x6.g))).append (Reps.one r6),hm,?_⟩⟩
      rw [List.append_assoc]
      exact eo
  · have e:ds.drop i=[]:=List.drop_eq_nil_of_le (by omega)
    rw [e] at hf
    cases hf
    rw [List.append_nil] at eo
    subst eo
    refine .inl ⟨wk.stop i G H x.g x.gh (by omega),fin ys G H x rd ?_⟩
    rw [← rd.length]
    omega
section
variable {X:Cx} {tg iter elt:Expr} {ifs:List Expr} {scope:Scope} {cl:List (Str×Addr)} {own:List Str} {pos:Pos} {fs:FA} {fg:FG} {ft:FT} {f:FE} {g:TG}
theorem set_tail {α:Type} (xs:List α) (y:α) (ys:List α) {n:Nat} (h:n=xs.length) (z:α):(xs++y::ys).set n z=xs++z::ys:=by
  subst h
  rw [List.set_append_right _ _ (Nat.le_refl _),Nat.sub_self]
  rfl
structure BG (X:Cx) (scope:Scope) (cl:List (Str×Addr)) (own:List Str) (tg:Expr) (g:TG) (fg:FG):Prop where
  q:∀ C s H fp pn,QG (cxBlk X scope cl own C s H fp pn) tg g
  k:∀ {G0 H0:Hp} {τ:SEnv} {σ:St},τ.length=X.N.length→σ.length=X.N.length→∀ G H d v τ' (Q:St→Hp→Prop),EnvOk X.K (X.N.length+own.length) G0 H0 G H (τ++List.replicate own.length none) (σ++List.replicate own.length none)→Rep X.K G d v→fg d (τ++List.replicate own.length none)=some τ'→
    (∀ ρ,EnvOk X.K (X.N.length+own.length) G0 H0 G H τ' (σ++ρ)→Q (σ++ρ) H)→g v (σ++List.replicate own.length none) H Q
theorem bg_one {x:Str} {i:Nat} (q:∀ C s H fp pn,QG (cxBlk X scope cl [x] C s H fp pn) tg (gName i)) (hi:i=X.N.length):BG X scope cl [x] tg (gName i) (gVar i):=⟨q,fun {G0 H0 τ σ} l1 l2 G H d v τ' Q E r hf k=>by
  cases hf
  have E':=E.set (i:=i) (v:=v) (by rw [hi]; exact Nat.lt_succ_self _) r
  have es:(σ++List.replicate 1 none).set i (some v)=σ++[some v]:=set_tail σ none [] (hi.trans l2.symm) (some v)
  show Q ((σ++List.replicate 1 none).set i (some v)) H
  rw [es]
  refine k [some v] ?_
  rw [← es]
  exact E'⟩
theorem blk_len (X:Cx) (own:List Str):(blkN X.N own).length=X.N.length+own.length:=by
  unfold blkN
  rw [List.length_append,List.length_map]
theorem blk_pe {C:Addr} {s:Shared} {H:Hp} {fp:List Addr} {pn:List (Addr×Obj)} (h:SE (cxBlk X scope cl own C s H fp pn) elt f):PE (cxBlk X scope cl own C s H fp pn) elt (tSE X.K (X.N.length+own.length) f):=by
  have q:=h.pe
  rw [show (cxBlk X scope cl own C s H fp pn).N.length=X.N.length+own.length from blk_len X own] at q
  exact q
theorem blk_pts {C:Addr} {s:Shared} {H:Hp} {fp:List Addr} {pn:List (Addr×Obj)} (h:STs (cxBlk X scope cl own C s H fp pn) ifs ft):PTs (cxBlk X scope cl own C s H fp pn) ifs (tST X.K (X.N.length+own.length) ft):=by
  have q:=h.h
  rw [show (cxBlk X scope cl own C s H fp pn).N.length=X.N.length+own.length from blk_len X own] at q
  exact q
theorem sf_lc (hcalm:X.calm=true) (B:Blk X scope cl own) (hi:SI X tg iter fs) (hg:BG X scope cl own tg g fg) (hc:∀ C s H fp pn,STs (cxBlk X scope cl own C s H fp pn) ifs ft)
    (he:∀ C s H fp pn,SE (cxBlk X scope cl own C s H fp pn) elt f) (hs:∀ x,foldedSetIterable iter X.env x=pure x:=by intro _; rfl) :
    SF X (.ListComp elt [⟨tg,iter,ifs,0⟩] scope pos) (eLc own.length fs fg ft f):=by
  obtain ⟨ti,pi,ki⟩:=hi.h
  refine ⟨⟨_,pe_lc hcalm B pi (fun C s H fp pn=>(hg.q C s H fp pn).h) (fun C s H fp pn=>blk_pts (hc C s H fp pn)) (fun C s H fp pn=>blk_pe (he C s H fp pn)) hs,fun {G0 H0 G H τ σ d Q} K hf q=>?_⟩⟩
  obtain ⟨ds,hd,hf⟩:=bindE hf
  obtain ⟨out,ho,hf⟩:=bindE hf
  cases hf
  refine ki K hd fun J Ga Ha xa l wk=>lc_walk wk l (K.go xa) ho (hg.k K.l2 K.l1) fun ys G1 H1 x1 r1 l1 p hp=>?_
  exact q p _ _ (xa.trans (x1.trans (Ext.layO x1.gh hp))) (xa.h.free (x1.h.free hp)) (x1.gh.free hp) ⟨ys,upd_same,r1,l1⟩
theorem ss_lcO {i:Nat} {x:Str} {px spos:Pos} (hcalm:X.calm=true) (hN:X.N.Nodup) (hix:X.N[i]?=some x) (hx:X.env.scope.names.lookup x=some .local) (B:Blk X scope cl own)
    (hsw:swapsWith (.ListComp elt [⟨tg,iter,ifs,0⟩] scope pos) (some (.Name x px)) spos.line X.env=pure true) (hi:SI X tg iter fs) (hg:BG X scope cl own tg g fg) (hc:∀ C s H fp pn,STs (cxBlk X scope cl own C s H fp pn) ifs ft)
    (he:∀ C s H fp pn,SE (cxBlk X scope cl own C s H fp pn) elt f) (hs:∀ x,foldedSetIterable iter X.env x=pure x:=by intro _; rfl) :
    SS X (.Assign [.Name x px] (.ListComp elt [⟨tg,iter,ifs,0⟩] scope pos) spos) (sSetO i (eLc own.length fs fg ft f)):=by
  obtain ⟨ti,pi,ki⟩:=hi.h
  refine ⟨⟨_,ps_setLc hcalm hN hix hx B hsw pi (fun C s H fp pn=>(hg.q C s H fp pn).h) (fun C s H fp pn=>blk_pts (hc C s H fp pn)) (fun C s H fp pn=>blk_pe (he C s H fp pn)) hs,fun {G0 H0 G H τ σ fl E} K hf q=>?_⟩⟩
  obtain ⟨d,hf1,hf⟩:=bindE hf
  cases hf
  obtain ⟨ds,hd,hf1⟩:=bindE hf1
  obtain ⟨out,ho,hf1⟩:=bindE hf1
  cases hf1
  refine ki K hd fun J Ga Ha xa l wk=>lc_walk wk l (K.go xa) ho (hg.k K.l2 K.l1) fun ys G1 H1 x1 r1 l1 p hp=>?_
  have K1:=(K.go xa).go x1
  have K2:=K1.go (Ext.layO (o:=.lst ys) x1.gh hp)
  exact q _ _ _ (K2.setO (List.getElem?_eq_some_iff.mp hix).1 (x1.gh.free hp) (K1.ext.h.free hp) ⟨ys,upd_same,r1,l1⟩ (K1.newO hp))
theorem ss_lc {i:Nat} {x:Str} {px spos:Pos} (hcalm:X.calm=true) (hN:X.N.Nodup) (hix:X.N[i]?=some x) (hx:X.env.scope.names.lookup x=some .local) (B:Blk X scope cl own)
    (hsw:swapsWith (.ListComp elt [⟨tg,iter,ifs,0⟩] scope pos) (some (.Name x px)) spos.line X.env=pure true) (hi:SI X tg iter fs) (hg:BG X scope cl own tg g fg) (hc:∀ C s H fp pn,STs (cxBlk X scope cl own C s H fp pn) ifs ft)
    (he:∀ C s H fp pn,SE (cxBlk X scope cl own C s H fp pn) elt f) (hs:∀ x,foldedSetIterable iter X.env x=pure x:=by intro _; rfl) :
    SS X (.Assign [.Name x px] (.ListComp elt [⟨tg,iter,ifs,0⟩] scope pos) spos) (sSet i (eLc own.length fs fg ft f)):=by
  obtain ⟨ti,pi,ki⟩:=hi.h
  refine ⟨⟨_,ps_setLc hcalm hN hix hx B hsw pi (fun C s H fp pn=>(hg.q C s H fp pn).h) (fun C s H fp pn=>blk_pts (hc C s H fp pn)) (fun C s H fp pn=>blk_pe (he C s H fp pn)) hs,fun {G0 H0 G H τ σ fl E} K hf q=>?_⟩⟩
  obtain ⟨d,hf1,hf⟩:=bindE hf
  cases hf
  obtain ⟨ds,hd,hf1⟩:=bindE hf1
  obtain ⟨out,ho,hf1⟩:=bindE hf1
  cases hf1
  refine ki K hd fun J Ga Ha xa l wk=>lc_walk wk l (K.go xa) ho (hg.k K.l2 K.l1) fun ys G1 H1 x1 r1 l1 p hp=>?_
  have K2:=((K.go xa).go x1).go (Ext.lay (o:=.lst ys) x1.gh hp)
  exact q _ _ _ (K2.set (List.getElem?_eq_some_iff.mp hix).1 ⟨p,ys,rfl,SqL.of upd_same,r1.mono (same_new (x1.gh.free hp) _),l1⟩)
end
section
variable {K:PySem.W.Frag} {n:Nat} {G0 H0 G H:Hp} {τ:SEnv} {σ:St}
theorem EnvOk.mut {i:Nat} {d d':D} {p:Addr} {o:HO} (E:EnvOk K n G0 H0 G H τ σ) (hi:τ[i]?=some (some (true,d))) (hp:σ[i]?=some (some (.ref p))) (new:OwnAt K G (upd H p o) d' p):EnvOk K n G0 H0 G (upd H p o) (τ.set i (some (true,d'))) σ:=by
  obtain ⟨p',e,g,z,_⟩:=E.ow i d hi
  rw [hp] at e
  cases e
  have keep:∀ {H1:Hp},H1 p=none→Same H1 H→Same H1 (upd H p o):=fun {H1} h s b u q=>by
    rw [upd_ne (ne_of_none q h)]
    exact s _ _ q
  refine ⟨⟨E.ext.g,keep z E.ext.h,keep g E.ext.gh,E.ext.new⟩,E.l1,by rw [List.length_set]; exact E.l2,fun j e h=>?_,fun j e h=>?_,fun j k e f q hne h1 h2 h3 h4=>?_⟩
  · rcases set_get h with ⟨rfl,w⟩ | ⟨ne,w⟩
    · cases w
    · exact E.fr j e w
  · rcases set_get h with ⟨rfl,w⟩ | ⟨ne,w⟩
    · cases w
      exact ⟨p,hp,g,z,new⟩
    · obtain ⟨q,eq,gq,zq,oq⟩:=E.ow j e w
      refine ⟨q,eq,gq,zq,?_⟩
      have hne:q≠p:=fun c=>by
        subst c
        exact E.ap i j d e q (fun c=>ne c.symm) hi w hp eq
      cases e with
      | lst ds=>obtain ⟨vs,ev,r⟩:=oq; exact ⟨vs,by rw [upd_ne hne]; exact ev,r⟩
      | dic ks ds=>obtain ⟨vs,ev,r⟩:=oq; exact ⟨vs,by rw [upd_ne hne]; exact ev,r⟩
      | _=>exact oq.elim
  · have t:∀ {j:Nat} {e:D},(τ.set i (some (true,d')))[j]?=some (some (true,e))→∃ e,τ[j]?=some (some (true,e)):=fun {j e} h=>by
      rcases set_get h with ⟨rfl,_⟩ | ⟨_,w⟩
      · exact ⟨_,hi⟩
      · exact ⟨_,w⟩
    obtain ⟨e1,w1⟩:=t h1
    obtain ⟨e2,w2⟩:=t h2
    exact E.ap j k e1 e2 q hne w1 w2 h3 h4
end
section
variable {X:Cx} {x:Str} {xp pos apos cpos:Pos} {e:Expr} {f:FE}
theorem ss_append {i:Nat} (ho:QE X (.Name x xp) (tVar i)) (he:SE X e f) (hbase:attributeBase (.Name x xp) "append" X.env (eval (.Name x xp) X.env)=eval (.Name x xp) X.env:=by rfl) (hline:(apos.endLine == cpos.line)=true:=by rfl) (hs:noStar e=true:=by rfl) :
    SS X (.Expr (.Call (.Attribute (.Name x xp) "append" apos) [e] [] cpos) pos) (sMut1 i fApp f):=by
  obtain ⟨t,p,k⟩:=(sa_cons he sa_nil hs).h
  refine ⟨⟨_,(qs_expr (qe_bm PySem.F.plainAttrs_list PySem.F.slot_list_append PySem.F.type_list_append mt_append ho ⟨p⟩ hbase hline (by rw [List.all_cons,hs]; rfl) (by show 1<30; decide)) rfl).h,fun {G0 H0 G H τ σ fl E} K hf q=>?_⟩⟩
  unfold sMut1 at hf
  split at hf
  · rename_i d hd
    obtain ⟨y,hy,hf⟩:=bindE hf
    obtain ⟨d',hd',hf⟩:=bindE hf
    cases hf
    obtain ⟨a,ea,g,z,o⟩:=K.ow _ _ hd
    cases d with
    | lst ds=>
      obtain ⟨vs,ev,rs,l⟩:=o
      refine ⟨_,ea,.inl ⟨rfl,vs,SqL.of ev⟩,k K (ds:=[y]) (by unfold aCons; rw [hy]; rfl) fun us G1 H1 x1 r1=>?_⟩
      obtain ⟨u,r,rfl,hu,hr⟩:=r1
      cases (show r=[] from hr)
      change (if ds.length<LIM then some (D.lst (ds++[y])) else none)=some d' at hd'
      by_cases c:ds.length<LIM
      · rw [if_pos c] at hd'
        cases hd'
        refine ⟨a,vs,u,rfl,rfl,x1.h _ _ ev,by rw [rs.length,sizeLine_eq]; exact c,?_⟩
        refine q _ _ _ ((K.go x1).mut hd ea ⟨vs++[u],upd_same,(rs.mono x1.g).append (Reps.one hu),?_⟩)
        rw [List.length_append,sizeLine_eq]
        exact c
      · rw [if_neg c] at hd'
        cases hd'
    | _=>cases hd'
  · cases hf
end
section
variable {P:Program} {w:World} {K:PySem.W.Frag} {mg:Str→Option Value} {base:Heap}
theorem map_get {α β:Type} {ds:List α} {k i:Nat} {h:α→Option β} {y:β} (e:(ds.map h++List.replicate k none)[i]?=some (some y)):∃ d,ds[i]?=some d∧h d=some y:=by
  have e':=get_tail e
  rw [List.getElem?_map] at e'
  cases q:ds[i]? with
  | none=>rw [q] at e'; cases e'
  | some d=>
    rw [q] at e'
    exact ⟨d,rfl,Option.some.inj e'⟩
theorem env_start {N:List Str} {G H:Hp} {ds:List D} {vs:List V} (s:Same G H) (r:Reps K G ds vs) (hl:ds.length≤N.length):EnvOk K N.length G H G H (ds.map (fun d=>some (false,d))++List.replicate (N.length - ds.length) none) (L2.start N vs):=by
  have l:=r.length
  refine ⟨Ext.refl s,?_,?_,fun i d h=>?_,fun i d h=>?_,fun i j d e p _ h1=>?_⟩
  · unfold L2.start
    rw [List.length_append,List.length_map,List.length_replicate]
    omega
  · rw [List.length_append,List.length_map,List.length_replicate]
    omega
  · obtain ⟨d',e,z⟩:=map_get h
    cases z
    obtain ⟨v,ev,rv⟩:=r.get e
    refine ⟨v,?_,rv⟩
    unfold L2.start
    rw [List.getElem?_append_left (by rw [List.length_map]; exact (List.getElem?_eq_some_iff.mp ev).1),List.getElem?_map,ev]
    rfl
  · obtain ⟨d',e,z⟩:=map_get h
    cases z
  · obtain ⟨d',e,z⟩:=map_get h1
    cases z
theorem Def.okS {x:Str} {st:Stmt} {N ps:List Str} {k:Nat} {F:List D→Option (Bool×D)} {b:FS} (d:Def K mg x st ps) (S:FnScope N ps (defScope st)) (hN:ps.length≤N.length) (hF:∀ ds r,F ds=some r→ds.length=ps.length∧runF N.length b ds=some r)
    (hb:∀ (f:Addr) (cdv:Value) (A:Around) (outer:List Env) (s:Shared) (H:Hp) (E:XK),Room k (A.deeper (envOfC x (defScope st) s.heap.objs.size f cdv))→SSs (cxOf CX0 P w K mg base N x (defScope st) f cdv A outer s H E).nox (defBody st) b):Has P w K mg base x ps (k+1) (spF K F):=by
  refine d.ok S (fun vs H Q E h=>?_) fun f cdv A outer s H vs Q E hr h=>?_
  · obtain ⟨G,ds,o,dd,_,r,e,_⟩:=h
    rw [r.length,(hF _ _ e).1]
  · obtain ⟨G,ds,o,dd,s',r,e,q⟩:=h
    obtain ⟨l,hrun⟩:=hF _ _ e
    obtain ⟨t,p,kt⟩:=(hb f cdv A outer s H E hr).h
    obtain ⟨fl,hfl,hrun⟩:=bindE hrun
    refine ⟨t,p,kt (env_start (N:=N) s' r (by omega)) hfl ?_⟩
    cases fl with
    | nx τ=>
      cases hrun
      exact fun σ G' H' z=>q .non G' H' z.ext rfl
    | rt o' d'=>
      cases hrun
      cases o with
      | false=>exact q
      | true=>exact q
    | _=>cases hrun
end
end L3
namespace L3
open PySem PySem.Spec PyProof.Rows L2
section
variable {P:Program} {w:World} {K:PySem.W.Frag} {mg:Str→Option Value} {base:Heap}
end
end L3
namespace L3
open PySem PySem.Spec PyProof.Rows L2
section
variable {X:Cx} {K:PySem.W.Frag}
theorem ok_I {C:Int→Int→Prop} {Cb:Int→Int→Bool} {g:Int→Int→Int} (h:∀ i j,Cb i j=true→C i j):Ok2 K (rI C fun i j=>.int (g i j)) (fI Cb g):=fun G H x y u v d Q s rx ry hf q=>by
  cases x<;>first | (cases hf; done) | skip
  cases y<;>first | (cases hf; done) | skip
  rename_i i j
  change (match Cb i j with | true=>some (D.int (g i j)) | false=>none)=some d at hf
  cases c:Cb i j with
  | false=>rw [c] at hf; cases hf
  | true=>
    rw [c] at hf
    cases hf
    exact ⟨i,j,rx,ry,h i j c,q _ _ _ (Ext.refl s) rfl⟩
theorem ok_bit {g:Int→Int→Int}:Ok2 K (rI0 fun i j=>.int (g i j)) (fBit g):=fun G H x y u v d Q s rx ry hf q=>by
  cases x<;>first | (cases hf; done) | skip
  cases y<;>first | (cases hf; done) | skip
  cases hf
  exact ⟨_,_,rx,ry,q _ _ _ (Ext.refl s) rfl⟩
theorem ok_sub:Ok2 K (rI0 fun i j=>.int (i - j)) fSub:=fun G H x y u v d Q s rx ry hf q=>by
  cases x<;>first | (cases hf; done) | skip
  cases y<;>first | (cases hf; done) | skip
  cases hf
  exact ⟨_,_,rx,ry,q _ _ _ (Ext.refl s) rfl⟩
theorem lt64_of {i:Int} (h:lt64 i=true) : -(2 ^ 64)<i∧i<2 ^ 64:=by
  unfold lt64 at h
  rw [Bool.and_eq_true] at h
  exact ⟨of_decide_eq_true h.1,of_decide_eq_true h.2⟩
theorem ok_mulL:Ok2 K (rI CMul fun i j=>.int (i*j)) fMulL:=ok_I fun _ _ h=>.inl (lt64_of h)
theorem ok_mulR:Ok2 K (rI CMul fun i j=>.int (i*j)) fMulR:=ok_I fun _ _ h=>.inr (lt64_of h)
theorem ok_mod:Ok2 K (rI (fun _ j=>0<j) fun i j=>.int (i % j)) fMod:=ok_I fun _ _ h=>of_decide_eq_true h
theorem ok_div:Ok2 K (rI (fun _ j=>0<j∧j<2 ^ 64) fun i j=>.int (i / j)) fDiv:=ok_I fun _ _ h=>by
  rw [Bool.and_eq_true] at h
  exact ⟨of_decide_eq_true h.1,of_decide_eq_true h.2⟩
theorem powOk_of {i j:Int} (h:powOk i j=true):CPow i j:=by
  unfold powOk at h
  rw [Bool.and_eq_true,Bool.and_eq_true] at h
  exact ⟨of_decide_eq_true h.1,of_decide_eq_true h.2.1,of_decide_eq_true h.2.2⟩
theorem ok_pow:Ok2 K (rI CPow fun i j=>.int (i ^ j.toNat)) fPow:=ok_I fun _ _ h=>powOk_of h
theorem ok_shl:Ok2 K (rI CPow fun i j=>.int (i*2 ^ j.toNat)) fShl:=ok_I fun _ _ h=>powOk_of h
theorem ok_shr:Ok2 K (rI (fun _ j=>0≤j) fun i j=>.int (i / 2 ^ j.toNat)) fShr:=ok_I fun _ _ h=>of_decide_eq_true h
theorem ok_cmp {g:Int→Int→Bool}:Ok2B K (rI0 fun i j=>.bl (g i j)) (fCmp g):=fun H x y u v d Q rx ry hf=>by
  cases x<;>first | (cases hf; done) | skip
  cases y<;>first | (cases hf; done) | skip
  cases hf
  exact ⟨_,rfl,fun q=>⟨_,_,rx,ry,q⟩⟩
theorem isNon_of {H:Hp} {x:D} {u:V} (r:Rep K H x u):isNon x=decide (u=.non):=by
  cases x with
  | non=>cases r; rfl
  | bl b=>cases r; rfl
  | int b=>cases r; rfl
  | str b=>obtain ⟨rfl,_⟩:=r; rfl
  | tup b=>obtain ⟨a,vs,rfl,_⟩:=r; rfl
  | lst b=>obtain ⟨a,vs,rfl,_⟩:=r; rfl
  | dic b c=>obtain ⟨a,vs,rfl,_⟩:=r; rfl
theorem ok_isN:Ok2B K (fun x y H Q=>y=.non∧Q (.bl (decide (x=.non))) H) fIsN:=fun H x y u v d Q rx ry hf=>by
  cases y<;>first | (cases hf; done) | skip
  have e:=isNon_of rx
  refine ⟨isNon x,(Option.some.inj hf).symm,fun q=>⟨ry,?_⟩⟩
  rw [← e]
  exact q
theorem ok_notN:Ok2B K (fun x y H Q=>y=.non∧Q (.bl (!decide (x=.non))) H) fNotN:=fun H x y u v d Q rx ry hf=>by
  cases y<;>first | (cases hf; done) | skip
  have e:=isNon_of rx
  refine ⟨!isNon x,(Option.some.inj hf).symm,fun q=>⟨ry,?_⟩⟩
  rw [← e]
  exact q
theorem unI_neg:∀ (G H:Hp) x u d (Q:VK),Rep K G x u→fNeg x=some d→∃ w,(∀ G,Rep K G d w)∧(Q w H→rU (fun i=>.int (-i)) u H Q):=fun G H x u d Q r hf=>by
  cases x<;>first | (cases hf; done) | skip
  cases hf
  exact ⟨_,fun _=>rfl,fun q=>⟨_,r,q⟩⟩
theorem unI_inv:∀ (G H:Hp) x u d (Q:VK),Rep K G x u→fInv x=some d→∃ w,(∀ G,Rep K G d w)∧(Q w H→rU (fun i=>.int (Builtin.bitNot i)) u H Q):=fun G H x u d Q r hf=>by
  cases x<;>first | (cases hf; done) | skip
  cases hf
  exact ⟨_,fun _=>rfl,fun q=>⟨_,r,q⟩⟩
noncomputable def rCatS (K:PySem.W.Frag):R2:=fun x y H Q=>∃ l b xs zs,x=.ref l∧y=.ref b∧SqL K H l xs∧SqL K H b zs∧xs.length+zs.length≤sizeLine∧∀ p,H p=none→Q (.ref p) (upd H p (.lst (xs++zs)))
theorem op_catS:OpR X (binaryOp .Add) (rCatS X.K):=by
  intro pins s σ H x y v u Q I rx ry h
  obtain ⟨l,b,xs,zs,rfl,rfl,hl,hb,hz,q⟩:=h
  cases rx
  cases ry
  obtain ⟨its,r1,p1,_⟩:=I.list hl
  obtain ⟨its2,r2,p2,_⟩:=I.list hb
  obtain ⟨⟨c1,d1,t1,sl1⟩,n1,ho1,hc1,hd1,ht1⟩:=p1
  obtain ⟨⟨c2,d2,t2,sl2⟩,n2,ho2,hc2,hd2,ht2⟩:=p2
  simp only at hc1 ht1 hc2 ht2
  subst hc1 ht1 hc2 ht2
  refine concat_meets ⟨_,ho1,rfl⟩ ⟨_,ho2,rfl⟩ noFill_list_add seq_list_add PySem.F.slot_list_add PySem.F.entry_list_add (PySem.F.args_list_add_2 _ _)
    (list_addW l b its.toArray its2.toArray n1 n2 d1 d2 sl1 sl2 (by rw [List.size_toArray,List.size_toArray,← r1.length,← r2.length]; exact hz)) ⟨ho1,ho2,?_⟩
  rw [show its.toArray++its2.toArray=(its++its2).toArray by simp]
  exact ⟨.ref _,_,I.lnew (t':=s.toks) (r1.append r2) (by rw [List.length_append]; exact hz),rfl,q _ I.fresh⟩
noncomputable def rAddA (K:PySem.W.Frag):R2:=fun x y H Q=>rI0 (fun i j=>.int (i+j)) x y H Q∨(∃ i k,x=.int i∧y=.bl k∧Q (.int (i+b2i k)) H)∨(∃ i j,x=.str i∧y=.str j∧i.length+j.length≤sizeLine∧Q (.str (i++j)) H)∨rCatS K x y H Q∨rCatT K x y H Q
theorem op_addA:OpR X (binaryOp .Add) (rAddA X.K):=op_add.or (op_add_ib.or (op_add_str.or (op_catS.or op_catT)))
theorem ok_add:Ok2 K (rAddA K) fAdd:=fun G H x y u v d Q s rx ry hf q=>by
  cases x<;>cases y<;>first | (cases hf; done) | skip
  · rename_i i b
    cases rx
    cases ry
    cases hf
    refine .inr (.inl ⟨i,b,rfl,rfl,?_⟩)
    have e:i+b2i b=i+(if b then 1 else 0):=by cases b<;>rfl
    rw [e]
    exact q _ _ _ (Ext.refl s) rfl
  · cases hf
    exact .inl ⟨_,_,rx,ry,q _ _ _ (Ext.refl s) rfl⟩
  · rename_i i j
    obtain ⟨rfl,l1⟩:=rx
    obtain ⟨rfl,l2⟩:=ry
    change (if i.length+j.length≤LIM then _ else _)=_ at hf
    by_cases c:i.length+j.length≤LIM
    · rw [if_pos c] at hf
      cases hf
      have c':i.length+j.length≤sizeLine:=by rw [sizeLine_eq]; exact c
      exact .inr (.inr (.inl ⟨i,j,rfl,rfl,c',q _ _ _ (Ext.refl s) ⟨rfl,by rw [strLen_append]; exact c'⟩⟩))
    · rw [if_neg c] at hf
      cases hf
  · rename_i xs ys
    obtain ⟨a,vs,rfl,sa,ra,_⟩:=rx
    obtain ⟨b,us,rfl,sb,rb,_⟩:=ry
    change (if xs.isEmpty=false∧xs.length+ys.length≤LIM then _ else _)=_ at hf
    by_cases c0:xs.isEmpty=false∧xs.length+ys.length≤LIM
    · rw [if_pos c0] at hf
      have c:=c0.2
      cases hf
      have c':(xs++ys).length≤sizeLine:=by rw [sizeLine_eq,List.length_append]; exact c
      have hx:vs≠[]:=fun e=>by
        have l:=ra.length
        rw [e] at l
        cases xs with
        | nil=>cases c0.1
        | cons=>cases l
      · refine .inr (.inr (.inr (.inr ⟨a,b,vs,us,rfl,rfl,sqT_mono s sa,sqT_mono s sb,hx,by rw [ra.length,rb.length,sizeLine_eq]; exact c,fun e=>?_,fun e p hp=>?_⟩)))
        · subst e
          have e2:ys=[]:=by
            cases ys with
            | nil=>rfl
            | cons=>obtain ⟨_,_,z,_⟩:=rb; cases z
          subst e2
          exact q _ _ _ (Ext.refl s) ⟨a,vs,rfl,sa,by rw [List.append_nil]; exact ra,c'⟩
        · exact q _ _ _ (Ext.lay s hp) ⟨p,vs++us,rfl,SqT.of upd_same,(ra.append rb).mono (same_new (s.free hp) _),c'⟩
    · rw [if_neg c0] at hf
      cases hf
  · rename_i xs ys
    obtain ⟨a,vs,rfl,sa,ra,_⟩:=rx
    obtain ⟨b,us,rfl,sb,rb,_⟩:=ry
    change (if xs.length+ys.length≤LIM then _ else _)=_ at hf
    by_cases c:xs.length+ys.length≤LIM
    · rw [if_pos c] at hf
      cases hf
      have c':(xs++ys).length≤sizeLine:=by rw [sizeLine_eq,List.length_append]; exact c
      refine .inr (.inr (.inr (.inl ⟨a,b,vs,us,rfl,rfl,sqL_mono s sa,sqL_mono s sb,by rw [ra.length,rb.length,sizeLine_eq]; exact c,fun p hp=>?_⟩)))
      exact q _ _ _ (Ext.lay s hp) ⟨p,vs++us,rfl,SqL.of upd_same,(ra.append rb).mono (same_new (s.free hp) _),c'⟩
    · rw [if_neg c] at hf
      cases hf
theorem atI_map {α:Type} {xs:List α} {i:Int} {x:α} (h:atI xs i=some x):∃ j:Nat,xs[j]?=some x∧∀ {β:Type} (ys:List β),ys.length=xs.length→atI ys i=ys[j]?:=by
  unfold atI at h
  cases e:ixN xs.length i with
  | none=>rw [e] at h; cases h
  | some j=>
    rw [e] at h
    exact ⟨j,h,fun ys l=>by unfold atI; rw [l,e]; rfl⟩
theorem atI_D {α:Type} (xs:List α) (i:Int):atI xs i=atD xs i:=by
  unfold atI atD ixN
  by_cases h:0≤i
  · rw [if_pos h,if_pos h]
    by_cases h2:i<xs.length
    · rw [if_pos h2]; rfl
    · rw [if_neg h2]
      exact (List.getElem?_eq_none (by omega)).symm
  · rw [if_neg h,if_neg h]
    split<;>rfl
theorem reps_atI {H:Hp} {ds:List D} {vs:List V} {i:Int} {d:D} (r:Reps K H ds vs) (h:atD ds i=some d):∃ v,atI vs i=some v∧Rep K H d v:=by
  rw [← atI_D] at h
  obtain ⟨j,e,k⟩:=atI_map h
  obtain ⟨v,ev,rv⟩:=r.get e
  exact ⟨v,by rw [k vs r.length]; exact ev,rv⟩
noncomputable def fIx0:D→D→Option D
  | .lst xs,.int i=>atD xs i
  | .tup xs,.int i=>atD xs i
  | .str z,.int i=>(atD z.cps.toList i).bind fun c=>some (.str ⟨#[c]⟩)
  | _,_=>none
theorem ok_ix0:Ok2 K (rIx K) fIx0:=fun G H x y u v d Q s rx ry hf q=>by
  cases x<;>first | (cases hf; done) | skip
  all_goals (cases y<;>first | (cases hf; done) | skip)
  · rename_i z i
    obtain ⟨rfl,l⟩:=rx
    cases ry
    obtain ⟨c,hc,hf⟩:=bindE hf
    cases hf
    rw [← atI_D] at hc
    exact .inr (.inr ⟨z,i,c,rfl,rfl,l,hc,q _ _ _ (Ext.refl s) ⟨rfl,small (n:=1) (by decide)⟩⟩)
  · rename_i xs i
    obtain ⟨a,vs,rfl,sa,ra,_⟩:=rx
    cases ry
    obtain ⟨w,hw,rw_⟩:=reps_atI ra hf
    exact .inr (.inl ⟨a,vs,i,w,rfl,rfl,sqT_mono s sa,hw,q _ _ _ (Ext.refl s) rw_⟩)
  · rename_i xs i
    obtain ⟨a,vs,rfl,sa,ra,_⟩:=rx
    cases ry
    obtain ⟨w,hw,rw_⟩:=reps_atI ra hf
    exact .inl ⟨a,vs,i,w,rfl,rfl,sqL_mono s sa,hw,q _ _ _ (Ext.refl s) rw_⟩
theorem call_lenS:CallR X (.builtin "len") (fun xs H Q=>(∃ p ys,xs=[.ref p]∧(SqL X.K H p ys∨SqT X.K H p ys)∧Q (.int ys.length) H)∨∃ z,xs=[.str z]∧z.length≤sizeLine∧Q (.int z.length) H):=call_len_seq.or call_len_str
theorem ok_len:OkCB K (fun xs H Q=>(∃ p ys,xs=[.ref p]∧(SqL K H p ys∨SqT K H p ys)∧Q (.int ys.length) H)∨∃ z,xs=[.str z]∧z.length≤sizeLine∧Q (.int z.length) H) fLen:=fun G H ds vs d Q s r hf q=>by
  match ds,hf with
  | [.lst xs],hf=>
    cases hf
    obtain ⟨v,r',rfl,⟨a,us,rfl,sq,ru,_⟩,h2⟩:=r
    cases (show r'=[] from h2)
    exact .inl ⟨a,us,rfl,.inl sq,by rw [ru.length]; exact q _ _ _ (Ext.refl s) rfl⟩
  | [.tup xs],hf=>
    cases hf
    obtain ⟨v,r',rfl,⟨a,us,rfl,sq,ru,_⟩,h2⟩:=r
    cases (show r'=[] from h2)
    exact .inl ⟨a,us,rfl,.inr sq,by rw [ru.length]; exact q _ _ _ (Ext.refl s) rfl⟩
  | [.str z],hf=>
    cases hf
    obtain ⟨v,r',rfl,⟨rfl,l⟩,h2⟩:=r
    cases (show r'=[] from h2)
    exact .inr ⟨z,rfl,l,q _ _ _ (Ext.refl s) rfl⟩
theorem ok_max:OkCB K (fun xs H Q=>∃ i j,xs=[.int i,.int j]∧Q (.int (if j > i then j else i)) H) fMax:=fun G H ds vs d Q s r hf q=>by
  match ds,hf with
  | [.int i,.int j],hf=>
    cases hf
    obtain ⟨v,r',rfl,rfl,⟨v2,r2,rfl,rfl,h2⟩⟩:=r
    cases (show r2=[] from h2)
    exact ⟨i,j,rfl,q _ _ _ (Ext.refl s) rfl⟩
theorem ok_min:OkCB K (fun xs H Q=>∃ i j,xs=[.int i,.int j]∧Q (.int (if j<i then j else i)) H) fMin:=fun G H ds vs d Q s r hf q=>by
  match ds,hf with
  | [.int i,.int j],hf=>
    cases hf
    obtain ⟨v,r',rfl,rfl,⟨v2,r2,rfl,rfl,h2⟩⟩:=r
    cases (show r2=[] from h2)
    exact ⟨i,j,rfl,q _ _ _ (Ext.refl s) rfl⟩
theorem ok_int:OkCB K (fun xs H Q=>(∃ i,xs=[.int i]∧Q (.int i) H)∨∃ k,xs=[.bl k]∧Q (.int (if k then 1 else 0)) H) fInt:=fun G H ds vs d Q s r hf q=>by
  match ds,hf with
  | [.int i],hf=>
    cases hf
    obtain ⟨v,r',rfl,rfl,h2⟩:=r
    cases (show r'=[] from h2)
    exact .inl ⟨i,rfl,q _ _ _ (Ext.refl s) rfl⟩
  | [.bl k],hf=>
    cases hf
    obtain ⟨v,r',rfl,rfl,h2⟩:=r
    cases (show r'=[] from h2)
    exact .inr ⟨k,rfl,q _ _ _ (Ext.refl s) rfl⟩
end
end L3
namespace L3
open PySem PySem.Spec PyProof.Rows L2
theorem dEqs_range:∀ xs ys:List D,(((List.range (min xs.length ys.length)).all fun j=>dEq (xs.getD j .non) (ys.getD j .non))&&xs.length == ys.length)=dEqs xs ys
  | [],[]=>rfl
  | [],_::_=>rfl
  | _::_,[]=>rfl
  | x::xs,y::ys=>by
    have ih:=dEqs_range xs ys
    show _=(dEq x y&&dEqs xs ys)
    rw [← ih,List.length_cons,List.length_cons,Nat.succ_min_succ,List.range_succ_eq_map,List.all_cons,List.all_map,Bool.and_assoc]
    congr 1
    congr 1
    rw [Bool.eq_iff_iff]
    simp
theorem cmpAll_at {f:D→D→Bool}:∀ {xs ys:List D},cmpAll f xs ys=true→∀ (j:Nat) x y,xs[j]?=some x→ys[j]?=some y→f x y=true
  | [],_,_,j,x,y,e,_=>by cases e
  | x::xs,[],_,j,_,y,_,e=>by cases e
  | x::xs,y::ys,h,0,_,_,e1,e2=>by
    cases e1
    cases e2
    have h':(f x y&&cmpAll f xs ys)=true:=h
    rw [Bool.and_eq_true] at h'
    exact h'.1
  | x::xs,y::ys,h,j+1,a,b,e1,e2=>by
    have h':(f x y&&cmpAll f xs ys)=true:=h
    rw [Bool.and_eq_true] at h'
    exact cmpAll_at h'.2 j a b (by simpa using e1) (by simpa using e2)
section
variable {X:Cx} {pins:List (Addr×Obj)} {σ:St} {H:Hp} {s:Shared} {K:PySem.W.Frag}
theorem eqs_of {n:Nat} (ih:∀ d1 d2 v,cmpOk n d1 d2=true→Rep K H d1 v→Rep K H d2 v→dEq d1 d2=true):∀ {xs ys:List D} {vs:List V},cmpAll (cmpOk n) xs ys=true→Reps K H xs vs→Reps K H ys vs→dEqs xs ys=true
  | [],[],_,_,_,_=>rfl
  | [],_::_,_,_,r1,r2=>by
    cases (show _=[] from r1)
    obtain ⟨_,_,e,_⟩:=r2
    cases e
  | _::_,[],_,_,r1,r2=>by
    cases (show _=[] from r2)
    obtain ⟨_,_,e,_⟩:=r1
    cases e
  | x::xs,y::ys,_,h,r1,r2=>by
    obtain ⟨v,r,rfl,a,b⟩:=r1
    obtain ⟨v',r',e,a',b'⟩:=r2
    cases e
    have h':(cmpOk n x y&&cmpAll (cmpOk n) xs ys)=true:=h
    rw [Bool.and_eq_true] at h'
    show (dEq x y&&dEqs xs ys)=true
    rw [ih x y v h'.1 a a',eqs_of ih h'.2 b b']
    rfl
theorem cmp_cases {n:Nat} {x y:D} (h:cmpOk (n+1) x y=true):(∃ xs ys,x=.tup xs∧y=.tup ys∧cmpAll (cmpOk n) xs ys=true)∨(∃ xs ys,x=.lst xs∧y=.lst ys∧cmpAll (cmpOk n) xs ys=true)∨(flatD x=true∧flatD y=true):=by
  unfold cmpOk at h
  split at h
  · exact .inl ⟨_,_,rfl,rfl,h⟩
  · exact .inr (.inl ⟨_,_,rfl,rfl,h⟩)
  · rw [Bool.and_eq_true] at h
    exact .inr (.inr h)
theorem rep_flat {d:D} {v:V} (h:flatD d=true) (r:Rep K H d v):flatV v=true:=by
  cases d<;>first | exact absurd h Bool.false_ne_true | skip
  · cases (show v=_ from r); rfl
  · cases (show v=_ from r); rfl
  · cases (show v=_ from r); rfl
  · cases (show v=_∧_ from r).1; rfl
theorem rep_eqV {d1 d2:D} {x y:V} (h1:flatD d1=true) (h2:flatD d2=true) (r1:Rep K H d1 x) (r2:Rep K H d2 y):eqV x y=dEq d1 d2:=by
  cases d1<;>first | exact absurd h1 Bool.false_ne_true | skip
  all_goals (cases d2<;>first | exact absurd h2 Bool.false_ne_true | skip)
  all_goals first
    | (cases (show x=_ from r1); cases (show y=_ from r2); rfl)
    | (cases (show x=_ from r1); cases (show y=_∧_ from r2).1; rfl)
    | (cases (show x=_∧_ from r1).1; cases (show y=_ from r2); rfl)
    | (cases (show x=_∧_ from r1).1; cases (show y=_∧_ from r2).1; rfl)
theorem eq_same (I:Inv X pins σ H s):∀ (n:Nat) (d1 d2:D) (v:V),cmpOk n d1 d2=true→Rep X.K H d1 v→Rep X.K H d2 v→dEq d1 d2=true
  | 0,_,_,_,h,_,_=>by cases h
  | n+1,d1,d2,v,h,r1,r2=>by
    rcases cmp_cases h with ⟨xs,ys,rfl,rfl,h⟩ | ⟨xs,ys,rfl,rfl,h⟩ | ⟨f1,f2⟩
    · obtain ⟨a,vs,rfl,s1,q1,_⟩:=r1
      obtain ⟨a',us,e,s2,q2,_⟩:=r2
      cases e
      cases I.tuple_inj s1 s2
      exact eqs_of (fun d1 d2 v=>eq_same I n d1 d2 v) h q1 q2
    · obtain ⟨a,vs,rfl,s1,q1,_⟩:=r1
      obtain ⟨a',us,e,s2,q2,_⟩:=r2
      cases e
      cases I.list_inj s1 s2
      exact eqs_of (fun d1 d2 v=>eq_same I n d1 d2 v) h q1 q2
    · rw [← rep_eqV f1 f2 r1 r2]
      exact eqV_self (rep_flat f1 r1)
theorem getD_at {α:Type} {xs:List α} {j:Nat} {x d:α} (h:xs[j]?=some x):xs.getD j d=x:=by rw [List.getD_eq_getElem?_getD,h]; rfl
theorem rc_reps {A:Around} {n:Nat} {a c:Addr} {xs ys:List D} {vs us:List V} (I:Inv X pins σ H s) (hu:A.units<cLine) (hq:SqB X.K H a c vs us) (q1:Reps X.K H xs vs) (q2:Reps X.K H ys us) (h:cmpAll (cmpOk n) xs ys=true)
    (ih:∀ (d1 d2:D) (x y:V) (u v:Value),cmpOk n d1 d2=true→Rep X.K H d1 x→Rep X.K H d2 y→RelV x u→RelV y v→SeqAt.EqAt A.in1 s u v (dEq d1 d2)):SeqAt.RcAt A s (.ref a) (.ref c) (dEqs xs ys)∧SeqAt.RcNeAt A s (.ref a) (.ref c) (!dEqs xs ys):=by
  have z:=rc_seq (A:=A) (e:=fun j=>dEq (xs.getD j .non) (ys.getD j .non)) I hu hq fun j x' y' u' v' e1 e2 w1 w2=>by
    obtain ⟨d1,g1,t1⟩:=q1.at e1
    obtain ⟨d2,g2,t2⟩:=q2.at e2
    show SeqAt.EqAt A.in1 s u' v' (dEq (xs.getD j .non) (ys.getD j .non))
    rw [getD_at g1,getD_at g2]
    exact ih d1 d2 x' y' u' v' (cmpAll_at h j d1 d2 g1 g2) t1 t2 w1 w2
  rw [q1.length,q2.length,dEqs_range] at z
  exact z
theorem eqAt_rep (I:Inv X pins σ H s):∀ (n:Nat) (A:Around) (d1 d2:D) (x y:V) (u v:Value),A.units+n<cLine→cmpOk n d1 d2=true→Rep X.K H d1 x→Rep X.K H d2 y→RelV x u→RelV y v→SeqAt.EqAt A s u v (dEq d1 d2)
  | 0,_,_,_,_,_,_,_,_,h,_,_,_,_=>by cases h
  | n+1,A,d1,d2,x,y,u,v,hu,h,r1,r2,rx,ry=>by
    have h0:=h
    have ra:=r1
    have rb:=r2
    rcases cmp_cases h with ⟨xs,ys,rfl,rfl,h⟩ | ⟨xs,ys,rfl,rfl,h⟩ | ⟨f1,f2⟩
    · obtain ⟨a,vs,rfl,s1,q1,l1⟩:=r1
      obtain ⟨c,us,rfl,s2,q2,l2⟩:=r2
      cases (show u=Value.ref a from rx)
      cases (show v=Value.ref c from ry)
      by_cases hac:a=c
      · subst hac
        rw [eq_same I (n+1) _ _ _ h0 ra rb]
        exact SeqAt.EqAt.same _
      · exact SeqAt.EqAt.of_refs hac (rc_reps I (by omega) (.inl ⟨s1,s2⟩) q1 q2 h fun d1 d2 x y u v hh t1 t2 w1 w2=>eqAt_rep I n A.in1 d1 d2 x y u v (by rw [in1_units]; omega) hh t1 t2 w1 w2).1
    · obtain ⟨a,vs,rfl,s1,q1,l1⟩:=r1
      obtain ⟨c,us,rfl,s2,q2,l2⟩:=r2
      cases (show u=Value.ref a from rx)
      cases (show v=Value.ref c from ry)
      by_cases hac:a=c
      · subst hac
        rw [eq_same I (n+1) _ _ _ h0 ra rb]
        exact SeqAt.EqAt.same _
      · exact SeqAt.EqAt.of_refs hac (rc_reps I (by omega) (.inr ⟨s1,s2⟩) q1 q2 h fun d1 d2 x y u v hh t1 t2 w1 w2=>eqAt_rep I n A.in1 d1 d2 x y u v (by rw [in1_units]; omega) hh t1 t2 w1 w2).1
    · rw [← rep_eqV f1 f2 r1 r2]
      exact eqAt_V rx ry (rep_flat f1 r1) (rep_flat f2 r2)
end
noncomputable def rEqS (K:PySem.W.Frag) (neg:Bool):R2:=fun x y H Q=>∃ d1 d2 k,Rep K H d1 x∧Rep K H d2 y∧fEqB d1 d2=some k∧Q (.bl (if neg then !k else k)) H
theorem hu7 {A:Around} {k:Nat} (hr:Room k A):A.units+7<cLine:=Nat.lt_of_le_of_lt (Nat.add_le_add_left (by decide:7≤64) _) hr.units
section
variable {X:Cx} {K:PySem.W.Frag}
theorem fEqB_ok {d1 d2:D} {k:Bool} (h:fEqB d1 d2=some k):cmpOk 6 d1 d2=true∧k=dEq d1 d2:=by
  unfold fEqB at h
  split at h
  · cases h
  · cases h
  · split at h
    · rename_i e
      cases h
      exact ⟨e,rfl⟩
    · cases h
theorem scal_of {H:Hp} {d1 d2:D} {x y:V} {k:Bool} (h:fEqB d1 d2=some k) (h1:flatD d1=true) (h2:flatD d2=true) (r1:Rep K H d1 x) (r2:Rep K H d2 y):scal x y=true∧decide (x=y)=k:=by
  obtain ⟨_,e⟩:=fEqB_ok h
  subst e
  cases d1<;>first | exact absurd h1 Bool.false_ne_true | skip
  all_goals (cases d2<;>first | exact absurd h2 Bool.false_ne_true | (cases h; done) | skip)
  all_goals first
    | (cases (show x=_ from r1); cases (show y=_ from r2); exact ⟨rfl,by first | rfl | exact dec_int | exact dec_bl⟩)
    | (cases (show x=_ from r1); cases (show y=_∧_ from r2).1; exact ⟨rfl,rfl⟩)
    | (cases (show x=_∧_ from r1).1; cases (show y=_ from r2); exact ⟨rfl,rfl⟩)
    | (cases (show x=_∧_ from r1).1; cases (show y=_∧_ from r2).1; exact ⟨rfl,dec_str⟩)
theorem eqS_core {pins:List (Addr×Obj)} {σ:St} {H:Hp} {s:Shared} {A:Around} {d1 d2:D} {x y:V} {u v:Value} (I:Inv X pins σ H s) (hu:A.units+7<cLine) (h:cmpOk 6 d1 d2=true) (hf:¬ (flatD d1&&flatD d2)=true) (r1:Rep X.K H d1 x) (r2:Rep X.K H d2 y) (rx:RelV x u) (ry:RelV y v) :
    SeqAt.RcAt A s u v (dEq d1 d2)∧SeqAt.RcNeAt A s u v (!dEq d1 d2):=by
  rcases cmp_cases h with ⟨xs,ys,rfl,rfl,h⟩ | ⟨xs,ys,rfl,rfl,h⟩ | ⟨f1,f2⟩
  · obtain ⟨a,vs,rfl,s1,q1,l1⟩:=r1
    obtain ⟨c,us,rfl,s2,q2,l2⟩:=r2
    cases (show u=Value.ref a from rx)
    cases (show v=Value.ref c from ry)
    exact rc_reps I (by omega) (.inl ⟨s1,s2⟩) q1 q2 h fun d1 d2 x y u v hh t1 t2 w1 w2=>eqAt_rep I 5 A.in1 d1 d2 x y u v (by rw [in1_units]; omega) hh t1 t2 w1 w2
  · obtain ⟨a,vs,rfl,s1,q1,l1⟩:=r1
    obtain ⟨c,us,rfl,s2,q2,l2⟩:=r2
    cases (show u=Value.ref a from rx)
    cases (show v=Value.ref c from ry)
    exact rc_reps I (by omega) (.inr ⟨s1,s2⟩) q1 q2 h fun d1 d2 x y u v hh t1 t2 w1 w2=>eqAt_rep I 5 A.in1 d1 d2 x y u v (by rw [in1_units]; omega) hh t1 t2 w1 w2
  · exact absurd (by rw [f1,f2]; rfl) hf
theorem op_eqS (hu:X.A.units+7<cLine):OpR X (compareOp .Eq) (rEqS X.K false):=by
  intro pins s σ H x y v u Q I rx ry h
  obtain ⟨d1,d2,k,r1,r2,hk,q⟩:=h
  by_cases hf:(flatD d1&&flatD d2)=true
  · have hf':=hf
    rw [Bool.and_eq_true] at hf'
    obtain ⟨a,b⟩:=scal_of hk hf'.1 hf'.2 r1 r2
    exact op_eq pins s σ H x y v u Q I rx ry ⟨a,by rw [b]; exact q⟩
  · obtain ⟨hc,rfl⟩:=fEqB_ok hk
    exact (eqS_core I hu hc hf r1 r2 rx ry).1 _ _ _ _ ⟨.bl _,H,I,rfl,q⟩
theorem op_neS (hu:X.A.units+7<cLine):OpR X (compareOp .NotEq) (rEqS X.K true):=by
  intro pins s σ H x y v u Q I rx ry h
  obtain ⟨d1,d2,k,r1,r2,hk,q⟩:=h
  by_cases hf:(flatD d1&&flatD d2)=true
  · have hf':=hf
    rw [Bool.and_eq_true] at hf'
    obtain ⟨a,b⟩:=scal_of hk hf'.1 hf'.2 r1 r2
    exact op_ne pins s σ H x y v u Q I rx ry ⟨a,by rw [b]; exact q⟩
  · obtain ⟨hc,rfl⟩:=fEqB_ok hk
    exact (eqS_core I hu hc hf r1 r2 rx ry).2 _ _ _ _ ⟨.bl _,H,I,rfl,q⟩
theorem ok_eq:Ok2B K (rEqS K false) fEq:=fun H x y u v d Q rx ry hf=>by
  obtain ⟨k,hk,hf⟩:=bindE hf
  cases hf
  exact ⟨_,rfl,fun q=>⟨x,y,k,rx,ry,hk,q⟩⟩
theorem ok_ne:Ok2B K (rEqS K true) fNe:=fun H x y u v d Q rx ry hf=>by
  obtain ⟨k,hk,hf⟩:=bindE hf
  cases hf
  exact ⟨_,rfl,fun q=>⟨x,y,k,rx,ry,hk,q⟩⟩
end
theorem kit_x {K:PySem.W.Frag}:PySem.W.kitOne K (.type "NoneType") (.type "str")=some false∧PySem.W.kitOne K (.type "NoneType") (.type "list")=some false∧PySem.W.kitOne K (.type "NoneType") (.type "tuple")=some false∧
    PySem.W.kitOne K (.type "bool") (.type "str")=some false∧PySem.W.kitOne K (.type "bool") (.type "list")=some false∧PySem.W.kitOne K (.type "bool") (.type "tuple")=some false∧
    PySem.W.kitOne K (.type "int") (.type "str")=some false∧PySem.W.kitOne K (.type "int") (.type "list")=some false∧PySem.W.kitOne K (.type "int") (.type "tuple")=some false:=by refine ⟨?_,?_,?_,?_,?_,?_,?_,?_,?_⟩<;>kernel_rfl
theorem kit_y {K:PySem.W.Frag}:PySem.W.kitOne K (.type "str") (.type "int")=some false∧PySem.W.kitOne K (.type "str") (.type "bool")=some false∧PySem.W.kitOne K (.type "str") (.type "list")=some false∧PySem.W.kitOne K (.type "str") (.type "tuple")=some false∧
    PySem.W.kitOne K (.type "list") (.type "int")=some false∧PySem.W.kitOne K (.type "list") (.type "bool")=some false∧PySem.W.kitOne K (.type "list") (.type "str")=some false∧PySem.W.kitOne K (.type "list") (.type "tuple")=some false∧PySem.W.kitOne K (.type "list") (.type "list")=some true:=by refine ⟨?_,?_,?_,?_,?_,?_,?_,?_,?_⟩<;>first | kernel_rfl | rfl
theorem kit_z {K:PySem.W.Frag}:PySem.W.kitOne K (.type "tuple") (.type "int")=some false∧PySem.W.kitOne K (.type "tuple") (.type "bool")=some false∧PySem.W.kitOne K (.type "tuple") (.type "list")=some false∧PySem.W.kitOne K (.type "tuple") (.type "str")=some false:=by refine ⟨?_,?_,?_,?_⟩<;>kernel_rfl
noncomputable def tyN:D→String
  | .non => "NoneType"
  | .bl _ => "bool"
  | .int _ => "int"
  | .str _ => "str"
  | .tup _ => "tuple"
  | .lst _ => "list"
  | .dic _ _ => "dict"
theorem kit_of {K:PySem.W.Frag} {T:TyT} {d:D} {b:Bool} (h:isTy T d=some b):PySem.W.kitOne K (.type (tyN d)) (.type T.nm)=some b:=by
  obtain ⟨x1,x2,x3,x4,x5,x6,x7,x8,x9⟩:=kit_x (K:=K)
  obtain ⟨y1,y2,y3,y4,y5,y6,y7,y8,y9⟩:=kit_y (K:=K)
  obtain ⟨z1,z2,z3,z4⟩:=kit_z (K:=K)
  cases T<;>cases d<;>cases h
  all_goals first | exact kit_int_int | exact kit_bool_int | exact kit_int_bool | exact kit_bool_bool | exact kit_none_int | exact kit_none_bool | exact kit_tup_tup | exact kit_str_str | assumption
noncomputable def rIsi (K:PySem.W.Frag) (T:TyT):List V→Hp→VK→Prop:=fun xs H Q=>∃ x d b,xs=[x,.ty T.nm]∧Rep K H d x∧isTy T d=some b∧Q (.bl b) H
theorem call_isi {X:Cx} (T:TyT):CallR X (.builtin "isinstance") (rIsi X.K T):=by
  intro pins s σ H xs us Q I r h
  obtain ⟨x,d,b,rfl,rd,e,q⟩:=h
  obtain ⟨u,c,rfl,rx,rc⟩:=vals2 r
  cases (show c=Value.type T.nm from rc)
  have fin:∀ tk,EP X pins σ Q (.bool b) { s with toks:=tk }:=fun tk=>⟨.bl b,H,I.tok tk,rfl,q⟩
  cases d with
  | non=>cases (show x=_ from rd); exact isinst_ok I rx .non (kit_of (d:=.non) e) fin
  | bl y=>cases (show x=_ from rd); exact isinst_ok I rx (.bl _) (kit_of (d:=.bl y) e) fin
  | int y=>cases (show x=_ from rd); exact isinst_ok I rx (.int _) (kit_of (d:=.int y) e) fin
  | str y=>cases (show x=_∧_ from rd).1; exact isinst_ok I rx (.str _) (kit_of (d:=.str y) e) fin
  | tup ds=>
    obtain ⟨a,vs,rfl,sq,_⟩:=rd
    cases (show u=Value.ref a from rx)
    obtain ⟨its,_,⟨o,h1,h2,_⟩,_⟩:=I.tuple sq
    exact PySem.W.kia_one PySem.W.kitx_tuple I.kIn ⟨o,h1,h2⟩ (kit_of (d:=.tup ds) e) (fun z=>nomatch z) fin
  | lst ds=>
    obtain ⟨a,vs,rfl,sq,_⟩:=rd
    cases (show u=Value.ref a from rx)
    obtain ⟨its,_,⟨o,n,h1,h2,_⟩,_⟩:=I.list sq
    exact PySem.W.kia_one PySem.W.kitx_list I.kIn ⟨o,h1,h2⟩ (kit_of (d:=.lst ds) e) (fun z=>nomatch z) fin
  | dic ks ds=>cases T<;>cases e
theorem se_isi {X:Cx} {a:Expr} {f:FE} {x:Str} {p p1 pos:Pos} (T:TyT) (hg:Gl X "isinstance") (hgT:Gl X x) (hm:X.mg "isinstance" = none) (hmT:X.mg x=none) (hv:bootBuiltins x=some (.type T.nm)) (ha:SB X a f) (hs:noStar a=true:=by rfl)
    (hn:x ≠ "__name__" := by decide) (hd:(x == ("__debug__" : Str))=false:=by decide):SE X (.Call (.Name "isinstance" p) [a,.Name x p1] [] pos) (eIsi T f):=by
  obtain ⟨t,pt,k⟩:=ha.h
  refine ⟨⟨_,(qe_callB (call_isi T) hg hm bt_isinstance (qa_cons ⟨pt⟩ (qa_cons (qe_bty hgT hmT hv hn hd) qa_nil rfl) hs) (by decide) (by decide) (by rw [List.all_cons,hs]; rfl)).h,fun {G0 H0 G H τ σ d Q} E hf q=>?_⟩⟩
  obtain ⟨z,hz,hf⟩:=bindE hf
  obtain ⟨b,hb,hf⟩:=bindE hf
  cases hf
  exact k E hz fun v G' H' x r=>⟨v,z,b,rfl,r,hb,q _ _ _ x rfl⟩
end L3
namespace L3
open PySem
theorem whileG_more {c:FT} {b:FS}:∀ {n:Nat} {σ:SEnv} {fl:Fl} (k:Nat),whileG c b n σ=some fl→whileG c b (n+k) σ=some fl
  | 0,_,_,_,h=>by cases h
  | n+1,σ,fl,k,h=>by
    rw [Nat.succ_add]
    unfold whileG at h ⊢
    cases hc:c σ with
    | none=>rw [hc] at h; cases h
    | some kk=>
      rw [hc] at h
      cases kk with
      | false=>exact h
      | true=>
        change (b σ).bind _=_ at h
        show (b σ).bind _=_
        cases hb:b σ with
        | none=>rw [hb] at h; cases h
        | some f=>
          rw [hb] at h
          cases f with
          | nx τ=>exact whileG_more k h
          | ct τ=>exact whileG_more k h
          | bk τ=>exact h
          | rt o d=>exact h
theorem sWhile_of {c:FT} {b:FS} {σ:SEnv} {fl:Fl} (n:Nat) (h:whileG c b n σ=some fl) (hn:n≤FUEL:=by decide):sWhile c b σ=some fl:=by
  have e:=whileG_more (FUEL - n) h
  rw [Nat.add_sub_of_le hn] at e
  exact e
theorem whileG_go {c:FT} {b:FS} {σ σ':SEnv} {n:Nat} (hc:c σ=some true) (hb:b σ=some (.nx σ')):whileG c b (n+1) σ=whileG c b n σ':=by
  show (c σ).bind _=_
  rw [hc]
  show (b σ).bind _=_
  rw [hb]
  rfl
theorem whileG_end {c:FT} {b:FS} {σ:SEnv} {n:Nat} (hc:c σ=some false):whileG c b (n+1) σ=some (.nx σ):=by
  show (c σ).bind _=_
  rw [hc]
  rfl
theorem loop_by {g:FG} {b:FS} (P:Nat→SEnv→Prop):∀ {ds:List D} {σ:SEnv} (n:Nat),P n σ→(∀ i d σ,ds[i]?=some d→P (n+i) σ→∃ σ1 σ2,g d σ=some σ1∧(b σ1=some (.nx σ2)∨b σ1=some (.ct σ2))∧P (n+i+1) σ2)→
    ∃ σ',loopG g b ds σ=some (.nx σ')∧P (n+ds.length) σ'
  | [],σ,n,h,_=>⟨σ,rfl,h⟩
  | d::ds,σ,n,h,step=>by
    obtain ⟨σ1,σ2,e1,e2,p2⟩:=step 0 d σ rfl h
    obtain ⟨σ',e3,p3⟩:=loop_by P (ds:=ds) (σ:=σ2) (n+1) p2 fun i d' τ hd hp=>by
      obtain ⟨a,b',c1,c2,c3⟩:=step (i+1) d' τ (by simpa using hd) (by rw [show n+(i+1)=n+1+i by omega]; exact hp)
      exact ⟨a,b',c1,c2,by rw [show n+1+i+1=n+(i+1)+1 by omega]; exact c3⟩
    refine ⟨σ',?_,by rw [List.length_cons,show n+(ds.length+1)=n+1+ds.length by omega]; exact p3⟩
    show (g d σ).bind _=_
    rw [e1]
    show (b σ1).bind _=_
    rcases e2 with e2 | e2
    · rw [e2]; exact e3
    · rw [e2]; exact e3
theorem seq_nx {a b:FS} {σ σ':SEnv} (h:a σ=some (.nx σ')):sSeq a b σ=b σ':=by
  show (a σ).bind _=_
  rw [h]
  rfl
theorem if_t {c:FT} {a b:FS} {σ:SEnv} (h:c σ=some true):sIf c a b σ=a σ:=by
  show (c σ).bind _=_
  rw [h]
  rfl
noncomputable abbrev upTo (j:Nat):List D:=(List.range j).map fun k:Nat=>D.int k
theorem range_of {f:FE} {τ:SEnv} {n:Int} (h:f τ=some (.int n)) (h1:n.natAbs≤1000000):iRange (eC (.int 0)) f τ=some (upTo n.toNat):=by
  unfold iRange
  rw [h]
  show (if (0:Int).natAbs≤LIM∧n.natAbs≤LIM∧(n - 0).toNat≤LIM then _ else _)=_
  rw [if_pos ⟨by decide,by show _≤16777216; omega,by show _≤16777216; omega⟩,Int.sub_zero]
  simp only [Int.zero_add]
end L3
namespace L3
noncomputable def shx:=
  And.intro runF.eq_1 <| And.intro sSeq.eq_1 <| And.intro sSet.eq_1 <| And.intro sSetO.eq_1 <| And.intro sRet.eq_1 <| And.intro sRetO.eq_1 <| And.intro sRetV.eq_1 <| And.intro sIf.eq_1 <| And.intro sNext.eq_1 <| And.intro sFreeze.eq_1 <|
  And.intro sMut.eq_1 <| And.intro sMut1.eq_1 <| And.intro sFor.eq_1 <| And.intro loopG.eq_1 <| And.intro loopG.eq_2 <| And.intro e1.eq_1 <| And.intro e2.eq_1 <| And.intro eL.eq_1 <| And.intro eC.eq_1 <| And.intro eVar.eq_1 <| And.intro eAny.eq_1 <|
  And.intro aCons.eq_1 <| And.intro aNil.eq_1 <| And.intro tE.eq_1 <| And.intro asB.eq_def <| And.intro tAndF.eq_1 <| And.intro tOrF.eq_1 <| And.intro tNotF.eq_1 <| And.intro eAnd.eq_1 <| And.intro eOr.eq_1 <| And.intro eNot.eq_1 <| And.intro eIf.eq_1 <|
  And.intro eTup.eq_1 <| And.intro eLst.eq_1 <| And.intro eIsi.eq_1 <| And.intro isTy.eq_def <| And.intro fI.eq_def <| And.intro fSub.eq_def <| And.intro fCmp.eq_def <| And.intro fMulL.eq_1 <| And.intro fMulR.eq_1 <| And.intro fMod.eq_1 <| And.intro fDiv.eq_1 <|
  And.intro fPow.eq_1 <| And.intro fShl.eq_1 <| And.intro fShr.eq_1 <| And.intro fBit.eq_def <| And.intro fNeg.eq_def <| And.intro fLen.eq_def <| And.intro fInt.eq_def <| And.intro fIsN.eq_def <| And.intro fNotN.eq_def <| And.intro isNon.eq_def <|
  And.intro gVar.eq_1 <| And.intro gTwo.eq_1 <| And.intro iSeq.eq_1 <| And.intro eCall.eq_1 <| And.intro eCallO.eq_1 <| And.intro eLc.eq_1 <|
  And.intro @Option.bind_some.{0,0} <| And.intro @Option.bind_none.{0,0} <| And.intro @List.getElem?_cons_zero.{0} <| And.intro @List.getElem?_cons_succ.{0} <| And.intro @List.set_cons_zero.{0} <| And.intro @List.set_cons_succ.{0} <| And.intro @List.map_cons.{0,0} <| And.intro @List.map_nil.{0,0} <|
  And.intro @List.cons_append.{0} <| And.intro @List.nil_append.{0} <| And.intro @List.length_cons.{0} <| And.intro @List.length_nil.{0} <| And.intro @List.replicate_zero.{0} <| And.intro @List.replicate_succ.{0} <| And.intro Bool.not_true <| And.intro Bool.not_false <|
  And.intro @decide_true <| And.intro @decide_false <| And.intro Bool.and_self <| And.intro Bool.and_true Bool.true_and
end L3
namespace L3
open PySem PySem.Spec PyProof.Rows L2
section
variable {α:Type}
theorem zip_any:∀ {ks:List Key} {vs:List α} (k:Key),ks.length=vs.length→((ks.zip vs).any fun kv=>decide (kv.1=k))=hasK ks k
  | [],[],_,_=>rfl
  | k'::ks,v::vs,k,h=>by
    have ih:=zip_any (ks:=ks) (vs:=vs) k (by simpa using h)
    show (decide (k'=k)||((ks.zip vs).any fun kv=>decide (kv.1=k)))=(decide (k'=k)||hasK ks k)
    rw [ih]
theorem zip_val:∀ {ks:List Key} {vs:List V} (k:Key),ks.length=vs.length→valV (ks.zip vs) k=getK ks vs k
  | [],[],_,_=>rfl
  | k'::ks,v::vs,k,h=>by
    have ih:=zip_val (ks:=ks) (vs:=vs) k (by simpa using h)
    by_cases e:k'=k
    · rw [List.zip_cons_cons,valV_pos (p:=(k',v)) e]
      show _=(if k'=k then some v else _)
      rw [if_pos e]
    · rw [List.zip_cons_cons,valV_neg (p:=(k',v)) e,ih]
      show _=(if k'=k then some v else _)
      rw [if_neg e]
theorem zip_map:∀ {ks:List Key} {vs:List V} (k:Key) (v:V),ks.length=vs.length→((ks.zip vs).map fun kv=>if kv.1=k then (kv.1,v) else kv)=ks.zip (List.zipWith (fun k' x=>if k'=k then v else x) ks vs)
  | [],[],_,_,_=>rfl
  | k'::ks,u::vs,k,v,h=>by
    have ih:=zip_map (ks:=ks) (vs:=vs) k v (by simpa using h)
    rw [List.zip_cons_cons,List.map_cons,ih,List.zipWith_cons_cons,List.zip_cons_cons]
    by_cases e:k'=k
    · rw [if_pos e,if_pos e]
    · rw [if_neg e,if_neg e]
theorem zip_put {ks:List Key} {vs:List V} {k:Key} {v:V} (h:ks.length=vs.length):putK (ks.zip vs) k v=(putKs ks k).zip (putVs ks vs k v):=by
  unfold putK putKs putVs
  rw [zip_any k h]
  by_cases c:hasK ks k=true
  · rw [if_pos c,if_pos c,if_pos c,zip_map k v h]
  · rw [if_neg c,if_neg c,if_neg c,List.zip_append h]
    rfl
theorem put_len {ks:List Key} {vs:List α} {k:Key} {v:α} (h:ks.length=vs.length):(putKs ks k).length=(putVs ks vs k v).length:=by
  unfold putKs putVs
  split
  · rw [List.length_zipWith,h,Nat.min_self]
  · rw [List.length_append,List.length_append,h]
    rfl
theorem put_le {ks:List Key} {vs:List α} {k:Key} {v:α} (h:ks.length=vs.length):(putVs ks vs k v).length≤vs.length+1:=by
  unfold putVs
  split
  · rw [List.length_zipWith,h,Nat.min_self]
    exact Nat.le_succ _
  · rw [List.length_append]
    exact Nat.le_refl _
end
section
variable {K:PySem.W.Frag} {G H:Hp}
theorem Reps.getK:∀ {ks:List Key} {ds:List D} {vs:List V} {k:Key} {d:D},Reps K H ds vs→getK ks ds k=some d→∃ v,getK ks vs k=some v∧Rep K H d v
  | [],_,_,_,_,_,e=>by cases e
  | _::_,[],_,_,_,_,e=>by cases e
  | k'::ks,d'::ds,_,k,d,r,e=>by
    obtain ⟨v,r',rfl,hv,hr⟩:=r
    change (if k'=k then some d' else L3.getK ks ds k)=some d at e
    by_cases c:k'=k
    · rw [if_pos c] at e
      cases e
      exact ⟨v,by show (if k'=k then some v else _)=_; rw [if_pos c],hv⟩
    · rw [if_neg c] at e
      obtain ⟨u,hu,ru⟩:=Reps.getK hr e
      exact ⟨u,by show (if k'=k then some v else _)=_; rw [if_neg c]; exact hu,ru⟩
theorem getK_has {α:Type}:∀ {ks:List Key} {vs:List α} (k:Key),ks.length=vs.length→(getK ks vs k).isSome=hasK ks k
  | [],[],_,_=>rfl
  | k'::ks,v::vs,k,h=>by
    have ih:=getK_has (ks:=ks) (vs:=vs) k (by simpa using h)
    show (if k'=k then some v else getK ks vs k).isSome=(decide (k'=k)||_)
    by_cases c:k'=k
    · rw [if_pos c,decide_eq_true c]; rfl
    · rw [if_neg c,decide_eq_false c,ih]; rfl
theorem Reps.zipW {k:Key} {d:D} {v:V} (hv:Rep K H d v):∀ {ks:List Key} {ds:List D} {vs:List V},Reps K H ds vs→Reps K H (List.zipWith (fun k' x=>if k'=k then d else x) ks ds) (List.zipWith (fun k' x=>if k'=k then v else x) ks vs)
  | [],_,_,_=>rfl
  | _::_,[],_,r=>by cases (show _=[] from r); rfl
  | k'::ks,d'::ds,_,r=>by
    obtain ⟨u,r',rfl,hu,hr⟩:=r
    refine ⟨_,_,rfl,?_,Reps.zipW hv hr⟩
    show Rep K H (if k'=k then d else d') (if k'=k then v else u)
    by_cases c:k'=k
    · rw [if_pos c,if_pos c]; exact hv
    · rw [if_neg c,if_neg c]; exact hu
theorem Reps.put {ks:List Key} {ds:List D} {vs:List V} {k:Key} {d:D} {v:V} (r:Reps K H ds vs) (hv:Rep K H d v):Reps K H (putVs ks ds k d) (putVs ks vs k v):=by
  unfold putVs
  split
  · exact Reps.zipW hv r
  · exact r.append (Reps.one hv)
theorem key_rep {x:D} {k:Key} {u:V} (h:keyD x=some k) (r:Rep K H x u):u=kV k:=by
  cases x<;>first | (cases h; done) | skip
  · cases h; exact r
  · cases h; exact (show u=_∧_ from r).1
end
section
variable {X:Cx} {K:PySem.W.Frag}
noncomputable def rIxD:R2:=fun x y H Q=>∃ a kvs k v,x=.ref a∧y=kV k∧Rd H a (.dK kvs)∧valV kvs k=some v∧Q v H
theorem ix_dict:IxR X rIxD:=by
  intro value slice pins s σ H x y v u Q I rx ry h hs
  obtain ⟨a,kvs,k,z,rfl,rfl,e,l,q⟩:=h
  cases rx
  obtain ⟨_,_,vs,rel,dd⟩:=dk_rd I.hok e
  obtain ⟨w',hw,rw'⟩:=RelO.some_of (v:=z) (o:=valueAt vs k) (by rw [← l]; exact rel.val k)
  exact subscriptTail_builtinR (x:=w') (dict_typeIs I (.inl ⟨kvs,k,e,rfl,rfl⟩)) PySem.F.slot_dict_getitem.lookup
    (wpAny_getItem_of (Q:=fun r s'=>r=w'∧EP X pins σ Q r s') (kV_is ry) dd.mapOf hw ⟨rfl,z,H,I.tok _,rw',q⟩) hs
noncomputable def rIxA (K:PySem.W.Frag):R2:=fun x y H Q=>rIx K x y H Q∨rIxD x y H Q
theorem ix_S (_:X.A.units+1<cLine):IxR X (rIxA X.K):=ix_seq.or ix_dict
theorem ok_ix:Ok2 K (rIxA K) fIx:=fun G H x y u v d Q s rx ry hf q=>by
  cases x with
  | dic ks ds=>
    obtain ⟨a,vs,rfl,sq,l,rs,_⟩:=rx
    obtain ⟨k,hk,hf⟩:=bindE hf
    obtain ⟨z,hz,rz⟩:=rs.getK hf
    exact .inr ⟨a,_,k,z,rfl,key_rep hk ry,Rd.mono s sq,by rw [zip_val k l]; exact hz,q _ _ _ (Ext.refl s) rz⟩
  | non=>cases hf
  | bl b=>cases hf
  | int b=>cases hf
  | str z=>exact .inl (ok_ix0 G H (.str z) y u v d Q s rx ry (by cases y<;>exact hf) q)
  | tup z=>exact .inl (ok_ix0 G H (.tup z) y u v d Q s rx ry (by cases y<;>exact hf) q)
  | lst z=>exact .inl (ok_ix0 G H (.lst z) y u v d Q s rx ry (by cases y<;>exact hf) q)
theorem se_ixO {i:Nat} {x:Str} {p pos:Pos} {b:Expr} {fb:FE} (hu:X.A.units+1<cLine) (ho:QE X (.Name x p) (tVar i)) (hb:SE X b fb) (hs:plainIx b=true:=by rfl):SE X (.Subscript (.Name x p) b pos) (e2 fIx (eAny i) fb):=by
  obtain ⟨tb,pb,kb⟩:=hb.h
  refine ⟨⟨_,pe_ix (ix_S hu) ho.h pb (plain_ix hs),fun {G0 H0 G H τ σ d Q} E hf q=>?_⟩⟩
  obtain ⟨x,hx,hf⟩:=bindE hf
  obtain ⟨y,hy,hf⟩:=bindE hf
  obtain ⟨o,ho⟩:=eAny_at hx
  cases o with
  | false=>
    obtain ⟨v,ev,rv⟩:=E.fr _ _ ho
    exact ⟨v,ev,kb E hy fun u G2 H2 x2 r2=>ok_ix G2 H2 x y v u _ _ x2.gh (rv.mono x2.g) r2 hf fun w G' H' x3 r3=>q w G' H' (x2.trans x3) r3⟩
  | true=>
    obtain ⟨p,ev,_,_,o⟩:=E.ow _ _ ho
    refine ⟨_,ev,kb E hy fun u G2 H2 x2 r2=>?_⟩
    cases x with
    | lst ds=>
      obtain ⟨vs,e1,rs,_⟩:=o
      cases y<;>first | (cases hf; done) | skip
      rename_i i
      obtain ⟨w,hw,rw_⟩:=reps_atI rs hf
      cases r2
      exact .inl (.inl ⟨p,vs,i,w,rfl,rfl,SqL.of (x2.h _ _ e1),hw,q _ _ _ x2 (rw_.mono x2.g)⟩)
    | dic ks ds=>
      obtain ⟨vs,e1,l,rs,_⟩:=o
      obtain ⟨k,hk,hf⟩:=bindE hf
      obtain ⟨z,hz,rz⟩:=rs.getK hf
      exact .inr ⟨p,_,k,z,rfl,key_rep hk r2,.inl (x2.h _ _ e1),by rw [zip_val k l]; exact hz,q _ _ _ x2 (rz.mono x2.g)⟩
    | _=>exact o.elim
noncomputable def rInD (neg:Bool):R2:=fun x y H Q=>∃ a kvs k,y=.ref a∧x=kV k∧Rd H a (.dK kvs)∧Q (.bl (if neg then !(valV kvs k).isSome else (valV kvs k).isSome)) H
theorem op_inD (hu:X.A.units+1<cLine):OpR X (compareOp .In) (rInD false):=by
  intro pins s σ H x y v u Q I rx ry h
  obtain ⟨a,kvs,k,rfl,rfl,e,q⟩:=h
  cases ry
  exact d_in hu I (.inl ⟨kvs,k,e,rfl,rfl⟩) rx fun s' I'=>⟨.bl _,H,I',rfl,q⟩
theorem op_notInD (hu:X.A.units+1<cLine):OpR X (compareOp .NotIn) (rInD true):=by
  intro pins s σ H x y v u Q I rx ry h
  obtain ⟨a,kvs,k,rfl,rfl,e,q⟩:=h
  cases ry
  exact d_notIn hu I (.inl ⟨kvs,k,e,rfl,rfl⟩) rx fun s' I'=>⟨.bl _,H,I',rfl,q⟩
noncomputable def rInA (K:PySem.W.Frag) (neg:Bool):R2:=fun x y H Q=>rIn K neg x y H Q∨(∃ i j,x=.str i∧y=.str j∧Q (.bl (if neg then !(!(Builtin.Str.occurrences j i 0 j.length 1).isEmpty) else !(Builtin.Str.occurrences j i 0 j.length 1).isEmpty)) H)∨rInD neg x y H Q
theorem op_inS (hu:X.A.units+1<cLine):OpR X (compareOp .In) (rInA X.K false):=op_in_seq.or (op_in_str.or (op_inD hu))
theorem op_notInS (hu:X.A.units+1<cLine):OpR X (compareOp .NotIn) (rInA X.K true):=op_notIn_seq.or (op_notIn_str.or (op_notInD hu))
theorem reps_any {H:Hp} {x:D} {u:V} (hx:flatD x=true) (rx:Rep K H x u):∀ {ys:List D} {vs:List V},Reps K H ys vs→ys.all flatD=true→vs.all flatV=true∧inV u vs=ys.any fun y=>dEq y x
  | [],_,r,_=>by cases (show _=[] from r); exact ⟨rfl,rfl⟩
  | y::ys,_,r,h=>by
    obtain ⟨v,r',rfl,hv,hr⟩:=r
    rw [List.all_cons,Bool.and_eq_true] at h
    obtain ⟨a,b⟩:=reps_any hx rx hr h.2
    refine ⟨by rw [List.all_cons,rep_flat h.1 hv,a]; rfl,?_⟩
    show (eqV v u||inV u r')=(dEq y x||_)
    rw [rep_eqV h.1 hx hv rx,b]
theorem in_core {neg:Bool} {H:Hp} {x y:D} {u v:V} {k:Bool} {Q:VK} (rx:Rep K H x u) (ry:Rep K H y v) (hf:fInB x y=some k) (q:Q (.bl (if neg then !k else k)) H):rInA K neg u v H Q:=by
  cases y with
  | lst ys=>
    obtain ⟨a,vs,rfl,sq,rs,_⟩:=ry
    change (match flatD x&&ys.all flatD with | true=>some (ys.any fun y=>dEq y x) | false=>none)=some k at hf
    cases c:(flatD x&&ys.all flatD) with
    | false=>rw [c] at hf; cases hf
    | true=>
      rw [c] at hf
      cases hf
      rw [Bool.and_eq_true] at c
      obtain ⟨c1,c2⟩:=reps_any c.1 rx rs c.2
      exact .inl ⟨a,vs,rfl,.inl sq,rep_flat c.1 rx,c1,by rw [c2]; exact q⟩
  | tup ys=>
    obtain ⟨a,vs,rfl,sq,rs,_⟩:=ry
    change (match flatD x&&ys.all flatD with | true=>some (ys.any fun y=>dEq y x) | false=>none)=some k at hf
    cases c:(flatD x&&ys.all flatD) with
    | false=>rw [c] at hf; cases hf
    | true=>
      rw [c] at hf
      cases hf
      rw [Bool.and_eq_true] at c
      obtain ⟨c1,c2⟩:=reps_any c.1 rx rs c.2
      exact .inl ⟨a,vs,rfl,.inr sq,rep_flat c.1 rx,c1,by rw [c2]; exact q⟩
  | str j=>
    cases x<;>first | (cases hf; done) | skip
    rename_i i
    cases hf
    exact .inr (.inl ⟨i,j,(show u=_∧_ from rx).1,(show v=_∧_ from ry).1,q⟩)
  | dic ks ds=>
    obtain ⟨kk,hk,hf⟩:=bindE hf
    cases hf
    obtain ⟨a,vs,rfl,sq,l,rs,_⟩:=ry
    refine .inr (.inr ⟨a,_,kk,rfl,key_rep hk rx,sq,?_⟩)
    rw [zip_val kk l,getK_has kk l]
    exact q
  | _=>cases hf
theorem ok_in:Ok2B K (rInA K false) fIn:=fun H x y u v d Q rx ry hf=>by
  obtain ⟨k,hk,hf⟩:=bindE hf
  cases hf
  exact ⟨_,rfl,fun q=>in_core rx ry hk q⟩
theorem ok_notIn:Ok2B K (rInA K true) fNotIn:=fun H x y u v d Q rx ry hf=>by
  obtain ⟨k,hk,hf⟩:=bindE hf
  cases hf
  exact ⟨_,rfl,fun q=>in_core rx ry hk q⟩
theorem sf_dnew {pos:Pos}:SF X (.Dict [] [] pos) (eC (.dic [] [])):=⟨⟨_,pe_dnewK,fun {G0 H0 G H τ σ d Q} E hf q p hp=>by
  cases hf
  exact q p G _ (Ext.layO E.ext.gh hp) hp (E.ext.gh.free hp) ⟨[],upd_same,rfl,rfl,Nat.zero_le _⟩⟩⟩
theorem ss_dput {i:Nat} {x:Str} {xp pos pos':Pos} {k v:Expr} {fk fv:FE} (hu:X.A.units+1<cLine) (ho:QE X (.Name x xp) (tVar i)) (hk:SE X k fk) (hv:SE X v fv) (hs:swapsWith v (some (.Subscript (.Name x xp) k pos')) pos.line X.env=pure false:=by rfl) :
    SS X (.Assign [.Subscript (.Name x xp) k pos'] v pos) (sPut i fk fv):=by
  obtain ⟨tk,pk,kk⟩:=hk.h
  obtain ⟨tv,pv,kv⟩:=hv.h
  refine ⟨⟨_,ps_dput hu ho.h pk pv hs,fun {G0 H0 G H τ σ fl E} K hf q=>?_⟩⟩
  obtain ⟨y,hy,hf⟩:=bindE hf
  refine kv K hy fun w G1 H1 x1 r1=>?_
  split at hf
  · rename_i ks ds hd
    obtain ⟨xk,hx,hf⟩:=bindE hf
    obtain ⟨key,hkey,hf⟩:=bindE hf
    by_cases c:ks.length<LIM
    · rw [if_pos c] at hf
      cases hf
      have K1:=K.go x1
      obtain ⟨a,ea,g,z,vs,ev,l,rs,hl⟩:=K1.ow _ _ hd
      refine ⟨_,ea,kk K1 hx fun u G2 H2 x2 r2=>⟨a,_,rfl,.inl ⟨_,key,x2.h _ _ ev,key_rep hkey r2,?_,rfl⟩,?_⟩⟩
      · rw [List.length_zip,l,Nat.min_self,sizeLine_eq,← l]; exact c
      · refine q _ _ _ ((K1.go x2).mut hd ea ⟨putVs ks vs key w,?_,put_len l,(rs.mono x2.g).put (r1.mono x2.g),?_⟩)
        · rw [upd_same,zip_put l]
        · have h1:=put_le (ks:=ks) (vs:=ds) (k:=key) (v:=y) (by rw [l,rs.length])
          have h2:ds.length<16777216:=by rw [← rs.length,← l]; exact c
          rw [sizeLine_eq]
          omega
    · rw [if_neg c] at hf
      cases hf
  · cases hf
noncomputable def GDict (K:PySem.W.Frag) (w:World) (a:Addr) (ks:List Key) (ds:List D):Prop:=
  ∃ us:List V,ks.length=us.length∧(a == sysModules)=false∧(∀ H,Reps K H ds us)∧∀ (P:Program) (h:Heap),K.In h→∃ vs,KV (ks.zip us) vs∧h.DictOf (mixKind P w) a vs
inductive Ents (w:World):List DictEntry→List Str→List Value→Prop
  | nil:Ents w [] [] []
  | cons {x:Str} {t:Tok} {v:Value} {es:List DictEntry} {xs:List Str} {vs:List Value} (r:Ents w es xs vs):Ents w (⟨PyData.keyHash w.params x,.str x t,v⟩::es) (x::xs) (v::vs)
theorem Ents.pairs {w:World} {P:Program}:∀ {es:List DictEntry} {xs:List Str} {vs:List Value},Ents w es xs vs→Pairs (mixKind P w) es ((xs.map Sum.inr).zip vs)∧(∀ e∈es,∃ k,(mixKind P w).is k e.key=true∧e.hash=(mixKind P w).hash k)
  | _,_,_,.nil=>⟨.nil,fun e h=>absurd h (by simp)⟩
  | _,_,_,.cons (x:=x) (t:=t) r=>by
    obtain ⟨a,b⟩:=Ents.pairs (P:=P) r
    refine ⟨.cons (mixKind_str P w x t) rfl a,fun e h=>?_⟩
    rcases List.mem_cons.mp h with rfl | h
    · exact ⟨.inr x,mixKind_str P w x t,rfl⟩
    · exact b e h
theorem Ents.len {w:World}:∀ {es:List DictEntry} {xs:List Str} {vs:List Value},Ents w es xs vs→xs.length=vs.length
  | _,_,_,.nil=>rfl
  | _,_,_,.cons r=>by rw [List.length_cons,List.length_cons,r.len]
theorem kv_zip:∀ {ks:List Key} {us:List V} {vs:List Value},Vals us vs→ks.length=us.length→KV (ks.zip us) (ks.zip vs)
  | [],_,_,.nil,_=>.nil
  | k::ks,_,_,.cons r t,h=>.cons ⟨rfl,r⟩ (kv_zip t (by simpa using h))
theorem zip_fst:∀ {ks:List Key} {vs:List Value},ks.length=vs.length→(ks.zip vs).map (·.1)=ks
  | [],[],_=>rfl
  | k::ks,v::vs,h=>by rw [List.zip_cons_cons,List.map_cons,zip_fst (by simpa using h)]
theorem gdict_mk {w:World} {a:Addr} {es:List DictEntry} {n:Nat} {xs:List Str} {vs:List Value} {us:List V} {ds:List D} (l:K.lookup a=some { cls:=.type "dict",data:=.dict es.toArray n }) (e:Ents w es xs vs) (nd:xs.Nodup) (hs:(a == sysModules)=false) (r:Vals us vs) (rd:∀ H,Reps K H ds us) :
    GDict K w a (xs.map .inr) ds:=by
  have hl:(xs.map Sum.inr:List Key).length=us.length:=by rw [List.length_map,e.len,r.length]
  refine ⟨us,hl,hs,rd,fun P h KI=>⟨_,kv_zip r hl,?_⟩⟩
  obtain ⟨p,q⟩:=e.pairs (P:=P)
  refine ⟨_,_,_,KI _ _ l,⟨rfl,rfl,rfl⟩,rfl,fun e he=>q e (by simpa using he),p,?_⟩
  rw [zip_fst (by rw [List.length_map]; exact e.len)]
  exact List.Pairwise.map _ (fun a b h z=>h (Sum.inr.inj z)) nd
theorem gd_ix {A:Addr} {ks:List Key} {ds:List D} (g:GDict X.K X.w A ks ds):IxR X (fun x y H Q=>x=.ref A∧∃ k,y=kV k∧∃ d,getK ks ds k=some d∧∀ v,(∀ H,∃ H',Same H H'∧True)→(∀ H,Rep X.K H d v)→Q v H):=by
  intro value slice pins s σ H x y v u Q I rx ry h hs
  obtain ⟨rfl,k,rfl,d,hd,q⟩:=h
  cases rx
  obtain ⟨us,hl,hsys,rd,mk⟩:=g
  obtain ⟨vs,rel,dd⟩:=mk X.prog s.heap I.kIn
  obtain ⟨z,hz,_⟩:=(rd H).getK hd
  have rz:∀ H,Rep X.K H d z:=fun H'=>by
    obtain ⟨z',hz',r'⟩:=(rd H').getK hd
    rw [hz] at hz'
    cases hz'
    exact r'
  obtain ⟨w',hw,rw'⟩:=RelO.some_of (v:=z) (o:=valueAt vs k) (by rw [← hz,← zip_val k hl]; exact rel.val k)
  exact subscriptTail_builtinR (x:=w') dd.typeIs PySem.F.slot_dict_getitem.lookup
    (wpAny_getItem_of (Q:=fun r s'=>r=w'∧EP X pins σ Q r s') (kV_is ry) dd.mapOf hw ⟨rfl,z,H,I.tok _,rw',q z (fun H=>⟨H,Same.refl H,trivial⟩) rz⟩) hs
theorem se_gdix {A:Addr} {ks:List Key} {ds:List D} {x:Str} {p pos:Pos} {b:Expr} {fb:FE} (h:Glb X.mg x (.ref A)) (g:GDict X.K X.w A ks ds) (hg:Gl X x) (hb:SE X b fb) (hs:plainIx b=true:=by rfl) (hd:(x == ("__debug__" : Str))=false:=by decide) :
    SE X (.Subscript (.Name x p) b pos) (e1 (fGd ks ds) fb):=by
  obtain ⟨tb,pb,kb⟩:=hb.h
  refine ⟨⟨_,pe_ix (gd_ix g) (pe_gl h hg hd) pb (plain_ix hs),fun {G0 H0 G H τ σ d Q} E hf q=>?_⟩⟩
  obtain ⟨y,hy,hf⟩:=bindE hf
  obtain ⟨k,hk,hf⟩:=bindE hf
  exact kb E hy fun u G2 H2 x2 r2=>⟨rfl,k,key_rep hk r2,d,hf,fun v _ rv=>q v _ _ x2 (rv _)⟩
end
end L3
namespace L3
open PySem PySem.Spec PyProof.Rows L2
noncomputable def seqD:D→Option (List D)
  | .lst xs=>some xs
  | .tup xs=>some xs
  | _=>none
noncomputable def iZip2 (a b:FE):FA:=fun σ=>(a σ).bind fun x=>(b σ).bind fun y=>(seqD x).bind fun xs=>(seqD y).bind fun ys=>some (List.zipWith (fun x y=>D.tup [x,y]) xs ys)
section
variable {K:PySem.W.Frag} {G H:Hp}
theorem seqD_rep {x:D} {xs:List D} {u:V} (h:seqD x=some xs) (r:Rep K G x u):∃ t a vs,u=.ref a∧SqX K t G a vs∧Reps K G xs vs∧xs.length≤sizeLine:=by
  cases x<;>first | (cases h; done) | skip
  · cases h
    obtain ⟨a,vs,rfl,sq,rs,l⟩:=r
    exact ⟨true,a,vs,rfl,sq,rs,l⟩
  · cases h
    obtain ⟨a,vs,rfl,sq,rs,l⟩:=r
    exact ⟨false,a,vs,rfl,sq,rs,l⟩
theorem sqX_mono {H':Hp} {t:Bool} {a:Addr} {vs:List V} (s:Same H H') (h:SqX K t H a vs):SqX K t H' a vs:=by
  cases t
  · exact sqL_mono s h
  · exact sqT_mono s h
theorem zip_walk {t1 t2:Bool} {a b:Addr} {vs us:List V} {xs ys:List D} (s1:SqX K t1 G a vs) (s2:SqX K t2 G b us) (r1:Reps K G xs vs) (r2:Reps K G ys us):Walk K (Itz K t1 t2 a b) G (List.zipWith (fun x y=>D.tup [x,y]) xs ys) where
  go:=fun i G2 H g1 g2 hi=>by
    rw [List.length_zipWith] at hi
    obtain ⟨v,e1,_⟩:=r1.get (List.getElem?_eq_getElem (show i<xs.length by omega))
    obtain ⟨u,e2,_⟩:=r2.get (List.getElem?_eq_getElem (show i<ys.length by omega))
    exact ⟨vs,us,v,u,sqX_mono (g1.trans g2) s1,sqX_mono (g1.trans g2) s2,e1,e2⟩
  yld:=fun i G2 H x H' g1 g2 hi y=>by
    obtain ⟨p,hp,rfl,k⟩:=y
    obtain ⟨v,u,e1,e2,rfl⟩:=k vs us (sqX_mono (g1.trans g2) s1) (sqX_mono (g1.trans g2) s2)
    obtain ⟨d1,f1,q1⟩:=r1.at e1
    obtain ⟨d2,f2,q2⟩:=r2.at e2
    refine ⟨upd G2 p (.tup [v,u]),.tup [d1,d2],Ext.lay g2 hp,by rw [List.getElem?_zipWith,f1,f2],?_⟩
    have sm:Same G (upd G2 p (.tup [v,u])):=g1.trans (same_new (g2.free hp) _)
    exact ⟨p,[v,u],rfl,SqT.of upd_same,⟨v,_,rfl,q1.mono sm,⟨u,_,rfl,q2.mono sm,rfl⟩⟩,small (n:=2) (by decide)⟩
  stop:=fun i G2 H g1 g2 hi=>by
    rw [List.length_zipWith] at hi
    refine ⟨vs,us,sqX_mono (g1.trans g2) s1,sqX_mono (g1.trans g2) s2,?_⟩
    rw [r1.length,r2.length]
    omega
end
section
variable {X:Cx} {a b e o:Expr} {fa fb f:FE} {p pos apos cpos:Pos}
theorem si_zip {elts:List Expr} {kk:Nat} {tp:Pos} (hg:Gl X "zip") (hm:X.mg "zip" = none) (ha:SE X a fa) (hb:SE X b fb) (hs:noStar a=true:=by rfl) (hs2:noStar b=true:=by rfl):SI X (.Tuple elts kk tp) (.Call (.Name "zip" p) [a,b] [] pos) (iZip2 fa fb):=by
  obtain ⟨t,pt,k⟩:=(sa_cons ha (sa_cons hb sa_nil hs2) hs).h
  refine ⟨⟨_,(qi_zip hg hm ⟨pt⟩ hs hs2).h,fun {G0 H0 G H τ σ ds R} K hf q=>?_⟩⟩
  obtain ⟨x,hx,hf⟩:=bindE hf
  obtain ⟨y,hy,hf⟩:=bindE hf
  obtain ⟨xs,hxs,hf⟩:=bindE hf
  obtain ⟨ys,hys,hf⟩:=bindE hf
  cases hf
  refine k K (ds:=[x,y]) (by unfold aCons; rw [hx,hy]; rfl) fun vs G1 H1 x1 r1=>?_
  obtain ⟨v,r,rfl,hv,⟨v2,r2,rfl,hv2,hr⟩⟩:=r1
  cases (show r2=[] from hr)
  obtain ⟨t1,a1,vs1,rfl,s1,q1,l1⟩:=seqD_rep hxs hv
  obtain ⟨t2,a2,vs2,rfl,s2,q2,l2⟩:=seqD_rep hys hv2
  refine ⟨a1,a2,vs1,vs2,t1,t2,rfl,sqX_mono x1.gh s1,sqX_mono x1.gh s2,q _ _ _ x1 ?_ (zip_walk s1 s2 q1 q2)⟩
  rw [List.length_zipWith]
  omega
noncomputable abbrev FO:=SEnv→Option (Option Int)
noncomputable def oNone:FO:=fun _=>some none
noncomputable def oSome (f:FE):FO:=fun σ=>(f σ).bind fun d=>match d with
  | .int i=>some (some i)
  | _=>none
noncomputable def cutD {α:Type} (xs:List α) (lo hi:Option Int):List α:=(xs.drop (HT.sIx xs.length 0 lo)).take (HT.sIx xs.length xs.length hi - HT.sIx xs.length 0 lo)
noncomputable def fSl (d:D) (lo hi:Option Int):Option D:=match d with
  | .lst xs=>some (.lst (cutD xs lo hi))
  | .tup xs=>if HT.sIx xs.length 0 lo=0∧HT.sIx xs.length xs.length hi=xs.length then none else some (.tup (cutD xs lo hi))
  | .str z=>some (.str (cutS z lo hi))
  | _=>none
noncomputable def eSl (a:FE) (lo hi:FO):FE:=fun σ=>(a σ).bind fun d=>(lo σ).bind fun l=>(hi σ).bind fun h=>fSl d l h
structure SO (X:Cx) (e:Option Expr) (f:FO):Prop where
  h:∃ t,PO X e t∧∀ {G0 H0 G H:Hp} {τ:SEnv} {σ:St} {d:Option Int} {Q:Option Int→Hp→Prop},EnvOk X.K X.N.length G0 H0 G H τ σ→f τ=some d→(∀ G' H',Ext G H G' H'→Q d H')→t σ H Q
theorem so_none:SO X none oNone:=⟨⟨_,po_none,fun E hf q=>by cases hf; exact q _ _ (Ext.refl E.ext.gh)⟩⟩
theorem so_some (h:SE X e f):SO X (some e) (oSome f):=by
  obtain ⟨t,pt,k⟩:=h.h
  refine ⟨⟨_,po_some pt,fun {G0 H0 G H τ σ d Q} E hf q=>?_⟩⟩
  obtain ⟨x,hx,hf⟩:=bindE hf
  cases x<;>first | (cases hf; done) | skip
  cases hf
  exact k E hx fun v G' H' x r=>⟨_,r,q _ _ x⟩
theorem Reps.cut {K:PySem.W.Frag} {G:Hp} {ds:List D} {vs:List V} (r:Reps K G ds vs) (lo hi:Option Int):Reps K G (cutD ds lo hi) (cutV vs lo hi):=by
  unfold cutD cutV
  rw [r.length]
  exact (r.drop _).take _
theorem cutD_len {α:Type} (xs:List α) (lo hi:Option Int):(cutD xs lo hi).length≤xs.length:=by
  unfold cutD
  rw [List.length_take,List.length_drop]
  omega
noncomputable def rSlA (K:PySem.W.Frag):V→Option Int→Option Int→Hp→VK→Prop:=fun x lo hi H Q=>rSlL K x lo hi H Q∨rSlT K x lo hi H Q∨rSlS x lo hi H Q
theorem sl_S:SlR X (rSlA X.K):=sl_list.or (sl_tup.or sl_str)
theorem se_sl {lo hi:Option Expr} {fl fh:FO} {p2:Pos} (ha:SE X a fa) (hl:SO X lo fl) (hh:SO X hi fh):SE X (.Subscript a (.Slice lo hi none p2) pos) (eSl fa fl fh):=by
  obtain ⟨ta,pa,ka⟩:=ha.h
  obtain ⟨tl,pl,kl⟩:=hl.h
  obtain ⟨th,ph,kh⟩:=hh.h
  refine ⟨⟨_,pe_slice sl_S pa pl ph,fun {G0 H0 G H τ σ d Q} E hf q=>?_⟩⟩
  obtain ⟨x,hx,hf⟩:=bindE hf
  obtain ⟨l,hl,hf⟩:=bindE hf
  obtain ⟨h,hh,hf⟩:=bindE hf
  refine ka E hx fun v G1 H1 x1 r1=>kl (E.go x1) hl fun G2 H2 x2=>kh ((E.go x1).go x2) hh fun G3 H3 x3=>?_
  have xx:=x1.trans (x2.trans x3)
  have r3:=r1.mono (x2.g.trans x3.g)
  cases x with
  | lst xs=>
    cases hf
    obtain ⟨a,vs,rfl,sq,rs,ll⟩:=r3
    refine .inl ⟨a,vs,rfl,sqL_mono x3.gh sq,fun p hp=>q _ _ _ (xx.trans (Ext.lay x3.gh hp)) ⟨p,_,rfl,SqL.of upd_same,(rs.cut l h).mono (same_new (x3.gh.free hp) _),Nat.le_trans (cutD_len ..) ll⟩⟩
  | tup xs=>
    change (if HT.sIx xs.length 0 l=0∧HT.sIx xs.length xs.length h=xs.length then none else some (D.tup (cutD xs l h)))=some d at hf
    by_cases c:HT.sIx xs.length 0 l=0∧HT.sIx xs.length xs.length h=xs.length
    · rw [if_pos c] at hf
      cases hf
    · rw [if_neg c] at hf
      cases hf
      obtain ⟨a,vs,rfl,sq,rs,ll⟩:=r3
      refine .inr (.inl ⟨a,vs,rfl,sqT_mono x3.gh sq,by rw [rs.length]; exact c,fun p hp=>?_⟩)
      exact q _ _ _ (xx.trans (Ext.lay x3.gh hp)) ⟨p,_,rfl,SqT.of upd_same,(rs.cut l h).mono (same_new (x3.gh.free hp) _),Nat.le_trans (cutD_len ..) ll⟩
  | str z=>
    cases hf
    obtain ⟨rfl,ll⟩:=r3
    exact .inr (.inr ⟨z,rfl,ll,q _ _ _ xx ⟨rfl,Nat.le_trans (cut_len ..) ll⟩⟩)
  | _=>cases hf
noncomputable def fList:List D→Option D
  | [.lst xs]=>some (.lst xs)
  | [.tup xs]=>some (.lst xs)
  | _=>none
noncomputable def fTuple:List D→Option D
  | [.lst xs]=>some (.tup xs)
  | [.tup xs]=>some (.tup xs)
  | _=>none
theorem reps_one {K:PySem.W.Frag} {G:Hp} {d:D} {vs:List V} (r:Reps K G [d] vs):∃ v,vs=[v]∧Rep K G d v:=by
  obtain ⟨v,r',rfl,hv,hr⟩:=r
  cases (show r'=[] from hr)
  exact ⟨v,rfl,hv⟩
theorem sf_list {fs:FA} (hg:Gl X "list") (hm:X.mg "list" = none) (ha:SA X [e] fs) (hs:noStar e=true:=by rfl):SF X (.Call (.Name "list" p) [e] [] pos) (eL fList fs):=by
  obtain ⟨t,pt,k⟩:=ha.h
  refine ⟨⟨_,(qe_callTy call_list_of hg hm boot_ty_list ⟨pt⟩ (by decide) (by decide) (by rw [List.all_cons,hs]; rfl)).h,fun {G0 H0 G H τ σ d Q} E hf q=>?_⟩⟩
  obtain ⟨ds,hd,hf⟩:=bindE hf
  refine k E hd fun vs G1 H1 x1 r1=>?_
  match ds,hf with
  | [.lst xs],hf=>
    cases hf
    obtain ⟨v,rfl,a,us,rfl,sq,rs,l⟩:=reps_one r1
    exact ⟨a,us,rfl,.inl (sqL_mono x1.gh sq),fun p hp=>q p _ _ (x1.trans (Ext.layO x1.gh hp)) (x1.h.free hp) (x1.gh.free hp) ⟨us,upd_same,rs,l⟩⟩
  | [.tup xs],hf=>
    cases hf
    obtain ⟨v,rfl,a,us,rfl,sq,rs,l⟩:=reps_one r1
    exact ⟨a,us,rfl,.inr (sqT_mono x1.gh sq),fun p hp=>q p _ _ (x1.trans (Ext.layO x1.gh hp)) (x1.h.free hp) (x1.gh.free hp) ⟨us,upd_same,rs,l⟩⟩
theorem ok_tuple {K:PySem.W.Frag}:OkCG K (fun xs H Q=>∃ p ys,xs=[.ref p]∧((SqL K H p ys∧∀ l,H l=none→Q (.ref l) (upd H l (.tup ys)))∨(SqT K H p ys∧Q (.ref p) H))) fTuple:=fun G H ds vs d Q s r hf q=>by
  match ds,hf with
  | [.lst xs],hf=>
    cases hf
    obtain ⟨v,rfl,a,us,rfl,sq,rs,l⟩:=reps_one r
    exact ⟨a,us,rfl,.inl ⟨sqL_mono s sq,fun p hp=>q _ _ _ (Ext.lay s hp) ⟨p,us,rfl,SqT.of upd_same,rs.mono (same_new (s.free hp) _),l⟩⟩⟩
  | [.tup xs],hf=>
    cases hf
    obtain ⟨v,rfl,a,us,rfl,sq,rs,l⟩:=reps_one r
    exact ⟨a,us,rfl,.inr ⟨sqT_mono s sq,q _ _ _ (Ext.refl s) ⟨a,us,rfl,sq,rs,l⟩⟩⟩
noncomputable def ixOf (x:D):List D→Nat→Option Nat
  | [],_=>none
  | y::ys,n=>match dEq y x with
    | true=>some n
    | false=>ixOf x ys (n+1)
noncomputable def fIndex:D→D→Option D
  | .lst ys,x=>match flatD x&&ys.all flatD with
    | true=>(ixOf x ys 0).bind fun n=>some (.int n)
    | false=>none
  | _,_=>none
theorem ixOf_at {x:D}:∀ {ys:List D} {n m:Nat},ixOf x ys n=some m→∃ j y,m=n+j∧ys[j]?=some y∧dEq y x=true∧∀ i z,i<j→ys[i]?=some z→dEq z x=false
  | [],_,_,h=>by cases h
  | y::ys,n,m,h=>by
    change (match dEq y x with | true=>some n | false=>ixOf x ys (n+1))=some m at h
    cases c:dEq y x with
    | true=>
      rw [c] at h
      cases h
      exact ⟨0,y,rfl,rfl,c,fun i z hi=>absurd hi (Nat.not_lt_zero _)⟩
    | false=>
      rw [c] at h
      obtain ⟨j,y',e1,e2,e3,e4⟩:=ixOf_at h
      refine ⟨j+1,y',by omega,by simpa using e2,e3,fun i z hi ez=>?_⟩
      cases i with
      | zero=>cases ez; exact c
      | succ i=>exact e4 i z (by omega) (by simpa using ez)
theorem mt_indexL:MtR X "list.index" (fun x vs H Q=>∃ (a:Addr) (us:List V) (y:V) (j:Nat) (u:V),x=.ref a∧vs=[y]∧SqL X.K H a us∧flatV y=true∧us.all flatV=true∧us[j]?=some u∧eqV u y=true∧(∀ i z,i<j→us[i]?=some z→eqV z y=false)∧Q (.int (j:Int)) H):=by
  intro pins s σ H x xs v us' Q I rx rs h
  obtain ⟨a,us,y,j,u,rfl,rfl,sq,fy,fu,eu,hit,no,q⟩:=h
  cases rx
  obtain ⟨w,rfl,ry⟩:=vals1 rs
  obtain ⟨its,r,⟨⟨c1,d1,t1,sl1⟩,n1,ho,hc,hd,ht⟩,hz⟩:=I.list sq
  simp only at hc ht
  subst hc ht
  have hl:=r.length
  have hj:j<us.length:=(List.getElem?_eq_some_iff.mp eu).1
  have key:∀ (i:Nat) (z:V) (hi:i<its.toArray.size),us[i]?=some z→eqU y its.toArray[i]=eqV z y:=fun i z hi ez=>by
    obtain ⟨t,et,rt⟩:=r.get ez
    have e:its.toArray[i]=t:=by
      have h2:its[i]?=some its[i]:=List.getElem?_eq_getElem (by rw [List.size_toArray] at hi; exact hi)
      rw [h2] at et
      simpa using et
    rw [e]
    exact eqU_of rt (List.all_eq_true.mp fu z (List.mem_of_getElem? ez))
  have hjs:j<its.toArray.size:=by rw [List.size_toArray,← hl]; exact hj
  have hsz:=line63
  refine call_meets PySem.F.slot_list_index ⟨_,ho,rfl⟩ PySem.F.entry_list_index (PySem.F.args_list_index_2 _ _) (SeqAt.list_indexAt a its.toArray n1 d1 sl1 w (eqU y) j hjs (by omega) (by rw [key j u hjs eu]; exact hit) fun m hm hlt=>?_) ⟨ho,fun t ht=>?_,⟨.int j,H,I.tok _,⟨_,rfl⟩,q⟩⟩
  · have hm':m<us.length:=by rw [List.size_toArray,← hl] at hm; exact hm
    rw [key m us[m] hm (List.getElem?_eq_getElem hm')]
    exact no m _ hlt (List.getElem?_eq_getElem hm')
  · exact mem_eqAt ry fy r fu t (by simpa using ht)
theorem se_indexL {fo:FE} (ho:SE X o fo) (he:SE X e f) (hbase:attributeBase o "index" X.env (eval o X.env)=eval o X.env:=by rfl) (hline:(apos.endLine == cpos.line)=true:=by rfl) (hs:noStar e=true:=by rfl) :
    SE X (.Call (.Attribute o "index" apos) [e] [] cpos) (e2 fIndex fo f):=by
  obtain ⟨to,po,ko⟩:=ho.h
  obtain ⟨te,pe,ke⟩:=(sa_cons he sa_nil hs).h
  refine ⟨⟨_,(qe_bm PySem.F.plainAttrs_list PySem.F.slot_list_index PySem.F.type_list_index mt_indexL ⟨po⟩ ⟨pe⟩ hbase hline (by rw [List.all_cons,hs]; rfl) (by show 1<30; decide)).h,fun {G0 H0 G H τ σ d Q} E hf q=>?_⟩⟩
  obtain ⟨x,hx,hf⟩:=bindE hf
  obtain ⟨y,hy,hf⟩:=bindE hf
  refine ko E hx fun v G1 H1 x1 r1=>?_
  cases x with
  | lst ys=>
    obtain ⟨a,us,rfl,sq,rs,_⟩:=r1
    refine ⟨.inl ⟨rfl,us,sqL_mono x1.gh sq⟩,ke (E.go x1) (ds:=[y]) (by unfold aCons; rw [hy]; rfl) fun ws G2 H2 x2 r2=>?_⟩
    obtain ⟨w,rfl,rw_⟩:=reps_one r2
    change (match flatD y&&ys.all flatD with | true=>(ixOf y ys 0).bind fun n=>some (D.int n) | false=>none)=some d at hf
    cases c:(flatD y&&ys.all flatD) with
    | false=>rw [c] at hf; cases hf
    | true=>
      rw [c] at hf
      obtain ⟨n,hn,hf⟩:=bindE hf
      cases hf
      rw [Bool.and_eq_true] at c
      obtain ⟨j,z,e1,e2,e3,e4⟩:=ixOf_at hn
      rw [Nat.zero_add] at e1
      subst e1
      have rs2:=rs.mono x2.g
      obtain ⟨u,eu,ru⟩:=rs2.get e2
      have fl:∀ {i:Nat} {z:D},ys[i]?=some z→flatD z=true:=fun {i z} ez=>List.all_eq_true.mp c.2 z (List.mem_of_getElem? ez)
      refine ⟨a,us,w,n,u,rfl,rfl,sqL_mono (x1.gh.trans x2.h) sq,rep_flat c.1 rw_,(reps_any c.1 rw_ rs2 c.2).1,eu,by rw [rep_eqV (fl e2) c.1 ru rw_]; exact e3,fun i z hi ez=>?_,q _ _ _ (x1.trans x2) rfl⟩
      obtain ⟨dz,ed,rd⟩:=rs2.at ez
      rw [rep_eqV (fl ed) c.1 rd rw_]
      exact e4 i dz hi ed
  | _=>cases hf
theorem ss_aug {i:Nat} {x:Str} {op:Operator} {ti:TIp} {F:D→D→Option D} {pos':Pos} (ho:PIp X op ti) (hF:Ok2 X.K ti F) (hN:X.N.Nodup) (hi:X.N[i]?=some x) (hx:Loc X.env.scope x) (he:SE X e f) (hf:X.fn x=true∨X.env.scope.names.lookup x=some .local:=by first | exact .inl rfl | exact .inr rfl | assumption) :
    SS X (.AugAssign (.Name x pos') op e pos) (sSet i (e2 F (eVar i) f)):=by
  obtain ⟨t,pt,k⟩:=he.h
  refine ⟨⟨_,ps_aug hN hi hx pt ho hf,fun {G0 H0 G H τ σ fl E} K hf q=>?_⟩⟩
  obtain ⟨d,hd,hf⟩:=bindE hf
  cases hf
  obtain ⟨x,hx,hd⟩:=bindE hd
  obtain ⟨y,hy,hd⟩:=bindE hd
  obtain ⟨v,ev,rv⟩:=K.fr _ _ (eVar_at hx)
  refine ⟨v,ev,k K hy fun u G1 H1 x1 r1=>hF G1 H1 x y v u d _ x1.gh (rv.mono x1.g) r1 hd fun w G2 H2 x2 r2=>?_⟩
  exact q _ _ _ (((K.go x1).go x2).set (List.getElem?_eq_some_iff.mp hi).1 r2)
theorem ok_ipI {K:PySem.W.Frag}:Ok2 K (ipI fun i j=>i+j) (fBit fun i j=>i+j):=fun G H x y u v d Q s rx ry hf q=>by
  cases x<;>first | (cases hf; done) | skip
  cases y<;>first | (cases hf; done) | skip
  cases hf
  exact ⟨_,_,rx,ry,q _ _ _ (Ext.refl s) rfl⟩
variable {x:Str} {ps:List Str} {j k:Nat} {FF:List D→Option (Bool×D)}
theorem se_call0 (h:Has X.prog X.w X.K X.mg X.base x ps k (spF X.K FF)) (hr:Room j X.A) (hg:Gl X x) (hk:k≤j:=by decide) (hdb:(x == ("__debug__" : Str))=false:=by decide):SE X (.Call (.Name x p) [] [] pos) (eCall FF aNil):=by
  obtain ⟨f,fd,hm,kp,b,F⟩:=h
  refine ⟨⟨_,pe_call0 F (hr.mono hk) hg hm kp b .nil pass0 hdb,fun {G0 H0 G H τ σ d Q} E hf q=>?_⟩⟩
  obtain ⟨ds,hd,hf⟩:=bindE hf
  cases hd
  obtain ⟨⟨o,d⟩,hr,hf⟩:=bindE hf
  cases hf
  refine ⟨G,[],o,d,E.ext.gh,rfl,hr,?_⟩
  cases o with
  | false=>exact fun v G' H' x2 r=>q v G' H' x2 r
  | true=>
    intro p G' H' x2 hp gp o
    obtain ⟨u,hu,r⟩:=o.frz gp
    exact q _ _ _ (x2.frz hp gp hu) r
end
noncomputable def FR (n N:Nat) (b:FS) (ds:List D):Option (Bool×D):=if ds.length=n then runF N b ds else none
theorem FR_ok {n N:Nat} {b:FS}:∀ ds r,FR n N b ds=some r→ds.length=n∧runF N b ds=some r:=fun ds r h=>by
  unfold FR at h
  split at h
  · rename_i c
    exact ⟨c,h⟩
  · cases h
end L3
namespace L3
open PySem PySem.Spec PyProof.Rows L2
theorem tuple_loop {M:Model} {A:Around} {E:Value→Shared→Prop} {items:Array Value} {x:Value} {e:Value→Bool} {j:Nat} (hM:∃ prog w,M=model prog w) (hj:j<items.size) (hit:e items[j]=true) (no:∀ m (hm:m<items.size),m<j→e items[m]=false) {s:Shared}
    (he:∀ y∈items,SeqAt.EqAt A s y x (e y)) {Q:Option PySem.Fin×Unit→Shared→Prop} (h:Q (some (.done (.ret (.int j s.toks))),()) { s with toks:=s.toks+1 }):∀ m i:Nat,i+m=items.size→i≤j→
    wpAny M A (forIn (List.range' i m) ((none,()):Option PySem.Fin×Unit) fun (i:Nat) (_:Option PySem.Fin×Unit)=>match items[i]? with
      | some y=>do
        let __do_lift ← eqBool y x
        if __do_lift=true then do
            let __do_lift ← retInt (i:Int)
            pure (ForInStep.done (some __do_lift,()))
          else pure (ForInStep.yield (none,()))
      | _=>pure (ForInStep.yield (none,()))) Q E s
  | 0,i,h1,h2=>by omega
  | m+1,i,h1,h2=>by
    obtain ⟨prog,w,rfl⟩:=hM
    have hi:i<items.size:=by omega
    rw [List.range'_succ,List.forIn_cons]
    refine wpAny_bind ?_
    rw [Array.getElem?_eq_getElem hi]
    refine wpAny_bind (he _ (Array.getElem_mem hi) prog w E _ ?_)
    by_cases c:i=j
    · subst c
      rw [hit,if_pos rfl]
      wp_walk
      exact h
    · rw [no i hi (by omega),if_neg (by decide)]
      refine wpAny_pure ?_
      exact tuple_loop ⟨prog,w,rfl⟩ hj hit no he h m (i+1) (by omega) (by omega)
theorem tuple_indexM (t:Addr) (items:Array Value) (x:Value) (e:Value→Bool) (j:Nat) (hj:j<items.size) (hit:e items[j]=true) (no:∀ m (hm:m<items.size),m<j→e items[m]=false) :
    Meets (Builtin.«tuple.index» ⟨[.ref t,x],[]⟩) (fun A R s=>IsTup s.heap t items∧(∀ y∈items,SeqAt.EqAt A.in1 s y x (e y))∧R (.ok (.ret (.int j s.toks))) { s with toks:=s.toks+1 }):=by
  intro prog w A R s h
  obtain ⟨hp,g,d,tk,os⟩:=s
  obtain ⟨⟨o,ho,hc,n,hd⟩,he,h⟩:=h
  unfold Builtin.«tuple.index»
  wp_walk
  skip
  rw [hd]
  refine wpAny_pure (wpAny_pure ?_)
  show wpAny _ _ (pure 0 >>= _) _ _ _
  refine wpAny_bind (wpAny_pure (wpAny_bind (wpAny_pure (wpAny_bind ?_))))
  rw [Std.Legacy.Range.forIn_eq_forIn_range']
  have hs:Std.Legacy.Range.size [0:min items.size items.size]=items.size:=by simp [Std.Legacy.Range.size]
  rw [hs]
  refine tuple_loop ⟨prog,w,rfl⟩ hj hit no he ?_ items.size 0 (by omega) (by omega)
  exact wpAny_pure h
section
variable {X:Cx} {e o k v:Expr} {f fo fk fv:FE} {x:Str} {xp p pos apos cpos:Pos}
theorem mt_indexT:MtR X "tuple.index" (fun x vs H Q=>∃ (a:Addr) (us:List V) (y:V) (j:Nat) (u:V),x=.ref a∧vs=[y]∧SqT X.K H a us∧flatV y=true∧us.all flatV=true∧us[j]?=some u∧eqV u y=true∧(∀ i z,i<j→us[i]?=some z→eqV z y=false)∧Q (.int (j:Int)) H):=by
  intro pins s σ H x xs v us' Q I rx rs h
  obtain ⟨a,us,y,j,u,rfl,rfl,sq,fy,fu,eu,hit,no,q⟩:=h
  cases rx
  obtain ⟨w,rfl,ry⟩:=vals1 rs
  obtain ⟨its,r,pt,hz⟩:=I.tuple sq
  have hl:=r.length
  have hj:j<us.length:=(List.getElem?_eq_some_iff.mp eu).1
  have key:∀ (i:Nat) (z:V) (hi:i<its.toArray.size),us[i]?=some z→eqU y its.toArray[i]=eqV z y:=fun i z hi ez=>by
    obtain ⟨t,et,rt⟩:=r.get ez
    have e:its.toArray[i]=t:=by
      have h2:its[i]?=some its[i]:=List.getElem?_eq_getElem (by rw [List.size_toArray] at hi; exact hi)
      rw [h2] at et
      simpa using et
    rw [e]
    exact eqU_of rt (List.all_eq_true.mp fu z (List.mem_of_getElem? ez))
  have hjs:j<its.toArray.size:=by rw [List.size_toArray,← hl]; exact hj
  refine call_meets PySem.F.slot_tuple_index pt.typeIs PySem.F.entry_tuple_index (PySem.F.args_tuple_index_2 _ _) (tuple_indexM a its.toArray w (eqU y) j hjs (by rw [key j u hjs eu]; exact hit) fun m hm hlt=>?_) ⟨pt,fun t ht=>?_,⟨.int j,H,I.tok _,⟨_,rfl⟩,q⟩⟩
  · have hm':m<us.length:=by rw [List.size_toArray,← hl] at hm; exact hm
    rw [key m us[m] hm (List.getElem?_eq_getElem hm')]
    exact no m _ hlt (List.getElem?_eq_getElem hm')
  · exact mem_eqAt ry fy r fu t (by simpa using ht)
noncomputable def TupK (K:PySem.W.Frag) (A:Addr):Prop:=∃ o,K.lookup A=some o∧o.cls=.type "tuple" ∧ o.dict=none
noncomputable def fTix (ds:List D) (y:D):Option D:=fIndex (.lst ds) y
theorem se_gtindex {A:Addr} {ds:List D} (h:Glb X.mg x (.ref A)) (r:∀ H,Rep X.K H (.tup ds) (.ref A)) (kt:TupK X.K A) (hg:Gl X x) (he:SE X e f) (hd:(x == ("__debug__" : Str))=false:=by decide)
    (hbase:attributeBase (.Name x xp) "index" X.env (eval (.Name x xp) X.env)=eval (.Name x xp) X.env:=by rfl) (hline:(apos.endLine == cpos.line)=true:=by rfl) (hs:noStar e=true:=by rfl) :
    SE X (.Call (.Attribute (.Name x xp) "index" apos) [e] [] cpos) (e1 (fTix ds) f):=by
  obtain ⟨te,pe,ke⟩:=(sa_cons he sa_nil hs).h
  refine ⟨⟨_,(qe_bm PySem.F.plainAttrs_tuple PySem.F.slot_tuple_index PySem.F.type_tuple_index mt_indexT (qe_gl h hg hd) ⟨pe⟩ hbase hline (by rw [List.all_cons,hs]; rfl) (by show 1<30; decide)).h,fun {G0 H0 G H τ σ d Q} E hf q=>?_⟩⟩
  obtain ⟨y,hy,hf⟩:=bindE hf
  refine ⟨.inr (.inl ⟨rfl,kt⟩),ke E (ds:=[y]) (by unfold aCons; rw [hy]; rfl) fun ws G2 H2 x2 r2=>?_⟩
  obtain ⟨w,rfl,rw_⟩:=reps_one r2
  obtain ⟨a,us,ea,sq,rs,_⟩:=r G2
  cases ea
  change (match flatD y&&ds.all flatD with | true=>(ixOf y ds 0).bind fun n=>some (D.int n) | false=>none)=some d at hf
  cases c:(flatD y&&ds.all flatD) with
  | false=>rw [c] at hf; cases hf
  | true=>
    rw [c] at hf
    obtain ⟨n,hn,hf⟩:=bindE hf
    cases hf
    rw [Bool.and_eq_true] at c
    obtain ⟨j,z,e1,e2,e3,e4⟩:=ixOf_at hn
    rw [Nat.zero_add] at e1
    subst e1
    obtain ⟨u,eu,ru⟩:=rs.get e2
    have fl:∀ {i:Nat} {z:D},ds[i]?=some z→flatD z=true:=fun {i z} ez=>List.all_eq_true.mp c.2 z (List.mem_of_getElem? ez)
    refine ⟨A,us,w,n,u,rfl,rfl,sqT_mono x2.gh sq,rep_flat c.1 rw_,(reps_any c.1 rw_ rs c.2).1,eu,by rw [rep_eqV (fl e2) c.1 ru rw_]; exact e3,fun i z hi ez=>?_,q _ _ _ x2 rfl⟩
    obtain ⟨dz,ed,rd⟩:=rs.at ez
    rw [rep_eqV (fl ed) c.1 rd rw_]
    exact e4 i dz hi ed
noncomputable def bitsI (i:Int):Nat:=Builtin.Int.intBits i
end
end L3
namespace L3
open PySem PySem.Spec PyProof.Rows L2 PySem.W
theorem weight_bits:∀ {ns:List Int} {m:Int},m∈ns→bitsI m≤WData.weightAll (ns.map WData.int)
  | [],_,h=>by cases h
  | n::ns,m,h=>by
    have e:WData.weightAll ((n::ns).map WData.int)=bitsI n+1+WData.weightAll (ns.map WData.int):=by
      show WData.weightAll (WData.int n::ns.map WData.int)=_
      rw [WData.weightAll]
      rfl
    rw [e]
    rcases List.mem_cons.mp h with rfl | h
    · omega
    · have:=weight_bits h
      omega
theorem lay_bits {ns:List Int} (h:WData.layableAll [.list (ns.map WData.int)]=true):∀ m∈ns,bitsI m≤1048576:=fun m hm=>by
  have h1:WData.layable (.list (ns.map WData.int))=true:=List.all_eq_true.mp h _ (List.mem_singleton.mpr rfl)
  unfold WData.layable at h1
  rw [Bool.and_eq_true] at h1
  have h2:WData.weight (.list (ns.map WData.int))≤2 ^ 20:=of_decide_eq_true h1.2
  have h3:=weight_bits hm
  have h4:WData.weight (.list (ns.map WData.int))=WData.weightAll (ns.map WData.int):=by rw [WData.weight]
  omega
section
variable {P:Program} {w:World} {K:PySem.W.Frag} {mg:Str→Option Value} {base:Heap}
noncomputable def spLawB (K:PySem.W.Frag):Sp:=fun vs H Q _=>∃ (a:Addr) (ns:List Int),vs=[.ref a]∧SqL K H a (ns.map V.int)∧ns.length≤63∧(∀ m∈ns,bitsI m≤1048576)∧∀ H',Q (.bl true) H'
theorem law_okB {x:Str} {st:Stmt} {N:List Str} {k:Nat} {b:FS} {f:Addr} {fd:FuncData} (d:Fun K "law" "law" st f fd) (S:FnScope N [x] (defScope st)) (hN:1≤N.length) (hrun:∀ ns:List Int,ns.length≤63→(∀ m∈ns,bitsI m≤1048576)→∃ o,runF N.length b [.lst (ns.map D.int)]=some (o,.bl true))
    (hb:∀ (cdv:Value) (A:Around) (outer:List Env) (s:Shared) (H:Hp) (E:XK),Room k (A.deeper (envOfC "law" (defScope st) s.heap.objs.size f cdv))→SSs (cxOf CX0 P w K mg base N "law" (defScope st) f cdv A outer s H E).nox (defBody st) b):FnOk P w K mg base CX0 (k+1) f fd [x] (spLawB K):=by
  refine d.ok S (fun vs H Q E h=>?_) fun cdv A outer s H vs Q E hr h=>?_
  · obtain ⟨a,ns,rfl,_⟩:=h
    rfl
  · obtain ⟨a,ns,rfl,sq,l,hbits,q⟩:=h
    obtain ⟨o,hrun⟩:=hrun ns l hbits
    obtain ⟨t,p,kt⟩:=(hb cdv A outer s H E hr).h
    obtain ⟨fl,hfl,hrun⟩:=bindE hrun
    have r:Reps K H [.lst (ns.map D.int)] [.ref a]:=⟨_,_,rfl,⟨a,_,rfl,sq,Reps.ints,by rw [List.length_map]; exact small (by omega)⟩,rfl⟩
    refine ⟨t,p,kt (env_start (N:=N) (Same.refl H) r hN) hfl ?_⟩
    cases fl with
    | nx τ=>cases hrun
    | rt o' d'=>
      cases hrun
      cases o with
      | false=>
        intro v G H' _ r
        cases (show v=.bl true from r)
        exact q H'
      | true=>exact fun p G H' _ _ _ z=>z.elim
    | _=>cases hrun
end
theorem walkB {l:PySem.W.OpenLaw} {n k:Nat} {q:Program} {loose:List Str} {XP:(Str→Option Value)→Heap→Prop} {YP:World→Heap→Prop} {d:DefRec} {K:Params→PySem.W.Frag} {sp:PySem.W.Frag→Sp} {x:Str}
    (hn:l.most=some n) (hn2:n≤sizeLine) (hdf:d.params.defaults=[]) (hr:Room k callerA) (hY:∀ (w:World) (h:Heap),YP w h→(K w.params).In h)
    (F:∀ (w:World) (mg:Str→Option Value) (fa:Addr) (h:Heap),(K w.params).In h→h.Ns mainGlobals mg→mg d.name=some (.ref fa)→
      ∃ fd:FuncData,(∀ (s:Shared) (u:Value),BindsTo s fd ⟨[u],[]⟩ [(x,u)])∧∀ base:Heap,(K w.params).In base→base.Ns mainGlobals mg→FnOk l.prog w (K w.params) mg base CX0 k fa fd [x] (sp (K w.params)))
    (hsp:∀ (K:PySem.W.Frag) (H:Hp) (a:Addr) (ns:List Int),ns.length≤n→(∀ m∈ns,bitsI m≤1048576)→SqL K H a (ns.map V.int)→sp K [.ref a] H (fun v _=>v=.bl true) fun _ _ _=>False) :
    PySem.W.WalkO q loose XP YP l.row.toRowW d [] (fun f vs=>PySem.call f vs):=by
  intro w s0 s1 mg mb Gr Y fa o pm cd doc dV kV ho hd hcd hD hmg hg args vals as hpre hlay hrd hwl hlo
  have e1:dV=.none:=Dflts.none hD hdf
  have e2:kV=.none:=Dflts.noKw hD
  subst e1 e2
  obtain ⟨a,vs,ns,rfl,rfl,hobj,hints,hlen⟩:=Att.script_of hn hpre hwl
  have KX:=hY w _ Y
  obtain ⟨fd,hb,hF⟩:=F w mg fa _ KX Gr.T.g hmg
  have main:=law_call KX Gr.T.g Gr.T.b Gr.T.builtins Gr.T.nolimit hg hobj hints (Nat.le_trans hlen hn2) hr hF hb (fun H _ hS=>hsp _ H a ns hlen (lay_bits hlay) hS) (fun _ _ _ z=>z)
  refine enter_call (codeAny_mono main fun r s' hq=>?_)
  obtain ⟨rfl,h2,h3,h4⟩:=hq
  refine ⟨.inl ⟨.bool true,.bool true,[],rfl,fun _=>rfl,.bool true,Att.post_true l _,fun _=>?_⟩,h2,h3,h4⟩
  exact ⟨List.Pairwise.nil,fun _ hm=>nomatch hm⟩
end L3
namespace L3
open PySem PySem.Spec PyProof.Rows L2
section
variable {X:Cx}
end
end L3
namespace L3
open PySem PySem.Spec PyProof PyProof.Rows L2 Builtin Builtin.Str
section
variable {X:Cx} {e o a b c:Expr} {f fo fa fb fc:FE} {x:Str} {xp p pos apos cpos:Pos}
noncomputable def strsOf:List D→Option (List Str)
  | []=>some []
  | .str z::r=>(strsOf r).bind fun ts=>some (z::ts)
  | _=>none
noncomputable def fJoin:D→D→Option D
  | .str sep,.lst xs=>(strsOf xs).bind fun ts=>if (ts.map (·.length)).sum+ts.length*sep.length≤LIM then some (.str (glued sep ts)) else none
  | _,_=>none
theorem strs_vals {K:PySem.W.Frag} {G:Hp}:∀ {xs:List D} {vs:List V} {ts:List Str},strsOf xs=some ts→Reps K G xs vs→vs=ts.map V.str
  | [],_,_,h,r=>by
    cases h
    exact r
  | x::xs,_,ts,h,r=>by
    obtain ⟨v,r',rfl,hv,hr⟩:=r
    unfold strsOf at h
    split at h
    · rename_i e; cases e
    · rename_i z r2 e
      cases e
      obtain ⟨ts2,h2,h⟩:=bindE h
      cases h
      rw [List.map_cons,(show v=_∧_ from hv).1,strs_vals h2 hr]
    · cases h
theorem se_m_join (ho:SE X o fo) (he:SB X e f) (hbase:attributeBase o "join" X.env (eval o X.env)=eval o X.env:=by rfl) (hline:(apos.endLine == cpos.line)=true:=by rfl) (hs:noStar e=true:=by rfl) :
    SE X (.Call (.Attribute o "join" apos) [e] [] cpos) (e2 fJoin fo f):=by
  obtain ⟨to,po,ko⟩:=ho.h
  obtain ⟨te,pe,ke⟩:=(sab_cons he sab_nil hs).h
  refine ⟨⟨_,(qe_bm PySem.F.plainAttrs_str PySem.F.slot_str_join PySem.F.type_str_join mt_join ⟨po⟩ ⟨pe⟩ hbase hline (by rw [List.all_cons,hs]; rfl) (by show 1<30; decide)).h,fun {G0 H0 G H τ σ d Q} E hf q=>?_⟩⟩
  obtain ⟨x,hx,hf⟩:=bindE hf
  obtain ⟨y,hy,hf⟩:=bindE hf
  refine ko E hx fun v G1 H1 x1 r1=>?_
  cases x with
  | str sep=>
    obtain ⟨rfl,l1⟩:=r1
    refine ⟨rfl,ke (E.go x1) (ds:=[y]) (by unfold aCons; rw [hy]; rfl) fun ws G2 H2 x2 r2=>?_⟩
    obtain ⟨w,rfl,rw_⟩:=reps_one r2
    cases y with
    | lst xs=>
      obtain ⟨ts,hts,hf⟩:=bindE hf
      obtain ⟨aa,vs,rfl,sq,rs,_⟩:=rw_
      have ev:=strs_vals hts rs
      subst ev
      by_cases cc:(ts.map (·.length)).sum+ts.length*sep.length≤LIM
      · rw [if_pos cc] at hf
        cases hf
        have c':(ts.map (·.length)).sum+ts.length*sep.length≤sizeLine:=by rw [sizeLine_eq]; exact cc
        exact ⟨sep,aa,ts,rfl,rfl,sq,c',q _ _ _ (x1.trans x2) ⟨rfl,Nat.le_trans (glued_len sep ts) c'⟩⟩
      · rw [if_neg cc] at hf
        cases hf
    | _=>cases hf
  | _=>cases hf
noncomputable def sSetAt (i:Nat) (k v:FE):FS:=fun σ=>(v σ).bind fun y=>match σ[i]? with
  | some (some (true,.lst ds))=>(k σ).bind fun x=>match x with
    | .int j=>(ixN ds.length j).bind fun n=>some (.nx (σ.set i (some (true,.lst (ds.set n y)))))
    | _=>none
  | _=>none
theorem Reps.set {K:PySem.W.Frag} {G:Hp} {d:D} {v:V} (hv:Rep K G d v):∀ {ds:List D} {vs:List V} (n:Nat),Reps K G ds vs→Reps K G (ds.set n d) (vs.set n v)
  | [],_,_,r=>by cases (show _=[] from r); rfl
  | d'::ds,_,0,r=>by
    obtain ⟨u,r',rfl,hu,hr⟩:=r
    exact ⟨v,r',rfl,hv,hr⟩
  | d'::ds,_,n+1,r=>by
    obtain ⟨u,r',rfl,hu,hr⟩:=r
    exact ⟨u,_,rfl,hu,Reps.set hv n hr⟩
theorem ss_setAt {i:Nat} {k v:Expr} {fk fv:FE} {pos':Pos} (ho:QE X (.Name x xp) (tVar i)) (hk:SE X k fk) (hv:SE X v fv) (hp:plainIx k=true:=by rfl) (hs:swapsWithSole [.Subscript (.Name x xp) k pos'] v pos.line X.env=pure false:=by rfl)
    (hw:swappedStores [.Subscript (.Name x xp) k pos'] v X.env=pure none:=by rfl) (h1:(assignEach [.Subscript (.Name x xp) k pos'] X.env).map (·.2)=[assign (.Subscript (.Name x xp) k pos') X.env]:=by rfl):SS X (.Assign [.Subscript (.Name x xp) k pos'] v pos) (sSetAt i fk fv):=by
  obtain ⟨tk,pk,kk⟩:=hk.h
  obtain ⟨tv,pv,kv⟩:=hv.h
  refine ⟨⟨_,ps_asg pv (qg_sub ho ⟨pk⟩ set_list hp).h hs hw h1,fun {G0 H0 G H τ σ fl E} K hf q=>?_⟩⟩
  obtain ⟨y,hy,hf⟩:=bindE hf
  refine kv K hy fun w G1 H1 x1 r1=>?_
  split at hf
  · rename_i ds hd
    obtain ⟨xk,hx,hf⟩:=bindE hf
    cases xk with
    | int j=>
      obtain ⟨n,hn,hf⟩:=bindE hf
      cases hf
      have K1:=K.go x1
      obtain ⟨aa,ea,g,z,vs,ev,rs,l⟩:=K1.ow _ _ hd
      refine ⟨_,ea,kk K1 hx fun u G2 H2 x2 r2=>?_⟩
      cases (show u=_ from r2)
      refine ⟨aa,vs,j,n,rfl,rfl,x2.h _ _ ev,by rw [rs.length]; exact hn,?_⟩
      exact q _ _ _ ((K1.go x2).mut hd ea ⟨_,upd_same,Reps.set (r1.mono x2.g) n (rs.mono x2.g),by rw [List.length_set]; exact l⟩)
    | _=>cases hf
  · cases hf
theorem st_chain {op op':CmpOp} {r r':R2} {F F':D→D→Option D} (ho:OpR X (compareOp op) r) (hF:Ok2B X.K r F) (ho':OpR X (compareOp op') r') (hF':Ok2B X.K r' F') (ha:SB X a fa) (hb:SB X b fb) (hc:SB X c fc) (hm:lastMarks [op,op'] [b,c]=false:=by with_unfolding_all rfl) :
    ST X (.Compare a [op,op'] [b,c] pos) (tE (eChain F F' fa fb fc)):=by
  obtain ⟨ta,pa,ka⟩:=ha.h
  obtain ⟨tb,pb,kb⟩:=hb.h
  obtain ⟨tc,pc,kc⟩:=hc.h
  refine ⟨⟨_,pt_chain ho ho' pa pb pc hm,fun {G0 H0 G H τ σ d Q} E hf q=>?_⟩⟩
  obtain ⟨w0,hw0,hf0⟩:=bindE hf
  obtain ⟨x,hx,hw0⟩:=bindE hw0
  obtain ⟨y,hy,hw0⟩:=bindE hw0
  obtain ⟨k,hk,hw0⟩:=bindE hw0
  refine ka E hx fun v G1 H1 x1 r1=>?_
  refine kb (E.go x1) hy fun u G2 H2 x2 r2=>?_
  obtain ⟨k,rfl,z⟩:=hF H2 x y v u _ _ (r1.mono x2.h) r2 hk
  refine z ⟨k,rfl,?_⟩
  cases k with
  | false=>
    cases hw0
    cases hf0
    exact iteF ⟨_,rfl,q _ _ (x1.trans x2)⟩
  | true=>
    obtain ⟨w,hw,hw0⟩:=bindE (show (fc _).bind _=_ from hw0)
    refine iteT (kc ((E.go x1).go x2) hw fun u3 G3 H3 x3 r3=>?_)
    obtain ⟨k,rfl,z⟩:=hF' H3 y w u u3 _ _ (r2.mono x3.h) r3 hw0
    cases hf0
    exact z ⟨_,rfl,q _ _ (x1.trans (x2.trans x3))⟩
end
end L3
namespace L2
open PySem PySem.Spec PyProof.Rows
section
variable {X:Cx}
end
end L2
namespace L3
open PySem PySem.Spec PyProof.Rows L2
section
variable {K:PySem.W.Frag} {G H:Hp}
end
end L3
namespace L2
open PySem PySem.Spec PyProof PyProof.Rows
noncomputable def insI (a:Int):List Int→List Int
  | []=>[a]
  | b::r=>if a≤b then a::b::r else b::insI a r
noncomputable def isort:List Int→List Int
  | []=>[]
  | a::r=>insI a (isort r)
theorem insI_perm (a:Int):∀ l:List Int,(insI a l).Perm (a::l)
  | []=>List.Perm.refl _
  | b::r=>by
    unfold insI
    split
    · exact List.Perm.refl _
    · exact ((insI_perm a r).cons b).trans (List.Perm.swap a b r)
theorem isort_perm:∀ l:List Int,(isort l).Perm l
  | []=>List.Perm.refl _
  | a::r=>(insI_perm a _).trans ((isort_perm r).cons a)
theorem insI_sorted (a:Int):∀ {l:List Int},l.Pairwise (·≤·)→(insI a l).Pairwise (·≤·)
  | [],_=>by simp [insI]
  | b::r,h=>by
    obtain ⟨h1,h2⟩:=List.pairwise_cons.mp h
    unfold insI
    split
    · rename_i hab
      exact List.pairwise_cons.mpr ⟨fun x hx=>by
        rcases List.mem_cons.mp hx with rfl | hx
        · exact hab
        · exact Int.le_trans hab (h1 x hx),h⟩
    · rename_i hab
      refine List.pairwise_cons.mpr ⟨fun x hx=>?_,insI_sorted a h2⟩
      rcases List.mem_cons.mp ((insI_perm a r).mem_iff.mp hx) with rfl | hx
      · omega
      · exact h1 x hx
theorem isort_sorted:∀ l:List Int,(isort l).Pairwise (·≤·)
  | []=>List.Pairwise.nil
  | a::r=>insI_sorted a (isort_sorted r)
theorem sorted_one:∀ {a b:List Int},a.Perm b→a.Pairwise (·≤·)→b.Pairwise (·≤·)→a=b
  | [],b,p,_,_=>(List.nil_perm.mp p).symm
  | x::a,[],p,_,_=>by cases p.length_eq
  | x::a,y::b,p,ha,hb=>by
    obtain ⟨h1,h2⟩:=List.pairwise_cons.mp ha
    obtain ⟨g1,g2⟩:=List.pairwise_cons.mp hb
    have e:x=y:=by
      have hx:x∈y::b:=p.mem_iff.mp (List.mem_cons_self ..)
      have hy:y∈x::a:=p.mem_iff.mpr (List.mem_cons_self ..)
      rcases List.mem_cons.mp hx with rfl | hx
      · rfl
      · rcases List.mem_cons.mp hy with e | hy
        · exact e.symm
        · exact Int.le_antisymm (h1 y hy) (g1 x hx)
    subst e
    rw [sorted_one (List.perm_cons x |>.mp p) h2 g2]
theorem vals_intsA:∀ {ns:List Int} {its:List Value},Vals (ns.map V.int) its→IntsAre its ns
  | [],_,.nil=>.nil
  | n::ns,_,.cons r rr=>by
    obtain ⟨t,rfl⟩:=r
    exact .cons _ _ (vals_intsA rr)
theorem intsA_vals:∀ {ns:List Int} {its:List Value},IntsAre its ns→Vals (ns.map V.int) its
  | [],_,.nil=>.nil
  | _::_,_,.cons _ _ r=>.cons ⟨_,rfl⟩ (intsA_vals r)
section
variable {X:Cx}
theorem call_sorted:CallR X (.builtin "sorted") (fun xs H Q=>∃ p ns,xs=[.ref p]∧SqL X.K H p (ns.map V.int)∧ns.length<64∧∀ l,H l=none→Q (.ref l) (upd H l (.lst ((isort ns).map V.int)))):=by
  intro pins s σ H xs us Q I r h
  obtain ⟨p,ns,rfl,hq,h64,q⟩:=h
  obtain ⟨u,rfl,rx⟩:=vals1 r
  cases rx
  obtain ⟨its,r',pl,hz⟩:=I.list hq
  have hlen:=r'.length
  rw [List.length_map] at hlen
  refine sorted_ints pl.isList (vals_intsA r') (by omega) fun out ns' a1 a2 a3=>?_
  have e:ns'=isort ns:=sorted_one (a2.trans (isort_perm ns).symm) a3 (isort_sorted ns)
  subst e
  obtain ⟨c,hc⟩:=sortedAll_at s.heap its out
  have hl2:(isort ns).length=ns.length:=(isort_perm ns).length_eq
  refine ⟨.ref (s.heap.objs.size+1),_,I.laid (t':=s.toks) (h':=sortedAll s.heap its out) (fun _ _=>sortedAll_old) (Nat.le_succ _) (show ObjOk X.prog X.w _ _ _ (.lst ((isort ns).map V.int)) from ⟨?_,out.toList,c,intsA_vals a1,?_⟩),rfl,q _ (I.hok.fresh (Nat.le_succ _))⟩
  · rw [List.length_map,hl2]
    show _≤sizeLine
    rw [List.length_map] at hz
    exact hz
  · rw [Array.toArray_toList]
    exact hc
end
end L2
namespace L3
open PySem PySem.Spec PyProof.Rows L2
theorem bt_sorted:bootBuiltins "sorted" = some (.builtin "sorted"):=by decide +kernel
noncomputable def intsOf:List D→Option (List Int)
  | []=>some []
  | .int i::r=>(intsOf r).bind fun ns=>some (i::ns)
  | _=>none
theorem ints_of:∀ ns:List Int,intsOf (ns.map D.int)=some ns
  | []=>rfl
  | n::ns=>by
    show (intsOf (ns.map D.int)).bind _=_
    rw [ints_of ns]
    rfl
theorem intsOf_ok:∀ {ds:List D} {ns:List Int},intsOf ds=some ns→ds=ns.map D.int
  | [],_,h=>by cases h; rfl
  | d::ds,ns,h=>by
    unfold intsOf at h
    split at h
    · rename_i e; cases e
    · rename_i i r e
      cases e
      obtain ⟨ns',h1,h⟩:=bindE h
      cases h
      rw [intsOf_ok h1]
      rfl
    · cases h
theorem repsA_ints {K:PySem.W.Frag} {G:Hp}:∀ {ns:List Int} {vs:List V},Reps K G (ns.map D.int) vs→vs=ns.map V.int
  | [],_,r=>r
  | n::ns,_,r=>by
    obtain ⟨v,r',rfl,hv,hr⟩:=r
    rw [repsA_ints hr,show v=V.int n from hv]
    rfl
theorem intsA_reps {K:PySem.W.Frag} {G:Hp}:∀ ns:List Int,Reps K G (ns.map D.int) (ns.map V.int)
  | []=>rfl
  | n::ns=>⟨.int n,_,rfl,rfl,intsA_reps ns⟩
noncomputable def fSorted:List D→Option D
  | [.lst xs]=>(intsOf xs).bind fun ns=>if ns.length<64 then some (.lst ((isort ns).map D.int)) else none
  | _=>none
theorem sf_sorted {X:Cx} {e:Expr} {fs:FA} {p pos:Pos} (hg:Gl X "sorted") (hm:X.mg "sorted" = none) (ha:SA X [e] fs) (hs:noStar e=true:=by rfl):SF X (.Call (.Name "sorted" p) [e] [] pos) (eL fSorted fs):=by
  obtain ⟨t,pt,k⟩:=ha.h
  refine ⟨⟨_,(qe_callB call_sorted hg hm bt_sorted ⟨pt⟩ (by decide) (by decide) (by rw [List.all_cons,hs]; rfl)).h,fun {G0 H0 G H τ σ d Q} E hf q=>?_⟩⟩
  obtain ⟨ds,hd,hf⟩:=bindE hf
  refine k E hd fun vs G1 H1 x1 r1=>?_
  match ds,hf with
  | [.lst xs],hf=>
    obtain ⟨ns,hn,hf⟩:=bindE (show (intsOf xs).bind _=some d from hf)
    split at hf
    · rename_i h64
      cases hf
      obtain ⟨v,rfl,a,us,rfl,sq,rs,l⟩:=reps_one r1
      rw [intsOf_ok hn] at rs l
      rw [repsA_ints rs] at sq
      refine ⟨a,ns,rfl,sqL_mono x1.gh sq,h64,fun p hp=>q p _ _ (x1.trans (Ext.layO x1.gh hp)) (x1.h.free hp) (x1.gh.free hp) ⟨_,upd_same,intsA_reps _,?_⟩⟩
      rw [List.length_map,(isort_perm ns).length_eq]
      rw [List.length_map] at l
      exact l
    · cases hf
end L3
namespace L2
open PySem PySem.Spec PyProof.Rows
section
variable {X:Cx}
end
end L2
namespace L3
open PySem PySem.Spec PyProof.Rows L2
section
variable {X:Cx} {e o a b c:Expr} {f fo fa fb fc:FE} {x:Str} {xp p pos apos cpos:Pos}
end
end L3
namespace L3
open PySem PySem.Spec PyProof.Rows L2
noncomputable def fCat:D→D→Option D
  | .lst x,.lst y=>if x.length+y.length≤LIM then some (.lst (x++y)) else none
  | _,_=>none
theorem fCat_ok {x y d:D} (h:fCat x y=some d):∃ xs ys,x=.lst xs∧y=.lst ys∧xs.length+ys.length≤LIM∧d=.lst (xs++ys):=by
  unfold fCat at h
  split at h
  · rename_i xs ys
    by_cases c:xs.length+ys.length≤LIM
    · rw [if_pos c] at h
      cases h
      exact ⟨_,_,rfl,rfl,c,rfl⟩
    · rw [if_neg c] at h
      cases h
  · cases h
section
variable {X:Cx} {a b:Expr} {fa fb:FE} {x:Str} {xp pos:Pos}
theorem sf_catO {i:Nat} (ho:QE X (.Name x xp) (tVar i)) (hb:SE X b fb):SF X (.BinOp (.Name x xp) .Add b pos) (e2 fCat (eAny i) fb):=by
  obtain ⟨tb,pb,kb⟩:=hb.h
  refine ⟨⟨_,pe_op op_catS ho.h pb,fun {G0 H0 G H τ σ d Q} E hf q=>?_⟩⟩
  obtain ⟨x,hx,hf⟩:=bindE hf
  obtain ⟨y,hy,hf⟩:=bindE hf
  obtain ⟨xs,ys,rfl,rfl,c,rfl⟩:=fCat_ok hf
  · have c':(xs++ys).length≤sizeLine:=by rw [sizeLine_eq,List.length_append]; exact c
    obtain ⟨o,ho⟩:=eAny_at hx
    cases o with
    | false=>
      obtain ⟨v,ev,rv⟩:=E.fr _ _ ho
      refine ⟨v,ev,kb E hy fun u G2 H2 x2 r2=>?_⟩
      obtain ⟨aa,vs,rfl,sa,ra,_⟩:=rv
      obtain ⟨bb,us,rfl,sb,rb,_⟩:=r2
      refine ⟨aa,bb,vs,us,rfl,rfl,sqL_mono (x2.g.trans x2.gh) sa,sqL_mono x2.gh sb,by rw [ra.length,rb.length,sizeLine_eq]; exact c,fun p hp=>?_⟩
      exact q p _ _ (x2.trans (Ext.layO x2.gh hp)) (x2.h.free hp) (x2.gh.free hp) ⟨_,upd_same,(ra.mono x2.g).append rb,c'⟩
    | true=>
      obtain ⟨p,ev,_,_,vs,e1,ra,_⟩:=E.ow _ _ ho
      refine ⟨_,ev,kb E hy fun u G2 H2 x2 r2=>?_⟩
      obtain ⟨bb,us,rfl,sb,rb,_⟩:=r2
      refine ⟨p,bb,vs,us,rfl,rfl,SqL.of (x2.h _ _ e1),sqL_mono x2.gh sb,by rw [ra.length,rb.length,sizeLine_eq]; exact c,fun p hp=>?_⟩
      exact q p _ _ (x2.trans (Ext.layO x2.gh hp)) (x2.h.free hp) (x2.gh.free hp) ⟨_,upd_same,(ra.mono x2.g).append rb,c'⟩
end
end L3
namespace L3
open PySem PySem.Spec PyProof.Rows L2
section
variable {X:Cx} {e:Expr} {es:List Expr} {fs:FA} {x:Str} {ps:List Str} {k j:Nat} {FF:List D→Option (Bool×D)} {p pos:Pos}
end
end L3
namespace L3
open PySem PySem.Spec PyProof.Rows L2
section
variable {X:Cx} {e:Expr} {es:List Expr} {fs:FA} {x y:Str} {ps:List Str} {k j:Nat} {FF:List D→Option (Bool×D)} {p pos pos' cpos:Pos}
end
end L3
namespace L3
open PySem PySem.Spec PyProof.Rows L2
section
variable {X:Cx} {x:Str} {xp pos apos cpos:Pos}
end
end L3
namespace L3
open PySem PySem.Spec PyProof.Rows L2
section
variable {K:PySem.W.Frag} {n:Nat} {G0 H0 G H G' H':Hp} {τ:SEnv} {σ:St}
end
section
variable {X:Cx} {e:Expr} {f:FE} {ft:FT}
end
noncomputable def sExt (i:Nat) (e:FE):FS:=fun σ=>match σ[i]? with
  | some (some (true,.lst xs))=>(e σ).bind fun y=>match y with
    | .lst ys=>if xs.length+ys.length≤LIM then some (.nx (σ.set i (some (true,.lst (xs++ys))))) else none
    | _=>none
  | _=>none
section
variable {X:Cx} {a b:Expr} {f fa fb:FE} {x:Str} {xp pos apos cpos:Pos} {e:Expr}
theorem sa_fresh (he:SF X e f) (hs:noStar e=true:=by rfl):∃ t,PA X [e] t∧∀ {G0 H0 G H:Hp} {τ:SEnv} {σ:St} {d:D} {Q:List V→Hp→Prop},EnvOk X.K X.N.length G0 H0 G H τ σ→f τ=some d→(∀ p G' H',Ext G H G' H'→H p=none→G' p=none→OwnAt X.K G' H' d p→Q [.ref p] H')→t σ H Q:=by
  obtain ⟨t,p,k⟩:=he.h
  refine ⟨_,pac p pa_nil hs,fun E hf q=>k E hf fun p G1 H1 x1 hp gp o=>?_⟩
  exact q p G1 H1 x1 hp gp o
theorem ss_extend {i:Nat} (ho:QE X (.Name x xp) (tVar i)) (he:SF X e f) (hbase:attributeBase (.Name x xp) "extend" X.env (eval (.Name x xp) X.env)=eval (.Name x xp) X.env:=by rfl) (hline:(apos.endLine == cpos.line)=true:=by rfl) (hs:noStar e=true:=by rfl) :
    SS X (.Expr (.Call (.Attribute (.Name x xp) "extend" apos) [e] [] cpos) pos) (sExt i f):=by
  obtain ⟨t,p,k⟩:=sa_fresh he hs
  refine ⟨⟨_,(qs_expr (qe_bm PySem.F.plainAttrs_list PySem.F.slot_list_extend PySem.F.type_list_extend mt_extend ho ⟨p⟩ hbase hline (by rw [List.all_cons,hs]; rfl) (by show 1<30; decide)) rfl).h,fun {G0 H0 G H τ σ fl E} K hf q=>?_⟩⟩
  unfold sExt at hf
  split at hf
  · rename_i xs hd
    obtain ⟨y,hy,hf⟩:=bindE hf
    cases y with
    | lst ys=>
      change (if xs.length+ys.length≤LIM then some (Fl.nx (τ.set i (some (true,.lst (xs++ys))))) else none)=some fl at hf
      by_cases c:xs.length+ys.length≤LIM
      · rw [if_pos c] at hf
        cases hf
        obtain ⟨aa,ea,g,z,vs,ev,rs,l⟩:=K.ow _ _ hd
        refine ⟨_,ea,.inl ⟨rfl,vs,SqL.of ev⟩,k K hy fun p G1 H1 x1 hp gp o=>?_⟩
        obtain ⟨us,eu,ru,_⟩:=o
        refine ⟨aa,p,vs,us,rfl,rfl,x1.h _ _ ev,eu,by rw [rs.length,ru.length,sizeLine_eq]; exact c,?_⟩
        refine q _ _ _ ((K.go x1).mut hd ea ⟨_,upd_same,(rs.mono x1.g).append ru,?_⟩)
        rw [sizeLine_eq,List.length_append]; exact c
      · rw [if_neg c] at hf
        cases hf
    | _=>cases hf
  · cases hf
end
end L3
namespace L3
open PySem PySem.Spec PyProof.Rows L2
section
variable {X:Cx} {js:List Nat} {e c:Expr} {f:FE} {ft:FT} {g g':FS} {sts sa:List Stmt} {pos xp apos cpos:Pos} {x:Str}
end
section
variable {X:Cx} {js:List Nat} {e0 e1:Expr} {f0 f1:FE} {fm fr:FS} {mid rest:List Stmt} {p1 p2 p3 xp cp sp apos cpos pos:Pos} {x:Str} {kd:Nat}
end
end L3
namespace L2
open PySem PySem.Spec PyProof PyProof.Rows
section
variable {X:Cx}
end
end L2
namespace L3
open PySem PySem.Spec PyProof.Rows L2
section
variable {X:Cx} {K:PySem.W.Frag}
end
end L3
namespace L2
open PySem PySem.Spec PyProof PyProof.Rows
section
variable {prog:Program} {w:World}
end
end L2
namespace L2
open PySem PySem.Spec PyProof PyProof.Rows
section
variable {X:Cx}
end
end L2
namespace L2
open PySem PySem.Spec PyProof PyProof.Rows
end L2
namespace L3
open PySem PySem.Spec PyProof.Rows L2
section
variable {X:Cx} {K:PySem.W.Frag}
end
end L3
namespace L2
open PySem PySem.Spec PyProof PyProof.Rows
end L2
namespace L2
open PySem PySem.Spec PyProof PyProof.Rows
section
variable {prog:Program} {w:World} {K:Type} [DecidableEq K] {knd:KeyKind prog w K} {A:Around} {E:Value→Shared→Prop}
theorem put_at {h:Heap} {a:Addr} {o:Obj} {es es2:Array (Int×Value)} {ep:Nat} {t t2:SetTable} (ho:h.get? a=some o) (hd:o.data=.set es ep t) :
    (h.update a (Obj.putSet es2 t2)).get? a=some { o with data:=.set es2 (ep+1) t2 }:=by
  have e:=Heap.get?_update_self (Obj.putSet es2 t2) ho (by rw [putSet_of es2 t2 hd]; rfl)
  rw [putSet_of es2 t2 hd] at e
  exact e
end
end L2
namespace L2
open PySem PySem.Spec PyProof PyProof.Rows
section
variable {prog:Program} {w:World}
end
end L2
namespace L2
open PySem PySem.Spec PyProof PyProof.Rows
section
variable {M:Model} {A:Around} {E:Value→Shared→Prop}
end
end L2
namespace L2
open PySem PySem.Spec PyProof PyProof.Rows
section
variable {prog:Program} {w:World} {A:Around} {E:Value→Shared→Prop}
end
end L2
namespace L2
open PySem PySem.Spec PyProof PyProof.Rows
section
variable {prog:Program} {w:World} {A:Around} {E:Value→Shared→Prop}
end
end L2
namespace L2
open PySem PySem.Spec PyProof PyProof.Rows
section
variable {prog:Program} {w:World} {A:Around} {E:Value→Shared→Prop}
end
section
variable {X:Cx}
end
end L2
namespace L3
open PySem PySem.Spec PyProof.Rows L2
end L3
namespace L2
open PySem PySem.Spec PyProof PyProof.Rows
section
variable {X:Cx} {tg:Expr}
end
end L2
namespace L3
open PySem PySem.Spec PyProof.Rows L2
end L3
namespace L2
open PySem PySem.Spec PyProof PyProof.Rows
section
variable {X:Cx}
end
end L2
namespace L3
open PySem PySem.Spec PyProof.Rows L2
section
variable {X:Cx} {x y:Str} {xp yp pos apos cpos:Pos} {e:Expr} {f:FE}
end
end L3
namespace L3
open PySem PySem.Spec PyProof.Rows L2
section
variable {K:PySem.W.Frag} {n:Nat} {G0 H0 G H G' H':Hp} {τ:SEnv} {σ:St} {i:Nat} {nds:List (List D)} {p:Addr} {qs:List Addr}
end
section
variable {X:Cx} {i:Nat} {x:Str} {p pos pos' apos cpos xp sp:Pos} {e k v c tg iter:Expr} {f fk fv:FE} {ft:FT} {fs:FA} {st:Stmt} {sts body sa sb:List Stmt} {g g':NFS} {fg:FG}
end
section
variable {X:Cx} {i:Nat} {x:Str} {pos pos' p spos:Pos} {e tg iter:Expr} {st:Stmt} {fi:SEnv→Option Nat} {fs:FA} {rest:List Stmt} {g:NFS} {scope:Scope} {cl:List (Str×Addr)} {own:List Str} {tG:TG} {fg:FG}
end
end L3
namespace L3
open PySem PySem.Spec PyProof.Rows L2
section
variable {P:Program} {w:World} {K:PySem.W.Frag} {mg:Str→Option Value} {base:Heap}
end
section
variable {X:Cx} {e:Expr} {es:List Expr} {f:FE} {fs:FA} {x:Str} {p pos:Pos} {ps:List Str} {j k:Nat} {FF:List D→Option (Bool×D)}
end
end L3
namespace L2
open PySem PySem.Spec PyProof PyProof.Rows
section
variable {prog:Program} {w:World} {A:Around} {E:Value→Shared→Prop}
end
section
variable {X:Cx}
theorem kv_fst:∀ {kvs:List (Key×V)} {vs:List (Key×Value)},KV kvs vs→vs.map (·.1)=kvs.map (·.1)
  | _,_,.nil=>rfl
  | _,_,.cons r t=>by rw [List.map_cons,List.map_cons,kv_fst t,r.1]
end
end L2
namespace L3
open PySem PySem.Spec PyProof.Rows L2
end L3
namespace L2
open PySem PySem.Spec PyProof PyProof.Rows
section
variable {X:Cx} {x:Str} {e:Expr} {es:List Expr} {t:TA} {p pos:Pos} {i j:Nat}
end
end L2
namespace L3
open PySem PySem.Spec PyProof.Rows L2
theorem EnvOk.lose {K:PySem.W.Frag} {n:Nat} {G0 H0 G H:Hp} {τ:SEnv} {σ:St} {i:Nat} (E:EnvOk K n G0 H0 G H τ σ) (v:V):EnvOk K n G0 H0 G H (τ.set i none) (σ.set i (some v)):=by
  refine ⟨E.ext,by rw [List.length_set]; exact E.l1,by rw [List.length_set]; exact E.l2,fun j d h=>?_,fun j d h=>?_,fun j k d e p hne h1 h2 h3 h4=>?_⟩
  · rcases set_get h with ⟨_,z⟩ | ⟨ne,z⟩
    · cases z
    · rw [get_set_ne ne]
      exact E.fr j d z
  · rcases set_get h with ⟨_,z⟩ | ⟨ne,z⟩
    · cases z
    · rw [get_set_ne ne]
      exact E.ow j d z
  · rcases set_get h1 with ⟨_,z1⟩ | ⟨n1,z1⟩
    · cases z1
    · rcases set_get h2 with ⟨_,z2⟩ | ⟨n2,z2⟩
      · cases z2
      · rw [get_set_ne n1] at h3
        rw [get_set_ne n2] at h4
        exact E.ap j k d e p hne z1 z2 h3 h4
section
variable {X:Cx} {x y o gn:Str} {e:Expr} {es:List Expr} {fs:FA} {p p2 pos pos' xp gp op apos cpos:Pos} {i io iy j:Nat} {body rest:List Stmt} {t:TS} {g:FS}
end
section
variable {X:Cx} {x y o gn:Str} {e:Expr} {es:List Expr} {fs:FA} {p p2 pos pos' xp xp2 gp op apos cpos:Pos} {i io iy j:Nat} {rest:List Stmt} {g:FS} {a:Addr} {names:List Str} {Fs:List (List D→Option (Bool×D))} {gs:List FS}
end
end L3
namespace L3
open PySem PySem.Spec PyProof.Rows L2
section
variable {α:Type} {P:List α→Prop}
theorem us0 (h:P []):∀ us:List α,us.length=0→P us
  | [],_=>h
theorem usS {n:Nat} (h:∀ a (r:List α),r.length=n→P (a::r)):∀ us:List α,us.length=n+1→P us
  | a::r,e=>h a r (Nat.succ.inj e)
theorem us1 (h:∀ a,P [a]):∀ us:List α,us.length=1→P us:=usS fun a=>us0 (P:=fun r=>P (a::r)) (h a)
theorem us2 (h:∀ a b,P [a,b]):∀ us:List α,us.length=2→P us:=usS fun a=>us1 (P:=fun r=>P (a::r)) (h a)
theorem us3 (h:∀ a b c,P [a,b,c]):∀ us:List α,us.length=3→P us:=usS fun a=>us2 (P:=fun r=>P (a::r)) (h a)
theorem us4 (h:∀ a b c d,P [a,b,c,d]):∀ us:List α,us.length=4→P us:=usS fun a=>us3 (P:=fun r=>P (a::r)) (h a)
end
noncomputable abbrev fnO (x:Str) (st:Stmt) (oc:Value) (od:Option Addr) (sl:Array (Option Value)) (kV dc pm:Value) (an:Option Addr) (cd ct:Value):Option Obj:=some ⟨oc,od,.func (PySem.W.fnOf x x (defArgs st) (defBody st) (defScope st) .none kV dc pm an cd ct),sl⟩
end L3
namespace L3
open PySem PySem.Spec PyProof.Rows L2
section
variable {P:Program} {w:World} {K:PySem.W.Frag} {mg:Str→Option Value} {base:Heap}
end
section
variable {X:Cx} {tg iter elt:Expr} {scope:Scope} {cl:List (Str×Addr)} {own:List Str} {pos p1:Pos} {fs:FA} {fg:FG} {f:FE} {tG:TG} {st:Stmt} {sts:List Stmt} {g:FS} {b:FSN}
end
end L3
namespace L3
open PySem PySem.Spec PyProof PyProof.Rows L2
section
variable {X:Cx} {i m:Nat} {x:Str} {es:List Expr} {p pos pos' spos:Pos}
end
section
variable {X:Cx} {K:PySem.W.Frag}
end
end L3
namespace L3
open PySem PySem.Spec PyProof PyProof.Rows L2
end L3
namespace L2
open PySem PySem.Spec PyProof PyProof.Rows
noncomputable def GDictE (K:PySem.W.Frag) (w:World) (a:Addr) (ks:List Key) (us:List V):Prop:=
  (a == sysModules)=false∧ks.length=us.length∧∃ ep,∀ (P:Program) (h:Heap),K.In h→∃ vs,KV (ks.zip us) vs∧h.DictAt (mixKind P w) a vs ep
theorem key_rel {k:Key} {v:Value} (h:keyIs k v=true):RelV (kV k) v:=by
  rcases keyIs_shape h with ⟨i,t,rfl,rfl⟩ | ⟨x,t,rfl,rfl⟩
  · exact ⟨t,rfl⟩
  · exact ⟨t,rfl⟩
noncomputable def Itg (ks:List Key):It:=⟨fun i _=>i<ks.length,fun i H v H'=>H'=H∧∃ k,ks[i]?=some k∧v=kV k,fun i _=>ks.length≤i⟩
theorem kv_len:∀ {kvs:List (Key×V)} {vs:List (Key×Value)},KV kvs vs→vs.length=kvs.length
  | _,_,.nil=>rfl
  | _,_,.cons _ t=>by rw [List.length_cons,List.length_cons,kv_len t]
theorem turn_gkeys {P:Program} {w:World} {K:PySem.W.Frag} {tg:Expr} {ks:List Key} {us:List V} {ep:Nat} (a it:Addr) (hl:ks.length=us.length) (g:∀ (P:Program) (h:Heap),K.In h→∃ vs,KV (ks.zip us) vs∧h.DictAt (mixKind P w) a vs ep) :
    Turn P w K tg (Itg ks) [it] it (fun i h=>h.IsKeyIter it a i ks.length ep) where
  mem:=by simp
  obj:=fun i h st b hb=>by
    have e:b=it:=by simpa using hb
    subst e
    obtain ⟨o,e,c,d⟩:=st
    exact ⟨o,e,fun v z=>by rw [d] at z; cases z⟩
  keep:=fun i h h' st k=>st.at fun o e=>k it (by simp) o e
  item:=by
    intro X hP hw hK hc i pins s σ H E I hf st hg
    subst hP hw hK
    obtain ⟨vs,rel,dd⟩:=g X.prog s.heap I.kIn
    have ln:vs.length=ks.length:=by rw [kv_len rel,List.length_zip,hl,Nat.min_self]
    have hi:i<vs.length:=by rw [ln]; exact hg
    have hx:vs[i]?=some (vs[i].1,vs[i].2):=List.getElem?_eq_getElem hi
    have hk:ks[i]?=some vs[i].1:=by
      have e:=congrArg (fun l:List Key=>l[i]?) (kv_fst rel)
      simp only [List.getElem?_map,hx,Option.map_some,List.map_fst_zip (show ks.length≤us.length by omega)] at e
      exact e.symm
    obtain ⟨f0,f1,f2,f3,f4,f5⟩:=hf it (by simp)
    rw [← ln] at st
    refine wpAny_pyNext_dict_item st dd hx fun key h' hkey st' sb=>?_
    rw [ln] at st'
    have I1:Inv X pins σ H { s with heap:=h' }:=I.turned (t':=s.toks) (fun b o hb e=>(sb.2 b hb).trans e) f0 f1 f3 f4 f5
    obtain ⟨o,e,c,d⟩:=id st'
    exact ⟨key,rfl,go_of (s:={ s with heap:=h' }) e c d (by decide) ⟨kV vs[i].1,H,I1,key_rel hkey,⟨rfl,_,hk,rfl⟩,st',fun b hb=>(hf b hb).1⟩⟩
  done:=by
    intro X hP hw hK hc i pins s σ H E I hf st hg
    subst hP hw hK
    obtain ⟨vs,rel,dd⟩:=g X.prog s.heap I.kIn
    have ln:vs.length=ks.length:=by rw [kv_len rel,List.length_zip,hl,Nat.min_self]
    have hx:vs[i]?=none:=List.getElem?_eq_none (by rw [ln]; exact hg)
    obtain ⟨f0,f1,f2,f3,f4,f5⟩:=hf it (by simp)
    rw [← ln] at st
    exact wpAny_pyNext_dict_end (I.ok.hd hc) st dd hx fun h' eb=>⟨rfl,I.turned (t':=s.toks) (fun b o hb e=>eb b o hb e) f0 f1 f3 f4 f5⟩
  self:=fun _ _ _ _ _ st h=>wpAny_pyIter_keyiter st h
noncomputable def iGk (ks:List Key):TI:=fun _ H R=>R (Itg ks) H
theorem pi_gkeys {X:Cx} {tg:Expr} {x:Str} {p:Pos} {A:Addr} {ks:List Key} {us:List V} (h:Glb X.mg x (.ref A)) (g:GDictE X.K X.w A ks us) (hg:Gl X x) (hd:(x == ("__debug__" : Str))=false:=by decide):PI X tg (.Name x p) (iGk ks):=by
  intro pins s σ H R I hR
  obtain ⟨hsys,hl,ep,mk⟩:=g
  refine thn (pe_gl (pos:=p) h hg hd pins s σ H (fun v H1=>v=.ref A∧H1=H) I ⟨rfl,rfl⟩) fun v s1 ⟨y,H1,I1,r1,e1,e2⟩=>?_
  subst e1 e2
  cases (show v=Value.ref A from r1)
  obtain ⟨vs,rel,dd⟩:=mk X.prog s1.heap I1.kIn
  have ln:vs.length=ks.length:=by rw [kv_len rel,List.length_zip,hl,Nat.min_self]
  refine wpAny_pyIter_dict hsys dd ?_
  rw [ln]
  refine ⟨s1.heap.objs.size,[s1.heap.objs.size],_,_,H1,rfl,I1.kept (t':=s1.toks) fun b o e=>Heap.get?_push_of_some _ e,turn_gkeys A _ hl mk,⟨_,Heap.get?_push_size _ rfl,rfl,rfl⟩,fun b hb=>?_,hR⟩
  have e:b=s1.heap.objs.size:=by simpa using hb
  subst e
  exact I1.fpOk (Nat.le_refl _) (I1.hok.fresh (Nat.le_refl _))
end L2
namespace L3
open PySem PySem.Spec PyProof PyProof.Rows L2
noncomputable def keyOf:Key→D
  | .inl i=>.int i
  | .inr x=>.str x
noncomputable def okKey:Key→Bool
  | .inl _=>true
  | .inr x=>decide (x.length≤LIM)
noncomputable def iG (ks:List Key):FA:=fun _=>some (ks.map keyOf)
theorem key_rep2 {K:PySem.W.Frag} {G:Hp} {k:Key} (h:okKey k=true):Rep K G (keyOf k) (kV k):=by
  cases k with
  | inl i=>rfl
  | inr x=>exact ⟨rfl,by rw [sizeLine_eq]; exact of_decide_eq_true h⟩
theorem gk_walk {K:PySem.W.Frag} {G:Hp} {ks:List Key} (h:ks.all okKey=true):Walk K (Itg ks) G (ks.map keyOf) where
  go:=fun i G2 H _ _ hi=>by rw [List.length_map] at hi; exact hi
  yld:=fun i G2 H x H' g1 g2 hi y=>by
    obtain ⟨rfl,k,hk,rfl⟩:=y
    exact ⟨G2,keyOf k,Ext.refl g2,by rw [List.getElem?_map,hk]; rfl,key_rep2 (List.all_eq_true.mp h k (List.mem_of_getElem? hk))⟩
  stop:=fun i G2 H _ _ hi=>by rw [List.length_map] at hi; exact hi
theorem si_gkeys {X:Cx} {tg:Expr} {x:Str} {p:Pos} {A:Addr} {ks:List Key} {us:List V} (h:Glb X.mg x (.ref A)) (g:GDictE X.K X.w A ks us) (hg:Gl X x) (hk:ks.all okKey=true) (hn:ks.length≤1000) (hd:(x == ("__debug__" : Str))=false:=by decide):SI X tg (.Name x p) (iG ks):=
  ⟨⟨_,pi_gkeys h g hg hd,fun {G0 H0 G H τ σ ds R} K hf q=>by
    cases hf
    exact q _ _ _ (Ext.refl K.ext.gh) (by rw [List.length_map,sizeLine_eq]; exact Nat.le_trans hn (by decide)) (gk_walk hk)⟩⟩
theorem gdictE_mk {K:PySem.W.Frag} {w:World} {a:Addr} {es:List DictEntry} {n:Nat} {xs:List Str} {vs:List Value} {us:List V} (l:K.lookup a=some { cls:=.type "dict",data:=.dict es.toArray n }) (e:Ents w es xs vs) (nd:xs.Nodup) (hs:(a == sysModules)=false) (r:Vals us vs) :
    GDictE K w a (xs.map .inr) us:=by
  have hl:(xs.map Sum.inr:List Key).length=us.length:=by rw [List.length_map,e.len,r.length]
  refine ⟨hs,hl,n,fun P h KI=>⟨_,kv_zip r hl,?_⟩⟩
  obtain ⟨p,q⟩:=e.pairs (P:=P)
  refine ⟨_,_,KI _ _ l,⟨rfl,rfl,rfl⟩,rfl,fun e he=>q e (by simpa using he),p,?_⟩
  rw [zip_fst (by rw [List.length_map]; exact e.len)]
  exact List.Pairwise.map _ (fun a b h z=>h (Sum.inr.inj z)) nd
end L3
namespace L2
open PySem PySem.Spec PyProof PyProof.Rows
noncomputable def VwAt (r d:Addr) (h:Heap):Prop:=h.IsValuesView r d
noncomputable abbrev VwK (r d:Addr):HO:=.ext (VwAt r d)
section
variable {X:Cx} {A:Addr} {ks:List Key} {us:List V} {x:Str} {p apos cpos:Pos}
noncomputable def tVals (A:Addr):TE:=fun _ H Q=>∀ r,H r=none→Q (.ref r) (upd H r (VwK r A))
theorem pe_vals (h:Glb X.mg x (.ref A)) (g:GDictE X.K X.w A ks us) (hg:Gl X x) (hd:(x == ("__debug__" : Str))=false:=by decide)
    (hbase:attributeBase (.Name x p) "values" X.env (eval (.Name x p) X.env)=eval (.Name x p) X.env:=by rfl) (hline:(apos.endLine == cpos.line)=true:=by rfl) :
    PE X (.Call (.Attribute (.Name x p) "values" apos) [] [] cpos) (tVals A):=by
  intro pins s σ H Q I hQ
  obtain ⟨hsys,hl,ep,mk⟩:=g
  refine wpAny_Call_method0_late hbase hline (thn (pe_gl (pos:=p) h hg hd pins s σ H (fun v H1=>v=.ref A∧H1=H) I ⟨rfl,rfl⟩) fun v s1 ⟨y,H1,I1,r1,e1,e2⟩=>?_)
  subst e1 e2
  cases (show v=Value.ref A from r1)
  obtain ⟨vs,rel,dd⟩:=mk X.prog s1.heap I1.kIn
  have dO:s1.heap.DictOf (mixKind X.prog X.w) A vs:=dd.dictOf
  have t2:∀ b,Value.ref A=.ref b→∃ ob,s1.heap.get? b=some ob∧ob.dict=none:=fun b q=>by
    cases q
    obtain ⟨ob,_,_,h1,h2,_⟩:=dO
    exact ⟨ob,h1,h2.2.1⟩
  refine ⟨"dict",_,PySem.F.plainAttrs_dict,PySem.F.slot_dict_values,PySem.F.type_dict_values,dO.typeIs,t2,Calls.callWith_builtin rfl (PySem.evalArgs_none ?_)⟩
  refine call_meetsIn PySem.F.slot_dict_values dO.typeIs PySem.F.entry_dict_values (PySem.F.args_dict_values_1 _) (meets_dict_values (mixKind X.prog X.w) A hsys) ⟨⟨vs,dO⟩,?_⟩
  have hv:VwAt s1.heap.objs.size A (s1.heap.push { cls:=.type "dict_values",data:=.fields #[.ref A] }):=⟨_,Heap.get?_push_size _ rfl,rfl,rfl⟩
  refine ⟨.ref s1.heap.objs.size,_,I1.laid (a:=s1.heap.objs.size) (o:=VwK s1.heap.objs.size A) (t':=s1.toks) (fun _ _ q=>Heap.get?_push_of_some _ q) (Nat.le_refl _) ⟨hv,?_,fun h1 h2 z k=>?_⟩,rfl,hQ _ I1.fresh⟩
  · obtain ⟨o,e,_⟩:=hv
    exact ⟨o,e⟩
  · obtain ⟨o,e,z⟩:=z
    exact ⟨o,k _ e,z⟩
noncomputable def rListV (A:Addr) (us:List V):List V→Hp→VK→Prop:=fun xs H Q=>∃ r,xs=[.ref r]∧H r=some (VwK r A)∧∀ p,H p=none→Q (.ref p) (upd H p (.lst us))
theorem kv_snd:∀ {kvs:List (Key×V)} {vs:List (Key×Value)},KV kvs vs→Vals (kvs.map (·.2)) (vs.map (·.2))
  | _,_,.nil=>.nil
  | _,_,.cons r t=>.cons r.2 (kv_snd t)
theorem call_listV (hcalm:X.calm=true) (g:GDictE X.K X.w A ks us) (hn:us.length≤1000):CallR X (.type "list") (rListV A us):=by
  intro pins s σ H xs ws Q I r h
  obtain ⟨a,rfl,ea,q⟩:=h
  obtain ⟨u,rfl,ru⟩:=vals1 r
  cases (show u=Value.ref a from ru)
  obtain ⟨hsys,hl,ep,mk⟩:=g
  obtain ⟨vs,rel,dd⟩:=mk X.prog s.heap I.kIn
  have ln:vs.length=us.length:=by rw [kv_len rel,List.length_zip,hl,Nat.min_self]
  obtain ⟨hv,_⟩:=(show ObjOk X.prog X.w H s.heap a (VwK a A) from I.hok a _ ea)
  refine PySem.W.kdl_call (PySem.W.kdl_values (knd:=mixKind X.prog X.w) (d:=A) (r:=a) (kvs:=vs) (ep:=ep)) (I.ok.hd hcalm) ⟨hv,dd⟩ (by rw [ln,sizeLine_eq]; exact Nat.le_trans hn (by decide)) fun h' tk acc' c' kp hS hacc=>?_
  obtain ⟨hsz,hat⟩:=hacc
  have e:acc'.toList=vs.map (·.2):=by
    refine List.ext_getElem? fun j=>?_
    cases hj:acc'.toList[j]? with
    | none=>
      have:=List.getElem?_eq_none_iff.mp hj
      rw [Array.length_toList,hsz] at this
      rw [List.getElem?_map,List.getElem?_eq_none this]
      rfl
    | some v=>
      obtain ⟨k,e⟩:=hat j v (by rw [← Array.getElem?_toList]; exact hj)
      rw [List.getElem?_map,e]
      rfl
  have rv:Vals us acc'.toList:=by
    rw [e]
    have:=kv_snd rel
    rw [List.map_snd_zip (show us.length≤ks.length by omega)] at this
    exact this
  refine ⟨.ref s.heap.objs.size,_,I.laid (a:=s.heap.objs.size) (o:=.lst us) (t':=tk) kp (Nat.le_refl _) ⟨?_,acc'.toList,c',rv,?_⟩,rfl,q _ I.fresh⟩
  · rw [sizeLine_eq]
    exact Nat.le_trans hn (by decide)
  · rw [hS]
end
end L2
namespace L3
open PySem PySem.Spec PyProof PyProof.Rows L2
theorem sf_gvals {X:Cx} {A:Addr} {ks:List Key} {us:List V} {ds:List D} {x:Str} {p p2 apos cpos pos:Pos} (hcalm:X.calm=true) (hgl:Gl X "list") (hml:X.mg "list" = none) (h:Glb X.mg x (.ref A)) (g:GDictE X.K X.w A ks us) (hg:Gl X x) (rd:∀ H,Reps X.K H ds us) (hn:ds.length≤1000) (hd:(x == ("__debug__" : Str))=false:=by decide)
    (hbase:attributeBase (.Name x p2) "values" X.env (eval (.Name x p2) X.env)=eval (.Name x p2) X.env:=by rfl) (hline:(apos.endLine == cpos.line)=true:=by rfl) :
    SF X (.Call (.Name "list" p) [.Call (.Attribute (.Name x p2) "values" apos) [] [] cpos] [] pos) (eC (.lst ds)):=by
  have hu:us.length≤1000:=by rw [(rd (fun _=>none)).length]; exact hn
  have q1:QE X (.Call (.Attribute (.Name x p2) "values" apos) [] [] cpos) (tVals A):=⟨pe_vals h g hg hd hbase hline⟩
  refine ⟨⟨_,(qe_callTy (p:=p) (pos:=pos) (call_listV hcalm g hu) hgl hml boot_ty_list (qa_cons q1 qa_nil) (by decide) (by decide)).h,fun {G0 H0 G H τ σ d Q} E hf q=>?_⟩⟩
  cases hf
  intro r hr
  refine ⟨r,rfl,upd_same,fun l hl=>?_⟩
  have x1:=Ext.layO (o:=VwK r A) E.ext.gh hr
  have x2:=x1.trans (Ext.layO (o:=.lst us) x1.gh hl)
  exact q l _ _ x2 (x1.h.free hl) (x1.gh.free hl) ⟨us,upd_same,rd _,by rw [sizeLine_eq]; exact Nat.le_trans hn (by decide)⟩
end L3
namespace L2
open PySem PySem.Spec PyProof PyProof.Rows
section
variable {X:Cx} {x n:Str} {p pos np hpos tpos:Pos} {e e1 e2:Expr} {es:List Expr} {ta:TA} {te:TE} {tx:TX} {ps:List Str} {j k i:Nat} {sp:Sp} {E:XK} {D:Addr} {suite:List Stmt} {ts:TS} {b₀:Stmt}
noncomputable def tTrySet (K:PySem.W.Frag) (iy i m:Nat) (D:Addr) (tx:TX) (ts:TS):TS:=fun F σ H=>tx σ H (fun v H1=>F.nx (σ.set iy (some v)) H1) fun cv _ H1=>∃ C,cv=.ref C∧PySem.W.exmOne K (.ref C) (.ref D)=some true∧
  ∀ a,H1 a=none→ts { nx:=fun _ H2=>F.nx (List.replicate m none) H2,rt:=F.rt,bk:=fun _ H2=>F.bk (List.replicate m none) H2,ct:=fun _ H2=>F.ct (List.replicate m none) H2 } (σ.set i (some (.ref a))) (upd H1 a (.ext (ExcO a C)))
theorem ps_trySet {iy:Nat} {y:Str} {yp:Pos} (hst:X.stack=X.env::X.outer) (hf:X.env.frame=some X.env.locals) (hex:X.ex=[]) (hcalm:X.A.handled=none) (hd:X.mg x=some (.ref D)) (hg:Gl X x) (hN:X.N.Nodup) (hi:X.N[i]?=some n) (hx:X.env.scope.names.lookup n=some .local) (hiy:X.N[iy]?=some y) (hy:Loc X.env.scope y)
    (hb:QX X e tx) (hs:∀ a,QSs (X.marked a) (b₀::suite) ts) (hdb:(x == ("__debug__" : Str))=false:=by decide) (hnc:noComp e=true:=by rfl) (hfy:X.fn y=true∨X.env.scope.names.lookup y=some .local:=by first | exact .inl rfl | exact .inr rfl | assumption) :
    PS X (.Try [.Assign [.Name y yp] e pos] [.ExceptHandler (some (.Name x np)) (some n) (b₀::suite) hpos] [] [] tpos) (tTrySet X.K iy i X.N.length D tx ts):=by
  intro pins s σ H F I h
  have hloc:X.env.kindOf n=some .local:=hx
  have hp:(X.env.scope.kind == .class||(X.env.scope.kind == .module&&X.env.locals != X.env.globals))=false:=by rw [I.ok.kind]; rfl
  refine wpAny_Try_except ?_
  refine wpAny_execs_cons ?_
  refine wpAny_Assign_Name (wpAny_mono (hb.h pins s σ H _ _ I h) (fun u s1 ⟨v,H1,I1,r1,q1⟩=>?_) fun ev s1 z=>?_) (no_swap hnc)
  · exact store_ok I1 hN hiy hy r1 (fun s2 I2=>wpAny_execs_nil (wpAny_execs_nil ⟨_,H1,I2,q1⟩)) hfy
  obtain ⟨H0,s0,I0,a,C,a0,B,H',rfl,ho,hg',fl,xd,C',hC,hm,hq⟩:=z
  cases hC
  have fr:=I0.frData
  have hfr:X.A.frames=some (X.env::X.outer):=by rw [I0.ok.frames,hst]
  have fl':=fl
  rw [hst] at fl'
  refine wpAny_looks_onW hfr hf fl' fun h2 held up2=>?_
  refine wpAny_landsW (s:={ s1 with heap:=h2 }) held fun h3 fl3 up3=>?_
  have fl3':Heap.FlyingW B X.stack a (.ref C) a0 h3:=by rw [hst]; exact fl3
  have x3:ExD X.prog X.w X.stack H0 s0.heap B H' h3:=xd.fly fl.1 fl3.1 (up2.trans up3) fr
  obtain ⟨na,J3,_⟩:=exf_caught (s':={ s1 with heap:=h3 }) I0 hex ho hg' fl3' x3
  refine wpAny_handleBy_cons (codeAny_handlers_test ?_) (by intro q; cases q)
  refine ld_glob (X:=X.marked a) (J3.marked a) hg hd ?_ hdb
  obtain ⟨ob,hob,hobc⟩:=fl3.there
  have LT:PySem.W.Looks (model X.prog X.w) h3 (typeOf (.ref a)) (.ref C):=hobc ▸ (PySem.W.Looks.ld hob).andThen .now
  refine (PySem.W.exm_one (K:=X.K) (show X.K.In h3 from J3.kIn) LT hm).here ?_
  show codeAny _ _ (.handlers (.ref a) [.ExceptHandler none (some n) (b₀::suite) hpos] X.env) _ _
  refine codeAny_handlers_suite_as ?_
  refine lands_againW (s:={ s1 with heap:=h3 }) fl3 fun h4 fl4 up4=>?_
  have fl4':Heap.FlyingW B X.stack a (.ref C) a0 h4:=by rw [hst]; exact fl4
  have x4:ExD X.prog X.w X.stack H0 s0.heap B H' h4:=x3.fly fl3.1 fl4.1 up4 fr
  obtain ⟨_,_,J4⟩:=exf_caught (s':={ s1 with heap:=h4 }) I0 hex ho hg' fl4' x4
  refine store_ok (X:=X.marked a) (J4.marked a) hN hi (.inl hx) (v:=.ref a) rfl (fun s5 I5=>?_) (.inr hx)
  refine wpAny_mono ((hs a).h pins s5 _ _ _ I5 (hq a na)) (fun f s6 z6=>?_) fun _ _ z=>z.elim
  show wpAny _ X.A _ _ _ s6
  have go:∀ {σ6:St} {H6:Hp},Inv (X.marked a) pins σ6 H6 s6→(∀ h7 m7,Inv X pins (List.replicate X.N.length none) H6 { s6 with heap:=h7,toks:=s6.toks+1 }→SP X pins F f { s6 with heap:=h7,toks:=s6.toks+1 })→
      wpAny (model X.prog X.w) X.A (do bindName X.env n .none; unbindBehindTheSuite X.env n hpos) (fun _ s7=>SP X pins F f s7) X.xe s6:=fun {σ6 H6} I6 k=>by
    have I6':Inv X pins σ6 H6 s6:=I6.unmarked fun _=>hcalm
    obtain ⟨m6,ns6,_⟩:=I6'.loc
    refine wpAny_nameGoes hloc ns6 hp fun h7 m7 ns7 hs7=>k h7 m7 (I6'.forget ns7 hs7)
  cases f with
  | next=>obtain ⟨σ6,H6,I6,q6⟩:=z6; exact go I6 fun h7 m7 I7=>⟨_,_,I7,q6⟩
  | brk=>obtain ⟨σ6,H6,I6,q6⟩:=z6; exact go I6 fun h7 m7 I7=>⟨_,_,I7,q6⟩
  | cont=>obtain ⟨σ6,H6,I6,q6⟩:=z6; exact go I6 fun h7 m7 I7=>⟨_,_,I7,q6⟩
  | ret u=>obtain ⟨v6,σ6,H6,I6,r6,q6⟩:=z6; exact go I6 fun h7 m7 I7=>⟨v6,_,_,I7,r6,q6⟩
end
end L2
namespace L3
open PySem PySem.Spec PyProof PyProof.Rows L2
noncomputable abbrev FX:=List D→Option (Sum (Bool×D) Str)
noncomputable abbrev FSX:=SEnv→Option (Sum Fl Str)
noncomputable def XOk (mg:Str→Option Value) (G0 H0:Hp) (E:XK) (x:Str):Prop:=∃ C,mg x=some (.ref C)∧∀ G' H',Ext G0 H0 G' H'→E (.ref C) none H'
noncomputable def RxOk (K:PySem.W.Frag) (n:Nat) (mg:Str→Option Value) (G0 H0:Hp) (En:Ends) (E:XK):Sum Fl Str→Prop
  | .inl fl=>FlOk K n G0 H0 En fl
  | .inr x=>XOk mg G0 H0 E x
structure SXs (X:Cx) (E:XK) (sts:List Stmt) (f:FSX):Prop where
  h:∃ t,PSs X sts t∧∀ {G0 H0 G H:Hp} {τ:SEnv} {σ:St} {r:Sum Fl Str} {En:Ends},EnvOk X.K X.N.length G0 H0 G H τ σ→f τ=some r→RxOk X.K X.N.length X.mg G0 H0 En E r→t En σ H
noncomputable def xOf (g:FS):FSX:=fun τ=>(g τ).bind fun fl=>some (.inl fl)
noncomputable def xSeq (g:FS) (f:FSX):FSX:=fun τ=>(g τ).bind fun fl=>match fl with
  | .nx τ'=>f τ'
  | fl=>some (.inl fl)
noncomputable def xRaise (c:FT) (a:FA) (x:Str) (f:FSX):FSX:=fun τ=>(c τ).bind fun b=>match b with
  | true=>(a τ).bind fun ds=>if ds.length≤1000 then some (.inr x) else none
  | false=>f τ
section
variable {X:Cx} {E:XK} {x:Str} {C:Addr} {st:Stmt} {sts rest:List Stmt} {g:FS} {f:FSX} {ft:FT} {fa:FA} {c e:Expr} {es:List Expr} {np cpos pos ipos:Pos}
theorem sxs_of (h:SSs X sts g):SXs X E sts (xOf g):=by
  obtain ⟨t,p,k⟩:=h.h
  refine ⟨⟨t,p,fun {G0 H0 G H τ σ r En} K hf q=>?_⟩⟩
  obtain ⟨fl,h1,hf⟩:=bindE hf
  cases hf
  exact k K h1 q
theorem sxs_cons (h1:SS X st g) (h2:SXs X E rest f):SXs X E (st::rest) (xSeq g f):=by
  obtain ⟨t,p,k⟩:=h1.h
  obtain ⟨t',p',k'⟩:=h2.h
  refine ⟨⟨_,pss_cons p p',fun {G0 H0 G H τ σ r En} K hf q=>?_⟩⟩
  obtain ⟨fl,h1,hf⟩:=bindE hf
  refine k K h1 ?_
  cases fl with
  | nx τ'=>exact fun σ' G' H' K'=>k' K' hf q
  | rt o d=>cases hf; exact FlOk.with q (fun _ z=>nomatch z) (fun _ z=>nomatch z) (fun _ z=>nomatch z) rfl
  | bk τ'=>cases hf; exact q
  | ct τ'=>cases hf; exact q
theorem sxs_raise (hc:ST X c ft) (cx:ExC X.K X.mg x C) (hr:Raises X E) (hh:X.A.handled=none) (hg:Gl X x) (ha:SA X (e::es) fa) (hrest:SXs X E rest f) (hdb:(x == ("__debug__" : Str))=false:=by decide) (he:(e::es).all noStar=true:=by rfl) :
    SXs X E (.If c [.Raise (some (.Call (.Name x np) (e::es) [] cpos)) none pos] [] ipos::rest) (xRaise ft fa x f):=by
  obtain ⟨tc,pc,kc⟩:=hc.h
  obtain ⟨ta,pa,ka⟩:=ha.h
  obtain ⟨tr,pr,kr⟩:=hrest.h
  refine ⟨⟨_,pss_cons (ps_if pc (pss_one (ps_raise cx hr hh hg pa hdb he)) pss_nil) pr,fun {G0 H0 G H τ σ r En} K hf q=>?_⟩⟩
  obtain ⟨b,hb,hf⟩:=bindE hf
  refine kc K hb fun G1 H1 x1=>?_
  cases b with
  | true=>
    obtain ⟨ds,hd,hf⟩:=bindE hf
    by_cases z:ds.length≤1000
    · rw [if_pos z] at hf
      cases hf
      refine iteT (ka (K.go x1) hd fun vs G2 H2 x2 r2=>⟨?_,?_⟩)
      · rw [r2.length,sizeLine_eq]
        exact Nat.le_trans z (by decide)
      · obtain ⟨C',hm,q⟩:=q
        rw [cx.at_] at hm
        cases hm
        exact q G2 H2 (((K.ext).trans x1).trans x2)
    · rw [if_neg z] at hf
      cases hf
  | false=>exact iteF (kr (K.go x1) hf q)
end
noncomputable def spX (K:PySem.W.Frag) (mg:Str→Option Value) (F:FX):Sp:=fun vs H Q E=>∃ G ds r,Same G H∧Reps K G ds vs∧F ds=some r∧
  match r with
  | .inl (false,d)=>∀ v G' H',Ext G H G' H'→Rep K G' d v→Q v H'
  | .inl (true,d)=>∀ p G' H',Ext G H G' H'→H p=none→G' p=none→OwnAt K G' H' d p→Q (.ref p) H'
  | .inr x=>XOk mg G H E x
noncomputable def runX (n:Nat) (b:FSX) (ds:List D):Option (Sum (Bool×D) Str):=(b (ds.map (fun d=>some (false,d))++List.replicate (n - ds.length) none)).bind fun r=>match r with
  | .inl (.rt o d)=>some (.inl (o,d))
  | .inl (.nx _)=>some (.inl (false,.non))
  | .inl _=>none
  | .inr x=>some (.inr x)
noncomputable def FRX (n N:Nat) (b:FSX):FX:=fun ds=>if ds.length=n then runX N b ds else none
theorem FRX_ok {n N:Nat} {b:FSX}:∀ ds r,FRX n N b ds=some r→ds.length=n∧runX N b ds=some r:=fun ds r h=>by
  unfold FRX at h
  split at h
  · rename_i c
    exact ⟨c,h⟩
  · cases h
section
variable {P:Program} {w:World} {K:PySem.W.Frag} {mg:Str→Option Value} {base:Heap}
theorem Def.okXS {x:Str} {st:Stmt} {N ps:List Str} {k:Nat} {F:FX} {b:FSX} (d:Def K mg x st ps) (S:FnScope N ps (defScope st)) (hN:ps.length≤N.length) (hF:∀ ds r,F ds=some r→ds.length=ps.length∧runX N.length b ds=some r)
    (hb:∀ (f:Addr) (cdv:Value) (A:Around) (outer:List Env) (s:Shared) (H:Hp) (E:XK),Room k (A.deeper (envOfC x (defScope st) s.heap.objs.size f cdv))→SXs (cxE P w K mg base N x (defScope st) f cdv A outer s H E) E (defBody st) b):HasX P w K mg base x ps (k+1) (spX K mg F):=by
  refine d.okX S (fun vs H Q E h=>?_) fun f cdv A outer s H vs Q E hr h=>?_
  · obtain ⟨G,ds,r,_,rs,e,_⟩:=h
    rw [rs.length,(hF _ _ e).1]
  · obtain ⟨G,ds,r,s',rs,e,q⟩:=h
    obtain ⟨l,hrun⟩:=hF _ _ e
    obtain ⟨t,p,kt⟩:=(hb f cdv A outer s H E hr).h
    obtain ⟨fl,hfl,hrun⟩:=bindE hrun
    refine ⟨t,⟨p⟩,kt (env_start (N:=N) s' rs (by omega)) hfl ?_⟩
    cases fl with
    | inr y=>
      cases hrun
      exact q
    | inl fl=>
      cases fl with
      | nx τ=>
        cases hrun
        exact fun σ G' H' z=>q .non G' H' z.ext rfl
      | rt o' d'=>
        cases hrun
        cases o' with
        | false=>exact q
        | true=>exact q
      | bk τ=>cases hrun
      | ct τ=>cases hrun
end
noncomputable def spE (mg:Str→Option Value) (B:Str→Option Bool):Sp:=fun vs H Q _=>∃ a C x b,vs=[.ref a]∧H a=some (.ext (ExcO a C))∧mg x=some (.ref C)∧B x=some b∧Q (.bl b) H
noncomputable def sTry (iy i:Nat) (z:Str) (F:FX) (fa:FA) (c:FE) (B:Str→Option Bool):FS:=fun τ=>(fa τ).bind fun ds=>(F ds).bind fun r=>match r with
  | .inl (_,d)=>some (.nx (τ.set iy (some (false,d))))
  | .inr x=>if x=z then (c (τ.set i none)).bind fun d=>match d with
      | .bl false=>some (.rt false (.bl false))
      | .bl true=>(B x).bind fun b=>some (.rt false (.bl b))
      | _=>none
    else none
section
variable {X:Cx} {iy i j k kb:Nat} {y n x z f g pn:Str} {C D:Addr} {ps:List Str} {F:FX} {B:Str→Option Bool} {fa:FA} {fc:FE} {c e:Expr} {es:List Expr} {yp fp cp ap np gp mp gc bp rp hpos tpos:Pos}
theorem ss_try (hnx:X.nox=X) (hst:X.stack=X.env::X.outer) (hfr:X.env.frame=some X.env.locals) (hex:X.ex=[]) (hr:Room j X.A) (hF:HasX X.prog X.w X.K X.mg X.base f ps k (spX X.K X.mg F)) (hgf:Gl X f) (ha:SA X (e::es) fa)
    (hD:X.mg x=some (.ref D)) (hgx:Gl X x) (hz:X.mg z=some (.ref C)) (hm:PySem.W.exmOne X.K (.ref C) (.ref D)=some true) (hN:X.N.Nodup) (hiy:X.N[iy]?=some y) (hy:Loc X.env.scope y) (hi:X.N[i]?=some n) (hx:X.env.scope.names.lookup n=some .local)
    (hc:∀ a,SE (X.marked a) c fc) (hv:∀ a,QE (X.marked a) (.Name n mp) (tVar i)) (hB:HasH X.prog X.w X.K X.mg X.base g [pn] kb (spE X.mg B)) (hgg:Gl X g) (hk:k≤j:=by decide) (hkb:kb≤j:=by decide) (hdb:(x == ("__debug__" : Str))=false:=by decide) (hdf:(f == ("__debug__" : Str))=false:=by decide) (hdg:(g == ("__debug__" : Str))=false:=by decide) (he:(e::es).all noStar=true:=by rfl) (hnc:noComp (.Call (.Name f fp) (e::es) [] cp)=true:=by rfl) (hfy:X.fn y=true∨X.env.scope.names.lookup y=some .local:=by first | exact .inl rfl | exact .inr rfl | assumption) :
    SS X (.Try [.Assign [.Name y yp] (.Call (.Name f fp) (e::es) [] cp) ap] [.ExceptHandler (some (.Name x np)) (some n) [.Return (some (.BoolOp .And [c,.Call (.Name g gp) [.Name n mp] [] gc] bp)) rp] hpos] [] [] tpos) (sTry iy i z F fa fc B):=by
  obtain ⟨ta,pa,ka⟩:=ha.h
  have pa':QA X.nox (e::es) ta:=by rw [hnx]; exact ⟨pa⟩
  have su':∀ a,QSs (X.marked a) [.Return (some (.BoolOp .And [c,.Call (.Name g gp) [.Name n mp] [] gc] bp)) rp] (tRet (tAndV (tSE X.K X.N.length fc) (tCall (spE X.mg B) [] E0 (tCons (tVar i) tNil)))):=fun a=>⟨pss_one (ps_ret (pe_and (hc a).pe (pe_one (qe_ownH (X:=X.marked a) hB (hr.marked _) hgg (qa_cons (hv a) qa_nil rfl) hkb hdg rfl).h)))⟩
  refine ⟨⟨_,ps_trySet hst hfr hex hr.hd hD hgx hN hi hx hiy hy (qx_call hF hr hgf pa' hk hdf he) su' hdb hnc hfy,fun {G0 H0 G H τ σ fl En} K hf q=>?_⟩⟩
  obtain ⟨ds,hd,hf⟩:=bindE hf
  obtain ⟨r,hr',hf⟩:=bindE hf
  refine ka K hd fun vs G1 H1 x1 r1=>⟨G1,ds,r,x1.gh,r1,hr',?_⟩
  have iyl:iy<X.N.length:=(List.getElem?_eq_some_iff.mp hiy).1
  cases r with
  | inl od=>
    obtain ⟨o,d⟩:=od
    cases hf
    cases o with
    | false=>exact fun v G' H' x2 rv=>q _ _ _ (((K.go x1).go x2).set iyl rv)
    | true=>
      intro p G' H' x2 hp gp o
      obtain ⟨u,hu,rv⟩:=o.frz gp
      exact q _ _ _ ((K.go (x1.trans (x2.frz hp gp hu))).set iyl rv)
  | inr w=>
    by_cases ez:w=z
    · subst ez
      have hf:((fc (τ.set i none)).bind fun d=>match d with
        | .bl false=>some (Fl.rt false (.bl false))
        | .bl true=>(B w).bind fun b=>some (.rt false (.bl b))
        | _=>none)=some fl:=by
        have hf':=hf
        dsimp only at hf'
        rw [if_pos rfl] at hf'
        exact hf'
      obtain ⟨d,hd',hf⟩:=bindE hf
      refine ⟨C,hz,fun G2 H2 x2=>⟨C,rfl,hm,fun a na=>?_⟩⟩
      have K2:=K.go (x1.trans x2)
      have x3:=Ext.layO (o:=.ext (ExcO a C)) K2.ext.gh na
      have K3:EnvOk X.K X.N.length G0 H0 G2 (upd H2 a (.ext (ExcO a C))) (τ.set i none) (σ.set i (some (.ref a))):=(K2.go x3).lose (i:=i) (.ref a)
      refine ⟨G0,H0,G2,τ.set i none,d,K3,hd',fun v G3 H3 x4 rv=>?_⟩
      cases d with
      | bl b=>
        refine ⟨b,rv,?_⟩
        cases b with
        | false=>
          cases hf
          exact iteF (q _ G3 H3 (K3.ext.trans x4) rfl)
        | true=>
          obtain ⟨b,hb,hf⟩:=bindE hf
          cases hf
          have ea:H3 a=some (.ext (ExcO a C)):=x4.h _ _ upd_same
          have sa:(σ.set i (some (V.ref a)))[i]?=some (some (V.ref a)):=get_set_same (by rw [K.l1]; exact (List.getElem?_eq_some_iff.mp hi).1)
          exact iteT ⟨_,sa,a,C,w,b,rfl,ea,hz,hb,q _ G3 H3 (K3.ext.trans x4) rfl⟩
      | _=>cases hf
    · dsimp only at hf
      rw [if_neg ez] at hf
      cases hf
end
end L3
namespace L2
open PySem PySem.Spec PyProof PyProof.Rows
section
variable {prog:Program} {w:World} {A:Around} {E:Value→Shared→Prop} {s:Shared}
open HT in
theorem getItem_tuple_whole {t sl:Addr} {items:Array Value} {vl vu:Value} {lo hi:Option Int} {Q:Value→Shared→Prop} (ht:IsTup s.heap t items) (hs:s.heap.IsSliceOf sl vl vu .none) (pl:IsPart vl lo) (pu:IsPart vu hi)
    (hw:sIx items.size 0 lo=0∧sIx items.size items.size hi=items.size) (h:Q (.ref t) s):wpAny (model prog w) A (getItem (.ref t) (.ref sl)) Q E s:=by
  obtain ⟨os,hos,hcs,hds⟩:=id hs
  have hTs:s.TypeIs (.ref sl) "slice" := ⟨os,hos,hcs⟩
  unfold getItem
  try with_reducible refine wpAny_holding ?_
  first | refine wpAny_bind (wpAny_pure ?_) | skip
  refine wpAny_bind (wpAny_sequenceKey ht.typeIs (by decide) ?_)
  refine wpAny_bind (wpAny_callSpecial?_slot (name:=Str.ofString "__getitem__") ht.typeIs PyProof.Rows.slot_tuple_getitem
    (wpAny_call_entry PyProof.Rows.slot_tuple_getitem ht.typeIs entry_tuple_getitem ?_ (args_tuple_getitem _ _)))
  show wpAny _ _ (Builtin.Tuple.tupleItemsOf (.ref t) >>= _) _ _ s
  refine wpAny_bind (tupleItemsOf_ ht ?_)
  refine wpAny_bind (wpAny_typeOf hTs ?_)
  rw [if_pos (by decide)]
  refine wpAny_bind (sliceApplied_gen hs pl pu ?_)
  have hyes:(((sIx items.size 0 lo:Nat):Int) == 0&&(1:Int) == 1&&(sIx items.size items.size hi - sIx items.size 0 lo) == items.size)=true:=by
    rw [hw.1,hw.2,Nat.sub_zero]
    simp
  show wpAny _ _ (if (((sIx items.size 0 lo:Nat):Int) == 0&&(1:Int) == 1&&(sIx items.size items.size hi - sIx items.size 0 lo) == items.size)=true then _ else _) _ _ s
  rw [if_pos hyes]
  have hT:s.TypeIs (.ref t) "tuple" := ht.typeIs
  unfold Builtin.Tuple.tupleIsExact
  exact wpAny_bind (wpAny_bind (wpAny_typeOf hT (wpAny_pure (wpAny_bind (wpAny_rule (wpAny_pure ⟨_,rfl,wpAny_pure h⟩))))))
end
noncomputable def rSlW (K:PySem.W.Frag):V→Option Int→Option Int→Hp→VK→Prop:=fun x lo hi H Q=>∃ a xs,x=.ref a∧SqT K H a xs∧
  (HT.sIx xs.length 0 lo=0∧HT.sIx xs.length xs.length hi=xs.length)∧Q (.ref a) H
theorem sl_tupW {X:Cx}:SlR X (rSlW X.K):=by
  intro pins s σ H x v vl vu lo hi sl Q I rx hs pl pu h
  obtain ⟨a,xs,rfl,hx,hw,q⟩:=h
  cases rx
  obtain ⟨its,r,ht,hz⟩:=I.tuple hx
  have hlen:its.toArray.size=xs.length:=by rw [List.size_toArray]; exact r.length.symm
  refine ⟨"tuple",_,PyProof.Rows.slot_tuple_getitem.lookup,ht.typeIs,?_⟩
  exact getItem_tuple_whole ht hs pl pu (by rw [hlen]; exact hw) ⟨.ref a,H,I,rfl,q⟩
end L2
namespace L3
open PySem PySem.Spec PyProof PyProof.Rows L2
noncomputable def fSlT (d:D) (lo hi:Option Int):Option D:=match d with
  | .tup xs=>some (.tup (cutD xs lo hi))
  | d=>fSl d lo hi
noncomputable def eSlT (a:FE) (lo hi:FO):FE:=fun σ=>(a σ).bind fun d=>(lo σ).bind fun l=>(hi σ).bind fun h=>fSlT d l h
theorem cutD_whole {α:Type} {xs:List α} {lo hi:Option Int} (c:HT.sIx xs.length 0 lo=0∧HT.sIx xs.length xs.length hi=xs.length):cutD xs lo hi=xs:=by
  unfold cutD
  rw [c.1,c.2,Nat.sub_zero,List.drop_zero,List.take_length]
theorem se_slT {X:Cx} {a:Expr} {fa:FE} {pos:Pos} {lo hi:Option Expr} {fl fh:FO} {p2:Pos} (ha:SE X a fa) (hl:SO X lo fl) (hh:SO X hi fh):SE X (.Subscript a (.Slice lo hi none p2) pos) (eSlT fa fl fh):=by
  obtain ⟨ta,pa,ka⟩:=ha.h
  obtain ⟨tl,pl,kl⟩:=hl.h
  obtain ⟨th,ph,kh⟩:=hh.h
  refine ⟨⟨_,pe_slice (sl_S.or sl_tupW) pa pl ph,fun {G0 H0 G H τ σ d Q} E hf q=>?_⟩⟩
  obtain ⟨x,hx,hf⟩:=bindE hf
  obtain ⟨l,hl,hf⟩:=bindE hf
  obtain ⟨h,hh,hf⟩:=bindE hf
  refine ka E hx fun v G1 H1 x1 r1=>kl (E.go x1) hl fun G2 H2 x2=>kh ((E.go x1).go x2) hh fun G3 H3 x3=>?_
  have xx:=x1.trans (x2.trans x3)
  have r3:=r1.mono (x2.g.trans x3.g)
  cases x with
  | lst xs=>
    cases hf
    obtain ⟨a,vs,rfl,sq,rs,ll⟩:=r3
    refine .inl (.inl ⟨a,vs,rfl,sqL_mono x3.gh sq,fun p hp=>q _ _ _ (xx.trans (Ext.lay x3.gh hp)) ⟨p,_,rfl,SqL.of upd_same,(rs.cut l h).mono (same_new (x3.gh.free hp) _),Nat.le_trans (cutD_len ..) ll⟩⟩)
  | tup xs=>
    cases hf
    obtain ⟨a,vs,rfl,sq,rs,ll⟩:=r3
    by_cases c:HT.sIx xs.length 0 l=0∧HT.sIx xs.length xs.length h=xs.length
    · refine .inr ⟨a,vs,rfl,sqT_mono x3.gh sq,by rw [rs.length]; exact c,?_⟩
      rw [cutD_whole c] at q
      exact q _ _ _ xx ⟨a,vs,rfl,sq,rs,ll⟩
    · refine .inl (.inr (.inl ⟨a,vs,rfl,sqT_mono x3.gh sq,by rw [rs.length]; exact c,fun p hp=>?_⟩))
      exact q _ _ _ (xx.trans (Ext.lay x3.gh hp)) ⟨p,_,rfl,SqT.of upd_same,(rs.cut l h).mono (same_new (x3.gh.free hp) _),Nat.le_trans (cutD_len ..) ll⟩
  | str z=>
    cases hf
    obtain ⟨rfl,ll⟩:=r3
    exact .inl (.inr (.inr ⟨z,rfl,ll,q _ _ _ xx ⟨rfl,Nat.le_trans (cut_len ..) ll⟩⟩))
  | _=>cases hf
end L3
local macro_rules
  | `(tactic| simp! [$ls,*])=>`(tactic| simp only [L3.shx,Nat.reduceAdd,Nat.reduceSub,Int.reduceLT,Int.reduceLE,Int.reducePow,Int.reduceToNat,Int.reduceAdd,Int.reduceSub,Int.reduceMul,Int.reduceNeg,$ls,*])
namespace L3
open PySem
noncomputable def gl_MARKS:List D:=[(.str "carry"),(.str "nought"),(.str "sign")]
noncomputable def gt_MARKS:D:=.tup gl_MARKS
noncomputable def gk_FIELDS:List (Sum Int Str):=List.map .inr ["label", "set", "high", "copy", "add", "addc", "sub", "subc", "and", "or", "xor", "test", "left", "right", "load", "store", "loadw", "storew", "jump", "when", "unless", "stop"]
noncomputable def gv_FIELDS:List D:=[(.tup [(.str "name")]),(.tup [(.str "d"),(.str "n")]),(.tup [(.str "d"),(.str "n")]),(.tup [(.str "d"),(.str "s")]),(.tup [(.str "d"),(.str "s")]),(.tup [(.str "d"),(.str "s")]),(.tup [(.str "d"),(.str "s")]),(.tup [(.str "d"),(.str "s")]),(.tup [(.str "d"),(.str "s")]),(.tup [(.str "d"),(.str "s")]),(.tup [(.str "d"),(.str "s")]),(.tup [(.str "d"),(.str "s")]),(.tup [(.str "d"),(.str "n")]),(.tup [(.str "d"),(.str "n")]),(.tup [(.str "d"),(.str "s"),(.str "n")]),(.tup [(.str "d"),(.str "s"),(.str "n")]),(.tup [(.str "d"),(.str "s"),(.str "n")]),(.tup [(.str "d"),(.str "s"),(.str "n")]),(.tup [(.str "name")]),(.tup [(.str "mark"),(.str "name")]),(.tup [(.str "mark"),(.str "name")]),(.tup [])]
noncomputable def gk_NUMBER_WIDTHS:List (Sum Int Str):=List.map .inr ["set", "high", "left", "right", "load", "store", "loadw", "storew"]
noncomputable def gv_NUMBER_WIDTHS:List D:=[(.int 16),(.int 16),(.int 5),(.int 5),(.int 8),(.int 8),(.int 8),(.int 8)]
noncomputable def gk_PLACES:List (Sum Int Str):=List.map .inr ["kind", "d", "s", "mark", "distance"]
noncomputable def gv_PLACES:List D:=[(.tup [(.int 27),(.int 5)]),(.tup [(.int 24),(.int 3)]),(.tup [(.int 21),(.int 3)]),(.tup [(.int 24),(.int 2)]),(.tup [(.int 0),(.int 5)])]
noncomputable def gk_CODES:List (Sum Int Str):=List.map .inr ["stop", "set", "high", "copy", "add", "addc", "sub", "subc", "and", "or", "xor", "test", "left", "right", "load", "store", "loadw", "storew"]
noncomputable def gv_CODES:List D:=[(.int 0),(.int 1),(.int 2),(.int 3),(.int 4),(.int 5),(.int 6),(.int 7),(.int 8),(.int 9),(.int 10),(.int 11),(.int 12),(.int 13),(.int 14),(.int 15),(.int 16),(.int 17)]
noncomputable def gu_CODES:List L2.V:=[.int 0,.int 1,.int 2,.int 3,.int 4,.int 5,.int 6,.int 7,.int 8,.int 9,.int 10,.int 11,.int 12,.int 13,.int 14,.int 15,.int 16,.int 17]
noncomputable def gk_NEAR_CODES:List (Sum Int Str):=List.map .inr ["jump", "when", "unless"]
noncomputable def gv_NEAR_CODES:List D:=[(.int 18),(.int 19),(.int 20)]
noncomputable def gu_NEAR_CODES:List L2.V:=[.int 18,.int 19,.int 20]
noncomputable def gk_FAR_CODES:List (Sum Int Str):=List.map .inr ["jump", "when", "unless"]
noncomputable def gv_FAR_CODES:List D:=[(.int 21),(.int 22),(.int 23)]
noncomputable def gu_FAR_CODES:List L2.V:=[.int 21,.int 22,.int 23]
end L3
namespace L3
open PySem
noncomputable def b_law_cell_at:FS:=
  (sSeq (sIf (tE (e2 (fCmp fun i j=>decide (i<j)) (eVar 1) (eL fLen (aCons (eVar 0) aNil))))
      (sRet (e2 fIx (eVar 0) (eVar 1)))
      sNext)
    (sRet (eC (.int 0))))
theorem ints_at (ns:List Int) (k:Nat):(ns.map D.int)[k]?=(ns[k]?).map D.int:=List.getElem?_map
noncomputable def cellAt (ns:List Int) (k:Int):Int:=ns.getD k.toNat 0
noncomputable def F_law_cell_at:List D→Option (Bool×D)
  | [.lst xs,.int k]=>if 0≤k then ((xs[k.toNat]?).getD (.int 0) |> fun d=>some (false,d)) else none
  | _=>none
theorem cell_ints (ns:List Int) {k:Int} (h:0≤k):F_law_cell_at [.lst (ns.map D.int),.int k]=some (false,.int (cellAt ns k)):=by
  show (if 0≤k then _ else _)=_
  rw [if_pos h,ints_at]
  unfold cellAt
  rw [List.getD_eq_getElem?_getD]
  cases ns[k.toNat]?<;>rfl
theorem run_law_cell_at:∀ ds r,F_law_cell_at ds=some r→ds.length=2∧runF 2 b_law_cell_at ds=some r:=fun ds r h=>by
  unfold F_law_cell_at at h
  split at h
  · rename_i xs k
    refine ⟨rfl,?_⟩
    by_cases h0:0≤k
    · rw [if_pos h0] at h
      cases h
      unfold b_law_cell_at
      by_cases c:k<(xs.length:Int)
      · have e:fIx (.lst xs) (.int k)=some ((xs[k.toNat]?).getD (.int 0)):=by
          show atD xs k=_
          unfold atD
          rw [if_pos h0,List.getElem?_eq_getElem (by omega)]
          rfl
        simp! [decide_eq_true c,e]
      · have e:xs[k.toNat]?=none:=List.getElem?_eq_none (by omega)
        simp! [decide_eq_false c,e,Option.getD]
    · rw [if_neg h0] at h
      cases h
  · cases h
end L3
namespace L3
open PySem
noncomputable def lt (k:Int):Str:=⟨#[97+k.toNat]⟩
theorem abc_at {k:Int} (h0:0≤k) (h1:k<26):atD ("abcdefghijklmnopqrstuvwxyz" : Str).cps.toList k=some (97+k.toNat):=by
  have h:∀ j:Fin 26,atD ("abcdefghijklmnopqrstuvwxyz" : Str).cps.toList (j.val:Int)=some (97+j.val):=by decide +kernel
  have:=h ⟨k.toNat,by omega⟩
  rw [show ((⟨k.toNat,by omega⟩:Fin 26).val:Int)=k by show (k.toNat:Int)=k; omega] at this
  exact this
theorem abc_ix {k:Int} (h0:0≤k) (h1:k<26):fIx (.str "abcdefghijklmnopqrstuvwxyz") (.int k)=some (.str (lt k)):=by
  show (atD _ k).bind _=_
  rw [abc_at h0 h1]
  rfl
theorem add_str {a b:Str} (h:a.length+b.length≤100000):fAdd (.str a) (.str b)=some (.str (a++b)):=by
  show (if a.length+b.length≤LIM then _ else _)=_
  rw [if_pos (by show _≤16777216; omega)]
theorem len_app (a b:Str):(a++b).length=a.length+b.length:=Array.size_append
theorem lt_len (k:Int):(lt k).length=1:=rfl
end L3
namespace L3
open PySem
theorem lc_all {g:FG} {c:FT} {e:FE} {σ:SEnv} (p:D→Bool) (v:D→D):∀ {ds:List D},(∀ d∈ds,∃ σ1,g d σ=some σ1∧c σ1=some (p d)∧(p d=true→e σ1=some (v d)))→lcGo g c e σ ds=some ((ds.filter p).map v)
  | [],_=>rfl
  | d::ds,h=>by
    obtain ⟨σ1,e1,e2,e3⟩:=h d (List.mem_cons_self ..)
    have ih:=lc_all p v (ds:=ds) fun x hx=>h x (List.mem_cons_of_mem _ hx)
    show (g d σ).bind _=_
    rw [e1]
    show (c σ1).bind _=_
    rw [e2]
    cases hp:p d with
    | false=>
      rw [List.filter_cons_of_neg (by rw [hp]; decide)]
      exact ih
    | true=>
      rw [List.filter_cons_of_pos hp]
      show (e σ1).bind _=_
      rw [e3 hp]
      show (lcGo g c e σ ds).bind _=_
      rw [ih]
      rfl
theorem lc_map {g:FG} {e:FE} {σ:SEnv} (v:D→D) {ds:List D} (h:∀ d∈ds,∃ σ1,g d σ=some σ1∧e σ1=some (v d)):lcGo g tTrue e σ ds=some (ds.map v):=by
  have:=lc_all (g:=g) (c:=tTrue) (e:=e) (σ:=σ) (fun _=>true) v (ds:=ds) fun d hd=>by
    obtain ⟨σ1,a,b⟩:=h d hd
    exact ⟨σ1,a,rfl,fun _=>b⟩
  rw [this,List.filter_eq_self.mpr (fun _ _=>rfl)]
inductive Each (R:D→D→Prop):List D→List D→Prop
  | nil:Each R [] []
  | cons {x y:D} {xs ys:List D}:R x y→Each R xs ys→Each R (x::xs) (y::ys)
theorem lc_ex {g:FG} {e:FE} {σ:SEnv} (R:D→D→Prop):∀ {ds:List D},(∀ d∈ds,∃ σ1 x,g d σ=some σ1∧e σ1=some x∧R d x)→∃ xs,lcGo g tTrue e σ ds=some xs∧Each R ds xs
  | [],_=>⟨[],rfl,.nil⟩
  | d::ds,h=>by
    obtain ⟨σ1,x,e1,e2,r⟩:=h d (List.mem_cons_self ..)
    obtain ⟨xs,ih,rs⟩:=lc_ex R (ds:=ds) fun x hx=>h x (List.mem_cons_of_mem _ hx)
    refine ⟨x::xs,?_,.cons r rs⟩
    show (g d σ).bind _=_
    rw [e1]
    show (e σ1).bind _=_
    rw [e2]
    show (lcGo g tTrue e σ ds).bind _=_
    rw [ih]
    rfl
theorem upTo_get {n i:Nat} {d:D} (h:(upTo n)[i]?=some d):i<n∧d=.int (i:Int):=by
  have hi:i<n:=by
    have:=(List.getElem?_eq_some_iff.mp h).1
    simpa using this
  refine ⟨hi,?_⟩
  simp [hi] at h
  exact h.symm
theorem upTo_mem {n:Nat} {d:D} (h:d∈upTo n):∃ i:Nat,i<n∧d=.int (i:Int):=by
  obtain ⟨i,hi,e⟩:=List.getElem_of_mem h
  exact ⟨i,(upTo_get (List.getElem?_eq_some_iff.mpr ⟨hi,e⟩))⟩
theorem upTo_len (n:Nat):(upTo n).length=n:=by simp
theorem at_last {α:Type} (xs:List α) (a:α):atD (xs++[a]) (-1)=some a:=by
  unfold atD
  rw [if_neg (by decide),if_pos (by rw [List.length_append,List.length_singleton]; omega)]
  rw [show ((-1:Int)+((xs++[a]).length:Nat)).toNat=xs.length by rw [List.length_append,List.length_singleton]; omega]
  simp
theorem at_nat {α:Type} {xs:List α} {i:Int} {a:α} (h0:0≤i) (h:xs[i.toNat]?=some a):atD xs i=some a:=by
  unfold atD
  rw [if_pos h0,h]
noncomputable def okD:Nat→D→Bool
  | 0,_=>false
  | n+1,.tup xs=>xs.all (okD n)
  | n+1,.lst xs=>xs.all (okD n)
  | _+1,d=>flatD d
theorem cmpAll_self {f:D→D→Bool}:∀ {xs:List D},(∀ x∈xs,f x x=true)→cmpAll f xs xs=true
  | [],_=>rfl
  | x::xs,h=>by
    show (f x x&&cmpAll f xs xs)=true
    rw [h x (List.mem_cons_self ..),cmpAll_self fun y hy=>h y (List.mem_cons_of_mem _ hy)]
    rfl
theorem dEqs_self:∀ {xs:List D},(∀ x∈xs,dEq x x=true)→dEqs xs xs=true
  | [],_=>by unfold dEqs; rfl
  | x::xs,h=>by
    unfold dEqs
    rw [h x (List.mem_cons_self ..),dEqs_self fun y hy=>h y (List.mem_cons_of_mem _ hy)]
    rfl
theorem ok_self:∀ (n:Nat) (d:D),okD n d=true→cmpOk n d d=true∧dEq d d=true
  | 0,_,h=>by cases h
  | n+1,d,h=>by
    cases d with
    | tup xs=>
      have h':∀ x∈xs,okD n x=true:=List.all_eq_true.mp h
      exact ⟨cmpAll_self fun x hx=>(ok_self n x (h' x hx)).1,by unfold dEq; exact dEqs_self fun x hx=>(ok_self n x (h' x hx)).2⟩
    | lst xs=>
      have h':∀ x∈xs,okD n x=true:=List.all_eq_true.mp h
      exact ⟨cmpAll_self fun x hx=>(ok_self n x (h' x hx)).1,by unfold dEq; exact dEqs_self fun x hx=>(ok_self n x (h' x hx)).2⟩
    | dic ks vs=>cases h
    | non=>exact ⟨rfl,by unfold dEq; rfl⟩
    | bl b=>exact ⟨rfl,by unfold dEq; exact beq_self_eq_true b⟩
    | int i=>exact ⟨rfl,by unfold dEq; exact beq_self_eq_true i⟩
    | str z=>exact ⟨rfl,by unfold dEq; exact beq_self_eq_true z⟩
theorem eqB_self {d:D} (h:okD 6 d=true):fEqB d d=some true:=by
  obtain ⟨h1,h2⟩:=ok_self 6 d h
  have e:fEqB d d=match cmpOk 6 d d with
    | true=>some (dEq d d)
    | false=>none:=by cases d<;>rfl
  rw [e,h1,h2]
theorem eq_self {d:D} (h:okD 6 d=true):fEq d d=some (.bl true):=by
  unfold fEq
  rw [eqB_self h]
  rfl
theorem ne_self {d:D} (h:okD 6 d=true):fNe d d=some (.bl false):=by
  unfold fNe
  rw [eqB_self h]
  rfl
theorem int_eq {i j:Int} (h:i=j):fEq (.int i) (.int j)=some (.bl true):=by
  subst h
  show some (D.bl (i == i))=_
  rw [beq_self_eq_true]
theorem int_ne {i j:Int} (h:i≠j):fEq (.int i) (.int j)=some (.bl false):=by
  show some (D.bl (i == j))=_
  rw [beq_eq_false_iff_ne.mpr h]
theorem add_int {i j:Int}:fAdd (.int i) (.int j)=some (.int (i+j)):=rfl
theorem strs_of:∀ ts:List Str,strsOf (ts.map D.str)=some ts
  | []=>rfl
  | t::ts=>by
    show (strsOf (ts.map D.str)).bind _=_
    rw [strs_of ts]
    rfl
theorem join_of {sep:Str} {ts:List Str} (h:(ts.map (·.length)).sum+ts.length*sep.length≤1000000):fJoin (.str sep) (.lst (ts.map D.str))=some (.str (Builtin.Str.glued sep ts)):=by
  show (strsOf (ts.map D.str)).bind _=_
  rw [strs_of]
  show (if _≤LIM then _ else _)=_
  rw [if_pos (by show _≤16777216; omega)]
theorem cut_len (z:Str) (lo hi:Option Int):(L2.cutS z lo hi).length≤z.length:=by
  show ((z.cps.toList.drop _).take _).toArray.size≤z.cps.size
  simp only [List.size_toArray,List.length_take,List.length_drop,Array.length_toList]
  omega
theorem get_put {α:Type} {k:Sum Int Str} {v:α}:∀ {ks:List (Sum Int Str)} {vs:List α},ks.length=vs.length→∀ k',getK (putKs ks k) (putVs ks vs k v) k'=if k=k' then some v else getK ks vs k':=by
  have one:∀ {ks:List (Sum Int Str)} {vs:List α},ks.length=vs.length→∀ k',hasK ks k=true→getK ks (List.zipWith (fun k' x=>if k'=k then v else x) ks vs) k'=if k=k' then some v else getK ks vs k':=by
    intro ks
    induction ks with
    | nil=>intro vs _ k' h; cases h
    | cons a ks ih=>
      intro vs hl k' h
      cases vs with
      | nil=>cases hl
      | cons b vs=>
        rw [List.zipWith_cons_cons]
        unfold getK
        by_cases e1:a=k
        · subst e1
          by_cases e2:a=k'
          · rw [if_pos e2,if_pos e2,if_pos rfl]
          · rw [if_neg e2,if_neg e2,if_neg e2]
            by_cases e3:hasK ks a=true
            · have:=ih (vs:=vs) (by simpa using hl) k' e3
              rw [this,if_neg e2]
            · have:∀ {ks:List (Sum Int Str)} {vs:List α},ks.length=vs.length→hasK ks a=false→getK ks (List.zipWith (fun k' x=>if k'=a then v else x) ks vs) k'=getK ks vs k':=by
                intro ks
                induction ks with
                | nil=>intro vs _ _; rfl
                | cons a' ks ih'=>
                  intro vs hl h
                  cases vs with
                  | nil=>cases hl
                  | cons b vs=>
                    have h2:decide (a'=a)=false∧hasK ks a=false:=by
                      have:(decide (a'=a)||hasK ks a)=false:=h
                      exact Bool.or_eq_false_iff.mp this
                    rw [List.zipWith_cons_cons]
                    unfold getK
                    rw [if_neg (of_decide_eq_false h2.1),ih' (by simpa using hl) h2.2]
              exact this (by simpa using hl) (by simpa using e3)
        · have h2:hasK ks k=true:=by
            have:(decide (a=k)||hasK ks k)=true:=h
            rw [decide_eq_false e1] at this
            exact this
          have:=ih (vs:=vs) (by simpa using hl) k' h2
          rw [this,if_neg e1]
          by_cases e2:a=k'
          · rw [if_pos e2]
            rw [if_neg (fun e=>e1 (e2.trans e.symm)),if_pos e2]
          · rw [if_neg e2]
            by_cases e3:k=k'
            · rw [if_pos e3,if_pos e3]
            · rw [if_neg e3,if_neg e3,if_neg e2]
  intro ks vs hl k'
  unfold putKs putVs
  by_cases h:hasK ks k=true
  · rw [if_pos h,if_pos h]
    exact one hl k' h
  · rw [if_neg h,if_neg h]
    clear one
    induction ks generalizing vs with
    | nil=>
      cases vs with
      | nil=>rfl
      | cons _ _=>cases hl
    | cons a ks ih=>
      cases vs with
      | nil=>cases hl
      | cons b vs=>
        have h2:¬ a=k∧¬ hasK ks k=true:=by
          have:¬ (decide (a=k)||hasK ks k)=true:=h
          constructor
          · intro e; exact this (by rw [decide_eq_true e]; rfl)
          · intro e; exact this (by rw [e,Bool.or_true])
        rw [List.cons_append,List.cons_append]
        show (if a=k' then some b else getK (ks++[k]) (vs++[v]) k')=if k=k' then some v else if a=k' then some b else getK ks vs k'
        rw [ih (by simpa using hl) h2.2]
        by_cases e:a=k'
        · rw [if_pos e,if_pos e]
          rw [if_neg (fun e'=>h2.1 (e.trans e'.symm))]
        · rw [if_neg e,if_neg e]
theorem add_lst {L M:List D} (h:L.length+M.length≤1000):fAdd (.lst L) (.lst M)=some (.lst (L++M)):=by
  show (if L.length+M.length≤LIM then _ else _)=_
  rw [if_pos (by show _≤16777216; omega)]
theorem ne_nil (xs:List D):fNe (.lst xs) (.lst [])=some (.bl (!xs.isEmpty)):=by
  cases xs with
  | nil=>exact ne_self (d:=.lst []) rfl
  | cons x r=>
    have e:dEq (.lst (x::r)) (.lst [])=false:=by unfold dEq; unfold dEqs; rfl
    show (some (dEq (.lst (x::r)) (.lst []))).bind _=_
    rw [e]
    rfl
theorem below_len:∀ (n:Nat) {l:List Nat},l.Nodup→(∀ x∈l,x<n)→l.length≤n
  | 0,l,_,h=>by
    cases l with
    | nil=>exact Nat.le_refl _
    | cons x r=>exact absurd (h x (List.mem_cons_self ..)) (Nat.not_lt_zero _)
  | n+1,l,hd,h=>by
    by_cases hm:n∈l
    · have h1:=below_len n (hd.erase n) fun x hx=>by
        have:=(hd.mem_erase_iff).mp hx
        have:=h x this.2
        omega
      rw [List.length_erase_of_mem hm] at h1
      omega
    · have h1:=below_len n hd fun x hx=>by
        have h2:=h x hx
        have h3:x≠n:=fun e=>hm (e ▸ hx)
        omega
      omega
theorem ne_of_eq {x y:D} {b:Bool} (h:fEq x y=some (.bl b)):fNe x y=some (.bl (!b)):=by
  unfold fEq at h
  unfold fNe
  cases e:fEqB x y with
  | none=>rw [e] at h; cases h
  | some k=>
    rw [e] at h
    cases h
    rfl
end L3
namespace L3
open PySem
theorem and_mul_zero {n y l w:Nat} (hn:n<2 ^ w) (hy:y / 2 ^ l % 2 ^ w=0):(y &&& (n*2 ^ l))=0:=by
  apply Nat.eq_of_testBit_eq
  intro i
  rw [Nat.testBit_and,Nat.zero_testBit]
  rw [Nat.testBit_mul_two_pow]
  by_cases hl:l≤i
  · by_cases hi:i - l<w
    · have e:y.testBit i=(y / 2 ^ l % 2 ^ w).testBit (i - l):=by
        rw [Nat.testBit_mod_two_pow,Nat.testBit_div_two_pow,decide_eq_true hi,Bool.true_and,Nat.sub_add_cancel hl]
      rw [e,hy,Nat.zero_testBit,Bool.false_and]
    · have:n.testBit (i - l)=false:=Nat.testBit_lt_two_pow (Nat.lt_of_lt_of_le hn (Nat.pow_le_pow_right (by decide) (by omega)))
      rw [this]; simp
  · simp [hl]
theorem and_mask_mul (x l w:Nat):(x &&& ((2 ^ w - 1)*2 ^ l))=x / 2 ^ l % 2 ^ w*2 ^ l:=by
  apply Nat.eq_of_testBit_eq
  intro i
  rw [Nat.testBit_and,Nat.testBit_mul_two_pow,Nat.testBit_mul_two_pow,Nat.testBit_two_pow_sub_one,Nat.testBit_mod_two_pow,Nat.testBit_div_two_pow]
  by_cases hl:l≤i
  · simp [hl,Nat.sub_add_cancel hl]
    rw [Bool.and_comm]
  · simp [hl]
theorem cast_mask (l w:Nat):(((1:Int)*2 ^ w - 1)*2 ^ l)=(((2 ^ w - 1)*2 ^ l:Nat):Int):=by
  have h:1≤2 ^ w:=Nat.one_le_two_pow
  rw [Int.natCast_mul,Int.natCast_sub h]
  simp
theorem bitAnd_mask_mul {x:Int} (hx:0≤x) (l w:Nat):Builtin.bitAnd x (((1:Int)*2 ^ w - 1)*2 ^ l)=x / 2^l % 2^w*2^l:=by
  obtain ⟨n,rfl⟩:=Int.eq_ofNat_of_zero_le hx
  rw [cast_mask,PyProof.Rows.bitAnd_pp (Int.natCast_nonneg _) (Int.natCast_nonneg _),Int.toNat_natCast,Int.toNat_natCast,and_mask_mul]
  simp
theorem bitAnd_apart {y n:Int} {l w:Nat} (hy:0≤y) (hn:0≤n) (hn2:n<2 ^ w) (hz:y / 2 ^ l % 2 ^ w=0):Builtin.bitAnd y (n*2 ^ l)=0:=by
  obtain ⟨a,rfl⟩:=Int.eq_ofNat_of_zero_le hy
  obtain ⟨b,rfl⟩:=Int.eq_ofNat_of_zero_le hn
  have e:(b:Int)*2 ^ l=((b*2 ^ l:Nat):Int):=by simp
  have h1:b<2 ^ w:=by
    have:((2 ^ w:Nat):Int)=(2:Int) ^ w:=by simp
    omega
  have h2:a / 2 ^ l % 2 ^ w=0:=by
    have:((a / 2 ^ l % 2 ^ w:Nat):Int)=(a:Int) / 2 ^ l % 2 ^ w:=by simp
    omega
  rw [e,PyProof.Rows.bitAnd_pp (Int.natCast_nonneg _) (Int.natCast_nonneg _),Int.toNat_natCast,Int.toNat_natCast,and_mul_zero h1 h2]
  rfl
theorem cut_out {x p r:Int} (hx:0≤x) (hp:0<p) (hr:0<r):0≤x - x / p % r*p∧(x - x / p % r*p) / p % r=0∧(x - x / p % r*p) / p / r=x / p / r∧(x - x / p % r*p) % p=x % p:=by
  have h0:0≤x / p:=Int.ediv_nonneg hx (Int.le_of_lt hp)
  have e1:x - x / p % r*p=x+p*(-(x / p % r)):=by rw [Int.mul_neg,Int.mul_comm p]; omega
  have e2:(x - x / p % r*p) / p=x / p - x / p % r:=by rw [e1,Int.add_mul_ediv_left _ _ (Int.ne_of_gt hp)]; omega
  have e3:x / p - x / p % r=r*(x / p / r):=by have:=Int.mul_ediv_add_emod (x / p) r; omega
  refine ⟨?_,?_,?_,?_⟩
  · have h1:x / p % r≤x / p:=by
      have:=Int.mul_ediv_add_emod (x / p) r
      have h2:0≤x / p / r:=Int.ediv_nonneg h0 (Int.le_of_lt hr)
      have h3:0≤r*(x / p / r):=Int.mul_nonneg (Int.le_of_lt hr) h2
      omega
    have h4:x / p % r*p≤x / p*p:=Int.mul_le_mul_of_nonneg_right h1 (Int.le_of_lt hp)
    have h5:=Int.ediv_mul_le x (Int.ne_of_gt hp)
    omega
  · rw [e2,e3]; exact Int.mul_emod_right _ _
  · rw [e2,e3]; exact Int.mul_ediv_cancel_left _ (Int.ne_of_gt hr)
  · rw [e1]; exact Int.add_mul_emod_self_left ..
theorem part_eq (x:Int) (w:Nat):Builtin.bitAnd x ((1:Int)*2 ^ w - 1)=x % 2 ^ w:=by
  rw [Int.one_mul,PySem.W.kbt_mask]
theorem with_eq {x n:Int} {l w:Nat} (hx:0≤x) (hn:0≤n) (hn2:n<2 ^ w):Builtin.bitOr (Builtin.bitAnd x (Builtin.bitNot (((1:Int)*2 ^ w - 1)*2 ^ l))) (n*2 ^ l)=x+(n - x / 2 ^ l % 2 ^ w)*2 ^ l:=by
  have hp:(0:Int)<2 ^ l:=Int.pow_pos (by decide)
  have hr:(0:Int)<2 ^ w:=Int.pow_pos (by decide)
  obtain ⟨c0,c1,_,_⟩:=cut_out hx hp hr
  rw [PyProof.Rows.bitAnd_not,bitAnd_mask_mul hx,PyProof.Rows.bitOr_and,bitAnd_apart c0 hn hn2 c1,Int.sub_mul]
  omega
end L3
namespace L3
open PySem
theorem pick4 {a b c d i:Int} (h0:0≤i) (h1:i<4):∃ n,(n=a∨n=b∨n=c∨n=d)∧fIx (.lst [.int a,.int b,.int c,.int d]) (.int i)=some (.int n):=by
  rcases (show i=0∨i=1∨i=2∨i=3 by omega) with rfl | rfl | rfl | rfl
  · exact ⟨a,by simp,rfl⟩
  · exact ⟨b,by simp,rfl⟩
  · exact ⟨c,by simp,rfl⟩
  · exact ⟨d,by simp,rfl⟩
theorem pick3 {a b c i:Int} (h0:0≤i) (h1:i<3):∃ n,(n=a∨n=b∨n=c)∧fIx (.lst [.int a,.int b,.int c]) (.int i)=some (.int n):=by
  rcases (show i=0∨i=1∨i=2 by omega) with rfl | rfl | rfl
  · exact ⟨a,by simp,rfl⟩
  · exact ⟨b,by simp,rfl⟩
  · exact ⟨c,by simp,rfl⟩
inductive PlainRow:D→Prop
  | stop:PlainRow (.tup [.str "stop"])
  | imm {w:Str} {d n:Int} (hw:w = "set" ∨ w = "high") (d0:0≤d) (d1:d<8) (n0:0≤n) (n1:n<65536):PlainRow (.tup [.str w,.int d,.int n])
  | two {w:Str} {d s:Int} (hw:w = "copy" ∨ w = "add" ∨ w = "addc" ∨ w = "sub" ∨ w = "subc" ∨ w = "and" ∨ w = "or" ∨ w = "xor" ∨ w = "test") (d0:0≤d) (d1:d<8) (s0:0≤s) (s1:s<8):PlainRow (.tup [.str w,.int d,.int s])
  | mov {w:Str} {d n:Int} (hw:w = "left" ∨ w = "right") (d0:0≤d) (d1:d<8) (n0:0≤n) (n1:n<32):PlainRow (.tup [.str w,.int d,.int n])
  | mem {w:Str} {d s n:Int} (hw:w = "load" ∨ w = "store" ∨ w = "loadw" ∨ w = "storew") (d0:0≤d) (d1:d<8) (s0:0≤s) (s1:s<8) (n0:0≤n) (n1:n<256):PlainRow (.tup [.str w,.int d,.int s,.int n])
inductive JRow (m:Int):D→Prop
  | jump {p:Int} (p0:0≤p) (p1:p≤m):JRow m (.tup [.str "jump",.int p])
  | cond {w k:Str} {p:Int} (hw:w = "when" ∨ w = "unless") (hk:k = "carry" ∨ k = "nought" ∨ k = "sign") (p0:0≤p) (p1:p≤m):JRow m (.tup [.str w,.str k,.int p])
noncomputable def RowG (m:Int) (d:D):Prop:=PlainRow d∨JRow m d
theorem ix0 {a:D} {r:List D}:fIx (.tup (a::r)) (.int 0)=some a:=rfl
noncomputable def isJ:D→Bool
  | .tup (.str w::_)=>w == "jump" || w == "when" || w == "unless"
  | _=>false
noncomputable def lastD:D→D
  | .tup xs=>(atD xs (-1)).getD .non
  | _=>.non
noncomputable def jumpT:D:=.tup [.str "jump",.str "when",.str "unless"]
theorem plain_fx {d:D} (h:PlainRow d):∃ w,fIx d (.int 0)=some (.str w)∧fIn (.str w) jumpT=some (.bl false)∧fEq (.str w) (.str "label")=some (.bl false)∧isJ d=false∧okD 5 d=true:=by
  cases h with
  | stop=>exact ⟨_,rfl,rfl,rfl,rfl,rfl⟩
  | imm hw=>rcases hw with rfl | rfl<;>exact ⟨_,rfl,rfl,rfl,rfl,rfl⟩
  | two hw=>rcases hw with rfl | rfl | rfl | rfl | rfl | rfl | rfl | rfl | rfl<;>exact ⟨_,rfl,rfl,rfl,rfl,rfl⟩
  | mov hw=>rcases hw with rfl | rfl<;>exact ⟨_,rfl,rfl,rfl,rfl,rfl⟩
  | mem hw=>rcases hw with rfl | rfl | rfl | rfl<;>exact ⟨_,rfl,rfl,rfl,rfl,rfl⟩
theorem jrow_fx {m:Int} {d:D} (h:JRow m d):∃ (w:Str) (p:Int),fIx d (.int 0)=some (.str w)∧fIn (.str w) jumpT=some (.bl true)∧fEq (.str w) (.str "label")=some (.bl false)∧isJ d=true∧okD 5 d=true∧fIx d (.int (-1))=some (.int p)∧lastD d=.int p∧0≤p∧p≤m:=by
  cases h with
  | jump p0 p1=>exact ⟨_,_,rfl,rfl,rfl,rfl,rfl,rfl,rfl,p0,p1⟩
  | cond hw hk p0 p1=>rcases hw with rfl | rfl<;>rcases hk with rfl | rfl | rfl<;>exact ⟨_,_,rfl,rfl,rfl,rfl,rfl,rfl,rfl,p0,p1⟩
noncomputable def jumpIx (rows:List D):List Nat:=(List.range rows.length).filter fun i=>isJ (rows.getD i .non)
theorem jumpIx_mem {rows:List D} {i:Nat} (h:i∈jumpIx rows):i<rows.length∧isJ (rows.getD i .non)=true:=by
  obtain ⟨a,b⟩:=List.mem_filter.mp h
  exact ⟨List.mem_range.mp a,b⟩
noncomputable def isL:D→Bool
  | .tup (.str w::_)=>w == "label"
  | _=>false
noncomputable def labelD (t:Str):D:=.tup [.str "label",.str t]
theorem rowG_fx {m:Int} {d:D} (h:RowG m d):∃ w,fIx d (.int 0)=some (.str w)∧fEq (.str w) (.str "label")=some (.bl false)∧isL d=false∧okD 5 d=true:=by
  rcases h with h | h
  · cases h with
    | stop=>exact ⟨_,rfl,rfl,rfl,rfl⟩
    | imm hw=>rcases hw with rfl | rfl<;>exact ⟨_,rfl,rfl,rfl,rfl⟩
    | two hw=>rcases hw with rfl | rfl | rfl | rfl | rfl | rfl | rfl | rfl | rfl<;>exact ⟨_,rfl,rfl,rfl,rfl⟩
    | mov hw=>rcases hw with rfl | rfl<;>exact ⟨_,rfl,rfl,rfl,rfl⟩
    | mem hw=>rcases hw with rfl | rfl | rfl | rfl<;>exact ⟨_,rfl,rfl,rfl,rfl⟩
  · cases h with
    | jump=>exact ⟨_,rfl,rfl,rfl,rfl⟩
    | cond hw hk=>rcases hw with rfl | rfl<;>rcases hk with rfl | rfl | rfl<;>exact ⟨_,rfl,rfl,rfl,rfl⟩
noncomputable def nameIs (t:Str):D→Bool
  | .tup [_,.str u]=>u == t
  | _=>false
noncomputable def plStep (t:Str) (s:Nat×Option Nat) (d:D):Nat×Option Nat:=match isL d with
  | true=>(s.1,match nameIs t d with
    | true=>some s.1
    | false=>s.2)
  | false=>(s.1+1,s.2)
noncomputable def plc (t:Str) (L:List D):Nat×Option Nat:=L.foldl (plStep t) (0,none)
theorem plc_snoc (t:Str) (L:List D) (d:D):plc t (L++[d])=plStep t (plc t L) d:=by
  unfold plc
  rw [List.foldl_append]
  rfl
theorem plc_num (t:Str):∀ (L:List D) (s:Nat×Option Nat),(L.foldl (plStep t) s).1=s.1+(L.filter fun d=>!isL d).length
  | [],_=>rfl
  | d::L,s=>by
    rw [List.foldl_cons,plc_num t L]
    unfold plStep
    cases h:isL d with
    | true=>rw [List.filter_cons_of_neg (by rw [h]; decide)]
    | false=>
      rw [List.filter_cons_of_pos (by rw [h]; rfl),List.length_cons]
      show s.1+1+_=_
      omega
theorem plc_lab (t u:Str) (L:List D):(plc t (L++[labelD u])).2=if u=t then some (L.filter fun d=>!isL d).length else (plc t L).2:=by
  rw [plc_snoc]
  have h:=plc_num t L (0,none)
  show (match (u == t) with | true=>some (plc t L).1 | false=>(plc t L).2)=_
  by_cases e:u=t
  · rw [if_pos e,beq_iff_eq.mpr e]
    show some (plc t L).1=_
    rw [show (plc t L).1=_ from h,Nat.zero_add]
  · rw [if_neg e,beq_eq_false_iff_ne.mpr e]
theorem plc_row {t:Str} {L:List D} {d:D} (h:isL d=false):(plc t (L++[d])).2=(plc t L).2:=by
  rw [plc_snoc]
  unfold plStep
  rw [h]
theorem app_ok {L:List D} {r:D} (h:L.length≤1000):fApp (.lst L) r=some (.lst (L++[r])):=by
  show (if L.length<LIM then _ else _)=_
  rw [if_pos (by show _<16777216; omega)]
inductive Item:D→Prop
  | label (t:Str):Item (labelD t)
  | plain {d:D}:PlainRow d→Item d
  | jump (t:Str):Item (.tup [.str "jump",.str t])
  | cond {w k:Str} (t:Str) (hw:w = "when" ∨ w = "unless") (hk:k = "carry" ∨ k = "nought" ∨ k = "sign"):Item (.tup [.str w,.str k,.str t])
noncomputable def Like (x y:D):Prop:=(isJ x=false→y=x)∧(isJ x=true→∃ (h:List D) (a:D) (t:Str),x=.tup (h++[a])∧y=.tup (h++[.str t]))
theorem isL_notJ {x:D} (h:isL x=true):isJ x=false:=by
  unfold isL at h
  split at h
  · rename_i w r
    have e:w = "label" := by simpa using h
    subst e
    rfl
  · cases h
noncomputable def Fixed (L:List D) (x y:D):Prop:=Item y∧isL y=isL x∧Like x y∧isJ y=isJ x∧(isJ x=true→∃ (t:Str) (p:Nat),fIx y (.int (-1))=some (.str t)∧(plc t L).2=some p∧lastD x=.int (p:Int))
theorem each_len {R:D→D→Prop}:∀ {xs ys:List D},Each R xs ys→xs.length=ys.length
  | _,_,.nil=>rfl
  | _,_,.cons _ r=>by rw [List.length_cons,List.length_cons,each_len r]
theorem each_mem {R:D→D→Prop}:∀ {xs ys:List D},Each R xs ys→∀ y∈ys,∃ x∈xs,R x y
  | _,_,.nil,_,h=>by cases h
  | x::xs,y::ys,.cons r rs,z,hz=>by
    rcases List.mem_cons.mp hz with rfl | hz
    · exact ⟨x,List.mem_cons_self ..,r⟩
    · obtain ⟨w,hw,h⟩:=each_mem rs z hz
      exact ⟨w,List.mem_cons_of_mem _ hw,h⟩
theorem each_imp {R R':D→D→Prop} (h:∀ x y,R x y→R' x y):∀ {xs ys:List D},Each R xs ys→Each R' xs ys
  | _,_,.nil=>.nil
  | _,_,.cons r rs=>.cons (h _ _ r) (each_imp h rs)
theorem fixed_fl {L0:List D}:∀ {xs ys:List D},Each (Fixed L0) xs ys→Each (Fixed L0) (xs.filter fun d=>!isL d) (ys.filter fun d=>!isL d)
  | _,_,.nil=>.nil
  | x::xs,y::ys,.cons r rs=>by
    have a:=fixed_fl rs
    cases h:isL x with
    | true=>
      rw [List.filter_cons_of_neg (p:=fun d=>!isL d) (a:=y) (by rw [r.2.1,h]; decide),List.filter_cons_of_neg (p:=fun d=>!isL d) (a:=x) (by rw [h]; decide)]
      exact a
    | false=>
      rw [List.filter_cons_of_pos (p:=fun d=>!isL d) (a:=y) (by rw [r.2.1,h]; rfl),List.filter_cons_of_pos (p:=fun d=>!isL d) (a:=x) (by rw [h]; rfl)]
      exact .cons r a
theorem fixed_plc {L0:List D} (t:Str):∀ {xs ys:List D} (s:Nat×Option Nat),Each (Fixed L0) xs ys→ys.foldl (plStep t) s=xs.foldl (plStep t) s
  | _,_,_,.nil=>rfl
  | x::xs,y::ys,s,.cons r rs=>by
    rw [List.foldl_cons,List.foldl_cons,fixed_plc t _ rs]
    congr 1
    unfold plStep
    rw [r.2.1]
    cases h:isL x with
    | true=>rw [r.2.2.1.1 (isL_notJ h)]
    | false=>rfl
end L3
namespace L3
open PySem
noncomputable def b_law_mixed:FS:=
  (sRet (e2 fMod (e2 fPow (e2 fMod (e2 fAdd (e2 fMulR (eVar 0) (eC (.int 48271))) (e2 fMulR (e2 fAdd (eVar 1) (eC (.int 1))) (eC (.int 1299721)))) (eC (.int 2147483647))) (eC (.int 5))) (eC (.int 2147483647))))
noncomputable def F_law_mixed:List D→Option (Bool×D):=FR 2 2 b_law_mixed
theorem run_law_mixed:∀ ds r,F_law_mixed ds=some r→ds.length=2∧runF 2 b_law_mixed ds=some r:=FR_ok
theorem go_law_mixed (x0 x1:D):F_law_mixed [x0,x1]=runF 2 b_law_mixed [x0,x1]:=rfl
noncomputable def b_law_row_by:FS:=
  (sSeq (sSet 1 (e2 fMod (eVar 0) (eC (.int 18))))
    (sSeq (sSet 2 (e2 fMod (e2 fDiv (eVar 0) (eC (.int 18))) (eC (.int 8))))
    (sSeq (sSet 3 (e2 fMod (e2 fDiv (eVar 0) (eC (.int 144))) (eC (.int 8))))
    (sSeq (sSet 4 (e2 fDiv (eVar 0) (eC (.int 1152))))
    (sSeq (sIf (tE (e2 fEq (eVar 1) (eC (.int 0))))
      (sRet (eTup (aCons (eC (.str "stop")) aNil)))
      sNext)
    (sSeq (sIf (tE (e2 (fCmp fun i j=>decide (i<j)) (eVar 1) (eC (.int 3))))
      (sRet (eTup (aCons (e2 fIx (eLst (aCons (eC (.str "set")) (aCons (eC (.str "high")) aNil))) (e2 fSub (eVar 1) (eC (.int 1)))) (aCons (eVar 2) (aCons (e2 fIx (eLst (aCons (e2 fMod (eVar 4) (eC (.int 65536))) (aCons (eC (.int 0)) (aCons (eC (.int 65535)) (aCons (e2 fMod (eVar 4) (eC (.int 9))) aNil))))) (e2 fMod (e2 fDiv (eVar 4) (eC (.int 65536))) (eC (.int 4)))) aNil)))))
      sNext)
    (sSeq (sIf (tE (e2 (fCmp fun i j=>decide (i<j)) (eVar 1) (eC (.int 12))))
      (sRet (eTup (aCons (e2 fIx (eLst (aCons (eC (.str "copy")) (aCons (eC (.str "add")) (aCons (eC (.str "addc")) (aCons (eC (.str "sub")) (aCons (eC (.str "subc")) (aCons (eC (.str "and")) (aCons (eC (.str "or")) (aCons (eC (.str "xor")) (aCons (eC (.str "test")) aNil)))))))))) (e2 fSub (eVar 1) (eC (.int 3)))) (aCons (eVar 2) (aCons (eVar 3) aNil)))))
      sNext)
    (sSeq (sIf (tE (e2 (fCmp fun i j=>decide (i<j)) (eVar 1) (eC (.int 14))))
      (sRet (eTup (aCons (e2 fIx (eLst (aCons (eC (.str "left")) (aCons (eC (.str "right")) aNil))) (e2 fSub (eVar 1) (eC (.int 12)))) (aCons (eVar 2) (aCons (e2 fIx (eLst (aCons (e2 fMod (eVar 4) (eC (.int 32))) (aCons (eC (.int 0)) (aCons (eC (.int 31)) (aCons (eC (.int 1)) aNil))))) (e2 fMod (e2 fDiv (eVar 4) (eC (.int 32))) (eC (.int 4)))) aNil)))))
      sNext)
    (sRet (eTup (aCons (e2 fIx (eLst (aCons (eC (.str "load")) (aCons (eC (.str "store")) (aCons (eC (.str "loadw")) (aCons (eC (.str "storew")) aNil))))) (e2 fSub (eVar 1) (eC (.int 14)))) (aCons (eVar 2) (aCons (eVar 3) (aCons (e2 fIx (eLst (aCons (e2 fMod (eVar 4) (eC (.int 256))) (aCons (eC (.int 0)) (aCons (eC (.int 255)) aNil)))) (e2 fMod (e2 fDiv (eVar 4) (eC (.int 256))) (eC (.int 3)))) aNil))))))))))))))
noncomputable def F_law_row_by:List D→Option (Bool×D):=FR 1 5 b_law_row_by
theorem run_law_row_by:∀ ds r,F_law_row_by ds=some r→ds.length=1∧runF 5 b_law_row_by ds=some r:=FR_ok
theorem go_law_row_by (x0:D):F_law_row_by [x0]=runF 5 b_law_row_by [x0]:=rfl
noncomputable def mixN (c k:Int):Int:=((c*48271+(k+1)*1299721) % 2147483647) ^ 5 % 2147483647
theorem powOk_t {i j:Int} (h0:0≤j) (h1:j<64) (h2:0≤i) (h3:i<2 ^ 64):powOk i j=true:=by
  unfold powOk
  rw [decide_eq_true h0,decide_eq_true (show j≤1000000 by omega),decide_eq_true (show i.natAbs<2 ^ 64 by omega)]
  rfl
theorem mixed_F (c k:Int):F_law_mixed [.int c,.int k]=some (false,.int (mixN c k)):=by
  have h0:=Int.emod_nonneg (c*48271+(k+1)*1299721) (show (2147483647:Int)≠0 by decide)
  have h1:=Int.emod_lt_of_pos (c*48271+(k+1)*1299721) (show (0:Int)<2147483647 by decide)
  have hp:=powOk_t (i:=(c*48271+(k+1)*1299721) % 2147483647) (j:=5) (by decide) (by decide) h0 (by omega)
  have l1:lt64 48271=true∧lt64 1299721=true:=⟨by decide,by decide⟩
  rw [go_law_mixed]
  unfold b_law_mixed
  simp! [add_int,l1,hp]
  rfl
theorem row_F (c:Int):∃ r,F_law_row_by [.int c]=some (false,r)∧PlainRow r:=by
  have d0:0≤c / 18 % 8:=by omega
  have d1:c / 18 % 8<8:=by omega
  have s0:0≤c / 144 % 8:=by omega
  have s1:c / 144 % 8<8:=by omega
  by_cases h0:c % 18=0
  · refine ⟨_,?_,.stop⟩
    rw [go_law_row_by]
    unfold b_law_row_by
    simp! [h0,int_eq]
  · by_cases h3:c % 18<3
    · obtain ⟨n,hn,e⟩:=pick4 (a:=c / 1152 % 65536) (b:=0) (c:=65535) (d:=c / 1152 % 9) (i:=c / 1152 / 65536 % 4) (by omega) (by omega)
      obtain ⟨w,hw,ew⟩:∃ w:Str,(w = "set" ∨ w = "high")∧fIx (.lst [.str "set",.str "high"]) (.int (c % 18 - 1))=some (.str w):=by
        rcases (show c % 18=1∨c % 18=2 by omega) with h | h<;>rw [h]
        · exact ⟨"set",.inl rfl,rfl⟩
        · exact ⟨"high",.inr rfl,rfl⟩
      refine ⟨_,?_,.imm hw d0 d1 (show 0≤n by omega) (by omega)⟩
      rw [go_law_row_by]
      unfold b_law_row_by
      simp! [int_ne h0,decide_eq_true h3,ew,e]
    · by_cases h12:c % 18<12
      · obtain ⟨w,hw,ew⟩:∃ w:Str,(w = "copy" ∨ w = "add" ∨ w = "addc" ∨ w = "sub" ∨ w = "subc" ∨ w = "and" ∨ w = "or" ∨ w = "xor" ∨ w = "test")∧fIx (.lst [.str "copy",.str "add",.str "addc",.str "sub",.str "subc",.str "and",.str "or",.str "xor",.str "test"]) (.int (c % 18 - 3))=some (.str w):=by
          rcases (show c % 18=3∨c % 18=4∨c % 18=5∨c % 18=6∨c % 18=7∨c % 18=8∨c % 18=9∨c % 18=10∨c % 18=11 by omega) with h | h | h | h | h | h | h | h | h<;>rw [h]
          · exact ⟨"copy",by simp,rfl⟩
          · exact ⟨"add",by simp,rfl⟩
          · exact ⟨"addc",by simp,rfl⟩
          · exact ⟨"sub",by simp,rfl⟩
          · exact ⟨"subc",by simp,rfl⟩
          · exact ⟨"and",by simp,rfl⟩
          · exact ⟨"or",by simp,rfl⟩
          · exact ⟨"xor",by simp,rfl⟩
          · exact ⟨"test",by simp,rfl⟩
        refine ⟨_,?_,.two hw d0 d1 s0 s1⟩
        rw [go_law_row_by]
        unfold b_law_row_by
        simp! [int_ne h0,decide_eq_false h3,decide_eq_true h12,ew]
      · by_cases h14:c % 18<14
        · obtain ⟨n,hn,e⟩:=pick4 (a:=c / 1152 % 32) (b:=0) (c:=31) (d:=1) (i:=c / 1152 / 32 % 4) (by omega) (by omega)
          obtain ⟨w,hw,ew⟩:∃ w:Str,(w = "left" ∨ w = "right")∧fIx (.lst [.str "left",.str "right"]) (.int (c % 18 - 12))=some (.str w):=by
            rcases (show c % 18=12∨c % 18=13 by omega) with h | h<;>rw [h]
            · exact ⟨"left",.inl rfl,rfl⟩
            · exact ⟨"right",.inr rfl,rfl⟩
          refine ⟨_,?_,.mov hw d0 d1 (show 0≤n by omega) (by omega)⟩
          rw [go_law_row_by]
          unfold b_law_row_by
          simp! [int_ne h0,decide_eq_false h3,decide_eq_false h12,decide_eq_true h14,ew,e]
        · obtain ⟨n,hn,e⟩:=pick3 (a:=c / 1152 % 256) (b:=0) (c:=255) (i:=c / 1152 / 256 % 3) (by omega) (by omega)
          obtain ⟨w,hw,ew⟩:∃ w:Str,(w = "load" ∨ w = "store" ∨ w = "loadw" ∨ w = "storew")∧fIx (.lst [.str "load",.str "store",.str "loadw",.str "storew"]) (.int (c % 18 - 14))=some (.str w):=by
            rcases (show c % 18=14∨c % 18=15∨c % 18=16∨c % 18=17 by omega) with h | h | h | h<;>rw [h]
            · exact ⟨"load",by simp,rfl⟩
            · exact ⟨"store",by simp,rfl⟩
            · exact ⟨"loadw",by simp,rfl⟩
            · exact ⟨"storew",by simp,rfl⟩
          refine ⟨_,?_,.mem hw d0 d1 s0 s1 (show 0≤n by omega) (by omega)⟩
          rw [go_law_row_by]
          unfold b_law_row_by
          simp! [int_ne h0,decide_eq_false h3,decide_eq_false h12,decide_eq_false h14,ew,e]
end L3
namespace L3
open PySem
noncomputable def r_law_name_by_1:FA:=(iRange (eC (.int 0)) (e2 fMod (e2 fDiv (eVar 1) (eC (.int 3))) (eC (.int 7))))
noncomputable def x_law_name_by_1:FE:=(e2 fIx (eVar 2) (e2 fMod (eCall F_law_mixed (aCons (eVar 1) (aCons (eVar 6) aNil))) (eC (.int 26))))
noncomputable def r_law_name_by_2:FA:=(iRange (eC (.int 0)) (e2 fDiv (eVar 0) (eC (.int 26))))
noncomputable def l_law_name_by_1:FS:=(sSet 4 (e2 fAdd (eVar 4) (eC (.str "q"))))
noncomputable def b_law_name_by:FS:=
  (sSeq (sSet 2 (eC (.str "abcdefghijklmnopqrstuvwxyz")))
    (sSeq (sSet 3 (e2 fJoin (eC (.str "")) (eLc 1 r_law_name_by_1 (gVar 6) tTrue x_law_name_by_1)))
    (sSeq (sIf (tE (e2 fEq (e2 fMod (eVar 1) (eC (.int 3))) (eC (.int 0))))
      (sSeq (sSet 4 (e2 fIx (eVar 2) (e2 fMod (eVar 0) (eC (.int 26)))))
        (sSeq (sFor r_law_name_by_2 (gVar 5)
          l_law_name_by_1)
        (sRet (eVar 4))))
      sNext)
    (sSeq (sIf (tE (e2 fEq (e2 fMod (eVar 1) (eC (.int 3))) (eC (.int 1))))
      (sRet (e2 fAdd (e2 fAdd (e2 fIx (eVar 2) (e2 fMod (eVar 0) (eC (.int 26)))) (e2 fIx (eVar 2) (e2 fDiv (eVar 0) (eC (.int 26))))) (eSl (eVar 3) oNone (oSome (eC (.int 6))))))
      sNext)
    (sRet (e2 fAdd (e2 fAdd (eSl (eVar 3) oNone (oSome (eC (.int 6)))) (e2 fIx (eVar 2) (e2 fDiv (eVar 0) (eC (.int 26))))) (e2 fIx (eVar 2) (e2 fMod (eVar 0) (eC (.int 26))))))))))
noncomputable def F_law_name_by:List D→Option (Bool×D):=FR 2 6 b_law_name_by
theorem run_law_name_by:∀ ds r,F_law_name_by ds=some r→ds.length=2∧runF 6 b_law_name_by ds=some r:=FR_ok
theorem go_law_name_by (x0 x1:D):F_law_name_by [x0,x1]=runF 6 b_law_name_by [x0,x1]:=rfl
noncomputable def r_law_jumps_in_1:FA:=(iRange (eC (.int 0)) (eL fLen (aCons (eVar 0) aNil)))
noncomputable def x_law_jumps_in_1:FE:=(eVar 1)
noncomputable def y_law_jumps_in_1:FT:=(tE (e2 fIn (e2 fIx (e2 fIx (eVar 0) (eVar 1)) (eC (.int 0))) (eTup (aCons (eC (.str "jump")) (aCons (eC (.str "when")) (aCons (eC (.str "unless")) aNil))))))
noncomputable def b_law_jumps_in:FS:=
  (sRetO (eLc 1 r_law_jumps_in_1 (gVar 1) y_law_jumps_in_1 x_law_jumps_in_1))
noncomputable def F_law_jumps_in:List D→Option (Bool×D):=FR 1 1 b_law_jumps_in
theorem run_law_jumps_in:∀ ds r,F_law_jumps_in ds=some r→ds.length=1∧runF 1 b_law_jumps_in ds=some r:=FR_ok
theorem go_law_jumps_in (x0:D):F_law_jumps_in [x0]=runF 1 b_law_jumps_in [x0]:=rfl
noncomputable def x_law_items_by_1:FE:=(e2 fIx (e2 fIx (eVar 0) (eVar 10)) (e1 fNeg (eC (.int 1))))
noncomputable def r_law_items_by_1:FA:=(iRange (eC (.int 0)) (e2 fAdd (eL fLen (aCons (eVar 0) aNil)) (eC (.int 1))))
noncomputable def l_law_items_by_1:FS:=(sSeq (sSet 8 (e2 fMod (eCall F_law_mixed (aCons (eVar 1) (aCons (eVar 7) aNil))) (eC (.int 12))))
        (sSeq (sIf (tOrF (tE (e2 fIn (eVar 7) (eVar 3))) (tE (e2 fEq (eVar 8) (eC (.int 0)))))
          (sSeq (sPut 4 (eVar 7) (eCall F_law_name_by (aCons (eVar 6) (aCons (eVar 2) aNil))))
            (sSeq (sMut1 5 fApp (eTup (aCons (eC (.str "label")) (aCons (e2 fIx (eAny 4) (eVar 7)) aNil))))
            (sSet 6 (e2 (fBit fun i j=>i+j) (eVar 6) (eC (.int 1))))))
          sNext)
        (sSeq (sIf (tE (e2 fEq (eVar 8) (eC (.int 1))))
          (sSeq (sMut1 5 fApp (eTup (aCons (eC (.str "label")) (aCons (eCall F_law_name_by (aCons (eVar 6) (aCons (eVar 2) aNil))) aNil))))
            (sSet 6 (e2 (fBit fun i j=>i+j) (eVar 6) (eC (.int 1)))))
          sNext)
        (sIf (tE (e2 (fCmp fun i j=>decide (i<j)) (eVar 7) (eL fLen (aCons (eVar 0) aNil))))
          (sMut1 5 fApp (e2 fIx (eVar 0) (eVar 7)))
          sNext))))
noncomputable def x_law_items_by_2:FE:=(eIf (tE (e2 fIn (e2 fIx (eVar 10) (eC (.int 0))) (eVar 9))) (e2 fAdd (eSl (eVar 10) oNone (oSome (e1 fNeg (eC (.int 1))))) (eTup (aCons (e2 fIx (eVar 4) (e2 fIx (eVar 10) (e1 fNeg (eC (.int 1))))) aNil))) (eVar 10))
noncomputable def b_law_items_by:FS:=
  (sSeq (sSet 2 (e2 fMod (e2 fDiv (eVar 1) (eC (.int 4))) (eC (.int 999))))
    (sSeq (sSet 3 (eLc 1 (iSeq (eCall F_law_jumps_in (aCons (eVar 0) aNil))) (gVar 10) tTrue x_law_items_by_1))
    (sSeq (sSetO 4 (eC (.dic [] [])))
    (sSeq (sSetO 5 (eLst aNil))
    (sSeq (sSet 6 (eC (.int 0)))
    (sSeq (sFor r_law_items_by_1 (gVar 7)
      l_law_items_by_1)
    (sSeq (sFreeze 5) (sSeq (sFreeze 4) (sSeq (sSet 9 (eTup (aCons (eC (.str "jump")) (aCons (eC (.str "when")) (aCons (eC (.str "unless")) aNil)))))
    (sRetO (eLc 1 (iSeq (eVar 5)) (gVar 10) tTrue x_law_items_by_2)))))))))))
noncomputable def F_law_items_by:List D→Option (Bool×D):=FR 2 10 b_law_items_by
theorem run_law_items_by:∀ ds r,F_law_items_by ds=some r→ds.length=2∧runF 10 b_law_items_by ds=some r:=FR_ok
theorem go_law_items_by (x0 x1:D):F_law_items_by [x0,x1]=runF 10 b_law_items_by [x0,x1]:=rfl
theorem letters_ts:∀ (sh:Int) (n:Nat),(upTo n).map (fun d=>match d with | .int j=>D.str (lt (mixN sh j % 26)) | d=>d)=((List.range n).map fun j:Nat=>lt (mixN sh j % 26)).map D.str:=fun sh n=>by
  rw [List.map_map,List.map_map]
  rfl
theorem sum_lt (f:Nat→Int):∀ l:List Nat,((l.map fun j=>lt (f j)).map (·.length)).sum=l.length
  | []=>rfl
  | a::l=>by
    rw [List.map_cons,List.map_cons,List.sum_cons,sum_lt f l,lt_len,List.length_cons]
    omega
noncomputable def tailS (sh:Int):Str:=Builtin.Str.glued "" ((List.range (sh / 3 % 7).toNat).map fun j:Nat=>lt (mixN sh j % 26))
noncomputable def qsA (x:Str):Nat→Str
  | 0=>x
  | n+1=>qsA x n ++ "q"
noncomputable def nameOf (sh k:Int):Str:=if sh % 3=0 then qsA (lt (k % 26)) (k / 26).toNat else if sh % 3=1 then lt (k % 26)++lt (k / 26)++L2.cutS (tailS sh) none (some 6) else L2.cutS (tailS sh) none (some 6)++lt (k / 26)++lt (k % 26)
theorem tail_F {k sh:Int} {x3 x4 x5:Option Sl}:∃ ds xs:List D,(tailS sh).length≤7∧r_law_name_by_1 [some (false,.int k),some (false,.int sh),some (false,.str "abcdefghijklmnopqrstuvwxyz"),x3,x4,x5]=some ds∧lcGo (gVar 6) tTrue x_law_name_by_1 [some (false,.int k),some (false,.int sh),some (false,.str "abcdefghijklmnopqrstuvwxyz"),x3,x4,x5,none] ds=some xs∧fJoin (.str "") (.lst xs)=some (.str (tailS sh)):=by
  have hr:r_law_name_by_1 [some (false,.int k),some (false,.int sh),some (false,.str "abcdefghijklmnopqrstuvwxyz"),x3,x4,x5]=some (upTo (sh / 3 % 7).toNat):=
    range_of (n:=sh / 3 % 7) rfl (by omega)
  have hl:=lc_map (g:=gVar 6) (e:=x_law_name_by_1) (σ:=[some (false,.int k),some (false,.int sh),some (false,.str "abcdefghijklmnopqrstuvwxyz"),x3,x4,x5]++List.replicate 1 none) (fun d=>match d with | .int j=>D.str (lt (mixN sh j % 26)) | d=>d) (ds:=upTo (sh / 3 % 7).toNat) fun d hd=>by
    obtain ⟨i,hi,rfl⟩:=upTo_mem hd
    have hm:=mixed_F sh (i:Int)
    have hx:=abc_ix (k:=mixN sh i % 26) (by omega) (by omega)
    refine ⟨_,rfl,?_⟩
    unfold x_law_name_by_1
    simp! [hm,hx]
  rw [letters_ts] at hl
  have hs:=sum_lt (fun j:Nat=>mixN sh j % 26) (List.range (sh / 3 % 7).toNat)
  rw [List.length_range] at hs
  have hg:=L2.glued_len "" ((List.range (sh / 3 % 7).toNat).map fun j:Nat=>lt (mixN sh j % 26))
  have e0:("" : Str).length=0:=rfl
  rw [hs,e0,Nat.mul_zero,Nat.add_zero] at hg
  have hj:=join_of (sep := "") (ts:=(List.range (sh / 3 % 7).toNat).map fun j:Nat=>lt (mixN sh j % 26)) (by rw [hs,e0]; omega)
  exact ⟨_,_,Nat.le_trans hg (by omega),hr,hl,hj⟩
theorem qsA_len (x:Str):∀ n,(qsA x n).length=x.length+n
  | 0=>rfl
  | n+1=>by
    show (qsA x n ++ "q").length=_
    rw [len_app,qsA_len x n]
    rfl
theorem name_F {k sh:Int} (k0:0≤k) (k1:k<676) (s0:0≤sh):F_law_name_by [.int k,.int sh]=some (false,.str (nameOf sh k)):=by
  obtain ⟨ds,xs,ht,er,ex,ej⟩:=tail_F (k:=k) (sh:=sh) (x3:=none) (x4:=none) (x5:=none)
  unfold nameOf
  generalize tailS sh=t at ht ej ⊢
  have a1:=abc_ix (k:=k % 26) (by omega) (by omega)
  have a2:=abc_ix (k:=k / 26) (by omega) (by omega)
  have c6:=cut_len t none (some 6)
  have l1:=lt_len (k % 26)
  have l2:=lt_len (k / 26)
  have h2:∀ x y:Str,(x++y).length=x.length+y.length:=len_app
  have sl:eSl (eVar 3) oNone (oSome (eC (.int 6))) [some (false,.int k),some (false,.int sh),some (false,.str "abcdefghijklmnopqrstuvwxyz"),some (false,.str t),none,none]=some (.str (L2.cutS t none (some 6))):=rfl
  rcases (show sh % 3=0∨sh % 3=1∨sh % 3=2 by omega) with h | h | h
  · have hr:r_law_name_by_2 [some (false,.int k),some (false,.int sh),some (false,.str "abcdefghijklmnopqrstuvwxyz"),some (false,.str t),some (false,.str (lt (k % 26))),none]=some (upTo (k / 26).toNat):=range_of (n:=k / 26) rfl (by omega)
    obtain ⟨σ',e2,x,rfl⟩:=loop_by (g:=gVar 5) (b:=l_law_name_by_1) (fun i σ=>∃ x,σ=[some (false,.int k),some (false,.int sh),some (false,.str "abcdefghijklmnopqrstuvwxyz"),some (false,.str t),some (false,.str (qsA (lt (k % 26)) i)),x]) (ds:=upTo (k / 26).toNat)
      (σ:=[some (false,.int k),some (false,.int sh),some (false,.str "abcdefghijklmnopqrstuvwxyz"),some (false,.str t),some (false,.str (lt (k % 26))),none]) 0 ⟨_,rfl⟩ (by
      rintro i v σ hv ⟨x,rfl⟩
      obtain ⟨hi,rfl⟩:=upTo_get hv
      rw [Nat.zero_add]
      have lq:("q" : Str).length=1:=rfl
      have ha:=add_str (a:=qsA (lt (k % 26)) i) (b := "q") (by rw [lq,qsA_len,lt_len]; omega)
      exact ⟨_,_,rfl,.inl (by unfold l_law_name_by_1; simp! [ha]; rfl),_,rfl⟩)
    rw [upTo_len,Nat.zero_add] at e2
    rw [if_pos h,go_law_name_by]
    unfold b_law_name_by
    simp! [er,ex,ej,h,int_eq,a1,hr,e2]
  · rw [if_neg (by omega),if_pos h]
    have h1:=add_str (a:=lt (k % 26)) (b:=lt (k / 26)) (by omega)
    have h3:=add_str (a:=lt (k % 26)++lt (k / 26)) (b:=L2.cutS t none (some 6)) (by rw [h2]; omega)
    have z:fEq (.int 1) (.int 0)=some (.bl false):=rfl
    rw [go_law_name_by]
    unfold b_law_name_by
    simp! [er,ex,ej,h,z,int_eq,a1,a2,h1,sl,h3]
  · rw [if_neg (by omega),if_neg (by omega)]
    have h1:=add_str (a:=L2.cutS t none (some 6)) (b:=lt (k / 26)) (by omega)
    have h3:=add_str (a:=L2.cutS t none (some 6)++lt (k / 26)) (b:=lt (k % 26)) (by rw [h2]; omega)
    have z:fEq (.int 2) (.int 0)=some (.bl false):=rfl
    have z1:fEq (.int 2) (.int 1)=some (.bl false):=rfl
    rw [go_law_name_by]
    unfold b_law_name_by
    simp! [er,ex,ej,h,z,z1,a1,a2,h1,sl,h3]
theorem cps_app (a b:Str):(a++b).cps.toList=a.cps.toList++b.cps.toList:=Array.toList_append
theorem qsA_cps (x:Str):∀ n,(qsA x n).cps.toList=x.cps.toList++List.replicate n 113
  | 0=>by rw [List.replicate_zero,List.append_nil]; rfl
  | n+1=>by
    show (qsA x n ++ "q").cps.toList=_
    rw [cps_app,qsA_cps x n,List.append_assoc,List.replicate_succ']
    rfl
theorem name_inj {sh k k':Int} (a0:0≤k) (b0:0≤k') (h:nameOf sh k=nameOf sh k'):k=k':=by
  unfold nameOf at h
  have lc:∀ x:Int,(lt x).cps.toList=[97+x.toNat]:=fun _=>rfl
  have h1:=congrArg (fun z:Str=>z.cps.toList) h
  by_cases c:sh % 3=0
  · simp only [if_pos c,qsA_cps,lc,List.cons_append,List.nil_append,List.cons.injEq] at h1
    have h2:=congrArg List.length h1.2
    rw [List.length_replicate,List.length_replicate] at h2
    omega
  · by_cases c1:sh % 3=1
    · simp only [if_neg c,if_pos c1,cps_app,lc,List.cons_append,List.nil_append,List.cons.injEq] at h1
      omega
    · simp only [if_neg c,if_neg c1,cps_app,lc,List.append_assoc,List.append_cancel_left_eq,List.cons_append,List.nil_append,List.cons.injEq] at h1
      omega
theorem jumps_F {m:Int} {rows:List D} (hr:∀ r∈rows,RowG m r) (hl:rows.length≤1000):F_law_jumps_in [.lst rows]=some (true,.lst ((jumpIx rows).map fun i:Nat=>D.int i)):=by
  have h1:r_law_jumps_in_1 [some (false,.lst rows)]=some (upTo rows.length):=range_of (n:=(rows.length:Int)) rfl (by omega)
  have h2:=lc_all (g:=gVar 1) (c:=y_law_jumps_in_1) (e:=x_law_jumps_in_1) (σ:=[some (false,.lst rows),none]) (fun d=>match d with | .int i=>isJ (rows.getD i.toNat .non) | _=>false) id (ds:=upTo rows.length) fun d hd=>by
    obtain ⟨i,hi,rfl⟩:=upTo_mem hd
    have ex:fIx (.lst rows) (.int (i:Int))=some rows[i]:=at_nat (by omega) (by rw [Int.toNat_natCast]; exact List.getElem?_eq_getElem hi)
    have eg:rows.getD ((i:Int)).toNat .non=rows[i]:=by rw [Int.toNat_natCast,List.getD_eq_getElem?_getD,List.getElem?_eq_getElem hi]; rfl
    have ej:∃ w,fIx rows[i] (.int 0)=some (.str w)∧fIn (.str w) (.tup [.str "jump",.str "when",.str "unless"])=some (.bl (isJ rows[i])):=by
      rcases hr _ (List.getElem_mem hi) with h | h
      · obtain ⟨w,a,b,_,c,_⟩:=plain_fx h
        exact ⟨w,a,by rw [c]; exact b⟩
      · obtain ⟨w,p,a,b,_,c,_⟩:=jrow_fx h
        exact ⟨w,a,by rw [c]; exact b⟩
    obtain ⟨w,ew,ein⟩:=ej
    refine ⟨_,rfl,?_,fun _=>?_⟩
    · show y_law_jumps_in_1 [some (false,.lst rows),some (false,.int (i:Int))]=some (isJ (rows.getD ((i:Int)).toNat .non))
      rw [eg]
      unfold y_law_jumps_in_1
      simp! [ex,ew,ein]
    · rfl
  have h3:List.map id ((upTo rows.length).filter fun d=>match d with | .int i=>isJ (rows.getD i.toNat .non) | _=>false)=(jumpIx rows).map fun i:Nat=>D.int i:=by
    rw [List.map_id,List.filter_map]
    rfl
  rw [h3] at h2
  rw [go_law_jumps_in]
  unfold b_law_jumps_in
  simp! [h1,h2]
noncomputable def places (rows:List D):List D:=(jumpIx rows).map fun i=>lastD (rows.getD i .non)
noncomputable def inP (rows:List D) (q:Int):Bool:=(places rows).any fun y=>dEq y (.int q)
theorem places_int {m:Int} {rows:List D} (hr:∀ r∈rows,RowG m r) {y:D} (h:y∈places rows):∃ p:Int,y=.int p∧0≤p∧p≤m:=by
  obtain ⟨i,hi,rfl⟩:=List.mem_map.mp h
  obtain ⟨hl,hj⟩:=jumpIx_mem hi
  have eg:rows.getD i .non=rows[i]:=by rw [List.getD_eq_getElem?_getD,List.getElem?_eq_getElem hl]; rfl
  rw [eg] at hj ⊢
  rcases hr _ (List.getElem_mem hl) with h | h
  · obtain ⟨_,_,_,_,c,_⟩:=plain_fx h
    rw [c] at hj
    cases hj
  · obtain ⟨w,p,_,_,_,_,_,_,e,p0,p1⟩:=jrow_fx h
    exact ⟨p,e,p0,p1⟩
theorem in_places {m:Int} {rows:List D} (hr:∀ r∈rows,RowG m r) (q:Int):fIn (.int q) (.lst (places rows))=some (.bl (inP rows q)):=by
  have ha:(places rows).all flatD=true:=List.all_eq_true.mpr fun y hy=>by
    obtain ⟨p,rfl,_⟩:=places_int hr hy
    rfl
  show (fInB (.int q) (.lst (places rows))).bind _=_
  have:fInB (.int q) (.lst (places rows))=some (inP rows q):=by
    show (match flatD (.int q)&&(places rows).all flatD with | true=>_ | false=>_)=_
    rw [ha]
    rfl
  rw [this]
  rfl
theorem inP_of {rows:List D} {i:Nat} {p:Int} (hl:i<rows.length) (hj:isJ rows[i]=true) (he:lastD rows[i]=.int p):inP rows p=true:=by
  refine List.any_eq_true.mpr ⟨.int p,List.mem_map.mpr ⟨i,List.mem_filter.mpr ⟨List.mem_range.mpr hl,?_⟩,?_⟩,?_⟩
  · rw [List.getD_eq_getElem?_getD,List.getElem?_eq_getElem hl]; exact hj
  · rw [List.getD_eq_getElem?_getD,List.getElem?_eq_getElem hl]; exact he
  · unfold dEq; exact beq_self_eq_true p
structure Inv (rows:List D) (sh:Int) (i:Nat) (ks:List (Sum Int Str)) (vs L:List D) (c:Int):Prop where
  hk:ks.length=vs.length
  k1:ks.length≤i
  l1:L.length≤3*i
  c0:0≤c
  c1:c≤2*i
  nm:∀ q:Int,0≤q→q<i→inP rows q=true→∃ k:Int,0≤k∧k<c∧getK ks vs (.inl q)=some (.str (nameOf sh k))∧(plc (nameOf sh k) L).2=some q.toNat
  fl:L.filter (fun d=>!isL d)=rows.take i
  el:∀ d∈L,(∃ t,d=labelD t)∨d∈rows
theorem items_step {m:Int} {rows:List D} (hr:∀ r∈rows,RowG m r) (hl:rows.length≤100) {cell sh:Int} (s0:0≤sh) {i:Nat} (hi:i≤rows.length) {ks:List (Sum Int Str)} {vs L:List D} {c:Int} (I:Inv rows sh i ks vs L c) {x8 x9:Option Sl} :
    ∃ ks' vs' L' c' y8,Inv rows sh (i+1) ks' vs' L' c'∧l_law_items_by_1 [some (false,.lst rows),some (false,.int cell),some (false,.int sh),some (false,.lst (places rows)),some (true,.dic ks vs),some (true,.lst L),some (false,.int c),some (false,.int (i:Int)),x8,x9] =
      some (.nx [some (false,.lst rows),some (false,.int cell),some (false,.int sh),some (false,.lst (places rows)),some (true,.dic ks' vs'),some (true,.lst L'),some (false,.int c'),some (false,.int (i:Int)),y8,x9]):=by
  obtain ⟨hk,k1,l1,c0,c1,nm,fl,el⟩:=I
  have hm:=mixed_F cell (i:Int)
  generalize mixN cell (i:Int)=mx at hm
  have hin:=in_places hr (i:Int)
  have A:∃ (ks':List (Sum Int Str)) (vs' L':List D) (c':Int),(ks'.length=vs'.length∧ks'.length≤i+1∧L'.length≤3*i+1∧0≤c'∧c'≤2*i+1)∧(∀ q:Int,0≤q→q<(i+1:Nat)→inP rows q=true→∃ k:Int,0≤k∧k<c'∧getK ks' vs' (.inl q)=some (.str (nameOf sh k))∧(plc (nameOf sh k) L').2=some q.toNat)∧L'.filter (fun d=>!isL d)=rows.take i∧(∀ d∈L',(∃ t,d=labelD t)∨d∈rows)∧
      sIf (tOrF (tE (e2 fIn (eVar 7) (eVar 3))) (tE (e2 fEq (eVar 8) (eC (.int 0)))))
          (sSeq (sPut 4 (eVar 7) (eCall F_law_name_by (aCons (eVar 6) (aCons (eVar 2) aNil))))
            (sSeq (sMut1 5 fApp (eTup (aCons (eC (.str "label")) (aCons (e2 fIx (eAny 4) (eVar 7)) aNil))))
            (sSet 6 (e2 (fBit fun i j=>i+j) (eVar 6) (eC (.int 1))))))
          sNext [some (false,.lst rows),some (false,.int cell),some (false,.int sh),some (false,.lst (places rows)),some (true,.dic ks vs),some (true,.lst L),some (false,.int c),some (false,.int (i:Int)),some (false,.int (mx % 12)),x9] =
      some (.nx [some (false,.lst rows),some (false,.int cell),some (false,.int sh),some (false,.lst (places rows)),some (true,.dic ks' vs'),some (true,.lst L'),some (false,.int c'),some (false,.int (i:Int)),some (false,.int (mx % 12)),x9]):=by
    obtain ⟨k0,e0⟩:∃ k,fEq (.int (mx % 12)) (.int 0)=some (.bl k):=⟨_,rfl⟩
    by_cases h:inP rows (i:Int)=false∧k0=false
    · refine ⟨ks,vs,L,c,⟨hk,by omega,by omega,c0,by omega⟩,?_,fl,el,?_⟩
      · intro q q0 q1 hq
        by_cases e:q=(i:Int)
        · subst e; rw [h.1] at hq; cases hq
        · exact nm q q0 (by omega) hq
      · rw [h.1] at hin
        rw [h.2] at e0
        simp! [hin,e0]
    · have et:=name_F (k:=c) (sh:=sh) c0 (by omega) s0
      obtain ⟨t,ht⟩:∃ t,t=nameOf sh c:=⟨_,rfl⟩
      rw [← ht] at et
      have hc:tOrF (tE (e2 fIn (eVar 7) (eVar 3))) (tE (e2 fEq (eVar 8) (eC (.int 0)))) [some (false,.lst rows),some (false,.int cell),some (false,.int sh),some (false,.lst (places rows)),some (true,.dic ks vs),some (true,.lst L),some (false,.int c),some (false,.int (i:Int)),some (false,.int (mx % 12)),x9]=some true:=by
        cases hb:inP rows (i:Int) with
        | true=>rw [hb] at hin; simp! [hin]
        | false=>
          have:k0=true:=by cases k0 with | true=>rfl | false=>exact absurd ⟨hb,rfl⟩ h
          rw [hb] at hin
          rw [this] at e0
          simp! [hin,e0]
      have gp:=get_put (k:=.inl (i:Int)) (v:=D.str t) hk
      have g0:fIx (.dic (putKs ks (.inl (i:Int))) (putVs ks vs (.inl (i:Int)) (.str t))) (.int (i:Int))=some (.str t):=by
        show getK _ _ _=_
        rw [gp,if_pos rfl]
      have hlk:(putKs ks (.inl (i:Int))).length≤i+1:=by
        unfold putKs
        split
        · omega
        · rw [List.length_append]; show _+1≤_; omega
      have hap:=app_ok (L:=L) (r:=labelD t) (by omega)
      refine ⟨putKs ks (.inl (i:Int)),putVs ks vs (.inl (i:Int)) (.str t),L++[labelD t],c+1,⟨put_len hk,hlk,by rw [List.length_append]; show _+1≤_; omega,by omega,by omega⟩,?_,?_,?_,?_⟩
      · intro q q0 q1 hq
        rw [gp]
        by_cases e:(i:Int)=q
        · subst e
          refine ⟨c,c0,by omega,by rw [if_pos rfl,ht],?_⟩
          rw [plc_lab,if_pos ht,fl,List.length_take,Int.toNat_natCast,Nat.min_eq_left hi]
        · rw [if_neg (fun h=>e (Sum.inl.inj h))]
          obtain ⟨k,k0,k1,k2,k3⟩:=nm q q0 (by omega) hq
          refine ⟨k,k0,by omega,k2,?_⟩
          rw [plc_lab,if_neg,k3]
          intro z
          have:=name_inj c0 k0 (ht.symm.trans z)
          omega
      · rw [List.filter_append,fl]
        show rows.take i++[]=_
        rw [List.append_nil]
      · intro d hd
        rcases List.mem_append.mp hd with hd | hd
        · exact el d hd
        · cases List.mem_singleton.mp hd; exact .inl ⟨t,rfl⟩
      · rw [if_t hc]
        have kd:keyD (.int (i:Int))=some (.inl (i:Int)):=rfl
        have hlim:ks.length<LIM:=by show _<16777216; omega
        have sp:sPut 4 (eVar 7) (eCall F_law_name_by (aCons (eVar 6) (aCons (eVar 2) aNil))) [some (false,.lst rows),some (false,.int cell),some (false,.int sh),some (false,.lst (places rows)),some (true,.dic ks vs),some (true,.lst L),some (false,.int c),some (false,.int (i:Int)),some (false,.int (mx % 12)),x9] =
            some (.nx [some (false,.lst rows),some (false,.int cell),some (false,.int sh),some (false,.lst (places rows)),some (true,.dic (putKs ks (.inl (i:Int))) (putVs ks vs (.inl (i:Int)) (.str t))),some (true,.lst L),some (false,.int c),some (false,.int (i:Int)),some (false,.int (mx % 12)),x9]):=by
          simp! [sPut,et,kd,if_pos hlim]
        rw [seq_nx sp]
        unfold labelD at hap ⊢
        simp! [g0,hap]
  obtain ⟨ks',vs',L',c',⟨a1,a2,a3,a4,a5⟩,anm,afl,ael,ae⟩:=A
  have B:∃ (L2:List D) (c2:Int),(L2.length≤3*i+2∧0≤c2∧c2≤2*i+2∧c'≤c2∧∀ k:Int,0≤k→k<c'→(plc (nameOf sh k) L2).2=(plc (nameOf sh k) L').2)∧L2.filter (fun d=>!isL d)=rows.take i∧(∀ d∈L2,(∃ t,d=labelD t)∨d∈rows)∧
      sIf (tE (e2 fEq (eVar 8) (eC (.int 1))))
          (sSeq (sMut1 5 fApp (eTup (aCons (eC (.str "label")) (aCons (eCall F_law_name_by (aCons (eVar 6) (aCons (eVar 2) aNil))) aNil))))
            (sSet 6 (e2 (fBit fun i j=>i+j) (eVar 6) (eC (.int 1)))))
          sNext [some (false,.lst rows),some (false,.int cell),some (false,.int sh),some (false,.lst (places rows)),some (true,.dic ks' vs'),some (true,.lst L'),some (false,.int c'),some (false,.int (i:Int)),some (false,.int (mx % 12)),x9] =
      some (.nx [some (false,.lst rows),some (false,.int cell),some (false,.int sh),some (false,.lst (places rows)),some (true,.dic ks' vs'),some (true,.lst L2),some (false,.int c2),some (false,.int (i:Int)),some (false,.int (mx % 12)),x9]):=by
    obtain ⟨k0,e0⟩:∃ k,fEq (.int (mx % 12)) (.int 1)=some (.bl k):=⟨_,rfl⟩
    cases k0 with
    | false=>exact ⟨L',c',⟨by omega,a4,by omega,by omega,fun _ _ _=>rfl⟩,afl,ael,by simp! [e0]⟩
    | true=>
      have et:=name_F (k:=c') (sh:=sh) a4 (by omega) s0
      obtain ⟨t,ht⟩:∃ t,t=nameOf sh c':=⟨_,rfl⟩
      rw [← ht] at et
      have hap:=app_ok (L:=L') (r:=labelD t) (by omega)
      refine ⟨L'++[labelD t],c'+1,⟨by rw [List.length_append]; show _+1≤_; omega,by omega,by omega,by omega,fun k k0 k1=>?_⟩,?_,?_,?_⟩
      · rw [plc_lab,if_neg]
        intro z
        have:=name_inj a4 k0 (ht.symm.trans z)
        omega
      · rw [List.filter_append,afl]
        show rows.take i++[]=_
        rw [List.append_nil]
      · intro d hd
        rcases List.mem_append.mp hd with hd | hd
        · exact ael d hd
        · cases List.mem_singleton.mp hd; exact .inl ⟨t,rfl⟩
      · unfold labelD at hap ⊢
        simp! [e0,et,hap]
  obtain ⟨L2,c2,⟨b1,b2,b3,b4,b5⟩,bfl,bel,be⟩:=B
  have C:∃ L3:List D,L3.length≤3*(i+1)∧(∀ t,(plc t L3).2=(plc t L2).2)∧L3.filter (fun d=>!isL d)=rows.take (i+1)∧(∀ d∈L3,(∃ t,d=labelD t)∨d∈rows)∧
      sIf (tE (e2 (fCmp fun i j=>decide (i<j)) (eVar 7) (eL fLen (aCons (eVar 0) aNil))))
          (sMut1 5 fApp (e2 fIx (eVar 0) (eVar 7)))
          sNext [some (false,.lst rows),some (false,.int cell),some (false,.int sh),some (false,.lst (places rows)),some (true,.dic ks' vs'),some (true,.lst L2),some (false,.int c2),some (false,.int (i:Int)),some (false,.int (mx % 12)),x9] =
      some (.nx [some (false,.lst rows),some (false,.int cell),some (false,.int sh),some (false,.lst (places rows)),some (true,.dic ks' vs'),some (true,.lst L3),some (false,.int c2),some (false,.int (i:Int)),some (false,.int (mx % 12)),x9]):=by
    by_cases h:i<rows.length
    · have hap:=app_ok (L:=L2) (r:=rows[i]) (by omega)
      have ex:fIx (.lst rows) (.int (i:Int))=some rows[i]:=at_nat (by omega) (by rw [Int.toNat_natCast]; exact List.getElem?_eq_getElem h)
      have hd:decide ((i:Int)<(rows.length:Int))=true:=decide_eq_true (by omega)
      refine ⟨L2++[rows[i]],by rw [List.length_append]; show _+1≤_; omega,?_,?_,?_,?_⟩
      · intro t
        obtain ⟨_,_,_,z,_⟩:=rowG_fx (hr _ (List.getElem_mem h))
        exact plc_row z
      · obtain ⟨_,_,_,z,_⟩:=rowG_fx (hr _ (List.getElem_mem h))
        rw [List.filter_append,bfl,List.filter_cons_of_pos (by rw [z]; rfl),List.filter_nil,List.take_succ_eq_append_getElem h]
      · intro d hd
        rcases List.mem_append.mp hd with hd | hd
        · exact bel d hd
        · cases List.mem_singleton.mp hd; exact .inr (List.getElem_mem h)
      · simp! [hd,ex,hap]
    · have hd:decide ((i:Int)<(rows.length:Int))=false:=decide_eq_false (by omega)
      refine ⟨L2,by omega,fun _=>rfl,?_,bel,by simp! [hd]⟩
      rw [bfl,List.take_of_length_le (by omega),List.take_of_length_le (by omega)]
  obtain ⟨L3,d1,dpl,dfl,del,de⟩:=C
  refine ⟨ks',vs',L3,c2,some (false,.int (mx % 12)),⟨a1,a2,by omega,b2,by omega,fun q q0 q1 hq=>?_,dfl,del⟩,?_⟩
  · obtain ⟨k,k0,k1,k2,k3⟩:=anm q q0 q1 hq
    exact ⟨k,k0,by omega,k2,by rw [dpl,b5 k k0 k1,k3]⟩
  unfold l_law_items_by_1
  rw [seq_nx (σ':=[some (false,.lst rows),some (false,.int cell),some (false,.int sh),some (false,.lst (places rows)),some (true,.dic ks vs),some (true,.lst L),some (false,.int c),some (false,.int (i:Int)),some (false,.int (mx % 12)),x9]) (by simp! [hm]),seq_nx ae,seq_nx be]
  exact de
theorem items_G {rows:List D} (hr:∀ r∈rows,RowG (rows.length:Int) r) (hl:rows.length≤100) {cell:Int}:∃ items:List D,F_law_items_by [.lst rows,.int cell]=some (true,.lst items)∧(∀ d∈items,Item d)∧Each (Fixed items) rows (items.filter fun d=>!isL d)∧items.length≤1000:=by
  have hj:=jumps_F hr (by omega)
  have q9:lcGo (gVar 10) tTrue x_law_items_by_1 [some (false,.lst rows),some (false,.int cell),some (false,.int (cell / 4 % 999)),none,none,none,none,none,none,none,none] ((jumpIx rows).map fun i:Nat=>D.int i)=some (places rows):=by
    have:=lc_map (g:=gVar 10) (e:=x_law_items_by_1) (σ:=[some (false,.lst rows),some (false,.int cell),some (false,.int (cell / 4 % 999)),none,none,none,none,none,none,none,none]) (fun d=>match d with | .int i=>lastD (rows.getD i.toNat .non) | d=>d) (ds:=(jumpIx rows).map fun i:Nat=>D.int i) fun d hd=>by
      obtain ⟨i,hi,rfl⟩:=List.mem_map.mp hd
      obtain ⟨h1,h2⟩:=jumpIx_mem hi
      have eg:rows.getD i .non=rows[i]:=by rw [List.getD_eq_getElem?_getD,List.getElem?_eq_getElem h1]; rfl
      have ex:fIx (.lst rows) (.int (i:Int))=some rows[i]:=at_nat (by omega) (by rw [Int.toNat_natCast]; exact List.getElem?_eq_getElem h1)
      rw [eg] at h2
      refine ⟨_,rfl,?_⟩
      show _=some (lastD (rows.getD ((i:Int)).toNat .non))
      rw [Int.toNat_natCast,eg]
      rcases hr _ (List.getElem_mem h1) with h | h
      · obtain ⟨_,_,_,_,c,_⟩:=plain_fx h
        rw [c] at h2
        cases h2
      · obtain ⟨w,p,_,_,_,_,_,q1,q2,_⟩:=jrow_fx h
        rw [q2]
        unfold x_law_items_by_1
        simp! [ex,q1]
    rw [this,List.map_map]
    rfl
  have e2:r_law_items_by_1 [some (false,.lst rows),some (false,.int cell),some (false,.int (cell / 4 % 999)),some (false,.lst (places rows)),some (true,.dic [] []),some (true,.lst []),some (false,.int 0),none,none,none]=some (upTo (rows.length+1)):=by
    have:=range_of (f:=e2 fAdd (eL fLen (aCons (eVar 0) aNil)) (eC (.int 1))) (τ:=[some (false,.lst rows),some (false,.int cell),some (false,.int (cell / 4 % 999)),some (false,.lst (places rows)),some (true,.dic [] []),some (true,.lst []),some (false,.int 0),none,none,none]) (n:=(rows.length:Int)+1) rfl (by omega)
    rw [show ((rows.length:Int)+1).toNat=rows.length+1 by omega] at this
    exact this
  obtain ⟨σ',e3,ks,vs,L,c,x7,x8,I,rfl⟩:=loop_by (g:=gVar 7) (b:=l_law_items_by_1) (fun i σ=>∃ ks vs L c x7 x8,Inv rows (cell / 4 % 999) i ks vs L c∧σ=[some (false,.lst rows),some (false,.int cell),some (false,.int (cell / 4 % 999)),some (false,.lst (places rows)),some (true,.dic ks vs),some (true,.lst L),some (false,.int c),x7,x8,none]) (ds:=upTo (rows.length+1))
    (σ:=[some (false,.lst rows),some (false,.int cell),some (false,.int (cell / 4 % 999)),some (false,.lst (places rows)),some (true,.dic [] []),some (true,.lst []),some (false,.int 0),none,none,none]) 0
    ⟨[],[],[],0,none,none,⟨rfl,Nat.le_refl _,Nat.le_refl _,by decide,by decide,(fun q q0 q1=>by omega),rfl,(fun _ h=>by cases h)⟩,rfl⟩ (by
    rintro i v σ hv ⟨ks,vs,L,c,x7,x8,I,rfl⟩
    obtain ⟨hi,rfl⟩:=upTo_get hv
    rw [Nat.zero_add] at I ⊢
    obtain ⟨ks',vs',L',c',y8,I',e⟩:=items_step (cell:=cell) (sh:=cell / 4 % 999) hr hl (by omega) (by omega) I (x8:=x8) (x9:=none)
    exact ⟨_,_,rfl,.inl e,ks',vs',L',c',_,y8,I',rfl⟩)
  rw [upTo_len,Nat.zero_add] at I
  obtain ⟨hk,k1,l1,c0,c1,nm,fl,el⟩:=I
  obtain ⟨items,e4,ea⟩:=lc_ex (g:=gVar 10) (e:=x_law_items_by_2) (σ:=[some (false,.lst rows),some (false,.int cell),some (false,.int (cell / 4 % 999)),some (false,.lst (places rows)),some (false,.dic ks vs),some (false,.lst L),some (false,.int c),x7,x8,some (false,.tup [.str "jump",.str "when",.str "unless"]),none]) (Fixed L) (ds:=L) fun d hd=>by
    have pr:∀ d,PlainRow d→∃ σ1 x,gVar 10 d [some (false,.lst rows),some (false,.int cell),some (false,.int (cell / 4 % 999)),some (false,.lst (places rows)),some (false,.dic ks vs),some (false,.lst L),some (false,.int c),x7,x8,some (false,.tup [.str "jump",.str "when",.str "unless"]),none]=some σ1∧x_law_items_by_2 σ1=some x∧Fixed L d x:=fun d h=>by
      obtain ⟨w,a,b,_,jf,_⟩:=plain_fx h
      unfold jumpT at b
      refine ⟨_,d,rfl,?_,.plain h,rfl,⟨fun _=>rfl,fun z=>by rw [jf] at z; cases z⟩,rfl,fun z=>by rw [jf] at z; cases z⟩
      unfold x_law_items_by_2
      simp! [a,b]
    rcases el d hd with ⟨t,rfl⟩ | hd
    · have a:fIx (labelD t) (.int 0)=some (.str "label"):=rfl
      have b:fIn (.str "label") (.tup [.str "jump",.str "when",.str "unless"])=some (.bl false):=rfl
      refine ⟨_,labelD t,rfl,?_,.label t,rfl,⟨fun _=>rfl,fun z=>by cases z⟩,rfl,fun z=>by cases z⟩
      unfold x_law_items_by_2
      simp! [a,b]
    · obtain ⟨i,hi,rfl⟩:=List.getElem_of_mem hd
      rcases hr _ (List.getElem_mem hi) with h | h
      · exact pr _ h
      · obtain ⟨w,p,a,b,_,j,_,q1,q2,p0,p1⟩:=jrow_fx h
        obtain ⟨kn,kn0,kn1,et,ep⟩:=nm p p0 (by omega) (inP_of hi j q2)
        generalize nameOf (cell / 4 % 999) kn=t at et ep
        have eg:fIx (.dic ks vs) (.int p)=some (.str t):=et
        have hp:lastD rows[i]=.int ((p.toNat:Nat):Int):=by rw [q2,show ((p.toNat:Nat):Int)=p by omega]
        unfold jumpT at b
        generalize rows[i]=r at h a j q1 q2 hp
        cases h with
        | jump p0 p1=>
          rename_i p'
          cases a
          have sl:eSl (eVar 10) oNone (oSome (e1 fNeg (eC (.int 1)))) [some (false,.lst rows),some (false,.int cell),some (false,.int (cell / 4 % 999)),some (false,.lst (places rows)),some (false,.dic ks vs),some (false,.lst L),some (false,.int c),x7,x8,some (false,.tup [.str "jump",.str "when",.str "unless"]),some (false,.tup [.str "jump",.int p'])]=some (.tup [.str "jump"]):=rfl
          have ad:fAdd (.tup [.str "jump"]) (.tup [.str t])=some (.tup [.str "jump",.str t]):=rfl
          refine ⟨_,_,rfl,?_,.jump t,rfl,⟨(fun z=>by cases z),fun _=>⟨[.str "jump"],_,t,rfl,rfl⟩⟩,rfl,fun _=>⟨t,p.toNat,rfl,ep,hp⟩⟩
          unfold x_law_items_by_2
          simp! [ix0,b,sl,q1,eg,ad]
        | cond hw hk p0 p1=>
          rename_i w' k' p'
          cases a
          have sl:eSl (eVar 10) oNone (oSome (e1 fNeg (eC (.int 1)))) [some (false,.lst rows),some (false,.int cell),some (false,.int (cell / 4 % 999)),some (false,.lst (places rows)),some (false,.dic ks vs),some (false,.lst L),some (false,.int c),x7,x8,some (false,.tup [.str "jump",.str "when",.str "unless"]),some (false,.tup [.str w,.str k',.int p'])]=some (.tup [.str w,.str k']):=rfl
          have ad:fAdd (.tup [.str w,.str k']) (.tup [.str t])=some (.tup [.str w,.str k',.str t]):=rfl
          refine ⟨_,.tup [.str w,.str k',.str t],rfl,?_,.cond t hw hk,?_,⟨fun z=>?_,fun _=>⟨[.str w,.str k'],_,t,rfl,rfl⟩⟩,?_,fun _=>⟨t,p.toNat,rfl,ep,hp⟩⟩
          · unfold x_law_items_by_2
            simp! [ix0,b,sl,q1,eg,ad]
          · rcases hw with rfl | rfl<;>rfl
          · rcases hw with rfl | rfl<;>cases z
          · rcases hw with rfl | rfl<;>rfl
  have f1:=fixed_fl ea
  have f3:=each_len ea
  have f4:∀ t,plc t items=plc t L:=fun t=>fixed_plc t _ ea
  rw [fl,List.take_of_length_le (by omega)] at f1
  refine ⟨items,?_,fun d hd=>?_,each_imp (fun x y h=>⟨h.1,h.2.1,h.2.2.1,h.2.2.2.1,fun z=>?_⟩) f1,by omega⟩
  rotate_left
  · obtain ⟨x,_,h⟩:=each_mem ea d hd
    exact h.1
  · obtain ⟨t,p,a,b,c⟩:=h.2.2.2.2 z
    exact ⟨t,p,a,by rw [f4]; exact b,c⟩
  rw [go_law_items_by]
  unfold b_law_items_by
  simp! [hj,q9,e2,e3,e4]
end L3
namespace L3
open PySem
noncomputable def b_law_place_by:FS:=
  (sSeq (sSet 3 (e2 fMod (eVar 2) (eC (.int 8))))
    (sSeq (sSet 4 (e2 fAdd (eVar 0) (e2 fIx (eLst (aCons (eC (.int 14)) (aCons (eC (.int 15)) (aCons (eC (.int 16)) (aCons (eC (.int 13)) (aCons (e1 fNeg (eC (.int 15))) (aCons (e1 fNeg (eC (.int 16))) (aCons (e1 fNeg (eC (.int 17))) (aCons (e1 fNeg (eC (.int 14))) aNil))))))))) (e2 fMod (e2 fDiv (eVar 2) (eC (.int 8))) (eC (.int 8))))))
    (sSeq (sIf (tAndF (tE (e2 (fCmp fun i j=>decide (i<j)) (eVar 3) (eC (.int 4)))) (tE (eChain (fCmp fun i j=>decide (i≤j)) (fCmp fun i j=>decide (i≤j)) (eC (.int 0)) (eVar 4) (eVar 1))))
      (sRet (eVar 4))
      sNext)
    (sSeq (sIf (tE (e2 (fCmp fun i j=>decide (i<j)) (eVar 3) (eC (.int 6))))
      (sRet (e2 fMod (e2 fDiv (eVar 2) (eC (.int 64))) (e2 fAdd (eVar 1) (eC (.int 1)))))
      sNext)
    (sRet (eL fMax (aCons (eC (.int 0)) (aCons (eL fMin (aCons (eVar 1) (aCons (e2 fSub (e2 fAdd (eVar 0) (e2 fMod (e2 fDiv (eVar 2) (eC (.int 64))) (eC (.int 7)))) (eC (.int 3))) aNil))) aNil))))))))
noncomputable def F_law_place_by:List D→Option (Bool×D):=FR 3 5 b_law_place_by
theorem run_law_place_by:∀ ds r,F_law_place_by ds=some r→ds.length=3∧runF 5 b_law_place_by ds=some r:=FR_ok
theorem go_law_place_by (x0 x1 x2:D):F_law_place_by [x0,x1,x2]=runF 5 b_law_place_by [x0,x1,x2]:=rfl
noncomputable def r_law_rows_by_1:FA:=(iRange (eC (.int 0)) (eVar 1))
noncomputable def l_law_rows_by_1:FS:=(sSeq (sSet 5 (eCall F_law_cell_at (aCons (eVar 0) (aCons (e2 fAdd (eC (.int 3)) (eVar 4)) aNil))))
        (sSeq (sIf (tE (e2 (fCmp fun i j=>decide (i<j)) (eL fLen (aCons (eVar 0) aNil)) (e2 fAdd (eC (.int 4)) (eVar 4))))
          (sSet 5 (eCall F_law_mixed (aCons (eCall F_law_cell_at (aCons (eVar 0) (aCons (eC (.int 2)) aNil))) (aCons (eVar 4) aNil))))
          sNext)
        (sIf (tE (e2 (fCmp fun i j=>decide (i<j)) (e2 fMod (eCall F_law_mixed (aCons (eVar 5) (aCons (eC (.int 1)) aNil))) (eC (.int 8))) (eVar 2)))
          (sSeq (sSet 6 (eCall F_law_place_by (aCons (eVar 4) (aCons (eVar 1) (aCons (eCall F_law_mixed (aCons (eVar 5) (aCons (eC (.int 2)) aNil))) aNil)))))
            (sSeq (sSet 7 (e2 fIx (eLst (aCons (eC (.str "jump")) (aCons (eC (.str "when")) (aCons (eC (.str "unless")) aNil)))) (e2 fMod (eCall F_law_mixed (aCons (eVar 5) (aCons (eC (.int 3)) aNil))) (eC (.int 3)))))
            (sIf (tE (e2 fEq (eVar 7) (eC (.str "jump"))))
              (sMut1 3 fApp (eTup (aCons (eVar 7) (aCons (eVar 6) aNil))))
              (sMut1 3 fApp (eTup (aCons (eVar 7) (aCons (e2 fIx (eLst (aCons (eC (.str "carry")) (aCons (eC (.str "nought")) (aCons (eC (.str "sign")) aNil)))) (e2 fMod (eCall F_law_mixed (aCons (eVar 5) (aCons (eC (.int 4)) aNil))) (eC (.int 3)))) (aCons (eVar 6) aNil))))))))
          (sMut1 3 fApp (eCall F_law_row_by (aCons (eCall F_law_mixed (aCons (eVar 5) (aCons (eC (.int 5)) aNil))) aNil))))))
noncomputable def b_law_rows_by:FS:=
  (sSeq (sSetO 3 (eLst aNil))
    (sSeq (sFor r_law_rows_by_1 (gVar 4)
      l_law_rows_by_1)
    (sRetV 3)))
noncomputable def F_law_rows_by:List D→Option (Bool×D):=FR 3 8 b_law_rows_by
theorem run_law_rows_by:∀ ds r,F_law_rows_by ds=some r→ds.length=3∧runF 8 b_law_rows_by ds=some r:=FR_ok
theorem go_law_rows_by (x0 x1 x2:D):F_law_rows_by [x0,x1,x2]=runF 8 b_law_rows_by [x0,x1,x2]:=rfl
noncomputable def b_law_many_by:FS:=
  (sSeq (sSet 1 (e2 fMod (eVar 0) (eC (.int 24))))
    (sSeq (sIf (tE (e2 fEq (e2 fMod (e2 fDiv (eVar 0) (eC (.int 24))) (eC (.int 4))) (eC (.int 1))))
      (sSet 1 (e2 fAdd (eC (.int 16)) (e2 fMod (e2 fDiv (eVar 0) (eC (.int 96))) (eC (.int 24)))))
      sNext)
    (sSeq (sIf (tE (e2 fEq (e2 fMod (e2 fDiv (eVar 0) (eC (.int 24))) (eC (.int 8))) (eC (.int 3))))
      (sSet 1 (e2 fAdd (eC (.int 30)) (e2 fMod (e2 fDiv (eVar 0) (eC (.int 192))) (eC (.int 31)))))
      sNext)
    (sRet (eVar 1)))))
noncomputable def F_law_many_by:List D→Option (Bool×D):=FR 1 2 b_law_many_by
theorem run_law_many_by:∀ ds r,F_law_many_by ds=some r→ds.length=1∧runF 2 b_law_many_by ds=some r:=FR_ok
theorem go_law_many_by (x0:D):F_law_many_by [x0]=runF 2 b_law_many_by [x0]:=rfl
noncomputable def b_law_built:FS:=
  (sSeq (sSet 1 (eCall F_law_many_by (aCons (eCall F_law_cell_at (aCons (eVar 0) (aCons (eC (.int 0)) aNil))) aNil)))
    (sSeq (sSet 2 (e2 fIx (eLst (fun _=>some (List.map D.int [4,2,6,8]))) (e2 fMod (eCall F_law_cell_at (aCons (eVar 0) (aCons (eC (.int 1)) aNil))) (eC (.int 4)))))
    (sSeq (sSet 3 (eCall F_law_rows_by (aCons (eVar 0) (aCons (eVar 1) (aCons (eVar 2) aNil)))))
    (sRet (eTup (aCons (eVar 3) (aCons (eCall F_law_items_by (aCons (eVar 3) (aCons (e2 fDiv (eCall F_law_cell_at (aCons (eVar 0) (aCons (eC (.int 1)) aNil))) (eC (.int 4))) aNil))) aNil)))))))
noncomputable def F_law_built:List D→Option (Bool×D):=FR 1 4 b_law_built
theorem run_law_built:∀ ds r,F_law_built ds=some r→ds.length=1∧runF 4 b_law_built ds=some r:=FR_ok
theorem go_law_built (x0:D):F_law_built [x0]=runF 4 b_law_built [x0]:=rfl
theorem place_F {n m c:Int} (n0:0≤n) (m0:0≤m):∃ p:Int,0≤p∧p≤m∧F_law_place_by [.int n,.int m,.int c]=some (false,.int p):=by
  obtain ⟨z,e⟩:∃ z:Int,fIx (.lst [.int 14,.int 15,.int 16,.int 13,.int (-15),.int (-16),.int (-17),.int (-14)]) (.int (c / 8 % 8))=some (.int z):=by
    rcases (show c / 8 % 8=0∨c / 8 % 8=1∨c / 8 % 8=2∨c / 8 % 8=3∨c / 8 % 8=4∨c / 8 % 8=5∨c / 8 % 8=6∨c / 8 % 8=7 by omega) with h | h | h | h | h | h | h | h<;>rw [h]<;>exact ⟨_,rfl⟩
  have hm:decide (0<m+1)=true:=decide_eq_true (by omega)
  have q0:=Int.emod_nonneg (c / 64) (show m+1≠0 by omega)
  have q1:=Int.emod_lt_of_pos (c / 64) (show 0<m+1 by omega)
  have hch:eChain (fCmp fun i j=>decide (i≤j)) (fCmp fun i j=>decide (i≤j)) (eC (.int 0)) (eVar 4) (eVar 1) [some (false,.int n),some (false,.int m),some (false,.int c),some (false,.int (c % 8)),some (false,.int (n+z))]=some (.bl (decide (0≤n+z)&&decide (n+z≤m))):=by
    by_cases g0:0≤n+z
    · simp! [eChain,decide_eq_true g0,Bool.true_and]
    · simp! [eChain,decide_eq_false g0,Bool.false_and]
  have hg:(decide (0≤n+z)&&decide (n+z≤m))=true→0≤n+z∧n+z≤m:=fun h=>by
    rw [Bool.and_eq_true] at h
    exact ⟨of_decide_eq_true h.1,of_decide_eq_true h.2⟩
  generalize (decide (0≤n+z)&&decide (n+z≤m))=bc at hch hg
  cases h4:decide (c % 8<4)<;>cases bc
  · by_cases h6:c % 8<6
    · refine ⟨_,q0,by omega,?_⟩
      rw [go_law_place_by]
      unfold b_law_place_by
      simp! [e,add_int,h4,hch,decide_eq_true h6,hm]
    · refine ⟨if (if n+c / 64 % 7 - 3<m then n+c / 64 % 7 - 3 else m) > 0 then (if n+c / 64 % 7 - 3<m then n+c / 64 % 7 - 3 else m) else 0,?_,?_,?_⟩
      · split<;>omega
      · split
        · split<;>omega
        · omega
      · rw [go_law_place_by]
        unfold b_law_place_by
        simp! [e,add_int,h4,hch,decide_eq_false h6,fMin,fMax]
  · by_cases h6:c % 8<6
    · refine ⟨_,q0,by omega,?_⟩
      rw [go_law_place_by]
      unfold b_law_place_by
      simp! [e,add_int,h4,hch,decide_eq_true h6,hm]
    · refine ⟨if (if n+c / 64 % 7 - 3<m then n+c / 64 % 7 - 3 else m) > 0 then (if n+c / 64 % 7 - 3<m then n+c / 64 % 7 - 3 else m) else 0,?_,?_,?_⟩
      · split<;>omega
      · split
        · split<;>omega
        · omega
      · rw [go_law_place_by]
        unfold b_law_place_by
        simp! [e,add_int,h4,hch,decide_eq_false h6,fMin,fMax]
  · have h6:c % 8<6:=by have:=of_decide_eq_true h4; omega
    refine ⟨_,q0,by omega,?_⟩
    rw [go_law_place_by]
    unfold b_law_place_by
    simp! [e,add_int,h4,hch,decide_eq_true h6,hm]
  · obtain ⟨g0,g1⟩:=hg rfl
    refine ⟨n+z,g0,g1,?_⟩
    rw [go_law_place_by]
    unfold b_law_place_by
    simp! [e,add_int,h4,hch]
theorem rows_step {s:D} {ns:List Int} {m dn i:Int} {L:List D} {x5 x6 x7:Option Sl} (hs:s=.lst (ns.map D.int)) (i0:0≤i) (m0:0≤m) (hl:L.length≤1000) :
    ∃ r,RowG m r∧∃ y5 y6 y7,l_law_rows_by_1 [some (false,s),some (false,.int m),some (false,.int dn),some (true,.lst L),some (false,.int i),x5,x6,x7]=some (.nx [some (false,s),some (false,.int m),some (false,.int dn),some (true,.lst (L++[r])),some (false,.int i),y5,y6,y7]):=by
  have hap:∀ r,fApp (.lst L) r=some (.lst (L++[r])):=fun r=>by
    show (if L.length<LIM then _ else _)=_
    rw [if_pos (by show _<16777216; omega)]
  have hc:=cell_ints ns (k:=3+i) (by omega)
  have hc2:=cell_ints ns (k:=2) (by decide)
  have hln:fLen [s]=some (.int (ns.length:Int)):=by rw [hs]; show some (D.int ((ns.map D.int).length:Nat))=_; rw [List.length_map]
  rw [← hs] at hc hc2
  have go:∀ c:Int,∃ r,RowG m r∧∃ y5 y6 y7,sIf (tE (e2 (fCmp fun i j=>decide (i<j)) (e2 fMod (eCall F_law_mixed (aCons (eVar 5) (aCons (eC (.int 1)) aNil))) (eC (.int 8))) (eVar 2)))
          (sSeq (sSet 6 (eCall F_law_place_by (aCons (eVar 4) (aCons (eVar 1) (aCons (eCall F_law_mixed (aCons (eVar 5) (aCons (eC (.int 2)) aNil))) aNil)))))
            (sSeq (sSet 7 (e2 fIx (eLst (aCons (eC (.str "jump")) (aCons (eC (.str "when")) (aCons (eC (.str "unless")) aNil)))) (e2 fMod (eCall F_law_mixed (aCons (eVar 5) (aCons (eC (.int 3)) aNil))) (eC (.int 3)))))
            (sIf (tE (e2 fEq (eVar 7) (eC (.str "jump"))))
              (sMut1 3 fApp (eTup (aCons (eVar 7) (aCons (eVar 6) aNil))))
              (sMut1 3 fApp (eTup (aCons (eVar 7) (aCons (e2 fIx (eLst (aCons (eC (.str "carry")) (aCons (eC (.str "nought")) (aCons (eC (.str "sign")) aNil)))) (e2 fMod (eCall F_law_mixed (aCons (eVar 5) (aCons (eC (.int 4)) aNil))) (eC (.int 3)))) (aCons (eVar 6) aNil))))))))
          (sMut1 3 fApp (eCall F_law_row_by (aCons (eCall F_law_mixed (aCons (eVar 5) (aCons (eC (.int 5)) aNil))) aNil))) [some (false,s),some (false,.int m),some (false,.int dn),some (true,.lst L),some (false,.int i),some (false,.int c),x6,x7]=some (.nx [some (false,s),some (false,.int m),some (false,.int dn),some (true,.lst (L++[r])),some (false,.int i),y5,y6,y7]):=fun c=>by
    have m1:=mixed_F c 1
    have m2:=mixed_F c 2
    have m3:=mixed_F c 3
    have m4:=mixed_F c 4
    have m5:=mixed_F c 5
    cases hd:decide (mixN c 1 % 8<dn) with
    | false=>
      obtain ⟨r,er,pr⟩:=row_F (mixN c 5)
      refine ⟨r,.inl pr,some (false,.int c),x6,x7,?_⟩
      simp! [m1,hd,m5,er,hap]
    | true=>
      obtain ⟨p,p0,p1,ep⟩:=place_F (c:=mixN c 2) i0 m0
      obtain ⟨w,hw,ew⟩:∃ w:Str,(w = "jump" ∨ w = "when" ∨ w = "unless")∧fIx (.lst [.str "jump",.str "when",.str "unless"]) (.int (mixN c 3 % 3))=some (.str w):=by
        rcases (show mixN c 3 % 3=0∨mixN c 3 % 3=1∨mixN c 3 % 3=2 by omega) with h | h | h<;>rw [h]
        · exact ⟨"jump",by simp,rfl⟩
        · exact ⟨"when",by simp,rfl⟩
        · exact ⟨"unless",by simp,rfl⟩
      obtain ⟨k,hk,ek⟩:∃ w:Str,(w = "carry" ∨ w = "nought" ∨ w = "sign")∧fIx (.lst [.str "carry",.str "nought",.str "sign"]) (.int (mixN c 4 % 3))=some (.str w):=by
        rcases (show mixN c 4 % 3=0∨mixN c 4 % 3=1∨mixN c 4 % 3=2 by omega) with h | h | h<;>rw [h]
        · exact ⟨"carry",by simp,rfl⟩
        · exact ⟨"nought",by simp,rfl⟩
        · exact ⟨"sign",by simp,rfl⟩
      rcases hw with rfl | hw
      · have q:fEq (.str "jump") (.str "jump")=some (.bl true):=by rfl
        refine ⟨_,.inr (.jump p0 p1),some (false,.int c),some (false,.int p),some (false,.str "jump"),?_⟩
        simp! [m1,m2,m3,hd,ep,ew,q,hap]
      · have q:fEq (.str w) (.str "jump")=some (.bl false):=by rcases hw with rfl | rfl<;>rfl
        refine ⟨_,.inr (.cond hw hk p0 p1),some (false,.int c),some (false,.int p),some (false,.str w),?_⟩
        simp! [m1,m2,m3,m4,hd,ep,ew,ek,q,hap]
  cases hd:decide ((ns.length:Int)<4+i) with
  | false=>
    obtain ⟨r,hr,y5,y6,y7,e⟩:=go (cellAt ns (3+i))
    refine ⟨r,hr,y5,y6,y7,?_⟩
    unfold l_law_rows_by_1
    rw [seq_nx (σ':=[some (false,s),some (false,.int m),some (false,.int dn),some (true,.lst L),some (false,.int i),some (false,.int (cellAt ns (3+i))),x6,x7]) (by simp! [add_int,hc])]
    rw [seq_nx (σ':=[some (false,s),some (false,.int m),some (false,.int dn),some (true,.lst L),some (false,.int i),some (false,.int (cellAt ns (3+i))),x6,x7]) (by rw [hs]; simp! [add_int,List.length_map,hd])]
    exact e
  | true=>
    obtain ⟨r,hr,y5,y6,y7,e⟩:=go (mixN (cellAt ns 2) i)
    refine ⟨r,hr,y5,y6,y7,?_⟩
    have mm:=mixed_F (cellAt ns 2) i
    unfold l_law_rows_by_1
    rw [seq_nx (σ':=[some (false,s),some (false,.int m),some (false,.int dn),some (true,.lst L),some (false,.int i),some (false,.int (cellAt ns (3+i))),x6,x7]) (by simp! [add_int,hc])]
    rw [seq_nx (σ':=[some (false,s),some (false,.int m),some (false,.int dn),some (true,.lst L),some (false,.int i),some (false,.int (mixN (cellAt ns 2) i)),x6,x7]) (by rw [hs] at hc2 ⊢; simp! [add_int,List.length_map,hd,hc2,mm])]
    exact e
theorem rows_F {ns:List Int} {m dn:Int} (m0:0≤m) (m1:m≤100):∃ rows:List D,rows.length=m.toNat∧(∀ r∈rows,RowG m r)∧F_law_rows_by [.lst (ns.map D.int),.int m,.int dn]=some (true,.lst rows):=by
  obtain ⟨s,hs⟩:∃ s:D,s=.lst (ns.map D.int):=⟨_,rfl⟩
  rw [← hs]
  have hr:r_law_rows_by_1 [some (false,s),some (false,.int m),some (false,.int dn),some (true,.lst []),none,none,none,none]=some (upTo m.toNat):=range_of (n:=m) rfl (by omega)
  obtain ⟨σ',e,L,x4,x5,x6,x7,hl,hL,rfl⟩:=loop_by (g:=gVar 4) (b:=l_law_rows_by_1) (fun i σ=>∃ L x4 x5 x6 x7,L.length=i∧(∀ r∈L,RowG m r)∧σ=[some (false,s),some (false,.int m),some (false,.int dn),some (true,.lst L),x4,x5,x6,x7]) (ds:=upTo m.toNat)
    (σ:=[some (false,s),some (false,.int m),some (false,.int dn),some (true,.lst []),none,none,none,none]) 0 ⟨[],none,none,none,none,rfl,(fun _ h=>by cases h),rfl⟩ (by
    rintro i v σ hv ⟨L,x4,x5,x6,x7,hl,hL,rfl⟩
    obtain ⟨hi,rfl⟩:=upTo_get hv
    obtain ⟨r,hr,y5,y6,y7,e⟩:=rows_step (s:=s) (ns:=ns) (m:=m) (dn:=dn) (i:=(i:Int)) (L:=L) (x5:=x5) (x6:=x6) (x7:=x7) hs (by omega) m0 (by omega)
    refine ⟨_,_,rfl,.inl e,L++[r],_,y5,y6,y7,by rw [List.length_append,hl]; rfl,?_,rfl⟩
    intro x hx
    rcases List.mem_append.mp hx with hx | hx
    · exact hL x hx
    · cases List.mem_singleton.mp hx
      exact hr)
  rw [upTo_len,Nat.zero_add] at hl
  refine ⟨L,hl,hL,?_⟩
  rw [go_law_rows_by]
  unfold b_law_rows_by
  simp! [hr,e]
theorem many_F (c:Int):∃ m:Int,0≤m∧m≤60∧F_law_many_by [.int c]=some (false,.int m):=by
  have b1:∀ x:Int,(∃ k,fEq (.int (c / 24 % 4)) (.int 1)=some (.bl k)):=fun _=>⟨_,rfl⟩
  obtain ⟨k1,e1⟩:∃ k,fEq (.int (c / 24 % 4)) (.int 1)=some (.bl k):=⟨_,rfl⟩
  obtain ⟨k2,e2⟩:∃ k,fEq (.int (c / 24 % 8)) (.int 3)=some (.bl k):=⟨_,rfl⟩
  cases k1<;>cases k2
  · refine ⟨c % 24,by omega,by omega,?_⟩
    rw [go_law_many_by]
    unfold b_law_many_by
    simp! [e1,e2,add_int]
  · refine ⟨30+c / 192 % 31,by omega,by omega,?_⟩
    rw [go_law_many_by]
    unfold b_law_many_by
    simp! [e1,e2,add_int]
  · refine ⟨16+c / 96 % 24,by omega,by omega,?_⟩
    rw [go_law_many_by]
    unfold b_law_many_by
    simp! [e1,e2,add_int]
  · refine ⟨30+c / 192 % 31,by omega,by omega,?_⟩
    rw [go_law_many_by]
    unfold b_law_many_by
    simp! [e1,e2,add_int]
theorem built_G (ns:List Int):∃ rows items:List D,rows.length≤60∧(∀ r∈rows,RowG (rows.length:Int) r)∧(∀ d∈items,Item d)∧Each (Fixed items) rows (items.filter fun d=>!isL d)∧items.length≤1000∧F_law_built [.lst (ns.map D.int)]=some (false,.tup [.lst rows,.lst items]):=by
  have hc0:=cell_ints ns (k:=0) (by decide)
  have hc1:=cell_ints ns (k:=1) (by decide)
  obtain ⟨m,m0,m1,em⟩:=many_F (cellAt ns 0)
  obtain ⟨dn,_,ed⟩:=pick4 (a:=4) (b:=2) (c:=6) (d:=8) (i:=cellAt ns 1 % 4) (by omega) (by omega)
  obtain ⟨rows,hl,hr,er⟩:=rows_F (ns:=ns) (m:=m) (dn:=dn) m0 (by omega)
  have hr':∀ r∈rows,RowG (rows.length:Int) r:=by rw [hl,show ((m.toNat:Nat):Int)=m by omega]; exact hr
  obtain ⟨items,ei,h1,h2,h3⟩:=items_G (cell:=cellAt ns 1 / 4) hr' (by omega)
  refine ⟨rows,items,by omega,hr',h1,h2,h3,?_⟩
  generalize D.lst (ns.map D.int)=s at hc0 hc1 er ⊢
  rw [go_law_built]
  unfold b_law_built
  simp! [hc0,em,hc1,ed,er,ei]
end L3
namespace L3
open PySem
end L3
namespace L3
open PySem
noncomputable def addr (f:Nat→Bool):Nat→Int
  | 0=>0
  | n+1=>addr f n+(if f n then 2 else 1)
noncomputable def addrs (f:Nat→Bool) (n:Nat):List D:=(List.range n).map fun i=>D.int (addr f i)
theorem addrs_succ (f:Nat→Bool) (n:Nat):addrs f (n+1)=addrs f n++[.int (addr f n)]:=by
  unfold addrs
  rw [List.range_succ,List.map_append]
  rfl
theorem addrs_len (f:Nat→Bool) (n:Nat):(addrs f n).length=n:=by simp [addrs]
noncomputable def farD (far:List Nat):List D:=far.map fun i:Nat=>D.int i
noncomputable def isFar (far:List Nat) (n:Nat):Bool:=(farD far).any fun y=>dEq y (.int (n:Int))
end L3
namespace L3
open PySem
end L3
namespace L3
open PySem
noncomputable def tgt (r:D):D:=match isJ r with
  | true=>lastD r
  | false=>.non
theorem tgt_is {m:Int} {r:D} (h:RowG m r):(isJ r=false∧tgt r=.non)∨(isJ r=true∧∃ p:Nat,(p:Int)≤m∧tgt r=.int (p:Int)∧lastD r=.int (p:Int)∧fIx r (.int (-1))=some (.int (p:Int))):=by
  rcases h with h | h
  · obtain ⟨_,_,_,_,c,_⟩:=plain_fx h
    refine .inl ⟨c,?_⟩
    unfold tgt
    rw [c]
  · obtain ⟨w,p,_,_,_,c,_,q1,q2,p0,p1⟩:=jrow_fx h
    have hp:((p.toNat:Nat):Int)=p:=by omega
    refine .inr ⟨c,p.toNat,by omega,?_,by rw [hp,q2],by rw [hp,q1]⟩
    unfold tgt
    rw [c,hp]
    exact q2
noncomputable def dv (f:Nat→Bool) (d:D):D:=match d with
  | .tup [.int i,.int p]=>.int (addr f p.toNat - addr f i.toNat)
  | _=>.non
theorem addrs_at {f:Nat→Bool} {n p:Nat} (h:p<n):fIx (.lst (addrs f n)) (.int (p:Int))=some (.int (addr f p)):=by
  refine at_nat (by omega) ?_
  rw [Int.toNat_natCast]
  unfold addrs
  rw [List.getElem?_map,List.getElem?_range h]
  rfl
noncomputable def nearB:D→Bool
  | .non=>true
  | .int x=>decide (-16≤x)&&decide (x≤15)
  | _=>false
noncomputable def away (rows:List D) (far:List Nat) (i:Nat):Bool:=!nearB (dv (isFar far) (.tup [.int (i:Int),tgt (rows.getD i .non)]))
noncomputable def gF (rows:List D) (far:List Nat):List Nat:=((List.range rows.length).filter fun i=>!isFar far i).filter (away rows far)
noncomputable def sortN (l:List Nat):List Nat:=(L2.isort (l.map fun i:Nat=>(i:Int))).map Int.toNat
theorem sortN_D (l:List Nat):farD (sortN l)=(L2.isort (l.map fun i:Nat=>(i:Int))).map D.int:=by
  unfold farD sortN
  rw [List.map_map]
  refine List.map_congr_left fun x hx=>?_
  obtain ⟨i,_,rfl⟩:=List.mem_map.mp ((L2.isort_perm _).mem_iff.mp hx)
  rfl
theorem sortN_perm (l:List Nat):(sortN l).Perm l:=by
  have h:=(L2.isort_perm (l.map fun i:Nat=>(i:Int))).map Int.toNat
  rw [List.map_map] at h
  have e:l.map (Int.toNat ∘ fun i:Nat=>(i:Int))=l:=by
    rw [show (Int.toNat ∘ fun i:Nat=>(i:Int))=id from funext fun i=>Int.toNat_natCast i,List.map_id]
  rw [e] at h
  exact h
inductive Rounds (g:List Nat→List Nat):List Nat→List Nat→Nat→Prop
  | stop {far:List Nat}:g far=[]→Rounds g far far 0
  | go {far R:List Nat} {k:Nat}:g far≠[]→(far++g far).length<64→Rounds g (sortN (far++g far)) R k→Rounds g far R (k+1)
noncomputable def Good (n:Nat) (l:List Nat):Prop:=l.Nodup∧∀ x∈l,x<n
theorem rounds_end {g:List Nat→List Nat} {n:Nat} (hn:n<64) (hg:∀ far,Good n far→Good n (far++g far)):∀ (m:Nat) (far:List Nat),Good n far→n - far.length≤m→∃ R k,Rounds g far R k∧k≤m∧Good n R
  | m,far,gf,hm=>by
    by_cases e:g far=[]
    · exact ⟨far,0,.stop e,Nat.zero_le _,gf⟩
    · have g2:=hg far gf
      have l2:=below_len n g2.1 g2.2
      have l3:0<(g far).length:=List.length_pos_iff.mpr e
      rw [List.length_append] at l2
      have g3:Good n (sortN (far++g far)):=⟨(sortN_perm _).nodup_iff.mpr g2.1,fun x hx=>g2.2 x ((sortN_perm _).mem_iff.mp hx)⟩
      have l4:(sortN (far++g far)).length=far.length+(g far).length:=by rw [(sortN_perm _).length_eq,List.length_append]
      match m,hm with
      | 0,hm=>omega
      | m+1,hm=>
        obtain ⟨R,k,h,hk,gr⟩:=rounds_end hn hg m (sortN (far++g far)) g3 (by omega)
        exact ⟨R,k+1,.go e (by rw [List.length_append]; omega) h,by omega,gr⟩
theorem sorted_far {l:List Nat} (h:l.length<64):fSorted [.lst (farD l)]=some (.lst (farD (sortN l))):=by
  have e:farD l=(l.map fun i:Nat=>(i:Int)).map D.int:=by
    unfold farD
    rw [List.map_map]
    rfl
  rw [sortN_D,e]
  show (intsOf _).bind _=_
  rw [ints_of]
  show (if (l.map fun i:Nat=>(i:Int)).length<64 then _ else _)=_
  rw [if_pos (by rw [List.length_map]; exact h)]
theorem add_far {a b:List Nat} (h:(a++b).length<64):fAdd (.lst (farD a)) (.lst (farD b))=some (.lst (farD (a++b))):=by
  show (if (farD a).length+(farD b).length≤LIM then _ else _)=_
  rw [List.length_append] at h
  unfold farD
  rw [if_pos (by rw [List.length_map,List.length_map]; show _≤16777216; omega),List.map_append]
theorem far_empty (l:List Nat):(!(farD l).isEmpty)=decide (l≠[]):=by
  cases l<;>rfl
theorem good_g {rows:List D} {far:List Nat} (h:Good rows.length far):Good rows.length (far++gF rows far):=by
  have mem:∀ x∈gF rows far,x<rows.length∧isFar far x=false:=fun x hx=>by
    have h1:=List.mem_filter.mp (List.mem_filter.mp hx).1
    exact ⟨List.mem_range.mp h1.1,by simpa using h1.2⟩
  refine ⟨List.nodup_append.mpr ⟨h.1,(List.nodup_range.filter _).filter _,fun a ha b hb e=>?_⟩,fun x hx=>?_⟩
  · subst e
    have h2:=(mem a hb).2
    have:isFar far a=true:=List.any_eq_true.mpr ⟨.int (a:Int),List.mem_map.mpr ⟨a,ha,rfl⟩,by unfold dEq; exact beq_self_eq_true _⟩
    rw [this] at h2
    cases h2
  · rcases List.mem_append.mp hx with hx | hx
    · exact h.2 x hx
    · exact (mem x hx).1
theorem in_far (far:List Nat) (n:Nat):fInB (.int (n:Int)) (.lst (farD far))=some (isFar far n):=by
  have ha:(farD far).all flatD=true:=List.all_eq_true.mpr fun y hy=>by
    obtain ⟨p,_,rfl⟩:=List.mem_map.mp hy
    rfl
  show (match flatD (.int (n:Int))&&(farD far).all flatD with | true=>_ | false=>_)=_
  rw [ha]
  rfl
noncomputable def awayL (rows:List D) (far:List Nat) (i:Nat):Bool:=!isFar far i&&away rows far i
theorem away_no {rows:List D} {far:List Nat} {i:Nat} (h:isJ (rows.getD i .non)=false):away rows far i=false:=by
  unfold away tgt
  rw [h]
  rfl
theorem gF_jumps (rows:List D) (far:List Nat):gF rows far=(jumpIx rows).filter (awayL rows far):=by
  unfold gF jumpIx
  rw [List.filter_filter,List.filter_filter]
  refine List.filter_congr fun i _=>?_
  unfold awayL
  cases h:isJ (rows.getD i .non) with
  | true=>rw [Bool.and_true,Bool.and_comm]
  | false=>rw [away_no h,Bool.and_false,Bool.false_and]
end L3
namespace L3
open PySem
noncomputable def r_law_stands_1:FA:=(iRange (eC (.int 0)) (eL fLen (aCons (eVar 0) aNil)))
noncomputable def l_law_stands_1:FS:=(sSeq (sMut1 2 fApp (e2 fAdd (e2 fIx (eAny 2) (e1 fNeg (eC (.int 1)))) (eC (.int 1))))
        (sIf (tE (e2 fIn (eVar 3) (eVar 1)))
          (sSetAt 2 (e1 fNeg (eC (.int 1))) (e2 fAdd (e2 fIx (eAny 2) (e1 fNeg (eC (.int 1)))) (eC (.int 1))))
          sNext))
noncomputable def b_law_stands:FS:=
  (sSeq (sSetO 2 (eLst (aCons (eC (.int 0)) aNil)))
    (sSeq (sFor r_law_stands_1 (gVar 3)
      l_law_stands_1)
    (sRetV 2)))
noncomputable def F_law_stands:List D→Option (Bool×D):=FR 2 4 b_law_stands
theorem run_law_stands:∀ ds r,F_law_stands ds=some r→ds.length=2∧runF 4 b_law_stands ds=some r:=FR_ok
theorem go_law_stands (x0 x1:D):F_law_stands [x0,x1]=runF 4 b_law_stands [x0,x1]:=rfl
noncomputable def l_law_near_ones_1:FS:=(sSeq (sSet 5 (e2 fSub (e2 fIx (eVar 2) (e2 fIx (e2 fIx (eVar 0) (eVar 4)) (e1 fNeg (eC (.int 1))))) (e2 fIx (eVar 2) (eVar 4))))
        (sIf (tAndF (tE (e2 fNotIn (eVar 4) (eVar 1))) (tOrF (tE (e2 (fCmp fun i j=>decide (i<j)) (eVar 5) (e1 fNeg (eC (.int 16))))) (tE (e2 (fCmp fun i j=>decide (j<i)) (eVar 5) (eC (.int 15))))))
          (sMut1 3 fApp (eVar 4))
          sNext))
noncomputable def b_law_near_ones:FS:=
  (sSeq (sSet 2 (eCall F_law_stands (aCons (eVar 0) (aCons (eVar 1) aNil))))
    (sSeq (sSetO 3 (eLst aNil))
    (sSeq (sFor (iSeq (eCall F_law_jumps_in (aCons (eVar 0) aNil))) (gVar 4)
      l_law_near_ones_1)
    (sRetV 3))))
noncomputable def F_law_near_ones:List D→Option (Bool×D):=FR 2 6 b_law_near_ones
theorem run_law_near_ones:∀ ds r,F_law_near_ones ds=some r→ds.length=2∧runF 6 b_law_near_ones ds=some r:=FR_ok
theorem go_law_near_ones (x0 x1:D):F_law_near_ones [x0,x1]=runF 6 b_law_near_ones [x0,x1]:=rfl
theorem stands_F {rows:List D} {far:List Nat} (hl:rows.length≤900):F_law_stands [.lst rows,.lst (farD far)]=some (true,.lst (addrs (isFar far) (rows.length+1))):=by
  have e3:r_law_stands_1 [some (false,.lst rows),some (false,.lst (farD far)),some (true,.lst [.int 0]),none]=some (upTo rows.length):=range_of (n:=(rows.length:Int)) rfl (by omega)
  obtain ⟨σ',e4,x3,rfl⟩:=loop_by (g:=gVar 3) (b:=l_law_stands_1) (fun i σ=>∃ x3,σ=[some (false,.lst rows),some (false,.lst (farD far)),some (true,.lst (addrs (isFar far) (i+1))),x3]) (ds:=upTo rows.length)
    (σ:=[some (false,.lst rows),some (false,.lst (farD far)),some (true,.lst [.int 0]),none]) 0 ⟨none,rfl⟩ (by
    rintro i v σ hv ⟨x3,rfl⟩
    obtain ⟨hi,rfl⟩:=upTo_get hv
    rw [Nat.zero_add] at *
    have hap:=app_ok (L:=addrs (isFar far) (i+1)) (r:=.int (addr (isFar far) i+1)) (by rw [addrs_len]; omega)
    have hin:fIn (.int (i:Int)) (.lst (farD far))=some (.bl (isFar far i)):=by
      show (fInB _ _).bind _=_
      rw [in_far]
      rfl
    have i1:fIx (.lst (addrs (isFar far) (i+1))) (.int (-1))=some (.int (addr (isFar far) i)):=by rw [addrs_succ]; exact at_last _ _
    have i2:fIx (.lst (addrs (isFar far) (i+1)++[.int (addr (isFar far) i+1)])) (.int (-1))=some (.int (addr (isFar far) i+1)):=at_last _ _
    refine ⟨_,[some (false,.lst rows),some (false,.lst (farD far)),some (true,.lst (addrs (isFar far) (i+1+1))),some (false,.int (i:Int))],rfl,.inl ?_,_,rfl⟩
    rw [addrs_succ _ (i+1)]
    show _=some (Fl.nx [_,_,some (true,.lst (_++[.int (addr (isFar far) i+(if isFar far i then 2 else 1))])),_])
    unfold l_law_stands_1
    cases hf:isFar far i
    · rw [hf] at hin
      simp! [i1,add_int,hap,hin]
      rfl
    · rw [hf] at hin
      have hs:sSetAt 2 (e1 fNeg (eC (.int 1))) (e2 fAdd (e2 fIx (eAny 2) (e1 fNeg (eC (.int 1)))) (eC (.int 1))) [some (false,.lst rows),some (false,.lst (farD far)),some (true,.lst (addrs (isFar far) (i+1)++[.int (addr (isFar far) i+1)])),some (false,.int (i:Int))] =
          some (.nx [some (false,.lst rows),some (false,.lst (farD far)),some (true,.lst (addrs (isFar far) (i+1)++[.int (addr (isFar far) i+2)])),some (false,.int (i:Int))]):=by
        have hn:L2.ixN (addrs (isFar far) (i+1)++[D.int (addr (isFar far) i+1)]).length (-1)=some (addrs (isFar far) (i+1)).length:=by
          rw [List.length_append,List.length_singleton]
          unfold L2.ixN
          rw [if_neg (by decide),if_pos (by omega)]
          congr 1
          omega
        have ht:(addrs (isFar far) (i+1)++[D.int (addr (isFar far) i+1)]).set (addrs (isFar far) (i+1)).length (.int (addr (isFar far) i+2))=addrs (isFar far) (i+1)++[.int (addr (isFar far) i+2)]:=by
          rw [List.set_append_right _ _ (Nat.le_refl _),Nat.sub_self]
          rfl
        have h2:addr (isFar far) i+1+1=addr (isFar far) i+2:=by omega
        simp! [sSetAt,i2,add_int,hn,h2,ht]
      simp! [i1,add_int,hap,hin,hs]
      rfl)
  rw [upTo_len,Nat.zero_add] at e4
  rw [go_law_stands]
  unfold b_law_stands
  simp! [e3,e4]
theorem near_ones_F {rows:List D} (hr:∀ r∈rows,RowG (rows.length:Int) r) (hn:rows.length≤900) {far:List Nat}:F_law_near_ones [.lst rows,.lst (farD far)]=some (true,.lst (farD (gF rows far))):=by
  have e1:=stands_F (rows:=rows) (far:=far) hn
  have e2:=jumps_F hr (by omega)
  have jl:(jumpIx rows).length≤900:=by
    have:=List.length_filter_le (fun i=>isJ (rows.getD i .non)) (List.range rows.length)
    rw [List.length_range] at this
    exact Nat.le_trans this hn
  obtain ⟨σ',e3,x4,x5,rfl⟩:=loop_by (g:=gVar 4) (b:=l_law_near_ones_1) (fun i σ=>∃ x4 x5,σ=[some (false,.lst rows),some (false,.lst (farD far)),some (false,.lst (addrs (isFar far) (rows.length+1))),some (true,.lst (farD (((jumpIx rows).take i).filter (awayL rows far)))),x4,x5]) (ds:=(jumpIx rows).map fun i:Nat=>D.int i)
    (σ:=[some (false,.lst rows),some (false,.lst (farD far)),some (false,.lst (addrs (isFar far) (rows.length+1))),some (true,.lst []),none,none]) 0 ⟨none,none,rfl⟩ (by
    rintro i v σ hv ⟨x4,x5,rfl⟩
    rw [Nat.zero_add] at *
    rw [List.getElem?_map] at hv
    cases hj:(jumpIx rows)[i]? with
    | none=>rw [hj] at hv; cases hv
    | some j=>
    rw [hj] at hv
    cases hv
    have hi:=(List.getElem?_eq_some_iff.mp hj).1
    have ej:=(List.getElem?_eq_some_iff.mp hj).2
    have ht:(jumpIx rows).take (i+1)=(jumpIx rows).take i++[j]:=by rw [List.take_succ_eq_append_getElem hi,ej]
    obtain ⟨jl1,jj⟩:=jumpIx_mem (List.mem_of_getElem? hj)
    have eg:rows.getD j .non=rows[j]:=by rw [List.getD_eq_getElem?_getD,List.getElem?_eq_getElem jl1]; rfl
    rw [eg] at jj
    have ex:fIx (.lst rows) (.int (j:Int))=some rows[j]:=at_nat (by omega) (by rw [Int.toNat_natCast]; exact List.getElem?_eq_getElem jl1)
    rcases tgt_is (hr _ (List.getElem_mem jl1)) with ⟨z,_⟩ | ⟨_,p,p1,tp,_,lp⟩
    · rw [z] at jj; cases jj
    have ap:=addrs_at (f:=isFar far) (n:=rows.length+1) (p:=p) (by omega)
    have aj:=addrs_at (f:=isFar far) (n:=rows.length+1) (p:=j) (by omega)
    have hni:fNotIn (.int (j:Int)) (.lst (farD far))=some (.bl (!isFar far j)):=by
      show (fInB _ _).bind _=_
      rw [in_far]
      rfl
    have ea:away rows far j=(decide (addr (isFar far) p - addr (isFar far) j < -16)||decide (15<addr (isFar far) p - addr (isFar far) j)):=by
      unfold away
      rw [eg,tp]
      show (!(decide (-16≤addr (isFar far) ((p:Int)).toNat - addr (isFar far) ((j:Int)).toNat)&&decide (addr (isFar far) ((p:Int)).toNat - addr (isFar far) ((j:Int)).toNat≤15)))=_
      rw [Int.toNat_natCast,Int.toNat_natCast,Bool.not_and,← decide_not,← decide_not]
      congr 1
      · exact decide_eq_decide.mpr (by omega)
      · exact decide_eq_decide.mpr (by omega)
    have hap:=app_ok (L:=farD (((jumpIx rows).take i).filter (awayL rows far))) (r:=.int (j:Int)) (by
      unfold farD
      rw [List.length_map]
      have h1:=List.length_filter_le (awayL rows far) ((jumpIx rows).take i)
      rw [List.length_take] at h1
      omega)
    have eL:farD (((jumpIx rows).take (i+1)).filter (awayL rows far))=match awayL rows far j with
      | true=>farD (((jumpIx rows).take i).filter (awayL rows far))++[.int (j:Int)]
      | false=>farD (((jumpIx rows).take i).filter (awayL rows far)):=by
      rw [ht,List.filter_append]
      cases hA:awayL rows far j with
      | true=>
        rw [List.filter_cons_of_pos hA]
        unfold farD
        rw [List.map_append]
        rfl
      | false=>
        rw [List.filter_cons_of_neg (by rw [hA]; decide),List.filter_nil,List.append_nil]
    refine ⟨_,[some (false,.lst rows),some (false,.lst (farD far)),some (false,.lst (addrs (isFar far) (rows.length+1))),some (true,.lst (farD (((jumpIx rows).take (i+1)).filter (awayL rows far)))),some (false,.int (j:Int)),some (false,.int (addr (isFar far) p - addr (isFar far) j))],rfl,.inl ?_,_,_,rfl⟩
    rw [eL]
    unfold awayL at *
    rw [ea]
    generalize farD (List.filter (fun i=>!isFar far i&&away rows far i) ((jumpIx rows).take i))=LL at *
    unfold l_law_near_ones_1
    cases hf:isFar far j with
    | true=>
      rw [hf] at hni
      simp! [ex,lp,ap,aj,hni,Bool.false_and]
    | false=>
      rw [hf] at hni
      cases c1:decide (addr (isFar far) p - addr (isFar far) j < -16) with
      | true=>simp! [ex,lp,ap,aj,hni,c1,hap,Bool.true_and,Bool.true_or]
      | false=>
        cases c2:decide (15<addr (isFar far) p - addr (isFar far) j) with
        | true=>simp! [ex,lp,ap,aj,hni,c1,c2,hap,Bool.true_and,Bool.false_or]
        | false=>simp! [ex,lp,ap,aj,hni,c1,c2,Bool.true_and,Bool.false_or])
  rw [List.length_map,Nat.zero_add,List.take_length,← gF_jumps] at e3
  rw [go_law_near_ones]
  unfold b_law_near_ones
  simp! [e1,e2,e3]
end L3
namespace L3
open PySem
noncomputable def b_with_part:FS:=
  (sSeq (sSet 4 (e2 fShl (e2 fSub (e2 fShl (eC (.int 1)) (eVar 2)) (eC (.int 1))) (eVar 1)))
    (sRet (e2 (fBit Builtin.bitOr) (e2 (fBit Builtin.bitAnd) (eVar 0) (e1 fInv (eVar 4))) (e2 fShl (eVar 3) (eVar 1)))))
theorem pow_lt64 {d:Nat} (h:d<64):1≤(2:Int) ^ d∧(2:Int) ^ d<2 ^ 64:=by
  have h1:(2:Nat) ^ d<2 ^ 64:=Nat.pow_lt_pow_right (by decide) h
  have h2:0<(2:Nat) ^ d:=Nat.pow_pos (by decide)
  have e:((2 ^ d:Nat):Int)=(2:Int) ^ d:=by simp
  have e2:((2 ^ 64:Nat):Int)=(2:Int) ^ 64:=by decide
  omega
noncomputable def F_with_part:List D→Option (Bool×D)
  | [.int x,.int l,.int d,.int n]=>if (0≤x∧0≤l∧l<64∧0≤d∧d<64)∧0≤n∧n<2 ^ d.toNat then some (false,.int (x+(n - x / 2 ^ l.toNat % 2 ^ d.toNat)*2 ^ l.toNat)) else none
  | _=>none
theorem run_with_part:∀ ds r,F_with_part ds=some r→ds.length=4∧runF 5 b_with_part ds=some r:=fun ds r h=>by
  unfold F_with_part at h
  split at h
  · rename_i x l d n
    refine ⟨rfl,?_⟩
    split at h
    · rename_i c
      obtain ⟨⟨x0,l0,l1,d0,d1⟩,n0,n1⟩:=c
      obtain ⟨p0,p1⟩:=pow_lt64 (d:=d.toNat) (by omega)
      cases h
      have e1:=powOk_t (i:=1) (j:=d) d0 d1 (by decide) (by decide)
      have e2:=powOk_t (i:=1*2 ^ d.toNat - 1) (j:=l) l0 l1 (by omega) (by omega)
      have e3:=powOk_t (i:=n) (j:=l) l0 l1 n0 (by omega)
      unfold b_with_part
      simp! [e1,e2,e3,fInv,with_eq x0 n0 n1]
    · cases h
  · cases h
theorem wp_F {x l d n:Int} (h:(0≤x∧0≤l∧l<64∧0≤d∧d<64)∧0≤n∧n<2 ^ d.toNat):F_with_part [.int x,.int l,.int d,.int n]=some (false,.int (x+(n - x / 2 ^ l.toNat % 2 ^ d.toNat)*2 ^ l.toNat)):=if_pos h
noncomputable def b_place_in_word:FS:=
  (sSeq (sIf (tE (e2 fEq (eVar 1) (eC (.str "n"))))
      (sRet (eTup (aCons (eC (.int 0)) (aCons (e1 (fGd gk_NUMBER_WIDTHS gv_NUMBER_WIDTHS) (eVar 0)) aNil))))
      sNext)
    (sRet (e1 (fGd gk_PLACES gv_PLACES) (eVar 1))))
noncomputable def F_place_in_word:List D→Option (Bool×D):=FR 2 2 b_place_in_word
theorem run_place_in_word:∀ ds r,F_place_in_word ds=some r→ds.length=2∧runF 2 b_place_in_word ds=some r:=FR_ok
noncomputable def b_with_number:FS:=
  (sRet (eCall F_with_part (aCons (eVar 0) (aCons (e2 fIx (eVar 1) (eC (.int 0))) (aCons (e2 fIx (eVar 1) (eC (.int 1))) (aCons (eVar 2) aNil))))))
noncomputable def F_with_number:List D→Option (Bool×D):=FR 3 3 b_with_number
theorem run_with_number:∀ ds r,F_with_number ds=some r→ds.length=3∧runF 3 b_with_number ds=some r:=FR_ok
theorem go_with_number (x0 x1 x2:D):F_with_number [x0,x1,x2]=runF 3 b_with_number [x0,x1,x2]:=rfl
theorem wn_F {x l d n:Int} (h:(0≤x∧0≤l∧l<64∧0≤d∧d<64)∧0≤n∧n<2 ^ d.toNat):F_with_number [.int x,.tup [.int l,.int d],.int n]=some (false,.int (x+(n - x / 2 ^ l.toNat % 2 ^ d.toNat)*2 ^ l.toNat)):=by
  have i0:fIx (.tup [.int l,.int d]) (.int 0)=some (.int l):=rfl
  have i1:fIx (.tup [.int l,.int d]) (.int 1)=some (.int d):=rfl
  rw [go_with_number]
  unfold b_with_number
  simp! [i0,i1,wp_F h]
noncomputable def x_fields_in_word_1:FE:=(eVar 1)
noncomputable def y_fields_in_word_1:FT:=(tE (e2 fNe (eVar 1) (eC (.str "name"))))
noncomputable def b_fields_in_word:FS:=
  (sRetO (eLc 1 (iSeq (e1 (fGd gk_FIELDS gv_FIELDS) (eVar 0))) (gVar 1) y_fields_in_word_1 x_fields_in_word_1))
noncomputable def F_fields_in_word:List D→Option (Bool×D):=FR 1 1 b_fields_in_word
theorem run_fields_in_word:∀ ds r,F_fields_in_word ds=some r→ds.length=1∧runF 1 b_fields_in_word ds=some r:=FR_ok
noncomputable def l_first_word_1:FS:=(sSeq (sSet 5 (eIf (tE (e2 fEq (eVar 3) (eC (.str "mark")))) (e1 (fTix gl_MARKS) (eVar 4)) (eVar 4)))
        (sSet 2 (eCall F_with_number (aCons (eVar 2) (aCons (eCall F_place_in_word (aCons (e2 fIx (eVar 0) (eC (.int 0))) (aCons (eVar 3) aNil))) (aCons (eVar 5) aNil))))))
noncomputable def b_first_word:FS:=
  (sSeq (sSet 2 (eCall F_with_number (aCons (eC (.int 0)) (aCons (e1 (fGd gk_PLACES gv_PLACES) (eC (.str "kind"))) (aCons (eVar 1) aNil)))))
    (sSeq (sFor (iZip2 (eCallO F_fields_in_word (aCons (e2 fIx (eVar 0) (eC (.int 0))) aNil)) (eSlT (eVar 0) (oSome (eC (.int 1))) oNone)) (gTwo 3 4)
      l_first_word_1)
    (sRet (eVar 2))))
noncomputable def F_first_word:List D→Option (Bool×D):=FR 2 6 b_first_word
theorem run_first_word:∀ ds r,F_first_word ds=some r→ds.length=2∧runF 6 b_first_word ds=some r:=FR_ok
theorem go_first_word (x0 x1:D):F_first_word [x0,x1]=runF 6 b_first_word [x0,x1]:=rfl
theorem put_kind {c:Int} (h0:0≤c) (h1:c<32):F_with_number [.int 0,.tup [.int 27,.int 5],.int c]=some (false,.int (c*134217728)):=by
  rw [wn_F (x:=0) (l:=27) (d:=5) (n:=c) ⟨by decide,h0,h1⟩]
  simp
theorem put_at {x l d n m:Int} (hl:0≤l∧l<64) (hd:0≤d∧d<64) (x0:0≤x) (n0:0≤n) (n1:n<2 ^ d.toNat) (hz:x / 2 ^ l.toNat % 2 ^ d.toNat=0) (hm:m=2 ^ l.toNat):F_with_number [.int x,.tup [.int l,.int d],.int n]=some (false,.int (x+n*m)):=by
  rw [wn_F ⟨⟨x0,hl.1,hl.2,hd.1,hd.2⟩,n0,n1⟩,hz,hm,Int.sub_zero]
theorem fw0 {c:Int} (c0:0≤c) (c1:c<32) {w:Str} (hf:F_fields_in_word [.str w]=some (true,.lst [])):F_first_word [.tup [.str w],.int c]=some (false,.int (c*134217728)):=by
  have hk:fGd gk_PLACES gv_PLACES (.str "kind")=some (.tup [.int 27,.int 5]):=by rfl
  have q1:=put_kind c0 c1
  have sl:fSlT (.tup [.str w]) (some 1) none=some (.tup []):=by rfl
  rw [go_first_word]
  unfold b_first_word
  simp! [hk,q1,ix0,hf,iZip2,eSlT,oSome,oNone,sl,seqD,List.zipWith_nil_left]
theorem fw2n {w:Str} {c W d n:Int} (hf:F_fields_in_word [.str w]=some (true,.lst [.str "d",.str "n"])) (hd:F_place_in_word [.str w,.str "d"]=some (false,.tup [.int 24,.int 3])) (hn:F_place_in_word [.str w,.str "n"]=some (false,.tup [.int 0,.int W]))
    (c0:0≤c) (c1:c<32) (w0:0≤W) (w1:W≤16) (d0:0≤d) (d1:d<8) (n0:0≤n) (n1:n<2 ^ W.toNat) (hp:(2:Int) ^ W.toNat ∣ 16777216) :
    F_first_word [.tup [.str w,.int d,.int n],.int c]=some (false,.int (c*134217728+d*16777216+n)):=by
  have hk:fGd gk_PLACES gv_PLACES (.str "kind")=some (.tup [.int 27,.int 5]):=by rfl
  have q1:=put_kind c0 c1
  have q2:=put_at (x:=c*134217728) (l:=24) (d:=3) (n:=d) (m:=16777216) (by decide) (by decide) (by omega) d0 d1 (by show c*134217728 / 16777216 % 8=0; omega) (by decide)
  have q3:=put_at (x:=c*134217728+d*16777216) (l:=0) (d:=W) (n:=n) (m:=1) (by decide) ⟨w0,by omega⟩ (by omega) n0 n1 (by
    show (c*134217728+d*16777216) / 1 % 2 ^ W.toNat=0
    rw [Int.ediv_one]
    obtain ⟨k,hk⟩:=hp
    rw [show c*134217728+d*16777216=2 ^ W.toNat*(k*(8*c+d)) by rw [← Int.mul_assoc,← hk]; omega]
    exact Int.mul_emod_right _ _) (by decide)
  have m1:fEq (.str "d") (.str "mark")=some (.bl false):=by rfl
  have m2:fEq (.str "n") (.str "mark")=some (.bl false):=by rfl
  have sl:fSlT (.tup [.str w,.int d,.int n]) (some 1) none=some (.tup [.int d,.int n]):=by rfl
  rw [go_first_word]
  unfold b_first_word
  simp! [hk,q1,ix0,hf,iZip2,eSlT,oSome,oNone,sl,seqD,List.zipWith_cons_cons,List.zipWith_nil_left,l_first_word_1,m1,m2,hd,q2,hn,q3,Int.mul_one]
theorem fw2s {w:Str} {c d s:Int} (hf:F_fields_in_word [.str w]=some (true,.lst [.str "d",.str "s"])) (hd:F_place_in_word [.str w,.str "d"]=some (false,.tup [.int 24,.int 3])) (hs:F_place_in_word [.str w,.str "s"]=some (false,.tup [.int 21,.int 3]))
    (c0:0≤c) (c1:c<32) (d0:0≤d) (d1:d<8) (s0:0≤s) (s1:s<8) :
    F_first_word [.tup [.str w,.int d,.int s],.int c]=some (false,.int (c*134217728+d*16777216+s*2097152)):=by
  have hk:fGd gk_PLACES gv_PLACES (.str "kind")=some (.tup [.int 27,.int 5]):=by rfl
  have q1:=put_kind c0 c1
  have q2:=put_at (x:=c*134217728) (l:=24) (d:=3) (n:=d) (m:=16777216) (by decide) (by decide) (by omega) d0 d1 (by show c*134217728 / 16777216 % 8=0; omega) (by decide)
  have q3:=put_at (x:=c*134217728+d*16777216) (l:=21) (d:=3) (n:=s) (m:=2097152) (by decide) (by decide) (by omega) s0 s1 (by show (c*134217728+d*16777216) / 2097152 % 8=0; omega) (by decide)
  have m1:fEq (.str "d") (.str "mark")=some (.bl false):=by rfl
  have m2:fEq (.str "s") (.str "mark")=some (.bl false):=by rfl
  have sl:fSlT (.tup [.str w,.int d,.int s]) (some 1) none=some (.tup [.int d,.int s]):=by rfl
  rw [go_first_word]
  unfold b_first_word
  simp! [hk,q1,ix0,hf,iZip2,eSlT,oSome,oNone,sl,seqD,List.zipWith_cons_cons,List.zipWith_nil_left,l_first_word_1,m1,m2,hd,q2,hs,q3]
theorem fw3 {w:Str} {c d s n:Int} (hf:F_fields_in_word [.str w]=some (true,.lst [.str "d",.str "s",.str "n"])) (hd:F_place_in_word [.str w,.str "d"]=some (false,.tup [.int 24,.int 3])) (hs:F_place_in_word [.str w,.str "s"]=some (false,.tup [.int 21,.int 3]))
    (hn:F_place_in_word [.str w,.str "n"]=some (false,.tup [.int 0,.int 8])) (c0:0≤c) (c1:c<32) (d0:0≤d) (d1:d<8) (s0:0≤s) (s1:s<8) (n0:0≤n) (n1:n<256) :
    F_first_word [.tup [.str w,.int d,.int s,.int n],.int c]=some (false,.int (c*134217728+d*16777216+s*2097152+n)):=by
  have hk:fGd gk_PLACES gv_PLACES (.str "kind")=some (.tup [.int 27,.int 5]):=by rfl
  have q1:=put_kind c0 c1
  have q2:=put_at (x:=c*134217728) (l:=24) (d:=3) (n:=d) (m:=16777216) (by decide) (by decide) (by omega) d0 d1 (by show c*134217728 / 16777216 % 8=0; omega) (by decide)
  have q3:=put_at (x:=c*134217728+d*16777216) (l:=21) (d:=3) (n:=s) (m:=2097152) (by decide) (by decide) (by omega) s0 s1 (by show (c*134217728+d*16777216) / 2097152 % 8=0; omega) (by decide)
  have q4:=put_at (x:=c*134217728+d*16777216+s*2097152) (l:=0) (d:=8) (n:=n) (m:=1) (by decide) (by decide) (by omega) n0 n1 (by show (c*134217728+d*16777216+s*2097152) / 1 % 256=0; omega) (by decide)
  have m1:fEq (.str "d") (.str "mark")=some (.bl false):=by rfl
  have m2:fEq (.str "s") (.str "mark")=some (.bl false):=by rfl
  have m3:fEq (.str "n") (.str "mark")=some (.bl false):=by rfl
  have sl:fSlT (.tup [.str w,.int d,.int s,.int n]) (some 1) none=some (.tup [.int d,.int s,.int n]):=by rfl
  rw [go_first_word]
  unfold b_first_word
  simp! [hk,q1,ix0,hf,iZip2,eSlT,oSome,oNone,sl,seqD,List.zipWith_cons_cons,List.zipWith_nil_left,l_first_word_1,m1,m2,m3,hd,q2,hs,q3,hn,q4,Int.mul_one]
theorem fwc {c m:Int} {w k:Str} (hf:F_fields_in_word [.str w]=some (true,.lst [.str "mark"])) (hp:F_place_in_word [.str w,.str "mark"]=some (false,.tup [.int 24,.int 2])) (hm:fTix gl_MARKS (.str k)=some (.int m)) (m0:0≤m) (m1:m<3) (c0:0≤c) (c1:c<32):F_first_word [.tup [.str w,.str k],.int c]=some (false,.int (c*134217728+m*16777216)):=by
  have hk:fGd gk_PLACES gv_PLACES (.str "kind")=some (.tup [.int 27,.int 5]):=by rfl
  have q1:=put_kind c0 c1
  have q2:=put_at (x:=c*134217728) (l:=24) (d:=2) (n:=m) (m:=16777216) (by decide) (by decide) (by omega) m0 (by show m<4; omega) (by show c*134217728 / 16777216 % 4=0; omega) (by decide)
  have e1:fEq (.str "mark") (.str "mark")=some (.bl true):=by rfl
  have sl:fSlT (.tup [.str w,.str k]) (some 1) none=some (.tup [.str k]):=by rfl
  rw [go_first_word]
  unfold b_first_word
  simp! [hk,q1,ix0,hf,iZip2,eSlT,oSome,oNone,sl,seqD,List.zipWith_cons_cons,List.zipWith_nil_left,l_first_word_1,e1,hm,hp,q2]
noncomputable def b_law_order:FS:=
  (sSeq (sSet 0 (eLst (aCons (eC (.str "stop")) (aCons (eC (.str "set")) (aCons (eC (.str "high")) (aCons (eC (.str "copy")) (aCons (eC (.str "add")) (aCons (eC (.str "addc")) (aCons (eC (.str "sub")) (aCons (eC (.str "subc")) (aCons (eC (.str "and")) (aCons (eC (.str "or")) (aCons (eC (.str "xor")) (aCons (eC (.str "test")) aNil))))))))))))))
    (sRet (e2 fAdd (eVar 0) (eLst (aCons (eC (.str "left")) (aCons (eC (.str "right")) (aCons (eC (.str "load")) (aCons (eC (.str "store")) (aCons (eC (.str "loadw")) (aCons (eC (.str "storew")) aNil))))))))))
noncomputable def F_law_order:List D→Option (Bool×D):=FR 0 1 b_law_order
theorem run_law_order:∀ ds r,F_law_order ds=some r→ds.length=0∧runF 1 b_law_order ds=some r:=FR_ok
noncomputable def b_law_word:FS:=
  (sSeq (sSet 1 (e2 fMulR (e2 fIndex (eCall F_law_order aNil) (e2 fIx (eVar 0) (eC (.int 0)))) (e2 fPow (eC (.int 2)) (eC (.int 27)))))
    (sSeq (sIf (tE (e2 fEq (e2 fIx (eVar 0) (eC (.int 0))) (eC (.str "stop"))))
      (sRet (eVar 1))
      sNext)
    (sSeq (sSet 1 (e2 fAdd (eVar 1) (e2 fMulR (e2 fIx (eVar 0) (eC (.int 1))) (e2 fPow (eC (.int 2)) (eC (.int 24))))))
    (sSeq (sIf (tE (e2 fIn (e2 fIx (eVar 0) (eC (.int 0))) (eTup (aCons (eC (.str "set")) (aCons (eC (.str "high")) (aCons (eC (.str "left")) (aCons (eC (.str "right")) aNil)))))))
      (sRet (e2 fAdd (eVar 1) (e2 fIx (eVar 0) (eC (.int 2)))))
      sNext)
    (sSeq (sSet 1 (e2 fAdd (eVar 1) (e2 fMulR (e2 fIx (eVar 0) (eC (.int 2))) (e2 fPow (eC (.int 2)) (eC (.int 21))))))
    (sSeq (sIf (tE (e2 fEq (eL fLen (aCons (eVar 0) aNil)) (eC (.int 4))))
      (sSet 1 (e2 fAdd (eVar 1) (e2 fIx (eVar 0) (eC (.int 3)))))
      sNext)
    (sRet (eVar 1))))))))
noncomputable def F_law_word:List D→Option (Bool×D):=FR 1 2 b_law_word
theorem run_law_word:∀ ds r,F_law_word ds=some r→ds.length=1∧runF 2 b_law_word ds=some r:=FR_ok
theorem go_law_word (x0:D):F_law_word [x0]=runF 2 b_law_word [x0]:=rfl
noncomputable abbrev orderD:D:=.lst [.str "stop",.str "set",.str "high",.str "copy",.str "add",.str "addc",.str "sub",.str "subc",.str "and",.str "or",.str "xor",.str "test",.str "left",.str "right",.str "load",.str "store",.str "loadw",.str "storew"]
theorem order_F:F_law_order []=some (false,orderD):=by rfl
theorem pw2:powOk 2 27=true∧powOk 2 24=true∧powOk 2 21=true∧lt64 134217728=true∧lt64 16777216=true∧lt64 2097152=true:=⟨by decide,by decide,by decide,by decide,by decide,by decide⟩
theorem lw0:F_law_word [.tup [.str "stop"]]=some (false,.int 0):=by
  have hi:fIndex orderD (.str "stop")=some (.int 0):=by rfl
  have hs:fEq (.str "stop") (.str "stop")=some (.bl true):=by rfl
  have hO:=order_F
  rw [go_law_word]
  unfold b_law_word
  generalize orderD=O at hi hO
  simp! [hO,ix0,hi,pw2,hs]
theorem lw2n {w:Str} {c d n:Int} (hi:fIndex orderD (.str w)=some (.int c)) (hs:fEq (.str w) (.str "stop")=some (.bl false)) (hin:fIn (.str w) (.tup [.str "set",.str "high",.str "left",.str "right"])=some (.bl true)) :
    F_law_word [.tup [.str w,.int d,.int n]]=some (false,.int (c*134217728+d*16777216+n)):=by
  have i1:∀ {a b c:D},fIx (.tup [a,b,c]) (.int 1)=some b:=rfl
  have i2:∀ {a b c:D},fIx (.tup [a,b,c]) (.int 2)=some c:=rfl
  have hO:=order_F
  rw [go_law_word]
  unfold b_law_word
  generalize orderD=O at hi hO
  simp! [hO,ix0,i1,i2,hi,pw2,hs,hin,add_int]
theorem lw2s {w:Str} {c d n:Int} (hi:fIndex orderD (.str w)=some (.int c)) (hs:fEq (.str w) (.str "stop")=some (.bl false)) (hin:fIn (.str w) (.tup [.str "set",.str "high",.str "left",.str "right"])=some (.bl false)) :
    F_law_word [.tup [.str w,.int d,.int n]]=some (false,.int (c*134217728+d*16777216+n*2097152)):=by
  have i1:∀ {a b c:D},fIx (.tup [a,b,c]) (.int 1)=some b:=rfl
  have i2:∀ {a b c:D},fIx (.tup [a,b,c]) (.int 2)=some c:=rfl
  have hl:fEq (.int ((0+1+1+1:Nat):Int)) (.int 4)=some (.bl false):=by rfl
  have hO:=order_F
  rw [go_law_word]
  unfold b_law_word
  generalize orderD=O at hi hO
  simp! [hO,ix0,i1,i2,hi,pw2,hs,hin,add_int,hl]
theorem lw3 {w:Str} {c d s n:Int} (hi:fIndex orderD (.str w)=some (.int c)) (hs:fEq (.str w) (.str "stop")=some (.bl false)) (hin:fIn (.str w) (.tup [.str "set",.str "high",.str "left",.str "right"])=some (.bl false)) :
    F_law_word [.tup [.str w,.int d,.int s,.int n]]=some (false,.int (c*134217728+d*16777216+s*2097152+n)):=by
  have i1:∀ {a b c e:D},fIx (.tup [a,b,c,e]) (.int 1)=some b:=rfl
  have i2:∀ {a b c e:D},fIx (.tup [a,b,c,e]) (.int 2)=some c:=rfl
  have i3:∀ {a b c e:D},fIx (.tup [a,b,c,e]) (.int 3)=some e:=rfl
  have hl:fEq (.int ((0+1+1+1+1:Nat):Int)) (.int 4)=some (.bl true):=by rfl
  have hO:=order_F
  rw [go_law_word]
  unfold b_law_word
  generalize orderD=O at hi hO
  simp! [hO,ix0,i1,i2,i3,hi,pw2,hs,hin,add_int,hl]
end L3
namespace L3
open PySem
noncomputable def b_part:FS:=
  (sRet (e2 (fBit Builtin.bitAnd) (e2 fShr (eVar 0) (eVar 1)) (e2 fSub (e2 fShl (eC (.int 1)) (eVar 2)) (eC (.int 1)))))
noncomputable def F_part:List D→Option (Bool×D):=FR 3 3 b_part
theorem run_part:∀ ds r,F_part ds=some r→ds.length=3∧runF 3 b_part ds=some r:=FR_ok
theorem go_part (x0 x1 x2:D):F_part [x0,x1,x2]=runF 3 b_part [x0,x1,x2]:=rfl
noncomputable def b_number_at:FS:=
  (sRet (eCall F_part (aCons (eVar 0) (aCons (e2 fIx (eVar 1) (eC (.int 0))) (aCons (e2 fIx (eVar 1) (eC (.int 1))) aNil)))))
noncomputable def F_number_at:List D→Option (Bool×D):=FR 2 2 b_number_at
theorem run_number_at:∀ ds r,F_number_at ds=some r→ds.length=2∧runF 2 b_number_at ds=some r:=FR_ok
theorem go_number_at (x0 x1:D):F_number_at [x0,x1]=runF 2 b_number_at [x0,x1]:=rfl
noncomputable def b_code_in:FS:=
  (sRet (eCall F_number_at (aCons (eVar 0) (aCons (e1 (fGd gk_PLACES gv_PLACES) (eC (.str "kind"))) aNil))))
noncomputable def F_code_in:List D→Option (Bool×D):=FR 1 1 b_code_in
theorem run_code_in:∀ ds r,F_code_in ds=some r→ds.length=1∧runF 1 b_code_in ds=some r:=FR_ok
theorem go_code_in (x0:D):F_code_in [x0]=runF 1 b_code_in [x0]:=rfl
noncomputable def x_kind_of_code_1:FE:=(eVar 2)
noncomputable def y_kind_of_code_1:FT:=(tE (e2 fEq (e1 (fGd gk_CODES gv_CODES) (eVar 2)) (eVar 0)))
noncomputable def x_kind_of_code_2:FE:=(eVar 2)
noncomputable def y_kind_of_code_2:FT:=(tE (e2 fEq (e1 (fGd gk_NEAR_CODES gv_NEAR_CODES) (eVar 2)) (eVar 0)))
noncomputable def x_kind_of_code_3:FE:=(eVar 2)
noncomputable def y_kind_of_code_3:FT:=(tE (e2 fEq (e1 (fGd gk_FAR_CODES gv_FAR_CODES) (eVar 2)) (eVar 0)))
noncomputable def b_kind_of_code:FS:=
  (sSeq (sSetO 1 (eLc 1 (iG gk_CODES) (gVar 2) y_kind_of_code_1 x_kind_of_code_1))
    (sSeq (sExt 1 (eLc 1 (iG gk_NEAR_CODES) (gVar 2) y_kind_of_code_2 x_kind_of_code_2))
    (sSeq (sExt 1 (eLc 1 (iG gk_FAR_CODES) (gVar 2) y_kind_of_code_3 x_kind_of_code_3))
    (sSeq (sFreeze 1) (sRet (eIf (tE (e2 fEq (eVar 1) (eLst aNil))) (eC .non) (e2 fIx (eVar 1) (eC (.int 0)))))))))
noncomputable def F_kind_of_code:List D→Option (Bool×D):=FR 1 2 b_kind_of_code
theorem run_kind_of_code:∀ ds r,F_kind_of_code ds=some r→ds.length=1∧runF 2 b_kind_of_code ds=some r:=FR_ok
noncomputable def b_is_near_code:FS:=
  (sRet (e2 fIn (eVar 0) (eC (.lst gv_NEAR_CODES))))
noncomputable def F_is_near_code:List D→Option (Bool×D):=FR 1 1 b_is_near_code
theorem run_is_near_code:∀ ds r,F_is_near_code ds=some r→ds.length=1∧runF 1 b_is_near_code ds=some r:=FR_ok
noncomputable def b_is_far_code:FS:=
  (sRet (e2 fIn (eVar 0) (eC (.lst gv_FAR_CODES))))
noncomputable def F_is_far_code:List D→Option (Bool×D):=FR 1 1 b_is_far_code
theorem run_is_far_code:∀ ds r,F_is_far_code ds=some r→ds.length=1∧runF 1 b_is_far_code ds=some r:=FR_ok
noncomputable def b_held_in:FS:=
  (sSeq (sSet 3 (eCall F_number_at (aCons (eVar 0) (aCons (eCall F_place_in_word (aCons (eVar 1) (aCons (eVar 2) aNil))) aNil))))
    (sSeq (sIf (tE (e2 fNe (eVar 2) (eC (.str "mark"))))
      (sRet (eVar 3))
      sNext)
    (sRet (eIf (tE (e2 (fCmp fun i j=>decide (i<j)) (eVar 3) (eL fLen (aCons (eC gt_MARKS) aNil)))) (e2 fIx (eC gt_MARKS) (eVar 3)) (eC .non)))))
noncomputable def F_held_in:List D→Option (Bool×D):=FR 3 4 b_held_in
theorem run_held_in:∀ ds r,F_held_in ds=some r→ds.length=3∧runF 4 b_held_in ds=some r:=FR_ok
theorem go_held_in (x0 x1 x2:D):F_held_in [x0,x1,x2]=runF 4 b_held_in [x0,x1,x2]:=rfl
noncomputable def x_row_in_1:FE:=(eCall F_held_in (aCons (eVar 0) (aCons (eVar 2) (aCons (eVar 5) aNil))))
noncomputable def b_row_in:FS:=
  (sSeq (sSet 1 (eCall F_code_in (aCons (eVar 0) aNil)))
    (sSeq (sSet 2 (eCall F_kind_of_code (aCons (eVar 1) aNil)))
    (sSeq (sIf (tE (e2 fIsN (eVar 2) (eC .non)))
      (sRet (eC .non))
      sNext)
    (sSeq (sSet 3 (eL fTuple (aCons (e2 fAdd (eLst (aCons (eVar 2) aNil)) (eLc 1 (iSeq (eCallO F_fields_in_word (aCons (eVar 2) aNil))) (gVar 5) tTrue x_row_in_1)) aNil)))
    (sSeq (sIf (tE (e2 fIn (eC .non) (eVar 3)))
      (sRet (eC .non))
      sNext)
    (sSeq (sSet 4 (eIf (tE (eCall F_is_near_code (aCons (eVar 1) aNil))) (eCall F_with_number (aCons (eVar 0) (aCons (e1 (fGd gk_PLACES gv_PLACES) (eC (.str "distance"))) (aCons (eC (.int 0)) aNil)))) (eVar 0)))
    (sRet (eIf (tE (e2 fEq (eCall F_first_word (aCons (eVar 3) (aCons (eVar 1) aNil))) (eVar 4))) (eVar 3) (eC .non)))))))))
noncomputable def F_row_in:List D→Option (Bool×D):=FR 1 5 b_row_in
theorem run_row_in:∀ ds r,F_row_in ds=some r→ds.length=1∧runF 5 b_row_in ds=some r:=FR_ok
theorem go_row_in (x0:D):F_row_in [x0]=runF 5 b_row_in [x0]:=rfl
noncomputable def b_signed:FS:=
  (sSeq (sSet 2 (e2 fShl (eC (.int 1)) (eVar 1)))
    (sRet (eIf (tE (e2 (fCmp fun i j=>decide (i<j)) (e2 fMulL (eC (.int 2)) (eVar 0)) (eVar 2))) (eVar 0) (e2 fSub (eVar 0) (eVar 2)))))
noncomputable def F_signed:List D→Option (Bool×D):=FR 2 3 b_signed
theorem run_signed:∀ ds r,F_signed ds=some r→ds.length=2∧runF 3 b_signed ds=some r:=FR_ok
theorem go_signed (x0 x1:D):F_signed [x0,x1]=runF 3 b_signed [x0,x1]:=rfl
noncomputable def b_far_at:FS:=
  (sSeq (sIf (tE (e2 (fCmp fun i j=>decide (j≤i)) (e2 fAdd (eVar 1) (eC (.int 1))) (eL fLen (aCons (eVar 0) aNil))))
      (sRet (eC .non))
      sNext)
    (sRet (eTup (aCons (eVar 2) (aCons (e2 fAdd (eVar 1) (eC (.int 2))) (aCons (e2 fAdd (eVar 1) (eCall F_signed (aCons (e2 fIx (eVar 0) (e2 fAdd (eVar 1) (eC (.int 1)))) (aCons (eC (.int 32)) aNil)))) aNil))))))
noncomputable def F_far_at:List D→Option (Bool×D):=FR 3 3 b_far_at
theorem run_far_at:∀ ds r,F_far_at ds=some r→ds.length=3∧runF 3 b_far_at ds=some r:=FR_ok
theorem go_far_at (x0 x1 x2:D):F_far_at [x0,x1,x2]=runF 3 b_far_at [x0,x1,x2]:=rfl
noncomputable def b_told_at:FS:=
  (sSeq (sIf (tOrF (tE (e2 (fCmp fun i j=>decide (i<j)) (eVar 1) (eC (.int 0)))) (tE (e2 (fCmp fun i j=>decide (j≤i)) (eVar 1) (eL fLen (aCons (eVar 0) aNil)))))
      (sRet (eC .non))
      sNext)
    (sSeq (sSet 2 (eCall F_row_in (aCons (e2 fIx (eVar 0) (eVar 1)) aNil)))
    (sSeq (sIf (tE (e2 fIsN (eVar 2) (eC .non)))
      (sRet (eC .non))
      sNext)
    (sSeq (sSet 3 (eCall F_code_in (aCons (e2 fIx (eVar 0) (eVar 1)) aNil)))
    (sSeq (sIf (tE (eCall F_is_far_code (aCons (eVar 3) aNil)))
      (sRet (eCall F_far_at (aCons (eVar 0) (aCons (eVar 1) (aCons (eVar 2) aNil)))))
      sNext)
    (sSeq (sIf (tE (eCall F_is_near_code (aCons (eVar 3) aNil)))
      (sSeq (sSet 4 (e1 (fGd gk_PLACES gv_PLACES) (eC (.str "distance"))))
        (sRet (eTup (aCons (eVar 2) (aCons (e2 fAdd (eVar 1) (eC (.int 1))) (aCons (e2 fAdd (eVar 1) (eCall F_signed (aCons (eCall F_number_at (aCons (e2 fIx (eVar 0) (eVar 1)) (aCons (eVar 4) aNil))) (aCons (e2 fIx (eVar 4) (eC (.int 1))) aNil)))) aNil))))))
      sNext)
    (sRet (eTup (aCons (eVar 2) (aCons (e2 fAdd (eVar 1) (eC (.int 1))) (aCons (eC .non) aNil)))))))))))
noncomputable def F_told_at:List D→Option (Bool×D):=FR 2 5 b_told_at
theorem run_told_at:∀ ds r,F_told_at ds=some r→ds.length=2∧runF 5 b_told_at ds=some r:=FR_ok
theorem go_told_at (x0 x1:D):F_told_at [x0,x1]=runF 5 b_told_at [x0,x1]:=rfl
noncomputable def b_law_jump_words:FS:=
  (sSeq (sSet 3 (e2 fMulR (e2 fAdd (e2 fAdd (eC (.int 18)) (e2 fIndex (eLst (aCons (eC (.str "jump")) (aCons (eC (.str "when")) (aCons (eC (.str "unless")) aNil)))) (e2 fIx (eVar 0) (eC (.int 0))))) (e2 fMulL (eC (.int 3)) (eL fInt (aCons (eVar 2) aNil)))) (e2 fPow (eC (.int 2)) (eC (.int 27)))))
    (sSeq (sIf (tE (e2 fNe (e2 fIx (eVar 0) (eC (.int 0))) (eC (.str "jump"))))
      (sSet 3 (e2 fAdd (eVar 3) (e2 fMulR (e2 fIndex (eLst (aCons (eC (.str "carry")) (aCons (eC (.str "nought")) (aCons (eC (.str "sign")) aNil)))) (e2 fIx (eVar 0) (eC (.int 1)))) (e2 fPow (eC (.int 2)) (eC (.int 24))))))
      sNext)
    (sSeq (sIf (tE (eVar 2))
      (sRetO (eLst (aCons (eVar 3) (aCons (e2 fMod (eVar 1) (e2 fPow (eC (.int 2)) (eC (.int 32)))) aNil))))
      sNext)
    (sRetO (eLst (aCons (e2 fAdd (eVar 3) (e2 fMod (eVar 1) (eC (.int 32)))) aNil))))))
noncomputable def F_law_jump_words:List D→Option (Bool×D):=FR 3 4 b_law_jump_words
theorem run_law_jump_words:∀ ds r,F_law_jump_words ds=some r→ds.length=3∧runF 4 b_law_jump_words ds=some r:=FR_ok
theorem go_law_jump_words (x0 x1 x2:D):F_law_jump_words [x0,x1,x2]=runF 4 b_law_jump_words [x0,x1,x2]:=rfl
noncomputable def b_law_jump_at:FS:=
  (sSeq (sSet 3 (e2 fIx (eVar 0) (eVar 1)))
    (sSeq (sSet 4 (e2 fIx (eLst (aCons (eC (.str "jump")) (aCons (eC (.str "when")) (aCons (eC (.str "unless")) aNil)))) (e2 fMod (e2 fSub (eVar 2) (eC (.int 18))) (eC (.int 3)))))
    (sSeq (sSet 5 (e2 fMod (e2 fDiv (eVar 3) (e2 fPow (eC (.int 2)) (eC (.int 24)))) (eC (.int 4))))
    (sSeq (sSet 6 (e2 (fCmp fun i j=>decide (j<i)) (eVar 2) (eC (.int 20))))
    (sSeq (sIf (tOrF (tE (e2 fEq (eVar 5) (eC (.int 3)))) (tE (e2 (fCmp fun i j=>decide (j<i)) (e2 fAdd (e2 fAdd (eVar 1) (eC (.int 1))) (eL fInt (aCons (eVar 6) aNil))) (eL fLen (aCons (eVar 0) aNil)))))
      (sRet (eC .non))
      sNext)
    (sSeq (sSet 7 (eTup (aCons (eC (.str "jump")) aNil)))
    (sSeq (sIf (tE (e2 fNe (eVar 4) (eC (.str "jump"))))
      (sSet 7 (eTup (aCons (eVar 4) (aCons (e2 fIx (eLst (aCons (eC (.str "carry")) (aCons (eC (.str "nought")) (aCons (eC (.str "sign")) aNil)))) (eVar 5)) aNil))))
      sNext)
    (sSeq (sSet 8 (e2 fMod (eVar 3) (eC (.int 32))))
    (sSeq (sIf (tE (e2 (fCmp fun i j=>decide (j<i)) (eVar 8) (eC (.int 15))))
      (sSet 8 (e2 fSub (eVar 8) (eC (.int 32))))
      sNext)
    (sSeq (sIf (tE (eVar 6))
      (sSeq (sSet 8 (e2 fIx (eVar 0) (e2 fAdd (eVar 1) (eC (.int 1)))))
        (sIf (tE (e2 (fCmp fun i j=>decide (j<i)) (eVar 8) (eC (.int 2147483647))))
          (sSet 8 (e2 fSub (eVar 8) (e2 fPow (eC (.int 2)) (eC (.int 32)))))
          sNext))
      sNext)
    (sSeq (sIf (tE (e2 fNe (e2 fIx (eCall F_law_jump_words (aCons (eVar 7) (aCons (eVar 8) (aCons (eVar 6) aNil)))) (eC (.int 0))) (eVar 3)))
      (sRet (eC .non))
      sNext)
    (sRet (eTup (aCons (eVar 7) (aCons (e2 fAdd (e2 fAdd (eVar 1) (eC (.int 1))) (eL fInt (aCons (eVar 6) aNil))) (aCons (e2 fAdd (eVar 1) (eVar 8)) aNil))))))))))))))))
noncomputable def F_law_jump_at:List D→Option (Bool×D):=FR 3 9 b_law_jump_at
theorem run_law_jump_at:∀ ds r,F_law_jump_at ds=some r→ds.length=3∧runF 9 b_law_jump_at ds=some r:=FR_ok
theorem go_law_jump_at (x0 x1 x2:D):F_law_jump_at [x0,x1,x2]=runF 9 b_law_jump_at [x0,x1,x2]:=rfl
noncomputable def b_law_row_at:FS:=
  (sSeq (sIf (tNotF (tE (eChain (fCmp fun i j=>decide (i≤j)) (fCmp fun i j=>decide (i<j)) (eC (.int 0)) (eVar 1) (eL fLen (aCons (eVar 0) aNil)))))
      (sRet (eC .non))
      sNext)
    (sSeq (sSet 2 (e2 fIx (eVar 0) (eVar 1)))
    (sSeq (sSet 3 (e2 fDiv (eVar 2) (e2 fPow (eC (.int 2)) (eC (.int 27)))))
    (sSeq (sIf (tE (e2 (fCmp fun i j=>decide (j<i)) (eVar 3) (eC (.int 23))))
      (sRet (eC .non))
      sNext)
    (sSeq (sIf (tE (e2 (fCmp fun i j=>decide (j<i)) (eVar 3) (eC (.int 17))))
      (sRet (eCall F_law_jump_at (aCons (eVar 0) (aCons (eVar 1) (aCons (eVar 3) aNil)))))
      sNext)
    (sSeq (sSet 4 (e2 fIx (eCall F_law_order aNil) (eVar 3)))
    (sSeq (sSet 5 (eTup (aCons (eVar 4) (aCons (e2 fMod (e2 fDiv (eVar 2) (e2 fPow (eC (.int 2)) (eC (.int 24)))) (eC (.int 8))) (aCons (e2 fMod (e2 fDiv (eVar 2) (e2 fPow (eC (.int 2)) (eC (.int 21)))) (eC (.int 8))) aNil)))))
    (sSeq (sIf (tE (e2 fEq (eVar 4) (eC (.str "stop"))))
      (sSet 5 (eTup (aCons (eC (.str "stop")) aNil)))
      (sIf (tE (e2 fIn (eVar 4) (eTup (aCons (eC (.str "set")) (aCons (eC (.str "high")) (aCons (eC (.str "left")) (aCons (eC (.str "right")) aNil)))))))
          (sSet 5 (e2 fAdd (eSlT (eVar 5) oNone (oSome (eC (.int 2)))) (eTup (aCons (e2 fMod (eVar 2) (e2 fIx (eLst (aCons (eC (.int 65536)) (aCons (eC (.int 32)) aNil))) (eL fInt (aCons (e2 fIn (eVar 4) (eTup (aCons (eC (.str "left")) (aCons (eC (.str "right")) aNil)))) aNil)))) aNil))))
          (sIf (tE (e2 (fCmp fun i j=>decide (j<i)) (eVar 3) (eC (.int 13))))
              (sSet 5 (e2 fAdd (eVar 5) (eTup (aCons (e2 fMod (eVar 2) (eC (.int 256))) aNil))))
              sNext)))
    (sSeq (sIf (tE (e2 fNe (eCall F_law_word (aCons (eVar 5) aNil)) (eVar 2)))
      (sRet (eC .non))
      sNext)
    (sRet (eTup (aCons (eVar 5) (aCons (e2 fAdd (eVar 1) (eC (.int 1))) (aCons (eC .non) aNil))))))))))))))
noncomputable def F_law_row_at:List D→Option (Bool×D):=FR 2 6 b_law_row_at
theorem run_law_row_at:∀ ds r,F_law_row_at ds=some r→ds.length=2∧runF 6 b_law_row_at ds=some r:=FR_ok
theorem go_law_row_at (x0 x1:D):F_law_row_at [x0,x1]=runF 6 b_law_row_at [x0,x1]:=rfl
theorem num_F {x l W:Int} (l0:0≤l) (w0:0≤W) (w1:W<64):F_number_at [.int x,.tup [.int l,.int W]]=some (false,.int (x / 2 ^ l.toNat % 2 ^ W.toNat)):=by
  have i0:fIx (.tup [.int l,.int W]) (.int 0)=some (.int l):=rfl
  have i1:fIx (.tup [.int l,.int W]) (.int 1)=some (.int W):=rfl
  have e1:=powOk_t (i:=1) (j:=W) w0 w1 (by decide) (by decide)
  have p:F_part [.int x,.int l,.int W]=some (false,.int (x / 2 ^ l.toNat % 2 ^ W.toNat)):=by
    rw [go_part]
    unfold b_part
    simp! [e1,decide_eq_true l0,part_eq]
  rw [go_number_at]
  unfold b_number_at
  simp! [i0,i1,p]
theorem code_F {x:Int} (h0:0≤x) (h1:x<4294967296):F_code_in [.int x]=some (false,.int (x / 134217728)):=by
  have hk:fGd gk_PLACES gv_PLACES (.str "kind")=some (.tup [.int 27,.int 5]):=by rfl
  have n:F_number_at [.int x,.tup [.int 27,.int 5]]=some (false,.int (x / 134217728 % 32)):=num_F (by decide) (by decide) (by decide)
  rw [show x / 134217728 % 32=x / 134217728 by omega] at n
  rw [go_code_in]
  unfold b_code_in
  simp! [hk,n]
noncomputable def kindL:List D:=[.str "stop",.str "set",.str "high",.str "copy",.str "add",.str "addc",.str "sub",.str "subc",.str "and",.str "or",.str "xor",.str "test",.str "left",.str "right",.str "load",.str "store",.str "loadw",.str "storew",.str "jump",.str "when",.str "unless",.str "jump",.str "when",.str "unless"]
theorem kinds_all:(List.range 32).map (fun c:Nat=>F_kind_of_code [.int (c:Int)])=(List.range 32).map fun c=>some (false,kindL.getD c .non):=by kernel_rfl
theorem near_all:(List.range 32).map (fun c:Nat=>F_is_near_code [.int (c:Int)])=(List.range 32).map fun c=>some (false,.bl (decide (18≤c)&&decide (c≤20))):=by kernel_rfl
theorem far_all:(List.range 32).map (fun c:Nat=>F_is_far_code [.int (c:Int)])=(List.range 32).map fun c=>some (false,.bl (decide (21≤c)&&decide (c≤23))):=by kernel_rfl
theorem of_all {f g:Nat→Option (Bool×D)} (h:(List.range 32).map f=(List.range 32).map g) {n:Nat} (hn:n<32):f n=g n:=by
  have e:=congrArg (fun l=>l[n]?) h
  simp only [List.getElem?_map,List.getElem?_range hn,Option.map_some] at e
  exact Option.some.inj e
theorem kind_F {n:Nat} (h:n<32):F_kind_of_code [.int (n:Int)]=some (false,kindL.getD n .non):=of_all kinds_all h
theorem nearC_F {n:Nat} (h:n<32):F_is_near_code [.int (n:Int)]=some (false,.bl (decide (18≤n)&&decide (n≤20))):=of_all near_all h
theorem farC_F {n:Nat} (h:n<32):F_is_far_code [.int (n:Int)]=some (false,.bl (decide (21≤n)&&decide (n≤23))):=of_all far_all h
theorem held_num {x l W:Int} {k f:Str} (hp:F_place_in_word [.str k,.str f]=some (false,.tup [.int l,.int W])) (hm:fNe (.str f) (.str "mark")=some (.bl true)) (l0:0≤l) (w0:0≤W) (w1:W<64):F_held_in [.int x,.str k,.str f]=some (false,.int (x / 2 ^ l.toNat % 2 ^ W.toNat)):=by
  have n:=num_F (x:=x) l0 w0 w1
  rw [go_held_in]
  unfold b_held_in
  simp! [hp,n,hm]
noncomputable def markL:List D:=[.str "carry",.str "nought",.str "sign",.non]
theorem held_mark {x:Int} {k:Str} (hp:F_place_in_word [.str k,.str "mark"]=some (false,.tup [.int 24,.int 2])):F_held_in [.int x,.str k,.str "mark"]=some (false,markL.getD (x / 16777216 % 4).toNat .non):=by
  have n:F_number_at [.int x,.tup [.int 24,.int 2]]=some (false,.int (x / 16777216 % 4)):=num_F (by decide) (by decide) (by decide)
  have hm:fNe (.str "mark") (.str "mark")=some (.bl false):=by rfl
  rw [go_held_in]
  unfold b_held_in
  rcases (show x / 16777216 % 4=0∨x / 16777216 % 4=1∨x / 16777216 % 4=2∨x / 16777216 % 4=3 by omega) with e | e | e | e<;>rw [e] at n ⊢
  · have i:fIx gt_MARKS (.int 0)=some (.str "carry"):=rfl
    simp only [shx,hp,n,hm,i]
    rfl
  · have i:fIx gt_MARKS (.int 1)=some (.str "nought"):=rfl
    simp only [shx,hp,n,hm,i]
    rfl
  · have i:fIx gt_MARKS (.int 2)=some (.str "sign"):=rfl
    simp only [shx,hp,n,hm,i]
    rfl
  · simp only [shx,hp,n,hm]
    rfl
theorem row_of {x c Z known:Int} {b:Bool} {k:Str} {fs R:List D} (hc:F_code_in [.int x]=some (false,.int c)) (hk:F_kind_of_code [.int c]=some (false,.str k)) (hf:F_fields_in_word [.str k]=some (true,.lst fs))
    (hl:lcGo (gVar 5) tTrue x_row_in_1 [some (false,.int x),some (false,.int c),some (false,.str k),none,none,none] fs=some R) (hn:fIn .non (.tup (.str k::R))=some (.bl false)) (hR:R.length≤3) (hnear:F_is_near_code [.int c]=some (false,.bl b))
    (hw:b=true→F_with_number [.int x,.tup [.int 0,.int 5],.int 0]=some (false,.int known)) (hb:b=false→known=x) (hz:F_first_word [.tup (.str k::R),.int c]=some (false,.int Z)) :
    F_row_in [.int x]=some (false,if Z=known then .tup (.str k::R) else .non):=by
  have ha:fAdd (.lst [.str k]) (.lst R)=some (.lst (.str k::R)):=by
    rw [add_lst (by simp only [List.length_cons,List.length_nil]; omega)]
    rfl
  have ht:fTuple [.lst (.str k::R)]=some (.tup (.str k::R)):=rfl
  have hd:fGd gk_PLACES gv_PLACES (.str "distance")=some (.tup [.int 0,.int 5]):=by rfl
  have hq:fEq (.int Z) (.int known)=some (.bl (decide (Z=known))):=by
    by_cases e:Z=known
    · rw [int_eq e,decide_eq_true e]
    · rw [int_ne e,decide_eq_false e]
  rw [go_row_in]
  unfold b_row_in
  cases b with
  | true=>
    have hw:=hw rfl
    by_cases e:Z=known
    · rw [if_pos e]
      rw [decide_eq_true e] at hq
      simp! [hc,hk,hf,hl,ha,ht,hn,hnear,hd,hw,hz,hq]
    · rw [if_neg e]
      rw [decide_eq_false e] at hq
      simp! [hc,hk,hf,hl,ha,ht,hn,hnear,hd,hw,hz,hq]
  | false=>
    cases hb rfl
    by_cases e:Z=x
    · rw [if_pos e]
      rw [decide_eq_true e] at hq
      simp! [hc,hk,hf,hl,ha,ht,hn,hnear,hd,hz,hq]
    · rw [if_neg e]
      rw [decide_eq_false e] at hq
      simp! [hc,hk,hf,hl,ha,ht,hn,hnear,hd,hz,hq]
theorem row_no {x c:Int} {k:Str} {fs R:List D} {b:Bool} (hc:F_code_in [.int x]=some (false,.int c)) (hk:F_kind_of_code [.int c]=some (false,.str k)) (hf:F_fields_in_word [.str k]=some (true,.lst fs))
    (hl:lcGo (gVar 5) tTrue x_row_in_1 [some (false,.int x),some (false,.int c),some (false,.str k),none,none,none] fs=some R) (hn:fIn .non (.tup (.str k::R))=some (.bl true)) (hR:R.length≤3) :
    F_row_in [.int x]=some (false,.non):=by
  have ha:fAdd (.lst [.str k]) (.lst R)=some (.lst (.str k::R)):=by
    rw [add_lst (by simp only [List.length_cons,List.length_nil]; omega)]
    rfl
  have ht:fTuple [.lst (.str k::R)]=some (.tup (.str k::R)):=rfl
  rw [go_row_in]
  unfold b_row_in
  simp! [hc,hk,hf,hl,ha,ht,hn]
theorem row_none {x c:Int} (hc:F_code_in [.int x]=some (false,.int c)) (hk:F_kind_of_code [.int c]=some (false,.non)):F_row_in [.int x]=some (false,.non):=by
  rw [go_row_in]
  unfold b_row_in
  simp! [hc,hk]
end L3
namespace L3
open PySem
theorem signed_F {n W:Int} (w0:0≤W) (w1:W<64):F_signed [.int n,.int W]=some (false,.int (if 2*n<2 ^ W.toNat then n else n - 2 ^ W.toNat)):=by
  have e1:=powOk_t (i:=1) (j:=W) w0 w1 (by decide) (by decide)
  have l2:lt64 2=true:=by decide
  rw [go_signed]
  unfold b_signed
  by_cases c:2*n<2 ^ W.toNat
  · rw [if_pos c]
    have c':decide (2*n<1*2 ^ W.toNat)=true:=decide_eq_true (by omega)
    simp! [e1,l2,c']
  · rw [if_neg c]
    have c':decide (2*n<1*2 ^ W.toNat)=false:=decide_eq_false (by omega)
    simp! [e1,l2,c',decide_eq_false c,Int.one_mul]
theorem told_out {ws:List D} {a:Int} (h:a<0∨(ws.length:Int)≤a):F_told_at [.lst ws,.int a]=some (false,.non):=by
  rw [go_told_at]
  unfold b_told_at
  by_cases c:a<0
  · simp! [decide_eq_true c]
  · have d:(ws.length:Int)≤a:=by omega
    simp! [decide_eq_false c,decide_eq_true d]
theorem law_out {ws:List D} {a:Int} (h:a<0∨(ws.length:Int)≤a):F_law_row_at [.lst ws,.int a]=some (false,.non):=by
  rw [go_law_row_at]
  unfold b_law_row_at
  by_cases c:a<0
  · have c':decide (0≤a)=false:=decide_eq_false (by omega)
    simp! [eChain,c']
  · have c':decide (0≤a)=true:=decide_eq_true (by omega)
    have d:decide (a<(ws.length:Int))=false:=decide_eq_false (by omega)
    simp! [eChain,c',d]
structure At (ws:List D) (a x:Int):Prop where
  a0:0≤a
  a1:a<(ws.length:Int)
  ix:fIx (.lst ws) (.int a)=some (.int x)
  x0:0≤x
  x1:x<4294967296
section
variable {ws:List D} {a x:Int} (A:At ws a x)
include A
theorem At.cond {α:Type}:decide (a<0)=false∧decide ((ws.length:Int)≤a)=false∧decide (0≤a)=true∧decide (a<(ws.length:Int))=true:=by
  obtain ⟨a0,a1,_,_,_⟩:=A
  exact ⟨decide_eq_false (by omega),decide_eq_false (by omega),decide_eq_true a0,decide_eq_true a1⟩
theorem told_none (hr:F_row_in [.int x]=some (false,.non)):F_told_at [.lst ws,.int a]=some (false,.non):=by
  obtain ⟨c1,c2,_,_⟩:=A.cond (α:=Nat)
  have ix:=A.ix
  rw [go_told_at]
  unfold b_told_at
  simp! [c1,c2,ix,hr]
theorem told_row {c:Int} {R:List D} (hc:F_code_in [.int x]=some (false,.int c)) (hf:F_is_far_code [.int c]=some (false,.bl false)) (hn:F_is_near_code [.int c]=some (false,.bl false)) (hr:F_row_in [.int x]=some (false,.tup R)) :
    F_told_at [.lst ws,.int a]=some (false,.tup [.tup R,.int (a+1),.non]):=by
  obtain ⟨c1,c2,_,_⟩:=A.cond (α:=Nat)
  have ix:=A.ix
  rw [go_told_at]
  unfold b_told_at
  simp! [c1,c2,ix,hr,hc,hf,hn,add_int]
theorem told_near {c:Int} {R:List D} (hc:F_code_in [.int x]=some (false,.int c)) (hf:F_is_far_code [.int c]=some (false,.bl false)) (hn:F_is_near_code [.int c]=some (false,.bl true)) (hr:F_row_in [.int x]=some (false,.tup R)) :
    F_told_at [.lst ws,.int a]=some (false,.tup [.tup R,.int (a+1),.int (a+(if 2*(x % 32)<32 then x % 32 else x % 32 - 32))]):=by
  obtain ⟨c1,c2,_,_⟩:=A.cond (α:=Nat)
  have ix:=A.ix
  have hk:fGd gk_PLACES gv_PLACES (.str "distance")=some (.tup [.int 0,.int 5]):=by rfl
  have n:F_number_at [.int x,.tup [.int 0,.int 5]]=some (false,.int (x / 1 % 32)):=num_F (by decide) (by decide) (by decide)
  rw [Int.ediv_one] at n
  have s:F_signed [.int (x % 32),.int 5]=some (false,.int (if 2*(x % 32)<32 then x % 32 else x % 32 - 32)):=signed_F (by decide) (by decide)
  have i1:fIx (.tup [.int 0,.int 5]) (.int 1)=some (.int 5):=rfl
  rw [go_told_at]
  unfold b_told_at
  generalize (if 2*(x % 32)<32 then x % 32 else x % 32 - 32)=S at s ⊢
  simp! [c1,c2,ix,hr,hc,hf,hn,hk,n,i1,s,add_int]
theorem told_far {c:Int} {R:List D} (hc:F_code_in [.int x]=some (false,.int c)) (hf:F_is_far_code [.int c]=some (false,.bl true)) (hr:F_row_in [.int x]=some (false,.tup R)) {y:Int} (hy:fIx (.lst ws) (.int (a+1))=some (.int y)) (hl:a+1<(ws.length:Int)) :
    F_told_at [.lst ws,.int a]=some (false,.tup [.tup R,.int (a+2),.int (a+(if 2*y<4294967296 then y else y - 4294967296))]):=by
  obtain ⟨c1,c2,_,_⟩:=A.cond (α:=Nat)
  have ix:=A.ix
  have s:F_signed [.int y,.int 32]=some (false,.int (if 2*y<4294967296 then y else y - 4294967296)):=signed_F (by decide) (by decide)
  have d:decide ((ws.length:Int)≤a+1)=false:=decide_eq_false (by omega)
  have e:F_far_at [.lst ws,.int a,.tup R]=some (false,.tup [.tup R,.int (a+2),.int (a+(if 2*y<4294967296 then y else y - 4294967296))]):=by
    rw [go_far_at]
    unfold b_far_at
    generalize (if 2*y<4294967296 then y else y - 4294967296)=S at s ⊢
    simp! [add_int,d,hy,s]
  rw [go_told_at]
  unfold b_told_at
  simp! [c1,c2,ix,hr,hc,hf,e]
theorem told_cut {c:Int} {R:List D} (hc:F_code_in [.int x]=some (false,.int c)) (hf:F_is_far_code [.int c]=some (false,.bl true)) (hr:F_row_in [.int x]=some (false,.tup R)) (hl:(ws.length:Int)≤a+1) :
    F_told_at [.lst ws,.int a]=some (false,.non):=by
  obtain ⟨c1,c2,_,_⟩:=A.cond (α:=Nat)
  have ix:=A.ix
  have e:F_far_at [.lst ws,.int a,.tup R]=some (false,.non):=by
    rw [go_far_at]
    unfold b_far_at
    simp! [add_int,decide_eq_true hl]
  rw [go_told_at]
  unfold b_told_at
  simp! [c1,c2,ix,hr,hc,hf,e]
theorem law_high (h:24≤x / 134217728):F_law_row_at [.lst ws,.int a]=some (false,.non):=by
  obtain ⟨_,_,c3,c4⟩:=A.cond (α:=Nat)
  have ix:=A.ix
  have p27:powOk 2 27=true:=by decide
  have d:decide (23<x / 134217728)=true:=decide_eq_true (by omega)
  rw [go_law_row_at]
  unfold b_law_row_at
  simp! [eChain,c3,c4,ix,p27,d]
theorem law_jump {r:D} (h0:18≤x / 134217728) (h1:x / 134217728≤23) (hj:F_law_jump_at [.lst ws,.int a,.int (x / 134217728)]=some (false,r)):F_law_row_at [.lst ws,.int a]=some (false,r):=by
  obtain ⟨_,_,c3,c4⟩:=A.cond (α:=Nat)
  have ix:=A.ix
  have p27:powOk 2 27=true:=by decide
  have d:decide (23<x / 134217728)=false:=decide_eq_false (by omega)
  have d2:decide (17<x / 134217728)=true:=decide_eq_true (by omega)
  rw [go_law_row_at]
  unfold b_law_row_at
  simp! [eChain,c3,c4,ix,p27,d,d2,hj]
theorem law_row {c Z:Int} {k:Str} {R:List D} (hc:x / 134217728=c) (c1:c≤17) (hk:fIx orderD (.int c)=some (.str k))
    (hb:(sIf (tE (e2 fEq (eVar 4) (eC (.str "stop"))))
      (sSet 5 (eTup (aCons (eC (.str "stop")) aNil)))
      (sIf (tE (e2 fIn (eVar 4) (eTup (aCons (eC (.str "set")) (aCons (eC (.str "high")) (aCons (eC (.str "left")) (aCons (eC (.str "right")) aNil)))))))
          (sSet 5 (e2 fAdd (eSlT (eVar 5) oNone (oSome (eC (.int 2)))) (eTup (aCons (e2 fMod (eVar 2) (e2 fIx (eLst (aCons (eC (.int 65536)) (aCons (eC (.int 32)) aNil))) (eL fInt (aCons (e2 fIn (eVar 4) (eTup (aCons (eC (.str "left")) (aCons (eC (.str "right")) aNil)))) aNil)))) aNil))))
          (sIf (tE (e2 (fCmp fun i j=>decide (j<i)) (eVar 3) (eC (.int 13))))
              (sSet 5 (e2 fAdd (eVar 5) (eTup (aCons (e2 fMod (eVar 2) (eC (.int 256))) aNil))))
              sNext)))
        [some (false,.lst ws),some (false,.int a),some (false,.int x),some (false,.int c),some (false,.str k),some (false,.tup [.str k,.int (x / 16777216 % 8),.int (x / 2097152 % 8)])] =
        some (.nx [some (false,.lst ws),some (false,.int a),some (false,.int x),some (false,.int c),some (false,.str k),some (false,.tup R)]))
    (hw:F_law_word [.tup R]=some (false,.int Z)):F_law_row_at [.lst ws,.int a]=some (false,if Z=x then .tup [.tup R,.int (a+1),.non] else .non):=by
  obtain ⟨_,_,c3,c4⟩:=A.cond (α:=Nat)
  have ix:=A.ix
  obtain ⟨p27,p24,p21,_⟩:=pw2
  have d:decide (23<c)=false:=decide_eq_false (by omega)
  have d2:decide (17<c)=false:=decide_eq_false (by omega)
  have hO:=order_F
  rw [go_law_row_at]
  unfold b_law_row_at
  generalize orderD=O at hk hO
  have e16:(2:Int) ^ (24:Int).toNat=16777216:=by decide
  have e21:(2:Int) ^ (21:Int).toNat=2097152:=by decide
  have e27:(2:Int) ^ (27:Int).toNat=134217728:=by decide
  by_cases e:Z=x
  · rw [if_pos e]
    have hq:=ne_of_eq (int_eq e)
    generalize (sIf (tE (e2 fEq (eVar 4) (eC (.str "stop")))) _ _)=B at hb ⊢
    simp! [eChain,c3,c4,ix,p27,p24,p21,hc,d,d2,hO,hk,hb,hw,hq,add_int]
  · rw [if_neg e]
    have hq:=ne_of_eq (int_ne e)
    generalize (sIf (tE (e2 fEq (eVar 4) (eC (.str "stop")))) _ _)=B at hb ⊢
    simp! [eChain,c3,c4,ix,p27,p24,p21,hc,d,d2,hO,hk,hb,hw,hq]
end
end L3
namespace L3
open PySem
noncomputable def Alike (ws:List D) (a:Int):Prop:=∃ r,F_told_at [.lst ws,.int a]=some (false,r)∧F_law_row_at [.lst ws,.int a]=some (false,r)∧(r=.non∨∃ R n t,r=.tup [.tup R,.int n,t]∧R.all flatD=true∧flatD t=true∧(t=.non∨∃ i:Int,t=.int i))
section
variable {ws:List D} {a x:Int} (A:At ws a x)
include A
theorem alike_plain {c Z:Int} {k:Str} {R:List D} (hR:(D.str k::R).all flatD=true) (hc:F_code_in [.int x]=some (false,.int c)) (hf:F_is_far_code [.int c]=some (false,.bl false)) (hn:F_is_near_code [.int c]=some (false,.bl false))
    (hr:F_row_in [.int x]=some (false,if Z=x then .tup (.str k::R) else .non)) (hl:F_law_row_at [.lst ws,.int a]=some (false,if Z=x then .tup [.tup (.str k::R),.int (a+1),.non] else .non)):Alike ws a:=by
  by_cases e:Z=x
  · rw [if_pos e] at hr hl
    exact ⟨_,told_row A hc hf hn hr,hl,.inr ⟨_,_,_,rfl,hR,rfl,.inl rfl⟩⟩
  · rw [if_neg e] at hr hl
    exact ⟨_,told_none A hr,hl,.inl rfl⟩
theorem alike_num {n:Nat} {k:Str} {W P:Int} {b:Bool} (hn:x / 134217728=(n:Int)) (n17:n≤17) (hk:kindL.getD n .non=.str k) (ho:fIx orderD (.int (n:Int))=some (.str k)) (hf:F_fields_in_word [.str k]=some (true,.lst [.str "d",.str "n"])) (hd:F_place_in_word [.str k,.str "d"]=some (false,.tup [.int 24,.int 3]))
    (hp:F_place_in_word [.str k,.str "n"]=some (false,.tup [.int 0,.int W])) (w0:0≤W) (w1:W≤16) (hP:(2:Int) ^ W.toNat=P) (hdv:(2:Int) ^ W.toNat ∣ 16777216) (hi:fIndex orderD (.str k)=some (.int (n:Int))) (hs:fEq (.str k) (.str "stop")=some (.bl false))
    (hin:fIn (.str k) (.tup [.str "set",.str "high",.str "left",.str "right"])=some (.bl true)) (hin2:fIn (.str k) (.tup [.str "left",.str "right"])=some (.bl b)) (hix:fIx (.lst [.int 65536,.int 32]) (.int (if b then 1 else 0))=some (.int P)):Alike ws a:=by
  have x0:=A.x0
  have x1:=A.x1
  have p0:0<P:=by rw [← hP]; exact Int.pow_pos (by decide)
  have hc:=code_F x0 x1
  rw [hn] at hc
  have hkk:=kind_F (n:=n) (by omega)
  rw [hk] at hkk
  have hnear:=nearC_F (n:=n) (by omega)
  rw [decide_eq_false (show ¬ 18≤n by omega),Bool.false_and] at hnear
  have hfar:=farC_F (n:=n) (by omega)
  rw [decide_eq_false (show ¬ 21≤n by omega),Bool.false_and] at hfar
  have h1:F_held_in [.int x,.str k,.str "d"]=some (false,.int (x / 16777216 % 8)):=held_num hd (by rfl) (by decide) (by decide) (by decide)
  have h2:F_held_in [.int x,.str k,.str "n"]=some (false,.int (x / 1 % P)):=by rw [← hP]; exact held_num hp (by rfl) (by decide) w0 (by omega)
  rw [Int.ediv_one] at h2
  have hfw:=fw2n (c:=(n:Int)) (d:=x / 16777216 % 8) (n:=x % P) hf hd hp (by omega) (by omega) w0 w1 (by omega) (by omega) (Int.emod_nonneg _ (by omega)) (by rw [hP]; exact Int.emod_lt_of_pos _ p0) hdv
  have hr:=row_of (R:=[.int (x / 16777216 % 8),.int (x % P)]) hc hkk hf (by simp only [lcGo,gVar.eq_1,tTrue,x_row_in_1,shx,h1,h2]) (by rfl) (by simp) hnear (fun h=>by cases h) (fun _=>rfl) hfw
  refine alike_plain A rfl hc hfar hnear hr (law_row A hn (by omega) ho ?_ (lw2n hi hs hin))
  have sl:fSlT (.tup [.str k,.int (x / 16777216 % 8),.int (x / 2097152 % 8)]) none (some 2)=some (.tup [.str k,.int (x / 16777216 % 8)]):=by rfl
  have ad:fAdd (.tup [.str k,.int (x / 16777216 % 8)]) (.tup [.int (x % P)])=some (.tup [.str k,.int (x / 16777216 % 8),.int (x % P)]):=by rfl
  simp! [hs,hin,hin2,hix,eSlT,oNone,oSome,sl,decide_eq_true p0,ad]
theorem alike_two {n:Nat} {k:Str} (hn:x / 134217728=(n:Int)) (n13:n≤13) (hk:kindL.getD n .non=.str k) (ho:fIx orderD (.int (n:Int))=some (.str k)) (hf:F_fields_in_word [.str k]=some (true,.lst [.str "d",.str "s"])) (hd:F_place_in_word [.str k,.str "d"]=some (false,.tup [.int 24,.int 3]))
    (hp:F_place_in_word [.str k,.str "s"]=some (false,.tup [.int 21,.int 3])) (hi:fIndex orderD (.str k)=some (.int (n:Int))) (hs:fEq (.str k) (.str "stop")=some (.bl false))
    (hin:fIn (.str k) (.tup [.str "set",.str "high",.str "left",.str "right"])=some (.bl false)):Alike ws a:=by
  have x0:=A.x0
  have x1:=A.x1
  have hc:=code_F x0 x1
  rw [hn] at hc
  have hkk:=kind_F (n:=n) (by omega)
  rw [hk] at hkk
  have hnear:=nearC_F (n:=n) (by omega)
  rw [decide_eq_false (show ¬ 18≤n by omega),Bool.false_and] at hnear
  have hfar:=farC_F (n:=n) (by omega)
  rw [decide_eq_false (show ¬ 21≤n by omega),Bool.false_and] at hfar
  have h1:F_held_in [.int x,.str k,.str "d"]=some (false,.int (x / 16777216 % 8)):=held_num hd (by rfl) (by decide) (by decide) (by decide)
  have h2:F_held_in [.int x,.str k,.str "s"]=some (false,.int (x / 2097152 % 8)):=held_num hp (by rfl) (by decide) (by decide) (by decide)
  have hfw:=fw2s (c:=(n:Int)) (d:=x / 16777216 % 8) (s:=x / 2097152 % 8) hf hd hp (by omega) (by omega) (by omega) (by omega) (by omega) (by omega)
  have hr:=row_of (R:=[.int (x / 16777216 % 8),.int (x / 2097152 % 8)]) hc hkk hf (by simp only [lcGo,gVar.eq_1,tTrue,x_row_in_1,shx,h1,h2]) (by rfl) (by simp) hnear (fun h=>by cases h) (fun _=>rfl) hfw
  refine alike_plain A rfl hc hfar hnear hr (law_row A hn (by omega) ho ?_ (lw2s hi hs hin))
  have d13:decide (13<(n:Int))=false:=decide_eq_false (by omega)
  simp! [hs,hin,d13]
theorem alike_mem {n:Nat} {k:Str} (hn:x / 134217728=(n:Int)) (n14:14≤n) (n17:n≤17) (hk:kindL.getD n .non=.str k) (ho:fIx orderD (.int (n:Int))=some (.str k)) (hf:F_fields_in_word [.str k]=some (true,.lst [.str "d",.str "s",.str "n"])) (hd:F_place_in_word [.str k,.str "d"]=some (false,.tup [.int 24,.int 3]))
    (hp:F_place_in_word [.str k,.str "s"]=some (false,.tup [.int 21,.int 3])) (hp2:F_place_in_word [.str k,.str "n"]=some (false,.tup [.int 0,.int 8])) (hi:fIndex orderD (.str k)=some (.int (n:Int))) (hs:fEq (.str k) (.str "stop")=some (.bl false))
    (hin:fIn (.str k) (.tup [.str "set",.str "high",.str "left",.str "right"])=some (.bl false)):Alike ws a:=by
  have x0:=A.x0
  have x1:=A.x1
  have hc:=code_F x0 x1
  rw [hn] at hc
  have hkk:=kind_F (n:=n) (by omega)
  rw [hk] at hkk
  have hnear:=nearC_F (n:=n) (by omega)
  rw [decide_eq_false (show ¬ 18≤n by omega),Bool.false_and] at hnear
  have hfar:=farC_F (n:=n) (by omega)
  rw [decide_eq_false (show ¬ 21≤n by omega),Bool.false_and] at hfar
  have h1:F_held_in [.int x,.str k,.str "d"]=some (false,.int (x / 16777216 % 8)):=held_num hd (by rfl) (by decide) (by decide) (by decide)
  have h2:F_held_in [.int x,.str k,.str "s"]=some (false,.int (x / 2097152 % 8)):=held_num hp (by rfl) (by decide) (by decide) (by decide)
  have h3:F_held_in [.int x,.str k,.str "n"]=some (false,.int (x / 1 % 256)):=held_num hp2 (by rfl) (by decide) (by decide) (by decide)
  rw [Int.ediv_one] at h3
  have hfw:=fw3 (c:=(n:Int)) (d:=x / 16777216 % 8) (s:=x / 2097152 % 8) (n:=x % 256) hf hd hp hp2 (by omega) (by omega) (by omega) (by omega) (by omega) (by omega) (by omega) (by omega)
  have hr:=row_of (R:=[.int (x / 16777216 % 8),.int (x / 2097152 % 8),.int (x % 256)]) hc hkk hf (by simp only [lcGo,gVar.eq_1,tTrue,x_row_in_1,shx,h1,h2,h3]) (by rfl) (by simp) hnear (fun h=>by cases h) (fun _=>rfl) hfw
  refine alike_plain A rfl hc hfar hnear hr (law_row A hn (by omega) ho ?_ (lw3 hi hs hin))
  have d13:decide (13<(n:Int))=true:=decide_eq_true (by omega)
  have ad:fAdd (.tup [.str k,.int (x / 16777216 % 8),.int (x / 2097152 % 8)]) (.tup [.int (x % 256)])=some (.tup [.str k,.int (x / 16777216 % 8),.int (x / 2097152 % 8),.int (x % 256)]):=by rfl
  have p0:decide ((0:Int)<256)=true:=rfl
  simp! [hs,hin,d13,p0,ad]
theorem alike_stop (hn:x / 134217728=0):Alike ws a:=by
  have x0:=A.x0
  have x1:=A.x1
  have hc:=code_F x0 x1
  rw [hn] at hc
  have hkk:=kind_F (n:=0) (by decide)
  have hnear:=nearC_F (n:=0) (by decide)
  have hfar:=farC_F (n:=0) (by decide)
  have hf:F_fields_in_word [.str "stop"]=some (true,.lst []):=by rfl
  have hfw:=fw0 (c:=0) (by decide) (by decide) hf
  have hr:=row_of (R:=[]) (Z:=0) (known:=x) hc hkk hf rfl (by rfl) (by simp) hnear (fun h=>by cases h) (fun _=>rfl) hfw
  refine alike_plain A rfl hc hfar hnear hr (law_row A hn (by decide) (by rfl) ?_ lw0)
  have hs:fEq (.str "stop") (.str "stop")=some (.bl true):=by rfl
  simp! [hs]
end
end L3
namespace L3
open PySem
theorem ljw_jump (d:Int) (b:Bool):F_law_jump_words [.tup [.str "jump"],.int d,.bl b]=some (true,.lst (match b with
    | true=>[.int (21*134217728),.int (d % 4294967296)]
    | false=>[.int (18*134217728+d % 32)])):=by
  have pw:powOk 2 27=true∧powOk 2 24=true∧powOk 2 32=true∧lt64 134217728=true∧lt64 16777216=true∧lt64 3=true:=⟨by decide,by decide,by decide,by decide,by decide,by decide⟩
  have i0:fIndex (.lst [.str "jump",.str "when",.str "unless"]) (.str "jump")=some (.int 0):=by rfl
  have ne:fNe (.str "jump") (.str "jump")=some (.bl false):=by rfl
  rw [go_law_jump_words]
  unfold b_law_jump_words
  cases b
  · simp! [ix0,i0,pw,add_int,ne,Bool.false_eq_true,if_false]
  · simp! [ix0,i0,pw,add_int,ne,if_true]
theorem ljw_cond {w k:Str} {c m:Int} (hi:fIndex (.lst [.str "jump",.str "when",.str "unless"]) (.str w)=some (.int c)) (hk:fIndex (.lst [.str "carry",.str "nought",.str "sign"]) (.str k)=some (.int m)) (ne:fNe (.str w) (.str "jump")=some (.bl true)) (d:Int) (b:Bool) :
    F_law_jump_words [.tup [.str w,.str k],.int d,.bl b]=some (true,.lst (match b with
    | true=>[.int ((21+c)*134217728+m*16777216),.int (d % 4294967296)]
    | false=>[.int ((18+c)*134217728+m*16777216+d % 32)])):=by
  have pw:powOk 2 27=true∧powOk 2 24=true∧powOk 2 32=true∧lt64 134217728=true∧lt64 16777216=true∧lt64 3=true:=⟨by decide,by decide,by decide,by decide,by decide,by decide⟩
  have i1:fIx (.tup [.str w,.str k]) (.int 1)=some (.str k):=rfl
  rw [go_law_jump_words]
  unfold b_law_jump_words
  cases b
  · simp! [ix0,i1,hi,hk,pw,add_int,ne,Bool.false_eq_true,if_false,Int.add_zero]
  · have e3:(18+c+3:Int)=21+c:=by omega
    simp! [ix0,i1,hi,hk,pw,add_int,ne,if_true,e3]
section
variable {ws:List D} {a x:Int} (A:At ws a x)
include A
theorem lja_mark {c:Int} {k:Str} (hk:fIx (.lst [.str "jump",.str "when",.str "unless"]) (.int ((c - 18) % 3))=some (.str k)) (m3:x / 16777216 % 4=3):F_law_jump_at [.lst ws,.int a,.int c]=some (false,.non):=by
  have ix:=A.ix
  have p24:powOk 2 24=true:=by decide
  have e3:fEq (.int 3) (.int 3)=some (.bl true):=by rfl
  rw [go_law_jump_at]
  unfold b_law_jump_at
  simp! [ix,hk,p24,m3,e3]
theorem lja_cut {c:Int} {k:Str} (hk:fIx (.lst [.str "jump",.str "when",.str "unless"]) (.int ((c - 18) % 3))=some (.str k)) (hb:decide (20<c)=true) (hl:(ws.length:Int)≤a+1) (m3:x / 16777216 % 4≠3):F_law_jump_at [.lst ws,.int a,.int c]=some (false,.non):=by
  have ix:=A.ix
  have p24:powOk 2 24=true:=by decide
  have e3:=int_ne m3
  have d:decide ((ws.length:Int)<a+1+1)=true:=decide_eq_true (by omega)
  rw [go_law_jump_at]
  unfold b_law_jump_at
  simp! [ix,hk,p24,e3,hb,add_int,if_true,d]
theorem lja_near {c B:Int} {k:Str} {R:List D} (hk:fIx (.lst [.str "jump",.str "when",.str "unless"]) (.int ((c - 18) % 3))=some (.str k)) (hb:decide (20<c)=false) (m3:x / 16777216 % 4≠3)
    (hrow:(sIf (tE (e2 fNe (eVar 4) (eC (.str "jump")))) (sSet 7 (eTup (aCons (eVar 4) (aCons (e2 fIx (eLst (aCons (eC (.str "carry")) (aCons (eC (.str "nought")) (aCons (eC (.str "sign")) aNil)))) (eVar 5)) aNil)))) sNext) [some (false,.lst ws),some (false,.int a),some (false,.int c),some (false,.int x),some (false,.str k),some (false,.int (x / 16777216 % 4)),some (false,.bl false),some (false,.tup [.str "jump"]),none] =
      some (.nx [some (false,.lst ws),some (false,.int a),some (false,.int c),some (false,.int x),some (false,.str k),some (false,.int (x / 16777216 % 4)),some (false,.bl false),some (false,.tup R),none]))
    (hj:∀ d:Int,F_law_jump_words [.tup R,.int d,.bl false]=some (true,.lst [.int (B+d % 32)])) :
    F_law_jump_at [.lst ws,.int a,.int c]=some (false,if B+x % 32=x then .tup [.tup R,.int (a+1),.int (a+(if 2*(x % 32)<32 then x % 32 else x % 32 - 32))] else .non):=by
  have ix:=A.ix
  have a1:=A.a1
  have p24:powOk 2 24=true:=by decide
  have e3:=int_ne m3
  have d:decide ((ws.length:Int)<a+1+0)=false:=decide_eq_false (by omega)
  have d':decide ((ws.length:Int)<a+1)=false:=decide_eq_false (by omega)
  have i0:∀ v:D,fIx (.lst [v]) (.int 0)=some v:=fun _=>rfl
  rw [go_law_jump_at]
  unfold b_law_jump_at
  generalize (sIf (tE (e2 fNe (eVar 4) (eC (.str "jump")))) _ _)=RJ at hrow ⊢
  by_cases h:15<x % 32
  · have hd:decide (15<x % 32)=true:=decide_eq_true h
    have hs:¬ 2*(x % 32)<32:=by omega
    have hw:=hj (x % 32 - 32)
    rw [show (x % 32 - 32) % 32=x % 32 by omega] at hw
    rw [if_neg hs]
    by_cases e:B+x % 32=x
    · rw [if_pos e]
      have hq:=ne_of_eq (int_eq e)
      simp! [ix,hk,p24,e3,hb,add_int,Bool.false_eq_true,if_false,d,d',Int.add_zero,hrow,hd,hw,i0,hq]
    · rw [if_neg e]
      have hq:=ne_of_eq (int_ne e)
      simp! [ix,hk,p24,e3,hb,add_int,Bool.false_eq_true,if_false,d,d',Int.add_zero,hrow,hd,hw,i0,hq]
  · have hd:decide (15<x % 32)=false:=decide_eq_false h
    have hs:2*(x % 32)<32:=by omega
    have hw:=hj (x % 32)
    rw [show (x % 32) % 32=x % 32 by omega] at hw
    rw [if_pos hs]
    by_cases e:B+x % 32=x
    · rw [if_pos e]
      have hq:=ne_of_eq (int_eq e)
      simp! [ix,hk,p24,e3,hb,add_int,Bool.false_eq_true,if_false,d,d',Int.add_zero,hrow,hd,hw,i0,hq]
    · rw [if_neg e]
      have hq:=ne_of_eq (int_ne e)
      simp! [ix,hk,p24,e3,hb,add_int,Bool.false_eq_true,if_false,d,d',Int.add_zero,hrow,hd,hw,i0,hq]
end
end L3
namespace L3
open PySem
section
variable {ws:List D} {a x:Int} (A:At ws a x)
include A
theorem lja_far {c B y:Int} {k:Str} {R:List D} (hk:fIx (.lst [.str "jump",.str "when",.str "unless"]) (.int ((c - 18) % 3))=some (.str k)) (hb:decide (20<c)=true) (m3:x / 16777216 % 4≠3) (hy:fIx (.lst ws) (.int (a+1))=some (.int y)) (hl:a+1<(ws.length:Int))
    (hrow:(sIf (tE (e2 fNe (eVar 4) (eC (.str "jump")))) (sSet 7 (eTup (aCons (eVar 4) (aCons (e2 fIx (eLst (aCons (eC (.str "carry")) (aCons (eC (.str "nought")) (aCons (eC (.str "sign")) aNil)))) (eVar 5)) aNil)))) sNext) [some (false,.lst ws),some (false,.int a),some (false,.int c),some (false,.int x),some (false,.str k),some (false,.int (x / 16777216 % 4)),some (false,.bl true),some (false,.tup [.str "jump"]),none] =
      some (.nx [some (false,.lst ws),some (false,.int a),some (false,.int c),some (false,.int x),some (false,.str k),some (false,.int (x / 16777216 % 4)),some (false,.bl true),some (false,.tup R),none]))
    (hj:∀ d:Int,F_law_jump_words [.tup R,.int d,.bl true]=some (true,.lst [.int B,.int (d % 4294967296)])) :
    F_law_jump_at [.lst ws,.int a,.int c]=some (false,if B=x then .tup [.tup R,.int (a+2),.int (a+(if 2*y<4294967296 then y else y - 4294967296))] else .non):=by
  have ix:=A.ix
  have p24:powOk 2 24=true:=by decide
  have p32:powOk 2 32=true:=by decide
  have e3:=int_ne m3
  have d:decide ((ws.length:Int)<a+1+1)=false:=decide_eq_false (by omega)
  have e11:a+1+1=a+2:=by omega
  have d2:decide ((ws.length:Int)<a+2)=false:=decide_eq_false (by omega)
  have i0:∀ v u:D,fIx (.lst [v,u]) (.int 0)=some v:=fun _ _=>rfl
  rw [go_law_jump_at]
  unfold b_law_jump_at
  generalize (sIf (tE (e2 fNe (eVar 4) (eC (.str "jump")))) _ _)=RJ at hrow ⊢
  obtain ⟨h1,e1⟩:∃ h1,decide (15<x % 32)=h1:=⟨_,rfl⟩
  obtain ⟨h2,e2⟩:∃ h2,decide (2147483647<y)=h2:=⟨_,rfl⟩
  obtain ⟨h3,e3'⟩:∃ h3,decide (B=x)=h3:=⟨_,rfl⟩
  have hq:fNe (.int B) (.int x)=some (.bl (!h3)):=by
    cases h3
    · exact ne_of_eq (int_ne (of_decide_eq_false e3'))
    · exact ne_of_eq (int_eq (of_decide_eq_true e3'))
  have hS:(if 2*y<4294967296 then y else y - 4294967296)=(bif h2 then y - 4294967296 else y):=by
    cases h2
    · have:=of_decide_eq_false e2
      rw [if_pos (by omega)]
      rfl
    · have:=of_decide_eq_true e2
      rw [if_neg (by omega)]
      rfl
  have hB:∀ u v:D,(if B=x then u else v)=(bif h3 then u else v):=fun u v=>by
    cases h3
    · rw [if_neg (of_decide_eq_false e3')]
      rfl
    · rw [if_pos (of_decide_eq_true e3')]
      rfl
  rw [hS,hB]
  have hw:=hj
  cases h1<;>cases h2<;>cases h3<;>simp! [ix,hk,p24,p32,e3,hb,add_int,if_true,d,d2,hrow,e1,hy,e2,hw,i0,hq,e11,cond_true,cond_false]
theorem alike_near {c B:Int} {k:Str} {R:List D} (hR:(D.str k::R).all flatD=true) (h0:18≤x / 134217728) (h1:x / 134217728≤20) (hc:F_code_in [.int x]=some (false,.int c)) (hf:F_is_far_code [.int c]=some (false,.bl false)) (hn:F_is_near_code [.int c]=some (false,.bl true))
    (hr:F_row_in [.int x]=some (false,if B=x+(0 - x % 32)*1 then .tup (.str k::R) else .non)) (hl:F_law_jump_at [.lst ws,.int a,.int (x / 134217728)]=some (false,if B+x % 32=x then .tup [.tup (.str k::R),.int (a+1),.int (a+(if 2*(x % 32)<32 then x % 32 else x % 32 - 32))] else .non)):Alike ws a:=by
  by_cases e:B+x % 32=x
  · rw [if_pos (show B=x+(0 - x % 32)*1 by omega)] at hr
    rw [if_pos e] at hl
    exact ⟨_,told_near A hc hf hn hr,law_jump A h0 (by omega) hl,.inr ⟨_,_,_,rfl,hR,rfl,.inr ⟨_,rfl⟩⟩⟩
  · rw [if_neg (show ¬ B=x+(0 - x % 32)*1 by omega)] at hr
    rw [if_neg e] at hl
    exact ⟨_,told_none A hr,law_jump A h0 (by omega) hl,.inl rfl⟩
theorem alike_far {c B y:Int} {k:Str} {R:List D} (hR:(D.str k::R).all flatD=true) (h0:21≤x / 134217728) (h1:x / 134217728≤23) (hc:F_code_in [.int x]=some (false,.int c)) (hf:F_is_far_code [.int c]=some (false,.bl true)) (hy:fIx (.lst ws) (.int (a+1))=some (.int y)) (hl':a+1<(ws.length:Int))
    (hr:F_row_in [.int x]=some (false,if B=x then .tup (.str k::R) else .non)) (hl:F_law_jump_at [.lst ws,.int a,.int (x / 134217728)]=some (false,if B=x then .tup [.tup (.str k::R),.int (a+2),.int (a+(if 2*y<4294967296 then y else y - 4294967296))] else .non)):Alike ws a:=by
  by_cases e:B=x
  · rw [if_pos e] at hr hl
    exact ⟨_,told_far A hc hf hr hy hl',law_jump A (by omega) h1 hl,.inr ⟨_,_,_,rfl,hR,rfl,.inr ⟨_,rfl⟩⟩⟩
  · rw [if_neg e] at hr hl
    exact ⟨_,told_none A hr,law_jump A (by omega) h1 hl,.inl rfl⟩
theorem known_F:F_with_number [.int x,.tup [.int 0,.int 5],.int 0]=some (false,.int (x+(0 - x % 32)*1)):=by
  have h:=wn_F (x:=x) (l:=0) (d:=5) (n:=0) ⟨⟨A.x0,by decide,by decide,by decide,by decide⟩,by decide,by decide⟩
  rw [h]
  have e:x / 2 ^ (0:Int).toNat % 2 ^ (5:Int).toNat=x % 32:=by
    show x / 1 % 32=x % 32
    rw [Int.ediv_one]
  rw [e]
  rfl
theorem alike_jump {n:Nat} (hn:x / 134217728=(n:Int)) (h:n=18∨n=21) (hws:∀ i:Nat,∀ d,ws[i]?=some d→∃ y:Int,d=.int y):Alike ws a:=by
  have x0:=A.x0
  have x1:=A.x1
  have a0:=A.a0
  have hc:=code_F x0 x1
  rw [hn] at hc
  have hkk:=kind_F (n:=n) (by omega)
  have hf:F_fields_in_word [.str "jump"]=some (true,.lst []):=by rfl
  have hfw:=fw0 (c:=(n:Int)) (by omega) (by omega) hf
  have hne:fNe (.str "jump") (.str "jump")=some (.bl false):=by rfl
  have hnear:=nearC_F (n:=n) (by omega)
  have hfar:=farC_F (n:=n) (by omega)
  rcases h with rfl | rfl
  · have hr:=row_of (R:=[]) (known:=x+(0 - x % 32)*1) hc hkk hf rfl (by rfl) (by decide) hnear (fun _=>known_F A) (fun h=>by cases h) hfw
    by_cases m3:x / 16777216 % 4=3
    · have hz:¬ ((18:Nat):Int)*134217728=x+(0 - x % 32)*1:=by omega
      rw [if_neg hz] at hr
      exact ⟨_,told_none A hr,law_jump A (by omega) (by omega) (lja_mark A (k := "jump") (by rw [hn]; rfl) m3),.inl rfl⟩
    · refine alike_near A rfl (by omega) (by omega) hc hfar hnear hr ?_
      rw [hn]
      refine lja_near A (k := "jump") (by rfl) (by rfl) m3 ?_ fun d=>ljw_jump d false
      simp! [hne]
  · have hr:=row_of (R:=[]) (known:=x) hc hkk hf rfl (by rfl) (by decide) hnear (fun h=>by cases h) (fun _=>rfl) hfw
    by_cases m3:x / 16777216 % 4=3
    · have hz:¬ ((21:Nat):Int)*134217728=x:=by omega
      rw [if_neg hz] at hr
      exact ⟨_,told_none A hr,law_jump A (by omega) (by omega) (lja_mark A (k := "jump") (by rw [hn]; rfl) m3),.inl rfl⟩
    · by_cases hl:a+1<(ws.length:Int)
      · obtain ⟨y,hy⟩:=hws (a.toNat+1) _ (List.getElem?_eq_getElem (by omega))
        have hy':fIx (.lst ws) (.int (a+1))=some (.int y):=at_nat (by omega) (by rw [show (a+1).toNat=a.toNat+1 by omega,List.getElem?_eq_getElem (by omega),hy])
        refine alike_far A rfl (by omega) (by omega) hc hfar hy' hl hr ?_
        rw [hn]
        refine lja_far A (k := "jump") (by rfl) (by rfl) m3 hy' hl ?_ fun d=>ljw_jump d true
        simp! [hne]
      · refine ⟨.non,?_,law_jump A (by omega) (by omega) (lja_cut A (k := "jump") (by rw [hn]; rfl) (by rw [hn]; rfl) (by omega) m3),.inl rfl⟩
        by_cases e:((21:Nat):Int)*134217728=x
        · rw [if_pos e] at hr
          exact told_cut A hc hfar hr (by omega)
        · rw [if_neg e] at hr
          exact told_none A hr
theorem alike_cond {n:Nat} {q:Int} {k:Str} (hn:x / 134217728=(n:Int)) (h:(n:Int)=18+q∨(n:Int)=21+q) (q0:1≤q) (q1:q≤2) (hk:kindL.getD n .non=.str k) (hix:fIx (.lst [.str "jump",.str "when",.str "unless"]) (.int (((n:Int) - 18) % 3))=some (.str k))
    (hi:fIndex (.lst [.str "jump",.str "when",.str "unless"]) (.str k)=some (.int q)) (hne:fNe (.str k) (.str "jump")=some (.bl true)) (hf:F_fields_in_word [.str k]=some (true,.lst [.str "mark"])) (hp:F_place_in_word [.str k,.str "mark"]=some (false,.tup [.int 24,.int 2]))
    (hws:∀ i:Nat,∀ d,ws[i]?=some d→∃ y:Int,d=.int y):Alike ws a:=by
  have x0:=A.x0
  have x1:=A.x1
  have a0:=A.a0
  have hc:=code_F x0 x1
  rw [hn] at hc
  have hkk:=kind_F (n:=n) (by omega)
  rw [hk] at hkk
  have hm:=held_mark (x:=x) hp
  have hnear:=nearC_F (n:=n) (by omega)
  have hfar:=farC_F (n:=n) (by omega)
  by_cases m3:x / 16777216 % 4=3
  · rw [m3] at hm
    have hr:=row_no (R:=[.non]) (b:=true) hc hkk hf (by simp only [lcGo,gVar.eq_1,tTrue,x_row_in_1,shx,hm]; rfl) (by rfl) (by simp)
    exact ⟨_,told_none A hr,law_jump A (by omega) (by omega) (lja_mark A (by rw [hn]; exact hix) m3),.inl rfl⟩
  · obtain ⟨mk,hmk,hme,hmi,hmt⟩:∃ mk:Str,markL.getD (x / 16777216 % 4).toNat .non=.str mk∧fIx (.lst [.str "carry",.str "nought",.str "sign"]) (.int (x / 16777216 % 4))=some (.str mk)∧fIndex (.lst [.str "carry",.str "nought",.str "sign"]) (.str mk)=some (.int (x / 16777216 % 4))∧fTix gl_MARKS (.str mk)=some (.int (x / 16777216 % 4)):=by
      rcases (show x / 16777216 % 4=0∨x / 16777216 % 4=1∨x / 16777216 % 4=2 by omega) with e | e | e<;>rw [e]
      · exact ⟨"carry",rfl,rfl,by rfl,by rfl⟩
      · exact ⟨"nought",rfl,rfl,by rfl,by rfl⟩
      · exact ⟨"sign",rfl,rfl,by rfl,by rfl⟩
    rw [hmk] at hm
    have hfw:=fwc (c:=(n:Int)) (m:=x / 16777216 % 4) (k:=mk) hf hp hmt (by omega) (by omega) (by omega) (by omega)
    have hl1:lcGo (gVar 5) tTrue x_row_in_1 [some (false,.int x),some (false,.int (n:Int)),some (false,.str k),none,none,none] [.str "mark"]=some [.str mk]:=by simp only [lcGo,gVar.eq_1,tTrue,x_row_in_1,shx,hm]
    rcases h with h | h
    · rw [decide_eq_true (show 18≤n by omega),decide_eq_true (show n≤20 by omega),Bool.and_self] at hnear
      rw [decide_eq_false (show ¬ 21≤n by omega),Bool.false_and] at hfar
      have hr:=row_of (R:=[.str mk]) (known:=x+(0 - x % 32)*1) hc hkk hf hl1 (by rfl) (by simp) hnear (fun _=>known_F A) (fun h=>by cases h) hfw
      refine alike_near A rfl (by omega) (by omega) hc hfar hnear hr ?_
      rw [hn]
      refine lja_near A hix (decide_eq_false (by omega)) m3 ?_ fun d=>by rw [h]; exact ljw_cond hi hmi hne d false
      simp! [hne,hme]
    · rw [decide_eq_false (show ¬ n≤20 by omega),Bool.and_false] at hnear
      rw [decide_eq_true (show 21≤n by omega),decide_eq_true (show n≤23 by omega),Bool.and_self] at hfar
      have hr:=row_of (R:=[.str mk]) (known:=x) hc hkk hf hl1 (by rfl) (by simp) hnear (fun h=>by cases h) (fun _=>rfl) hfw
      by_cases hl:a+1<(ws.length:Int)
      · obtain ⟨y,hy⟩:=hws (a.toNat+1) _ (List.getElem?_eq_getElem (by omega))
        have hy':fIx (.lst ws) (.int (a+1))=some (.int y):=at_nat (by omega) (by rw [show (a+1).toNat=a.toNat+1 by omega,List.getElem?_eq_getElem (by omega),hy])
        refine alike_far A rfl (by omega) (by omega) hc hfar hy' hl hr ?_
        rw [hn]
        refine lja_far A hix (decide_eq_true (by omega)) m3 hy' hl ?_ fun d=>by rw [h]; exact ljw_cond hi hmi hne d true
        simp! [hne,hme]
      · refine ⟨.non,?_,law_jump A (by omega) (by omega) (lja_cut A (by rw [hn]; exact hix) (by rw [hn]; exact decide_eq_true (by omega)) (by omega) m3),.inl rfl⟩
        by_cases e:(n:Int)*134217728+x / 16777216 % 4*16777216=x
        · rw [if_pos e] at hr
          exact told_cut A hc hfar hr (by omega)
        · rw [if_neg e] at hr
          exact told_none A hr
end
theorem alike_all {ns:List Int} (h:∀ m∈ns,0≤m∧m<4294967296) (a:Int):Alike (ns.map D.int) a:=by
  by_cases hr:0≤a∧a<((ns.map D.int).length:Int)
  case neg=>exact ⟨_,told_out (by omega),law_out (by omega),.inl rfl⟩
  obtain ⟨a0,a1⟩:=hr
  have a1':a.toNat<ns.length:=by rw [List.length_map] at a1; omega
  have hm:=h _ (List.getElem_mem a1')
  obtain ⟨x,hx⟩:∃ x,x=ns[a.toNat]:=⟨_,rfl⟩
  rw [← hx] at hm
  have A:At (ns.map D.int) a x:=⟨a0,a1,at_nat a0 (by rw [List.getElem?_map,List.getElem?_eq_getElem a1',hx]; rfl),hm.1,hm.2⟩
  have hws:∀ i:Nat,∀ d,(ns.map D.int)[i]?=some d→∃ y:Int,d=.int y:=fun i d hd=>by
    rw [List.getElem?_map] at hd
    cases e:ns[i]? with
    | none=>rw [e] at hd; cases hd
    | some y=>rw [e] at hd; cases hd; exact ⟨y,rfl⟩
  obtain ⟨n,hn⟩:=Int.eq_ofNat_of_zero_le (show 0≤x / 134217728 by omega)
  have hn:x / 134217728=(n:Int):=hn
  by_cases hh:24≤n
  · have hc:=code_F hm.1 hm.2
    rw [hn] at hc
    have hkk:=kind_F (n:=n) (by omega)
    rw [show kindL.getD n .non=.non from by rw [List.getD_eq_getElem?_getD,List.getElem?_eq_none (by show 24≤n; exact hh)]; rfl] at hkk
    exact ⟨_,told_none A (row_none hc hkk),law_high A (by omega),.inl rfl⟩
  · rcases (show n=0∨n=1∨n=2∨n=3∨n=4∨n=5∨n=6∨n=7∨n=8∨n=9∨n=10∨n=11∨n=12∨n=13∨n=14∨n=15∨n=16∨n=17∨n=18∨n=19∨n=20∨n=21∨n=22∨n=23 by omega) with
      rfl | rfl | rfl | rfl | rfl | rfl | rfl | rfl | rfl | rfl | rfl | rfl | rfl | rfl | rfl | rfl | rfl | rfl | rfl | rfl | rfl | rfl | rfl | rfl
    · exact alike_stop A hn
    · exact alike_num A (W:=16) (P:=65536) hn (by decide) rfl (by rfl) (by rfl) (by rfl) (by rfl) (by decide) (by decide) (by decide) (by decide) (by rfl) (by rfl) (by rfl) (by rfl) (by rfl)
    · exact alike_num A (W:=16) (P:=65536) hn (by decide) rfl (by rfl) (by rfl) (by rfl) (by rfl) (by decide) (by decide) (by decide) (by decide) (by rfl) (by rfl) (by rfl) (by rfl) (by rfl)
    · exact alike_two A hn (by decide) rfl (by rfl) (by rfl) (by rfl) (by rfl) (by rfl) (by rfl) (by rfl)
    · exact alike_two A hn (by decide) rfl (by rfl) (by rfl) (by rfl) (by rfl) (by rfl) (by rfl) (by rfl)
    · exact alike_two A hn (by decide) rfl (by rfl) (by rfl) (by rfl) (by rfl) (by rfl) (by rfl) (by rfl)
    · exact alike_two A hn (by decide) rfl (by rfl) (by rfl) (by rfl) (by rfl) (by rfl) (by rfl) (by rfl)
    · exact alike_two A hn (by decide) rfl (by rfl) (by rfl) (by rfl) (by rfl) (by rfl) (by rfl) (by rfl)
    · exact alike_two A hn (by decide) rfl (by rfl) (by rfl) (by rfl) (by rfl) (by rfl) (by rfl) (by rfl)
    · exact alike_two A hn (by decide) rfl (by rfl) (by rfl) (by rfl) (by rfl) (by rfl) (by rfl) (by rfl)
    · exact alike_two A hn (by decide) rfl (by rfl) (by rfl) (by rfl) (by rfl) (by rfl) (by rfl) (by rfl)
    · exact alike_two A hn (by decide) rfl (by rfl) (by rfl) (by rfl) (by rfl) (by rfl) (by rfl) (by rfl)
    · exact alike_num A (W:=5) (P:=32) hn (by decide) rfl (by rfl) (by rfl) (by rfl) (by rfl) (by decide) (by decide) (by decide) (by decide) (by rfl) (by rfl) (by rfl) (by rfl) (by rfl)
    · exact alike_num A (W:=5) (P:=32) hn (by decide) rfl (by rfl) (by rfl) (by rfl) (by rfl) (by decide) (by decide) (by decide) (by decide) (by rfl) (by rfl) (by rfl) (by rfl) (by rfl)
    · exact alike_mem A hn (by decide) (by decide) rfl (by rfl) (by rfl) (by rfl) (by rfl) (by rfl) (by rfl) (by rfl) (by rfl)
    · exact alike_mem A hn (by decide) (by decide) rfl (by rfl) (by rfl) (by rfl) (by rfl) (by rfl) (by rfl) (by rfl) (by rfl)
    · exact alike_mem A hn (by decide) (by decide) rfl (by rfl) (by rfl) (by rfl) (by rfl) (by rfl) (by rfl) (by rfl) (by rfl)
    · exact alike_mem A hn (by decide) (by decide) rfl (by rfl) (by rfl) (by rfl) (by rfl) (by rfl) (by rfl) (by rfl) (by rfl)
    · exact alike_jump A hn (.inl rfl) hws
    · exact alike_cond A (q:=1) hn (.inl rfl) (by decide) (by decide) rfl (by rfl) (by rfl) (by rfl) (by rfl) (by rfl) hws
    · exact alike_cond A (q:=2) hn (.inl rfl) (by decide) (by decide) rfl (by rfl) (by rfl) (by rfl) (by rfl) (by rfl) hws
    · exact alike_jump A hn (.inr rfl) hws
    · exact alike_cond A (q:=1) hn (.inr rfl) (by decide) (by decide) rfl (by rfl) (by rfl) (by rfl) (by rfl) (by rfl) hws
    · exact alike_cond A (q:=2) hn (.inr rfl) (by decide) (by decide) rfl (by rfl) (by rfl) (by rfl) (by rfl) (by rfl) hws
end L3
namespace L3
open PySem
noncomputable def b_row_at:FSX:=
  (xSeq (sSet 2 (eCall F_told_at (aCons (eVar 0) (aCons (eVar 1) aNil))))
    (xRaise (tE (e2 fIsN (eVar 2) (eC .non))) (aCons (eC (.str "no row stands at that address")) aNil) "BadWords"
      (xOf (sRet (eVar 2)))))
noncomputable def F_row_at:FX:=FRX 2 3 b_row_at
theorem go_row_at (x0 x1:D):F_row_at [x0,x1]=runX 3 b_row_at [x0,x1]:=rfl
noncomputable def B_law_bad:Str→Option Bool:=fun x=>if x = "BadWords" then some true else none
theorem rowat_no {ws:List D} {a:Int} (h:F_told_at [.lst ws,.int a]=some (false,.non)):F_row_at [.lst ws,.int a]=some (.inr "BadWords"):=by
  rw [go_row_at]
  unfold b_row_at runX
  simp only [xSeq,xRaise,xOf,shx,Nat.reduceAdd,Nat.reduceSub,h]
  rfl
theorem rowat_yes {ws R:List D} {a:Int} (h:F_told_at [.lst ws,.int a]=some (false,.tup R)):F_row_at [.lst ws,.int a]=some (.inl (false,.tup R)):=by
  rw [go_row_at]
  unfold b_row_at runX
  simp only [xSeq,xRaise,xOf,shx,Nat.reduceAdd,Nat.reduceSub,h]
theorem plain_word {r:D} (h:PlainRow r):∃ v:Int,F_law_word [r]=some (false,.int v)∧0≤v∧v<4294967296:=by
  cases h with
  | stop=>exact ⟨_,lw0,by decide,by decide⟩
  | imm hw d0 d1 n0 n1=>
    rcases hw with rfl | rfl
    · exact ⟨_,lw2n (c:=1) (by rfl) (by rfl) (by rfl),by omega,by omega⟩
    · exact ⟨_,lw2n (c:=2) (by rfl) (by rfl) (by rfl),by omega,by omega⟩
  | two hw d0 d1 s0 s1=>
    rcases hw with rfl | rfl | rfl | rfl | rfl | rfl | rfl | rfl | rfl
    · exact ⟨_,lw2s (c:=3) (by rfl) (by rfl) (by rfl),by omega,by omega⟩
    · exact ⟨_,lw2s (c:=4) (by rfl) (by rfl) (by rfl),by omega,by omega⟩
    · exact ⟨_,lw2s (c:=5) (by rfl) (by rfl) (by rfl),by omega,by omega⟩
    · exact ⟨_,lw2s (c:=6) (by rfl) (by rfl) (by rfl),by omega,by omega⟩
    · exact ⟨_,lw2s (c:=7) (by rfl) (by rfl) (by rfl),by omega,by omega⟩
    · exact ⟨_,lw2s (c:=8) (by rfl) (by rfl) (by rfl),by omega,by omega⟩
    · exact ⟨_,lw2s (c:=9) (by rfl) (by rfl) (by rfl),by omega,by omega⟩
    · exact ⟨_,lw2s (c:=10) (by rfl) (by rfl) (by rfl),by omega,by omega⟩
    · exact ⟨_,lw2s (c:=11) (by rfl) (by rfl) (by rfl),by omega,by omega⟩
  | mov hw d0 d1 n0 n1=>
    rcases hw with rfl | rfl
    · exact ⟨_,lw2n (c:=12) (by rfl) (by rfl) (by rfl),by omega,by omega⟩
    · exact ⟨_,lw2n (c:=13) (by rfl) (by rfl) (by rfl),by omega,by omega⟩
  | mem hw d0 d1 s0 s1 n0 n1=>
    rcases hw with rfl | rfl | rfl | rfl
    · exact ⟨_,lw3 (c:=14) (by rfl) (by rfl) (by rfl),by omega,by omega⟩
    · exact ⟨_,lw3 (c:=15) (by rfl) (by rfl) (by rfl),by omega,by omega⟩
    · exact ⟨_,lw3 (c:=16) (by rfl) (by rfl) (by rfl),by omega,by omega⟩
    · exact ⟨_,lw3 (c:=17) (by rfl) (by rfl) (by rfl),by omega,by omega⟩
end L3
namespace L3
open PySem
noncomputable def l_law_told_1:FS:=(sIf (tAndF (tE (e2 fNotN (eVar 5) (eC .non))) (tOrF (tNotF (tE (eIsi .int (eVar 5)))) (tE (eIsi .bool (eVar 5)))))
          (sRet (eC (.bl false)))
          sNext)
noncomputable def b_law_told:FS:=
  (sSeq (sSet 2 (eCall F_law_row_at (aCons (eVar 0) (aCons (eVar 1) aNil))))
    (sSeq (sTry 3 4 "BadWords" F_row_at (aCons (eVar 0) (aCons (eVar 1) aNil)) (e2 fIsN (eVar 2) (eC .non)) B_law_bad)
    (sSeq (sIf (tOrF (tE (e2 fIsN (eVar 2) (eC .non))) (tOrF (tNotF (tE (eIsi .tuple (eVar 3)))) (tOrF (tE (e2 fNe (eVar 3) (eVar 2))) (tNotF (tE (eIsi .tuple (e2 fIx (eVar 3) (eC (.int 0)))))))))
      (sRet (eC (.bl false)))
      sNext)
    (sSeq (sFor (iSeq (eSlT (eVar 3) (oSome (eC (.int 1))) oNone)) (gVar 5)
      l_law_told_1)
    (sRet (eC (.bl true)))))))
noncomputable def F_law_told:List D→Option (Bool×D):=FR 2 6 b_law_told
theorem run_law_told:∀ ds r,F_law_told ds=some r→ds.length=2∧runF 6 b_law_told ds=some r:=FR_ok
theorem go_law_told (x0 x1:D):F_law_told [x0,x1]=runF 6 b_law_told [x0,x1]:=rfl
noncomputable def l_law_reaching_1:FS:=(sSeq (sSet 1 (eL fSorted (aCons (e2 fAdd (eVar 1) (eVar 2)) aNil)))
        (sSet 2 (eCall F_law_near_ones (aCons (eVar 0) (aCons (eVar 1) aNil)))))
noncomputable def c_law_reaching_1:FT:=(tE (e2 fNe (eVar 2) (eLst aNil)))
noncomputable def b_law_reaching:FS:=
  (sSeq (sSet 2 (eCall F_law_near_ones (aCons (eVar 0) (aCons (eVar 1) aNil))))
    (sSeq (sWhile c_law_reaching_1
      l_law_reaching_1)
    (sRet (eVar 1))))
noncomputable def F_law_reaching:List D→Option (Bool×D):=FR 2 3 b_law_reaching
theorem run_law_reaching:∀ ds r,F_law_reaching ds=some r→ds.length=2∧runF 3 b_law_reaching ds=some r:=FR_ok
theorem go_law_reaching (x0 x1:D):F_law_reaching [x0,x1]=runF 3 b_law_reaching [x0,x1]:=rfl
noncomputable def x_law_any_far_1:FE:=(eVar 3)
noncomputable def y_law_any_far_1:FT:=(tE (e2 (fCmp fun i j=>decide (i<j)) (e2 fMod (eCall F_law_mixed (aCons (eVar 1) (aCons (eVar 3) aNil))) (eC (.int 4))) (eVar 2)))
noncomputable def b_law_any_far:FS:=
  (sRet (eCall F_law_reaching (aCons (eVar 0) (aCons (eLc 1 (iSeq (eCall F_law_jumps_in (aCons (eVar 0) aNil))) (gVar 3) y_law_any_far_1 x_law_any_far_1) aNil))))
noncomputable def F_law_any_far:List D→Option (Bool×D):=FR 3 3 b_law_any_far
theorem run_law_any_far:∀ ds r,F_law_any_far ds=some r→ds.length=3∧runF 3 b_law_any_far ds=some r:=FR_ok
theorem go_law_any_far (x0 x1 x2:D):F_law_any_far [x0,x1,x2]=runF 3 b_law_any_far [x0,x1,x2]:=rfl
noncomputable def r_law_written_1:FA:=(iRange (eC (.int 0)) (eL fLen (aCons (eVar 0) aNil)))
noncomputable def l_law_written_1:FS:=(sIf (tE (e2 fIn (e2 fIx (e2 fIx (eVar 0) (eVar 4)) (eC (.int 0))) (eTup (aCons (eC (.str "jump")) (aCons (eC (.str "when")) (aCons (eC (.str "unless")) aNil))))))
          (sSeq (sSet 5 (e2 fSub (e2 fIx (eVar 2) (e2 fIx (e2 fIx (eVar 0) (eVar 4)) (e1 fNeg (eC (.int 1))))) (e2 fIx (eVar 2) (eVar 4))))
            (sSetO 3 (e2 fCat (eAny 3) (eCall F_law_jump_words (aCons (e2 fIx (eVar 0) (eVar 4)) (aCons (eVar 5) (aCons (e2 fIn (eVar 4) (eVar 1)) aNil)))))))
          (sMut1 3 fApp (eCall F_law_word (aCons (e2 fIx (eVar 0) (eVar 4)) aNil))))
noncomputable def b_law_written:FS:=
  (sSeq (sSet 2 (eCall F_law_stands (aCons (eVar 0) (aCons (eVar 1) aNil))))
    (sSeq (sSetO 3 (eLst aNil))
    (sSeq (sFor r_law_written_1 (gVar 4)
      l_law_written_1)
    (sRetV 3))))
noncomputable def F_law_written:List D→Option (Bool×D):=FR 2 6 b_law_written
theorem run_law_written:∀ ds r,F_law_written ds=some r→ds.length=2∧runF 6 b_law_written ds=some r:=FR_ok
theorem go_law_written (x0 x1:D):F_law_written [x0,x1]=runF 6 b_law_written [x0,x1]:=rfl
noncomputable def r_law_1:FA:=(iRange (e1 fNeg (eC (.int 1))) (e2 fAdd (eL fLen (aCons (eVar 3) aNil)) (eC (.int 2))))
noncomputable def l_law_1:FS:=(sIf (tNotF (tE (eCall F_law_told (aCons (eVar 4) (aCons (eVar 5) aNil)))))
          (sRet (eC (.bl false)))
          sNext)
noncomputable def b_law:FS:=
  (sSeq (sSet 1 (e2 fIx (eCall F_law_built (aCons (eVar 0) aNil)) (eC (.int 0))))
    (sSeq (sSet 2 (eCall F_law_cell_at (aCons (eVar 0) (aCons (eC (.int 2)) aNil))))
    (sSeq (sSet 3 (eCall F_law_written (aCons (eVar 1) (aCons (eCall F_law_any_far (aCons (eVar 1) (aCons (eVar 2) (aCons (e2 fMod (eVar 2) (eC (.int 5))) aNil)))) aNil))))
    (sSeq (sSet 4 (eL fList (aCons (eVar 3) aNil)))
    (sSeq (sFor r_law_1 (gVar 5)
      l_law_1)
    (sRet (e2 fEq (eVar 4) (eVar 3))))))))
theorem told_true {ns:List Int} (h:∀ m∈ns,0≤m∧m<4294967296) (a:Int):F_law_told [.lst (ns.map D.int),.int a]=some (false,.bl true):=by
  obtain ⟨r,h1,h2,h3⟩:=alike_all h a
  generalize ns.map D.int=ws at h1 h2 ⊢
  rw [go_law_told]
  unfold b_law_told
  rcases h3 with rfl | ⟨R,n,t,rfl,hR,ht,ht2⟩
  · have e:=rowat_no h1
    simp only [shx,Nat.reduceAdd,Nat.reduceSub,h2,sTry,e,B_law_bad,if_true]
  · have e:=rowat_yes h1
    have q:fNe (.tup [.tup R,.int n,t]) (.tup [.tup R,.int n,t])=some (.bl false):=ne_self (by
      have h5:okD 5 t=true:=by cases t<;>first | (cases ht; done) | rfl
      have h4:∀ d∈R,okD 4 d=true:=fun d hd=>by
        have:=List.all_eq_true.mp hR d hd
        cases d<;>first | (cases this; done) | rfl
      show List.all [D.tup R,.int n,t] (okD 5)=true
      rw [List.all_cons,List.all_cons,List.all_cons,List.all_nil,h5]
      have h6:okD 5 (.tup R)=true:=List.all_eq_true.mpr h4
      rw [h6]
      rfl)
    have i0:fIx (.tup [.tup R,.int n,t]) (.int 0)=some (.tup R):=rfl
    have sl:fSlT (.tup [.tup R,.int n,t]) (some 1) none=some (.tup [.int n,t]):=rfl
    have st:∀ (σ:SEnv) (x5:Option Sl),σ=[some (false,.lst ws),some (false,.int a),some (false,.tup [.tup R,.int n,t]),some (false,.tup [.tup R,.int n,t]),none,x5]→loopG (gVar 5) l_law_told_1 [.int n,t] σ=some (.nx [some (false,.lst ws),some (false,.int a),some (false,.tup [.tup R,.int n,t]),some (false,.tup [.tup R,.int n,t]),none,some (false,t)]):=fun σ x5 e=>by
      subst e
      have one:∀ (d:D) (x:Option Sl),(d=.non∨∃ i:Int,d=.int i)→l_law_told_1 [some (false,.lst ws),some (false,.int a),some (false,.tup [.tup R,.int n,t]),some (false,.tup [.tup R,.int n,t]),none,some (false,d)]=some (.nx [some (false,.lst ws),some (false,.int a),some (false,.tup [.tup R,.int n,t]),some (false,.tup [.tup R,.int n,t]),none,some (false,d)]):=fun d x hd=>by
        unfold l_law_told_1
        generalize D.tup [.tup R,.int n,t]=T
        rcases hd with rfl | ⟨i,rfl⟩
        · simp! []
        · simp! []
      generalize hT:D.tup [.tup R,.int n,t]=T at *
      have o1:=one (.int n) none (.inr ⟨_,rfl⟩)
      have o2:=one t none ht2
      simp! [o1,o2]
    simp only [shx,Nat.reduceAdd,Nat.reduceSub,h2,sTry,e,q,i0,eSlT,oSome,oNone,sl,seqD,st _ _ rfl]
theorem reaching_loop {rows:List D} (hf:∀ far,F_law_near_ones [.lst rows,.lst (farD far)]=some (true,.lst (farD (gF rows far)))):∀ {far R:List Nat} {k:Nat},Rounds (gF rows) far R k→
    whileG c_law_reaching_1 l_law_reaching_1 (k+1) [some (false,.lst rows),some (false,.lst (farD far)),some (false,.lst (farD (gF rows far)))]=some (.nx [some (false,.lst rows),some (false,.lst (farD R)),some (false,.lst (farD []))])
  | far,_,_,.stop e=>by
    rw [whileG_end]
    · rw [e]
    · have h:=ne_nil (farD (gF rows far))
      rw [e] at h ⊢
      unfold c_law_reaching_1
      simp! [h]
      rfl
  | far,_,_,.go e h r=>by
    rw [whileG_go (σ':=[some (false,.lst rows),some (false,.lst (farD (sortN (far++gF rows far)))),some (false,.lst (farD (gF rows (sortN (far++gF rows far)))))]) ?_ ?_]
    · exact reaching_loop hf r
    · have h:=ne_nil (farD (gF rows far))
      rw [far_empty,decide_eq_true e] at h
      unfold c_law_reaching_1
      simp! [h]
    · have h1:=add_far h
      have h2:=sorted_far h
      have h3:=hf (sortN (far++gF rows far))
      unfold l_law_reaching_1
      simp! [h1,h2,h3]
theorem any_far_F {rows:List D} (hr:∀ r∈rows,RowG (rows.length:Int) r) (hn:rows.length<64) (c m:Int):∃ R:List Nat,F_law_any_far [.lst rows,.int c,.int m]=some (false,.lst (farD R)):=by
  obtain ⟨far0,e0⟩:∃ f:List Nat,f=(jumpIx rows).filter fun i:Nat=>decide (mixN c (i:Int) % 4<m):=⟨_,rfl⟩
  have g0:Good rows.length far0:=by
    rw [e0]
    refine ⟨(List.nodup_range.sublist List.filter_sublist).sublist List.filter_sublist,fun x hx=>?_⟩
    exact (jumpIx_mem (List.mem_filter.mp hx).1).1
  obtain ⟨R,k,hR,hk,gr⟩:=rounds_end hn (fun far=>good_g (rows:=rows)) rows.length far0 g0 (Nat.sub_le _ _)
  have hf:∀ far,F_law_near_ones [.lst rows,.lst (farD far)]=some (true,.lst (farD (gF rows far))):=fun far=>near_ones_F hr (by omega)
  have e1:=reaching_loop hf hR
  have e2:=sWhile_of _ e1 (Nat.le_trans (show k+1≤65 by omega) (by decide))
  have e3:=hf far0
  have e4:F_law_reaching [.lst rows,.lst (farD far0)]=some (false,.lst (farD R)):=by
    rw [go_law_reaching]
    unfold b_law_reaching
    simp! [e3,e2]
  have ej:=jumps_F hr (by omega)
  have el:lcGo (gVar 3) y_law_any_far_1 x_law_any_far_1 [some (false,.lst rows),some (false,.int c),some (false,.int m),none] ((jumpIx rows).map fun i:Nat=>D.int i)=some (farD far0):=by
    have h2:=lc_all (g:=gVar 3) (c:=y_law_any_far_1) (e:=x_law_any_far_1) (σ:=[some (false,.lst rows),some (false,.int c),some (false,.int m),none]) (fun d=>match d with | .int i=>decide (mixN c i % 4<m) | _=>false) id (ds:=(jumpIx rows).map fun i:Nat=>D.int i) fun d hd=>by
      obtain ⟨i,_,rfl⟩:=List.mem_map.mp hd
      have hm:=mixed_F c (i:Int)
      refine ⟨_,rfl,?_,fun _=>?_⟩
      · unfold y_law_any_far_1
        show tE _ [some (false,.lst rows),some (false,.int c),some (false,.int m),some (false,.int (i:Int))]=_
        simp! [hm]
      · unfold x_law_any_far_1
        rfl
    rw [h2,e0]
    unfold farD
    rw [List.map_id,List.filter_map]
    rfl
  refine ⟨R,?_⟩
  rw [go_law_any_far]
  unfold b_law_any_far
  simp! [ej,seqD,el,e4]
theorem ljw_row {n:Int} {r:D} (h:JRow n r) (d:Int) (b:Bool):∃ ws:List Int,F_law_jump_words [r,.int d,.bl b]=some (true,.lst (ws.map D.int))∧(∀ m∈ws,0≤m∧m<4294967296)∧ws.length≤2:=by
  have pw:powOk 2 27=true∧powOk 2 24=true∧powOk 2 32=true∧lt64 134217728=true∧lt64 16777216=true∧lt64 3=true:=⟨by decide,by decide,by decide,by decide,by decide,by decide⟩
  have two:∀ {v w:Int},0≤v→v<4294967296→0≤w→w<4294967296→∀ m∈[v,w],0≤m∧m<4294967296:=fun h0 h1 h2 h3 m hm=>by
    rcases List.mem_cons.mp hm with rfl | hm
    · exact ⟨h0,h1⟩
    · cases List.mem_singleton.mp hm; exact ⟨h2,h3⟩
  have one:∀ {v:Int},0≤v→v<4294967296→∀ m∈[v],0≤m∧m<4294967296:=fun h0 h1 m hm=>by cases List.mem_singleton.mp hm; exact ⟨h0,h1⟩
  cases h with
  | jump p0 p1=>
    have i0:fIndex (.lst [.str "jump",.str "when",.str "unless"]) (.str "jump")=some (.int 0):=by rfl
    have ne:fNe (.str "jump") (.str "jump")=some (.bl false):=by rfl
    rw [go_law_jump_words]
    unfold b_law_jump_words
    cases b
    · refine ⟨[18*134217728+d % 32],?_,one (by omega) (by omega),by simp⟩
      simp! [ix0,i0,pw,add_int,ne,Bool.false_eq_true,if_false]
    · refine ⟨[21*134217728,d % 4294967296],?_,two (by omega) (by omega) (by omega) (by omega),by simp⟩
      simp! [ix0,i0,pw,add_int,ne,if_true]
  | cond hw hk p0 p1=>
    rename_i w k p
    obtain ⟨c,c0,c1,hi,ne⟩:∃ c:Int,0≤c∧c<3∧fIndex (.lst [.str "jump",.str "when",.str "unless"]) (.str w)=some (.int c)∧fNe (.str w) (.str "jump")=some (.bl true):=by
      rcases hw with rfl | rfl
      · exact ⟨1,by decide,by decide,by rfl,by rfl⟩
      · exact ⟨2,by decide,by decide,by rfl,by rfl⟩
    obtain ⟨m,m0,m1,hm⟩:∃ m:Int,0≤m∧m<3∧fIndex (.lst [.str "carry",.str "nought",.str "sign"]) (.str k)=some (.int m):=by
      rcases hk with rfl | rfl | rfl
      · exact ⟨0,by decide,by decide,by rfl⟩
      · exact ⟨1,by decide,by decide,by rfl⟩
      · exact ⟨2,by decide,by decide,by rfl⟩
    have i1:fIx (.tup [.str w,.str k,.int p]) (.int 1)=some (.str k):=rfl
    rw [go_law_jump_words]
    unfold b_law_jump_words
    cases b
    · refine ⟨[(18+c)*134217728+m*16777216+d % 32],?_,one (by omega) (by omega),by simp⟩
      simp! [ix0,i1,hi,hm,pw,add_int,ne,Bool.false_eq_true,if_false,Int.add_zero]
    · refine ⟨[(21+c)*134217728+m*16777216,d % 4294967296],?_,two (by omega) (by omega) (by omega) (by omega),by simp⟩
      have e3:(18+c+3:Int)=21+c:=by omega
      simp! [ix0,i1,hi,hm,pw,add_int,ne,if_true,e3]
theorem written_F {rows:List D} {far:List Nat} (hr:∀ r∈rows,RowG (rows.length:Int) r) (hn:rows.length≤200):∃ ws:List Int,F_law_written [.lst rows,.lst (farD far)]=some (true,.lst (ws.map D.int))∧(∀ m∈ws,0≤m∧m<4294967296)∧ws.length≤400:=by
  have e1:=stands_F (rows:=rows) (far:=far) (by omega)
  have e2:r_law_written_1 [some (false,.lst rows),some (false,.lst (farD far)),some (false,.lst (addrs (isFar far) (rows.length+1))),some (true,.lst []),none,none]=some (upTo rows.length):=range_of (n:=(rows.length:Int)) rfl (by omega)
  obtain ⟨σ',e3,ws,x4,x5,rfl,g1,g2⟩:=loop_by (g:=gVar 4) (b:=l_law_written_1) (fun i σ=>∃ (ws:List Int) (x4 x5:Option Sl),σ=[some (false,.lst rows),some (false,.lst (farD far)),some (false,.lst (addrs (isFar far) (rows.length+1))),some (true,.lst (ws.map D.int)),x4,x5]∧(∀ m∈ws,0≤m∧m<4294967296)∧ws.length≤2*i) (ds:=upTo rows.length)
    (σ:=[some (false,.lst rows),some (false,.lst (farD far)),some (false,.lst (addrs (isFar far) (rows.length+1))),some (true,.lst []),none,none]) 0 ⟨[],none,none,rfl,(fun m hm=>by cases hm),Nat.le_refl 0⟩ (by
    rintro i v σ hv ⟨ws,x4,x5,rfl,g1,g2⟩
    obtain ⟨hi,rfl⟩:=upTo_get hv
    rw [Nat.zero_add] at *
    have ex:fIx (.lst rows) (.int (i:Int))=some rows[i]:=at_nat (by omega) (by rw [Int.toNat_natCast]; exact List.getElem?_eq_getElem hi)
    have hin:fIn (.int (i:Int)) (.lst (farD far))=some (.bl (isFar far i)):=by
      show (fInB _ _).bind _=_
      rw [in_far]
      rfl
    have hR:=hr _ (List.getElem_mem hi)
    rcases hR with h | h
    · obtain ⟨w,a,b,_,c,_⟩:=plain_fx h
      obtain ⟨v,q3,v0,v1⟩:=plain_word h
      have b:fIn (.str w) (.tup [.str "jump",.str "when",.str "unless"])=some (.bl false):=b
      have hap:=app_ok (L:=ws.map D.int) (r:=.int v) (by rw [List.length_map]; omega)
      have em:ws.map D.int++[.int v]=(ws++[v]).map D.int:=by rw [List.map_append]; rfl
      rw [em] at hap
      refine ⟨_,[some (false,.lst rows),some (false,.lst (farD far)),some (false,.lst (addrs (isFar far) (rows.length+1))),some (true,.lst ((ws++[v]).map D.int)),some (false,.int (i:Int)),x5],rfl,.inl ?_,ws++[v],_,_,rfl,fun m hm=>?_,by rw [List.length_append]; simp only [List.length_cons,List.length_nil]; omega⟩
      · unfold l_law_written_1
        generalize (ws++[v]).map D.int=LL2 at *
        generalize ws.map D.int=LL at *
        simp! [ex,a,b,q3,hap]
      · rcases List.mem_append.mp hm with h | h
        · exact g1 _ h
        · cases List.mem_singleton.mp h; exact ⟨v0,v1⟩
    · obtain ⟨w,p,a,b,_,c,_⟩:=jrow_fx h
      have b:fIn (.str w) (.tup [.str "jump",.str "when",.str "unless"])=some (.bl true):=b
      rcases tgt_is (hr _ (List.getElem_mem hi)) with ⟨jf,_⟩ | ⟨_,p,p1,_,_,fp⟩
      · rw [c] at jf; cases jf
      have ap:=addrs_at (f:=isFar far) (n:=rows.length+1) (p:=p) (by omega)
      have aj:=addrs_at (f:=isFar far) (n:=rows.length+1) (p:=i) (by omega)
      obtain ⟨w2,q4,gw,lw⟩:=ljw_row h (addr (isFar far) p - addr (isFar far) i) (isFar far i)
      have hc:fCat (.lst (ws.map D.int)) (.lst (w2.map D.int))=some (.lst ((ws++w2).map D.int)):=by
        show (if (ws.map D.int).length+(w2.map D.int).length≤LIM then _ else _)=_
        rw [if_pos (by rw [List.length_map,List.length_map]; show _≤16777216; omega),List.map_append]
      refine ⟨_,[some (false,.lst rows),some (false,.lst (farD far)),some (false,.lst (addrs (isFar far) (rows.length+1))),some (true,.lst ((ws++w2).map D.int)),some (false,.int (i:Int)),some (false,.int (addr (isFar far) p - addr (isFar far) i))],rfl,.inl ?_,ws++w2,_,_,rfl,fun m hm=>?_,by rw [List.length_append]; omega⟩
      · unfold l_law_written_1
        generalize (ws++w2).map D.int=LL2 at *
        generalize ws.map D.int=LL at *
        generalize w2.map D.int=WW at *
        simp! [ex,a,b,fp,ap,aj,hin,q4,hc]
      · rcases List.mem_append.mp hm with h | h
        · exact g1 _ h
        · exact gw _ h)
  rw [upTo_len,Nat.zero_add] at g2
  refine ⟨ws,?_,g1,by omega⟩
  rw [go_law_written]
  unfold b_law_written
  simp! [e1,e2,e3]
theorem run_law:∀ ns:List Int,ns.length≤63→(∀ m∈ns,bitsI m≤1048576)→∃ o,runF 6 b_law [.lst (ns.map D.int)]=some (o,.bl true):=fun ns hl hb=>by
  refine ⟨false,?_⟩
  have c2:=cell_ints ns (k:=2) (by decide)
  obtain ⟨rows,items,r1,r2,_,_,_,eb⟩:=built_G ns
  obtain ⟨far,ef⟩:=any_far_F r2 (by omega) (cellAt ns 2) (cellAt ns 2 % 5)
  obtain ⟨ws,ew,g1,g2⟩:=written_F (far:=far) r2 (by omega)
  have tt:=told_true g1
  have ok:okD 6 (.lst (ws.map D.int))=true:=by
    show List.all _ _=true
    rw [List.all_eq_true]
    intro d hd
    obtain ⟨m,_,rfl⟩:=List.mem_map.mp hd
    rfl
  have q:=eq_self ok
  have hls:fList [.lst (ws.map D.int)]=some (.lst (ws.map D.int)):=rfl
  have hrg:r_law_1 [some (false,.lst (ns.map D.int)),some (false,.lst rows),some (false,.int (cellAt ns 2)),some (false,.lst (ws.map D.int)),some (false,.lst (ws.map D.int)),none]=some ((List.range (ws.length+3)).map fun k:Nat=>D.int (-1+(k:Int))):=by
    have hlen:eL fLen (aCons (eVar 3) aNil) [some (false,.lst (ns.map D.int)),some (false,.lst rows),some (false,.int (cellAt ns 2)),some (false,.lst (ws.map D.int)),some (false,.lst (ws.map D.int)),none]=some (.int (ws.length:Int)):=by
      show some (D.int ((ws.map D.int).length:Int))=_
      rw [List.length_map]
    have hneg:e1 fNeg (eC (.int 1)) [some (false,.lst (ns.map D.int)),some (false,.lst rows),some (false,.int (cellAt ns 2)),some (false,.lst (ws.map D.int)),some (false,.lst (ws.map D.int)),none]=some (.int (-1)):=rfl
    have hsum:e2 fAdd (eL fLen (aCons (eVar 3) aNil)) (eC (.int 2)) [some (false,.lst (ns.map D.int)),some (false,.lst rows),some (false,.int (cellAt ns 2)),some (false,.lst (ws.map D.int)),some (false,.lst (ws.map D.int)),none]=some (.int ((ws.length:Int)+2)):=by
      unfold e2
      rw [hlen]
      rfl
    unfold r_law_1 iRange
    rw [hneg,Option.bind_some,hsum,Option.bind_some]
    show (if (-1:Int).natAbs≤LIM∧((ws.length:Int)+2).natAbs≤LIM∧((ws.length:Int)+2 - -1).toNat≤LIM then _ else _)=_
    rw [if_pos ⟨by decide,by show _≤16777216; omega,by show _≤16777216; omega⟩,show ((ws.length:Int)+2 - -1).toNat=ws.length+3 by omega]
  obtain ⟨σ',el,x5,rfl⟩:=loop_by (g:=gVar 5) (b:=l_law_1) (fun i σ=>∃ x5:Option Sl,σ=[some (false,.lst (ns.map D.int)),some (false,.lst rows),some (false,.int (cellAt ns 2)),some (false,.lst (ws.map D.int)),some (false,.lst (ws.map D.int)),x5]) (ds:=(List.range (ws.length+3)).map fun k:Nat=>D.int (-1+(k:Int)))
    (σ:=[some (false,.lst (ns.map D.int)),some (false,.lst rows),some (false,.int (cellAt ns 2)),some (false,.lst (ws.map D.int)),some (false,.lst (ws.map D.int)),none]) 0 ⟨none,rfl⟩ (fun i d σ hd ⟨x5,hy⟩=>by
      obtain ⟨k,_,rfl⟩:=List.mem_map.mp (List.mem_of_getElem? hd)
      subst hy
      have ti:=tt (-1+(k:Int))
      refine ⟨_,[some (false,.lst (ns.map D.int)),some (false,.lst rows),some (false,.int (cellAt ns 2)),some (false,.lst (ws.map D.int)),some (false,.lst (ws.map D.int)),some (false,.int (-1+(k:Int)))],rfl,.inl ?_,_,rfl⟩
      unfold l_law_1
      generalize D.lst (ns.map D.int)=s
      generalize D.lst (ws.map D.int)=V at ti ⊢
      simp! [ti])
  have i0:∀ u v:D,fIx (.tup [u,v]) (.int 0)=some u:=fun _ _=>rfl
  generalize hs:D.lst (ns.map D.int)=s at *
  generalize hV:D.lst (ws.map D.int)=V at *
  unfold b_law
  show ((sSeq _ _ _).bind _)=_
  rw [seq_nx (σ':=[some (false,s),some (false,.lst rows),none,none,none,none]) (by simp! [eb,i0]),seq_nx (σ':=[some (false,s),some (false,.lst rows),some (false,.int (cellAt ns 2)),none,none,none]) (by simp! [c2]),
    seq_nx (σ':=[some (false,s),some (false,.lst rows),some (false,.int (cellAt ns 2)),some (false,V),none,none]) (by simp! [ef,ew]),
    seq_nx (σ':=[some (false,s),some (false,.lst rows),some (false,.int (cellAt ns 2)),some (false,V),some (false,V),none]) (by simp! [hls]),seq_nx (by unfold sFor; rw [hrg]; exact el)]
  simp! [q]
end L3
namespace My
open PySem L2 L3
set_option maxHeartbeats 4000000
noncomputable def top (i:Nat):Stmt:=PySem.Challenge.pw_markrun_k28_rows_at_addresses.main.body.getD i (.Pass ⟨0,0,0,0⟩)
section
variable {P:Program} {w:World} {K:PySem.W.Frag} {mg:Str→Option Value} {base:Heap} {A_MARKS:Addr} {A_FIELDS:Addr} {A_NUMBER_WIDTHS:Addr} {A_PLACES:Addr} {A_CODES:Addr} {A_NEAR_CODES:Addr} {A_FAR_CODES:Addr} {C_BadNumber:Addr} {C_BadState:Addr} {C_BadText:Addr} {C_BadWords:Addr} {C_NoAddress:Addr} {C_NoLabel:Addr} {C_RunError:Addr}
noncomputable abbrev s_part:Stmt:=top 10
theorem sc_part:FnScope ["word", "low", "width"] ["word", "low", "width"] (defScope s_part):=⟨rfl,rfl,rfl,by decide +kernel,rfl,by decide +kernel,by decide +kernel⟩
theorem ok_part (d:Def K mg "part" s_part ["word", "low", "width"]):Has P w K mg base "part" ["word", "low", "width"] 1 (spF K F_part):=
  Def.okS d sc_part (by decide) run_part fun f cdv A outer s H E hr=>(sss_one (ss_ret (se_bin op_and ok_bit (se_bin op_shr ok_shr (se_var 0) (se_var 1)) (se_bin op_sub ok_sub (se_bin op_shl ok_shl se_int (se_var 2)) se_int))))
noncomputable abbrev s_with_part:Stmt:=top 11
theorem sc_with_part:FnScope ["word", "low", "width", "number", "there"] ["word", "low", "width", "number"] (defScope s_with_part):=⟨rfl,rfl,rfl,by decide +kernel,rfl,by decide +kernel,by decide +kernel⟩
theorem ok_with_part (d:Def K mg "with_part" s_with_part ["word", "low", "width", "number"]):Has P w K mg base "with_part" ["word", "low", "width", "number"] 1 (spF K F_with_part):=
  Def.okS d sc_with_part (by decide) run_with_part fun f cdv A outer s H E hr=>(sss_cons (ss_set (i:=4) sc_with_part.nd rfl (Or.inl rfl) (se_bin op_shl ok_shl (se_bin op_sub ok_sub (se_bin op_shl ok_shl se_int (se_var 2)) se_int) (se_var 1)))
    (sss_one (ss_ret (se_bin op_or ok_bit (se_bin op_and ok_bit (se_var 0) (se_un un_inv unI_inv (se_var 4))) (se_bin op_shl ok_shl (se_var 3) (se_var 1))))))
noncomputable abbrev s_signed:Stmt:=top 12
theorem sc_signed:FnScope ["number", "width", "power"] ["number", "width"] (defScope s_signed):=⟨rfl,rfl,rfl,by decide +kernel,rfl,by decide +kernel,by decide +kernel⟩
theorem ok_signed (d:Def K mg "signed" s_signed ["number", "width"]):Has P w K mg base "signed" ["number", "width"] 1 (spF K F_signed):=
  Def.okS d sc_signed (by decide) run_signed fun f cdv A outer s H E hr=>(sss_cons (ss_set (i:=2) sc_signed.nd rfl (Or.inl rfl) (se_bin op_shl ok_shl se_int (se_var 1)))
    (sss_one (ss_ret (se_if (st_cmp op_lt ok_cmp (sb_of (se_bin op_mul ok_mulL se_int (se_var 0))) (sb_of (se_var 2)) (nomark _)) (se_var 0) (se_bin op_sub ok_sub (se_var 0) (se_var 2))))))
noncomputable abbrev s_place_in_word:Stmt:=top 22
theorem sc_place_in_word:FnScope ["kind", "field"] ["kind", "field"] (defScope s_place_in_word):=⟨rfl,rfl,rfl,by decide +kernel,rfl,by decide +kernel,by decide +kernel⟩
theorem ok_place_in_word (d:Def K mg "place_in_word" s_place_in_word ["kind", "field"]) (g_NUMBER_WIDTHS:Glb mg "NUMBER_WIDTHS" (.ref A_NUMBER_WIDTHS)) (q_NUMBER_WIDTHS:GDict K w A_NUMBER_WIDTHS gk_NUMBER_WIDTHS gv_NUMBER_WIDTHS) (g_NUMBER_LOW:Glb mg "NUMBER_LOW" (.int 0)) (q_NUMBER_LOW:∀ H,Rep K H (.int 0) (.int 0)) (g_PLACES:Glb mg "PLACES" (.ref A_PLACES)) (q_PLACES:GDict K w A_PLACES gk_PLACES gv_PLACES):Has P w K mg base "place_in_word" ["kind", "field"] 1 (spF K F_place_in_word):=
  Def.okS d sc_place_in_word (by decide) run_place_in_word fun f cdv A outer s H E hr=>(sss_cons (ss_if (st_cmp (op_eqS (hu7 hr)) ok_eq (sb_of (se_var 1)) (sb_of se_str) (nomark _))
      (sss_one (ss_ret (se_tup (sa_cons (se_gl g_NUMBER_LOW q_NUMBER_LOW rfl) (sa_cons (se_gdix g_NUMBER_WIDTHS q_NUMBER_WIDTHS rfl (se_var 0)) sa_nil)) (al_le (al_cons (al_cons al_nil)) (by decide)))))
      sss_nil)
    (sss_one (ss_ret (se_gdix g_PLACES q_PLACES rfl (se_var 1)))))
noncomputable abbrev s_number_at:Stmt:=top 23
theorem sc_number_at:FnScope ["word", "place"] ["word", "place"] (defScope s_number_at):=⟨rfl,rfl,rfl,by decide +kernel,rfl,by decide +kernel,by decide +kernel⟩
theorem ok_number_at (d:Def K mg "number_at" s_number_at ["word", "place"]) (h_part:Has P w K mg base "part" ["word", "low", "width"] 1 (spF K F_part)):Has P w K mg base "number_at" ["word", "place"] 2 (spF K F_number_at):=
  Def.okS d sc_number_at (by decide) run_number_at fun f cdv A outer s H E hr=>(sss_one (ss_ret (se_call h_part hr rfl (sa_cons (se_var 0) (sa_cons (se_ix (ix_S (hu_of hr)) ok_ix (se_var 1) se_int) (sa_cons (se_ix (ix_S (hu_of hr)) ok_ix (se_var 1) se_int) sa_nil))))))
noncomputable abbrev s_with_number:Stmt:=top 24
theorem sc_with_number:FnScope ["word", "place", "number"] ["word", "place", "number"] (defScope s_with_number):=⟨rfl,rfl,rfl,by decide +kernel,rfl,by decide +kernel,by decide +kernel⟩
theorem ok_with_number (d:Def K mg "with_number" s_with_number ["word", "place", "number"]) (h_with_part:Has P w K mg base "with_part" ["word", "low", "width", "number"] 1 (spF K F_with_part)):Has P w K mg base "with_number" ["word", "place", "number"] 2 (spF K F_with_number):=
  Def.okS d sc_with_number (by decide) run_with_number fun f cdv A outer s H E hr=>(sss_one (ss_ret (se_call h_with_part hr rfl (sa_cons (se_var 0) (sa_cons (se_ix (ix_S (hu_of hr)) ok_ix (se_var 1) se_int) (sa_cons (se_ix (ix_S (hu_of hr)) ok_ix (se_var 1) se_int) (sa_cons (se_var 2) sa_nil)))))))
noncomputable abbrev s_fields_in_word:Stmt:=top 25
theorem sc_fields_in_word:FnScope ["kind"] ["kind"] (defScope s_fields_in_word):=⟨rfl,rfl,rfl,by decide +kernel,rfl,by decide +kernel,by decide +kernel⟩
theorem ok_fields_in_word (d:Def K mg "fields_in_word" s_fields_in_word ["kind"]) (g_FIELDS:Glb mg "FIELDS" (.ref A_FIELDS)) (q_FIELDS:GDict K w A_FIELDS gk_FIELDS gv_FIELDS):Has P w K mg base "fields_in_word" ["kind"] 1 (spF K F_fields_in_word):=
  Def.okS d sc_fields_in_word (by decide) run_fields_in_word fun f cdv A outer s H E hr=>(sss_one (ss_retO (sf_lc rfl (blk_mk (own:=["field"]) rfl) (si_seq (se_gdix g_FIELDS q_FIELDS rfl (se_var 0))) (bg_one (fun C s H fp pn=>(qg_name (i:=1) (show (blkN ["kind"] ["field"]).Nodup by decide +kernel) rfl (Or.inl rfl))) rfl) (fun C s H fp pn=>(sts_one (st_cmp (op_neS (hu7 hr)) ok_ne (sb_of (se_var 1)) (sb_of se_str) (nomark _)))) (fun C s H fp pn=>(se_var 1)))))
noncomputable abbrev s_first_word:Stmt:=top 26
theorem sc_first_word:FnScope ["row", "code", "word", "field", "held", "number"] ["row", "code"] (defScope s_first_word):=⟨rfl,rfl,rfl,by decide +kernel,rfl,by decide +kernel,by decide +kernel⟩
theorem ok_first_word (d:Def K mg "first_word" s_first_word ["row", "code"]) (z_zip:mg "zip" = none) (g_PLACES:Glb mg "PLACES" (.ref A_PLACES)) (q_PLACES:GDict K w A_PLACES gk_PLACES gv_PLACES) (g_MARKS:Glb mg "MARKS" (.ref A_MARKS)) (q_MARKS:∀ H,Rep K H gt_MARKS (.ref A_MARKS)) (k_MARKS:TupK K A_MARKS) (h_with_number:Has P w K mg base "with_number" ["word", "place", "number"] 2 (spF K F_with_number)) (h_fields_in_word:Has P w K mg base "fields_in_word" ["kind"] 1 (spF K F_fields_in_word)) (h_place_in_word:Has P w K mg base "place_in_word" ["kind", "field"] 1 (spF K F_place_in_word)):Has P w K mg base "first_word" ["row", "code"] 3 (spF K F_first_word):=
  Def.okS d sc_first_word (by decide) run_first_word fun f cdv A outer s H E hr=>(sss_cons (ss_set (i:=2) sc_first_word.nd rfl (Or.inl rfl) (se_call h_with_number hr rfl (sa_cons se_int (sa_cons (se_gdix g_PLACES q_PLACES rfl se_str) (sa_cons (se_var 1) sa_nil)))))
    (sss_cons (ss_for PassesOwn.never rfl (si_zip rfl z_zip (se_of (sf_call h_fields_in_word hr rfl (sa_cons (se_ix (ix_S (hu_of hr)) ok_ix (se_var 0) se_int) sa_nil))) (se_slT (se_var 0) (so_some se_int) so_none)) (sg_two (qg_tup (n:=2) rfl (qgs_cons (qg_name (i:=3) sc_first_word.nd rfl (Or.inl rfl)) (qgs_cons (qg_name (i:=4) sc_first_word.nd rfl (Or.inl rfl)) qgs_nil))) rfl rfl)
      (sss_cons (ss_set (i:=5) sc_first_word.nd rfl (Or.inl rfl) (se_if (st_cmp (op_eqS (hu7 hr)) ok_eq (sb_of (se_var 3)) (sb_of se_str) (nomark _)) (se_gtindex g_MARKS q_MARKS k_MARKS rfl (se_var 4)) (se_var 4)))
        (sss_one (ss_set (i:=2) sc_first_word.nd rfl (Or.inl rfl) (se_call h_with_number hr rfl (sa_cons (se_var 2) (sa_cons (se_call h_place_in_word hr rfl (sa_cons (se_ix (ix_S (hu_of hr)) ok_ix (se_var 0) se_int) (sa_cons (se_var 3) sa_nil))) (sa_cons (se_var 5) sa_nil))))))))
    (sss_one (ss_ret (se_var 2)))))
noncomputable abbrev s_code_in:Stmt:=top 27
theorem sc_code_in:FnScope ["word"] ["word"] (defScope s_code_in):=⟨rfl,rfl,rfl,by decide +kernel,rfl,by decide +kernel,by decide +kernel⟩
theorem ok_code_in (d:Def K mg "code_in" s_code_in ["word"]) (g_PLACES:Glb mg "PLACES" (.ref A_PLACES)) (q_PLACES:GDict K w A_PLACES gk_PLACES gv_PLACES) (h_number_at:Has P w K mg base "number_at" ["word", "place"] 2 (spF K F_number_at)):Has P w K mg base "code_in" ["word"] 3 (spF K F_code_in):=
  Def.okS d sc_code_in (by decide) run_code_in fun f cdv A outer s H E hr=>(sss_one (ss_ret (se_call h_number_at hr rfl (sa_cons (se_var 0) (sa_cons (se_gdix g_PLACES q_PLACES rfl se_str) sa_nil)))))
noncomputable abbrev s_kind_of_code:Stmt:=top 28
theorem sc_kind_of_code:FnScope ["code", "found"] ["code"] (defScope s_kind_of_code):=⟨rfl,rfl,rfl,by decide +kernel,rfl,by decide +kernel,by decide +kernel⟩
theorem ok_kind_of_code (d:Def K mg "kind_of_code" s_kind_of_code ["code"]) (g_CODES:Glb mg "CODES" (.ref A_CODES)) (q_CODES:GDict K w A_CODES gk_CODES gv_CODES) (g_NEAR_CODES:Glb mg "NEAR_CODES" (.ref A_NEAR_CODES)) (q_NEAR_CODES:GDict K w A_NEAR_CODES gk_NEAR_CODES gv_NEAR_CODES) (g_FAR_CODES:Glb mg "FAR_CODES" (.ref A_FAR_CODES)) (q_FAR_CODES:GDict K w A_FAR_CODES gk_FAR_CODES gv_FAR_CODES) (e_CODES:GDictE K w A_CODES gk_CODES gu_CODES) (r_CODES:∀ H,Reps K H gv_CODES gu_CODES) (e_NEAR_CODES:GDictE K w A_NEAR_CODES gk_NEAR_CODES gu_NEAR_CODES) (r_NEAR_CODES:∀ H,Reps K H gv_NEAR_CODES gu_NEAR_CODES) (e_FAR_CODES:GDictE K w A_FAR_CODES gk_FAR_CODES gu_FAR_CODES) (r_FAR_CODES:∀ H,Reps K H gv_FAR_CODES gu_FAR_CODES):Has P w K mg base "kind_of_code" ["code"] 1 (spF K F_kind_of_code):=
  Def.okS d sc_kind_of_code (by decide) run_kind_of_code fun f cdv A outer s H E hr=>(sss_cons (ss_lcO (i:=1) rfl sc_kind_of_code.nd rfl rfl (blk_mk (own:=["kind"]) rfl) rfl (si_gkeys g_CODES e_CODES rfl (by decide) (by decide)) (bg_one (fun C s H fp pn=>(qg_name (i:=2) (show (blkN ["code", "found"] ["kind"]).Nodup by decide +kernel) rfl (Or.inl rfl))) rfl) (fun C s H fp pn=>(sts_one (st_cmp (op_eqS (hu7 hr)) ok_eq (sb_of (se_gdix g_CODES q_CODES rfl (se_var 2))) (sb_of (se_var 0)) (nomark _)))) (fun C s H fp pn=>(se_var 2)))
    (sss_cons (ss_extend (qv 1) (sf_lc rfl (blk_mk (own:=["kind"]) rfl) (si_gkeys g_NEAR_CODES e_NEAR_CODES rfl (by decide) (by decide)) (bg_one (fun C s H fp pn=>(qg_name (i:=2) (show (blkN ["code", "found"] ["kind"]).Nodup by decide +kernel) rfl (Or.inl rfl))) rfl) (fun C s H fp pn=>(sts_one (st_cmp (op_eqS (hu7 hr)) ok_eq (sb_of (se_gdix g_NEAR_CODES q_NEAR_CODES rfl (se_var 2))) (sb_of (se_var 0)) (nomark _)))) (fun C s H fp pn=>(se_var 2))))
    (sss_cons (ss_extend (qv 1) (sf_lc rfl (blk_mk (own:=["kind"]) rfl) (si_gkeys g_FAR_CODES e_FAR_CODES rfl (by decide) (by decide)) (bg_one (fun C s H fp pn=>(qg_name (i:=2) (show (blkN ["code", "found"] ["kind"]).Nodup by decide +kernel) rfl (Or.inl rfl))) rfl) (fun C s H fp pn=>(sts_one (st_cmp (op_eqS (hu7 hr)) ok_eq (sb_of (se_gdix g_FAR_CODES q_FAR_CODES rfl (se_var 2))) (sb_of (se_var 0)) (nomark _)))) (fun C s H fp pn=>(se_var 2))))
    (sss_freeze 1 (sss_one (ss_ret (se_if (st_cmp (op_eqS (hu7 hr)) ok_eq (sb_of (se_var 1)) (sb_of (se_of (sf_lst sa_nil (al_le al_nil (by decide))))) (nomark _)) se_non (se_ix (ix_S (hu_of hr)) ok_ix (se_var 1) se_int))))))))
noncomputable abbrev s_is_near_code:Stmt:=top 29
theorem sc_is_near_code:FnScope ["code"] ["code"] (defScope s_is_near_code):=⟨rfl,rfl,rfl,by decide +kernel,rfl,by decide +kernel,by decide +kernel⟩
theorem ok_is_near_code (d:Def K mg "is_near_code" s_is_near_code ["code"]) (z_list:mg "list" = none) (g_NEAR_CODES:Glb mg "NEAR_CODES" (.ref A_NEAR_CODES)) (q_NEAR_CODES:GDict K w A_NEAR_CODES gk_NEAR_CODES gv_NEAR_CODES) (e_NEAR_CODES:GDictE K w A_NEAR_CODES gk_NEAR_CODES gu_NEAR_CODES) (r_NEAR_CODES:∀ H,Reps K H gv_NEAR_CODES gu_NEAR_CODES):Has P w K mg base "is_near_code" ["code"] 1 (spF K F_is_near_code):=
  Def.okS d sc_is_near_code (by decide) run_is_near_code fun f cdv A outer s H E hr=>(sss_one (ss_ret (se_cmp (op_inS (hu_of hr)) ok_in (sb_of (se_var 0)) (sb_of (se_of (sf_gvals rfl rfl z_list g_NEAR_CODES e_NEAR_CODES rfl r_NEAR_CODES (by decide)))) (by with_unfolding_all rfl))))
noncomputable abbrev s_is_far_code:Stmt:=top 30
theorem sc_is_far_code:FnScope ["code"] ["code"] (defScope s_is_far_code):=⟨rfl,rfl,rfl,by decide +kernel,rfl,by decide +kernel,by decide +kernel⟩
theorem ok_is_far_code (d:Def K mg "is_far_code" s_is_far_code ["code"]) (z_list:mg "list" = none) (g_FAR_CODES:Glb mg "FAR_CODES" (.ref A_FAR_CODES)) (q_FAR_CODES:GDict K w A_FAR_CODES gk_FAR_CODES gv_FAR_CODES) (e_FAR_CODES:GDictE K w A_FAR_CODES gk_FAR_CODES gu_FAR_CODES) (r_FAR_CODES:∀ H,Reps K H gv_FAR_CODES gu_FAR_CODES):Has P w K mg base "is_far_code" ["code"] 1 (spF K F_is_far_code):=
  Def.okS d sc_is_far_code (by decide) run_is_far_code fun f cdv A outer s H E hr=>(sss_one (ss_ret (se_cmp (op_inS (hu_of hr)) ok_in (sb_of (se_var 0)) (sb_of (se_of (sf_gvals rfl rfl z_list g_FAR_CODES e_FAR_CODES rfl r_FAR_CODES (by decide)))) (by with_unfolding_all rfl))))
noncomputable abbrev s_held_in:Stmt:=top 32
theorem sc_held_in:FnScope ["word", "kind", "field", "number"] ["word", "kind", "field"] (defScope s_held_in):=⟨rfl,rfl,rfl,by decide +kernel,rfl,by decide +kernel,by decide +kernel⟩
theorem ok_held_in (d:Def K mg "held_in" s_held_in ["word", "kind", "field"]) (z_len:mg "len" = none) (g_MARKS:Glb mg "MARKS" (.ref A_MARKS)) (q_MARKS:∀ H,Rep K H gt_MARKS (.ref A_MARKS)) (h_number_at:Has P w K mg base "number_at" ["word", "place"] 2 (spF K F_number_at)) (h_place_in_word:Has P w K mg base "place_in_word" ["kind", "field"] 1 (spF K F_place_in_word)):Has P w K mg base "held_in" ["word", "kind", "field"] 3 (spF K F_held_in):=
  Def.okS d sc_held_in (by decide) run_held_in fun f cdv A outer s H E hr=>(sss_cons (ss_set (i:=3) sc_held_in.nd rfl (Or.inl rfl) (se_call h_number_at hr rfl (sa_cons (se_var 0) (sa_cons (se_call h_place_in_word hr rfl (sa_cons (se_var 1) (sa_cons (se_var 2) sa_nil))) sa_nil))))
    (sss_cons (ss_if (st_cmp (op_neS (hu7 hr)) ok_ne (sb_of (se_var 2)) (sb_of se_str) (nomark _))
      (sss_one (ss_ret (se_var 3)))
      sss_nil)
    (sss_one (ss_ret (se_if (st_cmp op_lt ok_cmp (sb_of (se_var 3)) (sb_of (se_cb call_lenS ok_len rfl z_len bt_len (sab_cons (sb_of (se_gl g_MARKS q_MARKS rfl)) sab_nil))) (nomark _)) (se_ix (ix_S (hu_of hr)) ok_ix (se_gl g_MARKS q_MARKS rfl) (se_var 3)) se_non)))))
noncomputable abbrev s_row_in:Stmt:=top 31
theorem sc_row_in:FnScope ["word", "code", "kind", "row", "known"] ["word"] (defScope s_row_in):=⟨rfl,rfl,rfl,by decide +kernel,rfl,by decide +kernel,by decide +kernel⟩
theorem ok_row_in (d:Def K mg "row_in" s_row_in ["word"]) (z_tuple:mg "tuple" = none) (g_PLACES:Glb mg "PLACES" (.ref A_PLACES)) (q_PLACES:GDict K w A_PLACES gk_PLACES gv_PLACES) (h_code_in:Has P w K mg base "code_in" ["word"] 3 (spF K F_code_in)) (h_kind_of_code:Has P w K mg base "kind_of_code" ["code"] 1 (spF K F_kind_of_code)) (h_fields_in_word:Has P w K mg base "fields_in_word" ["kind"] 1 (spF K F_fields_in_word)) (h_held_in:Has P w K mg base "held_in" ["word", "kind", "field"] 3 (spF K F_held_in)) (h_is_near_code:Has P w K mg base "is_near_code" ["code"] 1 (spF K F_is_near_code)) (h_with_number:Has P w K mg base "with_number" ["word", "place", "number"] 2 (spF K F_with_number)) (h_first_word:Has P w K mg base "first_word" ["row", "code"] 3 (spF K F_first_word)):Has P w K mg base "row_in" ["word"] 4 (spF K F_row_in):=
  Def.okS d sc_row_in (by decide) run_row_in fun f cdv A outer s H E hr=>(sss_cons (ss_set (i:=1) sc_row_in.nd rfl (Or.inl rfl) (se_call h_code_in hr rfl (sa_cons (se_var 0) sa_nil)))
    (sss_cons (ss_set (i:=2) sc_row_in.nd rfl (Or.inr rfl) (se_call h_kind_of_code hr rfl (sa_cons (se_var 1) sa_nil)))
    (sss_cons (ss_if (st_cmp op_isN ok_isN (sb_of (se_var 2)) (sb_of se_non) (nomark _))
      (sss_one (ss_ret se_non))
      sss_nil)
    (sss_cons (ss_set (i:=3) sc_row_in.nd rfl (Or.inl rfl) (se_ctyG call_tuple_of ok_tuple rfl z_tuple boot_ty_tuple (sa_cons (se_bin op_addA ok_add (se_of (sf_lst (sa_cons (se_var 2) sa_nil) (al_le (al_cons al_nil) (by decide)))) (se_of (sf_lc rfl (blk_mk (own:=["field"]) rfl) (si_seq (se_of (sf_call h_fields_in_word hr rfl (sa_cons (se_var 2) sa_nil)))) (bg_one (fun C s H fp pn=>(qg_name (i:=5) (show (blkN ["word", "code", "kind", "row", "known"] ["field"]).Nodup by decide +kernel) rfl (Or.inl rfl))) rfl) (fun C s H fp pn=>sts_nil) (fun C s H fp pn=>(se_call h_held_in hr rfl (sa_cons (se_var 0) (sa_cons (se_var 2) (sa_cons (se_var 5) sa_nil)))))))) sa_nil)))
    (sss_cons (ss_if (st_cmp (op_inS (hu_of hr)) ok_in (sb_of se_non) (sb_of (se_var 3)) (by with_unfolding_all rfl))
      (sss_one (ss_ret se_non))
      sss_nil)
    (sss_cons (ss_set (i:=4) sc_row_in.nd rfl (Or.inl rfl) (se_if (st_val (se_call h_is_near_code hr rfl (sa_cons (se_var 1) sa_nil))) (se_call h_with_number hr rfl (sa_cons (se_var 0) (sa_cons (se_gdix g_PLACES q_PLACES rfl se_str) (sa_cons se_int sa_nil)))) (se_var 0)))
    (sss_one (ss_ret (se_if (st_cmp (op_eqS (hu7 hr)) ok_eq (sb_of (se_call h_first_word hr rfl (sa_cons (se_var 3) (sa_cons (se_var 1) sa_nil)))) (sb_of (se_var 4)) (nomark _)) (se_var 3) se_non)))))))))
noncomputable abbrev s_far_at:Stmt:=top 36
theorem sc_far_at:FnScope ["words", "address", "row"] ["words", "address", "row"] (defScope s_far_at):=⟨rfl,rfl,rfl,by decide +kernel,rfl,by decide +kernel,by decide +kernel⟩
theorem ok_far_at (d:Def K mg "far_at" s_far_at ["words", "address", "row"]) (z_len:mg "len" = none) (g_WORD_BITS:Glb mg "WORD_BITS" (.int 32)) (q_WORD_BITS:∀ H,Rep K H (.int 32) (.int 32)) (h_signed:Has P w K mg base "signed" ["number", "width"] 1 (spF K F_signed)):Has P w K mg base "far_at" ["words", "address", "row"] 2 (spF K F_far_at):=
  Def.okS d sc_far_at (by decide) run_far_at fun f cdv A outer s H E hr=>(sss_cons (ss_if (st_cmp op_ge ok_cmp (sb_of (se_bin op_addA ok_add (se_var 1) se_int)) (sb_of (se_cb call_lenS ok_len rfl z_len bt_len (sab_cons (sb_of (se_var 0)) sab_nil))) (nomark _))
      (sss_one (ss_ret se_non))
      sss_nil)
    (sss_one (ss_ret (se_tup (sa_cons (se_var 2) (sa_cons (se_bin op_addA ok_add (se_var 1) se_int) (sa_cons (se_bin op_addA ok_add (se_var 1) (se_call h_signed hr rfl (sa_cons (se_ix (ix_S (hu_of hr)) ok_ix (se_var 0) (se_bin op_addA ok_add (se_var 1) se_int)) (sa_cons (se_gl g_WORD_BITS q_WORD_BITS rfl) sa_nil)))) sa_nil))) (al_le (al_cons (al_cons (al_cons al_nil))) (by decide))))))
noncomputable abbrev s_told_at:Stmt:=top 35
theorem sc_told_at:FnScope ["words", "address", "row", "code", "place"] ["words", "address"] (defScope s_told_at):=⟨rfl,rfl,rfl,by decide +kernel,rfl,by decide +kernel,by decide +kernel⟩
theorem ok_told_at (d:Def K mg "told_at" s_told_at ["words", "address"]) (z_len:mg "len" = none) (g_PLACES:Glb mg "PLACES" (.ref A_PLACES)) (q_PLACES:GDict K w A_PLACES gk_PLACES gv_PLACES) (h_row_in:Has P w K mg base "row_in" ["word"] 4 (spF K F_row_in)) (h_code_in:Has P w K mg base "code_in" ["word"] 3 (spF K F_code_in)) (h_is_far_code:Has P w K mg base "is_far_code" ["code"] 1 (spF K F_is_far_code)) (h_far_at:Has P w K mg base "far_at" ["words", "address", "row"] 2 (spF K F_far_at)) (h_is_near_code:Has P w K mg base "is_near_code" ["code"] 1 (spF K F_is_near_code)) (h_signed:Has P w K mg base "signed" ["number", "width"] 1 (spF K F_signed)) (h_number_at:Has P w K mg base "number_at" ["word", "place"] 2 (spF K F_number_at)):Has P w K mg base "told_at" ["words", "address"] 5 (spF K F_told_at):=
  Def.okS d sc_told_at (by decide) run_told_at fun f cdv A outer s H E hr=>(sss_cons (ss_if (sw_t (sw_or (st_cmp op_lt ok_cmp (sb_of (se_var 1)) (sb_of se_int) (nomark _)) (sw_or1 (st_cmp op_ge ok_cmp (sb_of (se_var 1)) (sb_of (se_cb call_lenS ok_len rfl z_len bt_len (sab_cons (sb_of (se_var 0)) sab_nil))) (nomark _)))))
      (sss_one (ss_ret se_non))
      sss_nil)
    (sss_cons (ss_set (i:=2) sc_told_at.nd rfl (Or.inl rfl) (se_call h_row_in hr rfl (sa_cons (se_ix (ix_S (hu_of hr)) ok_ix (se_var 0) (se_var 1)) sa_nil)))
    (sss_cons (ss_if (st_cmp op_isN ok_isN (sb_of (se_var 2)) (sb_of se_non) (nomark _))
      (sss_one (ss_ret se_non))
      sss_nil)
    (sss_cons (ss_set (i:=3) sc_told_at.nd rfl (Or.inl rfl) (se_call h_code_in hr rfl (sa_cons (se_ix (ix_S (hu_of hr)) ok_ix (se_var 0) (se_var 1)) sa_nil)))
    (sss_cons (ss_if (st_val (se_call h_is_far_code hr rfl (sa_cons (se_var 3) sa_nil)))
      (sss_one (ss_ret (se_call h_far_at hr rfl (sa_cons (se_var 0) (sa_cons (se_var 1) (sa_cons (se_var 2) sa_nil))))))
      sss_nil)
    (sss_cons (ss_if (st_val (se_call h_is_near_code hr rfl (sa_cons (se_var 3) sa_nil)))
      (sss_cons (ss_set (i:=4) sc_told_at.nd rfl (Or.inl rfl) (se_gdix g_PLACES q_PLACES rfl se_str))
        (sss_one (ss_ret (se_tup (sa_cons (se_var 2) (sa_cons (se_bin op_addA ok_add (se_var 1) se_int) (sa_cons (se_bin op_addA ok_add (se_var 1) (se_call h_signed hr rfl (sa_cons (se_call h_number_at hr rfl (sa_cons (se_ix (ix_S (hu_of hr)) ok_ix (se_var 0) (se_var 1)) (sa_cons (se_var 4) sa_nil))) (sa_cons (se_ix (ix_S (hu_of hr)) ok_ix (se_var 4) se_int) sa_nil)))) sa_nil))) (al_le (al_cons (al_cons (al_cons al_nil))) (by decide))))))
      sss_nil)
    (sss_one (ss_ret (se_tup (sa_cons (se_var 2) (sa_cons (se_bin op_addA ok_add (se_var 1) se_int) (sa_cons se_non sa_nil))) (al_le (al_cons (al_cons (al_cons al_nil))) (by decide)))))))))))
noncomputable abbrev s_row_at:Stmt:=top 34
theorem sc_row_at:FnScope ["words", "address", "told"] ["words", "address"] (defScope s_row_at):=⟨rfl,rfl,rfl,by decide +kernel,rfl,by decide +kernel,by decide +kernel⟩
theorem ok_row_at (d:Def K mg "row_at" s_row_at ["words", "address"]) (c_BadWords:ExC K mg "BadWords" C_BadWords) (h_told_at:Has P w K mg base "told_at" ["words", "address"] 5 (spF K F_told_at)):HasX P w K mg base "row_at" ["words", "address"] 6 (spX K mg F_row_at):=
  Def.okXS d sc_row_at (by decide) FRX_ok fun f cdv A outer s H E hr=>(sxs_cons (ss_set (i:=2) sc_row_at.nd rfl (Or.inl rfl) (se_call h_told_at hr rfl (sa_cons (se_var 0) (sa_cons (se_var 1) sa_nil))))
    (sxs_raise (st_cmp op_isN ok_isN (sb_of (se_var 2)) (sb_of se_non) (nomark _)) c_BadWords raises_def hr.hd rfl (sa_cons se_str sa_nil)
      (sxs_of (sss_one (ss_ret (se_var 2))))))
noncomputable abbrev s_law_cell_at:Stmt:=top 38
theorem sc_law_cell_at:FnScope ["_law_script", "_law_k"] ["_law_script", "_law_k"] (defScope s_law_cell_at):=⟨rfl,rfl,rfl,by decide +kernel,rfl,by decide +kernel,by decide +kernel⟩
theorem ok_law_cell_at (d:Def K mg "_law_cell_at" s_law_cell_at ["_law_script", "_law_k"]) (z_len:mg "len" = none):Has P w K mg base "_law_cell_at" ["_law_script", "_law_k"] 1 (spF K F_law_cell_at):=
  Def.okS d sc_law_cell_at (by decide) run_law_cell_at fun f cdv A outer s H E hr=>(sss_cons (ss_if (st_cmp op_lt ok_cmp (sb_of (se_var 1)) (sb_of (se_cb call_lenS ok_len rfl z_len bt_len (sab_cons (sb_of (se_var 0)) sab_nil))) (nomark _))
      (sss_one (ss_ret (se_ix (ix_S (hu_of hr)) ok_ix (se_var 0) (se_var 1))))
      sss_nil)
    (sss_one (ss_ret se_int)))
noncomputable abbrev s_law_mixed:Stmt:=top 39
theorem sc_law_mixed:FnScope ["_law_cell", "_law_k"] ["_law_cell", "_law_k"] (defScope s_law_mixed):=⟨rfl,rfl,rfl,by decide +kernel,rfl,by decide +kernel,by decide +kernel⟩
theorem ok_law_mixed (d:Def K mg "_law_mixed" s_law_mixed ["_law_cell", "_law_k"]):Has P w K mg base "_law_mixed" ["_law_cell", "_law_k"] 1 (spF K F_law_mixed):=
  Def.okS d sc_law_mixed (by decide) run_law_mixed fun f cdv A outer s H E hr=>(sss_one (ss_ret (se_bin op_mod ok_mod (se_bin op_pow ok_pow (se_bin op_mod ok_mod (se_bin op_addA ok_add (se_bin op_mul ok_mulR (se_var 0) se_int) (se_bin op_mul ok_mulR (se_bin op_addA ok_add (se_var 1) se_int) se_int)) se_int) se_int) se_int)))
noncomputable abbrev s_law_name_by:Stmt:=top 40
theorem sc_law_name_by:FnScope ["_law_k", "_law_shape", "_law_letters", "_law_tail", "_law_name", "_law_turn"] ["_law_k", "_law_shape"] (defScope s_law_name_by):=⟨rfl,rfl,rfl,by decide +kernel,rfl,by decide +kernel,by decide +kernel⟩
theorem ok_law_name_by (d:Def K mg "_law_name_by" s_law_name_by ["_law_k", "_law_shape"]) (z_range:mg "range" = none) (h_law_mixed:Has P w K mg base "_law_mixed" ["_law_cell", "_law_k"] 1 (spF K F_law_mixed)):Has P w K mg base "_law_name_by" ["_law_k", "_law_shape"] 2 (spF K F_law_name_by):=
  Def.okS d sc_law_name_by (by decide) run_law_name_by fun f cdv A outer s H E hr=>(sss_cons (ss_set (i:=2) sc_law_name_by.nd rfl (Or.inr rfl) se_str)
    (sss_cons (ss_set (i:=3) sc_law_name_by.nd rfl (Or.inl rfl) (se_m_join se_str (sb_of (se_of (sf_lc rfl (blk_mk (own:=["_law_j"]) rfl) (si_range1 rfl z_range (se_bin op_mod ok_mod (se_bin op_fdivP ok_div (se_var 1) se_int) se_int)) (bg_one (fun C s H fp pn=>(qg_name (i:=6) (show (blkN ["_law_k", "_law_shape", "_law_letters", "_law_tail", "_law_name", "_law_turn"] ["_law_j"]).Nodup by decide +kernel) rfl (Or.inl rfl))) rfl) (fun C s H fp pn=>sts_nil) (fun C s H fp pn=>(se_ix (ix_S (hu_of hr)) ok_ix (se_var 2) (se_bin op_mod ok_mod (se_call h_law_mixed hr rfl (sa_cons (se_var 1) (sa_cons (se_var 6) sa_nil))) se_int))))))))
    (sss_cons (ss_if (st_cmp (op_eqS (hu7 hr)) ok_eq (sb_of (se_bin op_mod ok_mod (se_var 1) se_int)) (sb_of se_int) (nomark _))
      (sss_cons (ss_set (i:=4) sc_law_name_by.nd rfl (Or.inl rfl) (se_ix (ix_S (hu_of hr)) ok_ix (se_var 2) (se_bin op_mod ok_mod (se_var 0) se_int)))
        (sss_cons (ss_for PassesOwn.never rfl (si_range1 rfl z_range (se_bin op_fdivP ok_div (se_var 0) se_int)) (sg_var (qg_name (i:=5) sc_law_name_by.nd rfl (Or.inl rfl)) rfl)
          (sss_one (ss_set (i:=4) sc_law_name_by.nd rfl (Or.inl rfl) (se_bin op_addA ok_add (se_var 4) se_str))))
        (sss_one (ss_ret (se_var 4)))))
      sss_nil)
    (sss_cons (ss_if (st_cmp (op_eqS (hu7 hr)) ok_eq (sb_of (se_bin op_mod ok_mod (se_var 1) se_int)) (sb_of se_int) (nomark _))
      (sss_one (ss_ret (se_bin op_addA ok_add (se_bin op_addA ok_add (se_ix (ix_S (hu_of hr)) ok_ix (se_var 2) (se_bin op_mod ok_mod (se_var 0) se_int)) (se_ix (ix_S (hu_of hr)) ok_ix (se_var 2) (se_bin op_fdivP ok_div (se_var 0) se_int))) (se_sl (se_var 3) so_none (so_some se_int)))))
      sss_nil)
    (sss_one (ss_ret (se_bin op_addA ok_add (se_bin op_addA ok_add (se_sl (se_var 3) so_none (so_some se_int)) (se_ix (ix_S (hu_of hr)) ok_ix (se_var 2) (se_bin op_fdivP ok_div (se_var 0) se_int))) (se_ix (ix_S (hu_of hr)) ok_ix (se_var 2) (se_bin op_mod ok_mod (se_var 0) se_int)))))))))
noncomputable abbrev s_law_row_by:Stmt:=top 41
theorem sc_law_row_by:FnScope ["_law_cell", "_law_kind", "_law_first", "_law_other", "_law_rest"] ["_law_cell"] (defScope s_law_row_by):=⟨rfl,rfl,rfl,by decide +kernel,rfl,by decide +kernel,by decide +kernel⟩
theorem ok_law_row_by (d:Def K mg "_law_row_by" s_law_row_by ["_law_cell"]):Has P w K mg base "_law_row_by" ["_law_cell"] 1 (spF K F_law_row_by):=
  Def.okS d sc_law_row_by (by decide) run_law_row_by fun f cdv A outer s H E hr=>(sss_cons (ss_set (i:=1) sc_law_row_by.nd rfl (Or.inl rfl) (se_bin op_mod ok_mod (se_var 0) se_int))
    (sss_cons (ss_set (i:=2) sc_law_row_by.nd rfl (Or.inl rfl) (se_bin op_mod ok_mod (se_bin op_fdivP ok_div (se_var 0) se_int) se_int))
    (sss_cons (ss_set (i:=3) sc_law_row_by.nd rfl (Or.inl rfl) (se_bin op_mod ok_mod (se_bin op_fdivP ok_div (se_var 0) se_int) se_int))
    (sss_cons (ss_set (i:=4) sc_law_row_by.nd rfl (Or.inl rfl) (se_bin op_fdivP ok_div (se_var 0) se_int))
    (sss_cons (ss_if (st_cmp (op_eqS (hu7 hr)) ok_eq (sb_of (se_var 1)) (sb_of se_int) (nomark _))
      (sss_one (ss_ret (se_tup (sa_cons se_str sa_nil) (al_le (al_cons al_nil) (by decide)))))
      sss_nil)
    (sss_cons (ss_if (st_cmp op_lt ok_cmp (sb_of (se_var 1)) (sb_of se_int) (nomark _))
      (sss_one (ss_ret (se_tup (sa_cons (se_ix (ix_S (hu_of hr)) ok_ix (se_of (sf_lst (sa_cons se_str (sa_cons se_str sa_nil)) (al_le (al_cons (al_cons al_nil)) (by decide)))) (se_bin op_sub ok_sub (se_var 1) se_int)) (sa_cons (se_var 2) (sa_cons (se_ix (ix_S (hu_of hr)) ok_ix (se_of (sf_lst (sa_cons (se_bin op_mod ok_mod (se_var 4) se_int) (sa_cons se_int (sa_cons se_int (sa_cons (se_bin op_mod ok_mod (se_var 4) se_int) sa_nil)))) (al_le (al_cons (al_cons (al_cons (al_cons al_nil)))) (by decide)))) (se_bin op_mod ok_mod (se_bin op_fdivP ok_div (se_var 4) se_int) se_int)) sa_nil))) (al_le (al_cons (al_cons (al_cons al_nil))) (by decide)))))
      sss_nil)
    (sss_cons (ss_if (st_cmp op_lt ok_cmp (sb_of (se_var 1)) (sb_of se_int) (nomark _))
      (sss_one (ss_ret (se_tup (sa_cons (se_ix (ix_S (hu_of hr)) ok_ix (se_of (sf_lst (sa_cons se_str (sa_cons se_str (sa_cons se_str (sa_cons se_str (sa_cons se_str (sa_cons se_str (sa_cons se_str (sa_cons se_str (sa_cons se_str sa_nil))))))))) (al_le (al_cons (al_cons (al_cons (al_cons (al_cons (al_cons (al_cons (al_cons (al_cons al_nil))))))))) (by decide)))) (se_bin op_sub ok_sub (se_var 1) se_int)) (sa_cons (se_var 2) (sa_cons (se_var 3) sa_nil))) (al_le (al_cons (al_cons (al_cons al_nil))) (by decide)))))
      sss_nil)
    (sss_cons (ss_if (st_cmp op_lt ok_cmp (sb_of (se_var 1)) (sb_of se_int) (nomark _))
      (sss_one (ss_ret (se_tup (sa_cons (se_ix (ix_S (hu_of hr)) ok_ix (se_of (sf_lst (sa_cons se_str (sa_cons se_str sa_nil)) (al_le (al_cons (al_cons al_nil)) (by decide)))) (se_bin op_sub ok_sub (se_var 1) se_int)) (sa_cons (se_var 2) (sa_cons (se_ix (ix_S (hu_of hr)) ok_ix (se_of (sf_lst (sa_cons (se_bin op_mod ok_mod (se_var 4) se_int) (sa_cons se_int (sa_cons se_int (sa_cons se_int sa_nil)))) (al_le (al_cons (al_cons (al_cons (al_cons al_nil)))) (by decide)))) (se_bin op_mod ok_mod (se_bin op_fdivP ok_div (se_var 4) se_int) se_int)) sa_nil))) (al_le (al_cons (al_cons (al_cons al_nil))) (by decide)))))
      sss_nil)
    (sss_one (ss_ret (se_tup (sa_cons (se_ix (ix_S (hu_of hr)) ok_ix (se_of (sf_lst (sa_cons se_str (sa_cons se_str (sa_cons se_str (sa_cons se_str sa_nil)))) (al_le (al_cons (al_cons (al_cons (al_cons al_nil)))) (by decide)))) (se_bin op_sub ok_sub (se_var 1) se_int)) (sa_cons (se_var 2) (sa_cons (se_var 3) (sa_cons (se_ix (ix_S (hu_of hr)) ok_ix (se_of (sf_lst (sa_cons (se_bin op_mod ok_mod (se_var 4) se_int) (sa_cons se_int (sa_cons se_int sa_nil))) (al_le (al_cons (al_cons (al_cons al_nil))) (by decide)))) (se_bin op_mod ok_mod (se_bin op_fdivP ok_div (se_var 4) se_int) se_int)) sa_nil)))) (al_le (al_cons (al_cons (al_cons (al_cons al_nil)))) (by decide)))))))))))))
noncomputable abbrev s_law_place_by:Stmt:=top 42
theorem sc_law_place_by:FnScope ["_law_number", "_law_many", "_law_cell", "_law_way", "_law_far"] ["_law_number", "_law_many", "_law_cell"] (defScope s_law_place_by):=⟨rfl,rfl,rfl,by decide +kernel,rfl,by decide +kernel,by decide +kernel⟩
theorem ok_law_place_by (d:Def K mg "_law_place_by" s_law_place_by ["_law_number", "_law_many", "_law_cell"]) (z_max:mg "max" = none) (z_min:mg "min" = none):Has P w K mg base "_law_place_by" ["_law_number", "_law_many", "_law_cell"] 1 (spF K F_law_place_by):=
  Def.okS d sc_law_place_by (by decide) run_law_place_by fun f cdv A outer s H E hr=>(sss_cons (ss_set (i:=3) sc_law_place_by.nd rfl (Or.inl rfl) (se_bin op_mod ok_mod (se_var 2) se_int))
    (sss_cons (ss_set (i:=4) sc_law_place_by.nd rfl (Or.inl rfl) (se_bin op_addA ok_add (se_var 0) (se_ix (ix_S (hu_of hr)) ok_ix (se_of (sf_lst (sa_cons se_int (sa_cons se_int (sa_cons se_int (sa_cons se_int (sa_cons (se_un un_neg unI_neg se_int) (sa_cons (se_un un_neg unI_neg se_int) (sa_cons (se_un un_neg unI_neg se_int) (sa_cons (se_un un_neg unI_neg se_int) sa_nil)))))))) (al_le (al_cons (al_cons (al_cons (al_cons (al_cons (al_cons (al_cons (al_cons al_nil)))))))) (by decide)))) (se_bin op_mod ok_mod (se_bin op_fdivP ok_div (se_var 2) se_int) se_int))))
    (sss_cons (ss_if (sw_t (sw_and (st_cmp op_lt ok_cmp (sb_of (se_var 3)) (sb_of se_int) (nomark _)) (sw_and1 (st_chain op_le ok_cmp op_le ok_cmp (sb_of se_int) (sb_of (se_var 4)) (sb_of (se_var 1))))))
      (sss_one (ss_ret (se_var 4)))
      sss_nil)
    (sss_cons (ss_if (st_cmp op_lt ok_cmp (sb_of (se_var 3)) (sb_of se_int) (nomark _))
      (sss_one (ss_ret (se_bin op_mod ok_mod (se_bin op_fdivP ok_div (se_var 2) se_int) (se_bin op_addA ok_add (se_var 1) se_int))))
      sss_nil)
    (sss_one (ss_ret (se_cb (call_max2 rfl) ok_max rfl z_max bt_max (sab_cons (sb_of se_int) (sab_cons (sb_of (se_cb (call_min2 rfl) ok_min rfl z_min bt_min (sab_cons (sb_of (se_var 1)) (sab_cons (sb_of (se_bin op_sub ok_sub (se_bin op_addA ok_add (se_var 0) (se_bin op_mod ok_mod (se_bin op_fdivP ok_div (se_var 2) se_int) se_int)) se_int)) sab_nil)))) sab_nil)))))))))
noncomputable abbrev s_law_rows_by:Stmt:=top 43
theorem sc_law_rows_by:FnScope ["_law_script", "_law_many", "_law_dense", "_law_found", "_law_number", "_law_cell", "_law_place", "_law_word_here"] ["_law_script", "_law_many", "_law_dense"] (defScope s_law_rows_by):=⟨rfl,rfl,rfl,by decide +kernel,rfl,by decide +kernel,by decide +kernel⟩
theorem ok_law_rows_by (d:Def K mg "_law_rows_by" s_law_rows_by ["_law_script", "_law_many", "_law_dense"]) (z_range:mg "range" = none) (z_len:mg "len" = none) (h_law_cell_at:Has P w K mg base "_law_cell_at" ["_law_script", "_law_k"] 1 (spF K F_law_cell_at)) (h_law_mixed:Has P w K mg base "_law_mixed" ["_law_cell", "_law_k"] 1 (spF K F_law_mixed)) (h_law_place_by:Has P w K mg base "_law_place_by" ["_law_number", "_law_many", "_law_cell"] 1 (spF K F_law_place_by)) (h_law_row_by:Has P w K mg base "_law_row_by" ["_law_cell"] 1 (spF K F_law_row_by)):Has P w K mg base "_law_rows_by" ["_law_script", "_law_many", "_law_dense"] 3 (spF K F_law_rows_by):=
  Def.okS d sc_law_rows_by (by decide) run_law_rows_by fun f cdv A outer s H E hr=>(sss_cons (ss_setO (i:=3) sc_law_rows_by.nd rfl (Or.inl rfl) (sf_lst sa_nil (al_le al_nil (by decide))))
    (sss_cons (ss_for PassesOwn.never rfl (si_range1 rfl z_range (se_var 1)) (sg_var (qg_name (i:=4) sc_law_rows_by.nd rfl (Or.inl rfl)) rfl)
      (sss_cons (ss_set (i:=5) sc_law_rows_by.nd rfl (Or.inl rfl) (se_call h_law_cell_at hr rfl (sa_cons (se_var 0) (sa_cons (se_bin op_addA ok_add se_int (se_var 4)) sa_nil))))
        (sss_cons (ss_if (st_cmp op_lt ok_cmp (sb_of (se_cb call_lenS ok_len rfl z_len bt_len (sab_cons (sb_of (se_var 0)) sab_nil))) (sb_of (se_bin op_addA ok_add se_int (se_var 4))) (nomark _))
          (sss_one (ss_set (i:=5) sc_law_rows_by.nd rfl (Or.inl rfl) (se_call h_law_mixed hr rfl (sa_cons (se_call h_law_cell_at hr rfl (sa_cons (se_var 0) (sa_cons se_int sa_nil))) (sa_cons (se_var 4) sa_nil)))))
          sss_nil)
        (sss_one (ss_if (st_cmp op_lt ok_cmp (sb_of (se_bin op_mod ok_mod (se_call h_law_mixed hr rfl (sa_cons (se_var 5) (sa_cons se_int sa_nil))) se_int)) (sb_of (se_var 2)) (nomark _))
          (sss_cons (ss_set (i:=6) sc_law_rows_by.nd rfl (Or.inl rfl) (se_call h_law_place_by hr rfl (sa_cons (se_var 4) (sa_cons (se_var 1) (sa_cons (se_call h_law_mixed hr rfl (sa_cons (se_var 5) (sa_cons se_int sa_nil))) sa_nil)))))
            (sss_cons (ss_set (i:=7) sc_law_rows_by.nd rfl (Or.inl rfl) (se_ix (ix_S (hu_of hr)) ok_ix (se_of (sf_lst (sa_cons se_str (sa_cons se_str (sa_cons se_str sa_nil))) (al_le (al_cons (al_cons (al_cons al_nil))) (by decide)))) (se_bin op_mod ok_mod (se_call h_law_mixed hr rfl (sa_cons (se_var 5) (sa_cons se_int sa_nil))) se_int)))
            (sss_one (ss_if (st_cmp (op_eqS (hu7 hr)) ok_eq (sb_of (se_var 7)) (sb_of se_str) (nomark _))
              (sss_one (ss_append (qv 3) (se_tup (sa_cons (se_var 7) (sa_cons (se_var 6) sa_nil)) (al_le (al_cons (al_cons al_nil)) (by decide)))))
              (sss_one (ss_append (qv 3) (se_tup (sa_cons (se_var 7) (sa_cons (se_ix (ix_S (hu_of hr)) ok_ix (se_of (sf_lst (sa_cons se_str (sa_cons se_str (sa_cons se_str sa_nil))) (al_le (al_cons (al_cons (al_cons al_nil))) (by decide)))) (se_bin op_mod ok_mod (se_call h_law_mixed hr rfl (sa_cons (se_var 5) (sa_cons se_int sa_nil))) se_int)) (sa_cons (se_var 6) sa_nil))) (al_le (al_cons (al_cons (al_cons al_nil))) (by decide)))))))))
          (sss_one (ss_append (qv 3) (se_call h_law_row_by hr rfl (sa_cons (se_call h_law_mixed hr rfl (sa_cons (se_var 5) (sa_cons se_int sa_nil))) sa_nil)))))))))
    (sss_one (ss_retV 3))))
noncomputable abbrev s_law_jumps_in:Stmt:=top 44
theorem sc_law_jumps_in:FnScope ["_law_rows"] ["_law_rows"] (defScope s_law_jumps_in):=⟨rfl,rfl,rfl,by decide +kernel,rfl,by decide +kernel,by decide +kernel⟩
theorem ok_law_jumps_in (d:Def K mg "_law_jumps_in" s_law_jumps_in ["_law_rows"]) (z_range:mg "range" = none) (z_len:mg "len" = none):Has P w K mg base "_law_jumps_in" ["_law_rows"] 1 (spF K F_law_jumps_in):=
  Def.okS d sc_law_jumps_in (by decide) run_law_jumps_in fun f cdv A outer s H E hr=>(sss_one (ss_retO (sf_lc rfl (blk_mk (own:=["_law_number"]) rfl) (si_range1 rfl z_range (se_cb call_lenS ok_len rfl z_len bt_len (sab_cons (sb_of (se_var 0)) sab_nil))) (bg_one (fun C s H fp pn=>(qg_name (i:=1) (show (blkN ["_law_rows"] ["_law_number"]).Nodup by decide +kernel) rfl (Or.inl rfl))) rfl) (fun C s H fp pn=>(sts_one (st_cmp (op_inS (hu_of hr)) ok_in (sb_of (se_ix (ix_S (hu_of hr)) ok_ix (se_ix (ix_S (hu_of hr)) ok_ix (se_var 0) (se_var 1)) se_int)) (sb_of (se_tup (sa_cons se_str (sa_cons se_str (sa_cons se_str sa_nil))) (al_le (al_cons (al_cons (al_cons al_nil))) (by decide)))) (by with_unfolding_all rfl)))) (fun C s H fp pn=>(se_var 1)))))
noncomputable abbrev s_law_many_by:Stmt:=top 45
theorem sc_law_many_by:FnScope ["_law_cell", "_law_many"] ["_law_cell"] (defScope s_law_many_by):=⟨rfl,rfl,rfl,by decide +kernel,rfl,by decide +kernel,by decide +kernel⟩
theorem ok_law_many_by (d:Def K mg "_law_many_by" s_law_many_by ["_law_cell"]):Has P w K mg base "_law_many_by" ["_law_cell"] 1 (spF K F_law_many_by):=
  Def.okS d sc_law_many_by (by decide) run_law_many_by fun f cdv A outer s H E hr=>(sss_cons (ss_set (i:=1) sc_law_many_by.nd rfl (Or.inl rfl) (se_bin op_mod ok_mod (se_var 0) se_int))
    (sss_cons (ss_if (st_cmp (op_eqS (hu7 hr)) ok_eq (sb_of (se_bin op_mod ok_mod (se_bin op_fdivP ok_div (se_var 0) se_int) se_int)) (sb_of se_int) (nomark _))
      (sss_one (ss_set (i:=1) sc_law_many_by.nd rfl (Or.inl rfl) (se_bin op_addA ok_add se_int (se_bin op_mod ok_mod (se_bin op_fdivP ok_div (se_var 0) se_int) se_int))))
      sss_nil)
    (sss_cons (ss_if (st_cmp (op_eqS (hu7 hr)) ok_eq (sb_of (se_bin op_mod ok_mod (se_bin op_fdivP ok_div (se_var 0) se_int) se_int)) (sb_of se_int) (nomark _))
      (sss_one (ss_set (i:=1) sc_law_many_by.nd rfl (Or.inl rfl) (se_bin op_addA ok_add se_int (se_bin op_mod ok_mod (se_bin op_fdivP ok_div (se_var 0) se_int) se_int))))
      sss_nil)
    (sss_one (ss_ret (se_var 1))))))
noncomputable abbrev s_law_items_by:Stmt:=top 46
theorem sc_law_items_by:FnScope ["_law_rows", "_law_cell", "_law_shape", "_law_places", "_law_names", "_law_items", "_law_count", "_law_place", "_law_more", "_law_jumps"] ["_law_rows", "_law_cell"] (defScope s_law_items_by):=⟨rfl,rfl,rfl,by decide +kernel,rfl,by decide +kernel,by decide +kernel⟩
theorem ok_law_items_by (d:Def K mg "_law_items_by" s_law_items_by ["_law_rows", "_law_cell"]) (z_range:mg "range" = none) (z_len:mg "len" = none) (h_law_jumps_in:Has P w K mg base "_law_jumps_in" ["_law_rows"] 1 (spF K F_law_jumps_in)) (h_law_mixed:Has P w K mg base "_law_mixed" ["_law_cell", "_law_k"] 1 (spF K F_law_mixed)) (h_law_name_by:Has P w K mg base "_law_name_by" ["_law_k", "_law_shape"] 2 (spF K F_law_name_by)):Has P w K mg base "_law_items_by" ["_law_rows", "_law_cell"] 4 (spF K F_law_items_by):=
  Def.okS d sc_law_items_by (by decide) run_law_items_by fun f cdv A outer s H E hr=>(sss_cons (ss_set (i:=2) sc_law_items_by.nd rfl (Or.inl rfl) (se_bin op_mod ok_mod (se_bin op_fdivP ok_div (se_var 1) se_int) se_int))
    (sss_cons (ss_lc (i:=3) rfl sc_law_items_by.nd rfl rfl (blk_mk (own:=["_law_number"]) rfl) rfl (si_seq (se_call h_law_jumps_in hr rfl (sa_cons (se_var 0) sa_nil))) (bg_one (fun C s H fp pn=>(qg_name (i:=10) (show (blkN ["_law_rows", "_law_cell", "_law_shape", "_law_places", "_law_names", "_law_items", "_law_count", "_law_place", "_law_more", "_law_jumps"] ["_law_number"]).Nodup by decide +kernel) rfl (Or.inl rfl))) rfl) (fun C s H fp pn=>sts_nil) (fun C s H fp pn=>(se_ix (ix_S (hu_of hr)) ok_ix (se_ix (ix_S (hu_of hr)) ok_ix (se_var 0) (se_var 10)) (se_un un_neg unI_neg se_int))))
    (sss_cons (ss_setO (i:=4) sc_law_items_by.nd rfl (Or.inr rfl) sf_dnew)
    (sss_cons (ss_setO (i:=5) sc_law_items_by.nd rfl (Or.inl rfl) (sf_lst sa_nil (al_le al_nil (by decide))))
    (sss_cons (ss_set (i:=6) sc_law_items_by.nd rfl (Or.inl rfl) se_int)
    (sss_cons (ss_for PassesOwn.never rfl (si_range1 rfl z_range (se_bin op_addA ok_add (se_cb call_lenS ok_len rfl z_len bt_len (sab_cons (sb_of (se_var 0)) sab_nil)) se_int)) (sg_var (qg_name (i:=7) sc_law_items_by.nd rfl (Or.inl rfl)) rfl)
      (sss_cons (ss_set (i:=8) sc_law_items_by.nd rfl (Or.inl rfl) (se_bin op_mod ok_mod (se_call h_law_mixed hr rfl (sa_cons (se_var 1) (sa_cons (se_var 7) sa_nil))) se_int))
        (sss_cons (ss_if (sw_t (sw_or (st_cmp (op_inS (hu_of hr)) ok_in (sb_of (se_var 7)) (sb_of (se_var 3)) (by with_unfolding_all rfl)) (sw_or1 (st_cmp (op_eqS (hu7 hr)) ok_eq (sb_of (se_var 8)) (sb_of se_int) (nomark _)))))
          (sss_cons (ss_dput (hu_of hr) (qv 4) (se_var 7) (se_call h_law_name_by hr rfl (sa_cons (se_var 6) (sa_cons (se_var 2) sa_nil))))
            (sss_cons (ss_append (qv 5) (se_tup (sa_cons se_str (sa_cons (se_ixO (hu_of hr) (qv 4) (se_var 7)) sa_nil)) (al_le (al_cons (al_cons al_nil)) (by decide))))
            (sss_one (ss_aug (i:=6) ip_add ok_ipI sc_law_items_by.nd rfl (Or.inl rfl) se_int))))
          sss_nil)
        (sss_cons (ss_if (st_cmp (op_eqS (hu7 hr)) ok_eq (sb_of (se_var 8)) (sb_of se_int) (nomark _))
          (sss_cons (ss_append (qv 5) (se_tup (sa_cons se_str (sa_cons (se_call h_law_name_by hr rfl (sa_cons (se_var 6) (sa_cons (se_var 2) sa_nil))) sa_nil)) (al_le (al_cons (al_cons al_nil)) (by decide))))
            (sss_one (ss_aug (i:=6) ip_add ok_ipI sc_law_items_by.nd rfl (Or.inl rfl) se_int)))
          sss_nil)
        (sss_one (ss_if (st_cmp op_lt ok_cmp (sb_of (se_var 7)) (sb_of (se_cb call_lenS ok_len rfl z_len bt_len (sab_cons (sb_of (se_var 0)) sab_nil))) (nomark _))
          (sss_one (ss_append (qv 5) (se_ix (ix_S (hu_of hr)) ok_ix (se_var 0) (se_var 7))))
          sss_nil))))))
    (sss_freeze 5 (sss_freeze 4 (sss_cons (ss_set (i:=9) sc_law_items_by.nd rfl (Or.inr rfl) (se_tup (sa_cons se_str (sa_cons se_str (sa_cons se_str sa_nil))) (al_le (al_cons (al_cons (al_cons al_nil))) (by decide))))
    (sss_one (ss_retO (sf_lc rfl (blk_mk (own:=["_law_item"]) rfl) (si_seq (se_var 5)) (bg_one (fun C s H fp pn=>(qg_name (i:=10) (show (blkN ["_law_rows", "_law_cell", "_law_shape", "_law_places", "_law_names", "_law_items", "_law_count", "_law_place", "_law_more", "_law_jumps"] ["_law_item"]).Nodup by decide +kernel) rfl (Or.inl rfl))) rfl) (fun C s H fp pn=>sts_nil) (fun C s H fp pn=>(se_if (st_cmp (op_inS (hu_of hr)) ok_in (sb_of (se_ix (ix_S (hu_of hr)) ok_ix (se_var 10) se_int)) (sb_of (se_var 9)) (by with_unfolding_all rfl)) (se_bin op_addA ok_add (se_sl (se_var 10) so_none (so_some (se_un un_neg unI_neg se_int))) (se_tup (sa_cons (se_ix (ix_S (hu_of hr)) ok_ix (se_var 4) (se_ix (ix_S (hu_of hr)) ok_ix (se_var 10) (se_un un_neg unI_neg se_int))) sa_nil) (al_le (al_cons al_nil) (by decide)))) (se_var 10)))))))))))))))
noncomputable abbrev s_law_built:Stmt:=top 47
theorem sc_law_built:FnScope ["_law_script", "_law_many", "_law_dense", "_law_rows"] ["_law_script"] (defScope s_law_built):=⟨rfl,rfl,rfl,by decide +kernel,rfl,by decide +kernel,by decide +kernel⟩
theorem ok_law_built (d:Def K mg "_law_built" s_law_built ["_law_script"]) (h_law_many_by:Has P w K mg base "_law_many_by" ["_law_cell"] 1 (spF K F_law_many_by)) (h_law_cell_at:Has P w K mg base "_law_cell_at" ["_law_script", "_law_k"] 1 (spF K F_law_cell_at)) (h_law_rows_by:Has P w K mg base "_law_rows_by" ["_law_script", "_law_many", "_law_dense"] 3 (spF K F_law_rows_by)) (h_law_items_by:Has P w K mg base "_law_items_by" ["_law_rows", "_law_cell"] 4 (spF K F_law_items_by)):Has P w K mg base "_law_built" ["_law_script"] 5 (spF K F_law_built):=
  Def.okS d sc_law_built (by decide) run_law_built fun f cdv A outer s H E hr=>(sss_cons (ss_set (i:=1) sc_law_built.nd rfl (Or.inl rfl) (se_call h_law_many_by hr rfl (sa_cons (se_call h_law_cell_at hr rfl (sa_cons (se_var 0) (sa_cons se_int sa_nil))) sa_nil)))
    (sss_cons (ss_set (i:=2) sc_law_built.nd rfl (Or.inl rfl) (se_ix (ix_S (hu_of hr)) ok_ix (se_of (sf_lst (sa_ints (is:=[4,2,6,8]) rfl) (al_le (al_ints (n:=4) (by decide)) (by decide)))) (se_bin op_mod ok_mod (se_call h_law_cell_at hr rfl (sa_cons (se_var 0) (sa_cons se_int sa_nil))) se_int)))
    (sss_cons (ss_set (i:=3) sc_law_built.nd rfl (Or.inl rfl) (se_call h_law_rows_by hr rfl (sa_cons (se_var 0) (sa_cons (se_var 1) (sa_cons (se_var 2) sa_nil)))))
    (sss_one (ss_ret (se_tup (sa_cons (se_var 3) (sa_cons (se_call h_law_items_by hr rfl (sa_cons (se_var 3) (sa_cons (se_bin op_fdivP ok_div (se_call h_law_cell_at hr rfl (sa_cons (se_var 0) (sa_cons se_int sa_nil))) se_int) sa_nil))) sa_nil)) (al_le (al_cons (al_cons al_nil)) (by decide))))))))
noncomputable abbrev s_law_stands:Stmt:=top 48
theorem sc_law_stands:FnScope ["_law_rows", "_law_far", "_law_found", "_law_number"] ["_law_rows", "_law_far"] (defScope s_law_stands):=⟨rfl,rfl,rfl,by decide +kernel,rfl,by decide +kernel,by decide +kernel⟩
theorem ok_law_stands (d:Def K mg "_law_stands" s_law_stands ["_law_rows", "_law_far"]) (z_range:mg "range" = none) (z_len:mg "len" = none):Has P w K mg base "_law_stands" ["_law_rows", "_law_far"] 1 (spF K F_law_stands):=
  Def.okS d sc_law_stands (by decide) run_law_stands fun f cdv A outer s H E hr=>(sss_cons (ss_setO (i:=2) sc_law_stands.nd rfl (Or.inl rfl) (sf_lst (sa_cons se_int sa_nil) (al_le (al_cons al_nil) (by decide))))
    (sss_cons (ss_for PassesOwn.never rfl (si_range1 rfl z_range (se_cb call_lenS ok_len rfl z_len bt_len (sab_cons (sb_of (se_var 0)) sab_nil))) (sg_var (qg_name (i:=3) sc_law_stands.nd rfl (Or.inl rfl)) rfl)
      (sss_cons (ss_append (qv 2) (se_bin op_addA ok_add (se_ixO (hu_of hr) (qv 2) (se_un un_neg unI_neg se_int)) se_int))
        (sss_one (ss_if (st_cmp (op_inS (hu_of hr)) ok_in (sb_of (se_var 3)) (sb_of (se_var 1)) (by with_unfolding_all rfl))
          (sss_one (ss_setAt (qv 2) (se_un un_neg unI_neg se_int) (se_bin op_addA ok_add (se_ixO (hu_of hr) (qv 2) (se_un un_neg unI_neg se_int)) se_int)))
          sss_nil))))
    (sss_one (ss_retV 2))))
noncomputable abbrev s_law_near_ones:Stmt:=top 49
theorem sc_law_near_ones:FnScope ["_law_rows", "_law_far", "_law_stands_here", "_law_found", "_law_number", "_law_distance"] ["_law_rows", "_law_far"] (defScope s_law_near_ones):=⟨rfl,rfl,rfl,by decide +kernel,rfl,by decide +kernel,by decide +kernel⟩
theorem ok_law_near_ones (d:Def K mg "_law_near_ones" s_law_near_ones ["_law_rows", "_law_far"]) (h_law_stands:Has P w K mg base "_law_stands" ["_law_rows", "_law_far"] 1 (spF K F_law_stands)) (h_law_jumps_in:Has P w K mg base "_law_jumps_in" ["_law_rows"] 1 (spF K F_law_jumps_in)):Has P w K mg base "_law_near_ones" ["_law_rows", "_law_far"] 2 (spF K F_law_near_ones):=
  Def.okS d sc_law_near_ones (by decide) run_law_near_ones fun f cdv A outer s H E hr=>(sss_cons (ss_set (i:=2) sc_law_near_ones.nd rfl (Or.inl rfl) (se_call h_law_stands hr rfl (sa_cons (se_var 0) (sa_cons (se_var 1) sa_nil))))
    (sss_cons (ss_setO (i:=3) sc_law_near_ones.nd rfl (Or.inl rfl) (sf_lst sa_nil (al_le al_nil (by decide))))
    (sss_cons (ss_for PassesOwn.never rfl (si_seq (se_call h_law_jumps_in hr rfl (sa_cons (se_var 0) sa_nil))) (sg_var (qg_name (i:=4) sc_law_near_ones.nd rfl (Or.inl rfl)) rfl)
      (sss_cons (ss_set (i:=5) sc_law_near_ones.nd rfl (Or.inl rfl) (se_bin op_sub ok_sub (se_ix (ix_S (hu_of hr)) ok_ix (se_var 2) (se_ix (ix_S (hu_of hr)) ok_ix (se_ix (ix_S (hu_of hr)) ok_ix (se_var 0) (se_var 4)) (se_un un_neg unI_neg se_int))) (se_ix (ix_S (hu_of hr)) ok_ix (se_var 2) (se_var 4))))
        (sss_one (ss_if (sw_t (sw_and (st_cmp (op_notInS (hu_of hr)) ok_notIn (sb_of (se_var 4)) (sb_of (se_var 1)) (by with_unfolding_all rfl)) (sw_and1 (sw_t (sw_or (st_cmp op_lt ok_cmp (sb_of (se_var 5)) (sb_of (se_un un_neg unI_neg se_int)) (nomark _)) (sw_or1 (st_cmp op_gt ok_cmp (sb_of (se_var 5)) (sb_of se_int) (nomark _))))))))
          (sss_one (ss_append (qv 3) (se_var 4)))
          sss_nil))))
    (sss_one (ss_retV 3)))))
noncomputable abbrev s_law_reaching:Stmt:=top 50
theorem sc_law_reaching:FnScope ["_law_rows", "_law_far", "_law_more"] ["_law_rows", "_law_far"] (defScope s_law_reaching):=⟨rfl,rfl,rfl,by decide +kernel,rfl,by decide +kernel,by decide +kernel⟩
theorem ok_law_reaching (d:Def K mg "_law_reaching" s_law_reaching ["_law_rows", "_law_far"]) (z_sorted:mg "sorted" = none) (h_law_near_ones:Has P w K mg base "_law_near_ones" ["_law_rows", "_law_far"] 2 (spF K F_law_near_ones)):Has P w K mg base "_law_reaching" ["_law_rows", "_law_far"] 3 (spF K F_law_reaching):=
  Def.okS d sc_law_reaching (by decide) run_law_reaching fun f cdv A outer s H E hr=>(sss_cons (ss_set (i:=2) sc_law_reaching.nd rfl (Or.inl rfl) (se_call h_law_near_ones hr rfl (sa_cons (se_var 0) (sa_cons (se_var 1) sa_nil))))
    (sss_cons (ss_while PassesOwn.never (st_cmp (op_neS (hu7 hr)) ok_ne (sb_of (se_var 2)) (sb_of (se_of (sf_lst sa_nil (al_le al_nil (by decide))))) (nomark _))
      (sss_cons (ss_set (i:=1) sc_law_reaching.nd rfl (Or.inl rfl) (se_of (sf_sorted rfl z_sorted (sa_cons (se_bin op_addA ok_add (se_var 1) (se_var 2)) sa_nil))))
        (sss_one (ss_set (i:=2) sc_law_reaching.nd rfl (Or.inl rfl) (se_call h_law_near_ones hr rfl (sa_cons (se_var 0) (sa_cons (se_var 1) sa_nil)))))))
    (sss_one (ss_ret (se_var 1)))))
noncomputable abbrev s_law_any_far:Stmt:=top 52
theorem sc_law_any_far:FnScope ["_law_rows", "_law_cell", "_law_most"] ["_law_rows", "_law_cell", "_law_most"] (defScope s_law_any_far):=⟨rfl,rfl,rfl,by decide +kernel,rfl,by decide +kernel,by decide +kernel⟩
theorem ok_law_any_far (d:Def K mg "_law_any_far" s_law_any_far ["_law_rows", "_law_cell", "_law_most"]) (h_law_reaching:Has P w K mg base "_law_reaching" ["_law_rows", "_law_far"] 3 (spF K F_law_reaching)) (h_law_jumps_in:Has P w K mg base "_law_jumps_in" ["_law_rows"] 1 (spF K F_law_jumps_in)) (h_law_mixed:Has P w K mg base "_law_mixed" ["_law_cell", "_law_k"] 1 (spF K F_law_mixed)):Has P w K mg base "_law_any_far" ["_law_rows", "_law_cell", "_law_most"] 4 (spF K F_law_any_far):=
  Def.okS d sc_law_any_far (by decide) run_law_any_far fun f cdv A outer s H E hr=>(sss_one (ss_ret (se_call h_law_reaching hr rfl (sa_cons (se_var 0) (sa_cons (se_of (sf_lc rfl (blk_mk (own:=["_law_number"]) rfl) (si_seq (se_call h_law_jumps_in hr rfl (sa_cons (se_var 0) sa_nil))) (bg_one (fun C s H fp pn=>(qg_name (i:=3) (show (blkN ["_law_rows", "_law_cell", "_law_most"] ["_law_number"]).Nodup by decide +kernel) rfl (Or.inl rfl))) rfl) (fun C s H fp pn=>(sts_one (st_cmp op_lt ok_cmp (sb_of (se_bin op_mod ok_mod (se_call h_law_mixed hr rfl (sa_cons (se_var 1) (sa_cons (se_var 3) sa_nil))) se_int)) (sb_of (se_var 2)) (nomark _)))) (fun C s H fp pn=>(se_var 3)))) sa_nil)))))
noncomputable abbrev s_law_order:Stmt:=top 53
theorem sc_law_order:FnScope ["_law_some"] [] (defScope s_law_order):=⟨rfl,rfl,rfl,by decide +kernel,rfl,by decide +kernel,by decide +kernel⟩
theorem ok_law_order (d:Def K mg "_law_order" s_law_order []):Has P w K mg base "_law_order" [] 1 (spF K F_law_order):=
  Def.okS d sc_law_order (by decide) run_law_order fun f cdv A outer s H E hr=>(sss_cons (ss_set (i:=0) sc_law_order.nd rfl (Or.inl rfl) (se_of (sf_lst (sa_cons se_str (sa_cons se_str (sa_cons se_str (sa_cons se_str (sa_cons se_str (sa_cons se_str (sa_cons se_str (sa_cons se_str (sa_cons se_str (sa_cons se_str (sa_cons se_str (sa_cons se_str sa_nil)))))))))))) (al_le (al_cons (al_cons (al_cons (al_cons (al_cons (al_cons (al_cons (al_cons (al_cons (al_cons (al_cons (al_cons al_nil)))))))))))) (by decide)))))
    (sss_one (ss_ret (se_bin op_addA ok_add (se_var 0) (se_of (sf_lst (sa_cons se_str (sa_cons se_str (sa_cons se_str (sa_cons se_str (sa_cons se_str (sa_cons se_str sa_nil)))))) (al_le (al_cons (al_cons (al_cons (al_cons (al_cons (al_cons al_nil)))))) (by decide))))))))
noncomputable abbrev s_law_word:Stmt:=top 54
theorem sc_law_word:FnScope ["_law_row", "_law_word_here"] ["_law_row"] (defScope s_law_word):=⟨rfl,rfl,rfl,by decide +kernel,rfl,by decide +kernel,by decide +kernel⟩
theorem ok_law_word (d:Def K mg "_law_word" s_law_word ["_law_row"]) (z_len:mg "len" = none) (h_law_order:Has P w K mg base "_law_order" [] 1 (spF K F_law_order)):Has P w K mg base "_law_word" ["_law_row"] 2 (spF K F_law_word):=
  Def.okS d sc_law_word (by decide) run_law_word fun f cdv A outer s H E hr=>(sss_cons (ss_set (i:=1) sc_law_word.nd rfl (Or.inl rfl) (se_bin op_mul ok_mulR (se_indexL (se_call0 h_law_order hr rfl) (se_ix (ix_S (hu_of hr)) ok_ix (se_var 0) se_int)) (se_bin op_pow ok_pow se_int se_int)))
    (sss_cons (ss_if (st_cmp (op_eqS (hu7 hr)) ok_eq (sb_of (se_ix (ix_S (hu_of hr)) ok_ix (se_var 0) se_int)) (sb_of se_str) (nomark _))
      (sss_one (ss_ret (se_var 1)))
      sss_nil)
    (sss_cons (ss_set (i:=1) sc_law_word.nd rfl (Or.inl rfl) (se_bin op_addA ok_add (se_var 1) (se_bin op_mul ok_mulR (se_ix (ix_S (hu_of hr)) ok_ix (se_var 0) se_int) (se_bin op_pow ok_pow se_int se_int))))
    (sss_cons (ss_if (st_cmp (op_inS (hu_of hr)) ok_in (sb_of (se_ix (ix_S (hu_of hr)) ok_ix (se_var 0) se_int)) (sb_of (se_tup (sa_cons se_str (sa_cons se_str (sa_cons se_str (sa_cons se_str sa_nil)))) (al_le (al_cons (al_cons (al_cons (al_cons al_nil)))) (by decide)))) (by with_unfolding_all rfl))
      (sss_one (ss_ret (se_bin op_addA ok_add (se_var 1) (se_ix (ix_S (hu_of hr)) ok_ix (se_var 0) se_int))))
      sss_nil)
    (sss_cons (ss_set (i:=1) sc_law_word.nd rfl (Or.inl rfl) (se_bin op_addA ok_add (se_var 1) (se_bin op_mul ok_mulR (se_ix (ix_S (hu_of hr)) ok_ix (se_var 0) se_int) (se_bin op_pow ok_pow se_int se_int))))
    (sss_cons (ss_if (st_cmp (op_eqS (hu7 hr)) ok_eq (sb_of (se_cb call_lenS ok_len rfl z_len bt_len (sab_cons (sb_of (se_var 0)) sab_nil))) (sb_of se_int) (nomark _))
      (sss_one (ss_set (i:=1) sc_law_word.nd rfl (Or.inl rfl) (se_bin op_addA ok_add (se_var 1) (se_ix (ix_S (hu_of hr)) ok_ix (se_var 0) se_int))))
      sss_nil)
    (sss_one (ss_ret (se_var 1)))))))))
noncomputable abbrev s_law_jump_words:Stmt:=top 55
theorem sc_law_jump_words:FnScope ["_law_row", "_law_distance", "_law_is_far", "_law_word_here"] ["_law_row", "_law_distance", "_law_is_far"] (defScope s_law_jump_words):=⟨rfl,rfl,rfl,by decide +kernel,rfl,by decide +kernel,by decide +kernel⟩
theorem ok_law_jump_words (d:Def K mg "_law_jump_words" s_law_jump_words ["_law_row", "_law_distance", "_law_is_far"]) (z_int:mg "int" = none):Has P w K mg base "_law_jump_words" ["_law_row", "_law_distance", "_law_is_far"] 1 (spF K F_law_jump_words):=
  Def.okS d sc_law_jump_words (by decide) run_law_jump_words fun f cdv A outer s H E hr=>(sss_cons (ss_set (i:=3) sc_law_jump_words.nd rfl (Or.inl rfl) (se_bin op_mul ok_mulR (se_bin op_addA ok_add (se_bin op_addA ok_add se_int (se_indexL (se_of (sf_lst (sa_cons se_str (sa_cons se_str (sa_cons se_str sa_nil))) (al_le (al_cons (al_cons (al_cons al_nil))) (by decide)))) (se_ix (ix_S (hu_of hr)) ok_ix (se_var 0) se_int))) (se_bin op_mul ok_mulL se_int (se_cty call_int1 ok_int rfl z_int boot_ty_int (sab_cons (sb_of (se_var 2)) sab_nil)))) (se_bin op_pow ok_pow se_int se_int)))
    (sss_cons (ss_if (st_cmp (op_neS (hu7 hr)) ok_ne (sb_of (se_ix (ix_S (hu_of hr)) ok_ix (se_var 0) se_int)) (sb_of se_str) (nomark _))
      (sss_one (ss_set (i:=3) sc_law_jump_words.nd rfl (Or.inl rfl) (se_bin op_addA ok_add (se_var 3) (se_bin op_mul ok_mulR (se_indexL (se_of (sf_lst (sa_cons se_str (sa_cons se_str (sa_cons se_str sa_nil))) (al_le (al_cons (al_cons (al_cons al_nil))) (by decide)))) (se_ix (ix_S (hu_of hr)) ok_ix (se_var 0) se_int)) (se_bin op_pow ok_pow se_int se_int)))))
      sss_nil)
    (sss_cons (ss_if (st_val (se_var 2))
      (sss_one (ss_retO (sf_lst (sa_cons (se_var 3) (sa_cons (se_bin op_mod ok_mod (se_var 1) (se_bin op_pow ok_pow se_int se_int)) sa_nil)) (al_le (al_cons (al_cons al_nil)) (by decide)))))
      sss_nil)
    (sss_one (ss_retO (sf_lst (sa_cons (se_bin op_addA ok_add (se_var 3) (se_bin op_mod ok_mod (se_var 1) se_int)) sa_nil) (al_le (al_cons al_nil) (by decide))))))))
noncomputable abbrev s_law_written:Stmt:=top 56
theorem sc_law_written:FnScope ["_law_rows", "_law_far", "_law_stands_here", "_law_found", "_law_number", "_law_distance"] ["_law_rows", "_law_far"] (defScope s_law_written):=⟨rfl,rfl,rfl,by decide +kernel,rfl,by decide +kernel,by decide +kernel⟩
theorem ok_law_written (d:Def K mg "_law_written" s_law_written ["_law_rows", "_law_far"]) (z_range:mg "range" = none) (z_len:mg "len" = none) (h_law_stands:Has P w K mg base "_law_stands" ["_law_rows", "_law_far"] 1 (spF K F_law_stands)) (h_law_jump_words:Has P w K mg base "_law_jump_words" ["_law_row", "_law_distance", "_law_is_far"] 1 (spF K F_law_jump_words)) (h_law_word:Has P w K mg base "_law_word" ["_law_row"] 2 (spF K F_law_word)):Has P w K mg base "_law_written" ["_law_rows", "_law_far"] 3 (spF K F_law_written):=
  Def.okS d sc_law_written (by decide) run_law_written fun f cdv A outer s H E hr=>(sss_cons (ss_set (i:=2) sc_law_written.nd rfl (Or.inl rfl) (se_call h_law_stands hr rfl (sa_cons (se_var 0) (sa_cons (se_var 1) sa_nil))))
    (sss_cons (ss_setO (i:=3) sc_law_written.nd rfl (Or.inl rfl) (sf_lst sa_nil (al_le al_nil (by decide))))
    (sss_cons (ss_for PassesOwn.never rfl (si_range1 rfl z_range (se_cb call_lenS ok_len rfl z_len bt_len (sab_cons (sb_of (se_var 0)) sab_nil))) (sg_var (qg_name (i:=4) sc_law_written.nd rfl (Or.inl rfl)) rfl)
      (sss_one (ss_if (st_cmp (op_inS (hu_of hr)) ok_in (sb_of (se_ix (ix_S (hu_of hr)) ok_ix (se_ix (ix_S (hu_of hr)) ok_ix (se_var 0) (se_var 4)) se_int)) (sb_of (se_tup (sa_cons se_str (sa_cons se_str (sa_cons se_str sa_nil))) (al_le (al_cons (al_cons (al_cons al_nil))) (by decide)))) (by with_unfolding_all rfl))
          (sss_cons (ss_set (i:=5) sc_law_written.nd rfl (Or.inl rfl) (se_bin op_sub ok_sub (se_ix (ix_S (hu_of hr)) ok_ix (se_var 2) (se_ix (ix_S (hu_of hr)) ok_ix (se_ix (ix_S (hu_of hr)) ok_ix (se_var 0) (se_var 4)) (se_un un_neg unI_neg se_int))) (se_ix (ix_S (hu_of hr)) ok_ix (se_var 2) (se_var 4))))
            (sss_one (ss_setO (i:=3) sc_law_written.nd rfl (Or.inl rfl) (sf_catO (qv 3) (se_call h_law_jump_words hr rfl (sa_cons (se_ix (ix_S (hu_of hr)) ok_ix (se_var 0) (se_var 4)) (sa_cons (se_var 5) (sa_cons (se_cmp (op_inS (hu_of hr)) ok_in (sb_of (se_var 4)) (sb_of (se_var 1)) (by with_unfolding_all rfl)) sa_nil))))))))
          (sss_one (ss_append (qv 3) (se_call h_law_word hr rfl (sa_cons (se_ix (ix_S (hu_of hr)) ok_ix (se_var 0) (se_var 4)) sa_nil)))))))
    (sss_one (ss_retV 3)))))
noncomputable abbrev s_law_jump_at:Stmt:=top 57
theorem sc_law_jump_at:FnScope ["_law_words", "_law_address", "_law_kind", "_law_word_here", "_law_name", "_law_mark", "_law_is_far", "_law_row", "_law_distance"] ["_law_words", "_law_address", "_law_kind"] (defScope s_law_jump_at):=⟨rfl,rfl,rfl,by decide +kernel,rfl,by decide +kernel,by decide +kernel⟩
theorem ok_law_jump_at (d:Def K mg "_law_jump_at" s_law_jump_at ["_law_words", "_law_address", "_law_kind"]) (z_int:mg "int" = none) (z_len:mg "len" = none) (h_law_jump_words:Has P w K mg base "_law_jump_words" ["_law_row", "_law_distance", "_law_is_far"] 1 (spF K F_law_jump_words)):Has P w K mg base "_law_jump_at" ["_law_words", "_law_address", "_law_kind"] 2 (spF K F_law_jump_at):=
  Def.okS d sc_law_jump_at (by decide) run_law_jump_at fun f cdv A outer s H E hr=>(sss_cons (ss_set (i:=3) sc_law_jump_at.nd rfl (Or.inl rfl) (se_ix (ix_S (hu_of hr)) ok_ix (se_var 0) (se_var 1)))
    (sss_cons (ss_set (i:=4) sc_law_jump_at.nd rfl (Or.inl rfl) (se_ix (ix_S (hu_of hr)) ok_ix (se_of (sf_lst (sa_cons se_str (sa_cons se_str (sa_cons se_str sa_nil))) (al_le (al_cons (al_cons (al_cons al_nil))) (by decide)))) (se_bin op_mod ok_mod (se_bin op_sub ok_sub (se_var 2) se_int) se_int)))
    (sss_cons (ss_set (i:=5) sc_law_jump_at.nd rfl (Or.inl rfl) (se_bin op_mod ok_mod (se_bin op_fdivP ok_div (se_var 3) (se_bin op_pow ok_pow se_int se_int)) se_int))
    (sss_cons (ss_set (i:=6) sc_law_jump_at.nd rfl (Or.inl rfl) (se_cmp op_gt ok_cmp (sb_of (se_var 2)) (sb_of se_int) (nomark _)))
    (sss_cons (ss_if (sw_t (sw_or (st_cmp (op_eqS (hu7 hr)) ok_eq (sb_of (se_var 5)) (sb_of se_int) (nomark _)) (sw_or1 (st_cmp op_gt ok_cmp (sb_of (se_bin op_addA ok_add (se_bin op_addA ok_add (se_var 1) se_int) (se_cty call_int1 ok_int rfl z_int boot_ty_int (sab_cons (sb_of (se_var 6)) sab_nil)))) (sb_of (se_cb call_lenS ok_len rfl z_len bt_len (sab_cons (sb_of (se_var 0)) sab_nil))) (nomark _)))))
      (sss_one (ss_ret se_non))
      sss_nil)
    (sss_cons (ss_set (i:=7) sc_law_jump_at.nd rfl (Or.inl rfl) (se_tup (sa_cons se_str sa_nil) (al_le (al_cons al_nil) (by decide))))
    (sss_cons (ss_if (st_cmp (op_neS (hu7 hr)) ok_ne (sb_of (se_var 4)) (sb_of se_str) (nomark _))
      (sss_one (ss_set (i:=7) sc_law_jump_at.nd rfl (Or.inl rfl) (se_tup (sa_cons (se_var 4) (sa_cons (se_ix (ix_S (hu_of hr)) ok_ix (se_of (sf_lst (sa_cons se_str (sa_cons se_str (sa_cons se_str sa_nil))) (al_le (al_cons (al_cons (al_cons al_nil))) (by decide)))) (se_var 5)) sa_nil)) (al_le (al_cons (al_cons al_nil)) (by decide)))))
      sss_nil)
    (sss_cons (ss_set (i:=8) sc_law_jump_at.nd rfl (Or.inl rfl) (se_bin op_mod ok_mod (se_var 3) se_int))
    (sss_cons (ss_if (st_cmp op_gt ok_cmp (sb_of (se_var 8)) (sb_of se_int) (nomark _))
      (sss_one (ss_set (i:=8) sc_law_jump_at.nd rfl (Or.inl rfl) (se_bin op_sub ok_sub (se_var 8) se_int)))
      sss_nil)
    (sss_cons (ss_if (st_val (se_var 6))
      (sss_cons (ss_set (i:=8) sc_law_jump_at.nd rfl (Or.inl rfl) (se_ix (ix_S (hu_of hr)) ok_ix (se_var 0) (se_bin op_addA ok_add (se_var 1) se_int)))
        (sss_one (ss_if (st_cmp op_gt ok_cmp (sb_of (se_var 8)) (sb_of se_int) (nomark _))
          (sss_one (ss_set (i:=8) sc_law_jump_at.nd rfl (Or.inl rfl) (se_bin op_sub ok_sub (se_var 8) (se_bin op_pow ok_pow se_int se_int))))
          sss_nil)))
      sss_nil)
    (sss_cons (ss_if (st_cmp (op_neS (hu7 hr)) ok_ne (sb_of (se_ix (ix_S (hu_of hr)) ok_ix (se_call h_law_jump_words hr rfl (sa_cons (se_var 7) (sa_cons (se_var 8) (sa_cons (se_var 6) sa_nil)))) se_int)) (sb_of (se_var 3)) (nomark _))
      (sss_one (ss_ret se_non))
      sss_nil)
    (sss_one (ss_ret (se_tup (sa_cons (se_var 7) (sa_cons (se_bin op_addA ok_add (se_bin op_addA ok_add (se_var 1) se_int) (se_cty call_int1 ok_int rfl z_int boot_ty_int (sab_cons (sb_of (se_var 6)) sab_nil))) (sa_cons (se_bin op_addA ok_add (se_var 1) (se_var 8)) sa_nil))) (al_le (al_cons (al_cons (al_cons al_nil))) (by decide))))))))))))))))
noncomputable abbrev s_law_row_at:Stmt:=top 58
theorem sc_law_row_at:FnScope ["_law_words", "_law_address", "_law_word_here", "_law_kind", "_law_name", "_law_row"] ["_law_words", "_law_address"] (defScope s_law_row_at):=⟨rfl,rfl,rfl,by decide +kernel,rfl,by decide +kernel,by decide +kernel⟩
theorem ok_law_row_at (d:Def K mg "_law_row_at" s_law_row_at ["_law_words", "_law_address"]) (z_len:mg "len" = none) (z_int:mg "int" = none) (h_law_jump_at:Has P w K mg base "_law_jump_at" ["_law_words", "_law_address", "_law_kind"] 2 (spF K F_law_jump_at)) (h_law_order:Has P w K mg base "_law_order" [] 1 (spF K F_law_order)) (h_law_word:Has P w K mg base "_law_word" ["_law_row"] 2 (spF K F_law_word)):Has P w K mg base "_law_row_at" ["_law_words", "_law_address"] 3 (spF K F_law_row_at):=
  Def.okS d sc_law_row_at (by decide) run_law_row_at fun f cdv A outer s H E hr=>(sss_cons (ss_if (st_not (st_chain op_le ok_cmp op_lt ok_cmp (sb_of se_int) (sb_of (se_var 1)) (sb_of (se_cb call_lenS ok_len rfl z_len bt_len (sab_cons (sb_of (se_var 0)) sab_nil)))))
      (sss_one (ss_ret se_non))
      sss_nil)
    (sss_cons (ss_set (i:=2) sc_law_row_at.nd rfl (Or.inl rfl) (se_ix (ix_S (hu_of hr)) ok_ix (se_var 0) (se_var 1)))
    (sss_cons (ss_set (i:=3) sc_law_row_at.nd rfl (Or.inl rfl) (se_bin op_fdivP ok_div (se_var 2) (se_bin op_pow ok_pow se_int se_int)))
    (sss_cons (ss_if (st_cmp op_gt ok_cmp (sb_of (se_var 3)) (sb_of se_int) (nomark _))
      (sss_one (ss_ret se_non))
      sss_nil)
    (sss_cons (ss_if (st_cmp op_gt ok_cmp (sb_of (se_var 3)) (sb_of se_int) (nomark _))
      (sss_one (ss_ret (se_call h_law_jump_at hr rfl (sa_cons (se_var 0) (sa_cons (se_var 1) (sa_cons (se_var 3) sa_nil))))))
      sss_nil)
    (sss_cons (ss_set (i:=4) sc_law_row_at.nd rfl (Or.inl rfl) (se_ix (ix_S (hu_of hr)) ok_ix (se_call0 h_law_order hr rfl) (se_var 3)))
    (sss_cons (ss_set (i:=5) sc_law_row_at.nd rfl (Or.inl rfl) (se_tup (sa_cons (se_var 4) (sa_cons (se_bin op_mod ok_mod (se_bin op_fdivP ok_div (se_var 2) (se_bin op_pow ok_pow se_int se_int)) se_int) (sa_cons (se_bin op_mod ok_mod (se_bin op_fdivP ok_div (se_var 2) (se_bin op_pow ok_pow se_int se_int)) se_int) sa_nil))) (al_le (al_cons (al_cons (al_cons al_nil))) (by decide))))
    (sss_cons (ss_if (st_cmp (op_eqS (hu7 hr)) ok_eq (sb_of (se_var 4)) (sb_of se_str) (nomark _))
      (sss_one (ss_set (i:=5) sc_law_row_at.nd rfl (Or.inl rfl) (se_tup (sa_cons se_str sa_nil) (al_le (al_cons al_nil) (by decide)))))
      (sss_one (ss_if (st_cmp (op_inS (hu_of hr)) ok_in (sb_of (se_var 4)) (sb_of (se_tup (sa_cons se_str (sa_cons se_str (sa_cons se_str (sa_cons se_str sa_nil)))) (al_le (al_cons (al_cons (al_cons (al_cons al_nil)))) (by decide)))) (by with_unfolding_all rfl))
          (sss_one (ss_set (i:=5) sc_law_row_at.nd rfl (Or.inl rfl) (se_bin op_addA ok_add (se_slT (se_var 5) so_none (so_some se_int)) (se_tup (sa_cons (se_bin op_mod ok_mod (se_var 2) (se_ix (ix_S (hu_of hr)) ok_ix (se_of (sf_lst (sa_cons se_int (sa_cons se_int sa_nil)) (al_le (al_cons (al_cons al_nil)) (by decide)))) (se_cty call_int1 ok_int rfl z_int boot_ty_int (sab_cons (sb_of (se_cmp (op_inS (hu_of hr)) ok_in (sb_of (se_var 4)) (sb_of (se_tup (sa_cons se_str (sa_cons se_str sa_nil)) (al_le (al_cons (al_cons al_nil)) (by decide)))) (by with_unfolding_all rfl))) sab_nil)))) sa_nil) (al_le (al_cons al_nil) (by decide))))))
          (sss_one (ss_if (st_cmp op_gt ok_cmp (sb_of (se_var 3)) (sb_of se_int) (nomark _))
              (sss_one (ss_set (i:=5) sc_law_row_at.nd rfl (Or.inl rfl) (se_bin op_addA ok_add (se_var 5) (se_tup (sa_cons (se_bin op_mod ok_mod (se_var 2) se_int) sa_nil) (al_le (al_cons al_nil) (by decide))))))
              sss_nil)))))
    (sss_cons (ss_if (st_cmp (op_neS (hu7 hr)) ok_ne (sb_of (se_call h_law_word hr rfl (sa_cons (se_var 5) sa_nil))) (sb_of (se_var 2)) (nomark _))
      (sss_one (ss_ret se_non))
      sss_nil)
    (sss_one (ss_ret (se_tup (sa_cons (se_var 5) (sa_cons (se_bin op_addA ok_add (se_var 1) se_int) (sa_cons se_non sa_nil))) (al_le (al_cons (al_cons (al_cons al_nil))) (by decide))))))))))))))
noncomputable abbrev s_law_bad:Stmt:=top 59
theorem sc_law_bad:FnScope ["_law_e"] ["_law_e"] (defScope s_law_bad):=⟨rfl,rfl,rfl,by decide +kernel,rfl,by decide +kernel,by decide +kernel⟩
theorem ok_law_bad (d:Def K mg "_law_bad" s_law_bad ["_law_e"]) (z_isinstance:mg "isinstance" = none) (z_ValueError:mg "ValueError" = none) (c_RunError:ExC K mg "RunError" C_RunError) (c_BadWords:ExC K mg "BadWords" C_BadWords) (c_NoAddress:ExC K mg "NoAddress" C_NoAddress) (c_BadState:ExC K mg "BadState" C_BadState) (c_NoLabel:ExC K mg "NoLabel" C_NoLabel) (c_BadText:ExC K mg "BadText" C_BadText) (c_BadNumber:ExC K mg "BadNumber" C_BadNumber) (x_BadWords:ExK K C_BadWords) (t_BadWords_RunError:PySem.W.kitOne K (.ref C_BadWords) (.ref C_RunError)=some true) (t_BadWords_BadWords:PySem.W.kitOne K (.ref C_BadWords) (.ref C_BadWords)=some true) (t_BadWords_NoAddress:PySem.W.kitOne K (.ref C_BadWords) (.ref C_NoAddress)=some false) (t_BadWords_BadState:PySem.W.kitOne K (.ref C_BadWords) (.ref C_BadState)=some false) (t_BadWords_NoLabel:PySem.W.kitOne K (.ref C_BadWords) (.ref C_NoLabel)=some false) (t_BadWords_BadText:PySem.W.kitOne K (.ref C_BadWords) (.ref C_BadText)=some false) (t_BadWords_BadNumber:PySem.W.kitOne K (.ref C_BadWords) (.ref C_BadNumber)=some false) (t_BadWords_ValueError:PySem.W.kitOne K (.ref C_BadWords) (.type "ValueError")=some true):HasH P w K mg base "_law_bad" ["_law_e"] 1 (spE mg B_law_bad):=by
  refine Def.okH d sc_law_bad (fun vs H Q E h=>?_) fun f cdv A outer s H vs Q E hr h=>?_
  · obtain ⟨a,C,x,b,rfl,_⟩:=h
    rfl
  obtain ⟨a,C,x,b,rfl,ha,hm,hb,q⟩:=h
  unfold B_law_bad at hb
  by_cases hx:x = "BadWords"
  · rw [if_pos hx] at hb
    cases hb
    subst hx
    rw [c_BadWords.at_] at hm
    cases hm
    refine ⟨_,(qss_cons (qs_if (qw_t (qw_or (qt_val (qe_callB call_isX rfl z_isinstance bt_isinstance (qa_cons (qv 0) (qa_cons (qe_gl c_BadNumber.glb rfl) qa_nil)))) (qw_or (qt_val (qe_callB call_isX rfl z_isinstance bt_isinstance (qa_cons (qv 0) (qa_cons (qe_gl c_BadText.glb rfl) qa_nil)))) (qw_or1 (qt_val (qe_callB call_isX rfl z_isinstance bt_isinstance (qa_cons (qv 0) (qa_cons (qe_gl c_NoLabel.glb rfl) qa_nil))))))))
        (qss_one (qs_ret qe_bl))
        qss_nil)
      (qss_cons (qs_if (qw_t (qw_or (qt_val (qe_callB call_isX rfl z_isinstance bt_isinstance (qa_cons (qv 0) (qa_cons (qe_gl c_BadState.glb rfl) qa_nil)))) (qw_or1 (qt_val (qe_callB call_isX rfl z_isinstance bt_isinstance (qa_cons (qv 0) (qa_cons (qe_gl c_NoAddress.glb rfl) qa_nil)))))))
        (qss_one (qs_ret qe_bl))
        qss_nil)
      (qss_one (qs_ret (qe_and (qe_callB call_isX rfl z_isinstance bt_isinstance (qa_cons (qv 0) (qa_cons (qe_gl c_BadWords.glb rfl) qa_nil))) (qe_and (qe_callB call_isX rfl z_isinstance bt_isinstance (qa_cons (qv 0) (qa_cons (qe_gl c_RunError.glb rfl) qa_nil))) (qe_one (qe_callB call_isX rfl z_isinstance bt_isinstance (qa_cons (qv 0) (qa_cons (qe_bty rfl z_ValueError boot_ty_ValueError) qa_nil)))))))))),?_⟩
    exact ⟨_,rfl,a,C_BadWords,_,_,_,rfl,ha,x_BadWords,rfl,t_BadWords_BadNumber,_,rfl,iteF ⟨_,rfl,a,C_BadWords,_,_,_,rfl,ha,x_BadWords,rfl,t_BadWords_BadText,_,rfl,iteF ⟨_,rfl,a,C_BadWords,_,_,_,rfl,ha,x_BadWords,rfl,t_BadWords_NoLabel,_,rfl,iteF (⟨_,rfl,a,C_BadWords,_,_,_,rfl,ha,x_BadWords,rfl,t_BadWords_BadState,_,rfl,iteF ⟨_,rfl,a,C_BadWords,_,_,_,rfl,ha,x_BadWords,rfl,t_BadWords_NoAddress,_,rfl,iteF (⟨_,rfl,a,C_BadWords,_,_,_,rfl,ha,x_BadWords,rfl,t_BadWords_BadWords,_,rfl,iteT (⟨_,rfl,a,C_BadWords,_,_,_,rfl,ha,x_BadWords,rfl,t_BadWords_RunError,_,rfl,iteT (⟨_,rfl,a,C_BadWords,_,_,_,rfl,ha,x_BadWords,rfl,t_BadWords_ValueError,q⟩)⟩)⟩)⟩⟩)⟩⟩⟩
  · rw [if_neg hx] at hb
    cases hb
noncomputable abbrev s_law_told:Stmt:=top 60
theorem sc_law_told:FnScope ["_law_words", "_law_address", "_law_due", "_law_found", "_law_e", "_law_thing"] ["_law_words", "_law_address"] (defScope s_law_told):=⟨rfl,rfl,rfl,by decide +kernel,rfl,by decide +kernel,by decide +kernel⟩
theorem ok_law_told (d:Def K mg "_law_told" s_law_told ["_law_words", "_law_address"]) (z_isinstance:mg "isinstance" = none) (z_tuple:mg "tuple" = none) (z_bool:mg "bool" = none) (z_int:mg "int" = none) (c_RunError:ExC K mg "RunError" C_RunError) (c_BadWords:ExC K mg "BadWords" C_BadWords) (m_BadWords_RunError:PySem.W.exmOne K (.ref C_BadWords) (.ref C_RunError)=some true) (h_law_row_at:Has P w K mg base "_law_row_at" ["_law_words", "_law_address"] 3 (spF K F_law_row_at)) (h_row_at:HasX P w K mg base "row_at" ["words", "address"] 6 (spX K mg F_row_at)) (h_law_bad:HasH P w K mg base "_law_bad" ["_law_e"] 1 (spE mg B_law_bad)):Has P w K mg base "_law_told" ["_law_words", "_law_address"] 7 (spF K F_law_told):=
  Def.okS d sc_law_told (by decide) run_law_told fun f cdv A outer s H E hr=>(sss_cons (ss_set (i:=2) sc_law_told.nd rfl (Or.inl rfl) (se_call h_law_row_at hr rfl (sa_cons (se_var 0) (sa_cons (se_var 1) sa_nil))))
    (sss_cons (ss_try (iy:=3) (i:=4) rfl rfl rfl rfl hr h_row_at rfl (sa_cons (se_var 0) (sa_cons (se_var 1) sa_nil)) c_RunError.at_ rfl c_BadWords.at_ m_BadWords_RunError sc_law_told.nd rfl (Or.inl rfl) rfl rfl (fun a=>(se_cmp op_isN ok_isN (sb_of (se_var 2)) (sb_of se_non) (nomark _))) (fun a=>qv 4) h_law_bad rfl)
    (sss_cons (ss_if (sw_t (sw_or (st_cmp op_isN ok_isN (sb_of (se_var 2)) (sb_of se_non) (nomark _)) (sw_or (st_not (st_val (se_isi .tuple rfl rfl z_isinstance z_tuple boot_ty_tuple (sb_of (se_var 3))))) (sw_or (st_cmp (op_neS (hu7 hr)) ok_ne (sb_of (se_var 3)) (sb_of (se_var 2)) (nomark _)) (sw_or1 (st_not (st_val (se_isi .tuple rfl rfl z_isinstance z_tuple boot_ty_tuple (sb_of (se_ix (ix_S (hu_of hr)) ok_ix (se_var 3) se_int))))))))))
      (sss_one (ss_ret se_bl))
      sss_nil)
    (sss_cons (ss_for PassesOwn.never rfl (si_seq (se_slT (se_var 3) (so_some se_int) so_none)) (sg_var (qg_name (i:=5) sc_law_told.nd rfl (Or.inl rfl)) rfl)
      (sss_one (ss_if (sw_t (sw_and (st_cmp op_notN ok_notN (sb_of (se_var 5)) (sb_of se_non) (nomark _)) (sw_and1 (sw_t (sw_or (st_not (st_val (se_isi .int rfl rfl z_isinstance z_int boot_ty_int (sb_of (se_var 5))))) (sw_or1 (st_val (se_isi .bool rfl rfl z_isinstance z_bool boot_ty_bool (sb_of (se_var 5))))))))))
          (sss_one (ss_ret se_bl))
          sss_nil)))
    (sss_one (ss_ret se_bl))))))
noncomputable abbrev s_law:Stmt:=top 61
theorem sc_law:FnScope ["_law_script", "_law_rows", "_law_cell", "_law_words", "_law_handed", "_law_address"] ["_law_script"] (defScope s_law):=⟨rfl,rfl,rfl,by decide +kernel,rfl,by decide +kernel,by decide +kernel⟩
theorem ok_law {f:Addr} {fd:FuncData} (d:Fun K "law" "law" s_law f fd) (z_list:mg "list" = none) (z_range:mg "range" = none) (z_len:mg "len" = none) (h_law_built:Has P w K mg base "_law_built" ["_law_script"] 5 (spF K F_law_built)) (h_law_cell_at:Has P w K mg base "_law_cell_at" ["_law_script", "_law_k"] 1 (spF K F_law_cell_at)) (h_law_written:Has P w K mg base "_law_written" ["_law_rows", "_law_far"] 3 (spF K F_law_written)) (h_law_any_far:Has P w K mg base "_law_any_far" ["_law_rows", "_law_cell", "_law_most"] 4 (spF K F_law_any_far)) (h_law_told:Has P w K mg base "_law_told" ["_law_words", "_law_address"] 7 (spF K F_law_told)):FnOk P w K mg base CX0 8 f fd ["_law_script"] (spLawB K):=
  law_okB d sc_law (by decide) run_law fun cdv A outer s H E hr=>(sss_cons (ss_set (i:=1) sc_law.nd rfl (Or.inl rfl) (se_ix (ix_S (hu_of hr)) ok_ix (se_call h_law_built hr rfl (sa_cons (se_var 0) sa_nil)) se_int))
    (sss_cons (ss_set (i:=2) sc_law.nd rfl (Or.inl rfl) (se_call h_law_cell_at hr rfl (sa_cons (se_var 0) (sa_cons se_int sa_nil))))
    (sss_cons (ss_set (i:=3) sc_law.nd rfl (Or.inl rfl) (se_call h_law_written hr rfl (sa_cons (se_var 1) (sa_cons (se_call h_law_any_far hr rfl (sa_cons (se_var 1) (sa_cons (se_var 2) (sa_cons (se_bin op_mod ok_mod (se_var 2) se_int) sa_nil)))) sa_nil))))
    (sss_cons (ss_set (i:=4) sc_law.nd rfl (Or.inl rfl) (se_of (sf_list rfl z_list (sa_cons (se_var 3) sa_nil))))
    (sss_cons (ss_for PassesOwn.never rfl (si_range2 rfl z_range (se_un un_neg unI_neg se_int) (se_bin op_addA ok_add (se_cb call_lenS ok_len rfl z_len bt_len (sab_cons (sb_of (se_var 3)) sab_nil)) se_int)) (sg_var (qg_name (i:=5) sc_law.nd rfl (Or.inl rfl)) rfl)
      (sss_one (ss_if (st_not (st_val (se_call h_law_told hr rfl (sa_cons (se_var 4) (sa_cons (se_var 5) sa_nil)))))
          (sss_one (ss_ret se_bl))
          sss_nil)))
    (sss_one (ss_ret (se_cmp (op_eqS (hu7 hr)) ok_eq (sb_of (se_var 4)) (sb_of (se_var 3)) (nomark _)))))))))
end
theorem all_mk {l:PySem.W.OpenLaw} {w:World} {K:PySem.W.Frag} {h:Heap} {mg:Str→Option Value} {fa:Addr} (X:K.In h) (G:h.Ns mainGlobals mg) (hfa:mg "law" = some (.ref fa))
    {f0:Addr} {od0 an0:Option Addr} {sl0:Array (Option Value)} {oc0 kV0 dc0 pm0 cd0 ct0:Value}
    {f1:Addr} {od1 an1:Option Addr} {sl1:Array (Option Value)} {oc1 kV1 dc1 pm1 cd1 ct1:Value}
    {f2:Addr} {od2 an2:Option Addr} {sl2:Array (Option Value)} {oc2 kV2 dc2 pm2 cd2 ct2:Value}
    {f3:Addr} {od3 an3:Option Addr} {sl3:Array (Option Value)} {oc3 kV3 dc3 pm3 cd3 ct3:Value}
    {f4:Addr} {od4 an4:Option Addr} {sl4:Array (Option Value)} {oc4 kV4 dc4 pm4 cd4 ct4:Value}
    {f5:Addr} {od5 an5:Option Addr} {sl5:Array (Option Value)} {oc5 kV5 dc5 pm5 cd5 ct5:Value}
    {f6:Addr} {od6 an6:Option Addr} {sl6:Array (Option Value)} {oc6 kV6 dc6 pm6 cd6 ct6:Value}
    {f7:Addr} {od7 an7:Option Addr} {sl7:Array (Option Value)} {oc7 kV7 dc7 pm7 cd7 ct7:Value}
    {f8:Addr} {od8 an8:Option Addr} {sl8:Array (Option Value)} {oc8 kV8 dc8 pm8 cd8 ct8:Value}
    {f9:Addr} {od9 an9:Option Addr} {sl9:Array (Option Value)} {oc9 kV9 dc9 pm9 cd9 ct9:Value}
    {f10:Addr} {od10 an10:Option Addr} {sl10:Array (Option Value)} {oc10 kV10 dc10 pm10 cd10 ct10:Value}
    {f11:Addr} {od11 an11:Option Addr} {sl11:Array (Option Value)} {oc11 kV11 dc11 pm11 cd11 ct11:Value}
    {f12:Addr} {od12 an12:Option Addr} {sl12:Array (Option Value)} {oc12 kV12 dc12 pm12 cd12 ct12:Value}
    {f13:Addr} {od13 an13:Option Addr} {sl13:Array (Option Value)} {oc13 kV13 dc13 pm13 cd13 ct13:Value}
    {f14:Addr} {od14 an14:Option Addr} {sl14:Array (Option Value)} {oc14 kV14 dc14 pm14 cd14 ct14:Value}
    {f15:Addr} {od15 an15:Option Addr} {sl15:Array (Option Value)} {oc15 kV15 dc15 pm15 cd15 ct15:Value}
    {f16:Addr} {od16 an16:Option Addr} {sl16:Array (Option Value)} {oc16 kV16 dc16 pm16 cd16 ct16:Value}
    {f17:Addr} {od17 an17:Option Addr} {sl17:Array (Option Value)} {oc17 kV17 dc17 pm17 cd17 ct17:Value}
    {f18:Addr} {od18 an18:Option Addr} {sl18:Array (Option Value)} {oc18 kV18 dc18 pm18 cd18 ct18:Value}
    {f19:Addr} {od19 an19:Option Addr} {sl19:Array (Option Value)} {oc19 kV19 dc19 pm19 cd19 ct19:Value}
    {f20:Addr} {od20 an20:Option Addr} {sl20:Array (Option Value)} {oc20 kV20 dc20 pm20 cd20 ct20:Value}
    {f21:Addr} {od21 an21:Option Addr} {sl21:Array (Option Value)} {oc21 kV21 dc21 pm21 cd21 ct21:Value}
    {f22:Addr} {od22 an22:Option Addr} {sl22:Array (Option Value)} {oc22 kV22 dc22 pm22 cd22 ct22:Value}
    {f23:Addr} {od23 an23:Option Addr} {sl23:Array (Option Value)} {oc23 kV23 dc23 pm23 cd23 ct23:Value}
    {f24:Addr} {od24 an24:Option Addr} {sl24:Array (Option Value)} {oc24 kV24 dc24 pm24 cd24 ct24:Value}
    {f25:Addr} {od25 an25:Option Addr} {sl25:Array (Option Value)} {oc25 kV25 dc25 pm25 cd25 ct25:Value}
    {f26:Addr} {od26 an26:Option Addr} {sl26:Array (Option Value)} {oc26 kV26 dc26 pm26 cd26 ct26:Value}
    {f27:Addr} {od27 an27:Option Addr} {sl27:Array (Option Value)} {oc27 kV27 dc27 pm27 cd27 ct27:Value}
    {f28:Addr} {od28 an28:Option Addr} {sl28:Array (Option Value)} {oc28 kV28 dc28 pm28 cd28 ct28:Value}
    {f29:Addr} {od29 an29:Option Addr} {sl29:Array (Option Value)} {oc29 kV29 dc29 pm29 cd29 ct29:Value}
    {f30:Addr} {od30 an30:Option Addr} {sl30:Array (Option Value)} {oc30 kV30 dc30 pm30 cd30 ct30:Value}
    {f31:Addr} {od31 an31:Option Addr} {sl31:Array (Option Value)} {oc31 kV31 dc31 pm31 cd31 ct31:Value}
    {f32:Addr} {od32 an32:Option Addr} {sl32:Array (Option Value)} {oc32 kV32 dc32 pm32 cd32 ct32:Value}
    {f33:Addr} {od33 an33:Option Addr} {sl33:Array (Option Value)} {oc33 kV33 dc33 pm33 cd33 ct33:Value}
    {f34:Addr} {od34 an34:Option Addr} {sl34:Array (Option Value)} {oc34 kV34 dc34 pm34 cd34 ct34:Value}
    {f35:Addr} {od35 an35:Option Addr} {sl35:Array (Option Value)} {oc35 kV35 dc35 pm35 cd35 ct35:Value}
    {f36:Addr} {od36 an36:Option Addr} {sl36:Array (Option Value)} {oc36 kV36 dc36 pm36 cd36 ct36:Value}
    {f37:Addr} {od37 an37:Option Addr} {sl37:Array (Option Value)} {oc37 kV37 dc37 pm37 cd37 ct37:Value}
    {f38:Addr} {od38 an38:Option Addr} {sl38:Array (Option Value)} {oc38 kV38 dc38 pm38 cd38 ct38:Value}
    {f39:Addr} {od39 an39:Option Addr} {sl39:Array (Option Value)} {oc39 kV39 dc39 pm39 cd39 ct39:Value}
    (a0:PySem.W.nsIn K mainGlobals "part" = some (some (.ref f0)))
    (l0:K.lookup f0=fnO "part" s_part oc0 od0 sl0 kV0 dc0 pm0 an0 cd0 ct0)
    (c0:PySem.W.codeIn K cd0 "part" = true) (k0:PySem.W.keepIn K (.ref f0)=true)
    (a1:PySem.W.nsIn K mainGlobals "with_part" = some (some (.ref f1)))
    (l1:K.lookup f1=fnO "with_part" s_with_part oc1 od1 sl1 kV1 dc1 pm1 an1 cd1 ct1)
    (c1:PySem.W.codeIn K cd1 "with_part" = true) (k1:PySem.W.keepIn K (.ref f1)=true)
    (a2:PySem.W.nsIn K mainGlobals "signed" = some (some (.ref f2)))
    (l2:K.lookup f2=fnO "signed" s_signed oc2 od2 sl2 kV2 dc2 pm2 an2 cd2 ct2)
    (c2:PySem.W.codeIn K cd2 "signed" = true) (k2:PySem.W.keepIn K (.ref f2)=true)
    (a3:PySem.W.nsIn K mainGlobals "place_in_word" = some (some (.ref f3)))
    (l3:K.lookup f3=fnO "place_in_word" s_place_in_word oc3 od3 sl3 kV3 dc3 pm3 an3 cd3 ct3)
    (c3:PySem.W.codeIn K cd3 "place_in_word" = true) (k3:PySem.W.keepIn K (.ref f3)=true)
    (a4:PySem.W.nsIn K mainGlobals "number_at" = some (some (.ref f4)))
    (l4:K.lookup f4=fnO "number_at" s_number_at oc4 od4 sl4 kV4 dc4 pm4 an4 cd4 ct4)
    (c4:PySem.W.codeIn K cd4 "number_at" = true) (k4:PySem.W.keepIn K (.ref f4)=true)
    (a5:PySem.W.nsIn K mainGlobals "with_number" = some (some (.ref f5)))
    (l5:K.lookup f5=fnO "with_number" s_with_number oc5 od5 sl5 kV5 dc5 pm5 an5 cd5 ct5)
    (c5:PySem.W.codeIn K cd5 "with_number" = true) (k5:PySem.W.keepIn K (.ref f5)=true)
    (a6:PySem.W.nsIn K mainGlobals "fields_in_word" = some (some (.ref f6)))
    (l6:K.lookup f6=fnO "fields_in_word" s_fields_in_word oc6 od6 sl6 kV6 dc6 pm6 an6 cd6 ct6)
    (c6:PySem.W.codeIn K cd6 "fields_in_word" = true) (k6:PySem.W.keepIn K (.ref f6)=true)
    (a7:PySem.W.nsIn K mainGlobals "first_word" = some (some (.ref f7)))
    (l7:K.lookup f7=fnO "first_word" s_first_word oc7 od7 sl7 kV7 dc7 pm7 an7 cd7 ct7)
    (c7:PySem.W.codeIn K cd7 "first_word" = true) (k7:PySem.W.keepIn K (.ref f7)=true)
    (a8:PySem.W.nsIn K mainGlobals "code_in" = some (some (.ref f8)))
    (l8:K.lookup f8=fnO "code_in" s_code_in oc8 od8 sl8 kV8 dc8 pm8 an8 cd8 ct8)
    (c8:PySem.W.codeIn K cd8 "code_in" = true) (k8:PySem.W.keepIn K (.ref f8)=true)
    (a9:PySem.W.nsIn K mainGlobals "kind_of_code" = some (some (.ref f9)))
    (l9:K.lookup f9=fnO "kind_of_code" s_kind_of_code oc9 od9 sl9 kV9 dc9 pm9 an9 cd9 ct9)
    (c9:PySem.W.codeIn K cd9 "kind_of_code" = true) (k9:PySem.W.keepIn K (.ref f9)=true)
    (a10:PySem.W.nsIn K mainGlobals "is_near_code" = some (some (.ref f10)))
    (l10:K.lookup f10=fnO "is_near_code" s_is_near_code oc10 od10 sl10 kV10 dc10 pm10 an10 cd10 ct10)
    (c10:PySem.W.codeIn K cd10 "is_near_code" = true) (k10:PySem.W.keepIn K (.ref f10)=true)
    (a11:PySem.W.nsIn K mainGlobals "is_far_code" = some (some (.ref f11)))
    (l11:K.lookup f11=fnO "is_far_code" s_is_far_code oc11 od11 sl11 kV11 dc11 pm11 an11 cd11 ct11)
    (c11:PySem.W.codeIn K cd11 "is_far_code" = true) (k11:PySem.W.keepIn K (.ref f11)=true)
    (a12:PySem.W.nsIn K mainGlobals "held_in" = some (some (.ref f12)))
    (l12:K.lookup f12=fnO "held_in" s_held_in oc12 od12 sl12 kV12 dc12 pm12 an12 cd12 ct12)
    (c12:PySem.W.codeIn K cd12 "held_in" = true) (k12:PySem.W.keepIn K (.ref f12)=true)
    (a13:PySem.W.nsIn K mainGlobals "row_in" = some (some (.ref f13)))
    (l13:K.lookup f13=fnO "row_in" s_row_in oc13 od13 sl13 kV13 dc13 pm13 an13 cd13 ct13)
    (c13:PySem.W.codeIn K cd13 "row_in" = true) (k13:PySem.W.keepIn K (.ref f13)=true)
    (a14:PySem.W.nsIn K mainGlobals "far_at" = some (some (.ref f14)))
    (l14:K.lookup f14=fnO "far_at" s_far_at oc14 od14 sl14 kV14 dc14 pm14 an14 cd14 ct14)
    (c14:PySem.W.codeIn K cd14 "far_at" = true) (k14:PySem.W.keepIn K (.ref f14)=true)
    (a15:PySem.W.nsIn K mainGlobals "told_at" = some (some (.ref f15)))
    (l15:K.lookup f15=fnO "told_at" s_told_at oc15 od15 sl15 kV15 dc15 pm15 an15 cd15 ct15)
    (c15:PySem.W.codeIn K cd15 "told_at" = true) (k15:PySem.W.keepIn K (.ref f15)=true)
    (a16:PySem.W.nsIn K mainGlobals "row_at" = some (some (.ref f16)))
    (l16:K.lookup f16=fnO "row_at" s_row_at oc16 od16 sl16 kV16 dc16 pm16 an16 cd16 ct16)
    (c16:PySem.W.codeIn K cd16 "row_at" = true) (k16:PySem.W.keepIn K (.ref f16)=true)
    (a17:PySem.W.nsIn K mainGlobals "_law_cell_at" = some (some (.ref f17)))
    (l17:K.lookup f17=fnO "_law_cell_at" s_law_cell_at oc17 od17 sl17 kV17 dc17 pm17 an17 cd17 ct17)
    (c17:PySem.W.codeIn K cd17 "_law_cell_at" = true) (k17:PySem.W.keepIn K (.ref f17)=true)
    (a18:PySem.W.nsIn K mainGlobals "_law_mixed" = some (some (.ref f18)))
    (l18:K.lookup f18=fnO "_law_mixed" s_law_mixed oc18 od18 sl18 kV18 dc18 pm18 an18 cd18 ct18)
    (c18:PySem.W.codeIn K cd18 "_law_mixed" = true) (k18:PySem.W.keepIn K (.ref f18)=true)
    (a19:PySem.W.nsIn K mainGlobals "_law_name_by" = some (some (.ref f19)))
    (l19:K.lookup f19=fnO "_law_name_by" s_law_name_by oc19 od19 sl19 kV19 dc19 pm19 an19 cd19 ct19)
    (c19:PySem.W.codeIn K cd19 "_law_name_by" = true) (k19:PySem.W.keepIn K (.ref f19)=true)
    (a20:PySem.W.nsIn K mainGlobals "_law_row_by" = some (some (.ref f20)))
    (l20:K.lookup f20=fnO "_law_row_by" s_law_row_by oc20 od20 sl20 kV20 dc20 pm20 an20 cd20 ct20)
    (c20:PySem.W.codeIn K cd20 "_law_row_by" = true) (k20:PySem.W.keepIn K (.ref f20)=true)
    (a21:PySem.W.nsIn K mainGlobals "_law_place_by" = some (some (.ref f21)))
    (l21:K.lookup f21=fnO "_law_place_by" s_law_place_by oc21 od21 sl21 kV21 dc21 pm21 an21 cd21 ct21)
    (c21:PySem.W.codeIn K cd21 "_law_place_by" = true) (k21:PySem.W.keepIn K (.ref f21)=true)
    (a22:PySem.W.nsIn K mainGlobals "_law_rows_by" = some (some (.ref f22)))
    (l22:K.lookup f22=fnO "_law_rows_by" s_law_rows_by oc22 od22 sl22 kV22 dc22 pm22 an22 cd22 ct22)
    (c22:PySem.W.codeIn K cd22 "_law_rows_by" = true) (k22:PySem.W.keepIn K (.ref f22)=true)
    (a23:PySem.W.nsIn K mainGlobals "_law_jumps_in" = some (some (.ref f23)))
    (l23:K.lookup f23=fnO "_law_jumps_in" s_law_jumps_in oc23 od23 sl23 kV23 dc23 pm23 an23 cd23 ct23)
    (c23:PySem.W.codeIn K cd23 "_law_jumps_in" = true) (k23:PySem.W.keepIn K (.ref f23)=true)
    (a24:PySem.W.nsIn K mainGlobals "_law_many_by" = some (some (.ref f24)))
    (l24:K.lookup f24=fnO "_law_many_by" s_law_many_by oc24 od24 sl24 kV24 dc24 pm24 an24 cd24 ct24)
    (c24:PySem.W.codeIn K cd24 "_law_many_by" = true) (k24:PySem.W.keepIn K (.ref f24)=true)
    (a25:PySem.W.nsIn K mainGlobals "_law_items_by" = some (some (.ref f25)))
    (l25:K.lookup f25=fnO "_law_items_by" s_law_items_by oc25 od25 sl25 kV25 dc25 pm25 an25 cd25 ct25)
    (c25:PySem.W.codeIn K cd25 "_law_items_by" = true) (k25:PySem.W.keepIn K (.ref f25)=true)
    (a26:PySem.W.nsIn K mainGlobals "_law_built" = some (some (.ref f26)))
    (l26:K.lookup f26=fnO "_law_built" s_law_built oc26 od26 sl26 kV26 dc26 pm26 an26 cd26 ct26)
    (c26:PySem.W.codeIn K cd26 "_law_built" = true) (k26:PySem.W.keepIn K (.ref f26)=true)
    (a27:PySem.W.nsIn K mainGlobals "_law_stands" = some (some (.ref f27)))
    (l27:K.lookup f27=fnO "_law_stands" s_law_stands oc27 od27 sl27 kV27 dc27 pm27 an27 cd27 ct27)
    (c27:PySem.W.codeIn K cd27 "_law_stands" = true) (k27:PySem.W.keepIn K (.ref f27)=true)
    (a28:PySem.W.nsIn K mainGlobals "_law_near_ones" = some (some (.ref f28)))
    (l28:K.lookup f28=fnO "_law_near_ones" s_law_near_ones oc28 od28 sl28 kV28 dc28 pm28 an28 cd28 ct28)
    (c28:PySem.W.codeIn K cd28 "_law_near_ones" = true) (k28:PySem.W.keepIn K (.ref f28)=true)
    (a29:PySem.W.nsIn K mainGlobals "_law_reaching" = some (some (.ref f29)))
    (l29:K.lookup f29=fnO "_law_reaching" s_law_reaching oc29 od29 sl29 kV29 dc29 pm29 an29 cd29 ct29)
    (c29:PySem.W.codeIn K cd29 "_law_reaching" = true) (k29:PySem.W.keepIn K (.ref f29)=true)
    (a30:PySem.W.nsIn K mainGlobals "_law_any_far" = some (some (.ref f30)))
    (l30:K.lookup f30=fnO "_law_any_far" s_law_any_far oc30 od30 sl30 kV30 dc30 pm30 an30 cd30 ct30)
    (c30:PySem.W.codeIn K cd30 "_law_any_far" = true) (k30:PySem.W.keepIn K (.ref f30)=true)
    (a31:PySem.W.nsIn K mainGlobals "_law_order" = some (some (.ref f31)))
    (l31:K.lookup f31=fnO "_law_order" s_law_order oc31 od31 sl31 kV31 dc31 pm31 an31 cd31 ct31)
    (c31:PySem.W.codeIn K cd31 "_law_order" = true) (k31:PySem.W.keepIn K (.ref f31)=true)
    (a32:PySem.W.nsIn K mainGlobals "_law_word" = some (some (.ref f32)))
    (l32:K.lookup f32=fnO "_law_word" s_law_word oc32 od32 sl32 kV32 dc32 pm32 an32 cd32 ct32)
    (c32:PySem.W.codeIn K cd32 "_law_word" = true) (k32:PySem.W.keepIn K (.ref f32)=true)
    (a33:PySem.W.nsIn K mainGlobals "_law_jump_words" = some (some (.ref f33)))
    (l33:K.lookup f33=fnO "_law_jump_words" s_law_jump_words oc33 od33 sl33 kV33 dc33 pm33 an33 cd33 ct33)
    (c33:PySem.W.codeIn K cd33 "_law_jump_words" = true) (k33:PySem.W.keepIn K (.ref f33)=true)
    (a34:PySem.W.nsIn K mainGlobals "_law_written" = some (some (.ref f34)))
    (l34:K.lookup f34=fnO "_law_written" s_law_written oc34 od34 sl34 kV34 dc34 pm34 an34 cd34 ct34)
    (c34:PySem.W.codeIn K cd34 "_law_written" = true) (k34:PySem.W.keepIn K (.ref f34)=true)
    (a35:PySem.W.nsIn K mainGlobals "_law_jump_at" = some (some (.ref f35)))
    (l35:K.lookup f35=fnO "_law_jump_at" s_law_jump_at oc35 od35 sl35 kV35 dc35 pm35 an35 cd35 ct35)
    (c35:PySem.W.codeIn K cd35 "_law_jump_at" = true) (k35:PySem.W.keepIn K (.ref f35)=true)
    (a36:PySem.W.nsIn K mainGlobals "_law_row_at" = some (some (.ref f36)))
    (l36:K.lookup f36=fnO "_law_row_at" s_law_row_at oc36 od36 sl36 kV36 dc36 pm36 an36 cd36 ct36)
    (c36:PySem.W.codeIn K cd36 "_law_row_at" = true) (k36:PySem.W.keepIn K (.ref f36)=true)
    (a37:PySem.W.nsIn K mainGlobals "_law_bad" = some (some (.ref f37)))
    (l37:K.lookup f37=fnO "_law_bad" s_law_bad oc37 od37 sl37 kV37 dc37 pm37 an37 cd37 ct37)
    (c37:PySem.W.codeIn K cd37 "_law_bad" = true) (k37:PySem.W.keepIn K (.ref f37)=true)
    (a38:PySem.W.nsIn K mainGlobals "_law_told" = some (some (.ref f38)))
    (l38:K.lookup f38=fnO "_law_told" s_law_told oc38 od38 sl38 kV38 dc38 pm38 an38 cd38 ct38)
    (c38:PySem.W.codeIn K cd38 "_law_told" = true) (k38:PySem.W.keepIn K (.ref f38)=true)
    (a39:PySem.W.nsIn K mainGlobals "law" = some (some (.ref f39)))
    (l39:K.lookup f39=fnO "law" s_law oc39 od39 sl39 kV39 dc39 pm39 an39 cd39 ct39)
    (c39:PySem.W.codeIn K cd39 "law" = true) (k39:PySem.W.keepIn K (.ref f39)=true)
    (nz_zip:PySem.W.nsIn K mainGlobals "zip" = some none)
    (nz_list:PySem.W.nsIn K mainGlobals "list" = some none)
    (nz_len:PySem.W.nsIn K mainGlobals "len" = some none)
    (nz_tuple:PySem.W.nsIn K mainGlobals "tuple" = some none)
    (nz_range:PySem.W.nsIn K mainGlobals "range" = some none)
    (nz_max:PySem.W.nsIn K mainGlobals "max" = some none)
    (nz_min:PySem.W.nsIn K mainGlobals "min" = some none)
    (nz_sorted:PySem.W.nsIn K mainGlobals "sorted" = some none)
    (nz_int:PySem.W.nsIn K mainGlobals "int" = some none)
    (nz_isinstance:PySem.W.nsIn K mainGlobals "isinstance" = some none)
    (nz_ValueError:PySem.W.nsIn K mainGlobals "ValueError" = some none)
    (nz_bool:PySem.W.nsIn K mainGlobals "bool" = some none)
    {A_NUMBER_WIDTHS:Addr} {n_NUMBER_WIDTHS:Nat} (ng_NUMBER_WIDTHS:PySem.W.nsIn K mainGlobals "NUMBER_WIDTHS" = some (some (.ref A_NUMBER_WIDTHS)))
    {tk0_NUMBER_WIDTHS:Tok}
    {tv0_NUMBER_WIDTHS:Tok}
    {tk1_NUMBER_WIDTHS:Tok}
    {tv1_NUMBER_WIDTHS:Tok}
    {tk2_NUMBER_WIDTHS:Tok}
    {tv2_NUMBER_WIDTHS:Tok}
    {tk3_NUMBER_WIDTHS:Tok}
    {tv3_NUMBER_WIDTHS:Tok}
    {tk4_NUMBER_WIDTHS:Tok}
    {tv4_NUMBER_WIDTHS:Tok}
    {tk5_NUMBER_WIDTHS:Tok}
    {tv5_NUMBER_WIDTHS:Tok}
    {tk6_NUMBER_WIDTHS:Tok}
    {tv6_NUMBER_WIDTHS:Tok}
    {tk7_NUMBER_WIDTHS:Tok}
    {tv7_NUMBER_WIDTHS:Tok}
    (nq_NUMBER_WIDTHS:K.lookup A_NUMBER_WIDTHS=some { cls:=.type "dict",data:=.dict #[⟨PyData.keyHash w.params "set",.str "set" tk0_NUMBER_WIDTHS,.int 16 tv0_NUMBER_WIDTHS⟩,⟨PyData.keyHash w.params "high",.str "high" tk1_NUMBER_WIDTHS,.int 16 tv1_NUMBER_WIDTHS⟩,⟨PyData.keyHash w.params "left",.str "left" tk2_NUMBER_WIDTHS,.int 5 tv2_NUMBER_WIDTHS⟩,⟨PyData.keyHash w.params "right",.str "right" tk3_NUMBER_WIDTHS,.int 5 tv3_NUMBER_WIDTHS⟩,⟨PyData.keyHash w.params "load",.str "load" tk4_NUMBER_WIDTHS,.int 8 tv4_NUMBER_WIDTHS⟩,⟨PyData.keyHash w.params "store",.str "store" tk5_NUMBER_WIDTHS,.int 8 tv5_NUMBER_WIDTHS⟩,⟨PyData.keyHash w.params "loadw",.str "loadw" tk6_NUMBER_WIDTHS,.int 8 tv6_NUMBER_WIDTHS⟩,⟨PyData.keyHash w.params "storew",.str "storew" tk7_NUMBER_WIDTHS,.int 8 tv7_NUMBER_WIDTHS⟩] n_NUMBER_WIDTHS }) (ns_NUMBER_WIDTHS:(A_NUMBER_WIDTHS == sysModules)=false)
    {tg_NUMBER_LOW:Tok} (ng_NUMBER_LOW:PySem.W.nsIn K mainGlobals "NUMBER_LOW" = some (some (.int 0 tg_NUMBER_LOW)))
    {A_PLACES:Addr} {n_PLACES:Nat} (ng_PLACES:PySem.W.nsIn K mainGlobals "PLACES" = some (some (.ref A_PLACES)))
    {tk0_PLACES:Tok}
    {A0_PLACES:Addr} {d0_PLACES:Option Addr} {n0_PLACES:Nat} {sl0_PLACES:Array (Option Value)}
    {w0_0_PLACES w0_1_PLACES:Tok}
    {tk1_PLACES:Tok}
    {A1_PLACES:Addr} {d1_PLACES:Option Addr} {n1_PLACES:Nat} {sl1_PLACES:Array (Option Value)}
    {w1_0_PLACES w1_1_PLACES:Tok}
    {tk2_PLACES:Tok}
    {A2_PLACES:Addr} {d2_PLACES:Option Addr} {n2_PLACES:Nat} {sl2_PLACES:Array (Option Value)}
    {w2_0_PLACES w2_1_PLACES:Tok}
    {tk3_PLACES:Tok}
    {A3_PLACES:Addr} {d3_PLACES:Option Addr} {n3_PLACES:Nat} {sl3_PLACES:Array (Option Value)}
    {w3_0_PLACES w3_1_PLACES:Tok}
    {tk4_PLACES:Tok}
    {A4_PLACES:Addr} {d4_PLACES:Option Addr} {n4_PLACES:Nat} {sl4_PLACES:Array (Option Value)}
    {w4_0_PLACES w4_1_PLACES:Tok}
    (nq_PLACES:K.lookup A_PLACES=some { cls:=.type "dict",data:=.dict #[⟨PyData.keyHash w.params "kind",.str "kind" tk0_PLACES,.ref A0_PLACES⟩,⟨PyData.keyHash w.params "d",.str "d" tk1_PLACES,.ref A1_PLACES⟩,⟨PyData.keyHash w.params "s",.str "s" tk2_PLACES,.ref A2_PLACES⟩,⟨PyData.keyHash w.params "mark",.str "mark" tk3_PLACES,.ref A3_PLACES⟩,⟨PyData.keyHash w.params "distance",.str "distance" tk4_PLACES,.ref A4_PLACES⟩] n_PLACES }) (ns_PLACES:(A_PLACES == sysModules)=false)
    (nt0_PLACES:K.lookup A0_PLACES=some ⟨.type "tuple",d0_PLACES,.seq #[.int 27 w0_0_PLACES,.int 5 w0_1_PLACES] n0_PLACES,sl0_PLACES⟩)
    (nt1_PLACES:K.lookup A1_PLACES=some ⟨.type "tuple",d1_PLACES,.seq #[.int 24 w1_0_PLACES,.int 3 w1_1_PLACES] n1_PLACES,sl1_PLACES⟩)
    (nt2_PLACES:K.lookup A2_PLACES=some ⟨.type "tuple",d2_PLACES,.seq #[.int 21 w2_0_PLACES,.int 3 w2_1_PLACES] n2_PLACES,sl2_PLACES⟩)
    (nt3_PLACES:K.lookup A3_PLACES=some ⟨.type "tuple",d3_PLACES,.seq #[.int 24 w3_0_PLACES,.int 2 w3_1_PLACES] n3_PLACES,sl3_PLACES⟩)
    (nt4_PLACES:K.lookup A4_PLACES=some ⟨.type "tuple",d4_PLACES,.seq #[.int 0 w4_0_PLACES,.int 5 w4_1_PLACES] n4_PLACES,sl4_PLACES⟩)
    {A_FIELDS:Addr} {n_FIELDS:Nat} (ng_FIELDS:PySem.W.nsIn K mainGlobals "FIELDS" = some (some (.ref A_FIELDS)))
    {tk0_FIELDS:Tok}
    {A0_FIELDS:Addr} {d0_FIELDS:Option Addr} {n0_FIELDS:Nat} {sl0_FIELDS:Array (Option Value)}
    {w0_0_FIELDS:Tok}
    {tk1_FIELDS:Tok}
    {A1_FIELDS:Addr} {d1_FIELDS:Option Addr} {n1_FIELDS:Nat} {sl1_FIELDS:Array (Option Value)}
    {w1_0_FIELDS w1_1_FIELDS:Tok}
    {tk2_FIELDS:Tok}
    {A2_FIELDS:Addr} {d2_FIELDS:Option Addr} {n2_FIELDS:Nat} {sl2_FIELDS:Array (Option Value)}
    {w2_0_FIELDS w2_1_FIELDS:Tok}
    {tk3_FIELDS:Tok}
    {A3_FIELDS:Addr} {d3_FIELDS:Option Addr} {n3_FIELDS:Nat} {sl3_FIELDS:Array (Option Value)}
    {w3_0_FIELDS w3_1_FIELDS:Tok}
    {tk4_FIELDS:Tok}
    {A4_FIELDS:Addr} {d4_FIELDS:Option Addr} {n4_FIELDS:Nat} {sl4_FIELDS:Array (Option Value)}
    {w4_0_FIELDS w4_1_FIELDS:Tok}
    {tk5_FIELDS:Tok}
    {A5_FIELDS:Addr} {d5_FIELDS:Option Addr} {n5_FIELDS:Nat} {sl5_FIELDS:Array (Option Value)}
    {w5_0_FIELDS w5_1_FIELDS:Tok}
    {tk6_FIELDS:Tok}
    {A6_FIELDS:Addr} {d6_FIELDS:Option Addr} {n6_FIELDS:Nat} {sl6_FIELDS:Array (Option Value)}
    {w6_0_FIELDS w6_1_FIELDS:Tok}
    {tk7_FIELDS:Tok}
    {A7_FIELDS:Addr} {d7_FIELDS:Option Addr} {n7_FIELDS:Nat} {sl7_FIELDS:Array (Option Value)}
    {w7_0_FIELDS w7_1_FIELDS:Tok}
    {tk8_FIELDS:Tok}
    {A8_FIELDS:Addr} {d8_FIELDS:Option Addr} {n8_FIELDS:Nat} {sl8_FIELDS:Array (Option Value)}
    {w8_0_FIELDS w8_1_FIELDS:Tok}
    {tk9_FIELDS:Tok}
    {A9_FIELDS:Addr} {d9_FIELDS:Option Addr} {n9_FIELDS:Nat} {sl9_FIELDS:Array (Option Value)}
    {w9_0_FIELDS w9_1_FIELDS:Tok}
    {tk10_FIELDS:Tok}
    {A10_FIELDS:Addr} {d10_FIELDS:Option Addr} {n10_FIELDS:Nat} {sl10_FIELDS:Array (Option Value)}
    {w10_0_FIELDS w10_1_FIELDS:Tok}
    {tk11_FIELDS:Tok}
    {A11_FIELDS:Addr} {d11_FIELDS:Option Addr} {n11_FIELDS:Nat} {sl11_FIELDS:Array (Option Value)}
    {w11_0_FIELDS w11_1_FIELDS:Tok}
    {tk12_FIELDS:Tok}
    {A12_FIELDS:Addr} {d12_FIELDS:Option Addr} {n12_FIELDS:Nat} {sl12_FIELDS:Array (Option Value)}
    {w12_0_FIELDS w12_1_FIELDS:Tok}
    {tk13_FIELDS:Tok}
    {A13_FIELDS:Addr} {d13_FIELDS:Option Addr} {n13_FIELDS:Nat} {sl13_FIELDS:Array (Option Value)}
    {w13_0_FIELDS w13_1_FIELDS:Tok}
    {tk14_FIELDS:Tok}
    {A14_FIELDS:Addr} {d14_FIELDS:Option Addr} {n14_FIELDS:Nat} {sl14_FIELDS:Array (Option Value)}
    {w14_0_FIELDS w14_1_FIELDS w14_2_FIELDS:Tok}
    {tk15_FIELDS:Tok}
    {A15_FIELDS:Addr} {d15_FIELDS:Option Addr} {n15_FIELDS:Nat} {sl15_FIELDS:Array (Option Value)}
    {w15_0_FIELDS w15_1_FIELDS w15_2_FIELDS:Tok}
    {tk16_FIELDS:Tok}
    {A16_FIELDS:Addr} {d16_FIELDS:Option Addr} {n16_FIELDS:Nat} {sl16_FIELDS:Array (Option Value)}
    {w16_0_FIELDS w16_1_FIELDS w16_2_FIELDS:Tok}
    {tk17_FIELDS:Tok}
    {A17_FIELDS:Addr} {d17_FIELDS:Option Addr} {n17_FIELDS:Nat} {sl17_FIELDS:Array (Option Value)}
    {w17_0_FIELDS w17_1_FIELDS w17_2_FIELDS:Tok}
    {tk18_FIELDS:Tok}
    {A18_FIELDS:Addr} {d18_FIELDS:Option Addr} {n18_FIELDS:Nat} {sl18_FIELDS:Array (Option Value)}
    {w18_0_FIELDS:Tok}
    {tk19_FIELDS:Tok}
    {A19_FIELDS:Addr} {d19_FIELDS:Option Addr} {n19_FIELDS:Nat} {sl19_FIELDS:Array (Option Value)}
    {w19_0_FIELDS w19_1_FIELDS:Tok}
    {tk20_FIELDS:Tok}
    {A20_FIELDS:Addr} {d20_FIELDS:Option Addr} {n20_FIELDS:Nat} {sl20_FIELDS:Array (Option Value)}
    {w20_0_FIELDS w20_1_FIELDS:Tok}
    {tk21_FIELDS:Tok}
    {A21_FIELDS:Addr} {d21_FIELDS:Option Addr} {n21_FIELDS:Nat} {sl21_FIELDS:Array (Option Value)}
    (nq_FIELDS:K.lookup A_FIELDS=some { cls:=.type "dict",data:=.dict #[⟨PyData.keyHash w.params "label",.str "label" tk0_FIELDS,.ref A0_FIELDS⟩,⟨PyData.keyHash w.params "set",.str "set" tk1_FIELDS,.ref A1_FIELDS⟩,⟨PyData.keyHash w.params "high",.str "high" tk2_FIELDS,.ref A2_FIELDS⟩,⟨PyData.keyHash w.params "copy",.str "copy" tk3_FIELDS,.ref A3_FIELDS⟩,⟨PyData.keyHash w.params "add",.str "add" tk4_FIELDS,.ref A4_FIELDS⟩,⟨PyData.keyHash w.params "addc",.str "addc" tk5_FIELDS,.ref A5_FIELDS⟩,⟨PyData.keyHash w.params "sub",.str "sub" tk6_FIELDS,.ref A6_FIELDS⟩,⟨PyData.keyHash w.params "subc",.str "subc" tk7_FIELDS,.ref A7_FIELDS⟩,⟨PyData.keyHash w.params "and",.str "and" tk8_FIELDS,.ref A8_FIELDS⟩,⟨PyData.keyHash w.params "or",.str "or" tk9_FIELDS,.ref A9_FIELDS⟩,⟨PyData.keyHash w.params "xor",.str "xor" tk10_FIELDS,.ref A10_FIELDS⟩,⟨PyData.keyHash w.params "test",.str "test" tk11_FIELDS,.ref A11_FIELDS⟩,⟨PyData.keyHash w.params "left",.str "left" tk12_FIELDS,.ref A12_FIELDS⟩,⟨PyData.keyHash w.params "right",.str "right" tk13_FIELDS,.ref A13_FIELDS⟩,⟨PyData.keyHash w.params "load",.str "load" tk14_FIELDS,.ref A14_FIELDS⟩,⟨PyData.keyHash w.params "store",.str "store" tk15_FIELDS,.ref A15_FIELDS⟩,⟨PyData.keyHash w.params "loadw",.str "loadw" tk16_FIELDS,.ref A16_FIELDS⟩,⟨PyData.keyHash w.params "storew",.str "storew" tk17_FIELDS,.ref A17_FIELDS⟩,⟨PyData.keyHash w.params "jump",.str "jump" tk18_FIELDS,.ref A18_FIELDS⟩,⟨PyData.keyHash w.params "when",.str "when" tk19_FIELDS,.ref A19_FIELDS⟩,⟨PyData.keyHash w.params "unless",.str "unless" tk20_FIELDS,.ref A20_FIELDS⟩,⟨PyData.keyHash w.params "stop",.str "stop" tk21_FIELDS,.ref A21_FIELDS⟩] n_FIELDS }) (ns_FIELDS:(A_FIELDS == sysModules)=false)
    (nt0_FIELDS:K.lookup A0_FIELDS=some ⟨.type "tuple",d0_FIELDS,.seq #[.str "name" w0_0_FIELDS] n0_FIELDS,sl0_FIELDS⟩)
    (nt1_FIELDS:K.lookup A1_FIELDS=some ⟨.type "tuple",d1_FIELDS,.seq #[.str "d" w1_0_FIELDS,.str "n" w1_1_FIELDS] n1_FIELDS,sl1_FIELDS⟩)
    (nt2_FIELDS:K.lookup A2_FIELDS=some ⟨.type "tuple",d2_FIELDS,.seq #[.str "d" w2_0_FIELDS,.str "n" w2_1_FIELDS] n2_FIELDS,sl2_FIELDS⟩)
    (nt3_FIELDS:K.lookup A3_FIELDS=some ⟨.type "tuple",d3_FIELDS,.seq #[.str "d" w3_0_FIELDS,.str "s" w3_1_FIELDS] n3_FIELDS,sl3_FIELDS⟩)
    (nt4_FIELDS:K.lookup A4_FIELDS=some ⟨.type "tuple",d4_FIELDS,.seq #[.str "d" w4_0_FIELDS,.str "s" w4_1_FIELDS] n4_FIELDS,sl4_FIELDS⟩)
    (nt5_FIELDS:K.lookup A5_FIELDS=some ⟨.type "tuple",d5_FIELDS,.seq #[.str "d" w5_0_FIELDS,.str "s" w5_1_FIELDS] n5_FIELDS,sl5_FIELDS⟩)
    (nt6_FIELDS:K.lookup A6_FIELDS=some ⟨.type "tuple",d6_FIELDS,.seq #[.str "d" w6_0_FIELDS,.str "s" w6_1_FIELDS] n6_FIELDS,sl6_FIELDS⟩)
    (nt7_FIELDS:K.lookup A7_FIELDS=some ⟨.type "tuple",d7_FIELDS,.seq #[.str "d" w7_0_FIELDS,.str "s" w7_1_FIELDS] n7_FIELDS,sl7_FIELDS⟩)
    (nt8_FIELDS:K.lookup A8_FIELDS=some ⟨.type "tuple",d8_FIELDS,.seq #[.str "d" w8_0_FIELDS,.str "s" w8_1_FIELDS] n8_FIELDS,sl8_FIELDS⟩)
    (nt9_FIELDS:K.lookup A9_FIELDS=some ⟨.type "tuple",d9_FIELDS,.seq #[.str "d" w9_0_FIELDS,.str "s" w9_1_FIELDS] n9_FIELDS,sl9_FIELDS⟩)
    (nt10_FIELDS:K.lookup A10_FIELDS=some ⟨.type "tuple",d10_FIELDS,.seq #[.str "d" w10_0_FIELDS,.str "s" w10_1_FIELDS] n10_FIELDS,sl10_FIELDS⟩)
    (nt11_FIELDS:K.lookup A11_FIELDS=some ⟨.type "tuple",d11_FIELDS,.seq #[.str "d" w11_0_FIELDS,.str "s" w11_1_FIELDS] n11_FIELDS,sl11_FIELDS⟩)
    (nt12_FIELDS:K.lookup A12_FIELDS=some ⟨.type "tuple",d12_FIELDS,.seq #[.str "d" w12_0_FIELDS,.str "n" w12_1_FIELDS] n12_FIELDS,sl12_FIELDS⟩)
    (nt13_FIELDS:K.lookup A13_FIELDS=some ⟨.type "tuple",d13_FIELDS,.seq #[.str "d" w13_0_FIELDS,.str "n" w13_1_FIELDS] n13_FIELDS,sl13_FIELDS⟩)
    (nt14_FIELDS:K.lookup A14_FIELDS=some ⟨.type "tuple",d14_FIELDS,.seq #[.str "d" w14_0_FIELDS,.str "s" w14_1_FIELDS,.str "n" w14_2_FIELDS] n14_FIELDS,sl14_FIELDS⟩)
    (nt15_FIELDS:K.lookup A15_FIELDS=some ⟨.type "tuple",d15_FIELDS,.seq #[.str "d" w15_0_FIELDS,.str "s" w15_1_FIELDS,.str "n" w15_2_FIELDS] n15_FIELDS,sl15_FIELDS⟩)
    (nt16_FIELDS:K.lookup A16_FIELDS=some ⟨.type "tuple",d16_FIELDS,.seq #[.str "d" w16_0_FIELDS,.str "s" w16_1_FIELDS,.str "n" w16_2_FIELDS] n16_FIELDS,sl16_FIELDS⟩)
    (nt17_FIELDS:K.lookup A17_FIELDS=some ⟨.type "tuple",d17_FIELDS,.seq #[.str "d" w17_0_FIELDS,.str "s" w17_1_FIELDS,.str "n" w17_2_FIELDS] n17_FIELDS,sl17_FIELDS⟩)
    (nt18_FIELDS:K.lookup A18_FIELDS=some ⟨.type "tuple",d18_FIELDS,.seq #[.str "name" w18_0_FIELDS] n18_FIELDS,sl18_FIELDS⟩)
    (nt19_FIELDS:K.lookup A19_FIELDS=some ⟨.type "tuple",d19_FIELDS,.seq #[.str "mark" w19_0_FIELDS,.str "name" w19_1_FIELDS] n19_FIELDS,sl19_FIELDS⟩)
    (nt20_FIELDS:K.lookup A20_FIELDS=some ⟨.type "tuple",d20_FIELDS,.seq #[.str "mark" w20_0_FIELDS,.str "name" w20_1_FIELDS] n20_FIELDS,sl20_FIELDS⟩)
    (nt21_FIELDS:K.lookup A21_FIELDS=some ⟨.type "tuple",d21_FIELDS,.seq #[] n21_FIELDS,sl21_FIELDS⟩)
    {A_MARKS:Addr} {n_MARKS:Nat} {sl_MARKS:Array (Option Value)} {u0_MARKS u1_MARKS u2_MARKS:Tok} (ng_MARKS:PySem.W.nsIn K mainGlobals "MARKS" = some (some (.ref A_MARKS)))
    (nq_MARKS:K.lookup A_MARKS=some ⟨.type "tuple",none,.seq #[.str "carry" u0_MARKS,.str "nought" u1_MARKS,.str "sign" u2_MARKS] n_MARKS,sl_MARKS⟩)
    {A_CODES:Addr} {n_CODES:Nat} (ng_CODES:PySem.W.nsIn K mainGlobals "CODES" = some (some (.ref A_CODES)))
    {tk0_CODES:Tok}
    {tv0_CODES:Tok}
    {tk1_CODES:Tok}
    {tv1_CODES:Tok}
    {tk2_CODES:Tok}
    {tv2_CODES:Tok}
    {tk3_CODES:Tok}
    {tv3_CODES:Tok}
    {tk4_CODES:Tok}
    {tv4_CODES:Tok}
    {tk5_CODES:Tok}
    {tv5_CODES:Tok}
    {tk6_CODES:Tok}
    {tv6_CODES:Tok}
    {tk7_CODES:Tok}
    {tv7_CODES:Tok}
    {tk8_CODES:Tok}
    {tv8_CODES:Tok}
    {tk9_CODES:Tok}
    {tv9_CODES:Tok}
    {tk10_CODES:Tok}
    {tv10_CODES:Tok}
    {tk11_CODES:Tok}
    {tv11_CODES:Tok}
    {tk12_CODES:Tok}
    {tv12_CODES:Tok}
    {tk13_CODES:Tok}
    {tv13_CODES:Tok}
    {tk14_CODES:Tok}
    {tv14_CODES:Tok}
    {tk15_CODES:Tok}
    {tv15_CODES:Tok}
    {tk16_CODES:Tok}
    {tv16_CODES:Tok}
    {tk17_CODES:Tok}
    {tv17_CODES:Tok}
    (nq_CODES:K.lookup A_CODES=some { cls:=.type "dict",data:=.dict #[⟨PyData.keyHash w.params "stop",.str "stop" tk0_CODES,.int 0 tv0_CODES⟩,⟨PyData.keyHash w.params "set",.str "set" tk1_CODES,.int 1 tv1_CODES⟩,⟨PyData.keyHash w.params "high",.str "high" tk2_CODES,.int 2 tv2_CODES⟩,⟨PyData.keyHash w.params "copy",.str "copy" tk3_CODES,.int 3 tv3_CODES⟩,⟨PyData.keyHash w.params "add",.str "add" tk4_CODES,.int 4 tv4_CODES⟩,⟨PyData.keyHash w.params "addc",.str "addc" tk5_CODES,.int 5 tv5_CODES⟩,⟨PyData.keyHash w.params "sub",.str "sub" tk6_CODES,.int 6 tv6_CODES⟩,⟨PyData.keyHash w.params "subc",.str "subc" tk7_CODES,.int 7 tv7_CODES⟩,⟨PyData.keyHash w.params "and",.str "and" tk8_CODES,.int 8 tv8_CODES⟩,⟨PyData.keyHash w.params "or",.str "or" tk9_CODES,.int 9 tv9_CODES⟩,⟨PyData.keyHash w.params "xor",.str "xor" tk10_CODES,.int 10 tv10_CODES⟩,⟨PyData.keyHash w.params "test",.str "test" tk11_CODES,.int 11 tv11_CODES⟩,⟨PyData.keyHash w.params "left",.str "left" tk12_CODES,.int 12 tv12_CODES⟩,⟨PyData.keyHash w.params "right",.str "right" tk13_CODES,.int 13 tv13_CODES⟩,⟨PyData.keyHash w.params "load",.str "load" tk14_CODES,.int 14 tv14_CODES⟩,⟨PyData.keyHash w.params "store",.str "store" tk15_CODES,.int 15 tv15_CODES⟩,⟨PyData.keyHash w.params "loadw",.str "loadw" tk16_CODES,.int 16 tv16_CODES⟩,⟨PyData.keyHash w.params "storew",.str "storew" tk17_CODES,.int 17 tv17_CODES⟩] n_CODES }) (ns_CODES:(A_CODES == sysModules)=false)
    {A_NEAR_CODES:Addr} {n_NEAR_CODES:Nat} (ng_NEAR_CODES:PySem.W.nsIn K mainGlobals "NEAR_CODES" = some (some (.ref A_NEAR_CODES)))
    {tk0_NEAR_CODES:Tok}
    {tv0_NEAR_CODES:Tok}
    {tk1_NEAR_CODES:Tok}
    {tv1_NEAR_CODES:Tok}
    {tk2_NEAR_CODES:Tok}
    {tv2_NEAR_CODES:Tok}
    (nq_NEAR_CODES:K.lookup A_NEAR_CODES=some { cls:=.type "dict",data:=.dict #[⟨PyData.keyHash w.params "jump",.str "jump" tk0_NEAR_CODES,.int 18 tv0_NEAR_CODES⟩,⟨PyData.keyHash w.params "when",.str "when" tk1_NEAR_CODES,.int 19 tv1_NEAR_CODES⟩,⟨PyData.keyHash w.params "unless",.str "unless" tk2_NEAR_CODES,.int 20 tv2_NEAR_CODES⟩] n_NEAR_CODES }) (ns_NEAR_CODES:(A_NEAR_CODES == sysModules)=false)
    {A_FAR_CODES:Addr} {n_FAR_CODES:Nat} (ng_FAR_CODES:PySem.W.nsIn K mainGlobals "FAR_CODES" = some (some (.ref A_FAR_CODES)))
    {tk0_FAR_CODES:Tok}
    {tv0_FAR_CODES:Tok}
    {tk1_FAR_CODES:Tok}
    {tv1_FAR_CODES:Tok}
    {tk2_FAR_CODES:Tok}
    {tv2_FAR_CODES:Tok}
    (nq_FAR_CODES:K.lookup A_FAR_CODES=some { cls:=.type "dict",data:=.dict #[⟨PyData.keyHash w.params "jump",.str "jump" tk0_FAR_CODES,.int 21 tv0_FAR_CODES⟩,⟨PyData.keyHash w.params "when",.str "when" tk1_FAR_CODES,.int 22 tv1_FAR_CODES⟩,⟨PyData.keyHash w.params "unless",.str "unless" tk2_FAR_CODES,.int 23 tv2_FAR_CODES⟩] n_FAR_CODES }) (ns_FAR_CODES:(A_FAR_CODES == sysModules)=false)
    {tg_WORD_BITS:Tok} (ng_WORD_BITS:PySem.W.nsIn K mainGlobals "WORD_BITS" = some (some (.int 32 tg_WORD_BITS)))
    {C_BadWords:Addr} (nc_BadWords:PySem.W.nsIn K mainGlobals "BadWords" = some (some (.ref C_BadWords))) (ec_BadWords:PySem.W.excIn K C_BadWords [.type "ValueError",.type "Exception",.type "BaseException",.type "object"] "ValueError.__new__" = true)
    {C_RunError:Addr} (nc_RunError:PySem.W.nsIn K mainGlobals "RunError" = some (some (.ref C_RunError))) (ec_RunError:PySem.W.excIn K C_RunError [.type "ValueError",.type "Exception",.type "BaseException",.type "object"] "ValueError.__new__" = true)
    {C_NoAddress:Addr} (nc_NoAddress:PySem.W.nsIn K mainGlobals "NoAddress" = some (some (.ref C_NoAddress))) (ec_NoAddress:PySem.W.excIn K C_NoAddress [.type "ValueError",.type "Exception",.type "BaseException",.type "object"] "ValueError.__new__" = true)
    {C_BadState:Addr} (nc_BadState:PySem.W.nsIn K mainGlobals "BadState" = some (some (.ref C_BadState))) (ec_BadState:PySem.W.excIn K C_BadState [.type "ValueError",.type "Exception",.type "BaseException",.type "object"] "ValueError.__new__" = true)
    {C_NoLabel:Addr} (nc_NoLabel:PySem.W.nsIn K mainGlobals "NoLabel" = some (some (.ref C_NoLabel))) (ec_NoLabel:PySem.W.excIn K C_NoLabel [.type "ValueError",.type "Exception",.type "BaseException",.type "object"] "ValueError.__new__" = true)
    {C_BadText:Addr} (nc_BadText:PySem.W.nsIn K mainGlobals "BadText" = some (some (.ref C_BadText))) (ec_BadText:PySem.W.excIn K C_BadText [.type "ValueError",.type "Exception",.type "BaseException",.type "object"] "ValueError.__new__" = true)
    {C_BadNumber:Addr} (nc_BadNumber:PySem.W.nsIn K mainGlobals "BadNumber" = some (some (.ref C_BadNumber))) (ec_BadNumber:PySem.W.excIn K C_BadNumber [.type "ValueError",.type "Exception",.type "BaseException",.type "object"] "ValueError.__new__" = true)
    (px_BadWords_ga:PySem.W.findIn K (.ref C_BadWords) "__getattribute__" = some (some (.builtin "BaseException.__getattribute__")))
    (px_BadWords_gt:PySem.W.findIn K (.ref C_BadWords) "__getattr__" = some none)
    (px_BadWords_cl:PySem.W.findIn K (.ref C_BadWords) "__class__" = some (some (.builtin "object.__class__")))
    (px_BadWords_mo:PySem.W.mroIn K C_BadWords (.type "object")=some true)
    (px_BadWords_mb:PySem.W.mroIn K C_BadWords (.type "BaseException")=some true)
    (pt_BadWords_RunError:PySem.W.kitOne K (.ref C_BadWords) (.ref C_RunError)=some true)
    (pt_BadWords_BadWords:PySem.W.kitOne K (.ref C_BadWords) (.ref C_BadWords)=some true)
    (pt_BadWords_NoAddress:PySem.W.kitOne K (.ref C_BadWords) (.ref C_NoAddress)=some false)
    (pt_BadWords_BadState:PySem.W.kitOne K (.ref C_BadWords) (.ref C_BadState)=some false)
    (pt_BadWords_NoLabel:PySem.W.kitOne K (.ref C_BadWords) (.ref C_NoLabel)=some false)
    (pt_BadWords_BadText:PySem.W.kitOne K (.ref C_BadWords) (.ref C_BadText)=some false)
    (pt_BadWords_BadNumber:PySem.W.kitOne K (.ref C_BadWords) (.ref C_BadNumber)=some false)
    (pt_BadWords_ValueError:PySem.W.kitOne K (.ref C_BadWords) (.type "ValueError")=some true)
    (pm_BadWords_RunError:PySem.W.exmOne K (.ref C_BadWords) (.ref C_RunError)=some true)
    : ∃ fd:FuncData,(∀ (s:Shared) (v:Value),BindsTo s fd ⟨[v],[]⟩ [("_law_script",v)])∧∀ base:Heap,K.In base→base.Ns mainGlobals mg→FnOk l.prog w K mg base CX0 8 fa fd ["_law_script"] (spLawB K):=by
  have e:=hfa.symm.trans (PySem.W.mg_of X G a39)
  cases e
  have z_zip:mg "zip" = none:=PySem.W.mg_none_of X G nz_zip
  have z_list:mg "list" = none:=PySem.W.mg_none_of X G nz_list
  have z_len:mg "len" = none:=PySem.W.mg_none_of X G nz_len
  have z_tuple:mg "tuple" = none:=PySem.W.mg_none_of X G nz_tuple
  have z_range:mg "range" = none:=PySem.W.mg_none_of X G nz_range
  have z_max:mg "max" = none:=PySem.W.mg_none_of X G nz_max
  have z_min:mg "min" = none:=PySem.W.mg_none_of X G nz_min
  have z_sorted:mg "sorted" = none:=PySem.W.mg_none_of X G nz_sorted
  have z_int:mg "int" = none:=PySem.W.mg_none_of X G nz_int
  have z_isinstance:mg "isinstance" = none:=PySem.W.mg_none_of X G nz_isinstance
  have z_ValueError:mg "ValueError" = none:=PySem.W.mg_none_of X G nz_ValueError
  have z_bool:mg "bool" = none:=PySem.W.mg_none_of X G nz_bool
  have g_NUMBER_WIDTHS:Glb mg "NUMBER_WIDTHS" (.ref A_NUMBER_WIDTHS):=⟨_,PySem.W.mg_of X G ng_NUMBER_WIDTHS,rfl⟩
  have q_NUMBER_WIDTHS:GDict K w A_NUMBER_WIDTHS gk_NUMBER_WIDTHS gv_NUMBER_WIDTHS:=gdict_mk (us:=[.int 16,.int 16,.int 5,.int 5,.int 8,.int 8,.int 8,.int 8]) nq_NUMBER_WIDTHS (.cons (.cons (.cons (.cons (.cons (.cons (.cons (.cons .nil)))))))) (by decide +kernel) ns_NUMBER_WIDTHS (.cons ⟨_,rfl⟩ (.cons ⟨_,rfl⟩ (.cons ⟨_,rfl⟩ (.cons ⟨_,rfl⟩ (.cons ⟨_,rfl⟩ (.cons ⟨_,rfl⟩ (.cons ⟨_,rfl⟩ (.cons ⟨_,rfl⟩ .nil)))))))) fun H=>⟨_,_,rfl,rfl,⟨_,_,rfl,rfl,⟨_,_,rfl,rfl,⟨_,_,rfl,rfl,⟨_,_,rfl,rfl,⟨_,_,rfl,rfl,⟨_,_,rfl,rfl,⟨_,_,rfl,rfl,rfl⟩⟩⟩⟩⟩⟩⟩⟩
  have g_NUMBER_LOW:Glb mg "NUMBER_LOW" (.int 0):=⟨_,PySem.W.mg_of X G ng_NUMBER_LOW,⟨_,rfl⟩⟩
  have q_NUMBER_LOW:∀ H,Rep K H (.int 0) (.int 0):=fun _=>rfl
  have g_PLACES:Glb mg "PLACES" (.ref A_PLACES):=⟨_,PySem.W.mg_of X G ng_PLACES,rfl⟩
  have q_PLACES:GDict K w A_PLACES gk_PLACES gv_PLACES:=gdict_mk (us:=[.ref A0_PLACES,.ref A1_PLACES,.ref A2_PLACES,.ref A3_PLACES,.ref A4_PLACES]) nq_PLACES (.cons (.cons (.cons (.cons (.cons .nil))))) (by decide +kernel) ns_PLACES (.cons rfl (.cons rfl (.cons rfl (.cons rfl (.cons rfl .nil))))) fun H=>⟨_,_,rfl,⟨A0_PLACES,_,rfl,cstT (xs:=[.int 27,.int 5]) nt0_PLACES (by show (2:Nat)≤sizeLine; decide) (.cons ⟨_,rfl⟩ (.cons ⟨_,rfl⟩ .nil)) H,⟨_,_,rfl,rfl,⟨_,_,rfl,rfl,rfl⟩⟩,small (by decide)⟩,⟨_,_,rfl,⟨A1_PLACES,_,rfl,cstT (xs:=[.int 24,.int 3]) nt1_PLACES (by show (2:Nat)≤sizeLine; decide) (.cons ⟨_,rfl⟩ (.cons ⟨_,rfl⟩ .nil)) H,⟨_,_,rfl,rfl,⟨_,_,rfl,rfl,rfl⟩⟩,small (by decide)⟩,⟨_,_,rfl,⟨A2_PLACES,_,rfl,cstT (xs:=[.int 21,.int 3]) nt2_PLACES (by show (2:Nat)≤sizeLine; decide) (.cons ⟨_,rfl⟩ (.cons ⟨_,rfl⟩ .nil)) H,⟨_,_,rfl,rfl,⟨_,_,rfl,rfl,rfl⟩⟩,small (by decide)⟩,⟨_,_,rfl,⟨A3_PLACES,_,rfl,cstT (xs:=[.int 24,.int 2]) nt3_PLACES (by show (2:Nat)≤sizeLine; decide) (.cons ⟨_,rfl⟩ (.cons ⟨_,rfl⟩ .nil)) H,⟨_,_,rfl,rfl,⟨_,_,rfl,rfl,rfl⟩⟩,small (by decide)⟩,⟨_,_,rfl,⟨A4_PLACES,_,rfl,cstT (xs:=[.int 0,.int 5]) nt4_PLACES (by show (2:Nat)≤sizeLine; decide) (.cons ⟨_,rfl⟩ (.cons ⟨_,rfl⟩ .nil)) H,⟨_,_,rfl,rfl,⟨_,_,rfl,rfl,rfl⟩⟩,small (by decide)⟩,rfl⟩⟩⟩⟩⟩
  have g_FIELDS:Glb mg "FIELDS" (.ref A_FIELDS):=⟨_,PySem.W.mg_of X G ng_FIELDS,rfl⟩
  have q_FIELDS:GDict K w A_FIELDS gk_FIELDS gv_FIELDS:=gdict_mk (us:=[.ref A0_FIELDS,.ref A1_FIELDS,.ref A2_FIELDS,.ref A3_FIELDS,.ref A4_FIELDS,.ref A5_FIELDS,.ref A6_FIELDS,.ref A7_FIELDS,.ref A8_FIELDS,.ref A9_FIELDS,.ref A10_FIELDS,.ref A11_FIELDS,.ref A12_FIELDS,.ref A13_FIELDS,.ref A14_FIELDS,.ref A15_FIELDS,.ref A16_FIELDS,.ref A17_FIELDS,.ref A18_FIELDS,.ref A19_FIELDS,.ref A20_FIELDS,.ref A21_FIELDS]) nq_FIELDS (.cons (.cons (.cons (.cons (.cons (.cons (.cons (.cons (.cons (.cons (.cons (.cons (.cons (.cons (.cons (.cons (.cons (.cons (.cons (.cons (.cons (.cons .nil)))))))))))))))))))))) (by decide +kernel) ns_FIELDS (.cons rfl (.cons rfl (.cons rfl (.cons rfl (.cons rfl (.cons rfl (.cons rfl (.cons rfl (.cons rfl (.cons rfl (.cons rfl (.cons rfl (.cons rfl (.cons rfl (.cons rfl (.cons rfl (.cons rfl (.cons rfl (.cons rfl (.cons rfl (.cons rfl (.cons rfl .nil)))))))))))))))))))))) fun H=>⟨_,_,rfl,⟨A0_FIELDS,_,rfl,cstT (xs:=[.str "name"]) nt0_FIELDS (by show (1:Nat)≤sizeLine; decide) (.cons ⟨_,rfl⟩ .nil) H,⟨_,_,rfl,⟨rfl,small (by decide)⟩,rfl⟩,small (by decide)⟩,⟨_,_,rfl,⟨A1_FIELDS,_,rfl,cstT (xs:=[.str "d",.str "n"]) nt1_FIELDS (by show (2:Nat)≤sizeLine; decide) (.cons ⟨_,rfl⟩ (.cons ⟨_,rfl⟩ .nil)) H,⟨_,_,rfl,⟨rfl,small (by decide)⟩,⟨_,_,rfl,⟨rfl,small (by decide)⟩,rfl⟩⟩,small (by decide)⟩,⟨_,_,rfl,⟨A2_FIELDS,_,rfl,cstT (xs:=[.str "d",.str "n"]) nt2_FIELDS (by show (2:Nat)≤sizeLine; decide) (.cons ⟨_,rfl⟩ (.cons ⟨_,rfl⟩ .nil)) H,⟨_,_,rfl,⟨rfl,small (by decide)⟩,⟨_,_,rfl,⟨rfl,small (by decide)⟩,rfl⟩⟩,small (by decide)⟩,⟨_,_,rfl,⟨A3_FIELDS,_,rfl,cstT (xs:=[.str "d",.str "s"]) nt3_FIELDS (by show (2:Nat)≤sizeLine; decide) (.cons ⟨_,rfl⟩ (.cons ⟨_,rfl⟩ .nil)) H,⟨_,_,rfl,⟨rfl,small (by decide)⟩,⟨_,_,rfl,⟨rfl,small (by decide)⟩,rfl⟩⟩,small (by decide)⟩,⟨_,_,rfl,⟨A4_FIELDS,_,rfl,cstT (xs:=[.str "d",.str "s"]) nt4_FIELDS (by show (2:Nat)≤sizeLine; decide) (.cons ⟨_,rfl⟩ (.cons ⟨_,rfl⟩ .nil)) H,⟨_,_,rfl,⟨rfl,small (by decide)⟩,⟨_,_,rfl,⟨rfl,small (by decide)⟩,rfl⟩⟩,small (by decide)⟩,⟨_,_,rfl,⟨A5_FIELDS,_,rfl,cstT (xs:=[.str "d",.str "s"]) nt5_FIELDS (by show (2:Nat)≤sizeLine; decide) (.cons ⟨_,rfl⟩ (.cons ⟨_,rfl⟩ .nil)) H,⟨_,_,rfl,⟨rfl,small (by decide)⟩,⟨_,_,rfl,⟨rfl,small (by decide)⟩,rfl⟩⟩,small (by decide)⟩,⟨_,_,rfl,⟨A6_FIELDS,_,rfl,cstT (xs:=[.str "d",.str "s"]) nt6_FIELDS (by show (2:Nat)≤sizeLine; decide) (.cons ⟨_,rfl⟩ (.cons ⟨_,rfl⟩ .nil)) H,⟨_,_,rfl,⟨rfl,small (by decide)⟩,⟨_,_,rfl,⟨rfl,small (by decide)⟩,rfl⟩⟩,small (by decide)⟩,⟨_,_,rfl,⟨A7_FIELDS,_,rfl,cstT (xs:=[.str "d",.str "s"]) nt7_FIELDS (by show (2:Nat)≤sizeLine; decide) (.cons ⟨_,rfl⟩ (.cons ⟨_,rfl⟩ .nil)) H,⟨_,_,rfl,⟨rfl,small (by decide)⟩,⟨_,_,rfl,⟨rfl,small (by decide)⟩,rfl⟩⟩,small (by decide)⟩,⟨_,_,rfl,⟨A8_FIELDS,_,rfl,cstT (xs:=[.str "d",.str "s"]) nt8_FIELDS (by show (2:Nat)≤sizeLine; decide) (.cons ⟨_,rfl⟩ (.cons ⟨_,rfl⟩ .nil)) H,⟨_,_,rfl,⟨rfl,small (by decide)⟩,⟨_,_,rfl,⟨rfl,small (by decide)⟩,rfl⟩⟩,small (by decide)⟩,⟨_,_,rfl,⟨A9_FIELDS,_,rfl,cstT (xs:=[.str "d",.str "s"]) nt9_FIELDS (by show (2:Nat)≤sizeLine; decide) (.cons ⟨_,rfl⟩ (.cons ⟨_,rfl⟩ .nil)) H,⟨_,_,rfl,⟨rfl,small (by decide)⟩,⟨_,_,rfl,⟨rfl,small (by decide)⟩,rfl⟩⟩,small (by decide)⟩,⟨_,_,rfl,⟨A10_FIELDS,_,rfl,cstT (xs:=[.str "d",.str "s"]) nt10_FIELDS (by show (2:Nat)≤sizeLine; decide) (.cons ⟨_,rfl⟩ (.cons ⟨_,rfl⟩ .nil)) H,⟨_,_,rfl,⟨rfl,small (by decide)⟩,⟨_,_,rfl,⟨rfl,small (by decide)⟩,rfl⟩⟩,small (by decide)⟩,⟨_,_,rfl,⟨A11_FIELDS,_,rfl,cstT (xs:=[.str "d",.str "s"]) nt11_FIELDS (by show (2:Nat)≤sizeLine; decide) (.cons ⟨_,rfl⟩ (.cons ⟨_,rfl⟩ .nil)) H,⟨_,_,rfl,⟨rfl,small (by decide)⟩,⟨_,_,rfl,⟨rfl,small (by decide)⟩,rfl⟩⟩,small (by decide)⟩,⟨_,_,rfl,⟨A12_FIELDS,_,rfl,cstT (xs:=[.str "d",.str "n"]) nt12_FIELDS (by show (2:Nat)≤sizeLine; decide) (.cons ⟨_,rfl⟩ (.cons ⟨_,rfl⟩ .nil)) H,⟨_,_,rfl,⟨rfl,small (by decide)⟩,⟨_,_,rfl,⟨rfl,small (by decide)⟩,rfl⟩⟩,small (by decide)⟩,⟨_,_,rfl,⟨A13_FIELDS,_,rfl,cstT (xs:=[.str "d",.str "n"]) nt13_FIELDS (by show (2:Nat)≤sizeLine; decide) (.cons ⟨_,rfl⟩ (.cons ⟨_,rfl⟩ .nil)) H,⟨_,_,rfl,⟨rfl,small (by decide)⟩,⟨_,_,rfl,⟨rfl,small (by decide)⟩,rfl⟩⟩,small (by decide)⟩,⟨_,_,rfl,⟨A14_FIELDS,_,rfl,cstT (xs:=[.str "d",.str "s",.str "n"]) nt14_FIELDS (by show (3:Nat)≤sizeLine; decide) (.cons ⟨_,rfl⟩ (.cons ⟨_,rfl⟩ (.cons ⟨_,rfl⟩ .nil))) H,⟨_,_,rfl,⟨rfl,small (by decide)⟩,⟨_,_,rfl,⟨rfl,small (by decide)⟩,⟨_,_,rfl,⟨rfl,small (by decide)⟩,rfl⟩⟩⟩,small (by decide)⟩,⟨_,_,rfl,⟨A15_FIELDS,_,rfl,cstT (xs:=[.str "d",.str "s",.str "n"]) nt15_FIELDS (by show (3:Nat)≤sizeLine; decide) (.cons ⟨_,rfl⟩ (.cons ⟨_,rfl⟩ (.cons ⟨_,rfl⟩ .nil))) H,⟨_,_,rfl,⟨rfl,small (by decide)⟩,⟨_,_,rfl,⟨rfl,small (by decide)⟩,⟨_,_,rfl,⟨rfl,small (by decide)⟩,rfl⟩⟩⟩,small (by decide)⟩,⟨_,_,rfl,⟨A16_FIELDS,_,rfl,cstT (xs:=[.str "d",.str "s",.str "n"]) nt16_FIELDS (by show (3:Nat)≤sizeLine; decide) (.cons ⟨_,rfl⟩ (.cons ⟨_,rfl⟩ (.cons ⟨_,rfl⟩ .nil))) H,⟨_,_,rfl,⟨rfl,small (by decide)⟩,⟨_,_,rfl,⟨rfl,small (by decide)⟩,⟨_,_,rfl,⟨rfl,small (by decide)⟩,rfl⟩⟩⟩,small (by decide)⟩,⟨_,_,rfl,⟨A17_FIELDS,_,rfl,cstT (xs:=[.str "d",.str "s",.str "n"]) nt17_FIELDS (by show (3:Nat)≤sizeLine; decide) (.cons ⟨_,rfl⟩ (.cons ⟨_,rfl⟩ (.cons ⟨_,rfl⟩ .nil))) H,⟨_,_,rfl,⟨rfl,small (by decide)⟩,⟨_,_,rfl,⟨rfl,small (by decide)⟩,⟨_,_,rfl,⟨rfl,small (by decide)⟩,rfl⟩⟩⟩,small (by decide)⟩,⟨_,_,rfl,⟨A18_FIELDS,_,rfl,cstT (xs:=[.str "name"]) nt18_FIELDS (by show (1:Nat)≤sizeLine; decide) (.cons ⟨_,rfl⟩ .nil) H,⟨_,_,rfl,⟨rfl,small (by decide)⟩,rfl⟩,small (by decide)⟩,⟨_,_,rfl,⟨A19_FIELDS,_,rfl,cstT (xs:=[.str "mark",.str "name"]) nt19_FIELDS (by show (2:Nat)≤sizeLine; decide) (.cons ⟨_,rfl⟩ (.cons ⟨_,rfl⟩ .nil)) H,⟨_,_,rfl,⟨rfl,small (by decide)⟩,⟨_,_,rfl,⟨rfl,small (by decide)⟩,rfl⟩⟩,small (by decide)⟩,⟨_,_,rfl,⟨A20_FIELDS,_,rfl,cstT (xs:=[.str "mark",.str "name"]) nt20_FIELDS (by show (2:Nat)≤sizeLine; decide) (.cons ⟨_,rfl⟩ (.cons ⟨_,rfl⟩ .nil)) H,⟨_,_,rfl,⟨rfl,small (by decide)⟩,⟨_,_,rfl,⟨rfl,small (by decide)⟩,rfl⟩⟩,small (by decide)⟩,⟨_,_,rfl,⟨A21_FIELDS,_,rfl,cstT (xs:=[]) nt21_FIELDS (by show (0:Nat)≤sizeLine; decide) .nil H,rfl,small (by decide)⟩,rfl⟩⟩⟩⟩⟩⟩⟩⟩⟩⟩⟩⟩⟩⟩⟩⟩⟩⟩⟩⟩⟩⟩
  have k_MARKS:TupK K A_MARKS:=⟨_,nq_MARKS,rfl,rfl⟩
  have g_MARKS:Glb mg "MARKS" (.ref A_MARKS):=⟨_,PySem.W.mg_of X G ng_MARKS,rfl⟩
  have q_MARKS:∀ H,Rep K H gt_MARKS (.ref A_MARKS):=fun H=>⟨A_MARKS,_,rfl,cstT (xs:=[.str "carry",.str "nought",.str "sign"]) nq_MARKS (by show (3:Nat)≤sizeLine; decide) (.cons ⟨_,rfl⟩ (.cons ⟨_,rfl⟩ (.cons ⟨_,rfl⟩ .nil))) H,⟨_,_,rfl,⟨rfl,small (by decide)⟩,⟨_,_,rfl,⟨rfl,small (by decide)⟩,⟨_,_,rfl,⟨rfl,small (by decide)⟩,rfl⟩⟩⟩,small (by decide)⟩
  have g_CODES:Glb mg "CODES" (.ref A_CODES):=⟨_,PySem.W.mg_of X G ng_CODES,rfl⟩
  have e_CODES:GDictE K w A_CODES gk_CODES gu_CODES:=gdictE_mk (us:=gu_CODES) nq_CODES (.cons (.cons (.cons (.cons (.cons (.cons (.cons (.cons (.cons (.cons (.cons (.cons (.cons (.cons (.cons (.cons (.cons (.cons .nil)))))))))))))))))) (by decide +kernel) ns_CODES (.cons ⟨_,rfl⟩ (.cons ⟨_,rfl⟩ (.cons ⟨_,rfl⟩ (.cons ⟨_,rfl⟩ (.cons ⟨_,rfl⟩ (.cons ⟨_,rfl⟩ (.cons ⟨_,rfl⟩ (.cons ⟨_,rfl⟩ (.cons ⟨_,rfl⟩ (.cons ⟨_,rfl⟩ (.cons ⟨_,rfl⟩ (.cons ⟨_,rfl⟩ (.cons ⟨_,rfl⟩ (.cons ⟨_,rfl⟩ (.cons ⟨_,rfl⟩ (.cons ⟨_,rfl⟩ (.cons ⟨_,rfl⟩ (.cons ⟨_,rfl⟩ .nil))))))))))))))))))
  have r_CODES:∀ H,Reps K H gv_CODES gu_CODES:=fun H=>⟨_,_,rfl,rfl,⟨_,_,rfl,rfl,⟨_,_,rfl,rfl,⟨_,_,rfl,rfl,⟨_,_,rfl,rfl,⟨_,_,rfl,rfl,⟨_,_,rfl,rfl,⟨_,_,rfl,rfl,⟨_,_,rfl,rfl,⟨_,_,rfl,rfl,⟨_,_,rfl,rfl,⟨_,_,rfl,rfl,⟨_,_,rfl,rfl,⟨_,_,rfl,rfl,⟨_,_,rfl,rfl,⟨_,_,rfl,rfl,⟨_,_,rfl,rfl,⟨_,_,rfl,rfl,rfl⟩⟩⟩⟩⟩⟩⟩⟩⟩⟩⟩⟩⟩⟩⟩⟩⟩⟩
  have q_CODES:GDict K w A_CODES gk_CODES gv_CODES:=gdict_mk (us:=[.int 0,.int 1,.int 2,.int 3,.int 4,.int 5,.int 6,.int 7,.int 8,.int 9,.int 10,.int 11,.int 12,.int 13,.int 14,.int 15,.int 16,.int 17]) nq_CODES (.cons (.cons (.cons (.cons (.cons (.cons (.cons (.cons (.cons (.cons (.cons (.cons (.cons (.cons (.cons (.cons (.cons (.cons .nil)))))))))))))))))) (by decide +kernel) ns_CODES (.cons ⟨_,rfl⟩ (.cons ⟨_,rfl⟩ (.cons ⟨_,rfl⟩ (.cons ⟨_,rfl⟩ (.cons ⟨_,rfl⟩ (.cons ⟨_,rfl⟩ (.cons ⟨_,rfl⟩ (.cons ⟨_,rfl⟩ (.cons ⟨_,rfl⟩ (.cons ⟨_,rfl⟩ (.cons ⟨_,rfl⟩ (.cons ⟨_,rfl⟩ (.cons ⟨_,rfl⟩ (.cons ⟨_,rfl⟩ (.cons ⟨_,rfl⟩ (.cons ⟨_,rfl⟩ (.cons ⟨_,rfl⟩ (.cons ⟨_,rfl⟩ .nil)))))))))))))))))) fun H=>⟨_,_,rfl,rfl,⟨_,_,rfl,rfl,⟨_,_,rfl,rfl,⟨_,_,rfl,rfl,⟨_,_,rfl,rfl,⟨_,_,rfl,rfl,⟨_,_,rfl,rfl,⟨_,_,rfl,rfl,⟨_,_,rfl,rfl,⟨_,_,rfl,rfl,⟨_,_,rfl,rfl,⟨_,_,rfl,rfl,⟨_,_,rfl,rfl,⟨_,_,rfl,rfl,⟨_,_,rfl,rfl,⟨_,_,rfl,rfl,⟨_,_,rfl,rfl,⟨_,_,rfl,rfl,rfl⟩⟩⟩⟩⟩⟩⟩⟩⟩⟩⟩⟩⟩⟩⟩⟩⟩⟩
  have g_NEAR_CODES:Glb mg "NEAR_CODES" (.ref A_NEAR_CODES):=⟨_,PySem.W.mg_of X G ng_NEAR_CODES,rfl⟩
  have e_NEAR_CODES:GDictE K w A_NEAR_CODES gk_NEAR_CODES gu_NEAR_CODES:=gdictE_mk (us:=gu_NEAR_CODES) nq_NEAR_CODES (.cons (.cons (.cons .nil))) (by decide +kernel) ns_NEAR_CODES (.cons ⟨_,rfl⟩ (.cons ⟨_,rfl⟩ (.cons ⟨_,rfl⟩ .nil)))
  have r_NEAR_CODES:∀ H,Reps K H gv_NEAR_CODES gu_NEAR_CODES:=fun H=>⟨_,_,rfl,rfl,⟨_,_,rfl,rfl,⟨_,_,rfl,rfl,rfl⟩⟩⟩
  have q_NEAR_CODES:GDict K w A_NEAR_CODES gk_NEAR_CODES gv_NEAR_CODES:=gdict_mk (us:=[.int 18,.int 19,.int 20]) nq_NEAR_CODES (.cons (.cons (.cons .nil))) (by decide +kernel) ns_NEAR_CODES (.cons ⟨_,rfl⟩ (.cons ⟨_,rfl⟩ (.cons ⟨_,rfl⟩ .nil))) fun H=>⟨_,_,rfl,rfl,⟨_,_,rfl,rfl,⟨_,_,rfl,rfl,rfl⟩⟩⟩
  have g_FAR_CODES:Glb mg "FAR_CODES" (.ref A_FAR_CODES):=⟨_,PySem.W.mg_of X G ng_FAR_CODES,rfl⟩
  have e_FAR_CODES:GDictE K w A_FAR_CODES gk_FAR_CODES gu_FAR_CODES:=gdictE_mk (us:=gu_FAR_CODES) nq_FAR_CODES (.cons (.cons (.cons .nil))) (by decide +kernel) ns_FAR_CODES (.cons ⟨_,rfl⟩ (.cons ⟨_,rfl⟩ (.cons ⟨_,rfl⟩ .nil)))
  have r_FAR_CODES:∀ H,Reps K H gv_FAR_CODES gu_FAR_CODES:=fun H=>⟨_,_,rfl,rfl,⟨_,_,rfl,rfl,⟨_,_,rfl,rfl,rfl⟩⟩⟩
  have q_FAR_CODES:GDict K w A_FAR_CODES gk_FAR_CODES gv_FAR_CODES:=gdict_mk (us:=[.int 21,.int 22,.int 23]) nq_FAR_CODES (.cons (.cons (.cons .nil))) (by decide +kernel) ns_FAR_CODES (.cons ⟨_,rfl⟩ (.cons ⟨_,rfl⟩ (.cons ⟨_,rfl⟩ .nil))) fun H=>⟨_,_,rfl,rfl,⟨_,_,rfl,rfl,⟨_,_,rfl,rfl,rfl⟩⟩⟩
  have g_WORD_BITS:Glb mg "WORD_BITS" (.int 32):=⟨_,PySem.W.mg_of X G ng_WORD_BITS,⟨_,rfl⟩⟩
  have q_WORD_BITS:∀ H,Rep K H (.int 32) (.int 32):=fun _=>rfl
  have c_BadWords:ExC K mg "BadWords" C_BadWords:=⟨PySem.W.mg_of X G nc_BadWords,ec_BadWords⟩
  have c_RunError:ExC K mg "RunError" C_RunError:=⟨PySem.W.mg_of X G nc_RunError,ec_RunError⟩
  have c_NoAddress:ExC K mg "NoAddress" C_NoAddress:=⟨PySem.W.mg_of X G nc_NoAddress,ec_NoAddress⟩
  have c_BadState:ExC K mg "BadState" C_BadState:=⟨PySem.W.mg_of X G nc_BadState,ec_BadState⟩
  have c_NoLabel:ExC K mg "NoLabel" C_NoLabel:=⟨PySem.W.mg_of X G nc_NoLabel,ec_NoLabel⟩
  have c_BadText:ExC K mg "BadText" C_BadText:=⟨PySem.W.mg_of X G nc_BadText,ec_BadText⟩
  have c_BadNumber:ExC K mg "BadNumber" C_BadNumber:=⟨PySem.W.mg_of X G nc_BadNumber,ec_BadNumber⟩
  have x_BadWords:ExK K C_BadWords:=⟨px_BadWords_ga,px_BadWords_gt,px_BadWords_cl,px_BadWords_mo,px_BadWords_mb⟩
  have t_BadWords_RunError:PySem.W.kitOne K (.ref C_BadWords) (.ref C_RunError)=some true:=pt_BadWords_RunError
  have t_BadWords_BadWords:PySem.W.kitOne K (.ref C_BadWords) (.ref C_BadWords)=some true:=pt_BadWords_BadWords
  have t_BadWords_NoAddress:PySem.W.kitOne K (.ref C_BadWords) (.ref C_NoAddress)=some false:=pt_BadWords_NoAddress
  have t_BadWords_BadState:PySem.W.kitOne K (.ref C_BadWords) (.ref C_BadState)=some false:=pt_BadWords_BadState
  have t_BadWords_NoLabel:PySem.W.kitOne K (.ref C_BadWords) (.ref C_NoLabel)=some false:=pt_BadWords_NoLabel
  have t_BadWords_BadText:PySem.W.kitOne K (.ref C_BadWords) (.ref C_BadText)=some false:=pt_BadWords_BadText
  have t_BadWords_BadNumber:PySem.W.kitOne K (.ref C_BadWords) (.ref C_BadNumber)=some false:=pt_BadWords_BadNumber
  have t_BadWords_ValueError:PySem.W.kitOne K (.ref C_BadWords) (.type "ValueError")=some true:=pt_BadWords_ValueError
  have m_BadWords_RunError:PySem.W.exmOne K (.ref C_BadWords) (.ref C_RunError)=some true:=pm_BadWords_RunError
  have F0:=fun_mk (st:=s_part) l0 c0 k0
  have D0:Def K mg "part" s_part ["word", "low", "width"]:=⟨_,_,F0,PySem.W.mg_of X G a0,F0.binds fun _ _ _ _ _ _=>us3 fun _ _ _=>rfl⟩
  have F1:=fun_mk (st:=s_with_part) l1 c1 k1
  have D1:Def K mg "with_part" s_with_part ["word", "low", "width", "number"]:=⟨_,_,F1,PySem.W.mg_of X G a1,F1.binds fun _ _ _ _ _ _=>us4 fun _ _ _ _=>rfl⟩
  have F2:=fun_mk (st:=s_signed) l2 c2 k2
  have D2:Def K mg "signed" s_signed ["number", "width"]:=⟨_,_,F2,PySem.W.mg_of X G a2,F2.binds fun _ _ _ _ _ _=>us2 fun _ _=>rfl⟩
  have F3:=fun_mk (st:=s_place_in_word) l3 c3 k3
  have D3:Def K mg "place_in_word" s_place_in_word ["kind", "field"]:=⟨_,_,F3,PySem.W.mg_of X G a3,F3.binds fun _ _ _ _ _ _=>us2 fun _ _=>rfl⟩
  have F4:=fun_mk (st:=s_number_at) l4 c4 k4
  have D4:Def K mg "number_at" s_number_at ["word", "place"]:=⟨_,_,F4,PySem.W.mg_of X G a4,F4.binds fun _ _ _ _ _ _=>us2 fun _ _=>rfl⟩
  have F5:=fun_mk (st:=s_with_number) l5 c5 k5
  have D5:Def K mg "with_number" s_with_number ["word", "place", "number"]:=⟨_,_,F5,PySem.W.mg_of X G a5,F5.binds fun _ _ _ _ _ _=>us3 fun _ _ _=>rfl⟩
  have F6:=fun_mk (st:=s_fields_in_word) l6 c6 k6
  have D6:Def K mg "fields_in_word" s_fields_in_word ["kind"]:=⟨_,_,F6,PySem.W.mg_of X G a6,F6.binds fun _ _ _ _ _ _=>us1 fun _=>rfl⟩
  have F7:=fun_mk (st:=s_first_word) l7 c7 k7
  have D7:Def K mg "first_word" s_first_word ["row", "code"]:=⟨_,_,F7,PySem.W.mg_of X G a7,F7.binds fun _ _ _ _ _ _=>us2 fun _ _=>rfl⟩
  have F8:=fun_mk (st:=s_code_in) l8 c8 k8
  have D8:Def K mg "code_in" s_code_in ["word"]:=⟨_,_,F8,PySem.W.mg_of X G a8,F8.binds fun _ _ _ _ _ _=>us1 fun _=>rfl⟩
  have F9:=fun_mk (st:=s_kind_of_code) l9 c9 k9
  have D9:Def K mg "kind_of_code" s_kind_of_code ["code"]:=⟨_,_,F9,PySem.W.mg_of X G a9,F9.binds fun _ _ _ _ _ _=>us1 fun _=>rfl⟩
  have F10:=fun_mk (st:=s_is_near_code) l10 c10 k10
  have D10:Def K mg "is_near_code" s_is_near_code ["code"]:=⟨_,_,F10,PySem.W.mg_of X G a10,F10.binds fun _ _ _ _ _ _=>us1 fun _=>rfl⟩
  have F11:=fun_mk (st:=s_is_far_code) l11 c11 k11
  have D11:Def K mg "is_far_code" s_is_far_code ["code"]:=⟨_,_,F11,PySem.W.mg_of X G a11,F11.binds fun _ _ _ _ _ _=>us1 fun _=>rfl⟩
  have F12:=fun_mk (st:=s_held_in) l12 c12 k12
  have D12:Def K mg "held_in" s_held_in ["word", "kind", "field"]:=⟨_,_,F12,PySem.W.mg_of X G a12,F12.binds fun _ _ _ _ _ _=>us3 fun _ _ _=>rfl⟩
  have F13:=fun_mk (st:=s_row_in) l13 c13 k13
  have D13:Def K mg "row_in" s_row_in ["word"]:=⟨_,_,F13,PySem.W.mg_of X G a13,F13.binds fun _ _ _ _ _ _=>us1 fun _=>rfl⟩
  have F14:=fun_mk (st:=s_far_at) l14 c14 k14
  have D14:Def K mg "far_at" s_far_at ["words", "address", "row"]:=⟨_,_,F14,PySem.W.mg_of X G a14,F14.binds fun _ _ _ _ _ _=>us3 fun _ _ _=>rfl⟩
  have F15:=fun_mk (st:=s_told_at) l15 c15 k15
  have D15:Def K mg "told_at" s_told_at ["words", "address"]:=⟨_,_,F15,PySem.W.mg_of X G a15,F15.binds fun _ _ _ _ _ _=>us2 fun _ _=>rfl⟩
  have F16:=fun_mk (st:=s_row_at) l16 c16 k16
  have D16:Def K mg "row_at" s_row_at ["words", "address"]:=⟨_,_,F16,PySem.W.mg_of X G a16,F16.binds fun _ _ _ _ _ _=>us2 fun _ _=>rfl⟩
  have F17:=fun_mk (st:=s_law_cell_at) l17 c17 k17
  have D17:Def K mg "_law_cell_at" s_law_cell_at ["_law_script", "_law_k"]:=⟨_,_,F17,PySem.W.mg_of X G a17,F17.binds fun _ _ _ _ _ _=>us2 fun _ _=>rfl⟩
  have F18:=fun_mk (st:=s_law_mixed) l18 c18 k18
  have D18:Def K mg "_law_mixed" s_law_mixed ["_law_cell", "_law_k"]:=⟨_,_,F18,PySem.W.mg_of X G a18,F18.binds fun _ _ _ _ _ _=>us2 fun _ _=>rfl⟩
  have F19:=fun_mk (st:=s_law_name_by) l19 c19 k19
  have D19:Def K mg "_law_name_by" s_law_name_by ["_law_k", "_law_shape"]:=⟨_,_,F19,PySem.W.mg_of X G a19,F19.binds fun _ _ _ _ _ _=>us2 fun _ _=>rfl⟩
  have F20:=fun_mk (st:=s_law_row_by) l20 c20 k20
  have D20:Def K mg "_law_row_by" s_law_row_by ["_law_cell"]:=⟨_,_,F20,PySem.W.mg_of X G a20,F20.binds fun _ _ _ _ _ _=>us1 fun _=>rfl⟩
  have F21:=fun_mk (st:=s_law_place_by) l21 c21 k21
  have D21:Def K mg "_law_place_by" s_law_place_by ["_law_number", "_law_many", "_law_cell"]:=⟨_,_,F21,PySem.W.mg_of X G a21,F21.binds fun _ _ _ _ _ _=>us3 fun _ _ _=>rfl⟩
  have F22:=fun_mk (st:=s_law_rows_by) l22 c22 k22
  have D22:Def K mg "_law_rows_by" s_law_rows_by ["_law_script", "_law_many", "_law_dense"]:=⟨_,_,F22,PySem.W.mg_of X G a22,F22.binds fun _ _ _ _ _ _=>us3 fun _ _ _=>rfl⟩
  have F23:=fun_mk (st:=s_law_jumps_in) l23 c23 k23
  have D23:Def K mg "_law_jumps_in" s_law_jumps_in ["_law_rows"]:=⟨_,_,F23,PySem.W.mg_of X G a23,F23.binds fun _ _ _ _ _ _=>us1 fun _=>rfl⟩
  have F24:=fun_mk (st:=s_law_many_by) l24 c24 k24
  have D24:Def K mg "_law_many_by" s_law_many_by ["_law_cell"]:=⟨_,_,F24,PySem.W.mg_of X G a24,F24.binds fun _ _ _ _ _ _=>us1 fun _=>rfl⟩
  have F25:=fun_mk (st:=s_law_items_by) l25 c25 k25
  have D25:Def K mg "_law_items_by" s_law_items_by ["_law_rows", "_law_cell"]:=⟨_,_,F25,PySem.W.mg_of X G a25,F25.binds fun _ _ _ _ _ _=>us2 fun _ _=>rfl⟩
  have F26:=fun_mk (st:=s_law_built) l26 c26 k26
  have D26:Def K mg "_law_built" s_law_built ["_law_script"]:=⟨_,_,F26,PySem.W.mg_of X G a26,F26.binds fun _ _ _ _ _ _=>us1 fun _=>rfl⟩
  have F27:=fun_mk (st:=s_law_stands) l27 c27 k27
  have D27:Def K mg "_law_stands" s_law_stands ["_law_rows", "_law_far"]:=⟨_,_,F27,PySem.W.mg_of X G a27,F27.binds fun _ _ _ _ _ _=>us2 fun _ _=>rfl⟩
  have F28:=fun_mk (st:=s_law_near_ones) l28 c28 k28
  have D28:Def K mg "_law_near_ones" s_law_near_ones ["_law_rows", "_law_far"]:=⟨_,_,F28,PySem.W.mg_of X G a28,F28.binds fun _ _ _ _ _ _=>us2 fun _ _=>rfl⟩
  have F29:=fun_mk (st:=s_law_reaching) l29 c29 k29
  have D29:Def K mg "_law_reaching" s_law_reaching ["_law_rows", "_law_far"]:=⟨_,_,F29,PySem.W.mg_of X G a29,F29.binds fun _ _ _ _ _ _=>us2 fun _ _=>rfl⟩
  have F30:=fun_mk (st:=s_law_any_far) l30 c30 k30
  have D30:Def K mg "_law_any_far" s_law_any_far ["_law_rows", "_law_cell", "_law_most"]:=⟨_,_,F30,PySem.W.mg_of X G a30,F30.binds fun _ _ _ _ _ _=>us3 fun _ _ _=>rfl⟩
  have F31:=fun_mk (st:=s_law_order) l31 c31 k31
  have D31:Def K mg "_law_order" s_law_order []:=⟨_,_,F31,PySem.W.mg_of X G a31,F31.binds fun _ _ _ _ _ _=>us0 rfl⟩
  have F32:=fun_mk (st:=s_law_word) l32 c32 k32
  have D32:Def K mg "_law_word" s_law_word ["_law_row"]:=⟨_,_,F32,PySem.W.mg_of X G a32,F32.binds fun _ _ _ _ _ _=>us1 fun _=>rfl⟩
  have F33:=fun_mk (st:=s_law_jump_words) l33 c33 k33
  have D33:Def K mg "_law_jump_words" s_law_jump_words ["_law_row", "_law_distance", "_law_is_far"]:=⟨_,_,F33,PySem.W.mg_of X G a33,F33.binds fun _ _ _ _ _ _=>us3 fun _ _ _=>rfl⟩
  have F34:=fun_mk (st:=s_law_written) l34 c34 k34
  have D34:Def K mg "_law_written" s_law_written ["_law_rows", "_law_far"]:=⟨_,_,F34,PySem.W.mg_of X G a34,F34.binds fun _ _ _ _ _ _=>us2 fun _ _=>rfl⟩
  have F35:=fun_mk (st:=s_law_jump_at) l35 c35 k35
  have D35:Def K mg "_law_jump_at" s_law_jump_at ["_law_words", "_law_address", "_law_kind"]:=⟨_,_,F35,PySem.W.mg_of X G a35,F35.binds fun _ _ _ _ _ _=>us3 fun _ _ _=>rfl⟩
  have F36:=fun_mk (st:=s_law_row_at) l36 c36 k36
  have D36:Def K mg "_law_row_at" s_law_row_at ["_law_words", "_law_address"]:=⟨_,_,F36,PySem.W.mg_of X G a36,F36.binds fun _ _ _ _ _ _=>us2 fun _ _=>rfl⟩
  have F37:=fun_mk (st:=s_law_bad) l37 c37 k37
  have D37:Def K mg "_law_bad" s_law_bad ["_law_e"]:=⟨_,_,F37,PySem.W.mg_of X G a37,F37.binds fun _ _ _ _ _ _=>us1 fun _=>rfl⟩
  have F38:=fun_mk (st:=s_law_told) l38 c38 k38
  have D38:Def K mg "_law_told" s_law_told ["_law_words", "_law_address"]:=⟨_,_,F38,PySem.W.mg_of X G a38,F38.binds fun _ _ _ _ _ _=>us2 fun _ _=>rfl⟩
  have F39:=fun_mk (st:=s_law) l39 c39 k39
  refine ⟨PySem.W.fnOf "law" "law" (defArgs s_law) (defBody s_law) (defScope s_law) .none kV39 dc39 pm39 an39 cd39 ct39,fun s v=>.of_eq rfl,fun base _ _=>?_⟩
  have h_part:=ok_part (P:=l.prog) (w:=w) (base:=base) D0 
  have h_with_part:=ok_with_part (P:=l.prog) (w:=w) (base:=base) D1 
  have h_signed:=ok_signed (P:=l.prog) (w:=w) (base:=base) D2 
  have h_place_in_word:=ok_place_in_word (P:=l.prog) (w:=w) (base:=base) D3 g_NUMBER_WIDTHS q_NUMBER_WIDTHS g_NUMBER_LOW q_NUMBER_LOW g_PLACES q_PLACES
  have h_number_at:=ok_number_at (P:=l.prog) (w:=w) (base:=base) D4 h_part
  have h_with_number:=ok_with_number (P:=l.prog) (w:=w) (base:=base) D5 h_with_part
  have h_fields_in_word:=ok_fields_in_word (P:=l.prog) (w:=w) (base:=base) D6 g_FIELDS q_FIELDS
  have h_first_word:=ok_first_word (P:=l.prog) (w:=w) (base:=base) D7 z_zip g_PLACES q_PLACES g_MARKS q_MARKS k_MARKS h_with_number h_fields_in_word h_place_in_word
  have h_code_in:=ok_code_in (P:=l.prog) (w:=w) (base:=base) D8 g_PLACES q_PLACES h_number_at
  have h_kind_of_code:=ok_kind_of_code (P:=l.prog) (w:=w) (base:=base) D9 g_CODES q_CODES g_NEAR_CODES q_NEAR_CODES g_FAR_CODES q_FAR_CODES e_CODES r_CODES e_NEAR_CODES r_NEAR_CODES e_FAR_CODES r_FAR_CODES
  have h_is_near_code:=ok_is_near_code (P:=l.prog) (w:=w) (base:=base) D10 z_list g_NEAR_CODES q_NEAR_CODES e_NEAR_CODES r_NEAR_CODES
  have h_is_far_code:=ok_is_far_code (P:=l.prog) (w:=w) (base:=base) D11 z_list g_FAR_CODES q_FAR_CODES e_FAR_CODES r_FAR_CODES
  have h_held_in:=ok_held_in (P:=l.prog) (w:=w) (base:=base) D12 z_len g_MARKS q_MARKS h_number_at h_place_in_word
  have h_row_in:=ok_row_in (P:=l.prog) (w:=w) (base:=base) D13 z_tuple g_PLACES q_PLACES h_code_in h_kind_of_code h_fields_in_word h_held_in h_is_near_code h_with_number h_first_word
  have h_far_at:=ok_far_at (P:=l.prog) (w:=w) (base:=base) D14 z_len g_WORD_BITS q_WORD_BITS h_signed
  have h_told_at:=ok_told_at (P:=l.prog) (w:=w) (base:=base) D15 z_len g_PLACES q_PLACES h_row_in h_code_in h_is_far_code h_far_at h_is_near_code h_signed h_number_at
  have h_row_at:=ok_row_at (P:=l.prog) (w:=w) (base:=base) D16 c_BadWords h_told_at
  have h_law_cell_at:=ok_law_cell_at (P:=l.prog) (w:=w) (base:=base) D17 z_len
  have h_law_mixed:=ok_law_mixed (P:=l.prog) (w:=w) (base:=base) D18 
  have h_law_name_by:=ok_law_name_by (P:=l.prog) (w:=w) (base:=base) D19 z_range h_law_mixed
  have h_law_row_by:=ok_law_row_by (P:=l.prog) (w:=w) (base:=base) D20 
  have h_law_place_by:=ok_law_place_by (P:=l.prog) (w:=w) (base:=base) D21 z_max z_min
  have h_law_rows_by:=ok_law_rows_by (P:=l.prog) (w:=w) (base:=base) D22 z_range z_len h_law_cell_at h_law_mixed h_law_place_by h_law_row_by
  have h_law_jumps_in:=ok_law_jumps_in (P:=l.prog) (w:=w) (base:=base) D23 z_range z_len
  have h_law_many_by:=ok_law_many_by (P:=l.prog) (w:=w) (base:=base) D24 
  have h_law_items_by:=ok_law_items_by (P:=l.prog) (w:=w) (base:=base) D25 z_range z_len h_law_jumps_in h_law_mixed h_law_name_by
  have h_law_built:=ok_law_built (P:=l.prog) (w:=w) (base:=base) D26 h_law_many_by h_law_cell_at h_law_rows_by h_law_items_by
  have h_law_stands:=ok_law_stands (P:=l.prog) (w:=w) (base:=base) D27 z_range z_len
  have h_law_near_ones:=ok_law_near_ones (P:=l.prog) (w:=w) (base:=base) D28 h_law_stands h_law_jumps_in
  have h_law_reaching:=ok_law_reaching (P:=l.prog) (w:=w) (base:=base) D29 z_sorted h_law_near_ones
  have h_law_any_far:=ok_law_any_far (P:=l.prog) (w:=w) (base:=base) D30 h_law_reaching h_law_jumps_in h_law_mixed
  have h_law_order:=ok_law_order (P:=l.prog) (w:=w) (base:=base) D31 
  have h_law_word:=ok_law_word (P:=l.prog) (w:=w) (base:=base) D32 z_len h_law_order
  have h_law_jump_words:=ok_law_jump_words (P:=l.prog) (w:=w) (base:=base) D33 z_int
  have h_law_written:=ok_law_written (P:=l.prog) (w:=w) (base:=base) D34 z_range z_len h_law_stands h_law_jump_words h_law_word
  have h_law_jump_at:=ok_law_jump_at (P:=l.prog) (w:=w) (base:=base) D35 z_int z_len h_law_jump_words
  have h_law_row_at:=ok_law_row_at (P:=l.prog) (w:=w) (base:=base) D36 z_len z_int h_law_jump_at h_law_order h_law_word
  have h_law_bad:=ok_law_bad (P:=l.prog) (w:=w) (base:=base) D37 z_isinstance z_ValueError c_RunError c_BadWords c_NoAddress c_BadState c_NoLabel c_BadText c_BadNumber x_BadWords t_BadWords_RunError t_BadWords_BadWords t_BadWords_NoAddress t_BadWords_BadState t_BadWords_NoLabel t_BadWords_BadText t_BadWords_BadNumber t_BadWords_ValueError
  have h_law_told:=ok_law_told (P:=l.prog) (w:=w) (base:=base) D38 z_isinstance z_tuple z_bool z_int c_RunError c_BadWords m_BadWords_RunError h_law_row_at h_row_at h_law_bad
  exact ok_law F39 z_list z_range z_len h_law_built h_law_cell_at h_law_written h_law_any_far h_law_told
theorem walk {l:PySem.W.OpenLaw} {q:Program} {loose:List Str} {XP:(Str→Option Value)→Heap→Prop} {YP:World→Heap→Prop} {d:DefRec} {K:Params→PySem.W.Frag} (hn:l.most=some 63) (hdf:d.params.defaults=[])
    (hY:∀ (w:World) (h:Heap),YP w h→(K w.params).In h)
    (F:∀ (w:World) (mg:Str→Option Value) (fa:Addr) (h:Heap),(K w.params).In h→h.Ns mainGlobals mg→mg d.name=some (.ref fa)→
      ∃ fd:FuncData,(∀ (s:Shared) (u:Value),BindsTo s fd ⟨[u],[]⟩ [("_law_script",u)])∧∀ base:Heap,(K w.params).In base→base.Ns mainGlobals mg→FnOk l.prog w (K w.params) mg base CX0 8 fa fd ["_law_script"] (spLawB (K w.params))) :
    PySem.W.WalkO q loose XP YP l.row.toRowW d [] (fun f vs=>PySem.call f vs):=
  L3.walkB (n:=63) (k:=8) (x := "_law_script") (sp:=spLawB) hn (by decide) hdf ⟨rfl,by decide,by decide⟩ hY F fun _ _ a ns hl hb hS=>⟨a,ns,rfl,hS,hl,hb,fun _=>rfl⟩
end My
namespace PySem.W.Fast
noncomputable def tw15111953085666428784:=0
noncomputable def tw8987301023703509821:=0
noncomputable def tw12319829289320855243:=0
noncomputable def tw14991421958563533041:=0
noncomputable def tw10424126192893089432:=0
noncomputable def tw12409225123251203654:=0
noncomputable def tw6468990756878094977:=0
noncomputable def tw3716446672182332119:=0
noncomputable def tw7913322325049101008:=0
noncomputable def tw8522070380146686788:=0
noncomputable def tw3511945437808875043:=0
noncomputable def tw18073638102667602465:=0
noncomputable def tw3344173306805824591:=0
noncomputable def tw12085741068676128330:=0
noncomputable def tw11308895326532790409:=0
noncomputable def tw2580666985317818483:=0
noncomputable def tw6295023430635447223:=0
noncomputable def tw5200818862120362578:=0
noncomputable def tw7153731133178236750:=0
noncomputable def tw10536457142080061163:=0
noncomputable def tw8614901659816976401:=0
noncomputable def tw15311985517603142745:=0
noncomputable def tw3574436224440459942:=0
noncomputable def tw4586273234635638873:=0
noncomputable def tw17020257724245442857:=0
noncomputable def tw3454501195537342539:=0
noncomputable def tw8805524141806397440:=0
noncomputable def tw10575209909190523353:=0
noncomputable def tw11991529615435240863:=0
noncomputable def tw1185359778445000934:=0
noncomputable def tw8011643467128839608:=0
noncomputable def tw6179956958193190550:=0
noncomputable def tw14982127809321340893:=0
noncomputable def tw12688010284997573733:=0
noncomputable def tw15027376239344281174:=0
noncomputable def tw4318385446472592522:=0
noncomputable def tw104883796469668810:=0
noncomputable def tw17424941575491602344:=0
noncomputable def tw15633357509343238518:=0
noncomputable def tw3510494969103431867:=0
noncomputable def tw12906178818160178072:=0
noncomputable def tw16532645935565413763:=0
noncomputable def tw11012940375273441088:=0
noncomputable def tw799009162225755058:=0
noncomputable def tw4944715821907769765:=0
noncomputable def tw10206290359673788061:=0
noncomputable def tw1601106574205716126:=0
noncomputable def tw13410108437097261877:=0
noncomputable def tw5084336448653414732:=0
noncomputable def tw3573726045048849292:=0
noncomputable def tw11556705945685009750:=0
noncomputable def tw11596360742600239659:=0
noncomputable def tw10108186317347386272:=0
noncomputable def tw10624762659822815587:=0
noncomputable def tw1283007445864895176:=0
noncomputable def tw8932352733355723167:=0
noncomputable def tw10423387052431125910:=0
noncomputable def tw14164834320774760566:=0
noncomputable def tw18101066543645011496:=0
noncomputable def tw17529485298714327741:=0
noncomputable def tw16939699952357399966:=0
noncomputable def tw15808898151438619565:=0
noncomputable def tw3634331271157141587:=0
noncomputable def tw3748828297114524534:=0
noncomputable def tw7646258951750247265:=0
noncomputable def tw8955598576102476981:=0
noncomputable def tw14639511548045522310:=0
noncomputable def tw508484095516826359:=0
noncomputable def tw2706205514830539964:=0
noncomputable def tw9044508492441627752:=0
noncomputable def tw7798132509321391445:=0
noncomputable def tw8168631570844661946:=0
noncomputable def tw18167794751610003718:=0
noncomputable def tw17774102123124795216:=0
noncomputable def tw2087673759989662286:=0
noncomputable def tw1018040794700279632:=0
noncomputable def tw7625364234062280210:=0
noncomputable def tw6360443090194419953:=0
noncomputable def tw11645999254761473294:=0
noncomputable def tw12573379879116699702:=0
noncomputable def tw1204844197952154234:=0
noncomputable def tw2217393595075494716:=0
noncomputable def tw13722814897071582251:=0
noncomputable def tw3358223813557117921:=0
noncomputable def tw14889723231028323968:=0
noncomputable def tw18185360022499941117:=0
noncomputable def tw16314347921811021350:=0
noncomputable def tw11630173100627708854:=0
noncomputable def tw11886908401139714256:=0
noncomputable def tw15738593832922370212:=0
noncomputable def tw113476879422760758:=0
noncomputable def tw4562983413559997882:=0
noncomputable def tw13757280468029910332:=0
noncomputable def tw191444618908894305:=0
noncomputable def tw6609472578777767135:=0
noncomputable def tw8833829871450958014:=0
noncomputable def tw2360381109101307247:=0
noncomputable def tw1926573004016898480:=0
noncomputable def tw16752606796134039100:=0
noncomputable def tw16925421375850045954:=0
noncomputable def tw15996884457752678521:=0
noncomputable def tw2158621546545067322:=0
noncomputable def tw5301482850756919383:=0
noncomputable def tw9510292337953368310:=0
noncomputable def tw15363300301283264329:=0
noncomputable def tw17556929863693219945:=0
noncomputable def tw14286098250873374268:=0
noncomputable def tw1734319759727772898:=0
end PySem.W.Fast
open PySem PySem.W PyProof.Rows
set_option maxRecDepth 100000 in
set_option maxHeartbeats 0 in
theorem PySem.Challenge.cw_markrun_k28_rows_at_addresses_holds : PySem.Challenge.rw_markrun_k28_rows_at_addresses.Holds := by
  w_on; o_law; k_head; (case hw=>w_witness2)
  k_fill
  refine My.walk (l:=PySem.Challenge.rw_markrun_k28_rows_at_addresses) rfl rfl (fun w h Y=>PySem.W.kIn_of Y) ?F
  case F=>
    intro w mg fa h KX G hmg
    refine' My.all_mk KX G hmg ?a0 ?l0 ?c0 ?k0 ?a1 ?l1 ?c1 ?k1 ?a2 ?l2 ?c2 ?k2 ?a3 ?l3 ?c3 ?k3 ?a4 ?l4 ?c4 ?k4 ?a5 ?l5 ?c5 ?k5 ?a6 ?l6 ?c6 ?k6 ?a7 ?l7 ?c7 ?k7 ?a8 ?l8 ?c8 ?k8 ?a9 ?l9 ?c9 ?k9 ?a10 ?l10 ?c10 ?k10 ?a11 ?l11 ?c11 ?k11 ?a12 ?l12 ?c12 ?k12 ?a13 ?l13 ?c13 ?k13 ?a14 ?l14 ?c14 ?k14 ?a15 ?l15 ?c15 ?k15 ?a16 ?l16 ?c16 ?k16 ?a17 ?l17 ?c17 ?k17 ?a18 ?l18 ?c18 ?k18 ?a19 ?l19 ?c19 ?k19 ?a20 ?l20 ?c20 ?k20 ?a21 ?l21 ?c21 ?k21 ?a22 ?l22 ?c22 ?k22 ?a23 ?l23 ?c23 ?k23 ?a24 ?l24 ?c24 ?k24 ?a25 ?l25 ?c25 ?k25 ?a26 ?l26 ?c26 ?k26 ?a27 ?l27 ?c27 ?k27 ?a28 ?l28 ?c28 ?k28 ?a29 ?l29 ?c29 ?k29 ?a30 ?l30 ?c30 ?k30 ?a31 ?l31 ?c31 ?k31 ?a32 ?l32 ?c32 ?k32 ?a33 ?l33 ?c33 ?k33 ?a34 ?l34 ?c34 ?k34 ?a35 ?l35 ?c35 ?k35 ?a36 ?l36 ?c36 ?k36 ?a37 ?l37 ?c37 ?k37 ?a38 ?l38 ?c38 ?k38 ?a39 ?l39 ?c39 ?k39 ?nz_zip ?nz_list ?nz_len ?nz_tuple ?nz_range ?nz_max ?nz_min ?nz_sorted ?nz_int ?nz_isinstance ?nz_ValueError ?nz_bool ?ng_NUMBER_WIDTHS ?nq_NUMBER_WIDTHS ?ns_NUMBER_WIDTHS ?ng_NUMBER_LOW ?ng_PLACES ?nt0_PLACES ?nt1_PLACES ?nt2_PLACES ?nt3_PLACES ?nt4_PLACES ?nq_PLACES ?ns_PLACES ?ng_FIELDS ?nt0_FIELDS ?nt1_FIELDS ?nt2_FIELDS ?nt3_FIELDS ?nt4_FIELDS ?nt5_FIELDS ?nt6_FIELDS ?nt7_FIELDS ?nt8_FIELDS ?nt9_FIELDS ?nt10_FIELDS ?nt11_FIELDS ?nt12_FIELDS ?nt13_FIELDS ?nt14_FIELDS ?nt15_FIELDS ?nt16_FIELDS ?nt17_FIELDS ?nt18_FIELDS ?nt19_FIELDS ?nt20_FIELDS ?nt21_FIELDS ?nq_FIELDS ?ns_FIELDS ?ng_MARKS ?nq_MARKS ?ng_CODES ?nq_CODES ?ns_CODES ?ng_NEAR_CODES ?nq_NEAR_CODES ?ns_NEAR_CODES ?ng_FAR_CODES ?nq_FAR_CODES ?ns_FAR_CODES ?ng_WORD_BITS ?nc_BadWords ?ec_BadWords ?nc_RunError ?ec_RunError ?nc_NoAddress ?ec_NoAddress ?nc_BadState ?ec_BadState ?nc_NoLabel ?ec_NoLabel ?nc_BadText ?ec_BadText ?nc_BadNumber ?ec_BadNumber ?px_BadWords_ga ?px_BadWords_gt ?px_BadWords_cl ?px_BadWords_mo ?px_BadWords_mb ?pt_BadWords_RunError ?pt_BadWords_BadWords ?pt_BadWords_NoAddress ?pt_BadWords_BadState ?pt_BadWords_NoLabel ?pt_BadWords_BadText ?pt_BadWords_BadNumber ?pt_BadWords_ValueError ?pm_BadWords_RunError
    all_goals try (first | k_is | k_exc | kit_is | kts_exm)
    all_goals decide
