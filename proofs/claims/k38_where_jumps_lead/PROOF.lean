import PyProof.Rows.All
import Wide.All
import OpenK.AllK
import Wide.FinOn
import Lean
import PyProof.EqAt
import PyProof.EqKinds
import PyProof.TupleCall
import PySem.Challenge.RW_markrun_k38_where_jumps_lead
set_option Elab.async false
set_option linter.all false
set_option maxRecDepth 100000
def LR:=@PySem.Around.under_plainId
def LS:=@Array.getElem?_eq_none
def LU:=@Array.getElem?_toList
def j7:=@Array.length_toList
def GG:=@Array.toArray_toList
def Tm:=@Array.toList_append
def yC:=@Bool.and_eq_true
def Tn:=@Bool.and_self
def kZ:=@Bool.eq_iff_iff
def LV:=@Bool.false_and
def j8:=@Bool.false_eq_true
def xO:=@Bool.false_ne_true
def YW:=@Bool.false_or
def GH:=@Bool.or_eq_false_iff
def LW:=@Bool.true_or
def GI:=@PySem.Calls.Name_function_global
def LX:=@PySem.Calls.spliced_cons
def GJ:=@Classical.choose_spec
def GK:=@PySem.F.args_tuple_iterator_next_1
def GL:=@PySem.F.entry_tuple_iterator_next
def LY:=@PySem.F.slot_list_getattribute
def To:=@PySem.F.slot_tuple_iterator_next
def Tp:=@PySem.F.slot_zip_next
def t5:=@Iff.rfl
def Wx:=@Int.emod_lt_of_pos
def Wy:=@Int.emod_nonneg
def GM:=@Int.fdiv_eq_ediv_of_nonneg
def YX:=@Int.natCast_nonneg
def LZ:=@Int.one_mul
def p9:=@Int.toNat_natCast
def Ld:=@Int.toNat_of_nonneg
def Le:=@List.Perm.refl
def xh:=@List.all_cons
def ud:=@List.all_eq_true
def YY:=@List.any_cons
def Lf:=@List.any_eq_false
def Lg:=@List.any_map
def Lh:=@List.append_assoc
def vg:=@List.append_nil
def YZ:=@List.cons_append
def Ya:=@List.drop_eq_getElem_cons
def Tq:=@List.drop_eq_nil_of_le
def GN:=@List.eq_nil_of_length_eq_zero
def Li:=@List.eq_of_mem_replicate
def Lj:=@List.filterMap_cons
def Wz:=@List.filter_append
def Yb:=@List.filter_cons
def GO:=@List.filter_cons_of_neg
def Lk:=@List.filter_cons_of_pos
def GP:=@List.filter_eq_self
def Yc:=@List.find?_cons
def Yd:=@List.flatten_cons
def ue:=@List.getD_eq_getElem?_getD
def j9:=@List.getElem?_append_left
def W_:=@List.getElem?_append_right
def xD:=@List.getElem?_eq_getElem
def V0:=@List.getElem?_eq_none
def yD:=@List.getElem?_eq_some_iff
def vh:=@List.getElem?_map
def GQ:=@List.getElem?_replicate
def Ll:=@List.getElem?_set
def GR:=@List.getElem?_set_ne
def GS:=@List.getElem?_set_self
def Ye:=@List.getElem?_toArray
def GT:=@List.getElem?_zipWith
def Yf:=@List.getElem_mem
def yL:=@List.length_append
def yO:=@List.length_cons
def Tr:=@List.length_drop
def GU:=@List.length_filter_le
def zo:=@List.length_map
def V1:=@List.length_nil
def jA:=@List.length_range
def g9:=@List.length_replicate
def vV:=@List.length_set
def tj:=@List.length_take
def pA:=@List.length_zip
def jB:=@List.length_zipWith
def V2:=@List.lookup_cons
def jC:=@List.map_append
def xA:=@List.map_cons
def Ts:=@List.map_map
def V3:=@List.map_nil
def gA:=@List.mem_append
def Lm:=@List.mem_append_left
def uf:=@List.mem_append_right
def yY:=@List.mem_cons
def xP:=@List.mem_cons_of_mem
def yr:=@List.mem_cons_self
def Ln:=@List.mem_filter
def GV:=@List.mem_filterMap
def ug:=@List.mem_map
def Lo:=@List.mem_map_of_mem
def Tt:=@List.mem_of_getElem?
def Lq:=@List.mem_of_mem_drop
def Tu:=@List.mem_of_mem_take
def Yg:=@List.mem_range
def Tv:=@List.mem_singleton
def Lu:=@List.nil_append
def Lv:=@List.nodup_append
def Yh:=@List.nodup_cons
def tm:=@List.not_mem_nil
def Lw:=@List.of_mem_zip
def V4:=@List.pairwise_cons
def gB:=@List.replicate_succ
def GW:=@List.set_cons_succ
def GX:=@List.set_cons_zero
def yP:=@List.size_toArray
def Lx:=@List.take_append_drop
def Yi:=@List.take_length
def GY:=@List.take_succ_cons
def V5:=@List.take_succ_eq_append_getElem
def Tw:=@List.take_zero
def Yj:=@List.zipWith_cons_cons
def uh:=@List.zip_cons_cons
def GZ:=@Nat.add_le_add_left
def gC:=@Nat.le_add_right
def Tx:=@Nat.le_of_eq
def V6:=@Nat.le_of_lt
def yF:=@Nat.le_refl
def V7:=@Nat.le_succ
def wo:=@Nat.le_trans
def V8:=@Nat.log2_lt
def wL:=@Nat.lt_irrefl
def Ly:=@Nat.lt_of_le_of_lt
def xi:=@Nat.lt_of_lt_of_le
def Lz:=@Nat.lt_succ_of_lt
def kf:=@Nat.lt_succ_self
def Ty:=@Nat.lt_trans
def uI:=@Nat.min_self
def qS:=@Nat.ne_of_gt
def xz:=@Nat.ne_of_lt
def L_:=@Nat.not_lt
def M1:=@Nat.sub_self
def Yk:=@Nat.succ.inj
def Tz:=@Nat.succ_le_succ
def wp:=@Nat.zero_add
def vi:=@Nat.zero_le
def jD:=@Ne.symm
def kj:=@Option.bind_some
def Gb:=@Option.isSome_iff_exists
def M3:=@Option.isSome_map
def ui:=@Option.some.inj
def jE:=@PySem.PassesOwn.never
def T_:=@PyProof.Rows.callWith_type1
def M4:=@PyProof.Rows.slot_tuple_getitem
def M5:=@PySem.SeqAt.EqAt.same
def Yl:=@Sum.inl.inj
def Q0:=@Sum.inr.inj
def jF:=@beq_eq_false_iff_ne
def gD:=@beq_iff_eq
def jG:=@beq_self_eq_true
def Ym:=@PySem.call_meets
def Q1:=@PySem.codeAny_builtin
def Q2:=@PySem.codeAny_mono
def xE:=@decide_eq_false
def yQ:=@decide_eq_true
def M6:=@decide_eq_true_iff
def jH:=@decide_true
def wq:=@if_false
def zK:=@if_neg
def zI:=@if_pos
def xj:=@if_true
def Gc:=@of_decide_eq_false
def yy:=@of_decide_eq_true
def xM:=@PySem.sizeLine_eq
def Yn:=@PySem.strLen_append
def Q3:=@PyProof.Rows.subscriptTail_builtinR
def V9:=@PySem.tupleKind_room_in1
def Q4:=@PySem.wpAny_Call_Name_kw
def zO:=@PySem.wpAny_bind
def VA:=@PySem.wpAny_callSpecial?_slot
def Yo:=@PySem.wpAny_call_entry
def Gd:=@PySem.wpAny_comprehension_free
def M7:=@PySem.wpAny_execs_nil
def uJ:=@PySem.wpAny_field
def M8:=@PySem.wpAny_getItem_of
def gE:=@PySem.wpAny_holding
def uK:=@PySem.wpAny_mono
def km:=@PySem.wpAny_newObj_type
def VB:=@PySem.wpAny_onRaise
def VC:=@PySem.wpAny_passesOwn
def yG:=@PySem.wpAny_pure
def VD:=@PySem.wpAny_pyIter_list
def M9:=@PySem.wpAny_pyIter_tuple
def Q5:=@PySem.wpAny_rule
def jI:=@PySem.wpAny_seqItems
def Yp:=@PySem.wpAny_setField_rec
def MB:=@PySem.wpAny_standAt
def Yq:=@PySem.wpAny_truthy_bool
def Q6:=@PySem.wpAny_typeOf
def ME:=@PySem.wpAny_updateSeq_pair
namespace L2
open PySem PySem.Spec PyProof.Rows
abbrev zN:=Sum Int Str
def jj:zN->Value->Bool
 |.inl k,v=>Value.isInt k v
 |.inr x,v=>Value.isStrOf x v
def P1(w:World):zN->Int
 |.inl k=>hashInt k
 |.inr x=>hashStr w x
theorem qt:∀{k:zN}{v:Value},jj k v=true->(∃i t,k=Sum.inl i/\v=Value.int i t)\/(∃x t,k=Sum.inr x/\v=Value.str x t)
 |.inl i,v,h=>by
  obtain⟨t,e⟩:=Value.isInt_shape (k:=i) (v:=v) h;exact .inl ⟨i,t,rfl,e⟩
 |.inr x,v,h=>by
  obtain⟨t,e⟩:=Value.isStrOf_shape (x:=x) (v:=v) h;exact .inr ⟨x,t,rfl,e⟩
theorem P3(i:Int)(t:Tok):jj (.inl i) (.int i t)=true:=by simp[jj,Value.isInt]
theorem P4(x:Str)(t:Tok):jj (.inr x) (.str x t)=true:=by simp[jj,Value.isStrOf]
theorem P5(a b:Int):decide ((Sum.inl a:zN)=Sum.inl b)=(a==b):=by
 by_cases e:a=b
 ·subst e; simp
 ·have h:¬ (Sum.inl a:zN)=Sum.inl b:=λq=>e (Yl q)
  rw[xE h];exact(jF.mpr e).symm
theorem PB(a b:Str):decide ((Sum.inr a:zN)=Sum.inr b)=decide (a=b):=by
 by_cases e:a=b
 ·subst e; simp
 ·have h:¬ (Sum.inr a:zN)=Sum.inr b:=λq=>e (Q0 q)
  rw[xE h,xE e]
theorem P6(a:Int)(b:Str):decide ((Sum.inl a:zN)=Sum.inr b)=false:=xE (λq=>nomatch q)
theorem P9(a:Str)(b:Int):decide ((Sum.inr a:zN)=Sum.inl b)=false:=xE (λq=>nomatch q)
def yq(prog:Program)(w:World):PySem.KeyKind prog w zN where
 is:=jj
 hash:=P1 w
 inj:=λv a b ha hb=>by
  rcases qt ha with⟨i,t,rfl,rfl⟩|⟨x,t,rfl,rfl⟩
  ·rcases qt hb with⟨j,u,rfl,e⟩|⟨y,u,rfl,e⟩
   ·injection e with e1 _; rw[e1]
   ·exact nomatch e
  ·rcases qt hb with⟨j,u,rfl,e⟩|⟨y,u,rfl,e⟩
   ·exact nomatch e
   ·injection e with e1 _; rw[e1]
 byValue:=λk v h=>by
  rcases qt h with⟨i,t,rfl,rfl⟩|⟨x,t,rfl,rfl⟩<;>rfl
 pyHash:=λhv h=>by
  rcases qt hv with⟨i,t,rfl,rfl⟩|⟨x,t,rfl,rfl⟩
  ·exact wpAny_pyHash_int h
  ·exact wpAny_pyHash_str h
 eqBool:=λhu hv h=>by
  rcases qt hu with⟨i,t,rfl,rfl⟩|⟨x,t,rfl,rfl⟩
  ·rcases qt hv with⟨j,u,rfl,rfl⟩|⟨y,u,rfl,rfl⟩
   ·rw[P5]at h; exact wpAny_eqBool_int h
   ·rw[P6]at h; exact SeqAt.EqAt.int_str i t y u _ _ _ _ h
  ·rcases qt hv with⟨j,u,rfl,rfl⟩|⟨y,u,rfl,rfl⟩
   ·rw[P9]at h; exact SeqAt.EqAt.str_int x t j u _ _ _ _ h
   ·rw[PB]at h; exact wpAny_eqBool_str h
 «strs»:=λk x t v h=>by
  rcases qt h with⟨i,u,rfl,e⟩|⟨y,u,rfl,e⟩
  ·exact nomatch e
  ·injection e with e1 _
   subst e1;cases v<;>rfl
theorem R0(prog:Program)(w:World)(i:Int)(t:Tok):(yq prog w).is (.inl i) (.int i t)=true:=P3 i t
theorem Ix(prog:Program)(w:World)(x:Str)(t:Tok):(yq prog w).is (.inr x) (.str x t)=true:=P4 x t
inductive V where
 |zF|bl (b:Bool)|int (i:Int)|str (x:Str)|byt (b:Array UInt8)|gH (b:UInt64)|ref (a:Addr)|ty (n:String)
 deriving DecidableEq
def zd:V->Value->Prop
 |.zF,u=>u=Value.none
 |.bl b,u=>u=Value.bool b
 |.int i,u=>∃t,u=Value.int i t
 |.str x,u=>∃t,u=Value.str x t
 |.byt b,u=>∃t,u=Value.bytes b t
 |.gH b,u=>∃t,u=Value.float b t
 |.ref a,u=>u=Value.ref a
 |.ty n,u=>u=Value.type n
abbrev zc:List V->List Value->Prop:=Paired zd
theorem zc.length{xs:List V}{us:List Value}(r:zc xs us):xs.length=us.length:=Paired.length r
theorem zc.get:∀{xs:List V}{us:List Value}{i:Nat}{x:V},zc xs us->xs[i]?=some x->∃u,us[i]?=some u/\zd x u
 |_,_,_,_,.nil,e=>by simp at e
 |_,_,0,_,.cons r _,e=>by simp at e; subst e; exact⟨_,rfl,r⟩
 |_,_,i+1,x,.cons _ t,e=>by
  obtain⟨u,h1,h2⟩:=zc.get (i:=i) (x:=x) t (by simpa using e);exact⟨u,by simpa using h1,h2⟩
theorem zc.set{x:V}{u:Value}(r:zd x u):∀{xs:List V}{us:List Value}(i:Nat),zc xs us->zc (xs.set i x) (us.set i u)
 |_,_,_,.nil=>.nil
 |_,_,0,.cons _ t=>.cons r t
 |_,_,i+1,.cons q t=>.cons q (zc.set r i t)
theorem zc.append:∀{xs ys:List V}{us ws:List Value},zc xs us->zc ys ws->zc (xs++ys) (us++ws)
 |_,_,_,_,.nil,s=>s
 |_,_,_,_,.cons r t,s=>.cons r (zc.append t s)
theorem zc.take:∀{xs:List V}{us:List Value}(n:Nat),zc xs us->zc (xs.take n) (us.take n)
 |_,_,0,_=>.nil
 |_,_,_+1,.nil=>.nil
 |_,_,n+1,.cons r t=>.cons r (zc.take n t)
theorem zc.drop:∀{xs:List V}{us:List Value}(n:Nat),zc xs us->zc (xs.drop n) (us.drop n)
 |_,_,0,r=>r
 |_,_,_+1,.nil=>.nil
 |_,_,n+1,.cons _ t=>zc.drop n t
def wv:Option V->Option Value->Prop
 |some v,some u=>zd v u
 |none,none=>True
 |_,_=>False
def KV{κ:Type}:List (κ×V)->List (κ×Value)->Prop:=Paired λ(p:κ×V) (q:κ×Value)=>p.1=q.1/\zd p.2 q.2
def kV:zN->V
 |.inl i=>.int i
 |.inr x=>.str x
inductive HO where
  |lst (xs:List V)
  |tup (xs:List V)
  |dK (kvs:List (zN×V))|dT (kvs:List (List zN×V))
  |set (S:Int->Bool) (n:Nat)
  |ins (C dx:Addr) (fs:List (Str×V))
  |own (x:Addr)
  |xd (fs:List (Str×V))
  |met (f x:Addr)
  |rng (lo hi:Int)
  |wC (o:Obj) (u:HO)
  |tbl (ps:Array Value)
  |ext (φ:Heap->Prop)
abbrev Hp:=Addr->Option HO
def zS(H:Hp)(a:Addr)(o:HO):Hp:=λb=>if b=a then some o else H b
theorem yT{H:Hp}{a:Addr}{o:HO}:zS H a o a=some o:=by unfold zS; rw[zI rfl]
theorem yK{H:Hp}{a b:Addr}{o:HO}(h:b≠a):zS H a o b=H b:=by unfold zS; rw[zK h]
theorem RI{H:Hp}{a b:Addr}{o u:HO}(h:H a=some o)(h':H b=some u)(d:o≠u):a≠b:=by
 intro e; subst e; rw[h]at h'; exact d (ui h')
theorem uD{H:Hp}{a b:Addr}{o:HO}(h:H a=some o)(h':H b=none):a≠b:=by
 intro e; subst e; rw[h]at h'; cases h'
section
variable(P:Program)(w:World)
def xG(H:Hp)(h:Heap)(a:Addr):HO->Prop
 |.lst xs=>xs.length<=sizeLine/\∃(its:List Value) (n:Nat),zc xs its/\h.get? a=some { cls:=.type "list",data:=.seq its.toArray n }
 |.tup xs=>xs.length<=sizeLine/\∃its:List Value,zc xs its/\IsTup h a its.toArray
 |.dK kvs=>kvs.length<=sizeLine/\(a==sysModules)=false/\∃vs,KV kvs vs/\h.DictOf (yq P w) a vs
 |.dT kvs=>kvs.length<=sizeLine/\(a==sysModules)=false/\∃xs:List (List zN×Addr×Value),
   Paired (λ(p:List zN×V) (q:List zN×Addr×Value)=>p.1=q.1/\H q.2.1=some (.tup (p.1.map kV))/\zd p.2 q.2.2) kvs xs/\
   ∃o es ep,h.get? a=some o/\o.ExactDict/\o.data=.dict es ep/\es.toList=xs.map (entryOfKey (tupleKind (yq P w)))/\(xs.map (·.1)).Nodup
 |.set S n=>h.SetOf (intKind P w) a S n
 |.ins C dx fs=>H dx=some (.own a)/\fs.length<=1000/\dx≠a/\h.get? a=some (W.instObj C dx)/\
   ∃mA,h.Ns1 dx mA/\(∀f,wv (fs.lookup f) (mA f))/\PySem.Within mA (fs.map (·.1))
 |.own _=>∃o,h.get? a=some o
 |.xd fs=>∃mA,h.Ns1 a mA/\∀f,wv (fs.lookup f) (mA f)
 |.rng lo hi=>∃t u v,h.get? a=some { cls:=.type "range",data:=.fields #[.int lo t,.int hi u,.int 1 v] }
 |.wC o u=>h.get? a=some o/\xG H h a u
 |.tbl ps=>h.get? a=some { cls:=.none,data:=.fields ps }
 |.met f x=>h.get? a=some (W.methodObj (.ref f) (.ref x))
 |.ext φ=>φ h/\(∃o,h.get? a=some o)/\∀h1 h2:Heap,φ h1->(∀o,h1.get? a=some o->h2.get? a=some o)->φ h2
def xF(H:Hp)(h:Heap):Prop:=∀a o,H a=some o->xG P w H h a o
end
section
variable{P:Program}{w:World}{H H':Hp}{h h':Heap}{a:Addr}{o:HO}
theorem xG.lt(x:xG P w H h a o):a<h.objs.size:=by
 cases o with
 |lst xs=>obtain⟨_,_,_,_,e⟩:=x; exact Heap.lt_size e
 |tup xs=>obtain⟨_,_,_,p⟩:=x; exact p.lt
 |dK kvs=>obtain⟨_,_,_,_,o,_,_,e,_⟩:=x; exact Heap.lt_size e
 |dT kvs=>obtain⟨_,_,_,_,o,_,_,e,_⟩:=x; exact Heap.lt_size e
 |set S n=>obtain⟨o,_,_,_,e,_⟩:=x; exact Heap.lt_size e
 |ins C dx fs=>obtain⟨_,_,_,e,_⟩:=x; exact Heap.lt_size e
 |own y=>obtain⟨_,e⟩:=x; exact Heap.lt_size e
 |xd fs=>obtain⟨_,⟨_,_,_,e,_⟩,_⟩:=x; exact Heap.lt_size e
 |rng lo hi=>obtain⟨_,_,_,e⟩:=x; exact Heap.lt_size e
 |wC ob u=>obtain⟨e,_⟩:=x; exact Heap.lt_size e
 |tbl ps=>exact Heap.lt_size (show h.get? a=some _ from x)
 |met f y=>exact Heap.lt_size (show h.get? a=some _ from x)
 |ext φ=>obtain⟨_,⟨_,e⟩,_⟩:=x; exact Heap.lt_size e
theorem Paired.QC{α β:Type}{F G:α->β->Prop}:∀{l₁:List α}{l₂:List β},Paired F l₁ l₂->(∀a b,F a b->G a b)->Paired G l₁ l₂
 |_,_,.nil,_=>.nil
 |_,_,.cons r t,f=>.cons (f _ _ r) (Paired.QC t f)
theorem xG.gI(x:xG P w H h a o)(k:∀b u,(b=a\/H b=some (.own a))->h.get? b=some u->h'.get? b=some u)
  (ho:∀b,H b=some (.own a)->H' b=some (.own a))(ht:∀b xs,H b=some (.tup xs)->H' b=some (.tup xs)):xG P w H' h' a o:=by
 induction o with
 |lst xs=>obtain⟨z,its,n,r,e⟩:=x; exact⟨z,its,n,r,k _ _ (.inl rfl) e⟩
 |tup xs=>obtain⟨z,its,r,ob,e,c⟩:=x; exact⟨z,its,r,ob,k _ _ (.inl rfl) e,c⟩
 |dK kvs=>obtain⟨z,y,vs,r,ob,es,ep,e,c⟩:=x; exact⟨z,y,vs,r,ob,es,ep,k _ _ (.inl rfl) e,c⟩
 |dT kvs=>
  obtain⟨z,y,xs,r,ob,es,ep,e,c⟩:=x;exact⟨z,y,xs,Paired.QC r λp q z=>⟨z.1,ht _ _ z.2.1,z.2.2⟩,ob,es,ep,k _ _ (.inl rfl) e,c⟩
 |set S n=>obtain⟨ob,es,ep,t,e,c⟩:=x; exact⟨ob,es,ep,t,k _ _ (.inl rfl) e,c⟩
 |ins C dx fs=>
  obtain⟨d,z,ne,e,mA,⟨od,es,ep,e2,c⟩,r⟩:=x;exact⟨ho _ d,z,ne,k _ _ (.inl rfl) e,mA,⟨od,es,ep,k _ _ (.inr d) e2,c⟩,r⟩
 |own y=>obtain⟨ob,e⟩:=x; exact⟨ob,k _ _ (.inl rfl) e⟩
 |xd fs=>obtain⟨mA,⟨od,es,ep,e,c⟩,r⟩:=x; exact⟨mA,⟨od,es,ep,k _ _ (.inl rfl) e,c⟩,r⟩
 |rng lo hi=>obtain⟨t,u,v,e⟩:=x; exact⟨t,u,v,k _ _ (.inl rfl) e⟩
 |wC ob u ih=>obtain⟨e,q⟩:=x; exact⟨k _ _ (.inl rfl) e,ih q⟩
 |tbl ps=>
  have e:h.get? a=some { cls:=.none,data:=.fields ps }:=x;show h'.get? a=some { cls:=.none,data:=.fields ps };exact k a _ (.inl rfl) e
 |met f y=>
  have e:h.get? a=some (W.methodObj (.ref f) (.ref y)):=x;show h'.get? a=some (W.methodObj (.ref f) (.ref y));exact k a _ (.inl rfl) e
 |ext φ=>obtain⟨p,⟨o,e⟩,st⟩:=x; exact⟨st _ _ p λo q=>k _ _ (.inl rfl) q,⟨o,k _ _ (.inl rfl) e⟩,st⟩
theorem xF.lt(x:xF P w H h)(e:H a=some o):a<h.objs.size:=(x a o e).lt
theorem xF.fresh(x:xF P w H h)(e:h.objs.size<=a):H a=none:=by
 cases q:H a with
 |none=>rfl
 |some u=>exact absurd (xi (x.lt q) e) (wL _)
theorem xF.kept(x:xF P w H h)(k:∀b u,h.get? b=some u->h'.get? b=some u):xF P w H h':=λa o e=>
 (x a o e).gI (λb u _ q=>k b u q) (λ_ q=>q) λ_ _ q=>q
theorem xF.laid(x:xF P w H h)(k:∀b u,h.get? b=some u->h'.get? b=some u)(hp:h.objs.size<=a)(new:xG P w (zS H a o) h' a o):xF P w (zS H a o) h':=λb u e=>by
 have hn:=x.fresh hp;by_cases hb:b=a
 ·subst hb; rw[yT]at e; cases e; exact new
 ·rw[yK hb]at e;exact(x b u e).gI (λc v _ q=>k c v q) (λc q=>by rw[yK (uD q hn)]; exact q) λc xs q=>by rw[yK (uD q hn)]; exact q
end
def Rd(H:Hp)(a:Addr)(u:HO):Prop:=H a=some u\/∃o,H a=some (.wC o u)
theorem Rd.ok{P:Program}{w:World}{H:Hp}{h:Heap}{a:Addr}{u:HO}(r:Rd H a u)(x:xF P w H h):xG P w H h a u:=by
 rcases r with r|⟨o,r⟩
 ·exact x a u r
 ·obtain⟨_,q⟩:=x a _ r;exact q
def Yz:Option HO->Prop
 |some (.lst _)=>True
 |some (.dK _)=>True
 |some (.dT _)=>True
 |some (.set _ _)=>True
 |some (.ins _ _ _)=>True
 |some (.ext _)=>True
 |_=>False
section
variable{P:Program}{w:World}{H:Hp}{h h':Heap}{x e:Addr}{o':HO}
theorem xF.write(ok:xF P w H h)(mu:Yz (H x))(he:e=x\/H e=some (.own x))(k:∀b u,b≠e->h.get? b=some u->h'.get? b=some u)(heo:∃u,h'.get? e=some u)
  (new:xG P w (zS H x o') h' x o'):xF P w (zS H x o') h':=λb u q=>by
 have nown:∀c y,H c=some (.own y)->c≠x:=λc y r z=>by subst z; rw[r]at mu; exact mu
 have ntup:∀c xs,H c=some (.tup xs)->c≠x:=λc xs r z=>by subst z; rw[r]at mu; exact mu
 by_cases hb:b=x
 ·subst hb; rw[yT]at q; cases q; exact new
 ·rw[yK hb]at q;by_cases hbe:b=e
  ·have q':H b=some (.own x):=by
    rcases he with z|z
    ·exact absurd (hbe.trans z) hb
    ·rw[hbe]; exact z
   rw[q]at q'; cases q';obtain⟨v,hv⟩:=heo;exact⟨v,by rw[hbe]; exact hv⟩
  ·refine(ok b u q).gI (λc v hc r=>k c v ?_ r) (λc r=>by rw[yK (nown c b r)]; exact r) λc xs r=>by rw[yK (ntup c xs r)]; exact r
   rcases hc with rfl|hc
   ·exact hbe
   ·rintro rfl;rcases he with z|z
    ·exact nown c b hc z
    ·rw[hc]at z; cases z; exact hb rfl
end
structure Un(fs ex:List Addr)(H H':Hp)(h h':Heap):Prop where
 keep:∀b o,h.get? b=some o->H b=none->b ∉ fs->b ∉ ex->h'.get? b=some o
 slot:∀b o,h.get? b=some o->H b=none->b∈fs->b ∉ ex->∃sl,h'.get? b=some { o with slots:=sl }
 free:∀b o,h.get? b=some o->H b=none->b ∉ ex->H' b=none
 there:∀b o,h.get? b=some o->b ∉ ex->∃o',h'.get? b=some o'
 uM:∀b xs,H b=some (.tup xs)->H' b=some (.tup xs)
 vx:∀b o u,H b=some (.wC o u)->H' b=some (.wC o u)
 tD:∀b ps,H b=some (.tbl ps)->∃more,H' b=some (.tbl (ps++more))
section
variable{fs fs' ex ex':List Addr}{H H1 H2:Hp}{h h1 h2 h':Heap}{a x e:Addr}{o:HO}
theorem Un.any(u:Un fs ex H H1 h h1){b:Addr}{ob:Obj}(q:h.get? b=some ob)(n:H b=none)(hx:b ∉ ex):∃sl,h1.get? b=some { ob with slots:=sl }:=by
 by_cases hb:b∈fs
 ·exact u.slot b ob q n hb hx
 ·exact⟨ob.slots,u.keep b ob q n hb hx⟩
theorem Un.kept(k:∀b u,h.get? b=some u->h'.get? b=some u):Un fs ex H H h h':=
 ⟨λb ob q _ _ _=>k b ob q,λb ob q _ _ _=>⟨ob.slots,k b ob q⟩,λ_ _ _ n _=>n,λb ob q _=>⟨ob,k b ob q⟩,λ_ _ q=>q,λ_ _ _ q=>q,λ_ ps q=>⟨#[],by rw[q]; simp⟩⟩
theorem Un.refl:Un fs ex H H h h:=Un.kept λ_ _ q=>q
theorem Un.laid(k:∀b u,h.get? b=some u->h'.get? b=some u)(hp:h.objs.size<=a)(hn:H a=none):Un fs ex H (zS H a o) h h' where
 keep:=λb u q _ _ _=>k b u q
 slot:=λb u q _ _ _=>⟨u.slots,k b u q⟩
 free:=λb u q n _=>by rw[yK (xz (xi (Heap.lt_size q) hp))]; exact n
 there:=λb u q _=>⟨u,k b u q⟩
 uM:=λb xs q=>by rw[yK (uD q hn)]; exact q
 vx:=λb u xs q=>by rw[yK (uD q hn)]; exact q
 tD:=λb ps q=>⟨#[],by rw[yK (uD q hn),q]; simp⟩
theorem Un.write(mu:Yz (H x))(he:e=x\/H e=some (.own x))(k:∀b u,b≠e->h.get? b=some u->h'.get? b=some u)(heo:∃u,h'.get? e=some u):Un fs ex H (zS H x o) h h':=by
 have hx:∀b,H b=none->b≠x:=λb n z=>by subst z; rw[n]at mu; exact mu
 have hb:∀b,H b=none->b≠e:=λb n z=>by
  subst z;rcases he with r|r
  ·exact hx b n r
  ·rw[n]at r; cases r
 have hm:∀b u,H b=some u->¬ Yz (some u)->b≠x:=λb u q nm z=>by subst z; rw[q]at mu; exact nm mu
 refine⟨λb u q n _ _=>k b u (hb b n) q,λb u q n _ _=>⟨u.slots,k b u (hb b n) q⟩,λb u q n _=>by rw[yK (hx b n)]; exact n,λb u q _=>?_,
  λb xs q=>by rw[yK (hm b _ q λz=>z)]; exact q,λb u xs q=>by rw[yK (hm b _ q λz=>z)]; exact q,λb ps q=>⟨#[],by rw[yK (hm b _ q λz=>z),q]; simp⟩⟩
 by_cases hbe:b=e
 ·subst hbe; exact heo
 ·exact⟨u,k b u hbe q⟩
end
def Td(h:Heap)(H:Hp):List Addr:=(List.range h.objs.size).filter λa=>(H a).isSome
def pQ(h:Heap)(H:Hp):Heap:=W.hideAll h (Td h H)
theorem Nb(h:Heap)(H:Hp):(pQ h H).objs.size=h.objs.size:=W.hideAll_size _ _
theorem Na{h:Heap}{H:Hp}{b:Addr}{o:Obj}(e:h.get? b=some o)(n:H b=none):(pQ h H).get? b=some o:=
 W.hideAll_get _ e λhm=>by
  have q:(H b).isSome=true:=(Ln.mp hm).2;rw[n]at q; simp at q
theorem RP{h:Heap}{H:Hp}{b:Addr}{o:Obj}(e:(pQ h H).get? b=some o):h.get? b=some o/\H b=none:=by
 have e':h.get? b=some o:=W.of_hideAll (Td h H) e;refine⟨e',?_⟩;cases q:H b with
 |none=>rfl
 |some x=>
  have hm:b∈Td h H:=Ln.mpr ⟨Yg.mpr (Heap.lt_size e'),by simp[q]⟩;have z:(pQ h H).get? b=none:=W.hideAll_none (Td h H) hm;rw[z]at e; cases e
def HB(g h:Heap)(L:Addr):List (Addr×Obj):=(List.range h.objs.size).filterMap λa=>if a=L\/(g.get? a).isSome=true then none else(h.get? a).map λo=>(a,o)
def zn(g h:Heap)(L d:Addr):List (Addr×Obj):=(HB g h L).filter λp=>decide (p.1≠d)
structure Mod(K:W.Frag)(mg:Str->Option Value)(base:Heap):Prop where
 Z2:K.In base
 glob:base.Ns mainGlobals mg
 blt:∃mb,base.Ns builtinsNs mb/\∀x:Str,x ≠ "__name__" -> mb x=bootBuiltins x
 nolimit:base.NoLimit
structure Cx where
 prog:Program
 w:World
 K:W.Frag
 mg:Str->Option Value
 base:Heap
 A:Around
 N:List Str
 s₀:Shared
 H₀:Hp
 env:Env
 outer:List Env
 stack:List Env
 ex:List Addr
 fn:Str->Bool
 calm:Bool
 pn:List (Addr×Obj)
 xe:Value->Shared->Prop
def uu(l:List Env):List Addr:=l.filterMap (·.frame)
abbrev Cx.fs(X:Cx):List Addr:=uu X.outer
def pL(sc:Scope)(x:Str):Prop:=sc.names.lookup x=some .local\/sc.names.lookup x=some .cell\/sc.names.lookup x=some .free
def tH(sc:Scope)(x:Str):Prop:=sc.names.lookup x=some .local\/sc.names.lookup x=some .cell
def Go(env:Env)(h:Heap)(m:Str->Option Value)(x:Str)(u:Value):Prop:=
 (env.kindOf x=some .local/\m x=some u)\/((env.kindOf x=some .cell\/env.kindOf x=some .free)/\∃c,env.cells.lookup x=some c/\h.IsCell c (some u))
structure Cx.Ok(X:Cx):Prop where
 mod:Mod X.K X.mg X.base
 kind:X.env.scope.kind=.function
 glob:X.env.globals=mainGlobals
 blt:X.env.builtins=builtinsNs
 above:X.s₀.heap.objs.size<=X.env.locals
 inj:∀x y c,X.env.cells.lookup x=some c->X.env.cells.lookup y=some c->x=y
 has:∀x,(X.env.kindOf x=some .cell\/X.env.kindOf x=some .free)->∃c,X.env.cells.lookup x=some c
 kq:∀x c,X.fn x=true->X.env.cells.lookup x=some c->X.s₀.heap.objs.size<=c
 hd:X.calm=true->X.A.handled=none
 frames:X.A.frames=some X.stack
 Yu:X.stack=X.outer\/(X.stack=X.env::X.outer/\X.env.frame=some X.env.locals)
 Yr:∀b∈X.ex,b≠X.env.locals/\∀x c,X.env.cells.lookup x=some c->c≠b
 bs:∀b o,X.base.get? b=some o->X.s₀.heap.get? b=some o/\X.H₀ b=none
 qT:X.base.objs.size<=X.s₀.heap.objs.size
 Z3:∀b o,X.base.get? b=some o->b ∉ X.ex
 ku:∀b∈X.ex,b ∉ X.fs
 uj:X.s₀.heap.FunFrames X.base X.outer
 jJ:∀b∈X.fs,X.H₀ b=none
structure zB(X:Cx)(z0:List (Addr×Obj))(σ:List (Option V))(H:Hp)(s:Shared):Prop where
 ok:X.Ok
 os:s.os=X.s₀.os
 bare:AllBare s.gens
 base:Un X.fs X.ex X.H₀ H X.s₀.heap s.heap
 loc:∃m,s.heap.Ns X.env.locals m/\∀(i:Nat)(x:Str)(v:V),X.N[i]?=some x->σ[i]?=some (some v)->pL X.env.scope x->∃u,zd v u/\Go X.env s.heap m x u
 cell:∀x c,X.env.cells.lookup x=some c->∃v,s.heap.IsCell c v
 free:H X.env.locals=none
 tq:∀x c,X.env.cells.lookup x=some c->H c=none
 pin:∀p∈X.pn++z0,s.heap.get? p.1=some p.2/\H p.1=none/\p.1≠X.env.locals/\p.1 ∉ X.fs/\∀v,p.2.data≠.cell v
 zZ:xF X.prog X.w H s.heap
 len:σ.length=X.N.length
section
variable{X:Cx}{z0:List (Addr×Obj)}{σ:List (Option V)}{H H':Hp}{s:Shared}{h':Heap}
theorem Cx.Ok.Gh(ok:X.Ok){b:Addr}{o:Obj}(e:X.base.get? b=some o):b ∉ X.fs:=λhb=>by
 have:=(ok.uj.mem hb).1;rw[e]at this; cases this
theorem zB.bs(I:zB X z0 σ H s):∀b o,X.base.get? b=some o->s.heap.get? b=some o/\H b=none:=λb o e=>
 ⟨I.base.keep b o (I.ok.bs b o e).1 (I.ok.bs b o e).2 (I.ok.Gh e) (I.ok.Z3 b o e),I.base.free b o (I.ok.bs b o e).1 (I.ok.bs b o e).2 (I.ok.Z3 b o e)⟩
theorem zB.bk(I:zB X z0 σ H s):∀b o,X.base.get? b=some o->s.heap.get? b=some o:=λb o e=>(I.bs b o e).1
theorem zB.mod(I:zB X z0 σ H s):Mod X.K X.mg X.base:=I.ok.mod
theorem zB.xN(I:zB X z0 σ H s):X.K.In s.heap:=I.ok.mod.Z2.keeps I.bk
theorem zB.lt(I:zB X z0 σ H s):X.env.locals<s.heap.objs.size:=let ⟨_,hn,_⟩:=I.loc; hn.lt
theorem zB.sz(I:zB X z0 σ H s):X.s₀.heap.objs.size<=s.heap.objs.size:=wo I.ok.above (V6 I.lt)
theorem zB.ML(I:zB X z0 σ H s){a:Addr}(h:s.heap.objs.size<=a):a ∉ X.fs:=λhb=>by
 obtain⟨_,o,ho,_⟩:=I.ok.uj.mem hb;exact absurd (xi (Heap.lt_size ho) (wo I.sz h)) (wL _)
theorem zB.gF(I:zB X z0 σ H s):∀x c,X.env.cells.lookup x=some c->c≠X.env.locals:=λx c e z=>by
 obtain⟨v,o,ho,hd⟩:=I.cell x c e;obtain⟨m,⟨o',es,ep,ho',hd',_⟩,_⟩:=I.loc;rw[z,ho']at ho; cases ho; rw[hd']at hd; cases hd
theorem zB.uj(I:zB X z0 σ H s):s.heap.FunFrames X.base X.outer:=by
 have all:∀(l:List Env),(∀b∈uu l,b∈X.fs)->X.s₀.heap.FunFrames X.base l->s.heap.FunFrames X.base l:=by
  intro l
  induction l with
  |nil=>intro _ _; trivial
  |cons env r ih=>
   intro hs hl;obtain⟨hk,⟨L,o,hf,hn,ho,hd⟩,hr⟩:=hl;have hL:L∈X.fs:=hs L (by unfold uu; rw[Lj,hf]; exact yr);obtain⟨sl,e⟩:=I.base.slot L o ho (I.ok.jJ L hL) hL λz=>I.ok.ku L z hL
   exact⟨hk,⟨L,_,hf,hn,e,hd⟩,ih (λb hb=>hs b (by unfold uu; rw[Lj,hf]; exact xP _ hb)) hr⟩
 exact all X.outer (λ_ hb=>hb) I.ok.uj
theorem zB.stack(I:zB X z0 σ H s):s.heap.FunFrames X.base X.stack:=by
 rcases I.ok.Yu with e|⟨e,hf⟩
 ·rw[e]; exact I.uj
 ·rw[e];obtain⟨m,hn,_⟩:=I.loc;refine .cons (by rw[I.ok.kind]; decide) hf hn ?_ I.uj;exact Heap.get?_none_of_le (wo I.ok.qT I.ok.above)
theorem zB.Yv(I:zB X z0 σ H s):∀b∈uu X.stack,b∈X.env.locals::X.fs:=λb hb=>by
 rcases I.ok.Yu with e|⟨e,hf⟩
 ·rw[e]at hb; exact xP _ hb
 ·rw[e]at hb;unfold uu at hb;rw[Lj,hf]at hb;exact hb
theorem zB.MP(I:zB X z0 σ H s):∀b∈uu X.stack,H b=none:=λb hb=>by
 rcases yY.mp (I.Yv b hb)with e|hb
 ·rw[e]; exact I.free
 ·obtain⟨_,o,ho,_⟩:=I.ok.uj.mem hb;exact I.base.free b o ho (I.ok.jJ b hb) λz=>I.ok.ku b z hb
theorem zB.step{g':Array GenState}{t':Nat}{d':Drawn}{ch:List Addr}(I:zB X z0 σ H s)
  (hch:∀b∈ch,(b∈X.ex\/X.s₀.heap.objs.size<=b)/\b≠X.env.locals/\(∀x c,X.env.cells.lookup x=some c->c≠b)/\∀p∈X.pn++z0,p.1≠b)
  (keep:∀b o,b≠X.env.locals->b ∉ X.fs->b ∉ ch->s.heap.get? b=some o->H b=none->h'.get? b=some o)
  (slot:∀b o,b≠X.env.locals->b∈X.fs->b ∉ ch->s.heap.get? b=some o->H b=none->∃sl,h'.get? b=some { o with slots:=sl })(free:∀b o,b ∉ ch->s.heap.get? b=some o->H b=none->H' b=none)
  (there:∀b o,b ∉ ch->s.heap.get? b=some o->∃o',h'.get? b=some o')
  (uM:∀b xs,H b=some (.tup xs)->H' b=some (.tup xs))(vx:∀b o u,H b=some (.wC o u)->H' b=some (.wC o u))(tD:∀b ps,H b=some (.tbl ps)->∃more,H' b=some (.tbl (ps++more)))
  (ns:∀m,s.heap.Ns X.env.locals m->h'.Ns X.env.locals m)(zZ:xF X.prog X.w H' h')(hg:AllBare g') :
  zB X z0 σ H' { s with heap:=h',gens:=g',drawn:=d',toks:=t' }:=by
 have neL:∀b o,X.s₀.heap.get? b=some o->b≠X.env.locals:=λb o e=>xz (xi (Heap.lt_size e) I.ok.above)
 have neC:∀b o,X.s₀.heap.get? b=some o->b ∉ X.ex->b ∉ ch:=λb o e hx hb=>by
  rcases(hch b hb).1 with z|z
  ·exact hx z
  ·exact absurd (xi (Heap.lt_size e) z) (wL _)
 have cellK:∀x c,X.env.cells.lookup x=some c->∀v,s.heap.IsCell c v->h'.IsCell c v:=λx c e v ⟨o,ho,hd⟩=>by
  have nch:c ∉ ch:=λz=>(hch c z).2.2.1 x c e rfl
  by_cases hc:c∈X.fs
  ·obtain⟨sl,q⟩:=slot c o (I.gF x c e) hc nch ho (I.tq x c e);exact⟨_,q,hd⟩
  ·exact⟨o,keep c o (I.gF x c e) hc nch ho (I.tq x c e),hd⟩
 refine⟨I.ok,I.os,hg,⟨λb o e n hb hx=>?_,λb o e n hb hx=>?_,λb o e n hx=>?_,λb o e hx=>?_,λb xs e=>uM b xs (I.base.uM b xs e),λb o xs e=>vx b o xs (I.base.vx b o xs e),λb ps e=>?_⟩,?_,λx c e=>?_,?_,λx c e=>?_,λp hp=>?_,zZ,I.len⟩
 ·exact keep b o (neL b o e) hb (neC b o e hx) (I.base.keep b o e n hb hx) (I.base.free b o e n hx)
 ·obtain⟨sl,e1⟩:=I.base.slot b o e n hb hx;obtain⟨sl',e2⟩:=slot b _ (neL b o e) hb (neC b o e hx) e1 (I.base.free b o e n hx);exact⟨sl',e2⟩
 ·obtain⟨o',e1⟩:=I.base.there b o e hx;exact free b o' (neC b o e hx) e1 (I.base.free b o e n hx)
 ·obtain⟨o',e1⟩:=I.base.there b o e hx;exact there b o' (neC b o e hx) e1
 ·obtain⟨m1,e1⟩:=I.base.tD b ps e;obtain⟨m2,e2⟩:=tD b _ e1;exact⟨m1++m2,by rw[e2,Array.append_assoc]⟩
 ·obtain⟨m,hn,hl⟩:=I.loc;refine⟨m,ns m hn,λi x v e1 e2 e3=>?_⟩;obtain⟨u,r,l⟩:=hl i x v e1 e2 e3;refine⟨u,r,?_⟩;rcases l with l|⟨k,c,e,z⟩
  ·exact .inl l
  ·exact .inr ⟨k,c,e,cellK x c e _ z⟩
 ·obtain⟨v,z⟩:=I.cell x c e;exact⟨v,cellK x c e v z⟩
 ·obtain⟨m,⟨o,_,_,ho,_⟩,_⟩:=I.loc;exact free _ o (λz=>(hch _ z).2.1 rfl) ho I.free
 ·obtain⟨v,o,ho,hd⟩:=I.cell x c e;exact free c o (λz=>(hch c z).2.2.1 x c e rfl) ho (I.tq x c e)
 ·obtain⟨e,n,ne,nf,d⟩:=I.pin p hp;have nch:p.1 ∉ ch:=λz=>(hch p.1 z).2.2.2 p hp rfl
  exact⟨keep p.1 p.2 ne nf nch e n,free p.1 p.2 nch e n,ne,nf,d⟩
theorem zB.un{t':Nat}(I:zB X z0 σ H s)(u:Un X.fs [] H H' s.heap h')(zZ:xF X.prog X.w H' h'):zB X z0 σ H' { s with heap:=h',toks:=t' }:=by
 obtain⟨m,⟨o,es,ep,ho,r⟩,_⟩:=id I.loc;obtain⟨sl,hL⟩:=u.any ho I.free (by simp)
 exact I.step (g':=s.gens) (d':=s.drawn) (ch:=[]) (λ_ z=>nomatch z) (λb o _ hb _ e n=>u.keep b o e n hb (by simp)) (λb o _ hb _ e n=>u.slot b o e n hb (by simp)) (λb o _ e n=>u.free b o e n (by simp)) (λb o _ e=>u.there b o e (by simp)) u.uM u.vx u.tD (λm' hm=>by
  obtain⟨o',es',ep',ho',r'⟩:=hm;rw[ho]at ho'; cases ho';exact⟨_,es',ep',hL,r'⟩) zZ I.bare
theorem zB.call{g':Array GenState}{t':Nat}{d':Drawn}{ch:List Addr}(I:zB X z0 σ H s)(u:Un (uu X.stack) ch H H' s.heap h')(zZ:xF X.prog X.w H' h')(hg:AllBare g')
  (hch:∀b∈ch,(b∈X.ex\/X.s₀.heap.objs.size<=b)/\b≠X.env.locals/\(∀x c,X.env.cells.lookup x=some c->c≠b)/\∀p∈X.pn++z0,p.1≠b) :
  zB X z0 σ H' { s with heap:=h',gens:=g',drawn:=d',toks:=t' }:=by
 obtain⟨m,⟨o,es,ep,ho,r⟩,_⟩:=id I.loc;obtain⟨sl,hL⟩:=u.any ho I.free λz=>(hch _ z).2.1 rfl
 exact I.step (ch:=ch) hch (λb o hL hb hc e n=>u.keep b o e n (λz=>(yY.mp (I.Yv b z)).elim hL hb) hc) (λb o _ _ hc e n=>u.any e n hc) (λb o hc e n=>u.free b o e n hc) (λb o hc e=>u.there b o e hc) u.uM u.vx u.tD (λm' hm=>by
  obtain⟨o',es',ep',ho',r'⟩:=hm;rw[ho]at ho'; cases ho';exact⟨_,es',ep',hL,r'⟩) zZ hg
theorem zB.turned{t':Nat}{it:Addr}(I:zB X z0 σ H s)(k:∀b o,b≠it->s.heap.get? b=some o->h'.get? b=some o)(hn:H it=none)(hL:it≠X.env.locals)
  (h1:it∈X.ex\/X.s₀.heap.objs.size<=it)(h2:∀x c,X.env.cells.lookup x=some c->c≠it)(h3:∀p∈X.pn++z0,p.1≠it):zB X z0 σ H { s with heap:=h',toks:=t' }:=by
 have nit:∀b u,H b=some u->b≠it:=λb u e z=>by rw[z,hn]at e; cases e
 refine I.step (g':=s.gens) (d':=s.drawn) (ch:=[it]) (λb hb=>?_) (λb o _ _ hc e _=>k b o (λz=>hc (by simp[z])) e) (λb o _ _ hc e _=>⟨o.slots,k b o (λz=>hc (by simp[z])) e⟩) (λ_ _ _ _ n=>n)
  (λb o hc e=>⟨o,k b o (λz=>hc (by simp[z])) e⟩) (λ_ _ e=>e) (λ_ _ _ e=>e) (λb ps e=>⟨#[],by rw[e]; simp⟩) (λm hm=>?_) (λb u e=>?_) I.bare
 ·have e:b=it:=by simpa using hb
  subst e;exact⟨h1,hL,h2,h3⟩
 ·obtain⟨o,es,ep,ho,r⟩:=hm;exact⟨o,es,ep,k _ o (jD hL) ho,r⟩
 ·refine(I.zZ b u e).gI (λc v hc q=>k c v ?_ q) (λ_ q=>q) λ_ _ q=>q
  rcases hc with z|z
  ·rw[z]; exact nit b u e
  ·exact nit c _ z
theorem zB.tok(I:zB X z0 σ H s)(t:Nat):zB X z0 σ H { s with toks:=t }:=I.un (h':=s.heap) (t':=t) Un.refl I.zZ
theorem zB.kept{t':Nat}(I:zB X z0 σ H s)(k:∀b u,s.heap.get? b=some u->h'.get? b=some u):zB X z0 σ H { s with heap:=h',toks:=t' }:=I.un (Un.kept k) (I.zZ.kept k)
theorem zB.laid{a:Addr}{o:HO}{t':Nat}(I:zB X z0 σ H s)(k:∀b u,s.heap.get? b=some u->h'.get? b=some u)(hp:s.heap.objs.size<=a)(new:xG X.prog X.w (zS H a o) h' a o) :
  zB X z0 σ (zS H a o) { s with heap:=h',toks:=t' }:=I.un (Un.laid k hp (I.zZ.fresh hp)) (I.zZ.laid k hp new)
theorem zB.write{x e:Addr}{o:HO}{t':Nat}(I:zB X z0 σ H s)(mu:Yz (H x))(he:e=x\/H e=some (.own x))(k:∀b u,b≠e->s.heap.get? b=some u->h'.get? b=some u)(heo:∃u,h'.get? e=some u)
  (new:xG X.prog X.w (zS H x o) h' x o):zB X z0 σ (zS H x o) { s with heap:=h',toks:=t' }:=I.un (Un.write mu he k heo) (I.zZ.write mu he k heo new)
theorem zB.weak{σ':List (Option V)}(I:zB X z0 σ H s)(hl:σ'.length=σ.length)(w:∀(i:Nat) v,σ'[i]?=some (some v)->σ[i]?=some (some v)):zB X z0 σ' H s:=
 ⟨I.ok,I.os,I.bare,I.base,let ⟨m,hn,hl'⟩:=I.loc; ⟨m,hn,λi x v e1 e2 e3=>hl' i x v e1 (w i v e2) e3⟩,I.cell,I.free,I.tq,I.pin,I.zZ,hl.trans I.len⟩
theorem zB.Ys{pins':List (Addr×Obj)}(I:zB X z0 σ H s)(h:∀p∈pins',s.heap.get? p.1=some p.2/\H p.1=none/\p.1≠X.env.locals/\p.1 ∉ X.fs/\∀v,p.2.data≠.cell v):zB X pins' σ H s:=
 ⟨I.ok,I.os,I.bare,I.base,I.loc,I.cell,I.free,I.tq,λp hp=>(gA.mp hp).elim (λz=>I.pin p (Lm _ z)) (h p),I.zZ,I.len⟩
theorem FV{N:List Str}(hN:N.Nodup){i j:Nat}{x:Str}(a:N[i]?=some x)(b:N[j]?=some x):i=j:=by
 obtain⟨h1,e1⟩:=yD.mp a;obtain⟨h2,e2⟩:=yD.mp b;exact(List.getElem_inj hN).mp (e1.trans e2.symm)
theorem Ee{M:Model}{A:Around}{E:Value->Shared->Prop}{i:Nat}{x:Str}{v:V}{u:Value}{Q:Unit->Shared->Prop}(I:zB X z0 σ H s)(hN:X.N.Nodup)(hi:X.N[i]?=some x)(hx:tH X.env.scope x)(r:zd v u)
  (h:∀s',zB X z0 (σ.set i (some v)) H s'->(∃a,Heap.SameBut a s.heap s'.heap/\(a=X.env.locals\/X.env.cells.lookup x=some a))->Q () s')(hf:X.fn x=true\/X.env.scope.names.lookup x=some .local:=by first|exact .inl rfl|exact .inr rfl|assumption):wpAny M A (storeName X.env x u) Q E s:=by
 obtain⟨m,hn,hl⟩:=id I.loc;have hcls:(X.env.scope.kind == .class||(X.env.scope.kind == .module&&X.env.locals != X.env.globals))=false:=by rw[I.ok.kind]; rfl
 have hiσ:i<σ.length:=by rw[I.len]; exact(yD.mp hi).1
 have gF:=I.gF
 have tracked:∀{a:Addr}{h':Heap},(∃o,s.heap.get? a=some o/\H a=none)->Heap.SameBut a s.heap h'->xF X.prog X.w H h':=λ{a h'} ha hs b ob e=>by
  obtain⟨_,_,hfree⟩:=ha;refine(I.zZ b ob e).gI (λc w' hc q=>(hs.2 c ?_).trans q) (λ_ q=>q) λ_ _ q=>q
  rintro rfl;rcases hc with rfl|hc
  ·rw[hfree]at e; cases e
  ·rw[hfree]at hc; cases hc
 rcases hx with hk|hk
 ·refine wpAny_storeName_local hk hn (λh' hn' hs=>?_) hcls;obtain⟨oL,_,_,hoL,_⟩:=id hn;refine h _ ⟨I.ok,I.os,I.bare,⟨λb o e n hb hx=>?_,λb o e n hb hx=>?_,I.base.free,λb o e hx=>?_,I.base.uM,I.base.vx,I.base.tD⟩,⟨_,hn',λj y v' e1 e2 e3=>?_⟩,λy c e=>?_,I.free,I.tq,λp hp=>?_,tracked ⟨oL,hoL,I.free⟩ hs,by simpa using I.len⟩ ⟨_,hs,.inl rfl⟩
  ·exact(hs.2 b (xz (xi (Heap.lt_size e) I.ok.above))).trans (I.base.keep b o e n hb hx)
  ·obtain⟨sl,e1⟩:=I.base.slot b o e n hb hx;exact⟨sl,(hs.2 b (xz (xi (Heap.lt_size e) I.ok.above))).trans e1⟩
  ·obtain⟨o',e1⟩:=I.base.there b o e hx;exact⟨o',(hs.2 b (xz (xi (Heap.lt_size e) I.ok.above))).trans e1⟩
  ·by_cases hj:j=i
   ·subst hj;rw[hi]at e1; cases e1;rw[GS hiσ]at e2;cases e2;exact⟨u,r,.inl ⟨hk,by simp⟩⟩
   ·rw[GR (jD hj)]at e2;obtain⟨u',r',q⟩:=hl j y v' e1 e2 e3;refine⟨u',r',?_⟩;rcases q with⟨k,e⟩|⟨k,c,e,z⟩
    ·refine .inl ⟨k,?_⟩;have:y≠x:=λe=>hj (FV hN e1 (e▸hi))
     simp[this,e]
    ·exact .inr ⟨k,c,e,z.sameBut hs (gF y c e)⟩
  ·obtain⟨w',z⟩:=I.cell y c e;exact⟨w',z.sameBut hs (gF y c e)⟩
  ·obtain⟨e,n,ne,nf,d⟩:=I.pin p hp;exact⟨(hs.2 p.1 ne).trans e,n,ne,nf,d⟩
 ·have hfn:X.fn x=true:=by
   rcases hf with z|z
   ·exact z
   ·rw[z]at hk; cases hk
  obtain⟨c,hc⟩:=I.ok.has x (.inl hk);obtain⟨w',z⟩:=I.cell x c hc;refine wpAny_storeName_cell I.ok.kind hk hc z (λh' hc' hs=>?_);obtain⟨oc,hoc,hocd⟩:=id z;refine h { s with heap:=h' } ⟨I.ok,I.os,I.bare,⟨λb o e n hb hx=>?_,λb o e n hb hx=>?_,I.base.free,λb o e hx=>?_,I.base.uM,I.base.vx,I.base.tD⟩,⟨m,hn.sameBut hs (jD (gF x c hc)),λj y v' e1 e2 e3=>?_⟩,λy c' e=>?_,I.free,I.tq,λp hp=>?_,tracked ⟨oc,hoc,I.tq x c hc⟩ hs,by simpa using I.len⟩ ⟨c,hs,.inr hc⟩
  ·exact(hs.2 b (xz (xi (Heap.lt_size e) (I.ok.kq x c hfn hc)))).trans (I.base.keep b o e n hb hx)
  ·obtain⟨sl,e1⟩:=I.base.slot b o e n hb hx;exact⟨sl,(hs.2 b (xz (xi (Heap.lt_size e) (I.ok.kq x c hfn hc)))).trans e1⟩
  ·obtain⟨o',e1⟩:=I.base.there b o e hx;exact⟨o',(hs.2 b (xz (xi (Heap.lt_size e) (I.ok.kq x c hfn hc)))).trans e1⟩
  ·by_cases hj:j=i
   ·subst hj;rw[hi]at e1; cases e1;rw[GS hiσ]at e2;cases e2;exact⟨u,r,.inr ⟨.inl hk,c,hc,hc'⟩⟩
   ·rw[GR (jD hj)]at e2;obtain⟨u',r',q⟩:=hl j y v' e1 e2 e3;refine⟨u',r',?_⟩;rcases q with q|⟨k,c',e,z'⟩
    ·exact .inl q
    ·refine .inr ⟨k,c',e,z'.sameBut hs ?_⟩;rintro rfl;exact hj (FV hN e1 (I.ok.inj _ _ _ e hc▸hi))
  ·by_cases hcc:c'=c
   ·subst hcc; exact⟨_,hc'⟩
   ·obtain⟨w2,z2⟩:=I.cell y c' e;exact⟨w2,z2.sameBut hs hcc⟩
  ·obtain⟨e,n,ne,nf,d⟩:=I.pin p hp;refine⟨(hs.2 p.1 ?_).trans e,n,ne,nf,d⟩;intro q;rw[q,hoc]at e;have q':oc=p.2:=ui e;exact d w' (by rw[<-q']; exact hocd)
theorem Oq{M:Model}{A:Around}{E:Value->Shared->Prop}{i:Nat}{x:Str}{v:V}{u:Value}{Q:Unit->Shared->Prop}(I:zB X z0 σ H s)(hN:X.N.Nodup)(hi:X.N[i]?=some x)(hx:tH X.env.scope x)(r:zd v u)
  (h:∀s',zB X z0 (σ.set i (some v)) H s'->Q () s')(hf:X.fn x=true\/X.env.scope.names.lookup x=some .local:=by first|exact .inl rfl|exact .inr rfl|assumption):wpAny M A (storeName X.env x u) Q E s:=
 Ee I hN hi hx r (λs' I' _=>h s' I') hf
theorem zB.Q7{s':Shared}{ch:List Addr}(I:zB X z0 σ H s)(ho:s'.os=s.os)(u:Un (uu X.stack) ch H H' s.heap s'.heap)(zZ:xF X.prog X.w H' s'.heap)(hg:AllBare s'.gens)
  (hch:∀b∈ch,(b∈X.ex\/X.s₀.heap.objs.size<=b)/\b≠X.env.locals/\(∀x c,X.env.cells.lookup x=some c->c≠b)/\∀p∈X.pn++z0,p.1≠b):zB X z0 σ H' s':=by
 obtain⟨h',g',d',t',o'⟩:=s';have e:o'=s.os:=ho;subst e;exact I.call (g':=g') (t':=t') (d':=d') u zZ hg hch
end
abbrev XK:=Value->Option Addr->Hp->Prop
abbrev St:=List (Option V)
abbrev VK:=V->Hp->Prop
abbrev TE:=St->Hp->VK->Prop
abbrev TT:=St->Hp->(Bool->Hp->Prop)->Prop
abbrev TA:=St->Hp->(List V->Hp->Prop)->Prop
structure vj where
 nx:St->Hp->Prop
 rt:VK
 bk:St->Hp->Prop:=λ_ _=>False
 ct:St->Hp->Prop:=λ_ _=>False
abbrev TS:=vj->St->Hp->Prop
def EP(X:Cx)(z0:List (Addr×Obj))(σ:St)(Q:VK)(u:Value)(s':Shared):Prop:=∃v H',zB X z0 σ H' s'/\zd v u/\Q v H'
def TP(X:Cx)(z0:List (Addr×Obj))(σ:St)(Q:Bool->Hp->Prop)(b:Bool)(s':Shared):Prop:=∃H',zB X z0 σ H' s'/\Q b H'
def AP(X:Cx)(z0:List (Addr×Obj))(σ:St)(Q:List V->Hp->Prop)(us:List Value)(s':Shared):Prop:=∃vs H',zB X z0 σ H' s'/\zc vs us/\Q vs H'
def SP(X:Cx)(z0:List (Addr×Obj))(D:vj)(f:Flow)(s':Shared):Prop:=
 match f with
 |.next=>∃σ' H',zB X z0 σ' H' s'/\D.nx σ' H'
 |.brk=>∃σ' H',zB X z0 σ' H' s'/\D.bk σ' H'
 |.cont=>∃σ' H',zB X z0 σ' H' s'/\D.ct σ' H'
 |.ret u=>∃v σ' H',zB X z0 σ' H' s'/\zd v u/\D.rt v H'
def PE(X:Cx)(e:Expr)(t:TE):Prop:=
 ∀(z0:List (Addr×Obj)) (s:Shared) (σ:St) (H:Hp) (Q:VK),zB X z0 σ H s->t σ H Q->wpAny (model X.prog X.w) X.A (eval e X.env) (EP X z0 σ Q) X.xe s
def PT(X:Cx)(e:Expr)(t:TT):Prop:=
 ∀(z0:List (Addr×Obj)) (s:Shared) (σ:St) (H:Hp) (Q:Bool->Hp->Prop),zB X z0 σ H s->t σ H Q->wpAny (model X.prog X.w) X.A (isTrue e X.env (eval e X.env)) (TP X z0 σ Q) X.xe s
def PW(X:Cx)(e:Expr)(t:TT):Prop:=
 ∀(whole:Sem Value)(z0:List (Addr×Obj)) (s:Shared) (σ:St) (H:Hp) (Q:Bool->Hp->Prop),zB X z0 σ H s->t σ H Q->wpAny (model X.prog X.w) X.A (isTrue e X.env whole) (TP X z0 σ Q) X.xe s
theorem PW.pt{X:Cx}{e:Expr}{t:TT}(h:PW X e t):PT X e t:=h _
def PA(X:Cx)(es:List Expr)(t:TA):Prop:=
 ∀(pos:Pos)(z0:List (Addr×Obj)) (s:Shared) (σ:St) (H:Hp) (Q:List V->Hp->Prop),zB X z0 σ H s->t σ H Q->wpAny (model X.prog X.w) X.A (spliced (backTo pos (starEach es X.env))) (AP X z0 σ Q) X.xe s
def PS(X:Cx)(st:Stmt)(t:TS):Prop:=
 ∀(z0:List (Addr×Obj)) (s:Shared) (σ:St) (H:Hp) (D:vj),zB X z0 σ H s->t D σ H->wpAny (model X.prog X.w) X.A (exec st X.env) (SP X z0 D) X.xe s
def vW(X:Cx)(st:List Stmt)(t:TS):Prop:=
 ∀(z0:List (Addr×Obj)) (s:Shared) (σ:St) (H:Hp) (D:vj),zB X z0 σ H s->t D σ H->wpAny (model X.prog X.w) X.A (execs st X.env) (SP X z0 D) X.xe s
theorem ze{α:Type}{t:Sem α}{Q Q':α->Shared->Prop}{M:Model}{A:Around}{E:Value->Shared->Prop}{s:Shared}(h:wpAny M A t Q E s)(hQ:∀a s,Q a s->Q' a s):wpAny M A t Q' E s:=uK h hQ λ_ _ x=>x
section
variable{X:Cx}
def Wq(i:Nat):TE:=λσ H Q=>∃v,σ[i]?=some (some v)/\Q v H
def tC(v:V):TE:=λ_ H Q=>Q v H
theorem Y9{i:Nat}{x:Str}{pos:Pos}(hN:X.N[i]?=some x)(hv:pL X.env.scope x)(hd:(x==("__debug__" : Str))=false:=by decide)(hcd:(x==("__classdict__" : Str))=false:=by decide):PE X (.Name x pos) (Wq i):=by
 intro z0 s σ H Q I h;obtain⟨v,e,h⟩:=h;obtain⟨m,hn,hl⟩:=I.loc;obtain⟨u,r,l⟩:=hl i x v hN e hv;have fin:EP X z0 σ Q u s:=⟨v,H,I,r,h⟩;rcases l with⟨hk,hm⟩|⟨hk,c,hc,hcell⟩
 ·exact wpAny_Name (wpAny_loadName_local I.ok.kind hk hn hm fin) hd
 ·rcases hk with hk|hk
  ·exact wpAny_Name (wpAny_loadName_cell I.ok.kind hk hc hcell fin) hd
  ·exact wpAny_Name (wpAny_loadName_free I.ok.kind hk hc hcell fin hcd) hd
theorem C8{i j pos}:PE X (.Constant (.int i) j pos) (tC (.int i)):=λ_ _ _ H _ I h=>wpAny_Constant_int ⟨.int i,H,I.tok _,⟨_,rfl⟩,h⟩
theorem AM{b j pos}:PE X (.Constant (.bool b) j pos) (tC (.bl b)):=λ_ _ _ H _ I h=>Constant_bool ⟨.bl b,H,I,rfl,h⟩
theorem Ag{j pos}:PE X (.Constant .none j pos) (tC .zF):=λ_ _ _ H _ I h=>Constant_none ⟨.zF,H,I,rfl,h⟩
theorem Xa{x j pos}:PE X (.Constant (.str x) j pos) (tC (.str x)):=λ_ _ _ H _ I h=>Calls.Constant_str ⟨.str x,H,I.tok _,⟨_,rfl⟩,h⟩
def Gl(X:Cx)(x:Str):Prop:=X.env.kindOf x=some .globalImplicit
theorem Ut{E:Value->Shared->Prop}{z0:List (Addr×Obj)}{s:Shared}{σ:St}{H:Hp}{x:Str}{u:Value}{pos:Pos}{Q:Value->Shared->Prop}(I:zB X z0 σ H s)(hg:Gl X x)(hm:X.mg x=some u)(h:Q u s)
  (hd:(x==("__debug__" : Str))=false:=by decide):wpAny (model X.prog X.w) X.A (eval (.Name x pos) X.env) Q E s:=
 GI I.ok.kind hg (Calls.loadGlobal_global (by rw[I.ok.glob]; exact I.mod.glob.keeps I.bk) hm h) hd
theorem Zz{E:Value->Shared->Prop}{z0:List (Addr×Obj)}{s:Shared}{σ:St}{H:Hp}{x:Str}{u:Value}{pos:Pos}{Q:Value->Shared->Prop}(I:zB X z0 σ H s)(hg:Gl X x)(hm:X.mg x=none)(hv:bootBuiltins x=some u)(h:Q u s)
  (hn:x ≠ "__name__" := by decide)(hd:(x==("__debug__" : Str))=false:=by decide):wpAny (model X.prog X.w) X.A (eval (.Name x pos) X.env) Q E s:=by
 obtain⟨mb,h1,h2⟩:=I.mod.blt;exact GI I.ok.kind hg (Calls.loadGlobal_builtin (by rw[I.ok.glob]; exact I.mod.glob.keeps I.bk) hm (by rw[I.ok.blt]; exact h1.keeps I.bk) ((h2 x hn).trans hv) h) hd
theorem Ac{x:Str}{v:V}{u:Value}{pos:Pos}(hg:Gl X x)(hm:X.mg x=some u)(r:zd v u)(hd:(x==("__debug__" : Str))=false:=by decide):PE X (.Name x pos) (tC v):=
 λ_ _ _ H _ I h=>Ut I hg hm ⟨v,H,I,r,h⟩ hd
theorem AN{x:Str}{v:V}{u:Value}{pos:Pos}(hg:Gl X x)(hm:X.mg x=none)(hv:bootBuiltins x=some u)(r:zd v u)(hn:x ≠ "__name__" := by decide)(hd:(x==("__debug__" : Str))=false:=by decide):PE X (.Name x pos) (tC v):=
 λ_ _ _ H _ I h=>Zz I hg hm hv ⟨v,H,I,r,h⟩ hn hd
variable{a b:Expr}{ta tb:TE}{pos:Pos}
def tB(t:TE):TT:=λσ H Q=>t σ H λx H1=>∃c,x=.bl c/\Q c H1
theorem aN{e:Expr}{t:TE}(h:PE X e t)(he:∀whole,isTrue e X.env whole=(do let v <-whole; standAt e.pos; holding [v] (truthy v)):=by intro _; rfl):PT X e (tB t):=by
 intro z0 s σ H Q I hw;refine isTrue_plain (ze (h z0 s σ H _ I hw) λv s1 ⟨x,H1,I1,r1,q1⟩=>?_) (he _);obtain⟨d,rfl,q⟩:=q1;cases r1;exact Yq ⟨H1,I1,q⟩
variable{tA tB':TT}{zn:List Expr}
def fK(t u:TT):TT:=λσ H Q=>t σ H λc H1=>if c=true then Q true H1 else u σ H1 Q
def fH(t:TT):TT:=λσ H Q=>t σ H λc H1=>Q (!c) H1
theorem aY(ha:PT X a tA):PW X (.BoolOp .Or [a] pos) tA:=by
 intro wh z0 s σ H Q I h;refine isTrue_or (ze (ha z0 s σ H Q I h) λc s1 e=>?_);cases c with
 |false=>exact isTrue_or_nil e
 |true=>exact e
theorem aX(ha:PT X a tA)(hb:PW X (.BoolOp .Or (b::zn) pos) tB'):PW X (.BoolOp .Or (a::b::zn) pos) (fK tA tB'):=by
 intro wh z0 s σ H Q I h;refine isTrue_or (ze (ha z0 s σ H _ I h) λc s1 ⟨H1,I1,q1⟩=>?_);cases c with
 |true=>exact⟨H1,I1,q1⟩
 |false=>exact hb wh z0 s1 σ H1 Q I1 q1
theorem aM(ha:PT X a tA):PT X (.UnaryOp .Not a pos) (fH tA):=by
 intro z0 s σ H Q I h;exact isTrue_not (ha z0 s σ H (λc H1=>Q (!c) H1) I h)
def eV(ta tb:TE):TE:=λσ H Q=>ta σ H λx H1=>∃c,x=.bl c/\if c=true then tb σ H1 Q else Q (.bl false) H1
def fL(ta tb:TE):TE:=λσ H Q=>ta σ H λx H1=>∃c,x=.bl c/\if c=true then Q (.bl true) H1 else tb σ H1 Q
def fJ(ta:TE):TE:=λσ H Q=>ta σ H λx H1=>∃c,x=.bl c/\Q (.bl (!c)) H1
theorem Ai{op}{t:TE}(h:PE X a t):PE X (.BoolOp op [a] pos) t:=λz0 s σ H Q I hw=>BoolOp_one (h z0 s σ H Q I hw)
theorem AL(ha:PE X a ta)(hb:PE X (.BoolOp .And (b::zn) pos) tb):PE X (.BoolOp .And (a::b::zn) pos) (eV ta tb):=by
 intro z0 s σ H Q I h;refine BoolOp_and (ze (ha z0 s σ H _ I h) λv s1 ⟨x,H1,I1,r1,q1⟩=>?_);obtain⟨c,rfl,q1⟩:=q1;cases r1;refine Yq ?_;cases c with
 |true=>exact hb z0 s1 σ H1 Q I1 q1
 |false=>exact⟨.bl false,H1,I1,rfl,q1⟩
theorem Aj(ha:PE X a ta)(hb:PE X (.BoolOp .Or (b::zn) pos) tb):PE X (.BoolOp .Or (a::b::zn) pos) (fL ta tb):=by
 intro z0 s σ H Q I h;refine BoolOp_or (ze (ha z0 s σ H _ I h) λv s1 ⟨x,H1,I1,r1,q1⟩=>?_);obtain⟨c,rfl,q1⟩:=q1;cases r1;refine Yq ?_;cases c with
 |false=>exact hb z0 s1 σ H1 Q I1 q1
 |true=>exact⟨.bl true,H1,I1,rfl,q1⟩
theorem Ah(ha:PE X a ta):PE X (.UnaryOp .Not a pos) (fJ ta):=by
 intro z0 s σ H Q I h;refine UnaryOp_ (ze (ha z0 s σ H _ I h) λv s1 ⟨x,H1,I1,r1,q1⟩=>?_);obtain⟨c,rfl,q1⟩:=q1;cases r1;exact not_of (Yq ⟨.bl (!c),H1,I1,rfl,q1⟩)
def fA(t:TT)(ta tb:TE):TE:=λσ H Q=>t σ H λc H1=>if c=true then ta σ H1 Q else tb σ H1 Q
theorem Ad{c:Expr}(hc:PT X c tA)(ha:PE X a ta)(hb:PE X b tb):PE X (.IfExp c a b pos) (fA tA ta tb):=by
 intro z0 s σ H Q I h;refine wpAny_IfExp (ze (hc z0 s σ H _ I h) λd s1 ⟨H1,I1,q1⟩=>?_);cases d with
 |true=>exact ha z0 s1 σ H1 Q I1 q1
 |false=>exact hb z0 s1 σ H1 Q I1 q1
end
def yI(K:W.Frag)(H:Hp)(a:Addr)(xs:List V):Prop:=
 Rd H a (.lst xs) \/
  ∃(o:Obj) (its:Array Value) (n:Nat),K.lookup a=some o/\o.cls=.type "list" /\ o.dict=none/\o.data=.seq its n/\its.size<=sizeLine/\zc xs its.toList
def ye(K:W.Frag)(H:Hp)(a:Addr)(xs:List V):Prop:=
 Rd H a (.tup xs) \/
  ∃(o:Obj) (its:Array Value) (n:Nat),K.lookup a=some o/\o.cls=.type "tuple" /\ o.data=.seq its n/\its.size<=sizeLine/\zc xs its.toList
def Gz:Value->Option V
 |.none=>some .zF
 |.bool b=>some (.bl b)
 |.int i _=>some (.int i)
 |.str x _=>some (.str x)
 |.bytes b _=>some (.byt b)
 |.float b _=>some (.gH b)
 |.ref a=>some (.ref a)
 |.type n=>some (.ty n)
 |_=>none
theorem zd.abs{x:V}{u:Value}(r:zd x u):Gz u=some x:=by
 cases x with
 |zF=>cases r; rfl
 |bl _=>cases r; rfl
 |int _=>obtain⟨t,rfl⟩:=r; rfl
 |str _=>obtain⟨t,rfl⟩:=r; rfl
 |byt _=>obtain⟨t,rfl⟩:=r; rfl
 |gH _=>obtain⟨t,rfl⟩:=r; rfl
 |ref _=>cases r; rfl
 |ty _=>cases r; rfl
theorem zd.inj{x y:V}{u:Value}(r:zd x u)(q:zd y u):x=y:=ui (r.abs.symm.trans q.abs)
theorem zc.inj:∀{xs ys:List V}{us:List Value},zc xs us->zc ys us->xs=ys
 |_,_,_,.nil,.nil=>rfl
 |_,_,_,.cons r t,.cons r' t'=>by rw[r.inj r',zc.inj t t']
section
variable{X:Cx}{z0:List (Addr×Obj)}{σ:St}{H:Hp}{s:Shared}{a:Addr}{xs ys:List V}
theorem yI.of{K:W.Frag}(h:H a=some (.lst xs)):yI K H a xs:=.inl (.inl h)
theorem ye.of{K:W.Frag}(h:H a=some (.tup xs)):ye K H a xs:=.inl (.inl h)
theorem zB.list(I:zB X z0 σ H s)(h:yI X.K H a xs):∃its:List Value,zc xs its/\PlainL s.heap a its.toArray/\xs.length<=sizeLine:=by
 rcases h with h|⟨o,its,n,hk,hc,hd,hs,hz,r⟩
 ·obtain⟨z,its,n,r,e⟩:=h.ok I.zZ;exact⟨its,r,⟨_,n,e,rfl,rfl,rfl⟩,z⟩
 ·refine⟨its.toList,r,⟨o,n,I.xN a o hk,hc,hd,by simpa using hs⟩,?_⟩;have e:=r.length;simp only[j7]at e;omega
theorem zB.tuple(I:zB X z0 σ H s)(h:ye X.K H a xs):∃its:List Value,zc xs its/\IsTup s.heap a its.toArray/\xs.length<=sizeLine:=by
 rcases h with h|⟨o,its,n,hk,hc,hs,hz,r⟩
 ·obtain⟨z,its,r,p⟩:=h.ok I.zZ;exact⟨its,r,p,z⟩
 ·refine⟨its.toList,r,⟨o,I.xN a o hk,hc,n,by simpa using hs⟩,?_⟩;have e:=r.length;simp only[j7]at e;omega
theorem zB.VH(I:zB X z0 σ H s)(h:yI X.K H a xs)(h':yI X.K H a ys):xs=ys:=by
 obtain⟨its,r,⟨o,n,e,_,_,d⟩,_⟩:=I.list h;obtain⟨its',r',⟨o',n',e',_,_,d'⟩,_⟩:=I.list h';rw[e]at e'; cases e';rw[d]at d';injection d' with d1 _
 have:its=its':=by simpa using congrArg Array.toList d1
 subst this;exact r.inj r'
theorem zB.QK(I:zB X z0 σ H s)(h:ye X.K H a xs)(h':ye X.K H a ys):xs=ys:=by
 obtain⟨its,r,⟨o,e,_,n,d⟩,_⟩:=I.tuple h;obtain⟨its',r',⟨o',e',_,n',d'⟩,_⟩:=I.tuple h';rw[e]at e'; cases e';rw[d]at d';injection d' with d1 _
 have:its=its':=by simpa using congrArg Array.toList d1
 subst this;exact r.inj r'
end
abbrev Cx.qV(X:Cx)(E:Value->Shared->Prop):Cx:={ X with xe:=E }
abbrev Cx.t9(X:Cx):Cx:=X.qV λ_ _=>False
theorem Cx.Ok.qV{X:Cx}(ok:X.Ok)(E:Value->Shared->Prop):(X.qV E).Ok:=
 ⟨ok.mod,ok.kind,ok.glob,ok.blt,ok.above,ok.inj,ok.has,ok.kq,ok.hd,ok.frames,ok.Yu,ok.Yr,ok.bs,ok.qT,ok.Z3,ok.ku,ok.uj,ok.jJ⟩
theorem Cx.Ok.jL{X:Cx}{E:Value->Shared->Prop}(ok:(X.qV E).Ok):X.Ok:=
 ⟨ok.mod,ok.kind,ok.glob,ok.blt,ok.above,ok.inj,ok.has,ok.kq,ok.hd,ok.frames,ok.Yu,ok.Yr,ok.bs,ok.qT,ok.Z3,ok.ku,ok.uj,ok.jJ⟩
section
variable{X:Cx}{z0:List (Addr×Obj)}{σ:St}{H:Hp}{s:Shared}{E:Value->Shared->Prop}
theorem zB.qV(I:zB X z0 σ H s)(E:Value->Shared->Prop):zB (X.qV E) z0 σ H s:=⟨I.ok.qV E,I.os,I.bare,I.base,I.loc,I.cell,I.free,I.tq,I.pin,I.zZ,I.len⟩
theorem zB.jL(I:zB (X.qV E) z0 σ H s):zB X z0 σ H s:=⟨I.ok.jL,I.os,I.bare,I.base,I.loc,I.cell,I.free,I.tq,I.pin,I.zZ,I.len⟩
theorem SP.jL{D:vj}{f:Flow}{s':Shared}(h:SP (X.qV E) z0 D f s'):SP X z0 D f s':=by
 cases f with
 |next=>obtain⟨σ',H',I,q⟩:=h; exact⟨σ',H',I.jL,q⟩
 |brk=>obtain⟨σ',H',I,q⟩:=h; exact⟨σ',H',I.jL,q⟩
 |cont=>obtain⟨σ',H',I,q⟩:=h; exact⟨σ',H',I.jL,q⟩
 |ret u=>obtain⟨v,σ',H',I,r,q⟩:=h; exact⟨v,σ',H',I.jL,r,q⟩
theorem vW.t9{st:List Stmt}{t:TS}(h:vW X.t9 st t):vW X st t:=λz0 s σ H D I hw=>
 uK (h z0 s σ H D (I.qV _) hw) (λ_ _ q=>q.jL) λ_ _ z=>False.elim z
end
section
variable{X:Cx}{st:Stmt}{zn:List Stmt}{t u:TS}{e:Expr}{te:TE}{pos:Pos}
def fG:TS:=λD σ H=>D.nx σ H
def fO(t u:TS):TS:=λD σ H=>t { D with nx:=u D } σ H
theorem CS:vW X [] fG:=λ_ _ σ H _ I h=>M7 ⟨σ,H,I,h⟩
theorem CQ(h1:PS X st t)(h2:vW X zn u):vW X (st::zn) (fO t u):=by
 intro z0 s σ H D I h;refine wpAny_execs_cons (ze (h1 z0 s σ H { D with nx:=u D } I h) λf s1 q=>?_);cases f with
 |next=>
  obtain⟨σ',H',I',q⟩:=q;exact h2 z0 s1 σ' H' D I' q
 |ret v=>exact q
 |brk=>exact q
 |cont=>exact q
theorem CT(h1:PS X st t):vW X [st] t:=by
 intro z0 s σ H D I h;refine wpAny_execs_cons (ze (h1 z0 s σ H D I h) λf s1 q=>?_);cases f with
 |next=>exact M7 q
 |ret v=>exact q
 |brk=>exact q
 |cont=>exact q
theorem zB.quiet{z0:List (Addr×Obj)}{σ:St}{H:Hp}{s:Shared}(I:zB X z0 σ H s):interactive X.env=false:=by simp[interactive,I.ok.kind]
def Ej(te:TE):TS:=λD σ H=>te σ H λ_ H1=>D.nx σ H1
theorem CM(he:PE X e te)(hs:swapsWith e none pos.line X.env=pure false:=by rfl):PS X (.Expr e pos) (Ej te):=by
 intro z0 s σ H D I h;exact wpAny_Expr_any (ze (he z0 s σ H _ I h) λv s1 ⟨x,H1,I1,r1,q1⟩=>⟨σ,H1,I1,q1⟩) I.quiet hs
def fN(te:TE):TS:=λD σ H=>te σ H D.rt
theorem T5(he:PE X e te):PS X (.Return (some e) pos) (fN te):=by
 intro z0 s σ H D I h;exact wpAny_Return_some (ze (he z0 s σ H _ I h) λv s1 ⟨x,H1,I1,r1,q1⟩=>⟨x,σ,H1,I1,r1,q1⟩)
def fB(c:TT)(t u:TS):TS:=λD σ H=>c σ H λb H1=>if b=true then t D σ H1 else u D σ H1
theorem CO{c:Expr}{a b:List Stmt}{tc:TT}(hc:PT X c tc)(ha:vW X a t)(hb:vW X b u):PS X (.If c a b pos) (fB tc t u):=by
 intro z0 s σ H D I h;refine wpAny_If (ze (hc z0 s σ H _ I h) λd s1 ⟨H1,I1,q1⟩=>?_);cases d with
 |true=>exact ha z0 s1 σ H1 D I1 q1
 |false=>exact hb z0 s1 σ H1 D I1 q1
def fF:TS:=λ_ _ _=>False
theorem aL{sts:List Stmt}:vW X sts fF:=λ_ _ _ _ _ _ h=>h.elim
end
abbrev TG:=V->St->Hp->(St->Hp->Prop)->Prop
abbrev qd:=List V->St->Hp->(St->Hp->Prop)->Prop
def PG(X:Cx)(target:Expr)(t:TG):Prop:=
 ∀(z0:List (Addr×Obj)) (s:Shared) (σ:St) (H:Hp) (v:V) (u:Value) (Q:St->Hp->Prop),zB X z0 σ H s->zd v u->t v σ H Q->
  wpAny (model X.prog X.w) X.A (assign target X.env u) (λ_ s'=>∃σ' H',zB X z0 σ' H' s'/\Q σ' H') X.xe s
def Y_(X:Cx)(ts:List Expr)(t:qd):Prop:=
 ∀(z0:List (Addr×Obj)) (s:Shared) (σ:St) (H:Hp) (vs:List V) (us:List Value) (Q:St->Hp->Prop),zB X z0 σ H s->zc vs us->t vs σ H Q->
  wpAny (model X.prog X.w) X.A (assignInOrder ((assignEach ts X.env).map (·.2)) us) (λ_ s'=>∃σ' H',zB X z0 σ' H' s'/\Q σ' H') X.xe s
abbrev Vb:=V->V->V->Hp->(Hp->Prop)->Prop
def Qk(X:Cx)(t:Vb):Prop:=
 ∀(z0:List (Addr×Obj)) (s:Shared) (σ:St) (H:Hp) (o i v:V) (ov iv u:Value) (Q:Hp->Prop),zB X z0 σ H s->zd o ov->zd i iv->zd v u->t o i v H Q->
  wpAny (model X.prog X.w) X.A (setItem ov iv u) (λ_ s'=>∃H',zB X z0 σ H' s'/\Q H') X.xe s
abbrev ZT:=V->V->Hp->VK->Prop
def VZ(X:Cx)(op:Operator)(t:ZT):Prop:=
 ∀(z0:List (Addr×Obj)) (s:Shared) (σ:St) (H:Hp) (x y:V) (v u:Value) (Q:VK),zB X z0 σ H s->zd x v->zd y u->t x y H Q->
  wpAny (model X.prog X.w) X.A (inplaceOp op v u) (EP X z0 σ Q) X.xe s
section
variable{X:Cx}{pos:Pos}
def vZ(i:Nat):TG:=λv σ H Q=>Q (σ.set i (some v)) H
theorem An{i:Nat}{x:Str}(hN:X.N.Nodup)(hi:X.N[i]?=some x)(hx:tH X.env.scope x)(hf:X.fn x=true\/X.env.scope.names.lookup x=some .local:=by first|exact .inl rfl|exact .inr rfl|assumption):PG X (.Name x pos) (vZ i):=by
 intro z0 s σ H v u Q I r h;exact wpAny_assign_Name (Oq I hN hi hx r (λs' I'=>⟨_,H,I',h⟩) hf)
def Zg:qd:=λvs σ H Q=>vs=[]/\Q σ H
def qo(t:TG)(u:qd):qd:=λvs σ H Q=>∃v r,vs=v::r/\t v σ H λσ' H'=>u r σ' H' Q
theorem Ar:Y_ X [] Zg:=by
 intro z0 s σ H vs us Q I r h;obtain⟨e,h⟩:=h;subst e;cases r;exact assignInOrder_nil ⟨σ,H,I,h⟩
theorem Aq{e:Expr}{es:List Expr}{t:TG}{u:qd}(h1:PG X e t)(h2:Y_ X es u)
  (hs:(assignEach (e::es) X.env).map (·.2)=assign e X.env::(assignEach es X.env).map (·.2):=by rfl):Y_ X (e::es) (qo t u):=by
 intro z0 s σ H vs us Q I r h;obtain⟨v,vr,e1,h⟩:=h;subst e1;cases r with
 |cons r rr=>
  rw[hs];refine assignInOrder_cons (ze (h1 z0 s σ H _ _ _ I r h) λ_ s1 ⟨σ1,H1,I1,q1⟩=>?_);exact h2 z0 s1 σ1 H1 _ _ Q I1 rr q1
def Zh(K:W.Frag)(n:Nat)(t:qd):TG:=λv σ H Q=>∃a xs,v=.ref a/\ye K H a xs/\xs.length=n/\t xs σ H Q
theorem Ap{es:List Expr}{k:Nat}{t:qd}{n:Nat}(hc:X.calm=true)(h:Y_ X es t)
  (hn:(assignEach es X.env).length=n:=by rfl)(hst:(assignEach es X.env).findIdx? (·.1)=none:=by rfl):PG X (.Tuple es k pos) (Zh X.K n t):=by
 intro z0 s σ H v u Q I r hw;obtain⟨a,xs,e1,hq,hl,hw⟩:=hw;subst e1;cases r;obtain⟨its,rv,ht,hz⟩:=I.tuple hq;refine assign_Tuple_tuple (I.ok.hd hc) ht (by simp[hn,<-hl,rv.length]) hst λh' hx=>?_
 have I1:zB X z0 σ H { s with heap:=h' }:=I.kept (t':=s.toks) λb o e=>hx b o (xz (Heap.lt_size e)) e
 exact h z0 _ σ H xs _ Q I1 (by simpa using rv) hw
def By(to ti:TE)(t:Vb):TG:=λv σ H Q=>to σ H λo H1=>ti σ H1 λi H2=>t o i v H2 λH3=>Q σ H3
theorem Ao{o i:Expr}{to ti:TE}{t:Vb}(ho:PE X o to)(hi:PE X i ti)(hs:Qk X t)
  (ha:∀v,assign (.Subscript o i pos) X.env v=(do
   let ov <-holding [v] (eval o X.env)
   let iv <-holding [v,ov] (eval i X.env)
   standAt pos
   holding [v,ov,iv] (setItem ov iv v)
   release [v,ov,iv] []):=by intro _; rfl):PG X (.Subscript o i pos) (By to ti t):=by
 intro z0 s σ H v u Q I r h;rw[ha];refine zO (gE (ze (ho z0 s σ H _ I h) λov s1 ⟨x,H1,I1,r1,q1⟩=>?_));refine zO (gE (ze (hi z0 s1 σ H1 _ I1 q1) λiv s2 ⟨y,H2,I2,r2,q2⟩=>?_));refine zO (MB (zO (gE (ze (hs z0 s2 σ H2 x y v ov iv u _ I2 r1 r2 r q2) λ_ s3 ⟨H3,I3,q3⟩=>?_))));exact wpAny_release ⟨σ,H3,I3,q3⟩
def Os(te:TE)(g:TG):TS:=λD σ H=>te σ H λx H1=>g x σ H1 D.nx
theorem OF{tg e:Expr}{te:TE}{g:TG}(he:PE X e te)(hg:PG X tg g)(hs:swapsWithSole [tg] e pos.line X.env=pure false:=by rfl)(hw:swappedStores [tg] e X.env=pure none:=by rfl)
  (h1:(assignEach [tg] X.env).map (·.2)=[assign tg X.env]:=by rfl):PS X (.Assign [tg] e pos) (Os te g):=by
 intro z0 s σ H D I h;refine wpAny_Assign_stores (ze (he z0 s σ H _ I h) λv s1 ⟨x,H1,I1,r1,q1⟩=>?_) hs hw;rw[h1];exact ze (hg z0 s1 σ H1 x v _ I1 r1 q1) λ_ s2 q=>q
theorem aK{i:Nat}{x:Str}{e:Expr}{te:TE}{pos':Pos}(hN:X.N.Nodup)(hi:X.N[i]?=some x)(hx:tH X.env.scope x)(he:PE X e te)(hs:swapsWith e (some (.Name x pos')) pos.line X.env=pure false:=by rfl)(hf:X.fn x=true\/X.env.scope.names.lookup x=some .local:=by first|exact .inl rfl|exact .inr rfl|assumption) :
  PS X (.Assign [.Name x pos'] e pos) (Os te (vZ i)):=by
 intro z0 s σ H D I h;refine wpAny_Assign_Name (ze (he z0 s σ H _ I h) λv s1 ⟨y,H1,I1,r1,q1⟩=>?_) hs;exact Oq I1 hN hi hx r1 (λs2 I2=>⟨_,H1,I2,q1⟩) hf
def eW(i:Nat)(te:TE)(ti:ZT):TS:=λD σ H=>∃x,σ[i]?=some (some x)/\te σ H λy H1=>ti x y H1 λz H2=>D.nx (σ.set i (some z)) H2
theorem CL{i:Nat}{x:Str}{e:Expr}{te:TE}{op:Operator}{ti:ZT}{pos':Pos}(hN:X.N.Nodup)(hi:X.N[i]?=some x)(hx:tH X.env.scope x)(he:PE X e te)(ho:VZ X op ti)(hf:X.fn x=true\/X.env.scope.names.lookup x=some .local:=by first|exact .inl rfl|exact .inr rfl|assumption) :
  PS X (.AugAssign (.Name x pos') op e pos) (eW i te ti):=by
 intro z0 s σ H D I h;obtain⟨v,e1,h⟩:=h;obtain⟨m,hn,hl⟩:=I.loc;have vis:pL X.env.scope x:=by rcases hx with k|k; exact .inl k; exact .inr (.inl k)
 obtain⟨u,r,l⟩:=hl i x v hi e1 vis;refine wpAny_AugAssign_Name ?_
 have go:wpAny (model X.prog X.w) X.A (eval e X.env) (λw s₂=>wpAny (model X.prog X.w) X.A (inplaceOp op u w) (λr s₃=>wpAny (model X.prog X.w) X.A (storeName X.env x r) (λ_=>SP X z0 D .next) X.xe s₃) X.xe s₂) X.xe s:=by
  refine ze (he z0 s σ H _ I h) λw s1 ⟨y,H1,I1,r1,q1⟩=>?_
  refine ze (ho z0 s1 σ H1 v y u w _ I1 r r1 q1) λz s2 ⟨zv,H2,I2,r2,q2⟩=>?_
  exact Oq I2 hN hi hx r2 (λs3 I3=>⟨_,H2,I3,q2⟩) hf
 rcases l with⟨hk,hm⟩|⟨hk,c,hc,hcell⟩
 ·exact wpAny_loadName_local I.ok.kind hk hn hm go
 ·rcases hk with hk|hk
  ·exact wpAny_loadName_cell I.ok.kind hk hc hcell go
  ·rcases hx with k|k
   ·have:X.env.scope.names.lookup x=some .free:=hk;rw[k]at this; cases this
   ·have:X.env.scope.names.lookup x=some .free:=hk;rw[k]at this; cases this
def DR(f:Int->Int->Int):ZT:=λx y H Q=>∃i j,x=.int i/\y=.int j/\Q (.int (f i j)) H
theorem No:VZ X .Add (DR λi j=>i+j):=by
 intro z0 s σ H x y v u Q I r1 r2 h;obtain⟨i,j,e1,e2,q⟩:=h;subst e1; subst e2;obtain⟨t,rfl⟩:=r1;obtain⟨t',rfl⟩:=r2;exact iadd_int ⟨.int _,H,I.tok _,⟨_,rfl⟩,q⟩
end
section
variable{X:Cx}{pos:Pos}
end
structure It where
 go:Nat->Hp->Prop
 vz:Nat->Hp->V->Hp->Prop
 stop:Nat->Hp->Prop
def tF(X:Cx)(z0:List (Addr×Obj))(H:Hp)(b:Addr):Prop:=
 H b=none/\b≠X.env.locals/\b ∉ X.fs/\(b∈X.ex\/X.s₀.heap.objs.size<=b)/\(∀x c,X.env.cells.lookup x=some c->c≠b)/\∀p∈X.pn++z0,p.1≠b
theorem zB.k_{X:Cx}{z0:List (Addr×Obj)}{σ:St}{H H':Hp}{s:Shared}{b:Addr}(I:zB X z0 σ H s)(hb:s.heap.objs.size<=b)(hn:H' b=none):tF X z0 H' b:=by
 refine⟨hn,qS (xi I.lt hb),I.ML hb,.inr (wo I.sz hb),λx c e z=>?_,λp hp z=>?_⟩
 ·obtain⟨v,q⟩:=I.cell x c e;exact absurd (xi q.lt (by rw[z]; exact hb)) (wL _)
 ·exact absurd (xi (Heap.lt_size (I.pin p hp).1) (by rw[z]; exact hb)) (wL _)
structure jX(P:Program)(w:World)(K:W.Frag)(tg:Expr)(J:It)(fp:List Addr)(it:Addr)(tn:Nat->Heap->Prop):Prop where
 mem:it∈fp
 obj:∀i h,tn i h->∀b∈fp,∃o,h.get? b=some o/\∀v,o.data≠.cell v
 keep:∀i h h',tn i h->(∀b∈fp,∀o,h.get? b=some o->h'.get? b=some o)->tn i h'
 item:∀(X:Cx),X.prog=P->X.w=w->X.K=K->X.calm=true->∀(i:Nat)(z0:List (Addr×Obj)) (s:Shared) (σ:St) (H:Hp) (E:Value->Shared->Prop),zB X z0 σ H s->(∀b∈fp,tF X z0 H b)->tn i s.heap->J.go i H->
  wpAny (model P w) X.A (pyNext (.ref it)) (λr s1=>∃u,r=some u/\
   wpAny (model P w) X.A (letOwnedTupleGo tg (.ref it) u) (λ_ s2=>∃x H',zB X z0 σ H' s2/\zd x u/\J.vz i H x H'/\tn (i+1) s2.heap/\∀b∈fp,H' b=none) E s1) E s
 done:∀(X:Cx),X.prog=P->X.w=w->X.K=K->X.calm=true->∀(i:Nat)(z0:List (Addr×Obj)) (s:Shared) (σ:St) (H:Hp) (E:Value->Shared->Prop),zB X z0 σ H s->(∀b∈fp,tF X z0 H b)->tn i s.heap->J.stop i H->
  wpAny (model P w) X.A (pyNext (.ref it)) (λr s1=>r=none/\zB X z0 σ H s1) E s
 self:∀(A:Around)(i:Nat)(s:Shared)(Q:Value->Shared->Prop)(E:Value->Shared->Prop),tn i s.heap->Q (.ref it) s->wpAny (model P w) A (pyIter (.ref it)) Q E s
abbrev TI:=St->Hp->(It->Hp->Prop)->Prop
def Qj(X:Cx)(z0:List (Addr×Obj))(σ:St)(tg:Expr)(R:It->Hp->Prop)(itv:Value)(s2:Shared):Prop:=
 ∃(it:Addr) (fp:List Addr) (tn:Nat->Heap->Prop) (J:It) (H':Hp),itv=.ref it/\zB X z0 σ H' s2/\jX X.prog X.w X.K tg J fp it tn/\tn 0 s2.heap/\(∀b∈fp,tF X z0 H' b)/\R J H'
def PI(X:Cx)(tg iter:Expr)(wi:TI):Prop:=
 ∀(z0:List (Addr×Obj)) (s:Shared) (σ:St) (H:Hp) (R:It->Hp->Prop),zB X z0 σ H s->wi σ H R->
  wpAny (model X.prog X.w) X.A (eval iter X.env) (λv s1=>wpAny (model X.prog X.w) X.A (pyIter v) (Qj X z0 σ tg R) X.xe s1) X.xe s
theorem UY{M:Model}{A:Around}{E:Value→Shared→Prop}{s:Shared}{tg:Expr}{it:Addr}{u:Value}{o:Obj}{n:String}{vs:Array Value}{Q:Unit→Shared→Prop}(ho:s.heap.get? it=some o)(hc:o.cls=.type n)(hd:o.data=.fields vs)
    (hn:["enumerate", "zip", "dict_itemiterator", "dict_reverseitemiterator", "odict_iterator", "itertools.zip_longest", "itertools.pairwise"].contains n=false)(hQ:Q () s):wpAny M A (letOwnedTupleGo tg (.ref it) u) Q E s:=by
  unfold letOwnedTupleGo
  cases tg<;>first
    |exact yG hQ
    | (cases u<;>first
        |exact yG hQ
        | (refine zO (wpAny_load ho ?_)
           rw[hc,hd];show wpAny M A (if(["enumerate", "zip", "dict_itemiterator", "dict_reverseitemiterator", "odict_iterator", "itertools.zip_longest", "itertools.pairwise"].contains n&&vs[0]?==some (rawInt _))=true then _ else _) Q E s;rw[zK (by intro h; rw[hn,LV]at h; cases h)];exact yG hQ))
def Qa(K:W.Frag)(a:Addr):It:=
 ⟨λi H=>∃xs x,yI K H a xs/\xs[i]?=some x,λi H x H'=>H'=H/\∀xs,yI K H a xs->xs[i]?=some x,λi H=>∃xs,yI K H a xs/\xs.length<=i⟩
def Qb(K:W.Frag)(a:Addr):It:=
 ⟨λi H=>∃xs x,ye K H a xs/\xs[i]?=some x,λi H x H'=>H'=H/\∀xs,ye K H a xs->xs[i]?=some x,λi H=>∃xs,ye K H a xs/\xs.length<=i⟩
def VW(lo:Int)(n:Nat):It:=⟨λi _=>i<n,λi H x H'=>H'=H/\x=.int (lo+i),λi _=>n<=i⟩
theorem iF{P:Program}{w:World}{K:W.Frag}{tg:Expr}(a it:Addr):jX P w K tg (Qa K a) [it] it (λi h=>h.IsListIter it a i) where
 mem:=by simp
 obj:=λi h st b hb=>by
  have e:b=it:=by simpa using hb
  subst e;obtain⟨o,e,c,d⟩:=st;exact⟨o,e,λv z=>by rw[d]at z; cases z⟩
 keep:=λi h h' st k=>st.at λo e=>k it (by simp) o e
 item:=by
  intro X hP hw hK hc i z0 s σ H E I hf st hg;subst hP hw hK;obtain⟨xs,x,hq,hx⟩:=hg;obtain⟨its,rv,p,hz⟩:=I.list hq;obtain⟨u,hu,ru⟩:=rv.get hx;obtain⟨f0,f1,f2,f3,f4,f5⟩:=hf it (by simp);refine wpAny_pyNext_list_item st p.isList (x:=u) (by simpa using hu) λh' st' sb=>?_
  have I1:zB X z0 σ H { s with heap:=h' }:=I.turned (t':=s.toks) (λb o hb e=>(sb.2 b hb).trans e) f0 f1 f3 f4 f5;obtain⟨o,e,c,d⟩:=id st';exact⟨u,rfl,UY (s:={ s with heap:=h' }) e c d (by decide) ⟨x,H,I1,ru,⟨rfl,λys hy=>by rw[I.VH hy hq]; exact hx⟩,st',λb hb=>(hf b hb).1⟩⟩
 done:=by
  intro X hP hw hK hc i z0 s σ H E I hf st hg;subst hP hw hK;obtain⟨xs,hq,hx⟩:=hg;obtain⟨its,rv,p,hz⟩:=I.list hq;obtain⟨f0,f1,f2,f3,f4,f5⟩:=hf it (by simp);have hl:=rv.length;exact wpAny_pyNext_list_end (I.ok.hd hc) st p.isList (by simp; omega) λh' eb=>⟨rfl,I.turned (t':=s.toks) (λb o hb e=>eb b o hb e) f0 f1 f3 f4 f5⟩
 self:=λ_ _ _ _ _ st h=>wpAny_pyIter_listiter st h
theorem iI{P:Program}{w:World}{K:W.Frag}{tg:Expr}(a it:Addr):jX P w K tg (Qb K a) [it] it (λi h=>h.IsTupleIter it a i) where
 mem:=by simp
 obj:=λi h st b hb=>by
  have e:b=it:=by simpa using hb
  subst e;obtain⟨o,e,c,d⟩:=st;exact⟨o,e,λv z=>by rw[d]at z; cases z⟩
 keep:=λi h h' st k=>st.at λo e=>k it (by simp) o e
 item:=by
  intro X hP hw hK hc i z0 s σ H E I hf st hg;subst hP hw hK;obtain⟨xs,x,hq,hx⟩:=hg;obtain⟨its,rv,p,hz⟩:=I.tuple hq;obtain⟨u,hu,ru⟩:=rv.get hx;obtain⟨f0,f1,f2,f3,f4,f5⟩:=hf it (by simp);refine wpAny_pyNext_tuple_item st (show s.heap.IsTuple a its.toArray from p) (x:=u) (by simpa using hu) λh' st' sb=>?_
  have I1:zB X z0 σ H { s with heap:=h' }:=I.turned (t':=s.toks) (λb o hb e=>(sb.2 b hb).trans e) f0 f1 f3 f4 f5;obtain⟨o,e,c,d⟩:=id st';exact⟨u,rfl,UY (s:={ s with heap:=h' }) e c d (by decide) ⟨x,H,I1,ru,⟨rfl,λys hy=>by rw[I.QK hy hq]; exact hx⟩,st',λb hb=>(hf b hb).1⟩⟩
 done:=by
  intro X hP hw hK hc i z0 s σ H E I hf st hg;subst hP hw hK;obtain⟨xs,hq,hx⟩:=hg;obtain⟨its,rv,p,hz⟩:=I.tuple hq;obtain⟨f0,f1,f2,f3,f4,f5⟩:=hf it (by simp);have hl:=rv.length;exact wpAny_pyNext_tuple_end (I.ok.hd hc) st (show s.heap.IsTuple a its.toArray from p) (by simp; omega) λh' eb=>⟨rfl,I.turned (t':=s.toks) (λb o hb e=>eb b o hb e) f0 f1 f3 f4 f5⟩
 self:=λ_ _ _ _ _ st h=>wpAny_pyIter_tupleiter st h
theorem iG{P:Program}{w:World}{K:PySem.W.Frag}{tg:Expr}(it:Addr)(lo:Int)(n:Nat):jX P w K tg (VW lo n) [it] it (λi h=>IsRangeIter h it (lo+(i:Nat)*1) ((n:Int)-(i:Nat)) 1) where
 mem:=by simp
 obj:=λi h st b hb=>by
  have e:b=it:=by simpa using hb
  subst e
  exact⟨_,st,λv z=>by
   have z':Data.fields _=Data.cell v:=z;cases z'⟩
 keep:=λi h h' st k=>k it (by simp) _ st
 item:=by
  intro X hP hw hK hc i z0 s σ H E I hf st hg;subst hP hw hK;obtain⟨f0,f1,f2,f3,f4,f5⟩:=hf it (by simp);have W:=Walks.range (prog:=X.prog) (w:=X.w) (I.ok.hd hc) it lo 1 n;refine W.item i s _ _ hg st λv h' tk hv st' kk=>?_
  obtain⟨t,rfl⟩:=hv;have I1:zB X z0 σ H { s with heap:=h',toks:=tk }:=I.turned (λb o hb e=>kk b o (by simpa using hb) e) f0 f1 f3 f4 f5;refine⟨_,rfl,UY (s:={ s with heap:=h',toks:=tk }) (n := "range_iterator") st' rfl rfl (by decide) ⟨.int (lo+i),H,I1,⟨t,?_⟩,⟨rfl,rfl⟩,st',λb hb=>(hf b hb).1⟩⟩;rw[Int.mul_one]
 done:=by
  intro X hP hw hK hc i z0 s σ H E I hf st hg;subst hP hw hK;obtain⟨f0,f1,f2,f3,f4,f5⟩:=hf it (by simp);exact wpAny_pyNext_range_end (I.ok.hd hc) st (by have:n<=i:=hg; omega) λh' eb=>⟨rfl,I.turned (t':=s.toks) (λb o hb e=>eb b o hb e) f0 f1 f3 f4 f5⟩
 self:=λ_ _ _ _ _ st h=>wpAny_pyIter_rangeiter st h
section
variable{X:Cx}{tg:Expr}
def Nf(K:W.Frag)(tl:TE):TI:=λσ H R=>tl σ H λx H1=>∃a,x=.ref a/\(∃xs,yI K H1 a xs)/\R (Qa K a) H1
def Ni(K:W.Frag)(tl:TE):TI:=λσ H R=>tl σ H λx H1=>∃a,x=.ref a/\(∃xs,ye K H1 a xs)/\R (Qb K a) H1
theorem At{l:Expr}{tl:TE}(hl:PE X l tl):PI X tg l (Nf X.K tl):=by
 intro z0 s σ H R I h;refine ze (hl z0 s σ H _ I h) λv s1 ⟨x,H1,I1,r1,q1⟩=>?_
 obtain⟨a,e,⟨xs,hq⟩,q⟩:=q1;subst e;cases r1;obtain⟨its,rv,p,hz⟩:=I1.list hq;refine VD p.isList ?_;refine⟨s1.heap.objs.size,[s1.heap.objs.size],_,_,H1,rfl,I1.kept (t':=s1.toks) λb o e=>Heap.get?_push_of_some _ e,iF a _,⟨_,Heap.get?_push_size _ rfl,rfl,rfl⟩,λb hb=>?_,q⟩;have e:b=s1.heap.objs.size:=by simpa using hb
 subst e;exact I1.k_ (yF _) (I1.zZ.fresh (yF _))
theorem Aw{l:Expr}{tl:TE}(hl:PE X l tl):PI X tg l (Ni X.K tl):=by
 intro z0 s σ H R I h;refine ze (hl z0 s σ H _ I h) λv s1 ⟨x,H1,I1,r1,q1⟩=>?_
 obtain⟨a,e,⟨xs,hq⟩,q⟩:=q1;subst e;cases r1;obtain⟨its,rv,p,hz⟩:=I1.tuple hq;refine M9 (show s1.heap.IsTuple a its.toArray from p) ?_;refine⟨s1.heap.objs.size,[s1.heap.objs.size],_,_,H1,rfl,I1.kept (t':=s1.toks) λb o e=>Heap.get?_push_of_some _ e,iI a _,⟨_,Heap.get?_push_size _ rfl,rfl,rfl⟩,λb hb=>?_,q⟩;have e:b=s1.heap.objs.size:=by simpa using hb
 subst e;exact I1.k_ (yF _) (I1.zZ.fresh (yF _))
theorem az{z0:List (Addr×Obj)}{σ:St}{H:Hp}{s:Shared}{R:It->Hp->Prop}{E:Value->Shared->Prop}{lo hi:Int}{t u v:Tok}{tk:Nat}(I:zB X z0 σ H s)(h1 : -(2 ^ 62)<=lo)(h2:lo<2 ^ 62)(h3 : -(2 ^ 62)<=hi)(h4:hi<2 ^ 62)
  (q:R (VW lo (hi-lo).toNat) H):wpAny (model X.prog X.w) X.A (pyIter (.ref s.heap.objs.size)) (Qj X z0 σ tg R) E { s with heap:=s.heap.push { cls:=.type "range",data:=.fields #[.int lo t,.int hi u,.int 1 v] },toks:=tk }:=by
 refine wpAny_pyIter_range (IsRange.new ..) (small_one h1 h2 h3 h4) ?_;have I1:zB X z0 σ H { s with heap:=s.heap.push { cls:=.type "range",data:=.fields #[.int lo t,.int hi u,.int 1 v] },toks:=tk }:=I.kept λb o e=>Heap.get?_push_of_some _ e
 refine⟨(s.heap.push { cls:=.type "range",data:=.fields #[.int lo t,.int hi u,.int 1 v] }).objs.size,[(s.heap.push { cls:=.type "range",data:=.fields #[.int lo t,.int hi u,.int 1 v] }).objs.size],_,_,H,rfl,
  I1.kept (t':=tk) λb o e=>Heap.get?_push_of_some _ e,iG _ lo (hi-lo).toNat,?_,λb hb=>?_,q⟩
 ·have e1:lo+((0:Nat):Int)*1=lo:=by simp
  have e2:(((hi-lo).toNat:Nat):Int)-((0:Nat):Int)=Builtin.Range.rangeSize lo hi 1:=by rw[rangeSize_one]; split<;>omega
  show IsRangeIter _ _ (lo+((0:Nat):Int)*1) ((((hi-lo).toNat:Nat):Int)-((0:Nat):Int)) 1;rw[e1,e2];exact Heap.get?_push_size _ rfl
 ·have e:b=(s.heap.push { cls:=.type "range",data:=.fields #[.int lo t,.int hi u,.int 1 v] }).objs.size:=by simpa using hb
  subst e;exact I1.k_ (yF _) (I1.zZ.fresh (yF _))
def Ng(ta:TA):TI:=λσ H R=>ta σ H λvs H1=>∃j:Int,vs=[.int j] /\ -(2 ^ 62)<=j/\j<2 ^ 62/\R (VW 0 j.toNat) H1
theorem Au{a:Expr}{ta:TA}{p pos:Pos}(hg:Gl X "range")(hm:X.mg "range" = none)(ha:PA X [a] ta)(hs:starEach [a] X.env=[(false,eval a X.env)]:=by rfl):PI X tg (.Call (.Name "range" p) [a] [] pos) (Ng ta):=by
 intro z0 s σ H R I h;refine Call_ (Zz I hg hm boot_range (T_ (ze (ha pos z0 s σ H _ I h) λus s1 ⟨vs,H1,I1,r1,q1⟩=>?_) hs rfl));obtain⟨j,e,q1,q2,q⟩:=q1;subst e;cases r1 with
 |cons r rr=>
  cases rr;obtain⟨t,rfl⟩:=r;exact call_range_1 (az I1 (by omega) (by omega) q1 q2 (by simpa using q))
def e_(wi:TI)(g:TG)(tb:TS):TS:=λD σ H=>wi σ H λJ H1=>∃W:Nat->Nat->St->Hp->Prop,(∃m,W 0 m σ H1)/\∀i m σ H,W i m σ H->
 (J.stop i H/\D.nx σ H)\/(J.go i H/\∃N:St->Hp->Prop,(∀σ' H',N σ' H'->∃m',m'<m/\W (i+1) m' σ' H')/\∀x H',J.vz i H x H'->g x σ H' λσ2 H2=>tb { D with nx:=N,ct:=N,bk:=D.nx } σ2 H2)
def Xb(fp:List Addr)(h:Heap):List (Addr×Obj):=fp.filterMap λb=>(h.get? b).map λo=>(b,o)
theorem Uy{fp:List Addr}{h:Heap}{b:Addr}{o:Obj}(hb:b∈fp)(e:h.get? b=some o):(b,o)∈Xb fp h:=GV.mpr ⟨b,hb,by rw[e]; rfl⟩
theorem RQ{fp:List Addr}{h:Heap}{p:Addr×Obj}(hp:p∈Xb fp h):p.1∈fp/\h.get? p.1=some p.2:=by
 obtain⟨b,hb,e⟩:=GV.mp hp;cases q:h.get? b with
 |none=>rw[q]at e; cases e
 |some o=>
  rw[q]at e;have e':(b,o)=p:=ui e;subst e';exact⟨hb,q⟩
theorem zB.pinned{z0:List (Addr×Obj)}{σ:St}{H:Hp}{s:Shared}{fp:List Addr}(I:zB X z0 σ H s)(hf:∀b∈fp,tF X z0 H b)(ho:∀b∈fp,∃o,s.heap.get? b=some o/\∀v,o.data≠.cell v):zB X (z0++Xb fp s.heap) σ H s:=
 I.Ys λp hp=>(gA.mp hp).elim (λz=>I.pin p (uf _ z)) λz=>by
  obtain⟨hb,e⟩:=RQ z;obtain⟨f0,f1,f2,_⟩:=hf p.1 hb;obtain⟨o,e',d⟩:=ho p.1 hb;rw[e]at e'; cases e';exact⟨e,f0,f1,f2,d⟩
theorem zB.QL{z0 pl:List (Addr×Obj)}{σ:St}{H:Hp}{s:Shared}(I:zB X (z0++pl) σ H s):zB X z0 σ H s:=I.Ys λp hp=>I.pin p (uf _ (Lm _ hp))
theorem CN{iter:Expr}{body:List Stmt}{wi:TI}{g:TG}{tb:TS}{pos:Pos}(hp:PassesOwn (model X.prog X.w) X.A X.env X.xe)(hc:X.calm=true)(hi:PI X tg iter wi)(hg:PG X tg g)(hb:vW X body tb)
  (hs:∀x,foldedSetIterable iter X.env x=pure x:=by intro _; rfl):PS X (.For tg iter body [] pos) (e_ wi g tb):=by
 intro z0 s σ H D I h;refine wpAny_For (ze (hi z0 s σ H _ I h) λv s1 h1=>ze h1 λitv s2 h2=>?_) hs;obtain⟨it,fp,tn,J,H2,e,I2,T,st2,f2,W,⟨m0,w0⟩,turn⟩:=h2;subst e;have stat:∀{H':Hp},(∀b∈fp,H' b=none)->∀b∈fp,tF X z0 H' b:=λhn b hb=>⟨hn b hb,(f2 b hb).2⟩
 refine codeAny_forLoop_any (λn s'=>∃i σ' H',zB X z0 σ' H' s'/\tn i s'.heap/\(∀b∈fp,H' b=none)/\W i n σ' H') ?_ m0 ⟨0,σ,H2,I2,st2,λb hb=>(f2 b hb).1,w0⟩;rintro n s3 ⟨i,σ3,H3,I3,st3,fr3,w3⟩;rcases turn i n σ3 H3 w3 with⟨stop,qn⟩|⟨go,N,hN,step⟩
 ·refine VC hp (ze (T.done X rfl rfl rfl hc i z0 s3 σ3 H3 X.xe I3 (stat fr3) st3 stop) λr s4 ⟨hr,I4⟩=>?_);subst hr;exact M7 ⟨σ3,H3,I4,qn⟩
 ·refine VC hp (ze (T.item X rfl rfl rfl hc i z0 s3 σ3 H3 X.xe I3 (stat fr3) st3 go) λr s4 ⟨u,hr,h4⟩=>?_);subst hr;refine VC hp (ze h4 λ_ s5 ⟨x,H5,I5,r5,y5,st5,fr5⟩=>?_);have I5':=I5.pinned (stat fr5) (T.obj _ _ st5);refine VC hp (ze (hg _ s5 σ3 H5 x u _ I5' r5 (step x H5 y5)) λ_ s6 ⟨σ6,H6,I6,q6⟩=>?_);refine VC hp (ze (hb _ s6 σ6 H6 _ I6 q6) λf s7 q7=>?_)
  have again:∀{σ7:St}{H7:Hp},zB X (z0++Xb fp s5.heap) σ7 H7 s7->N σ7 H7->∃m,m<n/\∃i σ' H',zB X z0 σ' H' s7/\tn i s7.heap/\(∀b∈fp,H' b=none)/\W i m σ' H':=λ{σ7 H7} I7 n7=>by
   obtain⟨m',hm,w7⟩:=hN σ7 H7 n7;refine⟨m',hm,i+1,σ7,H7,I7.QL,T.keep _ _ _ st5 λb hb o e=>(I7.pin (b,o) (uf _ (uf _ (Uy hb e)))).1,λb hb=>?_,w7⟩;obtain⟨o,e,d⟩:=T.obj _ _ st5 b hb;exact(I7.pin (b,o) (uf _ (uf _ (Uy hb e)))).2.1
  cases f with
  |next=>obtain⟨σ7,H7,I7,n7⟩:=q7; exact again I7 n7
  |cont=>obtain⟨σ7,H7,I7,n7⟩:=q7; exact again I7 n7
  |brk=>obtain⟨σ7,H7,I7,q7⟩:=q7; exact⟨σ7,H7,I7.QL,q7⟩
  |ret v=>obtain⟨x7,σ7,H7,I7,r7,q7⟩:=q7; exact⟨x7,σ7,H7,I7.QL,r7,q7⟩
end
abbrev R2:=V->V->Hp->VK->Prop
def yE(X:Cx)(f:Value->Value->Sem Value)(r:R2):Prop:=
 ∀(z0:List (Addr×Obj)) (s:Shared) (σ:St) (H:Hp) (x y:V) (v u:Value) (Q:VK),zB X z0 σ H s->zd x v->zd y u->r x y H Q->
  wpAny (model X.prog X.w) X.A (f v u) (EP X z0 σ Q) X.xe s
def X2(X:Cx)(f:Value->Sem Value)(r:V->Hp->VK->Prop):Prop:=
 ∀(z0:List (Addr×Obj)) (s:Shared) (σ:St) (H:Hp) (x:V) (v:Value) (Q:VK),zB X z0 σ H s->zd x v->r x H Q->
  wpAny (model X.prog X.w) X.A (f v) (EP X z0 σ Q) X.xe s
def xY(X:Cx)(f:Value)(r:List V->Hp->VK->Prop):Prop:=
 ∀(z0:List (Addr×Obj)) (s:Shared) (σ:St) (H:Hp) (xs:List V) (us:List Value) (Q:VK),zB X z0 σ H s->zc xs us->r xs H Q->
  wpAny (model X.prog X.w) X.A (call f us) (EP X z0 σ Q) X.xe s
def TZ(r:R2)(ta tb:TE):TE:=λσ H Q=>ta σ H λx H1=>tb σ H1 λy H2=>r x y H2 Q
def fT(r:V->Hp->VK->Prop)(ta:TE):TE:=λσ H Q=>ta σ H λx H1=>r x H1 Q
def rI(C:Int->Int->Prop)(g:Int->Int->V):R2:=λx y H Q=>∃i j,x=.int i/\y=.int j/\C i j/\Q (g i j) H
def uG(g:Int->Int->V):R2:=λx y H Q=>∃i j,x=.int i/\y=.int j/\Q (g i j) H
def rU(g:Int->V):V->Hp->VK->Prop:=λx H Q=>∃i,x=.int i/\Q (g i) H
section
variable{X:Cx}{a b c:Expr}{ta tb tc:TE}{pos:Pos}
theorem Q_(ha:PE X a ta)(hb:PE X b tb){z0:List (Addr×Obj)}{s:Shared}{σ:St}{H:Hp}{R:V->V->Hp->Prop}(I:zB X z0 σ H s)
  (h:ta σ H λx H1=>tb σ H1 λy H2=>R x y H2){Q:Value->Shared->Prop}{f:Value->Value->Sem Value}
  (hf:∀v u s2 x y H2,zB X z0 σ H2 s2->zd x v->zd y u->R x y H2->wpAny (model X.prog X.w) X.A (f v u) Q X.xe s2) :
  wpAny (model X.prog X.w) X.A (eval a X.env) (λv s₁=>wpAny (model X.prog X.w) X.A (eval b X.env) (λu s₂=>wpAny (model X.prog X.w) X.A (f v u) Q X.xe s₂) X.xe s₁) X.xe s:=by
 refine ze (ha z0 s σ H _ I h) λv s1 ⟨x,H1,I1,r1,q1⟩=>?_
 refine ze (hb z0 s1 σ H1 _ I1 q1) λu s2 ⟨y,H2,I2,r2,q2⟩=>?_
 exact hf v u s2 x y H2 I2 r1 r2 q2
theorem CB{op:Operator}{r:R2}(ho:yE X (binaryOp op) r)(ha:PE X a ta)(hb:PE X b tb):PE X (.BinOp a op b pos) (TZ r ta tb):=by
 intro z0 s σ H Q I h;exact wpAny_BinOp (Q_ ha hb I h λv u s2 x y H2 I2 rx ry q=>ho z0 s2 σ H2 x y v u Q I2 rx ry q)
theorem Am{op:UnaryOp}{r:V->Hp->VK->Prop}(ho:X2 X (unaryOp op) r)(ha:PE X a ta):PE X (.UnaryOp op a pos) (fT r ta):=by
 intro z0 s σ H Q I h;exact UnaryOp_ (ze (ha z0 s σ H _ I h) λv s1 ⟨x,H1,I1,r1,q1⟩=>ho z0 s1 σ H1 x v Q I1 r1 q1)
theorem Y6{f:Value->Value->Sem Value}{C:Int->Int->Prop}{g:Int->Int->Int}
  (rule:∀(i j:Int)(t u:Tok)(s:Shared)(Q:Value->Shared->Prop)(E:Value->Shared->Prop),C i j->Q (.int (g i j) s.toks) { s with toks:=s.toks+1 }->wpAny (model X.prog X.w) X.A (f (.int i t) (.int j u)) Q E s) :
  yE X f (rI C λi j=>.int (g i j)):=by
 intro z0 s σ H x y v u Q I rx ry h;obtain⟨i,j,rfl,rfl,hc,q⟩:=h;obtain⟨t,rfl⟩:=rx;obtain⟨t',rfl⟩:=ry;exact rule i j t t' s _ _ hc ⟨.int (g i j),H,I.tok _,⟨_,rfl⟩,q⟩
theorem XZ{f:Value->Value->Sem Value}{g:Int->Int->Int}
  (rule:∀(i j:Int)(t u:Tok)(s:Shared)(Q:Value->Shared->Prop)(E:Value->Shared->Prop),Q (.int (g i j) s.toks) { s with toks:=s.toks+1 }->wpAny (model X.prog X.w) X.A (f (.int i t) (.int j u)) Q E s) :
  yE X f (uG λi j=>.int (g i j)):=by
 intro z0 s σ H x y v u Q I rx ry h;obtain⟨i,j,rfl,rfl,q⟩:=h;obtain⟨t,rfl⟩:=rx;obtain⟨t',rfl⟩:=ry;exact rule i j t t' s _ _ ⟨.int (g i j),H,I.tok _,⟨_,rfl⟩,q⟩
theorem T0{f:Value->Value->Sem Value}{g:Int->Int->Bool}
  (rule:∀(i j:Int)(t u:Tok)(s:Shared)(Q:Value->Shared->Prop)(E:Value->Shared->Prop),Q (.bool (g i j)) s->wpAny (model X.prog X.w) X.A (f (.int i t) (.int j u)) Q E s) :
  yE X f (uG λi j=>.bl (g i j)):=by
 intro z0 s σ H x y v u Q I rx ry h;obtain⟨i,j,rfl,rfl,q⟩:=h;obtain⟨t,rfl⟩:=rx;obtain⟨t',rfl⟩:=ry;exact rule i j t t' s _ _ ⟨.bl (g i j),H,I,rfl,q⟩
def QM(i j:Int):Prop:=0<=j/\j<=1000000/\i.natAbs<2 ^ 64
def Yw(i j:Int):Prop:=(-(2 ^ 64)<i/\i<2 ^ 64)\/(-(2 ^ 64)<j/\j<2 ^ 64)
theorem Yw.ok{i j:Int}(h:Yw i j):IntMulOk i j:=by
 rcases h with⟨h1,h2⟩|⟨h1,h2⟩
 ·exact .of_left (intBits_le_64 h1 h2)
 ·exact .of_right (intBits_le_64 h1 h2)
theorem iK(k:Nat):(0:Int)<=2 ^ k:=by
 rw[two_pow_cast];exact YX _
theorem Sw:yE X (binaryOp .Add) (uG λi j=>.int (i+j)):=XZ λ_ _ _ _ _ _ _ q=>add_int q
theorem jq:yE X (binaryOp .Sub) (uG λi j=>.int (i-j)):=XZ λ_ _ _ _ _ _ _ q=>sub_int q
theorem tU:yE X (binaryOp .Mult) (rI Yw λi j=>.int (i*j)):=Y6 λ_ _ _ _ _ _ _ hc q=>mul_int q hc.ok
theorem wT:yE X (binaryOp .Mod) (rI (λ_ j=>0<j) λi j=>.int (i%j)):=Y6 λi j _ _ _ _ _ hc q=>by
 have h1:(0:Int)<j:=hc;exact mod_int' (by omega) (by rw[Int.fmod_eq_emod_of_nonneg i (by omega)]; exact q)
theorem kL:yE X (binaryOp .LShift) (rI QM λi j=>.int (i*2 ^ j.toNat)):=Y6 λ_ _ _ _ _ _ _ hc q=>lshift_int_small hc.1 hc.2.1 hc.2.2 q
theorem C1:yE X (binaryOp .RShift) (rI (λ_ j=>0<=j) λi j=>.int (i/2 ^ j.toNat)):=Y6 λi j _ _ _ _ _ hc q=>
 rshift_int hc (by rw[GM i (iK _)]; exact q)
theorem O7:yE X (binaryOp .BitAnd) (uG λi j=>.int (Builtin.bitAnd i j)):=XZ λ_ _ _ _ _ _ _ q=>and_int q
theorem C0:yE X (binaryOp .BitOr) (uG λi j=>.int (Builtin.bitOr i j)):=XZ λ_ _ _ _ _ _ _ q=>or_int q
theorem AG:yE X (binaryOp .BitXor) (uG λi j=>.int (Builtin.bitXor i j)):=XZ λ_ _ _ _ _ _ _ q=>xor_int q
theorem Ep{f:Value->Sem Value}{g:Int->Int}
  (rule:∀(i:Int)(t:Tok)(s:Shared)(Q:Value->Shared->Prop)(E:Value->Shared->Prop),Q (.int (g i) s.toks) { s with toks:=s.toks+1 }->wpAny (model X.prog X.w) X.A (f (.int i t)) Q E s) :
  X2 X f (rU λi=>.int (g i)):=by
 intro z0 s σ H x v Q I rx h;obtain⟨i,rfl,q⟩:=h;obtain⟨t,rfl⟩:=rx;exact rule i t s _ _ ⟨.int (g i),H,I.tok _,⟨_,rfl⟩,q⟩
theorem Et:X2 X (unaryOp .USub) (rU λi=>.int (-i)):=Ep λ_ _ _ _ _ q=>neg_int q
theorem ie:X2 X (unaryOp .Invert) (rU λi=>.int (Builtin.bitNot i)):=Ep λ_ _ _ _ _ q=>invert_int q
theorem Sx:yE X (binaryOp .Add) (λx y H Q=>∃i k,x=.int i/\y=.bl k/\Q (.int (i+b2i k)) H):=by
 intro z0 s σ H x y v u Q I rx ry h;obtain⟨i,k,rfl,rfl,q⟩:=h;obtain⟨t,rfl⟩:=rx;cases ry;exact add_int_bool ⟨.int (i+b2i k),H,I.tok _,⟨_,rfl⟩,q⟩
end
def Od:V->V->Bool
 |.zF,.zF=>true|.zF,.int _=>true|.int _,.zF=>true|.zF,.bl _=>true|.bl _,.zF=>true|.zF,.str _=>true|.str _,.zF=>true
 |.int _,.int _=>true|.bl _,.bl _=>true|.str _,.str _=>true|.byt _,.byt _=>true
 |.int _,.str _=>true|.str _,.int _=>true|.bl _,.str _=>true|.str _,.bl _=>true
 |_,_=>false
def ak:R2:=λx y H Q=>Od x y=true/\Q (.bl (decide (x=y))) H
def aq:R2:=λx y H Q=>Od x y=true/\Q (.bl (!decide (x=y))) H
theorem JG{i j:Int}:decide (V.int i=V.int j)=(i==j):=by
 rw[kZ];simp
theorem JF{i j:Bool}:decide (V.bl i=V.bl j)=(i==j):=by
 rw[kZ];simp
theorem JH{i j:Str}:decide (V.str i=V.str j)=(i==j):=by
 rw[kZ];simp
theorem BW{i j:Array UInt8}:decide (V.byt i=V.byt j)=(i.toList==j.toList):=by
 rw[kZ];cases i;cases j;simp
section
variable{X:Cx}{a b c:Expr}{ta tb tc:TE}{pos:Pos}
theorem xL{z0:List (Addr×Obj)}{σ:St}{H:Hp}{s:Shared}{Q:VK}{k k':Bool}(I:zB X z0 σ H s)(q:Q (.bl k) H)(e:k=k'):EP X z0 σ Q (.bool k') s:=by
 subst e;exact⟨.bl k,H,I,rfl,q⟩
theorem A3:yE X (compareOp .Eq) ak:=by
 intro z0 s σ H x y v u Q I rx ry h;obtain⟨hs,q⟩:=h;cases x with
 |zF=>
  cases rx;cases y with
  |zF=>cases ry; exact PySem.EqNone.eq_none_none (xL I q (by simp))
  |bl j=>cases ry; exact PySem.EqNone.eq_none_bool (xL I q (by simp))
  |int j=>obtain⟨t',rfl⟩:=ry; exact PySem.EqNone.eq_none_int (xL I q (by simp))
  |str j=>obtain⟨t',rfl⟩:=ry; exact PySem.EqNone.eq_none_str (xL I q (by simp))
  |_=>exact absurd (show false=true from hs) xO
 |bl i=>
  cases rx;cases y with
  |zF=>cases ry; exact PySem.EqNone.eq_bool_none (xL I q (by simp))
  |bl j=>cases ry; exact eq_bool (xL I q JF)
  |str j=>obtain⟨t',rfl⟩:=ry; exact PySem.EqMixed.eq_bool_str (xL I q (by simp))
  |_=>exact absurd (show false=true from hs) xO
 |int i=>
  obtain⟨t,rfl⟩:=rx;cases y with
  |zF=>cases ry; exact PySem.EqNone.eq_int_none (xL I q (by simp))
  |int j=>obtain⟨t',rfl⟩:=ry; exact eq_int (xL I q JG)
  |str j=>obtain⟨t',rfl⟩:=ry; exact PySem.EqMixed.eq_int_str (xL I q (by simp))
  |_=>exact absurd (show false=true from hs) xO
 |str i=>
  obtain⟨t,rfl⟩:=rx;cases y with
  |zF=>cases ry; exact PySem.EqNone.eq_str_none (xL I q (by simp))
  |bl j=>cases ry; exact PySem.EqMixed.eq_str_bool (xL I q (by simp))
  |int j=>obtain⟨t',rfl⟩:=ry; exact PySem.EqMixed.eq_str_int (xL I q (by simp))
  |str j=>obtain⟨t',rfl⟩:=ry; exact eq_str (xL I q JH)
  |_=>exact absurd (show false=true from hs) xO
 |byt i=>
  obtain⟨t,rfl⟩:=rx;cases y with
  |byt j=>obtain⟨t',rfl⟩:=ry; exact W.eq_bytes (xL I q BW)
  |_=>exact absurd (show false=true from hs) xO
 |_=>cases y<;>exact absurd (show false=true from hs) xO
theorem A9:yE X (compareOp .NotEq) aq:=by
 intro z0 s σ H x y v u Q I rx ry h;obtain⟨hs,q⟩:=h;cases x with
 |zF=>
  cases rx;cases y with
  |zF=>cases ry; exact PySem.EqNone.ne_none_none (xL I q (by simp))
  |bl j=>cases ry; exact PySem.EqNone.ne_none_bool (xL I q (by simp))
  |int j=>obtain⟨t',rfl⟩:=ry; exact PySem.EqNone.ne_none_int (xL I q (by simp))
  |str j=>obtain⟨t',rfl⟩:=ry; exact PySem.EqNone.ne_none_str (xL I q (by simp))
  |_=>exact absurd (show false=true from hs) xO
 |bl i=>
  cases rx;cases y with
  |zF=>cases ry; exact PySem.EqNone.ne_bool_none (xL I q (by simp))
  |bl j=>cases ry; exact ne_bool (xL I q (congrArg not JF))
  |str j=>obtain⟨t',rfl⟩:=ry; exact PySem.EqMixed.ne_bool_str (xL I q (by simp))
  |_=>exact absurd (show false=true from hs) xO
 |int i=>
  obtain⟨t,rfl⟩:=rx;cases y with
  |zF=>cases ry; exact PySem.EqNone.ne_int_none (xL I q (by simp))
  |int j=>obtain⟨t',rfl⟩:=ry; exact ne_int (xL I q (congrArg not JG))
  |str j=>obtain⟨t',rfl⟩:=ry; exact PySem.EqMixed.ne_int_str (xL I q (by simp))
  |_=>exact absurd (show false=true from hs) xO
 |str i=>
  obtain⟨t,rfl⟩:=rx;cases y with
  |zF=>cases ry; exact PySem.EqNone.ne_str_none (xL I q (by simp))
  |bl j=>cases ry; exact PySem.EqMixed.ne_str_bool (xL I q (by simp))
  |int j=>obtain⟨t',rfl⟩:=ry; exact PySem.EqMixed.ne_str_int (xL I q (by simp))
  |str j=>obtain⟨t',rfl⟩:=ry; exact ne_str (xL I q (congrArg not JH))
  |_=>exact absurd (show false=true from hs) xO
 |byt i=>
  obtain⟨t,rfl⟩:=rx;cases y with
  |byt j=>obtain⟨t',rfl⟩:=ry; exact W.ne_bytes (xL I q (congrArg not BW))
  |_=>exact absurd (show false=true from hs) xO
 |_=>cases y<;>exact absurd (show false=true from hs) xO
theorem T2:yE X (compareOp .Lt) (uG λi j=>.bl (decide (i<j))):=T0 λ_ _ _ _ _ _ _ q=>lt_int q
theorem Fz:yE X (compareOp .LtE) (uG λi j=>.bl (decide (i<=j))):=T0 λ_ _ _ _ _ _ _ q=>le_int q
theorem A4:yE X (compareOp .Gt) (uG λi j=>.bl (decide (j<i))):=T0 λ_ _ _ _ _ _ _ q=>gt_int q
theorem Fx:yE X (compareOp .GtE) (uG λi j=>.bl (decide (j<=i))):=T0 λ_ _ _ _ _ _ _ q=>ge_int q
theorem A7:yE X (compareOp .In) (λx y H Q=>∃i j,x=.str i/\y=.str j/\Q (.bl (!(Builtin.Str.occurrences j i 0 j.length 1).isEmpty)) H):=by
 intro z0 s σ H x y v u Q I rx ry h;obtain⟨i,j,rfl,rfl,q⟩:=h;obtain⟨t,rfl⟩:=rx;obtain⟨t',rfl⟩:=ry;exact in_str (xL I q rfl)
theorem Fy:yE X (compareOp .Is) (λx y H Q=>y=.zF/\Q (.bl (decide (x=.zF))) H):=by
 intro z0 s σ H x y v u Q I rx ry h;obtain⟨rfl,q⟩:=h;cases ry;refine is_none_gen (xL I q ?_)
 cases x<;>first
  |(cases rx; rfl)
  |(obtain⟨t,rfl⟩:=rx; rfl)
theorem AE:yE X (compareOp .IsNot) (λx y H Q=>y=.zF/\Q (.bl (!decide (x=.zF))) H):=by
 intro z0 s σ H x y v u Q I rx ry h;obtain⟨rfl,q⟩:=h;cases ry;refine isnot_none_gen (xL I q ?_)
 cases x<;>first
  |(cases rx; rfl)
  |(obtain⟨t,rfl⟩:=rx; rfl)
theorem yE.or{f:Value->Value->Sem Value}{r r':R2}(h:yE X f r)(h':yE X f r'):yE X f (λx y H Q=>r x y H Q\/r' x y H Q):=by
 intro z0 s σ H x y v u Q I rx ry q;rcases q with q|q
 ·exact h z0 s σ H x y v u Q I rx ry q
 ·exact h' z0 s σ H x y v u Q I rx ry q
theorem yJ(b:Expr){op:CmpOp}(h:op≠.In:=by decide)(h2:op≠.NotIn:=by decide):behindInMarks op b=false:=by
 have e1:(op==CmpOp.In)=false:=by cases op<;>first|rfl|exact absurd rfl h
 have e2:(op==CmpOp.NotIn)=false:=by cases op<;>first|rfl|exact absurd rfl h2
 cases b<;>simp[behindInMarks,e1,e2]
theorem AY{op:CmpOp}{r:R2}(ho:yE X (compareOp op) r)(ha:PE X a ta)(hb:PE X b tb)(hm:behindInMarks op b=false):PE X (.Compare a [op] [b] pos) (TZ r ta tb):=by
 intro z0 s σ H Q I h;exact wpAny_Compare1 (Q_ ha hb I h λv u s2 x y H2 I2 rx ry q=>ho z0 s2 σ H2 x y v u Q I2 rx ry q) hm
def fR(t:TE):TT:=λσ H Q=>t σ H λx H'=>∃k,x=.bl k/\Q k H'
theorem OH{op:CmpOp}{r:R2}(ho:yE X (compareOp op) r)(ha:PE X a ta)(hb:PE X b tb)(hm:behindInMarks op b=false):PT X (.Compare a [op] [b] pos) (fR (TZ r ta tb)):=by
 intro z0 s σ H Q I h
 refine wpAny_isTrue_Compare1 (ze (ha z0 s σ H _ I h) λv s1 ⟨x,H1,I1,r1,q1⟩=>ze (hb z0 s1 σ H1 _ I1 q1) λu s2 ⟨y,H2,I2,r2,q2⟩=>
  ze (ho z0 s2 σ H2 x y v u _ I2 r1 r2 q2) λc s3 ⟨z,H3,I3,r3,k,e,q3⟩=>?_) hm
 subst e;cases r3;exact Yq ⟨H3,I3,q3⟩
def eY(r r':R2)(ta tb tc:TE):TE:=λσ H Q=>ta σ H λx H1=>tb σ H1 λy H2=>r x y H2 λz H3=>∃k,z=.bl k/\
 (if k=true then tc σ H3 λw' H4=>r' y w' H4 Q else Q (.bl false) H3)
theorem AW{op op':CmpOp}{r r':R2}(ho:yE X (compareOp op) r)(ho':yE X (compareOp op') r')(ha:PE X a ta)(hb:PE X b tb)(hc:PE X c tc)
  (hm:lastMarks [op,op'] [b,c]=false:=by with_unfolding_all rfl):PE X (.Compare a [op,op'] [b,c] pos) (eY r r' ta tb tc):=by
 intro z0 s σ H Q I h
 refine Compare_chain (ze (ha z0 s σ H _ I h) λv s1 ⟨x,H1,I1,r1,q1⟩=>chain_link (ze (hb z0 s1 σ H1 _ I1 q1) λu s2 ⟨y,H2,I2,r2,q2⟩=>
  ze (ho z0 s2 σ H2 x y v u _ I2 r1 r2 q2) λd s3 ⟨z,H3,I3,r3,k,e,q3⟩=>?_)) hm
 subst e;cases r3;refine Yq ?_;cases k with
 |false=>exact ite_ff ⟨.bl false,H3,I3,rfl,q3⟩
 |true=>exact ite_tt (chain_last (ze (hc z0 s3 σ H3 _ I3 q3) λw' s4 ⟨z',H4,I4,r4,q4⟩=>ho' z0 s4 σ H4 y z' u w' Q I4 r2 r4 q4))
theorem kF:(sizeLine:Nat)<2 ^ 63:=by rw[xM]; decide
theorem Sy:yE X (binaryOp .Add) (λx y H Q=>∃i j,x=.str i/\y=.str j/\i.length+j.length<=sizeLine/\Q (.str (i++j)) H):=by
 intro z0 s σ H x y v u Q I rx ry h;obtain⟨i,j,rfl,rfl,hz,q⟩:=h;obtain⟨t,rfl⟩:=rx;obtain⟨t',rfl⟩:=ry;exact add_str (λt' tk=>⟨.str (i++j),H,I.tok _,⟨_,rfl⟩,q⟩) hz
theorem vU{x:V}{us:List Value}(r:zc [x] us):∃u,us=[u]/\zd x u:=by
 cases r with
 |cons r1 r2=>cases r2; exact⟨_,rfl,r1⟩
theorem L7{x y:V}{us:List Value}(r:zc [x,y] us):∃u w',us=[u,w']/\zd x u/\zd y w':=by
 cases r with
 |cons r1 r2=>
  cases r2 with
  |cons r3 r4=>cases r4; exact⟨_,_,rfl,r1,r3⟩
theorem Ho:xY X (.type "int") (λxs H Q=>(∃i,xs=[.int i]/\Q (.int i) H)\/∃k,xs=[.bl k]/\Q (.int (if k then 1 else 0)) H):=by
 intro z0 s σ H xs us Q I r h;rcases h with⟨i,rfl,q⟩|⟨k,rfl,q⟩
 ·obtain⟨u,rfl,t,rfl⟩:=vU r;exact call_int_int ⟨.int i,H,I,⟨_,rfl⟩,q⟩
 ·obtain⟨u,rfl,r1⟩:=vU r;cases r1;exact call_int_bool ⟨.int (if k then 1 else 0),H,I.tok _,⟨_,rfl⟩,q⟩
end
structure gg(h:Heap)(x dx C:Addr)(mA:Str->Option Value):Prop where
 obj:h.get? x=some (W.instObj C dx)
 ns:h.Ns1 dx mA
 ne:dx≠x
theorem Pi{h:Heap}{dx:Addr}{mA:Str->Option Value}(n:h.Ns1 dx mA):∃od,h.get? dx=some od/\∀name,W.lookIn name od=some (mA name):=by
 obtain⟨o,es,ep,ho,hd,hk,_,hm⟩:=n;refine⟨o,ho,λname=>?_⟩;have e:=hm name;unfold nsFind findBy at e;rw[<-Array.find?_toList]at e;unfold W.lookIn;rw[hd];dsimp only
 split
 ·rename_i y q;rw[q]at e;exact congrArg some e
 ·rename_i q;rw[q]at e
  have a:es.toList.any (·.refKey)=false:=by
   rw[Lf];intro y hy;obtain⟨z,t,hkey⟩:=hk y (Array.mem_toList_iff.mp hy);simp[DictEntry.refKey,hkey]
  have a':¬ es.toList.any (·.refKey)=true:=by rw[a]; exact xO
  rw[zK a'];exact congrArg some e
theorem gg.look{h:Heap}{x dx C:Addr}{mA:Str->Option Value}(I:gg h x dx C mA):∃od,W.InstAt h x (W.instObj C dx) C (some od)/\∀name,W.lookIn name od=some (mA name):=
 let ⟨od,ho,hl⟩:=Pi I.ns
 ⟨od,⟨I.obj,rfl,rfl,ho⟩,hl⟩
section
variable{prog:Program}{w:World}{A:Around}{E:Value->Shared->Prop}{s:Shared}{K:W.Frag}{x dx C f:Addr}{mA:Str->Option Value}{name:Str}{v:Value}
theorem Ki{expr:Bool}{Q:Value->Shared->Prop}(X:K.In s.heap)(I:gg s.heap x dx C mA)(hg:W.plainGet K C name=true)(hh:W.hasDictIn K C=true)
  (ha:W.findIn K (.ref C) name=some none)(hv:mA name=some v)(hv':W.handedIn v=true)(h:Q v { s with toks:=s.toks+1 }) :
  wpAny (model prog w) A (getAttr (.ref x) name expr) Q E s:=by
 obtain⟨od,J,hl⟩:=I.look;exact W.get_value X J (W.plainGet_of hg).1 (W.findObj_own hh ha rfl (by rw[hl,hv])) hv' h
theorem Kj{pl:Sem Bool}{Q:Value×List Value->Shared->Prop}(X:K.In s.heap)(I:gg s.heap x dx C mA)(hg:W.plainGet K C name=true)
  (hf:W.findIn K (.ref C) name=some (some (.ref f)))(ht:W.isFn K (.ref f)=true)(hv:mA name=none)(h:Q (.ref f,[.ref x]) s) :
  wpAny (model prog w) A (getMethod (.ref x) name pl) Q E s:=by
 obtain⟨od,J,hl⟩:=I.look;exact W.method_fn X J (W.plainGet_of hg).1 (W.plainGet_of hg).2 hf (gD.mp ht) (by show(W.lookIn name od).map (·.isSome)=some false; rw[hl,hv]; rfl) h
theorem dS{ns:List Str}{Q:Unit->Shared->Prop}(X:K.In s.heap)(I:gg s.heap x dx C mA)
  (hs:W.findIn K (.ref C) "__setattr__" = some (some (.builtin "object.__setattr__")))(hp:W.plainOver K C=true)(ht:W.takerIn K C name=some none)(hh:W.hasDictIn K C=true)
  (hw:PySem.Within mA ns)(hsz:ns.length<=sizeLine)
  (h:∀h',gg h' x dx C (λy=>if y=name then some v else mA y)->Heap.SameBut dx s.heap h'->Q () { s with heap:=h',toks:=s.toks+2 }) :
  wpAny (model prog w) A (setAttr (.ref x) name v) Q E s:=by
 obtain⟨od,J,hl⟩:=I.look;refine W.set_plain X J hs (W.osa_open (s:={ s with toks:=s.toks+1 }) (r:=none) X J hp ht λb=>?_);obtain⟨cd,hc,hd'⟩:=W.any_some hh;have hx:s.heap.get? x=some ⟨.ref C,some dx,.plain,#[]⟩:=I.obj;refine zO (yG (zO (zO (wpAny_loadPart hx (zO (W.Looks.here (s:={ s with toks:=s.toks+1 }) (W.looks_clsIn X hc) ?_))))));rw[hd'];refine yG (a:=some dx) (zO (yG (zO ?_)));refine wpAny_nsSet1 (s:={ s with toks:=s.toks+1 }) I.ns λh' hn2 hs2=>?_
 obtain⟨oD,esD,epD,hoD,hdD,hcD⟩:=hn2.count (PySem.Within.cons name v hw);refine zO (wpAny_lookBehind hoD (by rw[hdD]; exact pastItsLine_dict (wo hcD (by rw[yO]; omega))) ?_);exact yG (h _ ⟨(hs2.2 _ (jD I.ne)).trans I.obj,hn2,I.ne⟩ hs2)
theorem Pm{R:Result->Shared->Prop}{vs:List Value}{kw:List (Str×Value)}(X:K.In s.heap)(hm:W.makesIn K C=true)
  (hi:W.findIn K (.ref C) "__init__" = some (some (.ref f)))(hf:W.typeIn K (.ref f)=some (.type "function"))
  (h:codeAny (model prog w) (A.under (.builtin "type.__call__" ⟨.ref C::vs,kw⟩)) (.call (.ref f) ⟨.ref (s.heap.objs.size+1)::vs,kw⟩) (W.InitBack (s.heap.objs.size+1) R)
   { s with heap:=(s.heap.push W.emptyDict).push (W.instObj C s.heap.objs.size) }) :
  codeAny (model prog w) A (.call (.ref C) ⟨vs,kw⟩) R s:=by
 obtain⟨hh,g,d,t,os⟩:=s;exact W.make_core (W.makes_of X hm) (W.looks_findIn X hi) (λself=>W.bind_fn X self hf) (.inl rfl) h
end
def putF(f:Str)(v:V):List (Str×V)->List (Str×V)
 | []=>[(f,v)]
 |(g,x)::r=>if g=f then(g,v)::r else(g,x)::putF f v r
theorem Dp(f g:Str)(v:V):∀fs:List (Str×V),(putF f v fs).lookup g=if g=f then some v else fs.lookup g
 | []=>by
  show List.lookup g [(f,v)]=_;by_cases h:g=f
  ·have hb:(g==f)=true:=gD.mpr h;simp only[List.lookup,hb,zI h]
  ·have hb:(g==f)=false:=jF.mpr h;simp only[List.lookup,hb,zK h]
 |(k,x)::r=>by
  have ih:=Dp f g v r;rw[show putF f v ((k,x)::r)=(if k=f then(k,v)::r else(k,x)::putF f v r)from rfl];by_cases hk:k=f
  ·rw[zI hk];by_cases h:g=k
   ·have hb:(g==k)=true:=gD.mpr h;simp only[List.lookup,hb,zI (h.trans hk)]
   ·have hb:(g==k)=false:=jF.mpr h;simp only[List.lookup,hb,zK (λe:g=f=>h (e.trans hk.symm))]
  ·rw[zK hk];by_cases h:g=k
   ·have hb:(g==k)=true:=gD.mpr h;simp only[List.lookup,hb,zK (λe:g=f=>hk (h.symm.trans e))]
   ·have hb:(g==k)=false:=jF.mpr h;simp only[List.lookup,hb];exact ih
theorem IV(f:Str)(v:V):∀fs:List (Str×V),f∈(putF f v fs).map (·.1)/\∀g,g∈fs.map (·.1)->g∈(putF f v fs).map (·.1)
 | []=>⟨by simp[putF],λg h=>by simp at h⟩
 |(k,x)::r=>by
  obtain⟨i1,i2⟩:=IV f v r;rw[show putF f v ((k,x)::r)=(if k=f then(k,v)::r else(k,x)::putF f v r)from rfl];by_cases hk:k=f
  ·rw[zI hk];subst hk;exact⟨by simp,λg h=>by simpa using h⟩
  ·rw[zK hk];refine⟨?_,λg h=>?_⟩
   ·rw[xA];exact xP _ i1
   ·rw[xA]at h ⊢;rcases yY.mp h with e|e
    ·exact yY.mpr (.inl e)
    ·exact xP _ (i2 g e)
theorem Dl(f:Str)(v:V):∀fs:List (Str×V),(putF f v fs).length<=fs.length+1
 | []=>by simp[putF]
 |(k,x)::r=>by
  have ih:=Dl f v r;rw[show putF f v ((k,x)::r)=(if k=f then(k,v)::r else(k,x)::putF f v r)from rfl];by_cases hk:k=f
  ·rw[zI hk,yO,yO]; omega
  ·rw[zK hk,yO,yO]; omega
theorem wv.some_of{v:V}{o:Option Value}(r:wv (some v) o):∃u,o=some u/\zd v u:=by
 cases o with
 |none=>exact(show False from r).elim
 |some u=>exact⟨u,rfl,r⟩
theorem wv.none_of{o:Option Value}(r:wv none o):o=none:=by
 cases o with
 |none=>rfl
 |some u=>exact(show False from r).elim
theorem NY{v:V}{u:Value}(r:zd v u):W.handedIn u=true:=by
 cases v with
 |zF=>cases(show u=Value.none from r); rfl
 |bl b=>cases(show u=Value.bool b from r); rfl
 |int i=>obtain⟨t,e⟩:=(show ∃t,u=Value.int i t from r); cases e; rfl
 |str x=>obtain⟨t,e⟩:=(show ∃t,u=Value.str x t from r); cases e; rfl
 |byt b=>obtain⟨t,e⟩:=(show ∃t,u=Value.bytes b t from r); cases e; rfl
 |gH b=>obtain⟨t,e⟩:=(show ∃t,u=Value.float b t from r); cases e; rfl
 |ref a=>cases(show u=Value.ref a from r); rfl
 |ty n=>cases(show u=Value.type n from r); rfl
section
variable{P:Program}{w:World}{H H':Hp}{h h':Heap}{a C dx:Addr}{fs fs':List (Str×V)}
theorem Ui(zZ:xF P w H h)(e:H a=some (.ins C dx fs)):∃mA,gg h a dx C mA/\(∀f,wv (fs.lookup f) (mA f))/\PySem.Within mA (fs.map (·.1))/\fs.length<=1000/\H dx=some (.own a):=by
 obtain⟨d,z,ne,ob,mA,n,r,q⟩:=(show xG P w H h a (.ins C dx fs)from zZ a _ e);exact⟨mA,⟨ob,n,ne⟩,r,q,z,d⟩
end
structure v_(K:W.Frag)(C:Addr):Prop where
 pg:W.plainGet K C Str.empty=true
 hd:W.hasDictIn K C=true
 po:W.plainOver K C=true
 sa:W.findIn K (.ref C) "__setattr__" = some (some (.builtin "object.__setattr__"))
theorem v_.get{K:W.Frag}{C:Addr}(c:v_ K C)(f:Str):W.plainGet K C f=true:=c.pg
def jV(K:W.Frag)(C:Addr)(f:Str):Prop:=W.findIn K (.ref C) f=some none
theorem jV.Gk{K:W.Frag}{C:Addr}{f:Str}(n:jV K C f):W.takerIn K C f=some none:=by
 unfold W.takerIn;rw[show W.findIn K (.ref C) f=some none from n];rfl
structure Qg(K:W.Frag)(C:Addr)(m:Str)(f:Addr):Prop where
 at_:W.findIn K (.ref C) m=some (some (.ref f))
 fn:W.isFn K (.ref f)=true
 kp:W.keepIn K (.ref f)=true
section
variable{X:Cx}{z0:List (Addr×Obj)}{σ:St}{H:Hp}{s:Shared}{a C dx:Addr}{fs:List (Str×V)}{f:Str}{v:V}{A:Around}{E:Value->Shared->Prop}
theorem DB{b:Bool}{Q:Value->Shared->Prop}(I:zB X z0 σ H s)(e:H a=some (.ins C dx fs))(c:v_ X.K C)(n:jV X.K C f)(l:fs.lookup f=some v)
  (h:∀u s',zB X z0 σ H s'->zd v u->Q u s'):wpAny (model X.prog X.w) A (getAttr (.ref a) f b) Q E s:=by
 obtain⟨mA,O,r,_,_,_⟩:=Ui I.zZ e;obtain⟨u,hu,ru⟩:=wv.some_of (v:=v) (o:=mA f) (by rw[<-l]; exact r f);exact Ki I.xN O (c.get f) c.hd n hu (NY ru) (h u _ (I.tok _) ru)
theorem Kl{m:Str}{g:Addr}{pl:Sem Bool}{Q:Value×List Value->Shared->Prop}(I:zB X z0 σ H s)(e:H a=some (.ins C dx fs))(c:v_ X.K C)(k:Qg X.K C m g)(l:fs.lookup m=none)
  (h:Q (.ref g,[.ref a]) s):wpAny (model X.prog X.w) A (getMethod (.ref a) m pl) Q E s:=by
 obtain⟨mA,O,r,_,_,_⟩:=Ui I.zZ e;have hn:mA m=none:=wv.none_of (by rw[<-l]; exact r m);exact Kj I.xN O (c.get m) k.at_ k.fn hn h
theorem EU{y:V}{u:Value}{Q:Unit->Shared->Prop}(I:zB X z0 σ H s)(e:H a=some (.ins C dx fs))(c:v_ X.K C)(n:jV X.K C f)(hl:fs.length<1000)(ry:zd y u)
  (h:∀s',zB X z0 σ (zS H a (.ins C dx (putF f y fs))) s'->Q () s'):wpAny (model X.prog X.w) A (setAttr (.ref a) f u) Q E s:=by
 obtain⟨mA,O,r,wi,_,ho⟩:=Ui I.zZ e;have hz:(fs.map (·.1)).length<=sizeLine:=by rw[zo,xM]; omega
 refine dS I.xN O c.sa c.po n.Gk c.hd wi hz λh' O' sb=>h _ ?_
 have hd:∃o,h'.get? dx=some o:=let ⟨o,_,_,e',_⟩:=O'.ns; ⟨o,e'⟩;refine I.write (x:=a) (e:=dx) (by rw[e]; exact True.intro) (.inr ho) (λb q hb z=>(sb.2 b hb).trans z) hd ?_;refine⟨by rw[yK O.ne]; exact ho,?_,O.ne,O'.obj,_,O'.ns,λg=>?_,λg hg=>?_⟩
 ·have:=Dl f y fs; omega
 ·show wv ((putF f y fs).lookup g) (if g=f then some u else mA g);rw[Dp];by_cases q:g=f
  ·rw[zI q,zI q]; exact ry
  ·rw[zK q,zK q]; exact r g
 ·by_cases q:g=f
  ·rw[q]; exact(IV f y fs).1
  ·refine(IV f y fs).2 g (wi g λz=>hg ?_);show(if g=f then some u else mA g)=none;rw[zK q]; exact z
theorem zB.made(I:zB X z0 σ H s):zB X z0 σ (zS (zS H s.heap.objs.size (.own (s.heap.objs.size+1))) (s.heap.objs.size+1) (.ins C s.heap.objs.size []))
  { s with heap:=(s.heap.push W.emptyDict).push (W.instObj C s.heap.objs.size) }:=by
 have e1:(s.heap.push W.emptyDict).get? s.heap.objs.size=some W.emptyDict:=Heap.get?_push_size s.heap rfl
 have e2:((s.heap.push W.emptyDict).push (W.instObj C s.heap.objs.size)).get? (s.heap.objs.size+1)=some (W.instObj C s.heap.objs.size):=by
  have:=Heap.get?_push_size (s.heap.push W.emptyDict) (o:=W.instObj C s.heap.objs.size) rfl
  rwa [Heap.size_push]at this
 have e3:(s.heap.push W.emptyDict).Ns s.heap.objs.size (λ_=>none):=⟨W.emptyDict,#[],_,e1,rfl,(λe he=>absurd he (by simp)),λ_=>rfl⟩;have I1:=I.laid (a:=s.heap.objs.size) (o:=.own (s.heap.objs.size+1)) (h':=s.heap.push W.emptyDict) (t':=s.toks) (λb u q=>Heap.get?_push_of_some _ q) (yF _) ⟨_,e1⟩;refine I1.laid (a:=s.heap.objs.size+1) (o:=.ins C s.heap.objs.size []) (t':=s.toks) (λb u q=>Heap.get?_push_of_some _ q) (Tx (Heap.size_push _ _)) ?_;have ne:s.heap.objs.size≠s.heap.objs.size+1:=xz (kf _);refine⟨by rw[yK ne,yT],vi _,ne,e2,λ_=>none,(Heap.Ns1.of_empty e3).at λo q=>Heap.get?_push_of_some _ q,λ_=>True.intro,λy hy=>absurd rfl hy⟩
theorem HH{prog:Program}{w:World}{env:Env}{e:Expr}{f:Str}{pos:Pos}{s:Shared}{Q:Value->Shared->Prop}(hb:attributeBase e f env (eval e env)=eval e env)
  (h:wpAny (model prog w) A (eval e env) (λo s₁=>wpAny (model prog w) A (getAttr o f true) Q E s₁) E s):wpAny (model prog w) A (eval (.Attribute e f pos) env) Q E s:=
 Attribute_any_ h (by rw[arm_eval_Attribute,hb])
end
def ek(K:W.Frag)(ta:TE)(f:Str):TE:=λσ H Q=>ta σ H λx H1=>∃a C dx fs v,x=.ref a/\H1 a=some (.ins C dx fs)/\v_ K C/\jV K C f/\fs.lookup f=some v/\Q v H1
def cH(K:W.Frag)(ta tv:TE)(f:Str):TS:=λD σ H=>tv σ H λy H1=>ta σ H1 λx H2=>∃a C dx fs,x=.ref a/\H2 a=some (.ins C dx fs)/\v_ K C/\jV K C f/\fs.length<1000/\
 D.nx σ (zS H2 a (.ins C dx (putF f y fs)))
def QY(X:Cx)(op:Operator)(rd:V->V->Hp->VK->Prop):Prop:=
 ∀(z0:List (Addr×Obj)) (s:Shared) (σ:St) (H:Hp) (x y:V) (u v:Value) (Q:VK),zB X z0 σ H s->zd x u->zd y v->rd x y H Q->wpAny (model X.prog X.w) X.A (inplaceOp op u v) (EP X z0 σ Q) X.xe s
def cI(K:W.Frag)(ta tv:TE)(rd:V->V->Hp->VK->Prop)(f:Str):TS:=λD σ H=>ta σ H λx H1=>∃a C dx fs v,x=.ref a/\H1 a=some (.ins C dx fs)/\v_ K C/\jV K C f/\fs.lookup f=some v/\
 tv σ H1 λy H2=>rd v y H2 λz H3=>∃dx' fs',H3 a=some (.ins C dx' fs')/\fs'.length<1000/\D.nx σ (zS H3 a (.ins C dx' (putF f z fs')))
section
variable{X:Cx}{o e value:Expr}{f:Str}{pos pos' tpos:Pos}{ta tv:TE}
theorem C7(he:PE X e ta)(hb:attributeBase e f X.env (eval e X.env)=eval e X.env):PE X (.Attribute e f pos) (ek X.K ta f):=by
 intro z0 s σ H Q I h;refine HH hb (ze (he z0 s σ H _ I h) λu s1 ⟨x,H1,I1,rx,a,C,dx,fs,v,ex,ea,c,n,l,q⟩=>?_);subst ex;obtain rfl:u=Value.ref a:=rx;exact DB I1 ea c n l λu' s2 I2 ru=>⟨v,H1,I2,ru,q⟩
theorem aI(ha:PE X o ta)(hv:PE X value tv)(hs:swapsWith value (some (.Attribute o f pos')) pos.line X.env=pure false):PS X (.Assign [.Attribute o f pos'] value pos) (cH X.K ta tv f):=by
 intro z0 s σ H D I h;refine plainObj_wpAny_Assign_Attribute (ze (hv z0 s σ H _ I h) λu s1 ⟨y,H1,I1,ry,q⟩=>ze (ha z0 s1 σ H1 _ I1 q) λov s2 ⟨x,H2,I2,rx,a,C,dx,fs,ex,ea,c,n,l,q2⟩=>?_) hs;subst ex;obtain rfl:ov=Value.ref a:=rx;exact EU I2 ea c n l ry λs3 I3=>⟨σ,_,I3,q2⟩
theorem aJ{op:Operator}{rd:V->V->Hp->VK->Prop}(ha:PE X o ta)(hv:PE X value tv)(hop:QY X op rd):PS X (.AugAssign (.Attribute o f tpos) op value pos) (cI X.K ta tv rd f):=by
 intro z0 s σ H D I h;refine wpAny_AugAssign_AttributeAny (ze (ha z0 s σ H _ I h) λov s1 ⟨x,H1,I1,rx,a,C,dx,fs,v,ex,ea,c,n,l,q⟩=>?_);subst ex;obtain rfl:ov=Value.ref a:=rx;refine DB I1 ea c n l λu s2 I2 ru=>ze (hv z0 s2 σ H1 _ I2 q) λw3 s3 ⟨y,H2,I3,ry,q3⟩=>ze (hop z0 s3 σ H2 v y u w3 _ I3 ru ry q3) λw4 s4 ⟨z,H3,I4,rz,dx',fs',ea',l',q4⟩=>?_
 exact EU I4 ea' c n l' rz λs5 I5=>⟨σ,_,I5,q4⟩
def ah:V->V->Hp->VK->Prop:=λx y H Q=>∃i j,x=.int i/\y=.int j/\Q (.int (i+j)) H
theorem DL:QY X .Add ah:=by
 rintro z0 s σ H x y u v Q I rx ry ⟨i,j,rfl,rfl,q⟩;obtain⟨t,rfl⟩:=(show ∃t,u=Value.int i t from rx);obtain⟨t',rfl⟩:=(show ∃t',v=Value.int j t' from ry);exact PyProof.Rows.iadd_int ⟨.int (i+j),H,I.tok _,⟨_,rfl⟩,q⟩
end
section
variable{X:Cx}{z0:List (Addr×Obj)}{σ:St}{H:Hp}{s:Shared}{A:Around}{E:Value->Shared->Prop}{Q:Value->Shared->Prop}{c:Value}{b:Bool}
inductive tN(K:PySem.W.Frag)(H:Hp):V->Value->Prop where
 |zF:tN K H .zF (.type "NoneType")
 |bl (x:Bool):tN K H (.bl x) (.type "bool")
 |int (i:Int):tN K H (.int i) (.type "int")
 |str (x:Str):tN K H (.str x) (.type "str")
 |gH (x:UInt64):tN K H (.gH x) (.type "float")
 |lst {a:Addr} {xs:List V} (e:H a=some (.lst xs)):tN K H (.ref a) (.type "list")
 |wC {a:Addr} {o:Obj} {xs:List V} (e:H a=some (.wC o (.lst xs))):tN K H (.ref a) (.type "list")
 |tup {a:Addr} {xs:List V} (e:H a=some (.tup xs)):tN K H (.ref a) (.type "tuple")
 |dK {a:Addr} {kvs:List (zN×V)} (e:H a=some (.dK kvs)):tN K H (.ref a) (.type "dict")
 |dT {a:Addr} {kvs:List (List zN×V)} (e:H a=some (.dT kvs)):tN K H (.ref a) (.type "dict")
 |ins {a C dx:Addr} {fs:List (Str×V)} (e:H a=some (.ins C dx fs)) (cl:v_ K C) (ha:PySem.W.findIn K (.ref C) "__class__" = some (some (.builtin "object.__class__")))
   (hn:PySem.W.specialIn K (.builtin "object.__class__") "__get__" = some (some (.builtin "getset_descriptor.__get__"))) (htk:PySem.W.takesIn K (.builtin "object.__class__")=some true)
   (hm:PySem.W.mroIn K C (.type "object")=some true):tN K H (.ref a) (.ref C)
theorem Um{x:V}{u t:Value}(I:zB X z0 σ H s)(rx:zd x u)(ty:tN X.K H x t)(e:W.kitOne X.K t c=some b)(h:∀tk,Q (.bool b) { s with toks:=tk }) :
  wpAny (model X.prog X.w) A (call (.builtin "isinstance") [u,c]) Q E s:=by
 cases ty with
 |zF=>cases(show u=Value.none from rx); exact W.kia_one W.kitx_none I.xN True.intro e (λz=>nomatch z) h
 |bl y=>cases(show u=Value.bool y from rx); exact W.kia_one W.kitx_bool I.xN True.intro e (λz=>nomatch z) h
 |int i=>obtain⟨t,q⟩:=(show ∃t,u=Value.int i t from rx); cases q; exact W.kia_one W.kitx_int I.xN True.intro e (λz=>nomatch z) h
 |str y=>obtain⟨t,q⟩:=(show ∃t,u=Value.str y t from rx); cases q; exact W.kia_one W.kitx_str I.xN True.intro e (λz=>nomatch z) h
 |gH y=>obtain⟨t,q⟩:=(show ∃t,u=Value.float y t from rx); cases q; exact W.kia_one W.kitx_float I.xN True.intro e (λz=>nomatch z) h
 |@lst a xs ea=>
  cases(show u=Value.ref a from rx);obtain⟨_,_,n,_,h1⟩:=(show xG X.prog X.w H s.heap a (.lst xs)from I.zZ a _ ea);exact W.kia_one W.kitx_list I.xN ⟨_,h1,rfl⟩ e (λz=>nomatch z) h
 |@wC a ob xs ea=>
  cases(show u=Value.ref a from rx);obtain⟨_,_,_,n,_,h1⟩:=(show xG X.prog X.w H s.heap a (.wC ob (.lst xs))from I.zZ a _ ea);exact W.kia_one W.kitx_list I.xN ⟨_,h1,rfl⟩ e (λz=>nomatch z) h
 |@tup a xs ea=>
  cases(show u=Value.ref a from rx);obtain⟨_,_,_,p⟩:=(show xG X.prog X.w H s.heap a (.tup xs)from I.zZ a _ ea);obtain⟨o,h1,h2,_⟩:=p;exact W.kia_one W.kitx_tuple I.xN ⟨o,h1,h2⟩ e (λz=>nomatch z) h
 |@dK a kvs ea=>
  cases(show u=Value.ref a from rx);obtain⟨_,_,vs,_,p⟩:=(show xG X.prog X.w H s.heap a (.dK kvs)from I.zZ a _ ea);obtain⟨o,es,ep,h1,h2,_⟩:=p;exact W.kia_one W.kitx_dict I.xN ⟨o,h1,h2.1⟩ e (λz=>nomatch z) h
 |@dT a kvs ea=>
  cases(show u=Value.ref a from rx);obtain⟨_,_,xs,_,o,es,ep,h1,h2,_⟩:=(show xG X.prog X.w H s.heap a (.dT kvs)from I.zZ a _ ea);exact W.kia_one W.kitx_dict I.xN ⟨o,h1,h2.1⟩ e (λz=>nomatch z) h
 |@ins a C dx fs ea cl ha hn htk hm=>
  cases(show u=Value.ref a from rx);obtain⟨mA,O,_⟩:=Ui I.zZ ea;obtain⟨od,J,_⟩:=O.look;exact W.kia_one (W.kitx_own (cl.get _) cl.hd ha hn htk hm) I.xN J e (λz=>nomatch z) h
end
structure yS(k:Nat)(A:Around):Prop where
 hd:A.handled=none
 dp:A.depth+3*k+5<recursionLimit
 un:A.units+16*k+200<cLine
 gd:A.guards=some []
theorem yS.mono{j k:Nat}{A:Around}(r:yS k A)(h:j<=k):yS j A:=⟨r.hd,by have:=r.dp; omega,by have:=r.un; omega,r.gd⟩
theorem yS.deeper{k:Nat}{A:Around}(r:yS (k+1) A)(env:Env):yS k (A.deeper env):=
 ⟨r.hd,by have:=r.dp; show A.depth+1+3*k+5<_; omega,by have:=r.un; show A.units+3+16*k+200<_; omega,by first|exact r.gd|simp[Around.under,Code.guards,pushGuards,r.gd]⟩
theorem Pl{A:Around}{C:Addr}{us:List Value}{kw:List (Str×Value)}:(A.under (.builtin "type.__call__" ⟨.ref C::us,kw⟩)).depth=A.depth+1:=by
 first|rfl|simp[Around.under,Code.weight,Code.isCreation,Code.isGuard,Code.isCaller,Code.frames,Code.isFrame,guardIds]
theorem Pn{A:Around}{C:Addr}{us:List Value}{kw:List (Str×Value)}:(A.under (.builtin "type.__call__" ⟨.ref C::us,kw⟩)).units=A.units+1:=by
 first|rfl|simp[Around.under,Code.cUnits,Code.frames,Code.isFrame]
theorem yS.make{k:Nat}{A:Around}(r:yS (k+1) A)(C:Addr)(us:List Value)(kw:List (Str×Value)):yS k (A.under (.builtin "type.__call__" ⟨.ref C::us,kw⟩)):=
 ⟨r.hd,by have:=r.dp; rw[Pl]; omega,by have:=r.un; rw[Pn]; omega,by first|exact r.gd|simp[Around.under,Code.guards,pushGuards,r.gd]⟩
theorem yS.depth{k:Nat}{A:Around}(r:yS k A):A.depth<recursionLimit:=by have:=r.dp; omega
theorem yS.units{k:Nat}{A:Around}(r:yS k A):A.units+64<cLine:=by have:=r.un; omega
def Wp:TA:=λ_ H Q=>Q [] H
def Ou(ta:TE)(tr:TA):TA:=λσ H Q=>ta σ H λx H1=>tr σ H1 λxs H2=>Q (x::xs) H2
section
variable{X:Cx}{e:Expr}{es:List Expr}{te:TE}{t:TA}{pos:Pos}
theorem Y8:PA X [] Wp:=λ_ _ _ _ H Q I h=>Calls.spliced_nil ⟨[],H,I,.nil,h⟩
theorem AH(ha:PE X e te)(hr:PA X es t)(hs:starEach (e::es) X.env=(false,eval e X.env)::starEach es X.env:=by rfl):PA X (e::es) (Ou te t):=by
 intro pos z0 s σ H Q I h;rw[hs];show wpAny _ _ (spliced ((false,eval e X.env)::backTo pos (starEach es X.env))) _ _ s;refine LX (ze (ha z0 s σ H _ I h) λu s1 ⟨x,H1,I1,r1,q1⟩=>?_);exact ze (hr pos z0 s1 σ H1 _ I1 q1) λus s2 ⟨xs,H2,I2,r2,q2⟩=>⟨x::xs,H2,I2,.cons r1 r2,q2⟩
def fS(t:TA):TE:=λσ H Q=>t σ H λxs H1=>xs.length<=sizeLine/\∀p,H1 p=none->Q (.ref p) (zS H1 p (.tup xs))
def fD(t:TA):TE:=λσ H Q=>t σ H λxs H1=>xs.length<=sizeLine/\∀p,H1 p=none->Q (.ref p) (zS H1 p (.lst xs))
theorem Al{x1}(h:PA X es t):PE X (.Tuple es x1 pos) (fS t):=by
 intro z0 s σ H Q I hq;refine wpAny_Tuple_spliced (ze (h pos z0 s σ H _ I hq) λus s1 ⟨xs,H1,I1,r,z,q⟩=>⟨by rw[<-r.length]; exact z,?_⟩);have hf:H1 s1.heap.objs.size=none:=I1.zZ.fresh (yF _);refine⟨.ref s1.heap.objs.size,zS H1 s1.heap.objs.size (.tup xs),I1.laid (t':=s1.toks) (λb u e=>Heap.get?_push_of_some _ e) (yF _) ?_,rfl,q _ hf⟩;exact⟨z,us,r,⟨_,Heap.get?_push_size _ rfl,rfl,_,rfl⟩⟩
theorem Af(h:PA X es t):PE X (.List es pos) (fD t):=by
 intro z0 s σ H Q I hq;refine wpAny_List_spliced (ze (h pos z0 s σ H _ I hq) λus s1 ⟨xs,H1,I1,r,z,q⟩=>⟨by rw[<-r.length]; exact z,?_⟩);have hf:H1 s1.heap.objs.size=none:=I1.zZ.fresh (yF _);refine⟨.ref s1.heap.objs.size,zS H1 s1.heap.objs.size (.lst xs),I1.laid (t':=s1.toks) (λb u e=>Heap.get?_push_of_some _ e) (yF _) ?_,rfl,q _ hf⟩;exact⟨z,us,0,r,Heap.get?_push_size _ rfl⟩
end
abbrev Sp:=List V->Hp->VK->XK->Prop
abbrev tw:=List Env->Hp->Shared->XK->Value->Shared->Prop
structure gM(P:Program)(w:World)(K:W.Frag)(mg:Str->Option Value)(base:Heap)(A:Around)(outer:List Env)(s:Shared)(H:Hp):Prop where
 frames:A.frames=some outer
 mod:Mod K mg base
 bs:∀b o,base.get? b=some o->s.heap.get? b=some o/\H b=none
 qT:base.objs.size<=s.heap.objs.size
 uj:s.heap.FunFrames base outer
 jJ:∀b∈uu outer,H b=none
 zZ:xF P w H s.heap
 bare:AllBare s.gens
def CE(outer:List Env)(P:Program)(w:World)(H:Hp)(s:Shared)(Q:VK)(u:Value)(s':Shared):Prop:=
 ∃v H',s'.os=s.os/\AllBare s'.gens/\Un (uu outer) [] H H' s.heap s'.heap/\xF P w H' s'.heap/\zd v u/\Q v H'
def CR(CX:tw)(outer:List Env)(P:Program)(w:World)(H:Hp)(s:Shared)(Q:VK)(E:XK)(r:Result)(s':Shared):Prop:=
 match r with
 |.ok (.ret u)=>CE outer P w H s Q u s'
 |.ok _=>False
 |.error e=>CX outer H s E e s'
structure yz(P:Program)(w:World)(K:W.Frag)(mg:Str->Option Value)(base:Heap)(CX:tw)(k:Nat)(f:Addr)(fd:FuncData)(ps:List Str)(sp:Sp):Prop where
 len:∀vs H Q E,sp vs H Q E->vs.length=ps.length
 run:∀(A:Around)(outer:List Env)(s:Shared)(H:Hp)(args:Args)(us:List Value)(vs:List V)(Q:VK)(E:XK),yS k A->gM P w K mg base A outer s H->BindsTo s fd args (ps.zip us)->zc vs us->sp vs H Q E->
  codeAny (model P w) A (.call (.ref f) args) (CR CX outer P w H s Q E) s
theorem yz.imp{P:Program}{w:World}{K:W.Frag}{mg:Str->Option Value}{base:Heap}{CX:tw}{k:Nat}{f:Addr}{fd:FuncData}{ps:List Str}{sp sp':Sp}(F:yz P w K mg base CX k f fd ps sp)
  (h:∀vs H Q E,sp' vs H Q E->sp vs H Q E):yz P w K mg base CX k f fd ps sp':=
 ⟨λvs H Q E q=>F.len vs H Q E (h _ _ _ _ q),λA outer s H args us vs Q E hr he hb hv hs=>F.run A outer s H args us vs Q E hr he hb hv (h _ _ _ _ hs)⟩
theorem gM.make{P:Program}{w:World}{K:W.Frag}{mg:Str->Option Value}{base:Heap}{A:Around}{outer:List Env}{s:Shared}{H:Hp}(e:gM P w K mg base A outer s H)(C:Addr)(us:List Value)(kw:List (Str×Value)) :
  gM P w K mg base (A.under (.builtin "type.__call__" ⟨.ref C::us,kw⟩)) outer s H:=⟨by first|exact e.frames|(simpa [Around.under,Code.envs,Code.isFrame,pushEnvs]using e.frames),e.mod,e.bs,e.qT,e.uj,e.jJ,e.zZ,e.bare⟩
section
variable{X:Cx}{z0:List (Addr×Obj)}{σ:St}{H:Hp}{s s':Shared}
theorem zB.MH(I:zB X z0 σ H s):gM X.prog X.w X.K X.mg X.base X.A X.stack s H:=
 ⟨I.ok.frames,I.ok.mod,I.bs,wo I.ok.qT I.sz,I.stack,I.MP,I.zZ,I.bare⟩
theorem zB.after{Q:VK}{u:Value}(I:zB X z0 σ H s)(h:CE X.stack X.prog X.w H s Q u s'):EP X z0 σ Q u s':=by
 obtain⟨v,H',os,bare,un,zZ,r,q⟩:=h;obtain⟨hh,g,d,t,os'⟩:=s';obtain rfl:os'=s.os:=os;exact⟨v,H',I.call (h':=hh) (g':=g) (d':=d) (t':=t) (ch:=[]) un zZ bare (λb z=>absurd z (by simp)),r,q⟩
end
def Ot(sp:Sp)(dvs:List V)(E:XK)(t:TA):TE:=λσ H Q=>t σ H λvs H1=>sp (vs++dvs) H1 Q E
def Ov(C:Addr)(m:Str)(sp:Sp)(dvs:List V)(E:XK)(ta:TE)(t:TA):TE:=λσ H Q=>ta σ H λx H1=>∃a dx fs,x=.ref a/\H1 a=some (.ins C dx fs)/\fs.lookup m=none/\
 t σ H1 λvs H2=>sp (x::(vs++dvs)) H2 Q E
def fE(C:Addr)(sp:Sp)(dvs:List V)(E:XK)(t:TA):TE:=λσ H Q=>t σ H λvs H1=>∀x dx,H1 x=none->H1 dx=none->dx≠x->
 sp (.ref x::(vs++dvs)) (zS (zS H1 dx (.own x)) x (.ins C dx [])) (λv H2=>v=.zF/\Q (.ref x) H2) E
def xn(K:W.Frag)(fd:FuncData)(ps:List Str)(ds:List Value):Prop:=
 ∀(s:Shared)(us:List Value),K.In s.heap->(us++ds).length=ps.length->BindsTo s fd ⟨us,[]⟩ (ps.zip (us++ds))
theorem xn.all{K:W.Frag}{fd:FuncData}{ps:List Str}(h:∀us:List Value,us.length=ps.length->bindArgs fd ⟨us,[]⟩=pure (ps.zip us)):xn K fd ps []:=λs us _ hl=>by
 rw[vg]at hl ⊢;exact .of_eq (h us hl)
def ZQ(CX:tw)(X:Cx)(E:XK):Prop:=∀(z0:List (Addr×Obj)) (σ:St) (H:Hp) (s:Shared) (e:Value) (s':Shared),zB X z0 σ H s->CX X.stack H s E e s'->X.xe e s'
section
variable{X:Cx}{CX:tw}{k:Nat}{f C:Addr}{fd:FuncData}{ps:List Str}{sp:Sp}{dvs:List V}{ds:List Value}{E:XK}{x m:Str}{p pos apos:Pos}{e o:Expr}{es:List Expr}{ta:TE}{t:TA}
theorem TD{z0:List (Addr×Obj)}{σ:St}{H:Hp}{s:Shared}{Q:VK}{us:List Value}{vs:List V}(F:yz X.prog X.w X.K X.mg X.base CX k f fd ps sp)(hr:yS k X.A)(hb:xn X.K fd ps ds)(hd:zc dvs ds)(hx:ZQ CX X E)
  (I:zB X z0 σ H s)(r:zc vs us)(h:sp (vs++dvs) H Q E):wpAny (model X.prog X.w) X.A (call (.ref f) us) (EP X z0 σ Q) X.xe s:=by
 have r2:zc (vs++dvs) (us++ds):=r.append hd;have hl:(us++ds).length=ps.length:=by rw[<-r2.length]; exact F.len _ _ _ _ h
 refine wpAny_call (Q2 (F.run X.A X.stack s H ⟨us,[]⟩ (us++ds) (vs++dvs) Q E hr I.MH (hb s us I.xN hl) r2 h) λr s' hq=>?_);cases r with
 |error e=>exact hx z0 σ H s e s' I hq
 |ok fl=>
  cases fl with
  |ret u=>exact I.after hq
  |next=>exact False.elim hq
  |brk=>exact False.elim hq
  |cont=>exact False.elim hq
theorem AR(F:yz X.prog X.w X.K X.mg X.base CX k f fd ps sp)(hr:yS k X.A)(hg:Gl X x)(hm:X.mg x=some (.ref f))(hk:W.keepIn X.K (.ref f)=true)(hb:xn X.K fd ps ds)(hd:zc dvs ds)(hx:ZQ CX X E)
  (ha:PA X (e::es) t)(hdb:(x==("__debug__" : Str))=false:=by decide)(he:starEach (e::es) X.env=(false,eval e X.env)::starEach es X.env:=by rfl)(hpl:(backTo pos (starEach es X.env)).any (·.1)=false:=by rfl) :
  PE X (.Call (.Name x p) (e::es) [] pos) (Ot sp dvs E t):=by
 intro z0 s σ H Q I h;refine Q4 (Ut I hg hm ?_ hdb);refine W.callWith_K (h₀:=X.base) I.ok.mod.Z2 hk (ze (ha pos z0 s σ H _ I h) λus s1 ⟨vs,H1,I1,r,q⟩=>⟨I1.xN,?_⟩) he hpl;exact TD F hr hb hd hx I1 r q
theorem CA{pl:Sem Bool}(he:PE X o ta)(c:v_ X.K C)(hm:Qg X.K C m f)(F:yz X.prog X.w X.K X.mg X.base CX k f fd ps sp)(hr:yS k X.A)(hb:xn X.K fd ps ds)(hd:zc dvs ds)(hx:ZQ CX X E)
  (ht:eval (.Call (.Attribute o m apos) [] [] pos) X.env=(do
   let ov <-eval o X.env
   standAt apos.atName
   let (f,first) <-holding [ov] (getMethod ov m pl)
   callWith pos f first (backTo pos (starEach [] X.env)) (backToKw pos (keywordEach [] X.env))):=by rfl) :
  PE X (.Call (.Attribute o m apos) [] [] pos) (Ov C m sp dvs E ta Wp):=by
 intro z0 s σ H Q I h;refine W.methodCall_KW (pl:=pl) (ze (he z0 s σ H _ I h) λu s1 ⟨x,H1,I1,rx,a,dx,fs,ex,ea,l,q⟩=>?_) ht;subst ex;obtain rfl:u=Value.ref a:=rx;refine Kl I1 ea c hm l ?_;exact W.callWith_K0 (first:=[.ref a]) I1.xN hm.kp (TD (us:=[.ref a]) (vs:=[.ref a]) F hr hb hd hx I1 (.cons rfl .nil) q)
structure Mk(K:W.Frag)(C f:Addr):Prop where
 makes:W.makesIn K C=true
 init:W.findIn K (.ref C) "__init__" = some (some (.ref f))
 fn:W.isFn K (.ref f)=true
 kp:W.keepIn K (.ref C)=true
theorem bo{z0:List (Addr×Obj)}{σ:St}{H:Hp}{s:Shared}{Q:VK}{us:List Value}{vs:List V}(M:Mk X.K C f)(F:yz X.prog X.w X.K X.mg X.base CX k f fd ps sp)(hr:yS (k+1) X.A)(hb:xn X.K fd ps ds)(hd:zc dvs ds)
  (hx:ZQ CX X E)(I:zB X z0 σ H s)(r:zc vs us)
  (h:∀x dx,H x=none->H dx=none->dx≠x->sp (.ref x::(vs++dvs)) (zS (zS H dx (.own x)) x (.ins C dx [])) (λv H2=>v=.zF/\Q (.ref x) H2) E) :
  wpAny (model X.prog X.w) X.A (call (.ref C) us) (EP X z0 σ Q) X.xe s:=by
 have hq:=h (s.heap.objs.size+1) s.heap.objs.size (I.zZ.fresh (V7 _)) (I.zZ.fresh (yF _)) (xz (kf _));have I2:=zB.made (C:=C) I;have r2:zc (V.ref (s.heap.objs.size+1)::(vs++dvs)) (Value.ref (s.heap.objs.size+1)::(us++ds)):=.cons rfl (r.append hd)
 have hl:(Value.ref (s.heap.objs.size+1)::us++ds).length=ps.length:=by
  have e:=r2.length;rw[F.len _ _ _ _ hq]at e;exact e.symm
 refine wpAny_call (Pm (f:=f) I.xN M.makes M.init (gD.mp M.fn) (Q2 (F.run _ X.stack _ _ ⟨Value.ref (s.heap.objs.size+1)::us,[]⟩ (Value.ref (s.heap.objs.size+1)::(us++ds)) _ _ E (hr.make C us [])
  (I2.MH.make C us []) (hb _ (Value.ref (s.heap.objs.size+1)::us) I2.xN hl) r2 hq) λr s' hq'=>?_))
 cases r with
 |error e=>exact hx z0 σ _ _ e s' I2 hq'
 |ok fl=>
  cases fl with
  |ret u=>
   obtain⟨v,H',I3,rv,ev,q3⟩:=I2.after hq';subst ev;exact⟨rv,⟨V.ref (s.heap.objs.size+1),H',I3,rfl,q3⟩⟩
  |next=>exact False.elim hq'
  |brk=>exact False.elim hq'
  |cont=>exact False.elim hq'
theorem C9(M:Mk X.K C f)(F:yz X.prog X.w X.K X.mg X.base CX k f fd ps sp)(hr:yS (k+1) X.A)(hg:Gl X x)(hm:X.mg x=some (.ref C))(hb:xn X.K fd ps ds)(hd:zc dvs ds)(hx:ZQ CX X E)
  (ha:PA X (e::es) t)(hdb:(x==("__debug__" : Str))=false:=by decide)(he:starEach (e::es) X.env=(false,eval e X.env)::starEach es X.env:=by rfl)(hpl:(backTo pos (starEach es X.env)).any (·.1)=false:=by rfl) :
  PE X (.Call (.Name x p) (e::es) [] pos) (fE C sp dvs E t):=by
 intro z0 s σ H Q I h;refine Q4 (Ut I hg hm ?_ hdb);refine W.callWith_K (h₀:=X.base) I.ok.mod.Z2 M.kp (ze (ha pos z0 s σ H _ I h) λus s1 ⟨vs,H1,I1,r,q⟩=>⟨I1.xN,?_⟩) he hpl;exact bo M F hr hb hd hx I1 r q
end
section
variable{X:Cx}{CX:tw}{k:Nat}{f C:Addr}{fd:FuncData}{ps ks:List Str}{sp:Sp}{E:XK}{x m:Str}{p pos apos kpos:Pos}{e o:Expr}{es:List Expr}{kws:List Keyword}{te ta:TE}{t tk:TA}{nm:Option Str}
variable{g:List Value->List Value->List Value}{gV:List V->List V->List V}
end
structure zk(N P:List Str)(sc:Scope):Prop where
 kind:sc.kind=.function
 co:sc.isCoroutine=false
 gen:sc.isGenerator=false
 nd:N.Nodup
 pre:N.take P.length=P
 par:∀x∈P,sc.names.lookup x=some .local\/sc.names.lookup x=some .cell
 Gi:∀y∈sc.names,y.2≠.free
theorem B5{kindOf:Str->Option NameKind}{x:Str}:∀{binds:List (Str×Value)} {m:Str->Option Value},(∀v,(x,v) ∉ binds)->bindL kindOf binds m x=m x
 | [],_,_=>rfl
 |(n,v)::r,m,h=>by
  unfold bindL;rw[B5 λw hw=>h w (xP _ hw)]
  split
  ·have:x≠n:=by rintro rfl; exact h v yr
   simp[this]
  ·rfl
theorem B3{kindOf:Str->Option NameKind}{x:Str}:∀{binds:List (Str×Value)} {m:Str->Option Value},(∀v,(x,v) ∉ binds)->bindC kindOf binds m x=m x
 | [],_,_=>rfl
 |(n,v)::r,m,h=>by
  unfold bindC;rw[B3 λw hw=>h w (xP _ hw)]
  split
  ·rfl
  ·have:x≠n:=by rintro rfl; exact h v yr
   simp[this]
theorem B4{kindOf:Str->Option NameKind}{x:Str}{v:Value}:∀{P:List Str}{vs:List Value}{i:Nat}{m:Str->Option Value},P.Nodup->P[i]?=some x->vs[i]?=some v->kindOf x=some .local->
  bindL kindOf (P.zip vs) m x=some v
 | [],_,_,_,_,h,_,_=>by simp at h
 |_::_,[],_,_,_,_,h,_=>by simp at h
 |p::P,w::vs,0,m,nd,h1,h2,hk=>by
  simp at h1 h2; subst h1; subst h2;show bindL kindOf ((p,w)::P.zip vs) m p=_;unfold bindL;rw[B5 λv hv=>(Yh.mp nd).1 (Lw hv).1,zI hk];simp
 |p::P,w::vs,i+1,m,nd,h1,h2,hk=>by
  show bindL kindOf ((p,w)::P.zip vs) m x=_;unfold bindL;exact B4 (i:=i) (Yh.mp nd).2 (by simpa using h1) (by simpa using h2) hk
theorem B2{kindOf:Str->Option NameKind}{x:Str}{v:Value}:∀{P:List Str}{vs:List Value}{i:Nat}{m:Str->Option Value},P.Nodup->P[i]?=some x->vs[i]?=some v->kindOf x≠some .local->
  bindC kindOf (P.zip vs) m x=some v
 | [],_,_,_,_,h,_,_=>by simp at h
 |_::_,[],_,_,_,_,h,_=>by simp at h
 |p::P,w::vs,0,m,nd,h1,h2,hk=>by
  simp at h1 h2; subst h1; subst h2;show bindC kindOf ((p,w)::P.zip vs) m p=_;unfold bindC;rw[B3 λv hv=>(Yh.mp nd).1 (Lw hv).1,zK hk];simp
 |p::P,w::vs,i+1,m,nd,h1,h2,hk=>by
  show bindC kindOf ((p,w)::P.zip vs) m x=_;unfold bindC;exact B2 (i:=i) (Yh.mp nd).2 (by simpa using h1) (by simpa using h2) hk
def start(N:List Str)(vs:List V):St:=vs.map some++List.replicate (N.length-vs.length) none
def uo(CX:tw)(P:Program)(w:World)(K:W.Frag)(mg:Str->Option Value)(base:Heap)(N:List Str)(qual:Str)(scope:Scope)(f:Addr)(cd:Value)(A:Around)(outer:List Env)(s:Shared)(H:Hp)(E:XK):Cx where
 prog:=P
 w:=w
 K:=K
 mg:=mg
 base:=base
 A:=A.deeper (envOfC qual scope s.heap.objs.size f cd)
 N:=N
 s₀:=s
 H₀:=H
 env:=envOfC qual scope s.heap.objs.size f cd
 outer:=outer
 stack:=envOfC qual scope s.heap.objs.size f cd::outer
 ex:=[]
 calm:=true
 fn:=λ_=>true
 pn:=[]
 xe:=λe s'=>wpAny (model P w) (A.deeper (envOfC qual scope s.heap.objs.size f cd)) (leaving (envOfC qual scope s.heap.objs.size f cd) e) (λ_ s''=>CX outer H s E e s'') (λe' s''=>CX outer H s E e' s'') s'
theorem BK{sc:Scope}{n:Nat}{x:Str}(h:sc.names.lookup x=some .cell):∃c,(cellsFrom n sc.names []).lookup x=some c:=by
 have q:=W.cellsFrom_some sc.names n [] (.inl h);exact Gb.mp q
theorem Nn{CX:tw}{P:Program}{w:World}{K:W.Frag}{mg:Str->Option Value}{base:Heap}{N ps:List Str}{qual:Str}{scope:Scope}{f:Addr}{cd:Value}{A:Around}{outer:List Env}{s s1:Shared}{H:Hp}{E:XK}{us:List Value}{vs:List V}
  (S:zk N ps scope)(hd:A.handled=none)(e0:gM P w K mg base A outer s H)(hl:vs.length=ps.length)(r:zc vs us)
  (x:InCallC s s.heap.objs.size (bindL (envOfC qual scope s.heap.objs.size f cd).kindOf (ps.zip us) λ_=>none) (cellsFrom (s.heap.objs.size+1) scope.names []) (bindC (envOfC qual scope s.heap.objs.size f cd).kindOf (ps.zip us) λ_=>none) s1) :
  zB (uo CX P w K mg base N qual scope f cd A outer s H E) [] (start N vs) H s1:=by
 have hpl:ps.length<=N.length:=by have:=congrArg List.length S.pre; rw[tj]at this; omega
 obtain⟨h1,tk,rfl,hk⟩:=x.done;have noA:∀b:Addr,b ∉ (uo CX P w K mg base N qual scope f cd A outer s H E).ex:=λb z=>absurd (show b∈([]:List Addr)from z) (by simp)
 refine⟨⟨e0.mod,S.kind,rfl,rfl,yF _,λy z c h1 h2=>?_,λy hy=>?_,λy c _ h=>?_,λ_=>hd,Around.frames_deeper e0.frames,.inr ⟨rfl,rfl⟩,λb z=>absurd z (noA b),e0.bs,e0.qT,λb _ _=>noA b,λb z=>absurd z (noA b),e0.uj,e0.jJ⟩,
  rfl,e0.bare,Un.kept hk,⟨_,x.toInCall.ns,λi y v h1 h2 h3=>?_⟩,λy c h=>⟨_,x.cell y c h⟩,e0.zZ.fresh (yF _),λy c h=>?_,λp hp=>absurd (show p∈([]:List (Addr×Obj))from hp) (by simp),e0.zZ.kept hk,?_⟩
 ·exact name_of_addr x.apart (PySem.mem_of_lookup h1) (PySem.mem_of_lookup h2)
 ·have hy:scope.names.lookup y=some .cell\/scope.names.lookup y=some .free:=hy;rcases hy with hy|hy
  ·exact BK hy
  ·exact absurd rfl (S.Gi _ (PySem.mem_of_lookup hy))
 ·exact V6 (x.above y c (PySem.mem_of_lookup h))
 ·have hi:i<vs.length:=by
   unfold start at h2;by_cases hi:i<vs.length
   ·exact hi
   ·rw[W_ (by simpa using hi)]at h2;rw[GQ]at h2
    split at h2<;>cases h2
  have ha:vs[i]?=some v:=by
   unfold start at h2;rw[j9 (by simpa using hi),vh]at h2;cases e:vs[i]? with
   |none=>rw[e]at h2; cases h2
   |some a=>rw[e]at h2; cases h2; rfl
  obtain⟨u,hu,rv⟩:=r.get ha
  have hp:ps[i]?=some y:=by
   rw[<-S.pre,List.getElem?_take_of_lt (by omega)]; exact h1
  have ndP:ps.Nodup:=by rw[<-S.pre]; exact S.nd.sublist (List.take_sublist _ _)
  refine⟨u,rv,?_⟩;rcases S.par y (Tt hp)with k|k
  ·exact .inl ⟨k,B4 ndP hp hu k⟩
  ·obtain⟨c,e⟩:=BK (n:=s.heap.objs.size+1) k;refine .inr ⟨.inl k,c,e,?_⟩;have q:=x.cell y c e;rw[B2 ndP hp hu (by show scope.names.lookup y≠_; rw[k]; decide)]at q;exact q
 ·exact e0.zZ.fresh (V6 (x.above y c (PySem.mem_of_lookup h)))
 ·unfold start;show _=N.length;rw[yL,zo,g9];omega
theorem Bu{CX:tw}{P:Program}{w:World}{K:W.Frag}{mg:Str->Option Value}{base:Heap}{k:Nat}{f:Addr}{name qual:Str}{params:Arguments}{body:List Stmt}{scope:Scope}{dV kV doc pm cdv ct oc:Value}{an od:Option Addr}
  {osl:Array (Option Value)}{N ps:List Str}{sp:Sp}(lk:K.lookup f=some ⟨oc,od,.func (W.fnOf name qual params body scope dV kV doc pm an cdv ct),osl⟩)(hcd:W.codeIn K cdv qual=true)(S:zk N ps scope)
  (len:∀vs H Q E,sp vs H Q E->vs.length=ps.length)
  (hbody:∀(A:Around)(outer:List Env)(s:Shared)(H:Hp)(vs:List V)(Q:VK)(E:XK),yS k (A.deeper (envOfC qual scope s.heap.objs.size f cdv))->sp vs H Q E->
   ∃t,vW (uo CX P w K mg base N qual scope f cdv A outer s H E) body t/\t { nx:=λ_ H'=>Q .zF H',rt:=Q } (start N vs) H) :
  yz P w K mg base CX (k+1) f (W.fnOf name qual params body scope dV kV doc pm an cdv ct) ps sp:=by
 refine⟨len,λA outer s H args us vs Q E hr e0 hb r hsp=>?_⟩;have hl:=len _ _ _ _ hsp;have KX:K.In s.heap:=e0.mod.Z2.keeps λb o e=>(e0.bs b o e).1
 have lim:s.heap.NoLimit:=e0.mod.nolimit.keeps λb o e=>(e0.bs b o e).1
 have hkind:∀y∈ps.zip us,scope.names.lookup y.1=some .local\/(scope.names.lookup y.1=some .cell/\((cellsFrom (s.heap.objs.size+1) scope.names []).lookup y.1).isSome=true):=λ⟨n,v⟩ hy=>by
  rcases S.par n (Lw hy).1 with q|q
  ·exact .inl q
  ·exact .inr ⟨q,W.cellsFrom_some _ _ _ (.inl q)⟩
 refine codeAny_call_function hr.depth (KX _ _ lk) rfl S.co S.gen rfl (W.codeRec_of KX hcd) (hb _ _ _ _ ?_);refine wpAny_newFunctionEnv_cells S.kind hkind λenv he s1 x=>?_
 subst he;refine⟨lim.keeps x.toInCall.keep,codeAny_func ?_⟩;obtain⟨t,ht,hq⟩:=hbody A outer s H vs Q E (hr.deeper _) hsp;have I:zB (uo CX P w K mg base N qual scope f cdv A outer s H E) [] (start N vs) H s1:=Nn S hr.hd e0 hl r x;refine uK (ht [] s1 (start N vs) H _ I hq) (λfl s' hs=>?_) λe s' hs=>hs
 have fin:∀{σ':St}{H':Hp}{v:V}{u:Value},zB (uo CX P w K mg base N qual scope f cdv A outer s H E) [] σ' H' s'->zd v u->Q v H'->CE outer P w H s Q u s':=
  λ{σ' H' v u} J rv q=>⟨v,H',J.os,J.bare,J.base,J.zZ,rv,q⟩
 cases fl with
 |ret u=>
  obtain⟨v,σ',H',J,rv,q⟩:=hs;exact fin J rv q
 |next=>
  obtain⟨σ',H',J,q⟩:=hs;exact fin (v:=V.zF) (u:=Value.none) J rfl q
 |brk=>
  obtain⟨_,_,_,q⟩:=hs;exact False.elim q
 |cont=>
  obtain⟨_,_,_,q⟩:=hs;exact False.elim q
section
variable{X:Cx}{x:Str}{p pos:Pos}{e:Expr}{es:List Expr}{t:TA}{id T:String}{r:List V->Hp->VK->Prop}
def TY(r:List V->Hp->VK->Prop)(t:TA):TE:=λσ H Q=>t σ H λvs H1=>r vs H1 Q
theorem AS(hc:xY X (.builtin id) r)(hg:Gl X x)(hm:X.mg x=none)(hv:bootBuiltins x=some (.builtin id))(ha:PA X (e::es) t)(hn:x ≠ "__name__" := by decide)(hdb:(x==("__debug__" : Str))=false:=by decide)
  (he:starEach (e::es) X.env=(false,eval e X.env)::starEach es X.env:=by rfl)(hpl:(backTo pos (starEach es X.env)).any (·.1)=false:=by rfl):PE X (.Call (.Name x p) (e::es) [] pos) (TY r t):=by
 intro z0 s σ H Q I h;refine Q4 (Zz I hg hm hv ?_ hn hdb);exact PyProof.Rows.callWith_builtin1 (ze (ha pos z0 s σ H _ I h) λus s1 ⟨vs,H1,I1,r1,q1⟩=>hc z0 s1 σ H1 vs us Q I1 r1 q1) he hpl
theorem AU(hc:xY X (.type T) r)(hg:Gl X x)(hm:X.mg x=none)(hv:bootBuiltins x=some (.type T))(ha:PA X (e::es) t)(hn:x ≠ "__name__" := by decide)(hdb:(x==("__debug__" : Str))=false:=by decide)
  (he:starEach (e::es) X.env=(false,eval e X.env)::starEach es X.env:=by rfl)(hpl:(backTo pos (starEach es X.env)).any (·.1)=false:=by rfl):PE X (.Call (.Name x p) (e::es) [] pos) (TY r t):=by
 intro z0 s σ H Q I h;refine Q4 (Zz I hg hm hv ?_ hn hdb);exact T_ (ze (ha pos z0 s σ H _ I h) λus s1 ⟨vs,H1,I1,r1,q1⟩=>hc z0 s1 σ H1 vs us Q I1 r1 q1) he hpl
end
end L2
namespace HT
open PySem PyProof.Rows
section
open PySem.SeqAt
open PySem.AutoSeq1 (wpAny_loadPart')
open PySem.MeetsSeq PySem.MeetsSeq2 PySem.MeetsSeq3
end
section
variable{prog:Program}{w:World}{A:Around}{E:Value->Shared->Prop}{s:Shared}
theorem cat_tup{t b:Addr}{vs ws:List Value}{Q:Value->Shared->Prop}(ht:IsTup s.heap t vs.toArray)(hb:IsTup s.heap b ws.toArray)(hv:vs≠[])
  (h1:ws=[]->Q (.ref t) s)(h2:ws≠[]->Q (.ref s.heap.objs.size) { s with heap:=s.heap.push { cls:=.type "tuple",data:=.seq (vs++ws).toArray } })
  (hsz:vs.length+ws.length<=sizeLine):wpAny (model prog w) A (binaryOp .Add (.ref t) (.ref b)) Q E s:=by
 obtain⟨⟨cls,dd,data,sl⟩,ho,hc,n,hd⟩:=id ht;obtain⟨⟨cls2,dd2,data2,sl2⟩,ho2,hc2,n2,hd2⟩:=id hb;simp only at hc hd hc2 hd2;subst hc hd hc2 hd2;have e:vs.toArray++ws.toArray=(vs++ws).toArray:=by simp
 by_cases hw:ws=[]
 ·exact concat_meets ⟨_,ho,rfl⟩ ⟨_,ho2,rfl⟩ noFill_tuple_add seq_tuple_add PySem.F.slot_tuple_add PySem.F.entry_tuple_add (PySem.F.args_tuple_add_2 _ _)
   (tuple_addW1 t b vs.toArray ws.toArray n n2 dd dd2 sl sl2 (by simpa using hv) (by simp[hw])) ⟨ho,ho2,h1 hw⟩
 ·refine concat_meets ⟨_,ho,rfl⟩ ⟨_,ho2,rfl⟩ noFill_tuple_add seq_tuple_add PySem.F.slot_tuple_add PySem.F.entry_tuple_add (PySem.F.args_tuple_add_2 _ _)
   (tuple_addW2 t b vs.toArray ws.toArray n n2 dd dd2 sl sl2 (by simpa using hv) (by simpa using hw) (by rw[yP,yP]; exact hsz)) ⟨ho,ho2,?_⟩
  rw[e];exact h2 hw
def sIx(n d:Nat):Option Int->Nat
 |none=>d
 |some v=>if v<0 then(v+(n:Int)).toNat else min v.toNat n
theorem sIx_nat(n d k:Nat):sIx n d (some (k:Int))=min k n:=by
 show(if(k:Int)<0 then((k:Int)+(n:Int)).toNat else min (k:Int).toNat n)=min k n;rw[zK (by omega),p9]
theorem sIx_le(n d:Nat)(hd:d<=n)(o:Option Int):sIx n d o<=n:=by
 cases o with
 |none=>exact hd
 |some v=>
  show(if v<0 then(v+(n:Int)).toNat else min v.toNat n)<=n;by_cases hv:v<0
  ·rw[zI hv]; omega
  ·rw[zK hv]; exact Nat.min_le_right _ _
theorem BL(v:Int)(n d:Nat):(if v<0 then max (v+(n:Int)) 0 else min v (n:Int))=((sIx n d (some v):Nat):Int):=by
 show(if v<0 then max (v+(n:Int)) 0 else min v (n:Int))=(((if v<0 then(v+(n:Int)).toNat else min v.toNat n):Nat):Int);by_cases hv:v<0
 ·simp only[zI hv]; omega
 ·simp only[zK hv]; omega
theorem G_(lo hi:Option Int)(n:Nat):Builtin.Slice.sliceAdjust lo hi 1 (n:Int)=(((sIx n 0 lo:Nat):Int),((sIx n n hi:Nat):Int)):=by
 have h1:¬ ((1:Int)<0):=by omega
 unfold Builtin.Slice.sliceAdjust;simp only[h1,wq];refine Prod.ext ?_ ?_
 ·cases lo with
  |none=>rfl
  |some v=>exact BL v n 0
 ·cases hi with
  |none=>rfl
  |some v=>exact BL v n n
theorem aB(i j:Nat):Builtin.Slice.slicePlaces (i:Int) (j:Int) 1=j-i:=by
 unfold Builtin.Slice.slicePlaces;have h1:(1:Int)>0:=by omega
 simp only[h1,xj,Int.ediv_one]
 split<;>omega
theorem EV{v:Value}{o:Option Int}{Q:Option Int->Shared->Prop}(p:IsPart v o)(h:Q o s):wpAny (model prog w) A (Builtin.Slice.slicePartIndex v) Q E s:=by
 cases p with
 |none=>exact slicePart_none h
 |int i t=>exact slicePart_int h
theorem e5{sl:Addr}{vl vu:Value}{lo hi:Option Int}{n:Nat}{Q:Int×Int×Nat->Shared->Prop}(hs:s.heap.IsSliceOf sl vl vu .none)(pl:IsPart vl lo)(pu:IsPart vu hi)
  (h:Q (((sIx n 0 lo:Nat):Int),1,sIx n n hi-sIx n 0 lo) s):wpAny (model prog w) A (Builtin.Slice.sliceApplied (.ref sl) (pure (n:Int))) Q E s:=by
 obtain⟨os,hos,hcs,hds⟩:=id hs;unfold Builtin.Slice.sliceApplied Builtin.Slice.sliceFields;refine zO (zO (uJ hos hds (x:=vl) rfl (zO (uJ hos hds (x:=vu) rfl (zO (uJ hos hds (x:=.none) rfl (yG ?_)))))));refine zO (slicePart_none ?_);show wpAny _ _ (if((1:Int)==0)=true then _ else _) _ _ s;rw[zK (by decide)];refine zO (EV pl (zO (EV pu (zO (yG ?_)))));show wpAny _ _ (match Builtin.Slice.sliceAdjust lo hi 1 (n:Int)with|(lo,hi)=>pure (lo,(1:Int),Builtin.Slice.slicePlaces lo hi 1)) _ _ s;rw[G_ lo hi n];show wpAny _ _ (pure (((sIx n 0 lo:Nat):Int),(1:Int),Builtin.Slice.slicePlaces ((sIx n 0 lo:Nat):Int) ((sIx n n hi:Nat):Int) 1)) _ _ s;rw[aB];exact yG h
theorem Ay(xs:Array Value)(i k:Nat):((List.range k).filterMap λ(m:Nat)=>xs[((i:Int)+(m:Int)*1).toNat]?).toArray=((xs.toList.drop i).take k).toArray:=by
 have e:(λ(m:Nat)=>xs[((i:Int)+(m:Int)*1).toNat]?)=λm=>xs[i+m]?:=by
  funext m
  have:((i:Int)+(m:Int)*1).toNat=i+m:=by omega
  rw[this]
 rw[e];have:=pick_run xs i k;rw[List.filterMap_map]at this;have e2:((λx=>xs[x]?)∘λx=>i+x)=λm=>xs[i+m]?:=rfl
 rw[e2]at this;rw[this]
theorem getItem_tuple_cut{t sl:Addr}{items:Array Value}{vl vu:Value}{lo hi:Option Int}{Q:Value->Shared->Prop}(ht:IsTup s.heap t items)(hs:s.heap.IsSliceOf sl vl vu .none)(pl:IsPart vl lo)(pu:IsPart vu hi)
  (hw:¬ (sIx items.size 0 lo=0/\sIx items.size items.size hi=items.size))
  (h:Q (.ref s.heap.objs.size) { s with heap:=s.heap.push { cls:=.type "tuple",data:=.seq ((items.toList.drop (sIx items.size 0 lo)).take (sIx items.size items.size hi-sIx items.size 0 lo)).toArray } })
  (hsz:items.size<=sizeLine):wpAny (model prog w) A (getItem (.ref t) (.ref sl)) Q E s:=by
 have htake:sizeOk (.seq ((items.toList.drop (sIx items.size 0 lo)).take (sIx items.size items.size hi-sIx items.size 0 lo)).toArray):=by
  show((items.toList.drop (sIx items.size 0 lo)).take (sIx items.size items.size hi-sIx items.size 0 lo)).toArray.size<=sizeLine;rw[yP,tj,Tr,j7];omega
 have hj:sIx items.size items.size hi<=items.size:=sIx_le _ _ (yF _) hi;obtain⟨os,hos,hcs,hds⟩:=id hs;have hTs:s.TypeIs (.ref sl) "slice" := ⟨os,hos,hcs⟩;unfold getItem
 try with_reducible refine gE ?_
 first|refine zO (yG ?_)|skip
 refine zO (wpAny_sequenceKey ht.typeIs (by decide) ?_)
 refine zO (VA (name:=Str.ofString "__getitem__") ht.typeIs M4
  (Yo M4 ht.typeIs entry_tuple_getitem ?_ (args_tuple_getitem _ _)))
 show wpAny _ _ (Builtin.Tuple.tupleItemsOf (.ref t) >>= _) _ _ s;refine zO (tupleItemsOf_ ht ?_);refine zO (Q6 hTs ?_);rw[zI (by decide)];refine zO (e5 hs pl pu ?_)
 have hno:¬ ((((sIx items.size 0 lo:Nat):Int)==0&&(1:Int)==1&&(sIx items.size items.size hi-sIx items.size 0 lo)==items.size)=true):=by
  intro q;rw[yC,yC]at q;have q1:((sIx items.size 0 lo:Nat):Int)=0:=eq_of_beq q.1.1;have q2:sIx items.size items.size hi-sIx items.size 0 lo=items.size:=eq_of_beq q.2;exact hw ⟨by omega,by omega⟩
 show wpAny _ _ (if(((sIx items.size 0 lo:Nat):Int)==0&&(1:Int)==1&&(sIx items.size items.size hi-sIx items.size 0 lo)==items.size)=true then _ else _) _ _ s;rw[zK hno,Ay]
 first
  |exact zO (m:=Builtin.Tuple.tupleExact _) (km (yG ⟨_,rfl,yG h⟩) htake)
  |exact zO (m:=Builtin.Tuple.tupleExact _) (km (zO (yG (yG ⟨_,rfl,yG h⟩))) htake)
  |exact zO (zO (m:=Builtin.Tuple.tupleExact _) (km (yG (yG ⟨_,rfl,yG h⟩)) htake))
  |exact zO (zO (m:=Builtin.Tuple.tupleExact _) (km (yG ⟨_,rfl,yG h⟩) htake))
end
end HT
namespace L2
open PySem PySem.Spec PyProof.Rows
abbrev TO:=St->Hp->(Option Int->Hp->Prop)->Prop
def PO(X:Cx)(e:Option Expr)(t:TO):Prop:=
 ∀(z0:List (Addr×Obj)) (s:Shared) (σ:St) (H:Hp) (Q:Option Int->Hp->Prop),zB X z0 σ H s->t σ H Q->
  wpAny (model X.prog X.w) X.A (evalPart e X.env) (λu s'=>∃o H',zB X z0 σ H' s'/\IsPart u o/\Q o H') X.xe s
def fM(t:TE):TO:=λσ H Q=>t σ H λx H1=>∃i,x=.int i/\Q (some i) H1
section
variable{X:Cx}{e:Expr}{te:TE}{lo hi:Option Expr}{tl th:TO}{pos p2:Pos}
theorem aD(h:PE X e te):PO X (some e) (fM te):=by
 intro z0 s σ H Q I hw;rw[evalPart_some];refine ze (h z0 s σ H _ I hw) λu s1 ⟨x,H1,I1,r1,q1⟩=>?_
 obtain⟨i,rfl,q⟩:=q1;obtain⟨t,rfl⟩:=r1;exact⟨some i,H1,I1,.int i t,q⟩
def pK(X:Cx)(r:V->Option Int->Option Int->Hp->VK->Prop):Prop:=
 ∀(z0:List (Addr×Obj)) (s:Shared) (σ:St) (H:Hp) (x:V) (v vl vu:Value) (lo hi:Option Int) (sl:Addr) (Q:VK),zB X z0 σ H s->zd x v->s.heap.IsSliceOf sl vl vu .none->IsPart vl lo->IsPart vu hi->r x lo hi H Q->
  ∃T id,typeLookup (.type T) "__getitem__" = pure (some (.builtin id))/\s.TypeIs v T/\wpAny (model X.prog X.w) X.A (getItem v (.ref sl)) (EP X z0 σ Q) X.xe s
theorem pK.or{r r':V->Option Int->Option Int->Hp->VK->Prop}(h:pK X r)(h':pK X r'):pK X (λx lo hi H Q=>r x lo hi H Q\/r' x lo hi H Q):=by
 intro z0 s σ H x v vl vu lo hi sl Q I rx hs pl pu q;rcases q with q|q
 ·exact h z0 s σ H x v vl vu lo hi sl Q I rx hs pl pu q
 ·exact h' z0 s σ H x v vl vu lo hi sl Q I rx hs pl pu q
def fQ(r:V->Option Int->Option Int->Hp->VK->Prop)(te:TE)(tl th:TO):TE:=λσ H Q=>te σ H λx H1=>tl σ H1 λl H2=>th σ H2 λu H3=>r x l u H3 Q
theorem Ak{r:V->Option Int->Option Int->Hp->VK->Prop}(hr:pK X r)(he:PE X e te)(hl:PO X lo tl)(hu:PO X hi th):PE X (.Subscript e (.Slice lo hi none p2) pos) (fQ r te tl th):=by
 intro z0 s σ H Q I h;refine Subscript_ (ze (he z0 s σ H _ I h) λv s1 ⟨x,H1,I1,r1,q1⟩=>?_);refine wpAny_Slice (ze (hl z0 s1 σ H1 _ I1 q1) λvl s2 ⟨l,H2,I2,pl,q2⟩=>ze (hu z0 s2 σ H2 _ I2 q2) λvu s3 ⟨u,H3,I3,pu,q3⟩=>?_);rw[evalPart_none];refine yG ?_;have I4:zB X z0 σ H3 { s3 with heap:=s3.heap.push { cls:=.type "slice",data:=.fields #[vl,vu,.none] } }:=I3.kept (t':=s3.toks) λb ob q=>Heap.get?_push_of_some _ q
 obtain⟨T,id,hT,ht,hg⟩:=hr z0 { s3 with heap:=s3.heap.push { cls:=.type "slice",data:=.fields #[vl,vu,.none] } } σ H3 x v vl vu l u s3.heap.objs.size Q I4 r1 (Heap.IsSliceOf.new ..) pl pu q3;show wpAny (model X.prog X.w) X.A (subscriptTail e (.Slice lo hi none p2) v (.ref s3.heap.objs.size)) (EP X z0 σ Q) X.xe { s3 with heap:=s3.heap.push { cls:=.type "slice",data:=.fields #[vl,vu,.none] } };exact tail_any (ops:=[.ref s3.heap.objs.size,v]) ht hT hg (by with_unfolding_all rfl)
def jd(xs:List V)(lo hi:Option Int):List V:=(xs.drop (HT.sIx xs.length 0 lo)).take (HT.sIx xs.length xs.length hi-HT.sIx xs.length 0 lo)
theorem BP(xs:List V)(lo hi:Option Int):(jd xs lo hi).length<=xs.length:=by
 unfold jd;rw[tj,Tr];omega
def Cv(K:W.Frag):V->Option Int->Option Int->Hp->VK->Prop:=λx lo hi H Q=>∃a xs,x=.ref a/\ye K H a xs/\
 ¬ (HT.sIx xs.length 0 lo=0/\HT.sIx xs.length xs.length hi=xs.length)/\∀p,H p=none->Q (.ref p) (zS H p (.tup (jd xs lo hi)))
theorem d_:pK X (Cv X.K):=by
 intro z0 s σ H x v vl vu lo hi sl Q I rx hs pl pu h;obtain⟨a,xs,rfl,hx,hw,q⟩:=h;cases rx;obtain⟨its,r,ht,hz⟩:=I.tuple hx;have hlen:its.toArray.size=xs.length:=by rw[yP]; exact r.length.symm
 refine⟨"tuple",_,M4.lookup,ht.typeIs,?_⟩;refine HT.getItem_tuple_cut ht hs pl pu (by rw[hlen]; exact hw) ?_ (by rw[hlen]; exact hz);rw[hlen];refine⟨.ref s.heap.objs.size,_,I.laid (t':=s.toks) (o:=.tup (jd xs lo hi)) (λb ob q=>Heap.get?_push_of_some _ q) (yF _) ?_,rfl,q _ (I.zZ.fresh (yF _))⟩;exact⟨wo (BP xs lo hi) hz,_,(r.drop (HT.sIx xs.length 0 lo)).take (HT.sIx xs.length xs.length hi-HT.sIx xs.length 0 lo),IsTup.new _ _⟩
def Ck(K:W.Frag):R2:=λx y H Q=>∃a b xs ys,x=.ref a/\y=.ref b/\ye K H a xs/\ye K H b ys/\xs≠[]/\xs.length+ys.length<=sizeLine/\
 (ys=[]->Q (.ref a) H)/\(ys≠[]->∀p,H p=none->Q (.ref p) (zS H p (.tup (xs++ys))))
theorem zc.QD{xs:List V}{us:List Value}(r:zc xs us):us=[]↔xs=[]:=by
 cases r with
 |nil=>simp
 |cons _ _=>simp
theorem S_:yE X (binaryOp .Add) (Ck X.K):=by
 intro z0 s σ H x y v u Q I rx ry h;obtain⟨a,b,xs,ys,rfl,rfl,ha,hb,hx,hz,q1,q2⟩:=h;cases rx;cases ry;obtain⟨its,r1,p1,_⟩:=I.tuple ha;obtain⟨its2,r2,p2,_⟩:=I.tuple hb;refine HT.cat_tup p1 p2 (λz=>hx (r1.QD.mp z)) (λz=>⟨.ref a,H,I,rfl,q1 (r2.QD.mp z)⟩) (λz=>?_) (by rw[<-r1.length,<-r2.length]; exact hz);refine⟨.ref s.heap.objs.size,_,I.laid (t':=s.toks) (o:=.tup (xs++ys)) (λb ob q=>Heap.get?_push_of_some _ q) (yF _) ?_,rfl,q2 (λw=>z (r2.QD.mpr w)) _ (I.zZ.fresh (yF _))⟩;exact⟨by rw[yL]; exact hz,_,r1.append r2,IsTup.new _ _⟩
end
def ixN(n:Nat)(i:Int):Option Nat:=if 0<=i then(if i<n then some i.toNat else none)else if -(n:Int)<=i then some (i+n).toNat else none
def tO{α:Type}(xs:List α)(i:Int):Option α:=(ixN xs.length i).bind λj=>xs[j]?
theorem DW{n:Nat}{i:Int}{j:Nat}(h:ixN n i=some j):seqIndex? i n=some j/\j<n /\ -(n:Int)<=i/\i<n:=by
 unfold ixN at h;by_cases h0:0<=i
 ·rw[zI h0]at h;by_cases h1:i<n
  ·rw[zI h1]at h;have e:i.toNat=j:=ui h;exact⟨by rw[seqIndex_of h0 h1,e],by omega,by omega,h1⟩
  ·rw[zK h1]at h; cases h
 ·rw[zK h0]at h;by_cases h1 : -(n:Int)<=i
  ·rw[zI h1]at h;have e:(i+n).toNat=j:=ui h;exact⟨by rw[seqIndex_neg (by omega) h1,e],by omega,h1,by omega⟩
  ·rw[zK h1]at h; cases h
theorem Qo{α:Type}{xs:List α}{i:Int}{v:α}(h:tO xs i=some v):∃j,seqIndex? i xs.length=some j/\xs[j]?=some v/\j<xs.length /\ -(xs.length:Int)<=i/\i<xs.length:=by
 unfold tO at h;cases e:ixN xs.length i with
 |none=>rw[e]at h; cases h
 |some j=>
  rw[e]at h;obtain⟨h1,h2,h3,h4⟩:=DW e;exact⟨j,h1,h,h2,h3,h4⟩
def MZ(b:Expr):Prop:=∀o i,subscripted b false o i=operate [o,i] (getItem o i)
def ul(X:Cx)(r:R2):Prop:=
 ∀(value slice:Expr)(z0:List (Addr×Obj)) (s:Shared) (σ:St) (H:Hp) (x y:V) (v u:Value) (Q:VK),zB X z0 σ H s->zd x v->zd y u->r x y H Q->
  subscripted slice false v u=operate [v,u] (getItem v u)->wpAny (model X.prog X.w) X.A (subscriptTail value slice v u) (EP X z0 σ Q) X.xe s
def Qh(X:Cx)(id:String)(r:V->List V->Hp->VK->Prop):Prop:=
 ∀(z0:List (Addr×Obj)) (s:Shared) (σ:St) (H:Hp) (x:V) (xs:List V) (v:Value) (us:List Value) (Q:VK),zB X z0 σ H s->zd x v->zc xs us->r x xs H Q->
  wpAny (model X.prog X.w) X.A (call (.builtin id) (v::us)) (EP X z0 σ Q) X.xe s
section
variable{X:Cx}{a b:Expr}{ta tb:TE}{pos:Pos}
theorem ul.or{r r':R2}(h:ul X r)(h':ul X r'):ul X (λx y H Q=>r x y H Q\/r' x y H Q):=by
 intro value slice z0 s σ H x y v u Q I rx ry q hs;rcases q with q|q
 ·exact h value slice z0 s σ H x y v u Q I rx ry q hs
 ·exact h' value slice z0 s σ H x y v u Q I rx ry q hs
theorem OA{r:R2}(hr:ul X r)(ha:PE X a ta)(hb:PE X b tb)(hs:MZ b):PE X (.Subscript a b pos) (TZ r ta tb):=by
 intro z0 s σ H Q I h;exact Subscript_ (Q_ ha hb I h λv u s2 x y H2 I2 rx ry q=>hr a b z0 s2 σ H2 x y v u Q I2 rx ry q (hs _ _))
def Cn(K:W.Frag):R2:=λx y H Q=>∃p xs i v,x=.ref p/\y=.int i/\yI K H p xs/\tO xs i=some v/\Q v H
def Cp(K:W.Frag):R2:=λx y H Q=>∃p xs i v,x=.ref p/\y=.int i/\ye K H p xs/\tO xs i=some v/\Q v H
def Co:R2:=λx y H Q=>∃z i c,x=.str z/\y=.int i/\z.length<=sizeLine/\tO z.cps.toList i=some c/\Q (.str ⟨#[c]⟩) H
theorem Nx:ul X (Cn X.K):=by
 intro value slice z0 s σ H x y v u Q I rx ry h hs;obtain⟨p,xs,i,z,rfl,rfl,hq,he,q⟩:=h;cases rx;obtain⟨t,rfl⟩:=ry;obtain⟨its,r,pl,hz⟩:=I.list hq;obtain⟨j,h1,h2,h3,h4,h5⟩:=Qo he;obtain⟨w,ew,rw'⟩:=r.get h2;have hl:=r.length;have hn:=kF;have fin:EP X z0 σ Q w s:=⟨z,H,I,rw',q⟩;by_cases h0:0<=i
 ·have hj:i.toNat=j:=by
   rw[seqIndex_of h0 h5]at h1;exact ui h1
  exact item_listR pl.isList h0 (by omega) (by rw[hj]; simpa using ew) fin hs
 ·have hj:(i+(its.toArray.size:Int)).toNat=j:=by
   rw[seqIndex_neg (by omega) h4]at h1;rw[yP,<-hl];exact ui h1
  exact Q3 (x:=w) pl.isList.typeIs slot_list_getitem.lookup
   (wpAny_getItem_list_neg (Q:=λr s'=>r=w/\EP X z0 σ Q r s') pl.isList (by omega) (by rw[yP]<;>omega) (by omega) (by rw[hj]; simpa using ew) ⟨rfl,fin⟩) hs
theorem N_:ul X (Cp X.K):=by
 intro value slice z0 s σ H x y v u Q I rx ry h hs;obtain⟨p,xs,i,z,rfl,rfl,hq,he,q⟩:=h;cases rx;obtain⟨t,rfl⟩:=ry;obtain⟨its,r,pl,hz⟩:=I.tuple hq;obtain⟨j,h1,h2,h3,h4,h5⟩:=Qo he;obtain⟨w,ew,rw'⟩:=r.get h2;have hl:=r.length;have hn:=kF;have fin:EP X z0 σ Q w s:=⟨z,H,I,rw',q⟩
 exact Q3 (x:=w) pl.typeIs slot_tuple_getitem.lookup
  (getItem_tuple (j:=j) (Q:=λr s'=>r=w/\EP X z0 σ Q r s') pl (by omega) (by omega) (by rw[yP,<-hl]; exact h1) (by simpa using ew) ⟨rfl,fin⟩) hs
theorem Nz:ul X Co:=by
 intro value slice z0 s σ H x y v u Q I rx ry h hs;obtain⟨z,i,c,rfl,rfl,hz,he,q⟩:=h;obtain⟨t,rfl⟩:=rx;obtain⟨t',rfl⟩:=ry;obtain⟨j,h1,h2,h3,h4,h5⟩:=Qo he;have hl:z.cps.toList.length=z.length:=by simp[Str.length]
 rw[hl]at h1 h4 h5;have hn:=kF
 exact tail_any (typeIs_str s z t) slot_str_getitem.lookup (getItem_str (c:=c) (by
  have e1:decide (i < -(2 ^ 63:Int))=false:=xE (by omega);have e2:decide (i≥2 ^ 63)=false:=xE (by omega);rw[e1,e2,Bool.or_false]) (by rw[h1]; simpa using h2) ⟨.str ⟨#[c]⟩,H,I.tok _,⟨_,rfl⟩,q⟩) hs
def OR(K:W.Frag):R2:=λx y H Q=>Cn K x y H Q\/Cp K x y H Q\/Co x y H Q
theorem Ny:ul X (OR X.K):=Nx.or (N_.or Nz)
theorem Po(its:List Value)(n j:Nat)(u:Value):Obj.mapSeq (·.setIfInBounds j u) { cls:=.type "list",data:=.seq its.toArray n }={ cls:=.type "list",data:=.seq (its.set j u).toArray n }:=by
 simp[Obj.mapSeq]
theorem zB.lst{z0:List (Addr×Obj)}{σ:St}{H:Hp}{s:Shared}{p:Addr}{xs:List V}(I:zB X z0 σ H s)(h:H p=some (.lst xs)) :
  ∃(its:List Value) (n:Nat),zc xs its/\s.heap.get? p=some { cls:=.type "list",data:=.seq its.toArray n }/\xs.length<=sizeLine:=by
 obtain⟨z,its,n,r,e⟩:=I.zZ p _ h;exact⟨its,n,r,e,z⟩
theorem zB.Gf{z0:List (Addr×Obj)}{σ:St}{H:Hp}{s:Shared}{p:Addr}{xs ys:List V}{its its':List Value}{n n':Nat}{f:Obj->Obj}(I:zB X z0 σ H s)(h:H p=some (.lst xs))
  (ho:s.heap.get? p=some { cls:=.type "list",data:=.seq its.toArray n })(hf:f { cls:=.type "list",data:=.seq its.toArray n }={ cls:=.type "list",data:=.seq its'.toArray n' })(r:zc ys its')(hz:ys.length<=sizeLine)(t:Nat) :
  zB X z0 σ (zS H p (.lst ys)) { s with heap:=s.heap.update p f,toks:=t }:=by
 have e:(s.heap.update p f).get? p=some { cls:=.type "list",data:=.seq its'.toArray n' }:=by
  rw[Heap.get?_update_self f ho (by rw[hf]<;>rfl),hf]
 refine I.write (x:=p) (e:=p) (by rw[h]; trivial) (.inl rfl) (λb u hb q=>(Heap.get?_update_other _ _ (jD hb)).trans q) ⟨_,e⟩ ?_;exact⟨hz,its',n',r,e⟩
def av:V->V->V->Hp->(Hp->Prop)->Prop:=λo i v H Q=>∃p xs k j,o=.ref p/\i=.int k/\H p=some (.lst xs)/\ixN xs.length k=some j/\Q (zS H p (.lst (xs.set j v)))
theorem Oh:Qk X av:=by
 intro z0 s σ H o i v ov iv u Q I ro ri rv h;obtain⟨p,xs,k,j,rfl,rfl,hp,hj,q⟩:=h;cases ro;obtain⟨t,rfl⟩:=ri;obtain⟨its,n,r,ho,hz⟩:=I.lst hp;obtain⟨h1,h2,h3,h4⟩:=DW hj;have hl:=r.length;have hn:=kF
 have I':zB X z0 σ (zS H p (.lst (xs.set j v))) { s with heap:=s.heap.update p (Obj.mapSeq (·.setIfInBounds j u)) }:=
  I.Gf hp ho (Po its n j u) (r.set rv j) (by rw[vV]; exact hz) s.toks
 by_cases h0:0<=k
 ·have hk:k.toNat=j:=by
   rw[seqIndex_of h0 h4]at h1;exact ui h1
  exact W.ki_setAt ho h0 (by omega) (by rw[yP,<-hl]; exact h4) (by rw[hk]; exact⟨_,I',q⟩)
 ·have hk:(k+(its.toArray.size:Int)).toNat=j:=by
   rw[seqIndex_neg (by omega) h3]at h1;rw[yP,<-hl];exact ui h1
  exact W.ki_setBack ho (by omega) (by rw[yP,<-hl]; exact h3) (by omega) (by rw[hk]; exact⟨_,I',q⟩)
theorem e8(lo hi:Option Int)(n:Nat):(sliceBounds lo hi none n).1=((HT.sIx n 0 lo:Nat):Int)/\(sliceBounds lo hi none n).2.1=((HT.sIx n n hi:Nat):Int)/\(sliceBounds lo hi none n).2.2=1:=by
 refine⟨?_,?_,rfl⟩
 ·cases lo with
  |none=>simp[sliceBounds,HT.sIx]
  |some i=>
   simp only[sliceBounds,HT.sIx,Option.getD_none,show(1:Int)>0 by decide,xj];by_cases h:i<0
   ·simp only[h,xj]<;>omega
   ·simp only[h,wq]<;>omega
 ·cases hi with
  |none=>simp[sliceBounds,HT.sIx]
  |some i=>
   simp only[sliceBounds,HT.sIx,Option.getD_none,show(1:Int)>0 by decide,xj];by_cases h:i<0
   ·simp only[h,xj]<;>omega
   ·simp only[h,wq]<;>omega
theorem e7(its:List Value)(lo hi:Option Int):slicePick its.toArray lo hi none=((its.drop (HT.sIx its.length 0 lo)).take (HT.sIx its.length its.length hi-HT.sIx its.length 0 lo)).toArray:=by
 obtain⟨h1,h2,h3⟩:=e8 lo hi its.toArray.size;unfold slicePick;rw[h1,h2,h3];simp only[sliceRange_one,pick_run,yP]<;>rfl
def Ct(K:W.Frag):V->Option Int->Option Int->Hp->VK->Prop:=λx lo hi H Q=>∃a xs,x=.ref a/\yI K H a xs/\∀p,H p=none->Q (.ref p) (zS H p (.lst (jd xs lo hi)))
theorem dt:pK X (Ct X.K):=by
 intro z0 s σ H x v vl vu lo hi sl Q I rx hs pl pu h;obtain⟨a,xs,rfl,hx,q⟩:=h;cases rx;obtain⟨its,r,ht,hz⟩:=I.list hx;have hlen:=r.length;refine⟨"list",_,slot_list_getitem.lookup,ht.isList.typeIs,?_⟩;refine wpAny_getItem_list_slice ht.isList hs pl pu .none (by simp) ?_ (by rw[yP]<;>omega);rw[e7,<-hlen];refine⟨.ref s.heap.objs.size,_,I.laid (t':=s.toks) (o:=.lst (jd xs lo hi)) (λb ob q=>Heap.get?_push_of_some _ q) (yF _) ?_,rfl,q _ (I.zZ.fresh (yF _))⟩;exact⟨wo (BP xs lo hi) hz,_,0,(r.drop (HT.sIx xs.length 0 lo)).take (HT.sIx xs.length xs.length hi-HT.sIx xs.length 0 lo),Heap.get?_push_size _ rfl⟩
def ut:V->Bool
 |.zF=>true
 |.bl _=>true
 |.int _=>true
 |.str _=>true
 |_=>false
def u9:V->V->Bool
 |.zF,.zF=>true
 |.bl a,.bl b=>a==b
 |.bl a,.int b=>(if a then 1 else 0)==b
 |.int a,.bl b=>a==(if b then 1 else 0)
 |.int a,.int b=>a==b
 |.str a,.str b=>a==b
 |_,_=>false
theorem Bn{A:Around}{s:Shared}{y x:V}{u v:Value}(ry:zd y u)(rx:zd x v)(fy:ut y=true)(fx:ut x=true):SeqAt.EqAt A s u v (u9 y x):=by
 cases y with
 |zF=>
  cases ry;cases x with
  |zF=>cases rx; exact M5 _
  |bl b=>cases rx; exact SeqAt.EqAt.none_bool b
  |int b=>obtain⟨t,rfl⟩:=rx; exact SeqAt.EqAt.none_int b t
  |str b=>obtain⟨t,rfl⟩:=rx; exact SeqAt.EqAt.none_str b t
  |_=>exact absurd (show false=true from fx) xO
 |bl a=>
  cases ry;cases x with
  |zF=>cases rx; exact SeqAt.EqAt.bool_none a
  |bl b=>cases rx; exact SeqAt.EqAt.bool_bool a b
  |int b=>obtain⟨t,rfl⟩:=rx; exact SeqAt.EqAt.bool_int a b t
  |str b=>obtain⟨t,rfl⟩:=rx; exact SeqAt.EqAt.bool_str a b t
  |_=>exact absurd (show false=true from fx) xO
 |int a=>
  obtain⟨t',rfl⟩:=ry;cases x with
  |zF=>cases rx; exact SeqAt.EqAt.int_none a t'
  |bl b=>cases rx; exact SeqAt.EqAt.int_bool a t' b
  |int b=>obtain⟨t,rfl⟩:=rx; exact SeqAt.EqAt.int_int a t' b t
  |str b=>obtain⟨t,rfl⟩:=rx; exact SeqAt.EqAt.int_str a t' b t
  |_=>exact absurd (show false=true from fx) xO
 |str a=>
  obtain⟨t',rfl⟩:=ry;cases x with
  |zF=>cases rx; exact SeqAt.EqAt.str_none a t'
  |bl b=>cases rx; exact SeqAt.EqAt.str_bool a t' b
  |int b=>obtain⟨t,rfl⟩:=rx; exact SeqAt.EqAt.str_int a t' b t
  |str b=>obtain⟨t,rfl⟩:=rx; exact SeqAt.EqAt.str_str a t' b t
  |_=>exact absurd (show false=true from fx) xO
 |_=>exact absurd (show false=true from fy) xO
def vY(x:V)(u:Value):Bool:=match u with
 |.none=>u9 .zF x
 |.bool b=>u9 (.bl b) x
 |.int i _=>u9 (.int i) x
 |.str z _=>u9 (.str z) x
 |_=>false
theorem JM{x y:V}{u:Value}(r:zd y u)(f:ut y=true):vY x u=u9 y x:=by
 cases y with
 |zF=>cases r; rfl
 |bl b=>cases r; rfl
 |int i=>obtain⟨t,rfl⟩:=r; rfl
 |str z=>obtain⟨t,rfl⟩:=r; rfl
 |_=>exact absurd (show false=true from f) xO
theorem X4{x:V}:∀{xs:List V}{us:List Value},zc xs us->xs.all ut=true->us.any (vY x)=xs.any λy=>u9 y x
 |_,_,.nil,_=>rfl
 |y::xs,u::us,.cons r t,f=>by
  rw[xh,yC]at f;rw[YY,YY,JM r f.1,X4 t f.2]
theorem Y0{A:Around}{s:Shared}{x:V}{v:Value}(rx:zd x v)(fx:ut x=true):∀{xs:List V}{us:List Value},zc xs us->xs.all ut=true->∀u∈us,SeqAt.EqAt A s u v (vY x u)
 |_,_,.nil,_=>λu hu=>by cases hu
 |y::xs,u::us,.cons r t,f=>λu' hu=>by
  rw[xh,yC]at f;rcases yY.mp hu with rfl|hu
  ·rw[JM r f.1]; exact Bn r rx f.1 fx
  ·exact Y0 rx fx t f.2 u' hu
def Uh(x:V)(xs:List V):Bool:=xs.any λy=>u9 y x
def OP(K:W.Frag)(neg:Bool):R2:=λx y H Q=>∃p xs,y=.ref p/\(yI K H p xs\/ye K H p xs)/\ut x=true/\xs.all ut=true/\Q (.bl (if neg then !Uh x xs else Uh x xs)) H
theorem A6:yE X (compareOp .In) (OP X.K false):=by
 intro z0 s σ H x y v u Q I rx ry h;obtain⟨p,xs,rfl,hq,fx,fs,q⟩:=h;cases ry;rcases hq with hq|hq
 ·obtain⟨its,r,pl,hz⟩:=I.list hq;refine SeqAt.in_listAt (vY x) pl.isList (λw hw=>Y0 rx fx r fs w (by simpa using hw)) ⟨.bl _,H,I,rfl,?_⟩;rw[show its.toArray.any (vY x)=its.any (vY x) by simp,X4 r fs];exact q
 ·obtain⟨its,r,pl,hz⟩:=I.tuple hq;refine SeqAt.in_tupleAt (vY x) pl (λw hw=>Y0 rx fx r fs w (by simpa using hw)) ⟨.bl _,H,I,rfl,?_⟩;rw[show its.toArray.any (vY x)=its.any (vY x) by simp,X4 r fs];exact q
theorem AC:yE X (compareOp .NotIn) (OP X.K true):=by
 intro z0 s σ H x y v u Q I rx ry h;obtain⟨p,xs,rfl,hq,fx,fs,q⟩:=h;cases ry;rcases hq with hq|hq
 ·obtain⟨its,r,pl,hz⟩:=I.list hq;refine SeqAt.notIn_listAt (vY x) pl.isList (λw hw=>Y0 rx fx r fs w (by simpa using hw)) ⟨.bl _,H,I,rfl,?_⟩;rw[show its.toArray.any (vY x)=its.any (vY x) by simp,X4 r fs];exact q
 ·obtain⟨its,r,pl,hz⟩:=I.tuple hq;refine SeqAt.notIn_tupleAt (vY x) pl (λw hw=>Y0 rx fx r fs w (by simpa using hw)) ⟨.bl _,H,I,rfl,?_⟩;rw[show its.toArray.any (vY x)=its.any (vY x) by simp,X4 r fs];exact q
theorem AD:yE X (compareOp .NotIn) (λx y H Q=>∃i j,x=.str i/\y=.str j/\Q (.bl (!(!(Builtin.Str.occurrences j i 0 j.length 1).isEmpty))) H):=by
 intro z0 s σ H x y v u Q I rx ry h;obtain⟨i,j,rfl,rfl,q⟩:=h;obtain⟨t,rfl⟩:=rx;obtain⟨t',rfl⟩:=ry;exact notIn_str ⟨.bl _,H,I,rfl,q⟩
theorem Hs:xY X (.builtin "len") (λxs H Q=>∃p ys,xs=[.ref p]/\(yI X.K H p ys\/ye X.K H p ys)/\Q (.int ys.length) H):=by
 intro z0 s σ H xs us Q I r h;obtain⟨p,ys,rfl,hq,q⟩:=h;obtain⟨u,rfl,rx⟩:=vU r;cases rx;have hn:=kF;rcases hq with hq|hq
 ·obtain⟨its,r',pl,hz⟩:=I.list hq;have hlen:=r'.length;exact Calls.call_len_list pl.isList (by simp only[yP]<;>omega) ⟨.int ys.length,H,I.tok _,⟨s.toks+1,by rw[yP,hlen]⟩,q⟩
 ·obtain⟨its,r',pl,hz⟩:=I.tuple hq;have hlen:=r'.length;exact len_tuple pl (by simp only[yP]<;>omega) ⟨.int ys.length,H,I.tok _,⟨s.toks+1,by rw[yP,hlen]⟩,q⟩
theorem Ht:xY X (.builtin "len") (λxs H Q=>∃z,xs=[.str z]/\z.length<=sizeLine/\Q (.int z.length) H):=by
 intro z0 s σ H xs us Q I r h;obtain⟨z,rfl,hz,q⟩:=h;obtain⟨u,rfl,t,rfl⟩:=vU r;have hn:=kF;exact len_str (by omega) ⟨.int z.length,H,I.tok _,⟨_,rfl⟩,q⟩
theorem xY.or{f:Value}{r r':List V->Hp->VK->Prop}(h:xY X f r)(h':xY X f r'):xY X f (λxs H Q=>r xs H Q\/r' xs H Q):=by
 intro z0 s σ H xs us Q I rs q;rcases q with q|q
 ·exact h z0 s σ H xs us Q I rs q
 ·exact h' z0 s σ H xs us Q I rs q
theorem Hv:xY X (.type "list") (λxs H Q=>∃p ys,xs=[.ref p]/\(yI X.K H p ys\/ye X.K H p ys)/\∀l,H l=none->Q (.ref l) (zS H l (.lst ys))):=by
 intro z0 s σ H xs us Q I r h;obtain⟨p,ys,rfl,hq,q⟩:=h;obtain⟨u,rfl,rx⟩:=vU r;cases rx
 have fin:∀(its:List Value),zc ys its->ys.length<=sizeLine->∀(h':Heap)(c':Nat),(∀b o',s.heap.get? b=some o'->h'.get? b=some o')->
   h'.get? s.heap.objs.size=some { cls:=.type "list",dict:=none,data:=.seq its.toArray c',slots:=#[] }->EP X z0 σ Q (.ref s.heap.objs.size) { s with heap:=h' }:=λits r' hz h' c' kp e=>
  ⟨.ref s.heap.objs.size,_,I.laid (t':=s.toks) kp (yF _) (show xG X.prog X.w _ h' _ (.lst ys)from⟨hz,its,c',r',e⟩),rfl,q _ (I.zZ.fresh (yF _))⟩
 rcases hq with hq|hq
 ·obtain⟨its,r',pl,hz⟩:=I.list hq;have hlen:=r'.length;obtain⟨o,ho,hc,n,hd⟩:=pl.isList;exact call_list_seq p (.inl rfl) ho hc hd (λh' c' kp e=>fin its r' hz h' c' kp e) (by simp only[yP]<;>omega)
 ·obtain⟨its,r',pl,hz⟩:=I.tuple hq;have hlen:=r'.length;obtain⟨o,ho,hc,n,hd⟩:=pl;exact call_list_seq p (.inr rfl) ho hc hd (λh' c' kp e=>fin its r' hz h' c' kp e) (by simp only[yP]<;>omega)
theorem J7:xY X (.type "tuple") (λxs H Q=>∃p ys,xs=[.ref p]/\((yI X.K H p ys/\∀l,H l=none->Q (.ref l) (zS H l (.tup ys)))\/(ye X.K H p ys/\Q (.ref p) H))):=by
 intro z0 s σ H xs us Q I r h;obtain⟨p,ys,rfl,h⟩:=h;obtain⟨u,rfl,rx⟩:=vU r;cases rx;rcases h with⟨hq,q⟩|⟨hq,q⟩
 ·obtain⟨its,r',pl,hz⟩:=I.list hq;have hlen:=r'.length;refine call_tuple_list pl.isList (λh' kp=>?_) (by simp only[yP]<;>omega);have I1:zB X z0 σ H { s with heap:=h' }:=I.kept (t':=s.toks) kp
  have I2:zB X z0 σ (zS H h'.objs.size (.tup ys)) { s with heap:=h'.push { cls:=.type "tuple",data:=.seq its.toArray } }:=
   I1.laid (t':=s.toks) (λb o e=>Heap.get?_push_of_some _ e) (yF _) (show xG X.prog X.w _ _ _ (.tup ys)from⟨hz,its,r',IsTup.new _ _⟩)
  exact⟨.ref h'.objs.size,_,I2,rfl,q _ (I1.zZ.fresh (yF _))⟩
 ·obtain⟨its,r',pl,hz⟩:=I.tuple hq;exact call_tuple_same pl ⟨.ref p,H,I,rfl,q⟩
def Eo(K:W.Frag)(T:String)(x:V)(H:Hp):Prop:=match x with
 |.str _=>T = "str"
 |.int _=>T = "int"
 |.ref p=>(T = "list" /\ ∃xs,yI K H p xs)\/(T = "tuple" /\ ∃o,K.lookup p=some o/\o.cls=.type "tuple" /\ o.dict=none) \/
   (T = "dict" /\ ((∃kvs,H p=some (.dK kvs))\/∃kvs,H p=some (.dT kvs)))\/(T = "set" /\ ∃S n,H p=some (.set S n))
 |_=>False
theorem iM{z0:List (Addr×Obj)}{σ:St}{H:Hp}{s:Shared}{T:String}{x:V}{v:Value}(I:zB X z0 σ H s)(r:zd x v)(ty:Eo X.K T x H) :
  s.TypeIs v T/\∀a,v=.ref a->∃ob,s.heap.get? a=some ob/\ob.dict=none:=by
 cases x with
 |str z=>
  obtain⟨t,rfl⟩:=r;cases(show T = "str" from ty);exact⟨typeIs_str s z t,λ_ e=>nomatch e⟩
 |int i=>
  obtain⟨t,rfl⟩:=r;cases(show T = "int" from ty);exact⟨typeIs_int s i t,λ_ e=>nomatch e⟩
 |ref p=>
  cases r;rcases ty with⟨rfl,xs,hq⟩|⟨rfl,o,hk,hc,hd⟩|⟨rfl,hk⟩|⟨rfl,S,n,hk⟩
  ·obtain⟨its,_,pl,_⟩:=I.list hq;refine⟨pl.isList.typeIs,λa e=>?_⟩;cases e;obtain⟨o,n,e,c,hd,_⟩:=pl;exact⟨o,e,hd⟩
  ·refine⟨⟨o,I.xN p o hk,hc⟩,λa e=>?_⟩;cases e;exact⟨o,I.xN _ o hk,hd⟩
  ·have z:∃o,s.heap.get? p=some o/\o.ExactDict:=by
    rcases hk with⟨kvs,hk⟩|⟨kvs,hk⟩
    ·obtain⟨_,_,_,_,o,_,_,e,ex,_⟩:=I.zZ p _ hk;exact⟨o,e,ex⟩
    ·obtain⟨_,_,_,_,o,_,_,e,ex,_⟩:=I.zZ p _ hk;exact⟨o,e,ex⟩
   obtain⟨o,e,ex⟩:=z;refine⟨⟨o,e,ex.1⟩,λa e2=>?_⟩;cases e2;exact⟨o,e,ex.2.1⟩
  ·obtain⟨o,_,_,_,e,ex,_⟩:=I.zZ p _ hk;refine⟨⟨o,e,ex.1⟩,λa e2=>?_⟩;cases e2;exact⟨o,e,ex.2.1⟩
 |_=>exact False.elim ty
def Ei(K:W.Frag)(T:String)(r:V->List V->Hp->VK->Prop)(to:TE)(t:TA):TE:=λσ H Q=>to σ H λx H1=>Eo K T x H1/\t σ H1 λxs H2=>r x xs H2 Q
variable{o e:Expr}{es:List Expr}{to:TE}{t:TA}{name:Str}{apos cpos:Pos}{T id:String}{r:V->List V->Hp->VK->Prop}
theorem AO(pa:PlainAttrs T)(slot:Slot T name id)(hty:typeOf (.builtin id)=pure (.type "method_descriptor"))(hm:Qh X id r)(ho:PE X o to)(ha:PA X (e::es) t)
  (hbase:attributeBase o name X.env (eval o X.env)=eval o X.env:=by rfl)
  (hfew:((backTo cpos (starEach (e::es) X.env)).all (λx=>!x.1)&&(backToKw cpos (keywordEach [] X.env)).all (λx=>x.1.isSome)
   && decide ((e::es).length+([]:List Keyword).length+(if([]:List Keyword).isEmpty then 0 else 1)<30))=true:=by rfl)
  (hline:(apos.endLine==cpos.line)=true:=by rfl)(hs:starEach (e::es) X.env=(false,eval e X.env)::starEach es X.env:=by rfl)(hplain:(backTo cpos (starEach es X.env)).any (·.1)=false:=by rfl) :
  PE X (.Call (.Attribute o name apos) (e::es) [] cpos) (Ei X.K T r to t):=by
 intro z0 s σ H Q I h;refine wpAny_Call_method_late hbase hfew hline rfl (ze (ho z0 s σ H _ I h) λv s1 ⟨x,H1,I1,r1,ty,q1⟩=>?_);obtain⟨h1,h2⟩:=iM I1 r1 ty;refine⟨T,id,pa,slot,hty,h1,h2,?_⟩;have hA:=ha cpos z0 s1 σ H1 _ I1 q1;rw[hs]at hA ⊢;refine Calls.callWith_builtin (by show(false||(backTo cpos (starEach es X.env)).any (·.1))=false; rw[hplain]<;>rfl) (Calls.evalArgs_plain ?_);exact ze hA λus s2 ⟨vs,H2,I2,r2,q2⟩=>hm z0 s2 σ H2 x vs v us Q I2 r1 r2 q2
end
def Gp(X:Cx)(id:String)(r:V->List V->Hp->VK->Prop):Prop:=
 ∀(z0:List (Addr×Obj)) (s:Shared) (σ:St) (H:Hp) (x:V) (xs:List V) (v:Value) (us:List Value) (Q:VK),zB X z0 σ H s->zd x v->zc xs us->r x xs H Q->
  wpAny (model X.prog X.w) X.A (call (.builtin id) (v::us)) (EP X z0 σ Q) X.xe s
theorem zc.one:∀{x:V}{us:List Value},zc [x] us->∃u,us=[u]/\zd x u
 |_,_,.cons r .nil=>⟨_,rfl,r⟩
theorem zc.rep{xs:List V}{us:List Value}(h:zc xs us):∀k:Nat,zc (List.replicate k xs).flatten (List.replicate k us).flatten
 |0=>.nil
 |k+1=>by
  rw[gB,gB,Yd,Yd];exact zc.append h (zc.rep h k)
theorem Bv(its:List Value):∀(k:Nat)(acc:List Value),
  List.foldl (λx1 x2=>x1++x2) acc.toArray (List.replicate k its.toArray)=(acc++(List.replicate k its).flatten).toArray
 |0,acc=>by simp
 |k+1,acc=>by
  have e:acc.toArray++its.toArray=(acc++its).toArray:=by simp
  have e2:(acc++its)++(List.replicate k its).flatten=acc++(List.replicate (k+1) its).flatten:=by
   rw[gB,Yd,Lh]
  rw[<-e2,<-Bv its k (acc++its),<-e,gB,List.foldl_cons]
section
variable{X:Cx}{z0:List (Addr×Obj)}{σ:St}{H:Hp}{s:Shared}{l b:Addr}{xs ys zs:List V}
theorem zB.MK{its its':List Value}{n:Nat}{f:Array Value->Array Value}{t':Nat}(I:zB X z0 σ H s)(hH:H l=some (.lst xs))
  (e:s.heap.get? l=some { cls:=.type "list",data:=.seq its.toArray n })(hf:f its.toArray=its'.toArray)(hv:zc ys its')(hz:ys.length<=sizeLine) :
  zB X z0 σ (zS H l (.lst ys)) { s with heap:=s.heap.update l (Obj.mapSeq f),toks:=t' }:=by
 have q:=PySem.IsL.update e f;rw[hf]at q;refine I.write (x:=l) (e:=l) (by rw[hH]; exact trivial) (.inl rfl) (λb' u hb hu=>(Heap.get?_update_other s.heap (Obj.mapSeq f) (jD hb)).trans hu) ⟨_,q⟩ ?_;exact⟨hz,its',_,hv,q⟩
theorem zB.MJ{its:List Value}{t':Nat}(I:zB X z0 σ H s)(hv:zc ys its)(hz:ys.length<=sizeLine) :
  zB X z0 σ (zS H s.heap.objs.size (.lst ys)) { s with heap:=s.heap.push { cls:=.type "list",data:=.seq its.toArray },toks:=t' }:=
 I.laid (λ_ _ q=>Heap.get?_push_of_some _ q) (yF _) ⟨hz,its,0,hv,Heap.get?_push_size _ rfl⟩
theorem zB.fresh(I:zB X z0 σ H s):H s.heap.objs.size=none:=I.zZ.fresh (yF _)
theorem zB.QB(I:zB X z0 σ H s)(hH:H l=some (.lst xs)):xs.length<=sizeLine/\∃(its:List Value) (n:Nat),zc xs its/\xs.length=its.length/\s.heap.get? l=some { cls:=.type "list",data:=.seq its.toArray n }:=by
 obtain⟨z,its,n,r,e⟩:=I.zZ l _ hH;exact⟨z,its,n,r,r.length,e⟩
theorem FW{n:Nat}(h:n<=sizeLine):Builtin.List.listTooLong n=false:=by
 unfold Builtin.List.listTooLong;exact xE (by omega)
end
section
variable{X:Cx}
def ai:V->List V->Hp->VK->Prop:=λx vs H Q=>∃l xs y,x=.ref l/\vs=[y]/\H l=some (.lst xs)/\xs.length<sizeLine/\Q .zF (zS H l (.lst (xs++[y])))
theorem R5:Gp X "list.append" ai:=by
 intro z0 s σ H x vs v us Q I rx rv h;obtain⟨l,xs,y,rfl,rfl,hH,hz,q⟩:=h;cases rx;obtain⟨u,rfl,ru⟩:=rv.one;obtain⟨z,its,n,r,hl,e⟩:=I.QB hH;refine Ym F.slot_list_append ⟨_,e,rfl⟩ F.entry_list_append (F.args_list_append_2 _ _) (PySem.list_append l its.toArray n u (by rw[yP]; omega)) ⟨e,?_⟩;refine⟨.zF,_,I.MK (its':=its++[u]) hH e (by simp) (r.append (.cons ru .nil)) ?_,rfl,q⟩;rw[yL,List.length_singleton];omega
def au:R2:=λx y H Q=>∃l k xs,x=.ref l/\y=.int k/\H l=some (.lst xs) /\ -(2 ^ 63)<=k/\k<2 ^ 63/\xs.length*k.toNat<=sizeLine/\
 ∀p,H p=none->Q (.ref p) (zS H p (.lst (List.replicate k.toNat xs).flatten))
theorem Dk{α:Type}(xs:List α)(k:Nat):(List.replicate k xs).flatten.length=k*xs.length:=by
 induction k with
 |zero=>simp
 |succ k ih=>rw[gB,Yd,yL,ih,Nat.succ_mul,Nat.add_comm]
theorem AF:yE X (binaryOp .Mult) au:=by
 intro z0 s σ H x y v u Q I rx ry h;obtain⟨l,k,xs,rfl,rfl,hH,h1,h2,hz,q⟩:=h;cases rx;obtain⟨t,rfl⟩:=ry;obtain⟨z,its,n,r,hl,e⟩:=I.QB hH;have hlen:its.toArray.size*k.toNat<=sizeLine:=by rw[yP,<-hl]; exact hz
 have hcap:¬ its.toArray.size*k.toNat>(2 ^ 63-1)/8:=by
  have:(sizeLine:Nat)<=(2 ^ 63-1)/8:=by decide
  omega
 have hfit:¬ (!Builtin.List.listFitsIndex k)=true:=by
  rw[fitsIndex_both h1 h2];exact xO
 have hlong:¬ Builtin.List.listTooLong (its.toArray.size*k.toNat)=true:=by
  rw[FW hlen];exact xO
 have hnew:List.foldl (λx1 x2=>x1++x2) #[] (List.replicate (if its.toArray.isEmpty=true then 0 else k.toNat) its.toArray)=(List.replicate k.toNat its).flatten.toArray:=by
  have f0:∀m:Nat,List.foldl (λx1 x2=>x1++x2) #[] (List.replicate m its.toArray)=(List.replicate m its).flatten.toArray:=λm=>by
   have:=Bv its m [];rw[Lu]at this;exact this
  rw[f0];cases its with
  |nil=>simp
  |cons a r'=>rw[zK (by simp)]
 refine wpAny_binaryOp_repeat_ref (T := "list") (U := "int") (by decide) ⟨_,e,rfl⟩ (λs'=>typeIs_int s' k t) noFill_list_mul F.fills_int_mul F.slot_int_rmul repeat_list F.slot_int_index.lookup
  (Ym F.slot_int_rmul (typeIs_int s k t) F.entry_int_rmul (F.args_int_rmul_2 _ _) (int___rmul___int_list k t l its.toArray n)
   ⟨e,rfl,⟨_,e,rfl⟩,Ym F.slot_list_mul ⟨_,e,rfl⟩ F.entry_list_mul (F.args_list_mul_2 _ _) (AutoListH.list___mul___list_int_3 l its.toArray n k t hfit hcap hlong) ⟨e,?_⟩⟩)
 rw[hnew];exact⟨.ref _,_,I.MJ (t':=s.toks) (r.rep k.toNat) (by rw[Dk,Nat.mul_comm]; exact hz),rfl,q _ I.fresh⟩
end
section
variable{prog:Program}{w:World}{A:Around}{E:Value->Shared->Prop}{s:Shared}
end
section
variable{X:Cx}
end
end L2
namespace Att
open PySem PySem.W PySem.Calls PyProof.Rows
theorem Nk{P:Params}{h:Heap}:∀(ns:List Int)(vs:List Value),WellAll P h vs (ns.map WData.int)->IntsAre vs ns:=by
 intro ns
 induction ns with
 |nil=>
  intro vs w;rw[V3]at w;cases w;exact .nil
 |cons n ns ih=>
  intro vs w;rw[xA]at w;cases w with
  |cons a b=>
   cases a;exact .cons _ _ (ih _ b)
theorem script_of{l:OpenLaw}{n:Nat}(hn:l.most=some n){P:Params}{h:Heap}{args:List WData}{vals:List Value}
  (hpre:l.row.toRowW.claim.pre args=true)(hwl:WellAll P h vals args) :
  ∃a vs ns,vals=[Value.ref a]/\args=[WData.list (ns.map WData.int)]/\h.get? a=some { cls:=.type "list",data:=.seq vs.toArray }/\IntsAre vs ns/\ns.length<=n:=by
 have hsh:WShape.hasAll [] args [.list .int]=true:=(pre_splitW hpre).1;have hc:l.pre.holds [] { args:=args }=true:=(pre_splitW hpre).2;obtain⟨d,r,rfl,h1,h2⟩:=hasAllW_cons hsh;obtain rfl:=hasAllW_nil h2;obtain⟨xs,rfl,h3⟩:=hasW_list h1;obtain⟨ns,rfl⟩:=items_int h3
 have hlen:ns.length<=n:=by
  unfold OpenLaw.pre at hc
  have h4:(WTm.not (.lt (.lit (.int (n:Int))) (.len (.arg 0)))).holds [] { args:=[.list (ns.map .int)] }=true:=by
   have h4:=(holds_andW hc).1;rw[hn]at h4;exact h4
  have h5:=condW_of h4 (w_not (w_lt w_lit (w_len_list (w_arg rfl))));rw[zo]at h5;refine Nat.le_of_not_lt λq=>?_
  have q':(n:Int)<((ns.length:Nat):Int):=by omega
  first
   |(rw[yQ q']at h5; exact absurd h5 (by decide))
   |(simp at h5; omega)
 cases hwl with
 |cons w1 w2=>
  cases w2;cases w1 with
  |list ho hall=>exact⟨_,_,ns,rfl,rfl,ho,Nk ns _ hall,hlen⟩
theorem post_true(l:OpenLaw)(args:List WData):l.row.toRowW.claim.post args (.bool true) args=true:=
 postW_of (r:=l.row.toRowW) (X:=(true==true))
  (show WShape.has [] (.bool true) .bool=true by first|rfl|decide|simp[WShape.has,WShape.arms,WShape.armsAll])
  (show(WTm.eq .res (.lit (.bool true))).value [] { args:=args,res:=some (.bool true),after:=args }=some (.bool (true==true))from w_eq_bool (w_res rfl) w_lit) rfl
section
variable{prog:Program}{w:World}{A:Around}{E:Value->Shared->Prop}{s:Shared}{K:Frag}
end
end Att
namespace L2
open PySem PySem.Spec PyProof.Rows
theorem Ey:∀{vs:List Value}{ns:List Int},IntsAre vs ns->zc (ns.map V.int) vs
 |_,_,.nil=>.nil
 |_,_,.cons n t h=>.cons ⟨t,rfl⟩ (Ey h)
def MY(H:Hp):Prop:=∀b,H b=none\/∃o xs,H b=some (.wC o (.lst xs))
theorem Pa{P:Program}{w:World}{K:W.Frag}{mg mb:Str->Option Value}{CX:tw}{k:Nat}{fa a:Addr}{fd:FuncData}{x:Str}{sp:Sp}{s₁:Shared}{vs:List Value}{ns:List Int}
  (KX:K.In s₁.heap)(hns:s₁.heap.Ns mainGlobals mg)(hb:s₁.heap.Ns builtinsNs mb)(hbb:∀x:Str,x ≠ "__name__" -> mb x=bootBuiltins x)(hlim:s₁.heap.NoLimit)(hg:s₁.gens=#[])
  (ha:s₁.heap.get? a=some { cls:=.type "list",data:=.seq vs.toArray })(hi:IntsAre vs ns)(hl:ns.length<=sizeLine)(hr:yS k callerA)
  (F:∀base:Heap,K.In base->base.Ns mainGlobals mg->yz P w K mg base CX k fa fd [x] sp)(hbind:∀(s:Shared)(u:Value),BindsTo s fd ⟨[u],[]⟩ [(x,u)])
  (hsp:∀H:Hp,MY H->yI K H a (ns.map V.int)->sp [.ref a] H (λv _=>v=.bl true) λ_ _ _=>False)
  (hCX:∀H e s',CX [] H s₁ (λ_ _ _=>False) e s'->False) :
  codeAny (model P w) callerA (.call (.ref fa) ⟨[.ref a],[]⟩) (λr s'=>r=.ok (.ret (.bool true))/\OldK s₁.heap s'.heap/\s'.os=s₁.os/\AllBare s'.gens) s₁:=by
 have rv:=Ey hi;have lenV:=hi.length
 have core:∀H:Hp,MY H->yI K H a (ns.map V.int)->xF P w H s₁.heap->(∀b,H b≠none->b=a)->(H a≠none->K.lookup a=none)->
   codeAny (model P w) callerA (.call (.ref fa) ⟨[.ref a],[]⟩) (λr s'=>r=.ok (.ret (.bool true))/\OldK s₁.heap s'.heap/\s'.os=s₁.os/\AllBare s'.gens) s₁:=by
  intro H hO hS zZ hA hK;have base_of:∀{b:Addr}{o:Obj},s₁.heap.get? b=some o->H b=none->(pQ s₁.heap H).get? b=some o:=λe n=>Na e n
  have noA:∀{b:Addr}{o:Obj}{es:Array DictEntry}{ep:Nat},s₁.heap.get? b=some o->o.data=.dict es ep->H b=none:=λ{b o es ep} e d=>by
   cases q:H b with
   |none=>rfl
   |some u=>
    have e':b=a:=hA b (by rw[q]; simp);subst e';rw[ha]at e; cases e;have d':Data.seq vs.toArray _=Data.dict es ep:=d;cases d'
  have nsK:∀{b:Addr}{m:Str->Option Value},s₁.heap.Ns b m->(pQ s₁.heap H).Ns b m:=λ{b m} ⟨o,es,ep,e,d,r⟩=>⟨o,es,ep,base_of e (noA e d),d,r⟩
  have hKb:K.In (pQ s₁.heap H):=λb o e=>base_of (KX b o e) (by
   cases q:H b with
   |none=>rfl
   |some u=>
    have e':b=a:=hA b (by rw[q]; simp);subst e';rw[hK (by rw[q]; simp)]at e; cases e)
  have hM:Mod K mg (pQ s₁.heap H):=⟨hKb,nsK hns,⟨mb,nsK hb,hbb⟩,let ⟨mc,h1,h2⟩:=hlim; ⟨mc,nsK h1,h2⟩⟩;have e0:gM P w K mg (pQ s₁.heap H) callerA [] s₁ H:=⟨rfl,hM,λb o e=>RP e,Tx (Nb _ _),trivial,λb hb=>absurd (show b∈([]:List Addr)from hb) (by simp),zZ,.of_eq hg⟩;refine Q2 ((F _ hKb (nsK hns)).run callerA [] s₁ H ⟨[.ref a],[]⟩ [.ref a] [.ref a] _ _ hr e0 (hbind s₁ (.ref a)) (.cons rfl .nil) (hsp H hO hS)) λr s' h=>?_
  cases r with
  |error e=>exact(hCX H e s' h).elim
  |ok fl=>
   cases fl with
   |next=>exact False.elim h
   |brk=>exact False.elim h
   |cont=>exact False.elim h
   |ret u=>
    obtain⟨v,H',os,bare,un,hok',r',q⟩:=h;have q':v=.bl true:=q;subst q';obtain rfl:u=Value.bool true:=r';refine⟨rfl,OldK.of_keep λb o e=>?_,os,bare⟩;cases q:H b with
    |none=>exact un.keep b o e q (by intro z; exact absurd (show b∈([]:List Addr)from z) (by simp)) (by simp)
    |some u=>
     rcases hO b with z|⟨ob,xs,z⟩
     ·rw[q]at z; cases z
     ·have z2:=un.vx b ob _ z;obtain⟨e1,_⟩:=zZ b _ z;obtain⟨e2,_⟩:=hok' b _ z2;rw[e]at e1; cases e1;exact e2
 cases hk:K.lookup a with
 |some o=>
  have e:=KX a o hk;rw[ha]at e;cases e;refine core (λ_=>none) (λ_=>.inl rfl) (.inr ⟨_,vs.toArray,_,hk,rfl,rfl,rfl,by rw[yP,lenV]; exact hl,by simpa using rv⟩) (λb u z=>by have z':(none:Option HO)=some u:=z; cases z') (λb z=>absurd rfl z) λz=>absurd rfl z
 |none=>
  refine core (λb=>if b=a then some (.wC { cls:=.type "list",data:=.seq vs.toArray } (.lst (ns.map V.int)))else none) (λb=>?_) (.inl (.inr ⟨{ cls:=.type "list",data:=.seq vs.toArray },zI rfl⟩)) (λb u z=>?_) (λb z=>?_) λ_=>hk
  ·by_cases hb:b=a
   ·exact .inr ⟨_,_,zI hb⟩
   ·exact .inl (zK hb)
  ·by_cases hb:b=a
   ·have z':=(zI hb).symm.trans z;cases z';subst hb;exact⟨ha,by rw[zo]; exact hl,vs,_,rv,ha⟩
   ·have z':=(zK hb).symm.trans z;cases z'
  ·by_cases hb:b=a
   ·exact hb
   ·exact absurd (zK hb) z
def qG(s:Stmt)(j:Nat):Stmt:=match s with
 |.ClassDef _ _ _ body _ _ _ _ _ _ _=>body.getD j (.Pass ⟨0,0,0,0⟩)
 |_=>.Pass ⟨0,0,0,0⟩
def xH(s:Stmt):Arguments:=match s with
 |.FunctionDef _ a _ _ _ _ _ _ _ _=>a
 |_=>{ posonlyargs:=[],args:=[],vararg:=none,kwonlyargs:=[],kw_defaults:=[],kwarg:=none,defaults:=[] }
def yc(s:Stmt):List Stmt:=match s with
 |.FunctionDef _ _ b _ _ _ _ _ _ _=>b
 |_=>[]
def zT(s:Stmt):Scope:=match s with
 |.FunctionDef _ _ _ _ _ _ sc _ _ _=>sc
 |_=>{ kind:=.function,names:=[],isGenerator:=false,isCoroutine:=false }
abbrev xB:tw:=λ_ _ _ _ _ _=>False
abbrev E0:XK:=λ_ _ _=>False
theorem kM{X:Cx}:ZQ xB X E0:=λ_ _ _ _ _ _ _ h=>h.elim
structure Fun(K:W.Frag)(x qual:Str)(st:Stmt)(f:Addr)(fd:FuncData):Prop where
 ex:∃(oc:Value) (od:Option Addr) (kV doc pm:Value) (an:Option Addr) (cdv ct:Value) (osl:Array (Option Value)),
  fd=W.fnOf x qual (xH st) (yc st) (zT st) .none kV doc pm an cdv ct/\K.lookup f=some ⟨oc,od,.func fd,osl⟩/\W.codeIn K cdv qual=true
 kp:W.keepIn K (.ref f)=true
section
variable{P:Program}{w:World}{K:W.Frag}{mg:Str->Option Value}{base:Heap}
theorem Fun.ok{x qual:Str}{st:Stmt}{f:Addr}{fd:FuncData}{N ps:List Str}{k:Nat}{sp:Sp}(F:Fun K x qual st f fd)(S:zk N ps (zT st))(len:∀vs H Q E,sp vs H Q E->vs.length=ps.length)
  (hbody:∀(cdv:Value)(A:Around)(outer:List Env)(s:Shared)(H:Hp)(vs:List V)(Q:VK)(E:XK),yS k (A.deeper (envOfC qual (zT st) s.heap.objs.size f cdv))->sp vs H Q E->
   ∃t,vW (uo xB P w K mg base N qual (zT st) f cdv A outer s H E).t9 (yc st) t/\t { nx:=λ_ H'=>Q .zF H',rt:=Q } (start N vs) H):yz P w K mg base xB (k+1) f fd ps sp:=by
 obtain⟨oc,od,kV,doc,pm,an,cdv,ct,osl,rfl,lk,hcd⟩:=F.ex;refine Bu lk hcd S len λA outer s H vs Q E hr hsp=>?_
 obtain⟨t,h,q⟩:=hbody cdv A outer s H vs Q E hr hsp;exact⟨t,h.t9,q⟩
theorem Fun.binds{x qual:Str}{st:Stmt}{f:Addr}{fd:FuncData}{ps:List Str}(F:Fun K x qual st f fd)
  (h:∀(kV doc pm:Value)(an:Option Addr)(cdv ct:Value)(us:List Value),us.length=ps.length->bindArgs (W.fnOf x qual (xH st) (yc st) (zT st) .none kV doc pm an cdv ct) ⟨us,[]⟩=pure (ps.zip us)):xn K fd ps []:=by
 obtain⟨oc,od,kV,doc,pm,an,cdv,ct,osl,rfl,lk,hcd⟩:=F.ex;exact .all (h kV doc pm an cdv ct)
theorem yA{x qual:Str}{st:Stmt}{f:Addr}{oc:Value}{od an:Option Addr}{osl:Array (Option Value)}{kV doc pm cdv ct:Value}(l:K.lookup f=some ⟨oc,od,.func (W.fnOf x qual (xH st) (yc st) (zT st) .none kV doc pm an cdv ct),osl⟩)
  (c:W.codeIn K cdv qual=true)(k:W.keepIn K (.ref f)=true):Fun K x qual st f (W.fnOf x qual (xH st) (yc st) (zT st) .none kV doc pm an cdv ct):=⟨⟨oc,od,kV,doc,pm,an,cdv,ct,osl,rfl,l,c⟩,k⟩
end
theorem zL{A:Around}{k:Nat}(hr:yS k A):A.units+1<cLine:=Ly (GZ (by decide:1<=64) _) hr.units
theorem e9{n:Nat}(h:n<=1000):n<sizeLine:=Ly h (by decide)
section
variable{X:Cx}
end
theorem jh{A B:Prop}(h:B):if false=true then A else B:=by
 rw[zK xO];exact h
theorem ji{A B:Prop}(h:A):if true=true then A else B:=by
 rw[zI rfl];exact h
def zg(H H':Hp):Prop:=∀b o,H b=some o->H' b=some o
theorem zg.refl(H:Hp):zg H H:=λ_ _ h=>h
theorem zg.trans{H H1 H2:Hp}(a:zg H H1)(b:zg H1 H2):zg H H2:=λc o h=>b c o (a c o h)
theorem zg.free{H H':Hp}(e:zg H H'){l:Addr}(h:H' l=Option.none):H l=Option.none:=by
 cases q:H l with
 |none=>rfl
 |some o=>
  rw[e l o q]at h;cases h
end L2
set_option linter.all false
set_option maxRecDepth 100000
set_option maxHeartbeats 4000000
namespace L2
open PySem PySem.Spec PyProof.Rows
def zH(K:W.Frag)(mg:Str->Option Value)(x:Str)(st:Stmt)(ps:List Str):Prop:=
 ∃(f:Addr) (fd:FuncData),Fun K x x st f fd/\mg x=some (.ref f)/\xn K fd ps []
def zM(P:Program)(w:World)(K:W.Frag)(mg:Str->Option Value)(base:Heap)(x:Str)(ps:List Str)(k:Nat)(sp:Sp):Prop:=
 ∃(f:Addr) (fd:FuncData),mg x=some (.ref f)/\W.keepIn K (.ref f)=true/\xn K fd ps []/\yz P w K mg base xB k f fd ps sp
def xZ(mg:Str->Option Value)(x:Str)(v:V):Prop:=∃u,mg x=some u/\zd v u
section
variable{P:Program}{w:World}{K:W.Frag}{mg:Str->Option Value}{base:Heap}
theorem zH.ok{x:Str}{st:Stmt}{N ps:List Str}{k:Nat}{sp:Sp}(d:zH K mg x st ps)(S:zk N ps (zT st))(len:∀vs H Q E,sp vs H Q E->vs.length=ps.length)
  (hbody:∀(f:Addr)(cdv:Value)(A:Around)(outer:List Env)(s:Shared)(H:Hp)(vs:List V)(Q:VK)(E:XK),yS k (A.deeper (envOfC x (zT st) s.heap.objs.size f cdv))->sp vs H Q E->
   ∃t,vW (uo xB P w K mg base N x (zT st) f cdv A outer s H E).t9 (yc st) t/\t { nx:=λ_ H'=>Q .zF H',rt:=Q } (start N vs) H):zM P w K mg base x ps (k+1) sp:=by
 obtain⟨f,fd,F,hm,hb⟩:=d;exact⟨f,fd,hm,F.kp,hb,F.ok S len (hbody f)⟩
end
section
variable{X:Cx}{x:Str}{p pos:Pos}{e:Expr}{es:List Expr}{t:TA}{ps:List Str}{j k:Nat}{sp:Sp}{v:V}{T:String}
def yZ:Expr->Bool
 |.Starred ..=>false
 |_=>true
theorem vv{e:Expr}{es:List Expr}{env:Env}(h:yZ e=true):starEach (e::es) env=(false,eval e env)::starEach es env:=by
 cases e<;>first|rfl|cases h
theorem j3{env:Env}{pos:Pos}:∀{es:List Expr},es.all yZ=true->(backTo pos (starEach es env)).any (·.1)=false
 | [],_=>rfl
 |e::es,h=>by
  rw[xh,yC]at h;rw[vv h.1];have ih:=j3 (env:=env) (pos:=pos) h.2;unfold backTo at ih ⊢;rw[xA,YY,ih];rfl
theorem jr{te:TE}(ha:PE X e te)(hr:PA X es t)(h:yZ e=true:=by rfl):PA X (e::es) (Ou te t):=AH ha hr (vv h)
def Vd:Expr->Option Int
 |.Constant (.int i) _ _=>some i
 |_=>none
theorem HC{e:Expr}{i:Int}(h:Vd e=some i):∃k p,e=.Constant (.int i) k p:=by
 cases e<;>first|(cases h; done)|skip
 rename_i c k p;cases c<;>first|(cases h; done)|skip
 cases h;exact⟨k,p,rfl⟩
def intsOf:List Expr->Option (List Int)
 | []=>some []
 |e::r=>(Vd e).bind λi=>(intsOf r).map (i::·)
theorem C3:∀{es:List Expr}{is:List Int},intsOf es=some is->PA X es (λ_ H Q=>Q (is.map V.int) H)
 | [],is,h=>by
  cases(show some []=some is from h);exact Y8
 |e::r,is,h=>by
  have q:((Vd e).bind λi=>(intsOf r).map (i::·))=some is:=h;cases e1:Vd e with
  |none=>rw[e1]at q; cases q
  |some i=>
   rw[e1]at q;obtain⟨k,p,rfl⟩:=HC e1;cases e2:intsOf r with
   |none=>rw[e2]at q; cases q
   |some js=>
    rw[e2]at q;cases(show some (i::js)=some is from q);exact jr C8 (C3 e2)
theorem OB(h:zM X.prog X.w X.K X.mg X.base x ps k sp)(hr:yS j X.A)(hg:Gl X x)(ha:PA X (e::es) t)(hk:k<=j:=by decide)(hdb:(x==("__debug__" : Str))=false:=by decide)
  (he:(e::es).all yZ=true:=by rfl):PE X (.Call (.Name x p) (e::es) [] pos) (Ot sp [] E0 t):=by
 obtain⟨f,fd,hm,kp,b,F⟩:=h;rw[xh,yC]at he;exact AR F (hr.mono hk) hg hm kp b .nil kM ha hdb (vv he.1) (j3 he.2)
theorem O9(h:xZ X.mg x v)(hg:Gl X x)(hd:(x==("__debug__" : Str))=false:=by decide):PE X (.Name x pos) (tC v):=by
 obtain⟨u,hm,r⟩:=h;exact Ac hg hm r hd
theorem AQ(hg:Gl X x)(hm:X.mg x=none)(hv:bootBuiltins x=some (.type T))(hn:x ≠ "__name__" := by decide)(hd:(x==("__debug__" : Str))=false:=by decide):PE X (.Name x pos) (tC (.ty T)):=
 AN hg hm hv rfl hn hd
end
section
variable{X:Cx}{st:Stmt}{t:TS}
end
section
variable{X:Cx}
theorem O8:yE X (binaryOp .FloorDiv) (rI (λ_ j=>0<j/\j<2 ^ 64) λi j=>.int (i/j)):=Y6 λi j _ _ _ _ _ hc q=>by
 have h1:(0:Int)<j:=hc.1;have h2:j<2 ^ 64:=hc.2;have h3:j.natAbs.log2<64:=(V8 (by omega)).mpr (by omega);exact PyProof.Rows.floordiv_int (by omega) (by rw[GM i (by omega)]; exact q) (.inl (PyProof.noPylong_of_log2 (by omega)))
end
theorem gm:bootBuiltins "len" = some (.builtin "len"):=by decide +kernel
theorem He:bootBuiltins "isinstance" = some (.builtin "isinstance"):=by decide +kernel
theorem Hf:bootBuiltins "sum" = some (.builtin "sum"):=by decide +kernel
theorem Hc:bootBuiltins "all" = some (.builtin "all"):=by decide +kernel
theorem BD:bootBuiltins "int" = some (.type "int"):=by decide +kernel
theorem HY:bootBuiltins "bool" = some (.type "bool"):=by decide +kernel
theorem U8:bootBuiltins "list" = some (.type "list"):=by decide +kernel
theorem U9:bootBuiltins "tuple" = some (.type "tuple"):=by decide +kernel
theorem PH{K:W.Frag}:W.kitOne K (.type "int") (.type "int")=some true:=by rfl
theorem PD{K:W.Frag}:W.kitOne K (.type "bool") (.type "int")=some true:=by kernel_rfl
theorem PF{K:W.Frag}:W.kitOne K (.type "int") (.type "bool")=some false:=by kernel_rfl
theorem PC{K:W.Frag}:W.kitOne K (.type "bool") (.type "bool")=some true:=by rfl
theorem PK{K:W.Frag}:W.kitOne K (.type "NoneType") (.type "int")=some false:=by kernel_rfl
theorem PJ{K:W.Frag}:W.kitOne K (.type "NoneType") (.type "bool")=some false:=by kernel_rfl
theorem PN{K:W.Frag}:W.kitOne K (.type "tuple") (.type "tuple")=some true:=by rfl
theorem PM{K:W.Frag}:W.kitOne K (.type "str") (.type "str")=some true:=by rfl
theorem wz{H:Hp}{p:Addr}(h:H p=none)(o:HO):zg H (zS H p o):=λb u q=>by rw[yK (uD q h)]; exact q
theorem vR{n:Nat}(h:n<=1000):n<=sizeLine:=V6 (e9 h)
section
variable{X:Cx}{tg:Expr}
end
def jN(env:Env):List (Str×Addr)->Prop
 | []=>True
 |p::r=>env.cells.lookup p.1=some p.2/\jN env r
theorem jN.get{env:Env}:∀{cl:List (Str×Addr)} {y:Str} {c:Addr},jN env cl->cl.lookup y=some c->env.cells.lookup y=some c
 | [],_,_,_,h=>by cases h
 |(n,a)::r,y,c,hc,h=>by
  rw[V2]at h;cases e:y==n with
  |true=>
   rw[e]at h;have e':y=n:=by simpa using e
   subst e';have h':a=c:=by simpa using h
   subst h';exact hc.1
  |false=>
   rw[e]at h;exact jN.get hc.2 (by simpa using h)
def ZW(scope:Scope)(env:Env)(cl:List (Str×Addr))(own:List Str):Bool:=
 scope.names.all λp=>p.1 != ("." : Str)&&((p.2 == .local&&(own.contains p.1||p.1==(".0" : Str)))||p.2 == .globalImplicit||p.2 == .globalExplicit ||
  (p.2 == .free&&(env.kindOf p.1==some .cell||env.kindOf p.1==some .free)&&(cl.lookup p.1).isSome))
def hide(own:List Str)(y:Str):Str:=if own.contains y||y==(".0" : Str)then "." else y
def wc(N own:List Str):List Str:=N.map (hide own)++own
theorem OU{env:Env}:∀{names:List (Str×NameKind)} {y:Str} {k:NameKind},
  (names.map λ(n,k)=>if(k==NameKind.free&&env.scope.kind == .function&&env.kindOf n==some .cell)then(n,NameKind.cell)else(n,k)).lookup y=some k->∃k0,(y,k0)∈names/\(k=k0\/(k0=.free/\k=.cell))
 | [],_,_,h=>by simp at h
 |(n,k')::r,y,k,h=>by
  rw[xA]at h;by_cases hc:(k'==NameKind.free&&env.scope.kind == .function&&env.kindOf n==some .cell)=true
  ·dsimp only at h;rw[zI hc,V2]at h;cases e:y==n with
   |true=>
    rw[e]at h;have e':y=n:=by simpa using e
    subst e';have h':NameKind.cell=k:=by simpa using h
    have hf:k'=.free:=by
     rw[yC,yC]at hc;simpa using hc.1.1
    exact⟨k',yr,.inr ⟨hf,h'.symm⟩⟩
   |false=>
    rw[e]at h;obtain⟨k0,m,z⟩:=OU (env:=env) (by simpa using h);exact⟨k0,xP _ m,z⟩
  ·dsimp only at h;rw[zK hc,V2]at h;cases e:y==n with
   |true=>
    rw[e]at h;have e':y=n:=by simpa using e
    subst e';have h':k'=k:=by simpa using h
    exact⟨k',yr,.inl h'.symm⟩
   |false=>
    rw[e]at h;obtain⟨k0,m,z⟩:=OU (env:=env) (by simpa using h);exact⟨k0,xP _ m,z⟩
def xo(X:Cx)(scope:Scope)(cl:List (Str×Addr))(own:List Str)(C:Addr)(s2:Shared)(H2:Hp)(fp:List Addr)(pn:List (Addr×Obj)):Cx:=
 { X with N:=wc X.N own,s₀:=s2,H₀:=H2,env:=compEnvC scope cl C X.env,outer:=X.stack,stack:=X.stack,ex:=fp,fn:=λ_=>false,pn:=pn,xe:=λ_ _=>False }
section
variable{X:Cx}{z0:List (Addr×Obj)}{σ:St}{H2:Hp}{s2:Shared}{scope:Scope}{cl:List (Str×Addr)}{own:List Str}{C D:Addr}{fp:List Addr}
theorem B8(hb:ZW scope X.env cl own=true){y:Str}{k:NameKind}(h:(relabel scope X.env).names.lookup y=some k) :
  y ≠ "." /\ ((k=.local->own.contains y=true\/y = ".0")/\((k=.cell\/k=.free)->(∃k0,(y,k0)∈scope.names/\k0=.cell)\/((X.env.kindOf y=some .cell\/X.env.kindOf y=some .free)/\∃c,cl.lookup y=some c))):=by
 obtain⟨k0,m,z⟩:=OU h;have q:=ud.mp hb _ m;rw[yC]at q;obtain⟨q1,q2⟩:=q;refine⟨by simpa using q1,λhk=>?_,λhk=>?_⟩
 ·rcases z with z|⟨_,z⟩
  ·subst z;subst hk;simpa using q2
  ·rw[z]at hk;cases hk
 ·have hf:k0=.free\/k0=.cell:=by
   rcases z with z|⟨z,_⟩
   ·subst z;rcases hk with hk|hk
    ·exact .inr hk
    ·exact .inl hk
   ·exact .inl z
  rcases hf with hf|hf
  ·subst hf
   right
   have q3:((X.env.kindOf y==some .cell||X.env.kindOf y==some .free)&&(cl.lookup y).isSome)=true:=by simpa using q2
   rw[yC]at q3;refine⟨?_,Gb.mp q3.2⟩;have:=q3.1;rw[Bool.or_eq_true]at this;rcases this with t|t
   ·exact .inl (by simpa using t)
   ·exact .inr (by simpa using t)
  ·exact .inl ⟨k0,m,hf⟩
theorem J0(hb:ZW scope X.env cl own=true)(hcell:∀y∈scope.names,y.2≠.cell){y:Str}{k:NameKind}(h:(relabel scope X.env).names.lookup y=some k)(hk:k=.cell\/k=.free) :
  (X.env.kindOf y=some .cell\/X.env.kindOf y=some .free)/\∃c,cl.lookup y=some c:=by
 rcases(B8 hb h).2.2 hk with⟨k0,m,e⟩|q
 ·exact absurd e (hcell _ m)
 ·exact q
theorem B9(I:zB X z0 σ H2 s2)(hk:scope.kind=.function)(hcell:∀y∈scope.names,y.2≠.cell)(hcap:jN X.env cl)(hb:ZW scope X.env cl own=true)(hC:s2.heap.objs.size<=C)
  (hfp:∀b∈fp,tF X z0 H2 b)(hfo:∀b∈fp,∃o,s2.heap.get? b=some o):(xo X scope cl own C s2 H2 fp (X.pn++z0)).Ok where
 mod:=I.ok.mod
 kind:=hk
 glob:=I.ok.glob
 blt:=I.ok.blt
 above:=hC
 inj:=λx y c h1 h2=>I.ok.inj x y c (hcap.get h1) (hcap.get h2)
 has:=λx hx=>by
  rcases hx with hx|hx
  ·exact(J0 hb hcell (show(relabel scope X.env).names.lookup x=_ from hx) (.inl rfl)).2
  ·exact(J0 hb hcell (show(relabel scope X.env).names.lookup x=_ from hx) (.inr rfl)).2
 kq:=λx c h=>by cases h
 hd:=I.ok.hd
 frames:=I.ok.frames
 Yu:=.inl rfl
 Yr:=λb hx=>⟨by
  obtain⟨o,e⟩:=hfo b hx;exact xz (xi (Heap.lt_size e) hC),λx c h=>(hfp b hx).2.2.2.2.1 x c (hcap.get h)⟩
 bs:=I.bs
 qT:=wo I.ok.qT I.sz
 Z3:=λb o e hx=>by
  rcases(hfp b hx).2.2.2.1 with z|z
  ·exact I.ok.Z3 b o e z
  ·exact absurd (xi (Heap.lt_size e) (wo I.ok.qT z)) (wL _)
 ku:=λb hx hz=>by
  rcases yY.mp (I.Yv b hz)with z|z
  ·exact(hfp b hx).2.1 z
  ·exact(hfp b hx).2.2.1 z
 uj:=I.stack
 jJ:=I.MP
theorem UV{α:Type}{σ:List (Option α)}{n i:Nat}{v:α}(h:(σ++List.replicate n none)[i]?=some (some v)):σ[i]?=some (some v):=by
 by_cases hi:i<σ.length
 ·rw[j9 hi]at h;exact h
 ·rw[W_ (by omega),GQ]at h
  split at h<;>cases h
theorem HX{h4:Heap}{m0:Str->Option Value}{dobj:Obj}{tk:Nat}(I:zB X z0 σ H2 s2)(hk:scope.kind=.function)(hcell:∀y∈scope.names,y.2≠.cell)(hcap:jN X.env cl)(hb:ZW scope X.env cl own=true)
  (hC:s2.heap.objs.size<=C)(hD:s2.heap.objs.size<=D)(hDC:D≠C)(hfp:∀b∈fp,tF X z0 H2 b)(hfo:∀b∈fp,∃o,s2.heap.get? b=some o)
  (keep:∀b o,s2.heap.get? b=some o->h4.get? b=some o)(ns:h4.Ns C m0)(hd:h4.get? D=some dobj)(hdd:∀v,dobj.data≠.cell v) :
  zB (xo X scope cl own C s2 H2 fp (X.pn++z0)) [(D,dobj)] (σ++List.replicate own.length none) H2 { s2 with heap:=h4,toks:=tk }:=by
 have nfs:∀a,s2.heap.objs.size<=a->a ∉ uu X.stack:=λa ha hz=>by
  rcases yY.mp (I.Yv a hz)with z|z
  ·exact absurd (xi I.lt ha) (by rw[z]; exact wL _)
  ·exact I.ML ha z
 refine⟨B9 I hk hcell hcap hb hC hfp hfo,rfl,I.bare,Un.kept keep,⟨m0,ns,λi y v e1 e2 e3=>?_⟩,λx c h=>?_,I.zZ.fresh hC,λx c h=>I.tq x c (hcap.get h),λp hp=>?_,I.zZ.kept keep,?_⟩
 ·have e2':σ[i]?=some (some v):=UV e2
  have hi:i<X.N.length:=by
   have:=(yD.mp e2').1;rw[I.len]at this;exact this
  have e1':(X.N.map (hide own)++own)[i]?=some y:=e1;rw[j9 (by simpa using hi),vh]at e1';cases en:X.N[i]? with
  |none=>
   rw[en]at e1';cases e1'
  |some n=>
   rw[en]at e1';have ey:hide own n=y:=ui e1'
   have vis:∃k,(relabel scope X.env).names.lookup y=some k/\(k=.local\/k=.cell\/k=.free):=by
    rcases e3 with z|z|z
    ·exact⟨_,z,.inl rfl⟩
    ·exact⟨_,z,.inr (.inl rfl)⟩
    ·exact⟨_,z,.inr (.inr rfl)⟩
   obtain⟨k,lk,kk⟩:=vis;obtain⟨nd,loc,_⟩:=B8 hb lk;unfold hide at ey;by_cases ho:(own.contains n||n==(".0" : Str))=true
   ·rw[zI ho]at ey;exact absurd ey.symm nd
   ·rw[zK ho]at ey;subst ey
    have kk':k=.cell\/k=.free:=by
     rcases kk with z|z
     ·exfalso
      apply ho;rcases loc z with t|t
      ·rw[t]; rfl
      ·subst t; simp
     ·exact z
    obtain⟨ok,c,hc⟩:=J0 hb hcell lk kk';obtain⟨m,hn,hl⟩:=I.loc;obtain⟨u,r,l⟩:=hl i n v en e2' (.inr ok);refine⟨u,r,.inr ⟨?_,c,hc,?_⟩⟩
    ·rcases kk' with z|z
     ·subst z; exact .inl lk
     ·subst z; exact .inr lk
    ·rcases l with⟨z,_⟩|⟨_,c',hc',z⟩
     ·rcases ok with t|t<;>(rw[t]at z; cases z)
     ·rw[hcap.get hc]at hc';cases hc';obtain⟨o,ho',hd'⟩:=z;exact⟨o,keep _ _ ho',hd'⟩
 ·obtain⟨v,o,ho,hd'⟩:=I.cell x c (hcap.get h);exact⟨v,o,keep _ _ ho,hd'⟩
 ·rcases gA.mp hp with z|z
  ·obtain⟨e,n,ne,nf,d⟩:=I.pin p z;refine⟨keep _ _ e,n,xz (xi (Heap.lt_size e) hC),λhz=>?_,d⟩;rcases yY.mp (I.Yv p.1 hz)with t|t
   ·exact ne t
   ·exact nf t
  ·have e:p=(D,dobj):=by simpa using z
   subst e;exact⟨hd,I.zZ.fresh hD,hDC,nfs D hD,hdd⟩
 ·show(σ++List.replicate own.length none).length=(X.N.map (hide own)++own).length;rw[yL,yL,g9,zo,I.len]
end
def gj(X:Cx)(ifs:List Expr)(tc:TT):Prop:=
 ∀(z0:List (Addr×Obj)) (s:Shared) (σ:St) (H:Hp) (Q:Bool->Hp->Prop),zB X z0 σ H s->tc σ H Q->
  wpAny (model X.prog X.w) X.A (forIn ifs true λc r=>if r=true then do let ok <-isTrue c X.env (eval c X.env); pure (ForInStep.yield ok)else pure (ForInStep.yield r)) (TP X z0 σ Q) X.xe s
def fU:TT:=λ_ H Q=>Q true H
theorem aO{X:Cx}:gj X [] fU:=λ_ _ _ H _ I h=>wpAny_tests_nil ⟨H,I,h⟩
theorem aP{X:Cx}{c:Expr}{t:TT}(h:PT X c t):gj X [c] t:=λz0 s σ H Q I q=>wpAny_tests_one (h z0 s σ H Q I q)
section
variable{prog:Program}{w:World}{A:Around}{R:Result->Shared->Prop}{s:Shared}
theorem Pd{elt tg iter:Expr}{ifs:List Expr}{scope:Scope}{pos:Pos}{it acc:Value}{env:Env}(J:Nat->Shared->Prop)
  (turn:∀n s,J n s->wpAny (model prog w) A (pyNext it) (λr s₁=>match r with
   |none=>R (.ok .next) s₁
   |some v=>wpAny (model prog w) A (letOwnedTupleGo tg it v) (λ_ z=>wpAny (model prog w) A (assign tg env v) (λ_ s₂=>
    wpAny (model prog w) A (forIn ifs true λc r=>if r=true then do let ok <-isTrue c env (eval c env); pure (ForInStep.yield ok)else pure (ForInStep.yield r)) (λok s₃=>
     if ok=true then wpAny (model prog w) A (eval elt env) (λx s₄=>wpAny (model prog w) A (call (.builtin "list.append") [acc,x]) (λ_ s₅=>∃m,m<n/\J m s₅) (λ_ _=>False) s₄) (λ_ _=>False) s₃
     else ∃m,m<n/\J m s₃) (λ_ _=>False) s₂) (λ_ _=>False) z) (λ_ _=>False) s₁) (λ_ _=>False) s)
  (n:Nat)(h:J n s):codeAny (model prog w) A (.compLoop (.ListComp elt [⟨tg,iter,ifs,0⟩] scope pos) 0 it acc env) R s:=by
 have no:∀{P:Value->Shared->Prop},∀e s',(λ_ _=>False:Value->Shared->Prop) e s'->P e s':=λ_ _ z=>z.elim
 refine codeAny_loop rfl J (λn s hI=>?_) n h;show wpAny _ A (Sem.onRaise (compTurn (.ListComp elt [⟨tg,iter,ifs,0⟩] scope pos) 0 it acc env) (λx=>do noteFrame x env; theTreesLotGoes x)) _ _ s;refine wpAny_noted ?_;rw[compTurn_list];refine zO (MB (zO (uK (turn n s hI) (λr s₁ h₁=>?_) no)));cases r with
 |none=>exact yG h₁
 |some v=>
  refine zO (uK h₁ (λ_ z hz=>?_) no);refine zO (uK hz (λ_ s₂ h₂=>?_) no);refine zO (uK h₂ (λok s₃ h₃=>?_) no);cases ok with
  |false=>exact yG ⟨rfl,h₃⟩
  |true=>
   refine zO (zO (uK h₃ (λx s₄ h₄=>?_) no));exact zO (uK h₄ (λ_ s₅ h₅=>yG (yG ⟨rfl,h₅⟩)) no)
end
abbrev we(its:List Value)(k:Nat):Obj:={ cls:=.type "list",data:=.seq its.toArray k }
theorem Dm{its:List Value}{k:Nat}:∀v,(we its k).data≠.cell v:=λ_ z=>nomatch z
section
variable{X:Cx}{σ:St}{H:Hp}{s:Shared}{D:Addr}
theorem Nm{pl:List (Addr×Obj)}{its its':List Value}{k k' tk:Nat}{h':Heap}(I:zB X ((D,we its k)::pl) σ H s)(hD:X.s₀.heap.objs.size<=D)(hpn:∀p∈X.pn,p.1≠D)
  (hs:Heap.SameBut D s.heap h')(hd:h'.get? D=some (we its' k')):zB X [(D,we its' k')] σ H { s with heap:=h',toks:=tk }:=by
 obtain⟨e,n,ne,nf,d⟩:=I.pin (D,we its k) (uf _ yr);have I0:zB X [] σ H s:=I.Ys λp hp=>absurd hp (by simp)
 have I1:zB X [] σ H { s with heap:=h',toks:=tk }:=I0.turned (it:=D) (λb o hb q=>(hs.2 b hb).trans q) n ne (.inr hD) (λx c hc z=>by
  subst z;obtain⟨v,o,ho,hv⟩:=I.cell x c hc;rw[show s.heap.get? c=some (we its k)from e]at ho;cases ho;exact d v hv) (λp hp=>hpn p (by simpa using hp))
 exact I1.Ys λp hp=>by
  have q:p=(D,we its' k'):=by simpa using hp
  subst q;exact⟨hd,n,ne,nf,Dm⟩
end
section
variable{X:Cx}{tg iter elt:Expr}{ifs:List Expr}{scope:Scope}{cl:List (Str×Addr)}{own:List Str}{pos:Pos}{te:TE}{tc:TT}{g:TG}{wi:TI}
theorem ig{fs ex:List Addr}{H H':Hp}{h h':Heap}{D:Addr}{o:HO}(u:Un fs ex H H' h h')(hD:h.objs.size<=D)(hn:H' D=none):Un fs ex H (zS H' D o) h h' where
 keep:=u.keep
 slot:=u.slot
 free:=λb ob q n hx=>by rw[yK (λz=>by subst z; exact absurd (xi (Heap.lt_size q) hD) (wL _))]; exact u.free b ob q n hx
 there:=u.there
 uM:=λb xs q=>by rw[yK (uD (u.uM b xs q) hn)]; exact u.uM b xs q
 vx:=λb ob v q=>by rw[yK (uD (u.vx b ob v q) hn)]; exact u.vx b ob v q
 tD:=λb ps q=>by
  obtain⟨more,z⟩:=u.tD b ps q;exact⟨more,by rw[yK (uD z hn)]; exact z⟩
theorem DJ{P:Program}{w:World}{H:Hp}{h:Heap}{D:Addr}{o:HO}(x:xF P w H h)(hn:H D=none)(new:xG P w (zS H D o) h D o):xF P w (zS H D o) h:=λb u e=>by
 by_cases hb:b=D
 ·subst hb;rw[yT]at e;cases e;exact new
 ·rw[yK hb]at e;refine(x b u e).gI (λc v _ q=>q) (λc q=>?_) (λc xs q=>?_)
  ·rw[yK (uD q hn)]; exact q
  ·rw[yK (uD q hn)]; exact q
structure gK(X:Cx)(scope:Scope)(cl:List (Str×Addr))(own:List Str):Prop where
 kind:scope.kind=.function
 cell:∀y∈scope.names,y.2≠.cell
 VE:jN X.env cl
 ok:ZW scope X.env cl own=true
 VF:closureFor scope X.env=pure cl
 names:∀y∈scope.names,y.2=.local->scope.names.lookup y.1=some .local
structure VY(X:Cx)(z0:List (Addr×Obj))(H:Hp)(s:Shared)(C:Addr):Prop where
 free:H C=none
 ne:C≠X.env.locals
 old:X.s₀.heap.objs.size<=C
 cell:∀x c,X.env.cells.lookup x=some c->c≠C
 pin:∀p∈X.pn++z0,p.1≠C
def Us(σ:St)(n:Nat)(J:It)(g:TG)(tc:TT)(te:TE)(W:Nat->Nat->List V->Hp->Prop)(Fin:List V->Hp->Prop):Prop:=
 ∀i m ys H,W i m ys H->(J.stop i H/\Fin ys H)\/(J.go i H/\ys.length<sizeLine/\∃N:List V->Hp->Prop,(∀ys' H',N ys' H'->∃m',m'<m/\W (i+1) m' ys' H')/\
  ∀x H',J.vz i H x H'->g x (σ++List.replicate n none) H' λσ2 H3=>(∃τ,σ2=σ++τ)/\tc σ2 H3 λc H4=>if c=true then te σ2 H4 λy H5=>N (ys++[y]) H5 else N ys H4)
theorem BA{z0:List (Addr×Obj)}{σ:St}{H2:Hp}{s2:Shared}{fp:List Addr}{it:Addr}{tn:Nat->Heap->Prop}{J:It}{W:Nat->Nat->List V->Hp->Prop}{Fin:List V->Hp->Prop}{m0:Nat}
  {RR:Value->Addr->Result->Shared->Prop}(hcalm:X.calm=true)(B:gK X scope cl own)(I:zB X z0 σ H2 s2)(T:jX X.prog X.w X.K tg J fp it tn)(t0:tn 0 s2.heap)(hfp:∀b∈fp,tF X z0 H2 b)
  (hg:∀C s H fp pn,PG (xo X scope cl own C s H fp pn) tg g)(hc:∀C s H fp pn,gj (xo X scope cl own C s H fp pn) ifs tc)(he:∀C s H fp pn,PE (xo X scope cl own C s H fp pn) elt te)
  (W0:W 0 m0 [] H2)(turn:Us σ own.length J g tc te W Fin)
  (hRR:∀D C s' H' ys m',zB X z0 σ (zS H' D (.lst ys)) s'->H' D=none->Fin ys H'->s'.heap.Ns C m'->VY X z0 (zS H' D (.lst ys)) s' C->RR (.ref D) C (.ok .next) s'){E:Value->Shared->Prop} :
  wpAny (model X.prog X.w) X.A (newList []) (λacc s3=>wpAny (model X.prog X.w) X.A (newFunctionEnv scope X.env.globals cl [] X.env.qual none .none (some X.env)) (λcenv s4=>
   codeAny (model X.prog X.w) X.A (.compStart (.ListComp elt [⟨tg,iter,ifs,0⟩] scope pos) 0 (.ref it) acc { cenv with scope:=relabel scope X.env }) (RR acc cenv.locals) s4) E s3) E s2:=by
 refine km (wpAny_newFunctionEnv B.cell (by intro y hy; simp at hy) (λh4 hns hsb=>?_) B.kind);dsimp only at hns hsb ⊢;generalize hP:s2.heap.push (we [] 0)=P2 at hns hsb ⊢;have hC:P2.objs.size=s2.heap.objs.size+1:=by rw[<-hP,Heap.size_push]
 have hDC:s2.heap.objs.size≠P2.objs.size:=by rw[hC]; exact xz (kf _)
 have hCle:s2.heap.objs.size<=P2.objs.size:=by rw[hC]; exact V7 _
 have keep:∀b o,s2.heap.get? b=some o->h4.get? b=some o:=λb o e=>
  hsb.extBut b o (xz (xi (Heap.lt_size e) hCle)) (Heap.get?_push_of_some _ (hP▸Heap.get?_push_of_some _ e))
 have hd4:h4.get? s2.heap.objs.size=some (we [] 0):=hsb.extBut _ _ hDC (Heap.get?_push_of_some _ (hP▸Heap.get?_push_size _ rfl));have hfo:∀b∈fp,∃o,s2.heap.get? b=some o:=λb hb=>let ⟨o,e,_⟩:=T.obj 0 _ t0 b hb; ⟨o,e⟩
 have lt:∀b∈fp,b<s2.heap.objs.size:=λb hb=>let ⟨o,e⟩:=hfo b hb; Heap.lt_size e
 generalize hDD:s2.heap.objs.size=D at hDC hd4 ⊢;generalize hCC:P2.objs.size=C at hDC hns hsb hCle ⊢;have hDle:s2.heap.objs.size<=D:=Tx hDD
 let X':=xo X scope cl own C s2 H2 fp (X.pn++z0)
 have hpn:∀p∈X'.pn,p.1≠D:=λp hp z=>by
  obtain⟨e,_⟩:=I.pin p hp;rw[z]at e;exact absurd (xi (Heap.lt_size e) hDle) (wL _)
 have okb:=B9 I B.kind B.cell B.VE B.ok hCle hfp hfo
 have fpok:∀{k:Nat}{its:List Value}{H':Hp},(∀b∈fp,H' b=none)->∀b∈fp,tF X' [(D,we its k)] H' b:=λ{k its H'} hn b hb=>
  ⟨hn b hb,(okb.Yr b hb).1,okb.ku b hb,.inl hb,(okb.Yr b hb).2,λp hp=>by
   rcases gA.mp hp with z|z
   ·exact(hfp b hb).2.2.2.2.2 p z
   ·have q:p=(D,we its k):=by simpa using z
    subst q;exact λz=>absurd (lt b hb) (by rw[<-z]; exact L_.mpr hDle)⟩
 have loop:∀s4:Shared,s4={ s2 with heap:=h4,toks:=s2.toks+([]:List (Str×Value)).length }->
   codeAny (model X.prog X.w) X.A (.compLoop (.ListComp elt [⟨tg,iter,ifs,0⟩] scope pos) 0 (.ref it) (.ref D) (compEnvC scope cl C X.env)) (RR (.ref D) C) s4:=by
  rintro s4 rfl
  refine Pd (λn s'=>∃(i:Nat) (ys:List V) (its:List Value) (k:Nat) (H':Hp),zB X' [(D,we its k)] (σ++List.replicate own.length none) H' s'/\zc ys its/\tn i s'.heap/\(∀b∈fp,H' b=none)/\W i n ys H'/\ys.length<=sizeLine) ?_ m0
   ⟨0,[],[],0,H2,HX I B.kind B.cell B.VE B.ok hCle hDle hDC hfp hfo keep hns hd4 Dm,.nil,T.keep _ _ _ t0 λb _ o e=>keep b o e,λb hb=>(hfp b hb).1,W0,vi _⟩
  rintro n s5 ⟨i,ys,its,k,H5,I5,v5,st5,fr5,w5,z5⟩;rcases turn i n ys H5 w5 with⟨stop,fin⟩|⟨go,room,N,hN,step⟩
  ·refine uK (T.done X' rfl rfl rfl hcalm i _ s5 _ H5 (λ_ _=>False) I5 (fpok fr5) st5 stop) (λr s6 ⟨hr,I6⟩=>?_) λ_ _ z=>z
   subst hr;obtain⟨e6,n6,ne6,nf6,d6⟩:=I6.pin (D,we its k) (uf _ yr);obtain⟨m6,ns6,_⟩:=I6.loc;have u6:Un (uu X.stack) fp H2 (zS H5 D (.lst ys)) s2.heap s6.heap:=ig I6.base hDle n6;have new6:xG X.prog X.w (zS H5 D (.lst ys)) s6.heap D (.lst ys):=⟨z5,its,k,v5,e6⟩;have I7:zB X z0 σ (zS H5 D (.lst ys)) s6:=I.Q7 I6.os u6 (DJ I6.zZ n6 new6) I6.bare (λb hb=>⟨(hfp b hb).2.2.2.1,(hfp b hb).2.1,(hfp b hb).2.2.2.2.1,(hfp b hb).2.2.2.2.2⟩);refine hRR D C s6 H5 ys m6 I7 n6 fin ns6 ⟨?_,?_,?_,λx c hcx z=>?_,λp hp z=>?_⟩
   ·rw[yK (jD hDC)]; exact I6.free
   ·exact λz=>absurd I.lt (by rw[<-z]; exact L_.mpr hCle)
   ·exact wo I.sz hCle
   ·subst z;obtain⟨v,o,ho,_⟩:=I.cell x c hcx;exact absurd (xi (Heap.lt_size ho) hCle) (wL _)
   ·obtain⟨e,_⟩:=I.pin p hp;rw[z]at e;exact absurd (xi (Heap.lt_size e) hCle) (wL _)
  ·refine uK (T.item X' rfl rfl rfl hcalm i _ s5 _ H5 (λ_ _=>False) I5 (fpok fr5) st5 go) (λr s6 ⟨u,hr,h6⟩=>?_) λ_ _ z=>z
   subst hr;refine uK h6 (λ_ s7 ⟨x,H7,I7,r7,y7,st7,fr7⟩=>?_) λ_ _ z=>z
   have I7':=I7.pinned (fpok fr7) (T.obj _ _ st7);refine uK (hg C s2 H2 fp _ _ s7 _ H7 x u _ I7' r7 (step x H7 y7)) (λ_ s8 ⟨σ8,H8,I8,⟨τ,hτ⟩,q8⟩=>?_) λ_ _ z=>z
   subst hτ
   have back:∀{n':Nat}{ys':List V}{its':List Value}{k':Nat}{H9:Hp}{s9:Shared}{pl:List (Addr×Obj)},zB X' ((D,we its' k')::pl) (σ++τ) H9 s9->zc ys' its'->tn (i+1) s9.heap->(∀b∈fp,H9 b=none)->W (i+1) n' ys' H9->ys'.length<=sizeLine->
     ∃(i:Nat) (ys:List V) (its:List Value) (k:Nat) (H':Hp),zB X' [(D,we its k)] (σ++List.replicate own.length none) H' s9/\zc ys its/\tn i s9.heap/\(∀b∈fp,H' b=none)/\W i n' ys H'/\ys.length<=sizeLine:=λ{n' ys' its' k' H9 s9 pl} I9 v9 st9 fr9 w9 z9=>by
    have I9':zB X' [(D,we its' k')] (σ++τ) H9 s9:=I9.Ys λp hp=>I9.pin p (uf _ (by
     have q:p=(D,we its' k'):=by simpa using hp
     subst q;exact yr))
    refine⟨i+1,ys',its',k',H9,I9'.weak ?_ (λj v e=>?_),v9,st9,fr9,w9,z9⟩
    ·rw[I9'.len,<-I5.len]
    ·have e':=UV e;rw[j9 (yD.mp e').1];exact e'
   have keepIt:∀{σ9:St}{H9:Hp}{s9:Shared},zB X' ([(D,we its k)]++Xb fp s7.heap) σ9 H9 s9->tn (i+1) s9.heap/\∀b∈fp,H9 b=none:=λ{σ9 H9 s9} I9=>
    ⟨T.keep _ _ _ st7 λb hb o e=>(I9.pin (b,o) (uf _ (uf _ (Uy hb e)))).1,λb hb=>by
     obtain⟨o,e,_⟩:=T.obj _ _ st7 b hb;exact(I9.pin (b,o) (uf _ (uf _ (Uy hb e)))).2.1⟩
   refine uK (hc C s2 H2 fp _ _ s8 _ H8 _ I8 q8) (λc s9 ⟨H9,I9,q9⟩=>?_) λ_ _ z=>z
   cases c with
   |false=>
    rw[zK xO]at q9 ⊢;obtain⟨m',hm,w9⟩:=hN _ _ q9;exact⟨m',hm,back I9 v5 (keepIt I9).1 (keepIt I9).2 w9 z5⟩
   |true=>
    rw[zI rfl]at q9 ⊢;refine uK (he C s2 H2 fp _ _ s9 _ H9 _ I9 q9) (λyv sa ⟨y,Ha,Ia,ra,qa⟩=>?_) λ_ _ z=>z
    obtain⟨m',hm,wa⟩:=hN _ _ qa;obtain⟨ea,na,_⟩:=Ia.pin (D,we its k) (uf _ (Lm _ yr))
    have szi:its.toArray.size<=sizeLine:=by
     have:=v5.length;simp only[yP];omega
    refine wpAny_list_append_plain (hsz:=szi) ⟨k,ea⟩ λhb hlb hsb'=>?_
    obtain⟨kb,eb⟩:=hlb;have eb':hb.get? D=some (we (its++[yv]) kb):=by rw[eb]; simp
    have Ib:zB X' [(D,we (its++[yv]) kb)] (σ++τ) Ha { sa with heap:=hb,toks:=sa.toks }:=Nm (tk:=sa.toks) Ia hDle hpn hsb' eb';have stb:tn (i+1) hb:=T.keep _ _ _ (keepIt Ia).1 λb hbf o e=>(hsb'.2 b (λz=>absurd (lt b hbf) (by rw[z]; exact L_.mpr hDle))).trans e
    exact⟨m',hm,back Ib (zc.append v5 (.cons ra .nil)) stb (keepIt Ia).2 wa (by rw[yL]; exact room)⟩
 exact codeAny_compStart_list (loop _ rfl) (T.self X.A 0 _ _ _ (T.keep _ _ _ t0 λb _ o e=>keep b o e) (loop _ rfl))
def fC(n:Nat)(wi:TI)(g:TG)(tc:TT)(te:TE):TE:=λσ H Q=>wi σ H λJ H1=>∃W:Nat->Nat->List V->Hp->Prop,(∃m,W 0 m [] H1)/\
 Us σ n J g tc te W λys H'=>∀p,H' p=none->Q (.ref p) (zS H' p (.lst ys))
theorem VY.inv{z0:List (Addr×Obj)}{σ:St}{H:Hp}{s:Shared}{C:Addr}{h':Heap}(o:VY X z0 H s C)(I:zB X z0 σ H s)(hs:Heap.SameBut C s.heap h'):zB X z0 σ H { s with heap:=h' }:=
 I.turned (it:=C) (t':=s.toks) (λb u hb q=>(hs.2 b hb).trans q) o.free o.ne (.inr o.old) o.cell o.pin
theorem Ae(hcalm:X.calm=true)(B:gK X scope cl own)(hi:PI X tg iter wi)(hg:∀C s H fp pn,PG (xo X scope cl own C s H fp pn) tg g)(hc:∀C s H fp pn,gj (xo X scope cl own C s H fp pn) ifs tc)
  (he:∀C s H fp pn,PE (xo X scope cl own C s H fp pn) elt te)(hs:∀x,foldedSetIterable iter X.env x=pure x:=by intro _; rfl) :
  PE X (.ListComp elt [⟨tg,iter,ifs,0⟩] scope pos) (fC own.length wi g tc te):=by
 intro z0 s σ H Q I h;rw[eval_ListComp];refine Gd (use:=none) rfl hs B.VF B.kind B.names (ze (hi z0 s σ H _ I h) λv s1 h1=>ze h1 λitv s2 h2=>?_);obtain⟨it,fp,tn,J,H2,e,I2,T,st2,f2,W,⟨m0,w0⟩,turn⟩:=h2;subst e;refine BA (RR:=λacc C=>compPost (model X.prog X.w) X.A X.xe none (EP X z0 σ Q) acc C) hcalm B I2 T st2 f2 hg hc he w0 turn ?_;intro D C s' H' ys m' I' n' fin ns' off;exact⟨m',ns',λh' hs'=>⟨.ref D,zS H' D (.lst ys),off.inv I' hs',rfl,fin D n'⟩⟩
def fP(i n:Nat)(wi:TI)(g:TG)(tc:TT)(te:TE):TS:=λD σ H=>wi σ H λJ H1=>∃W:Nat->Nat->List V->Hp->Prop,(∃m,W 0 m [] H1)/\
 Us σ n J g tc te W λys H'=>∀p,H' p=none->D.nx (σ.set i (some (.ref p))) (zS H' p (.lst ys))
theorem CP{i:Nat}{x:Str}{px spos:Pos}(hcalm:X.calm=true)(hN:X.N.Nodup)(hix:X.N[i]?=some x)(hx:X.env.scope.names.lookup x=some .local)(B:gK X scope cl own)
  (hsw:swapsWith (.ListComp elt [⟨tg,iter,ifs,0⟩] scope pos) (some (.Name x px)) spos.line X.env=pure true)(hi:PI X tg iter wi)
  (hg:∀C s H fp pn,PG (xo X scope cl own C s H fp pn) tg g)(hc:∀C s H fp pn,gj (xo X scope cl own C s H fp pn) ifs tc)(he:∀C s H fp pn,PE (xo X scope cl own C s H fp pn) elt te)
  (hs:∀x,foldedSetIterable iter X.env x=pure x:=by intro _; rfl) :
  PS X (.Assign [.Name x px] (.ListComp elt [⟨tg,iter,ifs,0⟩] scope pos) spos) (fP i own.length wi g tc te):=by
 intro z0 s σ H D I h;rw[exec_Assign_Name_used _ _ _ _ hsw];refine zO (MB (zO ?_));show wpAny _ X.A (do let _ <-comprehension (.ListComp elt [⟨tg,iter,ifs,0⟩] scope pos) scope X.env _ (newList []) false (eval iter X.env) (some (assign (.Name x px) X.env))) _ _ s
 refine zO (ze (Gd (use:=some (assign (.Name x px) X.env)) (Q:=λ_ s'=>SP X z0 D .next s') rfl hs B.VF B.kind B.names
  (ze (hi z0 s σ H _ I h) λv s1 h1=>ze h1 λitv s2 h2=>?_)) λ_ s' hq=>yG (yG hq))
 obtain⟨it,fp,tn,J,H2,e,I2,T,st2,f2,W,⟨m0,w0⟩,turn⟩:=h2;subst e;refine BA (RR:=λacc C=>compPost (model X.prog X.w) X.A X.xe (some (assign (.Name x px) X.env)) (λ_ s'=>SP X z0 D .next s') acc C) hcalm B I2 T st2 f2 hg hc he w0 turn ?_;intro L C s' H' ys m' I' n' fin ns' off;show wpAny _ X.A (assign (.Name x px) X.env (.ref L)) _ _ s';refine wpAny_assign_Name (Ee I' hN hix (.inl hx) (v:=.ref L) rfl (λs3 I3 q3=>?_) (.inr hx));obtain⟨a,hsa,ha⟩:=q3
 have hCa:C≠a:=by
  rcases ha with z|z
  ·rw[z]; exact off.ne
  ·exact λy=>off.cell x a z y.symm
 refine⟨m',ns'.sameBut hsa hCa,λh' hs'=>?_⟩;exact⟨_,_,VY.inv (H:=zS H' L (.lst ys)) ⟨off.free,off.ne,off.old,off.cell,off.pin⟩ I3 hs',fin L n'⟩
end
structure QE(X:Cx)(e:Expr)(t:TE):Prop where
 h:PE X e t
structure QA(X:Cx)(es:List Expr)(t:TA):Prop where
 h:PA X es t
structure QS(X:Cx)(st:Stmt)(t:TS):Prop where
 h:PS X st t
structure QG(X:Cx)(e:Expr)(t:TG):Prop where
 h:PG X e t
structure Va(X:Cx)(es:List Expr)(t:qd):Prop where
 h:Y_ X es t
structure QI(X:Cx)(tg e:Expr)(t:TI):Prop where
 h:PI X tg e t
section
variable{X:Cx}{x y:Str}{p pos pos' apos cpos p2:Pos}{e a b c o tg iter elt:Expr}{es zn:List Expr}{te ta tb tc to:TE}{t:TA}{tA tB':TT}{r r':R2}{v:V}{T id:String}{ps:List Str}{j k i:Nat}{sp:Sp}
theorem qv(i:Nat){x:Str}{pos:Pos}(hN:X.N[i]?=some x:=by rfl)(hv:pL X.env.scope x:=by first|exact Or.inl rfl|exact Or.inr (Or.inl rfl)|exact Or.inr (Or.inr rfl))(hd:(x==("__debug__" : Str))=false:=by decide)
  (hcd:(x==("__classdict__" : Str))=false:=by decide):QE X (.Name x pos) (Wq i):=⟨Y9 hN hv hd hcd⟩
theorem ac(hg:Gl X x)(hm:X.mg x=none)(hv:bootBuiltins x=some (.type T))(hn:x ≠ "__name__" := by decide)(hd:(x==("__debug__" : Str))=false:=by decide):QE X (.Name x pos) (tC (.ty T)):=⟨AQ hg hm hv hn hd⟩
def CF:Expr->Bool
 |.Name ..=>true
 |.Call ..=>true
 |.Subscript ..=>true
 |.Attribute ..=>true
 |.Constant ..=>true
 |.List ..=>true
 |.Tuple ..=>true
 |.BinOp ..=>true
 |_=>false
theorem aC{e:Expr}{env:Env}(h:CF e=true):∀whole,isTrue e env whole=(do let v <-whole; standAt e.pos; holding [v] (truthy v)):=by
 cases e<;>first|(intro _; rfl)|cases h
theorem ab:QA X [] Wp:=⟨Y8⟩
theorem Ce(ha:QE X e te)(hr:QA X es t)(h:yZ e=true:=by rfl):QA X (e::es) (Ou te t):=⟨jr ha.h hr.h h⟩
def kN:Expr->Bool
 |.Name ..=>true
 |.Constant ..=>true
 |.BinOp ..=>true
 |.Call ..=>true
 |.UnaryOp ..=>true
 |.Subscript ..=>true
 |.Attribute ..=>true
 |_=>false
theorem OD{b:Expr}(h:kN b=true):MZ b:=by
 cases b<;>first|(intro _ _; rfl)|cases h
theorem Xd{r:List V->Hp->VK->Prop}(hc:xY X (.builtin id) r)(hg:Gl X x)(hm:X.mg x=none)(hv:bootBuiltins x=some (.builtin id))(ha:QA X (e::es) t)(hn:x ≠ "__name__" := by decide)(hdb:(x==("__debug__" : Str))=false:=by decide)
  (he:(e::es).all yZ=true:=by rfl):QE X (.Call (.Name x p) (e::es) [] pos) (TY r t):=by
 rw[xh,yC]at he;exact⟨AS hc hg hm hv ha.h hn hdb (vv he.1) (j3 he.2)⟩
theorem YF{r:List V->Hp->VK->Prop}(hc:xY X (.type T) r)(hg:Gl X x)(hm:X.mg x=none)(hv:bootBuiltins x=some (.type T))(ha:QA X (e::es) t)(hn:x ≠ "__name__" := by decide)(hdb:(x==("__debug__" : Str))=false:=by decide)
  (he:(e::es).all yZ=true:=by rfl):QE X (.Call (.Name x p) (e::es) [] pos) (TY r t):=by
 rw[xh,yC]at he;exact⟨AU hc hg hm hv ha.h hn hdb (vv he.1) (j3 he.2)⟩
variable{st:Stmt}{sts body:List Stmt}{ts us tbs:TS}{g:TG}{wi:TI}
def Y3:Expr->Bool
 |.ListComp ..=>false
 |.SetComp ..=>false
 |.DictComp ..=>false
 |_=>true
theorem FU{e:Expr}{tgt:Option Expr}{n:Nat}{env:Env}(h:Y3 e=true):swapsWith e tgt n env=pure false:=by
 cases e<;>first|rfl|cases h
theorem af(he:QE X e te)(hs:Y3 e=true:=by rfl):QS X (.Expr e pos) (Ej te):=⟨CM he.h (FU hs)⟩
theorem OO{i:Nat}{x:Str}{pos':Pos}(hN:X.N.Nodup)(hi:X.N[i]?=some x)(hx:tH X.env.scope x)(he:QE X e te)(hs:Y3 e=true:=by rfl)(hf:X.fn x=true\/X.env.scope.names.lookup x=some .local:=by first|exact .inl rfl|exact .inr rfl|assumption) :
  QS X (.Assign [.Name x pos'] e pos) (Os te (vZ i)):=⟨aK hN hi hx he.h (FU hs) hf⟩
theorem xT{i:Nat}{x:Str}(hN:X.N.Nodup)(hi:X.N[i]?=some x)(hx:tH X.env.scope x)(hf:X.fn x=true\/X.env.scope.names.lookup x=some .local:=by first|exact .inl rfl|exact .inr rfl|assumption):QG X (.Name x pos) (vZ i):=⟨An hN hi hx hf⟩
theorem OM{o i:Expr}{to ti:TE}{t:Vb}(ho:QE X o to)(hi:QE X i ti)(hs:Qk X t)(hp:kN i=true:=by rfl):QG X (.Subscript o i pos) (By to ti t):=by
 refine⟨Ao ho.h hi.h hs ?_⟩;cases i<;>first|(intro _; rfl)|cases hp
theorem YH:Va X [] Zg:=⟨Ar⟩
theorem tW{t:TG}{u:qd}(h1:QG X e t)(h2:Va X es u)(hs:(assignEach (e::es) X.env).map (·.2)=assign e X.env::(assignEach es X.env).map (·.2):=by rfl):Va X (e::es) (qo t u):=⟨Aq h1.h h2.h hs⟩
theorem YG{k:Nat}{t:qd}{n:Nat}(hc:X.calm=true)(h:Va X es t)(hn:(assignEach es X.env).length=n:=by rfl)(hst:(assignEach es X.env).findIdx? (·.1)=none:=by rfl):QG X (.Tuple es k pos) (Zh X.K n t):=⟨Ap hc h.h hn hst⟩
variable{ifs:List Expr}{scope:Scope}{cl:List (Str×Addr)}{own:List Str}{tcc:TT}
variable{name:Str}{rm:V->List V->Hp->VK->Prop}
theorem EY{env:Env}{pos:Pos}:∀{es:List Expr},es.all yZ=true->(backTo pos (starEach es env)).all (λx=>!x.1)=true
 | [],_=>rfl
 |e::es,h=>by
  rw[xh,yC]at h;rw[vv h.1];have ih:=EY (env:=env) (pos:=pos) h.2;unfold backTo at ih ⊢;rw[xA,xh,ih];rfl
theorem Cf(pa:PlainAttrs T)(slot:Slot T name id)(hty:typeOf (.builtin id)=pure (.type "method_descriptor"))(hm:Qh X id rm)(ho:QE X o to)(ha:QA X (e::es) t)
  (hbase:attributeBase o name X.env (eval o X.env)=eval o X.env:=by rfl)(hline:(apos.endLine==cpos.line)=true:=by rfl)(he:(e::es).all yZ=true:=by rfl)(hl:(e::es).length<30:=by decide) :
  QE X (.Call (.Attribute o name apos) (e::es) [] cpos) (Ei X.K T rm to t):=⟨by
 have ha':=EY (env:=X.env) (pos:=cpos) he;rw[xh,yC]at he;refine AO pa slot hty hm ho.h ha.h hbase ?_ hline (vv he.1) (j3 he.2);rw[ha'];show(true&&true&&decide ((e::es).length+0+0<30))=true;rw[yQ (show(e::es).length+0+0<30 from hl)];rfl⟩
end
section
variable{P:Program}{w:World}{K:W.Frag}{mg:Str->Option Value}{base:Heap}
end
def Mb(K:W.Frag)(H:Hp)(a c:Addr)(xs ys:List V):Prop:=(ye K H a xs/\ye K H c ys)\/(yI K H a xs/\yI K H c ys)
section
variable{X:Cx}{z0:List (Addr×Obj)}{σ:St}{H:Hp}{s:Shared}
theorem a_{A:Around}{a c:Addr}{xs ys:List V}{e:Nat->Bool}(I:zB X z0 σ H s)(hu:A.units<cLine)(hq:Mb X.K H a c xs ys)
  (he:∀(j:Nat) x' y' u v,xs[j]?=some x'->ys[j]?=some y'->zd x' u->zd y' v->SeqAt.EqAt A.in1 s u v (e j)) :
  SeqAt.RcAt A s (.ref a) (.ref c) ((List.range (min xs.length ys.length)).all e&&xs.length==ys.length)/\SeqAt.RcNeAt A s (.ref a) (.ref c) (!((List.range (min xs.length ys.length)).all e&&xs.length==ys.length)):=by
 have get:∀{zs:List V}{us:List Value}{j:Nat}(hj:j<us.toArray.size),zc zs us->∃z,zs[j]?=some z/\zd z us.toArray[j]:=λ{zs us j} hj r=>by
  have hl:=r.length
  have hj':j<zs.length:=by
   rw[yP]at hj;omega
  obtain⟨u,hu',ru⟩:=r.get (xD hj');refine⟨_,xD hj',?_⟩
  have:us.toArray[j]=u:=by
   have h2:us[j]?=some us[j]:=xD (by omega);rw[h2]at hu';simpa using hu'
  rw[this];exact ru
 rcases hq with⟨ha,hc⟩|⟨ha,hc⟩
 ·obtain⟨us,ra,pa,_⟩:=I.tuple ha;obtain⟨vs,rc,pc,_⟩:=I.tuple hc;have h1:=ra.length;have h2:=rc.length
  have key:∀j (k1:j<us.toArray.size) (k2:j<vs.toArray.size),SeqAt.EqAt A.in1 s us.toArray[j] vs.toArray[j] (e j):=λj k1 k2=>by
   obtain⟨z1,e1,r1⟩:=get k1 ra;obtain⟨z2,e2,r2⟩:=get k2 rc;exact he j z1 z2 _ _ e1 e2 r1 r2
  have p:=SeqAt.RcAt.tuples (e:=e) pa pc hu key;have q:=SeqAt.RcNeAt.tuples (e:=e) pa pc hu key;rw[yP,yP,<-h1,<-h2]at p q;exact⟨p,q⟩
 ·obtain⟨us,ra,pa,_⟩:=I.list ha;obtain⟨vs,rc,pc,_⟩:=I.list hc;have h1:=ra.length;have h2:=rc.length
  have key:∀j (k1:j<us.toArray.size) (k2:j<vs.toArray.size),SeqAt.EqAt A.in1 s us.toArray[j] vs.toArray[j] (e j):=λj k1 k2=>by
   obtain⟨z1,e1,r1⟩:=get k1 ra;obtain⟨z2,e2,r2⟩:=get k2 rc;exact he j z1 z2 _ _ e1 e2 r1 r2
  by_cases hl:xs.length=ys.length
  ·have hs:us.toArray.size=vs.toArray.size:=by rw[yP,yP]; omega
   have p:=SeqAt.RcAt.lists (e:=e) pa.isList pc.isList hs hu key;have q:=SeqAt.RcNeAt.lists (e:=e) pa.isList pc.isList hs hu key;have e1:min xs.length ys.length=us.toArray.size:=by rw[yP]; omega
   have e2:(xs.length==ys.length)=true:=by simp[hl]
   rw[e1,e2,Bool.and_true];exact⟨p,q⟩
  ·have hs:(us.toArray.size != vs.toArray.size)=true:=by
    rw[yP,yP];simp;omega
   have e2:(xs.length==ys.length)=false:=by simp[hl]
   rw[e2,Bool.and_false];exact⟨SeqAt.RcAt.lists_lengths pa.isList pc.isList hs hu,SeqAt.RcNeAt.lists_lengths pa.isList pc.isList hs hu⟩
theorem Ug(A:Around):A.in1.units=A.units+1:=rfl
end
theorem KQ{x:V}(h:ut x=true):u9 x x=true:=by
 cases x<;>first|rfl|(simp[u9]; done)|cases h
open PySem.W (hideAll)
section
variable{P:Program}{w:World}{l:List Env}{H H':Hp}{h B h' h'':Heap}
end
section
variable{X:Cx}{z0:List (Addr×Obj)}{σ:St}{H H':Hp}{s:Shared}{B h':Heap}
variable{x:Str}{C:Addr}{np cpos pos:Pos}{e:Expr}{es:List Expr}{t:TA}{E:XK}
end
section
variable{P:Program}{w:World}{K:W.Frag}{mg:Str->Option Value}{base:Heap}{N:List Str}{qual:Str}{scope:Scope}{f:Addr}{cd:Value}{A:Around}{outer:List Env}{s₀:Shared}{H₀:Hp}{E:XK}
end
section
variable{X:Cx}{x:Str}{np cpos pos p:Pos}{e:Expr}{es:List Expr}{t:TA}{E:XK}{C:Addr}{ps:List Str}{j k:Nat}{sp:Sp}
end
end L2
namespace L2
open PySem PySem.Spec PyProof.Rows
section
variable{X:Cx}{z0:List (Addr×Obj)}{σ:St}{H H':Hp}{s:Shared}{a C:Addr}
def Gn(a C:Addr)(h:Heap):Prop:=∃o vs,h.get? a=some o/\o.cls=.ref C/\o.data=.fields vs
theorem ii{fs ex:List Addr}{H H':Hp}{h h':Heap}{D:Addr}{o:HO}(u:Un fs ex H H' h h')(hD:h.get? D=none)(hn:H' D=none):Un fs ex H (zS H' D o) h h' where
 keep:=u.keep
 slot:=u.slot
 free:=λb ob q n hx=>by rw[yK (λz=>by subst z; rw[hD]at q; cases q)]; exact u.free b ob q n hx
 there:=u.there
 uM:=λb xs q=>by rw[yK (uD (u.uM b xs q) hn)]; exact u.uM b xs q
 vx:=λb ob v q=>by rw[yK (uD (u.vx b ob v q) hn)]; exact u.vx b ob v q
 tD:=λb ps q=>by
  obtain⟨more,z⟩:=u.tD b ps q;exact⟨more,by rw[yK (uD z hn)]; exact z⟩
end
section
variable{X:Cx}{x n:Str}{p pos np hpos tpos:Pos}{e e1 e2:Expr}{es:List Expr}{ta:TA}{te:TE}{tx:TX}{ps:List Str}{j k i:Nat}{sp:Sp}{E:XK}{D:Addr}
variable{suite:List Stmt}{ts:TS}{b₀:Stmt}
end
section
variable{X:Cx}{x:Str}{p pos:Pos}{e:Expr}{es:List Expr}{t:TA}{ps:List Str}{j k:Nat}{sp:Sp}
end
section
variable{X:Cx}{e e1 e2:Expr}{es:List Expr}{te:TE}{t:TJ}{pos:Pos}
end
open PySem.W (Looks findIn mroIn looks_findIn looks_mroIn clsIn)
section
variable{prog:Program}{w:World}{A:Around}{E:Value->Shared->Prop}{h:Heap}{g:Array GenState}{d:Drawn}{t:Nat}{os:OsState}{a C:Addr}{o:Obj}{K:W.Frag}
end
end L2
namespace L2
open PySem PySem.Spec PyProof.Rows
section
variable{X:Cx}
theorem Ex{ns:List Int}{its:List Value}(r:zc (ns.map V.int) its){i:Nat}{v:Value}(h:its.toArray[i]?=some v):∃t,v=.int (ns.getD i 0) t:=by
 have hi:i<its.length:=by
  rw[Ye]at h;exact(yD.mp h).1
 have hl:ns.length=its.length:=by have:=r.length; rw[zo]at this; exact this
 have hx:(ns.map V.int)[i]?=some (.int (ns.getD i 0)):=by
  rw[vh,ue,xD (by omega)];rfl
 obtain⟨u,hu,ru⟩:=r.get hx;rw[Ye,hu]at h;cases h;exact ru
theorem OE{ns:List Int}:∀(k:Nat),k<=ns.length->preSum (λi=>ns.getD i 0) k=(ns.take k).sum
 |0,_=>by simp[preSum]
 |k+1,h=>by
  rw[preSum,OE k (by omega),V5 (by omega),List.sum_append,ue,xD (by omega)];show _+ns[k]=_+(ns[k]+0);rw[Int.add_zero]
def Mc(ns:List Int):Prop:=(∀n∈ns,InLong n)/\∀k,k<=ns.length->InLong (ns.take k).sum
def Cw(K:W.Frag):List V->Hp->VK->Prop:=λxs H Q=>∃(p:Addr) (ns:List Int),xs=[.ref p]/\(yI K H p (ns.map V.int)\/ye K H p (ns.map V.int))/\Mc ns/\Q (.int ns.sum) H
theorem Eg{ns:List Int}(h:Mc ns):∀j,j<ns.length->InLong (ns.getD j 0)/\InLong (preSum (λi=>ns.getD i 0) (j+1)):=λj hj=>by
 refine⟨h.1 _ ?_,?_⟩
 ·rw[ue,xD hj];exact Yf hj
 ·rw[OE _ (by omega)];exact h.2 _ (by omega)
theorem Hy(hc:X.calm=true):xY X (.builtin "sum") (Cw X.K):=by
 intro z0 s σ H xs us Q I r h;obtain⟨p,ns,rfl,hq,zZ,q⟩:=h;obtain⟨u,rfl,rx⟩:=vU r;cases rx;have hd:=I.ok.hd hc;have e:preSum (λi=>ns.getD i 0) ns.length=ns.sum:=by rw[OE _ (yF _),Yi]
 refine call_sum_walk ?_;rcases hq with hq|hq
 ·obtain⟨its,rv,pl,hz⟩:=I.list hq;have hl:ns.length=its.toArray.size:=by have:=rv.length; rw[zo]at this; rw[yP]; exact this
  have hlt:p<s.heap.objs.size:=by obtain⟨o,n,e,_⟩:=pl; exact Heap.lt_size e
  refine VD pl.isList ?_;refine⟨_,_,_,_,_,_,λi=>ns.getD i 0,rfl,Walks.list (by exact hd) s.heap.objs.size p (xz hlt) its.toArray,⟨⟨_,Heap.get?_push_size _ rfl,rfl,rfl⟩,pl.isList.push _⟩,?_,λi v hv=>Ex rv hv,?_,?_⟩
  ·intro b hb;show b<(s.heap.push _).objs.size;rw[Heap.size_push];simp only[yY,tm,or_false]at hb;rcases hb with rfl|rfl
   ·exact kf _
   ·exact Lz hlt
  ·rw[<-hl];exact Eg zZ
  ·intro h' tk t' k;rw[<-hl,e]
   exact⟨.int ns.sum,H,I.kept (t':=tk) λb o eb=>k b o (λz=>by
    have:b=s.heap.objs.size:=by simpa using z
    rw[this]at eb;exact absurd (Heap.lt_size eb) (wL _)) (Heap.get?_push_of_some _ eb),⟨_,rfl⟩,q⟩
 ·obtain⟨its,rv,pl,hz⟩:=I.tuple hq;have hl:ns.length=its.toArray.size:=by have:=rv.length; rw[zo]at this; rw[yP]; exact this
  have plT:s.heap.IsTuple p its.toArray:=pl;have hlt:p<s.heap.objs.size:=by obtain⟨o,e,_⟩:=plT; exact Heap.lt_size e
  refine M9 plT ?_;refine⟨_,_,_,_,_,_,λi=>ns.getD i 0,rfl,Walks.tuple (by exact hd) s.heap.objs.size p (xz hlt) its.toArray,⟨⟨_,Heap.get?_push_size _ rfl,rfl,rfl⟩,plT.push _⟩,?_,λi v hv=>Ex rv hv,?_,?_⟩
  ·intro b hb;show b<(s.heap.push _).objs.size;rw[Heap.size_push];simp only[yY,tm,or_false]at hb;rcases hb with rfl|rfl
   ·exact kf _
   ·exact Lz hlt
  ·rw[<-hl];exact Eg zZ
  ·intro h' tk t' k;rw[<-hl,e]
   exact⟨.int ns.sum,H,I.kept (t':=tk) λb o eb=>k b o (λz=>by
    have:b=s.heap.objs.size:=by simpa using z
    rw[this]at eb;exact absurd (Heap.lt_size eb) (wL _)) (Heap.get?_push_of_some _ eb),⟨_,rfl⟩,q⟩
theorem il{bs:List Bool}{its:List Value}(r:zc (bs.map V.bl) its){i:Nat}{v:Value}(h:its.toArray[i]?=some v):v=.bool (bs.getD i false):=by
 have hi:i<its.length:=by
  rw[Ye]at h;exact(yD.mp h).1
 have hl:bs.length=its.length:=by have:=r.length; rw[zo]at this; exact this
 have hx:(bs.map V.bl)[i]?=some (.bl (bs.getD i false)):=by
  rw[vh,ue,xD (by omega)];rfl
 obtain⟨u,hu,ru⟩:=r.get hx;rw[Ye,hu]at h;cases h;exact ru
theorem ay{bs:List Bool}:(List.range bs.length).all (λi=>bs.getD i false)=bs.all id:=by
 rw[kZ,ud,ud]
 constructor
 ·intro h b hb;obtain⟨i,hi,rfl⟩:=List.mem_iff_getElem.mp hb;have:=h i (Yg.mpr hi)
  rwa [ue,xD hi]at this
 ·intro h i hi;have hi':=Yg.mp hi;rw[ue,xD hi'];exact h _ (Yf hi')
def Ci(K:W.Frag):List V->Hp->VK->Prop:=λxs H Q=>∃(p:Addr) (bs:List Bool),xs=[.ref p]/\yI K H p (bs.map V.bl)/\Q (.bl (bs.all id)) H
theorem Hk(hc:X.calm=true):xY X (.builtin "all") (Ci X.K):=by
 intro z0 s σ H xs us Q I r h;obtain⟨p,bs,rfl,hq,q⟩:=h;obtain⟨u,rfl,rx⟩:=vU r;cases rx;have hd:=I.ok.hd hc;refine call_all_walk ?_;obtain⟨its,rv,pl,hz⟩:=I.list hq;have hl:bs.length=its.toArray.size:=by have:=rv.length; rw[zo]at this; rw[yP]; exact this
 have hlt:p<s.heap.objs.size:=by obtain⟨o,n,e,_⟩:=pl; exact Heap.lt_size e
 refine VD pl.isList ?_;refine⟨_,_,_,_,_,_,λi=>bs.getD i false,rfl,Walks.list (by exact hd) s.heap.objs.size p (xz hlt) its.toArray,⟨⟨_,Heap.get?_push_size _ rfl,rfl,rfl⟩,pl.isList.push _⟩,?_,?_⟩
 ·intro i v Q' E' s' hv h';rw[il rv hv];exact yG h'
 ·intro h' tk k;rw[<-hl,ay]
  exact⟨.bl (bs.all id),H,I.kept (t':=tk) λb o eb=>k b o (λz=>by
   have:b=s.heap.objs.size:=by simpa using z
   rw[this]at eb;exact absurd (Heap.lt_size eb) (wL _)) (Heap.get?_push_of_some _ eb),rfl,q⟩
end
open Builtin.SmallTypes (nextOf)
structure gk(P:Program)(w:World)(it l:Addr)(st:Nat->Heap->Prop)(n:Nat)(val:Nat->Value):Prop where
 keep:∀i h h',st i h->(∀b o,(b=it\/b=l)->h.get? b=some o->h'.get? b=some o)->st i h'
 item:∀{A:Around}{Q:Value->Shared->Prop}{E:Value->Shared->Prop}{s:Shared}(i:Nat),st i s.heap->i<n->(∀h',st (i+1) h'->Heap.SameBut it s.heap h'->Q (val i) { s with heap:=h' })->wpAny (model P w) A (nextOf (.ref it)) Q E s
 done:∀{A:Around}{Q:Value->Shared->Prop}{E:Value->Shared->Prop}{s:Shared}(i:Nat),A.handled=none->st i s.heap->n<=i->
  (∀h' e,Heap.ExtBut it s.heap h'->(∃o,h'.get? e=some o/\o.cls=.type "StopIteration")->E (.ref e) { s with heap:=h' })->wpAny (model P w) A (nextOf (.ref it)) Q E s
section
variable{prog:Program}{w:World}{A:Around}{E:Value->Shared->Prop}{s:Shared}
theorem RN{it t:Addr}{i:Nat}{items}{x:Value}{Q:Value->Shared->Prop}(hit:s.heap.IsTupleIter it t i)(ht:s.heap.IsTuple t items)(hx:items[i]?=some x)
  (hQ:∀h',h'.IsTupleIter it t (i+1)->Heap.SameBut it s.heap h'->Q x { s with heap:=h' }):wpAny (model prog w) A (nextOf (.ref it)) Q E s:=by
 obtain⟨o,ho,hc,hd⟩:=id hit;obtain⟨ol,hol,_,nl,hdl⟩:=ht;unfold nextOf
 refine zO (VA (name:=Str.ofString "__next__") hit.typeIs To
  (Yo To hit.typeIs GL ?_ (GK _)))
 refine zO (m:=field (.ref it) 0) (uJ ho hd (x:=.ref t) rfl ?_);show wpAny _ _ (if(Value.ref t==Value.none)=true then _ else _) _ _ s;rw[zK (show ¬ ((Value.ref t==Value.none)=true)from xO)];refine zO (m:=field (.ref it) 1) (uJ ho hd (x:=.int i 0) rfl ?_);refine zO (m:=seqItems? (.ref t)) (jI hol hdl ?_);simp only[p9,hx];refine zO (wpAny_setField ho hd (by simp) (yG ⟨x,rfl,yG (hQ _ ?_ (Heap.SameBut.update ..))⟩))
 exact⟨_,Heap.get?_update_self _ ho (Obj.isFreed_of_fields (Obj.data_mapFields hd _)),(Obj.cls_mapFields ..).trans hc,by
  rw[Obj.data_mapFields hd]; simp[rawInt]⟩
theorem RM{it t:Addr}{i:Nat}{items}{Q:Value->Shared->Prop}(hh:A.handled=none)(hit:s.heap.IsTupleIter it t i)(ht:s.heap.IsTuple t items)(hx:items[i]?=none)
  (hE:∀h' e,Heap.ExtBut it s.heap h'->(∃o,h'.get? e=some o/\o.cls=.type "StopIteration")->E (.ref e) { s with heap:=h' }):wpAny (model prog w) A (nextOf (.ref it)) Q E s:=by
 obtain⟨o,ho,hc,hd⟩:=id hit;obtain⟨ol,hol,_,nl,hdl⟩:=ht;unfold nextOf
 refine zO (VA (name:=Str.ofString "__next__") hit.typeIs To
  (Yo To hit.typeIs GL ?_ (GK _)))
 refine zO (m:=field (.ref it) 0) (uJ ho hd (x:=.ref t) rfl ?_);show wpAny _ _ (if(Value.ref t==Value.none)=true then _ else _) _ _ s;rw[zK (show ¬ ((Value.ref t==Value.none)=true)from xO)];refine zO (m:=field (.ref it) 1) (uJ ho hd (x:=.int i 0) rfl ?_);refine zO (m:=seqItems? (.ref t)) (jI hol hdl ?_);simp only[p9,hx];refine zO (Q5 (zO (wpAny_setField ho hd (by simp) ?_)));refine zO (m:=newExc (.type "StopIteration") []) ?_;simp only[newExc,newTuple];refine zO (km ?_ (by size_fits));refine zO (m:=firstArgMember _ _) (wpAny_of_eq (a:=Value.none) (by first|rfl|(simp only[firstArgMember]; rfl)) ?_);refine km ?_ (by size_fits);simp only[raiseNew];refine zO (wpAny_handled ?_)
 first|rw[show A.in1.handled=none from hh]|rw[hh]
 refine zO (yG (wpAny_throw ?_));exact hE _ _ (((Heap.SameBut.update ..).extBut.push _).push _) ⟨_,Heap.get?_push_size _ rfl,rfl⟩
theorem eE{it l:Addr}(hne:l≠it)(items:Array Value):gk prog w it l (λi h=>h.IsListIter it l i/\h.IsList l items) items.size (λi=>items.getD i .none) where
 keep:=λi h h' st k=>⟨st.1.at λo e=>k it o (.inl rfl) e,st.2.at λo e=>k l o (.inr rfl) e⟩
 item:=λi st hi hQ=>wpAny_nextOf_list_item st.1 st.2 (x:=items.getD i .none) (by simp[Array.getD,hi]) λh' st' sb=>hQ h' ⟨st',st.2.extBut sb.extBut hne⟩ sb
 done:=λi hh st hi hE=>wpAny_nextOf_list_end hh st.1 st.2 (LS hi) hE
theorem eF{it l:Addr}(hne:l≠it)(items:Array Value):gk prog w it l (λi h=>h.IsTupleIter it l i/\h.IsTuple l items) items.size (λi=>items.getD i .none) where
 keep:=λi h h' st k=>⟨st.1.at λo e=>k it o (.inl rfl) e,st.2.at λo e=>k l o (.inr rfl) e⟩
 item:=λi st hi hQ=>RN st.1 st.2 (x:=items.getD i .none) (by simp[Array.getD,hi]) λh' st' sb=>hQ h' ⟨st',st.2.extBut sb.extBut hne⟩ sb
 done:=λi hh st hi hE=>RM hh st.1 st.2 (LS hi) hE
variable{z TI TO i1 i2 l1 l2:Addr}{st1 st2:Nat->Heap->Prop}{n1 n2:Nat}{v1 v2:Nat->Value}{a b:Value}{k:Nat}
theorem lC{Q:Value->Shared->Prop}(D:ZipApart z TI TO i1 i2 l1 l2)(S1:gk prog w i1 l1 st1 n1 v1)(S2:gk prog w i2 l2 st2 n2 v2)
  (hz:IsZip s.heap z TI TO .none)(hTI:IsPair s.heap TI (.ref i1) (.ref i2))(hTO:IsPair s.heap TO a b)(h1:st1 k s.heap)(h2:st2 k s.heap)(k1:k<n1)(k2:k<n2)
  (hi1:i1<s.heap.objs.size)(hi2:i2<s.heap.objs.size)(hl1:l1<s.heap.objs.size)(hl2:l2<s.heap.objs.size)
  (hQ:∀h',IsZip h' z TI TO (rawInt s.heap.objs.size)->IsPair h' TO (v1 k) (v2 k)->st1 (k+1) h'->st2 (k+1) h'->IsPair h' s.heap.objs.size (v1 k) (v2 k)->
   (∀c o,c≠z->c≠TO->c≠i1->c≠i2->s.heap.get? c=some o->h'.get? c=some o)->Q (.ref s.heap.objs.size) { s with heap:=h' }) :
  wpAny (model prog w) A (Builtin.«zip.__next__» ⟨[.ref z],[]⟩) (λfin s'=>∃v,fin=.done (.ret v)/\Q v s') E s:=by
 refine zO (m:=field (.ref z) 2) (uJ hz rfl (x:=.bool false) rfl ?_);refine zO (m:=field (.ref z) 3) (uJ hz rfl (x:=.ref TI) rfl ?_);refine zO (jI hTI rfl ?_);refine zO (m:=Builtin.SmallTypes.ownedTupleIsFree (.ref z)) ?_;unfold Builtin.SmallTypes.ownedTupleIsFree;refine zO (uJ hz rfl (x:=.none) rfl (yG ?_));simp only[xj];refine zO (Q5 (zO (uJ hz rfl (x:=.ref TO) rfl ?_)));refine zO (Yp hz (by simp) λha hza sa=>?_)
 replace hza:IsZip ha z TI TO .ellipsis:=hza
 refine zO ?_;simp only[List.zipIdx_cons,List.zipIdx_nil,List.forIn_cons,List.forIn_nil];have h1a:st1 k ha:=S1.keep k _ _ h1 λc o hc e=>sa.extBut c o (by rcases hc with rfl|rfl; exact D.i1z; exact D.l1z) e
 refine zO (zO (VB (zO (m:=nextOf (.ref i1)) (S1.item k h1a k1 λhb h1b sb=>yG ?_))));have hTOb:IsPair hb TO a b:=sb.extBut _ _ D.TOi1 (sa.extBut _ _ D.TOz hTO);refine zO (jI hTOb rfl (zO (ME hTOb λhc hTOc sc=>?_)))
 replace hTOc:IsPair hc TO (v1 k) b:=hTOc
 refine zO (wpAny_letGo (yG ?_))
 have h2c:st2 k hc:=S2.keep k _ _ h2 λc o hcc e=>by
  rcases hcc with rfl|rfl
  ·exact sc.extBut _ _ D.TOi2.symm (sb.extBut _ _ D.i12.symm (sa.extBut _ _ D.i2z e))
  ·exact sc.extBut _ _ D.l2TO (sb.extBut _ _ D.l2i1 (sa.extBut _ _ D.l2z e))
 refine zO (zO (VB (zO (m:=nextOf (.ref i2)) (S2.item k h2c k2 λhd h2d sd=>yG ?_))));have hTOd:IsPair hd TO (v1 k) b:=sd.extBut _ _ D.TOi2 hTOc;refine zO (jI hTOd rfl (zO (ME hTOd λhe hTOe se=>?_)))
 replace hTOe:IsPair he TO (v1 k) (v2 k):=hTOe
 refine zO (wpAny_letGo (yG (yG ?_)));refine zO (jI hTOe rfl (zO (wpAny_newTuple ?_)));have hsz:he.objs.size=s.heap.objs.size:=by rw[se.1,sd.1,sc.1,sb.1,sa.1]
 have hze:IsZip he z TI TO .ellipsis:=se.extBut _ _ D.TOz.symm (sd.extBut _ _ D.i2z.symm (sc.extBut _ _ D.TOz.symm (sb.extBut _ _ D.i1z.symm hza)))
 have hke:∀c o,c≠z->c≠TO->c≠i1->c≠i2->s.heap.get? c=some o->he.get? c=some o:=λc o c1 c2 c3 c4 e=>
  se.extBut _ _ c2 (sd.extBut _ _ c4 (sc.extBut _ _ c2 (sb.extBut _ _ c3 (sa.extBut _ _ c1 e))))
 have h1e:st1 (k+1) he:=S1.keep _ _ _ h1b λc o hcc e=>by
  rcases hcc with rfl|rfl
  ·exact se.extBut _ _ D.TOi1.symm (sd.extBut _ _ D.i12 (sc.extBut _ _ D.TOi1.symm e))
  ·exact se.extBut _ _ D.l1TO (sd.extBut _ _ D.l1i2 (sc.extBut _ _ D.l1TO e))
 have h2e:st2 (k+1) he:=S2.keep _ _ _ h2d λc o hcc e=>by
  rcases hcc with rfl|rfl
  ·exact se.extBut _ _ D.TOi2.symm e
  ·exact se.extBut _ _ D.l2TO e
 have hzlt:z<he.objs.size:=Heap.lt_size hze;refine zO (m:=Builtin.SmallTypes.ownedTupleHandOut (.ref z) (.ref he.objs.size)) ?_;unfold Builtin.SmallTypes.ownedTupleHandOut;have hzf:IsZip (he.push { cls:=.type "tuple",data:=.seq #[v1 k,v2 k] }) z TI TO .ellipsis:=Heap.get?_push_of_some _ hze;refine zO (Yp hzf (by simp) λhg hzg sg=>?_)
 replace hzg:IsZip hg z TI TO (rawInt he.objs.size):=hzg
 refine Yp hzg (by simp) λhh hzh sh=>?_
 replace hzh:IsZip hh z TI TO (rawInt he.objs.size):=hzh
 have up:∀c o,c≠z->he.get? c=some o->hh.get? c=some o:=λc o c1 e=>sh.extBut _ _ c1 (sg.extBut _ _ c1 (Heap.get?_push_of_some _ e))
 have hT:IsPair hh he.objs.size (v1 k) (v2 k):=sh.extBut _ _ (qS hzlt) (sg.extBut _ _ (qS hzlt) (Heap.get?_push_size _ rfl));rw[hsz]at hzh hT;refine yG ⟨_,rfl,?_⟩;show Q (.ref he.objs.size) _;rw[hsz];refine hQ hh hzh (up _ _ D.TOz hTOe) (S1.keep _ _ _ h1e λc o hcc e=>up c o ?_ e) (S2.keep _ _ _ h2e λc o hcc e=>up c o ?_ e) hT λc o c1 c2 c3 c4 e=>up c o c1 (hke c o c1 c2 c3 c4 e)
 ·rcases hcc with rfl|rfl
  ·exact D.i1z
  ·exact D.l1z
 ·rcases hcc with rfl|rfl
  ·exact D.i2z
  ·exact D.l2z
theorem lB{Q:Fin->Shared->Prop}(hh:A.handled=none)(D:ZipApart z TI TO i1 i2 l1 l2)(S1:gk prog w i1 l1 st1 n1 v1)(S2:gk prog w i2 l2 st2 n2 v2)
  (hz:IsZip s.heap z TI TO .none)(hTI:IsPair s.heap TI (.ref i1) (.ref i2))(hTO:IsPair s.heap TO a b)(h1:st1 k s.heap)(h2:st2 k s.heap)(hend:n1<=k\/n2<=k)
  (hE:∀h' e,(∀c o,c≠z->c≠TO->c≠i1->c≠i2->s.heap.get? c=some o->h'.get? c=some o)->(∃o,h'.get? e=some o/\o.cls=.type "StopIteration")->E (.ref e) { s with heap:=h' }) :
  wpAny (model prog w) A (Builtin.«zip.__next__» ⟨[.ref z],[]⟩) Q E s:=by
 refine zO (m:=field (.ref z) 2) (uJ hz rfl (x:=.bool false) rfl ?_);refine zO (m:=field (.ref z) 3) (uJ hz rfl (x:=.ref TI) rfl ?_);refine zO (jI hTI rfl ?_);refine zO (m:=Builtin.SmallTypes.ownedTupleIsFree (.ref z)) ?_;unfold Builtin.SmallTypes.ownedTupleIsFree;refine zO (uJ hz rfl (x:=.none) rfl (yG ?_));simp only[xj];refine zO (Q5 (zO (uJ hz rfl (x:=.ref TO) rfl ?_)));refine zO (Yp hz (by simp) λha hza sa=>?_)
 replace hza:IsZip ha z TI TO .ellipsis:=hza
 refine zO ?_;simp only[List.zipIdx_cons,List.zipIdx_nil,List.forIn_cons,List.forIn_nil];have h1a:st1 k ha:=S1.keep k _ _ h1 λc o hc e=>sa.extBut c o (by rcases hc with rfl|rfl; exact D.i1z; exact D.l1z) e
 by_cases k1:k<n1
 ·have k2:n2<=k:=by omega
  refine zO (zO (VB (zO (m:=nextOf (.ref i1)) (S1.item k h1a k1 λhb h1b sb=>yG ?_))));have hTOb:IsPair hb TO a b:=sb.extBut _ _ D.TOi1 (sa.extBut _ _ D.TOz hTO);refine zO (jI hTOb rfl (zO (ME hTOb λhc hTOc sc=>?_)));refine zO (wpAny_letGo (yG ?_))
  have h2c:st2 k hc:=S2.keep k _ _ h2 λc o hcc e=>by
   rcases hcc with rfl|rfl
   ·exact sc.extBut _ _ D.TOi2.symm (sb.extBut _ _ D.i12.symm (sa.extBut _ _ D.i2z e))
   ·exact sc.extBut _ _ D.l2TO (sb.extBut _ _ D.l2i1 (sa.extBut _ _ D.l2z e))
  refine zO (zO (VB (zO (m:=nextOf (.ref i2)) (S2.done k hh h2c k2 λhd e sd he=>?_))));obtain⟨oe,hoe,hce⟩:=he;have hzd:IsZip hd z TI TO .ellipsis:=sd _ _ D.i2z.symm (sc.extBut _ _ D.TOz.symm (sb.extBut _ _ D.i1z.symm hza));have hez:e≠z:=λx=>by subst x; rw[hzd]at hoe; cases hoe; simp at hce
  exact Yp hzd (by simp) λhf _ sf=>hE hf e (λc o c1 c2 c3 c4 x=>sf.extBut _ _ c1 (sd _ _ c4 (sc.extBut _ _ c2 (sb.extBut _ _ c3 (sa.extBut _ _ c1 x))))) ⟨oe,sf.extBut _ _ hez hoe,hce⟩
 ·refine zO (zO (VB (zO (m:=nextOf (.ref i1)) (S1.done k hh h1a (by omega) λhb e sb he=>?_))));obtain⟨oe,hoe,hce⟩:=he;have hzb:IsZip hb z TI TO .ellipsis:=sb _ _ D.i1z.symm hza;have hez:e≠z:=λx=>by subst x; rw[hzb]at hoe; cases hoe; simp at hce
  exact Yp hzb (by simp) λhf _ sf=>hE hf e (λc o c1 _ c3 _ x=>sf.extBut _ _ c1 (sb _ _ c3 (sa.extBut _ _ c1 x))) ⟨oe,sf.extBut _ _ hez hoe,hce⟩
end
end L2
namespace L2
open PySem PySem.Spec PyProof.Rows
def vm(K:W.Frag)(tp:Bool)(H:Hp)(a:Addr)(xs:List V):Prop:=match tp with
 |true=>ye K H a xs
 |false=>yI K H a xs
def XO(tp:Bool):String:=match tp with
 |true => "tuple_iterator"
 |false => "list_iterator"
def u5(tp:Bool)(h:Heap)(a:Addr)(its:Array Value):Prop:=match tp with
 |true=>h.IsTuple a its
 |false=>h.IsList a its
def jT(tp:Bool)(h:Heap)(it l:Addr)(i:Nat):Prop:=∃o,h.get? it=some o/\o.cls=.type (XO tp)/\o.data=.fields #[.ref l,.int i 0]
theorem jT.at{tp:Bool}{h h':Heap}{it l:Addr}{i:Nat}(x:jT tp h it l i)(e:∀o,h.get? it=some o->h'.get? it=some o):jT tp h' it l i:=let ⟨o,ho,r⟩:=x; ⟨o,e _ ho,r⟩
theorem u5.push{tp:Bool}{h:Heap}{a:Addr}{its:Array Value}(x:u5 tp h a its)(o:Obj):u5 tp (h.push o) a its:=by
 cases tp
 ·exact Heap.IsList.push x o
 ·exact Heap.IsTuple.push x o
theorem u5.lt{tp:Bool}{h:Heap}{a:Addr}{its:Array Value}(x:u5 tp h a its):a<h.objs.size:=by
 cases tp
 ·obtain⟨o,e,_⟩:=x; exact Heap.lt_size e
 ·obtain⟨o,e,_⟩:=x; exact Heap.lt_size e
section
variable{prog:Program}{w:World}{A:Around}{E:Value->Shared->Prop}{s:Shared}
theorem TV{tp:Bool}{it l:Addr}(hne:l≠it)(items:Array Value):gk prog w it l (λi h=>jT tp h it l i/\u5 tp h l items) items.size (λi=>items.getD i .none):=by
 cases tp
 ·exact eE hne items
 ·exact eF hne items
theorem Cd{tp:Bool}{l:Addr}{items:Array Value}{Q:Value->Shared->Prop}(h:u5 tp s.heap l items)
  (hQ:Q (.ref s.heap.objs.size) { s with heap:=s.heap.push { cls:=.type (XO tp),data:=.fields #[.ref l,.int 0 0] } }):wpAny (model prog w) A (pyIter (.ref l)) Q E s:=by
 cases tp
 ·exact VD (show s.heap.IsList l items from h) hQ
 ·exact M9 (show s.heap.IsTuple l items from h) hQ
abbrev Th(t1:Bool)(h:Heap)(l1:Addr):Heap:=h.push { cls:=.type (XO t1),data:=.fields #[.ref l1,.int 0 0] }
abbrev Ti(t1 t2:Bool)(h:Heap)(l1 l2:Addr):Heap:=(Th t1 h l1).push { cls:=.type (XO t2),data:=.fields #[.ref l2,.int 0 0] }
abbrev Tj(t1 t2:Bool)(h:Heap)(l1 l2:Addr):Heap:=(Ti t1 t2 h l1 l2).push { cls:=.type "tuple",data:=.seq #[.ref h.objs.size,.ref (Th t1 h l1).objs.size] }
abbrev Tk(t1 t2:Bool)(h:Heap)(l1 l2:Addr):Heap:=(Tj t1 t2 h l1 l2).push { cls:=.type "tuple",data:=.seq #[.none,.none] }
abbrev YT(t1 t2:Bool)(h:Heap)(l1 l2:Addr):Heap:=(Tk t1 t2 h l1 l2).push { cls:=.type "zip",data:=.fields #[.none,.bool false,.bool false,.ref (Ti t1 t2 h l1 l2).objs.size,.ref (Tj t1 t2 h l1 l2).objs.size] }
theorem lF(t1 t2:Bool)(l1 l2:Addr)(xs ys:Array Value) :
  Meets (Builtin.«zip.__new__» ⟨[.type "zip",.ref l1,.ref l2],[]⟩) (λ_ R s=>u5 t1 s.heap l1 xs/\u5 t2 s.heap l2 ys/\R (.ok (.ret (.ref (Tk t1 t2 s.heap l1 l2).objs.size))) { s with heap:=YT t1 t2 s.heap l1 l2 }):=
 .of_wp λprog w A R s h=>by
  obtain⟨hp,g,d,tk,os⟩:=s; obtain⟨hl1,hl2,h⟩:=h;have hsub:=sub_zip;have hL1:u5 t1 (Shared.heap ⟨hp,g,d,tk,os⟩) l1 xs:=hl1;have hL2:u5 t2 (Shared.heap ⟨hp.push { cls:=.type (XO t1),data:=.fields #[.ref l1,.int 0 0] },g,d,tk,os⟩) l2 ys:=u5.push hl2 _
  wp_walk using Cd hL1,Cd hL2
  exact⟨_,rfl,h⟩
theorem Hz{t1 t2:Bool}{l1 l2:Addr}{xs ys:Array Value}{Q:Value->Shared->Prop}(hl1:u5 t1 s.heap l1 xs)(hl2:u5 t2 s.heap l2 ys)
  (h:∀h',IsZip h' (s.heap.objs.size+4) (s.heap.objs.size+2) (s.heap.objs.size+3) .none->IsPair h' (s.heap.objs.size+2) (.ref s.heap.objs.size) (.ref (s.heap.objs.size+1))->
   IsPair h' (s.heap.objs.size+3) .none .none->jT t1 h' s.heap.objs.size l1 0->jT t2 h' (s.heap.objs.size+1) l2 0->
   (∀c o,s.heap.get? c=some o->h'.get? c=some o)->Q (.ref (s.heap.objs.size+4)) { s with heap:=h' }) :
  wpAny (model prog w) A (call (.type "zip") [.ref l1,.ref l2]) Q E s:=by
 refine callType_new F.called_zip (by decide) (F.typeCall_zip_2 _ _) (F.newCall_zip_2 _ _) (λobj=>F.args_object_init_3 obj _ _) F.entry_zip_new (lF t1 t2 l1 l2 xs ys) ⟨hl1,hl2,?_⟩;have z1:(Th t1 s.heap l1).objs.size=s.heap.objs.size+1:=Heap.size_push ..;have z2:(Ti t1 t2 s.heap l1 l2).objs.size=s.heap.objs.size+2:=by rw[Heap.size_push,z1]
 have z3:(Tj t1 t2 s.heap l1 l2).objs.size=s.heap.objs.size+3:=by rw[Heap.size_push,z2]
 have z4:(Tk t1 t2 s.heap l1 l2).objs.size=s.heap.objs.size+4:=by rw[Heap.size_push,z3]
 have g5:(YT t1 t2 s.heap l1 l2).get? (Tk t1 t2 s.heap l1 l2).objs.size=some _:=Heap.get?_push_size _ rfl;have g4:(YT t1 t2 s.heap l1 l2).get? (Tj t1 t2 s.heap l1 l2).objs.size=some _:=Heap.get?_push_of_some _ (Heap.get?_push_size _ rfl);have g3:(YT t1 t2 s.heap l1 l2).get? (Ti t1 t2 s.heap l1 l2).objs.size=some _:=Heap.get?_push_of_some _ (Heap.get?_push_of_some _ (Heap.get?_push_size _ rfl));have g2:(YT t1 t2 s.heap l1 l2).get? (Th t1 s.heap l1).objs.size=some _:=Heap.get?_push_of_some _ (Heap.get?_push_of_some _ (Heap.get?_push_of_some _ (Heap.get?_push_size _ rfl)));have g1:(YT t1 t2 s.heap l1 l2).get? s.heap.objs.size=some _:=Heap.get?_push_of_some _ (Heap.get?_push_of_some _ (Heap.get?_push_of_some _ (Heap.get?_push_of_some _ (Heap.get?_push_size _ rfl))));show _/\_;rw[z2,z3,z4]at g5;rw[z1,z2]at g3;rw[z3]at g4;rw[z1]at g2;rw[z4]
 exact⟨⟨_,g5,rfl⟩,h _ g5 g3 g4 ⟨_,g1,rfl,rfl⟩ ⟨_,g2,rfl,rfl⟩ λc o x=>
  Heap.get?_push_of_some _ (Heap.get?_push_of_some _ (Heap.get?_push_of_some _ (Heap.get?_push_of_some _ (Heap.get?_push_of_some _ x))))⟩
end
section
variable{X:Cx}{z0:List (Addr×Obj)}{σ:St}{H:Hp}{s:Shared}
theorem zB.Z5{tp:Bool}{a:Addr}{xs:List V}(I:zB X z0 σ H s)(h:vm X.K tp H a xs):∃its:List Value,zc xs its/\u5 tp s.heap a its.toArray:=by
 cases tp
 ·obtain⟨its,r,p,_⟩:=I.list h;exact⟨its,r,p.isList⟩
 ·obtain⟨its,r,p,_⟩:=I.tuple h;exact⟨its,r,p⟩
theorem zB.MN{tp:Bool}{a:Addr}{xs ys:List V}(I:zB X z0 σ H s)(h:vm X.K tp H a xs)(h':vm X.K tp H a ys):xs=ys:=by
 cases tp
 ·exact I.VH h h'
 ·exact I.QK h h'
theorem Es{fs ch:List Addr}{h h':Heap}(k:∀b o,b ∉ ch->h.get? b=some o->h'.get? b=some o):Un fs ch H H h h':=
 ⟨λb o e _ _ hx=>k b o hx e,λb o e _ _ hx=>⟨o.slots,k b o hx e⟩,λ_ _ _ n _=>n,λb o e hx=>⟨o,k b o hx e⟩,λ_ _ z=>z,λ_ _ _ z=>z,λb ps e=>⟨#[],by rw[e]; simp⟩⟩
theorem DI{P:Program}{w:World}{ch:List Addr}{h h':Heap}(x:xF P w H h)(hn:∀b∈ch,H b=none)(k:∀b o,b ∉ ch->h.get? b=some o->h'.get? b=some o):xF P w H h':=λb u e=>by
 have nit:∀c v,H c=some v->c ∉ ch:=λc v e z=>by rw[hn c z]at e; cases e
 refine(x b u e).gI (λc v hc q=>k c v ?_ q) (λ_ q=>q) λ_ _ q=>q
 rcases hc with z|z
 ·rw[z]; exact nit b u e
 ·exact nit c _ z
theorem zB.but{ch:List Addr}{h':Heap}{tk:Nat}(I:zB X z0 σ H s)(hf:∀b∈ch,tF X z0 H b)(k:∀b o,b ∉ ch->s.heap.get? b=some o->h'.get? b=some o):zB X z0 σ H { s with heap:=h',toks:=tk }:=
 I.Q7 (s':={ s with heap:=h',toks:=tk }) rfl (Es k) (DI I.zZ (λb hb=>(hf b hb).1) k) I.bare λb hb=>⟨(hf b hb).2.2.2.1,(hf b hb).2.1,(hf b hb).2.2.2.2.1,(hf b hb).2.2.2.2.2⟩
theorem zB.MF{ch:List Addr}{h':Heap}{tk:Nat}{T:Addr}{o:HO}(I:zB X z0 σ H s)(hf:∀b∈ch,tF X z0 H b)(k:∀b o,b ∉ ch->s.heap.get? b=some o->h'.get? b=some o)(hT:s.heap.get? T=none)(hn:H T=none)
  (new:xG X.prog X.w (zS H T o) h' T o):zB X z0 σ (zS H T o) { s with heap:=h',toks:=tk }:=
 I.Q7 (s':={ s with heap:=h',toks:=tk }) rfl (ii (Es k) hT hn) (DJ (DI I.zZ (λb hb=>(hf b hb).1) k) hn new) I.bare λb hb=>⟨(hf b hb).2.2.2.1,(hf b hb).2.1,(hf b hb).2.2.2.2.1,(hf b hb).2.2.2.2.2⟩
end
def Qc(K:W.Frag)(t1 t2:Bool)(a b:Addr):It:=
  ⟨λi H=>∃xs ys x y,vm K t1 H a xs/\vm K t2 H b ys/\xs[i]?=some x/\ys[i]?=some y,
   λi H v H'=>∃p,H p=none/\v=.ref p/\∀xs ys,vm K t1 H a xs->vm K t2 H b ys->∃x y,xs[i]?=some x/\ys[i]?=some y/\H'=zS H p (.tup [x,y]),
   λi H=>∃xs ys,vm K t1 H a xs/\vm K t2 H b ys/\(xs.length<=i\/ys.length<=i)⟩
theorem iJ{P:Program}{w:World}{K:W.Frag}{elts:List Expr}{kk:Nat}{pos:Pos}(t1 t2:Bool)(a b z TI TO i1 i2:Addr)(D:ZipApart z TI TO i1 i2 a b) :
  jX P w K (.Tuple elts kk pos) (Qc K t1 t2 a b) [z,TI,TO,i1,i2] z (λi h=>IsZip h z TI TO .none/\IsPair h TI (.ref i1) (.ref i2)/\(∃u v,IsPair h TO u v)/\jT t1 h i1 a i/\jT t2 h i2 b i) where
 mem:=by simp
 obj:=λi h st c hc=>by
  obtain⟨s1,s2,⟨u,v,s3⟩,⟨o4,s4,_,d4⟩,⟨o5,s5,_,d5⟩⟩:=st;simp only[yY,tm,or_false]at hc;rcases hc with rfl|rfl|rfl|rfl|rfl
  ·exact⟨_,s1,λv q=>nomatch q⟩
  ·exact⟨_,s2,λv q=>nomatch q⟩
  ·exact⟨_,s3,λv q=>nomatch q⟩
  ·exact⟨_,s4,λv q=>by rw[d4]at q; cases q⟩
  ·exact⟨_,s5,λv q=>by rw[d5]at q; cases q⟩
 keep:=λi h h' st k=>by
  obtain⟨s1,s2,⟨u,v,s3⟩,s4,s5⟩:=st;exact⟨k z (by simp) _ s1,k TI (by simp) _ s2,⟨u,v,k TO (by simp) _ s3⟩,s4.at λo e=>k i1 (by simp) o e,s5.at λo e=>k i2 (by simp) o e⟩
 item:=by
  intro X hP hw hK hc i z0 s σ H E I hf st hg;subst hP hw hK;obtain⟨s1,s2,⟨u,v,s3⟩,s4,s5⟩:=st;obtain⟨xs,ys,x,y,hx,hy,ex,ey⟩:=hg;obtain⟨us,ru,pu⟩:=I.Z5 hx;obtain⟨ws,rw',pw⟩:=I.Z5 hy;obtain⟨xu,hxu,rxu⟩:=ru.get ex;obtain⟨yw,hyw,ryw⟩:=rw'.get ey;have k1:i<us.toArray.size:=by rw[yP]; exact(yD.mp hxu).1
  have k2:i<ws.toArray.size:=by rw[yP]; exact(yD.mp hyw).1
  have e1:us.toArray.getD i .none=xu:=by
   have:=yD.mp hxu;obtain⟨l,e⟩:=this;simp[Array.getD,l,e]
  have e2:ws.toArray.getD i .none=yw:=by
   have:=yD.mp hyw;obtain⟨l,e⟩:=this;simp[Array.getD,l,e]
  have hT:s.TypeIs (.ref z) "zip" := ⟨_,s1,rfl⟩;have q4:i1<s.heap.objs.size:=by obtain⟨o,e,_⟩:=s4; exact Heap.lt_size e
  have q5:i2<s.heap.objs.size:=by obtain⟨o,e,_⟩:=s5; exact Heap.lt_size e
  unfold pyNext
  refine zO (wpAny_attempt (VA (name:=Str.ofString "__next__") hT Tp (Yo Tp hT F.entry_zip_next
   (lC D (TV D.l1i1 us.toArray) (TV D.l2i2 ws.toArray) s1 s2 s3 ⟨s4,pu⟩ ⟨s5,pw⟩ k1 k2 q4 q5 pu.lt pw.lt λh' a1 a2 a3 a4 a5 a6=>yG ?_) (F.args_zip_next_1 _))))
  rw[e1,e2]at a2 a5;refine⟨_,rfl,wpAny_letOwnedTupleGo_zip (s:={ s with heap:=h' }) a1 λh'' b1 sb=>?_⟩
  have hTs:s.heap.get? s.heap.objs.size=none:=by
   cases q:s.heap.get? s.heap.objs.size with
   |none=>rfl
   |some o=>exact absurd (Heap.lt_size q) (wL _)
  have hTf:H s.heap.objs.size=none:=I.zZ.fresh (yF _);have hTz:s.heap.objs.size≠z:=qS (Heap.lt_size s1);have tup:h''.get? s.heap.objs.size=some { cls:=.type "tuple",data:=.seq #[xu,yw] }:=sb.extBut _ _ hTz a5
  have kk:∀c o,c ∉ [z,TI,TO,i1,i2]->s.heap.get? c=some o->h''.get? c=some o:=λc o hc e=>by
   simp only[yY,tm,or_false,not_or]at hc;exact sb.extBut _ _ hc.1 (a6 c o hc.1 hc.2.2.1 hc.2.2.2.1 hc.2.2.2.2 e)
  have new:xG X.prog X.w (zS H s.heap.objs.size (.tup [x,y])) h'' s.heap.objs.size (.tup [x,y]):=⟨(by show 2<=sizeLine; decide),[xu,yw],.cons rxu (.cons ryw .nil),⟨_,tup,rfl,_,rfl⟩⟩;refine⟨.ref s.heap.objs.size,zS H s.heap.objs.size (.tup [x,y]),I.MF (tk:=s.toks) hf kk hTs hTf new,rfl,⟨s.heap.objs.size,hTf,rfl,λxs' ys' hx' hy'=>?_⟩,⟨b1,?_,⟨_,_,sb.extBut _ _ D.TOz a2⟩,a3.1.at λo e=>sb.extBut _ _ D.i1z e,a4.1.at λo e=>sb.extBut _ _ D.i2z e⟩,λc hc=>?_⟩
  ·rw[I.MN hx' hx,I.MN hy' hy];exact⟨x,y,ex,ey,rfl⟩
  ·exact sb.extBut _ _ D.TIz (a6 _ _ D.TIz D.TITO D.TIi1 D.TIi2 s2)
  ·rw[yK]
   ·exact(hf c hc).1
   ·intro q
    have hlt:c<s.heap.objs.size:=by
     simp only[yY,tm,or_false]at hc;rcases hc with rfl|rfl|rfl|rfl|rfl
     ·exact Heap.lt_size s1
     ·exact Heap.lt_size s2
     ·exact Heap.lt_size s3
     ·exact q4
     ·exact q5
    rw[q]at hlt;exact absurd hlt (wL _)
 done:=by
  intro X hP hw hK hc i z0 s σ H E I hf st hg;subst hP hw hK;obtain⟨s1,s2,⟨u,v,s3⟩,s4,s5⟩:=st;obtain⟨xs,ys,hx,hy,hend⟩:=hg;obtain⟨us,ru,pu⟩:=I.Z5 hx;obtain⟨ws,rw',pw⟩:=I.Z5 hy
  have hend':us.toArray.size<=i\/ws.toArray.size<=i:=by
   have l1:=ru.length;have l2:=rw'.length;rw[yP,yP];omega
  have hT:s.TypeIs (.ref z) "zip" := ⟨_,s1,rfl⟩;unfold pyNext
  refine zO (wpAny_attempt (VA (name:=Str.ofString "__next__") hT Tp (Yo Tp hT F.entry_zip_next
   (lB (by exact I.ok.hd hc) D (TV D.l1i1 us.toArray) (TV D.l2i2 ws.toArray) s1 s2 s3 ⟨s4,pu⟩ ⟨s5,pw⟩ hend' λh' e kk he=>?_) (F.args_zip_next_1 _))))
  obtain⟨o,ho,hcl⟩:=he;refine zO (wpAny_isInstance (T := "StopIteration") (b:=true) ⟨o,ho,hcl⟩ isSubtype_stop ?_);refine yG ⟨rfl,I.but (tk:=s.toks) hf λc ob hcc eb=>?_⟩;simp only[yY,tm,or_false,not_or]at hcc;exact kk c ob hcc.1 hcc.2.2.1 hcc.2.2.2.1 hcc.2.2.2.2 eb
 self:=λ_ _ _ _ _ st h=>wpAny_pyIter_zip st.1 h
theorem xV{a b:Nat}(h:a≠b):@Ne Addr a b:=h
theorem lD{n l1 l2:Nat}(h1:l1<n)(h2:l2<n):ZipApart (n+4) (n+2) (n+3) n (n+1) l1 l2:=
 ⟨xV (by omega),xV (by omega),xV (by omega),xV (by omega),xV (by omega),xV (by omega),xV (by omega),xV (by omega),xV (by omega),xV (by omega),xV (by omega),xV (by omega),xV (by omega),xV (by omega),xV (by omega),xV (by omega),xV (by omega),xV (by omega)⟩
theorem HZ:bootBuiltins "zip" = some (.type "zip"):=by decide +kernel
section
variable{X:Cx}
def DK(K:W.Frag)(ta:TA):TI:=λσ H R=>ta σ H λvs H1=>∃a b xs ys t1 t2,vs=[.ref a,.ref b]/\vm K t1 H1 a xs/\vm K t2 H1 b ys/\R (Qc K t1 t2 a b) H1
theorem Ax{a b:Expr}{ta:TA}{p pos:Pos}{elts:List Expr}{kk:Nat}{tp:Pos}(hg:Gl X "zip")(hm:X.mg "zip" = none)(ha:PA X [a,b] ta)(hs:starEach [a,b] X.env=[(false,eval a X.env),(false,eval b X.env)]:=by rfl)
  (hs2:starEach [b] X.env=[(false,eval b X.env)]:=by rfl):PI X (.Tuple elts kk tp) (.Call (.Name "zip" p) [a,b] [] pos) (DK X.K ta):=by
 intro z0 s σ H R I h;refine Call_ (Zz I hg hm HZ (T_ (ze (ha pos z0 s σ H _ I h) λus s1 ⟨vs,H1,I1,r1,q1⟩=>?_) (by rw[hs,hs2]) (by rw[hs2]; rfl)));obtain⟨l1,l2,xs,ys,t1,t2,rfl,hx,hy,q⟩:=q1;obtain⟨u,v,rfl,ru,rv⟩:=L7 r1;cases(show u=Value.ref l1 from ru);cases(show v=Value.ref l2 from rv);obtain⟨us,_,pu⟩:=I1.Z5 hx;obtain⟨ws,_,pw⟩:=I1.Z5 hy;have w1:=pu.lt;have w2:=pw.lt;refine Hz pu pw λh' a1 a2 a3 a4 a5 kp=>?_
 have I2:zB X z0 σ H1 { s1 with heap:=h' }:=I1.kept (t':=s1.toks) kp;refine wpAny_pyIter_zip (s:={ s1 with heap:=h' }) a1 ?_;generalize hn:s1.heap.objs.size=n at a1 a2 a3 a4 a5 w1 w2
 have D:ZipApart (n+4) (n+2) (n+3) n (n+1) l1 l2:=by
  exact lD w1 w2
 refine⟨n+4,[n+4,n+2,n+3,n,n+1],_,_,H1,rfl,I2,iJ t1 t2 l1 l2 (n+4) (n+2) (n+3) n (n+1) D,⟨a1,a2,⟨_,_,a3⟩,a4,a5⟩,λc hc=>?_,q⟩
 have hle:s1.heap.objs.size<=c:=by
  rw[hn];simp only[yY,tm,or_false]at hc;rcases hc with rfl|rfl|rfl|rfl|rfl
  ·exact gC _ _
  ·exact gC _ _
  ·exact gC _ _
  ·exact yF _
  ·exact gC _ _
 exact I1.k_ hle (I1.zZ.fresh hle)
theorem ae{a b:Expr}{ta:TA}{p pos:Pos}{elts:List Expr}{kk:Nat}{tp:Pos}(hg:Gl X "zip")(hm:X.mg "zip" = none)(ha:QA X [a,b] ta)(hs:yZ a=true:=by rfl)(hs2:yZ b=true:=by rfl) :
  QI X (.Tuple elts kk tp) (.Call (.Name "zip" p) [a,b] [] pos) (DK X.K ta):=⟨Ax hg hm ha.h (by rw[vv hs,vv hs2]; rfl) (vv hs2)⟩
end
def B6(scope:Scope)(env:Env)(cl:List (Str×Addr))(own:List Str):Bool:=
 scope.kind == .function&&scope.names.all (λy=>y.2 != .cell)&&ZW scope env cl own&&scope.names.all (λy=>y.2 != .local||scope.names.lookup y.1==some .local)
theorem vn{X:Cx}{scope:Scope}{cl:List (Str×Addr)}{own:List Str}(VF:closureFor scope X.env=pure cl)(VE:jN X.env cl:=by first|exact True.intro|exact⟨rfl,True.intro⟩|exact⟨rfl,rfl,True.intro⟩|exact⟨rfl,rfl,rfl,True.intro⟩|exact⟨rfl,rfl,rfl,rfl,True.intro⟩)
  (ok:B6 scope X.env cl own=true:=by rfl):gK X scope cl own:=by
 unfold B6 at ok;simp only[yC]at ok;obtain⟨⟨⟨h1,h2⟩,h3⟩,h4⟩:=ok;refine⟨gD.mp h1,λy hy e=>?_,VE,h3,VF,λy hy e=>?_⟩
 ·have:=ud.mp h2 y hy;rw[e]at this;cases this
 ·have:=ud.mp h4 y hy;rw[e]at this;simpa using this
section
variable{X:Cx}(K:W.Frag)(hK:X.K=K)
include hK
end
def Gm(K:W.Frag)(a:Addr)(xs:List V):Prop:=∀H,ye K H a xs
theorem JA{K:W.Frag}{a:Addr}{xs:List V}{d:Option Addr}{its:Array Value}{n:Nat}{sl:Array (Option Value)}(h:K.lookup a=some ⟨.type "tuple",d,.seq its n,sl⟩)(hz:its.size<=sizeLine)(r:zc xs its.toList):Gm K a xs:=
 λ_=>.inr ⟨_,its,n,h,rfl,rfl,hz,r⟩
open Builtin Builtin.Str
section
variable{X:Cx}
end
def VX(z:Str):It:=⟨λi _=>i<z.length,λi H x H'=>H'=H/\∃c,z.cps[i]?=some c/\x=.str ⟨#[c]⟩,λi _=>z.length<=i⟩
section
variable{X:Cx}{tg:Expr}
def Nh(te:TE):TI:=λσ H R=>te σ H λx H1=>∃z,x=.str z/\R (VX z) H1
theorem iH{P:Program}{w:World}{K:W.Frag}{it:Addr}{z:Str}{t:Tok}{ty:String}(hty:ty = "str_ascii_iterator" \/ ty = "str_iterator"):jX P w K tg (VX z) [it] it (λi h=>h.IsStrIter it ty z t i/\i<=z.length) where
 mem:=by simp
 obj:=λi h st b hb=>by
  have e:b=it:=by simpa using hb
  subst e;obtain⟨⟨o,e,c,d⟩,_⟩:=st;exact⟨o,e,λv z=>by rw[d]at z; cases z⟩
 keep:=λi h h' st k=>⟨let ⟨o,ho,r⟩:=st.1; ⟨o,k it (by simp) o ho,r⟩,st.2⟩
 item:=by
  intro X hP hw hK hc i z0 s σ H E I hf st hg;subst hP hw hK;obtain⟨f0,f1,f2,f3,f4,f5⟩:=hf it (by simp);have hg':i<z.cps.size:=hg;have hx:z.cps[i]?=some z.cps[i]:=by simp[hg']
  have go:∀h' tk (u:Value),(∃t',u=Value.str ⟨#[z.cps[i]]⟩ t')->h'.IsStrIter it ty z t (i+1)->Heap.SameBut it s.heap h'->∃v,some u=some v/\
    wpAny (model X.prog X.w) X.A (letOwnedTupleGo tg (.ref it) v) (λ_ s2=>∃x H',zB X z0 σ H' s2/\zd x v/\(VX z).vz i H x H'/\(s2.heap.IsStrIter it ty z t (i+1)/\i+1<=z.length)/\∀b∈[it],H' b=none) E { s with heap:=h',toks:=tk }:=λh' tk u hu st' sb=>by
   obtain⟨t',rfl⟩:=hu;have I1:zB X z0 σ H { s with heap:=h',toks:=tk }:=I.turned (λb o hb e=>(sb.2 b hb).trans e) f0 f1 f3 f4 f5;obtain⟨o,e,c,d⟩:=id st';exact⟨_,rfl,UY (s:={ s with heap:=h',toks:=tk }) e c d (by rcases hty with rfl|rfl<;>decide) ⟨.str ⟨#[z.cps[i]]⟩,H,I1,⟨t',rfl⟩,⟨rfl,_,hx,rfl⟩,⟨st',hg⟩,λb hb=>(hf b hb).1⟩⟩
  rcases hty with rfl|rfl
  ·exact wpAny_pyNext_ascii_item st.1 hx λh' st' sb=>go h' _ _ ⟨_,rfl⟩ st' sb
  ·exact wpAny_pyNext_wide_item st.1 hx λh' st' sb=>go h' _ _ ⟨_,rfl⟩ st' sb
 done:=by
  intro X hP hw hK hc i z0 s σ H E I hf st hg;subst hP hw hK;obtain⟨f0,f1,f2,f3,f4,f5⟩:=hf it (by simp);have hx:z.cps[i]?=none:=LS hg;rcases hty with rfl|rfl
  ·exact wpAny_pyNext_ascii_end (I.ok.hd hc) st.1 hx λh' eb=>⟨rfl,I.turned (t':=s.toks) (λb o hb e=>eb b o hb e) f0 f1 f3 f4 f5⟩
  ·exact wpAny_pyNext_wide_end (I.ok.hd hc) st.1 hx λh' eb=>⟨rfl,I.turned (t':=s.toks) (λb o hb e=>eb b o hb e) f0 f1 f3 f4 f5⟩
 self:=λ_ _ _ _ _ st h=>by
  rcases hty with rfl|rfl
  ·exact wpAny_pyIter_striter_ascii st.1 h
  ·exact wpAny_pyIter_striter_wide st.1 h
theorem Av{e:Expr}{te:TE}(he:PE X e te):PI X tg e (Nh te):=by
 intro z0 s σ H R I h;refine ze (he z0 s σ H _ I h) λv s1 ⟨x,H1,I1,r1,q1⟩=>?_
 obtain⟨z,rfl,q⟩:=q1;obtain⟨t,rfl⟩:=(show ∃t,v=Value.str z t from r1)
 have fin:∀(ty:String),(ty = "str_ascii_iterator" \/ ty = "str_iterator")->∀o:Obj,(s1.heap.push o).IsStrIter s1.heap.objs.size ty z t 0->Qj X z0 σ tg R (.ref s1.heap.objs.size) { s1 with heap:=s1.heap.push o }:=λty hty o st=>
  ⟨s1.heap.objs.size,[s1.heap.objs.size],_,_,H1,rfl,I1.kept (t':=s1.toks) λb o e=>Heap.get?_push_of_some _ e,iH hty,⟨st,vi _⟩,λb hb=>by
   have e:b=s1.heap.objs.size:=by simpa using hb
   subst e;exact I1.k_ (yF _) (I1.zZ.fresh (yF _)),q⟩
 cases ha:z.cps.all (·<128)
 ·exact wpAny_pyIter_wide ha (fin _ (.inr rfl) _ ⟨_,Heap.get?_push_size _ rfl,rfl,rfl⟩)
 ·exact wpAny_pyIter_ascii ha (fin _ (.inl rfl) _ ⟨_,Heap.get?_push_size _ rfl,rfl,rfl⟩)
end
def Za(z:Str)(lo hi:Option Int):Str:=⟨((z.cps.toList.drop (HT.sIx z.length 0 lo)).take (HT.sIx z.length z.length hi-HT.sIx z.length 0 lo)).toArray⟩
theorem K6(n:Nat)(lo:Option Int):(match lo with|none=>(0:Int)|some i=>max 0 (min (if i<0 then i+(n:Int)else i) (n:Int)))=((HT.sIx n 0 lo:Nat):Int)\/∃i,lo=some i/\i<0/\(n:Int)<i+n:=by
 cases lo with
 |none=>left; rfl
 |some i=>
  left
  show max 0 (min (if i<0 then i+(n:Int)else i) (n:Int))=(((if i<0 then(i+(n:Int)).toNat else min i.toNat n):Nat):Int);by_cases h:i<0
  ·simp only[h,xj]; omega
  ·simp only[h,wq]; omega
theorem H_(n:Nat)(hi:Option Int):(match hi with|none=>(n:Int)|some i=>max 0 (min (if i<0 then i+(n:Int)else i) (n:Int)))=((HT.sIx n n hi:Nat):Int):=by
 cases hi with
 |none=>rfl
 |some i=>
  show max 0 (min (if i<0 then i+(n:Int)else i) (n:Int))=(((if i<0 then(i+(n:Int)).toNat else min i.toNat n):Nat):Int);by_cases h:i<0
  ·simp only[h,xj]; omega
  ·simp only[h,wq]; omega
theorem K7(n:Nat)(lo:Option Int):(match lo with|none=>(0:Int)|some i=>max 0 (min (if i<0 then i+(n:Int)else i) (n:Int)))=((HT.sIx n 0 lo:Nat):Int):=by
 rcases K6 n lo with h|⟨i,_,h1,h2⟩
 ·exact h
 ·omega
theorem CC(z:Str)(lo hi:Option Int):(strSliceIndices lo hi 1 z.length)=(List.range (HT.sIx z.length z.length hi-HT.sIx z.length 0 lo)).map (HT.sIx z.length 0 lo+·):=by
 have h1:=K7 z.length lo;have h2:=H_ z.length hi;rw[<-sliceRange_one,<-h1,<-h2];unfold strSliceIndices;simp only[show(1:Int)>0 by decide,xj];cases lo<;>cases hi<;>rfl
theorem KA(z:Str)(lo hi:Option Int):(⟨((strSliceIndices lo hi 1 z.length).filterMap (z.cps[·]?)).toArray⟩:Str)=Za z lo hi:=by
 rw[CC,pick_run];rfl
theorem sIx_le(n d:Nat)(hd:d<=n)(v:Option Int):HT.sIx n d v<=n:=by
 cases v with
 |none=>exact hd
 |some i=>
  show(if i<0 then(i+(n:Int)).toNat else min i.toNat n)<=n;by_cases h:i<0
  ·simp only[h,xj]; omega
  ·simp only[h,wq]; omega
theorem KC(z:Str)(lo hi:Option Int)(h:(strSliceIndices lo hi 1 z.length).length=z.length):Za z lo hi=z:=by
 rw[CC,zo,jA]at h;have a:=sIx_le z.length 0 (vi _) lo;have b:=sIx_le z.length z.length (yF _) hi;unfold Za;rw[h];have hz:HT.sIx z.length 0 lo=0\/z.length=0:=by omega
 have hl:z.cps.toList.length=z.length:=by simp[Str.length]
 rcases hz with q|q
 ·rw[q,List.drop_zero,<-hl,Yi]
 ·have e:z.cps.toList=[]:=GN (by omega);rw[e];simp;cases z with
  |mk c=>simp[Str.length]at q; simp[q]
theorem BQ(z:Str)(lo hi:Option Int):(Za z lo hi).length<=z.length:=by
 show(List.toArray _).size<=z.cps.size;rw[yP,tj,Tr,j7];omega
section
variable{X:Cx}
theorem C6{v:Value}{lo:Option Int}(h:IsPart v lo):∃l:Option (Int×Tok),v=partValue l/\l.map (·.1)=lo:=by
 cases h with
 |none=>exact⟨none,rfl,rfl⟩
 |int i t=>exact⟨some (i,t),rfl,rfl⟩
def Cu:V->Option Int->Option Int->Hp->VK->Prop:=λx lo hi H Q=>∃z:Str,x=.str z/\z.length<=sizeLine/\Q (.str (Za z lo hi)) H
theorem dw:pK X Cu:=by
 intro z0 s σ H x v vl vu lo hi sl Q I rx hs pl pu h;obtain⟨z,rfl,hz,q⟩:=h;obtain⟨t,rfl⟩:=(show ∃t,v=Value.str z t from rx);obtain⟨l,rfl,rfl⟩:=C6 pl;obtain⟨u,rfl,rfl⟩:=C6 pu;refine⟨"str",_,F.slot_str_getitem.lookup,typeIs_str _ _ _,?_⟩;refine wpAny_getItem_str_slice (l:=l) (u:=u) (st:=none) hs rfl ?_;unfold sliceMade;have hp:slicePicked z l u none=strSliceIndices (l.map (·.1)) (u.map (·.1)) 1 z.length:=rfl;rw[hp]
 split
 ·rename_i hc
  have e:(strSliceIndices (l.map (·.1)) (u.map (·.1)) 1 z.length).length=z.length:=by
   rw[yC]at hc;exact gD.mp hc.2
  rw[KC z _ _ e]at q;exact⟨.str z,H,I,⟨_,rfl⟩,q⟩
 ·rw[KA];exact⟨wo (BQ z _ _) hz,.str _,H,I.tok _,⟨_,rfl⟩,q⟩
end
section
variable{X:Cx}{e o:Expr}{te to:TE}{pos apos cpos:Pos}{name:Str}{T id:String}{rm:V->List V->Hp->VK->Prop}
end
end L2
namespace L2
open PySem PySem.Spec PyProof.Rows
section
variable{κ:Type}[DecidableEq κ]
def wm(kvs:List (κ×V))(k:κ):Option V:=(kvs.find? λkv=>decide (kv.1=k)).map (·.2)
def xc(kvs:List (κ×V))(k:κ)(v:V):List (κ×V):=
 if(kvs.any λkv=>decide (kv.1=k))=true then kvs.map (λkv=>if kv.1=k then(kv.1,v)else kv)else kvs++[(k,v)]
theorem g7{p:κ×V}{r:List (κ×V)}{k:κ}(e:p.1=k):wm (p::r) k=some p.2:=by simp[wm,Yc,e]
theorem g6{p:κ×V}{r:List (κ×V)}{k:κ}(e:¬ p.1=k):wm (p::r) k=wm r k:=by simp[wm,Yc,e]
theorem L6(k:κ):∀kvs:List (κ×V),(kvs.any λkv=>decide (kv.1=k))=(wm kvs k).isSome
 | []=>rfl
 |p::r=>by
  rw[YY];by_cases e:p.1=k
  ·simp only[g7 e,yQ e,LW,Option.isSome_some]
  ·rw[g6 e,xE e,YW]; exact L6 k r
theorem Ew(k j:κ)(y:V):∀kvs:List (κ×V),wm kvs k=none->wm (kvs++[(k,y)]) j=if j=k then some y else wm kvs j
 | [],_=>by
  by_cases e:k=j
  ·rw[zI e.symm]; exact g7 (p:=(k,y)) e
  ·rw[zK (λz=>e z.symm)]; exact g6 (p:=(k,y)) e
 |p::r,hn=>by
  rw[YZ];have hk:¬ p.1=k:=λz=>by rw[g7 z]at hn; cases hn
  rw[g6 hk]at hn;have ih:=Ew k j y r hn;by_cases e:p.1=j
  ·rw[g7 e,g7 e,zK (λz=>hk (e.trans z))]
  ·rw[g6 e,g6 e,ih]
theorem Io(kvs:List (κ×V))(k:κ)(v:V):(xc kvs k v).length<=kvs.length+1:=by
 unfold xc
 split
 ·rw[zo]; omega
 ·rw[yL,yO,V1]; omega
theorem aR{kvs:List (κ×V)}{k:κ}(v:V)(h:wm kvs k=none):xc kvs k v=kvs++[(k,v)]:=by
 unfold xc;rw[L6,h];exact zK (by decide)
theorem wv.Z1{o:Option V}{u:Option Value}(r:wv o u):o.isSome=u.isSome:=by
 cases o with
 |none=>cases u with
  |none=>rfl
  |some _=>exact(show False from r).elim
 |some _=>cases u with
  |none=>exact(show False from r).elim
  |some _=>rfl
theorem wv.getD{o:Option V}{u:Option Value}{d:V}{d':Value}(r:wv o u)(rd:zd d d'):zd (o.getD d) (u.getD d'):=by
 cases o with
 |none=>cases u with
  |none=>exact rd
  |some _=>exact(show False from r).elim
 |some _=>cases u with
  |none=>exact(show False from r).elim
  |some _=>exact r
theorem KV.val{kvs:List (κ×V)}{vs:List (κ×Value)}(r:KV kvs vs)(k:κ):wv (wm kvs k) (valueAt vs k):=by
 unfold KV at r
 induction r with
 |nil=>exact True.intro
 |@cons p q ps qs h t ih=>
  obtain⟨h1,h2⟩:=h;by_cases e:p.1=k
  ·have e':q.1=k:=h1.symm.trans e;have b:valueAt (q::qs) k=some q.2:=by simp[valueAt,Yc,e']
   rw[g7 e,b]; exact h2
  ·have e':¬ q.1=k:=λz=>e (h1.trans z)
   have b:valueAt (q::qs) k=valueAt qs k:=by simp[valueAt,Yc,e']
   rw[g6 e,b]; exact ih
theorem KV.any{kvs:List (κ×V)}{vs:List (κ×Value)}(r:KV kvs vs)(k:κ):(kvs.any λkv=>decide (kv.1=k))=vs.any λkv=>decide (kv.1=k):=by
 unfold KV at r
 induction r with
 |nil=>rfl
 |cons h t ih=>rw[YY,YY,ih,h.1]
theorem KV.QJ{kvs:List (κ×V)}{vs:List (κ×Value)}(r:KV kvs vs)(k:κ){y:V}{u:Value}(ry:zd y u) :
  KV (kvs.map λkv=>if kv.1=k then(kv.1,y)else kv) (vs.map λkv=>if kv.1=k then(kv.1,u)else kv):=by
 unfold KV at r ⊢
 induction r with
 |nil=>exact .nil
 |@cons p q ps qs h t ih=>
  rw[xA,xA];refine .cons ?_ ih;obtain⟨h1,h2⟩:=h;by_cases e:p.1=k
  ·rw[zI e,zI (h1.symm.trans e)]; exact⟨h1,ry⟩
  ·rw[zK e,zK (λz=>e (h1.trans z))]; exact⟨h1,h2⟩
theorem KV.put{kvs:List (κ×V)}{vs:List (κ×Value)}(r:KV kvs vs)(k:κ){y:V}{u:Value}(ry:zd y u):KV (xc kvs k y) (stored vs k u):=by
 unfold xc stored;rw[r.any k];by_cases e:(vs.any λkv=>decide (kv.1=k))=true
 ·rw[zI e,zI e]; exact r.QJ k ry
 ·rw[zK e,zK e]; exact Paired.snoc r ⟨rfl,ry⟩
theorem KV.length{kvs:List (κ×V)}{vs:List (κ×Value)}(r:KV kvs vs):kvs.length=vs.length:=Paired.length r
end
theorem qH{P:Program}{w:World}{k:zN}{u:Value}(r:zd (kV k) u):(yq P w).is k u=true:=by
 cases k with
 |inl i=>obtain⟨t,e⟩:=(show ∃t,u=Value.int i t from r); subst e; exact R0 P w i t
 |inr x=>obtain⟨t,e⟩:=(show ∃t,u=Value.str x t from r); subst e; exact Ix P w x t
theorem DU{P:Program}{w:World}:∀{ks:List zN}{us:List Value},zc (ks.map kV) us->ItemsAre (yq P w) ks us
 | [],_,r=>by rw[V3]at r; cases r; exact .nil
 |k::ks,_,r=>by
  rw[xA]at r;cases r with
  |cons h t=>exact .cons (qH h) (DU t)
abbrev KT(H:Hp):List (List zN×V)->List (List zN×Addr×Value)->Prop:=Paired λp q=>p.1=q.1/\H q.2.1=some (.tup (p.1.map kV))/\zd p.2 q.2.2
theorem KT.val{H:Hp}{kvs:List (List zN×V)}{xs:List (List zN×Addr×Value)}(r:KT H kvs xs)(k:List zN):wv (wm kvs k) ((atKey xs k).map (·.2)):=by
 induction r with
 |nil=>exact True.intro
 |@cons p q ps qs h t ih=>
  obtain⟨h1,_,h2⟩:=h;by_cases e:p.1=k
  ·have e':q.1=k:=h1.symm.trans e;have b:atKey (q::qs) k=some q.2:=by simp[atKey,Yc,e']
   rw[g7 e,b]; exact h2
  ·have e':¬ q.1=k:=λz=>e (h1.trans z)
   have b:atKey (q::qs) k=atKey qs k:=by simp[atKey,Yc,e']
   rw[g6 e,b]; exact ih
theorem KT.QJ{H:Hp}{kvs:List (List zN×V)}{xs:List (List zN×Addr×Value)}(r:KT H kvs xs)(k:List zN){y:V}{u:Value}(ry:zd y u) :
  KT H (kvs.map λkv=>if kv.1=k then(kv.1,y)else kv) (xs.map (putAt k u)):=by
 induction r with
 |nil=>exact .nil
 |@cons p q ps qs h t ih=>
  rw[xA,xA];refine .cons ?_ ih;obtain⟨h1,h2,h3⟩:=h;unfold putAt;by_cases e:p.1=k
  ·rw[zI e,zI (h1.symm.trans e)]; exact⟨h1,h2,ry⟩
  ·rw[zK e,zK (λz=>e (h1.trans z))]; exact⟨h1,h2,h3⟩
theorem KT.put{H:Hp}{kvs:List (List zN×V)}{xs:List (List zN×Addr×Value)}(r:KT H kvs xs)(k:List zN){b:Addr}{y:V}{u:Value}(hb:H b=some (.tup (k.map kV)))(ry:zd y u) :
  KT H (xc kvs k y) (storedH xs k b u):=by
 have e:(kvs.any λkv=>decide (kv.1=k))=(atKey xs k).isSome:=by
  rw[L6,(r.val k).Z1,M3]
 unfold xc storedH;rw[e];by_cases q:(atKey xs k).isSome=true
 ·rw[zI q,zI q]; exact r.QJ k ry
 ·rw[zK q,zK q]; exact Paired.snoc r ⟨rfl,hb,ry⟩
theorem KT.keeps{H H':Hp}{kvs:List (List zN×V)}{xs:List (List zN×Addr×Value)}(r:KT H kvs xs)(ht:∀b ys,H b=some (.tup ys)->H' b=some (.tup ys)):KT H' kvs xs:=
 Paired.QC r λ_ _ z=>⟨z.1,ht _ _ z.2.1,z.2.2⟩
section
variable{P:Program}{w:World}{H:Hp}{h:Heap}{a:Addr}
theorem Cy{u:HO}(ok:xF P w H h)(e:Rd H a u):xG P w H h a u:=e.ok ok
theorem tP{kvs:List (zN×V)}(ok:xF P w H h)(e:Rd H a (.dK kvs)):kvs.length<=sizeLine/\(a==sysModules)=false/\∃vs,KV kvs vs/\h.DictOf (yq P w) a vs:=
 show xG P w H h a (.dK kvs)from Cy ok e
theorem Ba{kvs:List (zN×V)}(ok:xF P w H h)(e:H a=some (.dK kvs)):kvs.length<=sizeLine/\(a==sysModules)=false/\∃vs,KV kvs vs/\h.DictOf (yq P w) a vs:=tP ok (.inl e)
theorem Zw{ks:List zN}(ok:xF P w H h)(e:H a=some (.tup (ks.map kV))):(tupleKind (yq P w)).is h ks a:=by
 obtain⟨_,its,r,o,h1,h2,n,h3⟩:=(show xG P w H h a (.tup (ks.map kV))from ok a _ e);exact⟨o,its.toArray,n,h1,h2,h3,by simpa using DU r⟩
theorem gw{kvs:List (List zN×V)}(ok:xF P w H h)(e:Rd H a (.dT kvs)):kvs.length<=sizeLine/\(a==sysModules)=false/\
  ∃xs,KT H kvs xs/\h.DictOfH (tupleKind (yq P w)) a xs:=by
 obtain⟨z,y,xs,r,o,es,ep,h1,h2,h3,h4,h5⟩:=(show xG P w H h a (.dT kvs)from Cy ok e);refine⟨z,y,xs,r,o,es,ep,h1,h2,h3,h4,λx hx=>?_,h5⟩
 have all:∀{l:List (List zN×V)} {m:List (List zN×Addr×Value)},KT H l m->∀x∈m,(tupleKind (yq P w)).is h x.1 x.2.1:=by
  intro l m q
  induction q with
  |nil=>intro x hx; exact nomatch hx
  |@cons p q ps qs hq t ih=>
   intro x hx;rcases yY.mp hx with e|hx
   ·subst e;exact Zw ok (by rw[<-hq.1]; exact hq.2.1)
   ·exact ih x hx
 exact all r x hx
theorem KN{kvs:List (List zN×V)}(ok:xF P w H h)(e:H a=some (.dT kvs)):kvs.length<=sizeLine/\(a==sysModules)=false/\
  ∃xs,KT H kvs xs/\h.DictOfH (tupleKind (yq P w)) a xs:=gw ok (.inl e)
end
def gL(H:Hp)(a:Addr)(y:V)(r:Option V):Prop:=
 (∃kvs k,Rd H a (.dK kvs)/\y=kV k/\r=wm kvs k)\/∃kvs k b,Rd H a (.dT kvs)/\y=.ref b/\H b=some (.tup (k.map kV))/\r=wm kvs k
def QN(H:Hp)(a:Addr)(y v:V)(H':Hp):Prop:=
 (∃kvs k,H a=some (.dK kvs)/\y=kV k/\kvs.length<sizeLine/\H'=zS H a (.dK (xc kvs k v))) \/
 ∃kvs k b,H a=some (.dT kvs)/\y=.ref b/\H b=some (.tup (k.map kV))/\kvs.length<sizeLine/\H'=zS H a (.dT (xc kvs k v))
section
variable{X:Cx}{z0:List (Addr×Obj)}{σ:St}{H:Hp}{s:Shared}{a:Addr}{y v:V}{u r:Value}{o:Option V}{A:Around}{E:Value->Shared->Prop}
theorem zB.big(I:zB X z0 σ H s):sysModules<s.heap.objs.size:=by
 have h:mainGlobals<s.heap.objs.size:=(I.mod.glob.keeps I.bk).lt;exact Ty (by decide) h
theorem KE{Q:Value->Shared->Prop}(hu:A.units+1<cLine)(I:zB X z0 σ H s)(g:gL H a y (some v))(ry:zd y u)(h:∀w' s',zB X z0 σ H s'->zd v w'->Q w' s') :
  wpAny (model X.prog X.w) A (getItem (.ref a) u) Q E s:=by
 rcases g with⟨kvs,k,e,ey,l⟩|⟨kvs,k,b,e,ey,eb,l⟩
 ·subst ey;obtain⟨z,hd,vs,rel,dd⟩:=tP I.zZ e;obtain⟨w',hw,rw'⟩:=wv.some_of (v:=v) (o:=valueAt vs k) (by rw[l]; exact rel.val k);exact M8 (qH ry) dd.mapOf hw (h w' _ (I.tok _) rw')
 ·subst ey;cases(show u=Value.ref b from ry);obtain⟨z,hd,xs,rel,dd⟩:=gw I.zZ e;obtain⟨w',hw,rw'⟩:=wv.some_of (v:=v) (o:=(atKey xs k).map (·.2)) (by rw[l]; exact rel.val k);obtain⟨p,hp,hp2⟩:=Option.map_eq_some_iff.mp hw;refine wpAny_getItem_heap (V9 hu) (Zw I.zZ eb) dd hp ?_;rw[hp2];exact h w' _ (I.tok _) rw'
theorem KF{Q:Value->Shared->Prop}(hu:A.units+1<cLine)(I:zB X z0 σ H s)(g:gL H a y o)(ry:zd y u)(h:∀s',zB X z0 σ H s'->Q (.bool o.isSome) s') :
  wpAny (model X.prog X.w) A (compareOp .In u (.ref a)) Q E s:=by
 rcases g with⟨kvs,k,e,ey,l⟩|⟨kvs,k,b,e,ey,eb,l⟩
 ·subst ey;obtain⟨z,hd,vs,rel,dd⟩:=tP I.zZ e;refine wpAny_in_of (qH ry) hd dd.mapOf ?_;rw[<-(rel.val k).Z1,<-l];exact h _ (I.tok _)
 ·subst ey;cases(show u=Value.ref b from ry);obtain⟨z,hd,xs,rel,dd⟩:=gw I.zZ e;refine wpAny_in_heap (V9 hu) (Zw I.zZ eb) hd dd ?_;have q:=(rel.val k).Z1;rw[M3]at q;rw[<-q,<-l];exact h _ (I.tok _)
theorem KH{Q:Value->Shared->Prop}(hu:A.units+1<cLine)(I:zB X z0 σ H s)(g:gL H a y o)(ry:zd y u)(h:∀s',zB X z0 σ H s'->Q (.bool (!o.isSome)) s') :
  wpAny (model X.prog X.w) A (compareOp .NotIn u (.ref a)) Q E s:=by
 rcases g with⟨kvs,k,e,ey,l⟩|⟨kvs,k,b,e,ey,eb,l⟩
 ·subst ey;obtain⟨z,hd,vs,rel,dd⟩:=tP I.zZ e;refine wpAny_notIn_of (qH ry) hd dd.mapOf ?_;rw[<-(rel.val k).Z1,<-l];exact h _ (I.tok _)
 ·subst ey;cases(show u=Value.ref b from ry);obtain⟨z,hd,xs,rel,dd⟩:=gw I.zZ e;refine wpAny_notIn_heap (V9 hu) (Zw I.zZ eb) hd dd ?_;have q:=(rel.val k).Z1;rw[M3]at q;rw[<-q,<-l];exact h _ (I.tok _)
theorem JE{h':Heap}{t':Nat}{ob:HO}(I:zB X z0 σ H s)(mu:Yz (H a))(hs:Heap.SameBut a s.heap h')(he:∃q,h'.get? a=some q)(new:xG X.prog X.w (zS H a ob) h' a ob) :
  zB X z0 σ (zS H a ob) { s with heap:=h',toks:=t' }:=
 I.write (x:=a) (e:=a) mu (.inl rfl) (λb q hb z=>(hs.2 b hb).trans z) he new
theorem UE{P:Program}{w:World}{H':Hp}{h':Heap}{kvs:List (zN×V)}{vs:List (zN×Value)}(z:kvs.length<=sizeLine)(hd:(a==sysModules)=false)(rel:KV kvs vs)(dd:h'.DictOf (yq P w) a vs) :
  xG P w H' h' a (.dK kvs):=⟨z,hd,vs,rel,dd⟩
theorem BU{H':Hp}{Q:Unit->Shared->Prop}(hu:A.units+1<cLine)(I:zB X z0 σ H s)(g:QN H a y v H')(ry:zd y u)(rv:zd v r)(h:∀s',zB X z0 σ H' s'->Q () s') :
  wpAny (model X.prog X.w) A (setItem (.ref a) u r) Q E s:=by
 rcases g with⟨kvs,k,e,ey,l,eH⟩|⟨kvs,k,b,e,ey,eb,l,eH⟩
 ·subst ey eH;obtain⟨z,hd,vs,rel,dd⟩:=Ba I.zZ e;have hz:vs.length<=sizeLine:=by rw[<-rel.length]; exact z
  have hl:(xc kvs k v).length<=sizeLine:=by have:=Io kvs k v; omega
  refine wpAny_setItem_pairs (hsz:=hz) (qH ry) dd λh' dd' hs=>h _ ?_
  have he:∃q,h'.get? a=some q:=let ⟨q,_,_,hq,_⟩:=dd'; ⟨q,hq⟩;exact JE I (by rw[e]; exact True.intro) hs he (UE hl hd (rel.put k rv) dd')
 ·subst ey eH;cases(show u=Value.ref b from ry);obtain⟨z,hd,xs,rel,dd⟩:=KN I.zZ e;have hz:xs.length<=sizeLine:=by rw[<-Paired.length rel]; exact z
  have hl:(xc kvs k v).length<=sizeLine:=by have:=Io kvs k v; omega
  refine wpAny_setItem_heap (hsz:=hz) (V9 hu) (Zw I.zZ eb) dd λh' dd' hs=>h _ ?_
  obtain⟨q,es,ep,hq,h2,h3,h4,_,h5⟩:=dd';refine JE I (by rw[e]; exact True.intro) hs ⟨q,hq⟩ ⟨hl,hd,_,(rel.put k eb rv).keeps λc ys ec=>?_,q,es,ep,hq,h2,h3,h4,h5⟩;rw[yK (RI ec e (λz=>nomatch z))];exact ec
end
section
variable{X:Cx}{z0:List (Addr×Obj)}{σ:St}{H:Hp}{s:Shared}{a:Addr}{kvs:List (zN×V)}{k:zN}{u:Value}{A:Around}{E:Value->Shared->Prop}
theorem KG{Q:Value->Shared->Prop}(I:zB X z0 σ H s)(e:Rd H a (.dK kvs))(h:∀t s',zB X z0 σ H s'->Q (.int kvs.length t) s'):wpAny (model X.prog X.w) A (call (.builtin "len") [.ref a]) Q E s:=by
 obtain⟨z,hd,vs,rel,dd⟩:=tP I.zZ e;refine call_len_dict hd dd (by rw[<-rel.length]; rw[xM]at z; omega) ?_;rw[<-rel.length];exact h _ _ (I.tok _)
end
theorem KK{X:Cx}{z0:List (Addr×Obj)}{σ:St}{H:Hp}{s:Shared}{a:Addr}{y:V}{o:Option V}(I:zB X z0 σ H s)(g:gL H a y o):s.TypeIs (.ref a) "dict" := by
 rcases g with⟨kvs,k,e,_,_⟩|⟨kvs,k,b,e,_,_,_⟩
 ·obtain⟨_,_,vs,_,dd⟩:=tP I.zZ e;exact dd.typeIs
 ·obtain⟨_,_,xs,_,dd⟩:=gw I.zZ e;exact dd.typeIs
def cG(td ty tv:TE):TS:=λD σ H=>tv σ H λv H1=>td σ H1 λx H2=>ty σ H2 λy H3=>∃a H4,x=.ref a/\QN H3 a y v H4/\D.nx σ H4
def cF(td ty tv:TE)(rd:V->V->Hp->VK->Prop):TS:=λD σ H=>td σ H λx H1=>ty σ H1 λy H2=>∃a v,x=.ref a/\gL H2 a y (some v)/\
 tv σ H2 λy2 H3=>rd v y2 H3 λz H4=>∃H5,QN H4 a y z H5/\D.nx σ H5
section
variable{X:Cx}{o i e value:Expr}{pos pos' tpos:Pos}{td ty tv:TE}
theorem OG(hu:X.A.units+1<cLine)(ho:PE X o td)(hi:PE X i ty)(hv:PE X value tv)(hs:swapsWith value (some (.Subscript o i pos')) pos.line X.env=pure false) :
  PS X (.Assign [.Subscript o i pos'] value pos) (cG td ty tv):=by
 intro z0 s σ H D I h;refine wpAny_Assign_Subscript (ze (hv z0 s σ H _ I h) λr s1 ⟨v,H1,I1,rv,q1⟩=>ze (ho z0 s1 σ H1 _ I1 q1) λu s2 ⟨x,H2,I2,rx,q2⟩=>ze (hi z0 s2 σ H2 _ I2 q2) λiv s3 ⟨y,H3,I3,ry,a,H4,ex,g,q3⟩=>?_) hs;subst ex;obtain rfl:u=Value.ref a:=rx;exact BU hu I3 g ry rv λs4 I4=>⟨σ,H4,I4,q3⟩
theorem aH{op:Operator}{rd:V->V->Hp->VK->Prop}(hu:X.A.units+1<cLine)(ho:PE X o td)(hi:PE X i ty)(hv:PE X value tv)(hop:QY X op rd)
  (ha:∀ov iv new,augStore i ov iv new=(do holding [new,ov,iv] (setItem ov iv new); release [new,ov,iv] []; pure .next)):PS X (.AugAssign (.Subscript o i tpos) op value pos) (cF td ty tv rd):=by
 intro z0 s σ H D I h;refine wpAny_AugAssign_SubscriptAny (ze (ho z0 s σ H _ I h) λu s1 ⟨x,H1,I1,rx,q1⟩=>ze (hi z0 s1 σ H1 _ I1 q1) λiv s2 ⟨y,H2,I2,ry,a,v,ex,g,q2⟩=>?_) ha;subst ex;obtain rfl:u=Value.ref a:=rx;refine KE hu I2 g ry λw' s3 I3 rw'=>ze (hv z0 s3 σ H2 _ I3 q2) λw2 s4 ⟨y2,H3,I4,ry2,q3⟩=>ze (hop z0 s4 σ H3 v y2 w' w2 _ I4 rw' ry2 q3) λw3 s5 ⟨z,H4,I5,rz,H5,g5,q4⟩=>?_
 exact BU hu I5 g5 ry rz λs6 I6=>⟨σ,H5,I6,q4⟩
end
theorem BZ{P:Program}{w:World}{H:Hp}(h:Heap)(hb:sysModules<h.objs.size):xG P w H (h.push { cls:=.type "dict",data:=.dict #[] }) h.objs.size (.dK []):=
 ⟨vi _,jF.mpr (jD (xz hb)),[],.nil,Heap.DictOf.new h⟩
def ef:TE:=λ_ H Q=>∀p,H p=none->Q (.ref p) (zS H p (.dK []))
section
variable{X:Cx}{pos:Pos}
theorem Ab:PE X (.Dict [] [] pos) ef:=λz0 s σ H Q I h=>
 wpAny_Dict_empty ⟨.ref s.heap.objs.size,_,I.laid (a:=s.heap.objs.size) (o:=.dK []) (t':=s.toks) (λ_ _ q=>Heap.get?_push_of_some _ q) (yF _) (BZ s.heap I.big),rfl,h _ (I.zZ.fresh (yF _))⟩
end
def Ta:List (TE×TE)->St->Hp->(List (V×V)->Hp->Prop)->Prop
 | [],_,H,Q=>Q [] H
 |(tk,tv)::r,σ,H,Q=>tk σ H λx H1=>tv σ H1 λy H2=>Ta r σ H2 λps H3=>Q ((x,y)::ps) H3
abbrev VV:List (V×V)->List (Value×Value)->Prop:=Paired λp q=>zd p.1 q.1/\zd p.2 q.2
def X0(X:Cx)(pos:Pos)(keys:List (Option Expr))(values:List Expr)(trs:List (TE×TE)):Prop:=
 ∀(z0:List (Addr×Obj)) (s:Shared) (σ:St) (H:Hp) (Q:List (V×V)->Hp->Prop),zB X z0 σ H s->Ta trs σ H Q->
  wpAny (model X.prog X.w) X.A (evalPairs (pairTrees keys values X.env pos)) (λvs s'=>∃ps H',zB X z0 σ H' s'/\VV ps vs/\Q ps H') X.xe s
theorem aG{X:Cx}{pos:Pos}:X0 X pos [] [] []:=λz0 s σ H Q I h=>pairTrees_nil_walk ⟨[],H,I,.nil,h⟩
theorem aF{X:Cx}{pos:Pos}{k v:Expr}{ks:List (Option Expr)}{vs:List Expr}{tk tv:TE}{trs:List (TE×TE)}(hk:PE X k tk)(hv:PE X v tv)(hr:X0 X pos ks vs trs) :
  X0 X pos (some k::ks) (v::vs) ((tk,tv)::trs):=λz0 s σ H Q I h=>
 pairTrees_cons_walk (ze (hk z0 s σ H _ I h) λu s1 ⟨x,H1,I1,rx,q1⟩=>ze (hv z0 s1 σ H1 _ I1 q1) λw2 s2 ⟨y,H2,I2,ry,q2⟩=>
  ze (hr z0 s2 σ H2 _ I2 q2) λws s3 ⟨ps,H3,I3,rel,q3⟩=>⟨(x,y)::ps,H3,I3,.cons ⟨rx,ry⟩ rel,q3⟩)
def uy(kvs more:List (zN×V)):List (zN×V):=more.foldl (λacc kv=>xc acc kv.1 kv.2) kvs
theorem KV.merge:∀{more:List (zN×V)} {rs:List (zN×Value)} {kvs:List (zN×V)} {vs:List (zN×Value)},KV more rs->KV kvs vs->KV (uy kvs more) (merged vs rs):=by
 intro more rs kvs vs r;unfold KV at r
 induction r generalizing kvs vs with
 |nil=>intro q; exact q
 |@cons p q ps qs h t ih=>
  intro r0
  have e:KV (xc kvs p.1 p.2) (stored vs q.1 q.2):=by
   have:=r0.put p.1 h.2;rw[<-h.1]; exact this
  exact ih e
theorem Im:∀(more kvs:List (zN×V)),(uy kvs more).length<=kvs.length+more.length
 | [],kvs=>by show kvs.length<=kvs.length+0; omega
 |p::r,kvs=>by
  have h1:=Im r (xc kvs p.1 p.2);have h2:=Io kvs p.1 p.2;show(uy (xc kvs p.1 p.2) r).length<=_;rw[yO]; omega
theorem BJ{P:Program}{w:World}:∀{kvs:List (zN×V)} {ws:List (Value×Value)},VV (kvs.map λkv=>(kV kv.1,kv.2)) ws->∃rs,Carries (yq P w) ws rs/\KV kvs rs
 | [],_,r=>by rw[V3]at r; cases r; exact⟨[],True.intro,.nil⟩
 |p::kvs,_,r=>by
  rw[xA]at r;cases r with
  |@cons a b as bs h t=>
   obtain⟨rs,c,q⟩:=BJ (P:=P) (w:=w) t;obtain⟨b1,b2⟩:=b;exact⟨(p.1,b2)::rs,⟨qH h.1,rfl,c⟩,.cons ⟨rfl,h.2⟩ q⟩
def eh(trs:List (TE×TE)):TE:=λσ H Q=>∀p,H p=none->Ta trs σ (zS H p (.dK [])) λps H2=>H2 p=some (.dK [])/\∃kvs:List (zN×V),ps=kvs.map (λkv=>(kV kv.1,kv.2))/\kvs.length<=15/\Q (.ref p) (zS H2 p (.dK (uy [] kvs)))
theorem Aa{X:Cx}{pos:Pos}{keys:List (Option Expr)}{values:List Expr}{trs:List (TE×TE)}(h:X0 X pos keys values trs)(hall:keys.all (·.isSome)=true)(hl:keys.length=values.length)(h0:keys≠[])
  (h15:keys.length<=15):PE X (.Dict keys values pos) (eh trs):=by
 intro z0 s σ H Q I q;have hn:=I.zZ.fresh (yF s.heap.objs.size);have I1:=I.laid (a:=s.heap.objs.size) (o:=.dK []) (h':=s.heap.push { cls:=.type "dict",data:=.dict #[] }) (t':=s.toks) (λ_ _ q=>Heap.get?_push_of_some _ q) (yF _) (BZ s.heap I.big);refine wpAny_Dict_walk (knd:=yq X.prog X.w) hall hl h0 h15 (ze (h z0 _ σ _ _ I1 (q _ hn)) λws s2 ⟨ps,H2,I2,rel,e,kvs,ep,lk,q2⟩=>?_);subst ep;obtain⟨rs,c,rk⟩:=BJ (P:=X.prog) (w:=X.w) rel;obtain⟨z,hd,vs0,r0,dd⟩:=Ba I2.zZ e;cases r0;refine⟨rs,c,dd,λh' dd' hs=>⟨.ref s.heap.objs.size,_,?_,rfl,q2⟩⟩
 have hz:(uy [] kvs).length<=sizeLine:=by
  have h1:=Im kvs [];rw[V1]at h1;rw[xM]; omega
 have he:∃q,h'.get? s.heap.objs.size=some q:=let ⟨q,_,_,hq,_⟩:=dd'; ⟨q,hq⟩;exact JE I2 (by rw[e]; exact True.intro) hs he (UE hz hd (rk.merge .nil) dd')
structure M2(X:Cx)(o:Expr)(m:Str)(apos:Pos)(e f:Expr)(cpos:Pos):Prop where
 base:attributeBase o m X.env (eval o X.env)=eval o X.env
 Ge:((backTo cpos (starEach [e,f] X.env)).all (λx=>!x.1)&&(backToKw cpos (keywordEach [] X.env)).all (λx=>x.1.isSome)
  && decide (([e,f]:List Expr).length+([]:List Keyword).length+(if([]:List Keyword).isEmpty then 0 else 1)<30))=true
 line:(apos.endLine==cpos.line)=true
 trees:backTo cpos (starEach [e,f] X.env)=[(false,eval e X.env),(false,eval f X.env)]
def MV(H:Hp)(a:Addr):Prop:=(∃kvs,Rd H a (.dK kvs))\/∃kvs,Rd H a (.dT kvs)
theorem Nq{X:Cx}{z0:List (Addr×Obj)}{σ:St}{H:Hp}{s:Shared}{a:Addr}(I:zB X z0 σ H s)(d:MV H a) :
  s.TypeIs (.ref a) "dict" /\ (∀b,Value.ref a=.ref b->∃ob,s.heap.get? b=some ob/\ob.dict=none)/\(a==sysModules)=false:=by
 rcases d with⟨kvs,e⟩|⟨kvs,e⟩
 ·obtain⟨_,hd,vs,_,dd⟩:=tP I.zZ e;refine⟨dd.typeIs,λb q=>?_,hd⟩;cases q;obtain⟨ob,_,_,h1,h2,_⟩:=dd;exact⟨ob,h1,h2.2.1⟩
 ·obtain⟨_,hd,xs,_,dd⟩:=gw I.zZ e;refine⟨dd.typeIs,λb q=>?_,hd⟩;cases q;obtain⟨ob,_,_,h1,h2,_⟩:=dd;exact⟨ob,h1,h2.2.1⟩
section
variable{X:Cx}{z0:List (Addr×Obj)}{σ:St}{H:Hp}{s:Shared}{a:Addr}{y d:V}{u r:Value}{o:Option V}{A:Around}{E:Value->Shared->Prop}
theorem KD{Q:Value->Shared->Prop}(hu:A.units+1<cLine)(I:zB X z0 σ H s)(g:gL H a y o)(ry:zd y u)(rd:zd d r)(h:∀w' s',zB X z0 σ H s'->zd (o.getD d) w'->Q w' s') :
  wpAny (model X.prog X.w) A (call (.builtin "dict.get") [.ref a,u,r]) Q E s:=by
 rcases g with⟨kvs,k,e,ey,l⟩|⟨kvs,k,b,e,ey,eb,l⟩
 ·subst ey;obtain⟨z,hd,vs,rel,dd⟩:=tP I.zZ e;refine call_meetsIn PySem.F.slot_dict_get dd.typeIs PySem.F.entry_dict_get (PySem.F.args_dict_get_3 _ _ _) (meets_dict_get_default (yq X.prog X.w) a (qH ry) hd r) ⟨_,dd.mapOf,h _ _ (I.tok _) ?_⟩;rw[l];exact(rel.val k).getD rd
 ·subst ey;cases(show u=Value.ref b from ry);obtain⟨z,hd,xs,rel,dd⟩:=gw I.zZ e;refine call_meetsIn PySem.F.slot_dict_get dd.typeIs PySem.F.entry_dict_get (PySem.F.args_dict_get_3 _ _ _) (meetsH_dict_get_default (tupleKind (yq X.prog X.w)) a b hd r) ⟨V9 hu,k,xs,Zw I.zZ eb,dd,h _ _ (I.tok _) ?_⟩;rw[l];exact(rel.val k).getD rd
end
def eZ(td ty tx:TE):TE:=λσ H Q=>td σ H λx H1=>∃a,x=.ref a/\MV H1 a/\ty σ H1 λy H2=>tx σ H2 λz H3=>∃o,gL H3 a y o/\Q (o.getD z) H3
section
variable{X:Cx}{o e f:Expr}{apos cpos:Pos}{td ty tx:TE}
theorem AZ(hu:X.A.units+1<cLine)(ho:PE X o td)(he:PE X e ty)(hf:PE X f tx)(m:M2 X o "get" apos e f cpos):PE X (.Call (.Attribute o "get" apos) [e,f] [] cpos) (eZ td ty tx):=by
 intro z0 s σ H Q I h;refine wpAny_Call_method m.base m.Ge m.line PySem.F.plainAttrs_dict PySem.F.slot_dict_get PySem.F.type_dict_get (ze (ho z0 s σ H _ I h) λu s1 ⟨x,H1,I1,rx,a,ex,d,q1⟩=>?_);subst ex;obtain rfl:u=Value.ref a:=rx;obtain⟨t1,t2,_⟩:=Nq I1 d;refine⟨t1,t2,?_⟩;rw[m.trees]
 refine Calls.callWith_builtin rfl (Calls.evalArgs_plain (LX (ze (he z0 s1 σ H1 _ I1 q1) λiv s2 ⟨y,H2,I2,ry,q2⟩=>
  LX (ze (hf z0 s2 σ H2 _ I2 q2) λfv s3 ⟨z,H3,I3,rz,ov,g,q3⟩=>Calls.spliced_nil ?_))))
 exact KD hu I3 g ry rz λw' s4 I4 rw'=>⟨_,H3,I4,rw',q3⟩
end
section
variable{X:Cx}{z0:List (Addr×Obj)}{σ:St}{H:Hp}{s:Shared}{a:Addr}{kvs:List (zN×V)}{A:Around}{E:Value->Shared->Prop}
end
section
variable{X:Cx}{z0:List (Addr×Obj)}{σ:St}{H:Hp}{s:Shared}{a:Addr}{y:V}{u:Value}{A:Around}{E:Value->Shared->Prop}
end
end L2
namespace L3
open PySem
inductive D where
 |zF|bl (b:Bool)|int (i:Int)|str (x:Str)|tup (xs:List D)|lst (xs:List D)|dic (ks:List (Sum Int Str)) (vs:List D)|exc (x:Str)|obj (x:Str) (fs:List Str) (vs:List D)
theorem D.ind{P:D->Prop}(zF:P .zF)(bl:∀b,P (.bl b))(int:∀i,P (.int i))(str:∀x,P (.str x))(tup:∀xs,(∀d∈xs,P d)->P (.tup xs))(lst:∀xs,(∀d∈xs,P d)->P (.lst xs))
  (dic:∀ks xs,(∀d∈xs,P d)->P (.dic ks xs))(exc:∀x,P (.exc x))(obj:∀x fs xs,(∀d∈xs,P d)->P (.obj x fs xs))(d:D):P d:=
 D.rec (motive_1:=P) (motive_2:=λds=>∀d∈ds,P d) zF bl int str (λxs h=>tup xs h) (λxs h=>lst xs h) (λks xs h=>dic ks xs h) exc (λx fs xs h=>obj x fs xs h) (λ_ h=>absurd h (by simp))
  (λd ds hd hds e he=>by
   rcases yY.mp he with z|z
   ·exact z▸hd
   ·exact hds e z) d
mutual
def yn:D->D->Bool
 |.zF,.zF=>true
 |.bl a,.bl b=>a==b
 |.bl a,.int b=>(if a then 1 else 0)==b
 |.int a,.bl b=>a==(if b then 1 else 0)
 |.int a,.int b=>a==b
 |.str a,.str b=>a==b
 |.tup xs,.tup ys=>dEqs xs ys
 |.lst xs,.lst ys=>dEqs xs ys
 |_,_=>false
def dEqs:List D->List D->Bool
 | [],[]=>true
 |x::xs,y::ys=>yn x y&&dEqs xs ys
 |_,_=>false
end
abbrev Sl:=Bool×D
abbrev zi:=List (Option Sl)
abbrev FE:=zi->Option D
abbrev FT:=zi->Option Bool
abbrev FA:=zi->Option (List D)
abbrev FG:=D->zi->Option zi
inductive Fl where
 |nx (σ:zi)|rt (o:Bool) (d:D)|bk (σ:zi)|ct (σ:zi)
abbrev FS:=zi->Option Fl
abbrev yR:Nat:=16777216
def z6(i:Nat):FE:=λσ=>match σ[i]? with
 |some (some (false,d))=>some d
 |_=>none
def XB(i:Nat):FE:=λσ=>match σ[i]? with
 |some (some (_,d))=>some d
 |_=>none
def eC(d:D):FE:=λ_=>some d
def e1(F:D->Option D)(a:FE):FE:=λσ=>(a σ).bind F
def e2(F:D->D->Option D)(a b:FE):FE:=λσ=>(a σ).bind λx=>(b σ).bind λy=>F x y
def eL(F:List D->Option D)(a:FA):FE:=λσ=>(a σ).bind F
def zJ:FA:=λ_=>some []
def z8(a:FE)(r:FA):FA:=λσ=>(a σ).bind λx=>(r σ).bind λxs=>some (x::xs)
def pM:D->Option Bool
 |.bl b=>some b
 |_=>none
def tE(a:FE):FT:=λσ=>(a σ).bind pM
def eU(a b:FT):FT:=λσ=>(a σ).bind λk=>match k with
 |true=>b σ
 |false=>some false
def kY(a b:FT):FT:=λσ=>(a σ).bind λk=>match k with
 |true=>some true
 |false=>b σ
def j4(a:FT):FT:=λσ=>(a σ).bind λk=>some (!k)
def Zb(a b:FE):FE:=λσ=>(a σ).bind λx=>(pM x).bind λk=>match k with
 |true=>b σ
 |false=>some (.bl false)
def UG(a b:FE):FE:=λσ=>(a σ).bind λx=>(pM x).bind λk=>match k with
 |true=>some (.bl true)
 |false=>b σ
def UF(a:FE):FE:=λσ=>(a σ).bind λx=>(pM x).bind λk=>some (.bl (!k))
def qB(c:FT)(a b:FE):FE:=λσ=>(c σ).bind λk=>match k with
 |true=>a σ
 |false=>b σ
def wR(a:FA):FE:=λσ=>(a σ).bind λxs=>some (.tup xs)
def wN(a:FA):FE:=λσ=>(a σ).bind λxs=>some (.lst xs)
def y_:D->D->Option D
 |.int i,.int j=>some (.int (i+j))
 |.int i,.bl b=>some (.int (i+(if b then 1 else 0)))
 |.str x,.str y=>if x.length+y.length<=yR then some (.str (x++y))else none
 |.lst x,.lst y=>if x.length+y.length<=yR then some (.lst (x++y))else none
 |.tup x,.tup y=>if x.isEmpty=false/\x.length+y.length<=yR then some (.tup (x++y))else none
 |_,_=>none
def fI(C:Int->Int->Bool)(g:Int->Int->Int):D->D->Option D
 |.int i,.int j=>match C i j with
  |true=>some (.int (g i j))
  |false=>none
 |_,_=>none
def qk:D->D->Option D
 |.int i,.int j=>some (.int (i-j))
 |_,_=>none
def tR(i:Int):Bool:=decide (-(2 ^ 64)<i)&&decide (i<2 ^ 64)
def qD:D->D->Option D:=fI (λi _=>tR i) (·*·)
def XE:D->D->Option D:=fI (λ_ j=>tR j) (·*·)
def wF:D->D->Option D:=fI (λ_ j=>decide (0<j)) (· % ·)
def Zc:D->D->Option D:=fI (λ_ j=>decide (0<j)&&decide (j<2 ^ 64)) (· / ·)
def kO(i j:Int):Bool:=decide (0<=j)&&(decide (j<=1000000)&&decide (i.natAbs<2 ^ 64))
def KU:D->D->Option D:=fI kO λi j=>i ^ j.toNat
def qj:D->D->Option D:=fI kO λi j=>i*2 ^ j.toNat
def UQ:D->D->Option D:=fI (λ_ j=>decide (0<=j)) λi j=>i/2 ^ j.toNat
def qi(g:Int->Int->Int):D->D->Option D
 |.int i,.int j=>some (.int (g i j))
 |_,_=>none
def Zd:D->Option D
 |.int i=>some (.int (-i))
 |_=>none
def Bp:D->Option D
 |.int i=>some (.int (Builtin.bitNot i))
 |_=>none
def wO(g:Int->Int->Bool):D->D->Option D
 |.int i,.int j=>some (.bl (g i j))
 |_,_=>none
def Zt:D->Bool
 |.zF=>true
 |_=>false
def UL:D->D->Option D
 |x,.zF=>some (.bl (Zt x))
 |_,_=>none
def JW:D->D->Option D
 |x,.zF=>some (.bl (!Zt x))
 |_,_=>none
def yu:D->Bool
 |.zF=>true
 |.bl _=>true
 |.int _=>true
 |.str _=>true
 |_=>false
def um(f:D->D->Bool):List D->List D->Bool
 |x::xs,y::ys=>f x y&&um f xs ys
 |_,_=>true
def vB:Nat->D->D->Bool
 |0,_,_=>false
 |n+1,x,y=>match x,y with
  |.tup xs,.tup ys=>um (vB n) xs ys
  |.lst xs,.lst ys=>um (vB n) xs ys
  |x,y=>yu x&&yu y
def jf:D->D->Option Bool
 |.int _,.bl _=>none
 |.bl _,.int _=>none
 |x,y=>match vB 6 x y with
  |true=>some (yn x y)
  |false=>none
def zh(x y:D):Option D:=(jf x y).bind λk=>some (.bl k)
def uA(x y:D):Option D:=(jf x y).bind λk=>some (.bl (!k))
def vN:D->Option (Sum Int Str)
 |.int i=>some (.inl i)
 |.str x=>some (.inr x)
 |_=>none
def getK{α:Type}:List (Sum Int Str)->List α->Sum Int Str->Option α
 |k'::ks,v::vs,k=>if k'=k then some v else getK ks vs k
 |_,_,_=>none
def xR(ks:List (Sum Int Str))(k:Sum Int Str):Bool:=ks.any λj=>decide (j=k)
def xf(ks:List (Sum Int Str))(k:Sum Int Str):List (Sum Int Str):=if xR ks k=true then ks else ks++[k]
def ya{α:Type}(ks:List (Sum Int Str))(vs:List α)(k:Sum Int Str)(v:α):List α:=if xR ks k=true then List.zipWith (λk' x=>if k'=k then v else x) ks vs else vs++[v]
def JR(x:D):D->Option Bool
 |.lst ys=>match yu x&&ys.all yu with
  |true=>some (ys.any λy=>yn y x)
  |false=>none
 |.tup ys=>match yu x&&ys.all yu with
  |true=>some (ys.any λy=>yn y x)
  |false=>none
 |.str j=>match x with
  |.str i=>some (!(Builtin.Str.occurrences j i 0 j.length 1).isEmpty)
  |_=>none
 |.dic ks _=>(vN x).bind λk=>some (xR ks k)
 |_=>none
def vM(x y:D):Option D:=(JR x y).bind λk=>some (.bl k)
def Ze(x y:D):Option D:=(JR x y).bind λk=>some (.bl (!k))
def wb{α:Type}(xs:List α)(i:Int):Option α:=if 0<=i then xs[i.toNat]? else if -(xs.length:Int)<=i then xs[(i+xs.length).toNat]? else none
def zE:D->D->Option D
 |.lst xs,.int i=>wb xs i
 |.tup xs,.int i=>wb xs i
 |.str z,.int i=>(wb z.cps.toList i).bind λc=>some (.str ⟨#[c]⟩)
 |.dic ks vs,k=>(vN k).bind λk=>getK ks vs k
 |_,_=>none
def uT:List D->Option D
 | [.lst xs]=>some (.int xs.length)
 | [.tup xs]=>some (.int xs.length)
 | [.str z]=>some (.int z.length)
 |_=>none
def JS:List D->Option D
 | [.int i]=>some (.int i)
 | [.bl k]=>some (.int (if k then 1 else 0))
 |_=>none
inductive jY where
 |int|bool|str|list|tuple
def jY.nm:jY->String
 |.int => "int"
 |.bool => "bool"
 |.str => "str"
 |.list => "list"
 |.tuple => "tuple"
def Ul:jY->D->Option Bool
 |_,.dic _ _=>none
 |_,.exc _=>none
 |_,.obj _ _ _=>none
 |.int,.int _=>some true
 |.int,.bl _=>some true
 |.int,_=>some false
 |.bool,.bl _=>some true
 |.bool,_=>some false
 |.str,.str _=>some true
 |.str,_=>some false
 |.list,.lst _=>some true
 |.list,_=>some false
 |.tuple,.tup _=>some true
 |.tuple,_=>some false
def gx(T:jY)(a:FE):FE:=λτ=>(a τ).bind λd=>(Ul T d).bind λb=>some (.bl b)
def uC(a:FE):FA:=λσ=>(a σ).bind λd=>match d with
 |.lst xs=>some xs
 |.tup xs=>some xs
 |.str z=>some (z.cps.toList.map λc=>.str ⟨#[c]⟩)
 |_=>none
def vp(lo hi:FE):FA:=λσ=>(lo σ).bind λx=>(hi σ).bind λy=>match x,y with
 |.int i,.int j=>if i.natAbs<=yR/\j.natAbs<=yR/\(j-i).toNat<=yR then some ((List.range (j-i).toNat).map λk:Nat=>.int (i+k))else none
 |_,_=>none
def yh(i:Nat):FG:=λd σ=>some (σ.set i (some (false,d)))
def qF(i j:Nat):FG:=λd σ=>match d with
 |.tup [x,y]=>some ((σ.set i (some (false,x))).set j (some (false,y)))
 |_=>none
def wf:FS:=λσ=>some (.nx σ)
def zx(a b:FS):FS:=λσ=>(a σ).bind λf=>match f with
 |.nx σ'=>b σ'
 |f=>some f
def xW(i:Nat)(e:FE):FS:=λσ=>(e σ).bind λd=>some (.nx (σ.set i (some (false,d))))
def jv(i:Nat)(e:FE):FS:=λσ=>(e σ).bind λd=>some (.nx (σ.set i (some (true,d))))
def yX(e:FE):FS:=λσ=>(e σ).bind λd=>some (.rt false d)
def qN(e:FE):FS:=λσ=>(e σ).bind λd=>some (.rt true d)
def pY(i:Nat):FS:=λσ=>match σ[i]? with
 |some (some (true,d))=>some (.rt true d)
 |_=>none
def xr(c:FT)(a b:FS):FS:=λσ=>(c σ).bind λk=>match k with
 |true=>a σ
 |false=>b σ
def pR(g:FG)(b:FS):List D->zi->Option Fl
 | [],σ=>some (.nx σ)
 |d::r,σ=>(g d σ).bind λσ1=>(b σ1).bind λf=>match f with
  |.nx σ2=>pR g b r σ2
  |.ct σ2=>pR g b r σ2
  |.bk σ2=>some (.nx σ2)
  |.rt o d=>some (.rt o d)
def ju(it:FA)(g:FG)(b:FS):FS:=λσ=>(it σ).bind λds=>pR g b ds σ
def TF(i:Nat):FS:=λσ=>match σ[i]? with
 |some (some (_,d))=>some (.nx (σ.set i (some (false,d))))
 |_=>none
def cJ(i:Nat)(F:D->Option D):FS:=λσ=>match σ[i]? with
 |some (some (true,d))=>(F d).bind λd'=>some (.nx (σ.set i (some (true,d'))))
 |_=>none
def TH(i:Nat)(F:D->D->Option D)(e:FE):FS:=λσ=>match σ[i]? with
 |some (some (true,d))=>(e σ).bind λx=>(F d x).bind λd'=>some (.nx (σ.set i (some (true,d'))))
 |_=>none
def JP:D->D->Option D
 |.lst xs,y=>if xs.length<yR then some (.lst (xs++[y]))else none
 |_,_=>none
def ub(i:Nat)(k v:FE):FS:=λσ=>(v σ).bind λy=>match σ[i]? with
 |some (some (true,.dic ks ds))=>(k σ).bind λx=>(vN x).bind λx=>if ks.length<yR then some (.nx (σ.set i (some (true,.dic (xf ks x) (ya ks ds x y)))))else none
 |_=>none
def XD(ks:List (Sum Int Str))(x:D):Option D:=(vN x).bind λk=>some (.bl (xR ks k))
def Bg(d k e:FE):FE:=λσ=>(d σ).bind λx=>match x with
 |.dic ks ds=>(k σ).bind λy=>(e σ).bind λz=>(vN y).bind λy=>some ((getK ks ds y).getD z)
 |_=>none
def qh(F F':D->D->Option D)(a b c:FE):FE:=λτ=>(a τ).bind λx=>(b τ).bind λy=>(F x y).bind λk=>(pM k).bind λk=>match k with
 |true=>(c τ).bind λz=>F' y z
 |false=>some (.bl false)
def xq(g:FG)(c:FT)(e:FE)(σ:zi):List D->Option (List D)
 | []=>some []
 |d::r=>(g d σ).bind λσ1=>(c σ1).bind λk=>match k with
  |true=>(e σ1).bind λx=>(xq g c e σ r).bind λxs=>some (x::xs)
  |false=>xq g c e σ r
def wK:FT:=λ_=>some true
def wx(n:Nat)(it:FA)(g:FG)(c:FT)(e:FE):FE:=λσ=>(it σ).bind λds=>(xq g c e (σ++List.replicate n none) ds).bind λxs=>some (.lst xs)
def zj(n:Nat)(b:FS)(ds:List D):Option (Bool×D):=(b (ds.map (λd=>some (false,d))++List.replicate (n-ds.length) none)).bind λf=>match f with
 |.rt o d=>some (o,d)
 |.nx _=>some (false,.zF)
 |_=>none
def zp(F:List D->Option (Bool×D))(a:FA):FE:=λσ=>(a σ).bind λds=>(F ds).bind λr=>some r.2
def vo(F:List D->Option (Bool×D))(a:FA):FE:=λσ=>(a σ).bind λds=>(F ds).bind λr=>match r with
 |(true,d)=>some d
 |_=>none
open PySem.Spec PyProof.Rows L2
abbrev St:=L2.St
def Gv(_:W.Frag)(H:Hp)(a:Addr)(kvs:List (zN×V)):Prop:=Rd H a (.dK kvs)
mutual
def zU(K:W.Frag)(H:Hp):D->V->Prop
 |.zF,v=>v=.zF
 |.bl b,v=>v=.bl b
 |.int i,v=>v=.int i
 |.str x,v=>v=.str x/\x.length<=sizeLine
 |.tup ds,v=>∃a vs,v=.ref a/\ye K H a vs/\Reps K H ds vs/\ds.length<=sizeLine
 |.lst ds,v=>∃a vs,v=.ref a/\yI K H a vs/\Reps K H ds vs/\ds.length<=sizeLine
 |.dic ks ds,v=>∃a vs,v=.ref a/\Gv K H a (ks.zip vs)/\ks.length=vs.length/\Reps K H ds vs/\ds.length<=sizeLine
 |.exc x,v=>∃a C,v=.ref a/\W.nsIn K mainGlobals x=some (some (.ref C))/\H a=some (.ext (Gn a C))
 |.obj x fs ds,v=>∃a C dx vs,v=.ref a/\W.nsIn K mainGlobals x=some (some (.ref C))/\H a=some (.ins C dx (fs.zip vs))/\fs.length=vs.length/\Reps K H ds vs
def Reps(K:W.Frag)(H:Hp):List D->List V->Prop
 | [],vs=>vs=[]
 |d::ds,vs=>∃v r,vs=v::r/\zU K H d v/\Reps K H ds r
end
section
variable{K:W.Frag}{G H H':Hp}
theorem Rd.mono{a:Addr}{u:HO}(s:zg H H')(h:Rd H a u):Rd H' a u:=by
 rcases h with h|⟨o,h⟩
 ·exact .inl (s _ _ h)
 ·exact .inr ⟨o,s _ _ h⟩
theorem vf{a:Addr}{xs:List V}(s:zg H H')(h:ye K H a xs):ye K H' a xs:=by
 rcases h with h|h
 ·exact .inl (Rd.mono s h)
 ·exact .inr h
theorem wl{a:Addr}{xs:List V}(s:zg H H')(h:yI K H a xs):yI K H' a xs:=by
 rcases h with h|h
 ·exact .inl (Rd.mono s h)
 ·exact .inr h
theorem Reps.imp:∀{ds:List D}{vs:List V},(∀d∈ds,∀v,zU K H d v->zU K H' d v)->Reps K H ds vs->Reps K H' ds vs
 | [],_,_,h=>h
 |d::ds,vs,f,h=>by
  obtain⟨v,r,rfl,hv,hr⟩:=h;exact⟨v,r,rfl,f d yr v hv,Reps.imp (λd' m=>f d' (xP _ m)) hr⟩
theorem zU.mono(s:zg H H'):∀{d:D}{v:V},zU K H d v->zU K H' d v:=λ{d}=>by
 refine D.ind (P:=λd=>∀v,zU K H d v->zU K H' d v) (λv h=>h) (λb v h=>h) (λi v h=>h) (λx v h=>h) ?_ ?_ ?_ ?_ ?_ d _
 ·rintro xs ih v ⟨a,vs,e,q,r,l⟩;exact⟨a,vs,e,vf s q,Reps.imp ih r,l⟩
 ·rintro xs ih v ⟨a,vs,e,q,r,l⟩;exact⟨a,vs,e,wl s q,Reps.imp ih r,l⟩
 ·rintro ks xs ih v ⟨a,vs,e,q,z,r,l⟩;exact⟨a,vs,e,Rd.mono s q,z,Reps.imp ih r,l⟩
 ·rintro x v ⟨a,C,e,n,h⟩;exact⟨a,C,e,n,s _ _ h⟩
 ·rintro x fs xs ih v ⟨a,C,dx,vs,e,n,h,l,r⟩;exact⟨a,C,dx,vs,e,n,s _ _ h,l,Reps.imp ih r⟩
theorem Reps.mono(s:zg H H'){ds:List D}{vs:List V}(h:Reps K H ds vs):Reps K H' ds vs:=Reps.imp (λ_ _ _=>zU.mono s) h
theorem Reps.length:∀{ds:List D}{vs:List V},Reps K H ds vs->vs.length=ds.length
 | [],_,h=>by cases(show _=[]from h); rfl
 |d::ds,_,h=>by
  obtain⟨v,r,rfl,_,hr⟩:=h;rw[yO,yO,Reps.length hr]
theorem Reps.get:∀{ds:List D}{vs:List V}{i:Nat}{d:D},Reps K H ds vs->ds[i]?=some d->∃v,vs[i]?=some v/\zU K H d v
 | [],_,_,_,_,e=>by cases e
 |d::ds,_,0,_,h,e=>by
  obtain⟨v,r,rfl,hv,hr⟩:=h;cases e;exact⟨v,rfl,hv⟩
 |d::ds,_,i+1,d',h,e=>by
  obtain⟨v,r,rfl,hv,hr⟩:=h;exact Reps.get (i:=i) hr (by simpa using e)
theorem Reps.at{ds:List D}{vs:List V}{i:Nat}{v:V}(h:Reps K H ds vs)(e:vs[i]?=some v):∃d,ds[i]?=some d/\zU K H d v:=by
 have l:=h.length;have hi:i<ds.length:=by rw[<-l]; exact(yD.mp e).1
 obtain⟨v',e',r⟩:=h.get (xD hi);rw[e]at e';cases e';exact⟨_,xD hi,r⟩
theorem Reps.append:∀{ds es:List D}{vs us:List V},Reps K H ds vs->Reps K H es us->Reps K H (ds++es) (vs++us)
 | [],_,_,_,h,g=>by cases(show _=[]from h); exact g
 |d::ds,_,_,_,h,g=>by
  obtain⟨v,r,rfl,hv,hr⟩:=h;exact⟨v,_,rfl,hv,Reps.append hr g⟩
theorem Reps.one{d:D}{v:V}(h:zU K H d v):Reps K H [d] [v]:=⟨v,[],rfl,h,rfl⟩
theorem Reps.take:∀{ds:List D}{vs:List V}(n:Nat),Reps K H ds vs->Reps K H (ds.take n) (vs.take n)
 |_,_,0,_=>by rw[Tw,Tw]; rfl
 | [],_,n+1,h=>by cases(show _=[]from h); rfl
 |d::ds,_,n+1,h=>by
  obtain⟨v,r,rfl,hv,hr⟩:=h;exact⟨v,_,rfl,hv,Reps.take n hr⟩
theorem Reps.drop:∀{ds:List D}{vs:List V}(n:Nat),Reps K H ds vs->Reps K H (ds.drop n) (vs.drop n)
 |_,_,0,h=>h
 | [],_,n+1,h=>by cases(show _=[]from h); rfl
 |d::ds,_,n+1,h=>by
  obtain⟨v,r,rfl,hv,hr⟩:=h;exact Reps.drop n hr
theorem Reps.ints:∀{ns:List Int},Reps K H (ns.map D.int) (ns.map V.int)
 | []=>rfl
 |n::ns=>⟨_,_,rfl,rfl,Reps.ints⟩
end
structure zP(G H G' H':Hp):Prop where
 g:zg G G'
 h:zg H H'
 gh:zg G' H'
 new:∀p,G' p≠none->G p≠none\/H p=none
section
variable{G H G' H' G0 H0 G1 H1 G2 H2:Hp}{p:Addr}{o:HO}
theorem zP.refl(s:zg G H):zP G H G H:=⟨zg.refl _,zg.refl _,s,λ_ h=>.inl h⟩
theorem zP.trans(a:zP G H G1 H1)(b:zP G1 H1 G2 H2):zP G H G2 H2:=⟨a.g.trans b.g,a.h.trans b.h,b.gh,λp h=>by
 rcases b.new p h with z|z
 ·exact a.new p z
 ·exact .inr (a.h.free z)⟩
theorem zP.rebase(a:zP G0 H0 G1 H1)(b:zP G1 H0 G2 H2):zP G0 H0 G2 H2:=⟨a.g.trans b.g,b.h,b.gh,λp h=>by
 rcases b.new p h with z|z
 ·exact a.new p z
 ·exact .inr z⟩
theorem zP.kz(a:zP G0 H0 G1 H1):zP G1 H0 G1 H1:=⟨zg.refl _,a.h,a.gh,λ_ h=>.inl h⟩
theorem Ev{H:Hp}{p q:Addr}{o:HO}(h:zS H p o q≠none):q=p\/H q≠none:=by
 by_cases e:q=p
 ·exact .inl e
 ·rw[yK e]at h;exact .inr h
theorem cK(s:zg G H):zg (zS G p o) (zS H p o):=λb u e=>by
 by_cases hb:b=p
 ·subst hb;rw[yT]at e ⊢;exact e
 ·rw[yK hb]at e ⊢;exact s _ _ e
theorem zP.lay(s:zg G H)(h:H p=none):zP G H (zS G p o) (zS H p o):=⟨wz (s.free h) o,wz h o,cK s,λq z=>by
 rcases Ev z with e|e
 ·exact .inr (e▸h)
 ·exact .inl e⟩
theorem zP.t8(s:zg G H)(h:H p=none):zP G H G (zS H p o):=⟨zg.refl _,wz h o,s.trans (wz h o),λ_ z=>.inl z⟩
theorem zP.wC(a:zP G H G1 H1)(h:H p=none)(g:G1 p=none)(e:H1 p=some o):zP G H (zS G1 p o) H1:=⟨a.g.trans (wz g o),a.h,λb u q=>by
 by_cases hb:b=p
 ·subst hb;rw[yT]at q;cases q;exact e
 ·rw[yK hb]at q;exact a.gh _ _ q,λq z=>by
 rcases Ev z with w|w
 ·exact .inr (w▸h)
 ·exact a.new q w⟩
end
def wP(K:W.Frag)(G H:Hp)(d:D)(p:Addr):Prop:=match d with
 |.lst ds=>∃vs,H p=some (.lst vs)/\Reps K G ds vs/\ds.length<=sizeLine
 |.dic ks ds=>∃vs,H p=some (.dK (ks.zip vs))/\ks.length=vs.length/\Reps K G ds vs/\ds.length<=sizeLine
 |_=>False
section
variable{K:W.Frag}{G H G' H':Hp}{d:D}{p:Addr}
theorem wP.some(h:wP K G H d p):H p≠none:=by
 cases d with
 |lst ds=>obtain⟨vs,e,_⟩:=h; rw[e]; exact λz=>nomatch z
 |dic ks ds=>obtain⟨vs,e,_⟩:=h; rw[e]; exact λz=>nomatch z
 |_=>exact h.elim
theorem wP.mono(g:zg G G')(h:zg H H')(o:wP K G H d p):wP K G' H' d p:=by
 cases d with
 |lst ds=>obtain⟨vs,e,r,l⟩:=o; exact⟨vs,h _ _ e,r.mono g,l⟩
 |dic ks ds=>obtain⟨vs,e,z,r,l⟩:=o; exact⟨vs,h _ _ e,z,r.mono g,l⟩
 |_=>exact o.elim
theorem wP.rep(s:zg G H)(o:wP K G H d p):zU K H d (.ref p):=by
 cases d with
 |lst ds=>obtain⟨vs,e,r,l⟩:=o; exact⟨p,vs,rfl,yI.of e,r.mono s,l⟩
 |dic ks ds=>obtain⟨vs,e,z,r,l⟩:=o; exact⟨p,vs,rfl,.inl e,z,r.mono s,l⟩
 |_=>exact o.elim
theorem wP.wC(o:wP K G H d p)(g:G p=none):∃u,H p=Option.some u/\zU K (zS G p u) d (.ref p):=by
 cases d with
 |lst ds=>obtain⟨vs,e,r,l⟩:=o; exact⟨_,e,p,vs,rfl,yI.of yT,r.mono (wz g _),l⟩
 |dic ks ds=>obtain⟨vs,e,z,r,l⟩:=o; exact⟨_,e,p,vs,rfl,.inl yT,z,r.mono (wz g _),l⟩
 |_=>exact o.elim
end
structure zu(K:W.Frag)(n:Nat)(G0 H0 G H:Hp)(τ:zi)(σ:St):Prop where
 ext:zP G0 H0 G H
 l1:σ.length=n
 l2:τ.length=n
 fr:∀(i:Nat)(d:D),τ[i]?=some (some (false,d))->∃v,σ[i]?=some (some v)/\zU K G d v
 ow:∀(i:Nat)(d:D),τ[i]?=some (some (true,d))->∃p,σ[i]?=some (some (V.ref p))/\G p=none/\H0 p=none/\wP K G H d p
 ap:∀(i j:Nat)(d e:D)(p:Addr),i≠j->τ[i]?=some (some (true,d))->τ[j]?=some (some (true,e))->σ[i]?=some (some (V.ref p))->σ[j]?=some (some (V.ref p))->False
section
variable{K:W.Frag}{n:Nat}{G0 H0 G H G' H':Hp}{τ:zi}{σ:St}
theorem zu.go(E:zu K n G0 H0 G H τ σ)(x:zP G H G' H'):zu K n G0 H0 G' H' τ σ:=⟨E.ext.trans x,E.l1,E.l2,λi d h=>by
 obtain⟨v,e,r⟩:=E.fr i d h;exact⟨v,e,r.mono x.g⟩,λi d h=>by
 obtain⟨p,e,g,z,o⟩:=E.ow i d h;refine⟨p,e,?_,z,o.mono x.g x.h⟩;cases q:G' p with
 |none=>rfl
 |some u=>
  rcases x.new p (by rw[q]; exact λz=>nomatch z)with w|w
  ·exact absurd g w
  ·exact absurd w o.some,E.ap⟩
theorem zu.kz(E:zu K n G0 H0 G H τ σ):zu K n G H0 G H τ σ:=⟨E.ext.kz,E.l1,E.l2,E.fr,E.ow,E.ap⟩
theorem zu.near{Ga Ha:Hp}(a:zP G0 H0 Ga Ha)(E:zu K n Ga H0 G H τ σ):zu K n G0 H0 G H τ σ:=⟨a.rebase E.ext,E.l1,E.l2,E.fr,E.ow,E.ap⟩
theorem zu.lt{i:Nat}{s:Option Sl}(E:zu K n G0 H0 G H τ σ)(h:τ[i]?=some s):i<n:=by
 rw[<-E.l2];exact(yD.mp h).1
theorem v6{α:Type}{xs:List α}{i j:Nat}{x y:α}(h:(xs.set i x)[j]?=some y):(j=i/\y=x)\/(j≠i/\xs[j]?=some y):=by
 rw[Ll]at h;by_cases e:i=j
 ·subst e;rw[zI rfl]at h
  split at h
  ·cases h; exact .inl ⟨rfl,rfl⟩
  ·cases h
 ·rw[zK e]at h;exact .inr ⟨λz=>e z.symm,h⟩
theorem Zm{α:Type}{xs:List α}{i:Nat}{x:α}(h:i<xs.length):(xs.set i x)[i]?=some x:=by rw[Ll,zI rfl,zI h]
theorem uv{α:Type}{xs:List α}{i j:Nat}{x:α}(h:j≠i):(xs.set i x)[j]?=xs[j]?:=by rw[Ll,zK (λz=>h z.symm)]
theorem zu.set{i:Nat}{d:D}{v:V}(E:zu K n G0 H0 G H τ σ)(hi:i<n)(r:zU K G d v):zu K n G0 H0 G H (τ.set i (some (false,d))) (σ.set i (some v)):=⟨E.ext,by rw[vV]; exact E.l1,by rw[vV]; exact E.l2,λj e h=>by
 rcases v6 h with⟨rfl,z⟩|⟨ne,z⟩
 ·cases z;exact⟨v,Zm (by rw[E.l1]; exact hi),r⟩
 ·rw[uv ne];exact E.fr j e z,λj e h=>by
 rcases v6 h with⟨rfl,z⟩|⟨ne,z⟩
 ·cases z
 ·rw[uv ne];exact E.ow j e z,λj k e f p hne h1 h2=>by
 rcases v6 h1 with⟨rfl,z⟩|⟨ne,z⟩
 ·cases z
 ·rcases v6 h2 with⟨rfl,z'⟩|⟨ne',z'⟩
  ·cases z'
  ·rw[uv ne,uv ne'];exact E.ap j k e f p hne z z'⟩
theorem zu.Gj{i:Nat}{d:D}{p:Addr}(E:zu K n G0 H0 G H τ σ)(hi:i<n)(hg:G p=none)(h0:H0 p=none)(o:wP K G H d p)(hn:∀(j:Nat)(e:D),j≠i->τ[j]?=some (some (true,e))->σ[j]?=some (some (V.ref p))->False) :
  zu K n G0 H0 G H (τ.set i (some (true,d))) (σ.set i (some (.ref p))):=⟨E.ext,by rw[vV]; exact E.l1,by rw[vV]; exact E.l2,λj e h=>by
 rcases v6 h with⟨rfl,z⟩|⟨ne,z⟩
 ·cases z
 ·rw[uv ne];exact E.fr j e z,λj e h=>by
 rcases v6 h with⟨rfl,z⟩|⟨ne,z⟩
 ·cases z;exact⟨p,Zm (by rw[E.l1]; exact hi),hg,h0,o⟩
 ·rw[uv ne];exact E.ow j e z,λj k e f q hne h1 h2 h3 h4=>by
 rcases v6 h1 with⟨rfl,z⟩|⟨ne,z⟩
 ·rcases v6 h2 with⟨rfl,z'⟩|⟨ne',z'⟩
  ·exact hne rfl
  ·rw[Zm (by rw[E.l1]; exact hi)]at h3;rw[uv ne']at h4;cases h3;exact hn k f ne' z' h4
 ·rcases v6 h2 with⟨rfl,z'⟩|⟨ne',z'⟩
  ·rw[Zm (by rw[E.l1]; exact hi)]at h4;rw[uv ne]at h3;cases h4;exact hn j e ne z h3
  ·rw[uv ne]at h3;rw[uv ne']at h4;exact E.ap j k e f q hne z z' h3 h4⟩
theorem zu.Gg{i:Nat}{p:Addr}(E:zu K n G0 H0 G H τ σ)(hp:H p=none):∀(j:Nat)(e:D),j≠i->τ[j]?=some (some (true,e))->σ[j]?=some (some (V.ref p))->False:=λj e _ h1 h2=>by
 obtain⟨q,e1,_,_,o⟩:=E.ow j e h1;rw[h2]at e1;cases e1;exact o.some hp
theorem zu.freeze{i:Nat}{b:Bool}{d:D}(E:zu K n G0 H0 G H τ σ)(hi:τ[i]?=some (some (b,d))):∃G',zu K n G0 H0 G' H (τ.set i (some (false,d))) σ/\zg G G':=by
 have hin:=E.lt hi;cases b with
 |false=>
  refine⟨G,?_,zg.refl _⟩
  have e:τ.set i (some (false,d))=τ:=by
   apply List.ext_getElem?;intro j;by_cases hj:j=i
   ·subst hj; rw[Zm (by rw[E.l2]; exact hin),hi]
   ·rw[uv hj]
  rw[e];exact E
 |true=>
  obtain⟨p,e,g,z,o⟩:=E.ow i d hi;obtain⟨u,hu,r⟩:=o.wC g;have x:zP G0 H0 (zS G p u) H:=E.ext.wC z g hu;refine⟨zS G p u,⟨x,E.l1,by rw[vV]; exact E.l2,λj d' h=>?_,λj d' h=>?_,λj k e1 f q hne h1 h2=>?_⟩,wz g _⟩
  ·rcases v6 h with⟨rfl,w⟩|⟨ne,w⟩
   ·cases w;exact⟨_,e,r⟩
   ·obtain⟨v,e',r'⟩:=E.fr j d' w;exact⟨v,e',r'.mono (wz g _)⟩
  ·rcases v6 h with⟨rfl,w⟩|⟨ne,w⟩
   ·cases w
   ·obtain⟨q,e',g',z',o'⟩:=E.ow j d' w;refine⟨q,e',?_,z',o'.mono (wz g _) (zg.refl _)⟩;rw[yK (λc=>?_)]
    ·exact g'
    ·subst c;exact E.ap i j d d' q (λc=>ne c.symm) hi w e e'
  ·rcases v6 h1 with⟨rfl,w⟩|⟨ne,w⟩
   ·cases w
   ·rcases v6 h2 with⟨rfl,w'⟩|⟨ne',w'⟩
    ·cases w'
    ·exact E.ap j k e1 f q hne w w'
end
section
variable(X:Cx)
structure SE(e:Expr)(f:FE):Prop where
 h:∃t,PE X e t/\∀{G0 H0 G H:Hp}{τ:zi}{σ:St}{d:D}{Q:VK},zu X.K X.N.length G0 H0 G H τ σ->f τ=some d->(∀v G' H',zP G H G' H'->zU X.K G' d v->Q v H')->t σ H Q
structure SB(e:Expr)(f:FE):Prop where
 h:∃t,PE X e t/\∀{G0 H0 G H:Hp}{τ:zi}{σ:St}{d:D}{Q:VK},zu X.K X.N.length G0 H0 G H τ σ->f τ=some d->(∀v G' H',zP G H G' H'->zU X.K H' d v->Q v H')->t σ H Q
structure SF(e:Expr)(f:FE):Prop where
 h:∃t,PE X e t/\∀{G0 H0 G H:Hp}{τ:zi}{σ:St}{d:D}{Q:VK},zu X.K X.N.length G0 H0 G H τ σ->f τ=some d->(∀p G' H',zP G H G' H'->H p=none->G' p=none->wP X.K G' H' d p->Q (.ref p) H')->t σ H Q
structure ST(e:Expr)(f:FT):Prop where
 h:∃t,PT X e t/\∀{G0 H0 G H:Hp}{τ:zi}{σ:St}{d:Bool}{Q:Bool->Hp->Prop},zu X.K X.N.length G0 H0 G H τ σ->f τ=some d->(∀G' H',zP G H G' H'->Q d H')->t σ H Q
structure SW(e:Expr)(f:FT):Prop where
 h:∃t,PW X e t/\∀{G0 H0 G H:Hp}{τ:zi}{σ:St}{d:Bool}{Q:Bool->Hp->Prop},zu X.K X.N.length G0 H0 G H τ σ->f τ=some d->(∀G' H',zP G H G' H'->Q d H')->t σ H Q
structure SA(es:List Expr)(f:FA):Prop where
 h:∃t,PA X es t/\∀{G0 H0 G H:Hp}{τ:zi}{σ:St}{ds:List D}{Q:List V->Hp->Prop},zu X.K X.N.length G0 H0 G H τ σ->f τ=some ds->(∀vs G' H',zP G H G' H'->Reps X.K G' ds vs->Q vs H')->t σ H Q
structure X1(es:List Expr)(f:FA):Prop where
 h:∃t,PA X es t/\∀{G0 H0 G H:Hp}{τ:zi}{σ:St}{ds:List D}{Q:List V->Hp->Prop},zu X.K X.N.length G0 H0 G H τ σ->f τ=some ds->(∀vs G' H',zP G H G' H'->Reps X.K H' ds vs->Q vs H')->t σ H Q
end
def uN(K:W.Frag)(n:Nat)(G0 H0:Hp)(E:vj):Fl->Prop
 |.nx τ=>∀σ G H,zu K n G0 H0 G H τ σ->E.nx σ H
 |.bk τ=>∀σ G H,zu K n G0 H0 G H τ σ->E.bk σ H
 |.ct τ=>∀σ G H,zu K n G0 H0 G H τ σ->E.ct σ H
 |.rt false d=>∀v G H,zP G0 H0 G H->zU K G d v->E.rt v H
 |.rt true d=>∀p G H,zP G0 H0 G H->H0 p=none->G p=none->wP K G H d p->E.rt (.ref p) H
section
variable(X:Cx)
structure SS(st:Stmt)(f:FS):Prop where
 h:∃t,PS X st t/\∀{G0 H0 G H:Hp}{τ:zi}{σ:St}{fl:Fl}{E:vj},zu X.K X.N.length G0 H0 G H τ σ->f τ=some fl->uN X.K X.N.length G0 H0 E fl->t E σ H
structure tM(st:List Stmt)(f:FS):Prop where
 h:∃t,vW X st t/\∀{G0 H0 G H:Hp}{τ:zi}{σ:St}{fl:Fl}{E:vj},zu X.K X.N.length G0 H0 G H τ σ->f τ=some fl->uN X.K X.N.length G0 H0 E fl->t E σ H
end
structure jZ(K:W.Frag)(J:It)(G:Hp)(ds:List D):Prop where
 go:∀i G2 H,zg G G2->zg G2 H->i<ds.length->J.go i H
 vz:∀i G2 H x H',zg G G2->zg G2 H->i<ds.length->J.vz i H x H'->∃G3 d,zP G2 H G3 H'/\ds[i]?=some d/\zU K G3 d x
 stop:∀i G2 H,zg G G2->zg G2 H->ds.length<=i->J.stop i H
structure SI(X:Cx)(tg iter:Expr)(f:FA):Prop where
 h:∃wi,PI X tg iter wi/\∀{G0 H0 G H:Hp}{τ:zi}{σ:St}{ds:List D}{R:It->Hp->Prop},zu X.K X.N.length G0 H0 G H τ σ->f τ=some ds->(∀J G' H',zP G H G' H'->ds.length<=sizeLine->jZ X.K J G' ds->R J H')->wi σ H R
def zY(K:W.Frag)(F:List D->Option (Bool×D)):Sp:=λvs H Q _=>∃G ds o d,zg G H/\Reps K G ds vs/\F ds=some (o,d)/\
 match o with
 |false=>∀v G' H',zP G H G' H'->zU K G' d v->Q v H'
 |true=>∀p G' H',zP G H G' H'->H p=none->G' p=none->wP K G' H' d p->Q (.ref p) H'
theorem zC{α β:Type}{o:Option α}{f:α->Option β}{b:β}(h:o.bind f=some b):∃a,o=some a/\f a=some b:=by
 cases o with
 |none=>cases h
 |some a=>exact⟨a,rfl,h⟩
theorem Bh{i:Nat}{τ:zi}{d:D}(h:z6 i τ=some d):τ[i]?=some (some (false,d)):=by
 unfold z6 at h
 split at h
 ·rename_i e;cases h;exact e
 ·cases h
theorem KO{i:Nat}{τ:zi}{d:D}(h:XB i τ=some d):∃b,τ[i]?=some (some (b,d)):=by
 unfold XB at h
 split at h
 ·rename_i b d' e;cases h;exact⟨_,e⟩
 ·cases h
section
variable{X:Cx}{x:Str}{p pos apos cpos p2:Pos}{e a b c o:Expr}{es zn:List Expr}{f fa fb fc:FE}{ft fu:FT}{fs:FA}{F:D->D->Option D}{r:R2}
theorem SE.sb(h:SE X e f):SB X e f:=⟨let ⟨t,p,k⟩:=h.h; ⟨t,p,λE hf q=>k E hf λv G' H' x r=>q v G' H' x (r.mono x.gh)⟩⟩
theorem SF.se(h:SF X e f):SE X e f:=⟨let ⟨t,p,k⟩:=h.h; ⟨t,p,λE hf q=>k E hf λp G' H' x hp gp o=>by
 obtain⟨u,hu,r⟩:=o.wC gp;exact q _ _ _ (x.wC hp gp hu) r⟩⟩
theorem zQ(h:SE X e f):SB X e f:=h.sb
theorem yj(h:SF X e f):SE X e f:=h.se
theorem z7(i:Nat){x:Str}{pos:Pos}(hN:X.N[i]?=some x:=by rfl)(hv:pL X.env.scope x:=by first|exact Or.inl rfl|exact Or.inr (Or.inl rfl)|exact Or.inr (Or.inr rfl))(hd:(x==("__debug__" : Str))=false:=by decide)
  (hcd:(x==("__classdict__" : Str))=false:=by decide):SE X (.Name x pos) (z6 i):=⟨⟨_,Y9 hN hv hd hcd,λE hf q=>by
 obtain⟨v,e,r⟩:=E.fr _ _ (Bh hf);exact⟨v,e,q v _ _ (zP.refl E.ext.gh) r⟩⟩⟩
theorem cL(i:Nat){x:Str}{pos:Pos}(hN:X.N[i]?=some x:=by rfl)(hv:pL X.env.scope x:=by first|exact Or.inl rfl|exact Or.inr (Or.inl rfl)|exact Or.inr (Or.inr rfl))(hd:(x==("__debug__" : Str))=false:=by decide)
  (hcd:(x==("__classdict__" : Str))=false:=by decide):SB X (.Name x pos) (XB i):=⟨⟨_,Y9 hN hv hd hcd,λE hf q=>by
 obtain⟨b,hb⟩:=KO hf;cases b with
 |false=>
  obtain⟨v,e,r⟩:=E.fr _ _ hb;exact⟨v,e,q v _ _ (zP.refl E.ext.gh) (r.mono E.ext.gh)⟩
 |true=>
  obtain⟨p,e,_,_,o⟩:=E.ow _ _ hb;exact⟨_,e,q _ _ _ (zP.refl E.ext.gh) (o.rep E.ext.gh)⟩⟩⟩
theorem We{v:V}{d:D}(h:PE X e (tC v))(r:∀H,zU X.K H d v):SE X e (eC d):=⟨⟨_,h,λE hf q=>by
 cases hf;exact q v _ _ (zP.refl E.ext.gh) (r _)⟩⟩
theorem zG{i k pos}:SE X (.Constant (.int i) k pos) (eC (.int i)):=We C8 λ_=>rfl
theorem uH{i k pos}:SE X (.Constant (.bool i) k pos) (eC (.bl i)):=We AM λ_=>rfl
theorem YK{k pos}:SE X (.Constant .none k pos) (eC .zF):=We Ag λ_=>rfl
theorem zr{x k pos}(h:x.length<=1000:=by decide):SE X (.Constant (.str x) k pos) (eC (.str x)):=We Xa λ_=>⟨rfl,vR h⟩
theorem vQ{v:V}{d:D}(h:xZ X.mg x v)(r:∀H,zU X.K H d v)(hg:Gl X x)(hd:(x==("__debug__" : Str))=false:=by decide):SE X (.Name x pos) (eC d):=We (O9 h hg hd) r
def vL(K:W.Frag)(r:R2)(F:D->D->Option D):Prop:=∀G H x y u v d (Q:VK),zg G H->zU K G x u->zU K G y v->F x y=some d->(∀w G' H',zP G H G' H'->zU K G' d w->Q w H')->r u v H Q
def tL(K:W.Frag)(r:R2)(F:D->D->Option D):Prop:=∀H x y u v d (Q:VK),zU K H x u->zU K H y v->F x y=some d->∃k,d=.bl k/\(Q (.bl k) H->r u v H Q)
theorem zb{op:Operator}(ho:yE X (binaryOp op) r)(hF:vL X.K r F)(ha:SE X a fa)(hb:SE X b fb):SE X (.BinOp a op b pos) (e2 F fa fb):=by
 obtain⟨ta,pa,ka⟩:=ha.h;obtain⟨tb,pb,kb⟩:=hb.h;refine⟨⟨_,CB ho pa pb,λE hf q=>?_⟩⟩;obtain⟨x,hx,hf⟩:=zC hf;obtain⟨y,hy,hf⟩:=zC hf;refine ka E hx λv G1 H1 x1 r1=>?_
 refine kb (E.go x1) hy λu G2 H2 x2 r2=>?_
 exact hF G2 H2 x y v u _ _ x2.gh (r1.mono x2.g) r2 hf λw G' H' x3 r3=>q w G' H' (x1.trans (x2.trans x3)) r3
theorem zX(hr:ul X r)(hF:vL X.K r F)(ha:SE X a fa)(hb:SE X b fb)(hs:kN b=true:=by rfl):SE X (.Subscript a b pos) (e2 F fa fb):=by
 obtain⟨ta,pa,ka⟩:=ha.h;obtain⟨tb,pb,kb⟩:=hb.h;refine⟨⟨_,OA hr pa pb (OD hs),λE hf q=>?_⟩⟩;obtain⟨x,hx,hf⟩:=zC hf;obtain⟨y,hy,hf⟩:=zC hf;refine ka E hx λv G1 H1 x1 r1=>?_
 refine kb (E.go x1) hy λu G2 H2 x2 r2=>?_
 exact hF G2 H2 x y v u _ _ x2.gh (r1.mono x2.g) r2 hf λw G' H' x3 r3=>q w G' H' (x1.trans (x2.trans x3)) r3
theorem w_{op:CmpOp}(ho:yE X (compareOp op) r)(hF:tL X.K r F)(ha:SB X a fa)(hb:SB X b fb)(hm:behindInMarks op b=false):SE X (.Compare a [op] [b] pos) (e2 F fa fb):=by
 obtain⟨ta,pa,ka⟩:=ha.h;obtain⟨tb,pb,kb⟩:=hb.h;refine⟨⟨_,AY ho pa pb hm,λE hf q=>?_⟩⟩;obtain⟨x,hx,hf⟩:=zC hf;obtain⟨y,hy,hf⟩:=zC hf;refine ka E hx λv G1 H1 x1 r1=>?_
 refine kb (E.go x1) hy λu G2 H2 x2 r2=>?_
 obtain⟨k,rfl,z⟩:=hF H2 x y v u _ _ (r1.mono x2.h) r2 hf;exact z (q _ _ _ (x1.trans x2) rfl)
theorem xC{op:CmpOp}(ho:yE X (compareOp op) r)(hF:tL X.K r F)(ha:SB X a fa)(hb:SB X b fb)(hm:behindInMarks op b=false):ST X (.Compare a [op] [b] pos) (tE (e2 F fa fb)):=by
 obtain⟨ta,pa,ka⟩:=ha.h;obtain⟨tb,pb,kb⟩:=hb.h;refine⟨⟨_,OH ho pa pb hm,λE hf q=>?_⟩⟩;obtain⟨z,hz,hf⟩:=zC hf;obtain⟨x,hx,hz⟩:=zC hz;obtain⟨y,hy,hz⟩:=zC hz;refine ka E hx λv G1 H1 x1 r1=>?_
 refine kb (E.go x1) hy λu G2 H2 x2 r2=>?_
 obtain⟨k,rfl,z⟩:=hF H2 x y v u _ _ (r1.mono x2.h) r2 hz;cases hf;exact z ⟨_,rfl,q _ _ (x1.trans x2)⟩
theorem dL{op op':CmpOp}{r':R2}{F':D->D->Option D}(ho:yE X (compareOp op) r)(hF:tL X.K r F)(ho':yE X (compareOp op') r')(hF':tL X.K r' F')(ha:SB X a fa)(hb:SB X b fb)(hc:SB X c fc)(hm:lastMarks [op,op'] [b,c]=false:=by with_unfolding_all rfl) :
  SE X (.Compare a [op,op'] [b,c] pos) (qh F F' fa fb fc):=by
 obtain⟨ta,pa,ka⟩:=ha.h;obtain⟨tb,pb,kb⟩:=hb.h;obtain⟨tc,pc,kc⟩:=hc.h;refine⟨⟨_,AW ho ho' pa pb pc hm,λE hf q=>?_⟩⟩;obtain⟨x,hx,hf⟩:=zC hf;obtain⟨y,hy,hf⟩:=zC hf;obtain⟨k,hk,hf⟩:=zC hf;refine ka E hx λv G1 H1 x1 r1=>?_
 refine kb (E.go x1) hy λu G2 H2 x2 r2=>?_
 obtain⟨k,rfl,z⟩:=hF H2 x y v u _ _ (r1.mono x2.h) r2 hk;refine z ⟨k,rfl,?_⟩;cases k with
 |false=>
  cases hf;exact jh (q _ _ _ (x1.trans x2) rfl)
 |true=>
  obtain⟨w,hw,hf⟩:=zC (show(fc _).bind _=_ from hf);refine ji (kc ((E.go x1).go x2) hw λu3 G3 H3 x3 r3=>?_);obtain⟨k,rfl,z⟩:=hF' H3 y w u u3 _ _ (r2.mono x3.h) r3 hf;exact z (q _ _ _ (x1.trans (x2.trans x3)) rfl)
theorem uc(h:SE X e f)(he:CF e=true:=by rfl):ST X e (tE f):=by
 obtain⟨t,p,k⟩:=h.h;refine⟨⟨_,aN p (aC he),λE hf q=>?_⟩⟩;obtain⟨z,hz,hf⟩:=zC hf;refine k E hz λv G' H' x r=>?_
 cases z<;>first|cases hf|skip
 cases r;exact⟨_,rfl,q _ _ x⟩
theorem Wn(h:ST X a ft):SW X (.BoolOp .Or [a] pos) ft:=⟨let ⟨t,p,k⟩:=h.h; ⟨t,aY p,k⟩⟩
theorem Wm(ha:ST X a ft)(hb:SW X (.BoolOp .Or (b::zn) pos) fu):SW X (.BoolOp .Or (a::b::zn) pos) (kY ft fu):=by
 obtain⟨ta,pa,ka⟩:=ha.h;obtain⟨tb,pb,kb⟩:=hb.h;refine⟨⟨_,aX pa pb,λE hf q=>?_⟩⟩;obtain⟨k,hk,hf⟩:=zC hf;refine ka E hk λG1 H1 x1=>?_
 cases k with
 |false=>exact jh (kb (E.go x1) hf λG' H' x2=>q _ _ (x1.trans x2))
 |true=>cases hf; exact ji (q _ _ x1)
theorem Wo(h:SW X e ft):ST X e ft:=⟨let ⟨t,p,k⟩:=h.h; ⟨t,p.pt,k⟩⟩
theorem kX(h:ST X a ft):ST X (.UnaryOp .Not a pos) (j4 ft):=by
 obtain⟨ta,pa,ka⟩:=h.h;refine⟨⟨_,aM pa,λE hf q=>?_⟩⟩;obtain⟨k,hk,hf⟩:=zC hf;cases hf;exact ka E hk λG1 H1 x1=>q _ _ x1
theorem YL{op}(h:SE X a f):SE X (.BoolOp op [a] pos) f:=⟨let ⟨t,p,k⟩:=h.h; ⟨t,Ai p,k⟩⟩
theorem OV{K:W.Frag}{G:Hp}{z:D}{v:V}{k:Bool}(r:zU K G z v)(h:pM z=some k):v=.bl k:=by
 cases z<;>first|cases h|skip
 exact r
theorem TQ(ha:SE X a fa)(hb:SE X (.BoolOp .And (b::zn) pos) fb):SE X (.BoolOp .And (a::b::zn) pos) (Zb fa fb):=by
 obtain⟨ta,pa,ka⟩:=ha.h;obtain⟨tb,pb,kb⟩:=hb.h;refine⟨⟨_,AL pa pb,λE hf q=>?_⟩⟩;obtain⟨z,hz,hf⟩:=zC hf;obtain⟨k,hk,hf⟩:=zC hf;refine ka E hz λv G1 H1 x1 r1=>⟨k,OV r1 hk,?_⟩
 cases k with
 |true=>exact ji (kb (E.go x1) hf λv G' H' x2 r2=>q v _ _ (x1.trans x2) r2)
 |false=>cases hf; exact jh (q _ _ _ x1 rfl)
theorem EQ(ha:SE X a fa)(hb:SE X (.BoolOp .Or (b::zn) pos) fb):SE X (.BoolOp .Or (a::b::zn) pos) (UG fa fb):=by
 obtain⟨ta,pa,ka⟩:=ha.h;obtain⟨tb,pb,kb⟩:=hb.h;refine⟨⟨_,Aj pa pb,λE hf q=>?_⟩⟩;obtain⟨z,hz,hf⟩:=zC hf;obtain⟨k,hk,hf⟩:=zC hf;refine ka E hz λv G1 H1 x1 r1=>⟨k,OV r1 hk,?_⟩
 cases k with
 |false=>exact jh (kb (E.go x1) hf λv G' H' x2 r2=>q v _ _ (x1.trans x2) r2)
 |true=>cases hf; exact ji (q _ _ _ x1 rfl)
theorem EO(ha:SE X a fa):SE X (.UnaryOp .Not a pos) (UF fa):=by
 obtain⟨ta,pa,ka⟩:=ha.h;refine⟨⟨_,Ah pa,λE hf q=>?_⟩⟩;obtain⟨z,hz,hf⟩:=zC hf;obtain⟨k,hk,hf⟩:=zC hf;cases hf;exact ka E hz λv G1 H1 x1 r1=>⟨k,OV r1 hk,q _ _ _ x1 rfl⟩
theorem kU(hc:ST X c ft)(ha:SE X a fa)(hb:SE X b fb):SE X (.IfExp c a b pos) (qB ft fa fb):=by
 obtain⟨tc,pc,kc⟩:=hc.h;obtain⟨ta,pa,ka⟩:=ha.h;obtain⟨tb,pb,kb⟩:=hb.h;refine⟨⟨_,Ad pc pa pb,λE hf q=>?_⟩⟩;obtain⟨k,hk,hf⟩:=zC hf;refine kc E hk λG1 H1 x1=>?_
 cases k with
 |true=>exact ji (ka (E.go x1) hf λv G' H' x2 r2=>q v _ _ (x1.trans x2) r2)
 |false=>exact jh (kb (E.go x1) hf λv G' H' x2 r2=>q v _ _ (x1.trans x2) r2)
theorem zR:SA X [] zJ:=⟨⟨_,Y8,λE hf q=>by cases hf; exact q _ _ _ (zP.refl E.ext.gh) rfl⟩⟩
theorem zA(ha:SE X e f)(hr:SA X es fs)(h:yZ e=true:=by rfl):SA X (e::es) (z8 f fs):=by
 obtain⟨ta,pa,ka⟩:=ha.h;obtain⟨tb,pb,kb⟩:=hr.h;refine⟨⟨_,jr pa pb h,λE hf q=>?_⟩⟩;obtain⟨x,hx,hf⟩:=zC hf;obtain⟨xs,hxs,hf⟩:=zC hf;cases hf;refine ka E hx λv G1 H1 x1 r1=>kb (E.go x1) hxs λvs G2 H2 x2 r2=>?_
 exact q _ _ _ (x1.trans x2) ⟨v,vs,rfl,r1.mono x2.g,r2⟩
theorem tY:X1 X [] zJ:=⟨⟨_,Y8,λE hf q=>by cases hf; exact q _ _ _ (zP.refl E.ext.gh) rfl⟩⟩
theorem tX(ha:SB X e f)(hr:X1 X es fs)(h:yZ e=true:=by rfl):X1 X (e::es) (z8 f fs):=by
 obtain⟨ta,pa,ka⟩:=ha.h;obtain⟨tb,pb,kb⟩:=hr.h;refine⟨⟨_,jr pa pb h,λE hf q=>?_⟩⟩;obtain⟨x,hx,hf⟩:=zC hf;obtain⟨xs,hxs,hf⟩:=zC hf;cases hf;refine ka E hx λv G1 H1 x1 r1=>kb (E.go x1) hxs λvs G2 H2 x2 r2=>?_
 exact q _ _ _ (x1.trans x2) ⟨v,vs,rfl,r1.mono x2.h,r2⟩
theorem TK{is:List Int}(h:intsOf es=some is):SA X es (λ_=>some (is.map D.int)):=⟨⟨_,C3 h,λE hf q=>by cases hf; exact q _ _ _ (zP.refl E.ext.gh) Reps.ints⟩⟩
theorem v4{x1}(h:SA X es fs)(hl:∀τ ds,fs τ=some ds->ds.length<=1000):SE X (.Tuple es x1 pos) (wR fs):=by
 obtain⟨t,pt,k⟩:=h.h;refine⟨⟨_,Al pt,λE hf q=>?_⟩⟩;obtain⟨xs,hx,hf⟩:=zC hf;cases hf;have l:xs.length<=sizeLine:=vR (hl _ _ hx);refine k E hx λvs G1 H1 x1 r1=>⟨by rw[r1.length]; exact l,λp hp=>?_⟩
 exact q _ _ _ (x1.trans (zP.lay x1.gh hp)) ⟨p,vs,rfl,ye.of yT,r1.mono (wz (x1.gh.free hp) _),l⟩
theorem wg(h:SA X es fs)(hl:∀τ ds,fs τ=some ds->ds.length<=1000):SF X (.List es pos) (wN fs):=by
 obtain⟨t,pt,k⟩:=h.h;refine⟨⟨_,Af pt,λE hf q=>?_⟩⟩;obtain⟨xs,hx,hf⟩:=zC hf;cases hf;have l:xs.length<=sizeLine:=vR (hl _ _ hx);refine k E hx λvs G1 H1 x1 r1=>⟨by rw[r1.length]; exact l,λp hp=>?_⟩
 exact q _ _ _ (x1.trans (zP.t8 x1.gh hp)) (x1.h.free hp) (x1.gh.free hp) ⟨vs,yT,r1,l⟩
theorem yt:∀(τ:zi) ds,zJ τ=some ds->ds.length<=0:=λ_ _ h=>by cases h; exact yF _
theorem za{n:Nat}(h:∀τ ds,fs τ=some ds->ds.length<=n):∀τ ds,z8 f fs τ=some ds->ds.length<=n+1:=λτ ds e=>by
 obtain⟨x,_,e⟩:=zC e;obtain⟨xs,hx,e⟩:=zC e;cases e;exact Tz (h _ _ hx)
theorem Vc{is:List Int}{n:Nat}(h:is.length<=n):∀(τ:zi) ds,(some (is.map D.int))=some ds->ds.length<=n:=λ_ _ e=>by
 cases e;rw[zo];exact h
theorem yg{m n:Nat}(h:∀τ ds,fs τ=some ds->ds.length<=m)(hmn:m<=n):∀τ ds,fs τ=some ds->ds.length<=n:=λτ ds e=>wo (h τ ds e) hmn
variable{ps:List Str}{j k:Nat}{FF:List D->Option (Bool×D)}{FL:List D->Option D}{id T:String}
theorem uz(h:zM X.prog X.w X.K X.mg X.base x ps k (zY X.K FF))(hr:yS j X.A)(hg:Gl X x)(ha:SA X (e::es) fs)(hk:k<=j:=by decide)(hdb:(x==("__debug__" : Str))=false:=by decide)
  (he:(e::es).all yZ=true:=by rfl):SF X (.Call (.Name x p) (e::es) [] pos) (vo FF fs):=by
 obtain⟨t,pt,kt⟩:=ha.h;refine⟨⟨_,OB h hr hg pt hk hdb he,λE hf q=>?_⟩⟩;obtain⟨ds,hd,hf⟩:=zC hf;obtain⟨⟨o,d⟩,hr,hf⟩:=zC hf;cases o with
 |false=>cases hf
 |true=>
  cases hf;refine kt E hd λvs G1 H1 x1 r1=>⟨G1,ds,true,_,x1.gh,by rw[vg]; exact r1,hr,λp G' H' x2 hp gp o=>?_⟩
  exact q p G' H' (x1.trans x2) (x1.h.free hp) gp o
theorem zy(h:zM X.prog X.w X.K X.mg X.base x ps k (zY X.K FF))(hr:yS j X.A)(hg:Gl X x)(ha:SA X (e::es) fs)(hk:k<=j:=by decide)(hdb:(x==("__debug__" : Str))=false:=by decide)
  (he:(e::es).all yZ=true:=by rfl):SE X (.Call (.Name x p) (e::es) [] pos) (zp FF fs):=by
 obtain⟨t,pt,kt⟩:=ha.h;refine⟨⟨_,OB h hr hg pt hk hdb he,λE hf q=>?_⟩⟩;obtain⟨ds,hd,hf⟩:=zC hf;obtain⟨⟨o,d⟩,hr,hf⟩:=zC hf;cases hf;refine kt E hd λvs G1 H1 x1 r1=>⟨G1,ds,o,d,x1.gh,by rw[vg]; exact r1,hr,?_⟩
 cases o with
 |false=>exact λv G' H' x2 r=>q v G' H' (x1.trans x2) r
 |true=>
  intro p G' H' x2 hp gp o;obtain⟨u,hu,r⟩:=o.wC gp;exact q _ _ _ (x1.trans (x2.wC hp gp hu)) r
def qb(K:W.Frag)(r:List V->Hp->VK->Prop)(F:List D->Option D):Prop:=∀G H ds vs d (Q:VK),zg G H->Reps K H ds vs->F ds=some d->(∀w G' H',zP G H G' H'->zU K G' d w->Q w H')->r vs H Q
def MX(K:W.Frag)(r:List V->Hp->VK->Prop)(F:List D->Option D):Prop:=∀G H ds vs d (Q:VK),zg G H->Reps K G ds vs->F ds=some d->(∀w G' H',zP G H G' H'->zU K G' d w->Q w H')->r vs H Q
theorem qO{rc:List V->Hp->VK->Prop}(hc:xY X (.builtin id) rc)(hF:qb X.K rc FL)(hg:Gl X x)(hm:X.mg x=none)(hv:bootBuiltins x=some (.builtin id))(ha:X1 X (e::es) fs)(hn:x ≠ "__name__" := by decide)(hdb:(x==("__debug__" : Str))=false:=by decide)
  (he:(e::es).all yZ=true:=by rfl):SE X (.Call (.Name x p) (e::es) [] pos) (eL FL fs):=by
 obtain⟨t,pt,kt⟩:=ha.h;refine⟨⟨_,(Xd hc hg hm hv ⟨pt⟩ hn hdb he).h,λE hf q=>?_⟩⟩;obtain⟨ds,hd,hf⟩:=zC hf;exact kt E hd λvs G1 H1 x1 r1=>hF G1 H1 ds vs _ _ x1.gh r1 hf λw G' H' x2 r2=>q w G' H' (x1.trans x2) r2
theorem dM{rc:List V->Hp->VK->Prop}(hc:xY X (.type T) rc)(hF:qb X.K rc FL)(hg:Gl X x)(hm:X.mg x=none)(hv:bootBuiltins x=some (.type T))(ha:X1 X (e::es) fs)(hn:x ≠ "__name__" := by decide)(hdb:(x==("__debug__" : Str))=false:=by decide)
  (he:(e::es).all yZ=true:=by rfl):SE X (.Call (.Name x p) (e::es) [] pos) (eL FL fs):=by
 obtain⟨t,pt,kt⟩:=ha.h;refine⟨⟨_,(YF hc hg hm hv ⟨pt⟩ hn hdb he).h,λE hf q=>?_⟩⟩;obtain⟨ds,hd,hf⟩:=zC hf;exact kt E hd λvs G1 H1 x1 r1=>hF G1 H1 ds vs _ _ x1.gh r1 hf λw G' H' x2 r2=>q w G' H' (x1.trans x2) r2
theorem Oe{rc:List V->Hp->VK->Prop}(hc:xY X (.type T) rc)(hF:MX X.K rc FL)(hg:Gl X x)(hm:X.mg x=none)(hv:bootBuiltins x=some (.type T))(ha:SA X (e::es) fs)(hn:x ≠ "__name__" := by decide)(hdb:(x==("__debug__" : Str))=false:=by decide)
  (he:(e::es).all yZ=true:=by rfl):SE X (.Call (.Name x p) (e::es) [] pos) (eL FL fs):=by
 obtain⟨t,pt,kt⟩:=ha.h;refine⟨⟨_,(YF hc hg hm hv ⟨pt⟩ hn hdb he).h,λE hf q=>?_⟩⟩;obtain⟨ds,hd,hf⟩:=zC hf;exact kt E hd λvs G1 H1 x1 r1=>hF G1 H1 ds vs _ _ x1.gh r1 hf λw G' H' x2 r2=>q w G' H' (x1.trans x2) r2
theorem Of{op:UnaryOp}{ru:V->Hp->VK->Prop}{F1:D->Option D}(ho:X2 X (unaryOp op) ru)(hF:∀(G H:Hp) x u d (Q:VK),zU X.K G x u->F1 x=some d->∃w,(∀G,zU X.K G d w)/\(Q w H->ru u H Q))(ha:SE X a fa):SE X (.UnaryOp op a pos) (e1 F1 fa):=by
 obtain⟨t,pt,kt⟩:=ha.h;refine⟨⟨_,Am ho pt,λE hf q=>?_⟩⟩;obtain⟨x,hx,hf⟩:=zC hf;refine kt E hx λv G1 H1 x1 r1=>?_
 obtain⟨w,rw_,z⟩:=hF G1 H1 x v _ _ r1 hf;exact z (q w _ _ x1 (rw_ _))
end
section
variable{X:Cx}{x:Str}{p pos pos' apos cpos:Pos}{e a b c tg iter elt:Expr}{es ifs:List Expr}{f fa fb:FE}{ft:FT}{fs:FA}{st:Stmt}{sts body:List Stmt}{g g':FS}
theorem vI:tM X [] wf:=⟨⟨_,CS,λ{_ _ G H τ σ fl E} K hf q=>by
 cases hf;exact q σ G H K⟩⟩
theorem uN.with{K:W.Frag}{n:Nat}{G0 H0:Hp}{E E':vj}{fl:Fl}(h:uN K n G0 H0 E fl)(hn:∀τ,fl=.nx τ->uN K n G0 H0 E' (.nx τ))(hb:∀τ,fl=.bk τ->uN K n G0 H0 E' (.bk τ))(hc:∀τ,fl=.ct τ->uN K n G0 H0 E' (.ct τ))(hr:E'.rt=E.rt):uN K n G0 H0 E' fl:=by
 cases fl with
 |nx τ=>exact hn τ rfl
 |bk τ=>exact hb τ rfl
 |ct τ=>exact hc τ rfl
 |rt o d=>
  cases o with
  |false=>intro v G H x r; rw[hr]; exact h v G H x r
  |true=>intro v G H x r1 r2 r3; rw[hr]; exact h v G H x r1 r2 r3
theorem yB(h1:SS X st g)(h2:tM X sts g'):tM X (st::sts) (zx g g'):=by
 obtain⟨t,p,k⟩:=h1.h;obtain⟨t',p',k'⟩:=h2.h;refine⟨⟨_,CQ p p',λ{G0 H0 G H τ σ fl E} K hf q=>?_⟩⟩;obtain⟨f1,h1,hf⟩:=zC hf;refine k K h1 ?_;cases f1 with
 |nx τ'=>exact λσ' G' H' K'=>k' K' hf q
 |bk τ'=>cases hf; exact q
 |ct τ'=>cases hf; exact q
 |rt o d=>cases hf; exact uN.with q (λ_ z=>nomatch z) (λ_ z=>nomatch z) (λ_ z=>nomatch z) rfl
theorem zl(h1:SS X st g):tM X [st] g:=⟨let ⟨t,p,k⟩:=h1.h; ⟨t,CT p,k⟩⟩
theorem eM(i:Nat)(h:tM X sts g):tM X sts (zx (TF i) g):=by
 obtain⟨t,p,k⟩:=h.h;refine⟨⟨t,p,λ{G0 H0 G H τ σ fl E} K hf q=>?_⟩⟩;obtain⟨f1,h1,hf⟩:=zC hf;unfold TF at h1
 split at h1
 ·rename_i bb d hd;cases h1;obtain⟨G',K',_⟩:=K.freeze hd;exact k K' hf q
 ·cases h1
theorem wJ{i:Nat}{x:Str}{pos':Pos}(hN:X.N.Nodup)(hi:X.N[i]?=some x)(hx:tH X.env.scope x)(he:SE X e f)(hs:Y3 e=true:=by rfl)(hf:X.fn x=true\/X.env.scope.names.lookup x=some .local:=by first|exact .inl rfl|exact .inr rfl|assumption) :
  SS X (.Assign [.Name x pos'] e pos) (xW i f):=by
 obtain⟨t,p,k⟩:=he.h;refine⟨⟨_,(OO hN hi hx ⟨p⟩ hs hf).h,λ{G0 H0 G H τ σ fl E} K hf q=>?_⟩⟩;obtain⟨d,hd,hf⟩:=zC hf;cases hf;exact k K hd λv G' H' x r=>q _ _ _ ((K.go x).set (yD.mp hi).1 r)
theorem YQ{i:Nat}{x:Str}{pos':Pos}(hN:X.N.Nodup)(hi:X.N[i]?=some x)(hx:tH X.env.scope x)(he:SF X e f)(hs:Y3 e=true:=by rfl)(hf:X.fn x=true\/X.env.scope.names.lookup x=some .local:=by first|exact .inl rfl|exact .inr rfl|assumption) :
  SS X (.Assign [.Name x pos'] e pos) (jv i f):=by
 obtain⟨t,p,k⟩:=he.h;refine⟨⟨_,(OO hN hi hx ⟨p⟩ hs hf).h,λ{G0 H0 G H τ σ fl E} K hf q=>?_⟩⟩;obtain⟨d,hd,hf⟩:=zC hf;cases hf;refine k K hd λp G' H' x hp gp o=>q _ _ _ ((K.go x).Gj (yD.mp hi).1 gp (K.ext.h.free hp) o ?_)
 exact K.Gg hp
theorem yd(he:SE X e f):SS X (.Return (some e) pos) (yX f):=by
 obtain⟨t,p,k⟩:=he.h;refine⟨⟨_,T5 p,λ{G0 H0 G H τ σ fl E} K hf q=>?_⟩⟩;obtain⟨d,hd,hf⟩:=zC hf;cases hf;exact k K hd λv G' H' x r=>q v _ _ (K.ext.trans x) r
theorem j2(he:SF X e f):SS X (.Return (some e) pos) (qN f):=by
 obtain⟨t,p,k⟩:=he.h;refine⟨⟨_,T5 p,λ{G0 H0 G H τ σ fl E} K hf q=>?_⟩⟩;obtain⟨d,hd,hf⟩:=zC hf;cases hf;exact k K hd λp G' H' x hp gp o=>q p _ _ (K.ext.trans x) (K.ext.h.free hp) gp o
theorem YO(i:Nat){x:Str}{pos':Pos}(hN:X.N[i]?=some x:=by rfl)(hv:pL X.env.scope x:=by first|exact Or.inl rfl|exact Or.inr (Or.inl rfl)|exact Or.inr (Or.inr rfl))(hd:(x==("__debug__" : Str))=false:=by decide)
  (hcd:(x==("__classdict__" : Str))=false:=by decide):SS X (.Return (some (.Name x pos')) pos) (pY i):=by
 refine⟨⟨_,T5 (Y9 hN hv hd hcd),λ{G0 H0 G H τ σ fl E} K hf q=>?_⟩⟩;unfold pY at hf
 split at hf
 ·rename_i d he;cases hf;obtain⟨p,e,g,z,o⟩:=K.ow _ _ he;exact⟨_,e,q p _ _ K.ext z g o⟩
 ·cases hf
theorem w8{sa sb:List Stmt}(hc:ST X c ft)(ha:tM X sa g)(hb:tM X sb g'):SS X (.If c sa sb pos) (xr ft g g'):=by
 obtain⟨tc,pc,kc⟩:=hc.h;obtain⟨ta,pa,ka⟩:=ha.h;obtain⟨tb,pb,kb⟩:=hb.h;refine⟨⟨_,CO pc pa pb,λ{G0 H0 G H τ σ fl E} K hf q=>?_⟩⟩;obtain⟨k,hk,hf⟩:=zC hf;refine kc K hk λG1 H1 x1=>?_
 cases k with
 |true=>exact ji (ka (K.go x1) hf q)
 |false=>exact jh (kb (K.go x1) hf q)
theorem Wk:tM X sts (λ_=>none):=⟨⟨_,aL,λ_ hf=>by cases hf⟩⟩
theorem uN.near{K:W.Frag}{n:Nat}{G0 H0 Ga Ha:Hp}{E:vj}{fl:Fl}(x:zP G0 H0 Ga Ha)(h:uN K n G0 H0 E fl):uN K n Ga H0 E fl:=by
 cases fl with
 |nx τ=>exact λσ G H z=>h σ G H (zu.near x z)
 |bk τ=>exact λσ G H z=>h σ G H (zu.near x z)
 |ct τ=>exact λσ G H z=>h σ G H (zu.near x z)
 |rt o d=>
  cases o with
  |false=>exact λv G H y r=>h v G H (x.rebase y) r
  |true=>exact λp G H y r1 r2 r3=>h p G H (x.rebase y) r1 r2 r3
structure SG(X:Cx)(tg:Expr)(fg:FG):Prop where
 h:∃t,PG X tg t/\∀{G0 H0 G H:Hp}{τ τ':zi}{σ:St}{d:D}{v:V}{Q:St->Hp->Prop},zu X.K X.N.length G0 H0 G H τ σ->zU X.K G d v->fg d τ=some τ'->(∀σ',zu X.K X.N.length G0 H0 G H τ' σ'->Q σ' H)->t v σ H Q
theorem Wi{i:Nat}{x:Str}(h:QG X (.Name x pos) (vZ i))(hi:X.N[i]?=some x):SG X (.Name x pos) (yh i):=⟨⟨_,h.h,λK r hf q=>by
 cases hf;exact q _ (K.set (yD.mp hi).1 r)⟩⟩
theorem df{i j:Nat}{x y:Str}{p1 p2:Pos}{kk:Nat}(h:QG X (.Tuple [.Name x p1,.Name y p2] kk pos) (Zh X.K 2 (qo (vZ i) (qo (vZ j) Zg))))(hi:X.N[i]?=some x)(hj:X.N[j]?=some y):SG X (.Tuple [.Name x p1,.Name y p2] kk pos) (qF i j):=⟨⟨_,h.h,λ{G0 H0 G H τ τ' σ d v Q} K r hf q=>by
 unfold qF at hf
 split at hf
 ·rename_i d1 d2;cases hf;obtain⟨a,vs,rfl,sq,⟨v1,r1,rfl,h1,⟨v2,r2,rfl,h2,h3⟩⟩,_⟩:=r;cases(show r2=[]from h3);refine⟨a,_,rfl,vf K.ext.gh sq,rfl,v1,_,rfl,v2,_,rfl,rfl,?_⟩;exact q _ ((K.set (yD.mp hi).1 h1).set (yD.mp hj).1 h2)
 ·cases hf⟩⟩
theorem YN{fg:FG}(hp:PassesOwn (model X.prog X.w) X.A X.env X.xe)(hc:X.calm=true)(hi:SI X tg iter fs)(hg:SG X tg fg)(hb:tM X body g)(hs:∀x,foldedSetIterable iter X.env x=pure x:=by intro _; rfl):SS X (.For tg iter body [] pos) (ju fs fg g):=by
 obtain⟨ti,pi,ki⟩:=hi.h;obtain⟨tg',pg,kg⟩:=hg.h;obtain⟨tb,pb,kb⟩:=hb.h;refine⟨⟨_,CN hp hc pi pg pb hs,λ{G0 H0 G H τ σ fl E} K hf q=>?_⟩⟩;obtain⟨ds,hd,hf⟩:=zC hf;refine ki K hd λJ Ga Ha xa _ wk=>?_
 have Ka:=K.go xa;have q':=uN.near Ka.ext q;refine⟨λi m σ H=>m=ds.length-i/\i<=ds.length/\∃τ G,zu X.K X.N.length Ga H0 G H τ σ/\pR fg g (ds.drop i) τ=some fl,⟨ds.length,rfl,vi _,τ,Ga,Ka.kz,hf⟩,?_⟩;rintro i m σ H ⟨rfl,hle,τ,G,K,hf⟩;by_cases hlt:i<ds.length
 ·refine .inr ⟨wk.go i G H K.ext.g K.ext.gh hlt,λσ' H'=>∃τ G,zu X.K X.N.length Ga H0 G H' τ σ'/\pR fg g (ds.drop (i+1)) τ=some fl,λσ' H' z=>⟨ds.length-(i+1),by omega,rfl,hlt,z⟩,λx H' y=>?_⟩;obtain⟨G3,d,x3,ed,rd⟩:=wk.vz i G H x H' K.ext.g K.ext.gh hlt y;rw[Ya hlt]at hf;rw[xD hlt]at ed;cases ed;obtain⟨τ1,h1,hf⟩:=zC (show(fg _ τ).bind _=_ from hf);obtain⟨f1,h2,hf⟩:=zC hf;refine kg (K.go x3) rd h1 λσ1 K1=>kb K1 h2 ?_
  cases f1 with
  |nx τ2=>exact λσ2 G2 H2 K2=>⟨τ2,G2,K2,hf⟩
  |ct τ2=>exact λσ2 G2 H2 K2=>⟨τ2,G2,K2,hf⟩
  |bk τ2=>cases hf; exact q'
  |rt o d=>cases hf; exact uN.with q' (λ_ z=>nomatch z) (λ_ z=>nomatch z) (λ_ z=>nomatch z) rfl
 ·have e:ds.drop i=[]:=Tq (by omega);rw[e]at hf;cases hf;exact .inl ⟨wk.stop i G H K.ext.g K.ext.gh (by omega),q' _ _ _ K⟩
theorem Nl{K:W.Frag}{G:Hp}{lo:Int}{n:Nat}:jZ K (VW lo n) G ((List.range n).map λk:Nat=>D.int (lo+k)) where
 go:=λi G2 H _ _ hi=>by
  show i<n;simpa using hi
 vz:=λi G2 H x H' _ g2 hi y=>by
  obtain⟨rfl,rfl⟩:=y;exact⟨G2,.int (lo+i),zP.refl g2,by simp at hi; simp[hi],rfl⟩
 stop:=λi G2 H _ _ hi=>by
  show n<=i;simpa using hi
theorem jw(hg:Gl X "range")(hm:X.mg "range" = none)(ha:SE X a fa)(hs:yZ a=true:=by rfl):SI X tg (.Call (.Name "range" p) [a] [] pos) (vp (eC (.int 0)) fa):=by
 obtain⟨t,pt,k⟩:=(zA ha zR hs).h;refine⟨⟨_,Au hg hm pt (vv hs),λ{G0 H0 G H τ σ ds R} K hf q=>?_⟩⟩;obtain⟨x,hx,hf⟩:=zC hf;cases hx;obtain⟨y,hy,hf⟩:=zC hf;refine k K (ds:=[y]) (by unfold z8; rw[hy]; rfl) λvs G1 H1 x1 r1=>?_
 cases y<;>first|cases hf|skip
 rename_i j;obtain⟨v,r,rfl,hv,hr⟩:=r1;cases(show r=[]from hr);cases(show v=.int j from hv)
 change (if(0:Int).natAbs<=yR/\j.natAbs<=yR/\(j-0).toNat<=yR then _ else _)=_ at hf
 by_cases c:(0:Int).natAbs<=yR/\j.natAbs<=yR/\(j-0).toNat<=yR
 ·rw[zI c]at hf;cases hf;have c2:j.natAbs<=16777216:=c.2.1;have c3:(j-0).toNat<=16777216:=c.2.2;refine⟨j,rfl,by omega,by omega,q _ _ _ x1 ?_ ?_⟩
  ·rw[zo,jA,xM]; omega
  ·have e:(j-0).toNat=j.toNat:=by omega
   rw[e];exact Nl
 ·rw[zK c]at hf;cases hf
theorem Ph{K:W.Frag}{G:Hp}{a:Addr}{vs:List V}{ds:List D}(sq:yI K G a vs)(r:Reps K G ds vs):jZ K (Qa K a) G ds where
 go:=λi G2 H g1 g2 hi=>by
  obtain⟨v,e,_⟩:=r.get (xD hi);exact⟨vs,v,wl (g1.trans g2) sq,e⟩
 vz:=λi G2 H x H' g1 g2 hi y=>by
  obtain⟨rfl,y⟩:=y;have e:=y vs (wl (g1.trans g2) sq);obtain⟨d,ed,rd⟩:=r.at e;exact⟨G2,d,zP.refl g2,ed,rd.mono g1⟩
 stop:=λi G2 H g1 g2 hi=>⟨vs,wl (g1.trans g2) sq,by rw[r.length]; exact hi⟩
theorem iB{K:W.Frag}{G:Hp}{a:Addr}{vs:List V}{ds:List D}(sq:ye K G a vs)(r:Reps K G ds vs):jZ K (Qb K a) G ds where
 go:=λi G2 H g1 g2 hi=>by
  obtain⟨v,e,_⟩:=r.get (xD hi);exact⟨vs,v,vf (g1.trans g2) sq,e⟩
 vz:=λi G2 H x H' g1 g2 hi y=>by
  obtain⟨rfl,y⟩:=y;have e:=y vs (vf (g1.trans g2) sq);obtain⟨d,ed,rd⟩:=r.at e;exact⟨G2,d,zP.refl g2,ed,rd.mono g1⟩
 stop:=λi G2 H g1 g2 hi=>⟨vs,vf (g1.trans g2) sq,by rw[r.length]; exact hi⟩
theorem eT{K:W.Frag}{G:Hp}{z:Str}:jZ K (VX z) G (z.cps.toList.map λc=>D.str ⟨#[c]⟩) where
 go:=λi G2 H _ _ hi=>by
  rw[zo,j7]at hi;exact hi
 vz:=λi G2 H x H' _ g2 hi y=>by
  obtain⟨rfl,c,ec,rfl⟩:=y;refine⟨G2,.str ⟨#[c]⟩,zP.refl g2,?_,rfl,vR (n:=1) (by decide)⟩;rw[vh,LU,ec];rfl
 stop:=λi G2 H _ _ hi=>by
  rw[zo,j7]at hi;exact hi
theorem PI.or{w1 w2:TI}(h1:PI X tg e w1)(h2:PI X tg e w2):PI X tg e (λσ H R=>w1 σ H R\/w2 σ H R):=λz0 s σ H R I q=>by
 rcases q with q|q
 ·exact h1 z0 s σ H R I q
 ·exact h2 z0 s σ H R I q
theorem t3(h:SE X e f):SI X tg e (uC f):=by
 obtain⟨t,p,k⟩:=h.h;refine⟨⟨_,PI.or (At p) (PI.or (Aw p) (Av p)),λ{G0 H0 G H τ σ ds R} K hf q=>?_⟩⟩;obtain⟨d,hd,hf⟩:=zC hf;cases d<;>first|cases hf|skip
 ·rename_i z;refine .inr (.inr (k K hd λv G' H' x r=>?_));obtain⟨rfl,l⟩:=r;exact⟨z,rfl,q _ _ _ x (by rw[zo,j7]; exact l) eT⟩
 ·refine .inr (.inl (k K hd λv G' H' x r=>?_));obtain⟨a,vs,rfl,sq,rs,l⟩:=r;exact⟨a,rfl,⟨vs,vf x.gh sq⟩,q _ _ _ x l (iB sq rs)⟩
 ·refine .inl (k K hd λv G' H' x r=>?_);obtain⟨a,vs,rfl,sq,rs,l⟩:=r;exact⟨a,rfl,⟨vs,wl x.gh sq⟩,q _ _ _ x l (Ph sq rs)⟩
end
def Ow(K:W.Frag)(n:Nat)(f:FE):TE:=λσ H Q=>∃G0 H0 G τ d,zu K n G0 H0 G H τ σ/\f τ=some d/\∀v G' H',zP G H G' H'->zU K G' d v->Q v H'
def Tb(K:W.Frag)(n:Nat)(f:FT):TT:=λσ H Q=>∃G0 H0 G τ d,zu K n G0 H0 G H τ σ/\f τ=some d/\∀G' H',zP G H G' H'->Q d H'
structure ZR(X:Cx)(es:List Expr)(f:FT):Prop where
 h:gj X es (Tb X.K X.N.length f)
section
variable{X:Cx}{e c:Expr}{f:FE}{ft:FT}
theorem SE.pe(h:SE X e f):PE X e (Ow X.K X.N.length f):=λz0 s σ H Q I q=>by
 obtain⟨t,p,k⟩:=h.h;obtain⟨G0,H0,G,τ,d,K,hf,z⟩:=q;exact p z0 s σ H Q I (k K hf z)
theorem ST.pt(h:ST X e ft):PT X e (Tb X.K X.N.length ft):=λz0 s σ H Q I q=>by
 obtain⟨t,p,k⟩:=h.h;obtain⟨G0,H0,G,τ,d,K,hf,z⟩:=q;exact p z0 s σ H Q I (k K hf z)
theorem tZ:ZR X [] wK:=⟨λz0 s σ H Q I q=>by
 obtain⟨G0,H0,G,τ,d,K,hf,z⟩:=q;cases hf;exact aO z0 s σ H Q I (z _ _ (zP.refl K.ext.gh))⟩
theorem TW(h:ST X c ft):ZR X [c] ft:=⟨aP h.pt⟩
end
theorem zu.more{K:W.Frag}{n:Nat}{G0 H0 G H:Hp}{τ:zi}{σ:St}(k:Nat)(E:zu K n G0 H0 G H τ σ):zu K (n+k) G0 H0 G H (τ++List.replicate k none) (σ++List.replicate k none):=by
 have at_:∀{i:Nat}{s:Sl},(τ++List.replicate k none)[i]?=some (some s)->τ[i]?=some (some s)/\(σ++List.replicate k none)[i]?=σ[i]?:=λ{i s} h=>by
  have h':=UV h;have hi:i<n:=E.lt h';exact⟨h',j9 (by rw[E.l1]; exact hi)⟩
 refine⟨E.ext,by rw[yL,g9,E.l1],by rw[yL,g9,E.l2],λi d h=>?_,λi d h=>?_,λi j d e p hne h1 h2 h3 h4=>?_⟩
 ·obtain⟨h',e⟩:=at_ h;rw[e];exact E.fr i d h'
 ·obtain⟨h',e⟩:=at_ h;rw[e];exact E.ow i d h'
 ·obtain⟨h1',e1⟩:=at_ h1;obtain⟨h2',e2⟩:=at_ h2;rw[e1]at h3;rw[e2]at h4;exact E.ap i j d e p hne h1' h2' h3 h4
theorem Il{K:PySem.W.Frag}{n k:Nat}{G0 H0 Ga Ha:Hp}{τ:zi}{σ:St}{J:It}{ds out:List D}{g:TG}{fg:FG}{ft:FT}{f:FE}{Fin:List V->Hp->Prop}(wk:jZ K J Ga ds)(hl:ds.length<=sizeLine)(Ka:zu K n G0 H0 Ga Ha τ σ)
  (hf:xq fg ft f (τ++List.replicate k none) ds=some out)
  (kg:∀G H d v τ' (Q:St->Hp->Prop),zu K (n+k) G0 H0 G H (τ++List.replicate k none) (σ++List.replicate k none)->zU K G d v->fg d (τ++List.replicate k none)=some τ'->(∀ρ,zu K (n+k) G0 H0 G H τ' (σ++ρ)->Q (σ++ρ) H)->g v (σ++List.replicate k none) H Q)
  (fin:∀ys G H,zP Ga Ha G H->Reps K G out ys->out.length<=sizeLine->Fin ys H) :
  ∃W:Nat->Nat->List V->Hp->Prop,(∃m,W 0 m [] Ha)/\Us σ k J g (Tb K (n+k) ft) (Ow K (n+k) f) W Fin:=by
 refine⟨λi m ys H=>m=ds.length-i/\i<=ds.length/\ys.length<=i/\∃G done zn,zP Ga Ha G H/\Reps K G done ys/\xq fg ft f (τ++List.replicate k none) (ds.drop i)=some zn/\done++zn=out,⟨ds.length,rfl,vi _,yF _,Ga,[],out,zP.refl Ka.ext.gh,rfl,hf,rfl⟩,?_⟩;rintro i m ys H ⟨rfl,hle,hys,G,done,zn,x,rd,hf,eo⟩;by_cases hlt:i<ds.length
 ·refine .inr ⟨wk.go i G H x.g x.gh hlt,by omega,λys H=>ys.length<=i+1/\∃G done zn,zP Ga Ha G H/\Reps K G done ys/\xq fg ft f (τ++List.replicate k none) (ds.drop (i+1))=some zn/\done++zn=out,λys' H' z=>⟨ds.length-(i+1),by omega,rfl,hlt,z.1,z.2⟩,λv H' y=>?_⟩;obtain⟨G3,d,x3,ed,rv⟩:=wk.vz i G H v H' x.g x.gh hlt y;rw[Ya hlt]at hf;rw[xD hlt]at ed;cases ed;obtain⟨τ1,h1,hf⟩:=zC (show(fg _ _).bind _=_ from hf);obtain⟨kk,h2,hf⟩:=zC hf;have K3:=((Ka.go x).go x3).more k;refine kg G3 H' _ v τ1 _ K3 rv h1 λρ K4=>⟨⟨ρ,rfl⟩,_,_,_,_,kk,K4,h2,λG5 H5 x5=>?_⟩
  cases kk with
  |false=>exact jh ⟨by omega,G5,done,zn,x.trans (x3.trans x5),rd.mono (x3.g.trans x5.g),hf,eo⟩
  |true=>
   obtain⟨z,hz,hf⟩:=zC (show(f _).bind _=_ from hf);obtain⟨more,hm,hf⟩:=zC hf;cases hf;refine ji ⟨_,_,_,_,z,K4.go x5,hz,λu G6 H6 x6 r6=>⟨by rw[yL]; exact Tz hys,G6,done++[z],more,x.trans (x3.trans (x5.trans x6)),(rd.mono (x3.g.trans (x5.g.trans x6.g))).append (Reps.one r6),hm,?_⟩⟩;rw[Lh];exact eo
 ·have e:ds.drop i=[]:=Tq (by omega);rw[e]at hf;cases hf;rw[vg]at eo;subst eo;refine .inl ⟨wk.stop i G H x.g x.gh (by omega),fin ys G H x rd ?_⟩;rw[<-rd.length];omega
section
variable{X:Cx}{tg iter elt:Expr}{ifs:List Expr}{scope:Scope}{cl:List (Str×Addr)}{own:List Str}{pos:Pos}{fs:FA}{fg:FG}{ft:FT}{f:FE}{g:TG}
theorem Oi{α:Type}(xs:List α)(y:α)(ys:List α){n:Nat}(h:n=xs.length)(z:α):(xs++y::ys).set n z=xs++z::ys:=by
 subst h;rw[List.set_append_right _ _ (yF _),M1];rfl
structure BG(X:Cx)(scope:Scope)(cl:List (Str×Addr))(own:List Str)(tg:Expr)(g:TG)(fg:FG):Prop where
 q:∀C s H fp pn,QG (xo X scope cl own C s H fp pn) tg g
 k:∀{G0 H0:Hp}{τ:zi}{σ:St},τ.length=X.N.length->σ.length=X.N.length->∀G H d v τ' (Q:St->Hp->Prop),zu X.K (X.N.length+own.length) G0 H0 G H (τ++List.replicate own.length none) (σ++List.replicate own.length none)->zU X.K G d v->fg d (τ++List.replicate own.length none)=some τ'->
  (∀ρ,zu X.K (X.N.length+own.length) G0 H0 G H τ' (σ++ρ)->Q (σ++ρ) H)->g v (σ++List.replicate own.length none) H Q
theorem uQ{x:Str}{i:Nat}(q:∀C s H fp pn,QG (xo X scope cl [x] C s H fp pn) tg (vZ i))(hi:i=X.N.length):BG X scope cl [x] tg (vZ i) (yh i):=⟨q,λ{G0 H0 τ σ} l1 l2 G H d v τ' Q E r hf k=>by
 cases hf;have E':=E.set (i:=i) (v:=v) (by rw[hi]; exact kf _) r;have es:(σ++List.replicate 1 none).set i (some v)=σ++[some v]:=Oi σ none [] (hi.trans l2.symm) (some v);show Q ((σ++List.replicate 1 none).set i (some v)) H;rw[es];refine k [some v] ?_;rw[<-es];exact E'⟩
theorem B1{x y:Str}{i j:Nat}(q:∀C s H fp pn,QG (xo X scope cl [x,y] C s H fp pn) tg (Zh X.K 2 (qo (vZ i) (qo (vZ j) Zg))))(hi:i=X.N.length)(hj:j=X.N.length+1):BG X scope cl [x,y] tg (Zh X.K 2 (qo (vZ i) (qo (vZ j) Zg))) (qF i j):=⟨q,λ{G0 H0 τ σ} l1 l2 G H d v τ' Q E r hf k=>by
 unfold qF at hf
 split at hf
 ·rename_i d1 d2;cases hf;obtain⟨a,vs,rfl,sq,⟨v1,r1,rfl,h1,⟨v2,r2,rfl,h2,h3⟩⟩,_⟩:=r;cases(show r2=[]from h3);have E':=(E.set (i:=i) (v:=v1) (by rw[hi]; exact Nat.lt_add_of_pos_right (Nat.succ_pos _)) h1).set (i:=j) (v:=v2) (by rw[hj]; exact kf _) h2
  have es:((σ++List.replicate 2 none).set i (some v1)).set j (some v2)=σ++[some v1,some v2]:=by
   have e1:(σ++List.replicate 2 none).set i (some v1)=σ++[some v1,none]:=Oi σ none [none] (hi.trans l2.symm) (some v1);rw[e1];have e2:σ++[some v1,none]=(σ++[some v1])++[none]:=by simp
   rw[e2,Oi (σ++[some v1]) none [] (by rw[yL,hj,l2]; rfl) (some v2)];simp
  refine⟨a,_,rfl,vf E.ext.gh sq,rfl,v1,_,rfl,v2,_,rfl,rfl,?_⟩;show Q (((σ++List.replicate 2 none).set i (some v1)).set j (some v2)) H;rw[es];refine k [some v1,some v2] ?_;rw[<-es];exact E'
 ·cases hf⟩
theorem B7(X:Cx)(own:List Str):(wc X.N own).length=X.N.length+own.length:=by
 unfold wc;rw[yL,zo]
theorem J1{C:Addr}{s:Shared}{H:Hp}{fp:List Addr}{pn:List (Addr×Obj)}(h:SE (xo X scope cl own C s H fp pn) elt f):PE (xo X scope cl own C s H fp pn) elt (Ow X.K (X.N.length+own.length) f):=by
 have q:=h.pe;rw[show(xo X scope cl own C s H fp pn).N.length=X.N.length+own.length from B7 X own]at q;exact q
theorem J2{C:Addr}{s:Shared}{H:Hp}{fp:List Addr}{pn:List (Addr×Obj)}(h:ZR (xo X scope cl own C s H fp pn) ifs ft):gj (xo X scope cl own C s H fp pn) ifs (Tb X.K (X.N.length+own.length) ft):=by
 have q:=h.h;rw[show(xo X scope cl own C s H fp pn).N.length=X.N.length+own.length from B7 X own]at q;exact q
theorem u_(hcalm:X.calm=true)(B:gK X scope cl own)(hi:SI X tg iter fs)(hg:BG X scope cl own tg g fg)(hc:∀C s H fp pn,ZR (xo X scope cl own C s H fp pn) ifs ft)
  (he:∀C s H fp pn,SE (xo X scope cl own C s H fp pn) elt f)(hs:∀x,foldedSetIterable iter X.env x=pure x:=by intro _; rfl) :
  SF X (.ListComp elt [⟨tg,iter,ifs,0⟩] scope pos) (wx own.length fs fg ft f):=by
 obtain⟨ti,pi,ki⟩:=hi.h;refine⟨⟨_,Ae hcalm B pi (λC s H fp pn=>(hg.q C s H fp pn).h) (λC s H fp pn=>J2 (hc C s H fp pn)) (λC s H fp pn=>J1 (he C s H fp pn)) hs,λ{G0 H0 G H τ σ d Q} K hf q=>?_⟩⟩;obtain⟨ds,hd,hf⟩:=zC hf;obtain⟨out,ho,hf⟩:=zC hf;cases hf;refine ki K hd λJ Ga Ha xa l wk=>Il wk l (K.go xa) ho (hg.k K.l2 K.l1) λys G1 H1 x1 r1 l1 p hp=>?_
 exact q p _ _ (xa.trans (x1.trans (zP.t8 x1.gh hp))) (xa.h.free (x1.h.free hp)) (x1.gh.free hp) ⟨ys,yT,r1,l1⟩
theorem eJ{i:Nat}{x:Str}{px spos:Pos}(hcalm:X.calm=true)(hN:X.N.Nodup)(hix:X.N[i]?=some x)(hx:X.env.scope.names.lookup x=some .local)(B:gK X scope cl own)
  (hsw:swapsWith (.ListComp elt [⟨tg,iter,ifs,0⟩] scope pos) (some (.Name x px)) spos.line X.env=pure true)(hi:SI X tg iter fs)(hg:BG X scope cl own tg g fg)(hc:∀C s H fp pn,ZR (xo X scope cl own C s H fp pn) ifs ft)
  (he:∀C s H fp pn,SE (xo X scope cl own C s H fp pn) elt f)(hs:∀x,foldedSetIterable iter X.env x=pure x:=by intro _; rfl) :
  SS X (.Assign [.Name x px] (.ListComp elt [⟨tg,iter,ifs,0⟩] scope pos) spos) (xW i (wx own.length fs fg ft f)):=by
 obtain⟨ti,pi,ki⟩:=hi.h;refine⟨⟨_,CP hcalm hN hix hx B hsw pi (λC s H fp pn=>(hg.q C s H fp pn).h) (λC s H fp pn=>J2 (hc C s H fp pn)) (λC s H fp pn=>J1 (he C s H fp pn)) hs,λ{G0 H0 G H τ σ fl E} K hf q=>?_⟩⟩;obtain⟨d,hf1,hf⟩:=zC hf;cases hf;obtain⟨ds,hd,hf1⟩:=zC hf1;obtain⟨out,ho,hf1⟩:=zC hf1;cases hf1;refine ki K hd λJ Ga Ha xa l wk=>Il wk l (K.go xa) ho (hg.k K.l2 K.l1) λys G1 H1 x1 r1 l1 p hp=>?_
 have K2:=((K.go xa).go x1).go (zP.lay (o:=.lst ys) x1.gh hp);exact q _ _ _ (K2.set (yD.mp hix).1 ⟨p,ys,rfl,yI.of yT,r1.mono (wz (x1.gh.free hp) _),l1⟩)
end
section
variable{K:W.Frag}{n:Nat}{G0 H0 G H:Hp}{τ:zi}{σ:St}
theorem zu.VJ{i:Nat}{d d':D}{p:Addr}{o:HO}(E:zu K n G0 H0 G H τ σ)(hi:τ[i]?=some (some (true,d)))(hp:σ[i]?=some (some (.ref p)))(new:wP K G (zS H p o) d' p):zu K n G0 H0 G (zS H p o) (τ.set i (some (true,d'))) σ:=by
 obtain⟨p',e,g,z,_⟩:=E.ow i d hi;rw[hp]at e;cases e
 have keep:∀{H1:Hp},H1 p=none->zg H1 H->zg H1 (zS H p o):=λ{H1} h s b u q=>by
  rw[yK (uD q h)];exact s _ _ q
 refine⟨⟨E.ext.g,keep z E.ext.h,keep g E.ext.gh,E.ext.new⟩,E.l1,by rw[vV]; exact E.l2,λj e h=>?_,λj e h=>?_,λj k e f q hne h1 h2 h3 h4=>?_⟩
 ·rcases v6 h with⟨rfl,w⟩|⟨ne,w⟩
  ·cases w
  ·exact E.fr j e w
 ·rcases v6 h with⟨rfl,w⟩|⟨ne,w⟩
  ·cases w;exact⟨p,hp,g,z,new⟩
  ·obtain⟨q,eq,gq,zq,oq⟩:=E.ow j e w;refine⟨q,eq,gq,zq,?_⟩
   have hne:q≠p:=λc=>by
    subst c;exact E.ap i j d e q (λc=>ne c.symm) hi w hp eq
   cases e with
   |lst ds=>obtain⟨vs,ev,r⟩:=oq; exact⟨vs,by rw[yK hne]; exact ev,r⟩
   |dic ks ds=>obtain⟨vs,ev,r⟩:=oq; exact⟨vs,by rw[yK hne]; exact ev,r⟩
   |_=>exact oq.elim
 ·have t:∀{j:Nat}{e:D},(τ.set i (some (true,d')))[j]?=some (some (true,e))->∃e,τ[j]?=some (some (true,e)):=λ{j e} h=>by
   rcases v6 h with⟨rfl,_⟩|⟨_,w⟩
   ·exact⟨_,hi⟩
   ·exact⟨_,w⟩
  obtain⟨e1,w1⟩:=t h1;obtain⟨e2,w2⟩:=t h2;exact E.ap j k e1 e2 q hne w1 w2 h3 h4
end
section
variable{X:Cx}{x:Str}{xp pos apos cpos:Pos}{e:Expr}{f:FE}
theorem eG{i:Nat}(ho:QE X (.Name x xp) (Wq i))(he:SE X e f)(hbase:attributeBase (.Name x xp) "append" X.env (eval (.Name x xp) X.env)=eval (.Name x xp) X.env:=by rfl)(hline:(apos.endLine==cpos.line)=true:=by rfl)(hs:yZ e=true:=by rfl) :
  SS X (.Expr (.Call (.Attribute (.Name x xp) "append" apos) [e] [] cpos) pos) (TH i JP f):=by
 obtain⟨t,p,k⟩:=(zA he zR hs).h;refine⟨⟨_,(af (Cf PySem.F.plainAttrs_list PySem.F.slot_list_append PySem.F.type_list_append R5 ho ⟨p⟩ hbase hline (by rw[xh,hs]; rfl) (by show 1<30; decide)) rfl).h,λ{G0 H0 G H τ σ fl E} K hf q=>?_⟩⟩;unfold TH at hf
 split at hf
 ·rename_i d hd;obtain⟨y,hy,hf⟩:=zC hf;obtain⟨d',hd',hf⟩:=zC hf;cases hf;obtain⟨a,ea,g,z,o⟩:=K.ow _ _ hd;cases d with
  |lst ds=>
   obtain⟨vs,ev,rs,l⟩:=o;refine⟨_,ea,.inl ⟨rfl,vs,yI.of ev⟩,k K (ds:=[y]) (by unfold z8; rw[hy]; rfl) λus G1 H1 x1 r1=>?_⟩;obtain⟨u,r,rfl,hu,hr⟩:=r1;cases(show r=[]from hr)
   change (if ds.length<yR then some (D.lst (ds++[y]))else none)=some d' at hd'
   by_cases c:ds.length<yR
   ·rw[zI c]at hd';cases hd';refine⟨a,vs,u,rfl,rfl,x1.h _ _ ev,by rw[rs.length,xM]; exact c,?_⟩;refine q _ _ _ ((K.go x1).VJ hd ea ⟨vs++[u],yT,(rs.mono x1.g).append (Reps.one hu),?_⟩);rw[yL,xM];exact c
   ·rw[zK c]at hd';cases hd'
  |_=>cases hd'
 ·cases hf
end
section
variable{P:Program}{w:World}{K:W.Frag}{mg:Str->Option Value}{base:Heap}
theorem Ux{α β:Type}{ds:List α}{k i:Nat}{h:α->Option β}{y:β}(e:(ds.map h++List.replicate k none)[i]?=some (some y)):∃d,ds[i]?=some d/\h d=some y:=by
 have e':=UV e;rw[vh]at e';cases q:ds[i]? with
 |none=>rw[q]at e'; cases e'
 |some d=>
  rw[q]at e';exact⟨d,rfl,ui e'⟩
theorem Bm{N:List Str}{G H:Hp}{ds:List D}{vs:List V}(s:zg G H)(r:Reps K G ds vs)(hl:ds.length<=N.length):zu K N.length G H G H (ds.map (λd=>some (false,d))++List.replicate (N.length-ds.length) none) (L2.start N vs):=by
 have l:=r.length;refine⟨zP.refl s,?_,?_,λi d h=>?_,λi d h=>?_,λi j d e p _ h1=>?_⟩
 ·unfold L2.start;rw[yL,zo,g9];omega
 ·rw[yL,zo,g9];omega
 ·obtain⟨d',e,z⟩:=Ux h;cases z;obtain⟨v,ev,rv⟩:=r.get e;refine⟨v,?_,rv⟩;unfold L2.start;rw[j9 (by rw[zo]; exact(yD.mp ev).1),vh,ev];rfl
 ·obtain⟨d',e,z⟩:=Ux h;cases z
 ·obtain⟨d',e,z⟩:=Ux h1;cases z
theorem zH.yl{x:Str}{st:Stmt}{N ps:List Str}{k:Nat}{F:List D->Option (Bool×D)}{b:FS}(d:zH K mg x st ps)(S:zk N ps (zT st))(hN:ps.length<=N.length)(hF:∀ds r,F ds=some r->ds.length=ps.length/\zj N.length b ds=some r)
  (hb:∀(f:Addr)(cdv:Value)(A:Around)(outer:List Env)(s:Shared)(H:Hp)(E:XK),yS k (A.deeper (envOfC x (zT st) s.heap.objs.size f cdv))->tM (uo xB P w K mg base N x (zT st) f cdv A outer s H E).t9 (yc st) b):zM P w K mg base x ps (k+1) (zY K F):=by
 refine d.ok S (λvs H Q E h=>?_) λf cdv A outer s H vs Q E hr h=>?_
 ·obtain⟨G,ds,o,dd,_,r,e,_⟩:=h;rw[r.length,(hF _ _ e).1]
 ·obtain⟨G,ds,o,dd,s',r,e,q⟩:=h;obtain⟨l,hrun⟩:=hF _ _ e;obtain⟨t,p,kt⟩:=(hb f cdv A outer s H E hr).h;obtain⟨fl,hfl,hrun⟩:=zC hrun;refine⟨t,p,kt (Bm (N:=N) s' r (by omega)) hfl ?_⟩;cases fl with
  |nx τ=>
   cases hrun;exact λσ G' H' z=>q .zF G' H' z.ext rfl
  |rt o' d'=>
   cases hrun;cases o with
   |false=>exact q
   |true=>exact q
  |_=>cases hrun
end
section
variable{P:Program}{w:World}{K:W.Frag}{mg:Str->Option Value}{base:Heap}
end
section
variable{X:Cx}{K:W.Frag}
theorem kH{C:Int->Int->Prop}{Cb:Int->Int->Bool}{g:Int->Int->Int}(h:∀i j,Cb i j=true->C i j):vL K (rI C λi j=>.int (g i j)) (fI Cb g):=λG H x y u v d Q s rx ry hf q=>by
 cases x<;>first|(cases hf; done)|skip
 cases y<;>first|(cases hf; done)|skip
 rename_i i j
 change (match Cb i j with|true=>some (D.int (g i j))|false=>none)=some d at hf
 cases c:Cb i j with
 |false=>rw[c]at hf; cases hf
 |true=>
  rw[c]at hf;cases hf;exact⟨i,j,rx,ry,h i j c,q _ _ _ (zP.refl s) rfl⟩
theorem Y4{g:Int->Int->Int}:vL K (uG λi j=>.int (g i j)) (qi g):=λG H x y u v d Q s rx ry hf q=>by
 cases x<;>first|(cases hf; done)|skip
 cases y<;>first|(cases hf; done)|skip
 cases hf;exact⟨_,_,rx,ry,q _ _ _ (zP.refl s) rfl⟩
theorem jp:vL K (uG λi j=>.int (i-j)) qk:=λG H x y u v d Q s rx ry hf q=>by
 cases x<;>first|(cases hf; done)|skip
 cases y<;>first|(cases hf; done)|skip
 cases hf;exact⟨_,_,rx,ry,q _ _ _ (zP.refl s) rfl⟩
theorem Dq{i:Int}(h:tR i=true) : -(2 ^ 64)<i/\i<2 ^ 64:=by
 unfold tR at h;rw[yC]at h;exact⟨yy h.1,yy h.2⟩
theorem pX:vL K (rI Yw λi j=>.int (i*j)) qD:=kH λ_ _ h=>.inl (Dq h)
theorem O5:vL K (rI Yw λi j=>.int (i*j)) XE:=kH λ_ _ h=>.inr (Dq h)
theorem wS:vL K (rI (λ_ j=>0<j) λi j=>.int (i%j)) wF:=kH λ_ _ h=>yy h
theorem O3:vL K (rI (λ_ j=>0<j/\j<2 ^ 64) λi j=>.int (i/j)) Zc:=kH λ_ _ h=>by
 rw[yC]at h;exact⟨yy h.1,yy h.2⟩
theorem aE{i j:Int}(h:kO i j=true):QM i j:=by
 unfold kO at h;rw[yC,yC]at h;exact⟨yy h.1,yy h.2.1,yy h.2.2⟩
theorem kJ:vL K (rI QM λi j=>.int (i*2 ^ j.toNat)) qj:=kH λ_ _ h=>aE h
theorem Fw:vL K (rI (λ_ j=>0<=j) λi j=>.int (i/2 ^ j.toNat)) UQ:=kH λ_ _ h=>yy h
theorem pW{g:Int->Int->Bool}:tL K (uG λi j=>.bl (g i j)) (wO g):=λH x y u v d Q rx ry hf=>by
 cases x<;>first|(cases hf; done)|skip
 cases y<;>first|(cases hf; done)|skip
 cases hf;exact⟨_,rfl,λq=>⟨_,_,rx,ry,q⟩⟩
theorem DS{H:Hp}{x:D}{u:V}(r:zU K H x u):Zt x=decide (u=.zF):=by
 cases x with
 |zF=>cases r; rfl
 |bl b=>cases r; rfl
 |int b=>cases r; rfl
 |str b=>obtain⟨rfl,_⟩:=r; rfl
 |tup b=>obtain⟨a,vs,rfl,_⟩:=r; rfl
 |lst b=>obtain⟨a,vs,rfl,_⟩:=r; rfl
 |dic b c=>obtain⟨a,vs,rfl,_⟩:=r; rfl
 |exc b=>obtain⟨a,C,rfl,_⟩:=r; rfl
 |obj b c e=>obtain⟨a,C,dx,vs,rfl,_⟩:=r; rfl
theorem Fq:tL K (λx y H Q=>y=.zF/\Q (.bl (decide (x=.zF))) H) UL:=λH x y u v d Q rx ry hf=>by
 cases y<;>first|(cases hf; done)|skip
 have e:=DS rx;refine⟨Zt x,(ui hf).symm,λq=>⟨ry,?_⟩⟩;rw[<-e];exact q
theorem Se:tL K (λx y H Q=>y=.zF/\Q (.bl (!decide (x=.zF))) H) JW:=λH x y u v d Q rx ry hf=>by
 cases y<;>first|(cases hf; done)|skip
 have e:=DS rx;refine⟨!Zt x,(ui hf).symm,λq=>⟨ry,?_⟩⟩;rw[<-e];exact q
theorem Er:∀(G H:Hp) x u d (Q:VK),zU K G x u->Zd x=some d->∃w,(∀G,zU K G d w)/\(Q w H->rU (λi=>.int (-i)) u H Q):=λG H x u d Q r hf=>by
 cases x<;>first|(cases hf; done)|skip
 cases hf;exact⟨_,λ_=>rfl,λq=>⟨_,r,q⟩⟩
theorem ic:∀(G H:Hp) x u d (Q:VK),zU K G x u->Bp x=some d->∃w,(∀G,zU K G d w)/\(Q w H->rU (λi=>.int (Builtin.bitNot i)) u H Q):=λG H x u d Q r hf=>by
 cases x<;>first|(cases hf; done)|skip
 cases hf;exact⟨_,λ_=>rfl,λq=>⟨_,r,q⟩⟩
def Cj(K:W.Frag):R2:=λx y H Q=>∃l b xs zs,x=.ref l/\y=.ref b/\yI K H l xs/\yI K H b zs/\xs.length+zs.length<=sizeLine/\∀p,H p=none->Q (.ref p) (zS H p (.lst (xs++zs)))
theorem Sz:yE X (binaryOp .Add) (Cj X.K):=by
 intro z0 s σ H x y v u Q I rx ry h;obtain⟨l,b,xs,zs,rfl,rfl,hl,hb,hz,q⟩:=h;cases rx;cases ry;obtain⟨its,r1,p1,_⟩:=I.list hl;obtain⟨its2,r2,p2,_⟩:=I.list hb;obtain⟨⟨c1,d1,t1,sl1⟩,n1,ho1,hc1,hd1,ht1⟩:=p1;obtain⟨⟨c2,d2,t2,sl2⟩,n2,ho2,hc2,hd2,ht2⟩:=p2;simp only at hc1 ht1 hc2 ht2;subst hc1 ht1 hc2 ht2
 refine concat_meets ⟨_,ho1,rfl⟩ ⟨_,ho2,rfl⟩ noFill_list_add seq_list_add PySem.F.slot_list_add PySem.F.entry_list_add (PySem.F.args_list_add_2 _ _)
  (list_addW l b its.toArray its2.toArray n1 n2 d1 d2 sl1 sl2 (by rw[yP,yP,<-r1.length,<-r2.length]; exact hz)) ⟨ho1,ho2,?_⟩
 rw[show its.toArray++its2.toArray=(its++its2).toArray by simp];exact⟨.ref _,_,I.MJ (t':=s.toks) (r1.append r2) (by rw[yL]; exact hz),rfl,q _ I.fresh⟩
def Ch(K:W.Frag):R2:=λx y H Q=>uG (λi j=>.int (i+j)) x y H Q\/(∃i k,x=.int i/\y=.bl k/\Q (.int (i+b2i k)) H)\/(∃i j,x=.str i/\y=.str j/\i.length+j.length<=sizeLine/\Q (.str (i++j)) H)\/Cj K x y H Q\/Ck K x y H Q
theorem xm:yE X (binaryOp .Add) (Ch X.K):=Sw.or (Sx.or (Sy.or (Sz.or S_)))
theorem xl:vL K (Ch K) y_:=λG H x y u v d Q s rx ry hf q=>by
 cases x<;>cases y<;>first|(cases hf; done)|skip
 ·rename_i i b;cases rx;cases ry;cases hf;refine .inr (.inl ⟨i,b,rfl,rfl,?_⟩);have e:i+b2i b=i+(if b then 1 else 0):=by cases b<;>rfl
  rw[e];exact q _ _ _ (zP.refl s) rfl
 ·cases hf;exact .inl ⟨_,_,rx,ry,q _ _ _ (zP.refl s) rfl⟩
 ·rename_i i j;obtain⟨rfl,l1⟩:=rx;obtain⟨rfl,l2⟩:=ry
  change (if i.length+j.length<=yR then _ else _)=_ at hf
  by_cases c:i.length+j.length<=yR
  ·rw[zI c]at hf;cases hf;have c':i.length+j.length<=sizeLine:=by rw[xM]; exact c
   exact .inr (.inr (.inl ⟨i,j,rfl,rfl,c',q _ _ _ (zP.refl s) ⟨rfl,by rw[Yn]; exact c'⟩⟩))
  ·rw[zK c]at hf;cases hf
 ·rename_i xs ys;obtain⟨a,vs,rfl,sa,ra,_⟩:=rx;obtain⟨b,us,rfl,sb,rb,_⟩:=ry
  change (if xs.isEmpty=false/\xs.length+ys.length<=yR then _ else _)=_ at hf
  by_cases c0:xs.isEmpty=false/\xs.length+ys.length<=yR
  ·rw[zI c0]at hf;have c:=c0.2;cases hf;have c':(xs++ys).length<=sizeLine:=by rw[xM,yL]; exact c
   have hx:vs≠[]:=λe=>by
    have l:=ra.length;rw[e]at l;cases xs with
    |nil=>cases c0.1
    |cons=>cases l
   ·refine .inr (.inr (.inr (.inr ⟨a,b,vs,us,rfl,rfl,vf s sa,vf s sb,hx,by rw[ra.length,rb.length,xM]; exact c,λe=>?_,λe p hp=>?_⟩)))
    ·subst e
     have e2:ys=[]:=by
      cases ys with
      |nil=>rfl
      |cons=>obtain⟨_,_,z,_⟩:=rb; cases z
     subst e2;exact q _ _ _ (zP.refl s) ⟨a,vs,rfl,sa,by rw[vg]; exact ra,c'⟩
    ·exact q _ _ _ (zP.lay s hp) ⟨p,vs++us,rfl,ye.of yT,(ra.append rb).mono (wz (s.free hp) _),c'⟩
  ·rw[zK c0]at hf;cases hf
 ·rename_i xs ys;obtain⟨a,vs,rfl,sa,ra,_⟩:=rx;obtain⟨b,us,rfl,sb,rb,_⟩:=ry
  change (if xs.length+ys.length<=yR then _ else _)=_ at hf
  by_cases c:xs.length+ys.length<=yR
  ·rw[zI c]at hf;cases hf;have c':(xs++ys).length<=sizeLine:=by rw[xM,yL]; exact c
   refine .inr (.inr (.inr (.inl ⟨a,b,vs,us,rfl,rfl,wl s sa,wl s sb,by rw[ra.length,rb.length,xM]; exact c,λp hp=>?_⟩)));exact q _ _ _ (zP.lay s hp) ⟨p,vs++us,rfl,yI.of yT,(ra.append rb).mono (wz (s.free hp) _),c'⟩
  ·rw[zK c]at hf;cases hf
theorem HD{α:Type}{xs:List α}{i:Int}{x:α}(h:tO xs i=some x):∃j:Nat,xs[j]?=some x/\∀{β:Type}(ys:List β),ys.length=xs.length->tO ys i=ys[j]?:=by
 unfold tO at h;cases e:ixN xs.length i with
 |none=>rw[e]at h; cases h
 |some j=>
  rw[e]at h;exact⟨j,h,λys l=>by unfold tO; rw[l,e]; rfl⟩
theorem Mj{α:Type}(xs:List α)(i:Int):tO xs i=wb xs i:=by
 unfold tO wb ixN;by_cases h:0<=i
 ·rw[zI h,zI h];by_cases h2:i<xs.length
  ·rw[zI h2]; rfl
  ·rw[zK h2];exact(V0 (by omega)).symm
 ·rw[zK h,zK h]
  split<;>rfl
theorem E4{H:Hp}{ds:List D}{vs:List V}{i:Int}{d:D}(r:Reps K H ds vs)(h:wb ds i=some d):∃v,tO vs i=some v/\zU K H d v:=by
 rw[<-Mj]at h;obtain⟨j,e,k⟩:=HD h;obtain⟨v,ev,rv⟩:=r.get e;exact⟨v,by rw[k vs r.length]; exact ev,rv⟩
def KS:D->D->Option D
 |.lst xs,.int i=>wb xs i
 |.tup xs,.int i=>wb xs i
 |.str z,.int i=>(wb z.cps.toList i).bind λc=>some (.str ⟨#[c]⟩)
 |_,_=>none
theorem O4:vL K (OR K) KS:=λG H x y u v d Q s rx ry hf q=>by
 cases x<;>first|(cases hf; done)|skip
 all_goals (cases y<;>first|(cases hf; done)|skip)
 ·rename_i z i;obtain⟨rfl,l⟩:=rx;cases ry;obtain⟨c,hc,hf⟩:=zC hf;cases hf;rw[<-Mj]at hc;exact .inr (.inr ⟨z,i,c,rfl,rfl,l,hc,q _ _ _ (zP.refl s) ⟨rfl,vR (n:=1) (by decide)⟩⟩)
 ·rename_i xs i;obtain⟨a,vs,rfl,sa,ra,_⟩:=rx;cases ry;obtain⟨w,hw,rw_⟩:=E4 ra hf;exact .inr (.inl ⟨a,vs,i,w,rfl,rfl,vf s sa,hw,q _ _ _ (zP.refl s) rw_⟩)
 ·rename_i xs i;obtain⟨a,vs,rfl,sa,ra,_⟩:=rx;cases ry;obtain⟨w,hw,rw_⟩:=E4 ra hf;exact .inl ⟨a,vs,i,w,rfl,rfl,wl s sa,hw,q _ _ _ (zP.refl s) rw_⟩
theorem ZY:xY X (.builtin "len") (λxs H Q=>(∃p ys,xs=[.ref p]/\(yI X.K H p ys\/ye X.K H p ys)/\Q (.int ys.length) H)\/∃z,xs=[.str z]/\z.length<=sizeLine/\Q (.int z.length) H):=Hs.or Ht
theorem Y5:qb K (λxs H Q=>(∃p ys,xs=[.ref p]/\(yI K H p ys\/ye K H p ys)/\Q (.int ys.length) H)\/∃z,xs=[.str z]/\z.length<=sizeLine/\Q (.int z.length) H) uT:=λG H ds vs d Q s r hf q=>by
 match ds,hf with
 | [.lst xs],hf=>
  cases hf;obtain⟨v,r',rfl,⟨a,us,rfl,sq,ru,_⟩,h2⟩:=r;cases(show r'=[]from h2);exact .inl ⟨a,us,rfl,.inl sq,by rw[ru.length]; exact q _ _ _ (zP.refl s) rfl⟩
 | [.tup xs],hf=>
  cases hf;obtain⟨v,r',rfl,⟨a,us,rfl,sq,ru,_⟩,h2⟩:=r;cases(show r'=[]from h2);exact .inl ⟨a,us,rfl,.inr sq,by rw[ru.length]; exact q _ _ _ (zP.refl s) rfl⟩
 | [.str z],hf=>
  cases hf;obtain⟨v,r',rfl,⟨rfl,l⟩,h2⟩:=r;cases(show r'=[]from h2);exact .inr ⟨z,rfl,l,q _ _ _ (zP.refl s) rfl⟩
theorem Rx:qb K (λxs H Q=>(∃i,xs=[.int i]/\Q (.int i) H)\/∃k,xs=[.bl k]/\Q (.int (if k then 1 else 0)) H) JS:=λG H ds vs d Q s r hf q=>by
 match ds,hf with
 | [.int i],hf=>
  cases hf;obtain⟨v,r',rfl,rfl,h2⟩:=r;cases(show r'=[]from h2);exact .inl ⟨i,rfl,q _ _ _ (zP.refl s) rfl⟩
 | [.bl k],hf=>
  cases hf;obtain⟨v,r',rfl,rfl,h2⟩:=r;cases(show r'=[]from h2);exact .inr ⟨k,rfl,q _ _ _ (zP.refl s) rfl⟩
end
theorem BT:∀xs ys:List D,(((List.range (min xs.length ys.length)).all λj=>yn (xs.getD j .zF) (ys.getD j .zF))&&xs.length==ys.length)=dEqs xs ys
 | [],[]=>rfl
 | [],_::_=>rfl
 |_::_,[]=>rfl
 |x::xs,y::ys=>by
  have ih:=BT xs ys;show _=(yn x y&&dEqs xs ys);rw[<-ih,yO,yO,Nat.succ_min_succ,List.range_succ_eq_map,xh,List.all_map,Bool.and_assoc]
  congr 1
  congr 1
  rw[kZ];simp
theorem BM{f:D->D->Bool}:∀{xs ys:List D},um f xs ys=true->∀(j:Nat) x y,xs[j]?=some x->ys[j]?=some y->f x y=true
 | [],_,_,j,x,y,e,_=>by cases e
 |x::xs,[],_,j,_,y,_,e=>by cases e
 |x::xs,y::ys,h,0,_,_,e1,e2=>by
  cases e1;cases e2;have h':(f x y&&um f xs ys)=true:=h;rw[yC]at h';exact h'.1
 |x::xs,y::ys,h,j+1,a,b,e1,e2=>by
  have h':(f x y&&um f xs ys)=true:=h;rw[yC]at h';exact BM h'.2 j a b (by simpa using e1) (by simpa using e2)
section
variable{X:Cx}{z0:List (Addr×Obj)}{σ:St}{H:Hp}{s:Shared}{K:W.Frag}
theorem JN{n:Nat}(ih:∀d1 d2 v,vB n d1 d2=true->zU K H d1 v->zU K H d2 v->yn d1 d2=true):∀{xs ys:List D}{vs:List V},um (vB n) xs ys=true->Reps K H xs vs->Reps K H ys vs->dEqs xs ys=true
 | [],[],_,_,_,_=>rfl
 | [],_::_,_,_,r1,r2=>by
  cases(show _=[]from r1);obtain⟨_,_,e,_⟩:=r2;cases e
 |_::_,[],_,_,r1,r2=>by
  cases(show _=[]from r2);obtain⟨_,_,e,_⟩:=r1;cases e
 |x::xs,y::ys,_,h,r1,r2=>by
  obtain⟨v,r,rfl,a,b⟩:=r1;obtain⟨v',r',e,a',b'⟩:=r2;cases e;have h':(vB n x y&&um (vB n) xs ys)=true:=h;rw[yC]at h';show(yn x y&&dEqs xs ys)=true;rw[ih x y v h'.1 a a',JN ih h'.2 b b'];rfl
theorem J9{n:Nat}{x y:D}(h:vB (n+1) x y=true):(∃xs ys,x=.tup xs/\y=.tup ys/\um (vB n) xs ys=true)\/(∃xs ys,x=.lst xs/\y=.lst ys/\um (vB n) xs ys=true)\/(yu x=true/\yu y=true):=by
 unfold vB at h
 split at h
 ·exact .inl ⟨_,_,rfl,rfl,h⟩
 ·exact .inr (.inl ⟨_,_,rfl,rfl,h⟩)
 ·rw[yC]at h;exact .inr (.inr h)
theorem kS{d:D}{v:V}(h:yu d=true)(r:zU K H d v):ut v=true:=by
 cases d<;>first|exact absurd h xO|skip
 ·cases(show v=_ from r); rfl
 ·cases(show v=_ from r); rfl
 ·cases(show v=_ from r); rfl
 ·cases(show v=_/\_ from r).1; rfl
theorem Xf{d1 d2:D}{x y:V}(h1:yu d1=true)(h2:yu d2=true)(r1:zU K H d1 x)(r2:zU K H d2 y):u9 x y=yn d1 d2:=by
 cases d1<;>first|exact absurd h1 xO|skip
 all_goals (cases d2<;>first|exact absurd h2 xO|skip)
 all_goals first
  |(cases(show x=_ from r1); cases(show y=_ from r2); rfl)
  |(cases(show x=_ from r1); cases(show y=_/\_ from r2).1; rfl)
  |(cases(show x=_/\_ from r1).1; cases(show y=_ from r2); rfl)
  |(cases(show x=_/\_ from r1).1; cases(show y=_/\_ from r2).1; rfl)
theorem UI(I:zB X z0 σ H s):∀(n:Nat)(d1 d2:D)(v:V),vB n d1 d2=true->zU X.K H d1 v->zU X.K H d2 v->yn d1 d2=true
 |0,_,_,_,h,_,_=>by cases h
 |n+1,d1,d2,v,h,r1,r2=>by
  rcases J9 h with⟨xs,ys,rfl,rfl,h⟩|⟨xs,ys,rfl,rfl,h⟩|⟨f1,f2⟩
  ·obtain⟨a,vs,rfl,s1,q1,_⟩:=r1;obtain⟨a',us,e,s2,q2,_⟩:=r2;cases e;cases I.QK s1 s2;exact JN (λd1 d2 v=>UI I n d1 d2 v) h q1 q2
  ·obtain⟨a,vs,rfl,s1,q1,_⟩:=r1;obtain⟨a',us,e,s2,q2,_⟩:=r2;cases e;cases I.VH s1 s2;exact JN (λd1 d2 v=>UI I n d1 d2 v) h q1 q2
  ·rw[<-Xf f1 f2 r1 r2];exact KQ (kS f1 r1)
theorem Bz{α:Type}{xs:List α}{j:Nat}{x d:α}(h:xs[j]?=some x):xs.getD j d=x:=by rw[ue,h]; rfl
theorem T9{A:Around}{n:Nat}{a c:Addr}{xs ys:List D}{vs us:List V}(I:zB X z0 σ H s)(hu:A.units<cLine)(hq:Mb X.K H a c vs us)(q1:Reps X.K H xs vs)(q2:Reps X.K H ys us)(h:um (vB n) xs ys=true)
  (ih:∀(d1 d2:D)(x y:V)(u v:Value),vB n d1 d2=true->zU X.K H d1 x->zU X.K H d2 y->zd x u->zd y v->SeqAt.EqAt A.in1 s u v (yn d1 d2)):SeqAt.RcAt A s (.ref a) (.ref c) (dEqs xs ys)/\SeqAt.RcNeAt A s (.ref a) (.ref c) (!dEqs xs ys):=by
 have z:=a_ (A:=A) (e:=λj=>yn (xs.getD j .zF) (ys.getD j .zF)) I hu hq λj x' y' u' v' e1 e2 w1 w2=>by
  obtain⟨d1,g1,t1⟩:=q1.at e1;obtain⟨d2,g2,t2⟩:=q2.at e2;show SeqAt.EqAt A.in1 s u' v' (yn (xs.getD j .zF) (ys.getD j .zF));rw[Bz g1,Bz g2];exact ih d1 d2 x' y' u' v' (BM h j d1 d2 g1 g2) t1 t2 w1 w2
 rw[q1.length,q2.length,BT]at z;exact z
theorem UH(I:zB X z0 σ H s):∀(n:Nat)(A:Around)(d1 d2:D)(x y:V)(u v:Value),A.units+n<cLine->vB n d1 d2=true->zU X.K H d1 x->zU X.K H d2 y->zd x u->zd y v->SeqAt.EqAt A s u v (yn d1 d2)
 |0,_,_,_,_,_,_,_,_,h,_,_,_,_=>by cases h
 |n+1,A,d1,d2,x,y,u,v,hu,h,r1,r2,rx,ry=>by
  have h0:=h;have ra:=r1;have rb:=r2;rcases J9 h with⟨xs,ys,rfl,rfl,h⟩|⟨xs,ys,rfl,rfl,h⟩|⟨f1,f2⟩
  ·obtain⟨a,vs,rfl,s1,q1,l1⟩:=r1;obtain⟨c,us,rfl,s2,q2,l2⟩:=r2;cases(show u=Value.ref a from rx);cases(show v=Value.ref c from ry);by_cases hac:a=c
   ·subst hac;rw[UI I (n+1) _ _ _ h0 ra rb];exact M5 _
   ·exact SeqAt.EqAt.of_refs hac (T9 I (by omega) (.inl ⟨s1,s2⟩) q1 q2 h λd1 d2 x y u v hh t1 t2 w1 w2=>UH I n A.in1 d1 d2 x y u v (by rw[Ug]; omega) hh t1 t2 w1 w2).1
  ·obtain⟨a,vs,rfl,s1,q1,l1⟩:=r1;obtain⟨c,us,rfl,s2,q2,l2⟩:=r2;cases(show u=Value.ref a from rx);cases(show v=Value.ref c from ry);by_cases hac:a=c
   ·subst hac;rw[UI I (n+1) _ _ _ h0 ra rb];exact M5 _
   ·exact SeqAt.EqAt.of_refs hac (T9 I (by omega) (.inr ⟨s1,s2⟩) q1 q2 h λd1 d2 x y u v hh t1 t2 w1 w2=>UH I n A.in1 d1 d2 x y u v (by rw[Ug]; omega) hh t1 t2 w1 w2).1
  ·rw[<-Xf f1 f2 r1 r2];exact Bn rx ry (kS f1 r1) (kS f2 r2)
end
def T8(K:W.Frag)(neg:Bool):R2:=λx y H Q=>∃d1 d2 k,zU K H d1 x/\zU K H d2 y/\jf d1 d2=some k/\Q (.bl (if neg then !k else k)) H
theorem yi{A:Around}{k:Nat}(hr:yS k A):A.units+7<cLine:=Ly (GZ (by decide:7<=64) _) hr.units
section
variable{X:Cx}{K:W.Frag}
theorem JQ{d1 d2:D}{k:Bool}(h:jf d1 d2=some k):vB 6 d1 d2=true/\k=yn d1 d2:=by
 unfold jf at h
 split at h
 ·cases h
 ·cases h
 ·split at h
  ·rename_i e;cases h;exact⟨e,rfl⟩
  ·cases h
theorem EM{H:Hp}{d1 d2:D}{x y:V}{k:Bool}(h:jf d1 d2=some k)(h1:yu d1=true)(h2:yu d2=true)(r1:zU K H d1 x)(r2:zU K H d2 y):Od x y=true/\decide (x=y)=k:=by
 obtain⟨_,e⟩:=JQ h;subst e;cases d1<;>first|exact absurd h1 xO|skip
 all_goals (cases d2<;>first|exact absurd h2 xO|(cases h; done)|skip)
 all_goals first
  |(cases(show x=_ from r1); cases(show y=_ from r2); exact⟨rfl,by first|rfl|exact JG|exact JF⟩)
  |(cases(show x=_ from r1); cases(show y=_/\_ from r2).1; exact⟨rfl,rfl⟩)
  |(cases(show x=_/\_ from r1).1; cases(show y=_ from r2); exact⟨rfl,rfl⟩)
  |(cases(show x=_/\_ from r1).1; cases(show y=_/\_ from r2).1; exact⟨rfl,JH⟩)
theorem Bo{z0:List (Addr×Obj)}{σ:St}{H:Hp}{s:Shared}{A:Around}{d1 d2:D}{x y:V}{u v:Value}(I:zB X z0 σ H s)(hu:A.units+7<cLine)(h:vB 6 d1 d2=true)(hf:¬ (yu d1&&yu d2)=true)(r1:zU X.K H d1 x)(r2:zU X.K H d2 y)(rx:zd x u)(ry:zd y v) :
  SeqAt.RcAt A s u v (yn d1 d2)/\SeqAt.RcNeAt A s u v (!yn d1 d2):=by
 rcases J9 h with⟨xs,ys,rfl,rfl,h⟩|⟨xs,ys,rfl,rfl,h⟩|⟨f1,f2⟩
 ·obtain⟨a,vs,rfl,s1,q1,l1⟩:=r1;obtain⟨c,us,rfl,s2,q2,l2⟩:=r2;cases(show u=Value.ref a from rx);cases(show v=Value.ref c from ry);exact T9 I (by omega) (.inl ⟨s1,s2⟩) q1 q2 h λd1 d2 x y u v hh t1 t2 w1 w2=>UH I 5 A.in1 d1 d2 x y u v (by rw[Ug]; omega) hh t1 t2 w1 w2
 ·obtain⟨a,vs,rfl,s1,q1,l1⟩:=r1;obtain⟨c,us,rfl,s2,q2,l2⟩:=r2;cases(show u=Value.ref a from rx);cases(show v=Value.ref c from ry);exact T9 I (by omega) (.inr ⟨s1,s2⟩) q1 q2 h λd1 d2 x y u v hh t1 t2 w1 w2=>UH I 5 A.in1 d1 d2 x y u v (by rw[Ug]; omega) hh t1 t2 w1 w2
 ·exact absurd (by rw[f1,f2]; rfl) hf
theorem xK(hu:X.A.units+7<cLine):yE X (compareOp .Eq) (T8 X.K false):=by
 intro z0 s σ H x y v u Q I rx ry h;obtain⟨d1,d2,k,r1,r2,hk,q⟩:=h;by_cases hf:(yu d1&&yu d2)=true
 ·have hf':=hf;rw[yC]at hf';obtain⟨a,b⟩:=EM hk hf'.1 hf'.2 r1 r2;exact A3 z0 s σ H x y v u Q I rx ry ⟨a,by rw[b]; exact q⟩
 ·obtain⟨hc,rfl⟩:=JQ hk;exact(Bo I hu hc hf r1 r2 rx ry).1 _ _ _ _ ⟨.bl _,H,I,rfl,q⟩
theorem kK(hu:X.A.units+7<cLine):yE X (compareOp .NotEq) (T8 X.K true):=by
 intro z0 s σ H x y v u Q I rx ry h;obtain⟨d1,d2,k,r1,r2,hk,q⟩:=h;by_cases hf:(yu d1&&yu d2)=true
 ·have hf':=hf;rw[yC]at hf';obtain⟨a,b⟩:=EM hk hf'.1 hf'.2 r1 r2;exact A9 z0 s σ H x y v u Q I rx ry ⟨a,by rw[b]; exact q⟩
 ·obtain⟨hc,rfl⟩:=JQ hk;exact(Bo I hu hc hf r1 r2 rx ry).2 _ _ _ _ ⟨.bl _,H,I,rfl,q⟩
theorem xJ:tL K (T8 K false) zh:=λH x y u v d Q rx ry hf=>by
 obtain⟨k,hk,hf⟩:=zC hf;cases hf;exact⟨_,rfl,λq=>⟨x,y,k,rx,ry,hk,q⟩⟩
theorem kI:tL K (T8 K true) uA:=λH x y u v d Q rx ry hf=>by
 obtain⟨k,hk,hf⟩:=zC hf;cases hf;exact⟨_,rfl,λq=>⟨x,y,k,rx,ry,hk,q⟩⟩
end
theorem PP{K:W.Frag}:W.kitOne K (.type "NoneType") (.type "str")=some false/\W.kitOne K (.type "NoneType") (.type "list")=some false/\W.kitOne K (.type "NoneType") (.type "tuple")=some false/\
  W.kitOne K (.type "bool") (.type "str")=some false/\W.kitOne K (.type "bool") (.type "list")=some false/\W.kitOne K (.type "bool") (.type "tuple")=some false/\
  W.kitOne K (.type "int") (.type "str")=some false/\W.kitOne K (.type "int") (.type "list")=some false/\W.kitOne K (.type "int") (.type "tuple")=some false:=by refine⟨?_,?_,?_,?_,?_,?_,?_,?_,?_⟩<;>kernel_rfl
theorem PQ{K:W.Frag}:W.kitOne K (.type "str") (.type "int")=some false/\W.kitOne K (.type "str") (.type "bool")=some false/\W.kitOne K (.type "str") (.type "list")=some false/\W.kitOne K (.type "str") (.type "tuple")=some false/\
  W.kitOne K (.type "list") (.type "int")=some false/\W.kitOne K (.type "list") (.type "bool")=some false/\W.kitOne K (.type "list") (.type "str")=some false/\W.kitOne K (.type "list") (.type "tuple")=some false/\W.kitOne K (.type "list") (.type "list")=some true:=by refine⟨?_,?_,?_,?_,?_,?_,?_,?_,?_⟩<;>first|kernel_rfl|rfl
theorem PR{K:W.Frag}:W.kitOne K (.type "tuple") (.type "int")=some false/\W.kitOne K (.type "tuple") (.type "bool")=some false/\W.kitOne K (.type "tuple") (.type "list")=some false/\W.kitOne K (.type "tuple") (.type "str")=some false:=by refine⟨?_,?_,?_,?_⟩<;>kernel_rfl
def iL:D->String
 |.zF => "NoneType"
 |.bl _ => "bool"
 |.int _ => "int"
 |.str _ => "str"
 |.tup _ => "tuple"
 |.lst _ => "list"
 |.dic _ _ => "dict"
 |.exc _ => "x"
 |.obj _ _ _ => "x"
theorem Zy{K:W.Frag}{T:jY}{d:D}{b:Bool}(h:Ul T d=some b):W.kitOne K (.type (iL d)) (.type T.nm)=some b:=by
 obtain⟨x1,x2,x3,x4,x5,x6,x7,x8,x9⟩:=PP (K:=K);obtain⟨y1,y2,y3,y4,y5,y6,y7,y8,y9⟩:=PQ (K:=K);obtain⟨z1,z2,z3,z4⟩:=PR (K:=K);cases T<;>cases d<;>cases h
 all_goals first|exact PH|exact PD|exact PF|exact PC|exact PK|exact PJ|exact PN|exact PM|assumption
def am(K:W.Frag)(T:jY):List V->Hp->VK->Prop:=λxs H Q=>∃x d b,xs=[x,.ty T.nm]/\zU K H d x/\Ul T d=some b/\Q (.bl b) H
theorem Hq{X:Cx}(T:jY):xY X (.builtin "isinstance") (am X.K T):=by
 intro z0 s σ H xs us Q I r h;obtain⟨x,d,b,rfl,rd,e,q⟩:=h;obtain⟨u,c,rfl,rx,rc⟩:=L7 r;cases(show c=Value.type T.nm from rc);have fin:∀tk,EP X z0 σ Q (.bool b) { s with toks:=tk }:=λtk=>⟨.bl b,H,I.tok tk,rfl,q⟩
 cases d with
 |zF=>cases(show x=_ from rd); exact Um I rx .zF (Zy (d:=.zF) e) fin
 |bl y=>cases(show x=_ from rd); exact Um I rx (.bl _) (Zy (d:=.bl y) e) fin
 |int y=>cases(show x=_ from rd); exact Um I rx (.int _) (Zy (d:=.int y) e) fin
 |str y=>cases(show x=_/\_ from rd).1; exact Um I rx (.str _) (Zy (d:=.str y) e) fin
 |tup ds=>
  obtain⟨a,vs,rfl,sq,_⟩:=rd;cases(show u=Value.ref a from rx);obtain⟨its,_,⟨o,h1,h2,_⟩,_⟩:=I.tuple sq;exact W.kia_one W.kitx_tuple I.xN ⟨o,h1,h2⟩ (Zy (d:=.tup ds) e) (λz=>nomatch z) fin
 |lst ds=>
  obtain⟨a,vs,rfl,sq,_⟩:=rd;cases(show u=Value.ref a from rx);obtain⟨its,_,⟨o,n,h1,h2,_⟩,_⟩:=I.list sq;exact W.kia_one W.kitx_list I.xN ⟨o,h1,h2⟩ (Zy (d:=.lst ds) e) (λz=>nomatch z) fin
 |dic ks ds=>cases T<;>cases e
 |exc _=>cases T<;>cases e
 |obj _ _ _=>cases T<;>cases e
theorem Wf{X:Cx}{a:Expr}{f:FE}{x:Str}{p p1 pos:Pos}(T:jY)(hg:Gl X "isinstance")(hgT:Gl X x)(hm:X.mg "isinstance" = none)(hmT:X.mg x=none)(hv:bootBuiltins x=some (.type T.nm))(ha:SB X a f)(hs:yZ a=true:=by rfl)
  (hn:x ≠ "__name__" := by decide)(hd:(x==("__debug__" : Str))=false:=by decide):SE X (.Call (.Name "isinstance" p) [a,.Name x p1] [] pos) (gx T f):=by
 obtain⟨t,pt,k⟩:=ha.h;refine⟨⟨_,(Xd (Hq T) hg hm He (Ce ⟨pt⟩ (Ce (ac hgT hmT hv hn hd) ab rfl) hs) (by decide) (by decide) (by rw[xh,hs]; rfl)).h,λ{G0 H0 G H τ σ d Q} E hf q=>?_⟩⟩;obtain⟨z,hz,hf⟩:=zC hf;obtain⟨b,hb,hf⟩:=zC hf;cases hf;exact k E hz λv G' H' x r=>⟨v,z,b,rfl,r,hb,q _ _ _ x rfl⟩
end L3
namespace L3
open PySem
theorem kG{g:FG}{b:FS}(P:Nat->zi->Prop):∀{ds:List D}{σ:zi}(n:Nat),P n σ->(∀i d σ,ds[i]?=some d->P (n+i) σ->∃σ1 σ2,g d σ=some σ1/\(b σ1=some (.nx σ2)\/b σ1=some (.ct σ2))/\P (n+i+1) σ2)->
  ∃σ',pR g b ds σ=some (.nx σ')/\P (n+ds.length) σ'
 | [],σ,n,h,_=>⟨σ,rfl,h⟩
 |d::ds,σ,n,h,step=>by
  obtain⟨σ1,σ2,e1,e2,p2⟩:=step 0 d σ rfl h
  obtain⟨σ',e3,p3⟩:=kG P (ds:=ds) (σ:=σ2) (n+1) p2 λi d' τ hd hp=>by
   obtain⟨a,b',c1,c2,c3⟩:=step (i+1) d' τ (by simpa using hd) (by rw[show n+(i+1)=n+1+i by omega]; exact hp);exact⟨a,b',c1,c2,by rw[show n+1+i+1=n+(i+1)+1 by omega]; exact c3⟩
  refine⟨σ',?_,by rw[yO,show n+(ds.length+1)=n+1+ds.length by omega]; exact p3⟩;show(g d σ).bind _=_;rw[e1];show(b σ1).bind _=_;rcases e2 with e2|e2
  ·rw[e2]; exact e3
  ·rw[e2]; exact e3
abbrev v7(j:Nat):List D:=(List.range j).map λk:Nat=>D.int k
theorem kR{f:FE}{τ:zi}{n:Int}(h:f τ=some (.int n))(h1:n.natAbs<=1000000):vp (eC (.int 0)) f τ=some (v7 n.toNat):=by
 unfold vp;rw[h];show(if(0:Int).natAbs<=yR/\n.natAbs<=yR/\(n-0).toNat<=yR then _ else _)=_;rw[zI ⟨by decide,by show _<=16777216; omega,by show _<=16777216; omega⟩,Int.sub_zero];simp only[Int.zero_add]
end L3
namespace L3
def shx:=
 And.intro zj.eq_1<|And.intro zx.eq_1<|And.intro xW.eq_1<|And.intro jv.eq_1<|And.intro yX.eq_1<|And.intro qN.eq_1<|And.intro pY.eq_1<|And.intro xr.eq_1<|And.intro wf.eq_1<|And.intro TF.eq_1 <|
 And.intro cJ.eq_1<|And.intro TH.eq_1<|And.intro ju.eq_1<|And.intro pR.eq_1<|And.intro pR.eq_2<|And.intro e1.eq_1<|And.intro e2.eq_1<|And.intro eL.eq_1<|And.intro eC.eq_1<|And.intro z6.eq_1<|And.intro XB.eq_1 <|
 And.intro z8.eq_1<|And.intro zJ.eq_1<|And.intro tE.eq_1<|And.intro pM.eq_def<|And.intro eU.eq_1<|And.intro kY.eq_1<|And.intro j4.eq_1<|And.intro Zb.eq_1<|And.intro UG.eq_1<|And.intro UF.eq_1<|And.intro qB.eq_1 <|
 And.intro wR.eq_1<|And.intro wN.eq_1<|And.intro gx.eq_1<|And.intro Ul.eq_def<|And.intro fI.eq_def<|And.intro qk.eq_def<|And.intro wO.eq_def<|And.intro qD.eq_1<|And.intro XE.eq_1<|And.intro wF.eq_1<|And.intro Zc.eq_1 <|
 And.intro KU.eq_1<|And.intro qj.eq_1<|And.intro UQ.eq_1<|And.intro qi.eq_def<|And.intro Zd.eq_def<|And.intro uT.eq_def<|And.intro JS.eq_def<|And.intro UL.eq_def<|And.intro JW.eq_def<|And.intro Zt.eq_def <|
 And.intro yh.eq_1<|And.intro qF.eq_1<|And.intro uC.eq_1<|And.intro zp.eq_1<|And.intro vo.eq_1<|And.intro wx.eq_1 <|
 And.intro @kj.{0,0} <| And.intro @Option.bind_none.{0,0} <| And.intro @List.getElem?_cons_zero.{0} <| And.intro @List.getElem?_cons_succ.{0} <| And.intro @GX.{0} <| And.intro @GW.{0} <| And.intro @xA.{0,0} <| And.intro @V3.{0,0} <|
 And.intro @YZ.{0} <| And.intro @Lu.{0} <| And.intro @yO.{0} <| And.intro @V1.{0} <| And.intro @List.replicate_zero.{0} <| And.intro @gB.{0} <| And.intro Bool.not_true<|And.intro Bool.not_false <|
 And.intro @jH<|And.intro @decide_false<|And.intro Tn<|And.intro Bool.and_true Bool.true_and
open PySem PySem.Spec PyProof.Rows L2
section
variable{α:Type}
theorem GB:∀{ks:List zN}{vs:List α}(k:zN),ks.length=vs.length->((ks.zip vs).any λkv=>decide (kv.1=k))=xR ks k
 | [],[],_,_=>rfl
 |k'::ks,v::vs,k,h=>by
  have ih:=GB (ks:=ks) (vs:=vs) k (by simpa using h);show(decide (k'=k)||((ks.zip vs).any λkv=>decide (kv.1=k)))=(decide (k'=k)||xR ks k);rw[ih]
theorem g8:∀{ks:List zN}{vs:List V}(k:zN),ks.length=vs.length->wm (ks.zip vs) k=getK ks vs k
 | [],[],_,_=>rfl
 |k'::ks,v::vs,k,h=>by
  have ih:=g8 (ks:=ks) (vs:=vs) k (by simpa using h);by_cases e:k'=k
  ·rw[uh,g7 (p:=(k',v)) e];show _=(if k'=k then some v else _);rw[zI e]
  ·rw[uh,g6 (p:=(k',v)) e,ih];show _=(if k'=k then some v else _);rw[zK e]
theorem GE:∀{ks:List zN}{vs:List V}(k:zN)(v:V),ks.length=vs.length->((ks.zip vs).map λkv=>if kv.1=k then(kv.1,v)else kv)=ks.zip (List.zipWith (λk' x=>if k'=k then v else x) ks vs)
 | [],[],_,_,_=>rfl
 |k'::ks,u::vs,k,v,h=>by
  have ih:=GE (ks:=ks) (vs:=vs) k v (by simpa using h);rw[uh,xA,ih,Yj,uh];by_cases e:k'=k
  ·rw[zI e,zI e]
  ·rw[zK e,zK e]
theorem Ww{ks:List zN}{vs:List V}{k:zN}{v:V}(h:ks.length=vs.length):xc (ks.zip vs) k v=(xf ks k).zip (ya ks vs k v):=by
 unfold xc xf ya;rw[GB k h];by_cases c:xR ks k=true
 ·rw[zI c,zI c,zI c,GE k v h]
 ·rw[zK c,zK c,zK c,List.zip_append h];rfl
theorem YA{ks:List zN}{vs:List α}{k:zN}{v:α}(h:ks.length=vs.length):(xf ks k).length=(ya ks vs k v).length:=by
 unfold xf ya
 split
 ·rw[jB,h,uI]
 ·rw[yL,yL,h];rfl
theorem OJ{ks:List zN}{vs:List α}{k:zN}{v:α}(h:ks.length=vs.length):(ya ks vs k v).length<=vs.length+1:=by
 unfold ya
 split
 ·rw[jB,h,uI];exact V7 _
 ·rw[yL];exact yF _
end
section
variable{K:W.Frag}{G H:Hp}
theorem Reps.getK:∀{ks:List zN}{ds:List D}{vs:List V}{k:zN}{d:D},Reps K H ds vs->getK ks ds k=some d->∃v,getK ks vs k=some v/\zU K H d v
 | [],_,_,_,_,_,e=>by cases e
 |_::_,[],_,_,_,_,e=>by cases e
 |k'::ks,d'::ds,_,k,d,r,e=>by
  obtain⟨v,r',rfl,hv,hr⟩:=r
  change (if k'=k then some d' else L3.getK ks ds k)=some d at e
  by_cases c:k'=k
  ·rw[zI c]at e;cases e;exact⟨v,by show(if k'=k then some v else _)=_; rw[zI c],hv⟩
  ·rw[zK c]at e;obtain⟨u,hu,ru⟩:=Reps.getK hr e;exact⟨u,by show(if k'=k then some v else _)=_; rw[zK c]; exact hu,ru⟩
theorem DA{α β:Type}:∀{ks:List zN}{ds:List α}{vs:List β}{k:zN},ds.length=vs.length->getK ks ds k=none->getK ks vs k=none
 | [],_,_,_,_,_=>by unfold getK; rfl
 |_::_,[],[],_,_,_=>rfl
 |k'::ks,d'::ds,v::vs,k,h,e=>by
  change (if k'=k then some d' else getK ks ds k)=none at e
  show(if k'=k then some v else getK ks vs k)=none;by_cases c:k'=k
  ·rw[zI c]at e; cases e
  ·rw[zK c]at e;rw[zK c];exact DA (by simpa using h) e
theorem Je{α:Type}:∀{ks:List zN}{vs:List α}(k:zN),ks.length=vs.length->(getK ks vs k).isSome=xR ks k
 | [],[],_,_=>rfl
 |k'::ks,v::vs,k,h=>by
  have ih:=Je (ks:=ks) (vs:=vs) k (by simpa using h);show(if k'=k then some v else getK ks vs k).isSome=(decide (k'=k)||_);by_cases c:k'=k
  ·rw[zI c,yQ c]; rfl
  ·rw[zK c,xE c,ih]; rfl
theorem Reps.MQ{k:zN}{d:D}{v:V}(hv:zU K H d v):∀{ks:List zN}{ds:List D}{vs:List V},Reps K H ds vs->Reps K H (List.zipWith (λk' x=>if k'=k then d else x) ks ds) (List.zipWith (λk' x=>if k'=k then v else x) ks vs)
 | [],_,_,_=>rfl
 |_::_,[],_,r=>by cases(show _=[]from r); rfl
 |k'::ks,d'::ds,_,r=>by
  obtain⟨u,r',rfl,hu,hr⟩:=r;refine⟨_,_,rfl,?_,Reps.MQ hv hr⟩;show zU K H (if k'=k then d else d') (if k'=k then v else u);by_cases c:k'=k
  ·rw[zI c,zI c]; exact hv
  ·rw[zK c,zK c]; exact hu
theorem Reps.put{ks:List zN}{ds:List D}{vs:List V}{k:zN}{d:D}{v:V}(r:Reps K H ds vs)(hv:zU K H d v):Reps K H (ya ks ds k d) (ya ks vs k v):=by
 unfold ya
 split
 ·exact Reps.MQ hv r
 ·exact r.append (Reps.one hv)
theorem jk{x:D}{k:zN}{u:V}(h:vN x=some k)(r:zU K H x u):u=kV k:=by
 cases x<;>first|(cases h; done)|skip
 ·cases h; exact r
 ·cases h; exact(show u=_/\_ from r).1
end
section
variable{X:Cx}{K:W.Frag}
def Cm:R2:=λx y H Q=>∃a kvs k v,x=.ref a/\y=kV k/\Rd H a (.dK kvs)/\wm kvs k=some v/\Q v H
theorem DZ:ul X Cm:=by
 intro value slice z0 s σ H x y v u Q I rx ry h hs;obtain⟨a,kvs,k,z,rfl,rfl,e,l,q⟩:=h;cases rx;obtain⟨_,_,vs,rel,dd⟩:=tP I.zZ e;obtain⟨w',hw,rw'⟩:=wv.some_of (v:=z) (o:=valueAt vs k) (by rw[<-l]; exact rel.val k)
 exact Q3 (x:=w') (KK I (.inl ⟨kvs,k,e,rfl,rfl⟩)) PySem.F.slot_dict_getitem.lookup
  (M8 (Q:=λr s'=>r=w'/\EP X z0 σ Q r s') (qH ry) dd.mapOf hw ⟨rfl,z,H,I.tok _,rw',q⟩) hs
def Cl(K:W.Frag):R2:=λx y H Q=>OR K x y H Q\/Cm x y H Q
theorem zV(_:X.A.units+1<cLine):ul X (Cl X.K):=Ny.or DZ
theorem zW:vL K (Cl K) zE:=λG H x y u v d Q s rx ry hf q=>by
 cases x with
 |dic ks ds=>
  obtain⟨a,vs,rfl,sq,l,rs,_⟩:=rx;obtain⟨k,hk,hf⟩:=zC hf;obtain⟨z,hz,rz⟩:=rs.getK hf;exact .inr ⟨a,_,k,z,rfl,jk hk ry,Rd.mono s sq,by rw[g8 k l]; exact hz,q _ _ _ (zP.refl s) rz⟩
 |zF=>cases hf
 |bl b=>cases hf
 |int b=>cases hf
 |str z=>exact .inl (O4 G H (.str z) y u v d Q s rx ry (by cases y<;>exact hf) q)
 |tup z=>exact .inl (O4 G H (.tup z) y u v d Q s rx ry (by cases y<;>exact hf) q)
 |lst z=>exact .inl (O4 G H (.lst z) y u v d Q s rx ry (by cases y<;>exact hf) q)
 |exc z=>cases hf
 |obj z _ _=>cases hf
def OQ(neg:Bool):R2:=λx y H Q=>∃a kvs k,y=.ref a/\x=kV k/\Rd H a (.dK kvs)/\Q (.bl (if neg then !(wm kvs k).isSome else(wm kvs k).isSome)) H
theorem A5(hu:X.A.units+1<cLine):yE X (compareOp .In) (OQ false):=by
 intro z0 s σ H x y v u Q I rx ry h;obtain⟨a,kvs,k,rfl,rfl,e,q⟩:=h;cases ry;exact KF hu I (.inl ⟨kvs,k,e,rfl,rfl⟩) rx λs' I'=>⟨.bl _,H,I',rfl,q⟩
theorem AA(hu:X.A.units+1<cLine):yE X (compareOp .NotIn) (OQ true):=by
 intro z0 s σ H x y v u Q I rx ry h;obtain⟨a,kvs,k,rfl,rfl,e,q⟩:=h;cases ry;exact KH hu I (.inl ⟨kvs,k,e,rfl,rfl⟩) rx λs' I'=>⟨.bl _,H,I',rfl,q⟩
def Xe(K:W.Frag)(neg:Bool):R2:=λx y H Q=>OP K neg x y H Q\/(∃i j,x=.str i/\y=.str j/\Q (.bl (if neg then !(!(Builtin.Str.occurrences j i 0 j.length 1).isEmpty)else !(Builtin.Str.occurrences j i 0 j.length 1).isEmpty)) H)\/OQ neg x y H Q
theorem T1(hu:X.A.units+1<cLine):yE X (compareOp .In) (Xe X.K false):=A6.or (A7.or (A5 hu))
theorem AB(hu:X.A.units+1<cLine):yE X (compareOp .NotIn) (Xe X.K true):=AC.or (AD.or (AA hu))
theorem TB{H:Hp}{x:D}{u:V}(hx:yu x=true)(rx:zU K H x u):∀{ys:List D}{vs:List V},Reps K H ys vs->ys.all yu=true->vs.all ut=true/\Uh u vs=ys.any λy=>yn y x
 | [],_,r,_=>by cases(show _=[]from r); exact⟨rfl,rfl⟩
 |y::ys,_,r,h=>by
  obtain⟨v,r',rfl,hv,hr⟩:=r;rw[xh,yC]at h;obtain⟨a,b⟩:=TB hx rx hr h.2;refine⟨by rw[xh,kS h.1 hv,a]; rfl,?_⟩;show(u9 v u||Uh u r')=(yn y x||_);rw[Xf h.1 hx hv rx,b]
theorem DM{neg:Bool}{H:Hp}{x y:D}{u v:V}{k:Bool}{Q:VK}(rx:zU K H x u)(ry:zU K H y v)(hf:JR x y=some k)(q:Q (.bl (if neg then !k else k)) H):Xe K neg u v H Q:=by
 cases y with
 |lst ys=>
  obtain⟨a,vs,rfl,sq,rs,_⟩:=ry
  change (match yu x&&ys.all yu with|true=>some (ys.any λy=>yn y x)|false=>none)=some k at hf
  cases c:(yu x&&ys.all yu)with
  |false=>rw[c]at hf; cases hf
  |true=>
   rw[c]at hf;cases hf;rw[yC]at c;obtain⟨c1,c2⟩:=TB c.1 rx rs c.2;exact .inl ⟨a,vs,rfl,.inl sq,kS c.1 rx,c1,by rw[c2]; exact q⟩
 |tup ys=>
  obtain⟨a,vs,rfl,sq,rs,_⟩:=ry
  change (match yu x&&ys.all yu with|true=>some (ys.any λy=>yn y x)|false=>none)=some k at hf
  cases c:(yu x&&ys.all yu)with
  |false=>rw[c]at hf; cases hf
  |true=>
   rw[c]at hf;cases hf;rw[yC]at c;obtain⟨c1,c2⟩:=TB c.1 rx rs c.2;exact .inl ⟨a,vs,rfl,.inr sq,kS c.1 rx,c1,by rw[c2]; exact q⟩
 |str j=>
  cases x<;>first|(cases hf; done)|skip
  rename_i i;cases hf;exact .inr (.inl ⟨i,j,(show u=_/\_ from rx).1,(show v=_/\_ from ry).1,q⟩)
 |dic ks ds=>
  obtain⟨kk,hk,hf⟩:=zC hf;cases hf;obtain⟨a,vs,rfl,sq,l,rs,_⟩:=ry;refine .inr (.inr ⟨a,_,kk,rfl,jk hk rx,sq,?_⟩);rw[g8 kk l,Je kk l];exact q
 |_=>cases hf
theorem U_:tL K (Xe K false) vM:=λH x y u v d Q rx ry hf=>by
 obtain⟨k,hk,hf⟩:=zC hf;cases hf;exact⟨_,rfl,λq=>DM rx ry hk q⟩
theorem Sd:tL K (Xe K true) Ze:=λH x y u v d Q rx ry hf=>by
 obtain⟨k,hk,hf⟩:=zC hf;cases hf;exact⟨_,rfl,λq=>DM rx ry hk q⟩
theorem Wg{pos:Pos}:SF X (.Dict [] [] pos) (eC (.dic [] [])):=⟨⟨_,Ab,λ{G0 H0 G H τ σ d Q} E hf q p hp=>by
 cases hf;exact q p G _ (zP.t8 E.ext.gh hp) hp (E.ext.gh.free hp) ⟨[],yT,rfl,rfl,vi _⟩⟩⟩
theorem j1{i:Nat}{x:Str}{xp pos pos':Pos}{k v:Expr}{fk fv:FE}(hu:X.A.units+1<cLine)(ho:QE X (.Name x xp) (Wq i))(hk:SE X k fk)(hv:SE X v fv)(hs:swapsWith v (some (.Subscript (.Name x xp) k pos')) pos.line X.env=pure false:=by rfl) :
  SS X (.Assign [.Subscript (.Name x xp) k pos'] v pos) (ub i fk fv):=by
 obtain⟨tk,pk,kk⟩:=hk.h;obtain⟨tv,pv,kv⟩:=hv.h;refine⟨⟨_,OG hu ho.h pk pv hs,λ{G0 H0 G H τ σ fl E} K hf q=>?_⟩⟩;obtain⟨y,hy,hf⟩:=zC hf;refine kv K hy λw G1 H1 x1 r1=>?_
 split at hf
 ·rename_i ks ds hd;obtain⟨xk,hx,hf⟩:=zC hf;obtain⟨key,hkey,hf⟩:=zC hf;by_cases c:ks.length<yR
  ·rw[zI c]at hf;cases hf;have K1:=K.go x1;obtain⟨a,ea,g,z,vs,ev,l,rs,hl⟩:=K1.ow _ _ hd;refine⟨_,ea,kk K1 hx λu G2 H2 x2 r2=>⟨a,_,rfl,.inl ⟨_,key,x2.h _ _ ev,jk hkey r2,?_,rfl⟩,?_⟩⟩
   ·rw[pA,l,uI,xM,<-l]; exact c
   ·refine q _ _ _ ((K1.go x2).VJ hd ea ⟨ya ks vs key w,?_,YA l,(rs.mono x2.g).put (r1.mono x2.g),?_⟩)
    ·rw[yT,Ww l]
    ·have h1:=OJ (ks:=ks) (vs:=ds) (k:=key) (v:=y) (by rw[l,rs.length]);have h2:ds.length<16777216:=by rw[<-rs.length,<-l]; exact c
     rw[xM];omega
  ·rw[zK c]at hf;cases hf
 ·cases hf
inductive pC(w:World):List DictEntry->List Str->List Value->Prop
 |nil:pC w [] [] []
 |cons {x:Str} {t:Tok} {v:Value} {es:List DictEntry} {xs:List Str} {vs:List Value} (r:pC w es xs vs):pC w (⟨PyData.keyHash w.params x,.str x t,v⟩::es) (x::xs) (v::vs)
theorem pC.pairs{w:World}{P:Program}:∀{es:List DictEntry}{xs:List Str}{vs:List Value},pC w es xs vs->Pairs (yq P w) es ((xs.map Sum.inr).zip vs)/\(∀e∈es,∃k,(yq P w).is k e.key=true/\e.hash=(yq P w).hash k)
 |_,_,_,.nil=>⟨.nil,λe h=>absurd h (by simp)⟩
 |_,_,_,.cons (x:=x) (t:=t) r=>by
  obtain⟨a,b⟩:=pC.pairs (P:=P) r;refine⟨.cons (Ix P w x t) rfl a,λe h=>?_⟩;rcases yY.mp h with rfl|h
  ·exact⟨.inr x,Ix P w x t,rfl⟩
  ·exact b e h
theorem pC.len{w:World}:∀{es:List DictEntry}{xs:List Str}{vs:List Value},pC w es xs vs->xs.length=vs.length
 |_,_,_,.nil=>rfl
 |_,_,_,.cons r=>by rw[yO,yO,r.len]
theorem Df:∀{ks:List zN}{us:List V}{vs:List Value},zc us vs->ks.length=us.length->KV (ks.zip us) (ks.zip vs)
 | [],_,_,.nil,_=>.nil
 |k::ks,_,_,.cons r t,h=>.cons ⟨rfl,r⟩ (Df t (by simpa using h))
theorem GC:∀{ks:List zN}{vs:List Value},ks.length=vs.length->(ks.zip vs).map (·.1)=ks
 | [],[],_=>rfl
 |k::ks,v::vs,h=>by rw[uh,xA,GC (by simpa using h)]
end
def Og:D->Option (List D)
 |.lst xs=>some xs
 |.tup xs=>some xs
 |_=>none
def XM(a b:FE):FA:=λσ=>(a σ).bind λx=>(b σ).bind λy=>(Og x).bind λxs=>(Og y).bind λys=>some (List.zipWith (λx y=>D.tup [x,y]) xs ys)
section
variable{K:W.Frag}{G H:Hp}
theorem ER{x:D}{xs:List D}{u:V}(h:Og x=some xs)(r:zU K G x u):∃t a vs,u=.ref a/\vm K t G a vs/\Reps K G xs vs/\xs.length<=sizeLine:=by
 cases x<;>first|(cases h; done)|skip
 ·cases h;obtain⟨a,vs,rfl,sq,rs,l⟩:=r;exact⟨true,a,vs,rfl,sq,rs,l⟩
 ·cases h;obtain⟨a,vs,rfl,sq,rs,l⟩:=r;exact⟨false,a,vs,rfl,sq,rs,l⟩
theorem jx{H':Hp}{t:Bool}{a:Addr}{vs:List V}(s:zg H H')(h:vm K t H a vs):vm K t H' a vs:=by
 cases t
 ·exact wl s h
 ·exact vf s h
theorem lE{t1 t2:Bool}{a b:Addr}{vs us:List V}{xs ys:List D}(s1:vm K t1 G a vs)(s2:vm K t2 G b us)(r1:Reps K G xs vs)(r2:Reps K G ys us):jZ K (Qc K t1 t2 a b) G (List.zipWith (λx y=>D.tup [x,y]) xs ys) where
 go:=λi G2 H g1 g2 hi=>by
  rw[jB]at hi;obtain⟨v,e1,_⟩:=r1.get (xD (show i<xs.length by omega));obtain⟨u,e2,_⟩:=r2.get (xD (show i<ys.length by omega));exact⟨vs,us,v,u,jx (g1.trans g2) s1,jx (g1.trans g2) s2,e1,e2⟩
 vz:=λi G2 H x H' g1 g2 hi y=>by
  obtain⟨p,hp,rfl,k⟩:=y;obtain⟨v,u,e1,e2,rfl⟩:=k vs us (jx (g1.trans g2) s1) (jx (g1.trans g2) s2);obtain⟨d1,f1,q1⟩:=r1.at e1;obtain⟨d2,f2,q2⟩:=r2.at e2;refine⟨zS G2 p (.tup [v,u]),.tup [d1,d2],zP.lay g2 hp,by rw[GT,f1,f2],?_⟩;have sm:zg G (zS G2 p (.tup [v,u])):=g1.trans (wz (g2.free hp) _);exact⟨p,[v,u],rfl,ye.of yT,⟨v,_,rfl,q1.mono sm,⟨u,_,rfl,q2.mono sm,rfl⟩⟩,vR (n:=2) (by decide)⟩
 stop:=λi G2 H g1 g2 hi=>by
  rw[jB]at hi;refine⟨vs,us,jx (g1.trans g2) s1,jx (g1.trans g2) s2,?_⟩;rw[r1.length,r2.length];omega
end
section
variable{X:Cx}{a b e o:Expr}{fa fb f:FE}{p pos apos cpos:Pos}
theorem Ol{elts:List Expr}{kk:Nat}{tp:Pos}(hg:Gl X "zip")(hm:X.mg "zip" = none)(ha:SE X a fa)(hb:SE X b fb)(hs:yZ a=true:=by rfl)(hs2:yZ b=true:=by rfl):SI X (.Tuple elts kk tp) (.Call (.Name "zip" p) [a,b] [] pos) (XM fa fb):=by
 obtain⟨t,pt,k⟩:=(zA ha (zA hb zR hs2) hs).h;refine⟨⟨_,(ae hg hm ⟨pt⟩ hs hs2).h,λ{G0 H0 G H τ σ ds R} K hf q=>?_⟩⟩;obtain⟨x,hx,hf⟩:=zC hf;obtain⟨y,hy,hf⟩:=zC hf;obtain⟨xs,hxs,hf⟩:=zC hf;obtain⟨ys,hys,hf⟩:=zC hf;cases hf;refine k K (ds:=[x,y]) (by unfold z8; rw[hx,hy]; rfl) λvs G1 H1 x1 r1=>?_
 obtain⟨v,r,rfl,hv,⟨v2,r2,rfl,hv2,hr⟩⟩:=r1;cases(show r2=[]from hr);obtain⟨t1,a1,vs1,rfl,s1,q1,l1⟩:=ER hxs hv;obtain⟨t2,a2,vs2,rfl,s2,q2,l2⟩:=ER hys hv2;refine⟨a1,a2,vs1,vs2,t1,t2,rfl,jx x1.gh s1,jx x1.gh s2,q _ _ _ x1 ?_ (lE s1 s2 q1 q2)⟩;rw[jB];omega
abbrev FO:=zi->Option (Option Int)
def Uz(f:FE):FO:=λσ=>(f σ).bind λd=>match d with
 |.int i=>some (some i)
 |_=>none
def pN{α:Type}(xs:List α)(lo hi:Option Int):List α:=(xs.drop (HT.sIx xs.length 0 lo)).take (HT.sIx xs.length xs.length hi-HT.sIx xs.length 0 lo)
def Bq(d:D)(lo hi:Option Int):Option D:=match d with
 |.lst xs=>some (.lst (pN xs lo hi))
 |.tup xs=>if HT.sIx xs.length 0 lo=0/\HT.sIx xs.length xs.length hi=xs.length then none else some (.tup (pN xs lo hi))
 |.str z=>some (.str (Za z lo hi))
 |_=>none
def JL(a:FE)(lo hi:FO):FE:=λσ=>(a σ).bind λd=>(lo σ).bind λl=>(hi σ).bind λh=>Bq d l h
structure SO(X:Cx)(e:Option Expr)(f:FO):Prop where
 h:∃t,PO X e t/\∀{G0 H0 G H:Hp}{τ:zi}{σ:St}{d:Option Int}{Q:Option Int->Hp->Prop},zu X.K X.N.length G0 H0 G H τ σ->f τ=some d->(∀G' H',zP G H G' H'->Q d H')->t σ H Q
theorem EW(h:SE X e f):SO X (some e) (Uz f):=by
 obtain⟨t,pt,k⟩:=h.h;refine⟨⟨_,aD pt,λ{G0 H0 G H τ σ d Q} E hf q=>?_⟩⟩;obtain⟨x,hx,hf⟩:=zC hf;cases x<;>first|(cases hf; done)|skip
 cases hf;exact k E hx λv G' H' x r=>⟨_,r,q _ _ x⟩
theorem Reps.cut{K:W.Frag}{G:Hp}{ds:List D}{vs:List V}(r:Reps K G ds vs)(lo hi:Option Int):Reps K G (pN ds lo hi) (jd vs lo hi):=by
 unfold pN jd;rw[r.length];exact(r.drop _).take _
theorem BN{α:Type}(xs:List α)(lo hi:Option Int):(pN xs lo hi).length<=xs.length:=by
 unfold pN;rw[tj,Tr];omega
def aw(K:W.Frag):V->Option Int->Option Int->Hp->VK->Prop:=λx lo hi H Q=>Ct K x lo hi H Q\/Cv K x lo hi H Q\/Cu x lo hi H Q
theorem dq:pK X (aw X.K):=dt.or (d_.or dw)
theorem dO{lo hi:Option Expr}{fl fh:FO}{p2:Pos}(ha:SE X a fa)(hl:SO X lo fl)(hh:SO X hi fh):SE X (.Subscript a (.Slice lo hi none p2) pos) (JL fa fl fh):=by
 obtain⟨ta,pa,ka⟩:=ha.h;obtain⟨tl,pl,kl⟩:=hl.h;obtain⟨th,ph,kh⟩:=hh.h;refine⟨⟨_,Ak dq pa pl ph,λ{G0 H0 G H τ σ d Q} E hf q=>?_⟩⟩;obtain⟨x,hx,hf⟩:=zC hf;obtain⟨l,hl,hf⟩:=zC hf;obtain⟨h,hh,hf⟩:=zC hf;refine ka E hx λv G1 H1 x1 r1=>kl (E.go x1) hl λG2 H2 x2=>kh ((E.go x1).go x2) hh λG3 H3 x3=>?_
 have xx:=x1.trans (x2.trans x3);have r3:=r1.mono (x2.g.trans x3.g);cases x with
 |lst xs=>
  cases hf;obtain⟨a,vs,rfl,sq,rs,ll⟩:=r3;refine .inl ⟨a,vs,rfl,wl x3.gh sq,λp hp=>q _ _ _ (xx.trans (zP.lay x3.gh hp)) ⟨p,_,rfl,yI.of yT,(rs.cut l h).mono (wz (x3.gh.free hp) _),wo (BN ..) ll⟩⟩
 |tup xs=>
  change (if HT.sIx xs.length 0 l=0/\HT.sIx xs.length xs.length h=xs.length then none else some (D.tup (pN xs l h)))=some d at hf
  by_cases c:HT.sIx xs.length 0 l=0/\HT.sIx xs.length xs.length h=xs.length
  ·rw[zI c]at hf;cases hf
  ·rw[zK c]at hf;cases hf;obtain⟨a,vs,rfl,sq,rs,ll⟩:=r3;refine .inr (.inl ⟨a,vs,rfl,vf x3.gh sq,by rw[rs.length]; exact c,λp hp=>?_⟩);exact q _ _ _ (xx.trans (zP.lay x3.gh hp)) ⟨p,_,rfl,ye.of yT,(rs.cut l h).mono (wz (x3.gh.free hp) _),wo (BN ..) ll⟩
 |str z=>
  cases hf;obtain⟨rfl,ll⟩:=r3;exact .inr (.inr ⟨z,rfl,ll,q _ _ _ xx ⟨rfl,wo (BQ ..) ll⟩⟩)
 |_=>cases hf
def qC:List D->Option D
 | [.lst xs]=>some (.lst xs)
 | [.tup xs]=>some (.lst xs)
 |_=>none
def Zf:List D->Option D
 | [.lst xs]=>some (.tup xs)
 | [.tup xs]=>some (.tup xs)
 |_=>none
theorem ua{K:W.Frag}{G:Hp}{d:D}{vs:List V}(r:Reps K G [d] vs):∃v,vs=[v]/\zU K G d v:=by
 obtain⟨v,r',rfl,hv,hr⟩:=r;cases(show r'=[]from hr);exact⟨v,rfl,hv⟩
theorem Wh{fs:FA}(hg:Gl X "list")(hm:X.mg "list" = none)(ha:SA X [e] fs)(hs:yZ e=true:=by rfl):SF X (.Call (.Name "list" p) [e] [] pos) (eL qC fs):=by
 obtain⟨t,pt,k⟩:=ha.h;refine⟨⟨_,(YF Hv hg hm U8 ⟨pt⟩ (by decide) (by decide) (by rw[xh,hs]; rfl)).h,λ{G0 H0 G H τ σ d Q} E hf q=>?_⟩⟩;obtain⟨ds,hd,hf⟩:=zC hf;refine k E hd λvs G1 H1 x1 r1=>?_
 match ds,hf with
 | [.lst xs],hf=>
  cases hf;obtain⟨v,rfl,a,us,rfl,sq,rs,l⟩:=ua r1;exact⟨a,us,rfl,.inl (wl x1.gh sq),λp hp=>q p _ _ (x1.trans (zP.t8 x1.gh hp)) (x1.h.free hp) (x1.gh.free hp) ⟨us,yT,rs,l⟩⟩
 | [.tup xs],hf=>
  cases hf;obtain⟨v,rfl,a,us,rfl,sq,rs,l⟩:=ua r1;exact⟨a,us,rfl,.inr (vf x1.gh sq),λp hp=>q p _ _ (x1.trans (zP.t8 x1.gh hp)) (x1.h.free hp) (x1.gh.free hp) ⟨us,yT,rs,l⟩⟩
theorem O6{K:W.Frag}:MX K (λxs H Q=>∃p ys,xs=[.ref p]/\((yI K H p ys/\∀l,H l=none->Q (.ref l) (zS H l (.tup ys)))\/(ye K H p ys/\Q (.ref p) H))) Zf:=λG H ds vs d Q s r hf q=>by
 match ds,hf with
 | [.lst xs],hf=>
  cases hf;obtain⟨v,rfl,a,us,rfl,sq,rs,l⟩:=ua r;exact⟨a,us,rfl,.inl ⟨wl s sq,λp hp=>q _ _ _ (zP.lay s hp) ⟨p,us,rfl,ye.of yT,rs.mono (wz (s.free hp) _),l⟩⟩⟩
 | [.tup xs],hf=>
  cases hf;obtain⟨v,rfl,a,us,rfl,sq,rs,l⟩:=ua r;exact⟨a,us,rfl,.inr ⟨vf s sq,q _ _ _ (zP.refl s) ⟨a,us,rfl,sq,rs,l⟩⟩⟩
def XQ(x:D):List D->Nat->Option Nat
 | [],_=>none
 |y::ys,n=>match yn y x with
  |true=>some n
  |false=>XQ x ys (n+1)
def ur:D->D->Option D
 |.lst ys,x=>match yu x&&ys.all yu with
  |true=>(XQ x ys 0).bind λn=>some (.int n)
  |false=>none
 |_,_=>none
theorem DX{x:D}:∀{ys:List D}{n m:Nat},XQ x ys n=some m->∃j y,m=n+j/\ys[j]?=some y/\yn y x=true/\∀i z,i<j->ys[i]?=some z->yn z x=false
 | [],_,_,h=>by cases h
 |y::ys,n,m,h=>by
  change (match yn y x with|true=>some n|false=>XQ x ys (n+1))=some m at h
  cases c:yn y x with
  |true=>
   rw[c]at h;cases h;exact⟨0,y,rfl,rfl,c,λi z hi=>absurd hi (Nat.not_lt_zero _)⟩
  |false=>
   rw[c]at h;obtain⟨j,y',e1,e2,e3,e4⟩:=DX h;refine⟨j+1,y',by omega,by simpa using e2,e3,λi z hi ez=>?_⟩;cases i with
   |zero=>cases ez; exact c
   |succ i=>exact e4 i z (by omega) (by simpa using ez)
theorem R7:Qh X "list.index" (λx vs H Q=>∃(a:Addr) (us:List V) (y:V) (j:Nat) (u:V),x=.ref a/\vs=[y]/\yI X.K H a us/\ut y=true/\us.all ut=true/\us[j]?=some u/\u9 u y=true/\(∀i z,i<j->us[i]?=some z->u9 z y=false)/\Q (.int (j:Int)) H):=by
 intro z0 s σ H x xs v us' Q I rx rs h;obtain⟨a,us,y,j,u,rfl,rfl,sq,fy,fu,eu,hit,no,q⟩:=h;cases rx;obtain⟨w,rfl,ry⟩:=vU rs;obtain⟨its,r,⟨⟨c1,d1,t1,sl1⟩,n1,ho,hc,hd,ht⟩,hz⟩:=I.list sq;simp only at hc ht;subst hc ht;have hl:=r.length;have hj:j<us.length:=(yD.mp eu).1
 have key:∀(i:Nat)(z:V)(hi:i<its.toArray.size),us[i]?=some z->vY y its.toArray[i]=u9 z y:=λi z hi ez=>by
  obtain⟨t,et,rt⟩:=r.get ez
  have e:its.toArray[i]=t:=by
   have h2:its[i]?=some its[i]:=xD (by rw[yP]at hi; exact hi);rw[h2]at et;simpa using et
  rw[e];exact JM rt (ud.mp fu z (Tt ez))
 have hjs:j<its.toArray.size:=by rw[yP,<-hl]; exact hj
 have hsz:=kF;refine Ym PySem.F.slot_list_index ⟨_,ho,rfl⟩ PySem.F.entry_list_index (PySem.F.args_list_index_2 _ _) (SeqAt.list_indexAt a its.toArray n1 d1 sl1 w (vY y) j hjs (by omega) (by rw[key j u hjs eu]; exact hit) λm hm hlt=>?_) ⟨ho,λt ht=>?_,⟨.int j,H,I.tok _,⟨_,rfl⟩,q⟩⟩
 ·have hm':m<us.length:=by rw[yP,<-hl]at hm; exact hm
  rw[key m us[m] hm (xD hm')];exact no m _ hlt (xD hm')
 ·exact Y0 ry fy r fu t (by simpa using ht)
theorem EN{fo:FE}(ho:SE X o fo)(he:SE X e f)(hbase:attributeBase o "index" X.env (eval o X.env)=eval o X.env:=by rfl)(hline:(apos.endLine==cpos.line)=true:=by rfl)(hs:yZ e=true:=by rfl) :
  SE X (.Call (.Attribute o "index" apos) [e] [] cpos) (e2 ur fo f):=by
 obtain⟨to,po,ko⟩:=ho.h;obtain⟨te,pe,ke⟩:=(zA he zR hs).h;refine⟨⟨_,(Cf PySem.F.plainAttrs_list PySem.F.slot_list_index PySem.F.type_list_index R7 ⟨po⟩ ⟨pe⟩ hbase hline (by rw[xh,hs]; rfl) (by show 1<30; decide)).h,λ{G0 H0 G H τ σ d Q} E hf q=>?_⟩⟩;obtain⟨x,hx,hf⟩:=zC hf;obtain⟨y,hy,hf⟩:=zC hf;refine ko E hx λv G1 H1 x1 r1=>?_
 cases x with
 |lst ys=>
  obtain⟨a,us,rfl,sq,rs,_⟩:=r1;refine⟨.inl ⟨rfl,us,wl x1.gh sq⟩,ke (E.go x1) (ds:=[y]) (by unfold z8; rw[hy]; rfl) λws G2 H2 x2 r2=>?_⟩;obtain⟨w,rfl,rw_⟩:=ua r2
  change (match yu y&&ys.all yu with|true=>(XQ y ys 0).bind λn=>some (D.int n)|false=>none)=some d at hf
  cases c:(yu y&&ys.all yu)with
  |false=>rw[c]at hf; cases hf
  |true=>
   rw[c]at hf;obtain⟨n,hn,hf⟩:=zC hf;cases hf;rw[yC]at c;obtain⟨j,z,e1,e2,e3,e4⟩:=DX hn;rw[wp]at e1;subst e1;have rs2:=rs.mono x2.g;obtain⟨u,eu,ru⟩:=rs2.get e2;have fl:∀{i:Nat}{z:D},ys[i]?=some z->yu z=true:=λ{i z} ez=>ud.mp c.2 z (Tt ez)
   refine⟨a,us,w,n,u,rfl,rfl,wl (x1.gh.trans x2.h) sq,kS c.1 rw_,(TB c.1 rw_ rs2 c.2).1,eu,by rw[Xf (fl e2) c.1 ru rw_]; exact e3,λi z hi ez=>?_,q _ _ _ (x1.trans x2) rfl⟩;obtain⟨dz,ed,rd⟩:=rs2.at ez;rw[Xf (fl ed) c.1 rd rw_];exact e4 i dz hi ed
 |_=>cases hf
theorem eI{i:Nat}{x:Str}{op:Operator}{ti:ZT}{F:D->D->Option D}{pos':Pos}(ho:VZ X op ti)(hF:vL X.K ti F)(hN:X.N.Nodup)(hi:X.N[i]?=some x)(hx:tH X.env.scope x)(he:SE X e f)(hf:X.fn x=true\/X.env.scope.names.lookup x=some .local:=by first|exact .inl rfl|exact .inr rfl|assumption) :
  SS X (.AugAssign (.Name x pos') op e pos) (xW i (e2 F (z6 i) f)):=by
 obtain⟨t,pt,k⟩:=he.h;refine⟨⟨_,CL hN hi hx pt ho hf,λ{G0 H0 G H τ σ fl E} K hf q=>?_⟩⟩;obtain⟨d,hd,hf⟩:=zC hf;cases hf;obtain⟨x,hx,hd⟩:=zC hd;obtain⟨y,hy,hd⟩:=zC hd;obtain⟨v,ev,rv⟩:=K.fr _ _ (Bh hx);refine⟨v,ev,k K hy λu G1 H1 x1 r1=>hF G1 H1 x y v u d _ x1.gh (rv.mono x1.g) r1 hd λw G2 H2 x2 r2=>?_⟩;exact q _ _ _ (((K.go x1).go x2).set (yD.mp hi).1 r2)
theorem Ry{K:W.Frag}:vL K (DR λi j=>i+j) (qi λi j=>i+j):=λG H x y u v d Q s rx ry hf q=>by
 cases x<;>first|(cases hf; done)|skip
 cases y<;>first|(cases hf; done)|skip
 cases hf;exact⟨_,_,rx,ry,q _ _ _ (zP.refl s) rfl⟩
variable{x:Str}{ps:List Str}{j k:Nat}{FF:List D->Option (Bool×D)}
end
def FR(n N:Nat)(b:FS)(ds:List D):Option (Bool×D):=if ds.length=n then zj N b ds else none
theorem yU{n N:Nat}{b:FS}:∀ds r,FR n N b ds=some r->ds.length=n/\zj N b ds=some r:=λds r h=>by
 unfold FR at h
 split at h
 ·rename_i c;exact⟨c,h⟩
 ·cases h
section
variable{X:Cx}{e o k v:Expr}{f fo fk fv:FE}{x:Str}{xp p pos apos cpos:Pos}
def Qm(K:W.Frag)(A:Addr):Prop:=∃o,K.lookup A=some o/\o.cls=.type "tuple" /\ o.dict=none
theorem Dv:∀(kvs acc:List (zN×V)),(kvs.map (·.1)).Nodup->(∀kv∈kvs,wm acc kv.1=none)->uy acc kvs=acc++kvs
 | [],acc,_,_=>by rw[vg]; rfl
 |kv::r,acc,nd,hn=>by
  rw[xA,Yh]at nd;have h0:=hn kv yr;show uy (xc acc kv.1 kv.2) r=_;rw[aR kv.2 h0,Dv r _ nd.2 (λkv' m=>?_)]
  ·rw[Lh]; rfl
  ·rw[Ew kv.1 kv'.1 kv.2 acc h0,zK (λe=>nd.1 (by rw[<-e]; exact Lo m))];exact hn kv' (xP _ m)
theorem GF:∀{ks:List Str}{vs:List V},(ks.map V.str).zip vs=(((ks.map Sum.inr:List zN).zip vs).map λkv=>(kV kv.1,kv.2))
 | [],_=>rfl
 |_::_,[]=>rfl
 |k::ks,v::vs=>by
  rw[xA,xA,uh,uh,xA,GF];rfl
theorem GD:∀{ks:List zN}{vs:List V},ks.length=vs.length->(ks.zip vs).map (·.1)=ks
 | [],[],_=>rfl
 |k::ks,v::vs,h=>by rw[uh,xA,GD (by simpa using h)]
theorem dN(hu:X.A.units+1<cLine)(ho:SE X o fo)(hk:SE X k fk)(hv:SE X v fv)(m:M2 X o "get" apos k v cpos):SE X (.Call (.Attribute o "get" apos) [k,v] [] cpos) (Bg fo fk fv):=by
 obtain⟨to,po,ko⟩:=ho.h;obtain⟨tk,pk,kk⟩:=hk.h;obtain⟨tv,pv,kv⟩:=hv.h;refine⟨⟨_,AZ hu po pk pv m,λ{G0 H0 G H τ σ d Q} E hf q=>?_⟩⟩;obtain⟨x,hx,hf⟩:=zC hf;refine ko E hx λw G1 H1 x1 r1=>?_
 cases x with
 |dic ks ds=>
  obtain⟨y,hy,hf⟩:=zC hf;obtain⟨z,hz,hf⟩:=zC hf;obtain⟨key,hkey,hf⟩:=zC hf;cases hf;obtain⟨a,vs,rfl,sq,l,rs,_⟩:=r1;refine⟨a,rfl,.inl ⟨_,Rd.mono x1.gh sq⟩,kk (E.go x1) hy λu G2 H2 x2 r2=>kv ((E.go x1).go x2) hz λw' G3 H3 x3 r3=>?_⟩;refine⟨wm (ks.zip vs) key,.inl ⟨_,key,Rd.mono (x1.gh.trans (x2.h.trans x3.h)) sq,jk hkey r2,rfl⟩,?_⟩;rw[g8 key l];have rs3:=rs.mono (x2.g.trans x3.g);cases c:getK ks ds key with
  |none=>
   rw[c]at q;rw[DA (by rw[rs.length]) c];exact q _ _ _ (x1.trans (x2.trans x3)) r3
  |some d'=>
   rw[c]at q;obtain⟨z',hz',rz'⟩:=rs3.getK c;rw[hz'];exact q _ _ _ (x1.trans (x2.trans x3)) rz'
 |_=>cases hf
def ww(i:Int):Nat:=Builtin.Int.intBits i
def JV:D->D->Option D:=fI (λi j=>decide (ww i+ww j<=134217728)) (·*·)
theorem A8:yE X (binaryOp .Mult) (rI (λi j=>ww i+ww j<=134217728) λi j=>.int (i*j)):=Y6 λi j _ _ _ _ _ hc q=>mul_int q (by
 unfold IntMulOk;intro h;rw[yC]at h;have h2:decide (((Builtin.Int.intBits i+Builtin.Int.intBits j:Nat):Int)>(134217728:Nat))=true:=h.2;have h3:=yy h2;have h4:Builtin.Int.intBits i+Builtin.Int.intBits j<=134217728:=hc;omega)
theorem Sc{K:W.Frag}:vL K (rI (λi j=>ww i+ww j<=134217728) λi j=>.int (i*j)) JV:=kH λ_ _ h=>yy h
end
open PySem.W
theorem G8:∀{ns:List Int}{m:Int},m∈ns->ww m<=WData.weightAll (ns.map WData.int)
 | [],_,h=>by cases h
 |n::ns,m,h=>by
  have e:WData.weightAll ((n::ns).map WData.int)=ww n+1+WData.weightAll (ns.map WData.int):=by
   show WData.weightAll (WData.int n::ns.map WData.int)=_;rw[WData.weightAll];rfl
  rw[e];rcases yY.mp h with rfl|h
  ·omega
  ·have:=G8 h;omega
theorem Pc{ns:List Int}(h:WData.layableAll [.list (ns.map WData.int)]=true):∀m∈ns,ww m<=1048576:=λm hm=>by
 have h1:WData.layable (.list (ns.map WData.int))=true:=ud.mp h _ (Tv.mpr rfl);unfold WData.layable at h1;rw[yC]at h1;have h2:WData.weight (.list (ns.map WData.int))<=2 ^ 20:=yy h1.2;have h3:=G8 hm;have h4:WData.weight (.list (ns.map WData.int))=WData.weightAll (ns.map WData.int):=by rw[WData.weight]
 omega
section
variable{P:Program}{w:World}{K:W.Frag}{mg:Str->Option Value}{base:Heap}
def Wj(K:W.Frag):Sp:=λvs H Q _=>∃(a:Addr) (ns:List Int),vs=[.ref a]/\yI K H a (ns.map V.int)/\ns.length<=63/\(∀m∈ns,ww m<=1048576)/\∀H',Q (.bl true) H'
end
theorem walkB{l:W.OpenLaw}{n k:Nat}{q:Program}{loose:List Str}{XP:(Str->Option Value)->Heap->Prop}{YP:World->Heap->Prop}{d:DefRec}{K:Params->W.Frag}{sp:W.Frag->Sp}{x:Str}
  (hn:l.most=some n)(hn2:n<=sizeLine)(hdf:d.params.defaults=[])(hr:yS k callerA)(hY:∀(w:World)(h:Heap),YP w h->(K w.params).In h)
  (F:∀(w:World)(mg:Str->Option Value)(fa:Addr)(h:Heap),(K w.params).In h->h.Ns mainGlobals mg->mg d.name=some (.ref fa)->
   ∃fd:FuncData,(∀(s:Shared)(u:Value),BindsTo s fd ⟨[u],[]⟩ [(x,u)])/\∀base:Heap,(K w.params).In base->base.Ns mainGlobals mg->yz l.prog w (K w.params) mg base xB k fa fd [x] (sp (K w.params)))
  (hsp:∀(K:W.Frag)(H:Hp)(a:Addr)(ns:List Int),ns.length<=n->(∀m∈ns,ww m<=1048576)->yI K H a (ns.map V.int)->sp K [.ref a] H (λv _=>v=.bl true) λ_ _ _=>False) :
  W.WalkO q loose XP YP l.row.toRowW d [] (λf vs=>PySem.call f vs):=by
 intro w s0 s1 mg mb Gr Y fa o pm cd doc dV kV ho hd hcd hD hmg hg args vals as hpre hlay hrd hwl hlo;have e1:dV=.none:=Dflts.none hD hdf;have e2:kV=.none:=Dflts.noKw hD;subst e1 e2;obtain⟨a,vs,ns,rfl,rfl,hobj,hints,hlen⟩:=Att.script_of hn hpre hwl;have KX:=hY w _ Y;obtain⟨fd,hb,hF⟩:=F w mg fa _ KX Gr.T.g hmg;have main:=Pa KX Gr.T.g Gr.T.b Gr.T.builtins Gr.T.nolimit hg hobj hints (wo hlen hn2) hr hF hb (λH _ hS=>hsp _ H a ns hlen (Pc hlay) hS) (λ_ _ _ z=>z);refine enter_call (Q2 main λr s' hq=>?_);obtain⟨rfl,h2,h3,h4⟩:=hq;refine⟨.inl ⟨.bool true,.bool true,[],rfl,λ_=>rfl,.bool true,Att.post_true l _,λ_=>?_⟩,h2,h3,h4⟩;exact⟨List.Pairwise.nil,λ_ hm=>nomatch hm⟩
end L3
namespace L3
open PySem PySem.Spec PyProof.Rows L2
theorem Kg{prog:Program}{w:World}{A:Around}{E:Value->Shared->Prop}{s:Shared}{a:Addr}{o:Obj}{xs:Array Value}{k:Nat}{name:Str}{Q:Option Value->Shared->Prop}
  (hx:s.heap.get? a=some o)(hc:o.cls=.type "list")(hdat:o.data=.seq xs k)(hd:o.dict=none)(hmiss:typeLookup (.type "list") name=pure none)
  (hname:(["__module__", "__name__", "__qualname__", "__doc__", "__annotations__"]:List Str).contains name=false)(hA:A.handled=none)
  (h:∀h' tk,(∀b ob,s.heap.get? b=some ob->h'.get? b=some ob)->Q none { s with heap:=h',toks:=tk })(hsz:name.length+100<=sizeLine) :
  wpAny (model prog w) A (getAttr? (.ref a) name) Q E s:=by
 obtain⟨c,dct,dat,sl⟩:=o;simp only at hc hdat hd;subst hc hdat hd;obtain⟨hp,g,d,tk,os⟩:=s;have hT:∀tk',(⟨hp,g,d,tk',os⟩:Shared).TypeIs (.ref a) "list" := λ_=>⟨_,hx,rfl⟩
 have f1:=sub_AttributeError;have f3:=LY.lookup;have f4:=LY.bind (.ref a);have f5:=am_list_getattr_none;unfold getAttr? getAttrBy? getAttrBy
 repeat (any_goals (first|assumption|exact hT _|((with_reducible show wpAny _ _ (call (Value.builtin "list.__getattribute__") _ _) _ _ _); refine Ym LY (hT _) am_entry_list_getattribute (F.args_list_getattribute_2 _ _) (meets_getattribute_miss_list a xs k sl name _ hmiss hname hsz) ⟨hx,hA,λh' tk' e hx'=>?_⟩)|wp_step))
 obtain⟨t',u',he⟩:=hx'.there;show wpAny _ _ (getattributeRaised _ _ _ _ _ _ _) _ _ _;unfold getattributeRaised
 repeat (any_goals (first|assumption|wp_step))
 exact h _ _ hx'.keeps
theorem T4:plainId "dict.update.loop" = true:=by decide +kernel
theorem Bk:entryFor table "dict.update.loop" = some Builtin.«dict.update.loop»:=entryFor_of_fast (by kernel_rfl)
theorem _root_.PySem.Heap.DictOf.Q9{prog:Program}{w:World}{h h':Heap}{a:Addr}{kvs:List (zN×Value)}(hm:h.DictOf (yq prog w) a kvs)(k:∀o,h.get? a=some o->h'.get? a=some o):h'.DictOf (yq prog w) a kvs:=
 let ⟨o',es,ep,ho,r⟩:=hm; ⟨o',es,ep,k _ ho,r⟩
theorem eS(kvs:List (zN×Value))(k:zN)(v:Value):(stored kvs k v).length<=kvs.length+1:=by
 unfold stored
 split
 ·rw[zo]; omega
 ·rw[yL]; exact yF _
def Ql(h:Heap)(v:Value)(k:zN)(x:Value):Prop:=∃b key,v=.ref b/\jj k key=true/\IsTup h b #[key,x]
theorem Eu{prog:Program}{w:World}{A:Around}{R:Result->Shared->Prop}{d it l:Addr}{its:List Value}(hA:A.handled=none)(hdl:d≠l)(hdi:d≠it)(hli:l≠it) :
  ∀(kvs:List (zN×Value)) (i:Nat) (acc:List (zN×Value)) (s:Shared),s.heap.IsListIter it l i->s.heap.IsList l its.toArray->i+kvs.length=its.length->(∀j kv,kvs[j]?=some kv->∃v,its[i+j]?=some v/\Ql s.heap v kv.1 kv.2)->
   s.heap.DictOf (yq prog w) d acc->acc.length+kvs.length<=sizeLine->(∀h' tk,h'.DictOf (yq prog w) d (kvs.foldl (λa kv=>stored a kv.1 kv.2) acc)->(∀b o,b≠d->b≠it->s.heap.get? b=some o->h'.get? b=some o)->R (.ok (.ret .none)) { s with heap:=h',toks:=tk })->
   wpAny (model prog w) A.in1 (Builtin.«dict.update.loop» ⟨[.ref d,.ref it,rawInt i,.none],[]⟩) (λfin s'=>match fin with|.done f=>R (.ok f) s'|.again c'=>c'.quiet=true/\codeAny (model prog w) A c' R s') (λe s'=>R (.error e) s') s
 | [],i,acc,s,st,hl,hn,hp,hd,hz,h=>by
  unfold Builtin.«dict.update.loop»;refine zO (wpAny_pyNext_list_end (by exact hA) st hl (by simp at hn ⊢; omega) λh' eb=>?_);show wpAny _ _ (Builtin.Dict.addKeywords d [] >>= _) _ _ _;refine zO (yG (yG ?_));exact h h' s.toks (hd.Q9 λo e=>eb d o hdi e) (λb o _ hb e=>eb b o hb e)
 |kv::kvs,i,acc,s,st,hl,hn,hp,hd,hz,h=>by
  obtain⟨v,hv,b,key,rfl,hk,ht⟩:=hp 0 kv rfl;unfold Builtin.«dict.update.loop»;refine zO (wpAny_pyNext_list_item st hl (x:=.ref b) (by simpa using hv) λh1 st1 sb=>?_);have keep1:∀c o,c≠it->s.heap.get? c=some o->h1.get? c=some o:=λc o hc e=>(sb.2 c hc).trans e
  have notIt:∀{c:Addr}{xs:Array Value},IsTup s.heap c xs->c≠it:=λ{c xs} t e=>by
   subst e;obtain⟨o,e1,c1,_⟩:=t;obtain⟨o',e2,c2,_⟩:=st;rw[e1]at e2;cases e2;rw[c1]at c2;exact absurd (Value.type.inj c2) (by decide)
  have notD:∀{c:Addr}{xs:Array Value},IsTup s.heap c xs->c≠d:=λ{c xs} t e=>by
   subst e;obtain⟨o,e1,c1,_⟩:=t;obtain⟨o',es,ep,e2,c2,_⟩:=hd;rw[e1]at e2;cases e2;have c3:=c2.1;rw[c1]at c3;exact absurd (Value.type.inj c3) (by decide)
  obtain⟨o,ho,hc,n,hdat⟩:=ht;have ho1:=keep1 b o (notIt ⟨o,ho,hc,n,hdat⟩) ho;have hd1:h1.DictOf (yq prog w) d acc:=hd.Q9 λo e=>keep1 d o hdi e
  refine zO (gE (zO (wpAny_tryCatch ?_)));unfold Builtin.Dict.pairItems;refine zO (Q6 (T := "tuple") ⟨o,ho1,hc⟩ ?_);rw[zI (by rfl)];refine zO (jI ho1 hdat (yG ?_));refine gE (wpAny_dictSet_pairs (knd:=yq prog w) (k:=kv.1) hk hd1 (λh2 hd2 sb2=>?_) (by omega));refine yG ⟨plainId_quiet T4 _,Q1 Bk ?_⟩;rw[LR T4 _];have keep2:∀c o,c≠d->c≠it->s.heap.get? c=some o->h2.get? c=some o:=λc o h1' h2' e=>(sb2.2 c h1').trans (keep1 c o h2' e)
  have key2:∀{c:Addr}{xs:Array Value},IsTup s.heap c xs->IsTup h2 c xs:=λ{c xs} t=>by
   have a1:=notD t;have a2:=notIt t;obtain⟨o,e1,r⟩:=t;exact⟨o,keep2 c o a1 a2 e1,r⟩
  refine Eu (its:=its) hA hdl hdi hli kvs (i+1) (stored acc kv.1 kv.2) _ ?_ ?_ (by rw[yO]at hn; omega) (λj kv' e=>?_) hd2 ?_ λh' tk hd' kp=>?_
  ·exact st1.at λo e=>(sb2.2 it (λz=>hdi z.symm)).trans e
  ·obtain⟨o,e,r⟩:=hl;exact⟨o,keep2 l o (λz=>hdl z.symm) hli e,r⟩
  ·obtain⟨v',hv',b',key',rfl,hk',ht'⟩:=hp (j+1) kv' (by simpa using e);exact⟨_,by rw[show i+1+j=i+(j+1) by omega]; exact hv',b',key',rfl,hk',key2 ht'⟩
  ·have:=eS acc kv.1 kv.2;rw[yO]at hz;omega
  ·exact h h' tk hd' λc o h1' h2' e=>kp c o h1' h2' (keep2 c o h1' h2' e)
theorem Hn{prog:Program}{w:World}{A:Around}{E:Value->Shared->Prop}{s:Shared}{l:Addr}{o:Obj}{its:List Value}{n:Nat}{kvs:List (zN×Value)}{Q:Value->Shared->Prop}(hA:A.handled=none)(ho:s.heap.get? l=some o)(hc:o.cls=.type "list")(hdd:o.dict=none)(hdat:o.data=.seq its.toArray n)
  (hn:kvs.length=its.length)(hp:∀(j:Nat)(kv:zN×Value),kvs[j]?=some kv->∃v,its[j]?=some v/\Ql s.heap v kv.1 kv.2)(hz:kvs.length<=sizeLine)
  (h:∀h' tk,h'.DictOf (yq prog w) s.heap.objs.size (kvs.foldl (λa kv=>stored a kv.1 kv.2) [])->(∀b o,s.heap.get? b=some o->h'.get? b=some o)->Q (.ref s.heap.objs.size) { s with heap:=h',toks:=tk }) :
  wpAny (model prog w) A (call (.type "dict") [.ref l]) Q E s:=by
 refine callType_codes (Q₁:=λobj s₁=>obj=.ref s.heap.objs.size/\s₁={ s with heap:=s.heap.push { cls:=.type "dict",data:=.dict #[] } }) F.kt_called_dict (F.kt_typeCall_dict_1 _) F.entry_dict_init (kt_code_dict_new _ ⟨rfl,rfl⟩) ?_;rintro obj s₁ ⟨rfl,rfl⟩;have hnew:(s.heap.push { cls:=.type "dict",data:=.dict #[] }).DictOf (yq prog w) s.heap.objs.size []:=Heap.DictOf.new s.heap;refine⟨hnew.typeIs,F.args_dict_init_2 _ _,?_⟩;unfold Builtin.«dict.__init__»;refine zO ?_;unfold Builtin.Dict.selfAndRest;refine zO (wpAny_notOrdered_dict hnew.typeIs ?_);show wpAny _ _ (pure (s.heap.objs.size,[Value.ref l])) _ _ _;refine yG ?_;show wpAny _ _ (Builtin.Dict.updateFrom "dict.__init__" s.heap.objs.size (.ref l) [] .none) _ _ _;unfold Builtin.Dict.updateFrom;have hlt:=Heap.lt_size ho;have ho1:(s.heap.push { cls:=.type "dict",data:=.dict #[] }).get? l=some o:=Heap.get?_push_of_some _ ho;refine zO (Q6 (T := "list") ⟨o,ho1,hc⟩ ?_);rw[zI (by rfl)];refine zO (Kg (o:=o) ho1 hc hdat hdd (am_miss_of_fast (by kernel_rfl)) (by decide) (by exact hA) (λh1 tk1 kp1=>?_) (by decide));rw[zI (by rfl)];have hd1:h1.DictOf (yq prog w) s.heap.objs.size []:=hnew.Q9 λo e=>kp1 _ _ e
 have ho2:h1.get? l=some o:=kp1 _ _ ho1;have hl1:h1.IsList l its.toArray:=⟨o,ho2,hc,n,hdat⟩
 have hd1lt:s.heap.objs.size<h1.objs.size:=by
  obtain⟨o',_,_,e,_⟩:=hd1;exact Heap.lt_size e
 show wpAny _ _ (pure () >>= _) _ _ _;refine zO (yG (zO ?_));refine VD (s:={ s with heap:=h1,toks:=tk1 }) hl1 ?_;refine yG ⟨plainId_quiet T4 _,Q1 Bk ?_⟩;rw[LR T4 _];have k0:∀b ob,s.heap.get? b=some ob->(h1.push { cls:=.type "list_iterator",data:=.fields #[.ref l,.int 0 0] }).get? b=some ob:=λb ob e=>Heap.get?_push_of_some _ (kp1 b ob (Heap.get?_push_of_some _ e))
 refine Eu (l:=l) (its:=its) (A:=A.in1) (by exact hA) (xV (qS hlt)) (xV (xz hd1lt)) (xV (xz (Ty hlt hd1lt))) kvs 0 [] _ ⟨_,Heap.get?_push_size _ rfl,rfl,rfl⟩ ⟨o,k0 l o ho,hc,n,hdat⟩ (by rw[wp]; exact hn) (λj kv e=>?_) (hd1.push _) (by simpa using hz) λh' tk hd' kp=>?_
 ·obtain⟨v,hv,b,key,rfl,hk,o',e1,r⟩:=hp j kv e;exact⟨_,by rw[wp]; exact hv,b,key,rfl,hk,o',k0 b o' e1,r⟩
 ·refine⟨rfl,h h' tk hd' λb ob e=>?_⟩;have hb:=Heap.lt_size e;exact kp b ob (xV (xz hb)) (xV (xz (Ty hb hd1lt))) (k0 b ob e)
section
variable{X:Cx}
theorem C4{z0:List (Addr×Obj)}{σ:St}{H:Hp}{s:Shared}(I:zB X z0 σ H s):∀{kvs:List (zN×V)} {vs:List V} {its:List Value},zc vs its->kvs.length=vs.length->(∀(j:Nat)(kv:zN×V),kvs[j]?=some kv->∃b,vs[j]?=some (V.ref b)/\ye X.K H b [kV kv.1,kv.2])->
  ∃ws:List (zN×Value),KV kvs ws/\∀(j:Nat)(kw:zN×Value),ws[j]?=some kw->∃v,its[j]?=some v/\Ql s.heap v kw.1 kw.2
 | [],_,_,_,_,_=>⟨[],.nil,λj kw e=>by cases e⟩
 |kv::kvs,[],_,_,h,_=>by cases h
 |kv::kvs,_::vs,_::its,.cons r t,h,hp=>by
  obtain⟨ws,rk,hw⟩:=C4 I t (by simpa using h) λj kv' e=>by
   obtain⟨b,e1,q⟩:=hp (j+1) kv' (by simpa using e);exact⟨b,by simpa using e1,q⟩
  obtain⟨b,e1,sq⟩:=hp 0 kv rfl;cases e1;obtain⟨is,ri,pt,_⟩:=I.tuple sq;obtain⟨key,x,rfl,rkey,rx⟩:=L7 ri;refine⟨(kv.1,x)::ws,.cons ⟨rfl,rx⟩ rk,λj kw e=>?_⟩;cases j with
  |zero=>
   cases e;exact⟨_,rfl,b,key,r,qH (P:=X.prog) (w:=X.w) rkey,pt⟩
  |succ j=>
   obtain⟨v,e2,q⟩:=hw j kw (by simpa using e);exact⟨v,by simpa using e2,q⟩
def aj(K:W.Frag):List V->Hp->VK->Prop:=λxs H Q=>∃a vs kvs,xs=[.ref a]/\yI K H a vs/\kvs.length=vs.length/\(∀(j:Nat)(kv:zN×V),kvs[j]?=some kv->∃b,vs[j]?=some (.ref b)/\ye K H b [kV kv.1,kv.2])/\∀p,H p=none->Q (.ref p) (zS H p (.dK (uy [] kvs)))
theorem Hm(hcalm:X.calm=true):xY X (.type "dict") (aj X.K):=by
 intro z0 s σ H xs us Q I r h;obtain⟨a,vs,kvs,rfl,sq,hl,hp,q⟩:=h;obtain⟨u,rfl,ru⟩:=vU r;cases(show u=Value.ref a from ru);obtain⟨its,rv,⟨o,n,ho,hc,hdd,hdat⟩,hz⟩:=I.list sq;obtain⟨ws,rk,hw⟩:=C4 I rv hl hp;have hlw:ws.length=its.length:=by rw[<-rk.length,hl,rv.length]
 refine Hn (I.ok.hd hcalm) ho hc hdd hdat hlw hw (by rw[hlw,<-rv.length]; exact hz) λh' tk dd kp=>?_
 have hle:(uy [] kvs).length<=sizeLine:=by
  have h1:=Im kvs [];rw[V1]at h1;omega
 have hm:(s.heap.objs.size==sysModules)=false:=by
  have:=I.big;rw[jF];exact xV (qS this)
 exact⟨.ref s.heap.objs.size,_,I.laid (a:=s.heap.objs.size) (o:=.dK (uy [] kvs)) (t':=tk) kp (yF _) (UE hle hm (rk.merge .nil) dd),rfl,q _ I.fresh⟩
end
def Uq:List D->Option (List (Sum Int Str)×List D)
 | []=>some ([],[])
 |.tup [k,v]::r=>(vN k).bind λk=>(Uq r).bind λp=>some (k::p.1,v::p.2)
 |_=>none
def xy{α:Type}:List (Sum Int Str)->List α->List (Sum Int Str)->List α->List (Sum Int Str)×List α
 |ks,ds,k::r,v::q=>xy (xf ks k) (ya ks ds k v) r q
 |ks,ds,_,_=>(ks,ds)
def UK:List D->Option D
 | [.lst xs]=>(Uq xs).bind λp=>some (.dic (xy [] [] p.1 p.2).1 (xy [] [] p.1 p.2).2)
 |_=>none
theorem CW:∀{ks:List zN}{us:List V}{as:List zN}{vs:List V},ks.length=us.length->as.length=vs.length->uy (as.zip vs) (ks.zip us)=(xy as vs ks us).1.zip (xy as vs ks us).2/\(xy as vs ks us).1.length=(xy as vs ks us).2.length
 | [],[],as,vs,_,h=>⟨rfl,h⟩
 |k::ks,u::us,as,vs,h1,h2=>by
  have ih:=CW (ks:=ks) (us:=us) (as:=xf as k) (vs:=ya as vs k u) (by simpa using h1) (YA h2);refine⟨?_,ih.2⟩;show uy (xc (as.zip vs) k u) (ks.zip us)=_;rw[Ww h2];exact ih.1
theorem CV{K:W.Frag}{G:Hp}:∀{ks:List zN}{es:List D}{us:List V}{as:List zN}{ds:List D}{vs:List V},Reps K G es us->Reps K G ds vs->ks.length=us.length->as.length=vs.length->Reps K G (xy as ds ks es).2 (xy as vs ks us).2/\(xy as ds ks es).1=(xy as vs ks us).1
 | [],es,us,as,ds,vs,r1,r2,h1,h2=>by
  have e1:xy as ds [] es=(as,ds):=by unfold xy; rfl
  have e2:xy as vs [] us=(as,vs):=by unfold xy; rfl
  rw[e1,e2];exact⟨r2,rfl⟩
 |k::ks,es,[],as,ds,vs,r1,r2,h1,h2=>by cases h1
 |k::ks,[],u::us,as,ds,vs,r1,r2,h1,h2=>by cases(show _=[]from r1)
 |k::ks,e::es,_::_,as,ds,vs,r1,r2,h1,h2=>by
  obtain⟨v,r,ev,hv,hr⟩:=r1;cases ev;exact CV (ks:=ks) (es:=es) (as:=xf as k) hr (r2.put hv) (by simpa using h1) (YA h2)
theorem CU{α:Type}:∀{ks:List zN}{es:List α}{as:List zN}{ds:List α},as.length=ds.length->(xy as ds ks es).2.length<=ds.length+es.length
 | [],es,as,ds,_=>by
  have e:xy as ds [] es=(as,ds):=by unfold xy; rfl
  rw[e];exact gC _ _
 |_::_,[],as,ds,_=>by
  have e:∀k ks,xy as ds (k::ks) ([]:List α)=(as,ds):=λ_ _=>by unfold xy; rfl
  rw[e];exact gC _ _
 |k::ks,e::es,as,ds,h=>by
  have ih:=CU (ks:=ks) (es:=es) (as:=xf as k) (ds:=ya as ds k e) (YA h);have:=OJ (ks:=as) (vs:=ds) (k:=k) (v:=e) h;show(xy (xf as k) (ya as ds k e) ks es).2.length<=_;rw[yO];omega
theorem Dc{K:W.Frag}{G:Hp}:∀{xs:List D}{vs:List V}{ks:List zN}{ds:List D},Uq xs=some (ks,ds)->Reps K G xs vs->∃us,Reps K G ds us/\ks.length=us.length/\ks.length=vs.length/\∀(j:Nat)(kv:zN×V),(ks.zip us)[j]?=some kv->∃b,vs[j]?=some (V.ref b)/\ye K G b [kV kv.1,kv.2]
 | [],_,_,_,h,r=>by
  cases h;cases(show _=[]from r);exact⟨[],rfl,rfl,rfl,λj kv e=>by cases e⟩
 |x::xs,_,ks,ds,h,r=>by
  obtain⟨v,r',rfl,hv,hr⟩:=r;unfold Uq at h
  split at h
  ·rename_i e; cases e
  ·rename_i k y r2 e;cases e;obtain⟨key,hk,h⟩:=zC h;obtain⟨⟨ks2,ds2⟩,h2,h⟩:=zC h;cases h;obtain⟨us,q1,q2,q3,q4⟩:=Dc h2 hr;obtain⟨b,ws,rfl,sq,⟨u1,_,rfl,hu1,⟨u2,_,rfl,hu2,e3⟩⟩,_⟩:=hv;cases(show _=[]from e3);refine⟨u2::us,⟨u2,us,rfl,hu2,q1⟩,by rw[yO,yO,q2],by rw[yO,yO,q3],λj kv e=>?_⟩;cases j with
   |zero=>
    cases e;refine⟨b,rfl,?_⟩;rw[<-jk hk hu1];exact sq
   |succ j=>
    obtain⟨b',e1,e2⟩:=q4 j kv (by simpa using e);exact⟨b',by simpa using e1,e2⟩
  ·cases h
theorem dW{X:Cx}{e:Expr}{fs:FA}{p pos:Pos}(hcalm:X.calm=true)(hg:Gl X "dict")(hm:X.mg "dict" = none)(hv:bootBuiltins "dict" = some (.type "dict"))(ha:SA X [e] fs)(hs:yZ e=true:=by rfl):SF X (.Call (.Name "dict" p) [e] [] pos) (eL UK fs):=by
 obtain⟨t,pt,k⟩:=ha.h;refine⟨⟨_,(YF (Hm hcalm) hg hm hv ⟨pt⟩ (by decide) (by decide) (by rw[xh,hs]; rfl)).h,λ{G0 H0 G H τ σ d Q} E hf q=>?_⟩⟩;obtain⟨ds,hd,hf⟩:=zC hf;refine k E hd λvs G1 H1 x1 r1=>?_
 unfold UK at hf
 split at hf
 ·rename_i xs;obtain⟨⟨ks,es⟩,hk,hf⟩:=zC hf;cases hf;obtain⟨v,rfl,a,ws,rfl,sq,rs,l⟩:=ua r1;obtain⟨us,q1,q2,q3,q4⟩:=Dc hk rs;obtain⟨z1,z2⟩:=CW (ks:=ks) (us:=us) (as:=[]) (vs:=[]) q2 rfl;obtain⟨z3,z4⟩:=CV (ks:=ks) (as:=[]) (ds:=[]) (vs:=[]) q1 rfl q2 rfl;refine⟨a,ws,ks.zip us,rfl,wl x1.gh sq,by rw[pA,q2,uI,<-q2,q3],λj kv e=>?_,λp hp=>?_⟩
  ·obtain⟨b,e1,e2⟩:=q4 j kv e;exact⟨b,e1,vf x1.gh e2⟩
  ·refine q p _ _ (x1.trans (zP.t8 x1.gh hp)) (x1.h.free hp) (x1.gh.free hp) ⟨(xy [] [] ks us).2,?_,?_,z3,?_⟩
   ·show zS H1 p (.dK (uy [] (ks.zip us))) p=some (.dK ((xy [] [] ks es).1.zip (xy [] [] ks us).2));rw[yT,z4];exact congrArg (λx=>some (HO.dK x)) z1
   ·show(xy [] [] ks es).1.length=_;rw[z4];exact z2
   ·have:=CU (ks:=ks) (es:=es) (as:=[]) (ds:=[]) rfl;have e1:es.length=ws.length:=by rw[<-q1.length,<-q2,q3]
    rw[rs.length]at e1;show(xy [] [] ks es).2.length<=sizeLine;simp only[V1,wp]at this;omega
 ·cases hf
open PyProof Builtin Builtin.Str
section
variable{X:Cx}{e o a b c:Expr}{f fo fa fb fc:FE}{x:Str}{xp p pos apos cpos:Pos}
theorem BC:bootBuiltins "dict" = some (.type "dict"):=by decide +kernel
def OX(i:Nat)(k v:FE):FS:=λσ=>(v σ).bind λy=>match σ[i]? with
 |some (some (true,.lst ds))=>(k σ).bind λx=>match x with
  |.int j=>(ixN ds.length j).bind λn=>some (.nx (σ.set i (some (true,.lst (ds.set n y)))))
  |_=>none
 |_=>none
theorem Reps.set{K:W.Frag}{G:Hp}{d:D}{v:V}(hv:zU K G d v):∀{ds:List D}{vs:List V}(n:Nat),Reps K G ds vs->Reps K G (ds.set n d) (vs.set n v)
 | [],_,_,r=>by cases(show _=[]from r); rfl
 |d'::ds,_,0,r=>by
  obtain⟨u,r',rfl,hu,hr⟩:=r;exact⟨v,r',rfl,hv,hr⟩
 |d'::ds,_,n+1,r=>by
  obtain⟨u,r',rfl,hu,hr⟩:=r;exact⟨u,_,rfl,hu,Reps.set hv n hr⟩
theorem eK{i:Nat}{k v:Expr}{fk fv:FE}{pos':Pos}(ho:QE X (.Name x xp) (Wq i))(hk:SE X k fk)(hv:SE X v fv)(hp:kN k=true:=by rfl)(hs:swapsWithSole [.Subscript (.Name x xp) k pos'] v pos.line X.env=pure false:=by rfl)
  (hw:swappedStores [.Subscript (.Name x xp) k pos'] v X.env=pure none:=by rfl)(h1:(assignEach [.Subscript (.Name x xp) k pos'] X.env).map (·.2)=[assign (.Subscript (.Name x xp) k pos') X.env]:=by rfl):SS X (.Assign [.Subscript (.Name x xp) k pos'] v pos) (OX i fk fv):=by
 obtain⟨tk,pk,kk⟩:=hk.h;obtain⟨tv,pv,kv⟩:=hv.h;refine⟨⟨_,OF pv (OM ho ⟨pk⟩ Oh hp).h hs hw h1,λ{G0 H0 G H τ σ fl E} K hf q=>?_⟩⟩;obtain⟨y,hy,hf⟩:=zC hf;refine kv K hy λw G1 H1 x1 r1=>?_
 split at hf
 ·rename_i ds hd;obtain⟨xk,hx,hf⟩:=zC hf;cases xk with
  |int j=>
   obtain⟨n,hn,hf⟩:=zC hf;cases hf;have K1:=K.go x1;obtain⟨aa,ea,g,z,vs,ev,rs,l⟩:=K1.ow _ _ hd;refine⟨_,ea,kk K1 hx λu G2 H2 x2 r2=>?_⟩;cases(show u=_ from r2);refine⟨aa,vs,j,n,rfl,rfl,x2.h _ _ ev,by rw[rs.length]; exact hn,?_⟩;exact q _ _ _ ((K1.go x2).VJ hd ea ⟨_,yT,Reps.set (r1.mono x2.g) n (rs.mono x2.g),by rw[vV]; exact l⟩)
  |_=>cases hf
 ·cases hf
end
end L3
namespace L2
open PySem PySem.Spec PyProof.Rows
def QZ(K:W.Frag)(a:Addr):It:=
  ⟨λi H=>∃xs x,yI K H a xs/\xs[i]?=some x,
   λi H v H'=>∃p,H p=none/\v=.ref p/\∀xs,yI K H a xs->∃x,xs[i]?=some x/\H'=zS H p (.tup [.int (i:Int),x]),
   λi H=>∃xs,yI K H a xs/\xs.length<=i⟩
theorem iE{P:Program}{w:World}{K:W.Frag}{elts:List Expr}{kk:Nat}{pos:Pos}(a e it:Addr)(hei:e≠it) :
  jX P w K (.Tuple elts kk pos) (QZ K a) [e,it] e (λi h=>(∃old,IsEnum h e it (i:Int) old)/\h.IsListIter it a i) where
 mem:=by simp
 obj:=λi h st c hc=>by
  obtain⟨⟨old,s1⟩,⟨o2,s2,_,d2⟩⟩:=st;simp only[yY,tm,or_false]at hc;rcases hc with rfl|rfl
  ·exact⟨_,s1,λv q=>nomatch q⟩
  ·exact⟨_,s2,λv q=>by rw[d2]at q; cases q⟩
 keep:=λi h h' st k=>by
  obtain⟨⟨old,s1⟩,s2⟩:=st;exact⟨⟨old,k e (by simp) _ s1⟩,s2.at λo x=>k it (by simp) o x⟩
 item:=by
  intro X hP hw hK hc i z0 s σ H E I hf st hg;subst hP hw hK;obtain⟨⟨old,s1⟩,s2⟩:=st;obtain⟨xs,x,hx,ex⟩:=hg;obtain⟨us,ru,pu,_⟩:=I.list hx;have pl:=pu.isList;obtain⟨xu,hxu,rxu⟩:=ru.get ex;have hx':us.toArray[i]?=some xu:=by rw[Ye]; exact hxu
  have lt1:e<s.heap.objs.size:=Heap.lt_size s1;have lt2:it<s.heap.objs.size:=by obtain⟨o,z,_⟩:=s2; exact Heap.lt_size z
  refine wpAny_pyNext_enum_item s1 s2 pl hx' hei λh1 heo hit1 ht1 hz1 hk1=>?_
  refine⟨_,rfl,wpAny_letOwnedTupleGo_enum (s:={ s with heap:=h1,toks:=s.toks+1 }) heo λh2 he2 hs2=>?_⟩
  replace hs2:Heap.SameBut e h1 h2:=hs2
  have hTs:s.heap.get? s.heap.objs.size=none:=by
   cases q:s.heap.get? s.heap.objs.size with
   |none=>rfl
   |some o=>exact absurd (Heap.lt_size q) (wL _)
  have hTf:H s.heap.objs.size=none:=I.zZ.fresh (yF _);have tup:h2.get? s.heap.objs.size=some { cls:=.type "tuple",data:=.seq #[.int i s.toks,xu] }:=hs2.extBut _ _ (qS lt1) ht1
  have kk:∀c o,c ∉ [e,it]->s.heap.get? c=some o->h2.get? c=some o:=λc o hc z=>by
   simp only[yY,tm,or_false,not_or]at hc;exact hs2.extBut _ _ hc.1 (hk1 c o hc.1 hc.2 z)
  have new:xG X.prog X.w (zS H s.heap.objs.size (.tup [.int (i:Int),x])) h2 s.heap.objs.size (.tup [.int (i:Int),x]):=⟨(by show 2<=sizeLine; decide),[.int i s.toks,xu],.cons ⟨_,rfl⟩ (.cons rxu .nil),⟨_,tup,rfl,_,rfl⟩⟩;refine⟨.ref s.heap.objs.size,zS H s.heap.objs.size (.tup [.int (i:Int),x]),I.MF (tk:=s.toks+1) hf kk hTs hTf new,rfl,⟨s.heap.objs.size,hTf,rfl,λxs' hx'=>?_⟩,⟨⟨xu,?_⟩,hit1.at λo z=>hs2.extBut _ _ hei.symm z⟩,λc hc=>?_⟩
  ·rw[I.VH hx' hx];exact⟨x,ex,rfl⟩
  ·rw[show((i+1:Nat):Int)=(i:Int)+1 from rfl];exact he2
  ·rw[yK]
   ·exact(hf c hc).1
   ·intro q
    have hlt:c<s.heap.objs.size:=by
     simp only[yY,tm,or_false]at hc;rcases hc with rfl|rfl
     ·exact lt1
     ·exact lt2
    rw[q]at hlt;exact absurd hlt (wL _)
 done:=by
  intro X hP hw hK hc i z0 s σ H E I hf st hg;subst hP hw hK;obtain⟨⟨old,s1⟩,s2⟩:=st;obtain⟨xs,hx,hend⟩:=hg;obtain⟨us,ru,pu,_⟩:=I.list hx;have pl:=pu.isList
  have hx':us.toArray[i]?=none:=by
   rw[Ye];exact V0 (by have:=ru.length; omega)
  refine wpAny_pyNext_enum_end (by exact I.ok.hd hc) s1 s2 pl hx' λh1 he1=>?_
  refine⟨rfl,I.but (tk:=s.toks) hf λc ob hcc eb=>?_⟩;simp only[yY,tm,or_false,not_or]at hcc;exact he1 c ob hcc.2 eb
 self:=λ_ _ _ _ _ st h=>by
  obtain⟨⟨old,s1⟩,_⟩:=st;exact wpAny_pyIter_enum s1 h
section
variable{X:Cx}
def Nd(K:W.Frag)(ta:TA):TI:=λσ H R=>ta σ H λvs H1=>∃a xs,vs=[.ref a]/\yI K H1 a xs/\R (QZ K a) H1
theorem As{a:Expr}{ta:TA}{p pos:Pos}{elts:List Expr}{kk:Nat}{tp:Pos}(hg:Gl X "enumerate")(hm:X.mg "enumerate" = none)(ha:PA X [a] ta)(hs:starEach [a] X.env=[(false,eval a X.env)]:=by rfl) :
  PI X (.Tuple elts kk tp) (.Call (.Name "enumerate" p) [a] [] pos) (Nd X.K ta):=by
 intro z0 s σ H R I h;refine Call_ (Zz I hg hm boot_enumerate (T_ (ze (ha pos z0 s σ H _ I h) λus s1 ⟨vs,H1,I1,r1,q1⟩=>?_) (by rw[hs]; rfl) rfl));obtain⟨l1,xs,rfl,hx,q⟩:=q1;obtain⟨u,rfl,ru⟩:=vU r1;cases(show u=Value.ref l1 from ru);obtain⟨us,_,pu,_⟩:=I1.list hx;refine call_enumerate_list pu.isList λh' a1 a2 hz kp=>?_
 have I2:zB X z0 σ H1 { s1 with heap:=h' }:=I1.kept (t':=s1.toks) kp;refine wpAny_pyIter_enum (s:={ s1 with heap:=h' }) a1 ?_;generalize hn:s1.heap.objs.size=n at a1 a2 hz;refine⟨n+1,[n+1,n],_,_,H1,rfl,I2,iE l1 (n+1) n (xV (by omega)),⟨⟨_,a1⟩,a2⟩,λc hc=>?_,q⟩
 have hle:s1.heap.objs.size<=c:=by
  rw[hn];simp only[yY,tm,or_false]at hc;rcases hc with rfl|rfl
  ·exact gC _ _
  ·exact yF _
 exact I1.k_ hle (I1.zZ.fresh hle)
end
end L2
namespace L3
open PySem PySem.Spec PyProof.Rows L2
def pU(xs:List D):List D:=List.zipWith (λ(i:Nat) x=>D.tup [.int (i:Int),x]) (List.range xs.length) xs
def Uf(a:FE):FA:=λσ=>(a σ).bind λd=>match d with
 |.lst xs=>some (pU xs)
 |_=>none
theorem XW(xs:List D):(pU xs).length=xs.length:=by simp[pU]
theorem Fa(xs:List D)(i:Nat):(pU xs)[i]?=(xs[i]?).map λx=>D.tup [.int (i:Int),x]:=by
 unfold pU;rw[GT];by_cases h:i<xs.length
 ·rw[List.getElem?_range h,xD h]; rfl
 ·rw[V0 (by simpa using h),V0 (by omega)]; rfl
section
variable{K:W.Frag}{G H:Hp}
theorem KP{a:Addr}{vs:List V}{xs:List D}(s1:yI K G a vs)(r1:Reps K G xs vs):jZ K (QZ K a) G (pU xs) where
 go:=λi G2 H g1 g2 hi=>by
  rw[XW]at hi;obtain⟨v,e1,_⟩:=r1.get (xD hi);exact⟨vs,v,wl (g1.trans g2) s1,e1⟩
 vz:=λi G2 H x H' g1 g2 hi y=>by
  obtain⟨p,hp,rfl,k⟩:=y;obtain⟨v,e1,rfl⟩:=k vs (wl (g1.trans g2) s1);obtain⟨d1,f1,q1⟩:=r1.at e1;refine⟨zS G2 p (.tup [.int (i:Int),v]),.tup [.int (i:Int),d1],zP.lay g2 hp,by rw[Fa,f1]; rfl,?_⟩;have sm:zg G (zS G2 p (.tup [.int (i:Int),v])):=g1.trans (wz (g2.free hp) _);exact⟨p,[.int (i:Int),v],rfl,ye.of yT,⟨_,_,rfl,rfl,⟨v,_,rfl,q1.mono sm,rfl⟩⟩,vR (n:=2) (by decide)⟩
 stop:=λi G2 H g1 g2 hi=>by
  rw[XW]at hi;exact⟨vs,wl (g1.trans g2) s1,by rw[r1.length]; exact hi⟩
end
theorem dh{X:Cx}{a:Expr}{fa:FE}{p pos:Pos}{elts:List Expr}{kk:Nat}{tp:Pos}(hg:Gl X "enumerate")(hm:X.mg "enumerate" = none)(ha:SE X a fa)(hs:yZ a=true:=by rfl):SI X (.Tuple elts kk tp) (.Call (.Name "enumerate" p) [a] [] pos) (Uf fa):=by
 obtain⟨t,pt,k⟩:=(zA ha zR hs).h;refine⟨⟨_,As hg hm pt (vv hs),λ{G0 H0 G H τ σ ds R} K hf q=>?_⟩⟩;obtain⟨x,hx,hf⟩:=zC hf;cases x<;>first|(cases hf; done)|skip
 cases hf;rename_i xs;refine k K (ds:=[.lst xs]) (by unfold z8; rw[hx]; rfl) λvs G1 H1 x1 r1=>?_
 obtain⟨v,r,rfl,hv,hr⟩:=r1;cases(show r=[]from hr);obtain⟨aa,vs1,rfl,s1,q1,l1⟩:=hv;exact⟨aa,vs1,rfl,wl x1.gh s1,q _ _ _ x1 (by rw[XW]; exact l1) (KP s1 q1)⟩
end L3
namespace L2
open PySem PySem.Spec PyProof PyProof.Rows
def kC(a:Int):List Int->List Int
 | []=>[a]
 |b::r=>if a<=b then a::b::r else b::kC a r
def isort:List Int->List Int
 | []=>[]
 |a::r=>kC a (isort r)
theorem IR(a:Int):∀l:List Int,(kC a l).Perm (a::l)
 | []=>Le _
 |b::r=>by
  unfold kC
  split
  ·exact Le _
  ·exact((IR a r).cons b).trans (List.Perm.swap a b r)
theorem isort_perm:∀l:List Int,(isort l).Perm l
 | []=>Le _
 |a::r=>(IR a _).trans ((isort_perm r).cons a)
theorem DN(a:Int):∀{l:List Int},l.Pairwise (·<=·)->(kC a l).Pairwise (·<=·)
 | [],_=>by simp[kC]
 |b::r,h=>by
  obtain⟨h1,h2⟩:=V4.mp h;unfold kC
  split
  ·rename_i hab
   exact V4.mpr ⟨λx hx=>by
    rcases yY.mp hx with rfl|hx
    ·exact hab
    ·exact Int.le_trans hab (h1 x hx),h⟩
  ·rename_i hab;refine V4.mpr ⟨λx hx=>?_,DN a h2⟩;rcases yY.mp ((IR a r).mem_iff.mp hx)with rfl|hx
   ·omega
   ·exact h1 x hx
theorem IT:∀l:List Int,(isort l).Pairwise (·<=·)
 | []=>List.Pairwise.nil
 |a::r=>DN a (IT r)
theorem Om:∀{a b:List Int},a.Perm b->a.Pairwise (·<=·)->b.Pairwise (·<=·)->a=b
 | [],b,p,_,_=>(List.nil_perm.mp p).symm
 |x::a,[],p,_,_=>by cases p.length_eq
 |x::a,y::b,p,ha,hb=>by
  obtain⟨h1,h2⟩:=V4.mp ha;obtain⟨g1,g2⟩:=V4.mp hb
  have e:x=y:=by
   have hx:x∈y::b:=p.mem_iff.mp (yr ..);have hy:y∈x::a:=p.mem_iff.mpr (yr ..);rcases yY.mp hx with rfl|hx
   ·rfl
   ·rcases yY.mp hy with e|hy
    ·exact e.symm
    ·exact Int.le_antisymm (h1 y hy) (g1 x hx)
  subst e;rw[Om (List.perm_cons x |>.mp p) h2 g2]
theorem Ez:∀{ns:List Int}{its:List Value},zc (ns.map V.int) its->IntsAre its ns
 | [],_,.nil=>.nil
 |n::ns,_,.cons r rr=>by
  obtain⟨t,rfl⟩:=r;exact .cons _ _ (Ez rr)
theorem IS:∀{ns:List Int}{its:List Value},IntsAre its ns->zc (ns.map V.int) its
 | [],_,.nil=>.nil
 |_::_,_,.cons _ _ r=>.cons ⟨_,rfl⟩ (IS r)
section
variable{X:Cx}
theorem Hx:xY X (.builtin "sorted") (λxs H Q=>∃p ns,xs=[.ref p]/\yI X.K H p (ns.map V.int)/\ns.length<64/\∀l,H l=none->Q (.ref l) (zS H l (.lst ((isort ns).map V.int)))):=by
 intro z0 s σ H xs us Q I r h;obtain⟨p,ns,rfl,hq,h64,q⟩:=h;obtain⟨u,rfl,rx⟩:=vU r;cases rx;obtain⟨its,r',pl,hz⟩:=I.list hq;have hlen:=r'.length;rw[zo]at hlen;refine sorted_ints pl.isList (Ez r') (by omega) λout ns' a1 a2 a3=>?_
 have e:ns'=isort ns:=Om (a2.trans (isort_perm ns).symm) a3 (IT ns);subst e;obtain⟨c,hc⟩:=sortedAll_at s.heap its out;have hl2:(isort ns).length=ns.length:=(isort_perm ns).length_eq;refine⟨.ref (s.heap.objs.size+1),_,I.laid (t':=s.toks) (h':=sortedAll s.heap its out) (λ_ _=>sortedAll_old) (V7 _) (show xG X.prog X.w _ _ _ (.lst ((isort ns).map V.int))from⟨?_,out.toList,c,IS a1,?_⟩),rfl,q _ (I.zZ.fresh (V7 _))⟩
 ·rw[zo,hl2];show _<=sizeLine;rw[zo]at hz;exact hz
 ·rw[GG];exact hc
end
end L2
namespace L3
open PySem PySem.Spec PyProof.Rows L2
theorem BF:bootBuiltins "sorted" = some (.builtin "sorted"):=by decide +kernel
def intsOf:List D->Option (List Int)
 | []=>some []
 |.int i::r=>(intsOf r).bind λns=>some (i::ns)
 |_=>none
theorem DQ:∀{ds:List D}{ns:List Int},intsOf ds=some ns->ds=ns.map D.int
 | [],_,h=>by cases h; rfl
 |d::ds,ns,h=>by
  unfold intsOf at h
  split at h
  ·rename_i e; cases e
  ·rename_i i r e;cases e;obtain⟨ns',h1,h⟩:=zC h;cases h;rw[DQ h1];rfl
  ·cases h
theorem C_{K:W.Frag}{G:Hp}:∀{ns:List Int}{vs:List V},Reps K G (ns.map D.int) vs->vs=ns.map V.int
 | [],_,r=>r
 |n::ns,_,r=>by
  obtain⟨v,r',rfl,hv,hr⟩:=r;rw[C_ hr,show v=V.int n from hv];rfl
theorem DO{K:W.Frag}{G:Hp}:∀ns:List Int,Reps K G (ns.map D.int) (ns.map V.int)
 | []=>rfl
 |n::ns=>⟨.int n,_,rfl,rfl,DO ns⟩
def JY:List D->Option D
 | [.lst xs]=>(intsOf xs).bind λns=>if ns.length<64 then some (.lst ((isort ns).map D.int))else none
 |_=>none
theorem db{X:Cx}{e:Expr}{fs:FA}{p pos:Pos}(hg:Gl X "sorted")(hm:X.mg "sorted" = none)(ha:SA X [e] fs)(hs:yZ e=true:=by rfl):SF X (.Call (.Name "sorted" p) [e] [] pos) (eL JY fs):=by
 obtain⟨t,pt,k⟩:=ha.h;refine⟨⟨_,(Xd Hx hg hm BF ⟨pt⟩ (by decide) (by decide) (by rw[xh,hs]; rfl)).h,λ{G0 H0 G H τ σ d Q} E hf q=>?_⟩⟩;obtain⟨ds,hd,hf⟩:=zC hf;refine k E hd λvs G1 H1 x1 r1=>?_
 match ds,hf with
 | [.lst xs],hf=>
  obtain⟨ns,hn,hf⟩:=zC (show(intsOf xs).bind _=some d from hf)
  split at hf
  ·rename_i h64;cases hf;obtain⟨v,rfl,a,us,rfl,sq,rs,l⟩:=ua r1;rw[DQ hn]at rs l;rw[C_ rs]at sq;refine⟨a,ns,rfl,wl x1.gh sq,h64,λp hp=>q p _ _ (x1.trans (zP.t8 x1.gh hp)) (x1.h.free hp) (x1.gh.free hp) ⟨_,yT,DO _,?_⟩⟩;rw[zo,(isort_perm ns).length_eq];rw[zo]at l;exact l
  ·cases hf
end L3
namespace L2
open PySem PySem.Spec PyProof.Rows
section
variable{X:Cx}
end
end L2
namespace L3
open PySem PySem.Spec PyProof.Rows L2
section
variable{X:Cx}{e o a b c:Expr}{f fo fa fb fc:FE}{x:Str}{xp p pos apos cpos:Pos}
end
section
variable{X:Cx}{a b:Expr}{fa fb:FE}{x:Str}{xp pos:Pos}
end
section
variable{X:Cx}{e:Expr}{es:List Expr}{fs:FA}{x:Str}{ps:List Str}{k j:Nat}{FF:List D->Option (Bool×D)}{p pos:Pos}
end
section
variable{X:Cx}{e:Expr}{es:List Expr}{fs:FA}{x y:Str}{ps:List Str}{k j:Nat}{FF:List D->Option (Bool×D)}{p pos pos' cpos:Pos}
end
section
variable{X:Cx}{x:Str}{xp pos apos cpos:Pos}
end
section
variable{K:W.Frag}{n:Nat}{G0 H0 G H G' H':Hp}{τ:zi}{σ:St}
end
section
variable{X:Cx}{e:Expr}{f:FE}{ft:FT}
end
def Xg(i:Nat)(e:FE):FS:=λσ=>match σ[i]? with
 |some (some (true,.lst xs))=>(e σ).bind λy=>match y with
  |.lst ys=>if xs.length+ys.length<=yR then some (.nx (σ.set i (some (true,.lst (xs++ys)))))else none
  |_=>none
 |_=>none
def UN:D->D->Option D
 |.lst x,.int k=>if 0<=k/\k<=1000000/\x.length*k.toNat<=yR then some (.lst (List.replicate k.toNat x).flatten)else none
 |_,_=>none
theorem KW{x y d:D}(h:UN x y=some d):∃xs k,x=.lst xs/\y=.int k/\(0<=k/\k<=1000000/\xs.length*k.toNat<=yR)/\d=.lst (List.replicate k.toNat xs).flatten:=by
 unfold UN at h
 split at h
 ·rename_i xs k;by_cases c:0<=k/\k<=1000000/\xs.length*k.toNat<=yR
  ·rw[zI c]at h;cases h;exact⟨_,_,rfl,rfl,c,rfl⟩
  ·rw[zK c]at h;cases h
 ·cases h
theorem Reps.rep{K:W.Frag}{G:Hp}{ds:List D}{vs:List V}(r:Reps K G ds vs):∀k:Nat,Reps K G (List.replicate k ds).flatten (List.replicate k vs).flatten
 |0=>rfl
 |k+1=>by
  rw[gB,Yd,gB,Yd];exact r.append (Reps.rep r k)
section
variable{X:Cx}{a b:Expr}{f fa fb:FE}{x:Str}{xp pos apos cpos:Pos}{e:Expr}
theorem dZ(ha:SF X a fa)(hb:SE X b fb):SF X (.BinOp a .Mult b pos) (e2 UN fa fb):=by
 obtain⟨ta,pa,ka⟩:=ha.h;obtain⟨tb,pb,kb⟩:=hb.h;refine⟨⟨_,CB AF pa pb,λ{G0 H0 G H τ σ d Q} E hf q=>?_⟩⟩;obtain⟨x,hx,hf⟩:=zC hf;obtain⟨y,hy,hf⟩:=zC hf;refine ka E hx λp G1 H1 x1 hp gp o=>?_
 refine kb (E.go x1) hy λu G2 H2 x2 r2=>?_
 obtain⟨xs,k,rfl,rfl,c,rfl⟩:=KW hf;obtain⟨vs,ev,rv,_⟩:=o;cases(show u=.int k from r2);have x12:=x1.trans x2;refine⟨p,k,vs,rfl,rfl,x2.h _ _ ev,by omega,by omega,by rw[rv.length,xM]; exact c.2.2,λp' hp'=>?_⟩;refine q p' _ _ (x12.trans (zP.t8 x12.gh hp')) (x12.h.free hp') (x12.gh.free hp') ⟨_,yT,Reps.rep (rv.mono x2.g) _,?_⟩;rw[xM,Dk,Nat.mul_comm]; exact c.2.2
end
section
variable{X:Cx}{js:List Nat}{e c:Expr}{f:FE}{ft:FT}{g g':FS}{sts sa:List Stmt}{pos xp apos cpos:Pos}{x:Str}
end
def RO(τ:zi):Bool:=τ.all λs=>match s with
 |some (true,_)=>false
 |_=>true
section
variable{X:Cx}{js:List Nat}{e0 e1:Expr}{f0 f1:FE}{fm fr:FS}{mid zn:List Stmt}{p1 p2 p3 xp cp sp apos cpos pos:Pos}{x:Str}{kd:Nat}
end
end L3
namespace L2
open PySem PySem.Spec PyProof PyProof.Rows
section
variable{X:Cx}
end
end L2
namespace L3
open PySem PySem.Spec PyProof.Rows L2
section
variable{X:Cx}{K:W.Frag}
end
def X7:List D->Option (List Bool)
 | []=>some []
 |.bl b::r=>(X7 r).bind λbs=>some (b::bs)
 |_=>none
theorem BB:∀{ds:List D}{bs:List Bool},X7 ds=some bs->ds=bs.map D.bl
 | [],_,h=>by cases h; rfl
 |d::ds,bs,h=>by
  unfold X7 at h
  split at h
  ·rename_i e; cases e
  ·rename_i b r e;cases e;obtain⟨bs',h1,h⟩:=zC h;cases h;rw[BB h1];rfl
  ·cases h
theorem E5{K:W.Frag}{G:Hp}:∀{bs:List Bool}{vs:List V},Reps K G (bs.map D.bl) vs->vs=bs.map V.bl
 | [],_,r=>r
 |b::bs,_,r=>by
  obtain⟨v,r',rfl,hv,hr⟩:=r;rw[E5 hr,show v=V.bl b from hv];rfl
def JO:List D->Option D
 | [.lst xs]=>(X7 xs).bind λbs=>some (.bl (bs.all id))
 |_=>none
theorem Rh{K:W.Frag}:qb K (Ci K) JO:=λG H ds vs d Q s r hf q=>by
 match ds,hf with
 | [.lst xs],hf=>
  obtain⟨bs,hb,hf⟩:=zC (show(X7 xs).bind _=some d from hf);cases hf;obtain⟨v,rfl,a,us,rfl,sq,rs,l⟩:=ua r;rw[BB hb]at rs;rw[E5 rs]at sq;exact⟨a,bs,rfl,sq,q _ _ _ (zP.refl s) rfl⟩
end L3
namespace L2
open PySem PySem.Spec PyProof PyProof.Rows
def memK(ks:List zN)(k:zN):Bool:=ks.any λk'=>decide (k'=k)
section
variable{prog:Program}{w:World}
end
section
variable{X:Cx}
end
end L2
namespace L3
open PySem PySem.Spec PyProof.Rows L2
section
variable{X:Cx}{K:W.Frag}
end
end L3
namespace L2
open PySem PySem.Spec PyProof PyProof.Rows
section
variable{prog:Program}{w:World}{K:Type}[DecidableEq K]{knd:KeyKind prog w K}{A:Around}{E:Value->Shared->Prop}
end
def keyOf:Value->zN
 |.int i _=>.inl i
 |.str x _=>.inr x
 |_=>.inl 0
section
variable{prog:Program}{w:World}
end
section
variable{M:Model}{A:Around}{E:Value->Shared->Prop}
end
section
variable{prog:Program}{w:World}{A:Around}{E:Value->Shared->Prop}
end
section
variable{prog:Program}{w:World}{A:Around}{E:Value->Shared->Prop}
end
section
variable{prog:Program}{w:World}{A:Around}{E:Value->Shared->Prop}
end
section
variable{X:Cx}
end
end L2
namespace L3
open PySem PySem.Spec PyProof.Rows L2
end L3
namespace L2
open PySem PySem.Spec PyProof PyProof.Rows
section
variable{X:Cx}{tg:Expr}
end
end L2
namespace L3
open PySem PySem.Spec PyProof.Rows L2
end L3
namespace L2
open PySem PySem.Spec PyProof PyProof.Rows
theorem zc.of_get:∀{xs:List V}{us:List Value},us.length=xs.length->(∀(j:Nat)(x:V)(v:Value),xs[j]?=some x->us[j]?=some v->zd x v)->zc xs us
 | [],[],_,_=>.nil
 | [],_::_,h,_=>by cases h
 |_::_,[],h,_=>by cases h
 |x::xs,u::us,h,f=>.cons (f 0 x u rfl rfl) (zc.of_get (by simpa using h) λj y v h1 h2=>f (j+1) y v (by simpa using h1) (by simpa using h2))
section
variable{X:Cx}
end
end L2
namespace L3
open PySem PySem.Spec PyProof.Rows L2
section
variable{X:Cx}{x y:Str}{xp yp pos apos cpos:Pos}{e:Expr}{f:FE}
end
structure Gs(K:W.Frag)(H0 G H:Hp)(p:Addr)(qs:List Addr)(nds:List (List D)):Prop where
 hp:H p=some (.lst (qs.map V.ref))
 p0:H0 p=none
 pg:G p=none
 np:p ∉ qs
 nd:qs.Nodup
 ln:nds.length=qs.length
 el:∀(j:Nat)(q:Addr),qs[j]?=some q->∃ds vs,nds[j]?=some ds/\H q=some (.lst vs)/\H0 q=none/\G q=none/\Reps K G ds vs/\ds.length<=sizeLine
structure MW(K:W.Frag)(n:Nat)(G0 H0 G H:Hp)(τ:zi)(σ:St)(i:Nat)(nds:List (List D)):Prop where
 env:zu K n G0 H0 G H τ σ
 no:RO τ=true
 lG:∃p qs,σ[i]?=some (some (.ref p))/\Gs K H0 G H p qs nds
inductive NF where
 |nx (nds:List (List D)) (τ:zi)
 |rt (d:D)
abbrev Qi:=List (List D)->zi->Option NF
def Gq(K:W.Frag)(n:Nat)(G0 H0:Hp)(E:vj)(i:Nat):NF->Prop
 |.nx nds τ=>∀σ G H,MW K n G0 H0 G H τ σ i nds->E.nx σ H
 |.rt d=>∀v G H,zP G0 H0 G H->zU K G d v->E.rt v H
structure NS(X:Cx)(i:Nat)(st:Stmt)(f:Qi):Prop where
 h:∃t,PS X st t/\∀{G0 H0 G H:Hp}{τ:zi}{σ:St}{nds:List (List D)} {fl:NF} {E:vj},MW X.K X.N.length G0 H0 G H τ σ i nds->f nds τ=some fl->Gq X.K X.N.length G0 H0 E i fl->t E σ H
section
variable{K:W.Frag}{n:Nat}{G0 H0 G H G' H':Hp}{τ:zi}{σ:St}{i:Nat}{nds:List (List D)}{p:Addr}{qs:List Addr}
end
section
variable{X:Cx}{i:Nat}{x:Str}{p pos pos' apos cpos xp sp:Pos}{e k v c tg iter:Expr}{f fk fv:FE}{ft:FT}{fs:FA}{st:Stmt}{sts body sa sb:List Stmt}{g g':Qi}{fg:FG}
end
section
variable{X:Cx}{i:Nat}{x:Str}{pos pos' p spos:Pos}{e tg iter:Expr}{st:Stmt}{fi:zi->Option Nat}{fs:FA}{zn:List Stmt}{g:Qi}{scope:Scope}{cl:List (Str×Addr)}{own:List Str}{tG:TG}{fg:FG}
end
section
variable{P:Program}{w:World}{K:W.Frag}{mg:Str->Option Value}{base:Heap}
end
section
variable{X:Cx}{e:Expr}{es:List Expr}{f:FE}{fs:FA}{x:Str}{p pos:Pos}{ps:List Str}{j k:Nat}{FF:List D->Option (Bool×D)}
end
end L3
namespace L2
open PySem PySem.Spec PyProof PyProof.Rows
section
variable{prog:Program}{w:World}{A:Around}{E:Value->Shared->Prop}
theorem K8{s:Shared}{a:Addr}{kvs:List (zN×Value)}{ep:Nat}{Q:List Value->Shared->Prop}(hh:A.handled=none)(lo:(a==sysModules)=false)(hm:s.heap.DictAt (yq prog w) a kvs ep)(hb:kvs.length<=sizeLine)
  (h:∀h' tk vs,vs.length=kvs.length->(∀(j:Nat)(v:Value),vs[j]?=some v->∃k x,kvs[j]?=some (k,x)/\(yq prog w).is k v=true)->s.heap.objs.size<h'.objs.size->(∀b ob,s.heap.get? b=some ob->h'.get? b=some ob)->Q vs { s with heap:=h',toks:=tk }):wpAny (model prog w) A (collect (.ref a)) Q E s:=by
 unfold collect;refine zO (wpAny_runValue (Q1 (entry_proto_collect') ?_));show wpAny _ _ (newList [] >>= λl=>again (.builtin "list.__iadd__" ⟨[l,.ref a],[]⟩)) _ _ s;refine zO (wpAny_newList (yG ⟨Code.quiet_builtin _ (by decide +kernel),Q1 (entry_list_iadd') ?_⟩));have hlt:a<s.heap.objs.size:=hm.lt_size;have neS:s.heap.objs.size≠a:=xV (qS hlt);rw[LR (by decide +kernel)]
 refine W.kdl_extend (R:=λr s'=>match r with
  |.ok (.ret v)=>wpAny (model prog w) A (match v with
   |Value.ref a=>(do
    let o <-load a
    match o.data with
    |.seq xs _=>pure xs.toList
    |_=>unsupported "internal:collect")
   |_=>unsupported "internal:collect") Q E s'
  |.ok _=>False
  |.error e=>E e s') (s:={ s with heap:=s.heap.push (seqObj "list" #[] 0) }) (W.kdl_dict (knd:=yq prog w) (kvs:=kvs) (ep:=ep) lo) (by exact hh) (hm.push _) s.heap.objs.size neS neS (.ref s.heap.objs.size) 0 (Heap.get?_push_size _ rfl) (λh' tk acc' c' hk hS' hacc=>?_) hb
 refine zO (wpAny_load hS' ?_);show wpAny _ _ (pure acc'.toList) _ _ _;refine yG (h h' tk acc'.toList (by rw[j7]; exact hacc.1) (λj v e=>hacc.2 j v (by rw[<-LU]; exact e)) (Heap.lt_size hS') λb ob e=>?_);exact hk b ob (xV (xz (Heap.lt_size e))) (Heap.get?_push_of_some _ e)
theorem eA{s:Shared}{a:Addr}{kvs:List (zN×Value)}{ep:Nat}{ns:List Int}{Q:Value->Shared->Prop}(hh:A.handled=none)(lo:(a==sysModules)=false)(hm:s.heap.DictAt (yq prog w) a kvs ep)(hk:kvs.map (·.1)=ns.map Sum.inl)(h64:ns.length<64)
  (h:∀h' tk p out c ns',s.heap.objs.size<=p->h'.get? p=some (seqObj "list" out c)->IntsAre out.toList ns'->ns'.Perm ns->ns'.Pairwise (·<=·)->(∀b ob,s.heap.get? b=some ob->h'.get? b=some ob)->Q (.ref p) { s with heap:=h',toks:=tk }) :
  wpAny (model prog w) A (call (.builtin "sorted") [.ref a]) Q E s:=by
 have hl:kvs.length=ns.length:=by
  have:=congrArg List.length hk
  rwa [zo,zo]at this
 have hb:kvs.length<=sizeLine:=by rw[xM]; omega
 refine Calls.call_function_entry kind_sorted plain_sorted entry_sorted (args_sorted1 _) ?_;unfold Builtin.«sorted»;refine zO (m:=checkCount "sorted" 1 1 _) (yG (zO (K8 (by exact hh) lo hm hb λh1 tk ord ol oe hle kp=>zO (wpAny_newList ?_ (by rw[ol]; exact hb)))))
 have hI:IntsAre ord ns:=by
  have:∀(vs:List Value)(kvs:List (zN×Value)) (ns:List Int),vs.length=kvs.length->kvs.map (·.1)=ns.map Sum.inl->(∀(j:Nat)(v:Value),vs[j]?=some v->∃k x,kvs[j]?=some (k,x)/\(yq prog w).is k v=true)->IntsAre vs ns:=by
   intro vs
   induction vs with
   |nil=>
    intro kvs ns h1 h2 _;cases kvs with
    |nil=>
     cases ns with
     |nil=>exact .nil
     |cons n ns=>cases h2
    |cons _ _=>cases h1
   |cons v vs ih=>
    intro kvs ns h1 h2 h3;cases kvs with
    |nil=>cases h1
    |cons kx kvs=>
     cases ns with
     |nil=>cases h2
     |cons n ns=>
      obtain⟨k,x,e,z⟩:=h3 0 v rfl;cases e;have e0:k=Sum.inl n:=(List.cons.inj h2).1;subst e0;obtain⟨t,rfl⟩:=Value.isInt_shape (k:=n) (v:=v) z;exact .cons _ _ (ih kvs ns (by simpa using h1) (List.cons.inj h2).2 λj u hu=>by simpa using h3 (j+1) u (by simpa using hu))
  exact this ord kvs ns ol hk oe
 have l64:ord.length<64:=by omega
 have g1:(h1.push (seqObj "list" ord.toArray 0)).get? h1.objs.size=some (seqObj "list" ord.toArray 0):=Heap.get?_push_size _ rfl;refine zO (gE (Yo slot_list_sort ⟨_,g1,rfl⟩ entry_list_sort (list_sort_tree g1 hI l64 λout ns' a1 a2 a3=>⟨_,rfl,?_⟩) (args_list_sort _)));obtain⟨c,hc⟩:=sortedHeap_at (vs:=ord) (out:=out) g1;refine yG ⟨_,rfl,h _ tk h1.objs.size out c ns' (V6 hle) hc a1 a2 a3 λb ob e=>?_⟩;have hbl:=Heap.lt_size (kp b ob e);rw[sortedHeap_old (xV (xz hbl)) (by rw[size_push']; exact Lz hbl)];exact Heap.get?_push_of_some _ (kp b ob e)
end
section
variable{X:Cx}
theorem Dd:∀{kvs:List (zN×V)} {vs:List (zN×Value)},KV kvs vs->vs.map (·.1)=kvs.map (·.1)
 |_,_,.nil=>rfl
 |_,_,.cons r t=>by rw[xA,xA,Dd t,r.1]
def ax:List V->Hp->VK->Prop:=λxs H Q=>∃(a:Addr) (kvs:List (zN×V)) (ns:List Int),xs=[.ref a]/\Rd H a (.dK kvs)/\kvs.map (·.1)=ns.map Sum.inl/\ns.length<64/\∀l,H l=none->Q (.ref l) (zS H l (.lst ((isort ns).map V.int)))
theorem Hw(hcalm:X.calm=true):xY X (.builtin "sorted") ax:=by
 intro z0 s σ H xs us Q I r h;obtain⟨a,kvs,ns,rfl,ea,hk,h64,q⟩:=h;obtain⟨u,rfl,ru⟩:=vU r;cases(show u=Value.ref a from ru);obtain⟨_,lo,vs,rel,o,es,ep,ho,hx,hd,k1,k2,k3⟩:=tP I.zZ ea;have hm:s.heap.DictAt (yq X.prog X.w) a vs ep:=⟨o,es,ho,hx,hd,k1,k2,k3⟩;refine eA (I.ok.hd hcalm) lo hm ((Dd rel).trans hk) h64 λh' tk p out c ns' hp hc a1 a2 a3 kp=>?_
 have e:ns'=isort ns:=Om (a2.trans (isort_perm ns).symm) a3 (IT ns);subst e;have hl2:(isort ns).length=ns.length:=(isort_perm ns).length_eq;refine⟨.ref p,_,I.laid (t':=tk) (h':=h') kp hp (show xG X.prog X.w _ _ _ (.lst ((isort ns).map V.int))from⟨?_,out.toList,c,IS a1,?_⟩),rfl,q _ (I.zZ.fresh hp)⟩
 ·rw[zo,hl2];show _<=sizeLine;rw[xM];omega
 ·rw[GG];exact hc
end
end L2
namespace L3
open PySem PySem.Spec PyProof.Rows L2
def Zx:List (Sum Int Str)->Option (List Int)
 | []=>some []
 |.inl i::r=>(Zx r).bind λns=>some (i::ns)
 |.inr _::_=>none
theorem Db:∀{ks:List (Sum Int Str)} {ns:List Int},Zx ks=some ns->ks=ns.map Sum.inl
 | [],_,h=>by cases h; rfl
 |.inl i::r,_,h=>by
  obtain⟨ns,h1,h⟩:=zC h;cases h;rw[Db h1];rfl
 |.inr _::_,_,h=>by cases h
def JX:List D->Option D
 | [.dic ks _]=>(Zx ks).bind λns=>if ns.length<64 then some (.lst ((isort ns).map D.int))else none
 |_=>none
theorem da{X:Cx}{e:Expr}{fs:FA}{p pos:Pos}(hcalm:X.calm=true)(hg:Gl X "sorted")(hm:X.mg "sorted" = none)(ha:SA X [e] fs)(hs:yZ e=true:=by rfl) :
  SF X (.Call (.Name "sorted" p) [e] [] pos) (eL JX fs):=by
 obtain⟨t,pt,k⟩:=ha.h;refine⟨⟨_,(Xd (p:=p) (pos:=pos) (Hw hcalm) hg hm BF ⟨pt⟩ (by decide) (by decide) (by rw[xh,hs]; rfl)).h,λ{G0 H0 G H τ σ d Q} E hf q=>?_⟩⟩;obtain⟨ds,hd,hf⟩:=zC hf;refine k E hd λvs G1 H1 x1 r1=>?_
 match ds,hf with
 | [.dic ks xs],hf=>
  obtain⟨ns,hn,hf⟩:=zC hf;by_cases c:ns.length<64
  ·rw[zI c]at hf;cases hf;obtain⟨v,rfl,a,us,rfl,sq,hl,rs,l⟩:=ua r1;refine⟨a,ks.zip us,ns,rfl,Rd.mono x1.gh sq,?_,c,λp' hp'=>?_⟩
   ·rw[<-Db hn];exact List.map_fst_zip (by omega)
   ·refine q p' _ _ (x1.trans (zP.t8 x1.gh hp')) (x1.h.free hp') (x1.gh.free hp') ⟨_,yT,Reps.ints,?_⟩;rw[zo,(isort_perm ns).length_eq,xM];show _<=16777216;omega
  ·rw[zK c]at hf;cases hf
end L3
namespace L2
open PySem PySem.Spec PyProof PyProof.Rows
section
variable{X:Cx}{x:Str}{e:Expr}{es:List Expr}{t:TA}{p pos:Pos}{i j:Nat}
end
end L2
namespace L3
open PySem PySem.Spec PyProof.Rows L2
section
variable{X:Cx}{x y o gn:Str}{e:Expr}{es:List Expr}{fs:FA}{p p2 pos pos' xp gp op apos cpos:Pos}{i io iy j:Nat}{body zn:List Stmt}{t:TS}{g:FS}
end
section
variable{X:Cx}{x y o gn:Str}{e:Expr}{es:List Expr}{fs:FA}{p p2 pos pos' xp xp2 gp op apos cpos:Pos}{i io iy j:Nat}{zn:List Stmt}{g:FS}{a:Addr}{names:List Str}{Fs:List (List D->Option (Bool×D))}{gs:List FS}
end
section
variable{α:Type}{P:List α->Prop}
theorem ij(h:P []):∀us:List α,us.length=0->P us
 | [],_=>h
theorem Wt{n:Nat}(h:∀a (r:List α),r.length=n->P (a::r)):∀us:List α,us.length=n+1->P us
 |a::r,e=>h a r (Yk e)
theorem wB(h:∀a,P [a]):∀us:List α,us.length=1->P us:=Wt λa=>ij (P:=λr=>P (a::r)) (h a)
theorem xg(h:∀a b,P [a,b]):∀us:List α,us.length=2->P us:=Wt λa=>wB (P:=λr=>P (a::r)) (h a)
theorem qR(h:∀a b c,P [a,b,c]):∀us:List α,us.length=3->P us:=Wt λa=>xg (P:=λr=>P (a::r)) (h a)
theorem YR(h:∀a b c d,P [a,b,c,d]):∀us:List α,us.length=4->P us:=Wt λa=>qR (P:=λr=>P (a::r)) (h a)
theorem ik(h:∀a b c d e,P [a,b,c,d,e]):∀us:List α,us.length=5->P us:=Wt λa=>YR (P:=λr=>P (a::r)) (h a)
end
abbrev z_(x:Str)(st:Stmt)(oc:Value)(od:Option Addr)(sl:Array (Option Value))(kV dc pm:Value)(an:Option Addr)(cd ct:Value):Option Obj:=some ⟨oc,od,.func (W.fnOf x x (xH st) (yc st) (zT st) .none kV dc pm an cd ct),sl⟩
section
variable{P:Program}{w:World}{K:W.Frag}{mg:Str->Option Value}{base:Heap}
end
section
variable{X:Cx}{tg iter elt:Expr}{scope:Scope}{cl:List (Str×Addr)}{own:List Str}{pos p1:Pos}{fs:FA}{fg:FG}{f:FE}{tG:TG}{st:Stmt}{sts:List Stmt}{g:FS}{b:FSN}
end
open PyProof
section
variable{X:Cx}{i m:Nat}{x:Str}{es:List Expr}{p pos pos' spos:Pos}
end
section
variable{X:Cx}{K:W.Frag}
end
end L3
namespace L2
open PySem PySem.Spec PyProof PyProof.Rows
theorem P7{k:zN}{v:Value}(h:jj k v=true):zd (kV k) v:=by
 rcases qt h with⟨i,t,rfl,rfl⟩|⟨x,t,rfl,rfl⟩
 ·exact⟨t,rfl⟩
 ·exact⟨t,rfl⟩
theorem IW:∀{kvs:List (zN×V)} {vs:List (zN×Value)},KV kvs vs->vs.length=kvs.length
 |_,_,.nil=>rfl
 |_,_,.cons _ t=>by rw[yO,yO,IW t]
end L2
namespace L3
open PySem PySem.Spec PyProof PyProof.Rows L2
def keyOf:zN->D
 |.inl i=>.int i
 |.inr x=>.str x
def jo:zN->Bool
 |.inl _=>true
 |.inr x=>decide (x.length<=yR)
theorem P8{K:W.Frag}{G:Hp}{k:zN}(h:jo k=true):zU K G (keyOf k) (kV k):=by
 cases k with
 |inl i=>rfl
 |inr x=>exact⟨rfl,by rw[xM]; exact yy h⟩
end L3
namespace L2
open PySem PySem.Spec PyProof PyProof.Rows
section
variable{X:Cx}{A:Addr}{ks:List zN}{us:List V}{x:Str}{p apos cpos:Pos}
end
end L2
namespace L3
open PySem PySem.Spec PyProof PyProof.Rows L2
end L3
namespace L2
open PySem PySem.Spec PyProof PyProof.Rows
section
variable{X:Cx}{x n:Str}{p pos np hpos tpos:Pos}{e e1 e2:Expr}{es:List Expr}{ta:TA}{te:TE}{tx:TX}{ps:List Str}{j k i:Nat}{sp:Sp}{E:XK}{D:Addr}{suite:List Stmt}{ts:TS}{b₀:Stmt}
end
end L2
namespace L3
open PySem PySem.Spec PyProof PyProof.Rows L2
section
variable{X:Cx}{E:XK}{x:Str}{C:Addr}{st:Stmt}{sts zn:List Stmt}{g:FS}{f:FSX}{ft:FT}{fa:FA}{c e:Expr}{es:List Expr}{np cpos pos ipos:Pos}
end
section
variable{P:Program}{w:World}{K:W.Frag}{mg:Str->Option Value}{base:Heap}
end
section
variable{X:Cx}{iy i j k kb:Nat}{y n x z f g pn:Str}{C D:Addr}{ps:List Str}{F:FX}{B:Str->Option Bool}{fa:FA}{fc:FE}{c e:Expr}{es:List Expr}{yp fp cp ap np gp mp gc bp rp hpos tpos:Pos}
end
end L3
namespace L2
open PySem PySem.Spec PyProof PyProof.Rows
section
variable{prog:Program}{w:World}{A:Around}{E:Value->Shared->Prop}{s:Shared}
end
end L2
namespace L3
open PySem PySem.Spec PyProof PyProof.Rows L2
end L3
namespace L2
open PySem PySem.Spec PyProof PyProof.Rows
section
variable{X:Cx}{z0:List (Addr×Obj)}{σ:St}{H:Hp}{s:Shared}{a:Addr}{o:Obj}{kvs:List (zN×V)}
end
theorem De:∀{kvs:List (zN×V)} {vs:List (zN×Value)} {i:Nat} {k:zN} {x:Value},KV kvs vs->vs[i]?=some (k,x)->∃u,kvs[i]?=some (k,u)/\zd u x
 |_,_,_,_,_,.nil,e=>by cases e
 |_,_,0,_,_,.cons r t,e=>by
  cases e;obtain⟨r1,r2⟩:=r;exact⟨_,congrArg some (Prod.ext r1 rfl),r2⟩
 |_,_,i+1,_,_,.cons _ t,e=>De (i:=i) t (by simpa using e)
end L2
namespace L3
open PySem PySem.Spec PyProof PyProof.Rows L2
section
variable{K:W.Frag}{a:Addr}{o:Obj}{kvs:List (zN×V)}{G G' H H' G0 H0:Hp}
end
end L3
namespace L2
open PySem PySem.Spec PyProof PyProof.Rows
end L2
namespace L3
open PySem PySem.Spec PyProof PyProof.Rows L2
section
variable{X:Cx}{i:Nat}{tg iter elt:Expr}{ifs:List Expr}{scope:Scope}{cl:List (Str×Addr)}{own:List Str}{pos:Pos}{fs:FA}{fg:FG}{ft:FT}{f:FE}{g:TG}
end
end L3
namespace L2
open PySem PySem.Spec PyProof PyProof.Rows
end L2
namespace L3
open PySem PySem.Spec PyProof PyProof.Rows L2
end L3
namespace L2
open PySem PySem.Spec PyProof PyProof.Rows
section
variable{prog:Program}{w:World}{K:Type}[DecidableEq K]{knd:KeyKind prog w K}{A:Around}{E:Value->Shared->Prop}{s:Shared}
end
end L2
namespace L3
open PySem PySem.Spec PyProof PyProof.Rows L2
end L3
namespace L2
open PySem PySem.Spec PyProof PyProof.Rows
section
variable{prog:Program}{w:World}{A:Around}{R:Result->Shared->Prop}{I:Addr}{fp wr:List Addr}{n:Nat}{P:Nat->Value->Prop}{St:Nat->Heap->Prop}{kw:List (Str×Value)}
end
section
variable{prog:Program}{w:World}{A:Around}{E:Value->Shared->Prop}{s:Shared}
end
section
variable{X:Cx}
end
end L2
namespace L3
open PySem PySem.Spec PyProof PyProof.Rows L2
def XN:List D->Option (List Int)
 | []=>some []
 |.int i::r=>(XN r).bind λis=>some (i::is)
 |_::_=>none
theorem DP{K:W.Frag}{G:Hp}:∀{xs:List D}{ns:List Int}{vs:List V},XN xs=some ns->Reps K G xs vs->vs=ns.map V.int
 | [],ns,vs,h,r=>by
  cases h;exact(show vs=[]from r)
 |.int i::xs,ns,vs,h,r=>by
  obtain⟨is,h1,h⟩:=zC (show(XN xs).bind _=_ from h);cases h;obtain⟨v,r',rfl,hv,hr⟩:=r;cases(show v=.int i from hv);rw[DP h1 hr];rfl
 |.zF::_,_,_,h,_=>by cases h
 |.bl _::_,_,_,h,_=>by cases h
 |.str _::_,_,_,h,_=>by cases h
 |.tup _::_,_,_,h,_=>by cases h
 |.lst _::_,_,_,h,_=>by cases h
 |.dic _ _::_,_,_,h,_=>by cases h
 |.exc _::_,_,_,h,_=>by cases h
 |.obj _ _ _::_,_,_,h,_=>by cases h
def JT:List D->Option D
 | [.dic ks _]=>some (.int ks.length)
 |_=>none
theorem Hr{X:Cx}:xY X (.builtin "len") (λxs H Q=>∃a kvs,xs=[V.ref a]/\Rd H a (.dK kvs)/\Q (.int kvs.length) H):=by
 intro z0 s σ H xs us Q I r h;obtain⟨a,kvs,rfl,ha,q⟩:=h;obtain⟨u,rfl,ru⟩:=vU r;cases ru;exact KG I ha λt s' I'=>⟨.int kvs.length,H,I',⟨t,rfl⟩,q⟩
theorem SY{K:W.Frag}:qb K (λxs H Q=>∃a kvs,xs=[V.ref a]/\Rd H a (.dK kvs)/\Q (.int kvs.length) H) JT:=λG H ds vs d Q s r hf q=>by
 match ds,hf with
 | [.dic ks xs],hf=>
  cases hf;obtain⟨v,r',rfl,hv,hr⟩:=r;cases(show r'=[]from hr);obtain⟨a,vs,rfl,sq,hl,rs,_⟩:=hv;refine⟨a,_,rfl,sq,?_⟩;rw[pA,<-hl,uI];exact q _ _ _ (zP.refl s) rfl
section
variable{X:Cx}{j k kk i:Nat}{f x n z g:Str}{C D':Addr}{ps:List Str}{F:FX}{FF:List D->Option (Bool×D)}{fa:FA}{fc:FE}{fx:FEX}{gs:FS}{c e b:Expr}{es:List Expr}{b₀:Stmt}{suite sts:List Stmt}{fp cp np p p1 pos rp hpos tpos:Pos}
end
section
variable{P:Program}{w:World}{K:W.Frag}{mg:Str->Option Value}{base:Heap}
end
end L3
namespace L2
open PySem PySem.Spec PyProof PyProof.Rows
section
variable{X:Cx}
def ao:List V->Hp->VK->Prop:=λxs H Q=>∃(a:Addr) (kvs:List (zN×V)),xs=[.ref a]/\Rd H a (.dK kvs)/\kvs.length<=1000/\∀p,H p=none->Q (.ref p) (zS H p (.lst (kvs.map λkv=>kV kv.1)))
theorem Hu(hcalm:X.calm=true):xY X (.type "list") ao:=by
 intro z0 s σ H xs us Q I r h;obtain⟨a,kvs,rfl,ea,hn,q⟩:=h;obtain⟨u,rfl,ru⟩:=vU r;cases(show u=Value.ref a from ru);obtain⟨_,lo,vs,rel,o,es,ep,ho,hx,hd,k1,k2,k3⟩:=tP I.zZ ea;have hm:s.heap.DictAt (yq X.prog X.w) a vs ep:=⟨o,es,ho,hx,hd,k1,k2,k3⟩;have ln:=IW rel;have hb:vs.length<=sizeLine:=by rw[ln,xM]; exact wo hn (by decide)
 refine W.kdl_call (W.kdl_dict (knd:=yq X.prog X.w) (kvs:=vs) (ep:=ep) lo) (I.ok.hd hcalm) hm hb λh' tk acc' c' kp hS hacc=>?_
 obtain⟨hsz,hat⟩:=hacc
 have rv:zc (kvs.map λkv=>kV kv.1) acc'.toList:=by
  refine zc.of_get (by rw[zo,j7,hsz,ln]) λj x v h1 h2=>?_
  obtain⟨k,y,e,hk⟩:=hat j v (by rw[<-LU]; exact h2);obtain⟨w,e2,_⟩:=De rel e;rw[vh,e2]at h1;cases h1;exact P7 hk
 refine⟨.ref s.heap.objs.size,_,I.laid (a:=s.heap.objs.size) (o:=.lst (kvs.map λkv=>kV kv.1)) (t':=tk) kp (yF _) ⟨?_,acc'.toList,c',rv,?_⟩,rfl,q _ I.fresh⟩
 ·rw[zo,xM];exact wo hn (by decide)
 ·rw[hS]
end
end L2
namespace L3
open PySem PySem.Spec PyProof PyProof.Rows L2
def JU:List D->Option D
 | [.dic ks _]=>if ks.length<=1000/\ks.all jo=true then some (.lst (ks.map keyOf))else none
 |_=>none
theorem E6{K:W.Frag}{G:Hp}:∀{ks:List zN},ks.all jo=true->Reps K G (ks.map keyOf) (ks.map kV)
 | [],_=>rfl
 |k::ks,h=>by
  rw[xh,yC]at h;exact⟨kV k,_,rfl,P8 h.1,E6 h.2⟩
theorem dY{X:Cx}{e:Expr}{fs:FA}{p pos:Pos}(hcalm:X.calm=true)(hg:Gl X "list")(hm:X.mg "list" = none)(ha:SA X [e] fs)(hs:yZ e=true:=by rfl) :
  SF X (.Call (.Name "list" p) [e] [] pos) (eL JU fs):=by
 obtain⟨t,pt,k⟩:=ha.h;refine⟨⟨_,(YF (p:=p) (pos:=pos) (Hu hcalm) hg hm U8 ⟨pt⟩ (by decide) (by decide) (by rw[xh,hs]; rfl)).h,λ{G0 H0 G H τ σ d Q} E hf q=>?_⟩⟩;obtain⟨ds,hd,hf⟩:=zC hf;refine k E hd λvs G1 H1 x1 r1=>?_
 match ds,hf with
 | [.dic ks xs],hf=>
  by_cases c:ks.length<=1000/\ks.all jo=true
  ·change (if ks.length<=1000/\ks.all jo=true then some (D.lst (ks.map keyOf))else none)=some d at hf
   rw[zI c]at hf;cases hf;obtain⟨v,rfl,a,us,rfl,sq,hl,rs,l⟩:=ua r1
   have z:(ks.zip us).map (λkv=>kV kv.1)=ks.map kV:=by
    have:(ks.zip us).map Prod.fst=ks:=List.map_fst_zip (by omega);rw[<-congrArg (List.map kV) this,Ts];rfl
   refine⟨a,ks.zip us,rfl,Rd.mono x1.gh sq,by rw[pA]; omega,λp' hp'=>?_⟩;rw[z];refine q p' _ _ (x1.trans (zP.t8 x1.gh hp')) (x1.h.free hp') (x1.gh.free hp') ⟨_,yT,E6 c.2,?_⟩;rw[zo,xM];exact wo c.1 (by decide)
  ·change (if ks.length<=1000/\ks.all jo=true then some (D.lst (ks.map keyOf))else none)=some d at hf
   rw[zK c]at hf;cases hf
end L3
namespace L2
open PySem PySem.Spec PyProof PyProof.Rows
open Builtin Builtin.Str
section
variable{X:Cx}
variable{a o:Expr}{ta to:TE}{i:Int}{ck ck1 ck2:Nat}{cp pos apos cpos p1 p2:Pos}{y z:Str}
end
end L2
namespace L3
open PySem PySem.Spec PyProof PyProof.Rows L2
section
variable{X:Cx}{o e a:Expr}{fo f fa:FE}{apos cpos p1 p2 cp pos:Pos}{nm:Str}{id:String}{rm:V->List V->Hp->VK->Prop}{F:D->D->Option D}{ck ck1 ck2:Nat}{i:Int}{y z:Str}
end
end L3
namespace L2
open PySem PySem.Spec PyProof PyProof.Rows
end L2
namespace L3
open PySem PySem.Spec PyProof PyProof.Rows L2
end L3
namespace L2
open PySem PySem.Spec PyProof PyProof.Rows
section
variable{X:Cx}{x n:Str}{p pos np hpos tpos:Pos}{e e1 e2:Expr}{es:List Expr}{ta:TA}{te:TE}{tx:TX}{ps:List Str}{j k i:Nat}{sp:Sp}{E:XK}{D:Addr}{suite:List Stmt}{ts:TS}{b₀:Stmt}
end
end L2
namespace L3
open PySem PySem.Spec PyProof PyProof.Rows L2
section
variable{X:Cx}{j i iy:Nat}{x n z y:Str}{C D':Addr}{fx:FEX}{gs:FS}{e:Expr}{b₀:Stmt}{suite:List Stmt}{np pos yp hpos tpos:Pos}
end
end L3
namespace L3
open PySem PySem.Spec PyProof.Rows L2
inductive M where
 |fz (d:D)|own (d:D)|obj (x:Str) (fs:List Str) (ms:List M)|tab (ks:List (Sum Int Str)) (ms:List M)
mutual
def wA:M->D
 |.fz d=>d
 |.own d=>d
 |.obj x fs ms=>.obj x fs (thaws ms)
 |.tab ks ms=>.dic ks (thaws ms)
def thaws:List M->List D
 | []=>[]
 |m::ms=>wA m::thaws ms
end
def getA{κ α:Type}[DecidableEq κ]:List κ->List α->κ->Option α
 |k'::ks,v::vs,k=>if k'=k then some v else getA ks vs k
 |_,_,_=>none
def wU{κ α:Type}[DecidableEq κ]:List κ->List α->κ->α->List α
 |k'::ks,v::vs,k,y=>if k'=k then y::vs else v::wU ks vs k y
 |_,vs,_,_=>vs
inductive yf where
 |at(cs:List Str) (f:Str)|ky (k:Sum Int Str)
def EZ:M->yf->Option M
 |.obj x fs ms,.at cs f=>if x∈cs then getA fs ms f else none
 |.tab ks ms,.ky k=>getA ks ms k
 |_,_=>none
def dR:M->yf->M->M
 |.obj x fs ms,.at _ f,m=>.obj x fs (wU fs ms f m)
 |.tab ks ms,.ky k,m=>.tab ks (wU ks ms k m)
 |m,_,_=>m
def uP:M->List yf->Option M
 |m,[]=>some m
 |m,s::π=>(EZ m s).bind λm1=>uP m1 π
def uF:M->List yf->M->Option M
 |_,[],m'=>some m'
 |m,s::π,m'=>(EZ m s).bind λm1=>(uF m1 π m').bind λm2=>some (dR m s m2)
abbrev Ft:=Addr->Prop
mutual
def yV(K:W.Frag)(G H:Hp):M->V->Ft->Prop
 |.fz d,v,L=>zU K G d v/\∀q,¬ L q
 |.own d,v,L=>∃p,v=.ref p/\wP K G H d p/\∀q,L q↔q=p
 |.obj x fs ms,v,L=>∃p C dx vs L',v=.ref p/\W.nsIn K mainGlobals x=some (some (.ref C))/\H p=some (.ins C dx (fs.zip vs))/\fs.length=vs.length/\OwnMs K G H ms vs L'/\¬ L' p/\∀q,L q↔q=p\/L' q
 |.tab ks ms,v,L=>∃p vs L',v=.ref p/\H p=some (.dK (ks.zip vs))/\ks.length=vs.length/\OwnMs K G H ms vs L'/\ms.length<=sizeLine/\¬ L' p/\∀q,L q↔q=p\/L' q
def OwnMs(K:W.Frag)(G H:Hp):List M->List V->Ft->Prop
 | [],vs,L=>vs=[]/\∀q,¬ L q
 |m::ms,vs,L=>∃v r L1 L2,vs=v::r/\yV K G H m v L1/\OwnMs K G H ms r L2/\(∀q,L1 q->L2 q->False)/\∀q,L q↔L1 q\/L2 q
end
theorem M.ind{P:M->Prop}(fz:∀d,P (.fz d))(own:∀d,P (.own d))(obj:∀x fs ms,(∀m∈ms,P m)->P (.obj x fs ms))(tab:∀ks ms,(∀m∈ms,P m)->P (.tab ks ms))(m:M):P m:=
 M.rec (motive_1:=P) (motive_2:=λms=>∀m∈ms,P m) fz own (λx fs ms h=>obj x fs ms h) (λks ms h=>tab ks ms h) (λ_ h=>absurd h (by simp))
  (λd ds hd hds e he=>by
   rcases yY.mp he with z|z
   ·exact z▸hd
   ·exact hds e z) m
def BE:HO->Bool
 |.lst _=>true
 |.dK _=>true
 |.ins _ _ _=>true
 |_=>false
def Bx(H:Hp)(q:Addr):Prop:=∃u,H q=some u/\BE u=true
theorem Bx.some{H:Hp}{q:Addr}(b:Bx H q):H q≠none:=by
 obtain⟨u,e,_⟩:=b;rw[e];exact λz=>nomatch z
section
variable{K:W.Frag}{G H G' H':Hp}
theorem wP.loc{d:D}{p:Addr}(g:zg G G')(h:H' p=H p)(o:wP K G H d p):wP K G' H' d p:=by
 cases d with
 |lst ds=>obtain⟨vs,e,r,l⟩:=o; exact⟨vs,h.trans e,r.mono g,l⟩
 |dic ks ds=>obtain⟨vs,e,z,r,l⟩:=o; exact⟨vs,h.trans e,z,r.mono g,l⟩
 |_=>exact o.elim
theorem OwnMs.imp:∀{ms:List M}{vs:List V}{L:Ft},(∀m∈ms,∀v L1,(∀q,L1 q->L q)->yV K G H m v L1->yV K G' H' m v L1)->OwnMs K G H ms vs L->OwnMs K G' H' ms vs L
 | [],_,_,_,h=>h
 |m::ms,vs,L,f,h=>by
  obtain⟨v,r,L1,L2,e,hv,hr,dj,u⟩:=h;exact⟨v,r,L1,L2,e,f m yr v L1 (λq z=>(u q).mpr (.inl z)) hv,OwnMs.imp (λm' h' v' L' s o=>f m' (xP _ h') v' L' (λq z=>(u q).mpr (.inr (s q z))) o) hr,dj,u⟩
theorem yV.loc(g:zg G G')(m:M):∀(v:V)(L:Ft),(∀q,L q->H' q=H q)->yV K G H m v L->yV K G' H' m v L:=by
 refine M.ind (P:=λm=>∀v L,(∀q,L q->H' q=H q)->yV K G H m v L->yV K G' H' m v L) ?_ ?_ ?_ ?_ m
 ·rintro d v L h ⟨r,n⟩;exact⟨r.mono g,n⟩
 ·rintro d v L h ⟨p,e,o,u⟩;exact⟨p,e,o.loc g (h p ((u p).mpr rfl)),u⟩
 ·rintro x fs ms ih v L h ⟨p,C,dx,vs,L',e,ns,hp,l,r,n,u⟩;exact⟨p,C,dx,vs,L',e,ns,(h p ((u p).mpr (.inl rfl))).trans hp,l,OwnMs.imp (λm hm v' L1 s o=>ih m hm v' L1 (λq z=>h q ((u q).mpr (.inr (s q z)))) o) r,n,u⟩
 ·rintro ks ms ih v L h ⟨p,vs,L',e,hp,l,r,l2,n,u⟩;exact⟨p,vs,L',e,(h p ((u p).mpr (.inl rfl))).trans hp,l,OwnMs.imp (λm hm v' L1 s o=>ih m hm v' L1 (λq z=>h q ((u q).mpr (.inr (s q z)))) o) r,l2,n,u⟩
theorem OwnMs.length:∀{ms:List M}{vs:List V}{L:Ft},OwnMs K G H ms vs L->vs.length=ms.length
 | [],_,_,h=>by obtain⟨rfl,_⟩:=h; rfl
 |m::ms,_,_,h=>by
  obtain⟨v,r,L1,L2,rfl,_,hr,_⟩:=h;rw[yO,yO,OwnMs.length hr]
theorem wP.bx{d:D}{p:Addr}(o:wP K G H d p):Bx H p:=by
 cases d with
 |lst ds=>obtain⟨vs,e,_⟩:=o; exact⟨_,e,rfl⟩
 |dic ks ds=>obtain⟨vs,e,_⟩:=o; exact⟨_,e,rfl⟩
 |_=>exact o.elim
theorem OwnMs.cells:∀{ms:List M}{vs:List V}{L:Ft},(∀m∈ms,∀v L1,yV K G H m v L1->∀q,L1 q->Bx H q)->OwnMs K G H ms vs L->∀q,L q->Bx H q
 | [],_,_,_,h,q,z=>absurd z (h.2 q)
 |m::ms,vs,L,f,h,q,z=>by
  obtain⟨v,r,L1,L2,e,hv,hr,dj,u⟩:=h;rcases(u q).mp z with z|z
  ·exact f m yr v L1 hv q z
  ·exact OwnMs.cells (λm' h'=>f m' (xP _ h')) hr q z
theorem yV.cells(m:M):∀(v:V)(L:Ft),yV K G H m v L->∀q,L q->Bx H q:=by
 refine M.ind (P:=λm=>∀v L,yV K G H m v L->∀q,L q->Bx H q) ?_ ?_ ?_ ?_ m
 ·rintro d v L ⟨r,n⟩ q z;exact absurd z (n q)
 ·rintro d v L ⟨p,e,o,u⟩ q z;cases(u q).mp z;exact o.bx
 ·rintro x fs ms ih v L ⟨p,C,dx,vs,L',e,ns,hp,l,r,n,u⟩ q z;rcases(u q).mp z with rfl|z
  ·exact⟨_,hp,rfl⟩
  ·exact OwnMs.cells ih r q z
 ·rintro ks ms ih v L ⟨p,vs,L',e,hp,l,r,l2,n,u⟩ q z;rcases(u q).mp z with rfl|z
  ·exact⟨_,hp,rfl⟩
  ·exact OwnMs.cells ih r q z
theorem En:∀(ms:List M),(thaws ms).length=ms.length
 | []=>rfl
 |m::ms=>by
  show(thaws ms).length+1=_;rw[En ms];rfl
theorem OwnMs.vy:∀{ms:List M}{vs:List V}{L:Ft},(∀m∈ms,∀v L1,(∀q,L1 q->L q)->yV K G H m v L1->zU K G' (wA m) v)->OwnMs K G H ms vs L->Reps K G' (thaws ms) vs
 | [],_,_,_,h=>h.1
 |m::ms,vs,L,f,h=>by
  obtain⟨v,r,L1,L2,e,hv,hr,dj,u⟩:=h;exact⟨v,r,e,f m yr v L1 (λq z=>(u q).mpr (.inl z)) hv,OwnMs.vy (λm' h' v' L' s o=>f m' (xP _ h') v' L' (λq z=>(u q).mpr (.inr (s q z))) o) hr⟩
theorem yV.vy(g:zg G G')(m:M):∀(v:V)(L:Ft),(∀q,L q->G' q=H q)->yV K G H m v L->zU K G' (wA m) v:=by
 refine M.ind (P:=λm=>∀v L,(∀q,L q->G' q=H q)->yV K G H m v L->zU K G' (wA m) v) ?_ ?_ ?_ ?_ m
 ·rintro d v L h ⟨r,n⟩;exact r.mono g
 ·rintro d v L h ⟨p,rfl,o,u⟩;have hp:=h p ((u p).mpr rfl);cases d with
  |lst ds=>obtain⟨vs,e,r,l⟩:=o; exact⟨p,vs,rfl,yI.of (hp.trans e),r.mono g,l⟩
  |dic ks ds=>obtain⟨vs,e,z,r,l⟩:=o; exact⟨p,vs,rfl,.inl (hp.trans e),z,r.mono g,l⟩
  |_=>exact o.elim
 ·rintro x fs ms ih v L h ⟨p,C,dx,vs,L',e,ns,hp,l,r,n,u⟩;exact⟨p,C,dx,vs,e,ns,(h p ((u p).mpr (.inl rfl))).trans hp,l,OwnMs.vy (λm hm v' L1 s o=>ih m hm v' L1 (λq z=>h q ((u q).mpr (.inr (s q z)))) o) r⟩
 ·rintro ks ms ih v L h ⟨p,vs,L',e,hp,l,r,l2,n,u⟩;exact⟨p,vs,e,.inl ((h p ((u p).mpr (.inl rfl))).trans hp),l,OwnMs.vy (λm hm v' L1 s o=>ih m hm v' L1 (λq z=>h q ((u q).mpr (.inr (s q z)))) o) r,by rw[En]; exact l2⟩
theorem OwnMs.focus{κ:Type}[DecidableEq κ]{k:κ}{m1:M}:∀{ks:List κ}{ms:List M}{vs:List V}{L:Ft},OwnMs K G H ms vs L->getA ks ms k=some m1->
  ∃v1 L1,getA ks vs k=some v1/\yV K G H m1 v1 L1/\(∀q,L1 q->L q)/\∀{G' H':Hp}{m2:M}{L2:Ft},zg G G'->(∀q,L q->¬ L1 q->H' q=H q)->yV K G' H' m2 v1 L2->(∀q,L2 q->L q->L1 q)->OwnMs K G' H' (wU ks ms k m2) vs (λq=>(L q/\¬ L1 q)\/L2 q)
 | [],_,_,_,_,e=>by cases e
 |_::_,[],_,_,_,e=>by cases e
 |k'::ks,m::ms,vs,L,h,e=>by
  obtain⟨v,r,La,Lb,rfl,hv,hr,dj,u⟩:=h;unfold getA at e;by_cases c:k'=k
  ·rw[zI c]at e;cases e;refine⟨v,La,by unfold getA; rw[zI c],hv,λq z=>(u q).mpr (.inl z),λ{G' H' m2 L2} g hk o2 hd=>?_⟩;unfold wU;rw[zI c];refine⟨v,r,L2,Lb,rfl,o2,?_,λq z1 z2=>dj q (hd q z1 ((u q).mpr (.inr z2))) z2,λq=>?_⟩
   ·exact OwnMs.imp (λm' _ v' L' s o=>o.loc g m' v' L' λq z=>hk q ((u q).mpr (.inr (s q z))) λw=>dj q w (s q z)) hr
   ·constructor
    ·rintro(⟨z,w⟩|z)
     ·rcases(u q).mp z with z|z
      ·exact absurd z w
      ·exact .inr z
     ·exact .inl z
    ·rintro(z|z)
     ·exact .inr z
     ·exact .inl ⟨(u q).mpr (.inr z),λw=>dj q w z⟩
  ·rw[zK c]at e;obtain⟨v1,L1,e1,o1,s1,f⟩:=OwnMs.focus hr e;refine⟨v1,L1,by unfold getA; rw[zK c]; exact e1,o1,λq z=>(u q).mpr (.inr (s1 q z)),λ{G' H' m2 L2} g hk o2 hd=>?_⟩;unfold wU;rw[zK c];refine⟨v,r,La,λq=>(Lb q/\¬ L1 q)\/L2 q,rfl,?_,f g (λq z w=>hk q ((u q).mpr (.inr z)) w) o2 (λq z w=>hd q z ((u q).mpr (.inr w))),λq z1 z2=>?_,λq=>?_⟩
   ·exact hv.loc g m v La λq z=>hk q ((u q).mpr (.inl z)) λw=>dj q z (s1 q w)
   ·rcases z2 with⟨z2,_⟩|z2
    ·exact dj q z1 z2
    ·exact dj q z1 (s1 q (hd q z2 ((u q).mpr (.inl z1))))
   ·constructor
    ·rintro(⟨z,w⟩|z)
     ·rcases(u q).mp z with z|z
      ·exact .inl z
      ·exact .inr (.inl ⟨z,w⟩)
     ·exact .inr (.inr z)
    ·rintro(z|⟨z,w⟩|z)
     ·exact .inl ⟨(u q).mpr (.inl z),λw=>dj q z (s1 q w)⟩
     ·exact .inl ⟨(u q).mpr (.inr z),w⟩
     ·exact .inr z
end
def xQ(K:W.Frag)(H:Hp):V->List yf->V->Prop
 |v,[],u=>u=v
 |v,.at cs f::π,u=>∃p x C dx fs w,v=.ref p/\x∈cs/\W.nsIn K mainGlobals x=some (some (.ref C))/\H p=some (.ins C dx fs)/\fs.lookup f=some w/\xQ K H w π u
 |v,.ky k::π,u=>∃p kvs w,v=.ref p/\H p=some (.dK kvs)/\wm kvs k=some w/\xQ K H w π u
theorem Uu{κ α:Type}[DecidableEq κ][BEq κ][LawfulBEq κ]{k:κ}:∀{ks:List κ}{vs:List α},(ks.zip vs).lookup k=getA ks vs k
 | [],_=>rfl
 |_::_,[]=>rfl
 |k'::ks,v::vs=>by
  rw[uh,V2];unfold getA;by_cases c:k'=k
  ·subst c;rw[zI rfl];simp
  ·rw[zK c];have:(k==k')=false:=by simpa using λz=>c z.symm
   rw[this];exact Uu
theorem Jd{α:Type}{k:Sum Int Str}:∀{ks:List (Sum Int Str)} {vs:List α},getA ks vs k=getK ks vs k
 | [],_=>by unfold getA getK; rfl
 |_::_,[]=>by unfold getA getK; rfl
 |k'::ks,v::vs=>by
  unfold getA getK;by_cases c:k'=k
  ·rw[zI c,zI c]
  ·rw[zK c,zK c];exact Jd
section
variable{K:W.Frag}{G H G' H':Hp}
theorem xQ.mono(s:zg H H'):∀{π:List yf}{v u:V},xQ K H v π u->xQ K H' v π u
 | [],_,_,h=>h
 |.at cs f::π,_,_,h=>by
  obtain⟨p,x,C,dx,fs,w,e,hx,ns,hp,l,r⟩:=h;exact⟨p,x,C,dx,fs,w,e,hx,ns,s _ _ hp,l,xQ.mono s r⟩
 |.ky k::π,_,_,h=>by
  obtain⟨p,kvs,w,e,hp,l,r⟩:=h;exact⟨p,kvs,w,e,s _ _ hp,l,xQ.mono s r⟩
theorem xQ.one:∀{π:List yf}{v u u':V},xQ K H v π u->xQ K H v π u'->u=u'
 | [],_,_,_,h,h'=>h.trans h'.symm
 |.at cs f::π,_,_,_,h,h'=>by
  obtain⟨p,x,C,dx,fs,w,rfl,hx,ns,hp,l,r⟩:=h;obtain⟨p',x',C',dx',fs',w',e',hx',ns',hp',l',r'⟩:=h';cases e';rw[hp]at hp';cases hp';rw[l]at l';cases l';exact xQ.one r r'
 |.ky k::π,_,_,_,h,h'=>by
  obtain⟨p,kvs,w,rfl,hp,l,r⟩:=h;obtain⟨p',kvs',w',e',hp',l',r'⟩:=h';cases e';rw[hp]at hp';cases hp';rw[l]at l';cases l';exact xQ.one r r'
theorem xQ.snoc:∀{π:List yf}{s:yf}{v u:V},xQ K H v (π++[s]) u->∃w,xQ K H v π w/\xQ K H w [s] u
 | [],_,v,_,h=>⟨v,rfl,h⟩
 |.at cs f::π,_,_,_,h=>by
  obtain⟨p,x,C,dx,fs,w,e,hx,ns,hp,l,r⟩:=h;obtain⟨w',r1,r2⟩:=xQ.snoc r;exact⟨w',⟨p,x,C,dx,fs,w,e,hx,ns,hp,l,r1⟩,r2⟩
 |.ky k::π,_,_,_,h=>by
  obtain⟨p,kvs,w,e,hp,l,r⟩:=h;obtain⟨w',r1,r2⟩:=xQ.snoc r;exact⟨w',⟨p,kvs,w,e,hp,l,r1⟩,r2⟩
theorem yV.focus{m1:M}:∀{π:List yf}{m:M}{v:V}{L:Ft},yV K G H m v L->uP m π=some m1->
  ∃v1 L1,xQ K H v π v1/\yV K G H m1 v1 L1/\(∀q,L1 q->L q)/\∀{G' H':Hp}{m2:M}{L2:Ft},zg G G'->(∀q,L q->¬ L1 q->H' q=H q)->yV K G' H' m2 v1 L2->(∀q,L2 q->L q->L1 q)->
   ∃m',uF m π m2=some m'/\yV K G' H' m' v (λq=>(L q/\¬ L1 q)\/L2 q)
 | [],m,v,L,h,e=>by
  cases e;refine⟨v,L,rfl,h,λ_ z=>z,λ{G' H' m2 L2} g hk o2 hd=>⟨m2,rfl,?_⟩⟩
  have e:(λq=>(L q/\¬ L q)\/L2 q)=L2:=by
   funext q
   exact propext ⟨λz=>z.elim (λw=>absurd w.1 w.2) id,.inr⟩
  rw[e];exact o2
 |s::π,m,v,L,h,e=>by
  obtain⟨ma,ea,ee⟩:=zC e
  have fin:∀{p:Addr}{L' L1 L2:Ft},¬ L' p->(∀q,L q↔q=p\/L' q)->(∀q,L1 q->L' q)->(∀q,L2 q->L q->L1 q)->(¬ ((L' p/\¬ L1 p)\/L2 p))/\∀q,((L q/\¬ L1 q)\/L2 q)↔q=p\/((L' q/\¬ L1 q)\/L2 q):=λ{p L' L1 L2} n u s hd=>by
   refine⟨?_,λq=>⟨?_,?_⟩⟩
   ·rintro(⟨z,_⟩|z)
    ·exact n z
    ·exact n (s p (hd p z ((u p).mpr (.inl rfl))))
   ·rintro(⟨z,w⟩|z)
    ·rcases(u q).mp z with z|z
     ·exact .inl z
     ·exact .inr (.inl ⟨z,w⟩)
    ·exact .inr (.inr z)
   ·rintro(rfl|⟨z,w⟩|z)
    ·exact .inl ⟨(u q).mpr (.inl rfl),λw=>n (s q w)⟩
    ·exact .inl ⟨(u q).mpr (.inr z),w⟩
    ·exact .inr z
  cases m with
  |fz d=>cases ea
  |own d=>cases ea
  |obj x fs ms=>
   cases s with
   |ky k=>cases ea
   | «at» cs f=>
    change (if x∈cs then getA fs ms f else none)=some ma at ea
    by_cases hx:x∈cs
    ·rw[zI hx]at ea;obtain⟨p,C,dx,vs,L',rfl,ns,hp,l,r,n,u⟩:=h;obtain⟨va,La,e1,o1,s1,f1⟩:=OwnMs.focus r ea;obtain⟨v1,L1,a1,oo,s2,f2⟩:=yV.focus o1 ee;refine⟨v1,L1,⟨p,x,C,dx,_,va,rfl,hx,ns,hp,by rw[Uu]; exact e1,a1⟩,oo,λq z=>(u q).mpr (.inr (s1 q (s2 q z))),λ{G' H' m2 L2} g hk o2 hd=>?_⟩;obtain⟨m',e',o'⟩:=f2 g (λq z w=>hk q ((u q).mpr (.inr (s1 q z))) w) o2 (λq z w=>hd q z ((u q).mpr (.inr (s1 q w))))
     have o3:=f1 g (λq z w=>hk q ((u q).mpr (.inr z)) λw'=>w (s2 q w')) o' (λq z w=>by
      rcases z with⟨z,_⟩|z
      ·exact z
      ·exact s2 q (hd q z ((u q).mpr (.inr w))))
     have eL:(λq=>(L' q/\¬ La q)\/((La q/\¬ L1 q)\/L2 q))=(λq=>(L' q/\¬ L1 q)\/L2 q):=by
      funext q
      refine propext ⟨?_,?_⟩
      ·rintro(⟨z,w⟩|⟨z,w⟩|z)
       ·exact .inl ⟨z,λw'=>w (s2 q w')⟩
       ·exact .inl ⟨s1 q z,w⟩
       ·exact .inr z
      ·rintro(⟨z,w⟩|z)
       ·by_cases c:La q
        ·exact .inr (.inl ⟨c,w⟩)
        ·exact .inl ⟨z,c⟩
       ·exact .inr (.inr z)
     rw[eL]at o3;obtain⟨f3,f4⟩:=fin n u (λq z=>s1 q (s2 q z)) hd;refine⟨.obj x fs (wU fs ms f m'),by show(Option.bind (if x∈cs then getA fs ms f else none) _)=_; rw[zI hx,ea]; show Option.bind (uF ma π m2) _=_; rw[e']; rfl,p,C,dx,vs,_,rfl,ns,?_,l,o3,f3,f4⟩;rw[hk p ((u p).mpr (.inl rfl)) λw=>n (s1 p (s2 p w))];exact hp
    ·rw[zK hx]at ea;cases ea
  |tab ks ms=>
   cases s with
   | «at» cs f=>cases ea
   |ky k=>
    change getA ks ms k=some ma at ea
    obtain⟨p,vs,L',rfl,hp,l,r,l2,n,u⟩:=h;obtain⟨va,La,e1,o1,s1,f1⟩:=OwnMs.focus r ea;obtain⟨v1,L1,a1,oo,s2,f2⟩:=yV.focus o1 ee;refine⟨v1,L1,⟨p,_,va,rfl,hp,by rw[g8 _ l,<-Jd]; exact e1,a1⟩,oo,λq z=>(u q).mpr (.inr (s1 q (s2 q z))),λ{G' H' m2 L2} g hk o2 hd=>?_⟩;obtain⟨m',e',o'⟩:=f2 g (λq z w=>hk q ((u q).mpr (.inr (s1 q z))) w) o2 (λq z w=>hd q z ((u q).mpr (.inr (s1 q w))))
    have o3:=f1 g (λq z w=>hk q ((u q).mpr (.inr z)) λw'=>w (s2 q w')) o' (λq z w=>by
     rcases z with⟨z,_⟩|z
     ·exact z
     ·exact s2 q (hd q z ((u q).mpr (.inr w))))
    have eL:(λq=>(L' q/\¬ La q)\/((La q/\¬ L1 q)\/L2 q))=(λq=>(L' q/\¬ L1 q)\/L2 q):=by
     funext q
     refine propext ⟨?_,?_⟩
     ·rintro(⟨z,w⟩|⟨z,w⟩|z)
      ·exact .inl ⟨z,λw'=>w (s2 q w')⟩
      ·exact .inl ⟨s1 q z,w⟩
      ·exact .inr z
     ·rintro(⟨z,w⟩|z)
      ·by_cases c:La q
       ·exact .inr (.inl ⟨c,w⟩)
       ·exact .inl ⟨z,c⟩
      ·exact .inr (.inr z)
    rw[eL]at o3;obtain⟨f3,f4⟩:=fin n u (λq z=>s1 q (s2 q z)) hd;refine⟨.tab ks (wU ks ms k m'),by show(Option.bind (getA ks ms k) _)=_; rw[ea]; show Option.bind (uF ma π m2) _=_; rw[e']; rfl,p,vs,_,rfl,?_,l,o3,?_,f3,f4⟩
    ·rw[hk p ((u p).mpr (.inl rfl)) λw=>n (s1 p (s2 p w))];exact hp
    ·have:∀{ks:List (Sum Int Str)} {ms:List M},(wU ks ms k m').length=ms.length:=λ{ks}=>by
      induction ks with
      |nil=>intro ms; rfl
      |cons k' ks ih=>
       intro ms;cases ms with
       |nil=>rfl
       |cons y ms=>
        unfold wU
        split
        ·rfl
        ·rw[yO,yO,ih]
     rw[this];exact l2
end
abbrev zm:=List (Option M)
def hide:M->Option Sl
 |.fz d=>some (false,d)
 |_=>none
def qr(β:zm):zi:=β.map λo=>o.bind hide
def vw(β:zm):zi:=β.map λo=>o.map λm=>(false,wA m)
mutual
def wV:D->Bool
 |.zF=>true
 |.bl _=>true
 |.int _=>true
 |.str _=>true
 |.tup ds=>tplDs ds
 |_=>false
def tplDs:List D->Bool
 | []=>true
 |d::ds=>wV d&&tplDs ds
end
def Iz:D->Bool
 |.lst ds=>tplDs ds
 |.dic _ ds=>tplDs ds
 |_=>false
structure MU(K:W.Frag)(H0 G H:Hp)(β:zm)(σ:St)(Ls:Nat->Ft):Prop where
 at_:∀(i:Nat)(m:M),β[i]?=some (some m)->∃v,σ[i]?=some (some v)/\yV K G H m v (Ls i)
 dj:∀(i j:Nat)(q:Addr),i≠j->Ls i q->Ls j q->False
 ok:∀(i:Nat)(q:Addr),Ls i q->G q=none/\H0 q=none/\Bx H q
structure zf(K:W.Frag)(n:Nat)(P:List V)(G0 H0 G H:Hp)(β:zm)(σ:St):Prop where
 ext:zP G0 H0 G H
 l1:σ.length=n
 l2:β.length=n
 lp:P.length<=n
 pin:∀(i:Nat)(v:V),P[i]?=some v->σ[i]?=some (some v)
 own:∃Ls,MU K H0 G H β σ Ls
section
variable{K:W.Frag}{n:Nat}{P:List V}{G0 H0 G H G' H':Hp}{β:zm}{σ:St}
theorem J3{q:Addr}(x:zP G H G' H')(g:G q=none)(b:Bx H q):G' q=none/\Bx H' q:=by
 obtain⟨u,e,c⟩:=b;refine⟨?_,u,x.h _ _ e,c⟩;cases z:G' q with
 |none=>rfl
 |some o=>
  rcases x.new q (by rw[z]; exact λw=>nomatch w)with w|w
  ·exact absurd g w
  ·rw[e]at w; cases w
theorem zf.go(E:zf K n P G0 H0 G H β σ)(x:zP G H G' H'):zf K n P G0 H0 G' H' β σ:=by
 obtain⟨Ls,F⟩:=E.own;refine⟨E.ext.trans x,E.l1,E.l2,E.lp,E.pin,Ls,λi m h=>?_,F.dj,λi q z=>?_⟩
 ·obtain⟨v,e,o⟩:=F.at_ i m h;refine⟨v,e,o.loc x.g m v _ λq z=>?_⟩;obtain⟨u,hu,_⟩:=(F.ok i q z).2.2;rw[hu];exact x.h _ _ hu
 ·obtain⟨a,b,c⟩:=F.ok i q z;obtain⟨a',c'⟩:=J3 x a c;exact⟨a',b,c'⟩
theorem Nc{i:Nat}{b:Bool}{d:D}(h:(qr β)[i]?=some (some (b,d))):b=false/\β[i]?=some (some (.fz d)):=by
 unfold qr at h;rw[vh]at h;cases e:β[i]? with
 |none=>rw[e]at h; cases h
 |some o=>
  rw[e]at h;cases o with
  |none=>cases h
  |some m=>
   cases m with
   |fz d'=>cases h; exact⟨rfl,rfl⟩
   |_=>cases h
theorem f_{i:Nat}{b:Bool}{d:D}(h:(vw β)[i]?=some (some (b,d))):b=false/\∃m,β[i]?=some (some m)/\d=wA m:=by
 unfold vw at h;rw[vh]at h;cases e:β[i]? with
 |none=>rw[e]at h; cases h
 |some o=>
  rw[e]at h;cases o with
  |none=>cases h
  |some m=>cases h; exact⟨rfl,m,rfl,rfl⟩
theorem Bl{τ:zi}(s:zg G H)(l1:σ.length=n)(l2:τ.length=n)(h:∀(i:Nat)(b:Bool)(d:D),τ[i]?=some (some (b,d))->b=false/\∃v,σ[i]?=some (some v)/\zU K G d v):zu K n G H G H τ σ:=
 ⟨zP.refl s,l1,l2,λi d e=>(h i false d e).2,λi d e=>(by cases(h i true d e).1),λi j d e p _ h1=>(by cases(h i true d h1).1)⟩
theorem zf.Z0(E:zf K n P G0 H0 G H β σ):zu K n G H G H (qr β) σ:=by
 obtain⟨Ls,F⟩:=E.own;refine Bl E.ext.gh E.l1 (by unfold qr; rw[zo]; exact E.l2) λi b d h=>?_
 obtain⟨rfl,hm⟩:=Nc h;obtain⟨v,e,r,_⟩:=F.at_ i _ hm;exact⟨rfl,v,e,r⟩
theorem KB{G1 G2:Hp}{L:Ft}(h1:∀q,¬ L q->G2 q=G1 q)(hb:∀q,L q->Bx G1 q){a:Addr}{vs:List V}(h:ye K G1 a vs):ye K G2 a vs:=by
 have k:∀{u:HO},BE u=false->G1 a=some u->G2 a=some u:=λ{u} hu e=>by
  rw[h1 a λz=>?_]
  ·exact e
  ·obtain⟨w,ew,cw⟩:=hb a z;rw[e]at ew;cases ew;rw[hu]at cw;cases cw
 rcases h with h|h
 ·rcases h with h|⟨o,h⟩
  ·exact .inl (.inl (k rfl h))
  ·exact .inl (.inr ⟨o,k rfl h⟩)
 ·exact .inr h
theorem BR{G1 G2:Hp}{L:Ft}(h1:∀q,¬ L q->G2 q=G1 q)(hb:∀q,L q->Bx G1 q)(d:D):∀(v:V),wV d=true->zU K G1 d v->zU K G2 d v:=by
 refine D.ind (P:=λd=>∀v,wV d=true->zU K G1 d v->zU K G2 d v) (λv _ h=>h) (λb v _ h=>h) (λi v _ h=>h) (λx v _ h=>h) ?_ (λxs ih v t=>by cases t) (λks xs ih v t=>by cases t) (λx v t=>by cases t) (λx fs xs ih v t=>by cases t) d;rintro xs ih v t ⟨a,vs,e,q,r,l⟩;refine⟨a,vs,e,KB h1 hb q,?_,l⟩;have t':tplDs xs=true:=t;clear t q l
 induction xs generalizing vs with
 |nil=>exact r
 |cons x xs ih2=>
  obtain⟨u,r',rfl,hu,hr⟩:=r;have t2:(wV x&&tplDs xs)=true:=t';rw[yC]at t2;exact⟨u,r',rfl,ih x yr u t2.1 hu,ih2 (λd hd=>ih d (xP _ hd)) r' hr t2.2⟩
theorem BS{G1 G2:Hp}{L:Ft}(h1:∀q,¬ L q->G2 q=G1 q)(hb:∀q,L q->Bx G1 q):∀{ds:List D}{vs:List V},tplDs ds=true->Reps K G1 ds vs->Reps K G2 ds vs
 | [],_,_,r=>r
 |d::ds,_,t,r=>by
  obtain⟨u,r',rfl,hu,hr⟩:=r;have t2:(wV d&&tplDs ds)=true:=t;rw[yC]at t2;exact⟨u,r',rfl,BR h1 hb d u t2.1 hu,BS h1 hb t2.2 hr⟩
theorem zf.vy(E:zf K n P G0 H0 G H β σ):∃G1,zu K n G1 H G1 H (vw β) σ/\∀G2 H2,zP G1 H G2 H2->∃G3,zP G H G3 H2/\zf K n P G0 H0 G3 H2 β σ/\(∀d v,wV d=true->zU K G2 d v->zU K G3 d v)/\(∀ds vs,tplDs ds=true->Reps K G2 ds vs->Reps K G3 ds vs)/\∀q,G2 q=none->G3 q=none:=by
 classical
 obtain⟨Ls,F⟩:=E.own
 let L:Ft:=λq=>∃i,Ls i q
 have gG:∀q,L q->G q=none:=λq ⟨i,z⟩=>(F.ok i q z).1
 have bH:∀q,L q->Bx H q:=λq ⟨i,z⟩=>(F.ok i q z).2.2
 let G1:Hp:=λq=>if L q then H q else G q
 have e1:∀q,L q->G1 q=H q:=λq z=>zI z
 have e2:∀q,¬ L q->G1 q=G q:=λq z=>zK z
 have s1:zg G G1:=λq o e=>by
  rw[e2 q λz=>by rw[gG q z]at e; cases e];exact e
 have s2:zg G1 H:=λq o e=>by
  by_cases c:L q
  ·rw[e1 q c]at e; exact e
  ·rw[e2 q c]at e; exact E.ext.gh _ _ e
 refine⟨G1,Bl s2 E.l1 (by unfold vw; rw[zo]; exact E.l2) λi b d h=>?_,λG2 H2 x=>?_⟩
 ·obtain⟨rfl,m,hm,rfl⟩:=f_ h;obtain⟨v,e,o⟩:=F.at_ i m hm;exact⟨rfl,v,e,o.vy s1 m v _ λq z=>e1 q ⟨i,z⟩⟩
 ·let G3:Hp:=λq=>if L q then none else G2 q
  have e3:∀q,¬ L q->G3 q=G2 q:=λq z=>zK z
  have e4:∀q,L q->G3 q=none:=λq z=>zI z
  have b2:∀q,L q->Bx G2 q:=λq z=>by
   obtain⟨u,hu,c⟩:=bH q z;exact⟨u,x.g _ _ ((e1 q z).trans hu),c⟩
  have X3:zP G H G3 H2:=by
   refine⟨λq o e=>?_,x.h,λq o e=>?_,λq z=>?_⟩
   ·have c:¬ L q:=λz=>by rw[gG q z]at e; cases e
    rw[e3 q c];exact x.g _ _ (s1 _ _ e)
   ·by_cases c:L q
    ·rw[e4 q c]at e; cases e
    ·rw[e3 q c]at e; exact x.gh _ _ e
   ·by_cases c:L q
    ·rw[e4 q c]at z; exact absurd rfl z
    ·rw[e3 q c]at z;rcases x.new q z with w|w
     ·rw[e2 q c]at w; exact .inl w
     ·exact .inr w
  refine⟨G3,X3,E.go X3,λd v t r=>BR e3 b2 d v t r,λds vs t r=>BS e3 b2 t r,λq z=>?_⟩;by_cases c:L q
  ·exact e4 q c
  ·rw[e3 q c]; exact z
theorem YM{α:Type}{xs:List α}{x y:α}{i:Nat}(h:(xs++[x])[i]?=some y):(i<xs.length/\xs[i]?=some y)\/(i=xs.length/\y=x):=by
 rcases Nat.lt_or_ge i xs.length with c|c
 ·rw[j9 c]at h;exact .inl ⟨c,h⟩
 ·rw[W_ c]at h;cases z:i-xs.length with
  |zero=>
   rw[z]at h;cases h;exact .inr ⟨by omega,rfl⟩
  |succ k=>rw[z]at h; cases h
theorem vq{α:Type}{xs:List α}{x:α}{n:Nat}(h:xs.length=n):(xs++[x])[n]?=some x:=by
 subst h;rw[W_ (yF _),M1];rfl
theorem xt{α:Type}{xs:List α}{x:α}{i:Nat}(h:i<xs.length):(xs++[x])[i]?=xs[i]?:=j9 h
theorem zf.push{m:M}{v:V}{L:Ft}(E:zf K n P G0 H0 G H β σ)(o:yV K G H m v L)(hL:∀Ls,MU K H0 G H β σ Ls->∀i q,Ls i q->L q->False)(ok:∀q,L q->G q=none/\H0 q=none/\Bx H q):zf K (n+1) P G0 H0 G H (β++[some m]) (σ++[some v]):=by
 obtain⟨Ls,F⟩:=E.own;have hd:=hL Ls F;refine⟨E.ext,by rw[yL,E.l1]; rfl,by rw[yL,E.l2]; rfl,by have:=E.lp; omega,λi u h=>?_,λj=>if j<n then Ls j else if j=n then L else λ_=>False,λi m' h=>?_,λi j q ne z1 z2=>?_,λi q z=>?_⟩
 ·have hi:i<σ.length:=by
   rw[E.l1];exact xi (yD.mp h).1 E.lp
  rw[xt hi];exact E.pin i u h
 ·rcases YM h with⟨c,e⟩|⟨c,e⟩
  ·rw[E.l2]at c;obtain⟨u,eu,ou⟩:=F.at_ i m' e;refine⟨u,by rw[xt (by rw[E.l1]; exact c)]; exact eu,?_⟩;simp only[zI c];exact ou
  ·cases e;rw[E.l2]at c;subst c;refine⟨v,vq E.l1,?_⟩;simp only[wL,wq,xj];exact o
 ·skip
  split at z1
  ·split at z2
   ·exact F.dj i j q ne z1 z2
   ·split at z2
    ·exact hd i q z1 z2
    ·exact z2
  ·split at z1
   ·split at z2
    ·exact hd j q z2 z1
    ·split at z2
     ·exact ne (by omega)
     ·exact z2
   ·exact z1
 ·skip
  split at z
  ·exact F.ok i q z
  ·split at z
   ·exact ok q z
   ·exact z.elim
theorem zf.qU{d:D}{v:V}(E:zf K n P G0 H0 G H β σ)(r:zU K G d v):zf K (n+1) P G0 H0 G H (β++[some (.fz d)]) (σ++[some v]):=
 E.push (L:=λ_=>False) ⟨r,λ_ z=>z⟩ (λ_ _ _ _ _ z=>z) λ_ z=>z.elim
theorem zf.MM{d:D}{p:Addr}(E:zf K n P G0 H0 G H β σ)(x:zP G H G' H')(hp:H p=none)(gp:G' p=none)(o:wP K G' H' d p):zf K (n+1) P G0 H0 G' H' (β++[some (.own d)]) (σ++[some (.ref p)]):=by
 obtain⟨Ls,F⟩:=E.own;have E':=E.go x;refine⟨?_,?_,?_,?_,?_,?_⟩<;>try first|exact E'.ext|exact(by rw[yL,E.l1]; rfl)|exact(by rw[yL,E.l2]; rfl)
 ·have:=E.lp; omega
 ·intro i u h
  have hi:i<σ.length:=by
   rw[E.l1];exact xi (yD.mp h).1 E.lp
  rw[xt hi];exact E.pin i u h
 ·have hz:∀i q,Ls i q->q≠p:=λi q z c=>by
   subst c;exact(F.ok i q z).2.2.some hp
  refine⟨λj=>if j<n then Ls j else if j=n then(λq=>q=p)else λ_=>False,λi m' h=>?_,λi j q ne z1 z2=>?_,λi q z=>?_⟩
  ·rcases YM h with⟨c,e⟩|⟨c,e⟩
   ·rw[E.l2]at c;obtain⟨u,eu,ou⟩:=F.at_ i m' e;refine⟨u,by rw[xt (by rw[E.l1]; exact c)]; exact eu,?_⟩;simp only[zI c];refine ou.loc x.g m' u _ λq z=>?_
    obtain⟨w,hw,_⟩:=(F.ok i q z).2.2;rw[hw];exact x.h _ _ hw
   ·cases e;rw[E.l2]at c;subst c;refine⟨_,vq E.l1,?_⟩;simp only[wL,wq,xj];exact⟨p,rfl,o,λq=>t5⟩
  ·skip
   split at z1
   ·split at z2
    ·exact F.dj i j q ne z1 z2
    ·split at z2
     ·exact hz i q z1 z2
     ·exact z2
   ·split at z1
    ·split at z2
     ·exact hz j q z2 z1
     ·split at z2
      ·exact ne (by omega)
      ·exact z2
    ·exact z1
  ·skip
   split at z
   ·obtain⟨a,b,c⟩:=F.ok i q z;obtain⟨a',c'⟩:=J3 x a c;exact⟨a',b,c'⟩
   ·split at z
    ·subst z;exact⟨gp,E.ext.h.free hp,o.bx⟩
    ·exact z.elim
theorem zf.MO{m:M}{v:V}{i:Nat}(hi:i<n)(hP:P.length<=i)(hl1:σ.length=n)(hl2:β.length=n)(E:zf K (n+1) P G0 H0 G H (β++[some m]) (σ++[some v])):zf K n P G0 H0 G H (β.set i (some m)) (σ.set i (some v)):=by
 obtain⟨Ls,F⟩:=E.own;refine⟨E.ext,by rw[vV]; exact hl1,by rw[vV]; exact hl2,by omega,λj u h=>?_,λj=>if j=i then Ls n else if j<n then Ls j else λ_=>False,λj m' h=>?_,λj k q ne z1 z2=>?_,λj q z=>?_⟩
 ·have hj:j<P.length:=(yD.mp h).1;rw[uv (by omega)];have:=E.pin j u h;rw[xt (by omega)]at this;exact this
 ·rcases v6 h with⟨rfl,w⟩|⟨ne,w⟩
  ·cases w;obtain⟨u,eu,ou⟩:=F.at_ n m (vq hl2);rw[vq hl1]at eu;cases eu;simp only[xj];exact⟨v,Zm (by omega),ou⟩
  ·have hj:j<n:=by rw[<-hl2]; exact(yD.mp w).1
   obtain⟨u,eu,ou⟩:=F.at_ j m' (by rw[xt (by omega)]; exact w);rw[xt (by omega)]at eu;simp only[zK ne,zI hj];exact⟨u,by rw[uv ne]; exact eu,ou⟩
 ·skip
  split at z1
  ·split at z2
   ·exact ne (by omega)
   ·split at z2
    ·exact F.dj n k q (by omega) z1 z2
    ·exact z2
  ·split at z1
   ·split at z2
    ·exact F.dj j n q (by omega) z1 z2
    ·split at z2
     ·exact F.dj j k q ne z1 z2
     ·exact z2
   ·exact z1
 ·skip
  split at z
  ·exact F.ok n q z
  ·split at z
   ·exact F.ok j q z
   ·exact z.elim
theorem zf.pop{m:Option M}{v:Option V}(hl1:σ.length=n)(hl2:β.length=n)(hP:P.length<=n)(E:zf K (n+1) P G0 H0 G H (β++[m]) (σ++[v])):zf K n P G0 H0 G H β σ:=by
 obtain⟨Ls,F⟩:=E.own;refine⟨E.ext,hl1,hl2,hP,λj u h=>?_,Ls,λj m' h=>?_,F.dj,F.ok⟩
 ·have hj:j<P.length:=(yD.mp h).1;have:=E.pin j u h;rw[xt (by omega)]at this;exact this
 ·have hj:j<n:=by rw[<-hl2]; exact(yD.mp h).1
  obtain⟨u,eu,ou⟩:=F.at_ j m' (by rw[xt (by omega)]; exact h);rw[xt (by omega)]at eu;exact⟨u,eu,ou⟩
end
inductive jU where
 |nx (β:zm)|rt (m:M) (β:zm)|bk (β:zm)|ct (β:zm)
abbrev yH:=zm->Option jU
abbrev ym:=zm->Option (M×zm)
abbrev tK:=zm->Option (Bool×zm)
def ZO(K:W.Frag)(n:Nat)(P:List V)(G0 H0:Hp)(E:vj):jU->Prop
 |.nx β=>∀σ G H,zf K n P G0 H0 G H β σ->E.nx σ H
 |.bk β=>∀σ G H,zf K n P G0 H0 G H β σ->E.bk σ H
 |.ct β=>∀σ G H,zf K n P G0 H0 G H β σ->E.ct σ H
 |.rt m β=>∀σ v G H,zf K (n+1) P G0 H0 G H (β++[some m]) (σ++[some v])->E.rt v H
section
variable(X:Cx)
structure MC(e:Expr)(f:ym):Prop where
 h:∃t,PE X e t/\∀{P:List V}{G0 H0 G H:Hp}{β β':zm}{σ:St}{m:M}{Q:VK},zf X.K X.N.length P G0 H0 G H β σ->f β=some (m,β')->(∀v G' H',zg G G'->zf X.K (X.N.length+1) P G0 H0 G' H' (β'++[some m]) (σ++[some v])->Q v H')->t σ H Q
structure MT(e:Expr)(f:tK):Prop where
 h:∃t,PT X e t/\∀{P:List V}{G0 H0 G H:Hp}{β β':zm}{σ:St}{b:Bool}{Q:Bool->Hp->Prop},zf X.K X.N.length P G0 H0 G H β σ->f β=some (b,β')->(∀G' H',zg G G'->zf X.K X.N.length P G0 H0 G' H' β' σ->Q b H')->t σ H Q
structure MS(np:Nat)(st:Stmt)(f:yH):Prop where
 h:∃t,PS X st t/\∀{P:List V}{G0 H0 G H:Hp}{β:zm}{σ:St}{fl:jU}{E:vj},P.length=np->zf X.K X.N.length P G0 H0 G H β σ->f β=some fl->ZO X.K X.N.length P G0 H0 E fl->t E σ H
structure qZ(np:Nat)(st:List Stmt)(f:yH):Prop where
 h:∃t,vW X st t/\∀{P:List V}{G0 H0 G H:Hp}{β:zm}{σ:St}{fl:jU}{E:vj},P.length=np->zf X.K X.N.length P G0 H0 G H β σ->f β=some fl->ZO X.K X.N.length P G0 H0 E fl->t E σ H
end
section
variable{K:W.Frag}{n:Nat}{P:List V}{G0 H0 G H G' H':Hp}{β:zm}{σ:St}{m:M}{v:V}{d:D}
theorem zf.kn{m:Option M}{v:Option V}(E:zf K (n+1) P G0 H0 G H (β++[m]) (σ++[v])):σ.length=n:=by
 have:=E.l1;rw[yL]at this;exact Yk this
theorem zf.t6{m:Option M}{v:Option V}(E:zf K (n+1) P G0 H0 G H (β++[m]) (σ++[v])):β.length=n:=by
 have:=E.l2;rw[yL]at this;exact Yk this
theorem zf.jK(E:zf K (n+1) P G0 H0 G H (β++[some (.fz d)]) (σ++[some v])):zU K G d v:=by
 obtain⟨Ls,F⟩:=E.own;obtain⟨u,eu,r,_⟩:=F.at_ n _ (vq E.t6);rw[vq E.kn]at eu;cases eu;exact r
theorem zf.Yt{i:Nat}(E:zf K n P G0 H0 G H β σ)(hi:i<n)(hP:P.length<=i)(r:zU K G d v):zf K n P G0 H0 G H (β.set i (some (.fz d))) (σ.set i (some v)):=(E.qU r).MO hi hP E.l1 E.l2
theorem zf.kz(E:zf K n P G0 H0 G H β σ):zf K n P G H0 G H β σ:=⟨E.ext.kz,E.l1,E.l2,E.lp,E.pin,E.own⟩
theorem zf.near{Ga Ha:Hp}(a:zP G0 H0 Ga Ha)(E:zf K n P Ga H0 G H β σ):zf K n P G0 H0 G H β σ:=⟨a.rebase E.ext,E.l1,E.l2,E.lp,E.pin,E.own⟩
theorem ZO.near{Ga Ha:Hp}{E:vj}{fl:jU}(x:zP G0 H0 Ga Ha)(h:ZO K n P G0 H0 E fl):ZO K n P Ga H0 E fl:=by
 cases fl with
 |nx τ=>exact λσ G H z=>h σ G H (zf.near x z)
 |bk τ=>exact λσ G H z=>h σ G H (zf.near x z)
 |ct τ=>exact λσ G H z=>h σ G H (zf.near x z)
 |rt m β=>exact λσ v G H z=>h σ v G H (zf.near x z)
end
def yb(f:FE):ym:=λβ=>(f (qr β)).bind λd=>some (.fz d,β)
def uR(f:FE):ym:=λβ=>(f (vw β)).bind λd=>match wV d with
 |true=>some (.fz d,β)
 |false=>none
def jc(f:FE):ym:=λβ=>(f (qr β)).bind λd=>some (.own d,β)
def Hi(f:FE):ym:=λβ=>(f (vw β)).bind λd=>match Iz d with
 |true=>some (.own d,β)
 |false=>none
def Hh(f:ym):ym:=λβ=>(f β).bind λr=>match r with
 |(.own d,β')=>some (.fz d,β')
 |r=>some r
def qQ(f:FT):tK:=λβ=>(f (vw β)).bind λb=>some (b,β)
def iY(f:tK):tK:=λβ=>(f β).bind λr=>some (!r.1,r.2)
def iX(f g:tK):tK:=λβ=>(f β).bind λr=>match r.1 with
 |true=>g r.2
 |false=>some (false,r.2)
def iZ(f g:tK):tK:=λβ=>(f β).bind λr=>match r.1 with
 |true=>some (true,r.2)
 |false=>g r.2
def uO:M->Option D
 |.fz d=>some d
 |_=>none
def UB(F:D->D->Option D)(f g:ym):ym:=λβ=>(f β).bind λr=>(uO r.1).bind λx=>(g r.2).bind λr'=>(uO r'.1).bind λy=>(F x y).bind λz=>some (.fz z,r'.2)
def L0(f:ym):tK:=λβ=>(f β).bind λr=>(uO r.1).bind λx=>(pM x).bind λb=>some (b,r.2)
def Hg(f g:ym):ym:=λβ=>(f β).bind λr=>(uO r.1).bind λx=>(pM x).bind λb=>match b with
 |true=>g r.2
 |false=>some (.fz (.bl false),r.2)
theorem qf{m:M}{d:D}(h:uO m=some d):m=.fz d:=by
 cases m with
 |fz d'=>cases h; rfl
 |_=>cases h
section
variable{X:Cx}{x:Str}{p pos:Pos}{e a b:Expr}{zn:List Expr}{f:FE}{ft:FT}{F:D->D->Option D}{r:R2}{g g':ym}{u u':tK}
theorem xI(h:SE X e f):MC X e (yb f):=by
 obtain⟨t,p,k⟩:=h.h;refine⟨⟨t,p,λE hf q=>?_⟩⟩;obtain⟨d,hd,hf⟩:=zC hf;cases hf;exact k E.Z0 hd λv G' H' x r=>q v G' H' x.g ((E.go x).qU r)
theorem tT(h:SE X e f):MC X e (uR f):=by
 obtain⟨t,p,k⟩:=h.h;refine⟨⟨t,p,λE hf q=>?_⟩⟩;obtain⟨d,hd,hf⟩:=zC hf;cases c:wV d with
 |false=>rw[c]at hf; cases hf
 |true=>
  rw[c]at hf;cases hf;obtain⟨G1,E1,back⟩:=E.vy;refine k E1 hd λv G' H' x r=>?_
  obtain⟨G3,x3,E3,r3,_⟩:=back _ _ x;exact q v G3 H' x3.g (E3.qU (r3 d v c r))
theorem Z_(h:SF X e f):MC X e (jc f):=by
 obtain⟨t,p,k⟩:=h.h;refine⟨⟨t,p,λE hf q=>?_⟩⟩;obtain⟨d,hd,hf⟩:=zC hf;cases hf;exact k E.Z0 hd λp G' H' x hp gp o=>q _ G' H' x.g (E.MM x hp gp o)
theorem pT(h:ST X e ft):MT X e (qQ ft):=by
 obtain⟨t,p,k⟩:=h.h;refine⟨⟨t,p,λE hf q=>?_⟩⟩;obtain⟨b,hb,hf⟩:=zC hf;cases hf;obtain⟨G1,E1,back⟩:=E.vy;refine k E1 hb λG' H' x=>?_
 obtain⟨G3,x3,E3,_⟩:=back _ _ x;exact q G3 H' x3.g E3
theorem zf.down{K:W.Frag}{n:Nat}{P:List V}{G0 H0 G H:Hp}{β:zm}{σ:St}{m:Option M}{v:Option V}(hP:P.length<=n)(E:zf K (n+1) P G0 H0 G H (β++[m]) (σ++[v])):zf K n P G0 H0 G H β σ:=E.pop E.kn E.t6 hP
theorem R6{op:CmpOp}(ho:yE X (compareOp op) r)(hF:tL X.K r F)(ha:MC X a g)(hb:MC X b g')(hm:behindInMarks op b=false):MT X (.Compare a [op] [b] pos) (L0 (UB F g g')):=by
 obtain⟨ta,pa,ka⟩:=ha.h;obtain⟨tb,pb,kb⟩:=hb.h;refine⟨⟨_,OH ho pa pb hm,λE hf q=>?_⟩⟩;obtain⟨⟨m3,β3⟩,h3,hf⟩:=zC hf;obtain⟨d3,e3,hf⟩:=zC hf;cases qf e3;obtain⟨bb,hbb,hf⟩:=zC hf;cases hf;obtain⟨⟨m1,β1⟩,h1,h3⟩:=zC h3;obtain⟨d1,e1,h3⟩:=zC h3;cases qf e1;obtain⟨⟨m2,β2⟩,h2,h3⟩:=zC h3;obtain⟨d2,e2,h3⟩:=zC h3;cases qf e2;obtain⟨z,hz,h3⟩:=zC h3;cases h3;refine ka E h1 λv1 G1 H1 s1 E1=>?_
 have r1:=E1.jK;refine kb (E1.down E.lp) h2 λv2 G2 H2 s2 E2=>?_
 have r2:=E2.jK;have Ed:=E2.down E.lp;obtain⟨k,rfl,zz⟩:=hF H2 d1 d2 v1 v2 _ _ ((r1.mono s2).mono Ed.ext.gh) (r2.mono Ed.ext.gh) hz;cases hbb;exact zz ⟨_,rfl,q G2 _ (s1.trans s2) Ed⟩
end
def qJ:yH:=λβ=>some (.nx β)
def yN(a b:yH):yH:=λβ=>(a β).bind λf=>match f with
 |.nx β'=>b β'
 |f=>some f
def tS(c:tK)(a b:yH):yH:=λβ=>(c β).bind λr=>match r.1 with
 |true=>a r.2
 |false=>b r.2
def qw(f:ym):yH:=λβ=>(f β).bind λr=>some (.rt r.1 r.2)
def uU(f:ym):yH:=λβ=>(f β).bind λr=>some (.nx r.2)
def vE(i:Nat)(f:ym):yH:=λβ=>(f β).bind λr=>some (.nx (r.2.set i (some r.1)))
abbrev MG:=D->zm->Option zm
def Uo(i:Nat):MG:=λd β=>some (β.set i (some (.fz d)))
def Zv(i j:Nat):MG:=λd β=>match d with
 |.tup [x,y]=>some ((β.set i (some (.fz x))).set j (some (.fz y)))
 |_=>none
def qu(g:MG)(b:yH):List D->zm->Option jU
 | [],β=>some (.nx β)
 |d::r,β=>(g d β).bind λβ1=>(b β1).bind λf=>match f with
  |.nx β2=>qu g b r β2
  |.ct β2=>qu g b r β2
  |.bk β2=>some (.nx β2)
  |.rt m β2=>some (.rt m β2)
def XT(it:FA)(g:MG)(b:yH):yH:=λβ=>(it (qr β)).bind λds=>qu g b ds β
section
variable{X:Cx}{np:Nat}{x:Str}{p pos pos':Pos}{e c tg iter:Expr}{st:Stmt}{sts body:List Stmt}{f g:yH}{h:ym}{u:tK}{fs:FA}
theorem pS:qZ X np [] qJ:=⟨⟨_,CS,λ{P G0 H0 G H β σ fl E} _ K hf q=>by
 cases hf;exact q σ G H K⟩⟩
theorem yW(h1:MS X np st f)(h2:qZ X np sts g):qZ X np (st::sts) (yN f g):=by
 obtain⟨t,p,k⟩:=h1.h;obtain⟨t',p',k'⟩:=h2.h;refine⟨⟨_,CQ p p',λ{P G0 H0 G H β σ fl E} hP K hf q=>?_⟩⟩;obtain⟨f1,h1,hf⟩:=zC hf;refine k hP K h1 ?_;cases f1 with
 |nx τ'=>exact λσ' G' H' K'=>k' hP K' hf q
 |bk τ'=>cases hf; exact q
 |ct τ'=>cases hf; exact q
 |rt o d=>cases hf; exact q
theorem yx(h1:MS X np st f):qZ X np [st] f:=⟨let ⟨t,p,k⟩:=h1.h; ⟨t,CT p,k⟩⟩
theorem qz{sa sb:List Stmt}(hc:MT X c u)(ha:qZ X np sa f)(hb:qZ X np sb g):MS X np (.If c sa sb pos) (tS u f g):=by
 obtain⟨tc,pc,kc⟩:=hc.h;obtain⟨ta,pa,ka⟩:=ha.h;obtain⟨tb,pb,kb⟩:=hb.h;refine⟨⟨_,CO pc pa pb,λ{P G0 H0 G H β σ fl E} hP K hf q=>?_⟩⟩;obtain⟨⟨k,β1⟩,hk,hf⟩:=zC hf;refine kc K hk λG1 H1 _ K1=>?_
 cases k with
 |true=>exact ji (ka hP K1 hf q)
 |false=>exact jh (kb hP K1 hf q)
theorem jn(he:MC X e h):MS X np (.Return (some e) pos) (qw h):=by
 obtain⟨t,p,k⟩:=he.h;refine⟨⟨_,T5 p,λ{P G0 H0 G H β σ fl E} hP K hf q=>?_⟩⟩;obtain⟨⟨m,β1⟩,hk,hf⟩:=zC hf;cases hf;exact k K hk λv G' H' _ K'=>q _ v _ _ K'
theorem qK(he:MC X e h)(hs:swapsWith e none pos.line X.env=pure false:=by rfl):MS X np (.Expr e pos) (uU h):=by
 obtain⟨t,p,k⟩:=he.h;refine⟨⟨_,CM p hs,λ{P G0 H0 G H β σ fl E} hP K hf q=>?_⟩⟩;obtain⟨⟨m,β1⟩,hk,hf⟩:=zC hf;cases hf;exact k K hk λv G' H' _ K'=>q _ _ _ (K'.down K.lp)
theorem uY{i:Nat}{x:Str}{pos':Pos}(hN:X.N.Nodup)(hi:X.N[i]?=some x)(hx:tH X.env.scope x)(hn:np<=i)(he:MC X e h)(hs:Y3 e=true:=by rfl)(hf:X.fn x=true\/X.env.scope.names.lookup x=some .local:=by first|exact .inl rfl|exact .inr rfl|assumption) :
  MS X np (.Assign [.Name x pos'] e pos) (vE i h):=by
 obtain⟨t,p,k⟩:=he.h;refine⟨⟨_,(OO hN hi hx ⟨p⟩ hs hf).h,λ{P G0 H0 G H β σ fl E} hP K hf q=>?_⟩⟩;obtain⟨⟨m,β1⟩,hk,hf⟩:=zC hf;cases hf;exact k K hk λv G' H' _ K'=>q _ _ _ (K'.MO (yD.mp hi).1 (by omega) K'.kn K'.t6)
structure Qf(X:Cx)(np:Nat)(tg:Expr)(fg:MG):Prop where
 h:∃t,PG X tg t/\∀{P:List V}{G0 H0 G H:Hp}{β β':zm}{σ:St}{d:D}{v:V}{Q:St->Hp->Prop},P.length=np->zf X.K X.N.length P G0 H0 G H β σ->zU X.K G d v->fg d β=some β'->(∀σ',zf X.K X.N.length P G0 H0 G H β' σ'->Q σ' H)->t v σ H Q
theorem Pz{i:Nat}{x:Str}(h:QG X (.Name x pos) (vZ i))(hi:X.N[i]?=some x)(hn:np<=i):Qf X np (.Name x pos) (Uo i):=⟨⟨_,h.h,λhP K r hf q=>by
 cases hf;exact q _ (K.Yt (yD.mp hi).1 (by omega) r)⟩⟩
theorem Dw{i j:Nat}{x y:Str}{p1 p2:Pos}{kk:Nat}(h:QG X (.Tuple [.Name x p1,.Name y p2] kk pos) (Zh X.K 2 (qo (vZ i) (qo (vZ j) Zg))))(hi:X.N[i]?=some x)(hj:X.N[j]?=some y)(hn:np<=i)(hm:np<=j):Qf X np (.Tuple [.Name x p1,.Name y p2] kk pos) (Zv i j):=⟨⟨_,h.h,λ{P G0 H0 G H β β' σ d v Q} hP K r hf q=>by
 unfold Zv at hf
 split at hf
 ·rename_i d1 d2;cases hf;obtain⟨a,vs,rfl,sq,⟨v1,r1,rfl,h1,⟨v2,r2,rfl,h2,h3⟩⟩,_⟩:=r;cases(show r2=[]from h3);refine⟨a,_,rfl,vf K.ext.gh sq,rfl,v1,_,rfl,v2,_,rfl,rfl,?_⟩;exact q _ ((K.Yt (yD.mp hi).1 (by omega) h1).Yt (yD.mp hj).1 (by omega) h2)
 ·cases hf⟩⟩
theorem Iy{fg:MG}(hp:PassesOwn (model X.prog X.w) X.A X.env X.xe)(hc:X.calm=true)(hi:SI X tg iter fs)(hg:Qf X np tg fg)(hb:qZ X np body g)(hs:∀x,foldedSetIterable iter X.env x=pure x:=by intro _; rfl):MS X np (.For tg iter body [] pos) (XT fs fg g):=by
 obtain⟨ti,pi,ki⟩:=hi.h;obtain⟨tg',pg,kg⟩:=hg.h;obtain⟨tb,pb,kb⟩:=hb.h;refine⟨⟨_,CN hp hc pi pg pb hs,λ{P G0 H0 G H τ σ fl E} hP K hf q=>?_⟩⟩;obtain⟨ds,hd,hf⟩:=zC hf;refine ki K.Z0 hd λJ Ga Ha xa _ wk=>?_
 have Ka:=K.go xa;have q':=ZO.near Ka.ext q;refine⟨λi m σ H=>m=ds.length-i/\i<=ds.length/\∃τ G,zf X.K X.N.length P Ga H0 G H τ σ/\qu fg g (ds.drop i) τ=some fl,⟨ds.length,rfl,vi _,τ,Ga,Ka.kz,hf⟩,?_⟩;rintro i m σ H ⟨rfl,hle,τ,G,K,hf⟩;by_cases hlt:i<ds.length
 ·refine .inr ⟨wk.go i G H K.ext.g K.ext.gh hlt,λσ' H'=>∃τ G,zf X.K X.N.length P Ga H0 G H' τ σ'/\qu fg g (ds.drop (i+1)) τ=some fl,λσ' H' z=>⟨ds.length-(i+1),by omega,rfl,hlt,z⟩,λx H' y=>?_⟩;obtain⟨G3,d,x3,ed,rd⟩:=wk.vz i G H x H' K.ext.g K.ext.gh hlt y;rw[Ya hlt]at hf;rw[xD hlt]at ed;cases ed;obtain⟨τ1,h1,hf⟩:=zC (show(fg _ τ).bind _=_ from hf);obtain⟨f1,h2,hf⟩:=zC hf;refine kg hP (K.go x3) rd h1 λσ1 K1=>kb hP K1 h2 ?_
  cases f1 with
  |nx τ2=>exact λσ2 G2 H2 K2=>⟨τ2,G2,K2,hf⟩
  |ct τ2=>exact λσ2 G2 H2 K2=>⟨τ2,G2,K2,hf⟩
  |bk τ2=>cases hf; exact q'
  |rt m β=>cases hf; exact q'
 ·have e:i=ds.length:=by omega
  subst e;rw[List.drop_length]at hf;cases hf;exact .inl ⟨wk.stop _ G H K.ext.g K.ext.gh (yF _),q' _ _ _ K⟩
end
def uZ(β:zm)(i:Nat)(π:List yf):Option M:=match β[i]? with
 |some (some m)=>uP m π
 |_=>none
def putAt(β:zm)(i:Nat)(π:List yf)(m2:M):Option zm:=match β[i]? with
 |some (some m)=>(uF m π m2).bind λm'=>some (β.set i (some m'))
 |_=>none
theorem q_{β:zm}{i:Nat}{π:List yf}{nd:M}(h:uZ β i π=some nd):∃m,β[i]?=some (some m)/\uP m π=some nd:=by
 unfold uZ at h
 split at h
 ·rename_i m e;exact⟨m,e,h⟩
 ·cases h
theorem jt{β:zm}{i:Nat}{π:List yf}{m m' m2:M}(h:β[i]?=some (some m))(e:uF m π m2=some m'):putAt β i π m2=some (β.set i (some m')):=by
 unfold putAt;rw[h];show(uF m π m2).bind _=_;rw[e];rfl
def zw(K:W.Frag)(cs:List Str)(f:Str):Prop:=∀x∈cs,∀C,W.nsIn K mainGlobals x=some (some (.ref C))->v_ K C/\jV K C f
structure SP(X:Cx)(e:Expr)(i:Nat)(π:List yf):Prop where
 h:∃t,PE X e t/\∀{σ:St}{H:Hp}{v u:V}{Q:VK},σ[i]?=some (some v)->xQ X.K H v π u->Q u H->t σ H Q
section
variable{X:Cx}{x f:Str}{p pos:Pos}{e:Expr}{i:Nat}{π:List yf}{cs:List Str}
theorem yM(i:Nat){x:Str}{pos:Pos}(hN:X.N[i]?=some x:=by rfl)(hv:pL X.env.scope x:=by first|exact Or.inl rfl|exact Or.inr (Or.inl rfl)|exact Or.inr (Or.inr rfl))(hd:(x==("__debug__" : Str))=false:=by decide)
  (hcd:(x==("__classdict__" : Str))=false:=by decide):SP X (.Name x pos) i []:=⟨⟨_,Y9 hN hv hd hcd,λe a q=>by
 cases(show _=_ from a);exact⟨_,e,q⟩⟩⟩
theorem ve(h:SP X e i π)(k:zw X.K cs f)(hb:attributeBase e f X.env (eval e X.env)=eval e X.env:=by rfl):SP X (.Attribute e f pos) i (π++[.at cs f]):=by
 obtain⟨t,p,kt⟩:=h.h;refine⟨⟨_,C7 p hb,λe a q=>?_⟩⟩;obtain⟨w,a1,a2⟩:=a.snoc;obtain⟨p,x,C,dx,fs,w',rfl,hx,ns,hp,l,rfl⟩:=a2;obtain⟨c,n⟩:=k x hx C ns;exact kt e a1 ⟨p,C,dx,fs,_,rfl,hp,c,n,l,q⟩
theorem TR{k:Str}{kk kp}(h:SP X e i π):SP X (.Subscript e (.Constant (.str k) kk kp) pos) i (π++[.ky (.inr k)]):=by
 obtain⟨t,p,kt⟩:=h.h;refine⟨⟨_,OA DZ p Xa (OD rfl),λe a q=>?_⟩⟩;obtain⟨w,a1,a2⟩:=a.snoc;obtain⟨p,kvs,w',rfl,hp,l,rfl⟩:=a2;exact kt e a1 ⟨p,kvs,.inr k,_,rfl,rfl,.inl hp,l,q⟩
end
section
variable{K:W.Frag}{n:Nat}{P:List V}{G0 H0 G H:Hp}{β:zm}{σ:St}
theorem zf.write{m m1 mr:M}{vr:V}{i:Nat}{π:List yf}(E:zf K (n+1) P G0 H0 G H (β++[some mr]) (σ++[some vr]))(hP:P.length<=n)(hm:β[i]?=some (some m))(ha:uP m π=some m1) :
  ∃r v1 L1 Lr,σ[i]?=some (some r)/\xQ K H r π v1/\yV K G H m1 v1 L1/\yV K G H mr vr Lr/\(∀q,L1 q->Lr q->False)/\
   ∀{H':Hp}{m2:M}{L2:Ft},(∀q,¬ L1 q->H' q=H q)->yV K G H' m2 v1 L2->(∀q,L2 q->L1 q\/Lr q)->∃m',uF m π m2=some m'/\zf K n P G0 H0 G H' (β.set i (some m')) σ:=by
 obtain⟨Ls,F⟩:=E.own;have hl1:=E.kn;have hl2:=E.t6;have hi:i<n:=by rw[<-hl2]; exact(yD.mp hm).1
 obtain⟨r,er,om⟩:=F.at_ i m (by rw[xt (by omega)]; exact hm);rw[xt (by omega)]at er;obtain⟨u,eu,orr⟩:=F.at_ n mr (vq hl2);rw[vq hl1]at eu;cases eu;obtain⟨v1,L1,va,o1,s1,re⟩:=om.focus ha;have djn:∀q,L1 q->Ls n q->False:=λq a b=>F.dj i n q (by omega) (s1 q a) b
 refine⟨r,v1,L1,Ls n,er,va,o1,orr,djn,λ{H' m2 L2} hk o2 hL=>?_⟩
 obtain⟨m',e',o'⟩:=re (zg.refl G) (λq _ z=>hk q z) o2 (λq z w=>by
  rcases hL q z with c|c
  ·exact c
  ·exact absurd c λc=>F.dj i n q (by omega) w c)
 have f0:∀q,L1 q->G q=none/\H0 q=none:=λq z=>⟨(F.ok i q (s1 q z)).1,(F.ok i q (s1 q z)).2.1⟩
 refine⟨m',e',⟨E.ext.g,λq o z=>?_,λq o z=>?_,E.ext.new⟩,hl1,by rw[vV]; exact hl2,hP,λj w h=>?_,λj=>if j=i then(λq=>(Ls i q/\¬ L1 q)\/L2 q)else if j<n then Ls j else λ_=>False,λj m3 h=>?_,λj k q ne z1 z2=>?_,λj q z=>?_⟩
 ·rw[hk q λw=>by rw[(f0 q w).2]at z; cases z];exact E.ext.h _ _ z
 ·rw[hk q λw=>by rw[(f0 q w).1]at z; cases z];exact E.ext.gh _ _ z
 ·have hj:j<P.length:=(yD.mp h).1;have:=E.pin j w h;rw[xt (by omega)]at this;exact this
 ·rcases v6 h with⟨rfl,w⟩|⟨ne,w⟩
  ·cases w;simp only[xj];exact⟨r,er,o'⟩
  ·have hj:j<n:=by rw[<-hl2]; exact(yD.mp w).1
   obtain⟨u,eu,ou⟩:=F.at_ j m3 (by rw[xt (by omega)]; exact w);rw[xt (by omega)]at eu;simp only[zK ne,zI hj];exact⟨u,eu,ou.loc (zg.refl G) m3 u _ λq z=>hk q λw'=>F.dj i j q (λc=>ne c.symm) (s1 q w') z⟩
 ·have key:∀j,j≠i->j<n->∀q,(Ls i q/\¬ L1 q)\/L2 q->Ls j q->False:=λj ne hj q z1 z2=>by
   rcases z1 with⟨z1,_⟩|z1
   ·exact F.dj i j q (λc=>ne c.symm) z1 z2
   ·rcases hL q z1 with c|c
    ·exact F.dj i j q (λc=>ne c.symm) (s1 q c) z2
    ·exact F.dj n j q (by omega) c z2
  split at z1
  ·split at z2
   ·exact ne (by omega)
   ·split at z2
    ·exact key k (by omega) (by omega) q z1 z2
    ·exact z2
  ·split at z1
   ·split at z2
    ·exact key j (by omega) (by omega) q z2 z1
    ·split at z2
     ·exact F.dj j k q ne z1 z2
     ·exact z2
   ·exact z1
 ·split at z
  ·rcases z with⟨z,w⟩|z
   ·obtain⟨a,b,c⟩:=F.ok i q z;obtain⟨u,hu,cu⟩:=c;exact⟨a,b,u,(hk q w).trans hu,cu⟩
   ·refine⟨?_,?_,o2.cells m2 _ _ q z⟩
    ·rcases hL q z with c|c
     ·exact(f0 q c).1
     ·exact(F.ok n q c).1
    ·rcases hL q z with c|c
     ·exact(f0 q c).2
     ·exact(F.ok n q c).2.1
  ·split at z
   ·rename_i ne hj;obtain⟨a,b,c⟩:=F.ok j q z;obtain⟨u,hu,cu⟩:=c;exact⟨a,b,u,(hk q λw'=>F.dj i j q (λc=>ne c.symm) (s1 q w') z).trans hu,cu⟩
   ·exact z.elim
end
def uw(i:Nat)(π:List yf)(fk:FE)(fv:ym):yH:=λβ=>(fv β).bind λr=>(uO r.1).bind λy=>(uZ r.2 i π).bind λnd=>match nd with
 |.own (.lst ds)=>(fk (vw r.2)).bind λx=>match x with
  |.int j=>(ixN ds.length j).bind λn=>(putAt r.2 i π (.own (.lst (ds.set n y)))).bind λβ2=>some (.nx β2)
  |_=>none
 |_=>none
def jm(i:Nat)(π:List yf)(fk:FE)(fv:ym):yH:=λβ=>(fv β).bind λr=>(uO r.1).bind λy=>(uZ r.2 i π).bind λnd=>match nd with
 |.own (.dic ks ds)=>(fk (vw r.2)).bind λx=>(vN x).bind λx=>match decide (ks.length<yR)with
  |true=>(putAt r.2 i π (.own (.dic (xf ks x) (ya ks ds x y)))).bind λβ2=>some (.nx β2)
  |false=>none
 |_=>none
section
variable{X:Cx}{np:Nat}{o k v:Expr}{i:Nat}{π:List yf}{fk:FE}{fv:ym}{pos pos':Pos}
theorem qM(ho:SP X o i π)(hk:SE X k fk)(hv:MC X v fv)(hp:kN k=true:=by rfl)(hs:swapsWithSole [.Subscript o k pos'] v pos.line X.env=pure false:=by rfl)
  (hw:swappedStores [.Subscript o k pos'] v X.env=pure none:=by rfl)(h1:(assignEach [.Subscript o k pos'] X.env).map (·.2)=[assign (.Subscript o k pos') X.env]:=by rfl):MS X np (.Assign [.Subscript o k pos'] v pos) (uw i π fk fv):=by
 obtain⟨tk,pk,kk⟩:=hk.h;obtain⟨tv,pv,kv⟩:=hv.h;obtain⟨to,po,ko⟩:=ho.h;refine⟨⟨_,OF pv (OM ⟨po⟩ ⟨pk⟩ Oh hp).h hs hw h1,λ{P G0 H0 G H β σ fl E} hP K hf q=>?_⟩⟩;obtain⟨⟨m,β1⟩,hy,hf⟩:=zC hf;obtain⟨y,ey,hf⟩:=zC hf;cases qf ey;obtain⟨nd,hn,hf⟩:=zC hf
 split at hf
 ·rename_i ds;obtain⟨xk,hx,hf⟩:=zC hf;cases xk with
  |int j=>
   obtain⟨nn,hnn,hf⟩:=zC hf;obtain⟨β2,hβ,hf⟩:=zC hf;cases hf;obtain⟨mm,hm,ha⟩:=q_ hn;refine kv K hy λw G1 H1 s1 K1=>?_
   obtain⟨r,v1,L1,Lr,er,va,_⟩:=K1.write K.lp hm ha;refine ko er va ?_;obtain⟨Ga,Ea,back⟩:=(K1.down K.lp).vy;refine kk Ea hx λu G2 H2 x2 r2=>?_
   cases(show u=_ from r2);obtain⟨G3,x3,_,_⟩:=back _ _ x2;have K4:=K1.go x3;obtain⟨r',v1',L1',Lr',er',va',o1',or',dj',wr'⟩:=K4.write K.lp hm ha;rw[er]at er';cases er';cases xQ.one (va.mono x3.h) va';obtain⟨p,rfl,⟨vs,ev,rs,l⟩,uL⟩:=o1';obtain⟨m',e',K5⟩:=wr' (H':=zS H2 p (.lst (vs.set nn w))) (m2:=.own (.lst (ds.set nn y))) (L2:=λq=>q=p) (λq z=>yK λc=>z ((uL q).mpr c)) ⟨p,rfl,⟨_,yT,Reps.set K4.jK nn rs,by rw[vV]; exact l⟩,λ_=>t5⟩ (λq z=>.inl ((uL q).mpr z));rw[jt hm e']at hβ;cases hβ;exact⟨p,vs,j,nn,rfl,rfl,ev,by rw[rs.length]; exact hnn,q _ _ _ K5⟩
  |_=>cases hf
 ·cases hf
theorem Y1(hu:X.A.units+1<cLine)(ho:SP X o i π)(hk:SE X k fk)(hv:MC X v fv)(hs:swapsWith v (some (.Subscript o k pos')) pos.line X.env=pure false:=by rfl):MS X np (.Assign [.Subscript o k pos'] v pos) (jm i π fk fv):=by
 obtain⟨tk,pk,kk⟩:=hk.h;obtain⟨tv,pv,kv⟩:=hv.h;obtain⟨to,po,ko⟩:=ho.h;refine⟨⟨_,OG hu po pk pv hs,λ{P G0 H0 G H β σ fl E} hP K hf q=>?_⟩⟩;obtain⟨⟨m,β1⟩,hy,hf⟩:=zC hf;obtain⟨y,ey,hf⟩:=zC hf;cases qf ey;obtain⟨nd,hn,hf⟩:=zC hf
 split at hf
 ·rename_i ks ds;obtain⟨xk,hx,hf⟩:=zC hf;obtain⟨key,hkey,hf⟩:=zC hf
  split at hf
  ·rename_i c;have c:=yy c;obtain⟨β2,hβ,hf⟩:=zC hf;cases hf;obtain⟨mm,hm,ha⟩:=q_ hn;refine kv K hy λw G1 H1 s1 K1=>?_
   obtain⟨r,v1,L1,Lr,er,va,_⟩:=K1.write K.lp hm ha;refine ko er va ?_;obtain⟨Ga,Ea,back⟩:=(K1.down K.lp).vy;refine kk Ea hx λu G2 H2 x2 r2=>?_
   obtain⟨G3,x3,_,_⟩:=back _ _ x2;have K4:=K1.go x3;obtain⟨r',v1',L1',Lr',er',va',o1',or',dj',wr'⟩:=K4.write K.lp hm ha;rw[er]at er';cases er';cases xQ.one (va.mono x3.h) va';obtain⟨p,rfl,⟨vs,ev,l,rs,hl⟩,uL⟩:=o1'
   obtain⟨m',e',K5⟩:=wr' (H':=zS H2 p (.dK (xc (ks.zip vs) key w))) (m2:=.own (.dic (xf ks key) (ya ks ds key y))) (L2:=λq=>q=p) (λq z=>yK λc=>z ((uL q).mpr c))
    ⟨p,rfl,⟨ya ks vs key w,by rw[yT,Ww l],YA l,rs.put K4.jK,by
     have h1:=OJ (ks:=ks) (vs:=ds) (k:=key) (v:=y) (by rw[l,rs.length]);have h2:ds.length<16777216:=by rw[<-rs.length,<-l]; exact c
     rw[xM];omega⟩,λ_=>t5⟩ (λq z=>.inl ((uL q).mpr z))
   rw[jt hm e']at hβ;cases hβ;exact⟨p,_,rfl,.inl ⟨_,key,ev,jk hkey r2,by rw[pA,l,uI,xM,<-l]; exact c,rfl⟩,q _ _ _ K5⟩
  ·cases hf
 ·cases hf
end
def p5(fs:List Str)(f:Str):List Str:=if f∈fs then fs else fs++[f]
def uE{α:Type}(fs:List Str)(ms:List α)(f:Str)(m:α):List α:=if f∈fs then wU fs ms f m else ms++[m]
theorem OI{f:Str}{w:V}:∀{fs:List Str}{vs:List V},fs.length=vs.length->putF f w (fs.zip vs)=(p5 fs f).zip (uE fs vs f w)
 | [],[],_=>by
  unfold p5 uE;rw[zK (by simp),zK (by simp)];rfl
 | [],_::_,h=>by cases h
 |_::_,[],h=>by cases h
 |g::fs,v::vs,h=>by
  have ih:=OI (f:=f) (w:=w) (fs:=fs) (vs:=vs) (Yk h);rw[uh];unfold putF;by_cases c:g=f
  ·subst c;unfold p5 uE;rw[zI rfl,zI yr,zI yr];unfold wU;rw[zI rfl,uh]
  ·rw[zK c,ih];unfold p5 uE;by_cases z:f∈fs
   ·rw[zI z,zI z,zI (xP _ z),zI (xP _ z)]
    conv=>rhs; unfold wU
    rw[zK c,uh]
   ·have z':f ∉ g::fs:=λw=>by
     rcases yY.mp w with w|w
     ·exact c w.symm
     ·exact z w
    rw[zK z,zK z,zK z',zK z',YZ,YZ,uh]
theorem ET{κ α:Type}[DecidableEq κ]{k:κ}{y:α}:∀{ks:List κ}{xs:List α},(wU ks xs k y).length=xs.length
 | [],_=>by unfold wU; rfl
 |_::_,[]=>by unfold wU; rfl
 |k'::ks,x::xs=>by
  unfold wU
  split
  ·rfl
  ·rw[yO,yO,ET]
theorem CY{α:Type}{f:Str}{w:α}{fs:List Str}{vs:List α}(h:fs.length=vs.length):(p5 fs f).length=(uE fs vs f w).length:=by
 unfold p5 uE
 split
 ·rw[ET]; exact h
 ·rw[yL,yL,h]; rfl
section
variable{K:W.Frag}{G H:Hp}
theorem OwnMs.MI{κ:Type}[DecidableEq κ]{k:κ}{m2:M}{v2:V}{L2:Ft}(o2:yV K G H m2 v2 L2):∀{ks:List κ}{ms:List M}{vs:List V}{L:Ft},OwnMs K G H ms vs L->(∀q,L q->L2 q->False)->∃L',OwnMs K G H (wU ks ms k m2) (wU ks vs k v2) L'/\∀q,L' q->L q\/L2 q
 | [],ms,vs,L,h,_=>⟨L,by unfold wU; exact h,λq z=>.inl z⟩
 |_::_,[],vs,L,h,_=>by
  obtain⟨rfl,n⟩:=h;exact⟨L,by unfold wU; exact⟨rfl,n⟩,λq z=>.inl z⟩
 |k'::ks,m::ms,vs,L,h,dj=>by
  obtain⟨v,r,La,Lb,rfl,hv,hr,d,u⟩:=h;unfold wU;by_cases c:k'=k
  ·rw[zI c,zI c];refine⟨λq=>L2 q\/Lb q,⟨v2,r,L2,Lb,rfl,o2,hr,λq a b=>dj q ((u q).mpr (.inr b)) a,λq=>t5⟩,λq z=>?_⟩;rcases z with z|z
   ·exact .inr z
   ·exact .inl ((u q).mpr (.inr z))
  ·rw[zK c,zK c];obtain⟨L',h',s'⟩:=OwnMs.MI (k:=k) o2 (ks:=ks) hr (λq a b=>dj q ((u q).mpr (.inr a)) b);refine⟨λq=>La q\/L' q,⟨v,_,La,L',rfl,hv,h',λq a b=>?_,λq=>t5⟩,λq z=>?_⟩
   ·rcases s' q b with b|b
    ·exact d q a b
    ·exact dj q ((u q).mpr (.inl a)) b
   ·rcases z with z|z
    ·exact .inl ((u q).mpr (.inl z))
    ·rcases s' q z with z|z
     ·exact .inl ((u q).mpr (.inr z))
     ·exact .inr z
theorem OwnMs.snoc{m2:M}{v2:V}{L2:Ft}(o2:yV K G H m2 v2 L2):∀{ms:List M}{vs:List V}{L:Ft},OwnMs K G H ms vs L->(∀q,L q->L2 q->False)->OwnMs K G H (ms++[m2]) (vs++[v2]) (λq=>L q\/L2 q)
 | [],vs,L,h,_=>by
  obtain⟨rfl,n⟩:=h;refine⟨v2,[],L2,λ_=>False,rfl,o2,⟨rfl,λ_ z=>z⟩,λ_ _ z=>z,λq=>⟨?_,?_⟩⟩
  ·rintro(z|z)
   ·exact absurd z (n q)
   ·exact .inl z
  ·rintro(z|z)
   ·exact .inr z
   ·exact z.elim
 |m::ms,vs,L,h,dj=>by
  obtain⟨v,r,La,Lb,rfl,hv,hr,d,u⟩:=h;refine⟨v,_,La,λq=>Lb q\/L2 q,rfl,hv,OwnMs.snoc o2 hr (λq a b=>dj q ((u q).mpr (.inr a)) b),λq a b=>?_,λq=>⟨?_,?_⟩⟩
  ·rcases b with b|b
   ·exact d q a b
   ·exact dj q ((u q).mpr (.inl a)) b
  ·rintro(z|z)
   ·rcases(u q).mp z with z|z
    ·exact .inl z
    ·exact .inr (.inl z)
   ·exact .inr (.inr z)
  ·rintro(z|z|z)
   ·exact .inl ((u q).mpr (.inl z))
   ·exact .inl ((u q).mpr (.inr z))
   ·exact .inr z
theorem OwnMs.putF{f:Str}{m2:M}{v2:V}{L2 L:Ft}{fs:List Str}{ms:List M}{vs:List V}(o2:yV K G H m2 v2 L2)(h:OwnMs K G H ms vs L)(dj:∀q,L q->L2 q->False):∃L',OwnMs K G H (uE fs ms f m2) (uE fs vs f v2) L'/\∀q,L' q->L q\/L2 q:=by
 unfold uE;by_cases c:f∈fs
 ·rw[zI c,zI c];exact OwnMs.MI o2 h dj
 ·rw[zK c,zK c];exact⟨_,OwnMs.snoc o2 h dj,λq z=>z⟩
end
def tV(m:M)(β:zm)(i:Nat)(π:List yf)(cs:List Str)(f:Str):Option jU:=(uZ β i π).bind λnd=>match nd with
 |.obj x fs ms=>match decide (x∈cs)&&decide (fs.length<1000)with
  |true=>(putAt β i π (.obj x (p5 fs f) (uE fs ms f m))).bind λβ2=>some (.nx β2)
  |false=>none
 |_=>none
def uV(i:Nat)(π:List yf)(cs:List Str)(f:Str)(fv:ym):yH:=λβ=>(fv β).bind λr=>tV r.1 r.2 i π cs f
def Iu(i:Nat)(π:List yf)(cs:List Str)(f:Str)(fe:FE):yH:=λβ=>(uZ β i π).bind λnd=>match nd with
 |.obj x fs ms=>match decide (x∈cs)&&decide (fs.length<1000)with
  |true=>(getA fs ms f).bind λc=>(uO c).bind λc=>match c with
   |.int a=>(fe (vw β)).bind λy=>match y with
    |.int b=>(putAt β i π (.obj x (p5 fs f) (uE fs ms f (.fz (.int (a+b)))))).bind λβ2=>some (.nx β2)
    |_=>none
   |_=>none
  |false=>none
 |_=>none
section
variable{X:Cx}{np:Nat}{o v:Expr}{i:Nat}{π:List yf}{cs:List Str}{f:Str}{fv:ym}{fe:FE}{pos pos' tpos:Pos}
theorem qL(ho:SP X o i π)(k:zw X.K cs f)(hv:MC X v fv)(hs:swapsWith v (some (.Attribute o f pos')) pos.line X.env=pure false:=by rfl):MS X np (.Assign [.Attribute o f pos'] v pos) (uV i π cs f fv):=by
 obtain⟨tv,pv,kv⟩:=hv.h;obtain⟨to,po,ko⟩:=ho.h;refine⟨⟨_,aI po pv hs,λ{P G0 H0 G H β σ fl E} hP K hf q=>?_⟩⟩;obtain⟨⟨m,β1⟩,hy,hf⟩:=zC hf;obtain⟨nd,hn,hf⟩:=zC (show(uZ β1 i π).bind _=_ from hf)
 split at hf
 ·rename_i x fs ms
  split at hf
  ·rename_i c;rw[yC]at c;have hx:=yy c.1;have hl:=yy c.2;obtain⟨β2,hβ,hf⟩:=zC hf;cases hf;obtain⟨mm,hm,ha⟩:=q_ hn;refine kv K hy λw G1 H1 s1 K1=>?_
   obtain⟨r,v1,L1,Lr,er,va,o1,orr,dj,wr⟩:=K1.write K.lp hm ha;obtain⟨p,C,dx,vs,L',rfl,ns,hp,l,rs,nL,uL⟩:=o1;obtain⟨cl,na⟩:=k x hx C ns;have k1:∀q,q≠p->(zS H1 p (.ins C dx (putF f w (fs.zip vs)))) q=H1 q:=λq z=>yK z
   have rs':OwnMs X.K G1 (zS H1 p (.ins C dx (putF f w (fs.zip vs)))) ms vs L':=OwnMs.imp (λm' _ v' L3 s o=>o.loc (zg.refl _) m' v' L3 λq z=>k1 q λc=>nL (c▸s q z)) rs;have or':yV X.K G1 (zS H1 p (.ins C dx (putF f w (fs.zip vs)))) m w Lr:=orr.loc (zg.refl _) m w Lr λq z=>k1 q λc=>dj q ((uL q).mpr (.inl c)) z
   obtain⟨L3,o3,s3⟩:=OwnMs.putF (f:=f) (fs:=fs) or' rs' (λq a b=>dj q ((uL q).mpr (.inr a)) b)
   obtain⟨m',e',K5⟩:=wr (H':=zS H1 p (.ins C dx (putF f w (fs.zip vs)))) (m2:=.obj x (p5 fs f) (uE fs ms f m)) (L2:=λq=>q=p\/L3 q) (λq z=>k1 q λc=>z ((uL q).mpr (.inl c)))
    ⟨p,C,dx,uE fs vs f w,L3,rfl,ns,by rw[yT,OI l],CY l,o3,λz=>by
     rcases s3 p z with z|z
     ·exact nL z
     ·exact dj p ((uL p).mpr (.inl rfl)) z,λq=>t5⟩ (λq z=>by
     rcases z with rfl|z
     ·exact .inl ((uL q).mpr (.inl rfl))
     ·rcases s3 q z with z|z
      ·exact .inl ((uL q).mpr (.inr z))
      ·exact .inr z)
   rw[jt hm e']at hβ;cases hβ;exact ko er va ⟨p,C,dx,_,rfl,hp,cl,na,by rw[pA,l,uI,<-l]; exact hl,q _ _ _ K5⟩
  ·cases hf
 ·cases hf
theorem R1(ho:SP X o i π)(k:zw X.K cs f)(hv:SE X v fe):MS X np (.AugAssign (.Attribute o f tpos) .Add v pos) (Iu i π cs f fe):=by
 obtain⟨tv,pv,kv⟩:=hv.h;obtain⟨to,po,ko⟩:=ho.h;refine⟨⟨_,aJ po pv DL,λ{P G0 H0 G H β σ fl E} hP K hf q=>?_⟩⟩;obtain⟨nd,hn,hf⟩:=zC hf
 split at hf
 ·rename_i x fs ms
  split at hf
  ·rename_i c;rw[yC]at c;have hx:=yy c.1;have hl:=yy c.2;obtain⟨ch,hch,hf⟩:=zC hf;obtain⟨dc,hdc,hg⟩:=zC hf;cases qf hdc
   split at hg
   ·rename_i a;obtain⟨y,hy,hf⟩:=zC hg
    split at hf
    ·rename_i b;obtain⟨β2,hβ,hf⟩:=zC hf;cases hf;obtain⟨mm,hm,ha⟩:=q_ hn;have K0:=K.qU (d:=.zF) (v:=.zF) rfl;obtain⟨r,v1,L1,Lr,er,va,o1,_⟩:=K0.write K.lp hm ha;obtain⟨p,C,dx,vs,L',rfl,ns,hp,l,rs,nL,uL⟩:=o1;obtain⟨cl,na⟩:=k x hx C ns;obtain⟨vc,Lc,ec,⟨rc,_⟩,_⟩:=OwnMs.focus rs hch;cases(show vc=_ from rc);refine ko er va ⟨p,C,dx,_,_,rfl,hp,cl,na,by rw[Uu]; exact ec,?_⟩;obtain⟨Ga,Ea,back⟩:=K.vy;refine kv Ea hy λu G2 H2 x2 r2=>?_
     cases(show u=_ from r2);obtain⟨G3,x3,K3,_⟩:=back _ _ x2;have K4:=K3.qU (d:=.int (a+b)) (v:=.int (a+b)) rfl;obtain⟨r',v1',L1',Lr',er',va',o1',orr,dj,wr⟩:=K4.write K.lp hm ha;rw[er]at er';cases er';cases xQ.one (va.mono x3.h) va';obtain⟨p',C',dx',vs',L'',e0,ns',hp',l',rs',nL',uL'⟩:=o1';cases e0;have eC:C'=C:=by rw[ns]at ns'; cases ns'; rfl
     subst eC;have k1:∀q,q≠p->(zS H2 p (.ins C' dx' (putF f (V.int (a+b)) (fs.zip vs')))) q=H2 q:=λq z=>yK z
     have rs2:OwnMs X.K G3 (zS H2 p (.ins C' dx' (putF f (V.int (a+b)) (fs.zip vs')))) ms vs' L'':=OwnMs.imp (λm' _ v' L3 s o=>o.loc (zg.refl _) m' v' L3 λq z=>k1 q λc=>nL' (c▸s q z)) rs';obtain⟨L3,o3,s3⟩:=OwnMs.putF (f:=f) (fs:=fs) (m2:=.fz (.int (a+b))) (v2:=.int (a+b)) (L2:=λ_=>False) ⟨rfl,λ_ z=>z⟩ rs2 (λq _ z=>z)
     obtain⟨m',e',K5⟩:=wr (H':=zS H2 p (.ins C' dx' (putF f (V.int (a+b)) (fs.zip vs')))) (m2:=.obj x (p5 fs f) (uE fs ms f (.fz (.int (a+b))))) (L2:=λq=>q=p\/L3 q) (λq z=>k1 q λc=>z ((uL' q).mpr (.inl c)))
      ⟨p,C',dx',uE fs vs' f _,L3,rfl,ns,by rw[yT,OI l'],CY l',o3,λz=>by
       rcases s3 p z with z|z
       ·exact nL' z
       ·exact z,λq=>t5⟩ (λq z=>by
       rcases z with rfl|z
       ·exact .inl ((uL' q).mpr (.inl rfl))
       ·rcases s3 q z with z|z
        ·exact .inl ((uL' q).mpr (.inr z))
        ·exact z.elim)
     rw[jt hm e']at hβ;cases hβ;exact⟨_,_,rfl,rfl,dx',_,hp',by rw[pA,l',uI,<-l']; exact hl,q _ _ _ K5⟩
    ·cases hf
   ·cases hg
  ·cases hf
 ·cases hf
end
open Classical in
noncomputable def cut(H:Hp)(L:Ft):Hp:=λq=>if L q then none else H q
theorem BO{H:Hp}{L:Ft}{q:Addr}(h:L q):cut H L q=none:=by unfold cut; rw[zI h]
theorem qg{H:Hp}{L:Ft}{q:Addr}(h:¬ L q):cut H L q=H q:=by unfold cut; rw[zK h]
theorem JB{H:Hp}{L:Ft}{q:Addr}(h:cut H L q=none):L q\/H q=none:=by
 by_cases c:L q
 ·exact .inl c
 ·rw[qg c]at h; exact .inr h
abbrev FM:=List M->Option (List M×M)
def zt(K:W.Frag)(F:FM):Sp:=λvs H Q _=>∃G ms L ms' m',zg G H/\OwnMs K G H ms vs L/\(∀q,L q->G q=none)/\F ms=some (ms',m')/\
 ∀v G' H' L',zP G (cut H L) G' H'->OwnMs K G' H' (m'::ms') (v::vs) L'->(∀q,L' q->G' q=none/\cut H L q=none)->Q v H'
section
variable{K:W.Frag}{n:Nat}{P:List V}{G0 H0 G H G' H':Hp}{β:zm}{σ:St}
theorem zf.QF{m:M}{v:V}{L:Ft}(E:zf K n P G0 H0 G H β σ)(x:zP G H G' H')(o:yV K G' H' m v L)(hL:∀q,L q->G' q=none/\H q=none):zf K (n+1) P G0 H0 G' H' (β++[some m]) (σ++[some v]):=by
 obtain⟨Ls,F⟩:=E.own;have E':=E.go x;have hz:∀i q,Ls i q->L q->False:=λi q z c=>(F.ok i q z).2.2.some (hL q c).2
 refine⟨E'.ext,by rw[yL,E.l1]; rfl,by rw[yL,E.l2]; rfl,by have:=E.lp; omega,λi u h=>?_,λj=>if j<n then Ls j else if j=n then L else λ_=>False,λi m' h=>?_,λi j q ne z1 z2=>?_,λi q z=>?_⟩
 ·have hi:i<σ.length:=by
   rw[E.l1];exact xi (yD.mp h).1 E.lp
  rw[xt hi];exact E.pin i u h
 ·rcases YM h with⟨c,e⟩|⟨c,e⟩
  ·rw[E.l2]at c;obtain⟨u,eu,ou⟩:=F.at_ i m' e;refine⟨u,by rw[xt (by rw[E.l1]; exact c)]; exact eu,?_⟩;simp only[zI c];refine ou.loc x.g m' u _ λq z=>?_
   obtain⟨w,hw,_⟩:=(F.ok i q z).2.2;rw[hw];exact x.h _ _ hw
  ·cases e;rw[E.l2]at c;subst c;refine⟨_,vq E.l1,?_⟩;simp only[wL,wq,xj];exact o
 ·split at z1
  ·split at z2
   ·exact F.dj i j q ne z1 z2
   ·split at z2
    ·exact hz i q z1 z2
    ·exact z2
  ·split at z1
   ·split at z2
    ·exact hz j q z2 z1
    ·split at z2
     ·exact ne (by omega)
     ·exact z2
   ·exact z1
 ·split at z
  ·obtain⟨a,b,c⟩:=F.ok i q z;obtain⟨a',c'⟩:=J3 x a c;exact⟨a',b,c'⟩
  ·split at z
   ·exact⟨(hL q z).1,E.ext.h.free (hL q z).2,o.cells m v _ q z⟩
   ·exact z.elim
theorem zf.back{m nd:M}{i:Nat}{π:List yf}(E:zf K n P G0 H0 G H β σ)(hm:β[i]?=some (some m))(ha:uP m π=some nd) :
  ∃r v1 L1,σ[i]?=some (some r)/\xQ K H r π v1/\yV K G H nd v1 L1/\(∀q,L1 q->G q=none)/\
   ∀{G' H':Hp}{m' nd':M}{v:V}{Lr L2:Ft},zP G (cut H L1) G' H'->yV K G' H' m' v Lr->yV K G' H' nd' v1 L2->(∀q,Lr q->L2 q->False)->(∀q,Lr q\/L2 q->G' q=none/\cut H L1 q=none)->
    ∃mm,uF m π nd'=some mm/\zf K (n+1) P G0 H0 G' H' (β.set i (some mm)++[some m']) (σ++[some v]):=by
 obtain⟨Ls,F⟩:=E.own;have hi:i<n:=by rw[<-E.l2]; exact(yD.mp hm).1
 obtain⟨r,er,om⟩:=F.at_ i m hm;obtain⟨v1,L1,va,o1,s1,re⟩:=om.focus ha;refine⟨r,v1,L1,er,va,o1,λq z=>(F.ok i q (s1 q z)).1,λ{G' H' m' nd' v Lr L2} x or o2 dj hN=>?_⟩
 have keep:∀j q,Ls j q->¬ L1 q->H' q=H q:=λj q z w=>by
  obtain⟨u,hu,_⟩:=(F.ok j q z).2.2;rw[hu];exact x.h _ _ ((qg w).trans hu)
 have old:∀j q,Ls j q->¬ L1 q->(Lr q\/L2 q)->False:=λj q z w c=>by
  have e:=(hN q c).2;rw[qg w]at e;exact(F.ok j q z).2.2.some e
 obtain⟨mm,e',o'⟩:=re x.g (λq z w=>keep i q z w) o2 (λq z w=>by
  by_cases c:L1 q
  ·exact c
  ·exact(old i q w c (.inr z)).elim)
 have dj1:∀j q,j≠i->Ls j q->¬ L1 q:=λj q ne z w=>F.dj i j q (λc=>ne c.symm) (s1 q w) z
 have g0:∀q,cut H L1 q=none->H0 q=none:=λq z=>by
  rcases JB z with z|z
  ·exact(F.ok i q (s1 q z)).2.1
  ·exact E.ext.h.free z
 have hlen1:(β.set i (some mm)).length=n:=by rw[vV]; exact E.l2
 refine⟨mm,e',⟨E.ext.g.trans x.g,λq o z=>x.h _ _ ?_,x.gh,λq z=>?_⟩,by rw[yL,E.l1]; rfl,by rw[yL,hlen1]; rfl,by have:=E.lp; omega,λj u h=>?_,λj=>if j=i then(λq=>(Ls i q/\¬ L1 q)\/L2 q)else if j<n then Ls j else if j=n then Lr else λ_=>False,λj m3 h=>?_,λj k q ne z1 z2=>?_,λj q z=>?_⟩
 ·rw[qg λw=>by rw[(F.ok i q (s1 q w)).2.1]at z; cases z];exact E.ext.h _ _ z
 ·rcases x.new q z with w|w
  ·exact E.ext.new q w
  ·exact .inr (g0 q w)
 ·have hj:j<σ.length:=by
   rw[E.l1];exact xi (yD.mp h).1 E.lp
  rw[xt hj];exact E.pin j u h
 ·rcases YM h with⟨c,e⟩|⟨c,e⟩
  ·rw[hlen1]at c;rcases v6 e with⟨rfl,w⟩|⟨ne,w⟩
   ·cases w;simp only[xj];exact⟨r,by rw[xt (by rw[E.l1]; exact c)]; exact er,o'⟩
   ·obtain⟨u,eu,ou⟩:=F.at_ j m3 w;simp only[zK ne,zI c];exact⟨u,by rw[xt (by rw[E.l1]; exact c)]; exact eu,ou.loc x.g m3 u _ λq z=>keep j q z (dj1 j q ne z)⟩
  ·cases e;rw[hlen1]at c;subst c;refine⟨_,vq E.l1,?_⟩;simp only[zK (qS hi),wL,wq,xj];exact or
 ·have a1:∀j,j≠i->∀q,(Ls i q/\¬ L1 q)\/L2 q->Ls j q->False:=λj ne q z1 z2=>by
   rcases z1 with⟨z1,_⟩|z1
   ·exact F.dj i j q (λc=>ne c.symm) z1 z2
   ·exact old j q z2 (dj1 j q ne z2) (.inr z1)
  have a2:∀q,(Ls i q/\¬ L1 q)\/L2 q->Lr q->False:=λq z1 z2=>by
   rcases z1 with⟨z1,w⟩|z1
   ·exact old i q z1 w (.inl z2)
   ·exact dj q z2 z1
  have a3:∀j,j≠i->∀q,Ls j q->Lr q->False:=λj ne q z1 z2=>old j q z1 (dj1 j q ne z1) (.inl z2)
  split at z1
  ·split at z2
   ·exact ne (by omega)
   ·split at z2
    ·exact a1 k (by omega) q z1 z2
    ·split at z2
     ·exact a2 q z1 z2
     ·exact z2
  ·split at z1
   ·split at z2
    ·exact a1 j (by omega) q z2 z1
    ·split at z2
     ·exact F.dj j k q ne z1 z2
     ·split at z2
      ·exact a3 j (by omega) q z1 z2
      ·exact z2
   ·split at z1
    ·split at z2
     ·exact a2 q z2 z1
     ·split at z2
      ·exact a3 k (by omega) q z2 z1
      ·split at z2
       ·exact ne (by omega)
       ·exact z2
    ·exact z1
 ·have nw:∀q,Ls j q->¬ L1 q->G' q=none/\H0 q=none/\Bx H' q:=λq z w=>by
   obtain⟨a,b,u,hu,cu⟩:=F.ok j q z;refine⟨?_,b,u,(keep j q z w).trans hu,cu⟩;cases e:G' q with
   |none=>rfl
   |some o=>
    rcases x.new q (by rw[e]; exact λz=>nomatch z)with c|c
    ·exact absurd a c
    ·rw[qg w,hu]at c;cases c
  split at z
  ·rename_i ej;subst ej;rcases z with⟨z,w⟩|z
   ·exact nw q z w
   ·exact⟨(hN q (.inr z)).1,g0 q (hN q (.inr z)).2,o2.cells nd' _ _ q z⟩
  ·rename_i ne
   split at z
   ·exact nw q z (dj1 j q ne z)
   ·split at z
    ·exact⟨(hN q (.inl z)).1,g0 q (hN q (.inl z)).2,or.cells m' _ _ q z⟩
    ·exact z.elim
end
inductive AV where
 |v (d:D)|p (i:Nat) (π:List yf)
abbrev wu:=zm->Option (List AV)
def gJ(K:W.Frag)(G H:Hp)(σ:St):List AV->List V->Prop
 | [],vs=>vs=[]
 |.v d::as,vs=>∃v r,vs=v::r/\zU K G d v/\gJ K G H σ as r
 |.p i π::as,vs=>∃v r w,vs=v::r/\σ[i]?=some (some w)/\xQ K H w π v/\gJ K G H σ as r
structure MA(X:Cx)(es:List Expr)(f:wu):Prop where
 h:∃t,PA X es t/\∀{P:List V}{G0 H0 G H:Hp}{β:zm}{σ:St}{as:List AV}{Q:List V->Hp->Prop},zf X.K X.N.length P G0 H0 G H β σ->f β=some as->(∀vs G' H',zP G H G' H'->gJ X.K G' H' σ as vs->Q vs H')->t σ H Q
def wY:wu:=λ_=>some []
def ZU(f:FE)(r:wu):wu:=λβ=>(f (vw β)).bind λd=>match wV d with
 |true=>(r β).bind λas=>some (.v d::as)
 |false=>none
def wX(f:FE)(r:wu):wu:=λβ=>(f (qr β)).bind λd=>(r β).bind λas=>some (.v d::as)
def Gw(f:FE)(r:wu):wu:=λβ=>(f (vw β)).bind λd=>match Iz d with
 |true=>(r β).bind λas=>some (.v d::as)
 |false=>none
def gl:M->Nat->List yf->AV
 |.fz d,_,_=>.v d
 |_,i,π=>.p i π
def u7(i:Nat)(π:List yf)(r:wu):wu:=λβ=>(uZ β i π).bind λnd=>(r β).bind λas=>some (gl nd i π::as)
section
variable{X:Cx}{e:Expr}{es:List Expr}{f:FE}{r:wu}{i:Nat}{π:List yf}
theorem uW:MA X [] wY:=⟨⟨_,Y8,λE hf q=>by cases hf; exact q _ _ _ (zP.refl E.ext.gh) rfl⟩⟩
theorem Uw(he:SE X e f)(hr:MA X es r)(h:yZ e=true:=by rfl):MA X (e::es) (ZU f r):=by
 obtain⟨t,p,k⟩:=he.h;obtain⟨t',p',k'⟩:=hr.h;refine⟨⟨_,jr p p' h,λE hf q=>?_⟩⟩;obtain⟨d,hd,hf⟩:=zC hf
 split at hf
 ·rename_i c;obtain⟨as,has,hf⟩:=zC hf;cases hf;obtain⟨G1,E1,back⟩:=E.vy;refine k E1 hd λv G2 H2 x r=>?_
  obtain⟨G3,x3,E3,r3,_⟩:=back _ _ x;refine k' E3 has λvs G' H' x' rr=>q _ _ _ (x3.trans x') ⟨v,vs,rfl,(r3 d v c r).mono x'.g,rr⟩
 ·cases hf
theorem vF(he:SE X e f)(hr:MA X es r)(h:yZ e=true:=by rfl):MA X (e::es) (wX f r):=by
 obtain⟨t,p,k⟩:=he.h;obtain⟨t',p',k'⟩:=hr.h;refine⟨⟨_,jr p p' h,λE hf q=>?_⟩⟩;obtain⟨d,hd,hf⟩:=zC hf;obtain⟨as,has,hf⟩:=zC hf;cases hf;refine k E.Z0 hd λv G2 H2 x r=>?_
 exact k' (E.go x) has λvs G' H' x' rr=>q _ _ _ (x.trans x') ⟨v,vs,rfl,r.mono x'.g,rr⟩
theorem ux(he:SP X e i π)(hr:MA X es r)(h:yZ e=true:=by rfl):MA X (e::es) (u7 i π r):=by
 obtain⟨t,p,k⟩:=he.h;obtain⟨t',p',k'⟩:=hr.h;refine⟨⟨_,jr p p' h,λE hf q=>?_⟩⟩;obtain⟨nd,hn,hf⟩:=zC hf;obtain⟨as,has,hf⟩:=zC hf;obtain⟨mm,hm,ha⟩:=q_ hn;obtain⟨w,v1,L1,er,va,o1,_⟩:=E.back hm ha;refine k er va (k' E has λvs G' H' x' rr=>q _ _ _ x' ?_);cases nd with
 |fz d=>cases hf; exact⟨v1,vs,rfl,o1.1.mono x'.g,rr⟩
 |own d=>cases hf; exact⟨v1,vs,w,rfl,er,va.mono x'.h,rr⟩
 |obj x fs ms=>cases hf; exact⟨v1,vs,w,rfl,er,va.mono x'.h,rr⟩
 |tab ks ms=>cases hf; exact⟨v1,vs,w,rfl,er,va.mono x'.h,rr⟩
end
def j5:List AV->Option (List D)
 | []=>some []
 |.v d::as=>(j5 as).bind λds=>some (d::ds)
 |.p _ _::_=>none
def ZZ:List AV->Option (List D×Nat×List yf×List D)
 | []=>none
 |.v d::as=>(ZZ as).bind λr=>some (d::r.1,r.2)
 |.p i π::as=>(j5 as).bind λb=>some ([],i,π,b)
def uB(ds:List D):List M:=ds.map .fz
def gr(F:FM)(as:List AV)(β:zm):Option (M×zm):=match j5 as with
 |some ds=>(F (uB ds)).bind λr=>some (r.2,β)
 |none=>(ZZ as).bind λc=>(uZ β c.2.1 c.2.2.1).bind λnd=>(F (uB c.1++nd::uB c.2.2.2)).bind λr=>(r.1[c.1.length]?).bind λnd'=>(putAt β c.2.1 c.2.2.1 nd').bind λβ'=>some (r.2,β')
def u8(F:FM)(f:wu):ym:=λβ=>(f β).bind λas=>gr F as β
section
variable{K:W.Frag}{n:Nat}{P:List V}{G0 H0 G H G' H':Hp}{β:zm}{σ:St}
theorem Y7:∀{ds:List D}{vs:List V},Reps K G ds vs->OwnMs K G H (uB ds) vs (λ_=>False)
 | [],_,r=>⟨r,λ_ z=>z⟩
 |d::ds,_,r=>by
  obtain⟨v,r,rfl,hv,hr⟩:=r;exact⟨v,r,λ_=>False,λ_=>False,rfl,⟨hv,λ_ z=>z⟩,Y7 hr,λ_ z=>z.elim,λq=>⟨λz=>z.elim,λz=>z.elim id id⟩⟩
theorem C2{nd:M}{v1:V}{L1:Ft}(o:yV K G H nd v1 L1){b:List D}{vb:List V}(rb:Reps K G b vb):∀{a:List D}{va:List V},Reps K G a va->OwnMs K G H (uB a++nd::uB b) (va++v1::vb) L1
 | [],va,r=>by
  cases(show va=[]from r);exact⟨v1,vb,L1,λ_=>False,rfl,o,Y7 rb,λ_ _ z=>z,λq=>⟨.inl,λz=>z.elim id False.elim⟩⟩
 |d::ds,_,r=>by
  obtain⟨v,r,rfl,hv,hr⟩:=r;exact⟨v,_,λ_=>False,L1,rfl,⟨hv,λ_ z=>z⟩,C2 o rb hr,λ_ z=>z.elim,λq=>⟨.inr,λz=>z.elim False.elim id⟩⟩
theorem X5:∀{as:List AV}{ds:List D}{vs:List V},j5 as=some ds->gJ K G H σ as vs->Reps K G ds vs
 | [],ds,vs,e,r=>by cases e; exact r
 |.v d::as,ds,vs,e,r=>by
  obtain⟨ds',e',e⟩:=zC e;cases e;obtain⟨v,r,rfl,hv,hr⟩:=r;exact⟨v,r,rfl,hv,X5 e' hr⟩
 |.p i π::as,ds,vs,e,r=>by cases e
theorem Mi:∀{as:List AV}{a b:List D}{i:Nat}{π:List yf}{vs:List V},ZZ as=some (a,i,π,b)->gJ K G H σ as vs->∃va v1 vb w,vs=va++v1::vb/\Reps K G a va/\Reps K G b vb/\σ[i]?=some (some w)/\xQ K H w π v1
 | [],a,b,i,π,vs,e,r=>by cases e
 |.v d::as,a,b,i,π,vs,e,r=>by
  obtain⟨⟨a',i',π',b'⟩,e',e⟩:=zC e;cases e;obtain⟨v,r,rfl,hv,hr⟩:=r;obtain⟨va,v1,vb,w,rfl,ra,rb,ew,va'⟩:=Mi e' hr;exact⟨v::va,v1,vb,w,rfl,⟨v,va,rfl,hv,ra⟩,rb,ew,va'⟩
 |.p j ρ::as,a,b,i,π,vs,e,r=>by
  obtain⟨b',e',e⟩:=zC e;cases e;obtain⟨v,r,w,rfl,ew,va,hr⟩:=r;exact⟨[],v,r,w,rfl,rfl,X5 e' hr,ew,va⟩
theorem T3{v1:V}{nd:M}:∀{ms:List M}{vs:List V}{L:Ft}{k:Nat},OwnMs K G H ms vs L->ms[k]?=some nd->vs[k]?=some v1->∃L2,yV K G H nd v1 L2/\∀q,L2 q->L q
 | [],_,_,_,_,e,_=>by cases e
 |m::ms,_,L,0,h,e1,e2=>by
  obtain⟨v,r,La,Lb,rfl,hv,hr,d,u⟩:=h;cases e1;cases e2;exact⟨La,hv,λq z=>(u q).mpr (.inl z)⟩
 |m::ms,_,L,k+1,h,e1,e2=>by
  obtain⟨v,r,La,Lb,rfl,hv,hr,d,u⟩:=h;obtain⟨L2,o,s⟩:=T3 (k:=k) hr (by simpa using e1) (by simpa using e2);exact⟨L2,o,λq z=>(u q).mpr (.inr (s q z))⟩
theorem zf.call{F:FM}{as:List AV}{vs:List V}{m:M}{β':zm}{Q:VK}{E0:XK}(E:zf K n P G0 H0 G H β σ)(ra:gJ K G H σ as vs)(hf:gr F as β=some (m,β'))(q:∀v G' H',zg G G'->zf K (n+1) P G0 H0 G' H' (β'++[some m]) (σ++[some v])->Q v H'):zt K F vs H Q E0:=by
 unfold gr at hf
 split at hf
 ·rename_i ds e;obtain⟨⟨ms',m'⟩,hF,hf⟩:=zC hf;cases hf;refine⟨G,_,_,_,_,E.ext.gh,Y7 (X5 e ra),λ_ z=>z.elim,hF,λv G' H' L' x o hN=>?_⟩
  have ec:cut H (λ_=>False)=H:=by
   funext q
   exact qg (λz=>z)
  rw[ec]at x;obtain⟨v',r',La,Lb,e2,o1,o2,dj,u⟩:=o;cases e2
  exact q v G' H' x.g (E.QF x o1 λq z=>by
   obtain⟨a,b⟩:=hN q ((u q).mpr (.inl z));rw[ec]at b;exact⟨a,b⟩)
 ·obtain⟨⟨a,i,π,b⟩,hc,hf⟩:=zC hf;obtain⟨nd,hn,hf⟩:=zC hf;obtain⟨⟨ms',m'⟩,hF,hf⟩:=zC hf;obtain⟨nd',hnd,hf⟩:=zC hf;obtain⟨β2,hβ,hf⟩:=zC hf;cases hf;obtain⟨mm,hm,ha⟩:=q_ hn;obtain⟨w,v1,L1,er,va,o1,g1,bk⟩:=E.back hm ha;obtain⟨xa,v1',xb,w',rfl,r1,r2,er',va'⟩:=Mi hc ra;rw[er]at er';cases er';cases xQ.one va va';refine⟨G,_,L1,_,_,E.ext.gh,C2 o1 r2 r1,g1,hF,λv G' H' L' x o hN=>?_⟩;obtain⟨v',r',La,Lb,e2,oa,ob,dj,u⟩:=o;cases e2
  obtain⟨L2,o2,s2⟩:=T3 (v1:=v1) ob hnd (by
   rw[<-r1.length,W_ (yF _),M1];rfl)
  obtain⟨m3,e3,K3⟩:=bk x oa o2 (λq z w=>dj q z (s2 q w)) (λq z=>by
   rcases z with z|z
   ·exact hN q ((u q).mpr (.inl z))
   ·exact hN q ((u q).mpr (.inr (s2 q z))))
  rw[jt hm e3]at hβ;cases hβ;exact q v G' H' x.g K3
end
section
variable{X:Cx}{x m c:Str}{ps:List Str}{j k:Nat}{F:FM}{e o:Expr}{es:List Expr}{fa:wu}{p pos apos:Pos}{i:Nat}{π:List yf}
theorem qx(h:zM X.prog X.w X.K X.mg X.base x ps k (zt X.K F))(hr:yS j X.A)(hg:Gl X x)(ha:MA X (e::es) fa)(hk:k<=j:=by decide)(hdb:(x==("__debug__" : Str))=false:=by decide)
  (he:(e::es).all yZ=true:=by rfl):MC X (.Call (.Name x p) (e::es) [] pos) (u8 F fa):=by
 obtain⟨t,pa,ka⟩:=ha.h;refine⟨⟨_,OB h hr hg pa hk hdb he,λE hf q=>?_⟩⟩;obtain⟨as,has,hf⟩:=zC hf;refine ka E has λvs G1 H1 x1 ra=>?_
 rw[vg];exact(E.go x1).call ra hf λv G' H' s K'=>q v G' H' (x1.g.trans s) K'
def vA(P:Program)(w:World)(K:W.Frag)(mg:Str->Option Value)(base:Heap)(c m:Str)(ps:List Str)(k:Nat)(sp:Sp):Prop:=
 ∃(C f:Addr) (fd:FuncData),W.nsIn K mainGlobals c=some (some (.ref C))/\v_ K C/\Qg K C m f/\xn K fd ps []/\yz P w K mg base xB k f fd ps sp
def ZX(c m:Str)(i:Nat)(π:List yf)(F:FM)(f:wu):ym:=λβ=>(uZ β i π).bind λnd=>match nd with
 |.obj x fs _=>match decide (x=c)&&!(decide (m∈fs))with
  |true=>(f β).bind λas=>gr F (.p i π::as) β
  |false=>none
 |_=>none
theorem Iq{f:Str}:∀{fs:List Str}{vs:List V},f ∉ fs->(fs.zip vs).lookup f=none
 | [],_,_=>rfl
 |_::_,[],_=>rfl
 |g::fs,v::vs,h=>by
  rw[uh,V2]
  have c:(f==g)=false:=by
   have:f≠g:=λz=>h (z▸yr)
   simpa using this
  rw[c];exact Iq λz=>h (xP _ z)
theorem Hj{P:List V}{G0 H0 G H:Hp}{β β':zm}{σ:St}{mr:M}{Q:VK}{C:Addr}{t:TA}{to:TE}{E0:XK}(nsC:W.nsIn X.K mainGlobals c=some (some (.ref C)))
  (ko:∀{σ:St}{H:Hp}{v u:V}{Q:VK},σ[i]?=some (some v)->xQ X.K H v π u->Q u H->to σ H Q)
  (ka:∀{P:List V}{G0 H0 G H:Hp}{β:zm}{σ:St}{as:List AV}{Q:List V->Hp->Prop},zf X.K X.N.length P G0 H0 G H β σ->fa β=some as->(∀vs G' H',zP G H G' H'->gJ X.K G' H' σ as vs->Q vs H')->t σ H Q)
  (E:zf X.K X.N.length P G0 H0 G H β σ)(hf:ZX c m i π F fa β=some (mr,β'))(q:∀v G' H',zg G G'->zf X.K (X.N.length+1) P G0 H0 G' H' (β'++[some mr]) (σ++[some v])->Q v H'):Ov C m (zt X.K F) [] E0 to t σ H Q:=by
 obtain⟨nd,hn,hf⟩:=zC hf
 split at hf
 ·rename_i x fs ms
  split at hf
  ·rename_i cc;rw[yC]at cc;cases yy cc.1
   have hm:m ∉ fs:=by
    have:=cc.2;simpa using this
   obtain⟨as,has,hf⟩:=zC hf;obtain⟨mm,hmm,ha⟩:=q_ hn;obtain⟨w,v1,L1,er,va,o1,_⟩:=E.back hmm ha;obtain⟨p,C',dx,vs,L',rfl,ns,hp,l,rs,nL,uL⟩:=o1;rw[nsC]at ns;cases ns;refine ko er va ⟨p,dx,_,rfl,hp,Iq hm,?_⟩;refine ka E has λvs G1 H1 x1 ra=>?_
   rw[vg];exact(E.go x1).call (as:=.p i π::as) ⟨_,vs,w,rfl,er,va.mono x1.h,ra⟩ hf λv G' H' s K'=>q v G' H' (x1.g.trans s) K'
  ·cases hf
 ·cases hf
theorem Du{pl:Sem Bool}(h:vA X.prog X.w X.K X.mg X.base c m ps k (zt X.K F))(hr:yS j X.A)(ho:SP X o i π)(hk:k<=j:=by decide)
  (ht:eval (.Call (.Attribute o m apos) [] [] pos) X.env=(do
   let ov <-eval o X.env
   standAt apos.atName
   let (f,first) <-holding [ov] (getMethod ov m pl)
   callWith pos f first (backTo pos (starEach [] X.env)) (backToKw pos (keywordEach [] X.env))):=by rfl):MC X (.Call (.Attribute o m apos) [] [] pos) (ZX c m i π F wY):=by
 obtain⟨C,f,fd,ns,cl,me,b,FF⟩:=h;obtain⟨to,po,ko⟩:=ho.h;exact⟨⟨_,CA po cl me FF (hr.mono hk) b .nil kM ht,λE hf q=>Hj (t:=Wp) ns ko (λ{P G0 H0 G H β σ as Q} E' e k'=>by cases e; exact k' _ _ _ (zP.refl E'.ext.gh) rfl) E hf q⟩⟩
def VU(P:Program)(w:World)(K:W.Frag)(mg:Str->Option Value)(base:Heap)(c:Str)(ps:List Str)(k:Nat)(sp:Sp):Prop:=
 ∃(C f:Addr) (fd:FuncData),W.nsIn K mainGlobals c=some (some (.ref C))/\mg c=some (.ref C)/\Mk K C f/\xn K fd ps []/\yz P w K mg base xB k f fd ps sp
def J6(c:Str)(F:FM)(f:wu):ym:=λβ=>(f β).bind λas=>(j5 as).bind λds=>(F (.obj c [] []::uB ds)).bind λr=>match r.2 with
 |.fz .zF=>(r.1[0]?).bind λm=>some (m,β)
 |_=>none
theorem Ps(h:VU X.prog X.w X.K X.mg X.base c ps k (zt X.K F))(hr:yS j X.A)(hg:Gl X c)(ha:MA X (e::es) fa)(hk:k+1<=j:=by decide)(hdb:(c==("__debug__" : Str))=false:=by decide)(he:(e::es).all yZ=true:=by rfl) :
  MC X (.Call (.Name c p) (e::es) [] pos) (J6 c F fa):=by
 obtain⟨C,f,fd,ns,mgc,mk,b,FF⟩:=h;obtain⟨t,pa,ka⟩:=ha.h;rw[xh,yC]at he;refine⟨⟨_,C9 mk FF (hr.mono hk) hg mgc b .nil kM pa hdb (vv he.1) (j3 he.2),λ{P G0 H0 G H β β' σ mr Q} E hf q=>?_⟩⟩;obtain⟨as,has,hf⟩:=zC hf;obtain⟨ds,hds,hf⟩:=zC hf;obtain⟨⟨ms',m'⟩,hF,hf⟩:=zC hf;refine ka E has λvs G1 H1 x1 ra y dy ny ndy ne=>?_
 rw[vg];have E1:=E.go x1;have rd:=X5 hds ra
 split at hf
 ·rename_i em
  change m'=.fz .zF at em
  subst em;obtain⟨m0,h0,hf⟩:=zC hf;cases hf;have a1:∀q,q≠y->q≠dy->zS (zS H1 dy (.own y)) y (.ins C dy []) q=H1 q:=λq z w=>by rw[yK z,yK w]
  have gy:G1 y=none:=E1.ext.gh.free ny
  have s2:zg G1 (zS (zS H1 dy (.own y)) y (.ins C dy [])):=λq o z=>by
   have h1:=E1.ext.gh _ _ z;rw[a1 q (λc=>by subst c; rw[ny]at h1; cases h1) (λc=>by subst c; rw[ndy]at h1; cases h1)];exact h1
  refine⟨G1,.obj c [] []::uB ds,λq=>q=y,ms',.fz .zF,s2,⟨_,vs,λq=>q=y,λ_=>False,rfl,⟨y,C,dy,[],λ_=>False,rfl,ns,yT,rfl,⟨rfl,λ_ z=>z⟩,λz=>z,λq=>⟨.inl,λz=>z.elim id False.elim⟩⟩,Y7 rd,λ_ _ z=>z,λq=>⟨.inl,λz=>z.elim id False.elim⟩⟩,λq z=>z▸gy,hF,λv G' H' L' x2 o hN=>?_⟩;obtain⟨v',r',La,Lb,e2,oa,ob,dj,u⟩:=o;cases e2;refine⟨oa.1,?_⟩;obtain⟨L2,o2,s2'⟩:=T3 (v1:=.ref y) ob h0 rfl
  have cn:∀q,cut (zS (zS H1 dy (.own y)) y (.ins C dy [])) (λq=>q=y) q=none->H1 q=none:=λq z=>by
   rcases JB z with z|z
   ·exact z▸ny
   ·by_cases c1:q=y
    ·exact c1▸ny
    ·by_cases c2:q=dy
     ·exact c2▸ndy
     ·rw[a1 q c1 c2]at z; exact z
  have x3:zP G1 H1 G' H':=⟨x2.g,λq o z=>x2.h _ _ (by
   have c1:q≠y:=λc=>by subst c; rw[ny]at z; cases z
   have c2:q≠dy:=λc=>by subst c; rw[ndy]at z; cases z
   rw[qg (L:=λq=>q=y) c1,a1 q c1 c2];exact z),x2.gh,λq z=>by
   rcases x2.new q z with w|w
   ·exact .inl w
   ·exact .inr (cn q w)⟩
  exact q _ G' H' (x1.g.trans x3.g) (E1.QF x3 o2 λq z=>by
   obtain⟨a,b⟩:=hN q ((u q).mpr (.inr (s2' q z)));exact⟨a,cn q b⟩)
 ·cases hf
end
section
variable{K:W.Frag}{G H:Hp}
theorem OwnMs.split:∀{ms:List M}{vs:List V}{L:Ft},OwnMs K G H ms vs L->∃Ls:Nat->Ft,(∀(i:Nat)(m:M),ms[i]?=some m->∃v,vs[i]?=some v/\yV K G H m v (Ls i))/\(∀(i j:Nat)(q:Addr),i≠j->Ls i q->Ls j q->False)/\∀i q,Ls i q->L q
 | [],_,_,_=>⟨λ_ _=>False,⟨λi m h=>(by cases h),⟨λ_ _ _ _ z=>z.elim,λ_ _ z=>z.elim⟩⟩⟩
 |m::ms,_,L,h=>by
  obtain⟨v,r,La,Lb,rfl,hv,hr,d,u⟩:=h;obtain⟨Ls,h1,h2,h3⟩:=OwnMs.split hr;refine⟨λi=>match i with|0=>La|j+1=>Ls j,λi m' e=>?_,λi j q ne z1 z2=>?_,λi q z=>?_⟩
  ·cases i with
   |zero=>cases e; exact⟨v,rfl,hv⟩
   |succ j=>exact h1 j m' (by simpa using e)
  ·cases i with
   |zero=>
    cases j with
    |zero=>exact ne rfl
    |succ j=>exact d q z1 (h3 j q z2)
   |succ i=>
    cases j with
    |zero=>exact d q z2 (h3 i q z1)
    |succ j=>exact h2 i j q (λc=>ne (by rw[c])) z1 z2
  ·cases i with
   |zero=>exact(u q).mpr (.inl z)
   |succ j=>exact(u q).mpr (.inr (h3 j q z))
theorem OwnMs.join:∀{ms:List M}{vs:List V}{Ls:Nat->Ft},(∀(i:Nat)(m:M),ms[i]?=some m->∃v,vs[i]?=some v/\yV K G H m v (Ls i))->(∀(i j:Nat)(q:Addr),i≠j->Ls i q->Ls j q->False)->vs.length=ms.length->∃L,OwnMs K G H ms vs L/\∀q,L q->∃i,i<ms.length/\Ls i q
 | [],vs,Ls,_,_,l=>by
  cases vs with
  |nil=>exact⟨λ_=>False,⟨rfl,λ_ z=>z⟩,λ_ z=>z.elim⟩
  |cons v r=>cases l
 |m::ms,[],Ls,_,_,l=>by cases l
 |m::ms,v::vs,Ls,h,d,l=>by
  obtain⟨L,o,hL⟩:=OwnMs.join (ms:=ms) (vs:=vs) (Ls:=λi=>Ls (i+1)) (λi m' e=>by
   obtain⟨u,eu,ou⟩:=h (i+1) m' (by simpa using e);exact⟨u,by simpa using eu,ou⟩) (λi j q ne=>d (i+1) (j+1) q (by omega)) (Yk l)
  obtain⟨u,eu,ou⟩:=h 0 m rfl;cases eu;refine⟨λq=>Ls 0 q\/L q,⟨v,vs,Ls 0,L,rfl,ou,o,λq z1 z2=>?_,λq=>t5⟩,λq z=>?_⟩
  ·obtain⟨i,_,z⟩:=hL q z2;exact d 0 (i+1) q (by omega) z1 z
  ·rcases z with z|z
   ·exact⟨0,Nat.succ_pos _,z⟩
   ·obtain⟨i,hi,z⟩:=hL q z;exact⟨i+1,Nat.succ_lt_succ hi,z⟩
end
def qA:List (Option M)->Option (List M)
 | []=>some []
 |o::r=>o.bind λm=>(qA r).bind λms=>some (m::ms)
def XC(np:Nat):jU->Option (List M×M)
 |.rt m β=>(qA (β.take np)).bind λms=>some (ms,m)
 |.nx β=>(qA (β.take np)).bind λms=>some (ms,.fz .zF)
 |_=>none
def vH(np n:Nat)(b:yH)(ms:List M):Option (List M×M):=(b (ms.map some++List.replicate (n-ms.length) none)).bind (XC np)
def w6(np n:Nat)(b:yH):FM:=λms=>if ms.length=np then vH np n b ms else none
theorem wM{np n:Nat}{b:yH}:∀ms r,w6 np n b ms=some r->ms.length=np/\vH np n b ms=some r:=λms r h=>by
 unfold w6 at h
 split at h
 ·rename_i c;exact⟨c,h⟩
 ·cases h
theorem Mf:∀{os:List (Option M)} {ms:List M},qA os=some ms->ms.length=os.length/\∀(i:Nat)(m:M),ms[i]?=some m->os[i]?=some (some m)
 | [],ms,h=>by cases h; exact⟨rfl,λi m e=>by cases e⟩
 |o::r,ms,h=>by
  obtain⟨m0,e0,h⟩:=zC h;obtain⟨ms',e',h⟩:=zC h;cases h;subst e0;obtain⟨l,g⟩:=Mf e';refine⟨by rw[yO,yO,l],λi m e=>?_⟩;cases i with
  |zero=>cases e; rfl
  |succ j=>exact g j m (by simpa using e)
section
variable{K:W.Frag}
theorem Pk{N:List Str}{G H:Hp}{ms:List M}{vs:List V}{L:Ft}(s:zg G H)(o:OwnMs K G H ms vs L)(hL:∀q,L q->G q=none)(hl:ms.length<=N.length):zf K N.length vs G (cut H L) G H (ms.map some++List.replicate (N.length-ms.length) none) (L2.start N vs):=by
 have l:=o.length;obtain⟨Ls,h1,h2,h3⟩:=o.split;have cel:∀q,L q->Bx H q:=OwnMs.cells (λm _ v L1 oo=>oo.cells m v L1) o
 have get:∀(i:Nat)(v:V),vs[i]?=some v->(L2.start N vs)[i]?=some (some v):=λi v e=>by
  unfold L2.start;rw[j9 (by rw[zo]; exact(yD.mp e).1),vh,e];rfl
 refine⟨⟨zg.refl _,λq o e=>?_,s,λq z=>.inl z⟩,?_,?_,by omega,get,Ls,λi m h=>?_,h2,λi q z=>⟨hL q (h3 i q z),BO (h3 i q z),cel q (h3 i q z)⟩⟩
 ·by_cases c:L q
  ·rw[BO c]at e; cases e
  ·rw[qg c]at e; exact e
 ·unfold L2.start;rw[yL,zo,g9];omega
 ·rw[yL,zo,g9];omega
 ·obtain⟨m',e,z⟩:=Ux h;cases z;obtain⟨v,ev,ov⟩:=h1 i m e;exact⟨v,get i v ev,ov⟩
theorem Ds{n:Nat}{G0 H0 G H:Hp}{vs:List V}{β:zm}{σ:St}{m:M}{v:V}{ms:List M}(E:zf K (n+1) vs G0 H0 G H (β++[some m]) (σ++[some v]))(hn:vs.length<=n)(h:qA (β.take vs.length)=some ms) :
  ∃L,OwnMs K G H (m::ms) (v::vs) L/\∀q,L q->G q=none/\H0 q=none:=by
 obtain⟨Ls,F⟩:=E.own;obtain⟨l,g⟩:=Mf h;rw[tj,E.t6,Nat.min_eq_left hn]at l;obtain⟨u,eu,ou⟩:=F.at_ n m (vq E.t6);rw[vq E.kn]at eu;cases eu
 obtain⟨L,o,hL⟩:=OwnMs.join (K:=K) (G:=G) (H:=H) (ms:=m::ms) (vs:=v::vs) (Ls:=λi=>match i with|0=>Ls n|j+1=>if j<n then Ls j else λ_=>False) (λi m' e=>by
  cases i with
  |zero=>cases e; exact⟨v,rfl,ou⟩
  |succ j=>
   have e':ms[j]?=some m':=by simpa using e
   have hj:j<vs.length:=by rw[<-l]; exact(yD.mp e').1
   have e2:=g j m' e';rw[List.getElem?_take]at e2;rw[zI hj]at e2;obtain⟨w,ew,ow⟩:=F.at_ j m' (by rw[xt (by rw[E.t6]; omega)]; exact e2);have e3:=E.pin j (vs[j]) (xD hj);rw[ew]at e3;cases e3;refine⟨vs[j],by simp[hj],?_⟩;simp only[zI (show j<n by omega)];exact ow) (λi j q ne z1 z2=>by
  cases i with
  |zero=>
   cases j with
   |zero=>exact ne rfl
   |succ j=>
    dsimp only at z1 z2
    split at z2
    ·exact F.dj n j q (by omega) z1 z2
    ·exact z2
  |succ i=>
   cases j with
   |zero=>
    dsimp only at z1 z2
    split at z1
    ·exact F.dj n i q (by omega) z2 z1
    ·exact z1
   |succ j=>
    dsimp only at z1 z2
    split at z1
    ·split at z2
     ·exact F.dj i j q (by omega) z1 z2
     ·exact z2
    ·exact z1) (by rw[yO,yO,l])
 refine⟨L,o,λq z=>?_⟩;obtain⟨i,_,z⟩:=hL q z;cases i with
 |zero=>exact⟨(F.ok n q z).1,(F.ok n q z).2.1⟩
 |succ j=>
  dsimp only at z
  split at z
  ·exact⟨(F.ok j q z).1,(F.ok j q z).2.1⟩
  ·exact z.elim
end
structure xU(K:W.Frag)(x qual:Str)(st:Stmt)(f:Addr)(fd:FuncData):Prop where
 ex:∃(oc:Value) (od:Option Addr) (dV kV doc pm:Value) (an:Option Addr) (cdv ct:Value) (osl:Array (Option Value)),
  fd=W.fnOf x qual (xH st) (yc st) (zT st) dV kV doc pm an cdv ct/\K.lookup f=some ⟨oc,od,.func fd,osl⟩/\W.codeIn K cdv qual=true
 kp:W.keepIn K (.ref f)=true
theorem _root_.L2.Fun.v{K:W.Frag}{x qual:Str}{st:Stmt}{f:Addr}{fd:FuncData}(F:Fun K x qual st f fd):xU K x qual st f fd:=by
 obtain⟨oc,od,kV,doc,pm,an,cdv,ct,osl,e,lk,hcd⟩:=F.ex;exact⟨⟨oc,od,.none,kV,doc,pm,an,cdv,ct,osl,e,lk,hcd⟩,F.kp⟩
section
variable{P:Program}{w:World}{K:W.Frag}{mg:Str->Option Value}{base:Heap}
theorem qE{x qual:Str}{st:Stmt}{f:Addr}{oc:Value}{od an:Option Addr}{osl:Array (Option Value)}{dV kV doc pm cdv ct:Value}(l:K.lookup f=some ⟨oc,od,.func (W.fnOf x qual (xH st) (yc st) (zT st) dV kV doc pm an cdv ct),osl⟩)
  (c:W.codeIn K cdv qual=true)(k:W.keepIn K (.ref f)=true):xU K x qual st f (W.fnOf x qual (xH st) (yc st) (zT st) dV kV doc pm an cdv ct):=⟨⟨oc,od,dV,kV,doc,pm,an,cdv,ct,osl,rfl,l,c⟩,k⟩
theorem xU.ok{x qual:Str}{st:Stmt}{f:Addr}{fd:FuncData}{N ps:List Str}{k:Nat}{sp:Sp}(F:xU K x qual st f fd)(S:zk N ps (zT st))(len:∀vs H Q E,sp vs H Q E->vs.length=ps.length)
  (hbody:∀(cdv:Value)(A:Around)(outer:List Env)(s:Shared)(H:Hp)(vs:List V)(Q:VK)(E:XK),yS k (A.deeper (envOfC qual (zT st) s.heap.objs.size f cdv))->sp vs H Q E->
   ∃t,vW (uo xB P w K mg base N qual (zT st) f cdv A outer s H E).t9 (yc st) t/\t { nx:=λ_ H'=>Q .zF H',rt:=Q } (start N vs) H):yz P w K mg base xB (k+1) f fd ps sp:=by
 obtain⟨oc,od,dV,kV,doc,pm,an,cdv,ct,osl,rfl,lk,hcd⟩:=F.ex;refine Bu lk hcd S len λA outer s H vs Q E hr hsp=>?_
 obtain⟨t,h,q⟩:=hbody cdv A outer s H vs Q E hr hsp;exact⟨t,h.t9,q⟩
theorem xU.x_{x qual:Str}{st:Stmt}{f:Addr}{fd:FuncData}{N ps:List Str}{k:Nat}{F:FM}{b:yH}(d:xU K x qual st f fd)(S:zk N ps (zT st))(hN:ps.length<=N.length)(hF:∀ms r,F ms=some r->ms.length=ps.length/\vH ps.length N.length b ms=some r)
  (hb:∀(cdv:Value)(A:Around)(outer:List Env)(s:Shared)(H:Hp)(E:XK),yS k (A.deeper (envOfC qual (zT st) s.heap.objs.size f cdv))->qZ (uo xB P w K mg base N qual (zT st) f cdv A outer s H E).t9 ps.length (yc st) b):yz P w K mg base xB (k+1) f fd ps (zt K F):=by
 refine d.ok S (λvs H Q E h=>?_) λcdv A outer s H vs Q E hr h=>?_
 ·obtain⟨G,ms,L,ms',m',_,o,_,e,_⟩:=h;rw[o.length,(hF _ _ e).1]
 ·obtain⟨G,ms,L,ms',m',s',o,hL,e,q⟩:=h;obtain⟨l,hrun⟩:=hF _ _ e;obtain⟨t,p,kt⟩:=(hb cdv A outer s H E hr).h;obtain⟨fl,hfl,hrun⟩:=zC hrun;have lv:vs.length=ps.length:=by rw[o.length,l]
  refine⟨t,p,kt lv (Pk (N:=N) s' o hL (by omega)) hfl ?_⟩;cases fl with
  |nx β=>
   obtain⟨ms2,ha,hrun⟩:=zC (show(qA (β.take ps.length)).bind _=_ from hrun);cases hrun;intro σ G' H' K';obtain⟨L2,o2,h2⟩:=Ds (K'.qU (d:=.zF) (v:=.zF) rfl) (by rw[lv]; exact hN) (by rw[lv]; exact ha);exact q .zF G' H' L2 K'.ext o2 h2
  |rt m β=>
   obtain⟨ms2,ha,hrun⟩:=zC (show(qA (β.take ps.length)).bind _=_ from hrun);cases hrun;intro σ v G' H' K';obtain⟨L2,o2,h2⟩:=Ds K' (by rw[lv]; exact hN) (by rw[lv]; exact ha);exact q v G' H' L2 K'.ext o2 h2
  |_=>cases hrun
theorem xU.Z4{x qual:Str}{st:Stmt}{f:Addr}{fd:FuncData}{N ps:List Str}{k:Nat}{F:List D->Option (Bool×D)}{b:FS}(d:xU K x qual st f fd)(S:zk N ps (zT st))(hN:ps.length<=N.length)(hF:∀ds r,F ds=some r->ds.length=ps.length/\zj N.length b ds=some r)
  (hb:∀(cdv:Value)(A:Around)(outer:List Env)(s:Shared)(H:Hp)(E:XK),yS k (A.deeper (envOfC qual (zT st) s.heap.objs.size f cdv))->tM (uo xB P w K mg base N qual (zT st) f cdv A outer s H E).t9 (yc st) b):yz P w K mg base xB (k+1) f fd ps (zY K F):=by
 refine d.ok S (λvs H Q E h=>?_) λcdv A outer s H vs Q E hr h=>?_
 ·obtain⟨G,ds,o,dd,_,r,e,_⟩:=h;rw[r.length,(hF _ _ e).1]
 ·obtain⟨G,ds,o,dd,s',r,e,q⟩:=h;obtain⟨l,hrun⟩:=hF _ _ e;obtain⟨t,p,kt⟩:=(hb cdv A outer s H E hr).h;obtain⟨fl,hfl,hrun⟩:=zC hrun;refine⟨t,p,kt (Bm (N:=N) s' r (by omega)) hfl ?_⟩;cases fl with
  |nx τ=>
   cases hrun;exact λσ G' H' z=>q .zF G' H' z.ext rfl
  |rt o' d'=>
   cases hrun;cases o with
   |false=>exact q
   |true=>exact q
  |_=>cases hrun
theorem zH.x_{x:Str}{st:Stmt}{N ps:List Str}{k:Nat}{F:FM}{b:yH}(d:zH K mg x st ps)(S:zk N ps (zT st))(hN:ps.length<=N.length)(hF:∀ms r,F ms=some r->ms.length=ps.length/\vH ps.length N.length b ms=some r)
  (hb:∀(f:Addr)(cdv:Value)(A:Around)(outer:List Env)(s:Shared)(H:Hp)(E:XK),yS k (A.deeper (envOfC x (zT st) s.heap.objs.size f cdv))->qZ (uo xB P w K mg base N x (zT st) f cdv A outer s H E).t9 ps.length (yc st) b):zM P w K mg base x ps (k+1) (zt K F):=by
 obtain⟨f,fd,F',hm,hb'⟩:=d;exact⟨f,fd,hm,F'.kp,hb',F'.v.x_ S hN hF (hb f)⟩
def Bw(F:FM):List D->Option (Bool×D):=λds=>(F (uB ds)).bind λr=>match r.2 with
 |.fz d=>some (false,d)
 |.own d=>some (true,d)
 |_=>none
theorem eB{F:FM}{vs:List V}{H:Hp}{Q:VK}{E:XK}(h:zY K (Bw F) vs H Q E):zt K F vs H Q E:=by
 obtain⟨G,ds,o,d,s,r,e,q⟩:=h;obtain⟨⟨ms',m'⟩,hF,e⟩:=zC e
 have ec:cut H (λ_=>False)=H:=by
  funext q
  exact qg (λz=>z)
 refine⟨G,uB ds,λ_=>False,ms',m',s,Y7 r,λ_ z=>z.elim,hF,λv G' H' L' x oo hN=>?_⟩;rw[ec]at x;obtain⟨v',r',La,Lb,e2,oa,ob,dj,u⟩:=oo;cases e2;cases m' with
 |fz d'=>cases e; exact q v G' H' x oa.1
 |own d'=>
  cases e;obtain⟨p,rfl,op,uL⟩:=oa;obtain⟨a,b⟩:=hN p ((u p).mpr (.inl ((uL p).mpr rfl)));rw[ec]at b;exact q p G' H' x b a op
 |_=>cases e
end
structure VT(P:Program)(w:World)(K:W.Frag)(mg:Str->Option Value)(base:Heap)(c m:Str)(ps:List Str)(k:Nat)(sp:Sp):Prop where
 ex:∃(C f:Addr) (fd:FuncData) (mc:Value),mg c=some (.ref C)/\W.specialIn K (.ref C) "__getattribute__" = some (some (.builtin "type.__getattribute__"))/\W.readsIn K C mc=true/\W.findCls K (.ref C) mc m=some (.val (.ref f))/\W.keepIn K (.ref f)=true/\xn K fd ps []/\yz P w K mg base xB k f fd ps sp
section
variable{X:Cx}{c m:Str}{ps:List Str}{j k:Nat}{F:FM}{e:Expr}{es:List Expr}{fa:wu}{p pos apos:Pos}{sp:Sp}{t:TA}
theorem AX{pl:Sem Bool}(h:VT X.prog X.w X.K X.mg X.base c m ps k sp)(hr:yS j X.A)(hg:Gl X c)(ha:PA X (e::es) t)(hk:k<=j:=by decide)(hdb:(c==("__debug__" : Str))=false:=by decide)(he:(e::es).all yZ=true:=by rfl)
  (ht:eval (.Call (.Attribute (.Name c p) m apos) (e::es) [] pos) X.env=(do
   let ov <-eval (.Name c p) X.env
   standAt apos.atName
   let (f,first) <-holding [ov] (getMethod ov m pl)
   callWith pos f first (backTo pos (starEach (e::es) X.env)) (backToKw pos (keywordEach [] X.env))):=by rfl):PE X (.Call (.Attribute (.Name c p) m apos) (e::es) [] pos) (Ot sp [] E0 t):=by
 obtain⟨C,f,fd,mc,hm,hga,hrd,hfc,kp,b,FF⟩:=h.ex;rw[xh,yC]at he;intro z0 s σ H Q I hq;refine W.methodCall_KW (pl:=pl) ?_ ht;refine Ut I hg hm ?_ hdb;refine W.method_cls I.xN hga (W.cls_value I.xN hrd hfc rfl ?_);exact W.callWith_K (h₀:=X.base) I.ok.mod.Z2 kp (ze (ha pos z0 _ σ H _ (I.tok _) hq) λus s1 ⟨vs,H1,I1,r,q⟩=>⟨I1.xN,TD FF (hr.mono hk) b .nil kM I1 r q⟩) (vv he.1) (j3 he.2)
theorem Pq{pl:Sem Bool}(h:VT X.prog X.w X.K X.mg X.base c m ps k (zt X.K F))(hr:yS j X.A)(hg:Gl X c)(ha:MA X (e::es) fa)(hk:k<=j:=by decide)(hdb:(c==("__debug__" : Str))=false:=by decide)(he:(e::es).all yZ=true:=by rfl)
  (ht:eval (.Call (.Attribute (.Name c p) m apos) (e::es) [] pos) X.env=(do
   let ov <-eval (.Name c p) X.env
   standAt apos.atName
   let (f,first) <-holding [ov] (getMethod ov m pl)
   callWith pos f first (backTo pos (starEach (e::es) X.env)) (backToKw pos (keywordEach [] X.env))):=by rfl):MC X (.Call (.Attribute (.Name c p) m apos) (e::es) [] pos) (u8 F fa):=by
 obtain⟨t,pa,ka⟩:=ha.h;refine⟨⟨_,AX h hr hg pa hk hdb he ht,λE hf q=>?_⟩⟩;obtain⟨as,has,hf⟩:=zC hf;refine ka E has λvs G1 H1 x1 ra=>?_
 rw[vg];exact(E.go x1).call ra hf λv G' H' s K'=>q v G' H' (x1.g.trans s) K'
end
def tI(K:W.Frag)(n:Nat)(P:List V)(G0 H0 G H:Hp)(β:zm)(σ:St)(ms:List M)(vs:List V):Prop:=
 ∃(L:Ft) (H1:Hp),zf K n P G0 H1 G H β σ/\OwnMs K G H ms vs L/\(∀q,L q->G q=none/\H0 q=none/\H1 q=H q)/\∀q,¬ L q->H1 q=H0 q
section
variable{K:W.Frag}{n:Nat}{P:List V}{G0 H0 G H G' H':Hp}{β:zm}{σ:St}
theorem zf.hold{m:M}{v:V}(hP:P.length<=n)(E:zf K (n+1) P G0 H0 G H (β++[some m]) (σ++[some v])):∃(L:Ft) (H1:Hp),zf K n P G0 H1 G H β σ/\yV K G H m v L/\(∀q,L q->G q=none/\H0 q=none/\H1 q=H q)/\∀q,¬ L q->H1 q=H0 q:=by
 classical
 obtain⟨Ls,F⟩:=E.own;obtain⟨u,eu,ou⟩:=F.at_ n m (vq E.t6);rw[vq E.kn]at eu;cases eu
 let H1:Hp:=λq=>if Ls n q then H q else H0 q
 have e1:∀q,Ls n q->H1 q=H q:=λq z=>zI z
 have e2:∀q,¬ Ls n q->H1 q=H0 q:=λq z=>zK z
 have Ed:=E.down hP;refine⟨Ls n,H1,⟨⟨E.ext.g,λq o z=>?_,E.ext.gh,λq z=>?_⟩,Ed.l1,Ed.l2,hP,Ed.pin,λj=>if j<n then Ls j else λ_=>False,λi m' h=>?_,λi j q ne z1 z2=>?_,λi q z=>?_⟩,ou,λq z=>⟨(F.ok n q z).1,(F.ok n q z).2.1,e1 q z⟩,e2⟩
 ·by_cases c:Ls n q
  ·rw[e1 q c]at z; exact z
  ·rw[e2 q c]at z; exact E.ext.h _ _ z
 ·rcases E.ext.new q z with w|w
  ·exact .inl w
  ·by_cases c:Ls n q
   ·exact absurd (F.ok n q c).1 z
   ·exact .inr ((e2 q c).trans w)
 ·have hi:i<n:=by rw[<-Ed.l2]; exact(yD.mp h).1
  obtain⟨u,eu,ou⟩:=F.at_ i m' (by rw[xt (by rw[Ed.l2]; exact hi)]; exact h);rw[xt (by rw[Ed.l1]; exact hi)]at eu;simp only[zI hi];exact⟨u,eu,ou⟩
 ·split at z1
  ·split at z2
   ·exact F.dj i j q ne z1 z2
   ·exact z2
  ·exact z1
 ·split at z
  ·rename_i c;obtain⟨a,b,d⟩:=F.ok i q z;exact⟨a,(e2 q λw=>F.dj i n q (by omega) z w).trans b,d⟩
  ·exact z.elim
theorem tI.nil(E:zf K n P G0 H0 G H β σ):tI K n P G0 H0 G H β σ [] []:=⟨λ_=>False,H0,E,⟨rfl,λ_ z=>z⟩,λ_ z=>z.elim,λ_ _=>rfl⟩
theorem tI.cons{m:M}{v:V}{L:Ft}{H1:Hp}{ms:List M}{vs:List V}(o:yV K G H m v L)(h1:∀q,L q->G q=none/\H0 q=none/\H1 q=H q)(h2:∀q,¬ L q->H1 q=H0 q)(g0:zg G0 G)(s:zg G G')(h:tI K n P G0 H1 G' H' β σ ms vs):tI K n P G0 H0 G' H' β σ (m::ms) (v::vs):=by
 obtain⟨L2,H2,E2,o2,a,b⟩:=h;have bx:∀q,L q->Bx H q:=o.cells m v L
 have nl:∀q,L q->¬ L2 q:=λq z w=>by
  have e:=(a q w).2.1;rw[(h1 q z).2.2]at e;exact(bx q z).some e
 have keep:∀q,L q->H' q=H q:=λq z=>by
  obtain⟨u,hu,_⟩:=bx q z;rw[hu];refine E2.ext.h _ _ ?_;rw[b q (nl q z),(h1 q z).2.2];exact hu
 refine⟨λq=>L q\/L2 q,H2,E2,⟨v,vs,L,L2,rfl,o.loc s m v L keep,o2,nl,λq=>t5⟩,λq z=>?_,λq z=>?_⟩
 ·rcases z with z|z
  ·refine⟨?_,(h1 q z).2.1,by rw[b q (nl q z),(h1 q z).2.2,keep q z]⟩;cases e:G' q with
   |none=>rfl
   |some w=>
    obtain⟨u,hu,_⟩:=bx q z;have e2:H2 q=some u:=by rw[b q (nl q z),(h1 q z).2.2]; exact hu
    rcases E2.ext.new q (by rw[e]; exact λz=>nomatch z)with w|w
    ·cases e3:G0 q with
     |none=>exact absurd e3 w
     |some o3=>
      have:=g0 _ _ e3;rw[(h1 q z).1]at this;cases this
    ·rw[e2]at w; cases w
  ·refine⟨(a q z).1,?_,(a q z).2.2⟩;have e:=(a q z).2.1;rw[h2 q λw=>nl q w z]at e;exact e
 ·rw[b q λw=>z (.inr w),h2 q λw=>z (.inl w)]
theorem tI.tab{ks:List (Sum Int Str)}{ms:List M}{vs:List V}{p:Addr}{d:D}(g0:zg G0 G)(h:tI K n P G0 H0 G H β σ (.own d::ms) (.ref p::vs))(l:ks.length=vs.length)(hl:ms.length<=sizeLine) :
  zf K (n+1) P G0 H0 G (zS H p (.dK (ks.zip vs))) (β++[some (.tab ks ms)]) (σ++[some (.ref p)]):=by
 obtain⟨L,H1,E,⟨v,r,La,Lb,e,oa,ob,dj,u⟩,a,b⟩:=h;cases e;obtain⟨p',e',oo,up⟩:=oa;cases e';have Lp:L p:=(u p).mpr (.inl ((up p).mpr rfl));have k1:∀q,q≠p->(zS H p (.dK (ks.zip vs))) q=H q:=λq z=>yK z
 obtain⟨Ls,F⟩:=E.own
 have nl:∀i q,Ls i q->¬ L q:=λi q z w=>by
  have e:=(F.ok i q z).2.1;rw[(a q w).2.2]at e;exact(F.ok i q z).2.2.some e
 refine⟨⟨E.ext.g,λq o z=>?_,λq o z=>?_,λq z=>?_⟩,by rw[yL,E.l1]; rfl,by rw[yL,E.l2]; rfl,by have:=E.lp; omega,λi w h=>?_,λj=>if j<n then Ls j else if j=n then L else λ_=>False,λi m' h=>?_,λi j q ne z1 z2=>?_,λi q z=>?_⟩
 ·have c:¬ L q:=λw=>by rw[(a q w).2.1]at z; cases z
  rw[k1 q λw=>c (w▸Lp)];exact E.ext.h _ _ ((b q c).trans z)
 ·rw[k1 q λw=>by subst w; rw[(a q Lp).1]at z; cases z];exact E.ext.gh _ _ z
 ·rcases E.ext.new q z with w|w
  ·exact .inl w
  ·by_cases c:L q
   ·exact .inr (a q c).2.1
   ·rw[b q c]at w; exact .inr w
 ·have hi:i<σ.length:=by
   rw[E.l1];exact xi (yD.mp h).1 E.lp
  rw[xt hi];exact E.pin i w h
 ·rcases YM h with⟨c,e⟩|⟨c,e⟩
  ·rw[E.l2]at c;obtain⟨w,ew,ow⟩:=F.at_ i m' e;refine⟨w,by rw[xt (by rw[E.l1]; exact c)]; exact ew,?_⟩;simp only[zI c];exact ow.loc (zg.refl _) m' w _ λq z=>k1 q λw=>nl i q z (w▸Lp)
  ·cases e;rw[E.l2]at c;subst c;refine⟨_,vq E.l1,?_⟩;simp only[wL,wq,xj];refine⟨p,vs,Lb,rfl,yT,l,OwnMs.imp (λm' _ v' L3 s o=>o.loc (zg.refl _) m' v' L3 λq z=>k1 q λc=>dj q ((up q).mpr c) (s q z)) ob,hl,λz=>dj p ((up p).mpr rfl) z,λq=>?_⟩;rw[u q,up q]
 ·split at z1
  ·split at z2
   ·exact F.dj i j q ne z1 z2
   ·split at z2
    ·exact nl i q z1 z2
    ·exact z2
  ·split at z1
   ·split at z2
    ·exact nl j q z2 z1
    ·split at z2
     ·exact ne (by omega)
     ·exact z2
   ·exact z1
 ·have bx:∀q,L q->Bx H q:=λq z=>by
   rcases(u q).mp z with z|z
   ·cases(up q).mp z; exact oo.bx
   ·exact OwnMs.cells (λm _ v L1 oo=>oo.cells m v L1) ob q z
  have bx':∀q,Bx H q->Bx (zS H p (.dK (ks.zip vs))) q:=λq z=>by
   by_cases c:q=p
   ·subst c; exact⟨_,yT,rfl⟩
   ·obtain⟨u,hu,cu⟩:=z;exact⟨u,(k1 q c).trans hu,cu⟩
  split at z
  ·obtain⟨x,y,w⟩:=F.ok i q z;exact⟨x,by rw[b q (nl i q z)]at y; exact y,bx' q w⟩
  ·split at z
   ·exact⟨(a q z).1,(a q z).2.1,bx' q (bx q z)⟩
   ·exact z.elim
end
structure MD(X:Cx)(pos:Pos)(keys:List (Option Expr))(values:List Expr)(ks:List Str)(fs:zm->Option (List M×zm)):Prop where
 h:∃trs,X0 X pos keys values trs/\∀{P:List V}{G0 H0 G H:Hp}{β β':zm}{σ:St}{ms:List M}{Q:List (V×V)->Hp->Prop},zf X.K X.N.length P G0 H0 G H β σ->fs β=some (ms,β')->(∀vs G' H',zg G G'->tI X.K X.N.length P G0 H0 G' H' β' σ ms vs->vs.length=ks.length->Q ((ks.map V.str).zip vs) H')->Ta trs σ H Q
def JD:zm->Option (List M×zm):=λβ=>some ([],β)
def gu(f:ym)(r:zm->Option (List M×zm)):zm->Option (List M×zm):=λβ=>(f β).bind λa=>(r a.2).bind λb=>some (a.1::b.1,b.2)
def J4(ks:List Str)(fs:zm->Option (List M×zm)):ym:=λβ=>(fs β).bind λr=>match decide (ks.length=r.1.length)with
 |true=>some (.tab (ks.map .inr) r.1,r.2)
 |false=>none
def UD(i:Nat):ym:=λβ=>match β[i]? with
 |some (some m)=>some (m,β.set i none)
 |_=>none
section
variable{X:Cx}{v:Expr}{x:Str}{xp pos:Pos}{fv:ym}
theorem Pw:MD X pos [] [] [] JD:=⟨⟨_,aG,λ{P G0 H0 G H β β' σ ms Q} E hf q=>by
 cases hf;exact q [] _ _ (zg.refl _) (tI.nil E) rfl⟩⟩
theorem XV{j:Nat}{ks:List (Option Expr)}{vs:List Expr}{xs:List Str}{fs:zm->Option (List M×zm)}(hv:MC X v fv)(hr:MD X pos ks vs xs fs):MD X pos (some (.Constant (.str x) j xp)::ks) (v::vs) (x::xs) (gu fv fs):=by
 obtain⟨tv,pv,kv⟩:=hv.h;obtain⟨tr,pr,kr⟩:=hr.h;refine⟨⟨_,aF Xa pv pr,λ{P G0 H0 G H β β' σ ms Q} E hf q=>?_⟩⟩;obtain⟨⟨m,β1⟩,h1,hf⟩:=zC hf;obtain⟨⟨ms1,β2⟩,h2,hf⟩:=zC hf;cases hf;refine kv E h1 λu G1 H1 s1 E1=>?_
 obtain⟨L,Hb,Eb,o,a,b⟩:=E1.hold E.lp;refine kr Eb h2 λus G2 H2 s2 h l=>?_
 exact q (u::us) _ _ (s1.trans s2) (tI.cons o a b Eb.ext.g s2 h) (by rw[yO,yO,l])
theorem Pv{keys:List (Option Expr)}{values:List Expr}{ks:List Str}{fs:zm->Option (List M×zm)}(h:MD X pos keys values ks fs)(nd:ks.Nodup)(h15:ks.length<=15)(hall:keys.all (·.isSome)=true:=by rfl)(hl:keys.length=values.length:=by rfl)(h0:keys≠[]:=by exact λz=>nomatch z)(h15':keys.length<=15:=by decide) :
  MC X (.Dict keys values pos) (J4 ks fs):=by
 obtain⟨trs,pr,kr⟩:=h.h;refine⟨⟨_,Aa pr hall hl h0 h15',λ{P G0 H0 G H β β' σ m Q} E hf q p hp=>?_⟩⟩;obtain⟨⟨ms,β1⟩,h1,hf⟩:=zC hf;have x0:zP G H G (zS H p (.dK [])):=zP.t8 E.ext.gh hp;have E1:=E.MM (d:=.dic [] []) x0 hp (E.ext.gh.free hp) ⟨[],yT,rfl,rfl,vi _⟩;obtain⟨L,Hb,Eb,o,a,b⟩:=E1.hold E.lp;refine kr Eb h1 λvs G2 H2 s2 hh l=>?_
 have hh2:=tI.cons o a b Eb.ext.g s2 hh;have hk:(ks.map Sum.inr:List zN).length=vs.length:=by rw[zo,l]
 split at hf
 ·rename_i c;have c:=yy c;cases hf
  have e2:H2 p=some (.dK []):=by
   obtain⟨L2,H3,E3,⟨v',r',La,Lb,e',oa,_⟩,_⟩:=hh2;cases e';obtain⟨p',e'',⟨vs',ev,z,_⟩,_⟩:=oa;cases e'';cases vs' with
   |nil=>exact ev
   |cons _ _=>cases z
  refine⟨e2,(ks.map Sum.inr:List zN).zip vs,GF,by rw[pA,hk,uI,l]; exact h15,?_⟩;rw[Dv _ [] (by rw[GD hk]; exact List.Pairwise.map _ (λa b h z=>h (Q0 z)) nd) (λ_ _=>rfl),Lu];have g0:zg G0 G2:=E.ext.g.trans s2;refine q _ G2 _ s2 (tI.tab g0 hh2 hk ?_);rw[<-c];exact vR (by omega)
 ·cases hf
theorem Pu(i:Nat){x:Str}{pos:Pos}(hN:X.N[i]?=some x:=by rfl)(hv:pL X.env.scope x:=by first|exact Or.inl rfl|exact Or.inr (Or.inl rfl)|exact Or.inr (Or.inr rfl))(hd:(x==("__debug__" : Str))=false:=by decide)
  (hcd:(x==("__classdict__" : Str))=false:=by decide):MC X (.Name x pos) (UD i):=⟨⟨_,Y9 hN hv hd hcd,λ{P G0 H0 G H β β' σ m Q} E hf q=>by
 unfold UD at hf
 split at hf
 ·rename_i m' hm;cases hf;obtain⟨Ls,F⟩:=E.own;have hi:i<X.N.length:=by rw[<-E.l2]; exact(yD.mp hm).1
  obtain⟨v,ev,ov⟩:=F.at_ i m hm;refine⟨v,ev,q v G H (zg.refl _) ⟨E.ext,by rw[yL,E.l1]; rfl,by rw[yL,vV,E.l2]; rfl,by have:=E.lp; omega,λj w h=>?_,λj=>if j=i then(λ_=>False)else if j<X.N.length then Ls j else if j=X.N.length then Ls i else λ_=>False,λj m' h=>?_,λj k q ne z1 z2=>?_,λj q z=>?_⟩⟩
  ·have hj:j<σ.length:=by
    rw[E.l1];exact xi (yD.mp h).1 E.lp
   rw[xt hj];exact E.pin j w h
  ·rcases YM h with⟨c,e⟩|⟨c,e⟩
   ·rcases v6 e with⟨_,w⟩|⟨ne,w⟩
    ·cases w
    ·rw[vV,E.l2]at c;obtain⟨u,eu,ou⟩:=F.at_ j m' w;simp only[zK ne,zI c];exact⟨u,by rw[xt (by rw[E.l1]; exact c)]; exact eu,ou⟩
   ·cases e;rw[vV,E.l2]at c;subst c;refine⟨_,vq E.l1,?_⟩;simp only[zK (qS hi),wL,wq,xj];exact ov
  ·split at z1
   ·exact z1
   ·split at z1
    ·split at z2
     ·exact z2
     ·split at z2
      ·exact F.dj j k q ne z1 z2
      ·split at z2
       ·exact F.dj j i q (by omega) z1 z2
       ·exact z2
    ·split at z1
     ·split at z2
      ·exact z2
      ·split at z2
       ·exact F.dj i k q (by omega) z1 z2
       ·split at z2
        ·exact ne (by omega)
        ·exact z2
     ·exact z1
  ·split at z
   ·exact z.elim
   ·split at z
    ·exact F.ok j q z
    ·split at z
     ·exact F.ok i q z
     ·exact z.elim
 ·cases hf⟩⟩
end
end L3
namespace L2
open PySem PySem.Spec PyProof PyProof.Rows
section
variable{X:Cx}{c e:Expr}{es:List Expr}{t:TA}{tc:TE}{pos:Pos}{j:Nat}
def eX(X:Cx)(j:Nat)(tc:TE)(t:TA):TE:=λσ H Q=>tc σ H λv H1=>∃(f:Addr) (fd:FuncData) (ps:List Str) (k:Nat) (sp:Sp),v=.ref f/\k<=j/\W.keepIn X.K (.ref f)=true/\xn X.K fd ps []/\yz X.prog X.w X.K X.mg X.base xB k f fd ps sp/\t σ H1 λvs H2=>sp (vs++[]) H2 Q E0
theorem AT(hr:yS j X.A)(hc:PE X c tc)(ha:PA X (e::es) t)(he:(e::es).all yZ=true:=by rfl)
  (hev:eval (.Call c (e::es) [] pos) X.env=(do callWith pos (<-eval c X.env) [] (backTo pos (starEach (e::es) X.env)) (backToKw pos (keywordEach [] X.env))):=by rfl):PE X (.Call c (e::es) [] pos) (eX X j tc t):=by
 intro z0 s σ H Q I h;rw[xh,yC]at he;rw[hev];refine zO (ze (hc z0 s σ H _ I h) λu s1 ⟨v,H1,I1,r1,f,fd,ps,k,sp,ev,hk,kp,b,F,q⟩=>?_);subst ev;cases r1;refine W.callWith_K (h₀:=X.base) I.ok.mod.Z2 kp (ze (ha pos z0 s1 σ _ _ I1 q) λus s2 ⟨vs,H2,I2,r,q⟩=>⟨I2.xN,?_⟩) (vv he.1) (j3 he.2);exact TD F (hr.mono hk) b .nil kM I2 r q
end
end L2
namespace L3
open PySem PySem.Spec PyProof.Rows L2
def ge(K:W.Frag)(w:World)(mg:Str->Option Value)(a:Addr)(ks:List zN)(ns:List Str):Prop:=
 ∃fs:List Addr,(a==sysModules)=false/\ks.length=fs.length/\(∀(i:Nat)(n:Str),ns[i]?=some n->∃f,fs[i]?=some f/\mg n=some (.ref f))/\ns.length=fs.length/\∀(P:Program)(h:Heap),K.In h->∃vs,KV (ks.zip (fs.map V.ref)) vs/\h.DictOf (yq P w) a vs
inductive ZP(mg:Str->Option Value):List Str->List Addr->Prop
 |nil:ZP mg [] []
 |cons {n:Str} {f:Addr} {ns:List Str} {fs:List Addr} (h:mg n=some (.ref f)) (r:ZP mg ns fs):ZP mg (n::ns) (f::fs)
theorem ZP.at_{mg:Str->Option Value}:∀{ns:List Str}{fs:List Addr},ZP mg ns fs->(∀(i:Nat)(n:Str),ns[i]?=some n->∃f,fs[i]?=some f/\mg n=some (.ref f))/\ns.length=fs.length
 |_,_,.nil=>⟨λi n h=>(by cases h),rfl⟩
 |_,_,.cons h r=>by
  obtain⟨a,b⟩:=r.at_;refine⟨λi n e=>?_,by rw[yO,yO,b]⟩;cases i with
  |zero=>cases e; exact⟨_,rfl,h⟩
  |succ i=>exact a i n (by simpa using e)
theorem E_:∀{fs:List Addr},zc (fs.map V.ref) (fs.map Value.ref)
 | []=>.nil
 |_::_=>.cons rfl E_
theorem Ko{K:W.Frag}{mg:Str->Option Value}{w:World}{a:Addr}{es:List DictEntry}{n:Nat}{xs ns:List Str}{fs:List Addr}(l:K.lookup a=some { cls:=.type "dict",data:=.dict es.toArray n })(e:pC w es xs (fs.map Value.ref))(nd:xs.Nodup)(hs:(a==sysModules)=false)(m:ZP mg ns fs) :
  ge K w mg a (xs.map .inr) ns:=by
 have hl:(xs.map Sum.inr:List zN).length=(fs.map V.ref).length:=by rw[zo,e.len,zo,zo]
 obtain⟨m1,m2⟩:=m.at_;refine⟨fs,hs,by rw[hl,zo],m1,m2,λP h KI=>⟨_,Df E_ hl,?_⟩⟩;obtain⟨p,q⟩:=e.pairs (P:=P);refine⟨_,_,_,KI _ _ l,⟨rfl,rfl,rfl⟩,rfl,λe he=>q e (by simpa using he),p,?_⟩;rw[GC (by rw[zo]; exact e.len)];exact List.Pairwise.map _ (λa b h z=>h (Q0 z)) nd
section
variable{X:Cx}
theorem Km{A:Addr}{ks:List zN}{ns:List Str}(g:ge X.K X.w X.mg A ks ns):yE X (compareOp .In) (λx y H Q=>y=.ref A/\∃k,x=kV k/\Q (.bl (xR ks k)) H):=by
 intro z0 s σ H x y v u Q I rx ry h;obtain⟨rfl,k,rfl,q⟩:=h;cases ry;obtain⟨fs,hsys,hl,_,_,mk⟩:=g;obtain⟨vs,rel,dd⟩:=mk X.prog s.heap I.xN;refine wpAny_in_of (qH rx) hsys dd.mapOf ?_;rw[<-(rel.val k).Z1,g8 k (by rw[zo]; exact hl),Je k (by rw[zo]; exact hl)];exact⟨.bl _,H,I.tok _,rfl,q⟩
theorem eN{A:Addr}{ks:List zN}{ns:List Str}{x:Str}{p pos:Pos}{a:Expr}{fa:FE}(h:xZ X.mg x (.ref A))(g:ge X.K X.w X.mg A ks ns)(hg:Gl X x)(ha:SE X a fa)(hd:(x==("__debug__" : Str))=false:=by decide)(hm:behindInMarks .In (.Name x p)=false:=by rfl) :
  ST X (.Compare a [.In] [.Name x p] pos) (tE (e1 (XD ks) fa)):=by
 obtain⟨ta,pa,ka⟩:=ha.h;refine⟨⟨_,OH (Km g) pa (O9 h hg hd) hm,λ{G0 H0 G H τ σ d Q} E hf q=>?_⟩⟩;obtain⟨z,hz,hf⟩:=zC hf;obtain⟨y,hy,hz⟩:=zC hz;obtain⟨k,hk,hz⟩:=zC hz;cases hz;cases hf;exact ka E hy λu G2 H2 x2 r2=>⟨rfl,k,jk hk r2,_,rfl,q _ _ x2⟩
theorem Kn{A:Addr}{ks:List zN}{ns:List Str}(g:ge X.K X.w X.mg A ks ns):ul X (λx y H Q=>x=.ref A/\∃k n,y=kV k/\getK ks ns k=some n/\∀f,X.mg n=some (.ref f)->Q (.ref f) H):=by
 intro value slice z0 s σ H x y v u Q I rx ry h hs;obtain⟨rfl,k,n,rfl,hn,q⟩:=h;cases rx;obtain⟨fs,hsys,hl,hm,hl2,mk⟩:=g;obtain⟨vs,rel,dd⟩:=mk X.prog s.heap I.xN
 have key:∀{ks:List zN}{ns:List Str}{fs:List Addr},(∀(i:Nat)(n:Str),ns[i]?=some n->∃f,fs[i]?=some f/\X.mg n=some (.ref f))->getK ks ns k=some n->∃f,getK ks (fs.map V.ref) k=some (.ref f)/\X.mg n=some (.ref f):=λ{ks}=>by
  induction ks with
  |nil=>intro ns fs _ e; cases e
  |cons k' ks ih=>
   intro ns fs hm e;cases ns with
   |nil=>cases e
   |cons n' ns=>
    obtain⟨f0,e0,m0⟩:=hm 0 n' rfl;cases fs with
    |nil=>cases e0
    |cons f1 fs=>
     cases e0;unfold getK at e;rw[xA];unfold getK;by_cases c:k'=k
     ·rw[zI c]at e ⊢;cases e;exact⟨_,rfl,m0⟩
     ·rw[zK c]at e ⊢;exact ih (λi n h=>hm (i+1) n (by simpa using h)) e
 obtain⟨f,hf,mf⟩:=key hm hn;obtain⟨w',hw,rw'⟩:=wv.some_of (v:=V.ref f) (o:=valueAt vs k) (by rw[<-hf,<-g8 k (by rw[zo]; exact hl)]; exact rel.val k)
 exact Q3 (x:=w') dd.typeIs PySem.F.slot_dict_getitem.lookup
  (M8 (Q:=λr s'=>r=w'/\EP X z0 σ Q r s') (qH ry) dd.mapOf hw ⟨rfl,_,H,I.tok _,rw',q f mf⟩) hs
inductive wE(X:Cx)(j:Nat):List Str->List FM->Prop
 |nil:wE X j [] []
 |cons {n:Str} {ps:List Str} {k:Nat} {F:FM} {ns:List Str} {Fs:List FM} (h:zM X.prog X.w X.K X.mg X.base n ps k (zt X.K F)) (hk:k<=j) (r:wE X j ns Fs):wE X j (n::ns) (F::Fs)
theorem wE.get{X:Cx}{j:Nat}{k:zN}{F:FM}:∀{ks:List zN}{ns:List Str}{Fs:List FM},wE X j ns Fs->getK ks Fs k=some F->∃n ps i,getK ks ns k=some n/\i<=j/\zM X.prog X.w X.K X.mg X.base n ps i (zt X.K F)
 | [],_,_,_,e=>by cases e
 |_::_,_,_,.nil,e=>by cases e
 |k'::ks,_,_,.cons (n:=n) (ps:=ps) (k:=i) h hk r,e=>by
  unfold getK at e;by_cases c:k'=k
  ·rw[zI c]at e;cases e;exact⟨n,ps,i,by unfold getK; rw[zI c],hk,h⟩
  ·rw[zK c]at e;obtain⟨n',ps',i',e',r'⟩:=r.get e;exact⟨n',ps',i',by unfold getK; rw[zK c]; exact e',r'⟩
def J5(ks:List zN)(Fs:List FM)(fk:FE)(fa:wu):ym:=λβ=>(fk (vw β)).bind λx=>(vN x).bind λk=>(getK ks Fs k).bind λF=>u8 F fa β
theorem Pr{A:Addr}{ks:List zN}{ns:List Str}{Fs:List FM}{x:Str}{p p2 pos:Pos}{k e:Expr}{es:List Expr}{fk:FE}{fa:wu}{j:Nat}(h:xZ X.mg x (.ref A))(g:ge X.K X.w X.mg A ks ns)(hg:Gl X x)(D:wE X j ns Fs)(hr:yS j X.A)(hk:SE X k fk)(ha:MA X (e::es) fa)
  (hs:kN k=true:=by rfl)(hd:(x==("__debug__" : Str))=false:=by decide)(he:(e::es).all yZ=true:=by rfl)
  (hev:eval (.Call (.Subscript (.Name x p) k p2) (e::es) [] pos) X.env=(do callWith pos (<-eval (.Subscript (.Name x p) k p2) X.env) [] (backTo pos (starEach (e::es) X.env)) (backToKw pos (keywordEach [] X.env))):=by rfl):MC X (.Call (.Subscript (.Name x p) k p2) (e::es) [] pos) (J5 ks Fs fk fa):=by
 obtain⟨tk,pk,kk⟩:=hk.h;obtain⟨ta,pa,ka⟩:=ha.h;refine⟨⟨_,AT hr (OA (Kn g) (O9 h hg hd) pk (OD hs)) pa he hev,λ{P G0 H0 G H β β' σ m Q} E hf q=>?_⟩⟩;obtain⟨y,hy,hf⟩:=zC hf;obtain⟨key,hkey,hf⟩:=zC hf;obtain⟨F,hF,hf⟩:=zC hf;obtain⟨as,has,hf⟩:=zC hf;obtain⟨n,ps,i,hn,hi,⟨f,fd,hm,kp,b,FF⟩⟩:=D.get hF;obtain⟨G1,E1,back⟩:=E.vy;refine kk E1 hy λu G2 H2 x2 r2=>?_
 obtain⟨G3,x3,E3,_⟩:=back _ _ x2;refine⟨rfl,key,n,jk hkey r2,hn,λf' hm'=>?_⟩;rw[hm]at hm';cases hm';refine⟨f,fd,ps,i,_,rfl,hi,kp,b,FF,ka E3 has λvs G4 H4 x4 ra=>?_⟩;rw[vg];exact(E3.go x4).call ra hf λv G' H' s K'=>q v G' H' (x3.g.trans (x4.g.trans s)) K'
end
def yk(cs:List Str)(f:Str):D->Option D
 |.obj x fs vs=>if x∈cs then getA fs vs f else none
 |_=>none
theorem Reps.getA{K:W.Frag}{G:Hp}{κ:Type}[DecidableEq κ]{k:κ}{d:D}:∀{ks:List κ}{ds:List D}{vs:List V},Reps K G ds vs->L3.getA ks ds k=some d->∃v,L3.getA ks vs k=some v/\zU K G d v
 | [],_,_,_,e=>by cases e
 |_::_,[],_,_,e=>by cases e
 |k'::ks,d'::ds,vs,r,e=>by
  obtain⟨v,r',rfl,hv,hr⟩:=r;unfold L3.getA at e ⊢;by_cases c:k'=k
  ·rw[zI c]at e ⊢;cases e;exact⟨v,rfl,hv⟩
  ·rw[zK c]at e ⊢;exact Reps.getA hr e
def wZ(c m:Str)(fo:FE)(fs:FA):FA:=λτ=>(fo τ).bind λo=>match o with
 |.obj x fl _=>match decide (x=c)&&!(decide (m∈fl))with
  |true=>(fs τ).bind λds=>some (o::ds)
  |false=>none
 |_=>none
section
variable{X:Cx}{e o:Expr}{f m c:Str}{cs:List Str}{fe fo:FE}{pos apos:Pos}{ps:List Str}{j k:Nat}{FF:List D->Option (Bool×D)}
theorem xX(h:SE X e fe)(k:zw X.K cs f)(hb:attributeBase e f X.env (eval e X.env)=eval e X.env:=by rfl):SE X (.Attribute e f pos) (e1 (yk cs f) fe):=by
 obtain⟨t,p,kt⟩:=h.h;refine⟨⟨_,C7 p hb,λ{G0 H0 G H τ σ d Q} E hf q=>?_⟩⟩;obtain⟨y,hy,hf⟩:=zC hf;refine kt E hy λv G1 H1 x1 r1=>?_
 unfold yk at hf
 split at hf
 ·rename_i x fs vs;by_cases hx:x∈cs
  ·rw[zI hx]at hf;obtain⟨a,C,dx,us,rfl,ns,ha,l,rs⟩:=r1;obtain⟨u,hu,ru⟩:=rs.getA hf;obtain⟨cl,na⟩:=k x hx C ns;exact⟨a,C,dx,_,u,rfl,x1.gh _ _ ha,cl,na,by rw[Uu]; exact hu,q _ _ _ x1 ru⟩
  ·rw[zK hx]at hf; cases hf
 ·cases hf
theorem dQ{G0 H0 G H:Hp}{τ:zi}{σ:St}{ds:List D}{Q:VK}{C:Addr}{t:TA}{to:TE}{sp:Sp}{fs:FA}(nsC:W.nsIn X.K mainGlobals c=some (some (.ref C)))
  (ko:∀{G0 H0 G H:Hp}{τ:zi}{σ:St}{d:D}{Q:VK},zu X.K X.N.length G0 H0 G H τ σ->fo τ=some d->(∀v G' H',zP G H G' H'->zU X.K G' d v->Q v H')->to σ H Q)
  (kt:∀{G0 H0 G H:Hp}{τ:zi}{σ:St}{ds:List D}{Q:List V->Hp->Prop},zu X.K X.N.length G0 H0 G H τ σ->fs τ=some ds->(∀vs G' H',zP G H G' H'->Reps X.K G' ds vs->Q vs H')->t σ H Q)
  (E:zu X.K X.N.length G0 H0 G H τ σ)(hf:wZ c m fo fs τ=some ds)(q:∀vs G' H',zP G H G' H'->Reps X.K G' ds vs->sp vs H' Q E0):Ov C m sp [] E0 to t σ H Q:=by
 obtain⟨y,hy,hf⟩:=zC hf
 split at hf
 ·rename_i x fl vs
  split at hf
  ·rename_i cc;rw[yC]at cc;cases yy cc.1
   have hm:m ∉ fl:=by
    have:=cc.2;simpa using this
   obtain⟨ds',hd,hf⟩:=zC hf;cases hf;refine ko E hy λv G1 H1 x1 r1=>?_
   obtain⟨a,C',dx,us,rfl,ns,ha,l,rs⟩:=id r1;rw[nsC]at ns;cases ns;refine⟨a,dx,_,rfl,x1.gh _ _ ha,Iq hm,kt (E.go x1) hd λvs G2 H2 x2 r2=>?_⟩;rw[vg];exact q _ _ _ (x1.trans x2) ⟨_,vs,rfl,r1.mono x2.g,r2⟩
  ·cases hf
 ·cases hf
theorem eD{G H:Hp}{ds:List D}{vs:List V}{Q:VK}{G0' H0':Hp}{d:D}{o:Bool}{E:XK}(x:zP G0' H0' G H)(r:Reps X.K G ds vs)(hr:FF ds=some (o,d))(q:∀v G' H',zP G0' H0' G' H'->zU X.K G' d v->Q v H'):zY X.K FF vs H Q E:=by
 refine⟨G,ds,o,d,x.gh,r,hr,?_⟩;cases o with
 |false=>exact λv G' H' x2 r=>q v G' H' (x.trans x2) r
 |true=>
  intro p G' H' x2 hp gp o;obtain⟨u,hu,r⟩:=o.wC gp;exact q _ _ _ (x.trans (x2.wC hp gp hu)) r
theorem kW{pl:Sem Bool}(h:vA X.prog X.w X.K X.mg X.base c m ps k (zY X.K FF))(hr:yS j X.A)(ho:SE X o fo)(hk:k<=j:=by decide)
  (ht:eval (.Call (.Attribute o m apos) [] [] pos) X.env=(do
   let ov <-eval o X.env
   standAt apos.atName
   let (f,first) <-holding [ov] (getMethod ov m pl)
   callWith pos f first (backTo pos (starEach [] X.env)) (backToKw pos (keywordEach [] X.env))):=by rfl):SE X (.Call (.Attribute o m apos) [] [] pos) (zp FF (wZ c m fo zJ)):=by
 obtain⟨C,f,fd,ns,cl,me,b,F⟩:=h;obtain⟨to,po,ko⟩:=ho.h;refine⟨⟨_,CA po cl me F (hr.mono hk) b .nil kM ht,λ{G0 H0 G H τ σ d Q} E hf q=>?_⟩⟩;obtain⟨ds,hd,hf⟩:=zC hf;obtain⟨⟨oo,dd⟩,hF,hf⟩:=zC hf;cases hf;exact dQ (t:=Wp) ns ko (λ{G0 H0 G H τ σ ds Q} E' e k'=>by cases e; exact k' _ _ _ (zP.refl E'.ext.gh) rfl) E hd λvs G' H' x r=>eD x r hF q
end
theorem OwnMs.QH{K:W.Frag}{G H:Hp}{k:Sum Int Str}{d:D}{w:V}(rd:zU K G d w):∀{ks:List (Sum Int Str)} {ms:List M} {vs:List V} {L:Ft},OwnMs K G H ms vs L->ks.length=vs.length->∃L',OwnMs K G H (List.zipWith (λk' x=>if k'=k then M.fz d else x) ks ms) (List.zipWith (λk' x=>if k'=k then w else x) ks vs) L'/\∀q,L' q->L q
 | [],ms,vs,L,h,l=>⟨λ_=>False,⟨rfl,λ_ z=>z⟩,λ_ z=>z.elim⟩
 |_::_,[],vs,L,h,l=>by
  obtain⟨rfl,n⟩:=h;cases l
 |k'::ks,m::ms,vs,L,h,l=>by
  obtain⟨v,r,La,Lb,rfl,hv,hr,d',u⟩:=h;obtain⟨L',o',s'⟩:=OwnMs.QH (k:=k) rd hr (Yk l);rw[Yj,Yj];by_cases c:k'=k
  ·rw[zI c,zI c];exact⟨L',⟨w,_,λ_=>False,L',rfl,⟨rd,λ_ z=>z⟩,o',λ_ z=>z.elim,λq=>⟨.inr,λz=>z.elim False.elim id⟩⟩,λq z=>(u q).mpr (.inr (s' q z))⟩
  ·rw[zK c,zK c];refine⟨λq=>La q\/L' q,⟨v,_,La,L',rfl,hv,o',λq a b=>d' q a (s' q b),λq=>t5⟩,λq z=>?_⟩;rcases z with z|z
   ·exact(u q).mpr (.inl z)
   ·exact(u q).mpr (.inr (s' q z))
def XU(i:Nat)(π:List yf)(k:Str)(fe:FE):yH:=λβ=>(uZ β i π).bind λnd=>match nd with
 |.tab ks ms=>match xR ks (.inr k)&&decide (ks.length<yR)with
  |true=>(getA ks ms (.inr k)).bind λc=>(uO c).bind λc=>match c with
   |.int a=>(fe (vw β)).bind λy=>match y with
    |.int b=>(putAt β i π (.tab ks (ya ks ms (.inr k) (.fz (.int (a+b)))))).bind λβ2=>some (.nx β2)
    |_=>none
   |_=>none
  |false=>none
 |_=>none
section
variable{X:Cx}{np:Nat}{o v:Expr}{i:Nat}{π:List yf}{k:Str}{kk:Nat}{kp pos tpos:Pos}{fe:FE}
theorem Dx(hu:X.A.units+1<cLine)(ho:SP X o i π)(hv:SE X v fe):MS X np (.AugAssign (.Subscript o (.Constant (.str k) kk kp) tpos) .Add v pos) (XU i π k fe):=by
 obtain⟨tv,pv,kv⟩:=hv.h;obtain⟨to,po,ko⟩:=ho.h;refine⟨⟨_,aH hu po Xa pv DL (λ_ _ _=>rfl),λ{P G0 H0 G H β σ fl E} hP K hf q=>?_⟩⟩;obtain⟨nd,hn,hf⟩:=zC hf
 split at hf
 ·rename_i ks ms
  split at hf
  ·rename_i c;rw[yC]at c;have hx:=c.1;have hl:=yy c.2;obtain⟨ch,hch,hf⟩:=zC hf;obtain⟨dc,hdc,hg⟩:=zC hf;cases qf hdc
   split at hg
   ·rename_i a;obtain⟨y,hy,hf⟩:=zC hg
    split at hf
    ·rename_i b;obtain⟨β2,hβ,hf⟩:=zC hf;cases hf;obtain⟨mm,hm,ha⟩:=q_ hn;have K0:=K.qU (d:=.zF) (v:=.zF) rfl;obtain⟨r,v1,L1,Lr,er,va,o1,_⟩:=K0.write K.lp hm ha;obtain⟨p,vs,L',rfl,hp,l,rs,l2,nL,uL⟩:=o1;obtain⟨vc,Lc,ec,⟨rc,_⟩,_⟩:=OwnMs.focus rs hch;cases(show vc=_ from rc);refine ko er va ⟨p,_,rfl,.inl ⟨_,.inr k,.inl hp,rfl,by rw[g8 _ l,<-Jd]; exact ec.symm⟩,?_⟩;obtain⟨Ga,Ea,back⟩:=K.vy;refine kv Ea hy λu G2 H2 x2 r2=>?_
     cases(show u=_ from r2);obtain⟨G3,x3,K3,_⟩:=back _ _ x2;have K4:=K3.qU (d:=.int (a+b)) (v:=.int (a+b)) rfl;obtain⟨r',v1',L1',Lr',er',va',o1',orr,dj,wr⟩:=K4.write K.lp hm ha;rw[er]at er';cases er';cases xQ.one (va.mono x3.h) va';obtain⟨p',vs',L'',e0,hp',l',rs',t6,nL',uL'⟩:=o1';cases e0
     have ez:xc (ks.zip vs') (.inr k) (V.int (a+b))=ks.zip (ya ks vs' (.inr k) (V.int (a+b))):=by
      rw[Ww l'];unfold xf;rw[zI hx]
     have k1:∀q,q≠p->(zS H2 p (.dK (xc (ks.zip vs') (.inr k) (V.int (a+b))))) q=H2 q:=λq z=>yK z
     have rs2:OwnMs X.K G3 (zS H2 p (.dK (xc (ks.zip vs') (.inr k) (V.int (a+b))))) ms vs' L'':=OwnMs.imp (λm' _ v' L3 s o=>o.loc (zg.refl _) m' v' L3 λq z=>k1 q λc=>nL' (c▸s q z)) rs';obtain⟨L3,o3,s3⟩:=OwnMs.QH (k:=.inr k) (d:=.int (a+b)) (w:=.int (a+b)) rfl rs2 l'
     have em:∀{α:Type}(xs:List α)(z:α),ya ks xs (.inr k) z=List.zipWith (λk' x=>if k'=.inr k then z else x) ks xs:=λxs z=>by
      unfold ya;rw[zI hx]
     obtain⟨m',e',K5⟩:=wr (H':=zS H2 p (.dK (xc (ks.zip vs') (.inr k) (V.int (a+b))))) (m2:=.tab ks (ya ks ms (.inr k) (.fz (.int (a+b))))) (L2:=λq=>q=p\/L3 q) (λq z=>k1 q λc=>z ((uL' q).mpr (.inl c)))
      ⟨p,ya ks vs' (.inr k) (V.int (a+b)),L3,rfl,by rw[yT,ez],by rw[em,jB,l',uI],by rw[em,em]; exact o3,by rw[em,jB,rs'.length.symm.trans l'.symm,uI]; rw[<-rs'.length,<-l']at l2; exact l2,λz=>nL' (s3 p z),λq=>t5⟩ (λq z=>by
       rcases z with rfl|z
       ·exact .inl ((uL' q).mpr (.inl rfl))
       ·exact .inl ((uL' q).mpr (.inr (s3 q z))))
     rw[jt hm e']at hβ;cases hβ;exact⟨_,_,rfl,rfl,_,.inl ⟨_,.inr k,hp',rfl,by rw[pA,l',uI,xM,<-l']; exact hl,rfl⟩,q _ _ _ K5⟩
    ·cases hf
   ·cases hg
  ·cases hf
 ·cases hf
end
def Iv(ix:Nat)(i:Nat)(π:List yf)(fk:FE)(fv:ym):yH:=λβ=>(fv β).bind λr=>(uO r.1).bind λy=>match y with
 |.tup [d1,d2]=>(uZ (r.2.set ix (some (.fz d1))) i π).bind λnd=>match nd with
  |.own (.lst ds)=>(fk (vw (r.2.set ix (some (.fz d1))))).bind λx=>match x with
   |.int j=>(ixN ds.length j).bind λn=>(putAt (r.2.set ix (some (.fz d1))) i π (.own (.lst (ds.set n d2)))).bind λβ2=>some (.nx β2)
   |_=>none
  |_=>none
 |_=>none
section
variable{X:Cx}{np:Nat}{o k v:Expr}{ix i:Nat}{x:Str}{π:List yf}{fk:FE}{fv:ym}{px pos pos' pt:Pos}{kk:Nat}
theorem R4(hc:X.calm=true)(hx:QG X (.Name x px) (vZ ix))(hi:X.N[ix]?=some x)(hn:np<=ix)(ho:SP X o i π)(hk:SE X k fk)(hv:MC X v fv)(hp:kN k=true:=by rfl)
  (hq1:(assignEach [.Name x px,.Subscript o k pos'] X.env).map (·.2)=assign (.Name x px) X.env::(assignEach [.Subscript o k pos'] X.env).map (·.2):=by rfl)(hq2:(assignEach [.Subscript o k pos'] X.env).map (·.2)=assign (.Subscript o k pos') X.env::(assignEach [] X.env).map (·.2):=by rfl)
  (hqn:(assignEach [.Name x px,.Subscript o k pos'] X.env).length=2:=by rfl)(hst:(assignEach [.Name x px,.Subscript o k pos'] X.env).findIdx? (·.1)=none:=by rfl)
  (hs:swapsWithSole [.Tuple [.Name x px,.Subscript o k pos'] kk pt] v pos.line X.env=pure false:=by rfl)(hw:swappedStores [.Tuple [.Name x px,.Subscript o k pos'] kk pt] v X.env=pure none:=by rfl)(h1:(assignEach [.Tuple [.Name x px,.Subscript o k pos'] kk pt] X.env).map (·.2)=[assign (.Tuple [.Name x px,.Subscript o k pos'] kk pt) X.env]:=by rfl) :
  MS X np (.Assign [.Tuple [.Name x px,.Subscript o k pos'] kk pt] v pos) (Iv ix i π fk fv):=by
 obtain⟨tk,pk,kk'⟩:=hk.h;obtain⟨tv,pv,kv⟩:=hv.h;obtain⟨to,po,ko⟩:=ho.h;refine⟨⟨_,OF pv (YG hc (tW hx (tW (OM ⟨po⟩ ⟨pk⟩ Oh hp) YH hq2) hq1) hqn hst).h hs hw h1,λ{P G0 H0 G H β σ fl E} hP K hf q=>?_⟩⟩;obtain⟨⟨m,β1⟩,hy,hf⟩:=zC hf;obtain⟨y,ey,hg⟩:=zC hf;clear hf;cases qf ey
 split at hg
 ·rename_i d1 d2;obtain⟨nd,hnd,hf⟩:=zC hg;clear hg
  split at hf
  ·rename_i ds;obtain⟨xk,hxk,hf⟩:=zC hf;cases xk with
   |int j=>
    obtain⟨nn,hnn,hf⟩:=zC hf;obtain⟨β2,hβ,hf⟩:=zC hf;cases hf;obtain⟨mm,hm,ha⟩:=q_ hnd;refine kv K hy λw G1 H1 s1 K1=>?_
    obtain⟨a,vs,rfl,sq,⟨w1,r1,rfl,g1,⟨w2,r2,rfl,g2,g3⟩⟩,_⟩:=K1.jK;cases(show r2=[]from g3);have Kd:=K1.down K.lp;have Ks:=Kd.Yt (i:=ix) (v:=w1) (yD.mp hi).1 (by omega) g1;have Kp:=Ks.qU g2;refine⟨a,_,rfl,vf Kd.ext.gh sq,rfl,w1,_,rfl,w2,_,rfl,?_⟩;obtain⟨r,v1,L1,Lr,er,va,_⟩:=Kp.write K.lp hm ha;refine ko er va ?_;obtain⟨Ga,Ea,back⟩:=Ks.vy;refine kk' Ea hxk λu G2 H2 x2 r2=>?_
    cases(show u=_ from r2);obtain⟨G3,x3,_,_⟩:=back _ _ x2;have K4:=Kp.go x3;obtain⟨r',v1',L1',Lr',er',va',o1',or',dj',wr'⟩:=K4.write K.lp hm ha;rw[er]at er';cases er';cases xQ.one (va.mono x3.h) va';obtain⟨p,rfl,⟨vs,ev,rs,l⟩,uL⟩:=o1';obtain⟨m',e',K5⟩:=wr' (H':=zS H2 p (.lst (vs.set nn w2))) (m2:=.own (.lst (ds.set nn d2))) (L2:=λq=>q=p) (λq z=>yK λc=>z ((uL q).mpr c)) ⟨p,rfl,⟨_,yT,Reps.set K4.jK nn rs,by rw[vV]; exact l⟩,λ_=>t5⟩ (λq z=>.inl ((uL q).mpr z));rw[jt hm e']at hβ;cases hβ;exact⟨p,vs,j,nn,rfl,rfl,ev,by rw[rs.length]; exact hnn,rfl,q _ _ _ K5⟩
   |_=>cases hf
  ·cases hf
 ·cases hg
end
open PyProof
mutual
def xS:D->PyData
 |.zF=>.none
 |.bl b=>.bool b
 |.int i=>.int i
 |.str x=>.str x
 |.tup ds=>.tuple (pyTs ds)
 |.lst ds=>.list (pyTs ds)
 |_=>.none
def pyTs:List D->List PyData
 | []=>[]
 |d::ds=>xS d::pyTs ds
end
mutual
def wD:D->Nat
 |.zF=>4
 |.bl _=>5
 |.int i=>if decide (0<=i)&&decide (i<100000000000000000000)then 20 else 1000000000
 |.tup ds=>wDs ds+3
 |.lst ds=>wDs ds+2
 |_=>1000000000
def wDs:List D->Nat
 | []=>0
 |d::ds=>wD d+2+wDs ds
end
def vC:Nat->D->Bool
 |_,.zF=>true
 |_,.bl _=>true
 |_,.int _=>true
 |n+1,.tup ds=>ds.all (vC n)
 |n+1,.lst ds=>ds.all (vC n)
 |_,_=>false
def UO:List D->Option D
 | [.lst ds]=>match decide (wDs ds<=1000000)&&ds.all (vC 5)with
  |true=>some (.str (xS (.lst ds)).shown)
  |false=>none
 |_=>none
theorem Em:∀(ts:List Str)(k:Nat)(acc:Str),(textFrom k acc ts).length<=acc.length+piled ts
 | [],k,acc=>gC _ _
 |t::r,k,acc=>by
  have h:=Em r (k+1) (acc++(if k>0 then ", " else "" : String)++t)
  have e:(acc++(if k>0 then ", " else "" : String)++t).length=acc.length+(if k>0 then 2 else 0)+t.length:=by
   rw[Yn,Yn]
   split<;>rfl
  rw[e]at h;rw[piled_cons];show(textFrom (k+1) _ r).length<=_;have:(if k>0 then 2 else 0:Nat)<=2:=by split<;>omega
  omega
theorem Pf(ts:List Str):(listText ts).length<=piled ts+2:=by
 unfold listText;have h:=Em ts 0 "[";have e1:(("[" : String):Str).length=1:=rfl;have e2:(("]" : String):Str).length=1:=rfl;rw[Yn,e2];rw[e1]at h;omega
theorem iC(ts:List Str):(tupleText ts).length<=piled ts+3:=by
 unfold tupleText;rw[Yn,Yn];have e1:((("(" : String):Str)).length=1:=rfl;have e3:(((if ts.length==1 then ",)" else ")" : String):Str)).length<=2:=by split<;>decide
 rw[e1];by_cases h:ts=[]
 ·subst h;have:(Str.join ", " []).length=0:=rfl;omega
 ·have:=join_length_add ts h;omega
theorem Oj(d:D):wD d<=900000000->(xS d).shown.length<=wD d:=by
 have all:∀xs:List D,(∀d∈xs,wD d<=900000000->(xS d).shown.length<=wD d)->wDs xs<=900000000->piled (PyData.shownAll (pyTs xs))<=wDs xs:=λxs=>by
  induction xs with
  |nil=>intro _ _; exact yF _
  |cons x xs ih=>
   intro h hw;have hw':wD x+2+wDs xs<=900000000:=hw;have h1:=h x yr (by omega);have h2:=ih (λd hd=>h d (xP _ hd)) (by omega);show piled ((xS x).shown::PyData.shownAll (pyTs xs))<=wD x+2+wDs xs;rw[piled_cons];omega
 refine D.ind (P:=λd=>wD d<=900000000->(xS d).shown.length<=wD d) ?_ ?_ ?_ ?_ ?_ ?_ ?_ ?_ ?_ d
 ·intro _; decide
 ·intro b _; cases b<;>decide
 ·intro i h
  change (if decide (0<=i)&&decide (i<100000000000000000000)then 20 else 1000000000)<=900000000 at h
  show(Str.ofString (toString i)).length<=(if decide (0<=i)&&decide (i<100000000000000000000)then 20 else 1000000000);cases c:(decide (0<=i)&&decide (i<100000000000000000000))with
  |false=>rw[c,zK (by decide)]at h; omega
  |true=>
   rw[zI rfl];rw[yC]at c;have e:(10:Int) ^ 20=100000000000000000000:=by decide
   have h2:=yy c.2;rw[<-e]at h2;exact toString_length_le (yy c.1) (by decide) h2
 ·intro x h; exact absurd h (by show ¬ (1000000000<=900000000); decide)
 ·intro xs ih h;have h':wDs xs+3<=900000000:=h;have:=all xs ih (by omega);have:=iC (PyData.shownAll (pyTs xs));show(tupleText (PyData.shownAll (pyTs xs))).length<=wDs xs+3;omega
 ·intro xs ih h;have h':wDs xs+2<=900000000:=h;have:=all xs ih (by omega);have:=Pf (PyData.shownAll (pyTs xs));show(listText (PyData.shownAll (pyTs xs))).length<=wDs xs+2;omega
 ·intro ks xs _ h; exact absurd h (by show ¬ (1000000000<=900000000); decide)
 ·intro x h; exact absurd h (by show ¬ (1000000000<=900000000); decide)
 ·intro x fs xs _ h; exact absurd h (by show ¬ (1000000000<=900000000); decide)
theorem dg(d:D):wD d<=900000000->(xS d).showable=true/\(xS d).hasDict=false:=by
 have all:∀xs:List D,(∀d∈xs,wD d<=900000000->(xS d).showable=true/\(xS d).hasDict=false)->wDs xs<=900000000->PyData.showableAll (pyTs xs)=true/\PyData.hasDictAll (pyTs xs)=false:=λxs=>by
  induction xs with
  |nil=>intro _ _; exact⟨rfl,rfl⟩
  |cons x xs ih=>
   intro h hw;have hw':wD x+2+wDs xs<=900000000:=hw;obtain⟨a,b⟩:=h x yr (by omega);obtain⟨c,e⟩:=ih (λd hd=>h d (xP _ hd)) (by omega)
   constructor
   ·show((xS x).showable&&PyData.showableAll (pyTs xs))=true;rw[a,c]; rfl
   ·show((xS x).hasDict||PyData.hasDictAll (pyTs xs))=false;rw[b,e]; rfl
 refine D.ind (P:=λd=>wD d<=900000000->(xS d).showable=true/\(xS d).hasDict=false) (λ_=>⟨rfl,rfl⟩) (λb _=>⟨rfl,rfl⟩) ?_ ?_ ?_ ?_ (λks xs _ _=>⟨rfl,rfl⟩) (λx _=>⟨rfl,rfl⟩) (λx fs xs _ _=>⟨rfl,rfl⟩) d
 ·intro i h
  change (if decide (0<=i)&&decide (i<100000000000000000000)then 20 else 1000000000)<=900000000 at h
  refine⟨?_,rfl⟩;cases c:(decide (0<=i)&&decide (i<100000000000000000000))with
  |false=>rw[c,zK (by decide)]at h; omega
  |true=>
   rw[yC]at c;have h1:=yy c.1;have h2:=yy c.2;show decide (i.natAbs.log2<1920)=true;refine yQ ?_;by_cases z:i.natAbs=0
   ·rw[z]; decide
   ·have e:(2:Nat) ^ 67=147573952589676412928:=by decide
    have h3:i.natAbs<2 ^ 67:=by
     rw[e];omega
    have:=(V8 z).mpr h3;omega
 ·intro x h; exact absurd h (by show ¬ (1000000000<=900000000); decide)
 ·intro xs ih h;have h':wDs xs+3<=900000000:=h;exact all xs ih (by omega)
 ·intro xs ih h;have h':wDs xs+2<=900000000:=h;exact all xs ih (by omega)
theorem JI:∀(n:Nat)(d:D),vC n d=true->(xS d).depth<=n
 |n,.zF,_=>vi _
 |n,.bl _,_=>vi _
 |n,.int _,_=>vi _
 |0,.tup _,h=>by cases h
 |0,.lst _,h=>by cases h
 |n+1,.tup ds,h=>by
  have all:∀ds:List D,ds.all (vC n)=true->PyData.depthAll (pyTs ds)<=n:=λds=>by
   induction ds with
   |nil=>intro _; exact vi _
   |cons x xs ih=>
    intro h;rw[xh,yC]at h;exact Nat.max_le.mpr ⟨JI n x h.1,ih h.2⟩
  exact Tz (all ds h)
 |n+1,.lst ds,h=>by
  have all:∀ds:List D,ds.all (vC n)=true->PyData.depthAll (pyTs ds)<=n:=λds=>by
   induction ds with
   |nil=>intro _; exact vi _
   |cons x xs ih=>
    intro h;rw[xh,yC]at h;exact Nat.max_le.mpr ⟨JI n x h.1,ih h.2⟩
  exact Tz (all ds h)
 |n,.str _,h=>by cases n<;>cases h
 |n,.dic _ _,h=>by cases n<;>cases h
 |n,.exc _,h=>by cases n<;>cases h
 |n,.obj _ _ _,h=>by cases n<;>cases h
section
variable{X:Cx}{z0:List (Addr×Obj)}{σ:St}{H:Hp}{s:Shared}
theorem b4(I:zB X z0 σ H s)(d:D):∀(n:Nat)(v:V)(u:Value),vC n d=true->zU X.K H d v->zd v u->∃as,Reads s.heap u (xS d) as:=by
 have all:∀(xs:List D),(∀d∈xs,∀(n:Nat)(v:V)(u:Value),vC n d=true->zU X.K H d v->zd v u->∃as,Reads s.heap u (xS d) as)->∀(n:Nat)(vs:List V)(us:List Value),xs.all (vC n)=true->Reps X.K H xs vs->zc vs us->∃as,ReadsAll s.heap us (pyTs xs) as:=λxs=>by
  induction xs with
  |nil=>
   intro _ n vs us _ r hv;cases(show vs=[]from r);cases hv;exact⟨[],.nil⟩
  |cons x xs ih=>
   intro h n vs us ha r hv;obtain⟨v,r',rfl,h1,h2⟩:=r;rw[xh,yC]at ha;cases hv with
   |cons q1 q2=>
    obtain⟨as,ra⟩:=h x yr n v _ ha.1 h1 q1;obtain⟨bs,rb⟩:=ih (λd hd=>h d (xP _ hd)) n r' _ ha.2 h2 q2;exact⟨_,.cons ra rb⟩
 refine D.ind (P:=λd=>∀(n:Nat)(v:V)(u:Value),vC n d=true->zU X.K H d v->zd v u->∃as,Reads s.heap u (xS d) as) ?_ ?_ ?_ ?_ ?_ ?_ ?_ ?_ ?_ d
 ·intro n v u _ r q;cases(show v=_ from r);cases(show u=_ from q);exact⟨_,.none⟩
 ·intro b n v u _ r q;cases(show v=_ from r);cases(show u=_ from q);exact⟨_,.bool b⟩
 ·intro i n v u _ r q;cases(show v=_ from r);obtain⟨t,rfl⟩:=(show ∃t,u=Value.int i t from q);exact⟨_,.int i t⟩
 ·intro x n v u h;cases n<;>cases h
 ·intro xs ih n v u h r q;obtain⟨a,vs,rfl,sq,rs,_⟩:=r;cases(show u=_ from q);cases n with
  |zero=>cases h
  |succ n=>
   obtain⟨its,rv,⟨o,e,hc,m,hd⟩,_⟩:=I.tuple sq;obtain⟨as,ra⟩:=all xs ih n vs its h rs rv;exact⟨as,.tuple e hc hd (by simpa using ra)⟩
 ·intro xs ih n v u h r q;obtain⟨a,vs,rfl,sq,rs,_⟩:=r;cases(show u=_ from q);cases n with
  |zero=>cases h
  |succ n=>
   obtain⟨its,rv,⟨o,m,e,hc,_,hd⟩,_⟩:=I.list sq;obtain⟨as,ra⟩:=all xs ih n vs its h rs rv;exact⟨_,.list e hc hd (by simpa using ra)⟩
 ·intro ks xs _ n v u h;cases n<;>cases h
 ·intro x n v u h;cases n<;>cases h
 ·intro x fs xs _ n v u h;cases n<;>cases h
end
def Cr(K:W.Frag):List V->Hp->VK->Prop:=λxs H Q=>∃ds v,xs=[v]/\zU K H (.lst ds) v/\wDs ds<=1000000/\ds.all (vC 5)=true/\Q (.str (xS (.lst ds)).shown) H
theorem BH{X:Cx}{j:Nat}(hr:yS j X.A):xY X (.builtin "repr") (Cr X.K):=by
 intro z0 s σ H xs us Q I r h;obtain⟨ds,v,rfl,rd,hw,hd,q⟩:=h;obtain⟨u,rfl,rx⟩:=vU r;obtain⟨as,ra⟩:=b4 I (.lst ds) 6 v u hd rd rx;obtain⟨a,vs,rfl,_⟩:=rd;cases rx;have w9:wD (.lst ds)<=900000000:=by show wDs ds+2<=_; omega
 obtain⟨s1,s2⟩:=dg (.lst ds) w9;have dp:=JI 6 (.lst ds) hd;have hu:=hr.units;have sl:=Oj (.lst ds) w9
 have sz:(xS (.lst ds)).shown.length<=sizeLine:=by
  have:wD (.lst ds)=wDs ds+2:=rfl;rw[xM];omega
 exact repr_of_reads' ra s1 (PyData.noDict_hsm s2) hr.gd (by omega) (λ_ _ e=>e) (λh' u tk hk=>⟨.str _,H,I.kept (t':=tk) hk,⟨_,rfl⟩,q⟩) sz
theorem Fu{K:W.Frag}:qb K (Cr K) UO:=λG H ds vs d Q s r hf q=>by
 match ds,hf with
 | [.lst xs],hf=>
  change (match decide (wDs xs<=1000000)&&xs.all (vC 5)with|true=>some (D.str (xS (.lst xs)).shown)|false=>none)=some d at hf
  cases c:(decide (wDs xs<=1000000)&&xs.all (vC 5))with
  |false=>rw[c]at hf; cases hf
  |true=>
   rw[c]at hf;cases hf;rw[yC]at c;have hw:=yy c.1;obtain⟨v,rfl,rv⟩:=ua r;have sl:=Oj (.lst xs) (by show wDs xs+2<=_; omega);refine⟨xs,v,rfl,?_,hw,c.2,q _ _ _ (zP.refl s) ⟨rfl,?_⟩⟩
   ·first|exact rv|exact rv.mono s
   ·have:wD (.lst xs)=wDs xs+2:=rfl;rw[xM];omega
theorem Hl{X:Cx}:xY X (.type "dict") (λxs H Q=>∃a kvs,xs=[.ref a]/\Rd H a (.dK kvs)/\∀p,H p=none->Q (.ref p) (zS H p (.dK kvs))):=by
 intro z0 s σ H xs us Q I r h;obtain⟨a,kvs,rfl,e,q⟩:=h;obtain⟨u,rfl,ru⟩:=vU r;cases(show u=Value.ref a from ru);obtain⟨hz,hsys,vs,rel,dd⟩:=tP I.zZ e;have hlv:vs.length=kvs.length:=IW rel;refine kt_call_dict hsys dd (by rw[hlv]; exact hz) λh' hm sb=>?_
 have hm2:(s.heap.objs.size==sysModules)=false:=by
  have:=I.big;rw[jF];exact xV (qS this)
 have kp:∀b o,s.heap.get? b=some o->h'.get? b=some o:=λb o eb=>by
  have hlt:=Heap.lt_size eb;exact(sb.2 b (xV (xz hlt))).trans (Heap.get?_push_of_some _ eb)
 exact⟨.ref s.heap.objs.size,_,I.laid (a:=s.heap.objs.size) (o:=.dK kvs) (t':=s.toks) kp (yF _) (UE hz hm2 rel hm),rfl,q _ I.fresh⟩
def UJ:List D->Option D
 | [.dic ks ds]=>some (.dic ks ds)
 |_=>none
theorem dX{X:Cx}{e:Expr}{fs:FA}{p pos:Pos}(hg:Gl X "dict")(hm:X.mg "dict" = none)(hv:bootBuiltins "dict" = some (.type "dict"))(ha:SA X [e] fs)(hs:yZ e=true:=by rfl):SF X (.Call (.Name "dict" p) [e] [] pos) (eL UJ fs):=by
 obtain⟨t,pt,k⟩:=ha.h;refine⟨⟨_,(YF Hl hg hm hv ⟨pt⟩ (by decide) (by decide) (by rw[xh,hs]; rfl)).h,λ{G0 H0 G H τ σ d Q} E hf q=>?_⟩⟩;obtain⟨ds,hd,hf⟩:=zC hf;refine k E hd λvs G1 H1 x1 r1=>?_
 unfold UJ at hf
 split at hf
 ·rename_i ks es;cases hf;obtain⟨v,rfl,a,ws,rfl,sq,hl,rs,l⟩:=ua r1;refine⟨a,_,rfl,Rd.mono x1.gh sq,λp hp=>?_⟩;exact q p _ _ (x1.trans (zP.t8 x1.gh hp)) (x1.h.free hp) (x1.gh.free hp) ⟨ws,yT,hl,rs,l⟩
 ·cases hf
end L3
namespace L3
def wH:=
 And.intro yN.eq_1<|And.intro tS.eq_1<|And.intro qJ.eq_1<|And.intro qw.eq_1<|And.intro uU.eq_1<|And.intro vE.eq_1<|And.intro yb.eq_1<|And.intro uR.eq_1<|And.intro jc.eq_1<|And.intro Hi.eq_1<|And.intro Hh.eq_1 <|
 And.intro qQ.eq_1<|And.intro iY.eq_1<|And.intro iX.eq_1<|And.intro iZ.eq_1<|And.intro L0.eq_1<|And.intro UB.eq_1<|And.intro Hg.eq_1<|And.intro uO.eq_def<|And.intro uZ.eq_1<|And.intro putAt.eq_1 <|
 And.intro uP.eq_1<|And.intro uF.eq_1<|And.intro qr.eq_1<|And.intro hide.eq_1<|And.intro vw.eq_1<|And.intro wA.eq_1<|And.intro wA.eq_2<|And.intro wA.eq_3<|And.intro wA.eq_4<|And.intro thaws.eq_1<|And.intro thaws.eq_2 <|
 And.intro wV.eq_1<|And.intro wV.eq_2<|And.intro wV.eq_3<|And.intro wV.eq_4<|And.intro wV.eq_5<|And.intro tplDs.eq_1<|And.intro tplDs.eq_2<|And.intro Iz.eq_def<|And.intro uw.eq_1<|And.intro jm.eq_1<|And.intro uV.eq_1<|And.intro Iv.eq_1<|And.intro XT.eq_1<|And.intro qu.eq_1<|And.intro qu.eq_2 <|
 And.intro wY.eq_1<|And.intro ZU.eq_1<|And.intro wX.eq_1<|And.intro Gw.eq_1<|And.intro u7.eq_1<|And.intro gl.eq_1<|And.intro j5.eq_1<|And.intro j5.eq_2<|And.intro j5.eq_3<|And.intro ZZ.eq_1<|And.intro ZZ.eq_2<|And.intro ZZ.eq_3<|And.intro uB.eq_1<|And.intro gr.eq_1<|And.intro u8.eq_1<|And.intro J6.eq_1<|And.intro J5.eq_1 <|
 And.intro qA.eq_1<|And.intro qA.eq_2<|And.intro XC.eq_1<|And.intro XC.eq_2<|And.intro vH.eq_1<|And.intro Bw.eq_1<|And.intro JD.eq_1<|And.intro gu.eq_1<|And.intro J4.eq_1<|And.intro UD.eq_1 <|
 And.intro Uo.eq_1<|And.intro Zv.eq_1<|And.intro @Option.map_some.{0,0} <| And.intro @Option.map_none.{0,0} <| And.intro @GY.{0} @Tw.{0}
open PySem PySem.Spec PyProof.Rows L2
theorem qm{K:W.Frag}{f:Str}:zw K [] f:=λx hx=>absurd hx (by simp)
theorem ql{K:W.Frag}{f c:Str}{C:Addr}{cs:List Str}(ns:W.nsIn K mainGlobals c=some (some (.ref C)))(cl:v_ K C)(na:W.findIn K (.ref C) f=some none)(r:zw K cs f):zw K (c::cs) f:=λx hx C' ns'=>by
 rcases yY.mp hx with rfl|hx
 ·rw[ns]at ns';cases ns';exact⟨cl,na⟩
 ·exact r x hx C' ns'
def Br:List D->Option D
 | [.lst xs]=>(XN xs).bind λns=>match ns.all (λi=>decide (0<=i)&&decide (i<1099511627776))&&decide (ns.length<=1000)with
  |true=>some (.int ns.sum)
  |false=>none
 |_=>none
theorem Eh:∀{ns:List Int},(∀n∈ns,0<=n/\n<1099511627776)->0<=ns.sum/\ns.sum<=1099511627776*(ns.length:Int)
 | [],_=>⟨Int.le_refl _,by decide⟩
 |n::ns,h=>by
  obtain⟨a,b⟩:=Eh λm hm=>h m (xP _ hm)
  obtain⟨c,d⟩:=h n yr;rw[List.sum_cons,yO]
  constructor
  ·omega
  ·push_cast
   omega
theorem Sk{K:W.Frag}:qb K (Cw K) Br:=λG H ds vs d Q s r hf q=>by
 match ds,hf with
 | [.lst xs],hf=>
  obtain⟨ns,hn,hf⟩:=zC (show(XN xs).bind _=some d from hf);cases c:(ns.all (λi=>decide (0<=i)&&decide (i<1099511627776))&&decide (ns.length<=1000))with
  |false=>rw[c]at hf; cases hf
  |true=>
   rw[c]at hf;cases hf;rw[yC]at c;have hl:=yy c.2
   have ha:∀n∈ns,0<=n/\n<1099511627776:=λn hm=>by
    have:=ud.mp c.1 n hm;rw[yC]at this;exact⟨yy this.1,yy this.2⟩
   obtain⟨v,rfl,a,us,rfl,sq,rs,l⟩:=ua r;rw[DP hn rs]at sq;refine⟨a,ns,rfl,.inl sq,⟨λn hm=>?_,λk hk=>?_⟩,q _ _ _ (zP.refl s) rfl⟩
   ·have:=ha n hm
    constructor<;>omega
   ·have:=Eh (ns:=ns.take k) λn hm=>ha n (Tu hm)
    have l2:(ns.take k).length<=1000:=by rw[tj]; omega
    have l3:((ns.take k).length:Int)<=1000:=by exact_mod_cast l2
    constructor<;>omega
theorem UA:bootBuiltins "repr" = some (.builtin "repr"):=PyProof.Rows.bootS_repr
section
variable{X:Cx}{np:Nat}{x c:Str}{p pos pos':Pos}{e:Expr}{es:List Expr}{f:FE}{F:D->D->Option D}
def QX(P:Program)(w:World)(K:W.Frag)(mg:Str->Option Value)(base:Heap)(c:Str)(ps:List Str)(k:Nat)(sp:Sp)(dv:List D):Prop:=
 ∃(C f:Addr) (fd:FuncData) (ds:List Value) (dvs:List V),W.nsIn K mainGlobals c=some (some (.ref C))/\mg c=some (.ref C)/\Mk K C f/\xn K fd ps ds/\zc dvs ds/\(∀H,Reps K H dv dvs)/\yz P w K mg base xB k f fd ps sp
def X8(c:Str)(F:FM)(dv:List D)(f:wu):ym:=λβ=>(f β).bind λas=>(j5 as).bind λds=>(F (.obj c [] []::uB (ds++dv))).bind λr=>match r.2 with
 |.fz .zF=>(r.1[0]?).bind λm=>some (m,β)
 |_=>none
theorem Pt{F:FM}{fa:wu}{ps:List Str}{j k:Nat}{dv:List D}(h:QX X.prog X.w X.K X.mg X.base c ps k (zt X.K F) dv)(hr:yS j X.A)(hg:Gl X c)(ha:MA X (e::es) fa)(hk:k+1<=j:=by decide)(hdb:(c==("__debug__" : Str))=false:=by decide)(he:(e::es).all yZ=true:=by rfl) :
  MC X (.Call (.Name c p) (e::es) [] pos) (X8 c F dv fa):=by
 obtain⟨C,f,fd,dss,dvs,ns,mgc,mk,b,hvs,hdv,FF⟩:=h;obtain⟨t,pa,ka⟩:=ha.h;rw[xh,yC]at he;refine⟨⟨_,C9 mk FF (hr.mono hk) hg mgc b hvs kM pa hdb (vv he.1) (j3 he.2),λ{P G0 H0 G H β β' σ mr Q} E hf q=>?_⟩⟩;obtain⟨as,has,hf⟩:=zC hf;obtain⟨ds,hds,hf⟩:=zC hf;obtain⟨⟨ms',m'⟩,hF,hf⟩:=zC hf;refine ka E has λvs G1 H1 x1 ra y dy ny ndy ne=>?_
 have E1:=E.go x1;have rd:=Reps.append (X5 hds ra) (hdv G1)
 split at hf
 ·rename_i em
  change m'=.fz .zF at em
  subst em;obtain⟨m0,h0,hf⟩:=zC hf;cases hf;have a1:∀q,q≠y->q≠dy->zS (zS H1 dy (.own y)) y (.ins C dy []) q=H1 q:=λq z w=>by rw[yK z,yK w]
  have gy:G1 y=none:=E1.ext.gh.free ny
  have s2:zg G1 (zS (zS H1 dy (.own y)) y (.ins C dy [])):=λq o z=>by
   have h1:=E1.ext.gh _ _ z;rw[a1 q (λc=>by subst c; rw[ny]at h1; cases h1) (λc=>by subst c; rw[ndy]at h1; cases h1)];exact h1
  refine⟨G1,.obj c [] []::uB (ds++dv),λq=>q=y,ms',.fz .zF,s2,⟨_,vs++dvs,λq=>q=y,λ_=>False,rfl,⟨y,C,dy,[],λ_=>False,rfl,ns,yT,rfl,⟨rfl,λ_ z=>z⟩,λz=>z,λq=>⟨.inl,λz=>z.elim id False.elim⟩⟩,Y7 rd,λ_ _ z=>z,λq=>⟨.inl,λz=>z.elim id False.elim⟩⟩,λq z=>z▸gy,hF,λv G' H' L' x2 o hN=>?_⟩;obtain⟨v',r',La,Lb,e2,oa,ob,dj,u⟩:=o;cases e2;refine⟨oa.1,?_⟩;obtain⟨L2,o2,s2'⟩:=T3 (v1:=.ref y) ob h0 rfl
  have cn:∀q,cut (zS (zS H1 dy (.own y)) y (.ins C dy [])) (λq=>q=y) q=none->H1 q=none:=λq z=>by
   rcases JB z with z|z
   ·exact z▸ny
   ·by_cases c1:q=y
    ·exact c1▸ny
    ·by_cases c2:q=dy
     ·exact c2▸ndy
     ·rw[a1 q c1 c2]at z; exact z
  have x3:zP G1 H1 G' H':=⟨x2.g,λq o z=>x2.h _ _ (by
   have c1:q≠y:=λc=>by subst c; rw[ny]at z; cases z
   have c2:q≠dy:=λc=>by subst c; rw[ndy]at z; cases z
   rw[qg (L:=λq=>q=y) c1,a1 q c1 c2];exact z),x2.gh,λq z=>by
   rcases x2.new q z with w|w
   ·exact .inl w
   ·exact .inr (cn q w)⟩
  exact q _ G' H' (x1.g.trans x3.g) (E1.QF x3 o2 λq z=>by
   obtain⟨a,b⟩:=hN q ((u q).mpr (.inr (s2' q z)));exact⟨a,cn q b⟩)
 ·cases hf
end
open PyProof
def UR:D->Bool
 |.int i=>decide (0<=i)&&decide (i<100000000000000000000)
 |.bl _=>true
 |_=>false
def UP:List D->Option D
 | [d]=>match UR d with
  |true=>some (.str (xS d).shown)
  |false=>none
 |_=>none
def Cs(K:W.Frag):List V->Hp->VK->Prop:=λxs H Q=>∃d v,xs=[v]/\zU K H d v/\UR d=true/\Q (.str (xS d).shown) H
theorem BI{X:Cx}{j:Nat}(hr:yS j X.A):xY X (.builtin "repr") (Cs X.K):=by
 intro z0 s σ H xs us Q I r h;obtain⟨d,v,rfl,rd,hd,q⟩:=h;obtain⟨u,rfl,rx⟩:=vU r;cases d with
 |int i=>
  cases(show v=.int i from rd);obtain⟨t,rfl⟩:=rx;have hd':(decide (0<=i)&&decide (i<100000000000000000000))=true:=hd;rw[yC]at hd';have h0:=yy hd'.1;have h1:=yy hd'.2
  have hb:i.natAbs.log2<1920:=by
   have:i.natAbs<2 ^ 70:=by
    have e:(2:Nat) ^ 70=1180591620717411303424:=by decide
    omega
   by_cases z:i.natAbs=0
   ·rw[z]; decide
   ·exact Ty ((V8 z).mpr this) (by decide)
  exact P.repr_of_int hb ⟨.str _,H,I.tok _,⟨_,rfl⟩,q⟩
 |bl b=>
  cases(show v=.bl b from rd);cases(show u=.bool b from rx);exact P.repr_of_bool ⟨.str _,H,I.tok _,⟨_,rfl⟩,by cases b<;>exact q⟩
 |_=>cases hd
theorem Fv{K:W.Frag}:qb K (Cs K) UP:=λG H ds vs d Q s r hf q=>by
 match ds,hf with
 | [x],hf=>
  change (match UR x with|true=>some (D.str (xS x).shown)|false=>none)=some d at hf
  cases c:UR x with
  |false=>rw[c]at hf; cases hf
  |true=>
   rw[c]at hf;cases hf;obtain⟨v,rfl,rv⟩:=ua r
   have w9:wD x<=20:=by
    cases x with
    |int i=>
     show(if(decide (0<=i)&&decide (i<100000000000000000000))=true then 20 else 1000000000)<=20;rw[zI (show(decide (0<=i)&&decide (i<100000000000000000000))=true from c)];exact yF _
    |bl b=>show 5<=20; decide
    |_=>cases c
   have sl:=Oj x (by omega);refine⟨x,v,rfl,rv,c,q _ _ _ (zP.refl s) ⟨rfl,?_⟩⟩;rw[xM];omega
def UC(FL:List D->Option D)(h:ym):ym:=λβ=>(h β).bind λr=>(uO r.1).bind λd=>(FL [d]).bind λz=>some (.fz z,r.2)
section
variable{X:Cx}{np:Nat}
theorem Dt{x:Str}{p pos:Pos}{id:String}{e:Expr}{h:ym}{FL:List D->Option D}{rc:List V->Hp->VK->Prop}(hc:xY X (.builtin id) rc)(hF:qb X.K rc FL)(hg:Gl X x)(hm:X.mg x=none)(hv:bootBuiltins x=some (.builtin id))(ha:MC X e h)(hn:x ≠ "__name__" := by decide)(hdb:(x==("__debug__" : Str))=false:=by decide)(he:[e].all yZ=true:=by rfl)(h1:yZ e=true:=by rfl) :
  MC X (.Call (.Name x p) [e] [] pos) (UC FL h):=by
 obtain⟨t,pt,kt⟩:=ha.h;refine⟨⟨_,(Xd hc hg hm hv ⟨jr pt Y8 h1⟩ hn hdb he).h,λE hf q=>?_⟩⟩;obtain⟨⟨m,β1⟩,hk,hf⟩:=zC hf;obtain⟨d,ed,hf⟩:=zC hf;cases qf ed;obtain⟨z,hz,hf⟩:=zC hf;cases hf;refine kt E hk λv G1 H1 s1 E1=>?_
 have r1:=E1.jK;have Ed:=E1.down E.lp;exact hF G1 H1 [d] [v] _ _ Ed.ext.gh ⟨v,[],rfl,r1.mono Ed.ext.gh,rfl⟩ hz λw G' H' x2 r2=>q w G' H' (s1.trans x2.g) ((Ed.go x2).qU r2)
def Uv(i:Nat)(π:List yf)(k:Str)(fv:ym):yH:=λβ=>(fv β).bind λr=>(uO r.1).bind λy=>(uZ r.2 i π).bind λnd=>match nd with
 |.tab ks ms=>match xR ks (.inr k)&&decide (ks.length<yR)with
  |true=>(putAt r.2 i π (.tab ks (ya ks ms (.inr k) (.fz y)))).bind λβ2=>some (.nx β2)
  |false=>none
 |_=>none
theorem R3{o v:Expr}{i:Nat}{π:List yf}{k:Str}{kk:Nat}{kp pos pos':Pos}{fv:ym}(hu:X.A.units+1<cLine)(ho:SP X o i π)(hv:MC X v fv)(hs:swapsWith v (some (.Subscript o (.Constant (.str k) kk kp) pos')) pos.line X.env=pure false:=by rfl):MS X np (.Assign [.Subscript o (.Constant (.str k) kk kp) pos'] v pos) (Uv i π k fv):=by
 obtain⟨tv,pv,kv⟩:=hv.h;obtain⟨to,po,ko⟩:=ho.h;refine⟨⟨_,OG hu po Xa pv hs,λ{P G0 H0 G H β σ fl E} hP K hf q=>?_⟩⟩;obtain⟨⟨m,β1⟩,hy,hf⟩:=zC hf;obtain⟨y,ey,hf⟩:=zC hf;cases qf ey;obtain⟨nd,hn,hf⟩:=zC hf
 split at hf
 ·rename_i ks ms
  split at hf
  ·rename_i c;rw[yC]at c;have hx:=c.1;have hl:=yy c.2;obtain⟨β2,hβ,hf⟩:=zC hf;cases hf;obtain⟨mm,hm,ha⟩:=q_ hn;refine kv K hy λw G1 H1 s1 K1=>?_
   obtain⟨r,v1,L1,Lr,er,va,o1,orr,dj,wr⟩:=K1.write K.lp hm ha;refine ko er va ?_;obtain⟨p,vs',L'',rfl,hp',l',rs',t6,nL',uL'⟩:=o1
   have ez:xc (ks.zip vs') (.inr k) w=ks.zip (ya ks vs' (.inr k) w):=by
    rw[Ww l'];unfold xf;rw[zI hx]
   have k1:∀q,q≠p->(zS H1 p (.dK (xc (ks.zip vs') (.inr k) w))) q=H1 q:=λq z=>yK z
   have rs2:OwnMs X.K G1 (zS H1 p (.dK (xc (ks.zip vs') (.inr k) w))) ms vs' L'':=OwnMs.imp (λm' _ v' L3 s o=>o.loc (zg.refl _) m' v' L3 λq z=>k1 q λc=>nL' (c▸s q z)) rs';obtain⟨L3,o3,s3⟩:=OwnMs.QH (k:=.inr k) (d:=y) (w:=w) K1.jK rs2 l'
   have em:∀{α:Type}(xs:List α)(z:α),ya ks xs (.inr k) z=List.zipWith (λk' x=>if k'=.inr k then z else x) ks xs:=λxs z=>by
    unfold ya;rw[zI hx]
   obtain⟨m',e',K5⟩:=wr (H':=zS H1 p (.dK (xc (ks.zip vs') (.inr k) w))) (m2:=.tab ks (ya ks ms (.inr k) (.fz y))) (L2:=λq=>q=p\/L3 q) (λq z=>k1 q λc=>z ((uL' q).mpr (.inl c)))
    ⟨p,ya ks vs' (.inr k) w,L3,rfl,by rw[yT,ez],by rw[em,jB,l',uI],by rw[em,em]; exact o3,by rw[em,jB,rs'.length.symm.trans l'.symm,uI]; rw[<-rs'.length,<-l']at t6; exact t6,λz=>nL' (s3 p z),λq=>t5⟩ (λq z=>by
     rcases z with rfl|z
     ·exact .inl ((uL' q).mpr (.inl rfl))
     ·exact .inl ((uL' q).mpr (.inr (s3 q z))))
   rw[jt hm e']at hβ;cases hβ;exact⟨p,_,rfl,.inl ⟨_,.inr k,hp',rfl,by rw[pA,l',uI,xM,<-l']; exact hl,rfl⟩,q _ _ _ K5⟩
  ·cases hf
 ·cases hf
end
section
variable{P:Program}{w:World}{K:W.Frag}{mg:Str->Option Value}{base:Heap}
theorem Pb{x:Str}{st:Stmt}{N:List Str}{k:Nat}{F:FM}{b:yH}{f:Addr}{fd:FuncData}(d:Fun K "law" "law" st f fd)(S:zk N [x] (zT st))(hN:1<=N.length)(hF:∀ms r,F ms=some r->ms.length=1/\vH 1 N.length b ms=some r)(hrun:∀ns:List Int,ns.length<=63->(∀m∈ns,ww m<=1048576)->∃r,F [.fz (.lst (ns.map D.int))]=some (r,.fz (.bl true)))
  (hb:∀(cdv:Value)(A:Around)(outer:List Env)(s:Shared)(H:Hp)(E:XK),yS k (A.deeper (envOfC "law" (zT st) s.heap.objs.size f cdv))->qZ (uo xB P w K mg base N "law" (zT st) f cdv A outer s H E).t9 1 (yc st) b):yz P w K mg base xB (k+1) f fd [x] (Wj K):=
 (d.v.x_ (F:=F) S hN hF hb).imp λvs H Q E h=>by
  obtain⟨a,ns,rfl,sq,l,hbits,q⟩:=h;obtain⟨r,hr⟩:=hrun ns l hbits;have rr:Reps K H [.lst (ns.map D.int)] [.ref a]:=⟨_,_,rfl,⟨a,_,rfl,sq,Reps.ints,by rw[zo]; exact vR (by omega)⟩,rfl⟩;refine eB ⟨H,_,false,.bl true,zg.refl H,rr,?_,λv G' H' _ z=>?_⟩
  ·show(F (uB [.lst (ns.map D.int)])).bind _=_;rw[show uB [.lst (ns.map D.int)]=[.fz (.lst (ns.map D.int))]from rfl,hr];rfl
  ·cases(show v=.bl true from z);exact q H'
end
def UM:D->D->Option D
 |.str x,.int j=>match decide (x.length<=16)&&(decide (0<=j)&&decide (j<=1000))with
  |true=>some (.str (Txt.mul x j))
  |false=>none
 |_,_=>none
def Cq:V->V->Hp->VK->Prop:=λx y H Q=>∃i j,x=.str i/\y=.int j/\i.length<=16/\0<=j/\j<=1000/\Q (.str (Txt.mul i j)) H
theorem F_{X:Cx}:yE X (binaryOp .Mult) Cq:=by
 intro z0 s σ H x y v u Q I rx ry h;obtain⟨i,j,rfl,rfl,h1,h2,h3,q⟩:=h;obtain⟨t,rfl⟩:=rx;obtain⟨t',rfl⟩:=ry;exact SB.mul (mulOk_of 16 1000 h1 (by omega) (by omega) (by decide) (by decide)) λt' k=>⟨.str (Txt.mul i j),H,I.tok _,⟨_,rfl⟩,q⟩
theorem Fr{K:W.Frag}:vL K Cq UM:=λG H x y u v d Q s rx ry hf q=>by
 cases x<;>first|(cases hf; done)|skip
 cases y<;>first|(cases hf; done)|skip
 rename_i i j
 change (match decide (i.length<=16)&&(decide (0<=j)&&decide (j<=1000))with|true=>some (D.str (Txt.mul i j))|false=>none)=some d at hf
 cases c:(decide (i.length<=16)&&(decide (0<=j)&&decide (j<=1000)))with
 |false=>rw[c]at hf; cases hf
 |true=>
  rw[c]at hf;cases hf;rw[yC,yC]at c;have h1:=yy c.1;have h2:=yy c.2.1;have h3:=yy c.2.2;have l:(Txt.mul i j).length<=16*1000:=len_mul_leN h1 (by omega);exact⟨i,j,rx.1,ry,h1,h2,h3,q _ _ _ (zP.refl s) ⟨rfl,by rw[xM]; omega⟩⟩
section
variable{X:Cx}{np:Nat}{scope:Scope}{cl:List (Str×Addr)}{own:List Str}{elt tg iter:Expr}{ifs:List Expr}{pos:Pos}{fs:FA}{g:TG}{fg:FG}{ft:FT}{f:FE}
theorem Dy{i:Nat}{x:Str}{px spos:Pos}(hcalm:X.calm=true)(hN:X.N.Nodup)(hix:X.N[i]?=some x)(hx:X.env.scope.names.lookup x=some .local)(B:gK X scope cl own)
  (hsw:swapsWith (.ListComp elt [⟨tg,iter,ifs,0⟩] scope pos) (some (.Name x px)) spos.line X.env=pure true)(hi:SI X tg iter fs)(hg:BG X scope cl own tg g fg)(hc:∀C s H fp pn,ZR (xo X scope cl own C s H fp pn) ifs ft)
  (he:∀C s H fp pn,SE (xo X scope cl own C s H fp pn) elt f)(hs:∀x,foldedSetIterable iter X.env x=pure x:=by intro _; rfl)(hn:np<=i:=by decide) :
  MS X np (.Assign [.Name x px] (.ListComp elt [⟨tg,iter,ifs,0⟩] scope pos) spos) (vE i (yb (wx own.length fs fg ft f))):=by
 obtain⟨ti,pi,ki⟩:=hi.h;refine⟨⟨_,CP hcalm hN hix hx B hsw pi (λC s H fp pn=>(hg.q C s H fp pn).h) (λC s H fp pn=>J2 (hc C s H fp pn)) (λC s H fp pn=>J1 (he C s H fp pn)) hs,λ{P G0 H0 G H β σ fl E} hP K hf q=>?_⟩⟩;obtain⟨⟨m,β1⟩,hf0,hf⟩:=zC hf;cases hf;obtain⟨d,hf1,hf0⟩:=zC hf0;cases hf0;obtain⟨ds,hd,hf1⟩:=zC hf1;obtain⟨out,ho,hf1⟩:=zC hf1;cases hf1;have Kh:=K.Z0;refine ki Kh hd λJ Ga Ha xa l wk=>Il wk l (K.go xa).Z0 ho (hg.k Kh.l2 Kh.l1) λys G1 H1 x1 r1 l1 p hp=>?_
 have K2:=((K.go xa).go x1).go (zP.lay (o:=.lst ys) x1.gh hp);exact q _ _ _ (K2.Yt (yD.mp hix).1 (by omega) ⟨p,ys,rfl,yI.of yT,r1.mono (wz (x1.gh.free hp) _),l1⟩)
end
theorem iadd_list_road{M:Model}{A:Around}{E:Value->Shared->Prop}{s:Shared}{a b:Value}{Q:Value->Shared->Prop}(ha:s.TypeIs a "list")(hb:s.TypeIs b "list")(hc:wpAny M A (call (.builtin "list.__iadd__") [a,b]) Q E s):wpAny M A (inplaceOp .Add a b) Q E s:=by
 have hl:=F.slot_list_iadd.lookup;unfold inplaceOp;refine gE ?_
 have hfi:fillsInplaceSlot (.type "list") "add" (Operator.Add == .Add)=pure false:=by
  unfold fillsInplaceSlot;show(typeLookup (.type "list") (dunderI "add") >>= λfi=>pure (fi.isSome&&!isSeqSlot fi))=pure false;rw[hl];show(pure (true&&!isSeqSlot (some (.builtin "list.__iadd__"))):Sem Bool)=_;rw[show isSeqSlot (some (.builtin "list.__iadd__"))=true by decide +kernel];rfl
 have hsi:seqSlot? (.type "list") (dunderI "add")=pure (some (.builtin "list.__iadd__")):=PySem.seqSlot_of hl (by decide +kernel);refine zO (Q6 ha (zO (wpAny_of_eq hfi ?_)));show wpAny M A (if false=true then _ else _) Q E s;rw[zK xO];refine zO (wpAny_binaryOp1_none (nm := "add") ha hb noFill_list_add ?_);refine zO (wpAny_of_eq hsi ?_);exact zO (Q5 hc)
end L3
namespace L2
open PySem PySem.Spec PyProof PyProof.Rows
open PySem.AutoSeq1 in
theorem Pg(l:Addr)(items:Array Value)(n:Nat)(b:Addr)(items2:Array Value)(n2:Nat)(d2:Option Addr)(sl2:Array (Option Value))(hs0:¬(!items.isEmpty&&Builtin.List.listTooLong (items.size+items2.size))=true)(hs1:items.size<=sizeLine)(hs2:items.size+items2.size<=sizeLine+1) :
  Meets (Builtin.«list.__iadd__» ⟨[.ref l,.ref b],[]⟩) (λ_ R s=>s.heap.get? l=some { cls:=.type "list",dict:=none,data:=.seq items n,slots:=#[] }/\s.heap.get? b=some { cls:=.type "list",dict:=d2,data:=.seq items2 n2,slots:=sl2 }/\R (.ok (.ret (Value.ref l))) { s with heap:=s.heap.update l (Obj.mapSeq λx=>x++items2),toks:=s.toks }):=
 .of_wp λprog w A R s h=>by
  obtain⟨hp,g,d,tk,os⟩:=s;obtain⟨hl,hb,h⟩:=h;have f1:=idx_int; have f2:=AutoSeq1.sub_tuple_tuple; have f3:=AutoSeq1.sub_list_list; have f4:=AutoSeq1.sub_tuple_list; have f5:=AutoSeq1.sub_list_tuple;have hz':(items++items2).size<=sizeLine+1:=by rw[Array.size_append]; exact hs2
  wp_walk using(wpAny_updateSeq hl rfl (hz:=hs1) (_hz':=hz')),wpAny_loadPart' hl,wpAny_loadPart' hb
  exact⟨_,rfl,h⟩
def al(K:W.Frag):ZT:=λx y H Q=>∃l b xs zs,x=.ref l/\y=.ref b/\H l=some (.lst xs)/\yI K H b zs/\xs.length+zs.length<=sizeLine/\Q (.ref l) (zS H l (.lst (xs++zs)))
theorem Np{X:Cx}:VZ X .Add (al X.K):=by
 intro z0 s σ H x y v u Q I rx ry h;obtain⟨l,b,xs,zs,rfl,rfl,hH,hB,hz,q⟩:=h;cases rx;cases ry;obtain⟨z,its,n,r,hl,e⟩:=I.QB hH;obtain⟨its2,r2,p2,_⟩:=I.list hB;obtain⟨⟨c2,d2,t2,sl2⟩,n2,ho2,hc2,hd2,ht2⟩:=p2;simp only at hc2 ht2;subst hc2 ht2;have hl2:=r2.length;have hsz:its.toArray.size+its2.toArray.size<=sizeLine:=by rw[yP,yP]; omega
 have hlong:¬ (!its.toArray.isEmpty&&Builtin.List.listTooLong (its.toArray.size+its2.toArray.size))=true:=by
  rw[FW hsz,Bool.and_false];exact xO
 refine L3.iadd_list_road ⟨_,e,rfl⟩ ⟨_,ho2,rfl⟩ (Ym F.slot_list_iadd ⟨_,e,rfl⟩ F.entry_list_iadd (F.args_list_iadd_2 _ _)
  (Pg l its.toArray n b its2.toArray n2 d2 sl2 hlong (by rw[yP]; omega) (by omega)) ⟨e,ho2,?_⟩)
 refine⟨.ref l,_,I.MK (its':=its++its2) hH e (by simp) (r.append r2) ?_,rfl,q⟩;rw[yL];omega
end L2
namespace L3
open PySem PySem.Spec PyProof PyProof.Rows L2
section
variable{X:Cx}{x:Str}{pos pos':Pos}{e:Expr}{f:FE}{i:Nat}
theorem dU{α:Type}{xs:List α}{i:Nat}{v:α}(h:xs[i]?=some v):xs.set i v=xs:=by
 obtain⟨hi,rfl⟩:=yD.mp h;exact List.set_getElem_self hi
theorem EX(hN:X.N.Nodup)(hi:X.N[i]?=some x)(hx:tH X.env.scope x)(he:SE X e f)(hf:X.fn x=true\/X.env.scope.names.lookup x=some .local:=by first|exact .inl rfl|exact .inr rfl|assumption) :
  SS X (.AugAssign (.Name x pos') .Add e pos) (Xg i f):=by
 obtain⟨t,pt,k⟩:=he.h;refine⟨⟨_,CL hN hi hx pt Np hf,λ{G0 H0 G H τ σ fl E} K hf q=>?_⟩⟩;unfold Xg at hf
 split at hf
 ·rename_i xs hd;obtain⟨y,hy,hf⟩:=zC hf;cases y with
  |lst ys=>
   change (if xs.length+ys.length<=yR then some (Fl.nx (τ.set i (some (true,.lst (xs++ys)))))else none)=some fl at hf
   by_cases c:xs.length+ys.length<=yR
   ·rw[zI c]at hf;cases hf;obtain⟨aa,ea,g,z,vs,ev,rs,l⟩:=K.ow _ _ hd;refine⟨_,ea,k K hy λu G1 H1 x1 r1=>?_⟩;obtain⟨b,zs,rfl,sq,rz,_⟩:=r1;refine⟨aa,b,vs,zs,rfl,rfl,x1.h _ _ ev,wl x1.gh sq,by rw[rs.length,rz.length,xM]; exact c,?_⟩
    change E.nx (List.set σ i (some (V.ref aa))) _
    rw[dU ea];refine q _ _ _ ((K.go x1).VJ hd ea ⟨_,yT,(rs.mono x1.g).append rz,?_⟩);rw[xM,yL]; exact c
   ·rw[zK c]at hf;cases hf
  |_=>cases hf
 ·cases hf
end
end L3
local macro_rules
 | `(tactic| simp![$ls,*])=>`(tactic| simp only[L3.shx,Nat.reduceAdd,Nat.reduceSub,Int.reduceLT,Int.reduceLE,Int.reducePow,Int.reduceToNat,Int.reduceAdd,Int.reduceSub,Int.reduceMul,Int.reduceNeg,$ls,*])
namespace L3
open PySem
def Kq:List D:=[(.int 0),(.int 8),(.int 16),(.int 24)]
def XJ:D:=.tup Kq
def UW:List D:=[(.str "carry"),(.str "nought"),(.str "sign")]
def g_:D:=.tup UW
def Kr:List D:=[(.str "jump"),(.str "when"),(.str "unless")]
def UZ:D:=.tup Kr
theorem Ii{g:FG}{c:FT}{e:FE}{σ:zi}(p:D->Bool)(v:D->D):∀{ds:List D},(∀d∈ds,∃σ1,g d σ=some σ1/\c σ1=some (p d)/\(p d=true->e σ1=some (v d)))->xq g c e σ ds=some ((ds.filter p).map v)
 | [],_=>rfl
 |d::ds,h=>by
  obtain⟨σ1,e1,e2,e3⟩:=h d (yr ..);have ih:=Ii p v (ds:=ds) λx hx=>h x (xP _ hx)
  show(g d σ).bind _=_;rw[e1];show(c σ1).bind _=_;rw[e2];cases hp:p d with
  |false=>
   rw[GO (by rw[hp]; decide)];exact ih
  |true=>
   rw[Lk hp];show(e σ1).bind _=_;rw[e3 hp];show(xq g c e σ ds).bind _=_;rw[ih];rfl
theorem Ik{g:FG}{e:FE}{σ:zi}(v:D->D){ds:List D}(h:∀d∈ds,∃σ1,g d σ=some σ1/\e σ1=some (v d)):xq g wK e σ ds=some (ds.map v):=by
 have:=Ii (g:=g) (c:=wK) (e:=e) (σ:=σ) (λ_=>true) v (ds:=ds) λd hd=>by
  obtain⟨σ1,a,b⟩:=h d hd;exact⟨σ1,a,rfl,λ_=>b⟩
 rw[this,GP.mpr (λ_ _=>rfl)]
inductive Z6(R:D->D->Prop):List D->List D->Prop
 |nil:Z6 R [] []
 |cons {x y:D} {xs ys:List D}:R x y->Z6 R xs ys->Z6 R (x::xs) (y::ys)
theorem Di{g:FG}{e:FE}{σ:zi}(R:D->D->Prop):∀{ds:List D},(∀d∈ds,∃σ1 x,g d σ=some σ1/\e σ1=some x/\R d x)->∃xs,xq g wK e σ ds=some xs/\Z6 R ds xs
 | [],_=>⟨[],rfl,.nil⟩
 |d::ds,h=>by
  obtain⟨σ1,x,e1,e2,r⟩:=h d (yr ..);obtain⟨xs,ih,rs⟩:=Di R (ds:=ds) λx hx=>h x (xP _ hx)
  refine⟨x::xs,?_,.cons r rs⟩;show(g d σ).bind _=_;rw[e1];show(e σ1).bind _=_;rw[e2];show(xq g wK e σ ds).bind _=_;rw[ih];rfl
theorem L4{n i:Nat}{d:D}(h:(v7 n)[i]?=some d):i<n/\d=.int (i:Int):=by
 have hi:i<n:=by
  have:=(yD.mp h).1;simpa using this
 refine⟨hi,?_⟩;simp[hi]at h;exact h.symm
def pV:Nat->D->Bool
 |0,_=>false
 |n+1,.tup xs=>xs.all (pV n)
 |n+1,.lst xs=>xs.all (pV n)
 |_+1,d=>yu d
theorem J8{f:D->D->Bool}:∀{xs:List D},(∀x∈xs,f x x=true)->um f xs xs=true
 | [],_=>rfl
 |x::xs,h=>by
  show(f x x&&um f xs xs)=true;rw[h x (yr ..),J8 λy hy=>h y (xP _ hy)];rfl
theorem JC:∀{xs:List D},(∀x∈xs,yn x x=true)->dEqs xs xs=true
 | [],_=>by unfold dEqs; rfl
 |x::xs,h=>by
  unfold dEqs;rw[h x (yr ..),JC λy hy=>h y (xP _ hy)];rfl
theorem XX:∀(n:Nat)(d:D),pV n d=true->vB n d d=true/\yn d d=true
 |0,_,h=>by cases h
 |n+1,d,h=>by
  cases d with
  |tup xs=>
   have h':∀x∈xs,pV n x=true:=ud.mp h;exact⟨J8 λx hx=>(XX n x (h' x hx)).1,by unfold yn; exact JC λx hx=>(XX n x (h' x hx)).2⟩
  |lst xs=>
   have h':∀x∈xs,pV n x=true:=ud.mp h;exact⟨J8 λx hx=>(XX n x (h' x hx)).1,by unfold yn; exact JC λx hx=>(XX n x (h' x hx)).2⟩
  |dic ks vs=>cases h
  |exc _=>cases h
  |obj _ _ _=>cases h
  |zF=>exact⟨rfl,by unfold yn; rfl⟩
  |bl b=>exact⟨rfl,by unfold yn; exact jG b⟩
  |int i=>exact⟨rfl,by unfold yn; exact jG i⟩
  |str z=>exact⟨rfl,by unfold yn; exact jG z⟩
theorem lJ{d:D}(h:pV 6 d=true):jf d d=some true:=by
 obtain⟨h1,h2⟩:=XX 6 d h
 have e:jf d d=match vB 6 d d with
  |true=>some (yn d d)
  |false=>none:=by cases d<;>rfl
 rw[e,h1,h2]
theorem Uj{i j:Int}(h:i=j):zh (.int i) (.int j)=some (.bl true):=by
 subst h;show some (D.bl (i==i))=_;rw[jG]
theorem kD{i j:Int}(h:i≠j):zh (.int i) (.int j)=some (.bl false):=by
 show some (D.bl (i==j))=_;rw[jF.mpr h]
theorem add_int{i j:Int}:y_ (.int i) (.int j)=some (.int (i+j)):=rfl
theorem Kk{α:Type}{k:Sum Int Str}{v:α}:∀{ks:List (Sum Int Str)} {vs:List α},ks.length=vs.length->∀k',getK (xf ks k) (ya ks vs k v) k'=if k=k' then some v else getK ks vs k':=by
 have one:∀{ks:List (Sum Int Str)} {vs:List α},ks.length=vs.length->∀k',xR ks k=true->getK ks (List.zipWith (λk' x=>if k'=k then v else x) ks vs) k'=if k=k' then some v else getK ks vs k':=by
  intro ks
  induction ks with
  |nil=>intro vs _ k' h; cases h
  |cons a ks ih=>
   intro vs hl k' h;cases vs with
   |nil=>cases hl
   |cons b vs=>
    rw[Yj];unfold getK;by_cases e1:a=k
    ·subst e1;by_cases e2:a=k'
     ·rw[zI e2,zI e2,zI rfl]
     ·rw[zK e2,zK e2,zK e2];by_cases e3:xR ks a=true
      ·have:=ih (vs:=vs) (by simpa using hl) k' e3;rw[this,zK e2]
      ·have:∀{ks:List (Sum Int Str)} {vs:List α},ks.length=vs.length->xR ks a=false->getK ks (List.zipWith (λk' x=>if k'=a then v else x) ks vs) k'=getK ks vs k':=by
        intro ks
        induction ks with
        |nil=>intro vs _ _; rfl
        |cons a' ks ih'=>
         intro vs hl h;cases vs with
         |nil=>cases hl
         |cons b vs=>
          have h2:decide (a'=a)=false/\xR ks a=false:=by
           have:(decide (a'=a)||xR ks a)=false:=h;exact GH.mp this
          rw[Yj];unfold getK;rw[zK (Gc h2.1),ih' (by simpa using hl) h2.2]
       exact this (by simpa using hl) (by simpa using e3)
    ·have h2:xR ks k=true:=by
      have:(decide (a=k)||xR ks k)=true:=h;rw[xE e1]at this;exact this
     have:=ih (vs:=vs) (by simpa using hl) k' h2;rw[this,zK e1];by_cases e2:a=k'
     ·rw[zI e2];rw[zK (λe=>e1 (e2.trans e.symm)),zI e2]
     ·rw[zK e2];by_cases e3:k=k'
      ·rw[zI e3,zI e3]
      ·rw[zK e3,zK e3,zK e2]
 intro ks vs hl k';unfold xf ya;by_cases h:xR ks k=true
 ·rw[zI h,zI h];exact one hl k' h
 ·rw[zK h,zK h];clear one
  induction ks generalizing vs with
  |nil=>
   cases vs with
   |nil=>rfl
   |cons _ _=>cases hl
  |cons a ks ih=>
   cases vs with
   |nil=>cases hl
   |cons b vs=>
    have h2:¬ a=k/\¬ xR ks k=true:=by
     have:¬ (decide (a=k)||xR ks k)=true:=h
     constructor
     ·intro e; exact this (by rw[yQ e]; rfl)
     ·intro e; exact this (by rw[e,Bool.or_true])
    rw[YZ,YZ];show(if a=k' then some b else getK (ks++[k]) (vs++[v]) k')=if k=k' then some v else if a=k' then some b else getK ks vs k'
    rw[ih (by simpa using hl) h2.2];by_cases e:a=k'
    ·rw[zI e,zI e];rw[zK (λe'=>h2.1 (e.trans e'.symm))]
    ·rw[zK e,zK e]
theorem AK(x:Int)(w:Nat):Builtin.bitAnd x ((1:Int)*2 ^ w-1)=x%2 ^ w:=by
 rw[LZ,W.kbt_mask]
theorem b0(a:Nat):decide ((0:Int)<=(a:Int))=true:=yQ (YX a)
def Mt:FS:=
 (zx (xr (tE (e2 (wO λi j=>decide (i<j)) (z6 1) (eL uT (z8 (z6 0) zJ))))
   (yX (e2 zE (z6 0) (z6 1)))
   wf)
  (yX (eC (.int 0))))
theorem Nj(ns:List Int)(k:Nat):(ns.map D.int)[k]?=(ns[k]?).map D.int:=vh
def vX(ns:List Int)(k:Int):Int:=ns.getD k.toNat 0
def tz:List D->Option (Bool×D)
 | [.lst xs,.int k]=>if 0<=k then((xs[k.toNat]?).getD (.int 0) |> λd=>some (false,d))else none
 |_=>none
theorem X9(ns:List Int){k:Int}(h:0<=k):tz [.lst (ns.map D.int),.int k]=some (false,.int (vX ns k)):=by
 show(if 0<=k then _ else _)=_;rw[zI h,Nj];unfold vX;rw[ue];cases ns[k.toNat]?<;>rfl
theorem bW:∀ds r,tz ds=some r->ds.length=2/\zj 2 Mt ds=some r:=λds r h=>by
 unfold tz at h
 split at h
 ·rename_i xs k;refine⟨rfl,?_⟩;by_cases h0:0<=k
  ·rw[zI h0]at h;cases h;unfold Mt;by_cases c:k<(xs.length:Int)
   ·have e:zE (.lst xs) (.int k)=some ((xs[k.toNat]?).getD (.int 0)):=by
     show wb xs k=_;unfold wb;rw[zI h0,xD (by omega)];rfl
    simp![yQ c,e]
   ·have e:xs[k.toNat]?=none:=V0 (by omega);simp![xE c,e,Option.getD]
  ·rw[zK h0]at h;cases h
 ·cases h
theorem lH{i:Int}{m:Nat}(h:ww i<=m):i.natAbs<2 ^ m:=by
 by_cases c:i=0
 ·subst c;exact Nat.pow_pos (by decide)
 ·have e:ww i=i.natAbs.log2+1:=by
   show(if(i==0)=true then 0 else i.natAbs.log2+1)=_;rw[zK (by simpa using c)]
  exact(V8 (by omega)).mp (by omega)
theorem HW{i:Int}{m:Nat}(h:i.natAbs<2 ^ m):ww i<=m:=by
 by_cases c:i=0
 ·subst c;exact vi _
 ·have e:ww i=i.natAbs.log2+1:=by
   show(if(i==0)=true then 0 else i.natAbs.log2+1)=_;rw[zK (by simpa using c)]
  rw[e];exact(V8 (by omega)).mpr h
def Mx:FS:=
 (yX (e2 (qi Builtin.bitAnd) (e2 UQ (z6 0) (z6 1)) (e2 qk (e2 qj (eC (.int 1)) (z6 2)) (eC (.int 1)))))
def wt:List D->Option (Bool×D):=FR 3 3 Mx
theorem bu:∀ds r,wt ds=some r->ds.length=3/\zj 3 Mx ds=some r:=yU
def Vl:FS:=
 (zx (xW 3 (e2 y_ (e2 y_ (z6 0) (z6 1)) (qB (tE (z6 2)) (eC (.int 1)) (eC (.int 0)))))
  (yX (wR (z8 (e2 wF (z6 3) (eC (.int 4294967296))) (z8 (e2 (wO λi j=>decide (j<=i)) (z6 3) (eC (.int 4294967296))) zJ)))))
def gS:List D->Option (Bool×D):=FR 3 4 Vl
theorem bG:∀ds r,gS ds=some r->ds.length=3/\zj 4 Vl ds=some r:=yU
theorem N2(x0 x1 x2:D):gS [x0,x1,x2]=zj 4 Vl [x0,x1,x2]:=rfl
def U5:FS:=
 (zx (xW 3 (e2 qk (e2 qk (z6 0) (z6 1)) (qB (tE (z6 2)) (eC (.int 1)) (eC (.int 0)))))
  (zx (xr (tE (e2 (wO λi j=>decide (i<j)) (z6 3) (eC (.int 0))))
   (yX (wR (z8 (e2 y_ (z6 3) (eC (.int 4294967296))) (z8 (eC (.bl true)) zJ))))
   wf)
  (yX (wR (z8 (z6 3) (z8 (eC (.bl false)) zJ))))))
def gb:List D->Option (Bool×D):=FR 3 4 U5
theorem b_:∀ds r,gb ds=some r->ds.length=3/\zj 4 U5 ds=some r:=yU
theorem NV(x0 x1 x2:D):gb [x0,x1,x2]=zj 4 U5 [x0,x1,x2]:=rfl
def Mv:FS:=
 (zx (xW 2 (e2 qj (z6 0) (z6 1)))
  (zx (xW 3 (qB (tE (e2 zh (z6 1) (eC (.int 0)))) (eC .zF) (e2 zh (zp wt (z8 (z6 2) (z8 (eC (.int 32)) (z8 (eC (.int 1)) zJ)))) (eC (.int 1)))))
  (yX (wR (z8 (zp wt (z8 (z6 2) (z8 (eC (.int 0)) (z8 (eC (.int 32)) zJ)))) (z8 (z6 3) zJ))))))
def VO:List D->Option (Bool×D):=FR 2 4 Mv
theorem bq:∀ds r,VO ds=some r->ds.length=2/\zj 4 Mv ds=some r:=yU
def Mw:FS:=
 (zx (xW 2 (qB (tE (e2 zh (z6 1) (eC (.int 0)))) (eC .zF) (e2 zh (zp wt (z8 (z6 0) (z8 (e2 qk (z6 1) (eC (.int 1))) (z8 (eC (.int 1)) zJ)))) (eC (.int 1)))))
  (yX (wR (z8 (e2 UQ (z6 0) (z6 1)) (z8 (z6 2) zJ)))))
def VP:List D->Option (Bool×D):=FR 2 3 Mw
theorem br:∀ds r,VP ds=some r->ds.length=2/\zj 3 Mw ds=some r:=yU
def Mz:FS:=
 (zx (xW 4 (e2 qj (e2 qk (e2 qj (eC (.int 1)) (z6 2)) (eC (.int 1))) (z6 1)))
  (yX (e2 (qi Builtin.bitOr) (e2 (qi Builtin.bitAnd) (z6 0) (e1 Bp (z6 4))) (e2 qj (z6 3) (z6 1)))))
def VQ:List D->Option (Bool×D):=FR 4 5 Mz
theorem cB:∀ds r,VQ ds=some r->ds.length=4/\zj 5 Mz ds=some r:=yU
def iu:FE:=(zp wt (z8 (z6 0) (z8 (z6 1) (z8 (eC (.int 8)) zJ))))
def Mq:FS:=
 (yX (eL Zf (z8 (wx 1 (uC (eC XJ)) (yh 1) wK iu) zJ)))
def VL:List D->Option (Bool×D):=FR 1 1 Mq
theorem bM:∀ds r,VL ds=some r->ds.length=1/\zj 1 Mq ds=some r:=yU
def lA:FE:=(e2 qj (z6 1) (z6 2))
def B0:FS:=
 (yX (eL Br (z8 (wx 2 (XM (z6 0) (eC XJ)) (qF 1 2) wK lA) zJ)))
def VS:List D->Option (Bool×D):=FR 1 1 B0
theorem cD:∀ds r,VS ds=some r->ds.length=1/\zj 1 B0 ds=some r:=yU
def Mp:FS:=
 (yX (Bg (z6 0) (z6 1) (eC (.int 0))))
def ZA:List D->Option (Bool×D):=FR 2 2 Mp
theorem bK:∀ds r,ZA ds=some r->ds.length=2/\zj 2 Mp ds=some r:=yU
def Mo:FS:=
 (yX (zp wt (z8 (e2 y_ (z6 0) (z6 1)) (z8 (eC (.int 0)) (z8 (eC (.int 16)) zJ)))))
def Z9:List D->Option (Bool×D):=FR 2 2 Mo
theorem bJ:∀ds r,Z9 ds=some r->ds.length=2/\zj 2 Mo ds=some r:=yU
def iz:FE:=(zp Z9 (z8 (z6 0) (z8 (z6 1) zJ)))
def Mr:FS:=
 (qN (wx 1 (vp (eC (.int 0)) (eC (.int 4))) (yh 1) wK iz))
def ZB:List D->Option (Bool×D):=FR 1 1 Mr
theorem bN:∀ds r,ZB ds=some r->ds.length=1/\zj 1 Mr ds=some r:=yU
def i_:FE:=(zp ZA (z8 (z6 0) (z8 (z6 2) zJ)))
def M_:FS:=
 (yX (zp VS (z8 (wx 1 (uC (vo ZB (z8 (z6 1) zJ))) (yh 2) wK i_) zJ)))
def VR:List D->Option (Bool×D):=FR 2 2 M_
theorem cC:∀ds r,VR ds=some r->ds.length=2/\zj 2 M_ ds=some r:=yU
def HS:yH:=
 (jm 0 [] (z6 1) (yb (zp wt (z8 (z6 2) (z8 (eC (.int 0)) (z8 (eC (.int 8)) zJ))))))
def Yy:FM:=w6 3 3 HS
def PU:yH:=(uU (u8 Yy (u7 0 [] (wX (z6 3) (wX (z6 4) wY)))))
def HU:yH:=
 (XT (XM (vo ZB (z8 (z6 1) zJ)) (zp VL (z8 (z6 2) zJ))) (Zv 3 4)
   PU)
def QW:FM:=w6 3 5 HU
def G9:FE:=(wR (z8 (z6 3) (z8 (eC (.bl false)) zJ)))
def Qv:yH:=
 (yN (uV 0 [] ["State"] "words" (jc (eL qC (z8 (z6 1) zJ))))
  (yN (uV 0 [] ["State"] "truths" (jc (eL UK (z8 (wx 1 (uC (eC g_)) (yh 3) wK G9) zJ))))
  (uV 0 [] ["State"] "held" (jc (eL UJ (z8 (z6 2) zJ))))))
def Z8:FM:=w6 3 3 Qv
theorem N1(x0 x1 x2:M):Z8 [x0,x1,x2]=vH 3 3 Qv [x0,x1,x2]:=rfl
def HP:yH:=
 (uw 0 [.at ["State"] "words"] (e2 zE (z6 1) (eC (.int 1))) (yb (e2 zE (z6 1) (eC (.int 2)))))
def QT:FM:=w6 2 2 HP
def HK:yH:=
 (uw 0 [.at ["State"] "words"] (e2 zE (z6 1) (eC (.int 1))) (uR (zp VQ (z8 (e2 zE (e1 (yk ["State"] "words") (z6 0)) (e2 zE (z6 1) (eC (.int 1)))) (z8 (eC (.int 16)) (z8 (eC (.int 16)) (z8 (e2 zE (z6 1) (eC (.int 2))) zJ)))))))
def QP:FM:=w6 2 2 HK
def HJ:yH:=
 (uw 0 [.at ["State"] "words"] (e2 zE (z6 1) (eC (.int 1))) (uR (e2 zE (e1 (yk ["State"] "words") (z6 0)) (e2 zE (z6 1) (eC (.int 2))))))
def QO:FM:=w6 2 2 HJ
def jb:FS:=
 (zx (xr (tE (e2 zh (z6 0) (eC (.str "add"))))
   (yX (zp gS (z8 (z6 1) (z8 (z6 2) (z8 (eC (.bl false)) zJ)))))
   wf)
  (zx (xr (tE (e2 zh (z6 0) (eC (.str "addc"))))
   (yX (zp gS (z8 (z6 1) (z8 (z6 2) (z8 (z6 3) zJ)))))
   wf)
  (yX (zp gb (z8 (z6 1) (z8 (z6 2) (z8 (Zb (z6 3) (e2 zh (z6 0) (eC (.str "subc")))) zJ)))))))
def jS:List D->Option (Bool×D):=FR 4 4 jb
theorem bw:∀ds r,jS ds=some r->ds.length=4/\zj 4 jb ds=some r:=yU
theorem XI(x0 x1 x2 x3:D):jS [x0,x1,x2,x3]=zj 4 jb [x0,x1,x2,x3]:=rfl
def Qz:yH:=
 (yN (jm 0 [.at ["State"] "truths"] (eC (.str "nought")) (yb (e2 zh (z6 1) (eC (.int 0)))))
  (jm 0 [.at ["State"] "truths"] (eC (.str "sign")) (yb (e2 zh (zp wt (z8 (z6 1) (z8 (e2 qk (eC (.int 32)) (eC (.int 1))) (z8 (eC (.int 1)) zJ)))) (eC (.int 1))))))
def pH:FM:=w6 2 2 Qz
theorem NQ(x0 x1:M):pH [x0,x1]=vH 2 2 Qz [x0,x1]:=rfl
def Vo:yH:=
 (yN (vE 2 (uR (zp jS (z8 (e2 zE (z6 1) (eC (.int 0))) (z8 (e2 zE (e1 (yk ["State"] "words") (z6 0)) (e2 zE (z6 1) (eC (.int 1)))) (z8 (e2 zE (e1 (yk ["State"] "words") (z6 0)) (e2 zE (z6 1) (eC (.int 2)))) (z8 (e2 zE (e1 (yk ["State"] "truths") (z6 0)) (eC (.str "carry"))) zJ)))))))
  (yN (jm 0 [.at ["State"] "truths"] (eC (.str "carry")) (yb (e2 zE (z6 2) (eC (.int 1)))))
  (yN (uU (u8 pH (u7 0 [] (wX (e2 zE (z6 2) (eC (.int 0))) wY))))
  (tS (qQ (tE (e2 uA (e2 zE (z6 1) (eC (.int 0))) (eC (.str "test")))))
   (uw 0 [.at ["State"] "words"] (e2 zE (z6 1) (eC (.int 1))) (yb (e2 zE (z6 2) (eC (.int 0)))))
   qJ))))
def qY:FM:=w6 2 3 Vo
theorem DE(x0 x1:M):qY [x0,x1]=vH 2 3 Vo [x0,x1]:=rfl
def Ms:FS:=
 (zx (xr (tE (e2 zh (z6 0) (eC (.str "and"))))
   (yX (e2 (qi Builtin.bitAnd) (z6 1) (z6 2)))
   wf)
  (zx (xr (tE (e2 zh (z6 0) (eC (.str "or"))))
   (yX (e2 (qi Builtin.bitOr) (z6 1) (z6 2)))
   wf)
  (yX (e2 (qi Builtin.bitXor) (z6 1) (z6 2)))))
def VN:List D->Option (Bool×D):=FR 3 3 Ms
theorem bT:∀ds r,VN ds=some r->ds.length=3/\zj 3 Ms ds=some r:=yU
def HI:yH:=
 (yN (vE 2 (uR (zp VN (z8 (e2 zE (z6 1) (eC (.int 0))) (z8 (e2 zE (e1 (yk ["State"] "words") (z6 0)) (e2 zE (z6 1) (eC (.int 1)))) (z8 (e2 zE (e1 (yk ["State"] "words") (z6 0)) (e2 zE (z6 1) (eC (.int 2)))) zJ))))))
  (yN (uU (u8 pH (u7 0 [] (wX (z6 2) wY))))
  (uw 0 [.at ["State"] "words"] (e2 zE (z6 1) (eC (.int 1))) (yb (z6 2)))))
def Yx:FM:=w6 2 3 HI
def HN:yH:=
 (yN (vE 2 (uR (e2 zE (e1 (yk ["State"] "words") (z6 0)) (e2 zE (z6 1) (eC (.int 1))))))
  (yN (vE 3 (yb (qB (tE (e2 zh (e2 zE (z6 1) (eC (.int 0))) (eC (.str "left")))) (zp VO (z8 (z6 2) (z8 (e2 zE (z6 1) (eC (.int 2))) zJ))) (zp VP (z8 (z6 2) (z8 (e2 zE (z6 1) (eC (.int 2))) zJ))))))
  (yN (tS (qQ (tE (e2 JW (e2 zE (z6 3) (eC (.int 1))) (eC .zF))))
   (jm 0 [.at ["State"] "truths"] (eC (.str "carry")) (yb (e2 zE (z6 3) (eC (.int 1)))))
   qJ)
  (yN (uU (u8 pH (u7 0 [] (wX (e2 zE (z6 3) (eC (.int 0))) wY))))
  (uw 0 [.at ["State"] "words"] (e2 zE (z6 1) (eC (.int 1))) (yb (e2 zE (z6 3) (eC (.int 0)))))))))
def VM:FM:=w6 2 4 HN
def Mn:FS:=
 (yX (zp Z9 (z8 (e2 zE (e1 (yk ["State"] "words") (z6 0)) (e2 zE (z6 1) (eC (.int 2)))) (z8 (e2 zE (z6 1) (eC (.int 3))) zJ))))
def qX:List D->Option (Bool×D):=FR 2 2 Mn
theorem bI:∀ds r,qX ds=some r->ds.length=2/\zj 2 Mn ds=some r:=yU
def HL:yH:=
 (uw 0 [.at ["State"] "words"] (e2 zE (z6 1) (eC (.int 1))) (uR (zp ZA (z8 (e1 (yk ["State"] "held") (z6 0)) (z8 (zp qX (z8 (z6 0) (z8 (z6 1) zJ))) zJ)))))
def QQ:FM:=w6 2 2 HL
def HM:yH:=
 (uw 0 [.at ["State"] "words"] (e2 zE (z6 1) (eC (.int 1))) (uR (zp VR (z8 (e1 (yk ["State"] "held") (z6 0)) (z8 (zp qX (z8 (z6 0) (z8 (z6 1) zJ))) zJ)))))
def QR:FM:=w6 2 2 HM
def HQ:yH:=
 (uU (u8 Yy (u7 0 [.at ["State"] "held"] (ZU (zp qX (z8 (z6 0) (z8 (z6 1) zJ))) (ZU (e2 zE (e1 (yk ["State"] "words") (z6 0)) (e2 zE (z6 1) (eC (.int 1)))) wY)))))
def QU:FM:=w6 2 2 HQ
def HR:yH:=
 (uU (u8 QW (u7 0 [.at ["State"] "held"] (ZU (zp qX (z8 (z6 0) (z8 (z6 1) zJ))) (ZU (e2 zE (e1 (yk ["State"] "words") (z6 0)) (e2 zE (z6 1) (eC (.int 1)))) wY)))))
def QV:FM:=w6 2 2 HR
def je:List (Sum Int Str):=List.map .inr ["set", "high", "copy", "add", "addc", "sub", "subc", "test", "and", "or", "xor", "left", "right", "load", "loadw", "store", "storew"]
def Bc:List Str:=["do_set", "do_high", "do_copy", "do_sum", "do_sum", "do_sum", "do_sum", "do_sum", "do_bits", "do_bits", "do_bits", "do_move", "do_move", "do_load", "do_loadw", "do_store", "do_storew"]
def BY:List FM:=[QT,QP,QO,qY,qY,qY,qY,qY,Yx,Yx,Yx,VM,VM,QQ,QR,QU,QV]
def Vn:yH:=
 (tS (qQ (tE (e1 (XD je) (e2 zE (z6 1) (eC (.int 0))))))
   (uU (J5 je BY (e2 zE (z6 1) (eC (.int 0))) (u7 0 [] (wX (z6 1) wY))))
   qJ)
def jP:FM:=w6 2 2 Vn
theorem DD(x0 x1:M):jP [x0,x1]=vH 2 2 Vn [x0,x1]:=rfl
def Mu:FS:=
 (zx (xr (tE (e2 zh (e2 zE (z6 1) (eC (.int 0))) (eC (.str "when"))))
   (yX (e2 zE (e1 (yk ["State"] "truths") (z6 0)) (e2 zE (z6 1) (eC (.int 1)))))
   wf)
  (zx (xr (tE (e2 zh (e2 zE (z6 1) (eC (.int 0))) (eC (.str "unless"))))
   (yX (UF (e2 zE (e1 (yk ["State"] "truths") (z6 0)) (e2 zE (z6 1) (eC (.int 1))))))
   wf)
  (yX (e2 zh (e2 zE (z6 1) (eC (.int 0))) (eC (.str "jump"))))))
def ga:List D->Option (Bool×D):=FR 2 2 Mu
theorem bm:∀ds r,ga ds=some r->ds.length=2/\zj 2 Mu ds=some r:=yU
def Vi:FS:=
 (yX (UG (e2 zh (e1 (yk ["RowMachine"] "due") (z6 0)) (e1 (yk ["RowMachine"] "end") (z6 0))) (e2 zh (e2 zE (e2 zE (e1 (yk ["RowMachine"] "table") (z6 0)) (e1 (yk ["RowMachine"] "due") (z6 0))) (eC (.int 0))) (wR (z8 (eC (.str "stop")) zJ)))))
def u4:List D->Option (Bool×D):=FR 1 1 Vi
theorem bE:∀ds r,u4 ds=some r->ds.length=1/\zj 1 Vi ds=some r:=yU
theorem Kz(x0:D):u4 [x0]=zj 1 Vi [x0]:=rfl
def Vj:yH:=
 (yN (tS (qQ (tE (zp u4 (wZ "RowMachine" "stands" (z6 0) zJ))))
   (qw (yb (eC (.bl false))))
   qJ)
  (yN (vE 1 (uR (e2 zE (e1 (yk ["RowMachine"] "table") (z6 0)) (e1 (yk ["RowMachine"] "due") (z6 0)))))
  (yN (uU (u8 jP (u7 0 [.at ["RowMachine"] "state"] (wX (e2 zE (z6 1) (eC (.int 0))) wY))))
  (yN (uV 0 [] ["RowMachine"] "due" (uR (qB (tE (zp ga (z8 (e1 (yk ["RowMachine"] "state") (z6 0)) (z8 (e2 zE (z6 1) (eC (.int 0))) zJ)))) (e2 zE (z6 1) (eC (.int 2))) (e2 zE (z6 1) (eC (.int 1))))))
  (yN (Iu 0 [] ["RowMachine"] "done" (eC (.int 1)))
  (qw (yb (eC (.bl true)))))))))
def qW:FM:=w6 1 2 Vj
theorem DC(x0:M):qW [x0]=vH 1 2 Vj [x0]:=rfl
abbrev tJ:List (Sum Int Str):=[.inr "carry",.inr "nought",.inr "sign"]
def j_(a b c:Bool):D:=.dic tJ [.bl a,.bl b,.bl c]
def st(ws:List D)(a b c:Bool)(hk:List (Sum Int Str))(hv:List D):M:=.obj "State" ["words", "truths", "held"] [.own (.lst ws),.own (j_ a b c),.own (.dic hk hv)]
def uq(ws:List D)(a b c:Bool)(hk:List (Sum Int Str))(hv:List D):D:=.obj "State" ["words", "truths", "held"] [.lst ws,j_ a b c,.dic hk hv]
abbrev gf:List Str:=["table", "end", "first_words", "first_held", "state", "due", "done"]
def wG(T:D)(e:Int)(fw fh:D)(s:M)(due done:Int):M:=.obj "RowMachine" gf [.fz T,.fz (.int e),.fz fw,.fz fh,s,.fz (.int due),.fz (.int done)]
def wQ(T:D)(e:Int)(fw fh:D)(s:D)(due done:Int):D:=.obj "RowMachine" gf [T,.int e,fw,fh,s,.int due,.int done]
section
variable{ws ws':List D}{a b c d':Bool}{hk hk':List (Sum Int Str)}{hv hv':List D}{T fw fh sd:D}{e due done:Int}{s s':M}
theorem jz:wA (st ws a b c hk hv)=uq ws a b c hk hv:=by simp only[st,uq,wA,thaws]
theorem Wr:wA (wG T e fw fh s due done)=wQ T e fw fh (wA s) due done:=by simp only[wG,wQ,wA,thaws]
theorem Mh{i:Nat}{π:List yf}:gl (st ws a b c hk hv) i π=.p i π:=rfl
theorem HG:uP (st ws a b c hk hv) [.at ["State"] "words"]=some (.own (.lst ws)):=rfl
theorem Qp:uP (st ws a b c hk hv) [.at ["State"] "truths"]=some (.own (.dic tJ [.bl a,.bl b,.bl c])):=rfl
theorem aU:uF (st ws a b c hk hv) [.at ["State"] "words"] (.own (.lst ws'))=some (st ws' a b c hk hv):=rfl
theorem OK{x y z:Bool}:uF (st ws a b c hk hv) [.at ["State"] "truths"] (.own (.dic tJ [.bl x,.bl y,.bl z]))=some (st ws x y z hk hv):=rfl
theorem Jb:yk ["State"] "words" (uq ws a b c hk hv)=some (.lst ws):=rfl
theorem JZ:yk ["State"] "truths" (uq ws a b c hk hv)=some (j_ a b c):=rfl
theorem KZ:yk ["State"] "held" (uq ws a b c hk hv)=some (.dic hk hv):=rfl
theorem Oy:zE (j_ a b c) (.str "carry")=some (.bl a):=rfl
theorem i9:zE (j_ a b c) (.str "nought")=some (.bl b):=rfl
theorem iA:zE (j_ a b c) (.str "sign")=some (.bl c):=rfl
theorem CD:xf tJ (.inr "carry")=tJ:=rfl
theorem Az:xf tJ (.inr "nought")=tJ:=rfl
theorem A_:xf tJ (.inr "sign")=tJ:=rfl
theorem Cc:ya tJ [D.bl a,.bl b,.bl c] (.inr "carry") (.bl d')=[.bl d',.bl b,.bl c]:=rfl
theorem aV:ya tJ [D.bl a,.bl b,.bl c] (.inr "nought") (.bl d')=[.bl a,.bl d',.bl c]:=rfl
theorem aW:ya tJ [D.bl a,.bl b,.bl c] (.inr "sign") (.bl d')=[.bl a,.bl b,.bl d']:=rfl
theorem Ml:uP (wG T e fw fh s due done) [.at ["RowMachine"] "state"]=some s:=rfl
theorem Ca:uF (wG T e fw fh s due done) [.at ["RowMachine"] "state"] s'=some (wG T e fw fh s' due done):=rfl
theorem Ja:yk ["RowMachine"] "table" (wQ T e fw fh sd due done)=some T:=rfl
theorem Bs:yk ["RowMachine"] "end" (wQ T e fw fh sd due done)=some (.int e):=rfl
theorem XG:yk ["RowMachine"] "state" (wQ T e fw fh sd due done)=some sd:=rfl
theorem XF:yk ["RowMachine"] "due" (wQ T e fw fh sd due done)=some (.int due):=rfl
theorem KY:yk ["RowMachine"] "done" (wQ T e fw fh sd due done)=some (.int done):=rfl
theorem Bt{d2:Int}{zn:zm}:tV (.fz (.int d2)) (some (wG T e fw fh s due done)::zn) 0 [] ["RowMachine"] "due" = some (.nx (some (wG T e fw fh s d2 done)::zn)):=rfl
theorem Mm{zn:zm}:Iu 0 [] ["RowMachine"] "done" (eC (.int 1)) (some (wG T e fw fh s due done)::zn)=some (.nx (some (wG T e fw fh s due (done+1))::zn)):=rfl
theorem Qn{m:Str}{fo:FE}{fs:FA}{τ:zi}{ds:List D}(h:fo τ=some (wQ T e fw fh sd due done))(hm:m ∉ gf)(h2:fs τ=some ds):wZ "RowMachine" m fo fs τ=some (wQ T e fw fh sd due done::ds):=by
 unfold wZ;rw[h];show(match decide (("RowMachine" : Str) = "RowMachine")&&!(decide (m∈gf))with|true=>_|false=>_)=_;rw[yQ (show("RowMachine" : Str) = "RowMachine" from rfl),xE hm];show(fs τ).bind _=_;rw[h2];rfl
end
def wI(ns:List Int):List D:=ns.map D.int
theorem G7{ns:List Int}{k:Nat}{v:Int}:(wI ns).set k (.int v)=wI (ns.set k v):=(List.map_set ..).symm
theorem Te{ns:List Int}:(wI ns).length=ns.length:=zo ..
theorem DV{n k:Nat}(h:k<n):L2.ixN n (k:Int)=some k:=by
 unfold L2.ixN;rw[zI (YX k)];simp[h]
theorem Zu{ns:List Int}{k:Nat}{v:Int}(h:ns[k]?=some v):zE (.lst (wI ns)) (.int (k:Int))=some (.int v):=by
 show wb (wI ns) (k:Int)=_;unfold wb;rw[zI (YX k)];show(wI ns)[((k:Int)).toNat]?=_;rw[p9];unfold wI;rw[vh,h];rfl
theorem Bb{T fw fh sd:D}{e due done:Int}{τ:zi}:z6 0 (some (false,wQ T e fw fh sd due done)::τ)=some (wQ T e fw fh sd due done):=rfl
theorem On{T fw fh sd row nx tg:D}{e due done:Int}{k:Bool}(h:due≠e->zE T (.int due)=some (.tup [row,nx,tg])/\zh row (.tup [.str "stop"])=some (.bl k)) :
  u4 [wQ T e fw fh sd due done]=some (false,.bl (decide (due=e)||k))\/due=e/\u4 [wQ T e fw fh sd due done]=some (false,.bl true):=by
 have e0:∀{i j:Int},zh (.int i) (.int j)=some (.bl (decide (i=j))):=λ{i j}=>by
  show some (D.bl (i==j))=_;rw[show(i==j)=decide (i=j)from rfl]
 have t0:∀{x y z:D},zE (.tup [x,y,z]) (.int 0)=some x:=rfl;rw[Kz];unfold Vi;by_cases c:due=e
 ·right
  refine⟨c,?_⟩;simp![XF,Bs,e0,c,jH]
 ·left
  obtain⟨h1,h2⟩:=h c;have c2:decide (due=e)=false:=xE c;rw[c2];simp![XF,Bs,Ja,e0,c2,h1,t0,h2];rfl
theorem Op{T fw fh row tg:D}{e due done:Int}{s s':M}{nx:D}{d2:Int}(hne:due≠e)(hT:zE T (.int due)=some (.tup [row,nx,tg]))(hs:zh row (.tup [.str "stop"])=some (.bl false))(tp:wV (.tup [row,nx,tg])=true)(ns:∀d,s≠.fz d)
  (hr:jP [s,.fz row]=some ([s',.fz row],.fz .zF))(ld:Bool)(hl:ga [wA s',row]=some (false,.bl ld))(hd:(if ld then tg else nx)=.int d2) :
  qW [wG T e fw fh s due done]=some ([wG T e fw fh s' d2 (done+1)],.fz (.bl true)):=by
 have h1:u4 [wQ T e fw fh (wA s) due done]=some (false,.bl false):=by
  rcases On (T:=T) (fw:=fw) (fh:=fh) (sd:=wA s) (row:=row) (nx:=nx) (tg:=tg) (e:=e) (due:=due) (done:=done) (k:=false) λ_=>⟨hT,hs⟩with z|⟨z,_⟩
  ·rw[z,xE hne];rfl
  ·exact absurd z hne
 have t0:∀{x y z:D},zE (.tup [x,y,z]) (.int 0)=some x:=rfl;have t1:∀{x y z:D},zE (.tup [x,y,z]) (.int 1)=some y:=rfl;have t2:∀{x y z:D},zE (.tup [x,y,z]) (.int 2)=some z:=rfl
 have hn:gl s 0 [.at ["RowMachine"] "state"]=.p 0 [.at ["RowMachine"] "state"]:=by
  cases s with
  |fz d=>exact absurd rfl (ns d)
  |_=>rfl
 have hself:∀τ:zi,wZ "RowMachine" "stands" (z6 0) zJ (some (false,wQ T e fw fh (wA s) due done)::τ)=some [wQ T e fw fh (wA s) due done]:=λτ=>Qn Bb (by decide +kernel) rfl
 rw[DC];unfold Vj;cases ld with
 |false=>
  have hd':nx=.int d2:=hd;subst hd';simp![wH,Wr,hself,h1,Ja,XF,hT,tp,t0,t1,t2,Ml,Ca,hn,hr,XG,hl,Bt,Mm]
 |true=>
  have hd':tg=.int d2:=hd;subst hd';simp![wH,Wr,hself,h1,Ja,XF,hT,tp,t0,t1,t2,Ml,Ca,hn,hr,XG,hl,Bt,Mm]
theorem Tc{x y z:D}:zE (.tup [x,y,z]) (.int 0)=some x:=rfl
theorem Oz{x y z:D}:zE (.tup [x,y,z]) (.int 1)=some y:=rfl
theorem O_{x y z:D}:zE (.tup [x,y,z]) (.int 2)=some z:=rfl
theorem JJ{x y:D}:zE (.tup [x,y]) (.int 0)=some x:=rfl
theorem JK{x y:D}:zE (.tup [x,y]) (.int 1)=some y:=rfl
theorem eq_int{i j:Int}:zh (.int i) (.int j)=some (.bl (decide (i=j))):=by
 show some (D.bl (i==j))=_;rw[show(i==j)=decide (i=j)from rfl]
theorem Up{x:Str}:vN (.str x)=some (.inr x):=rfl
theorem Ip:decide (3<yR)=true:=by decide
section
variable{Ws:List Int}{a b c:Bool}{hk:List (Sum Int Str)}{hv:List D}
theorem Do{w:Int}{g:Int}(h:wt [.int w,.int 31,.int 1]=some (false,.int g)):pH [st (wI Ws) a b c hk hv,.fz (.int w)]=some ([st (wI Ws) a (decide (w=0)) (decide (g=1)) hk hv,.fz (.int w)],.fz .zF):=by
 rw[NQ];unfold Qz;simp![wH,jz,h,eq_int,Up,Qp,OK,Ip,Az,A_,aV,aW]
theorem KL{k:Str}{d s:Nat}{x y w g:Int}{u:Bool}(hk0:uA (.str k) (.str "test")=some (.bl true))(hd:Ws[d]?=some x)(hs:Ws[s]?=some y)(h:jS [.str k,.int x,.int y,.bl a]=some (false,.tup [.int w,.bl u]))(hg:wt [.int w,.int 31,.int 1]=some (false,.int g)) :
  qY [st (wI Ws) a b c hk hv,.fz (.tup [.str k,.int (d:Int),.int (s:Int)])]=some ([st (wI (Ws.set d w)) u (decide (w=0)) (decide (g=1)) hk hv,.fz (.tup [.str k,.int (d:Int),.int (s:Int)])],.fz .zF):=by
 have hl:d<Ws.length:=(yD.mp hd).1;rw[DE];unfold Vo;simp![wH,jz,Jb,JZ,Oy,Zu hd,Zu hs,h,Tc,Oz,O_,JJ,JK,Up,Qp,OK,Ip,CD,Cc,Do hg,Mh,hk0,HG,aU,Te,DV hl,G7]
theorem Bd{k:Str}{d s:D}{F:FM}{S S':M}(h1:XD je (.str k)=some (.bl true))(h2:getK je BY (.inr k)=some F)(hS:∀d,S≠.fz d)(hp:wV d=true)(hq:wV s=true)(h:F [S,.fz (.tup [.str k,d,s])]=some ([S',.fz (.tup [.str k,d,s])],.fz .zF)) :
  jP [S,.fz (.tup [.str k,d,s])]=some ([S',.fz (.tup [.str k,d,s])],.fz .zF):=by
 rw[DD];unfold Vn
 have hn:gl S 0 []=.p 0 []:=by
  cases S with
  |fz d=>exact absurd rfl (hS d)
  |_=>rfl
 simp![wH,Tc,h1,Up,h2,hn,h]
theorem Wl{ws:List D}:∀d,st ws a b c hk hv≠.fz d:=λd h=>by cases h
end
inductive pJ:D->Prop
 |stop:pJ (.tup [.str "stop"])
 |VG {w:Str} {d n:Int} (hw:w = "set" \/ w = "high") (d0:0<=d) (d1:d<8) (n0:0<=n) (n1:n<65536):pJ (.tup [.str w,.int d,.int n])
 |two {w:Str} {d s:Int} (hw:w = "copy" \/ w = "add" \/ w = "addc" \/ w = "sub" \/ w = "subc" \/ w = "and" \/ w = "or" \/ w = "xor" \/ w = "test") (d0:0<=d) (d1:d<8) (s0:0<=s) (s1:s<8):pJ (.tup [.str w,.int d,.int s])
 |VI {w:Str} {d n:Int} (hw:w = "left" \/ w = "right") (d0:0<=d) (d1:d<8) (n0:0<=n) (n1:n<32):pJ (.tup [.str w,.int d,.int n])
 |mem {w:Str} {d s n:Int} (hw:w = "load" \/ w = "store" \/ w = "loadw" \/ w = "storew") (d0:0<=d) (d1:d<8) (s0:0<=s) (s1:s<8) (n0:0<=n) (n1:n<256):pJ (.tup [.str w,.int d,.int s,.int n])
inductive Qd(m:Int):D->Prop
 |t7 {p:Int} (p0:0<=p) (p1:p<=m):Qd m (.tup [.str "jump",.int p])
 |cond {w k:Str} {p:Int} (hw:w = "when" \/ w = "unless") (hk:k = "carry" \/ k = "nought" \/ k = "sign") (p0:0<=p) (p1:p<=m):Qd m (.tup [.str w,.str k,.int p])
def Gu(m:Int)(d:D):Prop:=pJ d\/Qd m d
def kE:D->Bool
 |.tup (.str w::_)=>w == "jump" || w == "when" || w == "unless"
 |_=>false
def Dh:D->D
 |.tup xs=>(wb xs (-1)).getD .zF
 |_=>.zF
def P0:D:=.tup [.str "jump",.str "when",.str "unless"]
theorem OC{d:D}(h:pJ d):∃w,zE d (.int 0)=some (.str w)/\vM (.str w) P0=some (.bl false)/\zh (.str w) (.str "label")=some (.bl false)/\kE d=false/\pV 5 d=true:=by
 cases h with
 |stop=>exact⟨_,rfl,rfl,rfl,rfl,rfl⟩
 |VG hw=>rcases hw with rfl|rfl<;>exact⟨_,rfl,rfl,rfl,rfl,rfl⟩
 |two hw=>rcases hw with rfl|rfl|rfl|rfl|rfl|rfl|rfl|rfl|rfl<;>exact⟨_,rfl,rfl,rfl,rfl,rfl⟩
 |VI hw=>rcases hw with rfl|rfl<;>exact⟨_,rfl,rfl,rfl,rfl,rfl⟩
 |mem hw=>rcases hw with rfl|rfl|rfl|rfl<;>exact⟨_,rfl,rfl,rfl,rfl,rfl⟩
def xv:D->Bool
 |.tup (.str w::_)=>w == "label"
 |_=>false
def qI(t:Str):D:=.tup [.str "label",.str t]
theorem OW{m:Int}{d:D}(h:Gu m d):∃w,zE d (.int 0)=some (.str w)/\zh (.str w) (.str "label")=some (.bl false)/\xv d=false/\pV 5 d=true:=by
 rcases h with h|h
 ·cases h with
  |stop=>exact⟨_,rfl,rfl,rfl,rfl⟩
  |VG hw=>rcases hw with rfl|rfl<;>exact⟨_,rfl,rfl,rfl,rfl⟩
  |two hw=>rcases hw with rfl|rfl|rfl|rfl|rfl|rfl|rfl|rfl|rfl<;>exact⟨_,rfl,rfl,rfl,rfl⟩
  |VI hw=>rcases hw with rfl|rfl<;>exact⟨_,rfl,rfl,rfl,rfl⟩
  |mem hw=>rcases hw with rfl|rfl|rfl|rfl<;>exact⟨_,rfl,rfl,rfl,rfl⟩
 ·cases h with
  |t7=>exact⟨_,rfl,rfl,rfl,rfl⟩
  |cond hw hk=>rcases hw with rfl|rfl<;>rcases hk with rfl|rfl|rfl<;>exact⟨_,rfl,rfl,rfl,rfl⟩
def RF(t:Str):D->Bool
 |.tup [_,.str u]=>u==t
 |_=>false
def Xc(t:Str)(s:Nat×Option Nat)(d:D):Nat×Option Nat:=match xv d with
 |true=>(s.1,match RF t d with
  |true=>some s.1
  |false=>s.2)
 |false=>(s.1+1,s.2)
def xw(t:Str)(L:List D):Nat×Option Nat:=L.foldl (Xc t) (0,none)
theorem CK(t:Str)(L:List D)(d:D):xw t (L++[d])=Xc t (xw t L) d:=by
 unfold xw;rw[List.foldl_append];rfl
theorem CI(t:Str):∀(L:List D)(s:Nat×Option Nat),(L.foldl (Xc t) s).1=s.1+(L.filter λd=>!xv d).length
 | [],_=>rfl
 |d::L,s=>by
  rw[List.foldl_cons,CI t L];unfold Xc;cases h:xv d with
  |true=>rw[GO (by rw[h]; decide)]
  |false=>
   rw[Lk (by rw[h]; rfl),yO];show s.1+1+_=_;omega
theorem CG(t u:Str)(L:List D):(xw t (L++[qI u])).2=if u=t then some (L.filter λd=>!xv d).length else(xw t L).2:=by
 rw[CK];have h:=CI t L (0,none);show(match(u==t)with|true=>some (xw t L).1|false=>(xw t L).2)=_;by_cases e:u=t
 ·rw[zI e,gD.mpr e];show some (xw t L).1=_;rw[show(xw t L).1=_ from h,wp]
 ·rw[zK e,jF.mpr e]
theorem CJ{t:Str}{L:List D}{d:D}(h:xv d=false):(xw t (L++[d])).2=(xw t L).2:=by
 rw[CK];unfold Xc;rw[h]
inductive vk:D->Prop
 |label (t:Str):vk (qI t)
 |plain {d:D}:pJ d->vk d
 |t7 (t:Str):vk (.tup [.str "jump",.str t])
 |cond {w k:Str} (t:Str) (hw:w = "when" \/ w = "unless") (hk:k = "carry" \/ k = "nought" \/ k = "sign"):vk (.tup [.str w,.str k,.str t])
theorem Nt{d:D}(h:vk d):∃w,zE d (.int 0)=some (.str w)/\zh (.str w) (.str "label")=some (.bl (xv d))/\pV 5 d=true:=by
 cases h with
 |label=>exact⟨_,rfl,rfl,rfl⟩
 |plain h=>
  obtain⟨w,a,b,c,e⟩:=OW (m:=0) (.inl h);exact⟨w,a,by rw[c]; exact b,e⟩
 |t7=>exact⟨_,rfl,rfl,rfl⟩
 |cond t hw hk=>rcases hw with rfl|rfl<;>rcases hk with rfl|rfl|rfl<;>exact⟨_,rfl,rfl,rfl⟩
theorem Bi{R:D->D->Prop}:∀{xs ys:List D},Z6 R xs ys->xs.length=ys.length
 |_,_,.nil=>rfl
 |_,_,.cons _ r=>by rw[yO,yO,Bi r]
theorem Bj{R:D->D->Prop}:∀{xs ys:List D},Z6 R xs ys->∀y∈ys,∃x∈xs,R x y
 |_,_,.nil,_,h=>by cases h
 |x::xs,y::ys,.cons r rs,z,hz=>by
  rcases yY.mp hz with rfl|hz
  ·exact⟨x,yr ..,r⟩
  ·obtain⟨w,hw,h⟩:=Bj rs z hz;exact⟨w,xP _ hw,h⟩
def Vy:FS:=
 (zx (xW 2 (e2 wF (e2 XE (e2 y_ (z6 0) (e2 qD (eC (.int 7919)) (z6 1))) (eC (.int 48271))) (eC (.int 2147483647))))
  (yX (e2 wF (e2 y_ (e2 y_ (e2 JV (z6 2) (z6 2)) (e2 qD (eC (.int 7)) (z6 2))) (z6 1)) (eC (.int 2147483629)))))
def vK:List D->Option (Bool×D):=FR 2 3 Vy
theorem ba:∀ds r,vK ds=some r->ds.length=2/\zj 3 Vy ds=some r:=yU
theorem NI(x0 x1:D):vK [x0,x1]=zj 3 Vy [x0,x1]:=rfl
def U0:FS:=
 (zx (xW 2 (e2 wF (zp vK (z8 (z6 0) (z8 (e2 qD (eC (.int 2)) (z6 1)) zJ))) (eC (.int 8))))
  (zx (xW 3 (zp vK (z8 (z6 0) (z8 (e2 y_ (e2 qD (eC (.int 2)) (z6 1)) (eC (.int 1))) zJ))))
  (zx (xW 4 (wN (z8 (eC (.int 0)) (z8 (eC (.int 4294967295)) (z8 (eC (.int 2147483648)) (z8 (eC (.int 1)) (z8 (e2 wF (z6 3) (eC (.int 7))) (z8 (e2 y_ (eC (.int 65530)) (e2 wF (z6 3) (eC (.int 12)))) zJ))))))))
  (yX (e2 zE (e2 y_ (z6 4) (wN (z8 (e2 wF (e2 XE (z6 3) (eC (.int 7))) (eC (.int 4294967296))) (z8 (e2 wF (e2 XE (z6 3) (eC (.int 5))) (eC (.int 4294967296))) zJ)))) (z6 2))))))
def ZJ:List D->Option (Bool×D):=FR 2 5 U0
theorem bi:∀ds r,ZJ ds=some r->ds.length=2/\zj 5 U0 ds=some r:=yU
theorem NO(x0 x1:D):ZJ [x0,x1]=zj 5 U0 [x0,x1]:=rfl
def LF:FE:=(zp ZJ (z8 (z6 0) (z8 (z6 1) zJ)))
def U1:FS:=
 (qN (wx 1 (vp (eC (.int 0)) (eC (.int 8))) (yh 1) wK LF))
def ZK:List D->Option (Bool×D):=FR 1 1 U1
theorem bj:∀ds r,ZK ds=some r->ds.length=1/\zj 1 U1 ds=some r:=yU
theorem NP(x0:D):ZK [x0]=zj 1 U1 [x0]:=rfl
theorem qy(c k:Int):∃v:Int,vK [.int c,.int k]=some (false,.int v)/\0<=v/\v<2147483629:=by
 have q0:=Wy ((c+7919*k)*48271) (show(2147483647:Int)≠0 by decide);have q1:=Wx ((c+7919*k)*48271) (show(0:Int)<2147483647 by decide);have l1:tR 7919=true/\tR 48271=true/\tR 7=true:=⟨by decide,by decide,by decide⟩
 have b:ww ((c+7919*k)*48271%2147483647)<=40:=by
  have e:(2:Nat) ^ 40=1099511627776:=by decide
  exact HW (by omega)
 have e3:decide (ww ((c+7919*k)*48271%2147483647)+ww ((c+7919*k)*48271%2147483647)<=134217728)=true:=yQ (by omega);refine⟨((c+7919*k)*48271%2147483647*((c+7919*k)*48271%2147483647)+7*((c+7919*k)*48271%2147483647)+k)%2147483629,?_,Wy _ (by decide),Wx _ (by decide)⟩;rw[NI];unfold Vy;simp![l1,add_int,JV,e3,jH]
theorem ip(c k:Int):∃w:Int,ZJ [.int c,.int k]=some (false,.int w)/\0<=w/\w<4294967296:=by
 obtain⟨v,e1,v0,v1⟩:=qy c (2*k);obtain⟨u,e2,u0,u1⟩:=qy c (2*k+1);have l1:tR 2=true/\tR 7=true/\tR 5=true:=⟨by decide,by decide,by decide⟩
 have key:∃w:Int,zE (.lst [.int 0,.int 4294967295,.int 2147483648,.int 1,.int (u%7),.int (65530+u%12),.int (u*7%4294967296),.int (u*5%4294967296)]) (.int (v%8))=some (.int w)/\0<=w/\w<4294967296:=by
  rcases(show v%8=0\/v%8=1\/v%8=2\/v%8=3\/v%8=4\/v%8=5\/v%8=6\/v%8=7 by omega)with h|h|h|h|h|h|h|h<;>rw[h]<;>exact⟨_,rfl,by omega,by omega⟩
 obtain⟨w,ew,w0,w1⟩:=key;refine⟨w,?_,w0,w1⟩;have cat:y_ (.lst [.int 0,.int 4294967295,.int 2147483648,.int 1,.int (u%7),.int (65530+u%12)]) (.lst [.int (u*7%4294967296),.int (u*5%4294967296)])=some (.lst [.int 0,.int 4294967295,.int 2147483648,.int 1,.int (u%7),.int (65530+u%12),.int (u*7%4294967296),.int (u*5%4294967296)]):=rfl;rw[NO];unfold U0;simp![l1,add_int,e1,e2,cat,ew,jH]
theorem Ij{g:FG}{e:FE}{σ:zi}(P:Int->Prop):∀{ds:List D},(∀d∈ds,∃σ1 v,g d σ=some σ1/\e σ1=some (.int v)/\P v)->∃vs:List Int,xq g wK e σ ds=some (wI vs)/\vs.length=ds.length/\∀v∈vs,P v
 | [],_=>⟨[],rfl,rfl,λ_ h=>absurd h (by simp)⟩
 |d::ds,h=>by
  obtain⟨σ1,v,e1,e2,p⟩:=h d (yr ..);obtain⟨vs,e3,l,q⟩:=Ij P λd' hd=>h d' (xP _ hd)
  refine⟨v::vs,?_,by rw[yO,yO,l],λx hx=>?_⟩
  ·simp only[xq,e1,wK,kj,e2,e3];rfl
  ·rcases yY.mp hx with rfl|hx
   ·exact p
   ·exact q x hx
theorem iq(c:Int):∃Ws:List Int,ZK [.int c]=some (true,.lst (wI Ws))/\Ws.length=8/\∀w∈Ws,0<=w/\w<4294967296:=by
 have r8:vp (eC (.int 0)) (eC (.int 8)) [some (false,.int c)]=some (v7 8):=kR (n:=8) rfl (by decide)
 obtain⟨vs,e,l,p⟩:=Ij (g:=yh 1) (e:=LF) (σ:=[some (false,.int c),none]) (λw=>0<=w/\w<4294967296) (ds:=v7 8) λd hd=>by
  obtain⟨k,_,rfl⟩:=ug.mp hd;obtain⟨w,ew,w0,w1⟩:=ip c k;refine⟨_,w,rfl,?_,w0,w1⟩;unfold LF;simp![ew]
 refine⟨vs,?_,l,p⟩;rw[NP];unfold U1;simp![r8,e]
def pD(p:Int×Int):D:=.tup [.int p.1,.int p.2]
structure qc(ps:List (Int×Int)):Prop where
 ad:∀p∈ps,0<=p.1/\p.1<65536
 Q8:∀p∈ps,0<=p.2/\p.2<256
 nd:(ps.map (·.1)).Nodup
def Vs:FS:=
 (zx (xr (kY (tE (gx .bool (z6 0))) (j4 (tE (gx .int (z6 0)))))
   (yX (eC (.bl false)))
   wf)
  (yX (Zb (e2 (wO λi j=>decide (i<=j)) (eC (.int 0)) (z6 0)) (e2 (wO λi j=>decide (i<j)) (z6 0) (e2 qj (eC (.int 1)) (z6 1))))))
def uk:List D->Option (Bool×D):=FR 2 2 Vs
theorem bR:∀ds r,uk ds=some r->ds.length=2/\zj 2 Vs ds=some r:=yU
theorem N8(x0 x1:D):uk [x0,x1]=zj 2 Vs [x0,x1]:=rfl
def Vp:FS:=
 (yX (zp uk (z8 (z6 0) (z8 (eC (.int 16)) zJ))))
def ZC:List D->Option (Bool×D):=FR 1 1 Vp
theorem bO:∀ds r,ZC ds=some r->ds.length=1/\zj 1 Vp ds=some r:=yU
theorem N5(x0:D):ZC [x0]=zj 1 Vp [x0]:=rfl
def Vt:FS:=
 (zx (xr (kY (j4 (tE (gx .tuple (z6 0)))) (tE (e2 uA (eL uT (z8 (z6 0) zJ)) (eC (.int 2)))))
   (yX (eC (.bl false)))
   wf)
  (yX (Zb (zp ZC (z8 (e2 zE (z6 0) (eC (.int 0))) zJ)) (zp uk (z8 (e2 zE (z6 0) (eC (.int 1))) (z8 (eC (.int 8)) zJ))))))
def ZF:List D->Option (Bool×D):=FR 1 1 Vt
theorem bS:∀ds r,ZF ds=some r->ds.length=1/\zj 1 Vt ds=some r:=yU
theorem N9(x0:D):ZF [x0]=zj 1 Vt [x0]:=rfl
def IX:FS:=(zx (xr (j4 (tE (zp ZF (z8 (z6 2) zJ))))
     (λ_=>none)
     wf)
    (zx (xr (tE (e2 vM (e2 zE (z6 2) (eC (.int 0))) (XB 1)))
     (λ_=>none)
     wf)
    (ub 1 (e2 zE (z6 2) (eC (.int 0))) (e2 zE (z6 2) (eC (.int 1))))))
def Vm:FS:=
 (zx (jv 1 (eC (.dic [] [])))
  (zx (xr (tE (e2 UL (z6 0) (eC .zF)))
   (pY 1)
   wf)
  (zx (xr (j4 (tE (gx .list (z6 0))))
   (λ_=>none)
   wf)
  (zx (ju (uC (z6 0)) (yh 2)
   IX)
  (pY 1)))))
def pF:List D->Option (Bool×D):=FR 1 3 Vm
theorem bL:∀ds r,pF ds=some r->ds.length=1/\zj 3 Vm ds=some r:=yU
theorem N4(x0:D):pF [x0]=zj 3 Vm [x0]:=rfl
def LH:FE:=(zp uk (z8 (z6 1) (z8 (eC (.int 32)) zJ)))
def U7:FS:=
 (zx (xr (tE (e2 UL (z6 0) (eC .zF)))
   (qN (e2 UN (wN (z8 (eC (.int 0)) zJ)) (eC (.int 8))))
   wf)
  (zx (xr (kY (j4 (tE (gx .list (z6 0)))) (tE (e2 uA (eL uT (z8 (z6 0) zJ)) (eC (.int 8)))))
   (λ_=>none)
   wf)
  (zx (xr (j4 (tE (eL JO (z8 (wx 1 (uC (z6 0)) (yh 1) wK LH) zJ))))
   (λ_=>none)
   wf)
  (qN (eL qC (z8 (z6 0) zJ))))))
def ZN:List D->Option (Bool×D):=FR 1 1 U7
theorem cE:∀ds r,ZN ds=some r->ds.length=1/\zj 1 U7 ds=some r:=yU
theorem NX(x0:D):ZN [x0]=zj 1 U7 [x0]:=rfl
def Vr:FS:=
 (yX (e2 zh (e2 zE (z6 0) (eC (.int 0))) (eC (.str "label"))))
def jQ:List D->Option (Bool×D):=FR 1 1 Vr
theorem bQ:∀ds r,jQ ds=some r->ds.length=1/\zj 1 Vr ds=some r:=yU
theorem N7(x0:D):jQ [x0]=zj 1 Vr [x0]:=rfl
def Vq:FS:=
 (yX (e2 vM (e2 zE (z6 0) (eC (.int 0))) (eC UZ)))
def ZE:List D->Option (Bool×D):=FR 1 1 Vq
theorem bP:∀ds r,ZE ds=some r->ds.length=1/\zj 1 Vq ds=some r:=yU
theorem N6(x0:D):ZE [x0]=zj 1 Vq [x0]:=rfl
def GA:FE:=(z6 1)
def LK:FT:=(j4 (tE (zp jQ (z8 (z6 1) zJ))))
def U3:FS:=
 (qN (wx 1 (uC (z6 0)) (yh 1) LK GA))
def t_:List D->Option (Bool×D):=FR 1 1 U3
theorem bv:∀ds r,t_ ds=some r->ds.length=1/\zj 1 U3 ds=some r:=yU
theorem NT(x0:D):t_ [x0]=zj 1 U3 [x0]:=rfl
def Ur:FS:=(xr (tE (zp jQ (z8 (z6 3) zJ)))
     (ub 1 (e2 zE (z6 3) (eC (.int 1))) (z6 2))
     (xW 2 (e2 (qi λi j=>i+j) (z6 2) (eC (.int 1)))))
def Vu:FS:=
 (zx (jv 1 (eC (.dic [] [])))
  (zx (xW 2 (eC (.int 0)))
  (zx (ju (uC (z6 0)) (yh 3)
   Ur)
  (pY 1))))
def gT:List D->Option (Bool×D):=FR 1 4 Vu
theorem bU:∀ds r,gT ds=some r->ds.length=1/\zj 4 Vu ds=some r:=yU
theorem NA(x0:D):gT [x0]=zj 4 Vu [x0]:=rfl
def YS:FE:=(qB (tE (zp ZE (z8 (z6 2) zJ))) (e2 zE (z6 1) (e2 zE (z6 2) (e1 Zd (eC (.int 1))))) (eC .zF))
def U6:FS:=
 (zx (xW 1 (vo gT (z8 (z6 0) zJ)))
  (qN (wx 1 (uC (vo t_ (z8 (z6 0) zJ))) (yh 2) wK YS)))
def pI:List D->Option (Bool×D):=FR 1 2 U6
theorem cA:∀ds r,pI ds=some r->ds.length=1/\zj 2 U6 ds=some r:=yU
theorem NW(x0:D):pI [x0]=zj 2 U6 [x0]:=rfl
def Ig:FS:=(ub 2 (z6 3) (wR (z8 (e2 zE (z6 1) (z6 3)) (z8 (e2 y_ (z6 3) (eC (.int 1))) (z8 (z6 4) zJ)))))
def U4:FS:=
 (zx (xW 1 (vo t_ (z8 (z6 0) zJ)))
  (zx (jv 2 (eC (.dic [] [])))
  (zx (ju (Uf (vo pI (z8 (z6 0) zJ))) (qF 3 4)
   Ig)
  (pY 2))))
def ZM:List D->Option (Bool×D):=FR 1 5 U4
theorem bz:∀ds r,ZM ds=some r->ds.length=1/\zj 5 U4 ds=some r:=yU
theorem NU(x0:D):ZM [x0]=zj 5 U4 [x0]:=rfl
def Qt:yH:=
 (yN (uV 0 [] ["RowMachine"] "state" (J6 "State" Z8 (u7 0 [.at ["RowMachine"] "first_words"] (u7 0 [.at ["RowMachine"] "first_held"] wY))))
  (yN (uV 0 [] ["RowMachine"] "due" (yb (eC (.int 0))))
  (uV 0 [] ["RowMachine"] "done" (yb (eC (.int 0))))))
def jO:FM:=w6 1 1 Qt
theorem Ku(x0:M):jO [x0]=vH 1 1 Qt [x0]:=rfl
def Qs:yH:=
 (yN (uV 0 [] ["RowMachine"] "table" (yb (z6 1)))
  (yN (uV 0 [] ["RowMachine"] "end" (yb (z6 2)))
  (yN (uV 0 [] ["RowMachine"] "first_words" (yb (vo ZN (z8 (z6 3) zJ))))
  (yN (uV 0 [] ["RowMachine"] "first_held" (yb (vo pF (z8 (z6 4) zJ))))
  (uU (ZX "RowMachine" "again" 0 [] jO wY))))))
def Z7:FM:=w6 5 5 Qs
theorem Kt(x0 x1 x2 x3 x4:M):Z7 [x0,x1,x2,x3,x4]=vH 5 5 Qs [x0,x1,x2,x3,x4]:=rfl
def Qu:yH:=
 (yN (vE 4 (yb (vo ZM (z8 (z6 1) zJ))))
  (uU (u8 Z7 (u7 0 [] (wX (z6 4) (wX (eL JT (z8 (z6 4) zJ)) (wX (z6 2) (wX (z6 3) wY))))))))
def pE:FM:=w6 4 5 Qu
theorem N0(x0 x1 x2 x3:M):pE [x0,x1,x2,x3]=vH 4 5 Qu [x0,x1,x2,x3]:=rfl
theorem Ir{g:MG}{b:yH}(P:Nat->zm->Prop):∀{ds:List D}{β:zm}(n:Nat),P n β->(∀i d β,ds[i]?=some d->P (n+i) β->∃β1 β2,g d β=some β1/\b β1=some (.nx β2)/\P (n+i+1) β2)->
  ∃β',qu g b ds β=some (.nx β')/\P (n+ds.length) β'
 | [],β,n,h,_=>⟨β,rfl,h⟩
 |d::ds,β,n,h,step=>by
  obtain⟨β1,β2,e1,e2,p2⟩:=step 0 d β rfl h
  obtain⟨β',e3,p3⟩:=Ir P (ds:=ds) (β:=β2) (n+1) p2 λi d' τ hd hp=>by
   obtain⟨a,b',c1,c2,c3⟩:=step (i+1) d' τ (by simpa using hd) (by rw[show n+(i+1)=n+1+i by omega]; exact hp);exact⟨a,b',c1,c2,by rw[show n+1+i+1=n+(i+1)+1 by omega]; exact c3⟩
  refine⟨β',?_,by rw[yO,show n+(ds.length+1)=n+1+ds.length by omega]; exact p3⟩;show((g d β).bind λβ1=>(b β1).bind λf=>match f with|.nx β2=>qu g b ds β2|.ct β2=>qu g b ds β2|.bk β2=>some (.nx β2)|.rt m β2=>some (.rt m β2))=_;rw[e1];show(b β1).bind _=_;rw[e2];exact e3
theorem O2{i:Int}{w:Nat}(hw:w<=64):uk [.int i,.int (w:Int)]=some (false,.bl (decide (0<=i)&&decide (i<2 ^ w))):=by
 have h1:kO 1 (w:Int)=true:=by
  unfold kO;rw[yQ (by omega),yQ (by omega)];rfl
 have h2:qj (.int 1) (.int (w:Int))=some (.int (2 ^ w)):=by
  show(match kO 1 (w:Int)with|true=>some (D.int (1*2 ^ ((w:Int)).toNat))|false=>none)=_;rw[h1];show some (D.int (1*2 ^ ((w:Int)).toNat))=_;rw[p9,LZ]
 rw[N8];unfold Vs;by_cases c:0<=i
 ·have c':decide (0<=i)=true:=yQ c;rw[c'];simp![c',h1,p9,LZ]
 ·have c':decide (0<=i)=false:=xE c;rw[c'];simp![c',LV]
theorem ir{Ws:List Int}(hl:Ws.length=8)(hw:∀w∈Ws,0<=w/\w<4294967296):ZN [.lst (wI Ws)]=some (true,.lst (wI Ws)):=by
 have e:xq (yh 1) wK LH [some (false,.lst (wI Ws)),none] (wI Ws)=some ((wI Ws).map λ_=>.bl true):=Ik (λ_=>.bl true) λd hd=>by
  obtain⟨w,hw',rfl⟩:=ug.mp hd;refine⟨_,rfl,?_⟩;obtain⟨a,b⟩:=hw w hw';have nf:=O2 (i:=w) (w:=32) (by decide);have e32:(2:Int) ^ 32=4294967296:=by decide
  rw[e32,yQ a,yQ b]at nf;unfold LH;simp![show uk [.int w,.int 32]=some (false,.bl true)from nf]
 have e2:(wI Ws).map (λ_=>D.bl true)=(List.replicate 8 true).map D.bl:=by
  unfold wI;rw[Ts,List.map_replicate,<-hl,<-List.map_const'];rfl
 have fa:JO [.lst [.bl true,.bl true,.bl true,.bl true,.bl true,.bl true,.bl true,.bl true]]=some (.bl true):=rfl;rw[e2]at e;have fl:qC [.lst (wI Ws)]=some (.lst (wI Ws)):=rfl
 have ne:uA (.int ((wI Ws).length:Int)) (.int 8)=some (.bl false):=by
  rw[Te,hl];rfl
 rw[NX];unfold U7;simp![ne,e,fa,fl]
def kP(ps:List (Int×Int)):List (Sum Int Str):=ps.map λp=>.inl p.1
def vP(ps:List (Int×Int)):List D:=ps.map λp=>.int p.2
theorem DG{ps:List (Int×Int)}{a:Int}:xR (kP ps) (.inl a)=decide (a∈ps.map (·.1)):=by
 unfold xR kP;rw[Lg,kZ,M6,List.any_eq_true]
 constructor
 ·rintro⟨p,hp,e⟩;have e':=yy e;exact ug.mpr ⟨p,hp,Yl e'⟩
 ·intro h;obtain⟨p,hp,e⟩:=ug.mp h;exact⟨p,hp,yQ (congrArg Sum.inl e)⟩
theorem CZ{ps:List (Int×Int)}{a b:Int}(h:a ∉ ps.map (·.1)):xf (kP ps) (.inl a)=kP (ps++[(a,b)])/\ya (kP ps) (vP ps) (.inl a) (.int b)=vP (ps++[(a,b)]):=by
 have h1:xR (kP ps) (.inl a)=false:=by rw[DG]; exact xE h
 unfold xf ya;rw[zK (by rw[h1]; decide),zK (by rw[h1]; decide)];unfold kP vP;rw[jC,jC];exact⟨rfl,rfl⟩
theorem AI{p:Int×Int}(h1:0<=p.1/\p.1<65536)(h2:0<=p.2/\p.2<256):ZF [pD p]=some (false,.bl true):=by
 have n1:=O2 (i:=p.1) (w:=16) (by decide);rw[yQ h1.1,yQ (show p.1<2 ^ 16 from h1.2)]at n1;have n2:=O2 (i:=p.2) (w:=8) (by decide);rw[yQ h2.1,yQ (show p.2<2 ^ 8 from h2.2)]at n2;have m1:uk [.int p.1,.int 16]=some (false,.bl true):=n1;have m2:uk [.int p.2,.int 8]=some (false,.bl true):=n2
 have a1:ZC [.int p.1]=some (false,.bl true):=by
  rw[N5];unfold Vp;simp![m1]
 have l2:uA (.int ((0+1+1:Nat):Int)) (.int 2)=some (.bl false):=rfl;rw[N9];unfold Vt pD;simp![JJ,JK,a1,m2,l2]
theorem lI{ps:List (Int×Int)}(P:qc ps)(hl:ps.length<=1000):pF [.lst (ps.map pD)]=some (true,.dic (kP ps) (vP ps)):=by
 obtain⟨σ',e1,x,rfl⟩:=kG (g:=yh 2) (b:=IX) (λi σ=>∃x:Option Sl,σ=[some (false,.lst (ps.map pD)),some (true,.dic (kP (ps.take i)) (vP (ps.take i))),x])
  (ds:=ps.map pD) (σ:=[some (false,.lst (ps.map pD)),some (true,.dic [] []),none]) 0 ⟨none,rfl⟩ λi d σ hd hp=>by
   obtain⟨x,rfl⟩:=hp;rw[wp];have hi:i<ps.length:=by have:=(yD.mp hd).1; rw[zo]at this; exact this
   rw[vh,xD hi]at hd;cases hd;generalize hp:ps[i]=p;have pm:p∈ps:=hp▸Yf hi;have ok:=AI (P.ad p pm) (P.Q8 p pm);have et:ps.take (i+1)=ps.take i++[p]:=by rw[V5 hi,hp]
   have nin:p.1 ∉ (ps.take i).map (·.1):=by
    have nd:=P.nd
    have e2:ps.map (·.1)=(ps.take i).map (·.1)++p.1::(ps.drop (i+1)).map (·.1):=by
     rw[<-hp,<-xA,<-Ya hi,<-jC,Lx]
    rw[e2,Lv]at nd;intro z;exact nd.2.2 _ z _ yr rfl
   have hi2:vM (.int p.1) (.dic (kP (ps.take i)) (vP (ps.take i)))=some (.bl false):=by
    show((vN (.int p.1)).bind λk=>some (xR (kP (ps.take i)) k)).bind _=_;show some (D.bl (xR (kP (ps.take i)) (.inl p.1)))=_;rw[DG,xE nin]
   obtain⟨q1,q2⟩:=CZ (b:=p.2) nin;have ll:(kP (ps.take i)).length<yR:=by unfold kP; rw[zo,tj]; show _<16777216; omega
   refine⟨_,[some (false,.lst (ps.map pD)),some (true,.dic (kP (ps.take (i+1))) (vP (ps.take (i+1)))),some (false,pD p)],rfl,.inl ?_,_,rfl⟩;rw[et];unfold IX;have d0:zE (pD p) (.int 0)=some (.int p.1):=rfl;have d1:zE (pD p) (.int 1)=some (.int p.2):=rfl;have ky:vN (.int p.1)=some (.inl p.1):=rfl;rw[<-q1,<-q2];simp![ok,d0,d1,hi2,ub,ky,zI ll]
 rw[wp,zo,Yi]at e1;rw[N4];unfold Vm;simp![e1]
def vS(n:Nat):List (Sum Int Str):=(List.range n).map λk:Nat=>.inl (k:Int)
theorem Jf{g:Nat->D}{k:Nat}:∀{xs:List Nat},k∈xs->getK (xs.map λk:Nat=>(.inl (k:Int):Sum Int Str)) (xs.map g) (.inl (k:Int))=some (g k)
 | [],h=>absurd h (by simp)
 |x::xs,h=>by
  rw[xA,xA];unfold getK;by_cases c:x=k
  ·rw[zI (by rw[c]),c]
  ·rw[zK (λz=>c (by have:=Yl z; omega))];exact Jf ((yY.mp h).resolve_left λz=>c z.symm)
theorem El{n:Nat}:xR (vS n) (.inl (n:Int))=false:=by
 unfold xR vS;rw[Lg,Lf];intro k hk;have:=Yg.mp hk;show ¬ decide ((.inl (k:Int):Sum Int Str)=.inl (n:Int))=true;rw[M6];intro z;have:=Yl z;omega
theorem eO{Ws:List Int}{hk:List (Sum Int Str)}{hv:List D}:Z8 [.obj "State" [] [],.fz (.lst (wI Ws)),.fz (.dic hk hv)]=some ([st (wI Ws) false false false hk hv,.fz (.lst (wI Ws)),.fz (.dic hk hv)],.fz .zF):=by
 have e1:xq (yh 3) wK G9 [none,some (false,.lst (wI Ws)),some (false,.dic hk hv),none] UW=some [.tup [.str "carry",.bl false],.tup [.str "nought",.bl false],.tup [.str "sign",.bl false]]:=rfl;have e2:UK [.lst [.tup [.str "carry",.bl false],.tup [.str "nought",.bl false],.tup [.str "sign",.bl false]]]=some (j_ false false false):=rfl;have e3:qC [.lst (wI Ws)]=some (.lst (wI Ws)):=rfl;have e4:UJ [.dic hk hv]=some (.dic hk hv):=rfl;have p1:∀{x:M}{zn:zm},tV x (some (.obj "State" [] [])::zn) 0 [] ["State"] "words" = some (.nx (some (.obj "State" ["words"] [x])::zn)):=rfl;have p2:∀{x y:M}{zn:zm},tV x (some (.obj "State" ["words"] [y])::zn) 0 [] ["State"] "truths" = some (.nx (some (.obj "State" ["words", "truths"] [y,x])::zn)):=rfl;have p3:∀{x y z:M}{zn:zm},tV x (some (.obj "State" ["words", "truths"] [y,z])::zn) 0 [] ["State"] "held" = some (.nx (some (.obj "State" ["words", "truths", "held"] [y,z,x])::zn)):=rfl;rw[N1];unfold Qv;simp![wH,g_,e1,e2,e3,e4,p1,p2,p3];rfl
theorem HA{T fw fh:D}{e:Int}{Ws:List Int}{hk:List (Sum Int Str)}{hv:List D}{fs:List Str}{ms:List M}:jO [.obj "RowMachine" ["table", "end", "first_words", "first_held"] [.fz T,.fz (.int e),.fz (.lst (wI Ws)),.fz (.dic hk hv)]]=some ([wG T e (.lst (wI Ws)) (.dic hk hv) (st (wI Ws) false false false hk hv) 0 0],.fz .zF):=by
 have a1:uP (.obj "RowMachine" ["table", "end", "first_words", "first_held"] [.fz T,.fz (.int e),.fz (.lst (wI Ws)),.fz (.dic hk hv)]) [.at ["RowMachine"] "first_words"]=some (.fz (.lst (wI Ws))):=rfl;have a2:uP (.obj "RowMachine" ["table", "end", "first_words", "first_held"] [.fz T,.fz (.int e),.fz (.lst (wI Ws)),.fz (.dic hk hv)]) [.at ["RowMachine"] "first_held"]=some (.fz (.dic hk hv)):=rfl;have p1:∀{a b c d x:M}{zn:zm},tV x (some (.obj "RowMachine" ["table", "end", "first_words", "first_held"] [a,b,c,d])::zn) 0 [] ["RowMachine"] "state" = some (.nx (some (.obj "RowMachine" ["table", "end", "first_words", "first_held", "state"] [a,b,c,d,x])::zn)):=rfl;have p2:∀{a b c d f x:M}{zn:zm},tV x (some (.obj "RowMachine" ["table", "end", "first_words", "first_held", "state"] [a,b,c,d,f])::zn) 0 [] ["RowMachine"] "due" = some (.nx (some (.obj "RowMachine" ["table", "end", "first_words", "first_held", "state", "due"] [a,b,c,d,f,x])::zn)):=rfl;have p3:∀{a b c d f g x:M}{zn:zm},tV x (some (.obj "RowMachine" ["table", "end", "first_words", "first_held", "state", "due"] [a,b,c,d,f,g])::zn) 0 [] ["RowMachine"] "done" = some (.nx (some (.obj "RowMachine" gf [a,b,c,d,f,g,x])::zn)):=rfl;rw[Ku];unfold Qt;simp![wH,a1,a2,eO,p1,p2,p3];rfl
theorem DT{d:D}(h:vk d):jQ [d]=some (false,.bl (xv d)):=by
 obtain⟨w,a,b,_⟩:=Nt h;rw[N7];unfold Vr;simp![a,b]
theorem b9{items:List D}(h:∀d∈items,vk d):t_ [.lst items]=some (true,.lst (items.filter λd=>!xv d)):=by
 have e:=Ii (g:=yh 1) (c:=LK) (e:=GA) (σ:=[some (false,.lst items),none]) (λd=>!xv d) id (ds:=items) λd hd=>by
  have hf:=DT (h d hd);refine⟨_,rfl,?_,λ_=>rfl⟩;unfold LK;simp![hf]
 rw[List.map_id]at e;rw[NT];unfold U3;simp![e]
theorem Nr{d:D}(h:vk d):ZE [d]=some (false,.bl (kE d)):=by
 have:∃w,zE d (.int 0)=some (.str w)/\vM (.str w) UZ=some (.bl (kE d)):=by
  cases h with
  |label=>exact⟨_,rfl,rfl⟩
  |plain h=>
   obtain⟨w,a,b,_,c,_⟩:=OC h;exact⟨w,a,by rw[c]; exact b⟩
  |t7=>exact⟨_,rfl,rfl⟩
  |cond t hw hk=>rcases hw with rfl|rfl<;>exact⟨_,rfl,rfl⟩
 obtain⟨w,a,b⟩:=this;rw[N6];unfold Vq;simp![a,b]
theorem Nu{d:D}(h:vk d)(hl:xv d=true):∃t,d=qI t:=by
 cases h with
 |label t=>exact⟨t,rfl⟩
 |plain h=>
  obtain⟨_,_,_,z,_⟩:=OW (m:=0) (.inl h);rw[z]at hl;cases hl
 |t7=>cases hl
 |cond t hw hk=>rcases hw with rfl|rfl<;>cases hl
theorem PX{items:List D}(h:∀d∈items,vk d)(hl:items.length<=1000):∃ks vs,gT [.lst items]=some (true,.dic ks vs)/\ks.length=vs.length/\∀t,getK ks vs (.inr t)=((xw t items).2).map λn:Nat=>D.int n:=by
 obtain⟨σ',e,ks,vs,x3,a1,a2,a3,rfl⟩:=kG (g:=yh 3) (b:=Ur) (λi σ=>∃ks vs x3,ks.length=vs.length/\ks.length<=i/\(∀t,getK ks vs (.inr t)=((xw t (items.take i)).2).map λn:Nat=>D.int n)/\σ=[some (false,.lst items),some (true,.dic ks vs),some (false,.int (((items.take i).filter λd=>!xv d).length:Nat)),x3]) (ds:=items)
  (σ:=[some (false,.lst items),some (true,.dic [] []),some (false,.int 0),none]) 0 ⟨[],[],none,rfl,yF _,λt=>rfl,rfl⟩ (by
  rintro i v σ hv ⟨ks,vs,x3,a1,a2,a3,rfl⟩;rw[wp]at *;have hi:i<items.length:=(yD.mp hv).1;have ev:items[i]=v:=(yD.mp hv).2;have ht:items.take (i+1)=items.take i++[v]:=by rw[V5 hi,ev]
  have hI:=h v (Tt hv);have hf:=DT hI;generalize hn:((items.take i).filter λd=>!xv d).length=n;cases hL:xv v with
  |true=>
   obtain⟨u,rfl⟩:=Nu hI hL;rw[hL]at hf;have i1:zE (qI u) (.int 1)=some (.str u):=rfl;have kd:vN (.str u)=some (.inr u):=rfl;have hlim:ks.length<yR:=by show _<16777216; omega
   have hn2:((items.take (i+1)).filter λd=>!xv d).length=n:=by
    rw[ht,Wz,yL,hn];rfl
   have hlk:(xf ks (.inr u)).length<=i+1:=by
    unfold xf
    split
    ·omega
    ·rw[yL]; show _+1<=_; omega
   refine⟨_,[some (false,.lst items),some (true,.dic (xf ks (.inr u)) (ya ks vs (.inr u) (.int (n:Nat)))),some (false,.int (n:Nat)),some (false,qI u)],rfl,.inl ?_,xf ks (.inr u),ya ks vs (.inr u) (.int (n:Nat)),_,YA a1,hlk,λt=>?_,by rw[hn2]⟩
   ·unfold Ur;simp![hf,ub,i1,kd,zI hlim]
   ·rw[Kk a1,ht,CG,hn,a3];by_cases e:u=t
    ·rw[zI (by rw[e]),zI e];rfl
    ·rw[zK (λz=>e (Q0 z)),zK e]
  |false=>
   rw[hL]at hf
   have hn2:((items.take (i+1)).filter λd=>!xv d).length=n+1:=by
    rw[ht,Wz,yL,hn,Lk (by rw[hL]; rfl)];rfl
   refine⟨_,[some (false,.lst items),some (true,.dic ks vs),some (false,.int ((n:Nat)+1:Int)),some (false,v)],rfl,.inl ?_,ks,vs,_,a1,by omega,λt=>?_,by rw[hn2]; rfl⟩
   ·unfold Ur;simp![hf]
   ·rw[ht,CJ hL,a3])
 rw[wp,Yi]at a3;refine⟨ks,vs,?_,a1,a3⟩;rw[NA];unfold Vu;simp![e]
theorem PV{items:List D}(h:∀d∈items,vk d)(hl:items.length<=1000):∃ks vs,gT [.lst items]=some (true,.dic ks vs)/\∀t,getK ks vs (.inr t)=((xw t items).2).map λn:Nat=>D.int n:=by
 obtain⟨ks,vs,a,_,b⟩:=PX h hl;exact⟨ks,vs,a,b⟩
def LG:FE:=(wR (z8 (z6 1) (z8 (e2 zE (z6 0) (z6 1)) zJ)))
def LJ:FT:=(tE (e2 uA (e2 zE (z6 0) (z6 1)) (eC (.int 0))))
def U2:FS:=
 (qN (wx 1 (uC (eL JX (z8 (z6 0) zJ))) (yh 1) LJ LG))
def ZL:List D->Option (Bool×D):=FR 1 1 U2
theorem bt:∀ds r,ZL ds=some r->ds.length=1/\zj 1 U2 ds=some r:=yU
theorem NR(x0:D):ZL [x0]=zj 1 U2 [x0]:=rfl
def Vh:FS:=
 (qN (eL qC (z8 (e1 (yk ["State"] "words") (e1 (yk ["RowMachine"] "state") (z6 0))) zJ)))
def gQ:List D->Option (Bool×D):=FR 1 1 Vh
theorem bD:∀ds r,gQ ds=some r->ds.length=1/\zj 1 Vh ds=some r:=yU
theorem Ky(x0:D):gQ [x0]=zj 1 Vh [x0]:=rfl
def Tf:FE:=(e2 zE (e1 (yk ["State"] "truths") (e1 (yk ["RowMachine"] "state") (z6 0))) (z6 1))
def Ve:FS:=
 (yX (eL Zf (z8 (wx 1 (uC (eC g_)) (yh 1) wK Tf) zJ)))
def gN:List D->Option (Bool×D):=FR 1 1 Ve
theorem bA:∀ds r,gN ds=some r->ds.length=1/\zj 1 Ve ds=some r:=yU
theorem Kv(x0:D):gN [x0]=zj 1 Ve [x0]:=rfl
def Vf:FS:=
 (qN (vo ZL (z8 (e1 (yk ["State"] "held") (e1 (yk ["RowMachine"] "state") (z6 0))) zJ)))
def gO:List D->Option (Bool×D):=FR 1 1 Vf
theorem bB:∀ds r,gO ds=some r->ds.length=1/\zj 1 Vf ds=some r:=yU
theorem Kw(x0:D):gO [x0]=zj 1 Vf [x0]:=rfl
def Vg:FS:=
 (yX (e1 (yk ["RowMachine"] "due") (z6 0)))
def gP:List D->Option (Bool×D):=FR 1 1 Vg
theorem bC:∀ds r,gP ds=some r->ds.length=1/\zj 1 Vg ds=some r:=yU
theorem Kx(x0:D):gP [x0]=zj 1 Vg [x0]:=rfl
def Vk:FS:=
 (yX (e1 (yk ["RowMachine"] "done") (z6 0)))
def gR:List D->Option (Bool×D):=FR 1 1 Vk
theorem bF:∀ds r,gR ds=some r->ds.length=1/\zj 1 Vk ds=some r:=yU
theorem K_(x0:D):gR [x0]=zj 1 Vk [x0]:=rfl
def XS:FS:=(xr (tE (e2 zh (z6 3) (eC (.int 0))))
     (ub 2 (z6 3) (zp gQ (wZ "RowMachine" "registers" (z6 0) zJ)))
     (xr (tE (e2 zh (z6 3) (eC (.int 1))))
       (ub 2 (z6 3) (zp gN (wZ "RowMachine" "marks" (z6 0) zJ)))
       (xr (tE (e2 zh (z6 3) (eC (.int 2))))
         (ub 2 (z6 3) (zp gO (wZ "RowMachine" "memory" (z6 0) zJ)))
         (xr (tE (e2 zh (z6 3) (eC (.int 3))))
           (ub 2 (z6 3) (zp gP (wZ "RowMachine" "place" (z6 0) zJ)))
           (xr (tE (e2 zh (z6 3) (eC (.int 4))))
             (ub 2 (z6 3) (zp gR (wZ "RowMachine" "steps" (z6 0) zJ)))
             (ub 2 (z6 3) (zp u4 (wZ "RowMachine" "stands" (z6 0) zJ))))))))
def Tg:FE:=(e2 zE (z6 2) (z6 4))
def Vx:FS:=
 (zx (jv 2 (eC (.dic [] [])))
  (zx (ju (uC (e2 zE (wN (z8 (wN (λ_=>some (List.map D.int [0,1,2,3,4,5]))) (z8 (wN (λ_=>some (List.map D.int [5,4,3,2,1,0]))) (z8 (wN (λ_=>some (List.map D.int [2,4,0,5,1,3]))) (z8 (wN (λ_=>some (List.map D.int [3,1,5,0,4,2]))) zJ))))) (e2 wF (z6 1) (eC (.int 4))))) (yh 3)
   XS)
  (zx (TF 2) (yX (eL UO (z8 (wx 1 (vp (eC (.int 0)) (eC (.int 6))) (yh 4) wK Tg) zJ))))))
def jR:List D->Option (Bool×D):=FR 2 4 Vx
theorem bZ:∀ds r,jR ds=some r->ds.length=2/\zj 4 Vx ds=some r:=yU
theorem NH(x0 x1:D):jR [x0,x1]=zj 4 Vx [x0,x1]:=rfl
def LC:FE:=(wR (z8 (z6 3) (z8 (e2 zE (e2 zE (z6 0) (eC (.str "bytes"))) (z6 3)) zJ)))
def LI:FT:=(tE (e2 (wO λi j=>decide (j<i)) (e2 zE (e2 zE (z6 0) (eC (.str "bytes"))) (z6 3)) (eC (.int 0))))
def Vv:FS:=
 (zx (xW 2 (wx 1 (uC (eL JY (z8 (eL JU (z8 (e2 zE (z6 0) (eC (.str "bytes"))) zJ)) zJ))) (yh 3) LI LC))
  (yX (eL UO (z8 (wN (z8 (e2 zE (z6 0) (eC (.str "words"))) (z8 (eL Zf (z8 (e2 zE (z6 0) (eC (.str "marks"))) zJ)) (z8 (z6 2) (z8 (e2 zE (z6 0) (eC (.str "at"))) (z8 (e2 zE (z6 0) (eC (.str "many"))) (z8 (z6 1) zJ))))))) zJ))))
def gW:List D->Option (Bool×D):=FR 2 3 Vv
theorem bX:∀ds r,gW ds=some r->ds.length=2/\zj 3 Vv ds=some r:=yU
theorem NE(x0 x1:D):gW [x0,x1]=zj 3 Vv [x0,x1]:=rfl
def vJ:List (Int×Int)->Int->Int
 | [],_=>0
 |p::ps,a=>if p.1=a then p.2 else vJ ps a
theorem B_{a:Int}:∀{ps:List (Int×Int)},a∈ps.map (·.1)->getK (kP ps) (vP ps) (.inl a)=some (.int (vJ ps a))
 | [],h=>absurd h (by simp)
 |p::ps,h=>by
  show getK (.inl p.1::kP ps) (.int p.2::vP ps) (.inl a)=_;unfold getK vJ;by_cases c:p.1=a
  ·rw[zI (congrArg Sum.inl c),zI c]
  ·rw[zK (λz=>c (Yl z)),zK c];rw[xA]at h;exact B_ ((yY.mp h).resolve_left λz=>c z.symm)
theorem L5{a:Int}:∀{ps:List (Int×Int)},(∀p∈ps,0<=p.2/\p.2<256)->0<=vJ ps a/\vJ ps a<256
 | [],_=>⟨by unfold vJ; omega,by unfold vJ; omega⟩
 |p::ps,h=>by
  unfold vJ
  split
  ·exact h p yr
  ·exact L5 λq hq=>h q (xP _ hq)
theorem DY{ps:List (Int×Int)}{a:Int}(h:a∈ps.map (·.1)):zE (.dic (kP ps) (vP ps)) (.int a)=some (.int (vJ ps a)):=by
 show(vN (.int a)).bind _=_;exact B_ h
def memK(ps:List (Int×Int)):List Int:=L2.isort (ps.map (·.1))
def uX(ps:List (Int×Int)):List D:=((memK ps).filter λa=>decide (vJ ps a≠0)).map λa=>.tup [.int a,.int (vJ ps a)]
theorem Iw{ps:List (Int×Int)}{a:Int}(h:a∈memK ps):a∈ps.map (·.1):=(L2.isort_perm (ps.map (·.1))).mem_iff.mp h
theorem Da:∀(ps:List (Int×Int)),Zx (kP ps)=some (ps.map (·.1))
 | []=>rfl
 |p::ps=>by
  show(Zx (kP ps)).bind _=_;rw[Da ps];rfl
theorem Dj{g:FG}{c:FT}{e:FE}{σ:zi}(p:Int->Bool)(v:Int->D){ns:List Int}(h:∀n∈ns,∃σ1,g (.int n) σ=some σ1/\c σ1=some (p n)/\(p n=true->e σ1=some (v n))):xq g c e σ (wI ns)=some ((ns.filter p).map v):=by
 induction ns with
 |nil=>rfl
 |cons n ns ih=>
  obtain⟨σ1,e1,e2,e3⟩:=h n yr;have ih':=ih λm hm=>h m (xP _ hm)
  show xq g c e σ (.int n::wI ns)=_;cases q:p n with
  |true=>
   rw[q]at e2;simp only[xq,e1,kj,e2,e3 q,ih',Yb,q,xj,xA]
  |false=>
   rw[q]at e2;simp only[xq,e1,kj,e2,ih',Yb,q,j8,wq]
theorem RH{i:Int}:uA (.int i) (.int 0)=some (.bl (decide (i≠0))):=by
 show some (D.bl (!(i==0)))=_
 congr 2
 by_cases c:i=0
 ·subst c; rfl
 ·rw[yQ c];have:(i==0)=false:=by simpa using c
  rw[this];rfl
theorem AJ{ps:List (Int×Int)}(hl:ps.length<64):ZL [.dic (kP ps) (vP ps)]=some (true,.lst (uX ps)):=by
 have e1:JX [.dic (kP ps) (vP ps)]=some (.lst (wI (memK ps))):=by
  show(Zx (kP ps)).bind _=_;rw[Da];show(if(ps.map (·.1)).length<64 then _ else _)=_;rw[zI (by rw[zo]; exact hl)];rfl
 have e2:xq (yh 1) LJ LG [some (false,.dic (kP ps) (vP ps)),none] (wI (memK ps))=some (uX ps):=Dj (λa=>decide (vJ ps a≠0)) (λa=>.tup [.int a,.int (vJ ps a)]) λn hn=>by
  have ix:=DY (Iw hn);refine⟨_,rfl,?_,λ_=>?_⟩
  ·unfold LJ;simp![ix,RH]
  ·unfold LG;simp![ix]
 rw[NR];unfold U2;simp![e1,e2]
section
variable{T fw fh:D}{e due done:Int}{Ws:List Int}{a b c:Bool}{ps:List (Int×Int)}
def yo(T fw fh:D)(e due done:Int)(Ws:List Int)(a b c:Bool)(ps:List (Int×Int)):D:=wQ T e fw fh (uq (wI Ws) a b c (kP ps) (vP ps)) due done
theorem b5:gQ [yo T fw fh e due done Ws a b c ps]=some (true,.lst (wI Ws)):=by
 have fl:qC [.lst (wI Ws)]=some (.lst (wI Ws)):=rfl;unfold yo;rw[Ky];unfold Vh;simp![XG,Jb,fl]
theorem Pp:gN [yo T fw fh e due done Ws a b c ps]=some (false,.tup [.bl a,.bl b,.bl c]):=by
 unfold yo
 have e1:xq (yh 1) wK Tf [some (false,wQ T e fw fh (uq (wI Ws) a b c (kP ps) (vP ps)) due done),none] UW=some [.bl a,.bl b,.bl c]:=by
  have h:∀m:Str,Tf [some (false,wQ T e fw fh (uq (wI Ws) a b c (kP ps) (vP ps)) due done),some (false,.str m)]=zE (j_ a b c) (.str m):=λm=>by
   unfold Tf;simp![XG,JZ]
  unfold UW;simp only[xq,yh,wK,kj,GW,GX,h,Oy,i9,iA]
 have e2:Zf [.lst [.bl a,.bl b,.bl c]]=some (.tup [.bl a,.bl b,.bl c]):=rfl;rw[Kv];unfold Ve g_;simp![e1,e2]
theorem Py(hl:ps.length<64):gO [yo T fw fh e due done Ws a b c ps]=some (true,.lst (uX ps)):=by
 unfold yo;rw[Kw];unfold Vf;simp![XG,KZ,AJ hl]
theorem aA:gP [yo T fw fh e due done Ws a b c ps]=some (false,.int due):=by
 unfold yo;rw[Kx];unfold Vg;simp![XF]
theorem eQ:gR [yo T fw fh e due done Ws a b c ps]=some (false,.int done):=by
 unfold yo;rw[K_];unfold Vk;simp![KY]
def vis(Ws:List Int)(a b c:Bool)(ps:List (Int×Int))(due done:Int)(k:Bool):List D:=[.lst (wI Ws),.tup [.bl a,.bl b,.bl c],.lst (uX ps),.int due,.int done,.bl k]
theorem L8{m:Nat}:∀{xs:List D},(∀d∈xs,wD d<=m)->wDs xs<=(m+2)*xs.length
 | [],_=>vi _
 |x::xs,h=>by
  have h1:=h x yr;have h2:=L8 λd hd=>h d (xP _ hd)
  show wD x+2+wDs xs<=_;rw[yO,Nat.mul_add];omega
theorem Wu{i:Int}(h0:0<=i)(h1:i<100000000000000000000):wD (.int i)=20:=by
 show(if decide (0<=i)&&decide (i<100000000000000000000)then 20 else 1000000000)=20;rw[yQ h0,yQ h1];rfl
theorem Px:(uX ps).length<=ps.length:=by
 unfold uX memK;rw[zo];refine wo (GU ..) ?_;rw[(L2.isort_perm _).length_eq,zo];exact yF _
theorem Cz{k:Bool}(P:qc ps)(hl:ps.length<64)(hw:∀w∈Ws,0<=w/\w<4294967296)(hn:Ws.length<=100)(d0:0<=due)(d1:due<1000000)(s0:0<=done)(s1:done<1000000):UO [.lst (vis Ws a b c ps due done k)]=some (.str (xS (.lst (vis Ws a b c ps due done k))).shown):=by
 have h1:wDs (wI Ws)<=22*100:=by
  have:=L8 (m:=20) (xs:=wI Ws) λd hd=>by
   obtain⟨w,hw',rfl⟩:=ug.mp hd;exact Tx (Wu (hw w hw').1 (by have:=(hw w hw').2; omega))
  rw[Te]at this;omega
 have h2:wDs (uX ps)<=49*64:=by
  have:=L8 (m:=47) (xs:=uX ps) λd hd=>by
   obtain⟨x,hx,rfl⟩:=ug.mp hd;have hx':=Iw (Ln.mp hx).1;obtain⟨p,hp,rfl⟩:=ug.mp hx';have h3:=P.ad p hp;have h4:=L5 (a:=p.1) P.Q8;show wD (.int p.1)+2+(wD (.int (vJ ps p.1))+2+0)+3<=47;rw[Wu h3.1 (by omega),Wu h4.1 (by omega)]
   decide
  have l:=Px (ps:=ps);have:(47+2)*(uX ps).length<=49*64:=by omega
  omega
 have hW:wDs (vis Ws a b c ps due done k)<=1000000:=by
  show(wDs (wI Ws)+2)+2+(((5+2+(5+2+(5+2+0)))+3)+2+((wDs (uX ps)+2)+2+(wD (.int due)+2+(wD (.int done)+2+(5+2+0)))))<=1000000;rw[Wu d0 (by omega),Wu s0 (by omega)];omega
 have hd1:(wI Ws).all (vC 4)=true:=ud.mpr λd hd=>by
  obtain⟨w,_,rfl⟩:=ug.mp hd;rfl
 have hd2:(uX ps).all (vC 4)=true:=ud.mpr λd hd=>by
  obtain⟨x,_,rfl⟩:=ug.mp hd;rfl
 have hD:(vis Ws a b c ps due done k).all (vC 5)=true:=by
  show((wI Ws).all (vC 4)&&(_&&((uX ps).all (vC 4)&&_)))=true;rw[hd1,hd2];rfl
 show(match decide (wDs (vis Ws a b c ps due done k)<=1000000)&&(vis Ws a b c ps due done k).all (vC 5)with|true=>_|false=>_)=_;rw[yQ hW,hD];rfl
theorem aQ{ks:List (Sum Int Str)}{vs:List D}{k:Int}{v:D}(h:xR ks (.inl k)=false):xf ks (.inl k)=ks++[.inl k]/\ya ks vs (.inl k) v=vs++[v]:=by
 unfold xf ya;rw[zK (by rw[h]; decide),zK (by rw[h]; decide)];exact⟨rfl,rfl⟩
theorem NZ{k:Nat}:∀{xs:List Nat},k ∉ xs->xR (xs.map λk:Nat=>(.inl (k:Int):Sum Int Str)) (.inl (k:Int))=false:=λ{xs} h=>by
 unfold xR;rw[Lg,Lf];intro j hj;show ¬ decide ((.inl (j:Int):Sum Int Str)=.inl (k:Int))=true;rw[M6];intro z;have:j=k:=by have:=Yl z; omega
 exact h (this▸hj)
theorem dP{m:Str}{τ:zi}{d:D}(hm:m ∉ gf)(h:τ[0]?=some (some (false,yo T fw fh e due done Ws a b c ps))):wZ "RowMachine" m (z6 0) zJ τ=some [yo T fw fh e due done Ws a b c ps]:=by
 refine Qn (sd:=uq (wI Ws) a b c (kP ps) (vP ps)) ?_ hm rfl;unfold z6;rw[h];rfl
def jl(T fw fh:D)(e due done:Int)(Ws:List Int)(a b c:Bool)(ps:List (Int×Int))(cell:Int)(o:List Nat)(k:Bool)(x:Option Sl):zi:=
 [some (false,yo T fw fh e due done Ws a b c ps),some (false,.int cell),some (true,.dic (o.map λk:Nat=>.inl (k:Int)) (o.map λi:Nat=>(vis Ws a b c ps due done k).getD i .zF)),x]
theorem Pj{cell:Int}{o:List Nat}{k:Bool}{i:Nat}(hl:ps.length<64)(hs:u4 [yo T fw fh e due done Ws a b c ps]=some (false,.bl k))(hi:i<6)(hn:i ∉ o)(ho:o.length<=6):XS (jl T fw fh e due done Ws a b c ps cell o k (some (false,.int (i:Int))))=some (.nx (jl T fw fh e due done Ws a b c ps cell (o++[i]) k (some (false,.int (i:Int))))):=by
 obtain⟨q1,q2⟩:=aQ (vs:=o.map λi:Nat=>(vis Ws a b c ps due done k).getD i .zF) (v:=(vis Ws a b c ps due done k).getD i .zF) (NZ hn);have ll:(o.map λk:Nat=>(.inl (k:Int):Sum Int Str)).length<yR:=by rw[zo]; show _<16777216; omega
 have q3:(o++[i]).map (λk:Nat=>(.inl (k:Int):Sum Int Str))=(o.map λk:Nat=>(.inl (k:Int):Sum Int Str))++[.inl (i:Int)]:=by rw[jC]; rfl
 have q4:(o++[i]).map (λi:Nat=>(vis Ws a b c ps due done k).getD i .zF)=(o.map λi:Nat=>(vis Ws a b c ps due done k).getD i .zF)++[(vis Ws a b c ps due done k).getD i .zF]:=by rw[jC]; rfl
 unfold jl;rw[q3,q4,<-q1,<-q2];clear q1 q2 q3 q4;generalize (o.map λk:Nat=>(.inl (k:Int):Sum Int Str))=ks at ll ⊢;generalize (o.map λi:Nat=>(vis Ws a b c ps due done k).getD i .zF)=vs;have sf:∀{m:Str}{τ:zi},m ∉ gf->τ[0]?=some (some (false,yo T fw fh e due done Ws a b c ps))->wZ "RowMachine" m (z6 0) zJ τ=some [yo T fw fh e due done Ws a b c ps]:=λhm h=>dP (d:=.zF) hm h
 have s1:∀τ:zi,wZ "RowMachine" "registers" (z6 0) zJ (some (false,yo T fw fh e due done Ws a b c ps)::τ)=some [yo T fw fh e due done Ws a b c ps]:=λτ=>sf (by decide +kernel) rfl
 have s2:∀τ:zi,wZ "RowMachine" "marks" (z6 0) zJ (some (false,yo T fw fh e due done Ws a b c ps)::τ)=some [yo T fw fh e due done Ws a b c ps]:=λτ=>sf (by decide +kernel) rfl
 have s3:∀τ:zi,wZ "RowMachine" "memory" (z6 0) zJ (some (false,yo T fw fh e due done Ws a b c ps)::τ)=some [yo T fw fh e due done Ws a b c ps]:=λτ=>sf (by decide +kernel) rfl
 have s4:∀τ:zi,wZ "RowMachine" "place" (z6 0) zJ (some (false,yo T fw fh e due done Ws a b c ps)::τ)=some [yo T fw fh e due done Ws a b c ps]:=λτ=>sf (by decide +kernel) rfl
 have s5:∀τ:zi,wZ "RowMachine" "steps" (z6 0) zJ (some (false,yo T fw fh e due done Ws a b c ps)::τ)=some [yo T fw fh e due done Ws a b c ps]:=λτ=>sf (by decide +kernel) rfl
 have s6:∀τ:zi,wZ "RowMachine" "stands" (z6 0) zJ (some (false,yo T fw fh e due done Ws a b c ps)::τ)=some [yo T fw fh e due done Ws a b c ps]:=λτ=>sf (by decide +kernel) rfl
 have ky:∀{j:Int},vN (.int j)=some (.inl j):=rfl;have r1:=b5 (T:=T) (fw:=fw) (fh:=fh) (e:=e) (due:=due) (done:=done) (Ws:=Ws) (a:=a) (b:=b) (c:=c) (ps:=ps);have r2:=Pp (T:=T) (fw:=fw) (fh:=fh) (e:=e) (due:=due) (done:=done) (Ws:=Ws) (a:=a) (b:=b) (c:=c) (ps:=ps);have r3:=Py (T:=T) (fw:=fw) (fh:=fh) (e:=e) (due:=due) (done:=done) (Ws:=Ws) (a:=a) (b:=b) (c:=c) hl;have r4:=aA (T:=T) (fw:=fw) (fh:=fh) (e:=e) (due:=due) (done:=done) (Ws:=Ws) (a:=a) (b:=b) (c:=c) (ps:=ps);have r5:=eQ (T:=T) (fw:=fw) (fh:=fh) (e:=e) (due:=due) (done:=done) (Ws:=Ws) (a:=a) (b:=b) (c:=c) (ps:=ps);unfold XS;generalize yo T fw fh e due done Ws a b c ps=dm at *;have q:i=0\/i=1\/i=2\/i=3\/i=4\/i=5:=by omega
 have qe:∀{x y:Int},zh (.int x) (.int y)=some (.bl (decide (x=y))):=eq_int;have c0:((0:Nat):Int)=0:=rfl;have c1:((1:Nat):Int)=1:=rfl;have c2:((2:Nat):Int)=2:=rfl;have c3:((3:Nat):Int)=3:=rfl;have c4:((4:Nat):Int)=4:=rfl;have c5:((5:Nat):Int)=5:=rfl;rcases q with rfl|rfl|rfl|rfl|rfl|rfl
 all_goals
  clear hn ho;simp![qe,c0,c1,c2,c3,c4,c5,Int.reduceEq,ub,s1,s2,s3,s4,s5,s6,r1,r2,r3,r4,r5,hs,ky,zI ll]
  first|done|rfl
theorem Dn{cell:Int}{k:Bool}(P:qc ps)(hl:ps.length<64)(hw:∀w∈Ws,0<=w/\w<4294967296)(hn:Ws.length<=100)(d0:0<=due)(d1:due<1000000)(s0:0<=done)(s1:done<1000000)
  (hs:u4 [yo T fw fh e due done Ws a b c ps]=some (false,.bl k)):jR [yo T fw fh e due done Ws a b c ps,.int cell]=some (false,.str (xS (.lst (vis Ws a b c ps due done k))).shown):=by
 have key:∀o:List Nat,o.Nodup->o.length=6->(∀i∈o,i<6)->(∀i,i<6->i∈o)->∃σ',pR (yh 3) XS (o.map λk:Nat=>.int (k:Int)) (jl T fw fh e due done Ws a b c ps cell [] k none)=some (.nx σ')/\∃x,σ'=jl T fw fh e due done Ws a b c ps cell o k x:=λo nd l6 lt all=>by
  obtain⟨σ',e1,x,rfl⟩:=kG (g:=yh 3) (b:=XS) (λi σ=>∃x,σ=jl T fw fh e due done Ws a b c ps cell (o.take i) k x) (ds:=o.map λk:Nat=>.int (k:Int)) (σ:=jl T fw fh e due done Ws a b c ps cell [] k none) 0 ⟨none,rfl⟩ λi d σ hd hp=>by
   obtain⟨x,rfl⟩:=hp;rw[wp];have hi:i<o.length:=by have:=(yD.mp hd).1; rw[zo]at this; exact this
   rw[vh,xD hi]at hd;cases hd
   have nin:o[i] ∉ o.take i:=by
    have e2:o=o.take i++o[i]::o.drop (i+1):=by rw[<-Ya hi,Lx]
    have nd':=nd;rw[e2,Lv]at nd';intro z;exact nd'.2.2 _ z _ yr rfl
   have lo:=Pj (T:=T) (fw:=fw) (fh:=fh) (e:=e) (due:=due) (done:=done) (Ws:=Ws) (a:=a) (b:=b) (c:=c) (ps:=ps) (cell:=cell) (o:=o.take i) (k:=k) (i:=o[i]) hl hs (lt _ (Yf hi)) nin (by rw[tj]; omega);refine⟨_,_,rfl,.inl lo,some (false,.int (o[i]:Int)),?_⟩;rw[V5 hi]
  rw[wp,zo,Yi]at e1;exact⟨_,e1,x,rfl⟩
 have fin:∀(o:List Nat),(∀i,i<6->i∈o)->∀x,xq (yh 4) wK Tg [some (false,yo T fw fh e due done Ws a b c ps),some (false,.int cell),some (false,.dic (o.map λk:Nat=>.inl (k:Int)) (o.map λi:Nat=>(vis Ws a b c ps due done k).getD i .zF)),x,none] (v7 6)=some (vis Ws a b c ps due done k):=λo all x=>by
  have:=Ik (g:=yh 4) (e:=Tg) (σ:=[some (false,yo T fw fh e due done Ws a b c ps),some (false,.int cell),some (false,.dic (o.map λk:Nat=>.inl (k:Int)) (o.map λi:Nat=>(vis Ws a b c ps due done k).getD i .zF)),x,none]) (λd=>match d with|.int i=>(vis Ws a b c ps due done k).getD i.toNat .zF|d=>d) (ds:=v7 6) λd hd=>by
   obtain⟨i,hi,rfl⟩:=ug.mp hd;have g:=Jf (g:=λi:Nat=>(vis Ws a b c ps due done k).getD i .zF) (all i (Yg.mp hi));refine⟨_,rfl,?_⟩;unfold Tg;have ix:zE (.dic (o.map λk:Nat=>.inl (k:Int)) (o.map λi:Nat=>(vis Ws a b c ps due done k).getD i .zF)) (.int (i:Int))=some ((vis Ws a b c ps due done k).getD i .zF):=g;simp![ix];rfl
  rw[this];rfl
 have rp:=Cz (a:=a) (b:=b) (c:=c) (k:=k) P hl hw hn d0 d1 s0 s1;have r6:∀τ:zi,vp (eC (.int 0)) (eC (.int 6)) τ=some (v7 6):=λτ=>kR (n:=6) rfl (by decide)
 have go:∀o:List Nat,o.Nodup->o.length=6->(∀i∈o,i<6)->(∀i,i<6->i∈o)->zE (.lst [.lst [.int 0,.int 1,.int 2,.int 3,.int 4,.int 5],.lst [.int 5,.int 4,.int 3,.int 2,.int 1,.int 0],.lst [.int 2,.int 4,.int 0,.int 5,.int 1,.int 3],.lst [.int 3,.int 1,.int 5,.int 0,.int 4,.int 2]]) (.int (cell%4))=some (.lst (o.map λk:Nat=>.int (k:Int)))->jR [yo T fw fh e due done Ws a b c ps,.int cell]=some (false,.str (xS (.lst (vis Ws a b c ps due done k))).shown):=λo nd l6 lt all ix=>by
  obtain⟨σ',e1,x,rfl⟩:=key o nd l6 lt all;have f:=fin o all x;unfold jl at e1;simp only[V3]at e1;rw[NH];unfold Vx;generalize (o.map λk:Nat=>D.int (k:Int))=L at ix e1;generalize (o.map λk:Nat=>(.inl (k:Int):Sum Int Str))=ks at e1 f;generalize (o.map λi:Nat=>(vis Ws a b c ps due done k).getD i .zF)=vs at e1 f;generalize yo T fw fh e due done Ws a b c ps=dm at *;generalize vis Ws a b c ps due done k=VV at *;simp![ix,e1,f,r6,rp]
 have q:cell%4=0\/cell%4=1\/cell%4=2\/cell%4=3:=by omega
 rcases q with h|h|h|h
 ·exact go [0,1,2,3,4,5] (by decide) rfl (by decide) (by decide) (by rw[h]; rfl)
 ·exact go [5,4,3,2,1,0] (by decide) rfl (by decide) (by decide) (by rw[h]; rfl)
 ·exact go [2,4,0,5,1,3] (by decide) rfl (by decide) (by decide) (by rw[h]; rfl)
 ·exact go [3,1,5,0,4,2] (by decide) rfl (by decide) (by decide) (by rw[h]; rfl)
abbrev Ma:List (Sum Int Str):=[.inr "words",.inr "marks",.inr "bytes",.inr "at",.inr "many"]
def sM(Ws:List Int)(a b c:Bool)(hk:List (Sum Int Str))(hv:List D)(n m:Int):M:=.tab Ma [.own (.lst (wI Ws)),.own (.lst [.bl a,.bl b,.bl c]),.own (.dic hk hv),.fz (.int n),.fz (.int m)]
def uS(Ws:List Int)(a b c:Bool)(hk:List (Sum Int Str))(hv:List D)(n m:Int):D:=.dic Ma [.lst (wI Ws),.lst [.bl a,.bl b,.bl c],.dic hk hv,.int n,.int m]
theorem Bf{k:Bool}(P:qc ps)(hl:ps.length<64)(hw:∀w∈Ws,0<=w/\w<4294967296)(hn:Ws.length<=100)(d0:0<=due)(d1:due<1000000)(s0:0<=done)(s1:done<1000000) :
  gW [uS Ws a b c (kP ps) (vP ps) due done,.bl k]=some (false,.str (xS (.lst (vis Ws a b c ps due done k))).shown):=by
 have rp:=Cz (a:=a) (b:=b) (c:=c) (k:=k) P hl hw hn d0 d1 s0 s1
 have ka:(kP ps).all jo=true:=ud.mpr λx hx=>by
  obtain⟨p,_,rfl⟩:=ug.mp hx;rfl
 have e0:JU [.dic (kP ps) (vP ps)]=some (.lst (wI (ps.map (·.1)))):=by
  show(if(kP ps).length<=1000/\(kP ps).all jo=true then some (D.lst ((kP ps).map keyOf))else none)=_;rw[zI ⟨by unfold kP; rw[zo]; omega,ka⟩];unfold kP wI;rw[Ts,Ts];rfl
 have e1:JY [.lst (wI (ps.map (·.1)))]=some (.lst (wI (memK ps))):=by
  have io:∀ns:List Int,intsOf (wI ns)=some ns:=λns=>by
   induction ns with
   |nil=>rfl
   |cons n ns ih=>
    show(intsOf (wI ns)).bind _=_;rw[ih];rfl
  show(intsOf (wI (ps.map (·.1)))).bind _=_;rw[io];show(if(ps.map (·.1)).length<64 then _ else _)=_;rw[zI (by rw[zo]; exact hl)];rfl
 have ib:zE (uS Ws a b c (kP ps) (vP ps) due done) (.str "bytes")=some (.dic (kP ps) (vP ps)):=rfl;have iw:zE (uS Ws a b c (kP ps) (vP ps) due done) (.str "words")=some (.lst (wI Ws)):=rfl;have im:zE (uS Ws a b c (kP ps) (vP ps) due done) (.str "marks")=some (.lst [.bl a,.bl b,.bl c]):=rfl;have ia:zE (uS Ws a b c (kP ps) (vP ps) due done) (.str "at")=some (.int due):=rfl;have iy:zE (uS Ws a b c (kP ps) (vP ps) due done) (.str "many")=some (.int done):=rfl;have ft:Zf [.lst [.bl a,.bl b,.bl c]]=some (.tup [.bl a,.bl b,.bl c]):=rfl
 have e2:xq (yh 3) LI LC [some (false,uS Ws a b c (kP ps) (vP ps) due done),some (false,.bl k),none,none] (wI (memK ps))=some (uX ps):=by
  unfold uX;refine Dj (λa=>decide (vJ ps a≠0)) (λa=>.tup [.int a,.int (vJ ps a)]) λn hn=>?_
  have ix:=DY (Iw hn);have v0:=(L5 (a:=n) P.Q8).1
  have ed:decide (0<vJ ps n)=decide (vJ ps n≠0):=by
   by_cases z:vJ ps n=0
   ·rw[z]; rfl
   ·rw[yQ z,yQ (by omega)]
  refine⟨_,rfl,?_,λ_=>?_⟩
  ·unfold LI;simp![ib,ix,ed]
  ·unfold LC;simp![ib,ix]
 rw[NE];unfold Vv;unfold vis at rp ⊢;generalize uS Ws a b c (kP ps) (vP ps) due done=dm at *;simp![ib,e0,e1,e2,iw,im,ia,iy,ft,rp]
end
def ja:FS:=
 (zx (xW 4 (eL JS (z8 (Zb (z6 3) (e2 vM (z6 0) (wN (z8 (eC (.str "addc")) (z8 (eC (.str "subc")) zJ))))) zJ)))
  (zx (xW 5 (e2 qk (e2 qk (z6 1) (z6 2)) (z6 4)))
  (zx (xr (tE (e2 vM (z6 0) (wN (z8 (eC (.str "add")) (z8 (eC (.str "addc")) zJ)))))
   (xW 5 (e2 y_ (e2 y_ (z6 1) (z6 2)) (z6 4)))
   wf)
  (yX (wR (z8 (e2 wF (z6 5) (eC (.int 4294967296))) (z8 (UF (qh (wO λi j=>decide (i<=j)) (wO λi j=>decide (i<j)) (eC (.int 0)) (z6 5) (eC (.int 4294967296)))) zJ)))))))
def gZ:List D->Option (Bool×D):=FR 4 6 ja
theorem bh:∀ds r,gZ ds=some r->ds.length=4/\zj 6 ja ds=some r:=yU
theorem XH(x0 x1 x2 x3:D):gZ [x0,x1,x2,x3]=zj 6 ja [x0,x1,x2,x3]:=rfl
def Qy:yH:=
 (yN (Iv 2 1 [.ky (.inr "marks")] (eC (.int 0)) (uR (zp gZ (z8 (e2 zE (z6 0) (eC (.int 0))) (z8 (e2 zE (e2 zE (z6 1) (eC (.str "words"))) (e2 zE (z6 0) (eC (.int 1)))) (z8 (e2 zE (e2 zE (z6 1) (eC (.str "words"))) (e2 zE (z6 0) (eC (.int 2)))) (z8 (e2 zE (e2 zE (z6 1) (eC (.str "marks"))) (eC (.int 0))) zJ)))))))
  (yN (uw 1 [.ky (.inr "marks")] (eC (.int 1)) (yb (e2 zh (z6 2) (eC (.int 0)))))
  (yN (uw 1 [.ky (.inr "marks")] (eC (.int 2)) (yb (e2 (wO λi j=>decide (j<=i)) (z6 2) (eC (.int 2147483648)))))
  (tS (qQ (tE (e2 uA (e2 zE (z6 0) (eC (.int 0))) (eC (.str "test")))))
   (uw 1 [.ky (.inr "words")] (e2 zE (z6 0) (eC (.int 1))) (yb (z6 2)))
   qJ))))
def gU:FM:=w6 2 3 Qy
theorem ND(x0 x1:M):gU [x0,x1]=vH 2 3 Qy [x0,x1]:=rfl
def IZ:yH:=(jm 2 [] (z6 3) (yb (z6 4)))
def Qx:yH:=
 (yN (vE 2 (jc (eC (.dic [] []))))
  (yN (XT (uC (z6 1)) (Zv 3 4)
   IZ)
  (qw (J4 ["words", "marks", "bytes", "at", "many"] (gu (jc (eL qC (z8 (z6 0) zJ))) (gu (jc (wN (z8 (eC (.bl false)) (z8 (eC (.bl false)) (z8 (eC (.bl false)) zJ))))) (gu (UD 2) (gu (yb (eC (.int 0))) (gu (yb (eC (.int 0))) JD)))))))))
def ZG:FM:=w6 2 5 Qx
theorem NC(x0 x1:M):ZG [x0,x1]=vH 2 5 Qx [x0,x1]:=rfl
section
variable{Ws Ws':List Int}{a b c:Bool}{hk:List (Sum Int Str)}{hv:List D}{n m:Int}{x y z:D}{p q r r':Bool}
theorem jy:wA (sM Ws a b c hk hv n m)=uS Ws a b c hk hv n m:=by simp only[sM,uS,wA,thaws]
theorem Mg{i:Nat}{π:List yf}:gl (sM Ws a b c hk hv n m) i π=.p i π:=rfl
theorem HF:uP (sM Ws a b c hk hv n m) [.ky (.inr "words")]=some (.own (.lst (wI Ws))):=rfl
theorem HE:uP (sM Ws a b c hk hv n m) [.ky (.inr "marks")]=some (.own (.lst [.bl a,.bl b,.bl c])):=rfl
theorem aT:uF (sM Ws a b c hk hv n m) [.ky (.inr "words")] (.own (.lst (wI Ws')))=some (sM Ws' a b c hk hv n m):=rfl
theorem aS:uF (sM Ws a b c hk hv n m) [.ky (.inr "marks")] (.own (.lst [.bl p,.bl q,.bl r]))=some (sM Ws p q r hk hv n m):=rfl
theorem KJ:zE (uS Ws a b c hk hv n m) (.str "words")=some (.lst (wI Ws)):=rfl
theorem BV:zE (uS Ws a b c hk hv n m) (.str "marks")=some (.lst [.bl a,.bl b,.bl c]):=rfl
theorem m0:zE (.lst [.bl a,.bl b,.bl c]) (.int 0)=some (.bl a):=rfl
theorem R8:L2.ixN 3 0=some 0:=rfl
theorem R9:L2.ixN 3 1=some 1:=rfl
theorem RA:L2.ixN 3 2=some 2:=rfl
theorem C5{w:Int}:wt [.int w,.int 31,.int 1]=some (false,.int (w/2147483648%2)):=by
 have e:=AK (w/2 ^ 31) 1;have e0:wt [.int w,.int 31,.int 1]=some (false,.int (Builtin.bitAnd (w/2 ^ 31) (1*2 ^ 1-1))):=rfl;rw[e0,e];rfl
theorem HV{ps:List (Int×Int)}(P:qc ps)(hl:ps.length<=1000):ZG [.fz (.lst (wI Ws)),.fz (.lst (ps.map pD))]=some ([.fz (.lst (wI Ws)),.fz (.lst (ps.map pD))],sM Ws false false false (kP ps) (vP ps) 0 0):=by
 obtain⟨β',e1,x,y,rfl⟩:=Ir (g:=Zv 3 4) (b:=IZ) (λi β=>∃x y:Option M,β=[some (.fz (.lst (wI Ws))),some (.fz (.lst (ps.map pD))),some (.own (.dic (kP (ps.take i)) (vP (ps.take i)))),x,y])
  (ds:=ps.map pD) (β:=[some (.fz (.lst (wI Ws))),some (.fz (.lst (ps.map pD))),some (.own (.dic [] [])),none,none]) 0 ⟨none,none,rfl⟩ λi d β hd hp=>by
   obtain⟨x,y,rfl⟩:=hp;rw[wp];have hi:i<ps.length:=by have:=(yD.mp hd).1; rw[zo]at this; exact this
   rw[vh,xD hi]at hd;cases hd;generalize hp:ps[i]=p;have et:ps.take (i+1)=ps.take i++[p]:=by rw[V5 hi,hp]
   have nin:p.1 ∉ (ps.take i).map (·.1):=by
    have nd:=P.nd
    have e2:ps.map (·.1)=(ps.take i).map (·.1)++p.1::(ps.drop (i+1)).map (·.1):=by
     rw[<-hp,<-xA,<-Ya hi,<-jC,Lx]
    rw[e2,Lv]at nd;intro z;exact nd.2.2 _ z _ yr rfl
   obtain⟨q1,q2⟩:=CZ (b:=p.2) nin;have ll:decide ((kP (ps.take i)).length<yR)=true:=yQ (by unfold kP; rw[zo,tj]; show _<16777216; omega);refine⟨_,[some (.fz (.lst (wI Ws))),some (.fz (.lst (ps.map pD))),some (.own (.dic (kP (ps.take (i+1))) (vP (ps.take (i+1))))),some (.fz (.int p.1)),some (.fz (.int p.2))],rfl,?_,_,_,rfl⟩;rw[et,<-q1,<-q2];unfold IZ;have ky:vN (.int p.1)=some (.inl p.1):=rfl;simp![wH,ky,ll]
 rw[wp,zo,Yi]at e1;have fl:qC [.lst (wI Ws)]=some (.lst (wI Ws)):=rfl;rw[NC];unfold Qx;simp![wH,e1,fl];rfl
theorem KR{x:Str}:zh (.str x) (.str x)=some (.bl true):=by
 show some (D.bl (x==x))=_;rw[jG]
end
section
variable{Ws:List Int}{a b c:Bool}{hk:List (Sum Int Str)}{hv:List D}
def vG(p:Bool):Int:=if p then 1 else 0
theorem Me{x y:Int}{p:Bool}:gS [.int x,.int y,.bl p]=some (false,.tup [.int ((x+y+vG p)%4294967296),.bl (decide (4294967296<=x+y+vG p))]):=by
 have h1:decide ((0:Int)<4294967296)=true:=by decide
 rw[N2];unfold Vl;cases p<;>simp![add_int,vG,h1,j8,wq,xj]
theorem Ox{x y:Int}{p:Bool}(x0:0<=x)(x1:x<4294967296)(y0:0<=y)(y1:y<4294967296):gb [.int x,.int y,.bl p]=some (false,.tup [.int ((x-y-vG p)%4294967296),.bl (decide (x-y-vG p<0))]):=by
 have key:∀(q:Int),(q=0\/q=1)->(∀τ:zi,qB (tE (z6 2)) (eC (.int 1)) (eC (.int 0)) [some (false,.int x),some (false,.int y),some (false,.bl p),none]=some (.int q))->gb [.int x,.int y,.bl p]=some (false,.tup [.int ((x-y-q)%4294967296),.bl (decide (x-y-q<0))]):=λq hq he=>by
  have he':=he [];rw[NV];unfold U5;generalize qB (tE (z6 2)) (eC (.int 1)) (eC (.int 0))=EE at he';by_cases z:x-y-q<0
  ·have z1:decide (x-y-q<0)=true:=yQ z;have e:(x-y-q)%4294967296=x-y-q+4294967296:=by omega
   rw[e,z1];simp![he',z1,add_int]
  ·have z1:decide (x-y-q<0)=false:=xE z;have e:(x-y-q)%4294967296=x-y-q:=by omega
   rw[e,z1];simp![he',z1]
 cases p with
 |false=>exact key 0 (.inl rfl) λ_=>rfl
 |true=>exact key 1 (.inr rfl) λ_=>rfl
theorem XA{t:Int}{σ:zi}(h:σ[5]?=some (some (false,.int t))):qh (wO λi j=>decide (i<=j)) (wO λi j=>decide (i<j)) (eC (.int 0)) (z6 5) (eC (.int 4294967296)) σ=some (.bl (decide (0<=t)&&decide (t<4294967296))):=by
 have e:z6 5 σ=some (.int t):=by
  unfold z6;rw[h]
 by_cases z:0<=t
 ·have z1:decide (0<=t)=true:=yQ z;simp![qh,h,z1]
 ·have z1:decide (0<=t)=false:=xE z;simp![qh,h,z1,LV]
inductive ZS:Str->Prop
 |add:ZS "add" |addc:ZS "addc" |sub:ZS "sub" |subc:ZS "subc" |test:ZS "test"
theorem Ef{k:Str}(h:ZS k){x y:Int}(x0:0<=x)(x1:x<4294967296)(y0:0<=y)(y1:y<4294967296):∃(t:Int) (u:Bool),jS [.str k,.int x,.int y,.bl a]=some (false,.tup [.int (t%4294967296),.bl u])/\gZ [.str k,.int x,.int y,.bl a]=some (false,.tup [.int (t%4294967296),.bl u]):=by
 have h1:decide ((0:Int)<4294967296)=true:=by decide
 have o0:vG false=0:=rfl;have o1:vG true=1:=rfl
 have up:∀t:Int,0<=t->decide (4294967296<=t)=!(decide (0<=t)&&decide (t<4294967296)):=λt h=>by
  rw[yQ h];by_cases z:4294967296<=t
  ·rw[yQ z,xE (by omega)]; rfl
  ·rw[xE z,yQ (by omega)]; rfl
 have dn:∀t:Int,t<4294967296->decide (t<0)=!(decide (0<=t)&&decide (t<4294967296)):=λt h=>by
  rw[yQ h];by_cases z:t<0
  ·rw[yQ z,xE (by omega)]; rfl
  ·rw[xE z,yQ (by omega)]; rfl
 have b1:0<=vG a/\vG a<=1:=by cases a<;>exact⟨by decide,by decide⟩
 cases h with
 |add=>
  refine⟨x+y+vG false,decide (4294967296<=x+y+vG false),?_,?_⟩
  ·have q1:zh (.str "add") (.str "add")=some (.bl true):=rfl;rw[XI];unfold jb;simp![q1,Me]
  ·have q4:vM (.str "add") (.lst [.str "addc",.str "subc"])=some (.bl false):=rfl;have q5:vM (.str "add") (.lst [.str "add",.str "addc"])=some (.bl true):=rfl;rw[up _ (by omega),XH];unfold ja;generalize hch:qh (wO λi j=>decide (i<=j)) (wO λi j=>decide (i<j)) (eC (.int 0)) (z6 5) (eC (.int 4294967296))=CH;have ch:=λ(t:Int) (σ:zi) (h:σ[5]?=some (some (false,.int t)))=>hch▸XA h
   have c5:∀x0 x1 x2 x3 x4 t,CH [x0,x1,x2,x3,x4,some (false,.int t)]=some (.bl (decide (0<=t)&&decide (t<4294967296))):=λx0 x1 x2 x3 x4 t=>ch t _ rfl
   cases a<;>simp![q4,q5,add_int,c5,h1,o0,o1,j8,wq,xj]
 |addc=>
  refine⟨x+y+vG a,decide (4294967296<=x+y+vG a),?_,?_⟩
  ·have q1:zh (.str "addc") (.str "add")=some (.bl false):=rfl;have q2:zh (.str "addc") (.str "addc")=some (.bl true):=rfl;rw[XI];unfold jb;simp![q1,q2,Me]
  ·have q4:vM (.str "addc") (.lst [.str "addc",.str "subc"])=some (.bl true):=rfl;have q5:vM (.str "addc") (.lst [.str "add",.str "addc"])=some (.bl true):=rfl;rw[up _ (by omega),XH];unfold ja;generalize hch:qh (wO λi j=>decide (i<=j)) (wO λi j=>decide (i<j)) (eC (.int 0)) (z6 5) (eC (.int 4294967296))=CH;have ch:=λ(t:Int) (σ:zi) (h:σ[5]?=some (some (false,.int t)))=>hch▸XA h
   have c5:∀x0 x1 x2 x3 x4 t,CH [x0,x1,x2,x3,x4,some (false,.int t)]=some (.bl (decide (0<=t)&&decide (t<4294967296))):=λx0 x1 x2 x3 x4 t=>ch t _ rfl
   cases a<;>simp![q4,q5,add_int,c5,h1,o0,o1,j8,wq,xj]
 |sub=>
  refine⟨x-y-vG false,decide (x-y-vG false<0),?_,?_⟩
  ·have q1:zh (.str "sub") (.str "add")=some (.bl false):=rfl;have q2:zh (.str "sub") (.str "addc")=some (.bl false):=rfl;have q3:zh (.str "sub") (.str "subc")=some (.bl false):=rfl;rw[XI];unfold jb;cases a<;>simp![q1,q2,q3,Ox x0 x1 y0 y1]
  ·have q4:vM (.str "sub") (.lst [.str "addc",.str "subc"])=some (.bl false):=rfl;have q5:vM (.str "sub") (.lst [.str "add",.str "addc"])=some (.bl false):=rfl;rw[dn _ (by rw[o0]; omega),XH];unfold ja;generalize hch:qh (wO λi j=>decide (i<=j)) (wO λi j=>decide (i<j)) (eC (.int 0)) (z6 5) (eC (.int 4294967296))=CH;have ch:=λ(t:Int) (σ:zi) (h:σ[5]?=some (some (false,.int t)))=>hch▸XA h
   have c5:∀x0 x1 x2 x3 x4 t,CH [x0,x1,x2,x3,x4,some (false,.int t)]=some (.bl (decide (0<=t)&&decide (t<4294967296))):=λx0 x1 x2 x3 x4 t=>ch t _ rfl
   cases a<;>simp![q4,q5,add_int,c5,h1,o0,o1,j8,wq,xj]
 |subc=>
  refine⟨x-y-vG a,decide (x-y-vG a<0),?_,?_⟩
  ·have q1:zh (.str "subc") (.str "add")=some (.bl false):=rfl;have q2:zh (.str "subc") (.str "addc")=some (.bl false):=rfl;have q3:zh (.str "subc") (.str "subc")=some (.bl true):=rfl;rw[XI];unfold jb;cases a<;>simp![q1,q2,q3,Ox x0 x1 y0 y1]
  ·have q4:vM (.str "subc") (.lst [.str "addc",.str "subc"])=some (.bl true):=rfl;have q5:vM (.str "subc") (.lst [.str "add",.str "addc"])=some (.bl false):=rfl;rw[dn _ (by omega),XH];unfold ja;generalize hch:qh (wO λi j=>decide (i<=j)) (wO λi j=>decide (i<j)) (eC (.int 0)) (z6 5) (eC (.int 4294967296))=CH;have ch:=λ(t:Int) (σ:zi) (h:σ[5]?=some (some (false,.int t)))=>hch▸XA h
   have c5:∀x0 x1 x2 x3 x4 t,CH [x0,x1,x2,x3,x4,some (false,.int t)]=some (.bl (decide (0<=t)&&decide (t<4294967296))):=λx0 x1 x2 x3 x4 t=>ch t _ rfl
   cases a<;>simp![q4,q5,add_int,c5,h1,o0,o1,j8,wq,xj]
 |test=>
  refine⟨x-y-vG false,decide (x-y-vG false<0),?_,?_⟩
  ·have q1:zh (.str "test") (.str "add")=some (.bl false):=rfl;have q2:zh (.str "test") (.str "addc")=some (.bl false):=rfl;have q3:zh (.str "test") (.str "subc")=some (.bl false):=rfl;rw[XI];unfold jb;cases a<;>simp![q1,q2,q3,Ox x0 x1 y0 y1]
  ·have q4:vM (.str "test") (.lst [.str "addc",.str "subc"])=some (.bl false):=rfl;have q5:vM (.str "test") (.lst [.str "add",.str "addc"])=some (.bl false):=rfl;rw[dn _ (by rw[o0]; omega),XH];unfold ja;generalize hch:qh (wO λi j=>decide (i<=j)) (wO λi j=>decide (i<j)) (eC (.int 0)) (z6 5) (eC (.int 4294967296))=CH;have ch:=λ(t:Int) (σ:zi) (h:σ[5]?=some (some (false,.int t)))=>hch▸XA h
   have c5:∀x0 x1 x2 x3 x4 t,CH [x0,x1,x2,x3,x4,some (false,.int t)]=some (.bl (decide (0<=t)&&decide (t<4294967296))):=λx0 x1 x2 x3 x4 t=>ch t _ rfl
   cases a<;>simp![q4,q5,add_int,c5,h1,o0,o1,j8,wq,xj]
theorem KM{d s:Nat}{x y w g:Int}{u:Bool}(hd:Ws[d]?=some x)(hs:Ws[s]?=some y)(h:jS [.str "test",.int x,.int y,.bl a]=some (false,.tup [.int w,.bl u]))(hg:wt [.int w,.int 31,.int 1]=some (false,.int g)) :
  qY [st (wI Ws) a b c hk hv,.fz (.tup [.str "test",.int (d:Int),.int (s:Int)])]=some ([st (wI Ws) u (decide (w=0)) (decide (g=1)) hk hv,.fz (.tup [.str "test",.int (d:Int),.int (s:Int)])],.fz .zF):=by
 have hk0:uA (.str "test") (.str "test")=some (.bl false):=rfl;rw[DE];unfold Vo;simp![wH,jz,Jb,JZ,Oy,Zu hd,Zu hs,h,Tc,Oz,O_,JJ,JK,Up,Qp,OK,Ip,CD,Cc,Do hg,Mh,hk0]
end
def lt(k:Int):Str:=⟨#[97+k.toNat]⟩
theorem Gx{k:Int}(h0:0<=k)(h1:k<26):wb ("abcdefghijklmnopqrstuvwxyz" : Str).cps.toList k=some (97+k.toNat):=by
 have h:∀j:Fin 26,wb ("abcdefghijklmnopqrstuvwxyz" : Str).cps.toList (j.val:Int)=some (97+j.val):=by decide +kernel
 have:=h ⟨k.toNat,by omega⟩;rw[show((⟨k.toNat,by omega⟩:Fin 26).val:Int)=k by show(k.toNat:Int)=k; omega]at this;exact this
theorem Gy{k:Int}(h0:0<=k)(h1:k<26):zE (.str "abcdefghijklmnopqrstuvwxyz") (.int k)=some (.str (lt k)):=by
 show(wb _ k).bind _=_;rw[Gx h0 h1];rfl
theorem add_str{a b:Str}(h:a.length+b.length<=100000):y_ (.str a) (.str b)=some (.str (a++b)):=by
 show(if a.length+b.length<=yR then _ else _)=_;rw[zI (by show _<=16777216; omega)]
theorem Pe(a b:Str):(a++b).length=a.length+b.length:=Array.size_append
theorem Dr(k:Int):(lt k).length=1:=rfl
open PyProof.Rows
def Ie:FS:=(zx (xW 4 (zp vK (z8 (z6 0) (z8 (e2 y_ (eC (.int 30)) (z6 3)) zJ))))
    (zx (xW 5 (e2 zE (z6 1) (e2 wF (e2 y_ (zp vK (z8 (z6 0) (z8 (eC (.int 29)) zJ))) (e2 qD (eC (.int 9)) (z6 3))) (eC (.int 26)))))
    (TH 2 JP (e2 y_ (e2 y_ (e2 UM (eC (.str "q")) (e2 wF (z6 4) (eC (.int 4)))) (z6 5)) (e2 UM (eC (.str "q")) (e2 wF (e2 Zc (z6 4) (eC (.int 4))) (eC (.int 4))))))))
def X6:FS:=
 (zx (xW 1 (eC (.str "abcdefghijklmnopqrstuvwxyz")))
  (zx (jv 2 (wN zJ))
  (zx (ju (vp (eC (.int 0)) (eC (.int 3))) (yh 3)
   Ie)
  (zx (xr (tE (e2 zh (e2 wF (z6 0) (eC (.int 5))) (eC (.int 0))))
   (OX 2 (eC (.int 0)) (e2 zE (wN (z8 (eC (.str "stop")) (z8 (eC (.str "carry")) (z8 (eC (.str "jump")) (z8 (eC (.str "when")) zJ))))) (e2 wF (e2 Zc (z6 0) (eC (.int 5))) (eC (.int 4)))))
   wf)
  (pY 2)))))
def ZH:List D->Option (Bool×D):=FR 1 6 X6
theorem bc:∀ds r,ZH ds=some r->ds.length=1/\zj 6 X6 ds=some r:=yU
theorem DF(x0:D):ZH [x0]=zj 6 X6 [x0]:=rfl
def qn(a k b:Int):Str:=Txt.mul "q" a++lt k++Txt.mul "q" b
theorem aZ:("q" : Str)=⟨#[113]⟩:=by decide +kernel
theorem T7{a k b:Int}{x:Nat}:x∈(qn a k b).cps.toList->x=113\/x=97+k.toNat:=λh=>by
 have e:(qn a k b).cps.toList=(Txt.mul "q" a).cps.toList++[97+k.toNat]++(Txt.mul "q" b).cps.toList:=by
  unfold qn;show(((Txt.mul "q" a).cps++(lt k).cps)++(Txt.mul "q" b).cps).toList=_;rw[Tm,Tm];rfl
 rw[e,aZ,mul_one_list,mul_one_list]at h;rcases gA.mp h with h|h
 ·rcases gA.mp h with h|h
  ·exact .inl (Li h)
  ·exact .inr (Tv.mp h)
 ·exact .inl (Li h)
theorem Cg{a k b:Int}:97+k.toNat∈(qn a k b).cps.toList:=by
 have e:(qn a k b).cps.toList=(Txt.mul "q" a).cps.toList++[97+k.toNat]++(Txt.mul "q" b).cps.toList:=by
  unfold qn;show(((Txt.mul "q" a).cps++(lt k).cps)++(Txt.mul "q" b).cps).toList=_;rw[Tm,Tm];rfl
 rw[e];simp
theorem ON{a k b a' k' b':Int}(h0:0<=k)(h0':0<=k')(h:k≠k'):qn a k b≠qn a' k' b':=λe=>by
 have h1:=T7 (a:=a') (k:=k') (b:=b') (x:=97+k.toNat) (e▸Cg);have h2:=T7 (a:=a) (k:=k) (b:=b) (x:=97+k'.toNat) (e▸Cg);omega
theorem TU{s:Str}{x y:Nat}{a k b:Int}(hx:x∈s.cps.toList)(hy:y∈s.cps.toList)(hxy:x≠y)(h1:x≠113)(h2:y≠113):s≠qn a k b:=λe=>by
 subst e;have:=T7 hx;have:=T7 hy;omega
theorem Dz{j:Int}(h0:0<=j)(h1:j<4):UM (.str "q") (.int j)=some (.str (Txt.mul "q" j)):=by
 show(match decide (("q" : Str).length<=16)&&(decide (0<=j)&&decide (j<=1000))with|true=>some (D.str (Txt.mul "q" j))|false=>none)=_;rw[show decide (("q" : Str).length<=16)=true by decide +kernel,yQ h0,yQ (by omega)];rfl
theorem D_{j:Int}(h1:j<4):(Txt.mul "q" j).length<=1*4:=len_mul_leN (L:=1) (N:=4) (by decide +kernel) (by omega)
structure Md(n0 n1 n2:Str):Prop where
 a:n0≠n1
 b:n0≠n2
 c:n1≠n2
theorem RG(c:Int):∃n0 n1 n2:Str,ZH [.int c]=some (true,.lst [.str n0,.str n1,.str n2])/\Md n0 n1 n2:=by
 obtain⟨mx,hmx⟩:∃mx:Int->Int,∀k,vK [.int c,.int k]=some (false,.int (mx k))/\0<=mx k:=⟨λk=>Classical.choose (qy c k),λk=>⟨(GJ (qy c k)).1,(GJ (qy c k)).2.1⟩⟩;have m29:=(hmx 29).1;have p29:=(hmx 29).2
 let nk:Nat->Str:=λk=>qn (mx (30+(k:Int))%4) ((mx 29+9*(k:Int))%26) (mx (30+(k:Int))/4%4)
 have r3:∀τ:zi,vp (eC (.int 0)) (eC (.int 3)) τ=some (v7 3):=λτ=>kR (n:=3) rfl (by decide)
 obtain⟨σ',e1,x3,x4,x5,rfl⟩:=kG (g:=yh 3) (b:=Ie) (λi σ=>∃x3 x4 x5:Option Sl,σ=[some (false,.int c),some (false,.str "abcdefghijklmnopqrstuvwxyz"),some (true,.lst ((List.range i).map λk=>D.str (nk k))),x3,x4,x5])
  (ds:=v7 3) (σ:=[some (false,.int c),some (false,.str "abcdefghijklmnopqrstuvwxyz"),some (true,.lst []),none,none,none]) 0 ⟨none,none,none,rfl⟩ λi d σ hd hp=>by
   obtain⟨x3,x4,x5,rfl⟩:=hp;rw[wp];obtain⟨hi,rfl⟩:=L4 hd;have mk:=(hmx (30+(i:Int))).1;have pk:=(hmx (30+(i:Int))).2;have ix:=Gy (k:=(mx 29+9*(i:Int))%26) (by omega) (by omega);have l9:tR 9=true:=by decide
   have q1:=Dz (j:=mx (30+(i:Int))%4) (by omega) (by omega);have q2:=Dz (j:=mx (30+(i:Int))/4%4) (by omega) (by omega);have ln1:=D_ (j:=mx (30+(i:Int))%4) (by omega);have ln2:=D_ (j:=mx (30+(i:Int))/4%4) (by omega);have a1:y_ (.str (Txt.mul "q" (mx (30+(i:Int))%4))) (.str (lt ((mx 29+9*(i:Int))%26)))=some (.str (Txt.mul "q" (mx (30+(i:Int))%4)++lt ((mx 29+9*(i:Int))%26))):=add_str (by rw[Dr]; omega);have a2:y_ (.str (Txt.mul "q" (mx (30+(i:Int))%4)++lt ((mx 29+9*(i:Int))%26))) (.str (Txt.mul "q" (mx (30+(i:Int))/4%4)))=some (.str (nk i)):=add_str (by rw[Pe,Dr]; omega)
   have ap:JP (.lst ((List.range i).map λk=>D.str (nk k))) (.str (nk i))=some (.lst ((List.range (i+1)).map λk=>D.str (nk k))):=by
    show(if((List.range i).map λk=>D.str (nk k)).length<yR then some (D.lst (((List.range i).map λk=>D.str (nk k))++[_]))else none)=_;rw[zI (by rw[zo,jA]; show _<16777216; omega),List.range_succ,jC];rfl
   refine⟨_,[some (false,.int c),some (false,.str "abcdefghijklmnopqrstuvwxyz"),some (true,.lst ((List.range (i+1)).map λk=>D.str (nk k))),some (false,.int (i:Int)),some (false,.int (mx (30+(i:Int)))),some (false,.str (lt ((mx 29+9*(i:Int))%26)))],rfl,.inl ?_,_,_,_,rfl⟩;unfold Ie;generalize ((List.range i).map λk=>D.str (nk k))=LL at *;generalize ((List.range (i+1)).map λk=>D.str (nk k))=LM at *;generalize nk i=NK at *;simp![add_int,mk,m29,l9,ix,q1,q2,a1,a2,ap,jH,Tn]
 have lu:(v7 3).length=3:=by rw[zo,jA]
 rw[wp,lu]at e1;have e0:(List.range 3).map (λk=>D.str (nk k))=[.str (nk 0),.str (nk 1),.str (nk 2)]:=rfl;rw[e0]at e1;have d01:nk 0≠nk 1:=ON (by omega) (by omega) (by omega);have d02:nk 0≠nk 2:=ON (by omega) (by omega) (by omega);have d12:nk 1≠nk 2:=ON (by omega) (by omega) (by omega)
 have sp:∀s:Str,(s = "stop" \/ s = "carry" \/ s = "jump" \/ s = "when")->∀k,s≠nk k:=λs hs k=>by
  rcases hs with rfl|rfl|rfl|rfl
  ·exact TU (x:=115) (y:=116) (by decide +kernel) (by decide +kernel) (by decide) (by decide) (by decide)
  ·exact TU (x:=99) (y:=97) (by decide +kernel) (by decide +kernel) (by decide) (by decide) (by decide)
  ·exact TU (x:=106) (y:=117) (by decide +kernel) (by decide +kernel) (by decide) (by decide) (by decide)
  ·exact TU (x:=119) (y:=104) (by decide +kernel) (by decide +kernel) (by decide) (by decide) (by decide)
 by_cases z:c%5=0
 ·obtain⟨s,es,hs⟩:∃s:Str,zE (.lst [.str "stop",.str "carry",.str "jump",.str "when"]) (.int (c/5%4))=some (.str s)/\(s = "stop" \/ s = "carry" \/ s = "jump" \/ s = "when"):=by
   rcases(show c/5%4=0\/c/5%4=1\/c/5%4=2\/c/5%4=3 by omega)with h|h|h|h<;>rw[h]
   ·exact⟨_,rfl,.inl rfl⟩
   ·exact⟨_,rfl,.inr (.inl rfl)⟩
   ·exact⟨_,rfl,.inr (.inr (.inl rfl))⟩
   ·exact⟨_,rfl,.inr (.inr (.inr rfl))⟩
  refine⟨s,nk 1,nk 2,?_,sp s hs 1,sp s hs 2,d12⟩;have q5:zh (.int (c%5)) (.int 0)=some (.bl true):=Uj z;have n30':L2.ixN 3 0=some 0:=rfl;rw[DF];unfold X6;generalize nk 0=A0 at *;generalize nk 1=A1 at *;generalize nk 2=A2 at *;simp![OX,r3,e1,q5,es,n30',jH,Tn]
 ·refine⟨nk 0,nk 1,nk 2,?_,d01,d02,d12⟩;have q5:zh (.int (c%5)) (.int 0)=some (.bl false):=kD z;rw[DF];unfold X6;generalize nk 0=A0 at *;generalize nk 1=A1 at *;generalize nk 2=A2 at *;simp![r3,e1,q5,jH,Tn]
end L3
namespace L3
open PySem
def OT:FA:=(vp (eC (.int 0)) (e2 y_ (eL uT (z8 (z6 0) zJ)) (eC (.int 1))))
def LD:FE:=(wR (z8 (eC (.str "label")) (z8 (z6 5) zJ)))
def Wv:FT:=(tE (e2 zh (z6 6) (z6 4)))
def Ic:FS:=(zx (Xg 3 (wx 2 (XM (z6 2) (z6 1)) (qF 5 6) Wv LD))
    (Xg 3 (JL (z6 0) (Uz (z6 4)) (Uz (e2 y_ (z6 4) (eC (.int 1)))))))
def Vw:FS:=
 (zx (jv 3 (wN zJ))
  (zx (ju OT (yh 4)
   Ic)
  (pY 3)))
def gX:List D->Option (Bool×D):=FR 3 5 Vw
theorem bY:∀ds r,gX ds=some r->ds.length=3/\zj 5 Vw ds=some r:=yU
theorem NG(x0 x1 x2:D):gX [x0,x1,x2]=zj 5 Vw [x0,x1,x2]:=rfl
def zD(q:Str×Nat):D:=.tup [.str q.1,.int (q.2:Int)]
def wd(Z:List (Str×Nat))(i:Nat):List D:=(Z.filter λq=>decide (q.2=i)).map λq=>qI q.1
theorem Dg{Z:List (Str×Nat)}{i:Nat}:∀d∈wd Z i,vk d/\xv d=true:=λd hd=>by
 obtain⟨q,_,rfl⟩:=ug.mp hd;exact⟨.label _,rfl⟩
theorem PZ{Z:List (Str×Nat)}{i:Nat}:(wd Z i).filter (λd=>!xv d)=[]:=List.filter_eq_nil_iff.mpr λd hd=>by
 rw[(Dg d hd).2]
 decide
theorem PY{Z:List (Str×Nat)}{i:Nat}:(wd Z i).length<=Z.length:=by
 unfold wd;rw[zo];exact GU ..
theorem Ih{t:Str}{i:Nat}:∀(Z:List (Str×Nat)) (L:List D),(xw t (L++wd Z i)).2=if(t,i)∈Z then some (L.filter λd=>!xv d).length else(xw t L).2
 | [],L=>by
  show(xw t (L++[])).2=_;rw[vg,zK (by simp)]
 |q::Z,L=>by
  by_cases c:q.2=i
  ·have e:wd (q::Z) i=qI q.1::wd Z i:=by
    unfold wd;rw[Yb,zI (yQ c),xA]
   rw[e,show L++qI q.1::wd Z i=(L++[qI q.1])++wd Z i by simp,Ih Z,CG]
   have e2:(L++[qI q.1]).filter (λd=>!xv d)=L.filter λd=>!xv d:=by
    rw[Wz];show _++[]=_;rw[vg]
   rw[e2];by_cases m:(t,i)∈Z
   ·rw[zI m,zI (xP _ m)]
   ·rw[zK m];by_cases h:q.1=t
    ·rw[zI h,zI (by rw[<-h,<-c]; exact yr)]
    ·rw[zK h,zK λz=>by
      rcases yY.mp z with z|z
      ·exact h (by rw[<-z])
      ·exact m z]
  ·have e:wd (q::Z) i=wd Z i:=by
    unfold wd;rw[Yb,zK (by rw[xE c]; decide)]
   rw[e,Ih Z];by_cases m:(t,i)∈Z
   ·rw[zI m,zI (xP _ m)]
   ·rw[zK m,zK λz=>by
     rcases yY.mp z with z|z
     ·exact c (by rw[<-z])
     ·exact m z]
structure Qe(Z:List (Str×Nat))(rows items:List D):Prop where
 it:∀d∈items,vk d
 rw:items.filter (λd=>!xv d)=rows
 ln:items.length<=1000
 pl:∀q∈Z,(xw q.1 items).2=some q.2
theorem Nv{Z:List (Str×Nat)}{rows:List D}(hZ:(Z.map (·.1)).Nodup)(h3:Z.length<=3)(hp:∀q∈Z,q.2<=rows.length)(hr:∀r∈rows,vk r/\xv r=false)(hl:rows.length<=20) :
  ∃items,gX [.lst rows,.lst (Z.map λq=>.int (q.2:Int)),.lst (Z.map λq=>.str q.1)]=some (true,.lst items)/\Qe Z rows items:=by
 have uniq:∀{t:Str}{p p':Nat},(t,p)∈Z->(t,p')∈Z->p=p':=λ{t p p'} h h'=>by
  clear hp h3
  induction Z with
  |nil=>cases h
  |cons q Z ih=>
   rw[xA,Yh]at hZ;rcases yY.mp h with e|h
   ·rcases yY.mp h' with e'|h'
    ·rw[<-e]at e';exact(congrArg Prod.snd e').symm
    ·exact absurd (Lo (f:=(·.1)) h') (by rw[<-e]at hZ; exact hZ.1)
   ·rcases yY.mp h' with e'|h'
    ·exact absurd (Lo (f:=(·.1)) h) (by rw[<-e']at hZ; exact hZ.1)
    ·exact ih hZ.2 h h'
 have rg:OT [some (false,.lst rows),some (false,.lst (Z.map λq=>.int (q.2:Int))),some (false,.lst (Z.map λq=>.str q.1)),some (true,.lst []),none]=some (v7 (rows.length+1)):=by
  unfold OT;have:=kR (f:=e2 y_ (eL uT (z8 (z6 0) zJ)) (eC (.int 1))) (τ:=[some (false,.lst rows),some (false,.lst (Z.map λq=>.int (q.2:Int))),some (false,.lst (Z.map λq=>.str q.1)),some (true,.lst []),none]) (n:=((rows.length+1:Nat):Int)) rfl (by omega);rw[p9]at this;exact this
 obtain⟨σ',e1,L,x4,a1,a2,a3,a4,rfl⟩:=kG (g:=yh 4) (b:=Ic) (λi σ=>∃(L:List D) (x4:Option Sl),(∀d∈L,vk d)/\L.filter (λd=>!xv d)=rows.take i/\L.length<=4*i/\(∀q∈Z,(xw q.1 L).2=if q.2<i then some q.2 else none)/\σ=[some (false,.lst rows),some (false,.lst (Z.map λq=>.int (q.2:Int))),some (false,.lst (Z.map λq=>.str q.1)),some (true,.lst L),x4])
  (ds:=v7 (rows.length+1)) (σ:=[some (false,.lst rows),some (false,.lst (Z.map λq=>.int (q.2:Int))),some (false,.lst (Z.map λq=>.str q.1)),some (true,.lst []),none]) 0 ⟨[],none,λ_ h=>absurd h (by simp),rfl,by simp,λq _=>by rw[zK (by omega)]; rfl,rfl⟩ λi d σ hd hp'=>by
   obtain⟨L,x4,a1,a2,a3,a4,rfl⟩:=hp';rw[wp]at *;obtain⟨hi,rfl⟩:=L4 hd
   have zz:XM (z6 2) (z6 1) [some (false,.lst rows),some (false,.lst (Z.map λq=>.int (q.2:Int))),some (false,.lst (Z.map λq=>.str q.1)),some (true,.lst L),some (false,.int (i:Int))]=some (Z.map zD):=by
    show some (List.zipWith (λx y=>D.tup [x,y]) (Z.map λq=>D.str q.1) (Z.map λq=>D.int (q.2:Int)))=_
    congr 1
    clear hp h3 uniq hZ a4 rg hd
    induction Z with
    |nil=>rfl
    |cons q Z ih=>
     rw[xA,xA,Yj,ih,xA];rfl
   have cz:xq (qF 5 6) Wv LD [some (false,.lst rows),some (false,.lst (Z.map λq=>.int (q.2:Int))),some (false,.lst (Z.map λq=>.str q.1)),some (true,.lst L),some (false,.int (i:Int)),none,none] (Z.map zD)=some (wd Z i):=by
    generalize hσ:([some (false,.lst rows),some (false,.lst (Z.map λq=>.int (q.2:Int))),some (false,.lst (Z.map λq=>.str q.1)),some (true,.lst L),some (false,.int (i:Int)),none,none]:zi)=S
    have one:∀q:Str×Nat,∃σ1,qF 5 6 (zD q) S=some σ1/\Wv σ1=some (decide (q.2=i))/\LD σ1=some (qI q.1):=λq=>by
     subst hσ;refine⟨_,rfl,?_,rfl⟩;by_cases h:q.2=i
     ·rw[yQ h];have qq:zh (.int (q.2:Int)) (.int (i:Int))=some (.bl true):=Uj (by omega);unfold Wv;simp![qq]
     ·rw[xE h];have qq:zh (.int (q.2:Int)) (.int (i:Int))=some (.bl false):=kD (by omega);unfold Wv;simp![qq]
    clear hσ hp h3 uniq hZ a4 rg hd zz
    induction Z with
    |nil=>rfl
    |cons q Z ih=>
     obtain⟨σ1,c1,c2,c3⟩:=one q;rw[xA];unfold wd;by_cases h:q.2=i
     ·rw[yQ h]at c2;rw[Yb,zI (yQ h),xA];simp only[xq,c1,c2,c3,kj,ih];rfl
     ·rw[xE h]at c2;rw[Yb,zK (by rw[xE h]; decide)];simp only[xq,c1,c2,kj,ih];rfl
   have cut:pN rows (some (i:Int)) (some ((i:Int)+1))=(rows.drop i).take 1:=by
    unfold pN;rw[show(i:Int)+1=((i+1:Nat):Int) by omega,HT.sIx_nat,HT.sIx_nat];by_cases z:i<rows.length
    ·rw[show min i rows.length=i by omega,show min (i+1) rows.length-i=1 by omega]
    ·rw[Tq (by omega),Tq (by omega),List.take_nil,List.take_nil]
   have lb:=PY (Z:=Z) (i:=i);have lc:((rows.drop i).take 1).length<=1:=by rw[tj]; omega
   have g1:L.length+(wd Z i).length<=yR:=by show _<=16777216; omega
   have g2:(L++wd Z i).length+((rows.drop i).take 1).length<=yR:=by rw[yL]; show _<=16777216; omega
   refine⟨_,[some (false,.lst rows),some (false,.lst (Z.map λq=>.int (q.2:Int))),some (false,.lst (Z.map λq=>.str q.1)),some (true,.lst ((L++wd Z i)++(rows.drop i).take 1)),some (false,.int (i:Int))],rfl,.inl ?_,_,_,?_,?_,?_,?_,rfl⟩
   ·unfold Ic;generalize ((rows.drop i).take 1)=RR at *;generalize wd Z i=LB at *;generalize Z.map zD=ZD at *;simp![Xg,JL,Uz,Bq,zz,cz,zI g1,zI g2,add_int,cut]
   ·intro d hd;rcases gA.mp hd with hd|hd
    ·rcases gA.mp hd with hd|hd
     ·exact a1 d hd
     ·exact(Dg d hd).1
    ·exact(hr d (Lq (Tu hd))).1
   ·rw[Wz,Wz,PZ,a2,vg]
    have:((rows.drop i).take 1).filter (λd=>!xv d)=(rows.drop i).take 1:=GP.mpr λd hd=>by
     rw[(hr d (Lq (Tu hd))).2];rfl
    rw[this,<-List.take_add]
   ·rw[yL,yL];omega
   ·intro q hq
    have e1:(xw q.1 ((L++wd Z i)++(rows.drop i).take 1)).2=(xw q.1 (L++wd Z i)).2:=by
     rcases h:(rows.drop i).take 1 with _|⟨r,zn⟩
     ·rw[vg]
     ·have hr1:zn=[]:=by
       have:=congrArg List.length h;rw[yO]at this;exact GN (by omega)
      subst hr1;exact CJ (hr r (Lq (Tu (by rw[h]; exact yr)))).2
    have hq2:=hp q hq;rw[e1,Ih,a2,tj,a4 q hq];by_cases c:q.2=i
    ·rw[zI (by rw[<-c]; exact hq),zI (by omega),show min i rows.length=q.2 by omega]
    ·rw[zK λz=>c (uniq hq z)];by_cases z:q.2<i
     ·rw[zI z,zI (by omega)]
     ·rw[zK z,zK (by omega)]
 have lu:(v7 (rows.length+1)).length=rows.length+1:=by rw[zo,jA]
 simp only[wp,lu]at a2 a3 a4;refine⟨L,?_,a1,by rw[a2,List.take_of_length_le (by omega)],by omega,λq hq=>by rw[a4 q hq,zI (by have:=hp q hq; omega)]⟩;rw[NG];unfold Vw;simp![rg,e1]
def qP(rows tgs:List D)(n:Nat):List D:=(List.range n).map λk:Nat=>.tup [rows.getD k .zF,.int ((k:Int)+1),tgs.getD k .zF]
theorem fX{rows tgs:List D}{n:Nat}:xf (vS n) (.inl (n:Int))=vS (n+1)/\ya (vS n) (qP rows tgs n) (.inl (n:Int)) (.tup [rows.getD n .zF,.int ((n:Int)+1),tgs.getD n .zF])=qP rows tgs (n+1):=by
 unfold xf ya;rw[zK (by rw[El]; decide),zK (by rw[El]; decide)];unfold vS qP;rw[List.range_succ,jC,jC];exact⟨rfl,rfl⟩
theorem Ek{rows tgs:List D}{k n:Nat}(h:k<n):zE (.dic (vS n) (qP rows tgs n)) (.int (k:Int))=some (.tup [rows.getD k .zF,.int ((k:Int)+1),tgs.getD k .zF]):=by
 show(vN (.int (k:Int))).bind _=_;exact Jf (g:=λk:Nat=>.tup [rows.getD k .zF,.int ((k:Int)+1),tgs.getD k .zF]) (Yg.mpr h)
theorem fV{items rows tgs:List D}(h1:t_ [.lst items]=some (true,.lst rows))(h2:pI [.lst items]=some (true,.lst tgs))(h3:tgs.length=rows.length)(hl:rows.length<=1000):ZM [.lst items]=some (true,.dic (vS rows.length) (qP rows tgs rows.length)):=by
 have en:Uf (vo pI (z8 (z6 0) zJ)) [some (false,.lst items),some (false,.lst rows),some (true,.dic [] []),none,none]=some (pU tgs):=by
  unfold Uf;simp![h2]
 obtain⟨σ',e1,x,y,rfl⟩:=kG (g:=qF 3 4) (b:=Ig) (λi σ=>∃x y:Option Sl,σ=[some (false,.lst items),some (false,.lst rows),some (true,.dic (vS i) (qP rows tgs i)),x,y])
  (ds:=pU tgs) (σ:=[some (false,.lst items),some (false,.lst rows),some (true,.dic [] []),none,none]) 0 ⟨none,none,rfl⟩ λi d σ hd hp=>by
   obtain⟨x,y,rfl⟩:=hp;rw[wp]
   have hi:i<rows.length:=by
    have:=(yD.mp hd).1;rw[XW]at this;omega
   have hi':i<tgs.length:=by omega
   rw[Fa,xD hi']at hd;cases hd;have gt:tgs[i]=tgs.getD i .zF:=by rw[ue,xD hi']; rfl
   rw[gt]
   have ix:zE (.lst rows) (.int (i:Int))=some (rows.getD i .zF):=by
    show wb rows (i:Int)=_;unfold wb;rw[zI (YX i),p9,ue,xD hi];rfl
   obtain⟨q1,q2⟩:=fX (rows:=rows) (tgs:=tgs) (n:=i);have ll:(vS i).length<yR:=by unfold vS; rw[zo,jA]; show _<16777216; omega
   have ky:vN (.int (i:Int))=some (.inl (i:Int)):=rfl;refine⟨_,[some (false,.lst items),some (false,.lst rows),some (true,.dic (vS (i+1)) (qP rows tgs (i+1))),some (false,.int (i:Int)),some (false,tgs.getD i .zF)],rfl,.inl ?_,_,_,rfl⟩;rw[<-q1,<-q2];unfold Ig;simp![ub,ix,add_int,ky,zI ll]
 rw[wp,XW,h3]at e1;rw[NU];unfold U4;generalize pU tgs=NN at en e1;simp![h1,en,e1]
theorem P_{T md:D}{e:Int}{Ws:List Int}{ps:List (Int×Int)}(hl:Ws.length=8)(hw:∀w∈Ws,0<=w/\w<4294967296)(hm:pF [md]=some (true,.dic (kP ps) (vP ps))) :
  Z7 [.obj "RowMachine" [] [],.fz T,.fz (.int e),.fz (.lst (wI Ws)),.fz md]=some ([wG T e (.lst (wI Ws)) (.dic (kP ps) (vP ps)) (st (wI Ws) false false false (kP ps) (vP ps)) 0 0,.fz T,.fz (.int e),.fz (.lst (wI Ws)),.fz md],.fz .zF):=by
 have p1:∀{x:M}{zn:zm},tV x (some (.obj "RowMachine" [] [])::zn) 0 [] ["RowMachine"] "table" = some (.nx (some (.obj "RowMachine" ["table"] [x])::zn)):=rfl;have p2:∀{a x:M}{zn:zm},tV x (some (.obj "RowMachine" ["table"] [a])::zn) 0 [] ["RowMachine"] "end" = some (.nx (some (.obj "RowMachine" ["table", "end"] [a,x])::zn)):=rfl;have p3:∀{a b x:M}{zn:zm},tV x (some (.obj "RowMachine" ["table", "end"] [a,b])::zn) 0 [] ["RowMachine"] "first_words" = some (.nx (some (.obj "RowMachine" ["table", "end", "first_words"] [a,b,x])::zn)):=rfl;have p4:∀{a b c x:M}{zn:zm},tV x (some (.obj "RowMachine" ["table", "end", "first_words"] [a,b,c])::zn) 0 [] ["RowMachine"] "first_held" = some (.nx (some (.obj "RowMachine" ["table", "end", "first_words", "first_held"] [a,b,c,x])::zn)):=rfl;have ag:=HA (T:=T) (e:=e) (fw:=.zF) (fh:=.zF) (Ws:=Ws) (hk:=kP ps) (hv:=vP ps) (fs:=[]) (ms:=[]);have ct:∀{a b c d:M}{zn:zm},ZX "RowMachine" "again" 0 [] jO wY (some (.obj "RowMachine" ["table", "end", "first_words", "first_held"] [a,b,c,d])::zn)=gr jO [.p 0 []] (some (.obj "RowMachine" ["table", "end", "first_words", "first_held"] [a,b,c,d])::zn):=rfl;rw[Kt];unfold Qs;simp![yN.eq_1,uU.eq_1,uV.eq_1,yb.eq_1,qr.eq_1,hide.eq_1,vH.eq_1,XC.eq_1,XC.eq_2,qA.eq_1,qA.eq_2,@Option.map_some.{0,0},@GY.{0},@Tw.{0},p1,p2,p3,p4,ir hl hw,hm,ct];simp![wH,ag]
theorem b7{items rows tgs:List D}{md:D}{Ws:List Int}{ps:List (Int×Int)}(h1:t_ [.lst items]=some (true,.lst rows))(h2:pI [.lst items]=some (true,.lst tgs))(h3:tgs.length=rows.length)(hrl:rows.length<=1000)(hl:Ws.length=8)(hw:∀w∈Ws,0<=w/\w<4294967296)(hm:pF [md]=some (true,.dic (kP ps) (vP ps))) :
  pE [.obj "RowMachine" [] [],.fz (.lst items),.fz (.lst (wI Ws)),.fz md]=some ([wG (.dic (vS rows.length) (qP rows tgs rows.length)) rows.length (.lst (wI Ws)) (.dic (kP ps) (vP ps)) (st (wI Ws) false false false (kP ps) (vP ps)) 0 0,.fz (.lst items),.fz (.lst (wI Ws)),.fz md],.fz .zF):=by
 have ar:gl (.obj "RowMachine" [] []) 0 []=.p 0 []:=rfl
 have fl:JT [.dic (vS rows.length) (qP rows tgs rows.length)]=some (.int rows.length):=by
  show some (D.int ((vS rows.length).length:Int))=_;unfold vS;rw[zo,jA]
 rw[N0];unfold Qu;simp![wH,fV h1 h2 h3 hrl,fl,ar,P_ hl hw hm]
def vT(items:List D)(r:D):D:=match kE r with
 |true=>match Dh r with
  |.str t=>(((xw t items).2).map λn:Nat=>D.int n).getD .zF
  |_=>.zF
 |false=>.zF
inductive RJ(Z:List (Str×Nat))(RK:D->Prop):D->Prop
 |plain {r:D} (h:RK r):RJ Z RK r
 |stop:RJ Z RK (.tup [.str "stop"])
 |t7 {q:Str×Nat} (h:q∈Z):RJ Z RK (.tup [.str "jump",.str q.1])
 |cond {w k:Str} {q:Str×Nat} (hw:w = "when" \/ w = "unless") (hk:k = "carry" \/ k = "nought" \/ k = "sign") (h:q∈Z):RJ Z RK (.tup [.str w,.str k,.str q.1])
structure Hd(r:D):Prop where
 pr:pJ r
 w:∃w,zE r (.int 0)=some (.str w)/\zh (.str w) (.str "stop")=some (.bl false)/\Ze (.str w) (.lst [.str "jump",.str "when",.str "unless"])=some (.bl true)
theorem E7{Z:List (Str×Nat)}{RK:D->Prop}(hK:∀r,RK r->Hd r){r:D}(h:RJ Z RK r):vk r/\xv r=false:=by
 cases h with
 |plain h=>exact⟨.plain (hK r h).pr,(OW (m:=0) (.inl (hK r h).pr)).choose_spec.2.2.1⟩
 |stop=>exact⟨.plain .stop,rfl⟩
 |t7 h=>exact⟨.t7 _,rfl⟩
 |cond hw hk h=>exact⟨.cond _ hw hk,by rcases hw with rfl|rfl<;>rfl⟩
theorem fW{Z:List (Str×Nat)}{RK:D->Prop}{rows items:List D}(hK:∀r,RK r->Hd r)(hr:∀r∈rows,RJ Z RK r)(Y:Qe Z rows items):t_ [.lst items]=some (true,.lst rows)/\pI [.lst items]=some (true,.lst (rows.map (vT items))):=by
 obtain⟨ks,vs,f1,hk⟩:=PV Y.it Y.ln;have f2:=b9 Y.it;rw[Y.rw]at f2;refine⟨f2,?_⟩
 have f3:=Ik (g:=yh 2) (e:=YS) (σ:=[some (false,.lst items),some (false,.dic ks vs),none]) (ds:=rows) (vT items) λr hm=>by
  have hj:=Nr (E7 hK (hr r hm)).1;refine⟨[some (false,.lst items),some (false,.dic ks vs),some (false,r)],rfl,?_⟩
  have jmp:∀(t:Str)(p:Nat),kE r=true->zE r (.int (-1))=some (.str t)->Dh r=.str t->(xw t items).2=some p->YS [some (false,.lst items),some (false,.dic ks vs),some (false,r)]=some (vT items r):=λt p z l1 l2 l3=>by
   have eg:zE (.dic ks vs) (.str t)=some (.int (p:Int)):=by
    show getK ks vs (.inr t)=_;rw[hk,l3];rfl
   have tg:vT items r=.int (p:Int):=by
    unfold vT;rw[z,l2];show(((xw t items).2).map λn:Nat=>D.int n).getD .zF=_;rw[l3];rfl
   rw[z]at hj;rw[tg];unfold YS;simp![hj,l1,eg]
  have no:kE r=false->YS [some (false,.lst items),some (false,.dic ks vs),some (false,r)]=some (vT items r):=λz=>by
   have tg:vT items r=.zF:=by
    unfold vT;rw[z]
   rw[z]at hj;rw[tg];unfold YS;simp![hj]
  cases hr r hm with
  |plain h=>exact no (OC (hK r h).pr).choose_spec.2.2.2.1
  |stop=>exact no rfl
  |@t7 q h=>exact jmp q.1 q.2 rfl rfl rfl (Y.pl q h)
  |@cond w k q hw hk' h=>exact jmp q.1 q.2 (by rcases hw with rfl|rfl<;>rfl) rfl rfl (Y.pl q h)
 rw[NW];unfold U6;simp![f1,f2,f3]
def ZV:yH:=
 (yN (tS (qQ (kY (tE (e2 zh (e2 zE (z6 3) (eC (.str "at"))) (eL uT (z8 (z6 0) zJ)))) (tE (e2 zh (e2 zE (e2 zE (z6 0) (e2 zE (z6 3) (eC (.str "at")))) (eC (.int 0))) (eC (.str "stop"))))))
   (qw (yb (eC (.bl false))))
   qJ)
  (yN (vE 4 (uR (e2 zE (z6 0) (e2 zE (z6 3) (eC (.str "at"))))))
  (yN (XU 3 [] "many" (eC (.int 1)))
  (yN (XU 3 [] "at" (eC (.int 1)))
  (yN (tS (qQ (tE (e2 Ze (e2 zE (z6 4) (eC (.int 0))) (wN (z8 (eC (.str "jump")) (z8 (eC (.str "when")) (z8 (eC (.str "unless")) zJ)))))))
   (uU (u8 gU (wX (z6 4) (u7 3 [] wY))))
   (tS (qQ (kY (tE (e2 zh (e2 zE (z6 4) (eC (.int 0))) (eC (.str "jump")))) (tE (e2 zh (e2 zE (e2 zE (z6 3) (eC (.str "marks"))) (e2 ur (wN (z8 (eC (.str "carry")) (z8 (eC (.str "nought")) (z8 (eC (.str "sign")) zJ)))) (e2 zE (z6 4) (eC (.int 1))))) (e2 zh (e2 zE (z6 4) (eC (.int 0))) (eC (.str "when")))))))
     (Uv 3 [] "at" (yb (e2 zE (z6 1) (e2 ur (z6 2) (e2 zE (z6 4) (e1 Zd (eC (.int 1))))))))
     qJ))
  (qw (yb (eC (.bl true)))))))))
def pG:FM:=w6 4 5 ZV
theorem UX(x0 x1 x2 x3:M):pG [x0,x1,x2,x3]=vH 4 5 ZV [x0,x1,x2,x3]:=rfl
def V_:FS:=
 (yX (UG (e2 zh (e2 zE (z6 1) (eC (.str "at"))) (eL uT (z8 (z6 0) zJ))) (e2 zh (e2 zE (e2 zE (z6 0) (e2 zE (z6 1) (eC (.str "at")))) (eC (.int 0))) (eC (.str "stop")))))
def gY:List D->Option (Bool×D):=FR 2 2 V_
theorem bg:∀ds r,gY ds=some r->ds.length=2/\zj 2 V_ ds=some r:=yU
theorem NL(x0 x1:D):gY [x0,x1]=zj 2 V_ [x0,x1]:=rfl
def gi(g:Nat)(RK:D->Prop):Prop:=∀(r:D)(Ws:List Int)(a b c:Bool)(ps:List (Int×Int)),RK r->Ws.length=8->(∀w∈Ws,0<=w/\w<4294967296)->qc ps->ps.length<=800->∃(Ws':List Int) (a' b' c':Bool) (ps':List (Int×Int)),Ws'.length=8/\(∀w∈Ws',0<=w/\w<4294967296)/\qc ps'/\ps'.length<=ps.length+g/\
  jP [st (wI Ws) a b c (kP ps) (vP ps),.fz r]=some ([st (wI Ws') a' b' c' (kP ps') (vP ps'),.fz r],.fz .zF)/\(∀n m,gU [.fz r,sM Ws a b c (kP ps) (vP ps) n m]=some ([.fz r,sM Ws' a' b' c' (kP ps') (vP ps') n m],.fz .zF))/\
  ga [uq (wI Ws') a' b' c' (kP ps') (vP ps'),r]=some (false,.bl false)/\zh r (.tup [.str "stop"])=some (.bl false)/\wV r=true
section
variable{Ws:List Int}{a b c:Bool}{hk:List (Sum Int Str)}{hv:List D}{n m p:Int}
theorem gv:zE (uS Ws a b c hk hv n m) (.str "at")=some (.int n):=rfl
theorem DH:hide (sM Ws a b c hk hv n m)=none:=rfl
theorem Qq{e0 e1 e2 e4:Option M}:XU 3 [] "at" (eC (.int 1)) [e0,e1,e2,some (sM Ws a b c hk hv n m),e4]=some (.nx [e0,e1,e2,some (sM Ws a b c hk hv (n+1) m),e4]):=rfl
theorem Qr{e0 e1 e2 e4:Option M}:XU 3 [] "many" (eC (.int 1)) [e0,e1,e2,some (sM Ws a b c hk hv n m),e4]=some (.nx [e0,e1,e2,some (sM Ws a b c hk hv n (m+1)),e4]):=rfl
theorem ES{fv:ym}{e0 e1 e2 e4:Option M}(h:fv [e0,e1,e2,some (sM Ws a b c hk hv n m),e4]=some (.fz (.int p),[e0,e1,e2,some (sM Ws a b c hk hv n m),e4])):Uv 3 [] "at" fv [e0,e1,e2,some (sM Ws a b c hk hv n m),e4]=some (.nx [e0,e1,e2,some (sM Ws a b c hk hv p m),e4]):=by
 unfold Uv;rw[h];rfl
def Uk:D->Bool
 |.tup (.str w::_)=>w == "stop"
 |_=>false
def vt(rows:List D)(i:Nat):Bool:=decide (i=rows.length)||Uk (rows.getD i .zF)
theorem XR{rows:List D}{i:Nat}(hi:i<rows.length):zE (.lst rows) (.int (i:Int))=some (rows.getD i .zF):=by
 show wb rows (i:Int)=_;unfold wb;rw[zI (YX i),p9,ue,xD hi];rfl
end
section
variable{Z:List (Str×Nat)}{RK:D->Prop}{rows items:List D}{g:Nat}
theorem TC(one:gi g RK)(hK:∀r,RK r->Hd r){r:D}(h:RJ Z RK r):∃w:Str,zE r (.int 0)=some (.str w)/\zh (.str w) (.str "stop")=some (.bl (Uk r))/\zh r (.tup [.str "stop"])=some (.bl (Uk r)):=by
 cases h with
 |plain h=>
  obtain⟨_,_,_,_,_,_,_,_,_,_,_,_,hs,_⟩:=one r (List.replicate 8 0) false false false [] h rfl (λw hw=>by rw[Li hw]; exact⟨by decide,by decide⟩) ⟨λ_ h=>absurd h (by simp),λ_ h=>absurd h (by simp),by simp⟩ (by decide);have pr:=(hK r h).pr;obtain⟨w,e1,e2,_⟩:=(hK r h).w;refine⟨w,e1,?_,?_⟩
  ·rw[e2]
   congr 2
   cases pr with
   |stop=>cases e1; cases e2
   |VG hw=>rcases hw with rfl|rfl<;>rfl
   |two hw=>rcases hw with rfl|rfl|rfl|rfl|rfl|rfl|rfl|rfl|rfl<;>rfl
   |VI hw=>rcases hw with rfl|rfl<;>rfl
   |mem hw=>rcases hw with rfl|rfl|rfl|rfl<;>rfl
  ·rw[hs]
   congr 2
   cases pr with
   |stop=>cases e1; cases e2
   |VG hw=>rcases hw with rfl|rfl<;>rfl
   |two hw=>rcases hw with rfl|rfl|rfl|rfl|rfl|rfl|rfl|rfl|rfl<;>rfl
   |VI hw=>rcases hw with rfl|rfl<;>rfl
   |mem hw=>rcases hw with rfl|rfl|rfl|rfl<;>rfl
 |stop=>exact⟨_,rfl,rfl,rfl⟩
 |t7 h=>exact⟨_,rfl,rfl,rfl⟩
 |cond hw hk h=>rcases hw with rfl|rfl<;>exact⟨_,rfl,rfl,rfl⟩
end
section
variable{Z:List (Str×Nat)}{RK:D->Prop}{rows items:List D}{g:Nat}{T fw fh:D}{Ws:List Int}{a b c:Bool}{qs:List (Int×Int)}
theorem UU{i:Nat}(hi:i<rows.length):rows.getD i .zF∈rows:=by
 rw[ue,xD hi];exact Yf hi
theorem Oo(one:gi g RK)(hK:∀r,RK r->Hd r)(hr:∀r∈rows,RJ Z RK r)(hT:∀k,k<rows.length->∃nx tg,zE T (.int (k:Int))=some (.tup [rows.getD k .zF,nx,tg])){i:Nat}{j:Int}(hi:i<=rows.length) :
  u4 [yo T fw fh rows.length i j Ws a b c qs]=some (false,.bl (vt rows i)):=by
 unfold yo vt;by_cases z:i=rows.length
 ·rw[yQ z,LW];subst z;rcases On (T:=T) (fw:=fw) (fh:=fh) (sd:=uq (wI Ws) a b c (kP qs) (vP qs)) (row:=.zF) (nx:=.zF) (tg:=.zF) (e:=rows.length) (due:=rows.length) (done:=j) (k:=true) λz=>absurd rfl z with z|⟨_,z⟩
  ·rw[z,yQ rfl];rfl
  ·exact z
 ·have hi':i<rows.length:=by omega
  obtain⟨nx,tg,ht⟩:=hT i hi';obtain⟨_,_,_,hs⟩:=TC one hK (hr _ (UU hi'));rw[xE z,YW];rcases On (T:=T) (fw:=fw) (fh:=fh) (sd:=uq (wI Ws) a b c (kP qs) (vP qs)) (e:=rows.length) (due:=i) (done:=j) λ_=>⟨ht,hs⟩with z'|⟨z',_⟩
  ·rw[z',xE (by omega),YW]
  ·omega
theorem Ec(one:gi g RK)(hK:∀r,RK r->Hd r)(hr:∀r∈rows,RJ Z RK r){hk:List (Sum Int Str)}{hv:List D}{i:Nat}{j:Int}(hi:i<=rows.length) :
  gY [.lst rows,uS Ws a b c hk hv i j]=some (false,.bl (vt rows i)):=by
 unfold vt;have fl:uT [.lst rows]=some (.int rows.length):=rfl;rw[NL];unfold V_;by_cases z:i=rows.length
 ·have q1:zh (.int (i:Int)) (.int (rows.length:Int))=some (.bl true):=Uj (by omega);rw[yQ z,LW];simp![gv,fl,q1]
 ·have hi':i<rows.length:=by omega
  have q1:zh (.int (i:Int)) (.int (rows.length:Int))=some (.bl false):=kD (by omega);obtain⟨w,w1,w2,_⟩:=TC one hK (hr _ (UU hi'));rw[xE z,YW];have ix:=XR hi';generalize rows.getD i .zF=r at *;simp![gv,fl,q1,ix,w1,w2]
theorem Ke(one:gi g RK)(hK:∀r,RK r->Hd r)(hr:∀r∈rows,RJ Z RK r){pl nm:D}{hk:List (Sum Int Str)}{hv:List D}{i:Nat}{j:Int}(hi:i<=rows.length)(hs:vt rows i=true) :
  pG [.fz (.lst rows),.fz pl,.fz nm,sM Ws a b c hk hv i j]=some ([.fz (.lst rows),.fz pl,.fz nm,sM Ws a b c hk hv i j],.fz (.bl false)):=by
 unfold vt at hs;have fl:uT [.lst rows]=some (.int rows.length):=rfl;rw[UX];unfold ZV;by_cases z:i=rows.length
 ·have q1:zh (.int (i:Int)) (.int (rows.length:Int))=some (.bl true):=Uj (by omega);simp![wH,jy,gv,fl,q1]
 ·have hi':i<rows.length:=by omega
  have q1:zh (.int (i:Int)) (.int (rows.length:Int))=some (.bl false):=kD (by omega);rw[xE z,YW]at hs;obtain⟨w,w1,w2,_⟩:=TC one hK (hr _ (UU hi'));have ix:=XR hi';rw[hs]at w2;generalize rows.getD i .zF=r at *;simp![wH,jy,gv,fl,q1,ix,w1,w2]
theorem eP{e due done:Int}{s:M}(h:u4 [wQ T e fw fh (wA s) due done]=some (false,.bl true)):qW [wG T e fw fh s due done]=some ([wG T e fw fh s due done],.fz (.bl false)):=by
 have hself:∀τ:zi,wZ "RowMachine" "stands" (z6 0) zJ (some (false,wQ T e fw fh (wA s) due done)::τ)=some [wQ T e fw fh (wA s) due done]:=λτ=>Qn Bb (by decide +kernel) rfl
 rw[DC];unfold Vj;simp![wH,Wr,hself,h]
theorem eR{i:Nat}(hi:i<rows.length)(hs:vt rows i=false):Uk (rows.getD i .zF)=false:=by
 unfold vt at hs;rw[xE (by omega),YW]at hs;exact hs
theorem Kf(one:gi g RK)(hK:∀r,RK r->Hd r){r:D}(h:RK r)(tp:wV r=true){Ws':List Int}{a' b' c':Bool}{pl nm:D}{hk hk':List (Sum Int Str)}{hv hv':List D}{i:Nat}{j:Int}(hi:i<rows.length)(he:rows.getD i .zF=r)
  (dd:∀n m,gU [.fz r,sM Ws a b c hk hv n m]=some ([.fz r,sM Ws' a' b' c' hk' hv' n m],.fz .zF)) :
  pG [.fz (.lst rows),.fz pl,.fz nm,sM Ws a b c hk hv i j]=some ([.fz (.lst rows),.fz pl,.fz nm,sM Ws' a' b' c' hk' hv' ((i:Int)+1) (j+1)],.fz (.bl true)):=by
 have fl:uT [.lst rows]=some (.int rows.length):=rfl;have q1:zh (.int (i:Int)) (.int (rows.length:Int))=some (.bl false):=kD (by omega);obtain⟨w,w1,w2,w3⟩:=(hK r h).w;have ix:=XR hi;rw[he]at ix;rw[UX];unfold ZV;simp![wH,jy,gv,fl,q1,ix,tp,w1,w2,w3,Qq,Qr,Mg,dd]
theorem Kc{r pl nm:D}{w:Str}{q:Str×Nat}{k:Int}{hk:List (Sum Int Str)}{hv:List D}{i:Nat}{j:Int}(hi:i<rows.length)(he:rows.getD i .zF=r)(tp:wV r=true)(w1:zE r (.int 0)=some (.str w))(w2:zh (.str w) (.str "stop")=some (.bl false))(w3:Ze (.str w) (.lst [.str "jump",.str "when",.str "unless"])=some (.bl false))(wj:zh (.str w) (.str "jump")=some (.bl true))
  (l1:zE r (.int (-1))=some (.str q.1))(ixn:ur nm (.str q.1)=some (.int k))(ixp:zE pl (.int k)=some (.int (q.2:Int))) :
  pG [.fz (.lst rows),.fz pl,.fz nm,sM Ws a b c hk hv i j]=some ([.fz (.lst rows),.fz pl,.fz nm,sM Ws a b c hk hv q.2 (j+1)],.fz (.bl true)):=by
 have fl:uT [.lst rows]=some (.int rows.length):=rfl;have q1:zh (.int (i:Int)) (.int (rows.length:Int))=some (.bl false):=kD (by omega);have ix:=XR hi;rw[he]at ix;have st:=ES (Ws:=Ws) (a:=a) (b:=b) (c:=c) (hk:=hk) (hv:=hv) (n:=(i:Int)+1) (m:=j+1) (p:=(q.2:Int)) (fv:=yb (e2 zE (z6 1) (e2 ur (z6 2) (e2 zE (z6 4) (e1 Zd (eC (.int 1))))))) (e0:=some (.fz (.lst rows))) (e1:=some (.fz pl)) (e2:=some (.fz nm)) (e4:=some (.fz r)) (by simp![wH,DH,l1,ixn,ixp]);rw[UX];unfold ZV;simp![wH,jy,gv,fl,q1,ix,tp,w1,w2,w3,wj,Qq,Qr,st]
theorem Kb{r pl nm:D}{w mk:Str}{q:Str×Nat}{k xk:Int}{y v ld:Bool}{hk:List (Sum Int Str)}{hv:List D}{i:Nat}{j:Int}(hi:i<rows.length)(he:rows.getD i .zF=r)(tp:wV r=true)(w1:zE r (.int 0)=some (.str w))(w2:zh (.str w) (.str "stop")=some (.bl false))(w3:Ze (.str w) (.lst [.str "jump",.str "when",.str "unless"])=some (.bl false))(wj:zh (.str w) (.str "jump")=some (.bl false))
  (m1:zE r (.int 1)=some (.str mk))(m2:ur (.lst [.str "carry",.str "nought",.str "sign"]) (.str mk)=some (.int xk))(m3:zE (.lst [.bl a,.bl b,.bl c]) (.int xk)=some (.bl y))(m4:zh (.str w) (.str "when")=some (.bl v))(m5:zh (.bl y) (.bl v)=some (.bl ld))
  (l1:zE r (.int (-1))=some (.str q.1))(ixn:ur nm (.str q.1)=some (.int k))(ixp:zE pl (.int k)=some (.int (q.2:Int))) :
  pG [.fz (.lst rows),.fz pl,.fz nm,sM Ws a b c hk hv i j]=some ([.fz (.lst rows),.fz pl,.fz nm,sM Ws a b c hk hv (if ld then(q.2:Int)else(i:Int)+1) (j+1)],.fz (.bl true)):=by
 have fl:uT [.lst rows]=some (.int rows.length):=rfl;have q1:zh (.int (i:Int)) (.int (rows.length:Int))=some (.bl false):=kD (by omega);have ix:=XR hi;rw[he]at ix;have st:=ES (Ws:=Ws) (a:=a) (b:=b) (c:=c) (hk:=hk) (hv:=hv) (n:=(i:Int)+1) (m:=j+1) (p:=(q.2:Int)) (fv:=yb (e2 zE (z6 1) (e2 ur (z6 2) (e2 zE (z6 4) (e1 Zd (eC (.int 1))))))) (e0:=some (.fz (.lst rows))) (e1:=some (.fz pl)) (e2:=some (.fz nm)) (e4:=some (.fz r)) (by simp![wH,DH,l1,ixn,ixp]);rw[UX];unfold ZV;cases ld<;>simp![wH,jy,gv,BV,fl,q1,ix,tp,w1,w2,w3,wj,m1,m2,m3,m4,m5,Qq,Qr,st,j8,wq,xj]
theorem Be{S r:D}{M0:M}{w:Str}(w1:zE r (.int 0)=some (.str w))(h1:XD je (.str w)=some (.bl false)):jP [M0,.fz r]=some ([M0,.fz r],.fz .zF):=by
 rw[DD];unfold Vn;simp![wH,w1,h1]
theorem iD(one:gi g RK)(hK:∀r,RK r->Hd r)(hr:∀r∈rows,RJ Z RK r)(Y:Qe Z rows items)(hZ:∀q∈Z,q.2<=rows.length){pl nm:D}(ixZ:∀q∈Z,∃k:Int,ur nm (.str q.1)=some (.int k)/\zE pl (.int k)=some (.int (q.2:Int)))
  (hT:T=.dic (vS rows.length) (qP rows (rows.map (vT items)) rows.length)){i:Nat}{j:Int}(hi:i<=rows.length)(lw:Ws.length=8)(hw:∀w∈Ws,0<=w/\w<4294967296)(Q:qc qs)(hq:qs.length<=800) :
  ∃(Ws':List Int) (a' b' c':Bool) (qs':List (Int×Int)) (i':Nat) (t:Bool),Ws'.length=8/\(∀w∈Ws',0<=w/\w<4294967296)/\qc qs'/\qs'.length<=qs.length+g/\i'<=rows.length/\
   qW [wG T rows.length fw fh (st (wI Ws) a b c (kP qs) (vP qs)) i j]=some ([wG T rows.length fw fh (st (wI Ws') a' b' c' (kP qs') (vP qs')) i' (if t then j+1 else j)],.fz (.bl t))/\
   pG [.fz (.lst rows),.fz pl,.fz nm,sM Ws a b c (kP qs) (vP qs) i j]=some ([.fz (.lst rows),.fz pl,.fz nm,sM Ws' a' b' c' (kP qs') (vP qs') i' (if t then j+1 else j)],.fz (.bl t)):=by
 have hix:∀k,k<rows.length->zE T (.int (k:Int))=some (.tup [rows.getD k .zF,.int ((k:Int)+1),vT items (rows.getD k .zF)]):=λk hk=>by
  have e:(rows.map (vT items)).getD k .zF=vT items (rows.getD k .zF):=by
   rw[ue,ue,vh,xD hk];rfl
  rw[hT,Ek hk,e]
 have stJ:=Oo (T:=T) (fw:=fw) (fh:=fh) (Ws:=Ws) (a:=a) (b:=b) (c:=c) (qs:=qs) one hK hr (λk hk=>⟨_,_,hix k hk⟩) (j:=j) hi;cases hs:vt rows i with
 |true=>
  rw[hs]at stJ;exact⟨Ws,a,b,c,qs,i,false,lw,hw,Q,by omega,hi,eP (by rw[jz]; exact stJ),Ke one hK hr hi hs⟩
 |false=>
  have hi':i<rows.length:=by
   unfold vt at hs;rw[GH]at hs;have:=Gc hs.1;omega
  have sf:=eR hi' hs;have ht:=hix i hi';have hrow:=hr _ (UU hi');obtain⟨_,_,_,sq⟩:=TC one hK hrow;rw[sf]at sq;generalize he:rows.getD i .zF=r at *;cases hrow with
  |plain h=>
   obtain⟨Ws',a',b',c',qs',lw',hw',Q',lq',dr,dd,ld,hst,tp⟩:=one r Ws a b c qs h lw hw Q hq
   have tg:vT items r=.zF:=by
    unfold vT;rw[(OC (hK r h).pr).choose_spec.2.2.2.1]
   rw[tg]at ht;have stp:=Op (T:=T) (fw:=fw) (fh:=fh) (e:=rows.length) (due:=i) (done:=j) (s:=st (wI Ws) a b c (kP qs) (vP qs)) (s':=st (wI Ws') a' b' c' (kP qs') (vP qs')) (d2:=(i:Int)+1) (by omega) ht hst (by show(wV r&&_)=true; rw[tp]; rfl) Wl dr false (by rw[jz]; exact ld) rfl;exact⟨Ws',a',b',c',qs',i+1,true,lw',hw',Q',lq',hi',stp,Kf one hK h tp hi' he dd⟩
  |stop=>cases sf
  |@t7 q h=>
   obtain⟨k,k1,k2⟩:=ixZ q h
   have tg:vT items (.tup [.str "jump",.str q.1])=.int (q.2:Int):=by
    show(((xw q.1 items).2).map λn:Nat=>D.int n).getD .zF=_;rw[Y.pl q h];rfl
   rw[tg]at ht;have stp:=Op (T:=T) (fw:=fw) (fh:=fh) (e:=rows.length) (due:=i) (done:=j) (s:=st (wI Ws) a b c (kP qs) (vP qs)) (s':=st (wI Ws) a b c (kP qs) (vP qs)) (d2:=(q.2:Int)) (by omega) ht sq rfl Wl (Be (S:=.zF) (w := "jump") rfl rfl) true rfl rfl;exact⟨Ws,a,b,c,qs,q.2,true,lw,hw,Q,by omega,hZ q h,stp,Kc (w := "jump") hi' he rfl rfl rfl rfl rfl rfl k1 k2⟩
  |@cond w mk q hw' hk h=>
   obtain⟨k,k1,k2⟩:=ixZ q h
   have tg:vT items (.tup [.str w,.str mk,.str q.1])=.int (q.2:Int):=by
    have z:kE (.tup [.str w,.str mk,.str q.1])=true:=by rcases hw' with rfl|rfl<;>rfl
    unfold vT;rw[z];show(((xw q.1 items).2).map λn:Nat=>D.int n).getD .zF=_;rw[Y.pl q h];rfl
   rw[tg]at ht
   obtain⟨ld,xk,y,v,f1,m2,m3,m4,m5⟩:∃(ld:Bool) (xk:Int) (y v:Bool),ga [uq (wI Ws) a b c (kP qs) (vP qs),.tup [.str w,.str mk,.str q.1]]=some (false,.bl ld)/\ur (.lst [.str "carry",.str "nought",.str "sign"]) (.str mk)=some (.int xk)/\zE (.lst [.bl a,.bl b,.bl c]) (.int xk)=some (.bl y)/\zh (.str w) (.str "when")=some (.bl v)/\zh (.bl y) (.bl v)=some (.bl ld):=by
    rcases hw' with rfl|rfl<;>rcases hk with rfl|rfl|rfl
    ·exact⟨a,0,a,true,rfl,rfl,rfl,rfl,by cases a<;>rfl⟩
    ·exact⟨b,1,b,true,rfl,rfl,rfl,rfl,by cases b<;>rfl⟩
    ·exact⟨c,2,c,true,rfl,rfl,rfl,rfl,by cases c<;>rfl⟩
    ·exact⟨!a,0,a,false,rfl,rfl,rfl,rfl,by cases a<;>rfl⟩
    ·exact⟨!b,1,b,false,rfl,rfl,rfl,rfl,by cases b<;>rfl⟩
    ·exact⟨!c,2,c,false,rfl,rfl,rfl,rfl,by cases c<;>rfl⟩
   obtain⟨x2,x3,x4,x5⟩:XD je (.str w)=some (.bl false)/\zh (.str w) (.str "stop")=some (.bl false)/\Ze (.str w) (.lst [.str "jump",.str "when",.str "unless"])=some (.bl false)/\zh (.str w) (.str "jump")=some (.bl false):=by
    rcases hw' with rfl|rfl<;>exact⟨rfl,rfl,rfl,rfl⟩
   have stp:=Op (T:=T) (fw:=fw) (fh:=fh) (e:=rows.length) (due:=i) (done:=j) (s:=st (wI Ws) a b c (kP qs) (vP qs)) (s':=st (wI Ws) a b c (kP qs) (vP qs)) (d2:=if ld then(q.2:Int)else(i:Int)+1) (by omega) ht sq rfl Wl (Be (S:=.zF) (w:=w) rfl x2) ld (by rw[jz]; exact f1) (by cases ld<;>rfl);have fc:=Kb (Ws:=Ws) (a:=a) (b:=b) (c:=c) (hk:=kP qs) (hv:=vP qs) (j:=j) hi' he rfl rfl x3 x4 x5 rfl m2 m3 m4 m5 rfl k1 k2;cases ld with
   |true=>exact⟨Ws,a,b,c,qs,q.2,true,lw,hw,Q,by omega,hZ q h,stp,fc⟩
   |false=>exact⟨Ws,a,b,c,qs,i+1,true,lw,hw,Q,by omega,hi',stp,fc⟩
end
def Vz:FS:=
 (zx (xW 3 (e2 wF (zp vK (z8 (z6 0) (z8 (e2 qD (eC (.int 5)) (z6 1)) zJ))) (eC (.int 8))))
  (zx (xW 4 (e2 wF (zp vK (z8 (z6 0) (z8 (e2 y_ (e2 qD (eC (.int 5)) (z6 1)) (eC (.int 1))) zJ))) (eC (.int 8))))
  (zx (xW 5 (e2 zE (z6 2) (e2 wF (zp vK (z8 (z6 0) (z8 (e2 y_ (e2 qD (eC (.int 5)) (z6 1)) (eC (.int 2))) zJ))) (eC (.int 3)))))
  (zx (xW 6 (e2 zE (wN (z8 (eC (.str "carry")) (z8 (eC (.str "nought")) (z8 (eC (.str "sign")) zJ)))) (e2 wF (zp vK (z8 (z6 0) (z8 (e2 y_ (e2 qD (eC (.int 5)) (z6 1)) (eC (.int 3))) zJ))) (eC (.int 3)))))
  (zx (xW 7 (wN (z8 (wR (z8 (eC (.str "when")) (z8 (z6 6) (z8 (z6 5) zJ)))) (z8 (wR (z8 (eC (.str "unless")) (z8 (z6 6) (z8 (z6 5) zJ)))) (z8 (wR (z8 (eC (.str "sub")) (z8 (z6 3) (z8 (z6 4) zJ)))) (z8 (wR (z8 (eC (.str "test")) (z8 (z6 3) (z8 (z6 4) zJ)))) (z8 (wR (z8 (eC (.str "sub")) (z8 (z6 3) (z8 (z6 3) zJ)))) (z8 (wR (z8 (eC (.str "stop")) zJ)) zJ))))))))
  (yX (e2 zE (e2 y_ (z6 7) (wN (z8 (wR (z8 (eC (.str "jump")) (z8 (z6 5) zJ))) (z8 (wR (z8 (eC (.str "when")) (z8 (z6 6) (z8 (z6 5) zJ)))) zJ)))) (e2 wF (z6 0) (eC (.int 8))))))))))
def ZI:List D->Option (Bool×D):=FR 3 8 Vz
theorem bd:∀ds r,ZI ds=some r->ds.length=3/\zj 8 Vz ds=some r:=yU
theorem NJ(x0 x1 x2:D):ZI [x0,x1,x2]=zj 8 Vz [x0,x1,x2]:=rfl
def L9:FE:=(e2 wF (zp vK (z8 (z6 2) (z8 (e2 y_ (eC (.int 40)) (z6 10)) zJ))) (e2 y_ (z6 4) (eC (.int 1))))
def OS:FA:=(vp (eC (.int 0)) (z6 4))
def LA:FE:=(zp ZI (z8 (zp tz (z8 (z6 0) (z8 (e2 y_ (eC (.int 4)) (z6 10)) zJ))) (z8 (z6 10) (z8 (z6 3) zJ))))
def IY:yH:=(yN (tS (qQ (tE (e2 uA (zp jR (z8 (z6 7) (z8 (e2 y_ (zp tz (z8 (z6 0) (z8 (eC (.int 3)) zJ))) (z6 9)) zJ))) (zp gW (z8 (z6 8) (z8 (zp gY (z8 (z6 6) (z8 (z6 8) zJ))) zJ))))))
     (qw (yb (eC (.bl false))))
     qJ)
    (tS (L0 (UB uA (UC UP (ZX "RowMachine" "step" 7 [] qW wY)) (UC UP (u8 pG (wX (z6 6) (wX (z6 5) (wX (z6 3) (u7 8 [] wY))))))))
     (qw (yb (eC (.bl false))))
     qJ))
def Qw:yH:=
 (yN (vE 1 (yb (vo ZK (z8 (zp tz (z8 (z6 0) (z8 (eC (.int 0)) zJ))) zJ))))
  (yN (vE 2 (yb (zp tz (z8 (z6 0) (z8 (eC (.int 1)) zJ)))))
  (yN (vE 3 (yb (vo ZH (z8 (z6 2) zJ))))
  (yN (vE 4 (yb (e2 y_ (eC (.int 1)) (e2 wF (zp tz (z8 (z6 0) (z8 (eC (.int 2)) zJ))) (eC (.int 12))))))
  (yN (vE 5 (yb (wx 1 (vp (eC (.int 0)) (eC (.int 3))) (yh 10) wK L9)))
  (yN (vE 6 (yb (wx 1 OS (yh 10) wK LA)))
  (yN (vE 7 (X8 "RowMachine" pE [.zF] (wX (vo gX (z8 (z6 6) (z8 (z6 5) (z8 (z6 3) zJ)))) (wX (eL qC (z8 (z6 1) zJ)) wY))))
  (yN (vE 8 (u8 ZG (wX (z6 1) (wX (wN zJ) wY))))
  (yN (XT (vp (eC (.int 0)) (eC (.int 24))) (Uo 9)
   IY)
  (qw (uR (e2 zh (zp jR (z8 (z6 7) (z8 (e2 Zc (zp tz (z8 (z6 0) (z8 (eC (.int 3)) zJ))) (eC (.int 4))) zJ))) (zp gW (z8 (z6 8) (z8 (zp gY (z8 (z6 6) (z8 (z6 8) zJ))) zJ)))))))))))))))
def MR:FM:=w6 1 10 Qw
theorem NB(x0:M):MR [x0]=vH 1 10 Qw [x0]:=rfl
theorem Nw{n0 n1 n2:Str}(h:Md n0 n1 n2){p0 p1 p2:Nat}:∀q∈[(n0,p0),(n1,p1),(n2,p2)],∃k:Int,ur (.lst [.str n0,.str n1,.str n2]) (.str q.1)=some (.int k)/\zE (.lst [.int (p0:Int),.int (p1:Int),.int (p2:Int)]) (.int k)=some (.int (q.2:Int)):=λq hq=>by
 have de:∀x y:Str,yn (.str x) (.str y)=(x==y):=λx y=>rfl
 have fi:∀t:Str,ur (.lst [.str n0,.str n1,.str n2]) (.str t)=(match yn (.str n0) (.str t)with|true=>some 0|false=>match yn (.str n1) (.str t)with|true=>some 1|false=>match yn (.str n2) (.str t)with|true=>some 2|false=>(none:Option Nat)).bind λn=>some (.int n):=λt=>rfl
 have bf:∀{x y:Str},x≠y->(x==y)=false:=λ{x y} h=>by simpa using h
 rcases yY.mp hq with rfl|hq
 ·refine⟨0,?_,rfl⟩;rw[fi,de,jG];rfl
 ·rcases yY.mp hq with rfl|hq
  ·refine⟨1,?_,rfl⟩;rw[fi,de,bf h.a,de,jG];rfl
  ·cases Tv.mp hq;refine⟨2,?_,rfl⟩;rw[fi,de,bf h.b,de,bf h.c,de,jG];rfl
section
variable{Ws:List Int}{a b c:Bool}{hk:List (Sum Int Str)}{hv:List D}
inductive jW:D->Prop
 |sub {d s:Nat} (hd:d<8) (hs:s<8):jW (.tup [.str "sub",.int (d:Int),.int (s:Int)])
 |test {d s:Nat} (hd:d<8) (hs:s<8):jW (.tup [.str "test",.int (d:Int),.int (s:Int)])
theorem kB(r:D)(h:jW r):Hd r:=by
 cases h with
 |sub hd hs=>exact⟨.two (by simp) (by omega) (by omega) (by omega) (by omega),_,rfl,rfl,rfl⟩
 |test hd hs=>exact⟨.two (by simp) (by omega) (by omega) (by omega) (by omega),_,rfl,rfl,rfl⟩
theorem BX{k:Str}{d s:Nat}{x y w:Int}{u t:Bool}{n m:Int}(hk0:uA (.str k) (.str "test")=some (.bl t))(hd:Ws[d]?=some x)(hs:Ws[s]?=some y)(h:gZ [.str k,.int x,.int y,.bl a]=some (false,.tup [.int w,.bl u])) :
  gU [.fz (.tup [.str k,.int (d:Int),.int (s:Int)]),sM Ws a b c hk hv n m]=some ([.fz (.tup [.str k,.int (d:Int),.int (s:Int)]),sM (if t then Ws.set d w else Ws) u (decide (w=0)) (decide (2147483648<=w)) hk hv n m],.fz .zF):=by
 have hl:d<Ws.length:=(yD.mp hd).1;rw[ND];unfold Qy;cases t<;>simp![wH,jy,KJ,BV,m0,Tc,Oz,O_,Zu hd,Zu hs,h,HE,aS,R8,R9,RA,eq_int,hk0,HF,aT,Te,DV hl,G7,j8,wq,xj]
theorem XY:gi 0 jW:=λr Ws a b c ps h hl hw P _=>by
 have at_:∀{d:Nat},d<8->∃v,Ws[d]?=some v/\0<=v/\v<4294967296:=λ{d} hd=>by
  have hd':d<Ws.length:=by omega
  exact⟨Ws[d],xD hd',hw _ (Yf hd')⟩
 have eg:∀{w:Int},0<=w->w<4294967296->decide (w/2147483648%2=1)=decide (2147483648<=w):=λ{w} w0 w1=>by
  by_cases z:2147483648<=w
  ·rw[yQ z,yQ (by omega)]
  ·rw[xE z,xE (by omega)]
 have set_in:∀{d:Nat}{w:Int},0<=w->w<4294967296->∀v∈Ws.set d w,0<=v/\v<4294967296:=λ{d w} w0 w1 v hm=>by
  rcases List.mem_or_eq_of_mem_set hm with z|z
  ·exact hw v z
  ·exact z▸⟨w0,w1⟩
 cases h with
 |@sub d s hd hs=>
  obtain⟨x,ex,x0,x1⟩:=at_ hd;obtain⟨y,ey,y0,y1⟩:=at_ hs;obtain⟨t,u,s1,s2⟩:=Ef (a:=a) .sub x0 x1 y0 y1;have w0:0<=t%4294967296:=Wy _ (by decide);have w1:t%4294967296<4294967296:=Wx _ (by decide);generalize t%4294967296=w at s1 s2 w0 w1;have dr:=Bd (k := "sub") rfl rfl Wl rfl rfl (KL (b:=b) (c:=c) (hk:=kP ps) (hv:=vP ps) rfl ex ey s1 C5);rw[eg w0 w1]at dr;exact⟨Ws.set d w,_,_,_,ps,by rw[vV]; exact hl,set_in w0 w1,P,by omega,dr,λn m=>BX (t:=true) rfl ex ey s2,rfl,rfl,rfl⟩
 |@test d s hd hs=>
  obtain⟨x,ex,x0,x1⟩:=at_ hd;obtain⟨y,ey,y0,y1⟩:=at_ hs;obtain⟨t,u,s1,s2⟩:=Ef (a:=a) .test x0 x1 y0 y1;have w0:0<=t%4294967296:=Wy _ (by decide);have w1:t%4294967296<4294967296:=Wx _ (by decide);generalize t%4294967296=w at s1 s2 w0 w1;have dr:=Bd (k := "test") rfl rfl Wl rfl rfl (KM (b:=b) (c:=c) (hk:=kP ps) (hv:=vP ps) ex ey s1 C5);rw[eg w0 w1]at dr;exact⟨Ws,_,_,_,ps,hl,hw,P,by omega,dr,λn m=>BX (t:=false) rfl ex ey s2,rfl,rfl,rfl⟩
end
theorem b8{n0 n1 n2:Str}{p0 p1 p2:Nat}(c k:Int):∃r,ZI [.int c,.int k,.lst [.str n0,.str n1,.str n2]]=some (false,r)/\RJ [(n0,p0),(n1,p1),(n2,p2)] jW r:=by
 obtain⟨v0,m0',a0,b0⟩:=qy c (5*k);obtain⟨v1,m1',a1,b1⟩:=qy c (5*k+1);obtain⟨v2,m2',a2,b2⟩:=qy c (5*k+2);obtain⟨v3,m3',a3,b3⟩:=qy c (5*k+3);obtain⟨dn,ed,hd8⟩:∃dn:Nat,v0%8=(dn:Int)/\dn<8:=⟨(v0%8).toNat,by omega,by omega⟩;obtain⟨sn,es,hs8⟩:∃sn:Nat,v1%8=(sn:Int)/\sn<8:=⟨(v1%8).toNat,by omega,by omega⟩
 obtain⟨q,eq,hq⟩:∃q:Str×Nat,zE (.lst [.str n0,.str n1,.str n2]) (.int (v2%3))=some (.str q.1)/\q∈[(n0,p0),(n1,p1),(n2,p2)]:=by
  rcases(show v2%3=0\/v2%3=1\/v2%3=2 by omega)with h|h|h<;>rw[h]
  ·exact⟨(n0,p0),rfl,by simp⟩
  ·exact⟨(n1,p1),rfl,by simp⟩
  ·exact⟨(n2,p2),rfl,by simp⟩
 obtain⟨mk,em,hm⟩:∃mk:Str,zE (.lst [.str "carry",.str "nought",.str "sign"]) (.int (v3%3))=some (.str mk)/\(mk = "carry" \/ mk = "nought" \/ mk = "sign"):=by
  rcases(show v3%3=0\/v3%3=1\/v3%3=2 by omega)with h|h|h<;>rw[h]
  ·exact⟨_,rfl,.inl rfl⟩
  ·exact⟨_,rfl,.inr (.inl rfl)⟩
  ·exact⟨_,rfl,.inr (.inr rfl)⟩
 obtain⟨row,ew,hw⟩:∃row:D,zE (.lst [.tup [.str "when",.str mk,.str q.1],.tup [.str "unless",.str mk,.str q.1],.tup [.str "sub",.int (dn:Int),.int (sn:Int)],.tup [.str "test",.int (dn:Int),.int (sn:Int)],.tup [.str "sub",.int (dn:Int),.int (dn:Int)],.tup [.str "stop"],.tup [.str "jump",.str q.1],.tup [.str "when",.str mk,.str q.1]]) (.int (c%8))=some row/\RJ [(n0,p0),(n1,p1),(n2,p2)] jW row:=by
  rcases(show c%8=0\/c%8=1\/c%8=2\/c%8=3\/c%8=4\/c%8=5\/c%8=6\/c%8=7 by omega)with h|h|h|h|h|h|h|h<;>rw[h]
  ·exact⟨_,rfl,.cond (.inl rfl) hm hq⟩
  ·exact⟨_,rfl,.cond (.inr rfl) hm hq⟩
  ·exact⟨_,rfl,.plain (.sub hd8 hs8)⟩
  ·exact⟨_,rfl,.plain (.test hd8 hs8)⟩
  ·exact⟨_,rfl,.plain (.sub hd8 hd8)⟩
  ·exact⟨_,rfl,.stop⟩
  ·exact⟨_,rfl,.t7 hq⟩
  ·exact⟨_,rfl,.cond (.inl rfl) hm hq⟩
 refine⟨row,?_,hw⟩;have cat:∀x0 x1 x2 x3 x4 x5 x6 x7:D,y_ (.lst [x0,x1,x2,x3,x4,x5]) (.lst [x6,x7])=some (.lst [x0,x1,x2,x3,x4,x5,x6,x7]):=λ_ _ _ _ _ _ _ _=>rfl
 have l1:tR 5=true:=by decide
 rw[NJ];unfold Vz;simp![add_int,l1,m0',m1',m2',m3',ed,es,eq,em,cat,ew,jH]
theorem K9{T fw fh:D}{e due done:Int}{s:M}{x0 x1 x2 x3 x4 x5 x6 x8 x9:Option M}:ZX "RowMachine" "step" 7 [] qW wY [x0,x1,x2,x3,x4,x5,x6,some (wG T e fw fh s due done),x8,x9]=gr qW [.p 7 []] [x0,x1,x2,x3,x4,x5,x6,some (wG T e fw fh s due done),x8,x9]:=rfl
theorem b6{t:Bool}:UP [.bl t]=some (.str (xS (.bl t)).shown):=rfl
theorem RL{x:Str}:uA (.str x) (.str x)=some (.bl false):=by
 show some (D.bl (!(x==x)))=_;rw[jG];rfl
theorem bV:∀ns:List Int,ns.length<=63->(∀m∈ns,ww m<=1048576)->∃r,MR [.fz (.lst (ns.map D.int))]=some (r,.fz (.bl true)):=λns hl hb=>by
 obtain⟨W0,e1,l0,w0⟩:=iq (vX ns 0);have c0:=X9 ns (k:=0) (by decide);have c1:=X9 ns (k:=1) (by decide);have c2:=X9 ns (k:=2) (by decide);have c3:=X9 ns (k:=3) (by decide);obtain⟨n0,n1,n2,enm,N3⟩:=RG (vX ns 1);obtain⟨n,en,n1',n12⟩:∃n:Nat,1+vX ns 2%12=(n:Int)/\1<=n/\n<=12:=⟨(1+vX ns 2%12).toNat,by omega,by omega,by omega⟩;have r3:∀τ:zi,vp (eC (.int 0)) (eC (.int 3)) τ=some (v7 3):=λτ=>kR (n:=3) rfl (by decide)
 have r24:∀τ:zi,vp (eC (.int 0)) (eC (.int 24)) τ=some (v7 24):=λτ=>kR (n:=24) rfl (by decide)
 generalize hNS:ns.map D.int=NS at *;generalize hNM:D.lst [.str n0,.str n1,.str n2]=NM at *
 obtain⟨ps,ep,lp,hp⟩:=Ij (g:=yh 10) (e:=L9) (σ:=[some (false,.lst NS),some (false,.lst (wI W0)),some (false,.int (vX ns 1)),some (false,NM),some (false,.int (n:Int)),none,none,none,none,none,none]) (λv=>0<=v/\v<=n) (ds:=v7 3) λd hd=>by
  obtain⟨k,_,rfl⟩:=ug.mp hd;obtain⟨v,ev,v0,v1⟩:=qy (vX ns 1) (40+(k:Int));refine⟨_,v%((n:Int)+1),rfl,?_,Wy _ (by omega),by have:=Wx v (show 0<(n:Int)+1 by omega); omega⟩;have z:decide (0<(n:Int)+1)=true:=yQ (by omega);unfold L9;simp![add_int,ev,z]
 obtain⟨p0,p1,p2,eps,h0,h1,h2⟩:∃p0 p1 p2:Nat,ps=[(p0:Int),(p1:Int),(p2:Int)]/\p0<=n/\p1<=n/\p2<=n:=by
  match ps,lp,hp with
  | [x,y,z],_,hp=>
   have hx:=hp x (by simp);have hy:=hp y (by simp);have hz:=hp z (by simp);refine⟨x.toNat,y.toNat,z.toNat,?_,by omega,by omega,by omega⟩;rw[Ld hx.1,Ld hy.1,Ld hz.1]
 subst eps;generalize hPL:wI [(p0:Int),(p1:Int),(p2:Int)]=PL at *
 obtain⟨rows,er,hE⟩:=Di (g:=yh 10) (e:=LA) (σ:=[some (false,.lst NS),some (false,.lst (wI W0)),some (false,.int (vX ns 1)),some (false,NM),some (false,.int (n:Int)),some (false,.lst PL),none,none,none,none,none]) (λ_ x=>RJ [(n0,p0),(n1,p1),(n2,p2)] jW x) (ds:=v7 n) λd hd=>by
  obtain⟨k,_,rfl⟩:=ug.mp hd;have ck:=X9 ns (k:=4+(k:Int)) (by omega);rw[hNS]at ck;obtain⟨r,er,hr⟩:=b8 (n0:=n0) (n1:=n1) (n2:=n2) (p0:=p0) (p1:=p1) (p2:=p2) (vX ns (4+(k:Int))) (k:Int);rw[hNM]at er;refine⟨_,r,rfl,?_,hr⟩;unfold LA;simp![add_int,ck,er]
 have lrows:rows.length=n:=by rw[<-Bi hE,zo,jA]
 have hr:∀r∈rows,RJ [(n0,p0),(n1,p1),(n2,p2)] jW r:=λr hm=>by
  obtain⟨x,_,h⟩:=Bj hE r hm;exact h
 have hZ:∀q∈[(n0,p0),(n1,p1),(n2,p2)],q.2<=rows.length:=λq hq=>by
  rw[lrows];rcases yY.mp hq with rfl|hq
  ·exact h0
  ·rcases yY.mp hq with rfl|hq
   ·exact h1
   ·cases Tv.mp hq;exact h2
 obtain⟨items,ei,Y⟩:=Nv (Z:=[(n0,p0),(n1,p1),(n2,p2)]) (rows:=rows) (by
  show[n0,n1,n2].Nodup;simp[N3.a,N3.b,N3.c]) (yF 3) hZ (λr hm=>E7 kB (hr r hm)) (by omega)
 have ei':gX [.lst rows,.lst PL,NM]=some (true,.lst items):=by rw[<-hPL,<-hNM]; exact ei
 obtain⟨t1,t2⟩:=fW kB hr Y;have bn:pF [.zF]=some (true,.dic (kP []) (vP [])):=rfl;have ri:=b7 (ps:=[]) t1 t2 (by rw[zo]) (by omega) l0 w0 bn;have be:=HV (Ws:=W0) (ps:=[]) ⟨λ_ h=>absurd h (by simp),λ_ h=>absurd h (by simp),by simp⟩ (by decide);have be':ZG [.fz (.lst (wI W0)),.fz (.lst [])]=some ([.fz (.lst (wI W0)),.fz (.lst [])],sM W0 false false false (kP []) (vP []) 0 0):=be;have ixZ:=Nw N3 (p0:=p0) (p1:=p1) (p2:=p2);rw[hNM]at ixZ;have ixZ':∀q∈[(n0,p0),(n1,p1),(n2,p2)],∃k:Int,ur NM (.str q.1)=some (.int k)/\zE (.lst PL) (.int k)=some (.int (q.2:Int)):=by rw[<-hPL]; exact ixZ
 generalize hT:D.dic (vS rows.length) (qP rows (rows.map (vT items)) rows.length)=T at ri;generalize hfw:D.lst (wI W0)=fw at ri;generalize hfh:D.dic (kP []) (vP [])=fh at ri
 have hix:∀k,k<rows.length->∃nx tg,zE T (.int (k:Int))=some (.tup [rows.getD k .zF,nx,tg]):=λk hk=>by
  rw[<-hT];exact⟨_,_,Ek hk⟩
 obtain⟨β',e3,Ws,a,b,c,qs,i,j,x9,lw,hw,Q,lq,hi,hj0,hj1,rfl⟩:=Ir (g:=Uo 9) (b:=IY) (λu β=>∃(Ws:List Int) (a b c:Bool) (qs:List (Int×Int)) (i:Nat) (j:Int) (x9:Option M),Ws.length=8/\(∀w∈Ws,0<=w/\w<4294967296)/\qc qs/\qs.length<=0/\i<=rows.length/\0<=j/\j<=u/\β=[some (.fz (.lst NS)),some (.fz (.lst (wI W0))),some (.fz (.int (vX ns 1))),some (.fz NM),some (.fz (.int (n:Int))),some (.fz (.lst PL)),some (.fz (.lst rows)),some (wG T rows.length fw fh (st (wI Ws) a b c (kP qs) (vP qs)) (i:Int) j),some (sM Ws a b c (kP qs) (vP qs) (i:Int) j),x9])
  (ds:=v7 24) (β:=[some (.fz (.lst NS)),some (.fz (.lst (wI W0))),some (.fz (.int (vX ns 1))),some (.fz NM),some (.fz (.int (n:Int))),some (.fz (.lst PL)),some (.fz (.lst rows)),some (wG T rows.length fw fh (st (wI W0) false false false (kP []) (vP [])) 0 0),some (sM W0 false false false (kP []) (vP []) 0 0),none]) 0 ⟨W0,false,false,false,[],0,0,none,l0,w0,⟨λ_ h=>absurd h (by simp),λ_ h=>absurd h (by simp),by simp⟩,by simp,by omega,by omega,by omega,rfl⟩ λu d β hd hp=>by
   obtain⟨Ws,a,b,c,qs,i,j,x9,lw,hw,Q,lq,hi,hj0,hj1,rfl⟩:=hp;rw[wp]at hj1 ⊢;obtain⟨hu,rfl⟩:=L4 hd;have hS:=Oo (T:=T) (fw:=fw) (fh:=fh) (Ws:=Ws) (a:=a) (b:=b) (c:=c) (qs:=qs) XY kB hr hix (j:=j) hi;have hS2:=Ec (Ws:=Ws) (a:=a) (b:=b) (c:=c) (hk:=kP qs) (hv:=vP qs) XY kB hr (j:=j) hi;have lk:=Dn (T:=T) (fw:=fw) (fh:=fh) (e:=rows.length) (due:=i) (done:=j) (Ws:=Ws) (a:=a) (b:=b) (c:=c) (cell:=vX ns 3+u) (k:=vt rows i) Q (by omega) hw (by omega) (by omega) (by omega) (by omega) (by omega) hS;unfold yo at lk;have du:=Bf (due:=i) (done:=j) (Ws:=Ws) (a:=a) (b:=b) (c:=c) (k:=vt rows i) Q (by omega) hw (by omega) (by omega) (by omega) (by omega) (by omega);obtain⟨Ws',a',b',c',qs',i',t,lw',hw',Q',lq',hi',stp,flo⟩:=iD (T:=T) (fw:=fw) (fh:=fh) (Ws:=Ws) (a:=a) (b:=b) (c:=c) (qs:=qs) (pl:=.lst PL) (nm:=NM) XY kB hr Y hZ ixZ' hT.symm (j:=j) hi lw hw Q (by omega);refine⟨_,[some (.fz (.lst NS)),some (.fz (.lst (wI W0))),some (.fz (.int (vX ns 1))),some (.fz NM),some (.fz (.int (n:Int))),some (.fz (.lst PL)),some (.fz (.lst rows)),some (wG T rows.length fw fh (st (wI Ws') a' b' c' (kP qs') (vP qs')) (i':Int) (if t then j+1 else j)),some (sM Ws' a' b' c' (kP qs') (vP qs') (i':Int) (if t then j+1 else j)),some (.fz (.int (u:Int)))],rfl,?_,Ws',a',b',c',qs',i',_,_,lw',hw',Q',by omega,hi',by split<;>omega,by split<;>omega,rfl⟩;unfold IY;generalize (xS (.lst (vis Ws a b c qs (i:Int) j (vt rows i)))).shown=SS at lk du;generalize (if t then j+1 else j)=J at *;simp![wH,UC,UB,uO,Wr,jz,jy,c3,add_int,hS2,lk,du,RL,K9,stp,b6,Mg,flo]
 have lu:(v7 24).length=24:=by rw[zo,jA]
 simp only[wp,lu]at hj1;have hS:=Oo (T:=T) (fw:=fw) (fh:=fh) (Ws:=Ws) (a:=a) (b:=b) (c:=c) (qs:=qs) XY kB hr hix (j:=j) hi;have hS2:=Ec (Ws:=Ws) (a:=a) (b:=b) (c:=c) (hk:=kP qs) (hv:=vP qs) XY kB hr (j:=j) hi;have lk:=Dn (T:=T) (fw:=fw) (fh:=fh) (e:=rows.length) (due:=i) (done:=j) (Ws:=Ws) (a:=a) (b:=b) (c:=c) (cell:=vX ns 3/4) (k:=vt rows i) Q (by omega) hw (by omega) (by omega) (by omega) (by omega) (by omega) hS;unfold yo at lk;have du:=Bf (due:=i) (done:=j) (Ws:=Ws) (a:=a) (b:=b) (c:=c) (k:=vt rows i) Q (by omega) hw (by omega) (by omega) (by omega) (by omega) (by omega);have dv:Zc (.int (vX ns 3)) (.int 4)=some (.int (vX ns 3/4)):=rfl;have fl2:qC [.lst (wI W0)]=some (.lst (wI W0)):=rfl
 have rgn:∀{o0 o1 o2 o3 o5 o6 o7 o8 o9:Option Sl},OS [o0,o1,o2,o3,some (false,.int (n:Int)),o5,o6,o7,o8,o9]=some (v7 n):=λ{o0 o1 o2 o3 o5 o6 o7 o8 o9}=>by
  unfold OS;have:=kR (f:=z6 4) (τ:=[o0,o1,o2,o3,some (false,.int (n:Int)),o5,o6,o7,o8,o9]) (n:=(n:Int)) rfl (by omega);rw[p9]at this;exact this
 refine⟨[.fz (.lst NS)],?_⟩;rw[NB];unfold Qw;generalize (xS (.lst (vis Ws a b c qs (i:Int) j (vt rows i)))).shown=SS at lk du;subst hfw;have hd7:hide (wG T rows.length (.lst (wI W0)) fh (st (wI W0) false false false (kP []) (vP [])) 0 0)=none:=rfl;have hd8:hide (sM W0 false false false (kP []) (vP []) 0 0)=none:=rfl;have ob:X8 "RowMachine" pE [.zF]=X8 "RowMachine" pE [.zF]:=rfl;simp![wH,X8,c0,c1,c2,c3,e1,enm,add_int,en,r3,ep,rgn,er,ei',fl2,ri,be',hd7,hd8,r24,e3,Wr,jz,jy,hS2,lk,du,KR,dv,jH]
end L3
namespace My
open PySem L2 L3
set_option maxHeartbeats 4000000
def top(i:Nat):Stmt:=PySem.Challenge.pw_markrun_k38_where_jumps_lead.main.body.getD i (.Pass ⟨0,0,0,0⟩)
section
variable{P:Program}{w:World}{K:W.Frag}{mg:Str->Option Value}{base:Heap}{tt:Addr}{tu:Addr}{pB:Addr}{jM:Addr}
abbrev W2:Stmt:=top 9
theorem cx:zk ["thing", "width"] ["thing", "width"] (zT W2):=⟨rfl,rfl,rfl,by decide +kernel,rfl,by decide +kernel,by decide +kernel⟩
theorem S3(d:zH K mg "is_number" W2 ["thing", "width"])(t4:mg "isinstance" = none)(YU:mg "int" = none)(LO:mg "bool" = none):zM P w K mg base "is_number" ["thing", "width"] 1 (zY K uk):=
 zH.yl d cx (by decide) bR λf cdv A outer s H E hr=>(yB (w8 (Wo (Wm (uc (Wf .bool rfl rfl t4 LO HY (zQ (z7 0)))) (Wn (kX (uc (Wf .int rfl rfl t4 YU BD (zQ (z7 0))))))))
   (zl (yd uH))
   vI)
  (zl (yd (TQ (w_ Fz pW (zQ zG) (zQ (z7 0)) (yJ _)) (YL (w_ T2 pW (zQ (z7 0)) (zQ (zb kL kJ zG (z7 1))) (yJ _)))))))
abbrev Xh:Stmt:=top 10
theorem EA:zk ["one", "other", "carry", "total"] ["one", "other", "carry"] (zT Xh):=⟨rfl,rfl,rfl,by decide +kernel,rfl,by decide +kernel,by decide +kernel⟩
theorem Re(d:zH K mg "added" Xh ["one", "other", "carry"])(gz:xZ mg "BEYOND" (.int 4294967296))(kQ:∀H,zU K H (.int 4294967296) (.int 4294967296)):zM P w K mg base "added" ["one", "other", "carry"] 1 (zY K gS):=
 zH.yl d EA (by decide) bG λf cdv A outer s H E hr=>(yB (wJ (i:=3) EA.nd rfl (Or.inl rfl) (zb xm xl (zb xm xl (z7 0) (z7 1)) (kU (uc (z7 2)) zG zG)))
  (zl (yd (v4 (zA (zb wT wS (z7 3) (vQ gz kQ rfl)) (zA (w_ Fx pW (zQ (z7 3)) (zQ (vQ gz kQ rfl)) (yJ _)) zR)) (yg (za (za yt)) (by decide))))))
abbrev WV:Stmt:=top 11
theorem EJ:zk ["one", "other", "borrow", "left"] ["one", "other", "borrow"] (zT WV):=⟨rfl,rfl,rfl,by decide +kernel,rfl,by decide +kernel,by decide +kernel⟩
theorem So(d:zH K mg "taken" WV ["one", "other", "borrow"])(gz:xZ mg "BEYOND" (.int 4294967296))(kQ:∀H,zU K H (.int 4294967296) (.int 4294967296)):zM P w K mg base "taken" ["one", "other", "borrow"] 1 (zY K gb):=
 zH.yl d EJ (by decide) b_ λf cdv A outer s H E hr=>(yB (wJ (i:=3) EJ.nd rfl (Or.inl rfl) (zb jq jp (zb jq jp (z7 0) (z7 1)) (kU (uc (z7 2)) zG zG)))
  (yB (w8 (xC T2 pW (zQ (z7 3)) (zQ zG) (yJ _))
   (zl (yd (v4 (zA (zb xm xl (z7 3) (vQ gz kQ rfl)) (zA uH zR)) (yg (za (za yt)) (by decide)))))
   vI)
  (zl (yd (v4 (zA (z7 3) (zA uH zR)) (yg (za (za yt)) (by decide)))))))
abbrev WP:Stmt:=top 14
theorem dD:zk ["word", "low", "width"] ["word", "low", "width"] (zT WP):=⟨rfl,rfl,rfl,by decide +kernel,rfl,by decide +kernel,by decide +kernel⟩
theorem Sg(d:zH K mg "part" WP ["word", "low", "width"]):zM P w K mg base "part" ["word", "low", "width"] 1 (zY K wt):=
 zH.yl d dD (by decide) bu λf cdv A outer s H E hr=>(zl (yd (zb O7 Y4 (zb C1 Fw (z7 0) (z7 1)) (zb jq jp (zb kL kJ zG (z7 2)) zG))))
abbrev WM:Stmt:=top 12
theorem Ob:zk ["word", "count", "moved", "fallen"] ["word", "count"] (zT WM):=⟨rfl,rfl,rfl,by decide +kernel,rfl,by decide +kernel,by decide +kernel⟩
theorem Sa(d:zH K mg "moved_left" WM ["word", "count"])(qp:xZ mg "WORD_BITS" (.int 32))(p6:∀H,zU K H (.int 32) (.int 32))(vD:zM P w K mg base "part" ["word", "low", "width"] 1 (zY K wt)):zM P w K mg base "moved_left" ["word", "count"] 2 (zY K VO):=
 zH.yl d Ob (by decide) bq λf cdv A outer s H E hr=>(yB (wJ (i:=2) Ob.nd rfl (Or.inl rfl) (zb kL kJ (z7 0) (z7 1)))
  (yB (wJ (i:=3) Ob.nd rfl (Or.inl rfl) (kU (xC (xK (yi hr)) xJ (zQ (z7 1)) (zQ zG) (yJ _)) YK (w_ (xK (yi hr)) xJ (zQ (zy vD hr rfl (zA (z7 2) (zA (vQ qp p6 rfl) (zA zG zR))))) (zQ zG) (yJ _))))
  (zl (yd (v4 (zA (zy vD hr rfl (zA (z7 2) (zA zG (zA (vQ qp p6 rfl) zR)))) (zA (z7 3) zR)) (yg (za (za yt)) (by decide)))))))
abbrev WN:Stmt:=top 13
theorem EI:zk ["word", "count", "fallen"] ["word", "count"] (zT WN):=⟨rfl,rfl,rfl,by decide +kernel,rfl,by decide +kernel,by decide +kernel⟩
theorem Sb(d:zH K mg "moved_right" WN ["word", "count"])(vD:zM P w K mg base "part" ["word", "low", "width"] 1 (zY K wt)):zM P w K mg base "moved_right" ["word", "count"] 2 (zY K VP):=
 zH.yl d EI (by decide) br λf cdv A outer s H E hr=>(yB (wJ (i:=2) EI.nd rfl (Or.inl rfl) (kU (xC (xK (yi hr)) xJ (zQ (z7 1)) (zQ zG) (yJ _)) YK (w_ (xK (yi hr)) xJ (zQ (zy vD hr rfl (zA (z7 0) (zA (zb jq jp (z7 1) zG) (zA zG zR))))) (zQ zG) (yJ _))))
  (zl (yd (v4 (zA (zb C1 Fw (z7 0) (z7 1)) (zA (z7 2) zR)) (yg (za (za yt)) (by decide))))))
abbrev WX:Stmt:=top 15
theorem EL:zk ["word", "low", "width", "number", "there"] ["word", "low", "width", "number"] (zT WX):=⟨rfl,rfl,rfl,by decide +kernel,rfl,by decide +kernel,by decide +kernel⟩
theorem Sr(d:zH K mg "with_part" WX ["word", "low", "width", "number"]):zM P w K mg base "with_part" ["word", "low", "width", "number"] 1 (zY K VQ):=
 zH.yl d EL (by decide) cB λf cdv A outer s H E hr=>(yB (wJ (i:=4) EL.nd rfl (Or.inl rfl) (zb kL kJ (zb jq jp (zb kL kJ zG (z7 2)) zG) (z7 1)))
  (zl (yd (zb C0 Y4 (zb O7 Y4 (z7 0) (Of ie ic (z7 4))) (zb kL kJ (z7 3) (z7 1))))))
abbrev Xm:Stmt:=top 16
theorem cY:zk ["word"] ["word"] (zT Xm):=⟨rfl,rfl,rfl,by decide +kernel,rfl,by decide +kernel,by decide +kernel⟩
theorem Rk(d:zH K mg "bytes_of" Xm ["word"])(tf:mg "tuple" = none)(Zk:xZ mg "BYTE_LOWS" (.ref tt))(YD:∀H,zU K H XJ (.ref tt))(vD:zM P w K mg base "part" ["word", "low", "width"] 1 (zY K wt)):zM P w K mg base "bytes_of" ["word"] 2 (zY K VL):=
 zH.yl d cY (by decide) bM λf cdv A outer s H E hr=>(zl (yd (Oe J7 O6 rfl tf U9 (zA (yj (u_ rfl (vn (own:=["low"]) rfl) (t3 (vQ Zk YD rfl)) (uQ (λC s H fp pn=>(xT (i:=1) (show(wc ["word"] ["low"]).Nodup by decide +kernel) rfl (Or.inl rfl))) rfl) (λC s H fp pn=>tZ) (λC s H fp pn=>(zy vD hr rfl (zA (z7 0) (zA (z7 1) (zA zG zR))))))) zR))))
abbrev WZ:Stmt:=top 17
theorem dI:zk ["four"] ["four"] (zT WZ):=⟨rfl,rfl,rfl,by decide +kernel,rfl,by decide +kernel,by decide +kernel⟩
theorem Su(d:zH K mg "word_of" WZ ["four"])(LQ:mg "sum" = none)(j6:mg "zip" = none)(Zk:xZ mg "BYTE_LOWS" (.ref tt))(YD:∀H,zU K H XJ (.ref tt)):zM P w K mg base "word_of" ["four"] 1 (zY K VS):=
 zH.yl d dI (by decide) cD λf cdv A outer s H E hr=>(zl (yd (qO (Hy rfl) Sk rfl LQ Hf (tX (zQ (yj (u_ rfl (vn (own:=["byte", "low"]) rfl) (Ol rfl j6 (z7 0) (vQ Zk YD rfl)) (B1 (λC s H fp pn=>(YG (n:=2) rfl (tW (xT (i:=1) (show(wc ["four"] ["byte", "low"]).Nodup by decide +kernel) rfl (Or.inl rfl)) (tW (xT (i:=2) (show(wc ["four"] ["byte", "low"]).Nodup by decide +kernel) rfl (Or.inl rfl)) YH)))) rfl rfl) (λC s H fp pn=>tZ) (λC s H fp pn=>(zb kL kJ (z7 1) (z7 2)))))) tY))))
abbrev W1:Stmt:=top 21
theorem cv:zk ["item"] ["item"] (zT W1):=⟨rfl,rfl,rfl,by decide +kernel,rfl,by decide +kernel,by decide +kernel⟩
theorem S0(d:zH K mg "is_label" W1 ["item"]):zM P w K mg base "is_label" ["item"] 1 (zY K jQ):=
 zH.yl d cv (by decide) bQ λf cdv A outer s H E hr=>(zl (yd (w_ (xK (yi hr)) xJ (zQ (zX (zV (zL hr)) zW (z7 0) zG)) (zQ zr) (yJ _))))
abbrev X_:Stmt:=top 22
theorem cr:zk ["item"] ["item"] (zT X_):=⟨rfl,rfl,rfl,by decide +kernel,rfl,by decide +kernel,by decide +kernel⟩
theorem R_(d:zH K mg "is_jump" X_ ["item"])(Jc:xZ mg "JUMPS" (.ref pB))(OL:∀H,zU K H UZ (.ref pB)):zM P w K mg base "is_jump" ["item"] 1 (zY K ZE):=
 zH.yl d cr (by decide) bP λf cdv A outer s H E hr=>(zl (yd (w_ (T1 (zL hr)) U_ (zQ (zX (zV (zL hr)) zW (z7 0) zG)) (zQ (vQ Jc OL rfl)) (by with_unfolding_all rfl))))
abbrev WS:Stmt:=top 23
theorem dF:zk ["items"] ["items"] (zT WS):=⟨rfl,rfl,rfl,by decide +kernel,rfl,by decide +kernel,by decide +kernel⟩
theorem Sj(d:zH K mg "rows_of" WS ["items"])(Zq:zM P w K mg base "is_label" ["item"] 1 (zY K jQ)):zM P w K mg base "rows_of" ["items"] 2 (zY K t_):=
 zH.yl d dF (by decide) bv λf cdv A outer s H E hr=>(zl (j2 (u_ rfl (vn (own:=["item"]) rfl) (t3 (z7 0)) (uQ (λC s H fp pn=>(xT (i:=1) (show(wc ["items"] ["item"]).Nodup by decide +kernel) rfl (Or.inl rfl))) rfl) (λC s H fp pn=>(TW (kX (uc (zy Zq hr rfl (zA (z7 1) zR)))))) (λC s H fp pn=>(z7 1)))))
abbrev W5:Stmt:=top 24
theorem Wb:zk ["items", "places", "place", "item"] ["items"] (zT W5):=⟨rfl,rfl,rfl,by decide +kernel,rfl,by decide +kernel,by decide +kernel⟩
theorem S6(d:zH K mg "label_places" W5 ["items"])(Zq:zM P w K mg base "is_label" ["item"] 1 (zY K jQ)):zM P w K mg base "label_places" ["items"] 2 (zY K gT):=
 zH.yl d Wb (by decide) bU λf cdv A outer s H E hr=>(yB (YQ (i:=1) Wb.nd rfl (Or.inl rfl) Wg)
  (yB (wJ (i:=2) Wb.nd rfl (Or.inl rfl) zG)
  (yB (YN jE rfl (t3 (z7 0)) (Wi (xT (i:=3) Wb.nd rfl (Or.inl rfl)) rfl)
   (zl (w8 (uc (zy Zq hr rfl (zA (z7 3) zR)))
     (zl (j1 (zL hr) (qv 1) (zX (zV (zL hr)) zW (z7 3) zG) (z7 2)))
     (zl (eI (i:=2) No Ry Wb.nd rfl (Or.inl rfl) zG)))))
  (zl (YO 1)))))
abbrev WW:Stmt:=top 25
theorem EK:zk ["items", "places"] ["items"] (zT WW):=⟨rfl,rfl,rfl,by decide +kernel,rfl,by decide +kernel,by decide +kernel⟩
theorem Sq(d:zH K mg "targets_of" WW ["items"])(Ju:zM P w K mg base "label_places" ["items"] 2 (zY K gT))(Zs:zM P w K mg base "rows_of" ["items"] 2 (zY K t_))(Jr:zM P w K mg base "is_jump" ["item"] 1 (zY K ZE)):zM P w K mg base "targets_of" ["items"] 3 (zY K pI):=
 zH.yl d EK (by decide) cA λf cdv A outer s H E hr=>(yB (wJ (i:=1) EK.nd rfl (Or.inr rfl) (yj (uz Ju hr rfl (zA (z7 0) zR))))
  (zl (j2 (u_ rfl (vn (own:=["row"]) rfl) (t3 (yj (uz Zs hr rfl (zA (z7 0) zR)))) (uQ (λC s H fp pn=>(xT (i:=2) (show(wc ["items", "places"] ["row"]).Nodup by decide +kernel) rfl (Or.inl rfl))) rfl) (λC s H fp pn=>tZ) (λC s H fp pn=>(kU (uc (zy Jr hr rfl (zA (z7 2) zR))) (zX (zV (zL hr)) zW (z7 1) (zX (zV (zL hr)) zW (z7 2) (Of Et Er zG))) YK))))))
abbrev Xz:Stmt:=top 31
theorem cq:zk ["thing"] ["thing"] (zT Xz):=⟨rfl,rfl,rfl,by decide +kernel,rfl,by decide +kernel,by decide +kernel⟩
theorem Rz(d:zH K mg "is_address" Xz ["thing"])(Zi:xZ mg "ADDRESS_BITS" (.int 16))(YB:∀H,zU K H (.int 16) (.int 16))(pO:zM P w K mg base "is_number" ["thing", "width"] 1 (zY K uk)):zM P w K mg base "is_address" ["thing"] 2 (zY K ZC):=
 zH.yl d cq (by decide) bO λf cdv A outer s H E hr=>(zl (yd (zy pO hr rfl (zA (z7 0) (zA (vQ Zi YB rfl) zR)))))
abbrev W3:Stmt:=top 30
theorem cy:zk ["thing"] ["thing"] (zT W3):=⟨rfl,rfl,rfl,by decide +kernel,rfl,by decide +kernel,by decide +kernel⟩
theorem S4(d:zH K mg "is_pair" W3 ["thing"])(wn:mg "len" = none)(t4:mg "isinstance" = none)(tf:mg "tuple" = none)(Zj:xZ mg "BYTE_BITS" (.int 8))(YC:∀H,zU K H (.int 8) (.int 8))(pO:zM P w K mg base "is_number" ["thing", "width"] 1 (zY K uk))(Jq:zM P w K mg base "is_address" ["thing"] 2 (zY K ZC)):zM P w K mg base "is_pair" ["thing"] 3 (zY K ZF):=
 zH.yl d cy (by decide) bS λf cdv A outer s H E hr=>(yB (w8 (Wo (Wm (kX (uc (Wf .tuple rfl rfl t4 tf U9 (zQ (z7 0))))) (Wn (xC (kK (yi hr)) kI (zQ (qO ZY Y5 rfl wn gm (tX (zQ (z7 0)) tY))) (zQ zG) (yJ _)))))
   (zl (yd uH))
   vI)
  (zl (yd (TQ (zy Jq hr rfl (zA (zX (zV (zL hr)) zW (z7 0) zG) zR)) (YL (zy pO hr rfl (zA (zX (zV (zL hr)) zW (z7 0) zG) (zA (vQ Zj YC rfl) zR))))))))
abbrev Xl:Stmt:=top 29
theorem OY:zk ["memory", "held", "pair"] ["memory"] (zT Xl):=⟨rfl,rfl,rfl,by decide +kernel,rfl,by decide +kernel,by decide +kernel⟩
theorem Rj(d:zH K mg "bytes_from" Xl ["memory"])(t4:mg "isinstance" = none)(wW:mg "list" = none)(Js:zM P w K mg base "is_pair" ["thing"] 3 (zY K ZF)):zM P w K mg base "bytes_from" ["memory"] 4 (zY K pF):=
 zH.yl d OY (by decide) bL λf cdv A outer s H E hr=>(yB (YQ (i:=1) OY.nd rfl (Or.inl rfl) Wg)
  (yB (w8 (xC Fy Fq (zQ (z7 0)) (zQ YK) (yJ _))
   (zl (YO 1))
   vI)
  (yB (w8 (kX (uc (Wf .list rfl rfl t4 wW U8 (zQ (z7 0)))))
   Wk
   vI)
  (yB (YN jE rfl (t3 (z7 0)) (Wi (xT (i:=2) OY.nd rfl (Or.inl rfl)) rfl)
   (yB (w8 (kX (uc (zy Js hr rfl (zA (z7 2) zR))))
     Wk
     vI)
    (yB (w8 (xC (T1 (zL hr)) U_ (zQ (zX (zV (zL hr)) zW (z7 2) zG)) (cL 1) (by with_unfolding_all rfl))
     Wk
     vI)
    (zl (j1 (zL hr) (qv 1) (zX (zV (zL hr)) zW (z7 2) zG) (zX (zV (zL hr)) zW (z7 2) zG))))))
  (zl (YO 1))))))
abbrev WO:Stmt:=top 32
theorem dC:zk ["held"] ["held"] (zT WO):=⟨rfl,rfl,rfl,by decide +kernel,rfl,by decide +kernel,by decide +kernel⟩
theorem Sf(d:zH K mg "pairs_of" WO ["held"])(YV:mg "sorted" = none):zM P w K mg base "pairs_of" ["held"] 1 (zY K ZL):=
 zH.yl d dC (by decide) bt λf cdv A outer s H E hr=>(zl (j2 (u_ rfl (vn (own:=["address"]) rfl) (t3 (yj (da rfl rfl YV (zA (z7 0) zR)))) (uQ (λC s H fp pn=>(xT (i:=1) (show(wc ["held"] ["address"]).Nodup by decide +kernel) rfl (Or.inl rfl))) rfl) (λC s H fp pn=>(TW (xC (kK (yi hr)) kI (zQ (zX (zV (zL hr)) zW (z7 0) (z7 1))) (zQ zG) (yJ _)))) (λC s H fp pn=>(v4 (zA (z7 1) (zA (zX (zV (zL hr)) zW (z7 0) (z7 1)) zR)) (yg (za (za yt)) (by decide)))))))
abbrev Xk:Stmt:=top 33
theorem cX:zk ["held", "address"] ["held", "address"] (zT Xk):=⟨rfl,rfl,rfl,by decide +kernel,rfl,by decide +kernel,by decide +kernel⟩
theorem Ri(d:zH K mg "byte_at" Xk ["held", "address"]):zM P w K mg base "byte_at" ["held", "address"] 1 (zY K ZA):=
 zH.yl d cX (by decide) bK λf cdv A outer s H E hr=>(zl (yd (dN (zL hr) (z7 0) (z7 1) zG ⟨rfl,rfl,rfl,rfl⟩)))
abbrev Xj:Stmt:=top 34
theorem cW:zk ["word", "number"] ["word", "number"] (zT Xj):=⟨rfl,rfl,rfl,by decide +kernel,rfl,by decide +kernel,by decide +kernel⟩
theorem Rg(d:zH K mg "address_of" Xj ["word", "number"])(Zi:xZ mg "ADDRESS_BITS" (.int 16))(YB:∀H,zU K H (.int 16) (.int 16))(vD:zM P w K mg base "part" ["word", "low", "width"] 1 (zY K wt)):zM P w K mg base "address_of" ["word", "number"] 2 (zY K Z9):=
 zH.yl d cW (by decide) bJ λf cdv A outer s H E hr=>(zl (yd (zy vD hr rfl (zA (zb xm xl (z7 0) (z7 1)) (zA zG (zA (vQ Zi YB rfl) zR))))))
abbrev Xy:Stmt:=top 35
theorem cm:zk ["address"] ["address"] (zT Xy):=⟨rfl,rfl,rfl,by decide +kernel,rfl,by decide +kernel,by decide +kernel⟩
theorem Rw(d:zH K mg "four_from" Xy ["address"])(v8:mg "range" = none)(Zn:zM P w K mg base "address_of" ["word", "number"] 2 (zY K Z9)):zM P w K mg base "four_from" ["address"] 3 (zY K ZB):=
 zH.yl d cm (by decide) bN λf cdv A outer s H E hr=>(zl (j2 (u_ rfl (vn (own:=["number"]) rfl) (jw rfl v8 zG) (uQ (λC s H fp pn=>(xT (i:=1) (show(wc ["address"] ["number"]).Nodup by decide +kernel) rfl (Or.inl rfl))) rfl) (λC s H fp pn=>tZ) (λC s H fp pn=>(zy Zn hr rfl (zA (z7 0) (zA (z7 1) zR)))))))
abbrev WY:Stmt:=top 36
theorem dH:zk ["held", "address"] ["held", "address"] (zT WY):=⟨rfl,rfl,rfl,by decide +kernel,rfl,by decide +kernel,by decide +kernel⟩
theorem Ss(d:zH K mg "word_at" WY ["held", "address"])(IP:zM P w K mg base "word_of" ["four"] 1 (zY K VS))(Zp:zM P w K mg base "four_from" ["address"] 3 (zY K ZB))(Zo:zM P w K mg base "byte_at" ["held", "address"] 1 (zY K ZA)):zM P w K mg base "word_at" ["held", "address"] 4 (zY K VR):=
 zH.yl d dH (by decide) cC λf cdv A outer s H E hr=>(zl (yd (zy IP hr rfl (zA (yj (u_ rfl (vn (own:=["one"]) rfl) (t3 (yj (uz Zp hr rfl (zA (z7 1) zR)))) (uQ (λC s H fp pn=>(xT (i:=2) (show(wc ["held", "address"] ["one"]).Nodup by decide +kernel) rfl (Or.inl rfl))) rfl) (λC s H fp pn=>tZ) (λC s H fp pn=>(zy Zo hr rfl (zA (z7 0) (zA (z7 2) zR)))))) zR))))
abbrev WQ:Stmt:=top 37
theorem dE:zk ["held", "address", "word"] ["held", "address", "word"] (zT WQ):=⟨rfl,rfl,rfl,by decide +kernel,rfl,by decide +kernel,by decide +kernel⟩
theorem Sh(d:zH K mg "put_byte" WQ ["held", "address", "word"])(Zj:xZ mg "BYTE_BITS" (.int 8))(YC:∀H,zU K H (.int 8) (.int 8))(vD:zM P w K mg base "part" ["word", "low", "width"] 1 (zY K wt)):zM P w K mg base "put_byte" ["held", "address", "word"] 2 (zt K Yy):=
 zH.x_ d dE (by decide) wM λf cdv A outer s H E hr=>(yx (Y1 (zL hr) (yM 0) (z7 1) (xI (zy vD hr rfl (zA (z7 2) (zA zG (zA (vQ Zj YC rfl) zR)))))))
abbrev WR:Stmt:=top 38
theorem Oc:zk ["held", "address", "word", "one", "byte"] ["held", "address", "word"] (zT WR):=⟨rfl,rfl,rfl,by decide +kernel,rfl,by decide +kernel,by decide +kernel⟩
theorem Si(d:zH K mg "put_word" WR ["held", "address", "word"])(j6:mg "zip" = none)(Zr:zM P w K mg base "put_byte" ["held", "address", "word"] 2 (zt K Yy))(Zp:zM P w K mg base "four_from" ["address"] 3 (zY K ZB))(Jh:zM P w K mg base "bytes_of" ["word"] 2 (zY K VL)):zM P w K mg base "put_word" ["held", "address", "word"] 4 (zt K QW):=
 zH.x_ d Oc (by decide) wM λf cdv A outer s H E hr=>(yx (Iy jE rfl (Ol rfl j6 (yj (uz Zp hr rfl (zA (z7 1) zR))) (zy Jh hr rfl (zA (z7 2) zR))) (Dw (YG (n:=2) rfl (tW (xT (i:=3) Oc.nd rfl (Or.inl rfl)) (tW (xT (i:=4) Oc.nd rfl (Or.inl rfl)) YH))) rfl rfl (by decide) (by decide))
   (yx (qK (qx Zr hr rfl (ux (yM 0) (vF (z7 3) (vF (z7 4) uW))))))))
abbrev j0:Stmt:=qG (top 40) 0
theorem cU:zk ["self", "words", "held"] ["self", "words", "held"] (zT j0):=⟨rfl,rfl,rfl,by decide +kernel,rfl,by decide +kernel,by decide +kernel⟩
theorem Rc{f:Addr}{fd:FuncData}(d:xU K "__init__" "State.__init__" j0 f fd)(wW:mg "list" = none)(Tl:mg "dict" = none)(Zl:xZ mg "MARKS" (.ref tu))(YE:∀H,zU K H g_ (.ref tu))(a_words:zw K ["State"] "words")(a_truths:zw K ["State"] "truths")(a_held:zw K ["State"] "held"):yz P w K mg base xB 1 f fd ["self", "words", "held"] (zt K Z8):=
 xU.x_ d cU (by decide) wM λcdv A outer s H E hr=>(yW (qL (yM 0) a_words (Z_ (Wh rfl wW (zA (z7 1) zR))))
  (yW (qL (yM 0) a_truths (Z_ (dW rfl rfl Tl BC (zA (yj (u_ rfl (vn (own:=["mark"]) rfl) (t3 (vQ Zl YE rfl)) (uQ (λC s H fp pn=>(xT (i:=3) (show(wc ["self", "words", "held"] ["mark"]).Nodup by decide +kernel) rfl (Or.inl rfl))) rfl) (λC s H fp pn=>tZ) (λC s H fp pn=>(v4 (zA (z7 3) (zA uH zR)) (yg (za (za yt)) (by decide)))))) zR))))
  (yx (qL (yM 0) a_held (Z_ (dX rfl Tl BC (zA (z7 2) zR)))))))
abbrev Xu:Stmt:=top 41
theorem cg:zk ["state", "row"] ["state", "row"] (zT Xu):=⟨rfl,rfl,rfl,by decide +kernel,rfl,by decide +kernel,by decide +kernel⟩
theorem Rs(d:zH K mg "do_set" Xu ["state", "row"])(a_words:zw K ["State"] "words"):zM P w K mg base "do_set" ["state", "row"] 1 (zt K QT):=
 zH.x_ d cg (by decide) wM λf cdv A outer s H E hr=>(yx (qM (ve (yM 0) a_words) (zX (zV (zL hr)) zW (z7 1) zG) (xI (zX (zV (zL hr)) zW (z7 1) zG))))
abbrev Xp:Stmt:=top 42
theorem ca:zk ["state", "row"] ["state", "row"] (zT Xp):=⟨rfl,rfl,rfl,by decide +kernel,rfl,by decide +kernel,by decide +kernel⟩
theorem Rn(d:zH K mg "do_high" Xp ["state", "row"])(a_words:zw K ["State"] "words")(IM:zM P w K mg base "with_part" ["word", "low", "width", "number"] 1 (zY K VQ)):zM P w K mg base "do_high" ["state", "row"] 2 (zt K QP):=
 zH.x_ d ca (by decide) wM λf cdv A outer s H E hr=>(yx (qM (ve (yM 0) a_words) (zX (zV (zL hr)) zW (z7 1) zG) (tT (zy IM hr rfl (zA (zX (zV (zL hr)) zW (xX (z7 0) a_words) (zX (zV (zL hr)) zW (z7 1) zG)) (zA zG (zA zG (zA (zX (zV (zL hr)) zW (z7 1) zG) zR))))))))
abbrev Xo:Stmt:=top 43
theorem cZ:zk ["state", "row"] ["state", "row"] (zT Xo):=⟨rfl,rfl,rfl,by decide +kernel,rfl,by decide +kernel,by decide +kernel⟩
theorem Rm(d:zH K mg "do_copy" Xo ["state", "row"])(a_words:zw K ["State"] "words"):zM P w K mg base "do_copy" ["state", "row"] 1 (zt K QO):=
 zH.x_ d cZ (by decide) wM λf cdv A outer s H E hr=>(yx (qM (ve (yM 0) a_words) (zX (zV (zL hr)) zW (z7 1) zG) (tT (zX (zV (zL hr)) zW (xX (z7 0) a_words) (zX (zV (zL hr)) zW (z7 1) zG)))))
abbrev WT:Stmt:=top 45
theorem dG:zk ["kind", "one", "other", "carry"] ["kind", "one", "other", "carry"] (zT WT):=⟨rfl,rfl,rfl,by decide +kernel,rfl,by decide +kernel,by decide +kernel⟩
theorem Sm(d:zH K mg "summed" WT ["kind", "one", "other", "carry"])(Ua:zM P w K mg base "added" ["one", "other", "carry"] 1 (zY K gS))(IK:zM P w K mg base "taken" ["one", "other", "borrow"] 1 (zY K gb)):zM P w K mg base "summed" ["kind", "one", "other", "carry"] 2 (zY K jS):=
 zH.yl d dG (by decide) bw λf cdv A outer s H E hr=>(yB (w8 (xC (xK (yi hr)) xJ (zQ (z7 0)) (zQ zr) (yJ _))
   (zl (yd (zy Ua hr rfl (zA (z7 1) (zA (z7 2) (zA uH zR))))))
   vI)
  (yB (w8 (xC (xK (yi hr)) xJ (zQ (z7 0)) (zQ zr) (yJ _))
   (zl (yd (zy Ua hr rfl (zA (z7 1) (zA (z7 2) (zA (z7 3) zR))))))
   vI)
  (zl (yd (zy IK hr rfl (zA (z7 1) (zA (z7 2) (zA (TQ (z7 3) (YL (w_ (xK (yi hr)) xJ (zQ (z7 0)) (zQ zr) (yJ _)))) zR))))))))
abbrev WL:Stmt:=top 46
theorem dB:zk ["state", "word"] ["state", "word"] (zT WL):=⟨rfl,rfl,rfl,by decide +kernel,rfl,by decide +kernel,by decide +kernel⟩
theorem SZ(d:zH K mg "look_at" WL ["state", "word"])(qp:xZ mg "WORD_BITS" (.int 32))(p6:∀H,zU K H (.int 32) (.int 32))(a_truths:zw K ["State"] "truths")(vD:zM P w K mg base "part" ["word", "low", "width"] 1 (zY K wt)):zM P w K mg base "look_at" ["state", "word"] 2 (zt K pH):=
 zH.x_ d dB (by decide) wM λf cdv A outer s H E hr=>(yW (Y1 (zL hr) (ve (yM 0) a_truths) zr (xI (w_ (xK (yi hr)) xJ (zQ (z7 1)) (zQ zG) (yJ _))))
  (yx (Y1 (zL hr) (ve (yM 0) a_truths) zr (xI (w_ (xK (yi hr)) xJ (zQ (zy vD hr rfl (zA (z7 1) (zA (zb jq jp (vQ qp p6 rfl) zG) (zA zG zR))))) (zQ zG) (yJ _))))))
abbrev Xx:Stmt:=top 44
theorem EC:zk ["state", "row", "told"] ["state", "row"] (zT Xx):=⟨rfl,rfl,rfl,by decide +kernel,rfl,by decide +kernel,by decide +kernel⟩
theorem Rv(d:zH K mg "do_sum" Xx ["state", "row"])(a_truths:zw K ["State"] "truths")(a_words:zw K ["State"] "words")(pP:zM P w K mg base "look_at" ["state", "word"] 2 (zt K pH))(II:zM P w K mg base "summed" ["kind", "one", "other", "carry"] 2 (zY K jS)):zM P w K mg base "do_sum" ["state", "row"] 3 (zt K qY):=
 zH.x_ d EC (by decide) wM λf cdv A outer s H E hr=>(yW (uY (i:=2) EC.nd rfl (Or.inl rfl) (by decide) (tT (zy II hr rfl (zA (zX (zV (zL hr)) zW (z7 1) zG) (zA (zX (zV (zL hr)) zW (xX (z7 0) a_words) (zX (zV (zL hr)) zW (z7 1) zG)) (zA (zX (zV (zL hr)) zW (xX (z7 0) a_words) (zX (zV (zL hr)) zW (z7 1) zG)) (zA (zX (zV (zL hr)) zW (xX (z7 0) a_truths) zr) zR)))))))
  (yW (Y1 (zL hr) (ve (yM 0) a_truths) zr (xI (zX (zV (zL hr)) zW (z7 2) zG)))
  (yW (qK (qx pP hr rfl (ux (yM 0) (vF (zX (zV (zL hr)) zW (z7 2) zG) uW))))
  (yx (qz (pT (xC (kK (yi hr)) kI (zQ (zX (zV (zL hr)) zW (z7 1) zG)) (zQ zr) (yJ _)))
   (yx (qM (ve (yM 0) a_words) (zX (zV (zL hr)) zW (z7 1) zG) (xI (zX (zV (zL hr)) zW (z7 2) zG))))
   pS)))))
abbrev W4:Stmt:=top 48
theorem c_:zk ["kind", "one", "other"] ["kind", "one", "other"] (zT W4):=⟨rfl,rfl,rfl,by decide +kernel,rfl,by decide +kernel,by decide +kernel⟩
theorem S5(d:zH K mg "joined" W4 ["kind", "one", "other"]):zM P w K mg base "joined" ["kind", "one", "other"] 1 (zY K VN):=
 zH.yl d c_ (by decide) bT λf cdv A outer s H E hr=>(yB (w8 (xC (xK (yi hr)) xJ (zQ (z7 0)) (zQ zr) (yJ _))
   (zl (yd (zb O7 Y4 (z7 1) (z7 2))))
   vI)
  (yB (w8 (xC (xK (yi hr)) xJ (zQ (z7 0)) (zQ zr) (yJ _))
   (zl (yd (zb C0 Y4 (z7 1) (z7 2))))
   vI)
  (zl (yd (zb AG Y4 (z7 1) (z7 2))))))
abbrev Xn:Stmt:=top 47
theorem EB:zk ["state", "row", "word"] ["state", "row"] (zT Xn):=⟨rfl,rfl,rfl,by decide +kernel,rfl,by decide +kernel,by decide +kernel⟩
theorem Rl(d:zH K mg "do_bits" Xn ["state", "row"])(a_words:zw K ["State"] "words")(pP:zM P w K mg base "look_at" ["state", "word"] 2 (zt K pH))(Jt:zM P w K mg base "joined" ["kind", "one", "other"] 1 (zY K VN)):zM P w K mg base "do_bits" ["state", "row"] 3 (zt K Yx):=
 zH.x_ d EB (by decide) wM λf cdv A outer s H E hr=>(yW (uY (i:=2) EB.nd rfl (Or.inl rfl) (by decide) (tT (zy Jt hr rfl (zA (zX (zV (zL hr)) zW (z7 1) zG) (zA (zX (zV (zL hr)) zW (xX (z7 0) a_words) (zX (zV (zL hr)) zW (z7 1) zG)) (zA (zX (zV (zL hr)) zW (xX (z7 0) a_words) (zX (zV (zL hr)) zW (z7 1) zG)) zR))))))
  (yW (qK (qx pP hr rfl (ux (yM 0) (vF (z7 2) uW))))
  (yx (qM (ve (yM 0) a_words) (zX (zV (zL hr)) zW (z7 1) zG) (xI (z7 2))))))
abbrev Xs:Stmt:=top 49
theorem OZ:zk ["state", "row", "word", "told"] ["state", "row"] (zT Xs):=⟨rfl,rfl,rfl,by decide +kernel,rfl,by decide +kernel,by decide +kernel⟩
theorem Rq(d:zH K mg "do_move" Xs ["state", "row"])(a_words:zw K ["State"] "words")(a_truths:zw K ["State"] "truths")(pP:zM P w K mg base "look_at" ["state", "word"] 2 (zt K pH))(IE:zM P w K mg base "moved_left" ["word", "count"] 2 (zY K VO))(IF:zM P w K mg base "moved_right" ["word", "count"] 2 (zY K VP)):zM P w K mg base "do_move" ["state", "row"] 3 (zt K VM):=
 zH.x_ d OZ (by decide) wM λf cdv A outer s H E hr=>(yW (uY (i:=2) OZ.nd rfl (Or.inl rfl) (by decide) (tT (zX (zV (zL hr)) zW (xX (z7 0) a_words) (zX (zV (zL hr)) zW (z7 1) zG))))
  (yW (uY (i:=3) OZ.nd rfl (Or.inl rfl) (by decide) (xI (kU (xC (xK (yi hr)) xJ (zQ (zX (zV (zL hr)) zW (z7 1) zG)) (zQ zr) (yJ _)) (zy IE hr rfl (zA (z7 2) (zA (zX (zV (zL hr)) zW (z7 1) zG) zR))) (zy IF hr rfl (zA (z7 2) (zA (zX (zV (zL hr)) zW (z7 1) zG) zR))))))
  (yW (qz (pT (xC AE Se (zQ (zX (zV (zL hr)) zW (z7 3) zG)) (zQ YK) (yJ _)))
   (yx (Y1 (zL hr) (ve (yM 0) a_truths) zr (xI (zX (zV (zL hr)) zW (z7 3) zG))))
   pS)
  (yW (qK (qx pP hr rfl (ux (yM 0) (vF (zX (zV (zL hr)) zW (z7 3) zG) uW))))
  (yx (qM (ve (yM 0) a_words) (zX (zV (zL hr)) zW (z7 1) zG) (xI (zX (zV (zL hr)) zW (z7 3) zG))))))))
abbrev Xi:Stmt:=top 50
theorem cV:zk ["state", "row"] ["state", "row"] (zT Xi):=⟨rfl,rfl,rfl,by decide +kernel,rfl,by decide +kernel,by decide +kernel⟩
theorem Rf(d:zH K mg "address_in" Xi ["state", "row"])(a_words:zw K ["State"] "words")(Zn:zM P w K mg base "address_of" ["word", "number"] 2 (zY K Z9)):zM P w K mg base "address_in" ["state", "row"] 3 (zY K qX):=
 zH.yl d cV (by decide) bI λf cdv A outer s H E hr=>(zl (yd (zy Zn hr rfl (zA (zX (zV (zL hr)) zW (xX (z7 0) a_words) (zX (zV (zL hr)) zW (z7 1) zG)) (zA (zX (zV (zL hr)) zW (z7 1) zG) zR)))))
abbrev Xq:Stmt:=top 51
theorem cb:zk ["state", "row"] ["state", "row"] (zT Xq):=⟨rfl,rfl,rfl,by decide +kernel,rfl,by decide +kernel,by decide +kernel⟩
theorem Ro(d:zH K mg "do_load" Xq ["state", "row"])(a_words:zw K ["State"] "words")(a_held:zw K ["State"] "held")(Zo:zM P w K mg base "byte_at" ["held", "address"] 1 (zY K ZA))(tQ:zM P w K mg base "address_in" ["state", "row"] 3 (zY K qX)):zM P w K mg base "do_load" ["state", "row"] 4 (zt K QQ):=
 zH.x_ d cb (by decide) wM λf cdv A outer s H E hr=>(yx (qM (ve (yM 0) a_words) (zX (zV (zL hr)) zW (z7 1) zG) (tT (zy Zo hr rfl (zA (xX (z7 0) a_held) (zA (zy tQ hr rfl (zA (z7 0) (zA (z7 1) zR))) zR))))))
abbrev Xr:Stmt:=top 52
theorem ce:zk ["state", "row"] ["state", "row"] (zT Xr):=⟨rfl,rfl,rfl,by decide +kernel,rfl,by decide +kernel,by decide +kernel⟩
theorem Rp(d:zH K mg "do_loadw" Xr ["state", "row"])(a_words:zw K ["State"] "words")(a_held:zw K ["State"] "held")(IN:zM P w K mg base "word_at" ["held", "address"] 4 (zY K VR))(tQ:zM P w K mg base "address_in" ["state", "row"] 3 (zY K qX)):zM P w K mg base "do_loadw" ["state", "row"] 5 (zt K QR):=
 zH.x_ d ce (by decide) wM λf cdv A outer s H E hr=>(yx (qM (ve (yM 0) a_words) (zX (zV (zL hr)) zW (z7 1) zG) (tT (zy IN hr rfl (zA (xX (z7 0) a_held) (zA (zy tQ hr rfl (zA (z7 0) (zA (z7 1) zR))) zR))))))
abbrev Xv:Stmt:=top 53
theorem ci:zk ["state", "row"] ["state", "row"] (zT Xv):=⟨rfl,rfl,rfl,by decide +kernel,rfl,by decide +kernel,by decide +kernel⟩
theorem Rt(d:zH K mg "do_store" Xv ["state", "row"])(a_words:zw K ["State"] "words")(a_held:zw K ["State"] "held")(Zr:zM P w K mg base "put_byte" ["held", "address", "word"] 2 (zt K Yy))(tQ:zM P w K mg base "address_in" ["state", "row"] 3 (zY K qX)):zM P w K mg base "do_store" ["state", "row"] 4 (zt K QU):=
 zH.x_ d ci (by decide) wM λf cdv A outer s H E hr=>(yx (qK (qx Zr hr rfl (ux (ve (yM 0) a_held) (Uw (zy tQ hr rfl (zA (z7 0) (zA (z7 1) zR))) (Uw (zX (zV (zL hr)) zW (xX (z7 0) a_words) (zX (zV (zL hr)) zW (z7 1) zG)) uW))))))
abbrev Xw:Stmt:=top 54
theorem cj:zk ["state", "row"] ["state", "row"] (zT Xw):=⟨rfl,rfl,rfl,by decide +kernel,rfl,by decide +kernel,by decide +kernel⟩
theorem Ru(d:zH K mg "do_storew" Xw ["state", "row"])(a_words:zw K ["State"] "words")(a_held:zw K ["State"] "held")(IH:zM P w K mg base "put_word" ["held", "address", "word"] 4 (zt K QW))(tQ:zM P w K mg base "address_in" ["state", "row"] 3 (zY K qX)):zM P w K mg base "do_storew" ["state", "row"] 5 (zt K QV):=
 zH.x_ d cj (by decide) wM λf cdv A outer s H E hr=>(yx (qK (qx IH hr rfl (ux (ve (yM 0) a_held) (Uw (zy tQ hr rfl (zA (z7 0) (zA (z7 1) zR))) (Uw (zX (zV (zL hr)) zW (xX (z7 0) a_words) (zX (zV (zL hr)) zW (z7 1) zG)) uW))))))
abbrev Xt:Stmt:=top 56
theorem cf:zk ["state", "row"] ["state", "row"] (zT Xt):=⟨rfl,rfl,rfl,by decide +kernel,rfl,by decide +kernel,by decide +kernel⟩
theorem Rr(d:zH K mg "do_row" Xt ["state", "row"])(US:xZ mg "DEEDS" (.ref jM))(d_DEEDS:ge K w mg jM je Bc)(Jn:zM P w K mg base "do_set" ["state", "row"] 1 (zt K QT))(Jj:zM P w K mg base "do_high" ["state", "row"] 2 (zt K QP))(Ji:zM P w K mg base "do_copy" ["state", "row"] 1 (zt K QO))(kA:zM P w K mg base "do_sum" ["state", "row"] 3 (zt K qY))(XL:zM P w K mg base "do_bits" ["state", "row"] 3 (zt K Yx))(Ub:zM P w K mg base "do_move" ["state", "row"] 3 (zt K VM))(Jk:zM P w K mg base "do_load" ["state", "row"] 4 (zt K QQ))(Jl:zM P w K mg base "do_loadw" ["state", "row"] 5 (zt K QR))(Jo:zM P w K mg base "do_store" ["state", "row"] 4 (zt K QU))(Jp:zM P w K mg base "do_storew" ["state", "row"] 5 (zt K QV)):zM P w K mg base "do_row" ["state", "row"] 6 (zt K jP):=
 zH.x_ d cf (by decide) wM λf cdv A outer s H E hr=>(yx (qz (pT (eN US d_DEEDS rfl (zX (zV (zL hr)) zW (z7 1) zG)))
   (yx (qK (Pr US d_DEEDS rfl (wE.cons Jn (by decide) (wE.cons Jj (by decide) (wE.cons Ji (by decide) (wE.cons kA (by decide) (wE.cons kA (by decide) (wE.cons kA (by decide) (wE.cons kA (by decide) (wE.cons kA (by decide) (wE.cons XL (by decide) (wE.cons XL (by decide) (wE.cons XL (by decide) (wE.cons Ub (by decide) (wE.cons Ub (by decide) (wE.cons Jk (by decide) (wE.cons Jl (by decide) (wE.cons Jo (by decide) (wE.cons Jp (by decide) wE.nil))))))))))))))))) hr (zX (zV (zL hr)) zW (z7 1) zG) (ux (yM 0) (vF (z7 1) uW)))))
   pS))
abbrev WK:Stmt:=top 57
theorem dA:zk ["state", "row"] ["state", "row"] (zT WK):=⟨rfl,rfl,rfl,by decide +kernel,rfl,by decide +kernel,by decide +kernel⟩
theorem SX(d:zH K mg "leads" WK ["state", "row"])(a_truths:zw K ["State"] "truths"):zM P w K mg base "leads" ["state", "row"] 1 (zY K ga):=
 zH.yl d dA (by decide) bm λf cdv A outer s H E hr=>(yB (w8 (xC (xK (yi hr)) xJ (zQ (zX (zV (zL hr)) zW (z7 1) zG)) (zQ zr) (yJ _))
   (zl (yd (zX (zV (zL hr)) zW (xX (z7 0) a_truths) (zX (zV (zL hr)) zW (z7 1) zG))))
   vI)
  (yB (w8 (xC (xK (yi hr)) xJ (zQ (zX (zV (zL hr)) zW (z7 1) zG)) (zQ zr) (yJ _))
   (zl (yd (EO (zX (zV (zL hr)) zW (xX (z7 0) a_truths) (zX (zV (zL hr)) zW (z7 1) zG)))))
   vI)
  (zl (yd (w_ (xK (yi hr)) xJ (zQ (zX (zV (zL hr)) zW (z7 1) zG)) (zQ zr) (yJ _))))))
abbrev Wa:Stmt:=top 60
theorem dJ:zk ["registers"] ["registers"] (zT Wa):=⟨rfl,rfl,rfl,by decide +kernel,rfl,by decide +kernel,by decide +kernel⟩
theorem Sv(d:zH K mg "words_from" Wa ["registers"])(wn:mg "len" = none)(t4:mg "isinstance" = none)(wW:mg "list" = none)(LN:mg "all" = none)(UT:xZ mg "REGISTER_COUNT" (.int 8))(T6:∀H,zU K H (.int 8) (.int 8))(qp:xZ mg "WORD_BITS" (.int 32))(p6:∀H,zU K H (.int 32) (.int 32))(pO:zM P w K mg base "is_number" ["thing", "width"] 1 (zY K uk)):zM P w K mg base "words_from" ["registers"] 2 (zY K ZN):=
 zH.yl d dJ (by decide) cE λf cdv A outer s H E hr=>(yB (w8 (xC Fy Fq (zQ (z7 0)) (zQ YK) (yJ _))
   (zl (j2 (dZ (wg (zA zG zR) (yg (za yt) (by decide))) (vQ UT T6 rfl))))
   vI)
  (yB (w8 (Wo (Wm (kX (uc (Wf .list rfl rfl t4 wW U8 (zQ (z7 0))))) (Wn (xC (kK (yi hr)) kI (zQ (qO ZY Y5 rfl wn gm (tX (zQ (z7 0)) tY))) (zQ (vQ UT T6 rfl)) (yJ _)))))
   Wk
   vI)
  (yB (w8 (kX (uc (qO (Hk rfl) Rh rfl LN Hc (tX (zQ (yj (u_ rfl (vn (own:=["thing"]) rfl) (t3 (z7 0)) (uQ (λC s H fp pn=>(xT (i:=1) (show(wc ["registers"] ["thing"]).Nodup by decide +kernel) rfl (Or.inl rfl))) rfl) (λC s H fp pn=>tZ) (λC s H fp pn=>(zy pO hr rfl (zA (z7 1) (zA (vQ qp p6 rfl) zR))))))) tY))))
   Wk
   vI)
  (zl (j2 (Wh rfl wW (zA (z7 0) zR)))))))
abbrev py:Stmt:=qG (top 61) 2
theorem cS:zk ["self"] ["self"] (zT py):=⟨rfl,rfl,rfl,by decide +kernel,rfl,by decide +kernel,by decide +kernel⟩
theorem RY{f:Addr}{fd:FuncData}(d:xU K "stands" "Machine.stands" py f fd)(a_due:zw K ["RowMachine"] "due")(a_table:zw K ["RowMachine"] "table")(a_end:zw K ["RowMachine"] "end"):yz P w K mg base xB 1 f fd ["self"] (zY K u4):=
 xU.Z4 d cS (by decide) bE λcdv A outer s H E hr=>(zl (yd (EQ (w_ (xK (yi hr)) xJ (zQ (xX (z7 0) a_due)) (zQ (xX (z7 0) a_end)) (yJ _)) (YL (w_ (xK (yi hr)) xJ (zQ (zX (zV (zL hr)) zW (zX (zV (zL hr)) zW (xX (z7 0) a_table) (xX (z7 0) a_due)) zG)) (zQ (v4 (zA zr zR) (yg (za yt) (by decide)))) (yJ _))))))
abbrev pd:Stmt:=qG (top 61) 1
theorem cN:zk ["self"] ["self"] (zT pd):=⟨rfl,rfl,rfl,by decide +kernel,rfl,by decide +kernel,by decide +kernel⟩
theorem RT{f:Addr}{fd:FuncData}(d:xU K "again" "Machine.again" pd f fd)(a_state:zw K ["RowMachine"] "state")(a_first_held:zw K ["RowMachine"] "first_held")(a_first_words:zw K ["RowMachine"] "first_words")(a_due:zw K ["RowMachine"] "due")(a_done:zw K ["RowMachine"] "done")(IU:VU P w K mg base "State" ["self", "words", "held"] 1 (zt K Z8)):yz P w K mg base xB 3 f fd ["self"] (zt K jO):=
 xU.x_ d cN (by decide) wM λcdv A outer s H E hr=>(yW (qL (yM 0) a_state (Ps IU hr rfl (ux (ve (yM 0) a_first_words) (ux (ve (yM 0) a_first_held) uW))))
  (yW (qL (yM 0) a_due (xI zG))
  (yx (qL (yM 0) a_done (xI zG)))))
abbrev pz:Stmt:=qG (top 61) 3
theorem E8:zk ["self", "told"] ["self"] (zT pz):=⟨rfl,rfl,rfl,by decide +kernel,rfl,by decide +kernel,by decide +kernel⟩
theorem RZ{f:Addr}{fd:FuncData}(d:xU K "step" "Machine.step" pz f fd)(a_due:zw K ["RowMachine"] "due")(a_table:zw K ["RowMachine"] "table")(a_state:zw K ["RowMachine"] "state")(a_done:zw K ["RowMachine"] "done")(v_Machine_stands:vA P w K mg base "RowMachine" "stands" ["self"] 1 (zY K u4))(Jm:zM P w K mg base "do_row" ["state", "row"] 6 (zt K jP))(ID:zM P w K mg base "leads" ["state", "row"] 1 (zY K ga)):yz P w K mg base xB 7 f fd ["self"] (zt K qW):=
 xU.x_ d E8 (by decide) wM λcdv A outer s H E hr=>(yW (qz (pT (uc (kW v_Machine_stands hr (z7 0))))
   (yx (jn (xI uH)))
   pS)
  (yW (uY (i:=1) E8.nd rfl (Or.inl rfl) (by decide) (tT (zX (zV (zL hr)) zW (xX (z7 0) a_table) (xX (z7 0) a_due))))
  (yW (qK (qx Jm hr rfl (ux (ve (yM 0) a_state) (vF (zX (zV (zL hr)) zW (z7 1) zG) uW))))
  (yW (qL (yM 0) a_due (tT (kU (uc (zy ID hr rfl (zA (xX (z7 0) a_state) (zA (zX (zV (zL hr)) zW (z7 1) zG) zR)))) (zX (zV (zL hr)) zW (z7 1) zG) (zX (zV (zL hr)) zW (z7 1) zG))))
  (yW (R1 (yM 0) a_done zG)
  (yx (jn (xI uH))))))))
abbrev pq:Stmt:=qG (top 61) 5
theorem cR:zk ["self"] ["self"] (zT pq):=⟨rfl,rfl,rfl,by decide +kernel,rfl,by decide +kernel,by decide +kernel⟩
theorem RX{f:Addr}{fd:FuncData}(d:xU K "registers" "Machine.registers" pq f fd)(wW:mg "list" = none)(a_state:zw K ["RowMachine"] "state")(a_words:zw K ["State"] "words"):yz P w K mg base xB 1 f fd ["self"] (zY K gQ):=
 xU.Z4 d cR (by decide) bD λcdv A outer s H E hr=>(zl (j2 (Wh rfl wW (zA (xX (xX (z7 0) a_state) a_words) zR))))
abbrev pf:Stmt:=qG (top 61) 6
theorem cO:zk ["self"] ["self"] (zT pf):=⟨rfl,rfl,rfl,by decide +kernel,rfl,by decide +kernel,by decide +kernel⟩
theorem RU{f:Addr}{fd:FuncData}(d:xU K "marks" "Machine.marks" pf f fd)(tf:mg "tuple" = none)(Zl:xZ mg "MARKS" (.ref tu))(YE:∀H,zU K H g_ (.ref tu))(a_state:zw K ["RowMachine"] "state")(a_truths:zw K ["State"] "truths"):yz P w K mg base xB 1 f fd ["self"] (zY K gN):=
 xU.Z4 d cO (by decide) bA λcdv A outer s H E hr=>(zl (yd (Oe J7 O6 rfl tf U9 (zA (yj (u_ rfl (vn (own:=["mark"]) rfl) (t3 (vQ Zl YE rfl)) (uQ (λC s H fp pn=>(xT (i:=1) (show(wc ["self"] ["mark"]).Nodup by decide +kernel) rfl (Or.inl rfl))) rfl) (λC s H fp pn=>tZ) (λC s H fp pn=>(zX (zV (zL hr)) zW (xX (xX (z7 0) a_state) a_truths) (z7 1))))) zR))))
abbrev pj:Stmt:=qG (top 61) 7
theorem cP:zk ["self"] ["self"] (zT pj):=⟨rfl,rfl,rfl,by decide +kernel,rfl,by decide +kernel,by decide +kernel⟩
theorem RV{f:Addr}{fd:FuncData}(d:xU K "memory" "Machine.memory" pj f fd)(a_state:zw K ["RowMachine"] "state")(a_held:zw K ["State"] "held")(IG:zM P w K mg base "pairs_of" ["held"] 1 (zY K ZL)):yz P w K mg base xB 2 f fd ["self"] (zY K gO):=
 xU.Z4 d cP (by decide) bB λcdv A outer s H E hr=>(zl (j2 (uz IG hr rfl (zA (xX (xX (z7 0) a_state) a_held) zR))))
abbrev pp:Stmt:=qG (top 61) 9
theorem cQ:zk ["self"] ["self"] (zT pp):=⟨rfl,rfl,rfl,by decide +kernel,rfl,by decide +kernel,by decide +kernel⟩
theorem RW{f:Addr}{fd:FuncData}(d:xU K "place" "Machine.place" pp f fd)(a_due:zw K ["RowMachine"] "due"):yz P w K mg base xB 1 f fd ["self"] (zY K gP):=
 xU.Z4 d cQ (by decide) bC λcdv A outer s H E hr=>(zl (yd (xX (z7 0) a_due)))
abbrev p_:Stmt:=qG (top 61) 10
theorem cT:zk ["self"] ["self"] (zT p_):=⟨rfl,rfl,rfl,by decide +kernel,rfl,by decide +kernel,by decide +kernel⟩
theorem Ra{f:Addr}{fd:FuncData}(d:xU K "steps" "Machine.steps" p_ f fd)(a_done:zw K ["RowMachine"] "done"):yz P w K mg base xB 1 f fd ["self"] (zY K gR):=
 xU.Z4 d cT (by decide) bF λcdv A outer s H E hr=>(zl (yd (xX (z7 0) a_done)))
abbrev pZ:Stmt:=qG (top 61) 0
theorem cM:zk ["self", "table", "end", "registers", "memory"] ["self", "table", "end", "registers", "memory"] (zT pZ):=⟨rfl,rfl,rfl,by decide +kernel,rfl,by decide +kernel,by decide +kernel⟩
theorem RS{f:Addr}{fd:FuncData}(d:xU K "__init__" "Machine.__init__" pZ f fd)(a_table:zw K ["RowMachine"] "table")(a_end:zw K ["RowMachine"] "end")(a_first_words:zw K ["RowMachine"] "first_words")(a_first_held:zw K ["RowMachine"] "first_held")(v_Machine_again:vA P w K mg base "RowMachine" "again" ["self"] 3 (zt K jO))(IQ:zM P w K mg base "words_from" ["registers"] 2 (zY K ZN))(Jg:zM P w K mg base "bytes_from" ["memory"] 4 (zY K pF)):yz P w K mg base xB 5 f fd ["self", "table", "end", "registers", "memory"] (zt K Z7):=
 xU.x_ d cM (by decide) wM λcdv A outer s H E hr=>(yW (qL (yM 0) a_table (xI (z7 1)))
  (yW (qL (yM 0) a_end (xI (z7 2)))
  (yW (qL (yM 0) a_first_words (xI (yj (uz IQ hr rfl (zA (z7 3) zR)))))
  (yW (qL (yM 0) a_first_held (xI (yj (uz Jg hr rfl (zA (z7 4) zR)))))
  (yx (qK (Du v_Machine_again hr (yM 0))))))))
abbrev WU:Stmt:=top 64
theorem Wd:zk ["items", "rows", "table", "number", "target"] ["items"] (zT WU):=⟨rfl,rfl,rfl,by decide +kernel,rfl,by decide +kernel,by decide +kernel⟩
theorem Sn(d:zH K mg "table_of_rows" WU ["items"])(LP:mg "enumerate" = none)(Zs:zM P w K mg base "rows_of" ["items"] 2 (zY K t_))(IL:zM P w K mg base "targets_of" ["items"] 3 (zY K pI)):zM P w K mg base "table_of_rows" ["items"] 4 (zY K ZM):=
 zH.yl d Wd (by decide) bz λf cdv A outer s H E hr=>(yB (wJ (i:=1) Wd.nd rfl (Or.inl rfl) (yj (uz Zs hr rfl (zA (z7 0) zR))))
  (yB (YQ (i:=2) Wd.nd rfl (Or.inl rfl) Wg)
  (yB (YN jE rfl (dh rfl LP (yj (uz IL hr rfl (zA (z7 0) zR)))) (df (YG (n:=2) rfl (tW (xT (i:=3) Wd.nd rfl (Or.inl rfl)) (tW (xT (i:=4) Wd.nd rfl (Or.inl rfl)) YH))) rfl rfl)
   (zl (j1 (zL hr) (qv 2) (z7 3) (v4 (zA (zX (zV (zL hr)) zW (z7 1) (z7 3)) (zA (zb xm xl (z7 3) zG) (zA (z7 4) zR))) (yg (za (za (za yt))) (by decide))))))
  (zl (YO 2)))))
abbrev vO:Stmt:=qG (top 63) 0
theorem E9:zk ["self", "items", "registers", "memory", "table"] ["self", "items", "registers", "memory"] (zT vO):=⟨rfl,rfl,rfl,by decide +kernel,rfl,by decide +kernel,by decide +kernel⟩
theorem Rb{f:Addr}{fd:FuncData}(d:xU K "__init__" "RowMachine.__init__" vO f fd)(wn:mg "len" = none)(w_Machine___init__:VT P w K mg base "Machine" "__init__" ["self", "table", "end", "registers", "memory"] 5 (zt K Z7))(IJ:zM P w K mg base "table_of_rows" ["items"] 4 (zY K ZM)):yz P w K mg base xB 6 f fd ["self", "items", "registers", "memory"] (zt K pE):=
 xU.x_ d E9 (by decide) wM λcdv A outer s H E hr=>(yW (uY (i:=4) E9.nd rfl (Or.inl rfl) (by decide) (xI (yj (uz IJ hr rfl (zA (z7 1) zR)))))
  (yx (qK (Pq (pl:=_) w_Machine___init__ hr rfl (ux (yM 0) (vF (z7 4) (vF (qO Hr SY rfl wn gm (tX (zQ (z7 4)) tY)) (vF (z7 2) (vF (z7 3) uW)))))))))
abbrev W7:Stmt:=top 66
theorem d7:zk ["_law_script", "_law_k"] ["_law_script", "_law_k"] (zT W7):=⟨rfl,rfl,rfl,by decide +kernel,rfl,by decide +kernel,by decide +kernel⟩
theorem S9(d:zH K mg "_law_cell_at" W7 ["_law_script", "_law_k"])(wn:mg "len" = none):zM P w K mg base "_law_cell_at" ["_law_script", "_law_k"] 1 (zY K tz):=
 zH.yl d d7 (by decide) bW λf cdv A outer s H E hr=>(yB (w8 (xC T2 pW (zQ (z7 1)) (zQ (qO ZY Y5 rfl wn gm (tX (zQ (z7 0)) tY))) (yJ _))
   (zl (yd (zX (zV (zL hr)) zW (z7 0) (z7 1))))
   vI)
  (zl (yd zG)))
abbrev WD:Stmt:=top 67
theorem EH:zk ["_law_cell", "_law_k", "_law_number"] ["_law_cell", "_law_k"] (zT WD):=⟨rfl,rfl,rfl,by decide +kernel,rfl,by decide +kernel,by decide +kernel⟩
theorem SL(d:zH K mg "_law_mixed" WD ["_law_cell", "_law_k"]):zM P w K mg base "_law_mixed" ["_law_cell", "_law_k"] 1 (zY K vK):=
 zH.yl d EH (by decide) ba λf cdv A outer s H E hr=>(yB (wJ (i:=2) EH.nd rfl (Or.inl rfl) (zb wT wS (zb tU O5 (zb xm xl (z7 0) (zb tU pX zG (z7 1))) zG) zG))
  (zl (yd (zb wT wS (zb xm xl (zb xm xl (zb A8 Sc (z7 2) (z7 2)) (zb tU pX zG (z7 2))) (z7 1)) zG))))
abbrev WI:Stmt:=top 68
theorem TN:zk ["_law_cell", "_law_k", "_law_way", "_law_number", "_law_some"] ["_law_cell", "_law_k"] (zT WI):=⟨rfl,rfl,rfl,by decide +kernel,rfl,by decide +kernel,by decide +kernel⟩
theorem SU(d:zH K mg "_law_word" WI ["_law_cell", "_law_k"])(vd:zM P w K mg base "_law_mixed" ["_law_cell", "_law_k"] 1 (zY K vK)):zM P w K mg base "_law_word" ["_law_cell", "_law_k"] 2 (zY K ZJ):=
 zH.yl d TN (by decide) bi λf cdv A outer s H E hr=>(yB (wJ (i:=2) TN.nd rfl (Or.inl rfl) (zb wT wS (zy vd hr rfl (zA (z7 0) (zA (zb tU pX zG (z7 1)) zR))) zG))
  (yB (wJ (i:=3) TN.nd rfl (Or.inl rfl) (zy vd hr rfl (zA (z7 0) (zA (zb xm xl (zb tU pX zG (z7 1)) zG) zR))))
  (yB (wJ (i:=4) TN.nd rfl (Or.inl rfl) (yj (wg (zA zG (zA zG (zA zG (zA zG (zA (zb wT wS (z7 3) zG) (zA (zb xm xl zG (zb wT wS (z7 3) zG)) zR)))))) (yg (za (za (za (za (za (za yt)))))) (by decide)))))
  (zl (yd (zX (zV (zL hr)) zW (zb xm xl (z7 4) (yj (wg (zA (zb wT wS (zb tU O5 (z7 3) zG) zG) (zA (zb wT wS (zb tU O5 (z7 3) zG) zG) zR)) (yg (za (za yt)) (by decide))))) (z7 2)))))))
abbrev WJ:Stmt:=top 69
theorem d9:zk ["_law_cell"] ["_law_cell"] (zT WJ):=⟨rfl,rfl,rfl,by decide +kernel,rfl,by decide +kernel,by decide +kernel⟩
theorem SV(d:zH K mg "_law_words" WJ ["_law_cell"])(v8:mg "range" = none)(IB:zM P w K mg base "_law_word" ["_law_cell", "_law_k"] 2 (zY K ZJ)):zM P w K mg base "_law_words" ["_law_cell"] 3 (zY K ZK):=
 zH.yl d d9 (by decide) bj λf cdv A outer s H E hr=>(zl (j2 (u_ rfl (vn (own:=["_law_k"]) rfl) (jw rfl v8 zG) (uQ (λC s H fp pn=>(xT (i:=1) (show(wc ["_law_cell"] ["_law_k"]).Nodup by decide +kernel) rfl (Or.inl rfl))) rfl) (λC s H fp pn=>tZ) (λC s H fp pn=>(zy IB hr rfl (zA (z7 0) (zA (z7 1) zR)))))))
abbrev WH:Stmt:=top 70
theorem TM:zk ["_law_kind", "_law_one", "_law_other", "_law_carry", "_law_more", "_law_total"] ["_law_kind", "_law_one", "_law_other", "_law_carry"] (zT WH):=⟨rfl,rfl,rfl,by decide +kernel,rfl,by decide +kernel,by decide +kernel⟩
theorem SR(d:zH K mg "_law_sum" WH ["_law_kind", "_law_one", "_law_other", "_law_carry"])(YU:mg "int" = none):zM P w K mg base "_law_sum" ["_law_kind", "_law_one", "_law_other", "_law_carry"] 1 (zY K gZ):=
 zH.yl d TM (by decide) bh λf cdv A outer s H E hr=>(yB (wJ (i:=4) TM.nd rfl (Or.inl rfl) (dM Ho Rx rfl YU BD (tX (zQ (TQ (z7 3) (YL (w_ (T1 (zL hr)) U_ (zQ (z7 0)) (zQ (yj (wg (zA zr (zA zr zR)) (yg (za (za yt)) (by decide))))) (by with_unfolding_all rfl))))) tY)))
  (yB (wJ (i:=5) TM.nd rfl (Or.inl rfl) (zb jq jp (zb jq jp (z7 1) (z7 2)) (z7 4)))
  (yB (w8 (xC (T1 (zL hr)) U_ (zQ (z7 0)) (zQ (yj (wg (zA zr (zA zr zR)) (yg (za (za yt)) (by decide))))) (by with_unfolding_all rfl))
   (zl (wJ (i:=5) TM.nd rfl (Or.inl rfl) (zb xm xl (zb xm xl (z7 1) (z7 2)) (z7 4))))
   vI)
  (zl (yd (v4 (zA (zb wT wS (z7 5) zG) (zA (EO (dL Fz pW T2 pW (zQ zG) (zQ (z7 5)) (zQ zG))) zR)) (yg (za (za yt)) (by decide))))))))
abbrev W8:Stmt:=top 71
theorem ED:zk ["_law_row_here", "_law_s", "_law_word_here"] ["_law_row_here", "_law_s"] (zT W8):=⟨rfl,rfl,rfl,by decide +kernel,rfl,by decide +kernel,by decide +kernel⟩
theorem SC(d:zH K mg "_law_deed" W8 ["_law_row_here", "_law_s"])(IA:zM P w K mg base "_law_sum" ["_law_kind", "_law_one", "_law_other", "_law_carry"] 1 (zY K gZ)):zM P w K mg base "_law_deed" ["_law_row_here", "_law_s"] 2 (zt K gU):=
 zH.x_ d ED (by decide) wM λf cdv A outer s H E hr=>(yW (R4 rfl (xT (i:=2) ED.nd rfl (Or.inl rfl)) rfl (by decide) (TR (yM 1)) zG (tT (zy IA hr rfl (zA (zX (zV (zL hr)) zW (z7 0) zG) (zA (zX (zV (zL hr)) zW (zX (zV (zL hr)) zW (z7 1) zr) (zX (zV (zL hr)) zW (z7 0) zG)) (zA (zX (zV (zL hr)) zW (zX (zV (zL hr)) zW (z7 1) zr) (zX (zV (zL hr)) zW (z7 0) zG)) (zA (zX (zV (zL hr)) zW (zX (zV (zL hr)) zW (z7 1) zr) zG) zR)))))))
  (yW (qM (TR (yM 1)) zG (xI (w_ (xK (yi hr)) xJ (zQ (z7 2)) (zQ zG) (yJ _))))
  (yW (qM (TR (yM 1)) zG (xI (w_ Fx pW (zQ (z7 2)) (zQ zG) (yJ _))))
  (yx (qz (pT (xC (kK (yi hr)) kI (zQ (zX (zV (zL hr)) zW (z7 0) zG)) (zQ zr) (yJ _)))
   (yx (qM (TR (yM 1)) (zX (zV (zL hr)) zW (z7 0) zG) (xI (z7 2))))
   pS)))))
abbrev W6:Stmt:=top 72
theorem TL:zk ["_law_words_here", "_law_pairs", "_law_cells", "_law_address", "_law_byte"] ["_law_words_here", "_law_pairs"] (zT W6):=⟨rfl,rfl,rfl,by decide +kernel,rfl,by decide +kernel,by decide +kernel⟩
theorem S8(d:zH K mg "_law_begin" W6 ["_law_words_here", "_law_pairs"])(wW:mg "list" = none):zM P w K mg base "_law_begin" ["_law_words_here", "_law_pairs"] 1 (zt K ZG):=
 zH.x_ d TL (by decide) wM λf cdv A outer s H E hr=>(yW (uY (i:=2) TL.nd rfl (Or.inl rfl) (by decide) (Z_ Wg))
  (yW (Iy jE rfl (t3 (z7 1)) (Dw (YG (n:=2) rfl (tW (xT (i:=3) TL.nd rfl (Or.inl rfl)) (tW (xT (i:=4) TL.nd rfl (Or.inl rfl)) YH))) rfl rfl (by decide) (by decide))
   (yx (Y1 (zL hr) (yM 2) (z7 3) (xI (z7 4)))))
  (yx (jn (Pv (ks:=["words", "marks", "bytes", "at", "many"]) (XV (Z_ (Wh rfl wW (zA (z7 0) zR))) (XV (Z_ (wg (zA uH (zA uH (zA uH zR))) (yg (za (za (za yt))) (by decide)))) (XV (Pu 2) (XV (xI zG) (XV (xI zG) Pw))))) (by decide +kernel) (by decide))))))
abbrev WC:Stmt:=top 73
theorem Oa:zk ["_law_machine", "_law_cell", "_law_found", "_law_k"] ["_law_machine", "_law_cell"] (zT WC):=⟨rfl,rfl,rfl,by decide +kernel,rfl,by decide +kernel,by decide +kernel⟩
theorem SK(d:zH K mg "_law_look" WC ["_law_machine", "_law_cell"])(p8:mg "repr" = none)(v8:mg "range" = none)(v_Machine_registers:vA P w K mg base "RowMachine" "registers" ["self"] 1 (zY K gQ))(v_Machine_marks:vA P w K mg base "RowMachine" "marks" ["self"] 1 (zY K gN))(v_Machine_memory:vA P w K mg base "RowMachine" "memory" ["self"] 2 (zY K gO))(v_Machine_place:vA P w K mg base "RowMachine" "place" ["self"] 1 (zY K gP))(v_Machine_steps:vA P w K mg base "RowMachine" "steps" ["self"] 1 (zY K gR))(v_Machine_stands:vA P w K mg base "RowMachine" "stands" ["self"] 1 (zY K u4)):zM P w K mg base "_law_look" ["_law_machine", "_law_cell"] 3 (zY K jR):=
 zH.yl d Oa (by decide) bZ λf cdv A outer s H E hr=>(yB (YQ (i:=2) Oa.nd rfl (Or.inr rfl) Wg)
  (yB (YN jE rfl (t3 (zX (zV (zL hr)) zW (yj (wg (zA (yj (wg (TK (is:=[0,1,2,3,4,5]) rfl) (yg (Vc (n:=6) (by decide)) (by decide)))) (zA (yj (wg (TK (is:=[5,4,3,2,1,0]) rfl) (yg (Vc (n:=6) (by decide)) (by decide)))) (zA (yj (wg (TK (is:=[2,4,0,5,1,3]) rfl) (yg (Vc (n:=6) (by decide)) (by decide)))) (zA (yj (wg (TK (is:=[3,1,5,0,4,2]) rfl) (yg (Vc (n:=6) (by decide)) (by decide)))) zR)))) (yg (za (za (za (za yt)))) (by decide)))) (zb wT wS (z7 1) zG))) (Wi (xT (i:=3) Oa.nd rfl (Or.inl rfl)) rfl)
   (zl (w8 (xC (xK (yi hr)) xJ (zQ (z7 3)) (zQ zG) (yJ _))
     (zl (j1 (zL hr) (qv 2) (z7 3) (kW v_Machine_registers hr (z7 0))))
     (zl (w8 (xC (xK (yi hr)) xJ (zQ (z7 3)) (zQ zG) (yJ _))
       (zl (j1 (zL hr) (qv 2) (z7 3) (kW v_Machine_marks hr (z7 0))))
       (zl (w8 (xC (xK (yi hr)) xJ (zQ (z7 3)) (zQ zG) (yJ _))
         (zl (j1 (zL hr) (qv 2) (z7 3) (kW v_Machine_memory hr (z7 0))))
         (zl (w8 (xC (xK (yi hr)) xJ (zQ (z7 3)) (zQ zG) (yJ _))
           (zl (j1 (zL hr) (qv 2) (z7 3) (kW v_Machine_place hr (z7 0))))
           (zl (w8 (xC (xK (yi hr)) xJ (zQ (z7 3)) (zQ zG) (yJ _))
             (zl (j1 (zL hr) (qv 2) (z7 3) (kW v_Machine_steps hr (z7 0))))
             (zl (j1 (zL hr) (qv 2) (z7 3) (kW v_Machine_stands hr (z7 0)))))))))))))))
  (eM 2 (zl (yd (qO (BH hr) Fu rfl p8 UA (tX (zQ (yj (u_ rfl (vn (own:=["_law_k"]) rfl) (jw rfl v8 zG) (uQ (λC s H fp pn=>(xT (i:=4) (show(wc ["_law_machine", "_law_cell", "_law_found", "_law_k"] ["_law_k"]).Nodup by decide +kernel) rfl (Or.inl rfl))) rfl) (λC s H fp pn=>tZ) (λC s H fp pn=>(zX (zV (zL hr)) zW (z7 2) (z7 4)))))) tY)))))))
abbrev W9:Stmt:=top 74
theorem EF:zk ["_law_s", "_law_stands", "_law_cells"] ["_law_s", "_law_stands"] (zT W9):=⟨rfl,rfl,rfl,by decide +kernel,rfl,by decide +kernel,by decide +kernel⟩
theorem SD(d:zH K mg "_law_due" W9 ["_law_s", "_law_stands"])(YV:mg "sorted" = none)(wW:mg "list" = none)(p8:mg "repr" = none)(tf:mg "tuple" = none):zM P w K mg base "_law_due" ["_law_s", "_law_stands"] 1 (zY K gW):=
 zH.yl d EF (by decide) bX λf cdv A outer s H E hr=>(yB (eJ (i:=2) rfl EF.nd rfl rfl (vn (own:=["_law_address"]) rfl) rfl (t3 (yj (db rfl YV (zA (yj (dY rfl rfl wW (zA (zX (zV (zL hr)) zW (z7 0) zr) zR))) zR)))) (uQ (λC s H fp pn=>(xT (i:=3) (show(wc ["_law_s", "_law_stands", "_law_cells"] ["_law_address"]).Nodup by decide +kernel) rfl (Or.inl rfl))) rfl) (λC s H fp pn=>(TW (xC A4 pW (zQ (zX (zV (zL hr)) zW (zX (zV (zL hr)) zW (z7 0) zr) (z7 3))) (zQ zG) (yJ _)))) (λC s H fp pn=>(v4 (zA (z7 3) (zA (zX (zV (zL hr)) zW (zX (zV (zL hr)) zW (z7 0) zr) (z7 3)) zR)) (yg (za (za yt)) (by decide)))))
  (zl (yd (qO (BH hr) Fu rfl p8 UA (tX (zQ (yj (wg (zA (zX (zV (zL hr)) zW (z7 0) zr) (zA (Oe J7 O6 rfl tf U9 (zA (zX (zV (zL hr)) zW (z7 0) zr) zR)) (zA (z7 2) (zA (zX (zV (zL hr)) zW (z7 0) zr) (zA (zX (zV (zL hr)) zW (z7 0) zr) (zA (z7 1) zR)))))) (yg (za (za (za (za (za (za yt)))))) (by decide))))) tY)))))
abbrev WE:Stmt:=top 75
theorem YI:zk ["_law_cell", "_law_letters", "_law_names_here", "_law_k", "_law_mark", "_law_letter"] ["_law_cell"] (zT WE):=⟨rfl,rfl,rfl,by decide +kernel,rfl,by decide +kernel,by decide +kernel⟩
theorem SM(d:zH K mg "_law_names" WE ["_law_cell"])(v8:mg "range" = none)(vd:zM P w K mg base "_law_mixed" ["_law_cell", "_law_k"] 1 (zY K vK)):zM P w K mg base "_law_names" ["_law_cell"] 2 (zY K ZH):=
 zH.yl d YI (by decide) bc λf cdv A outer s H E hr=>(yB (wJ (i:=1) YI.nd rfl (Or.inl rfl) zr)
  (yB (YQ (i:=2) YI.nd rfl (Or.inl rfl) (wg zR (yg yt (by decide))))
  (yB (YN jE rfl (jw rfl v8 zG) (Wi (xT (i:=3) YI.nd rfl (Or.inl rfl)) rfl)
   (yB (wJ (i:=4) YI.nd rfl (Or.inl rfl) (zy vd hr rfl (zA (z7 0) (zA (zb xm xl zG (z7 3)) zR))))
    (yB (wJ (i:=5) YI.nd rfl (Or.inl rfl) (zX (zV (zL hr)) zW (z7 1) (zb wT wS (zb xm xl (zy vd hr rfl (zA (z7 0) (zA zG zR))) (zb tU pX zG (z7 3))) zG)))
    (zl (eG (qv 2) (zb xm xl (zb xm xl (zb F_ Fr zr (zb wT wS (z7 4) zG)) (z7 5)) (zb F_ Fr zr (zb wT wS (zb O8 O3 (z7 4) zG) zG))))))))
  (yB (w8 (xC (xK (yi hr)) xJ (zQ (zb wT wS (z7 0) zG)) (zQ zG) (yJ _))
   (zl (eK (qv 2) zG (zX (zV (zL hr)) zW (yj (wg (zA zr (zA zr (zA zr (zA zr zR)))) (yg (za (za (za (za yt)))) (by decide)))) (zb wT wS (zb O8 O3 (z7 0) zG) zG))))
   vI)
  (zl (YO 2))))))
abbrev WB:Stmt:=top 76
theorem Wc:zk ["_law_rows", "_law_places", "_law_names_here", "_law_items_here", "_law_k"] ["_law_rows", "_law_places", "_law_names_here"] (zT WB):=⟨rfl,rfl,rfl,by decide +kernel,rfl,by decide +kernel,by decide +kernel⟩
theorem SJ(d:zH K mg "_law_items" WB ["_law_rows", "_law_places", "_law_names_here"])(v8:mg "range" = none)(wn:mg "len" = none)(j6:mg "zip" = none):zM P w K mg base "_law_items" ["_law_rows", "_law_places", "_law_names_here"] 1 (zY K gX):=
 zH.yl d Wc (by decide) bY λf cdv A outer s H E hr=>(yB (YQ (i:=3) Wc.nd rfl (Or.inl rfl) (wg zR (yg yt (by decide))))
  (yB (YN jE rfl (jw rfl v8 (zb xm xl (qO ZY Y5 rfl wn gm (tX (zQ (z7 0)) tY)) zG)) (Wi (xT (i:=4) Wc.nd rfl (Or.inr rfl)) rfl)
   (yB (EX (i:=3) Wc.nd rfl (Or.inl rfl) (yj (u_ rfl (vn (own:=["_law_name", "_law_place"]) rfl) (Ol rfl j6 (z7 2) (z7 1)) (B1 (λC s H fp pn=>(YG (n:=2) rfl (tW (xT (i:=5) (show(wc ["_law_rows", "_law_places", "_law_names_here", "_law_items_here", "_law_k"] ["_law_name", "_law_place"]).Nodup by decide +kernel) rfl (Or.inl rfl)) (tW (xT (i:=6) (show(wc ["_law_rows", "_law_places", "_law_names_here", "_law_items_here", "_law_k"] ["_law_name", "_law_place"]).Nodup by decide +kernel) rfl (Or.inl rfl)) YH)))) rfl rfl) (λC s H fp pn=>(TW (xC (xK (yi hr)) xJ (zQ (z7 6)) (zQ (z7 4)) (yJ _)))) (λC s H fp pn=>(v4 (zA zr (zA (z7 5) zR)) (yg (za (za yt)) (by decide)))))))
    (zl (EX (i:=3) Wc.nd rfl (Or.inl rfl) (dO (z7 0) (EW (z7 4)) (EW (zb xm xl (z7 4) zG)))))))
  (zl (YO 3))))
abbrev WF:Stmt:=top 77
theorem YJ:zk ["_law_cell", "_law_k", "_law_names_here", "_law_d", "_law_s", "_law_name", "_law_mark", "_law_some"] ["_law_cell", "_law_k", "_law_names_here"] (zT WF):=⟨rfl,rfl,rfl,by decide +kernel,rfl,by decide +kernel,by decide +kernel⟩
theorem SN(d:zH K mg "_law_row" WF ["_law_cell", "_law_k", "_law_names_here"])(vd:zM P w K mg base "_law_mixed" ["_law_cell", "_law_k"] 1 (zY K vK)):zM P w K mg base "_law_row" ["_law_cell", "_law_k", "_law_names_here"] 2 (zY K ZI):=
 zH.yl d YJ (by decide) bd λf cdv A outer s H E hr=>(yB (wJ (i:=3) YJ.nd rfl (Or.inl rfl) (zb wT wS (zy vd hr rfl (zA (z7 0) (zA (zb tU pX zG (z7 1)) zR))) zG))
  (yB (wJ (i:=4) YJ.nd rfl (Or.inl rfl) (zb wT wS (zy vd hr rfl (zA (z7 0) (zA (zb xm xl (zb tU pX zG (z7 1)) zG) zR))) zG))
  (yB (wJ (i:=5) YJ.nd rfl (Or.inl rfl) (zX (zV (zL hr)) zW (z7 2) (zb wT wS (zy vd hr rfl (zA (z7 0) (zA (zb xm xl (zb tU pX zG (z7 1)) zG) zR))) zG)))
  (yB (wJ (i:=6) YJ.nd rfl (Or.inl rfl) (zX (zV (zL hr)) zW (yj (wg (zA zr (zA zr (zA zr zR))) (yg (za (za (za yt))) (by decide)))) (zb wT wS (zy vd hr rfl (zA (z7 0) (zA (zb xm xl (zb tU pX zG (z7 1)) zG) zR))) zG)))
  (yB (wJ (i:=7) YJ.nd rfl (Or.inl rfl) (yj (wg (zA (v4 (zA zr (zA (z7 6) (zA (z7 5) zR))) (yg (za (za (za yt))) (by decide))) (zA (v4 (zA zr (zA (z7 6) (zA (z7 5) zR))) (yg (za (za (za yt))) (by decide))) (zA (v4 (zA zr (zA (z7 3) (zA (z7 4) zR))) (yg (za (za (za yt))) (by decide))) (zA (v4 (zA zr (zA (z7 3) (zA (z7 4) zR))) (yg (za (za (za yt))) (by decide))) (zA (v4 (zA zr (zA (z7 3) (zA (z7 3) zR))) (yg (za (za (za yt))) (by decide))) (zA (v4 (zA zr zR) (yg (za yt) (by decide))) zR)))))) (yg (za (za (za (za (za (za yt)))))) (by decide)))))
  (zl (yd (zX (zV (zL hr)) zW (zb xm xl (z7 7) (yj (wg (zA (v4 (zA zr (zA (z7 5) zR)) (yg (za (za yt)) (by decide))) (zA (v4 (zA zr (zA (z7 6) (zA (z7 5) zR))) (yg (za (za (za yt))) (by decide))) zR)) (yg (za (za yt)) (by decide))))) (zb wT wS (z7 0) zG)))))))))
abbrev WA:Stmt:=top 78
theorem EG:zk ["_law_rows", "_law_places", "_law_names_here", "_law_s", "_law_row_here"] ["_law_rows", "_law_places", "_law_names_here", "_law_s"] (zT WA):=⟨rfl,rfl,rfl,by decide +kernel,rfl,by decide +kernel,by decide +kernel⟩
theorem SH(d:zH K mg "_law_flow" WA ["_law_rows", "_law_places", "_law_names_here", "_law_s"])(wn:mg "len" = none)(Jw:zM P w K mg base "_law_deed" ["_law_row_here", "_law_s"] 2 (zt K gU)):zM P w K mg base "_law_flow" ["_law_rows", "_law_places", "_law_names_here", "_law_s"] 3 (zt K pG):=
 zH.x_ d EG (by decide) wM λf cdv A outer s H E hr=>(yW (qz (pT (Wo (Wm (xC (xK (yi hr)) xJ (zQ (zX (zV (zL hr)) zW (z7 3) zr)) (zQ (qO ZY Y5 rfl wn gm (tX (zQ (z7 0)) tY))) (yJ _)) (Wn (xC (xK (yi hr)) xJ (zQ (zX (zV (zL hr)) zW (zX (zV (zL hr)) zW (z7 0) (zX (zV (zL hr)) zW (z7 3) zr)) zG)) (zQ zr) (yJ _))))))
   (yx (jn (xI uH)))
   pS)
  (yW (uY (i:=4) EG.nd rfl (Or.inl rfl) (by decide) (tT (zX (zV (zL hr)) zW (z7 0) (zX (zV (zL hr)) zW (z7 3) zr))))
  (yW (Dx (zL hr) (yM 3) zG)
  (yW (Dx (zL hr) (yM 3) zG)
  (yW (qz (pT (xC (AB (zL hr)) Sd (zQ (zX (zV (zL hr)) zW (z7 4) zG)) (zQ (yj (wg (zA zr (zA zr (zA zr zR))) (yg (za (za (za yt))) (by decide))))) (by with_unfolding_all rfl)))
   (yx (qK (qx Jw hr rfl (vF (z7 4) (ux (yM 3) uW)))))
   (yx (qz (pT (Wo (Wm (xC (xK (yi hr)) xJ (zQ (zX (zV (zL hr)) zW (z7 4) zG)) (zQ zr) (yJ _)) (Wn (xC (xK (yi hr)) xJ (zQ (zX (zV (zL hr)) zW (zX (zV (zL hr)) zW (z7 3) zr) (EN (yj (wg (zA zr (zA zr (zA zr zR))) (yg (za (za (za yt))) (by decide)))) (zX (zV (zL hr)) zW (z7 4) zG)))) (zQ (w_ (xK (yi hr)) xJ (zQ (zX (zV (zL hr)) zW (z7 4) zG)) (zQ zr) (yJ _))) (yJ _))))))
     (yx (R3 (zL hr) (yM 3) (xI (zX (zV (zL hr)) zW (z7 1) (EN (z7 2) (zX (zV (zL hr)) zW (z7 4) (Of Et Er zG)))))))
     pS)))
  (yx (jn (xI uH))))))))
abbrev WG:Stmt:=top 79
theorem d8:zk ["_law_rows", "_law_s"] ["_law_rows", "_law_s"] (zT WG):=⟨rfl,rfl,rfl,by decide +kernel,rfl,by decide +kernel,by decide +kernel⟩
theorem SQ(d:zH K mg "_law_stood" WG ["_law_rows", "_law_s"])(wn:mg "len" = none):zM P w K mg base "_law_stood" ["_law_rows", "_law_s"] 1 (zY K gY):=
 zH.yl d d8 (by decide) bg λf cdv A outer s H E hr=>(zl (yd (EQ (w_ (xK (yi hr)) xJ (zQ (zX (zV (zL hr)) zW (z7 1) zr)) (zQ (qO ZY Y5 rfl wn gm (tX (zQ (z7 0)) tY))) (yJ _)) (YL (w_ (xK (yi hr)) xJ (zQ (zX (zV (zL hr)) zW (zX (zV (zL hr)) zW (z7 0) (zX (zV (zL hr)) zW (z7 1) zr)) zG)) (zQ zr) (yJ _))))))
abbrev kT:Stmt:=top 80
theorem p7:zk ["_law_script", "_law_words_here", "_law_cell", "_law_names_here", "_law_count", "_law_places", "_law_rows", "_law_machine", "_law_s", "_law_turn"] ["_law_script"] (zT kT):=⟨rfl,rfl,rfl,by decide +kernel,rfl,by decide +kernel,by decide +kernel⟩
theorem S7{f:Addr}{fd:FuncData}(d:Fun K "law" "law" kT f fd)(v8:mg "range" = none)(wW:mg "list" = none)(p8:mg "repr" = none)(kd1_RowMachine:QX P w K mg base "RowMachine" ["self", "items", "registers", "memory"] 6 (zt K pE) [.zF])(v_Machine_step:vA P w K mg base "RowMachine" "step" ["self"] 7 (zt K qW))(Jv:zM P w K mg base "_law_begin" ["_law_words_here", "_law_pairs"] 1 (zt K ZG))(Jx:zM P w K mg base "_law_flow" ["_law_rows", "_law_places", "_law_names_here", "_law_s"] 3 (zt K pG))(IC:zM P w K mg base "_law_words" ["_law_cell"] 3 (zY K ZK))(jg:zM P w K mg base "_law_cell_at" ["_law_script", "_law_k"] 1 (zY K tz))(Jz:zM P w K mg base "_law_names" ["_law_cell"] 2 (zY K ZH))(vd:zM P w K mg base "_law_mixed" ["_law_cell", "_law_k"] 1 (zY K vK))(J_:zM P w K mg base "_law_row" ["_law_cell", "_law_k", "_law_names_here"] 2 (zY K ZI))(Jy:zM P w K mg base "_law_items" ["_law_rows", "_law_places", "_law_names_here"] 1 (zY K gX))(Ud:zM P w K mg base "_law_look" ["_law_machine", "_law_cell"] 3 (zY K jR))(Uc:zM P w K mg base "_law_due" ["_law_s", "_law_stands"] 1 (zY K gW))(Ue:zM P w K mg base "_law_stood" ["_law_rows", "_law_s"] 1 (zY K gY)):yz P w K mg base xB 9 f fd ["_law_script"] (Wj K):=
 Pb d p7 (by decide) wM bV λcdv A outer s H E hr=>(yW (uY (i:=1) p7.nd rfl (Or.inl rfl) (by decide) (xI (yj (uz IC hr rfl (zA (zy jg hr rfl (zA (z7 0) (zA zG zR))) zR)))))
  (yW (uY (i:=2) p7.nd rfl (Or.inr rfl) (by decide) (xI (zy jg hr rfl (zA (z7 0) (zA zG zR)))))
  (yW (uY (i:=3) p7.nd rfl (Or.inr rfl) (by decide) (xI (yj (uz Jz hr rfl (zA (z7 2) zR)))))
  (yW (uY (i:=4) p7.nd rfl (Or.inr rfl) (by decide) (xI (zb xm xl zG (zb wT wS (zy jg hr rfl (zA (z7 0) (zA zG zR))) zG))))
  (yW (Dy (i:=5) rfl p7.nd rfl rfl (vn (own:=["_law_k"]) rfl) rfl (jw rfl v8 zG) (uQ (λC s H fp pn=>(xT (i:=10) (show(wc ["_law_script", "_law_words_here", "_law_cell", "_law_names_here", "_law_count", "_law_places", "_law_rows", "_law_machine", "_law_s", "_law_turn"] ["_law_k"]).Nodup by decide +kernel) rfl (Or.inl rfl))) rfl) (λC s H fp pn=>tZ) (λC s H fp pn=>(zb wT wS (zy vd hr rfl (zA (z7 2) (zA (zb xm xl zG (z7 10)) zR))) (zb xm xl (z7 4) zG))))
  (yW (Dy (i:=6) rfl p7.nd rfl rfl (vn (own:=["_law_k"]) rfl) rfl (jw rfl v8 (z7 4)) (uQ (λC s H fp pn=>(xT (i:=10) (show(wc ["_law_script", "_law_words_here", "_law_cell", "_law_names_here", "_law_count", "_law_places", "_law_rows", "_law_machine", "_law_s", "_law_turn"] ["_law_k"]).Nodup by decide +kernel) rfl (Or.inl rfl))) rfl) (λC s H fp pn=>tZ) (λC s H fp pn=>(zy J_ hr rfl (zA (zy jg hr rfl (zA (z7 0) (zA (zb xm xl zG (z7 10)) zR))) (zA (z7 10) (zA (z7 3) zR))))))
  (yW (uY (i:=7) p7.nd rfl (Or.inl rfl) (by decide) (Pt kd1_RowMachine hr rfl (vF (yj (uz Jy hr rfl (zA (z7 6) (zA (z7 5) (zA (z7 3) zR))))) (vF (yj (Wh rfl wW (zA (z7 1) zR))) uW))))
  (yW (uY (i:=8) p7.nd rfl (Or.inl rfl) (by decide) (qx Jv hr rfl (vF (z7 1) (vF (yj (wg zR (yg yt (by decide)))) uW))))
  (yW (Iy jE rfl (jw rfl v8 zG) (Pz (xT (i:=9) p7.nd rfl (Or.inl rfl)) rfl (by decide))
   (yW (qz (pT (xC (kK (yi hr)) kI (zQ (zy Ud hr rfl (zA (z7 7) (zA (zb xm xl (zy jg hr rfl (zA (z7 0) (zA zG zR))) (z7 9)) zR)))) (zQ (zy Uc hr rfl (zA (z7 8) (zA (zy Ue hr rfl (zA (z7 6) (zA (z7 8) zR))) zR)))) (yJ _)))
     (yx (jn (xI uH)))
     pS)
    (yx (qz (R6 (kK (yi hr)) kI (Dt (BI hr) Fv rfl p8 UA (Du v_Machine_step hr (yM 7))) (Dt (BI hr) Fv rfl p8 UA (qx Jx hr rfl (vF (z7 6) (vF (z7 5) (vF (z7 3) (ux (yM 8) uW)))))) (yJ _))
     (yx (jn (xI uH)))
     pS))))
  (yx (jn (tT (w_ (xK (yi hr)) xJ (zQ (zy Ud hr rfl (zA (z7 7) (zA (zb O8 O3 (zy jg hr rfl (zA (z7 0) (zA zG zR))) zG) zR)))) (zQ (zy Uc hr rfl (zA (z7 8) (zA (zy Ue hr rfl (zA (z7 6) (zA (z7 8) zR))) zR)))) (yJ _))))))))))))))
end
theorem all_mk{l:W.OpenLaw}{w:World}{K:W.Frag}{h:Heap}{mg:Str->Option Value}{fa:Addr}(X:K.In h)(G:h.Ns mainGlobals mg)(hfa:mg "law" = some (.ref fa))
  {f0:Addr}{od0 an0:Option Addr}{sl0:Array (Option Value)}{oc0 kV0 dc0 pm0 cd0 ct0:Value}
  {f1:Addr}{od1 an1:Option Addr}{sl1:Array (Option Value)}{oc1 kV1 dc1 pm1 cd1 ct1:Value}
  {f2:Addr}{od2 an2:Option Addr}{sl2:Array (Option Value)}{oc2 kV2 dc2 pm2 cd2 ct2:Value}
  {f3:Addr}{od3 an3:Option Addr}{sl3:Array (Option Value)}{oc3 kV3 dc3 pm3 cd3 ct3:Value}
  {f4:Addr}{od4 an4:Option Addr}{sl4:Array (Option Value)}{oc4 kV4 dc4 pm4 cd4 ct4:Value}
  {f5:Addr}{od5 an5:Option Addr}{sl5:Array (Option Value)}{oc5 kV5 dc5 pm5 cd5 ct5:Value}
  {f6:Addr}{od6 an6:Option Addr}{sl6:Array (Option Value)}{oc6 kV6 dc6 pm6 cd6 ct6:Value}
  {f7:Addr}{od7 an7:Option Addr}{sl7:Array (Option Value)}{oc7 kV7 dc7 pm7 cd7 ct7:Value}
  {f8:Addr}{od8 an8:Option Addr}{sl8:Array (Option Value)}{oc8 kV8 dc8 pm8 cd8 ct8:Value}
  {f9:Addr}{od9 an9:Option Addr}{sl9:Array (Option Value)}{oc9 kV9 dc9 pm9 cd9 ct9:Value}
  {f10:Addr}{od10 an10:Option Addr}{sl10:Array (Option Value)}{oc10 kV10 dc10 pm10 cd10 ct10:Value}
  {f11:Addr}{od11 an11:Option Addr}{sl11:Array (Option Value)}{oc11 kV11 dc11 pm11 cd11 ct11:Value}
  {f12:Addr}{od12 an12:Option Addr}{sl12:Array (Option Value)}{oc12 kV12 dc12 pm12 cd12 ct12:Value}
  {f13:Addr}{od13 an13:Option Addr}{sl13:Array (Option Value)}{oc13 kV13 dc13 pm13 cd13 ct13:Value}
  {f14:Addr}{od14 an14:Option Addr}{sl14:Array (Option Value)}{oc14 kV14 dc14 pm14 cd14 ct14:Value}
  {f15:Addr}{od15 an15:Option Addr}{sl15:Array (Option Value)}{oc15 kV15 dc15 pm15 cd15 ct15:Value}
  {f16:Addr}{od16 an16:Option Addr}{sl16:Array (Option Value)}{oc16 kV16 dc16 pm16 cd16 ct16:Value}
  {f17:Addr}{od17 an17:Option Addr}{sl17:Array (Option Value)}{oc17 kV17 dc17 pm17 cd17 ct17:Value}
  {f18:Addr}{od18 an18:Option Addr}{sl18:Array (Option Value)}{oc18 kV18 dc18 pm18 cd18 ct18:Value}
  {f19:Addr}{od19 an19:Option Addr}{sl19:Array (Option Value)}{oc19 kV19 dc19 pm19 cd19 ct19:Value}
  {f20:Addr}{od20 an20:Option Addr}{sl20:Array (Option Value)}{oc20 kV20 dc20 pm20 cd20 ct20:Value}
  {f21:Addr}{od21 an21:Option Addr}{sl21:Array (Option Value)}{oc21 kV21 dc21 pm21 cd21 ct21:Value}
  {f22:Addr}{od22 an22:Option Addr}{sl22:Array (Option Value)}{oc22 kV22 dc22 pm22 cd22 ct22:Value}
  {f23:Addr}{od23 an23:Option Addr}{sl23:Array (Option Value)}{oc23 kV23 dc23 pm23 cd23 ct23:Value}
  {f24:Addr}{od24 an24:Option Addr}{sl24:Array (Option Value)}{oc24 kV24 dc24 pm24 cd24 ct24:Value}
  {f25:Addr}{od25 an25:Option Addr}{sl25:Array (Option Value)}{oc25 kV25 dc25 pm25 cd25 ct25:Value}
  {f26:Addr}{od26 an26:Option Addr}{sl26:Array (Option Value)}{oc26 kV26 dc26 pm26 cd26 ct26:Value}
  {f27:Addr}{od27 an27:Option Addr}{sl27:Array (Option Value)}{oc27 kV27 dc27 pm27 cd27 ct27:Value}
  {f28:Addr}{od28 an28:Option Addr}{sl28:Array (Option Value)}{oc28 kV28 dc28 pm28 cd28 ct28:Value}
  {f29:Addr}{od29 an29:Option Addr}{sl29:Array (Option Value)}{oc29 kV29 dc29 pm29 cd29 ct29:Value}
  {f30:Addr}{od30 an30:Option Addr}{sl30:Array (Option Value)}{oc30 kV30 dc30 pm30 cd30 ct30:Value}
  {f31:Addr}{od31 an31:Option Addr}{sl31:Array (Option Value)}{oc31 kV31 dc31 pm31 cd31 ct31:Value}
  {f32:Addr}{od32 an32:Option Addr}{sl32:Array (Option Value)}{oc32 kV32 dc32 pm32 cd32 ct32:Value}
  {f33:Addr}{od33 an33:Option Addr}{sl33:Array (Option Value)}{oc33 kV33 dc33 pm33 cd33 ct33:Value}
  {f34:Addr}{od34 an34:Option Addr}{sl34:Array (Option Value)}{oc34 kV34 dc34 pm34 cd34 ct34:Value}
  {f35:Addr}{od35 an35:Option Addr}{sl35:Array (Option Value)}{oc35 kV35 dc35 pm35 cd35 ct35:Value}
  {f36:Addr}{od36 an36:Option Addr}{sl36:Array (Option Value)}{oc36 kV36 dc36 pm36 cd36 ct36:Value}
  {f37:Addr}{od37 an37:Option Addr}{sl37:Array (Option Value)}{oc37 kV37 dc37 pm37 cd37 ct37:Value}
  {f38:Addr}{od38 an38:Option Addr}{sl38:Array (Option Value)}{oc38 kV38 dc38 pm38 cd38 ct38:Value}
  {f39:Addr}{od39 an39:Option Addr}{sl39:Array (Option Value)}{oc39 kV39 dc39 pm39 cd39 ct39:Value}
  {f40:Addr}{od40 an40:Option Addr}{sl40:Array (Option Value)}{oc40 kV40 dc40 pm40 cd40 ct40:Value}
  {f41:Addr}{od41 an41:Option Addr}{sl41:Array (Option Value)}{oc41 kV41 dc41 pm41 cd41 ct41:Value}
  {f42:Addr}{od42 an42:Option Addr}{sl42:Array (Option Value)}{oc42 kV42 dc42 pm42 cd42 ct42:Value}
  {f43:Addr}{od43 an43:Option Addr}{sl43:Array (Option Value)}{oc43 kV43 dc43 pm43 cd43 ct43:Value}
  {f44:Addr}{od44 an44:Option Addr}{sl44:Array (Option Value)}{oc44 kV44 dc44 pm44 cd44 ct44:Value}
  {f45:Addr}{od45 an45:Option Addr}{sl45:Array (Option Value)}{oc45 kV45 dc45 pm45 cd45 ct45:Value}
  {f46:Addr}{od46 an46:Option Addr}{sl46:Array (Option Value)}{oc46 kV46 dc46 pm46 cd46 ct46:Value}
  {f47:Addr}{od47 an47:Option Addr}{sl47:Array (Option Value)}{oc47 kV47 dc47 pm47 cd47 ct47:Value}
  {f48:Addr}{od48 an48:Option Addr}{sl48:Array (Option Value)}{oc48 kV48 dc48 pm48 cd48 ct48:Value}
  {f49:Addr}{od49 an49:Option Addr}{sl49:Array (Option Value)}{oc49 kV49 dc49 pm49 cd49 ct49:Value}
  {f50:Addr}{od50 an50:Option Addr}{sl50:Array (Option Value)}{oc50 kV50 dc50 pm50 cd50 ct50:Value}
  {f51:Addr}{od51 an51:Option Addr}{sl51:Array (Option Value)}{oc51 kV51 dc51 pm51 cd51 ct51:Value}
  {f52:Addr}{od52 an52:Option Addr}{sl52:Array (Option Value)}{oc52 kV52 dc52 pm52 cd52 ct52:Value}
  {f53:Addr}{od53 an53:Option Addr}{sl53:Array (Option Value)}{oc53 kV53 dc53 pm53 cd53 ct53:Value}
  {f54:Addr}{od54 an54:Option Addr}{sl54:Array (Option Value)}{oc54 kV54 dc54 pm54 cd54 ct54:Value}
  {f55:Addr}{od55 an55:Option Addr}{sl55:Array (Option Value)}{oc55 kV55 dc55 pm55 cd55 ct55:Value}
  {f56:Addr}{od56 an56:Option Addr}{sl56:Array (Option Value)}{oc56 kV56 dc56 pm56 cd56 ct56:Value}
  {f57:Addr}{od57 an57:Option Addr}{sl57:Array (Option Value)}{oc57 kV57 dc57 pm57 cd57 ct57:Value}
  {f58:Addr}{od58 an58:Option Addr}{sl58:Array (Option Value)}{oc58 kV58 dc58 pm58 cd58 ct58:Value}
  {f59:Addr}{od59 an59:Option Addr}{sl59:Array (Option Value)}{oc59 kV59 dc59 pm59 cd59 ct59:Value}
  {f60:Addr}{od60 an60:Option Addr}{sl60:Array (Option Value)}{oc60 kV60 dc60 pm60 cd60 ct60:Value}
  {f61:Addr}{od61 an61:Option Addr}{sl61:Array (Option Value)}{oc61 kV61 dc61 pm61 cd61 ct61:Value}
  {f62:Addr}{od62 an62:Option Addr}{sl62:Array (Option Value)}{oc62 kV62 dc62 pm62 cd62 ct62:Value}
  {f63:Addr}{od63 an63:Option Addr}{sl63:Array (Option Value)}{oc63 kV63 dc63 pm63 cd63 ct63:Value}
  {f64:Addr}{od64 an64:Option Addr}{sl64:Array (Option Value)}{oc64 kV64 dc64 pm64 cd64 ct64:Value}
  {f65:Addr}{od65 an65:Option Addr}{sl65:Array (Option Value)}{oc65 kV65 dc65 pm65 cd65 ct65:Value}
  {f66:Addr}{od66 an66:Option Addr}{sl66:Array (Option Value)}{oc66 kV66 dc66 pm66 cd66 ct66:Value}
  {f67:Addr}{od67 an67:Option Addr}{sl67:Array (Option Value)}{oc67 kV67 dc67 pm67 cd67 ct67:Value}
  {C_Machine:Addr}(FB:W.nsIn K mainGlobals "Machine" = some (some (.ref C_Machine)))
  {C_RowMachine:Addr}(wy:W.nsIn K mainGlobals "RowMachine" = some (some (.ref C_RowMachine)))
  {C_State:Addr}(Y2:W.nsIn K mainGlobals "State" = some (some (.ref C_State)))
  (a0:W.nsIn K mainGlobals "is_number" = some (some (.ref f0)))
  (l0:K.lookup f0=z_ "is_number" W2 oc0 od0 sl0 kV0 dc0 pm0 an0 cd0 ct0)
  (c0:W.codeIn K cd0 "is_number" = true)(k0:W.keepIn K (.ref f0)=true)
  (a1:W.nsIn K mainGlobals "added" = some (some (.ref f1)))
  (l1:K.lookup f1=z_ "added" Xh oc1 od1 sl1 kV1 dc1 pm1 an1 cd1 ct1)
  (c1:W.codeIn K cd1 "added" = true)(k1:W.keepIn K (.ref f1)=true)
  (a2:W.nsIn K mainGlobals "taken" = some (some (.ref f2)))
  (l2:K.lookup f2=z_ "taken" WV oc2 od2 sl2 kV2 dc2 pm2 an2 cd2 ct2)
  (c2:W.codeIn K cd2 "taken" = true)(k2:W.keepIn K (.ref f2)=true)
  (a3:W.nsIn K mainGlobals "part" = some (some (.ref f3)))
  (l3:K.lookup f3=z_ "part" WP oc3 od3 sl3 kV3 dc3 pm3 an3 cd3 ct3)
  (c3:W.codeIn K cd3 "part" = true)(k3:W.keepIn K (.ref f3)=true)
  (a4:W.nsIn K mainGlobals "moved_left" = some (some (.ref f4)))
  (l4:K.lookup f4=z_ "moved_left" WM oc4 od4 sl4 kV4 dc4 pm4 an4 cd4 ct4)
  (c4:W.codeIn K cd4 "moved_left" = true)(k4:W.keepIn K (.ref f4)=true)
  (a5:W.nsIn K mainGlobals "moved_right" = some (some (.ref f5)))
  (l5:K.lookup f5=z_ "moved_right" WN oc5 od5 sl5 kV5 dc5 pm5 an5 cd5 ct5)
  (c5:W.codeIn K cd5 "moved_right" = true)(k5:W.keepIn K (.ref f5)=true)
  (a6:W.nsIn K mainGlobals "with_part" = some (some (.ref f6)))
  (l6:K.lookup f6=z_ "with_part" WX oc6 od6 sl6 kV6 dc6 pm6 an6 cd6 ct6)
  (c6:W.codeIn K cd6 "with_part" = true)(k6:W.keepIn K (.ref f6)=true)
  (a7:W.nsIn K mainGlobals "bytes_of" = some (some (.ref f7)))
  (l7:K.lookup f7=z_ "bytes_of" Xm oc7 od7 sl7 kV7 dc7 pm7 an7 cd7 ct7)
  (c7:W.codeIn K cd7 "bytes_of" = true)(k7:W.keepIn K (.ref f7)=true)
  (a8:W.nsIn K mainGlobals "word_of" = some (some (.ref f8)))
  (l8:K.lookup f8=z_ "word_of" WZ oc8 od8 sl8 kV8 dc8 pm8 an8 cd8 ct8)
  (c8:W.codeIn K cd8 "word_of" = true)(k8:W.keepIn K (.ref f8)=true)
  (a9:W.nsIn K mainGlobals "is_label" = some (some (.ref f9)))
  (l9:K.lookup f9=z_ "is_label" W1 oc9 od9 sl9 kV9 dc9 pm9 an9 cd9 ct9)
  (c9:W.codeIn K cd9 "is_label" = true)(k9:W.keepIn K (.ref f9)=true)
  (a10:W.nsIn K mainGlobals "is_jump" = some (some (.ref f10)))
  (l10:K.lookup f10=z_ "is_jump" X_ oc10 od10 sl10 kV10 dc10 pm10 an10 cd10 ct10)
  (c10:W.codeIn K cd10 "is_jump" = true)(k10:W.keepIn K (.ref f10)=true)
  (a11:W.nsIn K mainGlobals "rows_of" = some (some (.ref f11)))
  (l11:K.lookup f11=z_ "rows_of" WS oc11 od11 sl11 kV11 dc11 pm11 an11 cd11 ct11)
  (c11:W.codeIn K cd11 "rows_of" = true)(k11:W.keepIn K (.ref f11)=true)
  (a12:W.nsIn K mainGlobals "label_places" = some (some (.ref f12)))
  (l12:K.lookup f12=z_ "label_places" W5 oc12 od12 sl12 kV12 dc12 pm12 an12 cd12 ct12)
  (c12:W.codeIn K cd12 "label_places" = true)(k12:W.keepIn K (.ref f12)=true)
  (a13:W.nsIn K mainGlobals "targets_of" = some (some (.ref f13)))
  (l13:K.lookup f13=z_ "targets_of" WW oc13 od13 sl13 kV13 dc13 pm13 an13 cd13 ct13)
  (c13:W.codeIn K cd13 "targets_of" = true)(k13:W.keepIn K (.ref f13)=true)
  (a14:W.nsIn K mainGlobals "is_address" = some (some (.ref f14)))
  (l14:K.lookup f14=z_ "is_address" Xz oc14 od14 sl14 kV14 dc14 pm14 an14 cd14 ct14)
  (c14:W.codeIn K cd14 "is_address" = true)(k14:W.keepIn K (.ref f14)=true)
  (a15:W.nsIn K mainGlobals "is_pair" = some (some (.ref f15)))
  (l15:K.lookup f15=z_ "is_pair" W3 oc15 od15 sl15 kV15 dc15 pm15 an15 cd15 ct15)
  (c15:W.codeIn K cd15 "is_pair" = true)(k15:W.keepIn K (.ref f15)=true)
  (a16:W.nsIn K mainGlobals "bytes_from" = some (some (.ref f16)))
  (l16:K.lookup f16=z_ "bytes_from" Xl oc16 od16 sl16 kV16 dc16 pm16 an16 cd16 ct16)
  (c16:W.codeIn K cd16 "bytes_from" = true)(k16:W.keepIn K (.ref f16)=true)
  (a17:W.nsIn K mainGlobals "pairs_of" = some (some (.ref f17)))
  (l17:K.lookup f17=z_ "pairs_of" WO oc17 od17 sl17 kV17 dc17 pm17 an17 cd17 ct17)
  (c17:W.codeIn K cd17 "pairs_of" = true)(k17:W.keepIn K (.ref f17)=true)
  (a18:W.nsIn K mainGlobals "byte_at" = some (some (.ref f18)))
  (l18:K.lookup f18=z_ "byte_at" Xk oc18 od18 sl18 kV18 dc18 pm18 an18 cd18 ct18)
  (c18:W.codeIn K cd18 "byte_at" = true)(k18:W.keepIn K (.ref f18)=true)
  (a19:W.nsIn K mainGlobals "address_of" = some (some (.ref f19)))
  (l19:K.lookup f19=z_ "address_of" Xj oc19 od19 sl19 kV19 dc19 pm19 an19 cd19 ct19)
  (c19:W.codeIn K cd19 "address_of" = true)(k19:W.keepIn K (.ref f19)=true)
  (a20:W.nsIn K mainGlobals "four_from" = some (some (.ref f20)))
  (l20:K.lookup f20=z_ "four_from" Xy oc20 od20 sl20 kV20 dc20 pm20 an20 cd20 ct20)
  (c20:W.codeIn K cd20 "four_from" = true)(k20:W.keepIn K (.ref f20)=true)
  (a21:W.nsIn K mainGlobals "word_at" = some (some (.ref f21)))
  (l21:K.lookup f21=z_ "word_at" WY oc21 od21 sl21 kV21 dc21 pm21 an21 cd21 ct21)
  (c21:W.codeIn K cd21 "word_at" = true)(k21:W.keepIn K (.ref f21)=true)
  (a22:W.nsIn K mainGlobals "put_byte" = some (some (.ref f22)))
  (l22:K.lookup f22=z_ "put_byte" WQ oc22 od22 sl22 kV22 dc22 pm22 an22 cd22 ct22)
  (c22:W.codeIn K cd22 "put_byte" = true)(k22:W.keepIn K (.ref f22)=true)
  (a23:W.nsIn K mainGlobals "put_word" = some (some (.ref f23)))
  (l23:K.lookup f23=z_ "put_word" WR oc23 od23 sl23 kV23 dc23 pm23 an23 cd23 ct23)
  (c23:W.codeIn K cd23 "put_word" = true)(k23:W.keepIn K (.ref f23)=true)
  (a24:W.findIn K (.ref C_State) "__init__" = some (some (.ref f24)))
  (i24:W.isFn K (.ref f24)=true)
  (l24:K.lookup f24=some ⟨oc24,od24,.func (W.fnOf "__init__" "State.__init__" (xH j0) (yc j0) (zT j0) .none kV24 dc24 pm24 an24 cd24 ct24),sl24⟩)
  (c24:W.codeIn K cd24 "State.__init__" = true)(k24:W.keepIn K (.ref f24)=true)
  (a25:W.nsIn K mainGlobals "do_set" = some (some (.ref f25)))
  (l25:K.lookup f25=z_ "do_set" Xu oc25 od25 sl25 kV25 dc25 pm25 an25 cd25 ct25)
  (c25:W.codeIn K cd25 "do_set" = true)(k25:W.keepIn K (.ref f25)=true)
  (a26:W.nsIn K mainGlobals "do_high" = some (some (.ref f26)))
  (l26:K.lookup f26=z_ "do_high" Xp oc26 od26 sl26 kV26 dc26 pm26 an26 cd26 ct26)
  (c26:W.codeIn K cd26 "do_high" = true)(k26:W.keepIn K (.ref f26)=true)
  (a27:W.nsIn K mainGlobals "do_copy" = some (some (.ref f27)))
  (l27:K.lookup f27=z_ "do_copy" Xo oc27 od27 sl27 kV27 dc27 pm27 an27 cd27 ct27)
  (c27:W.codeIn K cd27 "do_copy" = true)(k27:W.keepIn K (.ref f27)=true)
  (a28:W.nsIn K mainGlobals "summed" = some (some (.ref f28)))
  (l28:K.lookup f28=z_ "summed" WT oc28 od28 sl28 kV28 dc28 pm28 an28 cd28 ct28)
  (c28:W.codeIn K cd28 "summed" = true)(k28:W.keepIn K (.ref f28)=true)
  (a29:W.nsIn K mainGlobals "look_at" = some (some (.ref f29)))
  (l29:K.lookup f29=z_ "look_at" WL oc29 od29 sl29 kV29 dc29 pm29 an29 cd29 ct29)
  (c29:W.codeIn K cd29 "look_at" = true)(k29:W.keepIn K (.ref f29)=true)
  (a30:W.nsIn K mainGlobals "do_sum" = some (some (.ref f30)))
  (l30:K.lookup f30=z_ "do_sum" Xx oc30 od30 sl30 kV30 dc30 pm30 an30 cd30 ct30)
  (c30:W.codeIn K cd30 "do_sum" = true)(k30:W.keepIn K (.ref f30)=true)
  (a31:W.nsIn K mainGlobals "joined" = some (some (.ref f31)))
  (l31:K.lookup f31=z_ "joined" W4 oc31 od31 sl31 kV31 dc31 pm31 an31 cd31 ct31)
  (c31:W.codeIn K cd31 "joined" = true)(k31:W.keepIn K (.ref f31)=true)
  (a32:W.nsIn K mainGlobals "do_bits" = some (some (.ref f32)))
  (l32:K.lookup f32=z_ "do_bits" Xn oc32 od32 sl32 kV32 dc32 pm32 an32 cd32 ct32)
  (c32:W.codeIn K cd32 "do_bits" = true)(k32:W.keepIn K (.ref f32)=true)
  (a33:W.nsIn K mainGlobals "do_move" = some (some (.ref f33)))
  (l33:K.lookup f33=z_ "do_move" Xs oc33 od33 sl33 kV33 dc33 pm33 an33 cd33 ct33)
  (c33:W.codeIn K cd33 "do_move" = true)(k33:W.keepIn K (.ref f33)=true)
  (a34:W.nsIn K mainGlobals "address_in" = some (some (.ref f34)))
  (l34:K.lookup f34=z_ "address_in" Xi oc34 od34 sl34 kV34 dc34 pm34 an34 cd34 ct34)
  (c34:W.codeIn K cd34 "address_in" = true)(k34:W.keepIn K (.ref f34)=true)
  (a35:W.nsIn K mainGlobals "do_load" = some (some (.ref f35)))
  (l35:K.lookup f35=z_ "do_load" Xq oc35 od35 sl35 kV35 dc35 pm35 an35 cd35 ct35)
  (c35:W.codeIn K cd35 "do_load" = true)(k35:W.keepIn K (.ref f35)=true)
  (a36:W.nsIn K mainGlobals "do_loadw" = some (some (.ref f36)))
  (l36:K.lookup f36=z_ "do_loadw" Xr oc36 od36 sl36 kV36 dc36 pm36 an36 cd36 ct36)
  (c36:W.codeIn K cd36 "do_loadw" = true)(k36:W.keepIn K (.ref f36)=true)
  (a37:W.nsIn K mainGlobals "do_store" = some (some (.ref f37)))
  (l37:K.lookup f37=z_ "do_store" Xv oc37 od37 sl37 kV37 dc37 pm37 an37 cd37 ct37)
  (c37:W.codeIn K cd37 "do_store" = true)(k37:W.keepIn K (.ref f37)=true)
  (a38:W.nsIn K mainGlobals "do_storew" = some (some (.ref f38)))
  (l38:K.lookup f38=z_ "do_storew" Xw oc38 od38 sl38 kV38 dc38 pm38 an38 cd38 ct38)
  (c38:W.codeIn K cd38 "do_storew" = true)(k38:W.keepIn K (.ref f38)=true)
  (a39:W.nsIn K mainGlobals "do_row" = some (some (.ref f39)))
  (l39:K.lookup f39=z_ "do_row" Xt oc39 od39 sl39 kV39 dc39 pm39 an39 cd39 ct39)
  (c39:W.codeIn K cd39 "do_row" = true)(k39:W.keepIn K (.ref f39)=true)
  (a40:W.nsIn K mainGlobals "leads" = some (some (.ref f40)))
  (l40:K.lookup f40=z_ "leads" WK oc40 od40 sl40 kV40 dc40 pm40 an40 cd40 ct40)
  (c40:W.codeIn K cd40 "leads" = true)(k40:W.keepIn K (.ref f40)=true)
  (a41:W.nsIn K mainGlobals "words_from" = some (some (.ref f41)))
  (l41:K.lookup f41=z_ "words_from" Wa oc41 od41 sl41 kV41 dc41 pm41 an41 cd41 ct41)
  (c41:W.codeIn K cd41 "words_from" = true)(k41:W.keepIn K (.ref f41)=true)
  (a42:W.findIn K (.ref C_RowMachine) "stands" = some (some (.ref f42)))
  (i42:W.isFn K (.ref f42)=true)
  (l42:K.lookup f42=some ⟨oc42,od42,.func (W.fnOf "stands" "Machine.stands" (xH py) (yc py) (zT py) .none kV42 dc42 pm42 an42 cd42 ct42),sl42⟩)
  (c42:W.codeIn K cd42 "Machine.stands" = true)(k42:W.keepIn K (.ref f42)=true)
  (a43:W.findIn K (.ref C_RowMachine) "again" = some (some (.ref f43)))
  (i43:W.isFn K (.ref f43)=true)
  (l43:K.lookup f43=some ⟨oc43,od43,.func (W.fnOf "again" "Machine.again" (xH pd) (yc pd) (zT pd) .none kV43 dc43 pm43 an43 cd43 ct43),sl43⟩)
  (c43:W.codeIn K cd43 "Machine.again" = true)(k43:W.keepIn K (.ref f43)=true)
  (a44:W.findIn K (.ref C_RowMachine) "step" = some (some (.ref f44)))
  (i44:W.isFn K (.ref f44)=true)
  (l44:K.lookup f44=some ⟨oc44,od44,.func (W.fnOf "step" "Machine.step" (xH pz) (yc pz) (zT pz) .none kV44 dc44 pm44 an44 cd44 ct44),sl44⟩)
  (c44:W.codeIn K cd44 "Machine.step" = true)(k44:W.keepIn K (.ref f44)=true)
  (a45:W.findIn K (.ref C_RowMachine) "registers" = some (some (.ref f45)))
  (i45:W.isFn K (.ref f45)=true)
  (l45:K.lookup f45=some ⟨oc45,od45,.func (W.fnOf "registers" "Machine.registers" (xH pq) (yc pq) (zT pq) .none kV45 dc45 pm45 an45 cd45 ct45),sl45⟩)
  (c45:W.codeIn K cd45 "Machine.registers" = true)(k45:W.keepIn K (.ref f45)=true)
  (a46:W.findIn K (.ref C_RowMachine) "marks" = some (some (.ref f46)))
  (i46:W.isFn K (.ref f46)=true)
  (l46:K.lookup f46=some ⟨oc46,od46,.func (W.fnOf "marks" "Machine.marks" (xH pf) (yc pf) (zT pf) .none kV46 dc46 pm46 an46 cd46 ct46),sl46⟩)
  (c46:W.codeIn K cd46 "Machine.marks" = true)(k46:W.keepIn K (.ref f46)=true)
  (a47:W.findIn K (.ref C_RowMachine) "memory" = some (some (.ref f47)))
  (i47:W.isFn K (.ref f47)=true)
  (l47:K.lookup f47=some ⟨oc47,od47,.func (W.fnOf "memory" "Machine.memory" (xH pj) (yc pj) (zT pj) .none kV47 dc47 pm47 an47 cd47 ct47),sl47⟩)
  (c47:W.codeIn K cd47 "Machine.memory" = true)(k47:W.keepIn K (.ref f47)=true)
  (a48:W.findIn K (.ref C_RowMachine) "place" = some (some (.ref f48)))
  (i48:W.isFn K (.ref f48)=true)
  (l48:K.lookup f48=some ⟨oc48,od48,.func (W.fnOf "place" "Machine.place" (xH pp) (yc pp) (zT pp) .none kV48 dc48 pm48 an48 cd48 ct48),sl48⟩)
  (c48:W.codeIn K cd48 "Machine.place" = true)(k48:W.keepIn K (.ref f48)=true)
  (a49:W.findIn K (.ref C_RowMachine) "steps" = some (some (.ref f49)))
  (i49:W.isFn K (.ref f49)=true)
  (l49:K.lookup f49=some ⟨oc49,od49,.func (W.fnOf "steps" "Machine.steps" (xH p_) (yc p_) (zT p_) .none kV49 dc49 pm49 an49 cd49 ct49),sl49⟩)
  (c49:W.codeIn K cd49 "Machine.steps" = true)(k49:W.keepIn K (.ref f49)=true)
  (a50:W.findCls K (.ref C_Machine) (.type "type") "__init__" = some (.val (.ref f50)))
  (i50:W.isFn K (.ref f50)=true)
  (l50:K.lookup f50=some ⟨oc50,od50,.func (W.fnOf "__init__" "Machine.__init__" (xH pZ) (yc pZ) (zT pZ) .none kV50 dc50 pm50 an50 cd50 ct50),sl50⟩)
  (c50:W.codeIn K cd50 "Machine.__init__" = true)(k50:W.keepIn K (.ref f50)=true)
  (a51:W.nsIn K mainGlobals "table_of_rows" = some (some (.ref f51)))
  (l51:K.lookup f51=z_ "table_of_rows" WU oc51 od51 sl51 kV51 dc51 pm51 an51 cd51 ct51)
  (c51:W.codeIn K cd51 "table_of_rows" = true)(k51:W.keepIn K (.ref f51)=true)
  (a52:W.findIn K (.ref C_RowMachine) "__init__" = some (some (.ref f52)))
  (i52:W.isFn K (.ref f52)=true)
  {T52:Addr}
  (l52:K.lookup f52=some ⟨oc52,od52,.func (W.fnOf "__init__" "RowMachine.__init__" (xH vO) (yc vO) (zT vO) (.ref T52) kV52 dc52 pm52 an52 cd52 ct52),sl52⟩)
  {nt52:Nat}{st52:Array (Option Value)}{dt52:Option Addr}(t52:K.lookup T52=some ⟨.type "tuple",dt52,.seq #[.none,.none] nt52,st52⟩)
  (c52:W.codeIn K cd52 "RowMachine.__init__" = true)(k52:W.keepIn K (.ref f52)=true)
  (a53:W.nsIn K mainGlobals "_law_cell_at" = some (some (.ref f53)))
  (l53:K.lookup f53=z_ "_law_cell_at" W7 oc53 od53 sl53 kV53 dc53 pm53 an53 cd53 ct53)
  (c53:W.codeIn K cd53 "_law_cell_at" = true)(k53:W.keepIn K (.ref f53)=true)
  (a54:W.nsIn K mainGlobals "_law_mixed" = some (some (.ref f54)))
  (l54:K.lookup f54=z_ "_law_mixed" WD oc54 od54 sl54 kV54 dc54 pm54 an54 cd54 ct54)
  (c54:W.codeIn K cd54 "_law_mixed" = true)(k54:W.keepIn K (.ref f54)=true)
  (a55:W.nsIn K mainGlobals "_law_word" = some (some (.ref f55)))
  (l55:K.lookup f55=z_ "_law_word" WI oc55 od55 sl55 kV55 dc55 pm55 an55 cd55 ct55)
  (c55:W.codeIn K cd55 "_law_word" = true)(k55:W.keepIn K (.ref f55)=true)
  (a56:W.nsIn K mainGlobals "_law_words" = some (some (.ref f56)))
  (l56:K.lookup f56=z_ "_law_words" WJ oc56 od56 sl56 kV56 dc56 pm56 an56 cd56 ct56)
  (c56:W.codeIn K cd56 "_law_words" = true)(k56:W.keepIn K (.ref f56)=true)
  (a57:W.nsIn K mainGlobals "_law_sum" = some (some (.ref f57)))
  (l57:K.lookup f57=z_ "_law_sum" WH oc57 od57 sl57 kV57 dc57 pm57 an57 cd57 ct57)
  (c57:W.codeIn K cd57 "_law_sum" = true)(k57:W.keepIn K (.ref f57)=true)
  (a58:W.nsIn K mainGlobals "_law_deed" = some (some (.ref f58)))
  (l58:K.lookup f58=z_ "_law_deed" W8 oc58 od58 sl58 kV58 dc58 pm58 an58 cd58 ct58)
  (c58:W.codeIn K cd58 "_law_deed" = true)(k58:W.keepIn K (.ref f58)=true)
  (a59:W.nsIn K mainGlobals "_law_begin" = some (some (.ref f59)))
  (l59:K.lookup f59=z_ "_law_begin" W6 oc59 od59 sl59 kV59 dc59 pm59 an59 cd59 ct59)
  (c59:W.codeIn K cd59 "_law_begin" = true)(k59:W.keepIn K (.ref f59)=true)
  (a60:W.nsIn K mainGlobals "_law_look" = some (some (.ref f60)))
  (l60:K.lookup f60=z_ "_law_look" WC oc60 od60 sl60 kV60 dc60 pm60 an60 cd60 ct60)
  (c60:W.codeIn K cd60 "_law_look" = true)(k60:W.keepIn K (.ref f60)=true)
  (a61:W.nsIn K mainGlobals "_law_due" = some (some (.ref f61)))
  (l61:K.lookup f61=z_ "_law_due" W9 oc61 od61 sl61 kV61 dc61 pm61 an61 cd61 ct61)
  (c61:W.codeIn K cd61 "_law_due" = true)(k61:W.keepIn K (.ref f61)=true)
  (a62:W.nsIn K mainGlobals "_law_names" = some (some (.ref f62)))
  (l62:K.lookup f62=z_ "_law_names" WE oc62 od62 sl62 kV62 dc62 pm62 an62 cd62 ct62)
  (c62:W.codeIn K cd62 "_law_names" = true)(k62:W.keepIn K (.ref f62)=true)
  (a63:W.nsIn K mainGlobals "_law_items" = some (some (.ref f63)))
  (l63:K.lookup f63=z_ "_law_items" WB oc63 od63 sl63 kV63 dc63 pm63 an63 cd63 ct63)
  (c63:W.codeIn K cd63 "_law_items" = true)(k63:W.keepIn K (.ref f63)=true)
  (a64:W.nsIn K mainGlobals "_law_row" = some (some (.ref f64)))
  (l64:K.lookup f64=z_ "_law_row" WF oc64 od64 sl64 kV64 dc64 pm64 an64 cd64 ct64)
  (c64:W.codeIn K cd64 "_law_row" = true)(k64:W.keepIn K (.ref f64)=true)
  (a65:W.nsIn K mainGlobals "_law_flow" = some (some (.ref f65)))
  (l65:K.lookup f65=z_ "_law_flow" WA oc65 od65 sl65 kV65 dc65 pm65 an65 cd65 ct65)
  (c65:W.codeIn K cd65 "_law_flow" = true)(k65:W.keepIn K (.ref f65)=true)
  (a66:W.nsIn K mainGlobals "_law_stood" = some (some (.ref f66)))
  (l66:K.lookup f66=z_ "_law_stood" WG oc66 od66 sl66 kV66 dc66 pm66 an66 cd66 ct66)
  (c66:W.codeIn K cd66 "_law_stood" = true)(k66:W.keepIn K (.ref f66)=true)
  (a67:W.nsIn K mainGlobals "law" = some (some (.ref f67)))
  (l67:K.lookup f67=z_ "law" kT oc67 od67 sl67 kV67 dc67 pm67 an67 cd67 ct67)
  (c67:W.codeIn K cd67 "law" = true)(k67:W.keepIn K (.ref f67)=true)
  (Fg:W.nsIn K mainGlobals "isinstance" = some none)
  (Ff:W.nsIn K mainGlobals "int" = some none)
  (Fc:W.nsIn K mainGlobals "bool" = some none)
  (Fo:W.nsIn K mainGlobals "tuple" = some none)
  (Fn:W.nsIn K mainGlobals "sum" = some none)
  (Fp:W.nsIn K mainGlobals "zip" = some none)
  (Fh:W.nsIn K mainGlobals "len" = some none)
  (Fi:W.nsIn K mainGlobals "list" = some none)
  (Fm:W.nsIn K mainGlobals "sorted" = some none)
  (Fj:W.nsIn K mainGlobals "range" = some none)
  (Fd:W.nsIn K mainGlobals "dict" = some none)
  (Fb:W.nsIn K mainGlobals "all" = some none)
  (Fe:W.nsIn K mainGlobals "enumerate" = some none)
  (Fk:W.nsIn K mainGlobals "repr" = some none)
  (hg_Machine:W.specialIn K (.ref C_Machine) "__getattribute__" = some (some (.builtin "type.__getattribute__")))(rd_Machine:W.readsIn K C_Machine (.type "type")=true)
  (pg_RowMachine:W.plainGet K C_RowMachine Str.empty=true)(hd_RowMachine:W.hasDictIn K C_RowMachine=true)(po_RowMachine:W.plainOver K C_RowMachine=true)(sa_RowMachine:W.findIn K (.ref C_RowMachine) "__setattr__" = some (some (.builtin "object.__setattr__")))
  (mk_RowMachine:W.makesIn K C_RowMachine=true)(kc_RowMachine:W.keepIn K (.ref C_RowMachine)=true)
  (pg_State:W.plainGet K C_State Str.empty=true)(hd_State:W.hasDictIn K C_State=true)(po_State:W.plainOver K C_State=true)(sa_State:W.findIn K (.ref C_State) "__setattr__" = some (some (.builtin "object.__setattr__")))
  (mk_State:W.makesIn K C_State=true)(kc_State:W.keepIn K (.ref C_State)=true)
  (nf_RowMachine_done:W.findIn K (.ref C_RowMachine) "done" = some none)
  (nf_RowMachine_due:W.findIn K (.ref C_RowMachine) "due" = some none)
  (nf_RowMachine_end:W.findIn K (.ref C_RowMachine) "end" = some none)
  (nf_RowMachine_first_held:W.findIn K (.ref C_RowMachine) "first_held" = some none)
  (nf_RowMachine_first_words:W.findIn K (.ref C_RowMachine) "first_words" = some none)
  (nf_State_held:W.findIn K (.ref C_State) "held" = some none)
  (nf_RowMachine_state:W.findIn K (.ref C_RowMachine) "state" = some none)
  (nf_RowMachine_table:W.findIn K (.ref C_RowMachine) "table" = some none)
  (nf_State_truths:W.findIn K (.ref C_State) "truths" = some none)
  (nf_State_words:W.findIn K (.ref C_State) "words" = some none)
  {jM:Addr}{RC:Nat}{h7 hX h_ i0 i3 i4 i5 i6 i7 i8 h8 h9 hG hJ hR hU hV:Tok}(FJ:W.nsIn K mainGlobals "DEEDS" = some (some (.ref jM)))
  (FY:K.lookup jM=some { cls:=.type "dict",data:=.dict #[⟨PyData.keyHash w.params "set",.str "set" h7,.ref f25⟩,⟨PyData.keyHash w.params "high",.str "high" hX,.ref f26⟩,⟨PyData.keyHash w.params "copy",.str "copy" h_,.ref f27⟩,⟨PyData.keyHash w.params "add",.str "add" i0,.ref f30⟩,⟨PyData.keyHash w.params "addc",.str "addc" i3,.ref f30⟩,⟨PyData.keyHash w.params "sub",.str "sub" i4,.ref f30⟩,⟨PyData.keyHash w.params "subc",.str "subc" i5,.ref f30⟩,⟨PyData.keyHash w.params "test",.str "test" i6,.ref f30⟩,⟨PyData.keyHash w.params "and",.str "and" i7,.ref f32⟩,⟨PyData.keyHash w.params "or",.str "or" i8,.ref f32⟩,⟨PyData.keyHash w.params "xor",.str "xor" h8,.ref f32⟩,⟨PyData.keyHash w.params "left",.str "left" h9,.ref f33⟩,⟨PyData.keyHash w.params "right",.str "right" hG,.ref f33⟩,⟨PyData.keyHash w.params "load",.str "load" hJ,.ref f35⟩,⟨PyData.keyHash w.params "loadw",.str "loadw" hR,.ref f36⟩,⟨PyData.keyHash w.params "store",.str "store" hU,.ref f37⟩,⟨PyData.keyHash w.params "storew",.str "storew" hV,.ref f38⟩] RC })(FZ:(jM==sysModules)=false)
  {fZ:Tok}(FD:W.nsIn K mainGlobals "BEYOND" = some (some (.int 4294967296 fZ)))
  {fq:Tok}(FQ:W.nsIn K mainGlobals "WORD_BITS" = some (some (.int 32 fq)))
  {tt:Addr}{RB:Nat}{di:Array (Option Value)}{iN iQ iT iW:Tok}(FI:W.nsIn K mainGlobals "BYTE_LOWS" = some (some (.ref tt)))
  (I_:K.lookup tt=some ⟨.type "tuple",none,.seq #[.int 0 iN,.int 8 iQ,.int 16 iT,.int 24 iW] RB,di⟩)
  {pB:Addr}{RD:Nat}{dk:Array (Option Value)}{iO iR iU:Tok}(FK:W.nsIn K mainGlobals "JUMPS" = some (some (.ref pB)))
  (O0:K.lookup pB=some ⟨.type "tuple",none,.seq #[.str "jump" iO,.str "when" iR,.str "unless" iU] RD,dk⟩)
  {fY:Tok}(FC:W.nsIn K mainGlobals "ADDRESS_BITS" = some (some (.int 16 fY)))
  {ff:Tok}(FH:W.nsIn K mainGlobals "BYTE_BITS" = some (some (.int 8 ff)))
  {tu:Addr}{RE:Nat}{dl:Array (Option Value)}{iP iS iV:Tok}(FN:W.nsIn K mainGlobals "MARKS" = some (some (.ref tu)))
  (O1:K.lookup tu=some ⟨.type "tuple",none,.seq #[.str "carry" iP,.str "nought" iS,.str "sign" iV] RE,dl⟩)
  {fj:Tok}(FP:W.nsIn K mainGlobals "REGISTER_COUNT" = some (some (.int 8 fj)))
  : ∃fd:FuncData,(∀(s:Shared)(v:Value),BindsTo s fd ⟨[v],[]⟩ [("_law_script",v)])/\∀base:Heap,K.In base->base.Ns mainGlobals mg->yz l.prog w K mg base xB 9 fa fd ["_law_script"] (Wj K):=by
 have e:=hfa.symm.trans (W.mg_of X G a67);cases e;have t4:mg "isinstance" = none:=W.mg_none_of X G Fg;have YU:mg "int" = none:=W.mg_none_of X G Ff;have LO:mg "bool" = none:=W.mg_none_of X G Fc;have tf:mg "tuple" = none:=W.mg_none_of X G Fo;have LQ:mg "sum" = none:=W.mg_none_of X G Fn;have j6:mg "zip" = none:=W.mg_none_of X G Fp;have wn:mg "len" = none:=W.mg_none_of X G Fh;have wW:mg "list" = none:=W.mg_none_of X G Fi;have YV:mg "sorted" = none:=W.mg_none_of X G Fm;have v8:mg "range" = none:=W.mg_none_of X G Fj;have Tl:mg "dict" = none:=W.mg_none_of X G Fd;have LN:mg "all" = none:=W.mg_none_of X G Fb;have LP:mg "enumerate" = none:=W.mg_none_of X G Fe;have p8:mg "repr" = none:=W.mg_none_of X G Fk;have cl_RowMachine:v_ K C_RowMachine:=⟨pg_RowMachine,hd_RowMachine,po_RowMachine,sa_RowMachine⟩;have cl_State:v_ K C_State:=⟨pg_State,hd_State,po_State,sa_State⟩;have a_done:zw K ["RowMachine"] "done" := (ql wy cl_RowMachine nf_RowMachine_done qm);have a_due:zw K ["RowMachine"] "due" := (ql wy cl_RowMachine nf_RowMachine_due qm);have a_end:zw K ["RowMachine"] "end" := (ql wy cl_RowMachine nf_RowMachine_end qm);have a_first_held:zw K ["RowMachine"] "first_held" := (ql wy cl_RowMachine nf_RowMachine_first_held qm);have a_first_words:zw K ["RowMachine"] "first_words" := (ql wy cl_RowMachine nf_RowMachine_first_words qm);have a_held:zw K ["State"] "held" := (ql Y2 cl_State nf_State_held qm);have a_state:zw K ["RowMachine"] "state" := (ql wy cl_RowMachine nf_RowMachine_state qm);have a_table:zw K ["RowMachine"] "table" := (ql wy cl_RowMachine nf_RowMachine_table qm);have a_truths:zw K ["State"] "truths" := (ql Y2 cl_State nf_State_truths qm);have a_words:zw K ["State"] "words" := (ql Y2 cl_State nf_State_words qm);have US:xZ mg "DEEDS" (.ref jM):=⟨_,W.mg_of X G FJ,rfl⟩;have d_DEEDS:ge K w mg jM je Bc:=Ko (fs:=[f25,f26,f27,f30,f30,f30,f30,f30,f32,f32,f32,f33,f33,f35,f36,f37,f38]) FY (.cons (.cons (.cons (.cons (.cons (.cons (.cons (.cons (.cons (.cons (.cons (.cons (.cons (.cons (.cons (.cons (.cons .nil))))))))))))))))) (by decide +kernel) FZ (.cons (W.mg_of X G a25) (.cons (W.mg_of X G a26) (.cons (W.mg_of X G a27) (.cons (W.mg_of X G a30) (.cons (W.mg_of X G a30) (.cons (W.mg_of X G a30) (.cons (W.mg_of X G a30) (.cons (W.mg_of X G a30) (.cons (W.mg_of X G a32) (.cons (W.mg_of X G a32) (.cons (W.mg_of X G a32) (.cons (W.mg_of X G a33) (.cons (W.mg_of X G a33) (.cons (W.mg_of X G a35) (.cons (W.mg_of X G a36) (.cons (W.mg_of X G a37) (.cons (W.mg_of X G a38) .nil)))))))))))))))));have gz:xZ mg "BEYOND" (.int 4294967296):=⟨_,W.mg_of X G FD,⟨_,rfl⟩⟩;have kQ:∀H,zU K H (.int 4294967296) (.int 4294967296):=λ_=>rfl
 have qp:xZ mg "WORD_BITS" (.int 32):=⟨_,W.mg_of X G FQ,⟨_,rfl⟩⟩;have p6:∀H,zU K H (.int 32) (.int 32):=λ_=>rfl
 have lK:Qm K tt:=⟨_,I_,rfl,rfl⟩;have Zk:xZ mg "BYTE_LOWS" (.ref tt):=⟨_,W.mg_of X G FI,rfl⟩;have YD:∀H,zU K H XJ (.ref tt):=λH=>⟨tt,_,rfl,JA (xs:=[.int 0,.int 8,.int 16,.int 24]) I_ (by show(4:Nat)<=sizeLine; decide) (.cons ⟨_,rfl⟩ (.cons ⟨_,rfl⟩ (.cons ⟨_,rfl⟩ (.cons ⟨_,rfl⟩ .nil)))) H,⟨_,_,rfl,rfl,⟨_,_,rfl,rfl,⟨_,_,rfl,rfl,⟨_,_,rfl,rfl,rfl⟩⟩⟩⟩,vR (by decide)⟩
 have lL:Qm K pB:=⟨_,O0,rfl,rfl⟩;have Jc:xZ mg "JUMPS" (.ref pB):=⟨_,W.mg_of X G FK,rfl⟩;have OL:∀H,zU K H UZ (.ref pB):=λH=>⟨pB,_,rfl,JA (xs:=[.str "jump",.str "when",.str "unless"]) O0 (by show(3:Nat)<=sizeLine; decide) (.cons ⟨_,rfl⟩ (.cons ⟨_,rfl⟩ (.cons ⟨_,rfl⟩ .nil))) H,⟨_,_,rfl,⟨rfl,vR (by decide)⟩,⟨_,_,rfl,⟨rfl,vR (by decide)⟩,⟨_,_,rfl,⟨rfl,vR (by decide)⟩,rfl⟩⟩⟩,vR (by decide)⟩
 have Zi:xZ mg "ADDRESS_BITS" (.int 16):=⟨_,W.mg_of X G FC,⟨_,rfl⟩⟩;have YB:∀H,zU K H (.int 16) (.int 16):=λ_=>rfl
 have Zj:xZ mg "BYTE_BITS" (.int 8):=⟨_,W.mg_of X G FH,⟨_,rfl⟩⟩;have YC:∀H,zU K H (.int 8) (.int 8):=λ_=>rfl
 have lM:Qm K tu:=⟨_,O1,rfl,rfl⟩;have Zl:xZ mg "MARKS" (.ref tu):=⟨_,W.mg_of X G FN,rfl⟩;have YE:∀H,zU K H g_ (.ref tu):=λH=>⟨tu,_,rfl,JA (xs:=[.str "carry",.str "nought",.str "sign"]) O1 (by show(3:Nat)<=sizeLine; decide) (.cons ⟨_,rfl⟩ (.cons ⟨_,rfl⟩ (.cons ⟨_,rfl⟩ .nil))) H,⟨_,_,rfl,⟨rfl,vR (by decide)⟩,⟨_,_,rfl,⟨rfl,vR (by decide)⟩,⟨_,_,rfl,⟨rfl,vR (by decide)⟩,rfl⟩⟩⟩,vR (by decide)⟩
 have UT:xZ mg "REGISTER_COUNT" (.int 8):=⟨_,W.mg_of X G FP,⟨_,rfl⟩⟩;have T6:∀H,zU K H (.int 8) (.int 8):=λ_=>rfl
 have F0:=yA (st:=W2) l0 c0 k0;have D0:zH K mg "is_number" W2 ["thing", "width"]:=⟨_,_,F0,W.mg_of X G a0,F0.binds λ_ _ _ _ _ _=>xg λ_ _=>rfl⟩;have F1:=yA (st:=Xh) l1 c1 k1;have D1:zH K mg "added" Xh ["one", "other", "carry"]:=⟨_,_,F1,W.mg_of X G a1,F1.binds λ_ _ _ _ _ _=>qR λ_ _ _=>rfl⟩;have F2:=yA (st:=WV) l2 c2 k2;have D2:zH K mg "taken" WV ["one", "other", "borrow"]:=⟨_,_,F2,W.mg_of X G a2,F2.binds λ_ _ _ _ _ _=>qR λ_ _ _=>rfl⟩;have F3:=yA (st:=WP) l3 c3 k3;have D3:zH K mg "part" WP ["word", "low", "width"]:=⟨_,_,F3,W.mg_of X G a3,F3.binds λ_ _ _ _ _ _=>qR λ_ _ _=>rfl⟩;have F4:=yA (st:=WM) l4 c4 k4;have D4:zH K mg "moved_left" WM ["word", "count"]:=⟨_,_,F4,W.mg_of X G a4,F4.binds λ_ _ _ _ _ _=>xg λ_ _=>rfl⟩;have F5:=yA (st:=WN) l5 c5 k5;have D5:zH K mg "moved_right" WN ["word", "count"]:=⟨_,_,F5,W.mg_of X G a5,F5.binds λ_ _ _ _ _ _=>xg λ_ _=>rfl⟩;have F6:=yA (st:=WX) l6 c6 k6;have D6:zH K mg "with_part" WX ["word", "low", "width", "number"]:=⟨_,_,F6,W.mg_of X G a6,F6.binds λ_ _ _ _ _ _=>YR λ_ _ _ _=>rfl⟩;have F7:=yA (st:=Xm) l7 c7 k7;have D7:zH K mg "bytes_of" Xm ["word"]:=⟨_,_,F7,W.mg_of X G a7,F7.binds λ_ _ _ _ _ _=>wB λ_=>rfl⟩;have F8:=yA (st:=WZ) l8 c8 k8;have D8:zH K mg "word_of" WZ ["four"]:=⟨_,_,F8,W.mg_of X G a8,F8.binds λ_ _ _ _ _ _=>wB λ_=>rfl⟩;have F9:=yA (st:=W1) l9 c9 k9;have D9:zH K mg "is_label" W1 ["item"]:=⟨_,_,F9,W.mg_of X G a9,F9.binds λ_ _ _ _ _ _=>wB λ_=>rfl⟩;have F10:=yA (st:=X_) l10 c10 k10;have D10:zH K mg "is_jump" X_ ["item"]:=⟨_,_,F10,W.mg_of X G a10,F10.binds λ_ _ _ _ _ _=>wB λ_=>rfl⟩;have F11:=yA (st:=WS) l11 c11 k11;have D11:zH K mg "rows_of" WS ["items"]:=⟨_,_,F11,W.mg_of X G a11,F11.binds λ_ _ _ _ _ _=>wB λ_=>rfl⟩;have F12:=yA (st:=W5) l12 c12 k12;have D12:zH K mg "label_places" W5 ["items"]:=⟨_,_,F12,W.mg_of X G a12,F12.binds λ_ _ _ _ _ _=>wB λ_=>rfl⟩;have F13:=yA (st:=WW) l13 c13 k13;have D13:zH K mg "targets_of" WW ["items"]:=⟨_,_,F13,W.mg_of X G a13,F13.binds λ_ _ _ _ _ _=>wB λ_=>rfl⟩;have F14:=yA (st:=Xz) l14 c14 k14;have D14:zH K mg "is_address" Xz ["thing"]:=⟨_,_,F14,W.mg_of X G a14,F14.binds λ_ _ _ _ _ _=>wB λ_=>rfl⟩;have F15:=yA (st:=W3) l15 c15 k15;have D15:zH K mg "is_pair" W3 ["thing"]:=⟨_,_,F15,W.mg_of X G a15,F15.binds λ_ _ _ _ _ _=>wB λ_=>rfl⟩;have F16:=yA (st:=Xl) l16 c16 k16;have D16:zH K mg "bytes_from" Xl ["memory"]:=⟨_,_,F16,W.mg_of X G a16,F16.binds λ_ _ _ _ _ _=>wB λ_=>rfl⟩;have F17:=yA (st:=WO) l17 c17 k17;have D17:zH K mg "pairs_of" WO ["held"]:=⟨_,_,F17,W.mg_of X G a17,F17.binds λ_ _ _ _ _ _=>wB λ_=>rfl⟩;have F18:=yA (st:=Xk) l18 c18 k18;have D18:zH K mg "byte_at" Xk ["held", "address"]:=⟨_,_,F18,W.mg_of X G a18,F18.binds λ_ _ _ _ _ _=>xg λ_ _=>rfl⟩;have F19:=yA (st:=Xj) l19 c19 k19;have D19:zH K mg "address_of" Xj ["word", "number"]:=⟨_,_,F19,W.mg_of X G a19,F19.binds λ_ _ _ _ _ _=>xg λ_ _=>rfl⟩;have F20:=yA (st:=Xy) l20 c20 k20;have D20:zH K mg "four_from" Xy ["address"]:=⟨_,_,F20,W.mg_of X G a20,F20.binds λ_ _ _ _ _ _=>wB λ_=>rfl⟩;have F21:=yA (st:=WY) l21 c21 k21;have D21:zH K mg "word_at" WY ["held", "address"]:=⟨_,_,F21,W.mg_of X G a21,F21.binds λ_ _ _ _ _ _=>xg λ_ _=>rfl⟩;have F22:=yA (st:=WQ) l22 c22 k22;have D22:zH K mg "put_byte" WQ ["held", "address", "word"]:=⟨_,_,F22,W.mg_of X G a22,F22.binds λ_ _ _ _ _ _=>qR λ_ _ _=>rfl⟩;have F23:=yA (st:=WR) l23 c23 k23;have D23:zH K mg "put_word" WR ["held", "address", "word"]:=⟨_,_,F23,W.mg_of X G a23,F23.binds λ_ _ _ _ _ _=>qR λ_ _ _=>rfl⟩;have F24:=qE (st:=j0) l24 c24 k24;have b24:xn K (W.fnOf "__init__" "State.__init__" (xH j0) (yc j0) (zT j0) .none kV24 dc24 pm24 an24 cd24 ct24) ["self", "words", "held"] []:=.all (qR λ_ _ _=>rfl);have F25:=yA (st:=Xu) l25 c25 k25;have D25:zH K mg "do_set" Xu ["state", "row"]:=⟨_,_,F25,W.mg_of X G a25,F25.binds λ_ _ _ _ _ _=>xg λ_ _=>rfl⟩;have F26:=yA (st:=Xp) l26 c26 k26;have D26:zH K mg "do_high" Xp ["state", "row"]:=⟨_,_,F26,W.mg_of X G a26,F26.binds λ_ _ _ _ _ _=>xg λ_ _=>rfl⟩;have F27:=yA (st:=Xo) l27 c27 k27;have D27:zH K mg "do_copy" Xo ["state", "row"]:=⟨_,_,F27,W.mg_of X G a27,F27.binds λ_ _ _ _ _ _=>xg λ_ _=>rfl⟩;have F28:=yA (st:=WT) l28 c28 k28;have D28:zH K mg "summed" WT ["kind", "one", "other", "carry"]:=⟨_,_,F28,W.mg_of X G a28,F28.binds λ_ _ _ _ _ _=>YR λ_ _ _ _=>rfl⟩;have F29:=yA (st:=WL) l29 c29 k29;have D29:zH K mg "look_at" WL ["state", "word"]:=⟨_,_,F29,W.mg_of X G a29,F29.binds λ_ _ _ _ _ _=>xg λ_ _=>rfl⟩;have F30:=yA (st:=Xx) l30 c30 k30;have D30:zH K mg "do_sum" Xx ["state", "row"]:=⟨_,_,F30,W.mg_of X G a30,F30.binds λ_ _ _ _ _ _=>xg λ_ _=>rfl⟩;have F31:=yA (st:=W4) l31 c31 k31;have D31:zH K mg "joined" W4 ["kind", "one", "other"]:=⟨_,_,F31,W.mg_of X G a31,F31.binds λ_ _ _ _ _ _=>qR λ_ _ _=>rfl⟩;have F32:=yA (st:=Xn) l32 c32 k32;have D32:zH K mg "do_bits" Xn ["state", "row"]:=⟨_,_,F32,W.mg_of X G a32,F32.binds λ_ _ _ _ _ _=>xg λ_ _=>rfl⟩;have F33:=yA (st:=Xs) l33 c33 k33;have D33:zH K mg "do_move" Xs ["state", "row"]:=⟨_,_,F33,W.mg_of X G a33,F33.binds λ_ _ _ _ _ _=>xg λ_ _=>rfl⟩;have F34:=yA (st:=Xi) l34 c34 k34;have D34:zH K mg "address_in" Xi ["state", "row"]:=⟨_,_,F34,W.mg_of X G a34,F34.binds λ_ _ _ _ _ _=>xg λ_ _=>rfl⟩;have F35:=yA (st:=Xq) l35 c35 k35;have D35:zH K mg "do_load" Xq ["state", "row"]:=⟨_,_,F35,W.mg_of X G a35,F35.binds λ_ _ _ _ _ _=>xg λ_ _=>rfl⟩;have F36:=yA (st:=Xr) l36 c36 k36;have D36:zH K mg "do_loadw" Xr ["state", "row"]:=⟨_,_,F36,W.mg_of X G a36,F36.binds λ_ _ _ _ _ _=>xg λ_ _=>rfl⟩;have F37:=yA (st:=Xv) l37 c37 k37;have D37:zH K mg "do_store" Xv ["state", "row"]:=⟨_,_,F37,W.mg_of X G a37,F37.binds λ_ _ _ _ _ _=>xg λ_ _=>rfl⟩;have F38:=yA (st:=Xw) l38 c38 k38;have D38:zH K mg "do_storew" Xw ["state", "row"]:=⟨_,_,F38,W.mg_of X G a38,F38.binds λ_ _ _ _ _ _=>xg λ_ _=>rfl⟩;have F39:=yA (st:=Xt) l39 c39 k39;have D39:zH K mg "do_row" Xt ["state", "row"]:=⟨_,_,F39,W.mg_of X G a39,F39.binds λ_ _ _ _ _ _=>xg λ_ _=>rfl⟩;have F40:=yA (st:=WK) l40 c40 k40;have D40:zH K mg "leads" WK ["state", "row"]:=⟨_,_,F40,W.mg_of X G a40,F40.binds λ_ _ _ _ _ _=>xg λ_ _=>rfl⟩;have F41:=yA (st:=Wa) l41 c41 k41;have D41:zH K mg "words_from" Wa ["registers"]:=⟨_,_,F41,W.mg_of X G a41,F41.binds λ_ _ _ _ _ _=>wB λ_=>rfl⟩;have F42:=qE (st:=py) l42 c42 k42;have b42:xn K (W.fnOf "stands" "Machine.stands" (xH py) (yc py) (zT py) .none kV42 dc42 pm42 an42 cd42 ct42) ["self"] []:=.all (wB λ_=>rfl);have F43:=qE (st:=pd) l43 c43 k43;have b43:xn K (W.fnOf "again" "Machine.again" (xH pd) (yc pd) (zT pd) .none kV43 dc43 pm43 an43 cd43 ct43) ["self"] []:=.all (wB λ_=>rfl);have F44:=qE (st:=pz) l44 c44 k44;have b44:xn K (W.fnOf "step" "Machine.step" (xH pz) (yc pz) (zT pz) .none kV44 dc44 pm44 an44 cd44 ct44) ["self"] []:=.all (wB λ_=>rfl);have F45:=qE (st:=pq) l45 c45 k45;have b45:xn K (W.fnOf "registers" "Machine.registers" (xH pq) (yc pq) (zT pq) .none kV45 dc45 pm45 an45 cd45 ct45) ["self"] []:=.all (wB λ_=>rfl);have F46:=qE (st:=pf) l46 c46 k46;have b46:xn K (W.fnOf "marks" "Machine.marks" (xH pf) (yc pf) (zT pf) .none kV46 dc46 pm46 an46 cd46 ct46) ["self"] []:=.all (wB λ_=>rfl);have F47:=qE (st:=pj) l47 c47 k47;have b47:xn K (W.fnOf "memory" "Machine.memory" (xH pj) (yc pj) (zT pj) .none kV47 dc47 pm47 an47 cd47 ct47) ["self"] []:=.all (wB λ_=>rfl);have F48:=qE (st:=pp) l48 c48 k48;have b48:xn K (W.fnOf "place" "Machine.place" (xH pp) (yc pp) (zT pp) .none kV48 dc48 pm48 an48 cd48 ct48) ["self"] []:=.all (wB λ_=>rfl);have F49:=qE (st:=p_) l49 c49 k49;have b49:xn K (W.fnOf "steps" "Machine.steps" (xH p_) (yc p_) (zT p_) .none kV49 dc49 pm49 an49 cd49 ct49) ["self"] []:=.all (wB λ_=>rfl);have F50:=qE (st:=pZ) l50 c50 k50;have b50:xn K (W.fnOf "__init__" "Machine.__init__" (xH pZ) (yc pZ) (zT pZ) .none kV50 dc50 pm50 an50 cd50 ct50) ["self", "table", "end", "registers", "memory"] []:=.all (ik λ_ _ _ _ _=>rfl);have F51:=yA (st:=WU) l51 c51 k51;have D51:zH K mg "table_of_rows" WU ["items"]:=⟨_,_,F51,W.mg_of X G a51,F51.binds λ_ _ _ _ _ _=>wB λ_=>rfl⟩;have F52:=qE (st:=vO) l52 c52 k52
 have b52:xn K (W.fnOf "__init__" "RowMachine.__init__" (xH vO) (yc vO) (zT vO) (.ref T52) kV52 dc52 pm52 an52 cd52 ct52) ["self", "items", "registers", "memory"] []:=λs us KI hl=>by
  rw[vg]at hl ⊢;exact YR (P:=λus=>BindsTo s (W.fnOf "__init__" "RowMachine.__init__" (xH vO) (yc vO) (zT vO) (.ref T52) kV52 dc52 pm52 an52 cd52 ct52) ⟨us,[]⟩ ((["self", "items", "registers", "memory"]:List Str).zip us)) (λ_ _ _ _=>W.binds_K KI rfl t52 rfl rfl rfl) us hl
 have F53:=yA (st:=W7) l53 c53 k53;have D53:zH K mg "_law_cell_at" W7 ["_law_script", "_law_k"]:=⟨_,_,F53,W.mg_of X G a53,F53.binds λ_ _ _ _ _ _=>xg λ_ _=>rfl⟩;have F54:=yA (st:=WD) l54 c54 k54;have D54:zH K mg "_law_mixed" WD ["_law_cell", "_law_k"]:=⟨_,_,F54,W.mg_of X G a54,F54.binds λ_ _ _ _ _ _=>xg λ_ _=>rfl⟩;have F55:=yA (st:=WI) l55 c55 k55;have D55:zH K mg "_law_word" WI ["_law_cell", "_law_k"]:=⟨_,_,F55,W.mg_of X G a55,F55.binds λ_ _ _ _ _ _=>xg λ_ _=>rfl⟩;have F56:=yA (st:=WJ) l56 c56 k56;have D56:zH K mg "_law_words" WJ ["_law_cell"]:=⟨_,_,F56,W.mg_of X G a56,F56.binds λ_ _ _ _ _ _=>wB λ_=>rfl⟩;have F57:=yA (st:=WH) l57 c57 k57;have D57:zH K mg "_law_sum" WH ["_law_kind", "_law_one", "_law_other", "_law_carry"]:=⟨_,_,F57,W.mg_of X G a57,F57.binds λ_ _ _ _ _ _=>YR λ_ _ _ _=>rfl⟩;have F58:=yA (st:=W8) l58 c58 k58;have D58:zH K mg "_law_deed" W8 ["_law_row_here", "_law_s"]:=⟨_,_,F58,W.mg_of X G a58,F58.binds λ_ _ _ _ _ _=>xg λ_ _=>rfl⟩;have F59:=yA (st:=W6) l59 c59 k59;have D59:zH K mg "_law_begin" W6 ["_law_words_here", "_law_pairs"]:=⟨_,_,F59,W.mg_of X G a59,F59.binds λ_ _ _ _ _ _=>xg λ_ _=>rfl⟩;have F60:=yA (st:=WC) l60 c60 k60;have D60:zH K mg "_law_look" WC ["_law_machine", "_law_cell"]:=⟨_,_,F60,W.mg_of X G a60,F60.binds λ_ _ _ _ _ _=>xg λ_ _=>rfl⟩;have F61:=yA (st:=W9) l61 c61 k61;have D61:zH K mg "_law_due" W9 ["_law_s", "_law_stands"]:=⟨_,_,F61,W.mg_of X G a61,F61.binds λ_ _ _ _ _ _=>xg λ_ _=>rfl⟩;have F62:=yA (st:=WE) l62 c62 k62;have D62:zH K mg "_law_names" WE ["_law_cell"]:=⟨_,_,F62,W.mg_of X G a62,F62.binds λ_ _ _ _ _ _=>wB λ_=>rfl⟩;have F63:=yA (st:=WB) l63 c63 k63;have D63:zH K mg "_law_items" WB ["_law_rows", "_law_places", "_law_names_here"]:=⟨_,_,F63,W.mg_of X G a63,F63.binds λ_ _ _ _ _ _=>qR λ_ _ _=>rfl⟩;have F64:=yA (st:=WF) l64 c64 k64;have D64:zH K mg "_law_row" WF ["_law_cell", "_law_k", "_law_names_here"]:=⟨_,_,F64,W.mg_of X G a64,F64.binds λ_ _ _ _ _ _=>qR λ_ _ _=>rfl⟩;have F65:=yA (st:=WA) l65 c65 k65;have D65:zH K mg "_law_flow" WA ["_law_rows", "_law_places", "_law_names_here", "_law_s"]:=⟨_,_,F65,W.mg_of X G a65,F65.binds λ_ _ _ _ _ _=>YR λ_ _ _ _=>rfl⟩;have F66:=yA (st:=WG) l66 c66 k66;have D66:zH K mg "_law_stood" WG ["_law_rows", "_law_s"]:=⟨_,_,F66,W.mg_of X G a66,F66.binds λ_ _ _ _ _ _=>xg λ_ _=>rfl⟩;have F67:=yA (st:=kT) l67 c67 k67;refine⟨W.fnOf "law" "law" (xH kT) (yc kT) (zT kT) .none kV67 dc67 pm67 an67 cd67 ct67,λs v=>.of_eq rfl,λbase _ _=>?_⟩;have pO:=S3 (P:=l.prog) (w:=w) (base:=base) D0 t4 YU LO;have Ua:=Re (P:=l.prog) (w:=w) (base:=base) D1 gz kQ;have IK:=So (P:=l.prog) (w:=w) (base:=base) D2 gz kQ;have vD:=Sg (P:=l.prog) (w:=w) (base:=base) D3 ;have IE:=Sa (P:=l.prog) (w:=w) (base:=base) D4 qp p6 vD;have IF:=Sb (P:=l.prog) (w:=w) (base:=base) D5 vD;have IM:=Sr (P:=l.prog) (w:=w) (base:=base) D6 ;have Jh:=Rk (P:=l.prog) (w:=w) (base:=base) D7 tf Zk YD vD;have IP:=Su (P:=l.prog) (w:=w) (base:=base) D8 LQ j6 Zk YD;have Zq:=S0 (P:=l.prog) (w:=w) (base:=base) D9 ;have Jr:=R_ (P:=l.prog) (w:=w) (base:=base) D10 Jc OL;have Zs:=Sj (P:=l.prog) (w:=w) (base:=base) D11 Zq;have Ju:=S6 (P:=l.prog) (w:=w) (base:=base) D12 Zq;have IL:=Sq (P:=l.prog) (w:=w) (base:=base) D13 Ju Zs Jr;have Jq:=Rz (P:=l.prog) (w:=w) (base:=base) D14 Zi YB pO;have Js:=S4 (P:=l.prog) (w:=w) (base:=base) D15 wn t4 tf Zj YC pO Jq;have Jg:=Rj (P:=l.prog) (w:=w) (base:=base) D16 t4 wW Js;have IG:=Sf (P:=l.prog) (w:=w) (base:=base) D17 YV;have Zo:=Ri (P:=l.prog) (w:=w) (base:=base) D18 ;have Zn:=Rg (P:=l.prog) (w:=w) (base:=base) D19 Zi YB vD;have Zp:=Rw (P:=l.prog) (w:=w) (base:=base) D20 v8 Zn;have IN:=Ss (P:=l.prog) (w:=w) (base:=base) D21 IP Zp Zo;have Zr:=Sh (P:=l.prog) (w:=w) (base:=base) D22 Zj YC vD;have IH:=Si (P:=l.prog) (w:=w) (base:=base) D23 j6 Zr Zp Jh;have o24:=Rc (P:=l.prog) (w:=w) (mg:=mg) (base:=base) F24 wW Tl Zl YE a_words a_truths a_held;have IU:VU l.prog w K mg base "State" ["self", "words", "held"] 1 (zt K Z8):=⟨C_State,f24,_,Y2,W.mg_of X G Y2,⟨mk_State,a24,i24,kc_State⟩,b24,o24⟩;have Jn:=Rs (P:=l.prog) (w:=w) (base:=base) D25 a_words;have Jj:=Rn (P:=l.prog) (w:=w) (base:=base) D26 a_words IM;have Ji:=Rm (P:=l.prog) (w:=w) (base:=base) D27 a_words;have II:=Sm (P:=l.prog) (w:=w) (base:=base) D28 Ua IK;have pP:=SZ (P:=l.prog) (w:=w) (base:=base) D29 qp p6 a_truths vD;have kA:=Rv (P:=l.prog) (w:=w) (base:=base) D30 a_truths a_words pP II;have Jt:=S5 (P:=l.prog) (w:=w) (base:=base) D31 ;have XL:=Rl (P:=l.prog) (w:=w) (base:=base) D32 a_words pP Jt;have Ub:=Rq (P:=l.prog) (w:=w) (base:=base) D33 a_words a_truths pP IE IF;have tQ:=Rf (P:=l.prog) (w:=w) (base:=base) D34 a_words Zn;have Jk:=Ro (P:=l.prog) (w:=w) (base:=base) D35 a_words a_held Zo tQ;have Jl:=Rp (P:=l.prog) (w:=w) (base:=base) D36 a_words a_held IN tQ;have Jo:=Rt (P:=l.prog) (w:=w) (base:=base) D37 a_words a_held Zr tQ;have Jp:=Ru (P:=l.prog) (w:=w) (base:=base) D38 a_words a_held IH tQ;have Jm:=Rr (P:=l.prog) (w:=w) (base:=base) D39 US d_DEEDS Jn Jj Ji kA XL Ub Jk Jl Jo Jp;have ID:=SX (P:=l.prog) (w:=w) (base:=base) D40 a_truths;have IQ:=Sv (P:=l.prog) (w:=w) (base:=base) D41 wn t4 wW LN UT T6 qp p6 pO;have o42:=RY (P:=l.prog) (w:=w) (mg:=mg) (base:=base) F42 a_due a_table a_end;have v_Machine_stands:vA l.prog w K mg base "RowMachine" "stands" ["self"] 1 (zY K u4):=⟨C_RowMachine,f42,_,wy,cl_RowMachine,⟨a42,i42,k42⟩,b42,o42⟩;have o43:=RT (P:=l.prog) (w:=w) (mg:=mg) (base:=base) F43 a_state a_first_held a_first_words a_due a_done IU;have v_Machine_again:vA l.prog w K mg base "RowMachine" "again" ["self"] 3 (zt K jO):=⟨C_RowMachine,f43,_,wy,cl_RowMachine,⟨a43,i43,k43⟩,b43,o43⟩;have o44:=RZ (P:=l.prog) (w:=w) (mg:=mg) (base:=base) F44 a_due a_table a_state a_done v_Machine_stands Jm ID;have v_Machine_step:vA l.prog w K mg base "RowMachine" "step" ["self"] 7 (zt K qW):=⟨C_RowMachine,f44,_,wy,cl_RowMachine,⟨a44,i44,k44⟩,b44,o44⟩;have o45:=RX (P:=l.prog) (w:=w) (mg:=mg) (base:=base) F45 wW a_state a_words;have v_Machine_registers:vA l.prog w K mg base "RowMachine" "registers" ["self"] 1 (zY K gQ):=⟨C_RowMachine,f45,_,wy,cl_RowMachine,⟨a45,i45,k45⟩,b45,o45⟩;have o46:=RU (P:=l.prog) (w:=w) (mg:=mg) (base:=base) F46 tf Zl YE a_state a_truths;have v_Machine_marks:vA l.prog w K mg base "RowMachine" "marks" ["self"] 1 (zY K gN):=⟨C_RowMachine,f46,_,wy,cl_RowMachine,⟨a46,i46,k46⟩,b46,o46⟩;have o47:=RV (P:=l.prog) (w:=w) (mg:=mg) (base:=base) F47 a_state a_held IG;have v_Machine_memory:vA l.prog w K mg base "RowMachine" "memory" ["self"] 2 (zY K gO):=⟨C_RowMachine,f47,_,wy,cl_RowMachine,⟨a47,i47,k47⟩,b47,o47⟩;have o48:=RW (P:=l.prog) (w:=w) (mg:=mg) (base:=base) F48 a_due;have v_Machine_place:vA l.prog w K mg base "RowMachine" "place" ["self"] 1 (zY K gP):=⟨C_RowMachine,f48,_,wy,cl_RowMachine,⟨a48,i48,k48⟩,b48,o48⟩;have o49:=Ra (P:=l.prog) (w:=w) (mg:=mg) (base:=base) F49 a_done;have v_Machine_steps:vA l.prog w K mg base "RowMachine" "steps" ["self"] 1 (zY K gR):=⟨C_RowMachine,f49,_,wy,cl_RowMachine,⟨a49,i49,k49⟩,b49,o49⟩;have o50:=RS (P:=l.prog) (w:=w) (mg:=mg) (base:=base) F50 a_table a_end a_first_words a_first_held v_Machine_again IQ Jg;have w_Machine___init__:VT l.prog w K mg base "Machine" "__init__" ["self", "table", "end", "registers", "memory"] 5 (zt K Z7):=⟨⟨C_Machine,f50,_,.type "type",W.mg_of X G FB,hg_Machine,rd_Machine,a50,k50,b50,o50⟩⟩;have IJ:=Sn (P:=l.prog) (w:=w) (base:=base) D51 LP Zs IL;have o52:=Rb (P:=l.prog) (w:=w) (mg:=mg) (base:=base) F52 wn w_Machine___init__ IJ
 have b52_1:xn K (W.fnOf "__init__" "RowMachine.__init__" (xH vO) (yc vO) (zT vO) (.ref T52) kV52 dc52 pm52 an52 cd52 ct52) ["self", "items", "registers", "memory"] [.none]:=λs us KI hl=>by
  have hl':us.length=3:=by rw[yL]at hl; exact Nat.add_right_cancel (show us.length+1=3+1 from hl)
  exact qR (P:=λus=>BindsTo s (W.fnOf "__init__" "RowMachine.__init__" (xH vO) (yc vO) (zT vO) (.ref T52) kV52 dc52 pm52 an52 cd52 ct52) ⟨us,[]⟩ ((["self", "items", "registers", "memory"]:List Str).zip (us++[.none]))) (λ_ _ _=>W.binds_K KI rfl t52 rfl rfl rfl) us hl'
 have kd1_RowMachine:QX l.prog w K mg base "RowMachine" ["self", "items", "registers", "memory"] 6 (zt K pE) [.zF]:=⟨C_RowMachine,f52,_,[.none],[.zF],wy,W.mg_of X G wy,⟨mk_RowMachine,a52,i52,kc_RowMachine⟩,b52_1,(.cons rfl .nil),λ_=>⟨_,_,rfl,rfl,rfl⟩,o52⟩;have lN:VU l.prog w K mg base "RowMachine" ["self", "items", "registers", "memory"] 6 (zt K pE):=⟨C_RowMachine,f52,_,wy,W.mg_of X G wy,⟨mk_RowMachine,a52,i52,kc_RowMachine⟩,b52,o52⟩;have jg:=S9 (P:=l.prog) (w:=w) (base:=base) D53 wn;have vd:=SL (P:=l.prog) (w:=w) (base:=base) D54 ;have IB:=SU (P:=l.prog) (w:=w) (base:=base) D55 vd;have IC:=SV (P:=l.prog) (w:=w) (base:=base) D56 v8 IB;have IA:=SR (P:=l.prog) (w:=w) (base:=base) D57 YU;have Jw:=SC (P:=l.prog) (w:=w) (base:=base) D58 IA;have Jv:=S8 (P:=l.prog) (w:=w) (base:=base) D59 wW;have Ud:=SK (P:=l.prog) (w:=w) (base:=base) D60 p8 v8 v_Machine_registers v_Machine_marks v_Machine_memory v_Machine_place v_Machine_steps v_Machine_stands;have Uc:=SD (P:=l.prog) (w:=w) (base:=base) D61 YV wW p8 tf;have Jz:=SM (P:=l.prog) (w:=w) (base:=base) D62 v8 vd;have Jy:=SJ (P:=l.prog) (w:=w) (base:=base) D63 v8 wn j6;have J_:=SN (P:=l.prog) (w:=w) (base:=base) D64 vd;have Jx:=SH (P:=l.prog) (w:=w) (base:=base) D65 wn Jw;have Ue:=SQ (P:=l.prog) (w:=w) (base:=base) D66 wn;exact S7 F67 v8 wW p8 kd1_RowMachine v_Machine_step Jv Jx IC jg Jz vd J_ Jy Ud Uc Ue
theorem walk{l:W.OpenLaw}{q:Program}{loose:List Str}{XP:(Str->Option Value)->Heap->Prop}{YP:World->Heap->Prop}{d:DefRec}{K:Params->W.Frag}(hn:l.most=some 63)(hdf:d.params.defaults=[])
  (hY:∀(w:World)(h:Heap),YP w h->(K w.params).In h)
  (F:∀(w:World)(mg:Str->Option Value)(fa:Addr)(h:Heap),(K w.params).In h->h.Ns mainGlobals mg->mg d.name=some (.ref fa)->
   ∃fd:FuncData,(∀(s:Shared)(u:Value),BindsTo s fd ⟨[u],[]⟩ [("_law_script",u)])/\∀base:Heap,(K w.params).In base->base.Ns mainGlobals mg->yz l.prog w (K w.params) mg base xB 9 fa fd ["_law_script"] (Wj (K w.params))) :
  W.WalkO q loose XP YP l.row.toRowW d [] (λf vs=>PySem.call f vs):=
 L3.walkB (n:=63) (k:=9) (x := "_law_script") (sp:=Wj) hn (by decide) hdf ⟨rfl,by decide,by decide,rfl⟩ hY F λ_ _ a ns hl hb hS=>⟨a,ns,rfl,hS,hl,hb,λ_=>rfl⟩
end My
namespace PySem.W.Fast
def tw6270090902852174134:=0
def tw9329361259852312847:=0
def tw7779299698060498511:=0
def tw12172271749505829643:=0
def tw11109172411409580111:=0
def tw16057095716786744778:=0
def tw5721327707219885265:=0
def tw9578198562217612206:=0
def tw17896142754438193578:=0
def tw6392520798305983759:=0
def tw8333863797052940660:=0
def tw17837780722556657406:=0
def tw4928475636290492977:=0
def tw8452827483975091273:=0
def tw9626423394527197951:=0
def tw15511806007895557359:=0
def tw13794598569317164151:=0
def tw2219850778793369423:=0
def tw10907300520198940633:=0
def tw15950603818884089627:=0
def tw18233440221416562792:=0
def tw3189107622595241073:=0
def tw3787342824230689007:=0
def tw7208625160924376445:=0
def tw10602613598809553282:=0
def tw2518173338892317379:=0
def tw8459250063840185136:=0
def tw3057963242048087428:=0
def tw320149441374307740:=0
def tw39475051948603761:=0
def tw14825914223704231386:=0
def tw715903941836555123:=0
def tw8832855866566449033:=0
def tw12877729306318768660:=0
def tw8080776755071880898:=0
def tw4645126410876828341:=0
def tw11123512495541036957:=0
def tw944781634775404644:=0
def tw7395501729403738765:=0
def tw6509579707565067683:=0
def tw9388730109969315370:=0
def tw18037176318487098706:=0
def tw17723371621168839132:=0
def tw9418076719878758166:=0
def tw3022407413756025261:=0
def tw10998505084949795056:=0
def tw7350216226056053027:=0
def tw1817368859632402990:=0
def tw15746631788339383950:=0
def tw10176521760186992460:=0
def tw18370262475846861614:=0
def tw8501025638092899595:=0
def tw10977884886772721678:=0
def tw674108882976781005:=0
def tw11484202972503397008:=0
def tw3734665971966935418:=0
def tw2154709421167577621:=0
def tw13959291882970335442:=0
def tw8754872018532620331:=0
def tw2033608425650392914:=0
def tw16923236506021093583:=0
def tw8200038269458842210:=0
def tw11761207917676831793:=0
def tw1388873476087597807:=0
def tw4982338241568674220:=0
def tw4193567177530224706:=0
def tw2112401326764238443:=0
def tw4213908116461298551:=0
def tw13611796797734584780:=0
def tw18339613531603311140:=0
def tw15580796205709092680:=0
def tw9299552927049989274:=0
def tw11765167250803016998:=0
def tw9039771926127915705:=0
def tw6820353541547125450:=0
def tw7368915196385959855:=0
def tw17141491411280929568:=0
def tw11916203726899107966:=0
def tw375238080001184324:=0
def tw13446327793524968186:=0
def tw3876008388869397405:=0
def tw12430940227244275669:=0
def tw10448396793539874755:=0
def tw8923953756828619757:=0
def tw3006593936343079929:=0
def tw15078004111437679082:=0
def tw4341616829866682051:=0
def tw5642550177796632204:=0
def tw16113908208321044090:=0
def tw2182063165312969459:=0
def tw17149837805048082067:=0
def tw14532551195487293043:=0
def tw3184934937436327127:=0
def tw2242596428520921339:=0
def tw16836852480410018395:=0
def tw3436473368731356534:=0
def tw5522965125183039164:=0
def tw12425389143725617043:=0
def tw18082047579084012186:=0
def tw8670358243860919352:=0
def tw2638428319275585550:=0
def tw16229482569961405490:=0
def tw18234566442465368162:=0
def tw5251994509935803141:=0
def tw8560512703688047696:=0
def tw7267205165490619279:=0
def tw14808356081146482772:=0
def tw18302229970023301588:=0
def tw14928403156900208444:=0
def tw16733751721639135491:=0
def tw986715858135095445:=0
def tw18285897028306637566:=0
def tw10097994067753812409:=0
def tw15748527978873555353:=0
def tw7401323350277603623:=0
def tw18343760005141553375:=0
def tw4080048683948987240:=0
def tw14197934578365642389:=0
def tw6044245794940802909:=0
def tw6568114607780014890:=0
def tw816668916415465850:=0
def tw17327562240852824634:=0
def tw10177963713998149951:=0
def tw8937313566386878039:=0
def tw2861674296234237899:=0
def tw1066349389363967856:=0
def tw16365469893691315740:=0
def tw11633298692009545899:=0
def tw933675682121224463:=0
def tw2081996717353584966:=0
def tw13592986776405416706:=0
def tw5268194661072688861:=0
def tw13534049022931775157:=0
def tw9005055804051435501:=0
def tw10279874218531810769:=0
def tw12150545807839887646:=0
def tw10030258311313200804:=0
def tw6268218136743416154:=0
def tw13120391530820529999:=0
def tw12667988139808665955:=0
def tw4186666591463426138:=0
def tw4366621008791848397:=0
def tw13861454806742369918:=0
def tw16961292742025138168:=0
def tw7721503663179681870:=0
def tw8027232849952489361:=0
def tw1699339746932783450:=0
def tw15101197064727851414:=0
def tw16304699944281841898:=0
def tw14592375137563595199:=0
end PySem.W.Fast
open PySem PySem.W PyProof.Rows
set_option maxRecDepth 100000 in
set_option maxHeartbeats 0 in
theorem PySem.Challenge.cw_markrun_k38_where_jumps_lead_holds : PySem.Challenge.rw_markrun_k38_where_jumps_lead.Holds := by
 w_on; o_law; k_head; (case hw=>w_witness2)
 k_fill
 refine My.walk (l:=PySem.Challenge.rw_markrun_k38_where_jumps_lead) rfl rfl (λw h Y=>PySem.W.kIn_of Y) ?F
 case F=>
  intro w mg fa h KX G hmg;refine' My.all_mk KX G hmg ?FB ?wy ?Y2 ?a0 ?l0 ?c0 ?k0 ?a1 ?l1 ?c1 ?k1 ?a2 ?l2 ?c2 ?k2 ?a3 ?l3 ?c3 ?k3 ?a4 ?l4 ?c4 ?k4 ?a5 ?l5 ?c5 ?k5 ?a6 ?l6 ?c6 ?k6 ?a7 ?l7 ?c7 ?k7 ?a8 ?l8 ?c8 ?k8 ?a9 ?l9 ?c9 ?k9 ?a10 ?l10 ?c10 ?k10 ?a11 ?l11 ?c11 ?k11 ?a12 ?l12 ?c12 ?k12 ?a13 ?l13 ?c13 ?k13 ?a14 ?l14 ?c14 ?k14 ?a15 ?l15 ?c15 ?k15 ?a16 ?l16 ?c16 ?k16 ?a17 ?l17 ?c17 ?k17 ?a18 ?l18 ?c18 ?k18 ?a19 ?l19 ?c19 ?k19 ?a20 ?l20 ?c20 ?k20 ?a21 ?l21 ?c21 ?k21 ?a22 ?l22 ?c22 ?k22 ?a23 ?l23 ?c23 ?k23 ?a24 ?l24 ?c24 ?k24 ?i24 ?a25 ?l25 ?c25 ?k25 ?a26 ?l26 ?c26 ?k26 ?a27 ?l27 ?c27 ?k27 ?a28 ?l28 ?c28 ?k28 ?a29 ?l29 ?c29 ?k29 ?a30 ?l30 ?c30 ?k30 ?a31 ?l31 ?c31 ?k31 ?a32 ?l32 ?c32 ?k32 ?a33 ?l33 ?c33 ?k33 ?a34 ?l34 ?c34 ?k34 ?a35 ?l35 ?c35 ?k35 ?a36 ?l36 ?c36 ?k36 ?a37 ?l37 ?c37 ?k37 ?a38 ?l38 ?c38 ?k38 ?a39 ?l39 ?c39 ?k39 ?a40 ?l40 ?c40 ?k40 ?a41 ?l41 ?c41 ?k41 ?a42 ?l42 ?c42 ?k42 ?i42 ?a43 ?l43 ?c43 ?k43 ?i43 ?a44 ?l44 ?c44 ?k44 ?i44 ?a45 ?l45 ?c45 ?k45 ?i45 ?a46 ?l46 ?c46 ?k46 ?i46 ?a47 ?l47 ?c47 ?k47 ?i47 ?a48 ?l48 ?c48 ?k48 ?i48 ?a49 ?l49 ?c49 ?k49 ?i49 ?a50 ?l50 ?c50 ?k50 ?i50 ?a51 ?l51 ?c51 ?k51 ?a52 ?l52 ?c52 ?k52 ?i52 ?t52 ?a53 ?l53 ?c53 ?k53 ?a54 ?l54 ?c54 ?k54 ?a55 ?l55 ?c55 ?k55 ?a56 ?l56 ?c56 ?k56 ?a57 ?l57 ?c57 ?k57 ?a58 ?l58 ?c58 ?k58 ?a59 ?l59 ?c59 ?k59 ?a60 ?l60 ?c60 ?k60 ?a61 ?l61 ?c61 ?k61 ?a62 ?l62 ?c62 ?k62 ?a63 ?l63 ?c63 ?k63 ?a64 ?l64 ?c64 ?k64 ?a65 ?l65 ?c65 ?k65 ?a66 ?l66 ?c66 ?k66 ?a67 ?l67 ?c67 ?k67 ?Fg ?Ff ?Fc ?Fo ?Fn ?Fp ?Fh ?Fi ?Fm ?Fj ?Fd ?Fb ?Fe ?Fk ?hg_Machine ?rd_Machine ?pg_RowMachine ?hd_RowMachine ?po_RowMachine ?sa_RowMachine ?mk_RowMachine ?kc_RowMachine ?pg_State ?hd_State ?po_State ?sa_State ?mk_State ?kc_State ?nf_RowMachine_done ?nf_RowMachine_due ?nf_RowMachine_end ?nf_RowMachine_first_held ?nf_RowMachine_first_words ?nf_State_held ?nf_RowMachine_state ?nf_RowMachine_table ?nf_State_truths ?nf_State_words ?FJ ?FY ?FZ ?FD ?FQ ?FI ?I_ ?FK ?O0 ?FC ?FH ?FN ?O1 ?FP
  all_goals try (first|k_is|k_exc|kit_is|kts_exm)
  all_goals decide
