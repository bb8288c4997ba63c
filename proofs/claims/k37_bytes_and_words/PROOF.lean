import PyProof.Rows.All
import Wide.All
import OpenK.AllK
import Wide.FinOn
import Lean
import PyProof.EqAt
import PyProof.EqKinds
import PyProof.TupleCall
import PySem.Challenge.RW_markrun_k37_bytes_and_words
set_option Elab.async false
set_option linter.all false
set_option maxRecDepth 100000
def Om:=@PySem.Around.under_plainId
def On:=@Array.getElem?_eq_none
def Oo:=@Array.getElem?_toList
def kW:=@Array.length_toList
def Cv:=@Array.toArray_toList
def yD:=@Bool.and_eq_true
def Op:=@Bool.and_self
def ju:=@Bool.eq_iff_iff
def Wm:=@Bool.false_eq_true
def xT:=@Bool.false_ne_true
def Cw:=@PySem.Calls.Name_function_global
def Oq:=@PySem.Calls.spliced_cons
def Cy:=@PySem.F.args_tuple_iterator_next_1
def Cz:=@PySem.F.entry_tuple_iterator_next
def Os:=@PySem.F.slot_list_getattribute
def Tl:=@PySem.F.slot_tuple_iterator_next
def Tm:=@PySem.F.slot_zip_next
def qT:=@Iff.rfl
def Ot:=@Int.add_zero
def Wn:=@Int.ediv_one
def C_:=@Int.emod_emod_of_dvd
def E4:=@Int.emod_lt_of_pos
def E5:=@Int.fdiv_eq_ediv_of_nonneg
def kX:=@Int.natCast_nonneg
def Wo:=@Int.one_mul
def Tn:=@Int.pow_zero
def tw:=@Int.toNat_natCast
def Ou:=@List.Perm.refl
def xf:=@List.all_cons
def t9:=@List.all_eq_true
def YU:=@List.any_cons
def Ov:=@List.any_eq_false
def To:=@List.any_map
def Tp:=@List.append_assoc
def ub:=@List.append_nil
def Wp:=@List.cons_append
def kY:=@List.drop_eq_getElem_cons
def E6:=@List.drop_eq_nil_of_le
def Ow:=@List.ext_getElem?
def Ox:=@List.filterMap_cons
def E7:=@List.filter_eq_self
def YV:=@List.find?_cons
def YW:=@List.flatten_cons
def qw:=@List.getD_eq_getElem?_getD
def py:=@List.getElem?_append_left
def YX:=@List.getElem?_append_right
def E8:=@List.getElem?_cons_succ
def E9:=@List.getElem?_cons_zero
def xD:=@List.getElem?_eq_getElem
def Wq:=@List.getElem?_eq_none
def yA:=@List.getElem?_eq_some_iff
def vN:=@List.getElem?_map
def EA:=@List.getElem?_range
def EB:=@List.getElem?_replicate
def Oy:=@List.getElem?_set
def EC:=@List.getElem?_set_ne
def ED:=@List.getElem?_set_self
def YY:=@List.getElem?_toArray
def EE:=@List.getElem?_zipWith
def pz:=@List.getElem_mem
def yO:=@List.length_append
def yP:=@List.length_cons
def zm:=@List.length_map
def YZ:=@List.length_nil
def Oz:=@List.length_range
def jv:=@List.length_replicate
def vO:=@List.length_set
def p_:=@List.length_take
def j0:=@List.length_zip
def kZ:=@List.length_zipWith
def Wr:=@List.lookup_cons
def tz:=@List.map_append
def y_:=@List.map_cons
def ke:=@List.map_map
def jw:=@List.map_nil
def j1:=@List.mem_append
def O_:=@List.mem_append_left
def uc:=@List.mem_append_right
def yl:=@List.mem_cons
def xg:=@List.mem_cons_of_mem
def yr:=@List.mem_cons_self
def L0:=@List.mem_filter
def EF:=@List.mem_filterMap
def vh:=@List.mem_map
def Tq:=@List.mem_of_getElem?
def Ya:=@List.mem_range
def j2:=@List.mem_singleton
def Tr:=@List.nil_append
def Wt:=@List.nodup_append
def Wu:=@List.nodup_cons
def t_:=@List.not_mem_nil
def L4:=@List.of_mem_zip
def Wv:=@List.pairwise_cons
def j3:=@List.replicate_succ
def EG:=@List.replicate_zero
def EH:=@List.set_append_right
def L5:=@List.set_cons_succ
def Ts:=@List.set_cons_zero
def ym:=@List.size_toArray
def L6:=@List.take_append_drop
def Ww:=@List.take_length
def EI:=@List.take_succ_cons
def Wx:=@List.take_succ_eq_append_getElem
def L7:=@List.take_zero
def L8:=@List.zipWith_cons_cons
def ud:=@List.zip_cons_cons
def EJ:=@Nat.add_le_add_left
def jx:=@Nat.le_add_right
def Tt:=@Nat.le_of_eq
def Wy:=@Nat.le_of_lt
def yF:=@Nat.le_refl
def Wz:=@Nat.le_succ
def vQ:=@Nat.le_trans
def W_:=@Nat.log2_lt
def wW:=@Nat.lt_irrefl
def L9:=@Nat.lt_of_le_of_lt
def xh:=@Nat.lt_of_lt_of_le
def LA:=@Nat.lt_succ_of_lt
def kf:=@Nat.lt_succ_self
def Tu:=@Nat.lt_trans
def qA:=@Nat.min_self
def qU:=@Nat.ne_of_gt
def wB:=@Nat.ne_of_lt
def LB:=@Nat.not_lt
def V0:=@Nat.sub_self
def Yb:=@Nat.succ.inj
def kh:=@Nat.succ_le_succ
def vi:=@Nat.zero_add
def vy:=@Nat.zero_le
def j4:=@Ne.symm
def tD:=@Option.bind_some
def EK:=@Option.isSome_iff_exists
def LC:=@Option.isSome_map
def ue:=@Option.some.inj
def qV:=@PySem.PassesOwn.never
def Tv:=@PyProof.Rows.callWith_type1
def LD:=@PySem.SeqAt.EqAt.same
def jy:=@Sum.inl.inj
def LF:=@Sum.inr.inj
def kj:=@beq_eq_false_iff_ne
def kl:=@beq_iff_eq
def Yc:=@beq_self_eq_true
def Tw:=@PySem.call_meets
def Tx:=@PySem.codeAny_builtin
def Ty:=@PySem.codeAny_mono
def v4:=@decide_eq_false
def yQ:=@decide_eq_true
def Tz:=@decide_eq_true_iff
def vj:=@decide_true
def qW:=@if_false
def zO:=@if_neg
def zM:=@if_pos
def vz:=@if_true
def xE:=@of_decide_eq_true
def xi:=@PySem.sizeLine_eq
def Yd:=@PySem.strLen_append
def T_:=@PyProof.Rows.subscriptTail_builtinR
def V1:=@PySem.tupleKind_room_in1
def Q0:=@PySem.wpAny_Call_Name_kw
def zX:=@PySem.wpAny_bind
def Q1:=@PySem.wpAny_callSpecial?_slot
def V2:=@PySem.wpAny_call_entry
def EL:=@PySem.wpAny_comprehension_free
def LG:=@PySem.wpAny_execs_nil
def qB:=@PySem.wpAny_field
def LH:=@PySem.wpAny_getItem_of
def Ye:=@PySem.wpAny_holding
def uK:=@PySem.wpAny_mono
def LI:=@PySem.wpAny_newObj_type
def V3:=@PySem.wpAny_onRaise
def V4:=@PySem.wpAny_passesOwn
def ya:=@PySem.wpAny_pure
def V5:=@PySem.wpAny_pyIter_list
def LJ:=@PySem.wpAny_pyIter_tuple
def j5:=@PySem.wpAny_seqItems
def Yf:=@PySem.wpAny_setField_rec
def LK:=@PySem.wpAny_standAt
def V6:=@PySem.wpAny_truthy_bool
def LL:=@PySem.wpAny_updateSeq_pair
namespace L2
open PySem PySem.Spec PyProof.Rows
abbrev zK:=Sum Int Str
def jX:zK->Value->Bool
 |.inl k,v=>Value.isInt k v
 |.inr x,v=>Value.isStrOf x v
def Kd(w:World):zK->Int
 |.inl k=>hashInt k
 |.inr x=>hashStr w x
theorem qk:∀{k:zK}{v:Value},jX k v=true->(∃i t,k=Sum.inl i/\v=Value.int i t)\/(∃x t,k=Sum.inr x/\v=Value.str x t)
 |.inl i,v,h=>by
  obtain⟨t,e⟩:=Value.isInt_shape (k:=i) (v:=v) h;exact .inl ⟨i,t,rfl,e⟩
 |.inr x,v,h=>by
  obtain⟨t,e⟩:=Value.isStrOf_shape (x:=x) (v:=v) h;exact .inr ⟨x,t,rfl,e⟩
theorem Ke(i:Int)(t:Tok):jX (.inl i) (.int i t)=true:=by simp[jX,Value.isInt]
theorem Kf(x:Str)(t:Tok):jX (.inr x) (.str x t)=true:=by simp[jX,Value.isStrOf]
theorem Kg(a b:Int):decide ((Sum.inl a:zK)=Sum.inl b)=(a==b):=by
 by_cases e:a=b
 ·subst e; simp
 ·have h:¬ (Sum.inl a:zK)=Sum.inl b:=λq=>e (jy q)
  rw[v4 h];exact(kj.mpr e).symm
theorem Kl(a b:Str):decide ((Sum.inr a:zK)=Sum.inr b)=decide (a=b):=by
 by_cases e:a=b
 ·subst e; simp
 ·have h:¬ (Sum.inr a:zK)=Sum.inr b:=λq=>e (LF q)
  rw[v4 h,v4 e]
theorem Kh(a:Int)(b:Str):decide ((Sum.inl a:zK)=Sum.inr b)=false:=v4 (λq=>nomatch q)
theorem Kk(a:Str)(b:Int):decide ((Sum.inr a:zK)=Sum.inl b)=false:=v4 (λq=>nomatch q)
def yg(prog:Program)(w:World):PySem.KeyKind prog w zK where
 is:=jX
 hash:=Kd w
 inj:=λv a b ha hb=>by
  rcases qk ha with⟨i,t,rfl,rfl⟩|⟨x,t,rfl,rfl⟩
  ·rcases qk hb with⟨j,u,rfl,e⟩|⟨y,u,rfl,e⟩
   ·injection e with e1 _; rw[e1]
   ·exact nomatch e
  ·rcases qk hb with⟨j,u,rfl,e⟩|⟨y,u,rfl,e⟩
   ·exact nomatch e
   ·injection e with e1 _; rw[e1]
 byValue:=λk v h=>by
  rcases qk h with⟨i,t,rfl,rfl⟩|⟨x,t,rfl,rfl⟩<;>rfl
 pyHash:=λhv h=>by
  rcases qk hv with⟨i,t,rfl,rfl⟩|⟨x,t,rfl,rfl⟩
  ·exact wpAny_pyHash_int h
  ·exact wpAny_pyHash_str h
 eqBool:=λhu hv h=>by
  rcases qk hu with⟨i,t,rfl,rfl⟩|⟨x,t,rfl,rfl⟩
  ·rcases qk hv with⟨j,u,rfl,rfl⟩|⟨y,u,rfl,rfl⟩
   ·rw[Kg]at h; exact wpAny_eqBool_int h
   ·rw[Kh]at h; exact SeqAt.EqAt.int_str i t y u _ _ _ _ h
  ·rcases qk hv with⟨j,u,rfl,rfl⟩|⟨y,u,rfl,rfl⟩
   ·rw[Kk]at h; exact SeqAt.EqAt.str_int x t j u _ _ _ _ h
   ·rw[Kl]at h; exact wpAny_eqBool_str h
 «strs»:=λk x t v h=>by
  rcases qk h with⟨i,u,rfl,e⟩|⟨y,u,rfl,e⟩
  ·exact nomatch e
  ·injection e with e1 _
   subst e1;cases v<;>rfl
theorem NV(prog:Program)(w:World)(i:Int)(t:Tok):(yg prog w).is (.inl i) (.int i t)=true:=Ke i t
theorem IU(prog:Program)(w:World)(x:Str)(t:Tok):(yg prog w).is (.inr x) (.str x t)=true:=Kf x t
inductive V where
 |zG|bl (b:Bool)|int (i:Int)|str (x:Str)|byt (b:Array UInt8)|j_ (b:UInt64)|ref (a:Addr)|ty (n:String)
 deriving DecidableEq
def zc:V->Value->Prop
 |.zG,u=>u=Value.none
 |.bl b,u=>u=Value.bool b
 |.int i,u=>∃t,u=Value.int i t
 |.str x,u=>∃t,u=Value.str x t
 |.byt b,u=>∃t,u=Value.bytes b t
 |.j_ b,u=>∃t,u=Value.float b t
 |.ref a,u=>u=Value.ref a
 |.ty n,u=>u=Value.type n
abbrev ze:List V->List Value->Prop:=Paired zc
theorem ze.length{xs:List V}{us:List Value}(r:ze xs us):xs.length=us.length:=Paired.length r
theorem ze.get:∀{xs:List V}{us:List Value}{i:Nat}{x:V},ze xs us->xs[i]?=some x->∃u,us[i]?=some u/\zc x u
 |_,_,_,_,.nil,e=>by simp at e
 |_,_,0,_,.cons r _,e=>by simp at e; subst e; exact⟨_,rfl,r⟩
 |_,_,i+1,x,.cons _ t,e=>by
  obtain⟨u,h1,h2⟩:=ze.get (i:=i) (x:=x) t (by simpa using e);exact⟨u,by simpa using h1,h2⟩
theorem ze.set{x:V}{u:Value}(r:zc x u):∀{xs:List V}{us:List Value}(i:Nat),ze xs us->ze (xs.set i x) (us.set i u)
 |_,_,_,.nil=>.nil
 |_,_,0,.cons _ t=>.cons r t
 |_,_,i+1,.cons q t=>.cons q (ze.set r i t)
theorem ze.append:∀{xs ys:List V}{us ws:List Value},ze xs us->ze ys ws->ze (xs++ys) (us++ws)
 |_,_,_,_,.nil,s=>s
 |_,_,_,_,.cons r t,s=>.cons r (ze.append t s)
def wl:Option V->Option Value->Prop
 |some v,some u=>zc v u
 |none,none=>True
 |_,_=>False
def KV{κ:Type}:List (κ×V)->List (κ×Value)->Prop:=Paired λ(p:κ×V) (q:κ×Value)=>p.1=q.1/\zc p.2 q.2
def kV:zK->V
 |.inl i=>.int i
 |.inr x=>.str x
inductive HO where
  |lst (xs:List V)
  |tup (xs:List V)
  |dK (kvs:List (zK×V))|dT (kvs:List (List zK×V))
  |set (S:Int->Bool) (n:Nat)
  |ins (C dx:Addr) (fs:List (Str×V))
  |own (x:Addr)
  |xd (fs:List (Str×V))
  |met (f x:Addr)
  |rng (lo hi:Int)
  |xj (o:Obj) (u:HO)
  |tbl (ps:Array Value)
  |ext (φ:Heap->Prop)
abbrev Hp:=Addr->Option HO
def zT(H:Hp)(a:Addr)(o:HO):Hp:=λb=>if b=a then some o else H b
theorem yi{H:Hp}{a:Addr}{o:HO}:zT H a o a=some o:=by unfold zT; rw[zM rfl]
theorem yH{H:Hp}{a b:Addr}{o:HO}(h:b≠a):zT H a o b=H b:=by unfold zT; rw[zO h]
theorem Nj{H:Hp}{a b:Addr}{o u:HO}(h:H a=some o)(h':H b=some u)(d:o≠u):a≠b:=by
 intro e; subst e; rw[h]at h'; exact d (ue h')
theorem uB{H:Hp}{a b:Addr}{o:HO}(h:H a=some o)(h':H b=none):a≠b:=by
 intro e; subst e; rw[h]at h'; cases h'
section
variable(P:Program)(w:World)
def yx(H:Hp)(h:Heap)(a:Addr):HO->Prop
 |.lst xs=>xs.length<=sizeLine/\∃(its:List Value) (n:Nat),ze xs its/\h.get? a=some { cls:=.type "list",data:=.seq its.toArray n }
 |.tup xs=>xs.length<=sizeLine/\∃its:List Value,ze xs its/\IsTup h a its.toArray
 |.dK kvs=>kvs.length<=sizeLine/\(a==sysModules)=false/\∃vs,KV kvs vs/\h.DictOf (yg P w) a vs
 |.dT kvs=>kvs.length<=sizeLine/\(a==sysModules)=false/\∃xs:List (List zK×Addr×Value),
   Paired (λ(p:List zK×V) (q:List zK×Addr×Value)=>p.1=q.1/\H q.2.1=some (.tup (p.1.map kV))/\zc p.2 q.2.2) kvs xs/\
   ∃o es ep,h.get? a=some o/\o.ExactDict/\o.data=.dict es ep/\es.toList=xs.map (entryOfKey (tupleKind (yg P w)))/\(xs.map (·.1)).Nodup
 |.set S n=>h.SetOf (intKind P w) a S n
 |.ins C dx fs=>H dx=some (.own a)/\fs.length<=1000/\dx≠a/\h.get? a=some (W.instObj C dx)/\
   ∃mA,h.Ns1 dx mA/\(∀f,wl (fs.lookup f) (mA f))/\PySem.Within mA (fs.map (·.1))
 |.own _=>∃o,h.get? a=some o
 |.xd fs=>∃mA,h.Ns1 a mA/\∀f,wl (fs.lookup f) (mA f)
 |.rng lo hi=>∃t u v,h.get? a=some { cls:=.type "range",data:=.fields #[.int lo t,.int hi u,.int 1 v] }
 |.xj o u=>h.get? a=some o/\yx H h a u
 |.tbl ps=>h.get? a=some { cls:=.none,data:=.fields ps }
 |.met f x=>h.get? a=some (W.methodObj (.ref f) (.ref x))
 |.ext φ=>φ h/\(∃o,h.get? a=some o)/\∀h1 h2:Heap,φ h1->(∀o,h1.get? a=some o->h2.get? a=some o)->φ h2
def yt(H:Hp)(h:Heap):Prop:=∀a o,H a=some o->yx P w H h a o
end
section
variable{P:Program}{w:World}{H H':Hp}{h h':Heap}{a:Addr}{o:HO}
theorem yx.lt(x:yx P w H h a o):a<h.objs.size:=by
 cases o with
 |lst xs=>obtain⟨_,_,_,_,e⟩:=x; exact Heap.lt_size e
 |tup xs=>obtain⟨_,_,_,p⟩:=x; exact p.lt
 |dK kvs=>obtain⟨_,_,_,_,o,_,_,e,_⟩:=x; exact Heap.lt_size e
 |dT kvs=>obtain⟨_,_,_,_,o,_,_,e,_⟩:=x; exact Heap.lt_size e
 |set S n=>obtain⟨o,_,_,_,e,_⟩:=x; exact Heap.lt_size e
 |ins C dx fs=>obtain⟨_,_,_,e,_⟩:=x; exact Heap.lt_size e
 |own y=>obtain⟨_,e⟩:=x; exact Heap.lt_size e
 |xd fs=>obtain⟨_,⟨_,_,_,e,_⟩,_⟩:=x; exact Heap.lt_size e
 |rng lo hi=>obtain⟨_,_,_,e⟩:=x; exact Heap.lt_size e
 |xj ob u=>obtain⟨e,_⟩:=x; exact Heap.lt_size e
 |tbl ps=>exact Heap.lt_size (show h.get? a=some _ from x)
 |met f y=>exact Heap.lt_size (show h.get? a=some _ from x)
 |ext φ=>obtain⟨_,⟨_,e⟩,_⟩:=x; exact Heap.lt_size e
theorem Paired.Q4{α β:Type}{F G:α->β->Prop}:∀{l₁:List α}{l₂:List β},Paired F l₁ l₂->(∀a b,F a b->G a b)->Paired G l₁ l₂
 |_,_,.nil,_=>.nil
 |_,_,.cons r t,f=>.cons (f _ _ r) (Paired.Q4 t f)
theorem yx.g8(x:yx P w H h a o)(k:∀b u,(b=a\/H b=some (.own a))->h.get? b=some u->h'.get? b=some u)
  (ho:∀b,H b=some (.own a)->H' b=some (.own a))(ht:∀b xs,H b=some (.tup xs)->H' b=some (.tup xs)):yx P w H' h' a o:=by
 induction o with
 |lst xs=>obtain⟨z,its,n,r,e⟩:=x; exact⟨z,its,n,r,k _ _ (.inl rfl) e⟩
 |tup xs=>obtain⟨z,its,r,ob,e,c⟩:=x; exact⟨z,its,r,ob,k _ _ (.inl rfl) e,c⟩
 |dK kvs=>obtain⟨z,y,vs,r,ob,es,ep,e,c⟩:=x; exact⟨z,y,vs,r,ob,es,ep,k _ _ (.inl rfl) e,c⟩
 |dT kvs=>
  obtain⟨z,y,xs,r,ob,es,ep,e,c⟩:=x;exact⟨z,y,xs,Paired.Q4 r λp q z=>⟨z.1,ht _ _ z.2.1,z.2.2⟩,ob,es,ep,k _ _ (.inl rfl) e,c⟩
 |set S n=>obtain⟨ob,es,ep,t,e,c⟩:=x; exact⟨ob,es,ep,t,k _ _ (.inl rfl) e,c⟩
 |ins C dx fs=>
  obtain⟨d,z,ne,e,mA,⟨od,es,ep,e2,c⟩,r⟩:=x;exact⟨ho _ d,z,ne,k _ _ (.inl rfl) e,mA,⟨od,es,ep,k _ _ (.inr d) e2,c⟩,r⟩
 |own y=>obtain⟨ob,e⟩:=x; exact⟨ob,k _ _ (.inl rfl) e⟩
 |xd fs=>obtain⟨mA,⟨od,es,ep,e,c⟩,r⟩:=x; exact⟨mA,⟨od,es,ep,k _ _ (.inl rfl) e,c⟩,r⟩
 |rng lo hi=>obtain⟨t,u,v,e⟩:=x; exact⟨t,u,v,k _ _ (.inl rfl) e⟩
 |xj ob u ih=>obtain⟨e,q⟩:=x; exact⟨k _ _ (.inl rfl) e,ih q⟩
 |tbl ps=>
  have e:h.get? a=some { cls:=.none,data:=.fields ps }:=x;show h'.get? a=some { cls:=.none,data:=.fields ps };exact k a _ (.inl rfl) e
 |met f y=>
  have e:h.get? a=some (W.methodObj (.ref f) (.ref y)):=x;show h'.get? a=some (W.methodObj (.ref f) (.ref y));exact k a _ (.inl rfl) e
 |ext φ=>obtain⟨p,⟨o,e⟩,st⟩:=x; exact⟨st _ _ p λo q=>k _ _ (.inl rfl) q,⟨o,k _ _ (.inl rfl) e⟩,st⟩
theorem yt.lt(x:yt P w H h)(e:H a=some o):a<h.objs.size:=(x a o e).lt
theorem yt.fresh(x:yt P w H h)(e:h.objs.size<=a):H a=none:=by
 cases q:H a with
 |none=>rfl
 |some u=>exact absurd (xh (x.lt q) e) (wW _)
theorem yt.kept(x:yt P w H h)(k:∀b u,h.get? b=some u->h'.get? b=some u):yt P w H h':=λa o e=>
 (x a o e).g8 (λb u _ q=>k b u q) (λ_ q=>q) λ_ _ q=>q
theorem yt.laid(x:yt P w H h)(k:∀b u,h.get? b=some u->h'.get? b=some u)(hp:h.objs.size<=a)(new:yx P w (zT H a o) h' a o):yt P w (zT H a o) h':=λb u e=>by
 have hn:=x.fresh hp;by_cases hb:b=a
 ·subst hb; rw[yi]at e; cases e; exact new
 ·rw[yH hb]at e;exact(x b u e).g8 (λc v _ q=>k c v q) (λc q=>by rw[yH (uB q hn)]; exact q) λc xs q=>by rw[yH (uB q hn)]; exact q
end
def Rd(H:Hp)(a:Addr)(u:HO):Prop:=H a=some u\/∃o,H a=some (.xj o u)
theorem Rd.ok{P:Program}{w:World}{H:Hp}{h:Heap}{a:Addr}{u:HO}(r:Rd H a u)(x:yt P w H h):yx P w H h a u:=by
 rcases r with r|⟨o,r⟩
 ·exact x a u r
 ·obtain⟨_,q⟩:=x a _ r;exact q
def Yt:Option HO->Prop
 |some (.lst _)=>True
 |some (.dK _)=>True
 |some (.dT _)=>True
 |some (.set _ _)=>True
 |some (.ins _ _ _)=>True
 |some (.ext _)=>True
 |_=>False
section
variable{P:Program}{w:World}{H:Hp}{h h':Heap}{x e:Addr}{o':HO}
theorem yt.write(ok:yt P w H h)(mu:Yt (H x))(he:e=x\/H e=some (.own x))(k:∀b u,b≠e->h.get? b=some u->h'.get? b=some u)(heo:∃u,h'.get? e=some u)
  (new:yx P w (zT H x o') h' x o'):yt P w (zT H x o') h':=λb u q=>by
 have nown:∀c y,H c=some (.own y)->c≠x:=λc y r z=>by subst z; rw[r]at mu; exact mu
 have ntup:∀c xs,H c=some (.tup xs)->c≠x:=λc xs r z=>by subst z; rw[r]at mu; exact mu
 by_cases hb:b=x
 ·subst hb; rw[yi]at q; cases q; exact new
 ·rw[yH hb]at q;by_cases hbe:b=e
  ·have q':H b=some (.own x):=by
    rcases he with z|z
    ·exact absurd (hbe.trans z) hb
    ·rw[hbe]; exact z
   rw[q]at q'; cases q';obtain⟨v,hv⟩:=heo;exact⟨v,by rw[hbe]; exact hv⟩
  ·refine(ok b u q).g8 (λc v hc r=>k c v ?_ r) (λc r=>by rw[yH (nown c b r)]; exact r) λc xs r=>by rw[yH (ntup c xs r)]; exact r
   rcases hc with rfl|hc
   ·exact hbe
   ·rintro rfl;rcases he with z|z
    ·exact nown c b hc z
    ·rw[hc]at z; cases z; exact hb rfl
end
structure Un(fs ex:List Addr)(H H':Hp)(h h':Heap):Prop where
 keep:∀b o,h.get? b=some o->H b=none->b ∉ fs->b ∉ ex->h'.get? b=some o
 slot:∀b o,h.get? b=some o->H b=none->b∈fs->b ∉ ex->∃sl,h'.get? b=some { o with slots:=sl }
 free:∀b o,h.get? b=some o->H b=none->b ∉ ex->H' b=none
 there:∀b o,h.get? b=some o->b ∉ ex->∃o',h'.get? b=some o'
 uN:∀b xs,H b=some (.tup xs)->H' b=some (.tup xs)
 v_:∀b o u,H b=some (.xj o u)->H' b=some (.xj o u)
 tI:∀b ps,H b=some (.tbl ps)->∃more,H' b=some (.tbl (ps++more))
section
variable{fs fs' ex ex':List Addr}{H H1 H2:Hp}{h h1 h2 h':Heap}{a x e:Addr}{o:HO}
theorem Un.any(u:Un fs ex H H1 h h1){b:Addr}{ob:Obj}(q:h.get? b=some ob)(n:H b=none)(hx:b ∉ ex):∃sl,h1.get? b=some { ob with slots:=sl }:=by
 by_cases hb:b∈fs
 ·exact u.slot b ob q n hb hx
 ·exact⟨ob.slots,u.keep b ob q n hb hx⟩
theorem Un.kept(k:∀b u,h.get? b=some u->h'.get? b=some u):Un fs ex H H h h':=
 ⟨λb ob q _ _ _=>k b ob q,λb ob q _ _ _=>⟨ob.slots,k b ob q⟩,λ_ _ _ n _=>n,λb ob q _=>⟨ob,k b ob q⟩,λ_ _ q=>q,λ_ _ _ q=>q,λ_ ps q=>⟨#[],by rw[q]; simp⟩⟩
theorem Un.refl:Un fs ex H H h h:=Un.kept λ_ _ q=>q
theorem Un.laid(k:∀b u,h.get? b=some u->h'.get? b=some u)(hp:h.objs.size<=a)(hn:H a=none):Un fs ex H (zT H a o) h h' where
 keep:=λb u q _ _ _=>k b u q
 slot:=λb u q _ _ _=>⟨u.slots,k b u q⟩
 free:=λb u q n _=>by rw[yH (wB (xh (Heap.lt_size q) hp))]; exact n
 there:=λb u q _=>⟨u,k b u q⟩
 uN:=λb xs q=>by rw[yH (uB q hn)]; exact q
 v_:=λb u xs q=>by rw[yH (uB q hn)]; exact q
 tI:=λb ps q=>⟨#[],by rw[yH (uB q hn),q]; simp⟩
theorem Un.write(mu:Yt (H x))(he:e=x\/H e=some (.own x))(k:∀b u,b≠e->h.get? b=some u->h'.get? b=some u)(heo:∃u,h'.get? e=some u):Un fs ex H (zT H x o) h h':=by
 have hx:∀b,H b=none->b≠x:=λb n z=>by subst z; rw[n]at mu; exact mu
 have hb:∀b,H b=none->b≠e:=λb n z=>by
  subst z;rcases he with r|r
  ·exact hx b n r
  ·rw[n]at r; cases r
 have hm:∀b u,H b=some u->¬ Yt (some u)->b≠x:=λb u q nm z=>by subst z; rw[q]at mu; exact nm mu
 refine⟨λb u q n _ _=>k b u (hb b n) q,λb u q n _ _=>⟨u.slots,k b u (hb b n) q⟩,λb u q n _=>by rw[yH (hx b n)]; exact n,λb u q _=>?_,
  λb xs q=>by rw[yH (hm b _ q λz=>z)]; exact q,λb u xs q=>by rw[yH (hm b _ q λz=>z)]; exact q,λb ps q=>⟨#[],by rw[yH (hm b _ q λz=>z),q]; simp⟩⟩
 by_cases hbe:b=e
 ·subst hbe; exact heo
 ·exact⟨u,k b u hbe q⟩
end
def TW(h:Heap)(H:Hp):List Addr:=(List.range h.objs.size).filter λa=>(H a).isSome
def pH(h:Heap)(H:Hp):Heap:=W.hideAll h (TW h H)
theorem KF(h:Heap)(H:Hp):(pH h H).objs.size=h.objs.size:=W.hideAll_size _ _
theorem KE{h:Heap}{H:Hp}{b:Addr}{o:Obj}(e:h.get? b=some o)(n:H b=none):(pH h H).get? b=some o:=
 W.hideAll_get _ e λhm=>by
  have q:(H b).isSome=true:=(L0.mp hm).2;rw[n]at q; simp at q
theorem No{h:Heap}{H:Hp}{b:Addr}{o:Obj}(e:(pH h H).get? b=some o):h.get? b=some o/\H b=none:=by
 have e':h.get? b=some o:=W.of_hideAll (TW h H) e;refine⟨e',?_⟩;cases q:H b with
 |none=>rfl
 |some x=>
  have hm:b∈TW h H:=L0.mpr ⟨Ya.mpr (Heap.lt_size e'),by simp[q]⟩;have z:(pH h H).get? b=none:=W.hideAll_none (TW h H) hm;rw[z]at e; cases e
def El(g h:Heap)(L:Addr):List (Addr×Obj):=(List.range h.objs.size).filterMap λa=>if a=L\/(g.get? a).isSome=true then none else(h.get? a).map λo=>(a,o)
def zf(g h:Heap)(L d:Addr):List (Addr×Obj):=(El g h L).filter λp=>decide (p.1≠d)
structure Mod(K:W.Frag)(mg:Str->Option Value)(base:Heap):Prop where
 g6:K.In base
 glob:base.Ns mainGlobals mg
 blt:∃mb,base.Ns builtinsNs mb/\∀x:Str,x ≠ "__name__" -> mb x=bootBuiltins x
 nolimit:base.NoLimit
structure Cx where
 prog:Program
 w:World
 K:W.Frag
 mg:Str->Option Value
 base:Heap
 A:Around
 N:List Str
 s₀:Shared
 H₀:Hp
 env:Env
 outer:List Env
 stack:List Env
 ex:List Addr
 fn:Str->Bool
 calm:Bool
 pn:List (Addr×Obj)
 xe:Value->Shared->Prop
def uq(l:List Env):List Addr:=l.filterMap (·.frame)
abbrev Cx.fs(X:Cx):List Addr:=uq X.outer
def p8(sc:Scope)(x:Str):Prop:=sc.names.lookup x=some .local\/sc.names.lookup x=some .cell\/sc.names.lookup x=some .free
def tM(sc:Scope)(x:Str):Prop:=sc.names.lookup x=some .local\/sc.names.lookup x=some .cell
def EZ(env:Env)(h:Heap)(m:Str->Option Value)(x:Str)(u:Value):Prop:=
 (env.kindOf x=some .local/\m x=some u)\/((env.kindOf x=some .cell\/env.kindOf x=some .free)/\∃c,env.cells.lookup x=some c/\h.IsCell c (some u))
structure Cx.Ok(X:Cx):Prop where
 mod:Mod X.K X.mg X.base
 kind:X.env.scope.kind=.function
 glob:X.env.globals=mainGlobals
 blt:X.env.builtins=builtinsNs
 above:X.s₀.heap.objs.size<=X.env.locals
 inj:∀x y c,X.env.cells.lookup x=some c->X.env.cells.lookup y=some c->x=y
 has:∀x,(X.env.kindOf x=some .cell\/X.env.kindOf x=some .free)->∃c,X.env.cells.lookup x=some c
 kn:∀x c,X.fn x=true->X.env.cells.lookup x=some c->X.s₀.heap.objs.size<=c
 hd:X.calm=true->X.A.handled=none
 frames:X.A.frames=some X.stack
 Yi:X.stack=X.outer\/(X.stack=X.env::X.outer/\X.env.frame=some X.env.locals)
 Yg:∀b∈X.ex,b≠X.env.locals/\∀x c,X.env.cells.lookup x=some c->c≠b
 bs:∀b o,X.base.get? b=some o->X.s₀.heap.get? b=some o/\X.H₀ b=none
 qX:X.base.objs.size<=X.s₀.heap.objs.size
 Z1:∀b o,X.base.get? b=some o->b ∉ X.ex
 kq:∀b∈X.ex,b ∉ X.fs
 uf:X.s₀.heap.FunFrames X.base X.outer
 j6:∀b∈X.fs,X.H₀ b=none
structure zC(X:Cx)(z6:List (Addr×Obj))(σ:List (Option V))(H:Hp)(s:Shared):Prop where
 ok:X.Ok
 os:s.os=X.s₀.os
 bare:AllBare s.gens
 base:Un X.fs X.ex X.H₀ H X.s₀.heap s.heap
 loc:∃m,s.heap.Ns X.env.locals m/\∀(i:Nat)(x:Str)(v:V),X.N[i]?=some x->σ[i]?=some (some v)->p8 X.env.scope x->∃u,zc v u/\EZ X.env s.heap m x u
 cell:∀x c,X.env.cells.lookup x=some c->∃v,s.heap.IsCell c v
 free:H X.env.locals=none
 qC:∀x c,X.env.cells.lookup x=some c->H c=none
 pin:∀p∈X.pn++z6,s.heap.get? p.1=some p.2/\H p.1=none/\p.1≠X.env.locals/\p.1 ∉ X.fs/\∀v,p.2.data≠.cell v
 zZ:yt X.prog X.w H s.heap
 len:σ.length=X.N.length
section
variable{X:Cx}{z6:List (Addr×Obj)}{σ:List (Option V)}{H H':Hp}{s:Shared}{h':Heap}
theorem Cx.Ok.ET(ok:X.Ok){b:Addr}{o:Obj}(e:X.base.get? b=some o):b ∉ X.fs:=λhb=>by
 have:=(ok.uf.mem hb).1;rw[e]at this; cases this
theorem zC.bs(I:zC X z6 σ H s):∀b o,X.base.get? b=some o->s.heap.get? b=some o/\H b=none:=λb o e=>
 ⟨I.base.keep b o (I.ok.bs b o e).1 (I.ok.bs b o e).2 (I.ok.ET e) (I.ok.Z1 b o e),I.base.free b o (I.ok.bs b o e).1 (I.ok.bs b o e).2 (I.ok.Z1 b o e)⟩
theorem zC.bk(I:zC X z6 σ H s):∀b o,X.base.get? b=some o->s.heap.get? b=some o:=λb o e=>(I.bs b o e).1
theorem zC.mod(I:zC X z6 σ H s):Mod X.K X.mg X.base:=I.ok.mod
theorem zC.xA(I:zC X z6 σ H s):X.K.In s.heap:=I.ok.mod.g6.keeps I.bk
theorem zC.lt(I:zC X z6 σ H s):X.env.locals<s.heap.objs.size:=let ⟨_,hn,_⟩:=I.loc; hn.lt
theorem zC.sz(I:zC X z6 σ H s):X.s₀.heap.objs.size<=s.heap.objs.size:=vQ I.ok.above (Wy I.lt)
theorem zC.LV(I:zC X z6 σ H s){a:Addr}(h:s.heap.objs.size<=a):a ∉ X.fs:=λhb=>by
 obtain⟨_,o,ho,_⟩:=I.ok.uf.mem hb;exact absurd (xh (Heap.lt_size ho) (vQ I.sz h)) (wW _)
theorem zC.jz(I:zC X z6 σ H s):∀x c,X.env.cells.lookup x=some c->c≠X.env.locals:=λx c e z=>by
 obtain⟨v,o,ho,hd⟩:=I.cell x c e;obtain⟨m,⟨o',es,ep,ho',hd',_⟩,_⟩:=I.loc;rw[z,ho']at ho; cases ho; rw[hd']at hd; cases hd
theorem zC.uf(I:zC X z6 σ H s):s.heap.FunFrames X.base X.outer:=by
 have all:∀(l:List Env),(∀b∈uq l,b∈X.fs)->X.s₀.heap.FunFrames X.base l->s.heap.FunFrames X.base l:=by
  intro l
  induction l with
  |nil=>intro _ _; trivial
  |cons env r ih=>
   intro hs hl;obtain⟨hk,⟨L,o,hf,hn,ho,hd⟩,hr⟩:=hl;have hL:L∈X.fs:=hs L (by unfold uq; rw[Ox,hf]; exact yr);obtain⟨sl,e⟩:=I.base.slot L o ho (I.ok.j6 L hL) hL λz=>I.ok.kq L z hL
   exact⟨hk,⟨L,_,hf,hn,e,hd⟩,ih (λb hb=>hs b (by unfold uq; rw[Ox,hf]; exact xg _ hb)) hr⟩
 exact all X.outer (λ_ hb=>hb) I.ok.uf
theorem zC.stack(I:zC X z6 σ H s):s.heap.FunFrames X.base X.stack:=by
 rcases I.ok.Yi with e|⟨e,hf⟩
 ·rw[e]; exact I.uf
 ·rw[e];obtain⟨m,hn,_⟩:=I.loc;refine .cons (by rw[I.ok.kind]; decide) hf hn ?_ I.uf;exact Heap.get?_none_of_le (vQ I.ok.qX I.ok.above)
theorem zC.Yj(I:zC X z6 σ H s):∀b∈uq X.stack,b∈X.env.locals::X.fs:=λb hb=>by
 rcases I.ok.Yi with e|⟨e,hf⟩
 ·rw[e]at hb; exact xg _ hb
 ·rw[e]at hb;unfold uq at hb;rw[Ox,hf]at hb;exact hb
theorem zC.Le(I:zC X z6 σ H s):∀b∈uq X.stack,H b=none:=λb hb=>by
 rcases yl.mp (I.Yj b hb)with e|hb
 ·rw[e]; exact I.free
 ·obtain⟨_,o,ho,_⟩:=I.ok.uf.mem hb;exact I.base.free b o ho (I.ok.j6 b hb) λz=>I.ok.kq b z hb
theorem zC.step{g':Array GenState}{t':Nat}{d':Drawn}{ch:List Addr}(I:zC X z6 σ H s)
  (hch:∀b∈ch,(b∈X.ex\/X.s₀.heap.objs.size<=b)/\b≠X.env.locals/\(∀x c,X.env.cells.lookup x=some c->c≠b)/\∀p∈X.pn++z6,p.1≠b)
  (keep:∀b o,b≠X.env.locals->b ∉ X.fs->b ∉ ch->s.heap.get? b=some o->H b=none->h'.get? b=some o)
  (slot:∀b o,b≠X.env.locals->b∈X.fs->b ∉ ch->s.heap.get? b=some o->H b=none->∃sl,h'.get? b=some { o with slots:=sl })(free:∀b o,b ∉ ch->s.heap.get? b=some o->H b=none->H' b=none)
  (there:∀b o,b ∉ ch->s.heap.get? b=some o->∃o',h'.get? b=some o')
  (uN:∀b xs,H b=some (.tup xs)->H' b=some (.tup xs))(v_:∀b o u,H b=some (.xj o u)->H' b=some (.xj o u))(tI:∀b ps,H b=some (.tbl ps)->∃more,H' b=some (.tbl (ps++more)))
  (ns:∀m,s.heap.Ns X.env.locals m->h'.Ns X.env.locals m)(zZ:yt X.prog X.w H' h')(hg:AllBare g') :
  zC X z6 σ H' { s with heap:=h',gens:=g',drawn:=d',toks:=t' }:=by
 have neL:∀b o,X.s₀.heap.get? b=some o->b≠X.env.locals:=λb o e=>wB (xh (Heap.lt_size e) I.ok.above)
 have neC:∀b o,X.s₀.heap.get? b=some o->b ∉ X.ex->b ∉ ch:=λb o e hx hb=>by
  rcases(hch b hb).1 with z|z
  ·exact hx z
  ·exact absurd (xh (Heap.lt_size e) z) (wW _)
 have cellK:∀x c,X.env.cells.lookup x=some c->∀v,s.heap.IsCell c v->h'.IsCell c v:=λx c e v ⟨o,ho,hd⟩=>by
  have nch:c ∉ ch:=λz=>(hch c z).2.2.1 x c e rfl
  by_cases hc:c∈X.fs
  ·obtain⟨sl,q⟩:=slot c o (I.jz x c e) hc nch ho (I.qC x c e);exact⟨_,q,hd⟩
  ·exact⟨o,keep c o (I.jz x c e) hc nch ho (I.qC x c e),hd⟩
 refine⟨I.ok,I.os,hg,⟨λb o e n hb hx=>?_,λb o e n hb hx=>?_,λb o e n hx=>?_,λb o e hx=>?_,λb xs e=>uN b xs (I.base.uN b xs e),λb o xs e=>v_ b o xs (I.base.v_ b o xs e),λb ps e=>?_⟩,?_,λx c e=>?_,?_,λx c e=>?_,λp hp=>?_,zZ,I.len⟩
 ·exact keep b o (neL b o e) hb (neC b o e hx) (I.base.keep b o e n hb hx) (I.base.free b o e n hx)
 ·obtain⟨sl,e1⟩:=I.base.slot b o e n hb hx;obtain⟨sl',e2⟩:=slot b _ (neL b o e) hb (neC b o e hx) e1 (I.base.free b o e n hx);exact⟨sl',e2⟩
 ·obtain⟨o',e1⟩:=I.base.there b o e hx;exact free b o' (neC b o e hx) e1 (I.base.free b o e n hx)
 ·obtain⟨o',e1⟩:=I.base.there b o e hx;exact there b o' (neC b o e hx) e1
 ·obtain⟨m1,e1⟩:=I.base.tI b ps e;obtain⟨m2,e2⟩:=tI b _ e1;exact⟨m1++m2,by rw[e2,Array.append_assoc]⟩
 ·obtain⟨m,hn,hl⟩:=I.loc;refine⟨m,ns m hn,λi x v e1 e2 e3=>?_⟩;obtain⟨u,r,l⟩:=hl i x v e1 e2 e3;refine⟨u,r,?_⟩;rcases l with l|⟨k,c,e,z⟩
  ·exact .inl l
  ·exact .inr ⟨k,c,e,cellK x c e _ z⟩
 ·obtain⟨v,z⟩:=I.cell x c e;exact⟨v,cellK x c e v z⟩
 ·obtain⟨m,⟨o,_,_,ho,_⟩,_⟩:=I.loc;exact free _ o (λz=>(hch _ z).2.1 rfl) ho I.free
 ·obtain⟨v,o,ho,hd⟩:=I.cell x c e;exact free c o (λz=>(hch c z).2.2.1 x c e rfl) ho (I.qC x c e)
 ·obtain⟨e,n,ne,nf,d⟩:=I.pin p hp;have nch:p.1 ∉ ch:=λz=>(hch p.1 z).2.2.2 p hp rfl
  exact⟨keep p.1 p.2 ne nf nch e n,free p.1 p.2 nch e n,ne,nf,d⟩
theorem zC.un{t':Nat}(I:zC X z6 σ H s)(u:Un X.fs [] H H' s.heap h')(zZ:yt X.prog X.w H' h'):zC X z6 σ H' { s with heap:=h',toks:=t' }:=by
 obtain⟨m,⟨o,es,ep,ho,r⟩,_⟩:=id I.loc;obtain⟨sl,hL⟩:=u.any ho I.free (by simp)
 exact I.step (g':=s.gens) (d':=s.drawn) (ch:=[]) (λ_ z=>nomatch z) (λb o _ hb _ e n=>u.keep b o e n hb (by simp)) (λb o _ hb _ e n=>u.slot b o e n hb (by simp)) (λb o _ e n=>u.free b o e n (by simp)) (λb o _ e=>u.there b o e (by simp)) u.uN u.v_ u.tI (λm' hm=>by
  obtain⟨o',es',ep',ho',r'⟩:=hm;rw[ho]at ho'; cases ho';exact⟨_,es',ep',hL,r'⟩) zZ I.bare
theorem zC.call{g':Array GenState}{t':Nat}{d':Drawn}{ch:List Addr}(I:zC X z6 σ H s)(u:Un (uq X.stack) ch H H' s.heap h')(zZ:yt X.prog X.w H' h')(hg:AllBare g')
  (hch:∀b∈ch,(b∈X.ex\/X.s₀.heap.objs.size<=b)/\b≠X.env.locals/\(∀x c,X.env.cells.lookup x=some c->c≠b)/\∀p∈X.pn++z6,p.1≠b) :
  zC X z6 σ H' { s with heap:=h',gens:=g',drawn:=d',toks:=t' }:=by
 obtain⟨m,⟨o,es,ep,ho,r⟩,_⟩:=id I.loc;obtain⟨sl,hL⟩:=u.any ho I.free λz=>(hch _ z).2.1 rfl
 exact I.step (ch:=ch) hch (λb o hL hb hc e n=>u.keep b o e n (λz=>(yl.mp (I.Yj b z)).elim hL hb) hc) (λb o _ _ hc e n=>u.any e n hc) (λb o hc e n=>u.free b o e n hc) (λb o hc e=>u.there b o e hc) u.uN u.v_ u.tI (λm' hm=>by
  obtain⟨o',es',ep',ho',r'⟩:=hm;rw[ho]at ho'; cases ho';exact⟨_,es',ep',hL,r'⟩) zZ hg
theorem zC.turned{t':Nat}{it:Addr}(I:zC X z6 σ H s)(k:∀b o,b≠it->s.heap.get? b=some o->h'.get? b=some o)(hn:H it=none)(hL:it≠X.env.locals)
  (h1:it∈X.ex\/X.s₀.heap.objs.size<=it)(h2:∀x c,X.env.cells.lookup x=some c->c≠it)(h3:∀p∈X.pn++z6,p.1≠it):zC X z6 σ H { s with heap:=h',toks:=t' }:=by
 have nit:∀b u,H b=some u->b≠it:=λb u e z=>by rw[z,hn]at e; cases e
 refine I.step (g':=s.gens) (d':=s.drawn) (ch:=[it]) (λb hb=>?_) (λb o _ _ hc e _=>k b o (λz=>hc (by simp[z])) e) (λb o _ _ hc e _=>⟨o.slots,k b o (λz=>hc (by simp[z])) e⟩) (λ_ _ _ _ n=>n)
  (λb o hc e=>⟨o,k b o (λz=>hc (by simp[z])) e⟩) (λ_ _ e=>e) (λ_ _ _ e=>e) (λb ps e=>⟨#[],by rw[e]; simp⟩) (λm hm=>?_) (λb u e=>?_) I.bare
 ·have e:b=it:=by simpa using hb
  subst e;exact⟨h1,hL,h2,h3⟩
 ·obtain⟨o,es,ep,ho,r⟩:=hm;exact⟨o,es,ep,k _ o (j4 hL) ho,r⟩
 ·refine(I.zZ b u e).g8 (λc v hc q=>k c v ?_ q) (λ_ q=>q) λ_ _ q=>q
  rcases hc with z|z
  ·rw[z]; exact nit b u e
  ·exact nit c _ z
theorem zC.tok(I:zC X z6 σ H s)(t:Nat):zC X z6 σ H { s with toks:=t }:=I.un (h':=s.heap) (t':=t) Un.refl I.zZ
theorem zC.kept{t':Nat}(I:zC X z6 σ H s)(k:∀b u,s.heap.get? b=some u->h'.get? b=some u):zC X z6 σ H { s with heap:=h',toks:=t' }:=I.un (Un.kept k) (I.zZ.kept k)
theorem zC.laid{a:Addr}{o:HO}{t':Nat}(I:zC X z6 σ H s)(k:∀b u,s.heap.get? b=some u->h'.get? b=some u)(hp:s.heap.objs.size<=a)(new:yx X.prog X.w (zT H a o) h' a o) :
  zC X z6 σ (zT H a o) { s with heap:=h',toks:=t' }:=I.un (Un.laid k hp (I.zZ.fresh hp)) (I.zZ.laid k hp new)
theorem zC.write{x e:Addr}{o:HO}{t':Nat}(I:zC X z6 σ H s)(mu:Yt (H x))(he:e=x\/H e=some (.own x))(k:∀b u,b≠e->s.heap.get? b=some u->h'.get? b=some u)(heo:∃u,h'.get? e=some u)
  (new:yx X.prog X.w (zT H x o) h' x o):zC X z6 σ (zT H x o) { s with heap:=h',toks:=t' }:=I.un (Un.write mu he k heo) (I.zZ.write mu he k heo new)
theorem zC.weak{σ':List (Option V)}(I:zC X z6 σ H s)(hl:σ'.length=σ.length)(w:∀(i:Nat) v,σ'[i]?=some (some v)->σ[i]?=some (some v)):zC X z6 σ' H s:=
 ⟨I.ok,I.os,I.bare,I.base,let ⟨m,hn,hl'⟩:=I.loc; ⟨m,hn,λi x v e1 e2 e3=>hl' i x v e1 (w i v e2) e3⟩,I.cell,I.free,I.qC,I.pin,I.zZ,hl.trans I.len⟩
theorem zC.Yh{pins':List (Addr×Obj)}(I:zC X z6 σ H s)(h:∀p∈pins',s.heap.get? p.1=some p.2/\H p.1=none/\p.1≠X.env.locals/\p.1 ∉ X.fs/\∀v,p.2.data≠.cell v):zC X pins' σ H s:=
 ⟨I.ok,I.os,I.bare,I.base,I.loc,I.cell,I.free,I.qC,λp hp=>(j1.mp hp).elim (λz=>I.pin p (O_ _ z)) (h p),I.zZ,I.len⟩
theorem DE{N:List Str}(hN:N.Nodup){i j:Nat}{x:Str}(a:N[i]?=some x)(b:N[j]?=some x):i=j:=by
 obtain⟨h1,e1⟩:=yA.mp a;obtain⟨h2,e2⟩:=yA.mp b;exact(List.getElem_inj hN).mp (e1.trans e2.symm)
theorem CN{M:Model}{A:Around}{E:Value->Shared->Prop}{i:Nat}{x:Str}{v:V}{u:Value}{Q:Unit->Shared->Prop}(I:zC X z6 σ H s)(hN:X.N.Nodup)(hi:X.N[i]?=some x)(hx:tM X.env.scope x)(r:zc v u)
  (h:∀s',zC X z6 (σ.set i (some v)) H s'->(∃a,Heap.SameBut a s.heap s'.heap/\(a=X.env.locals\/X.env.cells.lookup x=some a))->Q () s')(hf:X.fn x=true\/X.env.scope.names.lookup x=some .local:=by first|exact .inl rfl|exact .inr rfl|assumption):wpAny M A (storeName X.env x u) Q E s:=by
 obtain⟨m,hn,hl⟩:=id I.loc;have hcls:(X.env.scope.kind == .class||(X.env.scope.kind == .module&&X.env.locals != X.env.globals))=false:=by rw[I.ok.kind]; rfl
 have hiσ:i<σ.length:=by rw[I.len]; exact(yA.mp hi).1
 have jz:=I.jz
 have tracked:∀{a:Addr}{h':Heap},(∃o,s.heap.get? a=some o/\H a=none)->Heap.SameBut a s.heap h'->yt X.prog X.w H h':=λ{a h'} ha hs b ob e=>by
  obtain⟨_,_,hfree⟩:=ha;refine(I.zZ b ob e).g8 (λc w' hc q=>(hs.2 c ?_).trans q) (λ_ q=>q) λ_ _ q=>q
  rintro rfl;rcases hc with rfl|hc
  ·rw[hfree]at e; cases e
  ·rw[hfree]at hc; cases hc
 rcases hx with hk|hk
 ·refine wpAny_storeName_local hk hn (λh' hn' hs=>?_) hcls;obtain⟨oL,_,_,hoL,_⟩:=id hn;refine h _ ⟨I.ok,I.os,I.bare,⟨λb o e n hb hx=>?_,λb o e n hb hx=>?_,I.base.free,λb o e hx=>?_,I.base.uN,I.base.v_,I.base.tI⟩,⟨_,hn',λj y v' e1 e2 e3=>?_⟩,λy c e=>?_,I.free,I.qC,λp hp=>?_,tracked ⟨oL,hoL,I.free⟩ hs,by simpa using I.len⟩ ⟨_,hs,.inl rfl⟩
  ·exact(hs.2 b (wB (xh (Heap.lt_size e) I.ok.above))).trans (I.base.keep b o e n hb hx)
  ·obtain⟨sl,e1⟩:=I.base.slot b o e n hb hx;exact⟨sl,(hs.2 b (wB (xh (Heap.lt_size e) I.ok.above))).trans e1⟩
  ·obtain⟨o',e1⟩:=I.base.there b o e hx;exact⟨o',(hs.2 b (wB (xh (Heap.lt_size e) I.ok.above))).trans e1⟩
  ·by_cases hj:j=i
   ·subst hj;rw[hi]at e1; cases e1;rw[ED hiσ]at e2;cases e2;exact⟨u,r,.inl ⟨hk,by simp⟩⟩
   ·rw[EC (j4 hj)]at e2;obtain⟨u',r',q⟩:=hl j y v' e1 e2 e3;refine⟨u',r',?_⟩;rcases q with⟨k,e⟩|⟨k,c,e,z⟩
    ·refine .inl ⟨k,?_⟩;have:y≠x:=λe=>hj (DE hN e1 (e▸hi))
     simp[this,e]
    ·exact .inr ⟨k,c,e,z.sameBut hs (jz y c e)⟩
  ·obtain⟨w',z⟩:=I.cell y c e;exact⟨w',z.sameBut hs (jz y c e)⟩
  ·obtain⟨e,n,ne,nf,d⟩:=I.pin p hp;exact⟨(hs.2 p.1 ne).trans e,n,ne,nf,d⟩
 ·have hfn:X.fn x=true:=by
   rcases hf with z|z
   ·exact z
   ·rw[z]at hk; cases hk
  obtain⟨c,hc⟩:=I.ok.has x (.inl hk);obtain⟨w',z⟩:=I.cell x c hc;refine wpAny_storeName_cell I.ok.kind hk hc z (λh' hc' hs=>?_);obtain⟨oc,hoc,hocd⟩:=id z;refine h { s with heap:=h' } ⟨I.ok,I.os,I.bare,⟨λb o e n hb hx=>?_,λb o e n hb hx=>?_,I.base.free,λb o e hx=>?_,I.base.uN,I.base.v_,I.base.tI⟩,⟨m,hn.sameBut hs (j4 (jz x c hc)),λj y v' e1 e2 e3=>?_⟩,λy c' e=>?_,I.free,I.qC,λp hp=>?_,tracked ⟨oc,hoc,I.qC x c hc⟩ hs,by simpa using I.len⟩ ⟨c,hs,.inr hc⟩
  ·exact(hs.2 b (wB (xh (Heap.lt_size e) (I.ok.kn x c hfn hc)))).trans (I.base.keep b o e n hb hx)
  ·obtain⟨sl,e1⟩:=I.base.slot b o e n hb hx;exact⟨sl,(hs.2 b (wB (xh (Heap.lt_size e) (I.ok.kn x c hfn hc)))).trans e1⟩
  ·obtain⟨o',e1⟩:=I.base.there b o e hx;exact⟨o',(hs.2 b (wB (xh (Heap.lt_size e) (I.ok.kn x c hfn hc)))).trans e1⟩
  ·by_cases hj:j=i
   ·subst hj;rw[hi]at e1; cases e1;rw[ED hiσ]at e2;cases e2;exact⟨u,r,.inr ⟨.inl hk,c,hc,hc'⟩⟩
   ·rw[EC (j4 hj)]at e2;obtain⟨u',r',q⟩:=hl j y v' e1 e2 e3;refine⟨u',r',?_⟩;rcases q with q|⟨k,c',e,z'⟩
    ·exact .inl q
    ·refine .inr ⟨k,c',e,z'.sameBut hs ?_⟩;rintro rfl;exact hj (DE hN e1 (I.ok.inj _ _ _ e hc▸hi))
  ·by_cases hcc:c'=c
   ·subst hcc; exact⟨_,hc'⟩
   ·obtain⟨w2,z2⟩:=I.cell y c' e;exact⟨w2,z2.sameBut hs hcc⟩
  ·obtain⟨e,n,ne,nf,d⟩:=I.pin p hp;refine⟨(hs.2 p.1 ?_).trans e,n,ne,nf,d⟩;intro q;rw[q,hoc]at e;have q':oc=p.2:=ue e;exact d w' (by rw[<-q']; exact hocd)
theorem OH{M:Model}{A:Around}{E:Value->Shared->Prop}{i:Nat}{x:Str}{v:V}{u:Value}{Q:Unit->Shared->Prop}(I:zC X z6 σ H s)(hN:X.N.Nodup)(hi:X.N[i]?=some x)(hx:tM X.env.scope x)(r:zc v u)
  (h:∀s',zC X z6 (σ.set i (some v)) H s'->Q () s')(hf:X.fn x=true\/X.env.scope.names.lookup x=some .local:=by first|exact .inl rfl|exact .inr rfl|assumption):wpAny M A (storeName X.env x u) Q E s:=
 CN I hN hi hx r (λs' I' _=>h s' I') hf
theorem zC.Q2{s':Shared}{ch:List Addr}(I:zC X z6 σ H s)(ho:s'.os=s.os)(u:Un (uq X.stack) ch H H' s.heap s'.heap)(zZ:yt X.prog X.w H' s'.heap)(hg:AllBare s'.gens)
  (hch:∀b∈ch,(b∈X.ex\/X.s₀.heap.objs.size<=b)/\b≠X.env.locals/\(∀x c,X.env.cells.lookup x=some c->c≠b)/\∀p∈X.pn++z6,p.1≠b):zC X z6 σ H' s':=by
 obtain⟨h',g',d',t',o'⟩:=s';have e:o'=s.os:=ho;subst e;exact I.call (g':=g') (t':=t') (d':=d') u zZ hg hch
end
abbrev XK:=Value->Option Addr->Hp->Prop
abbrev St:=List (Option V)
abbrev VK:=V->Hp->Prop
abbrev TE:=St->Hp->VK->Prop
abbrev TT:=St->Hp->(Bool->Hp->Prop)->Prop
abbrev TA:=St->Hp->(List V->Hp->Prop)->Prop
structure vl where
 nx:St->Hp->Prop
 rt:VK
 bk:St->Hp->Prop:=λ_ _=>False
 ct:St->Hp->Prop:=λ_ _=>False
abbrev TS:=vl->St->Hp->Prop
def EP(X:Cx)(z6:List (Addr×Obj))(σ:St)(Q:VK)(u:Value)(s':Shared):Prop:=∃v H',zC X z6 σ H' s'/\zc v u/\Q v H'
def TP(X:Cx)(z6:List (Addr×Obj))(σ:St)(Q:Bool->Hp->Prop)(b:Bool)(s':Shared):Prop:=∃H',zC X z6 σ H' s'/\Q b H'
def AP(X:Cx)(z6:List (Addr×Obj))(σ:St)(Q:List V->Hp->Prop)(us:List Value)(s':Shared):Prop:=∃vs H',zC X z6 σ H' s'/\ze vs us/\Q vs H'
def SP(X:Cx)(z6:List (Addr×Obj))(D:vl)(f:Flow)(s':Shared):Prop:=
 match f with
 |.next=>∃σ' H',zC X z6 σ' H' s'/\D.nx σ' H'
 |.brk=>∃σ' H',zC X z6 σ' H' s'/\D.bk σ' H'
 |.cont=>∃σ' H',zC X z6 σ' H' s'/\D.ct σ' H'
 |.ret u=>∃v σ' H',zC X z6 σ' H' s'/\zc v u/\D.rt v H'
def PE(X:Cx)(e:Expr)(t:TE):Prop:=
 ∀(z6:List (Addr×Obj)) (s:Shared) (σ:St) (H:Hp) (Q:VK),zC X z6 σ H s->t σ H Q->wpAny (model X.prog X.w) X.A (eval e X.env) (EP X z6 σ Q) X.xe s
def PT(X:Cx)(e:Expr)(t:TT):Prop:=
 ∀(z6:List (Addr×Obj)) (s:Shared) (σ:St) (H:Hp) (Q:Bool->Hp->Prop),zC X z6 σ H s->t σ H Q->wpAny (model X.prog X.w) X.A (isTrue e X.env (eval e X.env)) (TP X z6 σ Q) X.xe s
def PW(X:Cx)(e:Expr)(t:TT):Prop:=
 ∀(whole:Sem Value)(z6:List (Addr×Obj)) (s:Shared) (σ:St) (H:Hp) (Q:Bool->Hp->Prop),zC X z6 σ H s->t σ H Q->wpAny (model X.prog X.w) X.A (isTrue e X.env whole) (TP X z6 σ Q) X.xe s
theorem PW.pt{X:Cx}{e:Expr}{t:TT}(h:PW X e t):PT X e t:=h _
def PA(X:Cx)(es:List Expr)(t:TA):Prop:=
 ∀(pos:Pos)(z6:List (Addr×Obj)) (s:Shared) (σ:St) (H:Hp) (Q:List V->Hp->Prop),zC X z6 σ H s->t σ H Q->wpAny (model X.prog X.w) X.A (spliced (backTo pos (starEach es X.env))) (AP X z6 σ Q) X.xe s
def PS(X:Cx)(st:Stmt)(t:TS):Prop:=
 ∀(z6:List (Addr×Obj)) (s:Shared) (σ:St) (H:Hp) (D:vl),zC X z6 σ H s->t D σ H->wpAny (model X.prog X.w) X.A (exec st X.env) (SP X z6 D) X.xe s
def vR(X:Cx)(st:List Stmt)(t:TS):Prop:=
 ∀(z6:List (Addr×Obj)) (s:Shared) (σ:St) (H:Hp) (D:vl),zC X z6 σ H s->t D σ H->wpAny (model X.prog X.w) X.A (execs st X.env) (SP X z6 D) X.xe s
theorem zh{α:Type}{t:Sem α}{Q Q':α->Shared->Prop}{M:Model}{A:Around}{E:Value->Shared->Prop}{s:Shared}(h:wpAny M A t Q E s)(hQ:∀a s,Q a s->Q' a s):wpAny M A t Q' E s:=uK h hQ λ_ _ x=>x
section
variable{X:Cx}
def TV(i:Nat):TE:=λσ H Q=>∃v,σ[i]?=some (some v)/\Q v H
def tC(v:V):TE:=λ_ H Q=>Q v H
theorem Y7{i:Nat}{x:Str}{pos:Pos}(hN:X.N[i]?=some x)(hv:p8 X.env.scope x)(hd:(x==("__debug__" : Str))=false:=by decide)(hcd:(x==("__classdict__" : Str))=false:=by decide):PE X (.Name x pos) (TV i):=by
 intro z6 s σ H Q I h;obtain⟨v,e,h⟩:=h;obtain⟨m,hn,hl⟩:=I.loc;obtain⟨u,r,l⟩:=hl i x v hN e hv;have fin:EP X z6 σ Q u s:=⟨v,H,I,r,h⟩;rcases l with⟨hk,hm⟩|⟨hk,c,hc,hcell⟩
 ·exact wpAny_Name (wpAny_loadName_local I.ok.kind hk hn hm fin) hd
 ·rcases hk with hk|hk
  ·exact wpAny_Name (wpAny_loadName_cell I.ok.kind hk hc hcell fin) hd
  ·exact wpAny_Name (wpAny_loadName_free I.ok.kind hk hc hcell fin hcd) hd
theorem Dp{i j pos}:PE X (.Constant (.int i) j pos) (tC (.int i)):=λ_ _ _ H _ I h=>wpAny_Constant_int ⟨.int i,H,I.tok _,⟨_,rfl⟩,h⟩
theorem Rk{b j pos}:PE X (.Constant (.bool b) j pos) (tC (.bl b)):=λ_ _ _ H _ I h=>Constant_bool ⟨.bl b,H,I,rfl,h⟩
theorem S3{j pos}:PE X (.Constant .none j pos) (tC .zG):=λ_ _ _ H _ I h=>Constant_none ⟨.zG,H,I,rfl,h⟩
theorem U_{x j pos}:PE X (.Constant (.str x) j pos) (tC (.str x)):=λ_ _ _ H _ I h=>Calls.Constant_str ⟨.str x,H,I.tok _,⟨_,rfl⟩,h⟩
def Gl(X:Cx)(x:Str):Prop:=X.env.kindOf x=some .globalImplicit
theorem Up{E:Value->Shared->Prop}{z6:List (Addr×Obj)}{s:Shared}{σ:St}{H:Hp}{x:Str}{u:Value}{pos:Pos}{Q:Value->Shared->Prop}(I:zC X z6 σ H s)(hg:Gl X x)(hm:X.mg x=some u)(h:Q u s)
  (hd:(x==("__debug__" : Str))=false:=by decide):wpAny (model X.prog X.w) X.A (eval (.Name x pos) X.env) Q E s:=
 Cw I.ok.kind hg (Calls.loadGlobal_global (by rw[I.ok.glob]; exact I.mod.glob.keeps I.bk) hm h) hd
theorem Zu{E:Value->Shared->Prop}{z6:List (Addr×Obj)}{s:Shared}{σ:St}{H:Hp}{x:Str}{u:Value}{pos:Pos}{Q:Value->Shared->Prop}(I:zC X z6 σ H s)(hg:Gl X x)(hm:X.mg x=none)(hv:bootBuiltins x=some u)(h:Q u s)
  (hn:x ≠ "__name__" := by decide)(hd:(x==("__debug__" : Str))=false:=by decide):wpAny (model X.prog X.w) X.A (eval (.Name x pos) X.env) Q E s:=by
 obtain⟨mb,h1,h2⟩:=I.mod.blt;exact Cw I.ok.kind hg (Calls.loadGlobal_builtin (by rw[I.ok.glob]; exact I.mod.glob.keeps I.bk) hm (by rw[I.ok.blt]; exact h1.keeps I.bk) ((h2 x hn).trans hv) h) hd
theorem Rw{x:Str}{v:V}{u:Value}{pos:Pos}(hg:Gl X x)(hm:X.mg x=some u)(r:zc v u)(hd:(x==("__debug__" : Str))=false:=by decide):PE X (.Name x pos) (tC v):=
 λ_ _ _ H _ I h=>Up I hg hm ⟨v,H,I,r,h⟩ hd
theorem Rl{x:Str}{v:V}{u:Value}{pos:Pos}(hg:Gl X x)(hm:X.mg x=none)(hv:bootBuiltins x=some u)(r:zc v u)(hn:x ≠ "__name__" := by decide)(hd:(x==("__debug__" : Str))=false:=by decide):PE X (.Name x pos) (tC v):=
 λ_ _ _ H _ I h=>Zu I hg hm hv ⟨v,H,I,r,h⟩ hn hd
variable{a b:Expr}{ta tb:TE}{pos:Pos}
def tB(t:TE):TT:=λσ H Q=>t σ H λx H1=>∃c,x=.bl c/\Q c H1
theorem Si{e:Expr}{t:TE}(h:PE X e t)(he:∀whole,isTrue e X.env whole=(do let v <-whole; standAt e.pos; holding [v] (truthy v)):=by intro _; rfl):PT X e (tB t):=by
 intro z6 s σ H Q I hw;refine isTrue_plain (zh (h z6 s σ H _ I hw) λv s1 ⟨x,H1,I1,r1,q1⟩=>?_) (he _);obtain⟨d,rfl,q⟩:=q1;cases r1;exact V6 ⟨H1,I1,q⟩
variable{tA tB':TT}{zf:List Expr}
def cF(t u:TT):TT:=λσ H Q=>t σ H λc H1=>if c=true then Q true H1 else u σ H1 Q
def cD(t:TT):TT:=λσ H Q=>t σ H λc H1=>Q (!c) H1
theorem FV(ha:PT X a tA):PW X (.BoolOp .Or [a] pos) tA:=by
 intro wh z6 s σ H Q I h;refine isTrue_or (zh (ha z6 s σ H Q I h) λc s1 e=>?_);cases c with
 |false=>exact isTrue_or_nil e
 |true=>exact e
theorem FU(ha:PT X a tA)(hb:PW X (.BoolOp .Or (b::zf) pos) tB'):PW X (.BoolOp .Or (a::b::zf) pos) (cF tA tB'):=by
 intro wh z6 s σ H Q I h;refine isTrue_or (zh (ha z6 s σ H _ I h) λc s1 ⟨H1,I1,q1⟩=>?_);cases c with
 |true=>exact⟨H1,I1,q1⟩
 |false=>exact hb wh z6 s1 σ H1 Q I1 q1
theorem Sh(ha:PT X a tA):PT X (.UnaryOp .Not a pos) (cD tA):=by
 intro z6 s σ H Q I h;exact isTrue_not (ha z6 s σ H (λc H1=>Q (!c) H1) I h)
def bi(ta tb:TE):TE:=λσ H Q=>ta σ H λx H1=>∃c,x=.bl c/\if c=true then tb σ H1 Q else Q (.bl false) H1
def cG(ta tb:TE):TE:=λσ H Q=>ta σ H λx H1=>∃c,x=.bl c/\if c=true then Q (.bl true) H1 else tb σ H1 Q
def cE(ta:TE):TE:=λσ H Q=>ta σ H λx H1=>∃c,x=.bl c/\Q (.bl (!c)) H1
theorem Dr{op}{t:TE}(h:PE X a t):PE X (.BoolOp op [a] pos) t:=λz6 s σ H Q I hw=>BoolOp_one (h z6 s σ H Q I hw)
theorem Dm(ha:PE X a ta)(hb:PE X (.BoolOp .And (b::zf) pos) tb):PE X (.BoolOp .And (a::b::zf) pos) (bi ta tb):=by
 intro z6 s σ H Q I h;refine BoolOp_and (zh (ha z6 s σ H _ I h) λv s1 ⟨x,H1,I1,r1,q1⟩=>?_);obtain⟨c,rfl,q1⟩:=q1;cases r1;refine V6 ?_;cases c with
 |true=>exact hb z6 s1 σ H1 Q I1 q1
 |false=>exact⟨.bl false,H1,I1,rfl,q1⟩
theorem S5(ha:PE X a ta)(hb:PE X (.BoolOp .Or (b::zf) pos) tb):PE X (.BoolOp .Or (a::b::zf) pos) (cG ta tb):=by
 intro z6 s σ H Q I h;refine BoolOp_or (zh (ha z6 s σ H _ I h) λv s1 ⟨x,H1,I1,r1,q1⟩=>?_);obtain⟨c,rfl,q1⟩:=q1;cases r1;refine V6 ?_;cases c with
 |false=>exact hb z6 s1 σ H1 Q I1 q1
 |true=>exact⟨.bl true,H1,I1,rfl,q1⟩
theorem S4(ha:PE X a ta):PE X (.UnaryOp .Not a pos) (cE ta):=by
 intro z6 s σ H Q I h;refine UnaryOp_ (zh (ha z6 s σ H _ I h) λv s1 ⟨x,H1,I1,r1,q1⟩=>?_);obtain⟨c,rfl,q1⟩:=q1;cases r1;exact not_of (V6 ⟨.bl (!c),H1,I1,rfl,q1⟩)
def bv(t:TT)(ta tb:TE):TE:=λσ H Q=>t σ H λc H1=>if c=true then ta σ H1 Q else tb σ H1 Q
theorem Rx{c:Expr}(hc:PT X c tA)(ha:PE X a ta)(hb:PE X b tb):PE X (.IfExp c a b pos) (bv tA ta tb):=by
 intro z6 s σ H Q I h;refine wpAny_IfExp (zh (hc z6 s σ H _ I h) λd s1 ⟨H1,I1,q1⟩=>?_);cases d with
 |true=>exact ha z6 s1 σ H1 Q I1 q1
 |false=>exact hb z6 s1 σ H1 Q I1 q1
end
def yJ(K:W.Frag)(H:Hp)(a:Addr)(xs:List V):Prop:=
 Rd H a (.lst xs) \/
  ∃(o:Obj) (its:Array Value) (n:Nat),K.lookup a=some o/\o.cls=.type "list" /\ o.dict=none/\o.data=.seq its n/\its.size<=sizeLine/\ze xs its.toList
def yb(K:W.Frag)(H:Hp)(a:Addr)(xs:List V):Prop:=
 Rd H a (.tup xs) \/
  ∃(o:Obj) (its:Array Value) (n:Nat),K.lookup a=some o/\o.cls=.type "tuple" /\ o.data=.seq its n/\its.size<=sizeLine/\ze xs its.toList
def Ej:Value->Option V
 |.none=>some .zG
 |.bool b=>some (.bl b)
 |.int i _=>some (.int i)
 |.str x _=>some (.str x)
 |.bytes b _=>some (.byt b)
 |.float b _=>some (.j_ b)
 |.ref a=>some (.ref a)
 |.type n=>some (.ty n)
 |_=>none
theorem zc.abs{x:V}{u:Value}(r:zc x u):Ej u=some x:=by
 cases x with
 |zG=>cases r; rfl
 |bl _=>cases r; rfl
 |int _=>obtain⟨t,rfl⟩:=r; rfl
 |str _=>obtain⟨t,rfl⟩:=r; rfl
 |byt _=>obtain⟨t,rfl⟩:=r; rfl
 |j_ _=>obtain⟨t,rfl⟩:=r; rfl
 |ref _=>cases r; rfl
 |ty _=>cases r; rfl
theorem zc.inj{x y:V}{u:Value}(r:zc x u)(q:zc y u):x=y:=ue (r.abs.symm.trans q.abs)
theorem ze.inj:∀{xs ys:List V}{us:List Value},ze xs us->ze ys us->xs=ys
 |_,_,_,.nil,.nil=>rfl
 |_,_,_,.cons r t,.cons r' t'=>by rw[r.inj r',ze.inj t t']
section
variable{X:Cx}{z6:List (Addr×Obj)}{σ:St}{H:Hp}{s:Shared}{a:Addr}{xs ys:List V}
theorem yJ.of{K:W.Frag}(h:H a=some (.lst xs)):yJ K H a xs:=.inl (.inl h)
theorem yb.of{K:W.Frag}(h:H a=some (.tup xs)):yb K H a xs:=.inl (.inl h)
theorem zC.list(I:zC X z6 σ H s)(h:yJ X.K H a xs):∃its:List Value,ze xs its/\PlainL s.heap a its.toArray/\xs.length<=sizeLine:=by
 rcases h with h|⟨o,its,n,hk,hc,hd,hs,hz,r⟩
 ·obtain⟨z,its,n,r,e⟩:=h.ok I.zZ;exact⟨its,r,⟨_,n,e,rfl,rfl,rfl⟩,z⟩
 ·refine⟨its.toList,r,⟨o,n,I.xA a o hk,hc,hd,by simpa using hs⟩,?_⟩;have e:=r.length;simp only[kW]at e;omega
theorem zC.tuple(I:zC X z6 σ H s)(h:yb X.K H a xs):∃its:List Value,ze xs its/\IsTup s.heap a its.toArray/\xs.length<=sizeLine:=by
 rcases h with h|⟨o,its,n,hk,hc,hs,hz,r⟩
 ·obtain⟨z,its,r,p⟩:=h.ok I.zZ;exact⟨its,r,p,z⟩
 ·refine⟨its.toList,r,⟨o,I.xA a o hk,hc,n,by simpa using hs⟩,?_⟩;have e:=r.length;simp only[kW]at e;omega
theorem zC.V9(I:zC X z6 σ H s)(h:yJ X.K H a xs)(h':yJ X.K H a ys):xs=ys:=by
 obtain⟨its,r,⟨o,n,e,_,_,d⟩,_⟩:=I.list h;obtain⟨its',r',⟨o',n',e',_,_,d'⟩,_⟩:=I.list h';rw[e]at e'; cases e';rw[d]at d';injection d' with d1 _
 have:its=its':=by simpa using congrArg Array.toList d1
 subst this;exact r.inj r'
theorem zC.Q7(I:zC X z6 σ H s)(h:yb X.K H a xs)(h':yb X.K H a ys):xs=ys:=by
 obtain⟨its,r,⟨o,e,_,n,d⟩,_⟩:=I.tuple h;obtain⟨its',r',⟨o',e',_,n',d'⟩,_⟩:=I.tuple h';rw[e]at e'; cases e';rw[d]at d';injection d' with d1 _
 have:its=its':=by simpa using congrArg Array.toList d1
 subst this;exact r.inj r'
end
abbrev Cx.qZ(X:Cx)(E:Value->Shared->Prop):Cx:={ X with xe:=E }
abbrev Cx.tH(X:Cx):Cx:=X.qZ λ_ _=>False
theorem Cx.Ok.qZ{X:Cx}(ok:X.Ok)(E:Value->Shared->Prop):(X.qZ E).Ok:=
 ⟨ok.mod,ok.kind,ok.glob,ok.blt,ok.above,ok.inj,ok.has,ok.kn,ok.hd,ok.frames,ok.Yi,ok.Yg,ok.bs,ok.qX,ok.Z1,ok.kq,ok.uf,ok.j6⟩
theorem Cx.Ok.j8{X:Cx}{E:Value->Shared->Prop}(ok:(X.qZ E).Ok):X.Ok:=
 ⟨ok.mod,ok.kind,ok.glob,ok.blt,ok.above,ok.inj,ok.has,ok.kn,ok.hd,ok.frames,ok.Yi,ok.Yg,ok.bs,ok.qX,ok.Z1,ok.kq,ok.uf,ok.j6⟩
section
variable{X:Cx}{z6:List (Addr×Obj)}{σ:St}{H:Hp}{s:Shared}{E:Value->Shared->Prop}
theorem zC.qZ(I:zC X z6 σ H s)(E:Value->Shared->Prop):zC (X.qZ E) z6 σ H s:=⟨I.ok.qZ E,I.os,I.bare,I.base,I.loc,I.cell,I.free,I.qC,I.pin,I.zZ,I.len⟩
theorem zC.j8(I:zC (X.qZ E) z6 σ H s):zC X z6 σ H s:=⟨I.ok.j8,I.os,I.bare,I.base,I.loc,I.cell,I.free,I.qC,I.pin,I.zZ,I.len⟩
theorem SP.j8{D:vl}{f:Flow}{s':Shared}(h:SP (X.qZ E) z6 D f s'):SP X z6 D f s':=by
 cases f with
 |next=>obtain⟨σ',H',I,q⟩:=h; exact⟨σ',H',I.j8,q⟩
 |brk=>obtain⟨σ',H',I,q⟩:=h; exact⟨σ',H',I.j8,q⟩
 |cont=>obtain⟨σ',H',I,q⟩:=h; exact⟨σ',H',I.j8,q⟩
 |ret u=>obtain⟨v,σ',H',I,r,q⟩:=h; exact⟨v,σ',H',I.j8,r,q⟩
theorem vR.tH{st:List Stmt}{t:TS}(h:vR X.tH st t):vR X st t:=λz6 s σ H D I hw=>
 uK (h z6 s σ H D (I.qZ _) hw) (λ_ _ q=>q.j8) λ_ _ z=>False.elim z
end
section
variable{X:Cx}{st:Stmt}{zf:List Stmt}{t u:TS}{e:Expr}{te:TE}{pos:Pos}
def cC:TS:=λD σ H=>D.nx σ H
def cI(t u:TS):TS:=λD σ H=>t { D with nx:=u D } σ H
theorem FB:vR X [] cC:=λ_ _ σ H _ I h=>LG ⟨σ,H,I,h⟩
theorem D_(h1:PS X st t)(h2:vR X zf u):vR X (st::zf) (cI t u):=by
 intro z6 s σ H D I h;refine wpAny_execs_cons (zh (h1 z6 s σ H { D with nx:=u D } I h) λf s1 q=>?_);cases f with
 |next=>
  obtain⟨σ',H',I',q⟩:=q;exact h2 z6 s1 σ' H' D I' q
 |ret v=>exact q
 |brk=>exact q
 |cont=>exact q
theorem FC(h1:PS X st t):vR X [st] t:=by
 intro z6 s σ H D I h;refine wpAny_execs_cons (zh (h1 z6 s σ H D I h) λf s1 q=>?_);cases f with
 |next=>exact LG q
 |ret v=>exact q
 |brk=>exact q
 |cont=>exact q
theorem zC.quiet{z6:List (Addr×Obj)}{σ:St}{H:Hp}{s:Shared}(I:zC X z6 σ H s):interactive X.env=false:=by simp[interactive,I.ok.kind]
def CT(te:TE):TS:=λD σ H=>te σ H λ_ H1=>D.nx σ H1
theorem Dx(he:PE X e te)(hs:swapsWith e none pos.line X.env=pure false:=by rfl):PS X (.Expr e pos) (CT te):=by
 intro z6 s σ H D I h;exact wpAny_Expr_any (zh (he z6 s σ H _ I h) λv s1 ⟨x,H1,I1,r1,q1⟩=>⟨σ,H1,I1,q1⟩) I.quiet hs
def cH(te:TE):TS:=λD σ H=>te σ H D.rt
theorem T1(he:PE X e te):PS X (.Return (some e) pos) (cH te):=by
 intro z6 s σ H D I h;exact wpAny_Return_some (zh (he z6 s σ H _ I h) λv s1 ⟨x,H1,I1,r1,q1⟩=>⟨x,σ,H1,I1,r1,q1⟩)
def bw(c:TT)(t u:TS):TS:=λD σ H=>c σ H λb H1=>if b=true then t D σ H1 else u D σ H1
theorem Dz{c:Expr}{a b:List Stmt}{tc:TT}(hc:PT X c tc)(ha:vR X a t)(hb:vR X b u):PS X (.If c a b pos) (bw tc t u):=by
 intro z6 s σ H D I h;refine wpAny_If (zh (hc z6 s σ H _ I h) λd s1 ⟨H1,I1,q1⟩=>?_);cases d with
 |true=>exact ha z6 s1 σ H1 D I1 q1
 |false=>exact hb z6 s1 σ H1 D I1 q1
def cB:TS:=λ_ _ _=>False
theorem Sg{sts:List Stmt}:vR X sts cB:=λ_ _ _ _ _ _ h=>h.elim
end
abbrev TG:=V->St->Hp->(St->Hp->Prop)->Prop
abbrev qd:=List V->St->Hp->(St->Hp->Prop)->Prop
def PG(X:Cx)(target:Expr)(t:TG):Prop:=
 ∀(z6:List (Addr×Obj)) (s:Shared) (σ:St) (H:Hp) (v:V) (u:Value) (Q:St->Hp->Prop),zC X z6 σ H s->zc v u->t v σ H Q->
  wpAny (model X.prog X.w) X.A (assign target X.env u) (λ_ s'=>∃σ' H',zC X z6 σ' H' s'/\Q σ' H') X.xe s
def Yu(X:Cx)(ts:List Expr)(t:qd):Prop:=
 ∀(z6:List (Addr×Obj)) (s:Shared) (σ:St) (H:Hp) (vs:List V) (us:List Value) (Q:St->Hp->Prop),zC X z6 σ H s->ze vs us->t vs σ H Q->
  wpAny (model X.prog X.w) X.A (assignInOrder ((assignEach ts X.env).map (·.2)) us) (λ_ s'=>∃σ' H',zC X z6 σ' H' s'/\Q σ' H') X.xe s
abbrev VQ:=V->V->V->Hp->(Hp->Prop)->Prop
def QQ(X:Cx)(t:VQ):Prop:=
 ∀(z6:List (Addr×Obj)) (s:Shared) (σ:St) (H:Hp) (o i v:V) (ov iv u:Value) (Q:Hp->Prop),zC X z6 σ H s->zc o ov->zc i iv->zc v u->t o i v H Q->
  wpAny (model X.prog X.w) X.A (setItem ov iv u) (λ_ s'=>∃H',zC X z6 σ H' s'/\Q H') X.xe s
abbrev ZM:=V->V->Hp->VK->Prop
def VO(X:Cx)(op:Operator)(t:ZM):Prop:=
 ∀(z6:List (Addr×Obj)) (s:Shared) (σ:St) (H:Hp) (x y:V) (v u:Value) (Q:VK),zC X z6 σ H s->zc x v->zc y u->t x y H Q->
  wpAny (model X.prog X.w) X.A (inplaceOp op v u) (EP X z6 σ Q) X.xe s
section
variable{X:Cx}{pos:Pos}
def vt(i:Nat):TG:=λv σ H Q=>Q (σ.set i (some v)) H
theorem S8{i:Nat}{x:Str}(hN:X.N.Nodup)(hi:X.N[i]?=some x)(hx:tM X.env.scope x)(hf:X.fn x=true\/X.env.scope.names.lookup x=some .local:=by first|exact .inl rfl|exact .inr rfl|assumption):PG X (.Name x pos) (vt i):=by
 intro z6 s σ H v u Q I r h;exact wpAny_assign_Name (OH I hN hi hx r (λs' I'=>⟨_,H,I',h⟩) hf)
def ZW:qd:=λvs σ H Q=>vs=[]/\Q σ H
def qh(t:TG)(u:qd):qd:=λvs σ H Q=>∃v r,vs=v::r/\t v σ H λσ' H'=>u r σ' H' Q
theorem SH:Yu X [] ZW:=by
 intro z6 s σ H vs us Q I r h;obtain⟨e,h⟩:=h;subst e;cases r;exact assignInOrder_nil ⟨σ,H,I,h⟩
theorem SD{e:Expr}{es:List Expr}{t:TG}{u:qd}(h1:PG X e t)(h2:Yu X es u)
  (hs:(assignEach (e::es) X.env).map (·.2)=assign e X.env::(assignEach es X.env).map (·.2):=by rfl):Yu X (e::es) (qh t u):=by
 intro z6 s σ H vs us Q I r h;obtain⟨v,vr,e1,h⟩:=h;subst e1;cases r with
 |cons r rr=>
  rw[hs];refine assignInOrder_cons (zh (h1 z6 s σ H _ _ _ I r h) λ_ s1 ⟨σ1,H1,I1,q1⟩=>?_);exact h2 z6 s1 σ1 H1 _ _ Q I1 rr q1
def ZX(K:W.Frag)(n:Nat)(t:qd):TG:=λv σ H Q=>∃a xs,v=.ref a/\yb K H a xs/\xs.length=n/\t xs σ H Q
theorem SC{es:List Expr}{k:Nat}{t:qd}{n:Nat}(hc:X.calm=true)(h:Yu X es t)
  (hn:(assignEach es X.env).length=n:=by rfl)(hst:(assignEach es X.env).findIdx? (·.1)=none:=by rfl):PG X (.Tuple es k pos) (ZX X.K n t):=by
 intro z6 s σ H v u Q I r hw;obtain⟨a,xs,e1,hq,hl,hw⟩:=hw;subst e1;cases r;obtain⟨its,rv,ht,hz⟩:=I.tuple hq;refine assign_Tuple_tuple (I.ok.hd hc) ht (by simp[hn,<-hl,rv.length]) hst λh' hx=>?_
 have I1:zC X z6 σ H { s with heap:=h' }:=I.kept (t':=s.toks) λb o e=>hx b o (wB (Heap.lt_size e)) e
 exact h z6 _ σ H xs _ Q I1 (by simpa using rv) hw
def B8(to ti:TE)(t:VQ):TG:=λv σ H Q=>to σ H λo H1=>ti σ H1 λi H2=>t o i v H2 λH3=>Q σ H3
theorem S9{o i:Expr}{to ti:TE}{t:VQ}(ho:PE X o to)(hi:PE X i ti)(hs:QQ X t)
  (ha:∀v,assign (.Subscript o i pos) X.env v=(do
   let ov <-holding [v] (eval o X.env)
   let iv <-holding [v,ov] (eval i X.env)
   standAt pos
   holding [v,ov,iv] (setItem ov iv v)
   release [v,ov,iv] []):=by intro _; rfl):PG X (.Subscript o i pos) (B8 to ti t):=by
 intro z6 s σ H v u Q I r h;rw[ha];refine zX (Ye (zh (ho z6 s σ H _ I h) λov s1 ⟨x,H1,I1,r1,q1⟩=>?_));refine zX (Ye (zh (hi z6 s1 σ H1 _ I1 q1) λiv s2 ⟨y,H2,I2,r2,q2⟩=>?_));refine zX (LK (zX (Ye (zh (hs z6 s2 σ H2 x y v ov iv u _ I2 r1 r2 r q2) λ_ s3 ⟨H3,I3,q3⟩=>?_))));exact wpAny_release ⟨σ,H3,I3,q3⟩
def OM(te:TE)(g:TG):TS:=λD σ H=>te σ H λx H1=>g x σ H1 D.nx
theorem Sa{tg e:Expr}{te:TE}{g:TG}(he:PE X e te)(hg:PG X tg g)(hs:swapsWithSole [tg] e pos.line X.env=pure false:=by rfl)(hw:swappedStores [tg] e X.env=pure none:=by rfl)
  (h1:(assignEach [tg] X.env).map (·.2)=[assign tg X.env]:=by rfl):PS X (.Assign [tg] e pos) (OM te g):=by
 intro z6 s σ H D I h;refine wpAny_Assign_stores (zh (he z6 s σ H _ I h) λv s1 ⟨x,H1,I1,r1,q1⟩=>?_) hs hw;rw[h1];exact zh (hg z6 s1 σ H1 x v _ I1 r1 q1) λ_ s2 q=>q
theorem Se{i:Nat}{x:Str}{e:Expr}{te:TE}{pos':Pos}(hN:X.N.Nodup)(hi:X.N[i]?=some x)(hx:tM X.env.scope x)(he:PE X e te)(hs:swapsWith e (some (.Name x pos')) pos.line X.env=pure false:=by rfl)(hf:X.fn x=true\/X.env.scope.names.lookup x=some .local:=by first|exact .inl rfl|exact .inr rfl|assumption) :
  PS X (.Assign [.Name x pos'] e pos) (OM te (vt i)):=by
 intro z6 s σ H D I h;refine wpAny_Assign_Name (zh (he z6 s σ H _ I h) λv s1 ⟨y,H1,I1,r1,q1⟩=>?_) hs;exact OH I1 hN hi hx r1 (λs2 I2=>⟨_,H1,I2,q1⟩) hf
def bj(i:Nat)(te:TE)(ti:ZM):TS:=λD σ H=>∃x,σ[i]?=some (some x)/\te σ H λy H1=>ti x y H1 λz H2=>D.nx (σ.set i (some z)) H2
theorem Dv{i:Nat}{x:Str}{e:Expr}{te:TE}{op:Operator}{ti:ZM}{pos':Pos}(hN:X.N.Nodup)(hi:X.N[i]?=some x)(hx:tM X.env.scope x)(he:PE X e te)(ho:VO X op ti)(hf:X.fn x=true\/X.env.scope.names.lookup x=some .local:=by first|exact .inl rfl|exact .inr rfl|assumption) :
  PS X (.AugAssign (.Name x pos') op e pos) (bj i te ti):=by
 intro z6 s σ H D I h;obtain⟨v,e1,h⟩:=h;obtain⟨m,hn,hl⟩:=I.loc;have vis:p8 X.env.scope x:=by rcases hx with k|k; exact .inl k; exact .inr (.inl k)
 obtain⟨u,r,l⟩:=hl i x v hi e1 vis;refine wpAny_AugAssign_Name ?_
 have go:wpAny (model X.prog X.w) X.A (eval e X.env) (λw s₂=>wpAny (model X.prog X.w) X.A (inplaceOp op u w) (λr s₃=>wpAny (model X.prog X.w) X.A (storeName X.env x r) (λ_=>SP X z6 D .next) X.xe s₃) X.xe s₂) X.xe s:=by
  refine zh (he z6 s σ H _ I h) λw s1 ⟨y,H1,I1,r1,q1⟩=>?_
  refine zh (ho z6 s1 σ H1 v y u w _ I1 r r1 q1) λz s2 ⟨zv,H2,I2,r2,q2⟩=>?_
  exact OH I2 hN hi hx r2 (λs3 I3=>⟨_,H2,I3,q2⟩) hf
 rcases l with⟨hk,hm⟩|⟨hk,c,hc,hcell⟩
 ·exact wpAny_loadName_local I.ok.kind hk hn hm go
 ·rcases hk with hk|hk
  ·exact wpAny_loadName_cell I.ok.kind hk hc hcell go
  ·rcases hx with k|k
   ·have:X.env.scope.names.lookup x=some .free:=hk;rw[k]at this; cases this
   ·have:X.env.scope.names.lookup x=some .free:=hk;rw[k]at this; cases this
def BR(f:Int->Int->Int):ZM:=λx y H Q=>∃i j,x=.int i/\y=.int j/\Q (.int (f i j)) H
theorem BS:VO X .Add (BR λi j=>i+j):=by
 intro z6 s σ H x y v u Q I r1 r2 h;obtain⟨i,j,e1,e2,q⟩:=h;subst e1; subst e2;obtain⟨t,rfl⟩:=r1;obtain⟨t',rfl⟩:=r2;exact iadd_int ⟨.int _,H,I.tok _,⟨_,rfl⟩,q⟩
end
section
variable{X:Cx}{pos:Pos}
end
structure It where
 go:Nat->Hp->Prop
 u3:Nat->Hp->V->Hp->Prop
 stop:Nat->Hp->Prop
def tL(X:Cx)(z6:List (Addr×Obj))(H:Hp)(b:Addr):Prop:=
 H b=none/\b≠X.env.locals/\b ∉ X.fs/\(b∈X.ex\/X.s₀.heap.objs.size<=b)/\(∀x c,X.env.cells.lookup x=some c->c≠b)/\∀p∈X.pn++z6,p.1≠b
theorem zC.kz{X:Cx}{z6:List (Addr×Obj)}{σ:St}{H H':Hp}{s:Shared}{b:Addr}(I:zC X z6 σ H s)(hb:s.heap.objs.size<=b)(hn:H' b=none):tL X z6 H' b:=by
 refine⟨hn,qU (xh I.lt hb),I.LV hb,.inr (vQ I.sz hb),λx c e z=>?_,λp hp z=>?_⟩
 ·obtain⟨v,q⟩:=I.cell x c e;exact absurd (xh q.lt (by rw[z]; exact hb)) (wW _)
 ·exact absurd (xh (Heap.lt_size (I.pin p hp).1) (by rw[z]; exact hb)) (wW _)
structure jL(P:Program)(w:World)(K:W.Frag)(tg:Expr)(J:It)(fp:List Addr)(it:Addr)(tn:Nat->Heap->Prop):Prop where
 mem:it∈fp
 obj:∀i h,tn i h->∀b∈fp,∃o,h.get? b=some o/\∀v,o.data≠.cell v
 keep:∀i h h',tn i h->(∀b∈fp,∀o,h.get? b=some o->h'.get? b=some o)->tn i h'
 item:∀(X:Cx),X.prog=P->X.w=w->X.K=K->X.calm=true->∀(i:Nat)(z6:List (Addr×Obj)) (s:Shared) (σ:St) (H:Hp) (E:Value->Shared->Prop),zC X z6 σ H s->(∀b∈fp,tL X z6 H b)->tn i s.heap->J.go i H->
  wpAny (model P w) X.A (pyNext (.ref it)) (λr s1=>∃u,r=some u/\
   wpAny (model P w) X.A (letOwnedTupleGo tg (.ref it) u) (λ_ s2=>∃x H',zC X z6 σ H' s2/\zc x u/\J.u3 i H x H'/\tn (i+1) s2.heap/\∀b∈fp,H' b=none) E s1) E s
 done:∀(X:Cx),X.prog=P->X.w=w->X.K=K->X.calm=true->∀(i:Nat)(z6:List (Addr×Obj)) (s:Shared) (σ:St) (H:Hp) (E:Value->Shared->Prop),zC X z6 σ H s->(∀b∈fp,tL X z6 H b)->tn i s.heap->J.stop i H->
  wpAny (model P w) X.A (pyNext (.ref it)) (λr s1=>r=none/\zC X z6 σ H s1) E s
 self:∀(A:Around)(i:Nat)(s:Shared)(Q:Value->Shared->Prop)(E:Value->Shared->Prop),tn i s.heap->Q (.ref it) s->wpAny (model P w) A (pyIter (.ref it)) Q E s
abbrev TI:=St->Hp->(It->Hp->Prop)->Prop
def QP(X:Cx)(z6:List (Addr×Obj))(σ:St)(tg:Expr)(R:It->Hp->Prop)(itv:Value)(s2:Shared):Prop:=
 ∃(it:Addr) (fp:List Addr) (tn:Nat->Heap->Prop) (J:It) (H':Hp),itv=.ref it/\zC X z6 σ H' s2/\jL X.prog X.w X.K tg J fp it tn/\tn 0 s2.heap/\(∀b∈fp,tL X z6 H' b)/\R J H'
def PI(X:Cx)(tg iter:Expr)(wi:TI):Prop:=
 ∀(z6:List (Addr×Obj)) (s:Shared) (σ:St) (H:Hp) (R:It->Hp->Prop),zC X z6 σ H s->wi σ H R->
  wpAny (model X.prog X.w) X.A (eval iter X.env) (λv s1=>wpAny (model X.prog X.w) X.A (pyIter v) (QP X z6 σ tg R) X.xe s1) X.xe s
theorem UW{M:Model}{A:Around}{E:Value→Shared→Prop}{s:Shared}{tg:Expr}{it:Addr}{u:Value}{o:Obj}{n:String}{vs:Array Value}{Q:Unit→Shared→Prop}(ho:s.heap.get? it=some o)(hc:o.cls=.type n)(hd:o.data=.fields vs)
    (hn:["enumerate", "zip", "dict_itemiterator", "dict_reverseitemiterator", "odict_iterator", "itertools.zip_longest", "itertools.pairwise"].contains n=false)(hQ:Q () s):wpAny M A (letOwnedTupleGo tg (.ref it) u) Q E s:=by
  unfold letOwnedTupleGo
  cases tg<;>first
    |exact ya hQ
    | (cases u<;>first
        |exact ya hQ
        | (refine zX (wpAny_load ho ?_)
           rw[hc,hd];show wpAny M A (if(["enumerate", "zip", "dict_itemiterator", "dict_reverseitemiterator", "odict_iterator", "itertools.zip_longest", "itertools.pairwise"].contains n&&vs[0]?==some (rawInt _))=true then _ else _) Q E s;rw[zO (by intro h; rw[hn,Bool.false_and]at h; cases h)];exact ya hQ))
def QK(K:W.Frag)(a:Addr):It:=
 ⟨λi H=>∃xs x,yJ K H a xs/\xs[i]?=some x,λi H x H'=>H'=H/\∀xs,yJ K H a xs->xs[i]?=some x,λi H=>∃xs,yJ K H a xs/\xs.length<=i⟩
def QL(K:W.Frag)(a:Addr):It:=
 ⟨λi H=>∃xs x,yb K H a xs/\xs[i]?=some x,λi H x H'=>H'=H/\∀xs,yb K H a xs->xs[i]?=some x,λi H=>∃xs,yb K H a xs/\xs.length<=i⟩
def VJ(lo:Int)(n:Nat):It:=⟨λi _=>i<n,λi H x H'=>H'=H/\x=.int (lo+i),λi _=>n<=i⟩
theorem dD{P:Program}{w:World}{K:W.Frag}{tg:Expr}(a it:Addr):jL P w K tg (QK K a) [it] it (λi h=>h.IsListIter it a i) where
 mem:=by simp
 obj:=λi h st b hb=>by
  have e:b=it:=by simpa using hb
  subst e;obtain⟨o,e,c,d⟩:=st;exact⟨o,e,λv z=>by rw[d]at z; cases z⟩
 keep:=λi h h' st k=>st.at λo e=>k it (by simp) o e
 item:=by
  intro X hP hw hK hc i z6 s σ H E I hf st hg;subst hP hw hK;obtain⟨xs,x,hq,hx⟩:=hg;obtain⟨its,rv,p,hz⟩:=I.list hq;obtain⟨u,hu,ru⟩:=rv.get hx;obtain⟨f0,f1,f2,f3,f4,f5⟩:=hf it (by simp);refine wpAny_pyNext_list_item st p.isList (x:=u) (by simpa using hu) λh' st' sb=>?_
  have I1:zC X z6 σ H { s with heap:=h' }:=I.turned (t':=s.toks) (λb o hb e=>(sb.2 b hb).trans e) f0 f1 f3 f4 f5;obtain⟨o,e,c,d⟩:=id st';exact⟨u,rfl,UW (s:={ s with heap:=h' }) e c d (by decide) ⟨x,H,I1,ru,⟨rfl,λys hy=>by rw[I.V9 hy hq]; exact hx⟩,st',λb hb=>(hf b hb).1⟩⟩
 done:=by
  intro X hP hw hK hc i z6 s σ H E I hf st hg;subst hP hw hK;obtain⟨xs,hq,hx⟩:=hg;obtain⟨its,rv,p,hz⟩:=I.list hq;obtain⟨f0,f1,f2,f3,f4,f5⟩:=hf it (by simp);have hl:=rv.length;exact wpAny_pyNext_list_end (I.ok.hd hc) st p.isList (by simp; omega) λh' eb=>⟨rfl,I.turned (t':=s.toks) (λb o hb e=>eb b o hb e) f0 f1 f3 f4 f5⟩
 self:=λ_ _ _ _ _ st h=>wpAny_pyIter_listiter st h
theorem dG{P:Program}{w:World}{K:W.Frag}{tg:Expr}(a it:Addr):jL P w K tg (QL K a) [it] it (λi h=>h.IsTupleIter it a i) where
 mem:=by simp
 obj:=λi h st b hb=>by
  have e:b=it:=by simpa using hb
  subst e;obtain⟨o,e,c,d⟩:=st;exact⟨o,e,λv z=>by rw[d]at z; cases z⟩
 keep:=λi h h' st k=>st.at λo e=>k it (by simp) o e
 item:=by
  intro X hP hw hK hc i z6 s σ H E I hf st hg;subst hP hw hK;obtain⟨xs,x,hq,hx⟩:=hg;obtain⟨its,rv,p,hz⟩:=I.tuple hq;obtain⟨u,hu,ru⟩:=rv.get hx;obtain⟨f0,f1,f2,f3,f4,f5⟩:=hf it (by simp);refine wpAny_pyNext_tuple_item st (show s.heap.IsTuple a its.toArray from p) (x:=u) (by simpa using hu) λh' st' sb=>?_
  have I1:zC X z6 σ H { s with heap:=h' }:=I.turned (t':=s.toks) (λb o hb e=>(sb.2 b hb).trans e) f0 f1 f3 f4 f5;obtain⟨o,e,c,d⟩:=id st';exact⟨u,rfl,UW (s:={ s with heap:=h' }) e c d (by decide) ⟨x,H,I1,ru,⟨rfl,λys hy=>by rw[I.Q7 hy hq]; exact hx⟩,st',λb hb=>(hf b hb).1⟩⟩
 done:=by
  intro X hP hw hK hc i z6 s σ H E I hf st hg;subst hP hw hK;obtain⟨xs,hq,hx⟩:=hg;obtain⟨its,rv,p,hz⟩:=I.tuple hq;obtain⟨f0,f1,f2,f3,f4,f5⟩:=hf it (by simp);have hl:=rv.length;exact wpAny_pyNext_tuple_end (I.ok.hd hc) st (show s.heap.IsTuple a its.toArray from p) (by simp; omega) λh' eb=>⟨rfl,I.turned (t':=s.toks) (λb o hb e=>eb b o hb e) f0 f1 f3 f4 f5⟩
 self:=λ_ _ _ _ _ st h=>wpAny_pyIter_tupleiter st h
theorem dE{P:Program}{w:World}{K:PySem.W.Frag}{tg:Expr}(it:Addr)(lo:Int)(n:Nat):jL P w K tg (VJ lo n) [it] it (λi h=>IsRangeIter h it (lo+(i:Nat)*1) ((n:Int)-(i:Nat)) 1) where
 mem:=by simp
 obj:=λi h st b hb=>by
  have e:b=it:=by simpa using hb
  subst e
  exact⟨_,st,λv z=>by
   have z':Data.fields _=Data.cell v:=z;cases z'⟩
 keep:=λi h h' st k=>k it (by simp) _ st
 item:=by
  intro X hP hw hK hc i z6 s σ H E I hf st hg;subst hP hw hK;obtain⟨f0,f1,f2,f3,f4,f5⟩:=hf it (by simp);have W:=Walks.range (prog:=X.prog) (w:=X.w) (I.ok.hd hc) it lo 1 n;refine W.item i s _ _ hg st λv h' tk hv st' kk=>?_
  obtain⟨t,rfl⟩:=hv;have I1:zC X z6 σ H { s with heap:=h',toks:=tk }:=I.turned (λb o hb e=>kk b o (by simpa using hb) e) f0 f1 f3 f4 f5;refine⟨_,rfl,UW (s:={ s with heap:=h',toks:=tk }) (n := "range_iterator") st' rfl rfl (by decide) ⟨.int (lo+i),H,I1,⟨t,?_⟩,⟨rfl,rfl⟩,st',λb hb=>(hf b hb).1⟩⟩;rw[Int.mul_one]
 done:=by
  intro X hP hw hK hc i z6 s σ H E I hf st hg;subst hP hw hK;obtain⟨f0,f1,f2,f3,f4,f5⟩:=hf it (by simp);exact wpAny_pyNext_range_end (I.ok.hd hc) st (by have:n<=i:=hg; omega) λh' eb=>⟨rfl,I.turned (t':=s.toks) (λb o hb e=>eb b o hb e) f0 f1 f3 f4 f5⟩
 self:=λ_ _ _ _ _ st h=>wpAny_pyIter_rangeiter st h
section
variable{X:Cx}{tg:Expr}
def KJ(K:W.Frag)(tl:TE):TI:=λσ H R=>tl σ H λx H1=>∃a,x=.ref a/\(∃xs,yJ K H1 a xs)/\R (QK K a) H1
def KM(K:W.Frag)(tl:TE):TI:=λσ H R=>tl σ H λx H1=>∃a,x=.ref a/\(∃xs,yb K H1 a xs)/\R (QL K a) H1
theorem SK{l:Expr}{tl:TE}(hl:PE X l tl):PI X tg l (KJ X.K tl):=by
 intro z6 s σ H R I h;refine zh (hl z6 s σ H _ I h) λv s1 ⟨x,H1,I1,r1,q1⟩=>?_
 obtain⟨a,e,⟨xs,hq⟩,q⟩:=q1;subst e;cases r1;obtain⟨its,rv,p,hz⟩:=I1.list hq;refine V5 p.isList ?_;refine⟨s1.heap.objs.size,[s1.heap.objs.size],_,_,H1,rfl,I1.kept (t':=s1.toks) λb o e=>Heap.get?_push_of_some _ e,dD a _,⟨_,Heap.get?_push_size _ rfl,rfl,rfl⟩,λb hb=>?_,q⟩;have e:b=s1.heap.objs.size:=by simpa using hb
 subst e;exact I1.kz (yF _) (I1.zZ.fresh (yF _))
theorem SN{l:Expr}{tl:TE}(hl:PE X l tl):PI X tg l (KM X.K tl):=by
 intro z6 s σ H R I h;refine zh (hl z6 s σ H _ I h) λv s1 ⟨x,H1,I1,r1,q1⟩=>?_
 obtain⟨a,e,⟨xs,hq⟩,q⟩:=q1;subst e;cases r1;obtain⟨its,rv,p,hz⟩:=I1.tuple hq;refine LJ (show s1.heap.IsTuple a its.toArray from p) ?_;refine⟨s1.heap.objs.size,[s1.heap.objs.size],_,_,H1,rfl,I1.kept (t':=s1.toks) λb o e=>Heap.get?_push_of_some _ e,dG a _,⟨_,Heap.get?_push_size _ rfl,rfl,rfl⟩,λb hb=>?_,q⟩;have e:b=s1.heap.objs.size:=by simpa using hb
 subst e;exact I1.kz (yF _) (I1.zZ.fresh (yF _))
theorem A8{z6:List (Addr×Obj)}{σ:St}{H:Hp}{s:Shared}{R:It->Hp->Prop}{E:Value->Shared->Prop}{lo hi:Int}{t u v:Tok}{tk:Nat}(I:zC X z6 σ H s)(h1 : -(2 ^ 62)<=lo)(h2:lo<2 ^ 62)(h3 : -(2 ^ 62)<=hi)(h4:hi<2 ^ 62)
  (q:R (VJ lo (hi-lo).toNat) H):wpAny (model X.prog X.w) X.A (pyIter (.ref s.heap.objs.size)) (QP X z6 σ tg R) E { s with heap:=s.heap.push { cls:=.type "range",data:=.fields #[.int lo t,.int hi u,.int 1 v] },toks:=tk }:=by
 refine wpAny_pyIter_range (IsRange.new ..) (small_one h1 h2 h3 h4) ?_;have I1:zC X z6 σ H { s with heap:=s.heap.push { cls:=.type "range",data:=.fields #[.int lo t,.int hi u,.int 1 v] },toks:=tk }:=I.kept λb o e=>Heap.get?_push_of_some _ e
 refine⟨(s.heap.push { cls:=.type "range",data:=.fields #[.int lo t,.int hi u,.int 1 v] }).objs.size,[(s.heap.push { cls:=.type "range",data:=.fields #[.int lo t,.int hi u,.int 1 v] }).objs.size],_,_,H,rfl,
  I1.kept (t':=tk) λb o e=>Heap.get?_push_of_some _ e,dE _ lo (hi-lo).toNat,?_,λb hb=>?_,q⟩
 ·have e1:lo+((0:Nat):Int)*1=lo:=by simp
  have e2:(((hi-lo).toNat:Nat):Int)-((0:Nat):Int)=Builtin.Range.rangeSize lo hi 1:=by rw[rangeSize_one]; split<;>omega
  show IsRangeIter _ _ (lo+((0:Nat):Int)*1) ((((hi-lo).toNat:Nat):Int)-((0:Nat):Int)) 1;rw[e1,e2];exact Heap.get?_push_size _ rfl
 ·have e:b=(s.heap.push { cls:=.type "range",data:=.fields #[.int lo t,.int hi u,.int 1 v] }).objs.size:=by simpa using hb
  subst e;exact I1.kz (yF _) (I1.zZ.fresh (yF _))
def KK(ta:TA):TI:=λσ H R=>ta σ H λvs H1=>∃j:Int,vs=[.int j] /\ -(2 ^ 62)<=j/\j<2 ^ 62/\R (VJ 0 j.toNat) H1
theorem SL{a:Expr}{ta:TA}{p pos:Pos}(hg:Gl X "range")(hm:X.mg "range" = none)(ha:PA X [a] ta)(hs:starEach [a] X.env=[(false,eval a X.env)]:=by rfl):PI X tg (.Call (.Name "range" p) [a] [] pos) (KK ta):=by
 intro z6 s σ H R I h;refine Call_ (Zu I hg hm boot_range (Tv (zh (ha pos z6 s σ H _ I h) λus s1 ⟨vs,H1,I1,r1,q1⟩=>?_) hs rfl));obtain⟨j,e,q1,q2,q⟩:=q1;subst e;cases r1 with
 |cons r rr=>
  cases rr;obtain⟨t,rfl⟩:=r;exact call_range_1 (A8 I1 (by omega) (by omega) q1 q2 (by simpa using q))
def bu(wi:TI)(g:TG)(tb:TS):TS:=λD σ H=>wi σ H λJ H1=>∃W:Nat->Nat->St->Hp->Prop,(∃m,W 0 m σ H1)/\∀i m σ H,W i m σ H->
 (J.stop i H/\D.nx σ H)\/(J.go i H/\∃N:St->Hp->Prop,(∀σ' H',N σ' H'->∃m',m'<m/\W (i+1) m' σ' H')/\∀x H',J.u3 i H x H'->g x σ H' λσ2 H2=>tb { D with nx:=N,ct:=N,bk:=D.nx } σ2 H2)
def XV(fp:List Addr)(h:Heap):List (Addr×Obj):=fp.filterMap λb=>(h.get? b).map λo=>(b,o)
theorem Uw{fp:List Addr}{h:Heap}{b:Addr}{o:Obj}(hb:b∈fp)(e:h.get? b=some o):(b,o)∈XV fp h:=EF.mpr ⟨b,hb,by rw[e]; rfl⟩
theorem Np{fp:List Addr}{h:Heap}{p:Addr×Obj}(hp:p∈XV fp h):p.1∈fp/\h.get? p.1=some p.2:=by
 obtain⟨b,hb,e⟩:=EF.mp hp;cases q:h.get? b with
 |none=>rw[q]at e; cases e
 |some o=>
  rw[q]at e;have e':(b,o)=p:=ue e;subst e';exact⟨hb,q⟩
theorem zC.pinned{z6:List (Addr×Obj)}{σ:St}{H:Hp}{s:Shared}{fp:List Addr}(I:zC X z6 σ H s)(hf:∀b∈fp,tL X z6 H b)(ho:∀b∈fp,∃o,s.heap.get? b=some o/\∀v,o.data≠.cell v):zC X (z6++XV fp s.heap) σ H s:=
 I.Yh λp hp=>(j1.mp hp).elim (λz=>I.pin p (uc _ z)) λz=>by
  obtain⟨hb,e⟩:=Np z;obtain⟨f0,f1,f2,_⟩:=hf p.1 hb;obtain⟨o,e',d⟩:=ho p.1 hb;rw[e]at e'; cases e';exact⟨e,f0,f1,f2,d⟩
theorem zC.Q8{z6 pl:List (Addr×Obj)}{σ:St}{H:Hp}{s:Shared}(I:zC X (z6++pl) σ H s):zC X z6 σ H s:=I.Yh λp hp=>I.pin p (uc _ (O_ _ hp))
theorem Dy{iter:Expr}{body:List Stmt}{wi:TI}{g:TG}{tb:TS}{pos:Pos}(hp:PassesOwn (model X.prog X.w) X.A X.env X.xe)(hc:X.calm=true)(hi:PI X tg iter wi)(hg:PG X tg g)(hb:vR X body tb)
  (hs:∀x,foldedSetIterable iter X.env x=pure x:=by intro _; rfl):PS X (.For tg iter body [] pos) (bu wi g tb):=by
 intro z6 s σ H D I h;refine wpAny_For (zh (hi z6 s σ H _ I h) λv s1 h1=>zh h1 λitv s2 h2=>?_) hs;obtain⟨it,fp,tn,J,H2,e,I2,T,st2,f2,W,⟨m0,w0⟩,turn⟩:=h2;subst e;have stat:∀{H':Hp},(∀b∈fp,H' b=none)->∀b∈fp,tL X z6 H' b:=λhn b hb=>⟨hn b hb,(f2 b hb).2⟩
 refine codeAny_forLoop_any (λn s'=>∃i σ' H',zC X z6 σ' H' s'/\tn i s'.heap/\(∀b∈fp,H' b=none)/\W i n σ' H') ?_ m0 ⟨0,σ,H2,I2,st2,λb hb=>(f2 b hb).1,w0⟩;rintro n s3 ⟨i,σ3,H3,I3,st3,fr3,w3⟩;rcases turn i n σ3 H3 w3 with⟨stop,qn⟩|⟨go,N,hN,step⟩
 ·refine V4 hp (zh (T.done X rfl rfl rfl hc i z6 s3 σ3 H3 X.xe I3 (stat fr3) st3 stop) λr s4 ⟨hr,I4⟩=>?_);subst hr;exact LG ⟨σ3,H3,I4,qn⟩
 ·refine V4 hp (zh (T.item X rfl rfl rfl hc i z6 s3 σ3 H3 X.xe I3 (stat fr3) st3 go) λr s4 ⟨u,hr,h4⟩=>?_);subst hr;refine V4 hp (zh h4 λ_ s5 ⟨x,H5,I5,r5,y5,st5,fr5⟩=>?_);have I5':=I5.pinned (stat fr5) (T.obj _ _ st5);refine V4 hp (zh (hg _ s5 σ3 H5 x u _ I5' r5 (step x H5 y5)) λ_ s6 ⟨σ6,H6,I6,q6⟩=>?_);refine V4 hp (zh (hb _ s6 σ6 H6 _ I6 q6) λf s7 q7=>?_)
  have again:∀{σ7:St}{H7:Hp},zC X (z6++XV fp s5.heap) σ7 H7 s7->N σ7 H7->∃m,m<n/\∃i σ' H',zC X z6 σ' H' s7/\tn i s7.heap/\(∀b∈fp,H' b=none)/\W i m σ' H':=λ{σ7 H7} I7 n7=>by
   obtain⟨m',hm,w7⟩:=hN σ7 H7 n7;refine⟨m',hm,i+1,σ7,H7,I7.Q8,T.keep _ _ _ st5 λb hb o e=>(I7.pin (b,o) (uc _ (uc _ (Uw hb e)))).1,λb hb=>?_,w7⟩;obtain⟨o,e,d⟩:=T.obj _ _ st5 b hb;exact(I7.pin (b,o) (uc _ (uc _ (Uw hb e)))).2.1
  cases f with
  |next=>obtain⟨σ7,H7,I7,n7⟩:=q7; exact again I7 n7
  |cont=>obtain⟨σ7,H7,I7,n7⟩:=q7; exact again I7 n7
  |brk=>obtain⟨σ7,H7,I7,q7⟩:=q7; exact⟨σ7,H7,I7.Q8,q7⟩
  |ret v=>obtain⟨x7,σ7,H7,I7,r7,q7⟩:=q7; exact⟨x7,σ7,H7,I7.Q8,r7,q7⟩
end
abbrev R2:=V->V->Hp->VK->Prop
def yB(X:Cx)(f:Value->Value->Sem Value)(r:R2):Prop:=
 ∀(z6:List (Addr×Obj)) (s:Shared) (σ:St) (H:Hp) (x y:V) (v u:Value) (Q:VK),zC X z6 σ H s->zc x v->zc y u->r x y H Q->
  wpAny (model X.prog X.w) X.A (f v u) (EP X z6 σ Q) X.xe s
def Yy(X:Cx)(f:Value->Sem Value)(r:V->Hp->VK->Prop):Prop:=
 ∀(z6:List (Addr×Obj)) (s:Shared) (σ:St) (H:Hp) (x:V) (v:Value) (Q:VK),zC X z6 σ H s->zc x v->r x H Q->
  wpAny (model X.prog X.w) X.A (f v) (EP X z6 σ Q) X.xe s
def xU(X:Cx)(f:Value)(r:List V->Hp->VK->Prop):Prop:=
 ∀(z6:List (Addr×Obj)) (s:Shared) (σ:St) (H:Hp) (xs:List V) (us:List Value) (Q:VK),zC X z6 σ H s->ze xs us->r xs H Q->
  wpAny (model X.prog X.w) X.A (call f us) (EP X z6 σ Q) X.xe s
def TQ(r:R2)(ta tb:TE):TE:=λσ H Q=>ta σ H λx H1=>tb σ H1 λy H2=>r x y H2 Q
def cM(r:V->Hp->VK->Prop)(ta:TE):TE:=λσ H Q=>ta σ H λx H1=>r x H1 Q
def rI(C:Int->Int->Prop)(g:Int->Int->V):R2:=λx y H Q=>∃i j,x=.int i/\y=.int j/\C i j/\Q (g i j) H
def uE(g:Int->Int->V):R2:=λx y H Q=>∃i j,x=.int i/\y=.int j/\Q (g i j) H
def rU(g:Int->V):V->Hp->VK->Prop:=λx H Q=>∃i,x=.int i/\Q (g i) H
section
variable{X:Cx}{a b c:Expr}{ta tb tc:TE}{pos:Pos}
theorem Ql(ha:PE X a ta)(hb:PE X b tb){z6:List (Addr×Obj)}{s:Shared}{σ:St}{H:Hp}{R:V->V->Hp->Prop}(I:zC X z6 σ H s)
  (h:ta σ H λx H1=>tb σ H1 λy H2=>R x y H2){Q:Value->Shared->Prop}{f:Value->Value->Sem Value}
  (hf:∀v u s2 x y H2,zC X z6 σ H2 s2->zc x v->zc y u->R x y H2->wpAny (model X.prog X.w) X.A (f v u) Q X.xe s2) :
  wpAny (model X.prog X.w) X.A (eval a X.env) (λv s₁=>wpAny (model X.prog X.w) X.A (eval b X.env) (λu s₂=>wpAny (model X.prog X.w) X.A (f v u) Q X.xe s₂) X.xe s₁) X.xe s:=by
 refine zh (ha z6 s σ H _ I h) λv s1 ⟨x,H1,I1,r1,q1⟩=>?_
 refine zh (hb z6 s1 σ H1 _ I1 q1) λu s2 ⟨y,H2,I2,r2,q2⟩=>?_
 exact hf v u s2 x y H2 I2 r1 r2 q2
theorem Ds{op:Operator}{r:R2}(ho:yB X (binaryOp op) r)(ha:PE X a ta)(hb:PE X b tb):PE X (.BinOp a op b pos) (TQ r ta tb):=by
 intro z6 s σ H Q I h;exact wpAny_BinOp (Ql ha hb I h λv u s2 x y H2 I2 rx ry q=>ho z6 s2 σ H2 x y v u Q I2 rx ry q)
theorem S7{op:UnaryOp}{r:V->Hp->VK->Prop}(ho:Yy X (unaryOp op) r)(ha:PE X a ta):PE X (.UnaryOp op a pos) (cM r ta):=by
 intro z6 s σ H Q I h;exact UnaryOp_ (zh (ha z6 s σ H _ I h) λv s1 ⟨x,H1,I1,r1,q1⟩=>ho z6 s1 σ H1 x v Q I1 r1 q1)
theorem Y3{f:Value->Value->Sem Value}{C:Int->Int->Prop}{g:Int->Int->Int}
  (rule:∀(i j:Int)(t u:Tok)(s:Shared)(Q:Value->Shared->Prop)(E:Value->Shared->Prop),C i j->Q (.int (g i j) s.toks) { s with toks:=s.toks+1 }->wpAny (model X.prog X.w) X.A (f (.int i t) (.int j u)) Q E s) :
  yB X f (rI C λi j=>.int (g i j)):=by
 intro z6 s σ H x y v u Q I rx ry h;obtain⟨i,j,rfl,rfl,hc,q⟩:=h;obtain⟨t,rfl⟩:=rx;obtain⟨t',rfl⟩:=ry;exact rule i j t t' s _ _ hc ⟨.int (g i j),H,I.tok _,⟨_,rfl⟩,q⟩
theorem XR{f:Value->Value->Sem Value}{g:Int->Int->Int}
  (rule:∀(i j:Int)(t u:Tok)(s:Shared)(Q:Value->Shared->Prop)(E:Value->Shared->Prop),Q (.int (g i j) s.toks) { s with toks:=s.toks+1 }->wpAny (model X.prog X.w) X.A (f (.int i t) (.int j u)) Q E s) :
  yB X f (uE λi j=>.int (g i j)):=by
 intro z6 s σ H x y v u Q I rx ry h;obtain⟨i,j,rfl,rfl,q⟩:=h;obtain⟨t,rfl⟩:=rx;obtain⟨t',rfl⟩:=ry;exact rule i j t t' s _ _ ⟨.int (g i j),H,I.tok _,⟨_,rfl⟩,q⟩
theorem Uz{f:Value->Value->Sem Value}{g:Int->Int->Bool}
  (rule:∀(i j:Int)(t u:Tok)(s:Shared)(Q:Value->Shared->Prop)(E:Value->Shared->Prop),Q (.bool (g i j)) s->wpAny (model X.prog X.w) X.A (f (.int i t) (.int j u)) Q E s) :
  yB X f (uE λi j=>.bl (g i j)):=by
 intro z6 s σ H x y v u Q I rx ry h;obtain⟨i,j,rfl,rfl,q⟩:=h;obtain⟨t,rfl⟩:=rx;obtain⟨t',rfl⟩:=ry;exact rule i j t t' s _ _ ⟨.bl (g i j),H,I,rfl,q⟩
def Q9(i j:Int):Prop:=0<=j/\j<=1000000/\i.natAbs<2 ^ 64
def Yk(i j:Int):Prop:=(-(2 ^ 64)<i/\i<2 ^ 64)\/(-(2 ^ 64)<j/\j<2 ^ 64)
theorem Yk.ok{i j:Int}(h:Yk i j):IntMulOk i j:=by
 rcases h with⟨h1,h2⟩|⟨h1,h2⟩
 ·exact .of_left (intBits_le_64 h1 h2)
 ·exact .of_right (intBits_le_64 h1 h2)
theorem dI(k:Nat):(0:Int)<=2 ^ k:=by
 rw[two_pow_cast];exact kX _
theorem RG:yB X (binaryOp .Add) (uE λi j=>.int (i+j)):=XR λ_ _ _ _ _ _ _ q=>add_int q
theorem Y5:yB X (binaryOp .Sub) (uE λi j=>.int (i-j)):=XR λ_ _ _ _ _ _ _ q=>sub_int q
theorem uY:yB X (binaryOp .Mult) (rI Yk λi j=>.int (i*j)):=Y3 λ_ _ _ _ _ _ _ hc q=>mul_int q hc.ok
theorem xY:yB X (binaryOp .Mod) (rI (λ_ j=>0<j) λi j=>.int (i%j)):=Y3 λi j _ _ _ _ _ hc q=>by
 have h1:(0:Int)<j:=hc;exact mod_int' (by omega) (by rw[Int.fmod_eq_emod_of_nonneg i (by omega)]; exact q)
theorem kG:yB X (binaryOp .LShift) (rI Q9 λi j=>.int (i*2 ^ j.toNat)):=Y3 λ_ _ _ _ _ _ _ hc q=>lshift_int_small hc.1 hc.2.1 hc.2.2 q
theorem Dh:yB X (binaryOp .RShift) (rI (λ_ j=>0<=j) λi j=>.int (i/2 ^ j.toNat)):=Y3 λi j _ _ _ _ _ hc q=>
 rshift_int hc (by rw[E5 i (dI _)]; exact q)
theorem Ih:yB X (binaryOp .BitAnd) (uE λi j=>.int (Builtin.bitAnd i j)):=XR λ_ _ _ _ _ _ _ q=>and_int q
theorem Dg:yB X (binaryOp .BitOr) (uE λi j=>.int (Builtin.bitOr i j)):=XR λ_ _ _ _ _ _ _ q=>or_int q
theorem Re:yB X (binaryOp .BitXor) (uE λi j=>.int (Builtin.bitXor i j)):=XR λ_ _ _ _ _ _ _ q=>xor_int q
theorem Cc{f:Value->Sem Value}{g:Int->Int}
  (rule:∀(i:Int)(t:Tok)(s:Shared)(Q:Value->Shared->Prop)(E:Value->Shared->Prop),Q (.int (g i) s.toks) { s with toks:=s.toks+1 }->wpAny (model X.prog X.w) X.A (f (.int i t)) Q E s) :
  Yy X f (rU λi=>.int (g i)):=by
 intro z6 s σ H x v Q I rx h;obtain⟨i,rfl,q⟩:=h;obtain⟨t,rfl⟩:=rx;exact rule i t s _ _ ⟨.int (g i),H,I.tok _,⟨_,rfl⟩,q⟩
theorem df:Yy X (unaryOp .USub) (rU λi=>.int (-i)):=Cc λ_ _ _ _ _ q=>neg_int q
theorem de:Yy X (unaryOp .Invert) (rU λi=>.int (Builtin.bitNot i)):=Cc λ_ _ _ _ _ q=>invert_int q
theorem RH:yB X (binaryOp .Add) (λx y H Q=>∃i k,x=.int i/\y=.bl k/\Q (.int (i+b2i k)) H):=by
 intro z6 s σ H x y v u Q I rx ry h;obtain⟨i,k,rfl,rfl,q⟩:=h;obtain⟨t,rfl⟩:=rx;cases ry;exact add_int_bool ⟨.int (i+b2i k),H,I.tok _,⟨_,rfl⟩,q⟩
end
def OB:V->V->Bool
 |.zG,.zG=>true|.zG,.int _=>true|.int _,.zG=>true|.zG,.bl _=>true|.bl _,.zG=>true|.zG,.str _=>true|.str _,.zG=>true
 |.int _,.int _=>true|.bl _,.bl _=>true|.str _,.str _=>true|.byt _,.byt _=>true
 |.int _,.str _=>true|.str _,.int _=>true|.bl _,.str _=>true|.str _,.bl _=>true
 |_,_=>false
def A0:R2:=λx y H Q=>OB x y=true/\Q (.bl (decide (x=y))) H
def A3:R2:=λx y H Q=>OB x y=true/\Q (.bl (!decide (x=y))) H
theorem J2{i j:Int}:decide (V.int i=V.int j)=(i==j):=by
 rw[ju];simp
theorem J1{i j:Bool}:decide (V.bl i=V.bl j)=(i==j):=by
 rw[ju];simp
theorem J3{i j:Str}:decide (V.str i=V.str j)=(i==j):=by
 rw[ju];simp
theorem Mq{i j:Array UInt8}:decide (V.byt i=V.byt j)=(i.toList==j.toList):=by
 rw[ju];cases i;cases j;simp
section
variable{X:Cx}{a b c:Expr}{ta tb tc:TE}{pos:Pos}
theorem xB{z6:List (Addr×Obj)}{σ:St}{H:Hp}{s:Shared}{Q:VK}{k k':Bool}(I:zC X z6 σ H s)(q:Q (.bl k) H)(e:k=k'):EP X z6 σ Q (.bool k') s:=by
 subst e;exact⟨.bl k,H,I,rfl,q⟩
theorem RM:yB X (compareOp .Eq) A0:=by
 intro z6 s σ H x y v u Q I rx ry h;obtain⟨hs,q⟩:=h;cases x with
 |zG=>
  cases rx;cases y with
  |zG=>cases ry; exact PySem.EqNone.eq_none_none (xB I q (by simp))
  |bl j=>cases ry; exact PySem.EqNone.eq_none_bool (xB I q (by simp))
  |int j=>obtain⟨t',rfl⟩:=ry; exact PySem.EqNone.eq_none_int (xB I q (by simp))
  |str j=>obtain⟨t',rfl⟩:=ry; exact PySem.EqNone.eq_none_str (xB I q (by simp))
  |_=>exact absurd (show false=true from hs) xT
 |bl i=>
  cases rx;cases y with
  |zG=>cases ry; exact PySem.EqNone.eq_bool_none (xB I q (by simp))
  |bl j=>cases ry; exact eq_bool (xB I q J1)
  |str j=>obtain⟨t',rfl⟩:=ry; exact PySem.EqMixed.eq_bool_str (xB I q (by simp))
  |_=>exact absurd (show false=true from hs) xT
 |int i=>
  obtain⟨t,rfl⟩:=rx;cases y with
  |zG=>cases ry; exact PySem.EqNone.eq_int_none (xB I q (by simp))
  |int j=>obtain⟨t',rfl⟩:=ry; exact eq_int (xB I q J2)
  |str j=>obtain⟨t',rfl⟩:=ry; exact PySem.EqMixed.eq_int_str (xB I q (by simp))
  |_=>exact absurd (show false=true from hs) xT
 |str i=>
  obtain⟨t,rfl⟩:=rx;cases y with
  |zG=>cases ry; exact PySem.EqNone.eq_str_none (xB I q (by simp))
  |bl j=>cases ry; exact PySem.EqMixed.eq_str_bool (xB I q (by simp))
  |int j=>obtain⟨t',rfl⟩:=ry; exact PySem.EqMixed.eq_str_int (xB I q (by simp))
  |str j=>obtain⟨t',rfl⟩:=ry; exact eq_str (xB I q J3)
  |_=>exact absurd (show false=true from hs) xT
 |byt i=>
  obtain⟨t,rfl⟩:=rx;cases y with
  |byt j=>obtain⟨t',rfl⟩:=ry; exact W.eq_bytes (xB I q Mq)
  |_=>exact absurd (show false=true from hs) xT
 |_=>cases y<;>exact absurd (show false=true from hs) xT
theorem RV:yB X (compareOp .NotEq) A3:=by
 intro z6 s σ H x y v u Q I rx ry h;obtain⟨hs,q⟩:=h;cases x with
 |zG=>
  cases rx;cases y with
  |zG=>cases ry; exact PySem.EqNone.ne_none_none (xB I q (by simp))
  |bl j=>cases ry; exact PySem.EqNone.ne_none_bool (xB I q (by simp))
  |int j=>obtain⟨t',rfl⟩:=ry; exact PySem.EqNone.ne_none_int (xB I q (by simp))
  |str j=>obtain⟨t',rfl⟩:=ry; exact PySem.EqNone.ne_none_str (xB I q (by simp))
  |_=>exact absurd (show false=true from hs) xT
 |bl i=>
  cases rx;cases y with
  |zG=>cases ry; exact PySem.EqNone.ne_bool_none (xB I q (by simp))
  |bl j=>cases ry; exact ne_bool (xB I q (congrArg not J1))
  |str j=>obtain⟨t',rfl⟩:=ry; exact PySem.EqMixed.ne_bool_str (xB I q (by simp))
  |_=>exact absurd (show false=true from hs) xT
 |int i=>
  obtain⟨t,rfl⟩:=rx;cases y with
  |zG=>cases ry; exact PySem.EqNone.ne_int_none (xB I q (by simp))
  |int j=>obtain⟨t',rfl⟩:=ry; exact ne_int (xB I q (congrArg not J2))
  |str j=>obtain⟨t',rfl⟩:=ry; exact PySem.EqMixed.ne_int_str (xB I q (by simp))
  |_=>exact absurd (show false=true from hs) xT
 |str i=>
  obtain⟨t,rfl⟩:=rx;cases y with
  |zG=>cases ry; exact PySem.EqNone.ne_str_none (xB I q (by simp))
  |bl j=>cases ry; exact PySem.EqMixed.ne_str_bool (xB I q (by simp))
  |int j=>obtain⟨t',rfl⟩:=ry; exact PySem.EqMixed.ne_str_int (xB I q (by simp))
  |str j=>obtain⟨t',rfl⟩:=ry; exact ne_str (xB I q (congrArg not J3))
  |_=>exact absurd (show false=true from hs) xT
 |byt i=>
  obtain⟨t,rfl⟩:=rx;cases y with
  |byt j=>obtain⟨t',rfl⟩:=ry; exact W.ne_bytes (xB I q (congrArg not Mq))
  |_=>exact absurd (show false=true from hs) xT
 |_=>cases y<;>exact absurd (show false=true from hs) xT
theorem Ij:yB X (compareOp .Lt) (uE λi j=>.bl (decide (i<j))):=Uz λ_ _ _ _ _ _ _ q=>lt_int q
theorem RU:yB X (compareOp .LtE) (uE λi j=>.bl (decide (i<=j))):=Uz λ_ _ _ _ _ _ _ q=>le_int q
theorem RO:yB X (compareOp .Gt) (uE λi j=>.bl (decide (j<i))):=Uz λ_ _ _ _ _ _ _ q=>gt_int q
theorem RN:yB X (compareOp .GtE) (uE λi j=>.bl (decide (j<=i))):=Uz λ_ _ _ _ _ _ _ q=>ge_int q
theorem RS:yB X (compareOp .In) (λx y H Q=>∃i j,x=.str i/\y=.str j/\Q (.bl (!(Builtin.Str.occurrences j i 0 j.length 1).isEmpty)) H):=by
 intro z6 s σ H x y v u Q I rx ry h;obtain⟨i,j,rfl,rfl,q⟩:=h;obtain⟨t,rfl⟩:=rx;obtain⟨t',rfl⟩:=ry;exact in_str (xB I q rfl)
theorem De:yB X (compareOp .Is) (λx y H Q=>y=.zG/\Q (.bl (decide (x=.zG))) H):=by
 intro z6 s σ H x y v u Q I rx ry h;obtain⟨rfl,q⟩:=h;cases ry;refine is_none_gen (xB I q ?_)
 cases x<;>first
  |(cases rx; rfl)
  |(obtain⟨t,rfl⟩:=rx; rfl)
theorem Rb:yB X (compareOp .IsNot) (λx y H Q=>y=.zG/\Q (.bl (!decide (x=.zG))) H):=by
 intro z6 s σ H x y v u Q I rx ry h;obtain⟨rfl,q⟩:=h;cases ry;refine isnot_none_gen (xB I q ?_)
 cases x<;>first
  |(cases rx; rfl)
  |(obtain⟨t,rfl⟩:=rx; rfl)
theorem yB.or{f:Value->Value->Sem Value}{r r':R2}(h:yB X f r)(h':yB X f r'):yB X f (λx y H Q=>r x y H Q\/r' x y H Q):=by
 intro z6 s σ H x y v u Q I rx ry q;rcases q with q|q
 ·exact h z6 s σ H x y v u Q I rx ry q
 ·exact h' z6 s σ H x y v u Q I rx ry q
theorem yW(b:Expr){op:CmpOp}(h:op≠.In:=by decide)(h2:op≠.NotIn:=by decide):behindInMarks op b=false:=by
 have e1:(op==CmpOp.In)=false:=by cases op<;>first|rfl|exact absurd rfl h
 have e2:(op==CmpOp.NotIn)=false:=by cases op<;>first|rfl|exact absurd rfl h2
 cases b<;>simp[behindInMarks,e1,e2]
theorem Dn{op:CmpOp}{r:R2}(ho:yB X (compareOp op) r)(ha:PE X a ta)(hb:PE X b tb)(hm:behindInMarks op b=false):PE X (.Compare a [op] [b] pos) (TQ r ta tb):=by
 intro z6 s σ H Q I h;exact wpAny_Compare1 (Ql ha hb I h λv u s2 x y H2 I2 rx ry q=>ho z6 s2 σ H2 x y v u Q I2 rx ry q) hm
def cK(t:TE):TT:=λσ H Q=>t σ H λx H'=>∃k,x=.bl k/\Q k H'
theorem Ir{op:CmpOp}{r:R2}(ho:yB X (compareOp op) r)(ha:PE X a ta)(hb:PE X b tb)(hm:behindInMarks op b=false):PT X (.Compare a [op] [b] pos) (cK (TQ r ta tb)):=by
 intro z6 s σ H Q I h
 refine wpAny_isTrue_Compare1 (zh (ha z6 s σ H _ I h) λv s1 ⟨x,H1,I1,r1,q1⟩=>zh (hb z6 s1 σ H1 _ I1 q1) λu s2 ⟨y,H2,I2,r2,q2⟩=>
  zh (ho z6 s2 σ H2 x y v u _ I2 r1 r2 q2) λc s3 ⟨z,H3,I3,r3,k,e,q3⟩=>?_) hm
 subst e;cases r3;exact V6 ⟨H3,I3,q3⟩
theorem Zv:(sizeLine:Nat)<2 ^ 63:=by rw[xi]; decide
theorem RI:yB X (binaryOp .Add) (λx y H Q=>∃i j,x=.str i/\y=.str j/\i.length+j.length<=sizeLine/\Q (.str (i++j)) H):=by
 intro z6 s σ H x y v u Q I rx ry h;obtain⟨i,j,rfl,rfl,hz,q⟩:=h;obtain⟨t,rfl⟩:=rx;obtain⟨t',rfl⟩:=ry;exact add_str (λt' tk=>⟨.str (i++j),H,I.tok _,⟨_,rfl⟩,q⟩) hz
theorem vg{x:V}{us:List Value}(r:ze [x] us):∃u,us=[u]/\zc x u:=by
 cases r with
 |cons r1 r2=>cases r2; exact⟨_,rfl,r1⟩
theorem TZ{x y:V}{us:List Value}(r:ze [x,y] us):∃u w',us=[u,w']/\zc x u/\zc y w':=by
 cases r with
 |cons r1 r2=>
  cases r2 with
  |cons r3 r4=>cases r4; exact⟨_,_,rfl,r1,r3⟩
theorem GV(hc:X.calm=true):xU X (.builtin "min") (λxs H Q=>∃i j,xs=[.int i,.int j]/\Q (.int (if j<i then j else i)) H):=by
 intro z6 s σ H xs us Q I r h;obtain⟨i,j,rfl,q⟩:=h;obtain⟨u,w',rfl,⟨t,rfl⟩,⟨t',rfl⟩⟩:=TZ r;refine min_two_ints (I.ok.hd hc) λh' tk k=>⟨_,H,I.kept k,?_,q⟩
 by_cases hj:j<i
 ·rw[zM hj,zM hj]; exact⟨_,rfl⟩
 ·rw[zO hj,zO hj]; exact⟨_,rfl⟩
theorem GO:xU X (.type "int") (λxs H Q=>(∃i,xs=[.int i]/\Q (.int i) H)\/∃k,xs=[.bl k]/\Q (.int (if k then 1 else 0)) H):=by
 intro z6 s σ H xs us Q I r h;rcases h with⟨i,rfl,q⟩|⟨k,rfl,q⟩
 ·obtain⟨u,rfl,t,rfl⟩:=vg r;exact call_int_int ⟨.int i,H,I,⟨_,rfl⟩,q⟩
 ·obtain⟨u,rfl,r1⟩:=vg r;cases r1;exact call_int_bool ⟨.int (if k then 1 else 0),H,I.tok _,⟨_,rfl⟩,q⟩
end
structure gZ(h:Heap)(x dx C:Addr)(mA:Str->Option Value):Prop where
 obj:h.get? x=some (W.instObj C dx)
 ns:h.Ns1 dx mA
 ne:dx≠x
theorem N7{h:Heap}{dx:Addr}{mA:Str->Option Value}(n:h.Ns1 dx mA):∃od,h.get? dx=some od/\∀name,W.lookIn name od=some (mA name):=by
 obtain⟨o,es,ep,ho,hd,hk,_,hm⟩:=n;refine⟨o,ho,λname=>?_⟩;have e:=hm name;unfold nsFind findBy at e;rw[<-Array.find?_toList]at e;unfold W.lookIn;rw[hd];dsimp only
 split
 ·rename_i y q;rw[q]at e;exact congrArg some e
 ·rename_i q;rw[q]at e
  have a:es.toList.any (·.refKey)=false:=by
   rw[Ov];intro y hy;obtain⟨z,t,hkey⟩:=hk y (Array.mem_toList_iff.mp hy);simp[DictEntry.refKey,hkey]
  have a':¬ es.toList.any (·.refKey)=true:=by rw[a]; exact xT
  rw[zO a'];exact congrArg some e
theorem gZ.look{h:Heap}{x dx C:Addr}{mA:Str->Option Value}(I:gZ h x dx C mA):∃od,W.InstAt h x (W.instObj C dx) C (some od)/\∀name,W.lookIn name od=some (mA name):=
 let ⟨od,ho,hl⟩:=N7 I.ns
 ⟨od,⟨I.obj,rfl,rfl,ho⟩,hl⟩
section
variable{prog:Program}{w:World}{A:Around}{E:Value->Shared->Prop}{s:Shared}{K:W.Frag}{x dx C f:Addr}{mA:Str->Option Value}{name:Str}{v:Value}
theorem HC{expr:Bool}{Q:Value->Shared->Prop}(X:K.In s.heap)(I:gZ s.heap x dx C mA)(hg:W.plainGet K C name=true)(hh:W.hasDictIn K C=true)
  (ha:W.findIn K (.ref C) name=some none)(hv:mA name=some v)(hv':W.handedIn v=true)(h:Q v { s with toks:=s.toks+1 }) :
  wpAny (model prog w) A (getAttr (.ref x) name expr) Q E s:=by
 obtain⟨od,J,hl⟩:=I.look;exact W.get_value X J (W.plainGet_of hg).1 (W.findObj_own hh ha rfl (by rw[hl,hv])) hv' h
theorem HD{pl:Sem Bool}{Q:Value×List Value->Shared->Prop}(X:K.In s.heap)(I:gZ s.heap x dx C mA)(hg:W.plainGet K C name=true)
  (hf:W.findIn K (.ref C) name=some (some (.ref f)))(ht:W.isFn K (.ref f)=true)(hv:mA name=none)(h:Q (.ref f,[.ref x]) s) :
  wpAny (model prog w) A (getMethod (.ref x) name pl) Q E s:=by
 obtain⟨od,J,hl⟩:=I.look;exact W.method_fn X J (W.plainGet_of hg).1 (W.plainGet_of hg).2 hf (kl.mp ht) (by show(W.lookIn name od).map (·.isSome)=some false; rw[hl,hv]; rfl) h
theorem bD{ns:List Str}{Q:Unit->Shared->Prop}(X:K.In s.heap)(I:gZ s.heap x dx C mA)
  (hs:W.findIn K (.ref C) "__setattr__" = some (some (.builtin "object.__setattr__")))(hp:W.plainOver K C=true)(ht:W.takerIn K C name=some none)(hh:W.hasDictIn K C=true)
  (hw:PySem.Within mA ns)(hsz:ns.length<=sizeLine)
  (h:∀h',gZ h' x dx C (λy=>if y=name then some v else mA y)->Heap.SameBut dx s.heap h'->Q () { s with heap:=h',toks:=s.toks+2 }) :
  wpAny (model prog w) A (setAttr (.ref x) name v) Q E s:=by
 obtain⟨od,J,hl⟩:=I.look;refine W.set_plain X J hs (W.osa_open (s:={ s with toks:=s.toks+1 }) (r:=none) X J hp ht λb=>?_);obtain⟨cd,hc,hd'⟩:=W.any_some hh;have hx:s.heap.get? x=some ⟨.ref C,some dx,.plain,#[]⟩:=I.obj;refine zX (ya (zX (zX (wpAny_loadPart hx (zX (W.Looks.here (s:={ s with toks:=s.toks+1 }) (W.looks_clsIn X hc) ?_))))));rw[hd'];refine ya (a:=some dx) (zX (ya (zX ?_)));refine wpAny_nsSet1 (s:={ s with toks:=s.toks+1 }) I.ns λh' hn2 hs2=>?_
 obtain⟨oD,esD,epD,hoD,hdD,hcD⟩:=hn2.count (PySem.Within.cons name v hw);refine zX (wpAny_lookBehind hoD (by rw[hdD]; exact pastItsLine_dict (vQ hcD (by rw[yP]; omega))) ?_);exact ya (h _ ⟨(hs2.2 _ (j4 I.ne)).trans I.obj,hn2,I.ne⟩ hs2)
theorem NC{R:Result->Shared->Prop}{vs:List Value}{kw:List (Str×Value)}(X:K.In s.heap)(hm:W.makesIn K C=true)
  (hi:W.findIn K (.ref C) "__init__" = some (some (.ref f)))(hf:W.typeIn K (.ref f)=some (.type "function"))
  (h:codeAny (model prog w) (A.under (.builtin "type.__call__" ⟨.ref C::vs,kw⟩)) (.call (.ref f) ⟨.ref (s.heap.objs.size+1)::vs,kw⟩) (W.InitBack (s.heap.objs.size+1) R)
   { s with heap:=(s.heap.push W.emptyDict).push (W.instObj C s.heap.objs.size) }) :
  codeAny (model prog w) A (.call (.ref C) ⟨vs,kw⟩) R s:=by
 obtain⟨hh,g,d,t,os⟩:=s;exact W.make_core (W.makes_of X hm) (W.looks_findIn X hi) (λself=>W.bind_fn X self hf) (.inl rfl) h
end
def putF(f:Str)(v:V):List (Str×V)->List (Str×V)
 | []=>[(f,v)]
 |(g,x)::r=>if g=f then(g,v)::r else(g,x)::putF f v r
theorem Bl(f g:Str)(v:V):∀fs:List (Str×V),(putF f v fs).lookup g=if g=f then some v else fs.lookup g
 | []=>by
  show List.lookup g [(f,v)]=_;by_cases h:g=f
  ·have hb:(g==f)=true:=kl.mpr h;simp only[List.lookup,hb,zM h]
  ·have hb:(g==f)=false:=kj.mpr h;simp only[List.lookup,hb,zO h]
 |(k,x)::r=>by
  have ih:=Bl f g v r;rw[show putF f v ((k,x)::r)=(if k=f then(k,v)::r else(k,x)::putF f v r)from rfl];by_cases hk:k=f
  ·rw[zM hk];by_cases h:g=k
   ·have hb:(g==k)=true:=kl.mpr h;simp only[List.lookup,hb,zM (h.trans hk)]
   ·have hb:(g==k)=false:=kj.mpr h;simp only[List.lookup,hb,zO (λe:g=f=>h (e.trans hk.symm))]
  ·rw[zO hk];by_cases h:g=k
   ·have hb:(g==k)=true:=kl.mpr h;simp only[List.lookup,hb,zO (λe:g=f=>hk (h.symm.trans e))]
   ·have hb:(g==k)=false:=kj.mpr h;simp only[List.lookup,hb];exact ih
theorem IC(f:Str)(v:V):∀fs:List (Str×V),f∈(putF f v fs).map (·.1)/\∀g,g∈fs.map (·.1)->g∈(putF f v fs).map (·.1)
 | []=>⟨by simp[putF],λg h=>by simp at h⟩
 |(k,x)::r=>by
  obtain⟨i1,i2⟩:=IC f v r;rw[show putF f v ((k,x)::r)=(if k=f then(k,v)::r else(k,x)::putF f v r)from rfl];by_cases hk:k=f
  ·rw[zM hk];subst hk;exact⟨by simp,λg h=>by simpa using h⟩
  ·rw[zO hk];refine⟨?_,λg h=>?_⟩
   ·rw[y_];exact xg _ i1
   ·rw[y_]at h ⊢;rcases yl.mp h with e|e
    ·exact yl.mpr (.inl e)
    ·exact xg _ (i2 g e)
theorem Bi(f:Str)(v:V):∀fs:List (Str×V),(putF f v fs).length<=fs.length+1
 | []=>by simp[putF]
 |(k,x)::r=>by
  have ih:=Bi f v r;rw[show putF f v ((k,x)::r)=(if k=f then(k,v)::r else(k,x)::putF f v r)from rfl];by_cases hk:k=f
  ·rw[zM hk,yP,yP]; omega
  ·rw[zO hk,yP,yP]; omega
theorem wl.some_of{v:V}{o:Option Value}(r:wl (some v) o):∃u,o=some u/\zc v u:=by
 cases o with
 |none=>exact(show False from r).elim
 |some u=>exact⟨u,rfl,r⟩
theorem wl.none_of{o:Option Value}(r:wl none o):o=none:=by
 cases o with
 |none=>rfl
 |some u=>exact(show False from r).elim
theorem KC{v:V}{u:Value}(r:zc v u):W.handedIn u=true:=by
 cases v with
 |zG=>cases(show u=Value.none from r); rfl
 |bl b=>cases(show u=Value.bool b from r); rfl
 |int i=>obtain⟨t,e⟩:=(show ∃t,u=Value.int i t from r); cases e; rfl
 |str x=>obtain⟨t,e⟩:=(show ∃t,u=Value.str x t from r); cases e; rfl
 |byt b=>obtain⟨t,e⟩:=(show ∃t,u=Value.bytes b t from r); cases e; rfl
 |j_ b=>obtain⟨t,e⟩:=(show ∃t,u=Value.float b t from r); cases e; rfl
 |ref a=>cases(show u=Value.ref a from r); rfl
 |ty n=>cases(show u=Value.type n from r); rfl
section
variable{P:Program}{w:World}{H H':Hp}{h h':Heap}{a C dx:Addr}{fs fs':List (Str×V)}
theorem Ue(zZ:yt P w H h)(e:H a=some (.ins C dx fs)):∃mA,gZ h a dx C mA/\(∀f,wl (fs.lookup f) (mA f))/\PySem.Within mA (fs.map (·.1))/\fs.length<=1000/\H dx=some (.own a):=by
 obtain⟨d,z,ne,ob,mA,n,r,q⟩:=(show yx P w H h a (.ins C dx fs)from zZ a _ e);exact⟨mA,⟨ob,n,ne⟩,r,q,z,d⟩
end
structure vk(K:W.Frag)(C:Addr):Prop where
 pg:W.plainGet K C Str.empty=true
 hd:W.hasDictIn K C=true
 po:W.plainOver K C=true
 sa:W.findIn K (.ref C) "__setattr__" = some (some (.builtin "object.__setattr__"))
theorem vk.get{K:W.Frag}{C:Addr}(c:vk K C)(f:Str):W.plainGet K C f=true:=c.pg
def jK(K:W.Frag)(C:Addr)(f:Str):Prop:=W.findIn K (.ref C) f=some none
theorem jK.EW{K:W.Frag}{C:Addr}{f:Str}(n:jK K C f):W.takerIn K C f=some none:=by
 unfold W.takerIn;rw[show W.findIn K (.ref C) f=some none from n];rfl
structure VM(K:W.Frag)(C:Addr)(m:Str)(f:Addr):Prop where
 at_:W.findIn K (.ref C) m=some (some (.ref f))
 fn:W.isFn K (.ref f)=true
 kp:W.keepIn K (.ref f)=true
section
variable{X:Cx}{z6:List (Addr×Obj)}{σ:St}{H:Hp}{s:Shared}{a C dx:Addr}{fs:List (Str×V)}{f:Str}{v:V}{A:Around}{E:Value->Shared->Prop}
theorem BC{b:Bool}{Q:Value->Shared->Prop}(I:zC X z6 σ H s)(e:H a=some (.ins C dx fs))(c:vk X.K C)(n:jK X.K C f)(l:fs.lookup f=some v)
  (h:∀u s',zC X z6 σ H s'->zc v u->Q u s'):wpAny (model X.prog X.w) A (getAttr (.ref a) f b) Q E s:=by
 obtain⟨mA,O,r,_,_,_⟩:=Ue I.zZ e;obtain⟨u,hu,ru⟩:=wl.some_of (v:=v) (o:=mA f) (by rw[<-l]; exact r f);exact HC I.xA O (c.get f) c.hd n hu (KC ru) (h u _ (I.tok _) ru)
theorem BD{m:Str}{g:Addr}{pl:Sem Bool}{Q:Value×List Value->Shared->Prop}(I:zC X z6 σ H s)(e:H a=some (.ins C dx fs))(c:vk X.K C)(k:VM X.K C m g)(l:fs.lookup m=none)
  (h:Q (.ref g,[.ref a]) s):wpAny (model X.prog X.w) A (getMethod (.ref a) m pl) Q E s:=by
 obtain⟨mA,O,r,_,_,_⟩:=Ue I.zZ e;have hn:mA m=none:=wl.none_of (by rw[<-l]; exact r m);exact HD I.xA O (c.get m) k.at_ k.fn hn h
theorem CC{y:V}{u:Value}{Q:Unit->Shared->Prop}(I:zC X z6 σ H s)(e:H a=some (.ins C dx fs))(c:vk X.K C)(n:jK X.K C f)(hl:fs.length<1000)(ry:zc y u)
  (h:∀s',zC X z6 σ (zT H a (.ins C dx (putF f y fs))) s'->Q () s'):wpAny (model X.prog X.w) A (setAttr (.ref a) f u) Q E s:=by
 obtain⟨mA,O,r,wi,_,ho⟩:=Ue I.zZ e;have hz:(fs.map (·.1)).length<=sizeLine:=by rw[zm,xi]; omega
 refine bD I.xA O c.sa c.po n.EW c.hd wi hz λh' O' sb=>h _ ?_
 have hd:∃o,h'.get? dx=some o:=let ⟨o,_,_,e',_⟩:=O'.ns; ⟨o,e'⟩;refine I.write (x:=a) (e:=dx) (by rw[e]; exact True.intro) (.inr ho) (λb q hb z=>(sb.2 b hb).trans z) hd ?_;refine⟨by rw[yH O.ne]; exact ho,?_,O.ne,O'.obj,_,O'.ns,λg=>?_,λg hg=>?_⟩
 ·have:=Bi f y fs; omega
 ·show wl ((putF f y fs).lookup g) (if g=f then some u else mA g);rw[Bl];by_cases q:g=f
  ·rw[zM q,zM q]; exact ry
  ·rw[zO q,zO q]; exact r g
 ·by_cases q:g=f
  ·rw[q]; exact(IC f y fs).1
  ·refine(IC f y fs).2 g (wi g λz=>hg ?_);show(if g=f then some u else mA g)=none;rw[zO q]; exact z
theorem zC.made(I:zC X z6 σ H s):zC X z6 σ (zT (zT H s.heap.objs.size (.own (s.heap.objs.size+1))) (s.heap.objs.size+1) (.ins C s.heap.objs.size []))
  { s with heap:=(s.heap.push W.emptyDict).push (W.instObj C s.heap.objs.size) }:=by
 have e1:(s.heap.push W.emptyDict).get? s.heap.objs.size=some W.emptyDict:=Heap.get?_push_size s.heap rfl
 have e2:((s.heap.push W.emptyDict).push (W.instObj C s.heap.objs.size)).get? (s.heap.objs.size+1)=some (W.instObj C s.heap.objs.size):=by
  have:=Heap.get?_push_size (s.heap.push W.emptyDict) (o:=W.instObj C s.heap.objs.size) rfl
  rwa [Heap.size_push]at this
 have e3:(s.heap.push W.emptyDict).Ns s.heap.objs.size (λ_=>none):=⟨W.emptyDict,#[],_,e1,rfl,(λe he=>absurd he (by simp)),λ_=>rfl⟩;have I1:=I.laid (a:=s.heap.objs.size) (o:=.own (s.heap.objs.size+1)) (h':=s.heap.push W.emptyDict) (t':=s.toks) (λb u q=>Heap.get?_push_of_some _ q) (yF _) ⟨_,e1⟩;refine I1.laid (a:=s.heap.objs.size+1) (o:=.ins C s.heap.objs.size []) (t':=s.toks) (λb u q=>Heap.get?_push_of_some _ q) (Tt (Heap.size_push _ _)) ?_;have ne:s.heap.objs.size≠s.heap.objs.size+1:=wB (kf _);refine⟨by rw[yH ne,yi],vy _,ne,e2,λ_=>none,(Heap.Ns1.of_empty e3).at λo q=>Heap.get?_push_of_some _ q,λ_=>True.intro,λy hy=>absurd rfl hy⟩
theorem Ep{prog:Program}{w:World}{env:Env}{e:Expr}{f:Str}{pos:Pos}{s:Shared}{Q:Value->Shared->Prop}(hb:attributeBase e f env (eval e env)=eval e env)
  (h:wpAny (model prog w) A (eval e env) (λo s₁=>wpAny (model prog w) A (getAttr o f true) Q E s₁) E s):wpAny (model prog w) A (eval (.Attribute e f pos) env) Q E s:=
 Attribute_any_ h (by rw[arm_eval_Attribute,hb])
end
def br(K:W.Frag)(ta:TE)(f:Str):TE:=λσ H Q=>ta σ H λx H1=>∃a C dx fs v,x=.ref a/\H1 a=some (.ins C dx fs)/\vk K C/\jK K C f/\fs.lookup f=some v/\Q v H1
def Az(K:W.Frag)(ta tv:TE)(f:Str):TS:=λD σ H=>tv σ H λy H1=>ta σ H1 λx H2=>∃a C dx fs,x=.ref a/\H2 a=some (.ins C dx fs)/\vk K C/\jK K C f/\fs.length<1000/\
 D.nx σ (zT H2 a (.ins C dx (putF f y fs)))
def QH(X:Cx)(op:Operator)(rd:V->V->Hp->VK->Prop):Prop:=
 ∀(z6:List (Addr×Obj)) (s:Shared) (σ:St) (H:Hp) (x y:V) (u v:Value) (Q:VK),zC X z6 σ H s->zc x u->zc y v->rd x y H Q->wpAny (model X.prog X.w) X.A (inplaceOp op u v) (EP X z6 σ Q) X.xe s
def A_(K:W.Frag)(ta tv:TE)(rd:V->V->Hp->VK->Prop)(f:Str):TS:=λD σ H=>ta σ H λx H1=>∃a C dx fs v,x=.ref a/\H1 a=some (.ins C dx fs)/\vk K C/\jK K C f/\fs.lookup f=some v/\
 tv σ H1 λy H2=>rd v y H2 λz H3=>∃dx' fs',H3 a=some (.ins C dx' fs')/\fs'.length<1000/\D.nx σ (zT H3 a (.ins C dx' (putF f z fs')))
section
variable{X:Cx}{o e value:Expr}{f:Str}{pos pos' tpos:Pos}{ta tv:TE}
theorem Do(he:PE X e ta)(hb:attributeBase e f X.env (eval e X.env)=eval e X.env):PE X (.Attribute e f pos) (br X.K ta f):=by
 intro z6 s σ H Q I h;refine Ep hb (zh (he z6 s σ H _ I h) λu s1 ⟨x,H1,I1,rx,a,C,dx,fs,v,ex,ea,c,n,l,q⟩=>?_);subst ex;obtain rfl:u=Value.ref a:=rx;exact BC I1 ea c n l λu' s2 I2 ru=>⟨v,H1,I2,ru,q⟩
theorem Sc(ha:PE X o ta)(hv:PE X value tv)(hs:swapsWith value (some (.Attribute o f pos')) pos.line X.env=pure false):PS X (.Assign [.Attribute o f pos'] value pos) (Az X.K ta tv f):=by
 intro z6 s σ H D I h;refine plainObj_wpAny_Assign_Attribute (zh (hv z6 s σ H _ I h) λu s1 ⟨y,H1,I1,ry,q⟩=>zh (ha z6 s1 σ H1 _ I1 q) λov s2 ⟨x,H2,I2,rx,a,C,dx,fs,ex,ea,c,n,l,q2⟩=>?_) hs;subst ex;obtain rfl:ov=Value.ref a:=rx;exact CC I2 ea c n l ry λs3 I3=>⟨σ,_,I3,q2⟩
theorem Sd{op:Operator}{rd:V->V->Hp->VK->Prop}(ha:PE X o ta)(hv:PE X value tv)(hop:QH X op rd):PS X (.AugAssign (.Attribute o f tpos) op value pos) (A_ X.K ta tv rd f):=by
 intro z6 s σ H D I h;refine wpAny_AugAssign_AttributeAny (zh (ha z6 s σ H _ I h) λov s1 ⟨x,H1,I1,rx,a,C,dx,fs,v,ex,ea,c,n,l,q⟩=>?_);subst ex;obtain rfl:ov=Value.ref a:=rx;refine BC I1 ea c n l λu s2 I2 ru=>zh (hv z6 s2 σ H1 _ I2 q) λw3 s3 ⟨y,H2,I3,ry,q3⟩=>zh (hop z6 s3 σ H2 v y u w3 _ I3 ru ry q3) λw4 s4 ⟨z,H3,I4,rz,dx',fs',ea',l',q4⟩=>?_
 exact CC I4 ea' c n l' rz λs5 I5=>⟨σ,_,I5,q4⟩
def Sy:V->V->Hp->VK->Prop:=λx y H Q=>∃i j,x=.int i/\y=.int j/\Q (.int (i+j)) H
theorem BL:QH X .Add Sy:=by
 rintro z6 s σ H x y u v Q I rx ry ⟨i,j,rfl,rfl,q⟩;obtain⟨t,rfl⟩:=(show ∃t,u=Value.int i t from rx);obtain⟨t',rfl⟩:=(show ∃t',v=Value.int j t' from ry);exact PyProof.Rows.iadd_int ⟨.int (i+j),H,I.tok _,⟨_,rfl⟩,q⟩
end
section
variable{X:Cx}{z6:List (Addr×Obj)}{σ:St}{H:Hp}{s:Shared}{A:Around}{E:Value->Shared->Prop}{Q:Value->Shared->Prop}{c:Value}{b:Bool}
inductive tO(K:PySem.W.Frag)(H:Hp):V->Value->Prop where
 |zG:tO K H .zG (.type "NoneType")
 |bl (x:Bool):tO K H (.bl x) (.type "bool")
 |int (i:Int):tO K H (.int i) (.type "int")
 |str (x:Str):tO K H (.str x) (.type "str")
 |j_ (x:UInt64):tO K H (.j_ x) (.type "float")
 |lst {a:Addr} {xs:List V} (e:H a=some (.lst xs)):tO K H (.ref a) (.type "list")
 |xj {a:Addr} {o:Obj} {xs:List V} (e:H a=some (.xj o (.lst xs))):tO K H (.ref a) (.type "list")
 |tup {a:Addr} {xs:List V} (e:H a=some (.tup xs)):tO K H (.ref a) (.type "tuple")
 |dK {a:Addr} {kvs:List (zK×V)} (e:H a=some (.dK kvs)):tO K H (.ref a) (.type "dict")
 |dT {a:Addr} {kvs:List (List zK×V)} (e:H a=some (.dT kvs)):tO K H (.ref a) (.type "dict")
 |ins {a C dx:Addr} {fs:List (Str×V)} (e:H a=some (.ins C dx fs)) (cl:vk K C) (ha:PySem.W.findIn K (.ref C) "__class__" = some (some (.builtin "object.__class__")))
   (hn:PySem.W.specialIn K (.builtin "object.__class__") "__get__" = some (some (.builtin "getset_descriptor.__get__"))) (htk:PySem.W.takesIn K (.builtin "object.__class__")=some true)
   (hm:PySem.W.mroIn K C (.type "object")=some true):tO K H (.ref a) (.ref C)
theorem Uh{x:V}{u t:Value}(I:zC X z6 σ H s)(rx:zc x u)(ty:tO X.K H x t)(e:W.kitOne X.K t c=some b)(h:∀tk,Q (.bool b) { s with toks:=tk }) :
  wpAny (model X.prog X.w) A (call (.builtin "isinstance") [u,c]) Q E s:=by
 cases ty with
 |zG=>cases(show u=Value.none from rx); exact W.kia_one W.kitx_none I.xA True.intro e (λz=>nomatch z) h
 |bl y=>cases(show u=Value.bool y from rx); exact W.kia_one W.kitx_bool I.xA True.intro e (λz=>nomatch z) h
 |int i=>obtain⟨t,q⟩:=(show ∃t,u=Value.int i t from rx); cases q; exact W.kia_one W.kitx_int I.xA True.intro e (λz=>nomatch z) h
 |str y=>obtain⟨t,q⟩:=(show ∃t,u=Value.str y t from rx); cases q; exact W.kia_one W.kitx_str I.xA True.intro e (λz=>nomatch z) h
 |j_ y=>obtain⟨t,q⟩:=(show ∃t,u=Value.float y t from rx); cases q; exact W.kia_one W.kitx_float I.xA True.intro e (λz=>nomatch z) h
 |@lst a xs ea=>
  cases(show u=Value.ref a from rx);obtain⟨_,_,n,_,h1⟩:=(show yx X.prog X.w H s.heap a (.lst xs)from I.zZ a _ ea);exact W.kia_one W.kitx_list I.xA ⟨_,h1,rfl⟩ e (λz=>nomatch z) h
 |@xj a ob xs ea=>
  cases(show u=Value.ref a from rx);obtain⟨_,_,_,n,_,h1⟩:=(show yx X.prog X.w H s.heap a (.xj ob (.lst xs))from I.zZ a _ ea);exact W.kia_one W.kitx_list I.xA ⟨_,h1,rfl⟩ e (λz=>nomatch z) h
 |@tup a xs ea=>
  cases(show u=Value.ref a from rx);obtain⟨_,_,_,p⟩:=(show yx X.prog X.w H s.heap a (.tup xs)from I.zZ a _ ea);obtain⟨o,h1,h2,_⟩:=p;exact W.kia_one W.kitx_tuple I.xA ⟨o,h1,h2⟩ e (λz=>nomatch z) h
 |@dK a kvs ea=>
  cases(show u=Value.ref a from rx);obtain⟨_,_,vs,_,p⟩:=(show yx X.prog X.w H s.heap a (.dK kvs)from I.zZ a _ ea);obtain⟨o,es,ep,h1,h2,_⟩:=p;exact W.kia_one W.kitx_dict I.xA ⟨o,h1,h2.1⟩ e (λz=>nomatch z) h
 |@dT a kvs ea=>
  cases(show u=Value.ref a from rx);obtain⟨_,_,xs,_,o,es,ep,h1,h2,_⟩:=(show yx X.prog X.w H s.heap a (.dT kvs)from I.zZ a _ ea);exact W.kia_one W.kitx_dict I.xA ⟨o,h1,h2.1⟩ e (λz=>nomatch z) h
 |@ins a C dx fs ea cl ha hn htk hm=>
  cases(show u=Value.ref a from rx);obtain⟨mA,O,_⟩:=Ue I.zZ ea;obtain⟨od,J,_⟩:=O.look;exact W.kia_one (W.kitx_own (cl.get _) cl.hd ha hn htk hm) I.xA J e (λz=>nomatch z) h
end
structure yI(k:Nat)(A:Around):Prop where
 hd:A.handled=none
 dp:A.depth+3*k+5<recursionLimit
 un:A.units+16*k+200<cLine
 gd:A.guards=some []
theorem yI.mono{j k:Nat}{A:Around}(r:yI k A)(h:j<=k):yI j A:=⟨r.hd,by have:=r.dp; omega,by have:=r.un; omega,r.gd⟩
theorem yI.deeper{k:Nat}{A:Around}(r:yI (k+1) A)(env:Env):yI k (A.deeper env):=
 ⟨r.hd,by have:=r.dp; show A.depth+1+3*k+5<_; omega,by have:=r.un; show A.units+3+16*k+200<_; omega,by first|exact r.gd|simp[Around.under,Code.guards,pushGuards,r.gd]⟩
theorem NB{A:Around}{C:Addr}{us:List Value}{kw:List (Str×Value)}:(A.under (.builtin "type.__call__" ⟨.ref C::us,kw⟩)).depth=A.depth+1:=by
 first|rfl|simp[Around.under,Code.weight,Code.isCreation,Code.isGuard,Code.isCaller,Code.frames,Code.isFrame,guardIds]
theorem ND{A:Around}{C:Addr}{us:List Value}{kw:List (Str×Value)}:(A.under (.builtin "type.__call__" ⟨.ref C::us,kw⟩)).units=A.units+1:=by
 first|rfl|simp[Around.under,Code.cUnits,Code.frames,Code.isFrame]
theorem yI.make{k:Nat}{A:Around}(r:yI (k+1) A)(C:Addr)(us:List Value)(kw:List (Str×Value)):yI k (A.under (.builtin "type.__call__" ⟨.ref C::us,kw⟩)):=
 ⟨r.hd,by have:=r.dp; rw[NB]; omega,by have:=r.un; rw[ND]; omega,by first|exact r.gd|simp[Around.under,Code.guards,pushGuards,r.gd]⟩
theorem yI.depth{k:Nat}{A:Around}(r:yI k A):A.depth<recursionLimit:=by have:=r.dp; omega
theorem yI.units{k:Nat}{A:Around}(r:yI k A):A.units+64<cLine:=by have:=r.un; omega
def Wh:TA:=λ_ H Q=>Q [] H
def OO(ta:TE)(tr:TA):TA:=λσ H Q=>ta σ H λx H1=>tr σ H1 λxs H2=>Q (x::xs) H2
section
variable{X:Cx}{e:Expr}{es:List Expr}{te:TE}{t:TA}{pos:Pos}
theorem XU:PA X [] Wh:=λ_ _ _ _ H Q I h=>Calls.spliced_nil ⟨[],H,I,.nil,h⟩
theorem Rg(ha:PE X e te)(hr:PA X es t)(hs:starEach (e::es) X.env=(false,eval e X.env)::starEach es X.env:=by rfl):PA X (e::es) (OO te t):=by
 intro pos z6 s σ H Q I h;rw[hs];show wpAny _ _ (spliced ((false,eval e X.env)::backTo pos (starEach es X.env))) _ _ s;refine Oq (zh (ha z6 s σ H _ I h) λu s1 ⟨x,H1,I1,r1,q1⟩=>?_);exact zh (hr pos z6 s1 σ H1 _ I1 q1) λus s2 ⟨xs,H2,I2,r2,q2⟩=>⟨x::xs,H2,I2,.cons r1 r2,q2⟩
def cL(t:TA):TE:=λσ H Q=>t σ H λxs H1=>xs.length<=sizeLine/\∀p,H1 p=none->Q (.ref p) (zT H1 p (.tup xs))
def b_(t:TA):TE:=λσ H Q=>t σ H λxs H1=>xs.length<=sizeLine/\∀p,H1 p=none->Q (.ref p) (zT H1 p (.lst xs))
theorem S6{x1}(h:PA X es t):PE X (.Tuple es x1 pos) (cL t):=by
 intro z6 s σ H Q I hq;refine wpAny_Tuple_spliced (zh (h pos z6 s σ H _ I hq) λus s1 ⟨xs,H1,I1,r,z,q⟩=>⟨by rw[<-r.length]; exact z,?_⟩);have hf:H1 s1.heap.objs.size=none:=I1.zZ.fresh (yF _);refine⟨.ref s1.heap.objs.size,zT H1 s1.heap.objs.size (.tup xs),I1.laid (t':=s1.toks) (λb u e=>Heap.get?_push_of_some _ e) (yF _) ?_,rfl,q _ hf⟩;exact⟨z,us,r,⟨_,Heap.get?_push_size _ rfl,rfl,_,rfl⟩⟩
theorem Rz(h:PA X es t):PE X (.List es pos) (b_ t):=by
 intro z6 s σ H Q I hq;refine wpAny_List_spliced (zh (h pos z6 s σ H _ I hq) λus s1 ⟨xs,H1,I1,r,z,q⟩=>⟨by rw[<-r.length]; exact z,?_⟩);have hf:H1 s1.heap.objs.size=none:=I1.zZ.fresh (yF _);refine⟨.ref s1.heap.objs.size,zT H1 s1.heap.objs.size (.lst xs),I1.laid (t':=s1.toks) (λb u e=>Heap.get?_push_of_some _ e) (yF _) ?_,rfl,q _ hf⟩;exact⟨z,us,0,r,Heap.get?_push_size _ rfl⟩
end
abbrev Sp:=List V->Hp->VK->XK->Prop
abbrev qF:=List Env->Hp->Shared->XK->Value->Shared->Prop
structure gB(P:Program)(w:World)(K:W.Frag)(mg:Str->Option Value)(base:Heap)(A:Around)(outer:List Env)(s:Shared)(H:Hp):Prop where
 frames:A.frames=some outer
 mod:Mod K mg base
 bs:∀b o,base.get? b=some o->s.heap.get? b=some o/\H b=none
 qX:base.objs.size<=s.heap.objs.size
 uf:s.heap.FunFrames base outer
 j6:∀b∈uq outer,H b=none
 zZ:yt P w H s.heap
 bare:AllBare s.gens
def CE(outer:List Env)(P:Program)(w:World)(H:Hp)(s:Shared)(Q:VK)(u:Value)(s':Shared):Prop:=
 ∃v H',s'.os=s.os/\AllBare s'.gens/\Un (uq outer) [] H H' s.heap s'.heap/\yt P w H' s'.heap/\zc v u/\Q v H'
def CR(CX:qF)(outer:List Env)(P:Program)(w:World)(H:Hp)(s:Shared)(Q:VK)(E:XK)(r:Result)(s':Shared):Prop:=
 match r with
 |.ok (.ret u)=>CE outer P w H s Q u s'
 |.ok _=>False
 |.error e=>CX outer H s E e s'
structure yj(P:Program)(w:World)(K:W.Frag)(mg:Str->Option Value)(base:Heap)(CX:qF)(k:Nat)(f:Addr)(fd:FuncData)(ps:List Str)(sp:Sp):Prop where
 len:∀vs H Q E,sp vs H Q E->vs.length=ps.length
 run:∀(A:Around)(outer:List Env)(s:Shared)(H:Hp)(args:Args)(us:List Value)(vs:List V)(Q:VK)(E:XK),yI k A->gB P w K mg base A outer s H->BindsTo s fd args (ps.zip us)->ze vs us->sp vs H Q E->
  codeAny (model P w) A (.call (.ref f) args) (CR CX outer P w H s Q E) s
theorem yj.imp{P:Program}{w:World}{K:W.Frag}{mg:Str->Option Value}{base:Heap}{CX:qF}{k:Nat}{f:Addr}{fd:FuncData}{ps:List Str}{sp sp':Sp}(F:yj P w K mg base CX k f fd ps sp)
  (h:∀vs H Q E,sp' vs H Q E->sp vs H Q E):yj P w K mg base CX k f fd ps sp':=
 ⟨λvs H Q E q=>F.len vs H Q E (h _ _ _ _ q),λA outer s H args us vs Q E hr he hb hv hs=>F.run A outer s H args us vs Q E hr he hb hv (h _ _ _ _ hs)⟩
theorem gB.make{P:Program}{w:World}{K:W.Frag}{mg:Str->Option Value}{base:Heap}{A:Around}{outer:List Env}{s:Shared}{H:Hp}(e:gB P w K mg base A outer s H)(C:Addr)(us:List Value)(kw:List (Str×Value)) :
  gB P w K mg base (A.under (.builtin "type.__call__" ⟨.ref C::us,kw⟩)) outer s H:=⟨by first|exact e.frames|(simpa [Around.under,Code.envs,Code.isFrame,pushEnvs]using e.frames),e.mod,e.bs,e.qX,e.uf,e.j6,e.zZ,e.bare⟩
section
variable{X:Cx}{z6:List (Addr×Obj)}{σ:St}{H:Hp}{s s':Shared}
theorem zC.LN(I:zC X z6 σ H s):gB X.prog X.w X.K X.mg X.base X.A X.stack s H:=
 ⟨I.ok.frames,I.ok.mod,I.bs,vQ I.ok.qX I.sz,I.stack,I.Le,I.zZ,I.bare⟩
theorem zC.after{Q:VK}{u:Value}(I:zC X z6 σ H s)(h:CE X.stack X.prog X.w H s Q u s'):EP X z6 σ Q u s':=by
 obtain⟨v,H',os,bare,un,zZ,r,q⟩:=h;obtain⟨hh,g,d,t,os'⟩:=s';obtain rfl:os'=s.os:=os;exact⟨v,H',I.call (h':=hh) (g':=g) (d':=d) (t':=t) (ch:=[]) un zZ bare (λb z=>absurd z (by simp)),r,q⟩
end
def ON(sp:Sp)(dvs:List V)(E:XK)(t:TA):TE:=λσ H Q=>t σ H λvs H1=>sp (vs++dvs) H1 Q E
def TN(C:Addr)(m:Str)(sp:Sp)(dvs:List V)(E:XK)(ta:TE)(t:TA):TE:=λσ H Q=>ta σ H λx H1=>∃a dx fs,x=.ref a/\H1 a=some (.ins C dx fs)/\fs.lookup m=none/\
 t σ H1 λvs H2=>sp (x::(vs++dvs)) H2 Q E
def cA(C:Addr)(sp:Sp)(dvs:List V)(E:XK)(t:TA):TE:=λσ H Q=>t σ H λvs H1=>∀x dx,H1 x=none->H1 dx=none->dx≠x->
 sp (.ref x::(vs++dvs)) (zT (zT H1 dx (.own x)) x (.ins C dx [])) (λv H2=>v=.zG/\Q (.ref x) H2) E
def xq(K:W.Frag)(fd:FuncData)(ps:List Str)(ds:List Value):Prop:=
 ∀(s:Shared)(us:List Value),K.In s.heap->(us++ds).length=ps.length->BindsTo s fd ⟨us,[]⟩ (ps.zip (us++ds))
theorem xq.all{K:W.Frag}{fd:FuncData}{ps:List Str}(h:∀us:List Value,us.length=ps.length->bindArgs fd ⟨us,[]⟩=pure (ps.zip us)):xq K fd ps []:=λs us _ hl=>by
 rw[ub]at hl ⊢;exact .of_eq (h us hl)
def gb(CX:qF)(X:Cx)(E:XK):Prop:=∀(z6:List (Addr×Obj)) (σ:St) (H:Hp) (s:Shared) (e:Value) (s':Shared),zC X z6 σ H s->CX X.stack H s E e s'->X.xe e s'
section
variable{X:Cx}{CX:qF}{k:Nat}{f C:Addr}{fd:FuncData}{ps:List Str}{sp:Sp}{dvs:List V}{ds:List Value}{E:XK}{x m:Str}{p pos apos:Pos}{e o:Expr}{es:List Expr}{ta:TE}{t:TA}
theorem Xa{z6:List (Addr×Obj)}{σ:St}{H:Hp}{s:Shared}{Q:VK}{us:List Value}{vs:List V}(F:yj X.prog X.w X.K X.mg X.base CX k f fd ps sp)(hr:yI k X.A)(hb:xq X.K fd ps ds)(hd:ze dvs ds)(hx:gb CX X E)
  (I:zC X z6 σ H s)(r:ze vs us)(h:sp (vs++dvs) H Q E):wpAny (model X.prog X.w) X.A (call (.ref f) us) (EP X z6 σ Q) X.xe s:=by
 have r2:ze (vs++dvs) (us++ds):=r.append hd;have hl:(us++ds).length=ps.length:=by rw[<-r2.length]; exact F.len _ _ _ _ h
 refine wpAny_call (Ty (F.run X.A X.stack s H ⟨us,[]⟩ (us++ds) (vs++dvs) Q E hr I.LN (hb s us I.xA hl) r2 h) λr s' hq=>?_);cases r with
 |error e=>exact hx z6 σ H s e s' I hq
 |ok fl=>
  cases fl with
  |ret u=>exact I.after hq
  |next=>exact False.elim hq
  |brk=>exact False.elim hq
  |cont=>exact False.elim hq
theorem Ro(F:yj X.prog X.w X.K X.mg X.base CX k f fd ps sp)(hr:yI k X.A)(hg:Gl X x)(hm:X.mg x=some (.ref f))(hk:W.keepIn X.K (.ref f)=true)(hb:xq X.K fd ps ds)(hd:ze dvs ds)(hx:gb CX X E)
  (ha:PA X (e::es) t)(hdb:(x==("__debug__" : Str))=false:=by decide)(he:starEach (e::es) X.env=(false,eval e X.env)::starEach es X.env:=by rfl)(hpl:(backTo pos (starEach es X.env)).any (·.1)=false:=by rfl) :
  PE X (.Call (.Name x p) (e::es) [] pos) (ON sp dvs E t):=by
 intro z6 s σ H Q I h;refine Q0 (Up I hg hm ?_ hdb);refine W.callWith_K (h₀:=X.base) I.ok.mod.g6 hk (zh (ha pos z6 s σ H _ I h) λus s1 ⟨vs,H1,I1,r,q⟩=>⟨I1.xA,?_⟩) he hpl;exact Xa F hr hb hd hx I1 r q
theorem S0{pl:Sem Bool}(he:PE X o ta)(c:vk X.K C)(hm:VM X.K C m f)(F:yj X.prog X.w X.K X.mg X.base CX k f fd ps sp)(hr:yI k X.A)(hb:xq X.K fd ps ds)(hd:ze dvs ds)(hx:gb CX X E)(ha:PA X (e::es) t)
  (hst:starEach (e::es) X.env=(false,eval e X.env)::starEach es X.env:=by rfl)(hpl:(backTo pos (starEach es X.env)).any (·.1)=false:=by rfl)
  (ht:eval (.Call (.Attribute o m apos) (e::es) [] pos) X.env=(do
   let ov <-eval o X.env
   standAt apos.atName
   let (f,first) <-holding [ov] (getMethod ov m pl)
   callWith pos f first (backTo pos (starEach (e::es) X.env)) (backToKw pos (keywordEach [] X.env))):=by rfl) :
  PE X (.Call (.Attribute o m apos) (e::es) [] pos) (TN C m sp dvs E ta t):=by
 intro z6 s σ H Q I h;refine W.methodCall_KW (pl:=pl) (zh (he z6 s σ H _ I h) λu s1 ⟨x,H1,I1,rx,a,dx,fs,ex,ea,l,q⟩=>?_) ht;subst ex;obtain rfl:u=Value.ref a:=rx;refine BD I1 ea c hm l ?_;refine W.callWith_K (first:=[.ref a]) (h₀:=X.base) I.ok.mod.g6 hm.kp (zh (ha pos z6 s1 σ H1 _ I1 q) λus s2 ⟨vs,H2,I2,r,q2⟩=>⟨I2.xA,?_⟩) hst hpl;exact Xa (us:=.ref a::us) (vs:=.ref a::vs) F hr hb hd hx I2 (.cons rfl r) q2
theorem Dq{pl:Sem Bool}(he:PE X o ta)(c:vk X.K C)(hm:VM X.K C m f)(F:yj X.prog X.w X.K X.mg X.base CX k f fd ps sp)(hr:yI k X.A)(hb:xq X.K fd ps ds)(hd:ze dvs ds)(hx:gb CX X E)
  (ht:eval (.Call (.Attribute o m apos) [] [] pos) X.env=(do
   let ov <-eval o X.env
   standAt apos.atName
   let (f,first) <-holding [ov] (getMethod ov m pl)
   callWith pos f first (backTo pos (starEach [] X.env)) (backToKw pos (keywordEach [] X.env))):=by rfl) :
  PE X (.Call (.Attribute o m apos) [] [] pos) (TN C m sp dvs E ta Wh):=by
 intro z6 s σ H Q I h;refine W.methodCall_KW (pl:=pl) (zh (he z6 s σ H _ I h) λu s1 ⟨x,H1,I1,rx,a,dx,fs,ex,ea,l,q⟩=>?_) ht;subst ex;obtain rfl:u=Value.ref a:=rx;refine BD I1 ea c hm l ?_;exact W.callWith_K0 (first:=[.ref a]) I1.xA hm.kp (Xa (us:=[.ref a]) (vs:=[.ref a]) F hr hb hd hx I1 (.cons rfl .nil) q)
structure Mk(K:W.Frag)(C f:Addr):Prop where
 makes:W.makesIn K C=true
 init:W.findIn K (.ref C) "__init__" = some (some (.ref f))
 fn:W.isFn K (.ref f)=true
 kp:W.keepIn K (.ref C)=true
theorem Aj{z6:List (Addr×Obj)}{σ:St}{H:Hp}{s:Shared}{Q:VK}{us:List Value}{vs:List V}(M:Mk X.K C f)(F:yj X.prog X.w X.K X.mg X.base CX k f fd ps sp)(hr:yI (k+1) X.A)(hb:xq X.K fd ps ds)(hd:ze dvs ds)
  (hx:gb CX X E)(I:zC X z6 σ H s)(r:ze vs us)
  (h:∀x dx,H x=none->H dx=none->dx≠x->sp (.ref x::(vs++dvs)) (zT (zT H dx (.own x)) x (.ins C dx [])) (λv H2=>v=.zG/\Q (.ref x) H2) E) :
  wpAny (model X.prog X.w) X.A (call (.ref C) us) (EP X z6 σ Q) X.xe s:=by
 have hq:=h (s.heap.objs.size+1) s.heap.objs.size (I.zZ.fresh (Wz _)) (I.zZ.fresh (yF _)) (wB (kf _));have I2:=zC.made (C:=C) I;have r2:ze (V.ref (s.heap.objs.size+1)::(vs++dvs)) (Value.ref (s.heap.objs.size+1)::(us++ds)):=.cons rfl (r.append hd)
 have hl:(Value.ref (s.heap.objs.size+1)::us++ds).length=ps.length:=by
  have e:=r2.length;rw[F.len _ _ _ _ hq]at e;exact e.symm
 refine wpAny_call (NC (f:=f) I.xA M.makes M.init (kl.mp M.fn) (Ty (F.run _ X.stack _ _ ⟨Value.ref (s.heap.objs.size+1)::us,[]⟩ (Value.ref (s.heap.objs.size+1)::(us++ds)) _ _ E (hr.make C us [])
  (I2.LN.make C us []) (hb _ (Value.ref (s.heap.objs.size+1)::us) I2.xA hl) r2 hq) λr s' hq'=>?_))
 cases r with
 |error e=>exact hx z6 σ _ _ e s' I2 hq'
 |ok fl=>
  cases fl with
  |ret u=>
   obtain⟨v,H',I3,rv,ev,q3⟩:=I2.after hq';subst ev;exact⟨rv,⟨V.ref (s.heap.objs.size+1),H',I3,rfl,q3⟩⟩
  |next=>exact False.elim hq'
  |brk=>exact False.elim hq'
  |cont=>exact False.elim hq'
theorem R_(M:Mk X.K C f)(F:yj X.prog X.w X.K X.mg X.base CX k f fd ps sp)(hr:yI (k+1) X.A)(hg:Gl X x)(hm:X.mg x=some (.ref C))(hb:xq X.K fd ps ds)(hd:ze dvs ds)(hx:gb CX X E)
  (ha:PA X (e::es) t)(hdb:(x==("__debug__" : Str))=false:=by decide)(he:starEach (e::es) X.env=(false,eval e X.env)::starEach es X.env:=by rfl)(hpl:(backTo pos (starEach es X.env)).any (·.1)=false:=by rfl) :
  PE X (.Call (.Name x p) (e::es) [] pos) (cA C sp dvs E t):=by
 intro z6 s σ H Q I h;refine Q0 (Up I hg hm ?_ hdb);refine W.callWith_K (h₀:=X.base) I.ok.mod.g6 M.kp (zh (ha pos z6 s σ H _ I h) λus s1 ⟨vs,H1,I1,r,q⟩=>⟨I1.xA,?_⟩) he hpl;exact Aj M F hr hb hd hx I1 r q
end
section
variable{X:Cx}{CX:qF}{k:Nat}{f C:Addr}{fd:FuncData}{ps ks:List Str}{sp:Sp}{E:XK}{x m:Str}{p pos apos kpos:Pos}{e o:Expr}{es:List Expr}{kws:List Keyword}{te ta:TE}{t tk:TA}{nm:Option Str}
variable{g:List Value->List Value->List Value}{gV:List V->List V->List V}
end
structure zi(N P:List Str)(sc:Scope):Prop where
 kind:sc.kind=.function
 co:sc.isCoroutine=false
 gen:sc.isGenerator=false
 nd:N.Nodup
 pre:N.take P.length=P
 par:∀x∈P,sc.names.lookup x=some .local\/sc.names.lookup x=some .cell
 EU:∀y∈sc.names,y.2≠.free
theorem MO{kindOf:Str->Option NameKind}{x:Str}:∀{binds:List (Str×Value)} {m:Str->Option Value},(∀v,(x,v) ∉ binds)->bindL kindOf binds m x=m x
 | [],_,_=>rfl
 |(n,v)::r,m,h=>by
  unfold bindL;rw[MO λw hw=>h w (xg _ hw)]
  split
  ·have:x≠n:=by rintro rfl; exact h v yr
   simp[this]
  ·rfl
theorem MM{kindOf:Str->Option NameKind}{x:Str}:∀{binds:List (Str×Value)} {m:Str->Option Value},(∀v,(x,v) ∉ binds)->bindC kindOf binds m x=m x
 | [],_,_=>rfl
 |(n,v)::r,m,h=>by
  unfold bindC;rw[MM λw hw=>h w (xg _ hw)]
  split
  ·rfl
  ·have:x≠n:=by rintro rfl; exact h v yr
   simp[this]
theorem MN{kindOf:Str->Option NameKind}{x:Str}{v:Value}:∀{P:List Str}{vs:List Value}{i:Nat}{m:Str->Option Value},P.Nodup->P[i]?=some x->vs[i]?=some v->kindOf x=some .local->
  bindL kindOf (P.zip vs) m x=some v
 | [],_,_,_,_,h,_,_=>by simp at h
 |_::_,[],_,_,_,_,h,_=>by simp at h
 |p::P,w::vs,0,m,nd,h1,h2,hk=>by
  simp at h1 h2; subst h1; subst h2;show bindL kindOf ((p,w)::P.zip vs) m p=_;unfold bindL;rw[MO λv hv=>(Wu.mp nd).1 (L4 hv).1,zM hk];simp
 |p::P,w::vs,i+1,m,nd,h1,h2,hk=>by
  show bindL kindOf ((p,w)::P.zip vs) m x=_;unfold bindL;exact MN (i:=i) (Wu.mp nd).2 (by simpa using h1) (by simpa using h2) hk
theorem ML{kindOf:Str->Option NameKind}{x:Str}{v:Value}:∀{P:List Str}{vs:List Value}{i:Nat}{m:Str->Option Value},P.Nodup->P[i]?=some x->vs[i]?=some v->kindOf x≠some .local->
  bindC kindOf (P.zip vs) m x=some v
 | [],_,_,_,_,h,_,_=>by simp at h
 |_::_,[],_,_,_,_,h,_=>by simp at h
 |p::P,w::vs,0,m,nd,h1,h2,hk=>by
  simp at h1 h2; subst h1; subst h2;show bindC kindOf ((p,w)::P.zip vs) m p=_;unfold bindC;rw[MM λv hv=>(Wu.mp nd).1 (L4 hv).1,zO hk];simp
 |p::P,w::vs,i+1,m,nd,h1,h2,hk=>by
  show bindC kindOf ((p,w)::P.zip vs) m x=_;unfold bindC;exact ML (i:=i) (Wu.mp nd).2 (by simpa using h1) (by simpa using h2) hk
def start(N:List Str)(vs:List V):St:=vs.map some++List.replicate (N.length-vs.length) none
def um(CX:qF)(P:Program)(w:World)(K:W.Frag)(mg:Str->Option Value)(base:Heap)(N:List Str)(qual:Str)(scope:Scope)(f:Addr)(cd:Value)(A:Around)(outer:List Env)(s:Shared)(H:Hp)(E:XK):Cx where
 prog:=P
 w:=w
 K:=K
 mg:=mg
 base:=base
 A:=A.deeper (envOfC qual scope s.heap.objs.size f cd)
 N:=N
 s₀:=s
 H₀:=H
 env:=envOfC qual scope s.heap.objs.size f cd
 outer:=outer
 stack:=envOfC qual scope s.heap.objs.size f cd::outer
 ex:=[]
 calm:=true
 fn:=λ_=>true
 pn:=[]
 xe:=λe s'=>wpAny (model P w) (A.deeper (envOfC qual scope s.heap.objs.size f cd)) (leaving (envOfC qual scope s.heap.objs.size f cd) e) (λ_ s''=>CX outer H s E e s'') (λe' s''=>CX outer H s E e' s'') s'
theorem Mh{sc:Scope}{n:Nat}{x:Str}(h:sc.names.lookup x=some .cell):∃c,(cellsFrom n sc.names []).lookup x=some c:=by
 have q:=W.cellsFrom_some sc.names n [] (.inl h);exact EK.mp q
theorem KS{CX:qF}{P:Program}{w:World}{K:W.Frag}{mg:Str->Option Value}{base:Heap}{N ps:List Str}{qual:Str}{scope:Scope}{f:Addr}{cd:Value}{A:Around}{outer:List Env}{s s1:Shared}{H:Hp}{E:XK}{us:List Value}{vs:List V}
  (S:zi N ps scope)(hd:A.handled=none)(e0:gB P w K mg base A outer s H)(hl:vs.length=ps.length)(r:ze vs us)
  (x:InCallC s s.heap.objs.size (bindL (envOfC qual scope s.heap.objs.size f cd).kindOf (ps.zip us) λ_=>none) (cellsFrom (s.heap.objs.size+1) scope.names []) (bindC (envOfC qual scope s.heap.objs.size f cd).kindOf (ps.zip us) λ_=>none) s1) :
  zC (um CX P w K mg base N qual scope f cd A outer s H E) [] (start N vs) H s1:=by
 have hpl:ps.length<=N.length:=by have:=congrArg List.length S.pre; rw[p_]at this; omega
 obtain⟨h1,tk,rfl,hk⟩:=x.done;have noA:∀b:Addr,b ∉ (um CX P w K mg base N qual scope f cd A outer s H E).ex:=λb z=>absurd (show b∈([]:List Addr)from z) (by simp)
 refine⟨⟨e0.mod,S.kind,rfl,rfl,yF _,λy z c h1 h2=>?_,λy hy=>?_,λy c _ h=>?_,λ_=>hd,Around.frames_deeper e0.frames,.inr ⟨rfl,rfl⟩,λb z=>absurd z (noA b),e0.bs,e0.qX,λb _ _=>noA b,λb z=>absurd z (noA b),e0.uf,e0.j6⟩,
  rfl,e0.bare,Un.kept hk,⟨_,x.toInCall.ns,λi y v h1 h2 h3=>?_⟩,λy c h=>⟨_,x.cell y c h⟩,e0.zZ.fresh (yF _),λy c h=>?_,λp hp=>absurd (show p∈([]:List (Addr×Obj))from hp) (by simp),e0.zZ.kept hk,?_⟩
 ·exact name_of_addr x.apart (PySem.mem_of_lookup h1) (PySem.mem_of_lookup h2)
 ·have hy:scope.names.lookup y=some .cell\/scope.names.lookup y=some .free:=hy;rcases hy with hy|hy
  ·exact Mh hy
  ·exact absurd rfl (S.EU _ (PySem.mem_of_lookup hy))
 ·exact Wy (x.above y c (PySem.mem_of_lookup h))
 ·have hi:i<vs.length:=by
   unfold start at h2;by_cases hi:i<vs.length
   ·exact hi
   ·rw[YX (by simpa using hi)]at h2;rw[EB]at h2
    split at h2<;>cases h2
  have ha:vs[i]?=some v:=by
   unfold start at h2;rw[py (by simpa using hi),vN]at h2;cases e:vs[i]? with
   |none=>rw[e]at h2; cases h2
   |some a=>rw[e]at h2; cases h2; rfl
  obtain⟨u,hu,rv⟩:=r.get ha
  have hp:ps[i]?=some y:=by
   rw[<-S.pre,List.getElem?_take_of_lt (by omega)]; exact h1
  have ndP:ps.Nodup:=by rw[<-S.pre]; exact S.nd.sublist (List.take_sublist _ _)
  refine⟨u,rv,?_⟩;rcases S.par y (Tq hp)with k|k
  ·exact .inl ⟨k,MN ndP hp hu k⟩
  ·obtain⟨c,e⟩:=Mh (n:=s.heap.objs.size+1) k;refine .inr ⟨.inl k,c,e,?_⟩;have q:=x.cell y c e;rw[ML ndP hp hu (by show scope.names.lookup y≠_; rw[k]; decide)]at q;exact q
 ·exact e0.zZ.fresh (Wy (x.above y c (PySem.mem_of_lookup h)))
 ·unfold start;show _=N.length;rw[yO,zm,jv];omega
theorem B5{CX:qF}{P:Program}{w:World}{K:W.Frag}{mg:Str->Option Value}{base:Heap}{k:Nat}{f:Addr}{name qual:Str}{params:Arguments}{body:List Stmt}{scope:Scope}{dV kV doc pm cdv ct oc:Value}{an od:Option Addr}
  {osl:Array (Option Value)}{N ps:List Str}{sp:Sp}(lk:K.lookup f=some ⟨oc,od,.func (W.fnOf name qual params body scope dV kV doc pm an cdv ct),osl⟩)(hcd:W.codeIn K cdv qual=true)(S:zi N ps scope)
  (len:∀vs H Q E,sp vs H Q E->vs.length=ps.length)
  (hbody:∀(A:Around)(outer:List Env)(s:Shared)(H:Hp)(vs:List V)(Q:VK)(E:XK),yI k (A.deeper (envOfC qual scope s.heap.objs.size f cdv))->sp vs H Q E->
   ∃t,vR (um CX P w K mg base N qual scope f cdv A outer s H E) body t/\t { nx:=λ_ H'=>Q .zG H',rt:=Q } (start N vs) H) :
  yj P w K mg base CX (k+1) f (W.fnOf name qual params body scope dV kV doc pm an cdv ct) ps sp:=by
 refine⟨len,λA outer s H args us vs Q E hr e0 hb r hsp=>?_⟩;have hl:=len _ _ _ _ hsp;have KX:K.In s.heap:=e0.mod.g6.keeps λb o e=>(e0.bs b o e).1
 have lim:s.heap.NoLimit:=e0.mod.nolimit.keeps λb o e=>(e0.bs b o e).1
 have hkind:∀y∈ps.zip us,scope.names.lookup y.1=some .local\/(scope.names.lookup y.1=some .cell/\((cellsFrom (s.heap.objs.size+1) scope.names []).lookup y.1).isSome=true):=λ⟨n,v⟩ hy=>by
  rcases S.par n (L4 hy).1 with q|q
  ·exact .inl q
  ·exact .inr ⟨q,W.cellsFrom_some _ _ _ (.inl q)⟩
 refine codeAny_call_function hr.depth (KX _ _ lk) rfl S.co S.gen rfl (W.codeRec_of KX hcd) (hb _ _ _ _ ?_);refine wpAny_newFunctionEnv_cells S.kind hkind λenv he s1 x=>?_
 subst he;refine⟨lim.keeps x.toInCall.keep,codeAny_func ?_⟩;obtain⟨t,ht,hq⟩:=hbody A outer s H vs Q E (hr.deeper _) hsp;have I:zC (um CX P w K mg base N qual scope f cdv A outer s H E) [] (start N vs) H s1:=KS S hr.hd e0 hl r x;refine uK (ht [] s1 (start N vs) H _ I hq) (λfl s' hs=>?_) λe s' hs=>hs
 have fin:∀{σ':St}{H':Hp}{v:V}{u:Value},zC (um CX P w K mg base N qual scope f cdv A outer s H E) [] σ' H' s'->zc v u->Q v H'->CE outer P w H s Q u s':=
  λ{σ' H' v u} J rv q=>⟨v,H',J.os,J.bare,J.base,J.zZ,rv,q⟩
 cases fl with
 |ret u=>
  obtain⟨v,σ',H',J,rv,q⟩:=hs;exact fin J rv q
 |next=>
  obtain⟨σ',H',J,q⟩:=hs;exact fin (v:=V.zG) (u:=Value.none) J rfl q
 |brk=>
  obtain⟨_,_,_,q⟩:=hs;exact False.elim q
 |cont=>
  obtain⟨_,_,_,q⟩:=hs;exact False.elim q
section
variable{X:Cx}{x:Str}{p pos:Pos}{e:Expr}{es:List Expr}{t:TA}{id T:String}{r:List V->Hp->VK->Prop}
def TL(r:List V->Hp->VK->Prop)(t:TA):TE:=λσ H Q=>t σ H λvs H1=>r vs H1 Q
theorem Rp(hc:xU X (.builtin id) r)(hg:Gl X x)(hm:X.mg x=none)(hv:bootBuiltins x=some (.builtin id))(ha:PA X (e::es) t)(hn:x ≠ "__name__" := by decide)(hdb:(x==("__debug__" : Str))=false:=by decide)
  (he:starEach (e::es) X.env=(false,eval e X.env)::starEach es X.env:=by rfl)(hpl:(backTo pos (starEach es X.env)).any (·.1)=false:=by rfl):PE X (.Call (.Name x p) (e::es) [] pos) (TL r t):=by
 intro z6 s σ H Q I h;refine Q0 (Zu I hg hm hv ?_ hn hdb);exact PyProof.Rows.callWith_builtin1 (zh (ha pos z6 s σ H _ I h) λus s1 ⟨vs,H1,I1,r1,q1⟩=>hc z6 s1 σ H1 vs us Q I1 r1 q1) he hpl
theorem Rr(hc:xU X (.type T) r)(hg:Gl X x)(hm:X.mg x=none)(hv:bootBuiltins x=some (.type T))(ha:PA X (e::es) t)(hn:x ≠ "__name__" := by decide)(hdb:(x==("__debug__" : Str))=false:=by decide)
  (he:starEach (e::es) X.env=(false,eval e X.env)::starEach es X.env:=by rfl)(hpl:(backTo pos (starEach es X.env)).any (·.1)=false:=by rfl):PE X (.Call (.Name x p) (e::es) [] pos) (TL r t):=by
 intro z6 s σ H Q I h;refine Q0 (Zu I hg hm hv ?_ hn hdb);exact Tv (zh (ha pos z6 s σ H _ I h) λus s1 ⟨vs,H1,I1,r1,q1⟩=>hc z6 s1 σ H1 vs us Q I1 r1 q1) he hpl
end
end L2
namespace HT
open PySem PyProof.Rows
section
open PySem.SeqAt
open PySem.AutoSeq1 (wpAny_loadPart')
open PySem.MeetsSeq PySem.MeetsSeq2 PySem.MeetsSeq3
end
section
variable{prog:Program}{w:World}{A:Around}{E:Value->Shared->Prop}{s:Shared}
theorem cat_tup{t b:Addr}{vs ws:List Value}{Q:Value->Shared->Prop}(ht:IsTup s.heap t vs.toArray)(hb:IsTup s.heap b ws.toArray)(hv:vs≠[])
  (h1:ws=[]->Q (.ref t) s)(h2:ws≠[]->Q (.ref s.heap.objs.size) { s with heap:=s.heap.push { cls:=.type "tuple",data:=.seq (vs++ws).toArray } })
  (hsz:vs.length+ws.length<=sizeLine):wpAny (model prog w) A (binaryOp .Add (.ref t) (.ref b)) Q E s:=by
 obtain⟨⟨cls,dd,data,sl⟩,ho,hc,n,hd⟩:=id ht;obtain⟨⟨cls2,dd2,data2,sl2⟩,ho2,hc2,n2,hd2⟩:=id hb;simp only at hc hd hc2 hd2;subst hc hd hc2 hd2;have e:vs.toArray++ws.toArray=(vs++ws).toArray:=by simp
 by_cases hw:ws=[]
 ·exact concat_meets ⟨_,ho,rfl⟩ ⟨_,ho2,rfl⟩ noFill_tuple_add seq_tuple_add PySem.F.slot_tuple_add PySem.F.entry_tuple_add (PySem.F.args_tuple_add_2 _ _)
   (tuple_addW1 t b vs.toArray ws.toArray n n2 dd dd2 sl sl2 (by simpa using hv) (by simp[hw])) ⟨ho,ho2,h1 hw⟩
 ·refine concat_meets ⟨_,ho,rfl⟩ ⟨_,ho2,rfl⟩ noFill_tuple_add seq_tuple_add PySem.F.slot_tuple_add PySem.F.entry_tuple_add (PySem.F.args_tuple_add_2 _ _)
   (tuple_addW2 t b vs.toArray ws.toArray n n2 dd dd2 sl sl2 (by simpa using hv) (by simpa using hw) (by rw[ym,ym]; exact hsz)) ⟨ho,ho2,?_⟩
  rw[e];exact h2 hw
end
end HT
namespace L2
open PySem PySem.Spec PyProof.Rows
section
variable{X:Cx}{e:Expr}{te:TE}{lo hi:Option Expr}{tl th:TO}{pos p2:Pos}
def Fc(K:W.Frag):R2:=λx y H Q=>∃a b xs ys,x=.ref a/\y=.ref b/\yb K H a xs/\yb K H b ys/\xs≠[]/\xs.length+ys.length<=sizeLine/\
 (ys=[]->Q (.ref a) H)/\(ys≠[]->∀p,H p=none->Q (.ref p) (zT H p (.tup (xs++ys))))
theorem ze.Q5{xs:List V}{us:List Value}(r:ze xs us):us=[]↔xs=[]:=by
 cases r with
 |nil=>simp
 |cons _ _=>simp
theorem RL:yB X (binaryOp .Add) (Fc X.K):=by
 intro z6 s σ H x y v u Q I rx ry h;obtain⟨a,b,xs,ys,rfl,rfl,ha,hb,hx,hz,q1,q2⟩:=h;cases rx;cases ry;obtain⟨its,r1,p1,_⟩:=I.tuple ha;obtain⟨its2,r2,p2,_⟩:=I.tuple hb;refine HT.cat_tup p1 p2 (λz=>hx (r1.Q5.mp z)) (λz=>⟨.ref a,H,I,rfl,q1 (r2.Q5.mp z)⟩) (λz=>?_) (by rw[<-r1.length,<-r2.length]; exact hz);refine⟨.ref s.heap.objs.size,_,I.laid (t':=s.toks) (o:=.tup (xs++ys)) (λb ob q=>Heap.get?_push_of_some _ q) (yF _) ?_,rfl,q2 (λw=>z (r2.Q5.mpr w)) _ (I.zZ.fresh (yF _))⟩;exact⟨by rw[yO]; exact hz,_,r1.append r2,IsTup.new _ _⟩
end
def ixN(n:Nat)(i:Int):Option Nat:=if 0<=i then(if i<n then some i.toNat else none)else if -(n:Int)<=i then some (i+n).toNat else none
def tP{α:Type}(xs:List α)(i:Int):Option α:=(ixN xs.length i).bind λj=>xs[j]?
theorem BV{n:Nat}{i:Int}{j:Nat}(h:ixN n i=some j):seqIndex? i n=some j/\j<n /\ -(n:Int)<=i/\i<n:=by
 unfold ixN at h;by_cases h0:0<=i
 ·rw[zM h0]at h;by_cases h1:i<n
  ·rw[zM h1]at h;have e:i.toNat=j:=ue h;exact⟨by rw[seqIndex_of h0 h1,e],by omega,by omega,h1⟩
  ·rw[zO h1]at h; cases h
 ·rw[zO h0]at h;by_cases h1 : -(n:Int)<=i
  ·rw[zM h1]at h;have e:(i+n).toNat=j:=ue h;exact⟨by rw[seqIndex_neg (by omega) h1,e],by omega,h1,by omega⟩
  ·rw[zO h1]at h; cases h
theorem QU{α:Type}{xs:List α}{i:Int}{v:α}(h:tP xs i=some v):∃j,seqIndex? i xs.length=some j/\xs[j]?=some v/\j<xs.length /\ -(xs.length:Int)<=i/\i<xs.length:=by
 unfold tP at h;cases e:ixN xs.length i with
 |none=>rw[e]at h; cases h
 |some j=>
  rw[e]at h;obtain⟨h1,h2,h3,h4⟩:=BV e;exact⟨j,h1,h,h2,h3,h4⟩
def Ln(b:Expr):Prop:=∀o i,subscripted b false o i=operate [o,i] (getItem o i)
def ug(X:Cx)(r:R2):Prop:=
 ∀(value slice:Expr)(z6:List (Addr×Obj)) (s:Shared) (σ:St) (H:Hp) (x y:V) (v u:Value) (Q:VK),zC X z6 σ H s->zc x v->zc y u->r x y H Q->
  subscripted slice false v u=operate [v,u] (getItem v u)->wpAny (model X.prog X.w) X.A (subscriptTail value slice v u) (EP X z6 σ Q) X.xe s
def Li(X:Cx)(id:String)(r:V->List V->Hp->VK->Prop):Prop:=
 ∀(z6:List (Addr×Obj)) (s:Shared) (σ:St) (H:Hp) (x:V) (xs:List V) (v:Value) (us:List Value) (Q:VK),zC X z6 σ H s->zc x v->ze xs us->r x xs H Q->
  wpAny (model X.prog X.w) X.A (call (.builtin id) (v::us)) (EP X z6 σ Q) X.xe s
section
variable{X:Cx}{a b:Expr}{ta tb:TE}{pos:Pos}
theorem ug.or{r r':R2}(h:ug X r)(h':ug X r'):ug X (λx y H Q=>r x y H Q\/r' x y H Q):=by
 intro value slice z6 s σ H x y v u Q I rx ry q hs;rcases q with q|q
 ·exact h value slice z6 s σ H x y v u Q I rx ry q hs
 ·exact h' value slice z6 s σ H x y v u Q I rx ry q hs
theorem Im{r:R2}(hr:ug X r)(ha:PE X a ta)(hb:PE X b tb)(hs:Ln b):PE X (.Subscript a b pos) (TQ r ta tb):=by
 intro z6 s σ H Q I h;exact Subscript_ (Ql ha hb I h λv u s2 x y H2 I2 rx ry q=>hr a b z6 s2 σ H2 x y v u Q I2 rx ry q (hs _ _))
def Ff(K:W.Frag):R2:=λx y H Q=>∃p xs i v,x=.ref p/\y=.int i/\yJ K H p xs/\tP xs i=some v/\Q v H
def Fh(K:W.Frag):R2:=λx y H Q=>∃p xs i v,x=.ref p/\y=.int i/\yb K H p xs/\tP xs i=some v/\Q v H
def Fg:R2:=λx y H Q=>∃z i c,x=.str z/\y=.int i/\z.length<=sizeLine/\tP z.cps.toList i=some c/\Q (.str ⟨#[c]⟩) H
theorem KW:ug X (Ff X.K):=by
 intro value slice z6 s σ H x y v u Q I rx ry h hs;obtain⟨p,xs,i,z,rfl,rfl,hq,he,q⟩:=h;cases rx;obtain⟨t,rfl⟩:=ry;obtain⟨its,r,pl,hz⟩:=I.list hq;obtain⟨j,h1,h2,h3,h4,h5⟩:=QU he;obtain⟨w,ew,rw'⟩:=r.get h2;have hl:=r.length;have hn:=Zv;have fin:EP X z6 σ Q w s:=⟨z,H,I,rw',q⟩;by_cases h0:0<=i
 ·have hj:i.toNat=j:=by
   rw[seqIndex_of h0 h5]at h1;exact ue h1
  exact item_listR pl.isList h0 (by omega) (by rw[hj]; simpa using ew) fin hs
 ·have hj:(i+(its.toArray.size:Int)).toNat=j:=by
   rw[seqIndex_neg (by omega) h4]at h1;rw[ym,<-hl];exact ue h1
  exact T_ (x:=w) pl.isList.typeIs slot_list_getitem.lookup
   (wpAny_getItem_list_neg (Q:=λr s'=>r=w/\EP X z6 σ Q r s') pl.isList (by omega) (by rw[ym]<;>omega) (by omega) (by rw[hj]; simpa using ew) ⟨rfl,fin⟩) hs
theorem Kb:ug X (Fh X.K):=by
 intro value slice z6 s σ H x y v u Q I rx ry h hs;obtain⟨p,xs,i,z,rfl,rfl,hq,he,q⟩:=h;cases rx;obtain⟨t,rfl⟩:=ry;obtain⟨its,r,pl,hz⟩:=I.tuple hq;obtain⟨j,h1,h2,h3,h4,h5⟩:=QU he;obtain⟨w,ew,rw'⟩:=r.get h2;have hl:=r.length;have hn:=Zv;have fin:EP X z6 σ Q w s:=⟨z,H,I,rw',q⟩
 exact T_ (x:=w) pl.typeIs slot_tuple_getitem.lookup
  (getItem_tuple (j:=j) (Q:=λr s'=>r=w/\EP X z6 σ Q r s') pl (by omega) (by omega) (by rw[ym,<-hl]; exact h1) (by simpa using ew) ⟨rfl,fin⟩) hs
theorem KZ:ug X Fg:=by
 intro value slice z6 s σ H x y v u Q I rx ry h hs;obtain⟨z,i,c,rfl,rfl,hz,he,q⟩:=h;obtain⟨t,rfl⟩:=rx;obtain⟨t',rfl⟩:=ry;obtain⟨j,h1,h2,h3,h4,h5⟩:=QU he;have hl:z.cps.toList.length=z.length:=by simp[Str.length]
 rw[hl]at h1 h4 h5;have hn:=Zv
 exact tail_any (typeIs_str s z t) slot_str_getitem.lookup (getItem_str (c:=c) (by
  have e1:decide (i < -(2 ^ 63:Int))=false:=v4 (by omega);have e2:decide (i≥2 ^ 63)=false:=v4 (by omega);rw[e1,e2,Bool.or_false]) (by rw[h1]; simpa using h2) ⟨.str ⟨#[c]⟩,H,I.tok _,⟨_,rfl⟩,q⟩) hs
def O0(K:W.Frag):R2:=λx y H Q=>Ff K x y H Q\/Fh K x y H Q\/Fg x y H Q
theorem KY:ug X (O0 X.K):=KW.or (Kb.or KZ)
theorem NE(its:List Value)(n j:Nat)(u:Value):Obj.mapSeq (·.setIfInBounds j u) { cls:=.type "list",data:=.seq its.toArray n }={ cls:=.type "list",data:=.seq (its.set j u).toArray n }:=by
 simp[Obj.mapSeq]
theorem zC.lst{z6:List (Addr×Obj)}{σ:St}{H:Hp}{s:Shared}{p:Addr}{xs:List V}(I:zC X z6 σ H s)(h:H p=some (.lst xs)) :
  ∃(its:List Value) (n:Nat),ze xs its/\s.heap.get? p=some { cls:=.type "list",data:=.seq its.toArray n }/\xs.length<=sizeLine:=by
 obtain⟨z,its,n,r,e⟩:=I.zZ p _ h;exact⟨its,n,r,e,z⟩
theorem zC.ER{z6:List (Addr×Obj)}{σ:St}{H:Hp}{s:Shared}{p:Addr}{xs ys:List V}{its its':List Value}{n n':Nat}{f:Obj->Obj}(I:zC X z6 σ H s)(h:H p=some (.lst xs))
  (ho:s.heap.get? p=some { cls:=.type "list",data:=.seq its.toArray n })(hf:f { cls:=.type "list",data:=.seq its.toArray n }={ cls:=.type "list",data:=.seq its'.toArray n' })(r:ze ys its')(hz:ys.length<=sizeLine)(t:Nat) :
  zC X z6 σ (zT H p (.lst ys)) { s with heap:=s.heap.update p f,toks:=t }:=by
 have e:(s.heap.update p f).get? p=some { cls:=.type "list",data:=.seq its'.toArray n' }:=by
  rw[Heap.get?_update_self f ho (by rw[hf]<;>rfl),hf]
 refine I.write (x:=p) (e:=p) (by rw[h]; trivial) (.inl rfl) (λb u hb q=>(Heap.get?_update_other _ _ (j4 hb)).trans q) ⟨_,e⟩ ?_;exact⟨hz,its',n',r,e⟩
def A5:V->V->V->Hp->(Hp->Prop)->Prop:=λo i v H Q=>∃p xs k j,o=.ref p/\i=.int k/\H p=some (.lst xs)/\ixN xs.length k=some j/\Q (zT H p (.lst (xs.set j v)))
theorem bC:QQ X A5:=by
 intro z6 s σ H o i v ov iv u Q I ro ri rv h;obtain⟨p,xs,k,j,rfl,rfl,hp,hj,q⟩:=h;cases ro;obtain⟨t,rfl⟩:=ri;obtain⟨its,n,r,ho,hz⟩:=I.lst hp;obtain⟨h1,h2,h3,h4⟩:=BV hj;have hl:=r.length;have hn:=Zv
 have I':zC X z6 σ (zT H p (.lst (xs.set j v))) { s with heap:=s.heap.update p (Obj.mapSeq (·.setIfInBounds j u)) }:=
  I.ER hp ho (NE its n j u) (r.set rv j) (by rw[vO]; exact hz) s.toks
 by_cases h0:0<=k
 ·have hk:k.toNat=j:=by
   rw[seqIndex_of h0 h4]at h1;exact ue h1
  exact W.ki_setAt ho h0 (by omega) (by rw[ym,<-hl]; exact h4) (by rw[hk]; exact⟨_,I',q⟩)
 ·have hk:(k+(its.toArray.size:Int)).toNat=j:=by
   rw[seqIndex_neg (by omega) h3]at h1;rw[ym,<-hl];exact ue h1
  exact W.ki_setBack ho (by omega) (by rw[ym,<-hl]; exact h3) (by omega) (by rw[hk]; exact⟨_,I',q⟩)
def qJ:V->Bool
 |.zG=>true
 |.bl _=>true
 |.int _=>true
 |.str _=>true
 |_=>false
def tS:V->V->Bool
 |.zG,.zG=>true
 |.bl a,.bl b=>a==b
 |.bl a,.int b=>(if a then 1 else 0)==b
 |.int a,.bl b=>a==(if b then 1 else 0)
 |.int a,.int b=>a==b
 |.str a,.str b=>a==b
 |_,_=>false
theorem M_{A:Around}{s:Shared}{y x:V}{u v:Value}(ry:zc y u)(rx:zc x v)(fy:qJ y=true)(fx:qJ x=true):SeqAt.EqAt A s u v (tS y x):=by
 cases y with
 |zG=>
  cases ry;cases x with
  |zG=>cases rx; exact LD _
  |bl b=>cases rx; exact SeqAt.EqAt.none_bool b
  |int b=>obtain⟨t,rfl⟩:=rx; exact SeqAt.EqAt.none_int b t
  |str b=>obtain⟨t,rfl⟩:=rx; exact SeqAt.EqAt.none_str b t
  |_=>exact absurd (show false=true from fx) xT
 |bl a=>
  cases ry;cases x with
  |zG=>cases rx; exact SeqAt.EqAt.bool_none a
  |bl b=>cases rx; exact SeqAt.EqAt.bool_bool a b
  |int b=>obtain⟨t,rfl⟩:=rx; exact SeqAt.EqAt.bool_int a b t
  |str b=>obtain⟨t,rfl⟩:=rx; exact SeqAt.EqAt.bool_str a b t
  |_=>exact absurd (show false=true from fx) xT
 |int a=>
  obtain⟨t',rfl⟩:=ry;cases x with
  |zG=>cases rx; exact SeqAt.EqAt.int_none a t'
  |bl b=>cases rx; exact SeqAt.EqAt.int_bool a t' b
  |int b=>obtain⟨t,rfl⟩:=rx; exact SeqAt.EqAt.int_int a t' b t
  |str b=>obtain⟨t,rfl⟩:=rx; exact SeqAt.EqAt.int_str a t' b t
  |_=>exact absurd (show false=true from fx) xT
 |str a=>
  obtain⟨t',rfl⟩:=ry;cases x with
  |zG=>cases rx; exact SeqAt.EqAt.str_none a t'
  |bl b=>cases rx; exact SeqAt.EqAt.str_bool a t' b
  |int b=>obtain⟨t,rfl⟩:=rx; exact SeqAt.EqAt.str_int a t' b t
  |str b=>obtain⟨t,rfl⟩:=rx; exact SeqAt.EqAt.str_str a t' b t
  |_=>exact absurd (show false=true from fx) xT
 |_=>exact absurd (show false=true from fy) xT
def u5(x:V)(u:Value):Bool:=match u with
 |.none=>tS .zG x
 |.bool b=>tS (.bl b) x
 |.int i _=>tS (.int i) x
 |.str z _=>tS (.str z) x
 |_=>false
theorem B1{x y:V}{u:Value}(r:zc y u)(f:qJ y=true):u5 x u=tS y x:=by
 cases y with
 |zG=>cases r; rfl
 |bl b=>cases r; rfl
 |int i=>obtain⟨t,rfl⟩:=r; rfl
 |str z=>obtain⟨t,rfl⟩:=r; rfl
 |_=>exact absurd (show false=true from f) xT
theorem Yz{x:V}:∀{xs:List V}{us:List Value},ze xs us->xs.all qJ=true->us.any (u5 x)=xs.any λy=>tS y x
 |_,_,.nil,_=>rfl
 |y::xs,u::us,.cons r t,f=>by
  rw[xf,yD]at f;rw[YU,YU,B1 r f.1,Yz t f.2]
theorem XL{A:Around}{s:Shared}{x:V}{v:Value}(rx:zc x v)(fx:qJ x=true):∀{xs:List V}{us:List Value},ze xs us->xs.all qJ=true->∀u∈us,SeqAt.EqAt A s u v (u5 x u)
 |_,_,.nil,_=>λu hu=>by cases hu
 |y::xs,u::us,.cons r t,f=>λu' hu=>by
  rw[xf,yD]at f;rcases yl.mp hu with rfl|hu
  ·rw[B1 r f.1]; exact M_ r rx f.1 fx
  ·exact XL rx fx t f.2 u' hu
def Ud(x:V)(xs:List V):Bool:=xs.any λy=>tS y x
def Iz(K:W.Frag)(neg:Bool):R2:=λx y H Q=>∃p xs,y=.ref p/\(yJ K H p xs\/yb K H p xs)/\qJ x=true/\xs.all qJ=true/\Q (.bl (if neg then !Ud x xs else Ud x xs)) H
theorem RQ:yB X (compareOp .In) (Iz X.K false):=by
 intro z6 s σ H x y v u Q I rx ry h;obtain⟨p,xs,rfl,hq,fx,fs,q⟩:=h;cases ry;rcases hq with hq|hq
 ·obtain⟨its,r,pl,hz⟩:=I.list hq;refine SeqAt.in_listAt (u5 x) pl.isList (λw hw=>XL rx fx r fs w (by simpa using hw)) ⟨.bl _,H,I,rfl,?_⟩;rw[show its.toArray.any (u5 x)=its.any (u5 x) by simp,Yz r fs];exact q
 ·obtain⟨its,r,pl,hz⟩:=I.tuple hq;refine SeqAt.in_tupleAt (u5 x) pl (λw hw=>XL rx fx r fs w (by simpa using hw)) ⟨.bl _,H,I,rfl,?_⟩;rw[show its.toArray.any (u5 x)=its.any (u5 x) by simp,Yz r fs];exact q
theorem RZ:yB X (compareOp .NotIn) (Iz X.K true):=by
 intro z6 s σ H x y v u Q I rx ry h;obtain⟨p,xs,rfl,hq,fx,fs,q⟩:=h;cases ry;rcases hq with hq|hq
 ·obtain⟨its,r,pl,hz⟩:=I.list hq;refine SeqAt.notIn_listAt (u5 x) pl.isList (λw hw=>XL rx fx r fs w (by simpa using hw)) ⟨.bl _,H,I,rfl,?_⟩;rw[show its.toArray.any (u5 x)=its.any (u5 x) by simp,Yz r fs];exact q
 ·obtain⟨its,r,pl,hz⟩:=I.tuple hq;refine SeqAt.notIn_tupleAt (u5 x) pl (λw hw=>XL rx fx r fs w (by simpa using hw)) ⟨.bl _,H,I,rfl,?_⟩;rw[show its.toArray.any (u5 x)=its.any (u5 x) by simp,Yz r fs];exact q
theorem Ra:yB X (compareOp .NotIn) (λx y H Q=>∃i j,x=.str i/\y=.str j/\Q (.bl (!(!(Builtin.Str.occurrences j i 0 j.length 1).isEmpty))) H):=by
 intro z6 s σ H x y v u Q I rx ry h;obtain⟨i,j,rfl,rfl,q⟩:=h;obtain⟨t,rfl⟩:=rx;obtain⟨t',rfl⟩:=ry;exact notIn_str ⟨.bl _,H,I,rfl,q⟩
theorem GR:xU X (.builtin "len") (λxs H Q=>∃p ys,xs=[.ref p]/\(yJ X.K H p ys\/yb X.K H p ys)/\Q (.int ys.length) H):=by
 intro z6 s σ H xs us Q I r h;obtain⟨p,ys,rfl,hq,q⟩:=h;obtain⟨u,rfl,rx⟩:=vg r;cases rx;have hn:=Zv;rcases hq with hq|hq
 ·obtain⟨its,r',pl,hz⟩:=I.list hq;have hlen:=r'.length;exact Calls.call_len_list pl.isList (by simp only[ym]<;>omega) ⟨.int ys.length,H,I.tok _,⟨s.toks+1,by rw[ym,hlen]⟩,q⟩
 ·obtain⟨its,r',pl,hz⟩:=I.tuple hq;have hlen:=r'.length;exact len_tuple pl (by simp only[ym]<;>omega) ⟨.int ys.length,H,I.tok _,⟨s.toks+1,by rw[ym,hlen]⟩,q⟩
theorem GS:xU X (.builtin "len") (λxs H Q=>∃z,xs=[.str z]/\z.length<=sizeLine/\Q (.int z.length) H):=by
 intro z6 s σ H xs us Q I r h;obtain⟨z,rfl,hz,q⟩:=h;obtain⟨u,rfl,t,rfl⟩:=vg r;have hn:=Zv;exact len_str (by omega) ⟨.int z.length,H,I.tok _,⟨_,rfl⟩,q⟩
theorem xU.or{f:Value}{r r':List V->Hp->VK->Prop}(h:xU X f r)(h':xU X f r'):xU X f (λxs H Q=>r xs H Q\/r' xs H Q):=by
 intro z6 s σ H xs us Q I rs q;rcases q with q|q
 ·exact h z6 s σ H xs us Q I rs q
 ·exact h' z6 s σ H xs us Q I rs q
theorem GU:xU X (.type "list") (λxs H Q=>∃p ys,xs=[.ref p]/\(yJ X.K H p ys\/yb X.K H p ys)/\∀l,H l=none->Q (.ref l) (zT H l (.lst ys))):=by
 intro z6 s σ H xs us Q I r h;obtain⟨p,ys,rfl,hq,q⟩:=h;obtain⟨u,rfl,rx⟩:=vg r;cases rx
 have fin:∀(its:List Value),ze ys its->ys.length<=sizeLine->∀(h':Heap)(c':Nat),(∀b o',s.heap.get? b=some o'->h'.get? b=some o')->
   h'.get? s.heap.objs.size=some { cls:=.type "list",dict:=none,data:=.seq its.toArray c',slots:=#[] }->EP X z6 σ Q (.ref s.heap.objs.size) { s with heap:=h' }:=λits r' hz h' c' kp e=>
  ⟨.ref s.heap.objs.size,_,I.laid (t':=s.toks) kp (yF _) (show yx X.prog X.w _ h' _ (.lst ys)from⟨hz,its,c',r',e⟩),rfl,q _ (I.zZ.fresh (yF _))⟩
 rcases hq with hq|hq
 ·obtain⟨its,r',pl,hz⟩:=I.list hq;have hlen:=r'.length;obtain⟨o,ho,hc,n,hd⟩:=pl.isList;exact call_list_seq p (.inl rfl) ho hc hd (λh' c' kp e=>fin its r' hz h' c' kp e) (by simp only[ym]<;>omega)
 ·obtain⟨its,r',pl,hz⟩:=I.tuple hq;have hlen:=r'.length;obtain⟨o,ho,hc,n,hd⟩:=pl;exact call_list_seq p (.inr rfl) ho hc hd (λh' c' kp e=>fin its r' hz h' c' kp e) (by simp only[ym]<;>omega)
theorem Qt:xU X (.type "tuple") (λxs H Q=>∃p ys,xs=[.ref p]/\((yJ X.K H p ys/\∀l,H l=none->Q (.ref l) (zT H l (.tup ys)))\/(yb X.K H p ys/\Q (.ref p) H))):=by
 intro z6 s σ H xs us Q I r h;obtain⟨p,ys,rfl,h⟩:=h;obtain⟨u,rfl,rx⟩:=vg r;cases rx;rcases h with⟨hq,q⟩|⟨hq,q⟩
 ·obtain⟨its,r',pl,hz⟩:=I.list hq;have hlen:=r'.length;refine call_tuple_list pl.isList (λh' kp=>?_) (by simp only[ym]<;>omega);have I1:zC X z6 σ H { s with heap:=h' }:=I.kept (t':=s.toks) kp
  have I2:zC X z6 σ (zT H h'.objs.size (.tup ys)) { s with heap:=h'.push { cls:=.type "tuple",data:=.seq its.toArray } }:=
   I1.laid (t':=s.toks) (λb o e=>Heap.get?_push_of_some _ e) (yF _) (show yx X.prog X.w _ _ _ (.tup ys)from⟨hz,its,r',IsTup.new _ _⟩)
  exact⟨.ref h'.objs.size,_,I2,rfl,q _ (I1.zZ.fresh (yF _))⟩
 ·obtain⟨its,r',pl,hz⟩:=I.tuple hq;exact call_tuple_same pl ⟨.ref p,H,I,rfl,q⟩
def Ca(K:W.Frag)(T:String)(x:V)(H:Hp):Prop:=match x with
 |.str _=>T = "str"
 |.int _=>T = "int"
 |.ref p=>(T = "list" /\ ∃xs,yJ K H p xs)\/(T = "tuple" /\ ∃o,K.lookup p=some o/\o.cls=.type "tuple" /\ o.dict=none) \/
   (T = "dict" /\ ((∃kvs,H p=some (.dK kvs))\/∃kvs,H p=some (.dT kvs)))\/(T = "set" /\ ∃S n,H p=some (.set S n))
 |_=>False
theorem dL{z6:List (Addr×Obj)}{σ:St}{H:Hp}{s:Shared}{T:String}{x:V}{v:Value}(I:zC X z6 σ H s)(r:zc x v)(ty:Ca X.K T x H) :
  s.TypeIs v T/\∀a,v=.ref a->∃ob,s.heap.get? a=some ob/\ob.dict=none:=by
 cases x with
 |str z=>
  obtain⟨t,rfl⟩:=r;cases(show T = "str" from ty);exact⟨typeIs_str s z t,λ_ e=>nomatch e⟩
 |int i=>
  obtain⟨t,rfl⟩:=r;cases(show T = "int" from ty);exact⟨typeIs_int s i t,λ_ e=>nomatch e⟩
 |ref p=>
  cases r;rcases ty with⟨rfl,xs,hq⟩|⟨rfl,o,hk,hc,hd⟩|⟨rfl,hk⟩|⟨rfl,S,n,hk⟩
  ·obtain⟨its,_,pl,_⟩:=I.list hq;refine⟨pl.isList.typeIs,λa e=>?_⟩;cases e;obtain⟨o,n,e,c,hd,_⟩:=pl;exact⟨o,e,hd⟩
  ·refine⟨⟨o,I.xA p o hk,hc⟩,λa e=>?_⟩;cases e;exact⟨o,I.xA _ o hk,hd⟩
  ·have z:∃o,s.heap.get? p=some o/\o.ExactDict:=by
    rcases hk with⟨kvs,hk⟩|⟨kvs,hk⟩
    ·obtain⟨_,_,_,_,o,_,_,e,ex,_⟩:=I.zZ p _ hk;exact⟨o,e,ex⟩
    ·obtain⟨_,_,_,_,o,_,_,e,ex,_⟩:=I.zZ p _ hk;exact⟨o,e,ex⟩
   obtain⟨o,e,ex⟩:=z;refine⟨⟨o,e,ex.1⟩,λa e2=>?_⟩;cases e2;exact⟨o,e,ex.2.1⟩
  ·obtain⟨o,_,_,_,e,ex,_⟩:=I.zZ p _ hk;refine⟨⟨o,e,ex.1⟩,λa e2=>?_⟩;cases e2;exact⟨o,e,ex.2.1⟩
 |_=>exact False.elim ty
def CS(K:W.Frag)(T:String)(r:V->List V->Hp->VK->Prop)(to:TE)(t:TA):TE:=λσ H Q=>to σ H λx H1=>Ca K T x H1/\t σ H1 λxs H2=>r x xs H2 Q
variable{o e:Expr}{es:List Expr}{to:TE}{t:TA}{name:Str}{apos cpos:Pos}{T id:String}{r:V->List V->Hp->VK->Prop}
theorem Rm(pa:PlainAttrs T)(slot:Slot T name id)(hty:typeOf (.builtin id)=pure (.type "method_descriptor"))(hm:Li X id r)(ho:PE X o to)(ha:PA X (e::es) t)
  (hbase:attributeBase o name X.env (eval o X.env)=eval o X.env:=by rfl)
  (hfew:((backTo cpos (starEach (e::es) X.env)).all (λx=>!x.1)&&(backToKw cpos (keywordEach [] X.env)).all (λx=>x.1.isSome)
   && decide ((e::es).length+([]:List Keyword).length+(if([]:List Keyword).isEmpty then 0 else 1)<30))=true:=by rfl)
  (hline:(apos.endLine==cpos.line)=true:=by rfl)(hs:starEach (e::es) X.env=(false,eval e X.env)::starEach es X.env:=by rfl)(hplain:(backTo cpos (starEach es X.env)).any (·.1)=false:=by rfl) :
  PE X (.Call (.Attribute o name apos) (e::es) [] cpos) (CS X.K T r to t):=by
 intro z6 s σ H Q I h;refine wpAny_Call_method_late hbase hfew hline rfl (zh (ho z6 s σ H _ I h) λv s1 ⟨x,H1,I1,r1,ty,q1⟩=>?_);obtain⟨h1,h2⟩:=dL I1 r1 ty;refine⟨T,id,pa,slot,hty,h1,h2,?_⟩;have hA:=ha cpos z6 s1 σ H1 _ I1 q1;rw[hs]at hA ⊢;refine Calls.callWith_builtin (by show(false||(backTo cpos (starEach es X.env)).any (·.1))=false; rw[hplain]<;>rfl) (Calls.evalArgs_plain ?_);exact zh hA λus s2 ⟨vs,H2,I2,r2,q2⟩=>hm z6 s2 σ H2 x vs v us Q I2 r1 r2 q2
end
def Ee(X:Cx)(id:String)(r:V->List V->Hp->VK->Prop):Prop:=
 ∀(z6:List (Addr×Obj)) (s:Shared) (σ:St) (H:Hp) (x:V) (xs:List V) (v:Value) (us:List Value) (Q:VK),zC X z6 σ H s->zc x v->ze xs us->r x xs H Q->
  wpAny (model X.prog X.w) X.A (call (.builtin id) (v::us)) (EP X z6 σ Q) X.xe s
theorem ze.one:∀{x:V}{us:List Value},ze [x] us->∃u,us=[u]/\zc x u
 |_,_,.cons r .nil=>⟨_,rfl,r⟩
theorem ze.rep{xs:List V}{us:List Value}(h:ze xs us):∀k:Nat,ze (List.replicate k xs).flatten (List.replicate k us).flatten
 |0=>.nil
 |k+1=>by
  rw[j3,j3,YW,YW];exact ze.append h (ze.rep h k)
theorem B6(its:List Value):∀(k:Nat)(acc:List Value),
  List.foldl (λx1 x2=>x1++x2) acc.toArray (List.replicate k its.toArray)=(acc++(List.replicate k its).flatten).toArray
 |0,acc=>by simp
 |k+1,acc=>by
  have e:acc.toArray++its.toArray=(acc++its).toArray:=by simp
  have e2:(acc++its)++(List.replicate k its).flatten=acc++(List.replicate (k+1) its).flatten:=by
   rw[j3,YW,Tp]
  rw[<-e2,<-B6 its k (acc++its),<-e,j3,List.foldl_cons]
section
variable{X:Cx}{z6:List (Addr×Obj)}{σ:St}{H:Hp}{s:Shared}{l b:Addr}{xs ys zs:List V}
theorem zC.EQ{its its':List Value}{n:Nat}{f:Array Value->Array Value}{t':Nat}(I:zC X z6 σ H s)(hH:H l=some (.lst xs))
  (e:s.heap.get? l=some { cls:=.type "list",data:=.seq its.toArray n })(hf:f its.toArray=its'.toArray)(hv:ze ys its')(hz:ys.length<=sizeLine) :
  zC X z6 σ (zT H l (.lst ys)) { s with heap:=s.heap.update l (Obj.mapSeq f),toks:=t' }:=by
 have q:=PySem.IsL.update e f;rw[hf]at q;refine I.write (x:=l) (e:=l) (by rw[hH]; exact trivial) (.inl rfl) (λb' u hb hu=>(Heap.get?_update_other s.heap (Obj.mapSeq f) (j4 hb)).trans hu) ⟨_,q⟩ ?_;exact⟨hz,its',_,hv,q⟩
theorem zC.LR{its:List Value}{t':Nat}(I:zC X z6 σ H s)(hv:ze ys its)(hz:ys.length<=sizeLine) :
  zC X z6 σ (zT H s.heap.objs.size (.lst ys)) { s with heap:=s.heap.push { cls:=.type "list",data:=.seq its.toArray },toks:=t' }:=
 I.laid (λ_ _ q=>Heap.get?_push_of_some _ q) (yF _) ⟨hz,its,0,hv,Heap.get?_push_size _ rfl⟩
theorem zC.fresh(I:zC X z6 σ H s):H s.heap.objs.size=none:=I.zZ.fresh (yF _)
theorem zC.LS(I:zC X z6 σ H s)(hH:H l=some (.lst xs)):xs.length<=sizeLine/\∃(its:List Value) (n:Nat),ze xs its/\xs.length=its.length/\s.heap.get? l=some { cls:=.type "list",data:=.seq its.toArray n }:=by
 obtain⟨z,its,n,r,e⟩:=I.zZ l _ hH;exact⟨z,its,n,r,r.length,e⟩
theorem Nn{n:Nat}(h:n<=sizeLine):Builtin.List.listTooLong n=false:=by
 unfold Builtin.List.listTooLong;exact v4 (by omega)
end
section
variable{X:Cx}
def Sz:V->List V->Hp->VK->Prop:=λx vs H Q=>∃l xs y,x=.ref l/\vs=[y]/\H l=some (.lst xs)/\xs.length<sizeLine/\Q .zG (zT H l (.lst (xs++[y])))
theorem NY:Ee X "list.append" Sz:=by
 intro z6 s σ H x vs v us Q I rx rv h;obtain⟨l,xs,y,rfl,rfl,hH,hz,q⟩:=h;cases rx;obtain⟨u,rfl,ru⟩:=rv.one;obtain⟨z,its,n,r,hl,e⟩:=I.LS hH;refine Tw F.slot_list_append ⟨_,e,rfl⟩ F.entry_list_append (F.args_list_append_2 _ _) (PySem.list_append l its.toArray n u (by rw[ym]; omega)) ⟨e,?_⟩;refine⟨.zG,_,I.EQ (its':=its++[u]) hH e (by simp) (r.append (.cons ru .nil)) ?_,rfl,q⟩;rw[yO,List.length_singleton];omega
def A4:R2:=λx y H Q=>∃l k xs,x=.ref l/\y=.int k/\H l=some (.lst xs) /\ -(2 ^ 63)<=k/\k<2 ^ 63/\xs.length*k.toNat<=sizeLine/\
 ∀p,H p=none->Q (.ref p) (zT H p (.lst (List.replicate k.toNat xs).flatten))
theorem Bh{α:Type}(xs:List α)(k:Nat):(List.replicate k xs).flatten.length=k*xs.length:=by
 induction k with
 |zero=>simp
 |succ k ih=>rw[j3,YW,yO,ih,Nat.succ_mul,Nat.add_comm]
theorem Rc:yB X (binaryOp .Mult) A4:=by
 intro z6 s σ H x y v u Q I rx ry h;obtain⟨l,k,xs,rfl,rfl,hH,h1,h2,hz,q⟩:=h;cases rx;obtain⟨t,rfl⟩:=ry;obtain⟨z,its,n,r,hl,e⟩:=I.LS hH;have hlen:its.toArray.size*k.toNat<=sizeLine:=by rw[ym,<-hl]; exact hz
 have hcap:¬ its.toArray.size*k.toNat>(2 ^ 63-1)/8:=by
  have:(sizeLine:Nat)<=(2 ^ 63-1)/8:=by decide
  omega
 have hfit:¬ (!Builtin.List.listFitsIndex k)=true:=by
  rw[fitsIndex_both h1 h2];exact xT
 have hlong:¬ Builtin.List.listTooLong (its.toArray.size*k.toNat)=true:=by
  rw[Nn hlen];exact xT
 have hnew:List.foldl (λx1 x2=>x1++x2) #[] (List.replicate (if its.toArray.isEmpty=true then 0 else k.toNat) its.toArray)=(List.replicate k.toNat its).flatten.toArray:=by
  have f0:∀m:Nat,List.foldl (λx1 x2=>x1++x2) #[] (List.replicate m its.toArray)=(List.replicate m its).flatten.toArray:=λm=>by
   have:=B6 its m [];rw[Tr]at this;exact this
  rw[f0];cases its with
  |nil=>simp
  |cons a r'=>rw[zO (by simp)]
 refine wpAny_binaryOp_repeat_ref (T := "list") (U := "int") (by decide) ⟨_,e,rfl⟩ (λs'=>typeIs_int s' k t) noFill_list_mul F.fills_int_mul F.slot_int_rmul repeat_list F.slot_int_index.lookup
  (Tw F.slot_int_rmul (typeIs_int s k t) F.entry_int_rmul (F.args_int_rmul_2 _ _) (int___rmul___int_list k t l its.toArray n)
   ⟨e,rfl,⟨_,e,rfl⟩,Tw F.slot_list_mul ⟨_,e,rfl⟩ F.entry_list_mul (F.args_list_mul_2 _ _) (AutoListH.list___mul___list_int_3 l its.toArray n k t hfit hcap hlong) ⟨e,?_⟩⟩)
 rw[hnew];exact⟨.ref _,_,I.LR (t':=s.toks) (r.rep k.toNat) (by rw[Bh,Nat.mul_comm]; exact hz),rfl,q _ I.fresh⟩
end
section
variable{prog:Program}{w:World}{A:Around}{E:Value->Shared->Prop}{s:Shared}
end
section
variable{X:Cx}
end
end L2
namespace Att
open PySem PySem.W PySem.Calls PyProof.Rows
theorem KP{P:Params}{h:Heap}:∀(ns:List Int)(vs:List Value),WellAll P h vs (ns.map WData.int)->IntsAre vs ns:=by
 intro ns
 induction ns with
 |nil=>
  intro vs w;rw[jw]at w;cases w;exact .nil
 |cons n ns ih=>
  intro vs w;rw[y_]at w;cases w with
  |cons a b=>
   cases a;exact .cons _ _ (ih _ b)
theorem script_of{l:OpenLaw}{n:Nat}(hn:l.most=some n){P:Params}{h:Heap}{args:List WData}{vals:List Value}
  (hpre:l.row.toRowW.claim.pre args=true)(hwl:WellAll P h vals args) :
  ∃a vs ns,vals=[Value.ref a]/\args=[WData.list (ns.map WData.int)]/\h.get? a=some { cls:=.type "list",data:=.seq vs.toArray }/\IntsAre vs ns/\ns.length<=n:=by
 have hsh:WShape.hasAll [] args [.list .int]=true:=(pre_splitW hpre).1;have hc:l.pre.holds [] { args:=args }=true:=(pre_splitW hpre).2;obtain⟨d,r,rfl,h1,h2⟩:=hasAllW_cons hsh;obtain rfl:=hasAllW_nil h2;obtain⟨xs,rfl,h3⟩:=hasW_list h1;obtain⟨ns,rfl⟩:=items_int h3
 have hlen:ns.length<=n:=by
  unfold OpenLaw.pre at hc
  have h4:(WTm.not (.lt (.lit (.int (n:Int))) (.len (.arg 0)))).holds [] { args:=[.list (ns.map .int)] }=true:=by
   have h4:=(holds_andW hc).1;rw[hn]at h4;exact h4
  have h5:=condW_of h4 (w_not (w_lt w_lit (w_len_list (w_arg rfl))));rw[zm]at h5;refine Nat.le_of_not_lt λq=>?_
  have q':(n:Int)<((ns.length:Nat):Int):=by omega
  first
   |(rw[yQ q']at h5; exact absurd h5 (by decide))
   |(simp at h5; omega)
 cases hwl with
 |cons w1 w2=>
  cases w2;cases w1 with
  |list ho hall=>exact⟨_,_,ns,rfl,rfl,ho,KP ns _ hall,hlen⟩
theorem post_true(l:OpenLaw)(args:List WData):l.row.toRowW.claim.post args (.bool true) args=true:=
 postW_of (r:=l.row.toRowW) (X:=(true==true))
  (show WShape.has [] (.bool true) .bool=true by first|rfl|decide|simp[WShape.has,WShape.arms,WShape.armsAll])
  (show(WTm.eq .res (.lit (.bool true))).value [] { args:=args,res:=some (.bool true),after:=args }=some (.bool (true==true))from w_eq_bool (w_res rfl) w_lit) rfl
section
variable{prog:Program}{w:World}{A:Around}{E:Value->Shared->Prop}{s:Shared}{K:Frag}
end
end Att
namespace L2
open PySem PySem.Spec PyProof.Rows
theorem Ch:∀{vs:List Value}{ns:List Int},IntsAre vs ns->ze (ns.map V.int) vs
 |_,_,.nil=>.nil
 |_,_,.cons n t h=>.cons ⟨t,rfl⟩ (Ch h)
def Lm(H:Hp):Prop:=∀b,H b=none\/∃o xs,H b=some (.xj o (.lst xs))
theorem Ky{P:Program}{w:World}{K:W.Frag}{mg mb:Str->Option Value}{CX:qF}{k:Nat}{fa a:Addr}{fd:FuncData}{x:Str}{sp:Sp}{s₁:Shared}{vs:List Value}{ns:List Int}
  (KX:K.In s₁.heap)(hns:s₁.heap.Ns mainGlobals mg)(hb:s₁.heap.Ns builtinsNs mb)(hbb:∀x:Str,x ≠ "__name__" -> mb x=bootBuiltins x)(hlim:s₁.heap.NoLimit)(hg:s₁.gens=#[])
  (ha:s₁.heap.get? a=some { cls:=.type "list",data:=.seq vs.toArray })(hi:IntsAre vs ns)(hl:ns.length<=sizeLine)(hr:yI k callerA)
  (F:∀base:Heap,K.In base->base.Ns mainGlobals mg->yj P w K mg base CX k fa fd [x] sp)(hbind:∀(s:Shared)(u:Value),BindsTo s fd ⟨[u],[]⟩ [(x,u)])
  (hsp:∀H:Hp,Lm H->yJ K H a (ns.map V.int)->sp [.ref a] H (λv _=>v=.bl true) λ_ _ _=>False)
  (hCX:∀H e s',CX [] H s₁ (λ_ _ _=>False) e s'->False) :
  codeAny (model P w) callerA (.call (.ref fa) ⟨[.ref a],[]⟩) (λr s'=>r=.ok (.ret (.bool true))/\OldK s₁.heap s'.heap/\s'.os=s₁.os/\AllBare s'.gens) s₁:=by
 have rv:=Ch hi;have lenV:=hi.length
 have core:∀H:Hp,Lm H->yJ K H a (ns.map V.int)->yt P w H s₁.heap->(∀b,H b≠none->b=a)->(H a≠none->K.lookup a=none)->
   codeAny (model P w) callerA (.call (.ref fa) ⟨[.ref a],[]⟩) (λr s'=>r=.ok (.ret (.bool true))/\OldK s₁.heap s'.heap/\s'.os=s₁.os/\AllBare s'.gens) s₁:=by
  intro H hO hS zZ hA hK;have base_of:∀{b:Addr}{o:Obj},s₁.heap.get? b=some o->H b=none->(pH s₁.heap H).get? b=some o:=λe n=>KE e n
  have noA:∀{b:Addr}{o:Obj}{es:Array DictEntry}{ep:Nat},s₁.heap.get? b=some o->o.data=.dict es ep->H b=none:=λ{b o es ep} e d=>by
   cases q:H b with
   |none=>rfl
   |some u=>
    have e':b=a:=hA b (by rw[q]; simp);subst e';rw[ha]at e; cases e;have d':Data.seq vs.toArray _=Data.dict es ep:=d;cases d'
  have nsK:∀{b:Addr}{m:Str->Option Value},s₁.heap.Ns b m->(pH s₁.heap H).Ns b m:=λ{b m} ⟨o,es,ep,e,d,r⟩=>⟨o,es,ep,base_of e (noA e d),d,r⟩
  have hKb:K.In (pH s₁.heap H):=λb o e=>base_of (KX b o e) (by
   cases q:H b with
   |none=>rfl
   |some u=>
    have e':b=a:=hA b (by rw[q]; simp);subst e';rw[hK (by rw[q]; simp)]at e; cases e)
  have hM:Mod K mg (pH s₁.heap H):=⟨hKb,nsK hns,⟨mb,nsK hb,hbb⟩,let ⟨mc,h1,h2⟩:=hlim; ⟨mc,nsK h1,h2⟩⟩;have e0:gB P w K mg (pH s₁.heap H) callerA [] s₁ H:=⟨rfl,hM,λb o e=>No e,Tt (KF _ _),trivial,λb hb=>absurd (show b∈([]:List Addr)from hb) (by simp),zZ,.of_eq hg⟩;refine Ty ((F _ hKb (nsK hns)).run callerA [] s₁ H ⟨[.ref a],[]⟩ [.ref a] [.ref a] _ _ hr e0 (hbind s₁ (.ref a)) (.cons rfl .nil) (hsp H hO hS)) λr s' h=>?_
  cases r with
  |error e=>exact(hCX H e s' h).elim
  |ok fl=>
   cases fl with
   |next=>exact False.elim h
   |brk=>exact False.elim h
   |cont=>exact False.elim h
   |ret u=>
    obtain⟨v,H',os,bare,un,hok',r',q⟩:=h;have q':v=.bl true:=q;subst q';obtain rfl:u=Value.bool true:=r';refine⟨rfl,OldK.of_keep λb o e=>?_,os,bare⟩;cases q:H b with
    |none=>exact un.keep b o e q (by intro z; exact absurd (show b∈([]:List Addr)from z) (by simp)) (by simp)
    |some u=>
     rcases hO b with z|⟨ob,xs,z⟩
     ·rw[q]at z; cases z
     ·have z2:=un.v_ b ob _ z;obtain⟨e1,_⟩:=zZ b _ z;obtain⟨e2,_⟩:=hok' b _ z2;rw[e]at e1; cases e1;exact e2
 cases hk:K.lookup a with
 |some o=>
  have e:=KX a o hk;rw[ha]at e;cases e;refine core (λ_=>none) (λ_=>.inl rfl) (.inr ⟨_,vs.toArray,_,hk,rfl,rfl,rfl,by rw[ym,lenV]; exact hl,by simpa using rv⟩) (λb u z=>by have z':(none:Option HO)=some u:=z; cases z') (λb z=>absurd rfl z) λz=>absurd rfl z
 |none=>
  refine core (λb=>if b=a then some (.xj { cls:=.type "list",data:=.seq vs.toArray } (.lst (ns.map V.int)))else none) (λb=>?_) (.inl (.inr ⟨{ cls:=.type "list",data:=.seq vs.toArray },zM rfl⟩)) (λb u z=>?_) (λb z=>?_) λ_=>hk
  ·by_cases hb:b=a
   ·exact .inr ⟨_,_,zM hb⟩
   ·exact .inl (zO hb)
  ·by_cases hb:b=a
   ·have z':=(zM hb).symm.trans z;cases z';subst hb;exact⟨ha,by rw[zm]; exact hl,vs,_,rv,ha⟩
   ·have z':=(zO hb).symm.trans z;cases z'
  ·by_cases hb:b=a
   ·exact hb
   ·exact absurd (zO hb) z
def tX(s:Stmt)(j:Nat):Stmt:=match s with
 |.ClassDef _ _ _ body _ _ _ _ _ _ _=>body.getD j (.Pass ⟨0,0,0,0⟩)
 |_=>.Pass ⟨0,0,0,0⟩
def yy(s:Stmt):Arguments:=match s with
 |.FunctionDef _ a _ _ _ _ _ _ _ _=>a
 |_=>{ posonlyargs:=[],args:=[],vararg:=none,kwonlyargs:=[],kw_defaults:=[],kwarg:=none,defaults:=[] }
def yS(s:Stmt):List Stmt:=match s with
 |.FunctionDef _ _ b _ _ _ _ _ _ _=>b
 |_=>[]
def zQ(s:Stmt):Scope:=match s with
 |.FunctionDef _ _ _ _ _ _ sc _ _ _=>sc
 |_=>{ kind:=.function,names:=[],isGenerator:=false,isCoroutine:=false }
abbrev yo:qF:=λ_ _ _ _ _ _=>False
abbrev E0:XK:=λ_ _ _=>False
theorem kI{X:Cx}:gb yo X E0:=λ_ _ _ _ _ _ _ h=>h.elim
structure Fun(K:W.Frag)(x qual:Str)(st:Stmt)(f:Addr)(fd:FuncData):Prop where
 ex:∃(oc:Value) (od:Option Addr) (kV doc pm:Value) (an:Option Addr) (cdv ct:Value) (osl:Array (Option Value)),
  fd=W.fnOf x qual (yy st) (yS st) (zQ st) .none kV doc pm an cdv ct/\K.lookup f=some ⟨oc,od,.func fd,osl⟩/\W.codeIn K cdv qual=true
 kp:W.keepIn K (.ref f)=true
section
variable{P:Program}{w:World}{K:W.Frag}{mg:Str->Option Value}{base:Heap}
theorem Fun.ok{x qual:Str}{st:Stmt}{f:Addr}{fd:FuncData}{N ps:List Str}{k:Nat}{sp:Sp}(F:Fun K x qual st f fd)(S:zi N ps (zQ st))(len:∀vs H Q E,sp vs H Q E->vs.length=ps.length)
  (hbody:∀(cdv:Value)(A:Around)(outer:List Env)(s:Shared)(H:Hp)(vs:List V)(Q:VK)(E:XK),yI k (A.deeper (envOfC qual (zQ st) s.heap.objs.size f cdv))->sp vs H Q E->
   ∃t,vR (um yo P w K mg base N qual (zQ st) f cdv A outer s H E).tH (yS st) t/\t { nx:=λ_ H'=>Q .zG H',rt:=Q } (start N vs) H):yj P w K mg base yo (k+1) f fd ps sp:=by
 obtain⟨oc,od,kV,doc,pm,an,cdv,ct,osl,rfl,lk,hcd⟩:=F.ex;refine B5 lk hcd S len λA outer s H vs Q E hr hsp=>?_
 obtain⟨t,h,q⟩:=hbody cdv A outer s H vs Q E hr hsp;exact⟨t,h.tH,q⟩
theorem Fun.binds{x qual:Str}{st:Stmt}{f:Addr}{fd:FuncData}{ps:List Str}(F:Fun K x qual st f fd)
  (h:∀(kV doc pm:Value)(an:Option Addr)(cdv ct:Value)(us:List Value),us.length=ps.length->bindArgs (W.fnOf x qual (yy st) (yS st) (zQ st) .none kV doc pm an cdv ct) ⟨us,[]⟩=pure (ps.zip us)):xq K fd ps []:=by
 obtain⟨oc,od,kV,doc,pm,an,cdv,ct,osl,rfl,lk,hcd⟩:=F.ex;exact .all (h kV doc pm an cdv ct)
theorem zy{x qual:Str}{st:Stmt}{f:Addr}{oc:Value}{od an:Option Addr}{osl:Array (Option Value)}{kV doc pm cdv ct:Value}(l:K.lookup f=some ⟨oc,od,.func (W.fnOf x qual (yy st) (yS st) (zQ st) .none kV doc pm an cdv ct),osl⟩)
  (c:W.codeIn K cdv qual=true)(k:W.keepIn K (.ref f)=true):Fun K x qual st f (W.fnOf x qual (yy st) (yS st) (zQ st) .none kV doc pm an cdv ct):=⟨⟨oc,od,kV,doc,pm,an,cdv,ct,osl,rfl,l,c⟩,k⟩
end
theorem zL{A:Around}{k:Nat}(hr:yI k A):A.units+1<cLine:=L9 (EJ (by decide:1<=64) _) hr.units
theorem bR{n:Nat}(h:n<=1000):n<sizeLine:=L9 h (by decide)
section
variable{X:Cx}
end
theorem pI{A B:Prop}(h:B):if false=true then A else B:=by
 rw[zO xT];exact h
theorem pJ{A B:Prop}(h:A):if true=true then A else B:=by
 rw[zM rfl];exact h
def zb(H H':Hp):Prop:=∀b o,H b=some o->H' b=some o
theorem zb.refl(H:Hp):zb H H:=λ_ _ h=>h
theorem zb.trans{H H1 H2:Hp}(a:zb H H1)(b:zb H1 H2):zb H H2:=λc o h=>b c o (a c o h)
theorem zb.free{H H':Hp}(e:zb H H'){l:Addr}(h:H' l=Option.none):H l=Option.none:=by
 cases q:H l with
 |none=>rfl
 |some o=>
  rw[e l o q]at h;cases h
end L2
set_option linter.all false
set_option maxRecDepth 100000
set_option maxHeartbeats 4000000
namespace L2
open PySem PySem.Spec PyProof.Rows
def zF(K:W.Frag)(mg:Str->Option Value)(x:Str)(st:Stmt)(ps:List Str):Prop:=
 ∃(f:Addr) (fd:FuncData),Fun K x x st f fd/\mg x=some (.ref f)/\xq K fd ps []
def zJ(P:Program)(w:World)(K:W.Frag)(mg:Str->Option Value)(base:Heap)(x:Str)(ps:List Str)(k:Nat)(sp:Sp):Prop:=
 ∃(f:Addr) (fd:FuncData),mg x=some (.ref f)/\W.keepIn K (.ref f)=true/\xq K fd ps []/\yj P w K mg base yo k f fd ps sp
def xV(mg:Str->Option Value)(x:Str)(v:V):Prop:=∃u,mg x=some u/\zc v u
section
variable{P:Program}{w:World}{K:W.Frag}{mg:Str->Option Value}{base:Heap}
theorem zF.ok{x:Str}{st:Stmt}{N ps:List Str}{k:Nat}{sp:Sp}(d:zF K mg x st ps)(S:zi N ps (zQ st))(len:∀vs H Q E,sp vs H Q E->vs.length=ps.length)
  (hbody:∀(f:Addr)(cdv:Value)(A:Around)(outer:List Env)(s:Shared)(H:Hp)(vs:List V)(Q:VK)(E:XK),yI k (A.deeper (envOfC x (zQ st) s.heap.objs.size f cdv))->sp vs H Q E->
   ∃t,vR (um yo P w K mg base N x (zQ st) f cdv A outer s H E).tH (yS st) t/\t { nx:=λ_ H'=>Q .zG H',rt:=Q } (start N vs) H):zJ P w K mg base x ps (k+1) sp:=by
 obtain⟨f,fd,F,hm,hb⟩:=d;exact⟨f,fd,hm,F.kp,hb,F.ok S len (hbody f)⟩
end
section
variable{X:Cx}{x:Str}{p pos:Pos}{e:Expr}{es:List Expr}{t:TA}{ps:List Str}{j k:Nat}{sp:Sp}{v:V}{T:String}
def yZ:Expr->Bool
 |.Starred ..=>false
 |_=>true
theorem vw{e:Expr}{es:List Expr}{env:Env}(h:yZ e=true):starEach (e::es) env=(false,eval e env)::starEach es env:=by
 cases e<;>first|rfl|cases h
theorem pj{env:Env}{pos:Pos}:∀{es:List Expr},es.all yZ=true->(backTo pos (starEach es env)).any (·.1)=false
 | [],_=>rfl
 |e::es,h=>by
  rw[xf,yD]at h;rw[vw h.1];have ih:=pj (env:=env) (pos:=pos) h.2;unfold backTo at ih ⊢;rw[y_,YU,ih];rfl
theorem kH{te:TE}(ha:PE X e te)(hr:PA X es t)(h:yZ e=true:=by rfl):PA X (e::es) (OO te t):=Rg ha hr (vw h)
def VX:Expr->Option Int
 |.Constant (.int i) _ _=>some i
 |_=>none
theorem Em{e:Expr}{i:Int}(h:VX e=some i):∃k p,e=.Constant (.int i) k p:=by
 cases e<;>first|(cases h; done)|skip
 rename_i c k p;cases c<;>first|(cases h; done)|skip
 cases h;exact⟨k,p,rfl⟩
def intsOf:List Expr->Option (List Int)
 | []=>some []
 |e::r=>(VX e).bind λi=>(intsOf r).map (i::·)
theorem Dj:∀{es:List Expr}{is:List Int},intsOf es=some is->PA X es (λ_ H Q=>Q (is.map V.int) H)
 | [],is,h=>by
  cases(show some []=some is from h);exact XU
 |e::r,is,h=>by
  have q:((VX e).bind λi=>(intsOf r).map (i::·))=some is:=h;cases e1:VX e with
  |none=>rw[e1]at q; cases q
  |some i=>
   rw[e1]at q;obtain⟨k,p,rfl⟩:=Em e1;cases e2:intsOf r with
   |none=>rw[e2]at q; cases q
   |some js=>
    rw[e2]at q;cases(show some (i::js)=some is from q);exact kH Dp (Dj e2)
theorem Io(h:zJ X.prog X.w X.K X.mg X.base x ps k sp)(hr:yI j X.A)(hg:Gl X x)(ha:PA X (e::es) t)(hk:k<=j:=by decide)(hdb:(x==("__debug__" : Str))=false:=by decide)
  (he:(e::es).all yZ=true:=by rfl):PE X (.Call (.Name x p) (e::es) [] pos) (ON sp [] E0 t):=by
 obtain⟨f,fd,hm,kp,b,F⟩:=h;rw[xf,yD]at he;exact Ro F (hr.mono hk) hg hm kp b .nil kI ha hdb (vw he.1) (pj he.2)
theorem Il(h:xV X.mg x v)(hg:Gl X x)(hd:(x==("__debug__" : Str))=false:=by decide):PE X (.Name x pos) (tC v):=by
 obtain⟨u,hm,r⟩:=h;exact Rw hg hm r hd
theorem Rn(hg:Gl X x)(hm:X.mg x=none)(hv:bootBuiltins x=some (.type T))(hn:x ≠ "__name__" := by decide)(hd:(x==("__debug__" : Str))=false:=by decide):PE X (.Name x pos) (tC (.ty T)):=
 Rl hg hm hv rfl hn hd
end
section
variable{X:Cx}{st:Stmt}{t:TS}
end
section
variable{X:Cx}
theorem Ii:yB X (binaryOp .FloorDiv) (rI (λ_ j=>0<j/\j<2 ^ 64) λi j=>.int (i/j)):=Y3 λi j _ _ _ _ _ hc q=>by
 have h1:(0:Int)<j:=hc.1;have h2:j<2 ^ 64:=hc.2;have h3:j.natAbs.log2<64:=(W_ (by omega)).mpr (by omega);exact PyProof.Rows.floordiv_int (by omega) (by rw[E5 i (by omega)]; exact q) (.inl (PyProof.noPylong_of_log2 (by omega)))
end
theorem X1:bootBuiltins "len" = some (.builtin "len"):=by decide +kernel
theorem GC:bootBuiltins "isinstance" = some (.builtin "isinstance"):=by decide +kernel
theorem GE:bootBuiltins "sum" = some (.builtin "sum"):=by decide +kernel
theorem GB:bootBuiltins "all" = some (.builtin "all"):=by decide +kernel
theorem GD:bootBuiltins "min" = some (.builtin "min"):=by decide +kernel
theorem Mb:bootBuiltins "int" = some (.type "int"):=by decide +kernel
theorem G9:bootBuiltins "bool" = some (.type "bool"):=by decide +kernel
theorem U2:bootBuiltins "list" = some (.type "list"):=by decide +kernel
theorem U3:bootBuiltins "tuple" = some (.type "tuple"):=by decide +kernel
theorem Kq{K:W.Frag}:W.kitOne K (.type "int") (.type "int")=some true:=by rfl
theorem Ko{K:W.Frag}:W.kitOne K (.type "bool") (.type "int")=some true:=by kernel_rfl
theorem Kp{K:W.Frag}:W.kitOne K (.type "int") (.type "bool")=some false:=by kernel_rfl
theorem Kn{K:W.Frag}:W.kitOne K (.type "bool") (.type "bool")=some true:=by rfl
theorem Ks{K:W.Frag}:W.kitOne K (.type "NoneType") (.type "int")=some false:=by kernel_rfl
theorem Kr{K:W.Frag}:W.kitOne K (.type "NoneType") (.type "bool")=some false:=by kernel_rfl
theorem Ku{K:W.Frag}:W.kitOne K (.type "tuple") (.type "tuple")=some true:=by rfl
theorem Kt{K:W.Frag}:W.kitOne K (.type "str") (.type "str")=some true:=by rfl
theorem wn{H:Hp}{p:Addr}(h:H p=none)(o:HO):zb H (zT H p o):=λb u q=>by rw[yH (uB q h)]; exact q
theorem vL{n:Nat}(h:n<=1000):n<=sizeLine:=Wy (bR h)
section
variable{X:Cx}{tg:Expr}
end
def jA(env:Env):List (Str×Addr)->Prop
 | []=>True
 |p::r=>env.cells.lookup p.1=some p.2/\jA env r
theorem jA.get{env:Env}:∀{cl:List (Str×Addr)} {y:Str} {c:Addr},jA env cl->cl.lookup y=some c->env.cells.lookup y=some c
 | [],_,_,_,h=>by cases h
 |(n,a)::r,y,c,hc,h=>by
  rw[Wr]at h;cases e:y==n with
  |true=>
   rw[e]at h;have e':y=n:=by simpa using e
   subst e';have h':a=c:=by simpa using h
   subst h';exact hc.1
  |false=>
   rw[e]at h;exact jA.get hc.2 (by simpa using h)
def ZQ(scope:Scope)(env:Env)(cl:List (Str×Addr))(own:List Str):Bool:=
 scope.names.all λp=>p.1 != ("." : Str)&&((p.2 == .local&&(own.contains p.1||p.1==(".0" : Str)))||p.2 == .globalImplicit||p.2 == .globalExplicit ||
  (p.2 == .free&&(env.kindOf p.1==some .cell||env.kindOf p.1==some .free)&&(cl.lookup p.1).isSome))
def hide(own:List Str)(y:Str):Str:=if own.contains y||y==(".0" : Str)then "." else y
def vD(N own:List Str):List Str:=N.map (hide own)++own
theorem O3{env:Env}:∀{names:List (Str×NameKind)} {y:Str} {k:NameKind},
  (names.map λ(n,k)=>if(k==NameKind.free&&env.scope.kind == .function&&env.kindOf n==some .cell)then(n,NameKind.cell)else(n,k)).lookup y=some k->∃k0,(y,k0)∈names/\(k=k0\/(k0=.free/\k=.cell))
 | [],_,_,h=>by simp at h
 |(n,k')::r,y,k,h=>by
  rw[y_]at h;by_cases hc:(k'==NameKind.free&&env.scope.kind == .function&&env.kindOf n==some .cell)=true
  ·dsimp only at h;rw[zM hc,Wr]at h;cases e:y==n with
   |true=>
    rw[e]at h;have e':y=n:=by simpa using e
    subst e';have h':NameKind.cell=k:=by simpa using h
    have hf:k'=.free:=by
     rw[yD,yD]at hc;simpa using hc.1.1
    exact⟨k',yr,.inr ⟨hf,h'.symm⟩⟩
   |false=>
    rw[e]at h;obtain⟨k0,m,z⟩:=O3 (env:=env) (by simpa using h);exact⟨k0,xg _ m,z⟩
  ·dsimp only at h;rw[zO hc,Wr]at h;cases e:y==n with
   |true=>
    rw[e]at h;have e':y=n:=by simpa using e
    subst e';have h':k'=k:=by simpa using h
    exact⟨k',yr,.inl h'.symm⟩
   |false=>
    rw[e]at h;obtain⟨k0,m,z⟩:=O3 (env:=env) (by simpa using h);exact⟨k0,xg _ m,z⟩
def wE(X:Cx)(scope:Scope)(cl:List (Str×Addr))(own:List Str)(C:Addr)(s2:Shared)(H2:Hp)(fp:List Addr)(pn:List (Addr×Obj)):Cx:=
 { X with N:=vD X.N own,s₀:=s2,H₀:=H2,env:=compEnvC scope cl C X.env,outer:=X.stack,stack:=X.stack,ex:=fp,fn:=λ_=>false,pn:=pn,xe:=λ_ _=>False }
section
variable{X:Cx}{z6:List (Addr×Obj)}{σ:St}{H2:Hp}{s2:Shared}{scope:Scope}{cl:List (Str×Addr)}{own:List Str}{C D:Addr}{fp:List Addr}
theorem MR(hb:ZQ scope X.env cl own=true){y:Str}{k:NameKind}(h:(relabel scope X.env).names.lookup y=some k) :
  y ≠ "." /\ ((k=.local->own.contains y=true\/y = ".0")/\((k=.cell\/k=.free)->(∃k0,(y,k0)∈scope.names/\k0=.cell)\/((X.env.kindOf y=some .cell\/X.env.kindOf y=some .free)/\∃c,cl.lookup y=some c))):=by
 obtain⟨k0,m,z⟩:=O3 h;have q:=t9.mp hb _ m;rw[yD]at q;obtain⟨q1,q2⟩:=q;refine⟨by simpa using q1,λhk=>?_,λhk=>?_⟩
 ·rcases z with z|⟨_,z⟩
  ·subst z;subst hk;simpa using q2
  ·rw[z]at hk;cases hk
 ·have hf:k0=.free\/k0=.cell:=by
   rcases z with z|⟨z,_⟩
   ·subst z;rcases hk with hk|hk
    ·exact .inr hk
    ·exact .inl hk
   ·exact .inl z
  rcases hf with hf|hf
  ·subst hf
   right
   have q3:((X.env.kindOf y==some .cell||X.env.kindOf y==some .free)&&(cl.lookup y).isSome)=true:=by simpa using q2
   rw[yD]at q3;refine⟨?_,EK.mp q3.2⟩;have:=q3.1;rw[Bool.or_eq_true]at this;rcases this with t|t
   ·exact .inl (by simpa using t)
   ·exact .inr (by simpa using t)
  ·exact .inl ⟨k0,m,hf⟩
theorem Qn(hb:ZQ scope X.env cl own=true)(hcell:∀y∈scope.names,y.2≠.cell){y:Str}{k:NameKind}(h:(relabel scope X.env).names.lookup y=some k)(hk:k=.cell\/k=.free) :
  (X.env.kindOf y=some .cell\/X.env.kindOf y=some .free)/\∃c,cl.lookup y=some c:=by
 rcases(MR hb h).2.2 hk with⟨k0,m,e⟩|q
 ·exact absurd e (hcell _ m)
 ·exact q
theorem MU(I:zC X z6 σ H2 s2)(hk:scope.kind=.function)(hcell:∀y∈scope.names,y.2≠.cell)(hcap:jA X.env cl)(hb:ZQ scope X.env cl own=true)(hC:s2.heap.objs.size<=C)
  (hfp:∀b∈fp,tL X z6 H2 b)(hfo:∀b∈fp,∃o,s2.heap.get? b=some o):(wE X scope cl own C s2 H2 fp (X.pn++z6)).Ok where
 mod:=I.ok.mod
 kind:=hk
 glob:=I.ok.glob
 blt:=I.ok.blt
 above:=hC
 inj:=λx y c h1 h2=>I.ok.inj x y c (hcap.get h1) (hcap.get h2)
 has:=λx hx=>by
  rcases hx with hx|hx
  ·exact(Qn hb hcell (show(relabel scope X.env).names.lookup x=_ from hx) (.inl rfl)).2
  ·exact(Qn hb hcell (show(relabel scope X.env).names.lookup x=_ from hx) (.inr rfl)).2
 kn:=λx c h=>by cases h
 hd:=I.ok.hd
 frames:=I.ok.frames
 Yi:=.inl rfl
 Yg:=λb hx=>⟨by
  obtain⟨o,e⟩:=hfo b hx;exact wB (xh (Heap.lt_size e) hC),λx c h=>(hfp b hx).2.2.2.2.1 x c (hcap.get h)⟩
 bs:=I.bs
 qX:=vQ I.ok.qX I.sz
 Z1:=λb o e hx=>by
  rcases(hfp b hx).2.2.2.1 with z|z
  ·exact I.ok.Z1 b o e z
  ·exact absurd (xh (Heap.lt_size e) (vQ I.ok.qX z)) (wW _)
 kq:=λb hx hz=>by
  rcases yl.mp (I.Yj b hz)with z|z
  ·exact(hfp b hx).2.1 z
  ·exact(hfp b hx).2.2.1 z
 uf:=I.stack
 j6:=I.Le
theorem UT{α:Type}{σ:List (Option α)}{n i:Nat}{v:α}(h:(σ++List.replicate n none)[i]?=some (some v)):σ[i]?=some (some v):=by
 by_cases hi:i<σ.length
 ·rw[py hi]at h;exact h
 ·rw[YX (by omega),EB]at h
  split at h<;>cases h
theorem G7{h4:Heap}{m0:Str->Option Value}{dobj:Obj}{tk:Nat}(I:zC X z6 σ H2 s2)(hk:scope.kind=.function)(hcell:∀y∈scope.names,y.2≠.cell)(hcap:jA X.env cl)(hb:ZQ scope X.env cl own=true)
  (hC:s2.heap.objs.size<=C)(hD:s2.heap.objs.size<=D)(hDC:D≠C)(hfp:∀b∈fp,tL X z6 H2 b)(hfo:∀b∈fp,∃o,s2.heap.get? b=some o)
  (keep:∀b o,s2.heap.get? b=some o->h4.get? b=some o)(ns:h4.Ns C m0)(hd:h4.get? D=some dobj)(hdd:∀v,dobj.data≠.cell v) :
  zC (wE X scope cl own C s2 H2 fp (X.pn++z6)) [(D,dobj)] (σ++List.replicate own.length none) H2 { s2 with heap:=h4,toks:=tk }:=by
 have nfs:∀a,s2.heap.objs.size<=a->a ∉ uq X.stack:=λa ha hz=>by
  rcases yl.mp (I.Yj a hz)with z|z
  ·exact absurd (xh I.lt ha) (by rw[z]; exact wW _)
  ·exact I.LV ha z
 refine⟨MU I hk hcell hcap hb hC hfp hfo,rfl,I.bare,Un.kept keep,⟨m0,ns,λi y v e1 e2 e3=>?_⟩,λx c h=>?_,I.zZ.fresh hC,λx c h=>I.qC x c (hcap.get h),λp hp=>?_,I.zZ.kept keep,?_⟩
 ·have e2':σ[i]?=some (some v):=UT e2
  have hi:i<X.N.length:=by
   have:=(yA.mp e2').1;rw[I.len]at this;exact this
  have e1':(X.N.map (hide own)++own)[i]?=some y:=e1;rw[py (by simpa using hi),vN]at e1';cases en:X.N[i]? with
  |none=>
   rw[en]at e1';cases e1'
  |some n=>
   rw[en]at e1';have ey:hide own n=y:=ue e1'
   have vis:∃k,(relabel scope X.env).names.lookup y=some k/\(k=.local\/k=.cell\/k=.free):=by
    rcases e3 with z|z|z
    ·exact⟨_,z,.inl rfl⟩
    ·exact⟨_,z,.inr (.inl rfl)⟩
    ·exact⟨_,z,.inr (.inr rfl)⟩
   obtain⟨k,lk,kk⟩:=vis;obtain⟨nd,loc,_⟩:=MR hb lk;unfold hide at ey;by_cases ho:(own.contains n||n==(".0" : Str))=true
   ·rw[zM ho]at ey;exact absurd ey.symm nd
   ·rw[zO ho]at ey;subst ey
    have kk':k=.cell\/k=.free:=by
     rcases kk with z|z
     ·exfalso
      apply ho;rcases loc z with t|t
      ·rw[t]; rfl
      ·subst t; simp
     ·exact z
    obtain⟨ok,c,hc⟩:=Qn hb hcell lk kk';obtain⟨m,hn,hl⟩:=I.loc;obtain⟨u,r,l⟩:=hl i n v en e2' (.inr ok);refine⟨u,r,.inr ⟨?_,c,hc,?_⟩⟩
    ·rcases kk' with z|z
     ·subst z; exact .inl lk
     ·subst z; exact .inr lk
    ·rcases l with⟨z,_⟩|⟨_,c',hc',z⟩
     ·rcases ok with t|t<;>(rw[t]at z; cases z)
     ·rw[hcap.get hc]at hc';cases hc';obtain⟨o,ho',hd'⟩:=z;exact⟨o,keep _ _ ho',hd'⟩
 ·obtain⟨v,o,ho,hd'⟩:=I.cell x c (hcap.get h);exact⟨v,o,keep _ _ ho,hd'⟩
 ·rcases j1.mp hp with z|z
  ·obtain⟨e,n,ne,nf,d⟩:=I.pin p z;refine⟨keep _ _ e,n,wB (xh (Heap.lt_size e) hC),λhz=>?_,d⟩;rcases yl.mp (I.Yj p.1 hz)with t|t
   ·exact ne t
   ·exact nf t
  ·have e:p=(D,dobj):=by simpa using z
   subst e;exact⟨hd,I.zZ.fresh hD,hDC,nfs D hD,hdd⟩
 ·show(σ++List.replicate own.length none).length=(X.N.map (hide own)++own).length;rw[yO,yO,jv,zm,I.len]
end
def ga(X:Cx)(ifs:List Expr)(tc:TT):Prop:=
 ∀(z6:List (Addr×Obj)) (s:Shared) (σ:St) (H:Hp) (Q:Bool->Hp->Prop),zC X z6 σ H s->tc σ H Q->
  wpAny (model X.prog X.w) X.A (forIn ifs true λc r=>if r=true then do let ok <-isTrue c X.env (eval c X.env); pure (ForInStep.yield ok)else pure (ForInStep.yield r)) (TP X z6 σ Q) X.xe s
def cN:TT:=λ_ H Q=>Q true H
theorem Sj{X:Cx}:ga X [] cN:=λ_ _ _ H _ I h=>wpAny_tests_nil ⟨H,I,h⟩
theorem Sk{X:Cx}{c:Expr}{t:TT}(h:PT X c t):ga X [c] t:=λz6 s σ H Q I q=>wpAny_tests_one (h z6 s σ H Q I q)
section
variable{prog:Program}{w:World}{A:Around}{R:Result->Shared->Prop}{s:Shared}
theorem N4{elt tg iter:Expr}{ifs:List Expr}{scope:Scope}{pos:Pos}{it acc:Value}{env:Env}(J:Nat->Shared->Prop)
  (turn:∀n s,J n s->wpAny (model prog w) A (pyNext it) (λr s₁=>match r with
   |none=>R (.ok .next) s₁
   |some v=>wpAny (model prog w) A (letOwnedTupleGo tg it v) (λ_ z=>wpAny (model prog w) A (assign tg env v) (λ_ s₂=>
    wpAny (model prog w) A (forIn ifs true λc r=>if r=true then do let ok <-isTrue c env (eval c env); pure (ForInStep.yield ok)else pure (ForInStep.yield r)) (λok s₃=>
     if ok=true then wpAny (model prog w) A (eval elt env) (λx s₄=>wpAny (model prog w) A (call (.builtin "list.append") [acc,x]) (λ_ s₅=>∃m,m<n/\J m s₅) (λ_ _=>False) s₄) (λ_ _=>False) s₃
     else ∃m,m<n/\J m s₃) (λ_ _=>False) s₂) (λ_ _=>False) z) (λ_ _=>False) s₁) (λ_ _=>False) s)
  (n:Nat)(h:J n s):codeAny (model prog w) A (.compLoop (.ListComp elt [⟨tg,iter,ifs,0⟩] scope pos) 0 it acc env) R s:=by
 have no:∀{P:Value->Shared->Prop},∀e s',(λ_ _=>False:Value->Shared->Prop) e s'->P e s':=λ_ _ z=>z.elim
 refine codeAny_loop rfl J (λn s hI=>?_) n h;show wpAny _ A (Sem.onRaise (compTurn (.ListComp elt [⟨tg,iter,ifs,0⟩] scope pos) 0 it acc env) (λx=>do noteFrame x env; theTreesLotGoes x)) _ _ s;refine wpAny_noted ?_;rw[compTurn_list];refine zX (LK (zX (uK (turn n s hI) (λr s₁ h₁=>?_) no)));cases r with
 |none=>exact ya h₁
 |some v=>
  refine zX (uK h₁ (λ_ z hz=>?_) no);refine zX (uK hz (λ_ s₂ h₂=>?_) no);refine zX (uK h₂ (λok s₃ h₃=>?_) no);cases ok with
  |false=>exact ya ⟨rfl,h₃⟩
  |true=>
   refine zX (zX (uK h₃ (λx s₄ h₄=>?_) no));exact zX (uK h₄ (λ_ s₅ h₅=>ya (ya ⟨rfl,h₅⟩)) no)
end
abbrev wd(its:List Value)(k:Nat):Obj:={ cls:=.type "list",data:=.seq its.toArray k }
theorem Bj{its:List Value}{k:Nat}:∀v,(wd its k).data≠.cell v:=λ_ z=>nomatch z
section
variable{X:Cx}{σ:St}{H:Hp}{s:Shared}{D:Addr}
theorem KR{pl:List (Addr×Obj)}{its its':List Value}{k k' tk:Nat}{h':Heap}(I:zC X ((D,wd its k)::pl) σ H s)(hD:X.s₀.heap.objs.size<=D)(hpn:∀p∈X.pn,p.1≠D)
  (hs:Heap.SameBut D s.heap h')(hd:h'.get? D=some (wd its' k')):zC X [(D,wd its' k')] σ H { s with heap:=h',toks:=tk }:=by
 obtain⟨e,n,ne,nf,d⟩:=I.pin (D,wd its k) (uc _ yr);have I0:zC X [] σ H s:=I.Yh λp hp=>absurd hp (by simp)
 have I1:zC X [] σ H { s with heap:=h',toks:=tk }:=I0.turned (it:=D) (λb o hb q=>(hs.2 b hb).trans q) n ne (.inr hD) (λx c hc z=>by
  subst z;obtain⟨v,o,ho,hv⟩:=I.cell x c hc;rw[show s.heap.get? c=some (wd its k)from e]at ho;cases ho;exact d v hv) (λp hp=>hpn p (by simpa using hp))
 exact I1.Yh λp hp=>by
  have q:p=(D,wd its' k'):=by simpa using hp
  subst q;exact⟨hd,n,ne,nf,Bj⟩
end
section
variable{X:Cx}{tg iter elt:Expr}{ifs:List Expr}{scope:Scope}{cl:List (Str×Addr)}{own:List Str}{pos:Pos}{te:TE}{tc:TT}{g:TG}{wi:TI}
theorem dg{fs ex:List Addr}{H H':Hp}{h h':Heap}{D:Addr}{o:HO}(u:Un fs ex H H' h h')(hD:h.objs.size<=D)(hn:H' D=none):Un fs ex H (zT H' D o) h h' where
 keep:=u.keep
 slot:=u.slot
 free:=λb ob q n hx=>by rw[yH (λz=>by subst z; exact absurd (xh (Heap.lt_size q) hD) (wW _))]; exact u.free b ob q n hx
 there:=u.there
 uN:=λb xs q=>by rw[yH (uB (u.uN b xs q) hn)]; exact u.uN b xs q
 v_:=λb ob v q=>by rw[yH (uB (u.v_ b ob v q) hn)]; exact u.v_ b ob v q
 tI:=λb ps q=>by
  obtain⟨more,z⟩:=u.tI b ps q;exact⟨more,by rw[yH (uB z hn)]; exact z⟩
theorem BJ{P:Program}{w:World}{H:Hp}{h:Heap}{D:Addr}{o:HO}(x:yt P w H h)(hn:H D=none)(new:yx P w (zT H D o) h D o):yt P w (zT H D o) h:=λb u e=>by
 by_cases hb:b=D
 ·subst hb;rw[yi]at e;cases e;exact new
 ·rw[yH hb]at e;refine(x b u e).g8 (λc v _ q=>q) (λc q=>?_) (λc xs q=>?_)
  ·rw[yH (uB q hn)]; exact q
  ·rw[yH (uB q hn)]; exact q
structure Z3(X:Cx)(scope:Scope)(cl:List (Str×Addr))(own:List Str):Prop where
 kind:scope.kind=.function
 cell:∀y∈scope.names,y.2≠.cell
 V7:jA X.env cl
 ok:ZQ scope X.env cl own=true
 V8:closureFor scope X.env=pure cl
 names:∀y∈scope.names,y.2=.local->scope.names.lookup y.1=some .local
structure VN(X:Cx)(z6:List (Addr×Obj))(H:Hp)(s:Shared)(C:Addr):Prop where
 free:H C=none
 ne:C≠X.env.locals
 old:X.s₀.heap.objs.size<=C
 cell:∀x c,X.env.cells.lookup x=some c->c≠C
 pin:∀p∈X.pn++z6,p.1≠C
def Uo(σ:St)(n:Nat)(J:It)(g:TG)(tc:TT)(te:TE)(W:Nat->Nat->List V->Hp->Prop)(Fin:List V->Hp->Prop):Prop:=
 ∀i m ys H,W i m ys H->(J.stop i H/\Fin ys H)\/(J.go i H/\ys.length<sizeLine/\∃N:List V->Hp->Prop,(∀ys' H',N ys' H'->∃m',m'<m/\W (i+1) m' ys' H')/\
  ∀x H',J.u3 i H x H'->g x (σ++List.replicate n none) H' λσ2 H3=>(∃τ,σ2=σ++τ)/\tc σ2 H3 λc H4=>if c=true then te σ2 H4 λy H5=>N (ys++[y]) H5 else N ys H4)
theorem MY{z6:List (Addr×Obj)}{σ:St}{H2:Hp}{s2:Shared}{fp:List Addr}{it:Addr}{tn:Nat->Heap->Prop}{J:It}{W:Nat->Nat->List V->Hp->Prop}{Fin:List V->Hp->Prop}{m0:Nat}
  {RR:Value->Addr->Result->Shared->Prop}(hcalm:X.calm=true)(B:Z3 X scope cl own)(I:zC X z6 σ H2 s2)(T:jL X.prog X.w X.K tg J fp it tn)(t0:tn 0 s2.heap)(hfp:∀b∈fp,tL X z6 H2 b)
  (hg:∀C s H fp pn,PG (wE X scope cl own C s H fp pn) tg g)(hc:∀C s H fp pn,ga (wE X scope cl own C s H fp pn) ifs tc)(he:∀C s H fp pn,PE (wE X scope cl own C s H fp pn) elt te)
  (W0:W 0 m0 [] H2)(turn:Uo σ own.length J g tc te W Fin)
  (hRR:∀D C s' H' ys m',zC X z6 σ (zT H' D (.lst ys)) s'->H' D=none->Fin ys H'->s'.heap.Ns C m'->VN X z6 (zT H' D (.lst ys)) s' C->RR (.ref D) C (.ok .next) s'){E:Value->Shared->Prop} :
  wpAny (model X.prog X.w) X.A (newList []) (λacc s3=>wpAny (model X.prog X.w) X.A (newFunctionEnv scope X.env.globals cl [] X.env.qual none .none (some X.env)) (λcenv s4=>
   codeAny (model X.prog X.w) X.A (.compStart (.ListComp elt [⟨tg,iter,ifs,0⟩] scope pos) 0 (.ref it) acc { cenv with scope:=relabel scope X.env }) (RR acc cenv.locals) s4) E s3) E s2:=by
 refine LI (wpAny_newFunctionEnv B.cell (by intro y hy; simp at hy) (λh4 hns hsb=>?_) B.kind);dsimp only at hns hsb ⊢;generalize hP:s2.heap.push (wd [] 0)=P2 at hns hsb ⊢;have hC:P2.objs.size=s2.heap.objs.size+1:=by rw[<-hP,Heap.size_push]
 have hDC:s2.heap.objs.size≠P2.objs.size:=by rw[hC]; exact wB (kf _)
 have hCle:s2.heap.objs.size<=P2.objs.size:=by rw[hC]; exact Wz _
 have keep:∀b o,s2.heap.get? b=some o->h4.get? b=some o:=λb o e=>
  hsb.extBut b o (wB (xh (Heap.lt_size e) hCle)) (Heap.get?_push_of_some _ (hP▸Heap.get?_push_of_some _ e))
 have hd4:h4.get? s2.heap.objs.size=some (wd [] 0):=hsb.extBut _ _ hDC (Heap.get?_push_of_some _ (hP▸Heap.get?_push_size _ rfl));have hfo:∀b∈fp,∃o,s2.heap.get? b=some o:=λb hb=>let ⟨o,e,_⟩:=T.obj 0 _ t0 b hb; ⟨o,e⟩
 have lt:∀b∈fp,b<s2.heap.objs.size:=λb hb=>let ⟨o,e⟩:=hfo b hb; Heap.lt_size e
 generalize hDD:s2.heap.objs.size=D at hDC hd4 ⊢;generalize hCC:P2.objs.size=C at hDC hns hsb hCle ⊢;have hDle:s2.heap.objs.size<=D:=Tt hDD
 let X':=wE X scope cl own C s2 H2 fp (X.pn++z6)
 have hpn:∀p∈X'.pn,p.1≠D:=λp hp z=>by
  obtain⟨e,_⟩:=I.pin p hp;rw[z]at e;exact absurd (xh (Heap.lt_size e) hDle) (wW _)
 have okb:=MU I B.kind B.cell B.V7 B.ok hCle hfp hfo
 have fpok:∀{k:Nat}{its:List Value}{H':Hp},(∀b∈fp,H' b=none)->∀b∈fp,tL X' [(D,wd its k)] H' b:=λ{k its H'} hn b hb=>
  ⟨hn b hb,(okb.Yg b hb).1,okb.kq b hb,.inl hb,(okb.Yg b hb).2,λp hp=>by
   rcases j1.mp hp with z|z
   ·exact(hfp b hb).2.2.2.2.2 p z
   ·have q:p=(D,wd its k):=by simpa using z
    subst q;exact λz=>absurd (lt b hb) (by rw[<-z]; exact LB.mpr hDle)⟩
 have loop:∀s4:Shared,s4={ s2 with heap:=h4,toks:=s2.toks+([]:List (Str×Value)).length }->
   codeAny (model X.prog X.w) X.A (.compLoop (.ListComp elt [⟨tg,iter,ifs,0⟩] scope pos) 0 (.ref it) (.ref D) (compEnvC scope cl C X.env)) (RR (.ref D) C) s4:=by
  rintro s4 rfl
  refine N4 (λn s'=>∃(i:Nat) (ys:List V) (its:List Value) (k:Nat) (H':Hp),zC X' [(D,wd its k)] (σ++List.replicate own.length none) H' s'/\ze ys its/\tn i s'.heap/\(∀b∈fp,H' b=none)/\W i n ys H'/\ys.length<=sizeLine) ?_ m0
   ⟨0,[],[],0,H2,G7 I B.kind B.cell B.V7 B.ok hCle hDle hDC hfp hfo keep hns hd4 Bj,.nil,T.keep _ _ _ t0 λb _ o e=>keep b o e,λb hb=>(hfp b hb).1,W0,vy _⟩
  rintro n s5 ⟨i,ys,its,k,H5,I5,v5,st5,fr5,w5,z5⟩;rcases turn i n ys H5 w5 with⟨stop,fin⟩|⟨go,room,N,hN,step⟩
  ·refine uK (T.done X' rfl rfl rfl hcalm i _ s5 _ H5 (λ_ _=>False) I5 (fpok fr5) st5 stop) (λr s6 ⟨hr,I6⟩=>?_) λ_ _ z=>z
   subst hr;obtain⟨e6,n6,ne6,nf6,d6⟩:=I6.pin (D,wd its k) (uc _ yr);obtain⟨m6,ns6,_⟩:=I6.loc;have u6:Un (uq X.stack) fp H2 (zT H5 D (.lst ys)) s2.heap s6.heap:=dg I6.base hDle n6;have new6:yx X.prog X.w (zT H5 D (.lst ys)) s6.heap D (.lst ys):=⟨z5,its,k,v5,e6⟩;have I7:zC X z6 σ (zT H5 D (.lst ys)) s6:=I.Q2 I6.os u6 (BJ I6.zZ n6 new6) I6.bare (λb hb=>⟨(hfp b hb).2.2.2.1,(hfp b hb).2.1,(hfp b hb).2.2.2.2.1,(hfp b hb).2.2.2.2.2⟩);refine hRR D C s6 H5 ys m6 I7 n6 fin ns6 ⟨?_,?_,?_,λx c hcx z=>?_,λp hp z=>?_⟩
   ·rw[yH (j4 hDC)]; exact I6.free
   ·exact λz=>absurd I.lt (by rw[<-z]; exact LB.mpr hCle)
   ·exact vQ I.sz hCle
   ·subst z;obtain⟨v,o,ho,_⟩:=I.cell x c hcx;exact absurd (xh (Heap.lt_size ho) hCle) (wW _)
   ·obtain⟨e,_⟩:=I.pin p hp;rw[z]at e;exact absurd (xh (Heap.lt_size e) hCle) (wW _)
  ·refine uK (T.item X' rfl rfl rfl hcalm i _ s5 _ H5 (λ_ _=>False) I5 (fpok fr5) st5 go) (λr s6 ⟨u,hr,h6⟩=>?_) λ_ _ z=>z
   subst hr;refine uK h6 (λ_ s7 ⟨x,H7,I7,r7,y7,st7,fr7⟩=>?_) λ_ _ z=>z
   have I7':=I7.pinned (fpok fr7) (T.obj _ _ st7);refine uK (hg C s2 H2 fp _ _ s7 _ H7 x u _ I7' r7 (step x H7 y7)) (λ_ s8 ⟨σ8,H8,I8,⟨τ,hτ⟩,q8⟩=>?_) λ_ _ z=>z
   subst hτ
   have back:∀{n':Nat}{ys':List V}{its':List Value}{k':Nat}{H9:Hp}{s9:Shared}{pl:List (Addr×Obj)},zC X' ((D,wd its' k')::pl) (σ++τ) H9 s9->ze ys' its'->tn (i+1) s9.heap->(∀b∈fp,H9 b=none)->W (i+1) n' ys' H9->ys'.length<=sizeLine->
     ∃(i:Nat) (ys:List V) (its:List Value) (k:Nat) (H':Hp),zC X' [(D,wd its k)] (σ++List.replicate own.length none) H' s9/\ze ys its/\tn i s9.heap/\(∀b∈fp,H' b=none)/\W i n' ys H'/\ys.length<=sizeLine:=λ{n' ys' its' k' H9 s9 pl} I9 v9 st9 fr9 w9 z9=>by
    have I9':zC X' [(D,wd its' k')] (σ++τ) H9 s9:=I9.Yh λp hp=>I9.pin p (uc _ (by
     have q:p=(D,wd its' k'):=by simpa using hp
     subst q;exact yr))
    refine⟨i+1,ys',its',k',H9,I9'.weak ?_ (λj v e=>?_),v9,st9,fr9,w9,z9⟩
    ·rw[I9'.len,<-I5.len]
    ·have e':=UT e;rw[py (yA.mp e').1];exact e'
   have keepIt:∀{σ9:St}{H9:Hp}{s9:Shared},zC X' ([(D,wd its k)]++XV fp s7.heap) σ9 H9 s9->tn (i+1) s9.heap/\∀b∈fp,H9 b=none:=λ{σ9 H9 s9} I9=>
    ⟨T.keep _ _ _ st7 λb hb o e=>(I9.pin (b,o) (uc _ (uc _ (Uw hb e)))).1,λb hb=>by
     obtain⟨o,e,_⟩:=T.obj _ _ st7 b hb;exact(I9.pin (b,o) (uc _ (uc _ (Uw hb e)))).2.1⟩
   refine uK (hc C s2 H2 fp _ _ s8 _ H8 _ I8 q8) (λc s9 ⟨H9,I9,q9⟩=>?_) λ_ _ z=>z
   cases c with
   |false=>
    rw[zO xT]at q9 ⊢;obtain⟨m',hm,w9⟩:=hN _ _ q9;exact⟨m',hm,back I9 v5 (keepIt I9).1 (keepIt I9).2 w9 z5⟩
   |true=>
    rw[zM rfl]at q9 ⊢;refine uK (he C s2 H2 fp _ _ s9 _ H9 _ I9 q9) (λyv sa ⟨y,Ha,Ia,ra,qa⟩=>?_) λ_ _ z=>z
    obtain⟨m',hm,wa⟩:=hN _ _ qa;obtain⟨ea,na,_⟩:=Ia.pin (D,wd its k) (uc _ (O_ _ yr))
    have szi:its.toArray.size<=sizeLine:=by
     have:=v5.length;simp only[ym];omega
    refine wpAny_list_append_plain (hsz:=szi) ⟨k,ea⟩ λhb hlb hsb'=>?_
    obtain⟨kb,eb⟩:=hlb;have eb':hb.get? D=some (wd (its++[yv]) kb):=by rw[eb]; simp
    have Ib:zC X' [(D,wd (its++[yv]) kb)] (σ++τ) Ha { sa with heap:=hb,toks:=sa.toks }:=KR (tk:=sa.toks) Ia hDle hpn hsb' eb';have stb:tn (i+1) hb:=T.keep _ _ _ (keepIt Ia).1 λb hbf o e=>(hsb'.2 b (λz=>absurd (lt b hbf) (by rw[z]; exact LB.mpr hDle))).trans e
    exact⟨m',hm,back Ib (ze.append v5 (.cons ra .nil)) stb (keepIt Ia).2 wa (by rw[yO]; exact room)⟩
 exact codeAny_compStart_list (loop _ rfl) (T.self X.A 0 _ _ _ (T.keep _ _ _ t0 λb _ o e=>keep b o e) (loop _ rfl))
def bz(n:Nat)(wi:TI)(g:TG)(tc:TT)(te:TE):TE:=λσ H Q=>wi σ H λJ H1=>∃W:Nat->Nat->List V->Hp->Prop,(∃m,W 0 m [] H1)/\
 Uo σ n J g tc te W λys H'=>∀p,H' p=none->Q (.ref p) (zT H' p (.lst ys))
theorem VN.inv{z6:List (Addr×Obj)}{σ:St}{H:Hp}{s:Shared}{C:Addr}{h':Heap}(o:VN X z6 H s C)(I:zC X z6 σ H s)(hs:Heap.SameBut C s.heap h'):zC X z6 σ H { s with heap:=h' }:=
 I.turned (it:=C) (t':=s.toks) (λb u hb q=>(hs.2 b hb).trans q) o.free o.ne (.inr o.old) o.cell o.pin
theorem Ry(hcalm:X.calm=true)(B:Z3 X scope cl own)(hi:PI X tg iter wi)(hg:∀C s H fp pn,PG (wE X scope cl own C s H fp pn) tg g)(hc:∀C s H fp pn,ga (wE X scope cl own C s H fp pn) ifs tc)
  (he:∀C s H fp pn,PE (wE X scope cl own C s H fp pn) elt te)(hs:∀x,foldedSetIterable iter X.env x=pure x:=by intro _; rfl) :
  PE X (.ListComp elt [⟨tg,iter,ifs,0⟩] scope pos) (bz own.length wi g tc te):=by
 intro z6 s σ H Q I h;rw[eval_ListComp];refine EL (use:=none) rfl hs B.V8 B.kind B.names (zh (hi z6 s σ H _ I h) λv s1 h1=>zh h1 λitv s2 h2=>?_);obtain⟨it,fp,tn,J,H2,e,I2,T,st2,f2,W,⟨m0,w0⟩,turn⟩:=h2;subst e;refine MY (RR:=λacc C=>compPost (model X.prog X.w) X.A X.xe none (EP X z6 σ Q) acc C) hcalm B I2 T st2 f2 hg hc he w0 turn ?_;intro D C s' H' ys m' I' n' fin ns' off;exact⟨m',ns',λh' hs'=>⟨.ref D,zT H' D (.lst ys),off.inv I' hs',rfl,fin D n'⟩⟩
def cJ(i n:Nat)(wi:TI)(g:TG)(tc:TT)(te:TE):TS:=λD σ H=>wi σ H λJ H1=>∃W:Nat->Nat->List V->Hp->Prop,(∃m,W 0 m [] H1)/\
 Uo σ n J g tc te W λys H'=>∀p,H' p=none->D.nx (σ.set i (some (.ref p))) (zT H' p (.lst ys))
theorem Sf{i:Nat}{x:Str}{px spos:Pos}(hcalm:X.calm=true)(hN:X.N.Nodup)(hix:X.N[i]?=some x)(hx:X.env.scope.names.lookup x=some .local)(B:Z3 X scope cl own)
  (hsw:swapsWith (.ListComp elt [⟨tg,iter,ifs,0⟩] scope pos) (some (.Name x px)) spos.line X.env=pure true)(hi:PI X tg iter wi)
  (hg:∀C s H fp pn,PG (wE X scope cl own C s H fp pn) tg g)(hc:∀C s H fp pn,ga (wE X scope cl own C s H fp pn) ifs tc)(he:∀C s H fp pn,PE (wE X scope cl own C s H fp pn) elt te)
  (hs:∀x,foldedSetIterable iter X.env x=pure x:=by intro _; rfl) :
  PS X (.Assign [.Name x px] (.ListComp elt [⟨tg,iter,ifs,0⟩] scope pos) spos) (cJ i own.length wi g tc te):=by
 intro z6 s σ H D I h;rw[exec_Assign_Name_used _ _ _ _ hsw];refine zX (LK (zX ?_));show wpAny _ X.A (do let _ <-comprehension (.ListComp elt [⟨tg,iter,ifs,0⟩] scope pos) scope X.env _ (newList []) false (eval iter X.env) (some (assign (.Name x px) X.env))) _ _ s
 refine zX (zh (EL (use:=some (assign (.Name x px) X.env)) (Q:=λ_ s'=>SP X z6 D .next s') rfl hs B.V8 B.kind B.names
  (zh (hi z6 s σ H _ I h) λv s1 h1=>zh h1 λitv s2 h2=>?_)) λ_ s' hq=>ya (ya hq))
 obtain⟨it,fp,tn,J,H2,e,I2,T,st2,f2,W,⟨m0,w0⟩,turn⟩:=h2;subst e;refine MY (RR:=λacc C=>compPost (model X.prog X.w) X.A X.xe (some (assign (.Name x px) X.env)) (λ_ s'=>SP X z6 D .next s') acc C) hcalm B I2 T st2 f2 hg hc he w0 turn ?_;intro L C s' H' ys m' I' n' fin ns' off;show wpAny _ X.A (assign (.Name x px) X.env (.ref L)) _ _ s';refine wpAny_assign_Name (CN I' hN hix (.inl hx) (v:=.ref L) rfl (λs3 I3 q3=>?_) (.inr hx));obtain⟨a,hsa,ha⟩:=q3
 have hCa:C≠a:=by
  rcases ha with z|z
  ·rw[z]; exact off.ne
  ·exact λy=>off.cell x a z y.symm
 refine⟨m',ns'.sameBut hsa hCa,λh' hs'=>?_⟩;exact⟨_,_,VN.inv (H:=zT H' L (.lst ys)) ⟨off.free,off.ne,off.old,off.cell,off.pin⟩ I3 hs',fin L n'⟩
end
structure QE(X:Cx)(e:Expr)(t:TE):Prop where
 h:PE X e t
structure QA(X:Cx)(es:List Expr)(t:TA):Prop where
 h:PA X es t
structure QS(X:Cx)(st:Stmt)(t:TS):Prop where
 h:PS X st t
structure QG(X:Cx)(e:Expr)(t:TG):Prop where
 h:PG X e t
structure VP(X:Cx)(es:List Expr)(t:qd):Prop where
 h:Yu X es t
structure QI(X:Cx)(tg e:Expr)(t:TI):Prop where
 h:PI X tg e t
section
variable{X:Cx}{x y:Str}{p pos pos' apos cpos p2:Pos}{e a b c o tg iter elt:Expr}{es zf:List Expr}{te ta tb tc to:TE}{t:TA}{tA tB':TT}{r r':R2}{v:V}{T id:String}{ps:List Str}{j k i:Nat}{sp:Sp}
theorem qv(i:Nat){x:Str}{pos:Pos}(hN:X.N[i]?=some x:=by rfl)(hv:p8 X.env.scope x:=by first|exact Or.inl rfl|exact Or.inr (Or.inl rfl)|exact Or.inr (Or.inr rfl))(hd:(x==("__debug__" : Str))=false:=by decide)
  (hcd:(x==("__classdict__" : Str))=false:=by decide):QE X (.Name x pos) (TV i):=⟨Y7 hN hv hd hcd⟩
theorem Su(hg:Gl X x)(hm:X.mg x=none)(hv:bootBuiltins x=some (.type T))(hn:x ≠ "__name__" := by decide)(hd:(x==("__debug__" : Str))=false:=by decide):QE X (.Name x pos) (tC (.ty T)):=⟨Rn hg hm hv hn hd⟩
def Dt:Expr->Bool
 |.Name ..=>true
 |.Call ..=>true
 |.Subscript ..=>true
 |.Attribute ..=>true
 |.Constant ..=>true
 |.List ..=>true
 |.Tuple ..=>true
 |.BinOp ..=>true
 |_=>false
theorem SU{e:Expr}{env:Env}(h:Dt e=true):∀whole,isTrue e env whole=(do let v <-whole; standAt e.pos; holding [v] (truthy v)):=by
 cases e<;>first|(intro _; rfl)|cases h
theorem Sr:QA X [] Wh:=⟨XU⟩
theorem FY(ha:QE X e te)(hr:QA X es t)(h:yZ e=true:=by rfl):QA X (e::es) (OO te t):=⟨kH ha.h hr.h h⟩
def XW:Expr->Bool
 |.Name ..=>true
 |.Constant ..=>true
 |.BinOp ..=>true
 |.Call ..=>true
 |.UnaryOp ..=>true
 |.Subscript ..=>true
 |.Attribute ..=>true
 |_=>false
theorem Ip{b:Expr}(h:XW b=true):Ln b:=by
 cases b<;>first|(intro _ _; rfl)|cases h
theorem T3{r:List V->Hp->VK->Prop}(hc:xU X (.builtin id) r)(hg:Gl X x)(hm:X.mg x=none)(hv:bootBuiltins x=some (.builtin id))(ha:QA X (e::es) t)(hn:x ≠ "__name__" := by decide)(hdb:(x==("__debug__" : Str))=false:=by decide)
  (he:(e::es).all yZ=true:=by rfl):QE X (.Call (.Name x p) (e::es) [] pos) (TL r t):=by
 rw[xf,yD]at he;exact⟨Rp hc hg hm hv ha.h hn hdb (vw he.1) (pj he.2)⟩
theorem YD{r:List V->Hp->VK->Prop}(hc:xU X (.type T) r)(hg:Gl X x)(hm:X.mg x=none)(hv:bootBuiltins x=some (.type T))(ha:QA X (e::es) t)(hn:x ≠ "__name__" := by decide)(hdb:(x==("__debug__" : Str))=false:=by decide)
  (he:(e::es).all yZ=true:=by rfl):QE X (.Call (.Name x p) (e::es) [] pos) (TL r t):=by
 rw[xf,yD]at he;exact⟨Rr hc hg hm hv ha.h hn hdb (vw he.1) (pj he.2)⟩
variable{st:Stmt}{sts body:List Stmt}{ts us tbs:TS}{g:TG}{wi:TI}
def Zy:Expr->Bool
 |.ListComp ..=>false
 |.SetComp ..=>false
 |.DictComp ..=>false
 |_=>true
theorem DD{e:Expr}{tgt:Option Expr}{n:Nat}{env:Env}(h:Zy e=true):swapsWith e tgt n env=pure false:=by
 cases e<;>first|rfl|cases h
theorem Sx(he:QE X e te)(hs:Zy e=true:=by rfl):QS X (.Expr e pos) (CT te):=⟨Dx he.h (DD hs)⟩
theorem Iy{i:Nat}{x:Str}{pos':Pos}(hN:X.N.Nodup)(hi:X.N[i]?=some x)(hx:tM X.env.scope x)(he:QE X e te)(hs:Zy e=true:=by rfl)(hf:X.fn x=true\/X.env.scope.names.lookup x=some .local:=by first|exact .inl rfl|exact .inr rfl|assumption) :
  QS X (.Assign [.Name x pos'] e pos) (OM te (vt i)):=⟨Se hN hi hx he.h (DD hs) hf⟩
theorem xZ{i:Nat}{x:Str}(hN:X.N.Nodup)(hi:X.N[i]?=some x)(hx:tM X.env.scope x)(hf:X.fn x=true\/X.env.scope.names.lookup x=some .local:=by first|exact .inl rfl|exact .inr rfl|assumption):QG X (.Name x pos) (vt i):=⟨S8 hN hi hx hf⟩
theorem Sv{o i:Expr}{to ti:TE}{t:VQ}(ho:QE X o to)(hi:QE X i ti)(hs:QQ X t)(hp:XW i=true:=by rfl):QG X (.Subscript o i pos) (B8 to ti t):=by
 refine⟨S9 ho.h hi.h hs ?_⟩;cases i<;>first|(intro _; rfl)|cases hp
theorem T5:VP X [] ZW:=⟨SH⟩
theorem jf{t:TG}{u:qd}(h1:QG X e t)(h2:VP X es u)(hs:(assignEach (e::es) X.env).map (·.2)=assign e X.env::(assignEach es X.env).map (·.2):=by rfl):VP X (e::es) (qh t u):=⟨SD h1.h h2.h hs⟩
theorem T4{k:Nat}{t:qd}{n:Nat}(hc:X.calm=true)(h:VP X es t)(hn:(assignEach es X.env).length=n:=by rfl)(hst:(assignEach es X.env).findIdx? (·.1)=none:=by rfl):QG X (.Tuple es k pos) (ZX X.K n t):=⟨SC hc h.h hn hst⟩
variable{ifs:List Expr}{scope:Scope}{cl:List (Str×Addr)}{own:List Str}{tcc:TT}
variable{name:Str}{rm:V->List V->Hp->VK->Prop}
theorem CK{env:Env}{pos:Pos}:∀{es:List Expr},es.all yZ=true->(backTo pos (starEach es env)).all (λx=>!x.1)=true
 | [],_=>rfl
 |e::es,h=>by
  rw[xf,yD]at h;rw[vw h.1];have ih:=CK (env:=env) (pos:=pos) h.2;unfold backTo at ih ⊢;rw[y_,xf,ih];rfl
theorem Ss(pa:PlainAttrs T)(slot:Slot T name id)(hty:typeOf (.builtin id)=pure (.type "method_descriptor"))(hm:Li X id rm)(ho:QE X o to)(ha:QA X (e::es) t)
  (hbase:attributeBase o name X.env (eval o X.env)=eval o X.env:=by rfl)(hline:(apos.endLine==cpos.line)=true:=by rfl)(he:(e::es).all yZ=true:=by rfl)(hl:(e::es).length<30:=by decide) :
  QE X (.Call (.Attribute o name apos) (e::es) [] cpos) (CS X.K T rm to t):=⟨by
 have ha':=CK (env:=X.env) (pos:=cpos) he;rw[xf,yD]at he;refine Rm pa slot hty hm ho.h ha.h hbase ?_ hline (vw he.1) (pj he.2);rw[ha'];show(true&&true&&decide ((e::es).length+0+0<30))=true;rw[yQ (show(e::es).length+0+0<30 from hl)];rfl⟩
end
section
variable{P:Program}{w:World}{K:W.Frag}{mg:Str->Option Value}{base:Heap}
end
def Lq(K:W.Frag)(H:Hp)(a c:Addr)(xs ys:List V):Prop:=(yb K H a xs/\yb K H c ys)\/(yJ K H a xs/\yJ K H c ys)
section
variable{X:Cx}{z6:List (Addr×Obj)}{σ:St}{H:Hp}{s:Shared}
theorem A9{A:Around}{a c:Addr}{xs ys:List V}{e:Nat->Bool}(I:zC X z6 σ H s)(hu:A.units<cLine)(hq:Lq X.K H a c xs ys)
  (he:∀(j:Nat) x' y' u v,xs[j]?=some x'->ys[j]?=some y'->zc x' u->zc y' v->SeqAt.EqAt A.in1 s u v (e j)) :
  SeqAt.RcAt A s (.ref a) (.ref c) ((List.range (min xs.length ys.length)).all e&&xs.length==ys.length)/\SeqAt.RcNeAt A s (.ref a) (.ref c) (!((List.range (min xs.length ys.length)).all e&&xs.length==ys.length)):=by
 have get:∀{zs:List V}{us:List Value}{j:Nat}(hj:j<us.toArray.size),ze zs us->∃z,zs[j]?=some z/\zc z us.toArray[j]:=λ{zs us j} hj r=>by
  have hl:=r.length
  have hj':j<zs.length:=by
   rw[ym]at hj;omega
  obtain⟨u,hu',ru⟩:=r.get (xD hj');refine⟨_,xD hj',?_⟩
  have:us.toArray[j]=u:=by
   have h2:us[j]?=some us[j]:=xD (by omega);rw[h2]at hu';simpa using hu'
  rw[this];exact ru
 rcases hq with⟨ha,hc⟩|⟨ha,hc⟩
 ·obtain⟨us,ra,pa,_⟩:=I.tuple ha;obtain⟨vs,rc,pc,_⟩:=I.tuple hc;have h1:=ra.length;have h2:=rc.length
  have key:∀j (k1:j<us.toArray.size) (k2:j<vs.toArray.size),SeqAt.EqAt A.in1 s us.toArray[j] vs.toArray[j] (e j):=λj k1 k2=>by
   obtain⟨z1,e1,r1⟩:=get k1 ra;obtain⟨z2,e2,r2⟩:=get k2 rc;exact he j z1 z2 _ _ e1 e2 r1 r2
  have p:=SeqAt.RcAt.tuples (e:=e) pa pc hu key;have q:=SeqAt.RcNeAt.tuples (e:=e) pa pc hu key;rw[ym,ym,<-h1,<-h2]at p q;exact⟨p,q⟩
 ·obtain⟨us,ra,pa,_⟩:=I.list ha;obtain⟨vs,rc,pc,_⟩:=I.list hc;have h1:=ra.length;have h2:=rc.length
  have key:∀j (k1:j<us.toArray.size) (k2:j<vs.toArray.size),SeqAt.EqAt A.in1 s us.toArray[j] vs.toArray[j] (e j):=λj k1 k2=>by
   obtain⟨z1,e1,r1⟩:=get k1 ra;obtain⟨z2,e2,r2⟩:=get k2 rc;exact he j z1 z2 _ _ e1 e2 r1 r2
  by_cases hl:xs.length=ys.length
  ·have hs:us.toArray.size=vs.toArray.size:=by rw[ym,ym]; omega
   have p:=SeqAt.RcAt.lists (e:=e) pa.isList pc.isList hs hu key;have q:=SeqAt.RcNeAt.lists (e:=e) pa.isList pc.isList hs hu key;have e1:min xs.length ys.length=us.toArray.size:=by rw[ym]; omega
   have e2:(xs.length==ys.length)=true:=by simp[hl]
   rw[e1,e2,Bool.and_true];exact⟨p,q⟩
  ·have hs:(us.toArray.size != vs.toArray.size)=true:=by
    rw[ym,ym];simp;omega
   have e2:(xs.length==ys.length)=false:=by simp[hl]
   rw[e2,Bool.and_false];exact⟨SeqAt.RcAt.lists_lengths pa.isList pc.isList hs hu,SeqAt.RcNeAt.lists_lengths pa.isList pc.isList hs hu⟩
theorem Uc(A:Around):A.in1.units=A.units+1:=rfl
end
theorem Gv{x:V}(h:qJ x=true):tS x x=true:=by
 cases x<;>first|rfl|(simp[tS]; done)|cases h
open PySem.W (hideAll)
section
variable{P:Program}{w:World}{l:List Env}{H H':Hp}{h B h' h'':Heap}
end
section
variable{X:Cx}{z6:List (Addr×Obj)}{σ:St}{H H':Hp}{s:Shared}{B h':Heap}
variable{x:Str}{C:Addr}{np cpos pos:Pos}{e:Expr}{es:List Expr}{t:TA}{E:XK}
end
section
variable{P:Program}{w:World}{K:W.Frag}{mg:Str->Option Value}{base:Heap}{N:List Str}{qual:Str}{scope:Scope}{f:Addr}{cd:Value}{A:Around}{outer:List Env}{s₀:Shared}{H₀:Hp}{E:XK}
end
section
variable{X:Cx}{x:Str}{np cpos pos p:Pos}{e:Expr}{es:List Expr}{t:TA}{E:XK}{C:Addr}{ps:List Str}{j k:Nat}{sp:Sp}
end
end L2
namespace L2
open PySem PySem.Spec PyProof.Rows
section
variable{X:Cx}{z6:List (Addr×Obj)}{σ:St}{H H':Hp}{s:Shared}{a C:Addr}
def EY(a C:Addr)(h:Heap):Prop:=∃o vs,h.get? a=some o/\o.cls=.ref C/\o.data=.fields vs
theorem dh{fs ex:List Addr}{H H':Hp}{h h':Heap}{D:Addr}{o:HO}(u:Un fs ex H H' h h')(hD:h.get? D=none)(hn:H' D=none):Un fs ex H (zT H' D o) h h' where
 keep:=u.keep
 slot:=u.slot
 free:=λb ob q n hx=>by rw[yH (λz=>by subst z; rw[hD]at q; cases q)]; exact u.free b ob q n hx
 there:=u.there
 uN:=λb xs q=>by rw[yH (uB (u.uN b xs q) hn)]; exact u.uN b xs q
 v_:=λb ob v q=>by rw[yH (uB (u.v_ b ob v q) hn)]; exact u.v_ b ob v q
 tI:=λb ps q=>by
  obtain⟨more,z⟩:=u.tI b ps q;exact⟨more,by rw[yH (uB z hn)]; exact z⟩
end
section
variable{X:Cx}{x n:Str}{p pos np hpos tpos:Pos}{e e1 e2:Expr}{es:List Expr}{ta:TA}{te:TE}{tx:TX}{ps:List Str}{j k i:Nat}{sp:Sp}{E:XK}{D:Addr}
variable{suite:List Stmt}{ts:TS}{b₀:Stmt}
end
section
variable{X:Cx}{x:Str}{p pos:Pos}{e:Expr}{es:List Expr}{t:TA}{ps:List Str}{j k:Nat}{sp:Sp}
end
section
variable{X:Cx}{e e1 e2:Expr}{es:List Expr}{te:TE}{t:TJ}{pos:Pos}
end
open PySem.W (Looks findIn mroIn looks_findIn looks_mroIn clsIn)
section
variable{prog:Program}{w:World}{A:Around}{E:Value->Shared->Prop}{h:Heap}{g:Array GenState}{d:Drawn}{t:Nat}{os:OsState}{a C:Addr}{o:Obj}{K:W.Frag}
end
end L2
namespace L2
open PySem PySem.Spec PyProof.Rows
section
variable{X:Cx}
theorem Cg{ns:List Int}{its:List Value}(r:ze (ns.map V.int) its){i:Nat}{v:Value}(h:its.toArray[i]?=some v):∃t,v=.int (ns.getD i 0) t:=by
 have hi:i<its.length:=by
  rw[YY]at h;exact(yA.mp h).1
 have hl:ns.length=its.length:=by have:=r.length; rw[zm]at this; exact this
 have hx:(ns.map V.int)[i]?=some (.int (ns.getD i 0)):=by
  rw[vN,qw,xD (by omega)];rfl
 obtain⟨u,hu,ru⟩:=r.get hx;rw[YY,hu]at h;cases h;exact ru
theorem Iq{ns:List Int}:∀(k:Nat),k<=ns.length->preSum (λi=>ns.getD i 0) k=(ns.take k).sum
 |0,_=>by simp[preSum]
 |k+1,h=>by
  rw[preSum,Iq k (by omega),Wx (by omega),List.sum_append,qw,xD (by omega)];show _+ns[k]=_+(ns[k]+0);rw[Ot]
def Lu(ns:List Int):Prop:=(∀n∈ns,InLong n)/\∀k,k<=ns.length->InLong (ns.take k).sum
def Fk(K:W.Frag):List V->Hp->VK->Prop:=λxs H Q=>∃(p:Addr) (ns:List Int),xs=[.ref p]/\(yJ K H p (ns.map V.int)\/yb K H p (ns.map V.int))/\Lu ns/\Q (.int ns.sum) H
theorem CP{ns:List Int}(h:Lu ns):∀j,j<ns.length->InLong (ns.getD j 0)/\InLong (preSum (λi=>ns.getD i 0) (j+1)):=λj hj=>by
 refine⟨h.1 _ ?_,?_⟩
 ·rw[qw,xD hj];exact pz hj
 ·rw[Iq _ (by omega)];exact h.2 _ (by omega)
theorem GY(hc:X.calm=true):xU X (.builtin "sum") (Fk X.K):=by
 intro z6 s σ H xs us Q I r h;obtain⟨p,ns,rfl,hq,zZ,q⟩:=h;obtain⟨u,rfl,rx⟩:=vg r;cases rx;have hd:=I.ok.hd hc;have e:preSum (λi=>ns.getD i 0) ns.length=ns.sum:=by rw[Iq _ (yF _),Ww]
 refine call_sum_walk ?_;rcases hq with hq|hq
 ·obtain⟨its,rv,pl,hz⟩:=I.list hq;have hl:ns.length=its.toArray.size:=by have:=rv.length; rw[zm]at this; rw[ym]; exact this
  have hlt:p<s.heap.objs.size:=by obtain⟨o,n,e,_⟩:=pl; exact Heap.lt_size e
  refine V5 pl.isList ?_;refine⟨_,_,_,_,_,_,λi=>ns.getD i 0,rfl,Walks.list (by exact hd) s.heap.objs.size p (wB hlt) its.toArray,⟨⟨_,Heap.get?_push_size _ rfl,rfl,rfl⟩,pl.isList.push _⟩,?_,λi v hv=>Cg rv hv,?_,?_⟩
  ·intro b hb;show b<(s.heap.push _).objs.size;rw[Heap.size_push];simp only[yl,t_,or_false]at hb;rcases hb with rfl|rfl
   ·exact kf _
   ·exact LA hlt
  ·rw[<-hl];exact CP zZ
  ·intro h' tk t' k;rw[<-hl,e]
   exact⟨.int ns.sum,H,I.kept (t':=tk) λb o eb=>k b o (λz=>by
    have:b=s.heap.objs.size:=by simpa using z
    rw[this]at eb;exact absurd (Heap.lt_size eb) (wW _)) (Heap.get?_push_of_some _ eb),⟨_,rfl⟩,q⟩
 ·obtain⟨its,rv,pl,hz⟩:=I.tuple hq;have hl:ns.length=its.toArray.size:=by have:=rv.length; rw[zm]at this; rw[ym]; exact this
  have plT:s.heap.IsTuple p its.toArray:=pl;have hlt:p<s.heap.objs.size:=by obtain⟨o,e,_⟩:=plT; exact Heap.lt_size e
  refine LJ plT ?_;refine⟨_,_,_,_,_,_,λi=>ns.getD i 0,rfl,Walks.tuple (by exact hd) s.heap.objs.size p (wB hlt) its.toArray,⟨⟨_,Heap.get?_push_size _ rfl,rfl,rfl⟩,plT.push _⟩,?_,λi v hv=>Cg rv hv,?_,?_⟩
  ·intro b hb;show b<(s.heap.push _).objs.size;rw[Heap.size_push];simp only[yl,t_,or_false]at hb;rcases hb with rfl|rfl
   ·exact kf _
   ·exact LA hlt
  ·rw[<-hl];exact CP zZ
  ·intro h' tk t' k;rw[<-hl,e]
   exact⟨.int ns.sum,H,I.kept (t':=tk) λb o eb=>k b o (λz=>by
    have:b=s.heap.objs.size:=by simpa using z
    rw[this]at eb;exact absurd (Heap.lt_size eb) (wW _)) (Heap.get?_push_of_some _ eb),⟨_,rfl⟩,q⟩
theorem dl{bs:List Bool}{its:List Value}(r:ze (bs.map V.bl) its){i:Nat}{v:Value}(h:its.toArray[i]?=some v):v=.bool (bs.getD i false):=by
 have hi:i<its.length:=by
  rw[YY]at h;exact(yA.mp h).1
 have hl:bs.length=its.length:=by have:=r.length; rw[zm]at this; exact this
 have hx:(bs.map V.bl)[i]?=some (.bl (bs.getD i false)):=by
  rw[vN,qw,xD (by omega)];rfl
 obtain⟨u,hu,ru⟩:=r.get hx;rw[YY,hu]at h;cases h;exact ru
theorem A7{bs:List Bool}:(List.range bs.length).all (λi=>bs.getD i false)=bs.all id:=by
 rw[ju,t9,t9]
 constructor
 ·intro h b hb;obtain⟨i,hi,rfl⟩:=List.mem_iff_getElem.mp hb;have:=h i (Ya.mpr hi)
  rwa [qw,xD hi]at this
 ·intro h i hi;have hi':=Ya.mp hi;rw[qw,xD hi'];exact h _ (pz hi')
def Fa(K:W.Frag):List V->Hp->VK->Prop:=λxs H Q=>∃(p:Addr) (bs:List Bool),xs=[.ref p]/\yJ K H p (bs.map V.bl)/\Q (.bl (bs.all id)) H
theorem GK(hc:X.calm=true):xU X (.builtin "all") (Fa X.K):=by
 intro z6 s σ H xs us Q I r h;obtain⟨p,bs,rfl,hq,q⟩:=h;obtain⟨u,rfl,rx⟩:=vg r;cases rx;have hd:=I.ok.hd hc;refine call_all_walk ?_;obtain⟨its,rv,pl,hz⟩:=I.list hq;have hl:bs.length=its.toArray.size:=by have:=rv.length; rw[zm]at this; rw[ym]; exact this
 have hlt:p<s.heap.objs.size:=by obtain⟨o,n,e,_⟩:=pl; exact Heap.lt_size e
 refine V5 pl.isList ?_;refine⟨_,_,_,_,_,_,λi=>bs.getD i false,rfl,Walks.list (by exact hd) s.heap.objs.size p (wB hlt) its.toArray,⟨⟨_,Heap.get?_push_size _ rfl,rfl,rfl⟩,pl.isList.push _⟩,?_,?_⟩
 ·intro i v Q' E' s' hv h';rw[dl rv hv];exact ya h'
 ·intro h' tk k;rw[<-hl,A7]
  exact⟨.bl (bs.all id),H,I.kept (t':=tk) λb o eb=>k b o (λz=>by
   have:b=s.heap.objs.size:=by simpa using z
   rw[this]at eb;exact absurd (Heap.lt_size eb) (wW _)) (Heap.get?_push_of_some _ eb),rfl,q⟩
end
open Builtin.SmallTypes (nextOf)
structure gi(P:Program)(w:World)(it l:Addr)(st:Nat->Heap->Prop)(n:Nat)(val:Nat->Value):Prop where
 keep:∀i h h',st i h->(∀b o,(b=it\/b=l)->h.get? b=some o->h'.get? b=some o)->st i h'
 item:∀{A:Around}{Q:Value->Shared->Prop}{E:Value->Shared->Prop}{s:Shared}(i:Nat),st i s.heap->i<n->(∀h',st (i+1) h'->Heap.SameBut it s.heap h'->Q (val i) { s with heap:=h' })->wpAny (model P w) A (nextOf (.ref it)) Q E s
 done:∀{A:Around}{Q:Value->Shared->Prop}{E:Value->Shared->Prop}{s:Shared}(i:Nat),A.handled=none->st i s.heap->n<=i->
  (∀h' e,Heap.ExtBut it s.heap h'->(∃o,h'.get? e=some o/\o.cls=.type "StopIteration")->E (.ref e) { s with heap:=h' })->wpAny (model P w) A (nextOf (.ref it)) Q E s
section
variable{prog:Program}{w:World}{A:Around}{E:Value->Shared->Prop}{s:Shared}
theorem Nl{it t:Addr}{i:Nat}{items}{x:Value}{Q:Value->Shared->Prop}(hit:s.heap.IsTupleIter it t i)(ht:s.heap.IsTuple t items)(hx:items[i]?=some x)
  (hQ:∀h',h'.IsTupleIter it t (i+1)->Heap.SameBut it s.heap h'->Q x { s with heap:=h' }):wpAny (model prog w) A (nextOf (.ref it)) Q E s:=by
 obtain⟨o,ho,hc,hd⟩:=id hit;obtain⟨ol,hol,_,nl,hdl⟩:=ht;unfold nextOf
 refine zX (Q1 (name:=Str.ofString "__next__") hit.typeIs Tl
  (V2 Tl hit.typeIs Cz ?_ (Cy _)))
 refine zX (m:=field (.ref it) 0) (qB ho hd (x:=.ref t) rfl ?_);show wpAny _ _ (if(Value.ref t==Value.none)=true then _ else _) _ _ s;rw[zO (show ¬ ((Value.ref t==Value.none)=true)from xT)];refine zX (m:=field (.ref it) 1) (qB ho hd (x:=.int i 0) rfl ?_);refine zX (m:=seqItems? (.ref t)) (j5 hol hdl ?_);simp only[tw,hx];refine zX (wpAny_setField ho hd (by simp) (ya ⟨x,rfl,ya (hQ _ ?_ (Heap.SameBut.update ..))⟩))
 exact⟨_,Heap.get?_update_self _ ho (Obj.isFreed_of_fields (Obj.data_mapFields hd _)),(Obj.cls_mapFields ..).trans hc,by
  rw[Obj.data_mapFields hd]; simp[rawInt]⟩
theorem Nk{it t:Addr}{i:Nat}{items}{Q:Value->Shared->Prop}(hh:A.handled=none)(hit:s.heap.IsTupleIter it t i)(ht:s.heap.IsTuple t items)(hx:items[i]?=none)
  (hE:∀h' e,Heap.ExtBut it s.heap h'->(∃o,h'.get? e=some o/\o.cls=.type "StopIteration")->E (.ref e) { s with heap:=h' }):wpAny (model prog w) A (nextOf (.ref it)) Q E s:=by
 obtain⟨o,ho,hc,hd⟩:=id hit;obtain⟨ol,hol,_,nl,hdl⟩:=ht;unfold nextOf
 refine zX (Q1 (name:=Str.ofString "__next__") hit.typeIs Tl
  (V2 Tl hit.typeIs Cz ?_ (Cy _)))
 refine zX (m:=field (.ref it) 0) (qB ho hd (x:=.ref t) rfl ?_);show wpAny _ _ (if(Value.ref t==Value.none)=true then _ else _) _ _ s;rw[zO (show ¬ ((Value.ref t==Value.none)=true)from xT)];refine zX (m:=field (.ref it) 1) (qB ho hd (x:=.int i 0) rfl ?_);refine zX (m:=seqItems? (.ref t)) (j5 hol hdl ?_);simp only[tw,hx];refine zX (wpAny_rule (zX (wpAny_setField ho hd (by simp) ?_)));refine zX (m:=newExc (.type "StopIteration") []) ?_;simp only[newExc,newTuple];refine zX (LI ?_ (by size_fits));refine zX (m:=firstArgMember _ _) (wpAny_of_eq (a:=Value.none) (by first|rfl|(simp only[firstArgMember]; rfl)) ?_);refine LI ?_ (by size_fits);simp only[raiseNew];refine zX (wpAny_handled ?_)
 first|rw[show A.in1.handled=none from hh]|rw[hh]
 refine zX (ya (wpAny_throw ?_));exact hE _ _ (((Heap.SameBut.update ..).extBut.push _).push _) ⟨_,Heap.get?_push_size _ rfl,rfl⟩
theorem bU{it l:Addr}(hne:l≠it)(items:Array Value):gi prog w it l (λi h=>h.IsListIter it l i/\h.IsList l items) items.size (λi=>items.getD i .none) where
 keep:=λi h h' st k=>⟨st.1.at λo e=>k it o (.inl rfl) e,st.2.at λo e=>k l o (.inr rfl) e⟩
 item:=λi st hi hQ=>wpAny_nextOf_list_item st.1 st.2 (x:=items.getD i .none) (by simp[Array.getD,hi]) λh' st' sb=>hQ h' ⟨st',st.2.extBut sb.extBut hne⟩ sb
 done:=λi hh st hi hE=>wpAny_nextOf_list_end hh st.1 st.2 (On hi) hE
theorem bV{it l:Addr}(hne:l≠it)(items:Array Value):gi prog w it l (λi h=>h.IsTupleIter it l i/\h.IsTuple l items) items.size (λi=>items.getD i .none) where
 keep:=λi h h' st k=>⟨st.1.at λo e=>k it o (.inl rfl) e,st.2.at λo e=>k l o (.inr rfl) e⟩
 item:=λi st hi hQ=>Nl st.1 st.2 (x:=items.getD i .none) (by simp[Array.getD,hi]) λh' st' sb=>hQ h' ⟨st',st.2.extBut sb.extBut hne⟩ sb
 done:=λi hh st hi hE=>Nk hh st.1 st.2 (On hi) hE
variable{z TI TO i1 i2 l1 l2:Addr}{st1 st2:Nat->Heap->Prop}{n1 n2:Nat}{v1 v2:Nat->Value}{a b:Value}{k:Nat}
theorem d_{Q:Value->Shared->Prop}(D:ZipApart z TI TO i1 i2 l1 l2)(S1:gi prog w i1 l1 st1 n1 v1)(S2:gi prog w i2 l2 st2 n2 v2)
  (hz:IsZip s.heap z TI TO .none)(hTI:IsPair s.heap TI (.ref i1) (.ref i2))(hTO:IsPair s.heap TO a b)(h1:st1 k s.heap)(h2:st2 k s.heap)(k1:k<n1)(k2:k<n2)
  (hi1:i1<s.heap.objs.size)(hi2:i2<s.heap.objs.size)(hl1:l1<s.heap.objs.size)(hl2:l2<s.heap.objs.size)
  (hQ:∀h',IsZip h' z TI TO (rawInt s.heap.objs.size)->IsPair h' TO (v1 k) (v2 k)->st1 (k+1) h'->st2 (k+1) h'->IsPair h' s.heap.objs.size (v1 k) (v2 k)->
   (∀c o,c≠z->c≠TO->c≠i1->c≠i2->s.heap.get? c=some o->h'.get? c=some o)->Q (.ref s.heap.objs.size) { s with heap:=h' }) :
  wpAny (model prog w) A (Builtin.«zip.__next__» ⟨[.ref z],[]⟩) (λfin s'=>∃v,fin=.done (.ret v)/\Q v s') E s:=by
 refine zX (m:=field (.ref z) 2) (qB hz rfl (x:=.bool false) rfl ?_);refine zX (m:=field (.ref z) 3) (qB hz rfl (x:=.ref TI) rfl ?_);refine zX (j5 hTI rfl ?_);refine zX (m:=Builtin.SmallTypes.ownedTupleIsFree (.ref z)) ?_;unfold Builtin.SmallTypes.ownedTupleIsFree;refine zX (qB hz rfl (x:=.none) rfl (ya ?_));simp only[vz];refine zX (wpAny_rule (zX (qB hz rfl (x:=.ref TO) rfl ?_)));refine zX (Yf hz (by simp) λha hza sa=>?_)
 replace hza:IsZip ha z TI TO .ellipsis:=hza
 refine zX ?_;simp only[List.zipIdx_cons,List.zipIdx_nil,List.forIn_cons,List.forIn_nil];have h1a:st1 k ha:=S1.keep k _ _ h1 λc o hc e=>sa.extBut c o (by rcases hc with rfl|rfl; exact D.i1z; exact D.l1z) e
 refine zX (zX (V3 (zX (m:=nextOf (.ref i1)) (S1.item k h1a k1 λhb h1b sb=>ya ?_))));have hTOb:IsPair hb TO a b:=sb.extBut _ _ D.TOi1 (sa.extBut _ _ D.TOz hTO);refine zX (j5 hTOb rfl (zX (LL hTOb λhc hTOc sc=>?_)))
 replace hTOc:IsPair hc TO (v1 k) b:=hTOc
 refine zX (wpAny_letGo (ya ?_))
 have h2c:st2 k hc:=S2.keep k _ _ h2 λc o hcc e=>by
  rcases hcc with rfl|rfl
  ·exact sc.extBut _ _ D.TOi2.symm (sb.extBut _ _ D.i12.symm (sa.extBut _ _ D.i2z e))
  ·exact sc.extBut _ _ D.l2TO (sb.extBut _ _ D.l2i1 (sa.extBut _ _ D.l2z e))
 refine zX (zX (V3 (zX (m:=nextOf (.ref i2)) (S2.item k h2c k2 λhd h2d sd=>ya ?_))));have hTOd:IsPair hd TO (v1 k) b:=sd.extBut _ _ D.TOi2 hTOc;refine zX (j5 hTOd rfl (zX (LL hTOd λhe hTOe se=>?_)))
 replace hTOe:IsPair he TO (v1 k) (v2 k):=hTOe
 refine zX (wpAny_letGo (ya (ya ?_)));refine zX (j5 hTOe rfl (zX (wpAny_newTuple ?_)));have hsz:he.objs.size=s.heap.objs.size:=by rw[se.1,sd.1,sc.1,sb.1,sa.1]
 have hze:IsZip he z TI TO .ellipsis:=se.extBut _ _ D.TOz.symm (sd.extBut _ _ D.i2z.symm (sc.extBut _ _ D.TOz.symm (sb.extBut _ _ D.i1z.symm hza)))
 have hke:∀c o,c≠z->c≠TO->c≠i1->c≠i2->s.heap.get? c=some o->he.get? c=some o:=λc o c1 c2 c3 c4 e=>
  se.extBut _ _ c2 (sd.extBut _ _ c4 (sc.extBut _ _ c2 (sb.extBut _ _ c3 (sa.extBut _ _ c1 e))))
 have h1e:st1 (k+1) he:=S1.keep _ _ _ h1b λc o hcc e=>by
  rcases hcc with rfl|rfl
  ·exact se.extBut _ _ D.TOi1.symm (sd.extBut _ _ D.i12 (sc.extBut _ _ D.TOi1.symm e))
  ·exact se.extBut _ _ D.l1TO (sd.extBut _ _ D.l1i2 (sc.extBut _ _ D.l1TO e))
 have h2e:st2 (k+1) he:=S2.keep _ _ _ h2d λc o hcc e=>by
  rcases hcc with rfl|rfl
  ·exact se.extBut _ _ D.TOi2.symm e
  ·exact se.extBut _ _ D.l2TO e
 have hzlt:z<he.objs.size:=Heap.lt_size hze;refine zX (m:=Builtin.SmallTypes.ownedTupleHandOut (.ref z) (.ref he.objs.size)) ?_;unfold Builtin.SmallTypes.ownedTupleHandOut;have hzf:IsZip (he.push { cls:=.type "tuple",data:=.seq #[v1 k,v2 k] }) z TI TO .ellipsis:=Heap.get?_push_of_some _ hze;refine zX (Yf hzf (by simp) λhg hzg sg=>?_)
 replace hzg:IsZip hg z TI TO (rawInt he.objs.size):=hzg
 refine Yf hzg (by simp) λhh hzh sh=>?_
 replace hzh:IsZip hh z TI TO (rawInt he.objs.size):=hzh
 have up:∀c o,c≠z->he.get? c=some o->hh.get? c=some o:=λc o c1 e=>sh.extBut _ _ c1 (sg.extBut _ _ c1 (Heap.get?_push_of_some _ e))
 have hT:IsPair hh he.objs.size (v1 k) (v2 k):=sh.extBut _ _ (qU hzlt) (sg.extBut _ _ (qU hzlt) (Heap.get?_push_size _ rfl));rw[hsz]at hzh hT;refine ya ⟨_,rfl,?_⟩;show Q (.ref he.objs.size) _;rw[hsz];refine hQ hh hzh (up _ _ D.TOz hTOe) (S1.keep _ _ _ h1e λc o hcc e=>up c o ?_ e) (S2.keep _ _ _ h2e λc o hcc e=>up c o ?_ e) hT λc o c1 c2 c3 c4 e=>up c o c1 (hke c o c1 c2 c3 c4 e)
 ·rcases hcc with rfl|rfl
  ·exact D.i1z
  ·exact D.l1z
 ·rcases hcc with rfl|rfl
  ·exact D.i2z
  ·exact D.l2z
theorem dz{Q:Fin->Shared->Prop}(hh:A.handled=none)(D:ZipApart z TI TO i1 i2 l1 l2)(S1:gi prog w i1 l1 st1 n1 v1)(S2:gi prog w i2 l2 st2 n2 v2)
  (hz:IsZip s.heap z TI TO .none)(hTI:IsPair s.heap TI (.ref i1) (.ref i2))(hTO:IsPair s.heap TO a b)(h1:st1 k s.heap)(h2:st2 k s.heap)(hend:n1<=k\/n2<=k)
  (hE:∀h' e,(∀c o,c≠z->c≠TO->c≠i1->c≠i2->s.heap.get? c=some o->h'.get? c=some o)->(∃o,h'.get? e=some o/\o.cls=.type "StopIteration")->E (.ref e) { s with heap:=h' }) :
  wpAny (model prog w) A (Builtin.«zip.__next__» ⟨[.ref z],[]⟩) Q E s:=by
 refine zX (m:=field (.ref z) 2) (qB hz rfl (x:=.bool false) rfl ?_);refine zX (m:=field (.ref z) 3) (qB hz rfl (x:=.ref TI) rfl ?_);refine zX (j5 hTI rfl ?_);refine zX (m:=Builtin.SmallTypes.ownedTupleIsFree (.ref z)) ?_;unfold Builtin.SmallTypes.ownedTupleIsFree;refine zX (qB hz rfl (x:=.none) rfl (ya ?_));simp only[vz];refine zX (wpAny_rule (zX (qB hz rfl (x:=.ref TO) rfl ?_)));refine zX (Yf hz (by simp) λha hza sa=>?_)
 replace hza:IsZip ha z TI TO .ellipsis:=hza
 refine zX ?_;simp only[List.zipIdx_cons,List.zipIdx_nil,List.forIn_cons,List.forIn_nil];have h1a:st1 k ha:=S1.keep k _ _ h1 λc o hc e=>sa.extBut c o (by rcases hc with rfl|rfl; exact D.i1z; exact D.l1z) e
 by_cases k1:k<n1
 ·have k2:n2<=k:=by omega
  refine zX (zX (V3 (zX (m:=nextOf (.ref i1)) (S1.item k h1a k1 λhb h1b sb=>ya ?_))));have hTOb:IsPair hb TO a b:=sb.extBut _ _ D.TOi1 (sa.extBut _ _ D.TOz hTO);refine zX (j5 hTOb rfl (zX (LL hTOb λhc hTOc sc=>?_)));refine zX (wpAny_letGo (ya ?_))
  have h2c:st2 k hc:=S2.keep k _ _ h2 λc o hcc e=>by
   rcases hcc with rfl|rfl
   ·exact sc.extBut _ _ D.TOi2.symm (sb.extBut _ _ D.i12.symm (sa.extBut _ _ D.i2z e))
   ·exact sc.extBut _ _ D.l2TO (sb.extBut _ _ D.l2i1 (sa.extBut _ _ D.l2z e))
  refine zX (zX (V3 (zX (m:=nextOf (.ref i2)) (S2.done k hh h2c k2 λhd e sd he=>?_))));obtain⟨oe,hoe,hce⟩:=he;have hzd:IsZip hd z TI TO .ellipsis:=sd _ _ D.i2z.symm (sc.extBut _ _ D.TOz.symm (sb.extBut _ _ D.i1z.symm hza));have hez:e≠z:=λx=>by subst x; rw[hzd]at hoe; cases hoe; simp at hce
  exact Yf hzd (by simp) λhf _ sf=>hE hf e (λc o c1 c2 c3 c4 x=>sf.extBut _ _ c1 (sd _ _ c4 (sc.extBut _ _ c2 (sb.extBut _ _ c3 (sa.extBut _ _ c1 x))))) ⟨oe,sf.extBut _ _ hez hoe,hce⟩
 ·refine zX (zX (V3 (zX (m:=nextOf (.ref i1)) (S1.done k hh h1a (by omega) λhb e sb he=>?_))));obtain⟨oe,hoe,hce⟩:=he;have hzb:IsZip hb z TI TO .ellipsis:=sb _ _ D.i1z.symm hza;have hez:e≠z:=λx=>by subst x; rw[hzb]at hoe; cases hoe; simp at hce
  exact Yf hzb (by simp) λhf _ sf=>hE hf e (λc o c1 _ c3 _ x=>sf.extBut _ _ c1 (sb _ _ c3 (sa.extBut _ _ c1 x))) ⟨oe,sf.extBut _ _ hez hoe,hce⟩
end
end L2
namespace L2
open PySem PySem.Spec PyProof.Rows
def vo(K:W.Frag)(tp:Bool)(H:Hp)(a:Addr)(xs:List V):Prop:=match tp with
 |true=>yb K H a xs
 |false=>yJ K H a xs
def XG(tp:Bool):String:=match tp with
 |true => "tuple_iterator"
 |false => "list_iterator"
def u4(tp:Bool)(h:Heap)(a:Addr)(its:Array Value):Prop:=match tp with
 |true=>h.IsTuple a its
 |false=>h.IsList a its
def jI(tp:Bool)(h:Heap)(it l:Addr)(i:Nat):Prop:=∃o,h.get? it=some o/\o.cls=.type (XG tp)/\o.data=.fields #[.ref l,.int i 0]
theorem jI.at{tp:Bool}{h h':Heap}{it l:Addr}{i:Nat}(x:jI tp h it l i)(e:∀o,h.get? it=some o->h'.get? it=some o):jI tp h' it l i:=let ⟨o,ho,r⟩:=x; ⟨o,e _ ho,r⟩
theorem u4.push{tp:Bool}{h:Heap}{a:Addr}{its:Array Value}(x:u4 tp h a its)(o:Obj):u4 tp (h.push o) a its:=by
 cases tp
 ·exact Heap.IsList.push x o
 ·exact Heap.IsTuple.push x o
theorem u4.lt{tp:Bool}{h:Heap}{a:Addr}{its:Array Value}(x:u4 tp h a its):a<h.objs.size:=by
 cases tp
 ·obtain⟨o,e,_⟩:=x; exact Heap.lt_size e
 ·obtain⟨o,e,_⟩:=x; exact Heap.lt_size e
section
variable{prog:Program}{w:World}{A:Around}{E:Value->Shared->Prop}{s:Shared}
theorem TH{tp:Bool}{it l:Addr}(hne:l≠it)(items:Array Value):gi prog w it l (λi h=>jI tp h it l i/\u4 tp h l items) items.size (λi=>items.getD i .none):=by
 cases tp
 ·exact bU hne items
 ·exact bV hne items
theorem FW{tp:Bool}{l:Addr}{items:Array Value}{Q:Value->Shared->Prop}(h:u4 tp s.heap l items)
  (hQ:Q (.ref s.heap.objs.size) { s with heap:=s.heap.push { cls:=.type (XG tp),data:=.fields #[.ref l,.int 0 0] } }):wpAny (model prog w) A (pyIter (.ref l)) Q E s:=by
 cases tp
 ·exact V5 (show s.heap.IsList l items from h) hQ
 ·exact LJ (show s.heap.IsTuple l items from h) hQ
abbrev Tf(t1:Bool)(h:Heap)(l1:Addr):Heap:=h.push { cls:=.type (XG t1),data:=.fields #[.ref l1,.int 0 0] }
abbrev Tg(t1 t2:Bool)(h:Heap)(l1 l2:Addr):Heap:=(Tf t1 h l1).push { cls:=.type (XG t2),data:=.fields #[.ref l2,.int 0 0] }
abbrev Th(t1 t2:Bool)(h:Heap)(l1 l2:Addr):Heap:=(Tg t1 t2 h l1 l2).push { cls:=.type "tuple",data:=.seq #[.ref h.objs.size,.ref (Tf t1 h l1).objs.size] }
abbrev Ti(t1 t2:Bool)(h:Heap)(l1 l2:Addr):Heap:=(Th t1 t2 h l1 l2).push { cls:=.type "tuple",data:=.seq #[.none,.none] }
abbrev YQ(t1 t2:Bool)(h:Heap)(l1 l2:Addr):Heap:=(Ti t1 t2 h l1 l2).push { cls:=.type "zip",data:=.fields #[.none,.bool false,.bool false,.ref (Tg t1 t2 h l1 l2).objs.size,.ref (Th t1 t2 h l1 l2).objs.size] }
theorem eA(t1 t2:Bool)(l1 l2:Addr)(xs ys:Array Value) :
  Meets (Builtin.«zip.__new__» ⟨[.type "zip",.ref l1,.ref l2],[]⟩) (λ_ R s=>u4 t1 s.heap l1 xs/\u4 t2 s.heap l2 ys/\R (.ok (.ret (.ref (Ti t1 t2 s.heap l1 l2).objs.size))) { s with heap:=YQ t1 t2 s.heap l1 l2 }):=
 .of_wp λprog w A R s h=>by
  obtain⟨hp,g,d,tk,os⟩:=s; obtain⟨hl1,hl2,h⟩:=h;have hsub:=sub_zip;have hL1:u4 t1 (Shared.heap ⟨hp,g,d,tk,os⟩) l1 xs:=hl1;have hL2:u4 t2 (Shared.heap ⟨hp.push { cls:=.type (XG t1),data:=.fields #[.ref l1,.int 0 0] },g,d,tk,os⟩) l2 ys:=u4.push hl2 _
  wp_walk using FW hL1,FW hL2
  exact⟨_,rfl,h⟩
theorem GZ{t1 t2:Bool}{l1 l2:Addr}{xs ys:Array Value}{Q:Value->Shared->Prop}(hl1:u4 t1 s.heap l1 xs)(hl2:u4 t2 s.heap l2 ys)
  (h:∀h',IsZip h' (s.heap.objs.size+4) (s.heap.objs.size+2) (s.heap.objs.size+3) .none->IsPair h' (s.heap.objs.size+2) (.ref s.heap.objs.size) (.ref (s.heap.objs.size+1))->
   IsPair h' (s.heap.objs.size+3) .none .none->jI t1 h' s.heap.objs.size l1 0->jI t2 h' (s.heap.objs.size+1) l2 0->
   (∀c o,s.heap.get? c=some o->h'.get? c=some o)->Q (.ref (s.heap.objs.size+4)) { s with heap:=h' }) :
  wpAny (model prog w) A (call (.type "zip") [.ref l1,.ref l2]) Q E s:=by
 refine callType_new F.called_zip (by decide) (F.typeCall_zip_2 _ _) (F.newCall_zip_2 _ _) (λobj=>F.args_object_init_3 obj _ _) F.entry_zip_new (eA t1 t2 l1 l2 xs ys) ⟨hl1,hl2,?_⟩;have z1:(Tf t1 s.heap l1).objs.size=s.heap.objs.size+1:=Heap.size_push ..;have z2:(Tg t1 t2 s.heap l1 l2).objs.size=s.heap.objs.size+2:=by rw[Heap.size_push,z1]
 have z3:(Th t1 t2 s.heap l1 l2).objs.size=s.heap.objs.size+3:=by rw[Heap.size_push,z2]
 have z4:(Ti t1 t2 s.heap l1 l2).objs.size=s.heap.objs.size+4:=by rw[Heap.size_push,z3]
 have g5:(YQ t1 t2 s.heap l1 l2).get? (Ti t1 t2 s.heap l1 l2).objs.size=some _:=Heap.get?_push_size _ rfl;have g4:(YQ t1 t2 s.heap l1 l2).get? (Th t1 t2 s.heap l1 l2).objs.size=some _:=Heap.get?_push_of_some _ (Heap.get?_push_size _ rfl);have g3:(YQ t1 t2 s.heap l1 l2).get? (Tg t1 t2 s.heap l1 l2).objs.size=some _:=Heap.get?_push_of_some _ (Heap.get?_push_of_some _ (Heap.get?_push_size _ rfl));have g2:(YQ t1 t2 s.heap l1 l2).get? (Tf t1 s.heap l1).objs.size=some _:=Heap.get?_push_of_some _ (Heap.get?_push_of_some _ (Heap.get?_push_of_some _ (Heap.get?_push_size _ rfl)));have g1:(YQ t1 t2 s.heap l1 l2).get? s.heap.objs.size=some _:=Heap.get?_push_of_some _ (Heap.get?_push_of_some _ (Heap.get?_push_of_some _ (Heap.get?_push_of_some _ (Heap.get?_push_size _ rfl))));show _/\_;rw[z2,z3,z4]at g5;rw[z1,z2]at g3;rw[z3]at g4;rw[z1]at g2;rw[z4]
 exact⟨⟨_,g5,rfl⟩,h _ g5 g3 g4 ⟨_,g1,rfl,rfl⟩ ⟨_,g2,rfl,rfl⟩ λc o x=>
  Heap.get?_push_of_some _ (Heap.get?_push_of_some _ (Heap.get?_push_of_some _ (Heap.get?_push_of_some _ (Heap.get?_push_of_some _ x))))⟩
end
section
variable{X:Cx}{z6:List (Addr×Obj)}{σ:St}{H:Hp}{s:Shared}
theorem zC.Z2{tp:Bool}{a:Addr}{xs:List V}(I:zC X z6 σ H s)(h:vo X.K tp H a xs):∃its:List Value,ze xs its/\u4 tp s.heap a its.toArray:=by
 cases tp
 ·obtain⟨its,r,p,_⟩:=I.list h;exact⟨its,r,p.isList⟩
 ·obtain⟨its,r,p,_⟩:=I.tuple h;exact⟨its,r,p⟩
theorem zC.LZ{tp:Bool}{a:Addr}{xs ys:List V}(I:zC X z6 σ H s)(h:vo X.K tp H a xs)(h':vo X.K tp H a ys):xs=ys:=by
 cases tp
 ·exact I.V9 h h'
 ·exact I.Q7 h h'
theorem Cd{fs ch:List Addr}{h h':Heap}(k:∀b o,b ∉ ch->h.get? b=some o->h'.get? b=some o):Un fs ch H H h h':=
 ⟨λb o e _ _ hx=>k b o hx e,λb o e _ _ hx=>⟨o.slots,k b o hx e⟩,λ_ _ _ n _=>n,λb o e hx=>⟨o,k b o hx e⟩,λ_ _ z=>z,λ_ _ _ z=>z,λb ps e=>⟨#[],by rw[e]; simp⟩⟩
theorem BI{P:Program}{w:World}{ch:List Addr}{h h':Heap}(x:yt P w H h)(hn:∀b∈ch,H b=none)(k:∀b o,b ∉ ch->h.get? b=some o->h'.get? b=some o):yt P w H h':=λb u e=>by
 have nit:∀c v,H c=some v->c ∉ ch:=λc v e z=>by rw[hn c z]at e; cases e
 refine(x b u e).g8 (λc v hc q=>k c v ?_ q) (λ_ q=>q) λ_ _ q=>q
 rcases hc with z|z
 ·rw[z]; exact nit b u e
 ·exact nit c _ z
theorem zC.but{ch:List Addr}{h':Heap}{tk:Nat}(I:zC X z6 σ H s)(hf:∀b∈ch,tL X z6 H b)(k:∀b o,b ∉ ch->s.heap.get? b=some o->h'.get? b=some o):zC X z6 σ H { s with heap:=h',toks:=tk }:=
 I.Q2 (s':={ s with heap:=h',toks:=tk }) rfl (Cd k) (BI I.zZ (λb hb=>(hf b hb).1) k) I.bare λb hb=>⟨(hf b hb).2.2.2.1,(hf b hb).2.1,(hf b hb).2.2.2.2.1,(hf b hb).2.2.2.2.2⟩
theorem zC.LM{ch:List Addr}{h':Heap}{tk:Nat}{T:Addr}{o:HO}(I:zC X z6 σ H s)(hf:∀b∈ch,tL X z6 H b)(k:∀b o,b ∉ ch->s.heap.get? b=some o->h'.get? b=some o)(hT:s.heap.get? T=none)(hn:H T=none)
  (new:yx X.prog X.w (zT H T o) h' T o):zC X z6 σ (zT H T o) { s with heap:=h',toks:=tk }:=
 I.Q2 (s':={ s with heap:=h',toks:=tk }) rfl (dh (Cd k) hT hn) (BJ (BI I.zZ (λb hb=>(hf b hb).1) k) hn new) I.bare λb hb=>⟨(hf b hb).2.2.2.1,(hf b hb).2.1,(hf b hb).2.2.2.2.1,(hf b hb).2.2.2.2.2⟩
end
def QM(K:W.Frag)(t1 t2:Bool)(a b:Addr):It:=
  ⟨λi H=>∃xs ys x y,vo K t1 H a xs/\vo K t2 H b ys/\xs[i]?=some x/\ys[i]?=some y,
   λi H v H'=>∃p,H p=none/\v=.ref p/\∀xs ys,vo K t1 H a xs->vo K t2 H b ys->∃x y,xs[i]?=some x/\ys[i]?=some y/\H'=zT H p (.tup [x,y]),
   λi H=>∃xs ys,vo K t1 H a xs/\vo K t2 H b ys/\(xs.length<=i\/ys.length<=i)⟩
theorem dH{P:Program}{w:World}{K:W.Frag}{elts:List Expr}{kk:Nat}{pos:Pos}(t1 t2:Bool)(a b z TI TO i1 i2:Addr)(D:ZipApart z TI TO i1 i2 a b) :
  jL P w K (.Tuple elts kk pos) (QM K t1 t2 a b) [z,TI,TO,i1,i2] z (λi h=>IsZip h z TI TO .none/\IsPair h TI (.ref i1) (.ref i2)/\(∃u v,IsPair h TO u v)/\jI t1 h i1 a i/\jI t2 h i2 b i) where
 mem:=by simp
 obj:=λi h st c hc=>by
  obtain⟨s1,s2,⟨u,v,s3⟩,⟨o4,s4,_,d4⟩,⟨o5,s5,_,d5⟩⟩:=st;simp only[yl,t_,or_false]at hc;rcases hc with rfl|rfl|rfl|rfl|rfl
  ·exact⟨_,s1,λv q=>nomatch q⟩
  ·exact⟨_,s2,λv q=>nomatch q⟩
  ·exact⟨_,s3,λv q=>nomatch q⟩
  ·exact⟨_,s4,λv q=>by rw[d4]at q; cases q⟩
  ·exact⟨_,s5,λv q=>by rw[d5]at q; cases q⟩
 keep:=λi h h' st k=>by
  obtain⟨s1,s2,⟨u,v,s3⟩,s4,s5⟩:=st;exact⟨k z (by simp) _ s1,k TI (by simp) _ s2,⟨u,v,k TO (by simp) _ s3⟩,s4.at λo e=>k i1 (by simp) o e,s5.at λo e=>k i2 (by simp) o e⟩
 item:=by
  intro X hP hw hK hc i z6 s σ H E I hf st hg;subst hP hw hK;obtain⟨s1,s2,⟨u,v,s3⟩,s4,s5⟩:=st;obtain⟨xs,ys,x,y,hx,hy,ex,ey⟩:=hg;obtain⟨us,ru,pu⟩:=I.Z2 hx;obtain⟨ws,rw',pw⟩:=I.Z2 hy;obtain⟨xu,hxu,rxu⟩:=ru.get ex;obtain⟨yw,hyw,ryw⟩:=rw'.get ey;have k1:i<us.toArray.size:=by rw[ym]; exact(yA.mp hxu).1
  have k2:i<ws.toArray.size:=by rw[ym]; exact(yA.mp hyw).1
  have e1:us.toArray.getD i .none=xu:=by
   have:=yA.mp hxu;obtain⟨l,e⟩:=this;simp[Array.getD,l,e]
  have e2:ws.toArray.getD i .none=yw:=by
   have:=yA.mp hyw;obtain⟨l,e⟩:=this;simp[Array.getD,l,e]
  have hT:s.TypeIs (.ref z) "zip" := ⟨_,s1,rfl⟩;have q4:i1<s.heap.objs.size:=by obtain⟨o,e,_⟩:=s4; exact Heap.lt_size e
  have q5:i2<s.heap.objs.size:=by obtain⟨o,e,_⟩:=s5; exact Heap.lt_size e
  unfold pyNext
  refine zX (wpAny_attempt (Q1 (name:=Str.ofString "__next__") hT Tm (V2 Tm hT F.entry_zip_next
   (d_ D (TH D.l1i1 us.toArray) (TH D.l2i2 ws.toArray) s1 s2 s3 ⟨s4,pu⟩ ⟨s5,pw⟩ k1 k2 q4 q5 pu.lt pw.lt λh' a1 a2 a3 a4 a5 a6=>ya ?_) (F.args_zip_next_1 _))))
  rw[e1,e2]at a2 a5;refine⟨_,rfl,wpAny_letOwnedTupleGo_zip (s:={ s with heap:=h' }) a1 λh'' b1 sb=>?_⟩
  have hTs:s.heap.get? s.heap.objs.size=none:=by
   cases q:s.heap.get? s.heap.objs.size with
   |none=>rfl
   |some o=>exact absurd (Heap.lt_size q) (wW _)
  have hTf:H s.heap.objs.size=none:=I.zZ.fresh (yF _);have hTz:s.heap.objs.size≠z:=qU (Heap.lt_size s1);have tup:h''.get? s.heap.objs.size=some { cls:=.type "tuple",data:=.seq #[xu,yw] }:=sb.extBut _ _ hTz a5
  have kk:∀c o,c ∉ [z,TI,TO,i1,i2]->s.heap.get? c=some o->h''.get? c=some o:=λc o hc e=>by
   simp only[yl,t_,or_false,not_or]at hc;exact sb.extBut _ _ hc.1 (a6 c o hc.1 hc.2.2.1 hc.2.2.2.1 hc.2.2.2.2 e)
  have new:yx X.prog X.w (zT H s.heap.objs.size (.tup [x,y])) h'' s.heap.objs.size (.tup [x,y]):=⟨(by show 2<=sizeLine; decide),[xu,yw],.cons rxu (.cons ryw .nil),⟨_,tup,rfl,_,rfl⟩⟩;refine⟨.ref s.heap.objs.size,zT H s.heap.objs.size (.tup [x,y]),I.LM (tk:=s.toks) hf kk hTs hTf new,rfl,⟨s.heap.objs.size,hTf,rfl,λxs' ys' hx' hy'=>?_⟩,⟨b1,?_,⟨_,_,sb.extBut _ _ D.TOz a2⟩,a3.1.at λo e=>sb.extBut _ _ D.i1z e,a4.1.at λo e=>sb.extBut _ _ D.i2z e⟩,λc hc=>?_⟩
  ·rw[I.LZ hx' hx,I.LZ hy' hy];exact⟨x,y,ex,ey,rfl⟩
  ·exact sb.extBut _ _ D.TIz (a6 _ _ D.TIz D.TITO D.TIi1 D.TIi2 s2)
  ·rw[yH]
   ·exact(hf c hc).1
   ·intro q
    have hlt:c<s.heap.objs.size:=by
     simp only[yl,t_,or_false]at hc;rcases hc with rfl|rfl|rfl|rfl|rfl
     ·exact Heap.lt_size s1
     ·exact Heap.lt_size s2
     ·exact Heap.lt_size s3
     ·exact q4
     ·exact q5
    rw[q]at hlt;exact absurd hlt (wW _)
 done:=by
  intro X hP hw hK hc i z6 s σ H E I hf st hg;subst hP hw hK;obtain⟨s1,s2,⟨u,v,s3⟩,s4,s5⟩:=st;obtain⟨xs,ys,hx,hy,hend⟩:=hg;obtain⟨us,ru,pu⟩:=I.Z2 hx;obtain⟨ws,rw',pw⟩:=I.Z2 hy
  have hend':us.toArray.size<=i\/ws.toArray.size<=i:=by
   have l1:=ru.length;have l2:=rw'.length;rw[ym,ym];omega
  have hT:s.TypeIs (.ref z) "zip" := ⟨_,s1,rfl⟩;unfold pyNext
  refine zX (wpAny_attempt (Q1 (name:=Str.ofString "__next__") hT Tm (V2 Tm hT F.entry_zip_next
   (dz (by exact I.ok.hd hc) D (TH D.l1i1 us.toArray) (TH D.l2i2 ws.toArray) s1 s2 s3 ⟨s4,pu⟩ ⟨s5,pw⟩ hend' λh' e kk he=>?_) (F.args_zip_next_1 _))))
  obtain⟨o,ho,hcl⟩:=he;refine zX (wpAny_isInstance (T := "StopIteration") (b:=true) ⟨o,ho,hcl⟩ isSubtype_stop ?_);refine ya ⟨rfl,I.but (tk:=s.toks) hf λc ob hcc eb=>?_⟩;simp only[yl,t_,or_false,not_or]at hcc;exact kk c ob hcc.1 hcc.2.2.1 hcc.2.2.2.1 hcc.2.2.2.2 eb
 self:=λ_ _ _ _ _ st h=>wpAny_pyIter_zip st.1 h
theorem xQ{a b:Nat}(h:a≠b):@Ne Addr a b:=h
theorem e5{n l1 l2:Nat}(h1:l1<n)(h2:l2<n):ZipApart (n+4) (n+2) (n+3) n (n+1) l1 l2:=
 ⟨xQ (by omega),xQ (by omega),xQ (by omega),xQ (by omega),xQ (by omega),xQ (by omega),xQ (by omega),xQ (by omega),xQ (by omega),xQ (by omega),xQ (by omega),xQ (by omega),xQ (by omega),xQ (by omega),xQ (by omega),xQ (by omega),xQ (by omega),xQ (by omega)⟩
theorem GA:bootBuiltins "zip" = some (.type "zip"):=by decide +kernel
section
variable{X:Cx}
def BK(K:W.Frag)(ta:TA):TI:=λσ H R=>ta σ H λvs H1=>∃a b xs ys t1 t2,vs=[.ref a,.ref b]/\vo K t1 H1 a xs/\vo K t2 H1 b ys/\R (QM K t1 t2 a b) H1
theorem SO{a b:Expr}{ta:TA}{p pos:Pos}{elts:List Expr}{kk:Nat}{tp:Pos}(hg:Gl X "zip")(hm:X.mg "zip" = none)(ha:PA X [a,b] ta)(hs:starEach [a,b] X.env=[(false,eval a X.env),(false,eval b X.env)]:=by rfl)
  (hs2:starEach [b] X.env=[(false,eval b X.env)]:=by rfl):PI X (.Tuple elts kk tp) (.Call (.Name "zip" p) [a,b] [] pos) (BK X.K ta):=by
 intro z6 s σ H R I h;refine Call_ (Zu I hg hm GA (Tv (zh (ha pos z6 s σ H _ I h) λus s1 ⟨vs,H1,I1,r1,q1⟩=>?_) (by rw[hs,hs2]) (by rw[hs2]; rfl)));obtain⟨l1,l2,xs,ys,t1,t2,rfl,hx,hy,q⟩:=q1;obtain⟨u,v,rfl,ru,rv⟩:=TZ r1;cases(show u=Value.ref l1 from ru);cases(show v=Value.ref l2 from rv);obtain⟨us,_,pu⟩:=I1.Z2 hx;obtain⟨ws,_,pw⟩:=I1.Z2 hy;have w1:=pu.lt;have w2:=pw.lt;refine GZ pu pw λh' a1 a2 a3 a4 a5 kp=>?_
 have I2:zC X z6 σ H1 { s1 with heap:=h' }:=I1.kept (t':=s1.toks) kp;refine wpAny_pyIter_zip (s:={ s1 with heap:=h' }) a1 ?_;generalize hn:s1.heap.objs.size=n at a1 a2 a3 a4 a5 w1 w2
 have D:ZipApart (n+4) (n+2) (n+3) n (n+1) l1 l2:=by
  exact e5 w1 w2
 refine⟨n+4,[n+4,n+2,n+3,n,n+1],_,_,H1,rfl,I2,dH t1 t2 l1 l2 (n+4) (n+2) (n+3) n (n+1) D,⟨a1,a2,⟨_,_,a3⟩,a4,a5⟩,λc hc=>?_,q⟩
 have hle:s1.heap.objs.size<=c:=by
  rw[hn];simp only[yl,t_,or_false]at hc;rcases hc with rfl|rfl|rfl|rfl|rfl
  ·exact jx _ _
  ·exact jx _ _
  ·exact jx _ _
  ·exact yF _
  ·exact jx _ _
 exact I1.kz hle (I1.zZ.fresh hle)
theorem Sw{a b:Expr}{ta:TA}{p pos:Pos}{elts:List Expr}{kk:Nat}{tp:Pos}(hg:Gl X "zip")(hm:X.mg "zip" = none)(ha:QA X [a,b] ta)(hs:yZ a=true:=by rfl)(hs2:yZ b=true:=by rfl) :
  QI X (.Tuple elts kk tp) (.Call (.Name "zip" p) [a,b] [] pos) (BK X.K ta):=⟨SO hg hm ha.h (by rw[vw hs,vw hs2]; rfl) (vw hs2)⟩
end
def MP(scope:Scope)(env:Env)(cl:List (Str×Addr))(own:List Str):Bool:=
 scope.kind == .function&&scope.names.all (λy=>y.2 != .cell)&&ZQ scope env cl own&&scope.names.all (λy=>y.2 != .local||scope.names.lookup y.1==some .local)
theorem uS{X:Cx}{scope:Scope}{cl:List (Str×Addr)}{own:List Str}(V8:closureFor scope X.env=pure cl)(V7:jA X.env cl:=by first|exact True.intro|exact⟨rfl,True.intro⟩|exact⟨rfl,rfl,True.intro⟩|exact⟨rfl,rfl,rfl,True.intro⟩|exact⟨rfl,rfl,rfl,rfl,True.intro⟩)
  (ok:MP scope X.env cl own=true:=by rfl):Z3 X scope cl own:=by
 unfold MP at ok;simp only[yD]at ok;obtain⟨⟨⟨h1,h2⟩,h3⟩,h4⟩:=ok;refine⟨kl.mp h1,λy hy e=>?_,V7,h3,V8,λy hy e=>?_⟩
 ·have:=t9.mp h2 y hy;rw[e]at this;cases this
 ·have:=t9.mp h4 y hy;rw[e]at this;simpa using this
section
variable{X:Cx}(K:W.Frag)(hK:X.K=K)
include hK
end
def EX(K:W.Frag)(a:Addr)(xs:List V):Prop:=∀H,yb K H a xs
theorem Qw{K:W.Frag}{a:Addr}{xs:List V}{d:Option Addr}{its:Array Value}{n:Nat}{sl:Array (Option Value)}(h:K.lookup a=some ⟨.type "tuple",d,.seq its n,sl⟩)(hz:its.size<=sizeLine)(r:ze xs its.toList):EX K a xs:=
 λ_=>.inr ⟨_,its,n,h,rfl,rfl,hz,r⟩
open Builtin Builtin.Str
section
variable{X:Cx}
end
def VL(z:Str):It:=⟨λi _=>i<z.length,λi H x H'=>H'=H/\∃c,z.cps[i]?=some c/\x=.str ⟨#[c]⟩,λi _=>z.length<=i⟩
section
variable{X:Cx}{tg:Expr}
def KL(te:TE):TI:=λσ H R=>te σ H λx H1=>∃z,x=.str z/\R (VL z) H1
theorem dF{P:Program}{w:World}{K:W.Frag}{it:Addr}{z:Str}{t:Tok}{ty:String}(hty:ty = "str_ascii_iterator" \/ ty = "str_iterator"):jL P w K tg (VL z) [it] it (λi h=>h.IsStrIter it ty z t i/\i<=z.length) where
 mem:=by simp
 obj:=λi h st b hb=>by
  have e:b=it:=by simpa using hb
  subst e;obtain⟨⟨o,e,c,d⟩,_⟩:=st;exact⟨o,e,λv z=>by rw[d]at z; cases z⟩
 keep:=λi h h' st k=>⟨let ⟨o,ho,r⟩:=st.1; ⟨o,k it (by simp) o ho,r⟩,st.2⟩
 item:=by
  intro X hP hw hK hc i z6 s σ H E I hf st hg;subst hP hw hK;obtain⟨f0,f1,f2,f3,f4,f5⟩:=hf it (by simp);have hg':i<z.cps.size:=hg;have hx:z.cps[i]?=some z.cps[i]:=by simp[hg']
  have go:∀h' tk (u:Value),(∃t',u=Value.str ⟨#[z.cps[i]]⟩ t')->h'.IsStrIter it ty z t (i+1)->Heap.SameBut it s.heap h'->∃v,some u=some v/\
    wpAny (model X.prog X.w) X.A (letOwnedTupleGo tg (.ref it) v) (λ_ s2=>∃x H',zC X z6 σ H' s2/\zc x v/\(VL z).u3 i H x H'/\(s2.heap.IsStrIter it ty z t (i+1)/\i+1<=z.length)/\∀b∈[it],H' b=none) E { s with heap:=h',toks:=tk }:=λh' tk u hu st' sb=>by
   obtain⟨t',rfl⟩:=hu;have I1:zC X z6 σ H { s with heap:=h',toks:=tk }:=I.turned (λb o hb e=>(sb.2 b hb).trans e) f0 f1 f3 f4 f5;obtain⟨o,e,c,d⟩:=id st';exact⟨_,rfl,UW (s:={ s with heap:=h',toks:=tk }) e c d (by rcases hty with rfl|rfl<;>decide) ⟨.str ⟨#[z.cps[i]]⟩,H,I1,⟨t',rfl⟩,⟨rfl,_,hx,rfl⟩,⟨st',hg⟩,λb hb=>(hf b hb).1⟩⟩
  rcases hty with rfl|rfl
  ·exact wpAny_pyNext_ascii_item st.1 hx λh' st' sb=>go h' _ _ ⟨_,rfl⟩ st' sb
  ·exact wpAny_pyNext_wide_item st.1 hx λh' st' sb=>go h' _ _ ⟨_,rfl⟩ st' sb
 done:=by
  intro X hP hw hK hc i z6 s σ H E I hf st hg;subst hP hw hK;obtain⟨f0,f1,f2,f3,f4,f5⟩:=hf it (by simp);have hx:z.cps[i]?=none:=On hg;rcases hty with rfl|rfl
  ·exact wpAny_pyNext_ascii_end (I.ok.hd hc) st.1 hx λh' eb=>⟨rfl,I.turned (t':=s.toks) (λb o hb e=>eb b o hb e) f0 f1 f3 f4 f5⟩
  ·exact wpAny_pyNext_wide_end (I.ok.hd hc) st.1 hx λh' eb=>⟨rfl,I.turned (t':=s.toks) (λb o hb e=>eb b o hb e) f0 f1 f3 f4 f5⟩
 self:=λ_ _ _ _ _ st h=>by
  rcases hty with rfl|rfl
  ·exact wpAny_pyIter_striter_ascii st.1 h
  ·exact wpAny_pyIter_striter_wide st.1 h
theorem SM{e:Expr}{te:TE}(he:PE X e te):PI X tg e (KL te):=by
 intro z6 s σ H R I h;refine zh (he z6 s σ H _ I h) λv s1 ⟨x,H1,I1,r1,q1⟩=>?_
 obtain⟨z,rfl,q⟩:=q1;obtain⟨t,rfl⟩:=(show ∃t,v=Value.str z t from r1)
 have fin:∀(ty:String),(ty = "str_ascii_iterator" \/ ty = "str_iterator")->∀o:Obj,(s1.heap.push o).IsStrIter s1.heap.objs.size ty z t 0->QP X z6 σ tg R (.ref s1.heap.objs.size) { s1 with heap:=s1.heap.push o }:=λty hty o st=>
  ⟨s1.heap.objs.size,[s1.heap.objs.size],_,_,H1,rfl,I1.kept (t':=s1.toks) λb o e=>Heap.get?_push_of_some _ e,dF hty,⟨st,vy _⟩,λb hb=>by
   have e:b=s1.heap.objs.size:=by simpa using hb
   subst e;exact I1.kz (yF _) (I1.zZ.fresh (yF _)),q⟩
 cases ha:z.cps.all (·<128)
 ·exact wpAny_pyIter_wide ha (fin _ (.inr rfl) _ ⟨_,Heap.get?_push_size _ rfl,rfl,rfl⟩)
 ·exact wpAny_pyIter_ascii ha (fin _ (.inl rfl) _ ⟨_,Heap.get?_push_size _ rfl,rfl,rfl⟩)
end
section
variable{X:Cx}
end
section
variable{X:Cx}{e o:Expr}{te to:TE}{pos apos cpos:Pos}{name:Str}{T id:String}{rm:V->List V->Hp->VK->Prop}
end
end L2
namespace L2
open PySem PySem.Spec PyProof.Rows
section
variable{κ:Type}[DecidableEq κ]
def wg(kvs:List (κ×V))(k:κ):Option V:=(kvs.find? λkv=>decide (kv.1=k)).map (·.2)
def wJ(kvs:List (κ×V))(k:κ)(v:V):List (κ×V):=
 if(kvs.any λkv=>decide (kv.1=k))=true then kvs.map (λkv=>if kv.1=k then(kv.1,v)else kv)else kvs++[(k,v)]
theorem jq{p:κ×V}{r:List (κ×V)}{k:κ}(e:p.1=k):wg (p::r) k=some p.2:=by simp[wg,YV,e]
theorem jp{p:κ×V}{r:List (κ×V)}{k:κ}(e:¬ p.1=k):wg (p::r) k=wg r k:=by simp[wg,YV,e]
theorem OV(k:κ):∀kvs:List (κ×V),(kvs.any λkv=>decide (kv.1=k))=(wg kvs k).isSome
 | []=>rfl
 |p::r=>by
  rw[YU];by_cases e:p.1=k
  ·simp only[jq e,yQ e,Bool.true_or,Option.isSome_some]
  ·rw[jp e,v4 e,Bool.false_or]; exact OV k r
theorem Cf(k j:κ)(y:V):∀kvs:List (κ×V),wg kvs k=none->wg (kvs++[(k,y)]) j=if j=k then some y else wg kvs j
 | [],_=>by
  by_cases e:k=j
  ·rw[zM e.symm]; exact jq (p:=(k,y)) e
  ·rw[zO (λz=>e z.symm)]; exact jp (p:=(k,y)) e
 |p::r,hn=>by
  rw[Wp];have hk:¬ p.1=k:=λz=>by rw[jq z]at hn; cases hn
  rw[jp hk]at hn;have ih:=Cf k j y r hn;by_cases e:p.1=j
  ·rw[jq e,jq e,zO (λz=>hk (e.trans z))]
  ·rw[jp e,jp e,ih]
theorem IN(kvs:List (κ×V))(k:κ)(v:V):(wJ kvs k v).length<=kvs.length+1:=by
 unfold wJ
 split
 ·rw[zm]; omega
 ·rw[yO,yP,YZ]; omega
theorem Sn{kvs:List (κ×V)}{k:κ}(v:V)(h:wg kvs k=none):wJ kvs k v=kvs++[(k,v)]:=by
 unfold wJ;rw[OV,h];exact zO (by decide)
theorem wl.Z0{o:Option V}{u:Option Value}(r:wl o u):o.isSome=u.isSome:=by
 cases o with
 |none=>cases u with
  |none=>rfl
  |some _=>exact(show False from r).elim
 |some _=>cases u with
  |none=>exact(show False from r).elim
  |some _=>rfl
theorem wl.getD{o:Option V}{u:Option Value}{d:V}{d':Value}(r:wl o u)(rd:zc d d'):zc (o.getD d) (u.getD d'):=by
 cases o with
 |none=>cases u with
  |none=>exact rd
  |some _=>exact(show False from r).elim
 |some _=>cases u with
  |none=>exact(show False from r).elim
  |some _=>exact r
theorem KV.val{kvs:List (κ×V)}{vs:List (κ×Value)}(r:KV kvs vs)(k:κ):wl (wg kvs k) (valueAt vs k):=by
 unfold KV at r
 induction r with
 |nil=>exact True.intro
 |@cons p q ps qs h t ih=>
  obtain⟨h1,h2⟩:=h;by_cases e:p.1=k
  ·have e':q.1=k:=h1.symm.trans e;have b:valueAt (q::qs) k=some q.2:=by simp[valueAt,YV,e']
   rw[jq e,b]; exact h2
  ·have e':¬ q.1=k:=λz=>e (h1.trans z)
   have b:valueAt (q::qs) k=valueAt qs k:=by simp[valueAt,YV,e']
   rw[jp e,b]; exact ih
theorem KV.any{kvs:List (κ×V)}{vs:List (κ×Value)}(r:KV kvs vs)(k:κ):(kvs.any λkv=>decide (kv.1=k))=vs.any λkv=>decide (kv.1=k):=by
 unfold KV at r
 induction r with
 |nil=>rfl
 |cons h t ih=>rw[YU,YU,ih,h.1]
theorem KV.Q6{kvs:List (κ×V)}{vs:List (κ×Value)}(r:KV kvs vs)(k:κ){y:V}{u:Value}(ry:zc y u) :
  KV (kvs.map λkv=>if kv.1=k then(kv.1,y)else kv) (vs.map λkv=>if kv.1=k then(kv.1,u)else kv):=by
 unfold KV at r ⊢
 induction r with
 |nil=>exact .nil
 |@cons p q ps qs h t ih=>
  rw[y_,y_];refine .cons ?_ ih;obtain⟨h1,h2⟩:=h;by_cases e:p.1=k
  ·rw[zM e,zM (h1.symm.trans e)]; exact⟨h1,ry⟩
  ·rw[zO e,zO (λz=>e (h1.trans z))]; exact⟨h1,h2⟩
theorem KV.put{kvs:List (κ×V)}{vs:List (κ×Value)}(r:KV kvs vs)(k:κ){y:V}{u:Value}(ry:zc y u):KV (wJ kvs k y) (stored vs k u):=by
 unfold wJ stored;rw[r.any k];by_cases e:(vs.any λkv=>decide (kv.1=k))=true
 ·rw[zM e,zM e]; exact r.Q6 k ry
 ·rw[zO e,zO e]; exact Paired.snoc r ⟨rfl,ry⟩
theorem KV.length{kvs:List (κ×V)}{vs:List (κ×Value)}(r:KV kvs vs):kvs.length=vs.length:=Paired.length r
end
theorem qL{P:Program}{w:World}{k:zK}{u:Value}(r:zc (kV k) u):(yg P w).is k u=true:=by
 cases k with
 |inl i=>obtain⟨t,e⟩:=(show ∃t,u=Value.int i t from r); subst e; exact NV P w i t
 |inr x=>obtain⟨t,e⟩:=(show ∃t,u=Value.str x t from r); subst e; exact IU P w x t
theorem BU{P:Program}{w:World}:∀{ks:List zK}{us:List Value},ze (ks.map kV) us->ItemsAre (yg P w) ks us
 | [],_,r=>by rw[jw]at r; cases r; exact .nil
 |k::ks,_,r=>by
  rw[y_]at r;cases r with
  |cons h t=>exact .cons (qL h) (BU t)
abbrev KT(H:Hp):List (List zK×V)->List (List zK×Addr×Value)->Prop:=Paired λp q=>p.1=q.1/\H q.2.1=some (.tup (p.1.map kV))/\zc p.2 q.2.2
theorem KT.val{H:Hp}{kvs:List (List zK×V)}{xs:List (List zK×Addr×Value)}(r:KT H kvs xs)(k:List zK):wl (wg kvs k) ((atKey xs k).map (·.2)):=by
 induction r with
 |nil=>exact True.intro
 |@cons p q ps qs h t ih=>
  obtain⟨h1,_,h2⟩:=h;by_cases e:p.1=k
  ·have e':q.1=k:=h1.symm.trans e;have b:atKey (q::qs) k=some q.2:=by simp[atKey,YV,e']
   rw[jq e,b]; exact h2
  ·have e':¬ q.1=k:=λz=>e (h1.trans z)
   have b:atKey (q::qs) k=atKey qs k:=by simp[atKey,YV,e']
   rw[jp e,b]; exact ih
theorem KT.Q6{H:Hp}{kvs:List (List zK×V)}{xs:List (List zK×Addr×Value)}(r:KT H kvs xs)(k:List zK){y:V}{u:Value}(ry:zc y u) :
  KT H (kvs.map λkv=>if kv.1=k then(kv.1,y)else kv) (xs.map (putAt k u)):=by
 induction r with
 |nil=>exact .nil
 |@cons p q ps qs h t ih=>
  rw[y_,y_];refine .cons ?_ ih;obtain⟨h1,h2,h3⟩:=h;unfold putAt;by_cases e:p.1=k
  ·rw[zM e,zM (h1.symm.trans e)]; exact⟨h1,h2,ry⟩
  ·rw[zO e,zO (λz=>e (h1.trans z))]; exact⟨h1,h2,h3⟩
theorem KT.put{H:Hp}{kvs:List (List zK×V)}{xs:List (List zK×Addr×Value)}(r:KT H kvs xs)(k:List zK){b:Addr}{y:V}{u:Value}(hb:H b=some (.tup (k.map kV)))(ry:zc y u) :
  KT H (wJ kvs k y) (storedH xs k b u):=by
 have e:(kvs.any λkv=>decide (kv.1=k))=(atKey xs k).isSome:=by
  rw[OV,(r.val k).Z0,LC]
 unfold wJ storedH;rw[e];by_cases q:(atKey xs k).isSome=true
 ·rw[zM q,zM q]; exact r.Q6 k ry
 ·rw[zO q,zO q]; exact Paired.snoc r ⟨rfl,hb,ry⟩
theorem KT.keeps{H H':Hp}{kvs:List (List zK×V)}{xs:List (List zK×Addr×Value)}(r:KT H kvs xs)(ht:∀b ys,H b=some (.tup ys)->H' b=some (.tup ys)):KT H' kvs xs:=
 Paired.Q4 r λ_ _ z=>⟨z.1,ht _ _ z.2.1,z.2.2⟩
section
variable{P:Program}{w:World}{H:Hp}{h:Heap}{a:Addr}
theorem Fm{u:HO}(ok:yt P w H h)(e:Rd H a u):yx P w H h a u:=e.ok ok
theorem tQ{kvs:List (zK×V)}(ok:yt P w H h)(e:Rd H a (.dK kvs)):kvs.length<=sizeLine/\(a==sysModules)=false/\∃vs,KV kvs vs/\h.DictOf (yg P w) a vs:=
 show yx P w H h a (.dK kvs)from Fm ok e
theorem Mt{kvs:List (zK×V)}(ok:yt P w H h)(e:H a=some (.dK kvs)):kvs.length<=sizeLine/\(a==sysModules)=false/\∃vs,KV kvs vs/\h.DictOf (yg P w) a vs:=tQ ok (.inl e)
theorem Zq{ks:List zK}(ok:yt P w H h)(e:H a=some (.tup (ks.map kV))):(tupleKind (yg P w)).is h ks a:=by
 obtain⟨_,its,r,o,h1,h2,n,h3⟩:=(show yx P w H h a (.tup (ks.map kV))from ok a _ e);exact⟨o,its.toArray,n,h1,h2,h3,by simpa using BU r⟩
theorem gm{kvs:List (List zK×V)}(ok:yt P w H h)(e:Rd H a (.dT kvs)):kvs.length<=sizeLine/\(a==sysModules)=false/\
  ∃xs,KT H kvs xs/\h.DictOfH (tupleKind (yg P w)) a xs:=by
 obtain⟨z,y,xs,r,o,es,ep,h1,h2,h3,h4,h5⟩:=(show yx P w H h a (.dT kvs)from Fm ok e);refine⟨z,y,xs,r,o,es,ep,h1,h2,h3,h4,λx hx=>?_,h5⟩
 have all:∀{l:List (List zK×V)} {m:List (List zK×Addr×Value)},KT H l m->∀x∈m,(tupleKind (yg P w)).is h x.1 x.2.1:=by
  intro l m q
  induction q with
  |nil=>intro x hx; exact nomatch hx
  |@cons p q ps qs hq t ih=>
   intro x hx;rcases yl.mp hx with e|hx
   ·subst e;exact Zq ok (by rw[<-hq.1]; exact hq.2.1)
   ·exact ih x hx
 exact all r x hx
theorem Go{kvs:List (List zK×V)}(ok:yt P w H h)(e:H a=some (.dT kvs)):kvs.length<=sizeLine/\(a==sysModules)=false/\
  ∃xs,KT H kvs xs/\h.DictOfH (tupleKind (yg P w)) a xs:=gm ok (.inl e)
end
def gA(H:Hp)(a:Addr)(y:V)(r:Option V):Prop:=
 (∃kvs k,Rd H a (.dK kvs)/\y=kV k/\r=wg kvs k)\/∃kvs k b,Rd H a (.dT kvs)/\y=.ref b/\H b=some (.tup (k.map kV))/\r=wg kvs k
def QB(H:Hp)(a:Addr)(y v:V)(H':Hp):Prop:=
 (∃kvs k,H a=some (.dK kvs)/\y=kV k/\kvs.length<sizeLine/\H'=zT H a (.dK (wJ kvs k v))) \/
 ∃kvs k b,H a=some (.dT kvs)/\y=.ref b/\H b=some (.tup (k.map kV))/\kvs.length<sizeLine/\H'=zT H a (.dT (wJ kvs k v))
section
variable{X:Cx}{z6:List (Addr×Obj)}{σ:St}{H:Hp}{s:Shared}{a:Addr}{y v:V}{u r:Value}{o:Option V}{A:Around}{E:Value->Shared->Prop}
theorem zC.big(I:zC X z6 σ H s):sysModules<s.heap.objs.size:=by
 have h:mainGlobals<s.heap.objs.size:=(I.mod.glob.keeps I.bk).lt;exact Tu (by decide) h
theorem Ge{Q:Value->Shared->Prop}(hu:A.units+1<cLine)(I:zC X z6 σ H s)(g:gA H a y (some v))(ry:zc y u)(h:∀w' s',zC X z6 σ H s'->zc v w'->Q w' s') :
  wpAny (model X.prog X.w) A (getItem (.ref a) u) Q E s:=by
 rcases g with⟨kvs,k,e,ey,l⟩|⟨kvs,k,b,e,ey,eb,l⟩
 ·subst ey;obtain⟨z,hd,vs,rel,dd⟩:=tQ I.zZ e;obtain⟨w',hw,rw'⟩:=wl.some_of (v:=v) (o:=valueAt vs k) (by rw[l]; exact rel.val k);exact LH (qL ry) dd.mapOf hw (h w' _ (I.tok _) rw')
 ·subst ey;cases(show u=Value.ref b from ry);obtain⟨z,hd,xs,rel,dd⟩:=gm I.zZ e;obtain⟨w',hw,rw'⟩:=wl.some_of (v:=v) (o:=(atKey xs k).map (·.2)) (by rw[l]; exact rel.val k);obtain⟨p,hp,hp2⟩:=Option.map_eq_some_iff.mp hw;refine wpAny_getItem_heap (V1 hu) (Zq I.zZ eb) dd hp ?_;rw[hp2];exact h w' _ (I.tok _) rw'
theorem Gf{Q:Value->Shared->Prop}(hu:A.units+1<cLine)(I:zC X z6 σ H s)(g:gA H a y o)(ry:zc y u)(h:∀s',zC X z6 σ H s'->Q (.bool o.isSome) s') :
  wpAny (model X.prog X.w) A (compareOp .In u (.ref a)) Q E s:=by
 rcases g with⟨kvs,k,e,ey,l⟩|⟨kvs,k,b,e,ey,eb,l⟩
 ·subst ey;obtain⟨z,hd,vs,rel,dd⟩:=tQ I.zZ e;refine wpAny_in_of (qL ry) hd dd.mapOf ?_;rw[<-(rel.val k).Z0,<-l];exact h _ (I.tok _)
 ·subst ey;cases(show u=Value.ref b from ry);obtain⟨z,hd,xs,rel,dd⟩:=gm I.zZ e;refine wpAny_in_heap (V1 hu) (Zq I.zZ eb) hd dd ?_;have q:=(rel.val k).Z0;rw[LC]at q;rw[<-q,<-l];exact h _ (I.tok _)
theorem Gh{Q:Value->Shared->Prop}(hu:A.units+1<cLine)(I:zC X z6 σ H s)(g:gA H a y o)(ry:zc y u)(h:∀s',zC X z6 σ H s'->Q (.bool (!o.isSome)) s') :
  wpAny (model X.prog X.w) A (compareOp .NotIn u (.ref a)) Q E s:=by
 rcases g with⟨kvs,k,e,ey,l⟩|⟨kvs,k,b,e,ey,eb,l⟩
 ·subst ey;obtain⟨z,hd,vs,rel,dd⟩:=tQ I.zZ e;refine wpAny_notIn_of (qL ry) hd dd.mapOf ?_;rw[<-(rel.val k).Z0,<-l];exact h _ (I.tok _)
 ·subst ey;cases(show u=Value.ref b from ry);obtain⟨z,hd,xs,rel,dd⟩:=gm I.zZ e;refine wpAny_notIn_heap (V1 hu) (Zq I.zZ eb) hd dd ?_;have q:=(rel.val k).Z0;rw[LC]at q;rw[<-q,<-l];exact h _ (I.tok _)
theorem J0{h':Heap}{t':Nat}{ob:HO}(I:zC X z6 σ H s)(mu:Yt (H a))(hs:Heap.SameBut a s.heap h')(he:∃q,h'.get? a=some q)(new:yx X.prog X.w (zT H a ob) h' a ob) :
  zC X z6 σ (zT H a ob) { s with heap:=h',toks:=t' }:=
 I.write (x:=a) (e:=a) mu (.inl rfl) (λb q hb z=>(hs.2 b hb).trans z) he new
theorem U8{P:Program}{w:World}{H':Hp}{h':Heap}{kvs:List (zK×V)}{vs:List (zK×Value)}(z:kvs.length<=sizeLine)(hd:(a==sysModules)=false)(rel:KV kvs vs)(dd:h'.DictOf (yg P w) a vs) :
  yx P w H' h' a (.dK kvs):=⟨z,hd,vs,rel,dd⟩
theorem Mp{H':Hp}{Q:Unit->Shared->Prop}(hu:A.units+1<cLine)(I:zC X z6 σ H s)(g:QB H a y v H')(ry:zc y u)(rv:zc v r)(h:∀s',zC X z6 σ H' s'->Q () s') :
  wpAny (model X.prog X.w) A (setItem (.ref a) u r) Q E s:=by
 rcases g with⟨kvs,k,e,ey,l,eH⟩|⟨kvs,k,b,e,ey,eb,l,eH⟩
 ·subst ey eH;obtain⟨z,hd,vs,rel,dd⟩:=Mt I.zZ e;have hz:vs.length<=sizeLine:=by rw[<-rel.length]; exact z
  have hl:(wJ kvs k v).length<=sizeLine:=by have:=IN kvs k v; omega
  refine wpAny_setItem_pairs (hsz:=hz) (qL ry) dd λh' dd' hs=>h _ ?_
  have he:∃q,h'.get? a=some q:=let ⟨q,_,_,hq,_⟩:=dd'; ⟨q,hq⟩;exact J0 I (by rw[e]; exact True.intro) hs he (U8 hl hd (rel.put k rv) dd')
 ·subst ey eH;cases(show u=Value.ref b from ry);obtain⟨z,hd,xs,rel,dd⟩:=Go I.zZ e;have hz:xs.length<=sizeLine:=by rw[<-Paired.length rel]; exact z
  have hl:(wJ kvs k v).length<=sizeLine:=by have:=IN kvs k v; omega
  refine wpAny_setItem_heap (hsz:=hz) (V1 hu) (Zq I.zZ eb) dd λh' dd' hs=>h _ ?_
  obtain⟨q,es,ep,hq,h2,h3,h4,_,h5⟩:=dd';refine J0 I (by rw[e]; exact True.intro) hs ⟨q,hq⟩ ⟨hl,hd,_,(rel.put k eb rv).keeps λc ys ec=>?_,q,es,ep,hq,h2,h3,h4,h5⟩;rw[yH (Nj ec e (λz=>nomatch z))];exact ec
end
section
variable{X:Cx}{z6:List (Addr×Obj)}{σ:St}{H:Hp}{s:Shared}{a:Addr}{kvs:List (zK×V)}{k:zK}{u:Value}{A:Around}{E:Value->Shared->Prop}
theorem Gg{Q:Value->Shared->Prop}(I:zC X z6 σ H s)(e:Rd H a (.dK kvs))(h:∀t s',zC X z6 σ H s'->Q (.int kvs.length t) s'):wpAny (model X.prog X.w) A (call (.builtin "len") [.ref a]) Q E s:=by
 obtain⟨z,hd,vs,rel,dd⟩:=tQ I.zZ e;refine call_len_dict hd dd (by rw[<-rel.length]; rw[xi]at z; omega) ?_;rw[<-rel.length];exact h _ _ (I.tok _)
end
theorem Gi{X:Cx}{z6:List (Addr×Obj)}{σ:St}{H:Hp}{s:Shared}{a:Addr}{y:V}{o:Option V}(I:zC X z6 σ H s)(g:gA H a y o):s.TypeIs (.ref a) "dict" := by
 rcases g with⟨kvs,k,e,_,_⟩|⟨kvs,k,b,e,_,_,_⟩
 ·obtain⟨_,_,vs,_,dd⟩:=tQ I.zZ e;exact dd.typeIs
 ·obtain⟨_,_,xs,_,dd⟩:=gm I.zZ e;exact dd.typeIs
def Ay(td ty tv:TE):TS:=λD σ H=>tv σ H λv H1=>td σ H1 λx H2=>ty σ H2 λy H3=>∃a H4,x=.ref a/\QB H3 a y v H4/\D.nx σ H4
def Ax(td ty tv:TE)(rd:V->V->Hp->VK->Prop):TS:=λD σ H=>td σ H λx H1=>ty σ H1 λy H2=>∃a v,x=.ref a/\gA H2 a y (some v)/\
 tv σ H2 λy2 H3=>rd v y2 H3 λz H4=>∃H5,QB H4 a y z H5/\D.nx σ H5
section
variable{X:Cx}{o i e value:Expr}{pos pos' tpos:Pos}{td ty tv:TE}
theorem Dw(hu:X.A.units+1<cLine)(ho:PE X o td)(hi:PE X i ty)(hv:PE X value tv)(hs:swapsWith value (some (.Subscript o i pos')) pos.line X.env=pure false) :
  PS X (.Assign [.Subscript o i pos'] value pos) (Ay td ty tv):=by
 intro z6 s σ H D I h;refine wpAny_Assign_Subscript (zh (hv z6 s σ H _ I h) λr s1 ⟨v,H1,I1,rv,q1⟩=>zh (ho z6 s1 σ H1 _ I1 q1) λu s2 ⟨x,H2,I2,rx,q2⟩=>zh (hi z6 s2 σ H2 _ I2 q2) λiv s3 ⟨y,H3,I3,ry,a,H4,ex,g,q3⟩=>?_) hs;subst ex;obtain rfl:u=Value.ref a:=rx;exact Mp hu I3 g ry rv λs4 I4=>⟨σ,H4,I4,q3⟩
theorem Sb{op:Operator}{rd:V->V->Hp->VK->Prop}(hu:X.A.units+1<cLine)(ho:PE X o td)(hi:PE X i ty)(hv:PE X value tv)(hop:QH X op rd)
  (ha:∀ov iv new,augStore i ov iv new=(do holding [new,ov,iv] (setItem ov iv new); release [new,ov,iv] []; pure .next)):PS X (.AugAssign (.Subscript o i tpos) op value pos) (Ax td ty tv rd):=by
 intro z6 s σ H D I h;refine wpAny_AugAssign_SubscriptAny (zh (ho z6 s σ H _ I h) λu s1 ⟨x,H1,I1,rx,q1⟩=>zh (hi z6 s1 σ H1 _ I1 q1) λiv s2 ⟨y,H2,I2,ry,a,v,ex,g,q2⟩=>?_) ha;subst ex;obtain rfl:u=Value.ref a:=rx;refine Ge hu I2 g ry λw' s3 I3 rw'=>zh (hv z6 s3 σ H2 _ I3 q2) λw2 s4 ⟨y2,H3,I4,ry2,q3⟩=>zh (hop z6 s4 σ H3 v y2 w' w2 _ I4 rw' ry2 q3) λw3 s5 ⟨z,H4,I5,rz,H5,g5,q4⟩=>?_
 exact Mp hu I5 g5 ry rz λs6 I6=>⟨σ,H5,I6,q4⟩
end
theorem Ms{P:Program}{w:World}{H:Hp}(h:Heap)(hb:sysModules<h.objs.size):yx P w H (h.push { cls:=.type "dict",data:=.dict #[] }) h.objs.size (.dK []):=
 ⟨vy _,kj.mpr (j4 (wB hb)),[],.nil,Heap.DictOf.new h⟩
def bo:TE:=λ_ H Q=>∀p,H p=none->Q (.ref p) (zT H p (.dK []))
section
variable{X:Cx}{pos:Pos}
theorem Rv:PE X (.Dict [] [] pos) bo:=λz6 s σ H Q I h=>
 wpAny_Dict_empty ⟨.ref s.heap.objs.size,_,I.laid (a:=s.heap.objs.size) (o:=.dK []) (t':=s.toks) (λ_ _ q=>Heap.get?_push_of_some _ q) (yF _) (Ms s.heap I.big),rfl,h _ (I.zZ.fresh (yF _))⟩
end
def TR:List (TE×TE)->St->Hp->(List (V×V)->Hp->Prop)->Prop
 | [],_,H,Q=>Q [] H
 |(tk,tv)::r,σ,H,Q=>tk σ H λx H1=>tv σ H1 λy H2=>TR r σ H2 λps H3=>Q ((x,y)::ps) H3
abbrev VV:List (V×V)->List (Value×Value)->Prop:=Paired λp q=>zc p.1 q.1/\zc p.2 q.2
def Yv(X:Cx)(pos:Pos)(keys:List (Option Expr))(values:List Expr)(trs:List (TE×TE)):Prop:=
 ∀(z6:List (Addr×Obj)) (s:Shared) (σ:St) (H:Hp) (Q:List (V×V)->Hp->Prop),zC X z6 σ H s->TR trs σ H Q->
  wpAny (model X.prog X.w) X.A (evalPairs (pairTrees keys values X.env pos)) (λvs s'=>∃ps H',zC X z6 σ H' s'/\VV ps vs/\Q ps H') X.xe s
theorem SZ{X:Cx}{pos:Pos}:Yv X pos [] [] []:=λz6 s σ H Q I h=>pairTrees_nil_walk ⟨[],H,I,.nil,h⟩
theorem SY{X:Cx}{pos:Pos}{k v:Expr}{ks:List (Option Expr)}{vs:List Expr}{tk tv:TE}{trs:List (TE×TE)}(hk:PE X k tk)(hv:PE X v tv)(hr:Yv X pos ks vs trs) :
  Yv X pos (some k::ks) (v::vs) ((tk,tv)::trs):=λz6 s σ H Q I h=>
 pairTrees_cons_walk (zh (hk z6 s σ H _ I h) λu s1 ⟨x,H1,I1,rx,q1⟩=>zh (hv z6 s1 σ H1 _ I1 q1) λw2 s2 ⟨y,H2,I2,ry,q2⟩=>
  zh (hr z6 s2 σ H2 _ I2 q2) λws s3 ⟨ps,H3,I3,rel,q3⟩=>⟨(x,y)::ps,H3,I3,.cons ⟨rx,ry⟩ rel,q3⟩)
def uy(kvs more:List (zK×V)):List (zK×V):=more.foldl (λacc kv=>wJ acc kv.1 kv.2) kvs
theorem KV.merge:∀{more:List (zK×V)} {rs:List (zK×Value)} {kvs:List (zK×V)} {vs:List (zK×Value)},KV more rs->KV kvs vs->KV (uy kvs more) (merged vs rs):=by
 intro more rs kvs vs r;unfold KV at r
 induction r generalizing kvs vs with
 |nil=>intro q; exact q
 |@cons p q ps qs h t ih=>
  intro r0
  have e:KV (wJ kvs p.1 p.2) (stored vs q.1 q.2):=by
   have:=r0.put p.1 h.2;rw[<-h.1]; exact this
  exact ih e
theorem IM:∀(more kvs:List (zK×V)),(uy kvs more).length<=kvs.length+more.length
 | [],kvs=>by show kvs.length<=kvs.length+0; omega
 |p::r,kvs=>by
  have h1:=IM r (wJ kvs p.1 p.2);have h2:=IN kvs p.1 p.2;show(uy (wJ kvs p.1 p.2) r).length<=_;rw[yP]; omega
theorem Mg{P:Program}{w:World}:∀{kvs:List (zK×V)} {ws:List (Value×Value)},VV (kvs.map λkv=>(kV kv.1,kv.2)) ws->∃rs,Carries (yg P w) ws rs/\KV kvs rs
 | [],_,r=>by rw[jw]at r; cases r; exact⟨[],True.intro,.nil⟩
 |p::kvs,_,r=>by
  rw[y_]at r;cases r with
  |@cons a b as bs h t=>
   obtain⟨rs,c,q⟩:=Mg (P:=P) (w:=w) t;obtain⟨b1,b2⟩:=b;exact⟨(p.1,b2)::rs,⟨qL h.1,rfl,c⟩,.cons ⟨rfl,h.2⟩ q⟩
def bq(trs:List (TE×TE)):TE:=λσ H Q=>∀p,H p=none->TR trs σ (zT H p (.dK [])) λps H2=>H2 p=some (.dK [])/\∃kvs:List (zK×V),ps=kvs.map (λkv=>(kV kv.1,kv.2))/\kvs.length<=15/\Q (.ref p) (zT H2 p (.dK (uy [] kvs)))
theorem Ru{X:Cx}{pos:Pos}{keys:List (Option Expr)}{values:List Expr}{trs:List (TE×TE)}(h:Yv X pos keys values trs)(hall:keys.all (·.isSome)=true)(hl:keys.length=values.length)(h0:keys≠[])
  (h15:keys.length<=15):PE X (.Dict keys values pos) (bq trs):=by
 intro z6 s σ H Q I q;have hn:=I.zZ.fresh (yF s.heap.objs.size);have I1:=I.laid (a:=s.heap.objs.size) (o:=.dK []) (h':=s.heap.push { cls:=.type "dict",data:=.dict #[] }) (t':=s.toks) (λ_ _ q=>Heap.get?_push_of_some _ q) (yF _) (Ms s.heap I.big);refine wpAny_Dict_walk (knd:=yg X.prog X.w) hall hl h0 h15 (zh (h z6 _ σ _ _ I1 (q _ hn)) λws s2 ⟨ps,H2,I2,rel,e,kvs,ep,lk,q2⟩=>?_);subst ep;obtain⟨rs,c,rk⟩:=Mg (P:=X.prog) (w:=X.w) rel;obtain⟨z,hd,vs0,r0,dd⟩:=Mt I2.zZ e;cases r0;refine⟨rs,c,dd,λh' dd' hs=>⟨.ref s.heap.objs.size,_,?_,rfl,q2⟩⟩
 have hz:(uy [] kvs).length<=sizeLine:=by
  have h1:=IM kvs [];rw[YZ]at h1;rw[xi]; omega
 have he:∃q,h'.get? s.heap.objs.size=some q:=let ⟨q,_,_,hq,_⟩:=dd'; ⟨q,hq⟩;exact J0 I2 (by rw[e]; exact True.intro) hs he (U8 hz hd (rk.merge .nil) dd')
structure M2(X:Cx)(o:Expr)(m:Str)(apos:Pos)(e f:Expr)(cpos:Pos):Prop where
 base:attributeBase o m X.env (eval o X.env)=eval o X.env
 EM:((backTo cpos (starEach [e,f] X.env)).all (λx=>!x.1)&&(backToKw cpos (keywordEach [] X.env)).all (λx=>x.1.isSome)
  && decide (([e,f]:List Expr).length+([]:List Keyword).length+(if([]:List Keyword).isEmpty then 0 else 1)<30))=true
 line:(apos.endLine==cpos.line)=true
 trees:backTo cpos (starEach [e,f] X.env)=[(false,eval e X.env),(false,eval f X.env)]
def Lh(H:Hp)(a:Addr):Prop:=(∃kvs,Rd H a (.dK kvs))\/∃kvs,Rd H a (.dT kvs)
theorem KU{X:Cx}{z6:List (Addr×Obj)}{σ:St}{H:Hp}{s:Shared}{a:Addr}(I:zC X z6 σ H s)(d:Lh H a) :
  s.TypeIs (.ref a) "dict" /\ (∀b,Value.ref a=.ref b->∃ob,s.heap.get? b=some ob/\ob.dict=none)/\(a==sysModules)=false:=by
 rcases d with⟨kvs,e⟩|⟨kvs,e⟩
 ·obtain⟨_,hd,vs,_,dd⟩:=tQ I.zZ e;refine⟨dd.typeIs,λb q=>?_,hd⟩;cases q;obtain⟨ob,_,_,h1,h2,_⟩:=dd;exact⟨ob,h1,h2.2.1⟩
 ·obtain⟨_,hd,xs,_,dd⟩:=gm I.zZ e;refine⟨dd.typeIs,λb q=>?_,hd⟩;cases q;obtain⟨ob,_,_,h1,h2,_⟩:=dd;exact⟨ob,h1,h2.2.1⟩
section
variable{X:Cx}{z6:List (Addr×Obj)}{σ:St}{H:Hp}{s:Shared}{a:Addr}{y d:V}{u r:Value}{o:Option V}{A:Around}{E:Value->Shared->Prop}
theorem Gd{Q:Value->Shared->Prop}(hu:A.units+1<cLine)(I:zC X z6 σ H s)(g:gA H a y o)(ry:zc y u)(rd:zc d r)(h:∀w' s',zC X z6 σ H s'->zc (o.getD d) w'->Q w' s') :
  wpAny (model X.prog X.w) A (call (.builtin "dict.get") [.ref a,u,r]) Q E s:=by
 rcases g with⟨kvs,k,e,ey,l⟩|⟨kvs,k,b,e,ey,eb,l⟩
 ·subst ey;obtain⟨z,hd,vs,rel,dd⟩:=tQ I.zZ e;refine call_meetsIn PySem.F.slot_dict_get dd.typeIs PySem.F.entry_dict_get (PySem.F.args_dict_get_3 _ _ _) (meets_dict_get_default (yg X.prog X.w) a (qL ry) hd r) ⟨_,dd.mapOf,h _ _ (I.tok _) ?_⟩;rw[l];exact(rel.val k).getD rd
 ·subst ey;cases(show u=Value.ref b from ry);obtain⟨z,hd,xs,rel,dd⟩:=gm I.zZ e;refine call_meetsIn PySem.F.slot_dict_get dd.typeIs PySem.F.entry_dict_get (PySem.F.args_dict_get_3 _ _ _) (meetsH_dict_get_default (tupleKind (yg X.prog X.w)) a b hd r) ⟨V1 hu,k,xs,Zq I.zZ eb,dd,h _ _ (I.tok _) ?_⟩;rw[l];exact(rel.val k).getD rd
end
def bn(td ty tx:TE):TE:=λσ H Q=>td σ H λx H1=>∃a,x=.ref a/\Lh H1 a/\ty σ H1 λy H2=>tx σ H2 λz H3=>∃o,gA H3 a y o/\Q (o.getD z) H3
section
variable{X:Cx}{o e f:Expr}{apos cpos:Pos}{td ty tx:TE}
theorem Rt(hu:X.A.units+1<cLine)(ho:PE X o td)(he:PE X e ty)(hf:PE X f tx)(m:M2 X o "get" apos e f cpos):PE X (.Call (.Attribute o "get" apos) [e,f] [] cpos) (bn td ty tx):=by
 intro z6 s σ H Q I h;refine wpAny_Call_method m.base m.EM m.line PySem.F.plainAttrs_dict PySem.F.slot_dict_get PySem.F.type_dict_get (zh (ho z6 s σ H _ I h) λu s1 ⟨x,H1,I1,rx,a,ex,d,q1⟩=>?_);subst ex;obtain rfl:u=Value.ref a:=rx;obtain⟨t1,t2,_⟩:=KU I1 d;refine⟨t1,t2,?_⟩;rw[m.trees]
 refine Calls.callWith_builtin rfl (Calls.evalArgs_plain (Oq (zh (he z6 s1 σ H1 _ I1 q1) λiv s2 ⟨y,H2,I2,ry,q2⟩=>
  Oq (zh (hf z6 s2 σ H2 _ I2 q2) λfv s3 ⟨z,H3,I3,rz,ov,g,q3⟩=>Calls.spliced_nil ?_))))
 exact Gd hu I3 g ry rz λw' s4 I4 rw'=>⟨_,H3,I4,rw',q3⟩
end
section
variable{X:Cx}{z6:List (Addr×Obj)}{σ:St}{H:Hp}{s:Shared}{a:Addr}{kvs:List (zK×V)}{A:Around}{E:Value->Shared->Prop}
end
section
variable{X:Cx}{z6:List (Addr×Obj)}{σ:St}{H:Hp}{s:Shared}{a:Addr}{y:V}{u:Value}{A:Around}{E:Value->Shared->Prop}
end
end L2
namespace L3
open PySem
inductive D where
 |zG|bl (b:Bool)|int (i:Int)|str (x:Str)|tup (xs:List D)|lst (xs:List D)|dic (ks:List (Sum Int Str)) (vs:List D)|exc (x:Str)|obj (x:Str) (fs:List Str) (vs:List D)
theorem D.ind{P:D->Prop}(zG:P .zG)(bl:∀b,P (.bl b))(int:∀i,P (.int i))(str:∀x,P (.str x))(tup:∀xs,(∀d∈xs,P d)->P (.tup xs))(lst:∀xs,(∀d∈xs,P d)->P (.lst xs))
  (dic:∀ks xs,(∀d∈xs,P d)->P (.dic ks xs))(exc:∀x,P (.exc x))(obj:∀x fs xs,(∀d∈xs,P d)->P (.obj x fs xs))(d:D):P d:=
 D.rec (motive_1:=P) (motive_2:=λds=>∀d∈ds,P d) zG bl int str (λxs h=>tup xs h) (λxs h=>lst xs h) (λks xs h=>dic ks xs h) exc (λx fs xs h=>obj x fs xs h) (λ_ h=>absurd h (by simp))
  (λd ds hd hds e he=>by
   rcases yl.mp he with z|z
   ·exact z▸hd
   ·exact hds e z) d
mutual
def xH:D->D->Bool
 |.zG,.zG=>true
 |.bl a,.bl b=>a==b
 |.bl a,.int b=>(if a then 1 else 0)==b
 |.int a,.bl b=>a==(if b then 1 else 0)
 |.int a,.int b=>a==b
 |.str a,.str b=>a==b
 |.tup xs,.tup ys=>dEqs xs ys
 |.lst xs,.lst ys=>dEqs xs ys
 |_,_=>false
def dEqs:List D->List D->Bool
 | [],[]=>true
 |x::xs,y::ys=>xH x y&&dEqs xs ys
 |_,_=>false
end
abbrev Sl:=Bool×D
abbrev zp:=List (Option Sl)
abbrev FE:=zp->Option D
abbrev FT:=zp->Option Bool
abbrev FA:=zp->Option (List D)
abbrev FG:=D->zp->Option zp
inductive Fl where
 |nx (σ:zp)|rt (o:Bool) (d:D)|bk (σ:zp)|ct (σ:zp)
abbrev FS:=zp->Option Fl
abbrev yY:Nat:=16777216
def z7(i:Nat):FE:=λσ=>match σ[i]? with
 |some (some (false,d))=>some d
 |_=>none
def X6(i:Nat):FE:=λσ=>match σ[i]? with
 |some (some (_,d))=>some d
 |_=>none
def eC(d:D):FE:=λ_=>some d
def e1(F:D->Option D)(a:FE):FE:=λσ=>(a σ).bind F
def e2(F:D->D->Option D)(a b:FE):FE:=λσ=>(a σ).bind λx=>(b σ).bind λy=>F x y
def eL(F:List D->Option D)(a:FA):FE:=λσ=>(a σ).bind F
def zH:FA:=λ_=>some []
def zA(a:FE)(r:FA):FA:=λσ=>(a σ).bind λx=>(r σ).bind λxs=>some (x::xs)
def jO:D->Option Bool
 |.bl b=>some b
 |_=>none
def tE(a:FE):FT:=λσ=>(a σ).bind jO
def bh(a b:FT):FT:=λσ=>(a σ).bind λk=>match k with
 |true=>b σ
 |false=>some false
def Wi(a b:FT):FT:=λσ=>(a σ).bind λk=>match k with
 |true=>some true
 |false=>b σ
def qr(a:FT):FT:=λσ=>(a σ).bind λk=>some (!k)
def ZT(a b:FE):FE:=λσ=>(a σ).bind λx=>(jO x).bind λk=>match k with
 |true=>b σ
 |false=>some (.bl false)
def J6(a b:FE):FE:=λσ=>(a σ).bind λx=>(jO x).bind λk=>match k with
 |true=>some (.bl true)
 |false=>b σ
def J5(a:FE):FE:=λσ=>(a σ).bind λx=>(jO x).bind λk=>some (.bl (!k))
def pB(c:FT)(a b:FE):FE:=λσ=>(c σ).bind λk=>match k with
 |true=>a σ
 |false=>b σ
def uU(a:FA):FE:=λσ=>(a σ).bind λxs=>some (.tup xs)
def wZ(a:FA):FE:=λσ=>(a σ).bind λxs=>some (.lst xs)
def yq:D->D->Option D
 |.int i,.int j=>some (.int (i+j))
 |.int i,.bl b=>some (.int (i+(if b then 1 else 0)))
 |.str x,.str y=>if x.length+y.length<=yY then some (.str (x++y))else none
 |.lst x,.lst y=>if x.length+y.length<=yY then some (.lst (x++y))else none
 |.tup x,.tup y=>if x.isEmpty=false/\x.length+y.length<=yY then some (.tup (x++y))else none
 |_,_=>none
def fI(C:Int->Int->Bool)(g:Int->Int->Int):D->D->Option D
 |.int i,.int j=>match C i j with
  |true=>some (.int (g i j))
  |false=>none
 |_,_=>none
def pC:D->D->Option D
 |.int i,.int j=>some (.int (i-j))
 |_,_=>none
def vZ(i:Int):Bool:=decide (-(2 ^ 64)<i)&&decide (i<2 ^ 64)
def uo:D->D->Option D:=fI (λi _=>vZ i) (·*·)
def XA:D->D->Option D:=fI (λ_ j=>vZ j) (·*·)
def xN:D->D->Option D:=fI (λ_ j=>decide (0<j)) (· % ·)
def ZU:D->D->Option D:=fI (λ_ j=>decide (0<j)&&decide (j<2 ^ 64)) (· / ·)
def tZ(i j:Int):Bool:=decide (0<=j)&&(decide (j<=1000000)&&decide (i.natAbs<2 ^ 64))
def Gy:D->D->Option D:=fI tZ λi j=>i ^ j.toNat
def vX:D->D->Option D:=fI tZ λi j=>i*2 ^ j.toNat
def XB:D->D->Option D:=fI (λ_ j=>decide (0<=j)) λi j=>i/2 ^ j.toNat
def tT(g:Int->Int->Int):D->D->Option D
 |.int i,.int j=>some (.int (g i j))
 |_,_=>none
def JG:D->Option D
 |.int i=>some (.int (-i))
 |_=>none
def B2:D->Option D
 |.int i=>some (.int (Builtin.bitNot i))
 |_=>none
def jT(g:Int->Int->Bool):D->D->Option D
 |.int i,.int j=>some (.bl (g i j))
 |_,_=>none
def Zo:D->Bool
 |.zG=>true
 |_=>false
def UH:D->D->Option D
 |x,.zG=>some (.bl (Zo x))
 |_,_=>none
def JH:D->D->Option D
 |x,.zG=>some (.bl (!Zo x))
 |_,_=>none
def yz:D->Bool
 |.zG=>true
 |.bl _=>true
 |.int _=>true
 |.str _=>true
 |_=>false
def ul(f:D->D->Bool):List D->List D->Bool
 |x::xs,y::ys=>f x y&&ul f xs ys
 |_,_=>true
def wu:Nat->D->D->Bool
 |0,_,_=>false
 |n+1,x,y=>match x,y with
  |.tup xs,.tup ys=>ul (wu n) xs ys
  |.lst xs,.lst ys=>ul (wu n) xs ys
  |x,y=>yz x&&yz y
def jU:D->D->Option Bool
 |.int _,.bl _=>none
 |.bl _,.int _=>none
 |x,y=>match wu 6 x y with
  |true=>some (xH x y)
  |false=>none
def xI(x y:D):Option D:=(jU x y).bind λk=>some (.bl k)
def qI(x y:D):Option D:=(jU x y).bind λk=>some (.bl (!k))
def wb:D->Option (Sum Int Str)
 |.int i=>some (.inl i)
 |.str x=>some (.inr x)
 |_=>none
def getK{α:Type}:List (Sum Int Str)->List α->Sum Int Str->Option α
 |k'::ks,v::vs,k=>if k'=k then some v else getK ks vs k
 |_,_,_=>none
def wm(ks:List (Sum Int Str))(k:Sum Int Str):Bool:=ks.any λj=>decide (j=k)
def we(ks:List (Sum Int Str))(k:Sum Int Str):List (Sum Int Str):=if wm ks k=true then ks else ks++[k]
def xK{α:Type}(ks:List (Sum Int Str))(vs:List α)(k:Sum Int Str)(v:α):List α:=if wm ks k=true then List.zipWith (λk' x=>if k'=k then v else x) ks vs else vs++[v]
def UE(x:D):D->Option Bool
 |.lst ys=>match yz x&&ys.all yz with
  |true=>some (ys.any λy=>xH y x)
  |false=>none
 |.tup ys=>match yz x&&ys.all yz with
  |true=>some (ys.any λy=>xH y x)
  |false=>none
 |.str j=>match x with
  |.str i=>some (!(Builtin.Str.occurrences j i 0 j.length 1).isEmpty)
  |_=>none
 |.dic ks _=>(wb x).bind λk=>some (wm ks k)
 |_=>none
def vV(x y:D):Option D:=(UE x y).bind λk=>some (.bl k)
def UJ(x y:D):Option D:=(UE x y).bind λk=>some (.bl (!k))
def vT{α:Type}(xs:List α)(i:Int):Option α:=if 0<=i then xs[i.toNat]? else if -(xs.length:Int)<=i then xs[(i+xs.length).toNat]? else none
def zI:D->D->Option D
 |.lst xs,.int i=>vT xs i
 |.tup xs,.int i=>vT xs i
 |.str z,.int i=>(vT z.cps.toList i).bind λc=>some (.str ⟨#[c]⟩)
 |.dic ks vs,k=>(wb k).bind λk=>getK ks vs k
 |_,_=>none
def gt:List D->Option D
 | [.lst xs]=>some (.int xs.length)
 | [.tup xs]=>some (.int xs.length)
 | [.str z]=>some (.int z.length)
 |_=>none
def JF:List D->Option D
 | [.int i,.int j]=>some (.int (if j<i then j else i))
 |_=>none
def UF:List D->Option D
 | [.int i]=>some (.int i)
 | [.bl k]=>some (.int (if k then 1 else 0))
 |_=>none
inductive jM where
 |int|bool|str|list|tuple
def jM.nm:jM->String
 |.int => "int"
 |.bool => "bool"
 |.str => "str"
 |.list => "list"
 |.tuple => "tuple"
def Ug:jM->D->Option Bool
 |_,.dic _ _=>none
 |_,.exc _=>none
 |_,.obj _ _ _=>none
 |.int,.int _=>some true
 |.int,.bl _=>some true
 |.int,_=>some false
 |.bool,.bl _=>some true
 |.bool,_=>some false
 |.str,.str _=>some true
 |.str,_=>some false
 |.list,.lst _=>some true
 |.list,_=>some false
 |.tuple,.tup _=>some true
 |.tuple,_=>some false
def gr(T:jM)(a:FE):FE:=λτ=>(a τ).bind λd=>(Ug T d).bind λb=>some (.bl b)
def vY(a:FE):FA:=λσ=>(a σ).bind λd=>match d with
 |.lst xs=>some xs
 |.tup xs=>some xs
 |.str z=>some (z.cps.toList.map λc=>.str ⟨#[c]⟩)
 |_=>none
def uv(lo hi:FE):FA:=λσ=>(lo σ).bind λx=>(hi σ).bind λy=>match x,y with
 |.int i,.int j=>if i.natAbs<=yY/\j.natAbs<=yY/\(j-i).toNat<=yY then some ((List.range (j-i).toNat).map λk:Nat=>.int (i+k))else none
 |_,_=>none
def yK(i:Nat):FG:=λd σ=>some (σ.set i (some (false,d)))
def qi(i j:Nat):FG:=λd σ=>match d with
 |.tup [x,y]=>some ((σ.set i (some (false,x))).set j (some (false,y)))
 |_=>none
def wf:FS:=λσ=>some (.nx σ)
def z_(a b:FS):FS:=λσ=>(a σ).bind λf=>match f with
 |.nx σ'=>b σ'
 |f=>some f
def w8(i:Nat)(e:FE):FS:=λσ=>(e σ).bind λd=>some (.nx (σ.set i (some (false,d))))
def jj(i:Nat)(e:FE):FS:=λσ=>(e σ).bind λd=>some (.nx (σ.set i (some (true,d))))
def yM(e:FE):FS:=λσ=>(e σ).bind λd=>some (.rt false d)
def qQ(e:FE):FS:=λσ=>(e σ).bind λd=>some (.rt true d)
def ji(i:Nat):FS:=λσ=>match σ[i]? with
 |some (some (true,d))=>some (.rt true d)
 |_=>none
def xw(c:FT)(a b:FS):FS:=λσ=>(c σ).bind λk=>match k with
 |true=>a σ
 |false=>b σ
def pK(g:FG)(b:FS):List D->zp->Option Fl
 | [],σ=>some (.nx σ)
 |d::r,σ=>(g d σ).bind λσ1=>(b σ1).bind λf=>match f with
  |.nx σ2=>pK g b r σ2
  |.ct σ2=>pK g b r σ2
  |.bk σ2=>some (.nx σ2)
  |.rt o d=>some (.rt o d)
def jh(it:FA)(g:FG)(b:FS):FS:=λσ=>(it σ).bind λds=>pK g b ds σ
def Xb(i:Nat):FS:=λσ=>match σ[i]? with
 |some (some (_,d))=>some (.nx (σ.set i (some (false,d))))
 |_=>none
def aA(i:Nat)(F:D->Option D):FS:=λσ=>match σ[i]? with
 |some (some (true,d))=>(F d).bind λd'=>some (.nx (σ.set i (some (true,d'))))
 |_=>none
def Xc(i:Nat)(F:D->D->Option D)(e:FE):FS:=λσ=>match σ[i]? with
 |some (some (true,d))=>(e σ).bind λx=>(F d x).bind λd'=>some (.nx (σ.set i (some (true,d'))))
 |_=>none
def X8:D->D->Option D
 |.lst xs,y=>if xs.length<yY then some (.lst (xs++[y]))else none
 |_,_=>none
def t4(i:Nat)(k v:FE):FS:=λσ=>(v σ).bind λy=>match σ[i]? with
 |some (some (true,.dic ks ds))=>(k σ).bind λx=>(wb x).bind λx=>if ks.length<yY then some (.nx (σ.set i (some (true,.dic (we ks x) (xK ks ds x y)))))else none
 |_=>none
def JC(ks:List (Sum Int Str))(x:D):Option D:=(wb x).bind λk=>some (.bl (wm ks k))
def jS(d k e:FE):FE:=λσ=>(d σ).bind λx=>match x with
 |.dic ks ds=>(k σ).bind λy=>(e σ).bind λz=>(wb y).bind λy=>some ((getK ks ds y).getD z)
 |_=>none
def xJ(g:FG)(c:FT)(e:FE)(σ:zp):List D->Option (List D)
 | []=>some []
 |d::r=>(g d σ).bind λσ1=>(c σ1).bind λk=>match k with
  |true=>(e σ1).bind λx=>(xJ g c e σ r).bind λxs=>some (x::xs)
  |false=>xJ g c e σ r
def xS:FT:=λ_=>some true
def vU(n:Nat)(it:FA)(g:FG)(c:FT)(e:FE):FE:=λσ=>(it σ).bind λds=>(xJ g c e (σ++List.replicate n none) ds).bind λxs=>some (.lst xs)
def zg(n:Nat)(b:FS)(ds:List D):Option (Bool×D):=(b (ds.map (λd=>some (false,d))++List.replicate (n-ds.length) none)).bind λf=>match f with
 |.rt o d=>some (o,d)
 |.nx _=>some (false,.zG)
 |_=>none
def zj(F:List D->Option (Bool×D))(a:FA):FE:=λσ=>(a σ).bind λds=>(F ds).bind λr=>some r.2
def vF(F:List D->Option (Bool×D))(a:FA):FE:=λσ=>(a σ).bind λds=>(F ds).bind λr=>match r with
 |(true,d)=>some d
 |_=>none
open PySem.Spec PyProof.Rows L2
abbrev St:=L2.St
def Eh(_:W.Frag)(H:Hp)(a:Addr)(kvs:List (zK×V)):Prop:=Rd H a (.dK kvs)
mutual
def zS(K:W.Frag)(H:Hp):D->V->Prop
 |.zG,v=>v=.zG
 |.bl b,v=>v=.bl b
 |.int i,v=>v=.int i
 |.str x,v=>v=.str x/\x.length<=sizeLine
 |.tup ds,v=>∃a vs,v=.ref a/\yb K H a vs/\Reps K H ds vs/\ds.length<=sizeLine
 |.lst ds,v=>∃a vs,v=.ref a/\yJ K H a vs/\Reps K H ds vs/\ds.length<=sizeLine
 |.dic ks ds,v=>∃a vs,v=.ref a/\Eh K H a (ks.zip vs)/\ks.length=vs.length/\Reps K H ds vs/\ds.length<=sizeLine
 |.exc x,v=>∃a C,v=.ref a/\W.nsIn K mainGlobals x=some (some (.ref C))/\H a=some (.ext (EY a C))
 |.obj x fs ds,v=>∃a C dx vs,v=.ref a/\W.nsIn K mainGlobals x=some (some (.ref C))/\H a=some (.ins C dx (fs.zip vs))/\fs.length=vs.length/\Reps K H ds vs
def Reps(K:W.Frag)(H:Hp):List D->List V->Prop
 | [],vs=>vs=[]
 |d::ds,vs=>∃v r,vs=v::r/\zS K H d v/\Reps K H ds r
end
section
variable{K:W.Frag}{G H H':Hp}
theorem Rd.mono{a:Addr}{u:HO}(s:zb H H')(h:Rd H a u):Rd H' a u:=by
 rcases h with h|⟨o,h⟩
 ·exact .inl (s _ _ h)
 ·exact .inr ⟨o,s _ _ h⟩
theorem uH{a:Addr}{xs:List V}(s:zb H H')(h:yb K H a xs):yb K H' a xs:=by
 rcases h with h|h
 ·exact .inl (Rd.mono s h)
 ·exact .inr h
theorem vf{a:Addr}{xs:List V}(s:zb H H')(h:yJ K H a xs):yJ K H' a xs:=by
 rcases h with h|h
 ·exact .inl (Rd.mono s h)
 ·exact .inr h
theorem Reps.imp:∀{ds:List D}{vs:List V},(∀d∈ds,∀v,zS K H d v->zS K H' d v)->Reps K H ds vs->Reps K H' ds vs
 | [],_,_,h=>h
 |d::ds,vs,f,h=>by
  obtain⟨v,r,rfl,hv,hr⟩:=h;exact⟨v,r,rfl,f d yr v hv,Reps.imp (λd' m=>f d' (xg _ m)) hr⟩
theorem zS.mono(s:zb H H'):∀{d:D}{v:V},zS K H d v->zS K H' d v:=λ{d}=>by
 refine D.ind (P:=λd=>∀v,zS K H d v->zS K H' d v) (λv h=>h) (λb v h=>h) (λi v h=>h) (λx v h=>h) ?_ ?_ ?_ ?_ ?_ d _
 ·rintro xs ih v ⟨a,vs,e,q,r,l⟩;exact⟨a,vs,e,uH s q,Reps.imp ih r,l⟩
 ·rintro xs ih v ⟨a,vs,e,q,r,l⟩;exact⟨a,vs,e,vf s q,Reps.imp ih r,l⟩
 ·rintro ks xs ih v ⟨a,vs,e,q,z,r,l⟩;exact⟨a,vs,e,Rd.mono s q,z,Reps.imp ih r,l⟩
 ·rintro x v ⟨a,C,e,n,h⟩;exact⟨a,C,e,n,s _ _ h⟩
 ·rintro x fs xs ih v ⟨a,C,dx,vs,e,n,h,l,r⟩;exact⟨a,C,dx,vs,e,n,s _ _ h,l,Reps.imp ih r⟩
theorem Reps.mono(s:zb H H'){ds:List D}{vs:List V}(h:Reps K H ds vs):Reps K H' ds vs:=Reps.imp (λ_ _ _=>zS.mono s) h
theorem Reps.length:∀{ds:List D}{vs:List V},Reps K H ds vs->vs.length=ds.length
 | [],_,h=>by cases(show _=[]from h); rfl
 |d::ds,_,h=>by
  obtain⟨v,r,rfl,_,hr⟩:=h;rw[yP,yP,Reps.length hr]
theorem Reps.get:∀{ds:List D}{vs:List V}{i:Nat}{d:D},Reps K H ds vs->ds[i]?=some d->∃v,vs[i]?=some v/\zS K H d v
 | [],_,_,_,_,e=>by cases e
 |d::ds,_,0,_,h,e=>by
  obtain⟨v,r,rfl,hv,hr⟩:=h;cases e;exact⟨v,rfl,hv⟩
 |d::ds,_,i+1,d',h,e=>by
  obtain⟨v,r,rfl,hv,hr⟩:=h;exact Reps.get (i:=i) hr (by simpa using e)
theorem Reps.at{ds:List D}{vs:List V}{i:Nat}{v:V}(h:Reps K H ds vs)(e:vs[i]?=some v):∃d,ds[i]?=some d/\zS K H d v:=by
 have l:=h.length;have hi:i<ds.length:=by rw[<-l]; exact(yA.mp e).1
 obtain⟨v',e',r⟩:=h.get (xD hi);rw[e]at e';cases e';exact⟨_,xD hi,r⟩
theorem Reps.append:∀{ds es:List D}{vs us:List V},Reps K H ds vs->Reps K H es us->Reps K H (ds++es) (vs++us)
 | [],_,_,_,h,g=>by cases(show _=[]from h); exact g
 |d::ds,_,_,_,h,g=>by
  obtain⟨v,r,rfl,hv,hr⟩:=h;exact⟨v,_,rfl,hv,Reps.append hr g⟩
theorem Reps.one{d:D}{v:V}(h:zS K H d v):Reps K H [d] [v]:=⟨v,[],rfl,h,rfl⟩
theorem Reps.ints:∀{ns:List Int},Reps K H (ns.map D.int) (ns.map V.int)
 | []=>rfl
 |n::ns=>⟨_,_,rfl,rfl,Reps.ints⟩
end
structure zN(G H G' H':Hp):Prop where
 g:zb G G'
 h:zb H H'
 gh:zb G' H'
 new:∀p,G' p≠none->G p≠none\/H p=none
section
variable{G H G' H' G0 H0 G1 H1 G2 H2:Hp}{p:Addr}{o:HO}
theorem zN.refl(s:zb G H):zN G H G H:=⟨zb.refl _,zb.refl _,s,λ_ h=>.inl h⟩
theorem zN.trans(a:zN G H G1 H1)(b:zN G1 H1 G2 H2):zN G H G2 H2:=⟨a.g.trans b.g,a.h.trans b.h,b.gh,λp h=>by
 rcases b.new p h with z|z
 ·exact a.new p z
 ·exact .inr (a.h.free z)⟩
theorem zN.rebase(a:zN G0 H0 G1 H1)(b:zN G1 H0 G2 H2):zN G0 H0 G2 H2:=⟨a.g.trans b.g,b.h,b.gh,λp h=>by
 rcases b.new p h with z|z
 ·exact a.new p z
 ·exact .inr z⟩
theorem zN.ku(a:zN G0 H0 G1 H1):zN G1 H0 G1 H1:=⟨zb.refl _,a.h,a.gh,λ_ h=>.inl h⟩
theorem OT{H:Hp}{p q:Addr}{o:HO}(h:zT H p o q≠none):q=p\/H q≠none:=by
 by_cases e:q=p
 ·exact .inl e
 ·rw[yH e]at h;exact .inr h
theorem aB(s:zb G H):zb (zT G p o) (zT H p o):=λb u e=>by
 by_cases hb:b=p
 ·subst hb;rw[yi]at e ⊢;exact e
 ·rw[yH hb]at e ⊢;exact s _ _ e
theorem zN.lay(s:zb G H)(h:H p=none):zN G H (zT G p o) (zT H p o):=⟨wn (s.free h) o,wn h o,aB s,λq z=>by
 rcases OT z with e|e
 ·exact .inr (e▸h)
 ·exact .inl e⟩
theorem zN.tF(s:zb G H)(h:H p=none):zN G H G (zT H p o):=⟨zb.refl _,wn h o,s.trans (wn h o),λ_ z=>.inl z⟩
theorem zN.xj(a:zN G H G1 H1)(h:H p=none)(g:G1 p=none)(e:H1 p=some o):zN G H (zT G1 p o) H1:=⟨a.g.trans (wn g o),a.h,λb u q=>by
 by_cases hb:b=p
 ·subst hb;rw[yi]at q;cases q;exact e
 ·rw[yH hb]at q;exact a.gh _ _ q,λq z=>by
 rcases OT z with w|w
 ·exact .inr (w▸h)
 ·exact a.new q w⟩
end
def wY(K:W.Frag)(G H:Hp)(d:D)(p:Addr):Prop:=match d with
 |.lst ds=>∃vs,H p=some (.lst vs)/\Reps K G ds vs/\ds.length<=sizeLine
 |.dic ks ds=>∃vs,H p=some (.dK (ks.zip vs))/\ks.length=vs.length/\Reps K G ds vs/\ds.length<=sizeLine
 |_=>False
section
variable{K:W.Frag}{G H G' H':Hp}{d:D}{p:Addr}
theorem wY.some(h:wY K G H d p):H p≠none:=by
 cases d with
 |lst ds=>obtain⟨vs,e,_⟩:=h; rw[e]; exact λz=>nomatch z
 |dic ks ds=>obtain⟨vs,e,_⟩:=h; rw[e]; exact λz=>nomatch z
 |_=>exact h.elim
theorem wY.mono(g:zb G G')(h:zb H H')(o:wY K G H d p):wY K G' H' d p:=by
 cases d with
 |lst ds=>obtain⟨vs,e,r,l⟩:=o; exact⟨vs,h _ _ e,r.mono g,l⟩
 |dic ks ds=>obtain⟨vs,e,z,r,l⟩:=o; exact⟨vs,h _ _ e,z,r.mono g,l⟩
 |_=>exact o.elim
theorem wY.rep(s:zb G H)(o:wY K G H d p):zS K H d (.ref p):=by
 cases d with
 |lst ds=>obtain⟨vs,e,r,l⟩:=o; exact⟨p,vs,rfl,yJ.of e,r.mono s,l⟩
 |dic ks ds=>obtain⟨vs,e,z,r,l⟩:=o; exact⟨p,vs,rfl,.inl e,z,r.mono s,l⟩
 |_=>exact o.elim
theorem wY.xj(o:wY K G H d p)(g:G p=none):∃u,H p=Option.some u/\zS K (zT G p u) d (.ref p):=by
 cases d with
 |lst ds=>obtain⟨vs,e,r,l⟩:=o; exact⟨_,e,p,vs,rfl,yJ.of yi,r.mono (wn g _),l⟩
 |dic ks ds=>obtain⟨vs,e,z,r,l⟩:=o; exact⟨_,e,p,vs,rfl,.inl yi,z,r.mono (wn g _),l⟩
 |_=>exact o.elim
end
structure zn(K:W.Frag)(n:Nat)(G0 H0 G H:Hp)(τ:zp)(σ:St):Prop where
 ext:zN G0 H0 G H
 l1:σ.length=n
 l2:τ.length=n
 fr:∀(i:Nat)(d:D),τ[i]?=some (some (false,d))->∃v,σ[i]?=some (some v)/\zS K G d v
 ow:∀(i:Nat)(d:D),τ[i]?=some (some (true,d))->∃p,σ[i]?=some (some (V.ref p))/\G p=none/\H0 p=none/\wY K G H d p
 ap:∀(i j:Nat)(d e:D)(p:Addr),i≠j->τ[i]?=some (some (true,d))->τ[j]?=some (some (true,e))->σ[i]?=some (some (V.ref p))->σ[j]?=some (some (V.ref p))->False
section
variable{K:W.Frag}{n:Nat}{G0 H0 G H G' H':Hp}{τ:zp}{σ:St}
theorem zn.go(E:zn K n G0 H0 G H τ σ)(x:zN G H G' H'):zn K n G0 H0 G' H' τ σ:=⟨E.ext.trans x,E.l1,E.l2,λi d h=>by
 obtain⟨v,e,r⟩:=E.fr i d h;exact⟨v,e,r.mono x.g⟩,λi d h=>by
 obtain⟨p,e,g,z,o⟩:=E.ow i d h;refine⟨p,e,?_,z,o.mono x.g x.h⟩;cases q:G' p with
 |none=>rfl
 |some u=>
  rcases x.new p (by rw[q]; exact λz=>nomatch z)with w|w
  ·exact absurd g w
  ·exact absurd w o.some,E.ap⟩
theorem zn.ku(E:zn K n G0 H0 G H τ σ):zn K n G H0 G H τ σ:=⟨E.ext.ku,E.l1,E.l2,E.fr,E.ow,E.ap⟩
theorem zn.near{Ga Ha:Hp}(a:zN G0 H0 Ga Ha)(E:zn K n Ga H0 G H τ σ):zn K n G0 H0 G H τ σ:=⟨a.rebase E.ext,E.l1,E.l2,E.fr,E.ow,E.ap⟩
theorem zn.lt{i:Nat}{s:Option Sl}(E:zn K n G0 H0 G H τ σ)(h:τ[i]?=some s):i<n:=by
 rw[<-E.l2];exact(yA.mp h).1
theorem wV{α:Type}{xs:List α}{i j:Nat}{x y:α}(h:(xs.set i x)[j]?=some y):(j=i/\y=x)\/(j≠i/\xs[j]?=some y):=by
 rw[Oy]at h;by_cases e:i=j
 ·subst e;rw[zM rfl]at h
  split at h
  ·cases h; exact .inl ⟨rfl,rfl⟩
  ·cases h
 ·rw[zO e]at h;exact .inr ⟨λz=>e z.symm,h⟩
theorem jV{α:Type}{xs:List α}{i:Nat}{x:α}(h:i<xs.length):(xs.set i x)[i]?=some x:=by rw[Oy,zM rfl,zM h]
theorem u7{α:Type}{xs:List α}{i j:Nat}{x:α}(h:j≠i):(xs.set i x)[j]?=xs[j]?:=by rw[Oy,zO (λz=>h z.symm)]
theorem zn.set{i:Nat}{d:D}{v:V}(E:zn K n G0 H0 G H τ σ)(hi:i<n)(r:zS K G d v):zn K n G0 H0 G H (τ.set i (some (false,d))) (σ.set i (some v)):=⟨E.ext,by rw[vO]; exact E.l1,by rw[vO]; exact E.l2,λj e h=>by
 rcases wV h with⟨rfl,z⟩|⟨ne,z⟩
 ·cases z;exact⟨v,jV (by rw[E.l1]; exact hi),r⟩
 ·rw[u7 ne];exact E.fr j e z,λj e h=>by
 rcases wV h with⟨rfl,z⟩|⟨ne,z⟩
 ·cases z
 ·rw[u7 ne];exact E.ow j e z,λj k e f p hne h1 h2=>by
 rcases wV h1 with⟨rfl,z⟩|⟨ne,z⟩
 ·cases z
 ·rcases wV h2 with⟨rfl,z'⟩|⟨ne',z'⟩
  ·cases z'
  ·rw[u7 ne,u7 ne'];exact E.ap j k e f p hne z z'⟩
theorem zn.EV{i:Nat}{d:D}{p:Addr}(E:zn K n G0 H0 G H τ σ)(hi:i<n)(hg:G p=none)(h0:H0 p=none)(o:wY K G H d p)(hn:∀(j:Nat)(e:D),j≠i->τ[j]?=some (some (true,e))->σ[j]?=some (some (V.ref p))->False) :
  zn K n G0 H0 G H (τ.set i (some (true,d))) (σ.set i (some (.ref p))):=⟨E.ext,by rw[vO]; exact E.l1,by rw[vO]; exact E.l2,λj e h=>by
 rcases wV h with⟨rfl,z⟩|⟨ne,z⟩
 ·cases z
 ·rw[u7 ne];exact E.fr j e z,λj e h=>by
 rcases wV h with⟨rfl,z⟩|⟨ne,z⟩
 ·cases z;exact⟨p,jV (by rw[E.l1]; exact hi),hg,h0,o⟩
 ·rw[u7 ne];exact E.ow j e z,λj k e f q hne h1 h2 h3 h4=>by
 rcases wV h1 with⟨rfl,z⟩|⟨ne,z⟩
 ·rcases wV h2 with⟨rfl,z'⟩|⟨ne',z'⟩
  ·exact hne rfl
  ·rw[jV (by rw[E.l1]; exact hi)]at h3;rw[u7 ne']at h4;cases h3;exact hn k f ne' z' h4
 ·rcases wV h2 with⟨rfl,z'⟩|⟨ne',z'⟩
  ·rw[jV (by rw[E.l1]; exact hi)]at h4;rw[u7 ne]at h3;cases h4;exact hn j e ne z h3
  ·rw[u7 ne]at h3;rw[u7 ne']at h4;exact E.ap j k e f q hne z z' h3 h4⟩
theorem zn.ES{i:Nat}{p:Addr}(E:zn K n G0 H0 G H τ σ)(hp:H p=none):∀(j:Nat)(e:D),j≠i->τ[j]?=some (some (true,e))->σ[j]?=some (some (V.ref p))->False:=λj e _ h1 h2=>by
 obtain⟨q,e1,_,_,o⟩:=E.ow j e h1;rw[h2]at e1;cases e1;exact o.some hp
theorem zn.freeze{i:Nat}{b:Bool}{d:D}(E:zn K n G0 H0 G H τ σ)(hi:τ[i]?=some (some (b,d))):∃G',zn K n G0 H0 G' H (τ.set i (some (false,d))) σ/\zb G G':=by
 have hin:=E.lt hi;cases b with
 |false=>
  refine⟨G,?_,zb.refl _⟩
  have e:τ.set i (some (false,d))=τ:=by
   apply Ow;intro j;by_cases hj:j=i
   ·subst hj; rw[jV (by rw[E.l2]; exact hin),hi]
   ·rw[u7 hj]
  rw[e];exact E
 |true=>
  obtain⟨p,e,g,z,o⟩:=E.ow i d hi;obtain⟨u,hu,r⟩:=o.xj g;have x:zN G0 H0 (zT G p u) H:=E.ext.xj z g hu;refine⟨zT G p u,⟨x,E.l1,by rw[vO]; exact E.l2,λj d' h=>?_,λj d' h=>?_,λj k e1 f q hne h1 h2=>?_⟩,wn g _⟩
  ·rcases wV h with⟨rfl,w⟩|⟨ne,w⟩
   ·cases w;exact⟨_,e,r⟩
   ·obtain⟨v,e',r'⟩:=E.fr j d' w;exact⟨v,e',r'.mono (wn g _)⟩
  ·rcases wV h with⟨rfl,w⟩|⟨ne,w⟩
   ·cases w
   ·obtain⟨q,e',g',z',o'⟩:=E.ow j d' w;refine⟨q,e',?_,z',o'.mono (wn g _) (zb.refl _)⟩;rw[yH (λc=>?_)]
    ·exact g'
    ·subst c;exact E.ap i j d d' q (λc=>ne c.symm) hi w e e'
  ·rcases wV h1 with⟨rfl,w⟩|⟨ne,w⟩
   ·cases w
   ·rcases wV h2 with⟨rfl,w'⟩|⟨ne',w'⟩
    ·cases w'
    ·exact E.ap j k e1 f q hne w w'
end
section
variable(X:Cx)
structure SE(e:Expr)(f:FE):Prop where
 h:∃t,PE X e t/\∀{G0 H0 G H:Hp}{τ:zp}{σ:St}{d:D}{Q:VK},zn X.K X.N.length G0 H0 G H τ σ->f τ=some d->(∀v G' H',zN G H G' H'->zS X.K G' d v->Q v H')->t σ H Q
structure SB(e:Expr)(f:FE):Prop where
 h:∃t,PE X e t/\∀{G0 H0 G H:Hp}{τ:zp}{σ:St}{d:D}{Q:VK},zn X.K X.N.length G0 H0 G H τ σ->f τ=some d->(∀v G' H',zN G H G' H'->zS X.K H' d v->Q v H')->t σ H Q
structure SF(e:Expr)(f:FE):Prop where
 h:∃t,PE X e t/\∀{G0 H0 G H:Hp}{τ:zp}{σ:St}{d:D}{Q:VK},zn X.K X.N.length G0 H0 G H τ σ->f τ=some d->(∀p G' H',zN G H G' H'->H p=none->G' p=none->wY X.K G' H' d p->Q (.ref p) H')->t σ H Q
structure ST(e:Expr)(f:FT):Prop where
 h:∃t,PT X e t/\∀{G0 H0 G H:Hp}{τ:zp}{σ:St}{d:Bool}{Q:Bool->Hp->Prop},zn X.K X.N.length G0 H0 G H τ σ->f τ=some d->(∀G' H',zN G H G' H'->Q d H')->t σ H Q
structure SW(e:Expr)(f:FT):Prop where
 h:∃t,PW X e t/\∀{G0 H0 G H:Hp}{τ:zp}{σ:St}{d:Bool}{Q:Bool->Hp->Prop},zn X.K X.N.length G0 H0 G H τ σ->f τ=some d->(∀G' H',zN G H G' H'->Q d H')->t σ H Q
structure SA(es:List Expr)(f:FA):Prop where
 h:∃t,PA X es t/\∀{G0 H0 G H:Hp}{τ:zp}{σ:St}{ds:List D}{Q:List V->Hp->Prop},zn X.K X.N.length G0 H0 G H τ σ->f τ=some ds->(∀vs G' H',zN G H G' H'->Reps X.K G' ds vs->Q vs H')->t σ H Q
structure Yw(es:List Expr)(f:FA):Prop where
 h:∃t,PA X es t/\∀{G0 H0 G H:Hp}{τ:zp}{σ:St}{ds:List D}{Q:List V->Hp->Prop},zn X.K X.N.length G0 H0 G H τ σ->f τ=some ds->(∀vs G' H',zN G H G' H'->Reps X.K H' ds vs->Q vs H')->t σ H Q
end
def uP(K:W.Frag)(n:Nat)(G0 H0:Hp)(E:vl):Fl->Prop
 |.nx τ=>∀σ G H,zn K n G0 H0 G H τ σ->E.nx σ H
 |.bk τ=>∀σ G H,zn K n G0 H0 G H τ σ->E.bk σ H
 |.ct τ=>∀σ G H,zn K n G0 H0 G H τ σ->E.ct σ H
 |.rt false d=>∀v G H,zN G0 H0 G H->zS K G d v->E.rt v H
 |.rt true d=>∀p G H,zN G0 H0 G H->H0 p=none->G p=none->wY K G H d p->E.rt (.ref p) H
section
variable(X:Cx)
structure SS(st:Stmt)(f:FS):Prop where
 h:∃t,PS X st t/\∀{G0 H0 G H:Hp}{τ:zp}{σ:St}{fl:Fl}{E:vl},zn X.K X.N.length G0 H0 G H τ σ->f τ=some fl->uP X.K X.N.length G0 H0 E fl->t E σ H
structure uj(st:List Stmt)(f:FS):Prop where
 h:∃t,vR X st t/\∀{G0 H0 G H:Hp}{τ:zp}{σ:St}{fl:Fl}{E:vl},zn X.K X.N.length G0 H0 G H τ σ->f τ=some fl->uP X.K X.N.length G0 H0 E fl->t E σ H
end
structure jN(K:W.Frag)(J:It)(G:Hp)(ds:List D):Prop where
 go:∀i G2 H,zb G G2->zb G2 H->i<ds.length->J.go i H
 u3:∀i G2 H x H',zb G G2->zb G2 H->i<ds.length->J.u3 i H x H'->∃G3 d,zN G2 H G3 H'/\ds[i]?=some d/\zS K G3 d x
 stop:∀i G2 H,zb G G2->zb G2 H->ds.length<=i->J.stop i H
structure SI(X:Cx)(tg iter:Expr)(f:FA):Prop where
 h:∃wi,PI X tg iter wi/\∀{G0 H0 G H:Hp}{τ:zp}{σ:St}{ds:List D}{R:It->Hp->Prop},zn X.K X.N.length G0 H0 G H τ σ->f τ=some ds->(∀J G' H',zN G H G' H'->ds.length<=sizeLine->jN X.K J G' ds->R J H')->wi σ H R
def zR(K:W.Frag)(F:List D->Option (Bool×D)):Sp:=λvs H Q _=>∃G ds o d,zb G H/\Reps K G ds vs/\F ds=some (o,d)/\
 match o with
 |false=>∀v G' H',zN G H G' H'->zS K G' d v->Q v H'
 |true=>∀p G' H',zN G H G' H'->H p=none->G' p=none->wY K G' H' d p->Q (.ref p) H'
theorem zD{α β:Type}{o:Option α}{f:α->Option β}{b:β}(h:o.bind f=some b):∃a,o=some a/\f a=some b:=by
 cases o with
 |none=>cases h
 |some a=>exact⟨a,rfl,h⟩
theorem J7{i:Nat}{τ:zp}{d:D}(h:z7 i τ=some d):τ[i]?=some (some (false,d)):=by
 unfold z7 at h
 split at h
 ·rename_i e;cases h;exact e
 ·cases h
theorem Gs{i:Nat}{τ:zp}{d:D}(h:X6 i τ=some d):∃b,τ[i]?=some (some (b,d)):=by
 unfold X6 at h
 split at h
 ·rename_i b d' e;cases h;exact⟨_,e⟩
 ·cases h
section
variable{X:Cx}{x:Str}{p pos apos cpos p2:Pos}{e a b c o:Expr}{es zf:List Expr}{f fa fb fc:FE}{ft fu:FT}{fs:FA}{F:D->D->Option D}{r:R2}
theorem SE.sb(h:SE X e f):SB X e f:=⟨let ⟨t,p,k⟩:=h.h; ⟨t,p,λE hf q=>k E hf λv G' H' x r=>q v G' H' x (r.mono x.gh)⟩⟩
theorem SF.se(h:SF X e f):SE X e f:=⟨let ⟨t,p,k⟩:=h.h; ⟨t,p,λE hf q=>k E hf λp G' H' x hp gp o=>by
 obtain⟨u,hu,r⟩:=o.xj gp;exact q _ _ _ (x.xj hp gp hu) r⟩⟩
theorem zY(h:SE X e f):SB X e f:=h.sb
theorem yN(h:SF X e f):SE X e f:=h.se
theorem z8(i:Nat){x:Str}{pos:Pos}(hN:X.N[i]?=some x:=by rfl)(hv:p8 X.env.scope x:=by first|exact Or.inl rfl|exact Or.inr (Or.inl rfl)|exact Or.inr (Or.inr rfl))(hd:(x==("__debug__" : Str))=false:=by decide)
  (hcd:(x==("__classdict__" : Str))=false:=by decide):SE X (.Name x pos) (z7 i):=⟨⟨_,Y7 hN hv hd hcd,λE hf q=>by
 obtain⟨v,e,r⟩:=E.fr _ _ (J7 hf);exact⟨v,e,q v _ _ (zN.refl E.ext.gh) r⟩⟩⟩
theorem aC(i:Nat){x:Str}{pos:Pos}(hN:X.N[i]?=some x:=by rfl)(hv:p8 X.env.scope x:=by first|exact Or.inl rfl|exact Or.inr (Or.inl rfl)|exact Or.inr (Or.inr rfl))(hd:(x==("__debug__" : Str))=false:=by decide)
  (hcd:(x==("__classdict__" : Str))=false:=by decide):SB X (.Name x pos) (X6 i):=⟨⟨_,Y7 hN hv hd hcd,λE hf q=>by
 obtain⟨b,hb⟩:=Gs hf;cases b with
 |false=>
  obtain⟨v,e,r⟩:=E.fr _ _ hb;exact⟨v,e,q v _ _ (zN.refl E.ext.gh) (r.mono E.ext.gh)⟩
 |true=>
  obtain⟨p,e,_,_,o⟩:=E.ow _ _ hb;exact⟨_,e,q _ _ _ (zN.refl E.ext.gh) (o.rep E.ext.gh)⟩⟩⟩
theorem WZ{v:V}{d:D}(h:PE X e (tC v))(r:∀H,zS X.K H d v):SE X e (eC d):=⟨⟨_,h,λE hf q=>by
 cases hf;exact q v _ _ (zN.refl E.ext.gh) (r _)⟩⟩
theorem zE{i k pos}:SE X (.Constant (.int i) k pos) (eC (.int i)):=WZ Dp λ_=>rfl
theorem vJ{i k pos}:SE X (.Constant (.bool i) k pos) (eC (.bl i)):=WZ Rk λ_=>rfl
theorem YH{k pos}:SE X (.Constant .none k pos) (eC .zG):=WZ S3 λ_=>rfl
theorem yd{x k pos}(h:x.length<=1000:=by decide):SE X (.Constant (.str x) k pos) (eC (.str x)):=WZ U_ λ_=>⟨rfl,vL h⟩
theorem vK{v:V}{d:D}(h:xV X.mg x v)(r:∀H,zS X.K H d v)(hg:Gl X x)(hd:(x==("__debug__" : Str))=false:=by decide):SE X (.Name x pos) (eC d):=WZ (Il h hg hd) r
def vC(K:W.Frag)(r:R2)(F:D->D->Option D):Prop:=∀G H x y u v d (Q:VK),zb G H->zS K G x u->zS K G y v->F x y=some d->(∀w G' H',zN G H G' H'->zS K G' d w->Q w H')->r u v H Q
def ui(K:W.Frag)(r:R2)(F:D->D->Option D):Prop:=∀H x y u v d (Q:VK),zS K H x u->zS K H y v->F x y=some d->∃k,d=.bl k/\(Q (.bl k) H->r u v H Q)
theorem za{op:Operator}(ho:yB X (binaryOp op) r)(hF:vC X.K r F)(ha:SE X a fa)(hb:SE X b fb):SE X (.BinOp a op b pos) (e2 F fa fb):=by
 obtain⟨ta,pa,ka⟩:=ha.h;obtain⟨tb,pb,kb⟩:=hb.h;refine⟨⟨_,Ds ho pa pb,λE hf q=>?_⟩⟩;obtain⟨x,hx,hf⟩:=zD hf;obtain⟨y,hy,hf⟩:=zD hf;refine ka E hx λv G1 H1 x1 r1=>?_
 refine kb (E.go x1) hy λu G2 H2 x2 r2=>?_
 exact hF G2 H2 x y v u _ _ x2.gh (r1.mono x2.g) r2 hf λw G' H' x3 r3=>q w G' H' (x1.trans (x2.trans x3)) r3
theorem zW(hr:ug X r)(hF:vC X.K r F)(ha:SE X a fa)(hb:SE X b fb)(hs:XW b=true:=by rfl):SE X (.Subscript a b pos) (e2 F fa fb):=by
 obtain⟨ta,pa,ka⟩:=ha.h;obtain⟨tb,pb,kb⟩:=hb.h;refine⟨⟨_,Im hr pa pb (Ip hs),λE hf q=>?_⟩⟩;obtain⟨x,hx,hf⟩:=zD hf;obtain⟨y,hy,hf⟩:=zD hf;refine ka E hx λv G1 H1 x1 r1=>?_
 refine kb (E.go x1) hy λu G2 H2 x2 r2=>?_
 exact hF G2 H2 x y v u _ _ x2.gh (r1.mono x2.g) r2 hf λw G' H' x3 r3=>q w G' H' (x1.trans (x2.trans x3)) r3
theorem uF{op:CmpOp}(ho:yB X (compareOp op) r)(hF:ui X.K r F)(ha:SB X a fa)(hb:SB X b fb)(hm:behindInMarks op b=false):SE X (.Compare a [op] [b] pos) (e2 F fa fb):=by
 obtain⟨ta,pa,ka⟩:=ha.h;obtain⟨tb,pb,kb⟩:=hb.h;refine⟨⟨_,Dn ho pa pb hm,λE hf q=>?_⟩⟩;obtain⟨x,hx,hf⟩:=zD hf;obtain⟨y,hy,hf⟩:=zD hf;refine ka E hx λv G1 H1 x1 r1=>?_
 refine kb (E.go x1) hy λu G2 H2 x2 r2=>?_
 obtain⟨k,rfl,z⟩:=hF H2 x y v u _ _ (r1.mono x2.h) r2 hf;exact z (q _ _ _ (x1.trans x2) rfl)
theorem xR{op:CmpOp}(ho:yB X (compareOp op) r)(hF:ui X.K r F)(ha:SB X a fa)(hb:SB X b fb)(hm:behindInMarks op b=false):ST X (.Compare a [op] [b] pos) (tE (e2 F fa fb)):=by
 obtain⟨ta,pa,ka⟩:=ha.h;obtain⟨tb,pb,kb⟩:=hb.h;refine⟨⟨_,Ir ho pa pb hm,λE hf q=>?_⟩⟩;obtain⟨z,hz,hf⟩:=zD hf;obtain⟨x,hx,hz⟩:=zD hz;obtain⟨y,hy,hz⟩:=zD hz;refine ka E hx λv G1 H1 x1 r1=>?_
 refine kb (E.go x1) hy λu G2 H2 x2 r2=>?_
 obtain⟨k,rfl,z⟩:=hF H2 x y v u _ _ (r1.mono x2.h) r2 hz;cases hf;exact z ⟨_,rfl,q _ _ (x1.trans x2)⟩
theorem uI(h:SE X e f)(he:Dt e=true:=by rfl):ST X e (tE f):=by
 obtain⟨t,p,k⟩:=h.h;refine⟨⟨_,Si p (SU he),λE hf q=>?_⟩⟩;obtain⟨z,hz,hf⟩:=zD hf;refine k E hz λv G' H' x r=>?_
 cases z<;>first|cases hf|skip
 cases r;exact⟨_,rfl,q _ _ x⟩
theorem OK(h:ST X a ft):SW X (.BoolOp .Or [a] pos) ft:=⟨let ⟨t,p,k⟩:=h.h; ⟨t,FV p,k⟩⟩
theorem OJ(ha:ST X a ft)(hb:SW X (.BoolOp .Or (b::zf) pos) fu):SW X (.BoolOp .Or (a::b::zf) pos) (Wi ft fu):=by
 obtain⟨ta,pa,ka⟩:=ha.h;obtain⟨tb,pb,kb⟩:=hb.h;refine⟨⟨_,FU pa pb,λE hf q=>?_⟩⟩;obtain⟨k,hk,hf⟩:=zD hf;refine ka E hk λG1 H1 x1=>?_
 cases k with
 |false=>exact pI (kb (E.go x1) hf λG' H' x2=>q _ _ (x1.trans x2))
 |true=>cases hf; exact pJ (q _ _ x1)
theorem OL(h:SW X e ft):ST X e ft:=⟨let ⟨t,p,k⟩:=h.h; ⟨t,p.pt,k⟩⟩
theorem jm(h:ST X a ft):ST X (.UnaryOp .Not a pos) (qr ft):=by
 obtain⟨ta,pa,ka⟩:=h.h;refine⟨⟨_,Sh pa,λE hf q=>?_⟩⟩;obtain⟨k,hk,hf⟩:=zD hf;cases hf;exact ka E hk λG1 H1 x1=>q _ _ x1
theorem Wb{op}(h:SE X a f):SE X (.BoolOp op [a] pos) f:=⟨let ⟨t,p,k⟩:=h.h; ⟨t,Dr p,k⟩⟩
theorem T8{K:W.Frag}{G:Hp}{z:D}{v:V}{k:Bool}(r:zS K G z v)(h:jO z=some k):v=.bl k:=by
 cases z<;>first|cases h|skip
 exact r
theorem TF(ha:SE X a fa)(hb:SE X (.BoolOp .And (b::zf) pos) fb):SE X (.BoolOp .And (a::b::zf) pos) (ZT fa fb):=by
 obtain⟨ta,pa,ka⟩:=ha.h;obtain⟨tb,pb,kb⟩:=hb.h;refine⟨⟨_,Dm pa pb,λE hf q=>?_⟩⟩;obtain⟨z,hz,hf⟩:=zD hf;obtain⟨k,hk,hf⟩:=zD hf;refine ka E hz λv G1 H1 x1 r1=>⟨k,T8 r1 hk,?_⟩
 cases k with
 |true=>exact pJ (kb (E.go x1) hf λv G' H' x2 r2=>q v _ _ (x1.trans x2) r2)
 |false=>cases hf; exact pI (q _ _ _ x1 rfl)
theorem b9(ha:SE X a fa)(hb:SE X (.BoolOp .Or (b::zf) pos) fb):SE X (.BoolOp .Or (a::b::zf) pos) (J6 fa fb):=by
 obtain⟨ta,pa,ka⟩:=ha.h;obtain⟨tb,pb,kb⟩:=hb.h;refine⟨⟨_,S5 pa pb,λE hf q=>?_⟩⟩;obtain⟨z,hz,hf⟩:=zD hf;obtain⟨k,hk,hf⟩:=zD hf;refine ka E hz λv G1 H1 x1 r1=>⟨k,T8 r1 hk,?_⟩
 cases k with
 |false=>exact pI (kb (E.go x1) hf λv G' H' x2 r2=>q v _ _ (x1.trans x2) r2)
 |true=>cases hf; exact pJ (q _ _ _ x1 rfl)
theorem b8(ha:SE X a fa):SE X (.UnaryOp .Not a pos) (J5 fa):=by
 obtain⟨ta,pa,ka⟩:=ha.h;refine⟨⟨_,S4 pa,λE hf q=>?_⟩⟩;obtain⟨z,hz,hf⟩:=zD hf;obtain⟨k,hk,hf⟩:=zD hf;cases hf;exact ka E hz λv G1 H1 x1 r1=>⟨k,T8 r1 hk,q _ _ _ x1 rfl⟩
theorem kS(hc:ST X c ft)(ha:SE X a fa)(hb:SE X b fb):SE X (.IfExp c a b pos) (pB ft fa fb):=by
 obtain⟨tc,pc,kc⟩:=hc.h;obtain⟨ta,pa,ka⟩:=ha.h;obtain⟨tb,pb,kb⟩:=hb.h;refine⟨⟨_,Rx pc pa pb,λE hf q=>?_⟩⟩;obtain⟨k,hk,hf⟩:=zD hf;refine kc E hk λG1 H1 x1=>?_
 cases k with
 |true=>exact pJ (ka (E.go x1) hf λv G' H' x2 r2=>q v _ _ (x1.trans x2) r2)
 |false=>exact pI (kb (E.go x1) hf λv G' H' x2 r2=>q v _ _ (x1.trans x2) r2)
theorem zP:SA X [] zH:=⟨⟨_,XU,λE hf q=>by cases hf; exact q _ _ _ (zN.refl E.ext.gh) rfl⟩⟩
theorem zB(ha:SE X e f)(hr:SA X es fs)(h:yZ e=true:=by rfl):SA X (e::es) (zA f fs):=by
 obtain⟨ta,pa,ka⟩:=ha.h;obtain⟨tb,pb,kb⟩:=hr.h;refine⟨⟨_,kH pa pb h,λE hf q=>?_⟩⟩;obtain⟨x,hx,hf⟩:=zD hf;obtain⟨xs,hxs,hf⟩:=zD hf;cases hf;refine ka E hx λv G1 H1 x1 r1=>kb (E.go x1) hxs λvs G2 H2 x2 r2=>?_
 exact q _ _ _ (x1.trans x2) ⟨v,vs,rfl,r1.mono x2.g,r2⟩
theorem t5:Yw X [] zH:=⟨⟨_,XU,λE hf q=>by cases hf; exact q _ _ _ (zN.refl E.ext.gh) rfl⟩⟩
theorem uZ(ha:SB X e f)(hr:Yw X es fs)(h:yZ e=true:=by rfl):Yw X (e::es) (zA f fs):=by
 obtain⟨ta,pa,ka⟩:=ha.h;obtain⟨tb,pb,kb⟩:=hr.h;refine⟨⟨_,kH pa pb h,λE hf q=>?_⟩⟩;obtain⟨x,hx,hf⟩:=zD hf;obtain⟨xs,hxs,hf⟩:=zD hf;cases hf;refine ka E hx λv G1 H1 x1 r1=>kb (E.go x1) hxs λvs G2 H2 x2 r2=>?_
 exact q _ _ _ (x1.trans x2) ⟨v,vs,rfl,r1.mono x2.h,r2⟩
theorem TB{is:List Int}(h:intsOf es=some is):SA X es (λ_=>some (is.map D.int)):=⟨⟨_,Dj h,λE hf q=>by cases hf; exact q _ _ _ (zN.refl E.ext.gh) Reps.ints⟩⟩
theorem tq{x1}(h:SA X es fs)(hl:∀τ ds,fs τ=some ds->ds.length<=1000):SE X (.Tuple es x1 pos) (uU fs):=by
 obtain⟨t,pt,k⟩:=h.h;refine⟨⟨_,S6 pt,λE hf q=>?_⟩⟩;obtain⟨xs,hx,hf⟩:=zD hf;cases hf;have l:xs.length<=sizeLine:=vL (hl _ _ hx);refine k E hx λvs G1 H1 x1 r1=>⟨by rw[r1.length]; exact l,λp hp=>?_⟩
 exact q _ _ _ (x1.trans (zN.lay x1.gh hp)) ⟨p,vs,rfl,yb.of yi,r1.mono (wn (x1.gh.free hp) _),l⟩
theorem wp(h:SA X es fs)(hl:∀τ ds,fs τ=some ds->ds.length<=1000):SF X (.List es pos) (wZ fs):=by
 obtain⟨t,pt,k⟩:=h.h;refine⟨⟨_,Rz pt,λE hf q=>?_⟩⟩;obtain⟨xs,hx,hf⟩:=zD hf;cases hf;have l:xs.length<=sizeLine:=vL (hl _ _ hx);refine k E hx λvs G1 H1 x1 r1=>⟨by rw[r1.length]; exact l,λp hp=>?_⟩
 exact q _ _ _ (x1.trans (zN.tF x1.gh hp)) (x1.h.free hp) (x1.gh.free hp) ⟨vs,yi,r1,l⟩
theorem xl:∀(τ:zp) ds,zH τ=some ds->ds.length<=0:=λ_ _ h=>by cases h; exact yF _
theorem zr{n:Nat}(h:∀τ ds,fs τ=some ds->ds.length<=n):∀τ ds,zA f fs τ=some ds->ds.length<=n+1:=λτ ds e=>by
 obtain⟨x,_,e⟩:=zD e;obtain⟨xs,hx,e⟩:=zD e;cases e;exact kh (h _ _ hx)
theorem VT{is:List Int}{n:Nat}(h:is.length<=n):∀(τ:zp) ds,(some (is.map D.int))=some ds->ds.length<=n:=λ_ _ e=>by
 cases e;rw[zm];exact h
theorem xG{m n:Nat}(h:∀τ ds,fs τ=some ds->ds.length<=m)(hmn:m<=n):∀τ ds,fs τ=some ds->ds.length<=n:=λτ ds e=>vQ (h τ ds e) hmn
variable{ps:List Str}{j k:Nat}{FF:List D->Option (Bool×D)}{FL:List D->Option D}{id T:String}
theorem ua(h:zJ X.prog X.w X.K X.mg X.base x ps k (zR X.K FF))(hr:yI j X.A)(hg:Gl X x)(ha:SA X (e::es) fs)(hk:k<=j:=by decide)(hdb:(x==("__debug__" : Str))=false:=by decide)
  (he:(e::es).all yZ=true:=by rfl):SF X (.Call (.Name x p) (e::es) [] pos) (vF FF fs):=by
 obtain⟨t,pt,kt⟩:=ha.h;refine⟨⟨_,Io h hr hg pt hk hdb he,λE hf q=>?_⟩⟩;obtain⟨ds,hd,hf⟩:=zD hf;obtain⟨⟨o,d⟩,hr,hf⟩:=zD hf;cases o with
 |false=>cases hf
 |true=>
  cases hf;refine kt E hd λvs G1 H1 x1 r1=>⟨G1,ds,true,_,x1.gh,by rw[ub]; exact r1,hr,λp G' H' x2 hp gp o=>?_⟩
  exact q p G' H' (x1.trans x2) (x1.h.free hp) gp o
theorem zu(h:zJ X.prog X.w X.K X.mg X.base x ps k (zR X.K FF))(hr:yI j X.A)(hg:Gl X x)(ha:SA X (e::es) fs)(hk:k<=j:=by decide)(hdb:(x==("__debug__" : Str))=false:=by decide)
  (he:(e::es).all yZ=true:=by rfl):SE X (.Call (.Name x p) (e::es) [] pos) (zj FF fs):=by
 obtain⟨t,pt,kt⟩:=ha.h;refine⟨⟨_,Io h hr hg pt hk hdb he,λE hf q=>?_⟩⟩;obtain⟨ds,hd,hf⟩:=zD hf;obtain⟨⟨o,d⟩,hr,hf⟩:=zD hf;cases hf;refine kt E hd λvs G1 H1 x1 r1=>⟨G1,ds,o,d,x1.gh,by rw[ub]; exact r1,hr,?_⟩
 cases o with
 |false=>exact λv G' H' x2 r=>q v G' H' (x1.trans x2) r
 |true=>
  intro p G' H' x2 hp gp o;obtain⟨u,hu,r⟩:=o.xj gp;exact q _ _ _ (x1.trans (x2.xj hp gp hu)) r
def qc(K:W.Frag)(r:List V->Hp->VK->Prop)(F:List D->Option D):Prop:=∀G H ds vs d (Q:VK),zb G H->Reps K H ds vs->F ds=some d->(∀w G' H',zN G H G' H'->zS K G' d w->Q w H')->r vs H Q
def Lk(K:W.Frag)(r:List V->Hp->VK->Prop)(F:List D->Option D):Prop:=∀G H ds vs d (Q:VK),zb G H->Reps K G ds vs->F ds=some d->(∀w G' H',zN G H G' H'->zS K G' d w->Q w H')->r vs H Q
theorem tm{rc:List V->Hp->VK->Prop}(hc:xU X (.builtin id) rc)(hF:qc X.K rc FL)(hg:Gl X x)(hm:X.mg x=none)(hv:bootBuiltins x=some (.builtin id))(ha:Yw X (e::es) fs)(hn:x ≠ "__name__" := by decide)(hdb:(x==("__debug__" : Str))=false:=by decide)
  (he:(e::es).all yZ=true:=by rfl):SE X (.Call (.Name x p) (e::es) [] pos) (eL FL fs):=by
 obtain⟨t,pt,kt⟩:=ha.h;refine⟨⟨_,(T3 hc hg hm hv ⟨pt⟩ hn hdb he).h,λE hf q=>?_⟩⟩;obtain⟨ds,hd,hf⟩:=zD hf;exact kt E hd λvs G1 H1 x1 r1=>hF G1 H1 ds vs _ _ x1.gh r1 hf λw G' H' x2 r2=>q w G' H' (x1.trans x2) r2
theorem b6{rc:List V->Hp->VK->Prop}(hc:xU X (.type T) rc)(hF:qc X.K rc FL)(hg:Gl X x)(hm:X.mg x=none)(hv:bootBuiltins x=some (.type T))(ha:Yw X (e::es) fs)(hn:x ≠ "__name__" := by decide)(hdb:(x==("__debug__" : Str))=false:=by decide)
  (he:(e::es).all yZ=true:=by rfl):SE X (.Call (.Name x p) (e::es) [] pos) (eL FL fs):=by
 obtain⟨t,pt,kt⟩:=ha.h;refine⟨⟨_,(YD hc hg hm hv ⟨pt⟩ hn hdb he).h,λE hf q=>?_⟩⟩;obtain⟨ds,hd,hf⟩:=zD hf;exact kt E hd λvs G1 H1 x1 r1=>hF G1 H1 ds vs _ _ x1.gh r1 hf λw G' H' x2 r2=>q w G' H' (x1.trans x2) r2
theorem OC{rc:List V->Hp->VK->Prop}(hc:xU X (.type T) rc)(hF:Lk X.K rc FL)(hg:Gl X x)(hm:X.mg x=none)(hv:bootBuiltins x=some (.type T))(ha:SA X (e::es) fs)(hn:x ≠ "__name__" := by decide)(hdb:(x==("__debug__" : Str))=false:=by decide)
  (he:(e::es).all yZ=true:=by rfl):SE X (.Call (.Name x p) (e::es) [] pos) (eL FL fs):=by
 obtain⟨t,pt,kt⟩:=ha.h;refine⟨⟨_,(YD hc hg hm hv ⟨pt⟩ hn hdb he).h,λE hf q=>?_⟩⟩;obtain⟨ds,hd,hf⟩:=zD hf;exact kt E hd λvs G1 H1 x1 r1=>hF G1 H1 ds vs _ _ x1.gh r1 hf λw G' H' x2 r2=>q w G' H' (x1.trans x2) r2
theorem C7{op:UnaryOp}{ru:V->Hp->VK->Prop}{F1:D->Option D}(ho:Yy X (unaryOp op) ru)(hF:∀(G H:Hp) x u d (Q:VK),zS X.K G x u->F1 x=some d->∃w,(∀G,zS X.K G d w)/\(Q w H->ru u H Q))(ha:SE X a fa):SE X (.UnaryOp op a pos) (e1 F1 fa):=by
 obtain⟨t,pt,kt⟩:=ha.h;refine⟨⟨_,S7 ho pt,λE hf q=>?_⟩⟩;obtain⟨x,hx,hf⟩:=zD hf;refine kt E hx λv G1 H1 x1 r1=>?_
 obtain⟨w,rw_,z⟩:=hF G1 H1 x v _ _ r1 hf;exact z (q w _ _ x1 (rw_ _))
end
section
variable{X:Cx}{x:Str}{p pos pos' apos cpos:Pos}{e a b c tg iter elt:Expr}{es ifs:List Expr}{f fa fb:FE}{ft:FT}{fs:FA}{st:Stmt}{sts body:List Stmt}{g g':FS}
theorem wz:uj X [] wf:=⟨⟨_,FB,λ{_ _ G H τ σ fl E} K hf q=>by
 cases hf;exact q σ G H K⟩⟩
theorem uP.with{K:W.Frag}{n:Nat}{G0 H0:Hp}{E E':vl}{fl:Fl}(h:uP K n G0 H0 E fl)(hn:∀τ,fl=.nx τ->uP K n G0 H0 E' (.nx τ))(hb:∀τ,fl=.bk τ->uP K n G0 H0 E' (.bk τ))(hc:∀τ,fl=.ct τ->uP K n G0 H0 E' (.ct τ))(hr:E'.rt=E.rt):uP K n G0 H0 E' fl:=by
 cases fl with
 |nx τ=>exact hn τ rfl
 |bk τ=>exact hb τ rfl
 |ct τ=>exact hc τ rfl
 |rt o d=>
  cases o with
  |false=>intro v G H x r; rw[hr]; exact h v G H x r
  |true=>intro v G H x r1 r2 r3; rw[hr]; exact h v G H x r1 r2 r3
theorem yE(h1:SS X st g)(h2:uj X sts g'):uj X (st::sts) (z_ g g'):=by
 obtain⟨t,p,k⟩:=h1.h;obtain⟨t',p',k'⟩:=h2.h;refine⟨⟨_,D_ p p',λ{G0 H0 G H τ σ fl E} K hf q=>?_⟩⟩;obtain⟨f1,h1,hf⟩:=zD hf;refine k K h1 ?_;cases f1 with
 |nx τ'=>exact λσ' G' H' K'=>k' K' hf q
 |bk τ'=>cases hf; exact q
 |ct τ'=>cases hf; exact q
 |rt o d=>cases hf; exact uP.with q (λ_ z=>nomatch z) (λ_ z=>nomatch z) (λ_ z=>nomatch z) rfl
theorem zl(h1:SS X st g):uj X [st] g:=⟨let ⟨t,p,k⟩:=h1.h; ⟨t,FC p,k⟩⟩
theorem CJ(i:Nat)(h:uj X sts g):uj X sts (z_ (Xb i) g):=by
 obtain⟨t,p,k⟩:=h.h;refine⟨⟨t,p,λ{G0 H0 G H τ σ fl E} K hf q=>?_⟩⟩;obtain⟨f1,h1,hf⟩:=zD hf;unfold Xb at h1
 split at h1
 ·rename_i bb d hd;cases h1;obtain⟨G',K',_⟩:=K.freeze hd;exact k K' hf q
 ·cases h1
theorem wy{i:Nat}{x:Str}{pos':Pos}(hN:X.N.Nodup)(hi:X.N[i]?=some x)(hx:tM X.env.scope x)(he:SE X e f)(hs:Zy e=true:=by rfl)(hf:X.fn x=true\/X.env.scope.names.lookup x=some .local:=by first|exact .inl rfl|exact .inr rfl|assumption) :
  SS X (.Assign [.Name x pos'] e pos) (w8 i f):=by
 obtain⟨t,p,k⟩:=he.h;refine⟨⟨_,(Iy hN hi hx ⟨p⟩ hs hf).h,λ{G0 H0 G H τ σ fl E} K hf q=>?_⟩⟩;obtain⟨d,hd,hf⟩:=zD hf;cases hf;exact k K hd λv G' H' x r=>q _ _ _ ((K.go x).set (yA.mp hi).1 r)
theorem YL{i:Nat}{x:Str}{pos':Pos}(hN:X.N.Nodup)(hi:X.N[i]?=some x)(hx:tM X.env.scope x)(he:SF X e f)(hs:Zy e=true:=by rfl)(hf:X.fn x=true\/X.env.scope.names.lookup x=some .local:=by first|exact .inl rfl|exact .inr rfl|assumption) :
  SS X (.Assign [.Name x pos'] e pos) (jj i f):=by
 obtain⟨t,p,k⟩:=he.h;refine⟨⟨_,(Iy hN hi hx ⟨p⟩ hs hf).h,λ{G0 H0 G H τ σ fl E} K hf q=>?_⟩⟩;obtain⟨d,hd,hf⟩:=zD hf;cases hf;refine k K hd λp G' H' x hp gp o=>q _ _ _ ((K.go x).EV (yA.mp hi).1 gp (K.ext.h.free hp) o ?_)
 exact K.ES hp
theorem yX(he:SE X e f):SS X (.Return (some e) pos) (yM f):=by
 obtain⟨t,p,k⟩:=he.h;refine⟨⟨_,T1 p,λ{G0 H0 G H τ σ fl E} K hf q=>?_⟩⟩;obtain⟨d,hd,hf⟩:=zD hf;cases hf;exact k K hd λv G' H' x r=>q v _ _ (K.ext.trans x) r
theorem ph(he:SF X e f):SS X (.Return (some e) pos) (qQ f):=by
 obtain⟨t,p,k⟩:=he.h;refine⟨⟨_,T1 p,λ{G0 H0 G H τ σ fl E} K hf q=>?_⟩⟩;obtain⟨d,hd,hf⟩:=zD hf;cases hf;exact k K hd λp G' H' x hp gp o=>q p _ _ (K.ext.trans x) (K.ext.h.free hp) gp o
theorem Wg(i:Nat){x:Str}{pos':Pos}(hN:X.N[i]?=some x:=by rfl)(hv:p8 X.env.scope x:=by first|exact Or.inl rfl|exact Or.inr (Or.inl rfl)|exact Or.inr (Or.inr rfl))(hd:(x==("__debug__" : Str))=false:=by decide)
  (hcd:(x==("__classdict__" : Str))=false:=by decide):SS X (.Return (some (.Name x pos')) pos) (ji i):=by
 refine⟨⟨_,T1 (Y7 hN hv hd hcd),λ{G0 H0 G H τ σ fl E} K hf q=>?_⟩⟩;unfold ji at hf
 split at hf
 ·rename_i d he;cases hf;obtain⟨p,e,g,z,o⟩:=K.ow _ _ he;exact⟨_,e,q p _ _ K.ext z g o⟩
 ·cases hf
theorem wK{sa sb:List Stmt}(hc:ST X c ft)(ha:uj X sa g)(hb:uj X sb g'):SS X (.If c sa sb pos) (xw ft g g'):=by
 obtain⟨tc,pc,kc⟩:=hc.h;obtain⟨ta,pa,ka⟩:=ha.h;obtain⟨tb,pb,kb⟩:=hb.h;refine⟨⟨_,Dz pc pa pb,λ{G0 H0 G H τ σ fl E} K hf q=>?_⟩⟩;obtain⟨k,hk,hf⟩:=zD hf;refine kc K hk λG1 H1 x1=>?_
 cases k with
 |true=>exact pJ (ka (K.go x1) hf q)
 |false=>exact pI (kb (K.go x1) hf q)
theorem YK:uj X sts (λ_=>none):=⟨⟨_,Sg,λ_ hf=>by cases hf⟩⟩
theorem uP.near{K:W.Frag}{n:Nat}{G0 H0 Ga Ha:Hp}{E:vl}{fl:Fl}(x:zN G0 H0 Ga Ha)(h:uP K n G0 H0 E fl):uP K n Ga H0 E fl:=by
 cases fl with
 |nx τ=>exact λσ G H z=>h σ G H (zn.near x z)
 |bk τ=>exact λσ G H z=>h σ G H (zn.near x z)
 |ct τ=>exact λσ G H z=>h σ G H (zn.near x z)
 |rt o d=>
  cases o with
  |false=>exact λv G H y r=>h v G H (x.rebase y) r
  |true=>exact λp G H y r1 r2 r3=>h p G H (x.rebase y) r1 r2 r3
structure SG(X:Cx)(tg:Expr)(fg:FG):Prop where
 h:∃t,PG X tg t/\∀{G0 H0 G H:Hp}{τ τ':zp}{σ:St}{d:D}{v:V}{Q:St->Hp->Prop},zn X.K X.N.length G0 H0 G H τ σ->zS X.K G d v->fg d τ=some τ'->(∀σ',zn X.K X.N.length G0 H0 G H τ' σ'->Q σ' H)->t v σ H Q
theorem We{i:Nat}{x:Str}(h:QG X (.Name x pos) (vt i))(hi:X.N[i]?=some x):SG X (.Name x pos) (yK i):=⟨⟨_,h.h,λK r hf q=>by
 cases hf;exact q _ (K.set (yA.mp hi).1 r)⟩⟩
theorem bL{i j:Nat}{x y:Str}{p1 p2:Pos}{kk:Nat}(h:QG X (.Tuple [.Name x p1,.Name y p2] kk pos) (ZX X.K 2 (qh (vt i) (qh (vt j) ZW))))(hi:X.N[i]?=some x)(hj:X.N[j]?=some y):SG X (.Tuple [.Name x p1,.Name y p2] kk pos) (qi i j):=⟨⟨_,h.h,λ{G0 H0 G H τ τ' σ d v Q} K r hf q=>by
 unfold qi at hf
 split at hf
 ·rename_i d1 d2;cases hf;obtain⟨a,vs,rfl,sq,⟨v1,r1,rfl,h1,⟨v2,r2,rfl,h2,h3⟩⟩,_⟩:=r;cases(show r2=[]from h3);refine⟨a,_,rfl,uH K.ext.gh sq,rfl,v1,_,rfl,v2,_,rfl,rfl,?_⟩;exact q _ ((K.set (yA.mp hi).1 h1).set (yA.mp hj).1 h2)
 ·cases hf⟩⟩
theorem YJ{fg:FG}(hp:PassesOwn (model X.prog X.w) X.A X.env X.xe)(hc:X.calm=true)(hi:SI X tg iter fs)(hg:SG X tg fg)(hb:uj X body g)(hs:∀x,foldedSetIterable iter X.env x=pure x:=by intro _; rfl):SS X (.For tg iter body [] pos) (jh fs fg g):=by
 obtain⟨ti,pi,ki⟩:=hi.h;obtain⟨tg',pg,kg⟩:=hg.h;obtain⟨tb,pb,kb⟩:=hb.h;refine⟨⟨_,Dy hp hc pi pg pb hs,λ{G0 H0 G H τ σ fl E} K hf q=>?_⟩⟩;obtain⟨ds,hd,hf⟩:=zD hf;refine ki K hd λJ Ga Ha xa _ wk=>?_
 have Ka:=K.go xa;have q':=uP.near Ka.ext q;refine⟨λi m σ H=>m=ds.length-i/\i<=ds.length/\∃τ G,zn X.K X.N.length Ga H0 G H τ σ/\pK fg g (ds.drop i) τ=some fl,⟨ds.length,rfl,vy _,τ,Ga,Ka.ku,hf⟩,?_⟩;rintro i m σ H ⟨rfl,hle,τ,G,K,hf⟩;by_cases hlt:i<ds.length
 ·refine .inr ⟨wk.go i G H K.ext.g K.ext.gh hlt,λσ' H'=>∃τ G,zn X.K X.N.length Ga H0 G H' τ σ'/\pK fg g (ds.drop (i+1)) τ=some fl,λσ' H' z=>⟨ds.length-(i+1),by omega,rfl,hlt,z⟩,λx H' y=>?_⟩;obtain⟨G3,d,x3,ed,rd⟩:=wk.u3 i G H x H' K.ext.g K.ext.gh hlt y;rw[kY hlt]at hf;rw[xD hlt]at ed;cases ed;obtain⟨τ1,h1,hf⟩:=zD (show(fg _ τ).bind _=_ from hf);obtain⟨f1,h2,hf⟩:=zD hf;refine kg (K.go x3) rd h1 λσ1 K1=>kb K1 h2 ?_
  cases f1 with
  |nx τ2=>exact λσ2 G2 H2 K2=>⟨τ2,G2,K2,hf⟩
  |ct τ2=>exact λσ2 G2 H2 K2=>⟨τ2,G2,K2,hf⟩
  |bk τ2=>cases hf; exact q'
  |rt o d=>cases hf; exact uP.with q' (λ_ z=>nomatch z) (λ_ z=>nomatch z) (λ_ z=>nomatch z) rfl
 ·have e:ds.drop i=[]:=E6 (by omega);rw[e]at hf;cases hf;exact .inl ⟨wk.stop i G H K.ext.g K.ext.gh (by omega),q' _ _ _ K⟩
theorem KQ{K:W.Frag}{G:Hp}{lo:Int}{n:Nat}:jN K (VJ lo n) G ((List.range n).map λk:Nat=>D.int (lo+k)) where
 go:=λi G2 H _ _ hi=>by
  show i<n;simpa using hi
 u3:=λi G2 H x H' _ g2 hi y=>by
  obtain⟨rfl,rfl⟩:=y;exact⟨G2,.int (lo+i),zN.refl g2,by simp at hi; simp[hi],rfl⟩
 stop:=λi G2 H _ _ hi=>by
  show n<=i;simpa using hi
theorem kU(hg:Gl X "range")(hm:X.mg "range" = none)(ha:SE X a fa)(hs:yZ a=true:=by rfl):SI X tg (.Call (.Name "range" p) [a] [] pos) (uv (eC (.int 0)) fa):=by
 obtain⟨t,pt,k⟩:=(zB ha zP hs).h;refine⟨⟨_,SL hg hm pt (vw hs),λ{G0 H0 G H τ σ ds R} K hf q=>?_⟩⟩;obtain⟨x,hx,hf⟩:=zD hf;cases hx;obtain⟨y,hy,hf⟩:=zD hf;refine k K (ds:=[y]) (by unfold zA; rw[hy]; rfl) λvs G1 H1 x1 r1=>?_
 cases y<;>first|cases hf|skip
 rename_i j;obtain⟨v,r,rfl,hv,hr⟩:=r1;cases(show r=[]from hr);cases(show v=.int j from hv)
 change (if(0:Int).natAbs<=yY/\j.natAbs<=yY/\(j-0).toNat<=yY then _ else _)=_ at hf
 by_cases c:(0:Int).natAbs<=yY/\j.natAbs<=yY/\(j-0).toNat<=yY
 ·rw[zM c]at hf;cases hf;have c2:j.natAbs<=16777216:=c.2.1;have c3:(j-0).toNat<=16777216:=c.2.2;refine⟨j,rfl,by omega,by omega,q _ _ _ x1 ?_ ?_⟩
  ·rw[zm,Oz,xi]; omega
  ·have e:(j-0).toNat=j.toNat:=by omega
   rw[e];exact KQ
 ·rw[zO c]at hf;cases hf
theorem N6{K:W.Frag}{G:Hp}{a:Addr}{vs:List V}{ds:List D}(sq:yJ K G a vs)(r:Reps K G ds vs):jN K (QK K a) G ds where
 go:=λi G2 H g1 g2 hi=>by
  obtain⟨v,e,_⟩:=r.get (xD hi);exact⟨vs,v,vf (g1.trans g2) sq,e⟩
 u3:=λi G2 H x H' g1 g2 hi y=>by
  obtain⟨rfl,y⟩:=y;have e:=y vs (vf (g1.trans g2) sq);obtain⟨d,ed,rd⟩:=r.at e;exact⟨G2,d,zN.refl g2,ed,rd.mono g1⟩
 stop:=λi G2 H g1 g2 hi=>⟨vs,vf (g1.trans g2) sq,by rw[r.length]; exact hi⟩
theorem dA{K:W.Frag}{G:Hp}{a:Addr}{vs:List V}{ds:List D}(sq:yb K G a vs)(r:Reps K G ds vs):jN K (QL K a) G ds where
 go:=λi G2 H g1 g2 hi=>by
  obtain⟨v,e,_⟩:=r.get (xD hi);exact⟨vs,v,uH (g1.trans g2) sq,e⟩
 u3:=λi G2 H x H' g1 g2 hi y=>by
  obtain⟨rfl,y⟩:=y;have e:=y vs (uH (g1.trans g2) sq);obtain⟨d,ed,rd⟩:=r.at e;exact⟨G2,d,zN.refl g2,ed,rd.mono g1⟩
 stop:=λi G2 H g1 g2 hi=>⟨vs,uH (g1.trans g2) sq,by rw[r.length]; exact hi⟩
theorem bg{K:W.Frag}{G:Hp}{z:Str}:jN K (VL z) G (z.cps.toList.map λc=>D.str ⟨#[c]⟩) where
 go:=λi G2 H _ _ hi=>by
  rw[zm,kW]at hi;exact hi
 u3:=λi G2 H x H' _ g2 hi y=>by
  obtain⟨rfl,c,ec,rfl⟩:=y;refine⟨G2,.str ⟨#[c]⟩,zN.refl g2,?_,rfl,vL (n:=1) (by decide)⟩;rw[vN,Oo,ec];rfl
 stop:=λi G2 H _ _ hi=>by
  rw[zm,kW]at hi;exact hi
theorem PI.or{w1 w2:TI}(h1:PI X tg e w1)(h2:PI X tg e w2):PI X tg e (λσ H R=>w1 σ H R\/w2 σ H R):=λz6 s σ H R I q=>by
 rcases q with q|q
 ·exact h1 z6 s σ H R I q
 ·exact h2 z6 s σ H R I q
theorem uG(h:SE X e f):SI X tg e (vY f):=by
 obtain⟨t,p,k⟩:=h.h;refine⟨⟨_,PI.or (SK p) (PI.or (SN p) (SM p)),λ{G0 H0 G H τ σ ds R} K hf q=>?_⟩⟩;obtain⟨d,hd,hf⟩:=zD hf;cases d<;>first|cases hf|skip
 ·rename_i z;refine .inr (.inr (k K hd λv G' H' x r=>?_));obtain⟨rfl,l⟩:=r;exact⟨z,rfl,q _ _ _ x (by rw[zm,kW]; exact l) bg⟩
 ·refine .inr (.inl (k K hd λv G' H' x r=>?_));obtain⟨a,vs,rfl,sq,rs,l⟩:=r;exact⟨a,rfl,⟨vs,uH x.gh sq⟩,q _ _ _ x l (dA sq rs)⟩
 ·refine .inl (k K hd λv G' H' x r=>?_);obtain⟨a,vs,rfl,sq,rs,l⟩:=r;exact⟨a,rfl,⟨vs,vf x.gh sq⟩,q _ _ _ x l (N6 sq rs)⟩
end
def OP(K:W.Frag)(n:Nat)(f:FE):TE:=λσ H Q=>∃G0 H0 G τ d,zn K n G0 H0 G H τ σ/\f τ=some d/\∀v G' H',zN G H G' H'->zS K G' d v->Q v H'
def TU(K:W.Frag)(n:Nat)(f:FT):TT:=λσ H Q=>∃G0 H0 G τ d,zn K n G0 H0 G H τ σ/\f τ=some d/\∀G' H',zN G H G' H'->Q d H'
structure Yx(X:Cx)(es:List Expr)(f:FT):Prop where
 h:ga X es (TU X.K X.N.length f)
section
variable{X:Cx}{e c:Expr}{f:FE}{ft:FT}
theorem SE.pe(h:SE X e f):PE X e (OP X.K X.N.length f):=λz6 s σ H Q I q=>by
 obtain⟨t,p,k⟩:=h.h;obtain⟨G0,H0,G,τ,d,K,hf,z⟩:=q;exact p z6 s σ H Q I (k K hf z)
theorem ST.pt(h:ST X e ft):PT X e (TU X.K X.N.length ft):=λz6 s σ H Q I q=>by
 obtain⟨t,p,k⟩:=h.h;obtain⟨G0,H0,G,τ,d,K,hf,z⟩:=q;exact p z6 s σ H Q I (k K hf z)
theorem qS:Yx X [] xS:=⟨λz6 s σ H Q I q=>by
 obtain⟨G0,H0,G,τ,d,K,hf,z⟩:=q;cases hf;exact Sj z6 s σ H Q I (z _ _ (zN.refl K.ext.gh))⟩
theorem OI(h:ST X c ft):Yx X [c] ft:=⟨Sk h.pt⟩
end
theorem zn.more{K:W.Frag}{n:Nat}{G0 H0 G H:Hp}{τ:zp}{σ:St}(k:Nat)(E:zn K n G0 H0 G H τ σ):zn K (n+k) G0 H0 G H (τ++List.replicate k none) (σ++List.replicate k none):=by
 have at_:∀{i:Nat}{s:Sl},(τ++List.replicate k none)[i]?=some (some s)->τ[i]?=some (some s)/\(σ++List.replicate k none)[i]?=σ[i]?:=λ{i s} h=>by
  have h':=UT h;have hi:i<n:=E.lt h';exact⟨h',py (by rw[E.l1]; exact hi)⟩
 refine⟨E.ext,by rw[yO,jv,E.l1],by rw[yO,jv,E.l2],λi d h=>?_,λi d h=>?_,λi j d e p hne h1 h2 h3 h4=>?_⟩
 ·obtain⟨h',e⟩:=at_ h;rw[e];exact E.fr i d h'
 ·obtain⟨h',e⟩:=at_ h;rw[e];exact E.ow i d h'
 ·obtain⟨h1',e1⟩:=at_ h1;obtain⟨h2',e2⟩:=at_ h2;rw[e1]at h3;rw[e2]at h4;exact E.ap i j d e p hne h1' h2' h3 h4
theorem Bg{K:PySem.W.Frag}{n k:Nat}{G0 H0 Ga Ha:Hp}{τ:zp}{σ:St}{J:It}{ds out:List D}{g:TG}{fg:FG}{ft:FT}{f:FE}{Fin:List V->Hp->Prop}(wk:jN K J Ga ds)(hl:ds.length<=sizeLine)(Ka:zn K n G0 H0 Ga Ha τ σ)
  (hf:xJ fg ft f (τ++List.replicate k none) ds=some out)
  (kg:∀G H d v τ' (Q:St->Hp->Prop),zn K (n+k) G0 H0 G H (τ++List.replicate k none) (σ++List.replicate k none)->zS K G d v->fg d (τ++List.replicate k none)=some τ'->(∀ρ,zn K (n+k) G0 H0 G H τ' (σ++ρ)->Q (σ++ρ) H)->g v (σ++List.replicate k none) H Q)
  (fin:∀ys G H,zN Ga Ha G H->Reps K G out ys->out.length<=sizeLine->Fin ys H) :
  ∃W:Nat->Nat->List V->Hp->Prop,(∃m,W 0 m [] Ha)/\Uo σ k J g (TU K (n+k) ft) (OP K (n+k) f) W Fin:=by
 refine⟨λi m ys H=>m=ds.length-i/\i<=ds.length/\ys.length<=i/\∃G done zf,zN Ga Ha G H/\Reps K G done ys/\xJ fg ft f (τ++List.replicate k none) (ds.drop i)=some zf/\done++zf=out,⟨ds.length,rfl,vy _,yF _,Ga,[],out,zN.refl Ka.ext.gh,rfl,hf,rfl⟩,?_⟩;rintro i m ys H ⟨rfl,hle,hys,G,done,zf,x,rd,hf,eo⟩;by_cases hlt:i<ds.length
 ·refine .inr ⟨wk.go i G H x.g x.gh hlt,by omega,λys H=>ys.length<=i+1/\∃G done zf,zN Ga Ha G H/\Reps K G done ys/\xJ fg ft f (τ++List.replicate k none) (ds.drop (i+1))=some zf/\done++zf=out,λys' H' z=>⟨ds.length-(i+1),by omega,rfl,hlt,z.1,z.2⟩,λv H' y=>?_⟩;obtain⟨G3,d,x3,ed,rv⟩:=wk.u3 i G H v H' x.g x.gh hlt y;rw[kY hlt]at hf;rw[xD hlt]at ed;cases ed;obtain⟨τ1,h1,hf⟩:=zD (show(fg _ _).bind _=_ from hf);obtain⟨kk,h2,hf⟩:=zD hf;have K3:=((Ka.go x).go x3).more k;refine kg G3 H' _ v τ1 _ K3 rv h1 λρ K4=>⟨⟨ρ,rfl⟩,_,_,_,_,kk,K4,h2,λG5 H5 x5=>?_⟩
  cases kk with
  |false=>exact pI ⟨by omega,G5,done,zf,x.trans (x3.trans x5),rd.mono (x3.g.trans x5.g),hf,eo⟩
  |true=>
   obtain⟨z,hz,hf⟩:=zD (show(f _).bind _=_ from hf);obtain⟨more,hm,hf⟩:=zD hf;cases hf;refine pJ ⟨_,_,_,_,z,K4.go x5,hz,λu G6 H6 x6 r6=>⟨by rw[yO]; exact kh hys,G6,done++[z],more,x.trans (x3.trans (x5.trans x6)),(rd.mono (x3.g.trans (x5.g.trans x6.g))).append (Reps.one r6),hm,?_⟩⟩;rw[Tp];exact eo
 ·have e:ds.drop i=[]:=E6 (by omega);rw[e]at hf;cases hf;rw[ub]at eo;subst eo;refine .inl ⟨wk.stop i G H x.g x.gh (by omega),fin ys G H x rd ?_⟩;rw[<-rd.length];omega
section
variable{X:Cx}{tg iter elt:Expr}{ifs:List Expr}{scope:Scope}{cl:List (Str×Addr)}{own:List Str}{pos:Pos}{fs:FA}{fg:FG}{ft:FT}{f:FE}{g:TG}
theorem OE{α:Type}(xs:List α)(y:α)(ys:List α){n:Nat}(h:n=xs.length)(z:α):(xs++y::ys).set n z=xs++z::ys:=by
 subst h;rw[EH _ _ (yF _),V0];rfl
structure BG(X:Cx)(scope:Scope)(cl:List (Str×Addr))(own:List Str)(tg:Expr)(g:TG)(fg:FG):Prop where
 q:∀C s H fp pn,QG (wE X scope cl own C s H fp pn) tg g
 k:∀{G0 H0:Hp}{τ:zp}{σ:St},τ.length=X.N.length->σ.length=X.N.length->∀G H d v τ' (Q:St->Hp->Prop),zn X.K (X.N.length+own.length) G0 H0 G H (τ++List.replicate own.length none) (σ++List.replicate own.length none)->zS X.K G d v->fg d (τ++List.replicate own.length none)=some τ'->
  (∀ρ,zn X.K (X.N.length+own.length) G0 H0 G H τ' (σ++ρ)->Q (σ++ρ) H)->g v (σ++List.replicate own.length none) H Q
theorem uk{x:Str}{i:Nat}(q:∀C s H fp pn,QG (wE X scope cl [x] C s H fp pn) tg (vt i))(hi:i=X.N.length):BG X scope cl [x] tg (vt i) (yK i):=⟨q,λ{G0 H0 τ σ} l1 l2 G H d v τ' Q E r hf k=>by
 cases hf;have E':=E.set (i:=i) (v:=v) (by rw[hi]; exact kf _) r;have es:(σ++List.replicate 1 none).set i (some v)=σ++[some v]:=OE σ none [] (hi.trans l2.symm) (some v);show Q ((σ++List.replicate 1 none).set i (some v)) H;rw[es];refine k [some v] ?_;rw[<-es];exact E'⟩
theorem E_{x y:Str}{i j:Nat}(q:∀C s H fp pn,QG (wE X scope cl [x,y] C s H fp pn) tg (ZX X.K 2 (qh (vt i) (qh (vt j) ZW))))(hi:i=X.N.length)(hj:j=X.N.length+1):BG X scope cl [x,y] tg (ZX X.K 2 (qh (vt i) (qh (vt j) ZW))) (qi i j):=⟨q,λ{G0 H0 τ σ} l1 l2 G H d v τ' Q E r hf k=>by
 unfold qi at hf
 split at hf
 ·rename_i d1 d2;cases hf;obtain⟨a,vs,rfl,sq,⟨v1,r1,rfl,h1,⟨v2,r2,rfl,h2,h3⟩⟩,_⟩:=r;cases(show r2=[]from h3);have E':=(E.set (i:=i) (v:=v1) (by rw[hi]; exact Nat.lt_add_of_pos_right (Nat.succ_pos _)) h1).set (i:=j) (v:=v2) (by rw[hj]; exact kf _) h2
  have es:((σ++List.replicate 2 none).set i (some v1)).set j (some v2)=σ++[some v1,some v2]:=by
   have e1:(σ++List.replicate 2 none).set i (some v1)=σ++[some v1,none]:=OE σ none [none] (hi.trans l2.symm) (some v1);rw[e1];have e2:σ++[some v1,none]=(σ++[some v1])++[none]:=by simp
   rw[e2,OE (σ++[some v1]) none [] (by rw[yO,hj,l2]; rfl) (some v2)];simp
  refine⟨a,_,rfl,uH E.ext.gh sq,rfl,v1,_,rfl,v2,_,rfl,rfl,?_⟩;show Q (((σ++List.replicate 2 none).set i (some v1)).set j (some v2)) H;rw[es];refine k [some v1,some v2] ?_;rw[<-es];exact E'
 ·cases hf⟩
theorem MQ(X:Cx)(own:List Str):(vD X.N own).length=X.N.length+own.length:=by
 unfold vD;rw[yO,zm]
theorem MV{C:Addr}{s:Shared}{H:Hp}{fp:List Addr}{pn:List (Addr×Obj)}(h:SE (wE X scope cl own C s H fp pn) elt f):PE (wE X scope cl own C s H fp pn) elt (OP X.K (X.N.length+own.length) f):=by
 have q:=h.pe;rw[show(wE X scope cl own C s H fp pn).N.length=X.N.length+own.length from MQ X own]at q;exact q
theorem MX{C:Addr}{s:Shared}{H:Hp}{fp:List Addr}{pn:List (Addr×Obj)}(h:Yx (wE X scope cl own C s H fp pn) ifs ft):ga (wE X scope cl own C s H fp pn) ifs (TU X.K (X.N.length+own.length) ft):=by
 have q:=h.h;rw[show(wE X scope cl own C s H fp pn).N.length=X.N.length+own.length from MQ X own]at q;exact q
theorem t6(hcalm:X.calm=true)(B:Z3 X scope cl own)(hi:SI X tg iter fs)(hg:BG X scope cl own tg g fg)(hc:∀C s H fp pn,Yx (wE X scope cl own C s H fp pn) ifs ft)
  (he:∀C s H fp pn,SE (wE X scope cl own C s H fp pn) elt f)(hs:∀x,foldedSetIterable iter X.env x=pure x:=by intro _; rfl) :
  SF X (.ListComp elt [⟨tg,iter,ifs,0⟩] scope pos) (vU own.length fs fg ft f):=by
 obtain⟨ti,pi,ki⟩:=hi.h;refine⟨⟨_,Ry hcalm B pi (λC s H fp pn=>(hg.q C s H fp pn).h) (λC s H fp pn=>MX (hc C s H fp pn)) (λC s H fp pn=>MV (he C s H fp pn)) hs,λ{G0 H0 G H τ σ d Q} K hf q=>?_⟩⟩;obtain⟨ds,hd,hf⟩:=zD hf;obtain⟨out,ho,hf⟩:=zD hf;cases hf;refine ki K hd λJ Ga Ha xa l wk=>Bg wk l (K.go xa) ho (hg.k K.l2 K.l1) λys G1 H1 x1 r1 l1 p hp=>?_
 exact q p _ _ (xa.trans (x1.trans (zN.tF x1.gh hp))) (xa.h.free (x1.h.free hp)) (x1.gh.free hp) ⟨ys,yi,r1,l1⟩
theorem bX{i:Nat}{x:Str}{px spos:Pos}(hcalm:X.calm=true)(hN:X.N.Nodup)(hix:X.N[i]?=some x)(hx:X.env.scope.names.lookup x=some .local)(B:Z3 X scope cl own)
  (hsw:swapsWith (.ListComp elt [⟨tg,iter,ifs,0⟩] scope pos) (some (.Name x px)) spos.line X.env=pure true)(hi:SI X tg iter fs)(hg:BG X scope cl own tg g fg)(hc:∀C s H fp pn,Yx (wE X scope cl own C s H fp pn) ifs ft)
  (he:∀C s H fp pn,SE (wE X scope cl own C s H fp pn) elt f)(hs:∀x,foldedSetIterable iter X.env x=pure x:=by intro _; rfl) :
  SS X (.Assign [.Name x px] (.ListComp elt [⟨tg,iter,ifs,0⟩] scope pos) spos) (w8 i (vU own.length fs fg ft f)):=by
 obtain⟨ti,pi,ki⟩:=hi.h;refine⟨⟨_,Sf hcalm hN hix hx B hsw pi (λC s H fp pn=>(hg.q C s H fp pn).h) (λC s H fp pn=>MX (hc C s H fp pn)) (λC s H fp pn=>MV (he C s H fp pn)) hs,λ{G0 H0 G H τ σ fl E} K hf q=>?_⟩⟩;obtain⟨d,hf1,hf⟩:=zD hf;cases hf;obtain⟨ds,hd,hf1⟩:=zD hf1;obtain⟨out,ho,hf1⟩:=zD hf1;cases hf1;refine ki K hd λJ Ga Ha xa l wk=>Bg wk l (K.go xa) ho (hg.k K.l2 K.l1) λys G1 H1 x1 r1 l1 p hp=>?_
 have K2:=((K.go xa).go x1).go (zN.lay (o:=.lst ys) x1.gh hp);exact q _ _ _ (K2.set (yA.mp hix).1 ⟨p,ys,rfl,yJ.of yi,r1.mono (wn (x1.gh.free hp) _),l1⟩)
end
section
variable{K:W.Frag}{n:Nat}{G0 H0 G H:Hp}{τ:zp}{σ:St}
theorem zn.LU{i:Nat}{d d':D}{p:Addr}{o:HO}(E:zn K n G0 H0 G H τ σ)(hi:τ[i]?=some (some (true,d)))(hp:σ[i]?=some (some (.ref p)))(new:wY K G (zT H p o) d' p):zn K n G0 H0 G (zT H p o) (τ.set i (some (true,d'))) σ:=by
 obtain⟨p',e,g,z,_⟩:=E.ow i d hi;rw[hp]at e;cases e
 have keep:∀{H1:Hp},H1 p=none->zb H1 H->zb H1 (zT H p o):=λ{H1} h s b u q=>by
  rw[yH (uB q h)];exact s _ _ q
 refine⟨⟨E.ext.g,keep z E.ext.h,keep g E.ext.gh,E.ext.new⟩,E.l1,by rw[vO]; exact E.l2,λj e h=>?_,λj e h=>?_,λj k e f q hne h1 h2 h3 h4=>?_⟩
 ·rcases wV h with⟨rfl,w⟩|⟨ne,w⟩
  ·cases w
  ·exact E.fr j e w
 ·rcases wV h with⟨rfl,w⟩|⟨ne,w⟩
  ·cases w;exact⟨p,hp,g,z,new⟩
  ·obtain⟨q,eq,gq,zq,oq⟩:=E.ow j e w;refine⟨q,eq,gq,zq,?_⟩
   have hne:q≠p:=λc=>by
    subst c;exact E.ap i j d e q (λc=>ne c.symm) hi w hp eq
   cases e with
   |lst ds=>obtain⟨vs,ev,r⟩:=oq; exact⟨vs,by rw[yH hne]; exact ev,r⟩
   |dic ks ds=>obtain⟨vs,ev,r⟩:=oq; exact⟨vs,by rw[yH hne]; exact ev,r⟩
   |_=>exact oq.elim
 ·have t:∀{j:Nat}{e:D},(τ.set i (some (true,d')))[j]?=some (some (true,e))->∃e,τ[j]?=some (some (true,e)):=λ{j e} h=>by
   rcases wV h with⟨rfl,_⟩|⟨_,w⟩
   ·exact⟨_,hi⟩
   ·exact⟨_,w⟩
  obtain⟨e1,w1⟩:=t h1;obtain⟨e2,w2⟩:=t h2;exact E.ap j k e1 e2 q hne w1 w2 h3 h4
end
section
variable{X:Cx}{x:Str}{xp pos apos cpos:Pos}{e:Expr}{f:FE}
theorem CI{i:Nat}(ho:QE X (.Name x xp) (TV i))(he:SE X e f)(hbase:attributeBase (.Name x xp) "append" X.env (eval (.Name x xp) X.env)=eval (.Name x xp) X.env:=by rfl)(hline:(apos.endLine==cpos.line)=true:=by rfl)(hs:yZ e=true:=by rfl) :
  SS X (.Expr (.Call (.Attribute (.Name x xp) "append" apos) [e] [] cpos) pos) (Xc i X8 f):=by
 obtain⟨t,p,k⟩:=(zB he zP hs).h;refine⟨⟨_,(Sx (Ss PySem.F.plainAttrs_list PySem.F.slot_list_append PySem.F.type_list_append NY ho ⟨p⟩ hbase hline (by rw[xf,hs]; rfl) (by show 1<30; decide)) rfl).h,λ{G0 H0 G H τ σ fl E} K hf q=>?_⟩⟩;unfold Xc at hf
 split at hf
 ·rename_i d hd;obtain⟨y,hy,hf⟩:=zD hf;obtain⟨d',hd',hf⟩:=zD hf;cases hf;obtain⟨a,ea,g,z,o⟩:=K.ow _ _ hd;cases d with
  |lst ds=>
   obtain⟨vs,ev,rs,l⟩:=o;refine⟨_,ea,.inl ⟨rfl,vs,yJ.of ev⟩,k K (ds:=[y]) (by unfold zA; rw[hy]; rfl) λus G1 H1 x1 r1=>?_⟩;obtain⟨u,r,rfl,hu,hr⟩:=r1;cases(show r=[]from hr)
   change (if ds.length<yY then some (D.lst (ds++[y]))else none)=some d' at hd'
   by_cases c:ds.length<yY
   ·rw[zM c]at hd';cases hd';refine⟨a,vs,u,rfl,rfl,x1.h _ _ ev,by rw[rs.length,xi]; exact c,?_⟩;refine q _ _ _ ((K.go x1).LU hd ea ⟨vs++[u],yi,(rs.mono x1.g).append (Reps.one hu),?_⟩);rw[yO,xi];exact c
   ·rw[zO c]at hd';cases hd'
  |_=>cases hd'
 ·cases hf
end
section
variable{P:Program}{w:World}{K:W.Frag}{mg:Str->Option Value}{base:Heap}
theorem Uu{α β:Type}{ds:List α}{k i:Nat}{h:α->Option β}{y:β}(e:(ds.map h++List.replicate k none)[i]?=some (some y)):∃d,ds[i]?=some d/\h d=some y:=by
 have e':=UT e;rw[vN]at e';cases q:ds[i]? with
 |none=>rw[q]at e'; cases e'
 |some d=>
  rw[q]at e';exact⟨d,rfl,ue e'⟩
theorem J8{N:List Str}{G H:Hp}{ds:List D}{vs:List V}(s:zb G H)(r:Reps K G ds vs)(hl:ds.length<=N.length):zn K N.length G H G H (ds.map (λd=>some (false,d))++List.replicate (N.length-ds.length) none) (L2.start N vs):=by
 have l:=r.length;refine⟨zN.refl s,?_,?_,λi d h=>?_,λi d h=>?_,λi j d e p _ h1=>?_⟩
 ·unfold L2.start;rw[yO,zm,jv];omega
 ·rw[yO,zm,jv];omega
 ·obtain⟨d',e,z⟩:=Uu h;cases z;obtain⟨v,ev,rv⟩:=r.get e;refine⟨v,?_,rv⟩;unfold L2.start;rw[py (by rw[zm]; exact(yA.mp ev).1),vN,ev];rfl
 ·obtain⟨d',e,z⟩:=Uu h;cases z
 ·obtain⟨d',e,z⟩:=Uu h1;cases z
theorem zF.yn{x:Str}{st:Stmt}{N ps:List Str}{k:Nat}{F:List D->Option (Bool×D)}{b:FS}(d:zF K mg x st ps)(S:zi N ps (zQ st))(hN:ps.length<=N.length)(hF:∀ds r,F ds=some r->ds.length=ps.length/\zg N.length b ds=some r)
  (hb:∀(f:Addr)(cdv:Value)(A:Around)(outer:List Env)(s:Shared)(H:Hp)(E:XK),yI k (A.deeper (envOfC x (zQ st) s.heap.objs.size f cdv))->uj (um yo P w K mg base N x (zQ st) f cdv A outer s H E).tH (yS st) b):zJ P w K mg base x ps (k+1) (zR K F):=by
 refine d.ok S (λvs H Q E h=>?_) λf cdv A outer s H vs Q E hr h=>?_
 ·obtain⟨G,ds,o,dd,_,r,e,_⟩:=h;rw[r.length,(hF _ _ e).1]
 ·obtain⟨G,ds,o,dd,s',r,e,q⟩:=h;obtain⟨l,hrun⟩:=hF _ _ e;obtain⟨t,p,kt⟩:=(hb f cdv A outer s H E hr).h;obtain⟨fl,hfl,hrun⟩:=zD hrun;refine⟨t,p,kt (J8 (N:=N) s' r (by omega)) hfl ?_⟩;cases fl with
  |nx τ=>
   cases hrun;exact λσ G' H' z=>q .zG G' H' z.ext rfl
  |rt o' d'=>
   cases hrun;cases o with
   |false=>exact q
   |true=>exact q
  |_=>cases hrun
end
section
variable{P:Program}{w:World}{K:W.Frag}{mg:Str->Option Value}{base:Heap}
end
section
variable{X:Cx}{K:W.Frag}
theorem kE{C:Int->Int->Prop}{Cb:Int->Int->Bool}{g:Int->Int->Int}(h:∀i j,Cb i j=true->C i j):vC K (rI C λi j=>.int (g i j)) (fI Cb g):=λG H x y u v d Q s rx ry hf q=>by
 cases x<;>first|(cases hf; done)|skip
 cases y<;>first|(cases hf; done)|skip
 rename_i i j
 change (match Cb i j with|true=>some (D.int (g i j))|false=>none)=some d at hf
 cases c:Cb i j with
 |false=>rw[c]at hf; cases hf
 |true=>
  rw[c]at hf;cases hf;exact⟨i,j,rx,ry,h i j c,q _ _ _ (zN.refl s) rfl⟩
theorem Z_{g:Int->Int->Int}:vC K (uE λi j=>.int (g i j)) (tT g):=λG H x y u v d Q s rx ry hf q=>by
 cases x<;>first|(cases hf; done)|skip
 cases y<;>first|(cases hf; done)|skip
 cases hf;exact⟨_,_,rx,ry,q _ _ _ (zN.refl s) rfl⟩
theorem Y2:vC K (uE λi j=>.int (i-j)) pC:=λG H x y u v d Q s rx ry hf q=>by
 cases x<;>first|(cases hf; done)|skip
 cases y<;>first|(cases hf; done)|skip
 cases hf;exact⟨_,_,rx,ry,q _ _ _ (zN.refl s) rfl⟩
theorem Bm{i:Int}(h:vZ i=true) : -(2 ^ 64)<i/\i<2 ^ 64:=by
 unfold vZ at h;rw[yD]at h;exact⟨xE h.1,xE h.2⟩
theorem qP:vC K (rI Yk λi j=>.int (i*j)) uo:=kE λ_ _ h=>.inl (Bm h)
theorem Ie:vC K (rI Yk λi j=>.int (i*j)) XA:=kE λ_ _ h=>.inr (Bm h)
theorem xX:vC K (rI (λ_ j=>0<j) λi j=>.int (i%j)) xN:=kE λ_ _ h=>xE h
theorem IZ:vC K (rI (λ_ j=>0<j/\j<2 ^ 64) λi j=>.int (i/j)) ZU:=kE λ_ _ h=>by
 rw[yD]at h;exact⟨xE h.1,xE h.2⟩
theorem SX{i j:Int}(h:tZ i j=true):Q9 i j:=by
 unfold tZ at h;rw[yD,yD]at h;exact⟨xE h.1,xE h.2.1,xE h.2.2⟩
theorem kF:vC K (rI Q9 λi j=>.int (i*2 ^ j.toNat)) vX:=kE λ_ _ h=>SX h
theorem Dc:vC K (rI (λ_ j=>0<=j) λi j=>.int (i/2 ^ j.toNat)) XB:=kE λ_ _ h=>xE h
theorem Y0{g:Int->Int->Bool}:ui K (uE λi j=>.bl (g i j)) (jT g):=λH x y u v d Q rx ry hf=>by
 cases x<;>first|(cases hf; done)|skip
 cases y<;>first|(cases hf; done)|skip
 cases hf;exact⟨_,rfl,λq=>⟨_,_,rx,ry,q⟩⟩
theorem BT{H:Hp}{x:D}{u:V}(r:zS K H x u):Zo x=decide (u=.zG):=by
 cases x with
 |zG=>cases r; rfl
 |bl b=>cases r; rfl
 |int b=>cases r; rfl
 |str b=>obtain⟨rfl,_⟩:=r; rfl
 |tup b=>obtain⟨a,vs,rfl,_⟩:=r; rfl
 |lst b=>obtain⟨a,vs,rfl,_⟩:=r; rfl
 |dic b c=>obtain⟨a,vs,rfl,_⟩:=r; rfl
 |exc b=>obtain⟨a,C,rfl,_⟩:=r; rfl
 |obj b c e=>obtain⟨a,C,dx,vs,rfl,_⟩:=r; rfl
theorem DY:ui K (λx y H Q=>y=.zG/\Q (.bl (decide (x=.zG))) H) UH:=λH x y u v d Q rx ry hf=>by
 cases y<;>first|(cases hf; done)|skip
 have e:=BT rx;refine⟨Zo x,(ue hf).symm,λq=>⟨ry,?_⟩⟩;rw[<-e];exact q
theorem R0:ui K (λx y H Q=>y=.zG/\Q (.bl (!decide (x=.zG))) H) JH:=λH x y u v d Q rx ry hf=>by
 cases y<;>first|(cases hf; done)|skip
 have e:=BT rx;refine⟨!Zo x,(ue hf).symm,λq=>⟨ry,?_⟩⟩;rw[<-e];exact q
theorem db:∀(G H:Hp) x u d (Q:VK),zS K G x u->JG x=some d->∃w,(∀G,zS K G d w)/\(Q w H->rU (λi=>.int (-i)) u H Q):=λG H x u d Q r hf=>by
 cases x<;>first|(cases hf; done)|skip
 cases hf;exact⟨_,λ_=>rfl,λq=>⟨_,r,q⟩⟩
theorem da:∀(G H:Hp) x u d (Q:VK),zS K G x u->B2 x=some d->∃w,(∀G,zS K G d w)/\(Q w H->rU (λi=>.int (Builtin.bitNot i)) u H Q):=λG H x u d Q r hf=>by
 cases x<;>first|(cases hf; done)|skip
 cases hf;exact⟨_,λ_=>rfl,λq=>⟨_,r,q⟩⟩
def Fb(K:W.Frag):R2:=λx y H Q=>∃l b xs zs,x=.ref l/\y=.ref b/\yJ K H l xs/\yJ K H b zs/\xs.length+zs.length<=sizeLine/\∀p,H p=none->Q (.ref p) (zT H p (.lst (xs++zs)))
theorem RJ:yB X (binaryOp .Add) (Fb X.K):=by
 intro z6 s σ H x y v u Q I rx ry h;obtain⟨l,b,xs,zs,rfl,rfl,hl,hb,hz,q⟩:=h;cases rx;cases ry;obtain⟨its,r1,p1,_⟩:=I.list hl;obtain⟨its2,r2,p2,_⟩:=I.list hb;obtain⟨⟨c1,d1,t1,sl1⟩,n1,ho1,hc1,hd1,ht1⟩:=p1;obtain⟨⟨c2,d2,t2,sl2⟩,n2,ho2,hc2,hd2,ht2⟩:=p2;simp only at hc1 ht1 hc2 ht2;subst hc1 ht1 hc2 ht2
 refine concat_meets ⟨_,ho1,rfl⟩ ⟨_,ho2,rfl⟩ noFill_list_add seq_list_add PySem.F.slot_list_add PySem.F.entry_list_add (PySem.F.args_list_add_2 _ _)
  (list_addW l b its.toArray its2.toArray n1 n2 d1 d2 sl1 sl2 (by rw[ym,ym,<-r1.length,<-r2.length]; exact hz)) ⟨ho1,ho2,?_⟩
 rw[show its.toArray++its2.toArray=(its++its2).toArray by simp];exact⟨.ref _,_,I.LR (t':=s.toks) (r1.append r2) (by rw[yO]; exact hz),rfl,q _ I.fresh⟩
def FZ(K:W.Frag):R2:=λx y H Q=>uE (λi j=>.int (i+j)) x y H Q\/(∃i k,x=.int i/\y=.bl k/\Q (.int (i+b2i k)) H)\/(∃i j,x=.str i/\y=.str j/\i.length+j.length<=sizeLine/\Q (.str (i++j)) H)\/Fb K x y H Q\/Fc K x y H Q
theorem xn:yB X (binaryOp .Add) (FZ X.K):=RG.or (RH.or (RI.or (RJ.or RL)))
theorem xm:vC K (FZ K) yq:=λG H x y u v d Q s rx ry hf q=>by
 cases x<;>cases y<;>first|(cases hf; done)|skip
 ·rename_i i b;cases rx;cases ry;cases hf;refine .inr (.inl ⟨i,b,rfl,rfl,?_⟩);have e:i+b2i b=i+(if b then 1 else 0):=by cases b<;>rfl
  rw[e];exact q _ _ _ (zN.refl s) rfl
 ·cases hf;exact .inl ⟨_,_,rx,ry,q _ _ _ (zN.refl s) rfl⟩
 ·rename_i i j;obtain⟨rfl,l1⟩:=rx;obtain⟨rfl,l2⟩:=ry
  change (if i.length+j.length<=yY then _ else _)=_ at hf
  by_cases c:i.length+j.length<=yY
  ·rw[zM c]at hf;cases hf;have c':i.length+j.length<=sizeLine:=by rw[xi]; exact c
   exact .inr (.inr (.inl ⟨i,j,rfl,rfl,c',q _ _ _ (zN.refl s) ⟨rfl,by rw[Yd]; exact c'⟩⟩))
  ·rw[zO c]at hf;cases hf
 ·rename_i xs ys;obtain⟨a,vs,rfl,sa,ra,_⟩:=rx;obtain⟨b,us,rfl,sb,rb,_⟩:=ry
  change (if xs.isEmpty=false/\xs.length+ys.length<=yY then _ else _)=_ at hf
  by_cases c0:xs.isEmpty=false/\xs.length+ys.length<=yY
  ·rw[zM c0]at hf;have c:=c0.2;cases hf;have c':(xs++ys).length<=sizeLine:=by rw[xi,yO]; exact c
   have hx:vs≠[]:=λe=>by
    have l:=ra.length;rw[e]at l;cases xs with
    |nil=>cases c0.1
    |cons=>cases l
   ·refine .inr (.inr (.inr (.inr ⟨a,b,vs,us,rfl,rfl,uH s sa,uH s sb,hx,by rw[ra.length,rb.length,xi]; exact c,λe=>?_,λe p hp=>?_⟩)))
    ·subst e
     have e2:ys=[]:=by
      cases ys with
      |nil=>rfl
      |cons=>obtain⟨_,_,z,_⟩:=rb; cases z
     subst e2;exact q _ _ _ (zN.refl s) ⟨a,vs,rfl,sa,by rw[ub]; exact ra,c'⟩
    ·exact q _ _ _ (zN.lay s hp) ⟨p,vs++us,rfl,yb.of yi,(ra.append rb).mono (wn (s.free hp) _),c'⟩
  ·rw[zO c0]at hf;cases hf
 ·rename_i xs ys;obtain⟨a,vs,rfl,sa,ra,_⟩:=rx;obtain⟨b,us,rfl,sb,rb,_⟩:=ry
  change (if xs.length+ys.length<=yY then _ else _)=_ at hf
  by_cases c:xs.length+ys.length<=yY
  ·rw[zM c]at hf;cases hf;have c':(xs++ys).length<=sizeLine:=by rw[xi,yO]; exact c
   refine .inr (.inr (.inr (.inl ⟨a,b,vs,us,rfl,rfl,vf s sa,vf s sb,by rw[ra.length,rb.length,xi]; exact c,λp hp=>?_⟩)));exact q _ _ _ (zN.lay s hp) ⟨p,vs++us,rfl,yJ.of yi,(ra.append rb).mono (wn (s.free hp) _),c'⟩
  ·rw[zO c]at hf;cases hf
theorem En{α:Type}{xs:List α}{i:Int}{x:α}(h:tP xs i=some x):∃j:Nat,xs[j]?=some x/\∀{β:Type}(ys:List β),ys.length=xs.length->tP ys i=ys[j]?:=by
 unfold tP at h;cases e:ixN xs.length i with
 |none=>rw[e]at h; cases h
 |some j=>
  rw[e]at h;exact⟨j,h,λys l=>by unfold tP; rw[l,e]; rfl⟩
theorem Ly{α:Type}(xs:List α)(i:Int):tP xs i=vT xs i:=by
 unfold tP vT ixN;by_cases h:0<=i
 ·rw[zM h,zM h];by_cases h2:i<xs.length
  ·rw[zM h2]; rfl
  ·rw[zO h2];exact(Wq (by omega)).symm
 ·rw[zO h,zO h]
  split<;>rfl
theorem Fp{H:Hp}{ds:List D}{vs:List V}{i:Int}{d:D}(r:Reps K H ds vs)(h:vT ds i=some d):∃v,tP vs i=some v/\zS K H d v:=by
 rw[<-Ly]at h;obtain⟨j,e,k⟩:=En h;obtain⟨v,ev,rv⟩:=r.get e;exact⟨v,by rw[k vs r.length]; exact ev,rv⟩
def Gx:D->D->Option D
 |.lst xs,.int i=>vT xs i
 |.tup xs,.int i=>vT xs i
 |.str z,.int i=>(vT z.cps.toList i).bind λc=>some (.str ⟨#[c]⟩)
 |_,_=>none
theorem Ic:vC K (O0 K) Gx:=λG H x y u v d Q s rx ry hf q=>by
 cases x<;>first|(cases hf; done)|skip
 all_goals (cases y<;>first|(cases hf; done)|skip)
 ·rename_i z i;obtain⟨rfl,l⟩:=rx;cases ry;obtain⟨c,hc,hf⟩:=zD hf;cases hf;rw[<-Ly]at hc;exact .inr (.inr ⟨z,i,c,rfl,rfl,l,hc,q _ _ _ (zN.refl s) ⟨rfl,vL (n:=1) (by decide)⟩⟩)
 ·rename_i xs i;obtain⟨a,vs,rfl,sa,ra,_⟩:=rx;cases ry;obtain⟨w,hw,rw_⟩:=Fp ra hf;exact .inr (.inl ⟨a,vs,i,w,rfl,rfl,uH s sa,hw,q _ _ _ (zN.refl s) rw_⟩)
 ·rename_i xs i;obtain⟨a,vs,rfl,sa,ra,_⟩:=rx;cases ry;obtain⟨w,hw,rw_⟩:=Fp ra hf;exact .inl ⟨a,vs,i,w,rfl,rfl,vf s sa,hw,q _ _ _ (zN.refl s) rw_⟩
theorem U6:xU X (.builtin "len") (λxs H Q=>(∃p ys,xs=[.ref p]/\(yJ X.K H p ys\/yb X.K H p ys)/\Q (.int ys.length) H)\/∃z,xs=[.str z]/\z.length<=sizeLine/\Q (.int z.length) H):=GR.or GS
theorem Uy:qc K (λxs H Q=>(∃p ys,xs=[.ref p]/\(yJ K H p ys\/yb K H p ys)/\Q (.int ys.length) H)\/∃z,xs=[.str z]/\z.length<=sizeLine/\Q (.int z.length) H) gt:=λG H ds vs d Q s r hf q=>by
 match ds,hf with
 | [.lst xs],hf=>
  cases hf;obtain⟨v,r',rfl,⟨a,us,rfl,sq,ru,_⟩,h2⟩:=r;cases(show r'=[]from h2);exact .inl ⟨a,us,rfl,.inl sq,by rw[ru.length]; exact q _ _ _ (zN.refl s) rfl⟩
 | [.tup xs],hf=>
  cases hf;obtain⟨v,r',rfl,⟨a,us,rfl,sq,ru,_⟩,h2⟩:=r;cases(show r'=[]from h2);exact .inl ⟨a,us,rfl,.inr sq,by rw[ru.length]; exact q _ _ _ (zN.refl s) rfl⟩
 | [.str z],hf=>
  cases hf;obtain⟨v,r',rfl,⟨rfl,l⟩,h2⟩:=r;cases(show r'=[]from h2);exact .inr ⟨z,rfl,l,q _ _ _ (zN.refl s) rfl⟩
theorem Pw:qc K (λxs H Q=>∃i j,xs=[.int i,.int j]/\Q (.int (if j<i then j else i)) H) JF:=λG H ds vs d Q s r hf q=>by
 match ds,hf with
 | [.int i,.int j],hf=>
  cases hf;obtain⟨v,r',rfl,rfl,⟨v2,r2,rfl,rfl,h2⟩⟩:=r;cases(show r2=[]from h2);exact⟨i,j,rfl,q _ _ _ (zN.refl s) rfl⟩
theorem PV:qc K (λxs H Q=>(∃i,xs=[.int i]/\Q (.int i) H)\/∃k,xs=[.bl k]/\Q (.int (if k then 1 else 0)) H) UF:=λG H ds vs d Q s r hf q=>by
 match ds,hf with
 | [.int i],hf=>
  cases hf;obtain⟨v,r',rfl,rfl,h2⟩:=r;cases(show r'=[]from h2);exact .inl ⟨i,rfl,q _ _ _ (zN.refl s) rfl⟩
 | [.bl k],hf=>
  cases hf;obtain⟨v,r',rfl,rfl,h2⟩:=r;cases(show r'=[]from h2);exact .inr ⟨k,rfl,q _ _ _ (zN.refl s) rfl⟩
end
theorem Mo:∀xs ys:List D,(((List.range (min xs.length ys.length)).all λj=>xH (xs.getD j .zG) (ys.getD j .zG))&&xs.length==ys.length)=dEqs xs ys
 | [],[]=>rfl
 | [],_::_=>rfl
 |_::_,[]=>rfl
 |x::xs,y::ys=>by
  have ih:=Mo xs ys;show _=(xH x y&&dEqs xs ys);rw[<-ih,yP,yP,Nat.succ_min_succ,List.range_succ_eq_map,xf,List.all_map,Bool.and_assoc]
  congr 1
  congr 1
  rw[ju];simp
theorem Mi{f:D->D->Bool}:∀{xs ys:List D},ul f xs ys=true->∀(j:Nat) x y,xs[j]?=some x->ys[j]?=some y->f x y=true
 | [],_,_,j,x,y,e,_=>by cases e
 |x::xs,[],_,j,_,y,_,e=>by cases e
 |x::xs,y::ys,h,0,_,_,e1,e2=>by
  cases e1;cases e2;have h':(f x y&&ul f xs ys)=true:=h;rw[yD]at h';exact h'.1
 |x::xs,y::ys,h,j+1,a,b,e1,e2=>by
  have h':(f x y&&ul f xs ys)=true:=h;rw[yD]at h';exact Mi h'.2 j a b (by simpa using e1) (by simpa using e2)
section
variable{X:Cx}{z6:List (Addr×Obj)}{σ:St}{H:Hp}{s:Shared}{K:W.Frag}
theorem J9{n:Nat}(ih:∀d1 d2 v,wu n d1 d2=true->zS K H d1 v->zS K H d2 v->xH d1 d2=true):∀{xs ys:List D}{vs:List V},ul (wu n) xs ys=true->Reps K H xs vs->Reps K H ys vs->dEqs xs ys=true
 | [],[],_,_,_,_=>rfl
 | [],_::_,_,_,r1,r2=>by
  cases(show _=[]from r1);obtain⟨_,_,e,_⟩:=r2;cases e
 |_::_,[],_,_,r1,r2=>by
  cases(show _=[]from r2);obtain⟨_,_,e,_⟩:=r1;cases e
 |x::xs,y::ys,_,h,r1,r2=>by
  obtain⟨v,r,rfl,a,b⟩:=r1;obtain⟨v',r',e,a',b'⟩:=r2;cases e;have h':(wu n x y&&ul (wu n) xs ys)=true:=h;rw[yD]at h';show(xH x y&&dEqs xs ys)=true;rw[ih x y v h'.1 a a',J9 ih h'.2 b b'];rfl
theorem Qv{n:Nat}{x y:D}(h:wu (n+1) x y=true):(∃xs ys,x=.tup xs/\y=.tup ys/\ul (wu n) xs ys=true)\/(∃xs ys,x=.lst xs/\y=.lst ys/\ul (wu n) xs ys=true)\/(yz x=true/\yz y=true):=by
 unfold wu at h
 split at h
 ·exact .inl ⟨_,_,rfl,rfl,h⟩
 ·exact .inr (.inl ⟨_,_,rfl,rfl,h⟩)
 ·rw[yD]at h;exact .inr (.inr h)
theorem YG{d:D}{v:V}(h:yz d=true)(r:zS K H d v):qJ v=true:=by
 cases d<;>first|exact absurd h xT|skip
 ·cases(show v=_ from r); rfl
 ·cases(show v=_ from r); rfl
 ·cases(show v=_ from r); rfl
 ·cases(show v=_/\_ from r).1; rfl
theorem O4{d1 d2:D}{x y:V}(h1:yz d1=true)(h2:yz d2=true)(r1:zS K H d1 x)(r2:zS K H d2 y):tS x y=xH d1 d2:=by
 cases d1<;>first|exact absurd h1 xT|skip
 all_goals (cases d2<;>first|exact absurd h2 xT|skip)
 all_goals first
  |(cases(show x=_ from r1); cases(show y=_ from r2); rfl)
  |(cases(show x=_ from r1); cases(show y=_/\_ from r2).1; rfl)
  |(cases(show x=_/\_ from r1).1; cases(show y=_ from r2); rfl)
  |(cases(show x=_/\_ from r1).1; cases(show y=_/\_ from r2).1; rfl)
theorem UB(I:zC X z6 σ H s):∀(n:Nat)(d1 d2:D)(v:V),wu n d1 d2=true->zS X.K H d1 v->zS X.K H d2 v->xH d1 d2=true
 |0,_,_,_,h,_,_=>by cases h
 |n+1,d1,d2,v,h,r1,r2=>by
  rcases Qv h with⟨xs,ys,rfl,rfl,h⟩|⟨xs,ys,rfl,rfl,h⟩|⟨f1,f2⟩
  ·obtain⟨a,vs,rfl,s1,q1,_⟩:=r1;obtain⟨a',us,e,s2,q2,_⟩:=r2;cases e;cases I.Q7 s1 s2;exact J9 (λd1 d2 v=>UB I n d1 d2 v) h q1 q2
  ·obtain⟨a,vs,rfl,s1,q1,_⟩:=r1;obtain⟨a',us,e,s2,q2,_⟩:=r2;cases e;cases I.V9 s1 s2;exact J9 (λd1 d2 v=>UB I n d1 d2 v) h q1 q2
  ·rw[<-O4 f1 f2 r1 r2];exact Gv (YG f1 r1)
theorem B9{α:Type}{xs:List α}{j:Nat}{x d:α}(h:xs[j]?=some x):xs.getD j d=x:=by rw[qw,h]; rfl
theorem T7{A:Around}{n:Nat}{a c:Addr}{xs ys:List D}{vs us:List V}(I:zC X z6 σ H s)(hu:A.units<cLine)(hq:Lq X.K H a c vs us)(q1:Reps X.K H xs vs)(q2:Reps X.K H ys us)(h:ul (wu n) xs ys=true)
  (ih:∀(d1 d2:D)(x y:V)(u v:Value),wu n d1 d2=true->zS X.K H d1 x->zS X.K H d2 y->zc x u->zc y v->SeqAt.EqAt A.in1 s u v (xH d1 d2)):SeqAt.RcAt A s (.ref a) (.ref c) (dEqs xs ys)/\SeqAt.RcNeAt A s (.ref a) (.ref c) (!dEqs xs ys):=by
 have z:=A9 (A:=A) (e:=λj=>xH (xs.getD j .zG) (ys.getD j .zG)) I hu hq λj x' y' u' v' e1 e2 w1 w2=>by
  obtain⟨d1,g1,t1⟩:=q1.at e1;obtain⟨d2,g2,t2⟩:=q2.at e2;show SeqAt.EqAt A.in1 s u' v' (xH (xs.getD j .zG) (ys.getD j .zG));rw[B9 g1,B9 g2];exact ih d1 d2 x' y' u' v' (Mi h j d1 d2 g1 g2) t1 t2 w1 w2
 rw[q1.length,q2.length,Mo]at z;exact z
theorem UA(I:zC X z6 σ H s):∀(n:Nat)(A:Around)(d1 d2:D)(x y:V)(u v:Value),A.units+n<cLine->wu n d1 d2=true->zS X.K H d1 x->zS X.K H d2 y->zc x u->zc y v->SeqAt.EqAt A s u v (xH d1 d2)
 |0,_,_,_,_,_,_,_,_,h,_,_,_,_=>by cases h
 |n+1,A,d1,d2,x,y,u,v,hu,h,r1,r2,rx,ry=>by
  have h0:=h;have ra:=r1;have rb:=r2;rcases Qv h with⟨xs,ys,rfl,rfl,h⟩|⟨xs,ys,rfl,rfl,h⟩|⟨f1,f2⟩
  ·obtain⟨a,vs,rfl,s1,q1,l1⟩:=r1;obtain⟨c,us,rfl,s2,q2,l2⟩:=r2;cases(show u=Value.ref a from rx);cases(show v=Value.ref c from ry);by_cases hac:a=c
   ·subst hac;rw[UB I (n+1) _ _ _ h0 ra rb];exact LD _
   ·exact SeqAt.EqAt.of_refs hac (T7 I (by omega) (.inl ⟨s1,s2⟩) q1 q2 h λd1 d2 x y u v hh t1 t2 w1 w2=>UA I n A.in1 d1 d2 x y u v (by rw[Uc]; omega) hh t1 t2 w1 w2).1
  ·obtain⟨a,vs,rfl,s1,q1,l1⟩:=r1;obtain⟨c,us,rfl,s2,q2,l2⟩:=r2;cases(show u=Value.ref a from rx);cases(show v=Value.ref c from ry);by_cases hac:a=c
   ·subst hac;rw[UB I (n+1) _ _ _ h0 ra rb];exact LD _
   ·exact SeqAt.EqAt.of_refs hac (T7 I (by omega) (.inr ⟨s1,s2⟩) q1 q2 h λd1 d2 x y u v hh t1 t2 w1 w2=>UA I n A.in1 d1 d2 x y u v (by rw[Uc]; omega) hh t1 t2 w1 w2).1
  ·rw[<-O4 f1 f2 r1 r2];exact M_ rx ry (YG f1 r1) (YG f2 r2)
end
def T6(K:W.Frag)(neg:Bool):R2:=λx y H Q=>∃d1 d2 k,zS K H d1 x/\zS K H d2 y/\jU d1 d2=some k/\Q (.bl (if neg then !k else k)) H
theorem xP{A:Around}{k:Nat}(hr:yI k A):A.units+7<cLine:=L9 (EJ (by decide:7<=64) _) hr.units
section
variable{X:Cx}{K:W.Frag}
theorem JB{d1 d2:D}{k:Bool}(h:jU d1 d2=some k):wu 6 d1 d2=true/\k=xH d1 d2:=by
 unfold jU at h
 split at h
 ·cases h
 ·cases h
 ·split at h
  ·rename_i e;cases h;exact⟨e,rfl⟩
  ·cases h
theorem C6{H:Hp}{d1 d2:D}{x y:V}{k:Bool}(h:jU d1 d2=some k)(h1:yz d1=true)(h2:yz d2=true)(r1:zS K H d1 x)(r2:zS K H d2 y):OB x y=true/\decide (x=y)=k:=by
 obtain⟨_,e⟩:=JB h;subst e;cases d1<;>first|exact absurd h1 xT|skip
 all_goals (cases d2<;>first|exact absurd h2 xT|(cases h; done)|skip)
 all_goals first
  |(cases(show x=_ from r1); cases(show y=_ from r2); exact⟨rfl,by first|rfl|exact J2|exact J1⟩)
  |(cases(show x=_ from r1); cases(show y=_/\_ from r2).1; exact⟨rfl,rfl⟩)
  |(cases(show x=_/\_ from r1).1; cases(show y=_ from r2); exact⟨rfl,rfl⟩)
  |(cases(show x=_/\_ from r1).1; cases(show y=_/\_ from r2).1; exact⟨rfl,J3⟩)
theorem B0{z6:List (Addr×Obj)}{σ:St}{H:Hp}{s:Shared}{A:Around}{d1 d2:D}{x y:V}{u v:Value}(I:zC X z6 σ H s)(hu:A.units+7<cLine)(h:wu 6 d1 d2=true)(hf:¬ (yz d1&&yz d2)=true)(r1:zS X.K H d1 x)(r2:zS X.K H d2 y)(rx:zc x u)(ry:zc y v) :
  SeqAt.RcAt A s u v (xH d1 d2)/\SeqAt.RcNeAt A s u v (!xH d1 d2):=by
 rcases Qv h with⟨xs,ys,rfl,rfl,h⟩|⟨xs,ys,rfl,rfl,h⟩|⟨f1,f2⟩
 ·obtain⟨a,vs,rfl,s1,q1,l1⟩:=r1;obtain⟨c,us,rfl,s2,q2,l2⟩:=r2;cases(show u=Value.ref a from rx);cases(show v=Value.ref c from ry);exact T7 I (by omega) (.inl ⟨s1,s2⟩) q1 q2 h λd1 d2 x y u v hh t1 t2 w1 w2=>UA I 5 A.in1 d1 d2 x y u v (by rw[Uc]; omega) hh t1 t2 w1 w2
 ·obtain⟨a,vs,rfl,s1,q1,l1⟩:=r1;obtain⟨c,us,rfl,s2,q2,l2⟩:=r2;cases(show u=Value.ref a from rx);cases(show v=Value.ref c from ry);exact T7 I (by omega) (.inr ⟨s1,s2⟩) q1 q2 h λd1 d2 x y u v hh t1 t2 w1 w2=>UA I 5 A.in1 d1 d2 x y u v (by rw[Uc]; omega) hh t1 t2 w1 w2
 ·exact absurd (by rw[f1,f2]; rfl) hf
theorem wT(hu:X.A.units+7<cLine):yB X (compareOp .Eq) (T6 X.K false):=by
 intro z6 s σ H x y v u Q I rx ry h;obtain⟨d1,d2,k,r1,r2,hk,q⟩:=h;by_cases hf:(yz d1&&yz d2)=true
 ·have hf':=hf;rw[yD]at hf';obtain⟨a,b⟩:=C6 hk hf'.1 hf'.2 r1 r2;exact RM z6 s σ H x y v u Q I rx ry ⟨a,by rw[b]; exact q⟩
 ·obtain⟨hc,rfl⟩:=JB hk;exact(B0 I hu hc hf r1 r2 rx ry).1 _ _ _ _ ⟨.bl _,H,I,rfl,q⟩
theorem Y4(hu:X.A.units+7<cLine):yB X (compareOp .NotEq) (T6 X.K true):=by
 intro z6 s σ H x y v u Q I rx ry h;obtain⟨d1,d2,k,r1,r2,hk,q⟩:=h;by_cases hf:(yz d1&&yz d2)=true
 ·have hf':=hf;rw[yD]at hf';obtain⟨a,b⟩:=C6 hk hf'.1 hf'.2 r1 r2;exact RV z6 s σ H x y v u Q I rx ry ⟨a,by rw[b]; exact q⟩
 ·obtain⟨hc,rfl⟩:=JB hk;exact(B0 I hu hc hf r1 r2 rx ry).2 _ _ _ _ ⟨.bl _,H,I,rfl,q⟩
theorem wS:ui K (T6 K false) xI:=λH x y u v d Q rx ry hf=>by
 obtain⟨k,hk,hf⟩:=zD hf;cases hf;exact⟨_,rfl,λq=>⟨x,y,k,rx,ry,hk,q⟩⟩
theorem Y1:ui K (T6 K true) qI:=λH x y u v d Q rx ry hf=>by
 obtain⟨k,hk,hf⟩:=zD hf;cases hf;exact⟨_,rfl,λq=>⟨x,y,k,rx,ry,hk,q⟩⟩
end
theorem Kv{K:W.Frag}:W.kitOne K (.type "NoneType") (.type "str")=some false/\W.kitOne K (.type "NoneType") (.type "list")=some false/\W.kitOne K (.type "NoneType") (.type "tuple")=some false/\
  W.kitOne K (.type "bool") (.type "str")=some false/\W.kitOne K (.type "bool") (.type "list")=some false/\W.kitOne K (.type "bool") (.type "tuple")=some false/\
  W.kitOne K (.type "int") (.type "str")=some false/\W.kitOne K (.type "int") (.type "list")=some false/\W.kitOne K (.type "int") (.type "tuple")=some false:=by refine⟨?_,?_,?_,?_,?_,?_,?_,?_,?_⟩<;>kernel_rfl
theorem Kw{K:W.Frag}:W.kitOne K (.type "str") (.type "int")=some false/\W.kitOne K (.type "str") (.type "bool")=some false/\W.kitOne K (.type "str") (.type "list")=some false/\W.kitOne K (.type "str") (.type "tuple")=some false/\
  W.kitOne K (.type "list") (.type "int")=some false/\W.kitOne K (.type "list") (.type "bool")=some false/\W.kitOne K (.type "list") (.type "str")=some false/\W.kitOne K (.type "list") (.type "tuple")=some false/\W.kitOne K (.type "list") (.type "list")=some true:=by refine⟨?_,?_,?_,?_,?_,?_,?_,?_,?_⟩<;>first|kernel_rfl|rfl
theorem Kx{K:W.Frag}:W.kitOne K (.type "tuple") (.type "int")=some false/\W.kitOne K (.type "tuple") (.type "bool")=some false/\W.kitOne K (.type "tuple") (.type "list")=some false/\W.kitOne K (.type "tuple") (.type "str")=some false:=by refine⟨?_,?_,?_,?_⟩<;>kernel_rfl
def dJ:D->String
 |.zG => "NoneType"
 |.bl _ => "bool"
 |.int _ => "int"
 |.str _ => "str"
 |.tup _ => "tuple"
 |.lst _ => "list"
 |.dic _ _ => "dict"
 |.exc _ => "x"
 |.obj _ _ _ => "x"
theorem Zs{K:W.Frag}{T:jM}{d:D}{b:Bool}(h:Ug T d=some b):W.kitOne K (.type (dJ d)) (.type T.nm)=some b:=by
 obtain⟨x1,x2,x3,x4,x5,x6,x7,x8,x9⟩:=Kv (K:=K);obtain⟨y1,y2,y3,y4,y5,y6,y7,y8,y9⟩:=Kw (K:=K);obtain⟨z1,z2,z3,z4⟩:=Kx (K:=K);cases T<;>cases d<;>cases h
 all_goals first|exact Kq|exact Ko|exact Kp|exact Kn|exact Ks|exact Kr|exact Ku|exact Kt|assumption
def A1(K:W.Frag)(T:jM):List V->Hp->VK->Prop:=λxs H Q=>∃x d b,xs=[x,.ty T.nm]/\zS K H d x/\Ug T d=some b/\Q (.bl b) H
theorem GP{X:Cx}(T:jM):xU X (.builtin "isinstance") (A1 X.K T):=by
 intro z6 s σ H xs us Q I r h;obtain⟨x,d,b,rfl,rd,e,q⟩:=h;obtain⟨u,c,rfl,rx,rc⟩:=TZ r;cases(show c=Value.type T.nm from rc);have fin:∀tk,EP X z6 σ Q (.bool b) { s with toks:=tk }:=λtk=>⟨.bl b,H,I.tok tk,rfl,q⟩
 cases d with
 |zG=>cases(show x=_ from rd); exact Uh I rx .zG (Zs (d:=.zG) e) fin
 |bl y=>cases(show x=_ from rd); exact Uh I rx (.bl _) (Zs (d:=.bl y) e) fin
 |int y=>cases(show x=_ from rd); exact Uh I rx (.int _) (Zs (d:=.int y) e) fin
 |str y=>cases(show x=_/\_ from rd).1; exact Uh I rx (.str _) (Zs (d:=.str y) e) fin
 |tup ds=>
  obtain⟨a,vs,rfl,sq,_⟩:=rd;cases(show u=Value.ref a from rx);obtain⟨its,_,⟨o,h1,h2,_⟩,_⟩:=I.tuple sq;exact W.kia_one W.kitx_tuple I.xA ⟨o,h1,h2⟩ (Zs (d:=.tup ds) e) (λz=>nomatch z) fin
 |lst ds=>
  obtain⟨a,vs,rfl,sq,_⟩:=rd;cases(show u=Value.ref a from rx);obtain⟨its,_,⟨o,n,h1,h2,_⟩,_⟩:=I.list sq;exact W.kia_one W.kitx_list I.xA ⟨o,h1,h2⟩ (Zs (d:=.lst ds) e) (λz=>nomatch z) fin
 |dic ks ds=>cases T<;>cases e
 |exc _=>cases T<;>cases e
 |obj _ _ _=>cases T<;>cases e
theorem Wa{X:Cx}{a:Expr}{f:FE}{x:Str}{p p1 pos:Pos}(T:jM)(hg:Gl X "isinstance")(hgT:Gl X x)(hm:X.mg "isinstance" = none)(hmT:X.mg x=none)(hv:bootBuiltins x=some (.type T.nm))(ha:SB X a f)(hs:yZ a=true:=by rfl)
  (hn:x ≠ "__name__" := by decide)(hd:(x==("__debug__" : Str))=false:=by decide):SE X (.Call (.Name "isinstance" p) [a,.Name x p1] [] pos) (gr T f):=by
 obtain⟨t,pt,k⟩:=ha.h;refine⟨⟨_,(T3 (GP T) hg hm GC (FY ⟨pt⟩ (FY (Su hgT hmT hv hn hd) Sr rfl) hs) (by decide) (by decide) (by rw[xf,hs]; rfl)).h,λ{G0 H0 G H τ σ d Q} E hf q=>?_⟩⟩;obtain⟨z,hz,hf⟩:=zD hf;obtain⟨b,hb,hf⟩:=zD hf;cases hf;exact k E hz λv G' H' x r=>⟨v,z,b,rfl,r,hb,q _ _ _ x rfl⟩
end L3
namespace L3
open PySem
theorem kA{g:FG}{b:FS}(P:Nat->zp->Prop):∀{ds:List D}{σ:zp}(n:Nat),P n σ->(∀i d σ,ds[i]?=some d->P (n+i) σ->∃σ1 σ2,g d σ=some σ1/\(b σ1=some (.nx σ2)\/b σ1=some (.ct σ2))/\P (n+i+1) σ2)->
  ∃σ',pK g b ds σ=some (.nx σ')/\P (n+ds.length) σ'
 | [],σ,n,h,_=>⟨σ,rfl,h⟩
 |d::ds,σ,n,h,step=>by
  obtain⟨σ1,σ2,e1,e2,p2⟩:=step 0 d σ rfl h
  obtain⟨σ',e3,p3⟩:=kA P (ds:=ds) (σ:=σ2) (n+1) p2 λi d' τ hd hp=>by
   obtain⟨a,b',c1,c2,c3⟩:=step (i+1) d' τ (by simpa using hd) (by rw[show n+(i+1)=n+1+i by omega]; exact hp);exact⟨a,b',c1,c2,by rw[show n+1+i+1=n+(i+1)+1 by omega]; exact c3⟩
  refine⟨σ',?_,by rw[yP,show n+(ds.length+1)=n+1+ds.length by omega]; exact p3⟩;show(g d σ).bind _=_;rw[e1];show(b σ1).bind _=_;rcases e2 with e2|e2
  ·rw[e2]; exact e3
  ·rw[e2]; exact e3
abbrev yk(j:Nat):List D:=(List.range j).map λk:Nat=>D.int k
theorem kM{f:FE}{τ:zp}{n:Int}(h:f τ=some (.int n))(h1:n.natAbs<=1000000):uv (eC (.int 0)) f τ=some (yk n.toNat):=by
 unfold uv;rw[h];show(if(0:Int).natAbs<=yY/\n.natAbs<=yY/\(n-0).toNat<=yY then _ else _)=_;rw[zM ⟨by decide,by show _<=16777216; omega,by show _<=16777216; omega⟩,Int.sub_zero];simp only[Int.zero_add]
end L3
namespace L3
def shx:=
 And.intro zg.eq_1<|And.intro z_.eq_1<|And.intro w8.eq_1<|And.intro jj.eq_1<|And.intro yM.eq_1<|And.intro qQ.eq_1<|And.intro ji.eq_1<|And.intro xw.eq_1<|And.intro wf.eq_1<|And.intro Xb.eq_1 <|
 And.intro aA.eq_1<|And.intro Xc.eq_1<|And.intro jh.eq_1<|And.intro pK.eq_1<|And.intro pK.eq_2<|And.intro e1.eq_1<|And.intro e2.eq_1<|And.intro eL.eq_1<|And.intro eC.eq_1<|And.intro z7.eq_1<|And.intro X6.eq_1 <|
 And.intro zA.eq_1<|And.intro zH.eq_1<|And.intro tE.eq_1<|And.intro jO.eq_def<|And.intro bh.eq_1<|And.intro Wi.eq_1<|And.intro qr.eq_1<|And.intro ZT.eq_1<|And.intro J6.eq_1<|And.intro J5.eq_1<|And.intro pB.eq_1 <|
 And.intro uU.eq_1<|And.intro wZ.eq_1<|And.intro gr.eq_1<|And.intro Ug.eq_def<|And.intro fI.eq_def<|And.intro pC.eq_def<|And.intro jT.eq_def<|And.intro uo.eq_1<|And.intro XA.eq_1<|And.intro xN.eq_1<|And.intro ZU.eq_1 <|
 And.intro Gy.eq_1<|And.intro vX.eq_1<|And.intro XB.eq_1<|And.intro tT.eq_def<|And.intro JG.eq_def<|And.intro gt.eq_def<|And.intro UF.eq_def<|And.intro UH.eq_def<|And.intro JH.eq_def<|And.intro Zo.eq_def <|
 And.intro yK.eq_1<|And.intro qi.eq_1<|And.intro vY.eq_1<|And.intro zj.eq_1<|And.intro vF.eq_1<|And.intro vU.eq_1 <|
 And.intro @tD.{0,0} <| And.intro @Option.bind_none.{0,0} <| And.intro @E9.{0} <| And.intro @E8.{0} <| And.intro @Ts.{0} <| And.intro @L5.{0} <| And.intro @y_.{0,0} <| And.intro @jw.{0,0} <|
 And.intro @Wp.{0} <| And.intro @Tr.{0} <| And.intro @yP.{0} <| And.intro @YZ.{0} <| And.intro @EG.{0} <| And.intro @j3.{0} <| And.intro Bool.not_true<|And.intro Bool.not_false <|
 And.intro @vj<|And.intro @decide_false<|And.intro Op<|And.intro Bool.and_true Bool.true_and
open PySem PySem.Spec PyProof.Rows L2
section
variable{α:Type}
theorem Cq:∀{ks:List zK}{vs:List α}(k:zK),ks.length=vs.length->((ks.zip vs).any λkv=>decide (kv.1=k))=wm ks k
 | [],[],_,_=>rfl
 |k'::ks,v::vs,k,h=>by
  have ih:=Cq (ks:=ks) (vs:=vs) k (by simpa using h);show(decide (k'=k)||((ks.zip vs).any λkv=>decide (kv.1=k)))=(decide (k'=k)||wm ks k);rw[ih]
theorem jt:∀{ks:List zK}{vs:List V}(k:zK),ks.length=vs.length->wg (ks.zip vs) k=getK ks vs k
 | [],[],_,_=>rfl
 |k'::ks,v::vs,k,h=>by
  have ih:=jt (ks:=ks) (vs:=vs) k (by simpa using h);by_cases e:k'=k
  ·rw[ud,jq (p:=(k',v)) e];show _=(if k'=k then some v else _);rw[zM e]
  ·rw[ud,jp (p:=(k',v)) e,ih];show _=(if k'=k then some v else _);rw[zO e]
theorem Ct:∀{ks:List zK}{vs:List V}(k:zK)(v:V),ks.length=vs.length->((ks.zip vs).map λkv=>if kv.1=k then(kv.1,v)else kv)=ks.zip (List.zipWith (λk' x=>if k'=k then v else x) ks vs)
 | [],[],_,_,_=>rfl
 |k'::ks,u::vs,k,v,h=>by
  have ih:=Ct (ks:=ks) (vs:=vs) k v (by simpa using h);rw[ud,y_,ih,L8,ud];by_cases e:k'=k
  ·rw[zM e,zM e]
  ·rw[zO e,zO e]
theorem Tk{ks:List zK}{vs:List V}{k:zK}{v:V}(h:ks.length=vs.length):wJ (ks.zip vs) k v=(we ks k).zip (xK ks vs k v):=by
 unfold wJ we xK;rw[Cq k h];by_cases c:wm ks k=true
 ·rw[zM c,zM c,zM c,Ct k v h]
 ·rw[zO c,zO c,zO c,List.zip_append h];rfl
theorem XX{ks:List zK}{vs:List α}{k:zK}{v:α}(h:ks.length=vs.length):(we ks k).length=(xK ks vs k v).length:=by
 unfold we xK
 split
 ·rw[kZ,h,qA]
 ·rw[yO,yO,h];rfl
theorem Iw{ks:List zK}{vs:List α}{k:zK}{v:α}(h:ks.length=vs.length):(xK ks vs k v).length<=vs.length+1:=by
 unfold xK
 split
 ·rw[kZ,h,qA];exact Wz _
 ·rw[yO];exact yF _
end
section
variable{K:W.Frag}{G H:Hp}
theorem Reps.getK:∀{ks:List zK}{ds:List D}{vs:List V}{k:zK}{d:D},Reps K H ds vs->getK ks ds k=some d->∃v,getK ks vs k=some v/\zS K H d v
 | [],_,_,_,_,_,e=>by cases e
 |_::_,[],_,_,_,_,e=>by cases e
 |k'::ks,d'::ds,_,k,d,r,e=>by
  obtain⟨v,r',rfl,hv,hr⟩:=r
  change (if k'=k then some d' else L3.getK ks ds k)=some d at e
  by_cases c:k'=k
  ·rw[zM c]at e;cases e;exact⟨v,by show(if k'=k then some v else _)=_; rw[zM c],hv⟩
  ·rw[zO c]at e;obtain⟨u,hu,ru⟩:=Reps.getK hr e;exact⟨u,by show(if k'=k then some v else _)=_; rw[zO c]; exact hu,ru⟩
theorem BB{α β:Type}:∀{ks:List zK}{ds:List α}{vs:List β}{k:zK},ds.length=vs.length->getK ks ds k=none->getK ks vs k=none
 | [],_,_,_,_,_=>by unfold getK; rfl
 |_::_,[],[],_,_,_=>rfl
 |k'::ks,d'::ds,v::vs,k,h,e=>by
  change (if k'=k then some d' else getK ks ds k)=none at e
  show(if k'=k then some v else getK ks vs k)=none;by_cases c:k'=k
  ·rw[zM c]at e; cases e
  ·rw[zO c]at e;rw[zO c];exact BB (by simpa using h) e
theorem JP{α:Type}:∀{ks:List zK}{vs:List α}(k:zK),ks.length=vs.length->(getK ks vs k).isSome=wm ks k
 | [],[],_,_=>rfl
 |k'::ks,v::vs,k,h=>by
  have ih:=JP (ks:=ks) (vs:=vs) k (by simpa using h);show(if k'=k then some v else getK ks vs k).isSome=(decide (k'=k)||_);by_cases c:k'=k
  ·rw[zM c,yQ c]; rfl
  ·rw[zO c,v4 c,ih]; rfl
theorem Reps.Lf{k:zK}{d:D}{v:V}(hv:zS K H d v):∀{ks:List zK}{ds:List D}{vs:List V},Reps K H ds vs->Reps K H (List.zipWith (λk' x=>if k'=k then d else x) ks ds) (List.zipWith (λk' x=>if k'=k then v else x) ks vs)
 | [],_,_,_=>rfl
 |_::_,[],_,r=>by cases(show _=[]from r); rfl
 |k'::ks,d'::ds,_,r=>by
  obtain⟨u,r',rfl,hu,hr⟩:=r;refine⟨_,_,rfl,?_,Reps.Lf hv hr⟩;show zS K H (if k'=k then d else d') (if k'=k then v else u);by_cases c:k'=k
  ·rw[zM c,zM c]; exact hv
  ·rw[zO c,zO c]; exact hu
theorem Reps.put{ks:List zK}{ds:List D}{vs:List V}{k:zK}{d:D}{v:V}(r:Reps K H ds vs)(hv:zS K H d v):Reps K H (xK ks ds k d) (xK ks vs k v):=by
 unfold xK
 split
 ·exact Reps.Lf hv r
 ·exact r.append (Reps.one hv)
theorem jY{x:D}{k:zK}{u:V}(h:wb x=some k)(r:zS K H x u):u=kV k:=by
 cases x<;>first|(cases h; done)|skip
 ·cases h; exact r
 ·cases h; exact(show u=_/\_ from r).1
end
section
variable{X:Cx}{K:W.Frag}
def Fe:R2:=λx y H Q=>∃a kvs k v,x=.ref a/\y=kV k/\Rd H a (.dK kvs)/\wg kvs k=some v/\Q v H
theorem BX:ug X Fe:=by
 intro value slice z6 s σ H x y v u Q I rx ry h hs;obtain⟨a,kvs,k,z,rfl,rfl,e,l,q⟩:=h;cases rx;obtain⟨_,_,vs,rel,dd⟩:=tQ I.zZ e;obtain⟨w',hw,rw'⟩:=wl.some_of (v:=z) (o:=valueAt vs k) (by rw[<-l]; exact rel.val k)
 exact T_ (x:=w') (Gi I (.inl ⟨kvs,k,e,rfl,rfl⟩)) PySem.F.slot_dict_getitem.lookup
  (LH (Q:=λr s'=>r=w'/\EP X z6 σ Q r s') (qL ry) dd.mapOf hw ⟨rfl,z,H,I.tok _,rw',q⟩) hs
def Fd(K:W.Frag):R2:=λx y H Q=>O0 K x y H Q\/Fe x y H Q
theorem zU(_:X.A.units+1<cLine):ug X (Fd X.K):=KY.or BX
theorem zV:vC K (Fd K) zI:=λG H x y u v d Q s rx ry hf q=>by
 cases x with
 |dic ks ds=>
  obtain⟨a,vs,rfl,sq,l,rs,_⟩:=rx;obtain⟨k,hk,hf⟩:=zD hf;obtain⟨z,hz,rz⟩:=rs.getK hf;exact .inr ⟨a,_,k,z,rfl,jY hk ry,Rd.mono s sq,by rw[jt k l]; exact hz,q _ _ _ (zN.refl s) rz⟩
 |zG=>cases hf
 |bl b=>cases hf
 |int b=>cases hf
 |str z=>exact .inl (Ic G H (.str z) y u v d Q s rx ry (by cases y<;>exact hf) q)
 |tup z=>exact .inl (Ic G H (.tup z) y u v d Q s rx ry (by cases y<;>exact hf) q)
 |lst z=>exact .inl (Ic G H (.lst z) y u v d Q s rx ry (by cases y<;>exact hf) q)
 |exc z=>cases hf
 |obj z _ _=>cases hf
def I_(neg:Bool):R2:=λx y H Q=>∃a kvs k,y=.ref a/\x=kV k/\Rd H a (.dK kvs)/\Q (.bl (if neg then !(wg kvs k).isSome else(wg kvs k).isSome)) H
theorem RP(hu:X.A.units+1<cLine):yB X (compareOp .In) (I_ false):=by
 intro z6 s σ H x y v u Q I rx ry h;obtain⟨a,kvs,k,rfl,rfl,e,q⟩:=h;cases ry;exact Gf hu I (.inl ⟨kvs,k,e,rfl,rfl⟩) rx λs' I'=>⟨.bl _,H,I',rfl,q⟩
theorem RX(hu:X.A.units+1<cLine):yB X (compareOp .NotIn) (I_ true):=by
 intro z6 s σ H x y v u Q I rx ry h;obtain⟨a,kvs,k,rfl,rfl,e,q⟩:=h;cases ry;exact Gh hu I (.inl ⟨kvs,k,e,rfl,rfl⟩) rx λs' I'=>⟨.bl _,H,I',rfl,q⟩
def XY(K:W.Frag)(neg:Bool):R2:=λx y H Q=>Iz K neg x y H Q\/(∃i j,x=.str i/\y=.str j/\Q (.bl (if neg then !(!(Builtin.Str.occurrences j i 0 j.length 1).isEmpty)else !(Builtin.Str.occurrences j i 0 j.length 1).isEmpty)) H)\/I_ neg x y H Q
theorem XS(hu:X.A.units+1<cLine):yB X (compareOp .In) (XY X.K false):=RQ.or (RS.or (RP hu))
theorem RY(hu:X.A.units+1<cLine):yB X (compareOp .NotIn) (XY X.K true):=RZ.or (Ra.or (RX hu))
theorem O5{H:Hp}{x:D}{u:V}(hx:yz x=true)(rx:zS K H x u):∀{ys:List D}{vs:List V},Reps K H ys vs->ys.all yz=true->vs.all qJ=true/\Ud u vs=ys.any λy=>xH y x
 | [],_,r,_=>by cases(show _=[]from r); exact⟨rfl,rfl⟩
 |y::ys,_,r,h=>by
  obtain⟨v,r',rfl,hv,hr⟩:=r;rw[xf,yD]at h;obtain⟨a,b⟩:=O5 hx rx hr h.2;refine⟨by rw[xf,YG h.1 hv,a]; rfl,?_⟩;show(tS v u||Ud u r')=(xH y x||_);rw[O4 h.1 hx hv rx,b]
theorem BM{neg:Bool}{H:Hp}{x y:D}{u v:V}{k:Bool}{Q:VK}(rx:zS K H x u)(ry:zS K H y v)(hf:UE x y=some k)(q:Q (.bl (if neg then !k else k)) H):XY K neg u v H Q:=by
 cases y with
 |lst ys=>
  obtain⟨a,vs,rfl,sq,rs,_⟩:=ry
  change (match yz x&&ys.all yz with|true=>some (ys.any λy=>xH y x)|false=>none)=some k at hf
  cases c:(yz x&&ys.all yz)with
  |false=>rw[c]at hf; cases hf
  |true=>
   rw[c]at hf;cases hf;rw[yD]at c;obtain⟨c1,c2⟩:=O5 c.1 rx rs c.2;exact .inl ⟨a,vs,rfl,.inl sq,YG c.1 rx,c1,by rw[c2]; exact q⟩
 |tup ys=>
  obtain⟨a,vs,rfl,sq,rs,_⟩:=ry
  change (match yz x&&ys.all yz with|true=>some (ys.any λy=>xH y x)|false=>none)=some k at hf
  cases c:(yz x&&ys.all yz)with
  |false=>rw[c]at hf; cases hf
  |true=>
   rw[c]at hf;cases hf;rw[yD]at c;obtain⟨c1,c2⟩:=O5 c.1 rx rs c.2;exact .inl ⟨a,vs,rfl,.inr sq,YG c.1 rx,c1,by rw[c2]; exact q⟩
 |str j=>
  cases x<;>first|(cases hf; done)|skip
  rename_i i;cases hf;exact .inr (.inl ⟨i,j,(show u=_/\_ from rx).1,(show v=_/\_ from ry).1,q⟩)
 |dic ks ds=>
  obtain⟨kk,hk,hf⟩:=zD hf;cases hf;obtain⟨a,vs,rfl,sq,l,rs,_⟩:=ry;refine .inr (.inr ⟨a,_,kk,rfl,jY hk rx,sq,?_⟩);rw[jt kk l,JP kk l];exact q
 |_=>cases hf
theorem XO:ui K (XY K false) vV:=λH x y u v d Q rx ry hf=>by
 obtain⟨k,hk,hf⟩:=zD hf;cases hf;exact⟨_,rfl,λq=>BM rx ry hk q⟩
theorem P_:ui K (XY K true) UJ:=λH x y u v d Q rx ry hf=>by
 obtain⟨k,hk,hf⟩:=zD hf;cases hf;exact⟨_,rfl,λq=>BM rx ry hk q⟩
theorem Wd{pos:Pos}:SF X (.Dict [] [] pos) (eC (.dic [] [])):=⟨⟨_,Rv,λ{G0 H0 G H τ σ d Q} E hf q p hp=>by
 cases hf;exact q p G _ (zN.tF E.ext.gh hp) hp (E.ext.gh.free hp) ⟨[],yi,rfl,rfl,vy _⟩⟩⟩
theorem pf{i:Nat}{x:Str}{xp pos pos':Pos}{k v:Expr}{fk fv:FE}(hu:X.A.units+1<cLine)(ho:QE X (.Name x xp) (TV i))(hk:SE X k fk)(hv:SE X v fv)(hs:swapsWith v (some (.Subscript (.Name x xp) k pos')) pos.line X.env=pure false:=by rfl) :
  SS X (.Assign [.Subscript (.Name x xp) k pos'] v pos) (t4 i fk fv):=by
 obtain⟨tk,pk,kk⟩:=hk.h;obtain⟨tv,pv,kv⟩:=hv.h;refine⟨⟨_,Dw hu ho.h pk pv hs,λ{G0 H0 G H τ σ fl E} K hf q=>?_⟩⟩;obtain⟨y,hy,hf⟩:=zD hf;refine kv K hy λw G1 H1 x1 r1=>?_
 split at hf
 ·rename_i ks ds hd;obtain⟨xk,hx,hf⟩:=zD hf;obtain⟨key,hkey,hf⟩:=zD hf;by_cases c:ks.length<yY
  ·rw[zM c]at hf;cases hf;have K1:=K.go x1;obtain⟨a,ea,g,z,vs,ev,l,rs,hl⟩:=K1.ow _ _ hd;refine⟨_,ea,kk K1 hx λu G2 H2 x2 r2=>⟨a,_,rfl,.inl ⟨_,key,x2.h _ _ ev,jY hkey r2,?_,rfl⟩,?_⟩⟩
   ·rw[j0,l,qA,xi,<-l]; exact c
   ·refine q _ _ _ ((K1.go x2).LU hd ea ⟨xK ks vs key w,?_,XX l,(rs.mono x2.g).put (r1.mono x2.g),?_⟩)
    ·rw[yi,Tk l]
    ·have h1:=Iw (ks:=ks) (vs:=ds) (k:=key) (v:=y) (by rw[l,rs.length]);have h2:ds.length<16777216:=by rw[<-rs.length,<-l]; exact c
     rw[xi];omega
  ·rw[zO c]at hf;cases hf
 ·cases hf
inductive qz(w:World):List DictEntry->List Str->List Value->Prop
 |nil:qz w [] [] []
 |cons {x:Str} {t:Tok} {v:Value} {es:List DictEntry} {xs:List Str} {vs:List Value} (r:qz w es xs vs):qz w (⟨PyData.keyHash w.params x,.str x t,v⟩::es) (x::xs) (v::vs)
theorem qz.pairs{w:World}{P:Program}:∀{es:List DictEntry}{xs:List Str}{vs:List Value},qz w es xs vs->Pairs (yg P w) es ((xs.map Sum.inr).zip vs)/\(∀e∈es,∃k,(yg P w).is k e.key=true/\e.hash=(yg P w).hash k)
 |_,_,_,.nil=>⟨.nil,λe h=>absurd h (by simp)⟩
 |_,_,_,.cons (x:=x) (t:=t) r=>by
  obtain⟨a,b⟩:=qz.pairs (P:=P) r;refine⟨.cons (IU P w x t) rfl a,λe h=>?_⟩;rcases yl.mp h with rfl|h
  ·exact⟨.inr x,IU P w x t,rfl⟩
  ·exact b e h
theorem qz.len{w:World}:∀{es:List DictEntry}{xs:List Str}{vs:List Value},qz w es xs vs->xs.length=vs.length
 |_,_,_,.nil=>rfl
 |_,_,_,.cons r=>by rw[yP,yP,r.len]
theorem Bd:∀{ks:List zK}{us:List V}{vs:List Value},ze us vs->ks.length=us.length->KV (ks.zip us) (ks.zip vs)
 | [],_,_,.nil,_=>.nil
 |k::ks,_,_,.cons r t,h=>.cons ⟨rfl,r⟩ (Bd t (by simpa using h))
theorem Cr:∀{ks:List zK}{vs:List Value},ks.length=vs.length->(ks.zip vs).map (·.1)=ks
 | [],[],_=>rfl
 |k::ks,v::vs,h=>by rw[ud,y_,Cr (by simpa using h)]
end
def Wc:D->Option (List D)
 |.lst xs=>some xs
 |.tup xs=>some xs
 |_=>none
def Zn(a b:FE):FA:=λσ=>(a σ).bind λx=>(b σ).bind λy=>(Wc x).bind λxs=>(Wc y).bind λys=>some (List.zipWith (λx y=>D.tup [x,y]) xs ys)
section
variable{K:W.Frag}{G H:Hp}
theorem C9{x:D}{xs:List D}{u:V}(h:Wc x=some xs)(r:zS K G x u):∃t a vs,u=.ref a/\vo K t G a vs/\Reps K G xs vs/\xs.length<=sizeLine:=by
 cases x<;>first|(cases h; done)|skip
 ·cases h;obtain⟨a,vs,rfl,sq,rs,l⟩:=r;exact⟨true,a,vs,rfl,sq,rs,l⟩
 ·cases h;obtain⟨a,vs,rfl,sq,rs,l⟩:=r;exact⟨false,a,vs,rfl,sq,rs,l⟩
theorem jl{H':Hp}{t:Bool}{a:Addr}{vs:List V}(s:zb H H')(h:vo K t H a vs):vo K t H' a vs:=by
 cases t
 ·exact vf s h
 ·exact uH s h
theorem e9{t1 t2:Bool}{a b:Addr}{vs us:List V}{xs ys:List D}(s1:vo K t1 G a vs)(s2:vo K t2 G b us)(r1:Reps K G xs vs)(r2:Reps K G ys us):jN K (QM K t1 t2 a b) G (List.zipWith (λx y=>D.tup [x,y]) xs ys) where
 go:=λi G2 H g1 g2 hi=>by
  rw[kZ]at hi;obtain⟨v,e1,_⟩:=r1.get (xD (show i<xs.length by omega));obtain⟨u,e2,_⟩:=r2.get (xD (show i<ys.length by omega));exact⟨vs,us,v,u,jl (g1.trans g2) s1,jl (g1.trans g2) s2,e1,e2⟩
 u3:=λi G2 H x H' g1 g2 hi y=>by
  obtain⟨p,hp,rfl,k⟩:=y;obtain⟨v,u,e1,e2,rfl⟩:=k vs us (jl (g1.trans g2) s1) (jl (g1.trans g2) s2);obtain⟨d1,f1,q1⟩:=r1.at e1;obtain⟨d2,f2,q2⟩:=r2.at e2;refine⟨zT G2 p (.tup [v,u]),.tup [d1,d2],zN.lay g2 hp,by rw[EE,f1,f2],?_⟩;have sm:zb G (zT G2 p (.tup [v,u])):=g1.trans (wn (g2.free hp) _);exact⟨p,[v,u],rfl,yb.of yi,⟨v,_,rfl,q1.mono sm,⟨u,_,rfl,q2.mono sm,rfl⟩⟩,vL (n:=2) (by decide)⟩
 stop:=λi G2 H g1 g2 hi=>by
  rw[kZ]at hi;refine⟨vs,us,jl (g1.trans g2) s1,jl (g1.trans g2) s2,?_⟩;rw[r1.length,r2.length];omega
end
section
variable{X:Cx}{a b e o:Expr}{fa fb f:FE}{p pos apos cpos:Pos}
theorem CF{elts:List Expr}{kk:Nat}{tp:Pos}(hg:Gl X "zip")(hm:X.mg "zip" = none)(ha:SE X a fa)(hb:SE X b fb)(hs:yZ a=true:=by rfl)(hs2:yZ b=true:=by rfl):SI X (.Tuple elts kk tp) (.Call (.Name "zip" p) [a,b] [] pos) (Zn fa fb):=by
 obtain⟨t,pt,k⟩:=(zB ha (zB hb zP hs2) hs).h;refine⟨⟨_,(Sw hg hm ⟨pt⟩ hs hs2).h,λ{G0 H0 G H τ σ ds R} K hf q=>?_⟩⟩;obtain⟨x,hx,hf⟩:=zD hf;obtain⟨y,hy,hf⟩:=zD hf;obtain⟨xs,hxs,hf⟩:=zD hf;obtain⟨ys,hys,hf⟩:=zD hf;cases hf;refine k K (ds:=[x,y]) (by unfold zA; rw[hx,hy]; rfl) λvs G1 H1 x1 r1=>?_
 obtain⟨v,r,rfl,hv,⟨v2,r2,rfl,hv2,hr⟩⟩:=r1;cases(show r2=[]from hr);obtain⟨t1,a1,vs1,rfl,s1,q1,l1⟩:=C9 hxs hv;obtain⟨t2,a2,vs2,rfl,s2,q2,l2⟩:=C9 hys hv2;refine⟨a1,a2,vs1,vs2,t1,t2,rfl,jl x1.gh s1,jl x1.gh s2,q _ _ _ x1 ?_ (e9 s1 s2 q1 q2)⟩;rw[kZ];omega
def vW:List D->Option D
 | [.lst xs]=>some (.lst xs)
 | [.tup xs]=>some (.lst xs)
 |_=>none
def gu:List D->Option D
 | [.lst xs]=>some (.tup xs)
 | [.tup xs]=>some (.tup xs)
 |_=>none
theorem u_{K:W.Frag}{G:Hp}{d:D}{vs:List V}(r:Reps K G [d] vs):∃v,vs=[v]/\zS K G d v:=by
 obtain⟨v,r',rfl,hv,hr⟩:=r;cases(show r'=[]from hr);exact⟨v,rfl,hv⟩
theorem jk{fs:FA}(hg:Gl X "list")(hm:X.mg "list" = none)(ha:SA X [e] fs)(hs:yZ e=true:=by rfl):SF X (.Call (.Name "list" p) [e] [] pos) (eL vW fs):=by
 obtain⟨t,pt,k⟩:=ha.h;refine⟨⟨_,(YD GU hg hm U2 ⟨pt⟩ (by decide) (by decide) (by rw[xf,hs]; rfl)).h,λ{G0 H0 G H τ σ d Q} E hf q=>?_⟩⟩;obtain⟨ds,hd,hf⟩:=zD hf;refine k E hd λvs G1 H1 x1 r1=>?_
 match ds,hf with
 | [.lst xs],hf=>
  cases hf;obtain⟨v,rfl,a,us,rfl,sq,rs,l⟩:=u_ r1;exact⟨a,us,rfl,.inl (vf x1.gh sq),λp hp=>q p _ _ (x1.trans (zN.tF x1.gh hp)) (x1.h.free hp) (x1.gh.free hp) ⟨us,yi,rs,l⟩⟩
 | [.tup xs],hf=>
  cases hf;obtain⟨v,rfl,a,us,rfl,sq,rs,l⟩:=u_ r1;exact⟨a,us,rfl,.inr (uH x1.gh sq),λp hp=>q p _ _ (x1.trans (zN.tF x1.gh hp)) (x1.h.free hp) (x1.gh.free hp) ⟨us,yi,rs,l⟩⟩
theorem Ig{K:W.Frag}:Lk K (λxs H Q=>∃p ys,xs=[.ref p]/\((yJ K H p ys/\∀l,H l=none->Q (.ref l) (zT H l (.tup ys)))\/(yb K H p ys/\Q (.ref p) H))) gu:=λG H ds vs d Q s r hf q=>by
 match ds,hf with
 | [.lst xs],hf=>
  cases hf;obtain⟨v,rfl,a,us,rfl,sq,rs,l⟩:=u_ r;exact⟨a,us,rfl,.inl ⟨vf s sq,λp hp=>q _ _ _ (zN.lay s hp) ⟨p,us,rfl,yb.of yi,rs.mono (wn (s.free hp) _),l⟩⟩⟩
 | [.tup xs],hf=>
  cases hf;obtain⟨v,rfl,a,us,rfl,sq,rs,l⟩:=u_ r;exact⟨a,us,rfl,.inr ⟨uH s sq,q _ _ _ (zN.refl s) ⟨a,us,rfl,sq,rs,l⟩⟩⟩
theorem bW{i:Nat}{x:Str}{op:Operator}{ti:ZM}{F:D->D->Option D}{pos':Pos}(ho:VO X op ti)(hF:vC X.K ti F)(hN:X.N.Nodup)(hi:X.N[i]?=some x)(hx:tM X.env.scope x)(he:SE X e f)(hf:X.fn x=true\/X.env.scope.names.lookup x=some .local:=by first|exact .inl rfl|exact .inr rfl|assumption) :
  SS X (.AugAssign (.Name x pos') op e pos) (w8 i (e2 F (z7 i) f)):=by
 obtain⟨t,pt,k⟩:=he.h;refine⟨⟨_,Dv hN hi hx pt ho hf,λ{G0 H0 G H τ σ fl E} K hf q=>?_⟩⟩;obtain⟨d,hd,hf⟩:=zD hf;cases hf;obtain⟨x,hx,hd⟩:=zD hd;obtain⟨y,hy,hd⟩:=zD hd;obtain⟨v,ev,rv⟩:=K.fr _ _ (J7 hx);refine⟨v,ev,k K hy λu G1 H1 x1 r1=>hF G1 H1 x y v u d _ x1.gh (rv.mono x1.g) r1 hd λw G2 H2 x2 r2=>?_⟩;exact q _ _ _ (((K.go x1).go x2).set (yA.mp hi).1 r2)
theorem DX{K:W.Frag}:vC K (BR λi j=>i+j) (tT λi j=>i+j):=λG H x y u v d Q s rx ry hf q=>by
 cases x<;>first|(cases hf; done)|skip
 cases y<;>first|(cases hf; done)|skip
 cases hf;exact⟨_,_,rx,ry,q _ _ _ (zN.refl s) rfl⟩
variable{x:Str}{ps:List Str}{j k:Nat}{FF:List D->Option (Bool×D)}
end
def FR(n N:Nat)(b:FS)(ds:List D):Option (Bool×D):=if ds.length=n then zg N b ds else none
theorem yU{n N:Nat}{b:FS}:∀ds r,FR n N b ds=some r->ds.length=n/\zg N b ds=some r:=λds r h=>by
 unfold FR at h
 split at h
 ·rename_i c;exact⟨c,h⟩
 ·cases h
section
variable{X:Cx}{e o k v:Expr}{f fo fk fv:FE}{x:Str}{xp p pos apos cpos:Pos}
def QT(K:W.Frag)(A:Addr):Prop:=∃o,K.lookup A=some o/\o.cls=.type "tuple" /\ o.dict=none
theorem Bo:∀(kvs acc:List (zK×V)),(kvs.map (·.1)).Nodup->(∀kv∈kvs,wg acc kv.1=none)->uy acc kvs=acc++kvs
 | [],acc,_,_=>by rw[ub]; rfl
 |kv::r,acc,nd,hn=>by
  rw[y_,Wu]at nd;have h0:=hn kv yr;show uy (wJ acc kv.1 kv.2) r=_;rw[Sn kv.2 h0,Bo r _ nd.2 (λkv' m=>?_)]
  ·rw[Tp]; rfl
  ·rw[Cf kv.1 kv'.1 kv.2 acc h0,zO (λe=>nd.1 (by rw[<-e]; exact List.mem_map_of_mem m))];exact hn kv' (xg _ m)
theorem Cu:∀{ks:List Str}{vs:List V},(ks.map V.str).zip vs=(((ks.map Sum.inr:List zK).zip vs).map λkv=>(kV kv.1,kv.2))
 | [],_=>rfl
 |_::_,[]=>rfl
 |k::ks,v::vs=>by
  rw[y_,y_,ud,ud,y_,Cu];rfl
theorem Cs:∀{ks:List zK}{vs:List V},ks.length=vs.length->(ks.zip vs).map (·.1)=ks
 | [],[],_=>rfl
 |k::ks,v::vs,h=>by rw[ud,y_,Cs (by simpa using h)]
theorem OD(hu:X.A.units+1<cLine)(ho:SE X o fo)(hk:SE X k fk)(hv:SE X v fv)(m:M2 X o "get" apos k v cpos):SE X (.Call (.Attribute o "get" apos) [k,v] [] cpos) (jS fo fk fv):=by
 obtain⟨to,po,ko⟩:=ho.h;obtain⟨tk,pk,kk⟩:=hk.h;obtain⟨tv,pv,kv⟩:=hv.h;refine⟨⟨_,Rt hu po pk pv m,λ{G0 H0 G H τ σ d Q} E hf q=>?_⟩⟩;obtain⟨x,hx,hf⟩:=zD hf;refine ko E hx λw G1 H1 x1 r1=>?_
 cases x with
 |dic ks ds=>
  obtain⟨y,hy,hf⟩:=zD hf;obtain⟨z,hz,hf⟩:=zD hf;obtain⟨key,hkey,hf⟩:=zD hf;cases hf;obtain⟨a,vs,rfl,sq,l,rs,_⟩:=r1;refine⟨a,rfl,.inl ⟨_,Rd.mono x1.gh sq⟩,kk (E.go x1) hy λu G2 H2 x2 r2=>kv ((E.go x1).go x2) hz λw' G3 H3 x3 r3=>?_⟩;refine⟨wg (ks.zip vs) key,.inl ⟨_,key,Rd.mono (x1.gh.trans (x2.h.trans x3.h)) sq,jY hkey r2,rfl⟩,?_⟩;rw[jt key l];have rs3:=rs.mono (x2.g.trans x3.g);cases c:getK ks ds key with
  |none=>
   rw[c]at q;rw[BB (by rw[rs.length]) c];exact q _ _ _ (x1.trans (x2.trans x3)) r3
  |some d'=>
   rw[c]at q;obtain⟨z',hz',rz'⟩:=rs3.getK c;rw[hz'];exact q _ _ _ (x1.trans (x2.trans x3)) rz'
 |_=>cases hf
def wP(i:Int):Nat:=Builtin.Int.intBits i
def X9:D->D->Option D:=fI (λi j=>decide (wP i+wP j<=134217728)) (·*·)
theorem Df:yB X (binaryOp .Mult) (rI (λi j=>wP i+wP j<=134217728) λi j=>.int (i*j)):=Y3 λi j _ _ _ _ _ hc q=>mul_int q (by
 unfold IntMulOk;intro h;rw[yD]at h;have h2:decide (((Builtin.Int.intBits i+Builtin.Int.intBits j:Nat):Int)>(134217728:Nat))=true:=h.2;have h3:=xE h2;have h4:Builtin.Int.intBits i+Builtin.Int.intBits j<=134217728:=hc;omega)
theorem DZ{K:W.Frag}:vC K (rI (λi j=>wP i+wP j<=134217728) λi j=>.int (i*j)) X9:=kE λ_ _ h=>xE h
end
open PySem.W
theorem Ck:∀{ns:List Int}{m:Int},m∈ns->wP m<=WData.weightAll (ns.map WData.int)
 | [],_,h=>by cases h
 |n::ns,m,h=>by
  have e:WData.weightAll ((n::ns).map WData.int)=wP n+1+WData.weightAll (ns.map WData.int):=by
   show WData.weightAll (WData.int n::ns.map WData.int)=_;rw[WData.weightAll];rfl
  rw[e];rcases yl.mp h with rfl|h
  ·omega
  ·have:=Ck h;omega
theorem K_{ns:List Int}(h:WData.layableAll [.list (ns.map WData.int)]=true):∀m∈ns,wP m<=1048576:=λm hm=>by
 have h1:WData.layable (.list (ns.map WData.int))=true:=t9.mp h _ (j2.mpr rfl);unfold WData.layable at h1;rw[yD]at h1;have h2:WData.weight (.list (ns.map WData.int))<=2 ^ 20:=xE h1.2;have h3:=Ck hm;have h4:WData.weight (.list (ns.map WData.int))=WData.weightAll (ns.map WData.int):=by rw[WData.weight]
 omega
section
variable{P:Program}{w:World}{K:W.Frag}{mg:Str->Option Value}{base:Heap}
def Wf(K:W.Frag):Sp:=λvs H Q _=>∃(a:Addr) (ns:List Int),vs=[.ref a]/\yJ K H a (ns.map V.int)/\ns.length<=63/\(∀m∈ns,wP m<=1048576)/\∀H',Q (.bl true) H'
theorem Kz{x:Str}{st:Stmt}{N:List Str}{k:Nat}{b:FS}{f:Addr}{fd:FuncData}(d:Fun K "law" "law" st f fd)(S:zi N [x] (zQ st))(hN:1<=N.length)(hrun:∀ns:List Int,ns.length<=63->(∀m∈ns,wP m<=1048576)->∃o,zg N.length b [.lst (ns.map D.int)]=some (o,.bl true))
  (hb:∀(cdv:Value)(A:Around)(outer:List Env)(s:Shared)(H:Hp)(E:XK),yI k (A.deeper (envOfC "law" (zQ st) s.heap.objs.size f cdv))->uj (um yo P w K mg base N "law" (zQ st) f cdv A outer s H E).tH (yS st) b):yj P w K mg base yo (k+1) f fd [x] (Wf K):=by
 refine d.ok S (λvs H Q E h=>?_) λcdv A outer s H vs Q E hr h=>?_
 ·obtain⟨a,ns,rfl,_⟩:=h;rfl
 ·obtain⟨a,ns,rfl,sq,l,hbits,q⟩:=h;obtain⟨o,hrun⟩:=hrun ns l hbits;obtain⟨t,p,kt⟩:=(hb cdv A outer s H E hr).h;obtain⟨fl,hfl,hrun⟩:=zD hrun;have r:Reps K H [.lst (ns.map D.int)] [.ref a]:=⟨_,_,rfl,⟨a,_,rfl,sq,Reps.ints,by rw[zm]; exact vL (by omega)⟩,rfl⟩;refine⟨t,p,kt (J8 (N:=N) (zb.refl H) r hN) hfl ?_⟩;cases fl with
  |nx τ=>cases hrun
  |rt o' d'=>
   cases hrun;cases o with
   |false=>
    intro v G H' _ r;cases(show v=.bl true from r);exact q H'
   |true=>exact λp G H' _ _ _ z=>z.elim
  |_=>cases hrun
end
theorem walkB{l:W.OpenLaw}{n k:Nat}{q:Program}{loose:List Str}{XP:(Str->Option Value)->Heap->Prop}{YP:World->Heap->Prop}{d:DefRec}{K:Params->W.Frag}{sp:W.Frag->Sp}{x:Str}
  (hn:l.most=some n)(hn2:n<=sizeLine)(hdf:d.params.defaults=[])(hr:yI k callerA)(hY:∀(w:World)(h:Heap),YP w h->(K w.params).In h)
  (F:∀(w:World)(mg:Str->Option Value)(fa:Addr)(h:Heap),(K w.params).In h->h.Ns mainGlobals mg->mg d.name=some (.ref fa)->
   ∃fd:FuncData,(∀(s:Shared)(u:Value),BindsTo s fd ⟨[u],[]⟩ [(x,u)])/\∀base:Heap,(K w.params).In base->base.Ns mainGlobals mg->yj l.prog w (K w.params) mg base yo k fa fd [x] (sp (K w.params)))
  (hsp:∀(K:W.Frag)(H:Hp)(a:Addr)(ns:List Int),ns.length<=n->(∀m∈ns,wP m<=1048576)->yJ K H a (ns.map V.int)->sp K [.ref a] H (λv _=>v=.bl true) λ_ _ _=>False) :
  W.WalkO q loose XP YP l.row.toRowW d [] (λf vs=>PySem.call f vs):=by
 intro w s0 s1 mg mb Gr Y fa o pm cd doc dV kV ho hd hcd hD hmg hg args vals as hpre hlay hrd hwl hlo;have e1:dV=.none:=Dflts.none hD hdf;have e2:kV=.none:=Dflts.noKw hD;subst e1 e2;obtain⟨a,vs,ns,rfl,rfl,hobj,hints,hlen⟩:=Att.script_of hn hpre hwl;have KX:=hY w _ Y;obtain⟨fd,hb,hF⟩:=F w mg fa _ KX Gr.T.g hmg;have main:=Ky KX Gr.T.g Gr.T.b Gr.T.builtins Gr.T.nolimit hg hobj hints (vQ hlen hn2) hr hF hb (λH _ hS=>hsp _ H a ns hlen (K_ hlay) hS) (λ_ _ _ z=>z);refine enter_call (Ty main λr s' hq=>?_);obtain⟨rfl,h2,h3,h4⟩:=hq;refine⟨.inl ⟨.bool true,.bool true,[],rfl,λ_=>rfl,.bool true,Att.post_true l _,λ_=>?_⟩,h2,h3,h4⟩;exact⟨List.Pairwise.nil,λ_ hm=>nomatch hm⟩
end L3
namespace L3
open PySem PySem.Spec PyProof.Rows L2
theorem HB{prog:Program}{w:World}{A:Around}{E:Value->Shared->Prop}{s:Shared}{a:Addr}{o:Obj}{xs:Array Value}{k:Nat}{name:Str}{Q:Option Value->Shared->Prop}
  (hx:s.heap.get? a=some o)(hc:o.cls=.type "list")(hdat:o.data=.seq xs k)(hd:o.dict=none)(hmiss:typeLookup (.type "list") name=pure none)
  (hname:(["__module__", "__name__", "__qualname__", "__doc__", "__annotations__"]:List Str).contains name=false)(hA:A.handled=none)
  (h:∀h' tk,(∀b ob,s.heap.get? b=some ob->h'.get? b=some ob)->Q none { s with heap:=h',toks:=tk })(hsz:name.length+100<=sizeLine) :
  wpAny (model prog w) A (getAttr? (.ref a) name) Q E s:=by
 obtain⟨c,dct,dat,sl⟩:=o;simp only at hc hdat hd;subst hc hdat hd;obtain⟨hp,g,d,tk,os⟩:=s;have hT:∀tk',(⟨hp,g,d,tk',os⟩:Shared).TypeIs (.ref a) "list" := λ_=>⟨_,hx,rfl⟩
 have f1:=sub_AttributeError;have f3:=Os.lookup;have f4:=Os.bind (.ref a);have f5:=am_list_getattr_none;unfold getAttr? getAttrBy? getAttrBy
 repeat (any_goals (first|assumption|exact hT _|((with_reducible show wpAny _ _ (call (Value.builtin "list.__getattribute__") _ _) _ _ _); refine Tw Os (hT _) am_entry_list_getattribute (F.args_list_getattribute_2 _ _) (meets_getattribute_miss_list a xs k sl name _ hmiss hname hsz) ⟨hx,hA,λh' tk' e hx'=>?_⟩)|wp_step))
 obtain⟨t',u',he⟩:=hx'.there;show wpAny _ _ (getattributeRaised _ _ _ _ _ _ _) _ _ _;unfold getattributeRaised
 repeat (any_goals (first|assumption|wp_step))
 exact h _ _ hx'.keeps
theorem T0:plainId "dict.update.loop" = true:=by decide +kernel
theorem Mx:entryFor table "dict.update.loop" = some Builtin.«dict.update.loop»:=entryFor_of_fast (by kernel_rfl)
theorem _root_.PySem.Heap.DictOf.Q3{prog:Program}{w:World}{h h':Heap}{a:Addr}{kvs:List (zK×Value)}(hm:h.DictOf (yg prog w) a kvs)(k:∀o,h.get? a=some o->h'.get? a=some o):h'.DictOf (yg prog w) a kvs:=
 let ⟨o',es,ep,ho,r⟩:=hm; ⟨o',es,ep,k _ ho,r⟩
theorem bf(kvs:List (zK×Value))(k:zK)(v:Value):(stored kvs k v).length<=kvs.length+1:=by
 unfold stored
 split
 ·rw[zm]; omega
 ·rw[yO]; exact yF _
def QR(h:Heap)(v:Value)(k:zK)(x:Value):Prop:=∃b key,v=.ref b/\jX k key=true/\IsTup h b #[key,x]
theorem Ce{prog:Program}{w:World}{A:Around}{R:Result->Shared->Prop}{d it l:Addr}{its:List Value}(hA:A.handled=none)(hdl:d≠l)(hdi:d≠it)(hli:l≠it) :
  ∀(kvs:List (zK×Value)) (i:Nat) (acc:List (zK×Value)) (s:Shared),s.heap.IsListIter it l i->s.heap.IsList l its.toArray->i+kvs.length=its.length->(∀j kv,kvs[j]?=some kv->∃v,its[i+j]?=some v/\QR s.heap v kv.1 kv.2)->
   s.heap.DictOf (yg prog w) d acc->acc.length+kvs.length<=sizeLine->(∀h' tk,h'.DictOf (yg prog w) d (kvs.foldl (λa kv=>stored a kv.1 kv.2) acc)->(∀b o,b≠d->b≠it->s.heap.get? b=some o->h'.get? b=some o)->R (.ok (.ret .none)) { s with heap:=h',toks:=tk })->
   wpAny (model prog w) A.in1 (Builtin.«dict.update.loop» ⟨[.ref d,.ref it,rawInt i,.none],[]⟩) (λfin s'=>match fin with|.done f=>R (.ok f) s'|.again c'=>c'.quiet=true/\codeAny (model prog w) A c' R s') (λe s'=>R (.error e) s') s
 | [],i,acc,s,st,hl,hn,hp,hd,hz,h=>by
  unfold Builtin.«dict.update.loop»;refine zX (wpAny_pyNext_list_end (by exact hA) st hl (by simp at hn ⊢; omega) λh' eb=>?_);show wpAny _ _ (Builtin.Dict.addKeywords d [] >>= _) _ _ _;refine zX (ya (ya ?_));exact h h' s.toks (hd.Q3 λo e=>eb d o hdi e) (λb o _ hb e=>eb b o hb e)
 |kv::kvs,i,acc,s,st,hl,hn,hp,hd,hz,h=>by
  obtain⟨v,hv,b,key,rfl,hk,ht⟩:=hp 0 kv rfl;unfold Builtin.«dict.update.loop»;refine zX (wpAny_pyNext_list_item st hl (x:=.ref b) (by simpa using hv) λh1 st1 sb=>?_);have keep1:∀c o,c≠it->s.heap.get? c=some o->h1.get? c=some o:=λc o hc e=>(sb.2 c hc).trans e
  have notIt:∀{c:Addr}{xs:Array Value},IsTup s.heap c xs->c≠it:=λ{c xs} t e=>by
   subst e;obtain⟨o,e1,c1,_⟩:=t;obtain⟨o',e2,c2,_⟩:=st;rw[e1]at e2;cases e2;rw[c1]at c2;exact absurd (Value.type.inj c2) (by decide)
  have notD:∀{c:Addr}{xs:Array Value},IsTup s.heap c xs->c≠d:=λ{c xs} t e=>by
   subst e;obtain⟨o,e1,c1,_⟩:=t;obtain⟨o',es,ep,e2,c2,_⟩:=hd;rw[e1]at e2;cases e2;have c3:=c2.1;rw[c1]at c3;exact absurd (Value.type.inj c3) (by decide)
  obtain⟨o,ho,hc,n,hdat⟩:=ht;have ho1:=keep1 b o (notIt ⟨o,ho,hc,n,hdat⟩) ho;have hd1:h1.DictOf (yg prog w) d acc:=hd.Q3 λo e=>keep1 d o hdi e
  refine zX (Ye (zX (wpAny_tryCatch ?_)));unfold Builtin.Dict.pairItems;refine zX (wpAny_typeOf (T := "tuple") ⟨o,ho1,hc⟩ ?_);rw[zM (by rfl)];refine zX (j5 ho1 hdat (ya ?_));refine Ye (wpAny_dictSet_pairs (knd:=yg prog w) (k:=kv.1) hk hd1 (λh2 hd2 sb2=>?_) (by omega));refine ya ⟨plainId_quiet T0 _,Tx Mx ?_⟩;rw[Om T0 _];have keep2:∀c o,c≠d->c≠it->s.heap.get? c=some o->h2.get? c=some o:=λc o h1' h2' e=>(sb2.2 c h1').trans (keep1 c o h2' e)
  have key2:∀{c:Addr}{xs:Array Value},IsTup s.heap c xs->IsTup h2 c xs:=λ{c xs} t=>by
   have a1:=notD t;have a2:=notIt t;obtain⟨o,e1,r⟩:=t;exact⟨o,keep2 c o a1 a2 e1,r⟩
  refine Ce (its:=its) hA hdl hdi hli kvs (i+1) (stored acc kv.1 kv.2) _ ?_ ?_ (by rw[yP]at hn; omega) (λj kv' e=>?_) hd2 ?_ λh' tk hd' kp=>?_
  ·exact st1.at λo e=>(sb2.2 it (λz=>hdi z.symm)).trans e
  ·obtain⟨o,e,r⟩:=hl;exact⟨o,keep2 l o (λz=>hdl z.symm) hli e,r⟩
  ·obtain⟨v',hv',b',key',rfl,hk',ht'⟩:=hp (j+1) kv' (by simpa using e);exact⟨_,by rw[show i+1+j=i+(j+1) by omega]; exact hv',b',key',rfl,hk',key2 ht'⟩
  ·have:=bf acc kv.1 kv.2;rw[yP]at hz;omega
  ·exact h h' tk hd' λc o h1' h2' e=>kp c o h1' h2' (keep2 c o h1' h2' e)
theorem GN{prog:Program}{w:World}{A:Around}{E:Value->Shared->Prop}{s:Shared}{l:Addr}{o:Obj}{its:List Value}{n:Nat}{kvs:List (zK×Value)}{Q:Value->Shared->Prop}(hA:A.handled=none)(ho:s.heap.get? l=some o)(hc:o.cls=.type "list")(hdd:o.dict=none)(hdat:o.data=.seq its.toArray n)
  (hn:kvs.length=its.length)(hp:∀(j:Nat)(kv:zK×Value),kvs[j]?=some kv->∃v,its[j]?=some v/\QR s.heap v kv.1 kv.2)(hz:kvs.length<=sizeLine)
  (h:∀h' tk,h'.DictOf (yg prog w) s.heap.objs.size (kvs.foldl (λa kv=>stored a kv.1 kv.2) [])->(∀b o,s.heap.get? b=some o->h'.get? b=some o)->Q (.ref s.heap.objs.size) { s with heap:=h',toks:=tk }) :
  wpAny (model prog w) A (call (.type "dict") [.ref l]) Q E s:=by
 refine callType_codes (Q₁:=λobj s₁=>obj=.ref s.heap.objs.size/\s₁={ s with heap:=s.heap.push { cls:=.type "dict",data:=.dict #[] } }) F.kt_called_dict (F.kt_typeCall_dict_1 _) F.entry_dict_init (kt_code_dict_new _ ⟨rfl,rfl⟩) ?_;rintro obj s₁ ⟨rfl,rfl⟩;have hnew:(s.heap.push { cls:=.type "dict",data:=.dict #[] }).DictOf (yg prog w) s.heap.objs.size []:=Heap.DictOf.new s.heap;refine⟨hnew.typeIs,F.args_dict_init_2 _ _,?_⟩;unfold Builtin.«dict.__init__»;refine zX ?_;unfold Builtin.Dict.selfAndRest;refine zX (wpAny_notOrdered_dict hnew.typeIs ?_);show wpAny _ _ (pure (s.heap.objs.size,[Value.ref l])) _ _ _;refine ya ?_;show wpAny _ _ (Builtin.Dict.updateFrom "dict.__init__" s.heap.objs.size (.ref l) [] .none) _ _ _;unfold Builtin.Dict.updateFrom;have hlt:=Heap.lt_size ho;have ho1:(s.heap.push { cls:=.type "dict",data:=.dict #[] }).get? l=some o:=Heap.get?_push_of_some _ ho;refine zX (wpAny_typeOf (T := "list") ⟨o,ho1,hc⟩ ?_);rw[zM (by rfl)];refine zX (HB (o:=o) ho1 hc hdat hdd (am_miss_of_fast (by kernel_rfl)) (by decide) (by exact hA) (λh1 tk1 kp1=>?_) (by decide));rw[zM (by rfl)];have hd1:h1.DictOf (yg prog w) s.heap.objs.size []:=hnew.Q3 λo e=>kp1 _ _ e
 have ho2:h1.get? l=some o:=kp1 _ _ ho1;have hl1:h1.IsList l its.toArray:=⟨o,ho2,hc,n,hdat⟩
 have hd1lt:s.heap.objs.size<h1.objs.size:=by
  obtain⟨o',_,_,e,_⟩:=hd1;exact Heap.lt_size e
 show wpAny _ _ (pure () >>= _) _ _ _;refine zX (ya (zX ?_));refine V5 (s:={ s with heap:=h1,toks:=tk1 }) hl1 ?_;refine ya ⟨plainId_quiet T0 _,Tx Mx ?_⟩;rw[Om T0 _];have k0:∀b ob,s.heap.get? b=some ob->(h1.push { cls:=.type "list_iterator",data:=.fields #[.ref l,.int 0 0] }).get? b=some ob:=λb ob e=>Heap.get?_push_of_some _ (kp1 b ob (Heap.get?_push_of_some _ e))
 refine Ce (l:=l) (its:=its) (A:=A.in1) (by exact hA) (xQ (qU hlt)) (xQ (wB hd1lt)) (xQ (wB (Tu hlt hd1lt))) kvs 0 [] _ ⟨_,Heap.get?_push_size _ rfl,rfl,rfl⟩ ⟨o,k0 l o ho,hc,n,hdat⟩ (by rw[vi]; exact hn) (λj kv e=>?_) (hd1.push _) (by simpa using hz) λh' tk hd' kp=>?_
 ·obtain⟨v,hv,b,key,rfl,hk,o',e1,r⟩:=hp j kv e;exact⟨_,by rw[vi]; exact hv,b,key,rfl,hk,o',k0 b o' e1,r⟩
 ·refine⟨rfl,h h' tk hd' λb ob e=>?_⟩;have hb:=Heap.lt_size e;exact kp b ob (xQ (wB hb)) (xQ (wB (Tu hb hd1lt))) (k0 b ob e)
section
variable{X:Cx}
theorem Dk{z6:List (Addr×Obj)}{σ:St}{H:Hp}{s:Shared}(I:zC X z6 σ H s):∀{kvs:List (zK×V)} {vs:List V} {its:List Value},ze vs its->kvs.length=vs.length->(∀(j:Nat)(kv:zK×V),kvs[j]?=some kv->∃b,vs[j]?=some (V.ref b)/\yb X.K H b [kV kv.1,kv.2])->
  ∃ws:List (zK×Value),KV kvs ws/\∀(j:Nat)(kw:zK×Value),ws[j]?=some kw->∃v,its[j]?=some v/\QR s.heap v kw.1 kw.2
 | [],_,_,_,_,_=>⟨[],.nil,λj kw e=>by cases e⟩
 |kv::kvs,[],_,_,h,_=>by cases h
 |kv::kvs,_::vs,_::its,.cons r t,h,hp=>by
  obtain⟨ws,rk,hw⟩:=Dk I t (by simpa using h) λj kv' e=>by
   obtain⟨b,e1,q⟩:=hp (j+1) kv' (by simpa using e);exact⟨b,by simpa using e1,q⟩
  obtain⟨b,e1,sq⟩:=hp 0 kv rfl;cases e1;obtain⟨is,ri,pt,_⟩:=I.tuple sq;obtain⟨key,x,rfl,rkey,rx⟩:=TZ ri;refine⟨(kv.1,x)::ws,.cons ⟨rfl,rx⟩ rk,λj kw e=>?_⟩;cases j with
  |zero=>
   cases e;exact⟨_,rfl,b,key,r,qL (P:=X.prog) (w:=X.w) rkey,pt⟩
  |succ j=>
   obtain⟨v,e2,q⟩:=hw j kw (by simpa using e);exact⟨v,by simpa using e2,q⟩
def S_(K:W.Frag):List V->Hp->VK->Prop:=λxs H Q=>∃a vs kvs,xs=[.ref a]/\yJ K H a vs/\kvs.length=vs.length/\(∀(j:Nat)(kv:zK×V),kvs[j]?=some kv->∃b,vs[j]?=some (.ref b)/\yb K H b [kV kv.1,kv.2])/\∀p,H p=none->Q (.ref p) (zT H p (.dK (uy [] kvs)))
theorem GM(hcalm:X.calm=true):xU X (.type "dict") (S_ X.K):=by
 intro z6 s σ H xs us Q I r h;obtain⟨a,vs,kvs,rfl,sq,hl,hp,q⟩:=h;obtain⟨u,rfl,ru⟩:=vg r;cases(show u=Value.ref a from ru);obtain⟨its,rv,⟨o,n,ho,hc,hdd,hdat⟩,hz⟩:=I.list sq;obtain⟨ws,rk,hw⟩:=Dk I rv hl hp;have hlw:ws.length=its.length:=by rw[<-rk.length,hl,rv.length]
 refine GN (I.ok.hd hcalm) ho hc hdd hdat hlw hw (by rw[hlw,<-rv.length]; exact hz) λh' tk dd kp=>?_
 have hle:(uy [] kvs).length<=sizeLine:=by
  have h1:=IM kvs [];rw[YZ]at h1;omega
 have hm:(s.heap.objs.size==sysModules)=false:=by
  have:=I.big;rw[kj];exact xQ (qU this)
 exact⟨.ref s.heap.objs.size,_,I.laid (a:=s.heap.objs.size) (o:=.dK (uy [] kvs)) (t':=tk) kp (yF _) (U8 hle hm (rk.merge .nil) dd),rfl,q _ I.fresh⟩
end
def Uj:List D->Option (List (Sum Int Str)×List D)
 | []=>some ([],[])
 |.tup [k,v]::r=>(wb k).bind λk=>(Uj r).bind λp=>some (k::p.1,v::p.2)
 |_=>none
def w6{α:Type}:List (Sum Int Str)->List α->List (Sum Int Str)->List α->List (Sum Int Str)×List α
 |ks,ds,k::r,v::q=>w6 (we ks k) (xK ks ds k v) r q
 |ks,ds,_,_=>(ks,ds)
def UD:List D->Option D
 | [.lst xs]=>(Uj xs).bind λp=>some (.dic (w6 [] [] p.1 p.2).1 (w6 [] [] p.1 p.2).2)
 |_=>none
theorem FI:∀{ks:List zK}{us:List V}{as:List zK}{vs:List V},ks.length=us.length->as.length=vs.length->uy (as.zip vs) (ks.zip us)=(w6 as vs ks us).1.zip (w6 as vs ks us).2/\(w6 as vs ks us).1.length=(w6 as vs ks us).2.length
 | [],[],as,vs,_,h=>⟨rfl,h⟩
 |k::ks,u::us,as,vs,h1,h2=>by
  have ih:=FI (ks:=ks) (us:=us) (as:=we as k) (vs:=xK as vs k u) (by simpa using h1) (XX h2);refine⟨?_,ih.2⟩;show uy (wJ (as.zip vs) k u) (ks.zip us)=_;rw[Tk h2];exact ih.1
theorem FH{K:W.Frag}{G:Hp}:∀{ks:List zK}{es:List D}{us:List V}{as:List zK}{ds:List D}{vs:List V},Reps K G es us->Reps K G ds vs->ks.length=us.length->as.length=vs.length->Reps K G (w6 as ds ks es).2 (w6 as vs ks us).2/\(w6 as ds ks es).1=(w6 as vs ks us).1
 | [],es,us,as,ds,vs,r1,r2,h1,h2=>by
  have e1:w6 as ds [] es=(as,ds):=by unfold w6; rfl
  have e2:w6 as vs [] us=(as,vs):=by unfold w6; rfl
  rw[e1,e2];exact⟨r2,rfl⟩
 |k::ks,es,[],as,ds,vs,r1,r2,h1,h2=>by cases h1
 |k::ks,[],u::us,as,ds,vs,r1,r2,h1,h2=>by cases(show _=[]from r1)
 |k::ks,e::es,_::_,as,ds,vs,r1,r2,h1,h2=>by
  obtain⟨v,r,ev,hv,hr⟩:=r1;cases ev;exact FH (ks:=ks) (es:=es) (as:=we as k) hr (r2.put hv) (by simpa using h1) (XX h2)
theorem FD{α:Type}:∀{ks:List zK}{es:List α}{as:List zK}{ds:List α},as.length=ds.length->(w6 as ds ks es).2.length<=ds.length+es.length
 | [],es,as,ds,_=>by
  have e:w6 as ds [] es=(as,ds):=by unfold w6; rfl
  rw[e];exact jx _ _
 |_::_,[],as,ds,_=>by
  have e:∀k ks,w6 as ds (k::ks) ([]:List α)=(as,ds):=λ_ _=>by unfold w6; rfl
  rw[e];exact jx _ _
 |k::ks,e::es,as,ds,h=>by
  have ih:=FD (ks:=ks) (es:=es) (as:=we as k) (ds:=xK as ds k e) (XX h);have:=Iw (ks:=as) (vs:=ds) (k:=k) (v:=e) h;show(w6 (we as k) (xK as ds k e) ks es).2.length<=_;rw[yP];omega
theorem Ba{K:W.Frag}{G:Hp}:∀{xs:List D}{vs:List V}{ks:List zK}{ds:List D},Uj xs=some (ks,ds)->Reps K G xs vs->∃us,Reps K G ds us/\ks.length=us.length/\ks.length=vs.length/\∀(j:Nat)(kv:zK×V),(ks.zip us)[j]?=some kv->∃b,vs[j]?=some (V.ref b)/\yb K G b [kV kv.1,kv.2]
 | [],_,_,_,h,r=>by
  cases h;cases(show _=[]from r);exact⟨[],rfl,rfl,rfl,λj kv e=>by cases e⟩
 |x::xs,_,ks,ds,h,r=>by
  obtain⟨v,r',rfl,hv,hr⟩:=r;unfold Uj at h
  split at h
  ·rename_i e; cases e
  ·rename_i k y r2 e;cases e;obtain⟨key,hk,h⟩:=zD h;obtain⟨⟨ks2,ds2⟩,h2,h⟩:=zD h;cases h;obtain⟨us,q1,q2,q3,q4⟩:=Ba h2 hr;obtain⟨b,ws,rfl,sq,⟨u1,_,rfl,hu1,⟨u2,_,rfl,hu2,e3⟩⟩,_⟩:=hv;cases(show _=[]from e3);refine⟨u2::us,⟨u2,us,rfl,hu2,q1⟩,by rw[yP,yP,q2],by rw[yP,yP,q3],λj kv e=>?_⟩;cases j with
   |zero=>
    cases e;refine⟨b,rfl,?_⟩;rw[<-jY hk hu1];exact sq
   |succ j=>
    obtain⟨b',e1,e2⟩:=q4 j kv (by simpa using e);exact⟨b',by simpa using e1,e2⟩
  ·cases h
theorem bE{X:Cx}{e:Expr}{fs:FA}{p pos:Pos}(hcalm:X.calm=true)(hg:Gl X "dict")(hm:X.mg "dict" = none)(hv:bootBuiltins "dict" = some (.type "dict"))(ha:SA X [e] fs)(hs:yZ e=true:=by rfl):SF X (.Call (.Name "dict" p) [e] [] pos) (eL UD fs):=by
 obtain⟨t,pt,k⟩:=ha.h;refine⟨⟨_,(YD (GM hcalm) hg hm hv ⟨pt⟩ (by decide) (by decide) (by rw[xf,hs]; rfl)).h,λ{G0 H0 G H τ σ d Q} E hf q=>?_⟩⟩;obtain⟨ds,hd,hf⟩:=zD hf;refine k E hd λvs G1 H1 x1 r1=>?_
 unfold UD at hf
 split at hf
 ·rename_i xs;obtain⟨⟨ks,es⟩,hk,hf⟩:=zD hf;cases hf;obtain⟨v,rfl,a,ws,rfl,sq,rs,l⟩:=u_ r1;obtain⟨us,q1,q2,q3,q4⟩:=Ba hk rs;obtain⟨z1,z2⟩:=FI (ks:=ks) (us:=us) (as:=[]) (vs:=[]) q2 rfl;obtain⟨z3,z4⟩:=FH (ks:=ks) (as:=[]) (ds:=[]) (vs:=[]) q1 rfl q2 rfl;refine⟨a,ws,ks.zip us,rfl,vf x1.gh sq,by rw[j0,q2,qA,<-q2,q3],λj kv e=>?_,λp hp=>?_⟩
  ·obtain⟨b,e1,e2⟩:=q4 j kv e;exact⟨b,e1,uH x1.gh e2⟩
  ·refine q p _ _ (x1.trans (zN.tF x1.gh hp)) (x1.h.free hp) (x1.gh.free hp) ⟨(w6 [] [] ks us).2,?_,?_,z3,?_⟩
   ·show zT H1 p (.dK (uy [] (ks.zip us))) p=some (.dK ((w6 [] [] ks es).1.zip (w6 [] [] ks us).2));rw[yi,z4];exact congrArg (λx=>some (HO.dK x)) z1
   ·show(w6 [] [] ks es).1.length=_;rw[z4];exact z2
   ·have:=FD (ks:=ks) (es:=es) (as:=[]) (ds:=[]) rfl;have e1:es.length=ws.length:=by rw[<-q1.length,<-q2,q3]
    rw[rs.length]at e1;show(w6 [] [] ks es).2.length<=sizeLine;simp only[YZ,vi]at this;omega
 ·cases hf
open PyProof Builtin Builtin.Str
section
variable{X:Cx}{e o a b c:Expr}{f fo fa fb fc:FE}{x:Str}{xp p pos apos cpos:Pos}
theorem Ma:bootBuiltins "dict" = some (.type "dict"):=by decide +kernel
theorem Reps.set{K:W.Frag}{G:Hp}{d:D}{v:V}(hv:zS K G d v):∀{ds:List D}{vs:List V}(n:Nat),Reps K G ds vs->Reps K G (ds.set n d) (vs.set n v)
 | [],_,_,r=>by cases(show _=[]from r); rfl
 |d'::ds,_,0,r=>by
  obtain⟨u,r',rfl,hu,hr⟩:=r;exact⟨v,r',rfl,hv,hr⟩
 |d'::ds,_,n+1,r=>by
  obtain⟨u,r',rfl,hu,hr⟩:=r;exact⟨u,_,rfl,hu,Reps.set hv n hr⟩
end
end L3
namespace L2
open PySem PySem.Spec PyProof.Rows
def QJ(K:W.Frag)(a:Addr):It:=
  ⟨λi H=>∃xs x,yJ K H a xs/\xs[i]?=some x,
   λi H v H'=>∃p,H p=none/\v=.ref p/\∀xs,yJ K H a xs->∃x,xs[i]?=some x/\H'=zT H p (.tup [.int (i:Int),x]),
   λi H=>∃xs,yJ K H a xs/\xs.length<=i⟩
theorem dC{P:Program}{w:World}{K:W.Frag}{elts:List Expr}{kk:Nat}{pos:Pos}(a e it:Addr)(hei:e≠it) :
  jL P w K (.Tuple elts kk pos) (QJ K a) [e,it] e (λi h=>(∃old,IsEnum h e it (i:Int) old)/\h.IsListIter it a i) where
 mem:=by simp
 obj:=λi h st c hc=>by
  obtain⟨⟨old,s1⟩,⟨o2,s2,_,d2⟩⟩:=st;simp only[yl,t_,or_false]at hc;rcases hc with rfl|rfl
  ·exact⟨_,s1,λv q=>nomatch q⟩
  ·exact⟨_,s2,λv q=>by rw[d2]at q; cases q⟩
 keep:=λi h h' st k=>by
  obtain⟨⟨old,s1⟩,s2⟩:=st;exact⟨⟨old,k e (by simp) _ s1⟩,s2.at λo x=>k it (by simp) o x⟩
 item:=by
  intro X hP hw hK hc i z6 s σ H E I hf st hg;subst hP hw hK;obtain⟨⟨old,s1⟩,s2⟩:=st;obtain⟨xs,x,hx,ex⟩:=hg;obtain⟨us,ru,pu,_⟩:=I.list hx;have pl:=pu.isList;obtain⟨xu,hxu,rxu⟩:=ru.get ex;have hx':us.toArray[i]?=some xu:=by rw[YY]; exact hxu
  have lt1:e<s.heap.objs.size:=Heap.lt_size s1;have lt2:it<s.heap.objs.size:=by obtain⟨o,z,_⟩:=s2; exact Heap.lt_size z
  refine wpAny_pyNext_enum_item s1 s2 pl hx' hei λh1 heo hit1 ht1 hz1 hk1=>?_
  refine⟨_,rfl,wpAny_letOwnedTupleGo_enum (s:={ s with heap:=h1,toks:=s.toks+1 }) heo λh2 he2 hs2=>?_⟩
  replace hs2:Heap.SameBut e h1 h2:=hs2
  have hTs:s.heap.get? s.heap.objs.size=none:=by
   cases q:s.heap.get? s.heap.objs.size with
   |none=>rfl
   |some o=>exact absurd (Heap.lt_size q) (wW _)
  have hTf:H s.heap.objs.size=none:=I.zZ.fresh (yF _);have tup:h2.get? s.heap.objs.size=some { cls:=.type "tuple",data:=.seq #[.int i s.toks,xu] }:=hs2.extBut _ _ (qU lt1) ht1
  have kk:∀c o,c ∉ [e,it]->s.heap.get? c=some o->h2.get? c=some o:=λc o hc z=>by
   simp only[yl,t_,or_false,not_or]at hc;exact hs2.extBut _ _ hc.1 (hk1 c o hc.1 hc.2 z)
  have new:yx X.prog X.w (zT H s.heap.objs.size (.tup [.int (i:Int),x])) h2 s.heap.objs.size (.tup [.int (i:Int),x]):=⟨(by show 2<=sizeLine; decide),[.int i s.toks,xu],.cons ⟨_,rfl⟩ (.cons rxu .nil),⟨_,tup,rfl,_,rfl⟩⟩;refine⟨.ref s.heap.objs.size,zT H s.heap.objs.size (.tup [.int (i:Int),x]),I.LM (tk:=s.toks+1) hf kk hTs hTf new,rfl,⟨s.heap.objs.size,hTf,rfl,λxs' hx'=>?_⟩,⟨⟨xu,?_⟩,hit1.at λo z=>hs2.extBut _ _ hei.symm z⟩,λc hc=>?_⟩
  ·rw[I.V9 hx' hx];exact⟨x,ex,rfl⟩
  ·rw[show((i+1:Nat):Int)=(i:Int)+1 from rfl];exact he2
  ·rw[yH]
   ·exact(hf c hc).1
   ·intro q
    have hlt:c<s.heap.objs.size:=by
     simp only[yl,t_,or_false]at hc;rcases hc with rfl|rfl
     ·exact lt1
     ·exact lt2
    rw[q]at hlt;exact absurd hlt (wW _)
 done:=by
  intro X hP hw hK hc i z6 s σ H E I hf st hg;subst hP hw hK;obtain⟨⟨old,s1⟩,s2⟩:=st;obtain⟨xs,hx,hend⟩:=hg;obtain⟨us,ru,pu,_⟩:=I.list hx;have pl:=pu.isList
  have hx':us.toArray[i]?=none:=by
   rw[YY];exact Wq (by have:=ru.length; omega)
  refine wpAny_pyNext_enum_end (by exact I.ok.hd hc) s1 s2 pl hx' λh1 he1=>?_
  refine⟨rfl,I.but (tk:=s.toks) hf λc ob hcc eb=>?_⟩;simp only[yl,t_,or_false,not_or]at hcc;exact he1 c ob hcc.2 eb
 self:=λ_ _ _ _ _ st h=>by
  obtain⟨⟨old,s1⟩,_⟩:=st;exact wpAny_pyIter_enum s1 h
section
variable{X:Cx}
def KH(K:W.Frag)(ta:TA):TI:=λσ H R=>ta σ H λvs H1=>∃a xs,vs=[.ref a]/\yJ K H1 a xs/\R (QJ K a) H1
theorem SJ{a:Expr}{ta:TA}{p pos:Pos}{elts:List Expr}{kk:Nat}{tp:Pos}(hg:Gl X "enumerate")(hm:X.mg "enumerate" = none)(ha:PA X [a] ta)(hs:starEach [a] X.env=[(false,eval a X.env)]:=by rfl) :
  PI X (.Tuple elts kk tp) (.Call (.Name "enumerate" p) [a] [] pos) (KH X.K ta):=by
 intro z6 s σ H R I h;refine Call_ (Zu I hg hm boot_enumerate (Tv (zh (ha pos z6 s σ H _ I h) λus s1 ⟨vs,H1,I1,r1,q1⟩=>?_) (by rw[hs]; rfl) rfl));obtain⟨l1,xs,rfl,hx,q⟩:=q1;obtain⟨u,rfl,ru⟩:=vg r1;cases(show u=Value.ref l1 from ru);obtain⟨us,_,pu,_⟩:=I1.list hx;refine call_enumerate_list pu.isList λh' a1 a2 hz kp=>?_
 have I2:zC X z6 σ H1 { s1 with heap:=h' }:=I1.kept (t':=s1.toks) kp;refine wpAny_pyIter_enum (s:={ s1 with heap:=h' }) a1 ?_;generalize hn:s1.heap.objs.size=n at a1 a2 hz;refine⟨n+1,[n+1,n],_,_,H1,rfl,I2,dC l1 (n+1) n (xQ (by omega)),⟨⟨_,a1⟩,a2⟩,λc hc=>?_,q⟩
 have hle:s1.heap.objs.size<=c:=by
  rw[hn];simp only[yl,t_,or_false]at hc;rcases hc with rfl|rfl
  ·exact jx _ _
  ·exact yF _
 exact I1.kz hle (I1.zZ.fresh hle)
end
end L2
namespace L3
open PySem PySem.Spec PyProof.Rows L2
def pO(xs:List D):List D:=List.zipWith (λ(i:Nat) x=>D.tup [.int (i:Int),x]) (List.range xs.length) xs
def Ub(a:FE):FA:=λσ=>(a σ).bind λd=>match d with
 |.lst xs=>some (pO xs)
 |_=>none
theorem XN(xs:List D):(pO xs).length=xs.length:=by simp[pO]
theorem DH(xs:List D)(i:Nat):(pO xs)[i]?=(xs[i]?).map λx=>D.tup [.int (i:Int),x]:=by
 unfold pO;rw[EE];by_cases h:i<xs.length
 ·rw[EA h,xD h]; rfl
 ·rw[Wq (by simpa using h),Wq (by omega)]; rfl
section
variable{K:W.Frag}{G H:Hp}
theorem Gu{a:Addr}{vs:List V}{xs:List D}(s1:yJ K G a vs)(r1:Reps K G xs vs):jN K (QJ K a) G (pO xs) where
 go:=λi G2 H g1 g2 hi=>by
  rw[XN]at hi;obtain⟨v,e1,_⟩:=r1.get (xD hi);exact⟨vs,v,vf (g1.trans g2) s1,e1⟩
 u3:=λi G2 H x H' g1 g2 hi y=>by
  obtain⟨p,hp,rfl,k⟩:=y;obtain⟨v,e1,rfl⟩:=k vs (vf (g1.trans g2) s1);obtain⟨d1,f1,q1⟩:=r1.at e1;refine⟨zT G2 p (.tup [.int (i:Int),v]),.tup [.int (i:Int),d1],zN.lay g2 hp,by rw[DH,f1]; rfl,?_⟩;have sm:zb G (zT G2 p (.tup [.int (i:Int),v])):=g1.trans (wn (g2.free hp) _);exact⟨p,[.int (i:Int),v],rfl,yb.of yi,⟨_,_,rfl,rfl,⟨v,_,rfl,q1.mono sm,rfl⟩⟩,vL (n:=2) (by decide)⟩
 stop:=λi G2 H g1 g2 hi=>by
  rw[XN]at hi;exact⟨vs,vf (g1.trans g2) s1,by rw[r1.length]; exact hi⟩
end
theorem bN{X:Cx}{a:Expr}{fa:FE}{p pos:Pos}{elts:List Expr}{kk:Nat}{tp:Pos}(hg:Gl X "enumerate")(hm:X.mg "enumerate" = none)(ha:SE X a fa)(hs:yZ a=true:=by rfl):SI X (.Tuple elts kk tp) (.Call (.Name "enumerate" p) [a] [] pos) (Ub fa):=by
 obtain⟨t,pt,k⟩:=(zB ha zP hs).h;refine⟨⟨_,SJ hg hm pt (vw hs),λ{G0 H0 G H τ σ ds R} K hf q=>?_⟩⟩;obtain⟨x,hx,hf⟩:=zD hf;cases x<;>first|(cases hf; done)|skip
 cases hf;rename_i xs;refine k K (ds:=[.lst xs]) (by unfold zA; rw[hx]; rfl) λvs G1 H1 x1 r1=>?_
 obtain⟨v,r,rfl,hv,hr⟩:=r1;cases(show r=[]from hr);obtain⟨aa,vs1,rfl,s1,q1,l1⟩:=hv;exact⟨aa,vs1,rfl,vf x1.gh s1,q _ _ _ x1 (by rw[XN]; exact l1) (Gu s1 q1)⟩
end L3
namespace L2
open PySem PySem.Spec PyProof PyProof.Rows
def g_(a:Int):List Int->List Int
 | []=>[a]
 |b::r=>if a<=b then a::b::r else b::g_ a r
def isort:List Int->List Int
 | []=>[]
 |a::r=>g_ a (isort r)
theorem Jz(a:Int):∀l:List Int,(g_ a l).Perm (a::l)
 | []=>Ou _
 |b::r=>by
  unfold g_
  split
  ·exact Ou _
  ·exact((Jz a r).cons b).trans (List.Perm.swap a b r)
theorem isort_perm:∀l:List Int,(isort l).Perm l
 | []=>Ou _
 |a::r=>(Jz a _).trans ((isort_perm r).cons a)
theorem BN(a:Int):∀{l:List Int},l.Pairwise (·<=·)->(g_ a l).Pairwise (·<=·)
 | [],_=>by simp[g_]
 |b::r,h=>by
  obtain⟨h1,h2⟩:=Wv.mp h;unfold g_
  split
  ·rename_i hab
   exact Wv.mpr ⟨λx hx=>by
    rcases yl.mp hx with rfl|hx
    ·exact hab
    ·exact Int.le_trans hab (h1 x hx),h⟩
  ·rename_i hab;refine Wv.mpr ⟨λx hx=>?_,BN a h2⟩;rcases yl.mp ((Jz a r).mem_iff.mp hx)with rfl|hx
   ·omega
   ·exact h1 x hx
theorem IA:∀l:List Int,(isort l).Pairwise (·<=·)
 | []=>List.Pairwise.nil
 |a::r=>BN a (IA r)
theorem OG:∀{a b:List Int},a.Perm b->a.Pairwise (·<=·)->b.Pairwise (·<=·)->a=b
 | [],b,p,_,_=>(List.nil_perm.mp p).symm
 |x::a,[],p,_,_=>by cases p.length_eq
 |x::a,y::b,p,ha,hb=>by
  obtain⟨h1,h2⟩:=Wv.mp ha;obtain⟨g1,g2⟩:=Wv.mp hb
  have e:x=y:=by
   have hx:x∈y::b:=p.mem_iff.mp (yr ..);have hy:y∈x::a:=p.mem_iff.mpr (yr ..);rcases yl.mp hx with rfl|hx
   ·rfl
   ·rcases yl.mp hy with e|hy
    ·exact e.symm
    ·exact Int.le_antisymm (h1 y hy) (g1 x hx)
  subst e;rw[OG (List.perm_cons x |>.mp p) h2 g2]
theorem Ci:∀{ns:List Int}{its:List Value},ze (ns.map V.int) its->IntsAre its ns
 | [],_,.nil=>.nil
 |n::ns,_,.cons r rr=>by
  obtain⟨t,rfl⟩:=r;exact .cons _ _ (Ci rr)
theorem J_:∀{ns:List Int}{its:List Value},IntsAre its ns->ze (ns.map V.int) its
 | [],_,.nil=>.nil
 |_::_,_,.cons _ _ r=>.cons ⟨_,rfl⟩ (J_ r)
section
variable{X:Cx}
theorem GX:xU X (.builtin "sorted") (λxs H Q=>∃p ns,xs=[.ref p]/\yJ X.K H p (ns.map V.int)/\ns.length<64/\∀l,H l=none->Q (.ref l) (zT H l (.lst ((isort ns).map V.int)))):=by
 intro z6 s σ H xs us Q I r h;obtain⟨p,ns,rfl,hq,h64,q⟩:=h;obtain⟨u,rfl,rx⟩:=vg r;cases rx;obtain⟨its,r',pl,hz⟩:=I.list hq;have hlen:=r'.length;rw[zm]at hlen;refine sorted_ints pl.isList (Ci r') (by omega) λout ns' a1 a2 a3=>?_
 have e:ns'=isort ns:=OG (a2.trans (isort_perm ns).symm) a3 (IA ns);subst e;obtain⟨c,hc⟩:=sortedAll_at s.heap its out;have hl2:(isort ns).length=ns.length:=(isort_perm ns).length_eq;refine⟨.ref (s.heap.objs.size+1),_,I.laid (t':=s.toks) (h':=sortedAll s.heap its out) (λ_ _=>sortedAll_old) (Wz _) (show yx X.prog X.w _ _ _ (.lst ((isort ns).map V.int))from⟨?_,out.toList,c,J_ a1,?_⟩),rfl,q _ (I.zZ.fresh (Wz _))⟩
 ·rw[zm,hl2];show _<=sizeLine;rw[zm]at hz;exact hz
 ·rw[Cv];exact hc
end
end L2
namespace L3
open PySem PySem.Spec PyProof.Rows L2
theorem Md:bootBuiltins "sorted" = some (.builtin "sorted"):=by decide +kernel
def intsOf:List D->Option (List Int)
 | []=>some []
 |.int i::r=>(intsOf r).bind λns=>some (i::ns)
 |_=>none
theorem BQ:∀{ds:List D}{ns:List Int},intsOf ds=some ns->ds=ns.map D.int
 | [],_,h=>by cases h; rfl
 |d::ds,ns,h=>by
  unfold intsOf at h
  split at h
  ·rename_i e; cases e
  ·rename_i i r e;cases e;obtain⟨ns',h1,h⟩:=zD h;cases h;rw[BQ h1];rfl
  ·cases h
theorem Fo{K:W.Frag}{G:Hp}:∀{ns:List Int}{vs:List V},Reps K G (ns.map D.int) vs->vs=ns.map V.int
 | [],_,r=>r
 |n::ns,_,r=>by
  obtain⟨v,r',rfl,hv,hr⟩:=r;rw[Fo hr,show v=V.int n from hv];rfl
theorem BO{K:W.Frag}{G:Hp}:∀ns:List Int,Reps K G (ns.map D.int) (ns.map V.int)
 | []=>rfl
 |n::ns=>⟨.int n,_,rfl,rfl,BO ns⟩
def JJ:List D->Option D
 | [.lst xs]=>(intsOf xs).bind λns=>if ns.length<64 then some (.lst ((isort ns).map D.int))else none
 |_=>none
theorem bK{X:Cx}{e:Expr}{fs:FA}{p pos:Pos}(hg:Gl X "sorted")(hm:X.mg "sorted" = none)(ha:SA X [e] fs)(hs:yZ e=true:=by rfl):SF X (.Call (.Name "sorted" p) [e] [] pos) (eL JJ fs):=by
 obtain⟨t,pt,k⟩:=ha.h;refine⟨⟨_,(T3 GX hg hm Md ⟨pt⟩ (by decide) (by decide) (by rw[xf,hs]; rfl)).h,λ{G0 H0 G H τ σ d Q} E hf q=>?_⟩⟩;obtain⟨ds,hd,hf⟩:=zD hf;refine k E hd λvs G1 H1 x1 r1=>?_
 match ds,hf with
 | [.lst xs],hf=>
  obtain⟨ns,hn,hf⟩:=zD (show(intsOf xs).bind _=some d from hf)
  split at hf
  ·rename_i h64;cases hf;obtain⟨v,rfl,a,us,rfl,sq,rs,l⟩:=u_ r1;rw[BQ hn]at rs l;rw[Fo rs]at sq;refine⟨a,ns,rfl,vf x1.gh sq,h64,λp hp=>q p _ _ (x1.trans (zN.tF x1.gh hp)) (x1.h.free hp) (x1.gh.free hp) ⟨_,yi,BO _,?_⟩⟩;rw[zm,(isort_perm ns).length_eq];rw[zm]at l;exact l
  ·cases hf
end L3
namespace L2
open PySem PySem.Spec PyProof.Rows
section
variable{X:Cx}
end
end L2
namespace L3
open PySem PySem.Spec PyProof.Rows L2
section
variable{X:Cx}{e o a b c:Expr}{f fo fa fb fc:FE}{x:Str}{xp p pos apos cpos:Pos}
end
section
variable{X:Cx}{a b:Expr}{fa fb:FE}{x:Str}{xp pos:Pos}
end
section
variable{X:Cx}{e:Expr}{es:List Expr}{fs:FA}{x:Str}{ps:List Str}{k j:Nat}{FF:List D->Option (Bool×D)}{p pos:Pos}
end
section
variable{X:Cx}{e:Expr}{es:List Expr}{fs:FA}{x y:Str}{ps:List Str}{k j:Nat}{FF:List D->Option (Bool×D)}{p pos pos' cpos:Pos}
end
section
variable{X:Cx}{x:Str}{xp pos apos cpos:Pos}
end
def tU:Option Sl->Option Sl
 |some (_,d)=>some (false,d)
 |none=>none
def UQ(τ:zp):zp:=τ.map tU
def TM(f:FT):FT:=λτ=>f (UQ τ)
theorem cP(τ:zp)(k:Nat)(h:k<τ.length):(((τ.take k).map tU)++τ.drop k).set k (tU τ[k])=((τ.take (k+1)).map tU)++τ.drop (k+1):=by
 have e:τ.drop k=τ[k]::τ.drop (k+1):=kY h;have l:((τ.take k).map tU).length=k:=by rw[zm,p_]; omega
 rw[e,EH _ _ (by omega),l,V0,Ts,Wx h,tz,Tp];rfl
section
variable{K:W.Frag}{n:Nat}{G0 H0 G H G' H':Hp}{τ:zp}{σ:St}
def gX(G G':Hp):Prop:=∀p,G p=none->G' p≠none->∃u,G' p=some u/\(∀xs,u≠.tup xs)/\∀o v,u≠.xj o v
theorem Rf{d:D}{p:Addr}(o:wY K G H d p):∃u,H p=some u/\(∀xs,u≠.tup xs)/\∀o v,u≠.xj o v:=by
 cases d with
 |lst ds=>obtain⟨vs,e,_⟩:=o; exact⟨_,e,(λxs z=>by cases z),(λo v z=>by cases z)⟩
 |dic ks ds=>obtain⟨vs,e,_⟩:=o; exact⟨_,e,(λxs z=>by cases z),(λo v z=>by cases z)⟩
 |_=>exact o.elim
theorem zn.EO{i:Nat}{b:Bool}{d:D}(E:zn K n G0 H0 G H τ σ)(hi:τ[i]?=some (some (b,d))):∃G',zn K n G0 H0 G' H (τ.set i (some (false,d))) σ/\zb G G'/\gX G G':=by
 cases b with
 |false=>
  refine⟨G,?_,zb.refl _,λp h1 h2=>absurd h1 h2⟩
  have e:τ.set i (some (false,d))=τ:=by
   apply Ow;intro j;by_cases hj:j=i
   ·subst hj; rw[jV (by rw[E.l2]; exact E.lt hi),hi]
   ·rw[u7 hj]
  rw[e];exact E
 |true=>
  have hin:=E.lt hi;obtain⟨p,e,g,z,o⟩:=E.ow i d hi;obtain⟨u',hu',nt⟩:=Rf o;obtain⟨u,hu,r⟩:=o.xj g;have eu:u=u':=by rw[hu]at hu'; cases hu'; rfl
  subst eu;have x:zN G0 H0 (zT G p u) H:=E.ext.xj z g hu;refine⟨zT G p u,⟨x,E.l1,by rw[vO]; exact E.l2,λj d' h=>?_,λj d' h=>?_,λj k e1 f q hne h1 h2=>?_⟩,wn g _,λq h1 h2=>?_⟩
  ·rcases wV h with⟨rfl,w⟩|⟨ne,w⟩
   ·cases w;exact⟨_,e,r⟩
   ·obtain⟨v,e',r'⟩:=E.fr j d' w;exact⟨v,e',r'.mono (wn g _)⟩
  ·rcases wV h with⟨rfl,w⟩|⟨ne,w⟩
   ·cases w
   ·obtain⟨q,e',g',z',o'⟩:=E.ow j d' w;refine⟨q,e',?_,z',o'.mono (wn g _) (zb.refl _)⟩;rw[yH (λc=>?_)]
    ·exact g'
    ·subst c;exact E.ap i j d d' q (λc=>ne c.symm) hi w e e'
  ·rcases wV h1 with⟨rfl,w⟩|⟨ne,w⟩
   ·cases w
   ·rcases wV h2 with⟨rfl,w'⟩|⟨ne',w'⟩
    ·cases w'
    ·exact E.ap j k e1 f q hne w w'
  ·rcases OT h2 with c|c
   ·subst c;exact⟨u,yi,nt⟩
   ·exact absurd h1 c
theorem gX.trans{G1 G2:Hp}(s2:zb G1 G2)(a:gX G G1)(b:gX G1 G2):gX G G2:=λp h1 h2=>by
 cases e:G1 p with
 |none=>exact b p e h2
 |some u=>
  obtain⟨u',hu,nt⟩:=a p h1 (by rw[e]; exact λz=>nomatch z);exact⟨u',s2 _ _ hu,nt⟩
theorem zn.LP(E:zn K n G0 H0 G H τ σ):∀k,k<=n->∃G',zn K n G0 H0 G' H (((τ.take k).map tU)++τ.drop k) σ/\zb G G'/\gX G G'
 |0,_=>⟨G,by rw[L7]; exact E,zb.refl _,λp h1 h2=>absurd h1 h2⟩
 |k+1,hk=>by
  obtain⟨G1,E1,s1,l1⟩:=zn.LP E k (by omega);have hkl:k<τ.length:=by rw[E.l2]; omega
  have e:=cP τ k hkl
  have gk:(((τ.take k).map tU)++τ.drop k)[k]?=some τ[k]:=by
   rw[YX (by rw[zm,p_]; omega),zm,p_,Nat.min_eq_left (by omega),V0,List.getElem?_drop,Nat.add_zero,xD hkl]
  cases t:τ[k]with
  |none=>
   refine⟨G1,?_,s1,l1⟩;rw[<-e,t]
   have e2:(((τ.take k).map tU)++τ.drop k).set k (tU none)=((τ.take k).map tU)++τ.drop k:=by
    apply Ow;intro j;by_cases hj:j=k
    ·subst hj; rw[jV (by rw[E1.l2]; omega),gk,t]; rfl
    ·rw[u7 hj]
   rw[e2];exact E1
  |some s=>
   obtain⟨b,d⟩:=s;rw[t]at gk;obtain⟨G2,E2,s2,l2⟩:=E1.EO gk;refine⟨G2,?_,s1.trans s2,l1.trans s2 l2⟩;rw[<-e,t];exact E2
theorem zn.EN(E:zn K n G0 H0 G H τ σ):∃G',zn K n G0 H0 G' H (UQ τ) σ/\zb G G'/\gX G G':=by
 obtain⟨G',E',s,l⟩:=E.LP n (yF _);refine⟨G',?_,s,l⟩;have e:τ.take n=τ:=by rw[<-E.l2]; exact Ww
 have e2:τ.drop n=[]:=by rw[<-E.l2]; exact List.drop_length
 rw[e,e2,ub]at E';exact E'
noncomputable def back(G G' G1:Hp):Hp:=λp=>if G p=none/\G' p≠none then none else G1 p
theorem zN.back{G1 H1:Hp}(s:zb G G')(sh:zb G' H)(x:zN G' H G1 H1):zN G H (back G G' G1) H1:=by
 refine⟨λb u e=>?_,x.h,λb u e=>?_,λp h=>?_⟩
 ·show(if G b=none/\G' b≠none then none else G1 b)=some u;rw[zO (λc=>by rw[c.1]at e; cases e)];exact x.g _ _ (s _ _ e)
 ·by_cases c:G b=none/\G' b≠none
  ·have e':(if G b=none/\G' b≠none then none else G1 b)=some u:=e;rw[zM c]at e';cases e'
  ·have e':(if G b=none/\G' b≠none then none else G1 b)=some u:=e;rw[zO c]at e';exact x.gh _ _ e'
 ·by_cases c:G p=none/\G' p≠none
  ·have e':(if G p=none/\G' p≠none then none else G1 p)≠none:=h;rw[zM c]at e';exact absurd rfl e'
  ·have e':(if G p=none/\G' p≠none then none else G1 p)≠none:=h;rw[zO c]at e';rcases x.new p e' with z|z
   ·by_cases g:G p=none
    ·exact absurd ⟨g,z⟩ c
    ·exact .inl g
   ·exact .inr z
end
section
variable{X:Cx}{e:Expr}{f:FE}{ft:FT}
theorem bZ(h:ST X e ft):ST X e (TM ft):=by
 obtain⟨t,p,k⟩:=h.h;refine⟨⟨t,p,λ{G0 H0 G H τ σ d Q} E hf q=>?_⟩⟩;obtain⟨G',E',s,l⟩:=E.EN;exact k E' hf λG1 H1 x1=>q _ _ (zN.back s E'.ext.gh x1)
end
def UK:D->D->Option D
 |.lst x,.int k=>if 0<=k/\k<=1000000/\x.length*k.toNat<=yY then some (.lst (List.replicate k.toNat x).flatten)else none
 |_,_=>none
theorem Gz{x y d:D}(h:UK x y=some d):∃xs k,x=.lst xs/\y=.int k/\(0<=k/\k<=1000000/\xs.length*k.toNat<=yY)/\d=.lst (List.replicate k.toNat xs).flatten:=by
 unfold UK at h
 split at h
 ·rename_i xs k;by_cases c:0<=k/\k<=1000000/\xs.length*k.toNat<=yY
  ·rw[zM c]at h;cases h;exact⟨_,_,rfl,rfl,c,rfl⟩
  ·rw[zO c]at h;cases h
 ·cases h
theorem Reps.rep{K:W.Frag}{G:Hp}{ds:List D}{vs:List V}(r:Reps K G ds vs):∀k:Nat,Reps K G (List.replicate k ds).flatten (List.replicate k vs).flatten
 |0=>rfl
 |k+1=>by
  rw[j3,YW,j3,YW];exact r.append (Reps.rep r k)
section
variable{X:Cx}{a b:Expr}{f fa fb:FE}{x:Str}{xp pos apos cpos:Pos}{e:Expr}
theorem bI(ha:SF X a fa)(hb:SE X b fb):SF X (.BinOp a .Mult b pos) (e2 UK fa fb):=by
 obtain⟨ta,pa,ka⟩:=ha.h;obtain⟨tb,pb,kb⟩:=hb.h;refine⟨⟨_,Ds Rc pa pb,λ{G0 H0 G H τ σ d Q} E hf q=>?_⟩⟩;obtain⟨x,hx,hf⟩:=zD hf;obtain⟨y,hy,hf⟩:=zD hf;refine ka E hx λp G1 H1 x1 hp gp o=>?_
 refine kb (E.go x1) hy λu G2 H2 x2 r2=>?_
 obtain⟨xs,k,rfl,rfl,c,rfl⟩:=Gz hf;obtain⟨vs,ev,rv,_⟩:=o;cases(show u=.int k from r2);have x12:=x1.trans x2;refine⟨p,k,vs,rfl,rfl,x2.h _ _ ev,by omega,by omega,by rw[rv.length,xi]; exact c.2.2,λp' hp'=>?_⟩;refine q p' _ _ (x12.trans (zN.tF x12.gh hp')) (x12.h.free hp') (x12.gh.free hp') ⟨_,yi,Reps.rep (rv.mono x2.g) _,?_⟩;rw[xi,Bh,Nat.mul_comm]; exact c.2.2
end
section
variable{X:Cx}{js:List Nat}{e c:Expr}{f:FE}{ft:FT}{g g':FS}{sts sa:List Stmt}{pos xp apos cpos:Pos}{x:Str}
end
def Nm(τ:zp):Bool:=τ.all λs=>match s with
 |some (true,_)=>false
 |_=>true
section
variable{X:Cx}{js:List Nat}{e0 e1:Expr}{f0 f1:FE}{fm fr:FS}{mid zf:List Stmt}{p1 p2 p3 xp cp sp apos cpos pos:Pos}{x:Str}{kd:Nat}
end
end L3
namespace L2
open PySem PySem.Spec PyProof PyProof.Rows
section
variable{X:Cx}
theorem RW:yB X (compareOp .IsNot) (λx y H Q=>∃a b,x=.bl a/\y=.bl b/\Q (.bl (!(a==b))) H):=by
 intro z6 s σ H x y v u Q I rx ry h;obtain⟨a,b,rfl,rfl,q⟩:=h;cases rx;cases ry;refine PySem.wpAny_isNot_plain (by cases a<;>cases b<;>rfl) ⟨.bl (!(a==b)),H,I,?_,q⟩;cases a<;>cases b<;>rfl
end
end L2
namespace L3
open PySem PySem.Spec PyProof.Rows L2
section
variable{X:Cx}{K:W.Frag}
def UI:D->D->Option D
 |.bl a,.bl b=>some (.bl (!(a==b)))
 |_,_=>none
theorem Pz:ui K (λx y H Q=>∃a b,x=.bl a/\y=.bl b/\Q (.bl (!(a==b))) H) UI:=λH x y u v d Q rx ry hf=>by
 unfold UI at hf
 split at hf
 ·rename_i a b;cases hf;exact⟨_,rfl,λq=>⟨a,b,rx,ry,q⟩⟩
 ·cases hf
end
def X0:List D->Option (List Bool)
 | []=>some []
 |.bl b::r=>(X0 r).bind λbs=>some (b::bs)
 |_=>none
theorem MZ:∀{ds:List D}{bs:List Bool},X0 ds=some bs->ds=bs.map D.bl
 | [],_,h=>by cases h; rfl
 |d::ds,bs,h=>by
  unfold X0 at h
  split at h
  ·rename_i e; cases e
  ·rename_i b r e;cases e;obtain⟨bs',h1,h⟩:=zD h;cases h;rw[MZ h1];rfl
  ·cases h
theorem Fq{K:W.Frag}{G:Hp}:∀{bs:List Bool}{vs:List V},Reps K G (bs.map D.bl) vs->vs=bs.map V.bl
 | [],_,r=>r
 |b::bs,_,r=>by
  obtain⟨v,r',rfl,hv,hr⟩:=r;rw[Fq hr,show v=V.bl b from hv];rfl
def JA:List D->Option D
 | [.lst xs]=>(X0 xs).bind λbs=>some (.bl (bs.all id))
 |_=>none
theorem P9{K:W.Frag}:qc K (Fa K) JA:=λG H ds vs d Q s r hf q=>by
 match ds,hf with
 | [.lst xs],hf=>
  obtain⟨bs,hb,hf⟩:=zD (show(X0 xs).bind _=some d from hf);cases hf;obtain⟨v,rfl,a,us,rfl,sq,rs,l⟩:=u_ r;rw[MZ hb]at rs;rw[Fq rs]at sq;exact⟨a,bs,rfl,sq,q _ _ _ (zN.refl s) rfl⟩
end L3
namespace L2
open PySem PySem.Spec PyProof PyProof.Rows
def memK(ks:List zK)(k:zK):Bool:=ks.any λk'=>decide (k'=k)
section
variable{prog:Program}{w:World}
end
section
variable{X:Cx}
end
theorem RT{X:Cx}:yB X (compareOp .Is) (λx y H Q=>∃a b,x=.bl a/\y=.bl b/\Q (.bl (a==b)) H):=by
 intro z6 s σ H x y v u Q I rx ry h;obtain⟨a,b,rfl,rfl,q⟩:=h;cases rx;cases ry;refine PySem.wpAny_is_plain (by cases a<;>cases b<;>rfl) ⟨.bl (a==b),H,I,?_,q⟩;cases a<;>cases b<;>rfl
end L2
namespace L3
open PySem PySem.Spec PyProof.Rows L2
def UG:D->D->Option D
 |.bl a,.bl b=>some (.bl (a==b))
 |_,_=>none
section
variable{X:Cx}{K:W.Frag}
theorem PX:ui K (λx y H Q=>∃a b,x=.bl a/\y=.bl b/\Q (.bl (a==b)) H) UG:=λH x y u v d Q rx ry hf=>by
 unfold UG at hf
 split at hf
 ·rename_i a b;cases hf;exact⟨_,rfl,λq=>⟨a,b,rx,ry,q⟩⟩
 ·cases hf
end
end L3
namespace L2
open PySem PySem.Spec PyProof PyProof.Rows
section
variable{prog:Program}{w:World}{K:Type}[DecidableEq K]{knd:KeyKind prog w K}{A:Around}{E:Value->Shared->Prop}
end
def keyOf:Value->zK
 |.int i _=>.inl i
 |.str x _=>.inr x
 |_=>.inl 0
section
variable{prog:Program}{w:World}
end
section
variable{M:Model}{A:Around}{E:Value->Shared->Prop}
end
section
variable{prog:Program}{w:World}{A:Around}{E:Value->Shared->Prop}
end
section
variable{prog:Program}{w:World}{A:Around}{E:Value->Shared->Prop}
end
section
variable{prog:Program}{w:World}{A:Around}{E:Value->Shared->Prop}
end
section
variable{X:Cx}
end
end L2
namespace L3
open PySem PySem.Spec PyProof.Rows L2
end L3
namespace L2
open PySem PySem.Spec PyProof PyProof.Rows
section
variable{X:Cx}{tg:Expr}
end
end L2
namespace L3
open PySem PySem.Spec PyProof.Rows L2
end L3
namespace L2
open PySem PySem.Spec PyProof PyProof.Rows
theorem ze.of_get:∀{xs:List V}{us:List Value},us.length=xs.length->(∀(j:Nat)(x:V)(v:Value),xs[j]?=some x->us[j]?=some v->zc x v)->ze xs us
 | [],[],_,_=>.nil
 | [],_::_,h,_=>by cases h
 |_::_,[],h,_=>by cases h
 |x::xs,u::us,h,f=>.cons (f 0 x u rfl rfl) (ze.of_get (by simpa using h) λj y v h1 h2=>f (j+1) y v (by simpa using h1) (by simpa using h2))
section
variable{X:Cx}
end
end L2
namespace L3
open PySem PySem.Spec PyProof.Rows L2
section
variable{X:Cx}{x y:Str}{xp yp pos apos cpos:Pos}{e:Expr}{f:FE}
end
structure Eg(K:W.Frag)(H0 G H:Hp)(p:Addr)(qs:List Addr)(nds:List (List D)):Prop where
 hp:H p=some (.lst (qs.map V.ref))
 p0:H0 p=none
 pg:G p=none
 np:p ∉ qs
 nd:qs.Nodup
 ln:nds.length=qs.length
 el:∀(j:Nat)(q:Addr),qs[j]?=some q->∃ds vs,nds[j]?=some ds/\H q=some (.lst vs)/\H0 q=none/\G q=none/\Reps K G ds vs/\ds.length<=sizeLine
structure Lj(K:W.Frag)(n:Nat)(G0 H0 G H:Hp)(τ:zp)(σ:St)(i:Nat)(nds:List (List D)):Prop where
 env:zn K n G0 H0 G H τ σ
 no:Nm τ=true
 eB:∃p qs,σ[i]?=some (some (.ref p))/\Eg K H0 G H p qs nds
inductive NF where
 |nx (nds:List (List D)) (τ:zp)
 |rt (d:D)
abbrev QO:=List (List D)->zp->Option NF
def Ef(K:W.Frag)(n:Nat)(G0 H0:Hp)(E:vl)(i:Nat):NF->Prop
 |.nx nds τ=>∀σ G H,Lj K n G0 H0 G H τ σ i nds->E.nx σ H
 |.rt d=>∀v G H,zN G0 H0 G H->zS K G d v->E.rt v H
structure NS(X:Cx)(i:Nat)(st:Stmt)(f:QO):Prop where
 h:∃t,PS X st t/\∀{G0 H0 G H:Hp}{τ:zp}{σ:St}{nds:List (List D)} {fl:NF} {E:vl},Lj X.K X.N.length G0 H0 G H τ σ i nds->f nds τ=some fl->Ef X.K X.N.length G0 H0 E i fl->t E σ H
section
variable{K:W.Frag}{n:Nat}{G0 H0 G H G' H':Hp}{τ:zp}{σ:St}{i:Nat}{nds:List (List D)}{p:Addr}{qs:List Addr}
end
section
variable{X:Cx}{i:Nat}{x:Str}{p pos pos' apos cpos xp sp:Pos}{e k v c tg iter:Expr}{f fk fv:FE}{ft:FT}{fs:FA}{st:Stmt}{sts body sa sb:List Stmt}{g g':QO}{fg:FG}
end
section
variable{X:Cx}{i:Nat}{x:Str}{pos pos' p spos:Pos}{e tg iter:Expr}{st:Stmt}{fi:zp->Option Nat}{fs:FA}{zf:List Stmt}{g:QO}{scope:Scope}{cl:List (Str×Addr)}{own:List Str}{tG:TG}{fg:FG}
end
section
variable{P:Program}{w:World}{K:W.Frag}{mg:Str->Option Value}{base:Heap}
end
section
variable{X:Cx}{e:Expr}{es:List Expr}{f:FE}{fs:FA}{x:Str}{p pos:Pos}{ps:List Str}{j k:Nat}{FF:List D->Option (Bool×D)}
end
end L3
namespace L2
open PySem PySem.Spec PyProof PyProof.Rows
section
variable{prog:Program}{w:World}{A:Around}{E:Value->Shared->Prop}
theorem Gb{s:Shared}{a:Addr}{kvs:List (zK×Value)}{ep:Nat}{Q:List Value->Shared->Prop}(hh:A.handled=none)(lo:(a==sysModules)=false)(hm:s.heap.DictAt (yg prog w) a kvs ep)(hb:kvs.length<=sizeLine)
  (h:∀h' tk vs,vs.length=kvs.length->(∀(j:Nat)(v:Value),vs[j]?=some v->∃k x,kvs[j]?=some (k,x)/\(yg prog w).is k v=true)->s.heap.objs.size<h'.objs.size->(∀b ob,s.heap.get? b=some ob->h'.get? b=some ob)->Q vs { s with heap:=h',toks:=tk }):wpAny (model prog w) A (collect (.ref a)) Q E s:=by
 unfold collect;refine zX (wpAny_runValue (Tx (entry_proto_collect') ?_));show wpAny _ _ (newList [] >>= λl=>again (.builtin "list.__iadd__" ⟨[l,.ref a],[]⟩)) _ _ s;refine zX (wpAny_newList (ya ⟨Code.quiet_builtin _ (by decide +kernel),Tx (entry_list_iadd') ?_⟩));have hlt:a<s.heap.objs.size:=hm.lt_size;have neS:s.heap.objs.size≠a:=xQ (qU hlt);rw[Om (by decide +kernel)]
 refine W.kdl_extend (R:=λr s'=>match r with
  |.ok (.ret v)=>wpAny (model prog w) A (match v with
   |Value.ref a=>(do
    let o <-load a
    match o.data with
    |.seq xs _=>pure xs.toList
    |_=>unsupported "internal:collect")
   |_=>unsupported "internal:collect") Q E s'
  |.ok _=>False
  |.error e=>E e s') (s:={ s with heap:=s.heap.push (seqObj "list" #[] 0) }) (W.kdl_dict (knd:=yg prog w) (kvs:=kvs) (ep:=ep) lo) (by exact hh) (hm.push _) s.heap.objs.size neS neS (.ref s.heap.objs.size) 0 (Heap.get?_push_size _ rfl) (λh' tk acc' c' hk hS' hacc=>?_) hb
 refine zX (wpAny_load hS' ?_);show wpAny _ _ (pure acc'.toList) _ _ _;refine ya (h h' tk acc'.toList (by rw[kW]; exact hacc.1) (λj v e=>hacc.2 j v (by rw[<-Oo]; exact e)) (Heap.lt_size hS') λb ob e=>?_);exact hk b ob (xQ (wB (Heap.lt_size e))) (Heap.get?_push_of_some _ e)
theorem bS{s:Shared}{a:Addr}{kvs:List (zK×Value)}{ep:Nat}{ns:List Int}{Q:Value->Shared->Prop}(hh:A.handled=none)(lo:(a==sysModules)=false)(hm:s.heap.DictAt (yg prog w) a kvs ep)(hk:kvs.map (·.1)=ns.map Sum.inl)(h64:ns.length<64)
  (h:∀h' tk p out c ns',s.heap.objs.size<=p->h'.get? p=some (seqObj "list" out c)->IntsAre out.toList ns'->ns'.Perm ns->ns'.Pairwise (·<=·)->(∀b ob,s.heap.get? b=some ob->h'.get? b=some ob)->Q (.ref p) { s with heap:=h',toks:=tk }) :
  wpAny (model prog w) A (call (.builtin "sorted") [.ref a]) Q E s:=by
 have hl:kvs.length=ns.length:=by
  have:=congrArg List.length hk
  rwa [zm,zm]at this
 have hb:kvs.length<=sizeLine:=by rw[xi]; omega
 refine Calls.call_function_entry kind_sorted plain_sorted entry_sorted (args_sorted1 _) ?_;unfold Builtin.«sorted»;refine zX (m:=checkCount "sorted" 1 1 _) (ya (zX (Gb (by exact hh) lo hm hb λh1 tk ord ol oe hle kp=>zX (wpAny_newList ?_ (by rw[ol]; exact hb)))))
 have hI:IntsAre ord ns:=by
  have:∀(vs:List Value)(kvs:List (zK×Value)) (ns:List Int),vs.length=kvs.length->kvs.map (·.1)=ns.map Sum.inl->(∀(j:Nat)(v:Value),vs[j]?=some v->∃k x,kvs[j]?=some (k,x)/\(yg prog w).is k v=true)->IntsAre vs ns:=by
   intro vs
   induction vs with
   |nil=>
    intro kvs ns h1 h2 _;cases kvs with
    |nil=>
     cases ns with
     |nil=>exact .nil
     |cons n ns=>cases h2
    |cons _ _=>cases h1
   |cons v vs ih=>
    intro kvs ns h1 h2 h3;cases kvs with
    |nil=>cases h1
    |cons kx kvs=>
     cases ns with
     |nil=>cases h2
     |cons n ns=>
      obtain⟨k,x,e,z⟩:=h3 0 v rfl;cases e;have e0:k=Sum.inl n:=(List.cons.inj h2).1;subst e0;obtain⟨t,rfl⟩:=Value.isInt_shape (k:=n) (v:=v) z;exact .cons _ _ (ih kvs ns (by simpa using h1) (List.cons.inj h2).2 λj u hu=>by simpa using h3 (j+1) u (by simpa using hu))
  exact this ord kvs ns ol hk oe
 have l64:ord.length<64:=by omega
 have g1:(h1.push (seqObj "list" ord.toArray 0)).get? h1.objs.size=some (seqObj "list" ord.toArray 0):=Heap.get?_push_size _ rfl;refine zX (Ye (V2 slot_list_sort ⟨_,g1,rfl⟩ entry_list_sort (list_sort_tree g1 hI l64 λout ns' a1 a2 a3=>⟨_,rfl,?_⟩) (args_list_sort _)));obtain⟨c,hc⟩:=sortedHeap_at (vs:=ord) (out:=out) g1;refine ya ⟨_,rfl,h _ tk h1.objs.size out c ns' (Wy hle) hc a1 a2 a3 λb ob e=>?_⟩;have hbl:=Heap.lt_size (kp b ob e);rw[sortedHeap_old (xQ (wB hbl)) (by rw[size_push']; exact LA hbl)];exact Heap.get?_push_of_some _ (kp b ob e)
end
section
variable{X:Cx}
theorem Bb:∀{kvs:List (zK×V)} {vs:List (zK×Value)},KV kvs vs->vs.map (·.1)=kvs.map (·.1)
 |_,_,.nil=>rfl
 |_,_,.cons r t=>by rw[y_,y_,Bb t,r.1]
def A6:List V->Hp->VK->Prop:=λxs H Q=>∃(a:Addr) (kvs:List (zK×V)) (ns:List Int),xs=[.ref a]/\Rd H a (.dK kvs)/\kvs.map (·.1)=ns.map Sum.inl/\ns.length<64/\∀l,H l=none->Q (.ref l) (zT H l (.lst ((isort ns).map V.int)))
theorem GW(hcalm:X.calm=true):xU X (.builtin "sorted") A6:=by
 intro z6 s σ H xs us Q I r h;obtain⟨a,kvs,ns,rfl,ea,hk,h64,q⟩:=h;obtain⟨u,rfl,ru⟩:=vg r;cases(show u=Value.ref a from ru);obtain⟨_,lo,vs,rel,o,es,ep,ho,hx,hd,k1,k2,k3⟩:=tQ I.zZ ea;have hm:s.heap.DictAt (yg X.prog X.w) a vs ep:=⟨o,es,ho,hx,hd,k1,k2,k3⟩;refine bS (I.ok.hd hcalm) lo hm ((Bb rel).trans hk) h64 λh' tk p out c ns' hp hc a1 a2 a3 kp=>?_
 have e:ns'=isort ns:=OG (a2.trans (isort_perm ns).symm) a3 (IA ns);subst e;have hl2:(isort ns).length=ns.length:=(isort_perm ns).length_eq;refine⟨.ref p,_,I.laid (t':=tk) (h':=h') kp hp (show yx X.prog X.w _ _ _ (.lst ((isort ns).map V.int))from⟨?_,out.toList,c,J_ a1,?_⟩),rfl,q _ (I.zZ.fresh hp)⟩
 ·rw[zm,hl2];show _<=sizeLine;rw[xi];omega
 ·rw[Cv];exact hc
end
end L2
namespace L3
open PySem PySem.Spec PyProof.Rows L2
def Zr:List (Sum Int Str)->Option (List Int)
 | []=>some []
 |.inl i::r=>(Zr r).bind λns=>some (i::ns)
 |.inr _::_=>none
theorem BZ:∀{ks:List (Sum Int Str)} {ns:List Int},Zr ks=some ns->ks=ns.map Sum.inl
 | [],_,h=>by cases h; rfl
 |.inl i::r,_,h=>by
  obtain⟨ns,h1,h⟩:=zD h;cases h;rw[BZ h1];rfl
 |.inr _::_,_,h=>by cases h
def JI:List D->Option D
 | [.dic ks _]=>(Zr ks).bind λns=>if ns.length<64 then some (.lst ((isort ns).map D.int))else none
 |_=>none
theorem bJ{X:Cx}{e:Expr}{fs:FA}{p pos:Pos}(hcalm:X.calm=true)(hg:Gl X "sorted")(hm:X.mg "sorted" = none)(ha:SA X [e] fs)(hs:yZ e=true:=by rfl) :
  SF X (.Call (.Name "sorted" p) [e] [] pos) (eL JI fs):=by
 obtain⟨t,pt,k⟩:=ha.h;refine⟨⟨_,(T3 (p:=p) (pos:=pos) (GW hcalm) hg hm Md ⟨pt⟩ (by decide) (by decide) (by rw[xf,hs]; rfl)).h,λ{G0 H0 G H τ σ d Q} E hf q=>?_⟩⟩;obtain⟨ds,hd,hf⟩:=zD hf;refine k E hd λvs G1 H1 x1 r1=>?_
 match ds,hf with
 | [.dic ks xs],hf=>
  obtain⟨ns,hn,hf⟩:=zD hf;by_cases c:ns.length<64
  ·rw[zM c]at hf;cases hf;obtain⟨v,rfl,a,us,rfl,sq,hl,rs,l⟩:=u_ r1;refine⟨a,ks.zip us,ns,rfl,Rd.mono x1.gh sq,?_,c,λp' hp'=>?_⟩
   ·rw[<-BZ hn];exact List.map_fst_zip (by omega)
   ·refine q p' _ _ (x1.trans (zN.tF x1.gh hp')) (x1.h.free hp') (x1.gh.free hp') ⟨_,yi,Reps.ints,?_⟩;rw[zm,(isort_perm ns).length_eq,xi];show _<=16777216;omega
  ·rw[zO c]at hf;cases hf
end L3
namespace L2
open PySem PySem.Spec PyProof PyProof.Rows
section
variable{X:Cx}{x:Str}{e:Expr}{es:List Expr}{t:TA}{p pos:Pos}{i j:Nat}
end
end L2
namespace L3
open PySem PySem.Spec PyProof.Rows L2
section
variable{X:Cx}{x y o gn:Str}{e:Expr}{es:List Expr}{fs:FA}{p p2 pos pos' xp gp op apos cpos:Pos}{i io iy j:Nat}{body zf:List Stmt}{t:TS}{g:FS}
end
section
variable{X:Cx}{x y o gn:Str}{e:Expr}{es:List Expr}{fs:FA}{p p2 pos pos' xp xp2 gp op apos cpos:Pos}{i io iy j:Nat}{zf:List Stmt}{g:FS}{a:Addr}{names:List Str}{Fs:List (List D->Option (Bool×D))}{gs:List FS}
end
section
variable{α:Type}{P:List α->Prop}
theorem di(h:P []):∀us:List α,us.length=0->P us
 | [],_=>h
theorem Wj{n:Nat}(h:∀a (r:List α),r.length=n->P (a::r)):∀us:List α,us.length=n+1->P us
 |a::r,e=>h a r (Yb e)
theorem wL(h:∀a,P [a]):∀us:List α,us.length=1->P us:=Wj λa=>di (P:=λr=>P (a::r)) (h a)
theorem xC(h:∀a b,P [a,b]):∀us:List α,us.length=2->P us:=Wj λa=>wL (P:=λr=>P (a::r)) (h a)
theorem jo(h:∀a b c,P [a,b,c]):∀us:List α,us.length=3->P us:=Wj λa=>xC (P:=λr=>P (a::r)) (h a)
theorem TY(h:∀a b c d,P [a,b,c,d]):∀us:List α,us.length=4->P us:=Wj λa=>jo (P:=λr=>P (a::r)) (h a)
theorem dk(h:∀a b c d e,P [a,b,c,d,e]):∀us:List α,us.length=5->P us:=Wj λa=>TY (P:=λr=>P (a::r)) (h a)
end
abbrev zx(x:Str)(st:Stmt)(oc:Value)(od:Option Addr)(sl:Array (Option Value))(kV dc pm:Value)(an:Option Addr)(cd ct:Value):Option Obj:=some ⟨oc,od,.func (W.fnOf x x (yy st) (yS st) (zQ st) .none kV dc pm an cd ct),sl⟩
section
variable{P:Program}{w:World}{K:W.Frag}{mg:Str->Option Value}{base:Heap}
end
section
variable{X:Cx}{tg iter elt:Expr}{scope:Scope}{cl:List (Str×Addr)}{own:List Str}{pos p1:Pos}{fs:FA}{fg:FG}{f:FE}{tG:TG}{st:Stmt}{sts:List Stmt}{g:FS}{b:FSN}
end
open PyProof
section
variable{X:Cx}{i m:Nat}{x:Str}{es:List Expr}{p pos pos' spos:Pos}
end
section
variable{X:Cx}{K:W.Frag}
end
end L3
namespace L2
open PySem PySem.Spec PyProof PyProof.Rows
theorem Ki{k:zK}{v:Value}(h:jX k v=true):zc (kV k) v:=by
 rcases qk h with⟨i,t,rfl,rfl⟩|⟨x,t,rfl,rfl⟩
 ·exact⟨t,rfl⟩
 ·exact⟨t,rfl⟩
theorem ID:∀{kvs:List (zK×V)} {vs:List (zK×Value)},KV kvs vs->vs.length=kvs.length
 |_,_,.nil=>rfl
 |_,_,.cons _ t=>by rw[yP,yP,ID t]
end L2
namespace L3
open PySem PySem.Spec PyProof PyProof.Rows L2
def keyOf:zK->D
 |.inl i=>.int i
 |.inr x=>.str x
def je:zK->Bool
 |.inl _=>true
 |.inr x=>decide (x.length<=yY)
theorem Kj{K:W.Frag}{G:Hp}{k:zK}(h:je k=true):zS K G (keyOf k) (kV k):=by
 cases k with
 |inl i=>rfl
 |inr x=>exact⟨rfl,by rw[xi]; exact xE h⟩
end L3
namespace L2
open PySem PySem.Spec PyProof PyProof.Rows
section
variable{X:Cx}{A:Addr}{ks:List zK}{us:List V}{x:Str}{p apos cpos:Pos}
end
end L2
namespace L3
open PySem PySem.Spec PyProof PyProof.Rows L2
end L3
namespace L2
open PySem PySem.Spec PyProof PyProof.Rows
section
variable{X:Cx}{x n:Str}{p pos np hpos tpos:Pos}{e e1 e2:Expr}{es:List Expr}{ta:TA}{te:TE}{tx:TX}{ps:List Str}{j k i:Nat}{sp:Sp}{E:XK}{D:Addr}{suite:List Stmt}{ts:TS}{b₀:Stmt}
end
end L2
namespace L3
open PySem PySem.Spec PyProof PyProof.Rows L2
section
variable{X:Cx}{E:XK}{x:Str}{C:Addr}{st:Stmt}{sts zf:List Stmt}{g:FS}{f:FSX}{ft:FT}{fa:FA}{c e:Expr}{es:List Expr}{np cpos pos ipos:Pos}
end
section
variable{P:Program}{w:World}{K:W.Frag}{mg:Str->Option Value}{base:Heap}
end
section
variable{X:Cx}{iy i j k kb:Nat}{y n x z f g pn:Str}{C D:Addr}{ps:List Str}{F:FX}{B:Str->Option Bool}{fa:FA}{fc:FE}{c e:Expr}{es:List Expr}{yp fp cp ap np gp mp gc bp rp hpos tpos:Pos}
end
end L3
namespace L2
open PySem PySem.Spec PyProof PyProof.Rows
section
variable{prog:Program}{w:World}{A:Around}{E:Value->Shared->Prop}{s:Shared}
end
end L2
namespace L3
open PySem PySem.Spec PyProof PyProof.Rows L2
end L3
namespace L2
open PySem PySem.Spec PyProof PyProof.Rows
section
variable{X:Cx}{z6:List (Addr×Obj)}{σ:St}{H:Hp}{s:Shared}{a:Addr}{o:Obj}{kvs:List (zK×V)}
end
theorem Bc:∀{kvs:List (zK×V)} {vs:List (zK×Value)} {i:Nat} {k:zK} {x:Value},KV kvs vs->vs[i]?=some (k,x)->∃u,kvs[i]?=some (k,u)/\zc u x
 |_,_,_,_,_,.nil,e=>by cases e
 |_,_,0,_,_,.cons r t,e=>by
  cases e;obtain⟨r1,r2⟩:=r;exact⟨_,congrArg some (Prod.ext r1 rfl),r2⟩
 |_,_,i+1,_,_,.cons _ t,e=>Bc (i:=i) t (by simpa using e)
end L2
namespace L3
open PySem PySem.Spec PyProof PyProof.Rows L2
section
variable{K:W.Frag}{a:Addr}{o:Obj}{kvs:List (zK×V)}{G G' H H' G0 H0:Hp}
end
end L3
namespace L2
open PySem PySem.Spec PyProof PyProof.Rows
end L2
namespace L3
open PySem PySem.Spec PyProof PyProof.Rows L2
section
variable{X:Cx}{i:Nat}{tg iter elt:Expr}{ifs:List Expr}{scope:Scope}{cl:List (Str×Addr)}{own:List Str}{pos:Pos}{fs:FA}{fg:FG}{ft:FT}{f:FE}{g:TG}
end
end L3
namespace L2
open PySem PySem.Spec PyProof PyProof.Rows
end L2
namespace L3
open PySem PySem.Spec PyProof PyProof.Rows L2
end L3
namespace L2
open PySem PySem.Spec PyProof PyProof.Rows
section
variable{prog:Program}{w:World}{K:Type}[DecidableEq K]{knd:KeyKind prog w K}{A:Around}{E:Value->Shared->Prop}{s:Shared}
end
end L2
namespace L3
open PySem PySem.Spec PyProof PyProof.Rows L2
end L3
namespace L2
open PySem PySem.Spec PyProof PyProof.Rows
section
variable{prog:Program}{w:World}{A:Around}{R:Result->Shared->Prop}{I:Addr}{fp wr:List Addr}{n:Nat}{P:Nat->Value->Prop}{St:Nat->Heap->Prop}{kw:List (Str×Value)}
end
section
variable{prog:Program}{w:World}{A:Around}{E:Value->Shared->Prop}{s:Shared}
end
section
variable{X:Cx}
end
end L2
namespace L3
open PySem PySem.Spec PyProof PyProof.Rows L2
def XF:List D->Option (List Int)
 | []=>some []
 |.int i::r=>(XF r).bind λis=>some (i::is)
 |_::_=>none
theorem BP{K:W.Frag}{G:Hp}:∀{xs:List D}{ns:List Int}{vs:List V},XF xs=some ns->Reps K G xs vs->vs=ns.map V.int
 | [],ns,vs,h,r=>by
  cases h;exact(show vs=[]from r)
 |.int i::xs,ns,vs,h,r=>by
  obtain⟨is,h1,h⟩:=zD (show(XF xs).bind _=_ from h);cases h;obtain⟨v,r',rfl,hv,hr⟩:=r;cases(show v=.int i from hv);rw[BP h1 hr];rfl
 |.zG::_,_,_,h,_=>by cases h
 |.bl _::_,_,_,h,_=>by cases h
 |.str _::_,_,_,h,_=>by cases h
 |.tup _::_,_,_,h,_=>by cases h
 |.lst _::_,_,_,h,_=>by cases h
 |.dic _ _::_,_,_,h,_=>by cases h
 |.exc _::_,_,_,h,_=>by cases h
 |.obj _ _ _::_,_,_,h,_=>by cases h
def JD:List D->Option D
 | [.dic ks _]=>some (.int ks.length)
 |_=>none
theorem GQ{X:Cx}:xU X (.builtin "len") (λxs H Q=>∃a kvs,xs=[V.ref a]/\Rd H a (.dK kvs)/\Q (.int kvs.length) H):=by
 intro z6 s σ H xs us Q I r h;obtain⟨a,kvs,rfl,ha,q⟩:=h;obtain⟨u,rfl,ru⟩:=vg r;cases ru;exact Gg I ha λt s' I'=>⟨.int kvs.length,H,I',⟨t,rfl⟩,q⟩
theorem Pu{K:W.Frag}:qc K (λxs H Q=>∃a kvs,xs=[V.ref a]/\Rd H a (.dK kvs)/\Q (.int kvs.length) H) JD:=λG H ds vs d Q s r hf q=>by
 match ds,hf with
 | [.dic ks xs],hf=>
  cases hf;obtain⟨v,r',rfl,hv,hr⟩:=r;cases(show r'=[]from hr);obtain⟨a,vs,rfl,sq,hl,rs,_⟩:=hv;refine⟨a,_,rfl,sq,?_⟩;rw[j0,<-hl,qA];exact q _ _ _ (zN.refl s) rfl
section
variable{X:Cx}{j k kk i:Nat}{f x n z g:Str}{C D':Addr}{ps:List Str}{F:FX}{FF:List D->Option (Bool×D)}{fa:FA}{fc:FE}{fx:FEX}{gs:FS}{c e b:Expr}{es:List Expr}{b₀:Stmt}{suite sts:List Stmt}{fp cp np p p1 pos rp hpos tpos:Pos}
end
section
variable{P:Program}{w:World}{K:W.Frag}{mg:Str->Option Value}{base:Heap}
end
end L3
namespace L2
open PySem PySem.Spec PyProof PyProof.Rows
section
variable{X:Cx}
def A2:List V->Hp->VK->Prop:=λxs H Q=>∃(a:Addr) (kvs:List (zK×V)),xs=[.ref a]/\Rd H a (.dK kvs)/\kvs.length<=1000/\∀p,H p=none->Q (.ref p) (zT H p (.lst (kvs.map λkv=>kV kv.1)))
theorem GT(hcalm:X.calm=true):xU X (.type "list") A2:=by
 intro z6 s σ H xs us Q I r h;obtain⟨a,kvs,rfl,ea,hn,q⟩:=h;obtain⟨u,rfl,ru⟩:=vg r;cases(show u=Value.ref a from ru);obtain⟨_,lo,vs,rel,o,es,ep,ho,hx,hd,k1,k2,k3⟩:=tQ I.zZ ea;have hm:s.heap.DictAt (yg X.prog X.w) a vs ep:=⟨o,es,ho,hx,hd,k1,k2,k3⟩;have ln:=ID rel;have hb:vs.length<=sizeLine:=by rw[ln,xi]; exact vQ hn (by decide)
 refine W.kdl_call (W.kdl_dict (knd:=yg X.prog X.w) (kvs:=vs) (ep:=ep) lo) (I.ok.hd hcalm) hm hb λh' tk acc' c' kp hS hacc=>?_
 obtain⟨hsz,hat⟩:=hacc
 have rv:ze (kvs.map λkv=>kV kv.1) acc'.toList:=by
  refine ze.of_get (by rw[zm,kW,hsz,ln]) λj x v h1 h2=>?_
  obtain⟨k,y,e,hk⟩:=hat j v (by rw[<-Oo]; exact h2);obtain⟨w,e2,_⟩:=Bc rel e;rw[vN,e2]at h1;cases h1;exact Ki hk
 refine⟨.ref s.heap.objs.size,_,I.laid (a:=s.heap.objs.size) (o:=.lst (kvs.map λkv=>kV kv.1)) (t':=tk) kp (yF _) ⟨?_,acc'.toList,c',rv,?_⟩,rfl,q _ I.fresh⟩
 ·rw[zm,xi];exact vQ hn (by decide)
 ·rw[hS]
end
end L2
namespace L3
open PySem PySem.Spec PyProof PyProof.Rows L2
def JE:List D->Option D
 | [.dic ks _]=>if ks.length<=1000/\ks.all je=true then some (.lst (ks.map keyOf))else none
 |_=>none
theorem Fr{K:W.Frag}{G:Hp}:∀{ks:List zK},ks.all je=true->Reps K G (ks.map keyOf) (ks.map kV)
 | [],_=>rfl
 |k::ks,h=>by
  rw[xf,yD]at h;exact⟨kV k,_,rfl,Kj h.1,Fr h.2⟩
theorem bG{X:Cx}{e:Expr}{fs:FA}{p pos:Pos}(hcalm:X.calm=true)(hg:Gl X "list")(hm:X.mg "list" = none)(ha:SA X [e] fs)(hs:yZ e=true:=by rfl) :
  SF X (.Call (.Name "list" p) [e] [] pos) (eL JE fs):=by
 obtain⟨t,pt,k⟩:=ha.h;refine⟨⟨_,(YD (p:=p) (pos:=pos) (GT hcalm) hg hm U2 ⟨pt⟩ (by decide) (by decide) (by rw[xf,hs]; rfl)).h,λ{G0 H0 G H τ σ d Q} E hf q=>?_⟩⟩;obtain⟨ds,hd,hf⟩:=zD hf;refine k E hd λvs G1 H1 x1 r1=>?_
 match ds,hf with
 | [.dic ks xs],hf=>
  by_cases c:ks.length<=1000/\ks.all je=true
  ·change (if ks.length<=1000/\ks.all je=true then some (D.lst (ks.map keyOf))else none)=some d at hf
   rw[zM c]at hf;cases hf;obtain⟨v,rfl,a,us,rfl,sq,hl,rs,l⟩:=u_ r1
   have z:(ks.zip us).map (λkv=>kV kv.1)=ks.map kV:=by
    have:(ks.zip us).map Prod.fst=ks:=List.map_fst_zip (by omega);rw[<-congrArg (List.map kV) this,ke];rfl
   refine⟨a,ks.zip us,rfl,Rd.mono x1.gh sq,by rw[j0]; omega,λp' hp'=>?_⟩;rw[z];refine q p' _ _ (x1.trans (zN.tF x1.gh hp')) (x1.h.free hp') (x1.gh.free hp') ⟨_,yi,Fr c.2,?_⟩;rw[zm,xi];exact vQ c.1 (by decide)
  ·change (if ks.length<=1000/\ks.all je=true then some (D.lst (ks.map keyOf))else none)=some d at hf
   rw[zO c]at hf;cases hf
end L3
namespace L2
open PySem PySem.Spec PyProof PyProof.Rows
open Builtin Builtin.Str
section
variable{X:Cx}
variable{a o:Expr}{ta to:TE}{i:Int}{ck ck1 ck2:Nat}{cp pos apos cpos p1 p2:Pos}{y z:Str}
end
end L2
namespace L3
open PySem PySem.Spec PyProof PyProof.Rows L2
section
variable{X:Cx}{o e a:Expr}{fo f fa:FE}{apos cpos p1 p2 cp pos:Pos}{nm:Str}{id:String}{rm:V->List V->Hp->VK->Prop}{F:D->D->Option D}{ck ck1 ck2:Nat}{i:Int}{y z:Str}
end
end L3
namespace L2
open PySem PySem.Spec PyProof PyProof.Rows
end L2
namespace L3
open PySem PySem.Spec PyProof PyProof.Rows L2
end L3
namespace L2
open PySem PySem.Spec PyProof PyProof.Rows
section
variable{X:Cx}{x n:Str}{p pos np hpos tpos:Pos}{e e1 e2:Expr}{es:List Expr}{ta:TA}{te:TE}{tx:TX}{ps:List Str}{j k i:Nat}{sp:Sp}{E:XK}{D:Addr}{suite:List Stmt}{ts:TS}{b₀:Stmt}
end
end L2
namespace L3
open PySem PySem.Spec PyProof PyProof.Rows L2
section
variable{X:Cx}{j i iy:Nat}{x n z y:Str}{C D':Addr}{fx:FEX}{gs:FS}{e:Expr}{b₀:Stmt}{suite:List Stmt}{np pos yp hpos tpos:Pos}
end
end L3
namespace L3
open PySem PySem.Spec PyProof.Rows L2
inductive M where
 |fz (d:D)|own (d:D)|obj (x:Str) (fs:List Str) (ms:List M)|tab (ks:List (Sum Int Str)) (ms:List M)
mutual
def wA:M->D
 |.fz d=>d
 |.own d=>d
 |.obj x fs ms=>.obj x fs (thaws ms)
 |.tab ks ms=>.dic ks (thaws ms)
def thaws:List M->List D
 | []=>[]
 |m::ms=>wA m::thaws ms
end
def getA{κ α:Type}[DecidableEq κ]:List κ->List α->κ->Option α
 |k'::ks,v::vs,k=>if k'=k then some v else getA ks vs k
 |_,_,_=>none
def wc{κ α:Type}[DecidableEq κ]:List κ->List α->κ->α->List α
 |k'::ks,v::vs,k,y=>if k'=k then y::vs else v::wc ks vs k y
 |_,vs,_,_=>vs
inductive yf where
 |at(cs:List Str) (f:Str)|ky (k:Sum Int Str)
def CL:M->yf->Option M
 |.obj x fs ms,.at cs f=>if x∈cs then getA fs ms f else none
 |.tab ks ms,.ky k=>getA ks ms k
 |_,_=>none
def bB:M->yf->M->M
 |.obj x fs ms,.at _ f,m=>.obj x fs (wc fs ms f m)
 |.tab ks ms,.ky k,m=>.tab ks (wc ks ms k m)
 |m,_,_=>m
def uR:M->List yf->Option M
 |m,[]=>some m
 |m,s::π=>(CL m s).bind λm1=>uR m1 π
def uD:M->List yf->M->Option M
 |_,[],m'=>some m'
 |m,s::π,m'=>(CL m s).bind λm1=>(uD m1 π m').bind λm2=>some (bB m s m2)
abbrev Ft:=Addr->Prop
mutual
def yL(K:W.Frag)(G H:Hp):M->V->Ft->Prop
 |.fz d,v,L=>zS K G d v/\∀q,¬ L q
 |.own d,v,L=>∃p,v=.ref p/\wY K G H d p/\∀q,L q↔q=p
 |.obj x fs ms,v,L=>∃p C dx vs L',v=.ref p/\W.nsIn K mainGlobals x=some (some (.ref C))/\H p=some (.ins C dx (fs.zip vs))/\fs.length=vs.length/\OwnMs K G H ms vs L'/\¬ L' p/\∀q,L q↔q=p\/L' q
 |.tab ks ms,v,L=>∃p vs L',v=.ref p/\H p=some (.dK (ks.zip vs))/\ks.length=vs.length/\OwnMs K G H ms vs L'/\ms.length<=sizeLine/\¬ L' p/\∀q,L q↔q=p\/L' q
def OwnMs(K:W.Frag)(G H:Hp):List M->List V->Ft->Prop
 | [],vs,L=>vs=[]/\∀q,¬ L q
 |m::ms,vs,L=>∃v r L1 L2,vs=v::r/\yL K G H m v L1/\OwnMs K G H ms r L2/\(∀q,L1 q->L2 q->False)/\∀q,L q↔L1 q\/L2 q
end
theorem M.ind{P:M->Prop}(fz:∀d,P (.fz d))(own:∀d,P (.own d))(obj:∀x fs ms,(∀m∈ms,P m)->P (.obj x fs ms))(tab:∀ks ms,(∀m∈ms,P m)->P (.tab ks ms))(m:M):P m:=
 M.rec (motive_1:=P) (motive_2:=λms=>∀m∈ms,P m) fz own (λx fs ms h=>obj x fs ms h) (λks ms h=>tab ks ms h) (λ_ h=>absurd h (by simp))
  (λd ds hd hds e he=>by
   rcases yl.mp he with z|z
   ·exact z▸hd
   ·exact hds e z) m
def Mc:HO->Bool
 |.lst _=>true
 |.dK _=>true
 |.ins _ _ _=>true
 |_=>false
def Bx(H:Hp)(q:Addr):Prop:=∃u,H q=some u/\Mc u=true
theorem Bx.some{H:Hp}{q:Addr}(b:Bx H q):H q≠none:=by
 obtain⟨u,e,_⟩:=b;rw[e];exact λz=>nomatch z
section
variable{K:W.Frag}{G H G' H':Hp}
theorem wY.loc{d:D}{p:Addr}(g:zb G G')(h:H' p=H p)(o:wY K G H d p):wY K G' H' d p:=by
 cases d with
 |lst ds=>obtain⟨vs,e,r,l⟩:=o; exact⟨vs,h.trans e,r.mono g,l⟩
 |dic ks ds=>obtain⟨vs,e,z,r,l⟩:=o; exact⟨vs,h.trans e,z,r.mono g,l⟩
 |_=>exact o.elim
theorem OwnMs.imp:∀{ms:List M}{vs:List V}{L:Ft},(∀m∈ms,∀v L1,(∀q,L1 q->L q)->yL K G H m v L1->yL K G' H' m v L1)->OwnMs K G H ms vs L->OwnMs K G' H' ms vs L
 | [],_,_,_,h=>h
 |m::ms,vs,L,f,h=>by
  obtain⟨v,r,L1,L2,e,hv,hr,dj,u⟩:=h;exact⟨v,r,L1,L2,e,f m yr v L1 (λq z=>(u q).mpr (.inl z)) hv,OwnMs.imp (λm' h' v' L' s o=>f m' (xg _ h') v' L' (λq z=>(u q).mpr (.inr (s q z))) o) hr,dj,u⟩
theorem yL.loc(g:zb G G')(m:M):∀(v:V)(L:Ft),(∀q,L q->H' q=H q)->yL K G H m v L->yL K G' H' m v L:=by
 refine M.ind (P:=λm=>∀v L,(∀q,L q->H' q=H q)->yL K G H m v L->yL K G' H' m v L) ?_ ?_ ?_ ?_ m
 ·rintro d v L h ⟨r,n⟩;exact⟨r.mono g,n⟩
 ·rintro d v L h ⟨p,e,o,u⟩;exact⟨p,e,o.loc g (h p ((u p).mpr rfl)),u⟩
 ·rintro x fs ms ih v L h ⟨p,C,dx,vs,L',e,ns,hp,l,r,n,u⟩;exact⟨p,C,dx,vs,L',e,ns,(h p ((u p).mpr (.inl rfl))).trans hp,l,OwnMs.imp (λm hm v' L1 s o=>ih m hm v' L1 (λq z=>h q ((u q).mpr (.inr (s q z)))) o) r,n,u⟩
 ·rintro ks ms ih v L h ⟨p,vs,L',e,hp,l,r,l2,n,u⟩;exact⟨p,vs,L',e,(h p ((u p).mpr (.inl rfl))).trans hp,l,OwnMs.imp (λm hm v' L1 s o=>ih m hm v' L1 (λq z=>h q ((u q).mpr (.inr (s q z)))) o) r,l2,n,u⟩
theorem OwnMs.length:∀{ms:List M}{vs:List V}{L:Ft},OwnMs K G H ms vs L->vs.length=ms.length
 | [],_,_,h=>by obtain⟨rfl,_⟩:=h; rfl
 |m::ms,_,_,h=>by
  obtain⟨v,r,L1,L2,rfl,_,hr,_⟩:=h;rw[yP,yP,OwnMs.length hr]
theorem wY.bx{d:D}{p:Addr}(o:wY K G H d p):Bx H p:=by
 cases d with
 |lst ds=>obtain⟨vs,e,_⟩:=o; exact⟨_,e,rfl⟩
 |dic ks ds=>obtain⟨vs,e,_⟩:=o; exact⟨_,e,rfl⟩
 |_=>exact o.elim
theorem OwnMs.cells:∀{ms:List M}{vs:List V}{L:Ft},(∀m∈ms,∀v L1,yL K G H m v L1->∀q,L1 q->Bx H q)->OwnMs K G H ms vs L->∀q,L q->Bx H q
 | [],_,_,_,h,q,z=>absurd z (h.2 q)
 |m::ms,vs,L,f,h,q,z=>by
  obtain⟨v,r,L1,L2,e,hv,hr,dj,u⟩:=h;rcases(u q).mp z with z|z
  ·exact f m yr v L1 hv q z
  ·exact OwnMs.cells (λm' h'=>f m' (xg _ h')) hr q z
theorem yL.cells(m:M):∀(v:V)(L:Ft),yL K G H m v L->∀q,L q->Bx H q:=by
 refine M.ind (P:=λm=>∀v L,yL K G H m v L->∀q,L q->Bx H q) ?_ ?_ ?_ ?_ m
 ·rintro d v L ⟨r,n⟩ q z;exact absurd z (n q)
 ·rintro d v L ⟨p,e,o,u⟩ q z;cases(u q).mp z;exact o.bx
 ·rintro x fs ms ih v L ⟨p,C,dx,vs,L',e,ns,hp,l,r,n,u⟩ q z;rcases(u q).mp z with rfl|z
  ·exact⟨_,hp,rfl⟩
  ·exact OwnMs.cells ih r q z
 ·rintro ks ms ih v L ⟨p,vs,L',e,hp,l,r,l2,n,u⟩ q z;rcases(u q).mp z with rfl|z
  ·exact⟨_,hp,rfl⟩
  ·exact OwnMs.cells ih r q z
theorem CW:∀(ms:List M),(thaws ms).length=ms.length
 | []=>rfl
 |m::ms=>by
  show(thaws ms).length+1=_;rw[CW ms];rfl
theorem OwnMs.uM:∀{ms:List M}{vs:List V}{L:Ft},(∀m∈ms,∀v L1,(∀q,L1 q->L q)->yL K G H m v L1->zS K G' (wA m) v)->OwnMs K G H ms vs L->Reps K G' (thaws ms) vs
 | [],_,_,_,h=>h.1
 |m::ms,vs,L,f,h=>by
  obtain⟨v,r,L1,L2,e,hv,hr,dj,u⟩:=h;exact⟨v,r,e,f m yr v L1 (λq z=>(u q).mpr (.inl z)) hv,OwnMs.uM (λm' h' v' L' s o=>f m' (xg _ h') v' L' (λq z=>(u q).mpr (.inr (s q z))) o) hr⟩
theorem yL.uM(g:zb G G')(m:M):∀(v:V)(L:Ft),(∀q,L q->G' q=H q)->yL K G H m v L->zS K G' (wA m) v:=by
 refine M.ind (P:=λm=>∀v L,(∀q,L q->G' q=H q)->yL K G H m v L->zS K G' (wA m) v) ?_ ?_ ?_ ?_ m
 ·rintro d v L h ⟨r,n⟩;exact r.mono g
 ·rintro d v L h ⟨p,rfl,o,u⟩;have hp:=h p ((u p).mpr rfl);cases d with
  |lst ds=>obtain⟨vs,e,r,l⟩:=o; exact⟨p,vs,rfl,yJ.of (hp.trans e),r.mono g,l⟩
  |dic ks ds=>obtain⟨vs,e,z,r,l⟩:=o; exact⟨p,vs,rfl,.inl (hp.trans e),z,r.mono g,l⟩
  |_=>exact o.elim
 ·rintro x fs ms ih v L h ⟨p,C,dx,vs,L',e,ns,hp,l,r,n,u⟩;exact⟨p,C,dx,vs,e,ns,(h p ((u p).mpr (.inl rfl))).trans hp,l,OwnMs.uM (λm hm v' L1 s o=>ih m hm v' L1 (λq z=>h q ((u q).mpr (.inr (s q z)))) o) r⟩
 ·rintro ks ms ih v L h ⟨p,vs,L',e,hp,l,r,l2,n,u⟩;exact⟨p,vs,e,.inl ((h p ((u p).mpr (.inl rfl))).trans hp),l,OwnMs.uM (λm hm v' L1 s o=>ih m hm v' L1 (λq z=>h q ((u q).mpr (.inr (s q z)))) o) r,by rw[CW]; exact l2⟩
theorem OwnMs.focus{κ:Type}[DecidableEq κ]{k:κ}{m1:M}:∀{ks:List κ}{ms:List M}{vs:List V}{L:Ft},OwnMs K G H ms vs L->getA ks ms k=some m1->
  ∃v1 L1,getA ks vs k=some v1/\yL K G H m1 v1 L1/\(∀q,L1 q->L q)/\∀{G' H':Hp}{m2:M}{L2:Ft},zb G G'->(∀q,L q->¬ L1 q->H' q=H q)->yL K G' H' m2 v1 L2->(∀q,L2 q->L q->L1 q)->OwnMs K G' H' (wc ks ms k m2) vs (λq=>(L q/\¬ L1 q)\/L2 q)
 | [],_,_,_,_,e=>by cases e
 |_::_,[],_,_,_,e=>by cases e
 |k'::ks,m::ms,vs,L,h,e=>by
  obtain⟨v,r,La,Lb,rfl,hv,hr,dj,u⟩:=h;unfold getA at e;by_cases c:k'=k
  ·rw[zM c]at e;cases e;refine⟨v,La,by unfold getA; rw[zM c],hv,λq z=>(u q).mpr (.inl z),λ{G' H' m2 L2} g hk o2 hd=>?_⟩;unfold wc;rw[zM c];refine⟨v,r,L2,Lb,rfl,o2,?_,λq z1 z2=>dj q (hd q z1 ((u q).mpr (.inr z2))) z2,λq=>?_⟩
   ·exact OwnMs.imp (λm' _ v' L' s o=>o.loc g m' v' L' λq z=>hk q ((u q).mpr (.inr (s q z))) λw=>dj q w (s q z)) hr
   ·constructor
    ·rintro(⟨z,w⟩|z)
     ·rcases(u q).mp z with z|z
      ·exact absurd z w
      ·exact .inr z
     ·exact .inl z
    ·rintro(z|z)
     ·exact .inr z
     ·exact .inl ⟨(u q).mpr (.inr z),λw=>dj q w z⟩
  ·rw[zO c]at e;obtain⟨v1,L1,e1,o1,s1,f⟩:=OwnMs.focus hr e;refine⟨v1,L1,by unfold getA; rw[zO c]; exact e1,o1,λq z=>(u q).mpr (.inr (s1 q z)),λ{G' H' m2 L2} g hk o2 hd=>?_⟩;unfold wc;rw[zO c];refine⟨v,r,La,λq=>(Lb q/\¬ L1 q)\/L2 q,rfl,?_,f g (λq z w=>hk q ((u q).mpr (.inr z)) w) o2 (λq z w=>hd q z ((u q).mpr (.inr w))),λq z1 z2=>?_,λq=>?_⟩
   ·exact hv.loc g m v La λq z=>hk q ((u q).mpr (.inl z)) λw=>dj q z (s1 q w)
   ·rcases z2 with⟨z2,_⟩|z2
    ·exact dj q z1 z2
    ·exact dj q z1 (s1 q (hd q z2 ((u q).mpr (.inl z1))))
   ·constructor
    ·rintro(⟨z,w⟩|z)
     ·rcases(u q).mp z with z|z
      ·exact .inl z
      ·exact .inr (.inl ⟨z,w⟩)
     ·exact .inr (.inr z)
    ·rintro(z|⟨z,w⟩|z)
     ·exact .inl ⟨(u q).mpr (.inl z),λw=>dj q z (s1 q w)⟩
     ·exact .inl ⟨(u q).mpr (.inr z),w⟩
     ·exact .inr z
end
def xO(K:W.Frag)(H:Hp):V->List yf->V->Prop
 |v,[],u=>u=v
 |v,.at cs f::π,u=>∃p x C dx fs w,v=.ref p/\x∈cs/\W.nsIn K mainGlobals x=some (some (.ref C))/\H p=some (.ins C dx fs)/\fs.lookup f=some w/\xO K H w π u
 |v,.ky k::π,u=>∃p kvs w,v=.ref p/\H p=some (.dK kvs)/\wg kvs k=some w/\xO K H w π u
theorem Uq{κ α:Type}[DecidableEq κ][BEq κ][LawfulBEq κ]{k:κ}:∀{ks:List κ}{vs:List α},(ks.zip vs).lookup k=getA ks vs k
 | [],_=>rfl
 |_::_,[]=>rfl
 |k'::ks,v::vs=>by
  rw[ud,Wr];unfold getA;by_cases c:k'=k
  ·subst c;rw[zM rfl];simp
  ·rw[zO c];have:(k==k')=false:=by simpa using λz=>c z.symm
   rw[this];exact Uq
theorem JO{α:Type}{k:Sum Int Str}:∀{ks:List (Sum Int Str)} {vs:List α},getA ks vs k=getK ks vs k
 | [],_=>by unfold getA getK; rfl
 |_::_,[]=>by unfold getA getK; rfl
 |k'::ks,v::vs=>by
  unfold getA getK;by_cases c:k'=k
  ·rw[zM c,zM c]
  ·rw[zO c,zO c];exact JO
section
variable{K:W.Frag}{G H G' H':Hp}
theorem xO.mono(s:zb H H'):∀{π:List yf}{v u:V},xO K H v π u->xO K H' v π u
 | [],_,_,h=>h
 |.at cs f::π,_,_,h=>by
  obtain⟨p,x,C,dx,fs,w,e,hx,ns,hp,l,r⟩:=h;exact⟨p,x,C,dx,fs,w,e,hx,ns,s _ _ hp,l,xO.mono s r⟩
 |.ky k::π,_,_,h=>by
  obtain⟨p,kvs,w,e,hp,l,r⟩:=h;exact⟨p,kvs,w,e,s _ _ hp,l,xO.mono s r⟩
theorem xO.one:∀{π:List yf}{v u u':V},xO K H v π u->xO K H v π u'->u=u'
 | [],_,_,_,h,h'=>h.trans h'.symm
 |.at cs f::π,_,_,_,h,h'=>by
  obtain⟨p,x,C,dx,fs,w,rfl,hx,ns,hp,l,r⟩:=h;obtain⟨p',x',C',dx',fs',w',e',hx',ns',hp',l',r'⟩:=h';cases e';rw[hp]at hp';cases hp';rw[l]at l';cases l';exact xO.one r r'
 |.ky k::π,_,_,_,h,h'=>by
  obtain⟨p,kvs,w,rfl,hp,l,r⟩:=h;obtain⟨p',kvs',w',e',hp',l',r'⟩:=h';cases e';rw[hp]at hp';cases hp';rw[l]at l';cases l';exact xO.one r r'
theorem xO.snoc:∀{π:List yf}{s:yf}{v u:V},xO K H v (π++[s]) u->∃w,xO K H v π w/\xO K H w [s] u
 | [],_,v,_,h=>⟨v,rfl,h⟩
 |.at cs f::π,_,_,_,h=>by
  obtain⟨p,x,C,dx,fs,w,e,hx,ns,hp,l,r⟩:=h;obtain⟨w',r1,r2⟩:=xO.snoc r;exact⟨w',⟨p,x,C,dx,fs,w,e,hx,ns,hp,l,r1⟩,r2⟩
 |.ky k::π,_,_,_,h=>by
  obtain⟨p,kvs,w,e,hp,l,r⟩:=h;obtain⟨w',r1,r2⟩:=xO.snoc r;exact⟨w',⟨p,kvs,w,e,hp,l,r1⟩,r2⟩
theorem yL.focus{m1:M}:∀{π:List yf}{m:M}{v:V}{L:Ft},yL K G H m v L->uR m π=some m1->
  ∃v1 L1,xO K H v π v1/\yL K G H m1 v1 L1/\(∀q,L1 q->L q)/\∀{G' H':Hp}{m2:M}{L2:Ft},zb G G'->(∀q,L q->¬ L1 q->H' q=H q)->yL K G' H' m2 v1 L2->(∀q,L2 q->L q->L1 q)->
   ∃m',uD m π m2=some m'/\yL K G' H' m' v (λq=>(L q/\¬ L1 q)\/L2 q)
 | [],m,v,L,h,e=>by
  cases e;refine⟨v,L,rfl,h,λ_ z=>z,λ{G' H' m2 L2} g hk o2 hd=>⟨m2,rfl,?_⟩⟩
  have e:(λq=>(L q/\¬ L q)\/L2 q)=L2:=by
   funext q
   exact propext ⟨λz=>z.elim (λw=>absurd w.1 w.2) id,.inr⟩
  rw[e];exact o2
 |s::π,m,v,L,h,e=>by
  obtain⟨ma,ea,ee⟩:=zD e
  have fin:∀{p:Addr}{L' L1 L2:Ft},¬ L' p->(∀q,L q↔q=p\/L' q)->(∀q,L1 q->L' q)->(∀q,L2 q->L q->L1 q)->(¬ ((L' p/\¬ L1 p)\/L2 p))/\∀q,((L q/\¬ L1 q)\/L2 q)↔q=p\/((L' q/\¬ L1 q)\/L2 q):=λ{p L' L1 L2} n u s hd=>by
   refine⟨?_,λq=>⟨?_,?_⟩⟩
   ·rintro(⟨z,_⟩|z)
    ·exact n z
    ·exact n (s p (hd p z ((u p).mpr (.inl rfl))))
   ·rintro(⟨z,w⟩|z)
    ·rcases(u q).mp z with z|z
     ·exact .inl z
     ·exact .inr (.inl ⟨z,w⟩)
    ·exact .inr (.inr z)
   ·rintro(rfl|⟨z,w⟩|z)
    ·exact .inl ⟨(u q).mpr (.inl rfl),λw=>n (s q w)⟩
    ·exact .inl ⟨(u q).mpr (.inr z),w⟩
    ·exact .inr z
  cases m with
  |fz d=>cases ea
  |own d=>cases ea
  |obj x fs ms=>
   cases s with
   |ky k=>cases ea
   | «at» cs f=>
    change (if x∈cs then getA fs ms f else none)=some ma at ea
    by_cases hx:x∈cs
    ·rw[zM hx]at ea;obtain⟨p,C,dx,vs,L',rfl,ns,hp,l,r,n,u⟩:=h;obtain⟨va,La,e1,o1,s1,f1⟩:=OwnMs.focus r ea;obtain⟨v1,L1,a1,oo,s2,f2⟩:=yL.focus o1 ee;refine⟨v1,L1,⟨p,x,C,dx,_,va,rfl,hx,ns,hp,by rw[Uq]; exact e1,a1⟩,oo,λq z=>(u q).mpr (.inr (s1 q (s2 q z))),λ{G' H' m2 L2} g hk o2 hd=>?_⟩;obtain⟨m',e',o'⟩:=f2 g (λq z w=>hk q ((u q).mpr (.inr (s1 q z))) w) o2 (λq z w=>hd q z ((u q).mpr (.inr (s1 q w))))
     have o3:=f1 g (λq z w=>hk q ((u q).mpr (.inr z)) λw'=>w (s2 q w')) o' (λq z w=>by
      rcases z with⟨z,_⟩|z
      ·exact z
      ·exact s2 q (hd q z ((u q).mpr (.inr w))))
     have eL:(λq=>(L' q/\¬ La q)\/((La q/\¬ L1 q)\/L2 q))=(λq=>(L' q/\¬ L1 q)\/L2 q):=by
      funext q
      refine propext ⟨?_,?_⟩
      ·rintro(⟨z,w⟩|⟨z,w⟩|z)
       ·exact .inl ⟨z,λw'=>w (s2 q w')⟩
       ·exact .inl ⟨s1 q z,w⟩
       ·exact .inr z
      ·rintro(⟨z,w⟩|z)
       ·by_cases c:La q
        ·exact .inr (.inl ⟨c,w⟩)
        ·exact .inl ⟨z,c⟩
       ·exact .inr (.inr z)
     rw[eL]at o3;obtain⟨f3,f4⟩:=fin n u (λq z=>s1 q (s2 q z)) hd;refine⟨.obj x fs (wc fs ms f m'),by show(Option.bind (if x∈cs then getA fs ms f else none) _)=_; rw[zM hx,ea]; show Option.bind (uD ma π m2) _=_; rw[e']; rfl,p,C,dx,vs,_,rfl,ns,?_,l,o3,f3,f4⟩;rw[hk p ((u p).mpr (.inl rfl)) λw=>n (s1 p (s2 p w))];exact hp
    ·rw[zO hx]at ea;cases ea
  |tab ks ms=>
   cases s with
   | «at» cs f=>cases ea
   |ky k=>
    change getA ks ms k=some ma at ea
    obtain⟨p,vs,L',rfl,hp,l,r,l2,n,u⟩:=h;obtain⟨va,La,e1,o1,s1,f1⟩:=OwnMs.focus r ea;obtain⟨v1,L1,a1,oo,s2,f2⟩:=yL.focus o1 ee;refine⟨v1,L1,⟨p,_,va,rfl,hp,by rw[jt _ l,<-JO]; exact e1,a1⟩,oo,λq z=>(u q).mpr (.inr (s1 q (s2 q z))),λ{G' H' m2 L2} g hk o2 hd=>?_⟩;obtain⟨m',e',o'⟩:=f2 g (λq z w=>hk q ((u q).mpr (.inr (s1 q z))) w) o2 (λq z w=>hd q z ((u q).mpr (.inr (s1 q w))))
    have o3:=f1 g (λq z w=>hk q ((u q).mpr (.inr z)) λw'=>w (s2 q w')) o' (λq z w=>by
     rcases z with⟨z,_⟩|z
     ·exact z
     ·exact s2 q (hd q z ((u q).mpr (.inr w))))
    have eL:(λq=>(L' q/\¬ La q)\/((La q/\¬ L1 q)\/L2 q))=(λq=>(L' q/\¬ L1 q)\/L2 q):=by
     funext q
     refine propext ⟨?_,?_⟩
     ·rintro(⟨z,w⟩|⟨z,w⟩|z)
      ·exact .inl ⟨z,λw'=>w (s2 q w')⟩
      ·exact .inl ⟨s1 q z,w⟩
      ·exact .inr z
     ·rintro(⟨z,w⟩|z)
      ·by_cases c:La q
       ·exact .inr (.inl ⟨c,w⟩)
       ·exact .inl ⟨z,c⟩
      ·exact .inr (.inr z)
    rw[eL]at o3;obtain⟨f3,f4⟩:=fin n u (λq z=>s1 q (s2 q z)) hd;refine⟨.tab ks (wc ks ms k m'),by show(Option.bind (getA ks ms k) _)=_; rw[ea]; show Option.bind (uD ma π m2) _=_; rw[e']; rfl,p,vs,_,rfl,?_,l,o3,?_,f3,f4⟩
    ·rw[hk p ((u p).mpr (.inl rfl)) λw=>n (s1 p (s2 p w))];exact hp
    ·have:∀{ks:List (Sum Int Str)} {ms:List M},(wc ks ms k m').length=ms.length:=λ{ks}=>by
      induction ks with
      |nil=>intro ms; rfl
      |cons k' ks ih=>
       intro ms;cases ms with
       |nil=>rfl
       |cons y ms=>
        unfold wc
        split
        ·rfl
        ·rw[yP,yP,ih]
     rw[this];exact l2
end
abbrev zk:=List (Option M)
def hide:M->Option Sl
 |.fz d=>some (false,d)
 |_=>none
def uu(β:zk):zp:=β.map λo=>o.bind hide
def vx(β:zk):zp:=β.map λo=>o.map λm=>(false,wA m)
mutual
def vM:D->Bool
 |.zG=>true
 |.bl _=>true
 |.int _=>true
 |.str _=>true
 |.tup ds=>tplDs ds
 |_=>false
def tplDs:List D->Bool
 | []=>true
 |d::ds=>vM d&&tplDs ds
end
def IV:D->Bool
 |.lst ds=>tplDs ds
 |.dic _ ds=>tplDs ds
 |_=>false
structure Lg(K:W.Frag)(H0 G H:Hp)(β:zk)(σ:St)(Ls:Nat->Ft):Prop where
 at_:∀(i:Nat)(m:M),β[i]?=some (some m)->∃v,σ[i]?=some (some v)/\yL K G H m v (Ls i)
 dj:∀(i j:Nat)(q:Addr),i≠j->Ls i q->Ls j q->False
 ok:∀(i:Nat)(q:Addr),Ls i q->G q=none/\H0 q=none/\Bx H q
structure zd(K:W.Frag)(n:Nat)(P:List V)(G0 H0 G H:Hp)(β:zk)(σ:St):Prop where
 ext:zN G0 H0 G H
 l1:σ.length=n
 l2:β.length=n
 lp:P.length<=n
 pin:∀(i:Nat)(v:V),P[i]?=some v->σ[i]?=some (some v)
 own:∃Ls,Lg K H0 G H β σ Ls
section
variable{K:W.Frag}{n:Nat}{P:List V}{G0 H0 G H G' H':Hp}{β:zk}{σ:St}
theorem Qo{q:Addr}(x:zN G H G' H')(g:G q=none)(b:Bx H q):G' q=none/\Bx H' q:=by
 obtain⟨u,e,c⟩:=b;refine⟨?_,u,x.h _ _ e,c⟩;cases z:G' q with
 |none=>rfl
 |some o=>
  rcases x.new q (by rw[z]; exact λw=>nomatch w)with w|w
  ·exact absurd g w
  ·rw[e]at w; cases w
theorem zd.go(E:zd K n P G0 H0 G H β σ)(x:zN G H G' H'):zd K n P G0 H0 G' H' β σ:=by
 obtain⟨Ls,F⟩:=E.own;refine⟨E.ext.trans x,E.l1,E.l2,E.lp,E.pin,Ls,λi m h=>?_,F.dj,λi q z=>?_⟩
 ·obtain⟨v,e,o⟩:=F.at_ i m h;refine⟨v,e,o.loc x.g m v _ λq z=>?_⟩;obtain⟨u,hu,_⟩:=(F.ok i q z).2.2;rw[hu];exact x.h _ _ hu
 ·obtain⟨a,b,c⟩:=F.ok i q z;obtain⟨a',c'⟩:=Qo x a c;exact⟨a',b,c'⟩
theorem KG{i:Nat}{b:Bool}{d:D}(h:(uu β)[i]?=some (some (b,d))):b=false/\β[i]?=some (some (.fz d)):=by
 unfold uu at h;rw[vN]at h;cases e:β[i]? with
 |none=>rw[e]at h; cases h
 |some o=>
  rw[e]at h;cases o with
  |none=>cases h
  |some m=>
   cases m with
   |fz d'=>cases h; exact⟨rfl,rfl⟩
   |_=>cases h
theorem cX{i:Nat}{b:Bool}{d:D}(h:(vx β)[i]?=some (some (b,d))):b=false/\∃m,β[i]?=some (some m)/\d=wA m:=by
 unfold vx at h;rw[vN]at h;cases e:β[i]? with
 |none=>rw[e]at h; cases h
 |some o=>
  rw[e]at h;cases o with
  |none=>cases h
  |some m=>cases h; exact⟨rfl,m,rfl,rfl⟩
theorem Mz{τ:zp}(s:zb G H)(l1:σ.length=n)(l2:τ.length=n)(h:∀(i:Nat)(b:Bool)(d:D),τ[i]?=some (some (b,d))->b=false/\∃v,σ[i]?=some (some v)/\zS K G d v):zn K n G H G H τ σ:=
 ⟨zN.refl s,l1,l2,λi d e=>(h i false d e).2,λi d e=>(by cases(h i true d e).1),λi j d e p _ h1=>(by cases(h i true d h1).1)⟩
theorem zd.k_(E:zd K n P G0 H0 G H β σ):zn K n G H G H (uu β) σ:=by
 obtain⟨Ls,F⟩:=E.own;refine Mz E.ext.gh E.l1 (by unfold uu; rw[zm]; exact E.l2) λi b d h=>?_
 obtain⟨rfl,hm⟩:=KG h;obtain⟨v,e,r,_⟩:=F.at_ i _ hm;exact⟨rfl,v,e,r⟩
theorem Gc{G1 G2:Hp}{L:Ft}(h1:∀q,¬ L q->G2 q=G1 q)(hb:∀q,L q->Bx G1 q){a:Addr}{vs:List V}(h:yb K G1 a vs):yb K G2 a vs:=by
 have k:∀{u:HO},Mc u=false->G1 a=some u->G2 a=some u:=λ{u} hu e=>by
  rw[h1 a λz=>?_]
  ·exact e
  ·obtain⟨w,ew,cw⟩:=hb a z;rw[e]at ew;cases ew;rw[hu]at cw;cases cw
 rcases h with h|h
 ·rcases h with h|⟨o,h⟩
  ·exact .inl (.inl (k rfl h))
  ·exact .inl (.inr ⟨o,k rfl h⟩)
 ·exact .inr h
theorem Mm{G1 G2:Hp}{L:Ft}(h1:∀q,¬ L q->G2 q=G1 q)(hb:∀q,L q->Bx G1 q)(d:D):∀(v:V),vM d=true->zS K G1 d v->zS K G2 d v:=by
 refine D.ind (P:=λd=>∀v,vM d=true->zS K G1 d v->zS K G2 d v) (λv _ h=>h) (λb v _ h=>h) (λi v _ h=>h) (λx v _ h=>h) ?_ (λxs ih v t=>by cases t) (λks xs ih v t=>by cases t) (λx v t=>by cases t) (λx fs xs ih v t=>by cases t) d;rintro xs ih v t ⟨a,vs,e,q,r,l⟩;refine⟨a,vs,e,Gc h1 hb q,?_,l⟩;have t':tplDs xs=true:=t;clear t q l
 induction xs generalizing vs with
 |nil=>exact r
 |cons x xs ih2=>
  obtain⟨u,r',rfl,hu,hr⟩:=r;have t2:(vM x&&tplDs xs)=true:=t';rw[yD]at t2;exact⟨u,r',rfl,ih x yr u t2.1 hu,ih2 (λd hd=>ih d (xg _ hd)) r' hr t2.2⟩
theorem Mn{G1 G2:Hp}{L:Ft}(h1:∀q,¬ L q->G2 q=G1 q)(hb:∀q,L q->Bx G1 q):∀{ds:List D}{vs:List V},tplDs ds=true->Reps K G1 ds vs->Reps K G2 ds vs
 | [],_,_,r=>r
 |d::ds,_,t,r=>by
  obtain⟨u,r',rfl,hu,hr⟩:=r;have t2:(vM d&&tplDs ds)=true:=t;rw[yD]at t2;exact⟨u,r',rfl,Mm h1 hb d u t2.1 hu,Mn h1 hb t2.2 hr⟩
theorem zd.uM(E:zd K n P G0 H0 G H β σ):∃G1,zn K n G1 H G1 H (vx β) σ/\∀G2 H2,zN G1 H G2 H2->∃G3,zN G H G3 H2/\zd K n P G0 H0 G3 H2 β σ/\(∀d v,vM d=true->zS K G2 d v->zS K G3 d v)/\(∀ds vs,tplDs ds=true->Reps K G2 ds vs->Reps K G3 ds vs)/\∀q,G2 q=none->G3 q=none:=by
 classical
 obtain⟨Ls,F⟩:=E.own
 let L:Ft:=λq=>∃i,Ls i q
 have gG:∀q,L q->G q=none:=λq ⟨i,z⟩=>(F.ok i q z).1
 have bH:∀q,L q->Bx H q:=λq ⟨i,z⟩=>(F.ok i q z).2.2
 let G1:Hp:=λq=>if L q then H q else G q
 have e1:∀q,L q->G1 q=H q:=λq z=>zM z
 have e2:∀q,¬ L q->G1 q=G q:=λq z=>zO z
 have s1:zb G G1:=λq o e=>by
  rw[e2 q λz=>by rw[gG q z]at e; cases e];exact e
 have s2:zb G1 H:=λq o e=>by
  by_cases c:L q
  ·rw[e1 q c]at e; exact e
  ·rw[e2 q c]at e; exact E.ext.gh _ _ e
 refine⟨G1,Mz s2 E.l1 (by unfold vx; rw[zm]; exact E.l2) λi b d h=>?_,λG2 H2 x=>?_⟩
 ·obtain⟨rfl,m,hm,rfl⟩:=cX h;obtain⟨v,e,o⟩:=F.at_ i m hm;exact⟨rfl,v,e,o.uM s1 m v _ λq z=>e1 q ⟨i,z⟩⟩
 ·let G3:Hp:=λq=>if L q then none else G2 q
  have e3:∀q,¬ L q->G3 q=G2 q:=λq z=>zO z
  have e4:∀q,L q->G3 q=none:=λq z=>zM z
  have b2:∀q,L q->Bx G2 q:=λq z=>by
   obtain⟨u,hu,c⟩:=bH q z;exact⟨u,x.g _ _ ((e1 q z).trans hu),c⟩
  have X3:zN G H G3 H2:=by
   refine⟨λq o e=>?_,x.h,λq o e=>?_,λq z=>?_⟩
   ·have c:¬ L q:=λz=>by rw[gG q z]at e; cases e
    rw[e3 q c];exact x.g _ _ (s1 _ _ e)
   ·by_cases c:L q
    ·rw[e4 q c]at e; cases e
    ·rw[e3 q c]at e; exact x.gh _ _ e
   ·by_cases c:L q
    ·rw[e4 q c]at z; exact absurd rfl z
    ·rw[e3 q c]at z;rcases x.new q z with w|w
     ·rw[e2 q c]at w; exact .inl w
     ·exact .inr w
  refine⟨G3,X3,E.go X3,λd v t r=>Mm e3 b2 d v t r,λds vs t r=>Mn e3 b2 t r,λq z=>?_⟩;by_cases c:L q
  ·exact e4 q c
  ·rw[e3 q c]; exact z
theorem YI{α:Type}{xs:List α}{x y:α}{i:Nat}(h:(xs++[x])[i]?=some y):(i<xs.length/\xs[i]?=some y)\/(i=xs.length/\y=x):=by
 rcases Nat.lt_or_ge i xs.length with c|c
 ·rw[py c]at h;exact .inl ⟨c,h⟩
 ·rw[YX c]at h;cases z:i-xs.length with
  |zero=>
   rw[z]at h;cases h;exact .inr ⟨by omega,rfl⟩
  |succ k=>rw[z]at h; cases h
theorem vv{α:Type}{xs:List α}{x:α}{n:Nat}(h:xs.length=n):(xs++[x])[n]?=some x:=by
 subst h;rw[YX (yF _),V0];rfl
theorem xx{α:Type}{xs:List α}{x:α}{i:Nat}(h:i<xs.length):(xs++[x])[i]?=xs[i]?:=py h
theorem zd.push{m:M}{v:V}{L:Ft}(E:zd K n P G0 H0 G H β σ)(o:yL K G H m v L)(hL:∀Ls,Lg K H0 G H β σ Ls->∀i q,Ls i q->L q->False)(ok:∀q,L q->G q=none/\H0 q=none/\Bx H q):zd K (n+1) P G0 H0 G H (β++[some m]) (σ++[some v]):=by
 obtain⟨Ls,F⟩:=E.own;have hd:=hL Ls F;refine⟨E.ext,by rw[yO,E.l1]; rfl,by rw[yO,E.l2]; rfl,by have:=E.lp; omega,λi u h=>?_,λj=>if j<n then Ls j else if j=n then L else λ_=>False,λi m' h=>?_,λi j q ne z1 z2=>?_,λi q z=>?_⟩
 ·have hi:i<σ.length:=by
   rw[E.l1];exact xh (yA.mp h).1 E.lp
  rw[xx hi];exact E.pin i u h
 ·rcases YI h with⟨c,e⟩|⟨c,e⟩
  ·rw[E.l2]at c;obtain⟨u,eu,ou⟩:=F.at_ i m' e;refine⟨u,by rw[xx (by rw[E.l1]; exact c)]; exact eu,?_⟩;simp only[zM c];exact ou
  ·cases e;rw[E.l2]at c;subst c;refine⟨v,vv E.l1,?_⟩;simp only[wW,qW,vz];exact o
 ·skip
  split at z1
  ·split at z2
   ·exact F.dj i j q ne z1 z2
   ·split at z2
    ·exact hd i q z1 z2
    ·exact z2
  ·split at z1
   ·split at z2
    ·exact hd j q z2 z1
    ·split at z2
     ·exact ne (by omega)
     ·exact z2
   ·exact z1
 ·skip
  split at z
  ·exact F.ok i q z
  ·split at z
   ·exact ok q z
   ·exact z.elim
theorem zd.qY{d:D}{v:V}(E:zd K n P G0 H0 G H β σ)(r:zS K G d v):zd K (n+1) P G0 H0 G H (β++[some (.fz d)]) (σ++[some v]):=
 E.push (L:=λ_=>False) ⟨r,λ_ z=>z⟩ (λ_ _ _ _ _ z=>z) λ_ z=>z.elim
theorem zd.LX{d:D}{p:Addr}(E:zd K n P G0 H0 G H β σ)(x:zN G H G' H')(hp:H p=none)(gp:G' p=none)(o:wY K G' H' d p):zd K (n+1) P G0 H0 G' H' (β++[some (.own d)]) (σ++[some (.ref p)]):=by
 obtain⟨Ls,F⟩:=E.own;have E':=E.go x;refine⟨?_,?_,?_,?_,?_,?_⟩<;>try first|exact E'.ext|exact(by rw[yO,E.l1]; rfl)|exact(by rw[yO,E.l2]; rfl)
 ·have:=E.lp; omega
 ·intro i u h
  have hi:i<σ.length:=by
   rw[E.l1];exact xh (yA.mp h).1 E.lp
  rw[xx hi];exact E.pin i u h
 ·have hz:∀i q,Ls i q->q≠p:=λi q z c=>by
   subst c;exact(F.ok i q z).2.2.some hp
  refine⟨λj=>if j<n then Ls j else if j=n then(λq=>q=p)else λ_=>False,λi m' h=>?_,λi j q ne z1 z2=>?_,λi q z=>?_⟩
  ·rcases YI h with⟨c,e⟩|⟨c,e⟩
   ·rw[E.l2]at c;obtain⟨u,eu,ou⟩:=F.at_ i m' e;refine⟨u,by rw[xx (by rw[E.l1]; exact c)]; exact eu,?_⟩;simp only[zM c];refine ou.loc x.g m' u _ λq z=>?_
    obtain⟨w,hw,_⟩:=(F.ok i q z).2.2;rw[hw];exact x.h _ _ hw
   ·cases e;rw[E.l2]at c;subst c;refine⟨_,vv E.l1,?_⟩;simp only[wW,qW,vz];exact⟨p,rfl,o,λq=>qT⟩
  ·skip
   split at z1
   ·split at z2
    ·exact F.dj i j q ne z1 z2
    ·split at z2
     ·exact hz i q z1 z2
     ·exact z2
   ·split at z1
    ·split at z2
     ·exact hz j q z2 z1
     ·split at z2
      ·exact ne (by omega)
      ·exact z2
    ·exact z1
  ·skip
   split at z
   ·obtain⟨a,b,c⟩:=F.ok i q z;obtain⟨a',c'⟩:=Qo x a c;exact⟨a',b,c'⟩
   ·split at z
    ·subst z;exact⟨gp,E.ext.h.free hp,o.bx⟩
    ·exact z.elim
theorem zd.Ld{m:M}{v:V}{i:Nat}(hi:i<n)(hP:P.length<=i)(hl1:σ.length=n)(hl2:β.length=n)(E:zd K (n+1) P G0 H0 G H (β++[some m]) (σ++[some v])):zd K n P G0 H0 G H (β.set i (some m)) (σ.set i (some v)):=by
 obtain⟨Ls,F⟩:=E.own;refine⟨E.ext,by rw[vO]; exact hl1,by rw[vO]; exact hl2,by omega,λj u h=>?_,λj=>if j=i then Ls n else if j<n then Ls j else λ_=>False,λj m' h=>?_,λj k q ne z1 z2=>?_,λj q z=>?_⟩
 ·have hj:j<P.length:=(yA.mp h).1;rw[u7 (by omega)];have:=E.pin j u h;rw[xx (by omega)]at this;exact this
 ·rcases wV h with⟨rfl,w⟩|⟨ne,w⟩
  ·cases w;obtain⟨u,eu,ou⟩:=F.at_ n m (vv hl2);rw[vv hl1]at eu;cases eu;simp only[vz];exact⟨v,jV (by omega),ou⟩
  ·have hj:j<n:=by rw[<-hl2]; exact(yA.mp w).1
   obtain⟨u,eu,ou⟩:=F.at_ j m' (by rw[xx (by omega)]; exact w);rw[xx (by omega)]at eu;simp only[zO ne,zM hj];exact⟨u,by rw[u7 ne]; exact eu,ou⟩
 ·skip
  split at z1
  ·split at z2
   ·exact ne (by omega)
   ·split at z2
    ·exact F.dj n k q (by omega) z1 z2
    ·exact z2
  ·split at z1
   ·split at z2
    ·exact F.dj j n q (by omega) z1 z2
    ·split at z2
     ·exact F.dj j k q ne z1 z2
     ·exact z2
   ·exact z1
 ·skip
  split at z
  ·exact F.ok n q z
  ·split at z
   ·exact F.ok j q z
   ·exact z.elim
theorem zd.pop{m:Option M}{v:Option V}(hl1:σ.length=n)(hl2:β.length=n)(hP:P.length<=n)(E:zd K (n+1) P G0 H0 G H (β++[m]) (σ++[v])):zd K n P G0 H0 G H β σ:=by
 obtain⟨Ls,F⟩:=E.own;refine⟨E.ext,hl1,hl2,hP,λj u h=>?_,Ls,λj m' h=>?_,F.dj,F.ok⟩
 ·have hj:j<P.length:=(yA.mp h).1;have:=E.pin j u h;rw[xx (by omega)]at this;exact this
 ·have hj:j<n:=by rw[<-hl2]; exact(yA.mp h).1
  obtain⟨u,eu,ou⟩:=F.at_ j m' (by rw[xx (by omega)]; exact h);rw[xx (by omega)]at eu;exact⟨u,eu,ou⟩
end
inductive jJ where
 |nx (β:zk)|rt (m:M) (β:zk)|bk (β:zk)|ct (β:zk)
abbrev zw:=zk->Option jJ
abbrev yu:=zk->Option (M×zk)
abbrev uh:=zk->Option (Bool×zk)
def ZJ(K:W.Frag)(n:Nat)(P:List V)(G0 H0:Hp)(E:vl):jJ->Prop
 |.nx β=>∀σ G H,zd K n P G0 H0 G H β σ->E.nx σ H
 |.bk β=>∀σ G H,zd K n P G0 H0 G H β σ->E.bk σ H
 |.ct β=>∀σ G H,zd K n P G0 H0 G H β σ->E.ct σ H
 |.rt m β=>∀σ v G H,zd K (n+1) P G0 H0 G H (β++[some m]) (σ++[some v])->E.rt v H
section
variable(X:Cx)
structure MC(e:Expr)(f:yu):Prop where
 h:∃t,PE X e t/\∀{P:List V}{G0 H0 G H:Hp}{β β':zk}{σ:St}{m:M}{Q:VK},zd X.K X.N.length P G0 H0 G H β σ->f β=some (m,β')->(∀v G' H',zb G G'->zd X.K (X.N.length+1) P G0 H0 G' H' (β'++[some m]) (σ++[some v])->Q v H')->t σ H Q
structure MT(e:Expr)(f:uh):Prop where
 h:∃t,PT X e t/\∀{P:List V}{G0 H0 G H:Hp}{β β':zk}{σ:St}{b:Bool}{Q:Bool->Hp->Prop},zd X.K X.N.length P G0 H0 G H β σ->f β=some (b,β')->(∀G' H',zb G G'->zd X.K X.N.length P G0 H0 G' H' β' σ->Q b H')->t σ H Q
structure MW(e:Expr)(f:uh):Prop where
 h:∃t,PW X e t/\∀{P:List V}{G0 H0 G H:Hp}{β β':zk}{σ:St}{b:Bool}{Q:Bool->Hp->Prop},zd X.K X.N.length P G0 H0 G H β σ->f β=some (b,β')->(∀G' H',zb G G'->zd X.K X.N.length P G0 H0 G' H' β' σ->Q b H')->t σ H Q
structure MS(np:Nat)(st:Stmt)(f:zw):Prop where
 h:∃t,PS X st t/\∀{P:List V}{G0 H0 G H:Hp}{β:zk}{σ:St}{fl:jJ}{E:vl},P.length=np->zd X.K X.N.length P G0 H0 G H β σ->f β=some fl->ZJ X.K X.N.length P G0 H0 E fl->t E σ H
structure p7(np:Nat)(st:List Stmt)(f:zw):Prop where
 h:∃t,vR X st t/\∀{P:List V}{G0 H0 G H:Hp}{β:zk}{σ:St}{fl:jJ}{E:vl},P.length=np->zd X.K X.N.length P G0 H0 G H β σ->f β=some fl->ZJ X.K X.N.length P G0 H0 E fl->t E σ H
end
section
variable{K:W.Frag}{n:Nat}{P:List V}{G0 H0 G H G' H':Hp}{β:zk}{σ:St}{m:M}{v:V}{d:D}
theorem zd.km{m:Option M}{v:Option V}(E:zd K (n+1) P G0 H0 G H (β++[m]) (σ++[v])):σ.length=n:=by
 have:=E.l1;rw[yO]at this;exact Yb this
theorem zd.qx{m:Option M}{v:Option V}(E:zd K (n+1) P G0 H0 G H (β++[m]) (σ++[v])):β.length=n:=by
 have:=E.l2;rw[yO]at this;exact Yb this
theorem zd.j7(E:zd K (n+1) P G0 H0 G H (β++[some (.fz d)]) (σ++[some v])):zS K G d v:=by
 obtain⟨Ls,F⟩:=E.own;obtain⟨u,eu,r,_⟩:=F.at_ n _ (vv E.qx);rw[vv E.km]at eu;cases eu;exact r
theorem zd.VA{i:Nat}(E:zd K n P G0 H0 G H β σ)(hi:i<n)(hP:P.length<=i)(r:zS K G d v):zd K n P G0 H0 G H (β.set i (some (.fz d))) (σ.set i (some v)):=(E.qY r).Ld hi hP E.l1 E.l2
theorem zd.ku(E:zd K n P G0 H0 G H β σ):zd K n P G H0 G H β σ:=⟨E.ext.ku,E.l1,E.l2,E.lp,E.pin,E.own⟩
theorem zd.near{Ga Ha:Hp}(a:zN G0 H0 Ga Ha)(E:zd K n P Ga H0 G H β σ):zd K n P G0 H0 G H β σ:=⟨a.rebase E.ext,E.l1,E.l2,E.lp,E.pin,E.own⟩
theorem ZJ.near{Ga Ha:Hp}{E:vl}{fl:jJ}(x:zN G0 H0 Ga Ha)(h:ZJ K n P G0 H0 E fl):ZJ K n P Ga H0 E fl:=by
 cases fl with
 |nx τ=>exact λσ G H z=>h σ G H (zd.near x z)
 |bk τ=>exact λσ G H z=>h σ G H (zd.near x z)
 |ct τ=>exact λσ G H z=>h σ G H (zd.near x z)
 |rt m β=>exact λσ v G H z=>h σ v G H (zd.near x z)
end
def yR(f:FE):yu:=λβ=>(f (uu β)).bind λd=>some (.fz d,β)
def vp(f:FE):yu:=λβ=>(f (vx β)).bind λd=>match vM d with
 |true=>some (.fz d,β)
 |false=>none
def jP(f:FE):yu:=λβ=>(f (uu β)).bind λd=>some (.own d,β)
def GI(f:FE):yu:=λβ=>(f (vx β)).bind λd=>match IV d with
 |true=>some (.own d,β)
 |false=>none
def GH(f:yu):yu:=λβ=>(f β).bind λr=>match r with
 |(.own d,β')=>some (.fz d,β')
 |r=>some r
def qt(f:FT):uh:=λβ=>(f (vx β)).bind λb=>some (b,β)
def dZ(f:uh):uh:=λβ=>(f β).bind λr=>some (!r.1,r.2)
def dY(f g:uh):uh:=λβ=>(f β).bind λr=>match r.1 with
 |true=>g r.2
 |false=>some (false,r.2)
def OR(f g:uh):uh:=λβ=>(f β).bind λr=>match r.1 with
 |true=>some (true,r.2)
 |false=>g r.2
def uQ:M->Option D
 |.fz d=>some d
 |_=>none
def X2(F:D->D->Option D)(f g:yu):yu:=λβ=>(f β).bind λr=>(uQ r.1).bind λx=>(g r.2).bind λr'=>(uQ r'.1).bind λy=>(F x y).bind λz=>some (.fz z,r'.2)
def OS(f:yu):uh:=λβ=>(f β).bind λr=>(uQ r.1).bind λx=>(jO x).bind λb=>some (b,r.2)
def Qq(f g:yu):yu:=λβ=>(f β).bind λr=>(uQ r.1).bind λx=>(jO x).bind λb=>match b with
 |true=>g r.2
 |false=>some (.fz (.bl false),r.2)
theorem qH{m:M}{d:D}(h:uQ m=some d):m=.fz d:=by
 cases m with
 |fz d'=>cases h; rfl
 |_=>cases h
section
variable{X:Cx}{x:Str}{p pos:Pos}{e a b:Expr}{zf:List Expr}{f:FE}{ft:FT}{F:D->D->Option D}{r:R2}{g g':yu}{u u':uh}
theorem yc(h:SE X e f):MC X e (yR f):=by
 obtain⟨t,p,k⟩:=h.h;refine⟨⟨t,p,λE hf q=>?_⟩⟩;obtain⟨d,hd,hf⟩:=zD hf;cases hf;exact k E.k_ hd λv G' H' x r=>q v G' H' x.g ((E.go x).qY r)
theorem uW(h:SE X e f):MC X e (vp f):=by
 obtain⟨t,p,k⟩:=h.h;refine⟨⟨t,p,λE hf q=>?_⟩⟩;obtain⟨d,hd,hf⟩:=zD hf;cases c:vM d with
 |false=>rw[c]at hf; cases hf
 |true=>
  rw[c]at hf;cases hf;obtain⟨G1,E1,back⟩:=E.uM;refine k E1 hd λv G' H' x r=>?_
  obtain⟨G3,x3,E3,r3,_⟩:=back _ _ x;exact q v G3 H' x3.g (E3.qY (r3 d v c r))
theorem Zw(h:SF X e f):MC X e (jP f):=by
 obtain⟨t,p,k⟩:=h.h;refine⟨⟨t,p,λE hf q=>?_⟩⟩;obtain⟨d,hd,hf⟩:=zD hf;cases hf;exact k E.k_ hd λp G' H' x hp gp o=>q _ G' H' x.g (E.LX x hp gp o)
theorem jc(h:ST X e ft):MT X e (qt ft):=by
 obtain⟨t,p,k⟩:=h.h;refine⟨⟨t,p,λE hf q=>?_⟩⟩;obtain⟨b,hb,hf⟩:=zD hf;cases hf;obtain⟨G1,E1,back⟩:=E.uM;refine k E1 hb λG' H' x=>?_
 obtain⟨G3,x3,E3,_⟩:=back _ _ x;exact q G3 H' x3.g E3
theorem Nb(h:MT X a u):MW X (.BoolOp .Or [a] pos) u:=⟨let ⟨t,p,k⟩:=h.h; ⟨t,FV p,k⟩⟩
theorem Na(ha:MT X a u)(hb:MW X (.BoolOp .Or (b::zf) pos) u'):MW X (.BoolOp .Or (a::b::zf) pos) (OR u u'):=by
 obtain⟨ta,pa,ka⟩:=ha.h;obtain⟨tb,pb,kb⟩:=hb.h;refine⟨⟨_,FU pa pb,λE hf q=>?_⟩⟩;obtain⟨⟨k,β1⟩,hk,hf⟩:=zD hf;refine ka E hk λG1 H1 s1 E1=>?_
 cases k with
 |false=>exact pI (kb E1 hf λG' H' s2 E2=>q _ _ (s1.trans s2) E2)
 |true=>cases hf; exact pJ (q _ _ s1 E1)
theorem Nc(h:MW X e u):MT X e u:=⟨let ⟨t,p,k⟩:=h.h; ⟨t,p.pt,k⟩⟩
theorem zd.down{K:W.Frag}{n:Nat}{P:List V}{G0 H0 G H:Hp}{β:zk}{σ:St}{m:Option M}{v:Option V}(hP:P.length<=n)(E:zd K (n+1) P G0 H0 G H (β++[m]) (σ++[v])):zd K n P G0 H0 G H β σ:=E.pop E.km E.qx hP
theorem NK{op:CmpOp}(ho:yB X (compareOp op) r)(hF:ui X.K r F)(ha:MC X a g)(hb:MC X b g')(hm:behindInMarks op b=false):MC X (.Compare a [op] [b] pos) (X2 F g g'):=by
 obtain⟨ta,pa,ka⟩:=ha.h;obtain⟨tb,pb,kb⟩:=hb.h;refine⟨⟨_,Dn ho pa pb hm,λE hf q=>?_⟩⟩;obtain⟨⟨m1,β1⟩,h1,hf⟩:=zD hf;obtain⟨d1,e1,hf⟩:=zD hf;cases qH e1;obtain⟨⟨m2,β2⟩,h2,hf⟩:=zD hf;obtain⟨d2,e2,hf⟩:=zD hf;cases qH e2;obtain⟨z,hz,hf⟩:=zD hf;cases hf;refine ka E h1 λv1 G1 H1 s1 E1=>?_
 have r1:=E1.j7;refine kb (E1.down E.lp) h2 λv2 G2 H2 s2 E2=>?_
 have r2:=E2.j7;have Ed:=E2.down E.lp;obtain⟨k,rfl,zz⟩:=hF H2 d1 d2 v1 v2 _ _ ((r1.mono s2).mono Ed.ext.gh) (r2.mono Ed.ext.gh) hz;exact zz (q _ G2 _ (s1.trans s2) (Ed.qY rfl))
theorem NZ{op:CmpOp}(ho:yB X (compareOp op) r)(hF:ui X.K r F)(ha:MC X a g)(hb:MC X b g')(hm:behindInMarks op b=false):MT X (.Compare a [op] [b] pos) (OS (X2 F g g')):=by
 obtain⟨ta,pa,ka⟩:=ha.h;obtain⟨tb,pb,kb⟩:=hb.h;refine⟨⟨_,Ir ho pa pb hm,λE hf q=>?_⟩⟩;obtain⟨⟨m3,β3⟩,h3,hf⟩:=zD hf;obtain⟨d3,e3,hf⟩:=zD hf;cases qH e3;obtain⟨bb,hbb,hf⟩:=zD hf;cases hf;obtain⟨⟨m1,β1⟩,h1,h3⟩:=zD h3;obtain⟨d1,e1,h3⟩:=zD h3;cases qH e1;obtain⟨⟨m2,β2⟩,h2,h3⟩:=zD h3;obtain⟨d2,e2,h3⟩:=zD h3;cases qH e2;obtain⟨z,hz,h3⟩:=zD h3;cases h3;refine ka E h1 λv1 G1 H1 s1 E1=>?_
 have r1:=E1.j7;refine kb (E1.down E.lp) h2 λv2 G2 H2 s2 E2=>?_
 have r2:=E2.j7;have Ed:=E2.down E.lp;obtain⟨k,rfl,zz⟩:=hF H2 d1 d2 v1 v2 _ _ ((r1.mono s2).mono Ed.ext.gh) (r2.mono Ed.ext.gh) hz;cases hbb;exact zz ⟨_,rfl,q G2 _ (s1.trans s2) Ed⟩
theorem NO{op}(h:MC X a g):MC X (.BoolOp op [a] pos) g:=⟨let ⟨t,p,k⟩:=h.h; ⟨t,Dr p,k⟩⟩
theorem NI(ha:MC X a g)(hb:MC X (.BoolOp .And (b::zf) pos) g'):MC X (.BoolOp .And (a::b::zf) pos) (Qq g g'):=by
 obtain⟨ta,pa,ka⟩:=ha.h;obtain⟨tb,pb,kb⟩:=hb.h;refine⟨⟨_,Dm pa pb,λE hf q=>?_⟩⟩;obtain⟨⟨m1,β1⟩,h1,hf⟩:=zD hf;obtain⟨d1,e1,hf⟩:=zD hf;cases qH e1;obtain⟨k,hk,hf⟩:=zD hf;refine ka E h1 λv1 G1 H1 s1 E1=>⟨k,T8 E1.j7 hk,?_⟩
 cases k with
 |true=>exact pJ (kb (E1.down E.lp) hf λv G' H' s2 E2=>q v _ _ (s1.trans s2) E2)
 |false=>
  cases hf;exact pI (q _ _ _ s1 ((E1.down E.lp).qY rfl))
end
def qm:zw:=λβ=>some (.nx β)
def y0(a b:zw):zw:=λβ=>(a β).bind λf=>match f with
 |.nx β'=>b β'
 |f=>some f
def ql(c:uh)(a b:zw):zw:=λβ=>(c β).bind λr=>match r.1 with
 |true=>a r.2
 |false=>b r.2
def pM(f:yu):zw:=λβ=>(f β).bind λr=>some (.rt r.1 r.2)
def vH(f:yu):zw:=λβ=>(f β).bind λr=>some (.nx r.2)
def x_(i:Nat)(f:yu):zw:=λβ=>(f β).bind λr=>some (.nx (r.2.set i (some r.1)))
abbrev MG:=D->zk->Option zk
def vu(i:Nat):MG:=λd β=>some (β.set i (some (.fz d)))
def jW(i j:Nat):MG:=λd β=>match d with
 |.tup [x,y]=>some ((β.set i (some (.fz x))).set j (some (.fz y)))
 |_=>none
def wQ(g:MG)(b:zw):List D->zk->Option jJ
 | [],β=>some (.nx β)
 |d::r,β=>(g d β).bind λβ1=>(b β1).bind λf=>match f with
  |.nx β2=>wQ g b r β2
  |.ct β2=>wQ g b r β2
  |.bk β2=>some (.nx β2)
  |.rt m β2=>some (.rt m β2)
def kB(it:FA)(g:MG)(b:zw):zw:=λβ=>(it (uu β)).bind λds=>wQ g b ds β
section
variable{X:Cx}{np:Nat}{x:Str}{p pos pos':Pos}{e c tg iter:Expr}{st:Stmt}{sts body:List Stmt}{f g:zw}{h:yu}{u:uh}{fs:FA}
theorem jb:p7 X np [] qm:=⟨⟨_,FB,λ{P G0 H0 G H β σ fl E} _ K hf q=>by
 cases hf;exact q σ G H K⟩⟩
theorem yC(h1:MS X np st f)(h2:p7 X np sts g):p7 X np (st::sts) (y0 f g):=by
 obtain⟨t,p,k⟩:=h1.h;obtain⟨t',p',k'⟩:=h2.h;refine⟨⟨_,D_ p p',λ{P G0 H0 G H β σ fl E} hP K hf q=>?_⟩⟩;obtain⟨f1,h1,hf⟩:=zD hf;refine k hP K h1 ?_;cases f1 with
 |nx τ'=>exact λσ' G' H' K'=>k' hP K' hf q
 |bk τ'=>cases hf; exact q
 |ct τ'=>cases hf; exact q
 |rt o d=>cases hf; exact q
theorem yh(h1:MS X np st f):p7 X np [st] f:=⟨let ⟨t,p,k⟩:=h1.h; ⟨t,FC p,k⟩⟩
theorem ja{sa sb:List Stmt}(hc:MT X c u)(ha:p7 X np sa f)(hb:p7 X np sb g):MS X np (.If c sa sb pos) (ql u f g):=by
 obtain⟨tc,pc,kc⟩:=hc.h;obtain⟨ta,pa,ka⟩:=ha.h;obtain⟨tb,pb,kb⟩:=hb.h;refine⟨⟨_,Dz pc pa pb,λ{P G0 H0 G H β σ fl E} hP K hf q=>?_⟩⟩;obtain⟨⟨k,β1⟩,hk,hf⟩:=zD hf;refine kc K hk λG1 H1 _ K1=>?_
 cases k with
 |true=>exact pJ (ka hP K1 hf q)
 |false=>exact pI (kb hP K1 hf q)
theorem kD(he:MC X e h):MS X np (.Return (some e) pos) (pM h):=by
 obtain⟨t,p,k⟩:=he.h;refine⟨⟨_,T1 p,λ{P G0 H0 G H β σ fl E} hP K hf q=>?_⟩⟩;obtain⟨⟨m,β1⟩,hk,hf⟩:=zD hf;cases hf;exact k K hk λv G' H' _ K'=>q _ v _ _ K'
theorem uA(he:MC X e h)(hs:swapsWith e none pos.line X.env=pure false:=by rfl):MS X np (.Expr e pos) (vH h):=by
 obtain⟨t,p,k⟩:=he.h;refine⟨⟨_,Dx p hs,λ{P G0 H0 G H β σ fl E} hP K hf q=>?_⟩⟩;obtain⟨⟨m,β1⟩,hk,hf⟩:=zD hf;cases hf;exact k K hk λv G' H' _ K'=>q _ _ _ (K'.down K.lp)
theorem wR{i:Nat}{x:Str}{pos':Pos}(hN:X.N.Nodup)(hi:X.N[i]?=some x)(hx:tM X.env.scope x)(hn:np<=i)(he:MC X e h)(hs:Zy e=true:=by rfl)(hf:X.fn x=true\/X.env.scope.names.lookup x=some .local:=by first|exact .inl rfl|exact .inr rfl|assumption) :
  MS X np (.Assign [.Name x pos'] e pos) (x_ i h):=by
 obtain⟨t,p,k⟩:=he.h;refine⟨⟨_,(Iy hN hi hx ⟨p⟩ hs hf).h,λ{P G0 H0 G H β σ fl E} hP K hf q=>?_⟩⟩;obtain⟨⟨m,β1⟩,hk,hf⟩:=zD hf;cases hf;exact k K hk λv G' H' _ K'=>q _ _ _ (K'.Ld (yA.mp hi).1 (by omega) K'.km K'.qx)
structure QN(X:Cx)(np:Nat)(tg:Expr)(fg:MG):Prop where
 h:∃t,PG X tg t/\∀{P:List V}{G0 H0 G H:Hp}{β β':zk}{σ:St}{d:D}{v:V}{Q:St->Hp->Prop},P.length=np->zd X.K X.N.length P G0 H0 G H β σ->zS X.K G d v->fg d β=some β'->(∀σ',zd X.K X.N.length P G0 H0 G H β' σ'->Q σ' H)->t v σ H Q
theorem IT{i:Nat}{x:Str}(h:QG X (.Name x pos) (vt i))(hi:X.N[i]?=some x)(hn:np<=i):QN X np (.Name x pos) (vu i):=⟨⟨_,h.h,λhP K r hf q=>by
 cases hf;exact q _ (K.VA (yA.mp hi).1 (by omega) r)⟩⟩
theorem Bp{i j:Nat}{x y:Str}{p1 p2:Pos}{kk:Nat}(h:QG X (.Tuple [.Name x p1,.Name y p2] kk pos) (ZX X.K 2 (qh (vt i) (qh (vt j) ZW))))(hi:X.N[i]?=some x)(hj:X.N[j]?=some y)(hn:np<=i)(hm:np<=j):QN X np (.Tuple [.Name x p1,.Name y p2] kk pos) (jW i j):=⟨⟨_,h.h,λ{P G0 H0 G H β β' σ d v Q} hP K r hf q=>by
 unfold jW at hf
 split at hf
 ·rename_i d1 d2;cases hf;obtain⟨a,vs,rfl,sq,⟨v1,r1,rfl,h1,⟨v2,r2,rfl,h2,h3⟩⟩,_⟩:=r;cases(show r2=[]from h3);refine⟨a,_,rfl,uH K.ext.gh sq,rfl,v1,_,rfl,v2,_,rfl,rfl,?_⟩;exact q _ ((K.VA (yA.mp hi).1 (by omega) h1).VA (yA.mp hj).1 (by omega) h2)
 ·cases hf⟩⟩
theorem XM{fg:MG}(hp:PassesOwn (model X.prog X.w) X.A X.env X.xe)(hc:X.calm=true)(hi:SI X tg iter fs)(hg:QN X np tg fg)(hb:p7 X np body g)(hs:∀x,foldedSetIterable iter X.env x=pure x:=by intro _; rfl):MS X np (.For tg iter body [] pos) (kB fs fg g):=by
 obtain⟨ti,pi,ki⟩:=hi.h;obtain⟨tg',pg,kg⟩:=hg.h;obtain⟨tb,pb,kb⟩:=hb.h;refine⟨⟨_,Dy hp hc pi pg pb hs,λ{P G0 H0 G H τ σ fl E} hP K hf q=>?_⟩⟩;obtain⟨ds,hd,hf⟩:=zD hf;refine ki K.k_ hd λJ Ga Ha xa _ wk=>?_
 have Ka:=K.go xa;have q':=ZJ.near Ka.ext q;refine⟨λi m σ H=>m=ds.length-i/\i<=ds.length/\∃τ G,zd X.K X.N.length P Ga H0 G H τ σ/\wQ fg g (ds.drop i) τ=some fl,⟨ds.length,rfl,vy _,τ,Ga,Ka.ku,hf⟩,?_⟩;rintro i m σ H ⟨rfl,hle,τ,G,K,hf⟩;by_cases hlt:i<ds.length
 ·refine .inr ⟨wk.go i G H K.ext.g K.ext.gh hlt,λσ' H'=>∃τ G,zd X.K X.N.length P Ga H0 G H' τ σ'/\wQ fg g (ds.drop (i+1)) τ=some fl,λσ' H' z=>⟨ds.length-(i+1),by omega,rfl,hlt,z⟩,λx H' y=>?_⟩;obtain⟨G3,d,x3,ed,rd⟩:=wk.u3 i G H x H' K.ext.g K.ext.gh hlt y;rw[kY hlt]at hf;rw[xD hlt]at ed;cases ed;obtain⟨τ1,h1,hf⟩:=zD (show(fg _ τ).bind _=_ from hf);obtain⟨f1,h2,hf⟩:=zD hf;refine kg hP (K.go x3) rd h1 λσ1 K1=>kb hP K1 h2 ?_
  cases f1 with
  |nx τ2=>exact λσ2 G2 H2 K2=>⟨τ2,G2,K2,hf⟩
  |ct τ2=>exact λσ2 G2 H2 K2=>⟨τ2,G2,K2,hf⟩
  |bk τ2=>cases hf; exact q'
  |rt m β=>cases hf; exact q'
 ·have e:i=ds.length:=by omega
  subst e;rw[List.drop_length]at hf;cases hf;exact .inl ⟨wk.stop _ G H K.ext.g K.ext.gh (yF _),q' _ _ _ K⟩
end
def uz(β:zk)(i:Nat)(π:List yf):Option M:=match β[i]? with
 |some (some m)=>uR m π
 |_=>none
def putAt(β:zk)(i:Nat)(π:List yf)(m2:M):Option zk:=match β[i]? with
 |some (some m)=>(uD m π m2).bind λm'=>some (β.set i (some m'))
 |_=>none
theorem jd{β:zk}{i:Nat}{π:List yf}{nd:M}(h:uz β i π=some nd):∃m,β[i]?=some (some m)/\uR m π=some nd:=by
 unfold uz at h
 split at h
 ·rename_i m e;exact⟨m,e,h⟩
 ·cases h
theorem Y8{β:zk}{i:Nat}{π:List yf}{m m' m2:M}(h:β[i]?=some (some m))(e:uD m π m2=some m'):putAt β i π m2=some (β.set i (some m')):=by
 unfold putAt;rw[h];show(uD m π m2).bind _=_;rw[e];rfl
def zt(K:W.Frag)(cs:List Str)(f:Str):Prop:=∀x∈cs,∀C,W.nsIn K mainGlobals x=some (some (.ref C))->vk K C/\jK K C f
structure SP(X:Cx)(e:Expr)(i:Nat)(π:List yf):Prop where
 h:∃t,PE X e t/\∀{σ:St}{H:Hp}{v u:V}{Q:VK},σ[i]?=some (some v)->xO X.K H v π u->Q u H->t σ H Q
section
variable{X:Cx}{x f:Str}{p pos:Pos}{e:Expr}{i:Nat}{π:List yf}{cs:List Str}
theorem yG(i:Nat){x:Str}{pos:Pos}(hN:X.N[i]?=some x:=by rfl)(hv:p8 X.env.scope x:=by first|exact Or.inl rfl|exact Or.inr (Or.inl rfl)|exact Or.inr (Or.inr rfl))(hd:(x==("__debug__" : Str))=false:=by decide)
  (hcd:(x==("__classdict__" : Str))=false:=by decide):SP X (.Name x pos) i []:=⟨⟨_,Y7 hN hv hd hcd,λe a q=>by
 cases(show _=_ from a);exact⟨_,e,q⟩⟩⟩
theorem ve(h:SP X e i π)(k:zt X.K cs f)(hb:attributeBase e f X.env (eval e X.env)=eval e X.env:=by rfl):SP X (.Attribute e f pos) i (π++[.at cs f]):=by
 obtain⟨t,p,kt⟩:=h.h;refine⟨⟨_,Do p hb,λe a q=>?_⟩⟩;obtain⟨w,a1,a2⟩:=a.snoc;obtain⟨p,x,C,dx,fs,w',rfl,hx,ns,hp,l,rfl⟩:=a2;obtain⟨c,n⟩:=k x hx C ns;exact kt e a1 ⟨p,C,dx,fs,_,rfl,hp,c,n,l,q⟩
theorem CG{k:Str}{kk kp}(h:SP X e i π):SP X (.Subscript e (.Constant (.str k) kk kp) pos) i (π++[.ky (.inr k)]):=by
 obtain⟨t,p,kt⟩:=h.h;refine⟨⟨_,Im BX p U_ (Ip rfl),λe a q=>?_⟩⟩;obtain⟨w,a1,a2⟩:=a.snoc;obtain⟨p,kvs,w',rfl,hp,l,rfl⟩:=a2;exact kt e a1 ⟨p,kvs,.inr k,_,rfl,rfl,.inl hp,l,q⟩
end
section
variable{K:W.Frag}{n:Nat}{P:List V}{G0 H0 G H:Hp}{β:zk}{σ:St}
theorem zd.write{m m1 mr:M}{vr:V}{i:Nat}{π:List yf}(E:zd K (n+1) P G0 H0 G H (β++[some mr]) (σ++[some vr]))(hP:P.length<=n)(hm:β[i]?=some (some m))(ha:uR m π=some m1) :
  ∃r v1 L1 Lr,σ[i]?=some (some r)/\xO K H r π v1/\yL K G H m1 v1 L1/\yL K G H mr vr Lr/\(∀q,L1 q->Lr q->False)/\
   ∀{H':Hp}{m2:M}{L2:Ft},(∀q,¬ L1 q->H' q=H q)->yL K G H' m2 v1 L2->(∀q,L2 q->L1 q\/Lr q)->∃m',uD m π m2=some m'/\zd K n P G0 H0 G H' (β.set i (some m')) σ:=by
 obtain⟨Ls,F⟩:=E.own;have hl1:=E.km;have hl2:=E.qx;have hi:i<n:=by rw[<-hl2]; exact(yA.mp hm).1
 obtain⟨r,er,om⟩:=F.at_ i m (by rw[xx (by omega)]; exact hm);rw[xx (by omega)]at er;obtain⟨u,eu,orr⟩:=F.at_ n mr (vv hl2);rw[vv hl1]at eu;cases eu;obtain⟨v1,L1,va,o1,s1,re⟩:=om.focus ha;have djn:∀q,L1 q->Ls n q->False:=λq a b=>F.dj i n q (by omega) (s1 q a) b
 refine⟨r,v1,L1,Ls n,er,va,o1,orr,djn,λ{H' m2 L2} hk o2 hL=>?_⟩
 obtain⟨m',e',o'⟩:=re (zb.refl G) (λq _ z=>hk q z) o2 (λq z w=>by
  rcases hL q z with c|c
  ·exact c
  ·exact absurd c λc=>F.dj i n q (by omega) w c)
 have f0:∀q,L1 q->G q=none/\H0 q=none:=λq z=>⟨(F.ok i q (s1 q z)).1,(F.ok i q (s1 q z)).2.1⟩
 refine⟨m',e',⟨E.ext.g,λq o z=>?_,λq o z=>?_,E.ext.new⟩,hl1,by rw[vO]; exact hl2,hP,λj w h=>?_,λj=>if j=i then(λq=>(Ls i q/\¬ L1 q)\/L2 q)else if j<n then Ls j else λ_=>False,λj m3 h=>?_,λj k q ne z1 z2=>?_,λj q z=>?_⟩
 ·rw[hk q λw=>by rw[(f0 q w).2]at z; cases z];exact E.ext.h _ _ z
 ·rw[hk q λw=>by rw[(f0 q w).1]at z; cases z];exact E.ext.gh _ _ z
 ·have hj:j<P.length:=(yA.mp h).1;have:=E.pin j w h;rw[xx (by omega)]at this;exact this
 ·rcases wV h with⟨rfl,w⟩|⟨ne,w⟩
  ·cases w;simp only[vz];exact⟨r,er,o'⟩
  ·have hj:j<n:=by rw[<-hl2]; exact(yA.mp w).1
   obtain⟨u,eu,ou⟩:=F.at_ j m3 (by rw[xx (by omega)]; exact w);rw[xx (by omega)]at eu;simp only[zO ne,zM hj];exact⟨u,eu,ou.loc (zb.refl G) m3 u _ λq z=>hk q λw'=>F.dj i j q (λc=>ne c.symm) (s1 q w') z⟩
 ·have key:∀j,j≠i->j<n->∀q,(Ls i q/\¬ L1 q)\/L2 q->Ls j q->False:=λj ne hj q z1 z2=>by
   rcases z1 with⟨z1,_⟩|z1
   ·exact F.dj i j q (λc=>ne c.symm) z1 z2
   ·rcases hL q z1 with c|c
    ·exact F.dj i j q (λc=>ne c.symm) (s1 q c) z2
    ·exact F.dj n j q (by omega) c z2
  split at z1
  ·split at z2
   ·exact ne (by omega)
   ·split at z2
    ·exact key k (by omega) (by omega) q z1 z2
    ·exact z2
  ·split at z1
   ·split at z2
    ·exact key j (by omega) (by omega) q z2 z1
    ·split at z2
     ·exact F.dj j k q ne z1 z2
     ·exact z2
   ·exact z1
 ·split at z
  ·rcases z with⟨z,w⟩|z
   ·obtain⟨a,b,c⟩:=F.ok i q z;obtain⟨u,hu,cu⟩:=c;exact⟨a,b,u,(hk q w).trans hu,cu⟩
   ·refine⟨?_,?_,o2.cells m2 _ _ q z⟩
    ·rcases hL q z with c|c
     ·exact(f0 q c).1
     ·exact(F.ok n q c).1
    ·rcases hL q z with c|c
     ·exact(f0 q c).2
     ·exact(F.ok n q c).2.1
  ·split at z
   ·rename_i ne hj;obtain⟨a,b,c⟩:=F.ok j q z;obtain⟨u,hu,cu⟩:=c;exact⟨a,b,u,(hk q λw'=>F.dj i j q (λc=>ne c.symm) (s1 q w') z).trans hu,cu⟩
   ·exact z.elim
end
def qM(i:Nat)(π:List yf)(fk:FE)(fv:yu):zw:=λβ=>(fv β).bind λr=>(uQ r.1).bind λy=>(uz r.2 i π).bind λnd=>match nd with
 |.own (.lst ds)=>(fk (vx r.2)).bind λx=>match x with
  |.int j=>(ixN ds.length j).bind λn=>(putAt r.2 i π (.own (.lst (ds.set n y)))).bind λβ2=>some (.nx β2)
  |_=>none
 |_=>none
def pL(i:Nat)(π:List yf)(fk:FE)(fv:yu):zw:=λβ=>(fv β).bind λr=>(uQ r.1).bind λy=>(uz r.2 i π).bind λnd=>match nd with
 |.own (.dic ks ds)=>(fk (vx r.2)).bind λx=>(wb x).bind λx=>match decide (ks.length<yY)with
  |true=>(putAt r.2 i π (.own (.dic (we ks x) (xK ks ds x y)))).bind λβ2=>some (.nx β2)
  |false=>none
 |_=>none
section
variable{X:Cx}{np:Nat}{o k v:Expr}{i:Nat}{π:List yf}{fk:FE}{fv:yu}{pos pos':Pos}
theorem pN(ho:SP X o i π)(hk:SE X k fk)(hv:MC X v fv)(hp:XW k=true:=by rfl)(hs:swapsWithSole [.Subscript o k pos'] v pos.line X.env=pure false:=by rfl)
  (hw:swappedStores [.Subscript o k pos'] v X.env=pure none:=by rfl)(h1:(assignEach [.Subscript o k pos'] X.env).map (·.2)=[assign (.Subscript o k pos') X.env]:=by rfl):MS X np (.Assign [.Subscript o k pos'] v pos) (qM i π fk fv):=by
 obtain⟨tk,pk,kk⟩:=hk.h;obtain⟨tv,pv,kv⟩:=hv.h;obtain⟨to,po,ko⟩:=ho.h;refine⟨⟨_,Sa pv (Sv ⟨po⟩ ⟨pk⟩ bC hp).h hs hw h1,λ{P G0 H0 G H β σ fl E} hP K hf q=>?_⟩⟩;obtain⟨⟨m,β1⟩,hy,hf⟩:=zD hf;obtain⟨y,ey,hf⟩:=zD hf;cases qH ey;obtain⟨nd,hn,hf⟩:=zD hf
 split at hf
 ·rename_i ds;obtain⟨xk,hx,hf⟩:=zD hf;cases xk with
  |int j=>
   obtain⟨nn,hnn,hf⟩:=zD hf;obtain⟨β2,hβ,hf⟩:=zD hf;cases hf;obtain⟨mm,hm,ha⟩:=jd hn;refine kv K hy λw G1 H1 s1 K1=>?_
   obtain⟨r,v1,L1,Lr,er,va,_⟩:=K1.write K.lp hm ha;refine ko er va ?_;obtain⟨Ga,Ea,back⟩:=(K1.down K.lp).uM;refine kk Ea hx λu G2 H2 x2 r2=>?_
   cases(show u=_ from r2);obtain⟨G3,x3,_,_⟩:=back _ _ x2;have K4:=K1.go x3;obtain⟨r',v1',L1',Lr',er',va',o1',or',dj',wr'⟩:=K4.write K.lp hm ha;rw[er]at er';cases er';cases xO.one (va.mono x3.h) va';obtain⟨p,rfl,⟨vs,ev,rs,l⟩,uL⟩:=o1';obtain⟨m',e',K5⟩:=wr' (H':=zT H2 p (.lst (vs.set nn w))) (m2:=.own (.lst (ds.set nn y))) (L2:=λq=>q=p) (λq z=>yH λc=>z ((uL q).mpr c)) ⟨p,rfl,⟨_,yi,Reps.set K4.j7 nn rs,by rw[vO]; exact l⟩,λ_=>qT⟩ (λq z=>.inl ((uL q).mpr z));rw[Y8 hm e']at hβ;cases hβ;exact⟨p,vs,j,nn,rfl,rfl,ev,by rw[rs.length]; exact hnn,q _ _ _ K5⟩
  |_=>cases hf
 ·cases hf
theorem kC(hu:X.A.units+1<cLine)(ho:SP X o i π)(hk:SE X k fk)(hv:MC X v fv)(hs:swapsWith v (some (.Subscript o k pos')) pos.line X.env=pure false:=by rfl):MS X np (.Assign [.Subscript o k pos'] v pos) (pL i π fk fv):=by
 obtain⟨tk,pk,kk⟩:=hk.h;obtain⟨tv,pv,kv⟩:=hv.h;obtain⟨to,po,ko⟩:=ho.h;refine⟨⟨_,Dw hu po pk pv hs,λ{P G0 H0 G H β σ fl E} hP K hf q=>?_⟩⟩;obtain⟨⟨m,β1⟩,hy,hf⟩:=zD hf;obtain⟨y,ey,hf⟩:=zD hf;cases qH ey;obtain⟨nd,hn,hf⟩:=zD hf
 split at hf
 ·rename_i ks ds;obtain⟨xk,hx,hf⟩:=zD hf;obtain⟨key,hkey,hf⟩:=zD hf
  split at hf
  ·rename_i c;have c:=xE c;obtain⟨β2,hβ,hf⟩:=zD hf;cases hf;obtain⟨mm,hm,ha⟩:=jd hn;refine kv K hy λw G1 H1 s1 K1=>?_
   obtain⟨r,v1,L1,Lr,er,va,_⟩:=K1.write K.lp hm ha;refine ko er va ?_;obtain⟨Ga,Ea,back⟩:=(K1.down K.lp).uM;refine kk Ea hx λu G2 H2 x2 r2=>?_
   obtain⟨G3,x3,_,_⟩:=back _ _ x2;have K4:=K1.go x3;obtain⟨r',v1',L1',Lr',er',va',o1',or',dj',wr'⟩:=K4.write K.lp hm ha;rw[er]at er';cases er';cases xO.one (va.mono x3.h) va';obtain⟨p,rfl,⟨vs,ev,l,rs,hl⟩,uL⟩:=o1'
   obtain⟨m',e',K5⟩:=wr' (H':=zT H2 p (.dK (wJ (ks.zip vs) key w))) (m2:=.own (.dic (we ks key) (xK ks ds key y))) (L2:=λq=>q=p) (λq z=>yH λc=>z ((uL q).mpr c))
    ⟨p,rfl,⟨xK ks vs key w,by rw[yi,Tk l],XX l,rs.put K4.j7,by
     have h1:=Iw (ks:=ks) (vs:=ds) (k:=key) (v:=y) (by rw[l,rs.length]);have h2:ds.length<16777216:=by rw[<-rs.length,<-l]; exact c
     rw[xi];omega⟩,λ_=>qT⟩ (λq z=>.inl ((uL q).mpr z))
   rw[Y8 hm e']at hβ;cases hβ;exact⟨p,_,rfl,.inl ⟨_,key,ev,jY hkey r2,by rw[j0,l,qA,xi,<-l]; exact c,rfl⟩,q _ _ _ K5⟩
  ·cases hf
 ·cases hf
end
def qo(fs:List Str)(f:Str):List Str:=if f∈fs then fs else fs++[f]
def uC{α:Type}(fs:List Str)(ms:List α)(f:Str)(m:α):List α:=if f∈fs then wc fs ms f m else ms++[m]
theorem Iu{f:Str}{w:V}:∀{fs:List Str}{vs:List V},fs.length=vs.length->putF f w (fs.zip vs)=(qo fs f).zip (uC fs vs f w)
 | [],[],_=>by
  unfold qo uC;rw[zO (by simp),zO (by simp)];rfl
 | [],_::_,h=>by cases h
 |_::_,[],h=>by cases h
 |g::fs,v::vs,h=>by
  have ih:=Iu (f:=f) (w:=w) (fs:=fs) (vs:=vs) (Yb h);rw[ud];unfold putF;by_cases c:g=f
  ·subst c;unfold qo uC;rw[zM rfl,zM yr,zM yr];unfold wc;rw[zM rfl,ud]
  ·rw[zO c,ih];unfold qo uC;by_cases z:f∈fs
   ·rw[zM z,zM z,zM (xg _ z),zM (xg _ z)]
    conv=>rhs; unfold wc
    rw[zO c,ud]
   ·have z':f ∉ g::fs:=λw=>by
     rcases yl.mp w with w|w
     ·exact c w.symm
     ·exact z w
    rw[zO z,zO z,zO z',zO z',Wp,Wp,ud]
theorem CA{κ α:Type}[DecidableEq κ]{k:κ}{y:α}:∀{ks:List κ}{xs:List α},(wc ks xs k y).length=xs.length
 | [],_=>by unfold wc; rfl
 |_::_,[]=>by unfold wc; rfl
 |k'::ks,x::xs=>by
  unfold wc
  split
  ·rfl
  ·rw[yP,yP,CA]
theorem FJ{α:Type}{f:Str}{w:α}{fs:List Str}{vs:List α}(h:fs.length=vs.length):(qo fs f).length=(uC fs vs f w).length:=by
 unfold qo uC
 split
 ·rw[CA]; exact h
 ·rw[yO,yO,h]; rfl
section
variable{K:W.Frag}{G H:Hp}
theorem OwnMs.LO{κ:Type}[DecidableEq κ]{k:κ}{m2:M}{v2:V}{L2:Ft}(o2:yL K G H m2 v2 L2):∀{ks:List κ}{ms:List M}{vs:List V}{L:Ft},OwnMs K G H ms vs L->(∀q,L q->L2 q->False)->∃L',OwnMs K G H (wc ks ms k m2) (wc ks vs k v2) L'/\∀q,L' q->L q\/L2 q
 | [],ms,vs,L,h,_=>⟨L,by unfold wc; exact h,λq z=>.inl z⟩
 |_::_,[],vs,L,h,_=>by
  obtain⟨rfl,n⟩:=h;exact⟨L,by unfold wc; exact⟨rfl,n⟩,λq z=>.inl z⟩
 |k'::ks,m::ms,vs,L,h,dj=>by
  obtain⟨v,r,La,Lb,rfl,hv,hr,d,u⟩:=h;unfold wc;by_cases c:k'=k
  ·rw[zM c,zM c];refine⟨λq=>L2 q\/Lb q,⟨v2,r,L2,Lb,rfl,o2,hr,λq a b=>dj q ((u q).mpr (.inr b)) a,λq=>qT⟩,λq z=>?_⟩;rcases z with z|z
   ·exact .inr z
   ·exact .inl ((u q).mpr (.inr z))
  ·rw[zO c,zO c];obtain⟨L',h',s'⟩:=OwnMs.LO (k:=k) o2 (ks:=ks) hr (λq a b=>dj q ((u q).mpr (.inr a)) b);refine⟨λq=>La q\/L' q,⟨v,_,La,L',rfl,hv,h',λq a b=>?_,λq=>qT⟩,λq z=>?_⟩
   ·rcases s' q b with b|b
    ·exact d q a b
    ·exact dj q ((u q).mpr (.inl a)) b
   ·rcases z with z|z
    ·exact .inl ((u q).mpr (.inl z))
    ·rcases s' q z with z|z
     ·exact .inl ((u q).mpr (.inr z))
     ·exact .inr z
theorem OwnMs.snoc{m2:M}{v2:V}{L2:Ft}(o2:yL K G H m2 v2 L2):∀{ms:List M}{vs:List V}{L:Ft},OwnMs K G H ms vs L->(∀q,L q->L2 q->False)->OwnMs K G H (ms++[m2]) (vs++[v2]) (λq=>L q\/L2 q)
 | [],vs,L,h,_=>by
  obtain⟨rfl,n⟩:=h;refine⟨v2,[],L2,λ_=>False,rfl,o2,⟨rfl,λ_ z=>z⟩,λ_ _ z=>z,λq=>⟨?_,?_⟩⟩
  ·rintro(z|z)
   ·exact absurd z (n q)
   ·exact .inl z
  ·rintro(z|z)
   ·exact .inr z
   ·exact z.elim
 |m::ms,vs,L,h,dj=>by
  obtain⟨v,r,La,Lb,rfl,hv,hr,d,u⟩:=h;refine⟨v,_,La,λq=>Lb q\/L2 q,rfl,hv,OwnMs.snoc o2 hr (λq a b=>dj q ((u q).mpr (.inr a)) b),λq a b=>?_,λq=>⟨?_,?_⟩⟩
  ·rcases b with b|b
   ·exact d q a b
   ·exact dj q ((u q).mpr (.inl a)) b
  ·rintro(z|z)
   ·rcases(u q).mp z with z|z
    ·exact .inl z
    ·exact .inr (.inl z)
   ·exact .inr (.inr z)
  ·rintro(z|z|z)
   ·exact .inl ((u q).mpr (.inl z))
   ·exact .inl ((u q).mpr (.inr z))
   ·exact .inr z
theorem OwnMs.putF{f:Str}{m2:M}{v2:V}{L2 L:Ft}{fs:List Str}{ms:List M}{vs:List V}(o2:yL K G H m2 v2 L2)(h:OwnMs K G H ms vs L)(dj:∀q,L q->L2 q->False):∃L',OwnMs K G H (uC fs ms f m2) (uC fs vs f v2) L'/\∀q,L' q->L q\/L2 q:=by
 unfold uC;by_cases c:f∈fs
 ·rw[zM c,zM c];exact OwnMs.LO o2 h dj
 ·rw[zO c,zO c];exact⟨_,OwnMs.snoc o2 h dj,λq z=>z⟩
end
def tf(m:M)(β:zk)(i:Nat)(π:List yf)(cs:List Str)(f:Str):Option jJ:=(uz β i π).bind λnd=>match nd with
 |.obj x fs ms=>match decide (x∈cs)&&decide (fs.length<1000)with
  |true=>(putAt β i π (.obj x (qo fs f) (uC fs ms f m))).bind λβ2=>some (.nx β2)
  |false=>none
 |_=>none
def uV(i:Nat)(π:List yf)(cs:List Str)(f:Str)(fv:yu):zw:=λβ=>(fv β).bind λr=>tf r.1 r.2 i π cs f
def IQ(i:Nat)(π:List yf)(cs:List Str)(f:Str)(fe:FE):zw:=λβ=>(uz β i π).bind λnd=>match nd with
 |.obj x fs ms=>match decide (x∈cs)&&decide (fs.length<1000)with
  |true=>(getA fs ms f).bind λc=>(uQ c).bind λc=>match c with
   |.int a=>(fe (vx β)).bind λy=>match y with
    |.int b=>(putAt β i π (.obj x (qo fs f) (uC fs ms f (.fz (.int (a+b)))))).bind λβ2=>some (.nx β2)
    |_=>none
   |_=>none
  |false=>none
 |_=>none
section
variable{X:Cx}{np:Nat}{o v:Expr}{i:Nat}{π:List yf}{cs:List Str}{f:Str}{fv:yu}{fe:FE}{pos pos' tpos:Pos}
theorem qO(ho:SP X o i π)(k:zt X.K cs f)(hv:MC X v fv)(hs:swapsWith v (some (.Attribute o f pos')) pos.line X.env=pure false:=by rfl):MS X np (.Assign [.Attribute o f pos'] v pos) (uV i π cs f fv):=by
 obtain⟨tv,pv,kv⟩:=hv.h;obtain⟨to,po,ko⟩:=ho.h;refine⟨⟨_,Sc po pv hs,λ{P G0 H0 G H β σ fl E} hP K hf q=>?_⟩⟩;obtain⟨⟨m,β1⟩,hy,hf⟩:=zD hf;obtain⟨nd,hn,hf⟩:=zD (show(uz β1 i π).bind _=_ from hf)
 split at hf
 ·rename_i x fs ms
  split at hf
  ·rename_i c;rw[yD]at c;have hx:=xE c.1;have hl:=xE c.2;obtain⟨β2,hβ,hf⟩:=zD hf;cases hf;obtain⟨mm,hm,ha⟩:=jd hn;refine kv K hy λw G1 H1 s1 K1=>?_
   obtain⟨r,v1,L1,Lr,er,va,o1,orr,dj,wr⟩:=K1.write K.lp hm ha;obtain⟨p,C,dx,vs,L',rfl,ns,hp,l,rs,nL,uL⟩:=o1;obtain⟨cl,na⟩:=k x hx C ns;have k1:∀q,q≠p->(zT H1 p (.ins C dx (putF f w (fs.zip vs)))) q=H1 q:=λq z=>yH z
   have rs':OwnMs X.K G1 (zT H1 p (.ins C dx (putF f w (fs.zip vs)))) ms vs L':=OwnMs.imp (λm' _ v' L3 s o=>o.loc (zb.refl _) m' v' L3 λq z=>k1 q λc=>nL (c▸s q z)) rs;have or':yL X.K G1 (zT H1 p (.ins C dx (putF f w (fs.zip vs)))) m w Lr:=orr.loc (zb.refl _) m w Lr λq z=>k1 q λc=>dj q ((uL q).mpr (.inl c)) z
   obtain⟨L3,o3,s3⟩:=OwnMs.putF (f:=f) (fs:=fs) or' rs' (λq a b=>dj q ((uL q).mpr (.inr a)) b)
   obtain⟨m',e',K5⟩:=wr (H':=zT H1 p (.ins C dx (putF f w (fs.zip vs)))) (m2:=.obj x (qo fs f) (uC fs ms f m)) (L2:=λq=>q=p\/L3 q) (λq z=>k1 q λc=>z ((uL q).mpr (.inl c)))
    ⟨p,C,dx,uC fs vs f w,L3,rfl,ns,by rw[yi,Iu l],FJ l,o3,λz=>by
     rcases s3 p z with z|z
     ·exact nL z
     ·exact dj p ((uL p).mpr (.inl rfl)) z,λq=>qT⟩ (λq z=>by
     rcases z with rfl|z
     ·exact .inl ((uL q).mpr (.inl rfl))
     ·rcases s3 q z with z|z
      ·exact .inl ((uL q).mpr (.inr z))
      ·exact .inr z)
   rw[Y8 hm e']at hβ;cases hβ;exact ko er va ⟨p,C,dx,_,rfl,hp,cl,na,by rw[j0,l,qA,<-l]; exact hl,q _ _ _ K5⟩
  ·cases hf
 ·cases hf
theorem NX(ho:SP X o i π)(k:zt X.K cs f)(hv:SE X v fe):MS X np (.AugAssign (.Attribute o f tpos) .Add v pos) (IQ i π cs f fe):=by
 obtain⟨tv,pv,kv⟩:=hv.h;obtain⟨to,po,ko⟩:=ho.h;refine⟨⟨_,Sd po pv BL,λ{P G0 H0 G H β σ fl E} hP K hf q=>?_⟩⟩;obtain⟨nd,hn,hf⟩:=zD hf
 split at hf
 ·rename_i x fs ms
  split at hf
  ·rename_i c;rw[yD]at c;have hx:=xE c.1;have hl:=xE c.2;obtain⟨ch,hch,hf⟩:=zD hf;obtain⟨dc,hdc,hg⟩:=zD hf;cases qH hdc
   split at hg
   ·rename_i a;obtain⟨y,hy,hf⟩:=zD hg
    split at hf
    ·rename_i b;obtain⟨β2,hβ,hf⟩:=zD hf;cases hf;obtain⟨mm,hm,ha⟩:=jd hn;have K0:=K.qY (d:=.zG) (v:=.zG) rfl;obtain⟨r,v1,L1,Lr,er,va,o1,_⟩:=K0.write K.lp hm ha;obtain⟨p,C,dx,vs,L',rfl,ns,hp,l,rs,nL,uL⟩:=o1;obtain⟨cl,na⟩:=k x hx C ns;obtain⟨vc,Lc,ec,⟨rc,_⟩,_⟩:=OwnMs.focus rs hch;cases(show vc=_ from rc);refine ko er va ⟨p,C,dx,_,_,rfl,hp,cl,na,by rw[Uq]; exact ec,?_⟩;obtain⟨Ga,Ea,back⟩:=K.uM;refine kv Ea hy λu G2 H2 x2 r2=>?_
     cases(show u=_ from r2);obtain⟨G3,x3,K3,_⟩:=back _ _ x2;have K4:=K3.qY (d:=.int (a+b)) (v:=.int (a+b)) rfl;obtain⟨r',v1',L1',Lr',er',va',o1',orr,dj,wr⟩:=K4.write K.lp hm ha;rw[er]at er';cases er';cases xO.one (va.mono x3.h) va';obtain⟨p',C',dx',vs',L'',e0,ns',hp',l',rs',nL',uL'⟩:=o1';cases e0;have eC:C'=C:=by rw[ns]at ns'; cases ns'; rfl
     subst eC;have k1:∀q,q≠p->(zT H2 p (.ins C' dx' (putF f (V.int (a+b)) (fs.zip vs')))) q=H2 q:=λq z=>yH z
     have rs2:OwnMs X.K G3 (zT H2 p (.ins C' dx' (putF f (V.int (a+b)) (fs.zip vs')))) ms vs' L'':=OwnMs.imp (λm' _ v' L3 s o=>o.loc (zb.refl _) m' v' L3 λq z=>k1 q λc=>nL' (c▸s q z)) rs';obtain⟨L3,o3,s3⟩:=OwnMs.putF (f:=f) (fs:=fs) (m2:=.fz (.int (a+b))) (v2:=.int (a+b)) (L2:=λ_=>False) ⟨rfl,λ_ z=>z⟩ rs2 (λq _ z=>z)
     obtain⟨m',e',K5⟩:=wr (H':=zT H2 p (.ins C' dx' (putF f (V.int (a+b)) (fs.zip vs')))) (m2:=.obj x (qo fs f) (uC fs ms f (.fz (.int (a+b))))) (L2:=λq=>q=p\/L3 q) (λq z=>k1 q λc=>z ((uL' q).mpr (.inl c)))
      ⟨p,C',dx',uC fs vs' f _,L3,rfl,ns,by rw[yi,Iu l'],FJ l',o3,λz=>by
       rcases s3 p z with z|z
       ·exact nL' z
       ·exact z,λq=>qT⟩ (λq z=>by
       rcases z with rfl|z
       ·exact .inl ((uL' q).mpr (.inl rfl))
       ·rcases s3 q z with z|z
        ·exact .inl ((uL' q).mpr (.inr z))
        ·exact z.elim)
     rw[Y8 hm e']at hβ;cases hβ;exact⟨_,_,rfl,rfl,dx',_,hp',by rw[j0,l',qA,<-l']; exact hl,q _ _ _ K5⟩
    ·cases hf
   ·cases hg
  ·cases hf
 ·cases hf
end
open Classical in
noncomputable def uT(H:Hp)(L:Ft):Hp:=λq=>if L q then none else H q
theorem Mj{H:Hp}{L:Ft}{q:Addr}(h:L q):uT H L q=none:=by unfold uT; rw[zM h]
theorem pA{H:Hp}{L:Ft}{q:Addr}(h:¬ L q):uT H L q=H q:=by unfold uT; rw[zO h]
theorem Ml{H:Hp}{L:Ft}{q:Addr}(h:uT H L q=none):L q\/H q=none:=by
 by_cases c:L q
 ·exact .inl c
 ·rw[pA c]at h; exact .inr h
abbrev FM:=List M->Option (List M×M)
def zo(K:W.Frag)(F:FM):Sp:=λvs H Q _=>∃G ms L ms' m',zb G H/\OwnMs K G H ms vs L/\(∀q,L q->G q=none)/\F ms=some (ms',m')/\
 ∀v G' H' L',zN G (uT H L) G' H'->OwnMs K G' H' (m'::ms') (v::vs) L'->(∀q,L' q->G' q=none/\uT H L q=none)->Q v H'
section
variable{K:W.Frag}{n:Nat}{P:List V}{G0 H0 G H G' H':Hp}{β:zk}{σ:St}
theorem zd.LW{m:M}{v:V}{L:Ft}(E:zd K n P G0 H0 G H β σ)(x:zN G H G' H')(o:yL K G' H' m v L)(hL:∀q,L q->G' q=none/\H q=none):zd K (n+1) P G0 H0 G' H' (β++[some m]) (σ++[some v]):=by
 obtain⟨Ls,F⟩:=E.own;have E':=E.go x;have hz:∀i q,Ls i q->L q->False:=λi q z c=>(F.ok i q z).2.2.some (hL q c).2
 refine⟨E'.ext,by rw[yO,E.l1]; rfl,by rw[yO,E.l2]; rfl,by have:=E.lp; omega,λi u h=>?_,λj=>if j<n then Ls j else if j=n then L else λ_=>False,λi m' h=>?_,λi j q ne z1 z2=>?_,λi q z=>?_⟩
 ·have hi:i<σ.length:=by
   rw[E.l1];exact xh (yA.mp h).1 E.lp
  rw[xx hi];exact E.pin i u h
 ·rcases YI h with⟨c,e⟩|⟨c,e⟩
  ·rw[E.l2]at c;obtain⟨u,eu,ou⟩:=F.at_ i m' e;refine⟨u,by rw[xx (by rw[E.l1]; exact c)]; exact eu,?_⟩;simp only[zM c];refine ou.loc x.g m' u _ λq z=>?_
   obtain⟨w,hw,_⟩:=(F.ok i q z).2.2;rw[hw];exact x.h _ _ hw
  ·cases e;rw[E.l2]at c;subst c;refine⟨_,vv E.l1,?_⟩;simp only[wW,qW,vz];exact o
 ·split at z1
  ·split at z2
   ·exact F.dj i j q ne z1 z2
   ·split at z2
    ·exact hz i q z1 z2
    ·exact z2
  ·split at z1
   ·split at z2
    ·exact hz j q z2 z1
    ·split at z2
     ·exact ne (by omega)
     ·exact z2
   ·exact z1
 ·split at z
  ·obtain⟨a,b,c⟩:=F.ok i q z;obtain⟨a',c'⟩:=Qo x a c;exact⟨a',b,c'⟩
  ·split at z
   ·exact⟨(hL q z).1,E.ext.h.free (hL q z).2,o.cells m v _ q z⟩
   ·exact z.elim
theorem zd.back{m nd:M}{i:Nat}{π:List yf}(E:zd K n P G0 H0 G H β σ)(hm:β[i]?=some (some m))(ha:uR m π=some nd) :
  ∃r v1 L1,σ[i]?=some (some r)/\xO K H r π v1/\yL K G H nd v1 L1/\(∀q,L1 q->G q=none)/\
   ∀{G' H':Hp}{m' nd':M}{v:V}{Lr L2:Ft},zN G (uT H L1) G' H'->yL K G' H' m' v Lr->yL K G' H' nd' v1 L2->(∀q,Lr q->L2 q->False)->(∀q,Lr q\/L2 q->G' q=none/\uT H L1 q=none)->
    ∃mm,uD m π nd'=some mm/\zd K (n+1) P G0 H0 G' H' (β.set i (some mm)++[some m']) (σ++[some v]):=by
 obtain⟨Ls,F⟩:=E.own;have hi:i<n:=by rw[<-E.l2]; exact(yA.mp hm).1
 obtain⟨r,er,om⟩:=F.at_ i m hm;obtain⟨v1,L1,va,o1,s1,re⟩:=om.focus ha;refine⟨r,v1,L1,er,va,o1,λq z=>(F.ok i q (s1 q z)).1,λ{G' H' m' nd' v Lr L2} x or o2 dj hN=>?_⟩
 have keep:∀j q,Ls j q->¬ L1 q->H' q=H q:=λj q z w=>by
  obtain⟨u,hu,_⟩:=(F.ok j q z).2.2;rw[hu];exact x.h _ _ ((pA w).trans hu)
 have old:∀j q,Ls j q->¬ L1 q->(Lr q\/L2 q)->False:=λj q z w c=>by
  have e:=(hN q c).2;rw[pA w]at e;exact(F.ok j q z).2.2.some e
 obtain⟨mm,e',o'⟩:=re x.g (λq z w=>keep i q z w) o2 (λq z w=>by
  by_cases c:L1 q
  ·exact c
  ·exact(old i q w c (.inr z)).elim)
 have dj1:∀j q,j≠i->Ls j q->¬ L1 q:=λj q ne z w=>F.dj i j q (λc=>ne c.symm) (s1 q w) z
 have g0:∀q,uT H L1 q=none->H0 q=none:=λq z=>by
  rcases Ml z with z|z
  ·exact(F.ok i q (s1 q z)).2.1
  ·exact E.ext.h.free z
 have hlen1:(β.set i (some mm)).length=n:=by rw[vO]; exact E.l2
 refine⟨mm,e',⟨E.ext.g.trans x.g,λq o z=>x.h _ _ ?_,x.gh,λq z=>?_⟩,by rw[yO,E.l1]; rfl,by rw[yO,hlen1]; rfl,by have:=E.lp; omega,λj u h=>?_,λj=>if j=i then(λq=>(Ls i q/\¬ L1 q)\/L2 q)else if j<n then Ls j else if j=n then Lr else λ_=>False,λj m3 h=>?_,λj k q ne z1 z2=>?_,λj q z=>?_⟩
 ·rw[pA λw=>by rw[(F.ok i q (s1 q w)).2.1]at z; cases z];exact E.ext.h _ _ z
 ·rcases x.new q z with w|w
  ·exact E.ext.new q w
  ·exact .inr (g0 q w)
 ·have hj:j<σ.length:=by
   rw[E.l1];exact xh (yA.mp h).1 E.lp
  rw[xx hj];exact E.pin j u h
 ·rcases YI h with⟨c,e⟩|⟨c,e⟩
  ·rw[hlen1]at c;rcases wV e with⟨rfl,w⟩|⟨ne,w⟩
   ·cases w;simp only[vz];exact⟨r,by rw[xx (by rw[E.l1]; exact c)]; exact er,o'⟩
   ·obtain⟨u,eu,ou⟩:=F.at_ j m3 w;simp only[zO ne,zM c];exact⟨u,by rw[xx (by rw[E.l1]; exact c)]; exact eu,ou.loc x.g m3 u _ λq z=>keep j q z (dj1 j q ne z)⟩
  ·cases e;rw[hlen1]at c;subst c;refine⟨_,vv E.l1,?_⟩;simp only[zO (qU hi),wW,qW,vz];exact or
 ·have a1:∀j,j≠i->∀q,(Ls i q/\¬ L1 q)\/L2 q->Ls j q->False:=λj ne q z1 z2=>by
   rcases z1 with⟨z1,_⟩|z1
   ·exact F.dj i j q (λc=>ne c.symm) z1 z2
   ·exact old j q z2 (dj1 j q ne z2) (.inr z1)
  have a2:∀q,(Ls i q/\¬ L1 q)\/L2 q->Lr q->False:=λq z1 z2=>by
   rcases z1 with⟨z1,w⟩|z1
   ·exact old i q z1 w (.inl z2)
   ·exact dj q z2 z1
  have a3:∀j,j≠i->∀q,Ls j q->Lr q->False:=λj ne q z1 z2=>old j q z1 (dj1 j q ne z1) (.inl z2)
  split at z1
  ·split at z2
   ·exact ne (by omega)
   ·split at z2
    ·exact a1 k (by omega) q z1 z2
    ·split at z2
     ·exact a2 q z1 z2
     ·exact z2
  ·split at z1
   ·split at z2
    ·exact a1 j (by omega) q z2 z1
    ·split at z2
     ·exact F.dj j k q ne z1 z2
     ·split at z2
      ·exact a3 j (by omega) q z1 z2
      ·exact z2
   ·split at z1
    ·split at z2
     ·exact a2 q z2 z1
     ·split at z2
      ·exact a3 k (by omega) q z2 z1
      ·split at z2
       ·exact ne (by omega)
       ·exact z2
    ·exact z1
 ·have nw:∀q,Ls j q->¬ L1 q->G' q=none/\H0 q=none/\Bx H' q:=λq z w=>by
   obtain⟨a,b,u,hu,cu⟩:=F.ok j q z;refine⟨?_,b,u,(keep j q z w).trans hu,cu⟩;cases e:G' q with
   |none=>rfl
   |some o=>
    rcases x.new q (by rw[e]; exact λz=>nomatch z)with c|c
    ·exact absurd a c
    ·rw[pA w,hu]at c;cases c
  split at z
  ·rename_i ej;subst ej;rcases z with⟨z,w⟩|z
   ·exact nw q z w
   ·exact⟨(hN q (.inr z)).1,g0 q (hN q (.inr z)).2,o2.cells nd' _ _ q z⟩
  ·rename_i ne
   split at z
   ·exact nw q z (dj1 j q ne z)
   ·split at z
    ·exact⟨(hN q (.inl z)).1,g0 q (hN q (.inl z)).2,or.cells m' _ _ q z⟩
    ·exact z.elim
end
inductive AV where
 |v (d:D)|p (i:Nat) (π:List yf)
abbrev vB:=zk->Option (List AV)
def g9(K:W.Frag)(G H:Hp)(σ:St):List AV->List V->Prop
 | [],vs=>vs=[]
 |.v d::as,vs=>∃v r,vs=v::r/\zS K G d v/\g9 K G H σ as r
 |.p i π::as,vs=>∃v r w,vs=v::r/\σ[i]?=some (some w)/\xO K H w π v/\g9 K G H σ as r
structure MA(X:Cx)(es:List Expr)(f:vB):Prop where
 h:∃t,PA X es t/\∀{P:List V}{G0 H0 G H:Hp}{β:zk}{σ:St}{as:List AV}{Q:List V->Hp->Prop},zd X.K X.N.length P G0 H0 G H β σ->f β=some as->(∀vs G' H',zN G H G' H'->g9 X.K G' H' σ as vs->Q vs H')->t σ H Q
def xv:vB:=λ_=>some []
def ZN(f:FE)(r:vB):vB:=λβ=>(f (vx β)).bind λd=>match vM d with
 |true=>(r β).bind λas=>some (.v d::as)
 |false=>none
def xt(f:FE)(r:vB):vB:=λβ=>(f (uu β)).bind λd=>(r β).bind λas=>some (.v d::as)
def Ei(f:FE)(r:vB):vB:=λβ=>(f (vx β)).bind λd=>match IV d with
 |true=>(r β).bind λas=>some (.v d::as)
 |false=>none
def p9:M->Nat->List yf->AV
 |.fz d,_,_=>.v d
 |_,i,π=>.p i π
def vS(i:Nat)(π:List yf)(r:vB):vB:=λβ=>(uz β i π).bind λnd=>(r β).bind λas=>some (p9 nd i π::as)
section
variable{X:Cx}{e:Expr}{es:List Expr}{f:FE}{r:vB}{i:Nat}{π:List yf}
theorem vI:MA X [] xv:=⟨⟨_,XU,λE hf q=>by cases hf; exact q _ _ _ (zN.refl E.ext.gh) rfl⟩⟩
theorem Ut(he:SE X e f)(hr:MA X es r)(h:yZ e=true:=by rfl):MA X (e::es) (ZN f r):=by
 obtain⟨t,p,k⟩:=he.h;obtain⟨t',p',k'⟩:=hr.h;refine⟨⟨_,kH p p' h,λE hf q=>?_⟩⟩;obtain⟨d,hd,hf⟩:=zD hf
 split at hf
 ·rename_i c;obtain⟨as,has,hf⟩:=zD hf;cases hf;obtain⟨G1,E1,back⟩:=E.uM;refine k E1 hd λv G2 H2 x r=>?_
  obtain⟨G3,x3,E3,r3,_⟩:=back _ _ x;refine k' E3 has λvs G' H' x' rr=>q _ _ _ (x3.trans x') ⟨v,vs,rfl,(r3 d v c r).mono x'.g,rr⟩
 ·cases hf
theorem wG(he:SE X e f)(hr:MA X es r)(h:yZ e=true:=by rfl):MA X (e::es) (xt f r):=by
 obtain⟨t,p,k⟩:=he.h;obtain⟨t',p',k'⟩:=hr.h;refine⟨⟨_,kH p p' h,λE hf q=>?_⟩⟩;obtain⟨d,hd,hf⟩:=zD hf;obtain⟨as,has,hf⟩:=zD hf;cases hf;refine k E.k_ hd λv G2 H2 x r=>?_
 exact k' (E.go x) has λvs G' H' x' rr=>q _ _ _ (x.trans x') ⟨v,vs,rfl,r.mono x'.g,rr⟩
theorem u9(he:SP X e i π)(hr:MA X es r)(h:yZ e=true:=by rfl):MA X (e::es) (vS i π r):=by
 obtain⟨t,p,k⟩:=he.h;obtain⟨t',p',k'⟩:=hr.h;refine⟨⟨_,kH p p' h,λE hf q=>?_⟩⟩;obtain⟨nd,hn,hf⟩:=zD hf;obtain⟨as,has,hf⟩:=zD hf;obtain⟨mm,hm,ha⟩:=jd hn;obtain⟨w,v1,L1,er,va,o1,_⟩:=E.back hm ha;refine k er va (k' E has λvs G' H' x' rr=>q _ _ _ x' ?_);cases nd with
 |fz d=>cases hf; exact⟨v1,vs,rfl,o1.1.mono x'.g,rr⟩
 |own d=>cases hf; exact⟨v1,vs,w,rfl,er,va.mono x'.h,rr⟩
 |obj x fs ms=>cases hf; exact⟨v1,vs,w,rfl,er,va.mono x'.h,rr⟩
 |tab ks ms=>cases hf; exact⟨v1,vs,w,rfl,er,va.mono x'.h,rr⟩
end
def jr:List AV->Option (List D)
 | []=>some []
 |.v d::as=>(jr as).bind λds=>some (d::ds)
 |.p _ _::_=>none
def ZR:List AV->Option (List D×Nat×List yf×List D)
 | []=>none
 |.v d::as=>(ZR as).bind λr=>some (d::r.1,r.2)
 |.p i π::as=>(jr as).bind λb=>some ([],i,π,b)
def ur(ds:List D):List M:=ds.map .fz
def gj(F:FM)(as:List AV)(β:zk):Option (M×zk):=match jr as with
 |some ds=>(F (ur ds)).bind λr=>some (r.2,β)
 |none=>(ZR as).bind λc=>(uz β c.2.1 c.2.2.1).bind λnd=>(F (ur c.1++nd::ur c.2.2.2)).bind λr=>(r.1[c.1.length]?).bind λnd'=>(putAt β c.2.1 c.2.2.1 nd').bind λβ'=>some (r.2,β')
def vE(F:FM)(f:vB):yu:=λβ=>(f β).bind λas=>gj F as β
section
variable{K:W.Frag}{n:Nat}{P:List V}{G0 H0 G H G' H':Hp}{β:zk}{σ:St}
theorem XT:∀{ds:List D}{vs:List V},Reps K G ds vs->OwnMs K G H (ur ds) vs (λ_=>False)
 | [],_,r=>⟨r,λ_ z=>z⟩
 |d::ds,_,r=>by
  obtain⟨v,r,rfl,hv,hr⟩:=r;exact⟨v,r,λ_=>False,λ_=>False,rfl,⟨hv,λ_ z=>z⟩,XT hr,λ_ z=>z.elim,λq=>⟨λz=>z.elim,λz=>z.elim id id⟩⟩
theorem Di{nd:M}{v1:V}{L1:Ft}(o:yL K G H nd v1 L1){b:List D}{vb:List V}(rb:Reps K G b vb):∀{a:List D}{va:List V},Reps K G a va->OwnMs K G H (ur a++nd::ur b) (va++v1::vb) L1
 | [],va,r=>by
  cases(show va=[]from r);exact⟨v1,vb,L1,λ_=>False,rfl,o,XT rb,λ_ _ z=>z,λq=>⟨.inl,λz=>z.elim id False.elim⟩⟩
 |d::ds,_,r=>by
  obtain⟨v,r,rfl,hv,hr⟩:=r;exact⟨v,_,λ_=>False,L1,rfl,⟨hv,λ_ z=>z⟩,Di o rb hr,λ_ z=>z.elim,λq=>⟨.inr,λz=>z.elim False.elim id⟩⟩
theorem VW:∀{as:List AV}{ds:List D}{vs:List V},jr as=some ds->g9 K G H σ as vs->Reps K G ds vs
 | [],ds,vs,e,r=>by cases e; exact r
 |.v d::as,ds,vs,e,r=>by
  obtain⟨ds',e',e⟩:=zD e;cases e;obtain⟨v,r,rfl,hv,hr⟩:=r;exact⟨v,r,rfl,hv,VW e' hr⟩
 |.p i π::as,ds,vs,e,r=>by cases e
theorem Lx:∀{as:List AV}{a b:List D}{i:Nat}{π:List yf}{vs:List V},ZR as=some (a,i,π,b)->g9 K G H σ as vs->∃va v1 vb w,vs=va++v1::vb/\Reps K G a va/\Reps K G b vb/\σ[i]?=some (some w)/\xO K H w π v1
 | [],a,b,i,π,vs,e,r=>by cases e
 |.v d::as,a,b,i,π,vs,e,r=>by
  obtain⟨⟨a',i',π',b'⟩,e',e⟩:=zD e;cases e;obtain⟨v,r,rfl,hv,hr⟩:=r;obtain⟨va,v1,vb,w,rfl,ra,rb,ew,va'⟩:=Lx e' hr;exact⟨v::va,v1,vb,w,rfl,⟨v,va,rfl,hv,ra⟩,rb,ew,va'⟩
 |.p j ρ::as,a,b,i,π,vs,e,r=>by
  obtain⟨b',e',e⟩:=zD e;cases e;obtain⟨v,r,w,rfl,ew,va,hr⟩:=r;exact⟨[],v,r,w,rfl,rfl,VW e' hr,ew,va⟩
theorem Ik{v1:V}{nd:M}:∀{ms:List M}{vs:List V}{L:Ft}{k:Nat},OwnMs K G H ms vs L->ms[k]?=some nd->vs[k]?=some v1->∃L2,yL K G H nd v1 L2/\∀q,L2 q->L q
 | [],_,_,_,_,e,_=>by cases e
 |m::ms,_,L,0,h,e1,e2=>by
  obtain⟨v,r,La,Lb,rfl,hv,hr,d,u⟩:=h;cases e1;cases e2;exact⟨La,hv,λq z=>(u q).mpr (.inl z)⟩
 |m::ms,_,L,k+1,h,e1,e2=>by
  obtain⟨v,r,La,Lb,rfl,hv,hr,d,u⟩:=h;obtain⟨L2,o,s⟩:=Ik (k:=k) hr (by simpa using e1) (by simpa using e2);exact⟨L2,o,λq z=>(u q).mpr (.inr (s q z))⟩
theorem zd.call{F:FM}{as:List AV}{vs:List V}{m:M}{β':zk}{Q:VK}{E0:XK}(E:zd K n P G0 H0 G H β σ)(ra:g9 K G H σ as vs)(hf:gj F as β=some (m,β'))(q:∀v G' H',zb G G'->zd K (n+1) P G0 H0 G' H' (β'++[some m]) (σ++[some v])->Q v H'):zo K F vs H Q E0:=by
 unfold gj at hf
 split at hf
 ·rename_i ds e;obtain⟨⟨ms',m'⟩,hF,hf⟩:=zD hf;cases hf;refine⟨G,_,_,_,_,E.ext.gh,XT (VW e ra),λ_ z=>z.elim,hF,λv G' H' L' x o hN=>?_⟩
  have ec:uT H (λ_=>False)=H:=by
   funext q
   exact pA (λz=>z)
  rw[ec]at x;obtain⟨v',r',La,Lb,e2,o1,o2,dj,u⟩:=o;cases e2
  exact q v G' H' x.g (E.LW x o1 λq z=>by
   obtain⟨a,b⟩:=hN q ((u q).mpr (.inl z));rw[ec]at b;exact⟨a,b⟩)
 ·obtain⟨⟨a,i,π,b⟩,hc,hf⟩:=zD hf;obtain⟨nd,hn,hf⟩:=zD hf;obtain⟨⟨ms',m'⟩,hF,hf⟩:=zD hf;obtain⟨nd',hnd,hf⟩:=zD hf;obtain⟨β2,hβ,hf⟩:=zD hf;cases hf;obtain⟨mm,hm,ha⟩:=jd hn;obtain⟨w,v1,L1,er,va,o1,g1,bk⟩:=E.back hm ha;obtain⟨xa,v1',xb,w',rfl,r1,r2,er',va'⟩:=Lx hc ra;rw[er]at er';cases er';cases xO.one va va';refine⟨G,_,L1,_,_,E.ext.gh,Di o1 r2 r1,g1,hF,λv G' H' L' x o hN=>?_⟩;obtain⟨v',r',La,Lb,e2,oa,ob,dj,u⟩:=o;cases e2
  obtain⟨L2,o2,s2⟩:=Ik (v1:=v1) ob hnd (by
   rw[<-r1.length,YX (yF _),V0];rfl)
  obtain⟨m3,e3,K3⟩:=bk x oa o2 (λq z w=>dj q z (s2 q w)) (λq z=>by
   rcases z with z|z
   ·exact hN q ((u q).mpr (.inl z))
   ·exact hN q ((u q).mpr (.inr (s2 q z))))
  rw[Y8 hm e3]at hβ;cases hβ;exact q v G' H' x.g K3
end
section
variable{X:Cx}{x m c:Str}{ps:List Str}{j k:Nat}{F:FM}{e o:Expr}{es:List Expr}{fa:vB}{p pos apos:Pos}{i:Nat}{π:List yf}
theorem ux(h:zJ X.prog X.w X.K X.mg X.base x ps k (zo X.K F))(hr:yI j X.A)(hg:Gl X x)(ha:MA X (e::es) fa)(hk:k<=j:=by decide)(hdb:(x==("__debug__" : Str))=false:=by decide)
  (he:(e::es).all yZ=true:=by rfl):MC X (.Call (.Name x p) (e::es) [] pos) (vE F fa):=by
 obtain⟨t,pa,ka⟩:=ha.h;refine⟨⟨_,Io h hr hg pa hk hdb he,λE hf q=>?_⟩⟩;obtain⟨as,has,hf⟩:=zD hf;refine ka E has λvs G1 H1 x1 ra=>?_
 rw[ub];exact(E.go x1).call ra hf λv G' H' s K'=>q v G' H' (x1.g.trans s) K'
def wX(P:Program)(w:World)(K:W.Frag)(mg:Str->Option Value)(base:Heap)(c m:Str)(ps:List Str)(k:Nat)(sp:Sp):Prop:=
 ∃(C f:Addr) (fd:FuncData),W.nsIn K mainGlobals c=some (some (.ref C))/\vk K C/\VM K C m f/\xq K fd ps []/\yj P w K mg base yo k f fd ps sp
def jQ(c m:Str)(i:Nat)(π:List yf)(F:FM)(f:vB):yu:=λβ=>(uz β i π).bind λnd=>match nd with
 |.obj x fs _=>match decide (x=c)&&!(decide (m∈fs))with
  |true=>(f β).bind λas=>gj F (.p i π::as) β
  |false=>none
 |_=>none
theorem IP{f:Str}:∀{fs:List Str}{vs:List V},f ∉ fs->(fs.zip vs).lookup f=none
 | [],_,_=>rfl
 |_::_,[],_=>rfl
 |g::fs,v::vs,h=>by
  rw[ud,Wr]
  have c:(f==g)=false:=by
   have:f≠g:=λz=>h (z▸yr)
   simpa using this
  rw[c];exact IP λz=>h (xg _ z)
theorem GJ{P:List V}{G0 H0 G H:Hp}{β β':zk}{σ:St}{mr:M}{Q:VK}{C:Addr}{t:TA}{to:TE}{E0:XK}(nsC:W.nsIn X.K mainGlobals c=some (some (.ref C)))
  (ko:∀{σ:St}{H:Hp}{v u:V}{Q:VK},σ[i]?=some (some v)->xO X.K H v π u->Q u H->to σ H Q)
  (ka:∀{P:List V}{G0 H0 G H:Hp}{β:zk}{σ:St}{as:List AV}{Q:List V->Hp->Prop},zd X.K X.N.length P G0 H0 G H β σ->fa β=some as->(∀vs G' H',zN G H G' H'->g9 X.K G' H' σ as vs->Q vs H')->t σ H Q)
  (E:zd X.K X.N.length P G0 H0 G H β σ)(hf:jQ c m i π F fa β=some (mr,β'))(q:∀v G' H',zb G G'->zd X.K (X.N.length+1) P G0 H0 G' H' (β'++[some mr]) (σ++[some v])->Q v H'):TN C m (zo X.K F) [] E0 to t σ H Q:=by
 obtain⟨nd,hn,hf⟩:=zD hf
 split at hf
 ·rename_i x fs ms
  split at hf
  ·rename_i cc;rw[yD]at cc;cases xE cc.1
   have hm:m ∉ fs:=by
    have:=cc.2;simpa using this
   obtain⟨as,has,hf⟩:=zD hf;obtain⟨mm,hmm,ha⟩:=jd hn;obtain⟨w,v1,L1,er,va,o1,_⟩:=E.back hmm ha;obtain⟨p,C',dx,vs,L',rfl,ns,hp,l,rs,nL,uL⟩:=o1;rw[nsC]at ns;cases ns;refine ko er va ⟨p,dx,_,rfl,hp,IP hm,?_⟩;refine ka E has λvs G1 H1 x1 ra=>?_
   rw[ub];exact(E.go x1).call (as:=.p i π::as) ⟨_,vs,w,rfl,er,va.mono x1.h,ra⟩ hf λv G' H' s K'=>q v G' H' (x1.g.trans s) K'
  ·cases hf
 ·cases hf
theorem Uv{pl:Sem Bool}(h:wX X.prog X.w X.K X.mg X.base c m ps k (zo X.K F))(hr:yI j X.A)(ho:SP X o i π)(hk:k<=j:=by decide)
  (ht:eval (.Call (.Attribute o m apos) [] [] pos) X.env=(do
   let ov <-eval o X.env
   standAt apos.atName
   let (f,first) <-holding [ov] (getMethod ov m pl)
   callWith pos f first (backTo pos (starEach [] X.env)) (backToKw pos (keywordEach [] X.env))):=by rfl):MC X (.Call (.Attribute o m apos) [] [] pos) (jQ c m i π F xv):=by
 obtain⟨C,f,fd,ns,cl,me,b,FF⟩:=h;obtain⟨to,po,ko⟩:=ho.h;exact⟨⟨_,Dq po cl me FF (hr.mono hk) b .nil kI ht,λE hf q=>GJ (t:=Wh) ns ko (λ{P G0 H0 G H β σ as Q} E' e k'=>by cases e; exact k' _ _ _ (zN.refl E'.ext.gh) rfl) E hf q⟩⟩
def ZI(P:Program)(w:World)(K:W.Frag)(mg:Str->Option Value)(base:Heap)(c:Str)(ps:List Str)(k:Nat)(sp:Sp):Prop:=
 ∃(C f:Addr) (fd:FuncData),W.nsIn K mainGlobals c=some (some (.ref C))/\mg c=some (.ref C)/\Mk K C f/\xq K fd ps []/\yj P w K mg base yo k f fd ps sp
def X4(c:Str)(F:FM)(f:vB):yu:=λβ=>(f β).bind λas=>(jr as).bind λds=>(F (.obj c [] []::ur ds)).bind λr=>match r.2 with
 |.fz .zG=>(r.1[0]?).bind λm=>some (m,β)
 |_=>none
theorem IR(h:ZI X.prog X.w X.K X.mg X.base c ps k (zo X.K F))(hr:yI j X.A)(hg:Gl X c)(ha:MA X (e::es) fa)(hk:k+1<=j:=by decide)(hdb:(c==("__debug__" : Str))=false:=by decide)(he:(e::es).all yZ=true:=by rfl) :
  MC X (.Call (.Name c p) (e::es) [] pos) (X4 c F fa):=by
 obtain⟨C,f,fd,ns,mgc,mk,b,FF⟩:=h;obtain⟨t,pa,ka⟩:=ha.h;rw[xf,yD]at he;refine⟨⟨_,R_ mk FF (hr.mono hk) hg mgc b .nil kI pa hdb (vw he.1) (pj he.2),λ{P G0 H0 G H β β' σ mr Q} E hf q=>?_⟩⟩;obtain⟨as,has,hf⟩:=zD hf;obtain⟨ds,hds,hf⟩:=zD hf;obtain⟨⟨ms',m'⟩,hF,hf⟩:=zD hf;refine ka E has λvs G1 H1 x1 ra y dy ny ndy ne=>?_
 rw[ub];have E1:=E.go x1;have rd:=VW hds ra
 split at hf
 ·rename_i em
  change m'=.fz .zG at em
  subst em;obtain⟨m0,h0,hf⟩:=zD hf;cases hf;have a1:∀q,q≠y->q≠dy->zT (zT H1 dy (.own y)) y (.ins C dy []) q=H1 q:=λq z w=>by rw[yH z,yH w]
  have gy:G1 y=none:=E1.ext.gh.free ny
  have s2:zb G1 (zT (zT H1 dy (.own y)) y (.ins C dy [])):=λq o z=>by
   have h1:=E1.ext.gh _ _ z;rw[a1 q (λc=>by subst c; rw[ny]at h1; cases h1) (λc=>by subst c; rw[ndy]at h1; cases h1)];exact h1
  refine⟨G1,.obj c [] []::ur ds,λq=>q=y,ms',.fz .zG,s2,⟨_,vs,λq=>q=y,λ_=>False,rfl,⟨y,C,dy,[],λ_=>False,rfl,ns,yi,rfl,⟨rfl,λ_ z=>z⟩,λz=>z,λq=>⟨.inl,λz=>z.elim id False.elim⟩⟩,XT rd,λ_ _ z=>z,λq=>⟨.inl,λz=>z.elim id False.elim⟩⟩,λq z=>z▸gy,hF,λv G' H' L' x2 o hN=>?_⟩;obtain⟨v',r',La,Lb,e2,oa,ob,dj,u⟩:=o;cases e2;refine⟨oa.1,?_⟩;obtain⟨L2,o2,s2'⟩:=Ik (v1:=.ref y) ob h0 rfl
  have cn:∀q,uT (zT (zT H1 dy (.own y)) y (.ins C dy [])) (λq=>q=y) q=none->H1 q=none:=λq z=>by
   rcases Ml z with z|z
   ·exact z▸ny
   ·by_cases c1:q=y
    ·exact c1▸ny
    ·by_cases c2:q=dy
     ·exact c2▸ndy
     ·rw[a1 q c1 c2]at z; exact z
  have x3:zN G1 H1 G' H':=⟨x2.g,λq o z=>x2.h _ _ (by
   have c1:q≠y:=λc=>by subst c; rw[ny]at z; cases z
   have c2:q≠dy:=λc=>by subst c; rw[ndy]at z; cases z
   rw[pA (L:=λq=>q=y) c1,a1 q c1 c2];exact z),x2.gh,λq z=>by
   rcases x2.new q z with w|w
   ·exact .inl w
   ·exact .inr (cn q w)⟩
  exact q _ G' H' (x1.g.trans x3.g) (E1.LW x3 o2 λq z=>by
   obtain⟨a,b⟩:=hN q ((u q).mpr (.inr (s2' q z)));exact⟨a,cn q b⟩)
 ·cases hf
end
section
variable{K:W.Frag}{G H:Hp}
theorem OwnMs.split:∀{ms:List M}{vs:List V}{L:Ft},OwnMs K G H ms vs L->∃Ls:Nat->Ft,(∀(i:Nat)(m:M),ms[i]?=some m->∃v,vs[i]?=some v/\yL K G H m v (Ls i))/\(∀(i j:Nat)(q:Addr),i≠j->Ls i q->Ls j q->False)/\∀i q,Ls i q->L q
 | [],_,_,_=>⟨λ_ _=>False,⟨λi m h=>(by cases h),⟨λ_ _ _ _ z=>z.elim,λ_ _ z=>z.elim⟩⟩⟩
 |m::ms,_,L,h=>by
  obtain⟨v,r,La,Lb,rfl,hv,hr,d,u⟩:=h;obtain⟨Ls,h1,h2,h3⟩:=OwnMs.split hr;refine⟨λi=>match i with|0=>La|j+1=>Ls j,λi m' e=>?_,λi j q ne z1 z2=>?_,λi q z=>?_⟩
  ·cases i with
   |zero=>cases e; exact⟨v,rfl,hv⟩
   |succ j=>exact h1 j m' (by simpa using e)
  ·cases i with
   |zero=>
    cases j with
    |zero=>exact ne rfl
    |succ j=>exact d q z1 (h3 j q z2)
   |succ i=>
    cases j with
    |zero=>exact d q z2 (h3 i q z1)
    |succ j=>exact h2 i j q (λc=>ne (by rw[c])) z1 z2
  ·cases i with
   |zero=>exact(u q).mpr (.inl z)
   |succ j=>exact(u q).mpr (.inr (h3 j q z))
theorem OwnMs.join:∀{ms:List M}{vs:List V}{Ls:Nat->Ft},(∀(i:Nat)(m:M),ms[i]?=some m->∃v,vs[i]?=some v/\yL K G H m v (Ls i))->(∀(i j:Nat)(q:Addr),i≠j->Ls i q->Ls j q->False)->vs.length=ms.length->∃L,OwnMs K G H ms vs L/\∀q,L q->∃i,i<ms.length/\Ls i q
 | [],vs,Ls,_,_,l=>by
  cases vs with
  |nil=>exact⟨λ_=>False,⟨rfl,λ_ z=>z⟩,λ_ z=>z.elim⟩
  |cons v r=>cases l
 |m::ms,[],Ls,_,_,l=>by cases l
 |m::ms,v::vs,Ls,h,d,l=>by
  obtain⟨L,o,hL⟩:=OwnMs.join (ms:=ms) (vs:=vs) (Ls:=λi=>Ls (i+1)) (λi m' e=>by
   obtain⟨u,eu,ou⟩:=h (i+1) m' (by simpa using e);exact⟨u,by simpa using eu,ou⟩) (λi j q ne=>d (i+1) (j+1) q (by omega)) (Yb l)
  obtain⟨u,eu,ou⟩:=h 0 m rfl;cases eu;refine⟨λq=>Ls 0 q\/L q,⟨v,vs,Ls 0,L,rfl,ou,o,λq z1 z2=>?_,λq=>qT⟩,λq z=>?_⟩
  ·obtain⟨i,_,z⟩:=hL q z2;exact d 0 (i+1) q (by omega) z1 z
  ·rcases z with z|z
   ·exact⟨0,Nat.succ_pos _,z⟩
   ·obtain⟨i,hi,z⟩:=hL q z;exact⟨i+1,Nat.succ_lt_succ hi,z⟩
end
def qG:List (Option M)->Option (List M)
 | []=>some []
 |o::r=>o.bind λm=>(qG r).bind λms=>some (m::ms)
def X7(np:Nat):jJ->Option (List M×M)
 |.rt m β=>(qG (β.take np)).bind λms=>some (ms,m)
 |.nx β=>(qG (β.take np)).bind λms=>some (ms,.fz .zG)
 |_=>none
def wU(np n:Nat)(b:zw)(ms:List M):Option (List M×M):=(b (ms.map some++List.replicate (n-ms.length) none)).bind (X7 np)
def xr(np n:Nat)(b:zw):FM:=λms=>if ms.length=np then wU np n b ms else none
theorem wC{np n:Nat}{b:zw}:∀ms r,xr np n b ms=some r->ms.length=np/\wU np n b ms=some r:=λms r h=>by
 unfold xr at h
 split at h
 ·rename_i c;exact⟨c,h⟩
 ·cases h
theorem Lw:∀{os:List (Option M)} {ms:List M},qG os=some ms->ms.length=os.length/\∀(i:Nat)(m:M),ms[i]?=some m->os[i]?=some (some m)
 | [],ms,h=>by cases h; exact⟨rfl,λi m e=>by cases e⟩
 |o::r,ms,h=>by
  obtain⟨m0,e0,h⟩:=zD h;obtain⟨ms',e',h⟩:=zD h;cases h;subst e0;obtain⟨l,g⟩:=Lw e';refine⟨by rw[yP,yP,l],λi m e=>?_⟩;cases i with
  |zero=>cases e; rfl
  |succ j=>exact g j m (by simpa using e)
section
variable{K:W.Frag}
theorem NA{N:List Str}{G H:Hp}{ms:List M}{vs:List V}{L:Ft}(s:zb G H)(o:OwnMs K G H ms vs L)(hL:∀q,L q->G q=none)(hl:ms.length<=N.length):zd K N.length vs G (uT H L) G H (ms.map some++List.replicate (N.length-ms.length) none) (L2.start N vs):=by
 have l:=o.length;obtain⟨Ls,h1,h2,h3⟩:=o.split;have cel:∀q,L q->Bx H q:=OwnMs.cells (λm _ v L1 oo=>oo.cells m v L1) o
 have get:∀(i:Nat)(v:V),vs[i]?=some v->(L2.start N vs)[i]?=some (some v):=λi v e=>by
  unfold L2.start;rw[py (by rw[zm]; exact(yA.mp e).1),vN,e];rfl
 refine⟨⟨zb.refl _,λq o e=>?_,s,λq z=>.inl z⟩,?_,?_,by omega,get,Ls,λi m h=>?_,h2,λi q z=>⟨hL q (h3 i q z),Mj (h3 i q z),cel q (h3 i q z)⟩⟩
 ·by_cases c:L q
  ·rw[Mj c]at e; cases e
  ·rw[pA c]at e; exact e
 ·unfold L2.start;rw[yO,zm,jv];omega
 ·rw[yO,zm,jv];omega
 ·obtain⟨m',e,z⟩:=Uu h;cases z;obtain⟨v,ev,ov⟩:=h1 i m e;exact⟨v,get i v ev,ov⟩
theorem Bn{n:Nat}{G0 H0 G H:Hp}{vs:List V}{β:zk}{σ:St}{m:M}{v:V}{ms:List M}(E:zd K (n+1) vs G0 H0 G H (β++[some m]) (σ++[some v]))(hn:vs.length<=n)(h:qG (β.take vs.length)=some ms) :
  ∃L,OwnMs K G H (m::ms) (v::vs) L/\∀q,L q->G q=none/\H0 q=none:=by
 obtain⟨Ls,F⟩:=E.own;obtain⟨l,g⟩:=Lw h;rw[p_,E.qx,Nat.min_eq_left hn]at l;obtain⟨u,eu,ou⟩:=F.at_ n m (vv E.qx);rw[vv E.km]at eu;cases eu
 obtain⟨L,o,hL⟩:=OwnMs.join (K:=K) (G:=G) (H:=H) (ms:=m::ms) (vs:=v::vs) (Ls:=λi=>match i with|0=>Ls n|j+1=>if j<n then Ls j else λ_=>False) (λi m' e=>by
  cases i with
  |zero=>cases e; exact⟨v,rfl,ou⟩
  |succ j=>
   have e':ms[j]?=some m':=by simpa using e
   have hj:j<vs.length:=by rw[<-l]; exact(yA.mp e').1
   have e2:=g j m' e';rw[List.getElem?_take]at e2;rw[zM hj]at e2;obtain⟨w,ew,ow⟩:=F.at_ j m' (by rw[xx (by rw[E.qx]; omega)]; exact e2);have e3:=E.pin j (vs[j]) (xD hj);rw[ew]at e3;cases e3;refine⟨vs[j],by simp[hj],?_⟩;simp only[zM (show j<n by omega)];exact ow) (λi j q ne z1 z2=>by
  cases i with
  |zero=>
   cases j with
   |zero=>exact ne rfl
   |succ j=>
    dsimp only at z1 z2
    split at z2
    ·exact F.dj n j q (by omega) z1 z2
    ·exact z2
  |succ i=>
   cases j with
   |zero=>
    dsimp only at z1 z2
    split at z1
    ·exact F.dj n i q (by omega) z2 z1
    ·exact z1
   |succ j=>
    dsimp only at z1 z2
    split at z1
    ·split at z2
     ·exact F.dj i j q (by omega) z1 z2
     ·exact z2
    ·exact z1) (by rw[yP,yP,l])
 refine⟨L,o,λq z=>?_⟩;obtain⟨i,_,z⟩:=hL q z;cases i with
 |zero=>exact⟨(F.ok n q z).1,(F.ok n q z).2.1⟩
 |succ j=>
  dsimp only at z
  split at z
  ·exact⟨(F.ok j q z).1,(F.ok j q z).2.1⟩
  ·exact z.elim
end
structure xF(K:W.Frag)(x qual:Str)(st:Stmt)(f:Addr)(fd:FuncData):Prop where
 ex:∃(oc:Value) (od:Option Addr) (dV kV doc pm:Value) (an:Option Addr) (cdv ct:Value) (osl:Array (Option Value)),
  fd=W.fnOf x qual (yy st) (yS st) (zQ st) dV kV doc pm an cdv ct/\K.lookup f=some ⟨oc,od,.func fd,osl⟩/\W.codeIn K cdv qual=true
 kp:W.keepIn K (.ref f)=true
theorem _root_.L2.Fun.v{K:W.Frag}{x qual:Str}{st:Stmt}{f:Addr}{fd:FuncData}(F:Fun K x qual st f fd):xF K x qual st f fd:=by
 obtain⟨oc,od,kV,doc,pm,an,cdv,ct,osl,e,lk,hcd⟩:=F.ex;exact⟨⟨oc,od,.none,kV,doc,pm,an,cdv,ct,osl,e,lk,hcd⟩,F.kp⟩
section
variable{P:Program}{w:World}{K:W.Frag}{mg:Str->Option Value}{base:Heap}
theorem tV{x qual:Str}{st:Stmt}{f:Addr}{oc:Value}{od an:Option Addr}{osl:Array (Option Value)}{dV kV doc pm cdv ct:Value}(l:K.lookup f=some ⟨oc,od,.func (W.fnOf x qual (yy st) (yS st) (zQ st) dV kV doc pm an cdv ct),osl⟩)
  (c:W.codeIn K cdv qual=true)(k:W.keepIn K (.ref f)=true):xF K x qual st f (W.fnOf x qual (yy st) (yS st) (zQ st) dV kV doc pm an cdv ct):=⟨⟨oc,od,dV,kV,doc,pm,an,cdv,ct,osl,rfl,l,c⟩,k⟩
theorem xF.ok{x qual:Str}{st:Stmt}{f:Addr}{fd:FuncData}{N ps:List Str}{k:Nat}{sp:Sp}(F:xF K x qual st f fd)(S:zi N ps (zQ st))(len:∀vs H Q E,sp vs H Q E->vs.length=ps.length)
  (hbody:∀(cdv:Value)(A:Around)(outer:List Env)(s:Shared)(H:Hp)(vs:List V)(Q:VK)(E:XK),yI k (A.deeper (envOfC qual (zQ st) s.heap.objs.size f cdv))->sp vs H Q E->
   ∃t,vR (um yo P w K mg base N qual (zQ st) f cdv A outer s H E).tH (yS st) t/\t { nx:=λ_ H'=>Q .zG H',rt:=Q } (start N vs) H):yj P w K mg base yo (k+1) f fd ps sp:=by
 obtain⟨oc,od,dV,kV,doc,pm,an,cdv,ct,osl,rfl,lk,hcd⟩:=F.ex;refine B5 lk hcd S len λA outer s H vs Q E hr hsp=>?_
 obtain⟨t,h,q⟩:=hbody cdv A outer s H vs Q E hr hsp;exact⟨t,h.tH,q⟩
theorem xF.xo{x qual:Str}{st:Stmt}{f:Addr}{fd:FuncData}{N ps:List Str}{k:Nat}{F:FM}{b:zw}(d:xF K x qual st f fd)(S:zi N ps (zQ st))(hN:ps.length<=N.length)(hF:∀ms r,F ms=some r->ms.length=ps.length/\wU ps.length N.length b ms=some r)
  (hb:∀(cdv:Value)(A:Around)(outer:List Env)(s:Shared)(H:Hp)(E:XK),yI k (A.deeper (envOfC qual (zQ st) s.heap.objs.size f cdv))->p7 (um yo P w K mg base N qual (zQ st) f cdv A outer s H E).tH ps.length (yS st) b):yj P w K mg base yo (k+1) f fd ps (zo K F):=by
 refine d.ok S (λvs H Q E h=>?_) λcdv A outer s H vs Q E hr h=>?_
 ·obtain⟨G,ms,L,ms',m',_,o,_,e,_⟩:=h;rw[o.length,(hF _ _ e).1]
 ·obtain⟨G,ms,L,ms',m',s',o,hL,e,q⟩:=h;obtain⟨l,hrun⟩:=hF _ _ e;obtain⟨t,p,kt⟩:=(hb cdv A outer s H E hr).h;obtain⟨fl,hfl,hrun⟩:=zD hrun;have lv:vs.length=ps.length:=by rw[o.length,l]
  refine⟨t,p,kt lv (NA (N:=N) s' o hL (by omega)) hfl ?_⟩;cases fl with
  |nx β=>
   obtain⟨ms2,ha,hrun⟩:=zD (show(qG (β.take ps.length)).bind _=_ from hrun);cases hrun;intro σ G' H' K';obtain⟨L2,o2,h2⟩:=Bn (K'.qY (d:=.zG) (v:=.zG) rfl) (by rw[lv]; exact hN) (by rw[lv]; exact ha);exact q .zG G' H' L2 K'.ext o2 h2
  |rt m β=>
   obtain⟨ms2,ha,hrun⟩:=zD (show(qG (β.take ps.length)).bind _=_ from hrun);cases hrun;intro σ v G' H' K';obtain⟨L2,o2,h2⟩:=Bn K' (by rw[lv]; exact hN) (by rw[lv]; exact ha);exact q v G' H' L2 K'.ext o2 h2
  |_=>cases hrun
theorem xF.g7{x qual:Str}{st:Stmt}{f:Addr}{fd:FuncData}{N ps:List Str}{k:Nat}{F:List D->Option (Bool×D)}{b:FS}(d:xF K x qual st f fd)(S:zi N ps (zQ st))(hN:ps.length<=N.length)(hF:∀ds r,F ds=some r->ds.length=ps.length/\zg N.length b ds=some r)
  (hb:∀(cdv:Value)(A:Around)(outer:List Env)(s:Shared)(H:Hp)(E:XK),yI k (A.deeper (envOfC qual (zQ st) s.heap.objs.size f cdv))->uj (um yo P w K mg base N qual (zQ st) f cdv A outer s H E).tH (yS st) b):yj P w K mg base yo (k+1) f fd ps (zR K F):=by
 refine d.ok S (λvs H Q E h=>?_) λcdv A outer s H vs Q E hr h=>?_
 ·obtain⟨G,ds,o,dd,_,r,e,_⟩:=h;rw[r.length,(hF _ _ e).1]
 ·obtain⟨G,ds,o,dd,s',r,e,q⟩:=h;obtain⟨l,hrun⟩:=hF _ _ e;obtain⟨t,p,kt⟩:=(hb cdv A outer s H E hr).h;obtain⟨fl,hfl,hrun⟩:=zD hrun;refine⟨t,p,kt (J8 (N:=N) s' r (by omega)) hfl ?_⟩;cases fl with
  |nx τ=>
   cases hrun;exact λσ G' H' z=>q .zG G' H' z.ext rfl
  |rt o' d'=>
   cases hrun;cases o with
   |false=>exact q
   |true=>exact q
  |_=>cases hrun
theorem zF.xo{x:Str}{st:Stmt}{N ps:List Str}{k:Nat}{F:FM}{b:zw}(d:zF K mg x st ps)(S:zi N ps (zQ st))(hN:ps.length<=N.length)(hF:∀ms r,F ms=some r->ms.length=ps.length/\wU ps.length N.length b ms=some r)
  (hb:∀(f:Addr)(cdv:Value)(A:Around)(outer:List Env)(s:Shared)(H:Hp)(E:XK),yI k (A.deeper (envOfC x (zQ st) s.heap.objs.size f cdv))->p7 (um yo P w K mg base N x (zQ st) f cdv A outer s H E).tH ps.length (yS st) b):zJ P w K mg base x ps (k+1) (zo K F):=by
 obtain⟨f,fd,F',hm,hb'⟩:=d;exact⟨f,fd,hm,F'.kp,hb',F'.v.xo S hN hF (hb f)⟩
def qK(F:FM):List D->Option (Bool×D):=λds=>(F (ur ds)).bind λr=>match r.2 with
 |.fz d=>some (false,d)
 |.own d=>some (true,d)
 |_=>none
theorem bT{F:FM}{vs:List V}{H:Hp}{Q:VK}{E:XK}(h:zR K (qK F) vs H Q E):zo K F vs H Q E:=by
 obtain⟨G,ds,o,d,s,r,e,q⟩:=h;obtain⟨⟨ms',m'⟩,hF,e⟩:=zD e
 have ec:uT H (λ_=>False)=H:=by
  funext q
  exact pA (λz=>z)
 refine⟨G,ur ds,λ_=>False,ms',m',s,XT r,λ_ z=>z.elim,hF,λv G' H' L' x oo hN=>?_⟩;rw[ec]at x;obtain⟨v',r',La,Lb,e2,oa,ob,dj,u⟩:=oo;cases e2;cases m' with
 |fz d'=>cases e; exact q v G' H' x oa.1
 |own d'=>
  cases e;obtain⟨p,rfl,op,uL⟩:=oa;obtain⟨a,b⟩:=hN p ((u p).mpr (.inl ((uL p).mpr rfl)));rw[ec]at b;exact q p G' H' x b a op
 |_=>cases e
theorem zJ.LQ{x:Str}{ps:List Str}{k:Nat}{F:FM}(h:zJ P w K mg base x ps k (zo K F)):zJ P w K mg base x ps k (zR K (qK F)):=by
 obtain⟨f,fd,hm,kp,b,FF⟩:=h;exact⟨f,fd,hm,kp,b,FF.imp λvs H Q E z=>bT z⟩
end
structure VI(P:Program)(w:World)(K:W.Frag)(mg:Str->Option Value)(base:Heap)(c m:Str)(ps:List Str)(k:Nat)(sp:Sp):Prop where
 ex:∃(C f:Addr) (fd:FuncData) (mc:Value),mg c=some (.ref C)/\W.specialIn K (.ref C) "__getattribute__" = some (some (.builtin "type.__getattribute__"))/\W.readsIn K C mc=true/\W.findCls K (.ref C) mc m=some (.val (.ref f))/\W.keepIn K (.ref f)=true/\xq K fd ps []/\yj P w K mg base yo k f fd ps sp
section
variable{X:Cx}{c m:Str}{ps:List Str}{j k:Nat}{F:FM}{e:Expr}{es:List Expr}{fa:vB}{p pos apos:Pos}{sp:Sp}{t:TA}
theorem Rs{pl:Sem Bool}(h:VI X.prog X.w X.K X.mg X.base c m ps k sp)(hr:yI j X.A)(hg:Gl X c)(ha:PA X (e::es) t)(hk:k<=j:=by decide)(hdb:(c==("__debug__" : Str))=false:=by decide)(he:(e::es).all yZ=true:=by rfl)
  (ht:eval (.Call (.Attribute (.Name c p) m apos) (e::es) [] pos) X.env=(do
   let ov <-eval (.Name c p) X.env
   standAt apos.atName
   let (f,first) <-holding [ov] (getMethod ov m pl)
   callWith pos f first (backTo pos (starEach (e::es) X.env)) (backToKw pos (keywordEach [] X.env))):=by rfl):PE X (.Call (.Attribute (.Name c p) m apos) (e::es) [] pos) (ON sp [] E0 t):=by
 obtain⟨C,f,fd,mc,hm,hga,hrd,hfc,kp,b,FF⟩:=h.ex;rw[xf,yD]at he;intro z6 s σ H Q I hq;refine W.methodCall_KW (pl:=pl) ?_ ht;refine Up I hg hm ?_ hdb;refine W.method_cls I.xA hga (W.cls_value I.xA hrd hfc rfl ?_);exact W.callWith_K (h₀:=X.base) I.ok.mod.g6 kp (zh (ha pos z6 _ σ H _ (I.tok _) hq) λus s1 ⟨vs,H1,I1,r,q⟩=>⟨I1.xA,Xa FF (hr.mono hk) b .nil kI I1 r q⟩) (vw he.1) (pj he.2)
theorem NJ{pl:Sem Bool}(h:VI X.prog X.w X.K X.mg X.base c m ps k (zo X.K F))(hr:yI j X.A)(hg:Gl X c)(ha:MA X (e::es) fa)(hk:k<=j:=by decide)(hdb:(c==("__debug__" : Str))=false:=by decide)(he:(e::es).all yZ=true:=by rfl)
  (ht:eval (.Call (.Attribute (.Name c p) m apos) (e::es) [] pos) X.env=(do
   let ov <-eval (.Name c p) X.env
   standAt apos.atName
   let (f,first) <-holding [ov] (getMethod ov m pl)
   callWith pos f first (backTo pos (starEach (e::es) X.env)) (backToKw pos (keywordEach [] X.env))):=by rfl):MC X (.Call (.Attribute (.Name c p) m apos) (e::es) [] pos) (vE F fa):=by
 obtain⟨t,pa,ka⟩:=ha.h;refine⟨⟨_,Rs h hr hg pa hk hdb he ht,λE hf q=>?_⟩⟩;obtain⟨as,has,hf⟩:=zD hf;refine ka E has λvs G1 H1 x1 ra=>?_
 rw[ub];exact(E.go x1).call ra hf λv G' H' s K'=>q v G' H' (x1.g.trans s) K'
end
def tN(K:W.Frag)(n:Nat)(P:List V)(G0 H0 G H:Hp)(β:zk)(σ:St)(ms:List M)(vs:List V):Prop:=
 ∃(L:Ft) (H1:Hp),zd K n P G0 H1 G H β σ/\OwnMs K G H ms vs L/\(∀q,L q->G q=none/\H0 q=none/\H1 q=H q)/\∀q,¬ L q->H1 q=H0 q
section
variable{K:W.Frag}{n:Nat}{P:List V}{G0 H0 G H G' H':Hp}{β:zk}{σ:St}
theorem zd.hold{m:M}{v:V}(hP:P.length<=n)(E:zd K (n+1) P G0 H0 G H (β++[some m]) (σ++[some v])):∃(L:Ft) (H1:Hp),zd K n P G0 H1 G H β σ/\yL K G H m v L/\(∀q,L q->G q=none/\H0 q=none/\H1 q=H q)/\∀q,¬ L q->H1 q=H0 q:=by
 classical
 obtain⟨Ls,F⟩:=E.own;obtain⟨u,eu,ou⟩:=F.at_ n m (vv E.qx);rw[vv E.km]at eu;cases eu
 let H1:Hp:=λq=>if Ls n q then H q else H0 q
 have e1:∀q,Ls n q->H1 q=H q:=λq z=>zM z
 have e2:∀q,¬ Ls n q->H1 q=H0 q:=λq z=>zO z
 have Ed:=E.down hP;refine⟨Ls n,H1,⟨⟨E.ext.g,λq o z=>?_,E.ext.gh,λq z=>?_⟩,Ed.l1,Ed.l2,hP,Ed.pin,λj=>if j<n then Ls j else λ_=>False,λi m' h=>?_,λi j q ne z1 z2=>?_,λi q z=>?_⟩,ou,λq z=>⟨(F.ok n q z).1,(F.ok n q z).2.1,e1 q z⟩,e2⟩
 ·by_cases c:Ls n q
  ·rw[e1 q c]at z; exact z
  ·rw[e2 q c]at z; exact E.ext.h _ _ z
 ·rcases E.ext.new q z with w|w
  ·exact .inl w
  ·by_cases c:Ls n q
   ·exact absurd (F.ok n q c).1 z
   ·exact .inr ((e2 q c).trans w)
 ·have hi:i<n:=by rw[<-Ed.l2]; exact(yA.mp h).1
  obtain⟨u,eu,ou⟩:=F.at_ i m' (by rw[xx (by rw[Ed.l2]; exact hi)]; exact h);rw[xx (by rw[Ed.l1]; exact hi)]at eu;simp only[zM hi];exact⟨u,eu,ou⟩
 ·split at z1
  ·split at z2
   ·exact F.dj i j q ne z1 z2
   ·exact z2
  ·exact z1
 ·split at z
  ·rename_i c;obtain⟨a,b,d⟩:=F.ok i q z;exact⟨a,(e2 q λw=>F.dj i n q (by omega) z w).trans b,d⟩
  ·exact z.elim
theorem tN.nil(E:zd K n P G0 H0 G H β σ):tN K n P G0 H0 G H β σ [] []:=⟨λ_=>False,H0,E,⟨rfl,λ_ z=>z⟩,λ_ z=>z.elim,λ_ _=>rfl⟩
theorem tN.cons{m:M}{v:V}{L:Ft}{H1:Hp}{ms:List M}{vs:List V}(o:yL K G H m v L)(h1:∀q,L q->G q=none/\H0 q=none/\H1 q=H q)(h2:∀q,¬ L q->H1 q=H0 q)(g0:zb G0 G)(s:zb G G')(h:tN K n P G0 H1 G' H' β σ ms vs):tN K n P G0 H0 G' H' β σ (m::ms) (v::vs):=by
 obtain⟨L2,H2,E2,o2,a,b⟩:=h;have bx:∀q,L q->Bx H q:=o.cells m v L
 have nl:∀q,L q->¬ L2 q:=λq z w=>by
  have e:=(a q w).2.1;rw[(h1 q z).2.2]at e;exact(bx q z).some e
 have keep:∀q,L q->H' q=H q:=λq z=>by
  obtain⟨u,hu,_⟩:=bx q z;rw[hu];refine E2.ext.h _ _ ?_;rw[b q (nl q z),(h1 q z).2.2];exact hu
 refine⟨λq=>L q\/L2 q,H2,E2,⟨v,vs,L,L2,rfl,o.loc s m v L keep,o2,nl,λq=>qT⟩,λq z=>?_,λq z=>?_⟩
 ·rcases z with z|z
  ·refine⟨?_,(h1 q z).2.1,by rw[b q (nl q z),(h1 q z).2.2,keep q z]⟩;cases e:G' q with
   |none=>rfl
   |some w=>
    obtain⟨u,hu,_⟩:=bx q z;have e2:H2 q=some u:=by rw[b q (nl q z),(h1 q z).2.2]; exact hu
    rcases E2.ext.new q (by rw[e]; exact λz=>nomatch z)with w|w
    ·cases e3:G0 q with
     |none=>exact absurd e3 w
     |some o3=>
      have:=g0 _ _ e3;rw[(h1 q z).1]at this;cases this
    ·rw[e2]at w; cases w
  ·refine⟨(a q z).1,?_,(a q z).2.2⟩;have e:=(a q z).2.1;rw[h2 q λw=>nl q w z]at e;exact e
 ·rw[b q λw=>z (.inr w),h2 q λw=>z (.inl w)]
theorem tN.tab{ks:List (Sum Int Str)}{ms:List M}{vs:List V}{p:Addr}{d:D}(g0:zb G0 G)(h:tN K n P G0 H0 G H β σ (.own d::ms) (.ref p::vs))(l:ks.length=vs.length)(hl:ms.length<=sizeLine) :
  zd K (n+1) P G0 H0 G (zT H p (.dK (ks.zip vs))) (β++[some (.tab ks ms)]) (σ++[some (.ref p)]):=by
 obtain⟨L,H1,E,⟨v,r,La,Lb,e,oa,ob,dj,u⟩,a,b⟩:=h;cases e;obtain⟨p',e',oo,up⟩:=oa;cases e';have Lp:L p:=(u p).mpr (.inl ((up p).mpr rfl));have k1:∀q,q≠p->(zT H p (.dK (ks.zip vs))) q=H q:=λq z=>yH z
 obtain⟨Ls,F⟩:=E.own
 have nl:∀i q,Ls i q->¬ L q:=λi q z w=>by
  have e:=(F.ok i q z).2.1;rw[(a q w).2.2]at e;exact(F.ok i q z).2.2.some e
 refine⟨⟨E.ext.g,λq o z=>?_,λq o z=>?_,λq z=>?_⟩,by rw[yO,E.l1]; rfl,by rw[yO,E.l2]; rfl,by have:=E.lp; omega,λi w h=>?_,λj=>if j<n then Ls j else if j=n then L else λ_=>False,λi m' h=>?_,λi j q ne z1 z2=>?_,λi q z=>?_⟩
 ·have c:¬ L q:=λw=>by rw[(a q w).2.1]at z; cases z
  rw[k1 q λw=>c (w▸Lp)];exact E.ext.h _ _ ((b q c).trans z)
 ·rw[k1 q λw=>by subst w; rw[(a q Lp).1]at z; cases z];exact E.ext.gh _ _ z
 ·rcases E.ext.new q z with w|w
  ·exact .inl w
  ·by_cases c:L q
   ·exact .inr (a q c).2.1
   ·rw[b q c]at w; exact .inr w
 ·have hi:i<σ.length:=by
   rw[E.l1];exact xh (yA.mp h).1 E.lp
  rw[xx hi];exact E.pin i w h
 ·rcases YI h with⟨c,e⟩|⟨c,e⟩
  ·rw[E.l2]at c;obtain⟨w,ew,ow⟩:=F.at_ i m' e;refine⟨w,by rw[xx (by rw[E.l1]; exact c)]; exact ew,?_⟩;simp only[zM c];exact ow.loc (zb.refl _) m' w _ λq z=>k1 q λw=>nl i q z (w▸Lp)
  ·cases e;rw[E.l2]at c;subst c;refine⟨_,vv E.l1,?_⟩;simp only[wW,qW,vz];refine⟨p,vs,Lb,rfl,yi,l,OwnMs.imp (λm' _ v' L3 s o=>o.loc (zb.refl _) m' v' L3 λq z=>k1 q λc=>dj q ((up q).mpr c) (s q z)) ob,hl,λz=>dj p ((up p).mpr rfl) z,λq=>?_⟩;rw[u q,up q]
 ·split at z1
  ·split at z2
   ·exact F.dj i j q ne z1 z2
   ·split at z2
    ·exact nl i q z1 z2
    ·exact z2
  ·split at z1
   ·split at z2
    ·exact nl j q z2 z1
    ·split at z2
     ·exact ne (by omega)
     ·exact z2
   ·exact z1
 ·have bx:∀q,L q->Bx H q:=λq z=>by
   rcases(u q).mp z with z|z
   ·cases(up q).mp z; exact oo.bx
   ·exact OwnMs.cells (λm _ v L1 oo=>oo.cells m v L1) ob q z
  have bx':∀q,Bx H q->Bx (zT H p (.dK (ks.zip vs))) q:=λq z=>by
   by_cases c:q=p
   ·subst c; exact⟨_,yi,rfl⟩
   ·obtain⟨u,hu,cu⟩:=z;exact⟨u,(k1 q c).trans hu,cu⟩
  split at z
  ·obtain⟨x,y,w⟩:=F.ok i q z;exact⟨x,by rw[b q (nl i q z)]at y; exact y,bx' q w⟩
  ·split at z
   ·exact⟨(a q z).1,(a q z).2.1,bx' q (bx q z)⟩
   ·exact z.elim
end
structure MD(X:Cx)(pos:Pos)(keys:List (Option Expr))(values:List Expr)(ks:List Str)(fs:zk->Option (List M×zk)):Prop where
 h:∃trs,Yv X pos keys values trs/\∀{P:List V}{G0 H0 G H:Hp}{β β':zk}{σ:St}{ms:List M}{Q:List (V×V)->Hp->Prop},zd X.K X.N.length P G0 H0 G H β σ->fs β=some (ms,β')->(∀vs G' H',zb G G'->tN X.K X.N.length P G0 H0 G' H' β' σ ms vs->vs.length=ks.length->Q ((ks.map V.str).zip vs) H')->TR trs σ H Q
def Qz:zk->Option (List M×zk):=λβ=>some ([],β)
def gl(f:yu)(r:zk->Option (List M×zk)):zk->Option (List M×zk):=λβ=>(f β).bind λa=>(r a.2).bind λb=>some (a.1::b.1,b.2)
def Qr(ks:List Str)(fs:zk->Option (List M×zk)):yu:=λβ=>(fs β).bind λr=>match decide (ks.length=r.1.length)with
 |true=>some (.tab (ks.map .inr) r.1,r.2)
 |false=>none
def U5(i:Nat):yu:=λβ=>match β[i]? with
 |some (some m)=>some (m,β.set i none)
 |_=>none
section
variable{X:Cx}{v:Expr}{x:Str}{xp pos:Pos}{fv:yu}
theorem NQ:MD X pos [] [] [] Qz:=⟨⟨_,SZ,λ{P G0 H0 G H β β' σ ms Q} E hf q=>by
 cases hf;exact q [] _ _ (zb.refl _) (tN.nil E) rfl⟩⟩
theorem XJ{j:Nat}{ks:List (Option Expr)}{vs:List Expr}{xs:List Str}{fs:zk->Option (List M×zk)}(hv:MC X v fv)(hr:MD X pos ks vs xs fs):MD X pos (some (.Constant (.str x) j xp)::ks) (v::vs) (x::xs) (gl fv fs):=by
 obtain⟨tv,pv,kv⟩:=hv.h;obtain⟨tr,pr,kr⟩:=hr.h;refine⟨⟨_,SY U_ pv pr,λ{P G0 H0 G H β β' σ ms Q} E hf q=>?_⟩⟩;obtain⟨⟨m,β1⟩,h1,hf⟩:=zD hf;obtain⟨⟨ms1,β2⟩,h2,hf⟩:=zD hf;cases hf;refine kv E h1 λu G1 H1 s1 E1=>?_
 obtain⟨L,Hb,Eb,o,a,b⟩:=E1.hold E.lp;refine kr Eb h2 λus G2 H2 s2 h l=>?_
 exact q (u::us) _ _ (s1.trans s2) (tN.cons o a b Eb.ext.g s2 h) (by rw[yP,yP,l])
theorem NP{keys:List (Option Expr)}{values:List Expr}{ks:List Str}{fs:zk->Option (List M×zk)}(h:MD X pos keys values ks fs)(nd:ks.Nodup)(h15:ks.length<=15)(hall:keys.all (·.isSome)=true:=by rfl)(hl:keys.length=values.length:=by rfl)(h0:keys≠[]:=by exact λz=>nomatch z)(h15':keys.length<=15:=by decide) :
  MC X (.Dict keys values pos) (Qr ks fs):=by
 obtain⟨trs,pr,kr⟩:=h.h;refine⟨⟨_,Ru pr hall hl h0 h15',λ{P G0 H0 G H β β' σ m Q} E hf q p hp=>?_⟩⟩;obtain⟨⟨ms,β1⟩,h1,hf⟩:=zD hf;have x0:zN G H G (zT H p (.dK [])):=zN.tF E.ext.gh hp;have E1:=E.LX (d:=.dic [] []) x0 hp (E.ext.gh.free hp) ⟨[],yi,rfl,rfl,vy _⟩;obtain⟨L,Hb,Eb,o,a,b⟩:=E1.hold E.lp;refine kr Eb h1 λvs G2 H2 s2 hh l=>?_
 have hh2:=tN.cons o a b Eb.ext.g s2 hh;have hk:(ks.map Sum.inr:List zK).length=vs.length:=by rw[zm,l]
 split at hf
 ·rename_i c;have c:=xE c;cases hf
  have e2:H2 p=some (.dK []):=by
   obtain⟨L2,H3,E3,⟨v',r',La,Lb,e',oa,_⟩,_⟩:=hh2;cases e';obtain⟨p',e'',⟨vs',ev,z,_⟩,_⟩:=oa;cases e'';cases vs' with
   |nil=>exact ev
   |cons _ _=>cases z
  refine⟨e2,(ks.map Sum.inr:List zK).zip vs,Cu,by rw[j0,hk,qA,l]; exact h15,?_⟩;rw[Bo _ [] (by rw[Cs hk]; exact List.Pairwise.map _ (λa b h z=>h (LF z)) nd) (λ_ _=>rfl),Tr];have g0:zb G0 G2:=E.ext.g.trans s2;refine q _ G2 _ s2 (tN.tab g0 hh2 hk ?_);rw[<-c];exact vL (by omega)
 ·cases hf
theorem NM(i:Nat){x:Str}{pos:Pos}(hN:X.N[i]?=some x:=by rfl)(hv:p8 X.env.scope x:=by first|exact Or.inl rfl|exact Or.inr (Or.inl rfl)|exact Or.inr (Or.inr rfl))(hd:(x==("__debug__" : Str))=false:=by decide)
  (hcd:(x==("__classdict__" : Str))=false:=by decide):MC X (.Name x pos) (U5 i):=⟨⟨_,Y7 hN hv hd hcd,λ{P G0 H0 G H β β' σ m Q} E hf q=>by
 unfold U5 at hf
 split at hf
 ·rename_i m' hm;cases hf;obtain⟨Ls,F⟩:=E.own;have hi:i<X.N.length:=by rw[<-E.l2]; exact(yA.mp hm).1
  obtain⟨v,ev,ov⟩:=F.at_ i m hm;refine⟨v,ev,q v G H (zb.refl _) ⟨E.ext,by rw[yO,E.l1]; rfl,by rw[yO,vO,E.l2]; rfl,by have:=E.lp; omega,λj w h=>?_,λj=>if j=i then(λ_=>False)else if j<X.N.length then Ls j else if j=X.N.length then Ls i else λ_=>False,λj m' h=>?_,λj k q ne z1 z2=>?_,λj q z=>?_⟩⟩
  ·have hj:j<σ.length:=by
    rw[E.l1];exact xh (yA.mp h).1 E.lp
   rw[xx hj];exact E.pin j w h
  ·rcases YI h with⟨c,e⟩|⟨c,e⟩
   ·rcases wV e with⟨_,w⟩|⟨ne,w⟩
    ·cases w
    ·rw[vO,E.l2]at c;obtain⟨u,eu,ou⟩:=F.at_ j m' w;simp only[zO ne,zM c];exact⟨u,by rw[xx (by rw[E.l1]; exact c)]; exact eu,ou⟩
   ·cases e;rw[vO,E.l2]at c;subst c;refine⟨_,vv E.l1,?_⟩;simp only[zO (qU hi),wW,qW,vz];exact ov
  ·split at z1
   ·exact z1
   ·split at z1
    ·split at z2
     ·exact z2
     ·split at z2
      ·exact F.dj j k q ne z1 z2
      ·split at z2
       ·exact F.dj j i q (by omega) z1 z2
       ·exact z2
    ·split at z1
     ·split at z2
      ·exact z2
      ·split at z2
       ·exact F.dj i k q (by omega) z1 z2
       ·split at z2
        ·exact ne (by omega)
        ·exact z2
     ·exact z1
  ·split at z
   ·exact z.elim
   ·split at z
    ·exact F.ok j q z
    ·split at z
     ·exact F.ok i q z
     ·exact z.elim
 ·cases hf⟩⟩
end
end L3
namespace L2
open PySem PySem.Spec PyProof PyProof.Rows
section
variable{X:Cx}{c e:Expr}{es:List Expr}{t:TA}{tc:TE}{pos:Pos}{j:Nat}
def bm(X:Cx)(j:Nat)(tc:TE)(t:TA):TE:=λσ H Q=>tc σ H λv H1=>∃(f:Addr) (fd:FuncData) (ps:List Str) (k:Nat) (sp:Sp),v=.ref f/\k<=j/\W.keepIn X.K (.ref f)=true/\xq X.K fd ps []/\yj X.prog X.w X.K X.mg X.base yo k f fd ps sp/\t σ H1 λvs H2=>sp (vs++[]) H2 Q E0
theorem Rq(hr:yI j X.A)(hc:PE X c tc)(ha:PA X (e::es) t)(he:(e::es).all yZ=true:=by rfl)
  (hev:eval (.Call c (e::es) [] pos) X.env=(do callWith pos (<-eval c X.env) [] (backTo pos (starEach (e::es) X.env)) (backToKw pos (keywordEach [] X.env))):=by rfl):PE X (.Call c (e::es) [] pos) (bm X j tc t):=by
 intro z6 s σ H Q I h;rw[xf,yD]at he;rw[hev];refine zX (zh (hc z6 s σ H _ I h) λu s1 ⟨v,H1,I1,r1,f,fd,ps,k,sp,ev,hk,kp,b,F,q⟩=>?_);subst ev;cases r1;refine W.callWith_K (h₀:=X.base) I.ok.mod.g6 kp (zh (ha pos z6 s1 σ _ _ I1 q) λus s2 ⟨vs,H2,I2,r,q⟩=>⟨I2.xA,?_⟩) (vw he.1) (pj he.2);exact Xa F (hr.mono hk) b .nil kI I2 r q
end
end L2
namespace L3
open PySem PySem.Spec PyProof.Rows L2
def gW(K:W.Frag)(w:World)(mg:Str->Option Value)(a:Addr)(ks:List zK)(ns:List Str):Prop:=
 ∃fs:List Addr,(a==sysModules)=false/\ks.length=fs.length/\(∀(i:Nat)(n:Str),ns[i]?=some n->∃f,fs[i]?=some f/\mg n=some (.ref f))/\ns.length=fs.length/\∀(P:Program)(h:Heap),K.In h->∃vs,KV (ks.zip (fs.map V.ref)) vs/\h.DictOf (yg P w) a vs
inductive ZL(mg:Str->Option Value):List Str->List Addr->Prop
 |nil:ZL mg [] []
 |cons {n:Str} {f:Addr} {ns:List Str} {fs:List Addr} (h:mg n=some (.ref f)) (r:ZL mg ns fs):ZL mg (n::ns) (f::fs)
theorem ZL.at_{mg:Str->Option Value}:∀{ns:List Str}{fs:List Addr},ZL mg ns fs->(∀(i:Nat)(n:Str),ns[i]?=some n->∃f,fs[i]?=some f/\mg n=some (.ref f))/\ns.length=fs.length
 |_,_,.nil=>⟨λi n h=>(by cases h),rfl⟩
 |_,_,.cons h r=>by
  obtain⟨a,b⟩:=r.at_;refine⟨λi n e=>?_,by rw[yP,yP,b]⟩;cases i with
  |zero=>cases e; exact⟨_,rfl,h⟩
  |succ i=>exact a i n (by simpa using e)
theorem Cj:∀{fs:List Addr},ze (fs.map V.ref) (fs.map Value.ref)
 | []=>.nil
 |_::_=>.cons rfl Cj
theorem HG{K:W.Frag}{mg:Str->Option Value}{w:World}{a:Addr}{es:List DictEntry}{n:Nat}{xs ns:List Str}{fs:List Addr}(l:K.lookup a=some { cls:=.type "dict",data:=.dict es.toArray n })(e:qz w es xs (fs.map Value.ref))(nd:xs.Nodup)(hs:(a==sysModules)=false)(m:ZL mg ns fs) :
  gW K w mg a (xs.map .inr) ns:=by
 have hl:(xs.map Sum.inr:List zK).length=(fs.map V.ref).length:=by rw[zm,e.len,zm,zm]
 obtain⟨m1,m2⟩:=m.at_;refine⟨fs,hs,by rw[hl,zm],m1,m2,λP h KI=>⟨_,Bd Cj hl,?_⟩⟩;obtain⟨p,q⟩:=e.pairs (P:=P);refine⟨_,_,_,KI _ _ l,⟨rfl,rfl,rfl⟩,rfl,λe he=>q e (by simpa using he),p,?_⟩;rw[Cr (by rw[zm]; exact e.len)];exact List.Pairwise.map _ (λa b h z=>h (LF z)) nd
section
variable{X:Cx}
theorem HE{A:Addr}{ks:List zK}{ns:List Str}(g:gW X.K X.w X.mg A ks ns):yB X (compareOp .In) (λx y H Q=>y=.ref A/\∃k,x=kV k/\Q (.bl (wm ks k)) H):=by
 intro z6 s σ H x y v u Q I rx ry h;obtain⟨rfl,k,rfl,q⟩:=h;cases ry;obtain⟨fs,hsys,hl,_,_,mk⟩:=g;obtain⟨vs,rel,dd⟩:=mk X.prog s.heap I.xA;refine wpAny_in_of (qL rx) hsys dd.mapOf ?_;rw[<-(rel.val k).Z0,jt k (by rw[zm]; exact hl),JP k (by rw[zm]; exact hl)];exact⟨.bl _,H,I.tok _,rfl,q⟩
theorem bY{A:Addr}{ks:List zK}{ns:List Str}{x:Str}{p pos:Pos}{a:Expr}{fa:FE}(h:xV X.mg x (.ref A))(g:gW X.K X.w X.mg A ks ns)(hg:Gl X x)(ha:SE X a fa)(hd:(x==("__debug__" : Str))=false:=by decide)(hm:behindInMarks .In (.Name x p)=false:=by rfl) :
  ST X (.Compare a [.In] [.Name x p] pos) (tE (e1 (JC ks) fa)):=by
 obtain⟨ta,pa,ka⟩:=ha.h;refine⟨⟨_,Ir (HE g) pa (Il h hg hd) hm,λ{G0 H0 G H τ σ d Q} E hf q=>?_⟩⟩;obtain⟨z,hz,hf⟩:=zD hf;obtain⟨y,hy,hz⟩:=zD hz;obtain⟨k,hk,hz⟩:=zD hz;cases hz;cases hf;exact ka E hy λu G2 H2 x2 r2=>⟨rfl,k,jY hk r2,_,rfl,q _ _ x2⟩
theorem HF{A:Addr}{ks:List zK}{ns:List Str}(g:gW X.K X.w X.mg A ks ns):ug X (λx y H Q=>x=.ref A/\∃k n,y=kV k/\getK ks ns k=some n/\∀f,X.mg n=some (.ref f)->Q (.ref f) H):=by
 intro value slice z6 s σ H x y v u Q I rx ry h hs;obtain⟨rfl,k,n,rfl,hn,q⟩:=h;cases rx;obtain⟨fs,hsys,hl,hm,hl2,mk⟩:=g;obtain⟨vs,rel,dd⟩:=mk X.prog s.heap I.xA
 have key:∀{ks:List zK}{ns:List Str}{fs:List Addr},(∀(i:Nat)(n:Str),ns[i]?=some n->∃f,fs[i]?=some f/\X.mg n=some (.ref f))->getK ks ns k=some n->∃f,getK ks (fs.map V.ref) k=some (.ref f)/\X.mg n=some (.ref f):=λ{ks}=>by
  induction ks with
  |nil=>intro ns fs _ e; cases e
  |cons k' ks ih=>
   intro ns fs hm e;cases ns with
   |nil=>cases e
   |cons n' ns=>
    obtain⟨f0,e0,m0⟩:=hm 0 n' rfl;cases fs with
    |nil=>cases e0
    |cons f1 fs=>
     cases e0;unfold getK at e;rw[y_];unfold getK;by_cases c:k'=k
     ·rw[zM c]at e ⊢;cases e;exact⟨_,rfl,m0⟩
     ·rw[zO c]at e ⊢;exact ih (λi n h=>hm (i+1) n (by simpa using h)) e
 obtain⟨f,hf,mf⟩:=key hm hn;obtain⟨w',hw,rw'⟩:=wl.some_of (v:=V.ref f) (o:=valueAt vs k) (by rw[<-hf,<-jt k (by rw[zm]; exact hl)]; exact rel.val k)
 exact T_ (x:=w') dd.typeIs PySem.F.slot_dict_getitem.lookup
  (LH (Q:=λr s'=>r=w'/\EP X z6 σ Q r s') (qL ry) dd.mapOf hw ⟨rfl,_,H,I.tok _,rw',q f mf⟩) hs
inductive wM(X:Cx)(j:Nat):List Str->List FM->Prop
 |nil:wM X j [] []
 |cons {n:Str} {ps:List Str} {k:Nat} {F:FM} {ns:List Str} {Fs:List FM} (h:zJ X.prog X.w X.K X.mg X.base n ps k (zo X.K F)) (hk:k<=j) (r:wM X j ns Fs):wM X j (n::ns) (F::Fs)
theorem wM.get{X:Cx}{j:Nat}{k:zK}{F:FM}:∀{ks:List zK}{ns:List Str}{Fs:List FM},wM X j ns Fs->getK ks Fs k=some F->∃n ps i,getK ks ns k=some n/\i<=j/\zJ X.prog X.w X.K X.mg X.base n ps i (zo X.K F)
 | [],_,_,_,e=>by cases e
 |_::_,_,_,.nil,e=>by cases e
 |k'::ks,_,_,.cons (n:=n) (ps:=ps) (k:=i) h hk r,e=>by
  unfold getK at e;by_cases c:k'=k
  ·rw[zM c]at e;cases e;exact⟨n,ps,i,by unfold getK; rw[zM c],hk,h⟩
  ·rw[zO c]at e;obtain⟨n',ps',i',e',r'⟩:=r.get e;exact⟨n',ps',i',by unfold getK; rw[zO c]; exact e',r'⟩
def Qs(ks:List zK)(Fs:List FM)(fk:FE)(fa:vB):yu:=λβ=>(fk (vx β)).bind λx=>(wb x).bind λk=>(getK ks Fs k).bind λF=>vE F fa β
theorem NL{A:Addr}{ks:List zK}{ns:List Str}{Fs:List FM}{x:Str}{p p2 pos:Pos}{k e:Expr}{es:List Expr}{fk:FE}{fa:vB}{j:Nat}(h:xV X.mg x (.ref A))(g:gW X.K X.w X.mg A ks ns)(hg:Gl X x)(D:wM X j ns Fs)(hr:yI j X.A)(hk:SE X k fk)(ha:MA X (e::es) fa)
  (hs:XW k=true:=by rfl)(hd:(x==("__debug__" : Str))=false:=by decide)(he:(e::es).all yZ=true:=by rfl)
  (hev:eval (.Call (.Subscript (.Name x p) k p2) (e::es) [] pos) X.env=(do callWith pos (<-eval (.Subscript (.Name x p) k p2) X.env) [] (backTo pos (starEach (e::es) X.env)) (backToKw pos (keywordEach [] X.env))):=by rfl):MC X (.Call (.Subscript (.Name x p) k p2) (e::es) [] pos) (Qs ks Fs fk fa):=by
 obtain⟨tk,pk,kk⟩:=hk.h;obtain⟨ta,pa,ka⟩:=ha.h;refine⟨⟨_,Rq hr (Im (HF g) (Il h hg hd) pk (Ip hs)) pa he hev,λ{P G0 H0 G H β β' σ m Q} E hf q=>?_⟩⟩;obtain⟨y,hy,hf⟩:=zD hf;obtain⟨key,hkey,hf⟩:=zD hf;obtain⟨F,hF,hf⟩:=zD hf;obtain⟨as,has,hf⟩:=zD hf;obtain⟨n,ps,i,hn,hi,⟨f,fd,hm,kp,b,FF⟩⟩:=D.get hF;obtain⟨G1,E1,back⟩:=E.uM;refine kk E1 hy λu G2 H2 x2 r2=>?_
 obtain⟨G3,x3,E3,_⟩:=back _ _ x2;refine⟨rfl,key,n,jY hkey r2,hn,λf' hm'=>?_⟩;rw[hm]at hm';cases hm';refine⟨f,fd,ps,i,_,rfl,hi,kp,b,FF,ka E3 has λvs G4 H4 x4 ra=>?_⟩;rw[ub];exact(E3.go x4).call ra hf λv G' H' s K'=>q v G' H' (x3.g.trans (x4.g.trans s)) K'
end
def yT(cs:List Str)(f:Str):D->Option D
 |.obj x fs vs=>if x∈cs then getA fs vs f else none
 |_=>none
theorem Reps.getA{K:W.Frag}{G:Hp}{κ:Type}[DecidableEq κ]{k:κ}{d:D}:∀{ks:List κ}{ds:List D}{vs:List V},Reps K G ds vs->L3.getA ks ds k=some d->∃v,L3.getA ks vs k=some v/\zS K G d v
 | [],_,_,_,e=>by cases e
 |_::_,[],_,_,e=>by cases e
 |k'::ks,d'::ds,vs,r,e=>by
  obtain⟨v,r',rfl,hv,hr⟩:=r;unfold L3.getA at e ⊢;by_cases c:k'=k
  ·rw[zM c]at e ⊢;cases e;exact⟨v,rfl,hv⟩
  ·rw[zO c]at e ⊢;exact Reps.getA hr e
def wO(c m:Str)(fo:FE)(fs:FA):FA:=λτ=>(fo τ).bind λo=>match o with
 |.obj x fl _=>match decide (x=c)&&!(decide (m∈fl))with
  |true=>(fs τ).bind λds=>some (o::ds)
  |false=>none
 |_=>none
section
variable{X:Cx}{e o:Expr}{f m c:Str}{cs:List Str}{fe fo:FE}{pos apos:Pos}{ps:List Str}{j k:Nat}{FF:List D->Option (Bool×D)}
theorem xM(h:SE X e fe)(k:zt X.K cs f)(hb:attributeBase e f X.env (eval e X.env)=eval e X.env:=by rfl):SE X (.Attribute e f pos) (e1 (yT cs f) fe):=by
 obtain⟨t,p,kt⟩:=h.h;refine⟨⟨_,Do p hb,λ{G0 H0 G H τ σ d Q} E hf q=>?_⟩⟩;obtain⟨y,hy,hf⟩:=zD hf;refine kt E hy λv G1 H1 x1 r1=>?_
 unfold yT at hf
 split at hf
 ·rename_i x fs vs;by_cases hx:x∈cs
  ·rw[zM hx]at hf;obtain⟨a,C,dx,us,rfl,ns,ha,l,rs⟩:=r1;obtain⟨u,hu,ru⟩:=rs.getA hf;obtain⟨cl,na⟩:=k x hx C ns;exact⟨a,C,dx,_,u,rfl,x1.gh _ _ ha,cl,na,by rw[Uq]; exact hu,q _ _ _ x1 ru⟩
  ·rw[zO hx]at hf; cases hf
 ·cases hf
theorem C8{G0 H0 G H:Hp}{τ:zp}{σ:St}{ds:List D}{Q:VK}{C:Addr}{t:TA}{to:TE}{sp:Sp}{fs:FA}(nsC:W.nsIn X.K mainGlobals c=some (some (.ref C)))
  (ko:∀{G0 H0 G H:Hp}{τ:zp}{σ:St}{d:D}{Q:VK},zn X.K X.N.length G0 H0 G H τ σ->fo τ=some d->(∀v G' H',zN G H G' H'->zS X.K G' d v->Q v H')->to σ H Q)
  (kt:∀{G0 H0 G H:Hp}{τ:zp}{σ:St}{ds:List D}{Q:List V->Hp->Prop},zn X.K X.N.length G0 H0 G H τ σ->fs τ=some ds->(∀vs G' H',zN G H G' H'->Reps X.K G' ds vs->Q vs H')->t σ H Q)
  (E:zn X.K X.N.length G0 H0 G H τ σ)(hf:wO c m fo fs τ=some ds)(q:∀vs G' H',zN G H G' H'->Reps X.K G' ds vs->sp vs H' Q E0):TN C m sp [] E0 to t σ H Q:=by
 obtain⟨y,hy,hf⟩:=zD hf
 split at hf
 ·rename_i x fl vs
  split at hf
  ·rename_i cc;rw[yD]at cc;cases xE cc.1
   have hm:m ∉ fl:=by
    have:=cc.2;simpa using this
   obtain⟨ds',hd,hf⟩:=zD hf;cases hf;refine ko E hy λv G1 H1 x1 r1=>?_
   obtain⟨a,C',dx,us,rfl,ns,ha,l,rs⟩:=id r1;rw[nsC]at ns;cases ns;refine⟨a,dx,_,rfl,x1.gh _ _ ha,IP hm,kt (E.go x1) hd λvs G2 H2 x2 r2=>?_⟩;rw[ub];exact q _ _ _ (x1.trans x2) ⟨_,vs,rfl,r1.mono x2.g,r2⟩
  ·cases hf
 ·cases hf
theorem CH{G H:Hp}{ds:List D}{vs:List V}{Q:VK}{G0' H0':Hp}{d:D}{o:Bool}{E:XK}(x:zN G0' H0' G H)(r:Reps X.K G ds vs)(hr:FF ds=some (o,d))(q:∀v G' H',zN G0' H0' G' H'->zS X.K G' d v->Q v H'):zR X.K FF vs H Q E:=by
 refine⟨G,ds,o,d,x.gh,r,hr,?_⟩;cases o with
 |false=>exact λv G' H' x2 r=>q v G' H' (x.trans x2) r
 |true=>
  intro p G' H' x2 hp gp o;obtain⟨u,hu,r⟩:=o.xj gp;exact q _ _ _ (x.trans (x2.xj hp gp hu)) r
theorem kT{pl:Sem Bool}(h:wX X.prog X.w X.K X.mg X.base c m ps k (zR X.K FF))(hr:yI j X.A)(ho:SE X o fo)(hk:k<=j:=by decide)
  (ht:eval (.Call (.Attribute o m apos) [] [] pos) X.env=(do
   let ov <-eval o X.env
   standAt apos.atName
   let (f,first) <-holding [ov] (getMethod ov m pl)
   callWith pos f first (backTo pos (starEach [] X.env)) (backToKw pos (keywordEach [] X.env))):=by rfl):SE X (.Call (.Attribute o m apos) [] [] pos) (zj FF (wO c m fo zH)):=by
 obtain⟨C,f,fd,ns,cl,me,b,F⟩:=h;obtain⟨to,po,ko⟩:=ho.h;refine⟨⟨_,Dq po cl me F (hr.mono hk) b .nil kI ht,λ{G0 H0 G H τ σ d Q} E hf q=>?_⟩⟩;obtain⟨ds,hd,hf⟩:=zD hf;obtain⟨⟨oo,dd⟩,hF,hf⟩:=zD hf;cases hf;exact C8 (t:=Wh) ns ko (λ{G0 H0 G H τ σ ds Q} E' e k'=>by cases e; exact k' _ _ _ (zN.refl E'.ext.gh) rfl) E hd λvs G' H' x r=>CH x r hF q
theorem b7{pl:Sem Bool}{es:List Expr}{fs:FA}(h:wX X.prog X.w X.K X.mg X.base c m ps k (zR X.K FF))(hr:yI j X.A)(ho:SE X o fo)(ha:SA X (e::es) fs)(hk:k<=j:=by decide)(he:(e::es).all yZ=true:=by rfl)
  (ht:eval (.Call (.Attribute o m apos) (e::es) [] pos) X.env=(do
   let ov <-eval o X.env
   standAt apos.atName
   let (f,first) <-holding [ov] (getMethod ov m pl)
   callWith pos f first (backTo pos (starEach (e::es) X.env)) (backToKw pos (keywordEach [] X.env))):=by rfl):SE X (.Call (.Attribute o m apos) (e::es) [] pos) (zj FF (wO c m fo fs)):=by
 obtain⟨C,f,fd,ns,cl,me,b,F⟩:=h;obtain⟨to,po,ko⟩:=ho.h;obtain⟨t,pa,kt⟩:=ha.h;rw[xf,yD]at he;refine⟨⟨_,S0 po cl me F (hr.mono hk) b .nil kI pa (vw he.1) (pj he.2) ht,λ{G0 H0 G H τ σ d Q} E hf q=>?_⟩⟩;obtain⟨ds,hd,hf⟩:=zD hf;obtain⟨⟨oo,dd⟩,hF,hf⟩:=zD hf;cases hf;exact C8 ns ko kt E hd λvs G' H' x r=>CH x r hF q
end
theorem OwnMs.LY{K:W.Frag}{G H:Hp}{k:Sum Int Str}{d:D}{w:V}(rd:zS K G d w):∀{ks:List (Sum Int Str)} {ms:List M} {vs:List V} {L:Ft},OwnMs K G H ms vs L->ks.length=vs.length->∃L',OwnMs K G H (List.zipWith (λk' x=>if k'=k then M.fz d else x) ks ms) (List.zipWith (λk' x=>if k'=k then w else x) ks vs) L'/\∀q,L' q->L q
 | [],ms,vs,L,h,l=>⟨λ_=>False,⟨rfl,λ_ z=>z⟩,λ_ z=>z.elim⟩
 |_::_,[],vs,L,h,l=>by
  obtain⟨rfl,n⟩:=h;cases l
 |k'::ks,m::ms,vs,L,h,l=>by
  obtain⟨v,r,La,Lb,rfl,hv,hr,d',u⟩:=h;obtain⟨L',o',s'⟩:=OwnMs.LY (k:=k) rd hr (Yb l);rw[L8,L8];by_cases c:k'=k
  ·rw[zM c,zM c];exact⟨L',⟨w,_,λ_=>False,L',rfl,⟨rd,λ_ z=>z⟩,o',λ_ z=>z.elim,λq=>⟨.inr,λz=>z.elim False.elim id⟩⟩,λq z=>(u q).mpr (.inr (s' q z))⟩
  ·rw[zO c,zO c];refine⟨λq=>La q\/L' q,⟨v,_,La,L',rfl,hv,o',λq a b=>d' q a (s' q b),λq=>qT⟩,λq z=>?_⟩;rcases z with z|z
   ·exact(u q).mpr (.inl z)
   ·exact(u q).mpr (.inr (s' q z))
def XI(i:Nat)(π:List yf)(k:Str)(fe:FE):zw:=λβ=>(uz β i π).bind λnd=>match nd with
 |.tab ks ms=>match wm ks (.inr k)&&decide (ks.length<yY)with
  |true=>(getA ks ms (.inr k)).bind λc=>(uQ c).bind λc=>match c with
   |.int a=>(fe (vx β)).bind λy=>match y with
    |.int b=>(putAt β i π (.tab ks (xK ks ms (.inr k) (.fz (.int (a+b)))))).bind λβ2=>some (.nx β2)
    |_=>none
   |_=>none
  |false=>none
 |_=>none
section
variable{X:Cx}{np:Nat}{o v:Expr}{i:Nat}{π:List yf}{k:Str}{kk:Nat}{kp pos tpos:Pos}{fe:FE}
theorem Bq(hu:X.A.units+1<cLine)(ho:SP X o i π)(hv:SE X v fe):MS X np (.AugAssign (.Subscript o (.Constant (.str k) kk kp) tpos) .Add v pos) (XI i π k fe):=by
 obtain⟨tv,pv,kv⟩:=hv.h;obtain⟨to,po,ko⟩:=ho.h;refine⟨⟨_,Sb hu po U_ pv BL (λ_ _ _=>rfl),λ{P G0 H0 G H β σ fl E} hP K hf q=>?_⟩⟩;obtain⟨nd,hn,hf⟩:=zD hf
 split at hf
 ·rename_i ks ms
  split at hf
  ·rename_i c;rw[yD]at c;have hx:=c.1;have hl:=xE c.2;obtain⟨ch,hch,hf⟩:=zD hf;obtain⟨dc,hdc,hg⟩:=zD hf;cases qH hdc
   split at hg
   ·rename_i a;obtain⟨y,hy,hf⟩:=zD hg
    split at hf
    ·rename_i b;obtain⟨β2,hβ,hf⟩:=zD hf;cases hf;obtain⟨mm,hm,ha⟩:=jd hn;have K0:=K.qY (d:=.zG) (v:=.zG) rfl;obtain⟨r,v1,L1,Lr,er,va,o1,_⟩:=K0.write K.lp hm ha;obtain⟨p,vs,L',rfl,hp,l,rs,l2,nL,uL⟩:=o1;obtain⟨vc,Lc,ec,⟨rc,_⟩,_⟩:=OwnMs.focus rs hch;cases(show vc=_ from rc);refine ko er va ⟨p,_,rfl,.inl ⟨_,.inr k,.inl hp,rfl,by rw[jt _ l,<-JO]; exact ec.symm⟩,?_⟩;obtain⟨Ga,Ea,back⟩:=K.uM;refine kv Ea hy λu G2 H2 x2 r2=>?_
     cases(show u=_ from r2);obtain⟨G3,x3,K3,_⟩:=back _ _ x2;have K4:=K3.qY (d:=.int (a+b)) (v:=.int (a+b)) rfl;obtain⟨r',v1',L1',Lr',er',va',o1',orr,dj,wr⟩:=K4.write K.lp hm ha;rw[er]at er';cases er';cases xO.one (va.mono x3.h) va';obtain⟨p',vs',L'',e0,hp',l',rs',qx,nL',uL'⟩:=o1';cases e0
     have ez:wJ (ks.zip vs') (.inr k) (V.int (a+b))=ks.zip (xK ks vs' (.inr k) (V.int (a+b))):=by
      rw[Tk l'];unfold we;rw[zM hx]
     have k1:∀q,q≠p->(zT H2 p (.dK (wJ (ks.zip vs') (.inr k) (V.int (a+b))))) q=H2 q:=λq z=>yH z
     have rs2:OwnMs X.K G3 (zT H2 p (.dK (wJ (ks.zip vs') (.inr k) (V.int (a+b))))) ms vs' L'':=OwnMs.imp (λm' _ v' L3 s o=>o.loc (zb.refl _) m' v' L3 λq z=>k1 q λc=>nL' (c▸s q z)) rs';obtain⟨L3,o3,s3⟩:=OwnMs.LY (k:=.inr k) (d:=.int (a+b)) (w:=.int (a+b)) rfl rs2 l'
     have em:∀{α:Type}(xs:List α)(z:α),xK ks xs (.inr k) z=List.zipWith (λk' x=>if k'=.inr k then z else x) ks xs:=λxs z=>by
      unfold xK;rw[zM hx]
     obtain⟨m',e',K5⟩:=wr (H':=zT H2 p (.dK (wJ (ks.zip vs') (.inr k) (V.int (a+b))))) (m2:=.tab ks (xK ks ms (.inr k) (.fz (.int (a+b))))) (L2:=λq=>q=p\/L3 q) (λq z=>k1 q λc=>z ((uL' q).mpr (.inl c)))
      ⟨p,xK ks vs' (.inr k) (V.int (a+b)),L3,rfl,by rw[yi,ez],by rw[em,kZ,l',qA],by rw[em,em]; exact o3,by rw[em,kZ,rs'.length.symm.trans l'.symm,qA]; rw[<-rs'.length,<-l']at l2; exact l2,λz=>nL' (s3 p z),λq=>qT⟩ (λq z=>by
       rcases z with rfl|z
       ·exact .inl ((uL' q).mpr (.inl rfl))
       ·exact .inl ((uL' q).mpr (.inr (s3 q z))))
     rw[Y8 hm e']at hβ;cases hβ;exact⟨_,_,rfl,rfl,_,.inl ⟨_,.inr k,hp',rfl,by rw[j0,l',qA,xi,<-l']; exact hl,rfl⟩,q _ _ _ K5⟩
    ·cases hf
   ·cases hg
  ·cases hf
 ·cases hf
end
def N9(ix:Nat)(i:Nat)(π:List yf)(fk:FE)(fv:yu):zw:=λβ=>(fv β).bind λr=>(uQ r.1).bind λy=>match y with
 |.tup [d1,d2]=>(uz (r.2.set ix (some (.fz d1))) i π).bind λnd=>match nd with
  |.own (.lst ds)=>(fk (vx (r.2.set ix (some (.fz d1))))).bind λx=>match x with
   |.int j=>(ixN ds.length j).bind λn=>(putAt (r.2.set ix (some (.fz d1))) i π (.own (.lst (ds.set n d2)))).bind λβ2=>some (.nx β2)
   |_=>none
  |_=>none
 |_=>none
section
variable{X:Cx}{np:Nat}{o k v:Expr}{ix i:Nat}{x:Str}{π:List yf}{fk:FE}{fv:yu}{px pos pos' pt:Pos}{kk:Nat}
end
open PyProof
mutual
def xL:D->PyData
 |.zG=>.none
 |.bl b=>.bool b
 |.int i=>.int i
 |.str x=>.str x
 |.tup ds=>.tuple (pyTs ds)
 |.lst ds=>.list (pyTs ds)
 |_=>.none
def pyTs:List D->List PyData
 | []=>[]
 |d::ds=>xL d::pyTs ds
end
mutual
def wD:D->Nat
 |.zG=>4
 |.bl _=>5
 |.int i=>if decide (0<=i)&&decide (i<100000000000000000000)then 20 else 1000000000
 |.tup ds=>wDs ds+3
 |.lst ds=>wDs ds+2
 |_=>1000000000
def wDs:List D->Nat
 | []=>0
 |d::ds=>wD d+2+wDs ds
end
def wv:Nat->D->Bool
 |_,.zG=>true
 |_,.bl _=>true
 |_,.int _=>true
 |n+1,.tup ds=>ds.all (wv n)
 |n+1,.lst ds=>ds.all (wv n)
 |_,_=>false
def UL:List D->Option D
 | [.lst ds]=>match decide (wDs ds<=1000000)&&ds.all (wv 5)with
  |true=>some (.str (xL (.lst ds)).shown)
  |false=>none
 |_=>none
theorem CV:∀(ts:List Str)(k:Nat)(acc:Str),(textFrom k acc ts).length<=acc.length+piled ts
 | [],k,acc=>jx _ _
 |t::r,k,acc=>by
  have h:=CV r (k+1) (acc++(if k>0 then ", " else "" : String)++t)
  have e:(acc++(if k>0 then ", " else "" : String)++t).length=acc.length+(if k>0 then 2 else 0)+t.length:=by
   rw[Yd,Yd]
   split<;>rfl
  rw[e]at h;rw[piled_cons];show(textFrom (k+1) _ r).length<=_;have:(if k>0 then 2 else 0:Nat)<=2:=by split<;>omega
  omega
theorem N5(ts:List Str):(listText ts).length<=piled ts+2:=by
 unfold listText;have h:=CV ts 0 "[";have e1:(("[" : String):Str).length=1:=rfl;have e2:(("]" : String):Str).length=1:=rfl;rw[Yd,e2];rw[e1]at h;omega
theorem dB(ts:List Str):(tupleText ts).length<=piled ts+3:=by
 unfold tupleText;rw[Yd,Yd];have e1:((("(" : String):Str)).length=1:=rfl;have e3:(((if ts.length==1 then ",)" else ")" : String):Str)).length<=2:=by split<;>decide
 rw[e1];by_cases h:ts=[]
 ·subst h;have:(Str.join ", " []).length=0:=rfl;omega
 ·have:=join_length_add ts h;omega
theorem OF(d:D):wD d<=900000000->(xL d).shown.length<=wD d:=by
 have all:∀xs:List D,(∀d∈xs,wD d<=900000000->(xL d).shown.length<=wD d)->wDs xs<=900000000->piled (PyData.shownAll (pyTs xs))<=wDs xs:=λxs=>by
  induction xs with
  |nil=>intro _ _; exact yF _
  |cons x xs ih=>
   intro h hw;have hw':wD x+2+wDs xs<=900000000:=hw;have h1:=h x yr (by omega);have h2:=ih (λd hd=>h d (xg _ hd)) (by omega);show piled ((xL x).shown::PyData.shownAll (pyTs xs))<=wD x+2+wDs xs;rw[piled_cons];omega
 refine D.ind (P:=λd=>wD d<=900000000->(xL d).shown.length<=wD d) ?_ ?_ ?_ ?_ ?_ ?_ ?_ ?_ ?_ d
 ·intro _; decide
 ·intro b _; cases b<;>decide
 ·intro i h
  change (if decide (0<=i)&&decide (i<100000000000000000000)then 20 else 1000000000)<=900000000 at h
  show(Str.ofString (toString i)).length<=(if decide (0<=i)&&decide (i<100000000000000000000)then 20 else 1000000000);cases c:(decide (0<=i)&&decide (i<100000000000000000000))with
  |false=>rw[c,zO (by decide)]at h; omega
  |true=>
   rw[zM rfl];rw[yD]at c;have e:(10:Int) ^ 20=100000000000000000000:=by decide
   have h2:=xE c.2;rw[<-e]at h2;exact toString_length_le (xE c.1) (by decide) h2
 ·intro x h; exact absurd h (by show ¬ (1000000000<=900000000); decide)
 ·intro xs ih h;have h':wDs xs+3<=900000000:=h;have:=all xs ih (by omega);have:=dB (PyData.shownAll (pyTs xs));show(tupleText (PyData.shownAll (pyTs xs))).length<=wDs xs+3;omega
 ·intro xs ih h;have h':wDs xs+2<=900000000:=h;have:=all xs ih (by omega);have:=N5 (PyData.shownAll (pyTs xs));show(listText (PyData.shownAll (pyTs xs))).length<=wDs xs+2;omega
 ·intro ks xs _ h; exact absurd h (by show ¬ (1000000000<=900000000); decide)
 ·intro x h; exact absurd h (by show ¬ (1000000000<=900000000); decide)
 ·intro x fs xs _ h; exact absurd h (by show ¬ (1000000000<=900000000); decide)
theorem bM(d:D):wD d<=900000000->(xL d).showable=true/\(xL d).hasDict=false:=by
 have all:∀xs:List D,(∀d∈xs,wD d<=900000000->(xL d).showable=true/\(xL d).hasDict=false)->wDs xs<=900000000->PyData.showableAll (pyTs xs)=true/\PyData.hasDictAll (pyTs xs)=false:=λxs=>by
  induction xs with
  |nil=>intro _ _; exact⟨rfl,rfl⟩
  |cons x xs ih=>
   intro h hw;have hw':wD x+2+wDs xs<=900000000:=hw;obtain⟨a,b⟩:=h x yr (by omega);obtain⟨c,e⟩:=ih (λd hd=>h d (xg _ hd)) (by omega)
   constructor
   ·show((xL x).showable&&PyData.showableAll (pyTs xs))=true;rw[a,c]; rfl
   ·show((xL x).hasDict||PyData.hasDictAll (pyTs xs))=false;rw[b,e]; rfl
 refine D.ind (P:=λd=>wD d<=900000000->(xL d).showable=true/\(xL d).hasDict=false) (λ_=>⟨rfl,rfl⟩) (λb _=>⟨rfl,rfl⟩) ?_ ?_ ?_ ?_ (λks xs _ _=>⟨rfl,rfl⟩) (λx _=>⟨rfl,rfl⟩) (λx fs xs _ _=>⟨rfl,rfl⟩) d
 ·intro i h
  change (if decide (0<=i)&&decide (i<100000000000000000000)then 20 else 1000000000)<=900000000 at h
  refine⟨?_,rfl⟩;cases c:(decide (0<=i)&&decide (i<100000000000000000000))with
  |false=>rw[c,zO (by decide)]at h; omega
  |true=>
   rw[yD]at c;have h1:=xE c.1;have h2:=xE c.2;show decide (i.natAbs.log2<1920)=true;refine yQ ?_;by_cases z:i.natAbs=0
   ·rw[z]; decide
   ·have e:(2:Nat) ^ 67=147573952589676412928:=by decide
    have h3:i.natAbs<2 ^ 67:=by
     rw[e];omega
    have:=(W_ z).mpr h3;omega
 ·intro x h; exact absurd h (by show ¬ (1000000000<=900000000); decide)
 ·intro xs ih h;have h':wDs xs+3<=900000000:=h;exact all xs ih (by omega)
 ·intro xs ih h;have h':wDs xs+2<=900000000:=h;exact all xs ih (by omega)
theorem J4:∀(n:Nat)(d:D),wv n d=true->(xL d).depth<=n
 |n,.zG,_=>vy _
 |n,.bl _,_=>vy _
 |n,.int _,_=>vy _
 |0,.tup _,h=>by cases h
 |0,.lst _,h=>by cases h
 |n+1,.tup ds,h=>by
  have all:∀ds:List D,ds.all (wv n)=true->PyData.depthAll (pyTs ds)<=n:=λds=>by
   induction ds with
   |nil=>intro _; exact vy _
   |cons x xs ih=>
    intro h;rw[xf,yD]at h;exact Nat.max_le.mpr ⟨J4 n x h.1,ih h.2⟩
  exact kh (all ds h)
 |n+1,.lst ds,h=>by
  have all:∀ds:List D,ds.all (wv n)=true->PyData.depthAll (pyTs ds)<=n:=λds=>by
   induction ds with
   |nil=>intro _; exact vy _
   |cons x xs ih=>
    intro h;rw[xf,yD]at h;exact Nat.max_le.mpr ⟨J4 n x h.1,ih h.2⟩
  exact kh (all ds h)
 |n,.str _,h=>by cases n<;>cases h
 |n,.dic _ _,h=>by cases n<;>cases h
 |n,.exc _,h=>by cases n<;>cases h
 |n,.obj _ _ _,h=>by cases n<;>cases h
section
variable{X:Cx}{z6:List (Addr×Obj)}{σ:St}{H:Hp}{s:Shared}
theorem AA(I:zC X z6 σ H s)(d:D):∀(n:Nat)(v:V)(u:Value),wv n d=true->zS X.K H d v->zc v u->∃as,Reads s.heap u (xL d) as:=by
 have all:∀(xs:List D),(∀d∈xs,∀(n:Nat)(v:V)(u:Value),wv n d=true->zS X.K H d v->zc v u->∃as,Reads s.heap u (xL d) as)->∀(n:Nat)(vs:List V)(us:List Value),xs.all (wv n)=true->Reps X.K H xs vs->ze vs us->∃as,ReadsAll s.heap us (pyTs xs) as:=λxs=>by
  induction xs with
  |nil=>
   intro _ n vs us _ r hv;cases(show vs=[]from r);cases hv;exact⟨[],.nil⟩
  |cons x xs ih=>
   intro h n vs us ha r hv;obtain⟨v,r',rfl,h1,h2⟩:=r;rw[xf,yD]at ha;cases hv with
   |cons q1 q2=>
    obtain⟨as,ra⟩:=h x yr n v _ ha.1 h1 q1;obtain⟨bs,rb⟩:=ih (λd hd=>h d (xg _ hd)) n r' _ ha.2 h2 q2;exact⟨_,.cons ra rb⟩
 refine D.ind (P:=λd=>∀(n:Nat)(v:V)(u:Value),wv n d=true->zS X.K H d v->zc v u->∃as,Reads s.heap u (xL d) as) ?_ ?_ ?_ ?_ ?_ ?_ ?_ ?_ ?_ d
 ·intro n v u _ r q;cases(show v=_ from r);cases(show u=_ from q);exact⟨_,.none⟩
 ·intro b n v u _ r q;cases(show v=_ from r);cases(show u=_ from q);exact⟨_,.bool b⟩
 ·intro i n v u _ r q;cases(show v=_ from r);obtain⟨t,rfl⟩:=(show ∃t,u=Value.int i t from q);exact⟨_,.int i t⟩
 ·intro x n v u h;cases n<;>cases h
 ·intro xs ih n v u h r q;obtain⟨a,vs,rfl,sq,rs,_⟩:=r;cases(show u=_ from q);cases n with
  |zero=>cases h
  |succ n=>
   obtain⟨its,rv,⟨o,e,hc,m,hd⟩,_⟩:=I.tuple sq;obtain⟨as,ra⟩:=all xs ih n vs its h rs rv;exact⟨as,.tuple e hc hd (by simpa using ra)⟩
 ·intro xs ih n v u h r q;obtain⟨a,vs,rfl,sq,rs,_⟩:=r;cases(show u=_ from q);cases n with
  |zero=>cases h
  |succ n=>
   obtain⟨its,rv,⟨o,m,e,hc,_,hd⟩,_⟩:=I.list sq;obtain⟨as,ra⟩:=all xs ih n vs its h rs rv;exact⟨_,.list e hc hd (by simpa using ra)⟩
 ·intro ks xs _ n v u h;cases n<;>cases h
 ·intro x n v u h;cases n<;>cases h
 ·intro x fs xs _ n v u h;cases n<;>cases h
end
def Fi(K:W.Frag):List V->Hp->VK->Prop:=λxs H Q=>∃ds v,xs=[v]/\zS K H (.lst ds) v/\wDs ds<=1000000/\ds.all (wv 5)=true/\Q (.str (xL (.lst ds)).shown) H
theorem Me{X:Cx}{j:Nat}(hr:yI j X.A):xU X (.builtin "repr") (Fi X.K):=by
 intro z6 s σ H xs us Q I r h;obtain⟨ds,v,rfl,rd,hw,hd,q⟩:=h;obtain⟨u,rfl,rx⟩:=vg r;obtain⟨as,ra⟩:=AA I (.lst ds) 6 v u hd rd rx;obtain⟨a,vs,rfl,_⟩:=rd;cases rx;have w9:wD (.lst ds)<=900000000:=by show wDs ds+2<=_; omega
 obtain⟨s1,s2⟩:=bM (.lst ds) w9;have dp:=J4 6 (.lst ds) hd;have hu:=hr.units;have sl:=OF (.lst ds) w9
 have sz:(xL (.lst ds)).shown.length<=sizeLine:=by
  have:wD (.lst ds)=wDs ds+2:=rfl;rw[xi];omega
 exact repr_of_reads' ra s1 (PyData.noDict_hsm s2) hr.gd (by omega) (λ_ _ e=>e) (λh' u tk hk=>⟨.str _,H,I.kept (t':=tk) hk,⟨_,rfl⟩,q⟩) sz
theorem Da{K:W.Frag}:qc K (Fi K) UL:=λG H ds vs d Q s r hf q=>by
 match ds,hf with
 | [.lst xs],hf=>
  change (match decide (wDs xs<=1000000)&&xs.all (wv 5)with|true=>some (D.str (xL (.lst xs)).shown)|false=>none)=some d at hf
  cases c:(decide (wDs xs<=1000000)&&xs.all (wv 5))with
  |false=>rw[c]at hf; cases hf
  |true=>
   rw[c]at hf;cases hf;rw[yD]at c;have hw:=xE c.1;obtain⟨v,rfl,rv⟩:=u_ r;have sl:=OF (.lst xs) (by show wDs xs+2<=_; omega);refine⟨xs,v,rfl,?_,hw,c.2,q _ _ _ (zN.refl s) ⟨rfl,?_⟩⟩
   ·first|exact rv|exact rv.mono s
   ·have:wD (.lst xs)=wDs xs+2:=rfl;rw[xi];omega
theorem GL{X:Cx}:xU X (.type "dict") (λxs H Q=>∃a kvs,xs=[.ref a]/\Rd H a (.dK kvs)/\∀p,H p=none->Q (.ref p) (zT H p (.dK kvs))):=by
 intro z6 s σ H xs us Q I r h;obtain⟨a,kvs,rfl,e,q⟩:=h;obtain⟨u,rfl,ru⟩:=vg r;cases(show u=Value.ref a from ru);obtain⟨hz,hsys,vs,rel,dd⟩:=tQ I.zZ e;have hlv:vs.length=kvs.length:=ID rel;refine kt_call_dict hsys dd (by rw[hlv]; exact hz) λh' hm sb=>?_
 have hm2:(s.heap.objs.size==sysModules)=false:=by
  have:=I.big;rw[kj];exact xQ (qU this)
 have kp:∀b o,s.heap.get? b=some o->h'.get? b=some o:=λb o eb=>by
  have hlt:=Heap.lt_size eb;exact(sb.2 b (xQ (wB hlt))).trans (Heap.get?_push_of_some _ eb)
 exact⟨.ref s.heap.objs.size,_,I.laid (a:=s.heap.objs.size) (o:=.dK kvs) (t':=s.toks) kp (yF _) (U8 hz hm2 rel hm),rfl,q _ I.fresh⟩
def UC:List D->Option D
 | [.dic ks ds]=>some (.dic ks ds)
 |_=>none
theorem bF{X:Cx}{e:Expr}{fs:FA}{p pos:Pos}(hg:Gl X "dict")(hm:X.mg "dict" = none)(hv:bootBuiltins "dict" = some (.type "dict"))(ha:SA X [e] fs)(hs:yZ e=true:=by rfl):SF X (.Call (.Name "dict" p) [e] [] pos) (eL UC fs):=by
 obtain⟨t,pt,k⟩:=ha.h;refine⟨⟨_,(YD GL hg hm hv ⟨pt⟩ (by decide) (by decide) (by rw[xf,hs]; rfl)).h,λ{G0 H0 G H τ σ d Q} E hf q=>?_⟩⟩;obtain⟨ds,hd,hf⟩:=zD hf;refine k E hd λvs G1 H1 x1 r1=>?_
 unfold UC at hf
 split at hf
 ·rename_i ks es;cases hf;obtain⟨v,rfl,a,ws,rfl,sq,hl,rs,l⟩:=u_ r1;refine⟨a,_,rfl,Rd.mono x1.gh sq,λp hp=>?_⟩;exact q p _ _ (x1.trans (zN.tF x1.gh hp)) (x1.h.free hp) (x1.gh.free hp) ⟨ws,yi,hl,rs,l⟩
 ·cases hf
end L3
namespace L3
def xc:=
 And.intro y0.eq_1<|And.intro ql.eq_1<|And.intro qm.eq_1<|And.intro pM.eq_1<|And.intro vH.eq_1<|And.intro x_.eq_1<|And.intro yR.eq_1<|And.intro vp.eq_1<|And.intro jP.eq_1<|And.intro GI.eq_1<|And.intro GH.eq_1 <|
 And.intro qt.eq_1<|And.intro dZ.eq_1<|And.intro dY.eq_1<|And.intro OR.eq_1<|And.intro OS.eq_1<|And.intro X2.eq_1<|And.intro Qq.eq_1<|And.intro uQ.eq_def<|And.intro uz.eq_1<|And.intro putAt.eq_1 <|
 And.intro uR.eq_1<|And.intro uD.eq_1<|And.intro uu.eq_1<|And.intro hide.eq_1<|And.intro vx.eq_1<|And.intro wA.eq_1<|And.intro wA.eq_2<|And.intro wA.eq_3<|And.intro wA.eq_4<|And.intro thaws.eq_1<|And.intro thaws.eq_2 <|
 And.intro vM.eq_1<|And.intro vM.eq_2<|And.intro vM.eq_3<|And.intro vM.eq_4<|And.intro vM.eq_5<|And.intro tplDs.eq_1<|And.intro tplDs.eq_2<|And.intro IV.eq_def<|And.intro qM.eq_1<|And.intro pL.eq_1<|And.intro uV.eq_1<|And.intro N9.eq_1<|And.intro kB.eq_1<|And.intro wQ.eq_1<|And.intro wQ.eq_2 <|
 And.intro xv.eq_1<|And.intro ZN.eq_1<|And.intro xt.eq_1<|And.intro Ei.eq_1<|And.intro vS.eq_1<|And.intro p9.eq_1<|And.intro jr.eq_1<|And.intro jr.eq_2<|And.intro jr.eq_3<|And.intro ZR.eq_1<|And.intro ZR.eq_2<|And.intro ZR.eq_3<|And.intro ur.eq_1<|And.intro gj.eq_1<|And.intro vE.eq_1<|And.intro X4.eq_1<|And.intro Qs.eq_1 <|
 And.intro qG.eq_1<|And.intro qG.eq_2<|And.intro X7.eq_1<|And.intro X7.eq_2<|And.intro wU.eq_1<|And.intro qK.eq_1<|And.intro Qz.eq_1<|And.intro gl.eq_1<|And.intro Qr.eq_1<|And.intro U5.eq_1 <|
 And.intro vu.eq_1<|And.intro jW.eq_1<|And.intro @Option.map_some.{0,0} <| And.intro @Option.map_none.{0,0} <| And.intro @EI.{0} @L7.{0}
open PySem PySem.Spec PyProof.Rows L2
theorem qg{K:W.Frag}{f:Str}:zt K [] f:=λx hx=>absurd hx (by simp)
theorem qf{K:W.Frag}{f c:Str}{C:Addr}{cs:List Str}(ns:W.nsIn K mainGlobals c=some (some (.ref C)))(cl:vk K C)(na:W.findIn K (.ref C) f=some none)(r:zt K cs f):zt K (c::cs) f:=λx hx C' ns'=>by
 rcases yl.mp hx with rfl|hx
 ·rw[ns]at ns';cases ns';exact⟨cl,na⟩
 ·exact r x hx C' ns'
def JK:List D->Option D
 | [.lst xs]=>(XF xs).bind λns=>match ns.all (λi=>decide (0<=i)&&decide (i<1099511627776))&&decide (ns.length<=1000)with
  |true=>some (.int ns.sum)
  |false=>none
 |_=>none
theorem CQ:∀{ns:List Int},(∀n∈ns,0<=n/\n<1099511627776)->0<=ns.sum/\ns.sum<=1099511627776*(ns.length:Int)
 | [],_=>⟨Int.le_refl _,by decide⟩
 |n::ns,h=>by
  obtain⟨a,b⟩:=CQ λm hm=>h m (xg _ hm)
  obtain⟨c,d⟩:=h n yr;rw[List.sum_cons,yP]
  constructor
  ·omega
  ·push_cast
   omega
theorem R7{K:W.Frag}:qc K (Fk K) JK:=λG H ds vs d Q s r hf q=>by
 match ds,hf with
 | [.lst xs],hf=>
  obtain⟨ns,hn,hf⟩:=zD (show(XF xs).bind _=some d from hf);cases c:(ns.all (λi=>decide (0<=i)&&decide (i<1099511627776))&&decide (ns.length<=1000))with
  |false=>rw[c]at hf; cases hf
  |true=>
   rw[c]at hf;cases hf;rw[yD]at c;have hl:=xE c.2
   have ha:∀n∈ns,0<=n/\n<1099511627776:=λn hm=>by
    have:=t9.mp c.1 n hm;rw[yD]at this;exact⟨xE this.1,xE this.2⟩
   obtain⟨v,rfl,a,us,rfl,sq,rs,l⟩:=u_ r;rw[BP hn rs]at sq;refine⟨a,ns,rfl,.inl sq,⟨λn hm=>?_,λk hk=>?_⟩,q _ _ _ (zN.refl s) rfl⟩
   ·have:=ha n hm
    constructor<;>omega
   ·have:=CQ (ns:=ns.take k) λn hm=>ha n (List.mem_of_mem_take hm)
    have l2:(ns.take k).length<=1000:=by rw[p_]; omega
    have l3:((ns.take k).length:Int)<=1000:=by exact_mod_cast l2
    constructor<;>omega
theorem U4:bootBuiltins "repr" = some (.builtin "repr"):=PyProof.Rows.bootS_repr
section
variable{X:Cx}{np:Nat}{x c:Str}{p pos pos':Pos}{e:Expr}{es:List Expr}{f:FE}{F:D->D->Option D}
end
open PyProof
def UP:D->Bool
 |.int i=>decide (0<=i)&&decide (i<100000000000000000000)
 |.bl _=>true
 |_=>false
def UM:List D->Option D
 | [d]=>match UP d with
  |true=>some (.str (xL d).shown)
  |false=>none
 |_=>none
def Fj(K:W.Frag):List V->Hp->VK->Prop:=λxs H Q=>∃d v,xs=[v]/\zS K H d v/\UP d=true/\Q (.str (xL d).shown) H
theorem Mf{X:Cx}{j:Nat}(hr:yI j X.A):xU X (.builtin "repr") (Fj X.K):=by
 intro z6 s σ H xs us Q I r h;obtain⟨d,v,rfl,rd,hd,q⟩:=h;obtain⟨u,rfl,rx⟩:=vg r;cases d with
 |int i=>
  cases(show v=.int i from rd);obtain⟨t,rfl⟩:=rx;have hd':(decide (0<=i)&&decide (i<100000000000000000000))=true:=hd;rw[yD]at hd';have h0:=xE hd'.1;have h1:=xE hd'.2
  have hb:i.natAbs.log2<1920:=by
   have:i.natAbs<2 ^ 70:=by
    have e:(2:Nat) ^ 70=1180591620717411303424:=by decide
    omega
   by_cases z:i.natAbs=0
   ·rw[z]; decide
   ·exact Tu ((W_ z).mpr this) (by decide)
  exact P.repr_of_int hb ⟨.str _,H,I.tok _,⟨_,rfl⟩,q⟩
 |bl b=>
  cases(show v=.bl b from rd);cases(show u=.bool b from rx);exact P.repr_of_bool ⟨.str _,H,I.tok _,⟨_,rfl⟩,by cases b<;>exact q⟩
 |_=>cases hd
theorem Db{K:W.Frag}:qc K (Fj K) UM:=λG H ds vs d Q s r hf q=>by
 match ds,hf with
 | [x],hf=>
  change (match UP x with|true=>some (D.str (xL x).shown)|false=>none)=some d at hf
  cases c:UP x with
  |false=>rw[c]at hf; cases hf
  |true=>
   rw[c]at hf;cases hf;obtain⟨v,rfl,rv⟩:=u_ r
   have w9:wD x<=20:=by
    cases x with
    |int i=>
     show(if(decide (0<=i)&&decide (i<100000000000000000000))=true then 20 else 1000000000)<=20;rw[zM (show(decide (0<=i)&&decide (i<100000000000000000000))=true from c)];exact yF _
    |bl b=>show 5<=20; decide
    |_=>cases c
   have sl:=OF x (by omega);refine⟨x,v,rfl,rv,c,q _ _ _ (zN.refl s) ⟨rfl,?_⟩⟩;rw[xi];omega
section
variable{X:Cx}{np:Nat}
def Us(i:Nat)(F:D->D->Option D)(h:yu):zw:=λβ=>(z7 i (uu β)).bind λx=>(h β).bind λr=>(uQ r.1).bind λy=>(F x y).bind λz=>some (.nx (r.2.set i (some (.fz z))))
theorem NW{x:Str}{pos pos':Pos}{e:Expr}{h:yu}{F:D->D->Option D}{i:Nat}{op:Operator}{ti:ZM}(ho:VO X op ti)(hF:vC X.K ti F)(hN:X.N.Nodup)(hi:X.N[i]?=some x)(hx:tM X.env.scope x)(hn:np<=i)(he:MC X e h)(hf:X.fn x=true\/X.env.scope.names.lookup x=some .local:=by first|exact .inl rfl|exact .inr rfl|assumption) :
  MS X np (.AugAssign (.Name x pos') op e pos) (Us i F h):=by
 obtain⟨t,pt,k⟩:=he.h;refine⟨⟨_,Dv hN hi hx pt ho hf,λ{P G0 H0 G H β σ fl E} hP K hf q=>?_⟩⟩;obtain⟨x,hx,hf⟩:=zD hf;obtain⟨⟨m,β1⟩,hk,hf⟩:=zD hf;obtain⟨y,ey,hf⟩:=zD hf;cases qH ey;obtain⟨z,hz,hf⟩:=zD hf;cases hf;obtain⟨v,ev,rv⟩:=K.k_.fr _ _ (J7 hx);refine⟨v,ev,k K hk λu G1 H1 s1 E1=>?_⟩;have r1:=E1.j7;have Ed:=E1.down K.lp;exact hF G1 H1 x y v u z _ Ed.ext.gh (rv.mono s1) r1 hz λw G2 H2 x2 r2=>q _ _ _ ((Ed.go x2).VA (yA.mp hi).1 (by omega) r2)
end
section
variable{P:Program}{w:World}{K:W.Frag}{mg:Str->Option Value}{base:Heap}
end
section
variable{X:Cx}{np:Nat}{scope:Scope}{cl:List (Str×Addr)}{own:List Str}{elt tg iter:Expr}{ifs:List Expr}{pos:Pos}{fs:FA}{g:TG}{fg:FG}{ft:FT}{f:FE}
end
end L3
namespace L2
open PySem PySem.Spec PyProof PyProof.Rows
end L2
namespace L3
open PySem PySem.Spec PyProof PyProof.Rows L2
section
variable{X:Cx}{x:Str}{pos pos':Pos}{e:Expr}{f:FE}{i:Nat}
end
end L3
local macro_rules
 | `(tactic| simp![$ls,*])=>`(tactic| simp only[L3.shx,Nat.reduceAdd,Nat.reduceSub,Int.reduceLT,Int.reduceLE,Int.reducePow,Int.reduceToNat,Int.reduceAdd,Int.reduceSub,Int.reduceMul,Int.reduceNeg,$ls,*])
namespace L3
open PySem
def BE:List D:=[(.int 0),(.int 8),(.int 16),(.int 24)]
def gw:D:=.tup BE
def UU:List D:=[(.str "carry"),(.str "nought"),(.str "sign")]
def gx:D:=.tup UU
def HH:List D:=[(.str "jump"),(.str "when"),(.str "unless")]
def JR:D:=.tup HH
theorem IL{g:FG}{c:FT}{e:FE}{σ:zp}(p:D->Bool)(v:D->D):∀{ds:List D},(∀d∈ds,∃σ1,g d σ=some σ1/\c σ1=some (p d)/\(p d=true->e σ1=some (v d)))->xJ g c e σ ds=some ((ds.filter p).map v)
 | [],_=>rfl
 |d::ds,h=>by
  obtain⟨σ1,e1,e2,e3⟩:=h d (yr ..);have ih:=IL p v (ds:=ds) λx hx=>h x (xg _ hx)
  show(g d σ).bind _=_;rw[e1];show(c σ1).bind _=_;rw[e2];cases hp:p d with
  |false=>
   rw[List.filter_cons_of_neg (by rw[hp]; decide)];exact ih
  |true=>
   rw[List.filter_cons_of_pos hp];show(e σ1).bind _=_;rw[e3 hp];show(xJ g c e σ ds).bind _=_;rw[ih];rfl
theorem Zt{g:FG}{e:FE}{σ:zp}(v:D->D){ds:List D}(h:∀d∈ds,∃σ1,g d σ=some σ1/\e σ1=some (v d)):xJ g xS e σ ds=some (ds.map v):=by
 have:=IL (g:=g) (c:=xS) (e:=e) (σ:=σ) (λ_=>true) v (ds:=ds) λd hd=>by
  obtain⟨σ1,a,b⟩:=h d hd;exact⟨σ1,a,rfl,λ_=>b⟩
 rw[this,E7.mpr (λ_ _=>rfl)]
def Zz:Nat->D->Bool
 |0,_=>false
 |n+1,.tup xs=>xs.all (Zz n)
 |n+1,.lst xs=>xs.all (Zz n)
 |_+1,d=>yz d
theorem Qu{f:D->D->Bool}:∀{xs:List D},(∀x∈xs,f x x=true)->ul f xs xs=true
 | [],_=>rfl
 |x::xs,h=>by
  show(f x x&&ul f xs xs)=true;rw[h x (yr ..),Qu λy hy=>h y (xg _ hy)];rfl
theorem Qy:∀{xs:List D},(∀x∈xs,xH x x=true)->dEqs xs xs=true
 | [],_=>by unfold dEqs; rfl
 |x::xs,h=>by
  unfold dEqs;rw[h x (yr ..),Qy λy hy=>h y (xg _ hy)];rfl
theorem XQ:∀(n:Nat)(d:D),Zz n d=true->wu n d d=true/\xH d d=true
 |0,_,h=>by cases h
 |n+1,d,h=>by
  cases d with
  |tup xs=>
   have h':∀x∈xs,Zz n x=true:=t9.mp h;exact⟨Qu λx hx=>(XQ n x (h' x hx)).1,by unfold xH; exact Qy λx hx=>(XQ n x (h' x hx)).2⟩
  |lst xs=>
   have h':∀x∈xs,Zz n x=true:=t9.mp h;exact⟨Qu λx hx=>(XQ n x (h' x hx)).1,by unfold xH; exact Qy λx hx=>(XQ n x (h' x hx)).2⟩
  |dic ks vs=>cases h
  |exc _=>cases h
  |obj _ _ _=>cases h
  |zG=>exact⟨rfl,by unfold xH; rfl⟩
  |bl b=>exact⟨rfl,by unfold xH; exact Yc b⟩
  |int i=>exact⟨rfl,by unfold xH; exact Yc i⟩
  |str z=>exact⟨rfl,by unfold xH; exact Yc z⟩
theorem eE{d:D}(h:Zz 6 d=true):jU d d=some true:=by
 obtain⟨h1,h2⟩:=XQ 6 d h
 have e:jU d d=match wu 6 d d with
  |true=>some (xH d d)
  |false=>none:=by cases d<;>rfl
 rw[e,h1,h2]
theorem add_int{i j:Int}:yq (.int i) (.int j)=some (.int (i+j)):=rfl
theorem Rj(x:Int)(w:Nat):Builtin.bitAnd x ((1:Int)*2 ^ w-1)=x%2 ^ w:=by
 rw[Wo,W.kbt_mask]
theorem b0(a:Nat):decide ((0:Int)<=(a:Int))=true:=yQ (kX a)
def M9:FS:=
 (z_ (xw (tE (e2 (jT λi j=>decide (i<j)) (z7 1) (eL gt (zA (z7 0) zH))))
   (yM (e2 zI (z7 0) (z7 1)))
   wf)
  (yM (eC (.int 0))))
theorem KO(ns:List Int)(k:Nat):(ns.map D.int)[k]?=(ns[k]?).map D.int:=vN
def xz(ns:List Int)(k:Int):Int:=ns.getD k.toNat 0
def vn:List D->Option (Bool×D)
 | [.lst xs,.int k]=>if 0<=k then((xs[k.toNat]?).getD (.int 0) |> λd=>some (false,d))else none
 |_=>none
theorem jR(ns:List Int){k:Int}(h:0<=k):vn [.lst (ns.map D.int),.int k]=some (false,.int (xz ns k)):=by
 show(if 0<=k then _ else _)=_;rw[zM h,KO];unfold xz;rw[qw];cases ns[k.toNat]?<;>rfl
theorem Ab:∀ds r,vn ds=some r->ds.length=2/\zg 2 M9 ds=some r:=λds r h=>by
 unfold vn at h
 split at h
 ·rename_i xs k;refine⟨rfl,?_⟩;by_cases h0:0<=k
  ·rw[zM h0]at h;cases h;unfold M9;by_cases c:k<(xs.length:Int)
   ·have e:zI (.lst xs) (.int k)=some ((xs[k.toNat]?).getD (.int 0)):=by
     show vT xs k=_;unfold vT;rw[zM h0,xD (by omega)];rfl
    simp![yQ c,e]
   ·have e:xs[k.toNat]?=none:=Wq (by omega);simp![v4 c,e,Option.getD]
  ·rw[zO h0]at h;cases h
 ·cases h
theorem eD{i:Int}{m:Nat}(h:wP i<=m):i.natAbs<2 ^ m:=by
 by_cases c:i=0
 ·subst c;exact Nat.pow_pos (by decide)
 ·have e:wP i=i.natAbs.log2+1:=by
   show(if(i==0)=true then 0 else i.natAbs.log2+1)=_;rw[zO (by simpa using c)]
  exact(W_ (by omega)).mp (by omega)
theorem Qm{i:Int}{m:Nat}(h:i.natAbs<2 ^ m):wP i<=m:=by
 by_cases c:i=0
 ·subst c;exact vy _
 ·have e:wP i=i.natAbs.log2+1:=by
   show(if(i==0)=true then 0 else i.natAbs.log2+1)=_;rw[zO (by simpa using c)]
  rw[e];exact(W_ (by omega)).mpr h
def Vw:FS:=
 (yM (e2 (tT Builtin.bitAnd) (e2 XB (z7 0) (z7 1)) (e2 pC (e2 vX (eC (.int 1)) (z7 2)) (eC (.int 1)))))
def wN:List D->Option (Bool×D):=FR 3 3 Vw
theorem An:∀ds r,wN ds=some r->ds.length=3/\zg 3 Vw ds=some r:=yU
theorem Hy(x0 x1 x2:D):wN [x0,x1,x2]=zg 3 Vw [x0,x1,x2]:=rfl
def M4:FS:=
 (z_ (w8 3 (e2 yq (e2 yq (z7 0) (z7 1)) (pB (tE (z7 2)) (eC (.int 1)) (eC (.int 0)))))
  (yM (uU (zA (e2 xN (z7 3) (eC (.int 4294967296))) (zA (e2 (jT λi j=>decide (j<=i)) (z7 3) (eC (.int 4294967296))) zH)))))
def Yl:List D->Option (Bool×D):=FR 3 4 M4
theorem AK:∀ds r,Yl ds=some r->ds.length=3/\zg 4 M4 ds=some r:=yU
def MI:FS:=
 (z_ (w8 3 (e2 pC (e2 pC (z7 0) (z7 1)) (pB (tE (z7 2)) (eC (.int 1)) (eC (.int 0)))))
  (z_ (xw (tE (e2 (jT λi j=>decide (i<j)) (z7 3) (eC (.int 0))))
   (yM (uU (zA (e2 yq (z7 3) (eC (.int 4294967296))) (zA (eC (.bl true)) zH))))
   wf)
  (yM (uU (zA (z7 3) (zA (eC (.bl false)) zH))))))
def VG:List D->Option (Bool×D):=FR 3 4 MI
theorem Ar:∀ds r,VG ds=some r->ds.length=3/\zg 4 MI ds=some r:=yU
def ME:FS:=
 (z_ (w8 2 (e2 vX (z7 0) (z7 1)))
  (z_ (w8 3 (pB (tE (e2 xI (z7 1) (eC (.int 0)))) (eC .zG) (e2 xI (zj wN (zA (z7 2) (zA (eC (.int 32)) (zA (eC (.int 1)) zH)))) (eC (.int 1)))))
  (yM (uU (zA (zj wN (zA (z7 2) (zA (eC (.int 0)) (zA (eC (.int 32)) zH)))) (zA (z7 3) zH))))))
def VD:List D->Option (Bool×D):=FR 2 4 ME
theorem Ak:∀ds r,VD ds=some r->ds.length=2/\zg 4 ME ds=some r:=yU
def MF:FS:=
 (z_ (w8 2 (pB (tE (e2 xI (z7 1) (eC (.int 0)))) (eC .zG) (e2 xI (zj wN (zA (z7 0) (zA (e2 pC (z7 1) (eC (.int 1))) (zA (eC (.int 1)) zH)))) (eC (.int 1)))))
  (yM (uU (zA (e2 XB (z7 0) (z7 1)) (zA (z7 2) zH)))))
def VE:List D->Option (Bool×D):=FR 2 3 MF
theorem Al:∀ds r,VE ds=some r->ds.length=2/\zg 3 MF ds=some r:=yU
def MJ:FS:=
 (z_ (w8 4 (e2 vX (e2 pC (e2 vX (eC (.int 1)) (z7 2)) (eC (.int 1))) (z7 1)))
  (yM (e2 (tT Builtin.bitOr) (e2 (tT Builtin.bitAnd) (z7 0) (e1 B2 (z7 4))) (e2 vX (z7 3) (z7 1)))))
def VH:List D->Option (Bool×D):=FR 4 5 MJ
theorem At:∀ds r,VH ds=some r->ds.length=4/\zg 5 MJ ds=some r:=yU
def Wl:FE:=(zj wN (zA (z7 0) (zA (z7 1) (zA (eC (.int 8)) zH))))
def Vk:FS:=
 (yM (eL gu (zA (vU 1 (vY (eC gw)) (yK 1) xS Wl) zH)))
def gJ:List D->Option (Bool×D):=FR 1 1 Vk
theorem AQ:∀ds r,gJ ds=some r->ds.length=1/\zg 1 Vk ds=some r:=yU
theorem HZ(x0:D):gJ [x0]=zg 1 Vk [x0]:=rfl
def Ob:FE:=(e2 vX (z7 1) (z7 2))
def U0:FS:=
 (yM (eL JK (zA (vU 2 (Zn (z7 0) (eC gw)) (qi 1 2) xS Ob) zH)))
def ZG:List D->Option (Bool×D):=FR 1 1 U0
theorem Av:∀ds r,ZG ds=some r->ds.length=1/\zg 1 U0 ds=some r:=yU
theorem KA(x0:D):ZG [x0]=zg 1 U0 [x0]:=rfl
def Vi:FS:=
 (yM (jS (z7 0) (z7 1) (eC (.int 0))))
def qb:List D->Option (Bool×D):=FR 2 2 Vi
theorem AN:∀ds r,qb ds=some r->ds.length=2/\zg 2 Vi ds=some r:=yU
theorem HX(x0 x1:D):qb [x0,x1]=zg 2 Vi [x0,x1]:=rfl
def Vh:FS:=
 (yM (zj wN (zA (e2 yq (z7 0) (z7 1)) (zA (eC (.int 0)) (zA (eC (.int 16)) zH)))))
def jD:List D->Option (Bool×D):=FR 2 2 Vh
theorem AM:∀ds r,jD ds=some r->ds.length=2/\zg 2 Vh ds=some r:=yU
theorem HW(x0 x1:D):jD [x0,x1]=zg 2 Vh [x0,x1]:=rfl
def Tc:FE:=(zj jD (zA (z7 0) (zA (z7 1) zH)))
def Vl:FS:=
 (qQ (vU 1 (uv (eC (.int 0)) (eC (.int 4))) (yK 1) xS Tc))
def q_:List D->Option (Bool×D):=FR 1 1 Vl
theorem AR:∀ds r,q_ ds=some r->ds.length=1/\zg 1 Vl ds=some r:=yU
theorem Hh(x0:D):q_ [x0]=zg 1 Vl [x0]:=rfl
def Te:FE:=(zj qb (zA (z7 0) (zA (z7 2) zH)))
def V_:FS:=
 (yM (zj ZG (zA (vU 1 (vY (vF q_ (zA (z7 1) zH))) (yK 2) xS Te) zH)))
def ZF:List D->Option (Bool×D):=FR 2 2 V_
theorem Au:∀ds r,ZF ds=some r->ds.length=2/\zg 2 V_ ds=some r:=yU
theorem K9(x0 x1:D):ZF [x0,x1]=zg 2 V_ [x0,x1]:=rfl
def Qj:zw:=
 (pL 0 [] (z7 1) (yR (zj wN (zA (z7 2) (zA (eC (.int 0)) (zA (eC (.int 8)) zH))))))
def gT:FM:=xr 3 3 Qj
theorem Hz(x0 x1 x2:M):gT [x0,x1,x2]=wU 3 3 Qj [x0,x1,x2]:=rfl
def Um:zw:=(vH (vE gT (vS 0 [] (xt (z7 3) (xt (z7 4) xv)))))
def Qk:zw:=
 (kB (Zn (vF q_ (zA (z7 1) zH)) (zj gJ (zA (z7 2) zH))) (jW 3 4)
   Um)
def Ys:FM:=xr 3 5 Qk
theorem H_(x0 x1 x2:M):Ys [x0,x1,x2]=wU 3 5 Qk [x0,x1,x2]:=rfl
def Cm:FE:=(uU (zA (z7 3) (zA (eC (.bl false)) zH)))
def QY:zw:=
 (y0 (uV 0 [] ["State"] "words" (jP (eL vW (zA (z7 1) zH))))
  (y0 (uV 0 [] ["State"] "truths" (jP (eL UD (zA (vU 1 (vY (eC gx)) (yK 3) xS Cm) zH))))
  (uV 0 [] ["State"] "held" (jP (eL UC (zA (z7 2) zH))))))
def Z5:FM:=xr 3 3 QY
theorem HU(x0 x1 x2:M):Z5 [x0,x1,x2]=wU 3 3 QY [x0,x1,x2]:=rfl
def Ex:zw:=
 (qM 0 [.at ["State"] "words"] (e2 zI (z7 1) (eC (.int 1))) (yR (e2 zI (z7 1) (eC (.int 2)))))
def QF:FM:=xr 2 2 Ex
def Ev:zw:=
 (qM 0 [.at ["State"] "words"] (e2 zI (z7 1) (eC (.int 1))) (vp (zj VH (zA (e2 zI (e1 (yT ["State"] "words") (z7 0)) (e2 zI (z7 1) (eC (.int 1)))) (zA (eC (.int 16)) (zA (eC (.int 16)) (zA (e2 zI (z7 1) (eC (.int 2))) zH)))))))
def QD:FM:=xr 2 2 Ev
def Eu:zw:=
 (qM 0 [.at ["State"] "words"] (e2 zI (z7 1) (eC (.int 1))) (vp (e2 zI (e1 (yT ["State"] "words") (z7 0)) (e2 zI (z7 1) (eC (.int 2))))))
def QC:FM:=xr 2 2 Eu
def MH:FS:=
 (z_ (xw (tE (e2 xI (z7 0) (eC (.str "add"))))
   (yM (zj Yl (zA (z7 1) (zA (z7 2) (zA (eC (.bl false)) zH)))))
   wf)
  (z_ (xw (tE (e2 xI (z7 0) (eC (.str "addc"))))
   (yM (zj Yl (zA (z7 1) (zA (z7 2) (zA (z7 3) zH)))))
   wf)
  (yM (zj VG (zA (z7 1) (zA (z7 2) (zA (ZT (z7 3) (e2 xI (z7 0) (eC (.str "subc")))) zH)))))))
def VF:List D->Option (Bool×D):=FR 4 4 MH
theorem Ap:∀ds r,VF ds=some r->ds.length=4/\zg 4 MH ds=some r:=yU
def Ez:zw:=
 (y0 (pL 0 [.at ["State"] "truths"] (eC (.str "nought")) (yR (e2 xI (z7 1) (eC (.int 0)))))
  (pL 0 [.at ["State"] "truths"] (eC (.str "sign")) (yR (e2 xI (zj wN (zA (z7 1) (zA (e2 pC (eC (.int 32)) (eC (.int 1))) (zA (eC (.int 1)) zH)))) (eC (.int 1))))))
def gS:FM:=xr 2 2 Ez
def Ey:zw:=
 (y0 (x_ 2 (vp (zj VF (zA (e2 zI (z7 1) (eC (.int 0))) (zA (e2 zI (e1 (yT ["State"] "words") (z7 0)) (e2 zI (z7 1) (eC (.int 1)))) (zA (e2 zI (e1 (yT ["State"] "words") (z7 0)) (e2 zI (z7 1) (eC (.int 2)))) (zA (e2 zI (e1 (yT ["State"] "truths") (z7 0)) (eC (.str "carry"))) zH)))))))
  (y0 (pL 0 [.at ["State"] "truths"] (eC (.str "carry")) (yR (e2 zI (z7 2) (eC (.int 1)))))
  (y0 (vH (vE gS (vS 0 [] (xt (e2 zI (z7 2) (eC (.int 0))) xv))))
  (ql (qt (tE (e2 qI (e2 zI (z7 1) (eC (.int 0))) (eC (.str "test")))))
   (qM 0 [.at ["State"] "words"] (e2 zI (z7 1) (eC (.int 1))) (yR (e2 zI (z7 2) (eC (.int 0)))))
   qm))))
def gL:FM:=xr 2 3 Ey
def M7:FS:=
 (z_ (xw (tE (e2 xI (z7 0) (eC (.str "and"))))
   (yM (e2 (tT Builtin.bitAnd) (z7 1) (z7 2)))
   wf)
  (z_ (xw (tE (e2 xI (z7 0) (eC (.str "or"))))
   (yM (e2 (tT Builtin.bitOr) (z7 1) (z7 2)))
   wf)
  (yM (e2 (tT Builtin.bitXor) (z7 1) (z7 2)))))
def VC:List D->Option (Bool×D):=FR 3 3 M7
theorem AY:∀ds r,VC ds=some r->ds.length=3/\zg 3 M7 ds=some r:=yU
def Et:zw:=
 (y0 (x_ 2 (vp (zj VC (zA (e2 zI (z7 1) (eC (.int 0))) (zA (e2 zI (e1 (yT ["State"] "words") (z7 0)) (e2 zI (z7 1) (eC (.int 1)))) (zA (e2 zI (e1 (yT ["State"] "words") (z7 0)) (e2 zI (z7 1) (eC (.int 2)))) zH))))))
  (y0 (vH (vE gS (vS 0 [] (xt (z7 2) xv))))
  (qM 0 [.at ["State"] "words"] (e2 zI (z7 1) (eC (.int 1))) (yR (z7 2)))))
def Ym:FM:=xr 2 3 Et
def Ew:zw:=
 (y0 (x_ 2 (vp (e2 zI (e1 (yT ["State"] "words") (z7 0)) (e2 zI (z7 1) (eC (.int 1))))))
  (y0 (x_ 3 (yR (pB (tE (e2 xI (e2 zI (z7 1) (eC (.int 0))) (eC (.str "left")))) (zj VD (zA (z7 2) (zA (e2 zI (z7 1) (eC (.int 2))) zH))) (zj VE (zA (z7 2) (zA (e2 zI (z7 1) (eC (.int 2))) zH))))))
  (y0 (ql (qt (tE (e2 JH (e2 zI (z7 3) (eC (.int 1))) (eC .zG))))
   (pL 0 [.at ["State"] "truths"] (eC (.str "carry")) (yR (e2 zI (z7 3) (eC (.int 1)))))
   qm)
  (y0 (vH (vE gS (vS 0 [] (xt (e2 zI (z7 3) (eC (.int 0))) xv))))
  (qM 0 [.at ["State"] "words"] (e2 zI (z7 1) (eC (.int 1))) (yR (e2 zI (z7 3) (eC (.int 0)))))))))
def VB:FM:=xr 2 4 Ew
def Vg:FS:=
 (yM (zj jD (zA (e2 zI (e1 (yT ["State"] "words") (z7 0)) (e2 zI (z7 1) (eC (.int 2)))) (zA (e2 zI (z7 1) (eC (.int 3))) zH))))
def tK:List D->Option (Bool×D):=FR 2 2 Vg
theorem AL:∀ds r,tK ds=some r->ds.length=2/\zg 2 Vg ds=some r:=yU
theorem HV(x0 x1:D):tK [x0,x1]=zg 2 Vg [x0,x1]:=rfl
def QZ:zw:=
 (qM 0 [.at ["State"] "words"] (e2 zI (z7 1) (eC (.int 1))) (vp (zj qb (zA (e1 (yT ["State"] "held") (z7 0)) (zA (zj tK (zA (z7 0) (zA (z7 1) zH))) zH)))))
def Yn:FM:=xr 2 2 QZ
theorem Hc(x0 x1:M):Yn [x0,x1]=wU 2 2 QZ [x0,x1]:=rfl
def Qa:zw:=
 (qM 0 [.at ["State"] "words"] (e2 zI (z7 1) (eC (.int 1))) (vp (zj ZF (zA (e1 (yT ["State"] "held") (z7 0)) (zA (zj tK (zA (z7 0) (zA (z7 1) zH))) zH)))))
def Yo:FM:=xr 2 2 Qa
theorem Hd(x0 x1:M):Yo [x0,x1]=wU 2 2 Qa [x0,x1]:=rfl
def Qc:zw:=
 (vH (vE gT (vS 0 [.at ["State"] "held"] (ZN (zj tK (zA (z7 0) (zA (z7 1) zH))) (ZN (e2 zI (e1 (yT ["State"] "words") (z7 0)) (e2 zI (z7 1) (eC (.int 1)))) xv)))))
def Yp:FM:=xr 2 2 Qc
theorem Hf(x0 x1:M):Yp [x0,x1]=wU 2 2 Qc [x0,x1]:=rfl
def Qd:zw:=
 (vH (vE Ys (vS 0 [.at ["State"] "held"] (ZN (zj tK (zA (z7 0) (zA (z7 1) zH))) (ZN (e2 zI (e1 (yT ["State"] "words") (z7 0)) (e2 zI (z7 1) (eC (.int 1)))) xv)))))
def Yq:FM:=xr 2 2 Qd
theorem Hg(x0 x1:M):Yq [x0,x1]=wU 2 2 Qd [x0,x1]:=rfl
def ZS:List (Sum Int Str):=List.map .inr ["set", "high", "copy", "add", "addc", "sub", "subc", "test", "and", "or", "xor", "left", "right", "load", "loadw", "store", "storew"]
def Mv:List Str:=["do_set", "do_high", "do_copy", "do_sum", "do_sum", "do_sum", "do_sum", "do_sum", "do_bits", "do_bits", "do_bits", "do_move", "do_move", "do_load", "do_loadw", "do_store", "do_storew"]
def Mr:List FM:=[QF,QD,QC,gL,gL,gL,gL,gL,Ym,Ym,Ym,VB,VB,Yn,Yo,Yp,Yq]
def Qb:zw:=
 (ql (qt (tE (e1 (JC ZS) (e2 zI (z7 1) (eC (.int 0))))))
   (vH (Qs ZS Mr (e2 zI (z7 1) (eC (.int 0))) (vS 0 [] (xt (z7 1) xv))))
   qm)
def gK:FM:=xr 2 2 Qb
theorem He(x0 x1:M):gK [x0,x1]=wU 2 2 Qb [x0,x1]:=rfl
def MB:FS:=
 (z_ (xw (tE (e2 xI (e2 zI (z7 1) (eC (.int 0))) (eC (.str "when"))))
   (yM (e2 zI (e1 (yT ["State"] "truths") (z7 0)) (e2 zI (z7 1) (eC (.int 1)))))
   wf)
  (z_ (xw (tE (e2 xI (e2 zI (z7 1) (eC (.int 0))) (eC (.str "unless"))))
   (yM (J5 (e2 zI (e1 (yT ["State"] "truths") (z7 0)) (e2 zI (z7 1) (eC (.int 1))))))
   wf)
  (yM (e2 xI (e2 zI (z7 1) (eC (.int 0))) (eC (.str "jump"))))))
def ZC:List D->Option (Bool×D):=FR 2 2 MB
theorem Ai:∀ds r,ZC ds=some r->ds.length=2/\zg 2 MB ds=some r:=yU
def Vd:FS:=
 (yM (J6 (e2 xI (e1 (yT ["RowMachine"] "due") (z7 0)) (e1 (yT ["RowMachine"] "end") (z7 0))) (e2 xI (e2 zI (e2 zI (e1 (yT ["RowMachine"] "table") (z7 0)) (e1 (yT ["RowMachine"] "due") (z7 0))) (eC (.int 0))) (uU (zA (eC (.str "stop")) zH)))))
def vm:List D->Option (Bool×D):=FR 1 1 Vd
theorem AI:∀ds r,vm ds=some r->ds.length=1/\zg 1 Vd ds=some r:=yU
theorem HQ(x0:D):vm [x0]=zg 1 Vd [x0]:=rfl
def Ve:zw:=
 (y0 (ql (qt (tE (zj vm (wO "RowMachine" "stands" (z7 0) zH))))
   (pM (yR (eC (.bl false))))
   qm)
  (y0 (x_ 1 (vp (e2 zI (e1 (yT ["RowMachine"] "table") (z7 0)) (e1 (yT ["RowMachine"] "due") (z7 0)))))
  (y0 (vH (vE gK (vS 0 [.at ["RowMachine"] "state"] (xt (e2 zI (z7 1) (eC (.int 0))) xv))))
  (y0 (uV 0 [] ["RowMachine"] "due" (vp (pB (tE (zj ZC (zA (e1 (yT ["RowMachine"] "state") (z7 0)) (zA (e2 zI (z7 1) (eC (.int 0))) zH)))) (e2 zI (z7 1) (eC (.int 2))) (e2 zI (z7 1) (eC (.int 1))))))
  (y0 (IQ 0 [] ["RowMachine"] "done" (eC (.int 1)))
  (pM (yR (eC (.bl true)))))))))
def tJ:FM:=xr 1 2 Ve
theorem BF(x0:M):tJ [x0]=wU 1 2 Ve [x0]:=rfl
abbrev Ec:List (Sum Int Str):=[.inr "carry",.inr "nought",.inr "sign"]
def jn(a b c:Bool):D:=.dic Ec [.bl a,.bl b,.bl c]
def st(ws:List D)(a b c:Bool)(hk:List (Sum Int Str))(hv:List D):M:=.obj "State" ["words", "truths", "held"] [.own (.lst ws),.own (jn a b c),.own (.dic hk hv)]
def vq(ws:List D)(a b c:Bool)(hk:List (Sum Int Str))(hv:List D):D:=.obj "State" ["words", "truths", "held"] [.lst ws,jn a b c,.dic hk hv]
abbrev gY:List Str:=["table", "end", "first_words", "first_held", "state", "due", "done"]
def wH(T:D)(e:Int)(fw fh:D)(s:M)(due done:Int):M:=.obj "RowMachine" gY [.fz T,.fz (.int e),.fz fw,.fz fh,s,.fz (.int due),.fz (.int done)]
def wF(T:D)(e:Int)(fw fh:D)(s:D)(due done:Int):D:=.obj "RowMachine" gY [T,.int e,fw,fh,s,.int due,.int done]
section
variable{ws ws':List D}{a b c d':Bool}{hk hk':List (Sum Int Str)}{hv hv':List D}{T fw fh sd:D}{e due done:Int}{s s':M}
theorem pq:wA (st ws a b c hk hv)=vq ws a b c hk hv:=by simp only[st,vq,wA,thaws]
theorem YN:wA (wH T e fw fh s due done)=wF T e fw fh (wA s) due done:=by simp only[wH,wF,wA,thaws]
theorem M1:uR (st ws a b c hk hv) [.at ["State"] "words"]=some (.own (.lst ws)):=rfl
theorem Lz:uR (st ws a b c hk hv) [.at ["State"] "held"]=some (.own (.dic hk hv)):=rfl
theorem FP:uD (st ws a b c hk hv) [.at ["State"] "words"] (.own (.lst ws'))=some (st ws' a b c hk hv):=rfl
theorem FK:uD (st ws a b c hk hv) [.at ["State"] "held"] (.own (.dic hk' hv'))=some (st ws a b c hk' hv'):=rfl
theorem UO:yT ["State"] "words" (vq ws a b c hk hv)=some (.lst ws):=rfl
theorem HA:yT ["State"] "truths" (vq ws a b c hk hv)=some (jn a b c):=rfl
theorem UN:yT ["State"] "held" (vq ws a b c hk hv)=some (.dic hk hv):=rfl
theorem d7:zI (jn a b c) (.str "carry")=some (.bl a):=rfl
theorem d8:zI (jn a b c) (.str "nought")=some (.bl b):=rfl
theorem d9:zI (jn a b c) (.str "sign")=some (.bl c):=rfl
theorem L_:uR (wH T e fw fh s due done) [.at ["RowMachine"] "state"]=some s:=rfl
theorem FN:uD (wH T e fw fh s due done) [.at ["RowMachine"] "state"] s'=some (wH T e fw fh s' due done):=rfl
theorem JL:yT ["RowMachine"] "table" (wF T e fw fh sd due done)=some T:=rfl
theorem B3:yT ["RowMachine"] "end" (wF T e fw fh sd due done)=some (.int e):=rfl
theorem ZV:yT ["RowMachine"] "state" (wF T e fw fh sd due done)=some sd:=rfl
theorem XC:yT ["RowMachine"] "due" (wF T e fw fh sd due done)=some (.int due):=rfl
theorem G_:yT ["RowMachine"] "done" (wF T e fw fh sd due done)=some (.int done):=rfl
theorem B4{d2:Int}{zf:zk}:tf (.fz (.int d2)) (some (wH T e fw fh s due done)::zf) 0 [] ["RowMachine"] "due" = some (.nx (some (wH T e fw fh s d2 done)::zf)):=rfl
theorem M3{zf:zk}:IQ 0 [] ["RowMachine"] "done" (eC (.int 1)) (some (wH T e fw fh s due done)::zf)=some (.nx (some (wH T e fw fh s due (done+1))::zf)):=rfl
theorem VR{m:Str}{fo:FE}{fs:FA}{τ:zp}{ds:List D}(h:fo τ=some (wF T e fw fh sd due done))(hm:m ∉ gY)(h2:fs τ=some ds):wO "RowMachine" m fo fs τ=some (wF T e fw fh sd due done::ds):=by
 unfold wO;rw[h];show(match decide (("RowMachine" : Str) = "RowMachine")&&!(decide (m∈gY))with|true=>_|false=>_)=_;rw[yQ (show("RowMachine" : Str) = "RowMachine" from rfl),v4 hm];show(fs τ).bind _=_;rw[h2];rfl
end
def wI(ns:List Int):List D:=ns.map D.int
theorem Ta{ns:List Int}{k:Nat}{v:Int}:(wI ns).set k (.int v)=wI (ns.set k v):=(List.map_set ..).symm
theorem YO{ns:List Int}:(wI ns).length=ns.length:=zm ..
theorem Ui{n k:Nat}(h:k<n):L2.ixN n (k:Int)=some k:=by
 unfold L2.ixN;rw[zM (kX k)];simp[h]
theorem tY{ns:List Int}{k:Nat}{v:Int}(h:ns[k]?=some v):zI (.lst (wI ns)) (.int (k:Int))=some (.int v):=by
 show vT (wI ns) (k:Int)=_;unfold vT;rw[zM (kX k)];show(wI ns)[((k:Int)).toNat]?=_;rw[tw];unfold wI;rw[vN,h];rfl
theorem Mu{T fw fh sd:D}{e due done:Int}{τ:zp}:z7 0 (some (false,wF T e fw fh sd due done)::τ)=some (wF T e fw fh sd due done):=rfl
theorem TK{T fw fh sd row nx tg:D}{e due done:Int}{k:Bool}(h:due≠e->zI T (.int due)=some (.tup [row,nx,tg])/\xI row (.tup [.str "stop"])=some (.bl k)) :
  vm [wF T e fw fh sd due done]=some (false,.bl (decide (due=e)||k))\/due=e/\vm [wF T e fw fh sd due done]=some (false,.bl true):=by
 have e0:∀{i j:Int},xI (.int i) (.int j)=some (.bl (decide (i=j))):=λ{i j}=>by
  show some (D.bl (i==j))=_;rw[show(i==j)=decide (i=j)from rfl]
 have t0:∀{x y z:D},zI (.tup [x,y,z]) (.int 0)=some x:=rfl;rw[HQ];unfold Vd;by_cases c:due=e
 ·right
  refine⟨c,?_⟩;simp![XC,B3,e0,c,vj]
 ·left
  obtain⟨h1,h2⟩:=h c;have c2:decide (due=e)=false:=v4 c;rw[c2];simp![XC,B3,JL,e0,c2,h1,t0,h2];rfl
theorem CM{T fw fh row tg:D}{e due done:Int}{s s':M}{nx:D}{d2:Int}(hne:due≠e)(hT:zI T (.int due)=some (.tup [row,nx,tg]))(hs:xI row (.tup [.str "stop"])=some (.bl false))(tp:vM (.tup [row,nx,tg])=true)(ns:∀d,s≠.fz d)
  (hr:gK [s,.fz row]=some ([s',.fz row],.fz .zG))(ld:Bool)(hl:ZC [wA s',row]=some (false,.bl ld))(hd:(if ld then tg else nx)=.int d2) :
  tJ [wH T e fw fh s due done]=some ([wH T e fw fh s' d2 (done+1)],.fz (.bl true)):=by
 have h1:vm [wF T e fw fh (wA s) due done]=some (false,.bl false):=by
  rcases TK (T:=T) (fw:=fw) (fh:=fh) (sd:=wA s) (row:=row) (nx:=nx) (tg:=tg) (e:=e) (due:=due) (done:=done) (k:=false) λ_=>⟨hT,hs⟩with z|⟨z,_⟩
  ·rw[z,v4 hne];rfl
  ·exact absurd z hne
 have t0:∀{x y z:D},zI (.tup [x,y,z]) (.int 0)=some x:=rfl;have t1:∀{x y z:D},zI (.tup [x,y,z]) (.int 1)=some y:=rfl;have t2:∀{x y z:D},zI (.tup [x,y,z]) (.int 2)=some z:=rfl
 have hn:p9 s 0 [.at ["RowMachine"] "state"]=.p 0 [.at ["RowMachine"] "state"]:=by
  cases s with
  |fz d=>exact absurd rfl (ns d)
  |_=>rfl
 have hself:∀τ:zp,wO "RowMachine" "stands" (z7 0) zH (some (false,wF T e fw fh (wA s) due done)::τ)=some [wF T e fw fh (wA s) due done]:=λτ=>VR Mu (by decide +kernel) rfl
 rw[BF];unfold Ve;cases ld with
 |false=>
  have hd':nx=.int d2:=hd;subst hd';simp![xc,YN,hself,h1,JL,XC,hT,tp,t0,t1,t2,L_,FN,hn,hr,ZV,hl,B4,M3]
 |true=>
  have hd':tg=.int d2:=hd;subst hd';simp![xc,YN,hself,h1,JL,XC,hT,tp,t0,t1,t2,L_,FN,hn,hr,ZV,hl,B4,M3]
theorem bc{T fw fh:D}{e done:Int}{s:M}:tJ [wH T e fw fh s e done]=some ([wH T e fw fh s e done],.fz (.bl false)):=by
 have h1:vm [wF T e fw fh (wA s) e done]=some (false,.bl true):=by
  rcases TK (T:=T) (fw:=fw) (fh:=fh) (sd:=wA s) (row:=.zG) (nx:=.zG) (tg:=.zG) (e:=e) (due:=e) (done:=done) (k:=true) λz=>absurd rfl z with z|⟨_,z⟩
  ·rw[z,yQ rfl];rfl
  ·exact z
 have hself:∀τ:zp,wO "RowMachine" "stands" (z7 0) zH (some (false,wF T e fw fh (wA s) e done)::τ)=some [wF T e fw fh (wA s) e done]:=λτ=>VR Mu (by decide +kernel) rfl
 rw[BF];unfold Ve;simp![xc,YN,hself,h1]
theorem Gp{x y:D}:zI (.tup [x,y]) (.int 0)=some x:=rfl
theorem Gq{x y:D}:zI (.tup [x,y]) (.int 1)=some y:=rfl
theorem eq_int{i j:Int}:xI (.int i) (.int j)=some (.bl (decide (i=j))):=by
 show some (D.bl (i==j))=_;rw[show(i==j)=decide (i=j)from rfl]
theorem Km{x:Str}:wb (.str x)=some (.inr x):=rfl
section
variable{Ws:List Int}{a b c:Bool}{hk:List (Sum Int Str)}{hv:List D}
theorem YM{ws:List D}:∀d,st ws a b c hk hv≠.fz d:=λd h=>by cases h
end
def Vr:FS:=
 (z_ (w8 2 (e2 xN (e2 XA (e2 yq (z7 0) (e2 uo (eC (.int 7919)) (z7 1))) (eC (.int 48271))) (eC (.int 2147483647))))
  (yM (e2 xN (e2 yq (e2 yq (e2 X9 (z7 2) (z7 2)) (e2 uo (eC (.int 7)) (z7 2))) (z7 1)) (eC (.int 2147483629)))))
def wt:List D->Option (Bool×D):=FR 2 3 Vr
theorem Ae:∀ds r,wt ds=some r->ds.length=2/\zg 3 Vr ds=some r:=yU
theorem Hr(x0 x1:D):wt [x0,x1]=zg 3 Vr [x0,x1]:=rfl
def Vt:FS:=
 (z_ (w8 2 (e2 xN (zj wt (zA (z7 0) (zA (e2 uo (eC (.int 2)) (z7 1)) zH))) (eC (.int 8))))
  (z_ (w8 3 (zj wt (zA (z7 0) (zA (e2 yq (e2 uo (eC (.int 2)) (z7 1)) (eC (.int 1))) zH))))
  (z_ (w8 4 (wZ (zA (eC (.int 0)) (zA (eC (.int 4294967295)) (zA (eC (.int 2147483648)) (zA (eC (.int 1)) (zA (e2 xN (z7 3) (eC (.int 7))) (zA (e2 yq (eC (.int 65530)) (e2 xN (z7 3) (eC (.int 12)))) zH))))))))
  (yM (e2 zI (e2 yq (z7 4) (wZ (zA (e2 xN (e2 XA (z7 3) (eC (.int 7))) (eC (.int 4294967296))) (zA (e2 xN (e2 XA (z7 3) (eC (.int 5))) (eC (.int 4294967296))) zH)))) (z7 2))))))
def ZB:List D->Option (Bool×D):=FR 2 5 Vt
theorem Ag:∀ds r,ZB ds=some r->ds.length=2/\zg 5 Vt ds=some r:=yU
theorem Hv(x0 x1:D):ZB [x0,x1]=zg 5 Vt [x0,x1]:=rfl
def OY:FE:=(zj ZB (zA (z7 0) (zA (z7 1) zH)))
def Vu:FS:=
 (qQ (vU 1 (uv (eC (.int 0)) (eC (.int 8))) (yK 1) xS OY))
def jG:List D->Option (Bool×D):=FR 1 1 Vu
theorem Ah:∀ds r,jG ds=some r->ds.length=1/\zg 1 Vu ds=some r:=yU
theorem Hw(x0:D):jG [x0]=zg 1 Vu [x0]:=rfl
def O2:FA:=(uv (eC (.int 0)) (e2 xN (zj wt (zA (z7 0) (zA (eC (.int 40)) zH))) (eC (.int 7))))
def Cn:FE:=(e2 zI (z7 5) (eC (.int 0)))
def Ul:FS:=(z_ (w8 3 (zj wt (zA (z7 0) (zA (e2 yq (eC (.int 50)) (z7 2)) zH))))
    (z_ (w8 4 (e2 zI (wZ (zA (e2 xN (z7 3) (eC (.int 9))) (zA (e2 yq (eC (.int 65527)) (e2 xN (z7 3) (eC (.int 9)))) (zA (e2 xN (z7 3) (eC (.int 65536))) zH)))) (e2 xN (zj wt (zA (z7 0) (zA (e2 yq (eC (.int 60)) (z7 2)) zH))) (eC (.int 3)))))
    (xw (TM (tE (e2 UJ (z7 4) (vU 1 (vY (z7 1)) (yK 5) xS Cn))))
     (Xc 1 X8 (uU (zA (z7 4) (zA (e2 zI (wZ (zA (e2 xN (zj wt (zA (z7 0) (zA (e2 yq (eC (.int 70)) (z7 2)) zH))) (eC (.int 256))) (zA (eC (.int 0)) (zA (eC (.int 255)) zH)))) (e2 xN (zj wt (zA (z7 0) (zA (e2 yq (eC (.int 80)) (z7 2)) zH))) (eC (.int 3)))) zH))))
     wf)))
def Vs:FS:=
 (z_ (jj 1 (wZ zH))
  (z_ (jh O2 (yK 2)
   Ul)
  (ji 1)))
def jF:List D->Option (Bool×D):=FR 1 5 Vs
theorem Af:∀ds r,jF ds=some r->ds.length=1/\zg 5 Vs ds=some r:=yU
theorem Hs(x0:D):jF [x0]=zg 5 Vs [x0]:=rfl
theorem qN(c k:Int):∃v:Int,wt [.int c,.int k]=some (false,.int v)/\0<=v/\v<2147483629:=by
 have q0:=Int.emod_nonneg ((c+7919*k)*48271) (show(2147483647:Int)≠0 by decide);have q1:=E4 ((c+7919*k)*48271) (show(0:Int)<2147483647 by decide);have l1:vZ 7919=true/\vZ 48271=true/\vZ 7=true:=⟨by decide,by decide,by decide⟩
 have b:wP ((c+7919*k)*48271%2147483647)<=40:=by
  have e:(2:Nat) ^ 40=1099511627776:=by decide
  exact Qm (by omega)
 have e3:decide (wP ((c+7919*k)*48271%2147483647)+wP ((c+7919*k)*48271%2147483647)<=134217728)=true:=yQ (by omega);refine⟨((c+7919*k)*48271%2147483647*((c+7919*k)*48271%2147483647)+7*((c+7919*k)*48271%2147483647)+k)%2147483629,?_,Int.emod_nonneg _ (by decide),E4 _ (by decide)⟩;rw[Hr];unfold Vr;simp![l1,add_int,X9,e3,vj]
theorem dt(c k:Int):∃w:Int,ZB [.int c,.int k]=some (false,.int w)/\0<=w/\w<4294967296:=by
 obtain⟨v,e1,v0,v1⟩:=qN c (2*k);obtain⟨u,e2,u0,u1⟩:=qN c (2*k+1);have l1:vZ 2=true/\vZ 7=true/\vZ 5=true:=⟨by decide,by decide,by decide⟩
 have key:∃w:Int,zI (.lst [.int 0,.int 4294967295,.int 2147483648,.int 1,.int (u%7),.int (65530+u%12),.int (u*7%4294967296),.int (u*5%4294967296)]) (.int (v%8))=some (.int w)/\0<=w/\w<4294967296:=by
  rcases(show v%8=0\/v%8=1\/v%8=2\/v%8=3\/v%8=4\/v%8=5\/v%8=6\/v%8=7 by omega)with h|h|h|h|h|h|h|h<;>rw[h]<;>exact⟨_,rfl,by omega,by omega⟩
 obtain⟨w,ew,w0,w1⟩:=key;refine⟨w,?_,w0,w1⟩;have cat:yq (.lst [.int 0,.int 4294967295,.int 2147483648,.int 1,.int (u%7),.int (65530+u%12)]) (.lst [.int (u*7%4294967296),.int (u*5%4294967296)])=some (.lst [.int 0,.int 4294967295,.int 2147483648,.int 1,.int (u%7),.int (65530+u%12),.int (u*7%4294967296),.int (u*5%4294967296)]):=rfl;rw[Hv];unfold Vt;simp![l1,add_int,e1,e2,cat,ew,vj]
theorem Be{g:FG}{e:FE}{σ:zp}(P:Int->Prop):∀{ds:List D},(∀d∈ds,∃σ1 v,g d σ=some σ1/\e σ1=some (.int v)/\P v)->∃vs:List Int,xJ g xS e σ ds=some (wI vs)/\vs.length=ds.length/\∀v∈vs,P v
 | [],_=>⟨[],rfl,rfl,λ_ h=>absurd h (by simp)⟩
 |d::ds,h=>by
  obtain⟨σ1,v,e1,e2,p⟩:=h d (yr ..);obtain⟨vs,e3,l,q⟩:=Be P λd' hd=>h d' (xg _ hd)
  refine⟨v::vs,?_,by rw[yP,yP,l],λx hx=>?_⟩
  ·simp only[xJ,e1,xS,tD,e2,e3];rfl
  ·rcases yl.mp hx with rfl|hx
   ·exact p
   ·exact q x hx
theorem Cl(c:Int):∃Ws:List Int,jG [.int c]=some (true,.lst (wI Ws))/\Ws.length=8/\∀w∈Ws,0<=w/\w<4294967296:=by
 have r8:uv (eC (.int 0)) (eC (.int 8)) [some (false,.int c)]=some (yk 8):=kM (n:=8) rfl (by decide)
 obtain⟨vs,e,l,p⟩:=Be (g:=yK 1) (e:=OY) (σ:=[some (false,.int c),none]) (λw=>0<=w/\w<4294967296) (ds:=yk 8) λd hd=>by
  obtain⟨k,_,rfl⟩:=vh.mp hd;obtain⟨w,ew,w0,w1⟩:=dt c k;refine⟨_,w,rfl,?_,w0,w1⟩;unfold OY;simp![ew]
 refine⟨vs,?_,l,p⟩;rw[Hw];unfold Vu;simp![r8,e]
def pD(p:Int×Int):D:=.tup [.int p.1,.int p.2]
structure xW(ps:List (Int×Int)):Prop where
 ad:∀p∈ps,0<=p.1/\p.1<65536
 vA:∀p∈ps,0<=p.2/\p.2<256
 nd:(ps.map (·.1)).Nodup
theorem KN(x:Int):∀(ys:List Int),UE (.int x) (.lst (wI ys))=some (decide (x∈ys)):=λys=>by
 have h1:(yz (.int x)&&(wI ys).all yz)=true:=by
  rw[yD];refine⟨rfl,t9.mpr λd hd=>?_⟩;obtain⟨y,_,rfl⟩:=vh.mp hd;rfl
 show(match yz (.int x)&&(wI ys).all yz with|true=>some ((wI ys).any λy=>xH y (.int x))|false=>none)=_;rw[h1];show some ((wI ys).any λy=>xH y (.int x))=_
 congr 1
 unfold wI;rw[To,ju];rw[Tz,List.any_eq_true]
 constructor
 ·rintro⟨y,hy,e⟩;have e':(y==x)=true:=e;rw[kl]at e';exact e'▸hy
 ·intro h;exact⟨x,h,(Yc x:(x==x)=true)⟩
theorem Dl(c:Int):∃ps,jF [.int c]=some (true,.lst (ps.map pD))/\xW ps/\ps.length<=6:=by
 obtain⟨n,e0,n0,n1⟩:=qN c 40
 have hr:O2 [some (false,.int c),some (true,.lst []),none,none,none]=some (yk (n%7).toNat):=by
  unfold O2;refine kM (n:=n%7) ?_ (by omega);simp![e0,vj]
 obtain⟨σ',e1,ps,x2,x3,x4,l,P,rfl⟩:=kA (g:=yK 2) (b:=Ul) (λi σ=>∃(ps:List (Int×Int)) (x2 x3 x4:Option Sl),ps.length<=i/\xW ps/\σ=[some (false,.int c),some (true,.lst (ps.map pD)),x2,x3,x4])
  (ds:=yk (n%7).toNat) (σ:=[some (false,.int c),some (true,.lst []),none,none,none]) 0 ⟨[],none,none,none,yF _,⟨λ_ h=>absurd h (by simp),λ_ h=>absurd h (by simp),List.nodup_nil⟩,rfl⟩ λi d σ hd hp=>by
   obtain⟨ps,x2,x3,x4,l,P,rfl⟩:=hp;rw[vi]at l ⊢;obtain⟨k,_,rfl⟩:=vh.mp (Tq hd);obtain⟨v,ev,v0,v1⟩:=qN c (50+k);obtain⟨v6,e6,_,_⟩:=qN c (60+k);obtain⟨v7,e7,_,_⟩:=qN c (70+k);obtain⟨v8,e8,_,_⟩:=qN c (80+k)
   obtain⟨ad,ea,a0,a1⟩:∃ad:Int,zI (.lst [.int (v%9),.int (65527+v%9),.int (v%65536)]) (.int (v6%3))=some (.int ad)/\0<=ad/\ad<65536:=by
    rcases(show v6%3=0\/v6%3=1\/v6%3=2 by omega)with h|h|h<;>rw[h]<;>exact⟨_,rfl,by omega,by omega⟩
   obtain⟨bt,eb,b0,b1⟩:∃bt:Int,zI (.lst [.int (v7%256),.int 0,.int 255]) (.int (v8%3))=some (.int bt)/\0<=bt/\bt<256:=by
    rcases(show v8%3=0\/v8%3=1\/v8%3=2 by omega)with h|h|h<;>rw[h]<;>exact⟨_,rfl,by omega,by omega⟩
   have em:xJ (yK 5) xS Cn [some (false,.int c),some (false,.lst (ps.map pD)),some (false,.int (k:Int)),some (false,.int v),some (false,.int ad),none] (ps.map pD)=some ((ps.map pD).map λd=>match d with|.tup [x,_]=>x|d=>d):=Zt (λd=>match d with|.tup [x,_]=>x|d=>d) λd hd=>by
    obtain⟨p,_,rfl⟩:=vh.mp hd;exact⟨_,rfl,rfl⟩
   have em2:((ps.map pD).map λd=>match d with|.tup [x,_]=>x|d=>d)=wI (ps.map (·.1)):=by
    unfold wI;rw[ke,ke];rfl
   rw[em2]at em;have ei:=KN ad (ps.map (·.1));by_cases cc:ad∈ps.map (·.1)
   ·refine⟨_,[some (false,.int c),some (true,.lst (ps.map pD)),some (false,.int (k:Int)),some (false,.int v),some (false,.int ad)],rfl,.inl ?_,ps,_,_,_,by omega,P,rfl⟩;unfold Ul;rw[yQ cc]at ei;simp![add_int,ev,e6,ea,vj,TM,UQ,tU,em,UJ,ei]
   ·refine⟨_,[some (false,.int c),some (true,.lst ((ps++[(ad,bt)]).map pD)),some (false,.int (k:Int)),some (false,.int v),some (false,.int ad)],rfl,.inl ?_,ps++[(ad,bt)],_,_,_,?_,?_,rfl⟩
    ·unfold Ul;rw[v4 cc]at ei
     have ap:X8 (.lst (ps.map pD)) (.tup [.int ad,.int bt])=some (.lst ((ps++[(ad,bt)]).map pD)):=by
      show(if(ps.map pD).length<yY then some (D.lst (ps.map pD++[.tup [.int ad,.int bt]]))else none)=_;have hlt:i<(yk (n%7).toNat).length:=(yA.mp hd).1;have hlu:(yk (n%7).toNat).length=(n%7).toNat:=by simp[yk]
      rw[zM (by rw[zm]; show _<16777216; omega),tz];rfl
     simp![add_int,ev,e6,ea,vj,TM,UQ,tU,em,UJ,ei,e7,e8,eb,ap]
    ·rw[yO];show ps.length+1<=_;omega
    ·refine⟨λp hp=>?_,λp hp=>?_,?_⟩
     ·rcases j1.mp hp with hp|hp
      ·exact P.ad p hp
      ·cases j2.mp hp;exact⟨a0,a1⟩
     ·rcases j1.mp hp with hp|hp
      ·exact P.vA p hp
      ·cases j2.mp hp;exact⟨b0,b1⟩
     ·rw[tz,Wt];refine⟨P.nd,by simp,λx hx y hy=>?_⟩;cases j2.mp hy;intro z;have z':x=ad:=z;exact cc (z'▸hx)
 refine⟨ps,?_,P,?_⟩
 ·rw[Hs];unfold Vs;simp![hr,e1]
 ·have:(yk (n%7).toNat).length=(n%7).toNat:=by simp[yk]
  omega
def Vm:FS:=
 (z_ (xw (Wi (tE (gr .bool (z7 0))) (qr (tE (gr .int (z7 0)))))
   (yM (eC (.bl false)))
   wf)
  (yM (ZT (e2 (jT λi j=>decide (i<=j)) (eC (.int 0)) (z7 0)) (e2 (jT λi j=>decide (i<j)) (z7 0) (e2 vX (eC (.int 1)) (z7 1))))))
def uO:List D->Option (Bool×D):=FR 2 2 Vm
theorem AW:∀ds r,uO ds=some r->ds.length=2/\zg 2 Vm ds=some r:=yU
theorem Hi(x0 x1:D):uO [x0,x1]=zg 2 Vm [x0,x1]:=rfl
def Y_:FS:=
 (yM (zj uO (zA (z7 0) (zA (eC (.int 16)) zH))))
def p5:List D->Option (Bool×D):=FR 1 1 Y_
theorem AS:∀ds r,p5 ds=some r->ds.length=1/\zg 1 Y_ ds=some r:=yU
theorem BH(x0:D):p5 [x0]=zg 1 Y_ [x0]:=rfl
def Vn:FS:=
 (z_ (xw (Wi (qr (tE (gr .tuple (z7 0)))) (tE (e2 qI (eL gt (zA (z7 0) zH)) (eC (.int 2)))))
   (yM (eC (.bl false)))
   wf)
  (yM (ZT (zj p5 (zA (e2 zI (z7 0) (eC (.int 0))) zH)) (zj uO (zA (e2 zI (z7 0) (eC (.int 1))) (zA (eC (.int 8)) zH))))))
def Z7:List D->Option (Bool×D):=FR 1 1 Vn
theorem AX:∀ds r,Z7 ds=some r->ds.length=1/\zg 1 Vn ds=some r:=yU
theorem Hj(x0:D):Z7 [x0]=zg 1 Vn [x0]:=rfl
def IE:FS:=(z_ (xw (qr (tE (zj Z7 (zA (z7 2) zH))))
     (λ_=>none)
     wf)
    (z_ (xw (tE (e2 vV (e2 zI (z7 2) (eC (.int 0))) (X6 1)))
     (λ_=>none)
     wf)
    (t4 1 (e2 zI (z7 2) (eC (.int 0))) (e2 zI (z7 2) (eC (.int 1))))))
def Vj:FS:=
 (z_ (jj 1 (eC (.dic [] [])))
  (z_ (xw (tE (e2 UH (z7 0) (eC .zG)))
   (ji 1)
   wf)
  (z_ (xw (qr (tE (gr .list (z7 0))))
   (λ_=>none)
   wf)
  (z_ (jh (vY (z7 0)) (yK 2)
   IE)
  (ji 1)))))
def Z6:List D->Option (Bool×D):=FR 1 3 Vj
theorem AO:∀ds r,Z6 ds=some r->ds.length=1/\zg 3 Vj ds=some r:=yU
theorem HY(x0:D):Z6 [x0]=zg 3 Vj [x0]:=rfl
def Oc:FE:=(zj uO (zA (z7 1) (zA (eC (.int 32)) zH)))
def U1:FS:=
 (z_ (xw (tE (e2 UH (z7 0) (eC .zG)))
   (qQ (e2 UK (wZ (zA (eC (.int 0)) zH)) (eC (.int 8))))
   wf)
  (z_ (xw (Wi (qr (tE (gr .list (z7 0)))) (tE (e2 qI (eL gt (zA (z7 0) zH)) (eC (.int 8)))))
   (λ_=>none)
   wf)
  (z_ (xw (qr (tE (eL JA (zA (vU 1 (vY (z7 0)) (yK 1) xS Oc) zH))))
   (λ_=>none)
   wf)
  (qQ (eL vW (zA (z7 0) zH))))))
def ZH:List D->Option (Bool×D):=FR 1 1 U1
theorem Aw:∀ds r,ZH ds=some r->ds.length=1/\zg 1 U1 ds=some r:=yU
theorem KB(x0:D):ZH [x0]=zg 1 U1 [x0]:=rfl
def M6:FS:=
 (yM (e2 xI (e2 zI (z7 0) (eC (.int 0))) (eC (.str "label"))))
def gM:List D->Option (Bool×D):=FR 1 1 M6
theorem AU:∀ds r,gM ds=some r->ds.length=1/\zg 1 M6 ds=some r:=yU
def M5:FS:=
 (yM (e2 vV (e2 zI (z7 0) (eC (.int 0))) (eC JR)))
def Yr:List D->Option (Bool×D):=FR 1 1 M5
theorem AT:∀ds r,Yr ds=some r->ds.length=1/\zg 1 M5 ds=some r:=yU
def Co:FE:=(z7 1)
def Of:FT:=(qr (tE (zj gM (zA (z7 1) zH))))
def Vx:FS:=
 (qQ (vU 1 (vY (z7 0)) (yK 1) Of Co))
def jH:List D->Option (Bool×D):=FR 1 1 Vx
theorem Ao:∀ds r,jH ds=some r->ds.length=1/\zg 1 Vx ds=some r:=yU
theorem K6(x0:D):jH [x0]=zg 1 Vx [x0]:=rfl
def IF:FS:=(xw (tE (zj gM (zA (z7 3) zH)))
     (t4 1 (e2 zI (z7 3) (eC (.int 1))) (z7 2))
     (w8 2 (e2 (tT λi j=>i+j) (z7 2) (eC (.int 1)))))
def Vo:FS:=
 (z_ (jj 1 (eC (.dic [] [])))
  (z_ (w8 2 (eC (.int 0)))
  (z_ (jh (vY (z7 0)) (yK 3)
   IF)
  (ji 1))))
def Z8:List D->Option (Bool×D):=FR 1 4 Vo
theorem AZ:∀ds r,Z8 ds=some r->ds.length=1/\zg 4 Vo ds=some r:=yU
theorem Hk(x0:D):Z8 [x0]=zg 4 Vo [x0]:=rfl
def Oa:FE:=(pB (tE (zj Yr (zA (z7 2) zH))) (e2 zI (z7 1) (e2 zI (z7 2) (e1 JG (eC (.int 1))))) (eC .zG))
def Vz:FS:=
 (z_ (w8 1 (vF Z8 (zA (z7 0) zH)))
  (qQ (vU 1 (vY (vF jH (zA (z7 0) zH))) (yK 2) xS Oa)))
def gU:List D->Option (Bool×D):=FR 1 2 Vz
theorem As:∀ds r,gU ds=some r->ds.length=1/\zg 2 Vz ds=some r:=yU
theorem K8(x0:D):gU [x0]=zg 2 Vz [x0]:=rfl
def IK:FS:=(t4 2 (z7 3) (uU (zA (e2 zI (z7 1) (z7 3)) (zA (e2 yq (z7 3) (eC (.int 1))) (zA (z7 4) zH)))))
def Vy:FS:=
 (z_ (w8 1 (vF jH (zA (z7 0) zH)))
  (z_ (jj 2 (eC (.dic [] [])))
  (z_ (jh (Ub (vF gU (zA (z7 0) zH))) (qi 3 4)
   IK)
  (ji 2))))
def ZE:List D->Option (Bool×D):=FR 1 5 Vy
theorem Aq:∀ds r,ZE ds=some r->ds.length=1/\zg 5 Vy ds=some r:=yU
theorem K7(x0:D):ZE [x0]=zg 5 Vy [x0]:=rfl
def QW:zw:=
 (y0 (uV 0 [] ["RowMachine"] "state" (X4 "State" Z5 (vS 0 [.at ["RowMachine"] "first_words"] (vS 0 [.at ["RowMachine"] "first_held"] xv))))
  (y0 (uV 0 [] ["RowMachine"] "due" (yR (eC (.int 0))))
  (uV 0 [] ["RowMachine"] "done" (yR (eC (.int 0))))))
def jB:FM:=xr 1 1 QW
theorem HJ(x0:M):jB [x0]=wU 1 1 QW [x0]:=rfl
def QV:zw:=
 (y0 (uV 0 [] ["RowMachine"] "table" (yR (z7 1)))
  (y0 (uV 0 [] ["RowMachine"] "end" (yR (z7 2)))
  (y0 (uV 0 [] ["RowMachine"] "first_words" (yR (vF ZH (zA (z7 3) zH))))
  (y0 (uV 0 [] ["RowMachine"] "first_held" (yR (vF Z6 (zA (z7 4) zH))))
  (vH (jQ "RowMachine" "again" 0 [] jB xv))))))
def Z4:FM:=xr 5 5 QV
theorem HI(x0 x1 x2 x3 x4:M):Z4 [x0,x1,x2,x3,x4]=wU 5 5 QV [x0,x1,x2,x3,x4]:=rfl
def QX:zw:=
 (y0 (x_ 4 (yR (vF ZE (zA (z7 1) zH))))
  (vH (vE Z4 (vS 0 [] (xt (z7 4) (xt (eL JD (zA (z7 4) zH)) (xt (z7 2) (xt (z7 3) xv))))))))
def jC:FM:=xr 4 5 QX
theorem HS(x0 x1 x2 x3:M):jC [x0,x1,x2,x3]=wU 4 5 QX [x0,x1,x2,x3]:=rfl
theorem Ur{g:MG}{b:zw}(P:Nat->zk->Prop):∀{ds:List D}{β:zk}(n:Nat),P n β->(∀i d β,ds[i]?=some d->P (n+i) β->∃β1 β2,g d β=some β1/\b β1=some (.nx β2)/\P (n+i+1) β2)->
  ∃β',wQ g b ds β=some (.nx β')/\P (n+ds.length) β'
 | [],β,n,h,_=>⟨β,rfl,h⟩
 |d::ds,β,n,h,step=>by
  obtain⟨β1,β2,e1,e2,p2⟩:=step 0 d β rfl h
  obtain⟨β',e3,p3⟩:=Ur P (ds:=ds) (β:=β2) (n+1) p2 λi d' τ hd hp=>by
   obtain⟨a,b',c1,c2,c3⟩:=step (i+1) d' τ (by simpa using hd) (by rw[show n+(i+1)=n+1+i by omega]; exact hp);exact⟨a,b',c1,c2,by rw[show n+1+i+1=n+(i+1)+1 by omega]; exact c3⟩
  refine⟨β',?_,by rw[yP,show n+(ds.length+1)=n+1+ds.length by omega]; exact p3⟩;show((g d β).bind λβ1=>(b β1).bind λf=>match f with|.nx β2=>wQ g b ds β2|.ct β2=>wQ g b ds β2|.bk β2=>some (.nx β2)|.rt m β2=>some (.rt m β2))=_;rw[e1];show(b β1).bind _=_;rw[e2];exact e3
theorem Ux{i:Int}{w:Nat}(hw:w<=64):uO [.int i,.int (w:Int)]=some (false,.bl (decide (0<=i)&&decide (i<2 ^ w))):=by
 have h1:tZ 1 (w:Int)=true:=by
  unfold tZ;rw[yQ (by omega),yQ (by omega)];rfl
 have h2:vX (.int 1) (.int (w:Int))=some (.int (2 ^ w)):=by
  show(match tZ 1 (w:Int)with|true=>some (D.int (1*2 ^ ((w:Int)).toNat))|false=>none)=_;rw[h1];show some (D.int (1*2 ^ ((w:Int)).toNat))=_;rw[tw,Wo]
 rw[Hi];unfold Vm;by_cases c:0<=i
 ·have c':decide (0<=i)=true:=yQ c;rw[c'];simp![c',h1,tw,Wo]
 ·have c':decide (0<=i)=false:=v4 c;rw[c'];simp![c',Bool.false_and]
theorem dw{Ws:List Int}(hl:Ws.length=8)(hw:∀w∈Ws,0<=w/\w<4294967296):ZH [.lst (wI Ws)]=some (true,.lst (wI Ws)):=by
 have e:xJ (yK 1) xS Oc [some (false,.lst (wI Ws)),none] (wI Ws)=some ((wI Ws).map λ_=>.bl true):=Zt (λ_=>.bl true) λd hd=>by
  obtain⟨w,hw',rfl⟩:=vh.mp hd;refine⟨_,rfl,?_⟩;obtain⟨a,b⟩:=hw w hw';have nf:=Ux (i:=w) (w:=32) (by decide);have e32:(2:Int) ^ 32=4294967296:=by decide
  rw[e32,yQ a,yQ b]at nf;unfold Oc;simp![show uO [.int w,.int 32]=some (false,.bl true)from nf]
 have e2:(wI Ws).map (λ_=>D.bl true)=(List.replicate 8 true).map D.bl:=by
  unfold wI;rw[ke,List.map_replicate,<-hl,<-List.map_const'];rfl
 have fa:JA [.lst [.bl true,.bl true,.bl true,.bl true,.bl true,.bl true,.bl true,.bl true]]=some (.bl true):=rfl;rw[e2]at e;have fl:vW [.lst (wI Ws)]=some (.lst (wI Ws)):=rfl
 have ne:qI (.int ((wI Ws).length:Int)) (.int 8)=some (.bl false):=by
  rw[YO,hl];rfl
 rw[KB];unfold U1;simp![ne,e,fa,fl]
def kP(ps:List (Int×Int)):List (Sum Int Str):=ps.map λp=>.inl p.1
def vP(ps:List (Int×Int)):List D:=ps.map λp=>.int p.2
theorem Jy{ps:List (Int×Int)}{a:Int}:wm (kP ps) (.inl a)=decide (a∈ps.map (·.1)):=by
 unfold wm kP;rw[To,ju,Tz,List.any_eq_true]
 constructor
 ·rintro⟨p,hp,e⟩;have e':=xE e;exact vh.mpr ⟨p,hp,jy e'⟩
 ·intro h;obtain⟨p,hp,e⟩:=vh.mp h;exact⟨p,hp,yQ (congrArg Sum.inl e)⟩
theorem Iv{ps:List (Int×Int)}{a b:Int}(h:a ∉ ps.map (·.1)):we (kP ps) (.inl a)=kP (ps++[(a,b)])/\xK (kP ps) (vP ps) (.inl a) (.int b)=vP (ps++[(a,b)]):=by
 have h1:wm (kP ps) (.inl a)=false:=by rw[Jy]; exact v4 h
 unfold we xK;rw[zO (by rw[h1]; decide),zO (by rw[h1]; decide)];unfold kP vP;rw[tz,tz];exact⟨rfl,rfl⟩
theorem Rh{p:Int×Int}(h1:0<=p.1/\p.1<65536)(h2:0<=p.2/\p.2<256):Z7 [pD p]=some (false,.bl true):=by
 have n1:=Ux (i:=p.1) (w:=16) (by decide);rw[yQ h1.1,yQ (show p.1<2 ^ 16 from h1.2)]at n1;have n2:=Ux (i:=p.2) (w:=8) (by decide);rw[yQ h2.1,yQ (show p.2<2 ^ 8 from h2.2)]at n2;have m1:uO [.int p.1,.int 16]=some (false,.bl true):=n1;have m2:uO [.int p.2,.int 8]=some (false,.bl true):=n2
 have a1:p5 [.int p.1]=some (false,.bl true):=by
  rw[BH];unfold Y_;simp![m1]
 have l2:qI (.int ((0+1+1:Nat):Int)) (.int 2)=some (.bl false):=rfl;rw[Hj];unfold Vn pD;simp![Gp,Gq,a1,m2,l2]
theorem GG{ps:List (Int×Int)}(P:xW ps)(hl:ps.length<=1000):Z6 [.lst (ps.map pD)]=some (true,.dic (kP ps) (vP ps)):=by
 obtain⟨σ',e1,x,rfl⟩:=kA (g:=yK 2) (b:=IE) (λi σ=>∃x:Option Sl,σ=[some (false,.lst (ps.map pD)),some (true,.dic (kP (ps.take i)) (vP (ps.take i))),x])
  (ds:=ps.map pD) (σ:=[some (false,.lst (ps.map pD)),some (true,.dic [] []),none]) 0 ⟨none,rfl⟩ λi d σ hd hp=>by
   obtain⟨x,rfl⟩:=hp;rw[vi];have hi:i<ps.length:=by have:=(yA.mp hd).1; rw[zm]at this; exact this
   rw[vN,xD hi]at hd;cases hd;generalize hp:ps[i]=p;have pm:p∈ps:=hp▸pz hi;have ok:=Rh (P.ad p pm) (P.vA p pm);have et:ps.take (i+1)=ps.take i++[p]:=by rw[Wx hi,hp]
   have nin:p.1 ∉ (ps.take i).map (·.1):=by
    have nd:=P.nd
    have e2:ps.map (·.1)=(ps.take i).map (·.1)++p.1::(ps.drop (i+1)).map (·.1):=by
     rw[<-hp,<-y_,<-kY hi,<-tz,L6]
    rw[e2,Wt]at nd;intro z;exact nd.2.2 _ z _ yr rfl
   have hi2:vV (.int p.1) (.dic (kP (ps.take i)) (vP (ps.take i)))=some (.bl false):=by
    show((wb (.int p.1)).bind λk=>some (wm (kP (ps.take i)) k)).bind _=_;show some (D.bl (wm (kP (ps.take i)) (.inl p.1)))=_;rw[Jy,v4 nin]
   obtain⟨q1,q2⟩:=Iv (b:=p.2) nin;have ll:(kP (ps.take i)).length<yY:=by unfold kP; rw[zm,p_]; show _<16777216; omega
   refine⟨_,[some (false,.lst (ps.map pD)),some (true,.dic (kP (ps.take (i+1))) (vP (ps.take (i+1)))),some (false,pD p)],rfl,.inl ?_,_,rfl⟩;rw[et];unfold IE;have d0:zI (pD p) (.int 0)=some (.int p.1):=rfl;have d1:zI (pD p) (.int 1)=some (.int p.2):=rfl;have ky:wb (.int p.1)=some (.inl p.1):=rfl;rw[<-q1,<-q2];simp![ok,d0,d1,hi2,t4,ky,zM ll]
 rw[vi,zm,Ww]at e1;rw[HY];unfold Vj;simp![e1]
def ge(r:D):Prop:=gM [r]=some (false,.bl false)/\Yr [r]=some (false,.bl false)
def wq(n:Nat):List (Sum Int Str):=(List.range n).map λk:Nat=>.inl (k:Int)
def t7(rows:List D)(n:Nat):List D:=(List.range n).map λk:Nat=>.tup [rows.getD k .zG,.int ((k:Int)+1),.zG]
theorem Fv{rows:List D}(h:∀r∈rows,ge r):jH [.lst rows]=some (true,.lst rows):=by
 have e:xJ (yK 1) Of Co [some (false,.lst rows),none] rows=some ((rows.filter λ_=>true).map id):=IL (λ_=>true) id λd hd=>by
  refine⟨_,rfl,?_,λ_=>rfl⟩;unfold Of;simp![(h d hd).1]
 rw[E7.mpr (λ_ _=>rfl),List.map_id]at e;rw[K6];unfold Vx;simp![e]
theorem SR{rows:List D}(h:∀r∈rows,ge r):Z8 [.lst rows]=some (true,.dic [] []):=by
 obtain⟨σ',e1,k,x,rfl⟩:=kA (g:=yK 3) (b:=IF) (λi σ=>∃(k:Int) (x:Option Sl),σ=[some (false,.lst rows),some (true,.dic [] []),some (false,.int k),x])
  (ds:=rows) (σ:=[some (false,.lst rows),some (true,.dic [] []),some (false,.int 0),none]) 0 ⟨0,none,rfl⟩ λi d σ hd hp=>by
   obtain⟨k,x,rfl⟩:=hp;refine⟨_,[some (false,.lst rows),some (true,.dic [] []),some (false,.int (k+1)),some (false,d)],rfl,.inl ?_,_,_,rfl⟩;unfold IF;simp![(h d (Tq hd)).1]
 rw[Hk];unfold Vo;simp![e1]
theorem cQ{rows:List D}(h:∀r∈rows,ge r):gU [.lst rows]=some (true,.lst (rows.map λ_=>.zG)):=by
 have e:xJ (yK 2) xS Oa [some (false,.lst rows),some (false,.dic [] []),none] rows=some (rows.map λ_=>.zG):=Zt (λ_=>.zG) λd hd=>by
  refine⟨_,rfl,?_⟩;unfold Oa;simp![(h d hd).2]
 rw[K8];unfold Vz;simp![SR h,Fv h,e]
theorem JQ{g:Nat->D}{k:Nat}:∀{xs:List Nat},k∈xs->getK (xs.map λk:Nat=>(.inl (k:Int):Sum Int Str)) (xs.map g) (.inl (k:Int))=some (g k)
 | [],h=>absurd h (by simp)
 |x::xs,h=>by
  rw[y_,y_];unfold getK;by_cases c:x=k
  ·rw[zM (by rw[c]),c]
  ·rw[zO (λz=>c (by have:=jy z; omega))];exact JQ ((yl.mp h).resolve_left λz=>c z.symm)
theorem OQ{rows:List D}{k:Nat}(h:k<rows.length):zI (.dic (wq rows.length) (t7 rows rows.length)) (.int (k:Int))=some (.tup [rows[k],.int ((k:Int)+1),.zG]):=by
 show(wb (.int (k:Int))).bind _=_;show getK (wq rows.length) (t7 rows rows.length) (.inl (k:Int))=_;unfold wq t7;rw[JQ (Ya.mpr h)];rw[qw,xD h];rfl
theorem CU{n:Nat}:wm (wq n) (.inl (n:Int))=false:=by
 unfold wm wq;rw[To,Ov];intro k hk;have:=Ya.mp hk;show ¬ decide ((.inl (k:Int):Sum Int Str)=.inl (n:Int))=true;rw[Tz];intro z;have:=jy z;omega
theorem cR{rows:List D}{n:Nat}:we (wq n) (.inl (n:Int))=wq (n+1)/\xK (wq n) (t7 rows n) (.inl (n:Int)) (.tup [rows.getD n .zG,.int ((n:Int)+1),.zG])=t7 rows (n+1):=by
 unfold we xK;rw[zO (by rw[CU]; decide),zO (by rw[CU]; decide)];unfold wq t7;rw[List.range_succ,tz,tz];exact⟨rfl,rfl⟩
theorem cO{rows:List D}(h:∀r∈rows,ge r)(hl:rows.length<=1000):ZE [.lst rows]=some (true,.dic (wq rows.length) (t7 rows rows.length)):=by
 have en:Ub (vF gU (zA (z7 0) zH)) [some (false,.lst rows),some (false,.lst rows),some (true,.dic [] []),none,none]=some (pO (rows.map λ_=>.zG)):=by
  unfold Ub;simp![cQ h]
 obtain⟨σ',e1,x,y,rfl⟩:=kA (g:=qi 3 4) (b:=IK) (λi σ=>∃x y:Option Sl,σ=[some (false,.lst rows),some (false,.lst rows),some (true,.dic (wq i) (t7 rows i)),x,y])
  (ds:=pO (rows.map λ_=>.zG)) (σ:=[some (false,.lst rows),some (false,.lst rows),some (true,.dic [] []),none,none]) 0 ⟨none,none,rfl⟩ λi d σ hd hp=>by
   obtain⟨x,y,rfl⟩:=hp;rw[vi]
   have hi:i<rows.length:=by
    have:=(yA.mp hd).1;rw[XN,zm]at this;exact this
   rw[DH,vN,xD hi]at hd;cases hd
   have ix:zI (.lst rows) (.int (i:Int))=some (rows.getD i .zG):=by
    show vT rows (i:Int)=_;unfold vT;rw[zM (kX i),tw,qw,xD hi];rfl
   obtain⟨q1,q2⟩:=cR (rows:=rows) (n:=i);have ll:(wq i).length<yY:=by unfold wq; rw[zm,Oz]; show _<16777216; omega
   have ky:wb (.int (i:Int))=some (.inl (i:Int)):=rfl;refine⟨_,[some (false,.lst rows),some (false,.lst rows),some (true,.dic (wq (i+1)) (t7 rows (i+1))),some (false,.int (i:Int)),some (false,.zG)],rfl,.inl ?_,_,_,rfl⟩;rw[<-q1,<-q2];unfold IK;simp![t4,ix,add_int,ky,zM ll]
 rw[vi,XN,zm]at e1;rw[K7];unfold Vy;generalize pO (rows.map λ_=>.zG)=NN at en e1;simp![Fv h,en,e1]
theorem ba{Ws:List Int}{hk:List (Sum Int Str)}{hv:List D}:Z5 [.obj "State" [] [],.fz (.lst (wI Ws)),.fz (.dic hk hv)]=some ([st (wI Ws) false false false hk hv,.fz (.lst (wI Ws)),.fz (.dic hk hv)],.fz .zG):=by
 have e1:xJ (yK 3) xS Cm [none,some (false,.lst (wI Ws)),some (false,.dic hk hv),none] UU=some [.tup [.str "carry",.bl false],.tup [.str "nought",.bl false],.tup [.str "sign",.bl false]]:=rfl;have e2:UD [.lst [.tup [.str "carry",.bl false],.tup [.str "nought",.bl false],.tup [.str "sign",.bl false]]]=some (jn false false false):=rfl;have e3:vW [.lst (wI Ws)]=some (.lst (wI Ws)):=rfl;have e4:UC [.dic hk hv]=some (.dic hk hv):=rfl;have p1:∀{x:M}{zf:zk},tf x (some (.obj "State" [] [])::zf) 0 [] ["State"] "words" = some (.nx (some (.obj "State" ["words"] [x])::zf)):=rfl;have p2:∀{x y:M}{zf:zk},tf x (some (.obj "State" ["words"] [y])::zf) 0 [] ["State"] "truths" = some (.nx (some (.obj "State" ["words", "truths"] [y,x])::zf)):=rfl;have p3:∀{x y z:M}{zf:zk},tf x (some (.obj "State" ["words", "truths"] [y,z])::zf) 0 [] ["State"] "held" = some (.nx (some (.obj "State" ["words", "truths", "held"] [y,z,x])::zf)):=rfl;rw[HU];unfold QY;simp![xc,gx,e1,e2,e3,e4,p1,p2,p3];rfl
theorem Ek{T fw fh:D}{e:Int}{Ws:List Int}{hk:List (Sum Int Str)}{hv:List D}{fs:List Str}{ms:List M}:jB [.obj "RowMachine" ["table", "end", "first_words", "first_held"] [.fz T,.fz (.int e),.fz (.lst (wI Ws)),.fz (.dic hk hv)]]=some ([wH T e (.lst (wI Ws)) (.dic hk hv) (st (wI Ws) false false false hk hv) 0 0],.fz .zG):=by
 have a1:uR (.obj "RowMachine" ["table", "end", "first_words", "first_held"] [.fz T,.fz (.int e),.fz (.lst (wI Ws)),.fz (.dic hk hv)]) [.at ["RowMachine"] "first_words"]=some (.fz (.lst (wI Ws))):=rfl;have a2:uR (.obj "RowMachine" ["table", "end", "first_words", "first_held"] [.fz T,.fz (.int e),.fz (.lst (wI Ws)),.fz (.dic hk hv)]) [.at ["RowMachine"] "first_held"]=some (.fz (.dic hk hv)):=rfl;have p1:∀{a b c d x:M}{zf:zk},tf x (some (.obj "RowMachine" ["table", "end", "first_words", "first_held"] [a,b,c,d])::zf) 0 [] ["RowMachine"] "state" = some (.nx (some (.obj "RowMachine" ["table", "end", "first_words", "first_held", "state"] [a,b,c,d,x])::zf)):=rfl;have p2:∀{a b c d f x:M}{zf:zk},tf x (some (.obj "RowMachine" ["table", "end", "first_words", "first_held", "state"] [a,b,c,d,f])::zf) 0 [] ["RowMachine"] "due" = some (.nx (some (.obj "RowMachine" ["table", "end", "first_words", "first_held", "state", "due"] [a,b,c,d,f,x])::zf)):=rfl;have p3:∀{a b c d f g x:M}{zf:zk},tf x (some (.obj "RowMachine" ["table", "end", "first_words", "first_held", "state", "due"] [a,b,c,d,f,g])::zf) 0 [] ["RowMachine"] "done" = some (.nx (some (.obj "RowMachine" gY [a,b,c,d,f,g,x])::zf)):=rfl;rw[HJ];unfold QW;simp![xc,a1,a2,ba,p1,p2,p3];rfl
theorem NU{T:D}{e:Int}{Ws:List Int}{ps:List (Int×Int)}(hl:Ws.length=8)(hw:∀w∈Ws,0<=w/\w<4294967296)(P:xW ps)(hp:ps.length<=1000) :
  Z4 [.obj "RowMachine" [] [],.fz T,.fz (.int e),.fz (.lst (wI Ws)),.fz (.lst (ps.map pD))]=some ([wH T e (.lst (wI Ws)) (.dic (kP ps) (vP ps)) (st (wI Ws) false false false (kP ps) (vP ps)) 0 0,.fz T,.fz (.int e),.fz (.lst (wI Ws)),.fz (.lst (ps.map pD))],.fz .zG):=by
 have p1:∀{x:M}{zf:zk},tf x (some (.obj "RowMachine" [] [])::zf) 0 [] ["RowMachine"] "table" = some (.nx (some (.obj "RowMachine" ["table"] [x])::zf)):=rfl;have p2:∀{a x:M}{zf:zk},tf x (some (.obj "RowMachine" ["table"] [a])::zf) 0 [] ["RowMachine"] "end" = some (.nx (some (.obj "RowMachine" ["table", "end"] [a,x])::zf)):=rfl;have p3:∀{a b x:M}{zf:zk},tf x (some (.obj "RowMachine" ["table", "end"] [a,b])::zf) 0 [] ["RowMachine"] "first_words" = some (.nx (some (.obj "RowMachine" ["table", "end", "first_words"] [a,b,x])::zf)):=rfl;have p4:∀{a b c x:M}{zf:zk},tf x (some (.obj "RowMachine" ["table", "end", "first_words"] [a,b,c])::zf) 0 [] ["RowMachine"] "first_held" = some (.nx (some (.obj "RowMachine" ["table", "end", "first_words", "first_held"] [a,b,c,x])::zf)):=rfl;have ag:=Ek (T:=T) (e:=e) (fw:=.zG) (fh:=.zG) (Ws:=Ws) (hk:=kP ps) (hv:=vP ps) (fs:=[]) (ms:=[]);have ct:∀{a b c d:M}{zf:zk},jQ "RowMachine" "again" 0 [] jB xv (some (.obj "RowMachine" ["table", "end", "first_words", "first_held"] [a,b,c,d])::zf)=gj jB [.p 0 []] (some (.obj "RowMachine" ["table", "end", "first_words", "first_held"] [a,b,c,d])::zf):=rfl;rw[HI];unfold QV;simp![y0.eq_1,vH.eq_1,uV.eq_1,yR.eq_1,uu.eq_1,hide.eq_1,wU.eq_1,X7.eq_1,X7.eq_2,qG.eq_1,qG.eq_2,@Option.map_some.{0,0},@EI.{0},@L7.{0},p1,p2,p3,p4,dw hl hw,GG P hp,ct];simp![xc,ag]
theorem Fu{rows:List D}{Ws:List Int}{ps:List (Int×Int)}(hr:∀r∈rows,ge r)(hrl:rows.length<=1000)(hl:Ws.length=8)(hw:∀w∈Ws,0<=w/\w<4294967296)(P:xW ps)(hp:ps.length<=1000) :
  jC [.obj "RowMachine" [] [],.fz (.lst rows),.fz (.lst (wI Ws)),.fz (.lst (ps.map pD))]=some ([wH (.dic (wq rows.length) (t7 rows rows.length)) rows.length (.lst (wI Ws)) (.dic (kP ps) (vP ps)) (st (wI Ws) false false false (kP ps) (vP ps)) 0 0,.fz (.lst rows),.fz (.lst (wI Ws)),.fz (.lst (ps.map pD))],.fz .zG):=by
 have ar:p9 (.obj "RowMachine" [] []) 0 []=.p 0 []:=rfl
 have fl:JD [.dic (wq rows.length) (t7 rows rows.length)]=some (.int rows.length):=by
  show some (D.int ((wq rows.length).length:Int))=_;unfold wq;rw[zm,Oz]
 rw[HS];unfold QX;simp![xc,cO hr hrl,fl,ar,NU hl hw P hp]
def OZ:FE:=(uU (zA (z7 1) (zA (e2 zI (z7 0) (z7 1)) zH)))
def Oe:FT:=(tE (e2 qI (e2 zI (z7 0) (z7 1)) (eC (.int 0))))
def Vv:FS:=
 (qQ (vU 1 (vY (eL JI (zA (z7 0) zH))) (yK 1) Oe OZ))
def ZD:List D->Option (Bool×D):=FR 1 1 Vv
theorem Am:∀ds r,ZD ds=some r->ds.length=1/\zg 1 Vv ds=some r:=yU
theorem Hx(x0:D):ZD [x0]=zg 1 Vv [x0]:=rfl
def Vc:FS:=
 (qQ (eL vW (zA (e1 (yT ["State"] "words") (e1 (yT ["RowMachine"] "state") (z7 0))) zH)))
def gH:List D->Option (Bool×D):=FR 1 1 Vc
theorem AH:∀ds r,gH ds=some r->ds.length=1/\zg 1 Vc ds=some r:=yU
theorem HP(x0:D):gH [x0]=zg 1 Vc [x0]:=rfl
def Tb:FE:=(e2 zI (e1 (yT ["State"] "truths") (e1 (yT ["RowMachine"] "state") (z7 0))) (z7 1))
def VZ:FS:=
 (yM (eL gu (zA (vU 1 (vY (eC gx)) (yK 1) xS Tb) zH)))
def gD:List D->Option (Bool×D):=FR 1 1 VZ
theorem AE:∀ds r,gD ds=some r->ds.length=1/\zg 1 VZ ds=some r:=yU
theorem HL(x0:D):gD [x0]=zg 1 VZ [x0]:=rfl
def Va:FS:=
 (qQ (vF ZD (zA (e1 (yT ["State"] "held") (e1 (yT ["RowMachine"] "state") (z7 0))) zH)))
def gE:List D->Option (Bool×D):=FR 1 1 Va
theorem AF:∀ds r,gE ds=some r->ds.length=1/\zg 1 Va ds=some r:=yU
theorem HM(x0:D):gE [x0]=zg 1 Va [x0]:=rfl
def Vb:FS:=
 (yM (e1 (yT ["RowMachine"] "due") (z7 0)))
def gF:List D->Option (Bool×D):=FR 1 1 Vb
theorem AG:∀ds r,gF ds=some r->ds.length=1/\zg 1 Vb ds=some r:=yU
theorem HN(x0:D):gF [x0]=zg 1 Vb [x0]:=rfl
def Vf:FS:=
 (yM (e1 (yT ["RowMachine"] "done") (z7 0)))
def gI:List D->Option (Bool×D):=FR 1 1 Vf
theorem AJ:∀ds r,gI ds=some r->ds.length=1/\zg 1 Vf ds=some r:=yU
theorem HR(x0:D):gI [x0]=zg 1 Vf [x0]:=rfl
def XH:FS:=(xw (tE (e2 xI (z7 3) (eC (.int 0))))
     (t4 2 (z7 3) (zj gH (wO "RowMachine" "registers" (z7 0) zH)))
     (xw (tE (e2 xI (z7 3) (eC (.int 1))))
       (t4 2 (z7 3) (zj gD (wO "RowMachine" "marks" (z7 0) zH)))
       (xw (tE (e2 xI (z7 3) (eC (.int 2))))
         (t4 2 (z7 3) (zj gE (wO "RowMachine" "memory" (z7 0) zH)))
         (xw (tE (e2 xI (z7 3) (eC (.int 3))))
           (t4 2 (z7 3) (zj gF (wO "RowMachine" "place" (z7 0) zH)))
           (xw (tE (e2 xI (z7 3) (eC (.int 4))))
             (t4 2 (z7 3) (zj gI (wO "RowMachine" "steps" (z7 0) zH)))
             (t4 2 (z7 3) (zj vm (wO "RowMachine" "stands" (z7 0) zH))))))))
def Td:FE:=(e2 zI (z7 2) (z7 4))
def Vq:FS:=
 (z_ (jj 2 (eC (.dic [] [])))
  (z_ (jh (vY (e2 zI (wZ (zA (wZ (λ_=>some (List.map D.int [0,1,2,3,4,5]))) (zA (wZ (λ_=>some (List.map D.int [5,4,3,2,1,0]))) (zA (wZ (λ_=>some (List.map D.int [2,4,0,5,1,3]))) (zA (wZ (λ_=>some (List.map D.int [3,1,5,0,4,2]))) zH))))) (e2 xN (z7 1) (eC (.int 4))))) (yK 3)
   XH)
  (z_ (Xb 2) (yM (eL UL (zA (vU 1 (uv (eC (.int 0)) (eC (.int 6))) (yK 4) xS Td) zH))))))
def jE:List D->Option (Bool×D):=FR 2 4 Vq
theorem Ad:∀ds r,jE ds=some r->ds.length=2/\zg 4 Vq ds=some r:=yU
theorem Hq(x0 x1:D):jE [x0,x1]=zg 4 Vq [x0,x1]:=rfl
def OX:FE:=(uU (zA (z7 3) (zA (e2 zI (e2 zI (z7 0) (eC (.str "bytes"))) (z7 3)) zH)))
def Od:FT:=(tE (e2 (jT λi j=>decide (j<i)) (e2 zI (e2 zI (z7 0) (eC (.str "bytes"))) (z7 3)) (eC (.int 0))))
def Vp:FS:=
 (z_ (w8 2 (vU 1 (vY (eL JJ (zA (eL JE (zA (e2 zI (z7 0) (eC (.str "bytes"))) zH)) zH))) (yK 3) Od OX))
  (yM (eL UL (zA (wZ (zA (e2 zI (z7 0) (eC (.str "words"))) (zA (eL gu (zA (e2 zI (z7 0) (eC (.str "marks"))) zH)) (zA (z7 2) (zA (e2 zI (z7 0) (eC (.str "at"))) (zA (e2 zI (z7 0) (eC (.str "many"))) (zA (z7 1) zH))))))) zH))))
def gQ:List D->Option (Bool×D):=FR 2 3 Vp
theorem Ac:∀ds r,gQ ds=some r->ds.length=2/\zg 3 Vp ds=some r:=yU
theorem Ho(x0 x1:D):gQ [x0,x1]=zg 3 Vp [x0,x1]:=rfl
def w_:List (Int×Int)->Int->Int
 | [],_=>0
 |p::ps,a=>if p.1=a then p.2 else w_ ps a
theorem BA{a:Int}:∀{ps:List (Int×Int)},a∈ps.map (·.1)->getK (kP ps) (vP ps) (.inl a)=some (.int (w_ ps a))
 | [],h=>absurd h (by simp)
 |p::ps,h=>by
  show getK (.inl p.1::kP ps) (.int p.2::vP ps) (.inl a)=_;unfold getK w_;by_cases c:p.1=a
  ·rw[zM (congrArg Sum.inl c),zM c]
  ·rw[zO (λz=>c (jy z)),zO c];rw[y_]at h;exact BA ((yl.mp h).resolve_left λz=>c z.symm)
theorem OU{a:Int}:∀{ps:List (Int×Int)},(∀p∈ps,0<=p.2/\p.2<256)->0<=w_ ps a/\w_ ps a<256
 | [],_=>⟨by unfold w_; omega,by unfold w_; omega⟩
 |p::ps,h=>by
  unfold w_
  split
  ·exact h p yr
  ·exact OU λq hq=>h q (xg _ hq)
theorem BW{ps:List (Int×Int)}{a:Int}(h:a∈ps.map (·.1)):zI (.dic (kP ps) (vP ps)) (.int a)=some (.int (w_ ps a)):=by
 show(wb (.int a)).bind _=_;exact BA h
def memK(ps:List (Int×Int)):List Int:=L2.isort (ps.map (·.1))
def uX(ps:List (Int×Int)):List D:=((memK ps).filter λa=>decide (w_ ps a≠0)).map λa=>.tup [.int a,.int (w_ ps a)]
theorem IS{ps:List (Int×Int)}{a:Int}(h:a∈memK ps):a∈ps.map (·.1):=(L2.isort_perm (ps.map (·.1))).mem_iff.mp h
theorem BY:∀(ps:List (Int×Int)),Zr (kP ps)=some (ps.map (·.1))
 | []=>rfl
 |p::ps=>by
  show(Zr (kP ps)).bind _=_;rw[BY ps];rfl
theorem Bf{g:FG}{c:FT}{e:FE}{σ:zp}(p:Int->Bool)(v:Int->D){ns:List Int}(h:∀n∈ns,∃σ1,g (.int n) σ=some σ1/\c σ1=some (p n)/\(p n=true->e σ1=some (v n))):xJ g c e σ (wI ns)=some ((ns.filter p).map v):=by
 induction ns with
 |nil=>rfl
 |cons n ns ih=>
  obtain⟨σ1,e1,e2,e3⟩:=h n yr;have ih':=ih λm hm=>h m (xg _ hm)
  show xJ g c e σ (.int n::wI ns)=_;cases q:p n with
  |true=>
   rw[q]at e2;simp only[xJ,e1,tD,e2,e3 q,ih',List.filter_cons,q,vz,y_]
  |false=>
   rw[q]at e2;simp only[xJ,e1,tD,e2,ih',List.filter_cons,q,Wm,qW]
theorem Ni{i:Int}:qI (.int i) (.int 0)=some (.bl (decide (i≠0))):=by
 show some (D.bl (!(i==0)))=_
 congr 2
 by_cases c:i=0
 ·subst c; rfl
 ·rw[yQ c];have:(i==0)=false:=by simpa using c
  rw[this];rfl
theorem Ri{ps:List (Int×Int)}(hl:ps.length<64):ZD [.dic (kP ps) (vP ps)]=some (true,.lst (uX ps)):=by
 have e1:JI [.dic (kP ps) (vP ps)]=some (.lst (wI (memK ps))):=by
  show(Zr (kP ps)).bind _=_;rw[BY];show(if(ps.map (·.1)).length<64 then _ else _)=_;rw[zM (by rw[zm]; exact hl)];rfl
 have e2:xJ (yK 1) Oe OZ [some (false,.dic (kP ps) (vP ps)),none] (wI (memK ps))=some (uX ps):=Bf (λa=>decide (w_ ps a≠0)) (λa=>.tup [.int a,.int (w_ ps a)]) λn hn=>by
  have ix:=BW (IS hn);refine⟨_,rfl,?_,λ_=>?_⟩
  ·unfold Oe;simp![ix,Ni]
  ·unfold OZ;simp![ix]
 rw[Hx];unfold Vv;simp![e1,e2]
section
variable{T fw fh:D}{e due done:Int}{Ws:List Int}{a b c:Bool}{ps:List (Int×Int)}
def yV(T fw fh:D)(e due done:Int)(Ws:List Int)(a b c:Bool)(ps:List (Int×Int)):D:=wF T e fw fh (vq (wI Ws) a b c (kP ps) (vP ps)) due done
theorem AB:gH [yV T fw fh e due done Ws a b c ps]=some (true,.lst (wI Ws)):=by
 have fl:vW [.lst (wI Ws)]=some (.lst (wI Ws)):=rfl;unfold yV;rw[HP];unfold Vc;simp![ZV,UO,fl]
theorem NG:gD [yV T fw fh e due done Ws a b c ps]=some (false,.tup [.bl a,.bl b,.bl c]):=by
 unfold yV
 have e1:xJ (yK 1) xS Tb [some (false,wF T e fw fh (vq (wI Ws) a b c (kP ps) (vP ps)) due done),none] UU=some [.bl a,.bl b,.bl c]:=by
  have h:∀m:Str,Tb [some (false,wF T e fw fh (vq (wI Ws) a b c (kP ps) (vP ps)) due done),some (false,.str m)]=zI (jn a b c) (.str m):=λm=>by
   unfold Tb;simp![ZV,HA]
  unfold UU;simp only[xJ,yK,xS,tD,L5,Ts,h,d7,d8,d9]
 have e2:gu [.lst [.bl a,.bl b,.bl c]]=some (.tup [.bl a,.bl b,.bl c]):=rfl;rw[HL];unfold VZ gx;simp![e1,e2]
theorem NT(hl:ps.length<64):gE [yV T fw fh e due done Ws a b c ps]=some (true,.lst (uX ps)):=by
 unfold yV;rw[HM];unfold Va;simp![ZV,UN,Ri hl]
theorem SQ:gF [yV T fw fh e due done Ws a b c ps]=some (false,.int due):=by
 unfold yV;rw[HN];unfold Vb;simp![XC]
theorem bd:gI [yV T fw fh e due done Ws a b c ps]=some (false,.int done):=by
 unfold yV;rw[HR];unfold Vf;simp![G_]
def vis(Ws:List Int)(a b c:Bool)(ps:List (Int×Int))(due done:Int)(k:Bool):List D:=[.lst (wI Ws),.tup [.bl a,.bl b,.bl c],.lst (uX ps),.int due,.int done,.bl k]
theorem OW{m:Nat}:∀{xs:List D},(∀d∈xs,wD d<=m)->wDs xs<=(m+2)*xs.length
 | [],_=>vy _
 |x::xs,h=>by
  have h1:=h x yr;have h2:=OW λd hd=>h d (xg _ hd)
  show wD x+2+wDs xs<=_;rw[yP,Nat.mul_add];omega
theorem Wk{i:Int}(h0:0<=i)(h1:i<100000000000000000000):wD (.int i)=20:=by
 show(if decide (0<=i)&&decide (i<100000000000000000000)then 20 else 1000000000)=20;rw[yQ h0,yQ h1];rfl
theorem NR:(uX ps).length<=ps.length:=by
 unfold uX memK;rw[zm];refine vQ (List.length_filter_le ..) ?_;rw[(L2.isort_perm _).length_eq,zm];exact yF _
theorem Fn{k:Bool}(P:xW ps)(hl:ps.length<64)(hw:∀w∈Ws,0<=w/\w<4294967296)(hn:Ws.length<=100)(d0:0<=due)(d1:due<1000000)(s0:0<=done)(s1:done<1000000):UL [.lst (vis Ws a b c ps due done k)]=some (.str (xL (.lst (vis Ws a b c ps due done k))).shown):=by
 have h1:wDs (wI Ws)<=22*100:=by
  have:=OW (m:=20) (xs:=wI Ws) λd hd=>by
   obtain⟨w,hw',rfl⟩:=vh.mp hd;exact Tt (Wk (hw w hw').1 (by have:=(hw w hw').2; omega))
  rw[YO]at this;omega
 have h2:wDs (uX ps)<=49*64:=by
  have:=OW (m:=47) (xs:=uX ps) λd hd=>by
   obtain⟨x,hx,rfl⟩:=vh.mp hd;have hx':=IS (L0.mp hx).1;obtain⟨p,hp,rfl⟩:=vh.mp hx';have h3:=P.ad p hp;have h4:=OU (a:=p.1) P.vA;show wD (.int p.1)+2+(wD (.int (w_ ps p.1))+2+0)+3<=47;rw[Wk h3.1 (by omega),Wk h4.1 (by omega)]
   decide
  have l:=NR (ps:=ps);have:(47+2)*(uX ps).length<=49*64:=by omega
  omega
 have hW:wDs (vis Ws a b c ps due done k)<=1000000:=by
  show(wDs (wI Ws)+2)+2+(((5+2+(5+2+(5+2+0)))+3)+2+((wDs (uX ps)+2)+2+(wD (.int due)+2+(wD (.int done)+2+(5+2+0)))))<=1000000;rw[Wk d0 (by omega),Wk s0 (by omega)];omega
 have hd1:(wI Ws).all (wv 4)=true:=t9.mpr λd hd=>by
  obtain⟨w,_,rfl⟩:=vh.mp hd;rfl
 have hd2:(uX ps).all (wv 4)=true:=t9.mpr λd hd=>by
  obtain⟨x,_,rfl⟩:=vh.mp hd;rfl
 have hD:(vis Ws a b c ps due done k).all (wv 5)=true:=by
  show((wI Ws).all (wv 4)&&(_&&((uX ps).all (wv 4)&&_)))=true;rw[hd1,hd2];rfl
 show(match decide (wDs (vis Ws a b c ps due done k)<=1000000)&&(vis Ws a b c ps due done k).all (wv 5)with|true=>_|false=>_)=_;rw[yQ hW,hD];rfl
theorem Sm{ks:List (Sum Int Str)}{vs:List D}{k:Int}{v:D}(h:wm ks (.inl k)=false):we ks (.inl k)=ks++[.inl k]/\xK ks vs (.inl k) v=vs++[v]:=by
 unfold we xK;rw[zO (by rw[h]; decide),zO (by rw[h]; decide)];exact⟨rfl,rfl⟩
theorem KD{k:Nat}:∀{xs:List Nat},k ∉ xs->wm (xs.map λk:Nat=>(.inl (k:Int):Sum Int Str)) (.inl (k:Int))=false:=λ{xs} h=>by
 unfold wm;rw[To,Ov];intro j hj;show ¬ decide ((.inl (j:Int):Sum Int Str)=.inl (k:Int))=true;rw[Tz];intro z;have:j=k:=by have:=jy z; omega
 exact h (this▸hj)
theorem bA{m:Str}{τ:zp}{d:D}(hm:m ∉ gY)(h:τ[0]?=some (some (false,yV T fw fh e due done Ws a b c ps))):wO "RowMachine" m (z7 0) zH τ=some [yV T fw fh e due done Ws a b c ps]:=by
 refine VR (sd:=vq (wI Ws) a b c (kP ps) (vP ps)) ?_ hm rfl;unfold z7;rw[h];rfl
def jZ(T fw fh:D)(e due done:Int)(Ws:List Int)(a b c:Bool)(ps:List (Int×Int))(cell:Int)(o:List Nat)(k:Bool)(x:Option Sl):zp:=
 [some (false,yV T fw fh e due done Ws a b c ps),some (false,.int cell),some (true,.dic (o.map λk:Nat=>.inl (k:Int)) (o.map λi:Nat=>(vis Ws a b c ps due done k).getD i .zG)),x]
theorem N8{cell:Int}{o:List Nat}{k:Bool}{i:Nat}(hl:ps.length<64)(hs:vm [yV T fw fh e due done Ws a b c ps]=some (false,.bl k))(hi:i<6)(hn:i ∉ o)(ho:o.length<=6):XH (jZ T fw fh e due done Ws a b c ps cell o k (some (false,.int (i:Int))))=some (.nx (jZ T fw fh e due done Ws a b c ps cell (o++[i]) k (some (false,.int (i:Int))))):=by
 obtain⟨q1,q2⟩:=Sm (vs:=o.map λi:Nat=>(vis Ws a b c ps due done k).getD i .zG) (v:=(vis Ws a b c ps due done k).getD i .zG) (KD hn);have ll:(o.map λk:Nat=>(.inl (k:Int):Sum Int Str)).length<yY:=by rw[zm]; show _<16777216; omega
 have q3:(o++[i]).map (λk:Nat=>(.inl (k:Int):Sum Int Str))=(o.map λk:Nat=>(.inl (k:Int):Sum Int Str))++[.inl (i:Int)]:=by rw[tz]; rfl
 have q4:(o++[i]).map (λi:Nat=>(vis Ws a b c ps due done k).getD i .zG)=(o.map λi:Nat=>(vis Ws a b c ps due done k).getD i .zG)++[(vis Ws a b c ps due done k).getD i .zG]:=by rw[tz]; rfl
 unfold jZ;rw[q3,q4,<-q1,<-q2];clear q1 q2 q3 q4;generalize (o.map λk:Nat=>(.inl (k:Int):Sum Int Str))=ks at ll ⊢;generalize (o.map λi:Nat=>(vis Ws a b c ps due done k).getD i .zG)=vs;have sf:∀{m:Str}{τ:zp},m ∉ gY->τ[0]?=some (some (false,yV T fw fh e due done Ws a b c ps))->wO "RowMachine" m (z7 0) zH τ=some [yV T fw fh e due done Ws a b c ps]:=λhm h=>bA (d:=.zG) hm h
 have s1:∀τ:zp,wO "RowMachine" "registers" (z7 0) zH (some (false,yV T fw fh e due done Ws a b c ps)::τ)=some [yV T fw fh e due done Ws a b c ps]:=λτ=>sf (by decide +kernel) rfl
 have s2:∀τ:zp,wO "RowMachine" "marks" (z7 0) zH (some (false,yV T fw fh e due done Ws a b c ps)::τ)=some [yV T fw fh e due done Ws a b c ps]:=λτ=>sf (by decide +kernel) rfl
 have s3:∀τ:zp,wO "RowMachine" "memory" (z7 0) zH (some (false,yV T fw fh e due done Ws a b c ps)::τ)=some [yV T fw fh e due done Ws a b c ps]:=λτ=>sf (by decide +kernel) rfl
 have s4:∀τ:zp,wO "RowMachine" "place" (z7 0) zH (some (false,yV T fw fh e due done Ws a b c ps)::τ)=some [yV T fw fh e due done Ws a b c ps]:=λτ=>sf (by decide +kernel) rfl
 have s5:∀τ:zp,wO "RowMachine" "steps" (z7 0) zH (some (false,yV T fw fh e due done Ws a b c ps)::τ)=some [yV T fw fh e due done Ws a b c ps]:=λτ=>sf (by decide +kernel) rfl
 have s6:∀τ:zp,wO "RowMachine" "stands" (z7 0) zH (some (false,yV T fw fh e due done Ws a b c ps)::τ)=some [yV T fw fh e due done Ws a b c ps]:=λτ=>sf (by decide +kernel) rfl
 have ky:∀{j:Int},wb (.int j)=some (.inl j):=rfl;have r1:=AB (T:=T) (fw:=fw) (fh:=fh) (e:=e) (due:=due) (done:=done) (Ws:=Ws) (a:=a) (b:=b) (c:=c) (ps:=ps);have r2:=NG (T:=T) (fw:=fw) (fh:=fh) (e:=e) (due:=due) (done:=done) (Ws:=Ws) (a:=a) (b:=b) (c:=c) (ps:=ps);have r3:=NT (T:=T) (fw:=fw) (fh:=fh) (e:=e) (due:=due) (done:=done) (Ws:=Ws) (a:=a) (b:=b) (c:=c) hl;have r4:=SQ (T:=T) (fw:=fw) (fh:=fh) (e:=e) (due:=due) (done:=done) (Ws:=Ws) (a:=a) (b:=b) (c:=c) (ps:=ps);have r5:=bd (T:=T) (fw:=fw) (fh:=fh) (e:=e) (due:=due) (done:=done) (Ws:=Ws) (a:=a) (b:=b) (c:=c) (ps:=ps);unfold XH;generalize yV T fw fh e due done Ws a b c ps=dm at *;have q:i=0\/i=1\/i=2\/i=3\/i=4\/i=5:=by omega
 have qe:∀{x y:Int},xI (.int x) (.int y)=some (.bl (decide (x=y))):=eq_int;have c0:((0:Nat):Int)=0:=rfl;have c1:((1:Nat):Int)=1:=rfl;have c2:((2:Nat):Int)=2:=rfl;have c3:((3:Nat):Int)=3:=rfl;have c4:((4:Nat):Int)=4:=rfl;have c5:((5:Nat):Int)=5:=rfl;rcases q with rfl|rfl|rfl|rfl|rfl|rfl
 all_goals
  clear hn ho;simp![qe,c0,c1,c2,c3,c4,c5,Int.reduceEq,t4,s1,s2,s3,s4,s5,s6,r1,r2,r3,r4,r5,hs,ky,zM ll]
  first|done|rfl
theorem Bk{cell:Int}{k:Bool}(P:xW ps)(hl:ps.length<64)(hw:∀w∈Ws,0<=w/\w<4294967296)(hn:Ws.length<=100)(d0:0<=due)(d1:due<1000000)(s0:0<=done)(s1:done<1000000)
  (hs:vm [yV T fw fh e due done Ws a b c ps]=some (false,.bl k)):jE [yV T fw fh e due done Ws a b c ps,.int cell]=some (false,.str (xL (.lst (vis Ws a b c ps due done k))).shown):=by
 have key:∀o:List Nat,o.Nodup->o.length=6->(∀i∈o,i<6)->(∀i,i<6->i∈o)->∃σ',pK (yK 3) XH (o.map λk:Nat=>.int (k:Int)) (jZ T fw fh e due done Ws a b c ps cell [] k none)=some (.nx σ')/\∃x,σ'=jZ T fw fh e due done Ws a b c ps cell o k x:=λo nd l6 lt all=>by
  obtain⟨σ',e1,x,rfl⟩:=kA (g:=yK 3) (b:=XH) (λi σ=>∃x,σ=jZ T fw fh e due done Ws a b c ps cell (o.take i) k x) (ds:=o.map λk:Nat=>.int (k:Int)) (σ:=jZ T fw fh e due done Ws a b c ps cell [] k none) 0 ⟨none,rfl⟩ λi d σ hd hp=>by
   obtain⟨x,rfl⟩:=hp;rw[vi];have hi:i<o.length:=by have:=(yA.mp hd).1; rw[zm]at this; exact this
   rw[vN,xD hi]at hd;cases hd
   have nin:o[i] ∉ o.take i:=by
    have e2:o=o.take i++o[i]::o.drop (i+1):=by rw[<-kY hi,L6]
    have nd':=nd;rw[e2,Wt]at nd';intro z;exact nd'.2.2 _ z _ yr rfl
   have lo:=N8 (T:=T) (fw:=fw) (fh:=fh) (e:=e) (due:=due) (done:=done) (Ws:=Ws) (a:=a) (b:=b) (c:=c) (ps:=ps) (cell:=cell) (o:=o.take i) (k:=k) (i:=o[i]) hl hs (lt _ (pz hi)) nin (by rw[p_]; omega);refine⟨_,_,rfl,.inl lo,some (false,.int (o[i]:Int)),?_⟩;rw[Wx hi]
  rw[vi,zm,Ww]at e1;exact⟨_,e1,x,rfl⟩
 have fin:∀(o:List Nat),(∀i,i<6->i∈o)->∀x,xJ (yK 4) xS Td [some (false,yV T fw fh e due done Ws a b c ps),some (false,.int cell),some (false,.dic (o.map λk:Nat=>.inl (k:Int)) (o.map λi:Nat=>(vis Ws a b c ps due done k).getD i .zG)),x,none] (yk 6)=some (vis Ws a b c ps due done k):=λo all x=>by
  have:=Zt (g:=yK 4) (e:=Td) (σ:=[some (false,yV T fw fh e due done Ws a b c ps),some (false,.int cell),some (false,.dic (o.map λk:Nat=>.inl (k:Int)) (o.map λi:Nat=>(vis Ws a b c ps due done k).getD i .zG)),x,none]) (λd=>match d with|.int i=>(vis Ws a b c ps due done k).getD i.toNat .zG|d=>d) (ds:=yk 6) λd hd=>by
   obtain⟨i,hi,rfl⟩:=vh.mp hd;have g:=JQ (g:=λi:Nat=>(vis Ws a b c ps due done k).getD i .zG) (all i (Ya.mp hi));refine⟨_,rfl,?_⟩;unfold Td;have ix:zI (.dic (o.map λk:Nat=>.inl (k:Int)) (o.map λi:Nat=>(vis Ws a b c ps due done k).getD i .zG)) (.int (i:Int))=some ((vis Ws a b c ps due done k).getD i .zG):=g;simp![ix];rfl
  rw[this];rfl
 have rp:=Fn (a:=a) (b:=b) (c:=c) (k:=k) P hl hw hn d0 d1 s0 s1;have r6:∀τ:zp,uv (eC (.int 0)) (eC (.int 6)) τ=some (yk 6):=λτ=>kM (n:=6) rfl (by decide)
 have go:∀o:List Nat,o.Nodup->o.length=6->(∀i∈o,i<6)->(∀i,i<6->i∈o)->zI (.lst [.lst [.int 0,.int 1,.int 2,.int 3,.int 4,.int 5],.lst [.int 5,.int 4,.int 3,.int 2,.int 1,.int 0],.lst [.int 2,.int 4,.int 0,.int 5,.int 1,.int 3],.lst [.int 3,.int 1,.int 5,.int 0,.int 4,.int 2]]) (.int (cell%4))=some (.lst (o.map λk:Nat=>.int (k:Int)))->jE [yV T fw fh e due done Ws a b c ps,.int cell]=some (false,.str (xL (.lst (vis Ws a b c ps due done k))).shown):=λo nd l6 lt all ix=>by
  obtain⟨σ',e1,x,rfl⟩:=key o nd l6 lt all;have f:=fin o all x;unfold jZ at e1;simp only[jw]at e1;rw[Hq];unfold Vq;generalize (o.map λk:Nat=>D.int (k:Int))=L at ix e1;generalize (o.map λk:Nat=>(.inl (k:Int):Sum Int Str))=ks at e1 f;generalize (o.map λi:Nat=>(vis Ws a b c ps due done k).getD i .zG)=vs at e1 f;generalize yV T fw fh e due done Ws a b c ps=dm at *;generalize vis Ws a b c ps due done k=VV at *;simp![ix,e1,f,r6,rp]
 have q:cell%4=0\/cell%4=1\/cell%4=2\/cell%4=3:=by omega
 rcases q with h|h|h|h
 ·exact go [0,1,2,3,4,5] (by decide) rfl (by decide) (by decide) (by rw[h]; rfl)
 ·exact go [5,4,3,2,1,0] (by decide) rfl (by decide) (by decide) (by rw[h]; rfl)
 ·exact go [2,4,0,5,1,3] (by decide) rfl (by decide) (by decide) (by rw[h]; rfl)
 ·exact go [3,1,5,0,4,2] (by decide) rfl (by decide) (by decide) (by rw[h]; rfl)
abbrev Lo:List (Sum Int Str):=[.inr "words",.inr "marks",.inr "bytes",.inr "at",.inr "many"]
def sM(Ws:List Int)(a b c:Bool)(hk:List (Sum Int Str))(hv:List D)(n m:Int):M:=.tab Lo [.own (.lst (wI Ws)),.own (.lst [.bl a,.bl b,.bl c]),.own (.dic hk hv),.fz (.int n),.fz (.int m)]
def tR(Ws:List Int)(a b c:Bool)(hk:List (Sum Int Str))(hv:List D)(n m:Int):D:=.dic Lo [.lst (wI Ws),.lst [.bl a,.bl b,.bl c],.dic hk hv,.int n,.int m]
theorem Mw{k:Bool}(P:xW ps)(hl:ps.length<64)(hw:∀w∈Ws,0<=w/\w<4294967296)(hn:Ws.length<=100)(d0:0<=due)(d1:due<1000000)(s0:0<=done)(s1:done<1000000) :
  gQ [tR Ws a b c (kP ps) (vP ps) due done,.bl k]=some (false,.str (xL (.lst (vis Ws a b c ps due done k))).shown):=by
 have rp:=Fn (a:=a) (b:=b) (c:=c) (k:=k) P hl hw hn d0 d1 s0 s1
 have ka:(kP ps).all je=true:=t9.mpr λx hx=>by
  obtain⟨p,_,rfl⟩:=vh.mp hx;rfl
 have e0:JE [.dic (kP ps) (vP ps)]=some (.lst (wI (ps.map (·.1)))):=by
  show(if(kP ps).length<=1000/\(kP ps).all je=true then some (D.lst ((kP ps).map keyOf))else none)=_;rw[zM ⟨by unfold kP; rw[zm]; omega,ka⟩];unfold kP wI;rw[ke,ke];rfl
 have e1:JJ [.lst (wI (ps.map (·.1)))]=some (.lst (wI (memK ps))):=by
  have io:∀ns:List Int,intsOf (wI ns)=some ns:=λns=>by
   induction ns with
   |nil=>rfl
   |cons n ns ih=>
    show(intsOf (wI ns)).bind _=_;rw[ih];rfl
  show(intsOf (wI (ps.map (·.1)))).bind _=_;rw[io];show(if(ps.map (·.1)).length<64 then _ else _)=_;rw[zM (by rw[zm]; exact hl)];rfl
 have ib:zI (tR Ws a b c (kP ps) (vP ps) due done) (.str "bytes")=some (.dic (kP ps) (vP ps)):=rfl;have iw:zI (tR Ws a b c (kP ps) (vP ps) due done) (.str "words")=some (.lst (wI Ws)):=rfl;have im:zI (tR Ws a b c (kP ps) (vP ps) due done) (.str "marks")=some (.lst [.bl a,.bl b,.bl c]):=rfl;have ia:zI (tR Ws a b c (kP ps) (vP ps) due done) (.str "at")=some (.int due):=rfl;have iy:zI (tR Ws a b c (kP ps) (vP ps) due done) (.str "many")=some (.int done):=rfl;have ft:gu [.lst [.bl a,.bl b,.bl c]]=some (.tup [.bl a,.bl b,.bl c]):=rfl
 have e2:xJ (yK 3) Od OX [some (false,tR Ws a b c (kP ps) (vP ps) due done),some (false,.bl k),none,none] (wI (memK ps))=some (uX ps):=by
  unfold uX;refine Bf (λa=>decide (w_ ps a≠0)) (λa=>.tup [.int a,.int (w_ ps a)]) λn hn=>?_
  have ix:=BW (IS hn);have v0:=(OU (a:=n) P.vA).1
  have ed:decide (0<w_ ps n)=decide (w_ ps n≠0):=by
   by_cases z:w_ ps n=0
   ·rw[z]; rfl
   ·rw[yQ z,yQ (by omega)]
  refine⟨_,rfl,?_,λ_=>?_⟩
  ·unfold Od;simp![ib,ix,ed]
  ·unfold OX;simp![ib,ix]
 rw[Ho];unfold Vp;unfold vis at rp ⊢;generalize tR Ws a b c (kP ps) (vP ps) due done=dm at *;simp![ib,e0,e1,e2,iw,im,ia,iy,ft,rp]
end
theorem CD{x:Int}{n:Nat}(h0:0<=x)(h1:x<4294967296)(hn:n<=64):tZ x (n:Int)=true:=by
 unfold tZ;rw[yQ (by omega),yQ (by omega),yQ (show x.natAbs<2 ^ 64 by omega)];rfl
theorem Y6{x:Int}{l w:Nat}(hw:w<=64):wN [.int x,.int (l:Int),.int (w:Int)]=some (false,.int (x/2 ^ l%2 ^ w)):=by
 have h1:tZ 1 (w:Int)=true:=CD (by decide) (by decide) hw
 have h2:vX (.int 1) (.int (w:Int))=some (.int (2 ^ w)):=by
  show(match tZ 1 (w:Int)with|true=>some (D.int (1*2 ^ ((w:Int)).toNat))|false=>none)=_;rw[h1];show some (D.int (1*2 ^ ((w:Int)).toNat))=_;rw[tw,Wo]
 have h3:XB (.int x) (.int (l:Int))=some (.int (x/2 ^ l)):=by
  show(match decide ((0:Int)<=(l:Int))with|true=>some (D.int (x/2 ^ ((l:Int)).toNat))|false=>none)=_;rw[yQ (kX l)];show some (D.int (x/2 ^ ((l:Int)).toNat))=_;rw[tw]
 have e:=Rj (x/2 ^ l) w;rw[Wo]at e;rw[Hy];unfold Vw;simp only[zg,z_,w8,yM,e1,e2,z7,eC,tD,y_,jw,Wp,Tr,yP,YZ,j3,EG,L5,Ts,E8,E9,h2,h3,pC,tT,Nat.reduceAdd,Nat.reduceSub,Int.reduceSub,e]
def ye(ps:List (Int×Int))(a b:Int):List (Int×Int):=if a∈ps.map (·.1)then ps.map (λp=>if p.1=a then(a,b)else p)else ps++[(a,b)]
def gP:List (Int×Int)->Int->Int
 | [],_=>0
 |p::ps,a=>if p.1=a then p.2 else gP ps a
theorem XD(a:Int):∀ps:List (Int×Int),(getK (kP ps) (vP ps) (.inl a)).getD (.int 0)=.int (gP ps a)
 | []=>rfl
 |p::ps=>by
  show(if(Sum.inl p.1:Sum Int Str)=.inl a then some (D.int p.2)else getK (kP ps) (vP ps) (.inl a)).getD (.int 0)=.int (if p.1=a then p.2 else gP ps a);by_cases h:p.1=a
  ·rw[zM (by rw[h]),zM h];rfl
  ·rw[zO (λz=>h (jy z)),zO h];exact XD a ps
theorem ut(a:Int):∀{ps:List (Int×Int)},(∀p∈ps,0<=p.2/\p.2<256)->0<=gP ps a/\gP ps a<256
 | [],_=>⟨by show(0:Int)<=0; decide,by show(0:Int)<256; decide⟩
 |p::ps,h=>by
  unfold gP
  split
  ·exact h p yr
  ·exact ut a λq hq=>h q (xg _ hq)
theorem Cp(a b:Int):∀ps:List (Int×Int),List.zipWith (λk' x=>if k'=(Sum.inl a:Sum Int Str)then D.int b else x) (kP ps) (vP ps)=vP (ps.map λp=>if p.1=a then(a,b)else p)
 | []=>rfl
 |p::ps=>by
  show(if(Sum.inl p.1:Sum Int Str)=.inl a then D.int b else .int p.2)::List.zipWith _ (kP ps) (vP ps)=D.int (if p.1=a then(a,b)else p).2::vP (ps.map λp=>if p.1=a then(a,b)else p);rw[Cp a b ps];by_cases h:p.1=a
  ·rw[zM (by rw[h]),zM h]
  ·rw[zO (λz=>h (jy z)),zO h]
theorem JM(a b:Int):∀ps:List (Int×Int),(ps.map λp=>if p.1=a then(a,b)else p).map (·.1)=ps.map (·.1)
 | []=>rfl
 |p::ps=>by
  show(if p.1=a then(a,b)else p).1::_=p.1::_;rw[JM a b ps];by_cases h:p.1=a
  ·rw[zM h,<-h]
  ·rw[zO h]
theorem Kc{ps qs:List (Int×Int)}(h:ps.map (·.1)=qs.map (·.1)):kP ps=kP qs:=by
 have e:∀l:List (Int×Int),kP l=(l.map (·.1)).map Sum.inl:=λl=>by
  rw[ke];rfl
 rw[e,e,h]
theorem CB(ps:List (Int×Int))(a b:Int):we (kP ps) (.inl a)=kP (ye ps a b)/\xK (kP ps) (vP ps) (.inl a) (.int b)=vP (ye ps a b):=by
 by_cases h:a∈ps.map (·.1)
 ·unfold ye we xK;rw[zM h,Jy,zM (yQ h),zM (yQ h),Cp,Kc (JM a b ps)];exact⟨rfl,rfl⟩
 ·unfold ye;rw[zO h];exact Iv h
theorem pd{ps:List (Int×Int)}{a b:Int}(P:xW ps)(a0:0<=a)(a1:a<65536)(b0:0<=b)(b1:b<256):xW (ye ps a b):=by
 unfold ye;by_cases h:a∈ps.map (·.1)
 ·rw[zM h]
  have m:∀q∈ps.map (λp=>if p.1=a then(a,b)else p),q=(a,b)\/q∈ps:=λq hq=>by
   obtain⟨p,hp,rfl⟩:=vh.mp hq;by_cases z:p.1=a
   ·rw[zM z]; exact .inl rfl
   ·rw[zO z]; exact .inr hp
  refine⟨λq hq=>?_,λq hq=>?_,?_⟩
  ·rcases m q hq with rfl|z
   ·exact⟨a0,a1⟩
   ·exact P.ad q z
  ·rcases m q hq with rfl|z
   ·exact⟨b0,b1⟩
   ·exact P.vA q z
  ·rw[JM];exact P.nd
 ·rw[zO h];refine⟨λq hq=>?_,λq hq=>?_,?_⟩
  ·rcases j1.mp hq with z|z
   ·exact P.ad q z
   ·cases j2.mp z;exact⟨a0,a1⟩
  ·rcases j1.mp hq with z|z
   ·exact P.vA q z
   ·cases j2.mp z;exact⟨b0,b1⟩
  ·rw[tz,Wt];refine⟨P.nd,by simp,λx hx y hy=>?_⟩;cases j2.mp hy;exact λz=>h (by rw[<-show x=a from z]; exact hx)
theorem qR{ps:List (Int×Int)}{a b:Int}:(ye ps a b).length<=ps.length+1:=by
 unfold ye
 split
 ·rw[zm]; omega
 ·rw[yO]; exact yF _
section
variable{Ws:List Int}{a b c:Bool}{ps:List (Int×Int)}
theorem Lv{x n:Int}:jD [.int x,.int n]=some (false,.int ((x+n)%65536)):=by
 have p2:wN [.int (x+n),.int 0,.int 16]=some (false,.int ((x+n)%65536)):=by
  have:=Y6 (x:=x+n) (l:=0) (w:=16) (by decide);rw[Tn,Wn]at this;exact this
 rw[HW];unfold Vh;simp![add_int,p2]
theorem Qp{x:Int}:qb [.dic (kP ps) (vP ps),.int x]=some (false,.int (gP ps x)):=by
 have ky:wb (.int x)=some (.inl x):=rfl;rw[HX];unfold Vi;simp![jS,ky,XD]
def ZO(x:Int):List D:=[.int ((x+0)%65536),.int ((x+1)%65536),.int ((x+2)%65536),.int ((x+3)%65536)]
theorem B7{x:Int}:q_ [.int x]=some (true,.lst (ZO x)):=by
 have r4:uv (eC (.int 0)) (eC (.int 4)) [some (false,.int x)]=some (yk 4):=kM (n:=4) rfl (by decide)
 have e:xJ (yK 1) xS Tc [some (false,.int x),none] (yk 4)=some (ZO x):=by
  have:=Zt (g:=yK 1) (e:=Tc) (σ:=[some (false,.int x),none]) (ds:=yk 4) (λd=>match d with|.int j=>.int ((x+j)%65536)|d=>d) λd hd=>by
   obtain⟨k,_,rfl⟩:=vh.mp hd;refine⟨_,rfl,?_⟩;unfold Tc;simp![Lv]
  exact this
 rw[Hh];unfold Vl;simp![r4,e]
theorem dq(P:xW ps){x:Int}:ZF [.dic (kP ps) (vP ps),.int x]=some (false,.int (gP ps ((x+0)%65536)+gP ps ((x+1)%65536)*256+gP ps ((x+2)%65536)*65536+gP ps ((x+3)%65536)*16777216)):=by
 have e:xJ (yK 2) xS Te [some (false,.dic (kP ps) (vP ps)),some (false,.int x),none] (ZO x)=some [.int (gP ps ((x+0)%65536)),.int (gP ps ((x+1)%65536)),.int (gP ps ((x+2)%65536)),.int (gP ps ((x+3)%65536))]:=by
  have:=Zt (g:=yK 2) (e:=Te) (σ:=[some (false,.dic (kP ps) (vP ps)),some (false,.int x),none]) (ds:=ZO x) (λd=>match d with|.int j=>.int (gP ps j)|d=>d) λd hd=>by
   obtain⟨j,rfl⟩:∃j,d=.int j:=by
    rcases yl.mp hd with rfl|hd
    ·exact⟨_,rfl⟩
    rcases yl.mp hd with rfl|hd
    ·exact⟨_,rfl⟩
    rcases yl.mp hd with rfl|hd
    ·exact⟨_,rfl⟩
    ·exact⟨_,j2.mp hd⟩
   refine⟨_,rfl,?_⟩;unfold Te;simp![Qp]
  exact this
 obtain⟨a0,a1⟩:=ut ((x+0)%65536) P.vA;obtain⟨b0,b1⟩:=ut ((x+1)%65536) P.vA;obtain⟨c0,c1⟩:=ut ((x+2)%65536) P.vA;obtain⟨d0,d1⟩:=ut ((x+3)%65536) P.vA;generalize gP ps ((x+0)%65536)=g0 at *;generalize gP ps ((x+1)%65536)=g1 at *;generalize gP ps ((x+2)%65536)=g2 at *;generalize gP ps ((x+3)%65536)=g3 at *
 have sh:∀{g:Int}(n:Nat),0<=g->g<256->n<=64->vX (.int g) (.int (n:Int))=some (.int (g*2 ^ n)):=λ{g} n h0 h1 hn=>by
  have h1:=CD (x:=g) (n:=n) h0 (by omega) hn;show(match tZ g (n:Int)with|true=>some (D.int (g*2 ^ ((n:Int)).toNat))|false=>none)=_;rw[h1];show some (D.int (g*2 ^ ((n:Int)).toNat))=_;rw[tw]
 have wo:ZG [.lst [.int g0,.int g1,.int g2,.int g3]]=some (false,.int (g0+g1*256+g2*65536+g3*16777216)):=by
  have z:Zn (z7 0) (eC gw) [some (false,.lst [.int g0,.int g1,.int g2,.int g3])]=some [.tup [.int g0,.int 0],.tup [.int g1,.int 8],.tup [.int g2,.int 16],.tup [.int g3,.int 24]]:=rfl;have s0:vX (.int g0) (.int 0)=some (.int g0):=by have:=sh 0 a0 a1 (by decide); rw[Tn,Int.mul_one]at this; exact this
  have s1:vX (.int g1) (.int 8)=some (.int (g1*256)):=sh 8 b0 b1 (by decide);have s2:vX (.int g2) (.int 16)=some (.int (g2*65536)):=sh 16 c0 c1 (by decide);have s3:vX (.int g3) (.int 24)=some (.int (g3*16777216)):=sh 24 d0 d1 (by decide)
  have l:xJ (qi 1 2) xS Ob [some (false,.lst [.int g0,.int g1,.int g2,.int g3]),none,none] [.tup [.int g0,.int 0],.tup [.int g1,.int 8],.tup [.int g2,.int 16],.tup [.int g3,.int 24]]=some [.int g0,.int (g1*256),.int (g2*65536),.int (g3*16777216)]:=by
   have one:∀(u v w:D),vX u v=some w->∃σ1,qi 1 2 (.tup [u,v]) [some (false,.lst [.int g0,.int g1,.int g2,.int g3]),none,none]=some σ1/\Ob σ1=some w:=λu v w h=>⟨[some (false,.lst [.int g0,.int g1,.int g2,.int g3]),some (false,u),some (false,v)],rfl,h⟩
   obtain⟨t0,q0,r0⟩:=one _ _ _ s0;obtain⟨t1,q1,r1⟩:=one _ _ _ s1;obtain⟨t2,q2,r2⟩:=one _ _ _ s2;obtain⟨t3,q3,r3⟩:=one _ _ _ s3;simp only[xJ,q0,q1,q2,q3,r0,r1,r2,r3,xS,tD]
  have su:JK [.lst [.int g0,.int (g1*256),.int (g2*65536),.int (g3*16777216)]]=some (.int (g0+g1*256+g2*65536+g3*16777216)):=by
   show(match([g0,g1*256,g2*65536,g3*16777216].all λi=>decide (0<=i)&&decide (i<1099511627776))&&decide (([g0,g1*256,g2*65536,g3*16777216]:List Int).length<=1000)with|true=>some (D.int ([g0,g1*256,g2*65536,g3*16777216]:List Int).sum)|false=>none)=_
   have al:(([g0,g1*256,g2*65536,g3*16777216]:List Int).all λi=>decide (0<=i)&&decide (i<1099511627776))=true:=by
    simp only[xf,List.all_nil,yD,decide_eq_true_eq,and_true];refine⟨⟨?_,?_⟩,⟨?_,?_⟩,⟨?_,?_⟩,?_,?_⟩<;>omega
   rw[al];show some (D.int (g0+(g1*256+(g2*65536+(g3*16777216+0)))))=_
   congr 2
   omega
  rw[KA];unfold U0;simp![z,l,su]
 rw[K9];unfold V_;have sq:Wc (.lst (ZO x))=some (ZO x):=rfl;simp![B7,sq,e,wo]
theorem G8{x:Int}:gJ [.int x]=some (false,.tup [.int (x%256),.int (x/256%256),.int (x/65536%256),.int (x/16777216%256)]):=by
 have p0:wN [.int x,.int 0,.int 8]=some (false,.int (x%256)):=by
  have:=Y6 (x:=x) (l:=0) (w:=8) (by decide);rw[Tn,Wn]at this;exact this
 have p1:wN [.int x,.int 8,.int 8]=some (false,.int (x/256%256)):=Y6 (l:=8) (w:=8) (by decide);have p2:wN [.int x,.int 16,.int 8]=some (false,.int (x/65536%256)):=Y6 (l:=16) (w:=8) (by decide);have p3:wN [.int x,.int 24,.int 8]=some (false,.int (x/16777216%256)):=Y6 (l:=24) (w:=8) (by decide);have one:∀(u w:D),wN [.int x,u,.int 8]=some (false,w)->∃σ1,yK 1 u [some (false,.int x),none]=some σ1/\Wl σ1=some w:=λu w h=>⟨[some (false,.int x),some (false,u)],rfl,by unfold Wl; simp![h]⟩
 obtain⟨t0,q0,r0⟩:=one _ _ p0;obtain⟨t1,q1,r1⟩:=one _ _ p1;obtain⟨t2,q2,r2⟩:=one _ _ p2;obtain⟨t3,q3,r3⟩:=one _ _ p3
 have l:xJ (yK 1) xS Wl [some (false,.int x),none] BE=some [.int (x%256),.int (x/256%256),.int (x/65536%256),.int (x/16777216%256)]:=by
  show xJ (yK 1) xS Wl [some (false,.int x),none] [.int 0,.int 8,.int 16,.int 24]=_;simp only[xJ,q0,q1,q2,q3,r0,r1,r2,r3,xS,tD]
 have ft:∀w x y z:D,gu [.lst [w,x,y,z]]=some (.tup [w,x,y,z]):=λ_ _ _ _=>rfl
 rw[HZ];unfold Vk;simp![gw,l,ft]
theorem FQ{x w:Int}(hl:ps.length<=1000):gT [.own (.dic (kP ps) (vP ps)),.fz (.int x),.fz (.int w)]=some ([.own (.dic (kP (ye ps x (w%256))) (vP (ye ps x (w%256)))),.fz (.int x),.fz (.int w)],.fz .zG):=by
 have p0:wN [.int w,.int 0,.int 8]=some (false,.int (w%256)):=by
  have:=Y6 (x:=w) (l:=0) (w:=8) (by decide);rw[Tn,Wn]at this;exact this
 have ky:wb (.int x)=some (.inl x):=rfl;have ll:decide ((kP ps).length<yY)=true:=yQ (by unfold kP; rw[zm]; show _<16777216; omega);obtain⟨q1,q2⟩:=CB ps x (w%256);rw[<-q1,<-q2,Hz];unfold Qj;simp![xc,p0,ky,ll]
def vd(ps:List (Int×Int))(x w:Int):List (Int×Int):=ye (ye (ye (ye ps ((x+0)%65536) (w%256)) ((x+1)%65536) (w/256%256)) ((x+2)%65536) (w/65536%256)) ((x+3)%65536) (w/16777216%256)
theorem Sq{x w:Int}(hl:ps.length<=900):Ys [.own (.dic (kP ps) (vP ps)),.fz (.int x),.fz (.int w)]=some ([.own (.dic (kP (vd ps x w)) (vP (vd ps x w))),.fz (.int x),.fz (.int w)],.fz .zG):=by
 have z:Zn (vF q_ (zA (z7 1) zH)) (zj gJ (zA (z7 2) zH)) [none,some (false,.int x),some (false,.int w),none,none]=some [.tup [.int ((x+0)%65536),.int (w%256)],.tup [.int ((x+1)%65536),.int (w/256%256)],.tup [.int ((x+2)%65536),.int (w/65536%256)],.tup [.int ((x+3)%65536),.int (w/16777216%256)]]:=by
  unfold Zn;simp![B7,G8];rfl
 have one:∀(qs:List (Int×Int)) (u v:Int) (x3 x4:Option M),qs.length<=1000->0<=v->v<256->Um [some (.own (.dic (kP qs) (vP qs))),some (.fz (.int x)),some (.fz (.int w)),some (.fz (.int u)),some (.fz (.int v))]=some (.nx [some (.own (.dic (kP (ye qs u v)) (vP (ye qs u v)))),some (.fz (.int x)),some (.fz (.int w)),some (.fz (.int u)),some (.fz (.int v))]):=λqs u v x3 x4 hq v0 v1=>by
  have pb:=FQ (ps:=qs) (x:=u) (w:=v) hq;rw[Int.emod_eq_of_lt v0 v1]at pb;have ar:p9 (.own (.dic (kP qs) (vP qs))) 0 []=.p 0 []:=rfl;unfold Um;simp![xc,ar,pb]
 have kt:∀(o x3 x4:Option M)(u v:D),jW 3 4 (.tup [u,v]) [o,some (.fz (.int x)),some (.fz (.int w)),x3,x4]=some [o,some (.fz (.int x)),some (.fz (.int w)),some (.fz u),some (.fz v)]:=λ_ _ _ _ _=>rfl
 have l0:=qR (ps:=ps) (a:=(x+0)%65536) (b:=w%256);have o0:=one ps ((x+0)%65536) (w%256) none none (by omega) (by omega) (by omega);generalize hq0:ye ps ((x+0)%65536) (w%256)=p0 at *;have l1:=qR (ps:=p0) (a:=(x+1)%65536) (b:=w/256%256);have o1:=one p0 ((x+1)%65536) (w/256%256) none none (by omega) (by omega) (by omega);generalize hq1:ye p0 ((x+1)%65536) (w/256%256)=p1 at *;have l2:=qR (ps:=p1) (a:=(x+2)%65536) (b:=w/65536%256);have o2:=one p1 ((x+2)%65536) (w/65536%256) none none (by omega) (by omega) (by omega);generalize hq2:ye p1 ((x+2)%65536) (w/65536%256)=p2 at *;have o3:=one p2 ((x+3)%65536) (w/16777216%256) none none (by omega) (by omega) (by omega)
 have ep:ye p2 ((x+3)%65536) (w/16777216%256)=vd ps x w:=by
  unfold vd;rw[hq0,hq1,hq2]
 rw[ep]at o3
 have lp:wQ (jW 3 4) Um [.tup [.int ((x+0)%65536),.int (w%256)],.tup [.int ((x+1)%65536),.int (w/256%256)],.tup [.int ((x+2)%65536),.int (w/65536%256)],.tup [.int ((x+3)%65536),.int (w/16777216%256)]] [some (.own (.dic (kP ps) (vP ps))),some (.fz (.int x)),some (.fz (.int w)),none,none]=some (.nx [some (.own (.dic (kP (vd ps x w)) (vP (vd ps x w)))),some (.fz (.int x)),some (.fz (.int w)),some (.fz (.int ((x+3)%65536))),some (.fz (.int (w/16777216%256)))]):=by
  simp only[wQ,kt,o0,o1,o2,o3,tD]
 have hd:hide (.own (.dic (kP ps) (vP ps)))=none:=rfl;rw[H_];unfold Qk;simp![xc,hd,z,lp]
theorem kK{x y z w:D}:zI (.tup [x,y,z,w]) (.int 0)=some x:=rfl
theorem jg{x y z w:D}:zI (.tup [x,y,z,w]) (.int 1)=some y:=rfl
theorem YE{x y z w:D}:zI (.tup [x,y,z,w]) (.int 2)=some z:=rfl
theorem YF{x y z w:D}:zI (.tup [x,y,z,w]) (.int 3)=some w:=rfl
theorem VS{k:Str}{hk:List (Sum Int Str)}{hv:List D}{d:D}{s:Nat}{x n:Int}(hs:Ws[s]?=some x):tK [vq (wI Ws) a b c hk hv,.tup [.str k,d,.int (s:Int),.int n]]=some (false,.int ((x+n)%65536)):=by
 rw[HV];unfold Vg;simp![UO,YE,YF,tY hs,Lv]
theorem Gj{d s:Nat}{x n:Int}(hd:d<Ws.length)(hs:Ws[s]?=some x):Yn [st (wI Ws) a b c (kP ps) (vP ps),.fz (.tup [.str "load",.int (d:Int),.int (s:Int),.int n])]=some ([st (wI (Ws.set d (gP ps ((x+n)%65536)))) a b c (kP ps) (vP ps),.fz (.tup [.str "load",.int (d:Int),.int (s:Int),.int n])],.fz .zG):=by
 rw[Hc];unfold QZ;simp![xc,pq,UN,VS hs,Qp,jg,M1,FP,YO,Ui hd,Ta]
theorem Gk(P:xW ps){d s:Nat}{x n:Int}(hd:d<Ws.length)(hs:Ws[s]?=some x):Yo [st (wI Ws) a b c (kP ps) (vP ps),.fz (.tup [.str "loadw",.int (d:Int),.int (s:Int),.int n])]=some ([st (wI (Ws.set d (gP ps (((x+n)%65536+0)%65536)+gP ps (((x+n)%65536+1)%65536)*256+gP ps (((x+n)%65536+2)%65536)*65536+gP ps (((x+n)%65536+3)%65536)*16777216))) a b c (kP ps) (vP ps),.fz (.tup [.str "loadw",.int (d:Int),.int (s:Int),.int n])],.fz .zG):=by
 have w:=dq P (x:=(x+n)%65536);generalize gP ps (((x+n)%65536+0)%65536)+gP ps (((x+n)%65536+1)%65536)*256+gP ps (((x+n)%65536+2)%65536)*65536+gP ps (((x+n)%65536+3)%65536)*16777216=v at w;rw[Hd];unfold Qa;simp![xc,pq,UN,VS hs,w,jg,M1,FP,YO,Ui hd,Ta]
theorem Gm(hl:ps.length<=1000){d s:Nat}{x n v:Int}(hd:Ws[d]?=some v)(hs:Ws[s]?=some x):Yp [st (wI Ws) a b c (kP ps) (vP ps),.fz (.tup [.str "store",.int (d:Int),.int (s:Int),.int n])]=some ([st (wI Ws) a b c (kP (ye ps ((x+n)%65536) (v%256))) (vP (ye ps ((x+n)%65536) (v%256))),.fz (.tup [.str "store",.int (d:Int),.int (s:Int),.int n])],.fz .zG):=by
 have ar:p9 (.own (.dic (kP ps) (vP ps))) 0 [.at ["State"] "held"]=.p 0 [.at ["State"] "held"]:=rfl;rw[Hf];unfold Qc;simp![xc,pq,UO,VS hs,tY hd,jg,Lz,FK,ar,FQ hl]
theorem Gn(hl:ps.length<=900){d s:Nat}{x n v:Int}(hd:Ws[d]?=some v)(hs:Ws[s]?=some x):Yq [st (wI Ws) a b c (kP ps) (vP ps),.fz (.tup [.str "storew",.int (d:Int),.int (s:Int),.int n])]=some ([st (wI Ws) a b c (kP (vd ps ((x+n)%65536) v)) (vP (vd ps ((x+n)%65536) v)),.fz (.tup [.str "storew",.int (d:Int),.int (s:Int),.int n])],.fz .zG):=by
 have ar:p9 (.own (.dic (kP ps) (vP ps))) 0 [.at ["State"] "held"]=.p 0 [.at ["State"] "held"]:=rfl;rw[Hg];unfold Qd;simp![xc,pq,UO,VS hs,tY hd,jg,Lz,FK,ar,Sq hl]
theorem U9{k:Str}{d s n:D}{F:FM}{S S':M}(h1:JC ZS (.str k)=some (.bl true))(h2:getK ZS Mr (.inr k)=some F)(hS:∀d,S≠.fz d)(h:F [S,.fz (.tup [.str k,d,s,n])]=some ([S',.fz (.tup [.str k,d,s,n])],.fz .zG)) :
  gK [S,.fz (.tup [.str k,d,s,n])]=some ([S',.fz (.tup [.str k,d,s,n])],.fz .zG):=by
 rw[He];unfold Qb
 have hn:p9 S 0 []=.p 0 []:=by
  cases S with
  |fz d=>exact absurd rfl (hS d)
  |_=>rfl
 simp![xc,kK,h1,Km,h2,hn,h]
end
def kL:FA:=(uv (eC (.int 0)) (z7 3))
def uw:zw:=(y0 (x_ 8 (yR (e2 xN (e2 yq (z7 2) (z7 7)) (eC (.int 65536)))))
    (y0 (ql (qt (tE (e2 vV (e2 zI (z7 0) (eC (.int 0))) (wZ (zA (eC (.str "store")) (zA (eC (.str "storew")) zH))))))
     (pL 1 [.ky (.inr "bytes")] (z7 8) (yR (e2 xN (e2 ZU (z7 4) (z7 6)) (eC (.int 256)))))
     qm)
    (y0 (Us 5 (tT λi j=>i+j) (vp (e2 X9 (z7 6) (jS (e2 zI (z7 1) (eC (.str "bytes"))) (z7 8) (eC (.int 0))))))
    (x_ 6 (yR (e2 uo (eC (.int 256)) (z7 6)))))))
def ZP:zw:=
 (y0 (x_ 2 (vp (e2 xN (e2 yq (e2 zI (e2 zI (z7 1) (eC (.str "words"))) (e2 zI (z7 0) (eC (.int 2)))) (e2 zI (z7 0) (eC (.int 3)))) (eC (.int 65536)))))
  (y0 (x_ 3 (yR (e2 yq (eC (.int 1)) (e2 uo (eC (.int 3)) (eL UF (zA (e2 vV (e2 zI (z7 0) (eC (.int 0))) (wZ (zA (eC (.str "loadw")) (zA (eC (.str "storew")) zH)))) zH))))))
  (y0 (x_ 4 (vp (e2 zI (e2 zI (z7 1) (eC (.str "words"))) (e2 zI (z7 0) (eC (.int 1))))))
  (y0 (x_ 5 (yR (eC (.int 0))))
  (y0 (x_ 6 (yR (eC (.int 1))))
  (y0 (kB kL (vu 7)
   uw)
  (ql (qt (tE (e2 vV (e2 zI (z7 0) (eC (.int 0))) (wZ (zA (eC (.str "load")) (zA (eC (.str "loadw")) zH))))))
   (qM 1 [.ky (.inr "words")] (e2 zI (z7 0) (eC (.int 1))) (yR (z7 5)))
   qm)))))))
def p6:FM:=xr 2 9 ZP
theorem UV(x0 x1:M):p6 [x0,x1]=wU 2 9 ZP [x0,x1]:=rfl
def Qg:zw:=
 (vH (vE p6 (xt (z7 0) (vS 1 [] xv))))
def gO:FM:=xr 2 2 Qg
theorem Hn(x0 x1:M):gO [x0,x1]=wU 2 2 Qg [x0,x1]:=rfl
def IH:zw:=(pL 2 [] (z7 3) (yR (z7 4)))
def Qe:zw:=
 (y0 (x_ 2 (jP (eC (.dic [] []))))
  (y0 (kB (vY (z7 1)) (jW 3 4)
   IH)
  (pM (Qr ["words", "marks", "bytes", "at", "many"] (gl (jP (eL vW (zA (z7 0) zH))) (gl (jP (wZ (zA (eC (.bl false)) (zA (eC (.bl false)) (zA (eC (.bl false)) zH))))) (gl (U5 2) (gl (yR (eC (.int 0))) (gl (yR (eC (.int 0))) Qz)))))))))
def gN:FM:=xr 2 5 Qe
theorem Hl(x0 x1:M):gN [x0,x1]=wU 2 5 Qe [x0,x1]:=rfl
def Qi:zw:=
 (y0 (vH (vE gO (xt (z7 0) (vS 1 [] xv))))
  (y0 (XI 1 [] "at" (eC (.int 1)))
  (XI 1 [] "many" (eC (.int 1)))))
def gR:FM:=xr 2 2 Qi
theorem Hu(x0 x1:M):gR [x0,x1]=wU 2 2 Qi [x0,x1]:=rfl
def XZ:FA:=(uv (eC (.int 0)) (eL gt (zA (z7 1) zH)))
def IJ:zw:=(y0 (ql (OR (qt (tE (e2 qI (zj jE (zA (z7 4) (zA (e2 yq (zj vn (zA (z7 0) (zA (eC (.int 2)) zH))) (z7 6)) zH))) (zj gQ (zA (z7 5) (zA (eC (.bl false)) zH)))))) (OS (X2 UI (jQ "RowMachine" "step" 4 [] tJ xv) (yR (eC (.bl true))))))
     (pM (yR (eC (.bl false))))
     qm)
    (vH (vE gR (xt (e2 zI (z7 1) (z7 6)) (vS 5 [] xv)))))
def Qh:zw:=
 (y0 (x_ 2 (yR (vF jG (zA (zj vn (zA (z7 0) (zA (eC (.int 0)) zH))) zH))))
  (y0 (x_ 3 (yR (vF jF (zA (zj vn (zA (z7 0) (zA (eC (.int 1)) zH))) zH))))
  (y0 (x_ 4 (X4 "RowMachine" jC (xt (eL vW (zA (z7 1) zH)) (xt (eL vW (zA (z7 2) zH)) (xt (eL vW (zA (z7 3) zH)) xv)))))
  (y0 (x_ 5 (vE gN (xt (z7 2) (xt (z7 3) xv))))
  (y0 (kB XZ (vu 6)
   IJ)
  (y0 (x_ 7 (yR (e2 ZU (zj vn (zA (z7 0) (zA (eC (.int 2)) zH))) (eC (.int 4)))))
  (pM (Qq (vp (e2 xI (zj jE (zA (z7 4) (zA (z7 7) zH))) (zj gQ (zA (z7 5) (zA (eC (.bl true)) zH))))) (X2 UG (jQ "RowMachine" "step" 4 [] tJ xv) (yR (eC (.bl false))))))))))))
def ZA:FM:=xr 2 8 Qh
theorem Ht(x0 x1:M):ZA [x0,x1]=wU 2 8 Qh [x0,x1]:=rfl
section
variable{Ws Ws':List Int}{a b c:Bool}{hk:List (Sum Int Str)}{hv:List D}{n m:Int}{x y z:D}{p q r r':Bool}
theorem pp:wA (sM Ws a b c hk hv n m)=tR Ws a b c hk hv n m:=by simp only[sM,tR,wA,thaws]
theorem VU{i:Nat}{π:List yf}:p9 (sM Ws a b c hk hv n m) i π=.p i π:=rfl
theorem M0:uR (sM Ws a b c hk hv n m) [.ky (.inr "words")]=some (.own (.lst (wI Ws))):=rfl
theorem FO:uD (sM Ws a b c hk hv n m) [.ky (.inr "words")] (.own (.lst (wI Ws')))=some (sM Ws' a b c hk hv n m):=rfl
theorem X5:zI (tR Ws a b c hk hv n m) (.str "words")=some (.lst (wI Ws)):=rfl
theorem Er{e:Option M}{zf:zk}:XI 1 [] "at" (eC (.int 1)) (e::some (sM Ws a b c hk hv n m)::zf)=some (.nx (e::some (sM Ws a b c hk hv (n+1) m)::zf)):=rfl
theorem Es{e:Option M}{zf:zk}:XI 1 [] "many" (eC (.int 1)) (e::some (sM Ws a b c hk hv n m)::zf)=some (.nx (e::some (sM Ws a b c hk hv n (m+1))::zf)):=rfl
theorem CO{r:D}{hk':List (Sum Int Str)}{hv':List D}(h:∀n m,gO [.fz r,sM Ws a b c hk hv n m]=some ([.fz r,sM Ws' p q r' hk' hv' n m],.fz .zG)):gR [.fz r,sM Ws a b c hk hv n m]=some ([.fz r,sM Ws' p q r' hk' hv' (n+1) (m+1)],.fz .zG):=by
 rw[Hu];unfold Qi;simp![xc,VU,h,Er,Es]
theorem MK{ps:List (Int×Int)}(P:xW ps)(hl:ps.length<=1000):gN [.fz (.lst (wI Ws)),.fz (.lst (ps.map pD))]=some ([.fz (.lst (wI Ws)),.fz (.lst (ps.map pD))],sM Ws false false false (kP ps) (vP ps) 0 0):=by
 obtain⟨β',e1,x,y,rfl⟩:=Ur (g:=jW 3 4) (b:=IH) (λi β=>∃x y:Option M,β=[some (.fz (.lst (wI Ws))),some (.fz (.lst (ps.map pD))),some (.own (.dic (kP (ps.take i)) (vP (ps.take i)))),x,y])
  (ds:=ps.map pD) (β:=[some (.fz (.lst (wI Ws))),some (.fz (.lst (ps.map pD))),some (.own (.dic [] [])),none,none]) 0 ⟨none,none,rfl⟩ λi d β hd hp=>by
   obtain⟨x,y,rfl⟩:=hp;rw[vi];have hi:i<ps.length:=by have:=(yA.mp hd).1; rw[zm]at this; exact this
   rw[vN,xD hi]at hd;cases hd;generalize hp:ps[i]=p;have et:ps.take (i+1)=ps.take i++[p]:=by rw[Wx hi,hp]
   have nin:p.1 ∉ (ps.take i).map (·.1):=by
    have nd:=P.nd
    have e2:ps.map (·.1)=(ps.take i).map (·.1)++p.1::(ps.drop (i+1)).map (·.1):=by
     rw[<-hp,<-y_,<-kY hi,<-tz,L6]
    rw[e2,Wt]at nd;intro z;exact nd.2.2 _ z _ yr rfl
   obtain⟨q1,q2⟩:=Iv (b:=p.2) nin;have ll:decide ((kP (ps.take i)).length<yY)=true:=yQ (by unfold kP; rw[zm,p_]; show _<16777216; omega);refine⟨_,[some (.fz (.lst (wI Ws))),some (.fz (.lst (ps.map pD))),some (.own (.dic (kP (ps.take (i+1))) (vP (ps.take (i+1))))),some (.fz (.int p.1)),some (.fz (.int p.2))],rfl,?_,_,_,rfl⟩;rw[et,<-q1,<-q2];unfold IH;have ky:wb (.int p.1)=some (.inl p.1):=rfl;simp![xc,ky,ll]
 rw[vi,zm,Ww]at e1;have fl:vW [.lst (wI Ws)]=some (.lst (wI Ws)):=rfl;rw[Hl];unfold Qe;simp![xc,e1,fl];rfl
theorem Bt{x:Str}:qI (.str x) (.str x)=some (.bl false):=by
 show some (D.bl (!(x==x)))=_;rw[Yc];rfl
theorem Gw{x:Str}:xI (.str x) (.str x)=some (.bl true):=by
 show some (D.bl (x==x))=_;rw[Yc]
theorem Qx{T fw fh:D}{e due done:Int}{s:M}{x0 x1 x2 x3 x5 x6 x7:Option M}:jQ "RowMachine" "step" 4 [] tJ xv [x0,x1,x2,x3,some (wH T e fw fh s due done),x5,x6,x7]=gj tJ [.p 4 []] [x0,x1,x2,x3,some (wH T e fw fh s due done),x5,x6,x7]:=rfl
def Ll(RK:D->Prop):Prop:=∀(r:D)(Ws:List Int)(a b c:Bool)(ps:List (Int×Int)),RK r->Ws.length=8->(∀w∈Ws,0<=w/\w<4294967296)->xW ps->ps.length<=800->∃(Ws':List Int) (a' b' c':Bool) (ps':List (Int×Int)),Ws'.length=8/\(∀w∈Ws',0<=w/\w<4294967296)/\xW ps'/\ps'.length<=ps.length+4/\
  gK [st (wI Ws) a b c (kP ps) (vP ps),.fz r]=some ([st (wI Ws') a' b' c' (kP ps') (vP ps'),.fz r],.fz .zG)/\(∀n m,gO [.fz r,sM Ws a b c (kP ps) (vP ps) n m]=some ([.fz r,sM Ws' a' b' c' (kP ps') (vP ps') n m],.fz .zG))/\
  ZC [vq (wI Ws') a' b' c' (kP ps') (vP ps'),r]=some (false,.bl false)/\xI r (.tup [.str "stop"])=some (.bl false)/\vM r=true
theorem SV{RK:D->Prop}{ns:List Int}{rows:List D}(pln:∀r,RK r->ge r)(one:Ll RK)(hr:∀r∈rows,RK r)(h8:rows.length<=8):∃r,ZA [.fz (.lst (ns.map D.int)),.fz (.lst rows)]=some (r,.fz (.bl true)):=by
 obtain⟨W0,e1,l0,w0⟩:=Cl (xz ns 0);obtain⟨ps,e2,P,lp⟩:=Dl (xz ns 1);have c0:=jR ns (k:=0) (by decide);have c1:=jR ns (k:=1) (by decide);have c2:=jR ns (k:=2) (by decide);have ri:=Fu (λr h=>pln r (hr r h)) (by omega) l0 w0 P (by omega);have be:=MK (Ws:=W0) P (by omega);have fl1:vW [.lst rows]=some (.lst rows):=rfl;have fl2:vW [.lst (wI W0)]=some (.lst (wI W0)):=rfl;have fl3:vW [.lst (ps.map pD)]=some (.lst (ps.map pD)):=rfl;generalize hT:D.dic (wq rows.length) (t7 rows rows.length)=T at ri;generalize hfw:D.lst (wI W0)=fw at ri;generalize hfh:D.dic (kP ps) (vP ps)=fh at ri
 have hrg:∀{x2 x3 x4 x5 x6 x7:Option M},XZ (uu [some (.fz (.lst (ns.map D.int))),some (.fz (.lst rows)),x2,x3,x4,x5,x6,x7])=some (yk rows.length):=λ{x2 x3 x4 x5 x6 x7}=>by
  unfold XZ;have:=kM (f:=eL gt (zA (z7 1) zH)) (τ:=uu [some (.fz (.lst (ns.map D.int))),some (.fz (.lst rows)),x2,x3,x4,x5,x6,x7]) (n:=(rows.length:Int)) rfl (by omega);rw[tw]at this;exact this
 have stnd:∀(i:Nat)(Ws:List Int)(a b c:Bool)(qs:List (Int×Int)),i<rows.length->vm [yV T fw fh rows.length i i Ws a b c qs]=some (false,.bl false):=λi Ws a b c qs hi=>by
  obtain⟨_,_,_,_,_,_,_,_,_,_,_,_,hs,_⟩:=one _ W0 false false false ps (hr _ (pz hi)) l0 w0 P (by omega);rcases TK (T:=T) (fw:=fw) (fh:=fh) (sd:=vq (wI Ws) a b c (kP qs) (vP qs)) (row:=rows[i]) (nx:=.int ((i:Int)+1)) (tg:=.zG) (e:=rows.length) (due:=i) (done:=i) (k:=false) λ_=>⟨by rw[<-hT]; exact OQ hi,hs⟩with z|⟨z,_⟩
  ·unfold yV;rw[z,v4 (by omega)];rfl
  ·omega
 obtain⟨β',e3,Ws,a,b,c,qs,x6,lw,hw,Q,lq,rfl⟩:=Ur (g:=vu 6) (b:=IJ) (λi β=>∃(Ws:List Int) (a b c:Bool) (qs:List (Int×Int)) (x6:Option M),Ws.length=8/\(∀w∈Ws,0<=w/\w<4294967296)/\xW qs/\qs.length<=6+4*i/\β=[some (.fz (.lst (ns.map D.int))),some (.fz (.lst rows)),some (.fz (.lst (wI W0))),some (.fz (.lst (ps.map pD))),some (wH T rows.length fw fh (st (wI Ws) a b c (kP qs) (vP qs)) (i:Int) (i:Int)),some (sM Ws a b c (kP qs) (vP qs) (i:Int) (i:Int)),x6,none])
  (ds:=yk rows.length) (β:=[some (.fz (.lst (ns.map D.int))),some (.fz (.lst rows)),some (.fz (.lst (wI W0))),some (.fz (.lst (ps.map pD))),some (wH T rows.length fw fh (st (wI W0) false false false (kP ps) (vP ps)) 0 0),some (sM W0 false false false (kP ps) (vP ps) 0 0),none,none]) 0 ⟨W0,false,false,false,ps,none,l0,w0,P,by omega,rfl⟩ λi d β hd hp=>by
   obtain⟨Ws,a,b,c,qs,x6,lw,hw,Q,lq,rfl⟩:=hp;rw[vi]at lq ⊢;have hi:i<rows.length:=by have:=(yA.mp hd).1; simpa [yk]using this
   have ed:d=.int (i:Int):=by
    rw[vN,EA hi]at hd;cases hd;rfl
   subst ed;obtain⟨Ws',a',b',c',qs',lw',hw',Q',lq',dr,dd,ld,hst,tp⟩:=one _ Ws a b c qs (hr _ (pz hi)) lw hw Q (by omega);have ix:zI T (.int (i:Int))=some (.tup [rows[i],.int ((i:Int)+1),.zG]):=by rw[<-hT]; exact OQ hi
   have stp:=CM (T:=T) (fw:=fw) (fh:=fh) (e:=rows.length) (due:=i) (done:=i) (s:=st (wI Ws) a b c (kP qs) (vP qs)) (s':=st (wI Ws') a' b' c' (kP qs') (vP qs')) (d2:=(i:Int)+1) (by omega) ix hst (by show(vM rows[i]&&_)=true; rw[tp]; rfl) YM dr false (by rw[pq]; exact ld) rfl;have lk:=Bk (T:=T) (fw:=fw) (fh:=fh) (e:=rows.length) (due:=i) (done:=i) (Ws:=Ws) (a:=a) (b:=b) (c:=c) (cell:=xz ns 2+i) (k:=false) Q (by omega) hw (by omega) (by omega) (by omega) (by omega) (by omega) (stnd i Ws a b c qs hi);unfold yV at lk;have du:=Mw (due:=i) (done:=i) (Ws:=Ws) (a:=a) (b:=b) (c:=c) (k:=false) Q (by omega) hw (by omega) (by omega) (by omega) (by omega) (by omega);have sg:=CO (n:=i) (m:=i) dd
   have rix:zI (.lst rows) (.int (i:Int))=some rows[i]:=by
    show vT rows (i:Int)=_;unfold vT;rw[zM (kX i),tw,xD hi]
   have nb:UI (.bl true) (.bl true)=some (.bl false):=rfl;refine⟨_,[some (.fz (.lst (ns.map D.int))),some (.fz (.lst rows)),some (.fz (.lst (wI W0))),some (.fz (.lst (ps.map pD))),some (wH T rows.length fw fh (st (wI Ws') a' b' c' (kP qs') (vP qs')) ((i:Int)+1) ((i:Int)+1)),some (sM Ws' a' b' c' (kP qs') (vP qs') ((i:Int)+1) ((i:Int)+1)),some (.fz (.int (i:Int))),none],rfl,?_,Ws',a',b',c',qs',_,lw',hw',Q',by omega,rfl⟩;unfold IJ;generalize hS:(xL (.lst (vis Ws a b c qs (i:Int) (i:Int) false))).shown=SS at lk du;generalize ns.map D.int=NS at *;generalize rows[i]=row at *;simp![xc,YN,pq,pp,c2,add_int,lk,du,Bt,Qx,stp,nb,rix,VU,sg]
 have lu:(yk rows.length).length=rows.length:=by simp[yk]
 rw[vi,lu]at e3
 have stE:vm [yV T fw fh rows.length rows.length rows.length Ws a b c qs]=some (false,.bl true):=by
  rcases TK (T:=T) (fw:=fw) (fh:=fh) (sd:=vq (wI Ws) a b c (kP qs) (vP qs)) (row:=.zG) (nx:=.zG) (tg:=.zG) (e:=rows.length) (due:=rows.length) (done:=rows.length) (k:=true) λz=>absurd rfl z with z|⟨_,z⟩
  ·unfold yV;rw[z,yQ rfl];rfl
  ·exact z
 have lk:=Bk (T:=T) (fw:=fw) (fh:=fh) (e:=rows.length) (due:=rows.length) (done:=rows.length) (Ws:=Ws) (a:=a) (b:=b) (c:=c) (cell:=xz ns 2/4) (k:=true) Q (by omega) hw (by omega) (by omega) (by omega) (by omega) (by omega) stE;unfold yV at lk;have du:=Mw (due:=rows.length) (done:=rows.length) (Ws:=Ws) (a:=a) (b:=b) (c:=c) (k:=true) Q (by omega) hw (by omega) (by omega) (by omega) (by omega) (by omega);have sE:=bc (T:=T) (fw:=fw) (fh:=fh) (e:=rows.length) (done:=rows.length) (s:=st (wI Ws) a b c (kP qs) (vP qs));have ib:UG (.bl false) (.bl false)=some (.bl true):=rfl;have dv:ZU (.int (xz ns 2)) (.int 4)=some (.int (xz ns 2/4)):=rfl;refine⟨[.fz (.lst (ns.map D.int)),.fz (.lst rows)],?_⟩;rw[Ht];unfold Qh;generalize (xL (.lst (vis Ws a b c qs (rows.length:Int) (rows.length:Int) true))).shown=SS at lk du;subst hfw;generalize hNS:ns.map D.int=NS at *;have k_:∀{x2 x3 x4 x5 x6 x7:Option M},XZ [some (false,.lst NS),some (false,.lst rows),x2.bind hide,x3.bind hide,x4.bind hide,x5.bind hide,x6.bind hide,x7.bind hide]=some (yk rows.length):=λ{x2 x3 x4 x5 x6 x7}=>hrg (x2:=x2) (x3:=x3) (x4:=x4) (x5:=x5) (x6:=x6) (x7:=x7)
 have hd3:hide (wH T rows.length (.lst (wI W0)) fh (st (wI W0) false false false (kP ps) (vP ps)) 0 0)=none:=rfl;have hd4:hide (sM W0 false false false (kP ps) (vP ps) 0 0)=none:=rfl;have hrg2:XZ [some (false,.lst NS),some (false,.lst rows),some (false,.lst (wI W0)),some (false,.lst (ps.map pD)),none,none,none,none]=some (yk rows.length):=hrg (x2:=some (.fz (.lst (wI W0)))) (x3:=some (.fz (.lst (ps.map pD)))) (x4:=none) (x5:=none) (x6:=none) (x7:=none);simp![xc,c0,c1,c2,e1,e2,fl1,fl2,fl3,ri,be,hd3,hd4,hrg2,e3,YN,pq,pp,lk,du,Gw,Qx,sE,ib,dv,vj]
end
section
variable{Ws:List Int}{a b c:Bool}{ps:List (Int×Int)}{p q:Int}
theorem Zm{hk:List (Sum Int Str)}{hv:List D}:hide (sM Ws a b c hk hv p q)=none:=rfl
theorem Q_{hk:List (Sum Int Str)}{hv:List D}:zI (tR Ws a b c hk hv p q) (.str "bytes")=some (.dic hk hv):=rfl
theorem Eo{hk:List (Sum Int Str)}{hv:List D}:uR (sM Ws a b c hk hv p q) [.ky (.inr "bytes")]=some (.own (.dic hk hv)):=rfl
theorem So{hk hk':List (Sum Int Str)}{hv hv':List D}:uD (sM Ws a b c hk hv p q) [.ky (.inr "bytes")] (.own (.dic hk' hv'))=some (sM Ws a b c hk' hv' p q):=rfl
theorem Br{W g:Int}(w0:0<=W)(w1:W<4294967296)(g0:0<=g)(g1:g<256):X9 (.int W) (.int g)=some (.int (W*g)):=by
 have e:(2:Nat) ^ 40=1099511627776:=by decide
 have b1:wP W<=40:=Qm (by omega);have b2:wP g<=40:=Qm (by omega);show(match decide (wP W+wP g<=134217728)with|true=>some (D.int (W*g))|false=>none)=_;rw[yQ (by omega)]
theorem CY{k:Str}{d s n cnt:D}{A N f f' W W' i:Int}{x8:Option M}(hk:vV (.str k) (.lst [.str "store",.str "storew"])=some (.bl false))(P:xW ps)(w0:0<W)(w1:W<4294967296)(hW:256*W=W')(hf:f+W*gP ps ((A+i)%65536)=f') :
  uw [some (.fz (.tup [.str k,d,s,n])),some (sM Ws a b c (kP ps) (vP ps) p q),some (.fz (.int A)),some (.fz cnt),some (.fz (.int N)),some (.fz (.int f)),some (.fz (.int W)),some (.fz (.int i)),x8]=some (.nx [some (.fz (.tup [.str k,d,s,n])),some (sM Ws a b c (kP ps) (vP ps) p q),some (.fz (.int A)),some (.fz cnt),some (.fz (.int N)),some (.fz (.int f')),some (.fz (.int W')),some (.fz (.int i)),some (.fz (.int ((A+i)%65536)))]):=by
 obtain⟨g0,g1⟩:=ut ((A+i)%65536) P.vA;have mb:=Br (by omega) w1 g0 g1;have l1:vZ 256=true:=by decide
 have ky:wb (.int ((A+i)%65536))=some (.inl ((A+i)%65536)):=rfl;have gg:=XD ((A+i)%65536) ps;subst hW hf;unfold uw;simp![xc,hk,kK,Us,uQ,jS,Zm,pp,Q_,ky,gg,mb,l1,add_int,vj]
theorem CZ{k:Str}{d s n cnt:D}{A N f W W' i:Int}{x8:Option M}(hk:vV (.str k) (.lst [.str "store",.str "storew"])=some (.bl true))(P:xW ps)(hl:ps.length<=1000)(w0:0<W)(w1:W<4294967296)(hW:256*W=W') :
  ∃f',uw [some (.fz (.tup [.str k,d,s,n])),some (sM Ws a b c (kP ps) (vP ps) p q),some (.fz (.int A)),some (.fz cnt),some (.fz (.int N)),some (.fz (.int f)),some (.fz (.int W)),some (.fz (.int i)),x8]=some (.nx [some (.fz (.tup [.str k,d,s,n])),some (sM Ws a b c (kP (ye ps ((A+i)%65536) (N/W%256))) (vP (ye ps ((A+i)%65536) (N/W%256))) p q),some (.fz (.int A)),some (.fz cnt),some (.fz (.int N)),some (.fz (.int f')),some (.fz (.int W')),some (.fz (.int i)),some (.fz (.int ((A+i)%65536)))]):=by
 have P':xW (ye ps ((A+i)%65536) (N/W%256)):=pd P (by omega) (by omega) (by omega) (by omega);obtain⟨g0,g1⟩:=ut ((A+i)%65536) P'.vA;have mb:=Br (by omega) w1 g0 g1;have l1:vZ 256=true:=by decide
 have ky:wb (.int ((A+i)%65536))=some (.inl ((A+i)%65536)):=rfl;have gg:=XD ((A+i)%65536) (ye ps ((A+i)%65536) (N/W%256));have ll:decide ((kP ps).length<yY)=true:=yQ (by unfold kP; rw[zm]; show _<16777216; omega);have c1:decide (0<W)=true:=yQ w0;have c2:decide (W<18446744073709551616)=true:=yQ (by omega);obtain⟨q1,q2⟩:=CB ps ((A+i)%65536) (N/W%256);refine⟨f+W*gP (ye ps ((A+i)%65536) (N/W%256)) ((A+i)%65536),?_⟩;subst hW;unfold uw;generalize hQ:ye ps ((A+i)%65536) (N/W%256)=Q at *;simp![xc,hk,kK,Us,uQ,jS,Zm,pp,Q_,Eo,So,ky,ll,q1,q2,gg,mb,l1,c1,c2,add_int,vj,Op]
theorem Uk{o0 o1 o2 o3 o4 o5 o6 o7 o8:Option M}{d:D}:vu 7 d [o0,o1,o2,o3,o4,o5,o6,o7,o8]=some [o0,o1,o2,o3,o4,o5,o6,some (.fz d),o8]:=rfl
theorem Uf{t:Bool}:UF [.bl t]=some (.int (if t then 1 else 0)):=by cases t<;>rfl
theorem T9{n:Nat}(hn:n<=1000){o0 o1 o2 o4 o5 o6 o7 o8:Option Sl}:kL [o0,o1,o2,some (false,.int (n:Int)),o4,o5,o6,o7,o8]=some (yk n):=by
 unfold kL;have:=kM (f:=z7 3) (τ:=[o0,o1,o2,some (false,.int (n:Int)),o4,o5,o6,o7,o8]) (n:=(n:Int)) rfl (by omega);rw[tw]at this;exact this
theorem N0(P:xW ps){d s:Nat}{x n v:Int}(hd:Ws[d]?=some v)(hs:Ws[s]?=some x):p6 [.fz (.tup [.str "load",.int (d:Int),.int (s:Int),.int n]),sM Ws a b c (kP ps) (vP ps) p q]=some ([.fz (.tup [.str "load",.int (d:Int),.int (s:Int),.int n]),sM (Ws.set d (gP ps ((x+n)%65536))) a b c (kP ps) (vP ps) p q],.fz .zG):=by
 have hl:d<Ws.length:=(yA.mp hd).1;have q1:vV (.str "load") (.lst [.str "loadw",.str "storew"])=some (.bl false):=rfl;have q3:vV (.str "load") (.lst [.str "load",.str "loadw"])=some (.bl true):=rfl;have t0:=CY (Ws:=Ws) (a:=a) (b:=b) (c:=c) (p:=p) (q:=q) (k := "load") (d:=.int (d:Int)) (s:=.int (s:Int)) (n:=.int n) (cnt:=.int 1) (A:=(x+n)%65536) (N:=v) (f:=0) (f':=gP ps ((x+n)%65536)) (W:=1) (W':=256) (i:=0) (x8:=none) rfl P (by decide) (by decide) rfl (by rw[Ot,C_ _ (Int.dvd_refl _)]; omega)
 have lp:wQ (vu 7) uw (yk 1) [some (.fz (.tup [.str "load",.int (d:Int),.int (s:Int),.int n])),some (sM Ws a b c (kP ps) (vP ps) p q),some (.fz (.int ((x+n)%65536))),some (.fz (.int 1)),some (.fz (.int v)),some (.fz (.int 0)),some (.fz (.int 1)),none,none]=some (.nx [some (.fz (.tup [.str "load",.int (d:Int),.int (s:Int),.int n])),some (sM Ws a b c (kP ps) (vP ps) p q),some (.fz (.int ((x+n)%65536))),some (.fz (.int 1)),some (.fz (.int v)),some (.fz (.int (gP ps ((x+n)%65536)))),some (.fz (.int 256)),some (.fz (.int 0)),some (.fz (.int (((x+n)%65536+0)%65536)))]):=by
  show wQ (vu 7) uw [.int 0] _=_;simp only[wQ,Uk,t0,tD]
 have lt3:vZ 3=true:=by decide
 have rg':∀{o0 o1 o2 o4 o5 o6 o7 o8:Option Sl},kL [o0,o1,o2,some (false,.int 1),o4,o5,o6,o7,o8]=some (yk 1):=λ{o0 o1 o2 o4 o5 o6 o7 o8}=>T9 (n:=1) (by decide)
 have n1:yq (.int 1) (.int (3*0))=some (.int 1):=rfl;rw[UV];unfold ZP;simp![xc,pp,Zm,X5,kK,jg,YE,YF,tY hd,tY hs,add_int,q1,q3,Uf,lt3,n1,rg',lp,M0,FO,YO,Ui hl,Ta,vj,Wm,qW,vz]
theorem N1(P:xW ps){d s:Nat}{x n v:Int}(hd:Ws[d]?=some v)(hs:Ws[s]?=some x):p6 [.fz (.tup [.str "loadw",.int (d:Int),.int (s:Int),.int n]),sM Ws a b c (kP ps) (vP ps) p q]=some ([.fz (.tup [.str "loadw",.int (d:Int),.int (s:Int),.int n]),sM (Ws.set d (gP ps (((x+n)%65536+0)%65536)+gP ps (((x+n)%65536+1)%65536)*256+gP ps (((x+n)%65536+2)%65536)*65536+gP ps (((x+n)%65536+3)%65536)*16777216)) a b c (kP ps) (vP ps) p q],.fz .zG):=by
 have hl:d<Ws.length:=(yA.mp hd).1;have q1:vV (.str "loadw") (.lst [.str "loadw",.str "storew"])=some (.bl true):=rfl;have q3:vV (.str "loadw") (.lst [.str "load",.str "loadw"])=some (.bl true):=rfl;have tt:=λ(f f' W W' i:Int) (x8:Option M)=>CY (Ws:=Ws) (a:=a) (b:=b) (c:=c) (p:=p) (q:=q) (k := "loadw") (d:=.int (d:Int)) (s:=.int (s:Int)) (n:=.int n) (cnt:=.int 4) (A:=(x+n)%65536) (N:=v) (f:=f) (f':=f') (W:=W) (W':=W') (i:=i) (x8:=x8) rfl P
 have t0:=tt 0 (gP ps (((x+n)%65536+0)%65536)) 1 256 0 none (by decide) (by decide) rfl (by omega);have t1:=tt (gP ps (((x+n)%65536+0)%65536)) (gP ps (((x+n)%65536+0)%65536)+gP ps (((x+n)%65536+1)%65536)*256) 256 65536 1 (some (.fz (.int (((x+n)%65536+0)%65536)))) (by decide) (by decide) rfl (by omega);have t2:=tt (gP ps (((x+n)%65536+0)%65536)+gP ps (((x+n)%65536+1)%65536)*256) (gP ps (((x+n)%65536+0)%65536)+gP ps (((x+n)%65536+1)%65536)*256+gP ps (((x+n)%65536+2)%65536)*65536) 65536 16777216 2 (some (.fz (.int (((x+n)%65536+1)%65536)))) (by decide) (by decide) rfl (by omega);have t3:=tt (gP ps (((x+n)%65536+0)%65536)+gP ps (((x+n)%65536+1)%65536)*256+gP ps (((x+n)%65536+2)%65536)*65536) (gP ps (((x+n)%65536+0)%65536)+gP ps (((x+n)%65536+1)%65536)*256+gP ps (((x+n)%65536+2)%65536)*65536+gP ps (((x+n)%65536+3)%65536)*16777216) 16777216 4294967296 3 (some (.fz (.int (((x+n)%65536+2)%65536)))) (by decide) (by decide) rfl (by omega)
 have lp:wQ (vu 7) uw (yk 4) [some (.fz (.tup [.str "loadw",.int (d:Int),.int (s:Int),.int n])),some (sM Ws a b c (kP ps) (vP ps) p q),some (.fz (.int ((x+n)%65536))),some (.fz (.int 4)),some (.fz (.int v)),some (.fz (.int 0)),some (.fz (.int 1)),none,none]=some (.nx [some (.fz (.tup [.str "loadw",.int (d:Int),.int (s:Int),.int n])),some (sM Ws a b c (kP ps) (vP ps) p q),some (.fz (.int ((x+n)%65536))),some (.fz (.int 4)),some (.fz (.int v)),some (.fz (.int (gP ps (((x+n)%65536+0)%65536)+gP ps (((x+n)%65536+1)%65536)*256+gP ps (((x+n)%65536+2)%65536)*65536+gP ps (((x+n)%65536+3)%65536)*16777216))),some (.fz (.int 4294967296)),some (.fz (.int 3)),some (.fz (.int (((x+n)%65536+3)%65536)))]):=by
  show wQ (vu 7) uw [.int 0,.int 1,.int 2,.int 3] _=_;simp only[wQ,Uk,t0,t1,t2,t3,tD]
 have rg':∀{o0 o1 o2 o4 o5 o6 o7 o8:Option Sl},kL [o0,o1,o2,some (false,.int 4),o4,o5,o6,o7,o8]=some (yk 4):=λ{o0 o1 o2 o4 o5 o6 o7 o8}=>T9 (n:=4) (by decide)
 have lt3:vZ 3=true:=by decide
 have n1:yq (.int 1) (.int (3*1))=some (.int 4):=rfl;generalize gP ps (((x+n)%65536+0)%65536)+gP ps (((x+n)%65536+1)%65536)*256+gP ps (((x+n)%65536+2)%65536)*65536+gP ps (((x+n)%65536+3)%65536)*16777216=R at lp ⊢;rw[UV];unfold ZP;simp![xc,pp,Zm,X5,kK,jg,YE,YF,tY hd,tY hs,add_int,q1,q3,Uf,lt3,n1,rg',lp,M0,FO,YO,Ui hl,Ta,vj,Wm,qW,vz]
theorem N2(P:xW ps)(hp:ps.length<=1000){d s:Nat}{x n v:Int}(hd:Ws[d]?=some v)(hs:Ws[s]?=some x):p6 [.fz (.tup [.str "store",.int (d:Int),.int (s:Int),.int n]),sM Ws a b c (kP ps) (vP ps) p q]=some ([.fz (.tup [.str "store",.int (d:Int),.int (s:Int),.int n]),sM Ws a b c (kP (ye ps ((x+n)%65536) (v%256))) (vP (ye ps ((x+n)%65536) (v%256))) p q],.fz .zG):=by
 have q1:vV (.str "store") (.lst [.str "loadw",.str "storew"])=some (.bl false):=rfl;have q3:vV (.str "store") (.lst [.str "load",.str "loadw"])=some (.bl false):=rfl;obtain⟨f',t0⟩:=CZ (Ws:=Ws) (a:=a) (b:=b) (c:=c) (p:=p) (q:=q) (k := "store") (d:=.int (d:Int)) (s:=.int (s:Int)) (n:=.int n) (cnt:=.int 1) (A:=(x+n)%65536) (N:=v) (f:=0) (W:=1) (W':=256) (i:=0) (x8:=none) rfl P hp (by decide) (by decide) rfl;rw[Ot,C_ _ (Int.dvd_refl _),Wn]at t0
 have lp:wQ (vu 7) uw (yk 1) [some (.fz (.tup [.str "store",.int (d:Int),.int (s:Int),.int n])),some (sM Ws a b c (kP ps) (vP ps) p q),some (.fz (.int ((x+n)%65536))),some (.fz (.int 1)),some (.fz (.int v)),some (.fz (.int 0)),some (.fz (.int 1)),none,none]=some (.nx [some (.fz (.tup [.str "store",.int (d:Int),.int (s:Int),.int n])),some (sM Ws a b c (kP (ye ps ((x+n)%65536) (v%256))) (vP (ye ps ((x+n)%65536) (v%256))) p q),some (.fz (.int ((x+n)%65536))),some (.fz (.int 1)),some (.fz (.int v)),some (.fz (.int f')),some (.fz (.int 256)),some (.fz (.int 0)),some (.fz (.int ((x+n)%65536)))]):=by
  show wQ (vu 7) uw [.int 0] _=_;simp only[wQ,Uk,t0,tD]
 have rg':∀{o0 o1 o2 o4 o5 o6 o7 o8:Option Sl},kL [o0,o1,o2,some (false,.int 1),o4,o5,o6,o7,o8]=some (yk 1):=λ{o0 o1 o2 o4 o5 o6 o7 o8}=>T9 (n:=1) (by decide)
 have lt3:vZ 3=true:=by decide
 have n1:yq (.int 1) (.int (3*0))=some (.int 1):=rfl;rw[UV];unfold ZP;simp![xc,pp,Zm,X5,kK,jg,YE,YF,tY hd,tY hs,add_int,q1,q3,Uf,lt3,n1,rg',lp,vj,Wm,qW,vz]
theorem N3(P:xW ps)(hp:ps.length<=900){d s:Nat}{x n v:Int}(hd:Ws[d]?=some v)(hs:Ws[s]?=some x):p6 [.fz (.tup [.str "storew",.int (d:Int),.int (s:Int),.int n]),sM Ws a b c (kP ps) (vP ps) p q]=some ([.fz (.tup [.str "storew",.int (d:Int),.int (s:Int),.int n]),sM Ws a b c (kP (vd ps ((x+n)%65536) v)) (vP (vd ps ((x+n)%65536) v)) p q],.fz .zG):=by
 have q1:vV (.str "storew") (.lst [.str "loadw",.str "storew"])=some (.bl true):=rfl;have q3:vV (.str "storew") (.lst [.str "load",.str "loadw"])=some (.bl false):=rfl;have tt:=λ(qs:List (Int×Int)) (f W W' i:Int) (x8:Option M) (Q:xW qs)=>CZ (Ws:=Ws) (a:=a) (b:=b) (c:=c) (ps:=qs) (p:=p) (q:=q) (k := "storew") (d:=.int (d:Int)) (s:=.int (s:Int)) (n:=.int n) (cnt:=.int 4) (A:=(x+n)%65536) (N:=v) (f:=f) (W:=W) (W':=W') (i:=i) (x8:=x8) rfl Q
 obtain⟨f0,t0⟩:=tt ps 0 1 256 0 none P (by omega) (by decide) (by decide) rfl;rw[Wn]at t0;have l0:=qR (ps:=ps) (a:=((x+n)%65536+0)%65536) (b:=v%256);have P0:xW (ye ps (((x+n)%65536+0)%65536) (v%256)):=pd P (by omega) (by omega) (by omega) (by omega);generalize hq0:ye ps (((x+n)%65536+0)%65536) (v%256)=p0 at *;obtain⟨f1,t1⟩:=tt p0 f0 256 65536 1 (some (.fz (.int (((x+n)%65536+0)%65536)))) P0 (by omega) (by decide) (by decide) rfl;have l1:=qR (ps:=p0) (a:=((x+n)%65536+1)%65536) (b:=v/256%256);have P1:xW (ye p0 (((x+n)%65536+1)%65536) (v/256%256)):=pd P0 (by omega) (by omega) (by omega) (by omega);generalize hq1:ye p0 (((x+n)%65536+1)%65536) (v/256%256)=p1 at *;obtain⟨f2,t2⟩:=tt p1 f1 65536 16777216 2 (some (.fz (.int (((x+n)%65536+1)%65536)))) P1 (by omega) (by decide) (by decide) rfl;have l2:=qR (ps:=p1) (a:=((x+n)%65536+2)%65536) (b:=v/65536%256);have P2:xW (ye p1 (((x+n)%65536+2)%65536) (v/65536%256)):=pd P1 (by omega) (by omega) (by omega) (by omega);generalize hq2:ye p1 (((x+n)%65536+2)%65536) (v/65536%256)=p2 at *;obtain⟨f3,t3⟩:=tt p2 f2 16777216 4294967296 3 (some (.fz (.int (((x+n)%65536+2)%65536)))) P2 (by omega) (by decide) (by decide) rfl
 have ep:ye p2 (((x+n)%65536+3)%65536) (v/16777216%256)=vd ps ((x+n)%65536) v:=by
  unfold vd;rw[hq0,hq1,hq2]
 rw[ep]at t3
 have lp:wQ (vu 7) uw (yk 4) [some (.fz (.tup [.str "storew",.int (d:Int),.int (s:Int),.int n])),some (sM Ws a b c (kP ps) (vP ps) p q),some (.fz (.int ((x+n)%65536))),some (.fz (.int 4)),some (.fz (.int v)),some (.fz (.int 0)),some (.fz (.int 1)),none,none]=some (.nx [some (.fz (.tup [.str "storew",.int (d:Int),.int (s:Int),.int n])),some (sM Ws a b c (kP (vd ps ((x+n)%65536) v)) (vP (vd ps ((x+n)%65536) v)) p q),some (.fz (.int ((x+n)%65536))),some (.fz (.int 4)),some (.fz (.int v)),some (.fz (.int f3)),some (.fz (.int 4294967296)),some (.fz (.int 3)),some (.fz (.int (((x+n)%65536+3)%65536)))]):=by
  show wQ (vu 7) uw [.int 0,.int 1,.int 2,.int 3] _=_;simp only[wQ,Uk,t0,t1,t2,t3,tD]
 have rg':∀{o0 o1 o2 o4 o5 o6 o7 o8:Option Sl},kL [o0,o1,o2,some (false,.int 4),o4,o5,o6,o7,o8]=some (yk 4):=λ{o0 o1 o2 o4 o5 o6 o7 o8}=>T9 (n:=4) (by decide)
 have lt3:vZ 3=true:=by decide
 have n1:yq (.int 1) (.int (3*1))=some (.int 4):=rfl;rw[UV];unfold ZP;simp![xc,pp,Zm,X5,kK,jg,YE,YF,tY hd,tY hs,add_int,q1,q3,Uf,lt3,n1,rg',lp,vj,Wm,qW,vz]
end
def VY:FS:=
 (z_ (xw (qr (tE (zj p5 (zA (z7 1) zH))))
   (λ_=>none)
   wf)
  (yM (zj qb (zA (e1 (yT ["State"] "held") (e1 (yT ["RowMachine"] "state") (z7 0))) (zA (z7 1) zH)))))
def gC:List D->Option (Bool×D):=FR 2 2 VY
theorem AD:∀ds r,gC ds=some r->ds.length=2/\zg 2 VY ds=some r:=yU
theorem HK(x0 x1:D):gC [x0,x1]=zg 2 VY [x0,x1]:=rfl
def II:zw:=(y0 (vH (jQ "RowMachine" "step" 4 [] tJ xv))
    (y0 (x_ 7 (vp (e2 xN (e2 yq (e2 yq (e2 zI (e2 zI (z7 5) (eC (.str "words"))) (e2 zI (z7 6) (eC (.int 2)))) (e2 zI (z7 6) (eC (.int 3)))) (e2 xN (zj vn (zA (z7 1) (zA (eC (.int 13)) zH))) (eC (.int 5)))) (eC (.int 65536)))))
    (y0 (vH (vE gR (xt (z7 6) (vS 5 [] xv))))
    (ql (qt (tE (e2 qI (eL UM (zA (zj gC (wO "RowMachine" "byte" (z7 4) (zA (z7 7) zH))) zH)) (eL UM (zA (jS (e2 zI (z7 5) (eC (.str "bytes"))) (z7 7) (eC (.int 0))) zH)))))
     (pM (yR (eC (.bl false))))
     qm))))
def Qf:zw:=
 (y0 (x_ 2 (yR (vF jG (zA (zj vn (zA (z7 1) (zA (eC (.int 0)) zH))) zH))))
  (y0 (x_ 3 (yR (vF jF (zA (zj vn (zA (z7 1) (zA (eC (.int 1)) zH))) zH))))
  (y0 (x_ 4 (X4 "RowMachine" jC (xt (z7 0) (xt (z7 2) (xt (z7 3) xv)))))
  (y0 (x_ 5 (vE gN (xt (z7 2) (xt (z7 3) xv))))
  (y0 (kB (vY (z7 0)) (vu 6)
   II)
  (pM (yR (eC (.bl true)))))))))
def Z9:FM:=xr 2 8 Qf
theorem Hm(x0 x1:M):Z9 [x0,x1]=wU 2 8 Qf [x0,x1]:=rfl
def O1:FA:=(uv (eC (.int 0)) (e2 yq (eC (.int 1)) (e2 xN (zj vn (zA (z7 0) (zA (eC (.int 3)) zH))) (eC (.int 8)))))
def IG:FS:=(z_ (w8 3 (zj vn (zA (z7 0) (zA (e2 yq (eC (.int 4)) (z7 2)) zH))))
    (z_ (w8 4 (e2 xN (zj wt (zA (z7 3) (zA (e2 uo (eC (.int 4)) (z7 2)) zH))) (eC (.int 8))))
    (z_ (w8 5 (e2 zI (wZ (zA (z7 4) (zA (e2 xN (zj wt (zA (z7 3) (zA (e2 yq (e2 uo (eC (.int 4)) (z7 2)) (eC (.int 1))) zH))) (eC (.int 8))) zH))) (eL JF (zA (eC (.int 1)) (zA (e2 xN (zj wt (zA (z7 3) (zA (e2 yq (e2 uo (eC (.int 4)) (z7 2)) (eC (.int 2))) zH))) (eC (.int 5))) zH)))))
    (z_ (w8 6 (e2 zI (wZ (zA (eC (.int 0)) (zA (eC (.int 255)) (zA (e2 xN (zj wt (zA (z7 3) (zA (e2 yq (e2 uo (eC (.int 4)) (z7 2)) (eC (.int 3))) zH))) (eC (.int 256))) (zA (e2 xN (zj wt (zA (z7 3) (zA (e2 yq (e2 uo (eC (.int 4)) (z7 2)) (eC (.int 3))) zH))) (eC (.int 5))) zH))))) (e2 xN (e2 ZU (z7 3) (eC (.int 4))) (eC (.int 4)))))
    (Xc 1 X8 (uU (zA (e2 zI (wZ (zA (eC (.str "load")) (zA (eC (.str "store")) (zA (eC (.str "loadw")) (zA (eC (.str "storew")) zH))))) (e2 xN (z7 3) (eC (.int 4)))) (zA (z7 4) (zA (z7 5) (zA (z7 6) zH))))))))))
def M8:FS:=
 (z_ (jj 1 (wZ zH))
  (z_ (jh O1 (yK 2)
   IG)
  (z_ (Xb 1) (yM (ZT (zj (qK ZA) (zA (z7 0) (zA (z7 1) zH))) (zj (qK Z9) (zA (eL vW (zA (z7 1) zH)) (zA (z7 0) zH))))))))
section
variable{Ws:List Int}{a b c:Bool}{ps:List (Int×Int)}
inductive ZK:Str->Prop
 |load:ZK "load" |store:ZK "store" |loadw:ZK "loadw" |storew:ZK "storew"
inductive gf:D->Prop
 |mk {k:Str} {d s:Nat} {n:Int} (h:ZK k) (hd:d<8) (hs:s<8) (n0:0<=n) (n1:n<256):gf (.tup [.str k,.int (d:Int),.int (s:Int),.int n])
theorem gf.ex{r:D}(h:gf r):∃(k:Str) (d s:Nat) (n:Int),r=.tup [.str k,.int (d:Int),.int (s:Int),.int n]/\s<8:=by
 obtain⟨h,hd,hs,_⟩:=h;exact⟨_,_,_,_,rfl,hs⟩
theorem Du(r:D)(h:gf r):ge r:=by
 obtain⟨h,hd,hs⟩:=h;cases h<;>exact⟨rfl,rfl⟩
theorem U7{r:D}{Ws':List Int}{ps':List (Int×Int)}(h:∀p q,p6 [.fz r,sM Ws a b c (kP ps) (vP ps) p q]=some ([.fz r,sM Ws' a b c (kP ps') (vP ps') p q],.fz .zG))(n m:Int):gO [.fz r,sM Ws a b c (kP ps) (vP ps) n m]=some ([.fz r,sM Ws' a b c (kP ps') (vP ps') n m],.fz .zG):=by
 rw[Hn];unfold Qg;simp![xc,VU,h n m]
theorem Dd:Ll gf:=λr Ws a b c ps h hl hw P hp=>by
 obtain⟨h,hd,hs,n0,n1⟩:=h;rename_i k d s n
 have at_:∀{d:Nat},d<8->∃v,Ws[d]?=some v/\0<=v/\v<4294967296:=λ{d} hd=>by
  have hd':d<Ws.length:=by omega
  exact⟨Ws[d],xD hd',hw _ (pz hd')⟩
 have set_in:∀{d:Nat}{w:Int},0<=w->w<4294967296->∀v∈Ws.set d w,0<=v/\v<4294967296:=λ{d w} w0 w1 v hm=>by
  rcases List.mem_or_eq_of_mem_set hm with z|z
  ·exact hw v z
  ·exact z▸⟨w0,w1⟩
 obtain⟨v,ev,v0,v1⟩:=at_ hd;obtain⟨x,ex,x0,x1⟩:=at_ hs;have hd':d<Ws.length:=by omega
 cases h with
 |load=>
  have g:=ut ((x+n)%65536) P.vA;exact⟨_,a,b,c,ps,by rw[vO]; exact hl,set_in g.1 (by omega),P,by omega,U9 (k := "load") rfl rfl YM (Gj hd' ex),U7 λp q=>N0 P ev ex,rfl,rfl,rfl⟩
 |loadw=>
  have g0:=ut (((x+n)%65536+0)%65536) P.vA;have g1:=ut (((x+n)%65536+1)%65536) P.vA;have g2:=ut (((x+n)%65536+2)%65536) P.vA;have g3:=ut (((x+n)%65536+3)%65536) P.vA;exact⟨_,a,b,c,ps,by rw[vO]; exact hl,set_in (by omega) (by omega),P,by omega,U9 (k := "loadw") rfl rfl YM (Gk P hd' ex),U7 λp q=>N1 P ev ex,rfl,rfl,rfl⟩
 |store=>
  have l:=qR (ps:=ps) (a:=(x+n)%65536) (b:=v%256);exact⟨Ws,a,b,c,_,hl,hw,pd P (by omega) (by omega) (by omega) (by omega),by omega,U9 (k := "store") rfl rfl YM (Gm (by omega) ev ex),U7 λp q=>N2 P (by omega) ev ex,rfl,rfl,rfl⟩
 |storew=>
  have PW:xW (vd ps ((x+n)%65536) v)/\(vd ps ((x+n)%65536) v).length<=ps.length+4:=by
   unfold vd;have P0:=pd (a:=((x+n)%65536+0)%65536) (b:=v%256) P (by omega) (by omega) (by omega) (by omega);have P1:=pd (a:=((x+n)%65536+1)%65536) (b:=v/256%256) P0 (by omega) (by omega) (by omega) (by omega);have P2:=pd (a:=((x+n)%65536+2)%65536) (b:=v/65536%256) P1 (by omega) (by omega) (by omega) (by omega);have P3:=pd (a:=((x+n)%65536+3)%65536) (b:=v/16777216%256) P2 (by omega) (by omega) (by omega) (by omega);refine⟨P3,?_⟩;exact vQ qR (kh (vQ qR (kh (vQ qR (kh qR)))))
  exact⟨Ws,a,b,c,_,hl,hw,PW.1,PW.2,U9 (k := "storew") rfl rfl YM (Gn (by omega) ev ex),U7 λp q=>N3 P (by omega) ev ex,rfl,rfl,rfl⟩
theorem NH{T fw fh:D}{e due done x:Int}(x0:0<=x)(x1:x<65536):gC [wF T e fw fh (vq (wI Ws) a b c (kP ps) (vP ps)) due done,.int x]=some (false,.int (gP ps x)):=by
 have na:p5 [.int x]=some (false,.bl true):=by
  have nf:=Ux (i:=x) (w:=16) (by decide);have e16:(2:Int) ^ 16=65536:=by decide
  rw[e16,yQ x0,yQ x1]at nf;rw[BH];unfold Y_;simp![show uO [.int x,.int 16]=some (false,.bl true)from nf]
 rw[HK];unfold VY;simp![na,ZV,UN,Qp]
theorem AC{g:Int}(h0:0<=g)(h1:g<256):UM [.int g]=some (.str (xL (.int g)).shown):=by
 show(match decide (0<=g)&&decide (g<100000000000000000000)with|true=>some (D.str (xL (.int g)).shown)|false=>none)=_;rw[yQ h0,yQ (by omega)];rfl
theorem GF{ns:List Int}{rows:List D}(hr:∀r∈rows,gf r)(h8:rows.length<=8):∃r,Z9 [.fz (.lst rows),.fz (.lst (ns.map D.int))]=some (r,.fz (.bl true)):=by
 obtain⟨W0,e1,l0,w0⟩:=Cl (xz ns 0);obtain⟨ps,e2,P,lp⟩:=Dl (xz ns 1);have c0:=jR ns (k:=0) (by decide);have c1:=jR ns (k:=1) (by decide);have c13:=jR ns (k:=13) (by decide);have ri:=Fu (λr h=>Du r (hr r h)) (by omega) l0 w0 P (by omega);have be:=MK (Ws:=W0) P (by omega);generalize hT:D.dic (wq rows.length) (t7 rows rows.length)=T at ri;generalize hfw:D.lst (wI W0)=fw at ri;generalize hfh:D.dic (kP ps) (vP ps)=fh at ri
 obtain⟨β',e3,Ws,a,b,c,qs,x6,x7,lw,hw,Q,lq,rfl⟩:=Ur (g:=vu 6) (b:=II) (λi β=>∃(Ws:List Int) (a b c:Bool) (qs:List (Int×Int)) (x6 x7:Option M),Ws.length=8/\(∀w∈Ws,0<=w/\w<4294967296)/\xW qs/\qs.length<=6+4*i/\β=[some (.fz (.lst rows)),some (.fz (.lst (ns.map D.int))),some (.fz (.lst (wI W0))),some (.fz (.lst (ps.map pD))),some (wH T rows.length fw fh (st (wI Ws) a b c (kP qs) (vP qs)) (i:Int) (i:Int)),some (sM Ws a b c (kP qs) (vP qs) (i:Int) (i:Int)),x6,x7])
  (ds:=rows) (β:=[some (.fz (.lst rows)),some (.fz (.lst (ns.map D.int))),some (.fz (.lst (wI W0))),some (.fz (.lst (ps.map pD))),some (wH T rows.length fw fh (st (wI W0) false false false (kP ps) (vP ps)) 0 0),some (sM W0 false false false (kP ps) (vP ps) 0 0),none,none]) 0 ⟨W0,false,false,false,ps,none,none,l0,w0,P,by omega,rfl⟩ λi d β hd hp=>by
   obtain⟨Ws,a,b,c,qs,x6,x7,lw,hw,Q,lq,rfl⟩:=hp;rw[vi]at lq ⊢;have hi:i<rows.length:=(yA.mp hd).1;have hd':=hd;rw[xD hi]at hd';cases hd';obtain⟨Ws',a',b',c',qs',lw',hw',Q',lq',dr,dd,ld,hst,tp⟩:=Dd _ Ws a b c qs (hr _ (pz hi)) lw hw Q (by omega);have ix:zI T (.int (i:Int))=some (.tup [rows[i],.int ((i:Int)+1),.zG]):=by rw[<-hT]; exact OQ hi
   have stp:=CM (T:=T) (fw:=fw) (fh:=fh) (e:=rows.length) (due:=i) (done:=i) (s:=st (wI Ws) a b c (kP qs) (vP qs)) (s':=st (wI Ws') a' b' c' (kP qs') (vP qs')) (d2:=(i:Int)+1) (by omega) ix hst (by show(vM rows[i]&&_)=true; rw[tp]; rfl) YM dr false (by rw[pq]; exact ld) rfl;have sg:=CO (n:=i) (m:=i) dd;obtain⟨k,dn,sn,n,er,hs8⟩:=(hr _ (pz hi)).ex;have hs':sn<Ws.length:=by omega
   have ex:=xD hs';generalize Ws[sn]=x at ex;refine⟨_,[some (.fz (.lst rows)),some (.fz (.lst (ns.map D.int))),some (.fz (.lst (wI W0))),some (.fz (.lst (ps.map pD))),some (wH T rows.length fw fh (st (wI Ws') a' b' c' (kP qs') (vP qs')) ((i:Int)+1) ((i:Int)+1)),some (sM Ws' a' b' c' (kP qs') (vP qs') ((i:Int)+1) ((i:Int)+1)),some (.fz rows[i]),some (.fz (.int ((x+n+xz ns 13%5)%65536)))],rfl,?_,Ws',a',b',c',qs',_,_,lw',hw',Q',by omega,rfl⟩;rw[er]at sg ⊢;have na0:0<=(x+n+xz ns 13%5)%65536:=by omega
   have na1:(x+n+xz ns 13%5)%65536<65536:=by omega
   have mb:=NH (T:=T) (fw:=fw) (fh:=fh) (e:=rows.length) (due:=(i:Int)+1) (done:=(i:Int)+1) (Ws:=Ws') (a:=a') (b:=b') (c:=c') (ps:=qs') na0 na1;have hself:∀{o0 o1 o2 o3 o5 o6:Option Sl},wO "RowMachine" "byte" (z7 4) (zA (z7 7) zH) [o0,o1,o2,o3,some (false,wF T rows.length fw fh (vq (wI Ws') a' b' c' (kP qs') (vP qs')) ((i:Int)+1) ((i:Int)+1)),o5,o6,some (false,.int ((x+n+xz ns 13%5)%65536))]=some [wF T rows.length fw fh (vq (wI Ws') a' b' c' (kP qs') (vP qs')) ((i:Int)+1) ((i:Int)+1),.int ((x+n+xz ns 13%5)%65536)]:=VR rfl (by decide +kernel) rfl;obtain⟨g0,g1⟩:=ut ((x+n+xz ns 13%5)%65536) Q'.vA;have rp:=AC g0 g1;have ky:wb (.int ((x+n+xz ns 13%5)%65536))=some (.inl ((x+n+xz ns 13%5)%65536)):=rfl;have gg:=XD ((x+n+xz ns 13%5)%65536) qs';generalize xz ns 13=c13' at *;generalize ns.map D.int=NS at *;unfold II;simp![xc,Qx,stp,pp,YN,pq,X5,YE,YF,tY ex,c13,add_int,VU,sg,hself,mb,rp,jS,Q_,ky,gg,Bt,vj]
 rw[vi]at e3;refine⟨[.fz (.lst rows),.fz (.lst (ns.map D.int))],?_⟩;rw[Hm];unfold Qf;subst hfw;generalize ns.map D.int=NS at *;have sq:Wc (.lst rows)=some rows:=rfl;simp![xc,c0,c1,e1,e2,ri,be,sq,e3]
theorem Aa:∀ns:List Int,ns.length<=63->(∀m∈ns,wP m<=1048576)->∃o,zg 7 M8 [.lst (ns.map D.int)]=some (o,.bl true):=λns hl hb=>by
 have c3:=jR ns (k:=3) (by decide)
 have hr:O1 [some (false,.lst (ns.map D.int)),some (true,.lst []),none,none,none,none,none]=some (yk (1+xz ns 3%8).toNat):=by
  unfold O1;refine kM (n:=1+xz ns 3%8) ?_ (by omega);simp![c3,add_int,vj]
 obtain⟨σ',e1,rows,x2,x3,x4,x5,x6,l,R,rfl⟩:=kA (g:=yK 2) (b:=IG) (λi σ=>∃(rows:List D) (x2 x3 x4 x5 x6:Option Sl),rows.length=i/\(∀r∈rows,gf r)/\σ=[some (false,.lst (ns.map D.int)),some (true,.lst rows),x2,x3,x4,x5,x6])
  (ds:=yk (1+xz ns 3%8).toNat) (σ:=[some (false,.lst (ns.map D.int)),some (true,.lst []),none,none,none,none,none]) 0 ⟨[],none,none,none,none,none,rfl,λ_ h=>absurd h (by simp),rfl⟩ λi d σ hd hp=>by
   obtain⟨rows,x2,x3,x4,x5,x6,l,R,rfl⟩:=hp;rw[vi]at l ⊢;have hi:i<8:=by have:=(yA.mp hd).1; simp[yk]at this; omega
   obtain⟨k,_,rfl⟩:=vh.mp (Tq hd);have ck:=jR ns (k:=4+(k:Int)) (by omega);generalize xz ns (4+(k:Int))=c at ck;obtain⟨v0,m0',a0,b0⟩:=qN c (4*(k:Int));obtain⟨v1,m1',a1,b1⟩:=qN c (4*(k:Int)+1);obtain⟨v2,m2',a2,b2⟩:=qN c (4*(k:Int)+2);obtain⟨v3,m3',a3,b3⟩:=qN c (4*(k:Int)+3);obtain⟨dn,ed,hd8⟩:∃dn:Nat,v0%8=(dn:Int)/\dn<8:=⟨(v0%8).toNat,by omega,by omega⟩;obtain⟨sn,es,hs8⟩:∃sn:Nat,v1%8=(sn:Int)/\sn<8:=⟨(v1%8).toNat,by omega,by omega⟩
   obtain⟨tn,et,ht8⟩:∃tn:Nat,zI (.lst [.int (dn:Int),.int (sn:Int)]) (.int (if v2%5<1 then v2%5 else 1))=some (.int (tn:Int))/\tn<8:=by
    by_cases z:v2%5<1
    ·have z0:v2%5=0:=by omega
     rw[z0];exact⟨dn,rfl,hd8⟩
    ·rw[zO z];exact⟨sn,rfl,hs8⟩
   have mn:JF [.int 1,.int (v2%5)]=some (.int (if v2%5<1 then v2%5 else 1)):=rfl
   obtain⟨u,eu,u0,u1⟩:∃u:Int,zI (.lst [.int 0,.int 255,.int (v3%256),.int (v3%5)]) (.int (c/4%4))=some (.int u)/\0<=u/\u<256:=by
    rcases(show c/4%4=0\/c/4%4=1\/c/4%4=2\/c/4%4=3 by omega)with h|h|h|h<;>rw[h]
    ·exact⟨_,rfl,by omega,by omega⟩
    ·exact⟨_,rfl,by omega,by omega⟩
    ·exact⟨_,rfl,by omega,by omega⟩
    ·exact⟨_,rfl,by omega,by omega⟩
   obtain⟨w,ew,hw⟩:∃w:Str,zI (.lst [.str "load",.str "store",.str "loadw",.str "storew"]) (.int (c%4))=some (.str w)/\ZK w:=by
    rcases(show c%4=0\/c%4=1\/c%4=2\/c%4=3 by omega)with h|h|h|h<;>rw[h]
    ·exact⟨_,rfl,.load⟩
    ·exact⟨_,rfl,.store⟩
    ·exact⟨_,rfl,.loadw⟩
    ·exact⟨_,rfl,.storew⟩
   have l1:vZ 4=true:=by decide
   have ap:X8 (.lst rows) (.tup [.str w,.int (dn:Int),.int (tn:Int),.int u])=some (.lst (rows++[.tup [.str w,.int (dn:Int),.int (tn:Int),.int u]])):=by
    show(if rows.length<yY then some (D.lst (rows++[_]))else none)=_;rw[zM (by show _<16777216; omega)]
   refine⟨_,[some (false,.lst (ns.map D.int)),some (true,.lst (rows++[.tup [.str w,.int (dn:Int),.int (tn:Int),.int u]])),some (false,.int (k:Int)),some (false,.int c),some (false,.int (dn:Int)),some (false,.int (tn:Int)),some (false,.int u)],rfl,.inl ?_,_,_,_,_,_,_,by rw[yO,l]; rfl,λr hm=>?_,rfl⟩
   ·unfold IG;simp![add_int,ck,l1,m0',m1',m2',m3',ed,es,mn,et,eu,ew,ap,vj,Op]
   ·rcases j1.mp hm with hm|hm
    ·exact R r hm
    ·cases j2.mp hm;exact .mk hw hd8 ht8 u0 u1
 have lu:(yk (1+xz ns 3%8).toNat).length=(1+xz ns 3%8).toNat:=by simp[yk]
 have l8:rows.length<=8:=by rw[l,lu]; omega
 obtain⟨rr,pl⟩:=SV (ns:=ns) Du Dd R l8;obtain⟨r2,bl⟩:=GF (ns:=ns) R l8
 have fm:qK ZA [.lst (ns.map D.int),.lst rows]=some (false,.bl true):=by
  unfold qK ur;rw[y_,y_,jw,pl];rfl
 have fb:qK Z9 [.lst rows,.lst (ns.map D.int)]=some (false,.bl true):=by
  unfold qK ur;rw[y_,y_,jw,bl];rfl
 have fl1:vW [.lst rows]=some (.lst rows):=rfl;refine⟨false,?_⟩;unfold M8;simp![hr,e1,fm,fb,fl1]
end
end L3
namespace My
open PySem L2 L3
set_option maxHeartbeats 4000000
def top(i:Nat):Stmt:=PySem.Challenge.pw_markrun_k37_bytes_and_words.main.body.getD i (.Pass ⟨0,0,0,0⟩)
section
variable{P:Program}{w:World}{K:W.Frag}{mg:Str->Option Value}{base:Heap}{qD:Addr}{qE:Addr}{qy:Addr}{j9:Addr}
abbrev Xy:Stmt:=top 9
theorem af:zi ["thing", "width"] ["thing", "width"] (zQ Xy):=⟨rfl,rfl,rfl,by decide +kernel,rfl,by decide +kernel,by decide +kernel⟩
theorem Pb(d:zF K mg "is_number" Xy ["thing", "width"])(t8:mg "isinstance" = none)(YR:mg "int" = none)(Oh:mg "bool" = none):zJ P w K mg base "is_number" ["thing", "width"] 1 (zR K uO):=
 zF.yn d af (by decide) AW λf cdv A outer s H E hr=>(yE (wK (OL (OJ (uI (Wa .bool rfl rfl t8 Oh G9 (zY (z8 0)))) (OK (jm (uI (Wa .int rfl rfl t8 YR Mb (zY (z8 0))))))))
   (zl (yX vJ))
   wz)
  (zl (yX (TF (uF RU Y0 (zY zE) (zY (z8 0)) (yW _)) (Wb (uF Ij Y0 (zY (z8 0)) (zY (za kG kF zE (z8 1))) (yW _)))))))
abbrev Xd:Stmt:=top 10
theorem Fy:zi ["one", "other", "carry", "total"] ["one", "other", "carry"] (zQ Xd):=⟨rfl,rfl,rfl,by decide +kernel,rfl,by decide +kernel,by decide +kernel⟩
theorem P6(d:zF K mg "added" Xd ["one", "other", "carry"])(gv:xV mg "BEYOND" (.int 4294967296))(kJ:∀H,zS K H (.int 4294967296) (.int 4294967296)):zJ P w K mg base "added" ["one", "other", "carry"] 1 (zR K Yl):=
 zF.yn d Fy (by decide) AK λf cdv A outer s H E hr=>(yE (wy (i:=3) Fy.nd rfl (Or.inl rfl) (za xn xm (za xn xm (z8 0) (z8 1)) (kS (uI (z8 2)) zE zE)))
  (zl (yX (tq (zB (za xY xX (z8 3) (vK gv kJ rfl)) (zB (uF RN Y0 (zY (z8 3)) (zY (vK gv kJ rfl)) (yW _)) zP)) (xG (zr (zr xl)) (by decide))))))
abbrev WQ:Stmt:=top 11
theorem C3:zi ["one", "other", "borrow", "left"] ["one", "other", "borrow"] (zQ WQ):=⟨rfl,rfl,rfl,by decide +kernel,rfl,by decide +kernel,by decide +kernel⟩
theorem RA(d:zF K mg "taken" WQ ["one", "other", "borrow"])(gv:xV mg "BEYOND" (.int 4294967296))(kJ:∀H,zS K H (.int 4294967296) (.int 4294967296)):zJ P w K mg base "taken" ["one", "other", "borrow"] 1 (zR K VG):=
 zF.yn d C3 (by decide) Ar λf cdv A outer s H E hr=>(yE (wy (i:=3) C3.nd rfl (Or.inl rfl) (za Y5 Y2 (za Y5 Y2 (z8 0) (z8 1)) (kS (uI (z8 2)) zE zE)))
  (yE (wK (xR Ij Y0 (zY (z8 3)) (zY zE) (yW _))
   (zl (yX (tq (zB (za xn xm (z8 3) (vK gv kJ rfl)) (zB vJ zP)) (xG (zr (zr xl)) (by decide)))))
   wz)
  (zl (yX (tq (zB (z8 3) (zB vJ zP)) (xG (zr (zr xl)) (by decide)))))))
abbrev WK:Stmt:=top 14
theorem aw:zi ["word", "low", "width"] ["word", "low", "width"] (zQ WK):=⟨rfl,rfl,rfl,by decide +kernel,rfl,by decide +kernel,by decide +kernel⟩
theorem R3(d:zF K mg "part" WK ["word", "low", "width"]):zJ P w K mg base "part" ["word", "low", "width"] 1 (zR K wN):=
 zF.yn d aw (by decide) An λf cdv A outer s H E hr=>(zl (yX (za Ih Z_ (za Dh Dc (z8 0) (z8 1)) (za Y5 Y2 (za kG kF zE (z8 2)) zE))))
abbrev WH:Stmt:=top 12
theorem O9:zi ["word", "count", "moved", "fallen"] ["word", "count"] (zQ WH):=⟨rfl,rfl,rfl,by decide +kernel,rfl,by decide +kernel,by decide +kernel⟩
theorem Px(d:zF K mg "moved_left" WH ["word", "count"])(qj:xV mg "WORD_BITS" (.int 32))(qp:∀H,zS K H (.int 32) (.int 32))(ww:zJ P w K mg base "part" ["word", "low", "width"] 1 (zR K wN)):zJ P w K mg base "moved_left" ["word", "count"] 2 (zR K VD):=
 zF.yn d O9 (by decide) Ak λf cdv A outer s H E hr=>(yE (wy (i:=2) O9.nd rfl (Or.inl rfl) (za kG kF (z8 0) (z8 1)))
  (yE (wy (i:=3) O9.nd rfl (Or.inl rfl) (kS (xR (wT (xP hr)) wS (zY (z8 1)) (zY zE) (yW _)) YH (uF (wT (xP hr)) wS (zY (zu ww hr rfl (zB (z8 2) (zB (vK qj qp rfl) (zB zE zP))))) (zY zE) (yW _))))
  (zl (yX (tq (zB (zu ww hr rfl (zB (z8 2) (zB zE (zB (vK qj qp rfl) zP)))) (zB (z8 3) zP)) (xG (zr (zr xl)) (by decide)))))))
abbrev WI:Stmt:=top 13
theorem C2:zi ["word", "count", "fallen"] ["word", "count"] (zQ WI):=⟨rfl,rfl,rfl,by decide +kernel,rfl,by decide +kernel,by decide +kernel⟩
theorem Py(d:zF K mg "moved_right" WI ["word", "count"])(ww:zJ P w K mg base "part" ["word", "low", "width"] 1 (zR K wN)):zJ P w K mg base "moved_right" ["word", "count"] 2 (zR K VE):=
 zF.yn d C2 (by decide) Al λf cdv A outer s H E hr=>(yE (wy (i:=2) C2.nd rfl (Or.inl rfl) (kS (xR (wT (xP hr)) wS (zY (z8 1)) (zY zE) (yW _)) YH (uF (wT (xP hr)) wS (zY (zu ww hr rfl (zB (z8 0) (zB (za Y5 Y2 (z8 1) zE) (zB zE zP))))) (zY zE) (yW _))))
  (zl (yX (tq (zB (za Dh Dc (z8 0) (z8 1)) (zB (z8 2) zP)) (xG (zr (zr xl)) (by decide))))))
abbrev WS:Stmt:=top 15
theorem C5:zi ["word", "low", "width", "number", "there"] ["word", "low", "width", "number"] (zQ WS):=⟨rfl,rfl,rfl,by decide +kernel,rfl,by decide +kernel,by decide +kernel⟩
theorem RC(d:zF K mg "with_part" WS ["word", "low", "width", "number"]):zJ P w K mg base "with_part" ["word", "low", "width", "number"] 1 (zR K VH):=
 zF.yn d C5 (by decide) At λf cdv A outer s H E hr=>(yE (wy (i:=4) C5.nd rfl (Or.inl rfl) (za kG kF (za Y5 Y2 (za kG kF zE (z8 2)) zE) (z8 1)))
  (zl (yX (za Dg Z_ (za Ih Z_ (z8 0) (C7 de da (z8 4))) (za kG kF (z8 3) (z8 1))))))
abbrev Xi:Stmt:=top 16
theorem aQ:zi ["word"] ["word"] (zQ Xi):=⟨rfl,rfl,rfl,by decide +kernel,rfl,by decide +kernel,by decide +kernel⟩
theorem PD(d:zF K mg "bytes_of" Xi ["word"])(tu:mg "tuple" = none)(Za:xV mg "BYTE_LOWS" (.ref qD))(YB:∀H,zS K H gw (.ref qD))(ww:zJ P w K mg base "part" ["word", "low", "width"] 1 (zR K wN)):zJ P w K mg base "bytes_of" ["word"] 2 (zR K gJ):=
 zF.yn d aQ (by decide) AQ λf cdv A outer s H E hr=>(zl (yX (OC Qt Ig rfl tu U3 (zB (yN (t6 rfl (uS (own:=["low"]) rfl) (uG (vK Za YB rfl)) (uk (λC s H fp pn=>(xZ (i:=1) (show(vD ["word"] ["low"]).Nodup by decide +kernel) rfl (Or.inl rfl))) rfl) (λC s H fp pn=>qS) (λC s H fp pn=>(zu ww hr rfl (zB (z8 0) (zB (z8 1) (zB zE zP))))))) zP))))
abbrev WU:Stmt:=top 17
theorem b4:zi ["four"] ["four"] (zQ WU):=⟨rfl,rfl,rfl,by decide +kernel,rfl,by decide +kernel,by decide +kernel⟩
theorem RE(d:zF K mg "word_of" WU ["four"])(Ol:mg "sum" = none)(YT:mg "zip" = none)(Za:xV mg "BYTE_LOWS" (.ref qD))(YB:∀H,zS K H gw (.ref qD)):zJ P w K mg base "word_of" ["four"] 1 (zR K ZG):=
 zF.yn d b4 (by decide) Av λf cdv A outer s H E hr=>(zl (yX (tm (GY rfl) R7 rfl Ol GE (uZ (zY (yN (t6 rfl (uS (own:=["byte", "low"]) rfl) (CF rfl YT (z8 0) (vK Za YB rfl)) (E_ (λC s H fp pn=>(T4 (n:=2) rfl (jf (xZ (i:=1) (show(vD ["four"] ["byte", "low"]).Nodup by decide +kernel) rfl (Or.inl rfl)) (jf (xZ (i:=2) (show(vD ["four"] ["byte", "low"]).Nodup by decide +kernel) rfl (Or.inl rfl)) T5)))) rfl rfl) (λC s H fp pn=>qS) (λC s H fp pn=>(za kG kF (z8 1) (z8 2)))))) t5))))
abbrev Xx:Stmt:=top 21
theorem ae:zi ["item"] ["item"] (zQ Xx):=⟨rfl,rfl,rfl,by decide +kernel,rfl,by decide +kernel,by decide +kernel⟩
theorem Pa(d:zF K mg "is_label" Xx ["item"]):zJ P w K mg base "is_label" ["item"] 1 (zR K gM):=
 zF.yn d ae (by decide) AU λf cdv A outer s H E hr=>(zl (yX (uF (wT (xP hr)) wS (zY (zW (zU (zL hr)) zV (z8 0) zE)) (zY yd) (yW _))))
abbrev Xw:Stmt:=top 22
theorem ac:zi ["item"] ["item"] (zQ Xw):=⟨rfl,rfl,rfl,by decide +kernel,rfl,by decide +kernel,by decide +kernel⟩
theorem PZ(d:zF K mg "is_jump" Xw ["item"])(JN:xV mg "JUMPS" (.ref qy))(Ix:∀H,zS K H JR (.ref qy)):zJ P w K mg base "is_jump" ["item"] 1 (zR K Yr):=
 zF.yn d ac (by decide) AT λf cdv A outer s H E hr=>(zl (yX (uF (XS (zL hr)) XO (zY (zW (zU (zL hr)) zV (z8 0) zE)) (zY (vK JN Ix rfl)) (by with_unfolding_all rfl))))
abbrev WN:Stmt:=top 23
theorem ay:zi ["items"] ["items"] (zQ WN):=⟨rfl,rfl,rfl,by decide +kernel,rfl,by decide +kernel,by decide +kernel⟩
theorem R6(d:zF K mg "rows_of" WN ["items"])(Zf:zJ P w K mg base "is_label" ["item"] 1 (zR K gM)):zJ P w K mg base "rows_of" ["items"] 2 (zR K jH):=
 zF.yn d ay (by decide) Ao λf cdv A outer s H E hr=>(zl (ph (t6 rfl (uS (own:=["item"]) rfl) (uG (z8 0)) (uk (λC s H fp pn=>(xZ (i:=1) (show(vD ["items"] ["item"]).Nodup by decide +kernel) rfl (Or.inl rfl))) rfl) (λC s H fp pn=>(OI (jm (uI (zu Zf hr rfl (zB (z8 1) zP)))))) (λC s H fp pn=>(z8 1)))))
abbrev W1:Stmt:=top 24
theorem WW:zi ["items", "places", "place", "item"] ["items"] (zQ W1):=⟨rfl,rfl,rfl,by decide +kernel,rfl,by decide +kernel,by decide +kernel⟩
theorem Pe(d:zF K mg "label_places" W1 ["items"])(Zf:zJ P w K mg base "is_label" ["item"] 1 (zR K gM)):zJ P w K mg base "label_places" ["items"] 2 (zR K Z8):=
 zF.yn d WW (by decide) AZ λf cdv A outer s H E hr=>(yE (YL (i:=1) WW.nd rfl (Or.inl rfl) Wd)
  (yE (wy (i:=2) WW.nd rfl (Or.inl rfl) zE)
  (yE (YJ qV rfl (uG (z8 0)) (We (xZ (i:=3) WW.nd rfl (Or.inl rfl)) rfl)
   (zl (wK (uI (zu Zf hr rfl (zB (z8 3) zP)))
     (zl (pf (zL hr) (qv 1) (zW (zU (zL hr)) zV (z8 3) zE) (z8 2)))
     (zl (bW (i:=2) BS DX WW.nd rfl (Or.inl rfl) zE)))))
  (zl (Wg 1)))))
abbrev WR:Stmt:=top 25
theorem C4:zi ["items", "places"] ["items"] (zQ WR):=⟨rfl,rfl,rfl,by decide +kernel,rfl,by decide +kernel,by decide +kernel⟩
theorem RB(d:zF K mg "targets_of" WR ["items"])(Jf:zJ P w K mg base "label_places" ["items"] 2 (zR K Z8))(Zl:zJ P w K mg base "rows_of" ["items"] 2 (zR K jH))(Jc:zJ P w K mg base "is_jump" ["item"] 1 (zR K Yr)):zJ P w K mg base "targets_of" ["items"] 3 (zR K gU):=
 zF.yn d C4 (by decide) As λf cdv A outer s H E hr=>(yE (wy (i:=1) C4.nd rfl (Or.inr rfl) (yN (ua Jf hr rfl (zB (z8 0) zP))))
  (zl (ph (t6 rfl (uS (own:=["row"]) rfl) (uG (yN (ua Zl hr rfl (zB (z8 0) zP)))) (uk (λC s H fp pn=>(xZ (i:=2) (show(vD ["items", "places"] ["row"]).Nodup by decide +kernel) rfl (Or.inl rfl))) rfl) (λC s H fp pn=>qS) (λC s H fp pn=>(kS (uI (zu Jc hr rfl (zB (z8 2) zP))) (zW (zU (zL hr)) zV (z8 1) (zW (zU (zL hr)) zV (z8 2) (C7 df db zE))) YH))))))
abbrev Xv:Stmt:=top 31
theorem ab:zi ["thing"] ["thing"] (zQ Xv):=⟨rfl,rfl,rfl,by decide +kernel,rfl,by decide +kernel,by decide +kernel⟩
theorem PY(d:zF K mg "is_address" Xv ["thing"])(ZY:xV mg "ADDRESS_BITS" (.int 16))(Y9:∀H,zS K H (.int 16) (.int 16))(pF:zJ P w K mg base "is_number" ["thing", "width"] 1 (zR K uO)):zJ P w K mg base "is_address" ["thing"] 2 (zR K p5):=
 zF.yn d ab (by decide) AS λf cdv A outer s H E hr=>(zl (yX (zu pF hr rfl (zB (z8 0) (zB (vK ZY Y9 rfl) zP)))))
abbrev Xz:Stmt:=top 30
theorem ah:zi ["thing"] ["thing"] (zQ Xz):=⟨rfl,rfl,rfl,by decide +kernel,rfl,by decide +kernel,by decide +kernel⟩
theorem Pc(d:zF K mg "is_pair" Xz ["thing"])(uJ:mg "len" = none)(t8:mg "isinstance" = none)(tu:mg "tuple" = none)(ZZ:xV mg "BYTE_BITS" (.int 8))(YA:∀H,zS K H (.int 8) (.int 8))(pF:zJ P w K mg base "is_number" ["thing", "width"] 1 (zR K uO))(Ze:zJ P w K mg base "is_address" ["thing"] 2 (zR K p5)):zJ P w K mg base "is_pair" ["thing"] 3 (zR K Z7):=
 zF.yn d ah (by decide) AX λf cdv A outer s H E hr=>(yE (wK (OL (OJ (jm (uI (Wa .tuple rfl rfl t8 tu U3 (zY (z8 0))))) (OK (xR (Y4 (xP hr)) Y1 (zY (tm U6 Uy rfl uJ X1 (uZ (zY (z8 0)) t5))) (zY zE) (yW _)))))
   (zl (yX vJ))
   wz)
  (zl (yX (TF (zu Ze hr rfl (zB (zW (zU (zL hr)) zV (z8 0) zE) zP)) (Wb (zu pF hr rfl (zB (zW (zU (zL hr)) zV (z8 0) zE) (zB (vK ZZ YA rfl) zP))))))))
abbrev Xh:Stmt:=top 29
theorem O6:zi ["memory", "held", "pair"] ["memory"] (zQ Xh):=⟨rfl,rfl,rfl,by decide +kernel,rfl,by decide +kernel,by decide +kernel⟩
theorem PC(d:zF K mg "bytes_from" Xh ["memory"])(t8:mg "isinstance" = none)(xy:mg "list" = none)(Jd:zJ P w K mg base "is_pair" ["thing"] 3 (zR K Z7)):zJ P w K mg base "bytes_from" ["memory"] 4 (zR K Z6):=
 zF.yn d O6 (by decide) AO λf cdv A outer s H E hr=>(yE (YL (i:=1) O6.nd rfl (Or.inl rfl) Wd)
  (yE (wK (xR De DY (zY (z8 0)) (zY YH) (yW _))
   (zl (Wg 1))
   wz)
  (yE (wK (jm (uI (Wa .list rfl rfl t8 xy U2 (zY (z8 0)))))
   YK
   wz)
  (yE (YJ qV rfl (uG (z8 0)) (We (xZ (i:=2) O6.nd rfl (Or.inl rfl)) rfl)
   (yE (wK (jm (uI (zu Jd hr rfl (zB (z8 2) zP))))
     YK
     wz)
    (yE (wK (xR (XS (zL hr)) XO (zY (zW (zU (zL hr)) zV (z8 2) zE)) (aC 1) (by with_unfolding_all rfl))
     YK
     wz)
    (zl (pf (zL hr) (qv 1) (zW (zU (zL hr)) zV (z8 2) zE) (zW (zU (zL hr)) zV (z8 2) zE))))))
  (zl (Wg 1))))))
abbrev WJ:Stmt:=top 32
theorem av:zi ["held"] ["held"] (zQ WJ):=⟨rfl,rfl,rfl,by decide +kernel,rfl,by decide +kernel,by decide +kernel⟩
theorem R1(d:zF K mg "pairs_of" WJ ["held"])(YS:mg "sorted" = none):zJ P w K mg base "pairs_of" ["held"] 1 (zR K ZD):=
 zF.yn d av (by decide) Am λf cdv A outer s H E hr=>(zl (ph (t6 rfl (uS (own:=["address"]) rfl) (uG (yN (bJ rfl rfl YS (zB (z8 0) zP)))) (uk (λC s H fp pn=>(xZ (i:=1) (show(vD ["held"] ["address"]).Nodup by decide +kernel) rfl (Or.inl rfl))) rfl) (λC s H fp pn=>(OI (xR (Y4 (xP hr)) Y1 (zY (zW (zU (zL hr)) zV (z8 0) (z8 1))) (zY zE) (yW _)))) (λC s H fp pn=>(tq (zB (z8 1) (zB (zW (zU (zL hr)) zV (z8 0) (z8 1)) zP)) (xG (zr (zr xl)) (by decide)))))))
abbrev Xg:Stmt:=top 33
theorem aP:zi ["held", "address"] ["held", "address"] (zQ Xg):=⟨rfl,rfl,rfl,by decide +kernel,rfl,by decide +kernel,by decide +kernel⟩
theorem PB(d:zF K mg "byte_at" Xg ["held", "address"]):zJ P w K mg base "byte_at" ["held", "address"] 1 (zR K qb):=
 zF.yn d aP (by decide) AN λf cdv A outer s H E hr=>(zl (yX (OD (zL hr) (z8 0) (z8 1) zE ⟨rfl,rfl,rfl,rfl⟩)))
abbrev Xf:Stmt:=top 34
theorem aO:zi ["word", "number"] ["word", "number"] (zQ Xf):=⟨rfl,rfl,rfl,by decide +kernel,rfl,by decide +kernel,by decide +kernel⟩
theorem P8(d:zF K mg "address_of" Xf ["word", "number"])(ZY:xV mg "ADDRESS_BITS" (.int 16))(Y9:∀H,zS K H (.int 16) (.int 16))(ww:zJ P w K mg base "part" ["word", "low", "width"] 1 (zR K wN)):zJ P w K mg base "address_of" ["word", "number"] 2 (zR K jD):=
 zF.yn d aO (by decide) AM λf cdv A outer s H E hr=>(zl (yX (zu ww hr rfl (zB (za xn xm (z8 0) (z8 1)) (zB zE (zB (vK ZY Y9 rfl) zP))))))
abbrev Xu:Stmt:=top 35
theorem aZ:zi ["address"] ["address"] (zQ Xu):=⟨rfl,rfl,rfl,by decide +kernel,rfl,by decide +kernel,by decide +kernel⟩
theorem PU(d:zF K mg "four_from" Xu ["address"])(wj:mg "range" = none)(Zc:zJ P w K mg base "address_of" ["word", "number"] 2 (zR K jD)):zJ P w K mg base "four_from" ["address"] 3 (zR K q_):=
 zF.yn d aZ (by decide) AR λf cdv A outer s H E hr=>(zl (ph (t6 rfl (uS (own:=["number"]) rfl) (kU rfl wj zE) (uk (λC s H fp pn=>(xZ (i:=1) (show(vD ["address"] ["number"]).Nodup by decide +kernel) rfl (Or.inl rfl))) rfl) (λC s H fp pn=>qS) (λC s H fp pn=>(zu Zc hr rfl (zB (z8 0) (zB (z8 1) zP)))))))
abbrev WT:Stmt:=top 36
theorem a_:zi ["held", "address"] ["held", "address"] (zQ WT):=⟨rfl,rfl,rfl,by decide +kernel,rfl,by decide +kernel,by decide +kernel⟩
theorem RD(d:zF K mg "word_at" WT ["held", "address"])(Jw:zJ P w K mg base "word_of" ["four"] 1 (zR K ZG))(Zd:zJ P w K mg base "four_from" ["address"] 3 (zR K q_))(pE:zJ P w K mg base "byte_at" ["held", "address"] 1 (zR K qb)):zJ P w K mg base "word_at" ["held", "address"] 4 (zR K ZF):=
 zF.yn d a_ (by decide) Au λf cdv A outer s H E hr=>(zl (yX (zu Jw hr rfl (zB (yN (t6 rfl (uS (own:=["one"]) rfl) (uG (yN (ua Zd hr rfl (zB (z8 1) zP)))) (uk (λC s H fp pn=>(xZ (i:=2) (show(vD ["held", "address"] ["one"]).Nodup by decide +kernel) rfl (Or.inl rfl))) rfl) (λC s H fp pn=>qS) (λC s H fp pn=>(zu pE hr rfl (zB (z8 0) (zB (z8 2) zP)))))) zP))))
abbrev WL:Stmt:=top 37
theorem ax:zi ["held", "address", "word"] ["held", "address", "word"] (zQ WL):=⟨rfl,rfl,rfl,by decide +kernel,rfl,by decide +kernel,by decide +kernel⟩
theorem R4(d:zF K mg "put_byte" WL ["held", "address", "word"])(ZZ:xV mg "BYTE_BITS" (.int 8))(YA:∀H,zS K H (.int 8) (.int 8))(ww:zJ P w K mg base "part" ["word", "low", "width"] 1 (zR K wN)):zJ P w K mg base "put_byte" ["held", "address", "word"] 2 (zo K gT):=
 zF.xo d ax (by decide) wC λf cdv A outer s H E hr=>(yh (kC (zL hr) (yG 0) (z8 1) (yc (zu ww hr rfl (zB (z8 2) (zB zE (zB (vK ZZ YA rfl) zP)))))))
abbrev WM:Stmt:=top 38
theorem OA:zi ["held", "address", "word", "one", "byte"] ["held", "address", "word"] (zQ WM):=⟨rfl,rfl,rfl,by decide +kernel,rfl,by decide +kernel,by decide +kernel⟩
theorem R5(d:zF K mg "put_word" WM ["held", "address", "word"])(YT:mg "zip" = none)(Zk:zJ P w K mg base "put_byte" ["held", "address", "word"] 2 (zo K gT))(Zd:zJ P w K mg base "four_from" ["address"] 3 (zR K q_))(JT:zJ P w K mg base "bytes_of" ["word"] 2 (zR K gJ)):zJ P w K mg base "put_word" ["held", "address", "word"] 4 (zo K Ys):=
 zF.xo d OA (by decide) wC λf cdv A outer s H E hr=>(yh (XM qV rfl (CF rfl YT (yN (ua Zd hr rfl (zB (z8 1) zP))) (zu JT hr rfl (zB (z8 2) zP))) (Bp (T4 (n:=2) rfl (jf (xZ (i:=3) OA.nd rfl (Or.inl rfl)) (jf (xZ (i:=4) OA.nd rfl (Or.inl rfl)) T5))) rfl rfl (by decide) (by decide))
   (yh (uA (ux Zk hr rfl (u9 (yG 0) (wG (z8 3) (wG (z8 4) vI))))))))
abbrev pZ:Stmt:=tX (top 40) 0
theorem aM:zi ["self", "words", "held"] ["self", "words", "held"] (zQ pZ):=⟨rfl,rfl,rfl,by decide +kernel,rfl,by decide +kernel,by decide +kernel⟩
theorem P5{f:Addr}{fd:FuncData}(d:xF K "__init__" "State.__init__" pZ f fd)(xy:mg "list" = none)(Tj:mg "dict" = none)(Zb:xV mg "MARKS" (.ref qE))(YC:∀H,zS K H gx (.ref qE))(a_words:zt K ["State"] "words")(a_truths:zt K ["State"] "truths")(a_held:zt K ["State"] "held"):yj P w K mg base yo 1 f fd ["self", "words", "held"] (zo K Z5):=
 xF.xo d aM (by decide) wC λcdv A outer s H E hr=>(yC (qO (yG 0) a_words (Zw (jk rfl xy (zB (z8 1) zP))))
  (yC (qO (yG 0) a_truths (Zw (bE rfl rfl Tj Ma (zB (yN (t6 rfl (uS (own:=["mark"]) rfl) (uG (vK Zb YC rfl)) (uk (λC s H fp pn=>(xZ (i:=3) (show(vD ["self", "words", "held"] ["mark"]).Nodup by decide +kernel) rfl (Or.inl rfl))) rfl) (λC s H fp pn=>qS) (λC s H fp pn=>(tq (zB (z8 3) (zB vJ zP)) (xG (zr (zr xl)) (by decide)))))) zP))))
  (yh (qO (yG 0) a_held (Zw (bF rfl Tj Ma (zB (z8 2) zP)))))))
abbrev Xq:Stmt:=top 41
theorem aW:zi ["state", "row"] ["state", "row"] (zQ Xq):=⟨rfl,rfl,rfl,by decide +kernel,rfl,by decide +kernel,by decide +kernel⟩
theorem PO(d:zF K mg "do_set" Xq ["state", "row"])(a_words:zt K ["State"] "words"):zJ P w K mg base "do_set" ["state", "row"] 1 (zo K QF):=
 zF.xo d aW (by decide) wC λf cdv A outer s H E hr=>(yh (pN (ve (yG 0) a_words) (zW (zU (zL hr)) zV (z8 1) zE) (yc (zW (zU (zL hr)) zV (z8 1) zE))))
abbrev Xl:Stmt:=top 42
theorem aS:zi ["state", "row"] ["state", "row"] (zQ Xl):=⟨rfl,rfl,rfl,by decide +kernel,rfl,by decide +kernel,by decide +kernel⟩
theorem PJ(d:zF K mg "do_high" Xl ["state", "row"])(a_words:zt K ["State"] "words")(Ju:zJ P w K mg base "with_part" ["word", "low", "width", "number"] 1 (zR K VH)):zJ P w K mg base "do_high" ["state", "row"] 2 (zo K QD):=
 zF.xo d aS (by decide) wC λf cdv A outer s H E hr=>(yh (pN (ve (yG 0) a_words) (zW (zU (zL hr)) zV (z8 1) zE) (uW (zu Ju hr rfl (zB (zW (zU (zL hr)) zV (xM (z8 0) a_words) (zW (zU (zL hr)) zV (z8 1) zE)) (zB zE (zB zE (zB (zW (zU (zL hr)) zV (z8 1) zE) zP))))))))
abbrev Xk:Stmt:=top 43
theorem aR:zi ["state", "row"] ["state", "row"] (zQ Xk):=⟨rfl,rfl,rfl,by decide +kernel,rfl,by decide +kernel,by decide +kernel⟩
theorem PH(d:zF K mg "do_copy" Xk ["state", "row"])(a_words:zt K ["State"] "words"):zJ P w K mg base "do_copy" ["state", "row"] 1 (zo K QC):=
 zF.xo d aR (by decide) wC λf cdv A outer s H E hr=>(yh (pN (ve (yG 0) a_words) (zW (zU (zL hr)) zV (z8 1) zE) (uW (zW (zU (zL hr)) zV (xM (z8 0) a_words) (zW (zU (zL hr)) zV (z8 1) zE)))))
abbrev WO:Stmt:=top 45
theorem az:zi ["kind", "one", "other", "carry"] ["kind", "one", "other", "carry"] (zQ WO):=⟨rfl,rfl,rfl,by decide +kernel,rfl,by decide +kernel,by decide +kernel⟩
theorem R8(d:zF K mg "summed" WO ["kind", "one", "other", "carry"])(UX:zJ P w K mg base "added" ["one", "other", "carry"] 1 (zR K Yl))(Js:zJ P w K mg base "taken" ["one", "other", "borrow"] 1 (zR K VG)):zJ P w K mg base "summed" ["kind", "one", "other", "carry"] 2 (zR K VF):=
 zF.yn d az (by decide) Ap λf cdv A outer s H E hr=>(yE (wK (xR (wT (xP hr)) wS (zY (z8 0)) (zY yd) (yW _))
   (zl (yX (zu UX hr rfl (zB (z8 1) (zB (z8 2) (zB vJ zP))))))
   wz)
  (yE (wK (xR (wT (xP hr)) wS (zY (z8 0)) (zY yd) (yW _))
   (zl (yX (zu UX hr rfl (zB (z8 1) (zB (z8 2) (zB (z8 3) zP))))))
   wz)
  (zl (yX (zu Js hr rfl (zB (z8 1) (zB (z8 2) (zB (TF (z8 3) (Wb (uF (wT (xP hr)) wS (zY (z8 0)) (zY yd) (yW _)))) zP))))))))
abbrev WG:Stmt:=top 46
theorem au:zi ["state", "word"] ["state", "word"] (zQ WG):=⟨rfl,rfl,rfl,by decide +kernel,rfl,by decide +kernel,by decide +kernel⟩
theorem Pv(d:zF K mg "look_at" WG ["state", "word"])(qj:xV mg "WORD_BITS" (.int 32))(qp:∀H,zS K H (.int 32) (.int 32))(a_truths:zt K ["State"] "truths")(ww:zJ P w K mg base "part" ["word", "low", "width"] 1 (zR K wN)):zJ P w K mg base "look_at" ["state", "word"] 2 (zo K gS):=
 zF.xo d au (by decide) wC λf cdv A outer s H E hr=>(yC (kC (zL hr) (ve (yG 0) a_truths) yd (yc (uF (wT (xP hr)) wS (zY (z8 1)) (zY zE) (yW _))))
  (yh (kC (zL hr) (ve (yG 0) a_truths) yd (yc (uF (wT (xP hr)) wS (zY (zu ww hr rfl (zB (z8 1) (zB (za Y5 Y2 (vK qj qp rfl) zE) (zB zE zP))))) (zY zE) (yW _))))))
abbrev Xt:Stmt:=top 44
theorem F_:zi ["state", "row", "told"] ["state", "row"] (zQ Xt):=⟨rfl,rfl,rfl,by decide +kernel,rfl,by decide +kernel,by decide +kernel⟩
theorem PR(d:zF K mg "do_sum" Xt ["state", "row"])(a_truths:zt K ["State"] "truths")(a_words:zt K ["State"] "words")(pG:zJ P w K mg base "look_at" ["state", "word"] 2 (zo K gS))(Jq:zJ P w K mg base "summed" ["kind", "one", "other", "carry"] 2 (zR K VF)):zJ P w K mg base "do_sum" ["state", "row"] 3 (zo K gL):=
 zF.xo d F_ (by decide) wC λf cdv A outer s H E hr=>(yC (wR (i:=2) F_.nd rfl (Or.inl rfl) (by decide) (uW (zu Jq hr rfl (zB (zW (zU (zL hr)) zV (z8 1) zE) (zB (zW (zU (zL hr)) zV (xM (z8 0) a_words) (zW (zU (zL hr)) zV (z8 1) zE)) (zB (zW (zU (zL hr)) zV (xM (z8 0) a_words) (zW (zU (zL hr)) zV (z8 1) zE)) (zB (zW (zU (zL hr)) zV (xM (z8 0) a_truths) yd) zP)))))))
  (yC (kC (zL hr) (ve (yG 0) a_truths) yd (yc (zW (zU (zL hr)) zV (z8 2) zE)))
  (yC (uA (ux pG hr rfl (u9 (yG 0) (wG (zW (zU (zL hr)) zV (z8 2) zE) vI))))
  (yh (ja (jc (xR (Y4 (xP hr)) Y1 (zY (zW (zU (zL hr)) zV (z8 1) zE)) (zY yd) (yW _)))
   (yh (pN (ve (yG 0) a_words) (zW (zU (zL hr)) zV (z8 1) zE) (yc (zW (zU (zL hr)) zV (z8 2) zE))))
   jb)))))
abbrev X_:Stmt:=top 48
theorem ai:zi ["kind", "one", "other"] ["kind", "one", "other"] (zQ X_):=⟨rfl,rfl,rfl,by decide +kernel,rfl,by decide +kernel,by decide +kernel⟩
theorem Pd(d:zF K mg "joined" X_ ["kind", "one", "other"]):zJ P w K mg base "joined" ["kind", "one", "other"] 1 (zR K VC):=
 zF.yn d ai (by decide) AY λf cdv A outer s H E hr=>(yE (wK (xR (wT (xP hr)) wS (zY (z8 0)) (zY yd) (yW _))
   (zl (yX (za Ih Z_ (z8 1) (z8 2))))
   wz)
  (yE (wK (xR (wT (xP hr)) wS (zY (z8 0)) (zY yd) (yW _))
   (zl (yX (za Dg Z_ (z8 1) (z8 2))))
   wz)
  (zl (yX (za Re Z_ (z8 1) (z8 2))))))
abbrev Xj:Stmt:=top 47
theorem Fz:zi ["state", "row", "word"] ["state", "row"] (zQ Xj):=⟨rfl,rfl,rfl,by decide +kernel,rfl,by decide +kernel,by decide +kernel⟩
theorem PF(d:zF K mg "do_bits" Xj ["state", "row"])(a_words:zt K ["State"] "words")(pG:zJ P w K mg base "look_at" ["state", "word"] 2 (zo K gS))(Je:zJ P w K mg base "joined" ["kind", "one", "other"] 1 (zR K VC)):zJ P w K mg base "do_bits" ["state", "row"] 3 (zo K Ym):=
 zF.xo d Fz (by decide) wC λf cdv A outer s H E hr=>(yC (wR (i:=2) Fz.nd rfl (Or.inl rfl) (by decide) (uW (zu Je hr rfl (zB (zW (zU (zL hr)) zV (z8 1) zE) (zB (zW (zU (zL hr)) zV (xM (z8 0) a_words) (zW (zU (zL hr)) zV (z8 1) zE)) (zB (zW (zU (zL hr)) zV (xM (z8 0) a_words) (zW (zU (zL hr)) zV (z8 1) zE)) zP))))))
  (yC (uA (ux pG hr rfl (u9 (yG 0) (wG (z8 2) vI))))
  (yh (pN (ve (yG 0) a_words) (zW (zU (zL hr)) zV (z8 1) zE) (yc (z8 2))))))
abbrev Xo:Stmt:=top 49
theorem O7:zi ["state", "row", "word", "told"] ["state", "row"] (zQ Xo):=⟨rfl,rfl,rfl,by decide +kernel,rfl,by decide +kernel,by decide +kernel⟩
theorem PM(d:zF K mg "do_move" Xo ["state", "row"])(a_words:zt K ["State"] "words")(a_truths:zt K ["State"] "truths")(pG:zJ P w K mg base "look_at" ["state", "word"] 2 (zo K gS))(Jm:zJ P w K mg base "moved_left" ["word", "count"] 2 (zR K VD))(Jn:zJ P w K mg base "moved_right" ["word", "count"] 2 (zR K VE)):zJ P w K mg base "do_move" ["state", "row"] 3 (zo K VB):=
 zF.xo d O7 (by decide) wC λf cdv A outer s H E hr=>(yC (wR (i:=2) O7.nd rfl (Or.inl rfl) (by decide) (uW (zW (zU (zL hr)) zV (xM (z8 0) a_words) (zW (zU (zL hr)) zV (z8 1) zE))))
  (yC (wR (i:=3) O7.nd rfl (Or.inl rfl) (by decide) (yc (kS (xR (wT (xP hr)) wS (zY (zW (zU (zL hr)) zV (z8 1) zE)) (zY yd) (yW _)) (zu Jm hr rfl (zB (z8 2) (zB (zW (zU (zL hr)) zV (z8 1) zE) zP))) (zu Jn hr rfl (zB (z8 2) (zB (zW (zU (zL hr)) zV (z8 1) zE) zP))))))
  (yC (ja (jc (xR Rb R0 (zY (zW (zU (zL hr)) zV (z8 3) zE)) (zY YH) (yW _)))
   (yh (kC (zL hr) (ve (yG 0) a_truths) yd (yc (zW (zU (zL hr)) zV (z8 3) zE))))
   jb)
  (yC (uA (ux pG hr rfl (u9 (yG 0) (wG (zW (zU (zL hr)) zV (z8 3) zE) vI))))
  (yh (pN (ve (yG 0) a_words) (zW (zU (zL hr)) zV (z8 1) zE) (yc (zW (zU (zL hr)) zV (z8 3) zE))))))))
abbrev Xe:Stmt:=top 50
theorem aN:zi ["state", "row"] ["state", "row"] (zQ Xe):=⟨rfl,rfl,rfl,by decide +kernel,rfl,by decide +kernel,by decide +kernel⟩
theorem P7(d:zF K mg "address_in" Xe ["state", "row"])(a_words:zt K ["State"] "words")(Zc:zJ P w K mg base "address_of" ["word", "number"] 2 (zR K jD)):zJ P w K mg base "address_in" ["state", "row"] 3 (zR K tK):=
 zF.yn d aN (by decide) AL λf cdv A outer s H E hr=>(zl (yX (zu Zc hr rfl (zB (zW (zU (zL hr)) zV (xM (z8 0) a_words) (zW (zU (zL hr)) zV (z8 1) zE)) (zB (zW (zU (zL hr)) zV (z8 1) zE) zP)))))
abbrev Xm:Stmt:=top 51
theorem aT:zi ["state", "row"] ["state", "row"] (zQ Xm):=⟨rfl,rfl,rfl,by decide +kernel,rfl,by decide +kernel,by decide +kernel⟩
theorem PK(d:zF K mg "do_load" Xm ["state", "row"])(a_words:zt K ["State"] "words")(a_held:zt K ["State"] "held")(pE:zJ P w K mg base "byte_at" ["held", "address"] 1 (zR K qb))(tW:zJ P w K mg base "address_in" ["state", "row"] 3 (zR K tK)):zJ P w K mg base "do_load" ["state", "row"] 4 (zo K Yn):=
 zF.xo d aT (by decide) wC λf cdv A outer s H E hr=>(yh (pN (ve (yG 0) a_words) (zW (zU (zL hr)) zV (z8 1) zE) (uW (zu pE hr rfl (zB (xM (z8 0) a_held) (zB (zu tW hr rfl (zB (z8 0) (zB (z8 1) zP))) zP))))))
abbrev Xn:Stmt:=top 52
theorem aU:zi ["state", "row"] ["state", "row"] (zQ Xn):=⟨rfl,rfl,rfl,by decide +kernel,rfl,by decide +kernel,by decide +kernel⟩
theorem PL(d:zF K mg "do_loadw" Xn ["state", "row"])(a_words:zt K ["State"] "words")(a_held:zt K ["State"] "held")(Jv:zJ P w K mg base "word_at" ["held", "address"] 4 (zR K ZF))(tW:zJ P w K mg base "address_in" ["state", "row"] 3 (zR K tK)):zJ P w K mg base "do_loadw" ["state", "row"] 5 (zo K Yo):=
 zF.xo d aU (by decide) wC λf cdv A outer s H E hr=>(yh (pN (ve (yG 0) a_words) (zW (zU (zL hr)) zV (z8 1) zE) (uW (zu Jv hr rfl (zB (xM (z8 0) a_held) (zB (zu tW hr rfl (zB (z8 0) (zB (z8 1) zP))) zP))))))
abbrev Xr:Stmt:=top 53
theorem aX:zi ["state", "row"] ["state", "row"] (zQ Xr):=⟨rfl,rfl,rfl,by decide +kernel,rfl,by decide +kernel,by decide +kernel⟩
theorem PP(d:zF K mg "do_store" Xr ["state", "row"])(a_words:zt K ["State"] "words")(a_held:zt K ["State"] "held")(Zk:zJ P w K mg base "put_byte" ["held", "address", "word"] 2 (zo K gT))(tW:zJ P w K mg base "address_in" ["state", "row"] 3 (zR K tK)):zJ P w K mg base "do_store" ["state", "row"] 4 (zo K Yp):=
 zF.xo d aX (by decide) wC λf cdv A outer s H E hr=>(yh (uA (ux Zk hr rfl (u9 (ve (yG 0) a_held) (Ut (zu tW hr rfl (zB (z8 0) (zB (z8 1) zP))) (Ut (zW (zU (zL hr)) zV (xM (z8 0) a_words) (zW (zU (zL hr)) zV (z8 1) zE)) vI))))))
abbrev Xs:Stmt:=top 54
theorem aY:zi ["state", "row"] ["state", "row"] (zQ Xs):=⟨rfl,rfl,rfl,by decide +kernel,rfl,by decide +kernel,by decide +kernel⟩
theorem PQ(d:zF K mg "do_storew" Xs ["state", "row"])(a_words:zt K ["State"] "words")(a_held:zt K ["State"] "held")(Jp:zJ P w K mg base "put_word" ["held", "address", "word"] 4 (zo K Ys))(tW:zJ P w K mg base "address_in" ["state", "row"] 3 (zR K tK)):zJ P w K mg base "do_storew" ["state", "row"] 5 (zo K Yq):=
 zF.xo d aY (by decide) wC λf cdv A outer s H E hr=>(yh (uA (ux Jp hr rfl (u9 (ve (yG 0) a_held) (Ut (zu tW hr rfl (zB (z8 0) (zB (z8 1) zP))) (Ut (zW (zU (zL hr)) zV (xM (z8 0) a_words) (zW (zU (zL hr)) zV (z8 1) zE)) vI))))))
abbrev Xp:Stmt:=top 56
theorem aV:zi ["state", "row"] ["state", "row"] (zQ Xp):=⟨rfl,rfl,rfl,by decide +kernel,rfl,by decide +kernel,by decide +kernel⟩
theorem PN(d:zF K mg "do_row" Xp ["state", "row"])(UR:xV mg "DEEDS" (.ref j9))(d_DEEDS:gW K w mg j9 ZS Mv)(JZ:zJ P w K mg base "do_set" ["state", "row"] 1 (zo K QF))(JV:zJ P w K mg base "do_high" ["state", "row"] 2 (zo K QD))(JU:zJ P w K mg base "do_copy" ["state", "row"] 1 (zo K QC))(gz:zJ P w K mg base "do_sum" ["state", "row"] 3 (zo K gL))(XE:zJ P w K mg base "do_bits" ["state", "row"] 3 (zo K Ym))(UY:zJ P w K mg base "do_move" ["state", "row"] 3 (zo K VB))(JW:zJ P w K mg base "do_load" ["state", "row"] 4 (zo K Yn))(JX:zJ P w K mg base "do_loadw" ["state", "row"] 5 (zo K Yo))(Ja:zJ P w K mg base "do_store" ["state", "row"] 4 (zo K Yp))(Jb:zJ P w K mg base "do_storew" ["state", "row"] 5 (zo K Yq)):zJ P w K mg base "do_row" ["state", "row"] 6 (zo K gK):=
 zF.xo d aV (by decide) wC λf cdv A outer s H E hr=>(yh (ja (jc (bY UR d_DEEDS rfl (zW (zU (zL hr)) zV (z8 1) zE)))
   (yh (uA (NL UR d_DEEDS rfl (wM.cons JZ (by decide) (wM.cons JV (by decide) (wM.cons JU (by decide) (wM.cons gz (by decide) (wM.cons gz (by decide) (wM.cons gz (by decide) (wM.cons gz (by decide) (wM.cons gz (by decide) (wM.cons XE (by decide) (wM.cons XE (by decide) (wM.cons XE (by decide) (wM.cons UY (by decide) (wM.cons UY (by decide) (wM.cons JW (by decide) (wM.cons JX (by decide) (wM.cons Ja (by decide) (wM.cons Jb (by decide) wM.nil))))))))))))))))) hr (zW (zU (zL hr)) zV (z8 1) zE) (u9 (yG 0) (wG (z8 1) vI)))))
   jb))
abbrev WF:Stmt:=top 57
theorem aq:zi ["state", "row"] ["state", "row"] (zQ WF):=⟨rfl,rfl,rfl,by decide +kernel,rfl,by decide +kernel,by decide +kernel⟩
theorem Pt(d:zF K mg "leads" WF ["state", "row"])(a_truths:zt K ["State"] "truths"):zJ P w K mg base "leads" ["state", "row"] 1 (zR K ZC):=
 zF.yn d aq (by decide) Ai λf cdv A outer s H E hr=>(yE (wK (xR (wT (xP hr)) wS (zY (zW (zU (zL hr)) zV (z8 1) zE)) (zY yd) (yW _))
   (zl (yX (zW (zU (zL hr)) zV (xM (z8 0) a_truths) (zW (zU (zL hr)) zV (z8 1) zE))))
   wz)
  (yE (wK (xR (wT (xP hr)) wS (zY (zW (zU (zL hr)) zV (z8 1) zE)) (zY yd) (yW _))
   (zl (yX (b8 (zW (zU (zL hr)) zV (xM (z8 0) a_truths) (zW (zU (zL hr)) zV (z8 1) zE)))))
   wz)
  (zl (yX (uF (wT (xP hr)) wS (zY (zW (zU (zL hr)) zV (z8 1) zE)) (zY yd) (yW _))))))
abbrev WV:Stmt:=top 60
theorem b5:zi ["registers"] ["registers"] (zQ WV):=⟨rfl,rfl,rfl,by decide +kernel,rfl,by decide +kernel,by decide +kernel⟩
theorem RF(d:zF K mg "words_from" WV ["registers"])(uJ:mg "len" = none)(t8:mg "isinstance" = none)(xy:mg "list" = none)(Og:mg "all" = none)(US:xV mg "REGISTER_COUNT" (.int 8))(T2:∀H,zS K H (.int 8) (.int 8))(qj:xV mg "WORD_BITS" (.int 32))(qp:∀H,zS K H (.int 32) (.int 32))(pF:zJ P w K mg base "is_number" ["thing", "width"] 1 (zR K uO)):zJ P w K mg base "words_from" ["registers"] 2 (zR K ZH):=
 zF.yn d b5 (by decide) Aw λf cdv A outer s H E hr=>(yE (wK (xR De DY (zY (z8 0)) (zY YH) (yW _))
   (zl (ph (bI (wp (zB zE zP) (xG (zr xl) (by decide))) (vK US T2 rfl))))
   wz)
  (yE (wK (OL (OJ (jm (uI (Wa .list rfl rfl t8 xy U2 (zY (z8 0))))) (OK (xR (Y4 (xP hr)) Y1 (zY (tm U6 Uy rfl uJ X1 (uZ (zY (z8 0)) t5))) (zY (vK US T2 rfl)) (yW _)))))
   YK
   wz)
  (yE (wK (jm (uI (tm (GK rfl) P9 rfl Og GB (uZ (zY (yN (t6 rfl (uS (own:=["thing"]) rfl) (uG (z8 0)) (uk (λC s H fp pn=>(xZ (i:=1) (show(vD ["registers"] ["thing"]).Nodup by decide +kernel) rfl (Or.inl rfl))) rfl) (λC s H fp pn=>qS) (λC s H fp pn=>(zu pF hr rfl (zB (z8 1) (zB (vK qj qp rfl) zP))))))) t5))))
   YK
   wz)
  (zl (ph (jk rfl xy (zB (z8 0) zP)))))))
abbrev pW:Stmt:=tX (top 61) 2
theorem aK:zi ["self"] ["self"] (zQ pW):=⟨rfl,rfl,rfl,by decide +kernel,rfl,by decide +kernel,by decide +kernel⟩
theorem Ny{f:Addr}{fd:FuncData}(d:xF K "stands" "Machine.stands" pW f fd)(a_due:zt K ["RowMachine"] "due")(a_table:zt K ["RowMachine"] "table")(a_end:zt K ["RowMachine"] "end"):yj P w K mg base yo 1 f fd ["self"] (zR K vm):=
 xF.g7 d aK (by decide) AI λcdv A outer s H E hr=>(zl (yX (b9 (uF (wT (xP hr)) wS (zY (xM (z8 0) a_due)) (zY (xM (z8 0) a_end)) (yW _)) (Wb (uF (wT (xP hr)) wS (zY (zW (zU (zL hr)) zV (zW (zU (zL hr)) zV (xM (z8 0) a_table) (xM (z8 0) a_due)) zE)) (zY (tq (zB yd zP) (xG (zr xl) (by decide)))) (yW _))))))
abbrev pQ:Stmt:=tX (top 61) 1
theorem aE:zi ["self"] ["self"] (zQ pQ):=⟨rfl,rfl,rfl,by decide +kernel,rfl,by decide +kernel,by decide +kernel⟩
theorem Nr{f:Addr}{fd:FuncData}(d:xF K "again" "Machine.again" pQ f fd)(a_state:zt K ["RowMachine"] "state")(a_first_held:zt K ["RowMachine"] "first_held")(a_first_words:zt K ["RowMachine"] "first_words")(a_due:zt K ["RowMachine"] "due")(a_done:zt K ["RowMachine"] "done")(IB:ZI P w K mg base "State" ["self", "words", "held"] 1 (zo K Z5)):yj P w K mg base yo 3 f fd ["self"] (zo K jB):=
 xF.xo d aE (by decide) wC λcdv A outer s H E hr=>(yC (qO (yG 0) a_state (IR IB hr rfl (u9 (ve (yG 0) a_first_words) (u9 (ve (yG 0) a_first_held) vI))))
  (yC (qO (yG 0) a_due (yc zE))
  (yh (qO (yG 0) a_done (yc zE)))))
abbrev pX:Stmt:=tX (top 61) 3
theorem Fw:zi ["self", "told"] ["self"] (zQ pX):=⟨rfl,rfl,rfl,by decide +kernel,rfl,by decide +kernel,by decide +kernel⟩
theorem Nz{f:Addr}{fd:FuncData}(d:xF K "step" "Machine.step" pX f fd)(a_due:zt K ["RowMachine"] "due")(a_table:zt K ["RowMachine"] "table")(a_state:zt K ["RowMachine"] "state")(a_done:zt K ["RowMachine"] "done")(v_Machine_stands:wX P w K mg base "RowMachine" "stands" ["self"] 1 (zR K vm))(JY:zJ P w K mg base "do_row" ["state", "row"] 6 (zo K gK))(Jl:zJ P w K mg base "leads" ["state", "row"] 1 (zR K ZC)):yj P w K mg base yo 7 f fd ["self"] (zo K tJ):=
 xF.xo d Fw (by decide) wC λcdv A outer s H E hr=>(yC (ja (jc (uI (kT v_Machine_stands hr (z8 0))))
   (yh (kD (yc vJ)))
   jb)
  (yC (wR (i:=1) Fw.nd rfl (Or.inl rfl) (by decide) (uW (zW (zU (zL hr)) zV (xM (z8 0) a_table) (xM (z8 0) a_due))))
  (yC (uA (ux JY hr rfl (u9 (ve (yG 0) a_state) (wG (zW (zU (zL hr)) zV (z8 1) zE) vI))))
  (yC (qO (yG 0) a_due (uW (kS (uI (zu Jl hr rfl (zB (xM (z8 0) a_state) (zB (zW (zU (zL hr)) zV (z8 1) zE) zP)))) (zW (zU (zL hr)) zV (z8 1) zE) (zW (zU (zL hr)) zV (z8 1) zE))))
  (yC (NX (yG 0) a_done zE)
  (yh (kD (yc vJ))))))))
abbrev pV:Stmt:=tX (top 61) 5
theorem aJ:zi ["self"] ["self"] (zQ pV):=⟨rfl,rfl,rfl,by decide +kernel,rfl,by decide +kernel,by decide +kernel⟩
theorem Nx{f:Addr}{fd:FuncData}(d:xF K "registers" "Machine.registers" pV f fd)(xy:mg "list" = none)(a_state:zt K ["RowMachine"] "state")(a_words:zt K ["State"] "words"):yj P w K mg base yo 1 f fd ["self"] (zR K gH):=
 xF.g7 d aJ (by decide) AH λcdv A outer s H E hr=>(zl (ph (jk rfl xy (zB (xM (xM (z8 0) a_state) a_words) zP))))
abbrev pS:Stmt:=tX (top 61) 6
theorem aG:zi ["self"] ["self"] (zQ pS):=⟨rfl,rfl,rfl,by decide +kernel,rfl,by decide +kernel,by decide +kernel⟩
theorem Nu{f:Addr}{fd:FuncData}(d:xF K "marks" "Machine.marks" pS f fd)(tu:mg "tuple" = none)(Zb:xV mg "MARKS" (.ref qE))(YC:∀H,zS K H gx (.ref qE))(a_state:zt K ["RowMachine"] "state")(a_truths:zt K ["State"] "truths"):yj P w K mg base yo 1 f fd ["self"] (zR K gD):=
 xF.g7 d aG (by decide) AE λcdv A outer s H E hr=>(zl (yX (OC Qt Ig rfl tu U3 (zB (yN (t6 rfl (uS (own:=["mark"]) rfl) (uG (vK Zb YC rfl)) (uk (λC s H fp pn=>(xZ (i:=1) (show(vD ["self"] ["mark"]).Nodup by decide +kernel) rfl (Or.inl rfl))) rfl) (λC s H fp pn=>qS) (λC s H fp pn=>(zW (zU (zL hr)) zV (xM (xM (z8 0) a_state) a_truths) (z8 1))))) zP))))
abbrev pT:Stmt:=tX (top 61) 7
theorem aH:zi ["self"] ["self"] (zQ pT):=⟨rfl,rfl,rfl,by decide +kernel,rfl,by decide +kernel,by decide +kernel⟩
theorem Nv{f:Addr}{fd:FuncData}(d:xF K "memory" "Machine.memory" pT f fd)(a_state:zt K ["RowMachine"] "state")(a_held:zt K ["State"] "held")(Jo:zJ P w K mg base "pairs_of" ["held"] 1 (zR K ZD)):yj P w K mg base yo 2 f fd ["self"] (zR K gE):=
 xF.g7 d aH (by decide) AF λcdv A outer s H E hr=>(zl (ph (ua Jo hr rfl (zB (xM (xM (z8 0) a_state) a_held) zP))))
abbrev pU:Stmt:=tX (top 61) 9
theorem aI:zi ["self"] ["self"] (zQ pU):=⟨rfl,rfl,rfl,by decide +kernel,rfl,by decide +kernel,by decide +kernel⟩
theorem Nw{f:Addr}{fd:FuncData}(d:xF K "place" "Machine.place" pU f fd)(a_due:zt K ["RowMachine"] "due"):yj P w K mg base yo 1 f fd ["self"] (zR K gF):=
 xF.g7 d aI (by decide) AG λcdv A outer s H E hr=>(zl (yX (xM (z8 0) a_due)))
abbrev pY:Stmt:=tX (top 61) 10
theorem aL:zi ["self"] ["self"] (zQ pY):=⟨rfl,rfl,rfl,by decide +kernel,rfl,by decide +kernel,by decide +kernel⟩
theorem N_{f:Addr}{fd:FuncData}(d:xF K "steps" "Machine.steps" pY f fd)(a_done:zt K ["RowMachine"] "done"):yj P w K mg base yo 1 f fd ["self"] (zR K gI):=
 xF.g7 d aL (by decide) AJ λcdv A outer s H E hr=>(zl (yX (xM (z8 0) a_done)))
abbrev pR:Stmt:=tX (top 61) 8
theorem aF:zi ["self", "address"] ["self", "address"] (zQ pR):=⟨rfl,rfl,rfl,by decide +kernel,rfl,by decide +kernel,by decide +kernel⟩
theorem Nt{f:Addr}{fd:FuncData}(d:xF K "byte" "Machine.byte" pR f fd)(a_state:zt K ["RowMachine"] "state")(a_held:zt K ["State"] "held")(Ze:zJ P w K mg base "is_address" ["thing"] 2 (zR K p5))(pE:zJ P w K mg base "byte_at" ["held", "address"] 1 (zR K qb)):yj P w K mg base yo 3 f fd ["self", "address"] (zR K gC):=
 xF.g7 d aF (by decide) AD λcdv A outer s H E hr=>(yE (wK (jm (uI (zu Ze hr rfl (zB (z8 1) zP))))
   YK
   wz)
  (zl (yX (zu pE hr rfl (zB (xM (xM (z8 0) a_state) a_held) (zB (z8 1) zP))))))
abbrev pP:Stmt:=tX (top 61) 0
theorem aD:zi ["self", "table", "end", "registers", "memory"] ["self", "table", "end", "registers", "memory"] (zQ pP):=⟨rfl,rfl,rfl,by decide +kernel,rfl,by decide +kernel,by decide +kernel⟩
theorem Nq{f:Addr}{fd:FuncData}(d:xF K "__init__" "Machine.__init__" pP f fd)(a_table:zt K ["RowMachine"] "table")(a_end:zt K ["RowMachine"] "end")(a_first_words:zt K ["RowMachine"] "first_words")(a_first_held:zt K ["RowMachine"] "first_held")(v_Machine_again:wX P w K mg base "RowMachine" "again" ["self"] 3 (zo K jB))(Jx:zJ P w K mg base "words_from" ["registers"] 2 (zR K ZH))(JS:zJ P w K mg base "bytes_from" ["memory"] 4 (zR K Z6)):yj P w K mg base yo 5 f fd ["self", "table", "end", "registers", "memory"] (zo K Z4):=
 xF.xo d aD (by decide) wC λcdv A outer s H E hr=>(yC (qO (yG 0) a_table (yc (z8 1)))
  (yC (qO (yG 0) a_end (yc (z8 2)))
  (yC (qO (yG 0) a_first_words (yc (yN (ua Jx hr rfl (zB (z8 3) zP)))))
  (yC (qO (yG 0) a_first_held (yc (yN (ua JS hr rfl (zB (z8 4) zP)))))
  (yh (uA (Uv v_Machine_again hr (yG 0))))))))
abbrev WP:Stmt:=top 64
theorem WY:zi ["items", "rows", "table", "number", "target"] ["items"] (zQ WP):=⟨rfl,rfl,rfl,by decide +kernel,rfl,by decide +kernel,by decide +kernel⟩
theorem R9(d:zF K mg "table_of_rows" WP ["items"])(Oi:mg "enumerate" = none)(Zl:zJ P w K mg base "rows_of" ["items"] 2 (zR K jH))(Jt:zJ P w K mg base "targets_of" ["items"] 3 (zR K gU)):zJ P w K mg base "table_of_rows" ["items"] 4 (zR K ZE):=
 zF.yn d WY (by decide) Aq λf cdv A outer s H E hr=>(yE (wy (i:=1) WY.nd rfl (Or.inl rfl) (yN (ua Zl hr rfl (zB (z8 0) zP))))
  (yE (YL (i:=2) WY.nd rfl (Or.inl rfl) Wd)
  (yE (YJ qV rfl (bN rfl Oi (yN (ua Jt hr rfl (zB (z8 0) zP)))) (bL (T4 (n:=2) rfl (jf (xZ (i:=3) WY.nd rfl (Or.inl rfl)) (jf (xZ (i:=4) WY.nd rfl (Or.inl rfl)) T5))) rfl rfl)
   (zl (pf (zL hr) (qv 2) (z8 3) (tq (zB (zW (zU (zL hr)) zV (z8 1) (z8 3)) (zB (za xn xm (z8 3) zE) (zB (z8 4) zP))) (xG (zr (zr (zr xl))) (by decide))))))
  (zl (Wg 2)))))
abbrev tj:Stmt:=tX (top 63) 0
theorem Fx:zi ["self", "items", "registers", "memory", "table"] ["self", "items", "registers", "memory"] (zQ tj):=⟨rfl,rfl,rfl,by decide +kernel,rfl,by decide +kernel,by decide +kernel⟩
theorem P4{f:Addr}{fd:FuncData}(d:xF K "__init__" "RowMachine.__init__" tj f fd)(uJ:mg "len" = none)(w_Machine___init__:VI P w K mg base "Machine" "__init__" ["self", "table", "end", "registers", "memory"] 5 (zo K Z4))(Jr:zJ P w K mg base "table_of_rows" ["items"] 4 (zR K ZE)):yj P w K mg base yo 6 f fd ["self", "items", "registers", "memory"] (zo K jC):=
 xF.xo d Fx (by decide) wC λcdv A outer s H E hr=>(yC (wR (i:=4) Fx.nd rfl (Or.inl rfl) (by decide) (yc (yN (ua Jr hr rfl (zB (z8 1) zP)))))
  (yh (uA (NJ (pl:=_) w_Machine___init__ hr rfl (u9 (yG 0) (wG (z8 4) (wG (tm GQ Pu rfl uJ X1 (uZ (zY (z8 4)) t5)) (wG (z8 2) (wG (z8 3) vI)))))))))
abbrev W5:Stmt:=top 66
theorem aj:zi ["_law_script", "_law_k"] ["_law_script", "_law_k"] (zQ W5):=⟨rfl,rfl,rfl,by decide +kernel,rfl,by decide +kernel,by decide +kernel⟩
theorem Pj(d:zF K mg "_law_cell_at" W5 ["_law_script", "_law_k"])(uJ:mg "len" = none):zJ P w K mg base "_law_cell_at" ["_law_script", "_law_k"] 1 (zR K vn):=
 zF.yn d aj (by decide) Ab λf cdv A outer s H E hr=>(yE (wK (xR Ij Y0 (zY (z8 1)) (zY (tm U6 Uy rfl uJ X1 (uZ (zY (z8 0)) t5))) (yW _))
   (zl (yX (zW (zU (zL hr)) zV (z8 0) (z8 1))))
   wz)
  (zl (yX zE)))
abbrev W9:Stmt:=top 67
theorem C1:zi ["_law_cell", "_law_k", "_law_number"] ["_law_cell", "_law_k"] (zQ W9):=⟨rfl,rfl,rfl,by decide +kernel,rfl,by decide +kernel,by decide +kernel⟩
theorem Pn(d:zF K mg "_law_mixed" W9 ["_law_cell", "_law_k"]):zJ P w K mg base "_law_mixed" ["_law_cell", "_law_k"] 1 (zR K wt):=
 zF.yn d C1 (by decide) Ae λf cdv A outer s H E hr=>(yE (wy (i:=2) C1.nd rfl (Or.inl rfl) (za xY xX (za uY Ie (za xn xm (z8 0) (za uY qP zE (z8 1))) zE) zE))
  (zl (yX (za xY xX (za xn xm (za xn xm (za Df DZ (z8 2) (z8 2)) (za uY qP zE (z8 2))) (z8 1)) zE))))
abbrev WD:Stmt:=top 68
theorem TD:zi ["_law_cell", "_law_k", "_law_way", "_law_number", "_law_some"] ["_law_cell", "_law_k"] (zQ WD):=⟨rfl,rfl,rfl,by decide +kernel,rfl,by decide +kernel,by decide +kernel⟩
theorem Pr(d:zF K mg "_law_word" WD ["_law_cell", "_law_k"])(vG:zJ P w K mg base "_law_mixed" ["_law_cell", "_law_k"] 1 (zR K wt)):zJ P w K mg base "_law_word" ["_law_cell", "_law_k"] 2 (zR K ZB):=
 zF.yn d TD (by decide) Ag λf cdv A outer s H E hr=>(yE (wy (i:=2) TD.nd rfl (Or.inl rfl) (za xY xX (zu vG hr rfl (zB (z8 0) (zB (za uY qP zE (z8 1)) zP))) zE))
  (yE (wy (i:=3) TD.nd rfl (Or.inl rfl) (zu vG hr rfl (zB (z8 0) (zB (za xn xm (za uY qP zE (z8 1)) zE) zP))))
  (yE (wy (i:=4) TD.nd rfl (Or.inl rfl) (yN (wp (zB zE (zB zE (zB zE (zB zE (zB (za xY xX (z8 3) zE) (zB (za xn xm zE (za xY xX (z8 3) zE)) zP)))))) (xG (zr (zr (zr (zr (zr (zr xl)))))) (by decide)))))
  (zl (yX (zW (zU (zL hr)) zV (za xn xm (z8 4) (yN (wp (zB (za xY xX (za uY Ie (z8 3) zE) zE) (zB (za xY xX (za uY Ie (z8 3) zE) zE) zP)) (xG (zr (zr xl)) (by decide))))) (z8 2)))))))
abbrev WE:Stmt:=top 69
theorem ao:zi ["_law_cell"] ["_law_cell"] (zQ WE):=⟨rfl,rfl,rfl,by decide +kernel,rfl,by decide +kernel,by decide +kernel⟩
theorem Ps(d:zF K mg "_law_words" WE ["_law_cell"])(wj:mg "range" = none)(Jk:zJ P w K mg base "_law_word" ["_law_cell", "_law_k"] 2 (zR K ZB)):zJ P w K mg base "_law_words" ["_law_cell"] 3 (zR K jG):=
 zF.yn d ao (by decide) Ah λf cdv A outer s H E hr=>(zl (ph (t6 rfl (uS (own:=["_law_k"]) rfl) (kU rfl wj zE) (uk (λC s H fp pn=>(xZ (i:=1) (show(vD ["_law_cell"] ["_law_k"]).Nodup by decide +kernel) rfl (Or.inl rfl))) rfl) (λC s H fp pn=>qS) (λC s H fp pn=>(zu Jk hr rfl (zB (z8 0) (zB (z8 1) zP)))))))
abbrev W4:Stmt:=top 70
theorem qq:zi ["_law_row", "_law_s", "_law_address", "_law_count", "_law_number", "_law_found", "_law_worth", "_law_turn", "_law_here"] ["_law_row", "_law_s"] (zQ W4):=⟨rfl,rfl,rfl,by decide +kernel,rfl,by decide +kernel,by decide +kernel⟩
theorem Pi(d:zF K mg "_law_bytes" W4 ["_law_row", "_law_s"])(YR:mg "int" = none)(wj:mg "range" = none):zJ P w K mg base "_law_bytes" ["_law_row", "_law_s"] 1 (zo K p6):=
 zF.xo d qq (by decide) wC λf cdv A outer s H E hr=>(yC (wR (i:=2) qq.nd rfl (Or.inl rfl) (by decide) (uW (za xY xX (za xn xm (zW (zU (zL hr)) zV (zW (zU (zL hr)) zV (z8 1) yd) (zW (zU (zL hr)) zV (z8 0) zE)) (zW (zU (zL hr)) zV (z8 0) zE)) zE)))
  (yC (wR (i:=3) qq.nd rfl (Or.inl rfl) (by decide) (yc (za xn xm zE (za uY qP zE (b6 GO PV rfl YR Mb (uZ (zY (uF (XS (zL hr)) XO (zY (zW (zU (zL hr)) zV (z8 0) zE)) (zY (yN (wp (zB yd (zB yd zP)) (xG (zr (zr xl)) (by decide))))) (by with_unfolding_all rfl))) t5))))))
  (yC (wR (i:=4) qq.nd rfl (Or.inl rfl) (by decide) (uW (zW (zU (zL hr)) zV (zW (zU (zL hr)) zV (z8 1) yd) (zW (zU (zL hr)) zV (z8 0) zE))))
  (yC (wR (i:=5) qq.nd rfl (Or.inl rfl) (by decide) (yc zE))
  (yC (wR (i:=6) qq.nd rfl (Or.inl rfl) (by decide) (yc zE))
  (yC (XM qV rfl (kU rfl wj (z8 3)) (IT (xZ (i:=7) qq.nd rfl (Or.inl rfl)) rfl (by decide))
   (yC (wR (i:=8) qq.nd rfl (Or.inl rfl) (by decide) (yc (za xY xX (za xn xm (z8 2) (z8 7)) zE)))
    (yC (ja (jc (xR (XS (zL hr)) XO (zY (zW (zU (zL hr)) zV (z8 0) zE)) (zY (yN (wp (zB yd (zB yd zP)) (xG (zr (zr xl)) (by decide))))) (by with_unfolding_all rfl)))
     (yh (kC (zL hr) (CG (yG 1)) (z8 8) (yc (za xY xX (za Ii IZ (z8 4) (z8 6)) zE))))
     jb)
    (yC (NW (i:=5) BS DX qq.nd rfl (Or.inl rfl) (by decide) (uW (za Df DZ (z8 6) (OD (zL hr) (zW (zU (zL hr)) zV (z8 1) yd) (z8 8) zE ⟨rfl,rfl,rfl,rfl⟩))))
    (yh (wR (i:=6) qq.nd rfl (Or.inl rfl) (by decide) (yc (za uY qP zE (z8 6)))))))))
  (yh (ja (jc (xR (XS (zL hr)) XO (zY (zW (zU (zL hr)) zV (z8 0) zE)) (zY (yN (wp (zB yd (zB yd zP)) (xG (zr (zr xl)) (by decide))))) (by with_unfolding_all rfl)))
   (yh (pN (CG (yG 1)) (zW (zU (zL hr)) zV (z8 0) zE) (yc (z8 5))))
   jb))))))))
abbrev W6:Stmt:=top 71
theorem ak:zi ["_law_row", "_law_s"] ["_law_row", "_law_s"] (zQ W6):=⟨rfl,rfl,rfl,by decide +kernel,rfl,by decide +kernel,by decide +kernel⟩
theorem Pk(d:zF K mg "_law_deed" W6 ["_law_row", "_law_s"])(Jh:zJ P w K mg base "_law_bytes" ["_law_row", "_law_s"] 1 (zo K p6)):zJ P w K mg base "_law_deed" ["_law_row", "_law_s"] 2 (zo K gO):=
 zF.xo d ak (by decide) wC λf cdv A outer s H E hr=>(yh (uA (ux Jh hr rfl (wG (z8 0) (u9 (yG 1) vI)))))
abbrev W2:Stmt:=top 72
theorem TC:zi ["_law_words_here", "_law_pairs_here", "_law_cells", "_law_address", "_law_byte_here"] ["_law_words_here", "_law_pairs_here"] (zQ W2):=⟨rfl,rfl,rfl,by decide +kernel,rfl,by decide +kernel,by decide +kernel⟩
theorem Pg(d:zF K mg "_law_begin" W2 ["_law_words_here", "_law_pairs_here"])(xy:mg "list" = none):zJ P w K mg base "_law_begin" ["_law_words_here", "_law_pairs_here"] 1 (zo K gN):=
 zF.xo d TC (by decide) wC λf cdv A outer s H E hr=>(yC (wR (i:=2) TC.nd rfl (Or.inl rfl) (by decide) (Zw Wd))
  (yC (XM qV rfl (uG (z8 1)) (Bp (T4 (n:=2) rfl (jf (xZ (i:=3) TC.nd rfl (Or.inl rfl)) (jf (xZ (i:=4) TC.nd rfl (Or.inl rfl)) T5))) rfl rfl (by decide) (by decide))
   (yh (kC (zL hr) (yG 2) (z8 3) (yc (z8 4)))))
  (yh (kD (NP (ks:=["words", "marks", "bytes", "at", "many"]) (XJ (Zw (jk rfl xy (zB (z8 0) zP))) (XJ (Zw (wp (zB vJ (zB vJ (zB vJ zP))) (xG (zr (zr (zr xl))) (by decide)))) (XJ (NM 2) (XJ (yc zE) (XJ (yc zE) NQ))))) (by decide +kernel) (by decide))))))
abbrev WA:Stmt:=top 73
theorem WX:zi ["_law_cell", "_law_found", "_law_k", "_law_way", "_law_address"] ["_law_cell"] (zQ WA):=⟨rfl,rfl,rfl,by decide +kernel,rfl,by decide +kernel,by decide +kernel⟩
theorem Po(d:zF K mg "_law_pairs" WA ["_law_cell"])(wj:mg "range" = none)(vG:zJ P w K mg base "_law_mixed" ["_law_cell", "_law_k"] 1 (zR K wt)):zJ P w K mg base "_law_pairs" ["_law_cell"] 2 (zR K jF):=
 zF.yn d WX (by decide) Af λf cdv A outer s H E hr=>(yE (YL (i:=1) WX.nd rfl (Or.inl rfl) (wp zP (xG xl (by decide))))
  (yE (YJ qV rfl (kU rfl wj (za xY xX (zu vG hr rfl (zB (z8 0) (zB zE zP))) zE)) (We (xZ (i:=2) WX.nd rfl (Or.inl rfl)) rfl)
   (yE (wy (i:=3) WX.nd rfl (Or.inl rfl) (zu vG hr rfl (zB (z8 0) (zB (za xn xm zE (z8 2)) zP))))
    (yE (wy (i:=4) WX.nd rfl (Or.inl rfl) (zW (zU (zL hr)) zV (yN (wp (zB (za xY xX (z8 3) zE) (zB (za xn xm zE (za xY xX (z8 3) zE)) (zB (za xY xX (z8 3) zE) zP))) (xG (zr (zr (zr xl))) (by decide)))) (za xY xX (zu vG hr rfl (zB (z8 0) (zB (za xn xm zE (z8 2)) zP))) zE)))
    (zl (wK (bZ (xR (RY (zL hr)) P_ (zY (z8 4)) (zY (yN (t6 rfl (uS (own:=["_law_pair"]) rfl) (uG (z8 1)) (uk (λC s H fp pn=>(xZ (i:=5) (show(vD ["_law_cell", "_law_found", "_law_k", "_law_way", "_law_address"] ["_law_pair"]).Nodup by decide +kernel) rfl (Or.inl rfl))) rfl) (λC s H fp pn=>qS) (λC s H fp pn=>(zW (zU (zL hr)) zV (z8 5) zE))))) (by with_unfolding_all rfl)))
     (zl (CI (qv 1) (tq (zB (z8 4) (zB (zW (zU (zL hr)) zV (yN (wp (zB (za xY xX (zu vG hr rfl (zB (z8 0) (zB (za xn xm zE (z8 2)) zP))) zE) (zB zE (zB zE zP))) (xG (zr (zr (zr xl))) (by decide)))) (za xY xX (zu vG hr rfl (zB (z8 0) (zB (za xn xm zE (z8 2)) zP))) zE)) zP)) (xG (zr (zr xl)) (by decide)))))
     wz)))))
  (zl (Wg 1))))
abbrev W8:Stmt:=top 74
theorem O8:zi ["_law_machine", "_law_cell", "_law_found", "_law_k"] ["_law_machine", "_law_cell"] (zQ W8):=⟨rfl,rfl,rfl,by decide +kernel,rfl,by decide +kernel,by decide +kernel⟩
theorem Pm(d:zF K mg "_law_look" W8 ["_law_machine", "_law_cell"])(qu:mg "repr" = none)(wj:mg "range" = none)(v_Machine_registers:wX P w K mg base "RowMachine" "registers" ["self"] 1 (zR K gH))(v_Machine_marks:wX P w K mg base "RowMachine" "marks" ["self"] 1 (zR K gD))(v_Machine_memory:wX P w K mg base "RowMachine" "memory" ["self"] 2 (zR K gE))(v_Machine_place:wX P w K mg base "RowMachine" "place" ["self"] 1 (zR K gF))(v_Machine_steps:wX P w K mg base "RowMachine" "steps" ["self"] 1 (zR K gI))(v_Machine_stands:wX P w K mg base "RowMachine" "stands" ["self"] 1 (zR K vm)):zJ P w K mg base "_law_look" ["_law_machine", "_law_cell"] 3 (zR K jE):=
 zF.yn d O8 (by decide) Ad λf cdv A outer s H E hr=>(yE (YL (i:=2) O8.nd rfl (Or.inr rfl) Wd)
  (yE (YJ qV rfl (uG (zW (zU (zL hr)) zV (yN (wp (zB (yN (wp (TB (is:=[0,1,2,3,4,5]) rfl) (xG (VT (n:=6) (by decide)) (by decide)))) (zB (yN (wp (TB (is:=[5,4,3,2,1,0]) rfl) (xG (VT (n:=6) (by decide)) (by decide)))) (zB (yN (wp (TB (is:=[2,4,0,5,1,3]) rfl) (xG (VT (n:=6) (by decide)) (by decide)))) (zB (yN (wp (TB (is:=[3,1,5,0,4,2]) rfl) (xG (VT (n:=6) (by decide)) (by decide)))) zP)))) (xG (zr (zr (zr (zr xl)))) (by decide)))) (za xY xX (z8 1) zE))) (We (xZ (i:=3) O8.nd rfl (Or.inl rfl)) rfl)
   (zl (wK (xR (wT (xP hr)) wS (zY (z8 3)) (zY zE) (yW _))
     (zl (pf (zL hr) (qv 2) (z8 3) (kT v_Machine_registers hr (z8 0))))
     (zl (wK (xR (wT (xP hr)) wS (zY (z8 3)) (zY zE) (yW _))
       (zl (pf (zL hr) (qv 2) (z8 3) (kT v_Machine_marks hr (z8 0))))
       (zl (wK (xR (wT (xP hr)) wS (zY (z8 3)) (zY zE) (yW _))
         (zl (pf (zL hr) (qv 2) (z8 3) (kT v_Machine_memory hr (z8 0))))
         (zl (wK (xR (wT (xP hr)) wS (zY (z8 3)) (zY zE) (yW _))
           (zl (pf (zL hr) (qv 2) (z8 3) (kT v_Machine_place hr (z8 0))))
           (zl (wK (xR (wT (xP hr)) wS (zY (z8 3)) (zY zE) (yW _))
             (zl (pf (zL hr) (qv 2) (z8 3) (kT v_Machine_steps hr (z8 0))))
             (zl (pf (zL hr) (qv 2) (z8 3) (kT v_Machine_stands hr (z8 0)))))))))))))))
  (CJ 2 (zl (yX (tm (Me hr) Da rfl qu U4 (uZ (zY (yN (t6 rfl (uS (own:=["_law_k"]) rfl) (kU rfl wj zE) (uk (λC s H fp pn=>(xZ (i:=4) (show(vD ["_law_machine", "_law_cell", "_law_found", "_law_k"] ["_law_k"]).Nodup by decide +kernel) rfl (Or.inl rfl))) rfl) (λC s H fp pn=>qS) (λC s H fp pn=>(zW (zU (zL hr)) zV (z8 2) (z8 4)))))) t5)))))))
abbrev W7:Stmt:=top 75
theorem C0:zi ["_law_s", "_law_stands", "_law_cells"] ["_law_s", "_law_stands"] (zQ W7):=⟨rfl,rfl,rfl,by decide +kernel,rfl,by decide +kernel,by decide +kernel⟩
theorem Pl(d:zF K mg "_law_due" W7 ["_law_s", "_law_stands"])(YS:mg "sorted" = none)(xy:mg "list" = none)(qu:mg "repr" = none)(tu:mg "tuple" = none):zJ P w K mg base "_law_due" ["_law_s", "_law_stands"] 1 (zR K gQ):=
 zF.yn d C0 (by decide) Ac λf cdv A outer s H E hr=>(yE (bX (i:=2) rfl C0.nd rfl rfl (uS (own:=["_law_address"]) rfl) rfl (uG (yN (bK rfl YS (zB (yN (bG rfl rfl xy (zB (zW (zU (zL hr)) zV (z8 0) yd) zP))) zP)))) (uk (λC s H fp pn=>(xZ (i:=3) (show(vD ["_law_s", "_law_stands", "_law_cells"] ["_law_address"]).Nodup by decide +kernel) rfl (Or.inl rfl))) rfl) (λC s H fp pn=>(OI (xR RO Y0 (zY (zW (zU (zL hr)) zV (zW (zU (zL hr)) zV (z8 0) yd) (z8 3))) (zY zE) (yW _)))) (λC s H fp pn=>(tq (zB (z8 3) (zB (zW (zU (zL hr)) zV (zW (zU (zL hr)) zV (z8 0) yd) (z8 3)) zP)) (xG (zr (zr xl)) (by decide)))))
  (zl (yX (tm (Me hr) Da rfl qu U4 (uZ (zY (yN (wp (zB (zW (zU (zL hr)) zV (z8 0) yd) (zB (OC Qt Ig rfl tu U3 (zB (zW (zU (zL hr)) zV (z8 0) yd) zP)) (zB (z8 2) (zB (zW (zU (zL hr)) zV (z8 0) yd) (zB (zW (zU (zL hr)) zV (z8 0) yd) (zB (z8 1) zP)))))) (xG (zr (zr (zr (zr (zr (zr xl)))))) (by decide))))) t5)))))
abbrev WC:Stmt:=top 76
theorem am:zi ["_law_row", "_law_s"] ["_law_row", "_law_s"] (zQ WC):=⟨rfl,rfl,rfl,by decide +kernel,rfl,by decide +kernel,by decide +kernel⟩
theorem Pq(d:zF K mg "_law_straight" WC ["_law_row", "_law_s"])(Ji:zJ P w K mg base "_law_deed" ["_law_row", "_law_s"] 2 (zo K gO)):zJ P w K mg base "_law_straight" ["_law_row", "_law_s"] 3 (zo K gR):=
 zF.xo d am (by decide) wC λf cdv A outer s H E hr=>(yC (uA (ux Ji hr rfl (wG (z8 0) (u9 (yG 1) vI))))
  (yC (Bq (zL hr) (yG 1) zE)
  (yh (Bq (zL hr) (yG 1) zE))))
abbrev WB:Stmt:=top 77
theorem kR:zi ["_law_script", "_law_rows", "_law_words_here", "_law_pairs_here", "_law_machine", "_law_s", "_law_k", "_law_order"] ["_law_script", "_law_rows"] (zQ WB):=⟨rfl,rfl,rfl,by decide +kernel,rfl,by decide +kernel,by decide +kernel⟩
theorem Pp(d:zF K mg "_law_played" WB ["_law_script", "_law_rows"])(xy:mg "list" = none)(wj:mg "range" = none)(uJ:mg "len" = none)(Zp:ZI P w K mg base "RowMachine" ["self", "items", "registers", "memory"] 6 (zo K jC))(v_Machine_step:wX P w K mg base "RowMachine" "step" ["self"] 7 (zo K tJ))(Zg:zJ P w K mg base "_law_begin" ["_law_words_here", "_law_pairs_here"] 1 (zo K gN))(Zi:zJ P w K mg base "_law_straight" ["_law_row", "_law_s"] 3 (zo K gR))(Zj:zJ P w K mg base "_law_words" ["_law_cell"] 3 (zR K jG))(u8:zJ P w K mg base "_law_cell_at" ["_law_script", "_law_k"] 1 (zR K vn))(Zh:zJ P w K mg base "_law_pairs" ["_law_cell"] 2 (zR K jF))(Ua:zJ P w K mg base "_law_look" ["_law_machine", "_law_cell"] 3 (zR K jE))(UZ:zJ P w K mg base "_law_due" ["_law_s", "_law_stands"] 1 (zR K gQ)):zJ P w K mg base "_law_played" ["_law_script", "_law_rows"] 9 (zo K ZA):=
 zF.xo d kR (by decide) wC λf cdv A outer s H E hr=>(yC (wR (i:=2) kR.nd rfl (Or.inl rfl) (by decide) (yc (yN (ua Zj hr rfl (zB (zu u8 hr rfl (zB (z8 0) (zB zE zP))) zP)))))
  (yC (wR (i:=3) kR.nd rfl (Or.inl rfl) (by decide) (yc (yN (ua Zh hr rfl (zB (zu u8 hr rfl (zB (z8 0) (zB zE zP))) zP)))))
  (yC (wR (i:=4) kR.nd rfl (Or.inl rfl) (by decide) (IR Zp hr rfl (wG (yN (jk rfl xy (zB (z8 1) zP))) (wG (yN (jk rfl xy (zB (z8 2) zP))) (wG (yN (jk rfl xy (zB (z8 3) zP))) vI)))))
  (yC (wR (i:=5) kR.nd rfl (Or.inl rfl) (by decide) (ux Zg hr rfl (wG (z8 2) (wG (z8 3) vI))))
  (yC (XM qV rfl (kU rfl wj (tm U6 Uy rfl uJ X1 (uZ (zY (z8 1)) t5))) (IT (xZ (i:=6) kR.nd rfl (Or.inl rfl)) rfl (by decide))
   (yC (ja (Nc (Na (jc (xR (Y4 (xP hr)) Y1 (zY (zu Ua hr rfl (zB (z8 4) (zB (za xn xm (zu u8 hr rfl (zB (z8 0) (zB zE zP))) (z8 6)) zP)))) (zY (zu UZ hr rfl (zB (z8 5) (zB vJ zP)))) (yW _))) (Nb (NZ RW Pz (Uv v_Machine_step hr (yG 4)) (yc vJ) (yW _)))))
     (yh (kD (yc vJ)))
     jb)
    (yh (uA (ux Zi hr rfl (wG (zW (zU (zL hr)) zV (z8 1) (z8 6)) (u9 (yG 5) vI)))))))
  (yC (wR (i:=7) kR.nd rfl (Or.inl rfl) (by decide) (yc (za Ii IZ (zu u8 hr rfl (zB (z8 0) (zB zE zP))) zE)))
  (yh (kD (NI (uW (uF (wT (xP hr)) wS (zY (zu Ua hr rfl (zB (z8 4) (zB (z8 7) zP)))) (zY (zu UZ hr rfl (zB (z8 5) (zB vJ zP)))) (yW _))) (NO (NK RT PX (Uv v_Machine_step hr (yG 4)) (yc vJ) (yW _))))))))))))
abbrev W3:Stmt:=top 78
theorem kQ:zi ["_law_rows", "_law_script", "_law_words_here", "_law_pairs_here", "_law_machine", "_law_s", "_law_row", "_law_near"] ["_law_rows", "_law_script"] (zQ W3):=⟨rfl,rfl,rfl,by decide +kernel,rfl,by decide +kernel,by decide +kernel⟩
theorem Ph(d:zF K mg "_law_byte" W3 ["_law_rows", "_law_script"])(qu:mg "repr" = none)(Zp:ZI P w K mg base "RowMachine" ["self", "items", "registers", "memory"] 6 (zo K jC))(v_Machine_step:wX P w K mg base "RowMachine" "step" ["self"] 7 (zo K tJ))(v_Machine_byte:wX P w K mg base "RowMachine" "byte" ["self", "address"] 3 (zR K gC))(Zg:zJ P w K mg base "_law_begin" ["_law_words_here", "_law_pairs_here"] 1 (zo K gN))(Zi:zJ P w K mg base "_law_straight" ["_law_row", "_law_s"] 3 (zo K gR))(Zj:zJ P w K mg base "_law_words" ["_law_cell"] 3 (zR K jG))(u8:zJ P w K mg base "_law_cell_at" ["_law_script", "_law_k"] 1 (zR K vn))(Zh:zJ P w K mg base "_law_pairs" ["_law_cell"] 2 (zR K jF)):zJ P w K mg base "_law_byte" ["_law_rows", "_law_script"] 9 (zo K Z9):=
 zF.xo d kQ (by decide) wC λf cdv A outer s H E hr=>(yC (wR (i:=2) kQ.nd rfl (Or.inl rfl) (by decide) (yc (yN (ua Zj hr rfl (zB (zu u8 hr rfl (zB (z8 1) (zB zE zP))) zP)))))
  (yC (wR (i:=3) kQ.nd rfl (Or.inl rfl) (by decide) (yc (yN (ua Zh hr rfl (zB (zu u8 hr rfl (zB (z8 1) (zB zE zP))) zP)))))
  (yC (wR (i:=4) kQ.nd rfl (Or.inl rfl) (by decide) (IR Zp hr rfl (wG (z8 0) (wG (z8 2) (wG (z8 3) vI)))))
  (yC (wR (i:=5) kQ.nd rfl (Or.inl rfl) (by decide) (ux Zg hr rfl (wG (z8 2) (wG (z8 3) vI))))
  (yC (XM qV rfl (uG (z8 0)) (IT (xZ (i:=6) kQ.nd rfl (Or.inl rfl)) rfl (by decide))
   (yC (uA (Uv v_Machine_step hr (yG 4)))
    (yC (wR (i:=7) kQ.nd rfl (Or.inl rfl) (by decide) (uW (za xY xX (za xn xm (za xn xm (zW (zU (zL hr)) zV (zW (zU (zL hr)) zV (z8 5) yd) (zW (zU (zL hr)) zV (z8 6) zE)) (zW (zU (zL hr)) zV (z8 6) zE)) (za xY xX (zu u8 hr rfl (zB (z8 1) (zB zE zP))) zE)) zE)))
    (yC (uA (ux Zi hr rfl (wG (z8 6) (u9 (yG 5) vI))))
    (yh (ja (jc (xR (Y4 (xP hr)) Y1 (zY (tm (Mf hr) Db rfl qu U4 (uZ (zY (b7 v_Machine_byte hr (z8 4) (zB (z8 7) zP))) t5))) (zY (tm (Mf hr) Db rfl qu U4 (uZ (zY (OD (zL hr) (zW (zU (zL hr)) zV (z8 5) yd) (z8 7) zE ⟨rfl,rfl,rfl,rfl⟩)) t5))) (yW _)))
     (yh (kD (yc vJ)))
     jb))))))
  (yh (kD (yc vJ))))))))
abbrev kN:Stmt:=top 79
theorem kO:zi ["_law_script", "_law_rows", "_law_k", "_law_cell", "_law_d", "_law_s", "_law_number"] ["_law_script"] (zQ kN):=⟨rfl,rfl,rfl,by decide +kernel,rfl,by decide +kernel,by decide +kernel⟩
theorem Pf{f:Addr}{fd:FuncData}(d:Fun K "law" "law" kN f fd)(wj:mg "range" = none)(Oj:mg "min" = none)(xy:mg "list" = none)(u8:zJ P w K mg base "_law_cell_at" ["_law_script", "_law_k"] 1 (zR K vn))(vG:zJ P w K mg base "_law_mixed" ["_law_cell", "_law_k"] 1 (zR K wt))(Jg:zJ P w K mg base "_law_byte" ["_law_rows", "_law_script"] 9 (zR K (qK Z9)))(Jj:zJ P w K mg base "_law_played" ["_law_script", "_law_rows"] 9 (zR K (qK ZA))):yj P w K mg base yo 10 f fd ["_law_script"] (Wf K):=
 Kz d kO (by decide) Aa λcdv A outer s H E hr=>(yE (YL (i:=1) kO.nd rfl (Or.inl rfl) (wp zP (xG xl (by decide))))
  (yE (YJ qV rfl (kU rfl wj (za xn xm zE (za xY xX (zu u8 hr rfl (zB (z8 0) (zB zE zP))) zE))) (We (xZ (i:=2) kO.nd rfl (Or.inl rfl)) rfl)
   (yE (wy (i:=3) kO.nd rfl (Or.inl rfl) (zu u8 hr rfl (zB (z8 0) (zB (za xn xm zE (z8 2)) zP))))
    (yE (wy (i:=4) kO.nd rfl (Or.inl rfl) (za xY xX (zu vG hr rfl (zB (z8 3) (zB (za uY qP zE (z8 2)) zP))) zE))
    (yE (wy (i:=5) kO.nd rfl (Or.inl rfl) (zW (zU (zL hr)) zV (yN (wp (zB (z8 4) (zB (za xY xX (zu vG hr rfl (zB (z8 3) (zB (za xn xm (za uY qP zE (z8 2)) zE) zP))) zE) zP)) (xG (zr (zr xl)) (by decide)))) (tm (GV rfl) Pw rfl Oj GD (uZ (zY zE) (uZ (zY (za xY xX (zu vG hr rfl (zB (z8 3) (zB (za xn xm (za uY qP zE (z8 2)) zE) zP))) zE)) t5)))))
    (yE (wy (i:=6) kO.nd rfl (Or.inl rfl) (zW (zU (zL hr)) zV (yN (wp (zB zE (zB zE (zB (za xY xX (zu vG hr rfl (zB (z8 3) (zB (za xn xm (za uY qP zE (z8 2)) zE) zP))) zE) (zB (za xY xX (zu vG hr rfl (zB (z8 3) (zB (za xn xm (za uY qP zE (z8 2)) zE) zP))) zE) zP)))) (xG (zr (zr (zr (zr xl)))) (by decide)))) (za xY xX (za Ii IZ (z8 3) zE) zE)))
    (zl (CI (qv 1) (tq (zB (zW (zU (zL hr)) zV (yN (wp (zB yd (zB yd (zB yd (zB yd zP)))) (xG (zr (zr (zr (zr xl)))) (by decide)))) (za xY xX (z8 3) zE)) (zB (z8 4) (zB (z8 5) (zB (z8 6) zP)))) (xG (zr (zr (zr (zr xl)))) (by decide))))))))))
  (CJ 1 (zl (yX (TF (zu Jj hr rfl (zB (z8 0) (zB (z8 1) zP))) (Wb (zu Jg hr rfl (zB (yN (jk rfl xy (zB (z8 1) zP))) (zB (z8 0) zP))))))))))
end
theorem all_mk{l:W.OpenLaw}{w:World}{K:W.Frag}{h:Heap}{mg:Str->Option Value}{fa:Addr}(X:K.In h)(G:h.Ns mainGlobals mg)(hfa:mg "law" = some (.ref fa))
  {f0:Addr}{od0 an0:Option Addr}{sl0:Array (Option Value)}{oc0 kV0 dc0 pm0 cd0 ct0:Value}
  {f1:Addr}{od1 an1:Option Addr}{sl1:Array (Option Value)}{oc1 kV1 dc1 pm1 cd1 ct1:Value}
  {f2:Addr}{od2 an2:Option Addr}{sl2:Array (Option Value)}{oc2 kV2 dc2 pm2 cd2 ct2:Value}
  {f3:Addr}{od3 an3:Option Addr}{sl3:Array (Option Value)}{oc3 kV3 dc3 pm3 cd3 ct3:Value}
  {f4:Addr}{od4 an4:Option Addr}{sl4:Array (Option Value)}{oc4 kV4 dc4 pm4 cd4 ct4:Value}
  {f5:Addr}{od5 an5:Option Addr}{sl5:Array (Option Value)}{oc5 kV5 dc5 pm5 cd5 ct5:Value}
  {f6:Addr}{od6 an6:Option Addr}{sl6:Array (Option Value)}{oc6 kV6 dc6 pm6 cd6 ct6:Value}
  {f7:Addr}{od7 an7:Option Addr}{sl7:Array (Option Value)}{oc7 kV7 dc7 pm7 cd7 ct7:Value}
  {f8:Addr}{od8 an8:Option Addr}{sl8:Array (Option Value)}{oc8 kV8 dc8 pm8 cd8 ct8:Value}
  {f9:Addr}{od9 an9:Option Addr}{sl9:Array (Option Value)}{oc9 kV9 dc9 pm9 cd9 ct9:Value}
  {f10:Addr}{od10 an10:Option Addr}{sl10:Array (Option Value)}{oc10 kV10 dc10 pm10 cd10 ct10:Value}
  {f11:Addr}{od11 an11:Option Addr}{sl11:Array (Option Value)}{oc11 kV11 dc11 pm11 cd11 ct11:Value}
  {f12:Addr}{od12 an12:Option Addr}{sl12:Array (Option Value)}{oc12 kV12 dc12 pm12 cd12 ct12:Value}
  {f13:Addr}{od13 an13:Option Addr}{sl13:Array (Option Value)}{oc13 kV13 dc13 pm13 cd13 ct13:Value}
  {f14:Addr}{od14 an14:Option Addr}{sl14:Array (Option Value)}{oc14 kV14 dc14 pm14 cd14 ct14:Value}
  {f15:Addr}{od15 an15:Option Addr}{sl15:Array (Option Value)}{oc15 kV15 dc15 pm15 cd15 ct15:Value}
  {f16:Addr}{od16 an16:Option Addr}{sl16:Array (Option Value)}{oc16 kV16 dc16 pm16 cd16 ct16:Value}
  {f17:Addr}{od17 an17:Option Addr}{sl17:Array (Option Value)}{oc17 kV17 dc17 pm17 cd17 ct17:Value}
  {f18:Addr}{od18 an18:Option Addr}{sl18:Array (Option Value)}{oc18 kV18 dc18 pm18 cd18 ct18:Value}
  {f19:Addr}{od19 an19:Option Addr}{sl19:Array (Option Value)}{oc19 kV19 dc19 pm19 cd19 ct19:Value}
  {f20:Addr}{od20 an20:Option Addr}{sl20:Array (Option Value)}{oc20 kV20 dc20 pm20 cd20 ct20:Value}
  {f21:Addr}{od21 an21:Option Addr}{sl21:Array (Option Value)}{oc21 kV21 dc21 pm21 cd21 ct21:Value}
  {f22:Addr}{od22 an22:Option Addr}{sl22:Array (Option Value)}{oc22 kV22 dc22 pm22 cd22 ct22:Value}
  {f23:Addr}{od23 an23:Option Addr}{sl23:Array (Option Value)}{oc23 kV23 dc23 pm23 cd23 ct23:Value}
  {f24:Addr}{od24 an24:Option Addr}{sl24:Array (Option Value)}{oc24 kV24 dc24 pm24 cd24 ct24:Value}
  {f25:Addr}{od25 an25:Option Addr}{sl25:Array (Option Value)}{oc25 kV25 dc25 pm25 cd25 ct25:Value}
  {f26:Addr}{od26 an26:Option Addr}{sl26:Array (Option Value)}{oc26 kV26 dc26 pm26 cd26 ct26:Value}
  {f27:Addr}{od27 an27:Option Addr}{sl27:Array (Option Value)}{oc27 kV27 dc27 pm27 cd27 ct27:Value}
  {f28:Addr}{od28 an28:Option Addr}{sl28:Array (Option Value)}{oc28 kV28 dc28 pm28 cd28 ct28:Value}
  {f29:Addr}{od29 an29:Option Addr}{sl29:Array (Option Value)}{oc29 kV29 dc29 pm29 cd29 ct29:Value}
  {f30:Addr}{od30 an30:Option Addr}{sl30:Array (Option Value)}{oc30 kV30 dc30 pm30 cd30 ct30:Value}
  {f31:Addr}{od31 an31:Option Addr}{sl31:Array (Option Value)}{oc31 kV31 dc31 pm31 cd31 ct31:Value}
  {f32:Addr}{od32 an32:Option Addr}{sl32:Array (Option Value)}{oc32 kV32 dc32 pm32 cd32 ct32:Value}
  {f33:Addr}{od33 an33:Option Addr}{sl33:Array (Option Value)}{oc33 kV33 dc33 pm33 cd33 ct33:Value}
  {f34:Addr}{od34 an34:Option Addr}{sl34:Array (Option Value)}{oc34 kV34 dc34 pm34 cd34 ct34:Value}
  {f35:Addr}{od35 an35:Option Addr}{sl35:Array (Option Value)}{oc35 kV35 dc35 pm35 cd35 ct35:Value}
  {f36:Addr}{od36 an36:Option Addr}{sl36:Array (Option Value)}{oc36 kV36 dc36 pm36 cd36 ct36:Value}
  {f37:Addr}{od37 an37:Option Addr}{sl37:Array (Option Value)}{oc37 kV37 dc37 pm37 cd37 ct37:Value}
  {f38:Addr}{od38 an38:Option Addr}{sl38:Array (Option Value)}{oc38 kV38 dc38 pm38 cd38 ct38:Value}
  {f39:Addr}{od39 an39:Option Addr}{sl39:Array (Option Value)}{oc39 kV39 dc39 pm39 cd39 ct39:Value}
  {f40:Addr}{od40 an40:Option Addr}{sl40:Array (Option Value)}{oc40 kV40 dc40 pm40 cd40 ct40:Value}
  {f41:Addr}{od41 an41:Option Addr}{sl41:Array (Option Value)}{oc41 kV41 dc41 pm41 cd41 ct41:Value}
  {f42:Addr}{od42 an42:Option Addr}{sl42:Array (Option Value)}{oc42 kV42 dc42 pm42 cd42 ct42:Value}
  {f43:Addr}{od43 an43:Option Addr}{sl43:Array (Option Value)}{oc43 kV43 dc43 pm43 cd43 ct43:Value}
  {f44:Addr}{od44 an44:Option Addr}{sl44:Array (Option Value)}{oc44 kV44 dc44 pm44 cd44 ct44:Value}
  {f45:Addr}{od45 an45:Option Addr}{sl45:Array (Option Value)}{oc45 kV45 dc45 pm45 cd45 ct45:Value}
  {f46:Addr}{od46 an46:Option Addr}{sl46:Array (Option Value)}{oc46 kV46 dc46 pm46 cd46 ct46:Value}
  {f47:Addr}{od47 an47:Option Addr}{sl47:Array (Option Value)}{oc47 kV47 dc47 pm47 cd47 ct47:Value}
  {f48:Addr}{od48 an48:Option Addr}{sl48:Array (Option Value)}{oc48 kV48 dc48 pm48 cd48 ct48:Value}
  {f49:Addr}{od49 an49:Option Addr}{sl49:Array (Option Value)}{oc49 kV49 dc49 pm49 cd49 ct49:Value}
  {f50:Addr}{od50 an50:Option Addr}{sl50:Array (Option Value)}{oc50 kV50 dc50 pm50 cd50 ct50:Value}
  {f51:Addr}{od51 an51:Option Addr}{sl51:Array (Option Value)}{oc51 kV51 dc51 pm51 cd51 ct51:Value}
  {f52:Addr}{od52 an52:Option Addr}{sl52:Array (Option Value)}{oc52 kV52 dc52 pm52 cd52 ct52:Value}
  {f53:Addr}{od53 an53:Option Addr}{sl53:Array (Option Value)}{oc53 kV53 dc53 pm53 cd53 ct53:Value}
  {f54:Addr}{od54 an54:Option Addr}{sl54:Array (Option Value)}{oc54 kV54 dc54 pm54 cd54 ct54:Value}
  {f55:Addr}{od55 an55:Option Addr}{sl55:Array (Option Value)}{oc55 kV55 dc55 pm55 cd55 ct55:Value}
  {f56:Addr}{od56 an56:Option Addr}{sl56:Array (Option Value)}{oc56 kV56 dc56 pm56 cd56 ct56:Value}
  {f57:Addr}{od57 an57:Option Addr}{sl57:Array (Option Value)}{oc57 kV57 dc57 pm57 cd57 ct57:Value}
  {f58:Addr}{od58 an58:Option Addr}{sl58:Array (Option Value)}{oc58 kV58 dc58 pm58 cd58 ct58:Value}
  {f59:Addr}{od59 an59:Option Addr}{sl59:Array (Option Value)}{oc59 kV59 dc59 pm59 cd59 ct59:Value}
  {f60:Addr}{od60 an60:Option Addr}{sl60:Array (Option Value)}{oc60 kV60 dc60 pm60 cd60 ct60:Value}
  {f61:Addr}{od61 an61:Option Addr}{sl61:Array (Option Value)}{oc61 kV61 dc61 pm61 cd61 ct61:Value}
  {f62:Addr}{od62 an62:Option Addr}{sl62:Array (Option Value)}{oc62 kV62 dc62 pm62 cd62 ct62:Value}
  {f63:Addr}{od63 an63:Option Addr}{sl63:Array (Option Value)}{oc63 kV63 dc63 pm63 cd63 ct63:Value}
  {f64:Addr}{od64 an64:Option Addr}{sl64:Array (Option Value)}{oc64 kV64 dc64 pm64 cd64 ct64:Value}
  {f65:Addr}{od65 an65:Option Addr}{sl65:Array (Option Value)}{oc65 kV65 dc65 pm65 cd65 ct65:Value}
  {f66:Addr}{od66 an66:Option Addr}{sl66:Array (Option Value)}{oc66 kV66 dc66 pm66 cd66 ct66:Value}
  {f67:Addr}{od67 an67:Option Addr}{sl67:Array (Option Value)}{oc67 kV67 dc67 pm67 cd67 ct67:Value}
  {C_Machine:Addr}(Bs:W.nsIn K mainGlobals "Machine" = some (some (.ref C_Machine)))
  {C_RowMachine:Addr}(wx:W.nsIn K mainGlobals "RowMachine" = some (some (.ref C_RowMachine)))
  {C_State:Addr}(Zx:W.nsIn K mainGlobals "State" = some (some (.ref C_State)))
  (a0:W.nsIn K mainGlobals "is_number" = some (some (.ref f0)))
  (l0:K.lookup f0=zx "is_number" Xy oc0 od0 sl0 kV0 dc0 pm0 an0 cd0 ct0)
  (c0:W.codeIn K cd0 "is_number" = true)(k0:W.keepIn K (.ref f0)=true)
  (a1:W.nsIn K mainGlobals "added" = some (some (.ref f1)))
  (l1:K.lookup f1=zx "added" Xd oc1 od1 sl1 kV1 dc1 pm1 an1 cd1 ct1)
  (c1:W.codeIn K cd1 "added" = true)(k1:W.keepIn K (.ref f1)=true)
  (a2:W.nsIn K mainGlobals "taken" = some (some (.ref f2)))
  (l2:K.lookup f2=zx "taken" WQ oc2 od2 sl2 kV2 dc2 pm2 an2 cd2 ct2)
  (c2:W.codeIn K cd2 "taken" = true)(k2:W.keepIn K (.ref f2)=true)
  (a3:W.nsIn K mainGlobals "part" = some (some (.ref f3)))
  (l3:K.lookup f3=zx "part" WK oc3 od3 sl3 kV3 dc3 pm3 an3 cd3 ct3)
  (c3:W.codeIn K cd3 "part" = true)(k3:W.keepIn K (.ref f3)=true)
  (a4:W.nsIn K mainGlobals "moved_left" = some (some (.ref f4)))
  (l4:K.lookup f4=zx "moved_left" WH oc4 od4 sl4 kV4 dc4 pm4 an4 cd4 ct4)
  (c4:W.codeIn K cd4 "moved_left" = true)(k4:W.keepIn K (.ref f4)=true)
  (a5:W.nsIn K mainGlobals "moved_right" = some (some (.ref f5)))
  (l5:K.lookup f5=zx "moved_right" WI oc5 od5 sl5 kV5 dc5 pm5 an5 cd5 ct5)
  (c5:W.codeIn K cd5 "moved_right" = true)(k5:W.keepIn K (.ref f5)=true)
  (a6:W.nsIn K mainGlobals "with_part" = some (some (.ref f6)))
  (l6:K.lookup f6=zx "with_part" WS oc6 od6 sl6 kV6 dc6 pm6 an6 cd6 ct6)
  (c6:W.codeIn K cd6 "with_part" = true)(k6:W.keepIn K (.ref f6)=true)
  (a7:W.nsIn K mainGlobals "bytes_of" = some (some (.ref f7)))
  (l7:K.lookup f7=zx "bytes_of" Xi oc7 od7 sl7 kV7 dc7 pm7 an7 cd7 ct7)
  (c7:W.codeIn K cd7 "bytes_of" = true)(k7:W.keepIn K (.ref f7)=true)
  (a8:W.nsIn K mainGlobals "word_of" = some (some (.ref f8)))
  (l8:K.lookup f8=zx "word_of" WU oc8 od8 sl8 kV8 dc8 pm8 an8 cd8 ct8)
  (c8:W.codeIn K cd8 "word_of" = true)(k8:W.keepIn K (.ref f8)=true)
  (a9:W.nsIn K mainGlobals "is_label" = some (some (.ref f9)))
  (l9:K.lookup f9=zx "is_label" Xx oc9 od9 sl9 kV9 dc9 pm9 an9 cd9 ct9)
  (c9:W.codeIn K cd9 "is_label" = true)(k9:W.keepIn K (.ref f9)=true)
  (a10:W.nsIn K mainGlobals "is_jump" = some (some (.ref f10)))
  (l10:K.lookup f10=zx "is_jump" Xw oc10 od10 sl10 kV10 dc10 pm10 an10 cd10 ct10)
  (c10:W.codeIn K cd10 "is_jump" = true)(k10:W.keepIn K (.ref f10)=true)
  (a11:W.nsIn K mainGlobals "rows_of" = some (some (.ref f11)))
  (l11:K.lookup f11=zx "rows_of" WN oc11 od11 sl11 kV11 dc11 pm11 an11 cd11 ct11)
  (c11:W.codeIn K cd11 "rows_of" = true)(k11:W.keepIn K (.ref f11)=true)
  (a12:W.nsIn K mainGlobals "label_places" = some (some (.ref f12)))
  (l12:K.lookup f12=zx "label_places" W1 oc12 od12 sl12 kV12 dc12 pm12 an12 cd12 ct12)
  (c12:W.codeIn K cd12 "label_places" = true)(k12:W.keepIn K (.ref f12)=true)
  (a13:W.nsIn K mainGlobals "targets_of" = some (some (.ref f13)))
  (l13:K.lookup f13=zx "targets_of" WR oc13 od13 sl13 kV13 dc13 pm13 an13 cd13 ct13)
  (c13:W.codeIn K cd13 "targets_of" = true)(k13:W.keepIn K (.ref f13)=true)
  (a14:W.nsIn K mainGlobals "is_address" = some (some (.ref f14)))
  (l14:K.lookup f14=zx "is_address" Xv oc14 od14 sl14 kV14 dc14 pm14 an14 cd14 ct14)
  (c14:W.codeIn K cd14 "is_address" = true)(k14:W.keepIn K (.ref f14)=true)
  (a15:W.nsIn K mainGlobals "is_pair" = some (some (.ref f15)))
  (l15:K.lookup f15=zx "is_pair" Xz oc15 od15 sl15 kV15 dc15 pm15 an15 cd15 ct15)
  (c15:W.codeIn K cd15 "is_pair" = true)(k15:W.keepIn K (.ref f15)=true)
  (a16:W.nsIn K mainGlobals "bytes_from" = some (some (.ref f16)))
  (l16:K.lookup f16=zx "bytes_from" Xh oc16 od16 sl16 kV16 dc16 pm16 an16 cd16 ct16)
  (c16:W.codeIn K cd16 "bytes_from" = true)(k16:W.keepIn K (.ref f16)=true)
  (a17:W.nsIn K mainGlobals "pairs_of" = some (some (.ref f17)))
  (l17:K.lookup f17=zx "pairs_of" WJ oc17 od17 sl17 kV17 dc17 pm17 an17 cd17 ct17)
  (c17:W.codeIn K cd17 "pairs_of" = true)(k17:W.keepIn K (.ref f17)=true)
  (a18:W.nsIn K mainGlobals "byte_at" = some (some (.ref f18)))
  (l18:K.lookup f18=zx "byte_at" Xg oc18 od18 sl18 kV18 dc18 pm18 an18 cd18 ct18)
  (c18:W.codeIn K cd18 "byte_at" = true)(k18:W.keepIn K (.ref f18)=true)
  (a19:W.nsIn K mainGlobals "address_of" = some (some (.ref f19)))
  (l19:K.lookup f19=zx "address_of" Xf oc19 od19 sl19 kV19 dc19 pm19 an19 cd19 ct19)
  (c19:W.codeIn K cd19 "address_of" = true)(k19:W.keepIn K (.ref f19)=true)
  (a20:W.nsIn K mainGlobals "four_from" = some (some (.ref f20)))
  (l20:K.lookup f20=zx "four_from" Xu oc20 od20 sl20 kV20 dc20 pm20 an20 cd20 ct20)
  (c20:W.codeIn K cd20 "four_from" = true)(k20:W.keepIn K (.ref f20)=true)
  (a21:W.nsIn K mainGlobals "word_at" = some (some (.ref f21)))
  (l21:K.lookup f21=zx "word_at" WT oc21 od21 sl21 kV21 dc21 pm21 an21 cd21 ct21)
  (c21:W.codeIn K cd21 "word_at" = true)(k21:W.keepIn K (.ref f21)=true)
  (a22:W.nsIn K mainGlobals "put_byte" = some (some (.ref f22)))
  (l22:K.lookup f22=zx "put_byte" WL oc22 od22 sl22 kV22 dc22 pm22 an22 cd22 ct22)
  (c22:W.codeIn K cd22 "put_byte" = true)(k22:W.keepIn K (.ref f22)=true)
  (a23:W.nsIn K mainGlobals "put_word" = some (some (.ref f23)))
  (l23:K.lookup f23=zx "put_word" WM oc23 od23 sl23 kV23 dc23 pm23 an23 cd23 ct23)
  (c23:W.codeIn K cd23 "put_word" = true)(k23:W.keepIn K (.ref f23)=true)
  (a24:W.findIn K (.ref C_State) "__init__" = some (some (.ref f24)))
  (i24:W.isFn K (.ref f24)=true)
  (l24:K.lookup f24=some ⟨oc24,od24,.func (W.fnOf "__init__" "State.__init__" (yy pZ) (yS pZ) (zQ pZ) .none kV24 dc24 pm24 an24 cd24 ct24),sl24⟩)
  (c24:W.codeIn K cd24 "State.__init__" = true)(k24:W.keepIn K (.ref f24)=true)
  (a25:W.nsIn K mainGlobals "do_set" = some (some (.ref f25)))
  (l25:K.lookup f25=zx "do_set" Xq oc25 od25 sl25 kV25 dc25 pm25 an25 cd25 ct25)
  (c25:W.codeIn K cd25 "do_set" = true)(k25:W.keepIn K (.ref f25)=true)
  (a26:W.nsIn K mainGlobals "do_high" = some (some (.ref f26)))
  (l26:K.lookup f26=zx "do_high" Xl oc26 od26 sl26 kV26 dc26 pm26 an26 cd26 ct26)
  (c26:W.codeIn K cd26 "do_high" = true)(k26:W.keepIn K (.ref f26)=true)
  (a27:W.nsIn K mainGlobals "do_copy" = some (some (.ref f27)))
  (l27:K.lookup f27=zx "do_copy" Xk oc27 od27 sl27 kV27 dc27 pm27 an27 cd27 ct27)
  (c27:W.codeIn K cd27 "do_copy" = true)(k27:W.keepIn K (.ref f27)=true)
  (a28:W.nsIn K mainGlobals "summed" = some (some (.ref f28)))
  (l28:K.lookup f28=zx "summed" WO oc28 od28 sl28 kV28 dc28 pm28 an28 cd28 ct28)
  (c28:W.codeIn K cd28 "summed" = true)(k28:W.keepIn K (.ref f28)=true)
  (a29:W.nsIn K mainGlobals "look_at" = some (some (.ref f29)))
  (l29:K.lookup f29=zx "look_at" WG oc29 od29 sl29 kV29 dc29 pm29 an29 cd29 ct29)
  (c29:W.codeIn K cd29 "look_at" = true)(k29:W.keepIn K (.ref f29)=true)
  (a30:W.nsIn K mainGlobals "do_sum" = some (some (.ref f30)))
  (l30:K.lookup f30=zx "do_sum" Xt oc30 od30 sl30 kV30 dc30 pm30 an30 cd30 ct30)
  (c30:W.codeIn K cd30 "do_sum" = true)(k30:W.keepIn K (.ref f30)=true)
  (a31:W.nsIn K mainGlobals "joined" = some (some (.ref f31)))
  (l31:K.lookup f31=zx "joined" X_ oc31 od31 sl31 kV31 dc31 pm31 an31 cd31 ct31)
  (c31:W.codeIn K cd31 "joined" = true)(k31:W.keepIn K (.ref f31)=true)
  (a32:W.nsIn K mainGlobals "do_bits" = some (some (.ref f32)))
  (l32:K.lookup f32=zx "do_bits" Xj oc32 od32 sl32 kV32 dc32 pm32 an32 cd32 ct32)
  (c32:W.codeIn K cd32 "do_bits" = true)(k32:W.keepIn K (.ref f32)=true)
  (a33:W.nsIn K mainGlobals "do_move" = some (some (.ref f33)))
  (l33:K.lookup f33=zx "do_move" Xo oc33 od33 sl33 kV33 dc33 pm33 an33 cd33 ct33)
  (c33:W.codeIn K cd33 "do_move" = true)(k33:W.keepIn K (.ref f33)=true)
  (a34:W.nsIn K mainGlobals "address_in" = some (some (.ref f34)))
  (l34:K.lookup f34=zx "address_in" Xe oc34 od34 sl34 kV34 dc34 pm34 an34 cd34 ct34)
  (c34:W.codeIn K cd34 "address_in" = true)(k34:W.keepIn K (.ref f34)=true)
  (a35:W.nsIn K mainGlobals "do_load" = some (some (.ref f35)))
  (l35:K.lookup f35=zx "do_load" Xm oc35 od35 sl35 kV35 dc35 pm35 an35 cd35 ct35)
  (c35:W.codeIn K cd35 "do_load" = true)(k35:W.keepIn K (.ref f35)=true)
  (a36:W.nsIn K mainGlobals "do_loadw" = some (some (.ref f36)))
  (l36:K.lookup f36=zx "do_loadw" Xn oc36 od36 sl36 kV36 dc36 pm36 an36 cd36 ct36)
  (c36:W.codeIn K cd36 "do_loadw" = true)(k36:W.keepIn K (.ref f36)=true)
  (a37:W.nsIn K mainGlobals "do_store" = some (some (.ref f37)))
  (l37:K.lookup f37=zx "do_store" Xr oc37 od37 sl37 kV37 dc37 pm37 an37 cd37 ct37)
  (c37:W.codeIn K cd37 "do_store" = true)(k37:W.keepIn K (.ref f37)=true)
  (a38:W.nsIn K mainGlobals "do_storew" = some (some (.ref f38)))
  (l38:K.lookup f38=zx "do_storew" Xs oc38 od38 sl38 kV38 dc38 pm38 an38 cd38 ct38)
  (c38:W.codeIn K cd38 "do_storew" = true)(k38:W.keepIn K (.ref f38)=true)
  (a39:W.nsIn K mainGlobals "do_row" = some (some (.ref f39)))
  (l39:K.lookup f39=zx "do_row" Xp oc39 od39 sl39 kV39 dc39 pm39 an39 cd39 ct39)
  (c39:W.codeIn K cd39 "do_row" = true)(k39:W.keepIn K (.ref f39)=true)
  (a40:W.nsIn K mainGlobals "leads" = some (some (.ref f40)))
  (l40:K.lookup f40=zx "leads" WF oc40 od40 sl40 kV40 dc40 pm40 an40 cd40 ct40)
  (c40:W.codeIn K cd40 "leads" = true)(k40:W.keepIn K (.ref f40)=true)
  (a41:W.nsIn K mainGlobals "words_from" = some (some (.ref f41)))
  (l41:K.lookup f41=zx "words_from" WV oc41 od41 sl41 kV41 dc41 pm41 an41 cd41 ct41)
  (c41:W.codeIn K cd41 "words_from" = true)(k41:W.keepIn K (.ref f41)=true)
  (a42:W.findIn K (.ref C_RowMachine) "stands" = some (some (.ref f42)))
  (i42:W.isFn K (.ref f42)=true)
  (l42:K.lookup f42=some ⟨oc42,od42,.func (W.fnOf "stands" "Machine.stands" (yy pW) (yS pW) (zQ pW) .none kV42 dc42 pm42 an42 cd42 ct42),sl42⟩)
  (c42:W.codeIn K cd42 "Machine.stands" = true)(k42:W.keepIn K (.ref f42)=true)
  (a43:W.findIn K (.ref C_RowMachine) "again" = some (some (.ref f43)))
  (i43:W.isFn K (.ref f43)=true)
  (l43:K.lookup f43=some ⟨oc43,od43,.func (W.fnOf "again" "Machine.again" (yy pQ) (yS pQ) (zQ pQ) .none kV43 dc43 pm43 an43 cd43 ct43),sl43⟩)
  (c43:W.codeIn K cd43 "Machine.again" = true)(k43:W.keepIn K (.ref f43)=true)
  (a44:W.findIn K (.ref C_RowMachine) "step" = some (some (.ref f44)))
  (i44:W.isFn K (.ref f44)=true)
  (l44:K.lookup f44=some ⟨oc44,od44,.func (W.fnOf "step" "Machine.step" (yy pX) (yS pX) (zQ pX) .none kV44 dc44 pm44 an44 cd44 ct44),sl44⟩)
  (c44:W.codeIn K cd44 "Machine.step" = true)(k44:W.keepIn K (.ref f44)=true)
  (a45:W.findIn K (.ref C_RowMachine) "registers" = some (some (.ref f45)))
  (i45:W.isFn K (.ref f45)=true)
  (l45:K.lookup f45=some ⟨oc45,od45,.func (W.fnOf "registers" "Machine.registers" (yy pV) (yS pV) (zQ pV) .none kV45 dc45 pm45 an45 cd45 ct45),sl45⟩)
  (c45:W.codeIn K cd45 "Machine.registers" = true)(k45:W.keepIn K (.ref f45)=true)
  (a46:W.findIn K (.ref C_RowMachine) "marks" = some (some (.ref f46)))
  (i46:W.isFn K (.ref f46)=true)
  (l46:K.lookup f46=some ⟨oc46,od46,.func (W.fnOf "marks" "Machine.marks" (yy pS) (yS pS) (zQ pS) .none kV46 dc46 pm46 an46 cd46 ct46),sl46⟩)
  (c46:W.codeIn K cd46 "Machine.marks" = true)(k46:W.keepIn K (.ref f46)=true)
  (a47:W.findIn K (.ref C_RowMachine) "memory" = some (some (.ref f47)))
  (i47:W.isFn K (.ref f47)=true)
  (l47:K.lookup f47=some ⟨oc47,od47,.func (W.fnOf "memory" "Machine.memory" (yy pT) (yS pT) (zQ pT) .none kV47 dc47 pm47 an47 cd47 ct47),sl47⟩)
  (c47:W.codeIn K cd47 "Machine.memory" = true)(k47:W.keepIn K (.ref f47)=true)
  (a48:W.findIn K (.ref C_RowMachine) "place" = some (some (.ref f48)))
  (i48:W.isFn K (.ref f48)=true)
  (l48:K.lookup f48=some ⟨oc48,od48,.func (W.fnOf "place" "Machine.place" (yy pU) (yS pU) (zQ pU) .none kV48 dc48 pm48 an48 cd48 ct48),sl48⟩)
  (c48:W.codeIn K cd48 "Machine.place" = true)(k48:W.keepIn K (.ref f48)=true)
  (a49:W.findIn K (.ref C_RowMachine) "steps" = some (some (.ref f49)))
  (i49:W.isFn K (.ref f49)=true)
  (l49:K.lookup f49=some ⟨oc49,od49,.func (W.fnOf "steps" "Machine.steps" (yy pY) (yS pY) (zQ pY) .none kV49 dc49 pm49 an49 cd49 ct49),sl49⟩)
  (c49:W.codeIn K cd49 "Machine.steps" = true)(k49:W.keepIn K (.ref f49)=true)
  (a50:W.findIn K (.ref C_RowMachine) "byte" = some (some (.ref f50)))
  (i50:W.isFn K (.ref f50)=true)
  (l50:K.lookup f50=some ⟨oc50,od50,.func (W.fnOf "byte" "Machine.byte" (yy pR) (yS pR) (zQ pR) .none kV50 dc50 pm50 an50 cd50 ct50),sl50⟩)
  (c50:W.codeIn K cd50 "Machine.byte" = true)(k50:W.keepIn K (.ref f50)=true)
  (a51:W.findCls K (.ref C_Machine) (.type "type") "__init__" = some (.val (.ref f51)))
  (i51:W.isFn K (.ref f51)=true)
  (l51:K.lookup f51=some ⟨oc51,od51,.func (W.fnOf "__init__" "Machine.__init__" (yy pP) (yS pP) (zQ pP) .none kV51 dc51 pm51 an51 cd51 ct51),sl51⟩)
  (c51:W.codeIn K cd51 "Machine.__init__" = true)(k51:W.keepIn K (.ref f51)=true)
  (a52:W.nsIn K mainGlobals "table_of_rows" = some (some (.ref f52)))
  (l52:K.lookup f52=zx "table_of_rows" WP oc52 od52 sl52 kV52 dc52 pm52 an52 cd52 ct52)
  (c52:W.codeIn K cd52 "table_of_rows" = true)(k52:W.keepIn K (.ref f52)=true)
  (a53:W.findIn K (.ref C_RowMachine) "__init__" = some (some (.ref f53)))
  (i53:W.isFn K (.ref f53)=true)
  {T53:Addr}
  (l53:K.lookup f53=some ⟨oc53,od53,.func (W.fnOf "__init__" "RowMachine.__init__" (yy tj) (yS tj) (zQ tj) (.ref T53) kV53 dc53 pm53 an53 cd53 ct53),sl53⟩)
  {nt53:Nat}{st53:Array (Option Value)}{dt53:Option Addr}(t53:K.lookup T53=some ⟨.type "tuple",dt53,.seq #[.none,.none] nt53,st53⟩)
  (c53:W.codeIn K cd53 "RowMachine.__init__" = true)(k53:W.keepIn K (.ref f53)=true)
  (a54:W.nsIn K mainGlobals "_law_cell_at" = some (some (.ref f54)))
  (l54:K.lookup f54=zx "_law_cell_at" W5 oc54 od54 sl54 kV54 dc54 pm54 an54 cd54 ct54)
  (c54:W.codeIn K cd54 "_law_cell_at" = true)(k54:W.keepIn K (.ref f54)=true)
  (a55:W.nsIn K mainGlobals "_law_mixed" = some (some (.ref f55)))
  (l55:K.lookup f55=zx "_law_mixed" W9 oc55 od55 sl55 kV55 dc55 pm55 an55 cd55 ct55)
  (c55:W.codeIn K cd55 "_law_mixed" = true)(k55:W.keepIn K (.ref f55)=true)
  (a56:W.nsIn K mainGlobals "_law_word" = some (some (.ref f56)))
  (l56:K.lookup f56=zx "_law_word" WD oc56 od56 sl56 kV56 dc56 pm56 an56 cd56 ct56)
  (c56:W.codeIn K cd56 "_law_word" = true)(k56:W.keepIn K (.ref f56)=true)
  (a57:W.nsIn K mainGlobals "_law_words" = some (some (.ref f57)))
  (l57:K.lookup f57=zx "_law_words" WE oc57 od57 sl57 kV57 dc57 pm57 an57 cd57 ct57)
  (c57:W.codeIn K cd57 "_law_words" = true)(k57:W.keepIn K (.ref f57)=true)
  (a58:W.nsIn K mainGlobals "_law_bytes" = some (some (.ref f58)))
  (l58:K.lookup f58=zx "_law_bytes" W4 oc58 od58 sl58 kV58 dc58 pm58 an58 cd58 ct58)
  (c58:W.codeIn K cd58 "_law_bytes" = true)(k58:W.keepIn K (.ref f58)=true)
  (a59:W.nsIn K mainGlobals "_law_deed" = some (some (.ref f59)))
  (l59:K.lookup f59=zx "_law_deed" W6 oc59 od59 sl59 kV59 dc59 pm59 an59 cd59 ct59)
  (c59:W.codeIn K cd59 "_law_deed" = true)(k59:W.keepIn K (.ref f59)=true)
  (a60:W.nsIn K mainGlobals "_law_begin" = some (some (.ref f60)))
  (l60:K.lookup f60=zx "_law_begin" W2 oc60 od60 sl60 kV60 dc60 pm60 an60 cd60 ct60)
  (c60:W.codeIn K cd60 "_law_begin" = true)(k60:W.keepIn K (.ref f60)=true)
  (a61:W.nsIn K mainGlobals "_law_pairs" = some (some (.ref f61)))
  (l61:K.lookup f61=zx "_law_pairs" WA oc61 od61 sl61 kV61 dc61 pm61 an61 cd61 ct61)
  (c61:W.codeIn K cd61 "_law_pairs" = true)(k61:W.keepIn K (.ref f61)=true)
  (a62:W.nsIn K mainGlobals "_law_look" = some (some (.ref f62)))
  (l62:K.lookup f62=zx "_law_look" W8 oc62 od62 sl62 kV62 dc62 pm62 an62 cd62 ct62)
  (c62:W.codeIn K cd62 "_law_look" = true)(k62:W.keepIn K (.ref f62)=true)
  (a63:W.nsIn K mainGlobals "_law_due" = some (some (.ref f63)))
  (l63:K.lookup f63=zx "_law_due" W7 oc63 od63 sl63 kV63 dc63 pm63 an63 cd63 ct63)
  (c63:W.codeIn K cd63 "_law_due" = true)(k63:W.keepIn K (.ref f63)=true)
  (a64:W.nsIn K mainGlobals "_law_straight" = some (some (.ref f64)))
  (l64:K.lookup f64=zx "_law_straight" WC oc64 od64 sl64 kV64 dc64 pm64 an64 cd64 ct64)
  (c64:W.codeIn K cd64 "_law_straight" = true)(k64:W.keepIn K (.ref f64)=true)
  (a65:W.nsIn K mainGlobals "_law_played" = some (some (.ref f65)))
  (l65:K.lookup f65=zx "_law_played" WB oc65 od65 sl65 kV65 dc65 pm65 an65 cd65 ct65)
  (c65:W.codeIn K cd65 "_law_played" = true)(k65:W.keepIn K (.ref f65)=true)
  (a66:W.nsIn K mainGlobals "_law_byte" = some (some (.ref f66)))
  (l66:K.lookup f66=zx "_law_byte" W3 oc66 od66 sl66 kV66 dc66 pm66 an66 cd66 ct66)
  (c66:W.codeIn K cd66 "_law_byte" = true)(k66:W.keepIn K (.ref f66)=true)
  (a67:W.nsIn K mainGlobals "law" = some (some (.ref f67)))
  (l67:K.lookup f67=zx "law" kN oc67 od67 sl67 kV67 dc67 pm67 an67 cd67 ct67)
  (c67:W.codeIn K cd67 "law" = true)(k67:W.keepIn K (.ref f67)=true)
  (DN:W.nsIn K mainGlobals "isinstance" = some none)
  (DM:W.nsIn K mainGlobals "int" = some none)
  (DJ:W.nsIn K mainGlobals "bool" = some none)
  (DV:W.nsIn K mainGlobals "tuple" = some none)
  (DU:W.nsIn K mainGlobals "sum" = some none)
  (DW:W.nsIn K mainGlobals "zip" = some none)
  (DO:W.nsIn K mainGlobals "len" = some none)
  (DP:W.nsIn K mainGlobals "list" = some none)
  (DT:W.nsIn K mainGlobals "sorted" = some none)
  (DR:W.nsIn K mainGlobals "range" = some none)
  (DK:W.nsIn K mainGlobals "dict" = some none)
  (DI:W.nsIn K mainGlobals "all" = some none)
  (DL:W.nsIn K mainGlobals "enumerate" = some none)
  (DS:W.nsIn K mainGlobals "repr" = some none)
  (DQ:W.nsIn K mainGlobals "min" = some none)
  (hg_Machine:W.specialIn K (.ref C_Machine) "__getattribute__" = some (some (.builtin "type.__getattribute__")))(rd_Machine:W.readsIn K C_Machine (.type "type")=true)
  (pg_RowMachine:W.plainGet K C_RowMachine Str.empty=true)(hd_RowMachine:W.hasDictIn K C_RowMachine=true)(po_RowMachine:W.plainOver K C_RowMachine=true)(sa_RowMachine:W.findIn K (.ref C_RowMachine) "__setattr__" = some (some (.builtin "object.__setattr__")))
  (mk_RowMachine:W.makesIn K C_RowMachine=true)(kc_RowMachine:W.keepIn K (.ref C_RowMachine)=true)
  (pg_State:W.plainGet K C_State Str.empty=true)(hd_State:W.hasDictIn K C_State=true)(po_State:W.plainOver K C_State=true)(sa_State:W.findIn K (.ref C_State) "__setattr__" = some (some (.builtin "object.__setattr__")))
  (mk_State:W.makesIn K C_State=true)(kc_State:W.keepIn K (.ref C_State)=true)
  (nf_RowMachine_done:W.findIn K (.ref C_RowMachine) "done" = some none)
  (nf_RowMachine_due:W.findIn K (.ref C_RowMachine) "due" = some none)
  (nf_RowMachine_end:W.findIn K (.ref C_RowMachine) "end" = some none)
  (nf_RowMachine_first_held:W.findIn K (.ref C_RowMachine) "first_held" = some none)
  (nf_RowMachine_first_words:W.findIn K (.ref C_RowMachine) "first_words" = some none)
  (nf_State_held:W.findIn K (.ref C_State) "held" = some none)
  (nf_RowMachine_state:W.findIn K (.ref C_RowMachine) "state" = some none)
  (nf_RowMachine_table:W.findIn K (.ref C_RowMachine) "table" = some none)
  (nf_State_truths:W.findIn K (.ref C_State) "truths" = some none)
  (nf_State_words:W.findIn K (.ref C_State) "words" = some none)
  {j9:Addr}{Nf:Nat}{cY cj cm cq cr cv cx cy cz c_ cZ ca cb ce cf cg ci:Tok}(Bz:W.nsIn K mainGlobals "DEEDS" = some (some (.ref j9)))
  (DF:K.lookup j9=some { cls:=.type "dict",data:=.dict #[⟨PyData.keyHash w.params "set",.str "set" cY,.ref f25⟩,⟨PyData.keyHash w.params "high",.str "high" cj,.ref f26⟩,⟨PyData.keyHash w.params "copy",.str "copy" cm,.ref f27⟩,⟨PyData.keyHash w.params "add",.str "add" cq,.ref f30⟩,⟨PyData.keyHash w.params "addc",.str "addc" cr,.ref f30⟩,⟨PyData.keyHash w.params "sub",.str "sub" cv,.ref f30⟩,⟨PyData.keyHash w.params "subc",.str "subc" cx,.ref f30⟩,⟨PyData.keyHash w.params "test",.str "test" cy,.ref f30⟩,⟨PyData.keyHash w.params "and",.str "and" cz,.ref f32⟩,⟨PyData.keyHash w.params "or",.str "or" c_,.ref f32⟩,⟨PyData.keyHash w.params "xor",.str "xor" cZ,.ref f32⟩,⟨PyData.keyHash w.params "left",.str "left" ca,.ref f33⟩,⟨PyData.keyHash w.params "right",.str "right" cb,.ref f33⟩,⟨PyData.keyHash w.params "load",.str "load" ce,.ref f35⟩,⟨PyData.keyHash w.params "loadw",.str "loadw" cf,.ref f36⟩,⟨PyData.keyHash w.params "store",.str "store" cg,.ref f37⟩,⟨PyData.keyHash w.params "storew",.str "storew" ci,.ref f38⟩] Nf })(DG:(j9==sysModules)=false)
  {cT:Tok}(Bv:W.nsIn K mainGlobals "BEYOND" = some (some (.int 4294967296 cT)))
  {cW:Tok}(DC:W.nsIn K mainGlobals "WORD_BITS" = some (some (.int 32 cW)))
  {qD:Addr}{Nd:Nat}{bO:Array (Option Value)}{dM dP dS dX:Tok}(By:W.nsIn K mainGlobals "BYTE_LOWS" = some (some (.ref qD)))
  (IW:K.lookup qD=some ⟨.type "tuple",none,.seq #[.int 0 dM,.int 8 dP,.int 16 dS,.int 24 dX] Nd,bO⟩)
  {qy:Addr}{Ng:Nat}{bP:Array (Option Value)}{dN dQ dU:Tok}(B_:W.nsIn K mainGlobals "JUMPS" = some (some (.ref qy)))
  (IX:K.lookup qy=some ⟨.type "tuple",none,.seq #[.str "jump" dN,.str "when" dQ,.str "unless" dU] Ng,bP⟩)
  {cS:Tok}(Bu:W.nsIn K mainGlobals "ADDRESS_BITS" = some (some (.int 16 cS)))
  {cU:Tok}(Bw:W.nsIn K mainGlobals "BYTE_BITS" = some (some (.int 8 cU)))
  {qE:Addr}{Nh:Nat}{bQ:Array (Option Value)}{dO dR dW:Tok}(DA:W.nsIn K mainGlobals "MARKS" = some (some (.ref qE)))
  (IY:K.lookup qE=some ⟨.type "tuple",none,.seq #[.str "carry" dO,.str "nought" dR,.str "sign" dW] Nh,bQ⟩)
  {cV:Tok}(DB:W.nsIn K mainGlobals "REGISTER_COUNT" = some (some (.int 8 cV)))
  : ∃fd:FuncData,(∀(s:Shared)(v:Value),BindsTo s fd ⟨[v],[]⟩ [("_law_script",v)])/\∀base:Heap,K.In base->base.Ns mainGlobals mg->yj l.prog w K mg base yo 10 fa fd ["_law_script"] (Wf K):=by
 have e:=hfa.symm.trans (W.mg_of X G a67);cases e;have t8:mg "isinstance" = none:=W.mg_none_of X G DN;have YR:mg "int" = none:=W.mg_none_of X G DM;have Oh:mg "bool" = none:=W.mg_none_of X G DJ;have tu:mg "tuple" = none:=W.mg_none_of X G DV;have Ol:mg "sum" = none:=W.mg_none_of X G DU;have YT:mg "zip" = none:=W.mg_none_of X G DW;have uJ:mg "len" = none:=W.mg_none_of X G DO;have xy:mg "list" = none:=W.mg_none_of X G DP;have YS:mg "sorted" = none:=W.mg_none_of X G DT;have wj:mg "range" = none:=W.mg_none_of X G DR;have Tj:mg "dict" = none:=W.mg_none_of X G DK;have Og:mg "all" = none:=W.mg_none_of X G DI;have Oi:mg "enumerate" = none:=W.mg_none_of X G DL;have qu:mg "repr" = none:=W.mg_none_of X G DS;have Oj:mg "min" = none:=W.mg_none_of X G DQ;have cl_RowMachine:vk K C_RowMachine:=⟨pg_RowMachine,hd_RowMachine,po_RowMachine,sa_RowMachine⟩;have cl_State:vk K C_State:=⟨pg_State,hd_State,po_State,sa_State⟩;have a_done:zt K ["RowMachine"] "done" := (qf wx cl_RowMachine nf_RowMachine_done qg);have a_due:zt K ["RowMachine"] "due" := (qf wx cl_RowMachine nf_RowMachine_due qg);have a_end:zt K ["RowMachine"] "end" := (qf wx cl_RowMachine nf_RowMachine_end qg);have a_first_held:zt K ["RowMachine"] "first_held" := (qf wx cl_RowMachine nf_RowMachine_first_held qg);have a_first_words:zt K ["RowMachine"] "first_words" := (qf wx cl_RowMachine nf_RowMachine_first_words qg);have a_held:zt K ["State"] "held" := (qf Zx cl_State nf_State_held qg);have a_state:zt K ["RowMachine"] "state" := (qf wx cl_RowMachine nf_RowMachine_state qg);have a_table:zt K ["RowMachine"] "table" := (qf wx cl_RowMachine nf_RowMachine_table qg);have a_truths:zt K ["State"] "truths" := (qf Zx cl_State nf_State_truths qg);have a_words:zt K ["State"] "words" := (qf Zx cl_State nf_State_words qg);have UR:xV mg "DEEDS" (.ref j9):=⟨_,W.mg_of X G Bz,rfl⟩;have d_DEEDS:gW K w mg j9 ZS Mv:=HG (fs:=[f25,f26,f27,f30,f30,f30,f30,f30,f32,f32,f32,f33,f33,f35,f36,f37,f38]) DF (.cons (.cons (.cons (.cons (.cons (.cons (.cons (.cons (.cons (.cons (.cons (.cons (.cons (.cons (.cons (.cons (.cons .nil))))))))))))))))) (by decide +kernel) DG (.cons (W.mg_of X G a25) (.cons (W.mg_of X G a26) (.cons (W.mg_of X G a27) (.cons (W.mg_of X G a30) (.cons (W.mg_of X G a30) (.cons (W.mg_of X G a30) (.cons (W.mg_of X G a30) (.cons (W.mg_of X G a30) (.cons (W.mg_of X G a32) (.cons (W.mg_of X G a32) (.cons (W.mg_of X G a32) (.cons (W.mg_of X G a33) (.cons (W.mg_of X G a33) (.cons (W.mg_of X G a35) (.cons (W.mg_of X G a36) (.cons (W.mg_of X G a37) (.cons (W.mg_of X G a38) .nil)))))))))))))))));have gv:xV mg "BEYOND" (.int 4294967296):=⟨_,W.mg_of X G Bv,⟨_,rfl⟩⟩;have kJ:∀H,zS K H (.int 4294967296) (.int 4294967296):=λ_=>rfl
 have qj:xV mg "WORD_BITS" (.int 32):=⟨_,W.mg_of X G DC,⟨_,rfl⟩⟩;have qp:∀H,zS K H (.int 32) (.int 32):=λ_=>rfl
 have eF:QT K qD:=⟨_,IW,rfl,rfl⟩;have Za:xV mg "BYTE_LOWS" (.ref qD):=⟨_,W.mg_of X G By,rfl⟩;have YB:∀H,zS K H gw (.ref qD):=λH=>⟨qD,_,rfl,Qw (xs:=[.int 0,.int 8,.int 16,.int 24]) IW (by show(4:Nat)<=sizeLine; decide) (.cons ⟨_,rfl⟩ (.cons ⟨_,rfl⟩ (.cons ⟨_,rfl⟩ (.cons ⟨_,rfl⟩ .nil)))) H,⟨_,_,rfl,rfl,⟨_,_,rfl,rfl,⟨_,_,rfl,rfl,⟨_,_,rfl,rfl,rfl⟩⟩⟩⟩,vL (by decide)⟩
 have eG:QT K qy:=⟨_,IX,rfl,rfl⟩;have JN:xV mg "JUMPS" (.ref qy):=⟨_,W.mg_of X G B_,rfl⟩;have Ix:∀H,zS K H JR (.ref qy):=λH=>⟨qy,_,rfl,Qw (xs:=[.str "jump",.str "when",.str "unless"]) IX (by show(3:Nat)<=sizeLine; decide) (.cons ⟨_,rfl⟩ (.cons ⟨_,rfl⟩ (.cons ⟨_,rfl⟩ .nil))) H,⟨_,_,rfl,⟨rfl,vL (by decide)⟩,⟨_,_,rfl,⟨rfl,vL (by decide)⟩,⟨_,_,rfl,⟨rfl,vL (by decide)⟩,rfl⟩⟩⟩,vL (by decide)⟩
 have ZY:xV mg "ADDRESS_BITS" (.int 16):=⟨_,W.mg_of X G Bu,⟨_,rfl⟩⟩;have Y9:∀H,zS K H (.int 16) (.int 16):=λ_=>rfl
 have ZZ:xV mg "BYTE_BITS" (.int 8):=⟨_,W.mg_of X G Bw,⟨_,rfl⟩⟩;have YA:∀H,zS K H (.int 8) (.int 8):=λ_=>rfl
 have eI:QT K qE:=⟨_,IY,rfl,rfl⟩;have Zb:xV mg "MARKS" (.ref qE):=⟨_,W.mg_of X G DA,rfl⟩;have YC:∀H,zS K H gx (.ref qE):=λH=>⟨qE,_,rfl,Qw (xs:=[.str "carry",.str "nought",.str "sign"]) IY (by show(3:Nat)<=sizeLine; decide) (.cons ⟨_,rfl⟩ (.cons ⟨_,rfl⟩ (.cons ⟨_,rfl⟩ .nil))) H,⟨_,_,rfl,⟨rfl,vL (by decide)⟩,⟨_,_,rfl,⟨rfl,vL (by decide)⟩,⟨_,_,rfl,⟨rfl,vL (by decide)⟩,rfl⟩⟩⟩,vL (by decide)⟩
 have US:xV mg "REGISTER_COUNT" (.int 8):=⟨_,W.mg_of X G DB,⟨_,rfl⟩⟩;have T2:∀H,zS K H (.int 8) (.int 8):=λ_=>rfl
 have F0:=zy (st:=Xy) l0 c0 k0;have D0:zF K mg "is_number" Xy ["thing", "width"]:=⟨_,_,F0,W.mg_of X G a0,F0.binds λ_ _ _ _ _ _=>xC λ_ _=>rfl⟩;have F1:=zy (st:=Xd) l1 c1 k1;have D1:zF K mg "added" Xd ["one", "other", "carry"]:=⟨_,_,F1,W.mg_of X G a1,F1.binds λ_ _ _ _ _ _=>jo λ_ _ _=>rfl⟩;have F2:=zy (st:=WQ) l2 c2 k2;have D2:zF K mg "taken" WQ ["one", "other", "borrow"]:=⟨_,_,F2,W.mg_of X G a2,F2.binds λ_ _ _ _ _ _=>jo λ_ _ _=>rfl⟩;have F3:=zy (st:=WK) l3 c3 k3;have D3:zF K mg "part" WK ["word", "low", "width"]:=⟨_,_,F3,W.mg_of X G a3,F3.binds λ_ _ _ _ _ _=>jo λ_ _ _=>rfl⟩;have F4:=zy (st:=WH) l4 c4 k4;have D4:zF K mg "moved_left" WH ["word", "count"]:=⟨_,_,F4,W.mg_of X G a4,F4.binds λ_ _ _ _ _ _=>xC λ_ _=>rfl⟩;have F5:=zy (st:=WI) l5 c5 k5;have D5:zF K mg "moved_right" WI ["word", "count"]:=⟨_,_,F5,W.mg_of X G a5,F5.binds λ_ _ _ _ _ _=>xC λ_ _=>rfl⟩;have F6:=zy (st:=WS) l6 c6 k6;have D6:zF K mg "with_part" WS ["word", "low", "width", "number"]:=⟨_,_,F6,W.mg_of X G a6,F6.binds λ_ _ _ _ _ _=>TY λ_ _ _ _=>rfl⟩;have F7:=zy (st:=Xi) l7 c7 k7;have D7:zF K mg "bytes_of" Xi ["word"]:=⟨_,_,F7,W.mg_of X G a7,F7.binds λ_ _ _ _ _ _=>wL λ_=>rfl⟩;have F8:=zy (st:=WU) l8 c8 k8;have D8:zF K mg "word_of" WU ["four"]:=⟨_,_,F8,W.mg_of X G a8,F8.binds λ_ _ _ _ _ _=>wL λ_=>rfl⟩;have F9:=zy (st:=Xx) l9 c9 k9;have D9:zF K mg "is_label" Xx ["item"]:=⟨_,_,F9,W.mg_of X G a9,F9.binds λ_ _ _ _ _ _=>wL λ_=>rfl⟩;have F10:=zy (st:=Xw) l10 c10 k10;have D10:zF K mg "is_jump" Xw ["item"]:=⟨_,_,F10,W.mg_of X G a10,F10.binds λ_ _ _ _ _ _=>wL λ_=>rfl⟩;have F11:=zy (st:=WN) l11 c11 k11;have D11:zF K mg "rows_of" WN ["items"]:=⟨_,_,F11,W.mg_of X G a11,F11.binds λ_ _ _ _ _ _=>wL λ_=>rfl⟩;have F12:=zy (st:=W1) l12 c12 k12;have D12:zF K mg "label_places" W1 ["items"]:=⟨_,_,F12,W.mg_of X G a12,F12.binds λ_ _ _ _ _ _=>wL λ_=>rfl⟩;have F13:=zy (st:=WR) l13 c13 k13;have D13:zF K mg "targets_of" WR ["items"]:=⟨_,_,F13,W.mg_of X G a13,F13.binds λ_ _ _ _ _ _=>wL λ_=>rfl⟩;have F14:=zy (st:=Xv) l14 c14 k14;have D14:zF K mg "is_address" Xv ["thing"]:=⟨_,_,F14,W.mg_of X G a14,F14.binds λ_ _ _ _ _ _=>wL λ_=>rfl⟩;have F15:=zy (st:=Xz) l15 c15 k15;have D15:zF K mg "is_pair" Xz ["thing"]:=⟨_,_,F15,W.mg_of X G a15,F15.binds λ_ _ _ _ _ _=>wL λ_=>rfl⟩;have F16:=zy (st:=Xh) l16 c16 k16;have D16:zF K mg "bytes_from" Xh ["memory"]:=⟨_,_,F16,W.mg_of X G a16,F16.binds λ_ _ _ _ _ _=>wL λ_=>rfl⟩;have F17:=zy (st:=WJ) l17 c17 k17;have D17:zF K mg "pairs_of" WJ ["held"]:=⟨_,_,F17,W.mg_of X G a17,F17.binds λ_ _ _ _ _ _=>wL λ_=>rfl⟩;have F18:=zy (st:=Xg) l18 c18 k18;have D18:zF K mg "byte_at" Xg ["held", "address"]:=⟨_,_,F18,W.mg_of X G a18,F18.binds λ_ _ _ _ _ _=>xC λ_ _=>rfl⟩;have F19:=zy (st:=Xf) l19 c19 k19;have D19:zF K mg "address_of" Xf ["word", "number"]:=⟨_,_,F19,W.mg_of X G a19,F19.binds λ_ _ _ _ _ _=>xC λ_ _=>rfl⟩;have F20:=zy (st:=Xu) l20 c20 k20;have D20:zF K mg "four_from" Xu ["address"]:=⟨_,_,F20,W.mg_of X G a20,F20.binds λ_ _ _ _ _ _=>wL λ_=>rfl⟩;have F21:=zy (st:=WT) l21 c21 k21;have D21:zF K mg "word_at" WT ["held", "address"]:=⟨_,_,F21,W.mg_of X G a21,F21.binds λ_ _ _ _ _ _=>xC λ_ _=>rfl⟩;have F22:=zy (st:=WL) l22 c22 k22;have D22:zF K mg "put_byte" WL ["held", "address", "word"]:=⟨_,_,F22,W.mg_of X G a22,F22.binds λ_ _ _ _ _ _=>jo λ_ _ _=>rfl⟩;have F23:=zy (st:=WM) l23 c23 k23;have D23:zF K mg "put_word" WM ["held", "address", "word"]:=⟨_,_,F23,W.mg_of X G a23,F23.binds λ_ _ _ _ _ _=>jo λ_ _ _=>rfl⟩;have F24:=tV (st:=pZ) l24 c24 k24;have b24:xq K (W.fnOf "__init__" "State.__init__" (yy pZ) (yS pZ) (zQ pZ) .none kV24 dc24 pm24 an24 cd24 ct24) ["self", "words", "held"] []:=.all (jo λ_ _ _=>rfl);have F25:=zy (st:=Xq) l25 c25 k25;have D25:zF K mg "do_set" Xq ["state", "row"]:=⟨_,_,F25,W.mg_of X G a25,F25.binds λ_ _ _ _ _ _=>xC λ_ _=>rfl⟩;have F26:=zy (st:=Xl) l26 c26 k26;have D26:zF K mg "do_high" Xl ["state", "row"]:=⟨_,_,F26,W.mg_of X G a26,F26.binds λ_ _ _ _ _ _=>xC λ_ _=>rfl⟩;have F27:=zy (st:=Xk) l27 c27 k27;have D27:zF K mg "do_copy" Xk ["state", "row"]:=⟨_,_,F27,W.mg_of X G a27,F27.binds λ_ _ _ _ _ _=>xC λ_ _=>rfl⟩;have F28:=zy (st:=WO) l28 c28 k28;have D28:zF K mg "summed" WO ["kind", "one", "other", "carry"]:=⟨_,_,F28,W.mg_of X G a28,F28.binds λ_ _ _ _ _ _=>TY λ_ _ _ _=>rfl⟩;have F29:=zy (st:=WG) l29 c29 k29;have D29:zF K mg "look_at" WG ["state", "word"]:=⟨_,_,F29,W.mg_of X G a29,F29.binds λ_ _ _ _ _ _=>xC λ_ _=>rfl⟩;have F30:=zy (st:=Xt) l30 c30 k30;have D30:zF K mg "do_sum" Xt ["state", "row"]:=⟨_,_,F30,W.mg_of X G a30,F30.binds λ_ _ _ _ _ _=>xC λ_ _=>rfl⟩;have F31:=zy (st:=X_) l31 c31 k31;have D31:zF K mg "joined" X_ ["kind", "one", "other"]:=⟨_,_,F31,W.mg_of X G a31,F31.binds λ_ _ _ _ _ _=>jo λ_ _ _=>rfl⟩;have F32:=zy (st:=Xj) l32 c32 k32;have D32:zF K mg "do_bits" Xj ["state", "row"]:=⟨_,_,F32,W.mg_of X G a32,F32.binds λ_ _ _ _ _ _=>xC λ_ _=>rfl⟩;have F33:=zy (st:=Xo) l33 c33 k33;have D33:zF K mg "do_move" Xo ["state", "row"]:=⟨_,_,F33,W.mg_of X G a33,F33.binds λ_ _ _ _ _ _=>xC λ_ _=>rfl⟩;have F34:=zy (st:=Xe) l34 c34 k34;have D34:zF K mg "address_in" Xe ["state", "row"]:=⟨_,_,F34,W.mg_of X G a34,F34.binds λ_ _ _ _ _ _=>xC λ_ _=>rfl⟩;have F35:=zy (st:=Xm) l35 c35 k35;have D35:zF K mg "do_load" Xm ["state", "row"]:=⟨_,_,F35,W.mg_of X G a35,F35.binds λ_ _ _ _ _ _=>xC λ_ _=>rfl⟩;have F36:=zy (st:=Xn) l36 c36 k36;have D36:zF K mg "do_loadw" Xn ["state", "row"]:=⟨_,_,F36,W.mg_of X G a36,F36.binds λ_ _ _ _ _ _=>xC λ_ _=>rfl⟩;have F37:=zy (st:=Xr) l37 c37 k37;have D37:zF K mg "do_store" Xr ["state", "row"]:=⟨_,_,F37,W.mg_of X G a37,F37.binds λ_ _ _ _ _ _=>xC λ_ _=>rfl⟩;have F38:=zy (st:=Xs) l38 c38 k38;have D38:zF K mg "do_storew" Xs ["state", "row"]:=⟨_,_,F38,W.mg_of X G a38,F38.binds λ_ _ _ _ _ _=>xC λ_ _=>rfl⟩;have F39:=zy (st:=Xp) l39 c39 k39;have D39:zF K mg "do_row" Xp ["state", "row"]:=⟨_,_,F39,W.mg_of X G a39,F39.binds λ_ _ _ _ _ _=>xC λ_ _=>rfl⟩;have F40:=zy (st:=WF) l40 c40 k40;have D40:zF K mg "leads" WF ["state", "row"]:=⟨_,_,F40,W.mg_of X G a40,F40.binds λ_ _ _ _ _ _=>xC λ_ _=>rfl⟩;have F41:=zy (st:=WV) l41 c41 k41;have D41:zF K mg "words_from" WV ["registers"]:=⟨_,_,F41,W.mg_of X G a41,F41.binds λ_ _ _ _ _ _=>wL λ_=>rfl⟩;have F42:=tV (st:=pW) l42 c42 k42;have b42:xq K (W.fnOf "stands" "Machine.stands" (yy pW) (yS pW) (zQ pW) .none kV42 dc42 pm42 an42 cd42 ct42) ["self"] []:=.all (wL λ_=>rfl);have F43:=tV (st:=pQ) l43 c43 k43;have b43:xq K (W.fnOf "again" "Machine.again" (yy pQ) (yS pQ) (zQ pQ) .none kV43 dc43 pm43 an43 cd43 ct43) ["self"] []:=.all (wL λ_=>rfl);have F44:=tV (st:=pX) l44 c44 k44;have b44:xq K (W.fnOf "step" "Machine.step" (yy pX) (yS pX) (zQ pX) .none kV44 dc44 pm44 an44 cd44 ct44) ["self"] []:=.all (wL λ_=>rfl);have F45:=tV (st:=pV) l45 c45 k45;have b45:xq K (W.fnOf "registers" "Machine.registers" (yy pV) (yS pV) (zQ pV) .none kV45 dc45 pm45 an45 cd45 ct45) ["self"] []:=.all (wL λ_=>rfl);have F46:=tV (st:=pS) l46 c46 k46;have b46:xq K (W.fnOf "marks" "Machine.marks" (yy pS) (yS pS) (zQ pS) .none kV46 dc46 pm46 an46 cd46 ct46) ["self"] []:=.all (wL λ_=>rfl);have F47:=tV (st:=pT) l47 c47 k47;have b47:xq K (W.fnOf "memory" "Machine.memory" (yy pT) (yS pT) (zQ pT) .none kV47 dc47 pm47 an47 cd47 ct47) ["self"] []:=.all (wL λ_=>rfl);have F48:=tV (st:=pU) l48 c48 k48;have b48:xq K (W.fnOf "place" "Machine.place" (yy pU) (yS pU) (zQ pU) .none kV48 dc48 pm48 an48 cd48 ct48) ["self"] []:=.all (wL λ_=>rfl);have F49:=tV (st:=pY) l49 c49 k49;have b49:xq K (W.fnOf "steps" "Machine.steps" (yy pY) (yS pY) (zQ pY) .none kV49 dc49 pm49 an49 cd49 ct49) ["self"] []:=.all (wL λ_=>rfl);have F50:=tV (st:=pR) l50 c50 k50;have b50:xq K (W.fnOf "byte" "Machine.byte" (yy pR) (yS pR) (zQ pR) .none kV50 dc50 pm50 an50 cd50 ct50) ["self", "address"] []:=.all (xC λ_ _=>rfl);have F51:=tV (st:=pP) l51 c51 k51;have b51:xq K (W.fnOf "__init__" "Machine.__init__" (yy pP) (yS pP) (zQ pP) .none kV51 dc51 pm51 an51 cd51 ct51) ["self", "table", "end", "registers", "memory"] []:=.all (dk λ_ _ _ _ _=>rfl);have F52:=zy (st:=WP) l52 c52 k52;have D52:zF K mg "table_of_rows" WP ["items"]:=⟨_,_,F52,W.mg_of X G a52,F52.binds λ_ _ _ _ _ _=>wL λ_=>rfl⟩;have F53:=tV (st:=tj) l53 c53 k53
 have b53:xq K (W.fnOf "__init__" "RowMachine.__init__" (yy tj) (yS tj) (zQ tj) (.ref T53) kV53 dc53 pm53 an53 cd53 ct53) ["self", "items", "registers", "memory"] []:=λs us KI hl=>by
  rw[ub]at hl ⊢;exact TY (P:=λus=>BindsTo s (W.fnOf "__init__" "RowMachine.__init__" (yy tj) (yS tj) (zQ tj) (.ref T53) kV53 dc53 pm53 an53 cd53 ct53) ⟨us,[]⟩ ((["self", "items", "registers", "memory"]:List Str).zip us)) (λ_ _ _ _=>W.binds_K KI rfl t53 rfl rfl rfl) us hl
 have F54:=zy (st:=W5) l54 c54 k54;have D54:zF K mg "_law_cell_at" W5 ["_law_script", "_law_k"]:=⟨_,_,F54,W.mg_of X G a54,F54.binds λ_ _ _ _ _ _=>xC λ_ _=>rfl⟩;have F55:=zy (st:=W9) l55 c55 k55;have D55:zF K mg "_law_mixed" W9 ["_law_cell", "_law_k"]:=⟨_,_,F55,W.mg_of X G a55,F55.binds λ_ _ _ _ _ _=>xC λ_ _=>rfl⟩;have F56:=zy (st:=WD) l56 c56 k56;have D56:zF K mg "_law_word" WD ["_law_cell", "_law_k"]:=⟨_,_,F56,W.mg_of X G a56,F56.binds λ_ _ _ _ _ _=>xC λ_ _=>rfl⟩;have F57:=zy (st:=WE) l57 c57 k57;have D57:zF K mg "_law_words" WE ["_law_cell"]:=⟨_,_,F57,W.mg_of X G a57,F57.binds λ_ _ _ _ _ _=>wL λ_=>rfl⟩;have F58:=zy (st:=W4) l58 c58 k58;have D58:zF K mg "_law_bytes" W4 ["_law_row", "_law_s"]:=⟨_,_,F58,W.mg_of X G a58,F58.binds λ_ _ _ _ _ _=>xC λ_ _=>rfl⟩;have F59:=zy (st:=W6) l59 c59 k59;have D59:zF K mg "_law_deed" W6 ["_law_row", "_law_s"]:=⟨_,_,F59,W.mg_of X G a59,F59.binds λ_ _ _ _ _ _=>xC λ_ _=>rfl⟩;have F60:=zy (st:=W2) l60 c60 k60;have D60:zF K mg "_law_begin" W2 ["_law_words_here", "_law_pairs_here"]:=⟨_,_,F60,W.mg_of X G a60,F60.binds λ_ _ _ _ _ _=>xC λ_ _=>rfl⟩;have F61:=zy (st:=WA) l61 c61 k61;have D61:zF K mg "_law_pairs" WA ["_law_cell"]:=⟨_,_,F61,W.mg_of X G a61,F61.binds λ_ _ _ _ _ _=>wL λ_=>rfl⟩;have F62:=zy (st:=W8) l62 c62 k62;have D62:zF K mg "_law_look" W8 ["_law_machine", "_law_cell"]:=⟨_,_,F62,W.mg_of X G a62,F62.binds λ_ _ _ _ _ _=>xC λ_ _=>rfl⟩;have F63:=zy (st:=W7) l63 c63 k63;have D63:zF K mg "_law_due" W7 ["_law_s", "_law_stands"]:=⟨_,_,F63,W.mg_of X G a63,F63.binds λ_ _ _ _ _ _=>xC λ_ _=>rfl⟩;have F64:=zy (st:=WC) l64 c64 k64;have D64:zF K mg "_law_straight" WC ["_law_row", "_law_s"]:=⟨_,_,F64,W.mg_of X G a64,F64.binds λ_ _ _ _ _ _=>xC λ_ _=>rfl⟩;have F65:=zy (st:=WB) l65 c65 k65;have D65:zF K mg "_law_played" WB ["_law_script", "_law_rows"]:=⟨_,_,F65,W.mg_of X G a65,F65.binds λ_ _ _ _ _ _=>xC λ_ _=>rfl⟩;have F66:=zy (st:=W3) l66 c66 k66;have D66:zF K mg "_law_byte" W3 ["_law_rows", "_law_script"]:=⟨_,_,F66,W.mg_of X G a66,F66.binds λ_ _ _ _ _ _=>xC λ_ _=>rfl⟩;have F67:=zy (st:=kN) l67 c67 k67;refine⟨W.fnOf "law" "law" (yy kN) (yS kN) (zQ kN) .none kV67 dc67 pm67 an67 cd67 ct67,λs v=>.of_eq rfl,λbase _ _=>?_⟩;have pF:=Pb (P:=l.prog) (w:=w) (base:=base) D0 t8 YR Oh;have UX:=P6 (P:=l.prog) (w:=w) (base:=base) D1 gv kJ;have Js:=RA (P:=l.prog) (w:=w) (base:=base) D2 gv kJ;have ww:=R3 (P:=l.prog) (w:=w) (base:=base) D3 ;have Jm:=Px (P:=l.prog) (w:=w) (base:=base) D4 qj qp ww;have Jn:=Py (P:=l.prog) (w:=w) (base:=base) D5 ww;have Ju:=RC (P:=l.prog) (w:=w) (base:=base) D6 ;have JT:=PD (P:=l.prog) (w:=w) (base:=base) D7 tu Za YB ww;have Jw:=RE (P:=l.prog) (w:=w) (base:=base) D8 Ol YT Za YB;have Zf:=Pa (P:=l.prog) (w:=w) (base:=base) D9 ;have Jc:=PZ (P:=l.prog) (w:=w) (base:=base) D10 JN Ix;have Zl:=R6 (P:=l.prog) (w:=w) (base:=base) D11 Zf;have Jf:=Pe (P:=l.prog) (w:=w) (base:=base) D12 Zf;have Jt:=RB (P:=l.prog) (w:=w) (base:=base) D13 Jf Zl Jc;have Ze:=PY (P:=l.prog) (w:=w) (base:=base) D14 ZY Y9 pF;have Jd:=Pc (P:=l.prog) (w:=w) (base:=base) D15 uJ t8 tu ZZ YA pF Ze;have JS:=PC (P:=l.prog) (w:=w) (base:=base) D16 t8 xy Jd;have Jo:=R1 (P:=l.prog) (w:=w) (base:=base) D17 YS;have pE:=PB (P:=l.prog) (w:=w) (base:=base) D18 ;have Zc:=P8 (P:=l.prog) (w:=w) (base:=base) D19 ZY Y9 ww;have Zd:=PU (P:=l.prog) (w:=w) (base:=base) D20 wj Zc;have Jv:=RD (P:=l.prog) (w:=w) (base:=base) D21 Jw Zd pE;have Zk:=R4 (P:=l.prog) (w:=w) (base:=base) D22 ZZ YA ww;have Jp:=R5 (P:=l.prog) (w:=w) (base:=base) D23 YT Zk Zd JT;have o24:=P5 (P:=l.prog) (w:=w) (mg:=mg) (base:=base) F24 xy Tj Zb YC a_words a_truths a_held;have IB:ZI l.prog w K mg base "State" ["self", "words", "held"] 1 (zo K Z5):=⟨C_State,f24,_,Zx,W.mg_of X G Zx,⟨mk_State,a24,i24,kc_State⟩,b24,o24⟩;have JZ:=PO (P:=l.prog) (w:=w) (base:=base) D25 a_words;have JV:=PJ (P:=l.prog) (w:=w) (base:=base) D26 a_words Ju;have JU:=PH (P:=l.prog) (w:=w) (base:=base) D27 a_words;have Jq:=R8 (P:=l.prog) (w:=w) (base:=base) D28 UX Js;have pG:=Pv (P:=l.prog) (w:=w) (base:=base) D29 qj qp a_truths ww;have gz:=PR (P:=l.prog) (w:=w) (base:=base) D30 a_truths a_words pG Jq;have Je:=Pd (P:=l.prog) (w:=w) (base:=base) D31 ;have XE:=PF (P:=l.prog) (w:=w) (base:=base) D32 a_words pG Je;have UY:=PM (P:=l.prog) (w:=w) (base:=base) D33 a_words a_truths pG Jm Jn;have tW:=P7 (P:=l.prog) (w:=w) (base:=base) D34 a_words Zc;have JW:=PK (P:=l.prog) (w:=w) (base:=base) D35 a_words a_held pE tW;have JX:=PL (P:=l.prog) (w:=w) (base:=base) D36 a_words a_held Jv tW;have Ja:=PP (P:=l.prog) (w:=w) (base:=base) D37 a_words a_held Zk tW;have Jb:=PQ (P:=l.prog) (w:=w) (base:=base) D38 a_words a_held Jp tW;have JY:=PN (P:=l.prog) (w:=w) (base:=base) D39 UR d_DEEDS JZ JV JU gz XE UY JW JX Ja Jb;have Jl:=Pt (P:=l.prog) (w:=w) (base:=base) D40 a_truths;have Jx:=RF (P:=l.prog) (w:=w) (base:=base) D41 uJ t8 xy Og US T2 qj qp pF;have o42:=Ny (P:=l.prog) (w:=w) (mg:=mg) (base:=base) F42 a_due a_table a_end;have v_Machine_stands:wX l.prog w K mg base "RowMachine" "stands" ["self"] 1 (zR K vm):=⟨C_RowMachine,f42,_,wx,cl_RowMachine,⟨a42,i42,k42⟩,b42,o42⟩;have o43:=Nr (P:=l.prog) (w:=w) (mg:=mg) (base:=base) F43 a_state a_first_held a_first_words a_due a_done IB;have v_Machine_again:wX l.prog w K mg base "RowMachine" "again" ["self"] 3 (zo K jB):=⟨C_RowMachine,f43,_,wx,cl_RowMachine,⟨a43,i43,k43⟩,b43,o43⟩;have o44:=Nz (P:=l.prog) (w:=w) (mg:=mg) (base:=base) F44 a_due a_table a_state a_done v_Machine_stands JY Jl;have v_Machine_step:wX l.prog w K mg base "RowMachine" "step" ["self"] 7 (zo K tJ):=⟨C_RowMachine,f44,_,wx,cl_RowMachine,⟨a44,i44,k44⟩,b44,o44⟩;have o45:=Nx (P:=l.prog) (w:=w) (mg:=mg) (base:=base) F45 xy a_state a_words;have v_Machine_registers:wX l.prog w K mg base "RowMachine" "registers" ["self"] 1 (zR K gH):=⟨C_RowMachine,f45,_,wx,cl_RowMachine,⟨a45,i45,k45⟩,b45,o45⟩;have o46:=Nu (P:=l.prog) (w:=w) (mg:=mg) (base:=base) F46 tu Zb YC a_state a_truths;have v_Machine_marks:wX l.prog w K mg base "RowMachine" "marks" ["self"] 1 (zR K gD):=⟨C_RowMachine,f46,_,wx,cl_RowMachine,⟨a46,i46,k46⟩,b46,o46⟩;have o47:=Nv (P:=l.prog) (w:=w) (mg:=mg) (base:=base) F47 a_state a_held Jo;have v_Machine_memory:wX l.prog w K mg base "RowMachine" "memory" ["self"] 2 (zR K gE):=⟨C_RowMachine,f47,_,wx,cl_RowMachine,⟨a47,i47,k47⟩,b47,o47⟩;have o48:=Nw (P:=l.prog) (w:=w) (mg:=mg) (base:=base) F48 a_due;have v_Machine_place:wX l.prog w K mg base "RowMachine" "place" ["self"] 1 (zR K gF):=⟨C_RowMachine,f48,_,wx,cl_RowMachine,⟨a48,i48,k48⟩,b48,o48⟩;have o49:=N_ (P:=l.prog) (w:=w) (mg:=mg) (base:=base) F49 a_done;have v_Machine_steps:wX l.prog w K mg base "RowMachine" "steps" ["self"] 1 (zR K gI):=⟨C_RowMachine,f49,_,wx,cl_RowMachine,⟨a49,i49,k49⟩,b49,o49⟩;have o50:=Nt (P:=l.prog) (w:=w) (mg:=mg) (base:=base) F50 a_state a_held Ze pE;have v_Machine_byte:wX l.prog w K mg base "RowMachine" "byte" ["self", "address"] 3 (zR K gC):=⟨C_RowMachine,f50,_,wx,cl_RowMachine,⟨a50,i50,k50⟩,b50,o50⟩;have o51:=Nq (P:=l.prog) (w:=w) (mg:=mg) (base:=base) F51 a_table a_end a_first_words a_first_held v_Machine_again Jx JS;have w_Machine___init__:VI l.prog w K mg base "Machine" "__init__" ["self", "table", "end", "registers", "memory"] 5 (zo K Z4):=⟨⟨C_Machine,f51,_,.type "type",W.mg_of X G Bs,hg_Machine,rd_Machine,a51,k51,b51,o51⟩⟩;have Jr:=R9 (P:=l.prog) (w:=w) (base:=base) D52 Oi Zl Jt;have o53:=P4 (P:=l.prog) (w:=w) (mg:=mg) (base:=base) F53 uJ w_Machine___init__ Jr;have Zp:ZI l.prog w K mg base "RowMachine" ["self", "items", "registers", "memory"] 6 (zo K jC):=⟨C_RowMachine,f53,_,wx,W.mg_of X G wx,⟨mk_RowMachine,a53,i53,kc_RowMachine⟩,b53,o53⟩;have u8:=Pj (P:=l.prog) (w:=w) (base:=base) D54 uJ;have vG:=Pn (P:=l.prog) (w:=w) (base:=base) D55 ;have Jk:=Pr (P:=l.prog) (w:=w) (base:=base) D56 vG;have Zj:=Ps (P:=l.prog) (w:=w) (base:=base) D57 wj Jk;have Jh:=Pi (P:=l.prog) (w:=w) (base:=base) D58 YR wj;have Ji:=Pk (P:=l.prog) (w:=w) (base:=base) D59 Jh;have Zg:=Pg (P:=l.prog) (w:=w) (base:=base) D60 xy;have Zh:=Po (P:=l.prog) (w:=w) (base:=base) D61 wj vG;have Ua:=Pm (P:=l.prog) (w:=w) (base:=base) D62 qu wj v_Machine_registers v_Machine_marks v_Machine_memory v_Machine_place v_Machine_steps v_Machine_stands;have UZ:=Pl (P:=l.prog) (w:=w) (base:=base) D63 YS xy qu tu;have Zi:=Pq (P:=l.prog) (w:=w) (base:=base) D64 Ji;have Jj:=Pp (P:=l.prog) (w:=w) (base:=base) D65 xy wj uJ Zp v_Machine_step Zg Zi Zj u8 Zh Ua UZ;have Jg:=Ph (P:=l.prog) (w:=w) (base:=base) D66 qu Zp v_Machine_step v_Machine_byte Zg Zi Zj u8 Zh;exact Pf F67 wj Oj xy u8 vG (zJ.LQ Jg) (zJ.LQ Jj)
theorem walk{l:W.OpenLaw}{q:Program}{loose:List Str}{XP:(Str->Option Value)->Heap->Prop}{YP:World->Heap->Prop}{d:DefRec}{K:Params->W.Frag}(hn:l.most=some 63)(hdf:d.params.defaults=[])
  (hY:∀(w:World)(h:Heap),YP w h->(K w.params).In h)
  (F:∀(w:World)(mg:Str->Option Value)(fa:Addr)(h:Heap),(K w.params).In h->h.Ns mainGlobals mg->mg d.name=some (.ref fa)->
   ∃fd:FuncData,(∀(s:Shared)(u:Value),BindsTo s fd ⟨[u],[]⟩ [("_law_script",u)])/\∀base:Heap,(K w.params).In base->base.Ns mainGlobals mg->yj l.prog w (K w.params) mg base yo 10 fa fd ["_law_script"] (Wf (K w.params))) :
  W.WalkO q loose XP YP l.row.toRowW d [] (λf vs=>PySem.call f vs):=
 L3.walkB (n:=63) (k:=10) (x := "_law_script") (sp:=Wf) hn (by decide) hdf ⟨rfl,by decide,by decide,rfl⟩ hY F λ_ _ a ns hl hb hS=>⟨a,ns,rfl,hS,hl,hb,λ_=>rfl⟩
end My
namespace PySem.W.Fast
def tw17846987539689799690:=0
def tw7930875835918394456:=0
def tw3247348387407035130:=0
def tw14306216605281079044:=0
def tw10546977294618475800:=0
def tw10834135673980554493:=0
def tw3295317489353115539:=0
def tw2439704704219954785:=0
def tw14498588062824714525:=0
def tw11703991050852110424:=0
def tw17718944263609138683:=0
def tw3884047160627695729:=0
def tw17592425385332258110:=0
def tw7454196931471180582:=0
def tw6022370628288526280:=0
def tw4904943207114229880:=0
def tw18190760082842192112:=0
def tw6833968876975851032:=0
def tw16234892549023357494:=0
def tw660140641573384276:=0
def tw7014240479066722911:=0
def tw6902208603020980990:=0
def tw7980785476146650232:=0
def tw11768732301921050444:=0
def tw17855894597485163063:=0
def tw16798088115895717003:=0
def tw7656570016009236947:=0
def tw2373670017299029502:=0
def tw764981306059345805:=0
def tw18409824674728878054:=0
def tw13389543531646755288:=0
def tw5662224003726187516:=0
def tw10088858834938156709:=0
def tw2867930626461734266:=0
def tw7585885911344747867:=0
def tw4620536599468202691:=0
def tw9674778079141681170:=0
def tw15808129402567899314:=0
def tw7706592535039802525:=0
def tw14384892466439650041:=0
def tw901081036904031018:=0
def tw8666436664872579499:=0
def tw6429013670305723500:=0
def tw1627123959605235061:=0
def tw17972138614676913808:=0
def tw17115601437710103482:=0
def tw14222629299994429676:=0
def tw12815721400956344289:=0
def tw1448383749009159041:=0
def tw15849646434314350305:=0
def tw6022191808863919364:=0
def tw8954918574611440129:=0
def tw16238873297060131543:=0
def tw13098118701572398061:=0
def tw8851057910669068789:=0
def tw9038586846315831780:=0
def tw16026586741548020888:=0
def tw13774949838033445637:=0
def tw85466164969476926:=0
def tw9189841177887023203:=0
def tw6874376448551445112:=0
def tw3387945705325268261:=0
def tw14697934309049777060:=0
def tw18387640925058363888:=0
def tw9213340004232446019:=0
def tw5004036905392402411:=0
def tw2906634682812879743:=0
def tw117611310183811277:=0
def tw12826910973260362313:=0
def tw335326634475304790:=0
def tw378110370143772669:=0
def tw7716172530995998136:=0
def tw12844561185821769639:=0
def tw16402244607668723441:=0
def tw2953997822165358539:=0
def tw16624584769798912621:=0
def tw12186515083374647082:=0
def tw3159203382330186482:=0
def tw13751599281130492492:=0
def tw1945181200109222266:=0
def tw2755569527737865750:=0
def tw10669758652710498525:=0
def tw13727115927599829836:=0
def tw1721204292663020419:=0
def tw15366186023292243693:=0
def tw16398800504150355068:=0
def tw6104300903544578268:=0
def tw18326634887200231676:=0
def tw10072345252762108048:=0
def tw1982502104113981044:=0
def tw6091754417920169236:=0
def tw1481821965419930777:=0
def tw8883700098558023859:=0
def tw14330633317797935068:=0
def tw9162778617606494925:=0
def tw11461034476043211055:=0
def tw16415732389266360833:=0
def tw9814296471964257941:=0
def tw665163922577499397:=0
def tw13817942065926662423:=0
def tw11531973288924486242:=0
def tw8280206014964262683:=0
def tw811273208975879579:=0
def tw5151351915975075891:=0
def tw4971235918061895948:=0
def tw11707547510639702578:=0
def tw7719084908239024214:=0
def tw10596427523852190833:=0
def tw3319499227175880822:=0
def tw14218630517598312936:=0
def tw10124489470829607328:=0
def tw5049245318718703455:=0
def tw4161943038687388722:=0
def tw16298442512013613930:=0
def tw3372457914864529309:=0
def tw6372834519392396269:=0
def tw727420864237871917:=0
def tw7841892705942674835:=0
def tw17871974210362401160:=0
def tw13382595439584821008:=0
def tw8957342574282594884:=0
def tw13860602948057153015:=0
def tw9216235963555617107:=0
def tw17612441516701718884:=0
def tw2376911493592319064:=0
def tw10952522176699115049:=0
def tw1642183015566066277:=0
def tw13134946159807306730:=0
def tw10830640089562008594:=0
def tw6560052810500514206:=0
def tw9010118128098424401:=0
def tw17822097181690594155:=0
def tw5810320458911775757:=0
def tw8973626716688455192:=0
def tw1931016307446118572:=0
def tw10799429061166488845:=0
def tw16103319265880166298:=0
def tw1779226776550252785:=0
def tw1397879416005512559:=0
def tw8158039455812354497:=0
def tw14765521080024624247:=0
def tw17276161933716111326:=0
def tw2040447109869036557:=0
def tw11077836948659861625:=0
def tw2197013894085351688:=0
def tw15661108485012599261:=0
end PySem.W.Fast
open PySem PySem.W PyProof.Rows
set_option maxRecDepth 100000 in
set_option maxHeartbeats 0 in
theorem PySem.Challenge.cw_markrun_k37_bytes_and_words_holds : PySem.Challenge.rw_markrun_k37_bytes_and_words.Holds := by
 w_on; o_law; k_head; (case hw=>w_witness2)
 k_fill
 refine My.walk (l:=PySem.Challenge.rw_markrun_k37_bytes_and_words) rfl rfl (λw h Y=>PySem.W.kIn_of Y) ?F
 case F=>
  intro w mg fa h KX G hmg;refine' My.all_mk KX G hmg ?Bs ?wx ?Zx ?a0 ?l0 ?c0 ?k0 ?a1 ?l1 ?c1 ?k1 ?a2 ?l2 ?c2 ?k2 ?a3 ?l3 ?c3 ?k3 ?a4 ?l4 ?c4 ?k4 ?a5 ?l5 ?c5 ?k5 ?a6 ?l6 ?c6 ?k6 ?a7 ?l7 ?c7 ?k7 ?a8 ?l8 ?c8 ?k8 ?a9 ?l9 ?c9 ?k9 ?a10 ?l10 ?c10 ?k10 ?a11 ?l11 ?c11 ?k11 ?a12 ?l12 ?c12 ?k12 ?a13 ?l13 ?c13 ?k13 ?a14 ?l14 ?c14 ?k14 ?a15 ?l15 ?c15 ?k15 ?a16 ?l16 ?c16 ?k16 ?a17 ?l17 ?c17 ?k17 ?a18 ?l18 ?c18 ?k18 ?a19 ?l19 ?c19 ?k19 ?a20 ?l20 ?c20 ?k20 ?a21 ?l21 ?c21 ?k21 ?a22 ?l22 ?c22 ?k22 ?a23 ?l23 ?c23 ?k23 ?a24 ?l24 ?c24 ?k24 ?i24 ?a25 ?l25 ?c25 ?k25 ?a26 ?l26 ?c26 ?k26 ?a27 ?l27 ?c27 ?k27 ?a28 ?l28 ?c28 ?k28 ?a29 ?l29 ?c29 ?k29 ?a30 ?l30 ?c30 ?k30 ?a31 ?l31 ?c31 ?k31 ?a32 ?l32 ?c32 ?k32 ?a33 ?l33 ?c33 ?k33 ?a34 ?l34 ?c34 ?k34 ?a35 ?l35 ?c35 ?k35 ?a36 ?l36 ?c36 ?k36 ?a37 ?l37 ?c37 ?k37 ?a38 ?l38 ?c38 ?k38 ?a39 ?l39 ?c39 ?k39 ?a40 ?l40 ?c40 ?k40 ?a41 ?l41 ?c41 ?k41 ?a42 ?l42 ?c42 ?k42 ?i42 ?a43 ?l43 ?c43 ?k43 ?i43 ?a44 ?l44 ?c44 ?k44 ?i44 ?a45 ?l45 ?c45 ?k45 ?i45 ?a46 ?l46 ?c46 ?k46 ?i46 ?a47 ?l47 ?c47 ?k47 ?i47 ?a48 ?l48 ?c48 ?k48 ?i48 ?a49 ?l49 ?c49 ?k49 ?i49 ?a50 ?l50 ?c50 ?k50 ?i50 ?a51 ?l51 ?c51 ?k51 ?i51 ?a52 ?l52 ?c52 ?k52 ?a53 ?l53 ?c53 ?k53 ?i53 ?t53 ?a54 ?l54 ?c54 ?k54 ?a55 ?l55 ?c55 ?k55 ?a56 ?l56 ?c56 ?k56 ?a57 ?l57 ?c57 ?k57 ?a58 ?l58 ?c58 ?k58 ?a59 ?l59 ?c59 ?k59 ?a60 ?l60 ?c60 ?k60 ?a61 ?l61 ?c61 ?k61 ?a62 ?l62 ?c62 ?k62 ?a63 ?l63 ?c63 ?k63 ?a64 ?l64 ?c64 ?k64 ?a65 ?l65 ?c65 ?k65 ?a66 ?l66 ?c66 ?k66 ?a67 ?l67 ?c67 ?k67 ?DN ?DM ?DJ ?DV ?DU ?DW ?DO ?DP ?DT ?DR ?DK ?DI ?DL ?DS ?DQ ?hg_Machine ?rd_Machine ?pg_RowMachine ?hd_RowMachine ?po_RowMachine ?sa_RowMachine ?mk_RowMachine ?kc_RowMachine ?pg_State ?hd_State ?po_State ?sa_State ?mk_State ?kc_State ?nf_RowMachine_done ?nf_RowMachine_due ?nf_RowMachine_end ?nf_RowMachine_first_held ?nf_RowMachine_first_words ?nf_State_held ?nf_RowMachine_state ?nf_RowMachine_table ?nf_State_truths ?nf_State_words ?Bz ?DF ?DG ?Bv ?DC ?By ?IW ?B_ ?IX ?Bu ?Bw ?DA ?IY ?DB
  all_goals try (first|k_is|k_exc|kit_is|kts_exm)
  all_goals decide
