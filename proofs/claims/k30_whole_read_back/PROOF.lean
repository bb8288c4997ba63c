import PyProof.Rows.All
import Wide.All
import OpenK.AllK
import Wide.FinOn
import Lean
import PyProof.EqAt
import PyProof.EqKinds
import PyProof.TupleCall
import PySem.Challenge.RW_markrun_k30_whole_read_back
set_option Elab.async false
set_option linter.all false
set_option maxRecDepth 100000
def Z6:=@PySem.Around.under_plainId
def gH:=@Array.getElem?_eq_getElem
def VB:=@Array.getElem?_eq_none
def VC:=@Array.getElem?_toList
def VD:=@Array.getElem_toList
def wj:=@Array.length_toList
def Gf:=@Array.toArray_toList
def xP:=@Bool.and_eq_true
def M0:=@Bool.and_false
def VE:=@Bool.eq_iff_iff
def gI:=@Bool.false_and
def Yj:=@Bool.false_eq_true
def yz:=@Bool.false_ne_true
def M1:=@Bool.not_true
def Qh:=@Bool.or_false
def Z7:=@Bool.true_and
def Gg:=@PySem.Calls.Name_function_global
def Qi:=@PySem.Calls.callWith_builtin
def Gh:=@PySem.F.args_tuple_iterator_next_1
def gJ:=@PySem.F.called_set
def Gi:=@PySem.F.entry_tuple_iterator_next
def M2:=@PyProof.Rows.F.plain_set_update_loop
def M3:=@PySem.F.slot_list_getattribute
def Qj:=@PySem.F.slot_tuple_iterator_next
def Qk:=@PySem.F.slot_zip_next
def M4:=@Int.add_zero
def VF:=@Int.ediv_one
def Gj:=@Int.emod_lt_of_pos
def M5:=@Int.eq_ofNat_of_zero_le
def Gk:=@Int.fdiv_eq_ediv_of_nonneg
def VG:=@Int.le_of_lt
def Ql:=@Int.le_refl
def M6:=@Int.le_trans
def Gm:=@Int.mul_ediv_add_emod
def Gn:=@Int.mul_emod_right
def Qm:=@Int.mul_one
def VH:=@Int.natCast_nonneg
def M7:=@Int.ne_of_gt
def M8:=@Int.ofNat_zero
def M9:=@Int.one_mul
def xU:=@Int.toNat_natCast
def MA:=@List.Pairwise.map
def Qn:=@List.Perm.of_eq
def pE:=@List.Perm.refl
def wl:=@List.all_cons
def wm:=@List.all_eq_true
def Yk:=@List.any_cons
def jE:=@List.any_eq_true
def gK:=@List.append_assoc
def ui:=@List.append_nil
def MB:=@List.cons.injEq
def Yl:=@List.cons_append
def MC:=@List.drop_eq_getElem_cons
def MD:=@List.drop_eq_nil_of_le
def Ym:=@List.ext_getElem?
def ME:=@List.filterMap_cons
def VI:=@List.filter_append
def Yn:=@List.filter_cons_of_neg
def gL:=@List.filter_cons_of_pos
def MF:=@List.filter_map
def Yo:=@List.find?_cons
def Z8:=@List.foldl_cons
def MG:=@List.forIn_cons
def vH:=@List.getD_eq_getElem?_getD
def Z9:=@List.getElem?_append_left
def MH:=@List.getElem?_append_right
def yS:=@List.getElem?_eq_getElem
def uH:=@List.getElem?_eq_none
def Go:=@List.getElem?_eq_none_iff
def xE:=@List.getElem?_eq_some_iff
def xM:=@List.getElem?_map
def qc:=@List.getElem?_range
def Gp:=@List.getElem?_replicate
def Qo:=@List.getElem?_set
def Gq:=@List.getElem?_set_ne
def Gs:=@List.getElem?_set_self
def Qp:=@List.getElem?_toArray
def Qq:=@List.getElem?_zipWith
def uj:=@List.getElem_mem
def Yp:=@List.getElem_of_mem
def yj:=@List.length_append
def xc:=@List.length_cons
def ZA:=@List.length_drop
def Gu:=@List.length_eraseIdx
def MI:=@List.length_filterMap_le
def zx:=@List.length_map
def pF:=@List.length_nil
def Gv:=@List.length_pos_iff
def vx:=@List.length_range
def gM:=@List.length_replicate
def Yq:=@List.length_set
def Gw:=@List.length_singleton
def gN:=@List.length_take
def tI:=@List.length_zip
def gO:=@List.length_zipWith
def MJ:=@List.lookup_cons
def gP:=@List.map_append
def Gx:=@List.map_congr_left
def wD:=@List.map_cons
def ZB:=@List.map_id
def vA:=@List.map_map
def Qr:=@List.map_nil
def uI:=@List.mem_append
def MK:=@List.mem_append_left
def uk:=@List.mem_append_right
def yT:=@List.mem_cons
def wQ:=@List.mem_cons_of_mem
def xV:=@List.mem_cons_self
def qd:=@List.mem_filter
def VJ:=@List.mem_filterMap
def xQ:=@List.mem_map
def tJ:=@List.mem_of_getElem?
def vi:=@List.mem_range
def vB:=@List.mem_singleton
def Qs:=@List.nil_append
def VL:=@List.nodup_cons
def ML:=@List.nodup_nil
def wR:=@List.not_mem_nil
def MM:=@List.of_mem_zip
def ZC:=@List.pairwise_cons
def MN:=@List.pairwise_iff_getElem
def MO:=@List.pairwise_lt_range
def Ge:=@List.range_eq_range'
def Qt:=@List.range_succ
def Gy:=@List.replicate_zero
def yk:=@List.size_toArray
def MP:=@List.sum_cons
def MQ:=@List.take_length
def MR:=@List.take_of_length_le
def Gz:=@List.take_succ_eq_append_getElem
def gQ:=@List.zipWith_cons_cons
def ZD:=@List.zipWith_nil_left
def VM:=@List.zip_cons_cons
def G_:=@Nat.add_le_add_left
def HA:=@Nat.eq_of_testBit_eq
def gR:=@Nat.le_add_right
def jF:=@Nat.le_of_lt
def zr:=@Nat.le_refl
def VO:=@Nat.le_succ
def xv:=@Nat.le_trans
def wJ:=@Nat.lt_irrefl
def MS:=@Nat.lt_of_le_of_lt
def wE:=@Nat.lt_of_lt_of_le
def MT:=@Nat.lt_succ_of_le
def VP:=@Nat.lt_succ_of_lt
def ZE:=@Nat.lt_succ_self
def Qu:=@Nat.lt_trans
def tK:=@Nat.min_self
def uJ:=@Nat.ne_of_gt
def w6:=@Nat.ne_of_lt
def MU:=@Nat.not_lt
def HB:=@Nat.not_succ_le_self
def MV:=@Nat.sub_add_cancel
def HC:=@Nat.testBit_div_two_pow
def HD:=@Nat.testBit_mod_two_pow
def MW:=@Nat.testBit_mul_two_pow
def xw:=@Nat.zero_add
def uK:=@Nat.zero_le
def qE:=@Ne.symm
def Qv:=@PySem.Obj.data_mapFields
def HE:=@Option.isSome_iff_exists
def MX:=@Option.isSome_map
def HF:=@Option.map_eq_some_iff
def MY:=@Option.map_some
def vV:=@Option.some.inj
def vy:=@PySem.PassesOwn.never
def HG:=@PyProof.Rows.bitAnd_pp
def VQ:=@PyProof.Rows.callWith_type1
def Yr:=@PyProof.Rows.slot_tuple_getitem
def MZ:=@PySem.SeqAt.EqAt.same
def pG:=@Sum.inl.inj
def Qw:=@Sum.inr.inj
def gS:=@beq_eq_false_iff_ne
def ZF:=@beq_iff_eq
def pH:=@beq_self_eq_true
def VR:=@PySem.call_meets
def pI:=@PySem.codeAny_builtin
def Ma:=@PySem.codeAny_call_builtin
def VS:=@PySem.codeAny_mono
def ye:=@decide_eq_false
def yh:=@decide_eq_true
def Mb:=@decide_eq_true_iff
def VT:=@PySem.fits_of_scanBound
def Mc:=@PySem.gives_joinTail
def qF:=@if_false
def zS:=@if_neg
def zN:=@if_pos
def ul:=@if_true
def Md:=@PySem.isSubtype_stop
def Me:=@PySem.isSubtype_type
def ZG:=@not_or
def HH:=@of_decide_eq_false
def w_:=@of_decide_eq_true
def jG:=@PySem.plainId_quiet
def wn:=@PySem.sizeLine_eq
def Qx:=@PyProof.Rows.subscriptTail_builtinR
def Mf:=@PySem.tupleKind_room_in1
def Qy:=@PySem.typeIs_str
def Qz:=@PySem.wpAny_Call_Name_kw
def Mg:=@PySem.wpAny_Call_method0_late
def Ys:=@PySem.wpAny_askSetting
def Q_:=@PySem.wpAny_attempt
def zC:=@PySem.wpAny_bind
def J0:=@PySem.wpAny_call
def pJ:=@PySem.wpAny_callSpecial?_slot
def tL:=@PySem.wpAny_call_entry
def HI:=@PySem.wpAny_comprehension_free
def J1:=@PySem.wpAny_execs_nil
def vz:=@PySem.wpAny_field
def Mh:=@PySem.wpAny_fieldsOf
def Mi:=@PySem.wpAny_handled
def qG:=@PySem.wpAny_holding
def J2:=@PySem.wpAny_isInstance
def Mj:=@PySem.wpAny_ite_split
def ZH:=@PySem.wpAny_letGo
def HJ:=@PySem.wpAny_letOwnedTupleGo_enum
def v_:=@PySem.wpAny_mono
def um:=@PySem.wpAny_newObj_type
def VU:=@PySem.wpAny_of_eq
def VW:=@PySem.wpAny_onRaise
def ZI:=@PySem.wpAny_passesOwn
def zO:=@PySem.wpAny_pure
def J3:=@PySem.wpAny_pyIter_dict
def J4:=@PySem.wpAny_pyIter_enum
def VX:=@PySem.wpAny_pyIter_list
def Mk:=@PySem.wpAny_pyNext_list_end
def Ml:=@PySem.wpAny_pyNext_list_item
def gT:=@PySem.wpAny_rule
def tM:=@PySem.wpAny_seqItems
def VY:=@PySem.wpAny_setField
def Yt:=@PySem.wpAny_setField_rec
def Yu:=@PySem.wpAny_setState_of
def Mm:=@PySem.wpAny_standAt
def ZJ:=@PySem.wpAny_truthy_bool
def Yv:=@PySem.wpAny_tryCatch
def J5:=@PySem.wpAny_typeNameOfWhole_keyiter
def J6:=@PySem.wpAny_typeNameOf_keyiter
def gU:=@PySem.wpAny_typeOf
def VZ:=@PySem.wpAny_updateSeq
def Mn:=@PySem.wpAny_updateSeq_pair
namespace L2
open PySem PySem.Spec PyProof.Rows
abbrev zJ:=Sum Int Str
def vO:zJ->Value->Bool
 |.inl k,v=>Value.isInt k v
 |.inr x,v=>Value.isStrOf x v
def Pr(w:World):zJ->Int
 |.inl k=>hashInt k
 |.inr x=>hashStr w x
theorem uy:∀{k:zJ}{v:Value},vO k v=true->(∃i t,k=Sum.inl i/\v=Value.int i t)\/(∃x t,k=Sum.inr x/\v=Value.str x t)
 |.inl i,v,h=>by
  obtain⟨t,e⟩:=Value.isInt_shape (k:=i) (v:=v) h;exact .inl ⟨i,t,rfl,e⟩
 |.inr x,v,h=>by
  obtain⟨t,e⟩:=Value.isStrOf_shape (x:=x) (v:=v) h;exact .inr ⟨x,t,rfl,e⟩
theorem Ps(i:Int)(t:Tok):vO (.inl i) (.int i t)=true:=by simp[vO,Value.isInt]
theorem Pt(x:Str)(t:Tok):vO (.inr x) (.str x t)=true:=by simp[vO,Value.isStrOf]
theorem Pu(a b:Int):decide ((Sum.inl a:zJ)=Sum.inl b)=(a==b):=by
 by_cases e:a=b
 ·subst e; simp
 ·have h:¬ (Sum.inl a:zJ)=Sum.inl b:=λq=>e (pG q)
  rw[ye h];exact(gS.mpr e).symm
theorem Px(a b:Str):decide ((Sum.inr a:zJ)=Sum.inr b)=decide (a=b):=by
 by_cases e:a=b
 ·subst e; simp
 ·have h:¬ (Sum.inr a:zJ)=Sum.inr b:=λq=>e (Qw q)
  rw[ye h,ye e]
theorem Pv(a:Int)(b:Str):decide ((Sum.inl a:zJ)=Sum.inr b)=false:=ye (λq=>nomatch q)
theorem Pw(a:Str)(b:Int):decide ((Sum.inr a:zJ)=Sum.inl b)=false:=ye (λq=>nomatch q)
def yd(prog:Program)(w:World):PySem.KeyKind prog w zJ where
 is:=vO
 hash:=Pr w
 inj:=λv a b ha hb=>by
  rcases uy ha with⟨i,t,rfl,rfl⟩|⟨x,t,rfl,rfl⟩
  ·rcases uy hb with⟨j,u,rfl,e⟩|⟨y,u,rfl,e⟩
   ·injection e with e1 _; rw[e1]
   ·exact nomatch e
  ·rcases uy hb with⟨j,u,rfl,e⟩|⟨y,u,rfl,e⟩
   ·exact nomatch e
   ·injection e with e1 _; rw[e1]
 byValue:=λk v h=>by
  rcases uy h with⟨i,t,rfl,rfl⟩|⟨x,t,rfl,rfl⟩<;>rfl
 pyHash:=λhv h=>by
  rcases uy hv with⟨i,t,rfl,rfl⟩|⟨x,t,rfl,rfl⟩
  ·exact wpAny_pyHash_int h
  ·exact wpAny_pyHash_str h
 eqBool:=λhu hv h=>by
  rcases uy hu with⟨i,t,rfl,rfl⟩|⟨x,t,rfl,rfl⟩
  ·rcases uy hv with⟨j,u,rfl,rfl⟩|⟨y,u,rfl,rfl⟩
   ·rw[Pu]at h; exact wpAny_eqBool_int h
   ·rw[Pv]at h; exact SeqAt.EqAt.int_str i t y u _ _ _ _ h
  ·rcases uy hv with⟨j,u,rfl,rfl⟩|⟨y,u,rfl,rfl⟩
   ·rw[Pw]at h; exact SeqAt.EqAt.str_int x t j u _ _ _ _ h
   ·rw[Px]at h; exact wpAny_eqBool_str h
 «strs»:=λk x t v h=>by
  rcases uy h with⟨i,u,rfl,e⟩|⟨y,u,rfl,e⟩
  ·exact nomatch e
  ·injection e with e1 _
   subst e1;cases v<;>rfl
theorem RP(prog:Program)(w:World)(i:Int)(t:Tok):(yd prog w).is (.inl i) (.int i t)=true:=Ps i t
theorem OY(prog:Program)(w:World)(x:Str)(t:Tok):(yd prog w).is (.inr x) (.str x t)=true:=Pt x t
inductive V where
 |zE|bl (b:Bool)|int (i:Int)|str (x:Str)|byt (b:Array UInt8)|ZM (b:UInt64)|ref (a:Addr)|ty (n:String)
 deriving DecidableEq
def z_:V->Value->Prop
 |.zE,u=>u=Value.none
 |.bl b,u=>u=Value.bool b
 |.int i,u=>∃t,u=Value.int i t
 |.str x,u=>∃t,u=Value.str x t
 |.byt b,u=>∃t,u=Value.bytes b t
 |.ZM b,u=>∃t,u=Value.float b t
 |.ref a,u=>u=Value.ref a
 |.ty n,u=>u=Value.type n
abbrev zy:List V->List Value->Prop:=Paired z_
theorem zy.length{xs:List V}{us:List Value}(r:zy xs us):xs.length=us.length:=Paired.length r
theorem zy.get:∀{xs:List V}{us:List Value}{i:Nat}{x:V},zy xs us->xs[i]?=some x->∃u,us[i]?=some u/\z_ x u
 |_,_,_,_,.nil,e=>by simp at e
 |_,_,0,_,.cons r _,e=>by simp at e; subst e; exact⟨_,rfl,r⟩
 |_,_,i+1,x,.cons _ t,e=>by
  obtain⟨u,h1,h2⟩:=zy.get (i:=i) (x:=x) t (by simpa using e);exact⟨u,by simpa using h1,h2⟩
theorem zy.append:∀{xs ys:List V}{us ws:List Value},zy xs us->zy ys ws->zy (xs++ys) (us++ws)
 |_,_,_,_,.nil,s=>s
 |_,_,_,_,.cons r t,s=>.cons r (zy.append t s)
theorem zy.take:∀{xs:List V}{us:List Value}(n:Nat),zy xs us->zy (xs.take n) (us.take n)
 |_,_,0,_=>.nil
 |_,_,_+1,.nil=>.nil
 |_,_,n+1,.cons r t=>.cons r (zy.take n t)
theorem zy.drop:∀{xs:List V}{us:List Value}(n:Nat),zy xs us->zy (xs.drop n) (us.drop n)
 |_,_,0,r=>r
 |_,_,_+1,.nil=>.nil
 |_,_,n+1,.cons _ t=>zy.drop n t
def qN:Option V->Option Value->Prop
 |some v,some u=>z_ v u
 |none,none=>True
 |_,_=>False
def KV{κ:Type}:List (κ×V)->List (κ×Value)->Prop:=Paired λ(p:κ×V) (q:κ×Value)=>p.1=q.1/\z_ p.2 q.2
def kV:zJ->V
 |.inl i=>.int i
 |.inr x=>.str x
inductive HO where
  |lst (xs:List V)
  |tup (xs:List V)
  |dK (kvs:List (zJ×V))|dT (kvs:List (List zJ×V))
  |set (S:Int->Bool) (n:Nat)
  |ins (C dx:Addr) (fs:List (Str×V))
  |own (x:Addr)
  |xd (fs:List (Str×V))
  |met (f x:Addr)
  |rng (lo hi:Int)
  |zu (o:Obj) (u:HO)
  |tbl (ps:Array Value)
  |ext (φ:Heap->Prop)
abbrev Hp:=Addr->Option HO
def zX(H:Hp)(a:Addr)(o:HO):Hp:=λb=>if b=a then some o else H b
theorem yW{H:Hp}{a:Addr}{o:HO}:zX H a o a=some o:=by unfold zX; rw[zN rfl]
theorem zm{H:Hp}{a b:Addr}{o:HO}(h:b≠a):zX H a o b=H b:=by unfold zX; rw[zS h]
theorem Rk{H:Hp}{a b:Addr}{o u:HO}(h:H a=some o)(h':H b=some u)(d:o≠u):a≠b:=by
 intro e; subst e; rw[h]at h'; exact d (vV h')
theorem uB{H:Hp}{a b:Addr}{o:HO}(h:H a=some o)(h':H b=none):a≠b:=by
 intro e; subst e; rw[h]at h'; cases h'
section
variable(P:Program)(w:World)
def yl(H:Hp)(h:Heap)(a:Addr):HO->Prop
 |.lst xs=>xs.length<=sizeLine/\∃(its:List Value) (n:Nat),zy xs its/\h.get? a=some { cls:=.type "list",data:=.seq its.toArray n }
 |.tup xs=>xs.length<=sizeLine/\∃its:List Value,zy xs its/\IsTup h a its.toArray
 |.dK kvs=>kvs.length<=sizeLine/\(a==sysModules)=false/\∃vs,KV kvs vs/\h.DictOf (yd P w) a vs
 |.dT kvs=>kvs.length<=sizeLine/\(a==sysModules)=false/\∃xs:List (List zJ×Addr×Value),
   Paired (λ(p:List zJ×V) (q:List zJ×Addr×Value)=>p.1=q.1/\H q.2.1=some (.tup (p.1.map kV))/\z_ p.2 q.2.2) kvs xs/\
   ∃o es ep,h.get? a=some o/\o.ExactDict/\o.data=.dict es ep/\es.toList=xs.map (entryOfKey (tupleKind (yd P w)))/\(xs.map (·.1)).Nodup
 |.set S n=>h.SetOf (intKind P w) a S n
 |.ins C dx fs=>H dx=some (.own a)/\fs.length<=1000/\dx≠a/\h.get? a=some (W.instObj C dx)/\
   ∃mA,h.Ns1 dx mA/\(∀f,qN (fs.lookup f) (mA f))/\PySem.Within mA (fs.map (·.1))
 |.own _=>∃o,h.get? a=some o
 |.xd fs=>∃mA,h.Ns1 a mA/\∀f,qN (fs.lookup f) (mA f)
 |.rng lo hi=>∃t u v,h.get? a=some { cls:=.type "range",data:=.fields #[.int lo t,.int hi u,.int 1 v] }
 |.zu o u=>h.get? a=some o/\yl H h a u
 |.tbl ps=>h.get? a=some { cls:=.none,data:=.fields ps }
 |.met f x=>h.get? a=some (W.methodObj (.ref f) (.ref x))
 |.ext φ=>φ h/\(∃o,h.get? a=some o)/\∀h1 h2:Heap,φ h1->(∀o,h1.get? a=some o->h2.get? a=some o)->φ h2
def xN(H:Hp)(h:Heap):Prop:=∀a o,H a=some o->yl P w H h a o
end
section
variable{P:Program}{w:World}{H H':Hp}{h h':Heap}{a:Addr}{o:HO}
theorem yl.lt(x:yl P w H h a o):a<h.objs.size:=by
 cases o with
 |lst xs=>obtain⟨_,_,_,_,e⟩:=x; exact Heap.lt_size e
 |tup xs=>obtain⟨_,_,_,p⟩:=x; exact p.lt
 |dK kvs=>obtain⟨_,_,_,_,o,_,_,e,_⟩:=x; exact Heap.lt_size e
 |dT kvs=>obtain⟨_,_,_,_,o,_,_,e,_⟩:=x; exact Heap.lt_size e
 |set S n=>obtain⟨o,_,_,_,e,_⟩:=x; exact Heap.lt_size e
 |ins C dx fs=>obtain⟨_,_,_,e,_⟩:=x; exact Heap.lt_size e
 |own y=>obtain⟨_,e⟩:=x; exact Heap.lt_size e
 |xd fs=>obtain⟨_,⟨_,_,_,e,_⟩,_⟩:=x; exact Heap.lt_size e
 |rng lo hi=>obtain⟨_,_,_,e⟩:=x; exact Heap.lt_size e
 |zu ob u=>obtain⟨e,_⟩:=x; exact Heap.lt_size e
 |tbl ps=>exact Heap.lt_size (show h.get? a=some _ from x)
 |met f y=>exact Heap.lt_size (show h.get? a=some _ from x)
 |ext φ=>obtain⟨_,⟨_,e⟩,_⟩:=x; exact Heap.lt_size e
theorem Paired.JC{α β:Type}{F G:α->β->Prop}:∀{l₁:List α}{l₂:List β},Paired F l₁ l₂->(∀a b,F a b->G a b)->Paired G l₁ l₂
 |_,_,.nil,_=>.nil
 |_,_,.cons r t,f=>.cons (f _ _ r) (Paired.JC t f)
theorem yl.jH(x:yl P w H h a o)(k:∀b u,(b=a\/H b=some (.own a))->h.get? b=some u->h'.get? b=some u)
  (ho:∀b,H b=some (.own a)->H' b=some (.own a))(ht:∀b xs,H b=some (.tup xs)->H' b=some (.tup xs)):yl P w H' h' a o:=by
 induction o with
 |lst xs=>obtain⟨z,its,n,r,e⟩:=x; exact⟨z,its,n,r,k _ _ (.inl rfl) e⟩
 |tup xs=>obtain⟨z,its,r,ob,e,c⟩:=x; exact⟨z,its,r,ob,k _ _ (.inl rfl) e,c⟩
 |dK kvs=>obtain⟨z,y,vs,r,ob,es,ep,e,c⟩:=x; exact⟨z,y,vs,r,ob,es,ep,k _ _ (.inl rfl) e,c⟩
 |dT kvs=>
  obtain⟨z,y,xs,r,ob,es,ep,e,c⟩:=x;exact⟨z,y,xs,Paired.JC r λp q z=>⟨z.1,ht _ _ z.2.1,z.2.2⟩,ob,es,ep,k _ _ (.inl rfl) e,c⟩
 |set S n=>obtain⟨ob,es,ep,t,e,c⟩:=x; exact⟨ob,es,ep,t,k _ _ (.inl rfl) e,c⟩
 |ins C dx fs=>
  obtain⟨d,z,ne,e,mA,⟨od,es,ep,e2,c⟩,r⟩:=x;exact⟨ho _ d,z,ne,k _ _ (.inl rfl) e,mA,⟨od,es,ep,k _ _ (.inr d) e2,c⟩,r⟩
 |own y=>obtain⟨ob,e⟩:=x; exact⟨ob,k _ _ (.inl rfl) e⟩
 |xd fs=>obtain⟨mA,⟨od,es,ep,e,c⟩,r⟩:=x; exact⟨mA,⟨od,es,ep,k _ _ (.inl rfl) e,c⟩,r⟩
 |rng lo hi=>obtain⟨t,u,v,e⟩:=x; exact⟨t,u,v,k _ _ (.inl rfl) e⟩
 |zu ob u ih=>obtain⟨e,q⟩:=x; exact⟨k _ _ (.inl rfl) e,ih q⟩
 |tbl ps=>
  have e:h.get? a=some { cls:=.none,data:=.fields ps }:=x;show h'.get? a=some { cls:=.none,data:=.fields ps };exact k a _ (.inl rfl) e
 |met f y=>
  have e:h.get? a=some (W.methodObj (.ref f) (.ref y)):=x;show h'.get? a=some (W.methodObj (.ref f) (.ref y));exact k a _ (.inl rfl) e
 |ext φ=>obtain⟨p,⟨o,e⟩,st⟩:=x; exact⟨st _ _ p λo q=>k _ _ (.inl rfl) q,⟨o,k _ _ (.inl rfl) e⟩,st⟩
theorem xN.lt(x:xN P w H h)(e:H a=some o):a<h.objs.size:=(x a o e).lt
theorem xN.fresh(x:xN P w H h)(e:h.objs.size<=a):H a=none:=by
 cases q:H a with
 |none=>rfl
 |some u=>exact absurd (wE (x.lt q) e) (wJ _)
theorem xN.kept(x:xN P w H h)(k:∀b u,h.get? b=some u->h'.get? b=some u):xN P w H h':=λa o e=>
 (x a o e).jH (λb u _ q=>k b u q) (λ_ q=>q) λ_ _ q=>q
theorem xN.laid(x:xN P w H h)(k:∀b u,h.get? b=some u->h'.get? b=some u)(hp:h.objs.size<=a)(new:yl P w (zX H a o) h' a o):xN P w (zX H a o) h':=λb u e=>by
 have hn:=x.fresh hp;by_cases hb:b=a
 ·subst hb; rw[yW]at e; cases e; exact new
 ·rw[zm hb]at e;exact(x b u e).jH (λc v _ q=>k c v q) (λc q=>by rw[zm (uB q hn)]; exact q) λc xs q=>by rw[zm (uB q hn)]; exact q
end
def Rd(H:Hp)(a:Addr)(u:HO):Prop:=H a=some u\/∃o,H a=some (.zu o u)
theorem Rd.ok{P:Program}{w:World}{H:Hp}{h:Heap}{a:Addr}{u:HO}(r:Rd H a u)(x:xN P w H h):yl P w H h a u:=by
 rcases r with r|⟨o,r⟩
 ·exact x a u r
 ·obtain⟨_,q⟩:=x a _ r;exact q
def X5:Option HO->Prop
 |some (.lst _)=>True
 |some (.dK _)=>True
 |some (.dT _)=>True
 |some (.set _ _)=>True
 |some (.ins _ _ _)=>True
 |some (.ext _)=>True
 |_=>False
section
variable{P:Program}{w:World}{H:Hp}{h h':Heap}{x e:Addr}{o':HO}
theorem xN.write(ok:xN P w H h)(mu:X5 (H x))(he:e=x\/H e=some (.own x))(k:∀b u,b≠e->h.get? b=some u->h'.get? b=some u)(heo:∃u,h'.get? e=some u)
  (new:yl P w (zX H x o') h' x o'):xN P w (zX H x o') h':=λb u q=>by
 have nown:∀c y,H c=some (.own y)->c≠x:=λc y r z=>by subst z; rw[r]at mu; exact mu
 have ntup:∀c xs,H c=some (.tup xs)->c≠x:=λc xs r z=>by subst z; rw[r]at mu; exact mu
 by_cases hb:b=x
 ·subst hb; rw[yW]at q; cases q; exact new
 ·rw[zm hb]at q;by_cases hbe:b=e
  ·have q':H b=some (.own x):=by
    rcases he with z|z
    ·exact absurd (hbe.trans z) hb
    ·rw[hbe]; exact z
   rw[q]at q'; cases q';obtain⟨v,hv⟩:=heo;exact⟨v,by rw[hbe]; exact hv⟩
  ·refine(ok b u q).jH (λc v hc r=>k c v ?_ r) (λc r=>by rw[zm (nown c b r)]; exact r) λc xs r=>by rw[zm (ntup c xs r)]; exact r
   rcases hc with rfl|hc
   ·exact hbe
   ·rintro rfl;rcases he with z|z
    ·exact nown c b hc z
    ·rw[hc]at z; cases z; exact hb rfl
end
structure Un(fs ex:List Addr)(H H':Hp)(h h':Heap):Prop where
 keep:∀b o,h.get? b=some o->H b=none->b ∉ fs->b ∉ ex->h'.get? b=some o
 slot:∀b o,h.get? b=some o->H b=none->b∈fs->b ∉ ex->∃sl,h'.get? b=some { o with slots:=sl }
 free:∀b o,h.get? b=some o->H b=none->b ∉ ex->H' b=none
 there:∀b o,h.get? b=some o->b ∉ ex->∃o',h'.get? b=some o'
 vj:∀b xs,H b=some (.tup xs)->H' b=some (.tup xs)
 vW:∀b o u,H b=some (.zu o u)->H' b=some (.zu o u)
 uN:∀b ps,H b=some (.tbl ps)->∃more,H' b=some (.tbl (ps++more))
section
variable{fs fs' ex ex':List Addr}{H H1 H2:Hp}{h h1 h2 h':Heap}{a x e:Addr}{o:HO}
theorem Un.any(u:Un fs ex H H1 h h1){b:Addr}{ob:Obj}(q:h.get? b=some ob)(n:H b=none)(hx:b ∉ ex):∃sl,h1.get? b=some { ob with slots:=sl }:=by
 by_cases hb:b∈fs
 ·exact u.slot b ob q n hb hx
 ·exact⟨ob.slots,u.keep b ob q n hb hx⟩
theorem Un.kept(k:∀b u,h.get? b=some u->h'.get? b=some u):Un fs ex H H h h':=
 ⟨λb ob q _ _ _=>k b ob q,λb ob q _ _ _=>⟨ob.slots,k b ob q⟩,λ_ _ _ n _=>n,λb ob q _=>⟨ob,k b ob q⟩,λ_ _ q=>q,λ_ _ _ q=>q,λ_ ps q=>⟨#[],by rw[q]; simp⟩⟩
theorem Un.refl:Un fs ex H H h h:=Un.kept λ_ _ q=>q
theorem Un.laid(k:∀b u,h.get? b=some u->h'.get? b=some u)(hp:h.objs.size<=a)(hn:H a=none):Un fs ex H (zX H a o) h h' where
 keep:=λb u q _ _ _=>k b u q
 slot:=λb u q _ _ _=>⟨u.slots,k b u q⟩
 free:=λb u q n _=>by rw[zm (w6 (wE (Heap.lt_size q) hp))]; exact n
 there:=λb u q _=>⟨u,k b u q⟩
 vj:=λb xs q=>by rw[zm (uB q hn)]; exact q
 vW:=λb u xs q=>by rw[zm (uB q hn)]; exact q
 uN:=λb ps q=>⟨#[],by rw[zm (uB q hn),q]; simp⟩
theorem Un.write(mu:X5 (H x))(he:e=x\/H e=some (.own x))(k:∀b u,b≠e->h.get? b=some u->h'.get? b=some u)(heo:∃u,h'.get? e=some u):Un fs ex H (zX H x o) h h':=by
 have hx:∀b,H b=none->b≠x:=λb n z=>by subst z; rw[n]at mu; exact mu
 have hb:∀b,H b=none->b≠e:=λb n z=>by
  subst z;rcases he with r|r
  ·exact hx b n r
  ·rw[n]at r; cases r
 have hm:∀b u,H b=some u->¬ X5 (some u)->b≠x:=λb u q nm z=>by subst z; rw[q]at mu; exact nm mu
 refine⟨λb u q n _ _=>k b u (hb b n) q,λb u q n _ _=>⟨u.slots,k b u (hb b n) q⟩,λb u q n _=>by rw[zm (hx b n)]; exact n,λb u q _=>?_,
  λb xs q=>by rw[zm (hm b _ q λz=>z)]; exact q,λb u xs q=>by rw[zm (hm b _ q λz=>z)]; exact q,λb ps q=>⟨#[],by rw[zm (hm b _ q λz=>z),q]; simp⟩⟩
 by_cases hbe:b=e
 ·subst hbe; exact heo
 ·exact⟨u,k b u hbe q⟩
end
def QL(h:Heap)(H:Hp):List Addr:=(List.range h.objs.size).filter λa=>(H a).isSome
def pz(h:Heap)(H:Hp):Heap:=W.hideAll h (QL h H)
theorem Nz(h:Heap)(H:Hp):(pz h H).objs.size=h.objs.size:=W.hideAll_size _ _
theorem Ny{h:Heap}{H:Hp}{b:Addr}{o:Obj}(e:h.get? b=some o)(n:H b=none):(pz h H).get? b=some o:=
 W.hideAll_get _ e λhm=>by
  have q:(H b).isSome=true:=(qd.mp hm).2;rw[n]at q; simp at q
theorem Rz{h:Heap}{H:Hp}{b:Addr}{o:Obj}(e:(pz h H).get? b=some o):h.get? b=some o/\H b=none:=by
 have e':h.get? b=some o:=W.of_hideAll (QL h H) e;refine⟨e',?_⟩;cases q:H b with
 |none=>rfl
 |some x=>
  have hm:b∈QL h H:=qd.mpr ⟨vi.mpr (Heap.lt_size e'),by simp[q]⟩;have z:(pz h H).get? b=none:=W.hideAll_none (QL h H) hm;rw[z]at e; cases e
structure Mod(K:W.Frag)(mg:Str->Option Value)(base:Heap):Prop where
 JA:K.In base
 glob:base.Ns mainGlobals mg
 blt:∃mb,base.Ns builtinsNs mb/\∀x:Str,x ≠ "__name__" -> mb x=bootBuiltins x
 nolimit:base.NoLimit
structure Cx where
 prog:Program
 w:World
 K:W.Frag
 mg:Str->Option Value
 base:Heap
 A:Around
 N:List Str
 s₀:Shared
 H₀:Hp
 env:Env
 outer:List Env
 stack:List Env
 ex:List Addr
 fn:Str->Bool
 calm:Bool
 pn:List (Addr×Obj)
 xe:Value->Shared->Prop
def uw(l:List Env):List Addr:=l.filterMap (·.frame)
abbrev Cx.fs(X:Cx):List Addr:=uw X.outer
def ut(sc:Scope)(x:Str):Prop:=sc.names.lookup x=some .local\/sc.names.lookup x=some .cell\/sc.names.lookup x=some .free
def qk(sc:Scope)(x:Str):Prop:=sc.names.lookup x=some .local\/sc.names.lookup x=some .cell
def HV(env:Env)(h:Heap)(m:Str->Option Value)(x:Str)(u:Value):Prop:=
 (env.kindOf x=some .local/\m x=some u)\/((env.kindOf x=some .cell\/env.kindOf x=some .free)/\∃c,env.cells.lookup x=some c/\h.IsCell c (some u))
structure Cx.Ok(X:Cx):Prop where
 mod:Mod X.K X.mg X.base
 kind:X.env.scope.kind=.function
 glob:X.env.globals=mainGlobals
 blt:X.env.builtins=builtinsNs
 above:X.s₀.heap.objs.size<=X.env.locals
 inj:∀x y c,X.env.cells.lookup x=some c->X.env.cells.lookup y=some c->x=y
 has:∀x,(X.env.kindOf x=some .cell\/X.env.kindOf x=some .free)->∃c,X.env.cells.lookup x=some c
 ZK:∀x c,X.fn x=true->X.env.cells.lookup x=some c->X.s₀.heap.objs.size<=c
 hd:X.calm=true->X.A.handled=none
 frames:X.A.frames=some X.stack
 X0:X.stack=X.outer\/(X.stack=X.env::X.outer/\X.env.frame=some X.env.locals)
 Yw:∀b∈X.ex,b≠X.env.locals/\∀x c,X.env.cells.lookup x=some c->c≠b
 bs:∀b o,X.base.get? b=some o->X.s₀.heap.get? b=some o/\X.H₀ b=none
 pK:X.base.objs.size<=X.s₀.heap.objs.size
 ZO:∀b o,X.base.get? b=some o->b ∉ X.ex
 ZL:∀b∈X.ex,b ∉ X.fs
 tN:X.s₀.heap.FunFrames X.base X.outer
 gY:∀b∈X.fs,X.H₀ b=none
structure Inv(X:Cx)(z6:List (Addr×Obj))(σ:List (Option V))(H:Hp)(s:Shared):Prop where
 ok:X.Ok
 os:s.os=X.s₀.os
 bare:AllBare s.gens
 base:Un X.fs X.ex X.H₀ H X.s₀.heap s.heap
 loc:∃m,s.heap.Ns X.env.locals m/\∀(i:Nat)(x:Str)(v:V),X.N[i]?=some x->σ[i]?=some (some v)->ut X.env.scope x->∃u,z_ v u/\HV X.env s.heap m x u
 cell:∀x c,X.env.cells.lookup x=some c->∃v,s.heap.IsCell c v
 free:H X.env.locals=none
 uL:∀x c,X.env.cells.lookup x=some c->H c=none
 pin:∀p∈X.pn++z6,s.heap.get? p.1=some p.2/\H p.1=none/\p.1≠X.env.locals/\p.1 ∉ X.fs/\∀v,p.2.data≠.cell v
 za:xN X.prog X.w H s.heap
 len:σ.length=X.N.length
section
variable{X:Cx}{z6:List (Addr×Obj)}{σ:List (Option V)}{H H':Hp}{s:Shared}{h':Heap}
theorem Cx.Ok.HN(ok:X.Ok){b:Addr}{o:Obj}(e:X.base.get? b=some o):b ∉ X.fs:=λhb=>by
 have:=(ok.tN.mem hb).1;rw[e]at this; cases this
theorem Inv.bs(I:Inv X z6 σ H s):∀b o,X.base.get? b=some o->s.heap.get? b=some o/\H b=none:=λb o e=>
 ⟨I.base.keep b o (I.ok.bs b o e).1 (I.ok.bs b o e).2 (I.ok.HN e) (I.ok.ZO b o e),I.base.free b o (I.ok.bs b o e).1 (I.ok.bs b o e).2 (I.ok.ZO b o e)⟩
theorem Inv.bk(I:Inv X z6 σ H s):∀b o,X.base.get? b=some o->s.heap.get? b=some o:=λb o e=>(I.bs b o e).1
theorem Inv.mod(I:Inv X z6 σ H s):Mod X.K X.mg X.base:=I.ok.mod
theorem Inv.wF(I:Inv X z6 σ H s):X.K.In s.heap:=I.ok.mod.JA.keeps I.bk
theorem Inv.lt(I:Inv X z6 σ H s):X.env.locals<s.heap.objs.size:=let ⟨_,hn,_⟩:=I.loc; hn.lt
theorem Inv.sz(I:Inv X z6 σ H s):X.s₀.heap.objs.size<=s.heap.objs.size:=xv I.ok.above (jF I.lt)
theorem Inv.Mq(I:Inv X z6 σ H s){a:Addr}(h:s.heap.objs.size<=a):a ∉ X.fs:=λhb=>by
 obtain⟨_,o,ho,_⟩:=I.ok.tN.mem hb;exact absurd (wE (Heap.lt_size ho) (xv I.sz h)) (wJ _)
theorem Inv.gX(I:Inv X z6 σ H s):∀x c,X.env.cells.lookup x=some c->c≠X.env.locals:=λx c e z=>by
 obtain⟨v,o,ho,hd⟩:=I.cell x c e;obtain⟨m,⟨o',es,ep,ho',hd',_⟩,_⟩:=I.loc;rw[z,ho']at ho; cases ho; rw[hd']at hd; cases hd
theorem Inv.tN(I:Inv X z6 σ H s):s.heap.FunFrames X.base X.outer:=by
 have all:∀(l:List Env),(∀b∈uw l,b∈X.fs)->X.s₀.heap.FunFrames X.base l->s.heap.FunFrames X.base l:=by
  intro l
  induction l with
  |nil=>intro _ _; trivial
  |cons env r ih=>
   intro hs hl;obtain⟨hk,⟨L,o,hf,hn,ho,hd⟩,hr⟩:=hl;have hL:L∈X.fs:=hs L (by unfold uw; rw[ME,hf]; exact xV);obtain⟨sl,e⟩:=I.base.slot L o ho (I.ok.gY L hL) hL λz=>I.ok.ZL L z hL
   exact⟨hk,⟨L,_,hf,hn,e,hd⟩,ih (λb hb=>hs b (by unfold uw; rw[ME,hf]; exact wQ _ hb)) hr⟩
 exact all X.outer (λ_ hb=>hb) I.ok.tN
theorem Inv.stack(I:Inv X z6 σ H s):s.heap.FunFrames X.base X.stack:=by
 rcases I.ok.X0 with e|⟨e,hf⟩
 ·rw[e]; exact I.tN
 ·rw[e];obtain⟨m,hn,_⟩:=I.loc;refine .cons (by rw[I.ok.kind]; decide) hf hn ?_ I.tN;exact Heap.get?_none_of_le (xv I.ok.pK I.ok.above)
theorem Inv.X1(I:Inv X z6 σ H s):∀b∈uw X.stack,b∈X.env.locals::X.fs:=λb hb=>by
 rcases I.ok.X0 with e|⟨e,hf⟩
 ·rw[e]at hb; exact wQ _ hb
 ·rw[e]at hb;unfold uw at hb;rw[ME,hf]at hb;exact hb
theorem Inv.Mt(I:Inv X z6 σ H s):∀b∈uw X.stack,H b=none:=λb hb=>by
 rcases yT.mp (I.X1 b hb)with e|hb
 ·rw[e]; exact I.free
 ·obtain⟨_,o,ho,_⟩:=I.ok.tN.mem hb;exact I.base.free b o ho (I.ok.gY b hb) λz=>I.ok.ZL b z hb
theorem Inv.step{g':Array GenState}{t':Nat}{d':Drawn}{ch:List Addr}(I:Inv X z6 σ H s)
  (hch:∀b∈ch,(b∈X.ex\/X.s₀.heap.objs.size<=b)/\b≠X.env.locals/\(∀x c,X.env.cells.lookup x=some c->c≠b)/\∀p∈X.pn++z6,p.1≠b)
  (keep:∀b o,b≠X.env.locals->b ∉ X.fs->b ∉ ch->s.heap.get? b=some o->H b=none->h'.get? b=some o)
  (slot:∀b o,b≠X.env.locals->b∈X.fs->b ∉ ch->s.heap.get? b=some o->H b=none->∃sl,h'.get? b=some { o with slots:=sl })(free:∀b o,b ∉ ch->s.heap.get? b=some o->H b=none->H' b=none)
  (there:∀b o,b ∉ ch->s.heap.get? b=some o->∃o',h'.get? b=some o')
  (vj:∀b xs,H b=some (.tup xs)->H' b=some (.tup xs))(vW:∀b o u,H b=some (.zu o u)->H' b=some (.zu o u))(uN:∀b ps,H b=some (.tbl ps)->∃more,H' b=some (.tbl (ps++more)))
  (ns:∀m,s.heap.Ns X.env.locals m->h'.Ns X.env.locals m)(za:xN X.prog X.w H' h')(hg:AllBare g') :
  Inv X z6 σ H' { s with heap:=h',gens:=g',drawn:=d',toks:=t' }:=by
 have neL:∀b o,X.s₀.heap.get? b=some o->b≠X.env.locals:=λb o e=>w6 (wE (Heap.lt_size e) I.ok.above)
 have neC:∀b o,X.s₀.heap.get? b=some o->b ∉ X.ex->b ∉ ch:=λb o e hx hb=>by
  rcases(hch b hb).1 with z|z
  ·exact hx z
  ·exact absurd (wE (Heap.lt_size e) z) (wJ _)
 have cellK:∀x c,X.env.cells.lookup x=some c->∀v,s.heap.IsCell c v->h'.IsCell c v:=λx c e v ⟨o,ho,hd⟩=>by
  have nch:c ∉ ch:=λz=>(hch c z).2.2.1 x c e rfl
  by_cases hc:c∈X.fs
  ·obtain⟨sl,q⟩:=slot c o (I.gX x c e) hc nch ho (I.uL x c e);exact⟨_,q,hd⟩
  ·exact⟨o,keep c o (I.gX x c e) hc nch ho (I.uL x c e),hd⟩
 refine⟨I.ok,I.os,hg,⟨λb o e n hb hx=>?_,λb o e n hb hx=>?_,λb o e n hx=>?_,λb o e hx=>?_,λb xs e=>vj b xs (I.base.vj b xs e),λb o xs e=>vW b o xs (I.base.vW b o xs e),λb ps e=>?_⟩,?_,λx c e=>?_,?_,λx c e=>?_,λp hp=>?_,za,I.len⟩
 ·exact keep b o (neL b o e) hb (neC b o e hx) (I.base.keep b o e n hb hx) (I.base.free b o e n hx)
 ·obtain⟨sl,e1⟩:=I.base.slot b o e n hb hx;obtain⟨sl',e2⟩:=slot b _ (neL b o e) hb (neC b o e hx) e1 (I.base.free b o e n hx);exact⟨sl',e2⟩
 ·obtain⟨o',e1⟩:=I.base.there b o e hx;exact free b o' (neC b o e hx) e1 (I.base.free b o e n hx)
 ·obtain⟨o',e1⟩:=I.base.there b o e hx;exact there b o' (neC b o e hx) e1
 ·obtain⟨m1,e1⟩:=I.base.uN b ps e;obtain⟨m2,e2⟩:=uN b _ e1;exact⟨m1++m2,by rw[e2,Array.append_assoc]⟩
 ·obtain⟨m,hn,hl⟩:=I.loc;refine⟨m,ns m hn,λi x v e1 e2 e3=>?_⟩;obtain⟨u,r,l⟩:=hl i x v e1 e2 e3;refine⟨u,r,?_⟩;rcases l with l|⟨k,c,e,z⟩
  ·exact .inl l
  ·exact .inr ⟨k,c,e,cellK x c e _ z⟩
 ·obtain⟨v,z⟩:=I.cell x c e;exact⟨v,cellK x c e v z⟩
 ·obtain⟨m,⟨o,_,_,ho,_⟩,_⟩:=I.loc;exact free _ o (λz=>(hch _ z).2.1 rfl) ho I.free
 ·obtain⟨v,o,ho,hd⟩:=I.cell x c e;exact free c o (λz=>(hch c z).2.2.1 x c e rfl) ho (I.uL x c e)
 ·obtain⟨e,n,ne,nf,d⟩:=I.pin p hp;have nch:p.1 ∉ ch:=λz=>(hch p.1 z).2.2.2 p hp rfl
  exact⟨keep p.1 p.2 ne nf nch e n,free p.1 p.2 nch e n,ne,nf,d⟩
theorem Inv.un{t':Nat}(I:Inv X z6 σ H s)(u:Un X.fs [] H H' s.heap h')(za:xN X.prog X.w H' h'):Inv X z6 σ H' { s with heap:=h',toks:=t' }:=by
 obtain⟨m,⟨o,es,ep,ho,r⟩,_⟩:=id I.loc;obtain⟨sl,hL⟩:=u.any ho I.free (by simp)
 exact I.step (g':=s.gens) (d':=s.drawn) (ch:=[]) (λ_ z=>nomatch z) (λb o _ hb _ e n=>u.keep b o e n hb (by simp)) (λb o _ hb _ e n=>u.slot b o e n hb (by simp)) (λb o _ e n=>u.free b o e n (by simp)) (λb o _ e=>u.there b o e (by simp)) u.vj u.vW u.uN (λm' hm=>by
  obtain⟨o',es',ep',ho',r'⟩:=hm;rw[ho]at ho'; cases ho';exact⟨_,es',ep',hL,r'⟩) za I.bare
theorem Inv.call{g':Array GenState}{t':Nat}{d':Drawn}{ch:List Addr}(I:Inv X z6 σ H s)(u:Un (uw X.stack) ch H H' s.heap h')(za:xN X.prog X.w H' h')(hg:AllBare g')
  (hch:∀b∈ch,(b∈X.ex\/X.s₀.heap.objs.size<=b)/\b≠X.env.locals/\(∀x c,X.env.cells.lookup x=some c->c≠b)/\∀p∈X.pn++z6,p.1≠b) :
  Inv X z6 σ H' { s with heap:=h',gens:=g',drawn:=d',toks:=t' }:=by
 obtain⟨m,⟨o,es,ep,ho,r⟩,_⟩:=id I.loc;obtain⟨sl,hL⟩:=u.any ho I.free λz=>(hch _ z).2.1 rfl
 exact I.step (ch:=ch) hch (λb o hL hb hc e n=>u.keep b o e n (λz=>(yT.mp (I.X1 b z)).elim hL hb) hc) (λb o _ _ hc e n=>u.any e n hc) (λb o hc e n=>u.free b o e n hc) (λb o hc e=>u.there b o e hc) u.vj u.vW u.uN (λm' hm=>by
  obtain⟨o',es',ep',ho',r'⟩:=hm;rw[ho]at ho'; cases ho';exact⟨_,es',ep',hL,r'⟩) za hg
theorem Inv.turned{t':Nat}{it:Addr}(I:Inv X z6 σ H s)(k:∀b o,b≠it->s.heap.get? b=some o->h'.get? b=some o)(hn:H it=none)(hL:it≠X.env.locals)
  (h1:it∈X.ex\/X.s₀.heap.objs.size<=it)(h2:∀x c,X.env.cells.lookup x=some c->c≠it)(h3:∀p∈X.pn++z6,p.1≠it):Inv X z6 σ H { s with heap:=h',toks:=t' }:=by
 have nit:∀b u,H b=some u->b≠it:=λb u e z=>by rw[z,hn]at e; cases e
 refine I.step (g':=s.gens) (d':=s.drawn) (ch:=[it]) (λb hb=>?_) (λb o _ _ hc e _=>k b o (λz=>hc (by simp[z])) e) (λb o _ _ hc e _=>⟨o.slots,k b o (λz=>hc (by simp[z])) e⟩) (λ_ _ _ _ n=>n)
  (λb o hc e=>⟨o,k b o (λz=>hc (by simp[z])) e⟩) (λ_ _ e=>e) (λ_ _ _ e=>e) (λb ps e=>⟨#[],by rw[e]; simp⟩) (λm hm=>?_) (λb u e=>?_) I.bare
 ·have e:b=it:=by simpa using hb
  subst e;exact⟨h1,hL,h2,h3⟩
 ·obtain⟨o,es,ep,ho,r⟩:=hm;exact⟨o,es,ep,k _ o (qE hL) ho,r⟩
 ·refine(I.za b u e).jH (λc v hc q=>k c v ?_ q) (λ_ q=>q) λ_ _ q=>q
  rcases hc with z|z
  ·rw[z]; exact nit b u e
  ·exact nit c _ z
theorem Inv.tok(I:Inv X z6 σ H s)(t:Nat):Inv X z6 σ H { s with toks:=t }:=I.un (h':=s.heap) (t':=t) Un.refl I.za
theorem Inv.kept{t':Nat}(I:Inv X z6 σ H s)(k:∀b u,s.heap.get? b=some u->h'.get? b=some u):Inv X z6 σ H { s with heap:=h',toks:=t' }:=I.un (Un.kept k) (I.za.kept k)
theorem Inv.laid{a:Addr}{o:HO}{t':Nat}(I:Inv X z6 σ H s)(k:∀b u,s.heap.get? b=some u->h'.get? b=some u)(hp:s.heap.objs.size<=a)(new:yl X.prog X.w (zX H a o) h' a o) :
  Inv X z6 σ (zX H a o) { s with heap:=h',toks:=t' }:=I.un (Un.laid k hp (I.za.fresh hp)) (I.za.laid k hp new)
theorem Inv.write{x e:Addr}{o:HO}{t':Nat}(I:Inv X z6 σ H s)(mu:X5 (H x))(he:e=x\/H e=some (.own x))(k:∀b u,b≠e->s.heap.get? b=some u->h'.get? b=some u)(heo:∃u,h'.get? e=some u)
  (new:yl X.prog X.w (zX H x o) h' x o):Inv X z6 σ (zX H x o) { s with heap:=h',toks:=t' }:=I.un (Un.write mu he k heo) (I.za.write mu he k heo new)
theorem Inv.weak{σ':List (Option V)}(I:Inv X z6 σ H s)(hl:σ'.length=σ.length)(w:∀(i:Nat) v,σ'[i]?=some (some v)->σ[i]?=some (some v)):Inv X z6 σ' H s:=
 ⟨I.ok,I.os,I.bare,I.base,let ⟨m,hn,hl'⟩:=I.loc; ⟨m,hn,λi x v e1 e2 e3=>hl' i x v e1 (w i v e2) e3⟩,I.cell,I.free,I.uL,I.pin,I.za,hl.trans I.len⟩
theorem Inv.Y_{pins':List (Addr×Obj)}(I:Inv X z6 σ H s)(h:∀p∈pins',s.heap.get? p.1=some p.2/\H p.1=none/\p.1≠X.env.locals/\p.1 ∉ X.fs/\∀v,p.2.data≠.cell v):Inv X pins' σ H s:=
 ⟨I.ok,I.os,I.bare,I.base,I.loc,I.cell,I.free,I.uL,λp hp=>(uI.mp hp).elim (λz=>I.pin p (MK _ z)) (h p),I.za,I.len⟩
theorem FY{N:List Str}(hN:N.Nodup){i j:Nat}{x:Str}(a:N[i]?=some x)(b:N[j]?=some x):i=j:=by
 obtain⟨h1,e1⟩:=xE.mp a;obtain⟨h2,e2⟩:=xE.mp b;exact(List.getElem_inj hN).mp (e1.trans e2.symm)
theorem Ey{M:Model}{A:Around}{E:Value->Shared->Prop}{i:Nat}{x:Str}{v:V}{u:Value}{Q:Unit->Shared->Prop}(I:Inv X z6 σ H s)(hN:X.N.Nodup)(hi:X.N[i]?=some x)(hx:qk X.env.scope x)(r:z_ v u)
  (h:∀s',Inv X z6 (σ.set i (some v)) H s'->(∃a,Heap.SameBut a s.heap s'.heap/\(a=X.env.locals\/X.env.cells.lookup x=some a))->Q () s')(hf:X.fn x=true\/X.env.scope.names.lookup x=some .local:=by first|exact .inl rfl|exact .inr rfl|assumption):wpAny M A (storeName X.env x u) Q E s:=by
 obtain⟨m,hn,hl⟩:=id I.loc;have hcls:(X.env.scope.kind == .class||(X.env.scope.kind == .module&&X.env.locals != X.env.globals))=false:=by rw[I.ok.kind]; rfl
 have hiσ:i<σ.length:=by rw[I.len]; exact(xE.mp hi).1
 have gX:=I.gX
 have tracked:∀{a:Addr}{h':Heap},(∃o,s.heap.get? a=some o/\H a=none)->Heap.SameBut a s.heap h'->xN X.prog X.w H h':=λ{a h'} ha hs b ob e=>by
  obtain⟨_,_,hfree⟩:=ha;refine(I.za b ob e).jH (λc w' hc q=>(hs.2 c ?_).trans q) (λ_ q=>q) λ_ _ q=>q
  rintro rfl;rcases hc with rfl|hc
  ·rw[hfree]at e; cases e
  ·rw[hfree]at hc; cases hc
 rcases hx with hk|hk
 ·refine wpAny_storeName_local hk hn (λh' hn' hs=>?_) hcls;obtain⟨oL,_,_,hoL,_⟩:=id hn;refine h _ ⟨I.ok,I.os,I.bare,⟨λb o e n hb hx=>?_,λb o e n hb hx=>?_,I.base.free,λb o e hx=>?_,I.base.vj,I.base.vW,I.base.uN⟩,⟨_,hn',λj y v' e1 e2 e3=>?_⟩,λy c e=>?_,I.free,I.uL,λp hp=>?_,tracked ⟨oL,hoL,I.free⟩ hs,by simpa using I.len⟩ ⟨_,hs,.inl rfl⟩
  ·exact(hs.2 b (w6 (wE (Heap.lt_size e) I.ok.above))).trans (I.base.keep b o e n hb hx)
  ·obtain⟨sl,e1⟩:=I.base.slot b o e n hb hx;exact⟨sl,(hs.2 b (w6 (wE (Heap.lt_size e) I.ok.above))).trans e1⟩
  ·obtain⟨o',e1⟩:=I.base.there b o e hx;exact⟨o',(hs.2 b (w6 (wE (Heap.lt_size e) I.ok.above))).trans e1⟩
  ·by_cases hj:j=i
   ·subst hj;rw[hi]at e1; cases e1;rw[Gs hiσ]at e2;cases e2;exact⟨u,r,.inl ⟨hk,by simp⟩⟩
   ·rw[Gq (qE hj)]at e2;obtain⟨u',r',q⟩:=hl j y v' e1 e2 e3;refine⟨u',r',?_⟩;rcases q with⟨k,e⟩|⟨k,c,e,z⟩
    ·refine .inl ⟨k,?_⟩;have:y≠x:=λe=>hj (FY hN e1 (e▸hi))
     simp[this,e]
    ·exact .inr ⟨k,c,e,z.sameBut hs (gX y c e)⟩
  ·obtain⟨w',z⟩:=I.cell y c e;exact⟨w',z.sameBut hs (gX y c e)⟩
  ·obtain⟨e,n,ne,nf,d⟩:=I.pin p hp;exact⟨(hs.2 p.1 ne).trans e,n,ne,nf,d⟩
 ·have hfn:X.fn x=true:=by
   rcases hf with z|z
   ·exact z
   ·rw[z]at hk; cases hk
  obtain⟨c,hc⟩:=I.ok.has x (.inl hk);obtain⟨w',z⟩:=I.cell x c hc;refine wpAny_storeName_cell I.ok.kind hk hc z (λh' hc' hs=>?_);obtain⟨oc,hoc,hocd⟩:=id z;refine h { s with heap:=h' } ⟨I.ok,I.os,I.bare,⟨λb o e n hb hx=>?_,λb o e n hb hx=>?_,I.base.free,λb o e hx=>?_,I.base.vj,I.base.vW,I.base.uN⟩,⟨m,hn.sameBut hs (qE (gX x c hc)),λj y v' e1 e2 e3=>?_⟩,λy c' e=>?_,I.free,I.uL,λp hp=>?_,tracked ⟨oc,hoc,I.uL x c hc⟩ hs,by simpa using I.len⟩ ⟨c,hs,.inr hc⟩
  ·exact(hs.2 b (w6 (wE (Heap.lt_size e) (I.ok.ZK x c hfn hc)))).trans (I.base.keep b o e n hb hx)
  ·obtain⟨sl,e1⟩:=I.base.slot b o e n hb hx;exact⟨sl,(hs.2 b (w6 (wE (Heap.lt_size e) (I.ok.ZK x c hfn hc)))).trans e1⟩
  ·obtain⟨o',e1⟩:=I.base.there b o e hx;exact⟨o',(hs.2 b (w6 (wE (Heap.lt_size e) (I.ok.ZK x c hfn hc)))).trans e1⟩
  ·by_cases hj:j=i
   ·subst hj;rw[hi]at e1; cases e1;rw[Gs hiσ]at e2;cases e2;exact⟨u,r,.inr ⟨.inl hk,c,hc,hc'⟩⟩
   ·rw[Gq (qE hj)]at e2;obtain⟨u',r',q⟩:=hl j y v' e1 e2 e3;refine⟨u',r',?_⟩;rcases q with q|⟨k,c',e,z'⟩
    ·exact .inl q
    ·refine .inr ⟨k,c',e,z'.sameBut hs ?_⟩;rintro rfl;exact hj (FY hN e1 (I.ok.inj _ _ _ e hc▸hi))
  ·by_cases hcc:c'=c
   ·subst hcc; exact⟨_,hc'⟩
   ·obtain⟨w2,z2⟩:=I.cell y c' e;exact⟨w2,z2.sameBut hs hcc⟩
  ·obtain⟨e,n,ne,nf,d⟩:=I.pin p hp;refine⟨(hs.2 p.1 ?_).trans e,n,ne,nf,d⟩;intro q;rw[q,hoc]at e;have q':oc=p.2:=vV e;exact d w' (by rw[<-q']; exact hocd)
theorem LY{M:Model}{A:Around}{E:Value->Shared->Prop}{i:Nat}{x:Str}{v:V}{u:Value}{Q:Unit->Shared->Prop}(I:Inv X z6 σ H s)(hN:X.N.Nodup)(hi:X.N[i]?=some x)(hx:qk X.env.scope x)(r:z_ v u)
  (h:∀s',Inv X z6 (σ.set i (some v)) H s'->Q () s')(hf:X.fn x=true\/X.env.scope.names.lookup x=some .local:=by first|exact .inl rfl|exact .inr rfl|assumption):wpAny M A (storeName X.env x u) Q E s:=
 Ey I hN hi hx r (λs' I' _=>h s' I') hf
theorem Inv.J7{s':Shared}{ch:List Addr}(I:Inv X z6 σ H s)(ho:s'.os=s.os)(u:Un (uw X.stack) ch H H' s.heap s'.heap)(za:xN X.prog X.w H' s'.heap)(hg:AllBare s'.gens)
  (hch:∀b∈ch,(b∈X.ex\/X.s₀.heap.objs.size<=b)/\b≠X.env.locals/\(∀x c,X.env.cells.lookup x=some c->c≠b)/\∀p∈X.pn++z6,p.1≠b):Inv X z6 σ H' s':=by
 obtain⟨h',g',d',t',o'⟩:=s';have e:o'=s.os:=ho;subst e;exact I.call (g':=g') (t':=t') (d':=d') u za hg hch
end
abbrev XK:=Value->Option Addr->Hp->Prop
abbrev St:=List (Option V)
abbrev VK:=V->Hp->Prop
abbrev TE:=St->Hp->VK->Prop
abbrev TT:=St->Hp->(Bool->Hp->Prop)->Prop
abbrev TA:=St->Hp->(List V->Hp->Prop)->Prop
structure uO where
 nx:St->Hp->Prop
 rt:VK
 bk:St->Hp->Prop:=λ_ _=>False
 ct:St->Hp->Prop:=λ_ _=>False
abbrev TS:=uO->St->Hp->Prop
def EP(X:Cx)(z6:List (Addr×Obj))(σ:St)(Q:VK)(u:Value)(s':Shared):Prop:=∃v H',Inv X z6 σ H' s'/\z_ v u/\Q v H'
def TP(X:Cx)(z6:List (Addr×Obj))(σ:St)(Q:Bool->Hp->Prop)(b:Bool)(s':Shared):Prop:=∃H',Inv X z6 σ H' s'/\Q b H'
def AP(X:Cx)(z6:List (Addr×Obj))(σ:St)(Q:List V->Hp->Prop)(us:List Value)(s':Shared):Prop:=∃vs H',Inv X z6 σ H' s'/\zy vs us/\Q vs H'
def SP(X:Cx)(z6:List (Addr×Obj))(D:uO)(f:Flow)(s':Shared):Prop:=
 match f with
 |.next=>∃σ' H',Inv X z6 σ' H' s'/\D.nx σ' H'
 |.brk=>∃σ' H',Inv X z6 σ' H' s'/\D.bk σ' H'
 |.cont=>∃σ' H',Inv X z6 σ' H' s'/\D.ct σ' H'
 |.ret u=>∃v σ' H',Inv X z6 σ' H' s'/\z_ v u/\D.rt v H'
def PE(X:Cx)(e:Expr)(t:TE):Prop:=
 ∀(z6:List (Addr×Obj)) (s:Shared) (σ:St) (H:Hp) (Q:VK),Inv X z6 σ H s->t σ H Q->wpAny (model X.prog X.w) X.A (eval e X.env) (EP X z6 σ Q) X.xe s
def PT(X:Cx)(e:Expr)(t:TT):Prop:=
 ∀(z6:List (Addr×Obj)) (s:Shared) (σ:St) (H:Hp) (Q:Bool->Hp->Prop),Inv X z6 σ H s->t σ H Q->wpAny (model X.prog X.w) X.A (isTrue e X.env (eval e X.env)) (TP X z6 σ Q) X.xe s
def PW(X:Cx)(e:Expr)(t:TT):Prop:=
 ∀(whole:Sem Value)(z6:List (Addr×Obj)) (s:Shared) (σ:St) (H:Hp) (Q:Bool->Hp->Prop),Inv X z6 σ H s->t σ H Q->wpAny (model X.prog X.w) X.A (isTrue e X.env whole) (TP X z6 σ Q) X.xe s
theorem PW.pt{X:Cx}{e:Expr}{t:TT}(h:PW X e t):PT X e t:=h _
def PA(X:Cx)(es:List Expr)(t:TA):Prop:=
 ∀(pos:Pos)(z6:List (Addr×Obj)) (s:Shared) (σ:St) (H:Hp) (Q:List V->Hp->Prop),Inv X z6 σ H s->t σ H Q->wpAny (model X.prog X.w) X.A (spliced (backTo pos (starEach es X.env))) (AP X z6 σ Q) X.xe s
def PS(X:Cx)(st:Stmt)(t:TS):Prop:=
 ∀(z6:List (Addr×Obj)) (s:Shared) (σ:St) (H:Hp) (D:uO),Inv X z6 σ H s->t D σ H->wpAny (model X.prog X.w) X.A (exec st X.env) (SP X z6 D) X.xe s
def vk(X:Cx)(st:List Stmt)(t:TS):Prop:=
 ∀(z6:List (Addr×Obj)) (s:Shared) (σ:St) (H:Hp) (D:uO),Inv X z6 σ H s->t D σ H->wpAny (model X.prog X.w) X.A (execs st X.env) (SP X z6 D) X.xe s
theorem zi{α:Type}{t:Sem α}{Q Q':α->Shared->Prop}{M:Model}{A:Around}{E:Value->Shared->Prop}{s:Shared}(h:wpAny M A t Q E s)(hQ:∀a s,Q a s->Q' a s):wpAny M A t Q' E s:=v_ h hQ λ_ _ x=>x
section
variable{X:Cx}
def Z2(i:Nat):TE:=λσ H Q=>∃v,σ[i]?=some (some v)/\Q v H
def tC(v:V):TE:=λ_ H Q=>Q v H
theorem kU{i:Nat}{x:Str}{pos:Pos}(hN:X.N[i]?=some x)(hv:ut X.env.scope x)(hd:(x==("__debug__" : Str))=false:=by decide)(hcd:(x==("__classdict__" : Str))=false:=by decide):PE X (.Name x pos) (Z2 i):=by
 intro z6 s σ H Q I h;obtain⟨v,e,h⟩:=h;obtain⟨m,hn,hl⟩:=I.loc;obtain⟨u,r,l⟩:=hl i x v hN e hv;have fin:EP X z6 σ Q u s:=⟨v,H,I,r,h⟩;rcases l with⟨hk,hm⟩|⟨hk,c,hc,hcell⟩
 ·exact wpAny_Name (wpAny_loadName_local I.ok.kind hk hn hm fin) hd
 ·rcases hk with hk|hk
  ·exact wpAny_Name (wpAny_loadName_cell I.ok.kind hk hc hcell fin) hd
  ·exact wpAny_Name (wpAny_loadName_free I.ok.kind hk hc hcell fin hcd) hd
theorem Ca{i j pos}:PE X (.Constant (.int i) j pos) (tC (.int i)):=λ_ _ _ H _ I h=>wpAny_Constant_int ⟨.int i,H,I.tok _,⟨_,rfl⟩,h⟩
theorem AZ{b j pos}:PE X (.Constant (.bool b) j pos) (tC (.bl b)):=λ_ _ _ H _ I h=>Constant_bool ⟨.bl b,H,I,rfl,h⟩
theorem An{j pos}:PE X (.Constant .none j pos) (tC .zE):=λ_ _ _ H _ I h=>Constant_none ⟨.zE,H,I,rfl,h⟩
theorem As{x j pos}:PE X (.Constant (.str x) j pos) (tC (.str x)):=λ_ _ _ H _ I h=>Calls.Constant_str ⟨.str x,H,I.tok _,⟨_,rfl⟩,h⟩
def Gl(X:Cx)(x:Str):Prop:=X.env.kindOf x=some .globalImplicit
theorem Dm{E:Value->Shared->Prop}{z6:List (Addr×Obj)}{s:Shared}{σ:St}{H:Hp}{x:Str}{u:Value}{pos:Pos}{Q:Value->Shared->Prop}(I:Inv X z6 σ H s)(hg:Gl X x)(hm:X.mg x=some u)(h:Q u s)
  (hd:(x==("__debug__" : Str))=false:=by decide):wpAny (model X.prog X.w) X.A (eval (.Name x pos) X.env) Q E s:=
 Gg I.ok.kind hg (Calls.loadGlobal_global (by rw[I.ok.glob]; exact I.mod.glob.keeps I.bk) hm h) hd
theorem jo{E:Value->Shared->Prop}{z6:List (Addr×Obj)}{s:Shared}{σ:St}{H:Hp}{x:Str}{u:Value}{pos:Pos}{Q:Value->Shared->Prop}(I:Inv X z6 σ H s)(hg:Gl X x)(hm:X.mg x=none)(hv:bootBuiltins x=some u)(h:Q u s)
  (hn:x ≠ "__name__" := by decide)(hd:(x==("__debug__" : Str))=false:=by decide):wpAny (model X.prog X.w) X.A (eval (.Name x pos) X.env) Q E s:=by
 obtain⟨mb,h1,h2⟩:=I.mod.blt;exact Gg I.ok.kind hg (Calls.loadGlobal_builtin (by rw[I.ok.glob]; exact I.mod.glob.keeps I.bk) hm (by rw[I.ok.blt]; exact h1.keeps I.bk) ((h2 x hn).trans hv) h) hd
theorem Aj{x:Str}{v:V}{u:Value}{pos:Pos}(hg:Gl X x)(hm:X.mg x=some u)(r:z_ v u)(hd:(x==("__debug__" : Str))=false:=by decide):PE X (.Name x pos) (tC v):=
 λ_ _ _ H _ I h=>Dm I hg hm ⟨v,H,I,r,h⟩ hd
theorem Aa{x:Str}{v:V}{u:Value}{pos:Pos}(hg:Gl X x)(hm:X.mg x=none)(hv:bootBuiltins x=some u)(r:z_ v u)(hn:x ≠ "__name__" := by decide)(hd:(x==("__debug__" : Str))=false:=by decide):PE X (.Name x pos) (tC v):=
 λ_ _ _ H _ I h=>jo I hg hm hv ⟨v,H,I,r,h⟩ hn hd
variable{a b:Expr}{ta tb:TE}{pos:Pos}
def tB(t:TE):TT:=λσ H Q=>t σ H λx H1=>∃c,x=.bl c/\Q c H1
theorem a_{e:Expr}{t:TE}(h:PE X e t)(he:∀whole,isTrue e X.env whole=(do let v <-whole; standAt e.pos; holding [v] (truthy v)):=by intro _; rfl):PT X e (tB t):=by
 intro z6 s σ H Q I hw;refine isTrue_plain (zi (h z6 s σ H _ I hw) λv s1 ⟨x,H1,I1,r1,q1⟩=>?_) (he _);obtain⟨d,rfl,q⟩:=q1;cases r1;exact ZJ ⟨H1,I1,q⟩
variable{tA tB':TT}{rest:List Expr}
def fT(t u:TT):TT:=λσ H Q=>t σ H λc H1=>if c=true then u σ H1 Q else Q false H1
def hJ(t u:TT):TT:=λσ H Q=>t σ H λc H1=>if c=true then Q true H1 else u σ H1 Q
def hG(t:TT):TT:=λσ H Q=>t σ H λc H1=>Q (!c) H1
theorem bB(ha:PT X a tA):PW X (.BoolOp .And [a] pos) tA:=by
 intro wh z6 s σ H Q I h;refine isTrue_and (zi (ha z6 s σ H Q I h) λc s1 e=>?_);cases c with
 |true=>exact isTrue_and_nil e
 |false=>exact e
theorem bD(ha:PT X a tA):PW X (.BoolOp .Or [a] pos) tA:=by
 intro wh z6 s σ H Q I h;refine isTrue_or (zi (ha z6 s σ H Q I h) λc s1 e=>?_);cases c with
 |false=>exact isTrue_or_nil e
 |true=>exact e
theorem bA(ha:PT X a tA)(hb:PW X (.BoolOp .And (b::rest) pos) tB'):PW X (.BoolOp .And (a::b::rest) pos) (fT tA tB'):=by
 intro wh z6 s σ H Q I h;refine isTrue_and (zi (ha z6 s σ H _ I h) λc s1 ⟨H1,I1,q1⟩=>?_);cases c with
 |true=>exact hb wh z6 s1 σ H1 Q I1 q1
 |false=>exact⟨H1,I1,q1⟩
theorem bC(ha:PT X a tA)(hb:PW X (.BoolOp .Or (b::rest) pos) tB'):PW X (.BoolOp .Or (a::b::rest) pos) (hJ tA tB'):=by
 intro wh z6 s σ H Q I h;refine isTrue_or (zi (ha z6 s σ H _ I h) λc s1 ⟨H1,I1,q1⟩=>?_);cases c with
 |true=>exact⟨H1,I1,q1⟩
 |false=>exact hb wh z6 s1 σ H1 Q I1 q1
theorem az(ha:PT X a tA):PT X (.UnaryOp .Not a pos) (hG tA):=by
 intro z6 s σ H Q I h;exact isTrue_not (ha z6 s σ H (λc H1=>Q (!c) H1) I h)
def fU(ta tb:TE):TE:=λσ H Q=>ta σ H λx H1=>∃c,x=.bl c/\if c=true then tb σ H1 Q else Q (.bl false) H1
def hU(ta tb:TE):TE:=λσ H Q=>ta σ H λx H1=>∃c,x=.bl c/\if c=true then Q (.bl true) H1 else tb σ H1 Q
theorem Ao{op}{t:TE}(h:PE X a t):PE X (.BoolOp op [a] pos) t:=λz6 s σ H Q I hw=>BoolOp_one (h z6 s σ H Q I hw)
theorem AY(ha:PE X a ta)(hb:PE X (.BoolOp .And (b::rest) pos) tb):PE X (.BoolOp .And (a::b::rest) pos) (fU ta tb):=by
 intro z6 s σ H Q I h;refine BoolOp_and (zi (ha z6 s σ H _ I h) λv s1 ⟨x,H1,I1,r1,q1⟩=>?_);obtain⟨c,rfl,q1⟩:=q1;cases r1;refine ZJ ?_;cases c with
 |true=>exact hb z6 s1 σ H1 Q I1 q1
 |false=>exact⟨.bl false,H1,I1,rfl,q1⟩
theorem Aq(ha:PE X a ta)(hb:PE X (.BoolOp .Or (b::rest) pos) tb):PE X (.BoolOp .Or (a::b::rest) pos) (hU ta tb):=by
 intro z6 s σ H Q I h;refine BoolOp_or (zi (ha z6 s σ H _ I h) λv s1 ⟨x,H1,I1,r1,q1⟩=>?_);obtain⟨c,rfl,q1⟩:=q1;cases r1;refine ZJ ?_;cases c with
 |false=>exact hb z6 s1 σ H1 Q I1 q1
 |true=>exact⟨.bl true,H1,I1,rfl,q1⟩
def ff(t:TT)(ta tb:TE):TE:=λσ H Q=>t σ H λc H1=>if c=true then ta σ H1 Q else tb σ H1 Q
theorem Ak{c:Expr}(hc:PT X c tA)(ha:PE X a ta)(hb:PE X b tb):PE X (.IfExp c a b pos) (ff tA ta tb):=by
 intro z6 s σ H Q I h;refine wpAny_IfExp (zi (hc z6 s σ H _ I h) λd s1 ⟨H1,I1,q1⟩=>?_);cases d with
 |true=>exact ha z6 s1 σ H1 Q I1 q1
 |false=>exact hb z6 s1 σ H1 Q I1 q1
end
def yL(K:W.Frag)(H:Hp)(a:Addr)(xs:List V):Prop:=
 Rd H a (.lst xs) \/
  ∃(o:Obj) (its:Array Value) (n:Nat),K.lookup a=some o/\o.cls=.type "list" /\ o.dict=none/\o.data=.seq its n/\its.size<=sizeLine/\zy xs its.toList
def yu(K:W.Frag)(H:Hp)(a:Addr)(xs:List V):Prop:=
 Rd H a (.tup xs) \/
  ∃(o:Obj) (its:Array Value) (n:Nat),K.lookup a=some o/\o.cls=.type "tuple" /\ o.data=.seq its n/\its.size<=sizeLine/\zy xs its.toList
def HZ:Value->Option V
 |.none=>some .zE
 |.bool b=>some (.bl b)
 |.int i _=>some (.int i)
 |.str x _=>some (.str x)
 |.bytes b _=>some (.byt b)
 |.float b _=>some (.ZM b)
 |.ref a=>some (.ref a)
 |.type n=>some (.ty n)
 |_=>none
theorem z_.abs{x:V}{u:Value}(r:z_ x u):HZ u=some x:=by
 cases x with
 |zE=>cases r; rfl
 |bl _=>cases r; rfl
 |int _=>obtain⟨t,rfl⟩:=r; rfl
 |str _=>obtain⟨t,rfl⟩:=r; rfl
 |byt _=>obtain⟨t,rfl⟩:=r; rfl
 |ZM _=>obtain⟨t,rfl⟩:=r; rfl
 |ref _=>cases r; rfl
 |ty _=>cases r; rfl
theorem z_.inj{x y:V}{u:Value}(r:z_ x u)(q:z_ y u):x=y:=vV (r.abs.symm.trans q.abs)
theorem zy.inj:∀{xs ys:List V}{us:List Value},zy xs us->zy ys us->xs=ys
 |_,_,_,.nil,.nil=>rfl
 |_,_,_,.cons r t,.cons r' t'=>by rw[r.inj r',zy.inj t t']
section
variable{X:Cx}{z6:List (Addr×Obj)}{σ:St}{H:Hp}{s:Shared}{a:Addr}{xs ys:List V}
theorem yL.of{K:W.Frag}(h:H a=some (.lst xs)):yL K H a xs:=.inl (.inl h)
theorem yu.of{K:W.Frag}(h:H a=some (.tup xs)):yu K H a xs:=.inl (.inl h)
theorem Inv.list(I:Inv X z6 σ H s)(h:yL X.K H a xs):∃its:List Value,zy xs its/\PlainL s.heap a its.toArray/\xs.length<=sizeLine:=by
 rcases h with h|⟨o,its,n,hk,hc,hd,hs,hz,r⟩
 ·obtain⟨z,its,n,r,e⟩:=h.ok I.za;exact⟨its,r,⟨_,n,e,rfl,rfl,rfl⟩,z⟩
 ·refine⟨its.toList,r,⟨o,n,I.wF a o hk,hc,hd,by simpa using hs⟩,?_⟩;have e:=r.length;simp only[wj]at e;omega
theorem Inv.tuple(I:Inv X z6 σ H s)(h:yu X.K H a xs):∃its:List Value,zy xs its/\IsTup s.heap a its.toArray/\xs.length<=sizeLine:=by
 rcases h with h|⟨o,its,n,hk,hc,hs,hz,r⟩
 ·obtain⟨z,its,r,p⟩:=h.ok I.za;exact⟨its,r,p,z⟩
 ·refine⟨its.toList,r,⟨o,I.wF a o hk,hc,n,by simpa using hs⟩,?_⟩;have e:=r.length;simp only[wj]at e;omega
theorem Inv.Vd(I:Inv X z6 σ H s)(h:yL X.K H a xs)(h':yL X.K H a ys):xs=ys:=by
 obtain⟨its,r,⟨o,n,e,_,_,d⟩,_⟩:=I.list h;obtain⟨its',r',⟨o',n',e',_,_,d'⟩,_⟩:=I.list h';rw[e]at e'; cases e';rw[d]at d';injection d' with d1 _
 have:its=its':=by simpa using congrArg Array.toList d1
 subst this;exact r.inj r'
theorem Inv.JG(I:Inv X z6 σ H s)(h:yu X.K H a xs)(h':yu X.K H a ys):xs=ys:=by
 obtain⟨its,r,⟨o,e,_,n,d⟩,_⟩:=I.tuple h;obtain⟨its',r',⟨o',e',_,n',d'⟩,_⟩:=I.tuple h';rw[e]at e'; cases e';rw[d]at d';injection d' with d1 _
 have:its=its':=by simpa using congrArg Array.toList d1
 subst this;exact r.inj r'
end
abbrev Cx.qf(X:Cx)(E:Value->Shared->Prop):Cx:={ X with xe:=E }
abbrev Cx.gZ(X:Cx):Cx:=X.qf λ_ _=>False
theorem Cx.Ok.qf{X:Cx}(ok:X.Ok)(E:Value->Shared->Prop):(X.qf E).Ok:=
 ⟨ok.mod,ok.kind,ok.glob,ok.blt,ok.above,ok.inj,ok.has,ok.ZK,ok.hd,ok.frames,ok.X0,ok.Yw,ok.bs,ok.pK,ok.ZO,ok.ZL,ok.tN,ok.gY⟩
theorem Cx.Ok.jI{X:Cx}{E:Value->Shared->Prop}(ok:(X.qf E).Ok):X.Ok:=
 ⟨ok.mod,ok.kind,ok.glob,ok.blt,ok.above,ok.inj,ok.has,ok.ZK,ok.hd,ok.frames,ok.X0,ok.Yw,ok.bs,ok.pK,ok.ZO,ok.ZL,ok.tN,ok.gY⟩
section
variable{X:Cx}{z6:List (Addr×Obj)}{σ:St}{H:Hp}{s:Shared}{E:Value->Shared->Prop}
theorem Inv.qf(I:Inv X z6 σ H s)(E:Value->Shared->Prop):Inv (X.qf E) z6 σ H s:=⟨I.ok.qf E,I.os,I.bare,I.base,I.loc,I.cell,I.free,I.uL,I.pin,I.za,I.len⟩
theorem Inv.jI(I:Inv (X.qf E) z6 σ H s):Inv X z6 σ H s:=⟨I.ok.jI,I.os,I.bare,I.base,I.loc,I.cell,I.free,I.uL,I.pin,I.za,I.len⟩
theorem SP.jI{D:uO}{f:Flow}{s':Shared}(h:SP (X.qf E) z6 D f s'):SP X z6 D f s':=by
 cases f with
 |next=>obtain⟨σ',H',I,q⟩:=h; exact⟨σ',H',I.jI,q⟩
 |brk=>obtain⟨σ',H',I,q⟩:=h; exact⟨σ',H',I.jI,q⟩
 |cont=>obtain⟨σ',H',I,q⟩:=h; exact⟨σ',H',I.jI,q⟩
 |ret u=>obtain⟨v,σ',H',I,r,q⟩:=h; exact⟨v,σ',H',I.jI,r,q⟩
theorem vk.gZ{st:List Stmt}{t:TS}(h:vk X.gZ st t):vk X st t:=λz6 s σ H D I hw=>
 v_ (h z6 s σ H D (I.qf _) hw) (λ_ _ q=>q.jI) λ_ _ z=>False.elim z
end
section
variable{X:Cx}{st:Stmt}{rest:List Stmt}{t u:TS}{e:Expr}{te:TE}{pos:Pos}
def h8:TS:=λD σ H=>D.nx σ H
def i4(t u:TS):TS:=λD σ H=>t { D with nx:=u D } σ H
theorem au:vk X [] h8:=λ_ _ σ H _ I h=>J1 ⟨σ,H,I,h⟩
theorem aq(h1:PS X st t)(h2:vk X rest u):vk X (st::rest) (i4 t u):=by
 intro z6 s σ H D I h;refine wpAny_execs_cons (zi (h1 z6 s σ H { D with nx:=u D } I h) λf s1 q=>?_);cases f with
 |next=>
  obtain⟨σ',H',I',q⟩:=q;exact h2 z6 s1 σ' H' D I' q
 |ret v=>exact q
 |brk=>exact q
 |cont=>exact q
theorem av(h1:PS X st t):vk X [st] t:=by
 intro z6 s σ H D I h;refine wpAny_execs_cons (zi (h1 z6 s σ H D I h) λf s1 q=>?_);cases f with
 |next=>exact J1 q
 |ret v=>exact q
 |brk=>exact q
 |cont=>exact q
theorem Inv.quiet{z6:List (Addr×Obj)}{σ:St}{H:Hp}{s:Shared}(I:Inv X z6 σ H s):interactive X.env=false:=by simp[interactive,I.ok.kind]
def G9(te:TE):TS:=λD σ H=>te σ H λ_ H1=>D.nx σ H1
theorem ah(he:PE X e te)(hs:swapsWith e none pos.line X.env=pure false:=by rfl):PS X (.Expr e pos) (G9 te):=by
 intro z6 s σ H D I h;exact wpAny_Expr_any (zi (he z6 s σ H _ I h) λv s1 ⟨x,H1,I1,r1,q1⟩=>⟨σ,H1,I1,q1⟩) I.quiet hs
def hX(te:TE):TS:=λD σ H=>te σ H D.rt
theorem Oy(he:PE X e te):PS X (.Return (some e) pos) (hX te):=by
 intro z6 s σ H D I h;exact wpAny_Return_some (zi (he z6 s σ H _ I h) λv s1 ⟨x,H1,I1,r1,q1⟩=>⟨x,σ,H1,I1,r1,q1⟩)
def fj(c:TT)(t u:TS):TS:=λD σ H=>c σ H λb H1=>if b=true then t D σ H1 else u D σ H1
theorem aj{c:Expr}{a b:List Stmt}{tc:TT}(hc:PT X c tc)(ha:vk X a t)(hb:vk X b u):PS X (.If c a b pos) (fj tc t u):=by
 intro z6 s σ H D I h;refine wpAny_If (zi (hc z6 s σ H _ I h) λd s1 ⟨H1,I1,q1⟩=>?_);cases d with
 |true=>exact ha z6 s1 σ H1 D I1 q1
 |false=>exact hb z6 s1 σ H1 D I1 q1
def h7:TS:=λ_ _ _=>False
theorem ar{sts:List Stmt}:vk X sts h7:=λ_ _ _ _ _ _ h=>h.elim
end
abbrev TG:=V->St->Hp->(St->Hp->Prop)->Prop
abbrev qm:=List V->St->Hp->(St->Hp->Prop)->Prop
def PG(X:Cx)(target:Expr)(t:TG):Prop:=
 ∀(z6:List (Addr×Obj)) (s:Shared) (σ:St) (H:Hp) (v:V) (u:Value) (Q:St->Hp->Prop),Inv X z6 σ H s->z_ v u->t v σ H Q->
  wpAny (model X.prog X.w) X.A (assign target X.env u) (λ_ s'=>∃σ' H',Inv X z6 σ' H' s'/\Q σ' H') X.xe s
def X7(X:Cx)(ts:List Expr)(t:qm):Prop:=
 ∀(z6:List (Addr×Obj)) (s:Shared) (σ:St) (H:Hp) (vs:List V) (us:List Value) (Q:St->Hp->Prop),Inv X z6 σ H s->zy vs us->t vs σ H Q->
  wpAny (model X.prog X.w) X.A (assignInOrder ((assignEach ts X.env).map (·.2)) us) (λ_ s'=>∃σ' H',Inv X z6 σ' H' s'/\Q σ' H') X.xe s
abbrev XA:=V->V->Hp->VK->Prop
def JV(X:Cx)(op:Operator)(t:XA):Prop:=
 ∀(z6:List (Addr×Obj)) (s:Shared) (σ:St) (H:Hp) (x y:V) (v u:Value) (Q:VK),Inv X z6 σ H s->z_ x v->z_ y u->t x y H Q->
  wpAny (model X.prog X.w) X.A (inplaceOp op v u) (EP X z6 σ Q) X.xe s
section
variable{X:Cx}{pos:Pos}
def ux(i:Nat):TG:=λv σ H Q=>Q (σ.set i (some v)) H
theorem Ax{i:Nat}{x:Str}(hN:X.N.Nodup)(hi:X.N[i]?=some x)(hx:qk X.env.scope x)(hf:X.fn x=true\/X.env.scope.names.lookup x=some .local:=by first|exact .inl rfl|exact .inr rfl|assumption):PG X (.Name x pos) (ux i):=by
 intro z6 s σ H v u Q I r h;exact wpAny_assign_Name (LY I hN hi hx r (λs' I'=>⟨_,H,I',h⟩) hf)
def XQ:qm:=λvs σ H Q=>vs=[]/\Q σ H
def jj(t:TG)(u:qm):qm:=λvs σ H Q=>∃v r,vs=v::r/\t v σ H λσ' H'=>u r σ' H' Q
theorem A_:X7 X [] XQ:=by
 intro z6 s σ H vs us Q I r h;obtain⟨e,h⟩:=h;subst e;cases r;exact assignInOrder_nil ⟨σ,H,I,h⟩
theorem Az{e:Expr}{es:List Expr}{t:TG}{u:qm}(h1:PG X e t)(h2:X7 X es u)
  (hs:(assignEach (e::es) X.env).map (·.2)=assign e X.env::(assignEach es X.env).map (·.2):=by rfl):X7 X (e::es) (jj t u):=by
 intro z6 s σ H vs us Q I r h;obtain⟨v,vr,e1,h⟩:=h;subst e1;cases r with
 |cons r rr=>
  rw[hs];refine assignInOrder_cons (zi (h1 z6 s σ H _ _ _ I r h) λ_ s1 ⟨σ1,H1,I1,q1⟩=>?_);exact h2 z6 s1 σ1 H1 _ _ Q I1 rr q1
def XR(K:W.Frag)(n:Nat)(t:qm):TG:=λv σ H Q=>∃a xs,v=.ref a/\yu K H a xs/\xs.length=n/\t xs σ H Q
theorem Ay{es:List Expr}{k:Nat}{t:qm}{n:Nat}(hc:X.calm=true)(h:X7 X es t)
  (hn:(assignEach es X.env).length=n:=by rfl)(hst:(assignEach es X.env).findIdx? (·.1)=none:=by rfl):PG X (.Tuple es k pos) (XR X.K n t):=by
 intro z6 s σ H v u Q I r hw;obtain⟨a,xs,e1,hq,hl,hw⟩:=hw;subst e1;cases r;obtain⟨its,rv,ht,hz⟩:=I.tuple hq;refine assign_Tuple_tuple (I.ok.hd hc) ht (by simp[hn,<-hl,rv.length]) hst λh' hx=>?_
 have I1:Inv X z6 σ H { s with heap:=h' }:=I.kept (t':=s.toks) λb o e=>hx b o (w6 (Heap.lt_size e)) e
 exact h z6 _ σ H xs _ Q I1 (by simpa using rv) hw
def La(te:TE)(g:TG):TS:=λD σ H=>te σ H λx H1=>g x σ H1 D.nx
theorem ac{tg e:Expr}{te:TE}{g:TG}(he:PE X e te)(hg:PG X tg g)(hs:swapsWithSole [tg] e pos.line X.env=pure false:=by rfl)(hw:swappedStores [tg] e X.env=pure none:=by rfl)
  (h1:(assignEach [tg] X.env).map (·.2)=[assign tg X.env]:=by rfl):PS X (.Assign [tg] e pos) (La te g):=by
 intro z6 s σ H D I h;refine wpAny_Assign_stores (zi (he z6 s σ H _ I h) λv s1 ⟨x,H1,I1,r1,q1⟩=>?_) hs hw;rw[h1];exact zi (hg z6 s1 σ H1 x v _ I1 r1 q1) λ_ s2 q=>q
theorem am{i:Nat}{x:Str}{e:Expr}{te:TE}{pos':Pos}(hN:X.N.Nodup)(hi:X.N[i]?=some x)(hx:qk X.env.scope x)(he:PE X e te)(hs:swapsWith e (some (.Name x pos')) pos.line X.env=pure false:=by rfl)(hf:X.fn x=true\/X.env.scope.names.lookup x=some .local:=by first|exact .inl rfl|exact .inr rfl|assumption) :
  PS X (.Assign [.Name x pos'] e pos) (La te (ux i)):=by
 intro z6 s σ H D I h;refine wpAny_Assign_Name (zi (he z6 s σ H _ I h) λv s1 ⟨y,H1,I1,r1,q1⟩=>?_) hs;exact LY I1 hN hi hx r1 (λs2 I2=>⟨_,H1,I2,q1⟩) hf
def fV(i:Nat)(te:TE)(ti:XA):TS:=λD σ H=>∃x,σ[i]?=some (some x)/\te σ H λy H1=>ti x y H1 λz H2=>D.nx (σ.set i (some z)) H2
theorem af{i:Nat}{x:Str}{e:Expr}{te:TE}{op:Operator}{ti:XA}{pos':Pos}(hN:X.N.Nodup)(hi:X.N[i]?=some x)(hx:qk X.env.scope x)(he:PE X e te)(ho:JV X op ti)(hf:X.fn x=true\/X.env.scope.names.lookup x=some .local:=by first|exact .inl rfl|exact .inr rfl|assumption) :
  PS X (.AugAssign (.Name x pos') op e pos) (fV i te ti):=by
 intro z6 s σ H D I h;obtain⟨v,e1,h⟩:=h;obtain⟨m,hn,hl⟩:=I.loc;have vis:ut X.env.scope x:=by rcases hx with k|k; exact .inl k; exact .inr (.inl k)
 obtain⟨u,r,l⟩:=hl i x v hi e1 vis;refine wpAny_AugAssign_Name ?_
 have go:wpAny (model X.prog X.w) X.A (eval e X.env) (λw s₂=>wpAny (model X.prog X.w) X.A (inplaceOp op u w) (λr s₃=>wpAny (model X.prog X.w) X.A (storeName X.env x r) (λ_=>SP X z6 D .next) X.xe s₃) X.xe s₂) X.xe s:=by
  refine zi (he z6 s σ H _ I h) λw s1 ⟨y,H1,I1,r1,q1⟩=>?_
  refine zi (ho z6 s1 σ H1 v y u w _ I1 r r1 q1) λz s2 ⟨zv,H2,I2,r2,q2⟩=>?_
  exact LY I2 hN hi hx r2 (λs3 I3=>⟨_,H2,I3,q2⟩) hf
 rcases l with⟨hk,hm⟩|⟨hk,c,hc,hcell⟩
 ·exact wpAny_loadName_local I.ok.kind hk hn hm go
 ·rcases hk with hk|hk
  ·exact wpAny_loadName_cell I.ok.kind hk hc hcell go
  ·rcases hx with k|k
   ·have:X.env.scope.names.lookup x=some .free:=hk;rw[k]at this; cases this
   ·have:X.env.scope.names.lookup x=some .free:=hk;rw[k]at this; cases this
def DW(f:Int->Int->Int):XA:=λx y H Q=>∃i j,x=.int i/\y=.int j/\Q (.int (f i j)) H
theorem TU:JV X .Add (DW λi j=>i+j):=by
 intro z6 s σ H x y v u Q I r1 r2 h;obtain⟨i,j,e1,e2,q⟩:=h;subst e1; subst e2;obtain⟨t,rfl⟩:=r1;obtain⟨t',rfl⟩:=r2;exact iadd_int ⟨.int _,H,I.tok _,⟨_,rfl⟩,q⟩
end
section
variable{X:Cx}{pos:Pos}
def i9(c:TT)(tb:TS):TS:=λD σ H=>∃W:Nat->St->Hp->Prop,(∃m,W m σ H)/\∀m σ H,W m σ H->
 c σ H λb H1=>if b=true then ∃N:St->Hp->Prop,(∀σ' H',N σ' H'->∃m',m'<m/\W m' σ' H')/\tb { D with nx:=N,ct:=N,bk:=D.nx } σ H1 else D.nx σ H1
theorem ao{c:Expr}{body:List Stmt}{tc:TT}{tb:TS}(hp:PassesOwn (model X.prog X.w) X.A X.env X.xe)(hc:PT X c tc)(hb:vk X body tb):PS X (.While c body [] pos) (i9 tc tb):=by
 intro z6 s σ H D I h;obtain⟨W,⟨m0,w0⟩,turn⟩:=h;refine wpAny_While (codeAny_whileLoop (λn s'=>∃σ' H',Inv X z6 σ' H' s'/\W n σ' H') ?_ m0 ⟨σ,H,I,w0⟩);rintro n s1 ⟨σ1,H1,I1,w1⟩;refine ZI hp (zi (hc z6 s1 σ1 H1 _ I1 (turn n σ1 H1 w1)) λb s2 ⟨H2,I2,q2⟩=>?_);cases b with
 |true=>
  obtain⟨N,hN,q2⟩:=q2;rw[zN rfl];refine ZI hp (zi (hb z6 s2 σ1 H2 _ I2 q2) λf s3 q3=>?_);cases f with
  |next=>
   obtain⟨σ3,H3,I3,n3⟩:=q3;obtain⟨m',hm,w3⟩:=hN σ3 H3 n3;exact⟨m',hm,σ3,H3,I3,w3⟩
  |cont=>
   obtain⟨σ3,H3,I3,n3⟩:=q3;obtain⟨m',hm,w3⟩:=hN σ3 H3 n3;exact⟨m',hm,σ3,H3,I3,w3⟩
  |brk=>exact q3
  |ret v=>exact q3
 |false=>
  rw[zS yz];exact J1 ⟨σ1,H2,I2,q2⟩
end
structure It where
 go:Nat->Hp->Prop
 vC:Nat->Hp->V->Hp->Prop
 stop:Nat->Hp->Prop
def tS(X:Cx)(z6:List (Addr×Obj))(H:Hp)(b:Addr):Prop:=
 H b=none/\b≠X.env.locals/\b ∉ X.fs/\(b∈X.ex\/X.s₀.heap.objs.size<=b)/\(∀x c,X.env.cells.lookup x=some c->c≠b)/\∀p∈X.pn++z6,p.1≠b
theorem Inv.qe{X:Cx}{z6:List (Addr×Obj)}{σ:St}{H H':Hp}{s:Shared}{b:Addr}(I:Inv X z6 σ H s)(hb:s.heap.objs.size<=b)(hn:H' b=none):tS X z6 H' b:=by
 refine⟨hn,uJ (wE I.lt hb),I.Mq hb,.inr (xv I.sz hb),λx c e z=>?_,λp hp z=>?_⟩
 ·obtain⟨v,q⟩:=I.cell x c e;exact absurd (wE q.lt (by rw[z]; exact hb)) (wJ _)
 ·exact absurd (wE (Heap.lt_size (I.pin p hp).1) (by rw[z]; exact hb)) (wJ _)
structure tT(P:Program)(w:World)(K:W.Frag)(tg:Expr)(J:It)(fp:List Addr)(it:Addr)(tn:Nat->Heap->Prop):Prop where
 mem:it∈fp
 obj:∀i h,tn i h->∀b∈fp,∃o,h.get? b=some o/\∀v,o.data≠.cell v
 keep:∀i h h',tn i h->(∀b∈fp,∀o,h.get? b=some o->h'.get? b=some o)->tn i h'
 item:∀(X:Cx),X.prog=P->X.w=w->X.K=K->X.calm=true->∀(i:Nat)(z6:List (Addr×Obj)) (s:Shared) (σ:St) (H:Hp) (E:Value->Shared->Prop),Inv X z6 σ H s->(∀b∈fp,tS X z6 H b)->tn i s.heap->J.go i H->
  wpAny (model P w) X.A (pyNext (.ref it)) (λr s1=>∃u,r=some u/\
   wpAny (model P w) X.A (letOwnedTupleGo tg (.ref it) u) (λ_ s2=>∃x H',Inv X z6 σ H' s2/\z_ x u/\J.vC i H x H'/\tn (i+1) s2.heap/\∀b∈fp,H' b=none) E s1) E s
 done:∀(X:Cx),X.prog=P->X.w=w->X.K=K->X.calm=true->∀(i:Nat)(z6:List (Addr×Obj)) (s:Shared) (σ:St) (H:Hp) (E:Value->Shared->Prop),Inv X z6 σ H s->(∀b∈fp,tS X z6 H b)->tn i s.heap->J.stop i H->
  wpAny (model P w) X.A (pyNext (.ref it)) (λr s1=>r=none/\Inv X z6 σ H s1) E s
 self:∀(A:Around)(i:Nat)(s:Shared)(Q:Value->Shared->Prop)(E:Value->Shared->Prop),tn i s.heap->Q (.ref it) s->wpAny (model P w) A (pyIter (.ref it)) Q E s
abbrev TI:=St->Hp->(It->Hp->Prop)->Prop
def JU(X:Cx)(z6:List (Addr×Obj))(σ:St)(tg:Expr)(R:It->Hp->Prop)(itv:Value)(s2:Shared):Prop:=
 ∃(it:Addr) (fp:List Addr) (tn:Nat->Heap->Prop) (J:It) (H':Hp),itv=.ref it/\Inv X z6 σ H' s2/\tT X.prog X.w X.K tg J fp it tn/\tn 0 s2.heap/\(∀b∈fp,tS X z6 H' b)/\R J H'
def PI(X:Cx)(tg iter:Expr)(wi:TI):Prop:=
 ∀(z6:List (Addr×Obj)) (s:Shared) (σ:St) (H:Hp) (R:It->Hp->Prop),Inv X z6 σ H s->wi σ H R->
  wpAny (model X.prog X.w) X.A (eval iter X.env) (λv s1=>wpAny (model X.prog X.w) X.A (pyIter v) (JU X z6 σ tg R) X.xe s1) X.xe s
theorem Zx{M:Model}{A:Around}{E:Value→Shared→Prop}{s:Shared}{tg:Expr}{it:Addr}{u:Value}{o:Obj}{n:String}{vs:Array Value}{Q:Unit→Shared→Prop}(ho:s.heap.get? it=some o)(hc:o.cls=.type n)(hd:o.data=.fields vs)
    (hn:["enumerate", "zip", "dict_itemiterator", "dict_reverseitemiterator", "odict_iterator", "itertools.zip_longest", "itertools.pairwise"].contains n=false)(hQ:Q () s):wpAny M A (letOwnedTupleGo tg (.ref it) u) Q E s:=by
  unfold letOwnedTupleGo
  cases tg<;>first
    |exact zO hQ
    | (cases u<;>first
        |exact zO hQ
        | (refine zC (wpAny_load ho ?_)
           rw[hc,hd];show wpAny M A (if(["enumerate", "zip", "dict_itemiterator", "dict_reverseitemiterator", "odict_iterator", "itertools.zip_longest", "itertools.pairwise"].contains n&&vs[0]?==some (rawInt _))=true then _ else _) Q E s;rw[zS (by intro h; rw[hn,gI]at h; cases h)];exact zO hQ))
def JO(K:W.Frag)(a:Addr):It:=
 ⟨λi H=>∃xs x,yL K H a xs/\xs[i]?=some x,λi H x H'=>H'=H/\∀xs,yL K H a xs->xs[i]?=some x,λi H=>∃xs,yL K H a xs/\xs.length<=i⟩
def JQ(K:W.Frag)(a:Addr):It:=
 ⟨λi H=>∃xs x,yu K H a xs/\xs[i]?=some x,λi H x H'=>H'=H/\∀xs,yu K H a xs->xs[i]?=some x,λi H=>∃xs,yu K H a xs/\xs.length<=i⟩
def U7(lo:Int)(n:Nat):It:=⟨λi _=>i<n,λi H x H'=>H'=H/\x=.int (lo+i),λi _=>n<=i⟩
theorem m9{P:Program}{w:World}{K:W.Frag}{tg:Expr}(a it:Addr):tT P w K tg (JO K a) [it] it (λi h=>h.IsListIter it a i) where
 mem:=by simp
 obj:=λi h st b hb=>by
  have e:b=it:=by simpa using hb
  subst e;obtain⟨o,e,c,d⟩:=st;exact⟨o,e,λv z=>by rw[d]at z; cases z⟩
 keep:=λi h h' st k=>st.at λo e=>k it (by simp) o e
 item:=by
  intro X hP hw hK hc i z6 s σ H E I hf st hg;subst hP hw hK;obtain⟨xs,x,hq,hx⟩:=hg;obtain⟨its,rv,p,hz⟩:=I.list hq;obtain⟨u,hu,ru⟩:=rv.get hx;obtain⟨f0,f1,f2,f3,f4,f5⟩:=hf it (by simp);refine Ml st p.isList (x:=u) (by simpa using hu) λh' st' sb=>?_
  have I1:Inv X z6 σ H { s with heap:=h' }:=I.turned (t':=s.toks) (λb o hb e=>(sb.2 b hb).trans e) f0 f1 f3 f4 f5;obtain⟨o,e,c,d⟩:=id st';exact⟨u,rfl,Zx (s:={ s with heap:=h' }) e c d (by decide) ⟨x,H,I1,ru,⟨rfl,λys hy=>by rw[I.Vd hy hq]; exact hx⟩,st',λb hb=>(hf b hb).1⟩⟩
 done:=by
  intro X hP hw hK hc i z6 s σ H E I hf st hg;subst hP hw hK;obtain⟨xs,hq,hx⟩:=hg;obtain⟨its,rv,p,hz⟩:=I.list hq;obtain⟨f0,f1,f2,f3,f4,f5⟩:=hf it (by simp);have hl:=rv.length;exact Mk (I.ok.hd hc) st p.isList (by simp; omega) λh' eb=>⟨rfl,I.turned (t':=s.toks) (λb o hb e=>eb b o hb e) f0 f1 f3 f4 f5⟩
 self:=λ_ _ _ _ _ st h=>wpAny_pyIter_listiter st h
theorem mD{P:Program}{w:World}{K:W.Frag}{tg:Expr}(a it:Addr):tT P w K tg (JQ K a) [it] it (λi h=>h.IsTupleIter it a i) where
 mem:=by simp
 obj:=λi h st b hb=>by
  have e:b=it:=by simpa using hb
  subst e;obtain⟨o,e,c,d⟩:=st;exact⟨o,e,λv z=>by rw[d]at z; cases z⟩
 keep:=λi h h' st k=>st.at λo e=>k it (by simp) o e
 item:=by
  intro X hP hw hK hc i z6 s σ H E I hf st hg;subst hP hw hK;obtain⟨xs,x,hq,hx⟩:=hg;obtain⟨its,rv,p,hz⟩:=I.tuple hq;obtain⟨u,hu,ru⟩:=rv.get hx;obtain⟨f0,f1,f2,f3,f4,f5⟩:=hf it (by simp);refine wpAny_pyNext_tuple_item st (show s.heap.IsTuple a its.toArray from p) (x:=u) (by simpa using hu) λh' st' sb=>?_
  have I1:Inv X z6 σ H { s with heap:=h' }:=I.turned (t':=s.toks) (λb o hb e=>(sb.2 b hb).trans e) f0 f1 f3 f4 f5;obtain⟨o,e,c,d⟩:=id st';exact⟨u,rfl,Zx (s:={ s with heap:=h' }) e c d (by decide) ⟨x,H,I1,ru,⟨rfl,λys hy=>by rw[I.JG hy hq]; exact hx⟩,st',λb hb=>(hf b hb).1⟩⟩
 done:=by
  intro X hP hw hK hc i z6 s σ H E I hf st hg;subst hP hw hK;obtain⟨xs,hq,hx⟩:=hg;obtain⟨its,rv,p,hz⟩:=I.tuple hq;obtain⟨f0,f1,f2,f3,f4,f5⟩:=hf it (by simp);have hl:=rv.length;exact wpAny_pyNext_tuple_end (I.ok.hd hc) st (show s.heap.IsTuple a its.toArray from p) (by simp; omega) λh' eb=>⟨rfl,I.turned (t':=s.toks) (λb o hb e=>eb b o hb e) f0 f1 f3 f4 f5⟩
 self:=λ_ _ _ _ _ st h=>wpAny_pyIter_tupleiter st h
theorem mB{P:Program}{w:World}{K:PySem.W.Frag}{tg:Expr}(it:Addr)(lo:Int)(n:Nat):tT P w K tg (U7 lo n) [it] it (λi h=>IsRangeIter h it (lo+(i:Nat)*1) ((n:Int)-(i:Nat)) 1) where
 mem:=by simp
 obj:=λi h st b hb=>by
  have e:b=it:=by simpa using hb
  subst e
  exact⟨_,st,λv z=>by
   have z':Data.fields _=Data.cell v:=z;cases z'⟩
 keep:=λi h h' st k=>k it (by simp) _ st
 item:=by
  intro X hP hw hK hc i z6 s σ H E I hf st hg;subst hP hw hK;obtain⟨f0,f1,f2,f3,f4,f5⟩:=hf it (by simp);have W:=Walks.range (prog:=X.prog) (w:=X.w) (I.ok.hd hc) it lo 1 n;refine W.item i s _ _ hg st λv h' tk hv st' kk=>?_
  obtain⟨t,rfl⟩:=hv;have I1:Inv X z6 σ H { s with heap:=h',toks:=tk }:=I.turned (λb o hb e=>kk b o (by simpa using hb) e) f0 f1 f3 f4 f5;refine⟨_,rfl,Zx (s:={ s with heap:=h',toks:=tk }) (n := "range_iterator") st' rfl rfl (by decide) ⟨.int (lo+i),H,I1,⟨t,?_⟩,⟨rfl,rfl⟩,st',λb hb=>(hf b hb).1⟩⟩;rw[Qm]
 done:=by
  intro X hP hw hK hc i z6 s σ H E I hf st hg;subst hP hw hK;obtain⟨f0,f1,f2,f3,f4,f5⟩:=hf it (by simp);exact wpAny_pyNext_range_end (I.ok.hd hc) st (by have:n<=i:=hg; omega) λh' eb=>⟨rfl,I.turned (t':=s.toks) (λb o hb e=>eb b o hb e) f0 f1 f3 f4 f5⟩
 self:=λ_ _ _ _ _ st h=>wpAny_pyIter_rangeiter st h
section
variable{X:Cx}{tg:Expr}
def P6(K:W.Frag)(tl:TE):TI:=λσ H R=>tl σ H λx H1=>∃a,x=.ref a/\(∃xs,yL K H1 a xs)/\R (JO K a) H1
def P9(K:W.Frag)(tl:TE):TI:=λσ H R=>tl σ H λx H1=>∃a,x=.ref a/\(∃xs,yu K H1 a xs)/\R (JQ K a) H1
theorem aF{l:Expr}{tl:TE}(hl:PE X l tl):PI X tg l (P6 X.K tl):=by
 intro z6 s σ H R I h;refine zi (hl z6 s σ H _ I h) λv s1 ⟨x,H1,I1,r1,q1⟩=>?_
 obtain⟨a,e,⟨xs,hq⟩,q⟩:=q1;subst e;cases r1;obtain⟨its,rv,p,hz⟩:=I1.list hq;refine VX p.isList ?_;refine⟨s1.heap.objs.size,[s1.heap.objs.size],_,_,H1,rfl,I1.kept (t':=s1.toks) λb o e=>Heap.get?_push_of_some _ e,m9 a _,⟨_,Heap.get?_push_size _ rfl,rfl,rfl⟩,λb hb=>?_,q⟩;have e:b=s1.heap.objs.size:=by simpa using hb
 subst e;exact I1.qe (zr _) (I1.za.fresh (zr _))
theorem aI{l:Expr}{tl:TE}(hl:PE X l tl):PI X tg l (P9 X.K tl):=by
 intro z6 s σ H R I h;refine zi (hl z6 s σ H _ I h) λv s1 ⟨x,H1,I1,r1,q1⟩=>?_
 obtain⟨a,e,⟨xs,hq⟩,q⟩:=q1;subst e;cases r1;obtain⟨its,rv,p,hz⟩:=I1.tuple hq;refine wpAny_pyIter_tuple (show s1.heap.IsTuple a its.toArray from p) ?_;refine⟨s1.heap.objs.size,[s1.heap.objs.size],_,_,H1,rfl,I1.kept (t':=s1.toks) λb o e=>Heap.get?_push_of_some _ e,mD a _,⟨_,Heap.get?_push_size _ rfl,rfl,rfl⟩,λb hb=>?_,q⟩;have e:b=s1.heap.objs.size:=by simpa using hb
 subst e;exact I1.qe (zr _) (I1.za.fresh (zr _))
theorem bU{z6:List (Addr×Obj)}{σ:St}{H:Hp}{s:Shared}{R:It->Hp->Prop}{E:Value->Shared->Prop}{lo hi:Int}{t u v:Tok}{tk:Nat}(I:Inv X z6 σ H s)(h1 : -(2 ^ 62)<=lo)(h2:lo<2 ^ 62)(h3 : -(2 ^ 62)<=hi)(h4:hi<2 ^ 62)
  (q:R (U7 lo (hi-lo).toNat) H):wpAny (model X.prog X.w) X.A (pyIter (.ref s.heap.objs.size)) (JU X z6 σ tg R) E { s with heap:=s.heap.push { cls:=.type "range",data:=.fields #[.int lo t,.int hi u,.int 1 v] },toks:=tk }:=by
 refine wpAny_pyIter_range (IsRange.new ..) (small_one h1 h2 h3 h4) ?_;have I1:Inv X z6 σ H { s with heap:=s.heap.push { cls:=.type "range",data:=.fields #[.int lo t,.int hi u,.int 1 v] },toks:=tk }:=I.kept λb o e=>Heap.get?_push_of_some _ e
 refine⟨(s.heap.push { cls:=.type "range",data:=.fields #[.int lo t,.int hi u,.int 1 v] }).objs.size,[(s.heap.push { cls:=.type "range",data:=.fields #[.int lo t,.int hi u,.int 1 v] }).objs.size],_,_,H,rfl,
  I1.kept (t':=tk) λb o e=>Heap.get?_push_of_some _ e,mB _ lo (hi-lo).toNat,?_,λb hb=>?_,q⟩
 ·have e1:lo+((0:Nat):Int)*1=lo:=by simp
  have e2:(((hi-lo).toNat:Nat):Int)-((0:Nat):Int)=Builtin.Range.rangeSize lo hi 1:=by rw[rangeSize_one]; split<;>omega
  show IsRangeIter _ _ (lo+((0:Nat):Int)*1) ((((hi-lo).toNat:Nat):Int)-((0:Nat):Int)) 1;rw[e1,e2];exact Heap.get?_push_size _ rfl
 ·have e:b=(s.heap.push { cls:=.type "range",data:=.fields #[.int lo t,.int hi u,.int 1 v] }).objs.size:=by simpa using hb
  subst e;exact I1.qe (zr _) (I1.za.fresh (zr _))
def P7(ta:TA):TI:=λσ H R=>ta σ H λvs H1=>∃j:Int,vs=[.int j] /\ -(2 ^ 62)<=j/\j<2 ^ 62/\R (U7 0 j.toNat) H1
theorem aG{a:Expr}{ta:TA}{p pos:Pos}(hg:Gl X "range")(hm:X.mg "range" = none)(ha:PA X [a] ta)(hs:starEach [a] X.env=[(false,eval a X.env)]:=by rfl):PI X tg (.Call (.Name "range" p) [a] [] pos) (P7 ta):=by
 intro z6 s σ H R I h;refine Call_ (jo I hg hm boot_range (VQ (zi (ha pos z6 s σ H _ I h) λus s1 ⟨vs,H1,I1,r1,q1⟩=>?_) hs rfl));obtain⟨j,e,q1,q2,q⟩:=q1;subst e;cases r1 with
 |cons r rr=>
  cases rr;obtain⟨t,rfl⟩:=r;exact call_range_1 (bU I1 (by omega) (by omega) q1 q2 (by simpa using q))
def fZ(wi:TI)(g:TG)(tb:TS):TS:=λD σ H=>wi σ H λJ H1=>∃W:Nat->Nat->St->Hp->Prop,(∃m,W 0 m σ H1)/\∀i m σ H,W i m σ H->
 (J.stop i H/\D.nx σ H)\/(J.go i H/\∃N:St->Hp->Prop,(∀σ' H',N σ' H'->∃m',m'<m/\W (i+1) m' σ' H')/\∀x H',J.vC i H x H'->g x σ H' λσ2 H2=>tb { D with nx:=N,ct:=N,bk:=D.nx } σ2 H2)
def Xo(fp:List Addr)(h:Heap):List (Addr×Obj):=fp.filterMap λb=>(h.get? b).map λo=>(b,o)
theorem Ti{fp:List Addr}{h:Heap}{b:Addr}{o:Obj}(hb:b∈fp)(e:h.get? b=some o):(b,o)∈Xo fp h:=VJ.mpr ⟨b,hb,by rw[e]; rfl⟩
theorem R_{fp:List Addr}{h:Heap}{p:Addr×Obj}(hp:p∈Xo fp h):p.1∈fp/\h.get? p.1=some p.2:=by
 obtain⟨b,hb,e⟩:=VJ.mp hp;cases q:h.get? b with
 |none=>rw[q]at e; cases e
 |some o=>
  rw[q]at e;have e':(b,o)=p:=vV e;subst e';exact⟨hb,q⟩
theorem Inv.pinned{z6:List (Addr×Obj)}{σ:St}{H:Hp}{s:Shared}{fp:List Addr}(I:Inv X z6 σ H s)(hf:∀b∈fp,tS X z6 H b)(ho:∀b∈fp,∃o,s.heap.get? b=some o/\∀v,o.data≠.cell v):Inv X (z6++Xo fp s.heap) σ H s:=
 I.Y_ λp hp=>(uI.mp hp).elim (λz=>I.pin p (uk _ z)) λz=>by
  obtain⟨hb,e⟩:=R_ z;obtain⟨f0,f1,f2,_⟩:=hf p.1 hb;obtain⟨o,e',d⟩:=ho p.1 hb;rw[e]at e'; cases e';exact⟨e,f0,f1,f2,d⟩
theorem Inv.JH{z6 pl:List (Addr×Obj)}{σ:St}{H:Hp}{s:Shared}(I:Inv X (z6++pl) σ H s):Inv X z6 σ H s:=I.Y_ λp hp=>I.pin p (uk _ (MK _ hp))
theorem Cq{iter:Expr}{body:List Stmt}{wi:TI}{g:TG}{tb:TS}{pos:Pos}(hp:PassesOwn (model X.prog X.w) X.A X.env X.xe)(hc:X.calm=true)(hi:PI X tg iter wi)(hg:PG X tg g)(hb:vk X body tb)
  (hs:∀x,foldedSetIterable iter X.env x=pure x:=by intro _; rfl):PS X (.For tg iter body [] pos) (fZ wi g tb):=by
 intro z6 s σ H D I h;refine wpAny_For (zi (hi z6 s σ H _ I h) λv s1 h1=>zi h1 λitv s2 h2=>?_) hs;obtain⟨it,fp,tn,J,H2,e,I2,T,st2,f2,W,⟨m0,w0⟩,turn⟩:=h2;subst e;have stat:∀{H':Hp},(∀b∈fp,H' b=none)->∀b∈fp,tS X z6 H' b:=λhn b hb=>⟨hn b hb,(f2 b hb).2⟩
 refine codeAny_forLoop_any (λn s'=>∃i σ' H',Inv X z6 σ' H' s'/\tn i s'.heap/\(∀b∈fp,H' b=none)/\W i n σ' H') ?_ m0 ⟨0,σ,H2,I2,st2,λb hb=>(f2 b hb).1,w0⟩;rintro n s3 ⟨i,σ3,H3,I3,st3,fr3,w3⟩;rcases turn i n σ3 H3 w3 with⟨stop,qn⟩|⟨go,N,hN,step⟩
 ·refine ZI hp (zi (T.done X rfl rfl rfl hc i z6 s3 σ3 H3 X.xe I3 (stat fr3) st3 stop) λr s4 ⟨hr,I4⟩=>?_);subst hr;exact J1 ⟨σ3,H3,I4,qn⟩
 ·refine ZI hp (zi (T.item X rfl rfl rfl hc i z6 s3 σ3 H3 X.xe I3 (stat fr3) st3 go) λr s4 ⟨u,hr,h4⟩=>?_);subst hr;refine ZI hp (zi h4 λ_ s5 ⟨x,H5,I5,r5,y5,st5,fr5⟩=>?_);have I5':=I5.pinned (stat fr5) (T.obj _ _ st5);refine ZI hp (zi (hg _ s5 σ3 H5 x u _ I5' r5 (step x H5 y5)) λ_ s6 ⟨σ6,H6,I6,q6⟩=>?_);refine ZI hp (zi (hb _ s6 σ6 H6 _ I6 q6) λf s7 q7=>?_)
  have again:∀{σ7:St}{H7:Hp},Inv X (z6++Xo fp s5.heap) σ7 H7 s7->N σ7 H7->∃m,m<n/\∃i σ' H',Inv X z6 σ' H' s7/\tn i s7.heap/\(∀b∈fp,H' b=none)/\W i m σ' H':=λ{σ7 H7} I7 n7=>by
   obtain⟨m',hm,w7⟩:=hN σ7 H7 n7;refine⟨m',hm,i+1,σ7,H7,I7.JH,T.keep _ _ _ st5 λb hb o e=>(I7.pin (b,o) (uk _ (uk _ (Ti hb e)))).1,λb hb=>?_,w7⟩;obtain⟨o,e,d⟩:=T.obj _ _ st5 b hb;exact(I7.pin (b,o) (uk _ (uk _ (Ti hb e)))).2.1
  cases f with
  |next=>obtain⟨σ7,H7,I7,n7⟩:=q7; exact again I7 n7
  |cont=>obtain⟨σ7,H7,I7,n7⟩:=q7; exact again I7 n7
  |brk=>obtain⟨σ7,H7,I7,q7⟩:=q7; exact⟨σ7,H7,I7.JH,q7⟩
  |ret v=>obtain⟨x7,σ7,H7,I7,r7,q7⟩:=q7; exact⟨x7,σ7,H7,I7.JH,r7,q7⟩
end
abbrev R2:=V->V->Hp->VK->Prop
def yY(X:Cx)(f:Value->Value->Sem Value)(r:R2):Prop:=
 ∀(z6:List (Addr×Obj)) (s:Shared) (σ:St) (H:Hp) (x y:V) (v u:Value) (Q:VK),Inv X z6 σ H s->z_ x v->z_ y u->r x y H Q->
  wpAny (model X.prog X.w) X.A (f v u) (EP X z6 σ Q) X.xe s
def XB(X:Cx)(f:Value->Sem Value)(r:V->Hp->VK->Prop):Prop:=
 ∀(z6:List (Addr×Obj)) (s:Shared) (σ:St) (H:Hp) (x:V) (v:Value) (Q:VK),Inv X z6 σ H s->z_ x v->r x H Q->
  wpAny (model X.prog X.w) X.A (f v) (EP X z6 σ Q) X.xe s
def wK(X:Cx)(f:Value)(r:List V->Hp->VK->Prop):Prop:=
 ∀(z6:List (Addr×Obj)) (s:Shared) (σ:St) (H:Hp) (xs:List V) (us:List Value) (Q:VK),Inv X z6 σ H s->zy xs us->r xs H Q->
  wpAny (model X.prog X.w) X.A (call f us) (EP X z6 σ Q) X.xe s
def QJ(r:R2)(ta tb:TE):TE:=λσ H Q=>ta σ H λx H1=>tb σ H1 λy H2=>r x y H2 Q
def i8(r:V->Hp->VK->Prop)(ta:TE):TE:=λσ H Q=>ta σ H λx H1=>r x H1 Q
def rI(C:Int->Int->Prop)(g:Int->Int->V):R2:=λx y H Q=>∃i j,x=.int i/\y=.int j/\C i j/\Q (g i j) H
def ud(g:Int->Int->V):R2:=λx y H Q=>∃i j,x=.int i/\y=.int j/\Q (g i j) H
def rU(g:Int->V):V->Hp->VK->Prop:=λx H Q=>∃i,x=.int i/\Q (g i) H
section
variable{X:Cx}{a b c:Expr}{ta tb tc:TE}{pos:Pos}
theorem Jd(ha:PE X a ta)(hb:PE X b tb){z6:List (Addr×Obj)}{s:Shared}{σ:St}{H:Hp}{R:V->V->Hp->Prop}(I:Inv X z6 σ H s)
  (h:ta σ H λx H1=>tb σ H1 λy H2=>R x y H2){Q:Value->Shared->Prop}{f:Value->Value->Sem Value}
  (hf:∀v u s2 x y H2,Inv X z6 σ H2 s2->z_ x v->z_ y u->R x y H2->wpAny (model X.prog X.w) X.A (f v u) Q X.xe s2) :
  wpAny (model X.prog X.w) X.A (eval a X.env) (λv s₁=>wpAny (model X.prog X.w) X.A (eval b X.env) (λu s₂=>wpAny (model X.prog X.w) X.A (f v u) Q X.xe s₂) X.xe s₁) X.xe s:=by
 refine zi (ha z6 s σ H _ I h) λv s1 ⟨x,H1,I1,r1,q1⟩=>?_
 refine zi (hb z6 s1 σ H1 _ I1 q1) λu s2 ⟨y,H2,I2,r2,q2⟩=>?_
 exact hf v u s2 x y H2 I2 r1 r2 q2
theorem Ap{op:Operator}{r:R2}(ho:yY X (binaryOp op) r)(ha:PE X a ta)(hb:PE X b tb):PE X (.BinOp a op b pos) (QJ r ta tb):=by
 intro z6 s σ H Q I h;exact wpAny_BinOp (Jd ha hb I h λv u s2 x y H2 I2 rx ry q=>ho z6 s2 σ H2 x y v u Q I2 rx ry q)
theorem Av{op:UnaryOp}{r:V->Hp->VK->Prop}(ho:XB X (unaryOp op) r)(ha:PE X a ta):PE X (.UnaryOp op a pos) (i8 r ta):=by
 intro z6 s σ H Q I h;exact UnaryOp_ (zi (ha z6 s σ H _ I h) λv s1 ⟨x,H1,I1,r1,q1⟩=>ho z6 s1 σ H1 x v Q I1 r1 q1)
theorem YK{f:Value->Value->Sem Value}{C:Int->Int->Prop}{g:Int->Int->Int}
  (rule:∀(i j:Int)(t u:Tok)(s:Shared)(Q:Value->Shared->Prop)(E:Value->Shared->Prop),C i j->Q (.int (g i j) s.toks) { s with toks:=s.toks+1 }->wpAny (model X.prog X.w) X.A (f (.int i t) (.int j u)) Q E s) :
  yY X f (rI C λi j=>.int (g i j)):=by
 intro z6 s σ H x y v u Q I rx ry h;obtain⟨i,j,rfl,rfl,hc,q⟩:=h;obtain⟨t,rfl⟩:=rx;obtain⟨t',rfl⟩:=ry;exact rule i j t t' s _ _ hc ⟨.int (g i j),H,I.tok _,⟨_,rfl⟩,q⟩
theorem Tn{f:Value->Value->Sem Value}{g:Int->Int->Int}
  (rule:∀(i j:Int)(t u:Tok)(s:Shared)(Q:Value->Shared->Prop)(E:Value->Shared->Prop),Q (.int (g i j) s.toks) { s with toks:=s.toks+1 }->wpAny (model X.prog X.w) X.A (f (.int i t) (.int j u)) Q E s) :
  yY X f (ud λi j=>.int (g i j)):=by
 intro z6 s σ H x y v u Q I rx ry h;obtain⟨i,j,rfl,rfl,q⟩:=h;obtain⟨t,rfl⟩:=rx;obtain⟨t',rfl⟩:=ry;exact rule i j t t' s _ _ ⟨.int (g i j),H,I.tok _,⟨_,rfl⟩,q⟩
theorem Tm{f:Value->Value->Sem Value}{g:Int->Int->Bool}
  (rule:∀(i j:Int)(t u:Tok)(s:Shared)(Q:Value->Shared->Prop)(E:Value->Shared->Prop),Q (.bool (g i j)) s->wpAny (model X.prog X.w) X.A (f (.int i t) (.int j u)) Q E s) :
  yY X f (ud λi j=>.bl (g i j)):=by
 intro z6 s σ H x y v u Q I rx ry h;obtain⟨i,j,rfl,rfl,q⟩:=h;obtain⟨t,rfl⟩:=rx;obtain⟨t',rfl⟩:=ry;exact rule i j t t' s _ _ ⟨.bl (g i j),H,I,rfl,q⟩
def X3(i j:Int):Prop:=0<=j/\j<=1000000/\i.natAbs<2 ^ 64
def X2(i j:Int):Prop:=(-(2 ^ 64)<i/\i<2 ^ 64)\/(-(2 ^ 64)<j/\j<2 ^ 64)
theorem X2.ok{i j:Int}(h:X2 i j):IntMulOk i j:=by
 rcases h with⟨h1,h2⟩|⟨h1,h2⟩
 ·exact .of_left (intBits_le_64 h1 h2)
 ·exact .of_right (intBits_le_64 h1 h2)
theorem mt(k:Nat):(0:Int)<=2 ^ k:=by
 rw[two_pow_cast];exact VH _
theorem AD:yY X (binaryOp .Add) (ud λi j=>.int (i+j)):=Tn λ_ _ _ _ _ _ _ q=>add_int q
theorem qB:yY X (binaryOp .Sub) (ud λi j=>.int (i-j)):=Tn λ_ _ _ _ _ _ _ q=>sub_int q
theorem Xk:yY X (binaryOp .Mult) (rI X2 λi j=>.int (i*j)):=YK λ_ _ _ _ _ _ _ hc q=>mul_int q hc.ok
theorem xK:yY X (binaryOp .Mod) (rI (λ_ j=>0<j) λi j=>.int (i%j)):=YK λi j _ _ _ _ _ hc q=>by
 have h1:(0:Int)<j:=hc;exact mod_int' (by omega) (by rw[Int.fmod_eq_emod_of_nonneg i (by omega)]; exact q)
theorem AT:yY X (binaryOp .Pow) (rI X3 λi j=>.int (i ^ j.toNat)):=YK λ_ _ _ _ _ _ _ hc q=>pow_int_small hc.1 hc.2.1 hc.2.2 q
theorem YM:yY X (binaryOp .LShift) (rI X3 λi j=>.int (i*2 ^ j.toNat)):=YK λ_ _ _ _ _ _ _ hc q=>lshift_int_small hc.1 hc.2.1 hc.2.2 q
theorem AU:yY X (binaryOp .RShift) (rI (λ_ j=>0<=j) λi j=>.int (i/2 ^ j.toNat)):=YK λi j _ _ _ _ _ hc q=>
 rshift_int hc (by rw[Gk i (mt _)]; exact q)
theorem CU:yY X (binaryOp .BitAnd) (ud λi j=>.int (Builtin.bitAnd i j)):=Tn λ_ _ _ _ _ _ _ q=>and_int q
theorem AS:yY X (binaryOp .BitOr) (ud λi j=>.int (Builtin.bitOr i j)):=Tn λ_ _ _ _ _ _ _ q=>or_int q
theorem GI{f:Value->Sem Value}{g:Int->Int}
  (rule:∀(i:Int)(t:Tok)(s:Shared)(Q:Value->Shared->Prop)(E:Value->Shared->Prop),Q (.int (g i) s.toks) { s with toks:=s.toks+1 }->wpAny (model X.prog X.w) X.A (f (.int i t)) Q E s) :
  XB X f (rU λi=>.int (g i)):=by
 intro z6 s σ H x v Q I rx h;obtain⟨i,rfl,q⟩:=h;obtain⟨t,rfl⟩:=rx;exact rule i t s _ _ ⟨.int (g i),H,I.tok _,⟨_,rfl⟩,q⟩
theorem tH:XB X (unaryOp .USub) (rU λi=>.int (-i)):=GI λ_ _ _ _ _ q=>neg_int q
theorem nA:XB X (unaryOp .Invert) (rU λi=>.int (Builtin.bitNot i)):=GI λ_ _ _ _ _ q=>invert_int q
theorem AE:yY X (binaryOp .Add) (λx y H Q=>∃i k,x=.int i/\y=.bl k/\Q (.int (i+b2i k)) H):=by
 intro z6 s σ H x y v u Q I rx ry h;obtain⟨i,k,rfl,rfl,q⟩:=h;obtain⟨t,rfl⟩:=rx;cases ry;exact add_int_bool ⟨.int (i+b2i k),H,I.tok _,⟨_,rfl⟩,q⟩
end
def LN:V->V->Bool
 |.zE,.zE=>true|.zE,.int _=>true|.int _,.zE=>true|.zE,.bl _=>true|.bl _,.zE=>true|.zE,.str _=>true|.str _,.zE=>true
 |.int _,.int _=>true|.bl _,.bl _=>true|.str _,.str _=>true|.byt _,.byt _=>true
 |.int _,.str _=>true|.str _,.int _=>true|.bl _,.str _=>true|.str _,.bl _=>true
 |_,_=>false
def bK:R2:=λx y H Q=>LN x y=true/\Q (.bl (decide (x=y))) H
def bP:R2:=λx y H Q=>LN x y=true/\Q (.bl (!decide (x=y))) H
theorem Jn{i j:Int}:decide (V.int i=V.int j)=(i==j):=by
 rw[VE];simp
theorem Jm{i j:Bool}:decide (V.bl i=V.bl j)=(i==j):=by
 rw[VE];simp
theorem Jo{i j:Str}:decide (V.str i=V.str j)=(i==j):=by
 rw[VE];simp
theorem Bb{i j:Array UInt8}:decide (V.byt i=V.byt j)=(i.toList==j.toList):=by
 rw[VE];cases i;cases j;simp
section
variable{X:Cx}{a b c:Expr}{ta tb tc:TE}{pos:Pos}
theorem xW{z6:List (Addr×Obj)}{σ:St}{H:Hp}{s:Shared}{Q:VK}{k k':Bool}(I:Inv X z6 σ H s)(q:Q (.bl k) H)(e:k=k'):EP X z6 σ Q (.bool k') s:=by
 subst e;exact⟨.bl k,H,I,rfl,q⟩
theorem AI:yY X (compareOp .Eq) bK:=by
 intro z6 s σ H x y v u Q I rx ry h;obtain⟨hs,q⟩:=h;cases x with
 |zE=>
  cases rx;cases y with
  |zE=>cases ry; exact PySem.EqNone.eq_none_none (xW I q (by simp))
  |bl j=>cases ry; exact PySem.EqNone.eq_none_bool (xW I q (by simp))
  |int j=>obtain⟨t',rfl⟩:=ry; exact PySem.EqNone.eq_none_int (xW I q (by simp))
  |str j=>obtain⟨t',rfl⟩:=ry; exact PySem.EqNone.eq_none_str (xW I q (by simp))
  |_=>exact absurd (show false=true from hs) yz
 |bl i=>
  cases rx;cases y with
  |zE=>cases ry; exact PySem.EqNone.eq_bool_none (xW I q (by simp))
  |bl j=>cases ry; exact eq_bool (xW I q Jm)
  |str j=>obtain⟨t',rfl⟩:=ry; exact PySem.EqMixed.eq_bool_str (xW I q (by simp))
  |_=>exact absurd (show false=true from hs) yz
 |int i=>
  obtain⟨t,rfl⟩:=rx;cases y with
  |zE=>cases ry; exact PySem.EqNone.eq_int_none (xW I q (by simp))
  |int j=>obtain⟨t',rfl⟩:=ry; exact eq_int (xW I q Jn)
  |str j=>obtain⟨t',rfl⟩:=ry; exact PySem.EqMixed.eq_int_str (xW I q (by simp))
  |_=>exact absurd (show false=true from hs) yz
 |str i=>
  obtain⟨t,rfl⟩:=rx;cases y with
  |zE=>cases ry; exact PySem.EqNone.eq_str_none (xW I q (by simp))
  |bl j=>cases ry; exact PySem.EqMixed.eq_str_bool (xW I q (by simp))
  |int j=>obtain⟨t',rfl⟩:=ry; exact PySem.EqMixed.eq_str_int (xW I q (by simp))
  |str j=>obtain⟨t',rfl⟩:=ry; exact eq_str (xW I q Jo)
  |_=>exact absurd (show false=true from hs) yz
 |byt i=>
  obtain⟨t,rfl⟩:=rx;cases y with
  |byt j=>obtain⟨t',rfl⟩:=ry; exact W.eq_bytes (xW I q Bb)
  |_=>exact absurd (show false=true from hs) yz
 |_=>cases y<;>exact absurd (show false=true from hs) yz
theorem AN:yY X (compareOp .NotEq) bP:=by
 intro z6 s σ H x y v u Q I rx ry h;obtain⟨hs,q⟩:=h;cases x with
 |zE=>
  cases rx;cases y with
  |zE=>cases ry; exact PySem.EqNone.ne_none_none (xW I q (by simp))
  |bl j=>cases ry; exact PySem.EqNone.ne_none_bool (xW I q (by simp))
  |int j=>obtain⟨t',rfl⟩:=ry; exact PySem.EqNone.ne_none_int (xW I q (by simp))
  |str j=>obtain⟨t',rfl⟩:=ry; exact PySem.EqNone.ne_none_str (xW I q (by simp))
  |_=>exact absurd (show false=true from hs) yz
 |bl i=>
  cases rx;cases y with
  |zE=>cases ry; exact PySem.EqNone.ne_bool_none (xW I q (by simp))
  |bl j=>cases ry; exact ne_bool (xW I q (congrArg not Jm))
  |str j=>obtain⟨t',rfl⟩:=ry; exact PySem.EqMixed.ne_bool_str (xW I q (by simp))
  |_=>exact absurd (show false=true from hs) yz
 |int i=>
  obtain⟨t,rfl⟩:=rx;cases y with
  |zE=>cases ry; exact PySem.EqNone.ne_int_none (xW I q (by simp))
  |int j=>obtain⟨t',rfl⟩:=ry; exact ne_int (xW I q (congrArg not Jn))
  |str j=>obtain⟨t',rfl⟩:=ry; exact PySem.EqMixed.ne_int_str (xW I q (by simp))
  |_=>exact absurd (show false=true from hs) yz
 |str i=>
  obtain⟨t,rfl⟩:=rx;cases y with
  |zE=>cases ry; exact PySem.EqNone.ne_str_none (xW I q (by simp))
  |bl j=>cases ry; exact PySem.EqMixed.ne_str_bool (xW I q (by simp))
  |int j=>obtain⟨t',rfl⟩:=ry; exact PySem.EqMixed.ne_str_int (xW I q (by simp))
  |str j=>obtain⟨t',rfl⟩:=ry; exact ne_str (xW I q (congrArg not Jo))
  |_=>exact absurd (show false=true from hs) yz
 |byt i=>
  obtain⟨t,rfl⟩:=rx;cases y with
  |byt j=>obtain⟨t',rfl⟩:=ry; exact W.ne_bytes (xW I q (congrArg not Bb))
  |_=>exact absurd (show false=true from hs) yz
 |_=>cases y<;>exact absurd (show false=true from hs) yz
theorem uD:yY X (compareOp .Lt) (ud λi j=>.bl (decide (i<j))):=Tm λ_ _ _ _ _ _ _ q=>lt_int q
theorem Tp:yY X (compareOp .LtE) (ud λi j=>.bl (decide (i<=j))):=Tm λ_ _ _ _ _ _ _ q=>le_int q
theorem AJ:yY X (compareOp .Gt) (ud λi j=>.bl (decide (j<i))):=Tm λ_ _ _ _ _ _ _ q=>gt_int q
theorem To:yY X (compareOp .GtE) (ud λi j=>.bl (decide (j<=i))):=Tm λ_ _ _ _ _ _ _ q=>ge_int q
theorem AM:yY X (compareOp .In) (λx y H Q=>∃i j,x=.str i/\y=.str j/\Q (.bl (!(Builtin.Str.occurrences j i 0 j.length 1).isEmpty)) H):=by
 intro z6 s σ H x y v u Q I rx ry h;obtain⟨i,j,rfl,rfl,q⟩:=h;obtain⟨t,rfl⟩:=rx;obtain⟨t',rfl⟩:=ry;exact in_str (xW I q rfl)
theorem kS:yY X (compareOp .Is) (λx y H Q=>y=.zE/\Q (.bl (decide (x=.zE))) H):=by
 intro z6 s σ H x y v u Q I rx ry h;obtain⟨rfl,q⟩:=h;cases ry;refine is_none_gen (xW I q ?_)
 cases x<;>first
  |(cases rx; rfl)
  |(obtain⟨t,rfl⟩:=rx; rfl)
theorem Xl:yY X (compareOp .IsNot) (λx y H Q=>y=.zE/\Q (.bl (!decide (x=.zE))) H):=by
 intro z6 s σ H x y v u Q I rx ry h;obtain⟨rfl,q⟩:=h;cases ry;refine isnot_none_gen (xW I q ?_)
 cases x<;>first
  |(cases rx; rfl)
  |(obtain⟨t,rfl⟩:=rx; rfl)
theorem yY.or{f:Value->Value->Sem Value}{r r':R2}(h:yY X f r)(h':yY X f r'):yY X f (λx y H Q=>r x y H Q\/r' x y H Q):=by
 intro z6 s σ H x y v u Q I rx ry q;rcases q with q|q
 ·exact h z6 s σ H x y v u Q I rx ry q
 ·exact h' z6 s σ H x y v u Q I rx ry q
theorem yI(b:Expr){op:CmpOp}(h:op≠.In:=by decide)(h2:op≠.NotIn:=by decide):behindInMarks op b=false:=by
 have e1:(op==CmpOp.In)=false:=by cases op<;>first|rfl|exact absurd rfl h
 have e2:(op==CmpOp.NotIn)=false:=by cases op<;>first|rfl|exact absurd rfl h2
 cases b<;>simp[behindInMarks,e1,e2]
theorem Ag{op:CmpOp}{r:R2}(ho:yY X (compareOp op) r)(ha:PE X a ta)(hb:PE X b tb)(hm:behindInMarks op b=false):PE X (.Compare a [op] [b] pos) (QJ r ta tb):=by
 intro z6 s σ H Q I h;exact wpAny_Compare1 (Jd ha hb I h λv u s2 x y H2 I2 rx ry q=>ho z6 s2 σ H2 x y v u Q I2 rx ry q) hm
def GA(t:TE):TT:=λσ H Q=>t σ H λx H'=>∃k,x=.bl k/\Q k H'
theorem ay{op:CmpOp}{r:R2}(ho:yY X (compareOp op) r)(ha:PE X a ta)(hb:PE X b tb)(hm:behindInMarks op b=false):PT X (.Compare a [op] [b] pos) (GA (QJ r ta tb)):=by
 intro z6 s σ H Q I h
 refine wpAny_isTrue_Compare1 (zi (ha z6 s σ H _ I h) λv s1 ⟨x,H1,I1,r1,q1⟩=>zi (hb z6 s1 σ H1 _ I1 q1) λu s2 ⟨y,H2,I2,r2,q2⟩=>
  zi (ho z6 s2 σ H2 x y v u _ I2 r1 r2 q2) λc s3 ⟨z,H3,I3,r3,k,e,q3⟩=>?_) hm
 subst e;cases r3;exact ZJ ⟨H3,I3,q3⟩
def fW(r r':R2)(ta tb tc:TE):TE:=λσ H Q=>ta σ H λx H1=>tb σ H1 λy H2=>r x y H2 λz H3=>∃k,z=.bl k/\
 (if k=true then tc σ H3 λw' H4=>r' y w' H4 Q else Q (.bl false) H3)
theorem ax{op op':CmpOp}{r r':R2}(ho:yY X (compareOp op) r)(ho':yY X (compareOp op') r')(ha:PE X a ta)(hb:PE X b tb)(hc:PE X c tc)
  (hm:lastMarks [op,op'] [b,c]=false:=by with_unfolding_all rfl):PT X (.Compare a [op,op'] [b,c] pos) (GA (fW r r' ta tb tc)):=by
 intro z6 s σ H Q I h
 refine isTrue_chain (zi (ha z6 s σ H _ I h) λv s1 ⟨x,H1,I1,r1,q1⟩=>test_link (zi (hb z6 s1 σ H1 _ I1 q1) λu s2 ⟨y,H2,I2,r2,q2⟩=>
  zi (ho z6 s2 σ H2 x y v u _ I2 r1 r2 q2) λd s3 ⟨z,H3,I3,r3,k,e,q3⟩=>?_)) hm
 subst e;cases r3;refine ZJ ?_;cases k with
 |false=>
  obtain⟨k',e',q'⟩:=q3;cases e';exact ite_ff ⟨H3,I3,q'⟩
 |true=>
  refine ite_tt (test_last (zi (hc z6 s3 σ H3 _ I3 q3) λw' s4 ⟨z',H4,I4,r4,q4⟩=>zi (ho' z6 s4 σ H4 y z' u w' _ I4 r2 r4 q4) λd' s5 ⟨z2,H5,I5,r5,k2,e2,q5⟩=>?_));subst e2;cases r5;exact ZJ ⟨H5,I5,q5⟩
theorem YG:(sizeLine:Nat)<2 ^ 63:=by rw[wn]; decide
theorem AF:yY X (binaryOp .Add) (λx y H Q=>∃i j,x=.str i/\y=.str j/\i.length+j.length<=sizeLine/\Q (.str (i++j)) H):=by
 intro z6 s σ H x y v u Q I rx ry h;obtain⟨i,j,rfl,rfl,hz,q⟩:=h;obtain⟨t,rfl⟩:=rx;obtain⟨t',rfl⟩:=ry;exact add_str (λt' tk=>⟨.str (i++j),H,I.tok _,⟨_,rfl⟩,q⟩) hz
theorem vg{x:V}{us:List Value}(r:zy [x] us):∃u,us=[u]/\z_ x u:=by
 cases r with
 |cons r1 r2=>cases r2; exact⟨_,rfl,r1⟩
theorem V7{x y:V}{us:List Value}(r:zy [x,y] us):∃u w',us=[u,w']/\z_ x u/\z_ y w':=by
 cases r with
 |cons r1 r2=>
  cases r2 with
  |cons r3 r4=>cases r4; exact⟨_,_,rfl,r1,r3⟩
theorem KL(hc:X.calm=true):wK X (.builtin "max") (λxs H Q=>∃i j,xs=[.int i,.int j]/\Q (.int (if j>i then j else i)) H):=by
 intro z6 s σ H xs us Q I r h;obtain⟨i,j,rfl,q⟩:=h;obtain⟨u,w',rfl,⟨t,rfl⟩,⟨t',rfl⟩⟩:=V7 r;refine max_two_ints (I.ok.hd hc) λh' tk k=>⟨_,H,I.kept k,?_,q⟩
 by_cases hj:j>i
 ·rw[zN hj,zN hj]; exact⟨_,rfl⟩
 ·rw[zS hj,zS hj]; exact⟨_,rfl⟩
theorem KO(hc:X.calm=true):wK X (.builtin "min") (λxs H Q=>∃i j,xs=[.int i,.int j]/\Q (.int (if j<i then j else i)) H):=by
 intro z6 s σ H xs us Q I r h;obtain⟨i,j,rfl,q⟩:=h;obtain⟨u,w',rfl,⟨t,rfl⟩,⟨t',rfl⟩⟩:=V7 r;refine min_two_ints (I.ok.hd hc) λh' tk k=>⟨_,H,I.kept k,?_,q⟩
 by_cases hj:j<i
 ·rw[zN hj,zN hj]; exact⟨_,rfl⟩
 ·rw[zS hj,zS hj]; exact⟨_,rfl⟩
end
structure JT(h:Heap)(x dx C:Addr)(mA:Str->Option Value):Prop where
 obj:h.get? x=some (W.instObj C dx)
 ns:h.Ns1 dx mA
 ne:dx≠x
theorem RM{h:Heap}{dx:Addr}{mA:Str->Option Value}(n:h.Ns1 dx mA):∃od,h.get? dx=some od/\∀name,W.lookIn name od=some (mA name):=by
 obtain⟨o,es,ep,ho,hd,hk,_,hm⟩:=n;refine⟨o,ho,λname=>?_⟩;have e:=hm name;unfold nsFind findBy at e;rw[<-Array.find?_toList]at e;unfold W.lookIn;rw[hd];dsimp only
 split
 ·rename_i y q;rw[q]at e;exact congrArg some e
 ·rename_i q;rw[q]at e
  have a:es.toList.any (·.refKey)=false:=by
   rw[List.any_eq_false];intro y hy;obtain⟨z,t,hkey⟩:=hk y (Array.mem_toList_iff.mp hy);simp[DictEntry.refKey,hkey]
  have a':¬ es.toList.any (·.refKey)=true:=by rw[a]; exact yz
  rw[zS a'];exact congrArg some e
theorem JT.look{h:Heap}{x dx C:Addr}{mA:Str->Option Value}(I:JT h x dx C mA):∃od,W.InstAt h x (W.instObj C dx) C (some od)/\∀name,W.lookIn name od=some (mA name):=
 let ⟨od,ho,hl⟩:=RM I.ns
 ⟨od,⟨I.obj,rfl,rfl,ho⟩,hl⟩
section
variable{prog:Program}{w:World}{A:Around}{E:Value->Shared->Prop}{s:Shared}{K:W.Frag}{x dx C f:Addr}{mA:Str->Option Value}{name:Str}{v:Value}
end
theorem qN.some_of{v:V}{o:Option Value}(r:qN (some v) o):∃u,o=some u/\z_ v u:=by
 cases o with
 |none=>exact(show False from r).elim
 |some u=>exact⟨u,rfl,r⟩
section
variable{P:Program}{w:World}{H H':Hp}{h h':Heap}{a C dx:Addr}{fs fs':List (Str×V)}
theorem PL(za:xN P w H h)(e:H a=some (.ins C dx fs)):∃mA,JT h a dx C mA/\(∀f,qN (fs.lookup f) (mA f))/\PySem.Within mA (fs.map (·.1))/\fs.length<=1000/\H dx=some (.own a):=by
 obtain⟨d,z,ne,ob,mA,n,r,q⟩:=(show yl P w H h a (.ins C dx fs)from za a _ e);exact⟨mA,⟨ob,n,ne⟩,r,q,z,d⟩
end
structure JI(K:W.Frag)(C:Addr):Prop where
 pg:W.plainGet K C Str.empty=true
 hd:W.hasDictIn K C=true
 po:W.plainOver K C=true
 sa:W.findIn K (.ref C) "__setattr__" = some (some (.builtin "object.__setattr__"))
theorem JI.get{K:W.Frag}{C:Addr}(c:JI K C)(f:Str):W.plainGet K C f=true:=c.pg
section
variable{X:Cx}{z6:List (Addr×Obj)}{σ:St}{H:Hp}{s:Shared}{a C dx:Addr}{fs:List (Str×V)}{f:Str}{v:V}{A:Around}{E:Value->Shared->Prop}
end
section
variable{X:Cx}{o e value:Expr}{f:Str}{pos pos' tpos:Pos}{ta tv:TE}
end
section
variable{X:Cx}{z6:List (Addr×Obj)}{σ:St}{H:Hp}{s:Shared}{A:Around}{E:Value->Shared->Prop}{Q:Value->Shared->Prop}{c:Value}{b:Bool}
inductive tU(K:PySem.W.Frag)(H:Hp):V->Value->Prop where
 |zE:tU K H .zE (.type "NoneType")
 |bl (x:Bool):tU K H (.bl x) (.type "bool")
 |int (i:Int):tU K H (.int i) (.type "int")
 |str (x:Str):tU K H (.str x) (.type "str")
 |ZM (x:UInt64):tU K H (.ZM x) (.type "float")
 |lst {a:Addr} {xs:List V} (e:H a=some (.lst xs)):tU K H (.ref a) (.type "list")
 |zu {a:Addr} {o:Obj} {xs:List V} (e:H a=some (.zu o (.lst xs))):tU K H (.ref a) (.type "list")
 |tup {a:Addr} {xs:List V} (e:H a=some (.tup xs)):tU K H (.ref a) (.type "tuple")
 |dK {a:Addr} {kvs:List (zJ×V)} (e:H a=some (.dK kvs)):tU K H (.ref a) (.type "dict")
 |dT {a:Addr} {kvs:List (List zJ×V)} (e:H a=some (.dT kvs)):tU K H (.ref a) (.type "dict")
 |ins {a C dx:Addr} {fs:List (Str×V)} (e:H a=some (.ins C dx fs)) (cl:JI K C) (ha:PySem.W.findIn K (.ref C) "__class__" = some (some (.builtin "object.__class__")))
   (hn:PySem.W.specialIn K (.builtin "object.__class__") "__get__" = some (some (.builtin "getset_descriptor.__get__"))) (htk:PySem.W.takesIn K (.builtin "object.__class__")=some true)
   (hm:PySem.W.mroIn K C (.type "object")=some true):tU K H (.ref a) (.ref C)
theorem TW{x:V}{u t:Value}(I:Inv X z6 σ H s)(rx:z_ x u)(ty:tU X.K H x t)(e:W.kitOne X.K t c=some b)(h:∀tk,Q (.bool b) { s with toks:=tk }) :
  wpAny (model X.prog X.w) A (call (.builtin "isinstance") [u,c]) Q E s:=by
 cases ty with
 |zE=>cases(show u=Value.none from rx); exact W.kia_one W.kitx_none I.wF True.intro e (λz=>nomatch z) h
 |bl y=>cases(show u=Value.bool y from rx); exact W.kia_one W.kitx_bool I.wF True.intro e (λz=>nomatch z) h
 |int i=>obtain⟨t,q⟩:=(show ∃t,u=Value.int i t from rx); cases q; exact W.kia_one W.kitx_int I.wF True.intro e (λz=>nomatch z) h
 |str y=>obtain⟨t,q⟩:=(show ∃t,u=Value.str y t from rx); cases q; exact W.kia_one W.kitx_str I.wF True.intro e (λz=>nomatch z) h
 |ZM y=>obtain⟨t,q⟩:=(show ∃t,u=Value.float y t from rx); cases q; exact W.kia_one W.kitx_float I.wF True.intro e (λz=>nomatch z) h
 |@lst a xs ea=>
  cases(show u=Value.ref a from rx);obtain⟨_,_,n,_,h1⟩:=(show yl X.prog X.w H s.heap a (.lst xs)from I.za a _ ea);exact W.kia_one W.kitx_list I.wF ⟨_,h1,rfl⟩ e (λz=>nomatch z) h
 |@zu a ob xs ea=>
  cases(show u=Value.ref a from rx);obtain⟨_,_,_,n,_,h1⟩:=(show yl X.prog X.w H s.heap a (.zu ob (.lst xs))from I.za a _ ea);exact W.kia_one W.kitx_list I.wF ⟨_,h1,rfl⟩ e (λz=>nomatch z) h
 |@tup a xs ea=>
  cases(show u=Value.ref a from rx);obtain⟨_,_,_,p⟩:=(show yl X.prog X.w H s.heap a (.tup xs)from I.za a _ ea);obtain⟨o,h1,h2,_⟩:=p;exact W.kia_one W.kitx_tuple I.wF ⟨o,h1,h2⟩ e (λz=>nomatch z) h
 |@dK a kvs ea=>
  cases(show u=Value.ref a from rx);obtain⟨_,_,vs,_,p⟩:=(show yl X.prog X.w H s.heap a (.dK kvs)from I.za a _ ea);obtain⟨o,es,ep,h1,h2,_⟩:=p;exact W.kia_one W.kitx_dict I.wF ⟨o,h1,h2.1⟩ e (λz=>nomatch z) h
 |@dT a kvs ea=>
  cases(show u=Value.ref a from rx);obtain⟨_,_,xs,_,o,es,ep,h1,h2,_⟩:=(show yl X.prog X.w H s.heap a (.dT kvs)from I.za a _ ea);exact W.kia_one W.kitx_dict I.wF ⟨o,h1,h2.1⟩ e (λz=>nomatch z) h
 |@ins a C dx fs ea cl ha hn htk hm=>
  cases(show u=Value.ref a from rx);obtain⟨mA,O,_⟩:=PL I.za ea;obtain⟨od,J,_⟩:=O.look;exact W.kia_one (W.kitx_own (cl.get _) cl.hd ha hn htk hm) I.wF J e (λz=>nomatch z) h
end
structure w8(k:Nat)(A:Around):Prop where
 hd:A.handled=none
 dp:A.depth+3*k+5<recursionLimit
 un:A.units+16*k+200<cLine
theorem w8.mono{j k:Nat}{A:Around}(r:w8 k A)(h:j<=k):w8 j A:=⟨r.hd,by have:=r.dp; omega,by have:=r.un; omega⟩
theorem w8.deeper{k:Nat}{A:Around}(r:w8 (k+1) A)(env:Env):w8 k (A.deeper env):=
 ⟨r.hd,by have:=r.dp; show A.depth+1+3*k+5<_; omega,by have:=r.un; show A.units+3+16*k+200<_; omega⟩
theorem w8.depth{k:Nat}{A:Around}(r:w8 k A):A.depth<recursionLimit:=by have:=r.dp; omega
theorem w8.units{k:Nat}{A:Around}(r:w8 k A):A.units+64<cLine:=by have:=r.un; omega
def Yd:TA:=λ_ H Q=>Q [] H
def Z1(ta:TE)(tr:TA):TA:=λσ H Q=>ta σ H λx H1=>tr σ H1 λxs H2=>Q (x::xs) H2
section
variable{X:Cx}{e:Expr}{es:List Expr}{te:TE}{t:TA}{pos:Pos}
theorem kT:PA X [] Yd:=λ_ _ _ _ H Q I h=>Calls.spliced_nil ⟨[],H,I,.nil,h⟩
theorem Ot(ha:PE X e te)(hr:PA X es t)(hs:starEach (e::es) X.env=(false,eval e X.env)::starEach es X.env:=by rfl):PA X (e::es) (Z1 te t):=by
 intro pos z6 s σ H Q I h;rw[hs];show wpAny _ _ (spliced ((false,eval e X.env)::backTo pos (starEach es X.env))) _ _ s;refine Calls.spliced_cons (zi (ha z6 s σ H _ I h) λu s1 ⟨x,H1,I1,r1,q1⟩=>?_);exact zi (hr pos z6 s1 σ H1 _ I1 q1) λus s2 ⟨xs,H2,I2,r2,q2⟩=>⟨x::xs,H2,I2,.cons r1 r2,q2⟩
def i7(t:TA):TE:=λσ H Q=>t σ H λxs H1=>xs.length<=sizeLine/\∀p,H1 p=none->Q (.ref p) (zX H1 p (.tup xs))
def fz(t:TA):TE:=λσ H Q=>t σ H λxs H1=>xs.length<=sizeLine/\∀p,H1 p=none->Q (.ref p) (zX H1 p (.lst xs))
theorem Au{x1}(h:PA X es t):PE X (.Tuple es x1 pos) (i7 t):=by
 intro z6 s σ H Q I hq;refine wpAny_Tuple_spliced (zi (h pos z6 s σ H _ I hq) λus s1 ⟨xs,H1,I1,r,z,q⟩=>⟨by rw[<-r.length]; exact z,?_⟩);have hf:H1 s1.heap.objs.size=none:=I1.za.fresh (zr _);refine⟨.ref s1.heap.objs.size,zX H1 s1.heap.objs.size (.tup xs),I1.laid (t':=s1.toks) (λb u e=>Heap.get?_push_of_some _ e) (zr _) ?_,rfl,q _ hf⟩;exact⟨z,us,r,⟨_,Heap.get?_push_size _ rfl,rfl,_,rfl⟩⟩
theorem Al(h:PA X es t):PE X (.List es pos) (fz t):=by
 intro z6 s σ H Q I hq;refine wpAny_List_spliced (zi (h pos z6 s σ H _ I hq) λus s1 ⟨xs,H1,I1,r,z,q⟩=>⟨by rw[<-r.length]; exact z,?_⟩);have hf:H1 s1.heap.objs.size=none:=I1.za.fresh (zr _);refine⟨.ref s1.heap.objs.size,zX H1 s1.heap.objs.size (.lst xs),I1.laid (t':=s1.toks) (λb u e=>Heap.get?_push_of_some _ e) (zr _) ?_,rfl,q _ hf⟩;exact⟨z,us,0,r,Heap.get?_push_size _ rfl⟩
end
abbrev Sp:=List V->Hp->VK->XK->Prop
abbrev qg:=List Env->Hp->Shared->XK->Value->Shared->Prop
structure U5(P:Program)(w:World)(K:W.Frag)(mg:Str->Option Value)(base:Heap)(A:Around)(outer:List Env)(s:Shared)(H:Hp):Prop where
 frames:A.frames=some outer
 mod:Mod K mg base
 bs:∀b o,base.get? b=some o->s.heap.get? b=some o/\H b=none
 pK:base.objs.size<=s.heap.objs.size
 tN:s.heap.FunFrames base outer
 gY:∀b∈uw outer,H b=none
 za:xN P w H s.heap
 bare:AllBare s.gens
def CE(outer:List Env)(P:Program)(w:World)(H:Hp)(s:Shared)(Q:VK)(u:Value)(s':Shared):Prop:=
 ∃v H',s'.os=s.os/\AllBare s'.gens/\Un (uw outer) [] H H' s.heap s'.heap/\xN P w H' s'.heap/\z_ v u/\Q v H'
def CR(CX:qg)(outer:List Env)(P:Program)(w:World)(H:Hp)(s:Shared)(Q:VK)(E:XK)(r:Result)(s':Shared):Prop:=
 match r with
 |.ok (.ret u)=>CE outer P w H s Q u s'
 |.ok _=>False
 |.error e=>CX outer H s E e s'
structure qL(P:Program)(w:World)(K:W.Frag)(mg:Str->Option Value)(base:Heap)(CX:qg)(k:Nat)(f:Addr)(fd:FuncData)(ps:List Str)(sp:Sp):Prop where
 len:∀vs H Q E,sp vs H Q E->vs.length=ps.length
 run:∀(A:Around)(outer:List Env)(s:Shared)(H:Hp)(args:Args)(us:List Value)(vs:List V)(Q:VK)(E:XK),w8 k A->U5 P w K mg base A outer s H->BindsTo s fd args (ps.zip us)->zy vs us->sp vs H Q E->
  codeAny (model P w) A (.call (.ref f) args) (CR CX outer P w H s Q E) s
section
variable{X:Cx}{z6:List (Addr×Obj)}{σ:St}{H:Hp}{s s':Shared}
theorem Inv.HK(I:Inv X z6 σ H s):U5 X.prog X.w X.K X.mg X.base X.A X.stack s H:=
 ⟨I.ok.frames,I.ok.mod,I.bs,xv I.ok.pK I.sz,I.stack,I.Mt,I.za,I.bare⟩
theorem Inv.after{Q:VK}{u:Value}(I:Inv X z6 σ H s)(h:CE X.stack X.prog X.w H s Q u s'):EP X z6 σ Q u s':=by
 obtain⟨v,H',os,bare,un,za,r,q⟩:=h;obtain⟨hh,g,d,t,os'⟩:=s';obtain rfl:os'=s.os:=os;exact⟨v,H',I.call (h':=hh) (g':=g) (d':=d) (t':=t) (ch:=[]) un za bare (λb z=>absurd z (by simp)),r,q⟩
end
def G8(sp:Sp)(dvs:List V)(E:XK)(t:TA):TE:=λσ H Q=>t σ H λvs H1=>sp (vs++dvs) H1 Q E
def ga(K:W.Frag)(fd:FuncData)(ps:List Str)(ds:List Value):Prop:=
 ∀(s:Shared)(us:List Value),K.In s.heap->(us++ds).length=ps.length->BindsTo s fd ⟨us,[]⟩ (ps.zip (us++ds))
theorem ga.all{K:W.Frag}{fd:FuncData}{ps:List Str}(h:∀us:List Value,us.length=ps.length->bindArgs fd ⟨us,[]⟩=pure (ps.zip us)):ga K fd ps []:=λs us _ hl=>by
 rw[ui]at hl ⊢;exact .of_eq (h us hl)
def JX(CX:qg)(X:Cx)(E:XK):Prop:=∀(z6:List (Addr×Obj)) (σ:St) (H:Hp) (s:Shared) (e:Value) (s':Shared),Inv X z6 σ H s->CX X.stack H s E e s'->X.xe e s'
section
variable{X:Cx}{CX:qg}{k:Nat}{f C:Addr}{fd:FuncData}{ps:List Str}{sp:Sp}{dvs:List V}{ds:List Value}{E:XK}{x m:Str}{p pos apos:Pos}{e o:Expr}{es:List Expr}{ta:TE}{t:TA}
theorem bo{z6:List (Addr×Obj)}{σ:St}{H:Hp}{s:Shared}{Q:VK}{us:List Value}{vs:List V}(F:qL X.prog X.w X.K X.mg X.base CX k f fd ps sp)(hr:w8 k X.A)(hb:ga X.K fd ps ds)(hd:zy dvs ds)(hx:JX CX X E)
  (I:Inv X z6 σ H s)(r:zy vs us)(h:sp (vs++dvs) H Q E):wpAny (model X.prog X.w) X.A (call (.ref f) us) (EP X z6 σ Q) X.xe s:=by
 have r2:zy (vs++dvs) (us++ds):=r.append hd;have hl:(us++ds).length=ps.length:=by rw[<-r2.length]; exact F.len _ _ _ _ h
 refine J0 (VS (F.run X.A X.stack s H ⟨us,[]⟩ (us++ds) (vs++dvs) Q E hr I.HK (hb s us I.wF hl) r2 h) λr s' hq=>?_);cases r with
 |error e=>exact hx z6 σ H s e s' I hq
 |ok fl=>
  cases fl with
  |ret u=>exact I.after hq
  |next=>exact False.elim hq
  |brk=>exact False.elim hq
  |cont=>exact False.elim hq
theorem Ad(F:qL X.prog X.w X.K X.mg X.base CX k f fd ps sp)(hr:w8 k X.A)(hg:Gl X x)(hm:X.mg x=some (.ref f))(hk:W.keepIn X.K (.ref f)=true)(hb:ga X.K fd ps ds)(hd:zy dvs ds)(hx:JX CX X E)
  (ha:PA X (e::es) t)(hdb:(x==("__debug__" : Str))=false:=by decide)(he:starEach (e::es) X.env=(false,eval e X.env)::starEach es X.env:=by rfl)(hpl:(backTo pos (starEach es X.env)).any (·.1)=false:=by rfl) :
  PE X (.Call (.Name x p) (e::es) [] pos) (G8 sp dvs E t):=by
 intro z6 s σ H Q I h;refine Qz (Dm I hg hm ?_ hdb);refine W.callWith_K (h₀:=X.base) I.ok.mod.JA hk (zi (ha pos z6 s σ H _ I h) λus s1 ⟨vs,H1,I1,r,q⟩=>⟨I1.wF,?_⟩) he hpl;exact bo F hr hb hd hx I1 r q
end
def PK(X:Cx)(kws:List Keyword)(t:TA):Prop:=
 ∀(pos:Pos)(z6:List (Addr×Obj)) (s:Shared) (σ:St) (H:Hp) (Q:List V->Hp->Prop),Inv X z6 σ H s->t σ H Q->wpAny (model X.prog X.w) X.A (evalAll ((backToKw pos (keywordEach kws X.env)).map (·.2))) (AP X z6 σ Q) X.xe s
section
variable{X:Cx}{CX:qg}{k:Nat}{f C:Addr}{fd:FuncData}{ps ks:List Str}{sp:Sp}{E:XK}{x m:Str}{p pos apos kpos:Pos}{e o:Expr}{es:List Expr}{kws:List Keyword}{te ta:TE}{t tk:TA}{nm:Option Str}
theorem aO:PK X [] Yd:=λ_ _ _ _ H Q I h=>wpAny_evalAll_nil ⟨[],H,I,.nil,h⟩
theorem aN(ha:PE X e te)(hr:PK X kws t):PK X (⟨nm,e,kpos⟩::kws) (Z1 te t):=by
 intro pos z6 s σ H Q I h;show wpAny _ _ (evalAll ((do let v <-eval e X.env; standAt pos; pure v)::(backToKw pos (keywordEach kws X.env)).map (·.2))) _ _ s;refine wpAny_evalAll_cons (zC (zi (ha z6 s σ H _ I h) λu s1 ⟨x,H1,I1,r1,q1⟩=>zC (Mm (zO ?_))));exact zi (hr pos z6 s1 σ H1 _ I1 q1) λus s2 ⟨xs,H2,I2,r2,q2⟩=>⟨x::xs,H2,I2,.cons r1 r2,q2⟩
variable{g:List Value->List Value->List Value}{gV:List V->List V->List V}
end
structure yG(N P:List Str)(sc:Scope):Prop where
 kind:sc.kind=.function
 co:sc.isCoroutine=false
 gen:sc.isGenerator=false
 nd:N.Nodup
 pre:N.take P.length=P
 par:∀x∈P,sc.names.lookup x=some .local\/sc.names.lookup x=some .cell
 HP:∀y∈sc.names,y.2≠.free
theorem BL{kindOf:Str->Option NameKind}{x:Str}:∀{binds:List (Str×Value)} {m:Str->Option Value},(∀v,(x,v) ∉ binds)->bindL kindOf binds m x=m x
 | [],_,_=>rfl
 |(n,v)::r,m,h=>by
  unfold bindL;rw[BL λw hw=>h w (wQ _ hw)]
  split
  ·have:x≠n:=by rintro rfl; exact h v xV
   simp[this]
  ·rfl
theorem BJ{kindOf:Str->Option NameKind}{x:Str}:∀{binds:List (Str×Value)} {m:Str->Option Value},(∀v,(x,v) ∉ binds)->bindC kindOf binds m x=m x
 | [],_,_=>rfl
 |(n,v)::r,m,h=>by
  unfold bindC;rw[BJ λw hw=>h w (wQ _ hw)]
  split
  ·rfl
  ·have:x≠n:=by rintro rfl; exact h v xV
   simp[this]
theorem BK{kindOf:Str->Option NameKind}{x:Str}{v:Value}:∀{P:List Str}{vs:List Value}{i:Nat}{m:Str->Option Value},P.Nodup->P[i]?=some x->vs[i]?=some v->kindOf x=some .local->
  bindL kindOf (P.zip vs) m x=some v
 | [],_,_,_,_,h,_,_=>by simp at h
 |_::_,[],_,_,_,_,h,_=>by simp at h
 |p::P,w::vs,0,m,nd,h1,h2,hk=>by
  simp at h1 h2; subst h1; subst h2;show bindL kindOf ((p,w)::P.zip vs) m p=_;unfold bindL;rw[BL λv hv=>(VL.mp nd).1 (MM hv).1,zN hk];simp
 |p::P,w::vs,i+1,m,nd,h1,h2,hk=>by
  show bindL kindOf ((p,w)::P.zip vs) m x=_;unfold bindL;exact BK (i:=i) (VL.mp nd).2 (by simpa using h1) (by simpa using h2) hk
theorem BI{kindOf:Str->Option NameKind}{x:Str}{v:Value}:∀{P:List Str}{vs:List Value}{i:Nat}{m:Str->Option Value},P.Nodup->P[i]?=some x->vs[i]?=some v->kindOf x≠some .local->
  bindC kindOf (P.zip vs) m x=some v
 | [],_,_,_,_,h,_,_=>by simp at h
 |_::_,[],_,_,_,_,h,_=>by simp at h
 |p::P,w::vs,0,m,nd,h1,h2,hk=>by
  simp at h1 h2; subst h1; subst h2;show bindC kindOf ((p,w)::P.zip vs) m p=_;unfold bindC;rw[BJ λv hv=>(VL.mp nd).1 (MM hv).1,zS hk];simp
 |p::P,w::vs,i+1,m,nd,h1,h2,hk=>by
  show bindC kindOf ((p,w)::P.zip vs) m x=_;unfold bindC;exact BI (i:=i) (VL.mp nd).2 (by simpa using h1) (by simpa using h2) hk
def start(N:List Str)(vs:List V):St:=vs.map some++List.replicate (N.length-vs.length) none
def pV(CX:qg)(P:Program)(w:World)(K:W.Frag)(mg:Str->Option Value)(base:Heap)(N:List Str)(qual:Str)(scope:Scope)(f:Addr)(cd:Value)(A:Around)(outer:List Env)(s:Shared)(H:Hp)(E:XK):Cx where
 prog:=P
 w:=w
 K:=K
 mg:=mg
 base:=base
 A:=A.deeper (envOfC qual scope s.heap.objs.size f cd)
 N:=N
 s₀:=s
 H₀:=H
 env:=envOfC qual scope s.heap.objs.size f cd
 outer:=outer
 stack:=envOfC qual scope s.heap.objs.size f cd::outer
 ex:=[]
 calm:=true
 fn:=λ_=>true
 pn:=[]
 xe:=λe s'=>wpAny (model P w) (A.deeper (envOfC qual scope s.heap.objs.size f cd)) (leaving (envOfC qual scope s.heap.objs.size f cd) e) (λ_ s''=>CX outer H s E e s'') (λe' s''=>CX outer H s E e' s'') s'
theorem BW{sc:Scope}{n:Nat}{x:Str}(h:sc.names.lookup x=some .cell):∃c,(cellsFrom n sc.names []).lookup x=some c:=by
 have q:=W.cellsFrom_some sc.names n [] (.inl h);exact HE.mp q
theorem PX{CX:qg}{P:Program}{w:World}{K:W.Frag}{mg:Str->Option Value}{base:Heap}{N ps:List Str}{qual:Str}{scope:Scope}{f:Addr}{cd:Value}{A:Around}{outer:List Env}{s s1:Shared}{H:Hp}{E:XK}{us:List Value}{vs:List V}
  (S:yG N ps scope)(hd:A.handled=none)(e0:U5 P w K mg base A outer s H)(hl:vs.length=ps.length)(r:zy vs us)
  (x:InCallC s s.heap.objs.size (bindL (envOfC qual scope s.heap.objs.size f cd).kindOf (ps.zip us) λ_=>none) (cellsFrom (s.heap.objs.size+1) scope.names []) (bindC (envOfC qual scope s.heap.objs.size f cd).kindOf (ps.zip us) λ_=>none) s1) :
  Inv (pV CX P w K mg base N qual scope f cd A outer s H E) [] (start N vs) H s1:=by
 have hpl:ps.length<=N.length:=by have:=congrArg List.length S.pre; rw[gN]at this; omega
 obtain⟨h1,tk,rfl,hk⟩:=x.done;have noA:∀b:Addr,b ∉ (pV CX P w K mg base N qual scope f cd A outer s H E).ex:=λb z=>absurd (show b∈([]:List Addr)from z) (by simp)
 refine⟨⟨e0.mod,S.kind,rfl,rfl,zr _,λy z c h1 h2=>?_,λy hy=>?_,λy c _ h=>?_,λ_=>hd,Around.frames_deeper e0.frames,.inr ⟨rfl,rfl⟩,λb z=>absurd z (noA b),e0.bs,e0.pK,λb _ _=>noA b,λb z=>absurd z (noA b),e0.tN,e0.gY⟩,
  rfl,e0.bare,Un.kept hk,⟨_,x.toInCall.ns,λi y v h1 h2 h3=>?_⟩,λy c h=>⟨_,x.cell y c h⟩,e0.za.fresh (zr _),λy c h=>?_,λp hp=>absurd (show p∈([]:List (Addr×Obj))from hp) (by simp),e0.za.kept hk,?_⟩
 ·exact name_of_addr x.apart (PySem.mem_of_lookup h1) (PySem.mem_of_lookup h2)
 ·have hy:scope.names.lookup y=some .cell\/scope.names.lookup y=some .free:=hy;rcases hy with hy|hy
  ·exact BW hy
  ·exact absurd rfl (S.HP _ (PySem.mem_of_lookup hy))
 ·exact jF (x.above y c (PySem.mem_of_lookup h))
 ·have hi:i<vs.length:=by
   unfold start at h2;by_cases hi:i<vs.length
   ·exact hi
   ·rw[MH (by simpa using hi)]at h2;rw[Gp]at h2
    split at h2<;>cases h2
  have ha:vs[i]?=some v:=by
   unfold start at h2;rw[Z9 (by simpa using hi),xM]at h2;cases e:vs[i]? with
   |none=>rw[e]at h2; cases h2
   |some a=>rw[e]at h2; cases h2; rfl
  obtain⟨u,hu,rv⟩:=r.get ha
  have hp:ps[i]?=some y:=by
   rw[<-S.pre,List.getElem?_take_of_lt (by omega)]; exact h1
  have ndP:ps.Nodup:=by rw[<-S.pre]; exact S.nd.sublist (List.take_sublist _ _)
  refine⟨u,rv,?_⟩;rcases S.par y (tJ hp)with k|k
  ·exact .inl ⟨k,BK ndP hp hu k⟩
  ·obtain⟨c,e⟩:=BW (n:=s.heap.objs.size+1) k;refine .inr ⟨.inl k,c,e,?_⟩;have q:=x.cell y c e;rw[BI ndP hp hu (by show scope.names.lookup y≠_; rw[k]; decide)]at q;exact q
 ·exact e0.za.fresh (jF (x.above y c (PySem.mem_of_lookup h)))
 ·unfold start;show _=N.length;rw[yj,zx,gM];omega
theorem N6{CX:qg}{P:Program}{w:World}{K:W.Frag}{mg:Str->Option Value}{base:Heap}{k:Nat}{f:Addr}{name qual:Str}{params:Arguments}{body:List Stmt}{scope:Scope}{dV kV doc pm cdv ct oc:Value}{an od:Option Addr}
  {osl:Array (Option Value)}{N ps:List Str}{sp:Sp}(lk:K.lookup f=some ⟨oc,od,.func (W.fnOf name qual params body scope dV kV doc pm an cdv ct),osl⟩)(hcd:W.codeIn K cdv qual=true)(S:yG N ps scope)
  (len:∀vs H Q E,sp vs H Q E->vs.length=ps.length)
  (hbody:∀(A:Around)(outer:List Env)(s:Shared)(H:Hp)(vs:List V)(Q:VK)(E:XK),w8 k (A.deeper (envOfC qual scope s.heap.objs.size f cdv))->sp vs H Q E->
   ∃t,vk (pV CX P w K mg base N qual scope f cdv A outer s H E) body t/\t { nx:=λ_ H'=>Q .zE H',rt:=Q } (start N vs) H) :
  qL P w K mg base CX (k+1) f (W.fnOf name qual params body scope dV kV doc pm an cdv ct) ps sp:=by
 refine⟨len,λA outer s H args us vs Q E hr e0 hb r hsp=>?_⟩;have hl:=len _ _ _ _ hsp;have KX:K.In s.heap:=e0.mod.JA.keeps λb o e=>(e0.bs b o e).1
 have lim:s.heap.NoLimit:=e0.mod.nolimit.keeps λb o e=>(e0.bs b o e).1
 have hkind:∀y∈ps.zip us,scope.names.lookup y.1=some .local\/(scope.names.lookup y.1=some .cell/\((cellsFrom (s.heap.objs.size+1) scope.names []).lookup y.1).isSome=true):=λ⟨n,v⟩ hy=>by
  rcases S.par n (MM hy).1 with q|q
  ·exact .inl q
  ·exact .inr ⟨q,W.cellsFrom_some _ _ _ (.inl q)⟩
 refine codeAny_call_function hr.depth (KX _ _ lk) rfl S.co S.gen rfl (W.codeRec_of KX hcd) (hb _ _ _ _ ?_);refine wpAny_newFunctionEnv_cells S.kind hkind λenv he s1 x=>?_
 subst he;refine⟨lim.keeps x.toInCall.keep,codeAny_func ?_⟩;obtain⟨t,ht,hq⟩:=hbody A outer s H vs Q E (hr.deeper _) hsp;have I:Inv (pV CX P w K mg base N qual scope f cdv A outer s H E) [] (start N vs) H s1:=PX S hr.hd e0 hl r x;refine v_ (ht [] s1 (start N vs) H _ I hq) (λfl s' hs=>?_) λe s' hs=>hs
 have fin:∀{σ':St}{H':Hp}{v:V}{u:Value},Inv (pV CX P w K mg base N qual scope f cdv A outer s H E) [] σ' H' s'->z_ v u->Q v H'->CE outer P w H s Q u s':=
  λ{σ' H' v u} J rv q=>⟨v,H',J.os,J.bare,J.base,J.za,rv,q⟩
 cases fl with
 |ret u=>
  obtain⟨v,σ',H',J,rv,q⟩:=hs;exact fin J rv q
 |next=>
  obtain⟨σ',H',J,q⟩:=hs;exact fin (v:=V.zE) (u:=Value.none) J rfl q
 |brk=>
  obtain⟨_,_,_,q⟩:=hs;exact False.elim q
 |cont=>
  obtain⟨_,_,_,q⟩:=hs;exact False.elim q
section
variable{X:Cx}{x:Str}{p pos:Pos}{e:Expr}{es:List Expr}{t:TA}{id T:String}{r:List V->Hp->VK->Prop}
def QH(r:List V->Hp->VK->Prop)(t:TA):TE:=λσ H Q=>t σ H λvs H1=>r vs H1 Q
theorem Ae(hc:wK X (.builtin id) r)(hg:Gl X x)(hm:X.mg x=none)(hv:bootBuiltins x=some (.builtin id))(ha:PA X (e::es) t)(hn:x ≠ "__name__" := by decide)(hdb:(x==("__debug__" : Str))=false:=by decide)
  (he:starEach (e::es) X.env=(false,eval e X.env)::starEach es X.env:=by rfl)(hpl:(backTo pos (starEach es X.env)).any (·.1)=false:=by rfl):PE X (.Call (.Name x p) (e::es) [] pos) (QH r t):=by
 intro z6 s σ H Q I h;refine Qz (jo I hg hm hv ?_ hn hdb);exact PyProof.Rows.callWith_builtin1 (zi (ha pos z6 s σ H _ I h) λus s1 ⟨vs,H1,I1,r1,q1⟩=>hc z6 s1 σ H1 vs us Q I1 r1 q1) he hpl
theorem Af(hc:wK X (.type T) r)(hg:Gl X x)(hm:X.mg x=none)(hv:bootBuiltins x=some (.type T))(ha:PA X (e::es) t)(hn:x ≠ "__name__" := by decide)(hdb:(x==("__debug__" : Str))=false:=by decide)
  (he:starEach (e::es) X.env=(false,eval e X.env)::starEach es X.env:=by rfl)(hpl:(backTo pos (starEach es X.env)).any (·.1)=false:=by rfl):PE X (.Call (.Name x p) (e::es) [] pos) (QH r t):=by
 intro z6 s σ H Q I h;refine Qz (jo I hg hm hv ?_ hn hdb);exact VQ (zi (ha pos z6 s σ H _ I h) λus s1 ⟨vs,H1,I1,r1,q1⟩=>hc z6 s1 σ H1 vs us Q I1 r1 q1) he hpl
end
end L2
namespace HT
open PySem PyProof.Rows
section
open PySem.SeqAt
open PySem.AutoSeq1 (wpAny_loadPart')
open PySem.MeetsSeq PySem.MeetsSeq2 PySem.MeetsSeq3
end
section
variable{prog:Program}{w:World}{A:Around}{E:Value->Shared->Prop}{s:Shared}
theorem cat_tup{t b:Addr}{vs ws:List Value}{Q:Value->Shared->Prop}(ht:IsTup s.heap t vs.toArray)(hb:IsTup s.heap b ws.toArray)(hv:vs≠[])
  (h1:ws=[]->Q (.ref t) s)(h2:ws≠[]->Q (.ref s.heap.objs.size) { s with heap:=s.heap.push { cls:=.type "tuple",data:=.seq (vs++ws).toArray } })
  (hsz:vs.length+ws.length<=sizeLine):wpAny (model prog w) A (binaryOp .Add (.ref t) (.ref b)) Q E s:=by
 obtain⟨⟨cls,dd,data,sl⟩,ho,hc,n,hd⟩:=id ht;obtain⟨⟨cls2,dd2,data2,sl2⟩,ho2,hc2,n2,hd2⟩:=id hb;simp only at hc hd hc2 hd2;subst hc hd hc2 hd2;have e:vs.toArray++ws.toArray=(vs++ws).toArray:=by simp
 by_cases hw:ws=[]
 ·exact concat_meets ⟨_,ho,rfl⟩ ⟨_,ho2,rfl⟩ noFill_tuple_add seq_tuple_add PySem.F.slot_tuple_add PySem.F.entry_tuple_add (PySem.F.args_tuple_add_2 _ _)
   (tuple_addW1 t b vs.toArray ws.toArray n n2 dd dd2 sl sl2 (by simpa using hv) (by simp[hw])) ⟨ho,ho2,h1 hw⟩
 ·refine concat_meets ⟨_,ho,rfl⟩ ⟨_,ho2,rfl⟩ noFill_tuple_add seq_tuple_add PySem.F.slot_tuple_add PySem.F.entry_tuple_add (PySem.F.args_tuple_add_2 _ _)
   (tuple_addW2 t b vs.toArray ws.toArray n n2 dd dd2 sl sl2 (by simpa using hv) (by simpa using hw) (by rw[yk,yk]; exact hsz)) ⟨ho,ho2,?_⟩
  rw[e];exact h2 hw
def sIx(n d:Nat):Option Int->Nat
 |none=>d
 |some v=>if v<0 then(v+(n:Int)).toNat else min v.toNat n
theorem sIx_le(n d:Nat)(hd:d<=n)(o:Option Int):sIx n d o<=n:=by
 cases o with
 |none=>exact hd
 |some v=>
  show(if v<0 then(v+(n:Int)).toNat else min v.toNat n)<=n;by_cases hv:v<0
  ·rw[zN hv]; omega
  ·rw[zS hv]; exact Nat.min_le_right _ _
theorem BX(v:Int)(n d:Nat):(if v<0 then max (v+(n:Int)) 0 else min v (n:Int))=((sIx n d (some v):Nat):Int):=by
 show(if v<0 then max (v+(n:Int)) 0 else min v (n:Int))=(((if v<0 then(v+(n:Int)).toNat else min v.toNat n):Nat):Int);by_cases hv:v<0
 ·simp only[zN hv]; omega
 ·simp only[zS hv]; omega
theorem Hh(lo hi:Option Int)(n:Nat):Builtin.Slice.sliceAdjust lo hi 1 (n:Int)=(((sIx n 0 lo:Nat):Int),((sIx n n hi:Nat):Int)):=by
 have h1:¬ ((1:Int)<0):=by omega
 unfold Builtin.Slice.sliceAdjust;simp only[h1,qF];refine Prod.ext ?_ ?_
 ·cases lo with
  |none=>rfl
  |some v=>exact BX v n 0
 ·cases hi with
  |none=>rfl
  |some v=>exact BX v n n
theorem aQ(i j:Nat):Builtin.Slice.slicePlaces (i:Int) (j:Int) 1=j-i:=by
 unfold Builtin.Slice.slicePlaces;have h1:(1:Int)>0:=by omega
 simp only[h1,ul,VF]
 split<;>omega
theorem Er{v:Value}{o:Option Int}{Q:Option Int->Shared->Prop}(p:IsPart v o)(h:Q o s):wpAny (model prog w) A (Builtin.Slice.slicePartIndex v) Q E s:=by
 cases p with
 |none=>exact slicePart_none h
 |int i t=>exact slicePart_int h
theorem Ep{sl:Addr}{vl vu:Value}{lo hi:Option Int}{n:Nat}{Q:Int×Int×Nat->Shared->Prop}(hs:s.heap.IsSliceOf sl vl vu .none)(pl:IsPart vl lo)(pu:IsPart vu hi)
  (h:Q (((sIx n 0 lo:Nat):Int),1,sIx n n hi-sIx n 0 lo) s):wpAny (model prog w) A (Builtin.Slice.sliceApplied (.ref sl) (pure (n:Int))) Q E s:=by
 obtain⟨os,hos,hcs,hds⟩:=id hs;unfold Builtin.Slice.sliceApplied Builtin.Slice.sliceFields;refine zC (zC (vz hos hds (x:=vl) rfl (zC (vz hos hds (x:=vu) rfl (zC (vz hos hds (x:=.none) rfl (zO ?_)))))));refine zC (slicePart_none ?_);show wpAny _ _ (if((1:Int)==0)=true then _ else _) _ _ s;rw[zS (by decide)];refine zC (Er pl (zC (Er pu (zC (zO ?_)))));show wpAny _ _ (match Builtin.Slice.sliceAdjust lo hi 1 (n:Int)with|(lo,hi)=>pure (lo,(1:Int),Builtin.Slice.slicePlaces lo hi 1)) _ _ s;rw[Hh lo hi n];show wpAny _ _ (pure (((sIx n 0 lo:Nat):Int),(1:Int),Builtin.Slice.slicePlaces ((sIx n 0 lo:Nat):Int) ((sIx n n hi:Nat):Int) 1)) _ _ s;rw[aQ];exact zO h
theorem aL(xs:Array Value)(i k:Nat):((List.range k).filterMap λ(m:Nat)=>xs[((i:Int)+(m:Int)*1).toNat]?).toArray=((xs.toList.drop i).take k).toArray:=by
 have e:(λ(m:Nat)=>xs[((i:Int)+(m:Int)*1).toNat]?)=λm=>xs[i+m]?:=by
  funext m
  have:((i:Int)+(m:Int)*1).toNat=i+m:=by omega
  rw[this]
 rw[e];have:=pick_run xs i k;rw[List.filterMap_map]at this;have e2:((λx=>xs[x]?)∘λx=>i+x)=λm=>xs[i+m]?:=rfl
 rw[e2]at this;rw[this]
theorem getItem_tuple_cut{t sl:Addr}{zF:Array Value}{vl vu:Value}{lo hi:Option Int}{Q:Value->Shared->Prop}(ht:IsTup s.heap t zF)(hs:s.heap.IsSliceOf sl vl vu .none)(pl:IsPart vl lo)(pu:IsPart vu hi)
  (hw:¬ (sIx zF.size 0 lo=0/\sIx zF.size zF.size hi=zF.size))
  (h:Q (.ref s.heap.objs.size) { s with heap:=s.heap.push { cls:=.type "tuple",data:=.seq ((zF.toList.drop (sIx zF.size 0 lo)).take (sIx zF.size zF.size hi-sIx zF.size 0 lo)).toArray } })
  (hsz:zF.size<=sizeLine):wpAny (model prog w) A (getItem (.ref t) (.ref sl)) Q E s:=by
 have htake:sizeOk (.seq ((zF.toList.drop (sIx zF.size 0 lo)).take (sIx zF.size zF.size hi-sIx zF.size 0 lo)).toArray):=by
  show((zF.toList.drop (sIx zF.size 0 lo)).take (sIx zF.size zF.size hi-sIx zF.size 0 lo)).toArray.size<=sizeLine;rw[yk,gN,ZA,wj];omega
 have hj:sIx zF.size zF.size hi<=zF.size:=sIx_le _ _ (zr _) hi;obtain⟨os,hos,hcs,hds⟩:=id hs;have hTs:s.TypeIs (.ref sl) "slice" := ⟨os,hos,hcs⟩;unfold getItem
 try with_reducible refine qG ?_
 first|refine zC (zO ?_)|skip
 refine zC (wpAny_sequenceKey ht.typeIs (by decide) ?_)
 refine zC (pJ (name:=Str.ofString "__getitem__") ht.typeIs Yr
  (tL Yr ht.typeIs entry_tuple_getitem ?_ (args_tuple_getitem _ _)))
 show wpAny _ _ (Builtin.Tuple.tupleItemsOf (.ref t) >>= _) _ _ s;refine zC (tupleItemsOf_ ht ?_);refine zC (gU hTs ?_);rw[zN (by decide)];refine zC (Ep hs pl pu ?_)
 have hno:¬ ((((sIx zF.size 0 lo:Nat):Int)==0&&(1:Int)==1&&(sIx zF.size zF.size hi-sIx zF.size 0 lo)==zF.size)=true):=by
  intro q;rw[xP,xP]at q;have q1:((sIx zF.size 0 lo:Nat):Int)=0:=eq_of_beq q.1.1;have q2:sIx zF.size zF.size hi-sIx zF.size 0 lo=zF.size:=eq_of_beq q.2;exact hw ⟨by omega,by omega⟩
 show wpAny _ _ (if(((sIx zF.size 0 lo:Nat):Int)==0&&(1:Int)==1&&(sIx zF.size zF.size hi-sIx zF.size 0 lo)==zF.size)=true then _ else _) _ _ s;rw[zS hno,aL]
 first
  |exact zC (m:=Builtin.Tuple.tupleExact _) (um (zO ⟨_,rfl,zO h⟩) htake)
  |exact zC (m:=Builtin.Tuple.tupleExact _) (um (zC (zO (zO ⟨_,rfl,zO h⟩))) htake)
  |exact zC (zC (m:=Builtin.Tuple.tupleExact _) (um (zO (zO ⟨_,rfl,zO h⟩)) htake))
  |exact zC (zC (m:=Builtin.Tuple.tupleExact _) (um (zO ⟨_,rfl,zO h⟩) htake))
end
end HT
namespace L2
open PySem PySem.Spec PyProof.Rows
abbrev TO:=St->Hp->(Option Int->Hp->Prop)->Prop
def PO(X:Cx)(e:Option Expr)(t:TO):Prop:=
 ∀(z6:List (Addr×Obj)) (s:Shared) (σ:St) (H:Hp) (Q:Option Int->Hp->Prop),Inv X z6 σ H s->t σ H Q->
  wpAny (model X.prog X.w) X.A (evalPart e X.env) (λu s'=>∃o H',Inv X z6 σ H' s'/\IsPart u o/\Q o H') X.xe s
def h9:TO:=λ_ H Q=>Q none H
def hW(t:TE):TO:=λσ H Q=>t σ H λx H1=>∃i,x=.int i/\Q (some i) H1
section
variable{X:Cx}{e:Expr}{te:TE}{lo hi:Option Expr}{tl th:TO}{pos p2:Pos}
theorem aX:PO X none h9:=by
 intro z6 s σ H Q I h;rw[evalPart_none];exact zO ⟨none,H,I,.none,h⟩
theorem aY(h:PE X e te):PO X (some e) (hW te):=by
 intro z6 s σ H Q I hw;rw[evalPart_some];refine zi (h z6 s σ H _ I hw) λu s1 ⟨x,H1,I1,r1,q1⟩=>?_
 obtain⟨i,rfl,q⟩:=q1;obtain⟨t,rfl⟩:=r1;exact⟨some i,H1,I1,.int i t,q⟩
def ql(X:Cx)(r:V->Option Int->Option Int->Hp->VK->Prop):Prop:=
 ∀(z6:List (Addr×Obj)) (s:Shared) (σ:St) (H:Hp) (x:V) (v vl vu:Value) (lo hi:Option Int) (sl:Addr) (Q:VK),Inv X z6 σ H s->z_ x v->s.heap.IsSliceOf sl vl vu .none->IsPart vl lo->IsPart vu hi->r x lo hi H Q->
  ∃T id,typeLookup (.type T) "__getitem__" = pure (some (.builtin id))/\s.TypeIs v T/\wpAny (model X.prog X.w) X.A (getItem v (.ref sl)) (EP X z6 σ Q) X.xe s
theorem ql.or{r r':V->Option Int->Option Int->Hp->VK->Prop}(h:ql X r)(h':ql X r'):ql X (λx lo hi H Q=>r x lo hi H Q\/r' x lo hi H Q):=by
 intro z6 s σ H x v vl vu lo hi sl Q I rx hs pl pu q;rcases q with q|q
 ·exact h z6 s σ H x v vl vu lo hi sl Q I rx hs pl pu q
 ·exact h' z6 s σ H x v vl vu lo hi sl Q I rx hs pl pu q
def i6(r:V->Option Int->Option Int->Hp->VK->Prop)(te:TE)(tl th:TO):TE:=λσ H Q=>te σ H λx H1=>tl σ H1 λl H2=>th σ H2 λu H3=>r x l u H3 Q
theorem Cd{r:V->Option Int->Option Int->Hp->VK->Prop}(hr:ql X r)(he:PE X e te)(hl:PO X lo tl)(hu:PO X hi th):PE X (.Subscript e (.Slice lo hi none p2) pos) (i6 r te tl th):=by
 intro z6 s σ H Q I h;refine Subscript_ (zi (he z6 s σ H _ I h) λv s1 ⟨x,H1,I1,r1,q1⟩=>?_);refine wpAny_Slice (zi (hl z6 s1 σ H1 _ I1 q1) λvl s2 ⟨l,H2,I2,pl,q2⟩=>zi (hu z6 s2 σ H2 _ I2 q2) λvu s3 ⟨u,H3,I3,pu,q3⟩=>?_);rw[evalPart_none];refine zO ?_;have I4:Inv X z6 σ H3 { s3 with heap:=s3.heap.push { cls:=.type "slice",data:=.fields #[vl,vu,.none] } }:=I3.kept (t':=s3.toks) λb ob q=>Heap.get?_push_of_some _ q
 obtain⟨T,id,hT,ht,hg⟩:=hr z6 { s3 with heap:=s3.heap.push { cls:=.type "slice",data:=.fields #[vl,vu,.none] } } σ H3 x v vl vu l u s3.heap.objs.size Q I4 r1 (Heap.IsSliceOf.new ..) pl pu q3;show wpAny (model X.prog X.w) X.A (subscriptTail e (.Slice lo hi none p2) v (.ref s3.heap.objs.size)) (EP X z6 σ Q) X.xe { s3 with heap:=s3.heap.push { cls:=.type "slice",data:=.fields #[vl,vu,.none] } };exact tail_any (ops:=[.ref s3.heap.objs.size,v]) ht hT hg (by with_unfolding_all rfl)
def jd(xs:List V)(lo hi:Option Int):List V:=(xs.drop (HT.sIx xs.length 0 lo)).take (HT.sIx xs.length xs.length hi-HT.sIx xs.length 0 lo)
theorem BZ(xs:List V)(lo hi:Option Int):(jd xs lo hi).length<=xs.length:=by
 unfold jd;rw[gN,ZA];omega
def EE(K:W.Frag):V->Option Int->Option Int->Hp->VK->Prop:=λx lo hi H Q=>∃a xs,x=.ref a/\yu K H a xs/\
 ¬ (HT.sIx xs.length 0 lo=0/\HT.sIx xs.length xs.length hi=xs.length)/\∀p,H p=none->Q (.ref p) (zX H p (.tup (jd xs lo hi)))
theorem fC:ql X (EE X.K):=by
 intro z6 s σ H x v vl vu lo hi sl Q I rx hs pl pu h;obtain⟨a,xs,rfl,hx,hw,q⟩:=h;cases rx;obtain⟨its,r,ht,hz⟩:=I.tuple hx;have hlen:its.toArray.size=xs.length:=by rw[yk]; exact r.length.symm
 refine⟨"tuple",_,Yr.lookup,ht.typeIs,?_⟩;refine HT.getItem_tuple_cut ht hs pl pu (by rw[hlen]; exact hw) ?_ (by rw[hlen]; exact hz);rw[hlen];refine⟨.ref s.heap.objs.size,_,I.laid (t':=s.toks) (o:=.tup (jd xs lo hi)) (λb ob q=>Heap.get?_push_of_some _ q) (zr _) ?_,rfl,q _ (I.za.fresh (zr _))⟩;exact⟨xv (BZ xs lo hi) hz,_,(r.drop (HT.sIx xs.length 0 lo)).take (HT.sIx xs.length xs.length hi-HT.sIx xs.length 0 lo),IsTup.new _ _⟩
def E6(K:W.Frag):R2:=λx y H Q=>∃a b xs ys,x=.ref a/\y=.ref b/\yu K H a xs/\yu K H b ys/\xs≠[]/\xs.length+ys.length<=sizeLine/\
 (ys=[]->Q (.ref a) H)/\(ys≠[]->∀p,H p=none->Q (.ref p) (zX H p (.tup (xs++ys))))
theorem zy.JE{xs:List V}{us:List Value}(r:zy xs us):us=[]↔xs=[]:=by
 cases r with
 |nil=>simp
 |cons _ _=>simp
theorem AH:yY X (binaryOp .Add) (E6 X.K):=by
 intro z6 s σ H x y v u Q I rx ry h;obtain⟨a,b,xs,ys,rfl,rfl,ha,hb,hx,hz,q1,q2⟩:=h;cases rx;cases ry;obtain⟨its,r1,p1,_⟩:=I.tuple ha;obtain⟨its2,r2,p2,_⟩:=I.tuple hb;refine HT.cat_tup p1 p2 (λz=>hx (r1.JE.mp z)) (λz=>⟨.ref a,H,I,rfl,q1 (r2.JE.mp z)⟩) (λz=>?_) (by rw[<-r1.length,<-r2.length]; exact hz);refine⟨.ref s.heap.objs.size,_,I.laid (t':=s.toks) (o:=.tup (xs++ys)) (λb ob q=>Heap.get?_push_of_some _ q) (zr _) ?_,rfl,q2 (λw=>z (r2.JE.mpr w)) _ (I.za.fresh (zr _))⟩;exact⟨by rw[yj]; exact hz,_,r1.append r2,IsTup.new _ _⟩
end
def YC(n:Nat)(i:Int):Option Nat:=if 0<=i then(if i<n then some i.toNat else none)else if -(n:Int)<=i then some (i+n).toNat else none
def tW{α:Type}(xs:List α)(i:Int):Option α:=(YC xs.length i).bind λj=>xs[j]?
theorem Ph{n:Nat}{i:Int}{j:Nat}(h:YC n i=some j):seqIndex? i n=some j/\j<n /\ -(n:Int)<=i/\i<n:=by
 unfold YC at h;by_cases h0:0<=i
 ·rw[zN h0]at h;by_cases h1:i<n
  ·rw[zN h1]at h;have e:i.toNat=j:=vV h;exact⟨by rw[seqIndex_of h0 h1,e],by omega,by omega,h1⟩
  ·rw[zS h1]at h; cases h
 ·rw[zS h0]at h;by_cases h1 : -(n:Int)<=i
  ·rw[zN h1]at h;have e:(i+n).toNat=j:=vV h;exact⟨by rw[seqIndex_neg (by omega) h1,e],by omega,h1,by omega⟩
  ·rw[zS h1]at h; cases h
theorem JZ{α:Type}{xs:List α}{i:Int}{v:α}(h:tW xs i=some v):∃j,seqIndex? i xs.length=some j/\xs[j]?=some v/\j<xs.length /\ -(xs.length:Int)<=i/\i<xs.length:=by
 unfold tW at h;cases e:YC xs.length i with
 |none=>rw[e]at h; cases h
 |some j=>
  rw[e]at h;obtain⟨h1,h2,h3,h4⟩:=Ph e;exact⟨j,h1,h,h2,h3,h4⟩
def M_(b:Expr):Prop:=∀o i,subscripted b false o i=operate [o,i] (getItem o i)
def ur(X:Cx)(r:R2):Prop:=
 ∀(value slice:Expr)(z6:List (Addr×Obj)) (s:Shared) (σ:St) (H:Hp) (x y:V) (v u:Value) (Q:VK),Inv X z6 σ H s->z_ x v->z_ y u->r x y H Q->
  subscripted slice false v u=operate [v,u] (getItem v u)->wpAny (model X.prog X.w) X.A (subscriptTail value slice v u) (EP X z6 σ Q) X.xe s
def X4(X:Cx)(id:String)(r:V->List V->Hp->VK->Prop):Prop:=
 ∀(z6:List (Addr×Obj)) (s:Shared) (σ:St) (H:Hp) (x:V) (xs:List V) (v:Value) (us:List Value) (Q:VK),Inv X z6 σ H s->z_ x v->zy xs us->r x xs H Q->
  wpAny (model X.prog X.w) X.A (call (.builtin id) (v::us)) (EP X z6 σ Q) X.xe s
section
variable{X:Cx}{a b:Expr}{ta tb:TE}{pos:Pos}
theorem ur.or{r r':R2}(h:ur X r)(h':ur X r'):ur X (λx y H Q=>r x y H Q\/r' x y H Q):=by
 intro value slice z6 s σ H x y v u Q I rx ry q hs;rcases q with q|q
 ·exact h value slice z6 s σ H x y v u Q I rx ry q hs
 ·exact h' value slice z6 s σ H x y v u Q I rx ry q hs
theorem Ou{r:R2}(hr:ur X r)(ha:PE X a ta)(hb:PE X b tb)(hs:M_ b):PE X (.Subscript a b pos) (QJ r ta tb):=by
 intro z6 s σ H Q I h;exact Subscript_ (Jd ha hb I h λv u s2 x y H2 I2 rx ry q=>hr a b z6 s2 σ H2 x y v u Q I2 rx ry q (hs _ _))
def E9(K:W.Frag):R2:=λx y H Q=>∃p xs i v,x=.ref p/\y=.int i/\yL K H p xs/\tW xs i=some v/\Q v H
def EB(K:W.Frag):R2:=λx y H Q=>∃p xs i v,x=.ref p/\y=.int i/\yu K H p xs/\tW xs i=some v/\Q v H
def EA:R2:=λx y H Q=>∃z i c,x=.str z/\y=.int i/\z.length<=sizeLine/\tW z.cps.toList i=some c/\Q (.str ⟨#[c]⟩) H
theorem Pj:ur X (E9 X.K):=by
 intro value slice z6 s σ H x y v u Q I rx ry h hs;obtain⟨p,xs,i,z,rfl,rfl,hq,he,q⟩:=h;cases rx;obtain⟨t,rfl⟩:=ry;obtain⟨its,r,pl,hz⟩:=I.list hq;obtain⟨j,h1,h2,h3,h4,h5⟩:=JZ he;obtain⟨w,ew,rw'⟩:=r.get h2;have hl:=r.length;have hn:=YG;have fin:EP X z6 σ Q w s:=⟨z,H,I,rw',q⟩;by_cases h0:0<=i
 ·have hj:i.toNat=j:=by
   rw[seqIndex_of h0 h5]at h1;exact vV h1
  exact item_listR pl.isList h0 (by omega) (by rw[hj]; simpa using ew) fin hs
 ·have hj:(i+(its.toArray.size:Int)).toNat=j:=by
   rw[seqIndex_neg (by omega) h4]at h1;rw[yk,<-hl];exact vV h1
  exact Qx (x:=w) pl.isList.typeIs slot_list_getitem.lookup
   (wpAny_getItem_list_neg (Q:=λr s'=>r=w/\EP X z6 σ Q r s') pl.isList (by omega) (by rw[yk]<;>omega) (by omega) (by rw[hj]; simpa using ew) ⟨rfl,fin⟩) hs
theorem Pm:ur X (EB X.K):=by
 intro value slice z6 s σ H x y v u Q I rx ry h hs;obtain⟨p,xs,i,z,rfl,rfl,hq,he,q⟩:=h;cases rx;obtain⟨t,rfl⟩:=ry;obtain⟨its,r,pl,hz⟩:=I.tuple hq;obtain⟨j,h1,h2,h3,h4,h5⟩:=JZ he;obtain⟨w,ew,rw'⟩:=r.get h2;have hl:=r.length;have hn:=YG;have fin:EP X z6 σ Q w s:=⟨z,H,I,rw',q⟩
 exact Qx (x:=w) pl.typeIs slot_tuple_getitem.lookup
  (getItem_tuple (j:=j) (Q:=λr s'=>r=w/\EP X z6 σ Q r s') pl (by omega) (by omega) (by rw[yk,<-hl]; exact h1) (by simpa using ew) ⟨rfl,fin⟩) hs
theorem Pl:ur X EA:=by
 intro value slice z6 s σ H x y v u Q I rx ry h hs;obtain⟨z,i,c,rfl,rfl,hz,he,q⟩:=h;obtain⟨t,rfl⟩:=rx;obtain⟨t',rfl⟩:=ry;obtain⟨j,h1,h2,h3,h4,h5⟩:=JZ he;have hl:z.cps.toList.length=z.length:=by simp[Str.length]
 rw[hl]at h1 h4 h5;have hn:=YG
 exact tail_any (Qy s z t) slot_str_getitem.lookup (getItem_str (c:=c) (by
  have e1:decide (i < -(2 ^ 63:Int))=false:=ye (by omega);have e2:decide (i≥2 ^ 63)=false:=ye (by omega);rw[e1,e2,Qh]) (by rw[h1]; simpa using h2) ⟨.str ⟨#[c]⟩,H,I.tok _,⟨_,rfl⟩,q⟩) hs
def LC(K:W.Frag):R2:=λx y H Q=>E9 K x y H Q\/EB K x y H Q\/EA x y H Q
theorem Pk:ur X (LC X.K):=Pj.or (Pm.or Pl)
theorem fF(lo hi:Option Int)(n:Nat):(sliceBounds lo hi none n).1=((HT.sIx n 0 lo:Nat):Int)/\(sliceBounds lo hi none n).2.1=((HT.sIx n n hi:Nat):Int)/\(sliceBounds lo hi none n).2.2=1:=by
 refine⟨?_,?_,rfl⟩
 ·cases lo with
  |none=>simp[sliceBounds,HT.sIx]
  |some i=>
   simp only[sliceBounds,HT.sIx,Option.getD_none,show(1:Int)>0 by decide,ul];by_cases h:i<0
   ·simp only[h,ul]<;>omega
   ·simp only[h,qF]<;>omega
 ·cases hi with
  |none=>simp[sliceBounds,HT.sIx]
  |some i=>
   simp only[sliceBounds,HT.sIx,Option.getD_none,show(1:Int)>0 by decide,ul];by_cases h:i<0
   ·simp only[h,ul]<;>omega
   ·simp only[h,qF]<;>omega
theorem fE(its:List Value)(lo hi:Option Int):slicePick its.toArray lo hi none=((its.drop (HT.sIx its.length 0 lo)).take (HT.sIx its.length its.length hi-HT.sIx its.length 0 lo)).toArray:=by
 obtain⟨h1,h2,h3⟩:=fF lo hi its.toArray.size;unfold slicePick;rw[h1,h2,h3];simp only[sliceRange_one,pick_run,yk]<;>rfl
def EC(K:W.Frag):V->Option Int->Option Int->Hp->VK->Prop:=λx lo hi H Q=>∃a xs,x=.ref a/\yL K H a xs/\∀p,H p=none->Q (.ref p) (zX H p (.lst (jd xs lo hi)))
theorem fA:ql X (EC X.K):=by
 intro z6 s σ H x v vl vu lo hi sl Q I rx hs pl pu h;obtain⟨a,xs,rfl,hx,q⟩:=h;cases rx;obtain⟨its,r,ht,hz⟩:=I.list hx;have hlen:=r.length;refine⟨"list",_,slot_list_getitem.lookup,ht.isList.typeIs,?_⟩;refine wpAny_getItem_list_slice ht.isList hs pl pu .none (by simp) ?_ (by rw[yk]<;>omega);rw[fE,<-hlen];refine⟨.ref s.heap.objs.size,_,I.laid (t':=s.toks) (o:=.lst (jd xs lo hi)) (λb ob q=>Heap.get?_push_of_some _ q) (zr _) ?_,rfl,q _ (I.za.fresh (zr _))⟩;exact⟨xv (BZ xs lo hi) hz,_,0,(r.drop (HT.sIx xs.length 0 lo)).take (HT.sIx xs.length xs.length hi-HT.sIx xs.length 0 lo),Heap.get?_push_size _ rfl⟩
def uA:V->Bool
 |.zE=>true
 |.bl _=>true
 |.int _=>true
 |.str _=>true
 |_=>false
def vM:V->V->Bool
 |.zE,.zE=>true
 |.bl a,.bl b=>a==b
 |.bl a,.int b=>(if a then 1 else 0)==b
 |.int a,.bl b=>a==(if b then 1 else 0)
 |.int a,.int b=>a==b
 |.str a,.str b=>a==b
 |_,_=>false
theorem Bt{A:Around}{s:Shared}{y x:V}{u v:Value}(ry:z_ y u)(rx:z_ x v)(fy:uA y=true)(fx:uA x=true):SeqAt.EqAt A s u v (vM y x):=by
 cases y with
 |zE=>
  cases ry;cases x with
  |zE=>cases rx; exact MZ _
  |bl b=>cases rx; exact SeqAt.EqAt.none_bool b
  |int b=>obtain⟨t,rfl⟩:=rx; exact SeqAt.EqAt.none_int b t
  |str b=>obtain⟨t,rfl⟩:=rx; exact SeqAt.EqAt.none_str b t
  |_=>exact absurd (show false=true from fx) yz
 |bl a=>
  cases ry;cases x with
  |zE=>cases rx; exact SeqAt.EqAt.bool_none a
  |bl b=>cases rx; exact SeqAt.EqAt.bool_bool a b
  |int b=>obtain⟨t,rfl⟩:=rx; exact SeqAt.EqAt.bool_int a b t
  |str b=>obtain⟨t,rfl⟩:=rx; exact SeqAt.EqAt.bool_str a b t
  |_=>exact absurd (show false=true from fx) yz
 |int a=>
  obtain⟨t',rfl⟩:=ry;cases x with
  |zE=>cases rx; exact SeqAt.EqAt.int_none a t'
  |bl b=>cases rx; exact SeqAt.EqAt.int_bool a t' b
  |int b=>obtain⟨t,rfl⟩:=rx; exact SeqAt.EqAt.int_int a t' b t
  |str b=>obtain⟨t,rfl⟩:=rx; exact SeqAt.EqAt.int_str a t' b t
  |_=>exact absurd (show false=true from fx) yz
 |str a=>
  obtain⟨t',rfl⟩:=ry;cases x with
  |zE=>cases rx; exact SeqAt.EqAt.str_none a t'
  |bl b=>cases rx; exact SeqAt.EqAt.str_bool a t' b
  |int b=>obtain⟨t,rfl⟩:=rx; exact SeqAt.EqAt.str_int a t' b t
  |str b=>obtain⟨t,rfl⟩:=rx; exact SeqAt.EqAt.str_str a t' b t
  |_=>exact absurd (show false=true from fx) yz
 |_=>exact absurd (show false=true from fy) yz
def vF(x:V)(u:Value):Bool:=match u with
 |.none=>vM .zE x
 |.bool b=>vM (.bl b) x
 |.int i _=>vM (.int i) x
 |.str z _=>vM (.str z) x
 |_=>false
theorem T0{x y:V}{u:Value}(r:z_ y u)(f:uA y=true):vF x u=vM y x:=by
 cases y with
 |zE=>cases r; rfl
 |bl b=>cases r; rfl
 |int i=>obtain⟨t,rfl⟩:=r; rfl
 |str z=>obtain⟨t,rfl⟩:=r; rfl
 |_=>exact absurd (show false=true from f) yz
theorem XE{x:V}:∀{xs:List V}{us:List Value},zy xs us->xs.all uA=true->us.any (vF x)=xs.any λy=>vM y x
 |_,_,.nil,_=>rfl
 |y::xs,u::us,.cons r t,f=>by
  rw[wl,xP]at f;rw[Yk,Yk,T0 r f.1,XE t f.2]
theorem kP{A:Around}{s:Shared}{x:V}{v:Value}(rx:z_ x v)(fx:uA x=true):∀{xs:List V}{us:List Value},zy xs us->xs.all uA=true->∀u∈us,SeqAt.EqAt A s u v (vF x u)
 |_,_,.nil,_=>λu hu=>by cases hu
 |y::xs,u::us,.cons r t,f=>λu' hu=>by
  rw[wl,xP]at f;rcases yT.mp hu with rfl|hu
  ·rw[T0 r f.1]; exact Bt r rx f.1 fx
  ·exact kP rx fx t f.2 u' hu
def TR(x:V)(xs:List V):Bool:=xs.any λy=>vM y x
def L9(K:W.Frag)(neg:Bool):R2:=λx y H Q=>∃p xs,y=.ref p/\(yL K H p xs\/yu K H p xs)/\uA x=true/\xs.all uA=true/\Q (.bl (if neg then !TR x xs else TR x xs)) H
theorem AL:yY X (compareOp .In) (L9 X.K false):=by
 intro z6 s σ H x y v u Q I rx ry h;obtain⟨p,xs,rfl,hq,fx,fs,q⟩:=h;cases ry;rcases hq with hq|hq
 ·obtain⟨its,r,pl,hz⟩:=I.list hq;refine SeqAt.in_listAt (vF x) pl.isList (λw hw=>kP rx fx r fs w (by simpa using hw)) ⟨.bl _,H,I,rfl,?_⟩;rw[show its.toArray.any (vF x)=its.any (vF x) by simp,XE r fs];exact q
 ·obtain⟨its,r,pl,hz⟩:=I.tuple hq;refine SeqAt.in_tupleAt (vF x) pl (λw hw=>kP rx fx r fs w (by simpa using hw)) ⟨.bl _,H,I,rfl,?_⟩;rw[show its.toArray.any (vF x)=its.any (vF x) by simp,XE r fs];exact q
theorem AQ:yY X (compareOp .NotIn) (L9 X.K true):=by
 intro z6 s σ H x y v u Q I rx ry h;obtain⟨p,xs,rfl,hq,fx,fs,q⟩:=h;cases ry;rcases hq with hq|hq
 ·obtain⟨its,r,pl,hz⟩:=I.list hq;refine SeqAt.notIn_listAt (vF x) pl.isList (λw hw=>kP rx fx r fs w (by simpa using hw)) ⟨.bl _,H,I,rfl,?_⟩;rw[show its.toArray.any (vF x)=its.any (vF x) by simp,XE r fs];exact q
 ·obtain⟨its,r,pl,hz⟩:=I.tuple hq;refine SeqAt.notIn_tupleAt (vF x) pl (λw hw=>kP rx fx r fs w (by simpa using hw)) ⟨.bl _,H,I,rfl,?_⟩;rw[show its.toArray.any (vF x)=its.any (vF x) by simp,XE r fs];exact q
theorem AR:yY X (compareOp .NotIn) (λx y H Q=>∃i j,x=.str i/\y=.str j/\Q (.bl (!(!(Builtin.Str.occurrences j i 0 j.length 1).isEmpty))) H):=by
 intro z6 s σ H x y v u Q I rx ry h;obtain⟨i,j,rfl,rfl,q⟩:=h;obtain⟨t,rfl⟩:=rx;obtain⟨t',rfl⟩:=ry;exact notIn_str ⟨.bl _,H,I,rfl,q⟩
theorem KF:wK X (.builtin "len") (λxs H Q=>∃p ys,xs=[.ref p]/\(yL X.K H p ys\/yu X.K H p ys)/\Q (.int ys.length) H):=by
 intro z6 s σ H xs us Q I r h;obtain⟨p,ys,rfl,hq,q⟩:=h;obtain⟨u,rfl,rx⟩:=vg r;cases rx;have hn:=YG;rcases hq with hq|hq
 ·obtain⟨its,r',pl,hz⟩:=I.list hq;have hlen:=r'.length;exact Calls.call_len_list pl.isList (by simp only[yk]<;>omega) ⟨.int ys.length,H,I.tok _,⟨s.toks+1,by rw[yk,hlen]⟩,q⟩
 ·obtain⟨its,r',pl,hz⟩:=I.tuple hq;have hlen:=r'.length;exact len_tuple pl (by simp only[yk]<;>omega) ⟨.int ys.length,H,I.tok _,⟨s.toks+1,by rw[yk,hlen]⟩,q⟩
theorem KG:wK X (.builtin "len") (λxs H Q=>∃z,xs=[.str z]/\z.length<=sizeLine/\Q (.int z.length) H):=by
 intro z6 s σ H xs us Q I r h;obtain⟨z,rfl,hz,q⟩:=h;obtain⟨u,rfl,t,rfl⟩:=vg r;have hn:=YG;exact len_str (by omega) ⟨.int z.length,H,I.tok _,⟨_,rfl⟩,q⟩
theorem wK.or{f:Value}{r r':List V->Hp->VK->Prop}(h:wK X f r)(h':wK X f r'):wK X f (λxs H Q=>r xs H Q\/r' xs H Q):=by
 intro z6 s σ H xs us Q I rs q;rcases q with q|q
 ·exact h z6 s σ H xs us Q I rs q
 ·exact h' z6 s σ H xs us Q I rs q
theorem KJ:wK X (.type "list") (λxs H Q=>∃p ys,xs=[.ref p]/\(yL X.K H p ys\/yu X.K H p ys)/\∀l,H l=none->Q (.ref l) (zX H l (.lst ys))):=by
 intro z6 s σ H xs us Q I r h;obtain⟨p,ys,rfl,hq,q⟩:=h;obtain⟨u,rfl,rx⟩:=vg r;cases rx
 have fin:∀(its:List Value),zy ys its->ys.length<=sizeLine->∀(h':Heap)(c':Nat),(∀b o',s.heap.get? b=some o'->h'.get? b=some o')->
   h'.get? s.heap.objs.size=some { cls:=.type "list",dict:=none,data:=.seq its.toArray c',slots:=#[] }->EP X z6 σ Q (.ref s.heap.objs.size) { s with heap:=h' }:=λits r' hz h' c' kp e=>
  ⟨.ref s.heap.objs.size,_,I.laid (t':=s.toks) kp (zr _) (show yl X.prog X.w _ h' _ (.lst ys)from⟨hz,its,c',r',e⟩),rfl,q _ (I.za.fresh (zr _))⟩
 rcases hq with hq|hq
 ·obtain⟨its,r',pl,hz⟩:=I.list hq;have hlen:=r'.length;obtain⟨o,ho,hc,n,hd⟩:=pl.isList;exact call_list_seq p (.inl rfl) ho hc hd (λh' c' kp e=>fin its r' hz h' c' kp e) (by simp only[yk]<;>omega)
 ·obtain⟨its,r',pl,hz⟩:=I.tuple hq;have hlen:=r'.length;obtain⟨o,ho,hc,n,hd⟩:=pl;exact call_list_seq p (.inr rfl) ho hc hd (λh' c' kp e=>fin its r' hz h' c' kp e) (by simp only[yk]<;>omega)
theorem KU:wK X (.type "tuple") (λxs H Q=>∃p ys,xs=[.ref p]/\((yL X.K H p ys/\∀l,H l=none->Q (.ref l) (zX H l (.tup ys)))\/(yu X.K H p ys/\Q (.ref p) H))):=by
 intro z6 s σ H xs us Q I r h;obtain⟨p,ys,rfl,h⟩:=h;obtain⟨u,rfl,rx⟩:=vg r;cases rx;rcases h with⟨hq,q⟩|⟨hq,q⟩
 ·obtain⟨its,r',pl,hz⟩:=I.list hq;have hlen:=r'.length;refine call_tuple_list pl.isList (λh' kp=>?_) (by simp only[yk]<;>omega);have I1:Inv X z6 σ H { s with heap:=h' }:=I.kept (t':=s.toks) kp
  have I2:Inv X z6 σ (zX H h'.objs.size (.tup ys)) { s with heap:=h'.push { cls:=.type "tuple",data:=.seq its.toArray } }:=
   I1.laid (t':=s.toks) (λb o e=>Heap.get?_push_of_some _ e) (zr _) (show yl X.prog X.w _ _ _ (.tup ys)from⟨hz,its,r',IsTup.new _ _⟩)
  exact⟨.ref h'.objs.size,_,I2,rfl,q _ (I1.za.fresh (zr _))⟩
 ·obtain⟨its,r',pl,hz⟩:=I.tuple hq;exact call_tuple_same pl ⟨.ref p,H,I,rfl,q⟩
def GH(K:W.Frag)(T:String)(x:V)(H:Hp):Prop:=match x with
 |.str _=>T = "str"
 |.int _=>T = "int"
 |.ref p=>(T = "list" /\ ∃xs,yL K H p xs)\/(T = "tuple" /\ ∃o,K.lookup p=some o/\o.cls=.type "tuple" /\ o.dict=none) \/
   (T = "dict" /\ ((∃kvs,H p=some (.dK kvs))\/∃kvs,H p=some (.dT kvs)))\/(T = "set" /\ ∃S n,H p=some (.set S n))
 |_=>False
theorem mw{z6:List (Addr×Obj)}{σ:St}{H:Hp}{s:Shared}{T:String}{x:V}{v:Value}(I:Inv X z6 σ H s)(r:z_ x v)(ty:GH X.K T x H) :
  s.TypeIs v T/\∀a,v=.ref a->∃ob,s.heap.get? a=some ob/\ob.dict=none:=by
 cases x with
 |str z=>
  obtain⟨t,rfl⟩:=r;cases(show T = "str" from ty);exact⟨Qy s z t,λ_ e=>nomatch e⟩
 |int i=>
  obtain⟨t,rfl⟩:=r;cases(show T = "int" from ty);exact⟨typeIs_int s i t,λ_ e=>nomatch e⟩
 |ref p=>
  cases r;rcases ty with⟨rfl,xs,hq⟩|⟨rfl,o,hk,hc,hd⟩|⟨rfl,hk⟩|⟨rfl,S,n,hk⟩
  ·obtain⟨its,_,pl,_⟩:=I.list hq;refine⟨pl.isList.typeIs,λa e=>?_⟩;cases e;obtain⟨o,n,e,c,hd,_⟩:=pl;exact⟨o,e,hd⟩
  ·refine⟨⟨o,I.wF p o hk,hc⟩,λa e=>?_⟩;cases e;exact⟨o,I.wF _ o hk,hd⟩
  ·have z:∃o,s.heap.get? p=some o/\o.ExactDict:=by
    rcases hk with⟨kvs,hk⟩|⟨kvs,hk⟩
    ·obtain⟨_,_,_,_,o,_,_,e,ex,_⟩:=I.za p _ hk;exact⟨o,e,ex⟩
    ·obtain⟨_,_,_,_,o,_,_,e,ex,_⟩:=I.za p _ hk;exact⟨o,e,ex⟩
   obtain⟨o,e,ex⟩:=z;refine⟨⟨o,e,ex.1⟩,λa e2=>?_⟩;cases e2;exact⟨o,e,ex.2.1⟩
  ·obtain⟨o,_,_,_,e,ex,_⟩:=I.za p _ hk;refine⟨⟨o,e,ex.1⟩,λa e2=>?_⟩;cases e2;exact⟨o,e,ex.2.1⟩
 |_=>exact False.elim ty
def G7(K:W.Frag)(T:String)(r:V->List V->Hp->VK->Prop)(to:TE)(t:TA):TE:=λσ H Q=>to σ H λx H1=>GH K T x H1/\t σ H1 λxs H2=>r x xs H2 Q
variable{o e:Expr}{es:List Expr}{to:TE}{t:TA}{name:Str}{apos cpos:Pos}{T id:String}{r:V->List V->Hp->VK->Prop}
theorem Ab(pa:PlainAttrs T)(slot:Slot T name id)(hty:typeOf (.builtin id)=pure (.type "method_descriptor"))(hm:X4 X id r)(ho:PE X o to)(ha:PA X (e::es) t)
  (hbase:attributeBase o name X.env (eval o X.env)=eval o X.env:=by rfl)
  (hfew:((backTo cpos (starEach (e::es) X.env)).all (λx=>!x.1)&&(backToKw cpos (keywordEach [] X.env)).all (λx=>x.1.isSome)
   && decide ((e::es).length+([]:List Keyword).length+(if([]:List Keyword).isEmpty then 0 else 1)<30))=true:=by rfl)
  (hline:(apos.endLine==cpos.line)=true:=by rfl)(hs:starEach (e::es) X.env=(false,eval e X.env)::starEach es X.env:=by rfl)(hplain:(backTo cpos (starEach es X.env)).any (·.1)=false:=by rfl) :
  PE X (.Call (.Attribute o name apos) (e::es) [] cpos) (G7 X.K T r to t):=by
 intro z6 s σ H Q I h;refine wpAny_Call_method_late hbase hfew hline rfl (zi (ho z6 s σ H _ I h) λv s1 ⟨x,H1,I1,r1,ty,q1⟩=>?_);obtain⟨h1,h2⟩:=mw I1 r1 ty;refine⟨T,id,pa,slot,hty,h1,h2,?_⟩;have hA:=ha cpos z6 s1 σ H1 _ I1 q1;rw[hs]at hA ⊢;refine Qi (by show(false||(backTo cpos (starEach es X.env)).any (·.1))=false; rw[hplain]<;>rfl) (Calls.evalArgs_plain ?_);exact zi hA λus s2 ⟨vs,H2,I2,r2,q2⟩=>hm z6 s2 σ H2 x vs v us Q I2 r1 r2 q2
end
def Mw(X:Cx)(id:String)(r:V->List V->Hp->VK->Prop):Prop:=
 ∀(z6:List (Addr×Obj)) (s:Shared) (σ:St) (H:Hp) (x:V) (xs:List V) (v:Value) (us:List Value) (Q:VK),Inv X z6 σ H s->z_ x v->zy xs us->r x xs H Q->
  wpAny (model X.prog X.w) X.A (call (.builtin id) (v::us)) (EP X z6 σ Q) X.xe s
theorem zy.one:∀{x:V}{us:List Value},zy [x] us->∃u,us=[u]/\z_ x u
 |_,_,.cons r .nil=>⟨_,rfl,r⟩
section
variable{X:Cx}{z6:List (Addr×Obj)}{σ:St}{H:Hp}{s:Shared}{l b:Addr}{xs ys zs:List V}
theorem Inv.Mo{its its':List Value}{n:Nat}{f:Array Value->Array Value}{t':Nat}(I:Inv X z6 σ H s)(hH:H l=some (.lst xs))
  (e:s.heap.get? l=some { cls:=.type "list",data:=.seq its.toArray n })(hf:f its.toArray=its'.toArray)(hv:zy ys its')(hz:ys.length<=sizeLine) :
  Inv X z6 σ (zX H l (.lst ys)) { s with heap:=s.heap.update l (Obj.mapSeq f),toks:=t' }:=by
 have q:=PySem.IsL.update e f;rw[hf]at q;refine I.write (x:=l) (e:=l) (by rw[hH]; exact trivial) (.inl rfl) (λb' u hb hu=>(Heap.get?_update_other s.heap (Obj.mapSeq f) (qE hb)).trans hu) ⟨_,q⟩ ?_;exact⟨hz,its',_,hv,q⟩
theorem Inv.HM{its:List Value}{t':Nat}(I:Inv X z6 σ H s)(hv:zy ys its)(hz:ys.length<=sizeLine) :
  Inv X z6 σ (zX H s.heap.objs.size (.lst ys)) { s with heap:=s.heap.push { cls:=.type "list",data:=.seq its.toArray },toks:=t' }:=
 I.laid (λ_ _ q=>Heap.get?_push_of_some _ q) (zr _) ⟨hz,its,0,hv,Heap.get?_push_size _ rfl⟩
theorem Inv.fresh(I:Inv X z6 σ H s):H s.heap.objs.size=none:=I.za.fresh (zr _)
theorem Inv.JB(I:Inv X z6 σ H s)(hH:H l=some (.lst xs)):xs.length<=sizeLine/\∃(its:List Value) (n:Nat),zy xs its/\xs.length=its.length/\s.heap.get? l=some { cls:=.type "list",data:=.seq its.toArray n }:=by
 obtain⟨z,its,n,r,e⟩:=I.za l _ hH;exact⟨z,its,n,r,r.length,e⟩
theorem Ru{n:Nat}(h:n<=sizeLine):Builtin.List.listTooLong n=false:=by
 unfold Builtin.List.listTooLong;exact ye (by omega)
end
section
variable{X:Cx}
def bI:V->List V->Hp->VK->Prop:=λx vs H Q=>∃l xs y,x=.ref l/\vs=[y]/\H l=some (.lst xs)/\xs.length<sizeLine/\Q .zE (zX H l (.lst (xs++[y])))
theorem RQ:Mw X "list.append" bI:=by
 intro z6 s σ H x vs v us Q I rx rv h;obtain⟨l,xs,y,rfl,rfl,hH,hz,q⟩:=h;cases rx;obtain⟨u,rfl,ru⟩:=rv.one;obtain⟨z,its,n,r,hl,e⟩:=I.JB hH;refine VR F.slot_list_append ⟨_,e,rfl⟩ F.entry_list_append (F.args_list_append_2 _ _) (PySem.list_append l its.toArray n u (by rw[yk]; omega)) ⟨e,?_⟩;refine⟨.zE,_,I.Mo (its':=its++[u]) hH e (by simp) (r.append (.cons ru .nil)) ?_,rfl,q⟩;rw[yj,Gw];omega
def bL:V->List V->Hp->VK->Prop:=λx vs H Q=>∃l b xs zs,x=.ref l/\vs=[.ref b]/\H l=some (.lst xs)/\H b=some (.lst zs)/\xs.length+zs.length<=sizeLine/\Q .zE (zX H l (.lst (xs++zs)))
theorem RS:Mw X "list.extend" bL:=by
 intro z6 s σ H x vs v us Q I rx rv h;obtain⟨l,b,xs,zs,rfl,rfl,hH,hB,hz,q⟩:=h;cases rx;obtain⟨u,rfl,ru⟩:=rv.one;cases ru;obtain⟨z,its,n,r,hl,e⟩:=I.JB hH;obtain⟨z2,its2,n2,r2,hl2,e2⟩:=I.JB hB;have hsz:its.toArray.size+its2.toArray.size<=sizeLine:=by rw[yk,yk]; omega
 have hlong:¬ (!its.toArray.isEmpty&&Builtin.List.listTooLong (its.toArray.size+its2.toArray.size))=true:=by
  rw[Ru hsz,M0];exact yz
 refine VR F.slot_list_extend ⟨_,e,rfl⟩ F.entry_list_extend (F.args_list_extend_2 _ _)
  (AutoSeq1.list_extend_list_list_0 l its.toArray n b its2.toArray n2 hlong (by rw[yk]; omega) (by omega)) ⟨e,e2,?_⟩
 refine⟨.zE,_,I.Mo (its':=its++its2) hH e (by simp) (r.append r2) ?_,rfl,q⟩;rw[yj];omega
end
section
variable{prog:Program}{w:World}{A:Around}{E:Value->Shared->Prop}{s:Shared}
end
section
variable{X:Cx}
end
end L2
namespace Att
open PySem PySem.W PySem.Calls PyProof.Rows
theorem PN{P:Params}{h:Heap}:∀(ns:List Int)(vs:List Value),WellAll P h vs (ns.map WData.int)->IntsAre vs ns:=by
 intro ns
 induction ns with
 |nil=>
  intro vs w;rw[Qr]at w;cases w;exact .nil
 |cons n ns ih=>
  intro vs w;rw[wD]at w;cases w with
  |cons a b=>
   cases a;exact .cons _ _ (ih _ b)
theorem script_of{l:OpenLaw}{n:Nat}(hn:l.most=some n){P:Params}{h:Heap}{args:List WData}{vals:List Value}
  (hpre:l.row.toRowW.claim.pre args=true)(hwl:WellAll P h vals args) :
  ∃a vs ns,vals=[Value.ref a]/\args=[WData.list (ns.map WData.int)]/\h.get? a=some { cls:=.type "list",data:=.seq vs.toArray }/\IntsAre vs ns/\ns.length<=n:=by
 have hsh:WShape.hasAll [] args [.list .int]=true:=(pre_splitW hpre).1;have hc:l.pre.holds [] { args:=args }=true:=(pre_splitW hpre).2;obtain⟨d,r,rfl,h1,h2⟩:=hasAllW_cons hsh;obtain rfl:=hasAllW_nil h2;obtain⟨xs,rfl,h3⟩:=hasW_list h1;obtain⟨ns,rfl⟩:=items_int h3
 have hlen:ns.length<=n:=by
  unfold OpenLaw.pre at hc
  have h4:(WTm.not (.lt (.lit (.int (n:Int))) (.len (.arg 0)))).holds [] { args:=[.list (ns.map .int)] }=true:=by
   have h4:=(holds_andW hc).1;rw[hn]at h4;exact h4
  have h5:=condW_of h4 (w_not (w_lt w_lit (w_len_list (w_arg rfl))));rw[zx]at h5;refine Nat.le_of_not_lt λq=>?_
  have q':(n:Int)<((ns.length:Nat):Int):=by omega
  first
   |(rw[yh q']at h5; exact absurd h5 (by decide))
   |(simp at h5; omega)
 cases hwl with
 |cons w1 w2=>
  cases w2;cases w1 with
  |list ho hall=>exact⟨_,_,ns,rfl,rfl,ho,PN ns _ hall,hlen⟩
theorem post_true(l:OpenLaw)(args:List WData):l.row.toRowW.claim.post args (.bool true) args=true:=
 postW_of (r:=l.row.toRowW) (X:=(true==true))
  (show WShape.has [] (.bool true) .bool=true by first|rfl|decide|simp[WShape.has,WShape.arms,WShape.armsAll])
  (show(WTm.eq .res (.lit (.bool true))).value [] { args:=args,res:=some (.bool true),after:=args }=some (.bool (true==true))from w_eq_bool (w_res rfl) w_lit) rfl
section
variable{prog:Program}{w:World}{A:Around}{E:Value->Shared->Prop}{s:Shared}{K:Frag}
end
end Att
namespace L2
open PySem PySem.Spec PyProof.Rows
theorem GQ:∀{vs:List Value}{ns:List Int},IntsAre vs ns->zy (ns.map V.int) vs
 |_,_,.nil=>.nil
 |_,_,.cons n t h=>.cons ⟨t,rfl⟩ (GQ h)
def Mz(H:Hp):Prop:=∀b,H b=none\/∃o xs,H b=some (.zu o (.lst xs))
theorem RF{P:Program}{w:World}{K:W.Frag}{mg mb:Str->Option Value}{CX:qg}{k:Nat}{fa a:Addr}{fd:FuncData}{x:Str}{sp:Sp}{s₁:Shared}{vs:List Value}{ns:List Int}
  (KX:K.In s₁.heap)(hns:s₁.heap.Ns mainGlobals mg)(hb:s₁.heap.Ns builtinsNs mb)(hbb:∀x:Str,x ≠ "__name__" -> mb x=bootBuiltins x)(hlim:s₁.heap.NoLimit)(hg:s₁.gens=#[])
  (ha:s₁.heap.get? a=some { cls:=.type "list",data:=.seq vs.toArray })(hi:IntsAre vs ns)(hl:ns.length<=sizeLine)(hr:w8 k callerA)
  (F:∀base:Heap,K.In base->base.Ns mainGlobals mg->qL P w K mg base CX k fa fd [x] sp)(hbind:∀(s:Shared)(u:Value),BindsTo s fd ⟨[u],[]⟩ [(x,u)])
  (hsp:∀H:Hp,Mz H->yL K H a (ns.map V.int)->sp [.ref a] H (λv _=>v=.bl true) λ_ _ _=>False)
  (hCX:∀H e s',CX [] H s₁ (λ_ _ _=>False) e s'->False) :
  codeAny (model P w) callerA (.call (.ref fa) ⟨[.ref a],[]⟩) (λr s'=>r=.ok (.ret (.bool true))/\OldK s₁.heap s'.heap/\s'.os=s₁.os/\AllBare s'.gens) s₁:=by
 have rv:=GQ hi;have lenV:=hi.length
 have core:∀H:Hp,Mz H->yL K H a (ns.map V.int)->xN P w H s₁.heap->(∀b,H b≠none->b=a)->(H a≠none->K.lookup a=none)->
   codeAny (model P w) callerA (.call (.ref fa) ⟨[.ref a],[]⟩) (λr s'=>r=.ok (.ret (.bool true))/\OldK s₁.heap s'.heap/\s'.os=s₁.os/\AllBare s'.gens) s₁:=by
  intro H hO hS za hA hK;have base_of:∀{b:Addr}{o:Obj},s₁.heap.get? b=some o->H b=none->(pz s₁.heap H).get? b=some o:=λe n=>Ny e n
  have noA:∀{b:Addr}{o:Obj}{es:Array DictEntry}{ep:Nat},s₁.heap.get? b=some o->o.data=.dict es ep->H b=none:=λ{b o es ep} e d=>by
   cases q:H b with
   |none=>rfl
   |some u=>
    have e':b=a:=hA b (by rw[q]; simp);subst e';rw[ha]at e; cases e;have d':Data.seq vs.toArray _=Data.dict es ep:=d;cases d'
  have nsK:∀{b:Addr}{m:Str->Option Value},s₁.heap.Ns b m->(pz s₁.heap H).Ns b m:=λ{b m} ⟨o,es,ep,e,d,r⟩=>⟨o,es,ep,base_of e (noA e d),d,r⟩
  have hKb:K.In (pz s₁.heap H):=λb o e=>base_of (KX b o e) (by
   cases q:H b with
   |none=>rfl
   |some u=>
    have e':b=a:=hA b (by rw[q]; simp);subst e';rw[hK (by rw[q]; simp)]at e; cases e)
  have hM:Mod K mg (pz s₁.heap H):=⟨hKb,nsK hns,⟨mb,nsK hb,hbb⟩,let ⟨mc,h1,h2⟩:=hlim; ⟨mc,nsK h1,h2⟩⟩;have e0:U5 P w K mg (pz s₁.heap H) callerA [] s₁ H:=⟨rfl,hM,λb o e=>Rz e,Nat.le_of_eq (Nz _ _),trivial,λb hb=>absurd (show b∈([]:List Addr)from hb) (by simp),za,.of_eq hg⟩;refine VS ((F _ hKb (nsK hns)).run callerA [] s₁ H ⟨[.ref a],[]⟩ [.ref a] [.ref a] _ _ hr e0 (hbind s₁ (.ref a)) (.cons rfl .nil) (hsp H hO hS)) λr s' h=>?_
  cases r with
  |error e=>exact(hCX H e s' h).elim
  |ok fl=>
   cases fl with
   |next=>exact False.elim h
   |brk=>exact False.elim h
   |cont=>exact False.elim h
   |ret u=>
    obtain⟨v,H',os,bare,un,hok',r',q⟩:=h;have q':v=.bl true:=q;subst q';obtain rfl:u=Value.bool true:=r';refine⟨rfl,OldK.of_keep λb o e=>?_,os,bare⟩;cases q:H b with
    |none=>exact un.keep b o e q (by intro z; exact absurd (show b∈([]:List Addr)from z) (by simp)) (by simp)
    |some u=>
     rcases hO b with z|⟨ob,xs,z⟩
     ·rw[q]at z; cases z
     ·have z2:=un.vW b ob _ z;obtain⟨e1,_⟩:=za b _ z;obtain⟨e2,_⟩:=hok' b _ z2;rw[e]at e1; cases e1;exact e2
 cases hk:K.lookup a with
 |some o=>
  have e:=KX a o hk;rw[ha]at e;cases e;refine core (λ_=>none) (λ_=>.inl rfl) (.inr ⟨_,vs.toArray,_,hk,rfl,rfl,rfl,by rw[yk,lenV]; exact hl,by simpa using rv⟩) (λb u z=>by have z':(none:Option HO)=some u:=z; cases z') (λb z=>absurd rfl z) λz=>absurd rfl z
 |none=>
  refine core (λb=>if b=a then some (.zu { cls:=.type "list",data:=.seq vs.toArray } (.lst (ns.map V.int)))else none) (λb=>?_) (.inl (.inr ⟨{ cls:=.type "list",data:=.seq vs.toArray },zN rfl⟩)) (λb u z=>?_) (λb z=>?_) λ_=>hk
  ·by_cases hb:b=a
   ·exact .inr ⟨_,_,zN hb⟩
   ·exact .inl (zS hb)
  ·by_cases hb:b=a
   ·have z':=(zN hb).symm.trans z;cases z';subst hb;exact⟨ha,by rw[zx]; exact hl,vs,_,rv,ha⟩
   ·have z':=(zS hb).symm.trans z;cases z'
  ·by_cases hb:b=a
   ·exact hb
   ·exact absurd (zS hb) z
def Zp(s:Stmt):Arguments:=match s with
 |.FunctionDef _ a _ _ _ _ _ _ _ _=>a
 |_=>{ posonlyargs:=[],args:=[],vararg:=none,kwonlyargs:=[],kw_defaults:=[],kwarg:=none,defaults:=[] }
def qq(s:Stmt):List Stmt:=match s with
 |.FunctionDef _ _ b _ _ _ _ _ _ _=>b
 |_=>[]
def zz(s:Stmt):Scope:=match s with
 |.FunctionDef _ _ _ _ _ _ sc _ _ _=>sc
 |_=>{ kind:=.function,names:=[],isGenerator:=false,isCoroutine:=false }
abbrev tQ:qg:=λ_ _ _ _ _ _=>False
abbrev E0:XK:=λ_ _ _=>False
theorem AX{X:Cx}:JX tQ X E0:=λ_ _ _ _ _ _ _ h=>h.elim
structure jV(K:W.Frag)(x qual:Str)(st:Stmt)(f:Addr)(fd:FuncData):Prop where
 ex:∃(oc:Value) (od:Option Addr) (kV doc pm:Value) (an:Option Addr) (cdv ct:Value) (osl:Array (Option Value)),
  fd=W.fnOf x qual (Zp st) (qq st) (zz st) .none kV doc pm an cdv ct/\K.lookup f=some ⟨oc,od,.func fd,osl⟩/\W.codeIn K cdv qual=true
 kp:W.keepIn K (.ref f)=true
section
variable{P:Program}{w:World}{K:W.Frag}{mg:Str->Option Value}{base:Heap}
theorem jV.ok{x qual:Str}{st:Stmt}{f:Addr}{fd:FuncData}{N ps:List Str}{k:Nat}{sp:Sp}(F:jV K x qual st f fd)(S:yG N ps (zz st))(len:∀vs H Q E,sp vs H Q E->vs.length=ps.length)
  (hbody:∀(cdv:Value)(A:Around)(outer:List Env)(s:Shared)(H:Hp)(vs:List V)(Q:VK)(E:XK),w8 k (A.deeper (envOfC qual (zz st) s.heap.objs.size f cdv))->sp vs H Q E->
   ∃t,vk (pV tQ P w K mg base N qual (zz st) f cdv A outer s H E).gZ (qq st) t/\t { nx:=λ_ H'=>Q .zE H',rt:=Q } (start N vs) H):qL P w K mg base tQ (k+1) f fd ps sp:=by
 obtain⟨oc,od,kV,doc,pm,an,cdv,ct,osl,rfl,lk,hcd⟩:=F.ex;refine N6 lk hcd S len λA outer s H vs Q E hr hsp=>?_
 obtain⟨t,h,q⟩:=hbody cdv A outer s H vs Q E hr hsp;exact⟨t,h.gZ,q⟩
theorem jV.binds{x qual:Str}{st:Stmt}{f:Addr}{fd:FuncData}{ps:List Str}(F:jV K x qual st f fd)
  (h:∀(kV doc pm:Value)(an:Option Addr)(cdv ct:Value)(us:List Value),us.length=ps.length->bindArgs (W.fnOf x qual (Zp st) (qq st) (zz st) .none kV doc pm an cdv ct) ⟨us,[]⟩=pure (ps.zip us)):ga K fd ps []:=by
 obtain⟨oc,od,kV,doc,pm,an,cdv,ct,osl,rfl,lk,hcd⟩:=F.ex;exact .all (h kV doc pm an cdv ct)
theorem yR{x qual:Str}{st:Stmt}{f:Addr}{oc:Value}{od an:Option Addr}{osl:Array (Option Value)}{kV doc pm cdv ct:Value}(l:K.lookup f=some ⟨oc,od,.func (W.fnOf x qual (Zp st) (qq st) (zz st) .none kV doc pm an cdv ct),osl⟩)
  (c:W.codeIn K cdv qual=true)(k:W.keepIn K (.ref f)=true):jV K x qual st f (W.fnOf x qual (Zp st) (qq st) (zz st) .none kV doc pm an cdv ct):=⟨⟨oc,od,kV,doc,pm,an,cdv,ct,osl,rfl,l,c⟩,k⟩
end
theorem zg{A:Around}{k:Nat}(hr:w8 k A):A.units+1<cLine:=MS (G_ (by decide:1<=64) _) hr.units
theorem fH{n:Nat}(h:n<=1000):n<sizeLine:=MS h (by decide)
section
variable{X:Cx}
end
theorem j0{A B:Prop}(h:B):if false=true then A else B:=by
 rw[zS yz];exact h
theorem j1{A B:Prop}(h:A):if true=true then A else B:=by
 rw[zN rfl];exact h
def yK(H H':Hp):Prop:=∀b o,H b=some o->H' b=some o
theorem yK.refl(H:Hp):yK H H:=λ_ _ h=>h
theorem yK.trans{H H1 H2:Hp}(a:yK H H1)(b:yK H1 H2):yK H H2:=λc o h=>b c o (a c o h)
theorem yK.free{H H':Hp}(e:yK H H'){l:Addr}(h:H' l=Option.none):H l=Option.none:=by
 cases q:H l with
 |none=>rfl
 |some o=>
  rw[e l o q]at h;cases h
end L2
set_option linter.all false
set_option maxRecDepth 100000
set_option maxHeartbeats 4000000
namespace L2
open PySem PySem.Spec PyProof.Rows
def zK(K:W.Frag)(mg:Str->Option Value)(x:Str)(st:Stmt)(ps:List Str):Prop:=
 ∃(f:Addr) (fd:FuncData),jV K x x st f fd/\mg x=some (.ref f)/\ga K fd ps []
def zT(P:Program)(w:World)(K:W.Frag)(mg:Str->Option Value)(base:Heap)(x:Str)(ps:List Str)(k:Nat)(sp:Sp):Prop:=
 ∃(f:Addr) (fd:FuncData),mg x=some (.ref f)/\W.keepIn K (.ref f)=true/\ga K fd ps []/\qL P w K mg base tQ k f fd ps sp
def yf(mg:Str->Option Value)(x:Str)(v:V):Prop:=∃u,mg x=some u/\z_ v u
section
variable{P:Program}{w:World}{K:W.Frag}{mg:Str->Option Value}{base:Heap}
theorem zK.ok{x:Str}{st:Stmt}{N ps:List Str}{k:Nat}{sp:Sp}(d:zK K mg x st ps)(S:yG N ps (zz st))(len:∀vs H Q E,sp vs H Q E->vs.length=ps.length)
  (hbody:∀(f:Addr)(cdv:Value)(A:Around)(outer:List Env)(s:Shared)(H:Hp)(vs:List V)(Q:VK)(E:XK),w8 k (A.deeper (envOfC x (zz st) s.heap.objs.size f cdv))->sp vs H Q E->
   ∃t,vk (pV tQ P w K mg base N x (zz st) f cdv A outer s H E).gZ (qq st) t/\t { nx:=λ_ H'=>Q .zE H',rt:=Q } (start N vs) H):zT P w K mg base x ps (k+1) sp:=by
 obtain⟨f,fd,F,hm,hb⟩:=d;exact⟨f,fd,hm,F.kp,hb,F.ok S len (hbody f)⟩
end
section
variable{X:Cx}{x:Str}{p pos:Pos}{e:Expr}{es:List Expr}{t:TA}{ps:List Str}{j k:Nat}{sp:Sp}{v:V}{T:String}
def xS:Expr->Bool
 |.Starred ..=>false
 |_=>true
theorem t9{e:Expr}{es:List Expr}{env:Env}(h:xS e=true):starEach (e::es) env=(false,eval e env)::starEach es env:=by
 cases e<;>first|rfl|cases h
theorem V5{env:Env}{pos:Pos}:∀{es:List Expr},es.all xS=true->(backTo pos (starEach es env)).any (·.1)=false
 | [],_=>rfl
 |e::es,h=>by
  rw[wl,xP]at h;rw[t9 h.1];have ih:=V5 (env:=env) (pos:=pos) h.2;unfold backTo at ih ⊢;rw[wD,Yk,ih];rfl
theorem Xm{te:TE}(ha:PE X e te)(hr:PA X es t)(h:xS e=true:=by rfl):PA X (e::es) (Z1 te t):=Ot ha hr (t9 h)
def UF:Expr->Option Int
 |.Constant (.int i) _ _=>some i
 |_=>none
theorem Ho{e:Expr}{i:Int}(h:UF e=some i):∃k p,e=.Constant (.int i) k p:=by
 cases e<;>first|(cases h; done)|skip
 rename_i c k p;cases c<;>first|(cases h; done)|skip
 cases h;exact⟨k,p,rfl⟩
def intsOf:List Expr->Option (List Int)
 | []=>some []
 |e::r=>(UF e).bind λi=>(intsOf r).map (i::·)
theorem CW:∀{es:List Expr}{is:List Int},intsOf es=some is->PA X es (λ_ H Q=>Q (is.map V.int) H)
 | [],is,h=>by
  cases(show some []=some is from h);exact kT
 |e::r,is,h=>by
  have q:((UF e).bind λi=>(intsOf r).map (i::·))=some is:=h;cases e1:UF e with
  |none=>rw[e1]at q; cases q
  |some i=>
   rw[e1]at q;obtain⟨k,p,rfl⟩:=Ho e1;cases e2:intsOf r with
   |none=>rw[e2]at q; cases q
   |some js=>
    rw[e2]at q;cases(show some (i::js)=some is from q);exact Xm Ca (CW e2)
theorem Ov(h:zT X.prog X.w X.K X.mg X.base x ps k sp)(hr:w8 j X.A)(hg:Gl X x)(ha:PA X (e::es) t)(hk:k<=j:=by decide)(hdb:(x==("__debug__" : Str))=false:=by decide)
  (he:(e::es).all xS=true:=by rfl):PE X (.Call (.Name x p) (e::es) [] pos) (G8 sp [] E0 t):=by
 obtain⟨f,fd,hm,kp,b,F⟩:=h;rw[wl,xP]at he;exact Ad F (hr.mono hk) hg hm kp b .nil AX ha hdb (t9 he.1) (V5 he.2)
theorem Xn(h:yf X.mg x v)(hg:Gl X x)(hd:(x==("__debug__" : Str))=false:=by decide):PE X (.Name x pos) (tC v):=by
 obtain⟨u,hm,r⟩:=h;exact Aj hg hm r hd
theorem Ac(hg:Gl X x)(hm:X.mg x=none)(hv:bootBuiltins x=some (.type T))(hn:x ≠ "__name__" := by decide)(hd:(x==("__debug__" : Str))=false:=by decide):PE X (.Name x pos) (tC (.ty T)):=
 Aa hg hm hv rfl hn hd
end
section
variable{X:Cx}{st:Stmt}{t:TS}
end
section
variable{X:Cx}
theorem wy:yY X (binaryOp .FloorDiv) (rI (λ_ j=>0<j/\j<2 ^ 64) λi j=>.int (i/j)):=YK λi j _ _ _ _ _ hc q=>by
 have h1:(0:Int)<j:=hc.1;have h2:j<2 ^ 64:=hc.2;have h3:j.natAbs.log2<64:=(Nat.log2_lt (by omega)).mpr (by omega);exact PyProof.Rows.floordiv_int (by omega) (by rw[Gk i (by omega)]; exact q) (.inl (PyProof.noPylong_of_log2 (by omega)))
end
theorem vD:bootBuiltins "len" = some (.builtin "len"):=by decide +kernel
theorem K6:bootBuiltins "isinstance" = some (.builtin "isinstance"):=by decide +kernel
theorem K7:bootBuiltins "min" = some (.builtin "min"):=by decide +kernel
theorem BT:bootBuiltins "max" = some (.builtin "max"):=by decide +kernel
theorem Hz:bootBuiltins "int" = some (.type "int"):=by decide +kernel
theorem Hy:bootBuiltins "bool" = some (.type "bool"):=by decide +kernel
theorem H_:bootBuiltins "str" = some (.type "str"):=by decide +kernel
theorem Jg:bootBuiltins "list" = some (.type "list"):=by decide +kernel
theorem BR:bootBuiltins "tuple" = some (.type "tuple"):=by decide +kernel
theorem R1{K:W.Frag}:W.kitOne K (.type "int") (.type "int")=some true:=by rfl
theorem P_{K:W.Frag}:W.kitOne K (.type "bool") (.type "int")=some true:=by kernel_rfl
theorem R0{K:W.Frag}:W.kitOne K (.type "int") (.type "bool")=some false:=by kernel_rfl
theorem Pz{K:W.Frag}:W.kitOne K (.type "bool") (.type "bool")=some true:=by rfl
theorem R4{K:W.Frag}:W.kitOne K (.type "NoneType") (.type "int")=some false:=by kernel_rfl
theorem R3{K:W.Frag}:W.kitOne K (.type "NoneType") (.type "bool")=some false:=by kernel_rfl
theorem R6{K:W.Frag}:W.kitOne K (.type "tuple") (.type "tuple")=some true:=by rfl
theorem R5{K:W.Frag}:W.kitOne K (.type "str") (.type "str")=some true:=by rfl
theorem wY{H:Hp}{p:Addr}(h:H p=none)(o:HO):yK H (zX H p o):=λb u q=>by rw[zm (uB q h)]; exact q
theorem small{n:Nat}(h:n<=1000):n<=sizeLine:=jF (fH h)
section
variable{X:Cx}{tg:Expr}
end
def jL(env:Env):List (Str×Addr)->Prop
 | []=>True
 |p::r=>env.cells.lookup p.1=some p.2/\jL env r
theorem jL.get{env:Env}:∀{cl:List (Str×Addr)} {y:Str} {c:Addr},jL env cl->cl.lookup y=some c->env.cells.lookup y=some c
 | [],_,_,_,h=>by cases h
 |(n,a)::r,y,c,hc,h=>by
  rw[MJ]at h;cases e:y==n with
  |true=>
   rw[e]at h;have e':y=n:=by simpa using e
   subst e';have h':a=c:=by simpa using h
   subst h';exact hc.1
  |false=>
   rw[e]at h;exact jL.get hc.2 (by simpa using h)
def Zn(scope:Scope)(env:Env)(cl:List (Str×Addr))(own:List Str):Bool:=
 scope.names.all λp=>p.1 != ("." : Str)&&((p.2 == .local&&(own.contains p.1||p.1==(".0" : Str)))||p.2 == .globalImplicit||p.2 == .globalExplicit ||
  (p.2 == .free&&(env.kindOf p.1==some .cell||env.kindOf p.1==some .free)&&(cl.lookup p.1).isSome))
def XX(own:List Str)(y:Str):Str:=if own.contains y||y==(".0" : Str)then "." else y
def xy(N own:List Str):List Str:=N.map (XX own)++own
theorem LE{env:Env}:∀{names:List (Str×NameKind)} {y:Str} {k:NameKind},
  (names.map λ(n,k)=>if(k==NameKind.free&&env.scope.kind == .function&&env.kindOf n==some .cell)then(n,NameKind.cell)else(n,k)).lookup y=some k->∃k0,(y,k0)∈names/\(k=k0\/(k0=.free/\k=.cell))
 | [],_,_,h=>by simp at h
 |(n,k')::r,y,k,h=>by
  rw[wD]at h;by_cases hc:(k'==NameKind.free&&env.scope.kind == .function&&env.kindOf n==some .cell)=true
  ·dsimp only at h;rw[zN hc,MJ]at h;cases e:y==n with
   |true=>
    rw[e]at h;have e':y=n:=by simpa using e
    subst e';have h':NameKind.cell=k:=by simpa using h
    have hf:k'=.free:=by
     rw[xP,xP]at hc;simpa using hc.1.1
    exact⟨k',xV,.inr ⟨hf,h'.symm⟩⟩
   |false=>
    rw[e]at h;obtain⟨k0,m,z⟩:=LE (env:=env) (by simpa using h);exact⟨k0,wQ _ m,z⟩
  ·dsimp only at h;rw[zS hc,MJ]at h;cases e:y==n with
   |true=>
    rw[e]at h;have e':y=n:=by simpa using e
    subst e';have h':k'=k:=by simpa using h
    exact⟨k',xV,.inl h'.symm⟩
   |false=>
    rw[e]at h;obtain⟨k0,m,z⟩:=LE (env:=env) (by simpa using h);exact⟨k0,wQ _ m,z⟩
def xf(X:Cx)(scope:Scope)(cl:List (Str×Addr))(own:List Str)(C:Addr)(s2:Shared)(H2:Hp)(fp:List Addr)(pn:List (Addr×Obj)):Cx:=
 { X with N:=xy X.N own,s₀:=s2,H₀:=H2,env:=compEnvC scope cl C X.env,outer:=X.stack,stack:=X.stack,ex:=fp,fn:=λ_=>false,pn:=pn,xe:=λ_ _=>False }
section
variable{X:Cx}{z6:List (Addr×Obj)}{σ:St}{H2:Hp}{s2:Shared}{scope:Scope}{cl:List (Str×Addr)}{own:List Str}{C D:Addr}{fp:List Addr}
theorem BO(hb:Zn scope X.env cl own=true){y:Str}{k:NameKind}(h:(relabel scope X.env).names.lookup y=some k) :
  y ≠ "." /\ ((k=.local->own.contains y=true\/y = ".0")/\((k=.cell\/k=.free)->(∃k0,(y,k0)∈scope.names/\k0=.cell)\/((X.env.kindOf y=some .cell\/X.env.kindOf y=some .free)/\∃c,cl.lookup y=some c))):=by
 obtain⟨k0,m,z⟩:=LE h;have q:=wm.mp hb _ m;rw[xP]at q;obtain⟨q1,q2⟩:=q;refine⟨by simpa using q1,λhk=>?_,λhk=>?_⟩
 ·rcases z with z|⟨_,z⟩
  ·subst z;subst hk;simpa using q2
  ·rw[z]at hk;cases hk
 ·have hf:k0=.free\/k0=.cell:=by
   rcases z with z|⟨z,_⟩
   ·subst z;rcases hk with hk|hk
    ·exact .inr hk
    ·exact .inl hk
   ·exact .inl z
  rcases hf with hf|hf
  ·subst hf
   right
   have q3:((X.env.kindOf y==some .cell||X.env.kindOf y==some .free)&&(cl.lookup y).isSome)=true:=by simpa using q2
   rw[xP]at q3;refine⟨?_,HE.mp q3.2⟩;have:=q3.1;rw[Bool.or_eq_true]at this;rcases this with t|t
   ·exact .inl (by simpa using t)
   ·exact .inr (by simpa using t)
  ·exact .inl ⟨k0,m,hf⟩
theorem Je(hb:Zn scope X.env cl own=true)(hcell:∀y∈scope.names,y.2≠.cell){y:Str}{k:NameKind}(h:(relabel scope X.env).names.lookup y=some k)(hk:k=.cell\/k=.free) :
  (X.env.kindOf y=some .cell\/X.env.kindOf y=some .free)/\∃c,cl.lookup y=some c:=by
 rcases(BO hb h).2.2 hk with⟨k0,m,e⟩|q
 ·exact absurd e (hcell _ m)
 ·exact q
theorem BP(I:Inv X z6 σ H2 s2)(hk:scope.kind=.function)(hcell:∀y∈scope.names,y.2≠.cell)(hcap:jL X.env cl)(hb:Zn scope X.env cl own=true)(hC:s2.heap.objs.size<=C)
  (hfp:∀b∈fp,tS X z6 H2 b)(hfo:∀b∈fp,∃o,s2.heap.get? b=some o):(xf X scope cl own C s2 H2 fp (X.pn++z6)).Ok where
 mod:=I.ok.mod
 kind:=hk
 glob:=I.ok.glob
 blt:=I.ok.blt
 above:=hC
 inj:=λx y c h1 h2=>I.ok.inj x y c (hcap.get h1) (hcap.get h2)
 has:=λx hx=>by
  rcases hx with hx|hx
  ·exact(Je hb hcell (show(relabel scope X.env).names.lookup x=_ from hx) (.inl rfl)).2
  ·exact(Je hb hcell (show(relabel scope X.env).names.lookup x=_ from hx) (.inr rfl)).2
 ZK:=λx c h=>by cases h
 hd:=I.ok.hd
 frames:=I.ok.frames
 X0:=.inl rfl
 Yw:=λb hx=>⟨by
  obtain⟨o,e⟩:=hfo b hx;exact w6 (wE (Heap.lt_size e) hC),λx c h=>(hfp b hx).2.2.2.2.1 x c (hcap.get h)⟩
 bs:=I.bs
 pK:=xv I.ok.pK I.sz
 ZO:=λb o e hx=>by
  rcases(hfp b hx).2.2.2.1 with z|z
  ·exact I.ok.ZO b o e z
  ·exact absurd (wE (Heap.lt_size e) (xv I.ok.pK z)) (wJ _)
 ZL:=λb hx hz=>by
  rcases yT.mp (I.X1 b hz)with z|z
  ·exact(hfp b hx).2.1 z
  ·exact(hfp b hx).2.2.1 z
 tN:=I.stack
 gY:=I.Mt
theorem T7{α:Type}{σ:List (Option α)}{n i:Nat}{v:α}(h:(σ++List.replicate n none)[i]?=some (some v)):σ[i]?=some (some v):=by
 by_cases hi:i<σ.length
 ·rw[Z9 hi]at h;exact h
 ·rw[MH (by omega),Gp]at h
  split at h<;>cases h
theorem Hx{h4:Heap}{m0:Str->Option Value}{dobj:Obj}{tk:Nat}(I:Inv X z6 σ H2 s2)(hk:scope.kind=.function)(hcell:∀y∈scope.names,y.2≠.cell)(hcap:jL X.env cl)(hb:Zn scope X.env cl own=true)
  (hC:s2.heap.objs.size<=C)(hD:s2.heap.objs.size<=D)(hDC:D≠C)(hfp:∀b∈fp,tS X z6 H2 b)(hfo:∀b∈fp,∃o,s2.heap.get? b=some o)
  (keep:∀b o,s2.heap.get? b=some o->h4.get? b=some o)(ns:h4.Ns C m0)(hd:h4.get? D=some dobj)(hdd:∀v,dobj.data≠.cell v) :
  Inv (xf X scope cl own C s2 H2 fp (X.pn++z6)) [(D,dobj)] (σ++List.replicate own.length none) H2 { s2 with heap:=h4,toks:=tk }:=by
 have nfs:∀a,s2.heap.objs.size<=a->a ∉ uw X.stack:=λa ha hz=>by
  rcases yT.mp (I.X1 a hz)with z|z
  ·exact absurd (wE I.lt ha) (by rw[z]; exact wJ _)
  ·exact I.Mq ha z
 refine⟨BP I hk hcell hcap hb hC hfp hfo,rfl,I.bare,Un.kept keep,⟨m0,ns,λi y v e1 e2 e3=>?_⟩,λx c h=>?_,I.za.fresh hC,λx c h=>I.uL x c (hcap.get h),λp hp=>?_,I.za.kept keep,?_⟩
 ·have e2':σ[i]?=some (some v):=T7 e2
  have hi:i<X.N.length:=by
   have:=(xE.mp e2').1;rw[I.len]at this;exact this
  have e1':(X.N.map (XX own)++own)[i]?=some y:=e1;rw[Z9 (by simpa using hi),xM]at e1';cases en:X.N[i]? with
  |none=>
   rw[en]at e1';cases e1'
  |some n=>
   rw[en]at e1';have ey:XX own n=y:=vV e1'
   have vis:∃k,(relabel scope X.env).names.lookup y=some k/\(k=.local\/k=.cell\/k=.free):=by
    rcases e3 with z|z|z
    ·exact⟨_,z,.inl rfl⟩
    ·exact⟨_,z,.inr (.inl rfl)⟩
    ·exact⟨_,z,.inr (.inr rfl)⟩
   obtain⟨k,lk,kk⟩:=vis;obtain⟨nd,loc,_⟩:=BO hb lk;unfold XX at ey;by_cases ho:(own.contains n||n==(".0" : Str))=true
   ·rw[zN ho]at ey;exact absurd ey.symm nd
   ·rw[zS ho]at ey;subst ey
    have kk':k=.cell\/k=.free:=by
     rcases kk with z|z
     ·exfalso
      apply ho;rcases loc z with t|t
      ·rw[t]; rfl
      ·subst t; simp
     ·exact z
    obtain⟨ok,c,hc⟩:=Je hb hcell lk kk';obtain⟨m,hn,hl⟩:=I.loc;obtain⟨u,r,l⟩:=hl i n v en e2' (.inr ok);refine⟨u,r,.inr ⟨?_,c,hc,?_⟩⟩
    ·rcases kk' with z|z
     ·subst z; exact .inl lk
     ·subst z; exact .inr lk
    ·rcases l with⟨z,_⟩|⟨_,c',hc',z⟩
     ·rcases ok with t|t<;>(rw[t]at z; cases z)
     ·rw[hcap.get hc]at hc';cases hc';obtain⟨o,ho',hd'⟩:=z;exact⟨o,keep _ _ ho',hd'⟩
 ·obtain⟨v,o,ho,hd'⟩:=I.cell x c (hcap.get h);exact⟨v,o,keep _ _ ho,hd'⟩
 ·rcases uI.mp hp with z|z
  ·obtain⟨e,n,ne,nf,d⟩:=I.pin p z;refine⟨keep _ _ e,n,w6 (wE (Heap.lt_size e) hC),λhz=>?_,d⟩;rcases yT.mp (I.X1 p.1 hz)with t|t
   ·exact ne t
   ·exact nf t
  ·have e:p=(D,dobj):=by simpa using z
   subst e;exact⟨hd,I.za.fresh hD,hDC,nfs D hD,hdd⟩
 ·show(σ++List.replicate own.length none).length=(X.N.map (XX own)++own).length;rw[yj,yj,gM,zx,I.len]
end
def gl(X:Cx)(ifs:List Expr)(tc:TT):Prop:=
 ∀(z6:List (Addr×Obj)) (s:Shared) (σ:St) (H:Hp) (Q:Bool->Hp->Prop),Inv X z6 σ H s->tc σ H Q->
  wpAny (model X.prog X.w) X.A (forIn ifs true λc r=>if r=true then do let ok <-isTrue c X.env (eval c X.env); pure (ForInStep.yield ok)else pure (ForInStep.yield r)) (TP X z6 σ Q) X.xe s
def iA:TT:=λ_ H Q=>Q true H
theorem b7{X:Cx}:gl X [] iA:=λ_ _ _ H _ I h=>wpAny_tests_nil ⟨H,I,h⟩
theorem b8{X:Cx}{c:Expr}{t:TT}(h:PT X c t):gl X [c] t:=λz6 s σ H Q I q=>wpAny_tests_one (h z6 s σ H Q I q)
section
variable{prog:Program}{w:World}{A:Around}{R:Result->Shared->Prop}{s:Shared}
theorem RJ{elt tg iter:Expr}{ifs:List Expr}{scope:Scope}{pos:Pos}{it acc:Value}{env:Env}(J:Nat->Shared->Prop)
  (turn:∀n s,J n s->wpAny (model prog w) A (pyNext it) (λr s₁=>match r with
   |none=>R (.ok .next) s₁
   |some v=>wpAny (model prog w) A (letOwnedTupleGo tg it v) (λ_ z=>wpAny (model prog w) A (assign tg env v) (λ_ s₂=>
    wpAny (model prog w) A (forIn ifs true λc r=>if r=true then do let ok <-isTrue c env (eval c env); pure (ForInStep.yield ok)else pure (ForInStep.yield r)) (λok s₃=>
     if ok=true then wpAny (model prog w) A (eval elt env) (λx s₄=>wpAny (model prog w) A (call (.builtin "list.append") [acc,x]) (λ_ s₅=>∃m,m<n/\J m s₅) (λ_ _=>False) s₄) (λ_ _=>False) s₃
     else ∃m,m<n/\J m s₃) (λ_ _=>False) s₂) (λ_ _=>False) z) (λ_ _=>False) s₁) (λ_ _=>False) s)
  (n:Nat)(h:J n s):codeAny (model prog w) A (.compLoop (.ListComp elt [⟨tg,iter,ifs,0⟩] scope pos) 0 it acc env) R s:=by
 have no:∀{P:Value->Shared->Prop},∀e s',(λ_ _=>False:Value->Shared->Prop) e s'->P e s':=λ_ _ z=>z.elim
 refine codeAny_loop rfl J (λn s hI=>?_) n h;show wpAny _ A (Sem.onRaise (compTurn (.ListComp elt [⟨tg,iter,ifs,0⟩] scope pos) 0 it acc env) (λx=>do noteFrame x env; theTreesLotGoes x)) _ _ s;refine wpAny_noted ?_;rw[compTurn_list];refine zC (Mm (zC (v_ (turn n s hI) (λr s₁ h₁=>?_) no)));cases r with
 |none=>exact zO h₁
 |some v=>
  refine zC (v_ h₁ (λ_ z hz=>?_) no);refine zC (v_ hz (λ_ s₂ h₂=>?_) no);refine zC (v_ h₂ (λok s₃ h₃=>?_) no);cases ok with
  |false=>exact zO ⟨rfl,h₃⟩
  |true=>
   refine zC (zC (v_ h₃ (λx s₄ h₄=>?_) no));exact zC (v_ h₄ (λ_ s₅ h₅=>zO (zO ⟨rfl,h₅⟩)) no)
end
abbrev wt(its:List Value)(k:Nat):Obj:={ cls:=.type "list",data:=.seq its.toArray k }
theorem Dn{its:List Value}{k:Nat}:∀v,(wt its k).data≠.cell v:=λ_ z=>nomatch z
section
variable{X:Cx}{σ:St}{H:Hp}{s:Shared}{D:Addr}
theorem PU{pl:List (Addr×Obj)}{its its':List Value}{k k' tk:Nat}{h':Heap}(I:Inv X ((D,wt its k)::pl) σ H s)(hD:X.s₀.heap.objs.size<=D)(hpn:∀p∈X.pn,p.1≠D)
  (hs:Heap.SameBut D s.heap h')(hd:h'.get? D=some (wt its' k')):Inv X [(D,wt its' k')] σ H { s with heap:=h',toks:=tk }:=by
 obtain⟨e,n,ne,nf,d⟩:=I.pin (D,wt its k) (uk _ xV);have I0:Inv X [] σ H s:=I.Y_ λp hp=>absurd hp (by simp)
 have I1:Inv X [] σ H { s with heap:=h',toks:=tk }:=I0.turned (it:=D) (λb o hb q=>(hs.2 b hb).trans q) n ne (.inr hD) (λx c hc z=>by
  subst z;obtain⟨v,o,ho,hv⟩:=I.cell x c hc;rw[show s.heap.get? c=some (wt its k)from e]at ho;cases ho;exact d v hv) (λp hp=>hpn p (by simpa using hp))
 exact I1.Y_ λp hp=>by
  have q:p=(D,wt its' k'):=by simpa using hp
  subst q;exact⟨hd,n,ne,nf,Dn⟩
end
section
variable{X:Cx}{tg iter elt:Expr}{ifs:List Expr}{scope:Scope}{cl:List (Str×Addr)}{own:List Str}{pos:Pos}{te:TE}{tc:TT}{g:TG}{wi:TI}
theorem nB{fs ex:List Addr}{H H':Hp}{h h':Heap}{D:Addr}{o:HO}(u:Un fs ex H H' h h')(hD:h.objs.size<=D)(hn:H' D=none):Un fs ex H (zX H' D o) h h' where
 keep:=u.keep
 slot:=u.slot
 free:=λb ob q n hx=>by rw[zm (λz=>by subst z; exact absurd (wE (Heap.lt_size q) hD) (wJ _))]; exact u.free b ob q n hx
 there:=u.there
 vj:=λb xs q=>by rw[zm (uB (u.vj b xs q) hn)]; exact u.vj b xs q
 vW:=λb ob v q=>by rw[zm (uB (u.vW b ob v q) hn)]; exact u.vW b ob v q
 uN:=λb ps q=>by
  obtain⟨more,z⟩:=u.uN b ps q;exact⟨more,by rw[zm (uB z hn)]; exact z⟩
theorem DO{P:Program}{w:World}{H:Hp}{h:Heap}{D:Addr}{o:HO}(x:xN P w H h)(hn:H D=none)(new:yl P w (zX H D o) h D o):xN P w (zX H D o) h:=λb u e=>by
 by_cases hb:b=D
 ·subst hb;rw[yW]at e;cases e;exact new
 ·rw[zm hb]at e;refine(x b u e).jH (λc v _ q=>q) (λc q=>?_) (λc xs q=>?_)
  ·rw[zm (uB q hn)]; exact q
  ·rw[zm (uB q hn)]; exact q
structure pM(X:Cx)(scope:Scope)(cl:List (Str×Addr))(own:List Str):Prop where
 kind:scope.kind=.function
 cell:∀y∈scope.names,y.2≠.cell
 Vb:jL X.env cl
 ok:Zn scope X.env cl own=true
 Vc:closureFor scope X.env=pure cl
 names:∀y∈scope.names,y.2=.local->scope.names.lookup y.1=some .local
structure U9(X:Cx)(z6:List (Addr×Obj))(H:Hp)(s:Shared)(C:Addr):Prop where
 free:H C=none
 ne:C≠X.env.locals
 old:X.s₀.heap.objs.size<=C
 cell:∀x c,X.env.cells.lookup x=some c->c≠C
 pin:∀p∈X.pn++z6,p.1≠C
def Th(σ:St)(n:Nat)(J:It)(g:TG)(tc:TT)(te:TE)(W:Nat->Nat->List V->Hp->Prop)(Fin:List V->Hp->Prop):Prop:=
 ∀i m ys H,W i m ys H->(J.stop i H/\Fin ys H)\/(J.go i H/\ys.length<sizeLine/\∃N:List V->Hp->Prop,(∀ys' H',N ys' H'->∃m',m'<m/\W (i+1) m' ys' H')/\
  ∀x H',J.vC i H x H'->g x (σ++List.replicate n none) H' λσ2 H3=>(∃τ,σ2=σ++τ)/\tc σ2 H3 λc H4=>if c=true then te σ2 H4 λy H5=>N (ys++[y]) H5 else N ys H4)
theorem BQ{z6:List (Addr×Obj)}{σ:St}{H2:Hp}{s2:Shared}{fp:List Addr}{it:Addr}{tn:Nat->Heap->Prop}{J:It}{W:Nat->Nat->List V->Hp->Prop}{Fin:List V->Hp->Prop}{m0:Nat}
  {RR:Value->Addr->Result->Shared->Prop}(hcalm:X.calm=true)(B:pM X scope cl own)(I:Inv X z6 σ H2 s2)(T:tT X.prog X.w X.K tg J fp it tn)(t0:tn 0 s2.heap)(hfp:∀b∈fp,tS X z6 H2 b)
  (hg:∀C s H fp pn,PG (xf X scope cl own C s H fp pn) tg g)(hc:∀C s H fp pn,gl (xf X scope cl own C s H fp pn) ifs tc)(he:∀C s H fp pn,PE (xf X scope cl own C s H fp pn) elt te)
  (W0:W 0 m0 [] H2)(turn:Th σ own.length J g tc te W Fin)
  (hRR:∀D C s' H' ys m',Inv X z6 σ (zX H' D (.lst ys)) s'->H' D=none->Fin ys H'->s'.heap.Ns C m'->U9 X z6 (zX H' D (.lst ys)) s' C->RR (.ref D) C (.ok .next) s'){E:Value->Shared->Prop} :
  wpAny (model X.prog X.w) X.A (newList []) (λacc s3=>wpAny (model X.prog X.w) X.A (newFunctionEnv scope X.env.globals cl [] X.env.qual none .none (some X.env)) (λcenv s4=>
   codeAny (model X.prog X.w) X.A (.compStart (.ListComp elt [⟨tg,iter,ifs,0⟩] scope pos) 0 (.ref it) acc { cenv with scope:=relabel scope X.env }) (RR acc cenv.locals) s4) E s3) E s2:=by
 refine um (wpAny_newFunctionEnv B.cell (by intro y hy; simp at hy) (λh4 hns hsb=>?_) B.kind);dsimp only at hns hsb ⊢;generalize hP:s2.heap.push (wt [] 0)=P2 at hns hsb ⊢;have hC:P2.objs.size=s2.heap.objs.size+1:=by rw[<-hP,Heap.size_push]
 have hDC:s2.heap.objs.size≠P2.objs.size:=by rw[hC]; exact w6 (ZE _)
 have hCle:s2.heap.objs.size<=P2.objs.size:=by rw[hC]; exact VO _
 have keep:∀b o,s2.heap.get? b=some o->h4.get? b=some o:=λb o e=>
  hsb.extBut b o (w6 (wE (Heap.lt_size e) hCle)) (Heap.get?_push_of_some _ (hP▸Heap.get?_push_of_some _ e))
 have hd4:h4.get? s2.heap.objs.size=some (wt [] 0):=hsb.extBut _ _ hDC (Heap.get?_push_of_some _ (hP▸Heap.get?_push_size _ rfl));have hfo:∀b∈fp,∃o,s2.heap.get? b=some o:=λb hb=>let ⟨o,e,_⟩:=T.obj 0 _ t0 b hb; ⟨o,e⟩
 have lt:∀b∈fp,b<s2.heap.objs.size:=λb hb=>let ⟨o,e⟩:=hfo b hb; Heap.lt_size e
 generalize hDD:s2.heap.objs.size=D at hDC hd4 ⊢;generalize hCC:P2.objs.size=C at hDC hns hsb hCle ⊢;have hDle:s2.heap.objs.size<=D:=Nat.le_of_eq hDD
 let X':=xf X scope cl own C s2 H2 fp (X.pn++z6)
 have hpn:∀p∈X'.pn,p.1≠D:=λp hp z=>by
  obtain⟨e,_⟩:=I.pin p hp;rw[z]at e;exact absurd (wE (Heap.lt_size e) hDle) (wJ _)
 have okb:=BP I B.kind B.cell B.Vb B.ok hCle hfp hfo
 have fpok:∀{k:Nat}{its:List Value}{H':Hp},(∀b∈fp,H' b=none)->∀b∈fp,tS X' [(D,wt its k)] H' b:=λ{k its H'} hn b hb=>
  ⟨hn b hb,(okb.Yw b hb).1,okb.ZL b hb,.inl hb,(okb.Yw b hb).2,λp hp=>by
   rcases uI.mp hp with z|z
   ·exact(hfp b hb).2.2.2.2.2 p z
   ·have q:p=(D,wt its k):=by simpa using z
    subst q;exact λz=>absurd (lt b hb) (by rw[<-z]; exact MU.mpr hDle)⟩
 have loop:∀s4:Shared,s4={ s2 with heap:=h4,toks:=s2.toks+([]:List (Str×Value)).length }->
   codeAny (model X.prog X.w) X.A (.compLoop (.ListComp elt [⟨tg,iter,ifs,0⟩] scope pos) 0 (.ref it) (.ref D) (compEnvC scope cl C X.env)) (RR (.ref D) C) s4:=by
  rintro s4 rfl
  refine RJ (λn s'=>∃(i:Nat) (ys:List V) (its:List Value) (k:Nat) (H':Hp),Inv X' [(D,wt its k)] (σ++List.replicate own.length none) H' s'/\zy ys its/\tn i s'.heap/\(∀b∈fp,H' b=none)/\W i n ys H'/\ys.length<=sizeLine) ?_ m0
   ⟨0,[],[],0,H2,Hx I B.kind B.cell B.Vb B.ok hCle hDle hDC hfp hfo keep hns hd4 Dn,.nil,T.keep _ _ _ t0 λb _ o e=>keep b o e,λb hb=>(hfp b hb).1,W0,uK _⟩
  rintro n s5 ⟨i,ys,its,k,H5,I5,v5,st5,fr5,w5,z5⟩;rcases turn i n ys H5 w5 with⟨stop,fin⟩|⟨go,room,N,hN,step⟩
  ·refine v_ (T.done X' rfl rfl rfl hcalm i _ s5 _ H5 (λ_ _=>False) I5 (fpok fr5) st5 stop) (λr s6 ⟨hr,I6⟩=>?_) λ_ _ z=>z
   subst hr;obtain⟨e6,n6,ne6,nf6,d6⟩:=I6.pin (D,wt its k) (uk _ xV);obtain⟨m6,ns6,_⟩:=I6.loc;have u6:Un (uw X.stack) fp H2 (zX H5 D (.lst ys)) s2.heap s6.heap:=nB I6.base hDle n6;have new6:yl X.prog X.w (zX H5 D (.lst ys)) s6.heap D (.lst ys):=⟨z5,its,k,v5,e6⟩;have I7:Inv X z6 σ (zX H5 D (.lst ys)) s6:=I.J7 I6.os u6 (DO I6.za n6 new6) I6.bare (λb hb=>⟨(hfp b hb).2.2.2.1,(hfp b hb).2.1,(hfp b hb).2.2.2.2.1,(hfp b hb).2.2.2.2.2⟩);refine hRR D C s6 H5 ys m6 I7 n6 fin ns6 ⟨?_,?_,?_,λx c hcx z=>?_,λp hp z=>?_⟩
   ·rw[zm (qE hDC)]; exact I6.free
   ·exact λz=>absurd I.lt (by rw[<-z]; exact MU.mpr hCle)
   ·exact xv I.sz hCle
   ·subst z;obtain⟨v,o,ho,_⟩:=I.cell x c hcx;exact absurd (wE (Heap.lt_size ho) hCle) (wJ _)
   ·obtain⟨e,_⟩:=I.pin p hp;rw[z]at e;exact absurd (wE (Heap.lt_size e) hCle) (wJ _)
  ·refine v_ (T.item X' rfl rfl rfl hcalm i _ s5 _ H5 (λ_ _=>False) I5 (fpok fr5) st5 go) (λr s6 ⟨u,hr,h6⟩=>?_) λ_ _ z=>z
   subst hr;refine v_ h6 (λ_ s7 ⟨x,H7,I7,r7,y7,st7,fr7⟩=>?_) λ_ _ z=>z
   have I7':=I7.pinned (fpok fr7) (T.obj _ _ st7);refine v_ (hg C s2 H2 fp _ _ s7 _ H7 x u _ I7' r7 (step x H7 y7)) (λ_ s8 ⟨σ8,H8,I8,⟨τ,hτ⟩,q8⟩=>?_) λ_ _ z=>z
   subst hτ
   have back:∀{n':Nat}{ys':List V}{its':List Value}{k':Nat}{H9:Hp}{s9:Shared}{pl:List (Addr×Obj)},Inv X' ((D,wt its' k')::pl) (σ++τ) H9 s9->zy ys' its'->tn (i+1) s9.heap->(∀b∈fp,H9 b=none)->W (i+1) n' ys' H9->ys'.length<=sizeLine->
     ∃(i:Nat) (ys:List V) (its:List Value) (k:Nat) (H':Hp),Inv X' [(D,wt its k)] (σ++List.replicate own.length none) H' s9/\zy ys its/\tn i s9.heap/\(∀b∈fp,H' b=none)/\W i n' ys H'/\ys.length<=sizeLine:=λ{n' ys' its' k' H9 s9 pl} I9 v9 st9 fr9 w9 z9=>by
    have I9':Inv X' [(D,wt its' k')] (σ++τ) H9 s9:=I9.Y_ λp hp=>I9.pin p (uk _ (by
     have q:p=(D,wt its' k'):=by simpa using hp
     subst q;exact xV))
    refine⟨i+1,ys',its',k',H9,I9'.weak ?_ (λj v e=>?_),v9,st9,fr9,w9,z9⟩
    ·rw[I9'.len,<-I5.len]
    ·have e':=T7 e;rw[Z9 (xE.mp e').1];exact e'
   have keepIt:∀{σ9:St}{H9:Hp}{s9:Shared},Inv X' ([(D,wt its k)]++Xo fp s7.heap) σ9 H9 s9->tn (i+1) s9.heap/\∀b∈fp,H9 b=none:=λ{σ9 H9 s9} I9=>
    ⟨T.keep _ _ _ st7 λb hb o e=>(I9.pin (b,o) (uk _ (uk _ (Ti hb e)))).1,λb hb=>by
     obtain⟨o,e,_⟩:=T.obj _ _ st7 b hb;exact(I9.pin (b,o) (uk _ (uk _ (Ti hb e)))).2.1⟩
   refine v_ (hc C s2 H2 fp _ _ s8 _ H8 _ I8 q8) (λc s9 ⟨H9,I9,q9⟩=>?_) λ_ _ z=>z
   cases c with
   |false=>
    rw[zS yz]at q9 ⊢;obtain⟨m',hm,w9⟩:=hN _ _ q9;exact⟨m',hm,back I9 v5 (keepIt I9).1 (keepIt I9).2 w9 z5⟩
   |true=>
    rw[zN rfl]at q9 ⊢;refine v_ (he C s2 H2 fp _ _ s9 _ H9 _ I9 q9) (λyv sa ⟨y,Ha,Ia,ra,qa⟩=>?_) λ_ _ z=>z
    obtain⟨m',hm,wa⟩:=hN _ _ qa;obtain⟨ea,na,_⟩:=Ia.pin (D,wt its k) (uk _ (MK _ xV))
    have szi:its.toArray.size<=sizeLine:=by
     have:=v5.length;simp only[yk];omega
    refine wpAny_list_append_plain (hsz:=szi) ⟨k,ea⟩ λhb hlb hsb'=>?_
    obtain⟨kb,eb⟩:=hlb;have eb':hb.get? D=some (wt (its++[yv]) kb):=by rw[eb]; simp
    have Ib:Inv X' [(D,wt (its++[yv]) kb)] (σ++τ) Ha { sa with heap:=hb,toks:=sa.toks }:=PU (tk:=sa.toks) Ia hDle hpn hsb' eb';have stb:tn (i+1) hb:=T.keep _ _ _ (keepIt Ia).1 λb hbf o e=>(hsb'.2 b (λz=>absurd (lt b hbf) (by rw[z]; exact MU.mpr hDle))).trans e
    exact⟨m',hm,back Ib (zy.append v5 (.cons ra .nil)) stb (keepIt Ia).2 wa (by rw[yj]; exact room)⟩
 exact codeAny_compStart_list (loop _ rfl) (T.self X.A 0 _ _ _ (T.keep _ _ _ t0 λb _ o e=>keep b o e) (loop _ rfl))
def fq(n:Nat)(wi:TI)(g:TG)(tc:TT)(te:TE):TE:=λσ H Q=>wi σ H λJ H1=>∃W:Nat->Nat->List V->Hp->Prop,(∃m,W 0 m [] H1)/\
 Th σ n J g tc te W λys H'=>∀p,H' p=none->Q (.ref p) (zX H' p (.lst ys))
theorem U9.inv{z6:List (Addr×Obj)}{σ:St}{H:Hp}{s:Shared}{C:Addr}{h':Heap}(o:U9 X z6 H s C)(I:Inv X z6 σ H s)(hs:Heap.SameBut C s.heap h'):Inv X z6 σ H { s with heap:=h' }:=
 I.turned (it:=C) (t':=s.toks) (λb u hb q=>(hs.2 b hb).trans q) o.free o.ne (.inr o.old) o.cell o.pin
theorem Cc(hcalm:X.calm=true)(B:pM X scope cl own)(hi:PI X tg iter wi)(hg:∀C s H fp pn,PG (xf X scope cl own C s H fp pn) tg g)(hc:∀C s H fp pn,gl (xf X scope cl own C s H fp pn) ifs tc)
  (he:∀C s H fp pn,PE (xf X scope cl own C s H fp pn) elt te)(hs:∀x,foldedSetIterable iter X.env x=pure x:=by intro _; rfl) :
  PE X (.ListComp elt [⟨tg,iter,ifs,0⟩] scope pos) (fq own.length wi g tc te):=by
 intro z6 s σ H Q I h;rw[eval_ListComp];refine HI (use:=none) rfl hs B.Vc B.kind B.names (zi (hi z6 s σ H _ I h) λv s1 h1=>zi h1 λitv s2 h2=>?_);obtain⟨it,fp,tn,J,H2,e,I2,T,st2,f2,W,⟨m0,w0⟩,turn⟩:=h2;subst e;refine BQ (RR:=λacc C=>compPost (model X.prog X.w) X.A X.xe none (EP X z6 σ Q) acc C) hcalm B I2 T st2 f2 hg hc he w0 turn ?_;intro D C s' H' ys m' I' n' fin ns' off;exact⟨m',ns',λh' hs'=>⟨.ref D,zX H' D (.lst ys),off.inv I' hs',rfl,fin D n'⟩⟩
def i5(i n:Nat)(wi:TI)(g:TG)(tc:TT)(te:TE):TS:=λD σ H=>wi σ H λJ H1=>∃W:Nat->Nat->List V->Hp->Prop,(∃m,W 0 m [] H1)/\
 Th σ n J g tc te W λys H'=>∀p,H' p=none->D.nx (σ.set i (some (.ref p))) (zX H' p (.lst ys))
theorem Oz{i:Nat}{x:Str}{px spos:Pos}(hcalm:X.calm=true)(hN:X.N.Nodup)(hix:X.N[i]?=some x)(hx:X.env.scope.names.lookup x=some .local)(B:pM X scope cl own)
  (hsw:swapsWith (.ListComp elt [⟨tg,iter,ifs,0⟩] scope pos) (some (.Name x px)) spos.line X.env=pure true)(hi:PI X tg iter wi)
  (hg:∀C s H fp pn,PG (xf X scope cl own C s H fp pn) tg g)(hc:∀C s H fp pn,gl (xf X scope cl own C s H fp pn) ifs tc)(he:∀C s H fp pn,PE (xf X scope cl own C s H fp pn) elt te)
  (hs:∀x,foldedSetIterable iter X.env x=pure x:=by intro _; rfl) :
  PS X (.Assign [.Name x px] (.ListComp elt [⟨tg,iter,ifs,0⟩] scope pos) spos) (i5 i own.length wi g tc te):=by
 intro z6 s σ H D I h;rw[exec_Assign_Name_used _ _ _ _ hsw];refine zC (Mm (zC ?_));show wpAny _ X.A (do let _ <-comprehension (.ListComp elt [⟨tg,iter,ifs,0⟩] scope pos) scope X.env _ (newList []) false (eval iter X.env) (some (assign (.Name x px) X.env))) _ _ s
 refine zC (zi (HI (use:=some (assign (.Name x px) X.env)) (Q:=λ_ s'=>SP X z6 D .next s') rfl hs B.Vc B.kind B.names
  (zi (hi z6 s σ H _ I h) λv s1 h1=>zi h1 λitv s2 h2=>?_)) λ_ s' hq=>zO (zO hq))
 obtain⟨it,fp,tn,J,H2,e,I2,T,st2,f2,W,⟨m0,w0⟩,turn⟩:=h2;subst e;refine BQ (RR:=λacc C=>compPost (model X.prog X.w) X.A X.xe (some (assign (.Name x px) X.env)) (λ_ s'=>SP X z6 D .next s') acc C) hcalm B I2 T st2 f2 hg hc he w0 turn ?_;intro L C s' H' ys m' I' n' fin ns' off;show wpAny _ X.A (assign (.Name x px) X.env (.ref L)) _ _ s';refine wpAny_assign_Name (Ey I' hN hix (.inl hx) (v:=.ref L) rfl (λs3 I3 q3=>?_) (.inr hx));obtain⟨a,hsa,ha⟩:=q3
 have hCa:C≠a:=by
  rcases ha with z|z
  ·rw[z]; exact off.ne
  ·exact λy=>off.cell x a z y.symm
 refine⟨m',ns'.sameBut hsa hCa,λh' hs'=>?_⟩;exact⟨_,_,U9.inv (H:=zX H' L (.lst ys)) ⟨off.free,off.ne,off.old,off.cell,off.pin⟩ I3 hs',fin L n'⟩
end
structure QE(X:Cx)(e:Expr)(t:TE):Prop where
 h:PE X e t
structure QA(X:Cx)(es:List Expr)(t:TA):Prop where
 h:PA X es t
structure QS(X:Cx)(st:Stmt)(t:TS):Prop where
 h:PS X st t
structure QG(X:Cx)(e:Expr)(t:TG):Prop where
 h:PG X e t
structure UB(X:Cx)(es:List Expr)(t:qm):Prop where
 h:X7 X es t
structure QI(X:Cx)(tg e:Expr)(t:TI):Prop where
 h:PI X tg e t
section
variable{X:Cx}{x y:Str}{p pos pos' apos cpos p2:Pos}{e a b c o tg iter elt:Expr}{es rest:List Expr}{te ta tb tc to:TE}{t:TA}{tA tB':TT}{r r':R2}{v:V}{T id:String}{ps:List Str}{j k i:Nat}{sp:Sp}
theorem qv(i:Nat){x:Str}{pos:Pos}(hN:X.N[i]?=some x:=by rfl)(hv:ut X.env.scope x:=by first|exact Or.inl rfl|exact Or.inr (Or.inl rfl)|exact Or.inr (Or.inr rfl))(hd:(x==("__debug__" : Str))=false:=by decide)
  (hcd:(x==("__classdict__" : Str))=false:=by decide):QE X (.Name x pos) (Z2 i):=⟨kU hN hv hd hcd⟩
theorem bG(h:yf X.mg x v)(hg:Gl X x)(hd:(x==("__debug__" : Str))=false:=by decide):QE X (.Name x pos) (tC v):=⟨Xn h hg hd⟩
theorem bF(hg:Gl X x)(hm:X.mg x=none)(hv:bootBuiltins x=some (.type T))(hn:x ≠ "__name__" := by decide)(hd:(x==("__debug__" : Str))=false:=by decide):QE X (.Name x pos) (tC (.ty T)):=⟨Ac hg hm hv hn hd⟩
def Cj:Expr->Bool
 |.Name ..=>true
 |.Call ..=>true
 |.Subscript ..=>true
 |.Attribute ..=>true
 |.Constant ..=>true
 |.List ..=>true
 |.Tuple ..=>true
 |.BinOp ..=>true
 |_=>false
theorem aT{e:Expr}{env:Env}(h:Cj e=true):∀whole,isTrue e env whole=(do let v <-whole; standAt e.pos; holding [v] (truthy v)):=by
 cases e<;>first|(intro _; rfl)|cases h
theorem L8:QA X [] Yd:=⟨kT⟩
theorem Tu(ha:QE X e te)(hr:QA X es t)(h:xS e=true:=by rfl):QA X (e::es) (Z1 te t):=⟨Xm ha.h hr.h h⟩
def Tr:Expr->Bool
 |.Name ..=>true
 |.Constant ..=>true
 |.BinOp ..=>true
 |.Call ..=>true
 |.UnaryOp ..=>true
 |.Subscript ..=>true
 |.Attribute ..=>true
 |_=>false
theorem Ox{b:Expr}(h:Tr b=true):M_ b:=by
 cases b<;>first|(intro _ _; rfl)|cases h
theorem Tv{r:List V->Hp->VK->Prop}(hc:wK X (.builtin id) r)(hg:Gl X x)(hm:X.mg x=none)(hv:bootBuiltins x=some (.builtin id))(ha:QA X (e::es) t)(hn:x ≠ "__name__" := by decide)(hdb:(x==("__debug__" : Str))=false:=by decide)
  (he:(e::es).all xS=true:=by rfl):QE X (.Call (.Name x p) (e::es) [] pos) (QH r t):=by
 rw[wl,xP]at he;exact⟨Ae hc hg hm hv ha.h hn hdb (t9 he.1) (V5 he.2)⟩
theorem Xr{r:List V->Hp->VK->Prop}(hc:wK X (.type T) r)(hg:Gl X x)(hm:X.mg x=none)(hv:bootBuiltins x=some (.type T))(ha:QA X (e::es) t)(hn:x ≠ "__name__" := by decide)(hdb:(x==("__debug__" : Str))=false:=by decide)
  (he:(e::es).all xS=true:=by rfl):QE X (.Call (.Name x p) (e::es) [] pos) (QH r t):=by
 rw[wl,xP]at he;exact⟨Af hc hg hm hv ha.h hn hdb (t9 he.1) (V5 he.2)⟩
variable{st:Stmt}{sts body:List Stmt}{ts us tbs:TS}{g:TG}{wi:TI}
def Xh:Expr->Bool
 |.ListComp ..=>false
 |.SetComp ..=>false
 |.DictComp ..=>false
 |_=>true
theorem FW{e:Expr}{tgt:Option Expr}{n:Nat}{env:Env}(h:Xh e=true):swapsWith e tgt n env=pure false:=by
 cases e<;>first|rfl|cases h
theorem E2(he:QE X e te)(hs:Xh e=true:=by rfl):QS X (.Expr e pos) (G9 te):=⟨ah he.h (FW hs)⟩
theorem E3{i:Nat}{x:Str}{pos':Pos}(hN:X.N.Nodup)(hi:X.N[i]?=some x)(hx:qk X.env.scope x)(he:QE X e te)(hs:Xh e=true:=by rfl)(hf:X.fn x=true\/X.env.scope.names.lookup x=some .local:=by first|exact .inl rfl|exact .inr rfl|assumption) :
  QS X (.Assign [.Name x pos'] e pos) (La te (ux i)):=⟨am hN hi hx he.h (FW hs) hf⟩
theorem yt{i:Nat}{x:Str}(hN:X.N.Nodup)(hi:X.N[i]?=some x)(hx:qk X.env.scope x)(hf:X.fn x=true\/X.env.scope.names.lookup x=some .local:=by first|exact .inl rfl|exact .inr rfl|assumption):QG X (.Name x pos) (ux i):=⟨Ax hN hi hx hf⟩
theorem j_:UB X [] XQ:=⟨A_⟩
theorem vp{t:TG}{u:qm}(h1:QG X e t)(h2:UB X es u)(hs:(assignEach (e::es) X.env).map (·.2)=assign e X.env::(assignEach es X.env).map (·.2):=by rfl):UB X (e::es) (jj t u):=⟨Az h1.h h2.h hs⟩
theorem jz{k:Nat}{t:qm}{n:Nat}(hc:X.calm=true)(h:UB X es t)(hn:(assignEach es X.env).length=n:=by rfl)(hst:(assignEach es X.env).findIdx? (·.1)=none:=by rfl):QG X (.Tuple es k pos) (XR X.K n t):=⟨Ay hc h.h hn hst⟩
variable{ifs:List Expr}{scope:Scope}{cl:List (Str×Addr)}{own:List Str}{tcc:TT}
variable{name:Str}{rm:V->List V->Hp->VK->Prop}
theorem Ex{env:Env}{pos:Pos}:∀{es:List Expr},es.all xS=true->(backTo pos (starEach es env)).all (λx=>!x.1)=true
 | [],_=>rfl
 |e::es,h=>by
  rw[wl,xP]at h;rw[t9 h.1];have ih:=Ex (env:=env) (pos:=pos) h.2;unfold backTo at ih ⊢;rw[wD,wl,ih];rfl
theorem Xq(pa:PlainAttrs T)(slot:Slot T name id)(hty:typeOf (.builtin id)=pure (.type "method_descriptor"))(hm:X4 X id rm)(ho:QE X o to)(ha:QA X (e::es) t)
  (hbase:attributeBase o name X.env (eval o X.env)=eval o X.env:=by rfl)(hline:(apos.endLine==cpos.line)=true:=by rfl)(he:(e::es).all xS=true:=by rfl)(hl:(e::es).length<30:=by decide) :
  QE X (.Call (.Attribute o name apos) (e::es) [] cpos) (G7 X.K T rm to t):=⟨by
 have ha':=Ex (env:=X.env) (pos:=cpos) he;rw[wl,xP]at he;refine Ab pa slot hty hm ho.h ha.h hbase ?_ hline (t9 he.1) (V5 he.2);rw[ha'];show(true&&true&&decide ((e::es).length+0+0<30))=true;rw[yh (show(e::es).length+0+0<30 from hl)];rfl⟩
end
section
variable{P:Program}{w:World}{K:W.Frag}{mg:Str->Option Value}{base:Heap}
end
def B1(K:W.Frag)(H:Hp)(a c:Addr)(xs ys:List V):Prop:=(yu K H a xs/\yu K H c ys)\/(yL K H a xs/\yL K H c ys)
section
variable{X:Cx}{z6:List (Addr×Obj)}{σ:St}{H:Hp}{s:Shared}
theorem bV{A:Around}{a c:Addr}{xs ys:List V}{e:Nat->Bool}(I:Inv X z6 σ H s)(hu:A.units<cLine)(hq:B1 X.K H a c xs ys)
  (he:∀(j:Nat) x' y' u v,xs[j]?=some x'->ys[j]?=some y'->z_ x' u->z_ y' v->SeqAt.EqAt A.in1 s u v (e j)) :
  SeqAt.RcAt A s (.ref a) (.ref c) ((List.range (min xs.length ys.length)).all e&&xs.length==ys.length)/\SeqAt.RcNeAt A s (.ref a) (.ref c) (!((List.range (min xs.length ys.length)).all e&&xs.length==ys.length)):=by
 have get:∀{zs:List V}{us:List Value}{j:Nat}(hj:j<us.toArray.size),zy zs us->∃z,zs[j]?=some z/\z_ z us.toArray[j]:=λ{zs us j} hj r=>by
  have hl:=r.length
  have hj':j<zs.length:=by
   rw[yk]at hj;omega
  obtain⟨u,hu',ru⟩:=r.get (yS hj');refine⟨_,yS hj',?_⟩
  have:us.toArray[j]=u:=by
   have h2:us[j]?=some us[j]:=yS (by omega);rw[h2]at hu';simpa using hu'
  rw[this];exact ru
 rcases hq with⟨ha,hc⟩|⟨ha,hc⟩
 ·obtain⟨us,ra,pa,_⟩:=I.tuple ha;obtain⟨vs,rc,pc,_⟩:=I.tuple hc;have h1:=ra.length;have h2:=rc.length
  have key:∀j (k1:j<us.toArray.size) (k2:j<vs.toArray.size),SeqAt.EqAt A.in1 s us.toArray[j] vs.toArray[j] (e j):=λj k1 k2=>by
   obtain⟨z1,e1,r1⟩:=get k1 ra;obtain⟨z2,e2,r2⟩:=get k2 rc;exact he j z1 z2 _ _ e1 e2 r1 r2
  have p:=SeqAt.RcAt.tuples (e:=e) pa pc hu key;have q:=SeqAt.RcNeAt.tuples (e:=e) pa pc hu key;rw[yk,yk,<-h1,<-h2]at p q;exact⟨p,q⟩
 ·obtain⟨us,ra,pa,_⟩:=I.list ha;obtain⟨vs,rc,pc,_⟩:=I.list hc;have h1:=ra.length;have h2:=rc.length
  have key:∀j (k1:j<us.toArray.size) (k2:j<vs.toArray.size),SeqAt.EqAt A.in1 s us.toArray[j] vs.toArray[j] (e j):=λj k1 k2=>by
   obtain⟨z1,e1,r1⟩:=get k1 ra;obtain⟨z2,e2,r2⟩:=get k2 rc;exact he j z1 z2 _ _ e1 e2 r1 r2
  by_cases hl:xs.length=ys.length
  ·have hs:us.toArray.size=vs.toArray.size:=by rw[yk,yk]; omega
   have p:=SeqAt.RcAt.lists (e:=e) pa.isList pc.isList hs hu key;have q:=SeqAt.RcNeAt.lists (e:=e) pa.isList pc.isList hs hu key;have e1:min xs.length ys.length=us.toArray.size:=by rw[yk]; omega
   have e2:(xs.length==ys.length)=true:=by simp[hl]
   rw[e1,e2,Bool.and_true];exact⟨p,q⟩
  ·have hs:(us.toArray.size != vs.toArray.size)=true:=by
    rw[yk,yk];simp;omega
   have e2:(xs.length==ys.length)=false:=by simp[hl]
   rw[e2,M0];exact⟨SeqAt.RcAt.lists_lengths pa.isList pc.isList hs hu,SeqAt.RcNeAt.lists_lengths pa.isList pc.isList hs hu⟩
theorem TQ(A:Around):A.in1.units=A.units+1:=rfl
end
theorem K_{x:V}(h:uA x=true):vM x x=true:=by
 cases x<;>first|rfl|(simp[vM]; done)|cases h
open PySem.W (hideAll)
section
variable{P:Program}{w:World}{l:List Env}{H H':Hp}{h B h' h'':Heap}
end
section
variable{X:Cx}{z6:List (Addr×Obj)}{σ:St}{H H':Hp}{s:Shared}{B h':Heap}
variable{x:Str}{C:Addr}{np cpos pos:Pos}{e:Expr}{es:List Expr}{t:TA}{E:XK}
end
section
variable{P:Program}{w:World}{K:W.Frag}{mg:Str->Option Value}{base:Heap}{N:List Str}{qual:Str}{scope:Scope}{f:Addr}{cd:Value}{A:Around}{outer:List Env}{s₀:Shared}{H₀:Hp}{E:XK}
end
section
variable{X:Cx}{x:Str}{np cpos pos p:Pos}{e:Expr}{es:List Expr}{t:TA}{E:XK}{C:Addr}{ps:List Str}{j k:Nat}{sp:Sp}
end
end L2
namespace L2
open PySem PySem.Spec PyProof.Rows
section
variable{X:Cx}{z6:List (Addr×Obj)}{σ:St}{H H':Hp}{s:Shared}{a C:Addr}
def HS(a C:Addr)(h:Heap):Prop:=∃o vs,h.get? a=some o/\o.cls=.ref C/\o.data=.fields vs
theorem nC{fs ex:List Addr}{H H':Hp}{h h':Heap}{D:Addr}{o:HO}(u:Un fs ex H H' h h')(hD:h.get? D=none)(hn:H' D=none):Un fs ex H (zX H' D o) h h' where
 keep:=u.keep
 slot:=u.slot
 free:=λb ob q n hx=>by rw[zm (λz=>by subst z; rw[hD]at q; cases q)]; exact u.free b ob q n hx
 there:=u.there
 vj:=λb xs q=>by rw[zm (uB (u.vj b xs q) hn)]; exact u.vj b xs q
 vW:=λb ob v q=>by rw[zm (uB (u.vW b ob v q) hn)]; exact u.vW b ob v q
 uN:=λb ps q=>by
  obtain⟨more,z⟩:=u.uN b ps q;exact⟨more,by rw[zm (uB z hn)]; exact z⟩
end
section
variable{X:Cx}{x n:Str}{p pos np hpos tpos:Pos}{e e1 e2:Expr}{es:List Expr}{ta:TA}{te:TE}{tx:TX}{ps:List Str}{j k i:Nat}{sp:Sp}{E:XK}{D:Addr}
variable{suite:List Stmt}{ts:TS}{b₀:Stmt}
end
section
variable{X:Cx}{x:Str}{p pos:Pos}{e:Expr}{es:List Expr}{t:TA}{ps:List Str}{j k:Nat}{sp:Sp}
end
section
variable{X:Cx}{e e1 e2:Expr}{es:List Expr}{te:TE}{t:TJ}{pos:Pos}
end
open PySem.W (Looks findIn mroIn looks_findIn looks_mroIn clsIn)
section
variable{prog:Program}{w:World}{A:Around}{E:Value->Shared->Prop}{h:Heap}{g:Array GenState}{d:Drawn}{t:Nat}{os:OsState}{a C:Addr}{o:Obj}{K:W.Frag}
end
end L2
namespace L2
open PySem PySem.Spec PyProof.Rows
section
variable{X:Cx}
theorem GP{ns:List Int}{its:List Value}(r:zy (ns.map V.int) its){i:Nat}{v:Value}(h:its.toArray[i]?=some v):∃t,v=.int (ns.getD i 0) t:=by
 have hi:i<its.length:=by
  rw[Qp]at h;exact(xE.mp h).1
 have hl:ns.length=its.length:=by have:=r.length; rw[zx]at this; exact this
 have hx:(ns.map V.int)[i]?=some (.int (ns.getD i 0)):=by
  rw[xM,vH,yS (by omega)];rfl
 obtain⟨u,hu,ru⟩:=r.get hx;rw[Qp,hu]at h;cases h;exact ru
end
open Builtin.SmallTypes (nextOf)
structure gm(P:Program)(w:World)(it l:Addr)(st:Nat->Heap->Prop)(n:Nat)(val:Nat->Value):Prop where
 keep:∀i h h',st i h->(∀b o,(b=it\/b=l)->h.get? b=some o->h'.get? b=some o)->st i h'
 item:∀{A:Around}{Q:Value->Shared->Prop}{E:Value->Shared->Prop}{s:Shared}(i:Nat),st i s.heap->i<n->(∀h',st (i+1) h'->Heap.SameBut it s.heap h'->Q (val i) { s with heap:=h' })->wpAny (model P w) A (nextOf (.ref it)) Q E s
 done:∀{A:Around}{Q:Value->Shared->Prop}{E:Value->Shared->Prop}{s:Shared}(i:Nat),A.handled=none->st i s.heap->n<=i->
  (∀h' e,Heap.ExtBut it s.heap h'->(∃o,h'.get? e=some o/\o.cls=.type "StopIteration")->E (.ref e) { s with heap:=h' })->wpAny (model P w) A (nextOf (.ref it)) Q E s
section
variable{prog:Program}{w:World}{A:Around}{E:Value->Shared->Prop}{s:Shared}
theorem Rq{it t:Addr}{i:Nat}{zF}{x:Value}{Q:Value->Shared->Prop}(hit:s.heap.IsTupleIter it t i)(ht:s.heap.IsTuple t zF)(hx:zF[i]?=some x)
  (hQ:∀h',h'.IsTupleIter it t (i+1)->Heap.SameBut it s.heap h'->Q x { s with heap:=h' }):wpAny (model prog w) A (nextOf (.ref it)) Q E s:=by
 obtain⟨o,ho,hc,hd⟩:=id hit;obtain⟨ol,hol,_,nl,hdl⟩:=ht;unfold nextOf
 refine zC (pJ (name:=Str.ofString "__next__") hit.typeIs Qj
  (tL Qj hit.typeIs Gi ?_ (Gh _)))
 refine zC (m:=field (.ref it) 0) (vz ho hd (x:=.ref t) rfl ?_);show wpAny _ _ (if(Value.ref t==Value.none)=true then _ else _) _ _ s;rw[zS (show ¬ ((Value.ref t==Value.none)=true)from yz)];refine zC (m:=field (.ref it) 1) (vz ho hd (x:=.int i 0) rfl ?_);refine zC (m:=seqItems? (.ref t)) (tM hol hdl ?_);simp only[xU,hx];refine zC (VY ho hd (by simp) (zO ⟨x,rfl,zO (hQ _ ?_ (Heap.SameBut.update ..))⟩))
 exact⟨_,Heap.get?_update_self _ ho (Obj.isFreed_of_fields (Qv hd _)),(Obj.cls_mapFields ..).trans hc,by
  rw[Qv hd]; simp[rawInt]⟩
theorem Rp{it t:Addr}{i:Nat}{zF}{Q:Value->Shared->Prop}(hh:A.handled=none)(hit:s.heap.IsTupleIter it t i)(ht:s.heap.IsTuple t zF)(hx:zF[i]?=none)
  (hE:∀h' e,Heap.ExtBut it s.heap h'->(∃o,h'.get? e=some o/\o.cls=.type "StopIteration")->E (.ref e) { s with heap:=h' }):wpAny (model prog w) A (nextOf (.ref it)) Q E s:=by
 obtain⟨o,ho,hc,hd⟩:=id hit;obtain⟨ol,hol,_,nl,hdl⟩:=ht;unfold nextOf
 refine zC (pJ (name:=Str.ofString "__next__") hit.typeIs Qj
  (tL Qj hit.typeIs Gi ?_ (Gh _)))
 refine zC (m:=field (.ref it) 0) (vz ho hd (x:=.ref t) rfl ?_);show wpAny _ _ (if(Value.ref t==Value.none)=true then _ else _) _ _ s;rw[zS (show ¬ ((Value.ref t==Value.none)=true)from yz)];refine zC (m:=field (.ref it) 1) (vz ho hd (x:=.int i 0) rfl ?_);refine zC (m:=seqItems? (.ref t)) (tM hol hdl ?_);simp only[xU,hx];refine zC (gT (zC (VY ho hd (by simp) ?_)));refine zC (m:=newExc (.type "StopIteration") []) ?_;simp only[newExc,newTuple];refine zC (um ?_ (by size_fits));refine zC (m:=firstArgMember _ _) (VU (a:=Value.none) (by first|rfl|(simp only[firstArgMember]; rfl)) ?_);refine um ?_ (by size_fits);simp only[raiseNew];refine zC (Mi ?_)
 first|rw[show A.in1.handled=none from hh]|rw[hh]
 refine zC (zO (wpAny_throw ?_));exact hE _ _ (((Heap.SameBut.update ..).extBut.push _).push _) ⟨_,Heap.get?_push_size _ rfl,rfl⟩
theorem fM{it l:Addr}(hne:l≠it)(zF:Array Value):gm prog w it l (λi h=>h.IsListIter it l i/\h.IsList l zF) zF.size (λi=>zF.getD i .none) where
 keep:=λi h h' st k=>⟨st.1.at λo e=>k it o (.inl rfl) e,st.2.at λo e=>k l o (.inr rfl) e⟩
 item:=λi st hi hQ=>wpAny_nextOf_list_item st.1 st.2 (x:=zF.getD i .none) (by simp[Array.getD,hi]) λh' st' sb=>hQ h' ⟨st',st.2.extBut sb.extBut hne⟩ sb
 done:=λi hh st hi hE=>wpAny_nextOf_list_end hh st.1 st.2 (VB hi) hE
theorem fN{it l:Addr}(hne:l≠it)(zF:Array Value):gm prog w it l (λi h=>h.IsTupleIter it l i/\h.IsTuple l zF) zF.size (λi=>zF.getD i .none) where
 keep:=λi h h' st k=>⟨st.1.at λo e=>k it o (.inl rfl) e,st.2.at λo e=>k l o (.inr rfl) e⟩
 item:=λi st hi hQ=>Rq st.1 st.2 (x:=zF.getD i .none) (by simp[Array.getD,hi]) λh' st' sb=>hQ h' ⟨st',st.2.extBut sb.extBut hne⟩ sb
 done:=λi hh st hi hE=>Rp hh st.1 st.2 (VB hi) hE
variable{z TI TO i1 i2 l1 l2:Addr}{st1 st2:Nat->Heap->Prop}{n1 n2:Nat}{v1 v2:Nat->Value}{a b:Value}{k:Nat}
theorem oj{Q:Value->Shared->Prop}(D:ZipApart z TI TO i1 i2 l1 l2)(S1:gm prog w i1 l1 st1 n1 v1)(S2:gm prog w i2 l2 st2 n2 v2)
  (hz:IsZip s.heap z TI TO .none)(hTI:IsPair s.heap TI (.ref i1) (.ref i2))(hTO:IsPair s.heap TO a b)(h1:st1 k s.heap)(h2:st2 k s.heap)(k1:k<n1)(k2:k<n2)
  (hi1:i1<s.heap.objs.size)(hi2:i2<s.heap.objs.size)(hl1:l1<s.heap.objs.size)(hl2:l2<s.heap.objs.size)
  (hQ:∀h',IsZip h' z TI TO (rawInt s.heap.objs.size)->IsPair h' TO (v1 k) (v2 k)->st1 (k+1) h'->st2 (k+1) h'->IsPair h' s.heap.objs.size (v1 k) (v2 k)->
   (∀c o,c≠z->c≠TO->c≠i1->c≠i2->s.heap.get? c=some o->h'.get? c=some o)->Q (.ref s.heap.objs.size) { s with heap:=h' }) :
  wpAny (model prog w) A (Builtin.«zip.__next__» ⟨[.ref z],[]⟩) (λfin s'=>∃v,fin=.done (.ret v)/\Q v s') E s:=by
 refine zC (m:=field (.ref z) 2) (vz hz rfl (x:=.bool false) rfl ?_);refine zC (m:=field (.ref z) 3) (vz hz rfl (x:=.ref TI) rfl ?_);refine zC (tM hTI rfl ?_);refine zC (m:=Builtin.SmallTypes.ownedTupleIsFree (.ref z)) ?_;unfold Builtin.SmallTypes.ownedTupleIsFree;refine zC (vz hz rfl (x:=.none) rfl (zO ?_));simp only[ul];refine zC (gT (zC (vz hz rfl (x:=.ref TO) rfl ?_)));refine zC (Yt hz (by simp) λha hza sa=>?_)
 replace hza:IsZip ha z TI TO .ellipsis:=hza
 refine zC ?_;simp only[List.zipIdx_cons,List.zipIdx_nil,MG,List.forIn_nil];have h1a:st1 k ha:=S1.keep k _ _ h1 λc o hc e=>sa.extBut c o (by rcases hc with rfl|rfl; exact D.i1z; exact D.l1z) e
 refine zC (zC (VW (zC (m:=nextOf (.ref i1)) (S1.item k h1a k1 λhb h1b sb=>zO ?_))));have hTOb:IsPair hb TO a b:=sb.extBut _ _ D.TOi1 (sa.extBut _ _ D.TOz hTO);refine zC (tM hTOb rfl (zC (Mn hTOb λhc hTOc sc=>?_)))
 replace hTOc:IsPair hc TO (v1 k) b:=hTOc
 refine zC (ZH (zO ?_))
 have h2c:st2 k hc:=S2.keep k _ _ h2 λc o hcc e=>by
  rcases hcc with rfl|rfl
  ·exact sc.extBut _ _ D.TOi2.symm (sb.extBut _ _ D.i12.symm (sa.extBut _ _ D.i2z e))
  ·exact sc.extBut _ _ D.l2TO (sb.extBut _ _ D.l2i1 (sa.extBut _ _ D.l2z e))
 refine zC (zC (VW (zC (m:=nextOf (.ref i2)) (S2.item k h2c k2 λhd h2d sd=>zO ?_))));have hTOd:IsPair hd TO (v1 k) b:=sd.extBut _ _ D.TOi2 hTOc;refine zC (tM hTOd rfl (zC (Mn hTOd λhe hTOe se=>?_)))
 replace hTOe:IsPair he TO (v1 k) (v2 k):=hTOe
 refine zC (ZH (zO (zO ?_)));refine zC (tM hTOe rfl (zC (wpAny_newTuple ?_)));have hsz:he.objs.size=s.heap.objs.size:=by rw[se.1,sd.1,sc.1,sb.1,sa.1]
 have hze:IsZip he z TI TO .ellipsis:=se.extBut _ _ D.TOz.symm (sd.extBut _ _ D.i2z.symm (sc.extBut _ _ D.TOz.symm (sb.extBut _ _ D.i1z.symm hza)))
 have hke:∀c o,c≠z->c≠TO->c≠i1->c≠i2->s.heap.get? c=some o->he.get? c=some o:=λc o c1 c2 c3 c4 e=>
  se.extBut _ _ c2 (sd.extBut _ _ c4 (sc.extBut _ _ c2 (sb.extBut _ _ c3 (sa.extBut _ _ c1 e))))
 have h1e:st1 (k+1) he:=S1.keep _ _ _ h1b λc o hcc e=>by
  rcases hcc with rfl|rfl
  ·exact se.extBut _ _ D.TOi1.symm (sd.extBut _ _ D.i12 (sc.extBut _ _ D.TOi1.symm e))
  ·exact se.extBut _ _ D.l1TO (sd.extBut _ _ D.l1i2 (sc.extBut _ _ D.l1TO e))
 have h2e:st2 (k+1) he:=S2.keep _ _ _ h2d λc o hcc e=>by
  rcases hcc with rfl|rfl
  ·exact se.extBut _ _ D.TOi2.symm e
  ·exact se.extBut _ _ D.l2TO e
 have hzlt:z<he.objs.size:=Heap.lt_size hze;refine zC (m:=Builtin.SmallTypes.ownedTupleHandOut (.ref z) (.ref he.objs.size)) ?_;unfold Builtin.SmallTypes.ownedTupleHandOut;have hzf:IsZip (he.push { cls:=.type "tuple",data:=.seq #[v1 k,v2 k] }) z TI TO .ellipsis:=Heap.get?_push_of_some _ hze;refine zC (Yt hzf (by simp) λhg hzg sg=>?_)
 replace hzg:IsZip hg z TI TO (rawInt he.objs.size):=hzg
 refine Yt hzg (by simp) λhh hzh sh=>?_
 replace hzh:IsZip hh z TI TO (rawInt he.objs.size):=hzh
 have up:∀c o,c≠z->he.get? c=some o->hh.get? c=some o:=λc o c1 e=>sh.extBut _ _ c1 (sg.extBut _ _ c1 (Heap.get?_push_of_some _ e))
 have hT:IsPair hh he.objs.size (v1 k) (v2 k):=sh.extBut _ _ (uJ hzlt) (sg.extBut _ _ (uJ hzlt) (Heap.get?_push_size _ rfl));rw[hsz]at hzh hT;refine zO ⟨_,rfl,?_⟩;show Q (.ref he.objs.size) _;rw[hsz];refine hQ hh hzh (up _ _ D.TOz hTOe) (S1.keep _ _ _ h1e λc o hcc e=>up c o ?_ e) (S2.keep _ _ _ h2e λc o hcc e=>up c o ?_ e) hT λc o c1 c2 c3 c4 e=>up c o c1 (hke c o c1 c2 c3 c4 e)
 ·rcases hcc with rfl|rfl
  ·exact D.i1z
  ·exact D.l1z
 ·rcases hcc with rfl|rfl
  ·exact D.i2z
  ·exact D.l2z
theorem oi{Q:Fin->Shared->Prop}(hh:A.handled=none)(D:ZipApart z TI TO i1 i2 l1 l2)(S1:gm prog w i1 l1 st1 n1 v1)(S2:gm prog w i2 l2 st2 n2 v2)
  (hz:IsZip s.heap z TI TO .none)(hTI:IsPair s.heap TI (.ref i1) (.ref i2))(hTO:IsPair s.heap TO a b)(h1:st1 k s.heap)(h2:st2 k s.heap)(hend:n1<=k\/n2<=k)
  (hE:∀h' e,(∀c o,c≠z->c≠TO->c≠i1->c≠i2->s.heap.get? c=some o->h'.get? c=some o)->(∃o,h'.get? e=some o/\o.cls=.type "StopIteration")->E (.ref e) { s with heap:=h' }) :
  wpAny (model prog w) A (Builtin.«zip.__next__» ⟨[.ref z],[]⟩) Q E s:=by
 refine zC (m:=field (.ref z) 2) (vz hz rfl (x:=.bool false) rfl ?_);refine zC (m:=field (.ref z) 3) (vz hz rfl (x:=.ref TI) rfl ?_);refine zC (tM hTI rfl ?_);refine zC (m:=Builtin.SmallTypes.ownedTupleIsFree (.ref z)) ?_;unfold Builtin.SmallTypes.ownedTupleIsFree;refine zC (vz hz rfl (x:=.none) rfl (zO ?_));simp only[ul];refine zC (gT (zC (vz hz rfl (x:=.ref TO) rfl ?_)));refine zC (Yt hz (by simp) λha hza sa=>?_)
 replace hza:IsZip ha z TI TO .ellipsis:=hza
 refine zC ?_;simp only[List.zipIdx_cons,List.zipIdx_nil,MG,List.forIn_nil];have h1a:st1 k ha:=S1.keep k _ _ h1 λc o hc e=>sa.extBut c o (by rcases hc with rfl|rfl; exact D.i1z; exact D.l1z) e
 by_cases k1:k<n1
 ·have k2:n2<=k:=by omega
  refine zC (zC (VW (zC (m:=nextOf (.ref i1)) (S1.item k h1a k1 λhb h1b sb=>zO ?_))));have hTOb:IsPair hb TO a b:=sb.extBut _ _ D.TOi1 (sa.extBut _ _ D.TOz hTO);refine zC (tM hTOb rfl (zC (Mn hTOb λhc hTOc sc=>?_)));refine zC (ZH (zO ?_))
  have h2c:st2 k hc:=S2.keep k _ _ h2 λc o hcc e=>by
   rcases hcc with rfl|rfl
   ·exact sc.extBut _ _ D.TOi2.symm (sb.extBut _ _ D.i12.symm (sa.extBut _ _ D.i2z e))
   ·exact sc.extBut _ _ D.l2TO (sb.extBut _ _ D.l2i1 (sa.extBut _ _ D.l2z e))
  refine zC (zC (VW (zC (m:=nextOf (.ref i2)) (S2.done k hh h2c k2 λhd e sd he=>?_))));obtain⟨oe,hoe,hce⟩:=he;have hzd:IsZip hd z TI TO .ellipsis:=sd _ _ D.i2z.symm (sc.extBut _ _ D.TOz.symm (sb.extBut _ _ D.i1z.symm hza));have hez:e≠z:=λx=>by subst x; rw[hzd]at hoe; cases hoe; simp at hce
  exact Yt hzd (by simp) λhf _ sf=>hE hf e (λc o c1 c2 c3 c4 x=>sf.extBut _ _ c1 (sd _ _ c4 (sc.extBut _ _ c2 (sb.extBut _ _ c3 (sa.extBut _ _ c1 x))))) ⟨oe,sf.extBut _ _ hez hoe,hce⟩
 ·refine zC (zC (VW (zC (m:=nextOf (.ref i1)) (S1.done k hh h1a (by omega) λhb e sb he=>?_))));obtain⟨oe,hoe,hce⟩:=he;have hzb:IsZip hb z TI TO .ellipsis:=sb _ _ D.i1z.symm hza;have hez:e≠z:=λx=>by subst x; rw[hzb]at hoe; cases hoe; simp at hce
  exact Yt hzb (by simp) λhf _ sf=>hE hf e (λc o c1 _ c3 _ x=>sf.extBut _ _ c1 (sb _ _ c3 (sa.extBut _ _ c1 x))) ⟨oe,sf.extBut _ _ hez hoe,hce⟩
end
end L2
namespace L2
open PySem PySem.Spec PyProof.Rows
def vm(K:W.Frag)(tp:Bool)(H:Hp)(a:Addr)(xs:List V):Prop:=match tp with
 |true=>yu K H a xs
 |false=>yL K H a xs
def XY(tp:Bool):String:=match tp with
 |true => "tuple_iterator"
 |false => "list_iterator"
def u8(tp:Bool)(h:Heap)(a:Addr)(its:Array Value):Prop:=match tp with
 |true=>h.IsTuple a its
 |false=>h.IsList a its
def jX(tp:Bool)(h:Heap)(it l:Addr)(i:Nat):Prop:=∃o,h.get? it=some o/\o.cls=.type (XY tp)/\o.data=.fields #[.ref l,.int i 0]
theorem jX.at{tp:Bool}{h h':Heap}{it l:Addr}{i:Nat}(x:jX tp h it l i)(e:∀o,h.get? it=some o->h'.get? it=some o):jX tp h' it l i:=let ⟨o,ho,r⟩:=x; ⟨o,e _ ho,r⟩
theorem u8.push{tp:Bool}{h:Heap}{a:Addr}{its:Array Value}(x:u8 tp h a its)(o:Obj):u8 tp (h.push o) a its:=by
 cases tp
 ·exact Heap.IsList.push x o
 ·exact Heap.IsTuple.push x o
theorem u8.lt{tp:Bool}{h:Heap}{a:Addr}{its:Array Value}(x:u8 tp h a its):a<h.objs.size:=by
 cases tp
 ·obtain⟨o,e,_⟩:=x; exact Heap.lt_size e
 ·obtain⟨o,e,_⟩:=x; exact Heap.lt_size e
section
variable{prog:Program}{w:World}{A:Around}{E:Value->Shared->Prop}{s:Shared}
theorem Q9{tp:Bool}{it l:Addr}(hne:l≠it)(zF:Array Value):gm prog w it l (λi h=>jX tp h it l i/\u8 tp h l zF) zF.size (λi=>zF.getD i .none):=by
 cases tp
 ·exact fM hne zF
 ·exact fN hne zF
theorem Cw{tp:Bool}{l:Addr}{zF:Array Value}{Q:Value->Shared->Prop}(h:u8 tp s.heap l zF)
  (hQ:Q (.ref s.heap.objs.size) { s with heap:=s.heap.push { cls:=.type (XY tp),data:=.fields #[.ref l,.int 0 0] } }):wpAny (model prog w) A (pyIter (.ref l)) Q E s:=by
 cases tp
 ·exact VX (show s.heap.IsList l zF from h) hQ
 ·exact wpAny_pyIter_tuple (show s.heap.IsTuple l zF from h) hQ
abbrev Qd(t1:Bool)(h:Heap)(l1:Addr):Heap:=h.push { cls:=.type (XY t1),data:=.fields #[.ref l1,.int 0 0] }
abbrev Qe(t1 t2:Bool)(h:Heap)(l1 l2:Addr):Heap:=(Qd t1 h l1).push { cls:=.type (XY t2),data:=.fields #[.ref l2,.int 0 0] }
abbrev Qf(t1 t2:Bool)(h:Heap)(l1 l2:Addr):Heap:=(Qe t1 t2 h l1 l2).push { cls:=.type "tuple",data:=.seq #[.ref h.objs.size,.ref (Qd t1 h l1).objs.size] }
abbrev Qg(t1 t2:Bool)(h:Heap)(l1 l2:Addr):Heap:=(Qf t1 t2 h l1 l2).push { cls:=.type "tuple",data:=.seq #[.none,.none] }
abbrev Yf(t1 t2:Bool)(h:Heap)(l1 l2:Addr):Heap:=(Qg t1 t2 h l1 l2).push { cls:=.type "zip",data:=.fields #[.none,.bool false,.bool false,.ref (Qe t1 t2 h l1 l2).objs.size,.ref (Qf t1 t2 h l1 l2).objs.size] }
theorem ot(t1 t2:Bool)(l1 l2:Addr)(xs ys:Array Value) :
  Meets (Builtin.«zip.__new__» ⟨[.type "zip",.ref l1,.ref l2],[]⟩) (λ_ R s=>u8 t1 s.heap l1 xs/\u8 t2 s.heap l2 ys/\R (.ok (.ret (.ref (Qg t1 t2 s.heap l1 l2).objs.size))) { s with heap:=Yf t1 t2 s.heap l1 l2 }):=
 .of_wp λprog w A R s h=>by
  obtain⟨hp,g,d,tk,os⟩:=s; obtain⟨hl1,hl2,h⟩:=h;have hsub:=sub_zip;have hL1:u8 t1 (Shared.heap ⟨hp,g,d,tk,os⟩) l1 xs:=hl1;have hL2:u8 t2 (Shared.heap ⟨hp.push { cls:=.type (XY t1),data:=.fields #[.ref l1,.int 0 0] },g,d,tk,os⟩) l2 ys:=u8.push hl2 _
  wp_walk using Cw hL1,Cw hL2
  exact⟨_,rfl,h⟩
theorem KW{t1 t2:Bool}{l1 l2:Addr}{xs ys:Array Value}{Q:Value->Shared->Prop}(hl1:u8 t1 s.heap l1 xs)(hl2:u8 t2 s.heap l2 ys)
  (h:∀h',IsZip h' (s.heap.objs.size+4) (s.heap.objs.size+2) (s.heap.objs.size+3) .none->IsPair h' (s.heap.objs.size+2) (.ref s.heap.objs.size) (.ref (s.heap.objs.size+1))->
   IsPair h' (s.heap.objs.size+3) .none .none->jX t1 h' s.heap.objs.size l1 0->jX t2 h' (s.heap.objs.size+1) l2 0->
   (∀c o,s.heap.get? c=some o->h'.get? c=some o)->Q (.ref (s.heap.objs.size+4)) { s with heap:=h' }) :
  wpAny (model prog w) A (call (.type "zip") [.ref l1,.ref l2]) Q E s:=by
 refine callType_new F.called_zip (by decide) (F.typeCall_zip_2 _ _) (F.newCall_zip_2 _ _) (λobj=>F.args_object_init_3 obj _ _) F.entry_zip_new (ot t1 t2 l1 l2 xs ys) ⟨hl1,hl2,?_⟩;have z1:(Qd t1 s.heap l1).objs.size=s.heap.objs.size+1:=Heap.size_push ..;have z2:(Qe t1 t2 s.heap l1 l2).objs.size=s.heap.objs.size+2:=by rw[Heap.size_push,z1]
 have z3:(Qf t1 t2 s.heap l1 l2).objs.size=s.heap.objs.size+3:=by rw[Heap.size_push,z2]
 have z4:(Qg t1 t2 s.heap l1 l2).objs.size=s.heap.objs.size+4:=by rw[Heap.size_push,z3]
 have g5:(Yf t1 t2 s.heap l1 l2).get? (Qg t1 t2 s.heap l1 l2).objs.size=some _:=Heap.get?_push_size _ rfl;have g4:(Yf t1 t2 s.heap l1 l2).get? (Qf t1 t2 s.heap l1 l2).objs.size=some _:=Heap.get?_push_of_some _ (Heap.get?_push_size _ rfl);have g3:(Yf t1 t2 s.heap l1 l2).get? (Qe t1 t2 s.heap l1 l2).objs.size=some _:=Heap.get?_push_of_some _ (Heap.get?_push_of_some _ (Heap.get?_push_size _ rfl));have g2:(Yf t1 t2 s.heap l1 l2).get? (Qd t1 s.heap l1).objs.size=some _:=Heap.get?_push_of_some _ (Heap.get?_push_of_some _ (Heap.get?_push_of_some _ (Heap.get?_push_size _ rfl)));have g1:(Yf t1 t2 s.heap l1 l2).get? s.heap.objs.size=some _:=Heap.get?_push_of_some _ (Heap.get?_push_of_some _ (Heap.get?_push_of_some _ (Heap.get?_push_of_some _ (Heap.get?_push_size _ rfl))));show _/\_;rw[z2,z3,z4]at g5;rw[z1,z2]at g3;rw[z3]at g4;rw[z1]at g2;rw[z4]
 exact⟨⟨_,g5,rfl⟩,h _ g5 g3 g4 ⟨_,g1,rfl,rfl⟩ ⟨_,g2,rfl,rfl⟩ λc o x=>
  Heap.get?_push_of_some _ (Heap.get?_push_of_some _ (Heap.get?_push_of_some _ (Heap.get?_push_of_some _ (Heap.get?_push_of_some _ x))))⟩
end
section
variable{X:Cx}{z6:List (Addr×Obj)}{σ:St}{H:Hp}{s:Shared}
theorem Inv.ZP{tp:Bool}{a:Addr}{xs:List V}(I:Inv X z6 σ H s)(h:vm X.K tp H a xs):∃its:List Value,zy xs its/\u8 tp s.heap a its.toArray:=by
 cases tp
 ·obtain⟨its,r,p,_⟩:=I.list h;exact⟨its,r,p.isList⟩
 ·obtain⟨its,r,p,_⟩:=I.tuple h;exact⟨its,r,p⟩
theorem Inv.Mr{tp:Bool}{a:Addr}{xs ys:List V}(I:Inv X z6 σ H s)(h:vm X.K tp H a xs)(h':vm X.K tp H a ys):xs=ys:=by
 cases tp
 ·exact I.Vd h h'
 ·exact I.JG h h'
theorem GJ{fs ch:List Addr}{h h':Heap}(k:∀b o,b ∉ ch->h.get? b=some o->h'.get? b=some o):Un fs ch H H h h':=
 ⟨λb o e _ _ hx=>k b o hx e,λb o e _ _ hx=>⟨o.slots,k b o hx e⟩,λ_ _ _ n _=>n,λb o e hx=>⟨o,k b o hx e⟩,λ_ _ z=>z,λ_ _ _ z=>z,λb ps e=>⟨#[],by rw[e]; simp⟩⟩
theorem DN{P:Program}{w:World}{ch:List Addr}{h h':Heap}(x:xN P w H h)(hn:∀b∈ch,H b=none)(k:∀b o,b ∉ ch->h.get? b=some o->h'.get? b=some o):xN P w H h':=λb u e=>by
 have nit:∀c v,H c=some v->c ∉ ch:=λc v e z=>by rw[hn c z]at e; cases e
 refine(x b u e).jH (λc v hc q=>k c v ?_ q) (λ_ q=>q) λ_ _ q=>q
 rcases hc with z|z
 ·rw[z]; exact nit b u e
 ·exact nit c _ z
theorem Inv.but{ch:List Addr}{h':Heap}{tk:Nat}(I:Inv X z6 σ H s)(hf:∀b∈ch,tS X z6 H b)(k:∀b o,b ∉ ch->s.heap.get? b=some o->h'.get? b=some o):Inv X z6 σ H { s with heap:=h',toks:=tk }:=
 I.J7 (s':={ s with heap:=h',toks:=tk }) rfl (GJ k) (DN I.za (λb hb=>(hf b hb).1) k) I.bare λb hb=>⟨(hf b hb).2.2.2.1,(hf b hb).2.1,(hf b hb).2.2.2.2.1,(hf b hb).2.2.2.2.2⟩
theorem Inv.Va{ch:List Addr}{h':Heap}{tk:Nat}{T:Addr}{o:HO}(I:Inv X z6 σ H s)(hf:∀b∈ch,tS X z6 H b)(k:∀b o,b ∉ ch->s.heap.get? b=some o->h'.get? b=some o)(hT:s.heap.get? T=none)(hn:H T=none)
  (new:yl X.prog X.w (zX H T o) h' T o):Inv X z6 σ (zX H T o) { s with heap:=h',toks:=tk }:=
 I.J7 (s':={ s with heap:=h',toks:=tk }) rfl (nC (GJ k) hT hn) (DO (DN I.za (λb hb=>(hf b hb).1) k) hn new) I.bare λb hb=>⟨(hf b hb).2.2.2.1,(hf b hb).2.1,(hf b hb).2.2.2.2.1,(hf b hb).2.2.2.2.2⟩
end
def JS(K:W.Frag)(t1 t2:Bool)(a b:Addr):It:=
  ⟨λi H=>∃xs ys x y,vm K t1 H a xs/\vm K t2 H b ys/\xs[i]?=some x/\ys[i]?=some y,
   λi H v H'=>∃p,H p=none/\v=.ref p/\∀xs ys,vm K t1 H a xs->vm K t2 H b ys->∃x y,xs[i]?=some x/\ys[i]?=some y/\H'=zX H p (.tup [x,y]),
   λi H=>∃xs ys,vm K t1 H a xs/\vm K t2 H b ys/\(xs.length<=i\/ys.length<=i)⟩
theorem mE{P:Program}{w:World}{K:W.Frag}{elts:List Expr}{kk:Nat}{pos:Pos}(t1 t2:Bool)(a b z TI TO i1 i2:Addr)(D:ZipApart z TI TO i1 i2 a b) :
  tT P w K (.Tuple elts kk pos) (JS K t1 t2 a b) [z,TI,TO,i1,i2] z (λi h=>IsZip h z TI TO .none/\IsPair h TI (.ref i1) (.ref i2)/\(∃u v,IsPair h TO u v)/\jX t1 h i1 a i/\jX t2 h i2 b i) where
 mem:=by simp
 obj:=λi h st c hc=>by
  obtain⟨s1,s2,⟨u,v,s3⟩,⟨o4,s4,_,d4⟩,⟨o5,s5,_,d5⟩⟩:=st;simp only[yT,wR,or_false]at hc;rcases hc with rfl|rfl|rfl|rfl|rfl
  ·exact⟨_,s1,λv q=>nomatch q⟩
  ·exact⟨_,s2,λv q=>nomatch q⟩
  ·exact⟨_,s3,λv q=>nomatch q⟩
  ·exact⟨_,s4,λv q=>by rw[d4]at q; cases q⟩
  ·exact⟨_,s5,λv q=>by rw[d5]at q; cases q⟩
 keep:=λi h h' st k=>by
  obtain⟨s1,s2,⟨u,v,s3⟩,s4,s5⟩:=st;exact⟨k z (by simp) _ s1,k TI (by simp) _ s2,⟨u,v,k TO (by simp) _ s3⟩,s4.at λo e=>k i1 (by simp) o e,s5.at λo e=>k i2 (by simp) o e⟩
 item:=by
  intro X hP hw hK hc i z6 s σ H E I hf st hg;subst hP hw hK;obtain⟨s1,s2,⟨u,v,s3⟩,s4,s5⟩:=st;obtain⟨xs,ys,x,y,hx,hy,ex,ey⟩:=hg;obtain⟨us,ru,pu⟩:=I.ZP hx;obtain⟨ws,rw',pw⟩:=I.ZP hy;obtain⟨xu,hxu,rxu⟩:=ru.get ex;obtain⟨yw,hyw,ryw⟩:=rw'.get ey;have k1:i<us.toArray.size:=by rw[yk]; exact(xE.mp hxu).1
  have k2:i<ws.toArray.size:=by rw[yk]; exact(xE.mp hyw).1
  have e1:us.toArray.getD i .none=xu:=by
   have:=xE.mp hxu;obtain⟨l,e⟩:=this;simp[Array.getD,l,e]
  have e2:ws.toArray.getD i .none=yw:=by
   have:=xE.mp hyw;obtain⟨l,e⟩:=this;simp[Array.getD,l,e]
  have hT:s.TypeIs (.ref z) "zip" := ⟨_,s1,rfl⟩;have q4:i1<s.heap.objs.size:=by obtain⟨o,e,_⟩:=s4; exact Heap.lt_size e
  have q5:i2<s.heap.objs.size:=by obtain⟨o,e,_⟩:=s5; exact Heap.lt_size e
  unfold pyNext
  refine zC (Q_ (pJ (name:=Str.ofString "__next__") hT Qk (tL Qk hT F.entry_zip_next
   (oj D (Q9 D.l1i1 us.toArray) (Q9 D.l2i2 ws.toArray) s1 s2 s3 ⟨s4,pu⟩ ⟨s5,pw⟩ k1 k2 q4 q5 pu.lt pw.lt λh' a1 a2 a3 a4 a5 a6=>zO ?_) (F.args_zip_next_1 _))))
  rw[e1,e2]at a2 a5;refine⟨_,rfl,wpAny_letOwnedTupleGo_zip (s:={ s with heap:=h' }) a1 λh'' b1 sb=>?_⟩
  have hTs:s.heap.get? s.heap.objs.size=none:=by
   cases q:s.heap.get? s.heap.objs.size with
   |none=>rfl
   |some o=>exact absurd (Heap.lt_size q) (wJ _)
  have hTf:H s.heap.objs.size=none:=I.za.fresh (zr _);have hTz:s.heap.objs.size≠z:=uJ (Heap.lt_size s1);have tup:h''.get? s.heap.objs.size=some { cls:=.type "tuple",data:=.seq #[xu,yw] }:=sb.extBut _ _ hTz a5
  have kk:∀c o,c ∉ [z,TI,TO,i1,i2]->s.heap.get? c=some o->h''.get? c=some o:=λc o hc e=>by
   simp only[yT,wR,or_false,ZG]at hc;exact sb.extBut _ _ hc.1 (a6 c o hc.1 hc.2.2.1 hc.2.2.2.1 hc.2.2.2.2 e)
  have new:yl X.prog X.w (zX H s.heap.objs.size (.tup [x,y])) h'' s.heap.objs.size (.tup [x,y]):=⟨(by show 2<=sizeLine; decide),[xu,yw],.cons rxu (.cons ryw .nil),⟨_,tup,rfl,_,rfl⟩⟩;refine⟨.ref s.heap.objs.size,zX H s.heap.objs.size (.tup [x,y]),I.Va (tk:=s.toks) hf kk hTs hTf new,rfl,⟨s.heap.objs.size,hTf,rfl,λxs' ys' hx' hy'=>?_⟩,⟨b1,?_,⟨_,_,sb.extBut _ _ D.TOz a2⟩,a3.1.at λo e=>sb.extBut _ _ D.i1z e,a4.1.at λo e=>sb.extBut _ _ D.i2z e⟩,λc hc=>?_⟩
  ·rw[I.Mr hx' hx,I.Mr hy' hy];exact⟨x,y,ex,ey,rfl⟩
  ·exact sb.extBut _ _ D.TIz (a6 _ _ D.TIz D.TITO D.TIi1 D.TIi2 s2)
  ·rw[zm]
   ·exact(hf c hc).1
   ·intro q
    have hlt:c<s.heap.objs.size:=by
     simp only[yT,wR,or_false]at hc;rcases hc with rfl|rfl|rfl|rfl|rfl
     ·exact Heap.lt_size s1
     ·exact Heap.lt_size s2
     ·exact Heap.lt_size s3
     ·exact q4
     ·exact q5
    rw[q]at hlt;exact absurd hlt (wJ _)
 done:=by
  intro X hP hw hK hc i z6 s σ H E I hf st hg;subst hP hw hK;obtain⟨s1,s2,⟨u,v,s3⟩,s4,s5⟩:=st;obtain⟨xs,ys,hx,hy,hend⟩:=hg;obtain⟨us,ru,pu⟩:=I.ZP hx;obtain⟨ws,rw',pw⟩:=I.ZP hy
  have hend':us.toArray.size<=i\/ws.toArray.size<=i:=by
   have l1:=ru.length;have l2:=rw'.length;rw[yk,yk];omega
  have hT:s.TypeIs (.ref z) "zip" := ⟨_,s1,rfl⟩;unfold pyNext
  refine zC (Q_ (pJ (name:=Str.ofString "__next__") hT Qk (tL Qk hT F.entry_zip_next
   (oi (by exact I.ok.hd hc) D (Q9 D.l1i1 us.toArray) (Q9 D.l2i2 ws.toArray) s1 s2 s3 ⟨s4,pu⟩ ⟨s5,pw⟩ hend' λh' e kk he=>?_) (F.args_zip_next_1 _))))
  obtain⟨o,ho,hcl⟩:=he;refine zC (J2 (T := "StopIteration") (b:=true) ⟨o,ho,hcl⟩ Md ?_);refine zO ⟨rfl,I.but (tk:=s.toks) hf λc ob hcc eb=>?_⟩;simp only[yT,wR,or_false,ZG]at hcc;exact kk c ob hcc.1 hcc.2.2.1 hcc.2.2.2.1 hcc.2.2.2.2 eb
 self:=λ_ _ _ _ _ st h=>wpAny_pyIter_zip st.1 h
theorem xF{a b:Nat}(h:a≠b):@Ne Addr a b:=h
theorem om{n l1 l2:Nat}(h1:l1<n)(h2:l2<n):ZipApart (n+4) (n+2) (n+3) n (n+1) l1 l2:=
 ⟨xF (by omega),xF (by omega),xF (by omega),xF (by omega),xF (by omega),xF (by omega),xF (by omega),xF (by omega),xF (by omega),xF (by omega),xF (by omega),xF (by omega),xF (by omega),xF (by omega),xF (by omega),xF (by omega),xF (by omega),xF (by omega)⟩
theorem K5:bootBuiltins "zip" = some (.type "zip"):=by decide +kernel
section
variable{X:Cx}
def DP(K:W.Frag)(ta:TA):TI:=λσ H R=>ta σ H λvs H1=>∃a b xs ys t1 t2,vs=[.ref a,.ref b]/\vm K t1 H1 a xs/\vm K t2 H1 b ys/\R (JS K t1 t2 a b) H1
theorem aJ{a b:Expr}{ta:TA}{p pos:Pos}{elts:List Expr}{kk:Nat}{tp:Pos}(hg:Gl X "zip")(hm:X.mg "zip" = none)(ha:PA X [a,b] ta)(hs:starEach [a,b] X.env=[(false,eval a X.env),(false,eval b X.env)]:=by rfl)
  (hs2:starEach [b] X.env=[(false,eval b X.env)]:=by rfl):PI X (.Tuple elts kk tp) (.Call (.Name "zip" p) [a,b] [] pos) (DP X.K ta):=by
 intro z6 s σ H R I h;refine Call_ (jo I hg hm K5 (VQ (zi (ha pos z6 s σ H _ I h) λus s1 ⟨vs,H1,I1,r1,q1⟩=>?_) (by rw[hs,hs2]) (by rw[hs2]; rfl)));obtain⟨l1,l2,xs,ys,t1,t2,rfl,hx,hy,q⟩:=q1;obtain⟨u,v,rfl,ru,rv⟩:=V7 r1;cases(show u=Value.ref l1 from ru);cases(show v=Value.ref l2 from rv);obtain⟨us,_,pu⟩:=I1.ZP hx;obtain⟨ws,_,pw⟩:=I1.ZP hy;have w1:=pu.lt;have w2:=pw.lt;refine KW pu pw λh' a1 a2 a3 a4 a5 kp=>?_
 have I2:Inv X z6 σ H1 { s1 with heap:=h' }:=I1.kept (t':=s1.toks) kp;refine wpAny_pyIter_zip (s:={ s1 with heap:=h' }) a1 ?_;generalize hn:s1.heap.objs.size=n at a1 a2 a3 a4 a5 w1 w2
 have D:ZipApart (n+4) (n+2) (n+3) n (n+1) l1 l2:=by
  exact om w1 w2
 refine⟨n+4,[n+4,n+2,n+3,n,n+1],_,_,H1,rfl,I2,mE t1 t2 l1 l2 (n+4) (n+2) (n+3) n (n+1) D,⟨a1,a2,⟨_,_,a3⟩,a4,a5⟩,λc hc=>?_,q⟩
 have hle:s1.heap.objs.size<=c:=by
  rw[hn];simp only[yT,wR,or_false]at hc;rcases hc with rfl|rfl|rfl|rfl|rfl
  ·exact gR _ _
  ·exact gR _ _
  ·exact gR _ _
  ·exact zr _
  ·exact gR _ _
 exact I1.qe hle (I1.za.fresh hle)
theorem bH{a b:Expr}{ta:TA}{p pos:Pos}{elts:List Expr}{kk:Nat}{tp:Pos}(hg:Gl X "zip")(hm:X.mg "zip" = none)(ha:QA X [a,b] ta)(hs:xS a=true:=by rfl)(hs2:xS b=true:=by rfl) :
  QI X (.Tuple elts kk tp) (.Call (.Name "zip" p) [a,b] [] pos) (DP X.K ta):=⟨aJ hg hm ha.h (by rw[t9 hs,t9 hs2]; rfl) (t9 hs2)⟩
end
def BM(scope:Scope)(env:Env)(cl:List (Str×Addr))(own:List Str):Bool:=
 scope.kind == .function&&scope.names.all (λy=>y.2 != .cell)&&Zn scope env cl own&&scope.names.all (λy=>y.2 != .local||scope.names.lookup y.1==some .local)
theorem wc{X:Cx}{scope:Scope}{cl:List (Str×Addr)}{own:List Str}(Vc:closureFor scope X.env=pure cl)(Vb:jL X.env cl:=by first|exact True.intro|exact⟨rfl,True.intro⟩|exact⟨rfl,rfl,True.intro⟩|exact⟨rfl,rfl,rfl,True.intro⟩|exact⟨rfl,rfl,rfl,rfl,True.intro⟩)
  (ok:BM scope X.env cl own=true:=by rfl):pM X scope cl own:=by
 unfold BM at ok;simp only[xP]at ok;obtain⟨⟨⟨h1,h2⟩,h3⟩,h4⟩:=ok;refine⟨ZF.mp h1,λy hy e=>?_,Vb,h3,Vc,λy hy e=>?_⟩
 ·have:=wm.mp h2 y hy;rw[e]at this;cases this
 ·have:=wm.mp h4 y hy;rw[e]at this;simpa using this
section
variable{X:Cx}(K:W.Frag)(hK:X.K=K)
include hK
end
def HR(K:W.Frag)(a:Addr)(xs:List V):Prop:=∀H,yu K H a xs
theorem xl{K:W.Frag}{a:Addr}{xs:List V}{d:Option Addr}{its:Array Value}{n:Nat}{sl:Array (Option Value)}(h:K.lookup a=some ⟨.type "tuple",d,.seq its n,sl⟩)(hz:its.size<=sizeLine)(r:zy xs its.toList):HR K a xs:=
 λ_=>.inr ⟨_,its,n,h,rfl,rfl,hz,r⟩
open Builtin Builtin.Str
section
variable{X:Cx}
theorem GS:∀{ts:List Str}{its:List Value},zy (ts.map V.str) its->∃l:List (Str×Tok),its=strValues l/\l.map (·.1)=ts
 | [],_,.nil=>⟨[],rfl,rfl⟩
 |t::ts,_,.cons r rr=>by
  obtain⟨k,e⟩:=(show ∃k,_=Value.str t k from r);obtain⟨l,e1,e2⟩:=GS rr;subst e e1;exact⟨(t,k)::l,rfl,by rw[wD,e2]⟩
def bN(K:W.Frag):V->List V->Hp->VK->Prop:=λx vs H Q=>∃(sep:Str) (p:Addr) (ts:List Str),x=.str sep/\vs=[.ref p]/\yL K H p (ts.map V.str)/\(ts.map (·.length)).sum+ts.length*sep.length<=sizeLine/\Q (.str (glued sep ts)) H
theorem glued_len(sep:Str):∀ts:List Str,(glued sep ts).length<=(ts.map (·.length)).sum+ts.length*sep.length
 | []=>by show(Str.length _)<=_; simp[glued,Str.length,Str.empty]
 |t::ts=>by
  have h:∀(us:List Str)(a:Array Nat),(us.foldl (λacc p=>acc++sep.cps++p.cps) a).size=a.size+(us.map (·.length)).sum+us.length*sep.length:=λus=>by
   induction us with
   |nil=>intro a; simp
   |cons u us ih=>
    intro a;rw[Z8,ih];simp only[Array.size_append,wD,MP,xc,Nat.succ_mul,Str.length];omega
  show(ts.foldl (λacc p=>acc++sep.cps++p.cps) t.cps).size<=_;rw[h];simp only[wD,MP,xc,Nat.succ_mul,Str.length];omega
theorem RV:X4 X "str.join" (bN X.K):=by
 intro z6 s σ H x vs v us Q I rx rv h;obtain⟨sep,p,ts,rfl,rfl,hq,hz,q⟩:=h;obtain⟨t,rfl⟩:=(show ∃t,v=Value.str sep t from rx);obtain⟨u,rfl,ru⟩:=vg rv;cases(show u=Value.ref p from ru);obtain⟨its,r,pl,_⟩:=I.list hq;obtain⟨l,rfl,el⟩:=GS r;have hT:s.TypeIs (.ref p) "list" := pl.isList.typeIs;obtain⟨o,ho,hc,n,hd⟩:=pl.isList
 have hno:tooLong ((l.map (·.1)).toArray.foldl (·+·.length+sep.length) 0)=false:=by
  rw[el,StrLaws.joinTotal];unfold tooLong;exact ye (by omega)
 have fit:(glued sep ts).length<=sizeLine:=xv (glued_len sep ts) hz;refine J0 (Ma F.slot_str_join.plain F.entry_str_join (F.slot_str_join.check _ _ _ _ _ _ _ _ (Qy _ _ _) (F.args_str_join_2 _ _) ?_));obtain⟨other,e⟩:=join_tree sep t p;rw[e];refine zC (gU hT ?_);rw[zN (by decide)];refine zC (tM ho hd ?_);show wpAny _ _ (joinTail sep (strValues l)) _ _ _;rcases l with _|⟨a,_|⟨b,c⟩⟩
 ·subst el;exact Mc sep [] hno X.prog X.w _ (λr s'=>match r with|.ok (.ret v)=>EP X z6 σ Q v s'|.ok _=>False|.error e=>X.xe e s') s ⟨fit,.str _,H,I.tok _,⟨_,rfl⟩,q⟩
 ·subst el;exact Mc sep [a] hno X.prog X.w _ (λr s'=>match r with|.ok (.ret v)=>EP X z6 σ Q v s'|.ok _=>False|.error e=>X.xe e s') s ⟨.str _,H,I,⟨_,rfl⟩,q⟩
 ·subst el;exact Mc sep (a::b::c) hno X.prog X.w _ (λr s'=>match r with|.ok (.ret v)=>EP X z6 σ Q v s'|.ok _=>False|.error e=>X.xe e s') s ⟨fit,.str _,H,I.tok _,⟨_,rfl⟩,q⟩
end
def U8(z:Str):It:=⟨λi _=>i<z.length,λi H x H'=>H'=H/\∃c,z.cps[i]?=some c/\x=.str ⟨#[c]⟩,λi _=>z.length<=i⟩
section
variable{X:Cx}{tg:Expr}
def P8(te:TE):TI:=λσ H R=>te σ H λx H1=>∃z,x=.str z/\R (U8 z) H1
theorem mC{P:Program}{w:World}{K:W.Frag}{it:Addr}{z:Str}{t:Tok}{ty:String}(hty:ty = "str_ascii_iterator" \/ ty = "str_iterator"):tT P w K tg (U8 z) [it] it (λi h=>h.IsStrIter it ty z t i/\i<=z.length) where
 mem:=by simp
 obj:=λi h st b hb=>by
  have e:b=it:=by simpa using hb
  subst e;obtain⟨⟨o,e,c,d⟩,_⟩:=st;exact⟨o,e,λv z=>by rw[d]at z; cases z⟩
 keep:=λi h h' st k=>⟨let ⟨o,ho,r⟩:=st.1; ⟨o,k it (by simp) o ho,r⟩,st.2⟩
 item:=by
  intro X hP hw hK hc i z6 s σ H E I hf st hg;subst hP hw hK;obtain⟨f0,f1,f2,f3,f4,f5⟩:=hf it (by simp);have hg':i<z.cps.size:=hg;have hx:z.cps[i]?=some z.cps[i]:=by simp[hg']
  have go:∀h' tk (u:Value),(∃t',u=Value.str ⟨#[z.cps[i]]⟩ t')->h'.IsStrIter it ty z t (i+1)->Heap.SameBut it s.heap h'->∃v,some u=some v/\
    wpAny (model X.prog X.w) X.A (letOwnedTupleGo tg (.ref it) v) (λ_ s2=>∃x H',Inv X z6 σ H' s2/\z_ x v/\(U8 z).vC i H x H'/\(s2.heap.IsStrIter it ty z t (i+1)/\i+1<=z.length)/\∀b∈[it],H' b=none) E { s with heap:=h',toks:=tk }:=λh' tk u hu st' sb=>by
   obtain⟨t',rfl⟩:=hu;have I1:Inv X z6 σ H { s with heap:=h',toks:=tk }:=I.turned (λb o hb e=>(sb.2 b hb).trans e) f0 f1 f3 f4 f5;obtain⟨o,e,c,d⟩:=id st';exact⟨_,rfl,Zx (s:={ s with heap:=h',toks:=tk }) e c d (by rcases hty with rfl|rfl<;>decide) ⟨.str ⟨#[z.cps[i]]⟩,H,I1,⟨t',rfl⟩,⟨rfl,_,hx,rfl⟩,⟨st',hg⟩,λb hb=>(hf b hb).1⟩⟩
  rcases hty with rfl|rfl
  ·exact wpAny_pyNext_ascii_item st.1 hx λh' st' sb=>go h' _ _ ⟨_,rfl⟩ st' sb
  ·exact wpAny_pyNext_wide_item st.1 hx λh' st' sb=>go h' _ _ ⟨_,rfl⟩ st' sb
 done:=by
  intro X hP hw hK hc i z6 s σ H E I hf st hg;subst hP hw hK;obtain⟨f0,f1,f2,f3,f4,f5⟩:=hf it (by simp);have hx:z.cps[i]?=none:=VB hg;rcases hty with rfl|rfl
  ·exact wpAny_pyNext_ascii_end (I.ok.hd hc) st.1 hx λh' eb=>⟨rfl,I.turned (t':=s.toks) (λb o hb e=>eb b o hb e) f0 f1 f3 f4 f5⟩
  ·exact wpAny_pyNext_wide_end (I.ok.hd hc) st.1 hx λh' eb=>⟨rfl,I.turned (t':=s.toks) (λb o hb e=>eb b o hb e) f0 f1 f3 f4 f5⟩
 self:=λ_ _ _ _ _ st h=>by
  rcases hty with rfl|rfl
  ·exact wpAny_pyIter_striter_ascii st.1 h
  ·exact wpAny_pyIter_striter_wide st.1 h
theorem aH{e:Expr}{te:TE}(he:PE X e te):PI X tg e (P8 te):=by
 intro z6 s σ H R I h;refine zi (he z6 s σ H _ I h) λv s1 ⟨x,H1,I1,r1,q1⟩=>?_
 obtain⟨z,rfl,q⟩:=q1;obtain⟨t,rfl⟩:=(show ∃t,v=Value.str z t from r1)
 have fin:∀(ty:String),(ty = "str_ascii_iterator" \/ ty = "str_iterator")->∀o:Obj,(s1.heap.push o).IsStrIter s1.heap.objs.size ty z t 0->JU X z6 σ tg R (.ref s1.heap.objs.size) { s1 with heap:=s1.heap.push o }:=λty hty o st=>
  ⟨s1.heap.objs.size,[s1.heap.objs.size],_,_,H1,rfl,I1.kept (t':=s1.toks) λb o e=>Heap.get?_push_of_some _ e,mC hty,⟨st,uK _⟩,λb hb=>by
   have e:b=s1.heap.objs.size:=by simpa using hb
   subst e;exact I1.qe (zr _) (I1.za.fresh (zr _)),q⟩
 cases ha:z.cps.all (·<128)
 ·exact wpAny_pyIter_wide ha (fin _ (.inr rfl) _ ⟨_,Heap.get?_push_size _ rfl,rfl,rfl⟩)
 ·exact wpAny_pyIter_ascii ha (fin _ (.inl rfl) _ ⟨_,Heap.get?_push_size _ rfl,rfl,rfl⟩)
end
def cutS(z:Str)(lo hi:Option Int):Str:=⟨((z.cps.toList.drop (HT.sIx z.length 0 lo)).take (HT.sIx z.length z.length hi-HT.sIx z.length 0 lo)).toArray⟩
theorem Kc(n:Nat)(lo:Option Int):(match lo with|none=>(0:Int)|some i=>max 0 (min (if i<0 then i+(n:Int)else i) (n:Int)))=((HT.sIx n 0 lo:Nat):Int)\/∃i,lo=some i/\i<0/\(n:Int)<i+n:=by
 cases lo with
 |none=>left; rfl
 |some i=>
  left
  show max 0 (min (if i<0 then i+(n:Int)else i) (n:Int))=(((if i<0 then(i+(n:Int)).toNat else min i.toNat n):Nat):Int);by_cases h:i<0
  ·simp only[h,ul]; omega
  ·simp only[h,qF]; omega
theorem Kb(n:Nat)(hi:Option Int):(match hi with|none=>(n:Int)|some i=>max 0 (min (if i<0 then i+(n:Int)else i) (n:Int)))=((HT.sIx n n hi:Nat):Int):=by
 cases hi with
 |none=>rfl
 |some i=>
  show max 0 (min (if i<0 then i+(n:Int)else i) (n:Int))=(((if i<0 then(i+(n:Int)).toNat else min i.toNat n):Nat):Int);by_cases h:i<0
  ·simp only[h,ul]; omega
  ·simp only[h,qF]; omega
theorem Kd(n:Nat)(lo:Option Int):(match lo with|none=>(0:Int)|some i=>max 0 (min (if i<0 then i+(n:Int)else i) (n:Int)))=((HT.sIx n 0 lo:Nat):Int):=by
 rcases Kc n lo with h|⟨i,_,h1,h2⟩
 ·exact h
 ·omega
theorem Cf(z:Str)(lo hi:Option Int):(strSliceIndices lo hi 1 z.length)=(List.range (HT.sIx z.length z.length hi-HT.sIx z.length 0 lo)).map (HT.sIx z.length 0 lo+·):=by
 have h1:=Kd z.length lo;have h2:=Kb z.length hi;rw[<-sliceRange_one,<-h1,<-h2];unfold strSliceIndices;simp only[show(1:Int)>0 by decide,ul];cases lo<;>cases hi<;>rfl
theorem Kh(z:Str)(lo hi:Option Int):(⟨((strSliceIndices lo hi 1 z.length).filterMap (z.cps[·]?)).toArray⟩:Str)=cutS z lo hi:=by
 rw[Cf,pick_run];rfl
theorem sIx_le(n d:Nat)(hd:d<=n)(v:Option Int):HT.sIx n d v<=n:=by
 cases v with
 |none=>exact hd
 |some i=>
  show(if i<0 then(i+(n:Int)).toNat else min i.toNat n)<=n;by_cases h:i<0
  ·simp only[h,ul]; omega
  ·simp only[h,qF]; omega
theorem Kj(z:Str)(lo hi:Option Int)(h:(strSliceIndices lo hi 1 z.length).length=z.length):cutS z lo hi=z:=by
 rw[Cf,zx,vx]at h;have a:=sIx_le z.length 0 (uK _) lo;have b:=sIx_le z.length z.length (zr _) hi;unfold cutS;rw[h];have hz:HT.sIx z.length 0 lo=0\/z.length=0:=by omega
 have hl:z.cps.toList.length=z.length:=by simp[Str.length]
 rcases hz with q|q
 ·rw[q,List.drop_zero,<-hl,MQ]
 ·have e:z.cps.toList=[]:=List.eq_nil_of_length_eq_zero (by omega);rw[e];simp;cases z with
  |mk c=>simp[Str.length]at q; simp[q]
theorem cut_len(z:Str)(lo hi:Option Int):(cutS z lo hi).length<=z.length:=by
 show(List.toArray _).size<=z.cps.size;rw[yk,gN,ZA,wj];omega
section
variable{X:Cx}
theorem CZ{v:Value}{lo:Option Int}(h:IsPart v lo):∃l:Option (Int×Tok),v=partValue l/\l.map (·.1)=lo:=by
 cases h with
 |none=>exact⟨none,rfl,rfl⟩
 |int i t=>exact⟨some (i,t),rfl,rfl⟩
def ED:V->Option Int->Option Int->Hp->VK->Prop:=λx lo hi H Q=>∃z:Str,x=.str z/\z.length<=sizeLine/\Q (.str (cutS z lo hi)) H
theorem fB:ql X ED:=by
 intro z6 s σ H x v vl vu lo hi sl Q I rx hs pl pu h;obtain⟨z,rfl,hz,q⟩:=h;obtain⟨t,rfl⟩:=(show ∃t,v=Value.str z t from rx);obtain⟨l,rfl,rfl⟩:=CZ pl;obtain⟨u,rfl,rfl⟩:=CZ pu;refine⟨"str",_,F.slot_str_getitem.lookup,Qy _ _ _,?_⟩;refine wpAny_getItem_str_slice (l:=l) (u:=u) (st:=none) hs rfl ?_;unfold sliceMade;have hp:slicePicked z l u none=strSliceIndices (l.map (·.1)) (u.map (·.1)) 1 z.length:=rfl;rw[hp]
 split
 ·rename_i hc
  have e:(strSliceIndices (l.map (·.1)) (u.map (·.1)) 1 z.length).length=z.length:=by
   rw[xP]at hc;exact ZF.mp hc.2
  rw[Kj z _ _ e]at q;exact⟨.str z,H,I,⟨_,rfl⟩,q⟩
 ·rw[Kh];exact⟨xv (cut_len z _ _) hz,.str _,H,I.tok _,⟨_,rfl⟩,q⟩
end
section
variable{X:Cx}{e o:Expr}{te to:TE}{pos apos cpos:Pos}{name:Str}{T id:String}{rm:V->List V->Hp->VK->Prop}
end
end L2
namespace L2
open PySem PySem.Spec PyProof.Rows
section
variable{κ:Type}[DecidableEq κ]
def uh(kvs:List (κ×V))(k:κ):Option V:=(kvs.find? λkv=>decide (kv.1=k)).map (·.2)
def ve(kvs:List (κ×V))(k:κ)(v:V):List (κ×V):=
 if(kvs.any λkv=>decide (kv.1=k))=true then kvs.map (λkv=>if kv.1=k then(kv.1,v)else kv)else kvs++[(k,v)]
theorem QR{p:κ×V}{r:List (κ×V)}{k:κ}(e:p.1=k):uh (p::r) k=some p.2:=by simp[uh,Yo,e]
theorem QQ{p:κ×V}{r:List (κ×V)}{k:κ}(e:¬ p.1=k):uh (p::r) k=uh r k:=by simp[uh,Yo,e]
theorem GO(k:κ):∀kvs:List (κ×V),(kvs.any λkv=>decide (kv.1=k))=(uh kvs k).isSome
 | []=>rfl
 |p::r=>by
  rw[Yk];by_cases e:p.1=k
  ·simp only[QR e,yh e,Bool.true_or,Option.isSome_some]
  ·rw[QQ e,ye e,Bool.false_or]; exact GO k r
theorem OW(kvs:List (κ×V))(k:κ)(v:V):(ve kvs k v).length<=kvs.length+1:=by
 unfold ve
 split
 ·rw[zx]; omega
 ·rw[yj,xc,pF]; omega
theorem qN.Yy{o:Option V}{u:Option Value}(r:qN o u):o.isSome=u.isSome:=by
 cases o with
 |none=>cases u with
  |none=>rfl
  |some _=>exact(show False from r).elim
 |some _=>cases u with
  |none=>exact(show False from r).elim
  |some _=>rfl
theorem KV.val{kvs:List (κ×V)}{vs:List (κ×Value)}(r:KV kvs vs)(k:κ):qN (uh kvs k) (valueAt vs k):=by
 unfold KV at r
 induction r with
 |nil=>exact True.intro
 |@cons p q ps qs h t ih=>
  obtain⟨h1,h2⟩:=h;by_cases e:p.1=k
  ·have e':q.1=k:=h1.symm.trans e;have b:valueAt (q::qs) k=some q.2:=by simp[valueAt,Yo,e']
   rw[QR e,b]; exact h2
  ·have e':¬ q.1=k:=λz=>e (h1.trans z)
   have b:valueAt (q::qs) k=valueAt qs k:=by simp[valueAt,Yo,e']
   rw[QQ e,b]; exact ih
theorem KV.any{kvs:List (κ×V)}{vs:List (κ×Value)}(r:KV kvs vs)(k:κ):(kvs.any λkv=>decide (kv.1=k))=vs.any λkv=>decide (kv.1=k):=by
 unfold KV at r
 induction r with
 |nil=>rfl
 |cons h t ih=>rw[Yk,Yk,ih,h.1]
theorem KV.JF{kvs:List (κ×V)}{vs:List (κ×Value)}(r:KV kvs vs)(k:κ){y:V}{u:Value}(ry:z_ y u) :
  KV (kvs.map λkv=>if kv.1=k then(kv.1,y)else kv) (vs.map λkv=>if kv.1=k then(kv.1,u)else kv):=by
 unfold KV at r ⊢
 induction r with
 |nil=>exact .nil
 |@cons p q ps qs h t ih=>
  rw[wD,wD];refine .cons ?_ ih;obtain⟨h1,h2⟩:=h;by_cases e:p.1=k
  ·rw[zN e,zN (h1.symm.trans e)]; exact⟨h1,ry⟩
  ·rw[zS e,zS (λz=>e (h1.trans z))]; exact⟨h1,h2⟩
theorem KV.put{kvs:List (κ×V)}{vs:List (κ×Value)}(r:KV kvs vs)(k:κ){y:V}{u:Value}(ry:z_ y u):KV (ve kvs k y) (stored vs k u):=by
 unfold ve stored;rw[r.any k];by_cases e:(vs.any λkv=>decide (kv.1=k))=true
 ·rw[zN e,zN e]; exact r.JF k ry
 ·rw[zS e,zS e]; exact Paired.snoc r ⟨rfl,ry⟩
theorem KV.length{kvs:List (κ×V)}{vs:List (κ×Value)}(r:KV kvs vs):kvs.length=vs.length:=Paired.length r
end
theorem j2{P:Program}{w:World}{k:zJ}{u:Value}(r:z_ (kV k) u):(yd P w).is k u=true:=by
 cases k with
 |inl i=>obtain⟨t,e⟩:=(show ∃t,u=Value.int i t from r); subst e; exact RP P w i t
 |inr x=>obtain⟨t,e⟩:=(show ∃t,u=Value.str x t from r); subst e; exact OY P w x t
theorem DZ{P:Program}{w:World}:∀{ks:List zJ}{us:List Value},zy (ks.map kV) us->ItemsAre (yd P w) ks us
 | [],_,r=>by rw[Qr]at r; cases r; exact .nil
 |k::ks,_,r=>by
  rw[wD]at r;cases r with
  |cons h t=>exact .cons (j2 h) (DZ t)
abbrev KT(H:Hp):List (List zJ×V)->List (List zJ×Addr×Value)->Prop:=Paired λp q=>p.1=q.1/\H q.2.1=some (.tup (p.1.map kV))/\z_ p.2 q.2.2
theorem KT.val{H:Hp}{kvs:List (List zJ×V)}{xs:List (List zJ×Addr×Value)}(r:KT H kvs xs)(k:List zJ):qN (uh kvs k) ((atKey xs k).map (·.2)):=by
 induction r with
 |nil=>exact True.intro
 |@cons p q ps qs h t ih=>
  obtain⟨h1,_,h2⟩:=h;by_cases e:p.1=k
  ·have e':q.1=k:=h1.symm.trans e;have b:atKey (q::qs) k=some q.2:=by simp[atKey,Yo,e']
   rw[QR e,b]; exact h2
  ·have e':¬ q.1=k:=λz=>e (h1.trans z)
   have b:atKey (q::qs) k=atKey qs k:=by simp[atKey,Yo,e']
   rw[QQ e,b]; exact ih
theorem KT.JF{H:Hp}{kvs:List (List zJ×V)}{xs:List (List zJ×Addr×Value)}(r:KT H kvs xs)(k:List zJ){y:V}{u:Value}(ry:z_ y u) :
  KT H (kvs.map λkv=>if kv.1=k then(kv.1,y)else kv) (xs.map (putAt k u)):=by
 induction r with
 |nil=>exact .nil
 |@cons p q ps qs h t ih=>
  rw[wD,wD];refine .cons ?_ ih;obtain⟨h1,h2,h3⟩:=h;unfold putAt;by_cases e:p.1=k
  ·rw[zN e,zN (h1.symm.trans e)]; exact⟨h1,h2,ry⟩
  ·rw[zS e,zS (λz=>e (h1.trans z))]; exact⟨h1,h2,h3⟩
theorem KT.put{H:Hp}{kvs:List (List zJ×V)}{xs:List (List zJ×Addr×Value)}(r:KT H kvs xs)(k:List zJ){b:Addr}{y:V}{u:Value}(hb:H b=some (.tup (k.map kV)))(ry:z_ y u) :
  KT H (ve kvs k y) (storedH xs k b u):=by
 have e:(kvs.any λkv=>decide (kv.1=k))=(atKey xs k).isSome:=by
  rw[GO,(r.val k).Yy,MX]
 unfold ve storedH;rw[e];by_cases q:(atKey xs k).isSome=true
 ·rw[zN q,zN q]; exact r.JF k ry
 ·rw[zS q,zS q]; exact Paired.snoc r ⟨rfl,hb,ry⟩
theorem KT.keeps{H H':Hp}{kvs:List (List zJ×V)}{xs:List (List zJ×Addr×Value)}(r:KT H kvs xs)(ht:∀b ys,H b=some (.tup ys)->H' b=some (.tup ys)):KT H' kvs xs:=
 Paired.JC r λ_ _ z=>⟨z.1,ht _ _ z.2.1,z.2.2⟩
section
variable{P:Program}{w:World}{H:Hp}{h:Heap}{a:Addr}
theorem EN{u:HO}(ok:xN P w H h)(e:Rd H a u):yl P w H h a u:=e.ok ok
theorem Zq{kvs:List (zJ×V)}(ok:xN P w H h)(e:Rd H a (.dK kvs)):kvs.length<=sizeLine/\(a==sysModules)=false/\∃vs,KV kvs vs/\h.DictOf (yd P w) a vs:=
 show yl P w H h a (.dK kvs)from EN ok e
theorem Bi{kvs:List (zJ×V)}(ok:xN P w H h)(e:H a=some (.dK kvs)):kvs.length<=sizeLine/\(a==sysModules)=false/\∃vs,KV kvs vs/\h.DictOf (yd P w) a vs:=Zq ok (.inl e)
theorem TZ{ks:List zJ}(ok:xN P w H h)(e:H a=some (.tup (ks.map kV))):(tupleKind (yd P w)).is h ks a:=by
 obtain⟨_,its,r,o,h1,h2,n,h3⟩:=(show yl P w H h a (.tup (ks.map kV))from ok a _ e);exact⟨o,its.toArray,n,h1,h2,h3,by simpa using DZ r⟩
theorem Ux{kvs:List (List zJ×V)}(ok:xN P w H h)(e:Rd H a (.dT kvs)):kvs.length<=sizeLine/\(a==sysModules)=false/\
  ∃xs,KT H kvs xs/\h.DictOfH (tupleKind (yd P w)) a xs:=by
 obtain⟨z,y,xs,r,o,es,ep,h1,h2,h3,h4,h5⟩:=(show yl P w H h a (.dT kvs)from EN ok e);refine⟨z,y,xs,r,o,es,ep,h1,h2,h3,h4,λx hx=>?_,h5⟩
 have all:∀{l:List (List zJ×V)} {m:List (List zJ×Addr×Value)},KT H l m->∀x∈m,(tupleKind (yd P w)).is h x.1 x.2.1:=by
  intro l m q
  induction q with
  |nil=>intro x hx; exact nomatch hx
  |@cons p q ps qs hq t ih=>
   intro x hx;rcases yT.mp hx with e|hx
   ·subst e;exact TZ ok (by rw[<-hq.1]; exact hq.2.1)
   ·exact ih x hx
 exact all r x hx
theorem Kw{kvs:List (List zJ×V)}(ok:xN P w H h)(e:H a=some (.dT kvs)):kvs.length<=sizeLine/\(a==sysModules)=false/\
  ∃xs,KT H kvs xs/\h.DictOfH (tupleKind (yd P w)) a xs:=Ux ok (.inl e)
end
def JK(H:Hp)(a:Addr)(y:V)(r:Option V):Prop:=
 (∃kvs k,Rd H a (.dK kvs)/\y=kV k/\r=uh kvs k)\/∃kvs k b,Rd H a (.dT kvs)/\y=.ref b/\H b=some (.tup (k.map kV))/\r=uh kvs k
def Mv(H:Hp)(a:Addr)(y v:V)(H':Hp):Prop:=
 (∃kvs k,H a=some (.dK kvs)/\y=kV k/\kvs.length<sizeLine/\H'=zX H a (.dK (ve kvs k v))) \/
 ∃kvs k b,H a=some (.dT kvs)/\y=.ref b/\H b=some (.tup (k.map kV))/\kvs.length<sizeLine/\H'=zX H a (.dT (ve kvs k v))
section
variable{X:Cx}{z6:List (Addr×Obj)}{σ:St}{H:Hp}{s:Shared}{a:Addr}{y v:V}{u r:Value}{o:Option V}{A:Around}{E:Value->Shared->Prop}
theorem Inv.big(I:Inv X z6 σ H s):sysModules<s.heap.objs.size:=by
 have h:mainGlobals<s.heap.objs.size:=(I.mod.glob.keeps I.bk).lt;exact Qu (by decide) h
theorem Kk{Q:Value->Shared->Prop}(hu:A.units+1<cLine)(I:Inv X z6 σ H s)(g:JK H a y o)(ry:z_ y u)(h:∀s',Inv X z6 σ H s'->Q (.bool o.isSome) s') :
  wpAny (model X.prog X.w) A (compareOp .In u (.ref a)) Q E s:=by
 rcases g with⟨kvs,k,e,ey,l⟩|⟨kvs,k,b,e,ey,eb,l⟩
 ·subst ey;obtain⟨z,hd,vs,rel,dd⟩:=Zq I.za e;refine wpAny_in_of (j2 ry) hd dd.mapOf ?_;rw[<-(rel.val k).Yy,<-l];exact h _ (I.tok _)
 ·subst ey;cases(show u=Value.ref b from ry);obtain⟨z,hd,xs,rel,dd⟩:=Ux I.za e;refine wpAny_in_heap (Mf hu) (TZ I.za eb) hd dd ?_;have q:=(rel.val k).Yy;rw[MX]at q;rw[<-q,<-l];exact h _ (I.tok _)
theorem Km{Q:Value->Shared->Prop}(hu:A.units+1<cLine)(I:Inv X z6 σ H s)(g:JK H a y o)(ry:z_ y u)(h:∀s',Inv X z6 σ H s'->Q (.bool (!o.isSome)) s') :
  wpAny (model X.prog X.w) A (compareOp .NotIn u (.ref a)) Q E s:=by
 rcases g with⟨kvs,k,e,ey,l⟩|⟨kvs,k,b,e,ey,eb,l⟩
 ·subst ey;obtain⟨z,hd,vs,rel,dd⟩:=Zq I.za e;refine wpAny_notIn_of (j2 ry) hd dd.mapOf ?_;rw[<-(rel.val k).Yy,<-l];exact h _ (I.tok _)
 ·subst ey;cases(show u=Value.ref b from ry);obtain⟨z,hd,xs,rel,dd⟩:=Ux I.za e;refine wpAny_notIn_heap (Mf hu) (TZ I.za eb) hd dd ?_;have q:=(rel.val k).Yy;rw[MX]at q;rw[<-q,<-l];exact h _ (I.tok _)
theorem Jl{h':Heap}{t':Nat}{ob:HO}(I:Inv X z6 σ H s)(mu:X5 (H a))(hs:Heap.SameBut a s.heap h')(he:∃q,h'.get? a=some q)(new:yl X.prog X.w (zX H a ob) h' a ob) :
  Inv X z6 σ (zX H a ob) { s with heap:=h',toks:=t' }:=
 I.write (x:=a) (e:=a) mu (.inl rfl) (λb q hb z=>(hs.2 b hb).trans z) he new
theorem Jr{P:Program}{w:World}{H':Hp}{h':Heap}{kvs:List (zJ×V)}{vs:List (zJ×Value)}(z:kvs.length<=sizeLine)(hd:(a==sysModules)=false)(rel:KV kvs vs)(dd:h'.DictOf (yd P w) a vs) :
  yl P w H' h' a (.dK kvs):=⟨z,hd,vs,rel,dd⟩
theorem Ko{H':Hp}{Q:Unit->Shared->Prop}(hu:A.units+1<cLine)(I:Inv X z6 σ H s)(g:Mv H a y v H')(ry:z_ y u)(rv:z_ v r)(h:∀s',Inv X z6 σ H' s'->Q () s') :
  wpAny (model X.prog X.w) A (setItem (.ref a) u r) Q E s:=by
 rcases g with⟨kvs,k,e,ey,l,eH⟩|⟨kvs,k,b,e,ey,eb,l,eH⟩
 ·subst ey eH;obtain⟨z,hd,vs,rel,dd⟩:=Bi I.za e;have hz:vs.length<=sizeLine:=by rw[<-rel.length]; exact z
  have hl:(ve kvs k v).length<=sizeLine:=by have:=OW kvs k v; omega
  refine wpAny_setItem_pairs (hsz:=hz) (j2 ry) dd λh' dd' hs=>h _ ?_
  have he:∃q,h'.get? a=some q:=let ⟨q,_,_,hq,_⟩:=dd'; ⟨q,hq⟩;exact Jl I (by rw[e]; exact True.intro) hs he (Jr hl hd (rel.put k rv) dd')
 ·subst ey eH;cases(show u=Value.ref b from ry);obtain⟨z,hd,xs,rel,dd⟩:=Kw I.za e;have hz:xs.length<=sizeLine:=by rw[<-Paired.length rel]; exact z
  have hl:(ve kvs k v).length<=sizeLine:=by have:=OW kvs k v; omega
  refine wpAny_setItem_heap (hsz:=hz) (Mf hu) (TZ I.za eb) dd λh' dd' hs=>h _ ?_
  obtain⟨q,es,ep,hq,h2,h3,h4,_,h5⟩:=dd';refine Jl I (by rw[e]; exact True.intro) hs ⟨q,hq⟩ ⟨hl,hd,_,(rel.put k eb rv).keeps λc ys ec=>?_,q,es,ep,hq,h2,h3,h4,h5⟩;rw[zm (Rk ec e (λz=>nomatch z))];exact ec
end
section
variable{X:Cx}{z6:List (Addr×Obj)}{σ:St}{H:Hp}{s:Shared}{a:Addr}{kvs:List (zJ×V)}{k:zJ}{u:Value}{A:Around}{E:Value->Shared->Prop}
theorem Kl{Q:Value->Shared->Prop}(I:Inv X z6 σ H s)(e:Rd H a (.dK kvs))(h:∀t s',Inv X z6 σ H s'->Q (.int kvs.length t) s'):wpAny (model X.prog X.w) A (call (.builtin "len") [.ref a]) Q E s:=by
 obtain⟨z,hd,vs,rel,dd⟩:=Zq I.za e;refine call_len_dict hd dd (by rw[<-rel.length]; rw[wn]at z; omega) ?_;rw[<-rel.length];exact h _ _ (I.tok _)
end
theorem Kt{X:Cx}{z6:List (Addr×Obj)}{σ:St}{H:Hp}{s:Shared}{a:Addr}{y:V}{o:Option V}(I:Inv X z6 σ H s)(g:JK H a y o):s.TypeIs (.ref a) "dict" := by
 rcases g with⟨kvs,k,e,_,_⟩|⟨kvs,k,b,e,_,_,_⟩
 ·obtain⟨_,_,vs,_,dd⟩:=Zq I.za e;exact dd.typeIs
 ·obtain⟨_,_,xs,_,dd⟩:=Ux I.za e;exact dd.typeIs
def cr(td ty tv:TE):TS:=λD σ H=>tv σ H λv H1=>td σ H1 λx H2=>ty σ H2 λy H3=>∃a H4,x=.ref a/\Mv H3 a y v H4/\D.nx σ H4
section
variable{X:Cx}{o i e value:Expr}{pos pos' tpos:Pos}{td ty tv:TE}
theorem ag(hu:X.A.units+1<cLine)(ho:PE X o td)(hi:PE X i ty)(hv:PE X value tv)(hs:swapsWith value (some (.Subscript o i pos')) pos.line X.env=pure false) :
  PS X (.Assign [.Subscript o i pos'] value pos) (cr td ty tv):=by
 intro z6 s σ H D I h;refine wpAny_Assign_Subscript (zi (hv z6 s σ H _ I h) λr s1 ⟨v,H1,I1,rv,q1⟩=>zi (ho z6 s1 σ H1 _ I1 q1) λu s2 ⟨x,H2,I2,rx,q2⟩=>zi (hi z6 s2 σ H2 _ I2 q2) λiv s3 ⟨y,H3,I3,ry,a,H4,ex,g,q3⟩=>?_) hs;subst ex;obtain rfl:u=Value.ref a:=rx;exact Ko hu I3 g ry rv λs4 I4=>⟨σ,H4,I4,q3⟩
end
theorem Bh{P:Program}{w:World}{H:Hp}(h:Heap)(hb:sysModules<h.objs.size):yl P w H (h.push { cls:=.type "dict",data:=.dict #[] }) h.objs.size (.dK []):=
 ⟨uK _,gS.mpr (qE (w6 hb)),[],.nil,Heap.DictOf.new h⟩
def fX:TE:=λ_ H Q=>∀p,H p=none->Q (.ref p) (zX H p (.dK []))
section
variable{X:Cx}{pos:Pos}
theorem Ai:PE X (.Dict [] [] pos) fX:=λz6 s σ H Q I h=>
 wpAny_Dict_empty ⟨.ref s.heap.objs.size,_,I.laid (a:=s.heap.objs.size) (o:=.dK []) (t':=s.toks) (λ_ _ q=>Heap.get?_push_of_some _ q) (zr _) (Bh s.heap I.big),rfl,h _ (I.za.fresh (zr _))⟩
end
def Lb:List (TE×TE)->St->Hp->(List (V×V)->Hp->Prop)->Prop
 | [],_,H,Q=>Q [] H
 |(tk,tv)::r,σ,H,Q=>tk σ H λx H1=>tv σ H1 λy H2=>Lb r σ H2 λps H3=>Q ((x,y)::ps) H3
abbrev VV:List (V×V)->List (Value×Value)->Prop:=Paired λp q=>z_ p.1 q.1/\z_ p.2 q.2
def UA(X:Cx)(pos:Pos)(keys:List (Option Expr))(values:List Expr)(trs:List (TE×TE)):Prop:=
 ∀(z6:List (Addr×Obj)) (s:Shared) (σ:St) (H:Hp) (Q:List (V×V)->Hp->Prop),Inv X z6 σ H s->Lb trs σ H Q->
  wpAny (model X.prog X.w) X.A (evalPairs (pairTrees keys values X.env pos)) (λvs s'=>∃ps H',Inv X z6 σ H' s'/\VV ps vs/\Q ps H') X.xe s
theorem ab{X:Cx}{pos:Pos}:UA X pos [] [] []:=λz6 s σ H Q I h=>pairTrees_nil_walk ⟨[],H,I,.nil,h⟩
theorem aZ{X:Cx}{pos:Pos}{k v:Expr}{ks:List (Option Expr)}{vs:List Expr}{tk tv:TE}{trs:List (TE×TE)}(hk:PE X k tk)(hv:PE X v tv)(hr:UA X pos ks vs trs) :
  UA X pos (some k::ks) (v::vs) ((tk,tv)::trs):=λz6 s σ H Q I h=>
 pairTrees_cons_walk (zi (hk z6 s σ H _ I h) λu s1 ⟨x,H1,I1,rx,q1⟩=>zi (hv z6 s1 σ H1 _ I1 q1) λw2 s2 ⟨y,H2,I2,ry,q2⟩=>
  zi (hr z6 s2 σ H2 _ I2 q2) λws s3 ⟨ps,H3,I3,rel,q3⟩=>⟨(x,y)::ps,H3,I3,.cons ⟨rx,ry⟩ rel,q3⟩)
def qV(kvs more:List (zJ×V)):List (zJ×V):=more.foldl (λacc kv=>ve acc kv.1 kv.2) kvs
theorem KV.merge:∀{more:List (zJ×V)} {rs:List (zJ×Value)} {kvs:List (zJ×V)} {vs:List (zJ×Value)},KV more rs->KV kvs vs->KV (qV kvs more) (merged vs rs):=by
 intro more rs kvs vs r;unfold KV at r
 induction r generalizing kvs vs with
 |nil=>intro q; exact q
 |@cons p q ps qs h t ih=>
  intro r0
  have e:KV (ve kvs p.1 p.2) (stored vs q.1 q.2):=by
   have:=r0.put p.1 h.2;rw[<-h.1]; exact this
  exact ih e
theorem OV:∀(more kvs:List (zJ×V)),(qV kvs more).length<=kvs.length+more.length
 | [],kvs=>by show kvs.length<=kvs.length+0; omega
 |p::r,kvs=>by
  have h1:=OV r (ve kvs p.1 p.2);have h2:=OW kvs p.1 p.2;show(qV (ve kvs p.1 p.2) r).length<=_;rw[xc]; omega
theorem BV{P:Program}{w:World}:∀{kvs:List (zJ×V)} {ws:List (Value×Value)},VV (kvs.map λkv=>(kV kv.1,kv.2)) ws->∃rs,Carries (yd P w) ws rs/\KV kvs rs
 | [],_,r=>by rw[Qr]at r; cases r; exact⟨[],True.intro,.nil⟩
 |p::kvs,_,r=>by
  rw[wD]at r;cases r with
  |@cons a b as bs h t=>
   obtain⟨rs,c,q⟩:=BV (P:=P) (w:=w) t;obtain⟨b1,b2⟩:=b;exact⟨(p.1,b2)::rs,⟨j2 h.1,rfl,c⟩,.cons ⟨rfl,h.2⟩ q⟩
def fY(trs:List (TE×TE)):TE:=λσ H Q=>∀p,H p=none->Lb trs σ (zX H p (.dK [])) λps H2=>H2 p=some (.dK [])/\∃kvs:List (zJ×V),ps=kvs.map (λkv=>(kV kv.1,kv.2))/\kvs.length<=15/\Q (.ref p) (zX H2 p (.dK (qV [] kvs)))
theorem Ah{X:Cx}{pos:Pos}{keys:List (Option Expr)}{values:List Expr}{trs:List (TE×TE)}(h:UA X pos keys values trs)(hall:keys.all (·.isSome)=true)(hl:keys.length=values.length)(h0:keys≠[])
  (h15:keys.length<=15):PE X (.Dict keys values pos) (fY trs):=by
 intro z6 s σ H Q I q;have hn:=I.za.fresh (zr s.heap.objs.size);have I1:=I.laid (a:=s.heap.objs.size) (o:=.dK []) (h':=s.heap.push { cls:=.type "dict",data:=.dict #[] }) (t':=s.toks) (λ_ _ q=>Heap.get?_push_of_some _ q) (zr _) (Bh s.heap I.big);refine wpAny_Dict_walk (knd:=yd X.prog X.w) hall hl h0 h15 (zi (h z6 _ σ _ _ I1 (q _ hn)) λws s2 ⟨ps,H2,I2,rel,e,kvs,ep,lk,q2⟩=>?_);subst ep;obtain⟨rs,c,rk⟩:=BV (P:=X.prog) (w:=X.w) rel;obtain⟨z,hd,vs0,r0,dd⟩:=Bi I2.za e;cases r0;refine⟨rs,c,dd,λh' dd' hs=>⟨.ref s.heap.objs.size,_,?_,rfl,q2⟩⟩
 have hz:(qV [] kvs).length<=sizeLine:=by
  have h1:=OV kvs [];rw[pF]at h1;rw[wn]; omega
 have he:∃q,h'.get? s.heap.objs.size=some q:=let ⟨q,_,_,hq,_⟩:=dd'; ⟨q,hq⟩;exact Jl I2 (by rw[e]; exact True.intro) hs he (Jr hz hd (rk.merge .nil) dd')
section
variable{X:Cx}{z6:List (Addr×Obj)}{σ:St}{H:Hp}{s:Shared}{a:Addr}{y d:V}{u r:Value}{o:Option V}{A:Around}{E:Value->Shared->Prop}
end
section
variable{X:Cx}{o e f:Expr}{apos cpos:Pos}{td ty tx:TE}
end
section
variable{X:Cx}{z6:List (Addr×Obj)}{σ:St}{H:Hp}{s:Shared}{a:Addr}{kvs:List (zJ×V)}{A:Around}{E:Value->Shared->Prop}
end
section
variable{X:Cx}{z6:List (Addr×Obj)}{σ:St}{H:Hp}{s:Shared}{a:Addr}{y:V}{u:Value}{A:Around}{E:Value->Shared->Prop}
end
end L2
namespace L3
open PySem
inductive D where
 |zE|bl (b:Bool)|int (i:Int)|str (x:Str)|tup (xs:List D)|lst (xs:List D)|dic (ks:List (Sum Int Str)) (vs:List D)|exc (x:Str)|obj (x:Str) (fs:List Str) (vs:List D)
theorem D.ind{P:D->Prop}(zE:P .zE)(bl:∀b,P (.bl b))(int:∀i,P (.int i))(str:∀x,P (.str x))(tup:∀xs,(∀d∈xs,P d)->P (.tup xs))(lst:∀xs,(∀d∈xs,P d)->P (.lst xs))
  (dic:∀ks xs,(∀d∈xs,P d)->P (.dic ks xs))(exc:∀x,P (.exc x))(obj:∀x fs xs,(∀d∈xs,P d)->P (.obj x fs xs))(d:D):P d:=
 D.rec (motive_1:=P) (motive_2:=λds=>∀d∈ds,P d) zE bl int str (λxs h=>tup xs h) (λxs h=>lst xs h) (λks xs h=>dic ks xs h) exc (λx fs xs h=>obj x fs xs h) (λ_ h=>absurd h (by simp))
  (λd ds hd hds e he=>by
   rcases yT.mp he with z|z
   ·exact z▸hd
   ·exact hds e z) d
mutual
def yM:D->D->Bool
 |.zE,.zE=>true
 |.bl a,.bl b=>a==b
 |.bl a,.int b=>(if a then 1 else 0)==b
 |.int a,.bl b=>a==(if b then 1 else 0)
 |.int a,.int b=>a==b
 |.str a,.str b=>a==b
 |.tup xs,.tup ys=>dEqs xs ys
 |.lst xs,.lst ys=>dEqs xs ys
 |_,_=>false
def dEqs:List D->List D->Bool
 | [],[]=>true
 |x::xs,y::ys=>yM x y&&dEqs xs ys
 |_,_=>false
end
abbrev Sl:=Bool×D
abbrev yB:=List (Option Sl)
abbrev FE:=yB->Option D
abbrev FT:=yB->Option Bool
abbrev FA:=yB->Option (List D)
abbrev FG:=D->yB->Option yB
inductive Fl where
 |nx (σ:yB)|rt (o:Bool) (d:D)|bk (σ:yB)|ct (σ:yB)
abbrev FS:=yB->Option Fl
abbrev yn:Nat:=16777216
def z7(i:Nat):FE:=λσ=>match σ[i]? with
 |some (some (false,d))=>some d
 |_=>none
def je(i:Nat):FE:=λσ=>match σ[i]? with
 |some (some (_,d))=>some d
 |_=>none
def eC(d:D):FE:=λ_=>some d
def e1(F:D->Option D)(a:FE):FE:=λσ=>(a σ).bind F
def e2(F:D->D->Option D)(a b:FE):FE:=λσ=>(a σ).bind λx=>(b σ).bind λy=>F x y
def eL(F:List D->Option D)(a:FA):FE:=λσ=>(a σ).bind F
def zG:FA:=λ_=>some []
def zA(a:FE)(r:FA):FA:=λσ=>(a σ).bind λx=>(r σ).bind λxs=>some (x::xs)
def gt:D->Option Bool
 |.bl b=>some b
 |_=>none
def tE(a:FE):FT:=λσ=>(a σ).bind gt
def Yc(a b:FT):FT:=λσ=>(a σ).bind λk=>match k with
 |true=>b σ
 |false=>some false
def pC(a b:FT):FT:=λσ=>(a σ).bind λk=>match k with
 |true=>some true
 |false=>b σ
def jA(a:FT):FT:=λσ=>(a σ).bind λk=>some (!k)
def Uy(a b:FE):FE:=λσ=>(a σ).bind λx=>(gt x).bind λk=>match k with
 |true=>b σ
 |false=>some (.bl false)
def Ju(a b:FE):FE:=λσ=>(a σ).bind λx=>(gt x).bind λk=>match k with
 |true=>some (.bl true)
 |false=>b σ
def Ky(a:FE):FE:=λσ=>(a σ).bind λx=>(gt x).bind λk=>some (.bl (!k))
def u9(c:FT)(a b:FE):FE:=λσ=>(c σ).bind λk=>match k with
 |true=>a σ
 |false=>b σ
def xO(a:FA):FE:=λσ=>(a σ).bind λxs=>some (.tup xs)
def wA(a:FA):FE:=λσ=>(a σ).bind λxs=>some (.lst xs)
def yo:D->D->Option D
 |.int i,.int j=>some (.int (i+j))
 |.int i,.bl b=>some (.int (i+(if b then 1 else 0)))
 |.str x,.str y=>if x.length+y.length<=yn then some (.str (x++y))else none
 |.lst x,.lst y=>if x.length+y.length<=yn then some (.lst (x++y))else none
 |.tup x,.tup y=>if x.isEmpty=false/\x.length+y.length<=yn then some (.tup (x++y))else none
 |_,_=>none
def fI(C:Int->Int->Bool)(g:Int->Int->Int):D->D->Option D
 |.int i,.int j=>match C i j with
  |true=>some (.int (g i j))
  |false=>none
 |_,_=>none
def uX:D->D->Option D
 |.int i,.int j=>some (.int (i-j))
 |_,_=>none
def jp(i:Int):Bool:=decide (-(2 ^ 64)<i)&&decide (i<2 ^ 64)
def XM:D->D->Option D:=fI (λi _=>jp i) (·*·)
def T5:D->D->Option D:=fI (λ_ j=>jp j) (·*·)
def y_:D->D->Option D:=fI (λ_ j=>decide (0<j)) (· % ·)
def wS:D->D->Option D:=fI (λ_ j=>decide (0<j)&&decide (j<2 ^ 64)) (· / ·)
def YN(i j:Int):Bool:=decide (0<=j)&&(decide (j<=1000000)&&decide (i.natAbs<2 ^ 64))
def IC:D->D->Option D:=fI YN λi j=>i ^ j.toNat
def jh:D->D->Option D:=fI YN λi j=>i*2 ^ j.toNat
def ID:D->D->Option D:=fI (λ_ j=>decide (0<=j)) λi j=>i/2 ^ j.toNat
def tY(g:Int->Int->Int):D->D->Option D
 |.int i,.int j=>some (.int (g i j))
 |_,_=>none
def va:D->Option D
 |.int i=>some (.int (-i))
 |_=>none
def Jz:D->Option D
 |.int i=>some (.int (Builtin.bitNot i))
 |_=>none
def xi(g:Int->Int->Bool):D->D->Option D
 |.int i,.int j=>some (.bl (g i j))
 |_,_=>none
def jl:D->Bool
 |.zE=>true
 |_=>false
def qr:D->D->Option D
 |x,.zE=>some (.bl (jl x))
 |_,_=>none
def kB:D->D->Option D
 |x,.zE=>some (.bl (!jl x))
 |_,_=>none
def yH:D->Bool
 |.zE=>true
 |.bl _=>true
 |.int _=>true
 |.str _=>true
 |_=>false
def uv(f:D->D->Bool):List D->List D->Bool
 |x::xs,y::ys=>f x y&&uv f xs ys
 |_,_=>true
def vE:Nat->D->D->Bool
 |0,_,_=>false
 |n+1,x,y=>match x,y with
  |.tup xs,.tup ys=>uv (vE n) xs ys
  |.lst xs,.lst ys=>uv (vE n) xs ys
  |x,y=>yH x&&yH y
def pY:D->D->Option Bool
 |.int _,.bl _=>none
 |.bl _,.int _=>none
 |x,y=>match vE 6 x y with
  |true=>some (yM x y)
  |false=>none
def yP(x y:D):Option D:=(pY x y).bind λk=>some (.bl k)
def vZ(x y:D):Option D:=(pY x y).bind λk=>some (.bl (!k))
def qT:D->Option (Sum Int Str)
 |.int i=>some (.inl i)
 |.str x=>some (.inr x)
 |_=>none
def getK{α:Type}:List (Sum Int Str)->List α->Sum Int Str->Option α
 |k'::ks,v::vs,k=>if k'=k then some v else getK ks vs k
 |_,_,_=>none
def yb(ks:List (Sum Int Str))(k:Sum Int Str):Bool:=ks.any λj=>decide (j=k)
def xr(ks:List (Sum Int Str))(k:Sum Int Str):List (Sum Int Str):=if yb ks k=true then ks else ks++[k]
def xz{α:Type}(ks:List (Sum Int Str))(vs:List α)(k:Sum Int Str)(v:α):List α:=if yb ks k=true then List.zipWith (λk' x=>if k'=k then v else x) ks vs else vs++[v]
def pZ(x:D):D->Option Bool
 |.lst ys=>match yH x&&ys.all yH with
  |true=>some (ys.any λy=>yM y x)
  |false=>none
 |.tup ys=>match yH x&&ys.all yH with
  |true=>some (ys.any λy=>yM y x)
  |false=>none
 |.str j=>match x with
  |.str i=>some (!(Builtin.Str.occurrences j i 0 j.length 1).isEmpty)
  |_=>none
 |.dic ks _=>(qT x).bind λk=>some (yb ks k)
 |_=>none
def xY(x y:D):Option D:=(pZ x y).bind λk=>some (.bl k)
def XN(x y:D):Option D:=(pZ x y).bind λk=>some (.bl (!k))
def vY{α:Type}(xs:List α)(i:Int):Option α:=if 0<=i then xs[i.toNat]? else if -(xs.length:Int)<=i then xs[(i+xs.length).toNat]? else none
def zQ:D->D->Option D
 |.lst xs,.int i=>vY xs i
 |.tup xs,.int i=>vY xs i
 |.str z,.int i=>(vY z.cps.toList i).bind λc=>some (.str ⟨#[c]⟩)
 |.dic ks vs,k=>(qT k).bind λk=>getK ks vs k
 |_,_=>none
def xo:List D->Option D
 | [.lst xs]=>some (.int xs.length)
 | [.tup xs]=>some (.int xs.length)
 | [.str z]=>some (.int z.length)
 |_=>none
def T3:List D->Option D
 | [.int i,.int j]=>some (.int (if j>i then j else i))
 |_=>none
def T4:List D->Option D
 | [.int i,.int j]=>some (.int (if j<i then j else i))
 |_=>none
def N1:List D->Option D
 | [.int i]=>some (.int i)
 | [.bl k]=>some (.int (if k then 1 else 0))
 |_=>none
inductive jb where
 |int|bool|str|list|tuple
def jb.nm:jb->String
 |.int => "int"
 |.bool => "bool"
 |.str => "str"
 |.list => "list"
 |.tuple => "tuple"
def TV:jb->D->Option Bool
 |_,.dic _ _=>none
 |_,.exc _=>none
 |_,.obj _ _ _=>none
 |.int,.int _=>some true
 |.int,.bl _=>some true
 |.int,_=>some false
 |.bool,.bl _=>some true
 |.bool,_=>some false
 |.str,.str _=>some true
 |.str,_=>some false
 |.list,.lst _=>some true
 |.list,_=>some false
 |.tuple,.tup _=>some true
 |.tuple,_=>some false
def g_(T:jb)(a:FE):FE:=λτ=>(a τ).bind λd=>(TV T d).bind λb=>some (.bl b)
def vo(a:FE):FA:=λσ=>(a σ).bind λd=>match d with
 |.lst xs=>some xs
 |.tup xs=>some xs
 |.str z=>some (z.cps.toList.map λc=>.str ⟨#[c]⟩)
 |_=>none
def qR(lo hi:FE):FA:=λσ=>(lo σ).bind λx=>(hi σ).bind λy=>match x,y with
 |.int i,.int j=>if i.natAbs<=yn/\j.natAbs<=yn/\(j-i).toNat<=yn then some ((List.range (j-i).toNat).map λk:Nat=>.int (i+k))else none
 |_,_=>none
def zo(i:Nat):FG:=λd σ=>some (σ.set i (some (false,d)))
def v8(i j:Nat):FG:=λd σ=>match d with
 |.tup [x,y]=>some ((σ.set i (some (false,x))).set j (some (false,y)))
 |_=>none
def ym:FS:=λσ=>some (.nx σ)
def zL(a b:FS):FS:=λσ=>(a σ).bind λf=>match f with
 |.nx σ'=>b σ'
 |f=>some f
def zh(i:Nat)(e:FE):FS:=λσ=>(e σ).bind λd=>some (.nx (σ.set i (some (false,d))))
def uE(i:Nat)(e:FE):FS:=λσ=>(e σ).bind λd=>some (.nx (σ.set i (some (true,d))))
def yD(e:FE):FS:=λσ=>(e σ).bind λd=>some (.rt false d)
def qC(e:FE):FS:=λσ=>(e σ).bind λd=>some (.rt true d)
def p9(i:Nat):FS:=λσ=>match σ[i]? with
 |some (some (true,d))=>some (.rt true d)
 |_=>none
def yO(c:FT)(a b:FS):FS:=λσ=>(c σ).bind λk=>match k with
 |true=>a σ
 |false=>b σ
def p6(g:FG)(b:FS):List D->yB->Option Fl
 | [],σ=>some (.nx σ)
 |d::r,σ=>(g d σ).bind λσ1=>(b σ1).bind λf=>match f with
  |.nx σ2=>p6 g b r σ2
  |.ct σ2=>p6 g b r σ2
  |.bk σ2=>some (.nx σ2)
  |.rt o d=>some (.rt o d)
def vf(it:FA)(g:FG)(b:FS):FS:=λσ=>(it σ).bind λds=>p6 g b ds σ
def vh(c:FT)(b:FS):Nat->yB->Option Fl
 |0,_=>none
 |n+1,σ=>(c σ).bind λk=>match k with
  |false=>some (.nx σ)
  |true=>(b σ).bind λf=>match f with
   |.nx σ2=>vh c b n σ2
   |.ct σ2=>vh c b n σ2
   |.bk σ2=>some (.nx σ2)
   |.rt o d=>some (.rt o d)
def U6:Nat:=100000000
def YR(c:FT)(b:FS):FS:=λσ=>vh c b U6 σ
def g9(i:Nat):FS:=λσ=>match σ[i]? with
 |some (some (_,d))=>some (.nx (σ.set i (some (false,d))))
 |_=>none
def cs(i:Nat)(F:D->Option D):FS:=λσ=>match σ[i]? with
 |some (some (true,d))=>(F d).bind λd'=>some (.nx (σ.set i (some (true,d'))))
 |_=>none
def xt(i:Nat)(F:D->D->Option D)(e:FE):FS:=λσ=>match σ[i]? with
 |some (some (true,d))=>(e σ).bind λx=>(F d x).bind λd'=>some (.nx (σ.set i (some (true,d'))))
 |_=>none
def xh:D->D->Option D
 |.lst xs,y=>if xs.length<yn then some (.lst (xs++[y]))else none
 |_,_=>none
def p8(i:Nat)(k v:FE):FS:=λσ=>(v σ).bind λy=>match σ[i]? with
 |some (some (true,.dic ks ds))=>(k σ).bind λx=>(qT x).bind λx=>if ks.length<yn then some (.nx (σ.set i (some (true,.dic (xr ks x) (xz ks ds x y)))))else none
 |_=>none
def xR(ks:List (Sum Int Str))(ds:List D)(x:D):Option D:=(qT x).bind λk=>getK ks ds k
def XL(F F':D->D->Option D)(a b c:FE):FE:=λτ=>(a τ).bind λx=>(b τ).bind λy=>(F x y).bind λk=>(gt k).bind λk=>match k with
 |true=>(c τ).bind λz=>F' y z
 |false=>some (.bl false)
def xI(g:FG)(c:FT)(e:FE)(σ:yB):List D->Option (List D)
 | []=>some []
 |d::r=>(g d σ).bind λσ1=>(c σ1).bind λk=>match k with
  |true=>(e σ1).bind λx=>(xI g c e σ r).bind λxs=>some (x::xs)
  |false=>xI g c e σ r
def xB:FT:=λ_=>some true
def xm(n:Nat)(it:FA)(g:FG)(c:FT)(e:FE):FE:=λσ=>(it σ).bind λds=>(xI g c e (σ++List.replicate n none) ds).bind λxs=>some (.lst xs)
def zc(n:Nat)(b:FS)(ds:List D):Option (Bool×D):=(b (ds.map (λd=>some (false,d))++List.replicate (n-ds.length) none)).bind λf=>match f with
 |.rt o d=>some (o,d)
 |.nx _=>some (false,.zE)
 |_=>none
def zd(F:List D->Option (Bool×D))(a:FA):FE:=λσ=>(a σ).bind λds=>(F ds).bind λr=>some r.2
def qO(F:List D->Option (Bool×D))(a:FA):FE:=λσ=>(a σ).bind λds=>(F ds).bind λr=>match r with
 |(true,d)=>some d
 |_=>none
def Js(F:List D->Option (Bool×D))(a:FA):FE:=λσ=>(zd F a σ).bind λd=>if yH d=true then some d else none
open PySem.Spec PyProof.Rows L2
abbrev St:=L2.St
def HW(_:W.Frag)(H:Hp)(a:Addr)(kvs:List (zJ×V)):Prop:=Rd H a (.dK kvs)
mutual
def ze(K:W.Frag)(H:Hp):D->V->Prop
 |.zE,v=>v=.zE
 |.bl b,v=>v=.bl b
 |.int i,v=>v=.int i
 |.str x,v=>v=.str x/\x.length<=sizeLine
 |.tup ds,v=>∃a vs,v=.ref a/\yu K H a vs/\Reps K H ds vs/\ds.length<=sizeLine
 |.lst ds,v=>∃a vs,v=.ref a/\yL K H a vs/\Reps K H ds vs/\ds.length<=sizeLine
 |.dic ks ds,v=>∃a vs,v=.ref a/\HW K H a (ks.zip vs)/\ks.length=vs.length/\Reps K H ds vs/\ds.length<=sizeLine
 |.exc x,v=>∃a C,v=.ref a/\W.nsIn K mainGlobals x=some (some (.ref C))/\H a=some (.ext (HS a C))
 |.obj x fs ds,v=>∃a C dx vs,v=.ref a/\W.nsIn K mainGlobals x=some (some (.ref C))/\H a=some (.ins C dx (fs.zip vs))/\fs.length=vs.length/\Reps K H ds vs
def Reps(K:W.Frag)(H:Hp):List D->List V->Prop
 | [],vs=>vs=[]
 |d::ds,vs=>∃v r,vs=v::r/\ze K H d v/\Reps K H ds r
end
section
variable{K:W.Frag}{G H H':Hp}
theorem Rd.mono{a:Addr}{u:HO}(s:yK H H')(h:Rd H a u):Rd H' a u:=by
 rcases h with h|⟨o,h⟩
 ·exact .inl (s _ _ h)
 ·exact .inr ⟨o,s _ _ h⟩
theorem vT{a:Addr}{xs:List V}(s:yK H H')(h:yu K H a xs):yu K H' a xs:=by
 rcases h with h|h
 ·exact .inl (Rd.mono s h)
 ·exact .inr h
theorem wZ{a:Addr}{xs:List V}(s:yK H H')(h:yL K H a xs):yL K H' a xs:=by
 rcases h with h|h
 ·exact .inl (Rd.mono s h)
 ·exact .inr h
theorem Reps.imp:∀{ds:List D}{vs:List V},(∀d∈ds,∀v,ze K H d v->ze K H' d v)->Reps K H ds vs->Reps K H' ds vs
 | [],_,_,h=>h
 |d::ds,vs,f,h=>by
  obtain⟨v,r,rfl,hv,hr⟩:=h;exact⟨v,r,rfl,f d xV v hv,Reps.imp (λd' m=>f d' (wQ _ m)) hr⟩
theorem ze.mono(s:yK H H'):∀{d:D}{v:V},ze K H d v->ze K H' d v:=λ{d}=>by
 refine D.ind (P:=λd=>∀v,ze K H d v->ze K H' d v) (λv h=>h) (λb v h=>h) (λi v h=>h) (λx v h=>h) ?_ ?_ ?_ ?_ ?_ d _
 ·rintro xs ih v ⟨a,vs,e,q,r,l⟩;exact⟨a,vs,e,vT s q,Reps.imp ih r,l⟩
 ·rintro xs ih v ⟨a,vs,e,q,r,l⟩;exact⟨a,vs,e,wZ s q,Reps.imp ih r,l⟩
 ·rintro ks xs ih v ⟨a,vs,e,q,z,r,l⟩;exact⟨a,vs,e,Rd.mono s q,z,Reps.imp ih r,l⟩
 ·rintro x v ⟨a,C,e,n,h⟩;exact⟨a,C,e,n,s _ _ h⟩
 ·rintro x fs xs ih v ⟨a,C,dx,vs,e,n,h,l,r⟩;exact⟨a,C,dx,vs,e,n,s _ _ h,l,Reps.imp ih r⟩
theorem Reps.mono(s:yK H H'){ds:List D}{vs:List V}(h:Reps K H ds vs):Reps K H' ds vs:=Reps.imp (λ_ _ _=>ze.mono s) h
theorem Reps.length:∀{ds:List D}{vs:List V},Reps K H ds vs->vs.length=ds.length
 | [],_,h=>by cases(show _=[]from h); rfl
 |d::ds,_,h=>by
  obtain⟨v,r,rfl,_,hr⟩:=h;rw[xc,xc,Reps.length hr]
theorem Reps.get:∀{ds:List D}{vs:List V}{i:Nat}{d:D},Reps K H ds vs->ds[i]?=some d->∃v,vs[i]?=some v/\ze K H d v
 | [],_,_,_,_,e=>by cases e
 |d::ds,_,0,_,h,e=>by
  obtain⟨v,r,rfl,hv,hr⟩:=h;cases e;exact⟨v,rfl,hv⟩
 |d::ds,_,i+1,d',h,e=>by
  obtain⟨v,r,rfl,hv,hr⟩:=h;exact Reps.get (i:=i) hr (by simpa using e)
theorem Reps.at{ds:List D}{vs:List V}{i:Nat}{v:V}(h:Reps K H ds vs)(e:vs[i]?=some v):∃d,ds[i]?=some d/\ze K H d v:=by
 have l:=h.length;have hi:i<ds.length:=by rw[<-l]; exact(xE.mp e).1
 obtain⟨v',e',r⟩:=h.get (yS hi);rw[e]at e';cases e';exact⟨_,yS hi,r⟩
theorem Reps.append:∀{ds es:List D}{vs us:List V},Reps K H ds vs->Reps K H es us->Reps K H (ds++es) (vs++us)
 | [],_,_,_,h,g=>by cases(show _=[]from h); exact g
 |d::ds,_,_,_,h,g=>by
  obtain⟨v,r,rfl,hv,hr⟩:=h;exact⟨v,_,rfl,hv,Reps.append hr g⟩
theorem Reps.one{d:D}{v:V}(h:ze K H d v):Reps K H [d] [v]:=⟨v,[],rfl,h,rfl⟩
theorem Reps.take:∀{ds:List D}{vs:List V}(n:Nat),Reps K H ds vs->Reps K H (ds.take n) (vs.take n)
 |_,_,0,_=>by rw[List.take_zero,List.take_zero]; rfl
 | [],_,n+1,h=>by cases(show _=[]from h); rfl
 |d::ds,_,n+1,h=>by
  obtain⟨v,r,rfl,hv,hr⟩:=h;exact⟨v,_,rfl,hv,Reps.take n hr⟩
theorem Reps.drop:∀{ds:List D}{vs:List V}(n:Nat),Reps K H ds vs->Reps K H (ds.drop n) (vs.drop n)
 |_,_,0,h=>h
 | [],_,n+1,h=>by cases(show _=[]from h); rfl
 |d::ds,_,n+1,h=>by
  obtain⟨v,r,rfl,hv,hr⟩:=h;exact Reps.drop n hr
theorem Reps.ints:∀{ns:List Int},Reps K H (ns.map D.int) (ns.map V.int)
 | []=>rfl
 |n::ns=>⟨_,_,rfl,rfl,Reps.ints⟩
end
structure zV(G H G' H':Hp):Prop where
 g:yK G G'
 h:yK H H'
 gh:yK G' H'
 new:∀p,G' p≠none->G p≠none\/H p=none
section
variable{G H G' H' G0 H0 G1 H1 G2 H2:Hp}{p:Addr}{o:HO}
theorem zV.refl(s:yK G H):zV G H G H:=⟨yK.refl _,yK.refl _,s,λ_ h=>.inl h⟩
theorem zV.trans(a:zV G H G1 H1)(b:zV G1 H1 G2 H2):zV G H G2 H2:=⟨a.g.trans b.g,a.h.trans b.h,b.gh,λp h=>by
 rcases b.new p h with z|z
 ·exact a.new p z
 ·exact .inr (a.h.free z)⟩
theorem zV.rebase(a:zV G0 H0 G1 H1)(b:zV G1 H0 G2 H2):zV G0 H0 G2 H2:=⟨a.g.trans b.g,b.h,b.gh,λp h=>by
 rcases b.new p h with z|z
 ·exact a.new p z
 ·exact .inr z⟩
theorem zV.zB(a:zV G0 H0 G1 H1):zV G1 H0 G1 H1:=⟨yK.refl _,a.h,a.gh,λ_ h=>.inl h⟩
theorem GN{H:Hp}{p q:Addr}{o:HO}(h:zX H p o q≠none):q=p\/H q≠none:=by
 by_cases e:q=p
 ·exact .inl e
 ·rw[zm e]at h;exact .inr h
theorem Q0(s:yK G H):yK (zX G p o) (zX H p o):=λb u e=>by
 by_cases hb:b=p
 ·subst hb;rw[yW]at e ⊢;exact e
 ·rw[zm hb]at e ⊢;exact s _ _ e
theorem zV.lay(s:yK G H)(h:H p=none):zV G H (zX G p o) (zX H p o):=⟨wY (s.free h) o,wY h o,Q0 s,λq z=>by
 rcases GN z with e|e
 ·exact .inr (e▸h)
 ·exact .inl e⟩
theorem zV.uM(s:yK G H)(h:H p=none):zV G H G (zX H p o):=⟨yK.refl _,wY h o,s.trans (wY h o),λ_ z=>.inl z⟩
theorem zV.zu(a:zV G H G1 H1)(h:H p=none)(g:G1 p=none)(e:H1 p=some o):zV G H (zX G1 p o) H1:=⟨a.g.trans (wY g o),a.h,λb u q=>by
 by_cases hb:b=p
 ·subst hb;rw[yW]at q;cases q;exact e
 ·rw[zm hb]at q;exact a.gh _ _ q,λq z=>by
 rcases GN z with w|w
 ·exact .inr (w▸h)
 ·exact a.new q w⟩
end
def v4(K:W.Frag)(G H:Hp)(d:D)(p:Addr):Prop:=match d with
 |.lst ds=>∃vs,H p=some (.lst vs)/\Reps K G ds vs/\ds.length<=sizeLine
 |.dic ks ds=>∃vs,H p=some (.dK (ks.zip vs))/\ks.length=vs.length/\Reps K G ds vs/\ds.length<=sizeLine
 |_=>False
section
variable{K:W.Frag}{G H G' H':Hp}{d:D}{p:Addr}
theorem v4.some(h:v4 K G H d p):H p≠none:=by
 cases d with
 |lst ds=>obtain⟨vs,e,_⟩:=h; rw[e]; exact λz=>nomatch z
 |dic ks ds=>obtain⟨vs,e,_⟩:=h; rw[e]; exact λz=>nomatch z
 |_=>exact h.elim
theorem v4.mono(g:yK G G')(h:yK H H')(o:v4 K G H d p):v4 K G' H' d p:=by
 cases d with
 |lst ds=>obtain⟨vs,e,r,l⟩:=o; exact⟨vs,h _ _ e,r.mono g,l⟩
 |dic ks ds=>obtain⟨vs,e,z,r,l⟩:=o; exact⟨vs,h _ _ e,z,r.mono g,l⟩
 |_=>exact o.elim
theorem v4.rep(s:yK G H)(o:v4 K G H d p):ze K H d (.ref p):=by
 cases d with
 |lst ds=>obtain⟨vs,e,r,l⟩:=o; exact⟨p,vs,rfl,yL.of e,r.mono s,l⟩
 |dic ks ds=>obtain⟨vs,e,z,r,l⟩:=o; exact⟨p,vs,rfl,.inl e,z,r.mono s,l⟩
 |_=>exact o.elim
theorem v4.zu(o:v4 K G H d p)(g:G p=none):∃u,H p=Option.some u/\ze K (zX G p u) d (.ref p):=by
 cases d with
 |lst ds=>obtain⟨vs,e,r,l⟩:=o; exact⟨_,e,p,vs,rfl,yL.of yW,r.mono (wY g _),l⟩
 |dic ks ds=>obtain⟨vs,e,z,r,l⟩:=o; exact⟨_,e,p,vs,rfl,.inl yW,z,r.mono (wY g _),l⟩
 |_=>exact o.elim
end
structure zw(K:W.Frag)(n:Nat)(G0 H0 G H:Hp)(τ:yB)(σ:St):Prop where
 ext:zV G0 H0 G H
 l1:σ.length=n
 l2:τ.length=n
 fr:∀(i:Nat)(d:D),τ[i]?=some (some (false,d))->∃v,σ[i]?=some (some v)/\ze K G d v
 ow:∀(i:Nat)(d:D),τ[i]?=some (some (true,d))->∃p,σ[i]?=some (some (V.ref p))/\G p=none/\H0 p=none/\v4 K G H d p
 ap:∀(i j:Nat)(d e:D)(p:Addr),i≠j->τ[i]?=some (some (true,d))->τ[j]?=some (some (true,e))->σ[i]?=some (some (V.ref p))->σ[j]?=some (some (V.ref p))->False
section
variable{K:W.Frag}{n:Nat}{G0 H0 G H G' H':Hp}{τ:yB}{σ:St}
theorem zw.go(E:zw K n G0 H0 G H τ σ)(x:zV G H G' H'):zw K n G0 H0 G' H' τ σ:=⟨E.ext.trans x,E.l1,E.l2,λi d h=>by
 obtain⟨v,e,r⟩:=E.fr i d h;exact⟨v,e,r.mono x.g⟩,λi d h=>by
 obtain⟨p,e,g,z,o⟩:=E.ow i d h;refine⟨p,e,?_,z,o.mono x.g x.h⟩;cases q:G' p with
 |none=>rfl
 |some u=>
  rcases x.new p (by rw[q]; exact λz=>nomatch z)with w|w
  ·exact absurd g w
  ·exact absurd w o.some,E.ap⟩
theorem zw.zB(E:zw K n G0 H0 G H τ σ):zw K n G H0 G H τ σ:=⟨E.ext.zB,E.l1,E.l2,E.fr,E.ow,E.ap⟩
theorem zw.near{Ga Ha:Hp}(a:zV G0 H0 Ga Ha)(E:zw K n Ga H0 G H τ σ):zw K n G0 H0 G H τ σ:=⟨a.rebase E.ext,E.l1,E.l2,E.fr,E.ow,E.ap⟩
theorem zw.lt{i:Nat}{s:Option Sl}(E:zw K n G0 H0 G H τ σ)(h:τ[i]?=some s):i<n:=by
 rw[<-E.l2];exact(xE.mp h).1
theorem vq{α:Type}{xs:List α}{i j:Nat}{x y:α}(h:(xs.set i x)[j]?=some y):(j=i/\y=x)\/(j≠i/\xs[j]?=some y):=by
 rw[Qo]at h;by_cases e:i=j
 ·subst e;rw[zN rfl]at h
  split at h
  ·cases h; exact .inl ⟨rfl,rfl⟩
  ·cases h
 ·rw[zS e]at h;exact .inr ⟨λz=>e z.symm,h⟩
theorem XT{α:Type}{xs:List α}{i:Nat}{x:α}(h:i<xs.length):(xs.set i x)[i]?=some x:=by rw[Qo,zN rfl,zN h]
theorem qP{α:Type}{xs:List α}{i j:Nat}{x:α}(h:j≠i):(xs.set i x)[j]?=xs[j]?:=by rw[Qo,zS (λz=>h z.symm)]
theorem zw.set{i:Nat}{d:D}{v:V}(E:zw K n G0 H0 G H τ σ)(hi:i<n)(r:ze K G d v):zw K n G0 H0 G H (τ.set i (some (false,d))) (σ.set i (some v)):=⟨E.ext,by rw[Yq]; exact E.l1,by rw[Yq]; exact E.l2,λj e h=>by
 rcases vq h with⟨rfl,z⟩|⟨ne,z⟩
 ·cases z;exact⟨v,XT (by rw[E.l1]; exact hi),r⟩
 ·rw[qP ne];exact E.fr j e z,λj e h=>by
 rcases vq h with⟨rfl,z⟩|⟨ne,z⟩
 ·cases z
 ·rw[qP ne];exact E.ow j e z,λj k e f p hne h1 h2=>by
 rcases vq h1 with⟨rfl,z⟩|⟨ne,z⟩
 ·cases z
 ·rcases vq h2 with⟨rfl,z'⟩|⟨ne',z'⟩
  ·cases z'
  ·rw[qP ne,qP ne'];exact E.ap j k e f p hne z z'⟩
theorem zw.Ms{i:Nat}{d:D}{p:Addr}(E:zw K n G0 H0 G H τ σ)(hi:i<n)(hg:G p=none)(h0:H0 p=none)(o:v4 K G H d p)(hn:∀(j:Nat)(e:D),j≠i->τ[j]?=some (some (true,e))->σ[j]?=some (some (V.ref p))->False) :
  zw K n G0 H0 G H (τ.set i (some (true,d))) (σ.set i (some (.ref p))):=⟨E.ext,by rw[Yq]; exact E.l1,by rw[Yq]; exact E.l2,λj e h=>by
 rcases vq h with⟨rfl,z⟩|⟨ne,z⟩
 ·cases z
 ·rw[qP ne];exact E.fr j e z,λj e h=>by
 rcases vq h with⟨rfl,z⟩|⟨ne,z⟩
 ·cases z;exact⟨p,XT (by rw[E.l1]; exact hi),hg,h0,o⟩
 ·rw[qP ne];exact E.ow j e z,λj k e f q hne h1 h2 h3 h4=>by
 rcases vq h1 with⟨rfl,z⟩|⟨ne,z⟩
 ·rcases vq h2 with⟨rfl,z'⟩|⟨ne',z'⟩
  ·exact hne rfl
  ·rw[XT (by rw[E.l1]; exact hi)]at h3;rw[qP ne']at h4;cases h3;exact hn k f ne' z' h4
 ·rcases vq h2 with⟨rfl,z'⟩|⟨ne',z'⟩
  ·rw[XT (by rw[E.l1]; exact hi)]at h4;rw[qP ne]at h3;cases h4;exact hn j e ne z h3
  ·rw[qP ne]at h3;rw[qP ne']at h4;exact E.ap j k e f q hne z z' h3 h4⟩
theorem zw.Mp{i:Nat}{p:Addr}(E:zw K n G0 H0 G H τ σ)(hp:H p=none):∀(j:Nat)(e:D),j≠i->τ[j]?=some (some (true,e))->σ[j]?=some (some (V.ref p))->False:=λj e _ h1 h2=>by
 obtain⟨q,e1,_,_,o⟩:=E.ow j e h1;rw[h2]at e1;cases e1;exact o.some hp
theorem zw.freeze{i:Nat}{b:Bool}{d:D}(E:zw K n G0 H0 G H τ σ)(hi:τ[i]?=some (some (b,d))):∃G',zw K n G0 H0 G' H (τ.set i (some (false,d))) σ/\yK G G':=by
 have hin:=E.lt hi;cases b with
 |false=>
  refine⟨G,?_,yK.refl _⟩
  have e:τ.set i (some (false,d))=τ:=by
   apply Ym;intro j;by_cases hj:j=i
   ·subst hj; rw[XT (by rw[E.l2]; exact hin),hi]
   ·rw[qP hj]
  rw[e];exact E
 |true=>
  obtain⟨p,e,g,z,o⟩:=E.ow i d hi;obtain⟨u,hu,r⟩:=o.zu g;have x:zV G0 H0 (zX G p u) H:=E.ext.zu z g hu;refine⟨zX G p u,⟨x,E.l1,by rw[Yq]; exact E.l2,λj d' h=>?_,λj d' h=>?_,λj k e1 f q hne h1 h2=>?_⟩,wY g _⟩
  ·rcases vq h with⟨rfl,w⟩|⟨ne,w⟩
   ·cases w;exact⟨_,e,r⟩
   ·obtain⟨v,e',r'⟩:=E.fr j d' w;exact⟨v,e',r'.mono (wY g _)⟩
  ·rcases vq h with⟨rfl,w⟩|⟨ne,w⟩
   ·cases w
   ·obtain⟨q,e',g',z',o'⟩:=E.ow j d' w;refine⟨q,e',?_,z',o'.mono (wY g _) (yK.refl _)⟩;rw[zm (λc=>?_)]
    ·exact g'
    ·subst c;exact E.ap i j d d' q (λc=>ne c.symm) hi w e e'
  ·rcases vq h1 with⟨rfl,w⟩|⟨ne,w⟩
   ·cases w
   ·rcases vq h2 with⟨rfl,w'⟩|⟨ne',w'⟩
    ·cases w'
    ·exact E.ap j k e1 f q hne w w'
end
section
variable(X:Cx)
structure SE(e:Expr)(f:FE):Prop where
 h:∃t,PE X e t/\∀{G0 H0 G H:Hp}{τ:yB}{σ:St}{d:D}{Q:VK},zw X.K X.N.length G0 H0 G H τ σ->f τ=some d->(∀v G' H',zV G H G' H'->ze X.K G' d v->Q v H')->t σ H Q
structure SB(e:Expr)(f:FE):Prop where
 h:∃t,PE X e t/\∀{G0 H0 G H:Hp}{τ:yB}{σ:St}{d:D}{Q:VK},zw X.K X.N.length G0 H0 G H τ σ->f τ=some d->(∀v G' H',zV G H G' H'->ze X.K H' d v->Q v H')->t σ H Q
structure SF(e:Expr)(f:FE):Prop where
 h:∃t,PE X e t/\∀{G0 H0 G H:Hp}{τ:yB}{σ:St}{d:D}{Q:VK},zw X.K X.N.length G0 H0 G H τ σ->f τ=some d->(∀p G' H',zV G H G' H'->H p=none->G' p=none->v4 X.K G' H' d p->Q (.ref p) H')->t σ H Q
structure ST(e:Expr)(f:FT):Prop where
 h:∃t,PT X e t/\∀{G0 H0 G H:Hp}{τ:yB}{σ:St}{d:Bool}{Q:Bool->Hp->Prop},zw X.K X.N.length G0 H0 G H τ σ->f τ=some d->(∀G' H',zV G H G' H'->Q d H')->t σ H Q
structure SW(e:Expr)(f:FT):Prop where
 h:∃t,PW X e t/\∀{G0 H0 G H:Hp}{τ:yB}{σ:St}{d:Bool}{Q:Bool->Hp->Prop},zw X.K X.N.length G0 H0 G H τ σ->f τ=some d->(∀G' H',zV G H G' H'->Q d H')->t σ H Q
structure SA(es:List Expr)(f:FA):Prop where
 h:∃t,PA X es t/\∀{G0 H0 G H:Hp}{τ:yB}{σ:St}{ds:List D}{Q:List V->Hp->Prop},zw X.K X.N.length G0 H0 G H τ σ->f τ=some ds->(∀vs G' H',zV G H G' H'->Reps X.K G' ds vs->Q vs H')->t σ H Q
structure X8(es:List Expr)(f:FA):Prop where
 h:∃t,PA X es t/\∀{G0 H0 G H:Hp}{τ:yB}{σ:St}{ds:List D}{Q:List V->Hp->Prop},zw X.K X.N.length G0 H0 G H τ σ->f τ=some ds->(∀vs G' H',zV G H G' H'->Reps X.K H' ds vs->Q vs H')->t σ H Q
end
def vJ(K:W.Frag)(n:Nat)(G0 H0:Hp)(E:uO):Fl->Prop
 |.nx τ=>∀σ G H,zw K n G0 H0 G H τ σ->E.nx σ H
 |.bk τ=>∀σ G H,zw K n G0 H0 G H τ σ->E.bk σ H
 |.ct τ=>∀σ G H,zw K n G0 H0 G H τ σ->E.ct σ H
 |.rt false d=>∀v G H,zV G0 H0 G H->ze K G d v->E.rt v H
 |.rt true d=>∀p G H,zV G0 H0 G H->H0 p=none->G p=none->v4 K G H d p->E.rt (.ref p) H
section
variable(X:Cx)
structure SS(st:Stmt)(f:FS):Prop where
 h:∃t,PS X st t/\∀{G0 H0 G H:Hp}{τ:yB}{σ:St}{fl:Fl}{E:uO},zw X.K X.N.length G0 H0 G H τ σ->f τ=some fl->vJ X.K X.N.length G0 H0 E fl->t E σ H
structure uU(st:List Stmt)(f:FS):Prop where
 h:∃t,vk X st t/\∀{G0 H0 G H:Hp}{τ:yB}{σ:St}{fl:Fl}{E:uO},zw X.K X.N.length G0 H0 G H τ σ->f τ=some fl->vJ X.K X.N.length G0 H0 E fl->t E σ H
end
structure uu(K:W.Frag)(J:It)(G:Hp)(ds:List D):Prop where
 go:∀i G2 H,yK G G2->yK G2 H->i<ds.length->J.go i H
 vC:∀i G2 H x H',yK G G2->yK G2 H->i<ds.length->J.vC i H x H'->∃G3 d,zV G2 H G3 H'/\ds[i]?=some d/\ze K G3 d x
 stop:∀i G2 H,yK G G2->yK G2 H->ds.length<=i->J.stop i H
structure SI(X:Cx)(tg iter:Expr)(f:FA):Prop where
 h:∃wi,PI X tg iter wi/\∀{G0 H0 G H:Hp}{τ:yB}{σ:St}{ds:List D}{R:It->Hp->Prop},zw X.K X.N.length G0 H0 G H τ σ->f τ=some ds->(∀J G' H',zV G H G' H'->ds.length<=sizeLine->uu X.K J G' ds->R J H')->wi σ H R
def zU(K:W.Frag)(F:List D->Option (Bool×D)):Sp:=λvs H Q _=>∃G ds o d,yK G H/\Reps K G ds vs/\F ds=some (o,d)/\
 match o with
 |false=>∀v G' H',zV G H G' H'->ze K G' d v->Q v H'
 |true=>∀p G' H',zV G H G' H'->H p=none->G' p=none->v4 K G' H' d p->Q (.ref p) H'
theorem zP{α β:Type}{o:Option α}{f:α->Option β}{b:β}(h:o.bind f=some b):∃a,o=some a/\f a=some b:=by
 cases o with
 |none=>cases h
 |some a=>exact⟨a,rfl,h⟩
theorem Bl{i:Nat}{τ:yB}{d:D}(h:z7 i τ=some d):τ[i]?=some (some (false,d)):=by
 unfold z7 at h
 split at h
 ·rename_i e;cases h;exact e
 ·cases h
theorem Bk{i:Nat}{τ:yB}{d:D}(h:je i τ=some d):∃b,τ[i]?=some (some (b,d)):=by
 unfold je at h
 split at h
 ·rename_i b d' e;cases h;exact⟨_,e⟩
 ·cases h
section
variable{X:Cx}{x:Str}{p pos apos cpos p2:Pos}{e a b c o:Expr}{es rest:List Expr}{f fa fb fc:FE}{ft fu:FT}{fs:FA}{F:D->D->Option D}{r:R2}
theorem SE.sb(h:SE X e f):SB X e f:=⟨let ⟨t,p,k⟩:=h.h; ⟨t,p,λE hf q=>k E hf λv G' H' x r=>q v G' H' x (r.mono x.gh)⟩⟩
theorem SF.se(h:SF X e f):SE X e f:=⟨let ⟨t,p,k⟩:=h.h; ⟨t,p,λE hf q=>k E hf λp G' H' x hp gp o=>by
 obtain⟨u,hu,r⟩:=o.zu gp;exact q _ _ _ (x.zu hp gp hu) r⟩⟩
theorem zH(h:SE X e f):SB X e f:=h.sb
theorem xL(h:SF X e f):SE X e f:=h.se
theorem z8(i:Nat){x:Str}{pos:Pos}(hN:X.N[i]?=some x:=by rfl)(hv:ut X.env.scope x:=by first|exact Or.inl rfl|exact Or.inr (Or.inl rfl)|exact Or.inr (Or.inr rfl))(hd:(x==("__debug__" : Str))=false:=by decide)
  (hcd:(x==("__classdict__" : Str))=false:=by decide):SE X (.Name x pos) (z7 i):=⟨⟨_,kU hN hv hd hcd,λE hf q=>by
 obtain⟨v,e,r⟩:=E.fr _ _ (Bl hf);exact⟨v,e,q v _ _ (zV.refl E.ext.gh) r⟩⟩⟩
theorem cx(i:Nat){x:Str}{pos:Pos}(hN:X.N[i]?=some x:=by rfl)(hv:ut X.env.scope x:=by first|exact Or.inl rfl|exact Or.inr (Or.inl rfl)|exact Or.inr (Or.inr rfl))(hd:(x==("__debug__" : Str))=false:=by decide)
  (hcd:(x==("__classdict__" : Str))=false:=by decide):SB X (.Name x pos) (je i):=⟨⟨_,kU hN hv hd hcd,λE hf q=>by
 obtain⟨b,hb⟩:=Bk hf;cases b with
 |false=>
  obtain⟨v,e,r⟩:=E.fr _ _ hb;exact⟨v,e,q v _ _ (zV.refl E.ext.gh) (r.mono E.ext.gh)⟩
 |true=>
  obtain⟨p,e,_,_,o⟩:=E.ow _ _ hb;exact⟨_,e,q _ _ _ (zV.refl E.ext.gh) (o.rep E.ext.gh)⟩⟩⟩
theorem Wx{v:V}{d:D}(h:PE X e (tC v))(r:∀H,ze X.K H d v):SE X e (eC d):=⟨⟨_,h,λE hf q=>by
 cases hf;exact q v _ _ (zV.refl E.ext.gh) (r _)⟩⟩
theorem zI{i k pos}:SE X (.Constant (.int i) k pos) (eC (.int i)):=Wx Ca λ_=>rfl
theorem ky{i k pos}:SE X (.Constant (.bool i) k pos) (eC (.bl i)):=Wx AZ λ_=>rfl
theorem wC{k pos}:SE X (.Constant .none k pos) (eC .zE):=Wx An λ_=>rfl
theorem yN{x k pos}(h:x.length<=1000:=by decide):SE X (.Constant (.str x) k pos) (eC (.str x)):=Wx As λ_=>⟨rfl,small h⟩
theorem qX{v:V}{d:D}(h:yf X.mg x v)(r:∀H,ze X.K H d v)(hg:Gl X x)(hd:(x==("__debug__" : Str))=false:=by decide):SE X (.Name x pos) (eC d):=Wx (Xn h hg hd) r
def vX(K:W.Frag)(r:R2)(F:D->D->Option D):Prop:=∀G H x y u v d (Q:VK),yK G H->ze K G x u->ze K G y v->F x y=some d->(∀w G' H',zV G H G' H'->ze K G' d w->Q w H')->r u v H Q
def qM(K:W.Frag)(r:R2)(F:D->D->Option D):Prop:=∀H x y u v d (Q:VK),ze K H x u->ze K H y v->F x y=some d->∃k,d=.bl k/\(Q (.bl k) H->r u v H Q)
theorem zW{op:Operator}(ho:yY X (binaryOp op) r)(hF:vX X.K r F)(ha:SE X a fa)(hb:SE X b fb):SE X (.BinOp a op b pos) (e2 F fa fb):=by
 obtain⟨ta,pa,ka⟩:=ha.h;obtain⟨tb,pb,kb⟩:=hb.h;refine⟨⟨_,Ap ho pa pb,λE hf q=>?_⟩⟩;obtain⟨x,hx,hf⟩:=zP hf;obtain⟨y,hy,hf⟩:=zP hf;refine ka E hx λv G1 H1 x1 r1=>?_
 refine kb (E.go x1) hy λu G2 H2 x2 r2=>?_
 exact hF G2 H2 x y v u _ _ x2.gh (r1.mono x2.g) r2 hf λw G' H' x3 r3=>q w G' H' (x1.trans (x2.trans x3)) r3
theorem zn(hr:ur X r)(hF:vX X.K r F)(ha:SE X a fa)(hb:SE X b fb)(hs:Tr b=true:=by rfl):SE X (.Subscript a b pos) (e2 F fa fb):=by
 obtain⟨ta,pa,ka⟩:=ha.h;obtain⟨tb,pb,kb⟩:=hb.h;refine⟨⟨_,Ou hr pa pb (Ox hs),λE hf q=>?_⟩⟩;obtain⟨x,hx,hf⟩:=zP hf;obtain⟨y,hy,hf⟩:=zP hf;refine ka E hx λv G1 H1 x1 r1=>?_
 refine kb (E.go x1) hy λu G2 H2 x2 r2=>?_
 exact hF G2 H2 x y v u _ _ x2.gh (r1.mono x2.g) r2 hf λw G' H' x3 r3=>q w G' H' (x1.trans (x2.trans x3)) r3
theorem j6{op:CmpOp}(ho:yY X (compareOp op) r)(hF:qM X.K r F)(ha:SB X a fa)(hb:SB X b fb)(hm:behindInMarks op b=false):SE X (.Compare a [op] [b] pos) (e2 F fa fb):=by
 obtain⟨ta,pa,ka⟩:=ha.h;obtain⟨tb,pb,kb⟩:=hb.h;refine⟨⟨_,Ag ho pa pb hm,λE hf q=>?_⟩⟩;obtain⟨x,hx,hf⟩:=zP hf;obtain⟨y,hy,hf⟩:=zP hf;refine ka E hx λv G1 H1 x1 r1=>?_
 refine kb (E.go x1) hy λu G2 H2 x2 r2=>?_
 obtain⟨k,rfl,z⟩:=hF H2 x y v u _ _ (r1.mono x2.h) r2 hf;exact z (q _ _ _ (x1.trans x2) rfl)
theorem yC{op:CmpOp}(ho:yY X (compareOp op) r)(hF:qM X.K r F)(ha:SB X a fa)(hb:SB X b fb)(hm:behindInMarks op b=false):ST X (.Compare a [op] [b] pos) (tE (e2 F fa fb)):=by
 obtain⟨ta,pa,ka⟩:=ha.h;obtain⟨tb,pb,kb⟩:=hb.h;refine⟨⟨_,ay ho pa pb hm,λE hf q=>?_⟩⟩;obtain⟨z,hz,hf⟩:=zP hf;obtain⟨x,hx,hz⟩:=zP hz;obtain⟨y,hy,hz⟩:=zP hz;refine ka E hx λv G1 H1 x1 r1=>?_
 refine kb (E.go x1) hy λu G2 H2 x2 r2=>?_
 obtain⟨k,rfl,z⟩:=hF H2 x y v u _ _ (r1.mono x2.h) r2 hz;cases hf;exact z ⟨_,rfl,q _ _ (x1.trans x2)⟩
theorem t8(h:SE X e f)(he:Cj e=true:=by rfl):ST X e (tE f):=by
 obtain⟨t,p,k⟩:=h.h;refine⟨⟨_,a_ p (aT he),λE hf q=>?_⟩⟩;obtain⟨z,hz,hf⟩:=zP hf;refine k E hz λv G' H' x r=>?_
 cases z<;>first|cases hf|skip
 cases r;exact⟨_,rfl,q _ _ x⟩
theorem LZ(h:ST X a ft):SW X (.BoolOp .And [a] pos) ft:=⟨let ⟨t,p,k⟩:=h.h; ⟨t,bB p,k⟩⟩
theorem Yb(h:ST X a ft):SW X (.BoolOp .Or [a] pos) ft:=⟨let ⟨t,p,k⟩:=h.h; ⟨t,bD p,k⟩⟩
theorem QF(ha:ST X a ft)(hb:SW X (.BoolOp .And (b::rest) pos) fu):SW X (.BoolOp .And (a::b::rest) pos) (Yc ft fu):=by
 obtain⟨ta,pa,ka⟩:=ha.h;obtain⟨tb,pb,kb⟩:=hb.h;refine⟨⟨_,bA pa pb,λE hf q=>?_⟩⟩;obtain⟨k,hk,hf⟩:=zP hf;refine ka E hk λG1 H1 x1=>?_
 cases k with
 |true=>exact j1 (kb (E.go x1) hf λG' H' x2=>q _ _ (x1.trans x2))
 |false=>cases hf; exact j0 (q _ _ x1)
theorem Ya(ha:ST X a ft)(hb:SW X (.BoolOp .Or (b::rest) pos) fu):SW X (.BoolOp .Or (a::b::rest) pos) (pC ft fu):=by
 obtain⟨ta,pa,ka⟩:=ha.h;obtain⟨tb,pb,kb⟩:=hb.h;refine⟨⟨_,bC pa pb,λE hf q=>?_⟩⟩;obtain⟨k,hk,hf⟩:=zP hf;refine ka E hk λG1 H1 x1=>?_
 cases k with
 |false=>exact j0 (kb (E.go x1) hf λG' H' x2=>q _ _ (x1.trans x2))
 |true=>cases hf; exact j1 (q _ _ x1)
theorem j9(h:SW X e ft):ST X e ft:=⟨let ⟨t,p,k⟩:=h.h; ⟨t,p.pt,k⟩⟩
theorem k_(h:ST X a ft):ST X (.UnaryOp .Not a pos) (jA ft):=by
 obtain⟨ta,pa,ka⟩:=h.h;refine⟨⟨_,az pa,λE hf q=>?_⟩⟩;obtain⟨k,hk,hf⟩:=zP hf;cases hf;exact ka E hk λG1 H1 x1=>q _ _ x1
theorem LO{op}(h:SE X a f):SE X (.BoolOp op [a] pos) f:=⟨let ⟨t,p,k⟩:=h.h; ⟨t,Ao p,k⟩⟩
theorem EO{K:W.Frag}{G:Hp}{z:D}{v:V}{k:Bool}(r:ze K G z v)(h:gt z=some k):v=.bl k:=by
 cases z<;>first|cases h|skip
 exact r
theorem Ef(ha:SE X a fa)(hb:SE X (.BoolOp .And (b::rest) pos) fb):SE X (.BoolOp .And (a::b::rest) pos) (Uy fa fb):=by
 obtain⟨ta,pa,ka⟩:=ha.h;obtain⟨tb,pb,kb⟩:=hb.h;refine⟨⟨_,AY pa pb,λE hf q=>?_⟩⟩;obtain⟨z,hz,hf⟩:=zP hf;obtain⟨k,hk,hf⟩:=zP hf;refine ka E hz λv G1 H1 x1 r1=>⟨k,EO r1 hk,?_⟩
 cases k with
 |true=>exact j1 (kb (E.go x1) hf λv G' H' x2 r2=>q v _ _ (x1.trans x2) r2)
 |false=>cases hf; exact j0 (q _ _ _ x1 rfl)
theorem dX(ha:SE X a fa)(hb:SE X (.BoolOp .Or (b::rest) pos) fb):SE X (.BoolOp .Or (a::b::rest) pos) (Ju fa fb):=by
 obtain⟨ta,pa,ka⟩:=ha.h;obtain⟨tb,pb,kb⟩:=hb.h;refine⟨⟨_,Aq pa pb,λE hf q=>?_⟩⟩;obtain⟨z,hz,hf⟩:=zP hf;obtain⟨k,hk,hf⟩:=zP hf;refine ka E hz λv G1 H1 x1 r1=>⟨k,EO r1 hk,?_⟩
 cases k with
 |false=>exact j0 (kb (E.go x1) hf λv G' H' x2 r2=>q v _ _ (x1.trans x2) r2)
 |true=>cases hf; exact j1 (q _ _ _ x1 rfl)
theorem t7(hc:ST X c ft)(ha:SE X a fa)(hb:SE X b fb):SE X (.IfExp c a b pos) (u9 ft fa fb):=by
 obtain⟨tc,pc,kc⟩:=hc.h;obtain⟨ta,pa,ka⟩:=ha.h;obtain⟨tb,pb,kb⟩:=hb.h;refine⟨⟨_,Ak pc pa pb,λE hf q=>?_⟩⟩;obtain⟨k,hk,hf⟩:=zP hf;refine kc E hk λG1 H1 x1=>?_
 cases k with
 |true=>exact j1 (ka (E.go x1) hf λv G' H' x2 r2=>q v _ _ (x1.trans x2) r2)
 |false=>exact j0 (kb (E.go x1) hf λv G' H' x2 r2=>q v _ _ (x1.trans x2) r2)
theorem zM:SA X [] zG:=⟨⟨_,kT,λE hf q=>by cases hf; exact q _ _ _ (zV.refl E.ext.gh) rfl⟩⟩
theorem zD(ha:SE X e f)(hr:SA X es fs)(h:xS e=true:=by rfl):SA X (e::es) (zA f fs):=by
 obtain⟨ta,pa,ka⟩:=ha.h;obtain⟨tb,pb,kb⟩:=hr.h;refine⟨⟨_,Xm pa pb h,λE hf q=>?_⟩⟩;obtain⟨x,hx,hf⟩:=zP hf;obtain⟨xs,hxs,hf⟩:=zP hf;cases hf;refine ka E hx λv G1 H1 x1 r1=>kb (E.go x1) hxs λvs G2 H2 x2 r2=>?_
 exact q _ _ _ (x1.trans x2) ⟨v,vs,rfl,r1.mono x2.g,r2⟩
theorem wX:X8 X [] zG:=⟨⟨_,kT,λE hf q=>by cases hf; exact q _ _ _ (zV.refl E.ext.gh) rfl⟩⟩
theorem wB(ha:SB X e f)(hr:X8 X es fs)(h:xS e=true:=by rfl):X8 X (e::es) (zA f fs):=by
 obtain⟨ta,pa,ka⟩:=ha.h;obtain⟨tb,pb,kb⟩:=hr.h;refine⟨⟨_,Xm pa pb h,λE hf q=>?_⟩⟩;obtain⟨x,hx,hf⟩:=zP hf;obtain⟨xs,hxs,hf⟩:=zP hf;cases hf;refine ka E hx λv G1 H1 x1 r1=>kb (E.go x1) hxs λvs G2 H2 x2 r2=>?_
 exact q _ _ _ (x1.trans x2) ⟨v,vs,rfl,r1.mono x2.h,r2⟩
theorem cw{is:List Int}(h:intsOf es=some is):SA X es (λ_=>some (is.map D.int)):=⟨⟨_,CW h,λE hf q=>by cases hf; exact q _ _ _ (zV.refl E.ext.gh) Reps.ints⟩⟩
theorem x_{x1}(h:SA X es fs)(hl:∀τ ds,fs τ=some ds->ds.length<=1000):SE X (.Tuple es x1 pos) (xO fs):=by
 obtain⟨t,pt,k⟩:=h.h;refine⟨⟨_,Au pt,λE hf q=>?_⟩⟩;obtain⟨xs,hx,hf⟩:=zP hf;cases hf;have l:xs.length<=sizeLine:=small (hl _ _ hx);refine k E hx λvs G1 H1 x1 r1=>⟨by rw[r1.length]; exact l,λp hp=>?_⟩
 exact q _ _ _ (x1.trans (zV.lay x1.gh hp)) ⟨p,vs,rfl,yu.of yW,r1.mono (wY (x1.gh.free hp) _),l⟩
theorem wf(h:SA X es fs)(hl:∀τ ds,fs τ=some ds->ds.length<=1000):SF X (.List es pos) (wA fs):=by
 obtain⟨t,pt,k⟩:=h.h;refine⟨⟨_,Al pt,λE hf q=>?_⟩⟩;obtain⟨xs,hx,hf⟩:=zP hf;cases hf;have l:xs.length<=sizeLine:=small (hl _ _ hx);refine k E hx λvs G1 H1 x1 r1=>⟨by rw[r1.length]; exact l,λp hp=>?_⟩
 exact q _ _ _ (x1.trans (zV.uM x1.gh hp)) (x1.h.free hp) (x1.gh.free hp) ⟨vs,yW,r1,l⟩
theorem ya:∀(τ:yB) ds,zG τ=some ds->ds.length<=0:=λ_ _ h=>by cases h; exact zr _
theorem zb{n:Nat}(h:∀τ ds,fs τ=some ds->ds.length<=n):∀τ ds,zA f fs τ=some ds->ds.length<=n+1:=λτ ds e=>by
 obtain⟨x,_,e⟩:=zP e;obtain⟨xs,hx,e⟩:=zP e;cases e;exact Nat.succ_le_succ (h _ _ hx)
theorem Hi{is:List Int}{n:Nat}(h:is.length<=n):∀(τ:yB) ds,(some (is.map D.int))=some ds->ds.length<=n:=λ_ _ e=>by
 cases e;rw[zx];exact h
theorem yZ{m n:Nat}(h:∀τ ds,fs τ=some ds->ds.length<=m)(hmn:m<=n):∀τ ds,fs τ=some ds->ds.length<=n:=λτ ds e=>xv (h τ ds e) hmn
variable{ps:List Str}{j k:Nat}{FF:List D->Option (Bool×D)}{FL:List D->Option D}{id T:String}
theorem gA(h:zT X.prog X.w X.K X.mg X.base x ps k (zU X.K FF))(hr:w8 j X.A)(hg:Gl X x)(ha:SA X (e::es) fs)(hk:k<=j:=by decide)(hdb:(x==("__debug__" : Str))=false:=by decide)
  (he:(e::es).all xS=true:=by rfl):SF X (.Call (.Name x p) (e::es) [] pos) (qO FF fs):=by
 obtain⟨t,pt,kt⟩:=ha.h;refine⟨⟨_,Ov h hr hg pt hk hdb he,λE hf q=>?_⟩⟩;obtain⟨ds,hd,hf⟩:=zP hf;obtain⟨⟨o,d⟩,hr,hf⟩:=zP hf;cases o with
 |false=>cases hf
 |true=>
  cases hf;refine kt E hd λvs G1 H1 x1 r1=>⟨G1,ds,true,_,x1.gh,by rw[ui]; exact r1,hr,λp G' H' x2 hp gp o=>?_⟩
  exact q p G' H' (x1.trans x2) (x1.h.free hp) gp o
theorem zj(h:zT X.prog X.w X.K X.mg X.base x ps k (zU X.K FF))(hr:w8 j X.A)(hg:Gl X x)(ha:SA X (e::es) fs)(hk:k<=j:=by decide)(hdb:(x==("__debug__" : Str))=false:=by decide)
  (he:(e::es).all xS=true:=by rfl):SE X (.Call (.Name x p) (e::es) [] pos) (zd FF fs):=by
 obtain⟨t,pt,kt⟩:=ha.h;refine⟨⟨_,Ov h hr hg pt hk hdb he,λE hf q=>?_⟩⟩;obtain⟨ds,hd,hf⟩:=zP hf;obtain⟨⟨o,d⟩,hr,hf⟩:=zP hf;cases hf;refine kt E hd λvs G1 H1 x1 r1=>⟨G1,ds,o,d,x1.gh,by rw[ui]; exact r1,hr,?_⟩
 cases o with
 |false=>exact λv G' H' x2 r=>q v G' H' (x1.trans x2) r
 |true=>
  intro p G' H' x2 hp gp o;obtain⟨u,hu,r⟩:=o.zu gp;exact q _ _ _ (x1.trans (x2.zu hp gp hu)) r
theorem dP(h:zT X.prog X.w X.K X.mg X.base x ps k (zU X.K FF))(hr:w8 j X.A)(hg:Gl X x)(ha:X8 X (e::es) fs)(hk:k<=j:=by decide)(hdb:(x==("__debug__" : Str))=false:=by decide)
  (he:(e::es).all xS=true:=by rfl):SE X (.Call (.Name x p) (e::es) [] pos) (Js FF fs):=by
 obtain⟨t,pt,kt⟩:=ha.h;refine⟨⟨_,Ov h hr hg pt hk hdb he,λE hf q=>?_⟩⟩;obtain⟨d0,h0,hf⟩:=zP hf;obtain⟨ds,hd,h0⟩:=zP h0;obtain⟨⟨o,d⟩,hr,h0⟩:=zP h0;cases h0;by_cases fl:yH d=true
 ·rw[zN fl]at hf;cases hf;refine kt E hd λvs G1 H1 x1 r1=>⟨H1,ds,o,d,yK.refl _,by rw[ui]; exact r1,hr,?_⟩
  have flat:∀{G G':Hp}{v:V},ze X.K G d v->ze X.K G' d v:=λ{G G' v} r=>by
   cases d<;>first|exact r|exact absurd fl yz
  cases o with
  |false=>exact λv G' H' x2 r=>q v G1 H' (x1.trans ⟨yK.refl _,x2.h,x1.gh.trans x2.h,λ_ z=>.inl z⟩) (flat r)
  |true=>
   intro p G' H' x2 hp gp o;cases d<;>first|exact o.elim|exact absurd fl yz
 ·rw[zS fl]at hf;cases hf
def X6(K:W.Frag)(r:List V->Hp->VK->Prop)(F:List D->Option D):Prop:=∀G H ds vs d (Q:VK),yK G H->Reps K H ds vs->F ds=some d->(∀w G' H',zV G H G' H'->ze K G' d w->Q w H')->r vs H Q
def Mx(K:W.Frag)(r:List V->Hp->VK->Prop)(F:List D->Option D):Prop:=∀G H ds vs d (Q:VK),yK G H->Reps K G ds vs->F ds=some d->(∀w G' H',zV G H G' H'->ze K G' d w->Q w H')->r vs H Q
theorem wz{rc:List V->Hp->VK->Prop}(hc:wK X (.builtin id) rc)(hF:X6 X.K rc FL)(hg:Gl X x)(hm:X.mg x=none)(hv:bootBuiltins x=some (.builtin id))(ha:X8 X (e::es) fs)(hn:x ≠ "__name__" := by decide)(hdb:(x==("__debug__" : Str))=false:=by decide)
  (he:(e::es).all xS=true:=by rfl):SE X (.Call (.Name x p) (e::es) [] pos) (eL FL fs):=by
 obtain⟨t,pt,kt⟩:=ha.h;refine⟨⟨_,(Tv hc hg hm hv ⟨pt⟩ hn hdb he).h,λE hf q=>?_⟩⟩;obtain⟨ds,hd,hf⟩:=zP hf;exact kt E hd λvs G1 H1 x1 r1=>hF G1 H1 ds vs _ _ x1.gh r1 hf λw G' H' x2 r2=>q w G' H' (x1.trans x2) r2
theorem dQ{rc:List V->Hp->VK->Prop}(hc:wK X (.type T) rc)(hF:Mx X.K rc FL)(hg:Gl X x)(hm:X.mg x=none)(hv:bootBuiltins x=some (.type T))(ha:SA X (e::es) fs)(hn:x ≠ "__name__" := by decide)(hdb:(x==("__debug__" : Str))=false:=by decide)
  (he:(e::es).all xS=true:=by rfl):SE X (.Call (.Name x p) (e::es) [] pos) (eL FL fs):=by
 obtain⟨t,pt,kt⟩:=ha.h;refine⟨⟨_,(Xr hc hg hm hv ⟨pt⟩ hn hdb he).h,λE hf q=>?_⟩⟩;obtain⟨ds,hd,hf⟩:=zP hf;exact kt E hd λvs G1 H1 x1 r1=>hF G1 H1 ds vs _ _ x1.gh r1 hf λw G' H' x2 r2=>q w G' H' (x1.trans x2) r2
theorem uf{op:UnaryOp}{ru:V->Hp->VK->Prop}{F1:D->Option D}(ho:XB X (unaryOp op) ru)(hF:∀(G H:Hp) x u d (Q:VK),ze X.K G x u->F1 x=some d->∃w,(∀G,ze X.K G d w)/\(Q w H->ru u H Q))(ha:SE X a fa):SE X (.UnaryOp op a pos) (e1 F1 fa):=by
 obtain⟨t,pt,kt⟩:=ha.h;refine⟨⟨_,Av ho pt,λE hf q=>?_⟩⟩;obtain⟨x,hx,hf⟩:=zP hf;refine kt E hx λv G1 H1 x1 r1=>?_
 obtain⟨w,rw_,z⟩:=hF G1 H1 x v _ _ r1 hf;exact z (q w _ _ x1 (rw_ _))
end
section
variable{X:Cx}{x:Str}{p pos pos' apos cpos:Pos}{e a b c tg iter elt:Expr}{es ifs:List Expr}{f fa fb:FE}{ft:FT}{fs:FA}{st:Stmt}{sts body:List Stmt}{g g':FS}
theorem xG:uU X [] ym:=⟨⟨_,au,λ{_ _ G H τ σ fl E} K hf q=>by
 cases hf;exact q σ G H K⟩⟩
theorem vJ.with{K:W.Frag}{n:Nat}{G0 H0:Hp}{E E':uO}{fl:Fl}(h:vJ K n G0 H0 E fl)(hn:∀τ,fl=.nx τ->vJ K n G0 H0 E' (.nx τ))(hb:∀τ,fl=.bk τ->vJ K n G0 H0 E' (.bk τ))(hc:∀τ,fl=.ct τ->vJ K n G0 H0 E' (.ct τ))(hr:E'.rt=E.rt):vJ K n G0 H0 E' fl:=by
 cases fl with
 |nx τ=>exact hn τ rfl
 |bk τ=>exact hb τ rfl
 |ct τ=>exact hc τ rfl
 |rt o d=>
  cases o with
  |false=>intro v G H x r; rw[hr]; exact h v G H x r
  |true=>intro v G H x r1 r2 r3; rw[hr]; exact h v G H x r1 r2 r3
theorem zR(h1:SS X st g)(h2:uU X sts g'):uU X (st::sts) (zL g g'):=by
 obtain⟨t,p,k⟩:=h1.h;obtain⟨t',p',k'⟩:=h2.h;refine⟨⟨_,aq p p',λ{G0 H0 G H τ σ fl E} K hf q=>?_⟩⟩;obtain⟨f1,h1,hf⟩:=zP hf;refine k K h1 ?_;cases f1 with
 |nx τ'=>exact λσ' G' H' K'=>k' K' hf q
 |bk τ'=>cases hf; exact q
 |ct τ'=>cases hf; exact q
 |rt o d=>cases hf; exact vJ.with q (λ_ z=>nomatch z) (λ_ z=>nomatch z) (λ_ z=>nomatch z) rfl
theorem zY(h1:SS X st g):uU X [st] g:=⟨let ⟨t,p,k⟩:=h1.h; ⟨t,av p,k⟩⟩
theorem V4(i:Nat)(h:uU X sts g):uU X sts (zL (g9 i) g):=by
 obtain⟨t,p,k⟩:=h.h;refine⟨⟨t,p,λ{G0 H0 G H τ σ fl E} K hf q=>?_⟩⟩;obtain⟨f1,h1,hf⟩:=zP hf;unfold g9 at h1
 split at h1
 ·rename_i bb d hd;cases h1;obtain⟨G',K',_⟩:=K.freeze hd;exact k K' hf q
 ·cases h1
theorem zp{i:Nat}{x:Str}{pos':Pos}(hN:X.N.Nodup)(hi:X.N[i]?=some x)(hx:qk X.env.scope x)(he:SE X e f)(hs:Xh e=true:=by rfl)(hf:X.fn x=true\/X.env.scope.names.lookup x=some .local:=by first|exact .inl rfl|exact .inr rfl|assumption) :
  SS X (.Assign [.Name x pos'] e pos) (zh i f):=by
 obtain⟨t,p,k⟩:=he.h;refine⟨⟨_,(E3 hN hi hx ⟨p⟩ hs hf).h,λ{G0 H0 G H τ σ fl E} K hf q=>?_⟩⟩;obtain⟨d,hd,hf⟩:=zP hf;cases hf;exact k K hd λv G' H' x r=>q _ _ _ ((K.go x).set (xE.mp hi).1 r)
theorem qb{i:Nat}{x:Str}{pos':Pos}(hN:X.N.Nodup)(hi:X.N[i]?=some x)(hx:qk X.env.scope x)(he:SF X e f)(hs:Xh e=true:=by rfl)(hf:X.fn x=true\/X.env.scope.names.lookup x=some .local:=by first|exact .inl rfl|exact .inr rfl|assumption) :
  SS X (.Assign [.Name x pos'] e pos) (uE i f):=by
 obtain⟨t,p,k⟩:=he.h;refine⟨⟨_,(E3 hN hi hx ⟨p⟩ hs hf).h,λ{G0 H0 G H τ σ fl E} K hf q=>?_⟩⟩;obtain⟨d,hd,hf⟩:=zP hf;cases hf;refine k K hd λp G' H' x hp gp o=>q _ _ _ ((K.go x).Ms (xE.mp hi).1 gp (K.ext.h.free hp) o ?_)
 exact K.Mp hp
theorem yE(he:SE X e f):SS X (.Return (some e) pos) (yD f):=by
 obtain⟨t,p,k⟩:=he.h;refine⟨⟨_,Oy p,λ{G0 H0 G H τ σ fl E} K hf q=>?_⟩⟩;obtain⟨d,hd,hf⟩:=zP hf;cases hf;exact k K hd λv G' H' x r=>q v _ _ (K.ext.trans x) r
theorem pB(he:SF X e f):SS X (.Return (some e) pos) (qC f):=by
 obtain⟨t,p,k⟩:=he.h;refine⟨⟨_,Oy p,λ{G0 H0 G H τ σ fl E} K hf q=>?_⟩⟩;obtain⟨d,hd,hf⟩:=zP hf;cases hf;exact k K hd λp G' H' x hp gp o=>q p _ _ (K.ext.trans x) (K.ext.h.free hp) gp o
theorem kz(i:Nat){x:Str}{pos':Pos}(hN:X.N[i]?=some x:=by rfl)(hv:ut X.env.scope x:=by first|exact Or.inl rfl|exact Or.inr (Or.inl rfl)|exact Or.inr (Or.inr rfl))(hd:(x==("__debug__" : Str))=false:=by decide)
  (hcd:(x==("__classdict__" : Str))=false:=by decide):SS X (.Return (some (.Name x pos')) pos) (p9 i):=by
 refine⟨⟨_,Oy (kU hN hv hd hcd),λ{G0 H0 G H τ σ fl E} K hf q=>?_⟩⟩;unfold p9 at hf
 split at hf
 ·rename_i d he;cases hf;obtain⟨p,e,g,z,o⟩:=K.ow _ _ he;exact⟨_,e,q p _ _ K.ext z g o⟩
 ·cases hf
theorem yx{sa sb:List Stmt}(hc:ST X c ft)(ha:uU X sa g)(hb:uU X sb g'):SS X (.If c sa sb pos) (yO ft g g'):=by
 obtain⟨tc,pc,kc⟩:=hc.h;obtain⟨ta,pa,ka⟩:=ha.h;obtain⟨tb,pb,kb⟩:=hb.h;refine⟨⟨_,aj pc pa pb,λ{G0 H0 G H τ σ fl E} K hf q=>?_⟩⟩;obtain⟨k,hk,hf⟩:=zP hf;refine kc K hk λG1 H1 x1=>?_
 cases k with
 |true=>exact j1 (ka (K.go x1) hf q)
 |false=>exact j0 (kb (K.go x1) hf q)
theorem Ew:uU X sts (λ_=>none):=⟨⟨_,ar,λ_ hf=>by cases hf⟩⟩
theorem LW{ft:FT}(hp:PassesOwn (model X.prog X.w) X.A X.env X.xe)(hc:ST X c ft)(hb:uU X body g):SS X (.While c body [] pos) (YR ft g):=by
 obtain⟨tc,pc,kc⟩:=hc.h;obtain⟨tb,pb,kb⟩:=hb.h;refine⟨⟨_,ao hp pc pb,λ{G0 H0 G H τ σ fl E} K hf q=>?_⟩⟩;refine⟨λm σ H=>∃τ G,zw X.K X.N.length G0 H0 G H τ σ/\vh ft g m τ=some fl,⟨U6,τ,G,K,hf⟩,?_⟩;rintro m σ H ⟨τ,G,K,hf⟩;cases m with
 |zero=>cases hf
 |succ n=>
  obtain⟨k,hk,hf⟩:=zP (show(ft τ).bind _=_ from hf);refine kc K hk λG1 H1 x1=>?_
  cases k with
  |false=>
   cases hf;exact j0 (q _ _ _ (K.go x1))
  |true=>
   obtain⟨f1,h1,hf⟩:=zP (show(g τ).bind _=_ from hf);refine j1 ⟨λσ' H'=>∃τ G,zw X.K X.N.length G0 H0 G H' τ σ'/\vh ft g n τ=some fl,λσ' H' z=>⟨n,ZE n,z⟩,kb (K.go x1) h1 ?_⟩;cases f1 with
   |nx τ2=>exact λσ2 G2 H2 K2=>⟨τ2,G2,K2,hf⟩
   |ct τ2=>exact λσ2 G2 H2 K2=>⟨τ2,G2,K2,hf⟩
   |bk τ2=>cases hf; exact q
   |rt o d=>cases hf; exact vJ.with q (λ_ z=>nomatch z) (λ_ z=>nomatch z) (λ_ z=>nomatch z) rfl
theorem vJ.near{K:W.Frag}{n:Nat}{G0 H0 Ga Ha:Hp}{E:uO}{fl:Fl}(x:zV G0 H0 Ga Ha)(h:vJ K n G0 H0 E fl):vJ K n Ga H0 E fl:=by
 cases fl with
 |nx τ=>exact λσ G H z=>h σ G H (zw.near x z)
 |bk τ=>exact λσ G H z=>h σ G H (zw.near x z)
 |ct τ=>exact λσ G H z=>h σ G H (zw.near x z)
 |rt o d=>
  cases o with
  |false=>exact λv G H y r=>h v G H (x.rebase y) r
  |true=>exact λp G H y r1 r2 r3=>h p G H (x.rebase y) r1 r2 r3
structure SG(X:Cx)(tg:Expr)(fg:FG):Prop where
 h:∃t,PG X tg t/\∀{G0 H0 G H:Hp}{τ τ':yB}{σ:St}{d:D}{v:V}{Q:St->Hp->Prop},zw X.K X.N.length G0 H0 G H τ σ->ze X.K G d v->fg d τ=some τ'->(∀σ',zw X.K X.N.length G0 H0 G H τ' σ'->Q σ' H)->t v σ H Q
theorem gB{i:Nat}{x:Str}(h:QG X (.Name x pos) (ux i))(hi:X.N[i]?=some x):SG X (.Name x pos) (zo i):=⟨⟨_,h.h,λK r hf q=>by
 cases hf;exact q _ (K.set (xE.mp hi).1 r)⟩⟩
theorem YZ{i j:Nat}{x y:Str}{p1 p2:Pos}{kk:Nat}(h:QG X (.Tuple [.Name x p1,.Name y p2] kk pos) (XR X.K 2 (jj (ux i) (jj (ux j) XQ))))(hi:X.N[i]?=some x)(hj:X.N[j]?=some y):SG X (.Tuple [.Name x p1,.Name y p2] kk pos) (v8 i j):=⟨⟨_,h.h,λ{G0 H0 G H τ τ' σ d v Q} K r hf q=>by
 unfold v8 at hf
 split at hf
 ·rename_i d1 d2;cases hf;obtain⟨a,vs,rfl,sq,⟨v1,r1,rfl,h1,⟨v2,r2,rfl,h2,h3⟩⟩,_⟩:=r;cases(show r2=[]from h3);refine⟨a,_,rfl,vT K.ext.gh sq,rfl,v1,_,rfl,v2,_,rfl,rfl,?_⟩;exact q _ ((K.set (xE.mp hi).1 h1).set (xE.mp hj).1 h2)
 ·cases hf⟩⟩
theorem qZ{fg:FG}(hp:PassesOwn (model X.prog X.w) X.A X.env X.xe)(hc:X.calm=true)(hi:SI X tg iter fs)(hg:SG X tg fg)(hb:uU X body g)(hs:∀x,foldedSetIterable iter X.env x=pure x:=by intro _; rfl):SS X (.For tg iter body [] pos) (vf fs fg g):=by
 obtain⟨ti,pi,ki⟩:=hi.h;obtain⟨tg',pg,kg⟩:=hg.h;obtain⟨tb,pb,kb⟩:=hb.h;refine⟨⟨_,Cq hp hc pi pg pb hs,λ{G0 H0 G H τ σ fl E} K hf q=>?_⟩⟩;obtain⟨ds,hd,hf⟩:=zP hf;refine ki K hd λJ Ga Ha xa _ wk=>?_
 have Ka:=K.go xa;have q':=vJ.near Ka.ext q;refine⟨λi m σ H=>m=ds.length-i/\i<=ds.length/\∃τ G,zw X.K X.N.length Ga H0 G H τ σ/\p6 fg g (ds.drop i) τ=some fl,⟨ds.length,rfl,uK _,τ,Ga,Ka.zB,hf⟩,?_⟩;rintro i m σ H ⟨rfl,hle,τ,G,K,hf⟩;by_cases hlt:i<ds.length
 ·refine .inr ⟨wk.go i G H K.ext.g K.ext.gh hlt,λσ' H'=>∃τ G,zw X.K X.N.length Ga H0 G H' τ σ'/\p6 fg g (ds.drop (i+1)) τ=some fl,λσ' H' z=>⟨ds.length-(i+1),by omega,rfl,hlt,z⟩,λx H' y=>?_⟩;obtain⟨G3,d,x3,ed,rd⟩:=wk.vC i G H x H' K.ext.g K.ext.gh hlt y;rw[MC hlt]at hf;rw[yS hlt]at ed;cases ed;obtain⟨τ1,h1,hf⟩:=zP (show(fg _ τ).bind _=_ from hf);obtain⟨f1,h2,hf⟩:=zP hf;refine kg (K.go x3) rd h1 λσ1 K1=>kb K1 h2 ?_
  cases f1 with
  |nx τ2=>exact λσ2 G2 H2 K2=>⟨τ2,G2,K2,hf⟩
  |ct τ2=>exact λσ2 G2 H2 K2=>⟨τ2,G2,K2,hf⟩
  |bk τ2=>cases hf; exact q'
  |rt o d=>cases hf; exact vJ.with q' (λ_ z=>nomatch z) (λ_ z=>nomatch z) (λ_ z=>nomatch z) rfl
 ·have e:ds.drop i=[]:=MD (by omega);rw[e]at hf;cases hf;exact .inl ⟨wk.stop i G H K.ext.g K.ext.gh (by omega),q' _ _ _ K⟩
theorem PQ{K:W.Frag}{G:Hp}{lo:Int}{n:Nat}:uu K (U7 lo n) G ((List.range n).map λk:Nat=>D.int (lo+k)) where
 go:=λi G2 H _ _ hi=>by
  show i<n;simpa using hi
 vC:=λi G2 H x H' _ g2 hi y=>by
  obtain⟨rfl,rfl⟩:=y;exact⟨G2,.int (lo+i),zV.refl g2,by simp at hi; simp[hi],rfl⟩
 stop:=λi G2 H _ _ hi=>by
  show n<=i;simpa using hi
theorem gC(hg:Gl X "range")(hm:X.mg "range" = none)(ha:SE X a fa)(hs:xS a=true:=by rfl):SI X tg (.Call (.Name "range" p) [a] [] pos) (qR (eC (.int 0)) fa):=by
 obtain⟨t,pt,k⟩:=(zD ha zM hs).h;refine⟨⟨_,aG hg hm pt (t9 hs),λ{G0 H0 G H τ σ ds R} K hf q=>?_⟩⟩;obtain⟨x,hx,hf⟩:=zP hf;cases hx;obtain⟨y,hy,hf⟩:=zP hf;refine k K (ds:=[y]) (by unfold zA; rw[hy]; rfl) λvs G1 H1 x1 r1=>?_
 cases y<;>first|cases hf|skip
 rename_i j;obtain⟨v,r,rfl,hv,hr⟩:=r1;cases(show r=[]from hr);cases(show v=.int j from hv)
 change (if(0:Int).natAbs<=yn/\j.natAbs<=yn/\(j-0).toNat<=yn then _ else _)=_ at hf
 by_cases c:(0:Int).natAbs<=yn/\j.natAbs<=yn/\(j-0).toNat<=yn
 ·rw[zN c]at hf;cases hf;have c2:j.natAbs<=16777216:=c.2.1;have c3:(j-0).toNat<=16777216:=c.2.2;refine⟨j,rfl,by omega,by omega,q _ _ _ x1 ?_ ?_⟩
  ·rw[zx,vx,wn]; omega
  ·have e:(j-0).toNat=j.toNat:=by omega
   rw[e];exact PQ
 ·rw[zS c]at hf;cases hf
theorem RL{K:W.Frag}{G:Hp}{a:Addr}{vs:List V}{ds:List D}(sq:yL K G a vs)(r:Reps K G ds vs):uu K (JO K a) G ds where
 go:=λi G2 H g1 g2 hi=>by
  obtain⟨v,e,_⟩:=r.get (yS hi);exact⟨vs,v,wZ (g1.trans g2) sq,e⟩
 vC:=λi G2 H x H' g1 g2 hi y=>by
  obtain⟨rfl,y⟩:=y;have e:=y vs (wZ (g1.trans g2) sq);obtain⟨d,ed,rd⟩:=r.at e;exact⟨G2,d,zV.refl g2,ed,rd.mono g1⟩
 stop:=λi G2 H g1 g2 hi=>⟨vs,wZ (g1.trans g2) sq,by rw[r.length]; exact hi⟩
theorem lv{K:W.Frag}{G:Hp}{a:Addr}{vs:List V}{ds:List D}(sq:yu K G a vs)(r:Reps K G ds vs):uu K (JQ K a) G ds where
 go:=λi G2 H g1 g2 hi=>by
  obtain⟨v,e,_⟩:=r.get (yS hi);exact⟨vs,v,vT (g1.trans g2) sq,e⟩
 vC:=λi G2 H x H' g1 g2 hi y=>by
  obtain⟨rfl,y⟩:=y;have e:=y vs (vT (g1.trans g2) sq);obtain⟨d,ed,rd⟩:=r.at e;exact⟨G2,d,zV.refl g2,ed,rd.mono g1⟩
 stop:=λi G2 H g1 g2 hi=>⟨vs,vT (g1.trans g2) sq,by rw[r.length]; exact hi⟩
theorem fS{K:W.Frag}{G:Hp}{z:Str}:uu K (U8 z) G (z.cps.toList.map λc=>D.str ⟨#[c]⟩) where
 go:=λi G2 H _ _ hi=>by
  rw[zx,wj]at hi;exact hi
 vC:=λi G2 H x H' _ g2 hi y=>by
  obtain⟨rfl,c,ec,rfl⟩:=y;refine⟨G2,.str ⟨#[c]⟩,zV.refl g2,?_,rfl,small (n:=1) (by decide)⟩;rw[xM,VC,ec];rfl
 stop:=λi G2 H _ _ hi=>by
  rw[zx,wj]at hi;exact hi
theorem PI.or{w1 w2:TI}(h1:PI X tg e w1)(h2:PI X tg e w2):PI X tg e (λσ H R=>w1 σ H R\/w2 σ H R):=λz6 s σ H R I q=>by
 rcases q with q|q
 ·exact h1 z6 s σ H R I q
 ·exact h2 z6 s σ H R I q
theorem ug(h:SE X e f):SI X tg e (vo f):=by
 obtain⟨t,p,k⟩:=h.h;refine⟨⟨_,PI.or (aF p) (PI.or (aI p) (aH p)),λ{G0 H0 G H τ σ ds R} K hf q=>?_⟩⟩;obtain⟨d,hd,hf⟩:=zP hf;cases d<;>first|cases hf|skip
 ·rename_i z;refine .inr (.inr (k K hd λv G' H' x r=>?_));obtain⟨rfl,l⟩:=r;exact⟨z,rfl,q _ _ _ x (by rw[zx,wj]; exact l) fS⟩
 ·refine .inr (.inl (k K hd λv G' H' x r=>?_));obtain⟨a,vs,rfl,sq,rs,l⟩:=r;exact⟨a,rfl,⟨vs,vT x.gh sq⟩,q _ _ _ x l (lv sq rs)⟩
 ·refine .inl (k K hd λv G' H' x r=>?_);obtain⟨a,vs,rfl,sq,rs,l⟩:=r;exact⟨a,rfl,⟨vs,wZ x.gh sq⟩,q _ _ _ x l (RL sq rs)⟩
end
def Lc(K:W.Frag)(n:Nat)(f:FE):TE:=λσ H Q=>∃G0 H0 G τ d,zw K n G0 H0 G H τ σ/\f τ=some d/\∀v G' H',zV G H G' H'->ze K G' d v->Q v H'
def QK(K:W.Frag)(n:Nat)(f:FT):TT:=λσ H Q=>∃G0 H0 G τ d,zw K n G0 H0 G H τ σ/\f τ=some d/\∀G' H',zV G H G' H'->Q d H'
structure ja(X:Cx)(es:List Expr)(f:FT):Prop where
 h:gl X es (QK X.K X.N.length f)
section
variable{X:Cx}{e c:Expr}{f:FE}{ft:FT}
theorem SE.pe(h:SE X e f):PE X e (Lc X.K X.N.length f):=λz6 s σ H Q I q=>by
 obtain⟨t,p,k⟩:=h.h;obtain⟨G0,H0,G,τ,d,K,hf,z⟩:=q;exact p z6 s σ H Q I (k K hf z)
theorem ST.pt(h:ST X e ft):PT X e (QK X.K X.N.length ft):=λz6 s σ H Q I q=>by
 obtain⟨t,p,k⟩:=h.h;obtain⟨G0,H0,G,τ,d,K,hf,z⟩:=q;exact p z6 s σ H Q I (k K hf z)
theorem tD:ja X [] xB:=⟨λz6 s σ H Q I q=>by
 obtain⟨G0,H0,G,τ,d,K,hf,z⟩:=q;cases hf;exact b7 z6 s σ H Q I (z _ _ (zV.refl K.ext.gh))⟩
theorem j8(h:ST X c ft):ja X [c] ft:=⟨b8 h.pt⟩
end
theorem zw.more{K:W.Frag}{n:Nat}{G0 H0 G H:Hp}{τ:yB}{σ:St}(k:Nat)(E:zw K n G0 H0 G H τ σ):zw K (n+k) G0 H0 G H (τ++List.replicate k none) (σ++List.replicate k none):=by
 have at_:∀{i:Nat}{s:Sl},(τ++List.replicate k none)[i]?=some (some s)->τ[i]?=some (some s)/\(σ++List.replicate k none)[i]?=σ[i]?:=λ{i s} h=>by
  have h':=T7 h;have hi:i<n:=E.lt h';exact⟨h',Z9 (by rw[E.l1]; exact hi)⟩
 refine⟨E.ext,by rw[yj,gM,E.l1],by rw[yj,gM,E.l2],λi d h=>?_,λi d h=>?_,λi j d e p hne h1 h2 h3 h4=>?_⟩
 ·obtain⟨h',e⟩:=at_ h;rw[e];exact E.fr i d h'
 ·obtain⟨h',e⟩:=at_ h;rw[e];exact E.ow i d h'
 ·obtain⟨h1',e1⟩:=at_ h1;obtain⟨h2',e2⟩:=at_ h2;rw[e1]at h3;rw[e2]at h4;exact E.ap i j d e p hne h1' h2' h3 h4
theorem Xf{K:PySem.W.Frag}{n k:Nat}{G0 H0 Ga Ha:Hp}{τ:yB}{σ:St}{J:It}{ds out:List D}{g:TG}{fg:FG}{ft:FT}{f:FE}{Fin:List V->Hp->Prop}(wk:uu K J Ga ds)(hl:ds.length<=sizeLine)(Ka:zw K n G0 H0 Ga Ha τ σ)
  (hf:xI fg ft f (τ++List.replicate k none) ds=some out)
  (kg:∀G H d v τ' (Q:St->Hp->Prop),zw K (n+k) G0 H0 G H (τ++List.replicate k none) (σ++List.replicate k none)->ze K G d v->fg d (τ++List.replicate k none)=some τ'->(∀ρ,zw K (n+k) G0 H0 G H τ' (σ++ρ)->Q (σ++ρ) H)->g v (σ++List.replicate k none) H Q)
  (fin:∀ys G H,zV Ga Ha G H->Reps K G out ys->out.length<=sizeLine->Fin ys H) :
  ∃W:Nat->Nat->List V->Hp->Prop,(∃m,W 0 m [] Ha)/\Th σ k J g (QK K (n+k) ft) (Lc K (n+k) f) W Fin:=by
 refine⟨λi m ys H=>m=ds.length-i/\i<=ds.length/\ys.length<=i/\∃G done rest,zV Ga Ha G H/\Reps K G done ys/\xI fg ft f (τ++List.replicate k none) (ds.drop i)=some rest/\done++rest=out,⟨ds.length,rfl,uK _,zr _,Ga,[],out,zV.refl Ka.ext.gh,rfl,hf,rfl⟩,?_⟩;rintro i m ys H ⟨rfl,hle,hys,G,done,rest,x,rd,hf,eo⟩;by_cases hlt:i<ds.length
 ·refine .inr ⟨wk.go i G H x.g x.gh hlt,by omega,λys H=>ys.length<=i+1/\∃G done rest,zV Ga Ha G H/\Reps K G done ys/\xI fg ft f (τ++List.replicate k none) (ds.drop (i+1))=some rest/\done++rest=out,λys' H' z=>⟨ds.length-(i+1),by omega,rfl,hlt,z.1,z.2⟩,λv H' y=>?_⟩;obtain⟨G3,d,x3,ed,rv⟩:=wk.vC i G H v H' x.g x.gh hlt y;rw[MC hlt]at hf;rw[yS hlt]at ed;cases ed;obtain⟨τ1,h1,hf⟩:=zP (show(fg _ _).bind _=_ from hf);obtain⟨kk,h2,hf⟩:=zP hf;have K3:=((Ka.go x).go x3).more k;refine kg G3 H' _ v τ1 _ K3 rv h1 λρ K4=>⟨⟨ρ,rfl⟩,_,_,_,_,kk,K4,h2,λG5 H5 x5=>?_⟩
  cases kk with
  |false=>exact j0 ⟨by omega,G5,done,rest,x.trans (x3.trans x5),rd.mono (x3.g.trans x5.g),hf,eo⟩
  |true=>
   obtain⟨z,hz,hf⟩:=zP (show(f _).bind _=_ from hf);obtain⟨more,hm,hf⟩:=zP hf;cases hf;refine j1 ⟨_,_,_,_,z,K4.go x5,hz,λu G6 H6 x6 r6=>⟨by rw[yj]; exact Nat.succ_le_succ hys,G6,done++[z],more,x.trans (x3.trans (x5.trans x6)),(rd.mono (x3.g.trans (x5.g.trans x6.g))).append (Reps.one r6),hm,?_⟩⟩;rw[gK];exact eo
 ·have e:ds.drop i=[]:=MD (by omega);rw[e]at hf;cases hf;rw[ui]at eo;subst eo;refine .inl ⟨wk.stop i G H x.g x.gh (by omega),fin ys G H x rd ?_⟩;rw[<-rd.length];omega
section
variable{X:Cx}{tg iter elt:Expr}{ifs:List Expr}{scope:Scope}{cl:List (Str×Addr)}{own:List Str}{pos:Pos}{fs:FA}{fg:FG}{ft:FT}{f:FE}{g:TG}
theorem LP{α:Type}(xs:List α)(y:α)(ys:List α){n:Nat}(h:n=xs.length)(z:α):(xs++y::ys).set n z=xs++z::ys:=by
 subst h;rw[List.set_append_right _ _ (zr _),Nat.sub_self];rfl
structure BG(X:Cx)(scope:Scope)(cl:List (Str×Addr))(own:List Str)(tg:Expr)(g:TG)(fg:FG):Prop where
 q:∀C s H fp pn,QG (xf X scope cl own C s H fp pn) tg g
 k:∀{G0 H0:Hp}{τ:yB}{σ:St},τ.length=X.N.length->σ.length=X.N.length->∀G H d v τ' (Q:St->Hp->Prop),zw X.K (X.N.length+own.length) G0 H0 G H (τ++List.replicate own.length none) (σ++List.replicate own.length none)->ze X.K G d v->fg d (τ++List.replicate own.length none)=some τ'->
  (∀ρ,zw X.K (X.N.length+own.length) G0 H0 G H τ' (σ++ρ)->Q (σ++ρ) H)->g v (σ++List.replicate own.length none) H Q
theorem v7{x:Str}{i:Nat}(q:∀C s H fp pn,QG (xf X scope cl [x] C s H fp pn) tg (ux i))(hi:i=X.N.length):BG X scope cl [x] tg (ux i) (zo i):=⟨q,λ{G0 H0 τ σ} l1 l2 G H d v τ' Q E r hf k=>by
 cases hf;have E':=E.set (i:=i) (v:=v) (by rw[hi]; exact ZE _) r;have es:(σ++List.replicate 1 none).set i (some v)=σ++[some v]:=LP σ none [] (hi.trans l2.symm) (some v);show Q ((σ++List.replicate 1 none).set i (some v)) H;rw[es];refine k [some v] ?_;rw[<-es];exact E'⟩
theorem BH{x y:Str}{i j:Nat}(q:∀C s H fp pn,QG (xf X scope cl [x,y] C s H fp pn) tg (XR X.K 2 (jj (ux i) (jj (ux j) XQ))))(hi:i=X.N.length)(hj:j=X.N.length+1):BG X scope cl [x,y] tg (XR X.K 2 (jj (ux i) (jj (ux j) XQ))) (v8 i j):=⟨q,λ{G0 H0 τ σ} l1 l2 G H d v τ' Q E r hf k=>by
 unfold v8 at hf
 split at hf
 ·rename_i d1 d2;cases hf;obtain⟨a,vs,rfl,sq,⟨v1,r1,rfl,h1,⟨v2,r2,rfl,h2,h3⟩⟩,_⟩:=r;cases(show r2=[]from h3);have E':=(E.set (i:=i) (v:=v1) (by rw[hi]; exact Nat.lt_add_of_pos_right (Nat.succ_pos _)) h1).set (i:=j) (v:=v2) (by rw[hj]; exact ZE _) h2
  have es:((σ++List.replicate 2 none).set i (some v1)).set j (some v2)=σ++[some v1,some v2]:=by
   have e1:(σ++List.replicate 2 none).set i (some v1)=σ++[some v1,none]:=LP σ none [none] (hi.trans l2.symm) (some v1);rw[e1];have e2:σ++[some v1,none]=(σ++[some v1])++[none]:=by simp
   rw[e2,LP (σ++[some v1]) none [] (by rw[yj,hj,l2]; rfl) (some v2)];simp
  refine⟨a,_,rfl,vT E.ext.gh sq,rfl,v1,_,rfl,v2,_,rfl,rfl,?_⟩;show Q (((σ++List.replicate 2 none).set i (some v1)).set j (some v2)) H;rw[es];refine k [some v1,some v2] ?_;rw[<-es];exact E'
 ·cases hf⟩
theorem BN(X:Cx)(own:List Str):(xy X.N own).length=X.N.length+own.length:=by
 unfold xy;rw[yj,zx]
theorem XH{C:Addr}{s:Shared}{H:Hp}{fp:List Addr}{pn:List (Addr×Obj)}(h:SE (xf X scope cl own C s H fp pn) elt f):PE (xf X scope cl own C s H fp pn) elt (Lc X.K (X.N.length+own.length) f):=by
 have q:=h.pe;rw[show(xf X scope cl own C s H fp pn).N.length=X.N.length+own.length from BN X own]at q;exact q
theorem XI{C:Addr}{s:Shared}{H:Hp}{fp:List Addr}{pn:List (Addr×Obj)}(h:ja (xf X scope cl own C s H fp pn) ifs ft):gl (xf X scope cl own C s H fp pn) ifs (QK X.K (X.N.length+own.length) ft):=by
 have q:=h.h;rw[show(xf X scope cl own C s H fp pn).N.length=X.N.length+own.length from BN X own]at q;exact q
theorem vt(hcalm:X.calm=true)(B:pM X scope cl own)(hi:SI X tg iter fs)(hg:BG X scope cl own tg g fg)(hc:∀C s H fp pn,ja (xf X scope cl own C s H fp pn) ifs ft)
  (he:∀C s H fp pn,SE (xf X scope cl own C s H fp pn) elt f)(hs:∀x,foldedSetIterable iter X.env x=pure x:=by intro _; rfl) :
  SF X (.ListComp elt [⟨tg,iter,ifs,0⟩] scope pos) (xm own.length fs fg ft f):=by
 obtain⟨ti,pi,ki⟩:=hi.h;refine⟨⟨_,Cc hcalm B pi (λC s H fp pn=>(hg.q C s H fp pn).h) (λC s H fp pn=>XI (hc C s H fp pn)) (λC s H fp pn=>XH (he C s H fp pn)) hs,λ{G0 H0 G H τ σ d Q} K hf q=>?_⟩⟩;obtain⟨ds,hd,hf⟩:=zP hf;obtain⟨out,ho,hf⟩:=zP hf;cases hf;refine ki K hd λJ Ga Ha xa l wk=>Xf wk l (K.go xa) ho (hg.k K.l2 K.l1) λys G1 H1 x1 r1 l1 p hp=>?_
 exact q p _ _ (xa.trans (x1.trans (zV.uM x1.gh hp))) (xa.h.free (x1.h.free hp)) (x1.gh.free hp) ⟨ys,yW,r1,l1⟩
theorem fP{i:Nat}{x:Str}{px spos:Pos}(hcalm:X.calm=true)(hN:X.N.Nodup)(hix:X.N[i]?=some x)(hx:X.env.scope.names.lookup x=some .local)(B:pM X scope cl own)
  (hsw:swapsWith (.ListComp elt [⟨tg,iter,ifs,0⟩] scope pos) (some (.Name x px)) spos.line X.env=pure true)(hi:SI X tg iter fs)(hg:BG X scope cl own tg g fg)(hc:∀C s H fp pn,ja (xf X scope cl own C s H fp pn) ifs ft)
  (he:∀C s H fp pn,SE (xf X scope cl own C s H fp pn) elt f)(hs:∀x,foldedSetIterable iter X.env x=pure x:=by intro _; rfl) :
  SS X (.Assign [.Name x px] (.ListComp elt [⟨tg,iter,ifs,0⟩] scope pos) spos) (uE i (xm own.length fs fg ft f)):=by
 obtain⟨ti,pi,ki⟩:=hi.h;refine⟨⟨_,Oz hcalm hN hix hx B hsw pi (λC s H fp pn=>(hg.q C s H fp pn).h) (λC s H fp pn=>XI (hc C s H fp pn)) (λC s H fp pn=>XH (he C s H fp pn)) hs,λ{G0 H0 G H τ σ fl E} K hf q=>?_⟩⟩;obtain⟨d,hf1,hf⟩:=zP hf;cases hf;obtain⟨ds,hd,hf1⟩:=zP hf1;obtain⟨out,ho,hf1⟩:=zP hf1;cases hf1;refine ki K hd λJ Ga Ha xa l wk=>Xf wk l (K.go xa) ho (hg.k K.l2 K.l1) λys G1 H1 x1 r1 l1 p hp=>?_
 have K1:=(K.go xa).go x1;have K2:=K1.go (zV.uM (o:=.lst ys) x1.gh hp);exact q _ _ _ (K2.Ms (xE.mp hix).1 (x1.gh.free hp) (K1.ext.h.free hp) ⟨ys,yW,r1,l1⟩ (K1.Mp hp))
theorem Eu{i:Nat}{x:Str}{px spos:Pos}(hcalm:X.calm=true)(hN:X.N.Nodup)(hix:X.N[i]?=some x)(hx:X.env.scope.names.lookup x=some .local)(B:pM X scope cl own)
  (hsw:swapsWith (.ListComp elt [⟨tg,iter,ifs,0⟩] scope pos) (some (.Name x px)) spos.line X.env=pure true)(hi:SI X tg iter fs)(hg:BG X scope cl own tg g fg)(hc:∀C s H fp pn,ja (xf X scope cl own C s H fp pn) ifs ft)
  (he:∀C s H fp pn,SE (xf X scope cl own C s H fp pn) elt f)(hs:∀x,foldedSetIterable iter X.env x=pure x:=by intro _; rfl) :
  SS X (.Assign [.Name x px] (.ListComp elt [⟨tg,iter,ifs,0⟩] scope pos) spos) (zh i (xm own.length fs fg ft f)):=by
 obtain⟨ti,pi,ki⟩:=hi.h;refine⟨⟨_,Oz hcalm hN hix hx B hsw pi (λC s H fp pn=>(hg.q C s H fp pn).h) (λC s H fp pn=>XI (hc C s H fp pn)) (λC s H fp pn=>XH (he C s H fp pn)) hs,λ{G0 H0 G H τ σ fl E} K hf q=>?_⟩⟩;obtain⟨d,hf1,hf⟩:=zP hf;cases hf;obtain⟨ds,hd,hf1⟩:=zP hf1;obtain⟨out,ho,hf1⟩:=zP hf1;cases hf1;refine ki K hd λJ Ga Ha xa l wk=>Xf wk l (K.go xa) ho (hg.k K.l2 K.l1) λys G1 H1 x1 r1 l1 p hp=>?_
 have K2:=((K.go xa).go x1).go (zV.lay (o:=.lst ys) x1.gh hp);exact q _ _ _ (K2.set (xE.mp hix).1 ⟨p,ys,rfl,yL.of yW,r1.mono (wY (x1.gh.free hp) _),l1⟩)
end
section
variable{K:W.Frag}{n:Nat}{G0 H0 G H:Hp}{τ:yB}{σ:St}
theorem zw.JD{i:Nat}{d d':D}{p:Addr}{o:HO}(E:zw K n G0 H0 G H τ σ)(hi:τ[i]?=some (some (true,d)))(hp:σ[i]?=some (some (.ref p)))(new:v4 K G (zX H p o) d' p):zw K n G0 H0 G (zX H p o) (τ.set i (some (true,d'))) σ:=by
 obtain⟨p',e,g,z,_⟩:=E.ow i d hi;rw[hp]at e;cases e
 have keep:∀{H1:Hp},H1 p=none->yK H1 H->yK H1 (zX H p o):=λ{H1} h s b u q=>by
  rw[zm (uB q h)];exact s _ _ q
 refine⟨⟨E.ext.g,keep z E.ext.h,keep g E.ext.gh,E.ext.new⟩,E.l1,by rw[Yq]; exact E.l2,λj e h=>?_,λj e h=>?_,λj k e f q hne h1 h2 h3 h4=>?_⟩
 ·rcases vq h with⟨rfl,w⟩|⟨ne,w⟩
  ·cases w
  ·exact E.fr j e w
 ·rcases vq h with⟨rfl,w⟩|⟨ne,w⟩
  ·cases w;exact⟨p,hp,g,z,new⟩
  ·obtain⟨q,eq,gq,zq,oq⟩:=E.ow j e w;refine⟨q,eq,gq,zq,?_⟩
   have hne:q≠p:=λc=>by
    subst c;exact E.ap i j d e q (λc=>ne c.symm) hi w hp eq
   cases e with
   |lst ds=>obtain⟨vs,ev,r⟩:=oq; exact⟨vs,by rw[zm hne]; exact ev,r⟩
   |dic ks ds=>obtain⟨vs,ev,r⟩:=oq; exact⟨vs,by rw[zm hne]; exact ev,r⟩
   |_=>exact oq.elim
 ·have t:∀{j:Nat}{e:D},(τ.set i (some (true,d')))[j]?=some (some (true,e))->∃e,τ[j]?=some (some (true,e)):=λ{j e} h=>by
   rcases vq h with⟨rfl,_⟩|⟨_,w⟩
   ·exact⟨_,hi⟩
   ·exact⟨_,w⟩
  obtain⟨e1,w1⟩:=t h1;obtain⟨e2,w2⟩:=t h2;exact E.ap j k e1 e2 q hne w1 w2 h3 h4
end
section
variable{X:Cx}{x:Str}{xp pos apos cpos:Pos}{e:Expr}{f:FE}
theorem vv{i:Nat}(ho:QE X (.Name x xp) (Z2 i))(he:SE X e f)(hbase:attributeBase (.Name x xp) "append" X.env (eval (.Name x xp) X.env)=eval (.Name x xp) X.env:=by rfl)(hline:(apos.endLine==cpos.line)=true:=by rfl)(hs:xS e=true:=by rfl) :
  SS X (.Expr (.Call (.Attribute (.Name x xp) "append" apos) [e] [] cpos) pos) (xt i xh f):=by
 obtain⟨t,p,k⟩:=(zD he zM hs).h;refine⟨⟨_,(E2 (Xq PySem.F.plainAttrs_list PySem.F.slot_list_append PySem.F.type_list_append RQ ho ⟨p⟩ hbase hline (by rw[wl,hs]; rfl) (by show 1<30; decide)) rfl).h,λ{G0 H0 G H τ σ fl E} K hf q=>?_⟩⟩;unfold xt at hf
 split at hf
 ·rename_i d hd;obtain⟨y,hy,hf⟩:=zP hf;obtain⟨d',hd',hf⟩:=zP hf;cases hf;obtain⟨a,ea,g,z,o⟩:=K.ow _ _ hd;cases d with
  |lst ds=>
   obtain⟨vs,ev,rs,l⟩:=o;refine⟨_,ea,.inl ⟨rfl,vs,yL.of ev⟩,k K (ds:=[y]) (by unfold zA; rw[hy]; rfl) λus G1 H1 x1 r1=>?_⟩;obtain⟨u,r,rfl,hu,hr⟩:=r1;cases(show r=[]from hr)
   change (if ds.length<yn then some (D.lst (ds++[y]))else none)=some d' at hd'
   by_cases c:ds.length<yn
   ·rw[zN c]at hd';cases hd';refine⟨a,vs,u,rfl,rfl,x1.h _ _ ev,by rw[rs.length,wn]; exact c,?_⟩;refine q _ _ _ ((K.go x1).JD hd ea ⟨vs++[u],yW,(rs.mono x1.g).append (Reps.one hu),?_⟩);rw[yj,wn];exact c
   ·rw[zS c]at hd';cases hd'
  |_=>cases hd'
 ·cases hf
end
section
variable{P:Program}{w:World}{K:W.Frag}{mg:Str->Option Value}{base:Heap}
theorem OX{α β:Type}{ds:List α}{k i:Nat}{h:α->Option β}{y:β}(e:(ds.map h++List.replicate k none)[i]?=some (some y)):∃d,ds[i]?=some d/\h d=some y:=by
 have e':=T7 e;rw[xM]at e';cases q:ds[i]? with
 |none=>rw[q]at e'; cases e'
 |some d=>
  rw[q]at e';exact⟨d,rfl,vV e'⟩
theorem Bs{N:List Str}{G H:Hp}{ds:List D}{vs:List V}(s:yK G H)(r:Reps K G ds vs)(hl:ds.length<=N.length):zw K N.length G H G H (ds.map (λd=>some (false,d))++List.replicate (N.length-ds.length) none) (L2.start N vs):=by
 have l:=r.length;refine⟨zV.refl s,?_,?_,λi d h=>?_,λi d h=>?_,λi j d e p _ h1=>?_⟩
 ·unfold L2.start;rw[yj,zx,gM];omega
 ·rw[yj,zx,gM];omega
 ·obtain⟨d',e,z⟩:=OX h;cases z;obtain⟨v,ev,rv⟩:=r.get e;refine⟨v,?_,rv⟩;unfold L2.start;rw[Z9 (by rw[zx]; exact(xE.mp ev).1),xM,ev];rfl
 ·obtain⟨d',e,z⟩:=OX h;cases z
 ·obtain⟨d',e,z⟩:=OX h1;cases z
theorem zK.yU{x:Str}{st:Stmt}{N ps:List Str}{k:Nat}{F:List D->Option (Bool×D)}{b:FS}(d:zK K mg x st ps)(S:yG N ps (zz st))(hN:ps.length<=N.length)(hF:∀ds r,F ds=some r->ds.length=ps.length/\zc N.length b ds=some r)
  (hb:∀(f:Addr)(cdv:Value)(A:Around)(outer:List Env)(s:Shared)(H:Hp)(E:XK),w8 k (A.deeper (envOfC x (zz st) s.heap.objs.size f cdv))->uU (pV tQ P w K mg base N x (zz st) f cdv A outer s H E).gZ (qq st) b):zT P w K mg base x ps (k+1) (zU K F):=by
 refine d.ok S (λvs H Q E h=>?_) λf cdv A outer s H vs Q E hr h=>?_
 ·obtain⟨G,ds,o,dd,_,r,e,_⟩:=h;rw[r.length,(hF _ _ e).1]
 ·obtain⟨G,ds,o,dd,s',r,e,q⟩:=h;obtain⟨l,hrun⟩:=hF _ _ e;obtain⟨t,p,kt⟩:=(hb f cdv A outer s H E hr).h;obtain⟨fl,hfl,hrun⟩:=zP hrun;refine⟨t,p,kt (Bs (N:=N) s' r (by omega)) hfl ?_⟩;cases fl with
  |nx τ=>
   cases hrun;exact λσ G' H' z=>q .zE G' H' z.ext rfl
  |rt o' d'=>
   cases hrun;cases o with
   |false=>exact q
   |true=>exact q
  |_=>cases hrun
end
section
variable{P:Program}{w:World}{K:W.Frag}{mg:Str->Option Value}{base:Heap}
end
section
variable{X:Cx}{K:W.Frag}
theorem kQ{C:Int->Int->Prop}{Cb:Int->Int->Bool}{g:Int->Int->Int}(h:∀i j,Cb i j=true->C i j):vX K (rI C λi j=>.int (g i j)) (fI Cb g):=λG H x y u v d Q s rx ry hf q=>by
 cases x<;>first|(cases hf; done)|skip
 cases y<;>first|(cases hf; done)|skip
 rename_i i j
 change (match Cb i j with|true=>some (D.int (g i j))|false=>none)=some d at hf
 cases c:Cb i j with
 |false=>rw[c]at hf; cases hf
 |true=>
  rw[c]at hf;cases hf;exact⟨i,j,rx,ry,h i j c,q _ _ _ (zV.refl s) rfl⟩
theorem On{g:Int->Int->Int}:vX K (ud λi j=>.int (g i j)) (tY g):=λG H x y u v d Q s rx ry hf q=>by
 cases x<;>first|(cases hf; done)|skip
 cases y<;>first|(cases hf; done)|skip
 cases hf;exact⟨_,_,rx,ry,q _ _ _ (zV.refl s) rfl⟩
theorem qA:vX K (ud λi j=>.int (i-j)) uX:=λG H x y u v d Q s rx ry hf q=>by
 cases x<;>first|(cases hf; done)|skip
 cases y<;>first|(cases hf; done)|skip
 cases hf;exact⟨_,_,rx,ry,q _ _ _ (zV.refl s) rfl⟩
theorem Do{i:Int}(h:jp i=true) : -(2 ^ 64)<i/\i<2 ^ 64:=by
 unfold jp at h;rw[xP]at h;exact⟨w_ h.1,w_ h.2⟩
theorem Op:vX K (rI X2 λi j=>.int (i*j)) XM:=kQ λ_ _ h=>.inl (Do h)
theorem CQ:vX K (rI X2 λi j=>.int (i*j)) T5:=kQ λ_ _ h=>.inr (Do h)
theorem xJ:vX K (rI (λ_ j=>0<j) λi j=>.int (i%j)) y_:=kQ λ_ _ h=>w_ h
theorem wx:vX K (rI (λ_ j=>0<j/\j<2 ^ 64) λi j=>.int (i/j)) wS:=kQ λ_ _ h=>by
 rw[xP]at h;exact⟨w_ h.1,w_ h.2⟩
theorem Cn{i j:Int}(h:YN i j=true):X3 i j:=by
 unfold YN at h;rw[xP,xP]at h;exact⟨w_ h.1,w_ h.2.1,w_ h.2.2⟩
theorem Sx:vX K (rI X3 λi j=>.int (i ^ j.toNat)) IC:=kQ λ_ _ h=>Cn h
theorem YJ:vX K (rI X3 λi j=>.int (i*2 ^ j.toNat)) jh:=kQ λ_ _ h=>Cn h
theorem A0:vX K (rI (λ_ j=>0<=j) λi j=>.int (i/2 ^ j.toNat)) ID:=kQ λ_ _ h=>w_ h
theorem wP{g:Int->Int->Bool}:qM K (ud λi j=>.bl (g i j)) (xi g):=λH x y u v d Q rx ry hf=>by
 cases x<;>first|(cases hf; done)|skip
 cases y<;>first|(cases hf; done)|skip
 cases hf;exact⟨_,rfl,λq=>⟨_,_,rx,ry,q⟩⟩
theorem DX{H:Hp}{x:D}{u:V}(r:ze K H x u):jl x=decide (u=.zE):=by
 cases x with
 |zE=>cases r; rfl
 |bl b=>cases r; rfl
 |int b=>cases r; rfl
 |str b=>obtain⟨rfl,_⟩:=r; rfl
 |tup b=>obtain⟨a,vs,rfl,_⟩:=r; rfl
 |lst b=>obtain⟨a,vs,rfl,_⟩:=r; rfl
 |dic b c=>obtain⟨a,vs,rfl,_⟩:=r; rfl
 |exc b=>obtain⟨a,C,rfl,_⟩:=r; rfl
 |obj b c e=>obtain⟨a,C,dx,vs,rfl,_⟩:=r; rfl
theorem kR:qM K (λx y H Q=>y=.zE/\Q (.bl (decide (x=.zE))) H) qr:=λH x y u v d Q rx ry hf=>by
 cases y<;>first|(cases hf; done)|skip
 have e:=DX rx;refine⟨jl x,(vV hf).symm,λq=>⟨ry,?_⟩⟩;rw[<-e];exact q
theorem Xi:qM K (λx y H Q=>y=.zE/\Q (.bl (!decide (x=.zE))) H) kB:=λH x y u v d Q rx ry hf=>by
 cases y<;>first|(cases hf; done)|skip
 have e:=DX rx;refine⟨!jl x,(vV hf).symm,λq=>⟨ry,?_⟩⟩;rw[<-e];exact q
theorem tF:∀(G H:Hp) x u d (Q:VK),ze K G x u->va x=some d->∃w,(∀G,ze K G d w)/\(Q w H->rU (λi=>.int (-i)) u H Q):=λG H x u d Q r hf=>by
 cases x<;>first|(cases hf; done)|skip
 cases hf;exact⟨_,λ_=>rfl,λq=>⟨_,r,q⟩⟩
theorem n9:∀(G H:Hp) x u d (Q:VK),ze K G x u->Jz x=some d->∃w,(∀G,ze K G d w)/\(Q w H->rU (λi=>.int (Builtin.bitNot i)) u H Q):=λG H x u d Q r hf=>by
 cases x<;>first|(cases hf; done)|skip
 cases hf;exact⟨_,λ_=>rfl,λq=>⟨_,r,q⟩⟩
def E5(K:W.Frag):R2:=λx y H Q=>∃l b xs zs,x=.ref l/\y=.ref b/\yL K H l xs/\yL K H b zs/\xs.length+zs.length<=sizeLine/\∀p,H p=none->Q (.ref p) (zX H p (.lst (xs++zs)))
theorem AG:yY X (binaryOp .Add) (E5 X.K):=by
 intro z6 s σ H x y v u Q I rx ry h;obtain⟨l,b,xs,zs,rfl,rfl,hl,hb,hz,q⟩:=h;cases rx;cases ry;obtain⟨its,r1,p1,_⟩:=I.list hl;obtain⟨its2,r2,p2,_⟩:=I.list hb;obtain⟨⟨c1,d1,t1,sl1⟩,n1,ho1,hc1,hd1,ht1⟩:=p1;obtain⟨⟨c2,d2,t2,sl2⟩,n2,ho2,hc2,hd2,ht2⟩:=p2;simp only at hc1 ht1 hc2 ht2;subst hc1 ht1 hc2 ht2
 refine concat_meets ⟨_,ho1,rfl⟩ ⟨_,ho2,rfl⟩ noFill_list_add seq_list_add PySem.F.slot_list_add PySem.F.entry_list_add (PySem.F.args_list_add_2 _ _)
  (list_addW l b its.toArray its2.toArray n1 n2 d1 d2 sl1 sl2 (by rw[yk,yk,<-r1.length,<-r2.length]; exact hz)) ⟨ho1,ho2,?_⟩
 rw[show its.toArray++its2.toArray=(its++its2).toArray by simp];exact⟨.ref _,_,I.HM (t':=s.toks) (r1.append r2) (by rw[yj]; exact hz),rfl,q _ I.fresh⟩
def E4(K:W.Frag):R2:=λx y H Q=>ud (λi j=>.int (i+j)) x y H Q\/(∃i k,x=.int i/\y=.bl k/\Q (.int (i+b2i k)) H)\/(∃i j,x=.str i/\y=.str j/\i.length+j.length<=sizeLine/\Q (.str (i++j)) H)\/E5 K x y H Q\/E6 K x y H Q
theorem xb:yY X (binaryOp .Add) (E4 X.K):=AD.or (AE.or (AF.or (AG.or AH)))
theorem xZ:vX K (E4 K) yo:=λG H x y u v d Q s rx ry hf q=>by
 cases x<;>cases y<;>first|(cases hf; done)|skip
 ·rename_i i b;cases rx;cases ry;cases hf;refine .inr (.inl ⟨i,b,rfl,rfl,?_⟩);have e:i+b2i b=i+(if b then 1 else 0):=by cases b<;>rfl
  rw[e];exact q _ _ _ (zV.refl s) rfl
 ·cases hf;exact .inl ⟨_,_,rx,ry,q _ _ _ (zV.refl s) rfl⟩
 ·rename_i i j;obtain⟨rfl,l1⟩:=rx;obtain⟨rfl,l2⟩:=ry
  change (if i.length+j.length<=yn then _ else _)=_ at hf
  by_cases c:i.length+j.length<=yn
  ·rw[zN c]at hf;cases hf;have c':i.length+j.length<=sizeLine:=by rw[wn]; exact c
   exact .inr (.inr (.inl ⟨i,j,rfl,rfl,c',q _ _ _ (zV.refl s) ⟨rfl,by rw[strLen_append]; exact c'⟩⟩))
  ·rw[zS c]at hf;cases hf
 ·rename_i xs ys;obtain⟨a,vs,rfl,sa,ra,_⟩:=rx;obtain⟨b,us,rfl,sb,rb,_⟩:=ry
  change (if xs.isEmpty=false/\xs.length+ys.length<=yn then _ else _)=_ at hf
  by_cases c0:xs.isEmpty=false/\xs.length+ys.length<=yn
  ·rw[zN c0]at hf;have c:=c0.2;cases hf;have c':(xs++ys).length<=sizeLine:=by rw[wn,yj]; exact c
   have hx:vs≠[]:=λe=>by
    have l:=ra.length;rw[e]at l;cases xs with
    |nil=>cases c0.1
    |cons=>cases l
   ·refine .inr (.inr (.inr (.inr ⟨a,b,vs,us,rfl,rfl,vT s sa,vT s sb,hx,by rw[ra.length,rb.length,wn]; exact c,λe=>?_,λe p hp=>?_⟩)))
    ·subst e
     have e2:ys=[]:=by
      cases ys with
      |nil=>rfl
      |cons=>obtain⟨_,_,z,_⟩:=rb; cases z
     subst e2;exact q _ _ _ (zV.refl s) ⟨a,vs,rfl,sa,by rw[ui]; exact ra,c'⟩
    ·exact q _ _ _ (zV.lay s hp) ⟨p,vs++us,rfl,yu.of yW,(ra.append rb).mono (wY (s.free hp) _),c'⟩
  ·rw[zS c0]at hf;cases hf
 ·rename_i xs ys;obtain⟨a,vs,rfl,sa,ra,_⟩:=rx;obtain⟨b,us,rfl,sb,rb,_⟩:=ry
  change (if xs.length+ys.length<=yn then _ else _)=_ at hf
  by_cases c:xs.length+ys.length<=yn
  ·rw[zN c]at hf;cases hf;have c':(xs++ys).length<=sizeLine:=by rw[wn,yj]; exact c
   refine .inr (.inr (.inr (.inl ⟨a,b,vs,us,rfl,rfl,wZ s sa,wZ s sb,by rw[ra.length,rb.length,wn]; exact c,λp hp=>?_⟩)));exact q _ _ _ (zV.lay s hp) ⟨p,vs++us,rfl,yL.of yW,(ra.append rb).mono (wY (s.free hp) _),c'⟩
  ·rw[zS c]at hf;cases hf
theorem Hq{α:Type}{xs:List α}{i:Int}{x:α}(h:tW xs i=some x):∃j:Nat,xs[j]?=some x/\∀{β:Type}(ys:List β),ys.length=xs.length->tW ys i=ys[j]?:=by
 unfold tW at h;cases e:YC xs.length i with
 |none=>rw[e]at h; cases h
 |some j=>
  rw[e]at h;exact⟨j,h,λys l=>by unfold tW; rw[l,e]; rfl⟩
theorem B6{α:Type}(xs:List α)(i:Int):tW xs i=vY xs i:=by
 unfold tW vY YC;by_cases h:0<=i
 ·rw[zN h,zN h];by_cases h2:i<xs.length
  ·rw[zN h2]; rfl
  ·rw[zS h2];exact(uH (by omega)).symm
 ·rw[zS h,zS h]
  split<;>rfl
theorem LG{H:Hp}{ds:List D}{vs:List V}{i:Int}{d:D}(r:Reps K H ds vs)(h:vY ds i=some d):∃v,tW vs i=some v/\ze K H d v:=by
 rw[<-B6]at h;obtain⟨j,e,k⟩:=Hq h;obtain⟨v,ev,rv⟩:=r.get e;exact⟨v,by rw[k vs r.length]; exact ev,rv⟩
def N2:D->D->Option D
 |.lst xs,.int i=>vY xs i
 |.tup xs,.int i=>vY xs i
 |.str z,.int i=>(vY z.cps.toList i).bind λc=>some (.str ⟨#[c]⟩)
 |_,_=>none
theorem Oo:vX K (LC K) N2:=λG H x y u v d Q s rx ry hf q=>by
 cases x<;>first|(cases hf; done)|skip
 all_goals (cases y<;>first|(cases hf; done)|skip)
 ·rename_i z i;obtain⟨rfl,l⟩:=rx;cases ry;obtain⟨c,hc,hf⟩:=zP hf;cases hf;rw[<-B6]at hc;exact .inr (.inr ⟨z,i,c,rfl,rfl,l,hc,q _ _ _ (zV.refl s) ⟨rfl,small (n:=1) (by decide)⟩⟩)
 ·rename_i xs i;obtain⟨a,vs,rfl,sa,ra,_⟩:=rx;cases ry;obtain⟨w,hw,rw_⟩:=LG ra hf;exact .inr (.inl ⟨a,vs,i,w,rfl,rfl,vT s sa,hw,q _ _ _ (zV.refl s) rw_⟩)
 ·rename_i xs i;obtain⟨a,vs,rfl,sa,ra,_⟩:=rx;cases ry;obtain⟨w,hw,rw_⟩:=LG ra hf;exact .inl ⟨a,vs,i,w,rfl,rfl,wZ s sa,hw,q _ _ _ (zV.refl s) rw_⟩
theorem vL:wK X (.builtin "len") (λxs H Q=>(∃p ys,xs=[.ref p]/\(yL X.K H p ys\/yu X.K H p ys)/\Q (.int ys.length) H)\/∃z,xs=[.str z]/\z.length<=sizeLine/\Q (.int z.length) H):=KF.or KG
theorem vQ:X6 K (λxs H Q=>(∃p ys,xs=[.ref p]/\(yL K H p ys\/yu K H p ys)/\Q (.int ys.length) H)\/∃z,xs=[.str z]/\z.length<=sizeLine/\Q (.int z.length) H) xo:=λG H ds vs d Q s r hf q=>by
 match ds,hf with
 | [.lst xs],hf=>
  cases hf;obtain⟨v,r',rfl,⟨a,us,rfl,sq,ru,_⟩,h2⟩:=r;cases(show r'=[]from h2);exact .inl ⟨a,us,rfl,.inl sq,by rw[ru.length]; exact q _ _ _ (zV.refl s) rfl⟩
 | [.tup xs],hf=>
  cases hf;obtain⟨v,r',rfl,⟨a,us,rfl,sq,ru,_⟩,h2⟩:=r;cases(show r'=[]from h2);exact .inl ⟨a,us,rfl,.inr sq,by rw[ru.length]; exact q _ _ _ (zV.refl s) rfl⟩
 | [.str z],hf=>
  cases hf;obtain⟨v,r',rfl,⟨rfl,l⟩,h2⟩:=r;cases(show r'=[]from h2);exact .inr ⟨z,rfl,l,q _ _ _ (zV.refl s) rfl⟩
theorem Sm:X6 K (λxs H Q=>∃i j,xs=[.int i,.int j]/\Q (.int (if j>i then j else i)) H) T3:=λG H ds vs d Q s r hf q=>by
 match ds,hf with
 | [.int i,.int j],hf=>
  cases hf;obtain⟨v,r',rfl,rfl,⟨v2,r2,rfl,rfl,h2⟩⟩:=r;cases(show r2=[]from h2);exact⟨i,j,rfl,q _ _ _ (zV.refl s) rfl⟩
theorem Sn:X6 K (λxs H Q=>∃i j,xs=[.int i,.int j]/\Q (.int (if j<i then j else i)) H) T4:=λG H ds vs d Q s r hf q=>by
 match ds,hf with
 | [.int i,.int j],hf=>
  cases hf;obtain⟨v,r',rfl,rfl,⟨v2,r2,rfl,rfl,h2⟩⟩:=r;cases(show r2=[]from h2);exact⟨i,j,rfl,q _ _ _ (zV.refl s) rfl⟩
end
theorem Ba:∀xs ys:List D,(((List.range (min xs.length ys.length)).all λj=>yM (xs.getD j .zE) (ys.getD j .zE))&&xs.length==ys.length)=dEqs xs ys
 | [],[]=>rfl
 | [],_::_=>rfl
 |_::_,[]=>rfl
 |x::xs,y::ys=>by
  have ih:=Ba xs ys;show _=(yM x y&&dEqs xs ys);rw[<-ih,xc,xc,Nat.succ_min_succ,List.range_succ_eq_map,wl,List.all_map,Bool.and_assoc]
  congr 1
  congr 1
  rw[VE];simp
theorem BY{f:D->D->Bool}:∀{xs ys:List D},uv f xs ys=true->∀(j:Nat) x y,xs[j]?=some x->ys[j]?=some y->f x y=true
 | [],_,_,j,x,y,e,_=>by cases e
 |x::xs,[],_,j,_,y,_,e=>by cases e
 |x::xs,y::ys,h,0,_,_,e1,e2=>by
  cases e1;cases e2;have h':(f x y&&uv f xs ys)=true:=h;rw[xP]at h';exact h'.1
 |x::xs,y::ys,h,j+1,a,b,e1,e2=>by
  have h':(f x y&&uv f xs ys)=true:=h;rw[xP]at h';exact BY h'.2 j a b (by simpa using e1) (by simpa using e2)
section
variable{X:Cx}{z6:List (Addr×Obj)}{σ:St}{H:Hp}{s:Shared}{K:W.Frag}
theorem Jw{n:Nat}(ih:∀d1 d2 v,vE n d1 d2=true->ze K H d1 v->ze K H d2 v->yM d1 d2=true):∀{xs ys:List D}{vs:List V},uv (vE n) xs ys=true->Reps K H xs vs->Reps K H ys vs->dEqs xs ys=true
 | [],[],_,_,_,_=>rfl
 | [],_::_,_,_,r1,r2=>by
  cases(show _=[]from r1);obtain⟨_,_,e,_⟩:=r2;cases e
 |_::_,[],_,_,r1,r2=>by
  cases(show _=[]from r2);obtain⟨_,_,e,_⟩:=r1;cases e
 |x::xs,y::ys,_,h,r1,r2=>by
  obtain⟨v,r,rfl,a,b⟩:=r1;obtain⟨v',r',e,a',b'⟩:=r2;cases e;have h':(vE n x y&&uv (vE n) xs ys)=true:=h;rw[xP]at h';show(yM x y&&dEqs xs ys)=true;rw[ih x y v h'.1 a a',Jw ih h'.2 b b'];rfl
theorem Ji{n:Nat}{x y:D}(h:vE (n+1) x y=true):(∃xs ys,x=.tup xs/\y=.tup ys/\uv (vE n) xs ys=true)\/(∃xs ys,x=.lst xs/\y=.lst ys/\uv (vE n) xs ys=true)\/(yH x=true/\yH y=true):=by
 unfold vE at h
 split at h
 ·exact .inl ⟨_,_,rfl,rfl,h⟩
 ·exact .inr (.inl ⟨_,_,rfl,rfl,h⟩)
 ·rw[xP]at h;exact .inr (.inr h)
theorem g8{d:D}{v:V}(h:yH d=true)(r:ze K H d v):uA v=true:=by
 cases d<;>first|exact absurd h yz|skip
 ·cases(show v=_ from r); rfl
 ·cases(show v=_ from r); rfl
 ·cases(show v=_ from r); rfl
 ·cases(show v=_/\_ from r).1; rfl
theorem kj{d1 d2:D}{x y:V}(h1:yH d1=true)(h2:yH d2=true)(r1:ze K H d1 x)(r2:ze K H d2 y):vM x y=yM d1 d2:=by
 cases d1<;>first|exact absurd h1 yz|skip
 all_goals (cases d2<;>first|exact absurd h2 yz|skip)
 all_goals first
  |(cases(show x=_ from r1); cases(show y=_ from r2); rfl)
  |(cases(show x=_ from r1); cases(show y=_/\_ from r2).1; rfl)
  |(cases(show x=_/\_ from r1).1; cases(show y=_ from r2); rfl)
  |(cases(show x=_/\_ from r1).1; cases(show y=_/\_ from r2).1; rfl)
theorem T1(I:Inv X z6 σ H s):∀(n:Nat)(d1 d2:D)(v:V),vE n d1 d2=true->ze X.K H d1 v->ze X.K H d2 v->yM d1 d2=true
 |0,_,_,_,h,_,_=>by cases h
 |n+1,d1,d2,v,h,r1,r2=>by
  rcases Ji h with⟨xs,ys,rfl,rfl,h⟩|⟨xs,ys,rfl,rfl,h⟩|⟨f1,f2⟩
  ·obtain⟨a,vs,rfl,s1,q1,_⟩:=r1;obtain⟨a',us,e,s2,q2,_⟩:=r2;cases e;cases I.JG s1 s2;exact Jw (λd1 d2 v=>T1 I n d1 d2 v) h q1 q2
  ·obtain⟨a,vs,rfl,s1,q1,_⟩:=r1;obtain⟨a',us,e,s2,q2,_⟩:=r2;cases e;cases I.Vd s1 s2;exact Jw (λd1 d2 v=>T1 I n d1 d2 v) h q1 q2
  ·rw[<-kj f1 f2 r1 r2];exact K_ (g8 f1 r1)
theorem DH{α:Type}{xs:List α}{j:Nat}{x d:α}(h:xs[j]?=some x):xs.getD j d=x:=by rw[vH,h]; rfl
theorem Ty{A:Around}{n:Nat}{a c:Addr}{xs ys:List D}{vs us:List V}(I:Inv X z6 σ H s)(hu:A.units<cLine)(hq:B1 X.K H a c vs us)(q1:Reps X.K H xs vs)(q2:Reps X.K H ys us)(h:uv (vE n) xs ys=true)
  (ih:∀(d1 d2:D)(x y:V)(u v:Value),vE n d1 d2=true->ze X.K H d1 x->ze X.K H d2 y->z_ x u->z_ y v->SeqAt.EqAt A.in1 s u v (yM d1 d2)):SeqAt.RcAt A s (.ref a) (.ref c) (dEqs xs ys)/\SeqAt.RcNeAt A s (.ref a) (.ref c) (!dEqs xs ys):=by
 have z:=bV (A:=A) (e:=λj=>yM (xs.getD j .zE) (ys.getD j .zE)) I hu hq λj x' y' u' v' e1 e2 w1 w2=>by
  obtain⟨d1,g1,t1⟩:=q1.at e1;obtain⟨d2,g2,t2⟩:=q2.at e2;show SeqAt.EqAt A.in1 s u' v' (yM (xs.getD j .zE) (ys.getD j .zE));rw[DH g1,DH g2];exact ih d1 d2 x' y' u' v' (BY h j d1 d2 g1 g2) t1 t2 w1 w2
 rw[q1.length,q2.length,Ba]at z;exact z
theorem U_(I:Inv X z6 σ H s):∀(n:Nat)(A:Around)(d1 d2:D)(x y:V)(u v:Value),A.units+n<cLine->vE n d1 d2=true->ze X.K H d1 x->ze X.K H d2 y->z_ x u->z_ y v->SeqAt.EqAt A s u v (yM d1 d2)
 |0,_,_,_,_,_,_,_,_,h,_,_,_,_=>by cases h
 |n+1,A,d1,d2,x,y,u,v,hu,h,r1,r2,rx,ry=>by
  have h0:=h;have ra:=r1;have rb:=r2;rcases Ji h with⟨xs,ys,rfl,rfl,h⟩|⟨xs,ys,rfl,rfl,h⟩|⟨f1,f2⟩
  ·obtain⟨a,vs,rfl,s1,q1,l1⟩:=r1;obtain⟨c,us,rfl,s2,q2,l2⟩:=r2;cases(show u=Value.ref a from rx);cases(show v=Value.ref c from ry);by_cases hac:a=c
   ·subst hac;rw[T1 I (n+1) _ _ _ h0 ra rb];exact MZ _
   ·exact SeqAt.EqAt.of_refs hac (Ty I (by omega) (.inl ⟨s1,s2⟩) q1 q2 h λd1 d2 x y u v hh t1 t2 w1 w2=>U_ I n A.in1 d1 d2 x y u v (by rw[TQ]; omega) hh t1 t2 w1 w2).1
  ·obtain⟨a,vs,rfl,s1,q1,l1⟩:=r1;obtain⟨c,us,rfl,s2,q2,l2⟩:=r2;cases(show u=Value.ref a from rx);cases(show v=Value.ref c from ry);by_cases hac:a=c
   ·subst hac;rw[T1 I (n+1) _ _ _ h0 ra rb];exact MZ _
   ·exact SeqAt.EqAt.of_refs hac (Ty I (by omega) (.inr ⟨s1,s2⟩) q1 q2 h λd1 d2 x y u v hh t1 t2 w1 w2=>U_ I n A.in1 d1 d2 x y u v (by rw[TQ]; omega) hh t1 t2 w1 w2).1
  ·rw[<-kj f1 f2 r1 r2];exact Bt rx ry (g8 f1 r1) (g8 f2 r2)
end
def Tx(K:W.Frag)(neg:Bool):R2:=λx y H Q=>∃d1 d2 k,ze K H d1 x/\ze K H d2 y/\pY d1 d2=some k/\Q (.bl (if neg then !k else k)) H
theorem wO{A:Around}{k:Nat}(hr:w8 k A):A.units+7<cLine:=MS (G_ (by decide:7<=64) _) hr.units
section
variable{X:Cx}{K:W.Frag}
theorem Jy{d1 d2:D}{k:Bool}(h:pY d1 d2=some k):vE 6 d1 d2=true/\k=yM d1 d2:=by
 unfold pY at h
 split at h
 ·cases h
 ·cases h
 ·split at h
  ·rename_i e;cases h;exact⟨e,rfl⟩
  ·cases h
theorem Ee{H:Hp}{d1 d2:D}{x y:V}{k:Bool}(h:pY d1 d2=some k)(h1:yH d1=true)(h2:yH d2=true)(r1:ze K H d1 x)(r2:ze K H d2 y):LN x y=true/\decide (x=y)=k:=by
 obtain⟨_,e⟩:=Jy h;subst e;cases d1<;>first|exact absurd h1 yz|skip
 all_goals (cases d2<;>first|exact absurd h2 yz|(cases h; done)|skip)
 all_goals first
  |(cases(show x=_ from r1); cases(show y=_ from r2); exact⟨rfl,by first|rfl|exact Jn|exact Jm⟩)
  |(cases(show x=_ from r1); cases(show y=_/\_ from r2).1; exact⟨rfl,rfl⟩)
  |(cases(show x=_/\_ from r1).1; cases(show y=_ from r2); exact⟨rfl,rfl⟩)
  |(cases(show x=_/\_ from r1).1; cases(show y=_/\_ from r2).1; exact⟨rfl,Jo⟩)
theorem Bv{z6:List (Addr×Obj)}{σ:St}{H:Hp}{s:Shared}{A:Around}{d1 d2:D}{x y:V}{u v:Value}(I:Inv X z6 σ H s)(hu:A.units+7<cLine)(h:vE 6 d1 d2=true)(hf:¬ (yH d1&&yH d2)=true)(r1:ze X.K H d1 x)(r2:ze X.K H d2 y)(rx:z_ x u)(ry:z_ y v) :
  SeqAt.RcAt A s u v (yM d1 d2)/\SeqAt.RcNeAt A s u v (!yM d1 d2):=by
 rcases Ji h with⟨xs,ys,rfl,rfl,h⟩|⟨xs,ys,rfl,rfl,h⟩|⟨f1,f2⟩
 ·obtain⟨a,vs,rfl,s1,q1,l1⟩:=r1;obtain⟨c,us,rfl,s2,q2,l2⟩:=r2;cases(show u=Value.ref a from rx);cases(show v=Value.ref c from ry);exact Ty I (by omega) (.inl ⟨s1,s2⟩) q1 q2 h λd1 d2 x y u v hh t1 t2 w1 w2=>U_ I 5 A.in1 d1 d2 x y u v (by rw[TQ]; omega) hh t1 t2 w1 w2
 ·obtain⟨a,vs,rfl,s1,q1,l1⟩:=r1;obtain⟨c,us,rfl,s2,q2,l2⟩:=r2;cases(show u=Value.ref a from rx);cases(show v=Value.ref c from ry);exact Ty I (by omega) (.inr ⟨s1,s2⟩) q1 q2 h λd1 d2 x y u v hh t1 t2 w1 w2=>U_ I 5 A.in1 d1 d2 x y u v (by rw[TQ]; omega) hh t1 t2 w1 w2
 ·exact absurd (by rw[f1,f2]; rfl) hf
theorem vR(hu:X.A.units+7<cLine):yY X (compareOp .Eq) (Tx X.K false):=by
 intro z6 s σ H x y v u Q I rx ry h;obtain⟨d1,d2,k,r1,r2,hk,q⟩:=h;by_cases hf:(yH d1&&yH d2)=true
 ·have hf':=hf;rw[xP]at hf';obtain⟨a,b⟩:=Ee hk hf'.1 hf'.2 r1 r2;exact AI z6 s σ H x y v u Q I rx ry ⟨a,by rw[b]; exact q⟩
 ·obtain⟨hc,rfl⟩:=Jy hk;exact(Bv I hu hc hf r1 r2 rx ry).1 _ _ _ _ ⟨.bl _,H,I,rfl,q⟩
theorem YL(hu:X.A.units+7<cLine):yY X (compareOp .NotEq) (Tx X.K true):=by
 intro z6 s σ H x y v u Q I rx ry h;obtain⟨d1,d2,k,r1,r2,hk,q⟩:=h;by_cases hf:(yH d1&&yH d2)=true
 ·have hf':=hf;rw[xP]at hf';obtain⟨a,b⟩:=Ee hk hf'.1 hf'.2 r1 r2;exact AN z6 s σ H x y v u Q I rx ry ⟨a,by rw[b]; exact q⟩
 ·obtain⟨hc,rfl⟩:=Jy hk;exact(Bv I hu hc hf r1 r2 rx ry).2 _ _ _ _ ⟨.bl _,H,I,rfl,q⟩
theorem vP:qM K (Tx K false) yP:=λH x y u v d Q rx ry hf=>by
 obtain⟨k,hk,hf⟩:=zP hf;cases hf;exact⟨_,rfl,λq=>⟨x,y,k,rx,ry,hk,q⟩⟩
theorem YI:qM K (Tx K true) vZ:=λH x y u v d Q rx ry hf=>by
 obtain⟨k,hk,hf⟩:=zP hf;cases hf;exact⟨_,rfl,λq=>⟨x,y,k,rx,ry,hk,q⟩⟩
end
theorem R7{K:W.Frag}:W.kitOne K (.type "NoneType") (.type "str")=some false/\W.kitOne K (.type "NoneType") (.type "list")=some false/\W.kitOne K (.type "NoneType") (.type "tuple")=some false/\
  W.kitOne K (.type "bool") (.type "str")=some false/\W.kitOne K (.type "bool") (.type "list")=some false/\W.kitOne K (.type "bool") (.type "tuple")=some false/\
  W.kitOne K (.type "int") (.type "str")=some false/\W.kitOne K (.type "int") (.type "list")=some false/\W.kitOne K (.type "int") (.type "tuple")=some false:=by refine⟨?_,?_,?_,?_,?_,?_,?_,?_,?_⟩<;>kernel_rfl
theorem R8{K:W.Frag}:W.kitOne K (.type "str") (.type "int")=some false/\W.kitOne K (.type "str") (.type "bool")=some false/\W.kitOne K (.type "str") (.type "list")=some false/\W.kitOne K (.type "str") (.type "tuple")=some false/\
  W.kitOne K (.type "list") (.type "int")=some false/\W.kitOne K (.type "list") (.type "bool")=some false/\W.kitOne K (.type "list") (.type "str")=some false/\W.kitOne K (.type "list") (.type "tuple")=some false/\W.kitOne K (.type "list") (.type "list")=some true:=by refine⟨?_,?_,?_,?_,?_,?_,?_,?_,?_⟩<;>first|kernel_rfl|rfl
theorem R9{K:W.Frag}:W.kitOne K (.type "tuple") (.type "int")=some false/\W.kitOne K (.type "tuple") (.type "bool")=some false/\W.kitOne K (.type "tuple") (.type "list")=some false/\W.kitOne K (.type "tuple") (.type "str")=some false:=by refine⟨?_,?_,?_,?_⟩<;>kernel_rfl
def mv:D->String
 |.zE => "NoneType"
 |.bl _ => "bool"
 |.int _ => "int"
 |.str _ => "str"
 |.tup _ => "tuple"
 |.lst _ => "list"
 |.dic _ _ => "dict"
 |.exc _ => "x"
 |.obj _ _ _ => "x"
theorem YE{K:W.Frag}{T:jb}{d:D}{b:Bool}(h:TV T d=some b):W.kitOne K (.type (mv d)) (.type T.nm)=some b:=by
 obtain⟨x1,x2,x3,x4,x5,x6,x7,x8,x9⟩:=R7 (K:=K);obtain⟨y1,y2,y3,y4,y5,y6,y7,y8,y9⟩:=R8 (K:=K);obtain⟨z1,z2,z3,z4⟩:=R9 (K:=K);cases T<;>cases d<;>cases h
 all_goals first|exact R1|exact P_|exact R0|exact Pz|exact R4|exact R3|exact R6|exact R5|assumption
def bM(K:W.Frag)(T:jb):List V->Hp->VK->Prop:=λxs H Q=>∃x d b,xs=[x,.ty T.nm]/\ze K H d x/\TV T d=some b/\Q (.bl b) H
theorem KD{X:Cx}(T:jb):wK X (.builtin "isinstance") (bM X.K T):=by
 intro z6 s σ H xs us Q I r h;obtain⟨x,d,b,rfl,rd,e,q⟩:=h;obtain⟨u,c,rfl,rx,rc⟩:=V7 r;cases(show c=Value.type T.nm from rc);have fin:∀tk,EP X z6 σ Q (.bool b) { s with toks:=tk }:=λtk=>⟨.bl b,H,I.tok tk,rfl,q⟩
 cases d with
 |zE=>cases(show x=_ from rd); exact TW I rx .zE (YE (d:=.zE) e) fin
 |bl y=>cases(show x=_ from rd); exact TW I rx (.bl _) (YE (d:=.bl y) e) fin
 |int y=>cases(show x=_ from rd); exact TW I rx (.int _) (YE (d:=.int y) e) fin
 |str y=>cases(show x=_/\_ from rd).1; exact TW I rx (.str _) (YE (d:=.str y) e) fin
 |tup ds=>
  obtain⟨a,vs,rfl,sq,_⟩:=rd;cases(show u=Value.ref a from rx);obtain⟨its,_,⟨o,h1,h2,_⟩,_⟩:=I.tuple sq;exact W.kia_one W.kitx_tuple I.wF ⟨o,h1,h2⟩ (YE (d:=.tup ds) e) (λz=>nomatch z) fin
 |lst ds=>
  obtain⟨a,vs,rfl,sq,_⟩:=rd;cases(show u=Value.ref a from rx);obtain⟨its,_,⟨o,n,h1,h2,_⟩,_⟩:=I.list sq;exact W.kia_one W.kitx_list I.wF ⟨o,h1,h2⟩ (YE (d:=.lst ds) e) (λz=>nomatch z) fin
 |dic ks ds=>cases T<;>cases e
 |exc _=>cases T<;>cases e
 |obj _ _ _=>cases T<;>cases e
theorem Wy{X:Cx}{a:Expr}{f:FE}{x:Str}{p p1 pos:Pos}(T:jb)(hg:Gl X "isinstance")(hgT:Gl X x)(hm:X.mg "isinstance" = none)(hmT:X.mg x=none)(hv:bootBuiltins x=some (.type T.nm))(ha:SB X a f)(hs:xS a=true:=by rfl)
  (hn:x ≠ "__name__" := by decide)(hd:(x==("__debug__" : Str))=false:=by decide):SE X (.Call (.Name "isinstance" p) [a,.Name x p1] [] pos) (g_ T f):=by
 obtain⟨t,pt,k⟩:=ha.h;refine⟨⟨_,(Tv (KD T) hg hm K6 (Tu ⟨pt⟩ (Tu (bF hgT hmT hv hn hd) L8 rfl) hs) (by decide) (by decide) (by rw[wl,hs]; rfl)).h,λ{G0 H0 G H τ σ d Q} E hf q=>?_⟩⟩;obtain⟨z,hz,hf⟩:=zP hf;obtain⟨b,hb,hf⟩:=zP hf;cases hf;exact k E hz λv G' H' x r=>⟨v,z,b,rfl,r,hb,q _ _ _ x rfl⟩
end L3
namespace L3
open PySem
theorem Li{c:FT}{b:FS}:∀{n:Nat}{σ:yB}{fl:Fl}(k:Nat),vh c b n σ=some fl->vh c b (n+k) σ=some fl
 |0,_,_,_,h=>by cases h
 |n+1,σ,fl,k,h=>by
  rw[Nat.succ_add];unfold vh at h ⊢;cases hc:c σ with
  |none=>rw[hc]at h; cases h
  |some kk=>
   rw[hc]at h;cases kk with
   |false=>exact h
   |true=>
    change (b σ).bind _=_ at h
    show(b σ).bind _=_;cases hb:b σ with
    |none=>rw[hb]at h; cases h
    |some f=>
     rw[hb]at h;cases f with
     |nx τ=>exact Li k h
     |ct τ=>exact Li k h
     |bk τ=>exact h
     |rt o d=>exact h
theorem T_{c:FT}{b:FS}{σ:yB}{fl:Fl}(n:Nat)(h:vh c b n σ=some fl)(hn:n<=U6:=by decide):YR c b σ=some fl:=by
 have e:=Li (U6-n) h;rw[Nat.add_sub_of_le hn]at e;exact e
theorem Lh{c:FT}{b:FS}{σ σ':yB}{n:Nat}(hc:c σ=some true)(hb:b σ=some (.nx σ')):vh c b (n+1) σ=vh c b n σ':=by
 show(c σ).bind _=_;rw[hc];show(b σ).bind _=_;rw[hb];rfl
theorem Lg{c:FT}{b:FS}{σ:yB}{n:Nat}(hc:c σ=some false):vh c b (n+1) σ=some (.nx σ):=by
 show(c σ).bind _=_;rw[hc];rfl
theorem uz{g:FG}{b:FS}(P:Nat->yB->Prop):∀{ds:List D}{σ:yB}(n:Nat),P n σ->(∀i d σ,ds[i]?=some d->P (n+i) σ->∃σ1 σ2,g d σ=some σ1/\(b σ1=some (.nx σ2)\/b σ1=some (.ct σ2))/\P (n+i+1) σ2)->
  ∃σ',p6 g b ds σ=some (.nx σ')/\P (n+ds.length) σ'
 | [],σ,n,h,_=>⟨σ,rfl,h⟩
 |d::ds,σ,n,h,step=>by
  obtain⟨σ1,σ2,e1,e2,p2⟩:=step 0 d σ rfl h
  obtain⟨σ',e3,p3⟩:=uz P (ds:=ds) (σ:=σ2) (n+1) p2 λi d' τ hd hp=>by
   obtain⟨a,b',c1,c2,c3⟩:=step (i+1) d' τ (by simpa using hd) (by rw[show n+(i+1)=n+1+i by omega]; exact hp);exact⟨a,b',c1,c2,by rw[show n+1+i+1=n+(i+1)+1 by omega]; exact c3⟩
  refine⟨σ',?_,by rw[xc,show n+(ds.length+1)=n+1+ds.length by omega]; exact p3⟩;show(g d σ).bind _=_;rw[e1];show(b σ1).bind _=_;rcases e2 with e2|e2
  ·rw[e2]; exact e3
  ·rw[e2]; exact e3
theorem uF{a b:FS}{σ σ':yB}(h:a σ=some (.nx σ')):zL a b σ=b σ':=by
 show(a σ).bind _=_;rw[h];rfl
theorem DQ{c:FT}{a b:FS}{σ:yB}(h:c σ=some true):yO c a b σ=a σ:=by
 show(c σ).bind _=_;rw[h];rfl
theorem PB{c:FT}{a b:FS}{σ:yB}(h:c σ=some false):yO c a b σ=b σ:=by
 show(c σ).bind _=_;rw[h];rfl
abbrev w4(j:Nat):List D:=(List.range j).map λk:Nat=>D.int k
theorem g7{f:FE}{τ:yB}{n:Int}(h:f τ=some (.int n))(h1:n.natAbs<=1000000):qR (eC (.int 0)) f τ=some (w4 n.toNat):=by
 unfold qR;rw[h];show(if(0:Int).natAbs<=yn/\n.natAbs<=yn/\(n-0).toNat<=yn then _ else _)=_;rw[zN ⟨by decide,by show _<=16777216; omega,by show _<=16777216; omega⟩,Int.sub_zero];simp only[Int.zero_add]
end L3
namespace L3
def shx:=
 And.intro zc.eq_1<|And.intro zL.eq_1<|And.intro zh.eq_1<|And.intro uE.eq_1<|And.intro yD.eq_1<|And.intro qC.eq_1<|And.intro p9.eq_1<|And.intro yO.eq_1<|And.intro ym.eq_1<|And.intro g9.eq_1 <|
 And.intro cs.eq_1<|And.intro xt.eq_1<|And.intro vf.eq_1<|And.intro p6.eq_1<|And.intro p6.eq_2<|And.intro e1.eq_1<|And.intro e2.eq_1<|And.intro eL.eq_1<|And.intro eC.eq_1<|And.intro z7.eq_1<|And.intro je.eq_1 <|
 And.intro zA.eq_1<|And.intro zG.eq_1<|And.intro tE.eq_1<|And.intro gt.eq_def<|And.intro Yc.eq_1<|And.intro pC.eq_1<|And.intro jA.eq_1<|And.intro Uy.eq_1<|And.intro Ju.eq_1<|And.intro Ky.eq_1<|And.intro u9.eq_1 <|
 And.intro xO.eq_1<|And.intro wA.eq_1<|And.intro g_.eq_1<|And.intro TV.eq_def<|And.intro fI.eq_def<|And.intro uX.eq_def<|And.intro xi.eq_def<|And.intro XM.eq_1<|And.intro T5.eq_1<|And.intro y_.eq_1<|And.intro wS.eq_1 <|
 And.intro IC.eq_1<|And.intro jh.eq_1<|And.intro ID.eq_1<|And.intro tY.eq_def<|And.intro va.eq_def<|And.intro xo.eq_def<|And.intro N1.eq_def<|And.intro qr.eq_def<|And.intro kB.eq_def<|And.intro jl.eq_def <|
 And.intro zo.eq_1<|And.intro v8.eq_1<|And.intro vo.eq_1<|And.intro zd.eq_1<|And.intro qO.eq_1<|And.intro xm.eq_1 <|
 And.intro @Option.bind_some.{0,0} <| And.intro @Option.bind_none.{0,0} <| And.intro @List.getElem?_cons_zero.{0} <| And.intro @List.getElem?_cons_succ.{0} <| And.intro @List.set_cons_zero.{0} <| And.intro @List.set_cons_succ.{0} <| And.intro @wD.{0,0} <| And.intro @Qr.{0,0} <|
 And.intro @Yl.{0} <| And.intro @Qs.{0} <| And.intro @xc.{0} <| And.intro @pF.{0} <| And.intro @Gy.{0} <| And.intro @List.replicate_succ.{0} <| And.intro M1<|And.intro Bool.not_false <|
 And.intro @decide_true<|And.intro @decide_false<|And.intro Bool.and_self<|And.intro Bool.and_true Z7
open PySem PySem.Spec PyProof.Rows L2
section
variable{α:Type}
theorem Gb:∀{ks:List zJ}{vs:List α}(k:zJ),ks.length=vs.length->((ks.zip vs).any λkv=>decide (kv.1=k))=yb ks k
 | [],[],_,_=>rfl
 |k'::ks,v::vs,k,h=>by
  have ih:=Gb (ks:=ks) (vs:=vs) k (by simpa using h);show(decide (k'=k)||((ks.zip vs).any λkv=>decide (kv.1=k)))=(decide (k'=k)||yb ks k);rw[ih]
theorem VA:∀{ks:List zJ}{vs:List V}(k:zJ),ks.length=vs.length->uh (ks.zip vs) k=getK ks vs k
 | [],[],_,_=>rfl
 |k'::ks,v::vs,k,h=>by
  have ih:=VA (ks:=ks) (vs:=vs) k (by simpa using h);by_cases e:k'=k
  ·rw[VM,QR (p:=(k',v)) e];show _=(if k'=k then some v else _);rw[zN e]
  ·rw[VM,QQ (p:=(k',v)) e,ih];show _=(if k'=k then some v else _);rw[zS e]
theorem Gc:∀{ks:List zJ}{vs:List V}(k:zJ)(v:V),ks.length=vs.length->((ks.zip vs).map λkv=>if kv.1=k then(kv.1,v)else kv)=ks.zip (List.zipWith (λk' x=>if k'=k then v else x) ks vs)
 | [],[],_,_,_=>rfl
 |k'::ks,u::vs,k,v,h=>by
  have ih:=Gc (ks:=ks) (vs:=vs) k v (by simpa using h);rw[VM,wD,ih,gQ,VM];by_cases e:k'=k
  ·rw[zN e,zN e]
  ·rw[zS e,zS e]
theorem Gd{ks:List zJ}{vs:List V}{k:zJ}{v:V}(h:ks.length=vs.length):ve (ks.zip vs) k v=(xr ks k).zip (xz ks vs k v):=by
 unfold ve xr xz;rw[Gb k h];by_cases c:yb ks k=true
 ·rw[zN c,zN c,zN c,Gc k v h]
 ·rw[zS c,zS c,zS c,List.zip_append h];rfl
theorem kY{ks:List zJ}{vs:List α}{k:zJ}{v:α}(h:ks.length=vs.length):(xr ks k).length=(xz ks vs k v).length:=by
 unfold xr xz
 split
 ·rw[gO,h,tK]
 ·rw[yj,yj,h];rfl
theorem Cu{ks:List zJ}{vs:List α}{k:zJ}{v:α}(h:ks.length=vs.length):(xz ks vs k v).length<=vs.length+1:=by
 unfold xz
 split
 ·rw[gO,h,tK];exact VO _
 ·rw[yj];exact zr _
end
section
variable{K:W.Frag}{G H:Hp}
theorem Reps.getK:∀{ks:List zJ}{ds:List D}{vs:List V}{k:zJ}{d:D},Reps K H ds vs->getK ks ds k=some d->∃v,getK ks vs k=some v/\ze K H d v
 | [],_,_,_,_,_,e=>by cases e
 |_::_,[],_,_,_,_,e=>by cases e
 |k'::ks,d'::ds,_,k,d,r,e=>by
  obtain⟨v,r',rfl,hv,hr⟩:=r
  change (if k'=k then some d' else L3.getK ks ds k)=some d at e
  by_cases c:k'=k
  ·rw[zN c]at e;cases e;exact⟨v,by show(if k'=k then some v else _)=_; rw[zN c],hv⟩
  ·rw[zS c]at e;obtain⟨u,hu,ru⟩:=Reps.getK hr e;exact⟨u,by show(if k'=k then some v else _)=_; rw[zS c]; exact hu,ru⟩
theorem DI{α:Type}:∀{ks:List zJ}{vs:List α}(k:zJ),ks.length=vs.length->(getK ks vs k).isSome=yb ks k
 | [],[],_,_=>rfl
 |k'::ks,v::vs,k,h=>by
  have ih:=DI (ks:=ks) (vs:=vs) k (by simpa using h);show(if k'=k then some v else getK ks vs k).isSome=(decide (k'=k)||_);by_cases c:k'=k
  ·rw[zN c,yh c]; rfl
  ·rw[zS c,ye c,ih]; rfl
theorem Reps.Mu{k:zJ}{d:D}{v:V}(hv:ze K H d v):∀{ks:List zJ}{ds:List D}{vs:List V},Reps K H ds vs->Reps K H (List.zipWith (λk' x=>if k'=k then d else x) ks ds) (List.zipWith (λk' x=>if k'=k then v else x) ks vs)
 | [],_,_,_=>rfl
 |_::_,[],_,r=>by cases(show _=[]from r); rfl
 |k'::ks,d'::ds,_,r=>by
  obtain⟨u,r',rfl,hu,hr⟩:=r;refine⟨_,_,rfl,?_,Reps.Mu hv hr⟩;show ze K H (if k'=k then d else d') (if k'=k then v else u);by_cases c:k'=k
  ·rw[zN c,zN c]; exact hv
  ·rw[zS c,zS c]; exact hu
theorem Reps.put{ks:List zJ}{ds:List D}{vs:List V}{k:zJ}{d:D}{v:V}(r:Reps K H ds vs)(hv:ze K H d v):Reps K H (xz ks ds k d) (xz ks vs k v):=by
 unfold xz
 split
 ·exact Reps.Mu hv r
 ·exact r.append (Reps.one hv)
theorem kM{x:D}{k:zJ}{u:V}(h:qT x=some k)(r:ze K H x u):u=kV k:=by
 cases x<;>first|(cases h; done)|skip
 ·cases h; exact r
 ·cases h; exact(show u=_/\_ from r).1
end
section
variable{X:Cx}{K:W.Frag}
def E8:R2:=λx y H Q=>∃a kvs k v,x=.ref a/\y=kV k/\Rd H a (.dK kvs)/\uh kvs k=some v/\Q v H
theorem Pi:ur X E8:=by
 intro value slice z6 s σ H x y v u Q I rx ry h hs;obtain⟨a,kvs,k,z,rfl,rfl,e,l,q⟩:=h;cases rx;obtain⟨_,_,vs,rel,dd⟩:=Zq I.za e;obtain⟨w',hw,rw'⟩:=qN.some_of (v:=z) (o:=valueAt vs k) (by rw[<-l]; exact rel.val k)
 exact Qx (x:=w') (Kt I (.inl ⟨kvs,k,e,rfl,rfl⟩)) PySem.F.slot_dict_getitem.lookup
  (wpAny_getItem_of (Q:=λr s'=>r=w'/\EP X z6 σ Q r s') (j2 ry) dd.mapOf hw ⟨rfl,z,H,I.tok _,rw',q⟩) hs
def E7(K:W.Frag):R2:=λx y H Q=>LC K x y H Q\/E8 x y H Q
theorem zk(_:X.A.units+1<cLine):ur X (E7 X.K):=Pk.or Pi
theorem zl:vX K (E7 K) zQ:=λG H x y u v d Q s rx ry hf q=>by
 cases x with
 |dic ks ds=>
  obtain⟨a,vs,rfl,sq,l,rs,_⟩:=rx;obtain⟨k,hk,hf⟩:=zP hf;obtain⟨z,hz,rz⟩:=rs.getK hf;exact .inr ⟨a,_,k,z,rfl,kM hk ry,Rd.mono s sq,by rw[VA k l]; exact hz,q _ _ _ (zV.refl s) rz⟩
 |zE=>cases hf
 |bl b=>cases hf
 |int b=>cases hf
 |str z=>exact .inl (Oo G H (.str z) y u v d Q s rx ry (by cases y<;>exact hf) q)
 |tup z=>exact .inl (Oo G H (.tup z) y u v d Q s rx ry (by cases y<;>exact hf) q)
 |lst z=>exact .inl (Oo G H (.lst z) y u v d Q s rx ry (by cases y<;>exact hf) q)
 |exc z=>cases hf
 |obj z _ _=>cases hf
theorem dS{i:Nat}{x:Str}{p pos:Pos}{b:Expr}{fb:FE}(hu:X.A.units+1<cLine)(ho:QE X (.Name x p) (Z2 i))(hb:SE X b fb)(hs:Tr b=true:=by rfl):SE X (.Subscript (.Name x p) b pos) (e2 zQ (je i) fb):=by
 obtain⟨tb,pb,kb⟩:=hb.h;refine⟨⟨_,Ou (zk hu) ho.h pb (Ox hs),λ{G0 H0 G H τ σ d Q} E hf q=>?_⟩⟩;obtain⟨x,hx,hf⟩:=zP hf;obtain⟨y,hy,hf⟩:=zP hf;obtain⟨o,ho⟩:=Bk hx;cases o with
 |false=>
  obtain⟨v,ev,rv⟩:=E.fr _ _ ho;exact⟨v,ev,kb E hy λu G2 H2 x2 r2=>zl G2 H2 x y v u _ _ x2.gh (rv.mono x2.g) r2 hf λw G' H' x3 r3=>q w G' H' (x2.trans x3) r3⟩
 |true=>
  obtain⟨p,ev,_,_,o⟩:=E.ow _ _ ho;refine⟨_,ev,kb E hy λu G2 H2 x2 r2=>?_⟩;cases x with
  |lst ds=>
   obtain⟨vs,e1,rs,_⟩:=o;cases y<;>first|(cases hf; done)|skip
   rename_i i;obtain⟨w,hw,rw_⟩:=LG rs hf;cases r2;exact .inl (.inl ⟨p,vs,i,w,rfl,rfl,yL.of (x2.h _ _ e1),hw,q _ _ _ x2 (rw_.mono x2.g)⟩)
  |dic ks ds=>
   obtain⟨vs,e1,l,rs,_⟩:=o;obtain⟨k,hk,hf⟩:=zP hf;obtain⟨z,hz,rz⟩:=rs.getK hf;exact .inr ⟨p,_,k,z,rfl,kM hk r2,.inl (x2.h _ _ e1),by rw[VA k l]; exact hz,q _ _ _ x2 (rz.mono x2.g)⟩
  |_=>exact o.elim
def LB(neg:Bool):R2:=λx y H Q=>∃a kvs k,y=.ref a/\x=kV k/\Rd H a (.dK kvs)/\Q (.bl (if neg then !(uh kvs k).isSome else(uh kvs k).isSome)) H
theorem AK(hu:X.A.units+1<cLine):yY X (compareOp .In) (LB false):=by
 intro z6 s σ H x y v u Q I rx ry h;obtain⟨a,kvs,k,rfl,rfl,e,q⟩:=h;cases ry;exact Kk hu I (.inl ⟨kvs,k,e,rfl,rfl⟩) rx λs' I'=>⟨.bl _,H,I',rfl,q⟩
theorem AO(hu:X.A.units+1<cLine):yY X (compareOp .NotIn) (LB true):=by
 intro z6 s σ H x y v u Q I rx ry h;obtain⟨a,kvs,k,rfl,rfl,e,q⟩:=h;cases ry;exact Km hu I (.inl ⟨kvs,k,e,rfl,rfl⟩) rx λs' I'=>⟨.bl _,H,I',rfl,q⟩
def Xs(K:W.Frag)(neg:Bool):R2:=λx y H Q=>L9 K neg x y H Q\/(∃i j,x=.str i/\y=.str j/\Q (.bl (if neg then !(!(Builtin.Str.occurrences j i 0 j.length 1).isEmpty)else !(Builtin.Str.occurrences j i 0 j.length 1).isEmpty)) H)\/LB neg x y H Q
theorem t6(hu:X.A.units+1<cLine):yY X (compareOp .In) (Xs X.K false):=AL.or (AM.or (AK hu))
theorem CV(hu:X.A.units+1<cLine):yY X (compareOp .NotIn) (Xs X.K true):=AQ.or (AR.or (AO hu))
theorem Xv{H:Hp}{x:D}{u:V}(hx:yH x=true)(rx:ze K H x u):∀{ys:List D}{vs:List V},Reps K H ys vs->ys.all yH=true->vs.all uA=true/\TR u vs=ys.any λy=>yM y x
 | [],_,r,_=>by cases(show _=[]from r); exact⟨rfl,rfl⟩
 |y::ys,_,r,h=>by
  obtain⟨v,r',rfl,hv,hr⟩:=r;rw[wl,xP]at h;obtain⟨a,b⟩:=Xv hx rx hr h.2;refine⟨by rw[wl,g8 h.1 hv,a]; rfl,?_⟩;show(vM v u||TR u r')=(yM y x||_);rw[kj h.1 hx hv rx,b]
theorem DR{neg:Bool}{H:Hp}{x y:D}{u v:V}{k:Bool}{Q:VK}(rx:ze K H x u)(ry:ze K H y v)(hf:pZ x y=some k)(q:Q (.bl (if neg then !k else k)) H):Xs K neg u v H Q:=by
 cases y with
 |lst ys=>
  obtain⟨a,vs,rfl,sq,rs,_⟩:=ry
  change (match yH x&&ys.all yH with|true=>some (ys.any λy=>yM y x)|false=>none)=some k at hf
  cases c:(yH x&&ys.all yH)with
  |false=>rw[c]at hf; cases hf
  |true=>
   rw[c]at hf;cases hf;rw[xP]at c;obtain⟨c1,c2⟩:=Xv c.1 rx rs c.2;exact .inl ⟨a,vs,rfl,.inl sq,g8 c.1 rx,c1,by rw[c2]; exact q⟩
 |tup ys=>
  obtain⟨a,vs,rfl,sq,rs,_⟩:=ry
  change (match yH x&&ys.all yH with|true=>some (ys.any λy=>yM y x)|false=>none)=some k at hf
  cases c:(yH x&&ys.all yH)with
  |false=>rw[c]at hf; cases hf
  |true=>
   rw[c]at hf;cases hf;rw[xP]at c;obtain⟨c1,c2⟩:=Xv c.1 rx rs c.2;exact .inl ⟨a,vs,rfl,.inr sq,g8 c.1 rx,c1,by rw[c2]; exact q⟩
 |str j=>
  cases x<;>first|(cases hf; done)|skip
  rename_i i;cases hf;exact .inr (.inl ⟨i,j,(show u=_/\_ from rx).1,(show v=_/\_ from ry).1,q⟩)
 |dic ks ds=>
  obtain⟨kk,hk,hf⟩:=zP hf;cases hf;obtain⟨a,vs,rfl,sq,l,rs,_⟩:=ry;refine .inr (.inr ⟨a,_,kk,rfl,kM hk rx,sq,?_⟩);rw[VA kk l,DI kk l];exact q
 |_=>cases hf
theorem t4:qM K (Xs K false) xY:=λH x y u v d Q rx ry hf=>by
 obtain⟨k,hk,hf⟩:=zP hf;cases hf;exact⟨_,rfl,λq=>DR rx ry hk q⟩
theorem CS:qM K (Xs K true) XN:=λH x y u v d Q rx ry hf=>by
 obtain⟨k,hk,hf⟩:=zP hf;cases hf;exact⟨_,rfl,λq=>DR rx ry hk q⟩
theorem LR{pos:Pos}:SF X (.Dict [] [] pos) (eC (.dic [] [])):=⟨⟨_,Ai,λ{G0 H0 G H τ σ d Q} E hf q p hp=>by
 cases hf;exact q p G _ (zV.uM E.ext.gh hp) hp (E.ext.gh.free hp) ⟨[],yW,rfl,rfl,uK _⟩⟩⟩
theorem QC{i:Nat}{x:Str}{xp pos pos':Pos}{k v:Expr}{fk fv:FE}(hu:X.A.units+1<cLine)(ho:QE X (.Name x xp) (Z2 i))(hk:SE X k fk)(hv:SE X v fv)(hs:swapsWith v (some (.Subscript (.Name x xp) k pos')) pos.line X.env=pure false:=by rfl) :
  SS X (.Assign [.Subscript (.Name x xp) k pos'] v pos) (p8 i fk fv):=by
 obtain⟨tk,pk,kk⟩:=hk.h;obtain⟨tv,pv,kv⟩:=hv.h;refine⟨⟨_,ag hu ho.h pk pv hs,λ{G0 H0 G H τ σ fl E} K hf q=>?_⟩⟩;obtain⟨y,hy,hf⟩:=zP hf;refine kv K hy λw G1 H1 x1 r1=>?_
 split at hf
 ·rename_i ks ds hd;obtain⟨xk,hx,hf⟩:=zP hf;obtain⟨key,hkey,hf⟩:=zP hf;by_cases c:ks.length<yn
  ·rw[zN c]at hf;cases hf;have K1:=K.go x1;obtain⟨a,ea,g,z,vs,ev,l,rs,hl⟩:=K1.ow _ _ hd;refine⟨_,ea,kk K1 hx λu G2 H2 x2 r2=>⟨a,_,rfl,.inl ⟨_,key,x2.h _ _ ev,kM hkey r2,?_,rfl⟩,?_⟩⟩
   ·rw[tI,l,tK,wn,<-l]; exact c
   ·refine q _ _ _ ((K1.go x2).JD hd ea ⟨xz ks vs key w,?_,kY l,(rs.mono x2.g).put (r1.mono x2.g),?_⟩)
    ·rw[yW,Gd l]
    ·have h1:=Cu (ks:=ks) (vs:=ds) (k:=key) (v:=y) (by rw[l,rs.length]);have h2:ds.length<16777216:=by rw[<-rs.length,<-l]; exact c
     rw[wn];omega
  ·rw[zS c]at hf;cases hf
 ·cases hf
def wH(K:W.Frag)(w:World)(a:Addr)(ks:List zJ)(ds:List D):Prop:=
 ∃us:List V,ks.length=us.length/\(a==sysModules)=false/\(∀H,Reps K H ds us)/\∀(P:Program)(h:Heap),K.In h->∃vs,KV (ks.zip us) vs/\h.DictOf (yd P w) a vs
inductive qh(w:World):List DictEntry->List Str->List Value->Prop
 |nil:qh w [] [] []
 |cons {x:Str} {t:Tok} {v:Value} {es:List DictEntry} {xs:List Str} {vs:List Value} (r:qh w es xs vs):qh w (⟨PyData.keyHash w.params x,.str x t,v⟩::es) (x::xs) (v::vs)
theorem qh.pairs{w:World}{P:Program}:∀{es:List DictEntry}{xs:List Str}{vs:List Value},qh w es xs vs->Pairs (yd P w) es ((xs.map Sum.inr).zip vs)/\(∀e∈es,∃k,(yd P w).is k e.key=true/\e.hash=(yd P w).hash k)
 |_,_,_,.nil=>⟨.nil,λe h=>absurd h (by simp)⟩
 |_,_,_,.cons (x:=x) (t:=t) r=>by
  obtain⟨a,b⟩:=qh.pairs (P:=P) r;refine⟨.cons (OY P w x t) rfl a,λe h=>?_⟩;rcases yT.mp h with rfl|h
  ·exact⟨.inr x,OY P w x t,rfl⟩
  ·exact b e h
theorem qh.len{w:World}:∀{es:List DictEntry}{xs:List Str}{vs:List Value},qh w es xs vs->xs.length=vs.length
 |_,_,_,.nil=>rfl
 |_,_,_,.cons r=>by rw[xc,xc,r.len]
theorem OK:∀{ks:List zJ}{us:List V}{vs:List Value},zy us vs->ks.length=us.length->KV (ks.zip us) (ks.zip vs)
 | [],_,_,.nil,_=>.nil
 |k::ks,_,_,.cons r t,h=>.cons ⟨rfl,r⟩ (OK t (by simpa using h))
theorem L_:∀{ks:List zJ}{vs:List Value},ks.length=vs.length->(ks.zip vs).map (·.1)=ks
 | [],[],_=>rfl
 |k::ks,v::vs,h=>by rw[VM,wD,L_ (by simpa using h)]
theorem Zv{w:World}{a:Addr}{es:List DictEntry}{n:Nat}{xs:List Str}{vs:List Value}{us:List V}{ds:List D}(l:K.lookup a=some { cls:=.type "dict",data:=.dict es.toArray n })(e:qh w es xs vs)(nd:xs.Nodup)(hs:(a==sysModules)=false)(r:zy us vs)(rd:∀H,Reps K H ds us) :
  wH K w a (xs.map .inr) ds:=by
 have hl:(xs.map Sum.inr:List zJ).length=us.length:=by rw[zx,e.len,r.length]
 refine⟨us,hl,hs,rd,λP h KI=>⟨_,OK r hl,?_⟩⟩;obtain⟨p,q⟩:=e.pairs (P:=P);refine⟨_,_,_,KI _ _ l,⟨rfl,rfl,rfl⟩,rfl,λe he=>q e (by simpa using he),p,?_⟩;rw[L_ (by rw[zx]; exact e.len)];exact MA _ (λa b h z=>h (Qw z)) nd
theorem NA{A:Addr}{ks:List zJ}{ds:List D}(g:wH X.K X.w A ks ds):ur X (λx y H Q=>x=.ref A/\∃k,y=kV k/\∃d,getK ks ds k=some d/\∀v,(∀H,∃H',yK H H'/\True)->(∀H,ze X.K H d v)->Q v H):=by
 intro value slice z6 s σ H x y v u Q I rx ry h hs;obtain⟨rfl,k,rfl,d,hd,q⟩:=h;cases rx;obtain⟨us,hl,hsys,rd,mk⟩:=g;obtain⟨vs,rel,dd⟩:=mk X.prog s.heap I.wF;obtain⟨z,hz,_⟩:=(rd H).getK hd
 have rz:∀H,ze X.K H d z:=λH'=>by
  obtain⟨z',hz',r'⟩:=(rd H').getK hd;rw[hz]at hz';cases hz';exact r'
 obtain⟨w',hw,rw'⟩:=qN.some_of (v:=z) (o:=valueAt vs k) (by rw[<-hz,<-VA k hl]; exact rel.val k)
 exact Qx (x:=w') dd.typeIs PySem.F.slot_dict_getitem.lookup
  (wpAny_getItem_of (Q:=λr s'=>r=w'/\EP X z6 σ Q r s') (j2 ry) dd.mapOf hw ⟨rfl,z,H,I.tok _,rw',q z (λH=>⟨H,yK.refl H,trivial⟩) rz⟩) hs
theorem ue{A:Addr}{ks:List zJ}{ds:List D}{x:Str}{p pos:Pos}{b:Expr}{fb:FE}(h:yf X.mg x (.ref A))(g:wH X.K X.w A ks ds)(hg:Gl X x)(hb:SE X b fb)(hs:Tr b=true:=by rfl)(hd:(x==("__debug__" : Str))=false:=by decide) :
  SE X (.Subscript (.Name x p) b pos) (e1 (xR ks ds) fb):=by
 obtain⟨tb,pb,kb⟩:=hb.h;refine⟨⟨_,Ou (NA g) (Xn h hg hd) pb (Ox hs),λ{G0 H0 G H τ σ d Q} E hf q=>?_⟩⟩;obtain⟨y,hy,hf⟩:=zP hf;obtain⟨k,hk,hf⟩:=zP hf;exact kb E hy λu G2 H2 x2 r2=>⟨rfl,k,kM hk r2,d,hf,λv _ rv=>q v _ _ x2 (rv _)⟩
end
def pA:D->Option (List D)
 |.lst xs=>some xs
 |.tup xs=>some xs
 |_=>none
def p_(a b:FE):FA:=λσ=>(a σ).bind λx=>(b σ).bind λy=>(pA x).bind λxs=>(pA y).bind λys=>some (List.zipWith (λx y=>D.tup [x,y]) xs ys)
section
variable{K:W.Frag}{G H:Hp}
theorem Eh{x:D}{xs:List D}{u:V}(h:pA x=some xs)(r:ze K G x u):∃t a vs,u=.ref a/\vm K t G a vs/\Reps K G xs vs/\xs.length<=sizeLine:=by
 cases x<;>first|(cases h; done)|skip
 ·cases h;obtain⟨a,vs,rfl,sq,rs,l⟩:=r;exact⟨true,a,vs,rfl,sq,rs,l⟩
 ·cases h;obtain⟨a,vs,rfl,sq,rs,l⟩:=r;exact⟨false,a,vs,rfl,sq,rs,l⟩
theorem gD{H':Hp}{t:Bool}{a:Addr}{vs:List V}(s:yK H H')(h:vm K t H a vs):vm K t H' a vs:=by
 cases t
 ·exact wZ s h
 ·exact vT s h
theorem oo{t1 t2:Bool}{a b:Addr}{vs us:List V}{xs ys:List D}(s1:vm K t1 G a vs)(s2:vm K t2 G b us)(r1:Reps K G xs vs)(r2:Reps K G ys us):uu K (JS K t1 t2 a b) G (List.zipWith (λx y=>D.tup [x,y]) xs ys) where
 go:=λi G2 H g1 g2 hi=>by
  rw[gO]at hi;obtain⟨v,e1,_⟩:=r1.get (yS (show i<xs.length by omega));obtain⟨u,e2,_⟩:=r2.get (yS (show i<ys.length by omega));exact⟨vs,us,v,u,gD (g1.trans g2) s1,gD (g1.trans g2) s2,e1,e2⟩
 vC:=λi G2 H x H' g1 g2 hi y=>by
  obtain⟨p,hp,rfl,k⟩:=y;obtain⟨v,u,e1,e2,rfl⟩:=k vs us (gD (g1.trans g2) s1) (gD (g1.trans g2) s2);obtain⟨d1,f1,q1⟩:=r1.at e1;obtain⟨d2,f2,q2⟩:=r2.at e2;refine⟨zX G2 p (.tup [v,u]),.tup [d1,d2],zV.lay g2 hp,by rw[Qq,f1,f2],?_⟩;have sm:yK G (zX G2 p (.tup [v,u])):=g1.trans (wY (g2.free hp) _);exact⟨p,[v,u],rfl,yu.of yW,⟨v,_,rfl,q1.mono sm,⟨u,_,rfl,q2.mono sm,rfl⟩⟩,small (n:=2) (by decide)⟩
 stop:=λi G2 H g1 g2 hi=>by
  rw[gO]at hi;refine⟨vs,us,gD (g1.trans g2) s1,gD (g1.trans g2) s2,?_⟩;rw[r1.length,r2.length];omega
end
section
variable{X:Cx}{a b e o:Expr}{fa fb f:FE}{p pos apos cpos:Pos}
theorem dw{elts:List Expr}{kk:Nat}{tp:Pos}(hg:Gl X "zip")(hm:X.mg "zip" = none)(ha:SE X a fa)(hb:SE X b fb)(hs:xS a=true:=by rfl)(hs2:xS b=true:=by rfl):SI X (.Tuple elts kk tp) (.Call (.Name "zip" p) [a,b] [] pos) (p_ fa fb):=by
 obtain⟨t,pt,k⟩:=(zD ha (zD hb zM hs2) hs).h;refine⟨⟨_,(bH hg hm ⟨pt⟩ hs hs2).h,λ{G0 H0 G H τ σ ds R} K hf q=>?_⟩⟩;obtain⟨x,hx,hf⟩:=zP hf;obtain⟨y,hy,hf⟩:=zP hf;obtain⟨xs,hxs,hf⟩:=zP hf;obtain⟨ys,hys,hf⟩:=zP hf;cases hf;refine k K (ds:=[x,y]) (by unfold zA; rw[hx,hy]; rfl) λvs G1 H1 x1 r1=>?_
 obtain⟨v,r,rfl,hv,⟨v2,r2,rfl,hv2,hr⟩⟩:=r1;cases(show r2=[]from hr);obtain⟨t1,a1,vs1,rfl,s1,q1,l1⟩:=Eh hxs hv;obtain⟨t2,a2,vs2,rfl,s2,q2,l2⟩:=Eh hys hv2;refine⟨a1,a2,vs1,vs2,t1,t2,rfl,gD x1.gh s1,gD x1.gh s2,q _ _ _ x1 ?_ (oo s1 s2 q1 q2)⟩;rw[gO];omega
abbrev FO:=yB->Option (Option Int)
def vc:FO:=λ_=>some none
def vd(f:FE):FO:=λσ=>(f σ).bind λd=>match d with
 |.int i=>some (some i)
 |_=>none
def qp{α:Type}(xs:List α)(lo hi:Option Int):List α:=(xs.drop (HT.sIx xs.length 0 lo)).take (HT.sIx xs.length xs.length hi-HT.sIx xs.length 0 lo)
def T6(d:D)(lo hi:Option Int):Option D:=match d with
 |.lst xs=>some (.lst (qp xs lo hi))
 |.tup xs=>if HT.sIx xs.length 0 lo=0/\HT.sIx xs.length xs.length hi=xs.length then none else some (.tup (qp xs lo hi))
 |.str z=>some (.str (cutS z lo hi))
 |_=>none
def pW(a:FE)(lo hi:FO):FE:=λσ=>(a σ).bind λd=>(lo σ).bind λl=>(hi σ).bind λh=>T6 d l h
structure SO(X:Cx)(e:Option Expr)(f:FO):Prop where
 h:∃t,PO X e t/\∀{G0 H0 G H:Hp}{τ:yB}{σ:St}{d:Option Int}{Q:Option Int->Hp->Prop},zw X.K X.N.length G0 H0 G H τ σ->f τ=some d->(∀G' H',zV G H G' H'->Q d H')->t σ H Q
theorem W_:SO X none vc:=⟨⟨_,aX,λE hf q=>by cases hf; exact q _ _ (zV.refl E.ext.gh)⟩⟩
theorem V2(h:SE X e f):SO X (some e) (vd f):=by
 obtain⟨t,pt,k⟩:=h.h;refine⟨⟨_,aY pt,λ{G0 H0 G H τ σ d Q} E hf q=>?_⟩⟩;obtain⟨x,hx,hf⟩:=zP hf;cases x<;>first|(cases hf; done)|skip
 cases hf;exact k E hx λv G' H' x r=>⟨_,r,q _ _ x⟩
theorem Reps.cut{K:W.Frag}{G:Hp}{ds:List D}{vs:List V}(r:Reps K G ds vs)(lo hi:Option Int):Reps K G (qp ds lo hi) (jd vs lo hi):=by
 unfold qp jd;rw[r.length];exact(r.drop _).take _
theorem Uw{α:Type}(xs:List α)(lo hi:Option Int):(qp xs lo hi).length<=xs.length:=by
 unfold qp;rw[gN,ZA];omega
def bR(K:W.Frag):V->Option Int->Option Int->Hp->VK->Prop:=λx lo hi H Q=>EC K x lo hi H Q\/EE K x lo hi H Q\/ED x lo hi H Q
theorem Eo:ql X (bR X.K):=fA.or (fC.or fB)
theorem Q6{lo hi:Option Expr}{fl fh:FO}{p2:Pos}(ha:SE X a fa)(hl:SO X lo fl)(hh:SO X hi fh):SE X (.Subscript a (.Slice lo hi none p2) pos) (pW fa fl fh):=by
 obtain⟨ta,pa,ka⟩:=ha.h;obtain⟨tl,pl,kl⟩:=hl.h;obtain⟨th,ph,kh⟩:=hh.h;refine⟨⟨_,Cd Eo pa pl ph,λ{G0 H0 G H τ σ d Q} E hf q=>?_⟩⟩;obtain⟨x,hx,hf⟩:=zP hf;obtain⟨l,hl,hf⟩:=zP hf;obtain⟨h,hh,hf⟩:=zP hf;refine ka E hx λv G1 H1 x1 r1=>kl (E.go x1) hl λG2 H2 x2=>kh ((E.go x1).go x2) hh λG3 H3 x3=>?_
 have xx:=x1.trans (x2.trans x3);have r3:=r1.mono (x2.g.trans x3.g);cases x with
 |lst xs=>
  cases hf;obtain⟨a,vs,rfl,sq,rs,ll⟩:=r3;refine .inl ⟨a,vs,rfl,wZ x3.gh sq,λp hp=>q _ _ _ (xx.trans (zV.lay x3.gh hp)) ⟨p,_,rfl,yL.of yW,(rs.cut l h).mono (wY (x3.gh.free hp) _),xv (Uw ..) ll⟩⟩
 |tup xs=>
  change (if HT.sIx xs.length 0 l=0/\HT.sIx xs.length xs.length h=xs.length then none else some (D.tup (qp xs l h)))=some d at hf
  by_cases c:HT.sIx xs.length 0 l=0/\HT.sIx xs.length xs.length h=xs.length
  ·rw[zN c]at hf;cases hf
  ·rw[zS c]at hf;cases hf;obtain⟨a,vs,rfl,sq,rs,ll⟩:=r3;refine .inr (.inl ⟨a,vs,rfl,vT x3.gh sq,by rw[rs.length]; exact c,λp hp=>?_⟩);exact q _ _ _ (xx.trans (zV.lay x3.gh hp)) ⟨p,_,rfl,yu.of yW,(rs.cut l h).mono (wY (x3.gh.free hp) _),xv (Uw ..) ll⟩
 |str z=>
  cases hf;obtain⟨rfl,ll⟩:=r3;exact .inr (.inr ⟨z,rfl,ll,q _ _ _ xx ⟨rfl,xv (cut_len ..) ll⟩⟩)
 |_=>cases hf
def IA:List D->Option D
 | [.lst xs]=>some (.lst xs)
 | [.tup xs]=>some (.lst xs)
 |_=>none
def IF:List D->Option D
 | [.lst xs]=>some (.tup xs)
 | [.tup xs]=>some (.tup xs)
 |_=>none
theorem p7{K:W.Frag}{G:Hp}{d:D}{vs:List V}(r:Reps K G [d] vs):∃v,vs=[v]/\ze K G d v:=by
 obtain⟨v,r',rfl,hv,hr⟩:=r;cases(show r'=[]from hr);exact⟨v,rfl,hv⟩
theorem dg{fs:FA}(hg:Gl X "list")(hm:X.mg "list" = none)(ha:SA X [e] fs)(hs:xS e=true:=by rfl):SF X (.Call (.Name "list" p) [e] [] pos) (eL IA fs):=by
 obtain⟨t,pt,k⟩:=ha.h;refine⟨⟨_,(Xr KJ hg hm Jg ⟨pt⟩ (by decide) (by decide) (by rw[wl,hs]; rfl)).h,λ{G0 H0 G H τ σ d Q} E hf q=>?_⟩⟩;obtain⟨ds,hd,hf⟩:=zP hf;refine k E hd λvs G1 H1 x1 r1=>?_
 match ds,hf with
 | [.lst xs],hf=>
  cases hf;obtain⟨v,rfl,a,us,rfl,sq,rs,l⟩:=p7 r1;exact⟨a,us,rfl,.inl (wZ x1.gh sq),λp hp=>q p _ _ (x1.trans (zV.uM x1.gh hp)) (x1.h.free hp) (x1.gh.free hp) ⟨us,yW,rs,l⟩⟩
 | [.tup xs],hf=>
  cases hf;obtain⟨v,rfl,a,us,rfl,sq,rs,l⟩:=p7 r1;exact⟨a,us,rfl,.inr (vT x1.gh sq),λp hp=>q p _ _ (x1.trans (zV.uM x1.gh hp)) (x1.h.free hp) (x1.gh.free hp) ⟨us,yW,rs,l⟩⟩
theorem A5{K:W.Frag}:Mx K (λxs H Q=>∃p ys,xs=[.ref p]/\((yL K H p ys/\∀l,H l=none->Q (.ref l) (zX H l (.tup ys)))\/(yu K H p ys/\Q (.ref p) H))) IF:=λG H ds vs d Q s r hf q=>by
 match ds,hf with
 | [.lst xs],hf=>
  cases hf;obtain⟨v,rfl,a,us,rfl,sq,rs,l⟩:=p7 r;exact⟨a,us,rfl,.inl ⟨wZ s sq,λp hp=>q _ _ _ (zV.lay s hp) ⟨p,us,rfl,yu.of yW,rs.mono (wY (s.free hp) _),l⟩⟩⟩
 | [.tup xs],hf=>
  cases hf;obtain⟨v,rfl,a,us,rfl,sq,rs,l⟩:=p7 r;exact⟨a,us,rfl,.inr ⟨vT s sq,q _ _ _ (zV.refl s) ⟨a,us,rfl,sq,rs,l⟩⟩⟩
def qz(x:D):List D->Nat->Option Nat
 | [],_=>none
 |y::ys,n=>match yM y x with
  |true=>some n
  |false=>qz x ys (n+1)
def kA:D->D->Option D
 |.lst ys,x=>match yH x&&ys.all yH with
  |true=>(qz x ys 0).bind λn=>some (.int n)
  |false=>none
 |_,_=>none
theorem OC{x:D}:∀{ys:List D}{n m:Nat},qz x ys n=some m->∃j y,m=n+j/\ys[j]?=some y/\yM y x=true/\∀i z,i<j->ys[i]?=some z->yM z x=false
 | [],_,_,h=>by cases h
 |y::ys,n,m,h=>by
  change (match yM y x with|true=>some n|false=>qz x ys (n+1))=some m at h
  cases c:yM y x with
  |true=>
   rw[c]at h;cases h;exact⟨0,y,rfl,rfl,c,λi z hi=>absurd hi (Nat.not_lt_zero _)⟩
  |false=>
   rw[c]at h;obtain⟨j,y',e1,e2,e3,e4⟩:=OC h;refine⟨j+1,y',by omega,by simpa using e2,e3,λi z hi ez=>?_⟩;cases i with
   |zero=>cases ez; exact c
   |succ i=>exact e4 i z (by omega) (by simpa using ez)
theorem RT:X4 X "list.index" (λx vs H Q=>∃(a:Addr) (us:List V) (y:V) (j:Nat) (u:V),x=.ref a/\vs=[y]/\yL X.K H a us/\uA y=true/\us.all uA=true/\us[j]?=some u/\vM u y=true/\(∀i z,i<j->us[i]?=some z->vM z y=false)/\Q (.int (j:Int)) H):=by
 intro z6 s σ H x xs v us' Q I rx rs h;obtain⟨a,us,y,j,u,rfl,rfl,sq,fy,fu,eu,hit,no,q⟩:=h;cases rx;obtain⟨w,rfl,ry⟩:=vg rs;obtain⟨its,r,⟨⟨c1,d1,t1,sl1⟩,n1,ho,hc,hd,ht⟩,hz⟩:=I.list sq;simp only at hc ht;subst hc ht;have hl:=r.length;have hj:j<us.length:=(xE.mp eu).1
 have key:∀(i:Nat)(z:V)(hi:i<its.toArray.size),us[i]?=some z->vF y its.toArray[i]=vM z y:=λi z hi ez=>by
  obtain⟨t,et,rt⟩:=r.get ez
  have e:its.toArray[i]=t:=by
   have h2:its[i]?=some its[i]:=yS (by rw[yk]at hi; exact hi);rw[h2]at et;simpa using et
  rw[e];exact T0 rt (wm.mp fu z (tJ ez))
 have hjs:j<its.toArray.size:=by rw[yk,<-hl]; exact hj
 have hsz:=YG;refine VR PySem.F.slot_list_index ⟨_,ho,rfl⟩ PySem.F.entry_list_index (PySem.F.args_list_index_2 _ _) (SeqAt.list_indexAt a its.toArray n1 d1 sl1 w (vF y) j hjs (by omega) (by rw[key j u hjs eu]; exact hit) λm hm hlt=>?_) ⟨ho,λt ht=>?_,⟨.int j,H,I.tok _,⟨_,rfl⟩,q⟩⟩
 ·have hm':m<us.length:=by rw[yk,<-hl]at hm; exact hm
  rw[key m us[m] hm (yS hm')];exact no m _ hlt (yS hm')
 ·exact kP ry fy r fu t (by simpa using ht)
theorem Eg{fo:FE}(ho:SE X o fo)(he:SE X e f)(hbase:attributeBase o "index" X.env (eval o X.env)=eval o X.env:=by rfl)(hline:(apos.endLine==cpos.line)=true:=by rfl)(hs:xS e=true:=by rfl) :
  SE X (.Call (.Attribute o "index" apos) [e] [] cpos) (e2 kA fo f):=by
 obtain⟨to,po,ko⟩:=ho.h;obtain⟨te,pe,ke⟩:=(zD he zM hs).h;refine⟨⟨_,(Xq PySem.F.plainAttrs_list PySem.F.slot_list_index PySem.F.type_list_index RT ⟨po⟩ ⟨pe⟩ hbase hline (by rw[wl,hs]; rfl) (by show 1<30; decide)).h,λ{G0 H0 G H τ σ d Q} E hf q=>?_⟩⟩;obtain⟨x,hx,hf⟩:=zP hf;obtain⟨y,hy,hf⟩:=zP hf;refine ko E hx λv G1 H1 x1 r1=>?_
 cases x with
 |lst ys=>
  obtain⟨a,us,rfl,sq,rs,_⟩:=r1;refine⟨.inl ⟨rfl,us,wZ x1.gh sq⟩,ke (E.go x1) (ds:=[y]) (by unfold zA; rw[hy]; rfl) λws G2 H2 x2 r2=>?_⟩;obtain⟨w,rfl,rw_⟩:=p7 r2
  change (match yH y&&ys.all yH with|true=>(qz y ys 0).bind λn=>some (D.int n)|false=>none)=some d at hf
  cases c:(yH y&&ys.all yH)with
  |false=>rw[c]at hf; cases hf
  |true=>
   rw[c]at hf;obtain⟨n,hn,hf⟩:=zP hf;cases hf;rw[xP]at c;obtain⟨j,z,e1,e2,e3,e4⟩:=OC hn;rw[xw]at e1;subst e1;have rs2:=rs.mono x2.g;obtain⟨u,eu,ru⟩:=rs2.get e2;have fl:∀{i:Nat}{z:D},ys[i]?=some z->yH z=true:=λ{i z} ez=>wm.mp c.2 z (tJ ez)
   refine⟨a,us,w,n,u,rfl,rfl,wZ (x1.gh.trans x2.h) sq,g8 c.1 rw_,(Xv c.1 rw_ rs2 c.2).1,eu,by rw[kj (fl e2) c.1 ru rw_]; exact e3,λi z hi ez=>?_,q _ _ _ (x1.trans x2) rfl⟩;obtain⟨dz,ed,rd⟩:=rs2.at ez;rw[kj (fl ed) c.1 rd rw_];exact e4 i dz hi ed
 |_=>cases hf
theorem QB{i:Nat}{x:Str}{op:Operator}{ti:XA}{F:D->D->Option D}{pos':Pos}(ho:JV X op ti)(hF:vX X.K ti F)(hN:X.N.Nodup)(hi:X.N[i]?=some x)(hx:qk X.env.scope x)(he:SE X e f)(hf:X.fn x=true\/X.env.scope.names.lookup x=some .local:=by first|exact .inl rfl|exact .inr rfl|assumption) :
  SS X (.AugAssign (.Name x pos') op e pos) (zh i (e2 F (z7 i) f)):=by
 obtain⟨t,pt,k⟩:=he.h;refine⟨⟨_,af hN hi hx pt ho hf,λ{G0 H0 G H τ σ fl E} K hf q=>?_⟩⟩;obtain⟨d,hd,hf⟩:=zP hf;cases hf;obtain⟨x,hx,hd⟩:=zP hd;obtain⟨y,hy,hd⟩:=zP hd;obtain⟨v,ev,rv⟩:=K.fr _ _ (Bl hx);refine⟨v,ev,k K hy λu G1 H1 x1 r1=>hF G1 H1 x y v u d _ x1.gh (rv.mono x1.g) r1 hd λw G2 H2 x2 r2=>?_⟩;exact q _ _ _ (((K.go x1).go x2).set (xE.mp hi).1 r2)
theorem Tl{K:W.Frag}:vX K (DW λi j=>i+j) (tY λi j=>i+j):=λG H x y u v d Q s rx ry hf q=>by
 cases x<;>first|(cases hf; done)|skip
 cases y<;>first|(cases hf; done)|skip
 cases hf;exact⟨_,_,rx,ry,q _ _ _ (zV.refl s) rfl⟩
variable{x:Str}{ps:List Str}{j k:Nat}{FF:List D->Option (Bool×D)}
end
def FR(n N:Nat)(b:FS)(ds:List D):Option (Bool×D):=if ds.length=n then zc N b ds else none
theorem yX{n N:Nat}{b:FS}:∀ds r,FR n N b ds=some r->ds.length=n/\zc N b ds=some r:=λds r h=>by
 unfold FR at h
 split at h
 ·rename_i c;exact⟨c,h⟩
 ·cases h
theorem GF{M:Model}{A:Around}{E:Value->Shared->Prop}{zF:Array Value}{x:Value}{e:Value->Bool}{j:Nat}(hM:∃prog w,M=model prog w)(hj:j<zF.size)(hit:e zF[j]=true)(no:∀m (hm:m<zF.size),m<j->e zF[m]=false){s:Shared}
  (he:∀y∈zF,SeqAt.EqAt A s y x (e y)){Q:Option PySem.Fin×Unit->Shared->Prop}(h:Q (some (.done (.ret (.int j s.toks))),()) { s with toks:=s.toks+1 }):∀m i:Nat,i+m=zF.size->i<=j->
  wpAny M A (forIn (List.range' i m) ((none,()):Option PySem.Fin×Unit) λ(i:Nat) (_:Option PySem.Fin×Unit)=>match zF[i]? with
   |some y=>do
    let __do_lift <-eqBool y x
    if __do_lift=true then do
      let __do_lift <-retInt (i:Int)
      pure (ForInStep.done (some __do_lift,()))
     else pure (ForInStep.yield (none,()))
   |_=>pure (ForInStep.yield (none,()))) Q E s
 |0,i,h1,h2=>by omega
 |m+1,i,h1,h2=>by
  obtain⟨prog,w,rfl⟩:=hM;have hi:i<zF.size:=by omega
  rw[List.range'_succ,MG];refine zC ?_;rw[gH hi];refine zC (he _ (Array.getElem_mem hi) prog w E _ ?_);by_cases c:i=j
  ·subst c;rw[hit,zN rfl]
   wp_walk
   exact h
  ·rw[no i hi (by omega),zS (by decide)];refine zO ?_;exact GF ⟨prog,w,rfl⟩ hj hit no he h m (i+1) (by omega) (by omega)
theorem lw(t:Addr)(zF:Array Value)(x:Value)(e:Value->Bool)(j:Nat)(hj:j<zF.size)(hit:e zF[j]=true)(no:∀m (hm:m<zF.size),m<j->e zF[m]=false) :
  Meets (Builtin.«tuple.index» ⟨[.ref t,x],[]⟩) (λA R s=>IsTup s.heap t zF/\(∀y∈zF,SeqAt.EqAt A.in1 s y x (e y))/\R (.ok (.ret (.int j s.toks))) { s with toks:=s.toks+1 }):=by
 intro prog w A R s h;obtain⟨hp,g,d,tk,os⟩:=s;obtain⟨⟨o,ho,hc,n,hd⟩,he,h⟩:=h;unfold Builtin.«tuple.index»
 wp_walk
 skip
 rw[hd];refine zO (zO ?_);show wpAny _ _ (pure 0 >>= _) _ _ _;refine zC (zO (zC (zO (zC ?_))));rw[Std.Legacy.Range.forIn_eq_forIn_range'];have hs:Std.Legacy.Range.size [0:min zF.size zF.size]=zF.size:=by simp[Std.Legacy.Range.size]
 rw[hs];refine GF ⟨prog,w,rfl⟩ hj hit no he ?_ zF.size 0 (by omega) (by omega);exact zO h
section
variable{X:Cx}{e o k v:Expr}{f fo fk fv:FE}{x:Str}{xp p pos apos cpos:Pos}
theorem RU:X4 X "tuple.index" (λx vs H Q=>∃(a:Addr) (us:List V) (y:V) (j:Nat) (u:V),x=.ref a/\vs=[y]/\yu X.K H a us/\uA y=true/\us.all uA=true/\us[j]?=some u/\vM u y=true/\(∀i z,i<j->us[i]?=some z->vM z y=false)/\Q (.int (j:Int)) H):=by
 intro z6 s σ H x xs v us' Q I rx rs h;obtain⟨a,us,y,j,u,rfl,rfl,sq,fy,fu,eu,hit,no,q⟩:=h;cases rx;obtain⟨w,rfl,ry⟩:=vg rs;obtain⟨its,r,pt,hz⟩:=I.tuple sq;have hl:=r.length;have hj:j<us.length:=(xE.mp eu).1
 have key:∀(i:Nat)(z:V)(hi:i<its.toArray.size),us[i]?=some z->vF y its.toArray[i]=vM z y:=λi z hi ez=>by
  obtain⟨t,et,rt⟩:=r.get ez
  have e:its.toArray[i]=t:=by
   have h2:its[i]?=some its[i]:=yS (by rw[yk]at hi; exact hi);rw[h2]at et;simpa using et
  rw[e];exact T0 rt (wm.mp fu z (tJ ez))
 have hjs:j<its.toArray.size:=by rw[yk,<-hl]; exact hj
 refine VR PySem.F.slot_tuple_index pt.typeIs PySem.F.entry_tuple_index (PySem.F.args_tuple_index_2 _ _) (lw a its.toArray w (vF y) j hjs (by rw[key j u hjs eu]; exact hit) λm hm hlt=>?_) ⟨pt,λt ht=>?_,⟨.int j,H,I.tok _,⟨_,rfl⟩,q⟩⟩
 ·have hm':m<us.length:=by rw[yk,<-hl]at hm; exact hm
  rw[key m us[m] hm (yS hm')];exact no m _ hlt (yS hm')
 ·exact kP ry fy r fu t (by simpa using ht)
def UC(K:W.Frag)(A:Addr):Prop:=∃o,K.lookup A=some o/\o.cls=.type "tuple" /\ o.dict=none
def XO(ds:List D)(y:D):Option D:=kA (.lst ds) y
theorem dR{A:Addr}{ds:List D}(h:yf X.mg x (.ref A))(r:∀H,ze X.K H (.tup ds) (.ref A))(kt:UC X.K A)(hg:Gl X x)(he:SE X e f)(hd:(x==("__debug__" : Str))=false:=by decide)
  (hbase:attributeBase (.Name x xp) "index" X.env (eval (.Name x xp) X.env)=eval (.Name x xp) X.env:=by rfl)(hline:(apos.endLine==cpos.line)=true:=by rfl)(hs:xS e=true:=by rfl) :
  SE X (.Call (.Attribute (.Name x xp) "index" apos) [e] [] cpos) (e1 (XO ds) f):=by
 obtain⟨te,pe,ke⟩:=(zD he zM hs).h;refine⟨⟨_,(Xq PySem.F.plainAttrs_tuple PySem.F.slot_tuple_index PySem.F.type_tuple_index RU (bG h hg hd) ⟨pe⟩ hbase hline (by rw[wl,hs]; rfl) (by show 1<30; decide)).h,λ{G0 H0 G H τ σ d Q} E hf q=>?_⟩⟩;obtain⟨y,hy,hf⟩:=zP hf;refine⟨.inr (.inl ⟨rfl,kt⟩),ke E (ds:=[y]) (by unfold zA; rw[hy]; rfl) λws G2 H2 x2 r2=>?_⟩;obtain⟨w,rfl,rw_⟩:=p7 r2;obtain⟨a,us,ea,sq,rs,_⟩:=r G2;cases ea
 change (match yH y&&ds.all yH with|true=>(qz y ds 0).bind λn=>some (D.int n)|false=>none)=some d at hf
 cases c:(yH y&&ds.all yH)with
 |false=>rw[c]at hf; cases hf
 |true=>
  rw[c]at hf;obtain⟨n,hn,hf⟩:=zP hf;cases hf;rw[xP]at c;obtain⟨j,z,e1,e2,e3,e4⟩:=OC hn;rw[xw]at e1;subst e1;obtain⟨u,eu,ru⟩:=rs.get e2;have fl:∀{i:Nat}{z:D},ds[i]?=some z->yH z=true:=λ{i z} ez=>wm.mp c.2 z (tJ ez)
  refine⟨A,us,w,n,u,rfl,rfl,vT x2.gh sq,g8 c.1 rw_,(Xv c.1 rw_ rs c.2).1,eu,by rw[kj (fl e2) c.1 ru rw_]; exact e3,λi z hi ez=>?_,q _ _ _ x2 rfl⟩;obtain⟨dz,ed,rd⟩:=rs.at ez;rw[kj (fl ed) c.1 rd rw_];exact e4 i dz hi ed
def gy(i:Int):Nat:=Builtin.Int.intBits i
end
open PySem.W
theorem GV:∀{ns:List Int}{m:Int},m∈ns->gy m<=WData.weightAll (ns.map WData.int)
 | [],_,h=>by cases h
 |n::ns,m,h=>by
  have e:WData.weightAll ((n::ns).map WData.int)=gy n+1+WData.weightAll (ns.map WData.int):=by
   show WData.weightAll (WData.int n::ns.map WData.int)=_;rw[WData.weightAll];rfl
  rw[e];rcases yT.mp h with rfl|h
  ·omega
  ·have:=GV h;omega
theorem RH{ns:List Int}(h:WData.layableAll [.list (ns.map WData.int)]=true):∀m∈ns,gy m<=1048576:=λm hm=>by
 have h1:WData.layable (.list (ns.map WData.int))=true:=wm.mp h _ (vB.mpr rfl);unfold WData.layable at h1;rw[xP]at h1;have h2:WData.weight (.list (ns.map WData.int))<=2 ^ 20:=w_ h1.2;have h3:=GV hm;have h4:WData.weight (.list (ns.map WData.int))=WData.weightAll (ns.map WData.int):=by rw[WData.weight]
 omega
section
variable{P:Program}{w:World}{K:W.Frag}{mg:Str->Option Value}{base:Heap}
def V3(K:W.Frag):Sp:=λvs H Q _=>∃(a:Addr) (ns:List Int),vs=[.ref a]/\yL K H a (ns.map V.int)/\ns.length<=63/\(∀m∈ns,gy m<=1048576)/\∀H',Q (.bl true) H'
theorem RG{x:Str}{st:Stmt}{N:List Str}{k:Nat}{b:FS}{f:Addr}{fd:FuncData}(d:jV K "law" "law" st f fd)(S:yG N [x] (zz st))(hN:1<=N.length)(hrun:∀ns:List Int,ns.length<=63->(∀m∈ns,gy m<=1048576)->∃o,zc N.length b [.lst (ns.map D.int)]=some (o,.bl true))
  (hb:∀(cdv:Value)(A:Around)(outer:List Env)(s:Shared)(H:Hp)(E:XK),w8 k (A.deeper (envOfC "law" (zz st) s.heap.objs.size f cdv))->uU (pV tQ P w K mg base N "law" (zz st) f cdv A outer s H E).gZ (qq st) b):qL P w K mg base tQ (k+1) f fd [x] (V3 K):=by
 refine d.ok S (λvs H Q E h=>?_) λcdv A outer s H vs Q E hr h=>?_
 ·obtain⟨a,ns,rfl,_⟩:=h;rfl
 ·obtain⟨a,ns,rfl,sq,l,hbits,q⟩:=h;obtain⟨o,hrun⟩:=hrun ns l hbits;obtain⟨t,p,kt⟩:=(hb cdv A outer s H E hr).h;obtain⟨fl,hfl,hrun⟩:=zP hrun;have r:Reps K H [.lst (ns.map D.int)] [.ref a]:=⟨_,_,rfl,⟨a,_,rfl,sq,Reps.ints,by rw[zx]; exact small (by omega)⟩,rfl⟩;refine⟨t,p,kt (Bs (N:=N) (yK.refl H) r hN) hfl ?_⟩;cases fl with
  |nx τ=>cases hrun
  |rt o' d'=>
   cases hrun;cases o with
   |false=>
    intro v G H' _ r;cases(show v=.bl true from r);exact q H'
   |true=>exact λp G H' _ _ _ z=>z.elim
  |_=>cases hrun
end
theorem walkB{l:W.OpenLaw}{n k:Nat}{q:Program}{loose:List Str}{XP:(Str->Option Value)->Heap->Prop}{YP:World->Heap->Prop}{d:DefRec}{K:Params->W.Frag}{sp:W.Frag->Sp}{x:Str}
  (hn:l.most=some n)(hn2:n<=sizeLine)(hdf:d.params.defaults=[])(hr:w8 k callerA)(hY:∀(w:World)(h:Heap),YP w h->(K w.params).In h)
  (F:∀(w:World)(mg:Str->Option Value)(fa:Addr)(h:Heap),(K w.params).In h->h.Ns mainGlobals mg->mg d.name=some (.ref fa)->
   ∃fd:FuncData,(∀(s:Shared)(u:Value),BindsTo s fd ⟨[u],[]⟩ [(x,u)])/\∀base:Heap,(K w.params).In base->base.Ns mainGlobals mg->qL l.prog w (K w.params) mg base tQ k fa fd [x] (sp (K w.params)))
  (hsp:∀(K:W.Frag)(H:Hp)(a:Addr)(ns:List Int),ns.length<=n->(∀m∈ns,gy m<=1048576)->yL K H a (ns.map V.int)->sp K [.ref a] H (λv _=>v=.bl true) λ_ _ _=>False) :
  W.WalkO q loose XP YP l.row.toRowW d [] (λf vs=>PySem.call f vs):=by
 intro w s0 s1 mg mb Gr Y fa o pm cd doc dV kV ho hd hcd hD hmg hg args vals as hpre hlay hrd hwl hlo;have e1:dV=.none:=Dflts.none hD hdf;have e2:kV=.none:=Dflts.noKw hD;subst e1 e2;obtain⟨a,vs,ns,rfl,rfl,hobj,hints,hlen⟩:=Att.script_of hn hpre hwl;have KX:=hY w _ Y;obtain⟨fd,hb,hF⟩:=F w mg fa _ KX Gr.T.g hmg;have main:=RF KX Gr.T.g Gr.T.b Gr.T.builtins Gr.T.nolimit hg hobj hints (xv hlen hn2) hr hF hb (λH _ hS=>hsp _ H a ns hlen (RH hlay) hS) (λ_ _ _ z=>z);refine enter_call (VS main λr s' hq=>?_);obtain⟨rfl,h2,h3,h4⟩:=hq;refine⟨.inl ⟨.bool true,.bool true,[],rfl,λ_=>rfl,.bool true,Att.post_true l _,λ_=>?_⟩,h2,h3,h4⟩;exact⟨List.Pairwise.nil,λ_ hm=>nomatch hm⟩
end L3
namespace L3
open PySem PySem.Spec PyProof.Rows L2
theorem NB{prog:Program}{w:World}{A:Around}{E:Value->Shared->Prop}{s:Shared}{a:Addr}{o:Obj}{xs:Array Value}{k:Nat}{name:Str}{Q:Option Value->Shared->Prop}
  (hx:s.heap.get? a=some o)(hc:o.cls=.type "list")(hdat:o.data=.seq xs k)(hd:o.dict=none)(hmiss:typeLookup (.type "list") name=pure none)
  (hname:(["__module__", "__name__", "__qualname__", "__doc__", "__annotations__"]:List Str).contains name=false)(hA:A.handled=none)
  (h:∀h' tk,(∀b ob,s.heap.get? b=some ob->h'.get? b=some ob)->Q none { s with heap:=h',toks:=tk })(hsz:name.length+100<=sizeLine) :
  wpAny (model prog w) A (getAttr? (.ref a) name) Q E s:=by
 obtain⟨c,dct,dat,sl⟩:=o;simp only at hc hdat hd;subst hc hdat hd;obtain⟨hp,g,d,tk,os⟩:=s;have hT:∀tk',(⟨hp,g,d,tk',os⟩:Shared).TypeIs (.ref a) "list" := λ_=>⟨_,hx,rfl⟩
 have f1:=sub_AttributeError;have f3:=M3.lookup;have f4:=M3.bind (.ref a);have f5:=am_list_getattr_none;unfold getAttr? getAttrBy? getAttrBy
 repeat (any_goals (first|assumption|exact hT _|((with_reducible show wpAny _ _ (call (Value.builtin "list.__getattribute__") _ _) _ _ _); refine VR M3 (hT _) am_entry_list_getattribute (F.args_list_getattribute_2 _ _) (meets_getattribute_miss_list a xs k sl name _ hmiss hname hsz) ⟨hx,hA,λh' tk' e hx'=>?_⟩)|wp_step))
 obtain⟨t',u',he⟩:=hx'.there;show wpAny _ _ (getattributeRaised _ _ _ _ _ _ _) _ _ _;unfold getattributeRaised
 repeat (any_goals (first|assumption|wp_step))
 exact h _ _ hx'.keeps
theorem Ts:plainId "dict.update.loop" = true:=by decide +kernel
theorem Br:entryFor table "dict.update.loop" = some Builtin.«dict.update.loop»:=entryFor_of_fast (by kernel_rfl)
theorem _root_.PySem.Heap.DictOf.J9{prog:Program}{w:World}{h h':Heap}{a:Addr}{kvs:List (zJ×Value)}(hm:h.DictOf (yd prog w) a kvs)(k:∀o,h.get? a=some o->h'.get? a=some o):h'.DictOf (yd prog w) a kvs:=
 let ⟨o',es,ep,ho,r⟩:=hm; ⟨o',es,ep,k _ ho,r⟩
theorem fR(kvs:List (zJ×Value))(k:zJ)(v:Value):(stored kvs k v).length<=kvs.length+1:=by
 unfold stored
 split
 ·rw[zx]; omega
 ·rw[yj]; exact zr _
def JW(h:Heap)(v:Value)(k:zJ)(x:Value):Prop:=∃b key,v=.ref b/\vO k key=true/\IsTup h b #[key,x]
theorem GM{prog:Program}{w:World}{A:Around}{R:Result->Shared->Prop}{d it l:Addr}{its:List Value}(hA:A.handled=none)(hdl:d≠l)(hdi:d≠it)(hli:l≠it) :
  ∀(kvs:List (zJ×Value)) (i:Nat) (acc:List (zJ×Value)) (s:Shared),s.heap.IsListIter it l i->s.heap.IsList l its.toArray->i+kvs.length=its.length->(∀j kv,kvs[j]?=some kv->∃v,its[i+j]?=some v/\JW s.heap v kv.1 kv.2)->
   s.heap.DictOf (yd prog w) d acc->acc.length+kvs.length<=sizeLine->(∀h' tk,h'.DictOf (yd prog w) d (kvs.foldl (λa kv=>stored a kv.1 kv.2) acc)->(∀b o,b≠d->b≠it->s.heap.get? b=some o->h'.get? b=some o)->R (.ok (.ret .none)) { s with heap:=h',toks:=tk })->
   wpAny (model prog w) A.in1 (Builtin.«dict.update.loop» ⟨[.ref d,.ref it,rawInt i,.none],[]⟩) (λfin s'=>match fin with|.done f=>R (.ok f) s'|.again c'=>c'.quiet=true/\codeAny (model prog w) A c' R s') (λe s'=>R (.error e) s') s
 | [],i,acc,s,st,hl,hn,hp,hd,hz,h=>by
  unfold Builtin.«dict.update.loop»;refine zC (Mk (by exact hA) st hl (by simp at hn ⊢; omega) λh' eb=>?_);show wpAny _ _ (Builtin.Dict.addKeywords d [] >>= _) _ _ _;refine zC (zO (zO ?_));exact h h' s.toks (hd.J9 λo e=>eb d o hdi e) (λb o _ hb e=>eb b o hb e)
 |kv::kvs,i,acc,s,st,hl,hn,hp,hd,hz,h=>by
  obtain⟨v,hv,b,key,rfl,hk,ht⟩:=hp 0 kv rfl;unfold Builtin.«dict.update.loop»;refine zC (Ml st hl (x:=.ref b) (by simpa using hv) λh1 st1 sb=>?_);have keep1:∀c o,c≠it->s.heap.get? c=some o->h1.get? c=some o:=λc o hc e=>(sb.2 c hc).trans e
  have notIt:∀{c:Addr}{xs:Array Value},IsTup s.heap c xs->c≠it:=λ{c xs} t e=>by
   subst e;obtain⟨o,e1,c1,_⟩:=t;obtain⟨o',e2,c2,_⟩:=st;rw[e1]at e2;cases e2;rw[c1]at c2;exact absurd (Value.type.inj c2) (by decide)
  have notD:∀{c:Addr}{xs:Array Value},IsTup s.heap c xs->c≠d:=λ{c xs} t e=>by
   subst e;obtain⟨o,e1,c1,_⟩:=t;obtain⟨o',es,ep,e2,c2,_⟩:=hd;rw[e1]at e2;cases e2;have c3:=c2.1;rw[c1]at c3;exact absurd (Value.type.inj c3) (by decide)
  obtain⟨o,ho,hc,n,hdat⟩:=ht;have ho1:=keep1 b o (notIt ⟨o,ho,hc,n,hdat⟩) ho;have hd1:h1.DictOf (yd prog w) d acc:=hd.J9 λo e=>keep1 d o hdi e
  refine zC (qG (zC (Yv ?_)));unfold Builtin.Dict.pairItems;refine zC (gU (T := "tuple") ⟨o,ho1,hc⟩ ?_);rw[zN (by rfl)];refine zC (tM ho1 hdat (zO ?_));refine qG (wpAny_dictSet_pairs (knd:=yd prog w) (k:=kv.1) hk hd1 (λh2 hd2 sb2=>?_) (by omega));refine zO ⟨jG Ts _,pI Br ?_⟩;rw[Z6 Ts _];have keep2:∀c o,c≠d->c≠it->s.heap.get? c=some o->h2.get? c=some o:=λc o h1' h2' e=>(sb2.2 c h1').trans (keep1 c o h2' e)
  have key2:∀{c:Addr}{xs:Array Value},IsTup s.heap c xs->IsTup h2 c xs:=λ{c xs} t=>by
   have a1:=notD t;have a2:=notIt t;obtain⟨o,e1,r⟩:=t;exact⟨o,keep2 c o a1 a2 e1,r⟩
  refine GM (its:=its) hA hdl hdi hli kvs (i+1) (stored acc kv.1 kv.2) _ ?_ ?_ (by rw[xc]at hn; omega) (λj kv' e=>?_) hd2 ?_ λh' tk hd' kp=>?_
  ·exact st1.at λo e=>(sb2.2 it (λz=>hdi z.symm)).trans e
  ·obtain⟨o,e,r⟩:=hl;exact⟨o,keep2 l o (λz=>hdl z.symm) hli e,r⟩
  ·obtain⟨v',hv',b',key',rfl,hk',ht'⟩:=hp (j+1) kv' (by simpa using e);exact⟨_,by rw[show i+1+j=i+(j+1) by omega]; exact hv',b',key',rfl,hk',key2 ht'⟩
  ·have:=fR acc kv.1 kv.2;rw[xc]at hz;omega
  ·exact h h' tk hd' λc o h1' h2' e=>kp c o h1' h2' (keep2 c o h1' h2' e)
theorem KB{prog:Program}{w:World}{A:Around}{E:Value->Shared->Prop}{s:Shared}{l:Addr}{o:Obj}{its:List Value}{n:Nat}{kvs:List (zJ×Value)}{Q:Value->Shared->Prop}(hA:A.handled=none)(ho:s.heap.get? l=some o)(hc:o.cls=.type "list")(hdd:o.dict=none)(hdat:o.data=.seq its.toArray n)
  (hn:kvs.length=its.length)(hp:∀(j:Nat)(kv:zJ×Value),kvs[j]?=some kv->∃v,its[j]?=some v/\JW s.heap v kv.1 kv.2)(hz:kvs.length<=sizeLine)
  (h:∀h' tk,h'.DictOf (yd prog w) s.heap.objs.size (kvs.foldl (λa kv=>stored a kv.1 kv.2) [])->(∀b o,s.heap.get? b=some o->h'.get? b=some o)->Q (.ref s.heap.objs.size) { s with heap:=h',toks:=tk }) :
  wpAny (model prog w) A (call (.type "dict") [.ref l]) Q E s:=by
 refine callType_codes (Q₁:=λobj s₁=>obj=.ref s.heap.objs.size/\s₁={ s with heap:=s.heap.push { cls:=.type "dict",data:=.dict #[] } }) F.kt_called_dict (F.kt_typeCall_dict_1 _) F.entry_dict_init (kt_code_dict_new _ ⟨rfl,rfl⟩) ?_;rintro obj s₁ ⟨rfl,rfl⟩;have hnew:(s.heap.push { cls:=.type "dict",data:=.dict #[] }).DictOf (yd prog w) s.heap.objs.size []:=Heap.DictOf.new s.heap;refine⟨hnew.typeIs,F.args_dict_init_2 _ _,?_⟩;unfold Builtin.«dict.__init__»;refine zC ?_;unfold Builtin.Dict.selfAndRest;refine zC (wpAny_notOrdered_dict hnew.typeIs ?_);show wpAny _ _ (pure (s.heap.objs.size,[Value.ref l])) _ _ _;refine zO ?_;show wpAny _ _ (Builtin.Dict.updateFrom "dict.__init__" s.heap.objs.size (.ref l) [] .none) _ _ _;unfold Builtin.Dict.updateFrom;have hlt:=Heap.lt_size ho;have ho1:(s.heap.push { cls:=.type "dict",data:=.dict #[] }).get? l=some o:=Heap.get?_push_of_some _ ho;refine zC (gU (T := "list") ⟨o,ho1,hc⟩ ?_);rw[zN (by rfl)];refine zC (NB (o:=o) ho1 hc hdat hdd (am_miss_of_fast (by kernel_rfl)) (by decide) (by exact hA) (λh1 tk1 kp1=>?_) (by decide));rw[zN (by rfl)];have hd1:h1.DictOf (yd prog w) s.heap.objs.size []:=hnew.J9 λo e=>kp1 _ _ e
 have ho2:h1.get? l=some o:=kp1 _ _ ho1;have hl1:h1.IsList l its.toArray:=⟨o,ho2,hc,n,hdat⟩
 have hd1lt:s.heap.objs.size<h1.objs.size:=by
  obtain⟨o',_,_,e,_⟩:=hd1;exact Heap.lt_size e
 show wpAny _ _ (pure () >>= _) _ _ _;refine zC (zO (zC ?_));refine VX (s:={ s with heap:=h1,toks:=tk1 }) hl1 ?_;refine zO ⟨jG Ts _,pI Br ?_⟩;rw[Z6 Ts _];have k0:∀b ob,s.heap.get? b=some ob->(h1.push { cls:=.type "list_iterator",data:=.fields #[.ref l,.int 0 0] }).get? b=some ob:=λb ob e=>Heap.get?_push_of_some _ (kp1 b ob (Heap.get?_push_of_some _ e))
 refine GM (l:=l) (its:=its) (A:=A.in1) (by exact hA) (xF (uJ hlt)) (xF (w6 hd1lt)) (xF (w6 (Qu hlt hd1lt))) kvs 0 [] _ ⟨_,Heap.get?_push_size _ rfl,rfl,rfl⟩ ⟨o,k0 l o ho,hc,n,hdat⟩ (by rw[xw]; exact hn) (λj kv e=>?_) (hd1.push _) (by simpa using hz) λh' tk hd' kp=>?_
 ·obtain⟨v,hv,b,key,rfl,hk,o',e1,r⟩:=hp j kv e;exact⟨_,by rw[xw]; exact hv,b,key,rfl,hk,o',k0 b o' e1,r⟩
 ·refine⟨rfl,h h' tk hd' λb ob e=>?_⟩;have hb:=Heap.lt_size e;exact kp b ob (xF (w6 hb)) (xF (w6 (Qu hb hd1lt))) (k0 b ob e)
section
variable{X:Cx}
theorem CY{z6:List (Addr×Obj)}{σ:St}{H:Hp}{s:Shared}(I:Inv X z6 σ H s):∀{kvs:List (zJ×V)} {vs:List V} {its:List Value},zy vs its->kvs.length=vs.length->(∀(j:Nat)(kv:zJ×V),kvs[j]?=some kv->∃b,vs[j]?=some (V.ref b)/\yu X.K H b [kV kv.1,kv.2])->
  ∃ws:List (zJ×Value),KV kvs ws/\∀(j:Nat)(kw:zJ×Value),ws[j]?=some kw->∃v,its[j]?=some v/\JW s.heap v kw.1 kw.2
 | [],_,_,_,_,_=>⟨[],.nil,λj kw e=>by cases e⟩
 |kv::kvs,[],_,_,h,_=>by cases h
 |kv::kvs,_::vs,_::its,.cons r t,h,hp=>by
  obtain⟨ws,rk,hw⟩:=CY I t (by simpa using h) λj kv' e=>by
   obtain⟨b,e1,q⟩:=hp (j+1) kv' (by simpa using e);exact⟨b,by simpa using e1,q⟩
  obtain⟨b,e1,sq⟩:=hp 0 kv rfl;cases e1;obtain⟨is,ri,pt,_⟩:=I.tuple sq;obtain⟨key,x,rfl,rkey,rx⟩:=V7 ri;refine⟨(kv.1,x)::ws,.cons ⟨rfl,rx⟩ rk,λj kw e=>?_⟩;cases j with
  |zero=>
   cases e;exact⟨_,rfl,b,key,r,j2 (P:=X.prog) (w:=X.w) rkey,pt⟩
  |succ j=>
   obtain⟨v,e2,q⟩:=hw j kw (by simpa using e);exact⟨v,by simpa using e2,q⟩
def bJ(K:W.Frag):List V->Hp->VK->Prop:=λxs H Q=>∃a vs kvs,xs=[.ref a]/\yL K H a vs/\kvs.length=vs.length/\(∀(j:Nat)(kv:zJ×V),kvs[j]?=some kv->∃b,vs[j]?=some (.ref b)/\yu K H b [kV kv.1,kv.2])/\∀p,H p=none->Q (.ref p) (zX H p (.dK (qV [] kvs)))
theorem KA(hcalm:X.calm=true):wK X (.type "dict") (bJ X.K):=by
 intro z6 s σ H xs us Q I r h;obtain⟨a,vs,kvs,rfl,sq,hl,hp,q⟩:=h;obtain⟨u,rfl,ru⟩:=vg r;cases(show u=Value.ref a from ru);obtain⟨its,rv,⟨o,n,ho,hc,hdd,hdat⟩,hz⟩:=I.list sq;obtain⟨ws,rk,hw⟩:=CY I rv hl hp;have hlw:ws.length=its.length:=by rw[<-rk.length,hl,rv.length]
 refine KB (I.ok.hd hcalm) ho hc hdd hdat hlw hw (by rw[hlw,<-rv.length]; exact hz) λh' tk dd kp=>?_
 have hle:(qV [] kvs).length<=sizeLine:=by
  have h1:=OV kvs [];rw[pF]at h1;omega
 have hm:(s.heap.objs.size==sysModules)=false:=by
  have:=I.big;rw[gS];exact xF (uJ this)
 exact⟨.ref s.heap.objs.size,_,I.laid (a:=s.heap.objs.size) (o:=.dK (qV [] kvs)) (t':=tk) kp (zr _) (Jr hle hm (rk.merge .nil) dd),rfl,q _ I.fresh⟩
end
def qU:List D->Option (List (Sum Int Str)×List D)
 | []=>some ([],[])
 |.tup [k,v]::r=>(qT k).bind λk=>(qU r).bind λp=>some (k::p.1,v::p.2)
 |_=>none
def xD{α:Type}:List (Sum Int Str)->List α->List (Sum Int Str)->List α->List (Sum Int Str)×List α
 |ks,ds,k::r,v::q=>xD (xr ks k) (xz ks ds k v) r q
 |ks,ds,_,_=>(ks,ds)
def jg:List D->Option D
 | [.lst xs]=>(qU xs).bind λp=>some (.dic (xD [] [] p.1 p.2).1 (xD [] [] p.1 p.2).2)
 |_=>none
theorem Ct:∀{ks:List zJ}{us:List V}{as:List zJ}{vs:List V},ks.length=us.length->as.length=vs.length->qV (as.zip vs) (ks.zip us)=(xD as vs ks us).1.zip (xD as vs ks us).2/\(xD as vs ks us).1.length=(xD as vs ks us).2.length
 | [],[],as,vs,_,h=>⟨rfl,h⟩
 |k::ks,u::us,as,vs,h1,h2=>by
  have ih:=Ct (ks:=ks) (us:=us) (as:=xr as k) (vs:=xz as vs k u) (by simpa using h1) (kY h2);refine⟨?_,ih.2⟩;show qV (ve (as.zip vs) k u) (ks.zip us)=_;rw[Gd h2];exact ih.1
theorem Cs{K:W.Frag}{G:Hp}:∀{ks:List zJ}{es:List D}{us:List V}{as:List zJ}{ds:List D}{vs:List V},Reps K G es us->Reps K G ds vs->ks.length=us.length->as.length=vs.length->Reps K G (xD as ds ks es).2 (xD as vs ks us).2/\(xD as ds ks es).1=(xD as vs ks us).1
 | [],es,us,as,ds,vs,r1,r2,h1,h2=>by
  have e1:xD as ds [] es=(as,ds):=by unfold xD; rfl
  have e2:xD as vs [] us=(as,vs):=by unfold xD; rfl
  rw[e1,e2];exact⟨r2,rfl⟩
 |k::ks,es,[],as,ds,vs,r1,r2,h1,h2=>by cases h1
 |k::ks,[],u::us,as,ds,vs,r1,r2,h1,h2=>by cases(show _=[]from r1)
 |k::ks,e::es,_::_,as,ds,vs,r1,r2,h1,h2=>by
  obtain⟨v,r,ev,hv,hr⟩:=r1;cases ev;exact Cs (ks:=ks) (es:=es) (as:=xr as k) hr (r2.put hv) (by simpa using h1) (kY h2)
theorem Cr{α:Type}:∀{ks:List zJ}{es:List α}{as:List zJ}{ds:List α},as.length=ds.length->(xD as ds ks es).2.length<=ds.length+es.length
 | [],es,as,ds,_=>by
  have e:xD as ds [] es=(as,ds):=by unfold xD; rfl
  rw[e];exact gR _ _
 |_::_,[],as,ds,_=>by
  have e:∀k ks,xD as ds (k::ks) ([]:List α)=(as,ds):=λ_ _=>by unfold xD; rfl
  rw[e];exact gR _ _
 |k::ks,e::es,as,ds,h=>by
  have ih:=Cr (ks:=ks) (es:=es) (as:=xr as k) (ds:=xz as ds k e) (kY h);have:=Cu (ks:=as) (vs:=ds) (k:=k) (v:=e) h;show(xD (xr as k) (xz as ds k e) ks es).2.length<=_;rw[xc];omega
theorem Dc{K:W.Frag}{G:Hp}:∀{xs:List D}{vs:List V}{ks:List zJ}{ds:List D},qU xs=some (ks,ds)->Reps K G xs vs->∃us,Reps K G ds us/\ks.length=us.length/\ks.length=vs.length/\∀(j:Nat)(kv:zJ×V),(ks.zip us)[j]?=some kv->∃b,vs[j]?=some (V.ref b)/\yu K G b [kV kv.1,kv.2]
 | [],_,_,_,h,r=>by
  cases h;cases(show _=[]from r);exact⟨[],rfl,rfl,rfl,λj kv e=>by cases e⟩
 |x::xs,_,ks,ds,h,r=>by
  obtain⟨v,r',rfl,hv,hr⟩:=r;unfold qU at h
  split at h
  ·rename_i e; cases e
  ·rename_i k y r2 e;cases e;obtain⟨key,hk,h⟩:=zP h;obtain⟨⟨ks2,ds2⟩,h2,h⟩:=zP h;cases h;obtain⟨us,q1,q2,q3,q4⟩:=Dc h2 hr;obtain⟨b,ws,rfl,sq,⟨u1,_,rfl,hu1,⟨u2,_,rfl,hu2,e3⟩⟩,_⟩:=hv;cases(show _=[]from e3);refine⟨u2::us,⟨u2,us,rfl,hu2,q1⟩,by rw[xc,xc,q2],by rw[xc,xc,q3],λj kv e=>?_⟩;cases j with
   |zero=>
    cases e;refine⟨b,rfl,?_⟩;rw[<-kM hk hu1];exact sq
   |succ j=>
    obtain⟨b',e1,e2⟩:=q4 j kv (by simpa using e);exact⟨b',by simpa using e1,e2⟩
  ·cases h
theorem LQ{X:Cx}{e:Expr}{fs:FA}{p pos:Pos}(hcalm:X.calm=true)(hg:Gl X "dict")(hm:X.mg "dict" = none)(hv:bootBuiltins "dict" = some (.type "dict"))(ha:SA X [e] fs)(hs:xS e=true:=by rfl):SF X (.Call (.Name "dict" p) [e] [] pos) (eL jg fs):=by
 obtain⟨t,pt,k⟩:=ha.h;refine⟨⟨_,(Xr (KA hcalm) hg hm hv ⟨pt⟩ (by decide) (by decide) (by rw[wl,hs]; rfl)).h,λ{G0 H0 G H τ σ d Q} E hf q=>?_⟩⟩;obtain⟨ds,hd,hf⟩:=zP hf;refine k E hd λvs G1 H1 x1 r1=>?_
 unfold jg at hf
 split at hf
 ·rename_i xs;obtain⟨⟨ks,es⟩,hk,hf⟩:=zP hf;cases hf;obtain⟨v,rfl,a,ws,rfl,sq,rs,l⟩:=p7 r1;obtain⟨us,q1,q2,q3,q4⟩:=Dc hk rs;obtain⟨z1,z2⟩:=Ct (ks:=ks) (us:=us) (as:=[]) (vs:=[]) q2 rfl;obtain⟨z3,z4⟩:=Cs (ks:=ks) (as:=[]) (ds:=[]) (vs:=[]) q1 rfl q2 rfl;refine⟨a,ws,ks.zip us,rfl,wZ x1.gh sq,by rw[tI,q2,tK,<-q2,q3],λj kv e=>?_,λp hp=>?_⟩
  ·obtain⟨b,e1,e2⟩:=q4 j kv e;exact⟨b,e1,vT x1.gh e2⟩
  ·refine q p _ _ (x1.trans (zV.uM x1.gh hp)) (x1.h.free hp) (x1.gh.free hp) ⟨(xD [] [] ks us).2,?_,?_,z3,?_⟩
   ·show zX H1 p (.dK (qV [] (ks.zip us))) p=some (.dK ((xD [] [] ks es).1.zip (xD [] [] ks us).2));rw[yW,z4];exact congrArg (λx=>some (HO.dK x)) z1
   ·show(xD [] [] ks es).1.length=_;rw[z4];exact z2
   ·have:=Cr (ks:=ks) (es:=es) (as:=[]) (ds:=[]) rfl;have e1:es.length=ws.length:=by rw[<-q1.length,<-q2,q3]
    rw[rs.length]at e1;show(xD [] [] ks es).2.length<=sizeLine;simp only[pF,xw]at this;omega
 ·cases hf
open PyProof Builtin Builtin.Str
section
variable{X:Cx}{e o a b c:Expr}{f fo fa fb fc:FE}{x:Str}{xp p pos apos cpos:Pos}
def Z0:List D->Option (List Str)
 | []=>some []
 |.str z::r=>(Z0 r).bind λts=>some (z::ts)
 |_=>none
def T2:D->D->Option D
 |.str sep,.lst xs=>(Z0 xs).bind λts=>if(ts.map (·.length)).sum+ts.length*sep.length<=yn then some (.str (glued sep ts))else none
 |_,_=>none
theorem E_{K:W.Frag}{G:Hp}:∀{xs:List D}{vs:List V}{ts:List Str},Z0 xs=some ts->Reps K G xs vs->vs=ts.map V.str
 | [],_,_,h,r=>by
  cases h;exact r
 |x::xs,_,ts,h,r=>by
  obtain⟨v,r',rfl,hv,hr⟩:=r;unfold Z0 at h
  split at h
  ·rename_i e; cases e
  ·rename_i z r2 e;cases e;obtain⟨ts2,h2,h⟩:=zP h;cases h;rw[wD,(show v=_/\_ from hv).1,E_ h2 hr]
  ·cases h
theorem dU(ho:SE X o fo)(he:SB X e f)(hbase:attributeBase o "join" X.env (eval o X.env)=eval o X.env:=by rfl)(hline:(apos.endLine==cpos.line)=true:=by rfl)(hs:xS e=true:=by rfl) :
  SE X (.Call (.Attribute o "join" apos) [e] [] cpos) (e2 T2 fo f):=by
 obtain⟨to,po,ko⟩:=ho.h;obtain⟨te,pe,ke⟩:=(wB he wX hs).h;refine⟨⟨_,(Xq PySem.F.plainAttrs_str PySem.F.slot_str_join PySem.F.type_str_join RV ⟨po⟩ ⟨pe⟩ hbase hline (by rw[wl,hs]; rfl) (by show 1<30; decide)).h,λ{G0 H0 G H τ σ d Q} E hf q=>?_⟩⟩;obtain⟨x,hx,hf⟩:=zP hf;obtain⟨y,hy,hf⟩:=zP hf;refine ko E hx λv G1 H1 x1 r1=>?_
 cases x with
 |str sep=>
  obtain⟨rfl,l1⟩:=r1;refine⟨rfl,ke (E.go x1) (ds:=[y]) (by unfold zA; rw[hy]; rfl) λws G2 H2 x2 r2=>?_⟩;obtain⟨w,rfl,rw_⟩:=p7 r2;cases y with
  |lst xs=>
   obtain⟨ts,hts,hf⟩:=zP hf;obtain⟨aa,vs,rfl,sq,rs,_⟩:=rw_;have ev:=E_ hts rs;subst ev;by_cases cc:(ts.map (·.length)).sum+ts.length*sep.length<=yn
   ·rw[zN cc]at hf;cases hf;have c':(ts.map (·.length)).sum+ts.length*sep.length<=sizeLine:=by rw[wn]; exact cc
    exact⟨sep,aa,ts,rfl,rfl,sq,c',q _ _ _ (x1.trans x2) ⟨rfl,xv (glued_len sep ts) c'⟩⟩
   ·rw[zS cc]at hf;cases hf
  |_=>cases hf
 |_=>cases hf
def LJ(f:FE)(fg:FG):FS:=λτ=>(f τ).bind λd=>(fg d τ).bind λτ'=>some (.nx τ')
theorem Jf:bootBuiltins "dict" = some (.type "dict"):=by decide +kernel
theorem fO{tg:Expr}{fg:FG}(he:SE X e f)(hg:SG X tg fg)(hs:swapsWithSole [tg] e pos.line X.env=pure false:=by rfl)(hw:swappedStores [tg] e X.env=pure none:=by rfl)(h1:(assignEach [tg] X.env).map (·.2)=[assign tg X.env]:=by rfl) :
  SS X (.Assign [tg] e pos) (LJ f fg):=by
 obtain⟨te,pe,ke⟩:=he.h;obtain⟨tt,pt,kt⟩:=hg.h;refine⟨⟨_,ac pe pt hs hw h1,λ{G0 H0 G H τ σ fl E} K hf q=>?_⟩⟩;obtain⟨d,hd,hf⟩:=zP hf;obtain⟨τ',ht,hf⟩:=zP hf;cases hf;exact ke K hd λv G' H' x1 r1=>kt (K.go x1) r1 ht λσ' K'=>q _ _ _ K'
theorem fQ{op op':CmpOp}{r r':R2}{F F':D->D->Option D}(ho:yY X (compareOp op) r)(hF:qM X.K r F)(ho':yY X (compareOp op') r')(hF':qM X.K r' F')(ha:SB X a fa)(hb:SB X b fb)(hc:SB X c fc)(hm:lastMarks [op,op'] [b,c]=false:=by with_unfolding_all rfl) :
  ST X (.Compare a [op,op'] [b,c] pos) (tE (XL F F' fa fb fc)):=by
 obtain⟨ta,pa,ka⟩:=ha.h;obtain⟨tb,pb,kb⟩:=hb.h;obtain⟨tc,pc,kc⟩:=hc.h;refine⟨⟨_,ax ho ho' pa pb pc hm,λ{G0 H0 G H τ σ d Q} E hf q=>?_⟩⟩;obtain⟨w0,hw0,hf0⟩:=zP hf;obtain⟨x,hx,hw0⟩:=zP hw0;obtain⟨y,hy,hw0⟩:=zP hw0;obtain⟨k,hk,hw0⟩:=zP hw0;refine ka E hx λv G1 H1 x1 r1=>?_
 refine kb (E.go x1) hy λu G2 H2 x2 r2=>?_
 obtain⟨k,rfl,z⟩:=hF H2 x y v u _ _ (r1.mono x2.h) r2 hk;refine z ⟨k,rfl,?_⟩;cases k with
 |false=>
  cases hw0;cases hf0;exact j0 ⟨_,rfl,q _ _ (x1.trans x2)⟩
 |true=>
  obtain⟨w,hw,hw0⟩:=zP (show(fc _).bind _=_ from hw0);refine j1 (kc ((E.go x1).go x2) hw λu3 G3 H3 x3 r3=>?_);obtain⟨k,rfl,z⟩:=hF' H3 y w u u3 _ _ (r2.mono x3.h) r3 hw0;cases hf0;exact z ⟨_,rfl,q _ _ (x1.trans (x2.trans x3))⟩
end
end L3
namespace L2
open PySem PySem.Spec PyProof.Rows
def JL(K:W.Frag)(a:Addr):It:=
  ⟨λi H=>∃xs x,yL K H a xs/\xs[i]?=some x,
   λi H v H'=>∃p,H p=none/\v=.ref p/\∀xs,yL K H a xs->∃x,xs[i]?=some x/\H'=zX H p (.tup [.int (i:Int),x]),
   λi H=>∃xs,yL K H a xs/\xs.length<=i⟩
theorem m7{P:Program}{w:World}{K:W.Frag}{elts:List Expr}{kk:Nat}{pos:Pos}(a e it:Addr)(hei:e≠it) :
  tT P w K (.Tuple elts kk pos) (JL K a) [e,it] e (λi h=>(∃old,IsEnum h e it (i:Int) old)/\h.IsListIter it a i) where
 mem:=by simp
 obj:=λi h st c hc=>by
  obtain⟨⟨old,s1⟩,⟨o2,s2,_,d2⟩⟩:=st;simp only[yT,wR,or_false]at hc;rcases hc with rfl|rfl
  ·exact⟨_,s1,λv q=>nomatch q⟩
  ·exact⟨_,s2,λv q=>by rw[d2]at q; cases q⟩
 keep:=λi h h' st k=>by
  obtain⟨⟨old,s1⟩,s2⟩:=st;exact⟨⟨old,k e (by simp) _ s1⟩,s2.at λo x=>k it (by simp) o x⟩
 item:=by
  intro X hP hw hK hc i z6 s σ H E I hf st hg;subst hP hw hK;obtain⟨⟨old,s1⟩,s2⟩:=st;obtain⟨xs,x,hx,ex⟩:=hg;obtain⟨us,ru,pu,_⟩:=I.list hx;have pl:=pu.isList;obtain⟨xu,hxu,rxu⟩:=ru.get ex;have hx':us.toArray[i]?=some xu:=by rw[Qp]; exact hxu
  have lt1:e<s.heap.objs.size:=Heap.lt_size s1;have lt2:it<s.heap.objs.size:=by obtain⟨o,z,_⟩:=s2; exact Heap.lt_size z
  refine wpAny_pyNext_enum_item s1 s2 pl hx' hei λh1 heo hit1 ht1 hz1 hk1=>?_
  refine⟨_,rfl,HJ (s:={ s with heap:=h1,toks:=s.toks+1 }) heo λh2 he2 hs2=>?_⟩
  replace hs2:Heap.SameBut e h1 h2:=hs2
  have hTs:s.heap.get? s.heap.objs.size=none:=by
   cases q:s.heap.get? s.heap.objs.size with
   |none=>rfl
   |some o=>exact absurd (Heap.lt_size q) (wJ _)
  have hTf:H s.heap.objs.size=none:=I.za.fresh (zr _);have tup:h2.get? s.heap.objs.size=some { cls:=.type "tuple",data:=.seq #[.int i s.toks,xu] }:=hs2.extBut _ _ (uJ lt1) ht1
  have kk:∀c o,c ∉ [e,it]->s.heap.get? c=some o->h2.get? c=some o:=λc o hc z=>by
   simp only[yT,wR,or_false,ZG]at hc;exact hs2.extBut _ _ hc.1 (hk1 c o hc.1 hc.2 z)
  have new:yl X.prog X.w (zX H s.heap.objs.size (.tup [.int (i:Int),x])) h2 s.heap.objs.size (.tup [.int (i:Int),x]):=⟨(by show 2<=sizeLine; decide),[.int i s.toks,xu],.cons ⟨_,rfl⟩ (.cons rxu .nil),⟨_,tup,rfl,_,rfl⟩⟩;refine⟨.ref s.heap.objs.size,zX H s.heap.objs.size (.tup [.int (i:Int),x]),I.Va (tk:=s.toks+1) hf kk hTs hTf new,rfl,⟨s.heap.objs.size,hTf,rfl,λxs' hx'=>?_⟩,⟨⟨xu,?_⟩,hit1.at λo z=>hs2.extBut _ _ hei.symm z⟩,λc hc=>?_⟩
  ·rw[I.Vd hx' hx];exact⟨x,ex,rfl⟩
  ·rw[show((i+1:Nat):Int)=(i:Int)+1 from rfl];exact he2
  ·rw[zm]
   ·exact(hf c hc).1
   ·intro q
    have hlt:c<s.heap.objs.size:=by
     simp only[yT,wR,or_false]at hc;rcases hc with rfl|rfl
     ·exact lt1
     ·exact lt2
    rw[q]at hlt;exact absurd hlt (wJ _)
 done:=by
  intro X hP hw hK hc i z6 s σ H E I hf st hg;subst hP hw hK;obtain⟨⟨old,s1⟩,s2⟩:=st;obtain⟨xs,hx,hend⟩:=hg;obtain⟨us,ru,pu,_⟩:=I.list hx;have pl:=pu.isList
  have hx':us.toArray[i]?=none:=by
   rw[Qp];exact uH (by have:=ru.length; omega)
  refine wpAny_pyNext_enum_end (by exact I.ok.hd hc) s1 s2 pl hx' λh1 he1=>?_
  refine⟨rfl,I.but (tk:=s.toks) hf λc ob hcc eb=>?_⟩;simp only[yT,wR,or_false,ZG]at hcc;exact he1 c ob hcc.2 eb
 self:=λ_ _ _ _ _ st h=>by
  obtain⟨⟨old,s1⟩,_⟩:=st;exact J4 s1 h
section
variable{X:Cx}
def P4(K:W.Frag)(ta:TA):TI:=λσ H R=>ta σ H λvs H1=>∃a xs,vs=[.ref a]/\yL K H1 a xs/\R (JL K a) H1
theorem aD{a:Expr}{ta:TA}{p pos:Pos}{elts:List Expr}{kk:Nat}{tp:Pos}(hg:Gl X "enumerate")(hm:X.mg "enumerate" = none)(ha:PA X [a] ta)(hs:starEach [a] X.env=[(false,eval a X.env)]:=by rfl) :
  PI X (.Tuple elts kk tp) (.Call (.Name "enumerate" p) [a] [] pos) (P4 X.K ta):=by
 intro z6 s σ H R I h;refine Call_ (jo I hg hm boot_enumerate (VQ (zi (ha pos z6 s σ H _ I h) λus s1 ⟨vs,H1,I1,r1,q1⟩=>?_) (by rw[hs]; rfl) rfl));obtain⟨l1,xs,rfl,hx,q⟩:=q1;obtain⟨u,rfl,ru⟩:=vg r1;cases(show u=Value.ref l1 from ru);obtain⟨us,_,pu,_⟩:=I1.list hx;refine call_enumerate_list pu.isList λh' a1 a2 hz kp=>?_
 have I2:Inv X z6 σ H1 { s1 with heap:=h' }:=I1.kept (t':=s1.toks) kp;refine J4 (s:={ s1 with heap:=h' }) a1 ?_;generalize hn:s1.heap.objs.size=n at a1 a2 hz;refine⟨n+1,[n+1,n],_,_,H1,rfl,I2,m7 l1 (n+1) n (xF (by omega)),⟨⟨_,a1⟩,a2⟩,λc hc=>?_,q⟩
 have hle:s1.heap.objs.size<=c:=by
  rw[hn];simp only[yT,wR,or_false]at hc;rcases hc with rfl|rfl
  ·exact gR _ _
  ·exact zr _
 exact I1.qe hle (I1.za.fresh hle)
end
end L2
namespace L3
open PySem PySem.Spec PyProof.Rows L2
def wV(xs:List D):List D:=List.zipWith (λ(i:Nat) x=>D.tup [.int (i:Int),x]) (List.range xs.length) xs
def tz(a:FE):FA:=λσ=>(a σ).bind λd=>match d with
 |.lst xs=>some (wV xs)
 |_=>none
theorem t_(xs:List D):(wV xs).length=xs.length:=by simp[wV]
theorem ju(xs:List D)(i:Nat):(wV xs)[i]?=(xs[i]?).map λx=>D.tup [.int (i:Int),x]:=by
 unfold wV;rw[Qq];by_cases h:i<xs.length
 ·rw[qc h,yS h]; rfl
 ·rw[uH (by simpa using h),uH (by omega)]; rfl
section
variable{K:W.Frag}{G H:Hp}
theorem Kz{a:Addr}{vs:List V}{xs:List D}(s1:yL K G a vs)(r1:Reps K G xs vs):uu K (JL K a) G (wV xs) where
 go:=λi G2 H g1 g2 hi=>by
  rw[t_]at hi;obtain⟨v,e1,_⟩:=r1.get (yS hi);exact⟨vs,v,wZ (g1.trans g2) s1,e1⟩
 vC:=λi G2 H x H' g1 g2 hi y=>by
  obtain⟨p,hp,rfl,k⟩:=y;obtain⟨v,e1,rfl⟩:=k vs (wZ (g1.trans g2) s1);obtain⟨d1,f1,q1⟩:=r1.at e1;refine⟨zX G2 p (.tup [.int (i:Int),v]),.tup [.int (i:Int),d1],zV.lay g2 hp,by rw[ju,f1]; rfl,?_⟩;have sm:yK G (zX G2 p (.tup [.int (i:Int),v])):=g1.trans (wY (g2.free hp) _);exact⟨p,[.int (i:Int),v],rfl,yu.of yW,⟨_,_,rfl,rfl,⟨v,_,rfl,q1.mono sm,rfl⟩⟩,small (n:=2) (by decide)⟩
 stop:=λi G2 H g1 g2 hi=>by
  rw[t_]at hi;exact⟨vs,wZ (g1.trans g2) s1,by rw[r1.length]; exact hi⟩
end
theorem Q7{X:Cx}{a:Expr}{fa:FE}{p pos:Pos}{elts:List Expr}{kk:Nat}{tp:Pos}(hg:Gl X "enumerate")(hm:X.mg "enumerate" = none)(ha:SE X a fa)(hs:xS a=true:=by rfl):SI X (.Tuple elts kk tp) (.Call (.Name "enumerate" p) [a] [] pos) (tz fa):=by
 obtain⟨t,pt,k⟩:=(zD ha zM hs).h;refine⟨⟨_,aD hg hm pt (t9 hs),λ{G0 H0 G H τ σ ds R} K hf q=>?_⟩⟩;obtain⟨x,hx,hf⟩:=zP hf;cases x<;>first|(cases hf; done)|skip
 cases hf;rename_i xs;refine k K (ds:=[.lst xs]) (by unfold zA; rw[hx]; rfl) λvs G1 H1 x1 r1=>?_
 obtain⟨v,r,rfl,hv,hr⟩:=r1;cases(show r=[]from hr);obtain⟨aa,vs1,rfl,s1,q1,l1⟩:=hv;exact⟨aa,vs1,rfl,wZ x1.gh s1,q _ _ _ x1 (by rw[t_]; exact l1) (Kz s1 q1)⟩
end L3
namespace L2
open PySem PySem.Spec PyProof PyProof.Rows
def kK(a:Int):List Int->List Int
 | []=>[a]
 |b::r=>if a<=b then a::b::r else b::kK a r
def isort:List Int->List Int
 | []=>[]
 |a::r=>kK a (isort r)
theorem O6(a:Int):∀l:List Int,(kK a l).Perm (a::l)
 | []=>pE _
 |b::r=>by
  unfold kK
  split
  ·exact pE _
  ·exact((O6 a r).cons b).trans (List.Perm.swap a b r)
theorem isort_perm:∀l:List Int,(isort l).Perm l
 | []=>pE _
 |a::r=>(O6 a _).trans ((isort_perm r).cons a)
theorem DS(a:Int):∀{l:List Int},l.Pairwise (·<=·)->(kK a l).Pairwise (·<=·)
 | [],_=>by simp[kK]
 |b::r,h=>by
  obtain⟨h1,h2⟩:=ZC.mp h;unfold kK
  split
  ·rename_i hab
   exact ZC.mpr ⟨λx hx=>by
    rcases yT.mp hx with rfl|hx
    ·exact hab
    ·exact M6 hab (h1 x hx),h⟩
  ·rename_i hab;refine ZC.mpr ⟨λx hx=>?_,DS a h2⟩;rcases yT.mp ((O6 a r).mem_iff.mp hx)with rfl|hx
   ·omega
   ·exact h1 x hx
theorem isort_sorted:∀l:List Int,(isort l).Pairwise (·<=·)
 | []=>List.Pairwise.nil
 |a::r=>DS a (isort_sorted r)
theorem LU:∀{a b:List Int},a.Perm b->a.Pairwise (·<=·)->b.Pairwise (·<=·)->a=b
 | [],b,p,_,_=>(List.nil_perm.mp p).symm
 |x::a,[],p,_,_=>by cases p.length_eq
 |x::a,y::b,p,ha,hb=>by
  obtain⟨h1,h2⟩:=ZC.mp ha;obtain⟨g1,g2⟩:=ZC.mp hb
  have e:x=y:=by
   have hx:x∈y::b:=p.mem_iff.mp (xV ..);have hy:y∈x::a:=p.mem_iff.mpr (xV ..);rcases yT.mp hx with rfl|hx
   ·rfl
   ·rcases yT.mp hy with e|hy
    ·exact e.symm
    ·exact Int.le_antisymm (h1 y hy) (g1 x hx)
  subst e;rw[LU (List.perm_cons x |>.mp p) h2 g2]
theorem GR:∀{ns:List Int}{its:List Value},zy (ns.map V.int) its->IntsAre its ns
 | [],_,.nil=>.nil
 |n::ns,_,.cons r rr=>by
  obtain⟨t,rfl⟩:=r;exact .cons _ _ (GR rr)
theorem O9:∀{ns:List Int}{its:List Value},IntsAre its ns->zy (ns.map V.int) its
 | [],_,.nil=>.nil
 |_::_,_,.cons _ _ r=>.cons ⟨_,rfl⟩ (O9 r)
section
variable{X:Cx}
theorem KS:wK X (.builtin "sorted") (λxs H Q=>∃p ns,xs=[.ref p]/\yL X.K H p (ns.map V.int)/\ns.length<64/\∀l,H l=none->Q (.ref l) (zX H l (.lst ((isort ns).map V.int)))):=by
 intro z6 s σ H xs us Q I r h;obtain⟨p,ns,rfl,hq,h64,q⟩:=h;obtain⟨u,rfl,rx⟩:=vg r;cases rx;obtain⟨its,r',pl,hz⟩:=I.list hq;have hlen:=r'.length;rw[zx]at hlen;refine sorted_ints pl.isList (GR r') (by omega) λout ns' a1 a2 a3=>?_
 have e:ns'=isort ns:=LU (a2.trans (isort_perm ns).symm) a3 (isort_sorted ns);subst e;obtain⟨c,hc⟩:=sortedAll_at s.heap its out;have hl2:(isort ns).length=ns.length:=(isort_perm ns).length_eq;refine⟨.ref (s.heap.objs.size+1),_,I.laid (t':=s.toks) (h':=sortedAll s.heap its out) (λ_ _=>sortedAll_old) (VO _) (show yl X.prog X.w _ _ _ (.lst ((isort ns).map V.int))from⟨?_,out.toList,c,O9 a1,?_⟩),rfl,q _ (I.za.fresh (VO _))⟩
 ·rw[zx,hl2];show _<=sizeLine;rw[zx]at hz;exact hz
 ·rw[Gf];exact hc
end
end L2
namespace L3
open PySem PySem.Spec PyProof.Rows L2
theorem BU:bootBuiltins "sorted" = some (.builtin "sorted"):=by decide +kernel
def intsOf:List D->Option (List Int)
 | []=>some []
 |.int i::r=>(intsOf r).bind λns=>some (i::ns)
 |_=>none
theorem OB:∀ns:List Int,intsOf (ns.map D.int)=some ns
 | []=>rfl
 |n::ns=>by
  show(intsOf (ns.map D.int)).bind _=_;rw[OB ns];rfl
theorem OA:∀{ds:List D}{ns:List Int},intsOf ds=some ns->ds=ns.map D.int
 | [],_,h=>by cases h; rfl
 |d::ds,ns,h=>by
  unfold intsOf at h
  split at h
  ·rename_i e; cases e
  ·rename_i i r e;cases e;obtain⟨ns',h1,h⟩:=zP h;cases h;rw[OA h1];rfl
  ·cases h
theorem LF{K:W.Frag}{G:Hp}:∀{ns:List Int}{vs:List V},Reps K G (ns.map D.int) vs->vs=ns.map V.int
 | [],_,r=>r
 |n::ns,_,r=>by
  obtain⟨v,r',rfl,hv,hr⟩:=r;rw[LF hr,show v=V.int n from hv];rfl
theorem O8{K:W.Frag}{G:Hp}:∀ns:List Int,Reps K G (ns.map D.int) (ns.map V.int)
 | []=>rfl
 |n::ns=>⟨.int n,_,rfl,rfl,O8 ns⟩
def IE:List D->Option D
 | [.lst xs]=>(intsOf xs).bind λns=>if ns.length<64 then some (.lst ((isort ns).map D.int))else none
 |_=>none
theorem dj{X:Cx}{e:Expr}{fs:FA}{p pos:Pos}(hg:Gl X "sorted")(hm:X.mg "sorted" = none)(ha:SA X [e] fs)(hs:xS e=true:=by rfl):SF X (.Call (.Name "sorted" p) [e] [] pos) (eL IE fs):=by
 obtain⟨t,pt,k⟩:=ha.h;refine⟨⟨_,(Tv KS hg hm BU ⟨pt⟩ (by decide) (by decide) (by rw[wl,hs]; rfl)).h,λ{G0 H0 G H τ σ d Q} E hf q=>?_⟩⟩;obtain⟨ds,hd,hf⟩:=zP hf;refine k E hd λvs G1 H1 x1 r1=>?_
 match ds,hf with
 | [.lst xs],hf=>
  obtain⟨ns,hn,hf⟩:=zP (show(intsOf xs).bind _=some d from hf)
  split at hf
  ·rename_i h64;cases hf;obtain⟨v,rfl,a,us,rfl,sq,rs,l⟩:=p7 r1;rw[OA hn]at rs l;rw[LF rs]at sq;refine⟨a,ns,rfl,wZ x1.gh sq,h64,λp hp=>q p _ _ (x1.trans (zV.uM x1.gh hp)) (x1.h.free hp) (x1.gh.free hp) ⟨_,yW,O8 _,?_⟩⟩;rw[zx,(isort_perm ns).length_eq];rw[zx]at l;exact l
  ·cases hf
end L3
namespace L2
open PySem PySem.Spec PyProof.Rows
section
variable{X:Cx}
end
end L2
namespace L3
open PySem PySem.Spec PyProof.Rows L2
section
variable{X:Cx}{e o a b c:Expr}{f fo fa fb fc:FE}{x:Str}{xp p pos apos cpos:Pos}
end
section
variable{X:Cx}{a b:Expr}{fa fb:FE}{x:Str}{xp pos:Pos}
end
section
variable{X:Cx}{e:Expr}{es:List Expr}{fs:FA}{x:Str}{ps:List Str}{k j:Nat}{FF:List D->Option (Bool×D)}{p pos:Pos}
end
section
variable{X:Cx}{e:Expr}{es:List Expr}{fs:FA}{x y:Str}{ps:List Str}{k j:Nat}{FF:List D->Option (Bool×D)}{p pos pos' cpos:Pos}
end
section
variable{X:Cx}{x:Str}{xp pos apos cpos:Pos}
end
section
variable{K:W.Frag}{n:Nat}{G0 H0 G H G' H':Hp}{τ:yB}{σ:St}
end
section
variable{X:Cx}{e:Expr}{f:FE}{ft:FT}
end
def km(i:Nat)(e:FE):FS:=λσ=>match σ[i]? with
 |some (some (true,.lst xs))=>(e σ).bind λy=>match y with
  |.lst ys=>if xs.length+ys.length<=yn then some (.nx (σ.set i (some (true,.lst (xs++ys)))))else none
  |_=>none
 |_=>none
section
variable{X:Cx}{a b:Expr}{f fa fb:FE}{x:Str}{xp pos apos cpos:Pos}{e:Expr}
theorem cv(he:SF X e f)(hs:xS e=true:=by rfl):∃t,PA X [e] t/\∀{G0 H0 G H:Hp}{τ:yB}{σ:St}{d:D}{Q:List V->Hp->Prop},zw X.K X.N.length G0 H0 G H τ σ->f τ=some d->(∀p G' H',zV G H G' H'->H p=none->G' p=none->v4 X.K G' H' d p->Q [.ref p] H')->t σ H Q:=by
 obtain⟨t,p,k⟩:=he.h;refine⟨_,Xm p kT hs,λE hf q=>k E hf λp G1 H1 x1 hp gp o=>?_⟩;exact q p G1 H1 x1 hp gp o
theorem LV{i:Nat}(ho:QE X (.Name x xp) (Z2 i))(he:SF X e f)(hbase:attributeBase (.Name x xp) "extend" X.env (eval (.Name x xp) X.env)=eval (.Name x xp) X.env:=by rfl)(hline:(apos.endLine==cpos.line)=true:=by rfl)(hs:xS e=true:=by rfl) :
  SS X (.Expr (.Call (.Attribute (.Name x xp) "extend" apos) [e] [] cpos) pos) (km i f):=by
 obtain⟨t,p,k⟩:=cv he hs;refine⟨⟨_,(E2 (Xq PySem.F.plainAttrs_list PySem.F.slot_list_extend PySem.F.type_list_extend RS ho ⟨p⟩ hbase hline (by rw[wl,hs]; rfl) (by show 1<30; decide)) rfl).h,λ{G0 H0 G H τ σ fl E} K hf q=>?_⟩⟩;unfold km at hf
 split at hf
 ·rename_i xs hd;obtain⟨y,hy,hf⟩:=zP hf;cases y with
  |lst ys=>
   change (if xs.length+ys.length<=yn then some (Fl.nx (τ.set i (some (true,.lst (xs++ys)))))else none)=some fl at hf
   by_cases c:xs.length+ys.length<=yn
   ·rw[zN c]at hf;cases hf;obtain⟨aa,ea,g,z,vs,ev,rs,l⟩:=K.ow _ _ hd;refine⟨_,ea,.inl ⟨rfl,vs,yL.of ev⟩,k K hy λp G1 H1 x1 hp gp o=>?_⟩;obtain⟨us,eu,ru,_⟩:=o;refine⟨aa,p,vs,us,rfl,rfl,x1.h _ _ ev,eu,by rw[rs.length,ru.length,wn]; exact c,?_⟩;refine q _ _ _ ((K.go x1).JD hd ea ⟨_,yW,(rs.mono x1.g).append ru,?_⟩);rw[wn,yj]; exact c
   ·rw[zS c]at hf;cases hf
  |_=>cases hf
 ·cases hf
end
section
variable{X:Cx}{js:List Nat}{e c:Expr}{f:FE}{ft:FT}{g g':FS}{sts sa:List Stmt}{pos xp apos cpos:Pos}{x:Str}
end
section
variable{X:Cx}{js:List Nat}{e0 e1:Expr}{f0 f1:FE}{fm fr:FS}{mid rest:List Stmt}{p1 p2 p3 xp cp sp apos cpos pos:Pos}{x:Str}{kd:Nat}
end
end L3
namespace L2
open PySem PySem.Spec PyProof PyProof.Rows
section
variable{X:Cx}
end
end L2
namespace L3
open PySem PySem.Spec PyProof.Rows L2
section
variable{X:Cx}{K:W.Frag}
end
end L3
namespace L2
open PySem PySem.Spec PyProof PyProof.Rows
def jq(ks:List zJ)(k:zJ):Bool:=ks.any λk'=>decide (k'=k)
def vK(acc:List zJ)(k:zJ):List zJ:=if jq acc k=true then acc else acc++[k]
theorem Hc(acc:List zJ)(k:zJ):(vK acc k).length<=acc.length+1:=by
 unfold vK
 split
 ·omega
 ·rw[yj]; exact zr _
theorem Db{k:zJ}{v:Value}(h:vO k v=true):v.scannable=true:=by
 rcases uy h with⟨i,t,_,rfl⟩|⟨x,t,_,rfl⟩<;>rfl
section
variable{prog:Program}{w:World}
end
section
variable{X:Cx}
theorem Dd(P:Program)(w:World):∀{ks:List zJ}{its:List Value},zy (ks.map kV) its->∀(j:Nat)(k:zJ),ks[j]?=some k->∃v,its[j]?=some v/\vO k v=true
 | [],_,.nil,j,k,h=>by cases h
 |k::ks,_,.cons r t,j,k',h=>by
  cases j with
  |zero=>
   cases h;exact⟨_,rfl,j2 (P:=P) (w:=w) r⟩
  |succ j=>
   obtain⟨v,e,q⟩:=Dd P w t j k' (by simpa using h);exact⟨v,by simpa using e,q⟩
end
end L2
namespace L3
open PySem PySem.Spec PyProof.Rows L2
theorem K8:bootBuiltins "set" = some (.type "set"):=by decide +kernel
section
variable{X:Cx}{K:W.Frag}
end
end L3
namespace L2
open PySem PySem.Spec PyProof PyProof.Rows
structure xj(t:SetTable):Prop where
 du:t.dummies=#[]
 up:t.place.toList.Pairwise (·<·)
theorem Ja{xs:Array Nat}(up:xs.toList.Pairwise (·<·))(j:Nat):∀(f lo hi:Nat),lo<=hi->hi<=xs.size->hi-lo<=f->(∀(i:Nat)(h:i<xs.size),i<lo->xs[i]<j)->(∀(i:Nat)(h:i<xs.size),hi<=i->j<=xs[i])->
  SetTable.below.go xs j f lo hi<=xs.size/\(∀(i:Nat)(h:i<xs.size),i<SetTable.below.go xs j f lo hi->xs[i]<j)/\(∀(i:Nat)(h:i<xs.size),SetTable.below.go xs j f lo hi<=i->j<=xs[i])
 |0,lo,hi,h1,h2,h3,a,b=>by
  unfold SetTable.below.go;exact⟨by omega,a,λi h c=>b i h (by omega)⟩
 |f+1,lo,hi,h1,h2,h3,a,b=>by
  have mono:∀(i k:Nat)(hi:i<xs.size)(hk:k<xs.size),i<k->xs[i]<xs[k]:=λi k hi hk c=>by
   have:=MN.mp up i k (by simpa using hi) (by simpa using hk) c;simpa using this
  unfold SetTable.below.go;by_cases c:lo<hi
  ·rw[zN c];have hm:(lo+hi)/2<xs.size:=by omega
   have e:xs.getD ((lo+hi)/2) j=xs[(lo+hi)/2]:=by simp[Array.getD,hm]
   show(if xs.getD ((lo+hi)/2) j<j then _ else _)<=_/\_;dsimp only;rw[e];by_cases q:xs[(lo+hi)/2]<j
   ·rw[zN q];refine Ja up j f ((lo+hi)/2+1) hi (by omega) h2 (by omega) (λi h z=>?_) b;by_cases y:i=(lo+hi)/2
    ·subst y; exact q
    ·exact Qu (mono i _ h hm (by omega)) q
   ·rw[zS q];refine Ja up j f lo ((lo+hi)/2) (by omega) (by omega) (by omega) a (λi h z=>?_);by_cases y:i=(lo+hi)/2
    ·subst y; omega
    ·have:=mono _ i hm h (by omega);omega
  ·rw[zS c];exact⟨by omega,a,λi h z=>b i h (by omega)⟩
theorem Jb{xs:Array Nat}(up:xs.toList.Pairwise (·<·))(j:Nat):SetTable.below xs j<=xs.size/\(∀(i:Nat)(h:i<xs.size),i<SetTable.below xs j->xs[i]<j)/\(∀(i:Nat)(h:i<xs.size),SetTable.below xs j<=i->j<=xs[i]):=
 Ja up j xs.size 0 xs.size (uK _) (zr _) (by omega) (λi _ h=>by omega) λi h c=>by omega
theorem b9{xs:Array Nat}{j:Nat}(up:xs.toList.Pairwise (·<·))(no:xs[SetTable.below xs j]?≠some j):(SetTable.insertAt xs (SetTable.below xs j) j).toList.Pairwise (·<·):=by
 obtain⟨b0,b1,b2⟩:=Jb up j;generalize SetTable.below xs j=p at *;rw[SetTable.toList_insertAt];refine List.pairwise_append.mpr ⟨up.sublist (List.take_sublist ..),ZC.mpr ⟨λa ha=>?_,up.sublist (List.drop_sublist ..)⟩,λa ha b hb=>?_⟩
 ·obtain⟨i,hi,rfl⟩:=Yp ha;rw[ZA,wj]at hi;rw[List.getElem_drop,VD];have h1:=b2 (p+i) (by omega) (by omega)
  have h2:xs[p+i]'(by omega)≠j:=λz=>by
   cases i with
   |zero=>exact no (by rw[gH (by omega)]; exact congrArg some z)
   |succ i=>
    have h3:=b2 p (by omega) (zr _);have h4:=MN.mp up p (p+(i+1)) (by simp; omega) (by simp; omega) (by omega);simp only[VD]at h4;omega
  omega
 ·have lt:a<j:=by
   obtain⟨i,hi,rfl⟩:=Yp ha;rw[gN,wj]at hi;rw[List.getElem_take,VD];exact b1 i (by omega) (by omega)
  rcases yT.mp hb with rfl|hb
  ·exact lt
  ·obtain⟨i,hi,rfl⟩:=Yp hb;rw[ZA,wj]at hi;rw[List.getElem_drop,VD];have:=b2 (p+i) (by omega) (by omega);omega
theorem FV{t:SetTable}(h:xj t)(j:Nat):SetTable.has t.dummies j=false:=by
 rw[h.du];rfl
theorem fG{t:SetTable}(h:xj t)(j:Nat):(t.slot j=.empty/\t.place[SetTable.below t.place j]?≠some j)\/∃i,t.slot j=.live i:=by
 unfold SetTable.slot;dsimp only;by_cases c:t.place[SetTable.below t.place j]?=some j
 ·rw[zN (by rw[c]; exact pH _)];exact .inr ⟨_,rfl⟩
 ·rw[zS (by rw[ZF]; exact c),FV h,zS yz];exact .inl ⟨rfl,c⟩
theorem Cp{t:SetTable}(h:xj t){f:Nat->Int}{hh:Int}:∀(n:Nat)(p:SetTable.Probe){j:Nat}{d:Option Nat},p.dummy=none->SetTable.probe.go t f hh n p=some (.empty j d)->d=none/\t.place[SetTable.below t.place j]?≠some j
 |0,p,j,d,hp,e=>by
  unfold SetTable.probe.go at e;cases e
 |n+1,p,j,d,hp,e=>by
  have adv:(t.advance p).dummy=none:=by
   unfold SetTable.advance
   split
   ·exact hp
   ·exact hp
  unfold SetTable.probe.go at e;rcases fG h p.j with⟨s,no⟩|⟨i,s⟩
  ·rw[s]at e;dsimp only at e;cases e;exact⟨hp,no⟩
  ·rw[s]at e;dsimp only at e
   split at e
   ·cases e
   ·exact Cp h n (t.advance p) adv e
theorem xj.Ve(t:SetTable)(n:Nat):xj (t.standIn n):=⟨rfl,by
 show(Array.range n).toList.Pairwise (·<·);rw[Array.toList_range];exact MO⟩
theorem xj.lay{t:SetTable}(h:xj t)(es:Array (Int×Value))(hh:Int)(x:Value):xj (layNew t es hh x).2.1:=by
 unfold layNew
 split
 ·rename_i slot wd hs;dsimp only
  have put:xj (t.put slot).1:=by
   unfold SetTable.freeSlot at hs
   split at hs
   ·rename_i j d e;obtain⟨rfl,no⟩:=Cp h _ _ (show(t.probeStart hh).dummy=none from rfl) e;cases hs;unfold SetTable.put;refine⟨?_,?_⟩
    ·show(if SetTable.has t.dummies _=true then _ else _)=_;rw[FV h,zS yz];exact h.du
    ·exact b9 h.up no
   ·cases hs
  unfold SetTable.orStandIn
  split
  ·exact put
  ·exact xj.Ve _ _
 ·exact xj.Ve _ _
theorem xj.plain{t:SetTable}(h:xj t)(b:Bool):xj { t with plain:=b }:=⟨h.du,h.up⟩
theorem RE{mask finger moves:Nat}{led plain:Bool}{hs:Array Int}{t':SetTable}{order:Array Nat}(e:SetTable.laid mask finger moves led plain hs=some (t',order)):xj t'/\t'.led=led:=by
 unfold SetTable.laid at e;cases c:SetTable.layClean mask hs with
 |none=>rw[c]at e; cases e
 |some owner=>
  rw[c]at e;cases e;refine⟨⟨rfl,?_⟩,rfl⟩;show((List.filterMap _ _).map _).Pairwise _;refine MA _ (R:=λa b:Nat×Nat=>a.1<b.1) (λa b z=>z) ?_;refine List.Pairwise.filterMap _ (R:=λa b:Nat=>a<b) (λa b z x hx y hy=>?_) MO;obtain⟨_,_,rfl⟩:=HF.mp hx;obtain⟨_,_,rfl⟩:=HF.mp hy;exact z
theorem xj.HQ{t:SetTable}(es:Array (Int×Value))(n:Nat)(h:xj t):xj (relayAll t es n).2.1/\(relayAll t es n).2.1.led=t.led:=by
 unfold relayAll
 split
 ·rename_i t' order e;dsimp only
  split
  ·exact RE e
  ·exact⟨xj.Ve _ _,rfl⟩
 ·exact⟨xj.Ve _ _,rfl⟩
theorem RI(t:SetTable)(es:Array (Int×Value))(hh:Int)(x:Value):(layNew t es hh x).2.1.led=t.led:=by
 unfold layNew
 split
 ·dsimp only;unfold SetTable.orStandIn
  split<;>rfl
 ·rfl
section
variable{prog:Program}{w:World}{K:Type}[DecidableEq K]{knd:KeyKind prog w K}{A:Around}{E:Value->Shared->Prop}
theorem put_at{h:Heap}{a:Addr}{o:Obj}{es es2:Array (Int×Value)}{ep:Nat}{t t2:SetTable}(ho:h.get? a=some o)(hd:o.data=.set es ep t) :
  (h.update a (Obj.putSet es2 t2)).get? a=some { o with data:=.set es2 (ep+1) t2 }:=by
 have e:=Heap.get?_update_self (Obj.putSet es2 t2) ho (by rw[putSet_of es2 t2 hd]; rfl);rw[putSet_of es2 t2 hd]at e;exact e
theorem GC{s:Shared}{g:Bool->Sem Unit}(hg:∀(b:Bool)(s1:Shared)(Q1:Unit->Shared->Prop),Q1 () s1->wpAny (model prog w) A (g b) Q1 E s1){a:Addr}{o:Obj}{es:Array (Int×Value)}{ep:Nat}{t:SetTable}(ho:s.heap.get? a=some o)(hd:o.data=.set es ep t)
  {es1:Array (Int×Value)}{t2:SetTable}(hb:es1.size<scanBound)(hf:t2.fits es1.size=true)(tb:xj t2){wd:Bool}{R:Option Bool->Shared->Prop}
  (h:∀(h':Heap)(es':Array (Int×Value)) (ep':Nat) (t':SetTable),Heap.SameBut a s.heap h'->h'.get? a=some { o with data:=.set es' ep' t' }->es'.toList.Perm es1.toList->t'.fits es'.size=true->xj t'->t'.led=t2.led->R (some true) { s with heap:=h' }) :
  wpAny (model prog w) A (storeSet a es1 t2 >>= λ_=>if(!wd&&t2.tooFull)=true then g (relayAll t2 es1 (SetTable.grown es1.size)).2.2 >>= λ_=>storeSet a (relayAll t2 es1 (SetTable.grown es1.size)).1 (relayAll t2 es1 (SetTable.grown es1.size)).2.1 >>= λ_=>pure (some true)else pure (some true)) R E s:=by
 refine zC (wpAny_storeSet_of (es':=es1) (t':=t2) ho hd ?_ (VT hb));have h1:=put_at (es2:=es1) (t2:=t2) ho hd;have k1:=Heap.SameBut.update s.heap a (Obj.putSet es1 t2)
 split
 ·have pm:=relayAll_perm t2 es1 (SetTable.grown es1.size);have hf3:=relayAll_fits t2 es1 (SetTable.grown es1.size);obtain⟨tb3,ld3⟩:=tb.HQ es1 (SetTable.grown es1.size);generalize relayAll t2 es1 (SetTable.grown es1.size)=L at *;obtain⟨es2,t3,gv⟩:=L;dsimp only at *;have hz:es2.size=es1.size:=by rw[<-wj,pm.length_eq,wj]
  refine zC (hg gv _ _ (zC (wpAny_storeSet_of (es':=es2) (t':=t3) h1 rfl (zO ?_) (VT (by omega)))));exact h _ es2 _ t3 (k1.trans (Heap.SameBut.update _ a _)) (put_at (o:={ o with data:=.set es1 (ep+1) t2 }) h1 rfl) pm hf3 tb3 ld3
 ·exact zO (h _ es1 _ t2 k1 h1 (pE _) hf tb rfl)
theorem Hd{s:Shared}{a:Addr}{o:Obj}{es:Array (Int×Value)}{ep:Nat}{t:SetTable}{k:K}{x:Value}{Q:Bool->Shared->Prop}(hkey:knd.is k x=true)(hsc:x.scannable=true)(ho:s.heap.get? a=some o)(hd:o.data=.set es ep t)(hel:ElemsOf knd es.toList)(hb:es.size+1<scanBound)(hf:t.fits es.size=true)(tb:xj t)
  (h0:(∃e∈es.toList,knd.is k e.2=true)->Q false s)
  (h1:(∀e∈es.toList,knd.is k e.2=false)->∀(h':Heap)(es':Array (Int×Value)) (ep':Nat) (t':SetTable),Heap.SameBut a s.heap h'->h'.get? a=some { o with data:=.set es' ep' t' }->es'.toList.Perm (es.toList++[(knd.hash k,x)])->t'.fits es'.size=true->xj t'->t'.led=t.led->Q true { s with heap:=h' }) :
  wpAny (model prog w) A (setAddHashed a x (knd.hash k)) Q E s:=by
 unfold setAddHashed setAddHashedIn;refine qG (zC (Yu (es:=es) (t:=t) ho hd hf ?_));dsimp only;rw[byScan_of hsc (Nat.lt_of_succ_lt hb) hel,zN rfl];unfold setAddByScan;refine zC (zC (gT (zC (wpAny_setScan_of hkey ho hd hf hel ?_))));cases hr:List.findIdx? (λe=>knd.is k e.2) es.toList with
 |some j=>
  dsimp only;obtain⟨hj,hp,_⟩:=List.findIdx?_eq_some_iff_getElem.mp hr;exact zO (zO (h0 ⟨es.toList[j],uj hj,hp⟩))
 |none=>
  dsimp only;have no:∀e∈es.toList,knd.is k e.2=false:=λe he=>List.findIdx?_eq_none_iff.mp hr e he
  have gw:∀(b:Bool){s1:Shared}{Q1:Unit->Shared->Prop},Q1 () s1->wpAny (model prog w) A (match b with|true=>rule "set.scan.the-table-gave-way" |false=>pure ()) Q1 E s1:=λb _ _ q=>by
   cases b
   ·exact zO q
   ·exact gT q
  have pm:=layNew_perm t es (knd.hash k) x;have hf1:=layNew_fits t es (knd.hash k) x;have tb1:=tb.lay es (knd.hash k) x;have ld1:=RI t es (knd.hash k) x;generalize layNew t es (knd.hash k) x=L at *;obtain⟨es1,t1,wd,gv⟩:=L;dsimp only at *;rw[Array.toList_push]at pm
  have hb1:es1.size<scanBound:=by
   rw[<-wj,pm.length_eq,yj,wj];exact hb
  refine zC (gw gv ?_)
  split
  ·refine zC ?_;rw[hashByValue_scannable 8 hsc];refine zO ?_
   have tb2:xj (if plainKind x=true then t1 else { t1 with plain:=false })/\(if plainKind x=true then t1 else { t1 with plain:=false }).led=t1.led/\(if plainKind x=true then t1 else { t1 with plain:=false }).fits es1.size=true:=by
    split
    ·exact⟨tb1,rfl,hf1⟩
    ·exact⟨tb1.plain false,rfl,SetTable.fits_plain_off hf1⟩
   refine GC (λb s1 Q1 q=>gw b q) ho hd hb1 tb2.2.2 tb2.1 λh' es' ep' t' kp g p f b l=>?_
   dsimp only;exact zO (h1 no h' es' ep' t' kp g (p.trans pm) f b ((l.trans tb2.2.1).trans ld1))
  ·refine zC (zO ?_);simp only[↓reduceIte];refine GC (λb s1 Q1 q=>gw b q) ho hd hb1 hf1 tb1 λh' es' ep' t' kp g p f b l=>?_
   dsimp only;exact zO (h1 no h' es' ep' t' kp g (p.trans pm) f b (l.trans ld1))
end
def keyOf:Value->zJ
 |.int i _=>.inl i
 |.str x _=>.inr x
 |_=>.inl 0
theorem OF{k:zJ}{v:Value}(h:vO k v=true):keyOf v=k:=by
 rcases uy h with⟨i,t,rfl,rfl⟩|⟨x,t,rfl,rfl⟩<;>rfl
section
variable{prog:Program}{w:World}
def uV(prog:Program)(w:World)(a:Addr)(ks:List zJ)(h:Heap):Prop:=∃o es ep t,h.get? a=some o/\o.ExactSet/\o.data=.set es ep t/\ElemsOf (yd prog w) es.toList/\es.size<scanBound/\t.fits es.size=true/\xj t/\t.led=(!w.params.followText "set-order")/\(es.toList.map λe=>keyOf e.2).Perm ks
theorem uV.keep{a:Addr}{ks:List zJ}{h h':Heap}(z:uV prog w a ks h)(k:∀o,h.get? a=some o->h'.get? a=some o):uV prog w a ks h':=by
 obtain⟨o,es,ep,t,ho,r⟩:=z;exact⟨o,es,ep,t,k o ho,r⟩
theorem Bq{es:List (Int×Value)}(hel:ElemsOf (yd prog w) es){e:Int×Value}(he:e∈es):vO (keyOf e.2) e.2=true:=by
 obtain⟨⟨k,hk,_⟩,_⟩:=hel e he;have hk:vO k e.2=true:=hk;rw[OF hk];exact hk
theorem Ds{ks:List zJ}{k:zJ}:jq ks k=true↔k∈ks:=by
 unfold jq;rw[jE];exact⟨λ⟨x,hx,e⟩=>w_ e▸hx,λh=>⟨k,h,yh rfl⟩⟩
theorem uV.add{A:Around}{E:Value->Shared->Prop}{s:Shared}{a:Addr}{ks:List zJ}{k:zJ}{x:Value}{Q:Bool->Shared->Prop}(z:uV prog w a ks s.heap)(hk:vO k x=true)(hb:ks.length+1<scanBound)
  (h:∀(h':Heap)(b:Bool),(∀c o,c≠a->s.heap.get? c=some o->h'.get? c=some o)->uV prog w a (vK ks k) h'->Q b { s with heap:=h' }):wpAny (model prog w) A (setAddHashed a x ((yd prog w).hash k)) Q E s:=by
 obtain⟨o,es,ep,t,ho,hx,hd,hel,hb0,hf,tb,ld,pm⟩:=z;have hz:es.size=ks.length:=by rw[<-pm.length_eq,zx,wj]
 refine Hd (knd:=yd prog w) (k:=k) hk (Db hk) ho hd hel (by omega) hf tb (λ⟨e,he,q⟩=>?_) λno h' es' ep' t' kp g p f tb' l=>?_
 ·have q:vO k e.2=true:=q;have m:jq ks k=true:=Ds.mpr (pm.mem_iff.mp (xQ.mpr ⟨e,he,OF q⟩));have ea:vK ks k=ks:=by unfold vK; rw[m,zN rfl]
  have:=h s.heap false (λ_ _ _ e=>e) (by rw[ea]; exact⟨o,es,ep,t,ho,hx,hd,hel,hb0,hf,tb,ld,pm⟩);exact this
 ·have m:jq ks k=false:=by
   cases c:jq ks k with
   |false=>rfl
   |true=>
    exfalso
    obtain⟨e,he,q⟩:=xQ.mp (pm.mem_iff.mpr (Ds.mp c));have i:=Bq hel he;rw[q]at i;have n:vO k e.2=false:=no e he;rw[n]at i;cases i
  have ea:vK ks k=ks++[k]:=by unfold vK; rw[m,zS yz]
  have ez:es'.size=es.size+1:=by rw[<-wj,p.length_eq,yj,wj]; rfl
  refine h h' true (λc oc hc e=>(kp.2 c hc).trans e) ?_;rw[ea];refine⟨_,es',ep',t',g,hx,rfl,(hel.push (knd:=yd prog w) (k:=k) hk (Db hk)).perm p,by omega,f,tb',l.trans ld,?_⟩;refine(p.map λe=>keyOf e.2).trans ?_;rw[gP];refine pm.append (Qn ?_);show[keyOf x]=[k];rw[OF hk]
theorem da{A:Around}{E:Value->Shared->Prop}{s:Shared}(a:Value){Q₁:Value->Shared->Prop}(h:Q₁ (.ref s.heap.objs.size) { s with heap:=s.heap.push { cls:=.type "set",dict:=none,data:=.set #[] 0 (.fresh 0 0 (!w.params.followText "set-order")) } }) :
  codeAny (model prog w) A (.call (.builtin "set.__new__") ⟨[.type "set",a],[]⟩) (wants Q₁ E) s:=by
 refine codeAny_of_tree (show wpAny _ A.in1 (checkBuiltinCall "set.__new__" ⟨[.type "set",a],[]⟩ >>= λ_=>again (.builtin "set.__new__" ⟨[.type "set",a],[]⟩)) _ _ s from ?_);refine zC (VU (F.newCall_set_1 a) (zO ⟨jG F.plain_set_new _,pI (F.entry_set_new) ?_⟩));rw[Z6 (F.plain_set_new) _];unfold Builtin.«set.__new__» Builtin.Frozenset.newClass;have e:=sub_set_self;obtain⟨hp,g,d,tk,os⟩:=s;dsimp only
 wp_walk
 refine Ys (zO ?_);dsimp only;simp only[newObj];exact zC (wpAny_alloc (zO (zO h)))
theorem Ei{A:Around}{R:Result->Shared->Prop}{d it l:Addr}{its:List Value}(hA:A.handled=none)(hdl:d≠l)(hdi:d≠it)(hli:l≠it) :
  ∀(ks:List zJ)(i:Nat)(acc:List zJ)(s:Shared),s.heap.IsListIter it l i->s.heap.IsList l its.toArray->i+ks.length=its.length->(∀(j:Nat)(k:zJ),ks[j]?=some k->∃v,its[i+j]?=some v/\vO k v=true)->
   uV prog w d acc s.heap->acc.length+ks.length+1<scanBound->(∀h' tk,uV prog w d (ks.foldl vK acc) h'->(∀b o,b≠d->b≠it->s.heap.get? b=some o->h'.get? b=some o)->R (.ok (.ret .none)) { s with heap:=h',toks:=tk })->
   codeAny (model prog w) A (.builtin "set.update.loop" ⟨[.ref d,.ref it],[]⟩) R s
 | [],i,acc,s,st,hl,hn,hp,hd,hz,h=>by
  refine pI F.entry_set_update_loop ?_;rw[Z6 M2 _];unfold Builtin.«set.update.loop»;refine zC (Mk (by exact hA) st hl (by simp at hn ⊢; omega) λh' eb=>?_);exact zO (h h' s.toks (hd.keep λo e=>eb d o hdi e) λb o _ hb e=>eb b o hb e)
 |k::ks,i,acc,s,st,hl,hn,hp,hd,hz,h=>by
  obtain⟨v,hv,hk⟩:=hp 0 k rfl;refine pI F.entry_set_update_loop ?_;rw[Z6 M2 _];unfold Builtin.«set.update.loop»;refine zC (Ml st hl (x:=v) (by simpa using hv) λh1 st1 sb=>?_);have keep1:∀c o,c≠it->s.heap.get? c=some o->h1.get? c=some o:=λc o hc e=>(sb.2 c hc).trans e
  have hd1:uV prog w d acc h1:=hd.keep λo e=>keep1 d o hdi e
  rw[xc]at hz hn;refine zC (qG ?_);unfold setAdd;refine qG (zC ((yd prog w).pyHash (k:=k) hk ?_));refine hd1.add (s:={ s with heap:=h1,toks:=_ }) hk (by omega) λh2 bb kp2 hd2=>?_
  have keep2:∀c o,c≠d->c≠it->s.heap.get? c=some o->h2.get? c=some o:=λc o a1 a2 e=>(kp2 c o a1 (keep1 c o a2 e))
  refine zO ⟨jG (M2) _,?_⟩;have hl2:=Hc acc k;refine Ei (its:=its) hA hdl hdi hli ks (i+1) (vK acc k) _ ?_ ?_ (by omega) (λj k' e=>?_) hd2 (by omega) λh' tk hd' kp=>?_
  ·exact st1.at λo e=>kp2 it o (λz=>hdi z.symm) e
  ·obtain⟨o,e,r⟩:=hl;exact⟨o,keep2 l o (λz=>hdl z.symm) hli e,r⟩
  ·obtain⟨v',hv',hk'⟩:=hp (j+1) k' (by simpa using e);exact⟨v',by rw[show i+1+j=i+(j+1) by omega]; exact hv',hk'⟩
  ·exact h h' tk hd' λc o a1 a2 e=>kp c o a1 a2 (keep2 c o a1 a2 e)
set_option maxHeartbeats 8000000 in
theorem KQ{A:Around}{E:Value->Shared->Prop}{s:Shared}{l:Addr}{o:Obj}{its:List Value}{n:Nat}{ks:List zJ}{Q:Value->Shared->Prop}(hA:A.handled=none)(ho:s.heap.get? l=some o)(hc:o.cls=.type "list")(hdat:o.data=.seq its.toArray n)
  (hn:ks.length=its.length)(hp:∀(j:Nat)(k:zJ),ks[j]?=some k->∃v,its[j]?=some v/\vO k v=true)(hz:ks.length+1<scanBound)
  (h:∀h' tk,uV prog w s.heap.objs.size (ks.foldl vK []) h'->(∀b o,s.heap.get? b=some o->h'.get? b=some o)->Q (.ref s.heap.objs.size) { s with heap:=h',toks:=tk }) :
  wpAny (model prog w) A (call (.type "set") [.ref l]) Q E s:=by
 obtain⟨_,_,em⟩:=gJ.mro;have e1:=gJ.made; have e2:=gJ.sub; have e3:=gJ.notType; have e4:=gJ.canCreate; have e5:=F.typeCall_set_1 (.ref l);refine J0 (codeAny_of_tree (show wpAny _ _ (callAny (.type "set") _) _ _ _ from zO ⟨Code.quiet_builtin _ (by decide +kernel),pI F.entry_type_call ?_⟩));rw[Around.under_plain (weight_type_call_type "set" [.ref l] []) rfl]
 repeat (any_goals (first|wp_step|assumption))
 refine VS (da (.ref l) (E:=E) (Q₁:=λv s1=>v=.ref s.heap.objs.size/\s1={ s with heap:=s.heap.push { cls:=.type "set",dict:=none,data:=.set #[] 0 (.fresh 0 0 (!w.params.followText "set-order")) } }) ⟨rfl,rfl⟩) λr s1 hr=>?_
 cases r with
 |error e=>exact hr
 |ok fl=>
  cases fl with
  |ret v=>
   obtain⟨rfl,rfl⟩:=hr;generalize hb0:(!w.params.followText "set-order")=b;obtain⟨h0,hh0⟩:∃h0,h0=s.heap.push { cls:=.type "set",dict:=none,data:=.set #[] 0 (.fresh 0 0 b) }:=⟨_,rfl⟩;have g0:h0.get? s.heap.objs.size=some { cls:=.type "set",dict:=none,data:=.set #[] 0 (.fresh 0 0 b) }:=by rw[hh0]; exact Heap.get?_push_size _ rfl
   have k0:∀c oc,s.heap.get? c=some oc->h0.get? c=some oc:=λc oc e=>by rw[hh0]; exact Heap.get?_push_of_some _ e
   have z0:h0.objs.size=s.heap.objs.size+1:=by rw[hh0]; exact Heap.size_push ..
   have set0:uV prog w s.heap.objs.size [] h0:=⟨_,#[],0,_,g0,⟨rfl,rfl,rfl⟩,rfl,λe he=>by simp at he,by decide,by rfl,⟨rfl,List.Pairwise.nil⟩,hb0.symm,pE _⟩;rw[<-hh0];have hT:Shared.TypeIs { s with heap:=h0 } (.ref s.heap.objs.size) "set" := ⟨_,g0,rfl⟩;have i1:=gJ.init.lookup; have i2:=gJ.init.bind (.ref s.heap.objs.size)
   repeat (any_goals (first|wp_step|assumption))
   refine VS (Ma (R:=wants (λr s2=>r=.none/\∃h' tk,s2={ s with heap:=h',toks:=tk }/\uV prog w s.heap.objs.size (ks.foldl vK []) h'/\∀b o,s.heap.get? b=some o->h'.get? b=some o) E) gJ.init.plain F.entry_set_init (check_set_init_1 hT ?_)) λr2 s2 hr2=>?_
   ·have ho0:=k0 l o ho;obtain⟨oc,od,odt,os⟩:=o;simp only at hc hdat;subst hc hdat;have hl0:h0.IsList l its.toArray:=⟨_,ho0,rfl,n,rfl⟩;have s1:=F.sub_list_set; have s2:=F.sub_list_frozenset;have ne:(Value.type "list" == Value.type "dict")=false:=by decide
    have hlt:=Heap.lt_size ho;unfold Builtin.«set.__init__» noKeywords Builtin.Frozenset.updateFrom;generalize eP:pyIter=P
    wp_walk
    subst eP;refine VX hl0 (zC (wpAny_runValue ?_));have ki:∀c oc,s.heap.get? c=some oc->(h0.push { cls:=.type "list_iterator",data:=.fields #[.ref l,.int 0 0] }).get? c=some oc:=λc oc e=>Heap.get?_push_of_some _ (k0 c oc e)
    refine Ei (l:=l) (its:=its) (by simp[hA]) (xF (uJ hlt)) (xF (by rw[z0]; exact w6 (ZE _))) (xF (by rw[z0]; exact w6 (VP hlt))) ks 0 [] _ ⟨_,Heap.get?_push_size _ rfl,rfl,rfl⟩ ⟨_,ki l _ ho,rfl,n,rfl⟩ (by rw[xw]; exact hn) (λj k e=>by rw[xw]; exact hp j k e) (set0.keep λoc e=>Heap.get?_push_of_some _ e) (by simpa using hz) λh' tk hs kp=>?_
    refine zO (show wpAny _ _ (ret Value.none) _ _ _ from zO ⟨rfl,h',tk,rfl,hs,λc oc e=>?_⟩);have hb:=Heap.lt_size e;exact kp c oc (xF (w6 hb)) (xF (by rw[z0]; exact w6 (VP hb))) (ki c oc e)
   ·cases r2 with
    |error e=>exact hr2
    |ok f2=>
     cases f2 with
     |ret r=>
      obtain⟨rfl,h',tk,rfl,hs,kp⟩:=hr2
      repeat (any_goals (first|wp_step|assumption))
      exact h _ _ hs kp
     |_=>exact hr2.elim
  |_=>exact hr.elim
end
theorem Wz:Slot "set_iterator" "__next__" "set_iterator.__next__":=
 .of (owner := "set_iterator") (n := "__next__") (by rw[typeLookup_type,builtinLookup_eq_fast]; kernel_rfl) (by decide +kernel) (by decide +kernel) (by decide +kernel) (by first|exact .inl (by decide +kernel)|exact .inr (by decide +kernel)) (by rw[Me]; kernel_rfl)
theorem Em:Slot "set_iterator" "__iter__" "set_iterator.__iter__":=
 .of (owner := "set_iterator") (n := "__iter__") (by rw[typeLookup_type,builtinLookup_eq_fast]; kernel_rfl) (by decide +kernel) (by decide +kernel) (by decide +kernel) (by first|exact .inl (by decide +kernel)|exact .inr (by decide +kernel)) (by rw[Me]; kernel_rfl)
theorem dt:entryFor table "set_iterator.__next__" = some Builtin.«set_iterator.__next__»:=entryFor_of_tree (by kernel_rfl)
theorem dr:entryFor table "set_iterator.__iter__" = some Builtin.«dict_keyiterator.__iter__»:=entryFor_alias (id' := "dict_keyiterator.__iter__") (by kernel_rfl) (by first|rfl|decide +kernel) (by decide +kernel) (by kernel_rfl)
theorem dZ:entryFor table "set.__iter__" = some Builtin.«frozenset.__iter__»:=entryFor_alias (id' := "frozenset.__iter__") (by kernel_rfl) rfl (by decide +kernel) (by kernel_rfl)
theorem El:Manifest.owners.lookup (String.ofList "set_iterator".toList)=some Manifest.sig_set_iterator:=by kernel_rfl
theorem dl(a:Value):argsOk "set_iterator.__next__" ⟨[a],[]⟩:=by
 unfold argsOk; rw[signature?_of (id := "set_iterator.__next__") (n:=['_','_','t','x','e','n','_','_']) (o:=['r','o','t','a','r','e','t','i','_','t','e','s']) (by kernel_rfl) El]; kernel_rfl
theorem dk(a:Value):argsOk "set_iterator.__iter__" ⟨[a],[]⟩:=by
 unfold argsOk; rw[signature?_of (id := "set_iterator.__iter__") (n:=['_','_','r','e','t','i','_','_']) (o:=['r','o','t','a','r','e','t','i','_','t','e','s']) (by kernel_rfl) El]; kernel_rfl
section
variable{M:Model}{A:Around}{E:Value->Shared->Prop}
theorem KZ{s:Shared}{src:Source}{n:Nat}{Q:Nat->Shared->Prop}(hn:n≠0)(h:∀i d,i<n->Q i { s with drawn:=d }):wpAny M A (choose src n) Q E s:=
 λ_ _ _=>⟨hn,h _ _ (Nat.mod_lt _ (Nat.pos_of_ne_zero hn))⟩
theorem Jx{α:Type}:∀{xs:List α}{i:Nat}{x:α},xs[i]?=some x->(x::xs.eraseIdx i).Perm xs
 | [],_,_,h=>by cases h
 |y::ys,0,x,h=>by
  cases h;exact pE _
 |y::ys,i+1,x,h=>(List.Perm.swap y x _).trans ((Jx (by simpa using h)).cons y)
theorem Bj{α:Type}:∀(n:Nat)(xs:List α)(s:Shared){Q:List α->Shared->Prop},xs.length<=n->(∀ys d,ys.Perm xs->Q ys { s with drawn:=d })->wpAny M A (drawOrder n xs) Q E s
 |0,xs,s,Q,hn,h=>by
  cases xs with
  |nil=>
   unfold drawOrder;exact zO (h [] s.drawn (pE _))
  |cons _ _=>simp at hn
 |n+1,[],s,Q,hn,h=>by
  unfold drawOrder;exact zO (h [] s.drawn (pE _))
 |n+1,x::xs,s,Q,hn,h=>by
  unfold drawOrder;refine zC (KZ (by simp) λi d hi=>?_);have e:(x::xs)[i]?=some ((x::xs)[i]):=yS hi;rw[e]
  have hl:((x::xs).eraseIdx i).length<=n:=by
   rw[Gu,zN hi];rw[xc]at hn ⊢;omega
  refine zC (Bj n _ { s with drawn:=d } hl λys d' p=>zO ?_);exact h _ d' ((List.Perm.cons _ p).trans (Jx e))
end
theorem Ce{α:Type}(next:Nat->Nat):∀(n k:Nat)(left:List α)(out:Array α),left.length<=n->(pickOrder.go next n k left out).toList.Perm (out.toList++left)
 |0,k,left,out,h=>by
  cases left with
  |nil=>
   unfold pickOrder.go;exact Qn (ui _).symm
  |cons _ _=>simp at h
 |n+1,k,left,out,h=>by
  unfold pickOrder.go;cases left with
  |nil=>exact Qn (ui _).symm
  |cons x xs=>
   have hi:next k%(x::xs).length<(x::xs).length:=Nat.mod_lt _ (by simp);have e:(x::xs)[next k%(x::xs).length]?=some ((x::xs)[next k%(x::xs).length]):=yS hi;rw[e];dsimp only
   have hl:((x::xs).eraseIdx (next k%(x::xs).length)).length<=n:=by
    rw[Gu,zN hi];rw[xc]at h ⊢;omega
   refine(Ce next n (k+1) _ _ hl).trans ?_;rw[Array.toList_push,gK];exact(pE _).append (Jx e)
theorem aM{α:Type}(next:Nat->Nat)(xs:Array α):(pickOrder next xs).toList.Perm xs.toList:=by
 show(pickOrder.go next xs.size 0 xs.toList #[]).toList.Perm _;have:=Ce next xs.size 0 xs.toList #[] (by simp);simpa using this
theorem Hu{xs:Array Nat}(up:xs.toList.Pairwise (·<·)):SetTable.below xs 0=0:=by
 obtain⟨a,b,_⟩:=Jb up 0;by_cases c:SetTable.below xs 0=0
 ·exact c
 ·have:=b 0 (by omega) (by omega);omega
theorem Ht{xs:Array Nat}(up:xs.toList.Pairwise (·<·)){i:Nat}(h:i<xs.size):SetTable.below xs (xs[i]+1)=i+1:=by
 obtain⟨a,b,c⟩:=Jb up (xs[i]+1);generalize SetTable.below xs (xs[i]+1)=p at *;rcases Nat.lt_trichotomy p (i+1)with q|q|q
 ·have:=c i h (by omega);omega
 ·exact q
 ·have h1:=b (i+1) (by omega) q;have h2:=MN.mp up i (i+1) (by simpa using h) (by simp; omega) (by omega);simp only[VD]at h2;omega
section
variable{prog:Program}{w:World}{A:Around}{E:Value->Shared->Prop}
def Zj(h:Heap)(I:Addr)(fs:Array Value):Prop:=h.get? I=some { cls:=.type "set_iterator",data:=.fields fs }
structure Wk(w:World)(a:Addr)(es:Array (Int×Value))(ep:Nat)(t:SetTable)(ord:List Value)(I tp:Addr)(i:Nat)(h:Heap):Prop where
 st:∃o,h.get? a=some o/\o.data=.set es ep t
 md:(w.params.followText "set-order" = true/\ord=(pickOrder (w.params.setOrder a ep) es).toList.map (·.2)/\∃sl:Nat,Zj h I #[rawInt sl,rawInt i,.ref a,rawInt es.size,rawInt ep]) \/
  (w.params.followText "set-order" = false/\(!t.plain&&decide (es.size>1))=false/\t.led=true/\xj t/\ord=es.toList.map (·.2)/\∃sl:Nat,Zj h I #[rawInt sl,rawInt i,.ref a,rawInt es.size,rawInt ep]/\SetTable.below t.place sl=i) \/
  ∃places:List Nat,ord=places.map (λp=>(es.getD p (0,.none)).2)/\(∀p∈places,p<es.size)/\Zj h I #[.ref tp,rawInt i,.ref a,rawInt es.size,rawInt ep]/\h.get? tp=some { cls:=.type "tuple",data:=.seq (places.map λp:Nat=>rawInt p).toArray }
theorem Pg{s:Shared}{a:Addr}{o:Obj}{es:Array (Int×Value)}{ep:Nat}{t:SetTable}{Q:Value->Shared->Prop}(ho:s.heap.get? a=some o)(hx:o.ExactSet)(hd:o.data=.set es ep t)(hf:t.fits es.size=true)(hb:es.size<scanBound)(tb:xj t)(ld:t.led=(!w.params.followText "set-order"))
  (h:∀h' d ord I tp,ord.Perm (es.toList.map (·.2))->s.heap.objs.size<=I->(tp=a\/s.heap.objs.size<=tp)->I≠tp->Wk w a es ep t ord I tp 0 h'->(∀b ob,s.heap.get? b=some ob->h'.get? b=some ob)->Q (.ref I) { s with heap:=h',drawn:=d }):wpAny (model prog w) A (pyIter (.ref a)) Q E s:=by
 have hT:s.TypeIs (.ref a) "set" := ⟨o,ho,hx.1⟩;refine wpAny_pyIter_slot hT F.slot_set_iter (tL (F.slot_set_iter) hT dZ ?_ (F.args_set_iter_1 _));unfold Builtin.«frozenset.__iter__» Builtin.Frozenset.slot0 slotArgs;simp only[List.isEmpty_nil,M1,Yj,↓reduceIte,bind_assoc,pF,bne_self_eq_false];unfold Builtin.Frozenset.addrOf Builtin.Frozenset.sizeOf;refine zC (zO ?_)
 try dsimp only
 refine zC (zO ?_);refine zC (zC (wpAny_setEntries_of (es:=es) ho hd hf (zO ?_)));unfold setDrawn setsByText;refine zC (zC (Yu (es:=es) (t:=t) ho hd hf ?_));dsimp only;refine zC (zC (Ys (zO (zO ?_))));show wpAny _ _ (if(!w.params.followText "set-order" && (!t.plain&&decide (es.size>1)))=true then _ else _) _ _ _;have hn:es.size<=sizeLine:=VT hb;by_cases c:(!w.params.followText "set-order" && (!t.plain&&decide (es.size>1)))=true
 ·rw[zN c];refine zC (Bj es.size _ s (by simp) λys d p=>?_);have ly:ys.length=es.size:=by rw[p.length_eq,vx]
  refine zC (wpAny_newTuple ?_ (by rw[zx,ly]; exact hn));have ho1:(s.heap.push { cls:=.type "tuple",data:=.seq (ys.map λi:Nat=>rawInt i).toArray }).get? a=some o:=Heap.get?_push_of_some _ ho;refine zC (wpAny_setEpoch_of (es:=es) (t:=t) ho1 hd hf ?_);unfold newFields;refine zC (um (zO ⟨_,rfl, "set_iterator",_,⟨_,Heap.get?_push_size _ rfl,rfl⟩,Wz.lookup,?_⟩));refine h _ d (ys.map λp=>(es.getD p (0,.none)).2) _ s.heap.objs.size ?_ ?_ (.inr (zr _)) ?_ ⟨⟨o,Heap.get?_push_of_some _ ho1,hd⟩,.inr (.inr ⟨ys,rfl,λq hq=>?_,Heap.get?_push_size _ rfl,Heap.get?_push_of_some _ (Heap.get?_push_size _ rfl)⟩)⟩ λb ob e=>Heap.get?_push_of_some _ (Heap.get?_push_of_some _ e)
  ·refine(p.map _).trans (Qn ?_);refine List.ext_getElem (by simp) λj h1 h2=>?_
   have hj:j<es.size:=by simpa using h1
   simp[Array.getD,hj]
  ·rw[Heap.size_push];exact VO _
  ·rw[Heap.size_push];exact xF (uJ (ZE _))
  ·simpa using p.mem_iff.mp hq
 ·rw[zS c];refine zC (zO (zC (wpAny_setEpoch_of (es:=es) (t:=t) ho hd hf ?_)));unfold newFields;refine zC (um (zO ⟨_,rfl, "set_iterator",_,⟨_,Heap.get?_push_size _ rfl,rfl⟩,Wz.lookup,?_⟩));cases f:w.params.followText "set-order" with
  |true=>
   exact h _ s.drawn _ _ a ((aM (w.params.setOrder a ep) es).map (·.2)) (zr _) (.inl rfl) (xF (uJ (Heap.lt_size ho))) ⟨⟨o,Heap.get?_push_of_some _ ho,hd⟩,.inl ⟨f,rfl,0,Heap.get?_push_size _ rfl⟩⟩ λb ob e=>Heap.get?_push_of_some _ e
  |false=>
   rw[f]at c ld
   have c:(!t.plain&&decide (es.size>1))=false:=by
    rw[Bool.not_eq_true]at c;exact c
   exact h _ s.drawn _ _ a (pE _) (zr _) (.inl rfl) (xF (uJ (Heap.lt_size ho))) ⟨⟨o,Heap.get?_push_of_some _ ho,hd⟩,.inr (.inl ⟨f,c,ld,tb,rfl,0,Heap.get?_push_size _ rfl,Hu tb.up⟩)⟩ λb ob e=>Heap.get?_push_of_some _ e
theorem Rs{s:Shared}{a:Addr}{o:Obj}{es:Array (Int×Value)}{ep:Nat}{t:SetTable}{sl g:Nat}{Q:Option (Value×Nat)->Shared->Prop}(ho:s.heap.get? a=some o)(hd:o.data=.set es ep t)(hf:t.fits es.size=true)(f:w.params.followText "set-order" = true)
  (h:Q (((pickOrder (w.params.setOrder a ep) es)[g]?).map λe=>(e.2,sl)) s):wpAny (model prog w) A (setNext a sl g ep) Q E s:=by
 unfold setNext setsByText;refine zC (Yu (es:=es) (t:=t) ho hd hf ?_);dsimp only;refine zC (zC (Ys (zO ?_)));show wpAny _ _ (if w.params.followText "set-order" = true then _ else _) _ _ _;rw[zN f,zS (by simp)];unfold setWalk setsByText;refine zC (zC (Yu (es:=es) (t:=t) ho hd hf ?_));dsimp only;refine zC (zC (Ys (zO ?_)));show wpAny _ _ (if w.params.followText "set-order" = true then _ else _) _ _ _;rw[zN f];exact zC (Ys (zO (zO h)))
theorem Rr{s:Shared}{a:Addr}{o:Obj}{es:Array (Int×Value)}{ep:Nat}{t:SetTable}{sl g e:Nat}{Q:Option (Value×Nat)->Shared->Prop}(ho:s.heap.get? a=some o)(hd:o.data=.set es ep t)(hf:t.fits es.size=true)(f:w.params.followText "set-order" = false)(c:(!t.plain&&decide (es.size>1))=false)(ld:t.led=true)
  (h:Q (match es[SetTable.below t.place sl]?,t.place[SetTable.below t.place sl]? with|some (_,x),some j=>some (x,j+1)|_,_=>none) s):wpAny (model prog w) A (setNext a sl g e) Q E s:=by
 unfold setNext setsByText;refine zC (Yu (es:=es) (t:=t) ho hd hf ?_);dsimp only;refine zC (zC (Ys (zO ?_)));show wpAny _ _ (if w.params.followText "set-order" = true then _ else _) _ _ _;rw[zS (by rw[f]; exact yz)];refine zC (zO ?_);show wpAny _ _ (if(!t.plain&&decide (es.size>1))=true then _ else _) _ _ _;rw[zS (by rw[c]; exact yz)];refine zC (show wpAny _ _ (if(!t.led&&!es.isEmpty)=true then _ else _) _ _ _ from ?_);rw[zS (by rw[ld]; exact yz)];exact zO (zO h)
theorem LX{s:Shared}{P:Fin->Shared->Prop}{Q:Option Value->Shared->Prop}(hh:A.handled=none)(h:∀h',(∀b ob,s.heap.get? b=some ob->h'.get? b=some ob)->Q none { s with heap:=h' }) :
  wpAny (model prog w) A.in1 (newExc (.type "StopIteration") [] >>= λe=>(raiseNew e:Sem Fin)) P (λe s'=>wpAny (model prog w) A (isInstance e (.type "StopIteration") >>= λb=>if b=true then pure none else throw e) Q E s') s:=by
 refine zC ?_;simp only[newExc,newTuple];refine zC (um (zC (m:=firstArgMember _ _) (VU (a:=Value.none) (by first|rfl|(simp only[firstArgMember]; rfl)) (um ?_ (by size_fits)))) (by size_fits));simp only[raiseNew];refine zC (Mi ?_);rw[show A.in1.handled=none from hh];refine zC (zO ?_);refine wpAny_throw (zC ?_);refine J2 (T := "StopIteration") (b:=true) ⟨_,Heap.get?_push_size _ rfl,rfl⟩ Md ?_;exact zO (h _ λb ob e=>Heap.get?_push_of_some _ (Heap.get?_push_of_some _ e))
theorem j7{s:Shared}{I:Addr}{fs:Array Value}{k:Nat}{v:Value}{Q:Unit->Shared->Prop}(hit:Zj s.heap I fs)(hk:k<fs.size)(h:∀h',Zj h' I (fs.setIfInBounds k v)->Heap.SameBut I s.heap h'->Q () { s with heap:=h' }):wpAny (model prog w) A (setField (.ref I) k v) Q E s:=
 VY hit rfl hk (h _ (Heap.get?_update_self _ hit rfl) (Heap.SameBut.update ..))
theorem Dz{s:Shared}{a:Addr}{es:Array (Int×Value)}{ep:Nat}{t:SetTable}{ord:List Value}{I tp:Addr}{i:Nat}{Q:Option Value->Shared->Prop}(hh:A.handled=none)(hIa:I≠a)(hIt:I≠tp)(hf:t.fits es.size=true)(lo:ord.length=es.size)(W:Wk w a es ep t ord I tp i s.heap)(hi:i<=ord.length)
  (h1:∀v h',ord[i]?=some v->Wk w a es ep t ord I tp (i+1) h'->Heap.SameBut I s.heap h'->Q (some v) { s with heap:=h' })
  (h0:i=ord.length->∀h',(∀b ob,b≠I->s.heap.get? b=some ob->h'.get? b=some ob)->Q none { s with heap:=h' }):wpAny (model prog w) A (pyNext (.ref I)) Q E s:=by
 obtain⟨⟨o,ho,hd⟩,md⟩:=W
 obtain⟨first,hit⟩:∃first,Zj s.heap I #[first,rawInt i,.ref a,rawInt es.size,rawInt ep]:=by
  rcases md with⟨_,_,sl,z⟩|⟨_,_,_,_,_,sl,z,_⟩|⟨_,_,_,z,_⟩
  ·exact⟨_,z⟩
  ·exact⟨_,z⟩
  ·exact⟨_,z⟩
 have hT:s.TypeIs (.ref I) "set_iterator" := ⟨_,hit,rfl⟩;unfold pyNext;refine zC (Q_ (pJ (name:=Str.ofString "__next__") hT Wz (tL Wz hT dt ?_ (dl _))));unfold Builtin.«set_iterator.__next__» slotArgs;simp only[List.isEmpty_nil,M1,Yj,↓reduceIte,bind_assoc,pF,bne_self_eq_false];refine zC (zO ?_)
 try dsimp only
 refine zC (Mh hit rfl ?_);show wpAny _ _ (setEntries a >>= _) _ _ s;refine zC (wpAny_setEntries_of (es:=es) ho hd hf ?_);rw[zS (by simp)];refine zC (zO ?_);rcases md with⟨f,eo,sl,z⟩|⟨f,c,ld,tb,eo,sl,z,hb⟩|⟨places,eo,hp,z,ht⟩
 ·cases(vV (hit.symm.trans z));show wpAny _ _ (setNext a (sl:Int).toNat (i:Int).toNat (ep:Int).toNat >>= _) _ _ s;rw[xU,xU,xU]
  have eg:((pickOrder (w.params.setOrder a ep) es)[i]?).map (λe=>(e.2,sl))=(ord[i]?).map λv=>(v,sl):=by
   rw[eo,xM,VC,Option.map_map];rfl
  refine zC (Rs ho hd hf f ?_);rw[eg];cases hv:ord[i]? with
  |some v=>
   show wpAny _ _ (setField (.ref I) 0 (rawInt sl) >>= _) _ _ _;refine zC (j7 hit (by simp) λh2 i2 k2=>?_);refine zC (j7 (s:={ s with heap:=h2 }) i2 (by simp) λh3 i3 k3=>?_);refine zO ⟨v,rfl,zO (h1 v h3 hv ⟨⟨o,?_,hd⟩,.inl ⟨f,eo,sl,?_⟩⟩ (k2.trans k3))⟩
   ·exact(k3.2 a hIa.symm).trans ((k2.2 a hIa.symm).trans ho)
   ·exact i3
  |none=>
   show wpAny _ _ (setField (.ref I) 2 .none >>= _) _ _ _;refine zC (j7 hit (by simp) λh2 i2 k2=>?_)
   have e:i=ord.length:=by
    have:=Go.mp hv;omega
   exact LX hh λh3 k3=>h0 e h3 λb ob hbI eb=>k3 b ob ((k2.2 b hbI).trans eb)
 ·cases(vV (hit.symm.trans z));show wpAny _ _ (setNext a (sl:Int).toNat (i:Int).toNat (ep:Int).toNat >>= _) _ _ s;rw[xU,xU,xU];refine zC (Rr ho hd hf f c ld ?_);rw[hb]
  have hps:t.place.size=es.size:=by
   simp only[SetTable.fits,xP,ZF]at hf;exact hf.1
  by_cases hlt:i<es.size
  ·have e1:es[i]?=some (es[i].1,es[i].2):=gH hlt;have e2:t.place[i]?=some (t.place[i]'(by omega)):=gH (by omega);rw[e1,e2]
   have hv:ord[i]?=some es[i].2:=by
    rw[eo,xM,VC,e1];rfl
   show wpAny _ _ (setField (.ref I) 0 (rawInt ((t.place[i]'(by omega)+1:Nat):Int)) >>= _) _ _ _;refine zC (j7 hit (by simp) λh2 i2 k2=>?_);refine zC (j7 (s:={ s with heap:=h2 }) i2 (by simp) λh3 i3 k3=>?_);refine zO ⟨es[i].2,rfl,zO (h1 _ h3 hv ⟨⟨o,?_,hd⟩,.inr (.inl ⟨f,c,ld,tb,eo,t.place[i]'(by omega)+1,?_,Ht tb.up (by omega)⟩)⟩ (k2.trans k3))⟩
   ·exact(k3.2 a hIa.symm).trans ((k2.2 a hIa.symm).trans ho)
   ·exact i3
  ·have e1:es[i]?=none:=VB (by omega);rw[e1];show wpAny _ _ (setField (.ref I) 2 .none >>= _) _ _ _;refine zC (j7 hit (by simp) λh2 i2 k2=>?_);exact LX hh λh3 k3=>h0 (by omega) h3 λb ob hbI eb=>k3 b ob ((k2.2 b hbI).trans eb)
 ·cases(vV (hit.symm.trans z));show wpAny _ _ (seqItems? (.ref tp) >>= _) _ _ s;refine zC (tM ht rfl ?_);have lp:places.length=es.size:=by rw[<-lo,eo,zx]
  show wpAny _ _ (match(places.map λp:Nat=>rawInt p).toArray[(i:Int).toNat]? with|some (.int place _)=>_|some _=>_|none=>_) _ _ _;rw[xU];by_cases hlt:i<places.length
  ·have e1:(places.map λp:Nat=>rawInt p).toArray[i]?=some (rawInt (places[i]:Nat)):=by simp[hlt]
   have hpi:=hp places[i] (uj hlt);have e2:es[places[i]]?=some (es[places[i]].1,es[places[i]].2):=gH hpi
   have hv:ord[i]?=some es[places[i]].2:=by
    rw[eo,xM,yS hlt];simp[Array.getD,hpi]
   rw[e1];show wpAny _ _ (setNextDrawn a ((places[i]:Nat):Int).toNat (ep:Int).toNat >>= _) _ _ _;rw[xU,xU];unfold setNextDrawn;refine zC (zC (Yu (es:=es) (t:=t) ho hd hf ?_));dsimp only;rw[zS (by simp),e2];refine zO ?_;refine zC (j7 hit (by simp) λh2 i2 k2=>?_);refine zO ⟨_,rfl,zO (h1 _ h2 hv ⟨⟨o,(k2.2 a hIa.symm).trans ho,hd⟩,.inr (.inr ⟨places,eo,hp,i2,(k2.2 tp hIt.symm).trans ht⟩)⟩ k2)⟩
  ·have e1:(places.map λp:Nat=>rawInt p).toArray[i]?=none:=by simp; omega
   rw[e1];show wpAny _ _ (setField (.ref I) 0 (rawInt 0) >>= _) _ _ _;refine zC (j7 hit (by simp) λh2 i2 k2=>?_);refine zC (j7 (s:={ s with heap:=h2 }) i2 (by simp) λh3 i3 k3=>?_);exact LX hh λh4 k4=>h0 (by omega) h4 λb ob hbI eb=>k4 b ob ((k3.2 b hbI).trans ((k2.2 b hbI).trans eb))
end
section
variable{prog:Program}{w:World}{A:Around}{E:Value->Shared->Prop}
theorem oS{a:Addr}{es:Array (Int×Value)}{ep:Nat}{t:SetTable}{ord:List Value}{I tp:Addr}(hh:A.handled=none)(hIa:I≠a)(hIt:I≠tp)(hf:t.fits es.size=true)(lo:ord.length=es.size) :
  Walks prog w A I [I,a,tp] [I] ord.length (λi v=>ord[i]?=some v) (λi h=>i<=ord.length/\Wk w a es ep t ord I tp i h) where
 sub:=λb hb=>by
  rw[vB.mp hb];exact xV ..
 frame:=λi h h' ⟨hi,W⟩ k=>by
  obtain⟨⟨o,ho,hd⟩,md⟩:=W;have kI:=k I (xV ..);have ka:=k a (wQ _ (xV ..));have kt:=k tp (wQ _ (wQ _ (xV ..)));refine⟨hi,⟨o,ka o ho,hd⟩,?_⟩;rcases md with⟨f,eo,sl,z⟩|⟨f,c,ld,tb,eo,sl,z,hb⟩|⟨places,eo,hp,z,ht⟩
  ·exact .inl ⟨f,eo,sl,kI _ z⟩
  ·exact .inr (.inl ⟨f,c,ld,tb,eo,sl,kI _ z,hb⟩)
  ·exact .inr (.inr ⟨places,eo,hp,kI _ z,kt _ ht⟩)
 item:=λi s Q E hi ⟨hle,W⟩ hQ=>Dz hh hIa hIt hf lo W hle (λv h' hv W' k=>by
  have:=hQ v h' s.toks hv ⟨hi,W'⟩ λb o hb e=>(k.2 b λz=>hb (by rw[z]; exact xV ..)).trans e
  exact this) λz=>absurd z (w6 hi)
 done:=λs Q E ⟨hle,W⟩ hQ=>Dz hh hIa hIt hf lo W hle (λv h' hv=>by
  rw[uH (zr _)]at hv;cases hv) λ_ h' k=>hQ h' s.toks λb o hb e=>k b o (λz=>hb (by rw[z]; exact xV ..)) e
 self:=λi s Q E ⟨hle,W⟩ hQ=>by
  obtain⟨_,md⟩:=W
  have hT:s.TypeIs (.ref I) "set_iterator" := by
   rcases md with⟨_,_,sl,z⟩|⟨_,_,_,_,_,sl,z,_⟩|⟨_,_,_,z,_⟩<;>exact⟨_,z,rfl⟩
  refine wpAny_pyIter_slot hT Em (tL Em hT dr (show wpAny _ _ (ret (.ref I)) _ _ s from ?_) (dk _));exact zO ⟨_,rfl, "set_iterator",_,hT,Wz.lookup,hQ⟩
theorem N_{s:Shared}{a:Addr}{Q:Bool->Shared->Prop}(hT:s.TypeIs (.ref a) "set")(h:Q false s):wpAny (model prog w) A (Builtin.List.listLengthHint (.ref a)) Q E s:=by
 unfold Builtin.List.listLengthHint;refine zC (wpAny_specialOf hT (F.slot_set_len.lookup) ?_);generalize hi:("set.__len__" : String)=x
 wp_delta
 rw[show splitId x=some ("set", "__len__")from by subst hi; decide +kernel];subst hi;refine zC (J2 (T := "set") (b:=true) hT (by rw[Me]; kernel_rfl) ?_);refine Mj (λz=>absurd z (by decide)) λ_=>Mj (λ_=>?_) λz=>absurd (by decide +kernel) z
 exact zC (gU hT (zO h))
theorem Ke{s:Shared}{a:Addr}{o:Obj}{es:Array (Int×Value)}{ep:Nat}{t:SetTable}{Q:List Value->Shared->Prop}(hh:A.handled=none)(ho:s.heap.get? a=some o)(hx:o.ExactSet)(hd:o.data=.set es ep t)(hf:t.fits es.size=true)(hb:es.size<scanBound)(tb:xj t)(ld:t.led=(!w.params.followText "set-order"))
  (h:∀h' d tk ord,ord.Perm (es.toList.map (·.2))->s.heap.objs.size<h'.objs.size->(∀b ob,s.heap.get? b=some ob->h'.get? b=some ob)->Q ord { s with heap:=h',drawn:=d,toks:=tk }):wpAny (model prog w) A (collect (.ref a)) Q E s:=by
 unfold collect;refine zC (wpAny_runValue (pI (entry_proto_collect') ?_));show wpAny _ _ (newList [] >>= λl=>again (.builtin "list.__iadd__" ⟨[l,.ref a],[]⟩)) _ _ s;refine zC (wpAny_newList (zO ⟨Code.quiet_builtin _ (by decide +kernel),pI (entry_list_iadd') ?_⟩));show wpAny _ _ (Builtin.List.listExtendWith (.ref s.heap.objs.size) (.ref a) (.ref s.heap.objs.size)) _ _ { s with heap:=s.heap.push (seqObj "list" #[] 0) };unfold Builtin.List.listExtendWith;have ho0:(s.heap.push (seqObj "list" #[] 0)).get? a=some o:=Heap.get?_push_of_some _ ho;have hlt:=Heap.lt_size ho;have neS:s.heap.objs.size≠a:=xF (uJ hlt);refine zC (gU (T := "set") ⟨o,ho0,hx.1⟩ ?_);have q1:Builtin.List.listSameRef (.ref s.heap.objs.size) (.ref a)=false:=by simp[Builtin.List.listSameRef,neS]
 have q2:(Value.type "set" == Value.type "list")=false:=by decide
 have q3:(Value.type "set" == Value.type "tuple")=false:=by decide
 rw[zS (by rw[q1,q2,q3]; exact yz)];refine zC (Pg ho0 hx hd hf hb tb ld λh1 d ord I tp pm hI htp hIt W0 kp=>?_);refine zC (qG (N_ ⟨o,kp a o ho0,hx.1⟩ ?_));refine Mj (λ_=>?_) λz=>absurd (by decide +kernel) z
 refine zC (gT (zC ?_));have z0:(s.heap.push (seqObj "list" #[] 0)).objs.size=s.heap.objs.size+1:=Heap.size_push ..;rw[z0]at hI htp;have lo:ord.length=es.size:=by rw[pm.length_eq,zx,wj]
 have hIa:I≠a:=xF (uJ (wE (VP hlt) hI))
 have hSf:s.heap.objs.size ∉ [I,a,tp]:=λm=>by
  simp only[yT,wR,or_false]at m;rcases m with m|m|m
  ·exact absurd hI (by rw[<-m]; exact HB _)
  ·exact neS m
  ·rcases htp with e|e
   ·exact neS (m.trans e)
   ·exact absurd e (by rw[<-m]; exact HB _)
 show wpAny _ _ (updateSeq s.heap.objs.size (·.push .none) >>= λ_=>updateSeq s.heap.objs.size (·.pop)) _ _ _;have S1:h1.get? s.heap.objs.size=some (seqObj "list" #[] 0):=kp _ _ (Heap.get?_push_size _ rfl);refine zC (VZ S1 rfl ?_);have S2:=Heap.get?_update_self (Obj.mapSeq (·.push Value.none)) S1 rfl;refine VZ (hz:=by seq_fits) S2 rfl (zO ⟨jG (F.plain_extend_loop) _,?_⟩);have S3:=Heap.get?_update_self (Obj.mapSeq (·.pop)) S2 rfl;have W:=oS (prog:=prog) (w:=w) (A:=A.in1) (ep:=ep) (t:=t) (es:=es) (by exact hh) hIa hIt hf lo
 have keep:∀b ob,b≠s.heap.objs.size->h1.get? b=some ob->((h1.update s.heap.objs.size (Obj.mapSeq (·.push Value.none))).update s.heap.objs.size (Obj.mapSeq (·.pop))).get? b=some ob:=λb ob hbS e=>
  (Heap.get?_update_other _ _ (qE hbS)).trans ((Heap.get?_update_other _ _ (qE hbS)).trans e)
 refine codeAny_extend_loopS W.toS (by rw[lo]; exact VT hb) s.heap.objs.size hSf (.ref s.heap.objs.size) ord.length 0 _ #[] _ rfl (uK _) (W.frame 0 h1 _ ⟨uK _,W0⟩ λb hb' ob e=>keep b ob (λz=>hSf (z▸hb')) e) S3 (ItemsOf.nil _) λs' acc' c' hm hS' hacc=>?_
 rw[Moved.eq_with hm];refine zC (wpAny_load hS' ?_)
 have ea:acc'.toList=ord:=by
  refine Ym λj=>?_
  by_cases c:j<ord.length
  ·have hj:j<acc'.size:=by rw[hacc.1]; exact c
   rw[VC,gH hj];exact(hacc.2 j _ (gH hj)).symm
  ·rw[uH (by rw[wj,hacc.1]; omega),uH (by omega)]
 show wpAny _ _ (pure acc'.toList) _ _ _;rw[ea];refine zO (h s'.heap d s'.toks ord pm (Heap.lt_size hS') λb ob e=>?_);have hbl:=Heap.lt_size e;refine hm.heap b ob (λm=>?_) (keep b ob (xF (w6 hbl)) (kp b ob (Heap.get?_push_of_some _ e)));rcases yT.mp m with m|m
 ·exact absurd hbl (by rw[m]; exact wJ _)
 ·rw[vB.mp m]at hbl;exact absurd (wE hbl (Nat.le_of_succ_le hI)) (wJ _)
end
def O7:Value->Int
 |.int i _=>i
 |_=>0
theorem DV:∀{vs:List Value},(∀v∈vs,∃i t,v=.int i t)->IntsAre vs (vs.map O7)
 | [],_=>.nil
 |v::vs,h=>by
  obtain⟨i,t,rfl⟩:=h v (xV ..);exact .cons _ _ (DV λx hx=>h x (wQ _ hx))
section
variable{prog:Program}{w:World}{A:Around}{E:Value->Shared->Prop}
theorem fL{s:Shared}{a:Addr}{ns:List Int}{Q:Value->Shared->Prop}(hh:A.handled=none)(z:uV prog w a (ns.map Sum.inl) s.heap)(h64:ns.length<64)
  (h:∀h' d tk p out c ns',s.heap.objs.size<=p->h'.get? p=some (seqObj "list" out c)->IntsAre out.toList ns'->ns'.Perm ns->ns'.Pairwise (·<=·)->(∀b ob,s.heap.get? b=some ob->h'.get? b=some ob)->Q (.ref p) { s with heap:=h',drawn:=d,toks:=tk }) :
  wpAny (model prog w) A (call (.builtin "sorted") [.ref a]) Q E s:=by
 obtain⟨o,es,ep,t,ho,hx,hd,hel,hb,hf,tb,ld,pk⟩:=z;refine Calls.call_function_entry kind_sorted plain_sorted entry_sorted (args_sorted1 _) ?_;unfold Builtin.«sorted»;refine zC (m:=checkCount "sorted" 1 1 _) (zO (zC (Ke (by exact hh) ho hx hd hf hb tb ld λh1 d tk ord pm hle kp=>zC (wpAny_newList ?_ (by rw[pm.length_eq,zx,wj]; exact VT hb)))))
 have pk2:(ord.map keyOf).Perm (ns.map Sum.inl):=by
  have:=pm.map keyOf;rw[vA]at this;exact this.trans pk
 have hv:∀v∈ord,∃i tk,v=Value.int i tk:=λv hv=>by
  obtain⟨e,he,rfl⟩:=xQ.mp (pm.mem_iff.mp hv);obtain⟨i,_,ei⟩:=xQ.mp (pk2.mem_iff.mp (List.mem_map_of_mem hv));have:=Bq hel he;rw[<-ei]at this;rcases uy this with⟨j,tk,_,e⟩|⟨x,tk,e,_⟩
  ·exact⟨j,tk,e⟩
  ·cases e
 have hI:=DV hv
 have pj:(ord.map O7).Perm ns:=by
  have g:=pk2.map λk:zJ=>match k with|.inl i=>i|.inr _=>(0:Int)
  rw[vA,vA]at g
  have e1:ns.map ((λk:zJ=>match k with|.inl i=>i|.inr _=>(0:Int))∘Sum.inl)=ns:=by
   rw[show((λk:zJ=>match k with|.inl i=>i|.inr _=>(0:Int))∘Sum.inl)=id from rfl,ZB]
  have e2:ord.map ((λk:zJ=>match k with|.inl i=>i|.inr _=>(0:Int))∘keyOf)=ord.map O7:=Gx λv hvv=>by
   obtain⟨i,tk,rfl⟩:=hv v hvv;rfl
  rw[e1,e2]at g;exact g
 have l64:ord.length<64:=by
  have:=pj.length_eq;rw[zx]at this;omega
 have g1:(h1.push (seqObj "list" ord.toArray 0)).get? h1.objs.size=some (seqObj "list" ord.toArray 0):=Heap.get?_push_size _ rfl;refine zC (qG (tL slot_list_sort ⟨_,g1,rfl⟩ entry_list_sort (list_sort_tree g1 hI l64 λout ns' a1 a2 a3=>⟨_,rfl,?_⟩) (args_list_sort _)));obtain⟨c,hc⟩:=sortedHeap_at (vs:=ord) (out:=out) g1;refine zO ⟨_,rfl,h _ d tk h1.objs.size out c ns' (jF hle) hc a1 (a2.trans pj) a3 λb ob e=>?_⟩;have hbl:=Heap.lt_size (kp b ob e);rw[sortedHeap_old (xF (w6 hbl)) (by rw[size_push']; exact VP hbl)];exact Heap.get?_push_of_some _ (kp b ob e)
end
section
variable{X:Cx}
abbrev X9(prog:Program)(w:World)(a:Addr)(ks:List zJ):HO:=.ext (uV prog w a ks)
def bQ(X:Cx):List V->Hp->VK->Prop:=λxs H Q=>∃(a:Addr) (ks:List zJ),xs=[.ref a]/\yL X.K H a (ks.map kV)/\ks.length<1000/\∀p,H p=none->Q (.ref p) (zX H p (X9 X.prog X.w p (ks.foldl vK [])))
theorem KP(hcalm:X.calm=true):wK X (.type "set") (bQ X):=by
 intro z6 s σ H xs us Q I r h;obtain⟨a,ks,rfl,sq,hl,q⟩:=h;obtain⟨u,rfl,ru⟩:=vg r;cases(show u=Value.ref a from ru);obtain⟨its,rv,⟨o,n,ho,hc,hdd,hdat⟩,hz⟩:=I.list sq;have hn:ks.length=its.length:=by rw[<-rv.length,zx]
 refine KQ (I.ok.hd hcalm) ho hc hdat hn (Dd X.prog X.w rv) (by unfold scanBound; omega) λh' tk hs kp=>?_
 refine⟨.ref s.heap.objs.size,_,I.laid (a:=s.heap.objs.size) (o:=X9 X.prog X.w s.heap.objs.size (ks.foldl vK [])) (t':=tk) kp (zr _) ⟨hs,?_,λh1 h2 z k=>z.keep k⟩,rfl,q _ I.fresh⟩;obtain⟨o',_,_,_,e,_⟩:=hs;exact⟨o',e⟩
theorem _root_.L2.Inv.draw{z6:List (Addr×Obj)}{σ:St}{H:Hp}{s:Shared}(I:Inv X z6 σ H s)(d:Drawn):Inv X z6 σ H { s with drawn:=d }:=⟨I.ok,I.os,I.bare,I.base,I.loc,I.cell,I.free,I.uL,I.pin,I.za,I.len⟩
def bT(X:Cx):List V->Hp->VK->Prop:=λxs H Q=>∃(a:Addr) (ns:List Int),xs=[.ref a]/\H a=some (X9 X.prog X.w a (ns.map Sum.inl))/\ns.length<64/\∀l,H l=none->Q (.ref l) (zX H l (.lst ((isort ns).map V.int)))
theorem KR(hcalm:X.calm=true):wK X (.builtin "sorted") (bT X):=by
 intro z6 s σ H xs us Q I r h;obtain⟨a,ns,rfl,ea,h64,q⟩:=h;obtain⟨u,rfl,ru⟩:=vg r;cases(show u=Value.ref a from ru);obtain⟨z,_⟩:=(show yl X.prog X.w H s.heap a (X9 X.prog X.w a (ns.map Sum.inl))from I.za a _ ea);refine fL (I.ok.hd hcalm) z h64 λh' d tk p out c ns' hp hc a1 a2 a3 kp=>?_
 have e:ns'=isort ns:=LU (a2.trans (isort_perm ns).symm) a3 (isort_sorted ns);subst e;have hl2:(isort ns).length=ns.length:=(isort_perm ns).length_eq;refine⟨.ref p,_,(I.draw d).laid (t':=tk) (h':=h') kp hp (show yl X.prog X.w _ _ _ (.lst ((isort ns).map V.int))from⟨?_,out.toList,c,O9 a1,?_⟩),rfl,q _ (I.za.fresh hp)⟩
 ·rw[zx,hl2];show _<=sizeLine;rw[wn];omega
 ·rw[Gf];exact hc
end
end L2
namespace L3
open PySem PySem.Spec PyProof.Rows L2
def pR(acc:List Int)(n:Int):List Int:=if(acc.any λm=>decide (m=n))=true then acc else acc++[n]
def t5(ns:List Int):List Int:=ns.foldl pR []
theorem Hb(acc:List Int)(n:Int):vK (acc.map Sum.inl) (.inl n)=(pR acc n).map Sum.inl:=by
 have e:jq (acc.map Sum.inl) (.inl n)=acc.any λm=>decide (m=n):=by
  unfold jq;rw[List.any_map]
  congr 1
  funext m
  exact decide_eq_decide.mpr ⟨pG,congrArg _⟩
 unfold vK pR;rw[e]
 split
 ·rfl
 ·rw[gP];rfl
theorem CT:∀(ns acc:List Int),(ns.map Sum.inl).foldl vK (acc.map Sum.inl)=(ns.foldl pR acc).map Sum.inl
 | [],_=>rfl
 |n::ns,acc=>by
  rw[wD,Z8,Z8,Hb];exact CT ns (pR acc n)
def Zt:List D->Option D
 | [.lst xs]=>(intsOf xs).bind λns=>if ns.length<1000/\(t5 ns).length<64 then some (.lst ((isort (t5 ns)).map D.int))else none
 |_=>none
theorem Ek{X:Cx}{e:Expr}{fs:FA}{p p2 pos pos2:Pos}(hcalm:X.calm=true)(hg:Gl X "sorted")(hm:X.mg "sorted" = none)(hg2:Gl X "set")(hm2:X.mg "set" = none)(ha:SA X [e] fs)(hs:xS e=true:=by rfl) :
  SF X (.Call (.Name "sorted" p) [.Call (.Name "set" p2) [e] [] pos2] [] pos) (eL Zt fs):=by
 obtain⟨t,pt,k⟩:=ha.h;have q1:=Xr (p:=p2) (pos:=pos2) (KP hcalm) hg2 hm2 K8 ⟨pt⟩ (by decide) (by decide) (by rw[wl,hs]; rfl);refine⟨⟨_,(Tv (p:=p) (pos:=pos) (KR hcalm) hg hm BU (Tu q1 L8) (by decide) (by decide)).h,λ{G0 H0 G H τ σ d Q} E hf q=>?_⟩⟩;obtain⟨ds,hd,hf⟩:=zP hf;refine k E hd λvs G1 H1 x1 r1=>?_
 match ds,hf with
 | [.lst xs],hf=>
  obtain⟨ns,hn,hf⟩:=zP (show(intsOf xs).bind _=some d from hf)
  split at hf
  ·rename_i h64;cases hf;obtain⟨v,rfl,a,us,rfl,sq,rs,l⟩:=p7 r1;rw[OA hn]at rs l;rw[LF rs]at sq
   have sq:yL X.K G1 a ((ns.map Sum.inl).map kV):=by
    rw[vA];exact sq
   have ek:(ns.map Sum.inl).foldl vK []=(t5 ns).map Sum.inl:=CT ns [];refine⟨a,ns.map Sum.inl,rfl,wZ x1.gh sq,by rw[zx]; exact h64.1,λp1 hp1=>?_⟩;have x2:=x1.trans (zV.uM (o:=X9 X.prog X.w p1 ((ns.map Sum.inl).foldl vK [])) x1.gh hp1);refine⟨p1,t5 ns,rfl,by rw[ek]; exact yW,h64.2,λp hp=>?_⟩;refine q p _ _ (x2.trans (zV.uM x2.gh hp)) (x2.h.free hp) (x2.gh.free hp) ⟨_,yW,O8 _,?_⟩;rw[zx,(isort_perm _).length_eq];show _<=16777216;omega
  ·cases hf
end L3
namespace L2
open PySem PySem.Spec PyProof PyProof.Rows
section
variable{X:Cx}{tg:Expr}
end
end L2
namespace L3
open PySem PySem.Spec PyProof.Rows L2
end L3
namespace L2
open PySem PySem.Spec PyProof PyProof.Rows
section
variable{X:Cx}
end
end L2
namespace L3
open PySem PySem.Spec PyProof.Rows L2
section
variable{X:Cx}{x y:Str}{xp yp pos apos cpos:Pos}{e:Expr}{f:FE}
end
section
variable{K:W.Frag}{n:Nat}{G0 H0 G H G' H':Hp}{τ:yB}{σ:St}{i:Nat}{nds:List (List D)}{p:Addr}{qs:List Addr}
end
section
variable{X:Cx}{i:Nat}{x:Str}{p pos pos' apos cpos xp sp:Pos}{e k v c tg iter:Expr}{f fk fv:FE}{ft:FT}{fs:FA}{st:Stmt}{sts body sa sb:List Stmt}{g g':NFS}{fg:FG}
end
section
variable{X:Cx}{i:Nat}{x:Str}{pos pos' p spos:Pos}{e tg iter:Expr}{st:Stmt}{fi:yB->Option Nat}{fs:FA}{rest:List Stmt}{g:NFS}{scope:Scope}{cl:List (Str×Addr)}{own:List Str}{tG:TG}{fg:FG}
end
section
variable{P:Program}{w:World}{K:W.Frag}{mg:Str->Option Value}{base:Heap}
end
section
variable{X:Cx}{e:Expr}{es:List Expr}{f:FE}{fs:FA}{x:Str}{p pos:Pos}{ps:List Str}{j k:Nat}{FF:List D->Option (Bool×D)}
end
end L3
namespace L2
open PySem PySem.Spec PyProof PyProof.Rows
section
variable{prog:Program}{w:World}{A:Around}{E:Value->Shared->Prop}
end
section
variable{X:Cx}
theorem Dh:∀{kvs:List (zJ×V)} {vs:List (zJ×Value)},KV kvs vs->vs.map (·.1)=kvs.map (·.1)
 |_,_,.nil=>rfl
 |_,_,.cons r t=>by rw[wD,wD,Dh t,r.1]
end
end L2
namespace L3
open PySem PySem.Spec PyProof.Rows L2
end L3
namespace L2
open PySem PySem.Spec PyProof PyProof.Rows
section
variable{X:Cx}{x:Str}{e:Expr}{es:List Expr}{t:TA}{p pos:Pos}{i j:Nat}
end
end L2
namespace L3
open PySem PySem.Spec PyProof.Rows L2
section
variable{X:Cx}{x y o gn:Str}{e:Expr}{es:List Expr}{fs:FA}{p p2 pos pos' xp gp op apos cpos:Pos}{i io iy j:Nat}{body rest:List Stmt}{t:TS}{g:FS}
end
section
variable{X:Cx}{x y o gn:Str}{e:Expr}{es:List Expr}{fs:FA}{p p2 pos pos' xp xp2 gp op apos cpos:Pos}{i io iy j:Nat}{rest:List Stmt}{g:FS}{a:Addr}{names:List Str}{Fs:List (List D->Option (Bool×D))}{gs:List FS}
end
section
variable{α:Type}{P:List α->Prop}
theorem nE(h:P []):∀us:List α,us.length=0->P us
 | [],_=>h
theorem QP{n:Nat}(h:∀a (r:List α),r.length=n->P (a::r)):∀us:List α,us.length=n+1->P us
 |a::r,e=>h a r (Nat.succ.inj e)
theorem xn(h:∀a,P [a]):∀us:List α,us.length=1->P us:=QP λa=>nE (P:=λr=>P (a::r)) (h a)
theorem vU(h:∀a b,P [a,b]):∀us:List α,us.length=2->P us:=QP λa=>xn (P:=λr=>P (a::r)) (h a)
theorem Z3(h:∀a b c,P [a,b,c]):∀us:List α,us.length=3->P us:=QP λa=>vU (P:=λr=>P (a::r)) (h a)
theorem nF(h:∀a b c d,P [a,b,c,d]):∀us:List α,us.length=4->P us:=QP λa=>Z3 (P:=λr=>P (a::r)) (h a)
end
abbrev yQ(x:Str)(st:Stmt)(oc:Value)(od:Option Addr)(sl:Array (Option Value))(kV dc pm:Value)(an:Option Addr)(cd ct:Value):Option Obj:=some ⟨oc,od,.func (W.fnOf x x (Zp st) (qq st) (zz st) .none kV dc pm an cd ct),sl⟩
section
variable{P:Program}{w:World}{K:W.Frag}{mg:Str->Option Value}{base:Heap}
end
section
variable{X:Cx}{tg iter elt:Expr}{scope:Scope}{cl:List (Str×Addr)}{own:List Str}{pos p1:Pos}{fs:FA}{fg:FG}{f:FE}{tG:TG}{st:Stmt}{sts:List Stmt}{g:FS}{b:FSN}
end
open PyProof
section
variable{X:Cx}{i m:Nat}{x:Str}{es:List Expr}{p pos pos' spos:Pos}
end
section
variable{X:Cx}{K:W.Frag}
end
end L3
namespace L2
open PySem PySem.Spec PyProof PyProof.Rows
def uS(K:W.Frag)(w:World)(a:Addr)(ks:List zJ)(us:List V):Prop:=
 (a==sysModules)=false/\ks.length=us.length/\∃ep,∀(P:Program)(h:Heap),K.In h->∃vs,KV (ks.zip us) vs/\h.DictAt (yd P w) a vs ep
theorem OG{k:zJ}{v:Value}(h:vO k v=true):z_ (kV k) v:=by
 rcases uy h with⟨i,t,rfl,rfl⟩|⟨x,t,rfl,rfl⟩
 ·exact⟨t,rfl⟩
 ·exact⟨t,rfl⟩
def JM(ks:List zJ):It:=⟨λi _=>i<ks.length,λi H v H'=>H'=H/\∃k,ks[i]?=some k/\v=kV k,λi _=>ks.length<=i⟩
theorem uZ:∀{kvs:List (zJ×V)} {vs:List (zJ×Value)},KV kvs vs->vs.length=kvs.length
 |_,_,.nil=>rfl
 |_,_,.cons _ t=>by rw[xc,xc,uZ t]
theorem m8{P:Program}{w:World}{K:W.Frag}{tg:Expr}{ks:List zJ}{us:List V}{ep:Nat}(a it:Addr)(hl:ks.length=us.length)(g:∀(P:Program)(h:Heap),K.In h->∃vs,KV (ks.zip us) vs/\h.DictAt (yd P w) a vs ep) :
  tT P w K tg (JM ks) [it] it (λi h=>h.IsKeyIter it a i ks.length ep) where
 mem:=by simp
 obj:=λi h st b hb=>by
  have e:b=it:=by simpa using hb
  subst e;obtain⟨o,e,c,d⟩:=st;exact⟨o,e,λv z=>by rw[d]at z; cases z⟩
 keep:=λi h h' st k=>st.at λo e=>k it (by simp) o e
 item:=by
  intro X hP hw hK hc i z6 s σ H E I hf st hg;subst hP hw hK;obtain⟨vs,rel,dd⟩:=g X.prog s.heap I.wF;have ln:vs.length=ks.length:=by rw[uZ rel,tI,hl,tK]
  have hi:i<vs.length:=by rw[ln]; exact hg
  have hx:vs[i]?=some (vs[i].1,vs[i].2):=yS hi
  have hk:ks[i]?=some vs[i].1:=by
   have e:=congrArg (λl:List zJ=>l[i]?) (Dh rel);simp only[xM,hx,MY,List.map_fst_zip (show ks.length<=us.length by omega)]at e;exact e.symm
  obtain⟨f0,f1,f2,f3,f4,f5⟩:=hf it (by simp);rw[<-ln]at st;refine wpAny_pyNext_dict_item st dd hx λkey h' hkey st' sb=>?_
  rw[ln]at st';have I1:Inv X z6 σ H { s with heap:=h' }:=I.turned (t':=s.toks) (λb o hb e=>(sb.2 b hb).trans e) f0 f1 f3 f4 f5;obtain⟨o,e,c,d⟩:=id st';exact⟨key,rfl,Zx (s:={ s with heap:=h' }) e c d (by decide) ⟨kV vs[i].1,H,I1,OG hkey,⟨rfl,_,hk,rfl⟩,st',λb hb=>(hf b hb).1⟩⟩
 done:=by
  intro X hP hw hK hc i z6 s σ H E I hf st hg;subst hP hw hK;obtain⟨vs,rel,dd⟩:=g X.prog s.heap I.wF;have ln:vs.length=ks.length:=by rw[uZ rel,tI,hl,tK]
  have hx:vs[i]?=none:=uH (by rw[ln]; exact hg);obtain⟨f0,f1,f2,f3,f4,f5⟩:=hf it (by simp);rw[<-ln]at st;exact wpAny_pyNext_dict_end (I.ok.hd hc) st dd hx λh' eb=>⟨rfl,I.turned (t':=s.toks) (λb o hb e=>eb b o hb e) f0 f1 f3 f4 f5⟩
 self:=λ_ _ _ _ _ st h=>wpAny_pyIter_keyiter st h
def P5(ks:List zJ):TI:=λ_ H R=>R (JM ks) H
theorem aE{X:Cx}{tg:Expr}{x:Str}{p:Pos}{A:Addr}{ks:List zJ}{us:List V}(h:yf X.mg x (.ref A))(g:uS X.K X.w A ks us)(hg:Gl X x)(hd:(x==("__debug__" : Str))=false:=by decide):PI X tg (.Name x p) (P5 ks):=by
 intro z6 s σ H R I hR;obtain⟨hsys,hl,ep,mk⟩:=g;refine zi (Xn (pos:=p) h hg hd z6 s σ H (λv H1=>v=.ref A/\H1=H) I ⟨rfl,rfl⟩) λv s1 ⟨y,H1,I1,r1,e1,e2⟩=>?_
 subst e1 e2;cases(show v=Value.ref A from r1);obtain⟨vs,rel,dd⟩:=mk X.prog s1.heap I1.wF;have ln:vs.length=ks.length:=by rw[uZ rel,tI,hl,tK]
 refine J3 hsys dd ?_;rw[ln];refine⟨s1.heap.objs.size,[s1.heap.objs.size],_,_,H1,rfl,I1.kept (t':=s1.toks) λb o e=>Heap.get?_push_of_some _ e,m8 A _ hl mk,⟨_,Heap.get?_push_size _ rfl,rfl,rfl⟩,λb hb=>?_,hR⟩;have e:b=s1.heap.objs.size:=by simpa using hb
 subst e;exact I1.qe (zr _) (I1.za.fresh (zr _))
end L2
namespace L3
open PySem PySem.Spec PyProof PyProof.Rows L2
def keyOf:zJ->D
 |.inl i=>.int i
 |.inr x=>.str x
def uC:zJ->Bool
 |.inl _=>true
 |.inr x=>decide (x.length<=yn)
def iG(ks:List zJ):FA:=λ_=>some (ks.map keyOf)
theorem OH{K:W.Frag}{G:Hp}{k:zJ}(h:uC k=true):ze K G (keyOf k) (kV k):=by
 cases k with
 |inl i=>rfl
 |inr x=>exact⟨rfl,by rw[wn]; exact w_ h⟩
theorem ND{K:W.Frag}{G:Hp}{ks:List zJ}(h:ks.all uC=true):uu K (JM ks) G (ks.map keyOf) where
 go:=λi G2 H _ _ hi=>by rw[zx]at hi; exact hi
 vC:=λi G2 H x H' g1 g2 hi y=>by
  obtain⟨rfl,k,hk,rfl⟩:=y;exact⟨G2,keyOf k,zV.refl g2,by rw[xM,hk]; rfl,OH (wm.mp h k (tJ hk))⟩
 stop:=λi G2 H _ _ hi=>by rw[zx]at hi; exact hi
theorem LT{X:Cx}{tg:Expr}{x:Str}{p:Pos}{A:Addr}{ks:List zJ}{us:List V}(h:yf X.mg x (.ref A))(g:uS X.K X.w A ks us)(hg:Gl X x)(hk:ks.all uC=true)(hn:ks.length<=1000)(hd:(x==("__debug__" : Str))=false:=by decide):SI X tg (.Name x p) (iG ks):=
 ⟨⟨_,aE h g hg hd,λ{G0 H0 G H τ σ ds R} K hf q=>by
  cases hf;exact q _ _ _ (zV.refl K.ext.gh) (by rw[zx,wn]; exact xv hn (by decide)) (ND hk)⟩⟩
theorem IO{K:W.Frag}{w:World}{a:Addr}{es:List DictEntry}{n:Nat}{xs:List Str}{vs:List Value}{us:List V}(l:K.lookup a=some { cls:=.type "dict",data:=.dict es.toArray n })(e:qh w es xs vs)(nd:xs.Nodup)(hs:(a==sysModules)=false)(r:zy us vs) :
  uS K w a (xs.map .inr) us:=by
 have hl:(xs.map Sum.inr:List zJ).length=us.length:=by rw[zx,e.len,r.length]
 refine⟨hs,hl,n,λP h KI=>⟨_,OK r hl,?_⟩⟩;obtain⟨p,q⟩:=e.pairs (P:=P);refine⟨_,_,KI _ _ l,⟨rfl,rfl,rfl⟩,rfl,λe he=>q e (by simpa using he),p,?_⟩;rw[L_ (by rw[zx]; exact e.len)];exact MA _ (λa b h z=>h (Qw z)) nd
end L3
namespace L2
open PySem PySem.Spec PyProof PyProof.Rows
def B2(r d:Addr)(h:Heap):Prop:=h.IsValuesView r d
abbrev XC(r d:Addr):HO:=.ext (B2 r d)
section
variable{X:Cx}{A:Addr}{ks:List zJ}{us:List V}{x:Str}{p apos cpos:Pos}
def GB(A:Addr):TE:=λ_ H Q=>∀r,H r=none->Q (.ref r) (zX H r (XC r A))
theorem Aw(h:yf X.mg x (.ref A))(g:uS X.K X.w A ks us)(hg:Gl X x)(hd:(x==("__debug__" : Str))=false:=by decide)
  (hbase:attributeBase (.Name x p) "values" X.env (eval (.Name x p) X.env)=eval (.Name x p) X.env:=by rfl)(hline:(apos.endLine==cpos.line)=true:=by rfl) :
  PE X (.Call (.Attribute (.Name x p) "values" apos) [] [] cpos) (GB A):=by
 intro z6 s σ H Q I hQ;obtain⟨hsys,hl,ep,mk⟩:=g;refine Mg hbase hline (zi (Xn (pos:=p) h hg hd z6 s σ H (λv H1=>v=.ref A/\H1=H) I ⟨rfl,rfl⟩) λv s1 ⟨y,H1,I1,r1,e1,e2⟩=>?_);subst e1 e2;cases(show v=Value.ref A from r1);obtain⟨vs,rel,dd⟩:=mk X.prog s1.heap I1.wF;have dO:s1.heap.DictOf (yd X.prog X.w) A vs:=dd.dictOf
 have t2:∀b,Value.ref A=.ref b->∃ob,s1.heap.get? b=some ob/\ob.dict=none:=λb q=>by
  cases q;obtain⟨ob,_,_,h1,h2,_⟩:=dO;exact⟨ob,h1,h2.2.1⟩
 refine⟨"dict",_,PySem.F.plainAttrs_dict,PySem.F.slot_dict_values,PySem.F.type_dict_values,dO.typeIs,t2,Qi rfl (PySem.evalArgs_none ?_)⟩;refine call_meetsIn PySem.F.slot_dict_values dO.typeIs PySem.F.entry_dict_values (PySem.F.args_dict_values_1 _) (meets_dict_values (yd X.prog X.w) A hsys) ⟨⟨vs,dO⟩,?_⟩;have hv:B2 s1.heap.objs.size A (s1.heap.push { cls:=.type "dict_values",data:=.fields #[.ref A] }):=⟨_,Heap.get?_push_size _ rfl,rfl,rfl⟩;refine⟨.ref s1.heap.objs.size,_,I1.laid (a:=s1.heap.objs.size) (o:=XC s1.heap.objs.size A) (t':=s1.toks) (λ_ _ q=>Heap.get?_push_of_some _ q) (zr _) ⟨hv,?_,λh1 h2 z k=>?_⟩,rfl,hQ _ I1.fresh⟩
 ·obtain⟨o,e,_⟩:=hv;exact⟨o,e⟩
 ·obtain⟨o,e,z⟩:=z;exact⟨o,k _ e,z⟩
def bO(A:Addr)(us:List V):List V->Hp->VK->Prop:=λxs H Q=>∃r,xs=[.ref r]/\H r=some (XC r A)/\∀p,H p=none->Q (.ref p) (zX H p (.lst us))
theorem Di:∀{kvs:List (zJ×V)} {vs:List (zJ×Value)},KV kvs vs->zy (kvs.map (·.2)) (vs.map (·.2))
 |_,_,.nil=>.nil
 |_,_,.cons r t=>.cons r.2 (Di t)
theorem KH(hcalm:X.calm=true)(g:uS X.K X.w A ks us)(hn:us.length<=1000):wK X (.type "list") (bO A us):=by
 intro z6 s σ H xs ws Q I r h;obtain⟨a,rfl,ea,q⟩:=h;obtain⟨u,rfl,ru⟩:=vg r;cases(show u=Value.ref a from ru);obtain⟨hsys,hl,ep,mk⟩:=g;obtain⟨vs,rel,dd⟩:=mk X.prog s.heap I.wF;have ln:vs.length=us.length:=by rw[uZ rel,tI,hl,tK]
 obtain⟨hv,_⟩:=(show yl X.prog X.w H s.heap a (XC a A)from I.za a _ ea);refine W.kdl_call (W.kdl_values (knd:=yd X.prog X.w) (d:=A) (r:=a) (kvs:=vs) (ep:=ep)) (I.ok.hd hcalm) ⟨hv,dd⟩ (by rw[ln,wn]; exact xv hn (by decide)) λh' tk acc' c' kp hS hacc=>?_
 obtain⟨hsz,hat⟩:=hacc
 have e:acc'.toList=vs.map (·.2):=by
  refine Ym λj=>?_
  cases hj:acc'.toList[j]? with
  |none=>
   have:=Go.mp hj;rw[wj,hsz]at this;rw[xM,uH this];rfl
  |some v=>
   obtain⟨k,e⟩:=hat j v (by rw[<-VC]; exact hj);rw[xM,e];rfl
 have rv:zy us acc'.toList:=by
  rw[e];have:=Di rel;rw[List.map_snd_zip (show us.length<=ks.length by omega)]at this;exact this
 refine⟨.ref s.heap.objs.size,_,I.laid (a:=s.heap.objs.size) (o:=.lst us) (t':=tk) kp (zr _) ⟨?_,acc'.toList,c',rv,?_⟩,rfl,q _ I.fresh⟩
 ·rw[wn];exact xv hn (by decide)
 ·rw[hS]
end
end L2
namespace L3
open PySem PySem.Spec PyProof PyProof.Rows L2
theorem Ej{X:Cx}{A:Addr}{ks:List zJ}{us:List V}{ds:List D}{x:Str}{p p2 apos cpos pos:Pos}(hcalm:X.calm=true)(hgl:Gl X "list")(hml:X.mg "list" = none)(h:yf X.mg x (.ref A))(g:uS X.K X.w A ks us)(hg:Gl X x)(rd:∀H,Reps X.K H ds us)(hn:ds.length<=1000)(hd:(x==("__debug__" : Str))=false:=by decide)
  (hbase:attributeBase (.Name x p2) "values" X.env (eval (.Name x p2) X.env)=eval (.Name x p2) X.env:=by rfl)(hline:(apos.endLine==cpos.line)=true:=by rfl) :
  SF X (.Call (.Name "list" p) [.Call (.Attribute (.Name x p2) "values" apos) [] [] cpos] [] pos) (eC (.lst ds)):=by
 have hu:us.length<=1000:=by rw[(rd (λ_=>none)).length]; exact hn
 have q1:QE X (.Call (.Attribute (.Name x p2) "values" apos) [] [] cpos) (GB A):=⟨Aw h g hg hd hbase hline⟩;refine⟨⟨_,(Xr (p:=p) (pos:=pos) (KH hcalm g hu) hgl hml Jg (Tu q1 L8) (by decide) (by decide)).h,λ{G0 H0 G H τ σ d Q} E hf q=>?_⟩⟩;cases hf;intro r hr;refine⟨r,rfl,yW,λl hl=>?_⟩;have x1:=zV.uM (o:=XC r A) E.ext.gh hr;have x2:=x1.trans (zV.uM (o:=.lst us) x1.gh hl);exact q l _ _ x2 (x1.h.free hl) (x1.gh.free hl) ⟨us,yW,rd _,by rw[wn]; exact xv hn (by decide)⟩
end L3
namespace L2
open PySem PySem.Spec PyProof PyProof.Rows
section
variable{X:Cx}{x n:Str}{p pos np hpos tpos:Pos}{e e1 e2:Expr}{es:List Expr}{ta:TA}{te:TE}{tx:TX}{ps:List Str}{j k i:Nat}{sp:Sp}{E:XK}{D:Addr}{suite:List Stmt}{ts:TS}{b₀:Stmt}
end
end L2
namespace L3
open PySem PySem.Spec PyProof PyProof.Rows L2
section
variable{X:Cx}{E:XK}{x:Str}{C:Addr}{st:Stmt}{sts rest:List Stmt}{g:FS}{f:FSX}{ft:FT}{fa:FA}{c e:Expr}{es:List Expr}{np cpos pos ipos:Pos}
end
section
variable{P:Program}{w:World}{K:W.Frag}{mg:Str->Option Value}{base:Heap}
end
section
variable{X:Cx}{iy i j k kb:Nat}{y n x z f g pn:Str}{C D:Addr}{ps:List Str}{F:FX}{B:Str->Option Bool}{fa:FA}{fc:FE}{c e:Expr}{es:List Expr}{yp fp cp ap np gp mp gc bp rp hpos tpos:Pos}
end
end L3
namespace L2
open PySem PySem.Spec PyProof PyProof.Rows
section
variable{prog:Program}{w:World}{A:Around}{E:Value->Shared->Prop}{s:Shared}
open HT in
theorem NC{t sl:Addr}{zF:Array Value}{vl vu:Value}{lo hi:Option Int}{Q:Value->Shared->Prop}(ht:IsTup s.heap t zF)(hs:s.heap.IsSliceOf sl vl vu .none)(pl:IsPart vl lo)(pu:IsPart vu hi)
  (hw:sIx zF.size 0 lo=0/\sIx zF.size zF.size hi=zF.size)(h:Q (.ref t) s):wpAny (model prog w) A (getItem (.ref t) (.ref sl)) Q E s:=by
 obtain⟨os,hos,hcs,hds⟩:=id hs;have hTs:s.TypeIs (.ref sl) "slice" := ⟨os,hos,hcs⟩;unfold getItem
 try with_reducible refine qG ?_
 first|refine zC (zO ?_)|skip
 refine zC (wpAny_sequenceKey ht.typeIs (by decide) ?_)
 refine zC (pJ (name:=Str.ofString "__getitem__") ht.typeIs Yr
  (tL Yr ht.typeIs entry_tuple_getitem ?_ (args_tuple_getitem _ _)))
 show wpAny _ _ (Builtin.Tuple.tupleItemsOf (.ref t) >>= _) _ _ s;refine zC (tupleItemsOf_ ht ?_);refine zC (gU hTs ?_);rw[zN (by decide)];refine zC (Ep hs pl pu ?_)
 have hyes:(((sIx zF.size 0 lo:Nat):Int)==0&&(1:Int)==1&&(sIx zF.size zF.size hi-sIx zF.size 0 lo)==zF.size)=true:=by
  rw[hw.1,hw.2,Nat.sub_zero];simp
 show wpAny _ _ (if(((sIx zF.size 0 lo:Nat):Int)==0&&(1:Int)==1&&(sIx zF.size zF.size hi-sIx zF.size 0 lo)==zF.size)=true then _ else _) _ _ s;rw[zN hyes];have hT:s.TypeIs (.ref t) "tuple" := ht.typeIs;unfold Builtin.Tuple.tupleIsExact;exact zC (zC (gU hT (zO (zC (gT (zO ⟨_,rfl,zO h⟩))))))
end
def bS(K:W.Frag):V->Option Int->Option Int->Hp->VK->Prop:=λx lo hi H Q=>∃a xs,x=.ref a/\yu K H a xs/\
 (HT.sIx xs.length 0 lo=0/\HT.sIx xs.length xs.length hi=xs.length)/\Q (.ref a) H
theorem fD{X:Cx}:ql X (bS X.K):=by
 intro z6 s σ H x v vl vu lo hi sl Q I rx hs pl pu h;obtain⟨a,xs,rfl,hx,hw,q⟩:=h;cases rx;obtain⟨its,r,ht,hz⟩:=I.tuple hx;have hlen:its.toArray.size=xs.length:=by rw[yk]; exact r.length.symm
 refine⟨"tuple",_,Yr.lookup,ht.typeIs,?_⟩;exact NC ht hs pl pu (by rw[hlen]; exact hw) ⟨.ref a,H,I,rfl,q⟩
end L2
namespace L3
open PySem PySem.Spec PyProof PyProof.Rows L2
def ji(d:D)(lo hi:Option Int):Option D:=match d with
 |.tup xs=>some (.tup (qp xs lo hi))
 |d=>T6 d lo hi
def pX(a:FE)(lo hi:FO):FE:=λσ=>(a σ).bind λd=>(lo σ).bind λl=>(hi σ).bind λh=>ji d l h
theorem Kg{α:Type}{xs:List α}{lo hi:Option Int}(c:HT.sIx xs.length 0 lo=0/\HT.sIx xs.length xs.length hi=xs.length):qp xs lo hi=xs:=by
 unfold qp;rw[c.1,c.2,Nat.sub_zero,List.drop_zero,MQ]
theorem dY{X:Cx}{a:Expr}{fa:FE}{pos:Pos}{lo hi:Option Expr}{fl fh:FO}{p2:Pos}(ha:SE X a fa)(hl:SO X lo fl)(hh:SO X hi fh):SE X (.Subscript a (.Slice lo hi none p2) pos) (pX fa fl fh):=by
 obtain⟨ta,pa,ka⟩:=ha.h;obtain⟨tl,pl,kl⟩:=hl.h;obtain⟨th,ph,kh⟩:=hh.h;refine⟨⟨_,Cd (Eo.or fD) pa pl ph,λ{G0 H0 G H τ σ d Q} E hf q=>?_⟩⟩;obtain⟨x,hx,hf⟩:=zP hf;obtain⟨l,hl,hf⟩:=zP hf;obtain⟨h,hh,hf⟩:=zP hf;refine ka E hx λv G1 H1 x1 r1=>kl (E.go x1) hl λG2 H2 x2=>kh ((E.go x1).go x2) hh λG3 H3 x3=>?_
 have xx:=x1.trans (x2.trans x3);have r3:=r1.mono (x2.g.trans x3.g);cases x with
 |lst xs=>
  cases hf;obtain⟨a,vs,rfl,sq,rs,ll⟩:=r3;refine .inl (.inl ⟨a,vs,rfl,wZ x3.gh sq,λp hp=>q _ _ _ (xx.trans (zV.lay x3.gh hp)) ⟨p,_,rfl,yL.of yW,(rs.cut l h).mono (wY (x3.gh.free hp) _),xv (Uw ..) ll⟩⟩)
 |tup xs=>
  cases hf;obtain⟨a,vs,rfl,sq,rs,ll⟩:=r3;by_cases c:HT.sIx xs.length 0 l=0/\HT.sIx xs.length xs.length h=xs.length
  ·refine .inr ⟨a,vs,rfl,vT x3.gh sq,by rw[rs.length]; exact c,?_⟩;rw[Kg c]at q;exact q _ _ _ xx ⟨a,vs,rfl,sq,rs,ll⟩
  ·refine .inl (.inr (.inl ⟨a,vs,rfl,vT x3.gh sq,by rw[rs.length]; exact c,λp hp=>?_⟩));exact q _ _ _ (xx.trans (zV.lay x3.gh hp)) ⟨p,_,rfl,yu.of yW,(rs.cut l h).mono (wY (x3.gh.free hp) _),xv (Uw ..) ll⟩
 |str z=>
  cases hf;obtain⟨rfl,ll⟩:=r3;exact .inl (.inr (.inr ⟨z,rfl,ll,q _ _ _ xx ⟨rfl,xv (cut_len ..) ll⟩⟩))
 |_=>cases hf
end L3
namespace L2
open PySem PySem.Spec PyProof PyProof.Rows
section
variable{X:Cx}{z6:List (Addr×Obj)}{σ:St}{H:Hp}{s:Shared}{a:Addr}{o:Obj}{kvs:List (zJ×V)}
theorem Inv.swap{u u':HO}(I:Inv X z6 σ H s)(e:H a=some u)(no:∀x,u≠.own x)(nt:∀xs,u≠.tup xs)(nb:∀ps,X.H₀ a≠some (.tbl ps))(nf:∀ob v,X.H₀ a≠some (.zu ob v))(nq:∀xs,X.H₀ a≠some (.tup xs))(new:yl X.prog X.w (zX H a u') s.heap a u'):Inv X z6 σ (zX H a u') s:=by
 have ne:∀b,H b=none->b≠a:=λb hb z=>by subst z; rw[e]at hb; cases hb
 refine⟨I.ok,I.os,I.bare,⟨I.base.keep,I.base.slot,λb ob q n hx=>?_,I.base.there,λb xs q=>?_,λb ob v q=>?_,λb ps q=>?_⟩,I.loc,I.cell,?_,λx c q=>?_,λp hp=>?_,λb v q=>?_,I.len⟩
 ·have:=I.base.free b ob q n hx;rw[zm (ne b this)]; exact this
 ·have hb:b≠a:=λz=>by subst z; exact nq xs q
  rw[zm hb]; exact I.base.vj b xs q
 ·have hb:b≠a:=λz=>by subst z; exact nf ob v q
  rw[zm hb]; exact I.base.vW b ob v q
 ·have hb:b≠a:=λz=>by subst z; exact nb ps q
  rw[zm hb]; exact I.base.uN b ps q
 ·rw[zm (ne _ I.free)]; exact I.free
 ·rw[zm (ne _ (I.uL x c q))]; exact I.uL x c q
 ·obtain⟨h1,h2,h3⟩:=I.pin p hp;exact⟨h1,by rw[zm (ne _ h2)]; exact h2,h3⟩
 ·by_cases hb:b=a
  ·subst hb; rw[yW]at q; cases q; exact new
  ·rw[zm hb]at q;refine(I.za b v q).jH (λc w _ z=>z) (λc z=>?_) λc xs z=>?_
   ·have hc:c≠a:=λy=>by subst y; rw[e]at z; cases z; exact no _ rfl
    rw[zm hc]; exact z
   ·have hc:c≠a:=λy=>by subst y; rw[e]at z; cases z; exact nt _ rfl
    rw[zm hc]; exact z
theorem Inv.ZN(I:Inv X z6 σ H s)(e:H a=some (.dK kvs)):(∀ps,X.H₀ a≠some (.tbl ps))/\(∀ob v,X.H₀ a≠some (.zu ob v))/\∀xs,X.H₀ a≠some (.tup xs):=by
 refine⟨λps z=>?_,λob v z=>?_,λxs z=>?_⟩
 ·obtain⟨_,q⟩:=I.base.uN a ps z; rw[e]at q; cases q
 ·have q:=I.base.vW a ob v z; rw[e]at q; cases q
 ·have q:=I.base.vj a xs z; rw[e]at q; cases q
theorem Inv.up(I:Inv X z6 σ H s)(e:H a=some (.dK kvs)):∃o,Inv X z6 σ (zX H a (.zu o (.dK kvs))) s:=by
 obtain⟨n1,n2,n3⟩:=I.ZN e;obtain⟨z,y,vs,r,ob,es,ep,g,c⟩:=(show yl X.prog X.w H s.heap a (.dK kvs)from I.za a _ e);exact⟨ob,I.swap e (λ_ z=>nomatch z) (λ_ z=>nomatch z) n1 n2 n3 ⟨g,z,y,vs,r,ob,es,ep,g,c⟩⟩
theorem Inv.dn(I:Inv X z6 σ H s)(e:H a=some (.zu o (.dK kvs)))(n:(∀ps,X.H₀ a≠some (.tbl ps))/\(∀ob v,X.H₀ a≠some (.zu ob v))/\∀xs,X.H₀ a≠some (.tup xs)):Inv X z6 σ (zX H a (.dK kvs)) s:=by
 obtain⟨n1,n2,n3⟩:=n;obtain⟨_,z,y,vs,r,ob,es,ep,g,c⟩:=(show yl X.prog X.w H s.heap a (.zu o (.dK kvs))from I.za a _ e);exact I.swap e (λ_ z=>nomatch z) (λ_ z=>nomatch z) n1 n2 n3 ⟨z,y,vs,r,ob,es,ep,g,c⟩
end
def uO.dn(D:uO)(a:Addr)(o:Obj)(kvs:List (zJ×V)):uO:=
 ⟨λσ H=>H a=some (.zu o (.dK kvs))/\D.nx σ (zX H a (.dK kvs)),λv H=>H a=some (.zu o (.dK kvs))/\D.rt v (zX H a (.dK kvs)),λσ H=>H a=some (.zu o (.dK kvs))/\D.bk σ (zX H a (.dK kvs)),λσ H=>H a=some (.zu o (.dK kvs))/\D.ct σ (zX H a (.dK kvs))⟩
def cu(i:Nat)(t:TS):TS:=λD σ H=>∃a,σ[i]?=some (some (.ref a))/\((∃o kvs,H a=some (.zu o (.dK kvs))/\t D σ H)\/∃kvs,H a=some (.dK kvs)/\∀o,t (D.dn a o kvs) σ (zX H a (.zu o (.dK kvs))))
theorem ak{X:Cx}{st:Stmt}{t:TS}{i:Nat}(h:PS X st t):PS X st (cu i t):=by
 intro z6 s σ H D I ht;obtain⟨a,ha,⟨_,_,_,ht⟩|⟨kvs,e,ht⟩⟩:=ht
 ·exact h z6 s σ H D I ht
 ·obtain⟨o,I1⟩:=I.up e;refine zi (h z6 s σ _ _ I1 (ht o)) λf s' hf=>?_
  cases f with
  |next=>obtain⟨σ',H',I',e',q⟩:=hf; exact⟨σ',_,I'.dn e' (I.ZN e),q⟩
  |brk=>obtain⟨σ',H',I',e',q⟩:=hf; exact⟨σ',_,I'.dn e' (I.ZN e),q⟩
  |cont=>obtain⟨σ',H',I',e',q⟩:=hf; exact⟨σ',_,I'.dn e' (I.ZN e),q⟩
  |ret u=>obtain⟨v,σ',H',I',r,e',q⟩:=hf; exact⟨v,σ',_,I'.dn e' (I.ZN e),r,q⟩
def h_(i:Nat)(t:TE):TE:=λσ H Q=>∃a,σ[i]?=some (some (.ref a))/\((∃o kvs,H a=some (.zu o (.dK kvs))/\t σ H Q)\/∃kvs,H a=some (.dK kvs)/\∀o,t σ (zX H a (.zu o (.dK kvs))) λv H'=>H' a=some (.zu o (.dK kvs))/\Q v (zX H' a (.dK kvs)))
theorem Ar{X:Cx}{e:Expr}{t:TE}{i:Nat}(h:PE X e t):PE X e (h_ i t):=by
 intro z6 s σ H Q I ht;obtain⟨a,ha,⟨_,_,_,ht⟩|⟨kvs,e,ht⟩⟩:=ht
 ·exact h z6 s σ H Q I ht
 ·obtain⟨o,I1⟩:=I.up e;exact zi (h z6 s σ _ _ I1 (ht o)) λu s' ⟨v,H',I',r,e',q⟩=>⟨v,_,I'.dn e' (I.ZN e),r,q⟩
theorem pf{P:Program}{w:World}{H:Hp}{h:Heap}{a:Addr}{o:Obj}{kvs:List (zJ×V)}{es:Array DictEntry}{ep:Nat}(ok:xN P w H h)(e:H a=some (.zu o (.dK kvs)))(d:o.data=.dict es ep):(a==sysModules)=false/\∃vs,KV kvs vs/\h.DictAt (yd P w) a vs ep:=by
 obtain⟨g,z,y,vs,r,ob,es',ep',g',c⟩:=(show yl P w H h a (.zu o (.dK kvs))from ok a _ e);rw[g]at g';cases g';refine⟨y,vs,r,o,es',g,c.1,?_,c.2.2⟩;have e1:=c.2.1;rw[d]at e1;cases e1;exact d
theorem Ta:∀{kvs:List (zJ×V)} {vs:List (zJ×Value)} {i:Nat} {k:zJ} {x:Value},KV kvs vs->vs[i]?=some (k,x)->∃u,kvs[i]?=some (k,u)/\z_ u x
 |_,_,_,_,_,.nil,e=>by cases e
 |_,_,0,_,_,.cons r t,e=>by
  cases e;obtain⟨r1,r2⟩:=r;exact⟨_,congrArg some (Prod.ext r1 rfl),r2⟩
 |_,_,i+1,_,_,.cons _ t,e=>Ta (i:=i) t (by simpa using e)
end L2
namespace L3
open PySem PySem.Spec PyProof PyProof.Rows L2
structure Tw(a:Addr)(kvs:List (zJ×V))(G G':Hp):Prop where
 ne:∀b,b≠a->G' b=G b
 l:Rd G a (.dK kvs)
 r:Rd G' a (.dK kvs)
section
variable{K:W.Frag}{a:Addr}{o:Obj}{kvs:List (zJ×V)}{G G' H H' G0 H0:Hp}
theorem Rd.tw{b:Addr}{u:HO}(t:Tw a kvs G G')(hu:∀ob v,u≠.zu ob v)(h:Rd G b u):Rd G' b u:=by
 by_cases hb:b=a
 ·subst hb
  have e:u=.dK kvs:=by
   rcases h with h|⟨ob,h⟩<;>rcases t.l with l|⟨oc,l⟩<;>rw[l]at h
   ·cases h; rfl
   ·cases h; exact absurd rfl (hu oc _)
   ·cases h
   ·cases h; rfl
  rw[e];exact t.r
 ·rcases h with h|⟨ob,h⟩
  ·exact .inl (by rw[t.ne b hb]; exact h)
  ·exact .inr ⟨ob,by rw[t.ne b hb]; exact h⟩
theorem Tw.at{b:Addr}{u:HO}(t:Tw a kvs G G')(h:G b=some u)(h1:u≠.dK kvs)(h2:∀o,u≠.zu o (.dK kvs)):G' b=some u:=by
 by_cases hb:b=a
 ·subst hb;rcases t.l with l|⟨oc,l⟩<;>rw[l]at h
  ·cases h; exact absurd rfl h1
  ·cases h; exact absurd rfl (h2 oc)
 ·rw[t.ne b hb]; exact h
theorem ze.tw(t:Tw a kvs G G'):∀{d:D}{v:V},ze K G d v->ze K G' d v:=λ{d}=>by
 refine D.ind (P:=λd=>∀v,ze K G d v->ze K G' d v) (λv h=>h) (λb v h=>h) (λi v h=>h) (λx v h=>h) ?_ ?_ ?_ ?_ ?_ d _
 ·rintro xs ih v ⟨b,vs,e,q,r,l⟩;refine⟨b,vs,e,?_,Reps.imp ih r,l⟩;rcases q with q|q
  ·exact .inl (Rd.tw t (λ_ _ z=>nomatch z) q)
  ·exact .inr q
 ·rintro xs ih v ⟨b,vs,e,q,r,l⟩;refine⟨b,vs,e,?_,Reps.imp ih r,l⟩;rcases q with q|q
  ·exact .inl (Rd.tw t (λ_ _ z=>nomatch z) q)
  ·exact .inr q
 ·rintro ks xs ih v ⟨b,vs,e,q,z,r,l⟩;exact⟨b,vs,e,Rd.tw t (λ_ _ z=>nomatch z) q,z,Reps.imp ih r,l⟩
 ·rintro x v ⟨b,C,e,n,h⟩;exact⟨b,C,e,n,t.at h (λz=>nomatch z) (λ_ z=>nomatch z)⟩
 ·rintro x fs xs ih v ⟨b,C,dx,vs,e,n,h,l,r⟩;exact⟨b,C,dx,vs,e,n,t.at h (λz=>nomatch z) (λ_ z=>nomatch z),l,Reps.imp ih r⟩
theorem Reps.tw(t:Tw a kvs G G'){ds:List D}{vs:List V}(h:Reps K G ds vs):Reps K G' ds vs:=Reps.imp (λ_ _ _=>ze.tw t) h
theorem v4.tw{d:D}{p:Addr}(t:Tw a kvs G G')(hp:H' p=H p)(ow:v4 K G H d p):v4 K G' H' d p:=by
 cases d with
 |lst ds=>obtain⟨vs,e,r,l⟩:=ow; exact⟨vs,by rw[hp]; exact e,r.tw t,l⟩
 |dic ks ds=>obtain⟨vs,e,z,r,l⟩:=ow; exact⟨vs,by rw[hp]; exact e,z,r.tw t,l⟩
 |_=>exact ow.elim
theorem Le(e:G a=some (.dK kvs)):Tw a kvs G (zX G a (.zu o (.dK kvs))):=⟨λb hb=>zm hb,.inl e,.inr ⟨o,yW⟩⟩
theorem QM(e:G a=some (.zu o (.dK kvs))):Tw a kvs G (zX G a (.dK kvs)):=⟨λb hb=>zm hb,.inr ⟨o,e⟩,.inl yW⟩
def gG(a:Addr)(f:HO)(H0:Hp):Hp:=λb=>if b=a then(H0 a).bind λ_=>some f else H0 b
theorem GL{f:HO}{b:Addr}(h:b≠a):gG a f H0 b=H0 b:=zS h
theorem QN{f:HO}{b:Addr}:gG a f H0 b=none↔H0 b=none:=by
 unfold gG;by_cases h:b=a
 ·subst h;rw[zN rfl];cases H0 b with
  |none=>exact⟨λ_=>rfl,λ_=>rfl⟩
  |some u=>exact⟨λz=>(nomatch z),λz=>(nomatch z)⟩
 ·rw[zS h]
theorem nD{f u:HO}(h:gG a f H0 a=some u):u=f:=by
 unfold gG at h;rw[zN rfl]at h;cases e:H0 a with
 |none=>rw[e]at h; cases h
 |some w=>rw[e]at h; cases h; rfl
theorem zw.up{n:Nat}{τ:yB}{σ:St}(E:zw K n G0 H0 G H τ σ)(e:G a=some (.dK kvs)):zw K n (zX G a (.zu o (.dK kvs))) (gG a (.zu o (.dK kvs)) H0) (zX G a (.zu o (.dK kvs))) (zX H a (.zu o (.dK kvs))) τ σ:=by
 have t:=Le (o:=o) e;refine⟨⟨yK.refl _,λb u h=>?_,Q0 E.ext.gh,λ_ h=>.inl h⟩,E.l1,E.l2,λi d h=>?_,λi d h=>?_,E.ap⟩
 ·by_cases hb:b=a
  ·subst hb;rw[yW,nD h]
  ·rw[GL hb]at h;rw[zm hb];exact E.ext.h _ _ h
 ·obtain⟨v,e',r⟩:=E.fr i d h;exact⟨v,e',r.tw t⟩
 ·obtain⟨p,e',g,z,ow⟩:=E.ow i d h;have hp:p≠a:=λz=>by subst z; rw[e]at g; cases g
  exact⟨p,e',by rw[zm hp]; exact g,QN.mpr z,ow.tw t (zm hp)⟩
theorem zV.gW(x0:zV G0 H0 G H)(e:G a=some (.dK kvs))(x:zV (zX G a (.zu o (.dK kvs))) (gG a (.zu o (.dK kvs)) H0) G' H'):G' a=some (.zu o (.dK kvs))/\H' a=some (.zu o (.dK kvs))/\zV G0 H0 (zX G' a (.dK kvs)) (zX H' a (.dK kvs)):=by
 have g':G' a=some (.zu o (.dK kvs)):=x.g _ _ yW;refine⟨g',x.gh _ _ g',x0.rebase ⟨λb u h=>?_,λb u h=>?_,Q0 x.gh,λp h=>?_⟩⟩
 ·by_cases hb:b=a
  ·subst hb;rw[e]at h;cases h;exact yW
  ·rw[zm hb];exact x.g _ _ (by rw[zm hb]; exact h)
 ·by_cases hb:b=a
  ·subst hb;have:=x0.h _ _ h;rw[x0.gh _ _ e]at this;cases this;exact yW
  ·rw[zm hb];exact x.h _ _ (by rw[GL hb]; exact h)
 ·by_cases hb:p=a
  ·subst hb;exact .inl (by rw[e]; exact λz=>nomatch z)
  ·rw[zm hb]at h;rcases x.new p h with z|z
   ·rw[zm hb]at z;exact .inl z
   ·exact .inr (QN.mp z)
theorem zw.gW{n:Nat}{τ τ':yB}{σ σ':St}(E:zw K n G0 H0 G H τ σ)(e:G a=some (.dK kvs))(E':zw K n (zX G a (.zu o (.dK kvs))) (gG a (.zu o (.dK kvs)) H0) G' H' τ' σ'):H' a=some (.zu o (.dK kvs))/\zw K n G0 H0 (zX G' a (.dK kvs)) (zX H' a (.dK kvs)) τ' σ':=by
 obtain⟨g',h',x⟩:=E.ext.gW e E'.ext;have t:=QM g';refine⟨h',x,E'.l1,E'.l2,λi d h=>?_,λi d h=>?_,E'.ap⟩
 ·obtain⟨v,e',r⟩:=E'.fr i d h;exact⟨v,e',r.tw t⟩
 ·obtain⟨p,e',g,z,ow⟩:=E'.ow i d h;have hp:p≠a:=λz=>by subst z; rw[g']at g; cases g
  exact⟨p,e',by rw[zm hp]; exact g,QN.mp z,ow.tw t (zm hp)⟩
end
def Kn(K:W.Frag)(i:Nat)(τ:yB)(σ:St)(G:Hp):Prop:=∃a o ks ds vs,τ[i]?=some (some (false,.dic ks ds))/\σ[i]?=some (some (.ref a))/\G a=some (.zu o (.dK (ks.zip vs)))/\ks.length=vs.length/\Reps K G ds vs/\ds.length<=sizeLine
structure JY(X:Cx)(i:Nat)(st:Stmt)(f:FS):Prop where
 h:∃t,PS X st t/\∀{G0 H0 G H:Hp}{τ:yB}{σ:St}{fl:Fl}{E:uO},zw X.K X.N.length G0 H0 G H τ σ->Kn X.K i τ σ G->f τ=some fl->vJ X.K X.N.length G0 H0 E fl->t E σ H
structure B0(X:Cx)(i:Nat)(e:Expr)(f:FE):Prop where
 h:∃t,PE X e t/\∀{G0 H0 G H:Hp}{τ:yB}{σ:St}{d:D}{Q:VK},zw X.K X.N.length G0 H0 G H τ σ->Kn X.K i τ σ G->f τ=some d->(∀p G' H',zV G H G' H'->H p=none->G' p=none->v4 X.K G' H' d p->Q (.ref p) H')->t σ H Q
structure Zi(X:Cx)(i:Nat)(tg iter:Expr)(f:FA):Prop where
 h:∃wi,PI X tg iter wi/\∀{G0 H0 G H:Hp}{τ:yB}{σ:St}{ds:List D}{R:It->Hp->Prop},zw X.K X.N.length G0 H0 G H τ σ->Kn X.K i τ σ G->f τ=some ds->(∀J G' H',zV G H G' H'->ds.length<=sizeLine->uu X.K J G' ds->R J H')->wi σ H R
def qI{α:Type}(i:Nat)(f:yB->Option α):Prop:=∀τ x,f τ=some x->∃ks ds,τ[i]?=some (some (false,.dic ks ds))
theorem QD{X:Cx}{i:Nat}{st:Stmt}{f:FS}(h:JY X i st f)(hk:qI i f):SS X st f:=by
 obtain⟨t,pt,k⟩:=h.h;refine⟨⟨_,ak (i:=i) pt,λ{G0 H0 G H τ σ fl E} K hf q=>?_⟩⟩;obtain⟨ks,ds,ht⟩:=hk _ _ hf;obtain⟨v,hv,a,vs,rfl,rd,hl,rs,ll⟩:=K.fr i _ ht;refine⟨a,hv,?_⟩;rcases rd with e|⟨o,e⟩
 ·refine .inr ⟨_,K.ext.gh _ _ e,λo=>?_⟩;have K1:=K.up (o:=o) e;refine k K1 ⟨a,o,ks,ds,vs,ht,hv,yW,hl,rs.tw (Le e),ll⟩ hf ?_;cases fl with
  |nx τ'=>exact λσ' G' H' z=>let ⟨h1,h2⟩:=K.gW e z; ⟨h1,q σ' _ _ h2⟩
  |bk τ'=>exact λσ' G' H' z=>let ⟨h1,h2⟩:=K.gW e z; ⟨h1,q σ' _ _ h2⟩
  |ct τ'=>exact λσ' G' H' z=>let ⟨h1,h2⟩:=K.gW e z; ⟨h1,q σ' _ _ h2⟩
  |rt ow d=>
   cases ow with
   |false=>
    intro v G' H' x r;obtain⟨g',h',x'⟩:=K.ext.gW e x;exact⟨h',q v _ _ x' (r.tw (QM g'))⟩
   |true=>
    intro p G' H' x hp gp ow;obtain⟨g',h',x'⟩:=K.ext.gW e x;have ne:p≠a:=λz=>by subst z; rw[g']at gp; cases gp
    exact⟨h',q p _ _ x' (QN.mp hp) (by rw[zm ne]; exact gp) (ow.tw (QM g') (zm ne))⟩
 ·exact .inl ⟨o,_,K.ext.gh _ _ e,k K ⟨a,o,ks,ds,vs,ht,hv,e,hl,rs,ll⟩ hf q⟩
theorem di{X:Cx}{i:Nat}{e:Expr}{f:FE}(h:B0 X i e f)(hk:qI i f):SF X e f:=by
 obtain⟨t,pt,k⟩:=h.h;refine⟨⟨_,Ar (i:=i) pt,λ{G0 H0 G H τ σ d Q} K hf q=>?_⟩⟩;obtain⟨ks,ds,ht⟩:=hk _ _ hf;obtain⟨v,hv,a,vs,rfl,rd,hl,rs,ll⟩:=K.fr i _ ht;refine⟨a,hv,?_⟩;rcases rd with e|⟨o,e⟩
 ·refine .inr ⟨_,K.ext.gh _ _ e,λo=>?_⟩;have K1:=K.up (o:=o) e;refine k K1 ⟨a,o,ks,ds,vs,ht,hv,yW,hl,rs.tw (Le e),ll⟩ hf λp G' H' x hp gp ow=>?_
  have hH:H a=some _:=K.ext.gh _ _ e;have g':G' a=some (.zu o (.dK (ks.zip vs))):=x.g _ _ yW
  have hpH:H p=none:=by
   by_cases z:p=a
   ·subst z; rw[g']at gp; cases gp
   ·rw[zm z]at hp; exact hp
  have ne:p≠a:=λz=>by subst z; rw[g']at gp; cases gp
  refine⟨x.gh _ _ g',q p (zX G' a (.dK (ks.zip vs))) (zX H' a (.dK (ks.zip vs))) ⟨λb u hb=>?_,λb u hb=>?_,Q0 x.gh,λb hb=>?_⟩ hpH (by rw[zm ne]; exact gp) (ow.tw (QM g') (zm ne))⟩
  ·by_cases z:b=a
   ·subst z; rw[e]at hb; cases hb; exact yW
   ·rw[zm z]; exact x.g _ _ (by rw[zm z]; exact hb)
  ·by_cases z:b=a
   ·subst z; rw[hH]at hb; cases hb; exact yW
   ·rw[zm z]; exact x.h _ _ (by rw[zm z]; exact hb)
  ·by_cases z:b=a
   ·subst z; exact .inl (by rw[e]; exact λz=>nomatch z)
   ·rw[zm z]at hb;rcases x.new b hb with w|w
    ·rw[zm z]at w; exact .inl w
    ·rw[zm z]at w; exact .inr w
 ·exact .inl ⟨o,_,K.ext.gh _ _ e,k K ⟨a,o,ks,ds,vs,ht,hv,e,hl,rs,ll⟩ hf q⟩
theorem Et{X:Cx}{i:Nat}{tg iter:Expr}{body:List Stmt}{fs:FA}{g:FS}{pos:Pos}{fg:FG}(hp:PassesOwn (model X.prog X.w) X.A X.env X.xe)(hc:X.calm=true)(hi:Zi X i tg iter fs)(hg:SG X tg fg)(hb:uU X body g)(hs:∀x,foldedSetIterable iter X.env x=pure x:=by intro _; rfl):JY X i (.For tg iter body [] pos) (vf fs fg g):=by
 obtain⟨ti,pi,ki⟩:=hi.h;obtain⟨tg',pg,kg⟩:=hg.h;obtain⟨tb,pb,kb⟩:=hb.h;refine⟨⟨_,Cq hp hc pi pg pb hs,λ{G0 H0 G H τ σ fl E} K kn hf q=>?_⟩⟩;obtain⟨ds,hd,hf⟩:=zP hf;refine ki K kn hd λJ Ga Ha xa _ wk=>?_
 have Ka:=K.go xa;have q':=vJ.near Ka.ext q;refine⟨λi m σ H=>m=ds.length-i/\i<=ds.length/\∃τ G,zw X.K X.N.length Ga H0 G H τ σ/\p6 fg g (ds.drop i) τ=some fl,⟨ds.length,rfl,uK _,τ,Ga,Ka.zB,hf⟩,?_⟩;rintro i m σ H ⟨rfl,hle,τ,G,K,hf⟩;by_cases hlt:i<ds.length
 ·refine .inr ⟨wk.go i G H K.ext.g K.ext.gh hlt,λσ' H'=>∃τ G,zw X.K X.N.length Ga H0 G H' τ σ'/\p6 fg g (ds.drop (i+1)) τ=some fl,λσ' H' z=>⟨ds.length-(i+1),by omega,rfl,hlt,z⟩,λx H' y=>?_⟩;obtain⟨G3,d,x3,ed,rd⟩:=wk.vC i G H x H' K.ext.g K.ext.gh hlt y;rw[MC hlt]at hf;rw[yS hlt]at ed;cases ed;obtain⟨τ1,h1,hf⟩:=zP (show(fg _ τ).bind _=_ from hf);obtain⟨f1,h2,hf⟩:=zP hf;refine kg (K.go x3) rd h1 λσ1 K1=>kb K1 h2 ?_
  cases f1 with
  |nx τ2=>exact λσ2 G2 H2 K2=>⟨τ2,G2,K2,hf⟩
  |ct τ2=>exact λσ2 G2 H2 K2=>⟨τ2,G2,K2,hf⟩
  |bk τ2=>cases hf; exact q'
  |rt o d=>cases hf; exact vJ.with q' (λ_ z=>nomatch z) (λ_ z=>nomatch z) (λ_ z=>nomatch z) rfl
 ·have e:ds.drop i=[]:=MD (by omega);rw[e]at hf;cases hf;exact .inl ⟨wk.stop i G H K.ext.g K.ext.gh (by omega),q' _ _ _ K⟩
theorem Bc{i:Nat}{fs:FA}{fg:FG}{g:FS}(h:qI i fs):qI i (vf fs fg g):=λτ x hf=>by
 obtain⟨ds,hd,_⟩:=zP hf;exact h τ ds hd
end L3
namespace L2
open PySem PySem.Spec PyProof PyProof.Rows
def JR(a:Addr)(o:Obj)(kvs:List (zJ×V)):It:=⟨λi H=>H a=some (.zu o (.dK kvs))/\i<kvs.length,λi H v H'=>H'=H/\∃k,kvs[i]?=some (k,v),λi H=>H a=some (.zu o (.dK kvs))/\kvs.length<=i⟩
theorem l_{P:Program}{w:World}{K:W.Frag}{tg:Expr}{kvs:List (zJ×V)}{o:Obj}{es:Array DictEntry}{ep:Nat}(a it:Addr)(d:o.data=.dict es ep) :
  tT P w K tg (JR a o kvs) [it] it (λi h=>h.IsValIter it a i kvs.length ep) where
 mem:=by simp
 obj:=λi h st b hb=>by
  have e:b=it:=by simpa using hb
  subst e;obtain⟨o,e,c,d⟩:=st;exact⟨o,e,λv z=>by rw[d]at z; cases z⟩
 keep:=λi h h' st k=>st.at λo e=>k it (by simp) o e
 item:=by
  intro X hP hw hK hc i z6 s σ H E I hf st hg;subst hP hw hK;obtain⟨_,vs,rel,dd⟩:=pf I.za hg.1 d;have ln:vs.length=kvs.length:=uZ rel;have hi:i<vs.length:=by rw[ln]; exact hg.2
  have hx:vs[i]?=some (vs[i].1,vs[i].2):=yS hi;obtain⟨u,hk,ru⟩:=Ta rel hx;obtain⟨f0,f1,f2,f3,f4,f5⟩:=hf it (by simp);rw[<-ln]at st;refine wpAny_pyNext_values_item st dd hx λh' st' sb=>?_
  rw[ln]at st';have I1:Inv X z6 σ H { s with heap:=h' }:=I.turned (t':=s.toks) (λb o hb e=>(sb.2 b hb).trans e) f0 f1 f3 f4 f5;obtain⟨o,e,c,d⟩:=id st';exact⟨vs[i].2,rfl,Zx (s:={ s with heap:=h' }) e c d (by decide) ⟨u,H,I1,ru,⟨rfl,_,hk⟩,st',λb hb=>(hf b hb).1⟩⟩
 done:=by
  intro X hP hw hK hc i z6 s σ H E I hf st hg;subst hP hw hK;obtain⟨_,vs,rel,dd⟩:=pf I.za hg.1 d;have ln:vs.length=kvs.length:=uZ rel;have hx:vs[i]?=none:=uH (by rw[ln]; exact hg.2);obtain⟨f0,f1,f2,f3,f4,f5⟩:=hf it (by simp);rw[<-ln]at st;exact wpAny_pyNext_values_end (I.ok.hd hc) st dd hx λh' eb=>⟨rfl,I.turned (t':=s.toks) (λb o hb e=>eb b o hb e) f0 f1 f3 f4 f5⟩
 self:=λ_ _ _ _ _ st h=>wpAny_pyIter_valiter st h
def P3(i:Nat):TI:=λσ H R=>∃a o kvs,σ[i]?=some (some (.ref a))/\H a=some (.zu o (.dK kvs))/\R (JR a o kvs) H
theorem aC{X:Cx}{tg:Expr}{x:Str}{p apos cpos:Pos}{i:Nat}(hN:X.N[i]?=some x)(hv:ut X.env.scope x)(hd:(x==("__debug__" : Str))=false:=by decide)(hcd:(x==("__classdict__" : Str))=false:=by decide)
  (hbase:attributeBase (.Name x p) "values" X.env (eval (.Name x p) X.env)=eval (.Name x p) X.env:=by rfl)(hline:(apos.endLine==cpos.line)=true:=by rfl) :
  PI X tg (.Call (.Attribute (.Name x p) "values" apos) [] [] cpos) (P3 i):=by
 intro z6 s σ H R I hR;obtain⟨a,o,kvs,ha,e,hR⟩:=hR;refine Mg hbase hline (zi (kU (pos:=p) hN hv hd hcd z6 s σ H (λv H1=>v=.ref a/\H1=H) I ⟨_,ha,rfl,rfl⟩) λv s1 ⟨y,H1,I1,r1,e1,e2⟩=>?_);subst e1 e2;cases(show v=Value.ref a from r1);obtain⟨g,_,_,_,_,o',es,ep,g',_,hdat,_⟩:=(show yl X.prog X.w H1 s1.heap a (.zu o (.dK kvs))from I1.za a _ e);rw[g]at g';cases g';obtain⟨lo,vs,rel,dd⟩:=pf I1.za e hdat;have ln:vs.length=kvs.length:=uZ rel;have dO:s1.heap.DictOf (yd X.prog X.w) a vs:=dd.dictOf
 have t2:∀b,Value.ref a=.ref b->∃ob,s1.heap.get? b=some ob/\ob.dict=none:=λb q=>by
  cases q;obtain⟨ob,_,_,h1,h2,_⟩:=dO;exact⟨ob,h1,h2.2.1⟩
 refine⟨"dict",_,PySem.F.plainAttrs_dict,PySem.F.slot_dict_values,PySem.F.type_dict_values,dO.typeIs,t2,Qi rfl (PySem.evalArgs_none ?_)⟩;refine call_meetsIn PySem.F.slot_dict_values dO.typeIs PySem.F.entry_dict_values (PySem.F.args_dict_values_1 _) (meets_dict_values (yd X.prog X.w) a lo) ⟨⟨vs,dO⟩,?_⟩;have I2:Inv X z6 σ H1 { s1 with heap:=s1.heap.push { cls:=.type "dict_values",data:=.fields #[.ref a] } }:=I1.kept (t':=s1.toks) λb o e=>Heap.get?_push_of_some _ e
 refine wpAny_pyIter_values (knd:=yd X.prog X.w) (s:={ s1 with heap:=s1.heap.push { cls:=.type "dict_values",data:=.fields #[.ref a] } }) ⟨_,Heap.get?_push_size _ rfl,rfl,rfl⟩ (dd.push _) ?_;rw[ln];refine⟨_,[_],_,_,H1,rfl,I2.kept (t':=s1.toks) λb o e=>Heap.get?_push_of_some _ e,l_ a _ hdat,⟨_,Heap.get?_push_size _ rfl,rfl,rfl⟩,λb hb=>?_,hR⟩;have e:=vB.mp hb;subst e;exact I2.qe (zr _) (I2.za.fresh (zr _))
end L2
namespace L3
open PySem PySem.Spec PyProof PyProof.Rows L2
def qx(i:Nat):FA:=λτ=>match τ[i]? with
 |some (some (false,.dic _ ds))=>some ds
 |_=>none
theorem Jq(i:Nat):qI i (qx i):=λτ x hf=>by
 unfold qx at hf
 split at hf
 ·rename_i ks ds e;exact⟨ks,ds,e⟩
 ·cases hf
theorem Lz{ks:List zJ}{vs:List V}{i:Nat}{k:zJ}{v:V}(h:(ks.zip vs)[i]?=some (k,v)):ks[i]?=some k/\vs[i]?=some v:=by
 rw[List.getElem?_zip_eq_some]at h;exact h
theorem Kx{K:W.Frag}{G:Hp}{a:Addr}{o:Obj}{ks:List zJ}{ds:List D}{vs:List V}(hl:ks.length=vs.length)(e:G a=some (.zu o (.dK (ks.zip vs))))(rs:Reps K G ds vs):uu K (JR a o (ks.zip vs)) G ds where
 go:=λi G2 H g1 g2 hi=>⟨g2 _ _ (g1 _ _ e),by rw[tI,hl,tK,rs.length]; exact hi⟩
 vC:=λi G2 H x H' g1 g2 hi y=>by
  obtain⟨rfl,k,hk⟩:=y;obtain⟨d,ed,rd⟩:=rs.at (Lz hk).2;exact⟨G2,d,zV.refl g2,ed,rd.mono g1⟩
 stop:=λi G2 H g1 g2 hi=>⟨g2 _ _ (g1 _ _ e),by rw[tI,hl,tK,rs.length]; exact hi⟩
theorem LS{X:Cx}{tg:Expr}{x:Str}{p apos cpos:Pos}{i:Nat}(hN:X.N[i]?=some x)(hv:ut X.env.scope x)(hd:(x==("__debug__" : Str))=false:=by decide)(hcd:(x==("__classdict__" : Str))=false:=by decide)
  (hbase:attributeBase (.Name x p) "values" X.env (eval (.Name x p) X.env)=eval (.Name x p) X.env:=by rfl)(hline:(apos.endLine==cpos.line)=true:=by rfl):Zi X i tg (.Call (.Attribute (.Name x p) "values" apos) [] [] cpos) (qx i):=by
 refine⟨⟨_,aC hN hv hd hcd hbase hline,λ{G0 H0 G H τ σ ds R} K kn hf q=>?_⟩⟩;obtain⟨a,o,ks,ds',vs,ht,hs,e,hl,rs,ll⟩:=kn;unfold qx at hf;rw[ht]at hf;cases hf;exact⟨a,o,_,hs,K.ext.gh _ _ e,q _ _ _ (zV.refl K.ext.gh) ll (Kx hl e rs)⟩
theorem Jp{i n:Nat}{fs:FA}{fg:FG}{ft:FT}{f:FE}(h:qI i fs):qI i (xm n fs fg ft f):=λτ x hf=>by
 obtain⟨ds,hd,_⟩:=zP hf;exact h τ ds hd
theorem Bd{i j:Nat}{f:FE}(h:qI i f):qI i (zh j f):=λτ x hf=>by
 obtain⟨d,hd,_⟩:=zP hf;exact h τ d hd
section
variable{X:Cx}{i:Nat}{tg iter elt:Expr}{ifs:List Expr}{scope:Scope}{cl:List (Str×Addr)}{own:List Str}{pos:Pos}{fs:FA}{fg:FG}{ft:FT}{f:FE}{g:TG}
theorem df(hcalm:X.calm=true)(B:pM X scope cl own)(hi:Zi X i tg iter fs)(hg:BG X scope cl own tg g fg)(hc:∀C s H fp pn,ja (xf X scope cl own C s H fp pn) ifs ft)
  (he:∀C s H fp pn,SE (xf X scope cl own C s H fp pn) elt f)(hs:∀x,foldedSetIterable iter X.env x=pure x:=by intro _; rfl) :
  B0 X i (.ListComp elt [⟨tg,iter,ifs,0⟩] scope pos) (xm own.length fs fg ft f):=by
 obtain⟨ti,pi,ki⟩:=hi.h;refine⟨⟨_,Cc hcalm B pi (λC s H fp pn=>(hg.q C s H fp pn).h) (λC s H fp pn=>XI (hc C s H fp pn)) (λC s H fp pn=>XH (he C s H fp pn)) hs,λ{G0 H0 G H τ σ d Q} K kn hf q=>?_⟩⟩;obtain⟨ds,hd,hf⟩:=zP hf;obtain⟨out,ho,hf⟩:=zP hf;cases hf;refine ki K kn hd λJ Ga Ha xa l wk=>Xf wk l (K.go xa) ho (hg.k K.l2 K.l1) λys G1 H1 x1 r1 l1 p hp=>?_
 exact q p _ _ (xa.trans (x1.trans (zV.uM x1.gh hp))) (xa.h.free (x1.h.free hp)) (x1.gh.free hp) ⟨ys,yW,r1,l1⟩
theorem Ev{j:Nat}{x:Str}{px spos:Pos}(hcalm:X.calm=true)(hN:X.N.Nodup)(hix:X.N[j]?=some x)(hx:X.env.scope.names.lookup x=some .local)(B:pM X scope cl own)
  (hsw:swapsWith (.ListComp elt [⟨tg,iter,ifs,0⟩] scope pos) (some (.Name x px)) spos.line X.env=pure true)(hi:Zi X i tg iter fs)(hg:BG X scope cl own tg g fg)(hc:∀C s H fp pn,ja (xf X scope cl own C s H fp pn) ifs ft)
  (he:∀C s H fp pn,SE (xf X scope cl own C s H fp pn) elt f)(hs:∀x,foldedSetIterable iter X.env x=pure x:=by intro _; rfl) :
  JY X i (.Assign [.Name x px] (.ListComp elt [⟨tg,iter,ifs,0⟩] scope pos) spos) (zh j (xm own.length fs fg ft f)):=by
 obtain⟨ti,pi,ki⟩:=hi.h;refine⟨⟨_,Oz hcalm hN hix hx B hsw pi (λC s H fp pn=>(hg.q C s H fp pn).h) (λC s H fp pn=>XI (hc C s H fp pn)) (λC s H fp pn=>XH (he C s H fp pn)) hs,λ{G0 H0 G H τ σ fl E} K kn hf q=>?_⟩⟩;obtain⟨d,hf1,hf⟩:=zP hf;cases hf;obtain⟨ds,hd,hf1⟩:=zP hf1;obtain⟨out,ho,hf1⟩:=zP hf1;cases hf1;refine ki K kn hd λJ Ga Ha xa l wk=>Xf wk l (K.go xa) ho (hg.k K.l2 K.l1) λys G1 H1 x1 r1 l1 p hp=>?_
 have K2:=((K.go xa).go x1).go (zV.lay (o:=.lst ys) x1.gh hp);exact q _ _ _ (K2.set (xE.mp hix).1 ⟨p,ys,rfl,yL.of yW,r1.mono (wY (x1.gh.free hp) _),l1⟩)
end
end L3
namespace L2
open PySem PySem.Spec PyProof PyProof.Rows
def JN(a:Addr)(o:Obj)(kvs:List (zJ×V)):It:=⟨λi H=>H a=some (.zu o (.dK kvs))/\i<kvs.length,λi H v H'=>∃p k u,H p=none/\v=.ref p/\kvs[i]?=some (k,u)/\H'=zX H p (.tup [kV k,u]),λi H=>H a=some (.zu o (.dK kvs))/\kvs.length<=i⟩
theorem lz{P:Program}{w:World}{K:W.Frag}{elts:List Expr}{kk:Nat}{pos:Pos}{kvs:List (zJ×V)}{o:Obj}{es:Array DictEntry}{ep:Nat}(a it:Addr)(d:o.data=.dict es ep) :
  tT P w K (.Tuple elts kk pos) (JN a o kvs) [it] it (λi h=>∃ok ov,IsItemIter h it a i kvs.length ep ok ov) where
 mem:=by simp
 obj:=λi h st b hb=>by
  have e:b=it:=by simpa using hb
  subst e;obtain⟨ok,ov,s1⟩:=st;exact⟨_,s1,λv q=>nomatch q⟩
 keep:=λi h h' st k=>by
  obtain⟨ok,ov,s1⟩:=st;exact⟨ok,ov,k it (by simp) _ s1⟩
 item:=by
  intro X hP hw hK hc i z6 s σ H E I hf st hg;subst hP hw hK;obtain⟨ok,ov,s1⟩:=st;obtain⟨_,vs,rel,dd⟩:=pf I.za hg.1 d;have ln:vs.length=kvs.length:=uZ rel;have hi:i<vs.length:=by rw[ln]; exact hg.2
  have hx:vs[i]?=some (vs[i].1,vs[i].2):=yS hi;obtain⟨u,hk,ru⟩:=Ta rel hx;have lt1:it<s.heap.objs.size:=Heap.lt_size s1;rw[<-ln]at s1;refine wpAny_pyNext_items_item s1 dd hx λkey h1 hkey ho ht hz hk1=>?_
  refine⟨_,rfl,wpAny_letOwnedTupleGo_items (s:={ s with heap:=h1 }) ho λh2 he2 hs2=>?_⟩
  replace hs2:Heap.SameBut it h1 h2:=hs2
  have hTs:s.heap.get? s.heap.objs.size=none:=by
   cases q:s.heap.get? s.heap.objs.size with
   |none=>rfl
   |some o=>exact absurd (Heap.lt_size q) (wJ _)
  have hTf:H s.heap.objs.size=none:=I.za.fresh (zr _);have tup:h2.get? s.heap.objs.size=some { cls:=.type "tuple",data:=.seq #[key,vs[i].2] }:=hs2.extBut _ _ (uJ lt1) ht
  have kk:∀c o,c ∉ [it]->s.heap.get? c=some o->h2.get? c=some o:=λc o hc z=>by
   have hc':c≠it:=λq=>hc (by rw[q]; exact vB.mpr rfl)
   exact hs2.extBut _ _ hc' (hk1 c o hc' z)
  have new:yl X.prog X.w (zX H s.heap.objs.size (.tup [kV vs[i].1,u])) h2 s.heap.objs.size (.tup [kV vs[i].1,u]):=⟨(by show 2<=sizeLine; decide),[key,vs[i].2],.cons (OG hkey) (.cons ru .nil),⟨_,tup,rfl,_,rfl⟩⟩;rw[ln]at he2;refine⟨.ref s.heap.objs.size,zX H s.heap.objs.size (.tup [kV vs[i].1,u]),I.Va (tk:=s.toks) hf kk hTs hTf new,rfl,⟨s.heap.objs.size,_,u,hTf,rfl,hk,rfl⟩,⟨key,_,he2⟩,λc hc=>?_⟩;rw[zm]
  ·exact(hf c hc).1
  ·intro q;have e:c=it:=by simpa using hc
   rw[e]at q;rw[q]at lt1;exact absurd lt1 (wJ _)
 done:=by
  intro X hP hw hK hc i z6 s σ H E I hf st hg;subst hP hw hK;obtain⟨ok,ov,s1⟩:=st;obtain⟨_,vs,rel,dd⟩:=pf I.za hg.1 d;have ln:vs.length=kvs.length:=uZ rel;have hx:vs[i]?=none:=uH (by rw[ln]; exact hg.2);rw[<-ln]at s1;exact wpAny_pyNext_items_end (I.ok.hd hc) s1 dd hx λh1 he1=>⟨rfl,I.but (tk:=s.toks) hf λc ob hcc eb=>he1 c ob (λq=>hcc (by rw[q]; exact vB.mpr rfl)) eb⟩
 self:=λ_ _ _ _ _ st h=>by
  obtain⟨ok,ov,s1⟩:=st;exact W.kcp_self s1 h
def P0(i:Nat):TI:=λσ H R=>∃a o kvs,σ[i]?=some (some (.ref a))/\H a=some (.zu o (.dK kvs))/\R (JN a o kvs) H
theorem aB{X:Cx}{elts:List Expr}{kk:Nat}{tpos:Pos}{x:Str}{p apos cpos:Pos}{i:Nat}(hN:X.N[i]?=some x)(hv:ut X.env.scope x)(hd:(x==("__debug__" : Str))=false:=by decide)(hcd:(x==("__classdict__" : Str))=false:=by decide)
  (hbase:attributeBase (.Name x p) "items" X.env (eval (.Name x p) X.env)=eval (.Name x p) X.env:=by rfl)(hline:(apos.endLine==cpos.line)=true:=by rfl) :
  PI X (.Tuple elts kk tpos) (.Call (.Attribute (.Name x p) "items" apos) [] [] cpos) (P0 i):=by
 intro z6 s σ H R I hR;obtain⟨a,o,kvs,ha,e,hR⟩:=hR;refine Mg hbase hline (zi (kU (pos:=p) hN hv hd hcd z6 s σ H (λv H1=>v=.ref a/\H1=H) I ⟨_,ha,rfl,rfl⟩) λv s1 ⟨y,H1,I1,r1,e1,e2⟩=>?_);subst e1 e2;cases(show v=Value.ref a from r1);obtain⟨g,_,_,_,_,o',es,ep,g',_,hdat,_⟩:=(show yl X.prog X.w H1 s1.heap a (.zu o (.dK kvs))from I1.za a _ e);rw[g]at g';cases g';obtain⟨lo,vs,rel,dd⟩:=pf I1.za e hdat;have ln:vs.length=kvs.length:=uZ rel;have dO:s1.heap.DictOf (yd X.prog X.w) a vs:=dd.dictOf
 have t2:∀b,Value.ref a=.ref b->∃ob,s1.heap.get? b=some ob/\ob.dict=none:=λb q=>by
  cases q;obtain⟨ob,_,_,h1,h2,_⟩:=dO;exact⟨ob,h1,h2.2.1⟩
 refine⟨"dict",_,PySem.F.plainAttrs_dict,PySem.F.slot_dict_items,PySem.F.type_dict_items,dO.typeIs,t2,Qi rfl (PySem.evalArgs_none ?_)⟩;refine call_meetsIn PySem.F.slot_dict_items dO.typeIs PySem.F.entry_dict_items (PySem.F.args_dict_items_1 _) (meets_dict_items (yd X.prog X.w) a lo) ⟨⟨vs,dO⟩,?_⟩;have I2:Inv X z6 σ H1 { s1 with heap:=s1.heap.push { cls:=.type "dict_items",data:=.fields #[.ref a] } }:=I1.kept (t':=s1.toks) λb o e=>Heap.get?_push_of_some _ e
 refine wpAny_pyIter_items (knd:=yd X.prog X.w) (s:={ s1 with heap:=s1.heap.push { cls:=.type "dict_items",data:=.fields #[.ref a] } }) ⟨_,Heap.get?_push_size _ rfl,rfl,rfl⟩ (dd.push _) ?_;rw[ln];refine⟨_,[_],_,_,H1,rfl,I2.kept (t':=s1.toks) λb o e=>Heap.get?_push_of_some _ e,lz a _ hdat,⟨_,_,Heap.get?_push_size _ rfl⟩,λb hb=>?_,hR⟩;have e:=vB.mp hb;subst e;exact I2.qe (zr _) (I2.za.fresh (zr _))
end L2
namespace L3
open PySem PySem.Spec PyProof PyProof.Rows L2
def j3(ks:List zJ)(ds:List D):List D:=List.zipWith (λk d=>D.tup [keyOf k,d]) ks ds
def Y9(i:Nat):FA:=λτ=>match τ[i]? with
 |some (some (false,.dic ks ds))=>if ks.all uC=true then some (j3 ks ds)else none
 |_=>none
theorem Kr(i:Nat):qI i (Y9 i):=λτ x hf=>by
 unfold Y9 at hf
 split at hf
 ·rename_i ks ds e;exact⟨ks,ds,e⟩
 ·cases hf
theorem Kp{K:W.Frag}{G:Hp}{a:Addr}{o:Obj}{ks:List zJ}{ds:List D}{vs:List V}(hl:ks.length=vs.length)(e:G a=some (.zu o (.dK (ks.zip vs))))(rs:Reps K G ds vs)(h:ks.all uC=true):uu K (JN a o (ks.zip vs)) G (j3 ks ds) where
 go:=λi G2 H g1 g2 hi=>⟨g2 _ _ (g1 _ _ e),by
  unfold j3 at hi;rw[gO,<-rs.length]at hi;rw[tI];exact hi⟩
 vC:=λi G2 H x H' g1 g2 hi y=>by
  obtain⟨p,k,u,hp,rfl,hk,rfl⟩:=y;obtain⟨hk1,hu⟩:=Lz hk;obtain⟨d,ed,rd⟩:=rs.at hu;refine⟨zX G2 p (.tup [kV k,u]),.tup [keyOf k,d],zV.lay g2 hp,?_,?_⟩
  ·unfold j3;rw[Qq,hk1,ed]
  ·have sm:yK G (zX G2 p (.tup [kV k,u])):=g1.trans (wY (g2.free hp) _);exact⟨p,[kV k,u],rfl,yu.of yW,⟨_,_,rfl,OH (wm.mp h k (tJ hk1)),⟨u,_,rfl,rd.mono sm,rfl⟩⟩,L2.small (n:=2) (by decide)⟩
 stop:=λi G2 H g1 g2 hi=>⟨g2 _ _ (g1 _ _ e),by
  unfold j3 at hi;rw[gO,<-rs.length]at hi;rw[tI];exact hi⟩
theorem dq{X:Cx}{elts:List Expr}{kk:Nat}{tpos:Pos}{x:Str}{p apos cpos:Pos}{i:Nat}(hN:X.N[i]?=some x)(hv:ut X.env.scope x)(hd:(x==("__debug__" : Str))=false:=by decide)(hcd:(x==("__classdict__" : Str))=false:=by decide)
  (hbase:attributeBase (.Name x p) "items" X.env (eval (.Name x p) X.env)=eval (.Name x p) X.env:=by rfl)(hline:(apos.endLine==cpos.line)=true:=by rfl):Zi X i (.Tuple elts kk tpos) (.Call (.Attribute (.Name x p) "items" apos) [] [] cpos) (Y9 i):=by
 refine⟨⟨_,aB hN hv hd hcd hbase hline,λ{G0 H0 G H τ σ ds R} K kn hf q=>?_⟩⟩;obtain⟨a,o,ks,ds',vs,ht,hs,e,hl,rs,ll⟩:=kn;unfold Y9 at hf;rw[ht]at hf
 change (if ks.all uC=true then some (j3 ks ds')else none)=some ds at hf
 by_cases c:ks.all uC=true
 ·rw[zN c]at hf;cases hf;refine⟨a,o,_,hs,K.ext.gh _ _ e,q _ _ _ (zV.refl K.ext.gh) ?_ (Kp hl e rs c)⟩;unfold j3;rw[gO];exact xv (Nat.min_le_right _ _) ll
 ·rw[zS c]at hf;cases hf
end L3
namespace L2
open PySem PySem.Spec PyProof PyProof.Rows
section
variable{prog:Program}{w:World}{K:Type}[DecidableEq K]{knd:KeyKind prog w K}{A:Around}{E:Value->Shared->Prop}{s:Shared}
theorem Ro{it d:Addr}{i ep:Nat}{kvs:List (K×Value)}{k:K}{v:Value}{Q:Value->Shared->Prop}(hit:s.heap.IsKeyIter it d i kvs.length ep)(hm:s.heap.DictAt knd d kvs ep)(hx:kvs[i]?=some (k,v))
  (hQ:∀key h',knd.is k key=true->h'.IsKeyIter it d (i+1) kvs.length ep->Heap.SameBut it s.heap h'->Q key { s with heap:=h' }):wpAny (model prog w) A (Builtin.SmallTypes.nextOf (.ref it)) Q E s:=by
 obtain⟨o,ho,hc,hd⟩:=id hit;obtain⟨od,es,hod,hcd,hdd,hk,hp,hn⟩:=id hm;have hsz:es.size=kvs.length:=by rw[<-hp.length]; simp
 have hlt:i<kvs.length:=(xE.mp hx).1;have hlt':i<es.size:=hsz.symm▸hlt;have hkey:knd.is k es[i].key=true:=(hp.get? (e:=es[i]) (by simp[hlt']) hx).1;have hown:Builtin.Dict_items.ownsTuple "dict_keyiterator" = false:=by decide
 have e0:¬ ((Value.ref d==Value.none)=true):=yz;unfold Builtin.SmallTypes.nextOf;refine zC (pJ (name:=Str.ofString "__next__") hit.typeIs PySem.F.slot_dict_keyiterator_next (tL PySem.F.slot_dict_keyiterator_next hit.typeIs PySem.F.entry_dict_keyiterator_next ?_ (PySem.F.args_dict_keyiterator_next_1 _)));refine zC (zO (zC (zC ?_)))
 first|refine zC (J5 hit.typeIs (zO ?_))|refine zC (J6 hit.typeIs (zO ?_))
 refine zC (Mh ho hd ?_);simp only[hown,Yj,qF]
 change wpAny _ _ (if(Value.ref d==Value.none)=true then _ else _) _ _ s
 rw[zS e0];refine zC (zO (zC (wpAny_dictEntries hod hdd ?_)));rw[zS (by rw[hsz]; simp)];refine zC (zO (zC (wpAny_dictEpoch hod hdd ?_)));rw[zS (by simp)];refine zO ?_;simp only[show ¬ ((i:Int)<0)from by omega,qF,xU,gH hlt'];refine zC ?_
 first|refine zC (J5 hit.typeIs (zO ?_))|refine zC (J6 hit.typeIs (zO ?_))
 refine zC (wpAny_isOneOf_keyiter hit.typeIs ?_)
 change wpAny _ _ (setField (.ref it) 1 (rawInt ((i:Int)+1)) >>= _) _ _ s
 refine zC (VY ho hd (by simp) ?_)
 have hit':(s.heap.update it (Obj.mapFields (·.setIfInBounds 1 (rawInt ((i:Int)+1))))).IsKeyIter it d (i+1) kvs.length ep:=
  ⟨_,Heap.get?_update_self _ ho (Obj.isFreed_of_fields (Qv hd _)),(Obj.cls_mapFields ..).trans hc,by rw[Qv hd]; simp[rawInt]⟩
 refine zC (qG (zC (wpAny_isOneOf_keyiter (s:={ s with heap:=s.heap.update it (Obj.mapFields (·.setIfInBounds 1 (rawInt ((i:Int)+1)))) }) hit'.typeIs ?_)))
 change wpAny _ _ (pure es[i].key) _ _ _
 exact zO (zO ⟨_,rfl,zO (hQ _ _ hkey hit' (Heap.SameBut.update ..))⟩)
theorem Dy{it d:Addr}{i ep:Nat}{kvs:List (K×Value)}{Q:Value->Shared->Prop}(hh:A.handled=none)(hit:s.heap.IsKeyIter it d i kvs.length ep)(hm:s.heap.DictAt knd d kvs ep)(hx:kvs[i]?=none)
  (hE:∀h' e,Heap.ExtBut it s.heap h'->(∃o,h'.get? e=some o/\o.cls=.type "StopIteration")->E (.ref e) { s with heap:=h' }):wpAny (model prog w) A (Builtin.SmallTypes.nextOf (.ref it)) Q E s:=by
 obtain⟨o,ho,hc,hd⟩:=id hit;obtain⟨od,es,hod,hcd,hdd,hk,hp,hn⟩:=id hm;have hsz:es.size=kvs.length:=by rw[<-hp.length]; simp
 have hge:es.size<=i:=by rw[hsz]; simpa using hx
 have hown:Builtin.Dict_items.ownsTuple "dict_keyiterator" = false:=by decide
 have e0:¬ ((Value.ref d==Value.none)=true):=yz;unfold Builtin.SmallTypes.nextOf;refine zC (pJ (name:=Str.ofString "__next__") hit.typeIs PySem.F.slot_dict_keyiterator_next (tL PySem.F.slot_dict_keyiterator_next hit.typeIs PySem.F.entry_dict_keyiterator_next ?_ (PySem.F.args_dict_keyiterator_next_1 _)));refine zC (zO (zC (zC ?_)))
 first|refine zC (J5 hit.typeIs (zO ?_))|refine zC (J6 hit.typeIs (zO ?_))
 refine zC (Mh ho hd ?_);simp only[hown,Yj,qF]
 change wpAny _ _ (if(Value.ref d==Value.none)=true then _ else _) _ _ s
 rw[zS e0];refine zC (zO (zC (wpAny_dictEntries hod hdd ?_)));rw[zS (by rw[hsz]; simp)];refine zC (zO (zC (wpAny_dictEpoch hod hdd ?_)));rw[zS (by simp)];refine zO ?_;simp only[show ¬ ((i:Int)<0)from by omega,qF,xU,VB hge];refine zC ?_
 first|refine zC (J5 hit.typeIs (zO ?_))|refine zC (J6 hit.typeIs (zO ?_))
 change wpAny _ _ (setField (.ref it) 0 .none >>= _) _ _ s
 refine zC (VY ho hd (by simp) ?_)
 change wpAny _ _ (newExc (.type "StopIteration") [] >>= _) _ _ _
 refine zC ?_;simp only[newExc,newTuple];refine zC (um ?_ (by size_fits));refine zC (m:=firstArgMember _ _) (VU (a:=Value.none) (by first|rfl|(simp only[firstArgMember]; rfl)) ?_);refine um ?_ (by size_fits);simp only[raiseNew];refine zC (Mi ?_)
 first|rw[show A.in1.handled=none from hh]|rw[hh]
 refine zC (zO (wpAny_throw ?_));exact hE _ _ (((Heap.SameBut.update ..).extBut.push _).push _) ⟨_,Heap.get?_push_size _ rfl,rfl⟩
theorem Kv(hh:A.handled=none)(it d:Addr)(hne:d≠it)(kvs:List (K×Value))(ep:Nat) :
  Draws prog w A it [it,d] kvs.length (λi v=>∃k x,kvs[i]?=some (k,x)/\knd.is k v=true) (λi h=>h.IsKeyIter it d i kvs.length ep/\h.DictAt knd d kvs ep) where
 live:=λ_ _ st=>let ⟨o,ho,_⟩:=st.1; ⟨o,ho⟩
 frame:=λ_ _ _ st hk=>⟨st.1.at λo e=>hk it (by simp) o e,st.2.at' λo e=>hk d (by simp) o e⟩
 item:=λi s Q E hi st hQ=>Ro st.1 st.2 (yS hi) λkey h' hk st' sb=>hQ _ h' s.toks ⟨_,_,yS hi,hk⟩ ⟨st',st.2.extBut sb.extBut hne⟩ sb
 done:=λs Q E st hE=>Dy hh st.1 st.2 (by simp) hE
theorem Rn(d:Addr)(kvs:List (K×Value))(ep:Nat)(lo:(d==sysModules)=false) :
  MeetsIn prog w (Builtin.«enumerate.__new__» ⟨[.type "enumerate",.ref d],[]⟩) (λ_ R s=>s.heap.DictAt knd d kvs ep/\
   R (.ok (.ret (.ref (s.heap.push { cls:=.type "dict_keyiterator",data:=.fields #[.ref d,.int 0 0,.int kvs.length 0,.int ep 0] }).objs.size)))
    { s with heap:=(s.heap.push { cls:=.type "dict_keyiterator",data:=.fields #[.ref d,.int 0 0,.int kvs.length 0,.int ep 0] }).push { cls:=.type "enumerate",data:=.fields #[.none,.bool false,.ref s.heap.objs.size,rawInt 0,.none,.none] } }):=
 .of_wp λA R s h=>by
  obtain⟨hp,g,d',tk,os⟩:=s;obtain⟨hm,h⟩:=h;have hsub:=sub_enumerate;obtain⟨od,es,hod,hcd,hdd,hk,hp',hn⟩:=id hm;have hm':(Shared.heap ⟨hp,g,d',tk,os⟩).DictAt knd d kvs ep:=hm
  wp_walk using PySem.AutoSeq1.wpAny_loadPart' hod
  refine wpAny_stack_any λst=>zO ?_
  split
  ·rename_i c _ _ _ _ _;cases(c==Value.type "enumerate")
   ·wp_walk using PySem.AutoSeq1.wpAny_loadPart' hod,J3 lo hm'
    exact⟨_,rfl,h⟩
   ·wp_walk using PySem.AutoSeq1.wpAny_loadPart' hod,J3 lo hm'
    exact⟨_,rfl,h⟩
  ·wp_walk using PySem.AutoSeq1.wpAny_loadPart' hod,J3 lo hm'
   exact⟨_,rfl,h⟩
theorem KC{d:Addr}{kvs:List (K×Value)}{ep:Nat}{Q:Value->Shared->Prop}(lo:(d==sysModules)=false)(hm:s.heap.DictAt knd d kvs ep)
  (h:∀h',IsEnum h' (s.heap.objs.size+1) s.heap.objs.size 0 .none->h'.IsKeyIter s.heap.objs.size d 0 kvs.length ep->h'.objs.size=s.heap.objs.size+2->(∀b o,s.heap.get? b=some o->h'.get? b=some o)->Q (.ref (s.heap.objs.size+1)) { s with heap:=h' }) :
  wpAny (model prog w) A (call (.type "enumerate") [.ref d]) Q E s:=by
 refine callType_newIn PySem.F.called_enumerate (by decide) (PySem.F.typeCall_enumerate_1 _) (PySem.F.newCall_enumerate_1 _) (λobj=>PySem.F.args_object_init_2 obj _) PySem.F.entry_enumerate_new (Rn d kvs ep lo) ⟨hm,?_⟩;have hz:(s.heap.push { cls:=.type "dict_keyiterator",data:=.fields #[.ref d,.int 0 0,.int kvs.length 0,.int ep 0] }).objs.size=s.heap.objs.size+1:=Heap.size_push ..
 change _/\_
 rw[hz]
 have he:IsEnum ((s.heap.push { cls:=.type "dict_keyiterator",data:=.fields #[.ref d,.int 0 0,.int kvs.length 0,.int ep 0] }).push { cls:=.type "enumerate",data:=.fields #[.none,.bool false,.ref s.heap.objs.size,rawInt 0,.none,.none] }) (s.heap.objs.size+1) s.heap.objs.size 0 .none:=by
  have q:=Heap.get?_push_size (s.heap.push { cls:=.type "dict_keyiterator",data:=.fields #[.ref d,.int 0 0,.int kvs.length 0,.int ep 0] }) (o:={ cls:=.type "enumerate",data:=.fields #[.none,.bool false,.ref s.heap.objs.size,rawInt 0,.none,.none] }) rfl;rw[hz]at q;exact q
 exact⟨⟨_,he,rfl⟩,h _ he ⟨_,Heap.get?_push_of_some _ (Heap.get?_push_size _ rfl),rfl,rfl⟩ (by rw[Heap.size_push,hz]) λb o x=>Heap.get?_push_of_some _ (Heap.get?_push_of_some _ x)⟩
end
def JP(a:Addr)(o:Obj)(kvs:List (zJ×V)):It:=⟨λi H=>H a=some (.zu o (.dK kvs))/\i<kvs.length,λi H v H'=>∃p k u,H p=none/\v=.ref p/\kvs[i]?=some (k,u)/\H'=zX H p (.tup [.int (i:Int),kV k]),λi H=>H a=some (.zu o (.dK kvs))/\kvs.length<=i⟩
theorem lx{P:Program}{w:World}{K:W.Frag}{elts:List Expr}{kk:Nat}{pos:Pos}{kvs:List (zJ×V)}{o:Obj}{es:Array DictEntry}{ep:Nat}(a e it:Addr)(hei:e≠it)(d:o.data=.dict es ep) :
  tT P w K (.Tuple elts kk pos) (JP a o kvs) [e,it] e (λi h=>(∃old,IsEnum h e it (i:Int) old)/\h.IsKeyIter it a i kvs.length ep) where
 mem:=by simp
 obj:=λi h st c hc=>by
  obtain⟨⟨old,s1⟩,⟨o2,s2,_,d2⟩⟩:=st;simp only[yT,wR,or_false]at hc;rcases hc with rfl|rfl
  ·exact⟨_,s1,λv q=>nomatch q⟩
  ·exact⟨_,s2,λv q=>by rw[d2]at q; cases q⟩
 keep:=λi h h' st k=>by
  obtain⟨⟨old,s1⟩,s2⟩:=st;exact⟨⟨old,k e (by simp) _ s1⟩,s2.at λo x=>k it (by simp) o x⟩
 item:=by
  intro X hP hw hK hc i z6 s σ H E I hf st hg;subst hP hw hK;obtain⟨⟨old,s1⟩,s2⟩:=st;obtain⟨_,vs,rel,dd⟩:=pf I.za hg.1 d;have ln:vs.length=kvs.length:=uZ rel;have hi:i<vs.length:=by rw[ln]; exact hg.2
  have lt1:e<s.heap.objs.size:=Heap.lt_size s1;have lt2:it<s.heap.objs.size:=by obtain⟨o,z,_⟩:=s2; exact Heap.lt_size z
  have nea:∀c∈[e,it],a≠c:=λc hc z=>by
   have:=(hf c hc).1;rw[<-z,hg.1]at this;cases this
  rw[<-ln]at s2;refine wpAny_pyNext_enum_itemD (Kv (knd:=yd X.prog X.w) (by exact I.ok.hd hc) it a (nea it (by simp)) vs ep) s1 ⟨s2,dd⟩ hi hei (by simp only[yT,wR,or_false,ZG]; exact⟨hei,(nea e (by simp)).symm⟩) λx h1 tk hP heo hs1 ht1 hz1 hk1=>?_
  obtain⟨k,xx,hx,hkey⟩:=hP;obtain⟨u,hk,ru⟩:=Ta rel hx;obtain⟨s2',dd'⟩:=hs1;rw[ln]at s2';refine⟨_,rfl,HJ (s:={ s with heap:=h1,toks:=tk+1 }) heo λh2 he2 hs2=>?_⟩
  replace hs2:Heap.SameBut e h1 h2:=hs2
  have hTs:s.heap.get? s.heap.objs.size=none:=by
   cases q:s.heap.get? s.heap.objs.size with
   |none=>rfl
   |some o=>exact absurd (Heap.lt_size q) (wJ _)
  have hTf:H s.heap.objs.size=none:=I.za.fresh (zr _);have tup:h2.get? s.heap.objs.size=some { cls:=.type "tuple",data:=.seq #[.int i tk,x] }:=hs2.extBut _ _ (uJ lt1) ht1
  have kk:∀c o,c ∉ [e,it]->s.heap.get? c=some o->h2.get? c=some o:=λc o hc z=>by
   simp only[yT,wR,or_false,ZG]at hc;exact hs2.extBut _ _ hc.1 (hk1 c o hc.1 hc.2 z)
  have new:yl X.prog X.w (zX H s.heap.objs.size (.tup [.int (i:Int),kV k])) h2 s.heap.objs.size (.tup [.int (i:Int),kV k]):=⟨(by show 2<=sizeLine; decide),[.int i tk,x],.cons ⟨_,rfl⟩ (.cons (OG hkey) .nil),⟨_,tup,rfl,_,rfl⟩⟩;refine⟨.ref s.heap.objs.size,zX H s.heap.objs.size (.tup [.int (i:Int),kV k]),I.Va (tk:=tk+1) hf kk hTs hTf new,rfl,⟨s.heap.objs.size,k,u,hTf,rfl,hk,rfl⟩,⟨⟨x,?_⟩,s2'.at λo z=>hs2.extBut _ _ hei.symm z⟩,λc hc=>?_⟩
  ·rw[show((i+1:Nat):Int)=(i:Int)+1 from rfl];exact he2
  ·rw[zm]
   ·exact(hf c hc).1
   ·intro q
    have hlt:c<s.heap.objs.size:=by
     simp only[yT,wR,or_false]at hc;rcases hc with rfl|rfl
     ·exact lt1
     ·exact lt2
    rw[q]at hlt;exact absurd hlt (wJ _)
 done:=by
  intro X hP hw hK hc i z6 s σ H E I hf st hg;subst hP hw hK;obtain⟨⟨old,s1⟩,s2⟩:=st;obtain⟨_,vs,rel,dd⟩:=pf I.za hg.1 d;have ln:vs.length=kvs.length:=uZ rel
  have nea:∀c∈[e,it],a≠c:=λc hc z=>by
   have:=(hf c hc).1;rw[<-z,hg.1]at this;cases this
  rw[<-ln]at s2;have hT:s.TypeIs (.ref e) "enumerate" := ⟨_,s1,rfl⟩;unfold pyNext;refine zC (Q_ (pJ (name:=Str.ofString "__next__") hT PySem.F.slot_enumerate_next (tL PySem.F.slot_enumerate_next hT PySem.F.entry_enumerate_next ?_ (PySem.F.args_enumerate_next_1 _))))
  change wpAny _ _ (field (.ref e) 2 >>= _) _ _ _
  refine zC (vz s1 rfl (x:=.ref it) rfl ?_);refine zC (Dy (knd:=yd X.prog X.w) (by exact I.ok.hd hc) s2 dd (uH (by rw[ln]; exact hg.2)) λh' x he' hx'=>?_);obtain⟨o,ho,hc'⟩:=hx';refine zC (J2 (T := "StopIteration") (b:=true) ⟨o,ho,hc'⟩ Md ?_);refine zO ⟨rfl,I.but (tk:=s.toks) hf λc ob hcc eb=>?_⟩;simp only[yT,wR,or_false,ZG]at hcc;exact he' c ob hcc.2 eb
 self:=λ_ _ _ _ _ st h=>by
  obtain⟨⟨old,s1⟩,_⟩:=st;exact J4 s1 h
def P1(i:Nat):TI:=λσ H R=>∃a o kvs,σ[i]?=some (some (.ref a))/\H a=some (.zu o (.dK kvs))/\R (JP a o kvs) H
theorem aA{X:Cx}{elts:List Expr}{kk:Nat}{tpos:Pos}{x:Str}{p ep pos:Pos}{i:Nat}(hg:Gl X "enumerate")(hm:X.mg "enumerate" = none)(hN:X.N[i]?=some x)(hv:ut X.env.scope x)(hd:(x==("__debug__" : Str))=false:=by decide)(hcd:(x==("__classdict__" : Str))=false:=by decide) :
  PI X (.Tuple elts kk tpos) (.Call (.Name "enumerate" ep) [.Name x p] [] pos) (P1 i):=by
 intro z6 s σ H R I hR;obtain⟨a,o,kvs,ha,e,hR⟩:=hR;have pa:PA X [.Name x p] (Z1 (Z2 i) Yd):=Ot (kU (pos:=p) hN hv hd hcd) kT rfl;refine Call_ (jo I hg hm boot_enumerate (VQ (zi (pa pos z6 s σ H (λvs H1=>vs=[.ref a]/\H1=H) I ⟨_,ha,rfl,rfl⟩) λus s1 ⟨vs,H1,I1,r1,e1,e2⟩=>?_) (by rfl) rfl));subst e1 e2;obtain⟨u,rfl,ru⟩:=vg r1;cases(show u=Value.ref a from ru);obtain⟨g,_,_,_,_,o',es,ep,g',_,hdat,_⟩:=(show yl X.prog X.w H1 s1.heap a (.zu o (.dK kvs))from I1.za a _ e);rw[g]at g';cases g';obtain⟨lo,vs,rel,dd⟩:=pf I1.za e hdat;have ln:vs.length=kvs.length:=uZ rel;refine KC lo dd λh' a1 a2 hz kp=>?_
 have I2:Inv X z6 σ H1 { s1 with heap:=h' }:=I1.kept (t':=s1.toks) kp;refine J4 (s:={ s1 with heap:=h' }) a1 ?_;rw[ln]at a2;generalize hn:s1.heap.objs.size=n at a1 a2 hz;refine⟨n+1,[n+1,n],_,_,H1,rfl,I2,lx a (n+1) n (xF (by omega)) hdat,⟨⟨_,a1⟩,a2⟩,λc hc=>?_,hR⟩
 have hle:s1.heap.objs.size<=c:=by
  rw[hn];simp only[yT,wR,or_false]at hc;rcases hc with rfl|rfl
  ·exact gR _ _
  ·exact zr _
 exact I1.qe hle (I1.za.fresh hle)
end L2
namespace L3
open PySem PySem.Spec PyProof PyProof.Rows L2
def Y8(i:Nat):FA:=λτ=>match τ[i]? with
 |some (some (false,.dic ks _))=>if ks.all uC=true then some (wV (ks.map keyOf))else none
 |_=>none
theorem Kq(i:Nat):qI i (Y8 i):=λτ x hf=>by
 unfold Y8 at hf
 split at hf
 ·rename_i ks ds e;exact⟨ks,ds,e⟩
 ·cases hf
theorem Ku{K:W.Frag}{G:Hp}{a:Addr}{o:Obj}{ks:List zJ}{vs:List V}(hl:ks.length=vs.length)(e:G a=some (.zu o (.dK (ks.zip vs))))(h:ks.all uC=true):uu K (JP a o (ks.zip vs)) G (wV (ks.map keyOf)) where
 go:=λi G2 H g1 g2 hi=>⟨g2 _ _ (g1 _ _ e),by
  rw[t_,zx]at hi;rw[tI,<-hl,tK];exact hi⟩
 vC:=λi G2 H x H' g1 g2 hi y=>by
  obtain⟨p,k,u,hp,rfl,hk,rfl⟩:=y;obtain⟨hk1,hu⟩:=Lz hk;refine⟨zX G2 p (.tup [.int (i:Int),kV k]),.tup [.int (i:Int),keyOf k],zV.lay g2 hp,?_,?_⟩
  ·rw[ju,xM,hk1];rfl
  ·exact⟨p,[.int (i:Int),kV k],rfl,yu.of yW,⟨_,_,rfl,rfl,⟨kV k,_,rfl,OH (wm.mp h k (tJ hk1)),rfl⟩⟩,L2.small (n:=2) (by decide)⟩
 stop:=λi G2 H g1 g2 hi=>⟨g2 _ _ (g1 _ _ e),by
  rw[t_,zx]at hi;rw[tI,<-hl,tK];exact hi⟩
theorem dm{X:Cx}{elts:List Expr}{kk:Nat}{tpos:Pos}{x:Str}{p ep pos:Pos}{i:Nat}(hg:Gl X "enumerate")(hm:X.mg "enumerate" = none)(hN:X.N[i]?=some x)(hv:ut X.env.scope x)(hd:(x==("__debug__" : Str))=false:=by decide)(hcd:(x==("__classdict__" : Str))=false:=by decide) :
  Zi X i (.Tuple elts kk tpos) (.Call (.Name "enumerate" ep) [.Name x p] [] pos) (Y8 i):=by
 refine⟨⟨_,aA hg hm hN hv hd hcd,λ{G0 H0 G H τ σ ds R} K kn hf q=>?_⟩⟩;obtain⟨a,o,ks,ds',vs,ht,hs,e,hl,rs,ll⟩:=kn;unfold Y8 at hf;rw[ht]at hf
 change (if ks.all uC=true then some (wV (ks.map keyOf))else none)=some ds at hf
 by_cases c:ks.all uC=true
 ·rw[zN c]at hf;cases hf;refine⟨a,o,_,hs,K.ext.gh _ _ e,q _ _ _ (zV.refl K.ext.gh) ?_ (Ku hl e c)⟩;rw[t_,zx,hl,rs.length];exact ll
 ·rw[zS c]at hf;cases hf
end L3
namespace L2
open PySem PySem.Spec PyProof PyProof.Rows
theorem RW(a d:Value):argsOk "max" ⟨[a],[("default",d)]⟩:=by unfold argsOk; kernel_rfl
section
variable{prog:Program}{w:World}{A:Around}{R:Result->Shared->Prop}{I:Addr}{fp wr:List Addr}{n:Nat}{P:Nat->Value->Prop}{St:Nat->Heap->Prop}{kw:List (Str×Value)}
theorem Tj:(toString "max" ++ toString ".loop" : String) = "max.loop" := by decide
theorem OZ(W:Walks prog w A.in1 I fp wr n P St)(bt:Nat->Nat->Bool)(hcmp:CmpOf prog w A.in1 .Gt P bt)(S:Addr)(hSf:S ∉ fp):∀(k j:Nat)(s:Shared)(vb:Value)(c:Nat),n-(j+1)=k->j+1<=n->St (j+1) s.heap->P (argBest bt j) vb->
  s.heap.get? S=some { cls:=.type "list",dict:=none,data:=.seq #[vb,vb] c,slots:=#[] }->(∀v h' tk,P (argBest bt (n-1)) v->(∀b o,b ∉ wr->b≠S->s.heap.get? b=some o->h'.get? b=some o)->R (.ok (.ret v)) { s with heap:=h',toks:=tk })->
  codeAny (model prog w) A (.builtin "max.loop" ⟨[.ref I,.none,.ref S],kw⟩) R s
 |k,j,s,vb,c,hk,hj,hst,hPb,hS,hR=>by
  have hSw:S ∉ wr:=λh=>hSf (W.sub _ h)
  refine pI PySem.F.entry_max_loop ?_;rw[Z6 PySem.F.plain_max_loop _]
  change wpAny _ A.in1 (seqItems? (.ref S) >>= _) _ _ s
  refine zC (tM hS rfl ?_)
  change wpAny _ A.in1 (tryCatch (pyNext (.ref I)) _ >>= _) _ _ s
  match k,hk with
  |0,hk=>
   have hin:j+1=n:=by omega
   refine zC (Yv (W.done s _ _ (hin▸hst) λh' tk hk'=>?_));have hS':=hk' S _ hSw hS
   change wpAny _ A.in1 (updateSeq S (λ_=>#[]) >>= _) _ _ _
   refine zC (VZ hS' rfl (zC (ZH (zO ?_))));exact hR vb _ tk (by rw[<-hin]; exact hPb) λb o hbw hbS e=>(Heap.get?_update_other _ _ (qE hbS)).trans (hk' b o hbw e)
  |k+1,hk=>
   have hlt:j+1<n:=by omega
   refine zC (Yv (W.item (j+1) s _ _ hlt hst λv h' tk hP hst' hk'=>?_));have hS':=hk' S _ hSw hS
   change wpAny _ A.in1 (tryCatch (holding [v,v] (richCompare .Gt v vb >>= _)) _ >>= _) _ _ _
   refine zC (Yv (qG (zC (hcmp (j+1) (argBest bt j) v vb _ _ _ hP hPb (zC (qG (ZJ (zC (ZH (zO ?_))))))))));cases hb:bt (j+1) (argBest bt j)with
   |true=>
    simp only[ul];refine zC (VZ hS' rfl (zC (ZH ?_)));rw[Tj];refine zO ⟨jG PySem.F.plain_max_loop _,OZ W bt hcmp S hSf k (j+1) _ v _ (by omega) hlt (W.frame _ _ _ hst' λb hbf o e=>?_) (by simp only[argBest,hb,ul]; exact hP) (Heap.get?_update_self _ hS' rfl) λv' h'' tk'' hP' hk''=>?_⟩
    ·exact(Heap.get?_update_other _ _ (λh:S=b=>hSf (by rw[h]; exact hbf))).trans e
    ·exact hR v' h'' tk'' hP' λb o hbw hbS e=>hk'' b o hbw hbS ((Heap.get?_update_other _ _ (qE hbS)).trans (hk' b o hbw e))
   |false=>
    simp only[Yj,qF];refine zC (ZH ?_);rw[Tj];refine zO ⟨jG PySem.F.plain_max_loop _,OZ W bt hcmp S hSf k (j+1) _ vb c (by omega) hlt hst' (by simp only[argBest,hb,Yj,qF]; exact hPb) hS' λv' h'' tk'' hP' hk''=>?_⟩;exact hR v' h'' tk'' hP' λb o hbw hbS e=>hk'' b o hbw hbS (hk' b o hbw e)
theorem RX{dv:Value}(W:Walks prog w A.in1 I fp wr n P St)(bt:Nat->Nat->Bool)(hcmp:CmpOf prog w A.in1 .Gt P bt)(S:Addr)(hSf:S ∉ fp){s:Shared}{c:Nat}(hst:St 0 s.heap)
  (hS:s.heap.get? S=some { cls:=.type "list",dict:=none,data:=.seq #[] c,slots:=#[] })
  (hR:∀v h' tk,(n=0->v=dv)->(0<n->P (argBest bt (n-1)) v)->(∀b o,b ∉ wr->b≠S->s.heap.get? b=some o->h'.get? b=some o)->R (.ok (.ret v)) { s with heap:=h',toks:=tk }) :
  codeAny (model prog w) A (.builtin "max.loop" ⟨[.ref I,.none,.ref S],[("default",dv)]⟩) R s:=by
 have hSw:S ∉ wr:=λh=>hSf (W.sub _ h)
 refine pI PySem.F.entry_max_loop ?_;rw[Z6 PySem.F.plain_max_loop _]
 change wpAny _ A.in1 (seqItems? (.ref S) >>= _) _ _ s
 refine zC (tM hS rfl ?_)
 change wpAny _ A.in1 (tryCatch (pyNext (.ref I)) _ >>= _) _ _ s
 by_cases hn:n=0
 ·subst hn;refine zC (Yv (W.done s _ _ hst λh' tk hk'=>?_))
  change wpAny _ A.in1 (rule _ >>= _) _ _ _
  refine zC (gT (zO ?_));exact hR dv _ tk (λ_=>rfl) (λz=>absurd z (wJ _)) λb o hbw hbS e=>hk' b o hbw e
 ·have hn':0<n:=by omega
  refine zC (Yv (W.item 0 s _ _ hn' hst λv h' tk hP hst' hk'=>?_));have hS':=hk' S _ hSw hS
  change wpAny _ A.in1 (updateSeq S (λ_=>#[v,v]) >>= _) _ _ _
  refine zC (VZ hS' rfl ?_);rw[Tj];refine zO ⟨jG PySem.F.plain_max_loop _,OZ W bt hcmp S hSf _ 0 _ v _ rfl hn' (W.frame _ _ _ hst' λb hbf o e=>?_) hP (Heap.get?_update_self _ hS' rfl) λv' h'' tk'' hP' hk''=>?_⟩
  ·exact(Heap.get?_update_other _ _ (λh:S=b=>hSf (by rw[h]; exact hbf))).trans e
  ·exact hR v' h'' tk'' (λz=>absurd z hn) (λ_=>hP') λb o hbw hbS e=>hk'' b o hbw hbS ((Heap.get?_update_other _ _ (qE hbS)).trans (hk' b o hbw e))
end
section
variable{prog:Program}{w:World}{A:Around}{E:Value->Shared->Prop}{s:Shared}
theorem lu{id:String}{b:Builtin}{args:List Value}{kw:List (Str×Value)}{Q:Value->Shared->Prop}(hk:builtinKind id=none)(hp:plainId id=true)(hb:entryFor table id=some b)(ha:argsOk id ⟨args,kw⟩)
  (hc:wpAny (model prog w) A.in1 (b ⟨args,kw⟩) (λfin s'=>match fin with
   |.done f=>(match(Except.ok f:Result)with|.ok (.ret v)=>Q v s'|.ok _=>False|.error e=>E e s')
   |.again c'=>c'.quiet=true/\codeAny (model prog w) A c' (λr s'=>match r with|.ok (.ret v)=>Q v s'|.ok _=>False|.error e=>E e s') s') E s):wpAny (model prog w) A (call (.builtin id) args kw) Q E s:=by
 refine J0 (Ma hp hb ?_);simp only[checkBuiltinCall,hk];cases hsig:Manifest.signature? id with
 |none=>exact zO hc
 |some sig=>
  have ha':Bind.checkArgs id sig ⟨args,kw⟩=pure ():=by simpa only [argsOk,hsig]using ha
  simp only[ha'];exact zO hc
theorem KM{x dv:Value}{Q:Value->Shared->Prop}
  (h:wpAny (model prog w) A.in1 (pyIter x) (λit s₂=>∃I fp wr n P St bt,it=.ref I/\Walks prog w A.in1 I fp wr n P St/\St 0 s₂.heap/\(∀b∈fp,b<s₂.heap.objs.size)/\CmpOf prog w A.in1 .Gt P bt/\
   ∀v h' tk,(n=0->v=dv)->(0<n->P (argBest bt (n-1)) v)->(∀b o,b ∉ wr->s₂.heap.get? b=some o->h'.get? b=some o)->Q v { s₂ with heap:=h',toks:=tk }) E s) :
  wpAny (model prog w) A (call (.builtin "max") [x] [("default",dv)]) Q E s:=by
 refine lu PySem.F.kind_max PySem.F.plain_max PySem.F.entry_max (RW _ _) ?_
 change wpAny _ A.in1 (Builtin.Builtins.bindParams "max" ["key", "default"] 0 ⟨[],[("default",dv)]⟩ >>= _) _ _ s
 refine zC (VU (show Builtin.Builtins.bindParams "max" ["key", "default"] 0 ⟨[],[("default",dv)]⟩=pure [none,some dv]from rfl) ?_);refine zC (zO (zC (v_ h (λit s₂ h₂=>?_) λ_ _ e=>e)));obtain⟨I,fp,wr,n,P,St,bt,rfl,W,hst,hfp,hcmp,hQ⟩:=h₂;refine zC (um ?_);have hSf:s₂.heap.objs.size ∉ fp:=λhm=>wJ _ (hfp _ hm)
 rw[Tj];refine zO ⟨jG PySem.F.plain_max_loop _,RX W bt hcmp s₂.heap.objs.size hSf (W.frame _ _ _ hst λb _ o e=>Heap.get?_push_of_some _ e) (Heap.get?_push_size _ rfl) λv h' tk h0 hP hk=>?_⟩;exact hQ v h' tk h0 hP λb o hbw e=>hk b o hbw (w6 (Heap.lt_size e)) (Heap.get?_push_of_some _ e)
end
section
variable{X:Cx}
def maxI:List Int->Int
 | []=>0
 |x::xs=>xs.foldl (λa b=>if a<b then b else a) x
theorem Dr:∀(xs:List Int)(x:Int),(xs.foldl (λa b=>if a<b then b else a) x=x\/xs.foldl (λa b=>if a<b then b else a) x∈xs)/\x<=xs.foldl (λa b=>if a<b then b else a) x/\∀y∈xs,y<=xs.foldl (λa b=>if a<b then b else a) x
 | [],x=>⟨.inl rfl,Ql _,λy h=>absurd h (by simp)⟩
 |z::xs,x=>by
  obtain⟨a,b,c⟩:=Dr xs (if x<z then z else x);have h1:x<=if x<z then z else x:=by split<;>omega
  have h2:z<=if x<z then z else x:=by split<;>omega
  refine⟨?_,M6 h1 b,λy hy=>?_⟩
  ·rcases a with a|a
   ·by_cases q:x<z
    ·rw[zN q]at a
     right
     show List.foldl _ (if x<z then z else x) xs∈z::xs;rw[zN q,a];exact xV
    ·left
     rw[zS q]at a;show List.foldl _ (if x<z then z else x) xs=x;rw[zS q,a]
   ·exact .inr (wQ _ a)
  ·rcases yT.mp hy with rfl|hy
   ·exact M6 h2 b
   ·exact c y hy
theorem RO{xs:List Int}(h:xs≠[]):maxI xs∈xs/\∀y∈xs,y<=maxI xs:=by
 cases xs with
 |nil=>exact absurd rfl h
 |cons x xs=>
  obtain⟨a,b,c⟩:=Dr xs x;refine⟨?_,λy hy=>?_⟩
  ·rcases a with a|a
   ·show List.foldl _ x xs∈_;rw[a];exact xV
   ·exact wQ _ a
  ·rcases yT.mp hy with rfl|hy
   ·exact b
   ·exact c y hy
theorem maxI_uniq{xs:List Int}{m:Int}(h:m∈xs)(h2:∀y∈xs,y<=m):m=maxI xs:=by
 obtain⟨a,b⟩:=RO (xs:=xs) (λz=>by rw[z]at h; exact absurd h (by simp));have:=b m h;have:=h2 _ a;omega
def f_(K:W.Frag)(ta td:TE):TE:=λσ H Q=>ta σ H λx H1=>td σ H1 λz H2=>∃(p:Addr) (ns:List Int),x=.ref p/\yL K H2 p (ns.map V.int)/\Q (if ns=[]then z else .int (maxI ns)) H2
def Cy(K:W.Frag)(x:V)(Q:VK):List V->Hp->Prop:=λzs H2=>match zs with
 | [z]=>∃(p:Addr) (ns:List Int),x=.ref p/\yL K H2 p (ns.map V.int)/\Q (if ns=[]then z else .int (maxI ns)) H2
 |_=>False
def bE(K:W.Frag)(td:TE)(σ:St)(Q:VK):List V->Hp->Prop:=λvs H1=>match vs with
 | [x]=>td σ H1 λz H2=>Cy K x Q [z] H2
 |_=>False
theorem Am{a e:Expr}{ta td:TE}{p kp pos:Pos}(hcalm:X.calm=true)(hg:Gl X "max")(hm:X.mg "max" = none)(ha:PE X a ta)(hd:PE X e td)(hs:starEach [a] X.env=[(false,eval a X.env)]:=by rfl) :
  PE X (.Call (.Name "max" p) [a] [⟨some "default",e,kp⟩] pos) (f_ X.K ta td):=by
 intro z6 s σ H Q I h;have pa:PA X [a] (Z1 ta Yd):=Ot ha kT hs;have pk:PK X [⟨some "default",e,kp⟩] (Z1 td Yd):=aN hd aO;refine Qz (jo I hg hm BT ?_);refine PyProof.Rows.callWith_kw (zi (pa pos z6 s σ H (bE X.K td σ Q) I h) λus s1 ⟨vs,H1,I1,r1,q1⟩=>?_) (by rw[hs]; rfl) (by rw[hs]; rfl)
 match vs,r1,q1 with
 | [x],r1,q1=>
  obtain⟨u,rfl,ru⟩:=vg r1;refine zi (pk pos z6 s1 σ H1 (Cy X.K x Q) I1 q1) λws s2 ⟨zs,H2,I2,rz,q2⟩=>?_
  match zs,rz,q2 with
  | [z],rz,q2=>
   obtain⟨dv,rfl,rd⟩:=vg rz;obtain⟨l,ns,rfl,hq,q⟩:=q2;cases(show u=Value.ref l from ru);have hdn:=I2.ok.hd hcalm;obtain⟨its,rv,pl,hz⟩:=I2.list hq;have hl:ns.length=its.toArray.size:=by have:=rv.length; rw[zx]at this; rw[yk]; exact this
   have hlt:l<s2.heap.objs.size:=by obtain⟨o,n,e,_⟩:=pl; exact Heap.lt_size e
   refine KM ?_;refine VX pl.isList ?_;refine⟨_,_,_,_,_,_,_,rfl,Walks.list (by exact hdn) s2.heap.objs.size l (w6 hlt) its.toArray,⟨⟨_,Heap.get?_push_size _ rfl,rfl,rfl⟩,pl.isList.push _⟩,?_,CmpOf.ints_gt (λi=>ns.getD i 0) (λi v hv=>GP rv hv),?_⟩
   ·intro b hb;show b<(s2.heap.push _).objs.size;rw[Heap.size_push];simp only[yT,wR,or_false]at hb;rcases hb with rfl|rfl
    ·exact ZE _
    ·exact VP hlt
   ·intro v h' tk h0 hP k
    have kp:∀b o,s2.heap.get? b=some o->h'.get? b=some o:=λb o eb=>k b o (λz=>by
     have:b=s2.heap.objs.size:=by simpa using z
     rw[this]at eb;exact absurd (Heap.lt_size eb) (wJ _)) (Heap.get?_push_of_some _ eb)
    by_cases e0:ns=[]
    ·rw[zN e0]at q;have:v=dv:=h0 (by rw[<-hl,e0]; rfl);subst this;exact⟨z,H2,I2.kept (t':=tk) kp,rd,q⟩
    ·rw[zS e0]at q;have hpos:0<ns.length:=Gv.mpr e0;have hP':=hP (by rw[<-hl]; exact hpos);obtain⟨t,rfl⟩:=GP rv hP';obtain⟨b1,b2⟩:=argBest_gt (λi=>ns.getD i 0) (its.toArray.size-1);generalize argBest (λi j=>decide (ns.getD i 0>ns.getD j 0)) (its.toArray.size-1)=m at *;have hm':m<ns.length:=by omega
     have em:ns.getD m 0=maxI ns:=by
      refine maxI_uniq ?_ λy hy=>?_
      ·rw[vH,yS hm'];exact uj hm'
      ·obtain⟨j,hj,rfl⟩:=List.mem_iff_getElem.mp hy;have:=b2 j (by omega)
       rwa [vH,yS hj]at this
     exact⟨.int (maxI ns),H2,I2.kept (t':=tk) kp,⟨t,by rw[<-em]⟩,q⟩
end
end L2
namespace L3
open PySem PySem.Spec PyProof PyProof.Rows L2
def kL:List D->Option (List Int)
 | []=>some []
 |.int i::r=>(kL r).bind λis=>some (i::is)
 |_::_=>none
theorem DU{K:W.Frag}{G:Hp}:∀{xs:List D}{ns:List Int}{vs:List V},kL xs=some ns->Reps K G xs vs->vs=ns.map V.int
 | [],ns,vs,h,r=>by
  cases h;exact(show vs=[]from r)
 |.int i::xs,ns,vs,h,r=>by
  obtain⟨is,h1,h⟩:=zP (show(kL xs).bind _=_ from h);cases h;obtain⟨v,r',rfl,hv,hr⟩:=r;cases(show v=.int i from hv);rw[DU h1 hr];rfl
 |.zE::_,_,_,h,_=>by cases h
 |.bl _::_,_,_,h,_=>by cases h
 |.str _::_,_,_,h,_=>by cases h
 |.tup _::_,_,_,h,_=>by cases h
 |.lst _::_,_,_,h,_=>by cases h
 |.dic _ _::_,_,_,h,_=>by cases h
 |.exc _::_,_,_,h,_=>by cases h
 |.obj _ _ _::_,_,_,h,_=>by cases h
theorem DT:∀ns:List Int,kL (ns.map D.int)=some ns
 | []=>rfl
 |n::ns=>by
  show(kL (ns.map D.int)).bind _=_;rw[DT ns];rfl
def IB:D->D->Option D
 |.lst xs,z=>(kL xs).bind λns=>some (if ns=[]then z else .int (maxI ns))
 |_,_=>none
theorem dW{X:Cx}{a e:Expr}{fa fe:FE}{p kp pos:Pos}(hcalm:X.calm=true)(hg:Gl X "max")(hm:X.mg "max" = none)(ha:SE X a fa)(hd:SE X e fe)(hs:xS a=true:=by rfl):SE X (.Call (.Name "max" p) [a] [⟨some "default",e,kp⟩] pos) (e2 IB fa fe):=by
 obtain⟨ta,pa,ka⟩:=ha.h;obtain⟨td,pd,kd⟩:=hd.h;refine⟨⟨_,Am hcalm hg hm pa pd (t9 hs),λ{G0 H0 G H τ σ d Q} E hf q=>?_⟩⟩;obtain⟨x,hx,hf⟩:=zP hf;obtain⟨z,hz,hf⟩:=zP hf;refine ka E hx λv G1 H1 x1 r1=>?_
 refine kd (E.go x1) hz λu G2 H2 x2 r2=>?_
 cases x with
 |lst xs=>
  obtain⟨ns,hn,hf⟩:=zP hf;cases hf;obtain⟨l,vs,rfl,sq,rs,_⟩:=r1;have e:=DU hn rs;subst e;refine⟨l,ns,rfl,wZ (x1.gh.trans x2.h) sq,?_⟩;by_cases c:ns=[]
  ·rw[zN c];rw[zN c]at q;exact q u G2 H2 (x1.trans x2) r2
  ·rw[zS c];rw[zS c]at q;exact q _ G2 H2 (x1.trans x2) rfl
 |_=>cases hf
def J_:List D->Option D
 | [.dic ks _]=>some (.int ks.length)
 |_=>none
theorem KE{X:Cx}:wK X (.builtin "len") (λxs H Q=>∃a kvs,xs=[V.ref a]/\Rd H a (.dK kvs)/\Q (.int kvs.length) H):=by
 intro z6 s σ H xs us Q I r h;obtain⟨a,kvs,rfl,ha,q⟩:=h;obtain⟨u,rfl,ru⟩:=vg r;cases ru;exact Kl I ha λt s' I'=>⟨.int kvs.length,H,I',⟨t,rfl⟩,q⟩
theorem Sk{K:W.Frag}:X6 K (λxs H Q=>∃a kvs,xs=[V.ref a]/\Rd H a (.dK kvs)/\Q (.int kvs.length) H) J_:=λG H ds vs d Q s r hf q=>by
 match ds,hf with
 | [.dic ks xs],hf=>
  cases hf;obtain⟨v,r',rfl,hv,hr⟩:=r;cases(show r'=[]from hr);obtain⟨a,vs,rfl,sq,hl,rs,_⟩:=hv;refine⟨a,_,rfl,sq,?_⟩;rw[tI,<-hl,tK];exact q _ _ _ (zV.refl s) rfl
def Jt(k v:FE):FE:=λσ=>(k σ).bind λx=>(v σ).bind λy=>(qT x).bind λk=>some (.dic [k] [y])
theorem db{X:Cx}{k v:Expr}{fk fv:FE}{pos:Pos}(hk:SE X k fk)(hv:SE X v fv):SF X (.Dict [some k] [v] pos) (Jt fk fv):=by
 obtain⟨tk,pk,kk⟩:=hk.h;obtain⟨tv,pv,kv⟩:=hv.h;refine⟨⟨_,Ah (aZ pk pv ab) rfl rfl (by simp) (by show 1<=15; decide),λ{G0 H0 G H τ σ d Q} E hf q=>?_⟩⟩;obtain⟨x,hx,hf⟩:=zP hf;obtain⟨y,hy,hf⟩:=zP hf;obtain⟨kd,hkd,hf⟩:=zP hf;cases hf;intro p hp;have x0:=zV.uM (o:=.dK []) E.ext.gh hp;have E1:=E.go x0;refine kk E1 hx λu G1 H1 x1 r1=>?_
 refine kv (E1.go x1) hy λz G2 H2 x2 r2=>?_
 have hp2:H2 p=some (.dK []):=x2.h _ _ (x1.h _ _ yW);refine⟨hp2,[(kd,z)],?_,(by show 1<=15; decide),?_⟩
 ·rw[kM hkd r1];rfl
 ·have g2:G2 p=none:=by
   cases c:G2 p with
   |none=>rfl
   |some o=>
    rcases(x1.trans x2).new p (by rw[c]; exact λz=>nomatch z)with w|w
    ·exact absurd (E.ext.gh.free hp) w
    ·rw[yW]at w;cases w
  have x3:=x1.trans x2;refine q p G2 (zX H2 p (.dK [(kd,z)])) ⟨x3.g,λb w hb=>?_,λb w hb=>?_,λb hb=>?_⟩ hp g2 ⟨[z],yW,rfl,⟨z,[],rfl,r2,rfl⟩,L2.small (n:=1) (by decide)⟩
  ·have ne:b≠p:=λc=>by subst c; rw[hp]at hb; cases hb
   rw[zm ne];exact x3.h _ _ (x0.h _ _ hb)
  ·have ne:b≠p:=λc=>by subst c; rw[g2]at hb; cases hb
   rw[zm ne];exact x3.gh _ _ hb
  ·rcases x3.new b hb with w|w
   ·exact .inl w
   ·refine .inr ?_;by_cases c:b=p
    ·subst c; exact hp
    ·rw[zm c]at w; exact w
end L3
local macro_rules
 | `(tactic| simp![$ls,*])=>`(tactic| simp only[L3.shx,Nat.reduceAdd,Nat.reduceSub,Int.reduceLT,Int.reduceLE,Int.reducePow,Int.reduceToNat,Int.reduceAdd,Int.reduceSub,Int.reduceMul,Int.reduceNeg,$ls,*])
namespace L3
open PySem
def XU:List D:=[(.str "carry"),(.str "nought"),(.str "sign")]
def jk:D:=.tup XU
def NE:List D:=[(.str "jump"),(.str "when"),(.str "unless")]
def TB:D:=.tup NE
def IQ:List (Sum Int Str):=List.map .inr ["label", "set", "high", "copy", "add", "addc", "sub", "subc", "and", "or", "xor", "test", "left", "right", "load", "store", "loadw", "storew", "jump", "when", "unless", "stop"]
def IU:List D:=[(.tup [(.str "name")]),(.tup [(.str "d"),(.str "n")]),(.tup [(.str "d"),(.str "n")]),(.tup [(.str "d"),(.str "s")]),(.tup [(.str "d"),(.str "s")]),(.tup [(.str "d"),(.str "s")]),(.tup [(.str "d"),(.str "s")]),(.tup [(.str "d"),(.str "s")]),(.tup [(.str "d"),(.str "s")]),(.tup [(.str "d"),(.str "s")]),(.tup [(.str "d"),(.str "s")]),(.tup [(.str "d"),(.str "s")]),(.tup [(.str "d"),(.str "n")]),(.tup [(.str "d"),(.str "n")]),(.tup [(.str "d"),(.str "s"),(.str "n")]),(.tup [(.str "d"),(.str "s"),(.str "n")]),(.tup [(.str "d"),(.str "s"),(.str "n")]),(.tup [(.str "d"),(.str "s"),(.str "n")]),(.tup [(.str "name")]),(.tup [(.str "mark"),(.str "name")]),(.tup [(.str "mark"),(.str "name")]),(.tup [])]
def IR:List (Sum Int Str):=List.map .inr ["set", "high", "left", "right", "load", "store", "loadw", "storew"]
def IV:List D:=[(.int 16),(.int 16),(.int 5),(.int 5),(.int 8),(.int 8),(.int 8),(.int 8)]
def wM:List (Sum Int Str):=List.map .inr ["kind", "d", "s", "mark", "distance"]
def wN:List D:=[(.tup [(.int 27),(.int 5)]),(.tup [(.int 24),(.int 3)]),(.tup [(.int 21),(.int 3)]),(.tup [(.int 24),(.int 2)]),(.tup [(.int 0),(.int 5)])]
def tZ:List (Sum Int Str):=List.map .inr ["stop", "set", "high", "copy", "add", "addc", "sub", "subc", "and", "or", "xor", "test", "left", "right", "load", "store", "loadw", "storew"]
def qQ:List D:=[(.int 0),(.int 1),(.int 2),(.int 3),(.int 4),(.int 5),(.int 6),(.int 7),(.int 8),(.int 9),(.int 10),(.int 11),(.int 12),(.int 13),(.int 14),(.int 15),(.int 16),(.int 17)]
def XW:List L2.V:=[.int 0,.int 1,.int 2,.int 3,.int 4,.int 5,.int 6,.int 7,.int 8,.int 9,.int 10,.int 11,.int 12,.int 13,.int 14,.int 15,.int 16,.int 17]
def tj:List (Sum Int Str):=List.map .inr ["jump", "when", "unless"]
def tq:List D:=[(.int 18),(.int 19),(.int 20)]
def kG:List L2.V:=[.int 18,.int 19,.int 20]
def tf:List (Sum Int Str):=List.map .inr ["jump", "when", "unless"]
def tm:List D:=[(.int 21),(.int 22),(.int 23)]
def kF:List L2.V:=[.int 21,.int 22,.int 23]
def BC:FS:=
 (zL (yO (tE (e2 (xi λi j=>decide (i<j)) (z7 1) (eL xo (zA (z7 0) zG))))
   (yD (e2 zQ (z7 0) (z7 1)))
   ym)
  (yD (eC (.int 0))))
theorem PM(ns:List Int)(k:Nat):(ns.map D.int)[k]?=(ns[k]?).map D.int:=xM
def tX(ns:List Int)(k:Int):Int:=ns.getD k.toNat 0
def qK:List D->Option (Bool×D)
 | [.lst xs,.int k]=>if 0<=k then((xs[k.toNat]?).getD (.int 0) |> λd=>some (false,d))else none
 |_=>none
theorem Uv(ns:List Int){k:Int}(h:0<=k):qK [.lst (ns.map D.int),.int k]=some (false,.int (tX ns k)):=by
 show(if 0<=k then _ else _)=_;rw[zN h,PM];unfold tX;rw[vH];cases ns[k.toNat]?<;>rfl
theorem cD:∀ds r,qK ds=some r->ds.length=2/\zc 2 BC ds=some r:=λds r h=>by
 unfold qK at h
 split at h
 ·rename_i xs k;refine⟨rfl,?_⟩;by_cases h0:0<=k
  ·rw[zN h0]at h;cases h;unfold BC;by_cases c:k<(xs.length:Int)
   ·have e:zQ (.lst xs) (.int k)=some ((xs[k.toNat]?).getD (.int 0)):=by
     show vY xs k=_;unfold vY;rw[zN h0,yS (by omega)];rfl
    simp![yh c,e]
   ·have e:xs[k.toNat]?=none:=uH (by omega);simp![ye c,e,Option.getD]
  ·rw[zS h0]at h;cases h
 ·cases h
def lt(k:Int):Str:=⟨#[97+k.toNat]⟩
theorem HX{k:Int}(h0:0<=k)(h1:k<26):vY ("abcdefghijklmnopqrstuvwxyz" : Str).cps.toList k=some (97+k.toNat):=by
 have h:∀j:Fin 26,vY ("abcdefghijklmnopqrstuvwxyz" : Str).cps.toList (j.val:Int)=some (97+j.val):=by decide +kernel
 have:=h ⟨k.toNat,by omega⟩;rw[show((⟨k.toNat,by omega⟩:Fin 26).val:Int)=k by show(k.toNat:Int)=k; omega]at this;exact this
theorem UE{k:Int}(h0:0<=k)(h1:k<26):zQ (.str "abcdefghijklmnopqrstuvwxyz") (.int k)=some (.str (lt k)):=by
 show(vY _ k).bind _=_;rw[HX h0 h1];rfl
theorem add_str{a b:Str}(h:a.length+b.length<=100000):yo (.str a) (.str b)=some (.str (a++b)):=by
 show(if a.length+b.length<=yn then _ else _)=_;rw[zN (by show _<=16777216; omega)]
theorem OU(a b:Str):(a++b).length=a.length+b.length:=Array.size_append
theorem YH(k:Int):(lt k).length=1:=rfl
theorem HY:((("abcdefghijklmnopqrstuvwxyz" : Str).length:Nat):Int)=26:=by decide +kernel
theorem kO{g:FG}{c:FT}{e:FE}{σ:yB}(p:D->Bool)(v:D->D):∀{ds:List D},(∀d∈ds,∃σ1,g d σ=some σ1/\c σ1=some (p d)/\(p d=true->e σ1=some (v d)))->xI g c e σ ds=some ((ds.filter p).map v)
 | [],_=>rfl
 |d::ds,h=>by
  obtain⟨σ1,e1,e2,e3⟩:=h d (xV ..);have ih:=kO p v (ds:=ds) λx hx=>h x (wQ _ hx)
  show(g d σ).bind _=_;rw[e1];show(c σ1).bind _=_;rw[e2];cases hp:p d with
  |false=>
   rw[Yn (by rw[hp]; decide)];exact ih
  |true=>
   rw[gL hp];show(e σ1).bind _=_;rw[e3 hp];show(xI g c e σ ds).bind _=_;rw[ih];rfl
theorem jn{g:FG}{e:FE}{σ:yB}(v:D->D){ds:List D}(h:∀d∈ds,∃σ1,g d σ=some σ1/\e σ1=some (v d)):xI g xB e σ ds=some (ds.map v):=by
 have:=kO (g:=g) (c:=xB) (e:=e) (σ:=σ) (λ_=>true) v (ds:=ds) λd hd=>by
  obtain⟨σ1,a,b⟩:=h d hd;exact⟨σ1,a,rfl,λ_=>b⟩
 rw[this,List.filter_eq_self.mpr (λ_ _=>rfl)]
inductive wo(R:D->D->Prop):List D->List D->Prop
 |nil:wo R [] []
 |cons {x y:D} {xs ys:List D}:R x y->wo R xs ys->wo R (x::xs) (y::ys)
theorem Dl{g:FG}{e:FE}{σ:yB}(R:D->D->Prop):∀{ds:List D},(∀d∈ds,∃σ1 x,g d σ=some σ1/\e σ1=some x/\R d x)->∃xs,xI g xB e σ ds=some xs/\wo R ds xs
 | [],_=>⟨[],rfl,.nil⟩
 |d::ds,h=>by
  obtain⟨σ1,x,e1,e2,r⟩:=h d (xV ..);obtain⟨xs,ih,rs⟩:=Dl R (ds:=ds) λx hx=>h x (wQ _ hx)
  refine⟨x::xs,?_,.cons r rs⟩;show(g d σ).bind _=_;rw[e1];show(e σ1).bind _=_;rw[e2];show(xI g xB e σ ds).bind _=_;rw[ih];rfl
theorem Ye{n i:Nat}{d:D}(h:(w4 n)[i]?=some d):i<n/\d=.int (i:Int):=by
 have hi:i<n:=by
  have:=(xE.mp h).1;simpa using this
 refine⟨hi,?_⟩;simp[hi]at h;exact h.symm
theorem Lf{n:Nat}{d:D}(h:d∈w4 n):∃i:Nat,i<n/\d=.int (i:Int):=by
 obtain⟨i,hi,e⟩:=Yp h;exact⟨i,(Ye (xE.mpr ⟨hi,e⟩))⟩
theorem QO(n:Nat):(w4 n).length=n:=by simp
theorem pS{α:Type}{xs:List α}{i:Int}{a:α}(h0:0<=i)(h:xs[i.toNat]?=some a):vY xs i=some a:=by
 unfold vY;rw[zN h0,h]
def u_:Nat->D->Bool
 |0,_=>false
 |n+1,.tup xs=>xs.all (u_ n)
 |n+1,.lst xs=>xs.all (u_ n)
 |_+1,d=>yH d
theorem Jh{f:D->D->Bool}:∀{xs:List D},(∀x∈xs,f x x=true)->uv f xs xs=true
 | [],_=>rfl
 |x::xs,h=>by
  show(f x x&&uv f xs xs)=true;rw[h x (xV ..),Jh λy hy=>h y (wQ _ hy)];rfl
theorem Jk:∀{xs:List D},(∀x∈xs,yM x x=true)->dEqs xs xs=true
 | [],_=>by unfold dEqs; rfl
 |x::xs,h=>by
  unfold dEqs;rw[h x (xV ..),Jk λy hy=>h y (wQ _ hy)];rfl
theorem Xj:∀(n:Nat)(d:D),u_ n d=true->vE n d d=true/\yM d d=true
 |0,_,h=>by cases h
 |n+1,d,h=>by
  cases d with
  |tup xs=>
   have h':∀x∈xs,u_ n x=true:=wm.mp h;exact⟨Jh λx hx=>(Xj n x (h' x hx)).1,by unfold yM; exact Jk λx hx=>(Xj n x (h' x hx)).2⟩
  |lst xs=>
   have h':∀x∈xs,u_ n x=true:=wm.mp h;exact⟨Jh λx hx=>(Xj n x (h' x hx)).1,by unfold yM; exact Jk λx hx=>(Xj n x (h' x hx)).2⟩
  |dic ks vs=>cases h
  |exc _=>cases h
  |obj _ _ _=>cases h
  |zE=>exact⟨rfl,by unfold yM; rfl⟩
  |bl b=>exact⟨rfl,by unfold yM; exact pH b⟩
  |int i=>exact⟨rfl,by unfold yM; exact pH i⟩
  |str z=>exact⟨rfl,by unfold yM; exact pH z⟩
theorem Bu{d:D}(h:u_ 6 d=true):pY d d=some true:=by
 obtain⟨h1,h2⟩:=Xj 6 d h
 have e:pY d d=match vE 6 d d with
  |true=>some (yM d d)
  |false=>none:=by cases d<;>rfl
 rw[e,h1,h2]
theorem Bw{d:D}(h:u_ 6 d=true):yP d d=some (.bl true):=by
 unfold yP;rw[Bu h];rfl
theorem Dw{d:D}(h:u_ 6 d=true):vZ d d=some (.bl false):=by
 unfold vZ;rw[Bu h];rfl
theorem YA{i j:Int}(h:i=j):yP (.int i) (.int j)=some (.bl true):=by
 subst h;show some (D.bl (i==i))=_;rw[pH]
theorem YB{i j:Int}(h:i≠j):yP (.int i) (.int j)=some (.bl false):=by
 show some (D.bl (i==j))=_;rw[gS.mpr h]
theorem add_int{i j:Int}:yo (.int i) (.int j)=some (.int (i+j)):=rfl
theorem Ez:∀ts:List Str,Z0 (ts.map D.str)=some ts
 | []=>rfl
 |t::ts=>by
  show(Z0 (ts.map D.str)).bind _=_;rw[Ez ts];rfl
theorem Pn{sep:Str}{ts:List Str}(h:(ts.map (·.length)).sum+ts.length*sep.length<=1000000):T2 (.str sep) (.lst (ts.map D.str))=some (.str (Builtin.Str.glued sep ts)):=by
 show(Z0 (ts.map D.str)).bind _=_;rw[Ez];show(if _<=yn then _ else _)=_;rw[zN (by show _<=16777216; omega)]
theorem cut_len(z:Str)(lo hi:Option Int):(L2.cutS z lo hi).length<=z.length:=by
 show((z.cps.toList.drop _).take _).toArray.size<=z.cps.size;simp only[yk,gN,ZA,wj];omega
theorem IP{α:Type}{k:Sum Int Str}{v:α}:∀{ks:List (Sum Int Str)} {vs:List α},ks.length=vs.length->∀k',getK (xr ks k) (xz ks vs k v) k'=if k=k' then some v else getK ks vs k':=by
 have one:∀{ks:List (Sum Int Str)} {vs:List α},ks.length=vs.length->∀k',yb ks k=true->getK ks (List.zipWith (λk' x=>if k'=k then v else x) ks vs) k'=if k=k' then some v else getK ks vs k':=by
  intro ks
  induction ks with
  |nil=>intro vs _ k' h; cases h
  |cons a ks ih=>
   intro vs hl k' h;cases vs with
   |nil=>cases hl
   |cons b vs=>
    rw[gQ];unfold getK;by_cases e1:a=k
    ·subst e1;by_cases e2:a=k'
     ·rw[zN e2,zN e2,zN rfl]
     ·rw[zS e2,zS e2,zS e2];by_cases e3:yb ks a=true
      ·have:=ih (vs:=vs) (by simpa using hl) k' e3;rw[this,zS e2]
      ·have:∀{ks:List (Sum Int Str)} {vs:List α},ks.length=vs.length->yb ks a=false->getK ks (List.zipWith (λk' x=>if k'=a then v else x) ks vs) k'=getK ks vs k':=by
        intro ks
        induction ks with
        |nil=>intro vs _ _; rfl
        |cons a' ks ih'=>
         intro vs hl h;cases vs with
         |nil=>cases hl
         |cons b vs=>
          have h2:decide (a'=a)=false/\yb ks a=false:=by
           have:(decide (a'=a)||yb ks a)=false:=h;exact Bool.or_eq_false_iff.mp this
          rw[gQ];unfold getK;rw[zS (HH h2.1),ih' (by simpa using hl) h2.2]
       exact this (by simpa using hl) (by simpa using e3)
    ·have h2:yb ks k=true:=by
      have:(decide (a=k)||yb ks k)=true:=h;rw[ye e1]at this;exact this
     have:=ih (vs:=vs) (by simpa using hl) k' h2;rw[this,zS e1];by_cases e2:a=k'
     ·rw[zN e2];rw[zS (λe=>e1 (e2.trans e.symm)),zN e2]
     ·rw[zS e2];by_cases e3:k=k'
      ·rw[zN e3,zN e3]
      ·rw[zS e3,zS e3,zS e2]
 intro ks vs hl k';unfold xr xz;by_cases h:yb ks k=true
 ·rw[zN h,zN h];exact one hl k' h
 ·rw[zS h,zS h];clear one
  induction ks generalizing vs with
  |nil=>
   cases vs with
   |nil=>rfl
   |cons _ _=>cases hl
  |cons a ks ih=>
   cases vs with
   |nil=>cases hl
   |cons b vs=>
    have h2:¬ a=k/\¬ yb ks k=true:=by
     have:¬ (decide (a=k)||yb ks k)=true:=h
     constructor
     ·intro e; exact this (by rw[yh e]; rfl)
     ·intro e; exact this (by rw[e,Bool.or_true])
    rw[Yl,Yl];show(if a=k' then some b else getK (ks++[k]) (vs++[v]) k')=if k=k' then some v else if a=k' then some b else getK ks vs k'
    rw[ih (by simpa using hl) h2.2];by_cases e:a=k'
    ·rw[zN e,zN e];rw[zS (λe'=>h2.1 (e.trans e'.symm))]
    ·rw[zS e,zS e]
theorem Nw{k:Sum Int Str}{ks:List (Sum Int Str)}(k':Sum Int Str):yb (xr ks k) k'=(yb ks k'||decide (k=k')):=by
 unfold xr;by_cases h:yb ks k=true
 ·rw[zN h];by_cases e:k=k'
  ·subst e; rw[h]; rfl
  ·rw[ye e,Qh]
 ·rw[zS h];unfold yb;rw[List.any_append];simp
theorem TN{α:Type}:∀{ks:List (Sum Int Str)} {us:List α} {as:List (Sum Int Str)} {vs:List α},ks.length=us.length->∀k,yb (xD as vs ks us).1 k=(yb as k||yb ks k)
 | [],us,as,vs,_,k=>by
  show yb as k=(yb as k||false);rw[Qh]
 |a::ks,[],_,_,h,_=>by cases h
 |a::ks,u::us,as,vs,h,k=>by
  show yb (xD (xr as a) (xz as vs a u) ks us).1 k=_;rw[TN (by simpa using h),Nw];show _=(yb as k||(decide (a=k)||yb ks k));rw[Bool.or_assoc]
theorem Hf{L M:List D}(h:L.length+M.length<=1000):yo (.lst L) (.lst M)=some (.lst (L++M)):=by
 show(if L.length+M.length<=yn then _ else _)=_;rw[zN (by show _<=16777216; omega)]
theorem Dv(xs:List D):vZ (.lst xs) (.lst [])=some (.bl (!xs.isEmpty)):=by
 cases xs with
 |nil=>exact Dw (d:=.lst []) rfl
 |cons x r=>
  have e:yM (.lst (x::r)) (.lst [])=false:=by unfold yM; unfold dEqs; rfl
  show(some (yM (.lst (x::r)) (.lst []))).bind _=_;rw[e];rfl
theorem Jc:∀(n:Nat){l:List Nat},l.Nodup->(∀x∈l,x<n)->l.length<=n
 |0,l,_,h=>by
  cases l with
  |nil=>exact zr _
  |cons x r=>exact absurd (h x (xV ..)) (Nat.not_lt_zero _)
 |n+1,l,hd,h=>by
  by_cases hm:n∈l
  ·have h1:=Jc n (hd.erase n) λx hx=>by
    have:=(hd.mem_erase_iff).mp hx;have:=h x this.2;omega
   rw[List.length_erase_of_mem hm]at h1;omega
  ·have h1:=Jc n hd λx hx=>by
    have h2:=h x hx;have h3:x≠n:=λe=>hm (e▸hx)
    omega
   omega
theorem Oa{x y:D}{b:Bool}(h:yP x y=some (.bl b)):vZ x y=some (.bl (!b)):=by
 unfold yP at h;unfold vZ;cases e:pY x y with
 |none=>rw[e]at h; cases h
 |some k=>
  rw[e]at h;cases h;rfl
theorem Hm{n y l w:Nat}(hn:n<2 ^ w)(hy:y/2 ^ l%2 ^ w=0):(y &&& (n*2 ^ l))=0:=by
 apply HA;intro i;rw[Nat.testBit_and,Nat.zero_testBit];rw[MW];by_cases hl:l<=i
 ·by_cases hi:i-l<w
  ·have e:y.testBit i=(y/2 ^ l%2 ^ w).testBit (i-l):=by
    rw[HD,HC,yh hi,Z7,MV hl]
   rw[e,hy,Nat.zero_testBit,gI]
  ·have:n.testBit (i-l)=false:=Nat.testBit_lt_two_pow (wE hn (Nat.pow_le_pow_right (by decide) (by omega)));rw[this]; simp
 ·simp[hl]
theorem Hl(x l w:Nat):(x &&& ((2 ^ w-1)*2 ^ l))=x/2 ^ l%2 ^ w*2 ^ l:=by
 apply HA;intro i;rw[Nat.testBit_and,MW,MW,Nat.testBit_two_pow_sub_one,HD,HC];by_cases hl:l<=i
 ·simp[hl,MV hl];rw[Bool.and_comm]
 ·simp[hl]
theorem KY(l w:Nat):(((1:Int)*2 ^ w-1)*2 ^ l)=(((2 ^ w-1)*2 ^ l:Nat):Int):=by
 have h:1<=2 ^ w:=Nat.one_le_two_pow;rw[Int.natCast_mul,Int.natCast_sub h];simp
theorem Hw{x:Int}(hx:0<=x)(l w:Nat):Builtin.bitAnd x (((1:Int)*2 ^ w-1)*2 ^ l)=x/2^l%2^w*2^l:=by
 obtain⟨n,rfl⟩:=M5 hx;rw[KY,HG (VH _) (VH _),xU,xU,Hl];simp
theorem Hv{y n:Int}{l w:Nat}(hy:0<=y)(hn:0<=n)(hn2:n<2 ^ w)(hz:y/2 ^ l%2 ^ w=0):Builtin.bitAnd y (n*2 ^ l)=0:=by
 obtain⟨a,rfl⟩:=M5 hy;obtain⟨b,rfl⟩:=M5 hn;have e:(b:Int)*2 ^ l=((b*2 ^ l:Nat):Int):=by simp
 have h1:b<2 ^ w:=by
  have:((2 ^ w:Nat):Int)=(2:Int) ^ w:=by simp
  omega
 have h2:a/2 ^ l%2 ^ w=0:=by
  have:((a/2 ^ l%2 ^ w:Nat):Int)=(a:Int)/2 ^ l%2 ^ w:=by simp
  omega
 rw[e,HG (VH _) (VH _),xU,xU,Hm h1 h2];rfl
theorem Ki{x p r:Int}(hx:0<=x)(hp:0<p)(hr:0<r):0<=x-x/p%r*p/\(x-x/p%r*p)/p%r=0/\(x-x/p%r*p)/p/r=x/p/r/\(x-x/p%r*p)%p=x%p:=by
 have h0:0<=x/p:=Int.ediv_nonneg hx (VG hp);have e1:x-x/p%r*p=x+p*(-(x/p%r)):=by rw[Int.mul_neg,Int.mul_comm p]; omega
 have e2:(x-x/p%r*p)/p=x/p-x/p%r:=by rw[e1,Int.add_mul_ediv_left _ _ (M7 hp)]; omega
 have e3:x/p-x/p%r=r*(x/p/r):=by have:=Gm (x/p) r; omega
 refine⟨?_,?_,?_,?_⟩
 ·have h1:x/p%r<=x/p:=by
   have:=Gm (x/p) r;have h2:0<=x/p/r:=Int.ediv_nonneg h0 (VG hr);have h3:0<=r*(x/p/r):=Int.mul_nonneg (VG hr) h2;omega
  have h4:x/p%r*p<=x/p*p:=Int.mul_le_mul_of_nonneg_right h1 (VG hp);have h5:=Int.ediv_mul_le x (M7 hp);omega
 ·rw[e2,e3]; exact Gn _ _
 ·rw[e2,e3]; exact Int.mul_ediv_cancel_left _ (M7 hr)
 ·rw[e1]; exact Int.add_mul_emod_self_left ..
theorem AW(x:Int)(w:Nat):Builtin.bitAnd x ((1:Int)*2 ^ w-1)=x%2 ^ w:=by
 rw[M9,W.kbt_mask]
theorem oR{x n:Int}{l w:Nat}(hx:0<=x)(hn:0<=n)(hn2:n<2 ^ w):Builtin.bitOr (Builtin.bitAnd x (Builtin.bitNot (((1:Int)*2 ^ w-1)*2 ^ l))) (n*2 ^ l)=x+(n-x/2 ^ l%2 ^ w)*2 ^ l:=by
 have hp:(0:Int)<2 ^ l:=Int.pow_pos (by decide);have hr:(0:Int)<2 ^ w:=Int.pow_pos (by decide);obtain⟨c0,c1,_,_⟩:=Ki hx hp hr;rw[PyProof.Rows.bitAnd_not,Hw hx,PyProof.Rows.bitOr_and,Hv c0 hn hn2 c1,Int.sub_mul];omega
theorem Ow{a b c d i:Int}(h0:0<=i)(h1:i<4):∃n,(n=a\/n=b\/n=c\/n=d)/\zQ (.lst [.int a,.int b,.int c,.int d]) (.int i)=some (.int n):=by
 rcases(show i=0\/i=1\/i=2\/i=3 by omega)with rfl|rfl|rfl|rfl
 ·exact⟨a,by simp,rfl⟩
 ·exact⟨b,by simp,rfl⟩
 ·exact⟨c,by simp,rfl⟩
 ·exact⟨d,by simp,rfl⟩
theorem aK{a b c i:Int}(h0:0<=i)(h1:i<3):∃n,(n=a\/n=b\/n=c)/\zQ (.lst [.int a,.int b,.int c]) (.int i)=some (.int n):=by
 rcases(show i=0\/i=1\/i=2 by omega)with rfl|rfl|rfl
 ·exact⟨a,by simp,rfl⟩
 ·exact⟨b,by simp,rfl⟩
 ·exact⟨c,by simp,rfl⟩
inductive uT:D->Prop
 |stop:uT (.tup [.str "stop"])
 |Yx {w:Str} {d n:Int} (hw:w = "set" \/ w = "high") (d0:0<=d) (d1:d<8) (n0:0<=n) (n1:n<65536):uT (.tup [.str w,.int d,.int n])
 |two {w:Str} {d s:Int} (hw:w = "copy" \/ w = "add" \/ w = "addc" \/ w = "sub" \/ w = "subc" \/ w = "and" \/ w = "or" \/ w = "xor" \/ w = "test") (d0:0<=d) (d1:d<8) (s0:0<=s) (s1:s<8):uT (.tup [.str w,.int d,.int s])
 |Yz {w:Str} {d n:Int} (hw:w = "left" \/ w = "right") (d0:0<=d) (d1:d<8) (n0:0<=n) (n1:n<32):uT (.tup [.str w,.int d,.int n])
 |mem {w:Str} {d s n:Int} (hw:w = "load" \/ w = "store" \/ w = "loadw" \/ w = "storew") (d0:0<=d) (d1:d<8) (s0:0<=s) (s1:s<8) (n0:0<=n) (n1:n<256):uT (.tup [.str w,.int d,.int s,.int n])
inductive jY(m:Int):D->Prop
 |qH {p:Int} (p0:0<=p) (p1:p<=m):jY m (.tup [.str "jump",.int p])
 |cond {w k:Str} {p:Int} (hw:w = "when" \/ w = "unless") (hk:k = "carry" \/ k = "nought" \/ k = "sign") (p0:0<=p) (p1:p<=m):jY m (.tup [.str w,.str k,.int p])
def v6(m:Int)(d:D):Prop:=uT d\/jY m d
theorem qy{a:D}{r:List D}:zQ (.tup (a::r)) (.int 0)=some a:=rfl
def yq:D->Bool
 |.tup (.str w::_)=>w == "jump" || w == "when" || w == "unless"
 |_=>false
def p5:D->D
 |.tup xs=>(vY xs (-1)).getD .zE
 |_=>.zE
def YD:D:=.tup [.str "jump",.str "when",.str "unless"]
theorem j4{d:D}(h:uT d):∃w,zQ d (.int 0)=some (.str w)/\xY (.str w) YD=some (.bl false)/\yP (.str w) (.str "label")=some (.bl false)/\yq d=false/\u_ 5 d=true:=by
 cases h with
 |stop=>exact⟨_,rfl,rfl,rfl,rfl,rfl⟩
 |Yx hw=>rcases hw with rfl|rfl<;>exact⟨_,rfl,rfl,rfl,rfl,rfl⟩
 |two hw=>rcases hw with rfl|rfl|rfl|rfl|rfl|rfl|rfl|rfl|rfl<;>exact⟨_,rfl,rfl,rfl,rfl,rfl⟩
 |Yz hw=>rcases hw with rfl|rfl<;>exact⟨_,rfl,rfl,rfl,rfl,rfl⟩
 |mem hw=>rcases hw with rfl|rfl|rfl|rfl<;>exact⟨_,rfl,rfl,rfl,rfl,rfl⟩
theorem qS{m:Int}{d:D}(h:jY m d):∃(w:Str) (p:Int),zQ d (.int 0)=some (.str w)/\xY (.str w) YD=some (.bl true)/\yP (.str w) (.str "label")=some (.bl false)/\yq d=true/\u_ 5 d=true/\zQ d (.int (-1))=some (.int p)/\p5 d=.int p/\0<=p/\p<=m:=by
 cases h with
 |qH p0 p1=>exact⟨_,_,rfl,rfl,rfl,rfl,rfl,rfl,rfl,p0,p1⟩
 |cond hw hk p0 p1=>rcases hw with rfl|rfl<;>rcases hk with rfl|rfl|rfl<;>exact⟨_,_,rfl,rfl,rfl,rfl,rfl,rfl,rfl,p0,p1⟩
def q_(rows:List D):List Nat:=(List.range rows.length).filter λi=>yq (rows.getD i .zE)
theorem OD{rows:List D}{i:Nat}(h:i∈q_ rows):i<rows.length/\yq (rows.getD i .zE)=true:=by
 obtain⟨a,b⟩:=qd.mp h;exact⟨vi.mp a,b⟩
def yc:D->Bool
 |.tup (.str w::_)=>w == "label"
 |_=>false
def we(t:Str):D:=.tup [.str "label",.str t]
theorem Tz{m:Int}{d:D}(h:v6 m d):∃w,zQ d (.int 0)=some (.str w)/\yP (.str w) (.str "label")=some (.bl false)/\yc d=false/\u_ 5 d=true:=by
 rcases h with h|h
 ·cases h with
  |stop=>exact⟨_,rfl,rfl,rfl,rfl⟩
  |Yx hw=>rcases hw with rfl|rfl<;>exact⟨_,rfl,rfl,rfl,rfl⟩
  |two hw=>rcases hw with rfl|rfl|rfl|rfl|rfl|rfl|rfl|rfl|rfl<;>exact⟨_,rfl,rfl,rfl,rfl⟩
  |Yz hw=>rcases hw with rfl|rfl<;>exact⟨_,rfl,rfl,rfl,rfl⟩
  |mem hw=>rcases hw with rfl|rfl|rfl|rfl<;>exact⟨_,rfl,rfl,rfl,rfl⟩
 ·cases h with
  |qH=>exact⟨_,rfl,rfl,rfl,rfl⟩
  |cond hw hk=>rcases hw with rfl|rfl<;>rcases hk with rfl|rfl|rfl<;>exact⟨_,rfl,rfl,rfl,rfl⟩
def Rh(t:Str):D->Bool
 |.tup [_,.str u]=>u==t
 |_=>false
def jv(t:Str)(s:Nat×Option Nat)(d:D):Nat×Option Nat:=match yc d with
 |true=>(s.1,match Rh t d with
  |true=>some s.1
  |false=>s.2)
 |false=>(s.1+1,s.2)
def wW(t:Str)(L:List D):Nat×Option Nat:=L.foldl (jv t) (0,none)
theorem Cm(t:Str)(L:List D)(d:D):wW t (L++[d])=jv t (wW t L) d:=by
 unfold wW;rw[List.foldl_append];rfl
theorem Ck(t:Str):∀(L:List D)(s:Nat×Option Nat),(L.foldl (jv t) s).1=s.1+(L.filter λd=>!yc d).length
 | [],_=>rfl
 |d::L,s=>by
  rw[Z8,Ck t L];unfold jv;cases h:yc d with
  |true=>rw[Yn (by rw[h]; decide)]
  |false=>
   rw[gL (by rw[h]; rfl),xc];show s.1+1+_=_;omega
theorem Tt(t u:Str)(L:List D):(wW t (L++[we u])).2=if u=t then some (L.filter λd=>!yc d).length else(wW t L).2:=by
 rw[Cm];have h:=Ck t L (0,none);show(match(u==t)with|true=>some (wW t L).1|false=>(wW t L).2)=_;by_cases e:u=t
 ·rw[zN e,ZF.mpr e];show some (wW t L).1=_;rw[show(wW t L).1=_ from h,xw]
 ·rw[zS e,gS.mpr e]
theorem Cl{t:Str}{L:List D}{d:D}(h:yc d=false):(wW t (L++[d])).2=(wW t L).2:=by
 rw[Cm];unfold jv;rw[h]
theorem tV{L:List D}{r:D}(h:L.length<=1000):xh (.lst L) r=some (.lst (L++[r])):=by
 show(if L.length<yn then _ else _)=_;rw[zN (by show _<16777216; omega)]
inductive wq:D->Prop
 |label (t:Str):wq (we t)
 |plain {d:D}:uT d->wq d
 |qH (t:Str):wq (.tup [.str "jump",.str t])
 |cond {w k:Str} (t:Str) (hw:w = "when" \/ w = "unless") (hk:k = "carry" \/ k = "nought" \/ k = "sign"):wq (.tup [.str w,.str k,.str t])
theorem Pb{d:D}(h:wq d):∃w,zQ d (.int 0)=some (.str w)/\yP (.str w) (.str "label")=some (.bl (yc d))/\u_ 5 d=true:=by
 cases h with
 |label=>exact⟨_,rfl,rfl,rfl⟩
 |plain h=>
  obtain⟨w,a,b,c,e⟩:=Tz (m:=0) (.inl h);exact⟨w,a,by rw[c]; exact b,e⟩
 |qH=>exact⟨_,rfl,rfl,rfl⟩
 |cond t hw hk=>rcases hw with rfl|rfl<;>rcases hk with rfl|rfl|rfl<;>exact⟨_,rfl,rfl,rfl⟩
def HU(x y:D):Prop:=(yq x=false->y=x)/\(yq x=true->∃(h:List D) (a:D) (t:Str),x=.tup (h++[a])/\y=.tup (h++[.str t]))
theorem PZ{x:D}(h:yc x=true):yq x=false:=by
 unfold yc at h
 split at h
 ·rename_i w r;have e:w = "label" := by simpa using h
  subst e;rfl
 ·cases h
def uR(L:List D)(x y:D):Prop:=wq y/\yc y=yc x/\HU x y/\yq y=yq x/\(yq x=true->∃(t:Str) (p:Nat),zQ y (.int (-1))=some (.str t)/\(wW t L).2=some p/\p5 x=.int (p:Int))
theorem Uz{R:D->D->Prop}:∀{xs ys:List D},wo R xs ys->xs.length=ys.length
 |_,_,.nil=>rfl
 |_,_,.cons _ r=>by rw[xc,xc,Uz r]
theorem Bp{R:D->D->Prop}:∀{xs ys:List D},wo R xs ys->∀y∈ys,∃x∈xs,R x y
 |_,_,.nil,_,h=>by cases h
 |x::xs,y::ys,.cons r rs,z,hz=>by
  rcases yT.mp hz with rfl|hz
  ·exact⟨x,xV ..,r⟩
  ·obtain⟨w,hw,h⟩:=Bp rs z hz;exact⟨w,wQ _ hw,h⟩
theorem Bn{R R':D->D->Prop}(h:∀x y,R x y->R' x y):∀{xs ys:List D},wo R xs ys->wo R' xs ys
 |_,_,.nil=>.nil
 |_,_,.cons r rs=>.cons (h _ _ r) (Bn h rs)
theorem DA{L0:List D}:∀{xs ys:List D},wo (uR L0) xs ys->wo (uR L0) (xs.filter λd=>!yc d) (ys.filter λd=>!yc d)
 |_,_,.nil=>.nil
 |x::xs,y::ys,.cons r rs=>by
  have a:=DA rs;cases h:yc x with
  |true=>
   rw[Yn (p:=λd=>!yc d) (a:=y) (by rw[r.2.1,h]; decide),Yn (p:=λd=>!yc d) (a:=x) (by rw[h]; decide)];exact a
  |false=>
   rw[gL (p:=λd=>!yc d) (a:=y) (by rw[r.2.1,h]; rfl),gL (p:=λd=>!yc d) (a:=x) (by rw[h]; rfl)];exact .cons r a
theorem DB{L0:List D}(t:Str):∀{xs ys:List D}(s:Nat×Option Nat),wo (uR L0) xs ys->ys.foldl (jv t) s=xs.foldl (jv t) s
 |_,_,_,.nil=>rfl
 |x::xs,y::ys,s,.cons r rs=>by
  rw[Z8,Z8,DB t _ rs]
  congr 1
  unfold jv;rw[r.2.1];cases h:yc x with
  |true=>rw[r.2.2.1.1 (PZ h)]
  |false=>rfl
theorem Bm{R:D->D->Prop}:∀{xs ys:List D},wo R xs ys->∀{i:Nat}{x:D},xs[i]?=some x->∃y,ys[i]?=some y/\R x y
 |_,_,.nil,_,_,h=>by cases h
 |_,_,.cons r _,0,_,h=>by cases h; exact⟨_,rfl,r⟩
 |_,_,.cons _ rs,i+1,_,h=>Bm rs (by simpa using h)
def UW:FS:=
 (yD (e2 y_ (e2 IC (e2 y_ (e2 yo (e2 T5 (z7 0) (eC (.int 48271))) (e2 T5 (e2 yo (z7 1) (eC (.int 1))) (eC (.int 1299721)))) (eC (.int 2147483647))) (eC (.int 5))) (eC (.int 2147483647))))
def v3:List D->Option (Bool×D):=FR 2 2 UW
theorem cH:∀ds r,v3 ds=some r->ds.length=2/\zc 2 UW ds=some r:=yX
theorem NX(x0 x1:D):v3 [x0,x1]=zc 2 UW [x0,x1]:=rfl
def jc:FS:=
 (zL (zh 1 (e2 y_ (z7 0) (eC (.int 18))))
  (zL (zh 2 (e2 y_ (e2 wS (z7 0) (eC (.int 18))) (eC (.int 8))))
  (zL (zh 3 (e2 y_ (e2 wS (z7 0) (eC (.int 144))) (eC (.int 8))))
  (zL (zh 4 (e2 wS (z7 0) (eC (.int 1152))))
  (zL (yO (tE (e2 yP (z7 1) (eC (.int 0))))
   (yD (xO (zA (eC (.str "stop")) zG)))
   ym)
  (zL (yO (tE (e2 (xi λi j=>decide (i<j)) (z7 1) (eC (.int 3))))
   (yD (xO (zA (e2 zQ (wA (zA (eC (.str "set")) (zA (eC (.str "high")) zG))) (e2 uX (z7 1) (eC (.int 1)))) (zA (z7 2) (zA (e2 zQ (wA (zA (e2 y_ (z7 4) (eC (.int 65536))) (zA (eC (.int 0)) (zA (eC (.int 65535)) (zA (e2 y_ (z7 4) (eC (.int 9))) zG))))) (e2 y_ (e2 wS (z7 4) (eC (.int 65536))) (eC (.int 4)))) zG)))))
   ym)
  (zL (yO (tE (e2 (xi λi j=>decide (i<j)) (z7 1) (eC (.int 12))))
   (yD (xO (zA (e2 zQ (wA (zA (eC (.str "copy")) (zA (eC (.str "add")) (zA (eC (.str "addc")) (zA (eC (.str "sub")) (zA (eC (.str "subc")) (zA (eC (.str "and")) (zA (eC (.str "or")) (zA (eC (.str "xor")) (zA (eC (.str "test")) zG)))))))))) (e2 uX (z7 1) (eC (.int 3)))) (zA (z7 2) (zA (z7 3) zG)))))
   ym)
  (zL (yO (tE (e2 (xi λi j=>decide (i<j)) (z7 1) (eC (.int 14))))
   (yD (xO (zA (e2 zQ (wA (zA (eC (.str "left")) (zA (eC (.str "right")) zG))) (e2 uX (z7 1) (eC (.int 12)))) (zA (z7 2) (zA (e2 zQ (wA (zA (e2 y_ (z7 4) (eC (.int 32))) (zA (eC (.int 0)) (zA (eC (.int 31)) (zA (eC (.int 1)) zG))))) (e2 y_ (e2 wS (z7 4) (eC (.int 32))) (eC (.int 4)))) zG)))))
   ym)
  (yD (xO (zA (e2 zQ (wA (zA (eC (.str "load")) (zA (eC (.str "store")) (zA (eC (.str "loadw")) (zA (eC (.str "storew")) zG))))) (e2 uX (z7 1) (eC (.int 14)))) (zA (z7 2) (zA (z7 3) (zA (e2 zQ (wA (zA (e2 y_ (z7 4) (eC (.int 256))) (zA (eC (.int 0)) (zA (eC (.int 255)) zG)))) (e2 y_ (e2 wS (z7 4) (eC (.int 256))) (eC (.int 3)))) zG))))))))))))))
def gg:List D->Option (Bool×D):=FR 1 5 jc
theorem cN:∀ds r,gg ds=some r->ds.length=1/\zc 5 jc ds=some r:=yX
theorem XV(x0:D):gg [x0]=zc 5 jc [x0]:=rfl
def wT(c k:Int):Int:=((c*48271+(k+1)*1299721)%2147483647) ^ 5%2147483647
theorem kW{i j:Int}(h0:0<=j)(h1:j<64)(h2:0<=i)(h3:i<2 ^ 64):YN i j=true:=by
 unfold YN;rw[yh h0,yh (show j<=1000000 by omega),yh (show i.natAbs<2 ^ 64 by omega)];rfl
theorem jt(c k:Int):v3 [.int c,.int k]=some (false,.int (wT c k)):=by
 have h0:=Int.emod_nonneg (c*48271+(k+1)*1299721) (show(2147483647:Int)≠0 by decide);have h1:=Gj (c*48271+(k+1)*1299721) (show(0:Int)<2147483647 by decide);have hp:=kW (i:=(c*48271+(k+1)*1299721)%2147483647) (j:=5) (by decide) (by decide) h0 (by omega);have l1:jp 48271=true/\jp 1299721=true:=⟨by decide,by decide⟩;rw[NX];unfold UW;simp![add_int,l1,hp];rfl
theorem bX(c:Int):∃r,gg [.int c]=some (false,r)/\uT r:=by
 have d0:0<=c/18%8:=by omega
 have d1:c/18%8<8:=by omega
 have s0:0<=c/144%8:=by omega
 have s1:c/144%8<8:=by omega
 by_cases h0:c%18=0
 ·refine⟨_,?_,.stop⟩;rw[XV];unfold jc;simp![h0,YA]
 ·by_cases h3:c%18<3
  ·obtain⟨n,hn,e⟩:=Ow (a:=c/1152%65536) (b:=0) (c:=65535) (d:=c/1152%9) (i:=c/1152/65536%4) (by omega) (by omega)
   obtain⟨w,hw,ew⟩:∃w:Str,(w = "set" \/ w = "high")/\zQ (.lst [.str "set",.str "high"]) (.int (c%18-1))=some (.str w):=by
    rcases(show c%18=1\/c%18=2 by omega)with h|h<;>rw[h]
    ·exact⟨"set",.inl rfl,rfl⟩
    ·exact⟨"high",.inr rfl,rfl⟩
   refine⟨_,?_,.Yx hw d0 d1 (show 0<=n by omega) (by omega)⟩;rw[XV];unfold jc;simp![YB h0,yh h3,ew,e]
  ·by_cases h12:c%18<12
   ·obtain⟨w,hw,ew⟩:∃w:Str,(w = "copy" \/ w = "add" \/ w = "addc" \/ w = "sub" \/ w = "subc" \/ w = "and" \/ w = "or" \/ w = "xor" \/ w = "test")/\zQ (.lst [.str "copy",.str "add",.str "addc",.str "sub",.str "subc",.str "and",.str "or",.str "xor",.str "test"]) (.int (c%18-3))=some (.str w):=by
     rcases(show c%18=3\/c%18=4\/c%18=5\/c%18=6\/c%18=7\/c%18=8\/c%18=9\/c%18=10\/c%18=11 by omega)with h|h|h|h|h|h|h|h|h<;>rw[h]
     ·exact⟨"copy",by simp,rfl⟩
     ·exact⟨"add",by simp,rfl⟩
     ·exact⟨"addc",by simp,rfl⟩
     ·exact⟨"sub",by simp,rfl⟩
     ·exact⟨"subc",by simp,rfl⟩
     ·exact⟨"and",by simp,rfl⟩
     ·exact⟨"or",by simp,rfl⟩
     ·exact⟨"xor",by simp,rfl⟩
     ·exact⟨"test",by simp,rfl⟩
    refine⟨_,?_,.two hw d0 d1 s0 s1⟩;rw[XV];unfold jc;simp![YB h0,ye h3,yh h12,ew]
   ·by_cases h14:c%18<14
    ·obtain⟨n,hn,e⟩:=Ow (a:=c/1152%32) (b:=0) (c:=31) (d:=1) (i:=c/1152/32%4) (by omega) (by omega)
     obtain⟨w,hw,ew⟩:∃w:Str,(w = "left" \/ w = "right")/\zQ (.lst [.str "left",.str "right"]) (.int (c%18-12))=some (.str w):=by
      rcases(show c%18=12\/c%18=13 by omega)with h|h<;>rw[h]
      ·exact⟨"left",.inl rfl,rfl⟩
      ·exact⟨"right",.inr rfl,rfl⟩
     refine⟨_,?_,.Yz hw d0 d1 (show 0<=n by omega) (by omega)⟩;rw[XV];unfold jc;simp![YB h0,ye h3,ye h12,yh h14,ew,e]
    ·obtain⟨n,hn,e⟩:=aK (a:=c/1152%256) (b:=0) (c:=255) (i:=c/1152/256%3) (by omega) (by omega)
     obtain⟨w,hw,ew⟩:∃w:Str,(w = "load" \/ w = "store" \/ w = "loadw" \/ w = "storew")/\zQ (.lst [.str "load",.str "store",.str "loadw",.str "storew"]) (.int (c%18-14))=some (.str w):=by
      rcases(show c%18=14\/c%18=15\/c%18=16\/c%18=17 by omega)with h|h|h|h<;>rw[h]
      ·exact⟨"load",by simp,rfl⟩
      ·exact⟨"store",by simp,rfl⟩
      ·exact⟨"loadw",by simp,rfl⟩
      ·exact⟨"storew",by simp,rfl⟩
     refine⟨_,?_,.mem hw d0 d1 s0 s1 (show 0<=n by omega) (by omega)⟩;rw[XV];unfold jc;simp![YB h0,ye h3,ye h12,ye h14,ew,e]
def LD:FA:=(qR (eC (.int 0)) (e2 y_ (e2 wS (z7 1) (eC (.int 3))) (eC (.int 7))))
def QY:FE:=(e2 zQ (z7 2) (e2 y_ (zd v3 (zA (z7 1) (zA (z7 6) zG))) (eC (.int 26))))
def EJ:FA:=(qR (eC (.int 0)) (e2 wS (z7 0) (eC (.int 26))))
def ON:FS:=(zh 4 (e2 yo (z7 4) (eC (.str "q"))))
def Zm:FS:=
 (zL (zh 2 (eC (.str "abcdefghijklmnopqrstuvwxyz")))
  (zL (zh 3 (e2 T2 (eC (.str "")) (xm 1 LD (zo 6) xB QY)))
  (zL (yO (tE (e2 yP (e2 y_ (z7 1) (eC (.int 3))) (eC (.int 0))))
   (zL (zh 4 (e2 zQ (z7 2) (e2 y_ (z7 0) (eC (.int 26)))))
    (zL (vf EJ (zo 5)
     ON)
    (yD (z7 4))))
   ym)
  (zL (yO (tE (e2 yP (e2 y_ (z7 1) (eC (.int 3))) (eC (.int 1))))
   (yD (e2 yo (e2 yo (e2 zQ (z7 2) (e2 y_ (z7 0) (eC (.int 26)))) (e2 zQ (z7 2) (e2 wS (z7 0) (eC (.int 26))))) (pW (z7 3) vc (vd (eC (.int 6))))))
   ym)
  (yD (e2 yo (e2 yo (pW (z7 3) vc (vd (eC (.int 6)))) (e2 zQ (z7 2) (e2 wS (z7 0) (eC (.int 26))))) (e2 zQ (z7 2) (e2 y_ (z7 0) (eC (.int 26))))))))))
def qi:List D->Option (Bool×D):=FR 2 6 Zm
theorem cI:∀ds r,qi ds=some r->ds.length=2/\zc 6 Zm ds=some r:=yX
theorem IS(x0 x1:D):qi [x0,x1]=zc 6 Zm [x0,x1]:=rfl
def EI:FA:=(qR (eC (.int 0)) (eL xo (zA (z7 0) zG)))
def GX:FE:=(z7 1)
def Qc:FT:=(tE (e2 xY (e2 zQ (e2 zQ (z7 0) (z7 1)) (eC (.int 0))) (xO (zA (eC (.str "jump")) (zA (eC (.str "when")) (zA (eC (.str "unless")) zG))))))
def UV:FS:=
 (qC (xm 1 EI (zo 1) Qc GX))
def jP:List D->Option (Bool×D):=FR 1 1 UV
theorem cF:∀ds r,jP ds=some r->ds.length=1/\zc 1 UV ds=some r:=yX
theorem NW(x0:D):jP [x0]=zc 1 UV [x0]:=rfl
def QX:FE:=(e2 zQ (e2 zQ (z7 0) (z7 10)) (e1 va (eC (.int 1))))
def EH:FA:=(qR (eC (.int 0)) (e2 yo (eL xo (zA (z7 0) zG)) (eC (.int 1))))
def Te:FS:=(zL (zh 8 (e2 y_ (zd v3 (zA (z7 1) (zA (z7 7) zG))) (eC (.int 12))))
    (zL (yO (pC (tE (e2 xY (z7 7) (z7 3))) (tE (e2 yP (z7 8) (eC (.int 0)))))
     (zL (p8 4 (z7 7) (zd qi (zA (z7 6) (zA (z7 2) zG))))
      (zL (xt 5 xh (xO (zA (eC (.str "label")) (zA (e2 zQ (je 4) (z7 7)) zG))))
      (zh 6 (e2 (tY λi j=>i+j) (z7 6) (eC (.int 1))))))
     ym)
    (zL (yO (tE (e2 yP (z7 8) (eC (.int 1))))
     (zL (xt 5 xh (xO (zA (eC (.str "label")) (zA (zd qi (zA (z7 6) (zA (z7 2) zG))) zG))))
      (zh 6 (e2 (tY λi j=>i+j) (z7 6) (eC (.int 1)))))
     ym)
    (yO (tE (e2 (xi λi j=>decide (i<j)) (z7 7) (eL xo (zA (z7 0) zG))))
     (xt 5 xh (e2 zQ (z7 0) (z7 7)))
     ym))))
def Z4:FE:=(u9 (tE (e2 xY (e2 zQ (z7 10) (eC (.int 0))) (z7 9))) (e2 yo (pW (z7 10) vc (vd (e1 va (eC (.int 1))))) (xO (zA (e2 zQ (z7 4) (e2 zQ (z7 10) (e1 va (eC (.int 1))))) zG))) (z7 10))
def UT:FS:=
 (zL (zh 2 (e2 y_ (e2 wS (z7 1) (eC (.int 4))) (eC (.int 999))))
  (zL (zh 3 (xm 1 (vo (zd jP (zA (z7 0) zG))) (zo 10) xB QX))
  (zL (uE 4 (eC (.dic [] [])))
  (zL (uE 5 (wA zG))
  (zL (zh 6 (eC (.int 0)))
  (zL (vf EH (zo 7)
   Te)
  (zL (g9 5) (zL (g9 4) (zL (zh 9 (xO (zA (eC (.str "jump")) (zA (eC (.str "when")) (zA (eC (.str "unless")) zG)))))
  (qC (xm 1 (vo (z7 5)) (zo 10) xB Z4)))))))))))
def ZY:List D->Option (Bool×D):=FR 2 10 UT
theorem cE:∀ds r,ZY ds=some r->ds.length=2/\zc 10 UT ds=some r:=yX
theorem NV(x0 x1:D):ZY [x0,x1]=zc 10 UT [x0,x1]:=rfl
theorem RK:∀(sh:Int)(n:Nat),(w4 n).map (λd=>match d with|.int j=>D.str (lt (wT sh j%26))|d=>d)=((List.range n).map λj:Nat=>lt (wT sh j%26)).map D.str:=λsh n=>by
 rw[vA,vA];rfl
theorem G4(f:Nat->Int):∀l:List Nat,((l.map λj=>lt (f j)).map (·.length)).sum=l.length
 | []=>rfl
 |a::l=>by
  rw[wD,wD,MP,G4 f l,YH,xc];omega
def V6(sh:Int):Str:=Builtin.Str.glued "" ((List.range (sh/3%7).toNat).map λj:Nat=>lt (wT sh j%26))
def g6(x:Str):Nat->Str
 |0=>x
 |n+1=>g6 x n ++ "q"
def uc(sh k:Int):Str:=if sh%3=0 then g6 (lt (k%26)) (k/26).toNat else if sh%3=1 then lt (k%26)++lt (k/26)++L2.cutS (V6 sh) none (some 6)else L2.cutS (V6 sh) none (some 6)++lt (k/26)++lt (k%26)
theorem iC{k sh:Int}{x3 x4 x5:Option Sl}:∃ds xs:List D,(V6 sh).length<=7/\LD [some (false,.int k),some (false,.int sh),some (false,.str "abcdefghijklmnopqrstuvwxyz"),x3,x4,x5]=some ds/\xI (zo 6) xB QY [some (false,.int k),some (false,.int sh),some (false,.str "abcdefghijklmnopqrstuvwxyz"),x3,x4,x5,none] ds=some xs/\T2 (.str "") (.lst xs)=some (.str (V6 sh)):=by
 have hr:LD [some (false,.int k),some (false,.int sh),some (false,.str "abcdefghijklmnopqrstuvwxyz"),x3,x4,x5]=some (w4 (sh/3%7).toNat):=
  g7 (n:=sh/3%7) rfl (by omega)
 have hl:=jn (g:=zo 6) (e:=QY) (σ:=[some (false,.int k),some (false,.int sh),some (false,.str "abcdefghijklmnopqrstuvwxyz"),x3,x4,x5]++List.replicate 1 none) (λd=>match d with|.int j=>D.str (lt (wT sh j%26))|d=>d) (ds:=w4 (sh/3%7).toNat) λd hd=>by
  obtain⟨i,hi,rfl⟩:=Lf hd;have hm:=jt sh (i:Int);have hx:=UE (k:=wT sh i%26) (by omega) (by omega);refine⟨_,rfl,?_⟩;unfold QY;simp![hm,hx]
 rw[RK]at hl;have hs:=G4 (λj:Nat=>wT sh j%26) (List.range (sh/3%7).toNat);rw[vx]at hs;have hg:=L2.glued_len "" ((List.range (sh/3%7).toNat).map λj:Nat=>lt (wT sh j%26));have e0:("" : Str).length=0:=rfl;rw[hs,e0,Nat.mul_zero,Nat.add_zero]at hg;have hj:=Pn (sep := "") (ts:=(List.range (sh/3%7).toNat).map λj:Nat=>lt (wT sh j%26)) (by rw[hs,e0]; omega);exact⟨_,_,xv hg (by omega),hr,hl,hj⟩
theorem C_(x:Str):∀n,(g6 x n).length=x.length+n
 |0=>rfl
 |n+1=>by
  show(g6 x n ++ "q").length=_;rw[OU,C_ x n];rfl
theorem Dt{k sh:Int}(k0:0<=k)(k1:k<676)(s0:0<=sh):qi [.int k,.int sh]=some (false,.str (uc sh k)):=by
 obtain⟨ds,xs,ht,er,ex,ej⟩:=iC (k:=k) (sh:=sh) (x3:=none) (x4:=none) (x5:=none);unfold uc;generalize V6 sh=t at ht ej ⊢;have a1:=UE (k:=k%26) (by omega) (by omega);have a2:=UE (k:=k/26) (by omega) (by omega);have c6:=cut_len t none (some 6);have l1:=YH (k%26);have l2:=YH (k/26);have h2:∀x y:Str,(x++y).length=x.length+y.length:=OU;have sl:pW (z7 3) vc (vd (eC (.int 6))) [some (false,.int k),some (false,.int sh),some (false,.str "abcdefghijklmnopqrstuvwxyz"),some (false,.str t),none,none]=some (.str (L2.cutS t none (some 6))):=rfl;rcases(show sh%3=0\/sh%3=1\/sh%3=2 by omega)with h|h|h
 ·have hr:EJ [some (false,.int k),some (false,.int sh),some (false,.str "abcdefghijklmnopqrstuvwxyz"),some (false,.str t),some (false,.str (lt (k%26))),none]=some (w4 (k/26).toNat):=g7 (n:=k/26) rfl (by omega)
  obtain⟨σ',e2,x,rfl⟩:=uz (g:=zo 5) (b:=ON) (λi σ=>∃x,σ=[some (false,.int k),some (false,.int sh),some (false,.str "abcdefghijklmnopqrstuvwxyz"),some (false,.str t),some (false,.str (g6 (lt (k%26)) i)),x]) (ds:=w4 (k/26).toNat)
   (σ:=[some (false,.int k),some (false,.int sh),some (false,.str "abcdefghijklmnopqrstuvwxyz"),some (false,.str t),some (false,.str (lt (k%26))),none]) 0 ⟨_,rfl⟩ (by
   rintro i v σ hv ⟨x,rfl⟩;obtain⟨hi,rfl⟩:=Ye hv;rw[xw];have lq:("q" : Str).length=1:=rfl;have ha:=add_str (a:=g6 (lt (k%26)) i) (b := "q") (by rw[lq,C_,YH]; omega);exact⟨_,_,rfl,.inl (by unfold ON; simp![ha]; rfl),_,rfl⟩)
  rw[QO,xw]at e2;rw[zN h,IS];unfold Zm;simp![er,ex,ej,h,YA,a1,hr,e2]
 ·rw[zS (by omega),zN h];have h1:=add_str (a:=lt (k%26)) (b:=lt (k/26)) (by omega);have h3:=add_str (a:=lt (k%26)++lt (k/26)) (b:=L2.cutS t none (some 6)) (by rw[h2]; omega);have z:yP (.int 1) (.int 0)=some (.bl false):=rfl;rw[IS];unfold Zm;simp![er,ex,ej,h,z,YA,a1,a2,h1,sl,h3]
 ·rw[zS (by omega),zS (by omega)];have h1:=add_str (a:=L2.cutS t none (some 6)) (b:=lt (k/26)) (by omega);have h3:=add_str (a:=L2.cutS t none (some 6)++lt (k/26)) (b:=lt (k%26)) (by rw[h2]; omega);have z:yP (.int 2) (.int 0)=some (.bl false):=rfl;have z1:yP (.int 2) (.int 1)=some (.bl false):=rfl;rw[IS];unfold Zm;simp![er,ex,ej,h,z,z1,a1,a2,h1,sl,h3]
theorem Jj(a b:Str):(a++b).cps.toList=a.cps.toList++b.cps.toList:=Array.toList_append
theorem Cz(x:Str):∀n,(g6 x n).cps.toList=x.cps.toList++List.replicate n 113
 |0=>by rw[Gy,ui]; rfl
 |n+1=>by
  show(g6 x n ++ "q").cps.toList=_;rw[Jj,Cz x n,gK,List.replicate_succ'];rfl
theorem Du{sh k k':Int}(a0:0<=k)(b0:0<=k')(h:uc sh k=uc sh k'):k=k':=by
 unfold uc at h;have lc:∀x:Int,(lt x).cps.toList=[97+x.toNat]:=λ_=>rfl
 have h1:=congrArg (λz:Str=>z.cps.toList) h;by_cases c:sh%3=0
 ·simp only[zN c,Cz,lc,Yl,Qs,MB]at h1;have h2:=congrArg List.length h1.2;rw[gM,gM]at h2;omega
 ·by_cases c1:sh%3=1
  ·simp only[zS c,zN c1,Jj,lc,Yl,Qs,MB]at h1;omega
  ·simp only[zS c,zS c1,Jj,lc,gK,List.append_cancel_left_eq,Yl,Qs,MB]at h1;omega
theorem Da{m:Int}{rows:List D}(hr:∀r∈rows,v6 m r)(hl:rows.length<=1000):jP [.lst rows]=some (true,.lst ((q_ rows).map λi:Nat=>D.int i)):=by
 have h1:EI [some (false,.lst rows)]=some (w4 rows.length):=g7 (n:=(rows.length:Int)) rfl (by omega)
 have h2:=kO (g:=zo 1) (c:=Qc) (e:=GX) (σ:=[some (false,.lst rows),none]) (λd=>match d with|.int i=>yq (rows.getD i.toNat .zE)|_=>false) id (ds:=w4 rows.length) λd hd=>by
  obtain⟨i,hi,rfl⟩:=Lf hd;have ex:zQ (.lst rows) (.int (i:Int))=some rows[i]:=pS (by omega) (by rw[xU]; exact yS hi);have eg:rows.getD ((i:Int)).toNat .zE=rows[i]:=by rw[xU,vH,yS hi]; rfl
  have ej:∃w,zQ rows[i] (.int 0)=some (.str w)/\xY (.str w) (.tup [.str "jump",.str "when",.str "unless"])=some (.bl (yq rows[i])):=by
   rcases hr _ (uj hi)with h|h
   ·obtain⟨w,a,b,_,c,_⟩:=j4 h;exact⟨w,a,by rw[c]; exact b⟩
   ·obtain⟨w,p,a,b,_,c,_⟩:=qS h;exact⟨w,a,by rw[c]; exact b⟩
  obtain⟨w,ew,ein⟩:=ej;refine⟨_,rfl,?_,λ_=>?_⟩
  ·show Qc [some (false,.lst rows),some (false,.int (i:Int))]=some (yq (rows.getD ((i:Int)).toNat .zE));rw[eg];unfold Qc;simp![ex,ew,ein]
  ·rfl
 have h3:List.map id ((w4 rows.length).filter λd=>match d with|.int i=>yq (rows.getD i.toNat .zE)|_=>false)=(q_ rows).map λi:Nat=>D.int i:=by
  rw[ZB,MF];rfl
 rw[h3]at h2;rw[NW];unfold UV;simp![h1,h2]
def places(rows:List D):List D:=(q_ rows).map λi=>p5 (rows.getD i .zE)
def kJ(rows:List D)(q:Int):Bool:=(places rows).any λy=>yM y (.int q)
theorem aR{m:Int}{rows:List D}(hr:∀r∈rows,v6 m r){y:D}(h:y∈places rows):∃p:Int,y=.int p/\0<=p/\p<=m:=by
 obtain⟨i,hi,rfl⟩:=xQ.mp h;obtain⟨hl,hj⟩:=OD hi;have eg:rows.getD i .zE=rows[i]:=by rw[vH,yS hl]; rfl
 rw[eg]at hj ⊢;rcases hr _ (uj hl)with h|h
 ·obtain⟨_,_,_,_,c,_⟩:=j4 h;rw[c]at hj;cases hj
 ·obtain⟨w,p,_,_,_,_,_,_,e,p0,p1⟩:=qS h;exact⟨p,e,p0,p1⟩
theorem PH{m:Int}{rows:List D}(hr:∀r∈rows,v6 m r)(q:Int):xY (.int q) (.lst (places rows))=some (.bl (kJ rows q)):=by
 have ha:(places rows).all yH=true:=wm.mpr λy hy=>by
  obtain⟨p,rfl,_⟩:=aR hr hy;rfl
 show(pZ (.int q) (.lst (places rows))).bind _=_
 have:pZ (.int q) (.lst (places rows))=some (kJ rows q):=by
  show(match yH (.int q)&&(places rows).all yH with|true=>_|false=>_)=_;rw[ha];rfl
 rw[this];rfl
theorem PC{rows:List D}{i:Nat}{p:Int}(hl:i<rows.length)(hj:yq rows[i]=true)(he:p5 rows[i]=.int p):kJ rows p=true:=by
 refine jE.mpr ⟨.int p,xQ.mpr ⟨i,qd.mpr ⟨vi.mpr hl,?_⟩,?_⟩,?_⟩
 ·rw[vH,yS hl]; exact hj
 ·rw[vH,yS hl]; exact he
 ·unfold yM; exact pH p
structure Inv(rows:List D)(sh:Int)(i:Nat)(ks:List (Sum Int Str))(vs L:List D)(c:Int):Prop where
 hk:ks.length=vs.length
 k1:ks.length<=i
 l1:L.length<=3*i
 c0:0<=c
 c1:c<=2*i
 nm:∀q:Int,0<=q->q<i->kJ rows q=true->∃k:Int,0<=k/\k<c/\getK ks vs (.inl q)=some (.str (uc sh k))/\(wW (uc sh k) L).2=some q.toNat
 fl:L.filter (λd=>!yc d)=rows.take i
 el:∀d∈L,(∃t,d=we t)\/d∈rows
theorem Pf{m:Int}{rows:List D}(hr:∀r∈rows,v6 m r)(hl:rows.length<=100){cell sh:Int}(s0:0<=sh){i:Nat}(hi:i<=rows.length){ks:List (Sum Int Str)}{vs L:List D}{c:Int}(I:Inv rows sh i ks vs L c){x8 x9:Option Sl} :
  ∃ks' vs' L' c' y8,Inv rows sh (i+1) ks' vs' L' c'/\Te [some (false,.lst rows),some (false,.int cell),some (false,.int sh),some (false,.lst (places rows)),some (true,.dic ks vs),some (true,.lst L),some (false,.int c),some (false,.int (i:Int)),x8,x9] =
   some (.nx [some (false,.lst rows),some (false,.int cell),some (false,.int sh),some (false,.lst (places rows)),some (true,.dic ks' vs'),some (true,.lst L'),some (false,.int c'),some (false,.int (i:Int)),y8,x9]):=by
 obtain⟨hk,k1,l1,c0,c1,nm,fl,el⟩:=I;have hm:=jt cell (i:Int);generalize wT cell (i:Int)=mx at hm;have hin:=PH hr (i:Int)
 have A:∃(ks':List (Sum Int Str)) (vs' L':List D) (c':Int),(ks'.length=vs'.length/\ks'.length<=i+1/\L'.length<=3*i+1/\0<=c'/\c'<=2*i+1)/\(∀q:Int,0<=q->q<(i+1:Nat)->kJ rows q=true->∃k:Int,0<=k/\k<c'/\getK ks' vs' (.inl q)=some (.str (uc sh k))/\(wW (uc sh k) L').2=some q.toNat)/\L'.filter (λd=>!yc d)=rows.take i/\(∀d∈L',(∃t,d=we t)\/d∈rows)/\
   yO (pC (tE (e2 xY (z7 7) (z7 3))) (tE (e2 yP (z7 8) (eC (.int 0)))))
     (zL (p8 4 (z7 7) (zd qi (zA (z7 6) (zA (z7 2) zG))))
      (zL (xt 5 xh (xO (zA (eC (.str "label")) (zA (e2 zQ (je 4) (z7 7)) zG))))
      (zh 6 (e2 (tY λi j=>i+j) (z7 6) (eC (.int 1))))))
     ym [some (false,.lst rows),some (false,.int cell),some (false,.int sh),some (false,.lst (places rows)),some (true,.dic ks vs),some (true,.lst L),some (false,.int c),some (false,.int (i:Int)),some (false,.int (mx%12)),x9] =
   some (.nx [some (false,.lst rows),some (false,.int cell),some (false,.int sh),some (false,.lst (places rows)),some (true,.dic ks' vs'),some (true,.lst L'),some (false,.int c'),some (false,.int (i:Int)),some (false,.int (mx%12)),x9]):=by
  obtain⟨k0,e0⟩:∃k,yP (.int (mx%12)) (.int 0)=some (.bl k):=⟨_,rfl⟩;by_cases h:kJ rows (i:Int)=false/\k0=false
  ·refine⟨ks,vs,L,c,⟨hk,by omega,by omega,c0,by omega⟩,?_,fl,el,?_⟩
   ·intro q q0 q1 hq;by_cases e:q=(i:Int)
    ·subst e; rw[h.1]at hq; cases hq
    ·exact nm q q0 (by omega) hq
   ·rw[h.1]at hin;rw[h.2]at e0;simp![hin,e0]
  ·have et:=Dt (k:=c) (sh:=sh) c0 (by omega) s0;obtain⟨t,ht⟩:∃t,t=uc sh c:=⟨_,rfl⟩;rw[<-ht]at et
   have hc:pC (tE (e2 xY (z7 7) (z7 3))) (tE (e2 yP (z7 8) (eC (.int 0)))) [some (false,.lst rows),some (false,.int cell),some (false,.int sh),some (false,.lst (places rows)),some (true,.dic ks vs),some (true,.lst L),some (false,.int c),some (false,.int (i:Int)),some (false,.int (mx%12)),x9]=some true:=by
    cases hb:kJ rows (i:Int)with
    |true=>rw[hb]at hin; simp![hin]
    |false=>
     have:k0=true:=by cases k0 with|true=>rfl|false=>exact absurd ⟨hb,rfl⟩ h
     rw[hb]at hin;rw[this]at e0;simp![hin,e0]
   have gp:=IP (k:=.inl (i:Int)) (v:=D.str t) hk
   have g0:zQ (.dic (xr ks (.inl (i:Int))) (xz ks vs (.inl (i:Int)) (.str t))) (.int (i:Int))=some (.str t):=by
    show getK _ _ _=_;rw[gp,zN rfl]
   have hlk:(xr ks (.inl (i:Int))).length<=i+1:=by
    unfold xr
    split
    ·omega
    ·rw[yj]; show _+1<=_; omega
   have hap:=tV (L:=L) (r:=we t) (by omega);refine⟨xr ks (.inl (i:Int)),xz ks vs (.inl (i:Int)) (.str t),L++[we t],c+1,⟨kY hk,hlk,by rw[yj]; show _+1<=_; omega,by omega,by omega⟩,?_,?_,?_,?_⟩
   ·intro q q0 q1 hq;rw[gp];by_cases e:(i:Int)=q
    ·subst e;refine⟨c,c0,by omega,by rw[zN rfl,ht],?_⟩;rw[Tt,zN ht,fl,gN,xU,Nat.min_eq_left hi]
    ·rw[zS (λh=>e (pG h))];obtain⟨k,k0,k1,k2,k3⟩:=nm q q0 (by omega) hq;refine⟨k,k0,by omega,k2,?_⟩;rw[Tt,zS,k3];intro z;have:=Du c0 k0 (ht.symm.trans z);omega
   ·rw[VI,fl];show rows.take i++[]=_;rw[ui]
   ·intro d hd;rcases uI.mp hd with hd|hd
    ·exact el d hd
    ·cases vB.mp hd; exact .inl ⟨t,rfl⟩
   ·rw[DQ hc];have kd:qT (.int (i:Int))=some (.inl (i:Int)):=rfl;have hlim:ks.length<yn:=by show _<16777216; omega
    have sp:p8 4 (z7 7) (zd qi (zA (z7 6) (zA (z7 2) zG))) [some (false,.lst rows),some (false,.int cell),some (false,.int sh),some (false,.lst (places rows)),some (true,.dic ks vs),some (true,.lst L),some (false,.int c),some (false,.int (i:Int)),some (false,.int (mx%12)),x9] =
      some (.nx [some (false,.lst rows),some (false,.int cell),some (false,.int sh),some (false,.lst (places rows)),some (true,.dic (xr ks (.inl (i:Int))) (xz ks vs (.inl (i:Int)) (.str t))),some (true,.lst L),some (false,.int c),some (false,.int (i:Int)),some (false,.int (mx%12)),x9]):=by
     simp![p8,et,kd,zN hlim]
    rw[uF sp];unfold we at hap ⊢;simp![g0,hap]
 obtain⟨ks',vs',L',c',⟨a1,a2,a3,a4,a5⟩,anm,afl,ael,ae⟩:=A
 have B:∃(L2:List D) (c2:Int),(L2.length<=3*i+2/\0<=c2/\c2<=2*i+2/\c'<=c2/\∀k:Int,0<=k->k<c'->(wW (uc sh k) L2).2=(wW (uc sh k) L').2)/\L2.filter (λd=>!yc d)=rows.take i/\(∀d∈L2,(∃t,d=we t)\/d∈rows)/\
   yO (tE (e2 yP (z7 8) (eC (.int 1))))
     (zL (xt 5 xh (xO (zA (eC (.str "label")) (zA (zd qi (zA (z7 6) (zA (z7 2) zG))) zG))))
      (zh 6 (e2 (tY λi j=>i+j) (z7 6) (eC (.int 1)))))
     ym [some (false,.lst rows),some (false,.int cell),some (false,.int sh),some (false,.lst (places rows)),some (true,.dic ks' vs'),some (true,.lst L'),some (false,.int c'),some (false,.int (i:Int)),some (false,.int (mx%12)),x9] =
   some (.nx [some (false,.lst rows),some (false,.int cell),some (false,.int sh),some (false,.lst (places rows)),some (true,.dic ks' vs'),some (true,.lst L2),some (false,.int c2),some (false,.int (i:Int)),some (false,.int (mx%12)),x9]):=by
  obtain⟨k0,e0⟩:∃k,yP (.int (mx%12)) (.int 1)=some (.bl k):=⟨_,rfl⟩;cases k0 with
  |false=>exact⟨L',c',⟨by omega,a4,by omega,by omega,λ_ _ _=>rfl⟩,afl,ael,by simp![e0]⟩
  |true=>
   have et:=Dt (k:=c') (sh:=sh) a4 (by omega) s0;obtain⟨t,ht⟩:∃t,t=uc sh c':=⟨_,rfl⟩;rw[<-ht]at et;have hap:=tV (L:=L') (r:=we t) (by omega);refine⟨L'++[we t],c'+1,⟨by rw[yj]; show _+1<=_; omega,by omega,by omega,by omega,λk k0 k1=>?_⟩,?_,?_,?_⟩
   ·rw[Tt,zS];intro z;have:=Du a4 k0 (ht.symm.trans z);omega
   ·rw[VI,afl];show rows.take i++[]=_;rw[ui]
   ·intro d hd;rcases uI.mp hd with hd|hd
    ·exact ael d hd
    ·cases vB.mp hd; exact .inl ⟨t,rfl⟩
   ·unfold we at hap ⊢;simp![e0,et,hap]
 obtain⟨L2,c2,⟨b1,b2,b3,b4,b5⟩,bfl,bel,be⟩:=B
 have C:∃L3:List D,L3.length<=3*(i+1)/\(∀t,(wW t L3).2=(wW t L2).2)/\L3.filter (λd=>!yc d)=rows.take (i+1)/\(∀d∈L3,(∃t,d=we t)\/d∈rows)/\
   yO (tE (e2 (xi λi j=>decide (i<j)) (z7 7) (eL xo (zA (z7 0) zG))))
     (xt 5 xh (e2 zQ (z7 0) (z7 7)))
     ym [some (false,.lst rows),some (false,.int cell),some (false,.int sh),some (false,.lst (places rows)),some (true,.dic ks' vs'),some (true,.lst L2),some (false,.int c2),some (false,.int (i:Int)),some (false,.int (mx%12)),x9] =
   some (.nx [some (false,.lst rows),some (false,.int cell),some (false,.int sh),some (false,.lst (places rows)),some (true,.dic ks' vs'),some (true,.lst L3),some (false,.int c2),some (false,.int (i:Int)),some (false,.int (mx%12)),x9]):=by
  by_cases h:i<rows.length
  ·have hap:=tV (L:=L2) (r:=rows[i]) (by omega);have ex:zQ (.lst rows) (.int (i:Int))=some rows[i]:=pS (by omega) (by rw[xU]; exact yS h);have hd:decide ((i:Int)<(rows.length:Int))=true:=yh (by omega);refine⟨L2++[rows[i]],by rw[yj]; show _+1<=_; omega,?_,?_,?_,?_⟩
   ·intro t;obtain⟨_,_,_,z,_⟩:=Tz (hr _ (uj h));exact Cl z
   ·obtain⟨_,_,_,z,_⟩:=Tz (hr _ (uj h));rw[VI,bfl,gL (by rw[z]; rfl),List.filter_nil,Gz h]
   ·intro d hd;rcases uI.mp hd with hd|hd
    ·exact bel d hd
    ·cases vB.mp hd; exact .inr (uj h)
   ·simp![hd,ex,hap]
  ·have hd:decide ((i:Int)<(rows.length:Int))=false:=ye (by omega);refine⟨L2,by omega,λ_=>rfl,?_,bel,by simp![hd]⟩;rw[bfl,MR (by omega),MR (by omega)]
 obtain⟨L3,d1,dpl,dfl,del,de⟩:=C;refine⟨ks',vs',L3,c2,some (false,.int (mx%12)),⟨a1,a2,by omega,b2,by omega,λq q0 q1 hq=>?_,dfl,del⟩,?_⟩
 ·obtain⟨k,k0,k1,k2,k3⟩:=anm q q0 q1 hq;exact⟨k,k0,by omega,k2,by rw[dpl,b5 k k0 k1,k3]⟩
 unfold Te;rw[uF (σ':=[some (false,.lst rows),some (false,.int cell),some (false,.int sh),some (false,.lst (places rows)),some (true,.dic ks vs),some (true,.lst L),some (false,.int c),some (false,.int (i:Int)),some (false,.int (mx%12)),x9]) (by simp![hm]),uF ae,uF be];exact de
theorem Pd{rows:List D}(hr:∀r∈rows,v6 (rows.length:Int) r)(hl:rows.length<=100){cell:Int}:∃zF:List D,ZY [.lst rows,.int cell]=some (true,.lst zF)/\(∀d∈zF,wq d)/\wo (uR zF) rows (zF.filter λd=>!yc d)/\zF.length<=1000:=by
 have hj:=Da hr (by omega)
 have q9:xI (zo 10) xB QX [some (false,.lst rows),some (false,.int cell),some (false,.int (cell/4%999)),none,none,none,none,none,none,none,none] ((q_ rows).map λi:Nat=>D.int i)=some (places rows):=by
  have:=jn (g:=zo 10) (e:=QX) (σ:=[some (false,.lst rows),some (false,.int cell),some (false,.int (cell/4%999)),none,none,none,none,none,none,none,none]) (λd=>match d with|.int i=>p5 (rows.getD i.toNat .zE)|d=>d) (ds:=(q_ rows).map λi:Nat=>D.int i) λd hd=>by
   obtain⟨i,hi,rfl⟩:=xQ.mp hd;obtain⟨h1,h2⟩:=OD hi;have eg:rows.getD i .zE=rows[i]:=by rw[vH,yS h1]; rfl
   have ex:zQ (.lst rows) (.int (i:Int))=some rows[i]:=pS (by omega) (by rw[xU]; exact yS h1);rw[eg]at h2;refine⟨_,rfl,?_⟩;show _=some (p5 (rows.getD ((i:Int)).toNat .zE));rw[xU,eg];rcases hr _ (uj h1)with h|h
   ·obtain⟨_,_,_,_,c,_⟩:=j4 h;rw[c]at h2;cases h2
   ·obtain⟨w,p,_,_,_,_,_,q1,q2,_⟩:=qS h;rw[q2];unfold QX;simp![ex,q1]
  rw[this,vA];rfl
 have e2:EH [some (false,.lst rows),some (false,.int cell),some (false,.int (cell/4%999)),some (false,.lst (places rows)),some (true,.dic [] []),some (true,.lst []),some (false,.int 0),none,none,none]=some (w4 (rows.length+1)):=by
  have:=g7 (f:=e2 yo (eL xo (zA (z7 0) zG)) (eC (.int 1))) (τ:=[some (false,.lst rows),some (false,.int cell),some (false,.int (cell/4%999)),some (false,.lst (places rows)),some (true,.dic [] []),some (true,.lst []),some (false,.int 0),none,none,none]) (n:=(rows.length:Int)+1) rfl (by omega);rw[show((rows.length:Int)+1).toNat=rows.length+1 by omega]at this;exact this
 obtain⟨σ',e3,ks,vs,L,c,x7,x8,I,rfl⟩:=uz (g:=zo 7) (b:=Te) (λi σ=>∃ks vs L c x7 x8,Inv rows (cell/4%999) i ks vs L c/\σ=[some (false,.lst rows),some (false,.int cell),some (false,.int (cell/4%999)),some (false,.lst (places rows)),some (true,.dic ks vs),some (true,.lst L),some (false,.int c),x7,x8,none]) (ds:=w4 (rows.length+1))
  (σ:=[some (false,.lst rows),some (false,.int cell),some (false,.int (cell/4%999)),some (false,.lst (places rows)),some (true,.dic [] []),some (true,.lst []),some (false,.int 0),none,none,none]) 0
  ⟨[],[],[],0,none,none,⟨rfl,zr _,zr _,by decide,by decide,(λq q0 q1=>by omega),rfl,(λ_ h=>by cases h)⟩,rfl⟩ (by
  rintro i v σ hv ⟨ks,vs,L,c,x7,x8,I,rfl⟩;obtain⟨hi,rfl⟩:=Ye hv;rw[xw]at I ⊢;obtain⟨ks',vs',L',c',y8,I',e⟩:=Pf (cell:=cell) (sh:=cell/4%999) hr hl (by omega) (by omega) I (x8:=x8) (x9:=none);exact⟨_,_,rfl,.inl e,ks',vs',L',c',_,y8,I',rfl⟩)
 rw[QO,xw]at I;obtain⟨hk,k1,l1,c0,c1,nm,fl,el⟩:=I
 obtain⟨zF,e4,ea⟩:=Dl (g:=zo 10) (e:=Z4) (σ:=[some (false,.lst rows),some (false,.int cell),some (false,.int (cell/4%999)),some (false,.lst (places rows)),some (false,.dic ks vs),some (false,.lst L),some (false,.int c),x7,x8,some (false,.tup [.str "jump",.str "when",.str "unless"]),none]) (uR L) (ds:=L) λd hd=>by
  have pr:∀d,uT d->∃σ1 x,zo 10 d [some (false,.lst rows),some (false,.int cell),some (false,.int (cell/4%999)),some (false,.lst (places rows)),some (false,.dic ks vs),some (false,.lst L),some (false,.int c),x7,x8,some (false,.tup [.str "jump",.str "when",.str "unless"]),none]=some σ1/\Z4 σ1=some x/\uR L d x:=λd h=>by
   obtain⟨w,a,b,_,jf,_⟩:=j4 h;unfold YD at b;refine⟨_,d,rfl,?_,.plain h,rfl,⟨λ_=>rfl,λz=>by rw[jf]at z; cases z⟩,rfl,λz=>by rw[jf]at z; cases z⟩;unfold Z4;simp![a,b]
  rcases el d hd with⟨t,rfl⟩|hd
  ·have a:zQ (we t) (.int 0)=some (.str "label"):=rfl;have b:xY (.str "label") (.tup [.str "jump",.str "when",.str "unless"])=some (.bl false):=rfl;refine⟨_,we t,rfl,?_,.label t,rfl,⟨λ_=>rfl,λz=>by cases z⟩,rfl,λz=>by cases z⟩;unfold Z4;simp![a,b]
  ·obtain⟨i,hi,rfl⟩:=Yp hd;rcases hr _ (uj hi)with h|h
   ·exact pr _ h
   ·obtain⟨w,p,a,b,_,j,_,q1,q2,p0,p1⟩:=qS h;obtain⟨kn,kn0,kn1,et,ep⟩:=nm p p0 (by omega) (PC hi j q2);generalize uc (cell/4%999) kn=t at et ep;have eg:zQ (.dic ks vs) (.int p)=some (.str t):=et;have hp:p5 rows[i]=.int ((p.toNat:Nat):Int):=by rw[q2,show((p.toNat:Nat):Int)=p by omega]
    unfold YD at b;generalize rows[i]=r at h a j q1 q2 hp;cases h with
    |qH p0 p1=>
     rename_i p';cases a;have sl:pW (z7 10) vc (vd (e1 va (eC (.int 1)))) [some (false,.lst rows),some (false,.int cell),some (false,.int (cell/4%999)),some (false,.lst (places rows)),some (false,.dic ks vs),some (false,.lst L),some (false,.int c),x7,x8,some (false,.tup [.str "jump",.str "when",.str "unless"]),some (false,.tup [.str "jump",.int p'])]=some (.tup [.str "jump"]):=rfl;have ad:yo (.tup [.str "jump"]) (.tup [.str t])=some (.tup [.str "jump",.str t]):=rfl;refine⟨_,_,rfl,?_,.qH t,rfl,⟨(λz=>by cases z),λ_=>⟨[.str "jump"],_,t,rfl,rfl⟩⟩,rfl,λ_=>⟨t,p.toNat,rfl,ep,hp⟩⟩;unfold Z4;simp![qy,b,sl,q1,eg,ad]
    |cond hw hk p0 p1=>
     rename_i w' k' p';cases a;have sl:pW (z7 10) vc (vd (e1 va (eC (.int 1)))) [some (false,.lst rows),some (false,.int cell),some (false,.int (cell/4%999)),some (false,.lst (places rows)),some (false,.dic ks vs),some (false,.lst L),some (false,.int c),x7,x8,some (false,.tup [.str "jump",.str "when",.str "unless"]),some (false,.tup [.str w,.str k',.int p'])]=some (.tup [.str w,.str k']):=rfl;have ad:yo (.tup [.str w,.str k']) (.tup [.str t])=some (.tup [.str w,.str k',.str t]):=rfl;refine⟨_,.tup [.str w,.str k',.str t],rfl,?_,.cond t hw hk,?_,⟨λz=>?_,λ_=>⟨[.str w,.str k'],_,t,rfl,rfl⟩⟩,?_,λ_=>⟨t,p.toNat,rfl,ep,hp⟩⟩
     ·unfold Z4;simp![qy,b,sl,q1,eg,ad]
     ·rcases hw with rfl|rfl<;>rfl
     ·rcases hw with rfl|rfl<;>cases z
     ·rcases hw with rfl|rfl<;>rfl
 have f1:=DA ea;have f3:=Uz ea;have f4:∀t,wW t zF=wW t L:=λt=>DB t _ ea
 rw[fl,MR (by omega)]at f1;refine⟨zF,?_,λd hd=>?_,Bn (λx y h=>⟨h.1,h.2.1,h.2.2.1,h.2.2.2.1,λz=>?_⟩) f1,by omega⟩
 rotate_left
 ·obtain⟨x,_,h⟩:=Bp ea d hd;exact h.1
 ·obtain⟨t,p,a,b,c⟩:=h.2.2.2.2 z;exact⟨t,p,a,by rw[f4]; exact b,c⟩
 rw[NV];unfold UT;simp![hj,q9,e2,e3,e4]
def pU:FS:=
 (zL (zh 3 (e2 y_ (z7 2) (eC (.int 8))))
  (zL (zh 4 (e2 yo (z7 0) (e2 zQ (wA (zA (eC (.int 14)) (zA (eC (.int 15)) (zA (eC (.int 16)) (zA (eC (.int 13)) (zA (e1 va (eC (.int 15))) (zA (e1 va (eC (.int 16))) (zA (e1 va (eC (.int 17))) (zA (e1 va (eC (.int 14))) zG))))))))) (e2 y_ (e2 wS (z7 2) (eC (.int 8))) (eC (.int 8))))))
  (zL (yO (Yc (tE (e2 (xi λi j=>decide (i<j)) (z7 3) (eC (.int 4)))) (tE (XL (xi λi j=>decide (i<=j)) (xi λi j=>decide (i<=j)) (eC (.int 0)) (z7 4) (z7 1))))
   (yD (z7 4))
   ym)
  (zL (yO (tE (e2 (xi λi j=>decide (i<j)) (z7 3) (eC (.int 6))))
   (yD (e2 y_ (e2 wS (z7 2) (eC (.int 64))) (e2 yo (z7 1) (eC (.int 1)))))
   ym)
  (yD (eL T3 (zA (eC (.int 0)) (zA (eL T4 (zA (z7 1) (zA (e2 uX (e2 yo (z7 0) (e2 y_ (e2 wS (z7 2) (eC (.int 64))) (eC (.int 7)))) (eC (.int 3))) zG))) zG))))))))
def ge:List D->Option (Bool×D):=FR 3 5 pU
theorem cK:∀ds r,ge ds=some r->ds.length=3/\zc 5 pU ds=some r:=yX
theorem Zw(x0 x1 x2:D):ge [x0,x1,x2]=zc 5 pU [x0,x1,x2]:=rfl
def EL:FA:=(qR (eC (.int 0)) (z7 1))
def Xc:FS:=(zL (zh 5 (zd qK (zA (z7 0) (zA (e2 yo (eC (.int 3)) (z7 4)) zG))))
    (zL (yO (tE (e2 (xi λi j=>decide (i<j)) (eL xo (zA (z7 0) zG)) (e2 yo (eC (.int 4)) (z7 4))))
     (zh 5 (zd v3 (zA (zd qK (zA (z7 0) (zA (eC (.int 2)) zG))) (zA (z7 4) zG))))
     ym)
    (yO (tE (e2 (xi λi j=>decide (i<j)) (e2 y_ (zd v3 (zA (z7 5) (zA (eC (.int 1)) zG))) (eC (.int 8))) (z7 2)))
     (zL (zh 6 (zd ge (zA (z7 4) (zA (z7 1) (zA (zd v3 (zA (z7 5) (zA (eC (.int 2)) zG))) zG)))))
      (zL (zh 7 (e2 zQ (wA (zA (eC (.str "jump")) (zA (eC (.str "when")) (zA (eC (.str "unless")) zG)))) (e2 y_ (zd v3 (zA (z7 5) (zA (eC (.int 3)) zG))) (eC (.int 3)))))
      (yO (tE (e2 yP (z7 7) (eC (.str "jump"))))
       (xt 3 xh (xO (zA (z7 7) (zA (z7 6) zG))))
       (xt 3 xh (xO (zA (z7 7) (zA (e2 zQ (wA (zA (eC (.str "carry")) (zA (eC (.str "nought")) (zA (eC (.str "sign")) zG)))) (e2 y_ (zd v3 (zA (z7 5) (zA (eC (.int 4)) zG))) (eC (.int 3)))) (zA (z7 6) zG))))))))
     (xt 3 xh (zd gg (zA (zd v3 (zA (z7 5) (zA (eC (.int 5)) zG))) zG))))))
def UZ:FS:=
 (zL (uE 3 (wA zG))
  (zL (vf EL (zo 4)
   Xc)
  (p9 3)))
def Zc:List D->Option (Bool×D):=FR 3 8 UZ
theorem cP:∀ds r,Zc ds=some r->ds.length=3/\zc 8 UZ ds=some r:=yX
theorem Na(x0 x1 x2:D):Zc [x0,x1,x2]=zc 8 UZ [x0,x1,x2]:=rfl
def gu:FS:=
 (zL (zh 1 (e2 y_ (z7 0) (eC (.int 24))))
  (zL (yO (tE (e2 yP (e2 y_ (e2 wS (z7 0) (eC (.int 24))) (eC (.int 4))) (eC (.int 1))))
   (zh 1 (e2 yo (eC (.int 16)) (e2 y_ (e2 wS (z7 0) (eC (.int 96))) (eC (.int 24)))))
   ym)
  (zL (yO (tE (e2 yP (e2 y_ (e2 wS (z7 0) (eC (.int 24))) (eC (.int 8))) (eC (.int 3))))
   (zh 1 (e2 yo (eC (.int 30)) (e2 y_ (e2 wS (z7 0) (eC (.int 192))) (eC (.int 31)))))
   ym)
  (yD (z7 1)))))
def ZZ:List D->Option (Bool×D):=FR 1 2 gu
theorem cG:∀ds r,ZZ ds=some r->ds.length=1/\zc 2 gu ds=some r:=yX
theorem T8(x0:D):ZZ [x0]=zc 2 gu [x0]:=rfl
def US:FS:=
 (zL (zh 1 (zd ZZ (zA (zd qK (zA (z7 0) (zA (eC (.int 0)) zG))) zG)))
  (zL (zh 2 (e2 zQ (wA (λ_=>some (List.map D.int [4,2,6,8]))) (e2 y_ (zd qK (zA (z7 0) (zA (eC (.int 1)) zG))) (eC (.int 4)))))
  (zL (zh 3 (zd Zc (zA (z7 0) (zA (z7 1) (zA (z7 2) zG)))))
  (yD (xO (zA (z7 3) (zA (zd ZY (zA (z7 3) (zA (e2 wS (zd qK (zA (z7 0) (zA (eC (.int 1)) zG))) (eC (.int 4))) zG))) zG)))))))
def ZX:List D->Option (Bool×D):=FR 1 4 US
theorem cC:∀ds r,ZX ds=some r->ds.length=1/\zc 4 US ds=some r:=yX
theorem NU(x0:D):ZX [x0]=zc 4 US [x0]:=rfl
theorem aP{n m c:Int}(n0:0<=n)(m0:0<=m):∃p:Int,0<=p/\p<=m/\ge [.int n,.int m,.int c]=some (false,.int p):=by
 obtain⟨z,e⟩:∃z:Int,zQ (.lst [.int 14,.int 15,.int 16,.int 13,.int (-15),.int (-16),.int (-17),.int (-14)]) (.int (c/8%8))=some (.int z):=by
  rcases(show c/8%8=0\/c/8%8=1\/c/8%8=2\/c/8%8=3\/c/8%8=4\/c/8%8=5\/c/8%8=6\/c/8%8=7 by omega)with h|h|h|h|h|h|h|h<;>rw[h]<;>exact⟨_,rfl⟩
 have hm:decide (0<m+1)=true:=yh (by omega);have q0:=Int.emod_nonneg (c/64) (show m+1≠0 by omega);have q1:=Gj (c/64) (show 0<m+1 by omega)
 have hch:XL (xi λi j=>decide (i<=j)) (xi λi j=>decide (i<=j)) (eC (.int 0)) (z7 4) (z7 1) [some (false,.int n),some (false,.int m),some (false,.int c),some (false,.int (c%8)),some (false,.int (n+z))]=some (.bl (decide (0<=n+z)&&decide (n+z<=m))):=by
  by_cases g0:0<=n+z
  ·simp![XL,yh g0,Z7]
  ·simp![XL,ye g0,gI]
 have hg:(decide (0<=n+z)&&decide (n+z<=m))=true->0<=n+z/\n+z<=m:=λh=>by
  rw[xP]at h;exact⟨w_ h.1,w_ h.2⟩
 generalize (decide (0<=n+z)&&decide (n+z<=m))=bc at hch hg;cases h4:decide (c%8<4)<;>cases bc
 ·by_cases h6:c%8<6
  ·refine⟨_,q0,by omega,?_⟩;rw[Zw];unfold pU;simp![e,add_int,h4,hch,yh h6,hm]
  ·refine⟨if(if n+c/64%7-3<m then n+c/64%7-3 else m)>0 then(if n+c/64%7-3<m then n+c/64%7-3 else m)else 0,?_,?_,?_⟩
   ·split<;>omega
   ·split
    ·split<;>omega
    ·omega
   ·rw[Zw];unfold pU;simp![e,add_int,h4,hch,ye h6,T4,T3]
 ·by_cases h6:c%8<6
  ·refine⟨_,q0,by omega,?_⟩;rw[Zw];unfold pU;simp![e,add_int,h4,hch,yh h6,hm]
  ·refine⟨if(if n+c/64%7-3<m then n+c/64%7-3 else m)>0 then(if n+c/64%7-3<m then n+c/64%7-3 else m)else 0,?_,?_,?_⟩
   ·split<;>omega
   ·split
    ·split<;>omega
    ·omega
   ·rw[Zw];unfold pU;simp![e,add_int,h4,hch,ye h6,T4,T3]
 ·have h6:c%8<6:=by have:=w_ h4; omega
  refine⟨_,q0,by omega,?_⟩;rw[Zw];unfold pU;simp![e,add_int,h4,hch,yh h6,hm]
 ·obtain⟨g0,g1⟩:=hg rfl;refine⟨n+z,g0,g1,?_⟩;rw[Zw];unfold pU;simp![e,add_int,h4,hch]
theorem bZ{s:D}{ns:List Int}{m dn i:Int}{L:List D}{x5 x6 x7:Option Sl}(hs:s=.lst (ns.map D.int))(i0:0<=i)(m0:0<=m)(hl:L.length<=1000) :
  ∃r,v6 m r/\∃y5 y6 y7,Xc [some (false,s),some (false,.int m),some (false,.int dn),some (true,.lst L),some (false,.int i),x5,x6,x7]=some (.nx [some (false,s),some (false,.int m),some (false,.int dn),some (true,.lst (L++[r])),some (false,.int i),y5,y6,y7]):=by
 have hap:∀r,xh (.lst L) r=some (.lst (L++[r])):=λr=>by
  show(if L.length<yn then _ else _)=_;rw[zN (by show _<16777216; omega)]
 have hc:=Uv ns (k:=3+i) (by omega);have hc2:=Uv ns (k:=2) (by decide);have hln:xo [s]=some (.int (ns.length:Int)):=by rw[hs]; show some (D.int ((ns.map D.int).length:Nat))=_; rw[zx]
 rw[<-hs]at hc hc2
 have go:∀ c:Int,∃ r,v6 m r∧∃ y5 y6 y7,yO (tE (e2 (xi fun i j=>decide (i<j)) (e2 y_ (zd v3 (zA (z7 5) (zA (eC (.int 1)) zG))) (eC (.int 8))) (z7 2)))
     (zL (zh 6 (zd ge (zA (z7 4) (zA (z7 1) (zA (zd v3 (zA (z7 5) (zA (eC (.int 2)) zG))) zG)))))
      (zL (zh 7 (e2 zQ (wA (zA (eC (.str "jump")) (zA (eC (.str "when")) (zA (eC (.str "unless")) zG)))) (e2 y_ (zd v3 (zA (z7 5) (zA (eC (.int 3)) zG))) (eC (.int 3)))))
      (yO (tE (e2 yP (z7 7) (eC (.str "jump"))))
       (xt 3 xh (xO (zA (z7 7) (zA (z7 6) zG))))
       (xt 3 xh (xO (zA (z7 7) (zA (e2 zQ (wA (zA (eC (.str "carry")) (zA (eC (.str "nought")) (zA (eC (.str "sign")) zG)))) (e2 y_ (zd v3 (zA (z7 5) (zA (eC (.int 4)) zG))) (eC (.int 3)))) (zA (z7 6) zG))))))))
     (xt 3 xh (zd gg (zA (zd v3 (zA (z7 5) (zA (eC (.int 5)) zG))) zG))) [some (false,s),some (false,.int m),some (false,.int dn),some (true,.lst L),some (false,.int i),some (false,.int c),x6,x7]=some (.nx [some (false,s),some (false,.int m),some (false,.int dn),some (true,.lst (L++[r])),some (false,.int i),y5,y6,y7]):=λc=>by
  have m1:=jt c 1;have m2:=jt c 2;have m3:=jt c 3;have m4:=jt c 4;have m5:=jt c 5;cases hd:decide (wT c 1%8<dn)with
  |false=>
   obtain⟨r,er,pr⟩:=bX (wT c 5);refine⟨r,.inl pr,some (false,.int c),x6,x7,?_⟩;simp![m1,hd,m5,er,hap]
  |true=>
   obtain⟨p,p0,p1,ep⟩:=aP (c:=wT c 2) i0 m0
   obtain⟨w,hw,ew⟩:∃w:Str,(w = "jump" \/ w = "when" \/ w = "unless")/\zQ (.lst [.str "jump",.str "when",.str "unless"]) (.int (wT c 3%3))=some (.str w):=by
    rcases(show wT c 3%3=0\/wT c 3%3=1\/wT c 3%3=2 by omega)with h|h|h<;>rw[h]
    ·exact⟨"jump",by simp,rfl⟩
    ·exact⟨"when",by simp,rfl⟩
    ·exact⟨"unless",by simp,rfl⟩
   obtain⟨k,hk,ek⟩:∃w:Str,(w = "carry" \/ w = "nought" \/ w = "sign")/\zQ (.lst [.str "carry",.str "nought",.str "sign"]) (.int (wT c 4%3))=some (.str w):=by
    rcases(show wT c 4%3=0\/wT c 4%3=1\/wT c 4%3=2 by omega)with h|h|h<;>rw[h]
    ·exact⟨"carry",by simp,rfl⟩
    ·exact⟨"nought",by simp,rfl⟩
    ·exact⟨"sign",by simp,rfl⟩
   rcases hw with rfl|hw
   ·have q:yP (.str "jump") (.str "jump")=some (.bl true):=by rfl
    refine⟨_,.inr (.qH p0 p1),some (false,.int c),some (false,.int p),some (false,.str "jump"),?_⟩;simp![m1,m2,m3,hd,ep,ew,q,hap]
   ·have q:yP (.str w) (.str "jump")=some (.bl false):=by rcases hw with rfl|rfl<;>rfl
    refine⟨_,.inr (.cond hw hk p0 p1),some (false,.int c),some (false,.int p),some (false,.str w),?_⟩;simp![m1,m2,m3,m4,hd,ep,ew,ek,q,hap]
 cases hd:decide ((ns.length:Int)<4+i)with
 |false=>
  obtain⟨r,hr,y5,y6,y7,e⟩:=go (tX ns (3+i));refine⟨r,hr,y5,y6,y7,?_⟩;unfold Xc;rw[uF (σ':=[some (false,s),some (false,.int m),some (false,.int dn),some (true,.lst L),some (false,.int i),some (false,.int (tX ns (3+i))),x6,x7]) (by simp![add_int,hc])];rw[uF (σ':=[some (false,s),some (false,.int m),some (false,.int dn),some (true,.lst L),some (false,.int i),some (false,.int (tX ns (3+i))),x6,x7]) (by rw[hs]; simp![add_int,zx,hd])];exact e
 |true=>
  obtain⟨r,hr,y5,y6,y7,e⟩:=go (wT (tX ns 2) i);refine⟨r,hr,y5,y6,y7,?_⟩;have mm:=jt (tX ns 2) i;unfold Xc;rw[uF (σ':=[some (false,s),some (false,.int m),some (false,.int dn),some (true,.lst L),some (false,.int i),some (false,.int (tX ns (3+i))),x6,x7]) (by simp![add_int,hc])];rw[uF (σ':=[some (false,s),some (false,.int m),some (false,.int dn),some (true,.lst L),some (false,.int i),some (false,.int (wT (tX ns 2) i)),x6,x7]) (by rw[hs]at hc2 ⊢; simp![add_int,zx,hd,hc2,mm])];exact e
theorem bY{ns:List Int}{m dn:Int}(m0:0<=m)(m1:m<=100):∃rows:List D,rows.length=m.toNat/\(∀r∈rows,v6 m r)/\Zc [.lst (ns.map D.int),.int m,.int dn]=some (true,.lst rows):=by
 obtain⟨s,hs⟩:∃s:D,s=.lst (ns.map D.int):=⟨_,rfl⟩;rw[<-hs];have hr:EL [some (false,s),some (false,.int m),some (false,.int dn),some (true,.lst []),none,none,none,none]=some (w4 m.toNat):=g7 (n:=m) rfl (by omega)
 obtain⟨σ',e,L,x4,x5,x6,x7,hl,hL,rfl⟩:=uz (g:=zo 4) (b:=Xc) (λi σ=>∃L x4 x5 x6 x7,L.length=i/\(∀r∈L,v6 m r)/\σ=[some (false,s),some (false,.int m),some (false,.int dn),some (true,.lst L),x4,x5,x6,x7]) (ds:=w4 m.toNat)
  (σ:=[some (false,s),some (false,.int m),some (false,.int dn),some (true,.lst []),none,none,none,none]) 0 ⟨[],none,none,none,none,rfl,(λ_ h=>by cases h),rfl⟩ (by
  rintro i v σ hv ⟨L,x4,x5,x6,x7,hl,hL,rfl⟩;obtain⟨hi,rfl⟩:=Ye hv;obtain⟨r,hr,y5,y6,y7,e⟩:=bZ (s:=s) (ns:=ns) (m:=m) (dn:=dn) (i:=(i:Int)) (L:=L) (x5:=x5) (x6:=x6) (x7:=x7) hs (by omega) m0 (by omega);refine⟨_,_,rfl,.inl e,L++[r],_,y5,y6,y7,by rw[yj,hl]; rfl,?_,rfl⟩;intro x hx;rcases uI.mp hx with hx|hx
  ·exact hL x hx
  ·cases vB.mp hx;exact hr)
 rw[QO,xw]at hl;refine⟨L,hl,hL,?_⟩;rw[Na];unfold UZ;simp![hr,e]
theorem RN(c:Int):∃m:Int,0<=m/\m<=60/\ZZ [.int c]=some (false,.int m):=by
 have b1:∀x:Int,(∃k,yP (.int (c/24%4)) (.int 1)=some (.bl k)):=λ_=>⟨_,rfl⟩
 obtain⟨k1,e1⟩:∃k,yP (.int (c/24%4)) (.int 1)=some (.bl k):=⟨_,rfl⟩;obtain⟨k2,e2⟩:∃k,yP (.int (c/24%8)) (.int 3)=some (.bl k):=⟨_,rfl⟩;cases k1<;>cases k2
 ·refine⟨c%24,by omega,by omega,?_⟩;rw[T8];unfold gu;simp![e1,e2,add_int]
 ·refine⟨30+c/192%31,by omega,by omega,?_⟩;rw[T8];unfold gu;simp![e1,e2,add_int]
 ·refine⟨16+c/96%24,by omega,by omega,?_⟩;rw[T8];unfold gu;simp![e1,e2,add_int]
 ·refine⟨30+c/192%31,by omega,by omega,?_⟩;rw[T8];unfold gu;simp![e1,e2,add_int]
theorem K9(ns:List Int):∃rows zF:List D,rows.length<=60/\(∀r∈rows,v6 (rows.length:Int) r)/\(∀d∈zF,wq d)/\wo (uR zF) rows (zF.filter λd=>!yc d)/\zF.length<=1000/\ZX [.lst (ns.map D.int)]=some (false,.tup [.lst rows,.lst zF]):=by
 have hc0:=Uv ns (k:=0) (by decide);have hc1:=Uv ns (k:=1) (by decide);obtain⟨m,m0,m1,em⟩:=RN (tX ns 0);obtain⟨dn,_,ed⟩:=Ow (a:=4) (b:=2) (c:=6) (d:=8) (i:=tX ns 1%4) (by omega) (by omega);obtain⟨rows,hl,hr,er⟩:=bY (ns:=ns) (m:=m) (dn:=dn) m0 (by omega);have hr':∀r∈rows,v6 (rows.length:Int) r:=by rw[hl,show((m.toNat:Nat):Int)=m by omega]; exact hr
 obtain⟨zF,ei,h1,h2,h3⟩:=Pd (cell:=tX ns 1/4) hr' (by omega);refine⟨rows,zF,by omega,hr',h1,h2,h3,?_⟩;generalize D.lst (ns.map D.int)=s at hc0 hc1 er ⊢;rw[NU];unfold US;simp![hc0,em,hc1,ed,er,ei]
def UO:FS:=
 (yD (e2 yP (e2 zQ (z7 0) (eC (.int 0))) (eC (.str "label"))))
def jO:List D->Option (Bool×D):=FR 1 1 UO
theorem bv:∀ds r,jO ds=some r->ds.length=1/\zc 1 UO ds=some r:=yX
theorem NQ(x0:D):jO [x0]=zc 1 UO [x0]:=rfl
def GZ:FE:=(z7 1)
def Ls:FT:=(jA (tE (zd jO (zA (z7 1) zG))))
def Ui:FS:=
 (qC (xm 1 (vo (z7 0)) (zo 1) Ls GZ))
def uQ:List D->Option (Bool×D):=FR 1 1 Ui
theorem cZ:∀ds r,uQ ds=some r->ds.length=1/\zc 1 Ui ds=some r:=yX
theorem Nk(x0:D):uQ [x0]=zc 1 Ui [x0]:=rfl
theorem DY{d:D}(h:wq d):jO [d]=some (false,.bl (yc d)):=by
 obtain⟨w,a,b,_⟩:=Pb h;rw[NQ];unfold UO;simp![a,b]
theorem LI{zF:List D}(h:∀d∈zF,wq d):uQ [.lst zF]=some (true,.lst (zF.filter λd=>!yc d)):=by
 have e:=kO (g:=zo 1) (c:=Ls) (e:=GZ) (σ:=[some (false,.lst zF),none]) (λd=>!yc d) id (ds:=zF) λd hd=>by
  have hf:=DY (h d hd);refine⟨_,rfl,?_,λ_=>rfl⟩;unfold Ls;simp![hf]
 rw[ZB]at e;rw[Nk];unfold Ui;simp![e]
def Lk:FE:=(xO (zA (z7 6) (zA (eC (.bl true)) zG)))
def EG:FA:=(qR (eC (.int 0)) (eL xo (zA (zd uQ (zA (z7 0) zG)) zG)))
def OL:FS:=(zL (xt 4 xh (z7 5))
    (zh 5 (e2 (tY λi j=>i+j) (z7 5) (u9 (tE (e2 xY (z7 3) (z7 2))) (eC (.int 2)) (eC (.int 1))))))
def UG:FS:=
 (zL (zh 2 (eL jg (zA (xm 1 (vo (z7 1)) (zo 6) xB Lk) zG)))
  (zL (uE 4 (wA zG))
  (zL (zh 5 (eC (.int 0)))
  (zL (vf EG (zo 3)
   OL)
  (zL (xt 4 xh (z7 5))
  (p9 4))))))
def ZQ:List D->Option (Bool×D):=FR 2 6 UG
theorem ba:∀ds r,ZQ ds=some r->ds.length=2/\zc 6 UG ds=some r:=yX
theorem NF(x0 x1:D):ZQ [x0,x1]=zc 6 UG [x0,x1]:=rfl
def xC(f:Nat->Bool):Nat->Int
 |0=>0
 |n+1=>xC f n+(if f n then 2 else 1)
def uW(f:Nat->Bool)(n:Nat):List D:=(List.range n).map λi=>D.int (xC f i)
theorem B5(f:Nat->Bool)(n:Nat):uW f (n+1)=uW f n++[.int (xC f n)]:=by
 unfold uW;rw[Qt,gP];rfl
theorem B4(f:Nat->Bool)(n:Nat):(uW f n).length=n:=by simp[uW]
def zt(zB:List Nat):List D:=zB.map λi:Nat=>D.int i
def zZ(zB:List Nat)(n:Nat):Bool:=(zt zB).any λy=>yM y (.int (n:Int))
theorem OI:∀zB:List Nat,qU (zB.map λi:Nat=>D.tup [.int i,.bl true])=some (zB.map λi:Nat=>Sum.inl (i:Int),zB.map λ_=>D.bl true)
 | []=>rfl
 |a::zB=>by
  show(qT (.int (a:Int))).bind _=_;show(qU (zB.map λi:Nat=>D.tup [.int i,.bl true])).bind _=_;rw[OI zB];rfl
theorem O5(n:Nat):∀zB:List Nat,yb (zB.map λi:Nat=>Sum.inl (i:Int)) (.inl (n:Int))=zZ zB n
 | []=>rfl
 |a::zB=>by
  show(decide ((Sum.inl (a:Int):Sum Int Str)=.inl (n:Int))||yb (zB.map λi:Nat=>Sum.inl (i:Int)) (.inl (n:Int)))=(yM (.int (a:Int)) (.int (n:Int))||zZ zB n);rw[O5 n zB];have:yM (.int (a:Int)) (.int (n:Int))=((a:Int)==(n:Int)):=by unfold yM; rfl
  rw[this]
  congr 1
  by_cases h:(a:Int)=(n:Int)
  ·rw[yh (by rw[h]),h,pH]
  ·rw[ye (λe=>h (pG e)),gS.mpr h]
theorem Hg{zF:List D}(h:∀d∈zF,wq d){zB:List Nat}{n:Nat}(hn:(zF.filter λd=>!yc d).length=n)(h1:n<=900):ZQ [.lst zF,.lst (zt zB)]=some (true,.lst (uW (zZ zB) (n+1))):=by
 have hr:=LI h
 have e1:xI (zo 6) xB Lk [some (false,.lst zF),some (false,.lst (zt zB)),none,none,none,none,none] (zt zB)=some (zB.map λi:Nat=>D.tup [.int i,.bl true]):=by
  have:=jn (g:=zo 6) (e:=Lk) (σ:=[some (false,.lst zF),some (false,.lst (zt zB)),none,none,none,none,none]) (λd=>.tup [d,.bl true]) (ds:=zt zB) λd hd=>⟨_,rfl,rfl⟩
  rw[this];unfold zt;rw[vA];rfl
 obtain⟨K,V,e2,hK⟩:∃K V,jg [.lst (zB.map λi:Nat=>D.tup [.int i,.bl true])]=some (.dic K V)/\∀n:Nat,yb K (.inl (n:Int))=zZ zB n:=by
  refine⟨(xD [] [] (zB.map λi:Nat=>Sum.inl (i:Int)) (zB.map λ_=>D.bl true)).1,(xD [] [] (zB.map λi:Nat=>Sum.inl (i:Int)) (zB.map λ_=>D.bl true)).2,?_,λn=>?_⟩
  ·show(qU _).bind _=_;rw[OI];rfl
  ·rw[TN (by simp),O5];rfl
 have e3:EG [some (false,.lst zF),some (false,.lst (zt zB)),some (false,.dic K V),none,some (true,.lst []),some (false,.int 0)]=some (w4 n):=by
  have:=g7 (f:=eL xo (zA (zd uQ (zA (z7 0) zG)) zG)) (τ:=[some (false,.lst zF),some (false,.lst (zt zB)),some (false,.dic K V),none,some (true,.lst []),some (false,.int 0)]) (n:=(n:Int)) (by simp![hr,hn]) (by omega);exact this
 obtain⟨σ',e4,x3,rfl⟩:=uz (g:=zo 3) (b:=OL) (λi σ=>∃x3,σ=[some (false,.lst zF),some (false,.lst (zt zB)),some (false,.dic K V),x3,some (true,.lst (uW (zZ zB) i)),some (false,.int (xC (zZ zB) i))]) (ds:=w4 n)
  (σ:=[some (false,.lst zF),some (false,.lst (zt zB)),some (false,.dic K V),none,some (true,.lst []),some (false,.int 0)]) 0 ⟨none,rfl⟩ (by
  rintro i v σ hv ⟨x3,rfl⟩;obtain⟨hi,rfl⟩:=Ye hv;rw[xw]at *;have hap:=tV (L:=uW (zZ zB) i) (r:=.int (xC (zZ zB) i)) (by rw[B4]; omega)
  have hin:xY (.int (i:Int)) (.dic K V)=some (.bl (zZ zB i)):=by
   show(some (yb K (.inl (i:Int)))).bind _=_;rw[hK];rfl
  refine⟨_,[some (false,.lst zF),some (false,.lst (zt zB)),some (false,.dic K V),some (false,.int (i:Int)),some (true,.lst (uW (zZ zB) (i+1))),some (false,.int (xC (zZ zB) (i+1)))],rfl,.inl ?_,_,rfl⟩;rw[B5];show _=some (Fl.nx [_,_,_,_,_,some (false,.int (xC (zZ zB) i+(if zZ zB i then 2 else 1)))]);unfold OL;cases hf:zZ zB i<;>rw[hf]at hin<;>simp![hap,hin]<;>rfl)
 rw[QO,xw]at e4;have hap:=tV (L:=uW (zZ zB) n) (r:=.int (xC (zZ zB) n)) (by rw[B4]; omega);rw[B5];rw[NF];unfold UG;simp![e1,e2,e3,e4,hap]
def UN:FS:=
 (yD (e2 xY (e2 zQ (z7 0) (eC (.int 0))) (eC TB)))
def ZU:List D->Option (Bool×D):=FR 1 1 UN
theorem bu:∀ds r,ZU ds=some r->ds.length=1/\zc 1 UN ds=some r:=yX
theorem NP(x0:D):ZU [x0]=zc 1 UN [x0]:=rfl
def Tc:FS:=(yO (tE (zd jO (zA (z7 3) zG)))
     (p8 1 (e2 zQ (z7 3) (eC (.int 1))) (z7 2))
     (zh 2 (e2 (tY λi j=>i+j) (z7 2) (eC (.int 1)))))
def UQ:FS:=
 (zL (uE 1 (eC (.dic [] [])))
  (zL (zh 2 (eC (.int 0)))
  (zL (vf (vo (z7 0)) (zo 3)
   Tc)
  (p9 1))))
def gd:List D->Option (Bool×D):=FR 1 4 UQ
theorem b_:∀ds r,gd ds=some r->ds.length=1/\zc 4 UQ ds=some r:=yX
theorem NS(x0:D):gd [x0]=zc 4 UQ [x0]:=rfl
theorem Pa{d:D}(h:wq d):ZU [d]=some (false,.bl (yq d)):=by
 have:∃w,zQ d (.int 0)=some (.str w)/\xY (.str w) TB=some (.bl (yq d)):=by
  cases h with
  |label=>exact⟨_,rfl,rfl⟩
  |plain h=>
   obtain⟨w,a,b,_,c,_⟩:=j4 h;exact⟨w,a,by rw[c]; exact b⟩
  |qH=>exact⟨_,rfl,rfl⟩
  |cond t hw hk=>rcases hw with rfl|rfl<;>exact⟨_,rfl,rfl⟩
 obtain⟨w,a,b⟩:=this;rw[NP];unfold UN;simp![a,b]
theorem Pc{d:D}(h:wq d)(hl:yc d=true):∃t,d=we t:=by
 cases h with
 |label t=>exact⟨t,rfl⟩
 |plain h=>
  obtain⟨_,_,_,z,_⟩:=Tz (m:=0) (.inl h);rw[z]at hl;cases hl
 |qH=>cases hl
 |cond t hw hk=>rcases hw with rfl|rfl<;>cases hl
theorem RD{zF:List D}(h:∀d∈zF,wq d)(hl:zF.length<=1000):∃ks vs,gd [.lst zF]=some (true,.dic ks vs)/\ks.length=vs.length/\∀t,getK ks vs (.inr t)=((wW t zF).2).map λn:Nat=>D.int n:=by
 obtain⟨σ',e,ks,vs,x3,a1,a2,a3,rfl⟩:=uz (g:=zo 3) (b:=Tc) (λi σ=>∃ks vs x3,ks.length=vs.length/\ks.length<=i/\(∀t,getK ks vs (.inr t)=((wW t (zF.take i)).2).map λn:Nat=>D.int n)/\σ=[some (false,.lst zF),some (true,.dic ks vs),some (false,.int (((zF.take i).filter λd=>!yc d).length:Nat)),x3]) (ds:=zF)
  (σ:=[some (false,.lst zF),some (true,.dic [] []),some (false,.int 0),none]) 0 ⟨[],[],none,rfl,zr _,λt=>rfl,rfl⟩ (by
  rintro i v σ hv ⟨ks,vs,x3,a1,a2,a3,rfl⟩;rw[xw]at *;have hi:i<zF.length:=(xE.mp hv).1;have ev:zF[i]=v:=(xE.mp hv).2;have ht:zF.take (i+1)=zF.take i++[v]:=by rw[Gz hi,ev]
  have hI:=h v (tJ hv);have hf:=DY hI;generalize hn:((zF.take i).filter λd=>!yc d).length=n;cases hL:yc v with
  |true=>
   obtain⟨u,rfl⟩:=Pc hI hL;rw[hL]at hf;have i1:zQ (we u) (.int 1)=some (.str u):=rfl;have kd:qT (.str u)=some (.inr u):=rfl;have hlim:ks.length<yn:=by show _<16777216; omega
   have hn2:((zF.take (i+1)).filter λd=>!yc d).length=n:=by
    rw[ht,VI,yj,hn];rfl
   have hlk:(xr ks (.inr u)).length<=i+1:=by
    unfold xr
    split
    ·omega
    ·rw[yj]; show _+1<=_; omega
   refine⟨_,[some (false,.lst zF),some (true,.dic (xr ks (.inr u)) (xz ks vs (.inr u) (.int (n:Nat)))),some (false,.int (n:Nat)),some (false,we u)],rfl,.inl ?_,xr ks (.inr u),xz ks vs (.inr u) (.int (n:Nat)),_,kY a1,hlk,λt=>?_,by rw[hn2]⟩
   ·unfold Tc;simp![hf,p8,i1,kd,zN hlim]
   ·rw[IP a1,ht,Tt,hn,a3];by_cases e:u=t
    ·rw[zN (by rw[e]),zN e];rfl
    ·rw[zS (λz=>e (Qw z)),zS e]
  |false=>
   rw[hL]at hf
   have hn2:((zF.take (i+1)).filter λd=>!yc d).length=n+1:=by
    rw[ht,VI,yj,hn,gL (by rw[hL]; rfl)];rfl
   refine⟨_,[some (false,.lst zF),some (true,.dic ks vs),some (false,.int ((n:Nat)+1:Int)),some (false,v)],rfl,.inl ?_,ks,vs,_,a1,by omega,λt=>?_,by rw[hn2]; rfl⟩
   ·unfold Tc;simp![hf]
   ·rw[ht,Cl hL,a3])
 rw[xw,MQ]at a3;refine⟨ks,vs,?_,a1,a3⟩;rw[NS];unfold UQ;simp![e]
theorem RC{zF:List D}(h:∀d∈zF,wq d)(hl:zF.length<=1000):∃ks vs,gd [.lst zF]=some (true,.dic ks vs)/\∀t,getK ks vs (.inr t)=((wW t zF).2).map λn:Nat=>D.int n:=by
 obtain⟨ks,vs,a,_,b⟩:=RD h hl;exact⟨ks,vs,a,b⟩
def Lq:FE:=(u9 (tE (zd ZU (zA (z7 2) zG))) (e2 zQ (z7 1) (e2 zQ (z7 2) (e1 va (eC (.int 1))))) (eC .zE))
def Ul:FS:=
 (zL (zh 1 (zd gd (zA (z7 0) zG)))
  (qC (xm 1 (vo (zd uQ (zA (z7 0) zG))) (zo 2) xB Lq)))
def jR:List D->Option (Bool×D):=FR 1 2 Ul
theorem ce:∀ds r,jR ds=some r->ds.length=1/\zc 2 Ul ds=some r:=yX
theorem Nn(x0:D):jR [x0]=zc 2 Ul [x0]:=rfl
def UP:FS:=
 (yD (Ju (e2 qr (z7 0) (eC .zE)) (Uy (e2 (xi λi j=>decide (i<=j)) (e1 va (eC (.int 16))) (z7 0)) (e2 (xi λi j=>decide (i<=j)) (z7 0) (eC (.int 15))))))
def ZV:List D->Option (Bool×D):=FR 1 1 UP
theorem bw:∀ds r,ZV ds=some r->ds.length=1/\zc 1 UP ds=some r:=yX
theorem NR(x0:D):ZV [x0]=zc 1 UP [x0]:=rfl
def QW:FE:=(u9 (tE (e2 qr (z7 4) (eC .zE))) (eC .zE) (e2 uX (e2 zQ (z7 2) (z7 4)) (e2 zQ (z7 2) (z7 3))))
def UJ:FS:=
 (zL (zh 2 (qO ZQ (zA (z7 0) (zA (z7 1) zG))))
  (qC (xm 2 (tz (zd jR (zA (z7 0) zG))) (v8 3 4) xB QW)))
def jM:List D->Option (Bool×D):=FR 2 3 UJ
theorem bg:∀ds r,jM ds=some r->ds.length=2/\zc 3 UJ ds=some r:=yX
theorem NI(x0 x1:D):jM [x0,x1]=zc 3 UJ [x0,x1]:=rfl
def Lm:FE:=(xO (zA (z7 5) (zA (eC (.bl true)) zG)))
def EM:FA:=(qR (eC (.int 0)) (eL xo (zA (z7 2) zG)))
def Ln:FE:=(z7 5)
def V8:FT:=(tE (e2 XN (z7 5) (z7 3)))
def Lo:FE:=(z7 5)
def V9:FT:=(jA (tE (zd ZV (zA (e2 zQ (z7 2) (z7 5)) zG))))
def Ud:FS:=
 (zL (zh 2 (zd jM (zA (z7 0) (zA (z7 1) zG))))
  (zL (zh 3 (eL jg (zA (xm 1 (vo (z7 1)) (zo 5) xB Lm) zG)))
  (zL (zh 4 (xm 1 EM (zo 5) V8 Ln))
  (qC (xm 1 (vo (z7 4)) (zo 5) V9 Lo)))))
def pQ:List D->Option (Bool×D):=FR 2 5 Ud
theorem cT:∀ds r,pQ ds=some r->ds.length=2/\zc 5 Ud ds=some r:=yX
theorem Nf(x0 x1:D):pQ [x0,x1]=zc 5 Ud [x0,x1]:=rfl
def tgt(r:D):D:=match yq r with
 |true=>p5 r
 |false=>.zE
theorem Bo{R:D->D->Prop}{g:FG}{e:FE}{σ:yB}(v:D->D)(h:∀r y,R r y->∃σ1,g y σ=some σ1/\e σ1=some (v r)):∀{rs ys:List D},wo R rs ys->xI g xB e σ ys=some (rs.map v)
 |_,_,.nil=>rfl
 |r::rs,y::ys,.cons x xs=>by
  obtain⟨σ1,e1,e2⟩:=h r y x;show(g y σ).bind _=_;rw[e1];show(e σ1).bind _=_;rw[e2];show(xI g xB e σ ys).bind _=_;rw[Bo v h xs];rfl
theorem iD{rows zF:List D}(h:∀d∈zF,wq d)(hl:zF.length<=1000)(he:wo (uR zF) rows (zF.filter λd=>!yc d)):jR [.lst zF]=some (true,.lst (rows.map tgt)):=by
 obtain⟨ks,vs,e1,hk⟩:=RC h hl;have e2:=LI h
 have e3:=Bo (g:=zo 2) (e:=Lq) (σ:=[some (false,.lst zF),some (false,.dic ks vs),none]) tgt (λr y hf=>by
  have hj:=Pa hf.1;rw[hf.2.2.2.1]at hj;refine⟨_,rfl,?_⟩;unfold Lq tgt;cases z:yq r with
  |true=>
   rw[z]at hj;obtain⟨t,p,b1,b2,b3⟩:=hf.2.2.2.2 z
   have eg:zQ (.dic ks vs) (.str t)=some (.int (p:Int)):=by
    show getK ks vs (.inr t)=_;rw[hk,b2];rfl
   simp![hj,b1,eg,b3]
  |false=>
   rw[z]at hj;simp![hj]) he
 rw[Nn];unfold Ul;simp![e1,e2,e3]
theorem iK{m:Int}{r:D}(h:v6 m r):(yq r=false/\tgt r=.zE)\/(yq r=true/\∃p:Nat,(p:Int)<=m/\tgt r=.int (p:Int)/\p5 r=.int (p:Int)/\zQ r (.int (-1))=some (.int (p:Int))):=by
 rcases h with h|h
 ·obtain⟨_,_,_,_,c,_⟩:=j4 h;refine .inl ⟨c,?_⟩;unfold tgt;rw[c]
 ·obtain⟨w,p,_,_,_,c,_,q1,q2,p0,p1⟩:=qS h;have hp:((p.toNat:Nat):Int)=p:=by omega
  refine .inr ⟨c,p.toNat,by omega,?_,by rw[hp,q2],by rw[hp,q1]⟩;unfold tgt;rw[c,hp];exact q2
def dv(f:Nat->Bool)(d:D):D:=match d with
 |.tup [.int i,.int p]=>.int (xC f p.toNat-xC f i.toNat)
 |_=>.zE
theorem B3{f:Nat->Bool}{n p:Nat}(h:p<n):zQ (.lst (uW f n)) (.int (p:Int))=some (.int (xC f p)):=by
 refine pS (by omega) ?_;rw[xU];unfold uW;rw[xM,qc h];rfl
def xg(rows:List D)(f:Nat->Bool):List D:=(wV (rows.map tgt)).map (dv f)
theorem Bf{rows:List D}{f:Nat->Bool}{i:Nat}(h:i<rows.length):(xg rows f)[i]?=some (dv f (.tup [.int (i:Int),tgt rows[i]])):=by
 unfold xg;rw[xM,ju,xM,yS h];rfl
theorem Bg(rows:List D)(f:Nat->Bool):(xg rows f).length=rows.length:=by
 unfold xg;rw[zx,t_,zx]
theorem Be{rows zF:List D}(h:∀d∈zF,wq d)(hl:zF.length<=1000)(he:wo (uR zF) rows (zF.filter λd=>!yc d))(hr:∀r∈rows,v6 (rows.length:Int) r)(hn:rows.length<=900){zB:List Nat} :
  jM [.lst zF,.lst (zt zB)]=some (true,.lst (xg rows (zZ zB))):=by
 have e1:=Hg h (zB:=zB) (Uz he).symm hn;have e2:=iD h hl he
 have e3:xI (v8 3 4) xB QW [some (false,.lst zF),some (false,.lst (zt zB)),some (false,.lst (uW (zZ zB) (rows.length+1))),none,none] (wV (rows.map tgt))=some (xg rows (zZ zB)):=by
  refine jn (dv (zZ zB)) λd hd=>?_
  obtain⟨i,hi,ed⟩:=Yp hd;have hi':i<rows.length:=by rw[t_,zx]at hi; exact hi
  have hd2:(wV (rows.map tgt))[i]?=some d:=by rw[yS hi,ed]
  rw[ju,xM,yS hi']at hd2
  have hd3:d=.tup [.int (i:Int),tgt rows[i]]:=by
   injection hd2 with z
   exact z.symm
  subst hd3;have ai:=B3 (f:=zZ zB) (n:=rows.length+1) (p:=i) (by omega);refine⟨_,rfl,?_⟩;rcases iK (hr _ (uj hi'))with⟨_,z⟩|⟨_,p,p1,z,_⟩
  ·rw[z];unfold QW;simp![];rfl
  ·rw[z];have ap:=B3 (f:=zZ zB) (n:=rows.length+1) (p:=p) (by omega);unfold QW;simp![ap,ai];rfl
 have e4:∀σ:yB,zd jR (zA (z7 0) zG) σ=some (.lst (rows.map tgt))->tz (zd jR (zA (z7 0) zG)) σ=some (wV (rows.map tgt)):=λσ z=>by
  unfold tz;rw[z];rfl
 have e5:=e4 [some (false,.lst zF),some (false,.lst (zt zB)),some (false,.lst (uW (zZ zB) (rows.length+1)))] (by simp![e2]);rw[NI];unfold UJ;simp![e1,e5,e3]
def Ob:D->Bool
 |.zE=>true
 |.int x=>decide (-16<=x)&&decide (x<=15)
 |_=>false
theorem Rl{f:Nat->Bool}{d:D}:ZV [dv f d]=some (false,.bl (Ob (dv f d))):=by
 have:dv f d=.zE\/∃x,dv f d=.int x:=by
  unfold dv
  split
  ·exact .inr ⟨_,rfl⟩
  ·exact .inl rfl
 rcases this with z|⟨x,z⟩<;>rw[z,NR]<;>unfold UP
 ·simp![];rfl
 ·show _=some (false,D.bl (decide (-16<=x)&&decide (x<=15)));cases h1:decide (-16<=x)<;>simp![h1,Z7,gI]
def pT(rows:List D)(zB:List Nat)(i:Nat):Bool:=!Ob (dv (zZ zB) (.tup [.int (i:Int),tgt (rows.getD i .zE)]))
def gF(rows:List D)(zB:List Nat):List Nat:=((List.range rows.length).filter λi=>!zZ zB i).filter (pT rows zB)
theorem Bx(l:List Nat):zt l=l.map λi:Nat=>D.int i:=rfl
theorem Rv{rows zF:List D}(h:∀d∈zF,wq d)(hl:zF.length<=1000)(he:wo (uR zF) rows (zF.filter λd=>!yc d))(hr:∀r∈rows,v6 (rows.length:Int) r)(hn:rows.length<=900){zB:List Nat} :
  pQ [.lst zF,.lst (zt zB)]=some (true,.lst (zt (gF rows zB))):=by
 have e0:=Be h hl he hr hn (zB:=zB)
 have e1:xI (zo 5) xB Lm [some (false,.lst zF),some (false,.lst (zt zB)),some (false,.lst (xg rows (zZ zB))),none,none,none] (zt zB)=some (zB.map λi:Nat=>D.tup [.int i,.bl true]):=by
  have:=jn (g:=zo 5) (e:=Lm) (σ:=[some (false,.lst zF),some (false,.lst (zt zB)),some (false,.lst (xg rows (zZ zB))),none,none,none]) (λd=>.tup [d,.bl true]) (ds:=zt zB) λd hd=>⟨_,rfl,rfl⟩
  rw[this,Bx,vA];rfl
 obtain⟨K,V,e2,hK⟩:∃K V,jg [.lst (zB.map λi:Nat=>D.tup [.int i,.bl true])]=some (.dic K V)/\∀n:Nat,yb K (.inl (n:Int))=zZ zB n:=by
  refine⟨(xD [] [] (zB.map λi:Nat=>Sum.inl (i:Int)) (zB.map λ_=>D.bl true)).1,(xD [] [] (zB.map λi:Nat=>Sum.inl (i:Int)) (zB.map λ_=>D.bl true)).2,?_,λn=>?_⟩
  ·show(qU _).bind _=_;rw[OI];rfl
  ·rw[TN (by simp),O5];rfl
 have e3:EM [some (false,.lst zF),some (false,.lst (zt zB)),some (false,.lst (xg rows (zZ zB))),some (false,.dic K V),none]=some (w4 rows.length):=by
  have:=g7 (f:=eL xo (zA (z7 2) zG)) (τ:=[some (false,.lst zF),some (false,.lst (zt zB)),some (false,.lst (xg rows (zZ zB))),some (false,.dic K V),none]) (n:=((xg rows (zZ zB)).length:Int)) rfl (by rw[Bg]; omega);rw[Bg,xU]at this;exact this
 have e4:xI (zo 5) V8 Ln [some (false,.lst zF),some (false,.lst (zt zB)),some (false,.lst (xg rows (zZ zB))),some (false,.dic K V),none,none] (w4 rows.length)=some (zt ((List.range rows.length).filter λi=>!zZ zB i)):=by
  have:=kO (g:=zo 5) (c:=V8) (e:=Ln) (σ:=[some (false,.lst zF),some (false,.lst (zt zB)),some (false,.lst (xg rows (zZ zB))),some (false,.dic K V),none,none]) (λd=>match d with|.int i=>!zZ zB i.toNat|_=>false) id (ds:=w4 rows.length) λd hd=>by
   obtain⟨i,hi,rfl⟩:=Lf hd
   have hin:XN (.int (i:Int)) (.dic K V)=some (.bl (!zZ zB i)):=by
    show(some (yb K (.inl (i:Int)))).bind _=_;rw[hK];rfl
   refine⟨_,rfl,?_,λ_=>rfl⟩;show V8 _=some (!zZ zB ((i:Int)).toNat);rw[xU];unfold V8;simp![hin]
  rw[this,ZB,MF];rfl
 have e5:xI (zo 5) V9 Lo [some (false,.lst zF),some (false,.lst (zt zB)),some (false,.lst (xg rows (zZ zB))),some (false,.dic K V),some (false,.lst (zt ((List.range rows.length).filter λi=>!zZ zB i))),none] (zt ((List.range rows.length).filter λi=>!zZ zB i))=some (zt (gF rows zB)):=by
  have:=kO (g:=zo 5) (c:=V9) (e:=Lo) (σ:=[some (false,.lst zF),some (false,.lst (zt zB)),some (false,.lst (xg rows (zZ zB))),some (false,.dic K V),some (false,.lst (zt ((List.range rows.length).filter λi=>!zZ zB i))),none]) (λd=>match d with|.int i=>pT rows zB i.toNat|_=>false) id (ds:=zt ((List.range rows.length).filter λi=>!zZ zB i)) λd hd=>by
   obtain⟨i,hi,rfl⟩:=xQ.mp hd;have hi':i<rows.length:=vi.mp (qd.mp hi).1;have eg:rows.getD i .zE=rows[i]:=by rw[vH,yS hi']; rfl
   have ex:zQ (.lst (xg rows (zZ zB))) (.int (i:Int))=some (dv (zZ zB) (.tup [.int (i:Int),tgt rows[i]])):=pS (by omega) (by rw[xU]; exact Bf hi');have en:=Rl (f:=zZ zB) (d:=.tup [.int (i:Int),tgt rows[i]]);refine⟨_,rfl,?_,λ_=>rfl⟩;show V9 _=some (pT rows zB ((i:Int)).toNat);rw[xU];unfold V9 pT;rw[eg];generalize dv (zZ zB) (.tup [.int (i:Int),tgt rows[i]])=z at ex en;simp![ex,en]
  rw[this,ZB,Bx,MF];rfl
 rw[Nf];unfold Ud;generalize zt zB=FF at *;generalize xg rows (zZ zB)=DD at *;generalize zt ((List.range rows.length).filter λi=>!zZ zB i)=NN at *;simp![e0,e1,e2,e3,e4,e5]
def qY(l:List Nat):List Nat:=(L2.isort (l.map λi:Nat=>(i:Int))).map Int.toNat
theorem fJ(l:List Nat):zt (qY l)=(L2.isort (l.map λi:Nat=>(i:Int))).map D.int:=by
 unfold zt qY;rw[vA];refine Gx λx hx=>?_
 obtain⟨i,_,rfl⟩:=xQ.mp ((L2.isort_perm _).mem_iff.mp hx);rfl
theorem Q8(l:List Nat):(qY l).Perm l:=by
 have h:=(L2.isort_perm (l.map λi:Nat=>(i:Int))).map Int.toNat;rw[vA]at h
 have e:l.map (Int.toNat∘λi:Nat=>(i:Int))=l:=by
  rw[show(Int.toNat∘λi:Nat=>(i:Int))=id from funext λi=>xU i,ZB]
 rw[e]at h;exact h
inductive jZ(g:List Nat->List Nat):List Nat->List Nat->Nat->Prop
 |stop {zB:List Nat}:g zB=[]->jZ g zB zB 0
 |go {zB R:List Nat} {k:Nat}:g zB≠[]->(zB++g zB).length<64->jZ g (qY (zB++g zB)) R k->jZ g zB R (k+1)
def jW(n:Nat)(l:List Nat):Prop:=l.Nodup/\∀x∈l,x<n
theorem EQ{g:List Nat->List Nat}{n:Nat}(hn:n<64)(hg:∀zB,jW n zB->jW n (zB++g zB)):∀(m:Nat)(zB:List Nat),jW n zB->n-zB.length<=m->∃R k,jZ g zB R k/\k<=m/\jW n R
 |m,zB,gf,hm=>by
  by_cases e:g zB=[]
  ·exact⟨zB,0,.stop e,uK _,gf⟩
  ·have g2:=hg zB gf;have l2:=Jc n g2.1 g2.2;have l3:0<(g zB).length:=Gv.mpr e;rw[yj]at l2;have g3:jW n (qY (zB++g zB)):=⟨(Q8 _).nodup_iff.mpr g2.1,λx hx=>g2.2 x ((Q8 _).mem_iff.mp hx)⟩;have l4:(qY (zB++g zB)).length=zB.length+(g zB).length:=by rw[(Q8 _).length_eq,yj]
   match m,hm with
   |0,hm=>omega
   |m+1,hm=>
    obtain⟨R,k,h,hk,gr⟩:=EQ hn hg m (qY (zB++g zB)) g3 (by omega);exact⟨R,k+1,.go e (by rw[yj]; omega) h,by omega,gr⟩
theorem fK{l:List Nat}(h:l.length<64):IE [.lst (zt l)]=some (.lst (zt (qY l))):=by
 have e:zt l=(l.map λi:Nat=>(i:Int)).map D.int:=by
  unfold zt;rw[vA];rfl
 rw[fJ,e];show(intsOf _).bind _=_;rw[OB];show(if(l.map λi:Nat=>(i:Int)).length<64 then _ else _)=_;rw[zN (by rw[zx]; exact h)]
theorem He{a b:List Nat}(h:(a++b).length<64):yo (.lst (zt a)) (.lst (zt b))=some (.lst (zt (a++b))):=by
 show(if(zt a).length+(zt b).length<=yn then _ else _)=_;rw[yj]at h;unfold zt;rw[zN (by rw[zx,zx]; show _<=16777216; omega),gP]
theorem N4(l:List Nat):(!(zt l).isEmpty)=decide (l≠[]):=by
 cases l<;>rfl
theorem Nv{rows:List D}{zB:List Nat}(h:jW rows.length zB):jW rows.length (zB++gF rows zB):=by
 have mem:∀x∈gF rows zB,x<rows.length/\zZ zB x=false:=λx hx=>by
  have h1:=qd.mp (qd.mp hx).1;exact⟨vi.mp h1.1,by simpa using h1.2⟩
 refine⟨List.nodup_append.mpr ⟨h.1,(List.nodup_range.filter _).filter _,λa ha b hb e=>?_⟩,λx hx=>?_⟩
 ·subst e;have h2:=(mem a hb).2;have:zZ zB a=true:=jE.mpr ⟨.int (a:Int),xQ.mpr ⟨a,ha,rfl⟩,by unfold yM; exact pH _⟩;rw[this]at h2;cases h2
 ·rcases uI.mp hx with hx|hx
  ·exact h.2 x hx
  ·exact(mem x hx).1
theorem PD(zB:List Nat)(n:Nat):pZ (.int (n:Int)) (.lst (zt zB))=some (zZ zB n):=by
 have ha:(zt zB).all yH=true:=wm.mpr λy hy=>by
  obtain⟨p,_,rfl⟩:=xQ.mp hy;rfl
 show(match yH (.int (n:Int))&&(zt zB).all yH with|true=>_|false=>_)=_;rw[ha];rfl
theorem Hr{rows:List D}{zB:List Nat}{i:Nat}(h:yq (rows.getD i .zE)=false):pT rows zB i=false:=by
 unfold pT tgt;rw[h];rfl
def OM:FS:=(zL (zh 1 (eL IE (zA (e2 yo (z7 1) (z7 2)) zG)))
    (zh 2 (zd pQ (zA (z7 0) (zA (z7 1) zG)))))
def Ut:FT:=(tE (e2 vZ (z7 2) (wA zG)))
def UL:FS:=
 (zL (zh 1 (wA zG))
  (zL (zh 2 (zd pQ (zA (z7 0) (zA (z7 1) zG))))
  (zL (YR Ut
   OM)
  (yD (z7 1)))))
def ZT:List D->Option (Bool×D):=FR 1 3 UL
theorem bi:∀ds r,ZT ds=some r->ds.length=1/\zc 3 UL ds=some r:=yX
theorem NL(x0:D):ZT [x0]=zc 3 UL [x0]:=rfl
theorem By{rows zF:List D}(hf:∀zB,pQ [.lst zF,.lst (zt zB)]=some (true,.lst (zt (gF rows zB)))):∀{zB R:List Nat}{k:Nat},jZ (gF rows) zB R k->
  vh Ut OM (k+1) [some (false,.lst zF),some (false,.lst (zt zB)),some (false,.lst (zt (gF rows zB)))]=some (.nx [some (false,.lst zF),some (false,.lst (zt R)),some (false,.lst (zt []))])
 |zB,_,_,.stop e=>by
  rw[Lg]
  ·rw[e]
  ·have h:=Dv (zt (gF rows zB));rw[e]at h ⊢;unfold Ut;simp![h];rfl
 |zB,_,_,.go e h r=>by
  rw[Lh (σ':=[some (false,.lst zF),some (false,.lst (zt (qY (zB++gF rows zB)))),some (false,.lst (zt (gF rows (qY (zB++gF rows zB)))))]) ?_ ?_]
  ·exact By hf r
  ·have h:=Dv (zt (gF rows zB));rw[N4,yh e]at h;unfold Ut;simp![h]
  ·have h1:=He h;have h2:=fK h;have h3:=hf (qY (zB++gF rows zB));unfold OM;simp![h1,h2,h3]
theorem N5{rows zF:List D}(h:∀d∈zF,wq d)(hl:zF.length<=1000)(he:wo (uR zF) rows (zF.filter λd=>!yc d))(hr:∀r∈rows,v6 (rows.length:Int) r)(hn:rows.length<64) :
  ∃R k,jZ (gF rows) [] R k/\k<=64/\jW rows.length R/\ZT [.lst zF]=some (false,.lst (zt R)):=by
 obtain⟨R,k,hR,hk,gr⟩:=EQ hn (λzB=>Nv (rows:=rows)) rows.length [] ⟨ML,λ_ h=>by cases h⟩ (Nat.sub_le _ _);have hf:∀zB,pQ [.lst zF,.lst (zt zB)]=some (true,.lst (zt (gF rows zB))):=λzB=>Rv h hl he hr (by omega)
 have e1:=By hf hR;have e2:=T_ _ e1 (xv (show k+1<=65 by omega) (by decide));have e3:=hf [];have e0:zt []=[]:=rfl;rw[e0]at e2 e3;refine⟨R,k,hR,by omega,gr,?_⟩;rw[NL];unfold UL;simp![e3,e2]
def BF:FS:=
 (zL (zh 4 (e2 jh (e2 uX (e2 jh (eC (.int 1)) (z7 2)) (eC (.int 1))) (z7 1)))
  (yD (e2 (tY Builtin.bitOr) (e2 (tY Builtin.bitAnd) (z7 0) (e1 Jz (z7 4))) (e2 jh (z7 3) (z7 1)))))
theorem Co{d:Nat}(h:d<64):1<=(2:Int) ^ d/\(2:Int) ^ d<2 ^ 64:=by
 have h1:(2:Nat) ^ d<2 ^ 64:=Nat.pow_lt_pow_right (by decide) h;have h2:0<(2:Nat) ^ d:=Nat.pow_pos (by decide);have e:((2 ^ d:Nat):Int)=(2:Int) ^ d:=by simp
 have e2:((2 ^ 64:Nat):Int)=(2:Int) ^ 64:=by decide
 omega
def Zg:List D->Option (Bool×D)
 | [.int x,.int l,.int d,.int n]=>if(0<=x/\0<=l/\l<64/\0<=d/\d<64)/\0<=n/\n<2 ^ d.toNat then some (false,.int (x+(n-x/2 ^ l.toNat%2 ^ d.toNat)*2 ^ l.toNat))else none
 |_=>none
theorem ck:∀ds r,Zg ds=some r->ds.length=4/\zc 5 BF ds=some r:=λds r h=>by
 unfold Zg at h
 split at h
 ·rename_i x l d n;refine⟨rfl,?_⟩
  split at h
  ·rename_i c;obtain⟨⟨x0,l0,l1,d0,d1⟩,n0,n1⟩:=c;obtain⟨p0,p1⟩:=Co (d:=d.toNat) (by omega);cases h;have e1:=kW (i:=1) (j:=d) d0 d1 (by decide) (by decide);have e2:=kW (i:=1*2 ^ d.toNat-1) (j:=l) l0 l1 (by omega) (by omega);have e3:=kW (i:=n) (j:=l) l0 l1 n0 (by omega);unfold BF;simp![e1,e2,e3,Jz,oR x0 n0 n1]
  ·cases h
 ·cases h
theorem oT{x l d n:Int}(h:(0<=x/\0<=l/\l<64/\0<=d/\d<64)/\0<=n/\n<2 ^ d.toNat):Zg [.int x,.int l,.int d,.int n]=some (false,.int (x+(n-x/2 ^ l.toNat%2 ^ d.toNat)*2 ^ l.toNat)):=zN h
def BE:FS:=
 (zL (yO (tE (e2 yP (z7 1) (eC (.str "n"))))
   (yD (xO (zA (eC (.int 0)) (zA (e1 (xR IR IV) (z7 0)) zG))))
   ym)
  (yD (e1 (xR wM wN) (z7 1))))
def wG:List D->Option (Bool×D):=FR 2 2 BE
theorem cW:∀ds r,wG ds=some r->ds.length=2/\zc 2 BE ds=some r:=yX
def Up:FS:=
 (yD (zd Zg (zA (z7 0) (zA (e2 zQ (z7 1) (eC (.int 0))) (zA (e2 zQ (z7 1) (eC (.int 1))) (zA (z7 2) zG))))))
def u7:List D->Option (Bool×D):=FR 3 3 Up
theorem cj:∀ds r,u7 ds=some r->ds.length=3/\zc 3 Up ds=some r:=yX
theorem Nq(x0 x1 x2:D):u7 [x0,x1,x2]=zc 3 Up [x0,x1,x2]:=rfl
theorem Lj{x l d n:Int}(h:(0<=x/\0<=l/\l<64/\0<=d/\d<64)/\0<=n/\n<2 ^ d.toNat):u7 [.int x,.tup [.int l,.int d],.int n]=some (false,.int (x+(n-x/2 ^ l.toNat%2 ^ d.toNat)*2 ^ l.toNat)):=by
 have i0:zQ (.tup [.int l,.int d]) (.int 0)=some (.int l):=rfl;have i1:zQ (.tup [.int l,.int d]) (.int 1)=some (.int d):=rfl;rw[Nq];unfold Up;simp![i0,i1,oT h]
def oV:FE:=(z7 1)
def oZ:FT:=(tE (e2 vZ (z7 1) (eC (.str "name"))))
def B7:FS:=
 (qC (xm 1 (vo (e1 (xR IQ IU) (z7 0))) (zo 1) oZ oV))
def wp:List D->Option (Bool×D):=FR 1 1 B7
theorem bm:∀ds r,wp ds=some r->ds.length=1/\zc 1 B7 ds=some r:=yX
def YF:FS:=(zL (zh 5 (u9 (tE (e2 yP (z7 3) (eC (.str "mark")))) (e1 (XO XU) (z7 4)) (z7 4)))
    (zh 2 (zd u7 (zA (z7 2) (zA (zd wG (zA (e2 zQ (z7 0) (eC (.int 0))) (zA (z7 3) zG))) (zA (z7 5) zG))))))
def qo:FS:=
 (zL (zh 2 (zd u7 (zA (eC (.int 0)) (zA (e1 (xR wM wN) (eC (.str "kind"))) (zA (z7 1) zG)))))
  (zL (vf (p_ (qO wp (zA (e2 zQ (z7 0) (eC (.int 0))) zG)) (pX (z7 0) (vd (eC (.int 1))) vc)) (v8 3 4)
   YF)
  (yD (z7 2))))
def wL:List D->Option (Bool×D):=FR 2 6 qo
theorem bn:∀ds r,wL ds=some r->ds.length=2/\zc 6 qo ds=some r:=yX
theorem kE(x0 x1:D):wL [x0,x1]=zc 6 qo [x0,x1]:=rfl
theorem kX{c:Int}(h0:0<=c)(h1:c<32):u7 [.int 0,.tup [.int 27,.int 5],.int c]=some (false,.int (c*134217728)):=by
 rw[Lj (x:=0) (l:=27) (d:=5) (n:=c) ⟨by decide,h0,h1⟩];simp
theorem put_at{x l d n m:Int}(hl:0<=l/\l<64)(hd:0<=d/\d<64)(x0:0<=x)(n0:0<=n)(n1:n<2 ^ d.toNat)(hz:x/2 ^ l.toNat%2 ^ d.toNat=0)(hm:m=2 ^ l.toNat):u7 [.int x,.tup [.int l,.int d],.int n]=some (false,.int (x+n*m)):=by
 rw[Lj ⟨⟨x0,hl.1,hl.2,hd.1,hd.2⟩,n0,n1⟩,hz,hm,Int.sub_zero]
theorem IH{c:Int}(c0:0<=c)(c1:c<32){w:Str}(hf:wp [.str w]=some (true,.lst [])):wL [.tup [.str w],.int c]=some (false,.int (c*134217728)):=by
 have hk:xR wM wN (.str "kind")=some (.tup [.int 27,.int 5]):=by rfl
 have q1:=kX c0 c1;have sl:ji (.tup [.str w]) (some 1) none=some (.tup []):=by rfl
 rw[kE];unfold qo;simp![hk,q1,qy,hf,p_,pX,vd,vc,sl,pA,ZD]
theorem N7{w:Str}{c W d n:Int}(hf:wp [.str w]=some (true,.lst [.str "d",.str "n"]))(hd:wG [.str w,.str "d"]=some (false,.tup [.int 24,.int 3]))(hn:wG [.str w,.str "n"]=some (false,.tup [.int 0,.int W]))
  (c0:0<=c)(c1:c<32)(w0:0<=W)(w1:W<=16)(d0:0<=d)(d1:d<8)(n0:0<=n)(n1:n<2 ^ W.toNat)(hp:(2:Int) ^ W.toNat ∣ 16777216) :
  wL [.tup [.str w,.int d,.int n],.int c]=some (false,.int (c*134217728+d*16777216+n)):=by
 have hk:xR wM wN (.str "kind")=some (.tup [.int 27,.int 5]):=by rfl
 have q1:=kX c0 c1;have q2:=put_at (x:=c*134217728) (l:=24) (d:=3) (n:=d) (m:=16777216) (by decide) (by decide) (by omega) d0 d1 (by show c*134217728/16777216%8=0; omega) (by decide)
 have q3:=put_at (x:=c*134217728+d*16777216) (l:=0) (d:=W) (n:=n) (m:=1) (by decide) ⟨w0,by omega⟩ (by omega) n0 n1 (by
  show(c*134217728+d*16777216)/1%2 ^ W.toNat=0;rw[VF];obtain⟨k,hk⟩:=hp;rw[show c*134217728+d*16777216=2 ^ W.toNat*(k*(8*c+d)) by rw[<-Int.mul_assoc,<-hk]; omega];exact Gn _ _) (by decide)
 have m1:yP (.str "d") (.str "mark")=some (.bl false):=by rfl
 have m2:yP (.str "n") (.str "mark")=some (.bl false):=by rfl
 have sl:ji (.tup [.str w,.int d,.int n]) (some 1) none=some (.tup [.int d,.int n]):=by rfl
 rw[kE];unfold qo;simp![hk,q1,qy,hf,p_,pX,vd,vc,sl,pA,gQ,ZD,YF,m1,m2,hd,q2,hn,q3,Qm]
theorem N8{w:Str}{c d s:Int}(hf:wp [.str w]=some (true,.lst [.str "d",.str "s"]))(hd:wG [.str w,.str "d"]=some (false,.tup [.int 24,.int 3]))(hs:wG [.str w,.str "s"]=some (false,.tup [.int 21,.int 3]))
  (c0:0<=c)(c1:c<32)(d0:0<=d)(d1:d<8)(s0:0<=s)(s1:s<8) :
  wL [.tup [.str w,.int d,.int s],.int c]=some (false,.int (c*134217728+d*16777216+s*2097152)):=by
 have hk:xR wM wN (.str "kind")=some (.tup [.int 27,.int 5]):=by rfl
 have q1:=kX c0 c1;have q2:=put_at (x:=c*134217728) (l:=24) (d:=3) (n:=d) (m:=16777216) (by decide) (by decide) (by omega) d0 d1 (by show c*134217728/16777216%8=0; omega) (by decide);have q3:=put_at (x:=c*134217728+d*16777216) (l:=21) (d:=3) (n:=s) (m:=2097152) (by decide) (by decide) (by omega) s0 s1 (by show(c*134217728+d*16777216)/2097152%8=0; omega) (by decide);have m1:yP (.str "d") (.str "mark")=some (.bl false):=by rfl
 have m2:yP (.str "s") (.str "mark")=some (.bl false):=by rfl
 have sl:ji (.tup [.str w,.int d,.int s]) (some 1) none=some (.tup [.int d,.int s]):=by rfl
 rw[kE];unfold qo;simp![hk,q1,qy,hf,p_,pX,vd,vc,sl,pA,gQ,ZD,YF,m1,m2,hd,q2,hs,q3]
theorem N9{w:Str}{c d s n:Int}(hf:wp [.str w]=some (true,.lst [.str "d",.str "s",.str "n"]))(hd:wG [.str w,.str "d"]=some (false,.tup [.int 24,.int 3]))(hs:wG [.str w,.str "s"]=some (false,.tup [.int 21,.int 3]))
  (hn:wG [.str w,.str "n"]=some (false,.tup [.int 0,.int 8]))(c0:0<=c)(c1:c<32)(d0:0<=d)(d1:d<8)(s0:0<=s)(s1:s<8)(n0:0<=n)(n1:n<256) :
  wL [.tup [.str w,.int d,.int s,.int n],.int c]=some (false,.int (c*134217728+d*16777216+s*2097152+n)):=by
 have hk:xR wM wN (.str "kind")=some (.tup [.int 27,.int 5]):=by rfl
 have q1:=kX c0 c1;have q2:=put_at (x:=c*134217728) (l:=24) (d:=3) (n:=d) (m:=16777216) (by decide) (by decide) (by omega) d0 d1 (by show c*134217728/16777216%8=0; omega) (by decide);have q3:=put_at (x:=c*134217728+d*16777216) (l:=21) (d:=3) (n:=s) (m:=2097152) (by decide) (by decide) (by omega) s0 s1 (by show(c*134217728+d*16777216)/2097152%8=0; omega) (by decide);have q4:=put_at (x:=c*134217728+d*16777216+s*2097152) (l:=0) (d:=8) (n:=n) (m:=1) (by decide) (by decide) (by omega) n0 n1 (by show(c*134217728+d*16777216+s*2097152)/1%256=0; omega) (by decide);have m1:yP (.str "d") (.str "mark")=some (.bl false):=by rfl
 have m2:yP (.str "s") (.str "mark")=some (.bl false):=by rfl
 have m3:yP (.str "n") (.str "mark")=some (.bl false):=by rfl
 have sl:ji (.tup [.str w,.int d,.int s,.int n]) (some 1) none=some (.tup [.int d,.int s,.int n]):=by rfl
 rw[kE];unfold qo;simp![hk,q1,qy,hf,p_,pX,vd,vc,sl,pA,gQ,ZD,YF,m1,m2,m3,hd,q2,hs,q3,hn,q4,Qm]
theorem DG{c m:Int}{w k:Str}(hf:wp [.str w]=some (true,.lst [.str "mark"]))(hp:wG [.str w,.str "mark"]=some (false,.tup [.int 24,.int 2]))(hm:XO XU (.str k)=some (.int m))(m0:0<=m)(m1:m<3)(c0:0<=c)(c1:c<32):wL [.tup [.str w,.str k],.int c]=some (false,.int (c*134217728+m*16777216)):=by
 have hk:xR wM wN (.str "kind")=some (.tup [.int 27,.int 5]):=by rfl
 have q1:=kX c0 c1;have q2:=put_at (x:=c*134217728) (l:=24) (d:=2) (n:=m) (m:=16777216) (by decide) (by decide) (by omega) m0 (by show m<4; omega) (by show c*134217728/16777216%4=0; omega) (by decide);have e1:yP (.str "mark") (.str "mark")=some (.bl true):=by rfl
 have sl:ji (.tup [.str w,.str k]) (some 1) none=some (.tup [.str k]):=by rfl
 rw[kE];unfold qo;simp![hk,q1,qy,hf,p_,pX,vd,vc,sl,pA,gQ,ZD,YF,e1,hm,hp,q2]
def Uf:FS:=
 (yD (e2 (tY Builtin.bitAnd) (e2 ID (z7 0) (z7 1)) (e2 uX (e2 jh (eC (.int 1)) (z7 2)) (eC (.int 1)))))
def Ze:List D->Option (Bool×D):=FR 3 3 Uf
theorem cV:∀ds r,Ze ds=some r->ds.length=3/\zc 3 Uf ds=some r:=yX
theorem Nh(x0 x1 x2:D):Ze [x0,x1,x2]=zc 3 Uf [x0,x1,x2]:=rfl
def Ue:FS:=
 (yD (zd Ze (zA (z7 0) (zA (e2 zQ (z7 1) (eC (.int 0))) (zA (e2 zQ (z7 1) (eC (.int 1))) zG)))))
def uo:List D->Option (Bool×D):=FR 2 2 Ue
theorem cU:∀ds r,uo ds=some r->ds.length=2/\zc 2 Ue ds=some r:=yX
theorem Ng(x0 x1:D):uo [x0,x1]=zc 2 Ue [x0,x1]:=rfl
def UI:FS:=
 (yD (zd uo (zA (z7 0) (zA (e1 (xR wM wN) (eC (.str "kind"))) zG))))
def tR:List D->Option (Bool×D):=FR 1 1 UI
theorem bf:∀ds r,tR ds=some r->ds.length=1/\zc 1 UI ds=some r:=yX
theorem NH(x0:D):tR [x0]=zc 1 UI [x0]:=rfl
def oW:FE:=(z7 2)
def oa:FT:=(tE (e2 yP (e1 (xR tZ qQ) (z7 2)) (z7 0)))
def oX:FE:=(z7 2)
def og:FT:=(tE (e2 yP (e1 (xR tj tq) (z7 2)) (z7 0)))
def oY:FE:=(z7 2)
def oh:FT:=(tE (e2 yP (e1 (xR tf tm) (z7 2)) (z7 0)))
def BA:FS:=
 (zL (uE 1 (xm 1 (iG tZ) (zo 2) oa oW))
  (zL (km 1 (xm 1 (iG tj) (zo 2) og oX))
  (zL (km 1 (xm 1 (iG tf) (zo 2) oh oY))
  (zL (g9 1) (yD (u9 (tE (e2 yP (z7 1) (wA zG))) (eC .zE) (e2 zQ (z7 1) (eC (.int 0)))))))))
def gb:List D->Option (Bool×D):=FR 1 2 BA
theorem bz:∀ds r,gb ds=some r->ds.length=1/\zc 2 BA ds=some r:=yX
def B9:FS:=
 (yD (e2 xY (z7 0) (eC (.lst tq))))
def qJ:List D->Option (Bool×D):=FR 1 1 B9
theorem bx:∀ds r,qJ ds=some r->ds.length=1/\zc 1 B9 ds=some r:=yX
def B8:FS:=
 (yD (e2 xY (z7 0) (eC (.lst tm))))
def pO:List D->Option (Bool×D):=FR 1 1 B8
theorem br:∀ds r,pO ds=some r->ds.length=1/\zc 1 B8 ds=some r:=yX
def XF:FS:=
 (zL (zh 3 (zd uo (zA (z7 0) (zA (zd wG (zA (z7 1) (zA (z7 2) zG))) zG))))
  (zL (yO (tE (e2 vZ (z7 2) (eC (.str "mark"))))
   (yD (z7 3))
   ym)
  (yD (u9 (tE (e2 (xi λi j=>decide (i<j)) (z7 3) (eL xo (zA (eC jk) zG)))) (e2 zQ (eC jk) (z7 3)) (eC .zE)))))
def u5:List D->Option (Bool×D):=FR 3 4 XF
theorem bq:∀ds r,u5 ds=some r->ds.length=3/\zc 4 XF ds=some r:=yX
theorem DL(x0 x1 x2:D):u5 [x0,x1,x2]=zc 4 XF [x0,x1,x2]:=rfl
def pD:FE:=(zd u5 (zA (z7 0) (zA (z7 2) (zA (z7 5) zG))))
def Uh:FS:=
 (zL (zh 1 (zd tR (zA (z7 0) zG)))
  (zL (zh 2 (zd gb (zA (z7 1) zG)))
  (zL (yO (tE (e2 qr (z7 2) (eC .zE)))
   (yD (eC .zE))
   ym)
  (zL (zh 3 (eL IF (zA (e2 yo (wA (zA (z7 2) zG)) (xm 1 (vo (qO wp (zA (z7 2) zG))) (zo 5) xB pD)) zG)))
  (zL (yO (tE (e2 xY (eC .zE) (z7 3)))
   (yD (eC .zE))
   ym)
  (zL (zh 4 (u9 (tE (zd qJ (zA (z7 1) zG))) (zd u7 (zA (z7 0) (zA (e1 (xR wM wN) (eC (.str "distance"))) (zA (eC (.int 0)) zG)))) (z7 0)))
  (yD (u9 (tE (e2 yP (zd wL (zA (z7 3) (zA (z7 1) zG))) (z7 4))) (z7 3) (eC .zE)))))))))
def uP:List D->Option (Bool×D):=FR 1 5 Uh
theorem cY:∀ds r,uP ds=some r->ds.length=1/\zc 5 Uh ds=some r:=yX
theorem Nj(x0:D):uP [x0]=zc 5 Uh [x0]:=rfl
def Uj:FS:=
 (zL (zh 2 (e2 jh (eC (.int 1)) (z7 1)))
  (yD (u9 (tE (e2 (xi λi j=>decide (i<j)) (e2 XM (eC (.int 2)) (z7 0)) (z7 2))) (z7 0) (e2 uX (z7 0) (z7 2)))))
def qj:List D->Option (Bool×D):=FR 2 3 Uj
theorem ca:∀ds r,qj ds=some r->ds.length=2/\zc 3 Uj ds=some r:=yX
theorem Nl(x0 x1:D):qj [x0,x1]=zc 3 Uj [x0,x1]:=rfl
def UK:FS:=
 (zL (yO (tE (e2 (xi λi j=>decide (j<=i)) (e2 yo (z7 1) (eC (.int 1))) (eL xo (zA (z7 0) zG))))
   (yD (eC .zE))
   ym)
  (yD (xO (zA (z7 2) (zA (e2 yo (z7 1) (eC (.int 2))) (zA (e2 yo (z7 1) (zd qj (zA (e2 zQ (z7 0) (e2 yo (z7 1) (eC (.int 1)))) (zA (eC (.int 32)) zG)))) zG))))))
def ZS:List D->Option (Bool×D):=FR 3 3 UK
theorem bh:∀ds r,ZS ds=some r->ds.length=3/\zc 3 UK ds=some r:=yX
theorem NJ(x0 x1 x2:D):ZS [x0,x1,x2]=zc 3 UK [x0,x1,x2]:=rfl
def gx:FS:=
 (zL (yO (pC (tE (e2 (xi λi j=>decide (i<j)) (z7 1) (eC (.int 0)))) (tE (e2 (xi λi j=>decide (j<=i)) (z7 1) (eL xo (zA (z7 0) zG)))))
   (yD (eC .zE))
   ym)
  (zL (zh 2 (zd uP (zA (e2 zQ (z7 0) (z7 1)) zG)))
  (zL (yO (tE (e2 qr (z7 2) (eC .zE)))
   (yD (eC .zE))
   ym)
  (zL (zh 3 (zd tR (zA (e2 zQ (z7 0) (z7 1)) zG)))
  (zL (yO (tE (zd pO (zA (z7 3) zG)))
   (yD (zd ZS (zA (z7 0) (zA (z7 1) (zA (z7 2) zG)))))
   ym)
  (zL (yO (tE (zd qJ (zA (z7 3) zG)))
   (zL (zh 4 (e1 (xR wM wN) (eC (.str "distance"))))
    (yD (xO (zA (z7 2) (zA (e2 yo (z7 1) (eC (.int 1))) (zA (e2 yo (z7 1) (zd qj (zA (zd uo (zA (e2 zQ (z7 0) (z7 1)) (zA (z7 4) zG))) (zA (e2 zQ (z7 4) (eC (.int 1))) zG)))) zG))))))
   ym)
  (yD (xO (zA (z7 2) (zA (e2 yo (z7 1) (eC (.int 1))) (zA (eC .zE) zG)))))))))))
def uq:List D->Option (Bool×D):=FR 2 5 gx
theorem cf:∀ds r,uq ds=some r->ds.length=2/\zc 5 gx ds=some r:=yX
theorem T9(x0 x1:D):uq [x0,x1]=zc 5 gx [x0,x1]:=rfl
theorem Tk{x l W:Int}(l0:0<=l)(w0:0<=W)(w1:W<64):uo [.int x,.tup [.int l,.int W]]=some (false,.int (x/2 ^ l.toNat%2 ^ W.toNat)):=by
 have i0:zQ (.tup [.int l,.int W]) (.int 0)=some (.int l):=rfl;have i1:zQ (.tup [.int l,.int W]) (.int 1)=some (.int W):=rfl;have e1:=kW (i:=1) (j:=W) w0 w1 (by decide) (by decide)
 have p:Ze [.int x,.int l,.int W]=some (false,.int (x/2 ^ l.toNat%2 ^ W.toNat)):=by
  rw[Nh];unfold Uf;simp![e1,yh l0,AW]
 rw[Ng];unfold Ue;simp![i0,i1,p]
theorem Zo{x:Int}(h0:0<=x)(h1:x<4294967296):tR [.int x]=some (false,.int (x/134217728)):=by
 have hk:xR wM wN (.str "kind")=some (.tup [.int 27,.int 5]):=by rfl
 have n:uo [.int x,.tup [.int 27,.int 5]]=some (false,.int (x/134217728%32)):=Tk (by decide) (by decide) (by decide);rw[show x/134217728%32=x/134217728 by omega]at n;rw[NH];unfold UI;simp![hk,n]
def p4:List D:=[.str "stop",.str "set",.str "high",.str "copy",.str "add",.str "addc",.str "sub",.str "subc",.str "and",.str "or",.str "xor",.str "test",.str "left",.str "right",.str "load",.str "store",.str "loadw",.str "storew",.str "jump",.str "when",.str "unless",.str "jump",.str "when",.str "unless"]
theorem Py:(List.range 32).map (λc:Nat=>gb [.int (c:Int)])=(List.range 32).map λc=>some (false,p4.getD c .zE):=by kernel_rfl
theorem Rm:(List.range 32).map (λc:Nat=>qJ [.int (c:Int)])=(List.range 32).map λc=>some (false,.bl (decide (18<=c)&&decide (c<=20))):=by kernel_rfl
theorem N3:(List.range 32).map (λc:Nat=>pO [.int (c:Int)])=(List.range 32).map λc=>some (false,.bl (decide (21<=c)&&decide (c<=23))):=by kernel_rfl
theorem Om{f g:Nat->Option (Bool×D)}(h:(List.range 32).map f=(List.range 32).map g){n:Nat}(hn:n<32):f n=g n:=by
 have e:=congrArg (λl=>l[n]?) h;simp only[xM,qc hn,MY]at e;exact vV e
theorem OJ{n:Nat}(h:n<32):gb [.int (n:Int)]=some (false,p4.getD n .zE):=Om Py h
theorem Xg{n:Nat}(h:n<32):qJ [.int (n:Int)]=some (false,.bl (decide (18<=n)&&decide (n<=20))):=Om Rm h
theorem IG{n:Nat}(h:n<32):pO [.int (n:Int)]=some (false,.bl (decide (21<=n)&&decide (n<=23))):=Om N3 h
theorem kH{x l W:Int}{k f:Str}(hp:wG [.str k,.str f]=some (false,.tup [.int l,.int W]))(hm:vZ (.str f) (.str "mark")=some (.bl true))(l0:0<=l)(w0:0<=W)(w1:W<64):u5 [.int x,.str k,.str f]=some (false,.int (x/2 ^ l.toNat%2 ^ W.toNat)):=by
 have n:=Tk (x:=x) l0 w0 w1;rw[DL];unfold XF;simp![hp,n,hm]
def Dq:List D:=[.str "carry",.str "nought",.str "sign",.zE]
theorem Nx{x:Int}{k:Str}(hp:wG [.str k,.str "mark"]=some (false,.tup [.int 24,.int 2])):u5 [.int x,.str k,.str "mark"]=some (false,Dq.getD (x/16777216%4).toNat .zE):=by
 have n:uo [.int x,.tup [.int 24,.int 2]]=some (false,.int (x/16777216%4)):=Tk (by decide) (by decide) (by decide);have hm:vZ (.str "mark") (.str "mark")=some (.bl false):=by rfl
 rw[DL];unfold XF;rcases(show x/16777216%4=0\/x/16777216%4=1\/x/16777216%4=2\/x/16777216%4=3 by omega)with e|e|e|e<;>rw[e]at n ⊢
 ·have i:zQ jk (.int 0)=some (.str "carry"):=rfl;simp only[shx,hp,n,hm,i];rfl
 ·have i:zQ jk (.int 1)=some (.str "nought"):=rfl;simp only[shx,hp,n,hm,i];rfl
 ·have i:zQ jk (.int 2)=some (.str "sign"):=rfl;simp only[shx,hp,n,hm,i];rfl
 ·simp only[shx,hp,n,hm];rfl
theorem LH{x c Z known:Int}{b:Bool}{k:Str}{fs R:List D}(hc:tR [.int x]=some (false,.int c))(hk:gb [.int c]=some (false,.str k))(hf:wp [.str k]=some (true,.lst fs))
  (hl:xI (zo 5) xB pD [some (false,.int x),some (false,.int c),some (false,.str k),none,none,none] fs=some R)(hn:xY .zE (.tup (.str k::R))=some (.bl false))(hR:R.length<=3)(hnear:qJ [.int c]=some (false,.bl b))
  (hw:b=true->u7 [.int x,.tup [.int 0,.int 5],.int 0]=some (false,.int known))(hb:b=false->known=x)(hz:wL [.tup (.str k::R),.int c]=some (false,.int Z)) :
  uP [.int x]=some (false,if Z=known then .tup (.str k::R)else .zE):=by
 have ha:yo (.lst [.str k]) (.lst R)=some (.lst (.str k::R)):=by
  rw[Hf (by simp only[xc,pF]; omega)];rfl
 have ht:IF [.lst (.str k::R)]=some (.tup (.str k::R)):=rfl;have hd:xR wM wN (.str "distance")=some (.tup [.int 0,.int 5]):=by rfl
 have hq:yP (.int Z) (.int known)=some (.bl (decide (Z=known))):=by
  by_cases e:Z=known
  ·rw[YA e,yh e]
  ·rw[YB e,ye e]
 rw[Nj];unfold Uh;cases b with
 |true=>
  have hw:=hw rfl;by_cases e:Z=known
  ·rw[zN e];rw[yh e]at hq;simp![hc,hk,hf,hl,ha,ht,hn,hnear,hd,hw,hz,hq]
  ·rw[zS e];rw[ye e]at hq;simp![hc,hk,hf,hl,ha,ht,hn,hnear,hd,hw,hz,hq]
 |false=>
  cases hb rfl;by_cases e:Z=x
  ·rw[zN e];rw[yh e]at hq;simp![hc,hk,hf,hl,ha,ht,hn,hnear,hd,hz,hq]
  ·rw[zS e];rw[ye e]at hq;simp![hc,hk,hf,hl,ha,ht,hn,hnear,hd,hz,hq]
theorem En{n W:Int}(w0:0<=W)(w1:W<64):qj [.int n,.int W]=some (false,.int (if 2*n<2 ^ W.toNat then n else n-2 ^ W.toNat)):=by
 have e1:=kW (i:=1) (j:=W) w0 w1 (by decide) (by decide);have l2:jp 2=true:=by decide
 rw[Nl];unfold Uj;by_cases c:2*n<2 ^ W.toNat
 ·rw[zN c];have c':decide (2*n<1*2 ^ W.toNat)=true:=yh (by omega);simp![e1,l2,c']
 ·rw[zS c];have c':decide (2*n<1*2 ^ W.toNat)=false:=ye (by omega);simp![e1,l2,c',ye c,M9]
theorem lm{ws:List D}{a:Int}(h:a<0\/(ws.length:Int)<=a):uq [.lst ws,.int a]=some (false,.zE):=by
 rw[T9];unfold gx;by_cases c:a<0
 ·simp![yh c]
 ·have d:(ws.length:Int)<=a:=by omega
  simp![ye c,yh d]
structure At(ws:List D)(a x:Int):Prop where
 a0:0<=a
 a1:a<(ws.length:Int)
 ix:zQ (.lst ws) (.int a)=some (.int x)
 x0:0<=x
 x1:x<4294967296
section
variable{ws:List D}{a x:Int}(A:At ws a x)
include A
theorem At.cond{α:Type}:decide (a<0)=false/\decide ((ws.length:Int)<=a)=false/\decide (0<=a)=true/\decide (a<(ws.length:Int))=true:=by
 obtain⟨a0,a1,_,_,_⟩:=A;exact⟨ye (by omega),ye (by omega),yh a0,yh a1⟩
theorem lr{c:Int}{R:List D}(hc:tR [.int x]=some (false,.int c))(hf:pO [.int c]=some (false,.bl false))(hn:qJ [.int c]=some (false,.bl false))(hr:uP [.int x]=some (false,.tup R)) :
  uq [.lst ws,.int a]=some (false,.tup [.tup R,.int (a+1),.zE]):=by
 obtain⟨c1,c2,_,_⟩:=A.cond (α:=Nat);have ix:=A.ix;rw[T9];unfold gx;simp![c1,c2,ix,hr,hc,hf,hn,add_int]
theorem lj{c:Int}{R:List D}(hc:tR [.int x]=some (false,.int c))(hf:pO [.int c]=some (false,.bl false))(hn:qJ [.int c]=some (false,.bl true))(hr:uP [.int x]=some (false,.tup R)) :
  uq [.lst ws,.int a]=some (false,.tup [.tup R,.int (a+1),.int (a+(if 2*(x%32)<32 then x%32 else x%32-32))]):=by
 obtain⟨c1,c2,_,_⟩:=A.cond (α:=Nat);have ix:=A.ix;have hk:xR wM wN (.str "distance")=some (.tup [.int 0,.int 5]):=by rfl
 have n:uo [.int x,.tup [.int 0,.int 5]]=some (false,.int (x/1%32)):=Tk (by decide) (by decide) (by decide);rw[VF]at n;have s:qj [.int (x%32),.int 5]=some (false,.int (if 2*(x%32)<32 then x%32 else x%32-32)):=En (by decide) (by decide);have i1:zQ (.tup [.int 0,.int 5]) (.int 1)=some (.int 5):=rfl;rw[T9];unfold gx;generalize (if 2*(x%32)<32 then x%32 else x%32-32)=S at s ⊢;simp![c1,c2,ix,hr,hc,hf,hn,hk,n,i1,s,add_int]
theorem lh{c:Int}{R:List D}(hc:tR [.int x]=some (false,.int c))(hf:pO [.int c]=some (false,.bl true))(hr:uP [.int x]=some (false,.tup R)){y:Int}(hy:zQ (.lst ws) (.int (a+1))=some (.int y))(hl:a+1<(ws.length:Int)) :
  uq [.lst ws,.int a]=some (false,.tup [.tup R,.int (a+2),.int (a+(if 2*y<4294967296 then y else y-4294967296))]):=by
 obtain⟨c1,c2,_,_⟩:=A.cond (α:=Nat);have ix:=A.ix;have s:qj [.int y,.int 32]=some (false,.int (if 2*y<4294967296 then y else y-4294967296)):=En (by decide) (by decide);have d:decide ((ws.length:Int)<=a+1)=false:=ye (by omega)
 have e:ZS [.lst ws,.int a,.tup R]=some (false,.tup [.tup R,.int (a+2),.int (a+(if 2*y<4294967296 then y else y-4294967296))]):=by
  rw[NJ];unfold UK;generalize (if 2*y<4294967296 then y else y-4294967296)=S at s ⊢;simp![add_int,d,hy,s]
 rw[T9];unfold gx;simp![c1,c2,ix,hr,hc,hf,e]
end
def Um:FS:=
 (zL (zh 2 (e2 jh (eC (.int 1)) (z7 1)))
  (zL (yO (pC (tE (e2 (xi λi j=>decide (i<j)) (e2 XM (eC (.int 2)) (z7 0)) (e1 va (z7 2)))) (tE (e2 (xi λi j=>decide (j<=i)) (e2 XM (eC (.int 2)) (z7 0)) (z7 2))))
   (λ_=>none)
   ym)
  (yD (u9 (tE (e2 (xi λi j=>decide (j<=i)) (z7 0) (eC (.int 0)))) (z7 0) (e2 yo (z7 0) (z7 2))))))
def jS:List D->Option (Bool×D):=FR 2 3 Um
theorem cg:∀ds r,jS ds=some r->ds.length=2/\zc 3 Um ds=some r:=yX
theorem No(x0 x1:D):jS [x0,x1]=zc 3 Um [x0,x1]:=rfl
def Ur:FS:=
 (yD (zd wL (zA (z7 0) (zA (e1 (xR tZ qQ) (e2 zQ (z7 0) (eC (.int 0)))) zG))))
def gk:List D->Option (Bool×D):=FR 1 1 Ur
theorem cn:∀ds r,gk ds=some r->ds.length=1/\zc 1 Ur ds=some r:=yX
theorem Nt(x0:D):gk [x0]=zc 1 Ur [x0]:=rfl
def Uc:FS:=
 (zL (zh 2 (e1 (xR wM wN) (eC (.str "distance"))))
  (yD (zd u7 (zA (zd wL (zA (z7 0) (zA (e1 (xR tj tq) (e2 zQ (z7 0) (eC (.int 0)))) zG))) (zA (z7 2) (zA (zd jS (zA (z7 1) (zA (e2 zQ (z7 2) (eC (.int 1))) zG))) zG))))))
def gj:List D->Option (Bool×D):=FR 2 3 Uc
theorem cS:∀ds r,gj ds=some r->ds.length=2/\zc 3 Uc ds=some r:=yX
theorem Nd(x0 x1:D):gj [x0,x1]=zc 3 Uc [x0,x1]:=rfl
def UM:FS:=
 (qC (wA (zA (zd wL (zA (z7 0) (zA (e1 (xR tf tm) (e2 zQ (z7 0) (eC (.int 0)))) zG))) (zA (zd jS (zA (z7 1) (zA (eC (.int 32)) zG))) zG))))
def jN:List D->Option (Bool×D):=FR 2 2 UM
theorem bj:∀ds r,jN ds=some r->ds.length=2/\zc 2 UM ds=some r:=yX
theorem NO(x0 x1:D):jN [x0,x1]=zc 2 UM [x0,x1]:=rfl
def Xd:FS:=(yO (tE (e2 qr (e2 zQ (z7 2) (z7 4)) (eC .zE)))
     (xt 3 xh (zd gk (zA (z7 5) zG)))
     (yO (tE (e2 xY (z7 4) (z7 1)))
       (km 3 (qO jN (zA (z7 5) (zA (e2 zQ (z7 2) (z7 4)) zG))))
       (xt 3 xh (zd gj (zA (z7 5) (zA (e2 zQ (z7 2) (z7 4)) zG))))))
def Us:FS:=
 (zL (zh 1 (zd ZT (zA (z7 0) zG)))
  (zL (zh 2 (zd jM (zA (z7 0) (zA (z7 1) zG))))
  (zL (uE 3 (wA zG))
  (zL (vf (tz (zd uQ (zA (z7 0) zG))) (v8 4 5)
   Xd)
  (p9 3)))))
def Zh:List D->Option (Bool×D):=FR 1 6 Us
theorem cq:∀ds r,Zh ds=some r->ds.length=1/\zc 6 Us ds=some r:=yX
theorem Nu(x0:D):Zh [x0]=zc 6 Us [x0]:=rfl
theorem GK{d W:Int}(w0:0<=W)(w1:W<64)(h0 : -(2 ^ W.toNat)<=2*d)(h1:2*d<2 ^ W.toNat):jS [.int d,.int W]=some (false,.int (d%2 ^ W.toNat)):=by
 have e1:=kW (i:=1) (j:=W) w0 w1 (by decide) (by decide);obtain⟨p0,p1⟩:=Co (d:=W.toNat) (by omega);have l2:jp 2=true:=by decide
 rw[No];unfold Um;obtain⟨P,hP⟩:∃P:Int,P=2 ^ W.toNat:=⟨_,rfl⟩;rw[<-hP]at h0 h1 p0 p1 ⊢;have c1:decide (2*d < -(1*P))=false:=ye (by omega);have c2:decide (1*P<=2*d)=false:=ye (by omega);cases c3:decide (0<=d)with
 |true=>
  have c3:=w_ c3;have m:d%P=d:=Int.emod_eq_of_lt c3 (by omega);simp![e1,l2,<-hP,c1,c2,yh c3,m]
 |false=>
  have c4:=HH c3
  have m:d%P=d+P:=by
   rw[<-Int.add_emod_right (a:=d) (b:=P)];exact Int.emod_eq_of_lt (by omega) (by omega)
  simp![e1,l2,<-hP,c1,c2,c3,add_int,m];rw[M9]
structure Zl(r:D)(v:Int):Prop where
 v0:0<=v
 v1:v<4294967296
 c:∃n:Nat,n<=17/\v/134217728=(n:Int)
 w:gk [r]=some (false,.int v)
 r:uP [.int v]=some (false,r)
theorem QV{k:Str}{n:Nat}{v:Int}{R fs:List D}(v0:0<=v)(v1:v<4294967296)(n17:n<=17)(hv:v/134217728=(n:Int))(hk:p4.getD n .zE=.str k)(hc:xR tZ qQ (.str k)=some (.int (n:Int)))(hf:wp [.str k]=some (true,.lst fs))
  (hl:xI (zo 5) xB pD [some (false,.int v),some (false,.int (n:Int)),some (false,.str k),none,none,none] fs=some R)(hn:xY .zE (.tup (.str k::R))=some (.bl false))(hR:R.length<=3)(hz:wL [.tup (.str k::R),.int (n:Int)]=some (false,.int v)):Zl (.tup (.str k::R)) v:=by
 refine⟨v0,v1,⟨n,n17,hv⟩,?_,?_⟩
 ·rw[Nt];unfold Ur;simp![qy,hc,hz]
 ·have hcc:=Zo v0 v1;rw[hv]at hcc;have hkk:=OJ (n:=n) (by omega);rw[hk]at hkk;have hnear:=Xg (n:=n) (by omega);rw[ye (show ¬ 18<=n by omega),gI]at hnear;have:=LH hcc hkk hf hl hn hR hnear (λh=>by cases h) (λ_=>rfl) hz;rw[this,zN rfl]
theorem QU{n:Nat}{k:Str}{W P d m:Int}(n17:n<=17)(hk:p4.getD n .zE=.str k)(hc:xR tZ qQ (.str k)=some (.int (n:Int)))(hf:wp [.str k]=some (true,.lst [.str "d",.str "n"]))(hd:wG [.str k,.str "d"]=some (false,.tup [.int 24,.int 3]))
  (hp:wG [.str k,.str "n"]=some (false,.tup [.int 0,.int W]))(w0:0<=W)(w1:W<=16)(hP:(2:Int) ^ W.toNat=P)(hdv:(2:Int) ^ W.toNat ∣ 16777216)(d0:0<=d)(d1:d<8)(m0:0<=m)(m1:m<P)(hP2:P<=65536)(hx:((n:Int)*134217728+d*16777216+m)%P=m):Zl (.tup [.str k,.int d,.int m]) ((n:Int)*134217728+d*16777216+m):=by
 have hfw:=N7 (c:=(n:Int)) (d:=d) (n:=m) hf hd hp (by omega) (by omega) w0 w1 d0 d1 m0 (by rw[hP]; exact m1) hdv;have h1:u5 [.int ((n:Int)*134217728+d*16777216+m),.str k,.str "d"]=some (false,.int (((n:Int)*134217728+d*16777216+m)/16777216%8)):=kH hd (by rfl) (by decide) (by decide) (by decide);have h2:u5 [.int ((n:Int)*134217728+d*16777216+m),.str k,.str "n"]=some (false,.int (((n:Int)*134217728+d*16777216+m)/1%P)):=by rw[<-hP]; exact kH hp (by rfl) (by decide) w0 (by omega)
 rw[VF,hx]at h2;rw[show((n:Int)*134217728+d*16777216+m)/16777216%8=d by omega]at h1;refine QV (by omega) (by omega) n17 (by omega) hk hc hf ?_ rfl (by simp) hfw;generalize (n:Int)*134217728+d*16777216+m=x at *;simp only[xI,zo.eq_1,xB,pD,shx,h1,h2]
theorem jB{n:Nat}{k:Str}{d s:Int}(n13:n<=13)(hk:p4.getD n .zE=.str k)(hc:xR tZ qQ (.str k)=some (.int (n:Int)))(hf:wp [.str k]=some (true,.lst [.str "d",.str "s"]))(hd:wG [.str k,.str "d"]=some (false,.tup [.int 24,.int 3]))
  (hp:wG [.str k,.str "s"]=some (false,.tup [.int 21,.int 3]))(d0:0<=d)(d1:d<8)(s0:0<=s)(s1:s<8):Zl (.tup [.str k,.int d,.int s]) ((n:Int)*134217728+d*16777216+s*2097152):=by
 have hfw:=N8 (c:=(n:Int)) (d:=d) (s:=s) hf hd hp (by omega) (by omega) d0 d1 s0 s1;have h1:u5 [.int ((n:Int)*134217728+d*16777216+s*2097152),.str k,.str "d"]=some (false,.int (((n:Int)*134217728+d*16777216+s*2097152)/16777216%8)):=kH hd (by rfl) (by decide) (by decide) (by decide);have h2:u5 [.int ((n:Int)*134217728+d*16777216+s*2097152),.str k,.str "s"]=some (false,.int (((n:Int)*134217728+d*16777216+s*2097152)/2097152%8)):=kH hp (by rfl) (by decide) (by decide) (by decide);rw[show((n:Int)*134217728+d*16777216+s*2097152)/16777216%8=d by omega]at h1;rw[show((n:Int)*134217728+d*16777216+s*2097152)/2097152%8=s by omega]at h2;refine QV (by omega) (by omega) (by omega) (by omega) hk hc hf ?_ rfl (by simp) hfw;generalize (n:Int)*134217728+d*16777216+s*2097152=x at *;simp only[xI,zo.eq_1,xB,pD,shx,h1,h2]
theorem QT{n:Nat}{k:Str}{d s m:Int}(n17:n<=17)(hk:p4.getD n .zE=.str k)(hc:xR tZ qQ (.str k)=some (.int (n:Int)))(hf:wp [.str k]=some (true,.lst [.str "d",.str "s",.str "n"]))(hd:wG [.str k,.str "d"]=some (false,.tup [.int 24,.int 3]))
  (hp:wG [.str k,.str "s"]=some (false,.tup [.int 21,.int 3]))(hp2:wG [.str k,.str "n"]=some (false,.tup [.int 0,.int 8]))(d0:0<=d)(d1:d<8)(s0:0<=s)(s1:s<8)(m0:0<=m)(m1:m<256):Zl (.tup [.str k,.int d,.int s,.int m]) ((n:Int)*134217728+d*16777216+s*2097152+m):=by
 have hfw:=N9 (c:=(n:Int)) (d:=d) (s:=s) (n:=m) hf hd hp hp2 (by omega) (by omega) d0 d1 s0 s1 m0 m1;have h1:u5 [.int ((n:Int)*134217728+d*16777216+s*2097152+m),.str k,.str "d"]=some (false,.int (((n:Int)*134217728+d*16777216+s*2097152+m)/16777216%8)):=kH hd (by rfl) (by decide) (by decide) (by decide);have h2:u5 [.int ((n:Int)*134217728+d*16777216+s*2097152+m),.str k,.str "s"]=some (false,.int (((n:Int)*134217728+d*16777216+s*2097152+m)/2097152%8)):=kH hp (by rfl) (by decide) (by decide) (by decide);have h3:u5 [.int ((n:Int)*134217728+d*16777216+s*2097152+m),.str k,.str "n"]=some (false,.int (((n:Int)*134217728+d*16777216+s*2097152+m)/1%256)):=kH hp2 (by rfl) (by decide) (by decide) (by decide);rw[show((n:Int)*134217728+d*16777216+s*2097152+m)/16777216%8=d by omega]at h1;rw[show((n:Int)*134217728+d*16777216+s*2097152+m)/2097152%8=s by omega]at h2;rw[show((n:Int)*134217728+d*16777216+s*2097152+m)/1%256=m by omega]at h3;refine QV (by omega) (by omega) n17 (by omega) hk hc hf ?_ rfl (by simp) hfw;generalize (n:Int)*134217728+d*16777216+s*2097152+m=x at *;simp only[xI,zo.eq_1,xB,pD,shx,h1,h2,h3]
theorem aU{r:D}(h:uT r):∃v:Int,Zl r v:=by
 cases h with
 |stop=>exact⟨0,QV (n:=0) (fs:=[]) (by decide) (by decide) (by decide) (by decide) rfl rfl rfl rfl rfl (by simp) (IH (c:=0) (by decide) (by decide) rfl)⟩
 |Yx hw d0 d1 n0 n1=>
  rcases hw with rfl|rfl
  ·exact⟨_,QU (n:=1) (W:=16) (P:=65536) (by decide) rfl rfl rfl rfl rfl (by decide) (by decide) (by decide) (by decide) d0 d1 n0 n1 (by decide) (by omega)⟩
  ·exact⟨_,QU (n:=2) (W:=16) (P:=65536) (by decide) rfl rfl rfl rfl rfl (by decide) (by decide) (by decide) (by decide) d0 d1 n0 n1 (by decide) (by omega)⟩
 |two hw d0 d1 s0 s1=>
  rcases hw with rfl|rfl|rfl|rfl|rfl|rfl|rfl|rfl|rfl
  ·exact⟨_,jB (n:=3) (by decide) rfl rfl rfl rfl rfl d0 d1 s0 s1⟩
  ·exact⟨_,jB (n:=4) (by decide) rfl rfl rfl rfl rfl d0 d1 s0 s1⟩
  ·exact⟨_,jB (n:=5) (by decide) rfl rfl rfl rfl rfl d0 d1 s0 s1⟩
  ·exact⟨_,jB (n:=6) (by decide) rfl rfl rfl rfl rfl d0 d1 s0 s1⟩
  ·exact⟨_,jB (n:=7) (by decide) rfl rfl rfl rfl rfl d0 d1 s0 s1⟩
  ·exact⟨_,jB (n:=8) (by decide) rfl rfl rfl rfl rfl d0 d1 s0 s1⟩
  ·exact⟨_,jB (n:=9) (by decide) rfl rfl rfl rfl rfl d0 d1 s0 s1⟩
  ·exact⟨_,jB (n:=10) (by decide) rfl rfl rfl rfl rfl d0 d1 s0 s1⟩
  ·exact⟨_,jB (n:=11) (by decide) rfl rfl rfl rfl rfl d0 d1 s0 s1⟩
 |Yz hw d0 d1 n0 n1=>
  rcases hw with rfl|rfl
  ·exact⟨_,QU (n:=12) (W:=5) (P:=32) (by decide) rfl rfl rfl rfl rfl (by decide) (by decide) (by decide) (by decide) d0 d1 n0 n1 (by decide) (by omega)⟩
  ·exact⟨_,QU (n:=13) (W:=5) (P:=32) (by decide) rfl rfl rfl rfl rfl (by decide) (by decide) (by decide) (by decide) d0 d1 n0 n1 (by decide) (by omega)⟩
 |mem hw d0 d1 s0 s1 n0 n1=>
  rcases hw with rfl|rfl|rfl|rfl
  ·exact⟨_,QT (n:=14) (by decide) rfl rfl rfl rfl rfl rfl d0 d1 s0 s1 n0 n1⟩
  ·exact⟨_,QT (n:=15) (by decide) rfl rfl rfl rfl rfl rfl d0 d1 s0 s1 n0 n1⟩
  ·exact⟨_,QT (n:=16) (by decide) rfl rfl rfl rfl rfl rfl d0 d1 s0 s1 n0 n1⟩
  ·exact⟨_,QT (n:=17) (by decide) rfl rfl rfl rfl rfl rfl d0 d1 s0 s1 n0 n1⟩
def XG:D->D
 |.tup xs=>.tup xs.dropLast
 |d=>d
def cJ:D->Int
 |.tup (.str w::_)=>if w = "when" then 1 else if w = "unless" then 2 else 0
 |_=>0
def mJ:D->Int
 |.tup [_,.str k,_]=>if k = "nought" then 1 else if k = "sign" then 2 else 0
 |_=>0
structure UD(r y:D)(c m:Int):Prop where
 c0:0<=c
 c1:c<3
 m0:0<=m
 m1:m<3
 nw:∀d:Int,-16<=d->d<=15->gj [y,.int d]=some (false,.int ((18+c)*134217728+m*16777216+d%32))
 fw:∀d:Int,-1000<=d->d<=1000->jN [y,.int d]=some (true,.lst [.int ((21+c)*134217728+m*16777216),.int (d%4294967296)])
 nr:∀d:Int,uP [.int ((18+c)*134217728+m*16777216+d%32)]=some (false,XG r)
 fr:uP [.int ((21+c)*134217728+m*16777216)]=some (false,XG r)
 hd:∃R,XG r=.tup R/\R≠[]/\R.length<=2/\R.all yH=true
theorem DF{c:Int}{t:Str}(c0:0<=c)(c1:c<32):wL [.tup [.str "jump",.str t],.int c]=some (false,.int (c*134217728)):=by
 have hk:xR wM wN (.str "kind")=some (.tup [.int 27,.int 5]):=by rfl
 have hf:wp [.str "jump"]=some (true,.lst []):=by rfl
 have q1:=kX c0 c1;have sl:ji (.tup [.str "jump",.str t]) (some 1) none=some (.tup [.str t]):=by rfl
 rw[kE];unfold qo;simp![hk,q1,qy,hf,p_,pX,vd,vc,sl,pA,ZD]
theorem DE{c m:Int}{w k t:Str}(hw:w = "when" \/ w = "unless")(hm:XO XU (.str k)=some (.int m))(m0:0<=m)(m1:m<3)(c0:0<=c)(c1:c<32):wL [.tup [.str w,.str k,.str t],.int c]=some (false,.int (c*134217728+m*16777216)):=by
 have hk:xR wM wN (.str "kind")=some (.tup [.int 27,.int 5]):=by rfl
 have hf:wp [.str w]=some (true,.lst [.str "mark"]):=by rcases hw with rfl|rfl<;>rfl
 have hp:wG [.str w,.str "mark"]=some (false,.tup [.int 24,.int 2]):=by rcases hw with rfl|rfl<;>rfl
 have q1:=kX c0 c1;have q2:=put_at (x:=c*134217728) (l:=24) (d:=2) (n:=m) (m:=16777216) (by decide) (by decide) (by omega) m0 (by show m<4; omega) (by show c*134217728/16777216%4=0; omega) (by decide);have e1:yP (.str "mark") (.str "mark")=some (.bl true):=by rfl
 have sl:ji (.tup [.str w,.str k,.str t]) (some 1) none=some (.tup [.str k,.str t]):=by rfl
 rw[kE];unfold qo;simp![hk,q1,qy,hf,p_,pX,vd,vc,sl,pA,gQ,ZD,YF,e1,hm,hp,q2]
theorem Dx{y:D}{w:Str}{c m d:Int}(y0:zQ y (.int 0)=some (.str w))(n0:xR tj tq (.str w)=some (.int (18+c)))(c0:0<=c)(c1:c<3)(m0:0<=m)(m1:m<3)(f:wL [y,.int (18+c)]=some (false,.int ((18+c)*134217728+m*16777216)))(d0 : -16<=d)(d1:d<=15) :
  gj [y,.int d]=some (false,.int ((18+c)*134217728+m*16777216+d%32)):=by
 have hk:xR wM wN (.str "distance")=some (.tup [.int 0,.int 5]):=by rfl
 have i1:zQ (.tup [.int 0,.int 5]) (.int 1)=some (.int 5):=rfl;have u:=GK (d:=d) (W:=5) (by decide) (by decide) (by show(-32:Int)<=_; omega) (by show _<(32:Int); omega);have e32:d%2 ^ (5:Int).toNat=d%32:=rfl;rw[e32]at u;have q:=put_at (x:=(18+c)*134217728+m*16777216) (l:=0) (d:=5) (n:=d%32) (m:=1) (by decide) (by decide) (by omega) (by omega) (by show d%32<32; omega) (by show((18+c)*134217728+m*16777216)/1%32=0; omega) (by decide);rw[Nd];unfold Uc;generalize (18+c)*134217728+m*16777216=Z at *;simp![hk,i1,y0,n0,f,u,q,Qm]
theorem Bz{y:D}{w:Str}{c m d:Int}(y0:zQ y (.int 0)=some (.str w))(n0:xR tf tm (.str w)=some (.int (21+c)))(f:wL [y,.int (21+c)]=some (false,.int ((21+c)*134217728+m*16777216)))(d0 : -1000<=d)(d1:d<=1000) :
  jN [y,.int d]=some (true,.lst [.int ((21+c)*134217728+m*16777216),.int (d%4294967296)]):=by
 have u:=GK (d:=d) (W:=32) (by decide) (by decide) (by show(-4294967296:Int)<=_; omega) (by show _<(4294967296:Int); omega);have e32:d%2 ^ (32:Int).toNat=d%4294967296:=rfl;rw[e32]at u;rw[NO];unfold UM;simp![y0,n0,f,u]
theorem Fc{x Z:Int}{n:Nat}{k:Str}{fs R:List D}(x0:0<=x)(x1:x<4294967296)(hx:x/134217728=(n:Int))(n0:18<=n)(n1:n<=20)(hk:p4.getD n .zE=.str k)(hf:wp [.str k]=some (true,.lst fs))(hl:xI (zo 5) xB pD [some (false,.int x),some (false,.int (n:Int)),some (false,.str k),none,none,none] fs=some R)
  (hn:xY .zE (.tup (.str k::R))=some (.bl false))(hR:R.length<=3)(hz:wL [.tup (.str k::R),.int (n:Int)]=some (false,.int Z))(hZ:Z=x+(0-x%32)*1):uP [.int x]=some (false,.tup (.str k::R)):=by
 have hcc:=Zo x0 x1;rw[hx]at hcc;have hkk:=OJ (n:=n) (by omega);rw[hk]at hkk;have hnear:=Xg (n:=n) (by omega);rw[yh n0,yh n1,Z7]at hnear;have hw:u7 [.int x,.tup [.int 0,.int 5],.int 0]=some (false,.int (x+(0-x/1%32)*1)):=Lj ⟨⟨x0,by decide,by decide,by decide,by decide⟩,by decide,by decide⟩;rw[VF]at hw;have:=LH hcc hkk hf hl hn hR hnear (λ_=>hw) (λh=>by cases h) hz;rw[this,zN hZ]
theorem DC{x:Int}{n:Nat}{k:Str}{fs R:List D}(x0:0<=x)(x1:x<4294967296)(hx:x/134217728=(n:Int))(n0:21<=n)(n1:n<=23)(hk:p4.getD n .zE=.str k)(hf:wp [.str k]=some (true,.lst fs))(hl:xI (zo 5) xB pD [some (false,.int x),some (false,.int (n:Int)),some (false,.str k),none,none,none] fs=some R)
  (hn:xY .zE (.tup (.str k::R))=some (.bl false))(hR:R.length<=3)(hz:wL [.tup (.str k::R),.int (n:Int)]=some (false,.int x)):uP [.int x]=some (false,.tup (.str k::R)):=by
 have hcc:=Zo x0 x1;rw[hx]at hcc;have hkk:=OJ (n:=n) (by omega);rw[hk]at hkk;have hnear:=Xg (n:=n) (by omega);rw[ye (show ¬ n<=20 by omega),M0]at hnear;have:=LH hcc hkk hf hl hn hR hnear (λh=>by cases h) (λ_=>rfl) hz;rw[this,zN rfl]
theorem Pq{p:Int}{t:Str}:UD (.tup [.str "jump",.int p]) (.tup [.str "jump",.str t]) 0 0:=by
 refine⟨by decide,by decide,by decide,by decide,λd d0 d1=>?_,λd d0 d1=>?_,λd=>?_,?_,⟨_,rfl,by simp,by simp,rfl⟩⟩
 ·exact Dx (w := "jump") (c:=0) (m:=0) rfl rfl (by decide) (by decide) (by decide) (by decide) (DF (by decide) (by decide)) d0 d1
 ·exact Bz (w := "jump") (c:=0) (m:=0) rfl rfl (DF (by decide) (by decide)) d0 d1
 ·refine Fc (n:=18) (k := "jump") (fs:=[]) (R:=[]) (Z:=18*134217728) (by omega) (by omega) (by omega) (by decide) (by decide) rfl rfl rfl rfl (by simp) (IH (c:=18) (by decide) (by decide) rfl) (by omega)
 ·exact DC (n:=21) (k := "jump") (fs:=[]) (R:=[]) (by omega) (by omega) (by omega) (by decide) (by decide) rfl rfl rfl rfl (by simp) (IH (c:=21) (by decide) (by decide) rfl)
theorem Kf{w k:Str}{p:Int}{t:Str}(hw:w = "when" \/ w = "unless")(hk:k = "carry" \/ k = "nought" \/ k = "sign"):UD (.tup [.str w,.str k,.int p]) (.tup [.str w,.str k,.str t]) (cJ (.tup [.str w,.str k,.int p])) (mJ (.tup [.str w,.str k,.int p])):=by
 obtain⟨c,ec,c0,c1,hn,hfar,kn,kf⟩:∃c:Nat,cJ (.tup [.str w,.str k,.int p])=(c:Int)/\1<=c/\c<=2/\xR tj tq (.str w)=some (.int (18+(c:Int)))/\xR tf tm (.str w)=some (.int (21+(c:Int)))/\p4.getD (18+c) .zE=.str w/\p4.getD (21+c) .zE=.str w:=by
  rcases hw with rfl|rfl
  ·exact⟨1,by rfl,by decide,by decide,by rfl,by rfl,rfl,rfl⟩
  ·exact⟨2,by rfl,by decide,by decide,by rfl,by rfl,rfl,rfl⟩
 obtain⟨m,em,m1,hm,mk⟩:∃m:Nat,mJ (.tup [.str w,.str k,.int p])=(m:Int)/\m<3/\XO XU (.str k)=some (.int (m:Int))/\Dq.getD m .zE=.str k:=by
  rcases hk with rfl|rfl|rfl
  ·exact⟨0,by rfl,by decide,by rfl,rfl⟩
  ·exact⟨1,by rfl,by decide,by rfl,rfl⟩
  ·exact⟨2,by rfl,by decide,by rfl,rfl⟩
 rw[ec,em];have hf:wp [.str w]=some (true,.lst [.str "mark"]):=by rcases hw with rfl|rfl<;>rfl
 have hp:wG [.str w,.str "mark"]=some (false,.tup [.int 24,.int 2]):=by rcases hw with rfl|rfl<;>rfl
 have held:∀x:Int,x/16777216%4=(m:Int)->u5 [.int x,.str w,.str "mark"]=some (false,.str k):=λx hx=>by
  have:=Nx (x:=x) hp;rw[hx,xU,mk]at this;exact this
 refine⟨by omega,by omega,by omega,by omega,λd d0 d1=>?_,λd d0 d1=>?_,λd=>?_,?_,⟨_,rfl,by simp,by simp,rfl⟩⟩
 ·exact Dx rfl hn (by omega) (by omega) (by omega) (by omega) (DE hw hm (by omega) (by omega) (by omega) (by omega)) d0 d1
 ·exact Bz rfl hfar (DE hw hm (by omega) (by omega) (by omega) (by omega)) d0 d1
 ·have hh:=held ((18+(c:Int))*134217728+(m:Int)*16777216+d%32) (by omega);refine Fc (n:=18+c) (k:=w) (fs:=[.str "mark"]) (R:=[.str k]) (Z:=((18+c:Nat):Int)*134217728+(m:Int)*16777216) (by omega) (by omega) (by omega) (by omega) (by omega) kn hf ?_ rfl (by simp) (DG hf hp hm (by omega) (by omega) (by omega) (by omega)) (by omega);generalize (18+(c:Int))*134217728+(m:Int)*16777216+d%32=x at *;simp only[xI,zo.eq_1,xB,pD,shx,hh]
 ·have hh:=held ((21+(c:Int))*134217728+(m:Int)*16777216) (by omega);have hz:=DG (c:=((21+c:Nat):Int)) hf hp hm (by omega) (by omega) (by omega) (by omega);rw[show((21+c:Nat):Int)*134217728+(m:Int)*16777216=(21+(c:Int))*134217728+(m:Int)*16777216 by omega]at hz;refine DC (n:=21+c) (k:=w) (fs:=[.str "mark"]) (R:=[.str k]) (by omega) (by omega) (by omega) (by omega) (by omega) kf hf ?_ rfl (by simp) hz;generalize (21+(c:Int))*134217728+(m:Int)*16777216=x at *;simp only[xI,zo.eq_1,xB,pD,shx,hh]
theorem Po{n:Int}{L:List D}{r y:D}(h:jY n r)(hf:uR L r y):UD r y (cJ r) (mJ r):=by
 obtain⟨hd,a,t,ex,ey⟩:=hf.2.2.1.2 (by obtain⟨_,_,_,_,_,z,_⟩:=qS h; exact z);cases h with
 |qH p0 p1=>
  match hd,ex,ey with
  | [q],ex,ey=>
   cases ex;subst ey;exact Pq
  | [],ex,_=>cases ex
  |_::_::_,ex,_=>simp at ex
 |cond hw hk p0 p1=>
  match hd,ex,ey with
  | [q,q2],ex,ey=>
   cases ex;subst ey;exact Kf hw hk
  | [],ex,_=>cases ex
  | [_],ex,_=>cases ex
  |_::_::_::_,ex,_=>simp at ex
def yV(qs:List Nat):List D:=qs.map λi:Nat=>D.int i
theorem PF(q:Nat)(qs:List Nat):pZ (.int (q:Int)) (.lst (yV qs))=some (decide (q∈qs)):=by
 have ha:(yV qs).all yH=true:=wm.mpr λy hy=>by
  obtain⟨p,_,rfl⟩:=xQ.mp hy;rfl
 show(match yH (.int (q:Int))&&(yV qs).all yH with|true=>some ((yV qs).any λy=>yM y (.int (q:Int)))|false=>none)=_;rw[ha];show some _=_
 congr 1
 have e:∀y:Nat,yM (.int (y:Int)) (.int (q:Int))=((y:Int)==(q:Int)):=λy=>by unfold yM; rfl
 by_cases h:q∈qs
 ·rw[yh h];exact jE.mpr ⟨.int (q:Int),xQ.mpr ⟨q,h,rfl⟩,by rw[e]; exact pH _⟩
 ·rw[ye h];cases z:(yV qs).any λy=>yM y (.int (q:Int))with
  |false=>rfl
  |true=>
   obtain⟨d,hd,w⟩:=jE.mp z;obtain⟨y,hy,rfl⟩:=xQ.mp hd;rw[e,ZF]at w;have:y=q:=by omega
   exact absurd (this▸hy) h
theorem DM(n:Nat):∀qs:List Nat,yb (qs.map λi:Nat=>Sum.inl (i:Int)) (.inl (n:Int))=decide (n∈qs)
 | []=>rfl
 |a::qs=>by
  show(decide ((Sum.inl (a:Int):Sum Int Str)=.inl (n:Int))||yb (qs.map λi:Nat=>Sum.inl (i:Int)) (.inl (n:Int)))=_;rw[DM n qs];by_cases h:a=n
  ·subst h;rw[yh (p:=(Sum.inl (a:Int):Sum Int Str)=.inl (a:Int)) rfl,yh (xV ..)];rfl
  ·rw[ye (p:=(Sum.inl (a:Int):Sum Int Str)=.inl (n:Int)) (λe=>h (by have:=pG e; omega)),Bool.false_or];refine decide_eq_decide.mpr ⟨λz=>wQ _ z,λz=>?_⟩;rcases yT.mp z with z|z
   ·exact absurd z.symm h
   ·exact z
def xT:Option Nat->D
 |none=>.zE
 |some p=>.int (p:Int)
theorem OT{g:FG}{e:FE}{σ:yB}(v:Nat->D):∀{ds:List D}(k:Nat),(∀i d,ds[i]?=some d->∃σ1,g d σ=some σ1/\e σ1=some (v (k+i)))->xI g xB e σ ds=some ((List.range' k ds.length).map v)
 | [],_,_=>rfl
 |d::ds,k,h=>by
  obtain⟨σ1,e1,e2⟩:=h 0 d rfl
  have ih:=OT v (ds:=ds) (k+1) λi d' hd=>by
   rw[show k+1+i=k+(i+1) by omega];exact h (i+1) d' (by simpa using hd)
  show(g d σ).bind _=_;rw[e1];show(e σ1).bind _=_;rw[e2];show(xI g xB e σ ds).bind _=_;rw[ih];rfl
theorem Rj(T:List Nat):(yV T).length=T.length:=by unfold yV; rw[zx]
def pN(n:Nat)(p:Nat->Bool):List Nat:=(List.range n).filter p
theorem Tq{n:Nat}{p:Nat->Bool}{i:Nat}:i∈pN n p↔i<n/\p i=true:=by
 unfold pN;rw[qd,vi]
theorem Oq:∀(ns acc:List Int),acc.Nodup->(ns.foldl pR acc).Nodup/\∀x,x∈ns.foldl pR acc↔x∈acc\/x∈ns
 | [],acc,h=>⟨h,λx=>⟨.inl,λz=>z.elim id λz=>by cases z⟩⟩
 |n::ns,acc,h=>by
  rw[Z8];by_cases c:(acc.any λm=>decide (m=n))=true
  ·have e:pR acc n=acc:=zN c;rw[e];obtain⟨a,b⟩:=Oq ns acc h;refine⟨a,λx=>(b x).trans ⟨λz=>z.imp id (wQ _),λz=>z.elim .inl λz=>?_⟩⟩;rcases yT.mp z with rfl|z
   ·obtain⟨m,hm,e⟩:=jE.mp c;exact .inl (w_ e▸hm)
   ·exact .inr z
  ·have e:pR acc n=acc++[n]:=zS c;rw[e];have hn:n ∉ acc:=λz=>c (jE.mpr ⟨n,z,yh rfl⟩)
   obtain⟨a,b⟩:=Oq ns (acc++[n]) (List.nodup_append.mpr ⟨h,VL.mpr ⟨wR,ML⟩,λx hx y hy z=>hn (by cases vB.mp hy; exact z▸hx)⟩);refine⟨a,λx=>(b x).trans ?_⟩;rw[uI,vB,yT];exact⟨λz=>z.elim (λz=>z.elim .inl λz=>.inr (.inl z)) λz=>.inr (.inr z),λz=>z.elim (λz=>.inl (.inl z)) λz=>z.elim (λz=>.inl (.inr z)) .inr⟩
theorem Dp:∀{a b:List Int},a.Pairwise (·<·)->b.Pairwise (·<·)->(∀x,x∈a↔x∈b)->a=b
 | [],[],_,_,_=>rfl
 | [],y::b,_,_,h=>by have:=(h y).mpr xV; cases this
 |x::a,[],_,_,h=>by have:=(h x).mp xV; cases this
 |x::a,y::b,ha,hb,h=>by
  rw[ZC]at ha hb
  have e:x=y:=by
   rcases yT.mp ((h x).mp xV)with z|z
   ·exact z
   ·rcases yT.mp ((h y).mpr xV)with w|w
    ·exact w.symm
    ·have:=hb.1 x z;have:=ha.1 y w;omega
  subst e
  rw[Dp ha.2 hb.2 λz=>⟨λhz=>by
   rcases yT.mp ((h z).mp (wQ _ hz))with w|w
   ·have:=ha.1 z hz; omega
   ·exact w,λhz=>by
   rcases yT.mp ((h z).mpr (wQ _ hz))with w|w
   ·have:=hb.1 z hz; omega
   ·exact w⟩]
theorem AV(n:Nat)(p:Nat->Bool):((pN n p).map λi:Nat=>(i:Int)).Pairwise (·<·):=by
 rw[List.pairwise_map];unfold pN;exact List.Pairwise.filter _ (MO.imp λh=>by omega)
theorem Es{n:Nat}{l:List Nat}(hl:l.length<1000){p:Nat->Bool}(hn:(pN n p).length<64)(h:∀i,i∈l↔i<n/\p i=true):Zt [.lst (yV l)]=some (.lst (yV (pN n p))):=by
 have e0:intsOf (yV l)=some (l.map λi:Nat=>(i:Int)):=by
  have:=OB (l.map λi:Nat=>(i:Int));rw[vA]at this;exact this
 obtain⟨nd,mem⟩:=Oq (l.map λi:Nat=>(i:Int)) [] ML;have pm:=L2.isort_perm (t5 (l.map λi:Nat=>(i:Int)))
 have s0:(L2.isort (t5 (l.map λi:Nat=>(i:Int)))).Pairwise (·<·):=by
  have n1:(L2.isort (t5 (l.map λi:Nat=>(i:Int)))).Nodup:=pm.nodup_iff.mpr nd;exact(L2.isort_sorted (t5 (l.map λi:Nat=>(i:Int)))).imp₂ (λa b h1 h2=>by have:a≠b:=h2; omega) n1
 have eq:L2.isort (t5 (l.map λi:Nat=>(i:Int)))=(pN n p).map λi:Nat=>(i:Int):=Dp s0 (AV n p) λx=>by
  rw[pm.mem_iff,show x∈t5 (l.map λi:Nat=>(i:Int))↔x∈([]:List Int)\/x∈l.map (λi:Nat=>(i:Int))from mem x]
  constructor
  ·rintro(z|z)
   ·cases z
   ·obtain⟨i,hi,rfl⟩:=xQ.mp z;exact xQ.mpr ⟨i,Tq.mpr ((h i).mp hi),rfl⟩
  ·intro z;obtain⟨i,hi,rfl⟩:=xQ.mp z;exact .inr (xQ.mpr ⟨i,(h i).mpr (Tq.mp hi),rfl⟩)
 have len:(t5 (l.map λi:Nat=>(i:Int))).length<64:=by
  rw[<-pm.length_eq,eq,zx];exact hn
 show(intsOf (yV l)).bind _=_;rw[e0];show(if(l.map λi:Nat=>(i:Int)).length<1000/\(t5 (l.map λi:Nat=>(i:Int))).length<64 then some (D.lst ((L2.isort (t5 (l.map λi:Nat=>(i:Int)))).map D.int))else none)=_;rw[zN ⟨by rw[zx]; exact hl,len⟩,eq,vA];rfl
theorem Pp{hd:List D}{t u:Str}(h1:hd≠[])(h2:hd.length<=2):T6 (.tup (hd++[.str t])) none (some (-1))=some (.tup hd)/\zQ (.tup (hd++[.str t])) (.int (-1))=some (.str t)/\yo (.tup hd) (.tup [.str u])=some (.tup (hd++[.str u])):=by
 match hd,h1,h2 with
 | [a],_,_=>exact⟨rfl,rfl,rfl⟩
 | [a,b],_,_=>exact⟨rfl,rfl,rfl⟩
 | [],h,_=>exact absurd rfl h
 |_::_::_::_,_,h=>simp at h
def kN:FS:=(zL (zh 1 (e2 yo (e2 zQ (eC (.str "abcdefghijklmnopqrstuvwxyz")) (e2 y_ (e2 uX (z7 2) (eC (.int 1))) (eL xo (zA (eC (.str "abcdefghijklmnopqrstuvwxyz")) zG)))) (z7 1)))
    (zh 2 (e2 wS (e2 uX (z7 2) (eC (.int 1))) (eL xo (zA (eC (.str "abcdefghijklmnopqrstuvwxyz")) zG)))))
def gz:FT:=(tE (e2 (xi λi j=>decide (j<i)) (z7 2) (eC (.int 0))))
def Ua:FS:=
 (zL (zh 1 (eC (.str "")))
  (zL (zh 2 (e2 yo (z7 0) (eC (.int 1))))
  (zL (YR gz
   kN)
  (yD (z7 1)))))
def gi:List D->Option (Bool×D):=FR 1 3 Ua
theorem cQ:∀ds r,gi ds=some r->ds.length=1/\zc 3 Ua ds=some r:=yX
theorem Nb(x0:D):gi [x0]=zc 3 Ua [x0]:=rfl
def nm(n:Nat):Str:=if n<26 then lt (n:Int) ++ "" else lt (((n:Int)-26)/26)++(lt (((n:Int)-26)%26) ++ "")
theorem Rw{n left:Int}{acc:Str}(hl:acc.length<=100):kN [some (false,.int n),some (false,.str acc),some (false,.int left)]=some (.nx [some (false,.int n),some (false,.str (lt ((left-1)%26)++acc)),some (false,.int ((left-1)/26))]):=by
 have hi:=UE (k:=(left-1)%26) (by omega) (by omega);have ha:=add_str (a:=lt ((left-1)%26)) (b:=acc) (by rw[YH]; omega);unfold kN;simp![HY,hi,ha]
theorem C9{n left:Int}{acc:Str}:gz [some (false,.int n),some (false,.str acc),some (false,.int left)]=some (decide (0<left)):=by
 unfold gz;simp![]
theorem Ol{n left:Int}{acc:Str}{k:Nat}(h:0<left)(hl:acc.length<=100):vh gz kN (k+1) [some (false,D.int n),some (false,.str acc),some (false,.int left)] =
  vh gz kN k [some (false,.int n),some (false,.str (lt ((left-1)%26)++acc)),some (false,.int ((left-1)/26))]:=Lh (C9.trans (by rw[yh h])) (Rw hl)
theorem C8{n left:Int}{acc:Str}{k:Nat}(h:¬ 0<left):vh gz kN (k+1) [some (false,D.int n),some (false,.str acc),some (false,.int left)]=some (.nx [some (false,D.int n),some (false,.str acc),some (false,.int left)]):=
 Lg (C9.trans (by rw[ye h]))
theorem Rt{n:Nat}(h:n<702):gi [.int (n:Int)]=some (false,.str (nm n)):=by
 have fin:∀{s:Str}{left:Int},YR gz kN [some (false,.int (n:Int)),some (false,.str ""),some (false,.int ((n:Int)+1))]=some (.nx [some (false,.int (n:Int)),some (false,.str s),some (false,.int left)])->gi [.int (n:Int)]=some (false,.str s):=λ{s left} h=>by
  rw[Nb];unfold Ua;simp![add_int,h]
 unfold nm
 split
 ·refine fin (left:=((n:Int)+1-1)/26) (T_ 2 ((Ol (by omega) (by decide)).trans ?_));rw[C8 (by omega),show((n:Int)+1-1)%26=n by omega]
 ·refine fin (left:=(((n:Int)+1-1)/26-1)/26) (T_ 3 ((Ol (by omega) (by decide)).trans ((Ol (by omega) (by rw[OU,YH]; decide)).trans ?_)));rw[C8 (by omega),show((n:Int)+1-1)%26=((n:Int)-26)%26 by omega,show(((n:Int)+1-1)/26-1)%26=((n:Int)-26)/26 by omega]
theorem De(v:Nat->D):∀qs:List Nat,qU (qs.map λi:Nat=>D.tup [.int i,v i])=some (qs.map λi:Nat=>Sum.inl (i:Int),qs.map v)
 | []=>rfl
 |a::qs=>by
  show(qT (.int (a:Int))).bind _=_;show(qU (qs.map λi:Nat=>D.tup [.int i,v i])).bind _=_;rw[De v qs];rfl
theorem DK(v:Nat->D)(n:Nat):∀(qs:List Nat)(as:List (Sum Int Str)) (ds:List D),as.length=ds.length->getK (xD as ds (qs.map λi:Nat=>Sum.inl (i:Int)) (qs.map v)).1 (xD as ds (qs.map λi:Nat=>Sum.inl (i:Int)) (qs.map v)).2 (.inl (n:Int))=if n∈qs then some (v n)else getK as ds (.inl (n:Int))
 | [],as,ds,_=>by rw[zS wR]; unfold xD; rfl
 |a::qs,as,ds,h=>by
  show getK (xD (xr as (.inl (a:Int))) (xz as ds (.inl (a:Int)) (v a)) (qs.map λi:Nat=>Sum.inl (i:Int)) (qs.map v)).1 (xD (xr as (.inl (a:Int))) (xz as ds (.inl (a:Int)) (v a)) (qs.map λi:Nat=>Sum.inl (i:Int)) (qs.map v)).2 (.inl (n:Int))=_;rw[DK v n qs _ _ (kY h),IP h];by_cases c:n∈qs
  ·rw[zN c,zN (wQ _ c)]
  ·rw[zS c];by_cases e:a=n
   ·subst e;rw[zN rfl,zN (xV ..)]
   ·rw[zS (λz=>e (by have:=pG z; omega)),zS (λz=>(yT.mp z).elim (λz=>e z.symm) c)]
theorem Ks(v:Nat->D)(qs:List Nat):∃K V,jg [.lst (qs.map λi:Nat=>D.tup [.int i,v i])]=some (.dic K V)/\(∀n:Nat,yb K (.inl (n:Int))=decide (n∈qs))/\∀n∈qs,getK K V (.inl (n:Int))=some (v n):=by
 refine⟨(xD [] [] (qs.map λi:Nat=>Sum.inl (i:Int)) (qs.map v)).1,(xD [] [] (qs.map λi:Nat=>Sum.inl (i:Int)) (qs.map v)).2,?_,λn=>?_,λn hn=>?_⟩
 ·show(qU _).bind _=_;rw[De];rfl
 ·rw[TN (by simp),DM];rfl
 ·rw[DK v n qs [] [] rfl,zN hn]
def GY:FE:=(z7 2)
def Lr:FT:=(tE (e2 kB (z7 2) (eC .zE)))
def Qa:FE:=(xO (zA (z7 3) (zA (zd gi (zA (z7 2) zG)) zG)))
def Ub:FS:=
 (zL (zh 1 (eL Zt (zA (xm 1 (vo (z7 0)) (zo 2) Lr GY) zG)))
  (qC (eL jg (zA (xm 2 (tz (z7 1)) (v8 2 3) xB Qa) zG))))
def Zd:List D->Option (Bool×D):=FR 1 2 Ub
theorem cR:∀ds r,Zd ds=some r->ds.length=1/\zc 2 Ub ds=some r:=yX
theorem Nc(x0:D):Zd [x0]=zc 2 Ub [x0]:=rfl
def Td:FS:=(zL (yO (tE (e2 xY (z7 4) (z7 2)))
     (xt 3 xh (xO (zA (eC (.str "label")) (zA (e2 zQ (z7 2) (z7 4)) zG))))
     ym)
    (xt 3 xh (u9 (tE (e2 qr (e2 zQ (z7 1) (z7 4)) (eC .zE))) (z7 5) (e2 yo (z7 5) (xO (zA (e2 zQ (z7 2) (e2 zQ (z7 1) (z7 4))) zG))))))
def UR:FS:=
 (zL (zh 2 (zd Zd (zA (z7 1) zG)))
  (zL (uE 3 (wA zG))
  (zL (vf (tz (z7 0)) (v8 4 5)
   Td)
  (zL (yO (tE (e2 xY (eL xo (zA (z7 0) zG)) (z7 2)))
   (xt 3 xh (xO (zA (eC (.str "label")) (zA (e2 zQ (z7 2) (eL xo (zA (z7 0) zG))) zG))))
   ym)
  (p9 3)))))
def ZW:List D->Option (Bool×D):=FR 2 6 UR
theorem cA:∀ds r,ZW ds=some r->ds.length=2/\zc 6 UR ds=some r:=yX
theorem NT(x0 x1:D):ZW [x0,x1]=zc 6 UR [x0,x1]:=rfl
def vw(tgs:List (Option Nat)):List Nat:=tgs.filterMap id
def yF(n:Nat)(tgs:List (Option Nat)):List Nat:=pN (n+1) λi=>decide (i∈vw tgs)
theorem Ch{n:Nat}{tgs:List (Option Nat)}(h:∀p,some p∈tgs->p<=n){p:Nat}:p∈yF n tgs↔some p∈tgs:=by
 unfold yF vw;rw[Tq,Mb,VJ]
 constructor
 ·rintro⟨_,a,ha,e⟩;have e:a=some p:=e;exact e▸ha
 ·exact λz=>⟨MT (h p z),some p,z,rfl⟩
def wu(n:Nat)(tgs:List (Option Nat))(p:Nat):Str:=nm ((yF n tgs).idxOf p)
theorem Ci(n:Nat)(tgs:List (Option Nat)):(yF n tgs).Nodup:=by
 unfold yF pN;exact List.Nodup.sublist List.filter_sublist List.nodup_range
theorem Os:∀tgs:List (Option Nat),(tgs.map xT).filter (λd=>!jl d)=yV (vw tgs)
 | []=>rfl
 |none::tgs=>by
  rw[wD,Yn (by decide),Os tgs];rfl
 |some p::tgs=>by
  rw[wD,gL (by rfl),Os tgs];rfl
theorem Ri{n:Nat}{tgs:List (Option Nat)}(hn:(yF n tgs).length<=60)(hl:tgs.length<=900)(h:∀p,some p∈tgs->p<=n) :
  ∃K V,Zd [.lst (tgs.map xT)]=some (true,.dic K V)/\(∀p:Nat,yb K (.inl (p:Int))=decide (p∈yF n tgs))/\∀p∈yF n tgs,getK K V (.inl (p:Int))=some (.str (wu n tgs p)):=by
 have e1:=kO (g:=zo 2) (c:=Lr) (e:=GY) (σ:=[some (false,.lst (tgs.map xT)),none,none]) (λd=>!jl d) id (ds:=tgs.map xT) λd hd=>by
  refine⟨_,rfl,?_,λ_=>rfl⟩;unfold Lr;simp![]
 rw[ZB,Os]at e1
 have e2:=Es (n:=n+1) (l:=vw tgs) (by
  have:(vw tgs).length<=tgs.length:=MI _ _;omega) (p:=λi=>decide (i∈vw tgs)) (show(yF n tgs).length<64 by omega) λi=>by
  rw[Mb];refine⟨λz=>⟨?_,z⟩,λz=>z.2⟩;obtain⟨a,ha,e⟩:=VJ.mp z;have e:a=some i:=e;exact MT (h i (e▸ha))
 have e2:Zt [.lst (yV (vw tgs))]=some (.lst (yV (yF n tgs))):=e2;obtain⟨K,V,e4,hK,hV⟩:=Ks (λp=>.str (wu n tgs p)) (yF n tgs)
 have e3:xI (v8 2 3) xB Qa [some (false,.lst (tgs.map xT)),some (false,.lst (yV (yF n tgs))),none,none] (wV (yV (yF n tgs)))=some ((yF n tgs).map λp:Nat=>D.tup [.int p,.str (wu n tgs p)]):=by
  have:=OT (g:=v8 2 3) (e:=Qa) (σ:=[some (false,.lst (tgs.map xT)),some (false,.lst (yV (yF n tgs))),none,none]) (λi=>match(yF n tgs)[i]? with|some p=>D.tup [.int p,.str (wu n tgs p)]|none=>.zE) (ds:=wV (yV (yF n tgs))) 0 λi d hd=>by
   rw[ju]at hd;unfold yV at hd;rw[xM]at hd;cases hp:(yF n tgs)[i]? with
   |none=>rw[hp]at hd; cases hd
   |some p=>
    rw[hp]at hd;cases hd;have hi:=(xE.mp hp).1
    have ix:(yF n tgs).idxOf p=i:=by
     have e:(yF n tgs)[i]=p:=(xE.mp hp).2;rw[<-e];exact(Ci n tgs).idxOf_getElem i hi
    have nf:=Rt (n:=i) (by omega);refine⟨_,rfl,?_⟩;rw[xw,hp];show _=some (D.tup [.int p,.str (nm ((yF n tgs).idxOf p))]);rw[ix];unfold Qa;generalize yV (yF n tgs)=PP at *;generalize tgs.map xT=TT at *;simp![nf]
  rw[this,<-Ge,t_,Rj];refine congrArg some (Ym λi=>?_);rw[xM,xM];by_cases hi:i<(yF n tgs).length
  ·rw[qc hi,yS hi];show some (match(yF n tgs)[i]? with|some p=>D.tup [.int p,.str (wu n tgs p)]|none=>.zE)=_;rw[yS hi];rfl
  ·rw[uH (by rw[vx]; omega),uH (by omega)];rfl
 refine⟨K,V,?_,hK,hV⟩;rw[Nc];unfold Ub;generalize (yF n tgs).map (λp:Nat=>D.tup [.int p,.str (wu n tgs p)])=PR at *;generalize yV (yF n tgs)=PP at *;generalize yV (vw tgs)=NN at *;generalize tgs.map xT=TT at *;simp![e1,e2,tz,e3,e4]
def Hn:D->Str->D
 |.tup xs,s=>.tup (xs++[.str s])
 |d,_=>d
def xq(n:Nat)(tgs:List (Option Nat))(p:Nat):List D:=if p∈yF n tgs then[we (wu n tgs p)]else[]
def j5(n:Nat)(tgs:List (Option Nat))(r:D):Option Nat->D
 |none=>r
 |some p=>Hn r (wu n tgs p)
def xA(rows:List D)(tgs:List (Option Nat)):Nat->List D
 |0=>[]
 |i+1=>xA rows tgs i++(xq rows.length tgs i++[j5 rows.length tgs (rows.getD i .zE) (tgs.getD i none)])
def ua(rows:List D)(tgs:List (Option Nat)):List D:=xA rows tgs rows.length++xq rows.length tgs rows.length
theorem Tg(n:Nat)(tgs:List (Option Nat))(p:Nat):(xq n tgs p).length<=1:=by
 unfold xq
 split
 ·exact zr _
 ·exact uK _
theorem Xe(rows:List D)(tgs:List (Option Nat)):∀i,(xA rows tgs i).length<=2*i
 |0=>zr _
 |i+1=>by
  unfold xA;rw[yj,yj,Gw];have:=Xe rows tgs i;have:=Tg rows.length tgs i;omega
theorem RA{rows:List D}{tgs:List (Option Nat)}(hn:rows.length<=400)(hq:(yF rows.length tgs).length<=60)(hl:tgs.length=rows.length)(h:∀p,some p∈tgs->p<=rows.length)(hr:∀i p:Nat,tgs[i]?=some (some p)->∃hd:List D,rows[i]?=some (D.tup hd)/\hd≠[]/\hd.length<=2) :
  ZW [.lst rows,.lst (tgs.map xT)]=some (true,.lst (ua rows tgs)):=by
 obtain⟨K,V,e1,hK,hV⟩:=Ri hq (by omega) h
 have inK:∀p:Nat,xY (.int (p:Int)) (.dic K V)=some (.bl (decide (p∈yF rows.length tgs))):=λp=>by
  show(some (yb K (.inl (p:Int)))).bind _=_;rw[hK];rfl
 have ixK:∀p∈yF rows.length tgs,zQ (.dic K V) (.int (p:Int))=some (.str (wu rows.length tgs p)):=λp hp=>hV p hp
 have lab:∀(p:Nat)(L:List D)(f:FE)(σ:yB),σ[3]?=some (some (true,.lst L))->σ[2]?=some (some (false,.dic K V))->f σ=some (.int (p:Int))->L.length<=900->(∀L',f (σ.set 3 L')=f σ)->yO (tE (e2 xY f (z7 2))) (xt 3 xh (xO (zA (eC (.str "label")) (zA (e2 zQ (z7 2) f) zG)))) ym σ=some (.nx (σ.set 3 (some (true,.lst (L++xq rows.length tgs p))))):=λp L f σ h3 h2 hf hL _=>by
  have i1:=inK p;unfold xq;by_cases c:p∈yF rows.length tgs
  ·rw[zN c];rw[yh c]at i1;have i2:=ixK p c;have ap:=tV (L:=L) (r:=we (wu rows.length tgs p)) (by omega);unfold we at *;simp![hf,h2,i1,i2,h3,ap]
  ·rw[zS c,ui];rw[ye c]at i1
   have e:σ.set 3 (some (true,.lst L))=σ:=by
    refine Ym λj=>?_
    rw[Qo];by_cases z:3=j
    ·subst z;rw[zN rfl,zN (xE.mp h3).1,h3]
    ·rw[zS z]
   rw[e];simp![hf,h2,i1]
 obtain⟨σ',e2,x4,x5,rfl⟩:=uz (g:=v8 4 5) (b:=Td) (λi σ=>∃(x4 x5:Option Sl),σ=[some (false,.lst rows),some (false,.lst (tgs.map xT)),some (false,.dic K V),some (true,.lst (xA rows tgs i)),x4,x5]) (ds:=wV rows)
  (σ:=[some (false,.lst rows),some (false,.lst (tgs.map xT)),some (false,.dic K V),some (true,.lst []),none,none]) 0 ⟨none,none,rfl⟩ (by
  rintro i d σ hd ⟨x4,x5,rfl⟩;rw[xw]at *;rw[ju]at hd;cases hx:rows[i]? with
  |none=>rw[hx]at hd; cases hd
  |some r=>
   rw[hx]at hd;cases hd;have hi:=(xE.mp hx).1;have ll:=Xe rows tgs i;have la:=Tg rows.length tgs i;have er:rows.getD i .zE=r:=by rw[vH,hx]; rfl
   have ht:tgs[i]?=some tgs[i]:=yS (by omega);have et:tgs.getD i none=tgs[i]:=by rw[vH,ht]; rfl
   have it:zQ (.lst (tgs.map xT)) (.int (i:Int))=some (xT tgs[i]):=pS (by omega) (by rw[xU,xM,ht]; rfl);have s1:=lab i (xA rows tgs i) (z7 4) [some (false,.lst rows),some (false,.lst (tgs.map xT)),some (false,.dic K V),some (true,.lst (xA rows tgs i)),some (false,.int (i:Int)),some (false,r)] rfl rfl rfl (by omega) (λ_=>rfl);have ap0:=tV (L:=xA rows tgs i++xq rows.length tgs i) (r:=j5 rows.length tgs r tgs[i]) (by rw[yj]; omega);refine⟨_,[some (false,.lst rows),some (false,.lst (tgs.map xT)),some (false,.dic K V),some (true,.lst (xA rows tgs (i+1))),some (false,.int (i:Int)),some (false,r)],rfl,.inl ?_,_,_,rfl⟩;show Td [some (false,.lst rows),some (false,.lst (tgs.map xT)),some (false,.dic K V),some (true,.lst (xA rows tgs i)),some (false,.int (i:Int)),some (false,r)]=some (Fl.nx [some (false,.lst rows),some (false,.lst (tgs.map xT)),some (false,.dic K V),some (true,.lst (xA rows tgs i++(xq rows.length tgs i++[j5 rows.length tgs (rows.getD i .zE) (tgs.getD i none)]))),some (false,.int (i:Int)),some (false,r)]);rw[er,et,<-gK];unfold Td;rw[uF s1];show xt 3 xh _ [some (false,.lst rows),some (false,.lst (tgs.map xT)),some (false,.dic K V),some (true,.lst (xA rows tgs i++xq rows.length tgs i)),some (false,.int (i:Int)),some (false,r)]=_;cases hg:tgs[i]with
   |none=>
    rw[hg]at it ap0;have it:zQ (.lst (tgs.map xT)) (.int (i:Int))=some .zE:=it;have ap:xh (.lst (xA rows tgs i++xq rows.length tgs i)) r=some (.lst (xA rows tgs i++xq rows.length tgs i++[r])):=ap0;clear ap0;show _=some (Fl.nx [some (false,.lst rows),some (false,.lst (tgs.map xT)),some (false,.dic K V),some (true,.lst (xA rows tgs i++xq rows.length tgs i++[r])),some (false,.int (i:Int)),some (false,r)]);generalize tgs.map xT=TT at *;generalize xA rows tgs i++xq rows.length tgs i=LL at *;simp![it,ap]
   |some p=>
    rw[hg]at it ap0 ht;obtain⟨hd,hx',n1,n2⟩:=hr i p ht;rw[hx]at hx';cases hx';have hp:p∈yF rows.length tgs:=(Ch h).mpr (tJ ht);have i2:=ixK p hp;have z:qr (.int (p:Int)) .zE=some (.bl false):=rfl;have it:zQ (.lst (tgs.map xT)) (.int (i:Int))=some (.int (p:Int)):=it;have ad:=(Pp (t := "") (u:=wu rows.length tgs p) n1 n2).2.2;have ap:xh (.lst (xA rows tgs i++xq rows.length tgs i)) (.tup (hd++[.str (wu rows.length tgs p)]))=some (.lst (xA rows tgs i++xq rows.length tgs i++[.tup (hd++[.str (wu rows.length tgs p)])])):=ap0;clear ap0;show _=some (Fl.nx [some (false,.lst rows),some (false,.lst (tgs.map xT)),some (false,.dic K V),some (true,.lst (xA rows tgs i++xq rows.length tgs i++[.tup (hd++[.str (wu rows.length tgs p)])])),some (false,.int (i:Int)),some (false,.tup hd)]);generalize wu rows.length tgs p=u at *;generalize tgs.map xT=TT at *;generalize xA rows tgs i++xq rows.length tgs i=LL at *;generalize D.tup (hd++[.str u])=dd at *;generalize D.tup hd=dh at *;simp![it,z,i2,ad,ap])
 rw[t_,xw]at e2;have ll:=Xe rows tgs rows.length;have s3:=lab rows.length (xA rows tgs rows.length) (eL xo (zA (z7 0) zG)) [some (false,.lst rows),some (false,.lst (tgs.map xT)),some (false,.dic K V),some (true,.lst (xA rows tgs rows.length)),x4,x5] rfl rfl rfl (by omega) (λ_=>rfl);rw[NT];unfold UR;show((zL _ _ [some (false,.lst rows),some (false,.lst (tgs.map xT)),none,none,none,none]).bind _)=_
 rw[uF (σ':=[some (false,.lst rows),some (false,.lst (tgs.map xT)),some (false,.dic K V),none,none,none]) (by
  generalize tgs.map xT=TT at *;simp![e1])]
 rw[uF (σ':=[some (false,.lst rows),some (false,.lst (tgs.map xT)),some (false,.dic K V),some (true,.lst []),none,none]) (by simp![])]
 rw[uF (σ':=[some (false,.lst rows),some (false,.lst (tgs.map xT)),some (false,.dic K V),some (true,.lst (xA rows tgs rows.length)),x4,x5]) (by
  generalize tgs.map xT=TT at *;simp![tz,e2])]
 rw[uF s3];rfl
def OR:FS:=(zL (p8 1 (z7 2) (z7 3))
    (zL (zh 2 (e2 zQ (z7 3) (eC (.int 1))))
    (zh 3 (zd uq (zA (z7 0) (zA (z7 2) zG))))))
def Uu:FT:=(tE (e2 kB (z7 3) (eC .zE)))
def Uo:FS:=
 (zL (uE 1 (eC (.dic [] [])))
  (zL (zh 2 (eC (.int 0)))
  (zL (zh 3 (zd uq (zA (z7 0) (zA (z7 2) zG))))
  (zL (YR Uu
   OR)
  (p9 1)))))
def jT:List D->Option (Bool×D):=FR 1 4 Uo
theorem ci:∀ds r,jT ds=some r->ds.length=1/\zc 4 Uo ds=some r:=yX
theorem Np(x0:D):jT [x0]=zc 4 Uo [x0]:=rfl
def Ll:FE:=(e2 zQ (z7 1) (eC (.int 1)))
def UH:FS:=
 (yD (e2 IB (xm 1 (qx 0) (zo 1) xB Ll) (eC (.int 0))))
def ZR:List D->Option (Bool×D):=FR 1 1 UH
theorem bd:∀ds r,ZR ds=some r->ds.length=1/\zc 1 UH ds=some r:=yX
theorem NG(x0:D):ZR [x0]=zc 1 UH [x0]:=rfl
def OS:FS:=(zL (zh 5 (e2 zQ (z7 4) (eC (.int 2))))
    (yO (Yc (tE (e2 kB (z7 5) (eC .zE))) (Yc (tE (e2 vZ (z7 5) (z7 2))) (tE (e2 XN (z7 5) (z7 1)))))
     (yD (z7 3))
     ym))
def Uq:FS:=
 (zL (zh 1 (zd jT (zA (z7 0) zG)))
  (zL (zh 2 (zd ZR (zA (z7 1) zG)))
  (zL (yO (tE (e2 vZ (z7 2) (eL xo (zA (z7 0) zG))))
   (yD (z7 2))
   ym)
  (zL (vf (Y9 1) (v8 3 4)
   OS)
  (yD (eC .zE))))))
def jU:List D->Option (Bool×D):=FR 1 6 Uq
theorem cm:∀ds r,jU ds=some r->ds.length=1/\zc 6 Uq ds=some r:=yX
theorem Nr(x0:D):jU [x0]=zc 6 Uq [x0]:=rfl
def Uk:FS:=
 (zL (zh 1 (zd jU (zA (z7 0) zG)))
  (zL (yO (tE (e2 kB (z7 1) (eC .zE)))
   (λ_=>none)
   ym)
  (yD (zd jT (zA (z7 0) zG)))))
def Zf:List D->Option (Bool×D):=FR 1 2 Uk
theorem cb:∀ds r,Zf ds=some r->ds.length=1/\zc 2 Uk ds=some r:=yX
theorem Nm(x0:D):Zf [x0]=zc 2 Uk [x0]:=rfl
def OQ:FS:=(p8 2 (z7 4) (z7 3))
def Lp:FE:=(e2 zQ (z7 7) (eC (.int 0)))
def Qb:FE:=(u9 (tE (e2 qr (e2 zQ (z7 7) (eC (.int 2))) (eC .zE))) (eC .zE) (e2 zQ (z7 2) (e2 zQ (z7 7) (eC (.int 2)))))
def Ug:FS:=
 (zL (zh 1 (zd Zf (zA (z7 0) zG)))
  (zL (uE 2 (Jt (eL xo (zA (z7 0) zG)) (eL J_ (zA (z7 1) zG))))
  (zL (vf (Y8 1) (v8 3 4)
   OQ)
  (zL (g9 2) (zL (zh 5 (xm 1 (qx 1) (zo 7) xB Lp))
  (zL (zh 6 (xm 1 (qx 1) (zo 7) xB Qb))
  (qC (qO ZW (zA (z7 5) (zA (z7 6) zG))))))))))
def jQ:List D->Option (Bool×D):=FR 1 7 Ug
theorem cX:∀ds r,jQ ds=some r->ds.length=1/\zc 7 Ug ds=some r:=yX
theorem Ni(x0:D):jQ [x0]=zc 7 Ug [x0]:=rfl
def tA(A:Nat->Int):Option Nat->D
 |none=>.zE
 |some p=>.int (A p)
structure Tb(ws:List D)(n:Nat)(A:Nat->Int)(b:Nat->D)(tg:Nat->Option Nat):Prop where
 up:∀i,i<n->A i<A (i+1)
 z:A 0=0
 e:A n=(ws.length:Int)
 told:∀i,i<n->uq [.lst ws,.int (A i)]=some (false,.tup [b i,.int (A (i+1)),tA A (tg i)])
 fin:uq [.lst ws,.int (A n)]=some (false,.zE)
 le:∀i p,i<n->tg i=some p->p<=n
 J8:n<=400
def vG(A:Nat->Int)(b:Nat->D)(tg:Nat->Option Nat)(i:Nat):D:=.tup [b i,.int (A (i+1)),tA A (tg i)]
def yA(A:Nat->Int)(n:Nat):List (Sum Int Str):=(List.range n).map λi=>.inl (A i)
def yJ(A:Nat->Int)(b:Nat->D)(tg:Nat->Option Nat)(n:Nat):List D:=(List.range n).map (vG A b tg)
theorem Cv{ks:List (Sum Int Str)}{vs:List D}{k:Sum Int Str}{v:D}(h:yb ks k=false):xr ks k=ks++[k]/\xz ks vs k v=vs++[v]:=by
 unfold xr xz;rw[h];exact⟨rfl,rfl⟩
theorem Dg(A:Nat->Int)(n:Nat):yA A (n+1)=yA A n++[.inl (A n)]:=by
 unfold yA;rw[Qt,gP];rfl
theorem nG(A:Nat->Int)(b:Nat->D)(tg:Nat->Option Nat)(n:Nat):yJ A b tg (n+1)=yJ A b tg n++[vG A b tg n]:=by
 unfold yJ;rw[Qt,gP];rfl
theorem Xb(A:Nat->Int)(n:Nat):(yA A n).length=n:=by
 unfold yA;rw[zx,vx]
theorem Df{A:Nat->Int}{n:Nat}{x:Int}:yb (yA A n) (.inl x)=true↔∃i,i<n/\A i=x:=by
 unfold yb yA;rw[jE]
 constructor
 ·rintro⟨k,hk,e⟩;obtain⟨i,hi,rfl⟩:=xQ.mp hk;exact⟨i,vi.mp hi,pG (w_ e)⟩
 ·rintro⟨i,hi,rfl⟩;exact⟨_,xQ.mpr ⟨i,vi.mpr hi,rfl⟩,yh rfl⟩
section
variable{ws:List D}{n:Nat}{A:Nat->Int}{b:Nat->D}{tg:Nat->Option Nat}(T:Tb ws n A b tg)
include T
theorem Tb.lt{i j:Nat}(h:i<j)(hj:j<=n):A i<A j:=by
 induction j with
 |zero=>omega
 |succ j ih=>
  have u:=T.up j (by omega);by_cases e:i=j
  ·rw[e]; exact u
  ·have:=ih (by omega) (by omega);omega
theorem Tb.inj{i j:Nat}(hi:i<=n)(hj:j<=n)(e:A i=A j):i=j:=by
 rcases Nat.lt_trichotomy i j with h|h|h
 ·have:=T.lt h hj; omega
 ·exact h
 ·have:=T.lt h hi; omega
theorem Tb.new{i:Nat}(hi:i<=n):yb (yA A i) (.inl (A i))=false:=by
 cases c:yb (yA A i) (.inl (A i))with
 |false=>rfl
 |true=>
  obtain⟨j,hj,e⟩:=Df.mp c;have:=T.inj (by omega) hi e;omega
def gE(n:Nat)(A:Nat->Int)(b:Nat->D)(tg:Nat->Option Nat)(i:Nat):D:=if i<n then vG A b tg i else .zE
theorem Tb.tell{i:Nat}(hi:i<=n):uq [.lst ws,.int (A i)]=some (false,gE n A b tg i):=by
 unfold gE;by_cases h:i<n
 ·rw[zN h];exact T.told i h
 ·have e:i=n:=by omega
  rw[zS h,e];exact T.fin
theorem GT:∀(k i:Nat),i+k=n->vh Uu OR (k+1) [some (false,.lst ws),some (true,.dic (yA A i) (yJ A b tg i)),some (false,.int (A i)),some (false,gE n A b tg i)]=some (.nx [some (false,.lst ws),some (true,.dic (yA A n) (yJ A b tg n)),some (false,.int (A n)),some (false,.zE)])
 |0,i,h=>by
  have e:i=n:=by omega
  subst e;have ht:gE i A b tg i=.zE:=zS (wJ _);rw[ht];refine Lg ?_;unfold Uu;simp![]
 |k+1,i,h=>by
  have hi:i<n:=by omega
  have ht:gE n A b tg i=vG A b tg i:=zN hi;rw[ht,Lh (σ':=[some (false,.lst ws),some (true,.dic (yA A (i+1)) (yJ A b tg (i+1))),some (false,.int (A (i+1))),some (false,gE n A b tg (i+1))])]
  ·exact GT k (i+1) (by omega)
  ·unfold Uu vG;simp![]
  ·obtain⟨p1,p2⟩:=Cv (vs:=yJ A b tg i) (v:=vG A b tg i) (T.new (jF hi));have tl:=T.tell (i:=i+1) hi;have hl:(yA A i).length<yn:=by rw[Xb]; have:=T.J8; show i<16777216; omega
   have i1:zQ (vG A b tg i) (.int 1)=some (.int (A (i+1))):=rfl
   have hp:p8 1 (z7 2) (z7 3) [some (false,.lst ws),some (true,.dic (yA A i) (yJ A b tg i)),some (false,.int (A i)),some (false,vG A b tg i)]=some (.nx [some (false,.lst ws),some (true,.dic (yA A (i+1)) (yJ A b tg (i+1))),some (false,.int (A i)),some (false,vG A b tg i)]):=by
    rw[Dg,nG,<-p1,<-p2];show(if(yA A i).length<yn then _ else _)=_;rw[zN hl];rfl
   unfold OR;generalize yA A (i+1)=K1 at *;generalize yJ A b tg (i+1)=V1 at *;generalize yA A i=K0 at *;generalize yJ A b tg i=V0 at *;generalize vG A b tg i=TD at *;generalize gE n A b tg (i+1)=TL at *;simp![hp,i1,tl]
theorem GU:jT [.lst ws]=some (true,.dic (yA A n) (yJ A b tg n)):=by
 have e0:=T.tell (i:=0) (uK _);rw[T.z]at e0;have lp:=T_ (n+1) (GT T n 0 (xw n)) (by have:=T.J8; show n+1<=100000000; omega);rw[T.z]at lp;have k0:yA A 0=[]:=rfl;have v0:yJ A b tg 0=[]:=rfl;rw[k0,v0]at lp;rw[Np];unfold Uo;generalize gE n A b tg 0=TL at *;generalize yA A n=KK at *;generalize yJ A b tg n=VV at *;simp![e0,lp]
theorem Hs:ZR [.dic (yA A n) (yJ A b tg n)]=some (false,.int (A n)):=by
 have e1:xI (zo 1) xB Ll [some (false,.dic (yA A n) (yJ A b tg n)),none] (yJ A b tg n)=some (((List.range n).map λi=>A (i+1)).map D.int):=by
  have:=jn (g:=zo 1) (e:=Ll) (σ:=[some (false,.dic (yA A n) (yJ A b tg n)),none]) (λd=>match d with|.tup [_,x,_]=>x|_=>.zE) (ds:=yJ A b tg n) λd hd=>by
   obtain⟨i,_,rfl⟩:=xQ.mp hd;exact⟨_,rfl,rfl⟩
  rw[this];unfold yJ;rw[vA,vA];rfl
 have e2:IB (.lst (((List.range n).map λi=>A (i+1)).map D.int)) (.int 0)=some (.int (A n)):=by
  show(kL _).bind _=_;rw[DT];show some (if(List.range n).map (λi=>A (i+1))=[]then _ else _)=_;by_cases c:n=0
  ·subst c;show some (D.int 0)=some (D.int (A 0));rw[T.z]
  ·rw[zS (by
    intro h;have:=congrArg List.length h;rw[zx,vx]at this;exact c this)]
   have:A n=L2.maxI ((List.range n).map λi=>A (i+1)):=by
    refine L2.maxI_uniq ?_ λy hy=>?_
    ·exact xQ.mpr ⟨n-1,vi.mpr (by omega),by rw[MV (by omega)]⟩
    ·obtain⟨i,hi,rfl⟩:=xQ.mp hy;have hi:=vi.mp hi;by_cases e:i+1=n
     ·rw[e]; exact Ql _
     ·exact VG (T.lt (by omega) (zr _))
   rw[<-this]
 rw[NG];unfold UH;generalize ((List.range n).map λi=>A (i+1)).map D.int=LL at *;have e0:qx 0 [some (false,.dic (yA A n) (yJ A b tg n))]=some (yJ A b tg n):=rfl;generalize yA A n=KK at *;generalize yJ A b tg n=VV at *;simp![e0,e1,e2]
def TY(A:Nat->Int)(b:Nat->D)(tg:Nat->Option Nat)(n:Nat):List D:=(List.range n).map λi=>D.tup [.int (A i),vG A b tg i]
omit T in
theorem Pe{x2 x3 x4 x5:Option Sl}:Y9 1 [some (false,.lst ws),some (false,.dic (yA A n) (yJ A b tg n)),x2,x3,x4,x5]=some (TY A b tg n):=by
 have h:(yA A n).all uC=true:=wm.mpr λk hk=>by
  obtain⟨i,_,rfl⟩:=xQ.mp hk;rfl
 show(if(yA A n).all uC=true then some (j3 (yA A n) (yJ A b tg n))else none)=_;rw[zN h];unfold j3 yA yJ TY;refine congrArg some (Ym λi=>?_);rw[Qq,xM,xM,xM];cases(List.range n)[i]? with
 |none=>rfl
 |some j=>rfl
theorem B_:jU [.lst ws]=some (false,.zE):=by
 have e1:=GU T;have e2:=Hs T;have ne:vZ (.int (A n)) (.int (ws.length:Int))=some (.bl false):=by rw[T.e]; exact Oa (YA rfl)
 obtain⟨σ',e3,x3,x4,x5,rfl⟩:=uz (g:=v8 3 4) (b:=OS) (λi σ=>∃x3 x4 x5,σ=[some (false,.lst ws),some (false,.dic (yA A n) (yJ A b tg n)),some (false,.int (A n)),x3,x4,x5]) (ds:=TY A b tg n)
  (σ:=[some (false,.lst ws),some (false,.dic (yA A n) (yJ A b tg n)),some (false,.int (A n)),none,none,none]) 0 ⟨none,none,none,rfl⟩ (by
  rintro i v σ hv ⟨x3,x4,x5,rfl⟩;obtain⟨j,hj,rfl⟩:=xQ.mp (tJ hv);have hj:=vi.mp hj;refine⟨_,[some (false,.lst ws),some (false,.dic (yA A n) (yJ A b tg n)),some (false,.int (A n)),some (false,.int (A j)),some (false,vG A b tg j),some (false,tA A (tg j))],rfl,.inl ?_,_,_,_,rfl⟩;have i2:zQ (vG A b tg j) (.int 2)=some (tA A (tg j)):=rfl;unfold OS;cases h:tg j with
  |none=>
   rw[h]at i2;have t0:tA A none=.zE:=rfl;rw[t0]at i2 ⊢;generalize vG A b tg j=TD at *;generalize yA A n=KK at *;generalize yJ A b tg n=VV at *;simp![i2]
  |some p=>
   rw[h]at i2;have t0:tA A (some p)=.int (A p):=rfl;rw[t0]at i2 ⊢;have hp:=T.le j p hj h;by_cases e:p=n
   ·have q:vZ (.int (A p)) (.int (A n))=some (.bl false):=by rw[e]; exact Oa (YA rfl)
    generalize vG A b tg j=TD at *;generalize yA A n=KK at *;generalize yJ A b tg n=VV at *;simp![i2,q]
   ·have q:vZ (.int (A p)) (.int (A n))=some (.bl true):=Oa (YB (by have:=T.lt (i:=p) (j:=n) (by omega) (zr _); omega))
    have hin:XN (.int (A p)) (.dic (yA A n) (yJ A b tg n))=some (.bl false):=by
     show(some (yb (yA A n) (.inl (A p)))).bind _=_;rw[Df.mpr ⟨p,by omega,rfl⟩];rfl
    generalize vG A b tg j=TD at *;generalize yA A n=KK at *;generalize yJ A b tg n=VV at *;simp![i2,q,hin])
 have e4:=Pe (ws:=ws) (A:=A) (b:=b) (tg:=tg) (n:=n) (x2:=some (false,.int (A n))) (x3:=none) (x4:=none) (x5:=none);rw[Nr];unfold Uq;generalize TY A b tg n=IT at *;generalize yA A n=KK at *;generalize yJ A b tg n=VV at *;simp![e1,e2,ne,e4,e3]
theorem iB:Zf [.lst ws]=some (false,.dic (yA A n) (yJ A b tg n)):=by
 have e1:=B_ T;have e2:=GU T;rw[Nm];unfold Uk;generalize yA A n=KK at *;generalize yJ A b tg n=VV at *;simp![e1,e2]
def wU(A:Nat->Int)(n i:Nat):List (Sum Int Str):=.inl (A n)::yA A i
def wv(n i:Nat):List D:=.int (n:Int)::(List.range i).map λj:Nat=>.int (j:Int)
omit T in
theorem DJ{n:Nat}{A:Nat->Int}(inj:∀i j,i<=n->j<=n->A i=A j->i=j){p:Nat}(hp:p<n)(f:Nat->D):∀(l:List Nat),p∈l->(∀i∈l,i<=n)->getK (l.map λi=>Sum.inl (A i)) (l.map f) (.inl (A p))=some (f p)
 | [],h,_=>by cases h
 |a::l,h,hl=>by
  show(if(Sum.inl (A a):Sum Int Str)=.inl (A p)then some (f a)else getK (l.map λi=>Sum.inl (A i)) (l.map f) (.inl (A p)))=_;by_cases e:A a=A p
  ·have:=inj a p (hl a xV) (jF hp) e;subst this;rw[zN rfl]
  ·rw[zS (λz=>e (pG z))];rcases yT.mp h with rfl|h
   ·exact absurd rfl e
   ·exact DJ inj hp f l h λi hi=>hl i (wQ _ hi)
theorem Rx{p:Nat}(hp:p<=n):getK (wU A n n) (wv n n) (.inl (A p))=some (.int (p:Int)):=by
 show(if(Sum.inl (A n):Sum Int Str)=.inl (A p)then some (D.int (n:Int))else getK (yA A n) ((List.range n).map λj:Nat=>D.int (j:Int)) (.inl (A p)))=_;by_cases e:p=n
 ·subst e;rw[zN rfl]
 ·rw[zS (λz=>e (T.inj hp (zr _) (pG z).symm))];exact DJ (λi j hi hj h=>T.inj hi hj h) (show p<n by omega) (λj:Nat=>D.int (j:Int)) (List.range n) (vi.mpr (by omega)) λi hi=>jF (vi.mp hi)
theorem Ry{i:Nat}(hi:i<n):yb (wU A n i) (.inl (A i))=false:=by
 show(decide ((Sum.inl (A n):Sum Int Str)=.inl (A i))||yb (yA A i) (.inl (A i)))=false;rw[T.new (jF hi),Qh]
 exact ye λz=>by
  have:=T.lt hi (zr _);have:=pG z;omega
theorem bW(hq:(yF n ((List.range n).map tg)).length<=60)(hr:∀i p,i<n->tg i=some p->∃hd:List D,b i=.tup hd/\hd≠[]/\hd.length<=2):jQ [.lst ws]=some (true,.lst (ua ((List.range n).map b) ((List.range n).map tg))):=by
 have e1:=iB T;have hf:=T.J8
 have e2:Jt (eL xo (zA (z7 0) zG)) (eL J_ (zA (z7 1) zG)) [some (false,.lst ws),some (false,.dic (yA A n) (yJ A b tg n)),none,none,none,none,none]=some (.dic (wU A n 0) (wv n 0)):=by
  show some (D.dic [.inl (ws.length:Int)] [.int ((yA A n).length:Int)])=_;rw[<-T.e,Xb];rfl
 have en:Y8 1 [some (false,.lst ws),some (false,.dic (yA A n) (yJ A b tg n)),some (true,.dic (wU A n 0) (wv n 0)),none,none,none,none]=some (wV ((yA A n).map keyOf)):=by
  have h:(yA A n).all uC=true:=wm.mpr λk hk=>by
   obtain⟨i,_,rfl⟩:=xQ.mp hk;rfl
  show(if(yA A n).all uC=true then _ else _)=_;rw[zN h]
 obtain⟨σ',e3,x3,x4,rfl⟩:=uz (g:=v8 3 4) (b:=OQ) (λi σ=>∃x3 x4,σ=[some (false,.lst ws),some (false,.dic (yA A n) (yJ A b tg n)),some (true,.dic (wU A n i) (wv n i)),x3,x4,none,none]) (ds:=wV ((yA A n).map keyOf))
  (σ:=[some (false,.lst ws),some (false,.dic (yA A n) (yJ A b tg n)),some (true,.dic (wU A n 0) (wv n 0)),none,none,none,none]) 0 ⟨none,none,rfl⟩ (by
  rintro i v σ hv ⟨x3,x4,rfl⟩;rw[xw]at *;rw[ju,xM]at hv
  have hi:i<n:=by
   cases z:(yA A n)[i]? with
   |none=>rw[z]at hv; cases hv
   |some y=>
    have:=(xE.mp z).1;rw[Xb]at this;exact this
  have hk:(yA A n)[i]?=some (.inl (A i)):=by
   unfold yA;rw[xM,qc hi];rfl
  rw[hk]at hv;cases hv;refine⟨_,[some (false,.lst ws),some (false,.dic (yA A n) (yJ A b tg n)),some (true,.dic (wU A n (i+1)) (wv n (i+1))),some (false,.int (i:Int)),some (false,.int (A i)),none,none],rfl,.inl ?_,_,_,rfl⟩;obtain⟨p1,p2⟩:=Cv (vs:=wv n i) (v:=.int (i:Int)) (Ry T hi)
  have s1:wU A n (i+1)=wU A n i++[.inl (A i)]:=by
   unfold wU;rw[Dg];rfl
  have s2:wv n (i+1)=wv n i++[.int (i:Int)]:=by
   unfold wv;rw[Qt,gP];rfl
  rw[s1,s2,<-p1,<-p2];unfold OQ;show(if(wU A n i).length<yn then _ else _)=_;rw[zN (by unfold wU; rw[xc,Xb]; show i+1<16777216; omega)];rfl)
 rw[t_,zx,Xb,xw]at e3
 have lc1:xI (zo 7) xB Lp [some (false,.lst ws),some (false,.dic (yA A n) (yJ A b tg n)),some (false,.dic (wU A n n) (wv n n)),x3,x4,none,none,none] (yJ A b tg n)=some ((List.range n).map b):=by
  have:=jn (g:=zo 7) (e:=Lp) (σ:=[some (false,.lst ws),some (false,.dic (yA A n) (yJ A b tg n)),some (false,.dic (wU A n n) (wv n n)),x3,x4,none,none,none]) (λd=>match d with|.tup [x,_,_]=>x|_=>.zE) (ds:=yJ A b tg n) λd hd=>by
   obtain⟨i,_,rfl⟩:=xQ.mp hd;exact⟨_,rfl,rfl⟩
  rw[this];unfold yJ;rw[vA];rfl
 have lc2:xI (zo 7) xB Qb [some (false,.lst ws),some (false,.dic (yA A n) (yJ A b tg n)),some (false,.dic (wU A n n) (wv n n)),x3,x4,some (false,.lst ((List.range n).map b)),none,none] (yJ A b tg n)=some (((List.range n).map tg).map xT):=by
  have:=OT (g:=zo 7) (e:=Qb) (σ:=[some (false,.lst ws),some (false,.dic (yA A n) (yJ A b tg n)),some (false,.dic (wU A n n) (wv n n)),x3,x4,some (false,.lst ((List.range n).map b)),none,none]) (λi=>xT (tg i)) (ds:=yJ A b tg n) 0 λi d hd=>by
   unfold yJ at hd;rw[xM]at hd
   have hi:i<n:=by
    cases z:(List.range n)[i]? with
    |none=>rw[z]at hd; cases hd
    |some y=>
     have:=(xE.mp z).1;rw[vx]at this;exact this
   rw[qc hi]at hd;cases hd;refine⟨_,rfl,?_⟩;rw[xw];have i2:zQ (vG A b tg i) (.int 2)=some (tA A (tg i)):=rfl;unfold Qb;cases h:tg i with
   |none=>
    rw[h]at i2;have t0:tA A none=.zE:=rfl;rw[t0]at i2;generalize vG A b tg i=TD at *;generalize yA A n=KK at *;generalize wU A n n=KN at *;generalize wv n n=VN at *;simp![i2];rfl
   |some p=>
    rw[h]at i2;have t0:tA A (some p)=.int (A p):=rfl;rw[t0]at i2;have ix:zQ (.dic (wU A n n) (wv n n)) (.int (A p))=some (.int (p:Int)):=Rx T (T.le i p hi h);generalize vG A b tg i=TD at *;generalize yA A n=KK at *;generalize wU A n n=KN at *;generalize wv n n=VN at *;simp![i2,ix];rfl
  rw[this,<-Ge];have l:(yJ A b tg n).length=n:=by unfold yJ; rw[zx,vx]
  rw[l,vA];rfl
 have lb:=RA (rows:=(List.range n).map b) (tgs:=(List.range n).map tg) (by rw[zx,vx]; exact hf) (by rw[zx,vx]; exact hq) (by rw[zx,zx]) (λp hp=>by
  obtain⟨i,hi,e⟩:=xQ.mp hp;rw[zx,vx];exact T.le i p (vi.mp hi) e) λi p hp=>by
  rw[xM]at hp
  have hi:i<n:=by
   cases z:(List.range n)[i]? with
   |none=>rw[z]at hp; cases hp
   |some y=>
    have:=(xE.mp z).1;rw[vx]at this;exact this
  rw[qc hi]at hp;obtain⟨hd,e,h1,h2⟩:=hr i p hi (vV hp);refine⟨hd,?_,h1,h2⟩;rw[xM,qc hi];exact congrArg some e
 have d0:∀σ:yB,σ[1]?=some (some (false,.dic (yA A n) (yJ A b tg n)))->qx 1 σ=some (yJ A b tg n):=λσ h=>by
  unfold qx;rw[h]
 have d1:=d0 [some (false,.lst ws),some (false,.dic (yA A n) (yJ A b tg n)),some (false,.dic (wU A n n) (wv n n)),x3,x4,none,none] rfl;have d2:=d0 [some (false,.lst ws),some (false,.dic (yA A n) (yJ A b tg n)),some (false,.dic (wU A n n) (wv n n)),x3,x4,some (false,.lst ((List.range n).map b)),none] rfl;rw[Ni];unfold Ug;generalize ua ((List.range n).map b) ((List.range n).map tg)=LA at *;generalize ((List.range n).map tg).map xT=TG at *;generalize (List.range n).map b=RB at *;generalize wV ((yA A n).map keyOf)=NK at *;generalize yA A n=KK at *;generalize yJ A b tg n=VV at *;generalize wU A n n=KN at *;generalize wv n n=VN at *;generalize wU A n 0=KN0 at *;generalize wv n 0=VN0 at *;simp![e1,e2,en,e3,d1,lc1,d2,lc2,lb]
end
def xX(r:D):Nat:=match p5 r with
 |.int p=>p.toNat
 |_=>0
def GW(c m d:Int)(zB:Bool):List Int:=bif zB then[(21+c)*134217728+m*16777216,d%4294967296]else[(18+c)*134217728+m*16777216+d%32]
def jw(r:D):Int:=match gk [r]with
 |some (_,.int v)=>v
 |_=>0
def dJ(rows:List D)(zB:List Nat)(i:Nat):Int:=xC (zZ zB) (xX (rows.getD i .zE))-xC (zZ zB) i
def wI(rows:List D)(zB:List Nat)(i:Nat):List Int:=bif yq (rows.getD i .zE)then GW (cJ (rows.getD i .zE)) (mJ (rows.getD i .zE)) (dJ rows zB i) (zZ zB i)else[jw (rows.getD i .zE)]
def xH(rows:List D)(zB:List Nat):Nat->List Int
 |0=>[]
 |n+1=>xH rows zB n++wI rows zB n
def vn(rows:List D)(i:Nat):D:=bif yq (rows.getD i .zE)then XG (rows.getD i .zE)else rows.getD i .zE
def wb(rows:List D)(i:Nat):Option Nat:=bif yq (rows.getD i .zE)then some (xX (rows.getD i .zE))else none
structure Wr(rows zF:List D)(zB:List Nat):Prop where
 it:∀d∈zF,wq d
 li:zF.length<=1000
 he:wo (uR zF) rows (zF.filter λd=>!yc d)
 hr:∀r∈rows,v6 (rows.length:Int) r
 hn:rows.length<64
 hg:gF rows zB=[]
 hj:∀i,zZ zB i=true->yq (rows.getD i .zE)=true
structure W1(rows zF:List D)(zB:List Nat)(i:Nat)(y:D):Prop where
 yi:(zF.filter λd=>!yc d)[i]?=some y
 pl:yq (rows.getD i .zE)=false->y=rows.getD i .zE/\Zl y (jw y)/\zZ zB i=false/\tgt (rows.getD i .zE)=.zE
 jm:yq (rows.getD i .zE)=true->UD (rows.getD i .zE) y (cJ (rows.getD i .zE)) (mJ (rows.getD i .zE))/\xX (rows.getD i .zE)<=rows.length/\tgt (rows.getD i .zE)=.int (xX (rows.getD i .zE):Nat)/\(zZ zB i=false -> -16<=dJ rows zB i/\dJ rows zB i<=15) /\ -200<=dJ rows zB i/\dJ rows zB i<=200
theorem XD(f:Nat->Bool):∀n:Nat,0<=xC f n/\xC f n<=2*n
 |0=>⟨Ql _,Ql _⟩
 |n+1=>by
  obtain⟨a,b⟩:=XD f n;show 0<=xC f n+(if f n then 2 else 1)/\xC f n+(if f n then 2 else 1)<=_
  split<;>omega
section
variable{rows zF:List D}{zB:List Nat}(W:Wr rows zF zB)
include W
theorem Wr.one{i:Nat}(hi:i<rows.length):∃y,W1 rows zF zB i y:=by
 obtain⟨y,ey,hf⟩:=Bm W.he (yS hi);have eg:rows.getD i .zE=rows[i]:=by rw[vH,yS hi]; rfl
 have hR:=W.hr _ (uj hi);refine⟨y,ey,λhj=>?_,λhj=>?_⟩
 ·rw[eg]at hj ⊢
  have pr:uT rows[i]:=by
   rcases hR with h|h
   ·exact h
   ·obtain⟨_,_,_,_,_,z,_⟩:=qS h;rw[z]at hj;cases hj
  have yr:y=rows[i]:=hf.2.2.1.1 hj;obtain⟨v,w⟩:=aU pr;refine⟨yr,?_,?_,?_⟩
  ·rw[yr];have:jw rows[i]=v:=by unfold jw; rw[w.w]
   rw[this];exact w
  ·cases c:zZ zB i with
   |false=>rfl
   |true=>
    have:=W.hj i c;rw[eg,hj]at this;cases this
  ·unfold tgt;rw[hj]
 ·rw[eg]at hj ⊢
  have jr:jY (rows.length:Int) rows[i]:=by
   rcases hR with h|h
   ·obtain⟨_,_,_,_,z,_⟩:=j4 h;rw[z]at hj;cases hj
   ·exact h
  obtain⟨_,p,_,_,_,_,_,_,lp,p0,p1⟩:=qS jr;have hp:xX rows[i]=p.toNat:=by unfold xX; rw[lp]
  have pn:(xX rows[i]:Int)=p:=by rw[hp]; omega
  have tp:tgt rows[i]=.int (xX rows[i]:Nat):=by
   unfold tgt;rw[hj,pn];exact lp
  have a1:=XD (zZ zB) (xX rows[i]);have a2:=XD (zZ zB) i;have hn:=W.hn;have ed:dJ rows zB i=xC (zZ zB) (xX rows[i])-xC (zZ zB) i:=by unfold dJ; rw[eg]
  refine⟨Po jr hf,by omega,tp,λhF=>?_,by omega,by omega⟩
  have aw:pT rows zB i=false:=by
   cases z:pT rows zB i with
   |false=>rfl
   |true=>
    have:i∈gF rows zB:=qd.mpr ⟨qd.mpr ⟨vi.mpr hi,by rw[hF]; rfl⟩,z⟩;rw[W.hg]at this;cases this
  unfold pT at aw;rw[eg,tp]at aw;have nb:(decide (-16<=xC (zZ zB) (xX rows[i])-xC (zZ zB) i)&&decide (xC (zZ zB) (xX rows[i])-xC (zZ zB) i<=15))=true:=by simpa [Ob,dv]using aw
  rw[xP]at nb;rw[ed];exact⟨w_ nb.1,w_ nb.2⟩
theorem Wr.HL{i:Nat}(hi:i<rows.length):((wI rows zB i).length:Int)=if zZ zB i then 2 else 1:=by
 obtain⟨y,h⟩:=W.one hi;unfold wI;cases hj:yq (rows.getD i .zE)with
 |false=>
  rw[(h.pl hj).2.2.1];rfl
 |true=>
  unfold GW;cases zZ zB i<;>rfl
theorem Wr.len:∀{n:Nat},n<=rows.length->((xH rows zB n).length:Int)=xC (zZ zB) n
 |0,_=>rfl
 |n+1,h=>by
  have a:=Wr.len (n:=n) (by omega);have b:=W.HL (i:=n) (by omega);show((xH rows zB n++wI rows zB n).length:Int)=xC (zZ zB) n+(if zZ zB n then 2 else 1);rw[yj];omega
omit W in
theorem Hk:∀{i n:Nat},i<=n->∃r,xH rows zB n=xH rows zB i++r
 |i,n,h=>by
  induction n with
  |zero=>exact⟨[],by rw[show i=0 by omega]; rfl⟩
  |succ n ih=>
   by_cases e:i=n+1
   ·exact⟨[],by rw[e,ui]⟩
   ·obtain⟨r,q⟩:=ih (by omega);exact⟨r++wI rows zB n,by show xH rows zB n++wI rows zB n=_; rw[q,gK]⟩
theorem Wr.at{i k:Nat}{v:Int}(hi:i<rows.length)(hk:(wI rows zB i)[k]?=some v):zQ (.lst ((xH rows zB rows.length).map D.int)) (.int (xC (zZ zB) i+k))=some (.int v)/\xC (zZ zB) i+k<((xH rows zB rows.length).length:Int):=by
 obtain⟨r,e⟩:=Hk (rows:=rows) (zB:=zB) (i:=i+1) (n:=rows.length) hi;have l:=W.len (n:=i) (by omega);have kl:k<(wI rows zB i).length:=(xE.mp hk).1;have e2:xH rows zB (i+1)=xH rows zB i++wI rows zB i:=rfl
 have g:(xH rows zB rows.length)[(xH rows zB i).length+k]?=some v:=by
  rw[e,e2,gK,MH (by omega),Nat.add_sub_cancel_left,Z9 kl];exact hk
 have lt:=(xE.mp g).1;refine⟨pS (by omega) ?_,by omega⟩;rw[show(xC (zZ zB) i+(k:Int)).toNat=(xH rows zB i).length+k by omega,xM,g];rfl
theorem Wr.tb:Tb ((xH rows zB rows.length).map D.int) rows.length (xC (zZ zB)) (vn rows) (wb rows):=by
 refine⟨λi hi=>?_,rfl,?_,λi hi=>?_,?_,λi p hi h=>?_,by have:=W.hn; omega⟩
 ·show xC (zZ zB) i<xC (zZ zB) i+(if zZ zB i then 2 else 1)
  split<;>omega
 ·rw[zx];exact(W.len (zr _)).symm
 ·obtain⟨y,h⟩:=W.one hi;have a0:=XD (zZ zB) i;have ll:(((xH rows zB rows.length).map D.int).length:Int)=((xH rows zB rows.length).length:Int):=by rw[zx]
  unfold vn wb;show _=some (false,D.tup [_,.int (xC (zZ zB) i+(if zZ zB i then 2 else 1)),_]);cases hj:yq (rows.getD i .zE)with
  |false=>
   obtain⟨yr,w,nf,_⟩:=h.pl hj;rw[yr]at w;have g:=W.at (k:=0) (v:=jw (rows.getD i .zE)) hi (by unfold wI; rw[hj]; rfl);rw[M8,M4]at g;obtain⟨n,n17,hc⟩:=w.c;have hcc:=Zo w.v0 w.v1;rw[hc]at hcc;have hnear:=Xg (n:=n) (by omega);rw[ye (show ¬ 18<=n by omega),gI]at hnear;have hfar:=IG (n:=n) (by omega);rw[ye (show ¬ 21<=n by omega),gI]at hfar
   obtain⟨R,hR⟩:∃R,rows.getD i .zE=.tup R:=by
    have:=W.hr _ (uj hi);have eg:rows.getD i .zE=rows[i]:=by rw[vH,yS hi]; rfl
    rw[eg];generalize rows[i]=rr at this;rcases this with q|q<;>cases q<;>exact⟨_,rfl⟩
   have wr:=w.r;rw[hR]at wr g;have:=lr ⟨a0.1,by rw[ll]; exact g.2,g.1,by rw[<-hR]; exact w.v0,by rw[<-hR]; exact w.v1⟩ (by rw[<-hR]; exact hcc) hfar hnear wr;rw[this,nf,hR];rfl
  |true=>
   obtain⟨w,p1,tp,nr,d0,d1⟩:=h.jm hj;obtain⟨R,hR,_,_,_⟩:=w.hd;have c0:=w.c0;have c1:=w.c1;have m0:=w.m0;have m1:=w.m1;have ea:xC (zZ zB) i+dJ rows zB i=xC (zZ zB) (xX (rows.getD i .zE)):=by unfold dJ; omega
   cases hF:zZ zB i with
   |true=>
    have rv:wI rows zB i=[(21+cJ (rows.getD i .zE))*134217728+mJ (rows.getD i .zE)*16777216,dJ rows zB i%4294967296]:=by
     unfold wI;rw[hj,hF];rfl
    have g:=W.at (k:=0) hi (by rw[rv]; rfl);rw[M8,M4]at g;have g1:=W.at (k:=1) hi (by rw[rv]; rfl);rw[show((1:Nat):Int)=1 from rfl]at g1;have fr:=w.fr;rw[hR]at fr;obtain⟨x,hx⟩:∃x,x=(21+cJ (rows.getD i .zE))*134217728+mJ (rows.getD i .zE)*16777216:=⟨_,rfl⟩;obtain⟨n,hn'⟩:∃n:Nat,(n:Int)=21+cJ (rows.getD i .zE):=⟨(21+cJ (rows.getD i .zE)).toNat,by omega⟩;rw[<-hx]at g fr;have hcc:=Zo (x:=x) (by omega) (by omega);rw[show x/134217728=(n:Int) by omega]at hcc;have hfar:=IG (n:=n) (by omega);rw[yh (show 21<=n by omega),yh (show n<=23 by omega),Z7]at hfar;have:=lh (a:=xC (zZ zB) i) ⟨a0.1,by rw[ll]; exact g.2,g.1,by omega,by omega⟩ hcc hfar fr g1.1 (by rw[ll]; exact g1.2);rw[this,show xC (zZ zB) i+(if 2*(dJ rows zB i%4294967296)<4294967296 then dJ rows zB i%4294967296 else dJ rows zB i%4294967296-4294967296)=xC (zZ zB) (xX (rows.getD i .zE)) by rw[<-ea]; split<;>omega];simp only[cond_true,hR];rfl
   |false=>
    have rv:wI rows zB i=[(18+cJ (rows.getD i .zE))*134217728+mJ (rows.getD i .zE)*16777216+dJ rows zB i%32]:=by
     unfold wI;rw[hj,hF];rfl
    obtain⟨n0,n1⟩:=nr hF;have g:=W.at (k:=0) hi (by rw[rv]; rfl);rw[M8,M4]at g;have fr:=w.nr (dJ rows zB i);rw[hR]at fr;obtain⟨x,hx⟩:∃x,x=(18+cJ (rows.getD i .zE))*134217728+mJ (rows.getD i .zE)*16777216+dJ rows zB i%32:=⟨_,rfl⟩;obtain⟨n,hn'⟩:∃n:Nat,(n:Int)=18+cJ (rows.getD i .zE):=⟨(18+cJ (rows.getD i .zE)).toNat,by omega⟩;rw[<-hx]at g fr;have hcc:=Zo (x:=x) (by omega) (by omega);rw[show x/134217728=(n:Int) by omega]at hcc;have hfar:=IG (n:=n) (by omega);rw[ye (show ¬ 21<=n by omega),gI]at hfar;have hnear:=Xg (n:=n) (by omega);rw[yh (show 18<=n by omega),yh (show n<=20 by omega),Z7]at hnear;have:=lj (a:=xC (zZ zB) i) ⟨a0.1,by rw[ll]; exact g.2,g.1,by omega,by omega⟩ hcc hfar hnear fr;rw[this,show xC (zZ zB) i+(if 2*(x%32)<32 then x%32 else x%32-32)=xC (zZ zB) (xX (rows.getD i .zE)) by rw[<-ea]; split<;>omega];simp only[cond_true,hR];rfl
 ·refine lm (.inr ?_);rw[zx];exact Int.le_of_eq (W.len (zr _))
 ·obtain⟨y,w⟩:=W.one hi;unfold wb at h;cases hj:yq (rows.getD i .zE)with
  |false=>rw[hj]at h; cases h
  |true=>
   rw[hj]at h;cases h;exact(w.jm hj).2.1
end
theorem PY{zB:List Nat}{n:Nat}:zZ zB n=true↔n∈zB:=by
 unfold zZ zt;rw[jE]
 have e:∀a:Nat,yM (.int (a:Int)) (.int (n:Int))=true↔a=n:=λa=>by
  have:yM (.int (a:Int)) (.int (n:Int))=((a:Int)==(n:Int)):=by unfold yM; rfl
  rw[this,ZF];omega
 constructor
 ·rintro⟨x,hx,h⟩;obtain⟨a,ha,rfl⟩:=xQ.mp hx;exact(e a).mp h▸ha
 ·exact λh=>⟨_,xQ.mpr ⟨n,h,rfl⟩,(e n).mpr rfl⟩
theorem ES{g:List Nat->List Nat}:∀{zB R:List Nat}{k:Nat},jZ g zB R k->g R=[]
 |_,_,_,.stop e=>e
 |_,_,_,.go _ _ r=>ES r
theorem ER{rows:List D}:∀{zB R:List Nat}{k:Nat},jZ (gF rows) zB R k->(∀i∈zB,yq (rows.getD i .zE)=true)->∀i∈R,yq (rows.getD i .zE)=true
 |_,_,_,.stop _,h=>h
 |zB,_,_,.go _ _ r,h=>ER r λi hi=>by
  have hi:i∈zB++gF rows zB:=(Q8 _).mem_iff.mp hi;rcases uI.mp hi with hi|hi
  ·exact h i hi
  ·cases c:yq (rows.getD i .zE)with
   |true=>rfl
   |false=>
    have:=(qd.mp hi).2;rw[Hr c]at this;cases this
theorem N0{i:Nat}{e:FE}{σ:yB}{L W:List D}(h0:σ[i]?=some (some (true,.lst L)))(he:e σ=some (.lst W))(h1:L.length<=1000)(h2:W.length<=2):km i e σ=some (.nx (σ.set i (some (true,.lst (L++W))))):=by
 unfold km;rw[h0,he];show(if L.length+W.length<=yn then _ else _)=_;rw[zN (by show _<=16777216; omega)]
theorem oU{rows zF:List D}(h:∀d∈zF,wq d)(hl:zF.length<=1000)(he:wo (uR zF) rows (zF.filter λd=>!yc d))(hr:∀r∈rows,v6 (rows.length:Int) r)(hn:rows.length<64) :
  ∃zB,Wr rows zF zB/\Zh [.lst zF]=some (true,.lst ((xH rows zB rows.length).map D.int)):=by
 obtain⟨R,k',hR,_,_,ef⟩:=N5 h hl he hr hn;have W:Wr rows zF R:=⟨h,hl,he,hr,hn,ES hR,λi hi=>ER hR (λ_ h=>by cases h) i (PY.mp hi)⟩;refine⟨R,W,?_⟩;have ed:=Be h hl he hr (by omega) (zB:=R);have er:=LI h;have rl:=Uz he
 have en:tz (zd uQ (zA (z7 0) zG)) [some (false,.lst zF),some (false,.lst (zt R)),some (false,.lst (xg rows (zZ R))),some (true,.lst []),none,none]=some (wV (zF.filter λd=>!yc d)):=by
  have e4:∀σ:yB,zd uQ (zA (z7 0) zG) σ=some (.lst (zF.filter λd=>!yc d))->tz (zd uQ (zA (z7 0) zG)) σ=some (wV (zF.filter λd=>!yc d)):=λσ z=>by
   unfold tz;rw[z];rfl
  exact e4 _ (by simp![er])
 obtain⟨σ',e3,x4,x5,rfl⟩:=uz (g:=v8 4 5) (b:=Xd) (λi σ=>∃x4 x5,σ=[some (false,.lst zF),some (false,.lst (zt R)),some (false,.lst (xg rows (zZ R))),some (true,.lst ((xH rows R i).map D.int)),x4,x5]) (ds:=wV (zF.filter λd=>!yc d))
  (σ:=[some (false,.lst zF),some (false,.lst (zt R)),some (false,.lst (xg rows (zZ R))),some (true,.lst []),none,none]) 0 ⟨none,none,rfl⟩ (by
  rintro i v σ hv ⟨x4,x5,rfl⟩;rw[xw]at *;rw[ju]at hv
  have hi:i<rows.length:=by
   rw[rl];cases z:(zF.filter λd=>!yc d)[i]? with
   |none=>rw[z]at hv; cases hv
   |some y=>exact(xE.mp z).1
  obtain⟨y,H⟩:=W.one hi;rw[H.yi]at hv;cases hv
  have al:((xH rows R i).map D.int).length<=900:=by
   have:=W.len (n:=i) (by omega);have:=XD (zZ R) i;rw[zx];omega
  have eg:rows.getD i .zE=rows[i]:=by rw[vH,yS hi]; rfl
  have ex:zQ (.lst (xg rows (zZ R))) (.int (i:Int))=some (dv (zZ R) (.tup [.int (i:Int),tgt (rows.getD i .zE)])):=pS (by omega) (by rw[xU,eg]; exact Bf hi)
  have hin:xY (.int (i:Int)) (.lst (zt R))=some (.bl (zZ R i)):=by
   show(pZ _ _).bind _=_;rw[PD];rfl
  have s1:(xH rows R (i+1)).map D.int=(xH rows R i).map D.int++(wI rows R i).map D.int:=by
   show(xH rows R i++wI rows R i).map D.int=_;rw[gP]
  refine⟨_,[some (false,.lst zF),some (false,.lst (zt R)),some (false,.lst (xg rows (zZ R))),some (true,.lst ((xH rows R (i+1)).map D.int)),some (false,.int (i:Int)),some (false,y)],rfl,.inl ?_,_,_,rfl⟩;rw[s1];cases hj:yq (rows.getD i .zE)with
  |false=>
   obtain⟨yr,w,nf,tn⟩:=H.pl hj;have rv:wI rows R i=[jw y]:=by unfold wI; rw[hj,yr]; rfl
   have hap:=tV (L:=(xH rows R i).map D.int) (r:=.int (jw y)) (by omega);rw[tn]at ex;have ex:zQ (.lst (xg rows (zZ R))) (.int (i:Int))=some .zE:=ex;have ww:=w.w;rw[rv];unfold Xd;generalize (xH rows R i).map D.int=LL at *;generalize xg rows (zZ R)=DD at *;generalize jw y=PV at *;simp![ex,ww,hap]
  |true=>
   obtain⟨w,p1,tp,nr,d0,d1⟩:=H.jm hj;rw[tp]at ex;have ex:zQ (.lst (xg rows (zZ R))) (.int (i:Int))=some (.int (dJ rows R i)):=ex;cases hF:zZ R i with
   |true=>
    have fw:=w.fw (dJ rows R i) (by omega) (by omega)
    have rv:(wI rows R i).map D.int=[.int ((21+cJ (rows.getD i .zE))*134217728+mJ (rows.getD i .zE)*16777216),.int (dJ rows R i%4294967296)]:=by
     unfold wI;rw[hj,hF];rfl
    rw[<-rv]at fw;rw[hF]at hin;have rl2:((wI rows R i).map D.int).length<=2:=by rw[rv]; simp
    have ee:=N0 (i:=3) (e:=qO jN (zA (z7 5) (zA (e2 zQ (z7 2) (z7 4)) zG))) (σ:=[some (false,.lst zF),some (false,.lst (zt R)),some (false,.lst (xg rows (zZ R))),some (true,.lst ((xH rows R i).map D.int)),some (false,.int (i:Int)),some (false,y)]) (L:=(xH rows R i).map D.int) (W:=(wI rows R i).map D.int) rfl (by
     generalize (xH rows R i).map D.int=LL at *;generalize (wI rows R i).map D.int=WW at *;generalize xg rows (zZ R)=DD at *;simp![ex,fw]) (by omega) rl2
    unfold Xd
    rw[PB (by
     generalize (xH rows R i).map D.int=LL at *;generalize xg rows (zZ R)=DD at *;simp![ex]),DQ (by
     generalize (xH rows R i).map D.int=LL at *;generalize xg rows (zZ R)=DD at *;simp![hin])]
    exact ee
   |false=>
    obtain⟨n0,n1⟩:=nr hF;have nw:=w.nw (dJ rows R i) n0 n1
    have rv:(wI rows R i).map D.int=[.int ((18+cJ (rows.getD i .zE))*134217728+mJ (rows.getD i .zE)*16777216+dJ rows R i%32)]:=by
     unfold wI;rw[hj,hF];rfl
    rw[rv];rw[hF]at hin;have hap:=tV (L:=(xH rows R i).map D.int) (r:=.int ((18+cJ (rows.getD i .zE))*134217728+mJ (rows.getD i .zE)*16777216+dJ rows R i%32)) (by omega);unfold Xd;generalize (18+cJ (rows.getD i .zE))*134217728+mJ (rows.getD i .zE)*16777216+dJ rows R i%32=VV at *;generalize (xH rows R i).map D.int=LL at *;generalize xg rows (zZ R)=DD at *;simp![ex,hin,nw,hap])
 rw[t_,xw,<-rl]at e3;rw[Nu];unfold Us;generalize wV (zF.filter λd=>!yc d)=NN at *;generalize xg rows (zZ R)=DD at *;simp![ef,ed,en,e3]
def BD:FS:=
 (zL (zh 1 (eC (.str "abcdefghijklmnopqrstuvwxyz")))
  (zL (yO (tE (e2 (xi λi j=>decide (i<j)) (z7 0) (eC (.int 26))))
   (yD (e2 zQ (z7 1) (z7 0)))
   ym)
  (yD (e2 yo (e2 zQ (z7 1) (e2 uX (e2 wS (z7 0) (eC (.int 26))) (eC (.int 1)))) (e2 zQ (z7 1) (e2 y_ (z7 0) (eC (.int 26))))))))
def pP:List D->Option (Bool×D):=FR 1 2 BD
theorem cM:∀ds r,pP ds=some r->ds.length=1/\zc 2 BD ds=some r:=yX
def OO:FS:=(yO (Yc (jA (tE (g_ .str (z7 3)))) (pC (jA (tE (g_ .int (z7 3)))) (tE (g_ .bool (z7 3)))))
       (yD (eC (.bl false)))
       ym)
def OP:FS:=(zL (yO (jA (tE (g_ .tuple (z7 2))))
     (yD (eC (.bl false)))
     ym)
    (vf (vo (z7 2)) (zo 3)
     OO))
def UY:FS:=
 (zL (yO (pC (jA (tE (g_ .list (z7 0)))) (tE (e2 vZ (z7 0) (z7 1))))
   (yD (eC (.bl false)))
   ym)
  (zL (vf (vo (z7 0)) (zo 2)
   OP)
  (yD (eC (.bl true)))))
def Zb:List D->Option (Bool×D):=FR 2 4 UY
theorem cO:∀ds r,Zb ds=some r->ds.length=2/\zc 4 UY ds=some r:=yX
theorem NZ(x0 x1:D):Zb [x0,x1]=zc 4 UY [x0,x1]:=rfl
def QZ:FE:=(e2 zQ (e2 zQ (z7 0) (z7 5)) (e1 va (eC (.int 1))))
def EK:FA:=(qR (eC (.int 0)) (e2 yo (eL xo (zA (z7 0) zG)) (eC (.int 1))))
def Tf:FS:=(zL (yO (tE (e2 xY (z7 3) (z7 1)))
     (xt 2 xh (xO (zA (eC (.str "label")) (zA (zd pP (zA (e2 kA (z7 1) (z7 3)) zG)) zG))))
     ym)
    (yO (tE (e2 (xi λi j=>decide (i<j)) (z7 3) (eL xo (zA (z7 0) zG))))
     (zL (zh 4 (e2 zQ (z7 0) (z7 3)))
      (zL (yO (tE (e2 xY (e2 zQ (z7 4) (eC (.int 0))) (xO (zA (eC (.str "jump")) (zA (eC (.str "when")) (zA (eC (.str "unless")) zG))))))
       (zh 4 (e2 yo (pW (z7 4) vc (vd (e1 va (eC (.int 1))))) (xO (zA (zd pP (zA (e2 kA (z7 1) (e2 zQ (z7 4) (e1 va (eC (.int 1))))) zG)) zG))))
       ym)
      (xt 2 xh (z7 4))))
     ym))
def UX:FS:=
 (zL (zh 1 (eL Zt (zA (xm 1 (vo (zd jP (zA (z7 0) zG))) (zo 5) xB QZ) zG)))
  (zL (uE 2 (wA zG))
  (zL (vf EK (zo 3)
   Tf)
  (p9 2))))
def Za:List D->Option (Bool×D):=FR 1 5 UX
theorem cL:∀ds r,Za ds=some r->ds.length=1/\zc 5 UX ds=some r:=yX
theorem NY(x0:D):Za [x0]=zc 5 UX [x0]:=rfl
def BB:FS:=
 (zL (LJ (zd ZX (zA (z7 0) zG)) (v8 1 2))
  (zL (zh 3 (zd Za (zA (z7 1) zG)))
  (zL (zh 4 (qO Zh (zA (z7 2) zG)))
  (zL (zh 5 (eL IA (zA (z7 4) zG)))
  (zL (uE 6 (qO jQ (zA (z7 5) zG)))
  (zL (yO (pC (jA (tE (Js Zb (zA (je 6) (zA (z7 3) zG))))) (tE (e2 kB (zd jU (zA (z7 5) zG)) (eC .zE))))
   (yD (eC (.bl false)))
   ym)
  (zL (xt 6 xh (xO (zA (eC (.str "stop")) zG)))
  (zL (g9 6) (yD (Uy (e2 yP (qO jQ (zA (z7 5) zG)) (z7 3)) (e2 yP (z7 5) (z7 4))))))))))))
theorem aW:(List.range 62).map (λk:Nat=>pP [.int (k:Int)])=(List.range 62).map λk=>some (false,.str (nm k)):=by kernel_rfl
theorem aV{k:Nat}(h:k<62):pP [.int (k:Int)]=some (false,.str (nm k)):=by
 have e:=congrArg (λl=>l[k]?) aW;simp only[xM,qc h,MY]at e;exact vV e
theorem PJ{p:Nat}{qs:List Nat}(h:p∈qs):kA (.lst (yV qs)) (.int (p:Int))=some (.int (qs.idxOf p:Nat)):=by
 have ha:(yV qs).all yH=true:=wm.mpr λy hy=>by
  obtain⟨p,_,rfl⟩:=xQ.mp hy;rfl
 have go:∀(l:List Nat)(k:Nat),p∈l->qz (.int (p:Int)) (yV l) k=some (k+l.idxOf p):=by
  intro l
  induction l with
  |nil=>intro k h; cases h
  |cons a l ih=>
   intro k h;show(match yM (.int (a:Int)) (.int (p:Int))with|true=>some k|false=>qz (.int (p:Int)) (yV l) (k+1))=_;have e:yM (.int (a:Int)) (.int (p:Int))=((a:Int)==(p:Int)):=by unfold yM; rfl
   rw[e];by_cases c:a=p
   ·subst c;rw[pH,List.idxOf_cons_self];rfl
   ·rw[gS.mpr (λz=>c (by omega))];rcases yT.mp h with z|z
    ·exact absurd z.symm c
    ·show qz (.int (p:Int)) (yV l) (k+1)=_;rw[ih (k+1) z,show List.idxOf p (a::l)=List.idxOf p l+1 by rw[List.idxOf_cons,gS.mpr c]; rfl]
     congr 1
     omega
 show(match yH (.int (p:Int))&&(yV qs).all yH with|true=>(qz (.int (p:Int)) (yV qs) 0).bind λn=>some (D.int n)|false=>none)=_;rw[ha,go qs 0 h,xw];rfl
def yy(rows:List D):List D:=(List.range rows.length).map (vn rows)
def zf(rows:List D):List (Option Nat):=(List.range rows.length).map (wb rows)
theorem XJ(rows:List D):(yy rows).length=rows.length:=by unfold yy; rw[zx,vx]
theorem Ld(rows:List D):∀l:List Nat,(l.map (wb rows)).filterMap id=(l.filter λi=>yq (rows.getD i .zE)).map λi=>xX (rows.getD i .zE)
 | []=>rfl
 |a::l=>by
  rw[wD];cases h:yq (rows.getD a .zE)with
  |true=>
   have e:wb rows a=some (xX (rows.getD a .zE)):=by unfold wb; rw[h]; rfl
   rw[e,List.filterMap_cons_some (f:=id) rfl,gL (p:=λi=>yq (rows.getD i .zE)) h,wD,Ld rows l]
  |false=>
   have e:wb rows a=none:=by unfold wb; rw[h]; rfl
   rw[e,List.filterMap_cons_none (f:=id) rfl,Yn (p:=λi=>yq (rows.getD i .zE)) (by rw[h]; exact yz),Ld rows l]
theorem BS{rows:List D}{i:Nat}(h:i<rows.length):(yy rows).getD i .zE=vn rows i:=by
 unfold yy;rw[vH,xM,qc h];rfl
theorem GD{rows:List D}{i:Nat}(h:i<rows.length):(zf rows).getD i none=wb rows i:=by
 unfold zf;rw[vH,xM,qc h];rfl
theorem XZ{m:Int}{r:D}(h:jY m r):∃hd:List D,XG r=.tup hd/\hd≠[]/\hd.length<=2/\T6 r none (some (-1))=some (.tup hd)/\zQ r (.int (-1))=some (.int (xX r:Nat))/\(∀x∈hd,∃s,x=.str s)/\(xX r:Int)<=m:=by
 cases h with
 |qH p0 p1=>
  rename_i p;have e:xX (.tup [.str "jump",.int p])=p.toNat:=rfl;refine⟨[.str "jump"],rfl,by simp,by simp,rfl,?_,λx hx=>⟨_,vB.mp hx⟩,by rw[e]; omega⟩;rw[e,show((p.toNat:Nat):Int)=p by omega];rfl
 |cond hw hk p0 p1=>
  rename_i w k p;have e:xX (.tup [.str w,.str k,.int p])=p.toNat:=rfl;refine⟨[.str w,.str k],rfl,by simp,by simp,rfl,?_,λx hx=>?_,by rw[e]; omega⟩
  ·rw[e,show((p.toNat:Nat):Int)=p by omega];rfl
  ·rcases yT.mp hx with rfl|hx
   ·exact⟨_,rfl⟩
   ·exact⟨_,vB.mp hx⟩
section
variable{rows:List D}(hr:∀r∈rows,v6 (rows.length:Int) r)(hn:rows.length<=60)
include hr
theorem Xw{i:Nat}(hi:i<rows.length):zQ (.lst rows) (.int (i:Int))=some (rows.getD i .zE)/\v6 (rows.length:Int) (rows.getD i .zE):=by
 have eg:rows.getD i .zE=rows[i]:=by rw[vH,yS hi]; rfl
 rw[eg];exact⟨pS (by omega) (by rw[xU]; exact yS hi),hr _ (uj hi)⟩
theorem Xa{i:Nat}(hi:i<rows.length)(hj:yq (rows.getD i .zE)=true):jY (rows.length:Int) (rows.getD i .zE):=by
 rcases(Xw hr hi).2 with h|h
 ·obtain⟨_,_,_,_,z,_⟩:=j4 h;rw[z]at hj;cases hj
 ·exact h
theorem GE:∀p,some p∈zf rows->p<=rows.length:=λp hp=>by
 obtain⟨i,hi,e⟩:=xQ.mp hp;have hi:=vi.mp hi;unfold wb at e;cases hj:yq (rows.getD i .zE)with
 |false=>rw[hj]at e; cases e
 |true=>
  rw[hj]at e;cases e;obtain⟨_,_,_,_,_,_,_,h⟩:=XZ (Xa hr hi hj);omega
omit hr in
include hn in
theorem Cg:(yF rows.length (zf rows)).length<=60:=by
 have nd:=Ci rows.length (zf rows)
 have sub:∀x∈yF rows.length (zf rows),x∈vw (zf rows):=λx hx=>by
  unfold yF at hx;rw[Tq]at hx;exact w_ hx.2
 have:=List.Nodup.length_le_of_subset nd sub;have l2:(vw (zf rows)).length<=(zf rows).length:=MI _ _;have l3:(zf rows).length=rows.length:=by unfold zf; rw[zx,vx]
 omega
def ub(rows:List D)(i:Nat):List D:=if i<=rows.length then xA (yy rows) (zf rows) i else ua (yy rows) (zf rows)
omit hr in
theorem Dj(i:Nat):(ub rows i).length<=2*rows.length+1:=by
 unfold ub
 split
 ·rename_i h;have:=Xe (yy rows) (zf rows) i;omega
 ·unfold ua;rw[yj];have:=Xe (yy rows) (zf rows) (yy rows).length;have:=Tg (yy rows).length (zf rows) (yy rows).length;rw[XJ]at *;omega
include hn in
theorem aS:Za [.lst rows]=some (true,.lst (ua (yy rows) (zf rows))):=by
 have ej:=Da hr (by omega)
 have lc:xI (zo 5) xB QZ [some (false,.lst rows),none,none,none,none,none] ((q_ rows).map λi:Nat=>D.int i)=some (yV (vw (zf rows))):=by
  have e:vw (zf rows)=(q_ rows).map λi=>xX (rows.getD i .zE):=Ld rows (List.range rows.length)
  rw[e]
  have:=jn (g:=zo 5) (e:=QZ) (σ:=[some (false,.lst rows),none,none,none,none,none]) (λd=>match d with|.int i=>.int (xX (rows.getD i.toNat .zE):Nat)|d=>d) (ds:=(q_ rows).map λi:Nat=>D.int i) λd hd=>by
   obtain⟨i,hi,rfl⟩:=xQ.mp hd;obtain⟨hi,hj⟩:=OD hi;have g:=(Xw hr hi).1;obtain⟨_,_,_,_,_,l,_⟩:=XZ (Xa hr hi hj);refine⟨_,rfl,?_⟩;show _=some (D.int (xX (rows.getD (i:Int).toNat .zE):Nat));rw[xU];unfold QZ;simp![g,l]
  rw[this];unfold yV;rw[vA,vA];rfl
 have hp:=Cg hn
 have es:Zt [.lst (yV (vw (zf rows)))]=some (.lst (yV (yF rows.length (zf rows)))):=Es (n:=rows.length+1) (by
  have:(vw (zf rows)).length<=(zf rows).length:=MI _ _;have l3:(zf rows).length=rows.length:=by unfold zf; rw[zx,vx]
  omega) (p:=λi=>decide (i∈vw (zf rows))) (show(yF rows.length (zf rows)).length<64 by omega) λi=>by
  rw[Mb];refine⟨λz=>⟨?_,z⟩,λz=>z.2⟩;obtain⟨a,ha,e⟩:=VJ.mp z;have e:a=some i:=e;exact MT (GE hr i (e▸ha))
 have e3:EK [some (false,.lst rows),some (false,.lst (yV (yF rows.length (zf rows)))),some (true,.lst []),none,none]=some (w4 (rows.length+1)):=by
  have:=g7 (f:=e2 yo (eL xo (zA (z7 0) zG)) (eC (.int 1))) (τ:=[some (false,.lst rows),some (false,.lst (yV (yF rows.length (zf rows)))),some (true,.lst []),none,none]) (n:=((rows.length+1:Nat):Int)) (by simp![add_int]; rfl) (by omega);exact this
 have pix:∀p∈yF rows.length (zf rows),∃k:Nat,kA (.lst (yV (yF rows.length (zf rows)))) (.int (p:Int))=some (.int (k:Int))/\pP [.int (k:Int)]=some (false,.str (wu rows.length (zf rows) p)):=λp hp'=>by
  refine⟨_,PJ hp',aV ?_⟩;have:=List.idxOf_lt_length_of_mem hp';omega
 obtain⟨σ',e4,x3,x4,rfl⟩:=uz (g:=zo 3) (b:=Tf) (λi σ=>∃x3 x4,σ=[some (false,.lst rows),some (false,.lst (yV (yF rows.length (zf rows)))),some (true,.lst (ub rows i)),x3,x4]) (ds:=w4 (rows.length+1))
  (σ:=[some (false,.lst rows),some (false,.lst (yV (yF rows.length (zf rows)))),some (true,.lst []),none,none]) 0 ⟨none,none,by unfold ub; rw[zN (uK _)]; rfl⟩ (by
  rintro i v σ hv ⟨x3,x4,rfl⟩;obtain⟨hi,rfl⟩:=Ye hv;rw[xw]at *;have l0:ub rows i=xA (yy rows) (zf rows) i:=zN (by omega);have ll:=Dj (rows:=rows) i;rw[l0]at ll ⊢
  have hin:xY (.int (i:Int)) (.lst (yV (yF rows.length (zf rows))))=some (.bl (decide (i∈yF rows.length (zf rows)))):=by
   show(pZ _ _).bind _=_;rw[PF];rfl
  have half:yO (tE (e2 xY (z7 3) (z7 1))) (xt 2 xh (xO (zA (eC (.str "label")) (zA (zd pP (zA (e2 kA (z7 1) (z7 3)) zG)) zG)))) ym [some (false,.lst rows),some (false,.lst (yV (yF rows.length (zf rows)))),some (true,.lst (xA (yy rows) (zf rows) i)),some (false,.int (i:Int)),x4] =
    some (.nx [some (false,.lst rows),some (false,.lst (yV (yF rows.length (zf rows)))),some (true,.lst (xA (yy rows) (zf rows) i++xq rows.length (zf rows) i)),some (false,.int (i:Int)),x4]):=by
   unfold xq;by_cases c:i∈yF rows.length (zf rows)
   ·rw[zN c];rw[yh c]at hin;obtain⟨k,q1,q2⟩:=pix i c;have ap:=tV (L:=xA (yy rows) (zf rows) i) (r:=we (wu rows.length (zf rows) i)) (by omega);unfold we at *;generalize xA (yy rows) (zf rows) i=LL at *;generalize yV (yF rows.length (zf rows))=NN at *;simp![hin,q1,q2,ap]
   ·rw[zS c,ui];rw[ye c]at hin;generalize xA (yy rows) (zf rows) i=LL at *;generalize yV (yF rows.length (zf rows))=NN at *;simp![hin]
  have la:=Tg rows.length (zf rows) i;by_cases hlt:i<rows.length
  ·have g:=(Xw hr hlt).1;have d1:decide ((i:Int)<(rows.length:Int))=true:=yh (by omega)
   have l1:ub rows (i+1)=xA (yy rows) (zf rows) i++xq rows.length (zf rows) i++[j5 rows.length (zf rows) (vn rows i) (wb rows i)]:=by
    unfold ub;rw[zN (show i+1<=rows.length from hlt)];show xA (yy rows) (zf rows) i++(xq (yy rows).length (zf rows) i++[j5 (yy rows).length (zf rows) ((yy rows).getD i .zE) ((zf rows).getD i none)])=_;rw[BS hlt,GD hlt,XJ,gK]
   refine⟨[some (false,.lst rows),some (false,.lst (yV (yF rows.length (zf rows)))),some (true,.lst (xA (yy rows) (zf rows) i)),some (false,.int (i:Int)),x4],[some (false,.lst rows),some (false,.lst (yV (yF rows.length (zf rows)))),some (true,.lst (ub rows (i+1))),some (false,.int (i:Int)),some (false,j5 rows.length (zf rows) (vn rows i) (wb rows i))],rfl,.inl ?_,_,_,rfl⟩;rw[l1];have ap:=tV (L:=xA (yy rows) (zf rows) i++xq rows.length (zf rows) i) (r:=j5 rows.length (zf rows) (vn rows i) (wb rows i)) (by rw[yj]; omega);unfold Tf;rw[uF half];generalize xA (yy rows) (zf rows) i++xq rows.length (zf rows) i=LL at *;cases hj:yq (rows.getD i .zE)with
   |false=>
    have eb:vn rows i=rows.getD i .zE:=by unfold vn; rw[hj]; rfl
    have et:wb rows i=none:=by unfold wb; rw[hj]; rfl
    rw[eb,et]at ap ⊢;have er:j5 rows.length (zf rows) (rows.getD i .zE) none=rows.getD i .zE:=rfl;rw[er]at ap ⊢
    have pr:uT (rows.getD i .zE):=by
     rcases(Xw hr hlt).2 with h|h
     ·exact h
     ·obtain⟨_,_,_,_,_,z,_⟩:=qS h;rw[z]at hj;cases hj
    obtain⟨w,z0,z1,_⟩:=j4 pr;unfold YD at z1;generalize yV (yF rows.length (zf rows))=NN at *;generalize rows.getD i .zE=RR at *;simp![d1,g,z0,z1,ap]
   |true=>
    have jr:=Xa hr hlt hj;obtain⟨hd,b1,b2,b3,b4,b5,_,_⟩:=XZ jr;obtain⟨w,p,z0,z1,_⟩:=qS jr;have et:wb rows i=some (xX (rows.getD i .zE)):=by unfold wb; rw[hj]; rfl
    have eb:vn rows i=.tup hd:=by unfold vn; rw[hj]; exact b1
    have pm:xX (rows.getD i .zE)∈yF rows.length (zf rows):=(Ch (GE hr)).mpr (xQ.mpr ⟨i,vi.mpr hlt,et⟩);obtain⟨k,q1,q2⟩:=pix _ pm;rw[eb,et]at ap ⊢;have er:j5 rows.length (zf rows) (.tup hd) (some (xX (rows.getD i .zE)))=.tup (hd++[.str (wu rows.length (zf rows) (xX (rows.getD i .zE)))]):=rfl;rw[er]at ap ⊢
    have ad:yo (.tup hd) (.tup [.str (wu rows.length (zf rows) (xX (rows.getD i .zE)))])=some (.tup (hd++[.str (wu rows.length (zf rows) (xX (rows.getD i .zE)))])):=by
     show(if hd.isEmpty=false/\_ then _ else _)=_;rw[zN ⟨by cases hd with|nil=>exact absurd rfl b2|cons _ _=>rfl,by simp only[xc,pF]; show _<=16777216; omega⟩]
    unfold YD at z1;generalize wu rows.length (zf rows) (xX (rows.getD i .zE))=NM at *;generalize yV (yF rows.length (zf rows))=NN at *;generalize xX (rows.getD i .zE)=PP at *;generalize rows.getD i .zE=RR at *;simp![d1,g,z0,z1,pW,vc,vd,b4,b5,q1,q2,ad,ap]
  ·have e:i=rows.length:=by omega
   subst e;have d1:decide ((rows.length:Int)<(rows.length:Int))=false:=ye (by omega)
   have l1:ub rows (rows.length+1)=xA (yy rows) (zf rows) rows.length++xq rows.length (zf rows) rows.length:=by
    unfold ub;rw[zS (by omega)];show xA (yy rows) (zf rows) (yy rows).length++xq (yy rows).length (zf rows) (yy rows).length=_;rw[XJ]
   refine⟨[some (false,.lst rows),some (false,.lst (yV (yF rows.length (zf rows)))),some (true,.lst (xA (yy rows) (zf rows) rows.length)),some (false,.int (rows.length:Int)),x4],[some (false,.lst rows),some (false,.lst (yV (yF rows.length (zf rows)))),some (true,.lst (ub rows (rows.length+1))),some (false,.int (rows.length:Int)),x4],rfl,.inl ?_,_,_,rfl⟩;rw[l1];unfold Tf;rw[uF half];generalize xA (yy rows) (zf rows) rows.length++xq rows.length (zf rows) rows.length=LL at *;generalize yV (yF rows.length (zf rows))=NN at *;simp![d1])
 have l1:ub rows (0+(w4 (rows.length+1)).length)=ua (yy rows) (zf rows):=by
  rw[show(w4 (rows.length+1)).length=rows.length+1 from by simp[w4]];unfold ub;rw[zS (by omega)]
 rw[l1]at e4;rw[NY];unfold UX;generalize ua (yy rows) (zf rows)=LA at *;generalize yV (yF rows.length (zf rows))=NN at *;generalize yV (vw (zf rows))=TT at *;generalize w4 (rows.length+1)=UU at *;generalize (q_ rows).map (λi:Nat=>D.int i)=JJ at *;simp![ej,lc,es,e3,e4]
def Zk(d:D):Prop:=∃xs,d=.tup xs/\xs.length<=1000/\∀x∈xs,(∃s,x=.str s)\/∃i,x=.int i
theorem Dk:∀d∈ua (yy rows) (zf rows),Zk d:=by
 have at_:∀i,∀d∈xq (yy rows).length (zf rows) i,Zk d:=λi d hd=>by
  unfold xq at hd
  split at hd
  ·rw[vB.mp hd]
   exact⟨_,rfl,by simp,λx hx=>by
    rcases yT.mp hx with rfl|hx
    ·exact .inl ⟨_,rfl⟩
    ·exact .inl ⟨_,vB.mp hx⟩⟩
  ·cases hd
 have lg:∀i,i<=rows.length->∀d∈xA (yy rows) (zf rows) i,Zk d:=λi=>by
  induction i with
  |zero=>exact λ_ d hd=>by cases hd
  |succ i ih=>
   intro hi d hd;unfold xA at hd;rcases uI.mp hd with hd|hd
   ·exact ih (by omega) d hd
   ·rcases uI.mp hd with hd|hd
    ·exact at_ i d hd
    ·rw[vB.mp hd,BS hi,GD hi];cases hj:yq (rows.getD i .zE)with
     |true=>
      obtain⟨h,b1,_,b3,_,_,b6,_⟩:=XZ (Xa hr hi hj);have et:wb rows i=some (xX (rows.getD i .zE)):=by unfold wb; rw[hj]; rfl
      have eb:vn rows i=.tup h:=by unfold vn; rw[hj]; exact b1
      rw[et,eb];refine⟨h++[.str _],rfl,by rw[yj]; simp only[xc,pF]; omega,λx hx=>?_⟩;rcases uI.mp hx with hx|hx
      ·exact .inl (b6 x hx)
      ·exact .inl ⟨_,vB.mp hx⟩
     |false=>
      have et:wb rows i=none:=by unfold wb; rw[hj]; rfl
      have eb:vn rows i=rows.getD i .zE:=by unfold vn; rw[hj]; rfl
      rw[et,eb];show Zk (rows.getD i .zE)
      have pr:uT (rows.getD i .zE):=by
       rcases(Xw hr hi).2 with h|h
       ·exact h
       ·obtain⟨_,_,_,_,_,z,_⟩:=qS h;rw[z]at hj;cases hj
      generalize rows.getD i .zE=RR at pr;cases pr with
      |stop=>exact⟨_,rfl,by simp,λx hx=>.inl ⟨_,vB.mp hx⟩⟩
      |Yx=>exact⟨_,rfl,by simp,λx hx=>by simp only[yT,wR,or_false]at hx; rcases hx with rfl|rfl|rfl<;>simp⟩
      |two=>exact⟨_,rfl,by simp,λx hx=>by simp only[yT,wR,or_false]at hx; rcases hx with rfl|rfl|rfl<;>simp⟩
      |Yz=>exact⟨_,rfl,by simp,λx hx=>by simp only[yT,wR,or_false]at hx; rcases hx with rfl|rfl|rfl<;>simp⟩
      |mem=>exact⟨_,rfl,by simp,λx hx=>by simp only[yT,wR,or_false]at hx; rcases hx with rfl|rfl|rfl|rfl<;>simp⟩
 intro d hd;unfold ua at hd;rw[XJ]at hd;rcases uI.mp hd with hd|hd
 ·exact lg _ (zr _) d hd
 ·exact at_ rows.length d (by rw[XJ]; exact hd)
end
theorem GG{L:List D}(h:∀d∈L,Zk d):u_ 6 (.lst L)=true:=wm.mpr λd hd=>by
 obtain⟨xs,rfl,_,hx⟩:=h d hd;refine wm.mpr λx hxx=>?_
 rcases hx x hxx with⟨s,rfl⟩|⟨i,rfl⟩<;>rfl
theorem Hj{L:List D}(h:∀d∈L,Zk d)(hl:L.length<=1000):Zb [.lst L,.lst L]=some (false,.bl true):=by
 have ne:=Dw (GG h)
 obtain⟨σ',e,x2,x3,rfl⟩:=uz (g:=zo 2) (b:=OP) (λi σ=>∃x2 x3,σ=[some (false,.lst L),some (false,.lst L),x2,x3]) (ds:=L) (σ:=[some (false,.lst L),some (false,.lst L),none,none]) 0 ⟨none,none,rfl⟩ (by
  rintro i v σ hv ⟨x2,x3,rfl⟩;obtain⟨xs,rfl,_,hx⟩:=h v (tJ hv)
  obtain⟨σ2,e2,y3,rfl⟩:=uz (g:=zo 3) (b:=OO) (λi σ=>∃x3,σ=[some (false,.lst L),some (false,.lst L),some (false,.tup xs),x3]) (ds:=xs) (σ:=[some (false,.lst L),some (false,.lst L),some (false,.tup xs),x3]) 0 ⟨x3,rfl⟩ (by
   rintro j u σ hu ⟨x3,rfl⟩;refine⟨_,[some (false,.lst L),some (false,.lst L),some (false,.tup xs),some (false,u)],rfl,.inl ?_,_,rfl⟩;unfold OO;rcases hx u (tJ hu)with⟨s,rfl⟩|⟨n,rfl⟩
   ·simp![]
   ·simp![])
  refine⟨_,[some (false,.lst L),some (false,.lst L),some (false,.tup xs),y3],rfl,.inl ?_,_,_,rfl⟩;unfold OP;simp![e2])
 rw[NZ];unfold UY;simp![ne,e]
theorem cB:∀ns:List Int,ns.length<=63->(∀m∈ns,gy m<=1048576)->∃o,zc 7 BB [.lst (ns.map D.int)]=some (o,.bl true):=λns hl hb=>by
 refine⟨false,?_⟩;obtain⟨rows,zF,h1,h2,h3,h4,h5,eb⟩:=K9 ns;generalize D.lst (ns.map D.int)=s at eb ⊢;obtain⟨zB,W,ew⟩:=oU h3 h5 h4 h2 (by omega);have T:=W.tb;have ef:=B_ T
 have er:=bW T (Cg h1) λi p hi h=>by
  unfold wb at h;cases hj:yq (rows.getD i .zE)with
  |false=>rw[hj]at h; cases h
  |true=>
   obtain⟨hd,b1,b2,b3,_⟩:=XZ (Xa h2 hi hj);exact⟨hd,by unfold vn; rw[hj]; exact b1,b2,b3⟩
 have er:jQ [.lst ((xH rows zB rows.length).map D.int)]=some (true,.lst (ua (yy rows) (zf rows))):=er;have ep:=aS h2 h1
 have tl:(ua (yy rows) (zf rows)).length<=1000:=by
  have:=Dj (rows:=rows) (rows.length+1);unfold ub at this;rw[zS (by omega)]at this;omega
 have ea:=Hj (Dk h2) tl;have q1:=Bw (GG (Dk h2))
 have q2:=Bw (d:=.lst ((xH rows zB rows.length).map D.int)) (wm.mpr λd hd=>by
  obtain⟨v,_,rfl⟩:=xQ.mp hd;rfl)
 have hap:=tV (L:=ua (yy rows) (zf rows)) (r:=.tup [.str "stop"]) tl;have l1:IA [.lst ((xH rows zB rows.length).map D.int)]=some (.lst ((xH rows zB rows.length).map D.int)):=rfl;have fl:yH (.bl true)=true:=rfl;unfold BB;generalize (xH rows zB rows.length).map D.int=WW at *;generalize ua (yy rows) (zf rows)=LA at *;simp![LJ,eb,ep,ew,l1,er,Js,ea,fl,ul,ef,hap,q1,q2]
end L3
namespace My
open PySem L2 L3
set_option maxHeartbeats 4000000
def top(i:Nat):Stmt:=PySem.Challenge.pw_markrun_k30_whole_read_back.main.body.getD i (.Pass ⟨0,0,0,0⟩)
section
variable{P:Program}{w:World}{K:W.Frag}{mg:Str->Option Value}{base:Heap}{tP:Addr}{pL:Addr}{jJ:Addr}{jK:Addr}{vI:Addr}{tO:Addr}{u4:Addr}{u0:Addr}
abbrev WZ:Stmt:=top 6
theorem dH:yG ["word", "low", "width"] ["word", "low", "width"] (zz WZ):=⟨rfl,rfl,rfl,by decide +kernel,rfl,by decide +kernel,by decide +kernel⟩
theorem Sv(d:zK K mg "part" WZ ["word", "low", "width"]):zT P w K mg base "part" ["word", "low", "width"] 1 (zU K Ze):=
 zK.yU d dH (by decide) cV λf cdv A outer s H E hr=>(zY (yE (zW CU On (zW AU A0 (z8 0) (z8 1)) (zW qB qA (zW YM YJ zI (z8 2)) zI))))
abbrev Wm:Stmt:=top 7
theorem Ed:yG ["word", "low", "width", "number", "there"] ["word", "low", "width", "number"] (zz Wm):=⟨rfl,rfl,rfl,by decide +kernel,rfl,by decide +kernel,by decide +kernel⟩
theorem A9(d:zK K mg "with_part" Wm ["word", "low", "width", "number"]):zT P w K mg base "with_part" ["word", "low", "width", "number"] 1 (zU K Zg):=
 zK.yU d Ed (by decide) ck λf cdv A outer s H E hr=>(zR (zp (i:=4) Ed.nd rfl (Or.inl rfl) (zW YM YJ (zW qB qA (zW YM YJ zI (z8 2)) zI) (z8 1)))
  (zY (yE (zW AS On (zW CU On (z8 0) (uf nA n9 (z8 4))) (zW YM YJ (z8 3) (z8 1))))))
abbrev We:Stmt:=top 8
theorem EZ:yG ["number", "width", "power"] ["number", "width"] (zz We):=⟨rfl,rfl,rfl,by decide +kernel,rfl,by decide +kernel,by decide +kernel⟩
theorem A1(d:zK K mg "signed" We ["number", "width"]):zT P w K mg base "signed" ["number", "width"] 1 (zU K qj):=
 zK.yU d EZ (by decide) ca λf cdv A outer s H E hr=>(zR (zp (i:=2) EZ.nd rfl (Or.inl rfl) (zW YM YJ zI (z8 1)))
  (zY (yE (t7 (yC uD wP (zH (zW Xk Op zI (z8 0))) (zH (z8 2)) (yI _)) (z8 0) (zW qB qA (z8 0) (z8 2))))))
abbrev Wi:Stmt:=top 9
theorem Ec:yG ["number", "width", "power"] ["number", "width"] (zz Wi):=⟨rfl,rfl,rfl,by decide +kernel,rfl,by decide +kernel,by decide +kernel⟩
theorem A6(d:zK K mg "unsigned" Wi ["number", "width"]):zT P w K mg base "unsigned" ["number", "width"] 1 (zU K jS):=
 zK.yU d Ec (by decide) cg λf cdv A outer s H E hr=>(zR (zp (i:=2) Ec.nd rfl (Or.inl rfl) (zW YM YJ zI (z8 1)))
  (zR (yx (j9 (Ya (yC uD wP (zH (zW Xk Op zI (z8 0))) (zH (uf tH tF (z8 2))) (yI _)) (Yb (yC To wP (zH (zW Xk Op zI (z8 0))) (zH (z8 2)) (yI _)))))
   Ew
   xG)
  (zY (yE (t7 (yC To wP (zH (z8 0)) (zH zI) (yI _)) (z8 0) (zW xb xZ (z8 0) (z8 2)))))))
abbrev Wa:Stmt:=top 21
theorem dI:yG ["kind", "field"] ["kind", "field"] (zz Wa):=⟨rfl,rfl,rfl,by decide +kernel,rfl,by decide +kernel,by decide +kernel⟩
theorem Sw(d:zK K mg "place_in_word" Wa ["kind", "field"])(IN:yf mg "NUMBER_WIDTHS" (.ref jK))(L7:wH K w jK IR IV)(IM:yf mg "NUMBER_LOW" (.int 0))(L6:∀H,ze K H (.int 0) (.int 0))(vN:yf mg "PLACES" (.ref vI))(vS:wH K w vI wM wN):zT P w K mg base "place_in_word" ["kind", "field"] 1 (zU K wG):=
 zK.yU d dI (by decide) cW λf cdv A outer s H E hr=>(zR (yx (yC (vR (wO hr)) vP (zH (z8 1)) (zH yN) (yI _))
   (zY (yE (x_ (zD (qX IM L6 rfl) (zD (ue IN L7 rfl (z8 0)) zM)) (yZ (zb (zb ya)) (by decide)))))
   xG)
  (zY (yE (ue vN vS rfl (z8 1)))))
abbrev WY:Stmt:=top 22
theorem dG:yG ["word", "place"] ["word", "place"] (zz WY):=⟨rfl,rfl,rfl,by decide +kernel,rfl,by decide +kernel,by decide +kernel⟩
theorem Su(d:zK K mg "number_at" WY ["word", "place"])(Iz:zT P w K mg base "part" ["word", "low", "width"] 1 (zU K Ze)):zT P w K mg base "number_at" ["word", "place"] 2 (zU K uo):=
 zK.yU d dG (by decide) cU λf cdv A outer s H E hr=>(zY (yE (zj Iz hr rfl (zD (z8 0) (zD (zn (zk (zg hr)) zl (z8 1) zI) (zD (zn (zk (zg hr)) zl (z8 1) zI) zM))))))
abbrev Wl:Stmt:=top 23
theorem dM:yG ["word", "place", "number"] ["word", "place", "number"] (zz Wl):=⟨rfl,rfl,rfl,by decide +kernel,rfl,by decide +kernel,by decide +kernel⟩
theorem A8(d:zK K mg "with_number" Wl ["word", "place", "number"])(O2:zT P w K mg base "with_part" ["word", "low", "width", "number"] 1 (zU K Zg)):zT P w K mg base "with_number" ["word", "place", "number"] 2 (zU K u7):=
 zK.yU d dM (by decide) cj λf cdv A outer s H E hr=>(zY (yE (zj O2 hr rfl (zD (z8 0) (zD (zn (zk (zg hr)) zl (z8 1) zI) (zD (zn (zk (zg hr)) zl (z8 1) zI) (zD (z8 2) zM)))))))
abbrev W5:Stmt:=top 24
theorem d7:yG ["kind"] ["kind"] (zz W5):=⟨rfl,rfl,rfl,by decide +kernel,rfl,by decide +kernel,by decide +kernel⟩
theorem SC(d:zK K mg "fields_in_word" W5 ["kind"])(II:yf mg "FIELDS" (.ref jJ))(O_:wH K w jJ IQ IU):zT P w K mg base "fields_in_word" ["kind"] 1 (zU K wp):=
 zK.yU d d7 (by decide) bm λf cdv A outer s H E hr=>(zY (pB (vt rfl (wc (own:=["field"]) rfl) (ug (ue II O_ rfl (z8 0))) (v7 (λC s H fp pn=>(yt (i:=1) (show(xy ["kind"] ["field"]).Nodup by decide +kernel) rfl (Or.inl rfl))) rfl) (λC s H fp pn=>(j8 (yC (YL (wO hr)) YI (zH (z8 1)) (zH yN) (yI _)))) (λC s H fp pn=>(z8 1)))))
abbrev W6:Stmt:=top 25
theorem YT:yG ["row", "code", "word", "field", "held", "number"] ["row", "code"] (zz W6):=⟨rfl,rfl,rfl,by decide +kernel,rfl,by decide +kernel,by decide +kernel⟩
theorem SD(d:zK K mg "first_word" W6 ["row", "code"])(Ly:mg "zip" = none)(vN:yf mg "PLACES" (.ref vI))(vS:wH K w vI wM wN)(kD:yf mg "MARKS" (.ref tP))(kZ:∀H,ze K H jk (.ref tP))(OE:UC K tP)(qw:zT P w K mg base "with_number" ["word", "place", "number"] 2 (zU K u7))(Z_:zT P w K mg base "fields_in_word" ["kind"] 1 (zU K wp))(Y3:zT P w K mg base "place_in_word" ["kind", "field"] 1 (zU K wG)):zT P w K mg base "first_word" ["row", "code"] 3 (zU K wL):=
 zK.yU d YT (by decide) bn λf cdv A outer s H E hr=>(zR (zp (i:=2) YT.nd rfl (Or.inl rfl) (zj qw hr rfl (zD zI (zD (ue vN vS rfl yN) (zD (z8 1) zM)))))
  (zR (qZ vy rfl (dw rfl Ly (xL (gA Z_ hr rfl (zD (zn (zk (zg hr)) zl (z8 0) zI) zM))) (dY (z8 0) (V2 zI) W_)) (YZ (jz (n:=2) rfl (vp (yt (i:=3) YT.nd rfl (Or.inl rfl)) (vp (yt (i:=4) YT.nd rfl (Or.inl rfl)) j_))) rfl rfl)
   (zR (zp (i:=5) YT.nd rfl (Or.inl rfl) (t7 (yC (vR (wO hr)) vP (zH (z8 3)) (zH yN) (yI _)) (dR kD kZ OE rfl (z8 4)) (z8 4)))
    (zY (zp (i:=2) YT.nd rfl (Or.inl rfl) (zj qw hr rfl (zD (z8 2) (zD (zj Y3 hr rfl (zD (zn (zk (zg hr)) zl (z8 0) zI) (zD (z8 3) zM))) (zD (z8 5) zM))))))))
  (zY (yE (z8 2)))))
abbrev Xz:Stmt:=top 26
theorem cz:yG ["word"] ["word"] (zz Xz):=⟨rfl,rfl,rfl,by decide +kernel,rfl,by decide +kernel,by decide +kernel⟩
theorem S5(d:zK K mg "code_in" Xz ["word"])(vN:yf mg "PLACES" (.ref vI))(vS:wH K w vI wM wN)(pq:zT P w K mg base "number_at" ["word", "place"] 2 (zU K uo)):zT P w K mg base "code_in" ["word"] 3 (zU K tR):=
 zK.yU d cz (by decide) bf λf cdv A outer s H E hr=>(zY (yE (zj pq hr rfl (zD (z8 0) (zD (ue vN vS rfl yN) zM)))))
abbrev WD:Stmt:=top 27
theorem EV:yG ["code", "found"] ["code"] (zz WD):=⟨rfl,rfl,rfl,by decide +kernel,rfl,by decide +kernel,by decide +kernel⟩
theorem SQ(d:zK K mg "kind_of_code" WD ["code"])(kC:yf mg "CODES" (.ref tO))(YO:wH K w tO tZ qQ)(qu:yf mg "NEAR_CODES" (.ref u4))(jy:wH K w u4 tj tq)(qt:yf mg "FAR_CODES" (.ref u0))(jx:wH K w u0 tf tm)(Jv:uS K w tO tZ XW)(EF:∀H,Reps K H qQ XW)(Zs:uS K w u4 tj kG)(Xu:∀H,Reps K H tq kG)(Zr:uS K w u0 tf kF)(Xt:∀H,Reps K H tm kF):zT P w K mg base "kind_of_code" ["code"] 1 (zU K gb):=
 zK.yU d EV (by decide) bz λf cdv A outer s H E hr=>(zR (fP (i:=1) rfl EV.nd rfl rfl (wc (own:=["kind"]) rfl) rfl (LT kC Jv rfl (by decide) (by decide)) (v7 (λC s H fp pn=>(yt (i:=2) (show(xy ["code", "found"] ["kind"]).Nodup by decide +kernel) rfl (Or.inl rfl))) rfl) (λC s H fp pn=>(j8 (yC (vR (wO hr)) vP (zH (ue kC YO rfl (z8 2))) (zH (z8 0)) (yI _)))) (λC s H fp pn=>(z8 2)))
  (zR (LV (qv 1) (vt rfl (wc (own:=["kind"]) rfl) (LT qu Zs rfl (by decide) (by decide)) (v7 (λC s H fp pn=>(yt (i:=2) (show(xy ["code", "found"] ["kind"]).Nodup by decide +kernel) rfl (Or.inl rfl))) rfl) (λC s H fp pn=>(j8 (yC (vR (wO hr)) vP (zH (ue qu jy rfl (z8 2))) (zH (z8 0)) (yI _)))) (λC s H fp pn=>(z8 2))))
  (zR (LV (qv 1) (vt rfl (wc (own:=["kind"]) rfl) (LT qt Zr rfl (by decide) (by decide)) (v7 (λC s H fp pn=>(yt (i:=2) (show(xy ["code", "found"] ["kind"]).Nodup by decide +kernel) rfl (Or.inl rfl))) rfl) (λC s H fp pn=>(j8 (yC (vR (wO hr)) vP (zH (ue qt jx rfl (z8 2))) (zH (z8 0)) (yI _)))) (λC s H fp pn=>(z8 2))))
  (V4 1 (zY (yE (t7 (yC (vR (wO hr)) vP (zH (z8 1)) (zH (xL (wf zM (yZ ya (by decide))))) (yI _)) wC (zn (zk (zg hr)) zl (z8 1) zI))))))))
abbrev WC:Stmt:=top 28
theorem dC:yG ["code"] ["code"] (zz WC):=⟨rfl,rfl,rfl,by decide +kernel,rfl,by decide +kernel,by decide +kernel⟩
theorem SN(d:zK K mg "is_near_code" WC ["code"])(qD:mg "list" = none)(qu:yf mg "NEAR_CODES" (.ref u4))(jy:wH K w u4 tj tq)(Zs:uS K w u4 tj kG)(Xu:∀H,Reps K H tq kG):zT P w K mg base "is_near_code" ["code"] 1 (zU K qJ):=
 zK.yU d dC (by decide) bx λf cdv A outer s H E hr=>(zY (yE (j6 (t6 (zg hr)) t4 (zH (z8 0)) (zH (xL (Ej rfl rfl qD qu Zs rfl Xu (by decide)))) (by with_unfolding_all rfl))))
abbrev W8:Stmt:=top 29
theorem d8:yG ["code"] ["code"] (zz W8):=⟨rfl,rfl,rfl,by decide +kernel,rfl,by decide +kernel,by decide +kernel⟩
theorem SJ(d:zK K mg "is_far_code" W8 ["code"])(qD:mg "list" = none)(qt:yf mg "FAR_CODES" (.ref u0))(jx:wH K w u0 tf tm)(Zr:uS K w u0 tf kF)(Xt:∀H,Reps K H tm kF):zT P w K mg base "is_far_code" ["code"] 1 (zU K pO):=
 zK.yU d d8 (by decide) br λf cdv A outer s H E hr=>(zY (yE (j6 (t6 (zg hr)) t4 (zH (z8 0)) (zH (xL (Ej rfl rfl qD qt Zr rfl Xt (by decide)))) (by with_unfolding_all rfl))))
abbrev W7:Stmt:=top 31
theorem EU:yG ["word", "kind", "field", "number"] ["word", "kind", "field"] (zz W7):=⟨rfl,rfl,rfl,by decide +kernel,rfl,by decide +kernel,by decide +kernel⟩
theorem SH(d:zK K mg "held_in" W7 ["word", "kind", "field"])(yg:mg "len" = none)(kD:yf mg "MARKS" (.ref tP))(kZ:∀H,ze K H jk (.ref tP))(pq:zT P w K mg base "number_at" ["word", "place"] 2 (zU K uo))(Y3:zT P w K mg base "place_in_word" ["kind", "field"] 1 (zU K wG)):zT P w K mg base "held_in" ["word", "kind", "field"] 3 (zU K u5):=
 zK.yU d EU (by decide) bq λf cdv A outer s H E hr=>(zR (zp (i:=3) EU.nd rfl (Or.inl rfl) (zj pq hr rfl (zD (z8 0) (zD (zj Y3 hr rfl (zD (z8 1) (zD (z8 2) zM))) zM))))
  (zR (yx (yC (YL (wO hr)) YI (zH (z8 2)) (zH yN) (yI _))
   (zY (yE (z8 3)))
   xG)
  (zY (yE (t7 (yC uD wP (zH (z8 3)) (zH (wz vL vQ rfl yg vD (wB (zH (qX kD kZ rfl)) wX))) (yI _)) (zn (zk (zg hr)) zl (qX kD kZ rfl) (z8 3)) wC)))))
abbrev Wc:Stmt:=top 30
theorem Ww:yG ["word", "code", "kind", "row", "known"] ["word"] (zz Wc):=⟨rfl,rfl,rfl,by decide +kernel,rfl,by decide +kernel,by decide +kernel⟩
theorem Sz(d:zK K mg "row_in" Wc ["word"])(Yi:mg "tuple" = none)(vN:yf mg "PLACES" (.ref vI))(vS:wH K w vI wM wN)(Zy:zT P w K mg base "code_in" ["word"] 3 (zU K tR))(Ii:zT P w K mg base "kind_of_code" ["code"] 1 (zU K gb))(Z_:zT P w K mg base "fields_in_word" ["kind"] 1 (zU K wp))(Id:zT P w K mg base "held_in" ["word", "kind", "field"] 3 (zU K u5))(Y1:zT P w K mg base "is_near_code" ["code"] 1 (zU K qJ))(qw:zT P w K mg base "with_number" ["word", "place", "number"] 2 (zU K u7))(tu:zT P w K mg base "first_word" ["row", "code"] 3 (zU K wL)):zT P w K mg base "row_in" ["word"] 4 (zU K uP):=
 zK.yU d Ww (by decide) cY λf cdv A outer s H E hr=>(zR (zp (i:=1) Ww.nd rfl (Or.inl rfl) (zj Zy hr rfl (zD (z8 0) zM)))
  (zR (zp (i:=2) Ww.nd rfl (Or.inr rfl) (zj Ii hr rfl (zD (z8 1) zM)))
  (zR (yx (yC kS kR (zH (z8 2)) (zH wC) (yI _))
   (zY (yE wC))
   xG)
  (zR (zp (i:=3) Ww.nd rfl (Or.inl rfl) (dQ KU A5 rfl Yi BR (zD (zW xb xZ (xL (wf (zD (z8 2) zM) (yZ (zb ya) (by decide)))) (xL (vt rfl (wc (own:=["field"]) rfl) (ug (xL (gA Z_ hr rfl (zD (z8 2) zM)))) (v7 (λC s H fp pn=>(yt (i:=5) (show(xy ["word", "code", "kind", "row", "known"] ["field"]).Nodup by decide +kernel) rfl (Or.inl rfl))) rfl) (λC s H fp pn=>tD) (λC s H fp pn=>(zj Id hr rfl (zD (z8 0) (zD (z8 2) (zD (z8 5) zM)))))))) zM)))
  (zR (yx (yC (t6 (zg hr)) t4 (zH wC) (zH (z8 3)) (by with_unfolding_all rfl))
   (zY (yE wC))
   xG)
  (zR (zp (i:=4) Ww.nd rfl (Or.inl rfl) (t7 (t8 (zj Y1 hr rfl (zD (z8 1) zM))) (zj qw hr rfl (zD (z8 0) (zD (ue vN vS rfl yN) (zD zI zM)))) (z8 0)))
  (zY (yE (t7 (yC (vR (wO hr)) vP (zH (zj tu hr rfl (zD (z8 3) (zD (z8 1) zM)))) (zH (z8 4)) (yI _)) (z8 3) wC)))))))))
abbrev WA:Stmt:=top 33
theorem dA:yG ["item"] ["item"] (zz WA):=⟨rfl,rfl,rfl,by decide +kernel,rfl,by decide +kernel,by decide +kernel⟩
theorem SL(d:zK K mg "is_label" WA ["item"]):zT P w K mg base "is_label" ["item"] 1 (zU K jO):=
 zK.yU d dA (by decide) bv λf cdv A outer s H E hr=>(zY (yE (j6 (vR (wO hr)) vP (zH (zn (zk (zg hr)) zl (z8 0) zI)) (zH yN) (yI _))))
abbrev W9:Stmt:=top 34
theorem d9:yG ["item"] ["item"] (zz W9):=⟨rfl,rfl,rfl,by decide +kernel,rfl,by decide +kernel,by decide +kernel⟩
theorem SK(d:zK K mg "is_jump" W9 ["item"])(IJ:yf mg "JUMPS" (.ref pL))(L1:∀H,ze K H TB (.ref pL)):zT P w K mg base "is_jump" ["item"] 1 (zU K ZU):=
 zK.yU d d9 (by decide) bu λf cdv A outer s H E hr=>(zY (yE (j6 (t6 (zg hr)) t4 (zH (zn (zk (zg hr)) zl (z8 0) zI)) (zH (qX IJ L1 rfl)) (by with_unfolding_all rfl))))
abbrev Wd:Stmt:=top 35
theorem dL:yG ["items"] ["items"] (zz Wd):=⟨rfl,rfl,rfl,by decide +kernel,rfl,by decide +kernel,by decide +kernel⟩
theorem S_(d:zK K mg "rows_of" Wd ["items"])(Y0:zT P w K mg base "is_label" ["item"] 1 (zU K jO)):zT P w K mg base "rows_of" ["items"] 2 (zU K uQ):=
 zK.yU d dL (by decide) cZ λf cdv A outer s H E hr=>(zY (pB (vt rfl (wc (own:=["item"]) rfl) (ug (z8 0)) (v7 (λC s H fp pn=>(yt (i:=1) (show(xy ["items"] ["item"]).Nodup by decide +kernel) rfl (Or.inl rfl))) rfl) (λC s H fp pn=>(j8 (k_ (t8 (zj Y0 hr rfl (zD (z8 1) zM)))))) (λC s H fp pn=>(z8 1)))))
abbrev WE:Stmt:=top 36
theorem Ws:yG ["items", "places", "place", "item"] ["items"] (zz WE):=⟨rfl,rfl,rfl,by decide +kernel,rfl,by decide +kernel,by decide +kernel⟩
theorem SR(d:zK K mg "label_places" WE ["items"])(Y0:zT P w K mg base "is_label" ["item"] 1 (zU K jO)):zT P w K mg base "label_places" ["items"] 2 (zU K gd):=
 zK.yU d Ws (by decide) b_ λf cdv A outer s H E hr=>(zR (qb (i:=1) Ws.nd rfl (Or.inl rfl) LR)
  (zR (zp (i:=2) Ws.nd rfl (Or.inl rfl) zI)
  (zR (qZ vy rfl (ug (z8 0)) (gB (yt (i:=3) Ws.nd rfl (Or.inl rfl)) rfl)
   (zY (yx (t8 (zj Y0 hr rfl (zD (z8 3) zM)))
     (zY (QC (zg hr) (qv 1) (zn (zk (zg hr)) zl (z8 3) zI) (z8 2)))
     (zY (QB (i:=2) TU Tl Ws.nd rfl (Or.inl rfl) zI)))))
  (zY (kz 1)))))
abbrev Wg:Stmt:=top 37
theorem Eb:yG ["items", "places"] ["items"] (zz Wg):=⟨rfl,rfl,rfl,by decide +kernel,rfl,by decide +kernel,by decide +kernel⟩
theorem A3(d:zK K mg "targets_of" Wg ["items"])(Ij:zT P w K mg base "label_places" ["items"] 2 (zU K gd))(py:zT P w K mg base "rows_of" ["items"] 2 (zU K uQ))(Ig:zT P w K mg base "is_jump" ["item"] 1 (zU K ZU)):zT P w K mg base "targets_of" ["items"] 3 (zU K jR):=
 zK.yU d Eb (by decide) ce λf cdv A outer s H E hr=>(zR (zp (i:=1) Eb.nd rfl (Or.inr rfl) (zj Ij hr rfl (zD (z8 0) zM)))
  (zY (pB (vt rfl (wc (own:=["row"]) rfl) (ug (zj py hr rfl (zD (z8 0) zM))) (v7 (λC s H fp pn=>(yt (i:=2) (show(xy ["items", "places"] ["row"]).Nodup by decide +kernel) rfl (Or.inl rfl))) rfl) (λC s H fp pn=>tD) (λC s H fp pn=>(t7 (t8 (zj Ig hr rfl (zD (z8 2) zM))) (zn (zk (zg hr)) zl (z8 1) (zn (zk (zg hr)) zl (z8 2) (uf tH tF zI))) wC))))))
abbrev WT:Stmt:=top 39
theorem Wv:yG ["number", "name", "left"] ["number"] (zz WT):=⟨rfl,rfl,rfl,by decide +kernel,rfl,by decide +kernel,by decide +kernel⟩
theorem So(d:zK K mg "name_of" WT ["number"])(yg:mg "len" = none)(XS:yf mg "LETTERS" (.str "abcdefghijklmnopqrstuvwxyz"))(Xp:∀H,ze K H (.str "abcdefghijklmnopqrstuvwxyz") (.str "abcdefghijklmnopqrstuvwxyz")):zT P w K mg base "name_of" ["number"] 1 (zU K gi):=
 zK.yU d Wv (by decide) cQ λf cdv A outer s H E hr=>(zR (zp (i:=1) Wv.nd rfl (Or.inl rfl) yN)
  (zR (zp (i:=2) Wv.nd rfl (Or.inl rfl) (zW xb xZ (z8 0) zI))
  (zR (LW vy (yC AJ wP (zH (z8 2)) (zH zI) (yI _))
   (zR (zp (i:=1) Wv.nd rfl (Or.inl rfl) (zW xb xZ (zn (zk (zg hr)) zl (qX XS Xp rfl) (zW xK xJ (zW qB qA (z8 2) zI) (wz vL vQ rfl yg vD (wB (zH (qX XS Xp rfl)) wX)))) (z8 1)))
    (zY (zp (i:=2) Wv.nd rfl (Or.inl rfl) (zW wy wx (zW qB qA (z8 2) zI) (wz vL vQ rfl yg vD (wB (zH (qX XS Xp rfl)) wX)))))))
  (zY (yE (z8 1))))))
abbrev WU:Stmt:=top 41
theorem EX:yG ["targets", "places"] ["targets"] (zz WU):=⟨rfl,rfl,rfl,by decide +kernel,rfl,by decide +kernel,by decide +kernel⟩
theorem Sq(d:zK K mg "names_of_places" WU ["targets"])(jD:mg "sorted" = none)(Yh:mg "set" = none)(jC:mg "dict" = none)(uG:mg "enumerate" = none)(Iw:zT P w K mg base "name_of" ["number"] 1 (zU K gi)):zT P w K mg base "names_of_places" ["targets"] 2 (zU K Zd):=
 zK.yU d EX (by decide) cR λf cdv A outer s H E hr=>(zR (zp (i:=1) EX.nd rfl (Or.inl rfl) (xL (Ek rfl rfl jD rfl Yh (zD (xL (vt rfl (wc (own:=["target"]) rfl) (ug (z8 0)) (v7 (λC s H fp pn=>(yt (i:=2) (show(xy ["targets", "places"] ["target"]).Nodup by decide +kernel) rfl (Or.inl rfl))) rfl) (λC s H fp pn=>(j8 (yC Xl Xi (zH (z8 2)) (zH wC) (yI _)))) (λC s H fp pn=>(z8 2)))) zM))))
  (zY (pB (LQ rfl rfl jC Jf (zD (xL (vt rfl (wc (own:=["number", "place"]) rfl) (Q7 rfl uG (z8 1)) (BH (λC s H fp pn=>(jz (n:=2) rfl (vp (yt (i:=2) (show(xy ["targets", "places"] ["number", "place"]).Nodup by decide +kernel) rfl (Or.inl rfl)) (vp (yt (i:=3) (show(xy ["targets", "places"] ["number", "place"]).Nodup by decide +kernel) rfl (Or.inl rfl)) j_)))) rfl rfl) (λC s H fp pn=>tD) (λC s H fp pn=>(x_ (zD (z8 3) (zD (zj Iw hr rfl (zD (z8 2) zM)) zM)) (yZ (zb (zb ya)) (by decide)))))) zM)))))
abbrev WF:Stmt:=top 40
theorem Wt:yG ["rows", "targets", "names", "items", "number", "row"] ["rows", "targets"] (zz WF):=⟨rfl,rfl,rfl,by decide +kernel,rfl,by decide +kernel,by decide +kernel⟩
theorem SU(d:zK K mg "labelled" WF ["rows", "targets"])(uG:mg "enumerate" = none)(yg:mg "len" = none)(Ix:zT P w K mg base "names_of_places" ["targets"] 2 (zU K Zd)):zT P w K mg base "labelled" ["rows", "targets"] 3 (zU K ZW):=
 zK.yU d Wt (by decide) cA λf cdv A outer s H E hr=>(zR (zp (i:=2) Wt.nd rfl (Or.inl rfl) (zj Ix hr rfl (zD (z8 1) zM)))
  (zR (qb (i:=3) Wt.nd rfl (Or.inl rfl) (wf zM (yZ ya (by decide))))
  (zR (qZ vy rfl (Q7 rfl uG (z8 0)) (YZ (jz (n:=2) rfl (vp (yt (i:=4) Wt.nd rfl (Or.inl rfl)) (vp (yt (i:=5) Wt.nd rfl (Or.inl rfl)) j_))) rfl rfl)
   (zR (yx (yC (t6 (zg hr)) t4 (zH (z8 4)) (zH (z8 2)) (by with_unfolding_all rfl))
     (zY (vv (qv 3) (x_ (zD yN (zD (zn (zk (zg hr)) zl (z8 2) (z8 4)) zM)) (yZ (zb (zb ya)) (by decide)))))
     xG)
    (zY (vv (qv 3) (t7 (yC kS kR (zH (zn (zk (zg hr)) zl (z8 1) (z8 4))) (zH wC) (yI _)) (z8 5) (zW xb xZ (z8 5) (x_ (zD (zn (zk (zg hr)) zl (z8 2) (zn (zk (zg hr)) zl (z8 1) (z8 4))) zM) (yZ (zb ya) (by decide)))))))))
  (zR (yx (yC (t6 (zg hr)) t4 (zH (wz vL vQ rfl yg vD (wB (zH (z8 0)) wX))) (zH (z8 2)) (by with_unfolding_all rfl))
   (zY (vv (qv 3) (x_ (zD yN (zD (zn (zk (zg hr)) zl (z8 2) (wz vL vQ rfl yg vD (wB (zH (z8 0)) wX))) zM)) (yZ (zb (zb ya)) (by decide)))))
   xG)
  (zY (kz 3))))))
abbrev W2:Stmt:=top 44
theorem c_:yG ["words", "address", "row"] ["words", "address", "row"] (zz W2):=⟨rfl,rfl,rfl,by decide +kernel,rfl,by decide +kernel,by decide +kernel⟩
theorem S7(d:zK K mg "far_at" W2 ["words", "address", "row"])(yg:mg "len" = none)(Zu:yf mg "WORD_BITS" (.int 32))(YQ:∀H,ze K H (.int 32) (.int 32))(Y4:zT P w K mg base "signed" ["number", "width"] 1 (zU K qj)):zT P w K mg base "far_at" ["words", "address", "row"] 2 (zU K ZS):=
 zK.yU d c_ (by decide) bh λf cdv A outer s H E hr=>(zR (yx (yC To wP (zH (zW xb xZ (z8 1) zI)) (zH (wz vL vQ rfl yg vD (wB (zH (z8 0)) wX))) (yI _))
   (zY (yE wC))
   xG)
  (zY (yE (x_ (zD (z8 2) (zD (zW xb xZ (z8 1) zI) (zD (zW xb xZ (z8 1) (zj Y4 hr rfl (zD (zn (zk (zg hr)) zl (z8 0) (zW xb xZ (z8 1) zI)) (zD (qX Zu YQ rfl) zM)))) zM))) (yZ (zb (zb (zb ya))) (by decide))))))
abbrev Wh:Stmt:=top 43
theorem Q5:yG ["words", "address", "row", "code", "place"] ["words", "address"] (zz Wh):=⟨rfl,rfl,rfl,by decide +kernel,rfl,by decide +kernel,by decide +kernel⟩
theorem A4(d:zK K mg "told_at" Wh ["words", "address"])(yg:mg "len" = none)(vN:yf mg "PLACES" (.ref vI))(vS:wH K w vI wM wN)(I_:zT P w K mg base "row_in" ["word"] 4 (zU K uP))(Zy:zT P w K mg base "code_in" ["word"] 3 (zU K tR))(Ie:zT P w K mg base "is_far_code" ["code"] 1 (zU K pO))(IY:zT P w K mg base "far_at" ["words", "address", "row"] 2 (zU K ZS))(Y1:zT P w K mg base "is_near_code" ["code"] 1 (zU K qJ))(Y4:zT P w K mg base "signed" ["number", "width"] 1 (zU K qj))(pq:zT P w K mg base "number_at" ["word", "place"] 2 (zU K uo)):zT P w K mg base "told_at" ["words", "address"] 5 (zU K uq):=
 zK.yU d Q5 (by decide) cf λf cdv A outer s H E hr=>(zR (yx (j9 (Ya (yC uD wP (zH (z8 1)) (zH zI) (yI _)) (Yb (yC To wP (zH (z8 1)) (zH (wz vL vQ rfl yg vD (wB (zH (z8 0)) wX))) (yI _)))))
   (zY (yE wC))
   xG)
  (zR (zp (i:=2) Q5.nd rfl (Or.inl rfl) (zj I_ hr rfl (zD (zn (zk (zg hr)) zl (z8 0) (z8 1)) zM)))
  (zR (yx (yC kS kR (zH (z8 2)) (zH wC) (yI _))
   (zY (yE wC))
   xG)
  (zR (zp (i:=3) Q5.nd rfl (Or.inl rfl) (zj Zy hr rfl (zD (zn (zk (zg hr)) zl (z8 0) (z8 1)) zM)))
  (zR (yx (t8 (zj Ie hr rfl (zD (z8 3) zM)))
   (zY (yE (zj IY hr rfl (zD (z8 0) (zD (z8 1) (zD (z8 2) zM))))))
   xG)
  (zR (yx (t8 (zj Y1 hr rfl (zD (z8 3) zM)))
   (zR (zp (i:=4) Q5.nd rfl (Or.inl rfl) (ue vN vS rfl yN))
    (zY (yE (x_ (zD (z8 2) (zD (zW xb xZ (z8 1) zI) (zD (zW xb xZ (z8 1) (zj Y4 hr rfl (zD (zj pq hr rfl (zD (zn (zk (zg hr)) zl (z8 0) (z8 1)) (zD (z8 4) zM))) (zD (zn (zk (zg hr)) zl (z8 4) zI) zM)))) zM))) (yZ (zb (zb (zb ya))) (by decide))))))
   xG)
  (zY (yE (x_ (zD (z8 2) (zD (zW xb xZ (z8 1) zI) (zD wC zM))) (yZ (zb (zb (zb ya))) (by decide)))))))))))
abbrev Wj:Stmt:=top 48
theorem YW:yG ["words", "table", "address", "told"] ["words"] (zz Wj):=⟨rfl,rfl,rfl,by decide +kernel,rfl,by decide +kernel,by decide +kernel⟩
theorem A7(d:zK K mg "walked" Wj ["words"])(TM:zT P w K mg base "told_at" ["words", "address"] 5 (zU K uq)):zT P w K mg base "walked" ["words"] 6 (zU K jT):=
 zK.yU d YW (by decide) ci λf cdv A outer s H E hr=>(zR (qb (i:=1) YW.nd rfl (Or.inl rfl) LR)
  (zR (zp (i:=2) YW.nd rfl (Or.inl rfl) zI)
  (zR (zp (i:=3) YW.nd rfl (Or.inl rfl) (zj TM hr rfl (zD (z8 0) (zD (z8 2) zM))))
  (zR (LW vy (yC Xl Xi (zH (z8 3)) (zH wC) (yI _))
   (zR (QC (zg hr) (qv 1) (z8 2) (z8 3))
    (zR (zp (i:=2) YW.nd rfl (Or.inl rfl) (zn (zk (zg hr)) zl (z8 3) zI))
    (zY (zp (i:=3) YW.nd rfl (Or.inl rfl) (zj TM hr rfl (zD (z8 0) (zD (z8 2) zM))))))))
  (zY (kz 1))))))
abbrev Xy:Stmt:=top 49
theorem cy:yG ["table"] ["table"] (zz Xy):=⟨rfl,rfl,rfl,by decide +kernel,rfl,by decide +kernel,by decide +kernel⟩
theorem S4(d:zK K mg "behind" Xy ["table"])(Yg:mg "max" = none):zT P w K mg base "behind" ["table"] 1 (zU K ZR):=
 zK.yU d cy (by decide) bd λf cdv A outer s H E hr=>(zY (yE (dW rfl rfl Yg (xL (di (df rfl (wc (own:=["told"]) rfl) (LS (i:=0) rfl (by first|exact Or.inl rfl|exact Or.inr (Or.inl rfl)|exact Or.inr (Or.inr rfl))) (v7 (λC s H fp pn=>(yt (i:=1) (show(xy ["table"] ["told"]).Nodup by decide +kernel) rfl (Or.inl rfl))) rfl) (λC s H fp pn=>tD) (λC s H fp pn=>(zn (zk (zg hr)) zl (z8 1) zI))) (Jp (Jq 0)))) zI)))
abbrev Wn:Stmt:=top 46
theorem YX:yG ["words", "table", "end", "address", "told", "target"] ["words"] (zz Wn):=⟨rfl,rfl,rfl,by decide +kernel,rfl,by decide +kernel,by decide +kernel⟩
theorem AA(d:zK K mg "word_fault" Wn ["words"])(yg:mg "len" = none)(Y6:zT P w K mg base "walked" ["words"] 6 (zU K jT))(IX:zT P w K mg base "behind" ["table"] 1 (zU K ZR)):zT P w K mg base "word_fault" ["words"] 7 (zU K jU):=
 zK.yU d YX (by decide) cm λf cdv A outer s H E hr=>(zR (zp (i:=1) YX.nd rfl (Or.inl rfl) (zj Y6 hr rfl (zD (z8 0) zM)))
  (zR (zp (i:=2) YX.nd rfl (Or.inl rfl) (zj IX hr rfl (zD (z8 1) zM)))
  (zR (yx (yC (YL (wO hr)) YI (zH (z8 2)) (zH (wz vL vQ rfl yg vD (wB (zH (z8 0)) wX))) (yI _))
   (zY (yE (z8 2)))
   xG)
  (zR (QD (Et vy rfl (dq (i:=1) rfl (by first|exact Or.inl rfl|exact Or.inr (Or.inl rfl)|exact Or.inr (Or.inr rfl))) (YZ (jz (n:=2) rfl (vp (yt (i:=3) YX.nd rfl (Or.inl rfl)) (vp (yt (i:=4) YX.nd rfl (Or.inl rfl)) j_))) rfl rfl)
   (zR (zp (i:=5) YX.nd rfl (Or.inl rfl) (zn (zk (zg hr)) zl (z8 4) zI))
    (zY (yx (j9 (QF (yC Xl Xi (zH (z8 5)) (zH wC) (yI _)) (QF (yC (YL (wO hr)) YI (zH (z8 5)) (zH (z8 2)) (yI _)) (LZ (yC (CV (zg hr)) CS (zH (z8 5)) (zH (z8 1)) (by with_unfolding_all rfl))))))
     (zY (yE (z8 3)))
     xG)))) (Bc (Kr 1)))
  (zY (yE wC))))))
abbrev Wf:Stmt:=top 47
theorem Ea:yG ["words", "wrong"] ["words"] (zz Wf):=⟨rfl,rfl,rfl,by decide +kernel,rfl,by decide +kernel,by decide +kernel⟩
theorem A2(d:zK K mg "table_of" Wf ["words"])(Y7:zT P w K mg base "word_fault" ["words"] 7 (zU K jU))(Y6:zT P w K mg base "walked" ["words"] 6 (zU K jT)):zT P w K mg base "table_of" ["words"] 8 (zU K Zf):=
 zK.yU d Ea (by decide) cb λf cdv A outer s H E hr=>(zR (zp (i:=1) Ea.nd rfl (Or.inl rfl) (zj Y7 hr rfl (zD (z8 0) zM)))
  (zR (yx (yC Xl Xi (zH (z8 1)) (zH wC) (yI _))
   Ew
   xG)
  (zY (yE (zj Y6 hr rfl (zD (z8 0) zM))))))
abbrev Wb:Stmt:=top 45
theorem kx:yG ["words", "table", "numbers", "number", "address", "rows", "targets"] ["words"] (zz Wb):=⟨rfl,rfl,rfl,by decide +kernel,rfl,by decide +kernel,by decide +kernel⟩
theorem Sy(d:zK K mg "read_words" Wb ["words"])(yg:mg "len" = none)(uG:mg "enumerate" = none)(O0:zT P w K mg base "table_of" ["words"] 8 (zU K Zf))(Ik:zT P w K mg base "labelled" ["rows", "targets"] 3 (zU K ZW)):zT P w K mg base "read_words" ["words"] 9 (zU K jQ):=
 zK.yU d kx (by decide) cX λf cdv A outer s H E hr=>(zR (zp (i:=1) kx.nd rfl (Or.inl rfl) (zj O0 hr rfl (zD (z8 0) zM)))
  (zR (qb (i:=2) kx.nd rfl (Or.inr rfl) (db (wz vL vQ rfl yg vD (wB (zH (z8 0)) wX)) (wz KE Sk rfl yg vD (wB (zH (z8 1)) wX))))
  (zR (QD (Et vy rfl (dm (i:=1) rfl uG rfl (by first|exact Or.inl rfl|exact Or.inr (Or.inl rfl)|exact Or.inr (Or.inr rfl))) (YZ (jz (n:=2) rfl (vp (yt (i:=3) kx.nd rfl (Or.inl rfl)) (vp (yt (i:=4) kx.nd rfl (Or.inl rfl)) j_))) rfl rfl)
   (zY (QC (zg hr) (qv 2) (z8 4) (z8 3)))) (Bc (Kq 1)))
  (V4 2 (zR (QD (Ev (j:=5) rfl kx.nd rfl rfl (wc (own:=["told"]) rfl) rfl (LS (i:=1) rfl (by first|exact Or.inl rfl|exact Or.inr (Or.inl rfl)|exact Or.inr (Or.inr rfl))) (v7 (λC s H fp pn=>(yt (i:=7) (show(xy ["words", "table", "numbers", "number", "address", "rows", "targets"] ["told"]).Nodup by decide +kernel) rfl (Or.inl rfl))) rfl) (λC s H fp pn=>tD) (λC s H fp pn=>(zn (zk (zg hr)) zl (z8 7) zI))) (Bd (Jp (Jq 1))))
  (zR (QD (Ev (j:=6) rfl kx.nd rfl rfl (wc (own:=["told"]) rfl) rfl (LS (i:=1) rfl (by first|exact Or.inl rfl|exact Or.inr (Or.inl rfl)|exact Or.inr (Or.inr rfl))) (v7 (λC s H fp pn=>(yt (i:=7) (show(xy ["words", "table", "numbers", "number", "address", "rows", "targets"] ["told"]).Nodup by decide +kernel) rfl (Or.inl rfl))) rfl) (λC s H fp pn=>tD) (λC s H fp pn=>(t7 (yC kS kR (zH (zn (zk (zg hr)) zl (z8 7) zI)) (zH wC) (yI _)) wC (zn (zk (zg hr)) zl (z8 2) (zn (zk (zg hr)) zl (z8 7) zI))))) (Bd (Jp (Jq 1))))
  (zY (pB (gA Ik hr rfl (zD (z8 5) (zD (z8 6) zM)))))))))))
abbrev Xx:Stmt:=top 51
theorem YS:yG ["items", "far", "twofold", "number", "told", "address"] ["items", "far"] (zz Xx):=⟨rfl,rfl,rfl,by decide +kernel,rfl,by decide +kernel,by decide +kernel⟩
theorem S0(d:zK K mg "addresses" Xx ["items", "far"])(jC:mg "dict" = none)(wg:mg "range" = none)(yg:mg "len" = none)(py:zT P w K mg base "rows_of" ["items"] 2 (zU K uQ)):zT P w K mg base "addresses" ["items", "far"] 3 (zU K ZQ):=
 zK.yU d YS (by decide) ba λf cdv A outer s H E hr=>(zR (zp (i:=2) YS.nd rfl (Or.inl rfl) (xL (LQ rfl rfl jC Jf (zD (xL (vt rfl (wc (own:=["number"]) rfl) (ug (z8 1)) (v7 (λC s H fp pn=>(yt (i:=6) (show(xy ["items", "far", "twofold", "number", "told", "address"] ["number"]).Nodup by decide +kernel) rfl (Or.inl rfl))) rfl) (λC s H fp pn=>tD) (λC s H fp pn=>(x_ (zD (z8 6) (zD ky zM)) (yZ (zb (zb ya)) (by decide)))))) zM))))
  (zR (qb (i:=4) YS.nd rfl (Or.inl rfl) (wf zM (yZ ya (by decide))))
  (zR (zp (i:=5) YS.nd rfl (Or.inl rfl) zI)
  (zR (qZ vy rfl (gC rfl wg (wz vL vQ rfl yg vD (wB (zH (zj py hr rfl (zD (z8 0) zM))) wX))) (gB (yt (i:=3) YS.nd rfl (Or.inl rfl)) rfl)
   (zR (vv (qv 4) (z8 5))
    (zY (QB (i:=5) TU Tl YS.nd rfl (Or.inl rfl) (t7 (yC (t6 (zg hr)) t4 (zH (z8 3)) (zH (z8 2)) (by with_unfolding_all rfl)) zI zI)))))
  (zR (vv (qv 4) (z8 5))
  (zY (kz 4)))))))
abbrev WB:Stmt:=top 58
theorem dB:yG ["distance"] ["distance"] (zz WB):=⟨rfl,rfl,rfl,by decide +kernel,rfl,by decide +kernel,by decide +kernel⟩
theorem SM(d:zK K mg "is_near" WB ["distance"])(IL:yf mg "NEAR_ON" (.int 15))(L5:∀H,ze K H (.int 15) (.int 15))(IK:yf mg "NEAR_BACK" (.int 16))(L4:∀H,ze K H (.int 16) (.int 16)):zT P w K mg base "is_near" ["distance"] 1 (zU K ZV):=
 zK.yU d dB (by decide) bw λf cdv A outer s H E hr=>(zY (yE (dX (j6 kS kR (zH (z8 0)) (zH wC) (yI _)) (LO (Ef (j6 Tp wP (zH (uf tH tF (qX IK L4 rfl))) (zH (z8 0)) (yI _)) (LO (j6 Tp wP (zH (z8 0)) (zH (qX IL L5 rfl)) (yI _))))))))
abbrev X_:Stmt:=top 57
theorem ET:yG ["items", "far", "at"] ["items", "far"] (zz X_):=⟨rfl,rfl,rfl,by decide +kernel,rfl,by decide +kernel,by decide +kernel⟩
theorem S6(d:zK K mg "distances_of" X_ ["items", "far"])(uG:mg "enumerate" = none)(IW:zT P w K mg base "addresses" ["items", "far"] 3 (zU K ZQ))(O1:zT P w K mg base "targets_of" ["items"] 3 (zU K jR)):zT P w K mg base "distances_of" ["items", "far"] 4 (zU K jM):=
 zK.yU d ET (by decide) bg λf cdv A outer s H E hr=>(zR (zp (i:=2) ET.nd rfl (Or.inr rfl) (xL (gA IW hr rfl (zD (z8 0) (zD (z8 1) zM)))))
  (zY (pB (vt rfl (wc (own:=["number", "target"]) rfl) (Q7 rfl uG (zj O1 hr rfl (zD (z8 0) zM))) (BH (λC s H fp pn=>(jz (n:=2) rfl (vp (yt (i:=3) (show(xy ["items", "far", "at"] ["number", "target"]).Nodup by decide +kernel) rfl (Or.inl rfl)) (vp (yt (i:=4) (show(xy ["items", "far", "at"] ["number", "target"]).Nodup by decide +kernel) rfl (Or.inl rfl)) j_)))) rfl rfl) (λC s H fp pn=>tD) (λC s H fp pn=>(t7 (yC kS kR (zH (z8 4)) (zH wC) (yI _)) wC (zW qB qA (zn (zk (zg hr)) zl (z8 2) (z8 4)) (zn (zk (zg hr)) zl (z8 2) (z8 3)))))))))
abbrev WX:Stmt:=top 56
theorem Q4:yG ["items", "far", "distances", "chosen", "near"] ["items", "far"] (zz WX):=⟨rfl,rfl,rfl,by decide +kernel,rfl,by decide +kernel,by decide +kernel⟩
theorem Ss(d:zK K mg "not_reaching" WX ["items", "far"])(jC:mg "dict" = none)(wg:mg "range" = none)(yg:mg "len" = none)(Zz:zT P w K mg base "distances_of" ["items", "far"] 4 (zU K jM))(Ih:zT P w K mg base "is_near" ["distance"] 1 (zU K ZV)):zT P w K mg base "not_reaching" ["items", "far"] 5 (zU K pQ):=
 zK.yU d Q4 (by decide) cT λf cdv A outer s H E hr=>(zR (zp (i:=2) Q4.nd rfl (Or.inr rfl) (zj Zz hr rfl (zD (z8 0) (zD (z8 1) zM))))
  (zR (zp (i:=3) Q4.nd rfl (Or.inr rfl) (xL (LQ rfl rfl jC Jf (zD (xL (vt rfl (wc (own:=["number"]) rfl) (ug (z8 1)) (v7 (λC s H fp pn=>(yt (i:=5) (show(xy ["items", "far", "distances", "chosen", "near"] ["number"]).Nodup by decide +kernel) rfl (Or.inl rfl))) rfl) (λC s H fp pn=>tD) (λC s H fp pn=>(x_ (zD (z8 5) (zD ky zM)) (yZ (zb (zb ya)) (by decide)))))) zM))))
  (zR (Eu (i:=4) rfl Q4.nd rfl rfl (wc (own:=["number"]) rfl) rfl (gC rfl wg (wz vL vQ rfl yg vD (wB (zH (z8 2)) wX))) (v7 (λC s H fp pn=>(yt (i:=5) (show(xy ["items", "far", "distances", "chosen", "near"] ["number"]).Nodup by decide +kernel) rfl (Or.inl rfl))) rfl) (λC s H fp pn=>(j8 (yC (CV (zg hr)) CS (zH (z8 5)) (zH (z8 3)) (by with_unfolding_all rfl)))) (λC s H fp pn=>(z8 5)))
  (zY (pB (vt rfl (wc (own:=["number"]) rfl) (ug (z8 4)) (v7 (λC s H fp pn=>(yt (i:=5) (show(xy ["items", "far", "distances", "chosen", "near"] ["number"]).Nodup by decide +kernel) rfl (Or.inl rfl))) rfl) (λC s H fp pn=>(j8 (k_ (t8 (zj Ih hr rfl (zD (zn (zk (zg hr)) zl (z8 2) (z8 5)) zM)))))) (λC s H fp pn=>(z8 5))))))))
abbrev W3:Stmt:=top 55
theorem Wq:yG ["items", "far", "lacking"] ["items"] (zz W3):=⟨rfl,rfl,rfl,by decide +kernel,rfl,by decide +kernel,by decide +kernel⟩
theorem S8(d:zK K mg "far_rows" W3 ["items"])(jD:mg "sorted" = none)(TH:zT P w K mg base "not_reaching" ["items", "far"] 5 (zU K pQ)):zT P w K mg base "far_rows" ["items"] 6 (zU K ZT):=
 zK.yU d Wq (by decide) bi λf cdv A outer s H E hr=>(zR (zp (i:=1) Wq.nd rfl (Or.inl rfl) (xL (wf zM (yZ ya (by decide)))))
  (zR (zp (i:=2) Wq.nd rfl (Or.inl rfl) (zj TH hr rfl (zD (z8 0) (zD (z8 1) zM))))
  (zR (LW vy (yC (YL (wO hr)) YI (zH (z8 2)) (zH (xL (wf zM (yZ ya (by decide))))) (yI _))
   (zR (zp (i:=1) Wq.nd rfl (Or.inl rfl) (xL (dj rfl jD (zD (zW xb xZ (z8 1) (z8 2)) zM))))
    (zY (zp (i:=2) Wq.nd rfl (Or.inl rfl) (zj TH hr rfl (zD (z8 0) (zD (z8 1) zM)))))))
  (zY (yE (z8 1))))))
abbrev Wo:Stmt:=top 60
theorem dN:yG ["row"] ["row"] (zz Wo):=⟨rfl,rfl,rfl,by decide +kernel,rfl,by decide +kernel,by decide +kernel⟩
theorem AB(d:zK K mg "word_of_row" Wo ["row"])(kC:yf mg "CODES" (.ref tO))(YO:wH K w tO tZ qQ)(tu:zT P w K mg base "first_word" ["row", "code"] 3 (zU K wL)):zT P w K mg base "word_of_row" ["row"] 4 (zU K gk):=
 zK.yU d dN (by decide) cn λf cdv A outer s H E hr=>(zY (yE (zj tu hr rfl (zD (z8 0) (zD (ue kC YO rfl (zn (zk (zg hr)) zl (z8 0) zI)) zM)))))
abbrev WV:Stmt:=top 62
theorem EY:yG ["row", "distance", "place"] ["row", "distance"] (zz WV):=⟨rfl,rfl,rfl,by decide +kernel,rfl,by decide +kernel,by decide +kernel⟩
theorem Sr(d:zK K mg "near_word" WV ["row", "distance"])(vN:yf mg "PLACES" (.ref vI))(vS:wH K w vI wM wN)(qu:yf mg "NEAR_CODES" (.ref u4))(jy:wH K w u4 tj tq)(qw:zT P w K mg base "with_number" ["word", "place", "number"] 2 (zU K u7))(Y5:zT P w K mg base "unsigned" ["number", "width"] 1 (zU K jS))(tu:zT P w K mg base "first_word" ["row", "code"] 3 (zU K wL)):zT P w K mg base "near_word" ["row", "distance"] 4 (zU K gj):=
 zK.yU d EY (by decide) cS λf cdv A outer s H E hr=>(zR (zp (i:=2) EY.nd rfl (Or.inl rfl) (ue vN vS rfl yN))
  (zY (yE (zj qw hr rfl (zD (zj tu hr rfl (zD (z8 0) (zD (ue qu jy rfl (zn (zk (zg hr)) zl (z8 0) zI)) zM))) (zD (z8 2) (zD (zj Y5 hr rfl (zD (z8 1) (zD (zn (zk (zg hr)) zl (z8 2) zI) zM))) zM)))))))
abbrev W4:Stmt:=top 63
theorem d3:yG ["row", "distance"] ["row", "distance"] (zz W4):=⟨rfl,rfl,rfl,by decide +kernel,rfl,by decide +kernel,by decide +kernel⟩
theorem S9(d:zK K mg "far_words" W4 ["row", "distance"])(Zu:yf mg "WORD_BITS" (.int 32))(YQ:∀H,ze K H (.int 32) (.int 32))(qt:yf mg "FAR_CODES" (.ref u0))(jx:wH K w u0 tf tm)(Y5:zT P w K mg base "unsigned" ["number", "width"] 1 (zU K jS))(tu:zT P w K mg base "first_word" ["row", "code"] 3 (zU K wL)):zT P w K mg base "far_words" ["row", "distance"] 4 (zU K jN):=
 zK.yU d d3 (by decide) bj λf cdv A outer s H E hr=>(zY (pB (wf (zD (zj tu hr rfl (zD (z8 0) (zD (ue qt jx rfl (zn (zk (zg hr)) zl (z8 0) zI)) zM))) (zD (zj Y5 hr rfl (zD (z8 1) (zD (qX Zu YQ rfl) zM))) zM)) (yZ (zb (zb ya)) (by decide)))))
abbrev Wp:Stmt:=top 61
theorem YY:yG ["items", "far", "distances", "words", "number", "row"] ["items"] (zz Wp):=⟨rfl,rfl,rfl,by decide +kernel,rfl,by decide +kernel,by decide +kernel⟩
theorem AC(d:zK K mg "written" Wp ["items"])(uG:mg "enumerate" = none)(IZ:zT P w K mg base "far_rows" ["items"] 6 (zU K ZT))(Zz:zT P w K mg base "distances_of" ["items", "far"] 4 (zU K jM))(py:zT P w K mg base "rows_of" ["items"] 2 (zU K uQ))(O3:zT P w K mg base "word_of_row" ["row"] 4 (zU K gk))(Ic:zT P w K mg base "far_words" ["row", "distance"] 4 (zU K jN))(Iy:zT P w K mg base "near_word" ["row", "distance"] 4 (zU K gj)):zT P w K mg base "written" ["items"] 7 (zU K Zh):=
 zK.yU d YY (by decide) cq λf cdv A outer s H E hr=>(zR (zp (i:=1) YY.nd rfl (Or.inl rfl) (zj IZ hr rfl (zD (z8 0) zM)))
  (zR (zp (i:=2) YY.nd rfl (Or.inl rfl) (zj Zz hr rfl (zD (z8 0) (zD (z8 1) zM))))
  (zR (qb (i:=3) YY.nd rfl (Or.inl rfl) (wf zM (yZ ya (by decide))))
  (zR (qZ vy rfl (Q7 rfl uG (zj py hr rfl (zD (z8 0) zM))) (YZ (jz (n:=2) rfl (vp (yt (i:=4) YY.nd rfl (Or.inl rfl)) (vp (yt (i:=5) YY.nd rfl (Or.inl rfl)) j_))) rfl rfl)
   (zY (yx (yC kS kR (zH (zn (zk (zg hr)) zl (z8 2) (z8 4))) (zH wC) (yI _))
     (zY (vv (qv 3) (zj O3 hr rfl (zD (z8 5) zM))))
     (zY (yx (yC (t6 (zg hr)) t4 (zH (z8 4)) (zH (z8 1)) (by with_unfolding_all rfl))
       (zY (LV (qv 3) (gA Ic hr rfl (zD (z8 5) (zD (zn (zk (zg hr)) zl (z8 2) (z8 4)) zM)))))
       (zY (vv (qv 3) (zj Iy hr rfl (zD (z8 5) (zD (zn (zk (zg hr)) zl (z8 2) (z8 4)) zM))))))))))
  (zY (kz 3))))))
abbrev WH:Stmt:=top 65
theorem dD:yG ["_law_script", "_law_k"] ["_law_script", "_law_k"] (zz WH):=⟨rfl,rfl,rfl,by decide +kernel,rfl,by decide +kernel,by decide +kernel⟩
theorem SY(d:zK K mg "_law_cell_at" WH ["_law_script", "_law_k"])(yg:mg "len" = none):zT P w K mg base "_law_cell_at" ["_law_script", "_law_k"] 1 (zU K qK):=
 zK.yU d dD (by decide) cD λf cdv A outer s H E hr=>(zR (yx (yC uD wP (zH (z8 1)) (zH (wz vL vQ rfl yg vD (wB (zH (z8 0)) wX))) (yI _))
   (zY (yE (zn (zk (zg hr)) zl (z8 0) (z8 1))))
   xG)
  (zY (yE zI)))
abbrev WL:Stmt:=top 66
theorem dF:yG ["_law_cell", "_law_k"] ["_law_cell", "_law_k"] (zz WL):=⟨rfl,rfl,rfl,by decide +kernel,rfl,by decide +kernel,by decide +kernel⟩
theorem Sc(d:zK K mg "_law_mixed" WL ["_law_cell", "_law_k"]):zT P w K mg base "_law_mixed" ["_law_cell", "_law_k"] 1 (zU K v3):=
 zK.yU d dF (by decide) cH λf cdv A outer s H E hr=>(zY (yE (zW xK xJ (zW AT Sx (zW xK xJ (zW xb xZ (zW Xk CQ (z8 0) zI) (zW Xk CQ (zW xb xZ (z8 1) zI) zI)) zI) zI) zI)))
abbrev WM:Stmt:=top 67
theorem YU:yG ["_law_k", "_law_shape", "_law_letters", "_law_tail", "_law_name", "_law_turn"] ["_law_k", "_law_shape"] (zz WM):=⟨rfl,rfl,rfl,by decide +kernel,rfl,by decide +kernel,by decide +kernel⟩
theorem Sd(d:zK K mg "_law_name_by" WM ["_law_k", "_law_shape"])(wg:mg "range" = none)(uY:zT P w K mg base "_law_mixed" ["_law_cell", "_law_k"] 1 (zU K v3)):zT P w K mg base "_law_name_by" ["_law_k", "_law_shape"] 2 (zU K qi):=
 zK.yU d YU (by decide) cI λf cdv A outer s H E hr=>(zR (zp (i:=2) YU.nd rfl (Or.inr rfl) yN)
  (zR (zp (i:=3) YU.nd rfl (Or.inl rfl) (dU yN (zH (xL (vt rfl (wc (own:=["_law_j"]) rfl) (gC rfl wg (zW xK xJ (zW wy wx (z8 1) zI) zI)) (v7 (λC s H fp pn=>(yt (i:=6) (show(xy ["_law_k", "_law_shape", "_law_letters", "_law_tail", "_law_name", "_law_turn"] ["_law_j"]).Nodup by decide +kernel) rfl (Or.inl rfl))) rfl) (λC s H fp pn=>tD) (λC s H fp pn=>(zn (zk (zg hr)) zl (z8 2) (zW xK xJ (zj uY hr rfl (zD (z8 1) (zD (z8 6) zM))) zI))))))))
  (zR (yx (yC (vR (wO hr)) vP (zH (zW xK xJ (z8 1) zI)) (zH zI) (yI _))
   (zR (zp (i:=4) YU.nd rfl (Or.inl rfl) (zn (zk (zg hr)) zl (z8 2) (zW xK xJ (z8 0) zI)))
    (zR (qZ vy rfl (gC rfl wg (zW wy wx (z8 0) zI)) (gB (yt (i:=5) YU.nd rfl (Or.inl rfl)) rfl)
     (zY (zp (i:=4) YU.nd rfl (Or.inl rfl) (zW xb xZ (z8 4) yN))))
    (zY (yE (z8 4)))))
   xG)
  (zR (yx (yC (vR (wO hr)) vP (zH (zW xK xJ (z8 1) zI)) (zH zI) (yI _))
   (zY (yE (zW xb xZ (zW xb xZ (zn (zk (zg hr)) zl (z8 2) (zW xK xJ (z8 0) zI)) (zn (zk (zg hr)) zl (z8 2) (zW wy wx (z8 0) zI))) (Q6 (z8 3) W_ (V2 zI)))))
   xG)
  (zY (yE (zW xb xZ (zW xb xZ (Q6 (z8 3) W_ (V2 zI)) (zn (zk (zg hr)) zl (z8 2) (zW wy wx (z8 0) zI))) (zn (zk (zg hr)) zl (z8 2) (zW xK xJ (z8 0) zI)))))))))
abbrev WQ:Stmt:=top 68
theorem Wu:yG ["_law_cell", "_law_kind", "_law_first", "_law_other", "_law_rest"] ["_law_cell"] (zz WQ):=⟨rfl,rfl,rfl,by decide +kernel,rfl,by decide +kernel,by decide +kernel⟩
theorem Sh(d:zK K mg "_law_row_by" WQ ["_law_cell"]):zT P w K mg base "_law_row_by" ["_law_cell"] 1 (zU K gg):=
 zK.yU d Wu (by decide) cN λf cdv A outer s H E hr=>(zR (zp (i:=1) Wu.nd rfl (Or.inl rfl) (zW xK xJ (z8 0) zI))
  (zR (zp (i:=2) Wu.nd rfl (Or.inl rfl) (zW xK xJ (zW wy wx (z8 0) zI) zI))
  (zR (zp (i:=3) Wu.nd rfl (Or.inl rfl) (zW xK xJ (zW wy wx (z8 0) zI) zI))
  (zR (zp (i:=4) Wu.nd rfl (Or.inl rfl) (zW wy wx (z8 0) zI))
  (zR (yx (yC (vR (wO hr)) vP (zH (z8 1)) (zH zI) (yI _))
   (zY (yE (x_ (zD yN zM) (yZ (zb ya) (by decide)))))
   xG)
  (zR (yx (yC uD wP (zH (z8 1)) (zH zI) (yI _))
   (zY (yE (x_ (zD (zn (zk (zg hr)) zl (xL (wf (zD yN (zD yN zM)) (yZ (zb (zb ya)) (by decide)))) (zW qB qA (z8 1) zI)) (zD (z8 2) (zD (zn (zk (zg hr)) zl (xL (wf (zD (zW xK xJ (z8 4) zI) (zD zI (zD zI (zD (zW xK xJ (z8 4) zI) zM)))) (yZ (zb (zb (zb (zb ya)))) (by decide)))) (zW xK xJ (zW wy wx (z8 4) zI) zI)) zM))) (yZ (zb (zb (zb ya))) (by decide)))))
   xG)
  (zR (yx (yC uD wP (zH (z8 1)) (zH zI) (yI _))
   (zY (yE (x_ (zD (zn (zk (zg hr)) zl (xL (wf (zD yN (zD yN (zD yN (zD yN (zD yN (zD yN (zD yN (zD yN (zD yN zM))))))))) (yZ (zb (zb (zb (zb (zb (zb (zb (zb (zb ya))))))))) (by decide)))) (zW qB qA (z8 1) zI)) (zD (z8 2) (zD (z8 3) zM))) (yZ (zb (zb (zb ya))) (by decide)))))
   xG)
  (zR (yx (yC uD wP (zH (z8 1)) (zH zI) (yI _))
   (zY (yE (x_ (zD (zn (zk (zg hr)) zl (xL (wf (zD yN (zD yN zM)) (yZ (zb (zb ya)) (by decide)))) (zW qB qA (z8 1) zI)) (zD (z8 2) (zD (zn (zk (zg hr)) zl (xL (wf (zD (zW xK xJ (z8 4) zI) (zD zI (zD zI (zD zI zM)))) (yZ (zb (zb (zb (zb ya)))) (by decide)))) (zW xK xJ (zW wy wx (z8 4) zI) zI)) zM))) (yZ (zb (zb (zb ya))) (by decide)))))
   xG)
  (zY (yE (x_ (zD (zn (zk (zg hr)) zl (xL (wf (zD yN (zD yN (zD yN (zD yN zM)))) (yZ (zb (zb (zb (zb ya)))) (by decide)))) (zW qB qA (z8 1) zI)) (zD (z8 2) (zD (z8 3) (zD (zn (zk (zg hr)) zl (xL (wf (zD (zW xK xJ (z8 4) zI) (zD zI (zD zI zM))) (yZ (zb (zb (zb ya))) (by decide)))) (zW xK xJ (zW wy wx (z8 4) zI) zI)) zM)))) (yZ (zb (zb (zb (zb ya)))) (by decide)))))))))))))
abbrev WN:Stmt:=top 69
theorem LK:yG ["_law_number", "_law_many", "_law_cell", "_law_way", "_law_far"] ["_law_number", "_law_many", "_law_cell"] (zz WN):=⟨rfl,rfl,rfl,by decide +kernel,rfl,by decide +kernel,by decide +kernel⟩
theorem Se(d:zK K mg "_law_place_by" WN ["_law_number", "_law_many", "_law_cell"])(Yg:mg "max" = none)(Lw:mg "min" = none):zT P w K mg base "_law_place_by" ["_law_number", "_law_many", "_law_cell"] 1 (zU K ge):=
 zK.yU d LK (by decide) cK λf cdv A outer s H E hr=>(zR (zp (i:=3) LK.nd rfl (Or.inl rfl) (zW xK xJ (z8 2) zI))
  (zR (zp (i:=4) LK.nd rfl (Or.inl rfl) (zW xb xZ (z8 0) (zn (zk (zg hr)) zl (xL (wf (zD zI (zD zI (zD zI (zD zI (zD (uf tH tF zI) (zD (uf tH tF zI) (zD (uf tH tF zI) (zD (uf tH tF zI) zM)))))))) (yZ (zb (zb (zb (zb (zb (zb (zb (zb ya)))))))) (by decide)))) (zW xK xJ (zW wy wx (z8 2) zI) zI))))
  (zR (yx (j9 (QF (yC uD wP (zH (z8 3)) (zH zI) (yI _)) (LZ (fQ Tp wP Tp wP (zH zI) (zH (z8 4)) (zH (z8 1))))))
   (zY (yE (z8 4)))
   xG)
  (zR (yx (yC uD wP (zH (z8 3)) (zH zI) (yI _))
   (zY (yE (zW xK xJ (zW wy wx (z8 2) zI) (zW xb xZ (z8 1) zI))))
   xG)
  (zY (yE (wz (KL rfl) Sm rfl Yg BT (wB (zH zI) (wB (zH (wz (KO rfl) Sn rfl Lw K7 (wB (zH (z8 1)) (wB (zH (zW qB qA (zW xb xZ (z8 0) (zW xK xJ (zW wy wx (z8 2) zI) zI)) zI)) wX)))) wX)))))))))
abbrev WS:Stmt:=top 70
theorem ku:yG ["_law_script", "_law_many", "_law_dense", "_law_found", "_law_number", "_law_cell", "_law_place", "_law_word"] ["_law_script", "_law_many", "_law_dense"] (zz WS):=⟨rfl,rfl,rfl,by decide +kernel,rfl,by decide +kernel,by decide +kernel⟩
theorem Sj(d:zK K mg "_law_rows_by" WS ["_law_script", "_law_many", "_law_dense"])(wg:mg "range" = none)(yg:mg "len" = none)(pp:zT P w K mg base "_law_cell_at" ["_law_script", "_law_k"] 1 (zU K qK))(uY:zT P w K mg base "_law_mixed" ["_law_cell", "_law_k"] 1 (zU K v3))(Ip:zT P w K mg base "_law_place_by" ["_law_number", "_law_many", "_law_cell"] 1 (zU K ge))(Ir:zT P w K mg base "_law_row_by" ["_law_cell"] 1 (zU K gg)):zT P w K mg base "_law_rows_by" ["_law_script", "_law_many", "_law_dense"] 3 (zU K Zc):=
 zK.yU d ku (by decide) cP λf cdv A outer s H E hr=>(zR (qb (i:=3) ku.nd rfl (Or.inl rfl) (wf zM (yZ ya (by decide))))
  (zR (qZ vy rfl (gC rfl wg (z8 1)) (gB (yt (i:=4) ku.nd rfl (Or.inl rfl)) rfl)
   (zR (zp (i:=5) ku.nd rfl (Or.inl rfl) (zj pp hr rfl (zD (z8 0) (zD (zW xb xZ zI (z8 4)) zM))))
    (zR (yx (yC uD wP (zH (wz vL vQ rfl yg vD (wB (zH (z8 0)) wX))) (zH (zW xb xZ zI (z8 4))) (yI _))
     (zY (zp (i:=5) ku.nd rfl (Or.inl rfl) (zj uY hr rfl (zD (zj pp hr rfl (zD (z8 0) (zD zI zM))) (zD (z8 4) zM)))))
     xG)
    (zY (yx (yC uD wP (zH (zW xK xJ (zj uY hr rfl (zD (z8 5) (zD zI zM))) zI)) (zH (z8 2)) (yI _))
     (zR (zp (i:=6) ku.nd rfl (Or.inl rfl) (zj Ip hr rfl (zD (z8 4) (zD (z8 1) (zD (zj uY hr rfl (zD (z8 5) (zD zI zM))) zM)))))
      (zR (zp (i:=7) ku.nd rfl (Or.inl rfl) (zn (zk (zg hr)) zl (xL (wf (zD yN (zD yN (zD yN zM))) (yZ (zb (zb (zb ya))) (by decide)))) (zW xK xJ (zj uY hr rfl (zD (z8 5) (zD zI zM))) zI)))
      (zY (yx (yC (vR (wO hr)) vP (zH (z8 7)) (zH yN) (yI _))
       (zY (vv (qv 3) (x_ (zD (z8 7) (zD (z8 6) zM)) (yZ (zb (zb ya)) (by decide)))))
       (zY (vv (qv 3) (x_ (zD (z8 7) (zD (zn (zk (zg hr)) zl (xL (wf (zD yN (zD yN (zD yN zM))) (yZ (zb (zb (zb ya))) (by decide)))) (zW xK xJ (zj uY hr rfl (zD (z8 5) (zD zI zM))) zI)) (zD (z8 6) zM))) (yZ (zb (zb (zb ya))) (by decide)))))))))
     (zY (vv (qv 3) (zj Ir hr rfl (zD (zj uY hr rfl (zD (z8 5) (zD zI zM))) zM)))))))))
  (zY (kz 3))))
abbrev WJ:Stmt:=top 71
theorem dE:yG ["_law_rows"] ["_law_rows"] (zz WJ):=⟨rfl,rfl,rfl,by decide +kernel,rfl,by decide +kernel,by decide +kernel⟩
theorem Sa(d:zK K mg "_law_jumps_in" WJ ["_law_rows"])(wg:mg "range" = none)(yg:mg "len" = none):zT P w K mg base "_law_jumps_in" ["_law_rows"] 1 (zU K jP):=
 zK.yU d dE (by decide) cF λf cdv A outer s H E hr=>(zY (pB (vt rfl (wc (own:=["_law_number"]) rfl) (gC rfl wg (wz vL vQ rfl yg vD (wB (zH (z8 0)) wX))) (v7 (λC s H fp pn=>(yt (i:=1) (show(xy ["_law_rows"] ["_law_number"]).Nodup by decide +kernel) rfl (Or.inl rfl))) rfl) (λC s H fp pn=>(j8 (yC (t6 (zg hr)) t4 (zH (zn (zk (zg hr)) zl (zn (zk (zg hr)) zl (z8 0) (z8 1)) zI)) (zH (x_ (zD yN (zD yN (zD yN zM))) (yZ (zb (zb (zb ya))) (by decide)))) (by with_unfolding_all rfl)))) (λC s H fp pn=>(z8 1)))))
abbrev WK:Stmt:=top 72
theorem Q3:yG ["_law_cell", "_law_many"] ["_law_cell"] (zz WK):=⟨rfl,rfl,rfl,by decide +kernel,rfl,by decide +kernel,by decide +kernel⟩
theorem Sb(d:zK K mg "_law_many_by" WK ["_law_cell"]):zT P w K mg base "_law_many_by" ["_law_cell"] 1 (zU K ZZ):=
 zK.yU d Q3 (by decide) cG λf cdv A outer s H E hr=>(zR (zp (i:=1) Q3.nd rfl (Or.inl rfl) (zW xK xJ (z8 0) zI))
  (zR (yx (yC (vR (wO hr)) vP (zH (zW xK xJ (zW wy wx (z8 0) zI) zI)) (zH zI) (yI _))
   (zY (zp (i:=1) Q3.nd rfl (Or.inl rfl) (zW xb xZ zI (zW xK xJ (zW wy wx (z8 0) zI) zI))))
   xG)
  (zR (yx (yC (vR (wO hr)) vP (zH (zW xK xJ (zW wy wx (z8 0) zI) zI)) (zH zI) (yI _))
   (zY (zp (i:=1) Q3.nd rfl (Or.inl rfl) (zW xb xZ zI (zW xK xJ (zW wy wx (z8 0) zI) zI))))
   xG)
  (zY (yE (z8 1))))))
abbrev WI:Stmt:=top 73
theorem qW:yG ["_law_rows", "_law_cell", "_law_shape", "_law_places", "_law_names", "_law_items", "_law_count", "_law_place", "_law_more", "_law_jumps"] ["_law_rows", "_law_cell"] (zz WI):=⟨rfl,rfl,rfl,by decide +kernel,rfl,by decide +kernel,by decide +kernel⟩
theorem SZ(d:zK K mg "_law_items_by" WI ["_law_rows", "_law_cell"])(wg:mg "range" = none)(yg:mg "len" = none)(Y2:zT P w K mg base "_law_jumps_in" ["_law_rows"] 1 (zU K jP))(uY:zT P w K mg base "_law_mixed" ["_law_cell", "_law_k"] 1 (zU K v3))(TC:zT P w K mg base "_law_name_by" ["_law_k", "_law_shape"] 2 (zU K qi)):zT P w K mg base "_law_items_by" ["_law_rows", "_law_cell"] 4 (zU K ZY):=
 zK.yU d qW (by decide) cE λf cdv A outer s H E hr=>(zR (zp (i:=2) qW.nd rfl (Or.inl rfl) (zW xK xJ (zW wy wx (z8 1) zI) zI))
  (zR (Eu (i:=3) rfl qW.nd rfl rfl (wc (own:=["_law_number"]) rfl) rfl (ug (zj Y2 hr rfl (zD (z8 0) zM))) (v7 (λC s H fp pn=>(yt (i:=10) (show(xy ["_law_rows", "_law_cell", "_law_shape", "_law_places", "_law_names", "_law_items", "_law_count", "_law_place", "_law_more", "_law_jumps"] ["_law_number"]).Nodup by decide +kernel) rfl (Or.inl rfl))) rfl) (λC s H fp pn=>tD) (λC s H fp pn=>(zn (zk (zg hr)) zl (zn (zk (zg hr)) zl (z8 0) (z8 10)) (uf tH tF zI))))
  (zR (qb (i:=4) qW.nd rfl (Or.inr rfl) LR)
  (zR (qb (i:=5) qW.nd rfl (Or.inl rfl) (wf zM (yZ ya (by decide))))
  (zR (zp (i:=6) qW.nd rfl (Or.inl rfl) zI)
  (zR (qZ vy rfl (gC rfl wg (zW xb xZ (wz vL vQ rfl yg vD (wB (zH (z8 0)) wX)) zI)) (gB (yt (i:=7) qW.nd rfl (Or.inl rfl)) rfl)
   (zR (zp (i:=8) qW.nd rfl (Or.inl rfl) (zW xK xJ (zj uY hr rfl (zD (z8 1) (zD (z8 7) zM))) zI))
    (zR (yx (j9 (Ya (yC (t6 (zg hr)) t4 (zH (z8 7)) (zH (z8 3)) (by with_unfolding_all rfl)) (Yb (yC (vR (wO hr)) vP (zH (z8 8)) (zH zI) (yI _)))))
     (zR (QC (zg hr) (qv 4) (z8 7) (zj TC hr rfl (zD (z8 6) (zD (z8 2) zM))))
      (zR (vv (qv 5) (x_ (zD yN (zD (dS (zg hr) (qv 4) (z8 7)) zM)) (yZ (zb (zb ya)) (by decide))))
      (zY (QB (i:=6) TU Tl qW.nd rfl (Or.inl rfl) zI))))
     xG)
    (zR (yx (yC (vR (wO hr)) vP (zH (z8 8)) (zH zI) (yI _))
     (zR (vv (qv 5) (x_ (zD yN (zD (zj TC hr rfl (zD (z8 6) (zD (z8 2) zM))) zM)) (yZ (zb (zb ya)) (by decide))))
      (zY (QB (i:=6) TU Tl qW.nd rfl (Or.inl rfl) zI)))
     xG)
    (zY (yx (yC uD wP (zH (z8 7)) (zH (wz vL vQ rfl yg vD (wB (zH (z8 0)) wX))) (yI _))
     (zY (vv (qv 5) (zn (zk (zg hr)) zl (z8 0) (z8 7))))
     xG))))))
  (V4 5 (V4 4 (zR (zp (i:=9) qW.nd rfl (Or.inr rfl) (x_ (zD yN (zD yN (zD yN zM))) (yZ (zb (zb (zb ya))) (by decide))))
  (zY (pB (vt rfl (wc (own:=["_law_item"]) rfl) (ug (z8 5)) (v7 (λC s H fp pn=>(yt (i:=10) (show(xy ["_law_rows", "_law_cell", "_law_shape", "_law_places", "_law_names", "_law_items", "_law_count", "_law_place", "_law_more", "_law_jumps"] ["_law_item"]).Nodup by decide +kernel) rfl (Or.inl rfl))) rfl) (λC s H fp pn=>tD) (λC s H fp pn=>(t7 (yC (t6 (zg hr)) t4 (zH (zn (zk (zg hr)) zl (z8 10) zI)) (zH (z8 9)) (by with_unfolding_all rfl)) (zW xb xZ (Q6 (z8 10) W_ (V2 (uf tH tF zI))) (x_ (zD (zn (zk (zg hr)) zl (z8 4) (zn (zk (zg hr)) zl (z8 10) (uf tH tF zI))) zM) (yZ (zb ya) (by decide)))) (z8 10)))))))))))))))
abbrev WG:Stmt:=top 74
theorem Q2:yG ["_law_script", "_law_many", "_law_dense", "_law_rows"] ["_law_script"] (zz WG):=⟨rfl,rfl,rfl,by decide +kernel,rfl,by decide +kernel,by decide +kernel⟩
theorem SX(d:zK K mg "_law_built" WG ["_law_script"])(Io:zT P w K mg base "_law_many_by" ["_law_cell"] 1 (zU K ZZ))(pp:zT P w K mg base "_law_cell_at" ["_law_script", "_law_k"] 1 (zU K qK))(Iv:zT P w K mg base "_law_rows_by" ["_law_script", "_law_many", "_law_dense"] 3 (zU K Zc))(Im:zT P w K mg base "_law_items_by" ["_law_rows", "_law_cell"] 4 (zU K ZY)):zT P w K mg base "_law_built" ["_law_script"] 5 (zU K ZX):=
 zK.yU d Q2 (by decide) cC λf cdv A outer s H E hr=>(zR (zp (i:=1) Q2.nd rfl (Or.inl rfl) (zj Io hr rfl (zD (zj pp hr rfl (zD (z8 0) (zD zI zM))) zM)))
  (zR (zp (i:=2) Q2.nd rfl (Or.inl rfl) (zn (zk (zg hr)) zl (xL (wf (cw (is:=[4,2,6,8]) rfl) (yZ (Hi (n:=4) (by decide)) (by decide)))) (zW xK xJ (zj pp hr rfl (zD (z8 0) (zD zI zM))) zI)))
  (zR (zp (i:=3) Q2.nd rfl (Or.inl rfl) (zj Iv hr rfl (zD (z8 0) (zD (z8 1) (zD (z8 2) zM)))))
  (zY (yE (x_ (zD (z8 3) (zD (zj Im hr rfl (zD (z8 3) (zD (zW wy wx (zj pp hr rfl (zD (z8 0) (zD zI zM))) zI) zM))) zM)) (yZ (zb (zb ya)) (by decide))))))))
abbrev WP:Stmt:=top 75
theorem EW:yG ["_law_number", "_law_letters"] ["_law_number"] (zz WP):=⟨rfl,rfl,rfl,by decide +kernel,rfl,by decide +kernel,by decide +kernel⟩
theorem Sg(d:zK K mg "_law_plain_name" WP ["_law_number"]):zT P w K mg base "_law_plain_name" ["_law_number"] 1 (zU K pP):=
 zK.yU d EW (by decide) cM λf cdv A outer s H E hr=>(zR (zp (i:=1) EW.nd rfl (Or.inl rfl) yN)
  (zR (yx (yC uD wP (zH (z8 0)) (zH zI) (yI _))
   (zY (yE (zn (zk (zg hr)) zl (z8 1) (z8 0))))
   xG)
  (zY (yE (zW xb xZ (zn (zk (zg hr)) zl (z8 1) (zW qB qA (zW wy wx (z8 0) zI) zI)) (zn (zk (zg hr)) zl (z8 1) (zW xK xJ (z8 0) zI)))))))
abbrev WR:Stmt:=top 76
theorem LM:yG ["_law_found", "_law_due", "_law_item", "_law_thing"] ["_law_found", "_law_due"] (zz WR):=⟨rfl,rfl,rfl,by decide +kernel,rfl,by decide +kernel,by decide +kernel⟩
theorem Si(d:zK K mg "_law_rows_alike" WR ["_law_found", "_law_due"])(Z5:mg "isinstance" = none)(qD:mg "list" = none)(Yi:mg "tuple" = none)(Lu:mg "bool" = none)(Lv:mg "int" = none)(Lx:mg "str" = none):zT P w K mg base "_law_rows_alike" ["_law_found", "_law_due"] 1 (zU K Zb):=
 zK.yU d LM (by decide) cO λf cdv A outer s H E hr=>(zR (yx (j9 (Ya (k_ (t8 (Wy .list rfl rfl Z5 qD Jg (zH (z8 0))))) (Yb (yC (YL (wO hr)) YI (zH (z8 0)) (zH (z8 1)) (yI _)))))
   (zY (yE ky))
   xG)
  (zR (qZ vy rfl (ug (z8 0)) (gB (yt (i:=2) LM.nd rfl (Or.inl rfl)) rfl)
   (zR (yx (k_ (t8 (Wy .tuple rfl rfl Z5 Yi BR (zH (z8 2)))))
     (zY (yE ky))
     xG)
    (zY (qZ vy rfl (ug (z8 2)) (gB (yt (i:=3) LM.nd rfl (Or.inl rfl)) rfl)
     (zY (yx (j9 (QF (k_ (t8 (Wy .str rfl rfl Z5 Lx H_ (zH (z8 3))))) (LZ (j9 (Ya (k_ (t8 (Wy .int rfl rfl Z5 Lv Hz (zH (z8 3))))) (Yb (t8 (Wy .bool rfl rfl Z5 Lu Hy (zH (z8 3))))))))))
       (zY (yE ky))
       xG))))))
  (zY (yE ky))))
abbrev WO:Stmt:=top 77
theorem YV:yG ["_law_rows", "_law_targets", "_law_items", "_law_place", "_law_row"] ["_law_rows"] (zz WO):=⟨rfl,rfl,rfl,by decide +kernel,rfl,by decide +kernel,by decide +kernel⟩
theorem Sf(d:zK K mg "_law_plain" WO ["_law_rows"])(jD:mg "sorted" = none)(Yh:mg "set" = none)(wg:mg "range" = none)(yg:mg "len" = none)(Y2:zT P w K mg base "_law_jumps_in" ["_law_rows"] 1 (zU K jP))(TF:zT P w K mg base "_law_plain_name" ["_law_number"] 1 (zU K pP)):zT P w K mg base "_law_plain" ["_law_rows"] 2 (zU K Za):=
 zK.yU d YV (by decide) cL λf cdv A outer s H E hr=>(zR (zp (i:=1) YV.nd rfl (Or.inl rfl) (xL (Ek rfl rfl jD rfl Yh (zD (xL (vt rfl (wc (own:=["_law_number"]) rfl) (ug (zj Y2 hr rfl (zD (z8 0) zM))) (v7 (λC s H fp pn=>(yt (i:=5) (show(xy ["_law_rows", "_law_targets", "_law_items", "_law_place", "_law_row"] ["_law_number"]).Nodup by decide +kernel) rfl (Or.inl rfl))) rfl) (λC s H fp pn=>tD) (λC s H fp pn=>(zn (zk (zg hr)) zl (zn (zk (zg hr)) zl (z8 0) (z8 5)) (uf tH tF zI))))) zM))))
  (zR (qb (i:=2) YV.nd rfl (Or.inl rfl) (wf zM (yZ ya (by decide))))
  (zR (qZ vy rfl (gC rfl wg (zW xb xZ (wz vL vQ rfl yg vD (wB (zH (z8 0)) wX)) zI)) (gB (yt (i:=3) YV.nd rfl (Or.inl rfl)) rfl)
   (zR (yx (yC (t6 (zg hr)) t4 (zH (z8 3)) (zH (z8 1)) (by with_unfolding_all rfl))
     (zY (vv (qv 2) (x_ (zD yN (zD (zj TF hr rfl (zD (Eg (z8 1) (z8 3)) zM)) zM)) (yZ (zb (zb ya)) (by decide)))))
     xG)
    (zY (yx (yC uD wP (zH (z8 3)) (zH (wz vL vQ rfl yg vD (wB (zH (z8 0)) wX))) (yI _))
     (zR (zp (i:=4) YV.nd rfl (Or.inl rfl) (zn (zk (zg hr)) zl (z8 0) (z8 3)))
      (zR (yx (yC (t6 (zg hr)) t4 (zH (zn (zk (zg hr)) zl (z8 4) zI)) (zH (x_ (zD yN (zD yN (zD yN zM))) (yZ (zb (zb (zb ya))) (by decide)))) (by with_unfolding_all rfl))
       (zY (zp (i:=4) YV.nd rfl (Or.inl rfl) (zW xb xZ (Q6 (z8 4) W_ (V2 (uf tH tF zI))) (x_ (zD (zj TF hr rfl (zD (Eg (z8 1) (zn (zk (zg hr)) zl (z8 4) (uf tH tF zI))) zM)) zM) (yZ (zb ya) (by decide))))))
       xG)
      (zY (vv (qv 2) (z8 4)))))
     xG))))
  (zY (kz 2)))))
abbrev kq:Stmt:=top 78
theorem kr:yG ["_law_script", "_law_rows", "_law_items", "_law_due", "_law_words", "_law_handed", "_law_found"] ["_law_script"] (zz kq):=⟨rfl,rfl,rfl,by decide +kernel,rfl,by decide +kernel,by decide +kernel⟩
theorem SV{f:Addr}{fd:FuncData}(d:jV K "law" "law" kq f fd)(qD:mg "list" = none)(Il:zT P w K mg base "_law_built" ["_law_script"] 5 (zU K ZX))(Iq:zT P w K mg base "_law_plain" ["_law_rows"] 2 (zU K Za))(O4:zT P w K mg base "written" ["items"] 7 (zU K Zh))(TK:zT P w K mg base "read_words" ["words"] 9 (zU K jQ))(Y7:zT P w K mg base "word_fault" ["words"] 7 (zU K jU))(Iu:zT P w K mg base "_law_rows_alike" ["_law_found", "_law_due"] 1 (zU K Zb)):qL P w K mg base tQ 10 f fd ["_law_script"] (V3 K):=
 RG d kr (by decide) cB λcdv A outer s H E hr=>(zR (fO (zj Il hr rfl (zD (z8 0) zM)) (YZ (jz (n:=2) rfl (vp (yt (i:=1) kr.nd rfl (Or.inl rfl)) (vp (yt (i:=2) kr.nd rfl (Or.inl rfl)) j_))) rfl rfl))
  (zR (zp (i:=3) kr.nd rfl (Or.inl rfl) (zj Iq hr rfl (zD (z8 1) zM)))
  (zR (zp (i:=4) kr.nd rfl (Or.inl rfl) (xL (gA O4 hr rfl (zD (z8 2) zM))))
  (zR (zp (i:=5) kr.nd rfl (Or.inl rfl) (xL (dg rfl qD (zD (z8 4) zM))))
  (zR (qb (i:=6) kr.nd rfl (Or.inl rfl) (gA TK hr rfl (zD (z8 5) zM)))
  (zR (yx (j9 (Ya (k_ (t8 (dP Iu hr rfl (wB (cx 6) (wB (zH (z8 3)) wX))))) (Yb (yC Xl Xi (zH (zj Y7 hr rfl (zD (z8 5) zM))) (zH wC) (yI _)))))
   (zY (yE ky))
   xG)
  (zR (vv (qv 6) (x_ (zD yN zM) (yZ (zb ya) (by decide))))
  (V4 6 (zY (yE (Ef (j6 (vR (wO hr)) vP (zH (xL (gA TK hr rfl (zD (z8 5) zM)))) (zH (z8 3)) (yI _)) (LO (j6 (vR (wO hr)) vP (zH (z8 5)) (zH (z8 4)) (yI _))))))))))))))
end
theorem all_mk{l:W.OpenLaw}{w:World}{K:W.Frag}{h:Heap}{mg:Str->Option Value}{fa:Addr}(X:K.In h)(G:h.Ns mainGlobals mg)(hfa:mg "law" = some (.ref fa))
  {f0:Addr}{od0 an0:Option Addr}{sl0:Array (Option Value)}{oc0 kV0 dc0 pm0 cd0 ct0:Value}
  {f1:Addr}{od1 an1:Option Addr}{sl1:Array (Option Value)}{oc1 kV1 dc1 pm1 cd1 ct1:Value}
  {f2:Addr}{od2 an2:Option Addr}{sl2:Array (Option Value)}{oc2 kV2 dc2 pm2 cd2 ct2:Value}
  {f3:Addr}{od3 an3:Option Addr}{sl3:Array (Option Value)}{oc3 kV3 dc3 pm3 cd3 ct3:Value}
  {f4:Addr}{od4 an4:Option Addr}{sl4:Array (Option Value)}{oc4 kV4 dc4 pm4 cd4 ct4:Value}
  {f5:Addr}{od5 an5:Option Addr}{sl5:Array (Option Value)}{oc5 kV5 dc5 pm5 cd5 ct5:Value}
  {f6:Addr}{od6 an6:Option Addr}{sl6:Array (Option Value)}{oc6 kV6 dc6 pm6 cd6 ct6:Value}
  {f7:Addr}{od7 an7:Option Addr}{sl7:Array (Option Value)}{oc7 kV7 dc7 pm7 cd7 ct7:Value}
  {f8:Addr}{od8 an8:Option Addr}{sl8:Array (Option Value)}{oc8 kV8 dc8 pm8 cd8 ct8:Value}
  {f9:Addr}{od9 an9:Option Addr}{sl9:Array (Option Value)}{oc9 kV9 dc9 pm9 cd9 ct9:Value}
  {f10:Addr}{od10 an10:Option Addr}{sl10:Array (Option Value)}{oc10 kV10 dc10 pm10 cd10 ct10:Value}
  {f11:Addr}{od11 an11:Option Addr}{sl11:Array (Option Value)}{oc11 kV11 dc11 pm11 cd11 ct11:Value}
  {f12:Addr}{od12 an12:Option Addr}{sl12:Array (Option Value)}{oc12 kV12 dc12 pm12 cd12 ct12:Value}
  {f13:Addr}{od13 an13:Option Addr}{sl13:Array (Option Value)}{oc13 kV13 dc13 pm13 cd13 ct13:Value}
  {f14:Addr}{od14 an14:Option Addr}{sl14:Array (Option Value)}{oc14 kV14 dc14 pm14 cd14 ct14:Value}
  {f15:Addr}{od15 an15:Option Addr}{sl15:Array (Option Value)}{oc15 kV15 dc15 pm15 cd15 ct15:Value}
  {f16:Addr}{od16 an16:Option Addr}{sl16:Array (Option Value)}{oc16 kV16 dc16 pm16 cd16 ct16:Value}
  {f17:Addr}{od17 an17:Option Addr}{sl17:Array (Option Value)}{oc17 kV17 dc17 pm17 cd17 ct17:Value}
  {f18:Addr}{od18 an18:Option Addr}{sl18:Array (Option Value)}{oc18 kV18 dc18 pm18 cd18 ct18:Value}
  {f19:Addr}{od19 an19:Option Addr}{sl19:Array (Option Value)}{oc19 kV19 dc19 pm19 cd19 ct19:Value}
  {f20:Addr}{od20 an20:Option Addr}{sl20:Array (Option Value)}{oc20 kV20 dc20 pm20 cd20 ct20:Value}
  {f21:Addr}{od21 an21:Option Addr}{sl21:Array (Option Value)}{oc21 kV21 dc21 pm21 cd21 ct21:Value}
  {f22:Addr}{od22 an22:Option Addr}{sl22:Array (Option Value)}{oc22 kV22 dc22 pm22 cd22 ct22:Value}
  {f23:Addr}{od23 an23:Option Addr}{sl23:Array (Option Value)}{oc23 kV23 dc23 pm23 cd23 ct23:Value}
  {f24:Addr}{od24 an24:Option Addr}{sl24:Array (Option Value)}{oc24 kV24 dc24 pm24 cd24 ct24:Value}
  {f25:Addr}{od25 an25:Option Addr}{sl25:Array (Option Value)}{oc25 kV25 dc25 pm25 cd25 ct25:Value}
  {f26:Addr}{od26 an26:Option Addr}{sl26:Array (Option Value)}{oc26 kV26 dc26 pm26 cd26 ct26:Value}
  {f27:Addr}{od27 an27:Option Addr}{sl27:Array (Option Value)}{oc27 kV27 dc27 pm27 cd27 ct27:Value}
  {f28:Addr}{od28 an28:Option Addr}{sl28:Array (Option Value)}{oc28 kV28 dc28 pm28 cd28 ct28:Value}
  {f29:Addr}{od29 an29:Option Addr}{sl29:Array (Option Value)}{oc29 kV29 dc29 pm29 cd29 ct29:Value}
  {f30:Addr}{od30 an30:Option Addr}{sl30:Array (Option Value)}{oc30 kV30 dc30 pm30 cd30 ct30:Value}
  {f31:Addr}{od31 an31:Option Addr}{sl31:Array (Option Value)}{oc31 kV31 dc31 pm31 cd31 ct31:Value}
  {f32:Addr}{od32 an32:Option Addr}{sl32:Array (Option Value)}{oc32 kV32 dc32 pm32 cd32 ct32:Value}
  {f33:Addr}{od33 an33:Option Addr}{sl33:Array (Option Value)}{oc33 kV33 dc33 pm33 cd33 ct33:Value}
  {f34:Addr}{od34 an34:Option Addr}{sl34:Array (Option Value)}{oc34 kV34 dc34 pm34 cd34 ct34:Value}
  {f35:Addr}{od35 an35:Option Addr}{sl35:Array (Option Value)}{oc35 kV35 dc35 pm35 cd35 ct35:Value}
  {f36:Addr}{od36 an36:Option Addr}{sl36:Array (Option Value)}{oc36 kV36 dc36 pm36 cd36 ct36:Value}
  {f37:Addr}{od37 an37:Option Addr}{sl37:Array (Option Value)}{oc37 kV37 dc37 pm37 cd37 ct37:Value}
  {f38:Addr}{od38 an38:Option Addr}{sl38:Array (Option Value)}{oc38 kV38 dc38 pm38 cd38 ct38:Value}
  {f39:Addr}{od39 an39:Option Addr}{sl39:Array (Option Value)}{oc39 kV39 dc39 pm39 cd39 ct39:Value}
  {f40:Addr}{od40 an40:Option Addr}{sl40:Array (Option Value)}{oc40 kV40 dc40 pm40 cd40 ct40:Value}
  {f41:Addr}{od41 an41:Option Addr}{sl41:Array (Option Value)}{oc41 kV41 dc41 pm41 cd41 ct41:Value}
  {f42:Addr}{od42 an42:Option Addr}{sl42:Array (Option Value)}{oc42 kV42 dc42 pm42 cd42 ct42:Value}
  {f43:Addr}{od43 an43:Option Addr}{sl43:Array (Option Value)}{oc43 kV43 dc43 pm43 cd43 ct43:Value}
  {f44:Addr}{od44 an44:Option Addr}{sl44:Array (Option Value)}{oc44 kV44 dc44 pm44 cd44 ct44:Value}
  {f45:Addr}{od45 an45:Option Addr}{sl45:Array (Option Value)}{oc45 kV45 dc45 pm45 cd45 ct45:Value}
  {f46:Addr}{od46 an46:Option Addr}{sl46:Array (Option Value)}{oc46 kV46 dc46 pm46 cd46 ct46:Value}
  {f47:Addr}{od47 an47:Option Addr}{sl47:Array (Option Value)}{oc47 kV47 dc47 pm47 cd47 ct47:Value}
  {f48:Addr}{od48 an48:Option Addr}{sl48:Array (Option Value)}{oc48 kV48 dc48 pm48 cd48 ct48:Value}
  {f49:Addr}{od49 an49:Option Addr}{sl49:Array (Option Value)}{oc49 kV49 dc49 pm49 cd49 ct49:Value}
  {f50:Addr}{od50 an50:Option Addr}{sl50:Array (Option Value)}{oc50 kV50 dc50 pm50 cd50 ct50:Value}
  {f51:Addr}{od51 an51:Option Addr}{sl51:Array (Option Value)}{oc51 kV51 dc51 pm51 cd51 ct51:Value}
  {f52:Addr}{od52 an52:Option Addr}{sl52:Array (Option Value)}{oc52 kV52 dc52 pm52 cd52 ct52:Value}
  (a0:W.nsIn K mainGlobals "part" = some (some (.ref f0)))
  (l0:K.lookup f0=yQ "part" WZ oc0 od0 sl0 kV0 dc0 pm0 an0 cd0 ct0)
  (c0:W.codeIn K cd0 "part" = true)(k0:W.keepIn K (.ref f0)=true)
  (a1:W.nsIn K mainGlobals "with_part" = some (some (.ref f1)))
  (l1:K.lookup f1=yQ "with_part" Wm oc1 od1 sl1 kV1 dc1 pm1 an1 cd1 ct1)
  (c1:W.codeIn K cd1 "with_part" = true)(k1:W.keepIn K (.ref f1)=true)
  (a2:W.nsIn K mainGlobals "signed" = some (some (.ref f2)))
  (l2:K.lookup f2=yQ "signed" We oc2 od2 sl2 kV2 dc2 pm2 an2 cd2 ct2)
  (c2:W.codeIn K cd2 "signed" = true)(k2:W.keepIn K (.ref f2)=true)
  (a3:W.nsIn K mainGlobals "unsigned" = some (some (.ref f3)))
  (l3:K.lookup f3=yQ "unsigned" Wi oc3 od3 sl3 kV3 dc3 pm3 an3 cd3 ct3)
  (c3:W.codeIn K cd3 "unsigned" = true)(k3:W.keepIn K (.ref f3)=true)
  (a4:W.nsIn K mainGlobals "place_in_word" = some (some (.ref f4)))
  (l4:K.lookup f4=yQ "place_in_word" Wa oc4 od4 sl4 kV4 dc4 pm4 an4 cd4 ct4)
  (c4:W.codeIn K cd4 "place_in_word" = true)(k4:W.keepIn K (.ref f4)=true)
  (a5:W.nsIn K mainGlobals "number_at" = some (some (.ref f5)))
  (l5:K.lookup f5=yQ "number_at" WY oc5 od5 sl5 kV5 dc5 pm5 an5 cd5 ct5)
  (c5:W.codeIn K cd5 "number_at" = true)(k5:W.keepIn K (.ref f5)=true)
  (a6:W.nsIn K mainGlobals "with_number" = some (some (.ref f6)))
  (l6:K.lookup f6=yQ "with_number" Wl oc6 od6 sl6 kV6 dc6 pm6 an6 cd6 ct6)
  (c6:W.codeIn K cd6 "with_number" = true)(k6:W.keepIn K (.ref f6)=true)
  (a7:W.nsIn K mainGlobals "fields_in_word" = some (some (.ref f7)))
  (l7:K.lookup f7=yQ "fields_in_word" W5 oc7 od7 sl7 kV7 dc7 pm7 an7 cd7 ct7)
  (c7:W.codeIn K cd7 "fields_in_word" = true)(k7:W.keepIn K (.ref f7)=true)
  (a8:W.nsIn K mainGlobals "first_word" = some (some (.ref f8)))
  (l8:K.lookup f8=yQ "first_word" W6 oc8 od8 sl8 kV8 dc8 pm8 an8 cd8 ct8)
  (c8:W.codeIn K cd8 "first_word" = true)(k8:W.keepIn K (.ref f8)=true)
  (a9:W.nsIn K mainGlobals "code_in" = some (some (.ref f9)))
  (l9:K.lookup f9=yQ "code_in" Xz oc9 od9 sl9 kV9 dc9 pm9 an9 cd9 ct9)
  (c9:W.codeIn K cd9 "code_in" = true)(k9:W.keepIn K (.ref f9)=true)
  (a10:W.nsIn K mainGlobals "kind_of_code" = some (some (.ref f10)))
  (l10:K.lookup f10=yQ "kind_of_code" WD oc10 od10 sl10 kV10 dc10 pm10 an10 cd10 ct10)
  (c10:W.codeIn K cd10 "kind_of_code" = true)(k10:W.keepIn K (.ref f10)=true)
  (a11:W.nsIn K mainGlobals "is_near_code" = some (some (.ref f11)))
  (l11:K.lookup f11=yQ "is_near_code" WC oc11 od11 sl11 kV11 dc11 pm11 an11 cd11 ct11)
  (c11:W.codeIn K cd11 "is_near_code" = true)(k11:W.keepIn K (.ref f11)=true)
  (a12:W.nsIn K mainGlobals "is_far_code" = some (some (.ref f12)))
  (l12:K.lookup f12=yQ "is_far_code" W8 oc12 od12 sl12 kV12 dc12 pm12 an12 cd12 ct12)
  (c12:W.codeIn K cd12 "is_far_code" = true)(k12:W.keepIn K (.ref f12)=true)
  (a13:W.nsIn K mainGlobals "held_in" = some (some (.ref f13)))
  (l13:K.lookup f13=yQ "held_in" W7 oc13 od13 sl13 kV13 dc13 pm13 an13 cd13 ct13)
  (c13:W.codeIn K cd13 "held_in" = true)(k13:W.keepIn K (.ref f13)=true)
  (a14:W.nsIn K mainGlobals "row_in" = some (some (.ref f14)))
  (l14:K.lookup f14=yQ "row_in" Wc oc14 od14 sl14 kV14 dc14 pm14 an14 cd14 ct14)
  (c14:W.codeIn K cd14 "row_in" = true)(k14:W.keepIn K (.ref f14)=true)
  (a15:W.nsIn K mainGlobals "is_label" = some (some (.ref f15)))
  (l15:K.lookup f15=yQ "is_label" WA oc15 od15 sl15 kV15 dc15 pm15 an15 cd15 ct15)
  (c15:W.codeIn K cd15 "is_label" = true)(k15:W.keepIn K (.ref f15)=true)
  (a16:W.nsIn K mainGlobals "is_jump" = some (some (.ref f16)))
  (l16:K.lookup f16=yQ "is_jump" W9 oc16 od16 sl16 kV16 dc16 pm16 an16 cd16 ct16)
  (c16:W.codeIn K cd16 "is_jump" = true)(k16:W.keepIn K (.ref f16)=true)
  (a17:W.nsIn K mainGlobals "rows_of" = some (some (.ref f17)))
  (l17:K.lookup f17=yQ "rows_of" Wd oc17 od17 sl17 kV17 dc17 pm17 an17 cd17 ct17)
  (c17:W.codeIn K cd17 "rows_of" = true)(k17:W.keepIn K (.ref f17)=true)
  (a18:W.nsIn K mainGlobals "label_places" = some (some (.ref f18)))
  (l18:K.lookup f18=yQ "label_places" WE oc18 od18 sl18 kV18 dc18 pm18 an18 cd18 ct18)
  (c18:W.codeIn K cd18 "label_places" = true)(k18:W.keepIn K (.ref f18)=true)
  (a19:W.nsIn K mainGlobals "targets_of" = some (some (.ref f19)))
  (l19:K.lookup f19=yQ "targets_of" Wg oc19 od19 sl19 kV19 dc19 pm19 an19 cd19 ct19)
  (c19:W.codeIn K cd19 "targets_of" = true)(k19:W.keepIn K (.ref f19)=true)
  (a20:W.nsIn K mainGlobals "name_of" = some (some (.ref f20)))
  (l20:K.lookup f20=yQ "name_of" WT oc20 od20 sl20 kV20 dc20 pm20 an20 cd20 ct20)
  (c20:W.codeIn K cd20 "name_of" = true)(k20:W.keepIn K (.ref f20)=true)
  (a21:W.nsIn K mainGlobals "names_of_places" = some (some (.ref f21)))
  (l21:K.lookup f21=yQ "names_of_places" WU oc21 od21 sl21 kV21 dc21 pm21 an21 cd21 ct21)
  (c21:W.codeIn K cd21 "names_of_places" = true)(k21:W.keepIn K (.ref f21)=true)
  (a22:W.nsIn K mainGlobals "labelled" = some (some (.ref f22)))
  (l22:K.lookup f22=yQ "labelled" WF oc22 od22 sl22 kV22 dc22 pm22 an22 cd22 ct22)
  (c22:W.codeIn K cd22 "labelled" = true)(k22:W.keepIn K (.ref f22)=true)
  (a23:W.nsIn K mainGlobals "far_at" = some (some (.ref f23)))
  (l23:K.lookup f23=yQ "far_at" W2 oc23 od23 sl23 kV23 dc23 pm23 an23 cd23 ct23)
  (c23:W.codeIn K cd23 "far_at" = true)(k23:W.keepIn K (.ref f23)=true)
  (a24:W.nsIn K mainGlobals "told_at" = some (some (.ref f24)))
  (l24:K.lookup f24=yQ "told_at" Wh oc24 od24 sl24 kV24 dc24 pm24 an24 cd24 ct24)
  (c24:W.codeIn K cd24 "told_at" = true)(k24:W.keepIn K (.ref f24)=true)
  (a25:W.nsIn K mainGlobals "walked" = some (some (.ref f25)))
  (l25:K.lookup f25=yQ "walked" Wj oc25 od25 sl25 kV25 dc25 pm25 an25 cd25 ct25)
  (c25:W.codeIn K cd25 "walked" = true)(k25:W.keepIn K (.ref f25)=true)
  (a26:W.nsIn K mainGlobals "behind" = some (some (.ref f26)))
  (l26:K.lookup f26=yQ "behind" Xy oc26 od26 sl26 kV26 dc26 pm26 an26 cd26 ct26)
  (c26:W.codeIn K cd26 "behind" = true)(k26:W.keepIn K (.ref f26)=true)
  (a27:W.nsIn K mainGlobals "word_fault" = some (some (.ref f27)))
  (l27:K.lookup f27=yQ "word_fault" Wn oc27 od27 sl27 kV27 dc27 pm27 an27 cd27 ct27)
  (c27:W.codeIn K cd27 "word_fault" = true)(k27:W.keepIn K (.ref f27)=true)
  (a28:W.nsIn K mainGlobals "table_of" = some (some (.ref f28)))
  (l28:K.lookup f28=yQ "table_of" Wf oc28 od28 sl28 kV28 dc28 pm28 an28 cd28 ct28)
  (c28:W.codeIn K cd28 "table_of" = true)(k28:W.keepIn K (.ref f28)=true)
  (a29:W.nsIn K mainGlobals "read_words" = some (some (.ref f29)))
  (l29:K.lookup f29=yQ "read_words" Wb oc29 od29 sl29 kV29 dc29 pm29 an29 cd29 ct29)
  (c29:W.codeIn K cd29 "read_words" = true)(k29:W.keepIn K (.ref f29)=true)
  (a30:W.nsIn K mainGlobals "addresses" = some (some (.ref f30)))
  (l30:K.lookup f30=yQ "addresses" Xx oc30 od30 sl30 kV30 dc30 pm30 an30 cd30 ct30)
  (c30:W.codeIn K cd30 "addresses" = true)(k30:W.keepIn K (.ref f30)=true)
  (a31:W.nsIn K mainGlobals "is_near" = some (some (.ref f31)))
  (l31:K.lookup f31=yQ "is_near" WB oc31 od31 sl31 kV31 dc31 pm31 an31 cd31 ct31)
  (c31:W.codeIn K cd31 "is_near" = true)(k31:W.keepIn K (.ref f31)=true)
  (a32:W.nsIn K mainGlobals "distances_of" = some (some (.ref f32)))
  (l32:K.lookup f32=yQ "distances_of" X_ oc32 od32 sl32 kV32 dc32 pm32 an32 cd32 ct32)
  (c32:W.codeIn K cd32 "distances_of" = true)(k32:W.keepIn K (.ref f32)=true)
  (a33:W.nsIn K mainGlobals "not_reaching" = some (some (.ref f33)))
  (l33:K.lookup f33=yQ "not_reaching" WX oc33 od33 sl33 kV33 dc33 pm33 an33 cd33 ct33)
  (c33:W.codeIn K cd33 "not_reaching" = true)(k33:W.keepIn K (.ref f33)=true)
  (a34:W.nsIn K mainGlobals "far_rows" = some (some (.ref f34)))
  (l34:K.lookup f34=yQ "far_rows" W3 oc34 od34 sl34 kV34 dc34 pm34 an34 cd34 ct34)
  (c34:W.codeIn K cd34 "far_rows" = true)(k34:W.keepIn K (.ref f34)=true)
  (a35:W.nsIn K mainGlobals "word_of_row" = some (some (.ref f35)))
  (l35:K.lookup f35=yQ "word_of_row" Wo oc35 od35 sl35 kV35 dc35 pm35 an35 cd35 ct35)
  (c35:W.codeIn K cd35 "word_of_row" = true)(k35:W.keepIn K (.ref f35)=true)
  (a36:W.nsIn K mainGlobals "near_word" = some (some (.ref f36)))
  (l36:K.lookup f36=yQ "near_word" WV oc36 od36 sl36 kV36 dc36 pm36 an36 cd36 ct36)
  (c36:W.codeIn K cd36 "near_word" = true)(k36:W.keepIn K (.ref f36)=true)
  (a37:W.nsIn K mainGlobals "far_words" = some (some (.ref f37)))
  (l37:K.lookup f37=yQ "far_words" W4 oc37 od37 sl37 kV37 dc37 pm37 an37 cd37 ct37)
  (c37:W.codeIn K cd37 "far_words" = true)(k37:W.keepIn K (.ref f37)=true)
  (a38:W.nsIn K mainGlobals "written" = some (some (.ref f38)))
  (l38:K.lookup f38=yQ "written" Wp oc38 od38 sl38 kV38 dc38 pm38 an38 cd38 ct38)
  (c38:W.codeIn K cd38 "written" = true)(k38:W.keepIn K (.ref f38)=true)
  (a39:W.nsIn K mainGlobals "_law_cell_at" = some (some (.ref f39)))
  (l39:K.lookup f39=yQ "_law_cell_at" WH oc39 od39 sl39 kV39 dc39 pm39 an39 cd39 ct39)
  (c39:W.codeIn K cd39 "_law_cell_at" = true)(k39:W.keepIn K (.ref f39)=true)
  (a40:W.nsIn K mainGlobals "_law_mixed" = some (some (.ref f40)))
  (l40:K.lookup f40=yQ "_law_mixed" WL oc40 od40 sl40 kV40 dc40 pm40 an40 cd40 ct40)
  (c40:W.codeIn K cd40 "_law_mixed" = true)(k40:W.keepIn K (.ref f40)=true)
  (a41:W.nsIn K mainGlobals "_law_name_by" = some (some (.ref f41)))
  (l41:K.lookup f41=yQ "_law_name_by" WM oc41 od41 sl41 kV41 dc41 pm41 an41 cd41 ct41)
  (c41:W.codeIn K cd41 "_law_name_by" = true)(k41:W.keepIn K (.ref f41)=true)
  (a42:W.nsIn K mainGlobals "_law_row_by" = some (some (.ref f42)))
  (l42:K.lookup f42=yQ "_law_row_by" WQ oc42 od42 sl42 kV42 dc42 pm42 an42 cd42 ct42)
  (c42:W.codeIn K cd42 "_law_row_by" = true)(k42:W.keepIn K (.ref f42)=true)
  (a43:W.nsIn K mainGlobals "_law_place_by" = some (some (.ref f43)))
  (l43:K.lookup f43=yQ "_law_place_by" WN oc43 od43 sl43 kV43 dc43 pm43 an43 cd43 ct43)
  (c43:W.codeIn K cd43 "_law_place_by" = true)(k43:W.keepIn K (.ref f43)=true)
  (a44:W.nsIn K mainGlobals "_law_rows_by" = some (some (.ref f44)))
  (l44:K.lookup f44=yQ "_law_rows_by" WS oc44 od44 sl44 kV44 dc44 pm44 an44 cd44 ct44)
  (c44:W.codeIn K cd44 "_law_rows_by" = true)(k44:W.keepIn K (.ref f44)=true)
  (a45:W.nsIn K mainGlobals "_law_jumps_in" = some (some (.ref f45)))
  (l45:K.lookup f45=yQ "_law_jumps_in" WJ oc45 od45 sl45 kV45 dc45 pm45 an45 cd45 ct45)
  (c45:W.codeIn K cd45 "_law_jumps_in" = true)(k45:W.keepIn K (.ref f45)=true)
  (a46:W.nsIn K mainGlobals "_law_many_by" = some (some (.ref f46)))
  (l46:K.lookup f46=yQ "_law_many_by" WK oc46 od46 sl46 kV46 dc46 pm46 an46 cd46 ct46)
  (c46:W.codeIn K cd46 "_law_many_by" = true)(k46:W.keepIn K (.ref f46)=true)
  (a47:W.nsIn K mainGlobals "_law_items_by" = some (some (.ref f47)))
  (l47:K.lookup f47=yQ "_law_items_by" WI oc47 od47 sl47 kV47 dc47 pm47 an47 cd47 ct47)
  (c47:W.codeIn K cd47 "_law_items_by" = true)(k47:W.keepIn K (.ref f47)=true)
  (a48:W.nsIn K mainGlobals "_law_built" = some (some (.ref f48)))
  (l48:K.lookup f48=yQ "_law_built" WG oc48 od48 sl48 kV48 dc48 pm48 an48 cd48 ct48)
  (c48:W.codeIn K cd48 "_law_built" = true)(k48:W.keepIn K (.ref f48)=true)
  (a49:W.nsIn K mainGlobals "_law_plain_name" = some (some (.ref f49)))
  (l49:K.lookup f49=yQ "_law_plain_name" WP oc49 od49 sl49 kV49 dc49 pm49 an49 cd49 ct49)
  (c49:W.codeIn K cd49 "_law_plain_name" = true)(k49:W.keepIn K (.ref f49)=true)
  (a50:W.nsIn K mainGlobals "_law_rows_alike" = some (some (.ref f50)))
  (l50:K.lookup f50=yQ "_law_rows_alike" WR oc50 od50 sl50 kV50 dc50 pm50 an50 cd50 ct50)
  (c50:W.codeIn K cd50 "_law_rows_alike" = true)(k50:W.keepIn K (.ref f50)=true)
  (a51:W.nsIn K mainGlobals "_law_plain" = some (some (.ref f51)))
  (l51:K.lookup f51=yQ "_law_plain" WO oc51 od51 sl51 kV51 dc51 pm51 an51 cd51 ct51)
  (c51:W.codeIn K cd51 "_law_plain" = true)(k51:W.keepIn K (.ref f51)=true)
  (a52:W.nsIn K mainGlobals "law" = some (some (.ref f52)))
  (l52:K.lookup f52=yQ "law" kq oc52 od52 sl52 kV52 dc52 pm52 an52 cd52 ct52)
  (c52:W.codeIn K cd52 "law" = true)(k52:W.keepIn K (.ref f52)=true)
  (CP:W.nsIn K mainGlobals "zip" = some none)
  (CH:W.nsIn K mainGlobals "list" = some none)
  (CG:W.nsIn K mainGlobals "len" = some none)
  (CO:W.nsIn K mainGlobals "tuple" = some none)
  (CM:W.nsIn K mainGlobals "sorted" = some none)
  (CL:W.nsIn K mainGlobals "set" = some none)
  (CB:W.nsIn K mainGlobals "dict" = some none)
  (CC:W.nsIn K mainGlobals "enumerate" = some none)
  (CI:W.nsIn K mainGlobals "max" = some none)
  (CK:W.nsIn K mainGlobals "range" = some none)
  (CJ:W.nsIn K mainGlobals "min" = some none)
  (CF:W.nsIn K mainGlobals "isinstance" = some none)
  (CA:W.nsIn K mainGlobals "bool" = some none)
  (CD:W.nsIn K mainGlobals "int" = some none)
  (CN:W.nsIn K mainGlobals "str" = some none)
  {jK:Addr}{Rf:Nat}(FP:W.nsIn K mainGlobals "NUMBER_WIDTHS" = some (some (.ref jK)))
  {iP:Tok}
  {mI:Tok}
  {iu:Tok}
  {mV:Tok}
  {lE:Tok}
  {mZ:Tok}
  {lI:Tok}
  {me:Tok}
  {lM:Tok}
  {mh:Tok}
  {lQ:Tok}
  {mj:Tok}
  {lT:Tok}
  {mn:Tok}
  {lW:Tok}
  {mq:Tok}
  (Fa:K.lookup jK=some { cls:=.type "dict",data:=.dict #[⟨PyData.keyHash w.params "set",.str "set" iP,.int 16 mI⟩,⟨PyData.keyHash w.params "high",.str "high" iu,.int 16 mV⟩,⟨PyData.keyHash w.params "left",.str "left" lE,.int 5 mZ⟩,⟨PyData.keyHash w.params "right",.str "right" lI,.int 5 me⟩,⟨PyData.keyHash w.params "load",.str "load" lM,.int 8 mh⟩,⟨PyData.keyHash w.params "store",.str "store" lQ,.int 8 mj⟩,⟨PyData.keyHash w.params "loadw",.str "loadw" lT,.int 8 mn⟩,⟨PyData.keyHash w.params "storew",.str "storew" lW,.int 8 mq⟩] Rf })(Fe:(jK==sysModules)=false)
  {iI:Tok}(FN:W.nsIn K mainGlobals "NUMBER_LOW" = some (some (.int 0 iI)))
  {vI:Addr}{Rg:Nat}(FQ:W.nsIn K mainGlobals "PLACES" = some (some (.ref vI)))
  {iQ:Tok}
  {Vg:Addr}{d0_PLACES:Option Addr}{n0_PLACES:Nat}{d_:Array (Option Value)}
  {nI nJ:Tok}
  {iw:Tok}
  {Vs:Addr}{d1_PLACES:Option Addr}{n1_PLACES:Nat}{eK:Array (Option Value)}
  {nv nz:Tok}
  {lF:Tok}
  {Vw:Addr}{d2_PLACES:Option Addr}{n2_PLACES:Nat}{eQ:Array (Option Value)}
  {o3 o7:Tok}
  {lJ:Tok}
  {Vy:Addr}{d3_PLACES:Option Addr}{n3_PLACES:Nat}{eS:Array (Option Value)}
  {o9 oB:Tok}
  {lN:Tok}
  {V_:Addr}{d4_PLACES:Option Addr}{n4_PLACES:Nat}{eU:Array (Option Value)}
  {oD oF:Tok}
  (Fb:K.lookup vI=some { cls:=.type "dict",data:=.dict #[⟨PyData.keyHash w.params "kind",.str "kind" iQ,.ref Vg⟩,⟨PyData.keyHash w.params "d",.str "d" iw,.ref Vs⟩,⟨PyData.keyHash w.params "s",.str "s" lF,.ref Vw⟩,⟨PyData.keyHash w.params "mark",.str "mark" lJ,.ref Vy⟩,⟨PyData.keyHash w.params "distance",.str "distance" lN,.ref V_⟩] Rg })(Ff:(vI==sysModules)=false)
  (Fh:K.lookup Vg=some ⟨.type "tuple",d0_PLACES,.seq #[.int 27 nI,.int 5 nJ] n0_PLACES,d_⟩)
  (Fv:K.lookup Vs=some ⟨.type "tuple",d1_PLACES,.seq #[.int 24 nv,.int 3 nz] n1_PLACES,eK⟩)
  (Fz:K.lookup Vw=some ⟨.type "tuple",d2_PLACES,.seq #[.int 21 o3,.int 3 o7] n2_PLACES,eQ⟩)
  (C0:K.lookup Vy=some ⟨.type "tuple",d3_PLACES,.seq #[.int 24 o9,.int 2 oB] n3_PLACES,eS⟩)
  (C2:K.lookup V_=some ⟨.type "tuple",d4_PLACES,.seq #[.int 0 oD,.int 5 oF] n4_PLACES,eU⟩)
  {jJ:Addr}{Ra:Nat}(FC:W.nsIn K mainGlobals "FIELDS" = some (some (.ref jJ)))
  {iN:Tok}
  {Vf:Addr}{d0_FIELDS:Option Addr}{n0_FIELDS:Nat}{dy:Array (Option Value)}
  {nH:Tok}
  {iq:Tok}
  {Vr:Addr}{d1_FIELDS:Option Addr}{n1_FIELDS:Nat}{eJ:Array (Option Value)}
  {nu ny:Tok}
  {lC:Tok}
  {Vv:Addr}{d2_FIELDS:Option Addr}{n2_FIELDS:Nat}{eO:Array (Option Value)}
  {o1 o6:Tok}
  {lH:Tok}
  {Vx:Addr}{d3_FIELDS:Option Addr}{n3_FIELDS:Nat}{eR:Array (Option Value)}
  {o8 oA:Tok}
  {lL:Tok}
  {Vz:Addr}{d4_FIELDS:Option Addr}{n4_FIELDS:Nat}{eT:Array (Option Value)}
  {oC oE:Tok}
  {lP:Tok}
  {U0:Addr}{d5_FIELDS:Option Addr}{n5_FIELDS:Nat}{eV:Array (Option Value)}
  {oG oH:Tok}
  {lS:Tok}
  {U1:Addr}{d6_FIELDS:Option Addr}{n6_FIELDS:Nat}{eW:Array (Option Value)}
  {oI oJ:Tok}
  {lV:Tok}
  {U2:Addr}{d7_FIELDS:Option Addr}{n7_FIELDS:Nat}{eX:Array (Option Value)}
  {oK oM:Tok}
  {lY:Tok}
  {U3:Addr}{d8_FIELDS:Option Addr}{n8_FIELDS:Nat}{eY:Array (Option Value)}
  {oN oO:Tok}
  {lf:Tok}
  {U4:Addr}{d9_FIELDS:Option Addr}{n9_FIELDS:Nat}{eZ:Array (Option Value)}
  {oP oQ:Tok}
  {iS:Tok}
  {Vh:Addr}{d10_FIELDS:Option Addr}{n10_FIELDS:Nat}{e7:Array (Option Value)}
  {nK nL:Tok}
  {iU:Tok}
  {Vi:Addr}{d11_FIELDS:Option Addr}{n11_FIELDS:Nat}{e8:Array (Option Value)}
  {nM nN:Tok}
  {iW:Tok}
  {Vj:Addr}{d12_FIELDS:Option Addr}{n12_FIELDS:Nat}{e9:Array (Option Value)}
  {nO nP:Tok}
  {iY:Tok}
  {Vk:Addr}{d13_FIELDS:Option Addr}{n13_FIELDS:Nat}{eA:Array (Option Value)}
  {nQ nR:Tok}
  {ia:Tok}
  {Vl:Addr}{d14_FIELDS:Option Addr}{n14_FIELDS:Nat}{eB:Array (Option Value)}
  {nS nT nU:Tok}
  {ic:Tok}
  {Vm:Addr}{d15_FIELDS:Option Addr}{n15_FIELDS:Nat}{eD:Array (Option Value)}
  {nV nW nX:Tok}
  {ig:Tok}
  {Vn:Addr}{d16_FIELDS:Option Addr}{n16_FIELDS:Nat}{eE:Array (Option Value)}
  {nY nZ nc:Tok}
  {ij:Tok}
  {Vo:Addr}{d17_FIELDS:Option Addr}{n17_FIELDS:Nat}{eF:Array (Option Value)}
  {ng nh ni:Tok}
  {ik:Tok}
  {Vp:Addr}{d18_FIELDS:Option Addr}{n18_FIELDS:Nat}{eG:Array (Option Value)}
  {nj:Tok}
  {il:Tok}
  {Vq:Addr}{d19_FIELDS:Option Addr}{n19_FIELDS:Nat}{eI:Array (Option Value)}
  {nk nn:Tok}
  {iz:Tok}
  {Vt:Addr}{d20_FIELDS:Option Addr}{n20_FIELDS:Nat}{eM:Array (Option Value)}
  {n_ o0:Tok}
  {i_:Tok}
  {Vu:Addr}{d21_FIELDS:Option Addr}{n21_FIELDS:Nat}{eN:Array (Option Value)}
  (FZ:K.lookup jJ=some { cls:=.type "dict",data:=.dict #[⟨PyData.keyHash w.params "label",.str "label" iN,.ref Vf⟩,⟨PyData.keyHash w.params "set",.str "set" iq,.ref Vr⟩,⟨PyData.keyHash w.params "high",.str "high" lC,.ref Vv⟩,⟨PyData.keyHash w.params "copy",.str "copy" lH,.ref Vx⟩,⟨PyData.keyHash w.params "add",.str "add" lL,.ref Vz⟩,⟨PyData.keyHash w.params "addc",.str "addc" lP,.ref U0⟩,⟨PyData.keyHash w.params "sub",.str "sub" lS,.ref U1⟩,⟨PyData.keyHash w.params "subc",.str "subc" lV,.ref U2⟩,⟨PyData.keyHash w.params "and",.str "and" lY,.ref U3⟩,⟨PyData.keyHash w.params "or",.str "or" lf,.ref U4⟩,⟨PyData.keyHash w.params "xor",.str "xor" iS,.ref Vh⟩,⟨PyData.keyHash w.params "test",.str "test" iU,.ref Vi⟩,⟨PyData.keyHash w.params "left",.str "left" iW,.ref Vj⟩,⟨PyData.keyHash w.params "right",.str "right" iY,.ref Vk⟩,⟨PyData.keyHash w.params "load",.str "load" ia,.ref Vl⟩,⟨PyData.keyHash w.params "store",.str "store" ic,.ref Vm⟩,⟨PyData.keyHash w.params "loadw",.str "loadw" ig,.ref Vn⟩,⟨PyData.keyHash w.params "storew",.str "storew" ij,.ref Vo⟩,⟨PyData.keyHash w.params "jump",.str "jump" ik,.ref Vp⟩,⟨PyData.keyHash w.params "when",.str "when" il,.ref Vq⟩,⟨PyData.keyHash w.params "unless",.str "unless" iz,.ref Vt⟩,⟨PyData.keyHash w.params "stop",.str "stop" i_,.ref Vu⟩] Ra })(Fd:(jJ==sysModules)=false)
  (Fg:K.lookup Vf=some ⟨.type "tuple",d0_FIELDS,.seq #[.str "name" nH] n0_FIELDS,dy⟩)
  (Fu:K.lookup Vr=some ⟨.type "tuple",d1_FIELDS,.seq #[.str "d" nu,.str "n" ny] n1_FIELDS,eJ⟩)
  (Fy:K.lookup Vv=some ⟨.type "tuple",d2_FIELDS,.seq #[.str "d" o1,.str "n" o6] n2_FIELDS,eO⟩)
  (F_:K.lookup Vx=some ⟨.type "tuple",d3_FIELDS,.seq #[.str "d" o8,.str "s" oA] n3_FIELDS,eR⟩)
  (C1:K.lookup Vz=some ⟨.type "tuple",d4_FIELDS,.seq #[.str "d" oC,.str "s" oE] n4_FIELDS,eT⟩)
  (C3:K.lookup U0=some ⟨.type "tuple",d5_FIELDS,.seq #[.str "d" oG,.str "s" oH] n5_FIELDS,eV⟩)
  (C4:K.lookup U1=some ⟨.type "tuple",d6_FIELDS,.seq #[.str "d" oI,.str "s" oJ] n6_FIELDS,eW⟩)
  (C5:K.lookup U2=some ⟨.type "tuple",d7_FIELDS,.seq #[.str "d" oK,.str "s" oM] n7_FIELDS,eX⟩)
  (C6:K.lookup U3=some ⟨.type "tuple",d8_FIELDS,.seq #[.str "d" oN,.str "s" oO] n8_FIELDS,eY⟩)
  (C7:K.lookup U4=some ⟨.type "tuple",d9_FIELDS,.seq #[.str "d" oP,.str "s" oQ] n9_FIELDS,eZ⟩)
  (Fi:K.lookup Vh=some ⟨.type "tuple",d10_FIELDS,.seq #[.str "d" nK,.str "s" nL] n10_FIELDS,e7⟩)
  (Fj:K.lookup Vi=some ⟨.type "tuple",d11_FIELDS,.seq #[.str "d" nM,.str "s" nN] n11_FIELDS,e8⟩)
  (Fk:K.lookup Vj=some ⟨.type "tuple",d12_FIELDS,.seq #[.str "d" nO,.str "n" nP] n12_FIELDS,e9⟩)
  (Fm:K.lookup Vk=some ⟨.type "tuple",d13_FIELDS,.seq #[.str "d" nQ,.str "n" nR] n13_FIELDS,eA⟩)
  (Fn:K.lookup Vl=some ⟨.type "tuple",d14_FIELDS,.seq #[.str "d" nS,.str "s" nT,.str "n" nU] n14_FIELDS,eB⟩)
  (Fo:K.lookup Vm=some ⟨.type "tuple",d15_FIELDS,.seq #[.str "d" nV,.str "s" nW,.str "n" nX] n15_FIELDS,eD⟩)
  (Fp:K.lookup Vn=some ⟨.type "tuple",d16_FIELDS,.seq #[.str "d" nY,.str "s" nZ,.str "n" nc] n16_FIELDS,eE⟩)
  (Fq:K.lookup Vo=some ⟨.type "tuple",d17_FIELDS,.seq #[.str "d" ng,.str "s" nh,.str "n" ni] n17_FIELDS,eF⟩)
  (Fr:K.lookup Vp=some ⟨.type "tuple",d18_FIELDS,.seq #[.str "name" nj] n18_FIELDS,eG⟩)
  (Ft:K.lookup Vq=some ⟨.type "tuple",d19_FIELDS,.seq #[.str "mark" nk,.str "name" nn] n19_FIELDS,eI⟩)
  (Fw:K.lookup Vt=some ⟨.type "tuple",d20_FIELDS,.seq #[.str "mark" n_,.str "name" o0] n20_FIELDS,eM⟩)
  (Fx:K.lookup Vu=some ⟨.type "tuple",d21_FIELDS,.seq #[] n21_FIELDS,eN⟩)
  {tP:Addr}{Rc:Nat}{e_:Array (Option Value)}{mz n4 n8:Tok}(FI:W.nsIn K mainGlobals "MARKS" = some (some (.ref tP)))
  (Of:K.lookup tP=some ⟨.type "tuple",none,.seq #[.str "carry" mz,.str "nought" n4,.str "sign" n8] Rc,e_⟩)
  {tO:Addr}{RY:Nat}(D_:W.nsIn K mainGlobals "CODES" = some (some (.ref tO)))
  {iL:Tok}
  {mF:Tok}
  {im:Tok}
  {mS:Tok}
  {lA:Tok}
  {mW:Tok}
  {lG:Tok}
  {ma:Tok}
  {lK:Tok}
  {mf:Tok}
  {lO:Tok}
  {mi:Tok}
  {lR:Tok}
  {ml:Tok}
  {lU:Tok}
  {mo:Tok}
  {lX:Tok}
  {mr:Tok}
  {lZ:Tok}
  {ms:Tok}
  {iR:Tok}
  {mK:Tok}
  {iT:Tok}
  {mL:Tok}
  {iV:Tok}
  {mM:Tok}
  {iX:Tok}
  {mN:Tok}
  {iZ:Tok}
  {mO:Tok}
  {ib:Tok}
  {mP:Tok}
  {ie:Tok}
  {mQ:Tok}
  {ii:Tok}
  {mR:Tok}
  (Oc:K.lookup tO=some { cls:=.type "dict",data:=.dict #[⟨PyData.keyHash w.params "stop",.str "stop" iL,.int 0 mF⟩,⟨PyData.keyHash w.params "set",.str "set" im,.int 1 mS⟩,⟨PyData.keyHash w.params "high",.str "high" lA,.int 2 mW⟩,⟨PyData.keyHash w.params "copy",.str "copy" lG,.int 3 ma⟩,⟨PyData.keyHash w.params "add",.str "add" lK,.int 4 mf⟩,⟨PyData.keyHash w.params "addc",.str "addc" lO,.int 5 mi⟩,⟨PyData.keyHash w.params "sub",.str "sub" lR,.int 6 ml⟩,⟨PyData.keyHash w.params "subc",.str "subc" lU,.int 7 mo⟩,⟨PyData.keyHash w.params "and",.str "and" lX,.int 8 mr⟩,⟨PyData.keyHash w.params "or",.str "or" lZ,.int 9 ms⟩,⟨PyData.keyHash w.params "xor",.str "xor" iR,.int 10 mK⟩,⟨PyData.keyHash w.params "test",.str "test" iT,.int 11 mL⟩,⟨PyData.keyHash w.params "left",.str "left" iV,.int 12 mM⟩,⟨PyData.keyHash w.params "right",.str "right" iX,.int 13 mN⟩,⟨PyData.keyHash w.params "load",.str "load" iZ,.int 14 mO⟩,⟨PyData.keyHash w.params "store",.str "store" ib,.int 15 mP⟩,⟨PyData.keyHash w.params "loadw",.str "loadw" ie,.int 16 mQ⟩,⟨PyData.keyHash w.params "storew",.str "storew" ii,.int 17 mR⟩] RY })(Oh:(tO==sysModules)=false)
  {u4:Addr}{Re:Nat}(FK:W.nsIn K mainGlobals "NEAR_CODES" = some (some (.ref u4)))
  {iO:Tok}
  {mH:Tok}
  {ir:Tok}
  {mU:Tok}
  {lD:Tok}
  {mY:Tok}
  (Og:K.lookup u4=some { cls:=.type "dict",data:=.dict #[⟨PyData.keyHash w.params "jump",.str "jump" iO,.int 18 mH⟩,⟨PyData.keyHash w.params "when",.str "when" ir,.int 19 mU⟩,⟨PyData.keyHash w.params "unless",.str "unless" lD,.int 20 mY⟩] Re })(Oj:(u4==sysModules)=false)
  {u0:Addr}{RZ:Nat}(FB:W.nsIn K mainGlobals "FAR_CODES" = some (some (.ref u0)))
  {iM:Tok}
  {mG:Tok}
  {ip:Tok}
  {mT:Tok}
  {lB:Tok}
  {mX:Tok}
  (Od:K.lookup u0=some { cls:=.type "dict",data:=.dict #[⟨PyData.keyHash w.params "jump",.str "jump" iM,.int 21 mG⟩,⟨PyData.keyHash w.params "when",.str "when" ip,.int 22 mT⟩,⟨PyData.keyHash w.params "unless",.str "unless" lB,.int 23 mX⟩] RZ })(Oi:(u0==sysModules)=false)
  {pL:Addr}{Rb:Nat}{eh:Array (Option Value)}{my m_ n5:Tok}(FD:W.nsIn K mainGlobals "JUMPS" = some (some (.ref pL)))
  (Oe:K.lookup pL=some ⟨.type "tuple",none,.seq #[.str "jump" my,.str "when" m_,.str "unless" n5] Rb,eh⟩)
  {iE:Tok}(FH:W.nsIn K mainGlobals "LETTERS" = some (some (.str "abcdefghijklmnopqrstuvwxyz" iE)))
  {iJ:Tok}(FU:W.nsIn K mainGlobals "WORD_BITS" = some (some (.int 32 iJ)))
  {iH:Tok}(FM:W.nsIn K mainGlobals "NEAR_ON" = some (some (.int 15 iH)))
  {iF:Tok}(FJ:W.nsIn K mainGlobals "NEAR_BACK" = some (some (.int 16 iF)))
  : ∃fd:FuncData,(∀(s:Shared)(v:Value),BindsTo s fd ⟨[v],[]⟩ [("_law_script",v)])/\∀base:Heap,K.In base->base.Ns mainGlobals mg->qL l.prog w K mg base tQ 10 fa fd ["_law_script"] (V3 K):=by
 have e:=hfa.symm.trans (W.mg_of X G a52);cases e;have Ly:mg "zip" = none:=W.mg_none_of X G CP;have qD:mg "list" = none:=W.mg_none_of X G CH;have yg:mg "len" = none:=W.mg_none_of X G CG;have Yi:mg "tuple" = none:=W.mg_none_of X G CO;have jD:mg "sorted" = none:=W.mg_none_of X G CM;have Yh:mg "set" = none:=W.mg_none_of X G CL;have jC:mg "dict" = none:=W.mg_none_of X G CB;have uG:mg "enumerate" = none:=W.mg_none_of X G CC;have Yg:mg "max" = none:=W.mg_none_of X G CI;have wg:mg "range" = none:=W.mg_none_of X G CK;have Lw:mg "min" = none:=W.mg_none_of X G CJ;have Z5:mg "isinstance" = none:=W.mg_none_of X G CF;have Lu:mg "bool" = none:=W.mg_none_of X G CA;have Lv:mg "int" = none:=W.mg_none_of X G CD;have Lx:mg "str" = none:=W.mg_none_of X G CN;have IN:yf mg "NUMBER_WIDTHS" (.ref jK):=⟨_,W.mg_of X G FP,rfl⟩;have L7:wH K w jK IR IV:=Zv (us:=[.int 16,.int 16,.int 5,.int 5,.int 8,.int 8,.int 8,.int 8]) Fa (.cons (.cons (.cons (.cons (.cons (.cons (.cons (.cons .nil)))))))) (by decide +kernel) Fe (.cons ⟨_,rfl⟩ (.cons ⟨_,rfl⟩ (.cons ⟨_,rfl⟩ (.cons ⟨_,rfl⟩ (.cons ⟨_,rfl⟩ (.cons ⟨_,rfl⟩ (.cons ⟨_,rfl⟩ (.cons ⟨_,rfl⟩ .nil)))))))) λH=>⟨_,_,rfl,rfl,⟨_,_,rfl,rfl,⟨_,_,rfl,rfl,⟨_,_,rfl,rfl,⟨_,_,rfl,rfl,⟨_,_,rfl,rfl,⟨_,_,rfl,rfl,⟨_,_,rfl,rfl,rfl⟩⟩⟩⟩⟩⟩⟩⟩
 have IM:yf mg "NUMBER_LOW" (.int 0):=⟨_,W.mg_of X G FN,⟨_,rfl⟩⟩;have L6:∀H,ze K H (.int 0) (.int 0):=λ_=>rfl
 have vN:yf mg "PLACES" (.ref vI):=⟨_,W.mg_of X G FQ,rfl⟩;have vS:wH K w vI wM wN:=Zv (us:=[.ref Vg,.ref Vs,.ref Vw,.ref Vy,.ref V_]) Fb (.cons (.cons (.cons (.cons (.cons .nil))))) (by decide +kernel) Ff (.cons rfl (.cons rfl (.cons rfl (.cons rfl (.cons rfl .nil))))) λH=>⟨_,_,rfl,⟨Vg,_,rfl,xl (xs:=[.int 27,.int 5]) Fh (by show(2:Nat)<=sizeLine; decide) (.cons ⟨_,rfl⟩ (.cons ⟨_,rfl⟩ .nil)) H,⟨_,_,rfl,rfl,⟨_,_,rfl,rfl,rfl⟩⟩,small (by decide)⟩,⟨_,_,rfl,⟨Vs,_,rfl,xl (xs:=[.int 24,.int 3]) Fv (by show(2:Nat)<=sizeLine; decide) (.cons ⟨_,rfl⟩ (.cons ⟨_,rfl⟩ .nil)) H,⟨_,_,rfl,rfl,⟨_,_,rfl,rfl,rfl⟩⟩,small (by decide)⟩,⟨_,_,rfl,⟨Vw,_,rfl,xl (xs:=[.int 21,.int 3]) Fz (by show(2:Nat)<=sizeLine; decide) (.cons ⟨_,rfl⟩ (.cons ⟨_,rfl⟩ .nil)) H,⟨_,_,rfl,rfl,⟨_,_,rfl,rfl,rfl⟩⟩,small (by decide)⟩,⟨_,_,rfl,⟨Vy,_,rfl,xl (xs:=[.int 24,.int 2]) C0 (by show(2:Nat)<=sizeLine; decide) (.cons ⟨_,rfl⟩ (.cons ⟨_,rfl⟩ .nil)) H,⟨_,_,rfl,rfl,⟨_,_,rfl,rfl,rfl⟩⟩,small (by decide)⟩,⟨_,_,rfl,⟨V_,_,rfl,xl (xs:=[.int 0,.int 5]) C2 (by show(2:Nat)<=sizeLine; decide) (.cons ⟨_,rfl⟩ (.cons ⟨_,rfl⟩ .nil)) H,⟨_,_,rfl,rfl,⟨_,_,rfl,rfl,rfl⟩⟩,small (by decide)⟩,rfl⟩⟩⟩⟩⟩
 have II:yf mg "FIELDS" (.ref jJ):=⟨_,W.mg_of X G FC,rfl⟩;have O_:wH K w jJ IQ IU:=Zv (us:=[.ref Vf,.ref Vr,.ref Vv,.ref Vx,.ref Vz,.ref U0,.ref U1,.ref U2,.ref U3,.ref U4,.ref Vh,.ref Vi,.ref Vj,.ref Vk,.ref Vl,.ref Vm,.ref Vn,.ref Vo,.ref Vp,.ref Vq,.ref Vt,.ref Vu]) FZ (.cons (.cons (.cons (.cons (.cons (.cons (.cons (.cons (.cons (.cons (.cons (.cons (.cons (.cons (.cons (.cons (.cons (.cons (.cons (.cons (.cons (.cons .nil)))))))))))))))))))))) (by decide +kernel) Fd (.cons rfl (.cons rfl (.cons rfl (.cons rfl (.cons rfl (.cons rfl (.cons rfl (.cons rfl (.cons rfl (.cons rfl (.cons rfl (.cons rfl (.cons rfl (.cons rfl (.cons rfl (.cons rfl (.cons rfl (.cons rfl (.cons rfl (.cons rfl (.cons rfl (.cons rfl .nil)))))))))))))))))))))) λH=>⟨_,_,rfl,⟨Vf,_,rfl,xl (xs:=[.str "name"]) Fg (by show(1:Nat)<=sizeLine; decide) (.cons ⟨_,rfl⟩ .nil) H,⟨_,_,rfl,⟨rfl,small (by decide)⟩,rfl⟩,small (by decide)⟩,⟨_,_,rfl,⟨Vr,_,rfl,xl (xs:=[.str "d",.str "n"]) Fu (by show(2:Nat)<=sizeLine; decide) (.cons ⟨_,rfl⟩ (.cons ⟨_,rfl⟩ .nil)) H,⟨_,_,rfl,⟨rfl,small (by decide)⟩,⟨_,_,rfl,⟨rfl,small (by decide)⟩,rfl⟩⟩,small (by decide)⟩,⟨_,_,rfl,⟨Vv,_,rfl,xl (xs:=[.str "d",.str "n"]) Fy (by show(2:Nat)<=sizeLine; decide) (.cons ⟨_,rfl⟩ (.cons ⟨_,rfl⟩ .nil)) H,⟨_,_,rfl,⟨rfl,small (by decide)⟩,⟨_,_,rfl,⟨rfl,small (by decide)⟩,rfl⟩⟩,small (by decide)⟩,⟨_,_,rfl,⟨Vx,_,rfl,xl (xs:=[.str "d",.str "s"]) F_ (by show(2:Nat)<=sizeLine; decide) (.cons ⟨_,rfl⟩ (.cons ⟨_,rfl⟩ .nil)) H,⟨_,_,rfl,⟨rfl,small (by decide)⟩,⟨_,_,rfl,⟨rfl,small (by decide)⟩,rfl⟩⟩,small (by decide)⟩,⟨_,_,rfl,⟨Vz,_,rfl,xl (xs:=[.str "d",.str "s"]) C1 (by show(2:Nat)<=sizeLine; decide) (.cons ⟨_,rfl⟩ (.cons ⟨_,rfl⟩ .nil)) H,⟨_,_,rfl,⟨rfl,small (by decide)⟩,⟨_,_,rfl,⟨rfl,small (by decide)⟩,rfl⟩⟩,small (by decide)⟩,⟨_,_,rfl,⟨U0,_,rfl,xl (xs:=[.str "d",.str "s"]) C3 (by show(2:Nat)<=sizeLine; decide) (.cons ⟨_,rfl⟩ (.cons ⟨_,rfl⟩ .nil)) H,⟨_,_,rfl,⟨rfl,small (by decide)⟩,⟨_,_,rfl,⟨rfl,small (by decide)⟩,rfl⟩⟩,small (by decide)⟩,⟨_,_,rfl,⟨U1,_,rfl,xl (xs:=[.str "d",.str "s"]) C4 (by show(2:Nat)<=sizeLine; decide) (.cons ⟨_,rfl⟩ (.cons ⟨_,rfl⟩ .nil)) H,⟨_,_,rfl,⟨rfl,small (by decide)⟩,⟨_,_,rfl,⟨rfl,small (by decide)⟩,rfl⟩⟩,small (by decide)⟩,⟨_,_,rfl,⟨U2,_,rfl,xl (xs:=[.str "d",.str "s"]) C5 (by show(2:Nat)<=sizeLine; decide) (.cons ⟨_,rfl⟩ (.cons ⟨_,rfl⟩ .nil)) H,⟨_,_,rfl,⟨rfl,small (by decide)⟩,⟨_,_,rfl,⟨rfl,small (by decide)⟩,rfl⟩⟩,small (by decide)⟩,⟨_,_,rfl,⟨U3,_,rfl,xl (xs:=[.str "d",.str "s"]) C6 (by show(2:Nat)<=sizeLine; decide) (.cons ⟨_,rfl⟩ (.cons ⟨_,rfl⟩ .nil)) H,⟨_,_,rfl,⟨rfl,small (by decide)⟩,⟨_,_,rfl,⟨rfl,small (by decide)⟩,rfl⟩⟩,small (by decide)⟩,⟨_,_,rfl,⟨U4,_,rfl,xl (xs:=[.str "d",.str "s"]) C7 (by show(2:Nat)<=sizeLine; decide) (.cons ⟨_,rfl⟩ (.cons ⟨_,rfl⟩ .nil)) H,⟨_,_,rfl,⟨rfl,small (by decide)⟩,⟨_,_,rfl,⟨rfl,small (by decide)⟩,rfl⟩⟩,small (by decide)⟩,⟨_,_,rfl,⟨Vh,_,rfl,xl (xs:=[.str "d",.str "s"]) Fi (by show(2:Nat)<=sizeLine; decide) (.cons ⟨_,rfl⟩ (.cons ⟨_,rfl⟩ .nil)) H,⟨_,_,rfl,⟨rfl,small (by decide)⟩,⟨_,_,rfl,⟨rfl,small (by decide)⟩,rfl⟩⟩,small (by decide)⟩,⟨_,_,rfl,⟨Vi,_,rfl,xl (xs:=[.str "d",.str "s"]) Fj (by show(2:Nat)<=sizeLine; decide) (.cons ⟨_,rfl⟩ (.cons ⟨_,rfl⟩ .nil)) H,⟨_,_,rfl,⟨rfl,small (by decide)⟩,⟨_,_,rfl,⟨rfl,small (by decide)⟩,rfl⟩⟩,small (by decide)⟩,⟨_,_,rfl,⟨Vj,_,rfl,xl (xs:=[.str "d",.str "n"]) Fk (by show(2:Nat)<=sizeLine; decide) (.cons ⟨_,rfl⟩ (.cons ⟨_,rfl⟩ .nil)) H,⟨_,_,rfl,⟨rfl,small (by decide)⟩,⟨_,_,rfl,⟨rfl,small (by decide)⟩,rfl⟩⟩,small (by decide)⟩,⟨_,_,rfl,⟨Vk,_,rfl,xl (xs:=[.str "d",.str "n"]) Fm (by show(2:Nat)<=sizeLine; decide) (.cons ⟨_,rfl⟩ (.cons ⟨_,rfl⟩ .nil)) H,⟨_,_,rfl,⟨rfl,small (by decide)⟩,⟨_,_,rfl,⟨rfl,small (by decide)⟩,rfl⟩⟩,small (by decide)⟩,⟨_,_,rfl,⟨Vl,_,rfl,xl (xs:=[.str "d",.str "s",.str "n"]) Fn (by show(3:Nat)<=sizeLine; decide) (.cons ⟨_,rfl⟩ (.cons ⟨_,rfl⟩ (.cons ⟨_,rfl⟩ .nil))) H,⟨_,_,rfl,⟨rfl,small (by decide)⟩,⟨_,_,rfl,⟨rfl,small (by decide)⟩,⟨_,_,rfl,⟨rfl,small (by decide)⟩,rfl⟩⟩⟩,small (by decide)⟩,⟨_,_,rfl,⟨Vm,_,rfl,xl (xs:=[.str "d",.str "s",.str "n"]) Fo (by show(3:Nat)<=sizeLine; decide) (.cons ⟨_,rfl⟩ (.cons ⟨_,rfl⟩ (.cons ⟨_,rfl⟩ .nil))) H,⟨_,_,rfl,⟨rfl,small (by decide)⟩,⟨_,_,rfl,⟨rfl,small (by decide)⟩,⟨_,_,rfl,⟨rfl,small (by decide)⟩,rfl⟩⟩⟩,small (by decide)⟩,⟨_,_,rfl,⟨Vn,_,rfl,xl (xs:=[.str "d",.str "s",.str "n"]) Fp (by show(3:Nat)<=sizeLine; decide) (.cons ⟨_,rfl⟩ (.cons ⟨_,rfl⟩ (.cons ⟨_,rfl⟩ .nil))) H,⟨_,_,rfl,⟨rfl,small (by decide)⟩,⟨_,_,rfl,⟨rfl,small (by decide)⟩,⟨_,_,rfl,⟨rfl,small (by decide)⟩,rfl⟩⟩⟩,small (by decide)⟩,⟨_,_,rfl,⟨Vo,_,rfl,xl (xs:=[.str "d",.str "s",.str "n"]) Fq (by show(3:Nat)<=sizeLine; decide) (.cons ⟨_,rfl⟩ (.cons ⟨_,rfl⟩ (.cons ⟨_,rfl⟩ .nil))) H,⟨_,_,rfl,⟨rfl,small (by decide)⟩,⟨_,_,rfl,⟨rfl,small (by decide)⟩,⟨_,_,rfl,⟨rfl,small (by decide)⟩,rfl⟩⟩⟩,small (by decide)⟩,⟨_,_,rfl,⟨Vp,_,rfl,xl (xs:=[.str "name"]) Fr (by show(1:Nat)<=sizeLine; decide) (.cons ⟨_,rfl⟩ .nil) H,⟨_,_,rfl,⟨rfl,small (by decide)⟩,rfl⟩,small (by decide)⟩,⟨_,_,rfl,⟨Vq,_,rfl,xl (xs:=[.str "mark",.str "name"]) Ft (by show(2:Nat)<=sizeLine; decide) (.cons ⟨_,rfl⟩ (.cons ⟨_,rfl⟩ .nil)) H,⟨_,_,rfl,⟨rfl,small (by decide)⟩,⟨_,_,rfl,⟨rfl,small (by decide)⟩,rfl⟩⟩,small (by decide)⟩,⟨_,_,rfl,⟨Vt,_,rfl,xl (xs:=[.str "mark",.str "name"]) Fw (by show(2:Nat)<=sizeLine; decide) (.cons ⟨_,rfl⟩ (.cons ⟨_,rfl⟩ .nil)) H,⟨_,_,rfl,⟨rfl,small (by decide)⟩,⟨_,_,rfl,⟨rfl,small (by decide)⟩,rfl⟩⟩,small (by decide)⟩,⟨_,_,rfl,⟨Vu,_,rfl,xl (xs:=[]) Fx (by show(0:Nat)<=sizeLine; decide) .nil H,rfl,small (by decide)⟩,rfl⟩⟩⟩⟩⟩⟩⟩⟩⟩⟩⟩⟩⟩⟩⟩⟩⟩⟩⟩⟩⟩⟩
 have OE:UC K tP:=⟨_,Of,rfl,rfl⟩;have kD:yf mg "MARKS" (.ref tP):=⟨_,W.mg_of X G FI,rfl⟩;have kZ:∀H,ze K H jk (.ref tP):=λH=>⟨tP,_,rfl,xl (xs:=[.str "carry",.str "nought",.str "sign"]) Of (by show(3:Nat)<=sizeLine; decide) (.cons ⟨_,rfl⟩ (.cons ⟨_,rfl⟩ (.cons ⟨_,rfl⟩ .nil))) H,⟨_,_,rfl,⟨rfl,small (by decide)⟩,⟨_,_,rfl,⟨rfl,small (by decide)⟩,⟨_,_,rfl,⟨rfl,small (by decide)⟩,rfl⟩⟩⟩,small (by decide)⟩
 have kC:yf mg "CODES" (.ref tO):=⟨_,W.mg_of X G D_,rfl⟩;have Jv:uS K w tO tZ XW:=IO (us:=XW) Oc (.cons (.cons (.cons (.cons (.cons (.cons (.cons (.cons (.cons (.cons (.cons (.cons (.cons (.cons (.cons (.cons (.cons (.cons .nil)))))))))))))))))) (by decide +kernel) Oh (.cons ⟨_,rfl⟩ (.cons ⟨_,rfl⟩ (.cons ⟨_,rfl⟩ (.cons ⟨_,rfl⟩ (.cons ⟨_,rfl⟩ (.cons ⟨_,rfl⟩ (.cons ⟨_,rfl⟩ (.cons ⟨_,rfl⟩ (.cons ⟨_,rfl⟩ (.cons ⟨_,rfl⟩ (.cons ⟨_,rfl⟩ (.cons ⟨_,rfl⟩ (.cons ⟨_,rfl⟩ (.cons ⟨_,rfl⟩ (.cons ⟨_,rfl⟩ (.cons ⟨_,rfl⟩ (.cons ⟨_,rfl⟩ (.cons ⟨_,rfl⟩ .nil))))))))))))))))));have EF:∀H,Reps K H qQ XW:=λH=>⟨_,_,rfl,rfl,⟨_,_,rfl,rfl,⟨_,_,rfl,rfl,⟨_,_,rfl,rfl,⟨_,_,rfl,rfl,⟨_,_,rfl,rfl,⟨_,_,rfl,rfl,⟨_,_,rfl,rfl,⟨_,_,rfl,rfl,⟨_,_,rfl,rfl,⟨_,_,rfl,rfl,⟨_,_,rfl,rfl,⟨_,_,rfl,rfl,⟨_,_,rfl,rfl,⟨_,_,rfl,rfl,⟨_,_,rfl,rfl,⟨_,_,rfl,rfl,⟨_,_,rfl,rfl,rfl⟩⟩⟩⟩⟩⟩⟩⟩⟩⟩⟩⟩⟩⟩⟩⟩⟩⟩
 have YO:wH K w tO tZ qQ:=Zv (us:=[.int 0,.int 1,.int 2,.int 3,.int 4,.int 5,.int 6,.int 7,.int 8,.int 9,.int 10,.int 11,.int 12,.int 13,.int 14,.int 15,.int 16,.int 17]) Oc (.cons (.cons (.cons (.cons (.cons (.cons (.cons (.cons (.cons (.cons (.cons (.cons (.cons (.cons (.cons (.cons (.cons (.cons .nil)))))))))))))))))) (by decide +kernel) Oh (.cons ⟨_,rfl⟩ (.cons ⟨_,rfl⟩ (.cons ⟨_,rfl⟩ (.cons ⟨_,rfl⟩ (.cons ⟨_,rfl⟩ (.cons ⟨_,rfl⟩ (.cons ⟨_,rfl⟩ (.cons ⟨_,rfl⟩ (.cons ⟨_,rfl⟩ (.cons ⟨_,rfl⟩ (.cons ⟨_,rfl⟩ (.cons ⟨_,rfl⟩ (.cons ⟨_,rfl⟩ (.cons ⟨_,rfl⟩ (.cons ⟨_,rfl⟩ (.cons ⟨_,rfl⟩ (.cons ⟨_,rfl⟩ (.cons ⟨_,rfl⟩ .nil)))))))))))))))))) λH=>⟨_,_,rfl,rfl,⟨_,_,rfl,rfl,⟨_,_,rfl,rfl,⟨_,_,rfl,rfl,⟨_,_,rfl,rfl,⟨_,_,rfl,rfl,⟨_,_,rfl,rfl,⟨_,_,rfl,rfl,⟨_,_,rfl,rfl,⟨_,_,rfl,rfl,⟨_,_,rfl,rfl,⟨_,_,rfl,rfl,⟨_,_,rfl,rfl,⟨_,_,rfl,rfl,⟨_,_,rfl,rfl,⟨_,_,rfl,rfl,⟨_,_,rfl,rfl,⟨_,_,rfl,rfl,rfl⟩⟩⟩⟩⟩⟩⟩⟩⟩⟩⟩⟩⟩⟩⟩⟩⟩⟩
 have qu:yf mg "NEAR_CODES" (.ref u4):=⟨_,W.mg_of X G FK,rfl⟩;have Zs:uS K w u4 tj kG:=IO (us:=kG) Og (.cons (.cons (.cons .nil))) (by decide +kernel) Oj (.cons ⟨_,rfl⟩ (.cons ⟨_,rfl⟩ (.cons ⟨_,rfl⟩ .nil)));have Xu:∀H,Reps K H tq kG:=λH=>⟨_,_,rfl,rfl,⟨_,_,rfl,rfl,⟨_,_,rfl,rfl,rfl⟩⟩⟩
 have jy:wH K w u4 tj tq:=Zv (us:=[.int 18,.int 19,.int 20]) Og (.cons (.cons (.cons .nil))) (by decide +kernel) Oj (.cons ⟨_,rfl⟩ (.cons ⟨_,rfl⟩ (.cons ⟨_,rfl⟩ .nil))) λH=>⟨_,_,rfl,rfl,⟨_,_,rfl,rfl,⟨_,_,rfl,rfl,rfl⟩⟩⟩
 have qt:yf mg "FAR_CODES" (.ref u0):=⟨_,W.mg_of X G FB,rfl⟩;have Zr:uS K w u0 tf kF:=IO (us:=kF) Od (.cons (.cons (.cons .nil))) (by decide +kernel) Oi (.cons ⟨_,rfl⟩ (.cons ⟨_,rfl⟩ (.cons ⟨_,rfl⟩ .nil)));have Xt:∀H,Reps K H tm kF:=λH=>⟨_,_,rfl,rfl,⟨_,_,rfl,rfl,⟨_,_,rfl,rfl,rfl⟩⟩⟩
 have jx:wH K w u0 tf tm:=Zv (us:=[.int 21,.int 22,.int 23]) Od (.cons (.cons (.cons .nil))) (by decide +kernel) Oi (.cons ⟨_,rfl⟩ (.cons ⟨_,rfl⟩ (.cons ⟨_,rfl⟩ .nil))) λH=>⟨_,_,rfl,rfl,⟨_,_,rfl,rfl,⟨_,_,rfl,rfl,rfl⟩⟩⟩
 have ou:UC K pL:=⟨_,Oe,rfl,rfl⟩;have IJ:yf mg "JUMPS" (.ref pL):=⟨_,W.mg_of X G FD,rfl⟩;have L1:∀H,ze K H TB (.ref pL):=λH=>⟨pL,_,rfl,xl (xs:=[.str "jump",.str "when",.str "unless"]) Oe (by show(3:Nat)<=sizeLine; decide) (.cons ⟨_,rfl⟩ (.cons ⟨_,rfl⟩ (.cons ⟨_,rfl⟩ .nil))) H,⟨_,_,rfl,⟨rfl,small (by decide)⟩,⟨_,_,rfl,⟨rfl,small (by decide)⟩,⟨_,_,rfl,⟨rfl,small (by decide)⟩,rfl⟩⟩⟩,small (by decide)⟩
 have XS:yf mg "LETTERS" (.str "abcdefghijklmnopqrstuvwxyz"):=⟨_,W.mg_of X G FH,⟨_,rfl⟩⟩;have Xp:∀H,ze K H (.str "abcdefghijklmnopqrstuvwxyz") (.str "abcdefghijklmnopqrstuvwxyz"):=λ_=>⟨rfl,small (by decide)⟩
 have Zu:yf mg "WORD_BITS" (.int 32):=⟨_,W.mg_of X G FU,⟨_,rfl⟩⟩;have YQ:∀H,ze K H (.int 32) (.int 32):=λ_=>rfl
 have IL:yf mg "NEAR_ON" (.int 15):=⟨_,W.mg_of X G FM,⟨_,rfl⟩⟩;have L5:∀H,ze K H (.int 15) (.int 15):=λ_=>rfl
 have IK:yf mg "NEAR_BACK" (.int 16):=⟨_,W.mg_of X G FJ,⟨_,rfl⟩⟩;have L4:∀H,ze K H (.int 16) (.int 16):=λ_=>rfl
 have F0:=yR (st:=WZ) l0 c0 k0;have D0:zK K mg "part" WZ ["word", "low", "width"]:=⟨_,_,F0,W.mg_of X G a0,F0.binds λ_ _ _ _ _ _=>Z3 λ_ _ _=>rfl⟩;have F1:=yR (st:=Wm) l1 c1 k1;have D1:zK K mg "with_part" Wm ["word", "low", "width", "number"]:=⟨_,_,F1,W.mg_of X G a1,F1.binds λ_ _ _ _ _ _=>nF λ_ _ _ _=>rfl⟩;have F2:=yR (st:=We) l2 c2 k2;have D2:zK K mg "signed" We ["number", "width"]:=⟨_,_,F2,W.mg_of X G a2,F2.binds λ_ _ _ _ _ _=>vU λ_ _=>rfl⟩;have F3:=yR (st:=Wi) l3 c3 k3;have D3:zK K mg "unsigned" Wi ["number", "width"]:=⟨_,_,F3,W.mg_of X G a3,F3.binds λ_ _ _ _ _ _=>vU λ_ _=>rfl⟩;have F4:=yR (st:=Wa) l4 c4 k4;have D4:zK K mg "place_in_word" Wa ["kind", "field"]:=⟨_,_,F4,W.mg_of X G a4,F4.binds λ_ _ _ _ _ _=>vU λ_ _=>rfl⟩;have F5:=yR (st:=WY) l5 c5 k5;have D5:zK K mg "number_at" WY ["word", "place"]:=⟨_,_,F5,W.mg_of X G a5,F5.binds λ_ _ _ _ _ _=>vU λ_ _=>rfl⟩;have F6:=yR (st:=Wl) l6 c6 k6;have D6:zK K mg "with_number" Wl ["word", "place", "number"]:=⟨_,_,F6,W.mg_of X G a6,F6.binds λ_ _ _ _ _ _=>Z3 λ_ _ _=>rfl⟩;have F7:=yR (st:=W5) l7 c7 k7;have D7:zK K mg "fields_in_word" W5 ["kind"]:=⟨_,_,F7,W.mg_of X G a7,F7.binds λ_ _ _ _ _ _=>xn λ_=>rfl⟩;have F8:=yR (st:=W6) l8 c8 k8;have D8:zK K mg "first_word" W6 ["row", "code"]:=⟨_,_,F8,W.mg_of X G a8,F8.binds λ_ _ _ _ _ _=>vU λ_ _=>rfl⟩;have F9:=yR (st:=Xz) l9 c9 k9;have D9:zK K mg "code_in" Xz ["word"]:=⟨_,_,F9,W.mg_of X G a9,F9.binds λ_ _ _ _ _ _=>xn λ_=>rfl⟩;have F10:=yR (st:=WD) l10 c10 k10;have D10:zK K mg "kind_of_code" WD ["code"]:=⟨_,_,F10,W.mg_of X G a10,F10.binds λ_ _ _ _ _ _=>xn λ_=>rfl⟩;have F11:=yR (st:=WC) l11 c11 k11;have D11:zK K mg "is_near_code" WC ["code"]:=⟨_,_,F11,W.mg_of X G a11,F11.binds λ_ _ _ _ _ _=>xn λ_=>rfl⟩;have F12:=yR (st:=W8) l12 c12 k12;have D12:zK K mg "is_far_code" W8 ["code"]:=⟨_,_,F12,W.mg_of X G a12,F12.binds λ_ _ _ _ _ _=>xn λ_=>rfl⟩;have F13:=yR (st:=W7) l13 c13 k13;have D13:zK K mg "held_in" W7 ["word", "kind", "field"]:=⟨_,_,F13,W.mg_of X G a13,F13.binds λ_ _ _ _ _ _=>Z3 λ_ _ _=>rfl⟩;have F14:=yR (st:=Wc) l14 c14 k14;have D14:zK K mg "row_in" Wc ["word"]:=⟨_,_,F14,W.mg_of X G a14,F14.binds λ_ _ _ _ _ _=>xn λ_=>rfl⟩;have F15:=yR (st:=WA) l15 c15 k15;have D15:zK K mg "is_label" WA ["item"]:=⟨_,_,F15,W.mg_of X G a15,F15.binds λ_ _ _ _ _ _=>xn λ_=>rfl⟩;have F16:=yR (st:=W9) l16 c16 k16;have D16:zK K mg "is_jump" W9 ["item"]:=⟨_,_,F16,W.mg_of X G a16,F16.binds λ_ _ _ _ _ _=>xn λ_=>rfl⟩;have F17:=yR (st:=Wd) l17 c17 k17;have D17:zK K mg "rows_of" Wd ["items"]:=⟨_,_,F17,W.mg_of X G a17,F17.binds λ_ _ _ _ _ _=>xn λ_=>rfl⟩;have F18:=yR (st:=WE) l18 c18 k18;have D18:zK K mg "label_places" WE ["items"]:=⟨_,_,F18,W.mg_of X G a18,F18.binds λ_ _ _ _ _ _=>xn λ_=>rfl⟩;have F19:=yR (st:=Wg) l19 c19 k19;have D19:zK K mg "targets_of" Wg ["items"]:=⟨_,_,F19,W.mg_of X G a19,F19.binds λ_ _ _ _ _ _=>xn λ_=>rfl⟩;have F20:=yR (st:=WT) l20 c20 k20;have D20:zK K mg "name_of" WT ["number"]:=⟨_,_,F20,W.mg_of X G a20,F20.binds λ_ _ _ _ _ _=>xn λ_=>rfl⟩;have F21:=yR (st:=WU) l21 c21 k21;have D21:zK K mg "names_of_places" WU ["targets"]:=⟨_,_,F21,W.mg_of X G a21,F21.binds λ_ _ _ _ _ _=>xn λ_=>rfl⟩;have F22:=yR (st:=WF) l22 c22 k22;have D22:zK K mg "labelled" WF ["rows", "targets"]:=⟨_,_,F22,W.mg_of X G a22,F22.binds λ_ _ _ _ _ _=>vU λ_ _=>rfl⟩;have F23:=yR (st:=W2) l23 c23 k23;have D23:zK K mg "far_at" W2 ["words", "address", "row"]:=⟨_,_,F23,W.mg_of X G a23,F23.binds λ_ _ _ _ _ _=>Z3 λ_ _ _=>rfl⟩;have F24:=yR (st:=Wh) l24 c24 k24;have D24:zK K mg "told_at" Wh ["words", "address"]:=⟨_,_,F24,W.mg_of X G a24,F24.binds λ_ _ _ _ _ _=>vU λ_ _=>rfl⟩;have F25:=yR (st:=Wj) l25 c25 k25;have D25:zK K mg "walked" Wj ["words"]:=⟨_,_,F25,W.mg_of X G a25,F25.binds λ_ _ _ _ _ _=>xn λ_=>rfl⟩;have F26:=yR (st:=Xy) l26 c26 k26;have D26:zK K mg "behind" Xy ["table"]:=⟨_,_,F26,W.mg_of X G a26,F26.binds λ_ _ _ _ _ _=>xn λ_=>rfl⟩;have F27:=yR (st:=Wn) l27 c27 k27;have D27:zK K mg "word_fault" Wn ["words"]:=⟨_,_,F27,W.mg_of X G a27,F27.binds λ_ _ _ _ _ _=>xn λ_=>rfl⟩;have F28:=yR (st:=Wf) l28 c28 k28;have D28:zK K mg "table_of" Wf ["words"]:=⟨_,_,F28,W.mg_of X G a28,F28.binds λ_ _ _ _ _ _=>xn λ_=>rfl⟩;have F29:=yR (st:=Wb) l29 c29 k29;have D29:zK K mg "read_words" Wb ["words"]:=⟨_,_,F29,W.mg_of X G a29,F29.binds λ_ _ _ _ _ _=>xn λ_=>rfl⟩;have F30:=yR (st:=Xx) l30 c30 k30;have D30:zK K mg "addresses" Xx ["items", "far"]:=⟨_,_,F30,W.mg_of X G a30,F30.binds λ_ _ _ _ _ _=>vU λ_ _=>rfl⟩;have F31:=yR (st:=WB) l31 c31 k31;have D31:zK K mg "is_near" WB ["distance"]:=⟨_,_,F31,W.mg_of X G a31,F31.binds λ_ _ _ _ _ _=>xn λ_=>rfl⟩;have F32:=yR (st:=X_) l32 c32 k32;have D32:zK K mg "distances_of" X_ ["items", "far"]:=⟨_,_,F32,W.mg_of X G a32,F32.binds λ_ _ _ _ _ _=>vU λ_ _=>rfl⟩;have F33:=yR (st:=WX) l33 c33 k33;have D33:zK K mg "not_reaching" WX ["items", "far"]:=⟨_,_,F33,W.mg_of X G a33,F33.binds λ_ _ _ _ _ _=>vU λ_ _=>rfl⟩;have F34:=yR (st:=W3) l34 c34 k34;have D34:zK K mg "far_rows" W3 ["items"]:=⟨_,_,F34,W.mg_of X G a34,F34.binds λ_ _ _ _ _ _=>xn λ_=>rfl⟩;have F35:=yR (st:=Wo) l35 c35 k35;have D35:zK K mg "word_of_row" Wo ["row"]:=⟨_,_,F35,W.mg_of X G a35,F35.binds λ_ _ _ _ _ _=>xn λ_=>rfl⟩;have F36:=yR (st:=WV) l36 c36 k36;have D36:zK K mg "near_word" WV ["row", "distance"]:=⟨_,_,F36,W.mg_of X G a36,F36.binds λ_ _ _ _ _ _=>vU λ_ _=>rfl⟩;have F37:=yR (st:=W4) l37 c37 k37;have D37:zK K mg "far_words" W4 ["row", "distance"]:=⟨_,_,F37,W.mg_of X G a37,F37.binds λ_ _ _ _ _ _=>vU λ_ _=>rfl⟩;have F38:=yR (st:=Wp) l38 c38 k38;have D38:zK K mg "written" Wp ["items"]:=⟨_,_,F38,W.mg_of X G a38,F38.binds λ_ _ _ _ _ _=>xn λ_=>rfl⟩;have F39:=yR (st:=WH) l39 c39 k39;have D39:zK K mg "_law_cell_at" WH ["_law_script", "_law_k"]:=⟨_,_,F39,W.mg_of X G a39,F39.binds λ_ _ _ _ _ _=>vU λ_ _=>rfl⟩;have F40:=yR (st:=WL) l40 c40 k40;have D40:zK K mg "_law_mixed" WL ["_law_cell", "_law_k"]:=⟨_,_,F40,W.mg_of X G a40,F40.binds λ_ _ _ _ _ _=>vU λ_ _=>rfl⟩;have F41:=yR (st:=WM) l41 c41 k41;have D41:zK K mg "_law_name_by" WM ["_law_k", "_law_shape"]:=⟨_,_,F41,W.mg_of X G a41,F41.binds λ_ _ _ _ _ _=>vU λ_ _=>rfl⟩;have F42:=yR (st:=WQ) l42 c42 k42;have D42:zK K mg "_law_row_by" WQ ["_law_cell"]:=⟨_,_,F42,W.mg_of X G a42,F42.binds λ_ _ _ _ _ _=>xn λ_=>rfl⟩;have F43:=yR (st:=WN) l43 c43 k43;have D43:zK K mg "_law_place_by" WN ["_law_number", "_law_many", "_law_cell"]:=⟨_,_,F43,W.mg_of X G a43,F43.binds λ_ _ _ _ _ _=>Z3 λ_ _ _=>rfl⟩;have F44:=yR (st:=WS) l44 c44 k44;have D44:zK K mg "_law_rows_by" WS ["_law_script", "_law_many", "_law_dense"]:=⟨_,_,F44,W.mg_of X G a44,F44.binds λ_ _ _ _ _ _=>Z3 λ_ _ _=>rfl⟩;have F45:=yR (st:=WJ) l45 c45 k45;have D45:zK K mg "_law_jumps_in" WJ ["_law_rows"]:=⟨_,_,F45,W.mg_of X G a45,F45.binds λ_ _ _ _ _ _=>xn λ_=>rfl⟩;have F46:=yR (st:=WK) l46 c46 k46;have D46:zK K mg "_law_many_by" WK ["_law_cell"]:=⟨_,_,F46,W.mg_of X G a46,F46.binds λ_ _ _ _ _ _=>xn λ_=>rfl⟩;have F47:=yR (st:=WI) l47 c47 k47;have D47:zK K mg "_law_items_by" WI ["_law_rows", "_law_cell"]:=⟨_,_,F47,W.mg_of X G a47,F47.binds λ_ _ _ _ _ _=>vU λ_ _=>rfl⟩;have F48:=yR (st:=WG) l48 c48 k48;have D48:zK K mg "_law_built" WG ["_law_script"]:=⟨_,_,F48,W.mg_of X G a48,F48.binds λ_ _ _ _ _ _=>xn λ_=>rfl⟩;have F49:=yR (st:=WP) l49 c49 k49;have D49:zK K mg "_law_plain_name" WP ["_law_number"]:=⟨_,_,F49,W.mg_of X G a49,F49.binds λ_ _ _ _ _ _=>xn λ_=>rfl⟩;have F50:=yR (st:=WR) l50 c50 k50;have D50:zK K mg "_law_rows_alike" WR ["_law_found", "_law_due"]:=⟨_,_,F50,W.mg_of X G a50,F50.binds λ_ _ _ _ _ _=>vU λ_ _=>rfl⟩;have F51:=yR (st:=WO) l51 c51 k51;have D51:zK K mg "_law_plain" WO ["_law_rows"]:=⟨_,_,F51,W.mg_of X G a51,F51.binds λ_ _ _ _ _ _=>xn λ_=>rfl⟩;have F52:=yR (st:=kq) l52 c52 k52;refine⟨W.fnOf "law" "law" (Zp kq) (qq kq) (zz kq) .none kV52 dc52 pm52 an52 cd52 ct52,λs v=>.of_eq rfl,λbase _ _=>?_⟩;have Iz:=Sv (P:=l.prog) (w:=w) (base:=base) D0 ;have O2:=A9 (P:=l.prog) (w:=w) (base:=base) D1 ;have Y4:=A1 (P:=l.prog) (w:=w) (base:=base) D2 ;have Y5:=A6 (P:=l.prog) (w:=w) (base:=base) D3 ;have Y3:=Sw (P:=l.prog) (w:=w) (base:=base) D4 IN L7 IM L6 vN vS;have pq:=Su (P:=l.prog) (w:=w) (base:=base) D5 Iz;have qw:=A8 (P:=l.prog) (w:=w) (base:=base) D6 O2;have Z_:=SC (P:=l.prog) (w:=w) (base:=base) D7 II O_;have tu:=SD (P:=l.prog) (w:=w) (base:=base) D8 Ly vN vS kD kZ OE qw Z_ Y3;have Zy:=S5 (P:=l.prog) (w:=w) (base:=base) D9 vN vS pq;have Ii:=SQ (P:=l.prog) (w:=w) (base:=base) D10 kC YO qu jy qt jx Jv EF Zs Xu Zr Xt;have Y1:=SN (P:=l.prog) (w:=w) (base:=base) D11 qD qu jy Zs Xu;have Ie:=SJ (P:=l.prog) (w:=w) (base:=base) D12 qD qt jx Zr Xt;have Id:=SH (P:=l.prog) (w:=w) (base:=base) D13 yg kD kZ pq Y3;have I_:=Sz (P:=l.prog) (w:=w) (base:=base) D14 Yi vN vS Zy Ii Z_ Id Y1 qw tu;have Y0:=SL (P:=l.prog) (w:=w) (base:=base) D15 ;have Ig:=SK (P:=l.prog) (w:=w) (base:=base) D16 IJ L1;have py:=S_ (P:=l.prog) (w:=w) (base:=base) D17 Y0;have Ij:=SR (P:=l.prog) (w:=w) (base:=base) D18 Y0;have O1:=A3 (P:=l.prog) (w:=w) (base:=base) D19 Ij py Ig;have Iw:=So (P:=l.prog) (w:=w) (base:=base) D20 yg XS Xp;have Ix:=Sq (P:=l.prog) (w:=w) (base:=base) D21 jD Yh jC uG Iw;have Ik:=SU (P:=l.prog) (w:=w) (base:=base) D22 uG yg Ix;have IY:=S7 (P:=l.prog) (w:=w) (base:=base) D23 yg Zu YQ Y4;have TM:=A4 (P:=l.prog) (w:=w) (base:=base) D24 yg vN vS I_ Zy Ie IY Y1 Y4 pq;have Y6:=A7 (P:=l.prog) (w:=w) (base:=base) D25 TM;have IX:=S4 (P:=l.prog) (w:=w) (base:=base) D26 Yg;have Y7:=AA (P:=l.prog) (w:=w) (base:=base) D27 yg Y6 IX;have O0:=A2 (P:=l.prog) (w:=w) (base:=base) D28 Y7 Y6;have TK:=Sy (P:=l.prog) (w:=w) (base:=base) D29 yg uG O0 Ik;have IW:=S0 (P:=l.prog) (w:=w) (base:=base) D30 jC wg yg py;have Ih:=SM (P:=l.prog) (w:=w) (base:=base) D31 IL L5 IK L4;have Zz:=S6 (P:=l.prog) (w:=w) (base:=base) D32 uG IW O1;have TH:=Ss (P:=l.prog) (w:=w) (base:=base) D33 jC wg yg Zz Ih;have IZ:=S8 (P:=l.prog) (w:=w) (base:=base) D34 jD TH;have O3:=AB (P:=l.prog) (w:=w) (base:=base) D35 kC YO tu;have Iy:=Sr (P:=l.prog) (w:=w) (base:=base) D36 vN vS qu jy qw Y5 tu;have Ic:=S9 (P:=l.prog) (w:=w) (base:=base) D37 Zu YQ qt jx Y5 tu;have O4:=AC (P:=l.prog) (w:=w) (base:=base) D38 uG IZ Zz py O3 Ic Iy;have pp:=SY (P:=l.prog) (w:=w) (base:=base) D39 yg;have uY:=Sc (P:=l.prog) (w:=w) (base:=base) D40 ;have TC:=Sd (P:=l.prog) (w:=w) (base:=base) D41 wg uY;have Ir:=Sh (P:=l.prog) (w:=w) (base:=base) D42 ;have Ip:=Se (P:=l.prog) (w:=w) (base:=base) D43 Yg Lw;have Iv:=Sj (P:=l.prog) (w:=w) (base:=base) D44 wg yg pp uY Ip Ir;have Y2:=Sa (P:=l.prog) (w:=w) (base:=base) D45 wg yg;have Io:=Sb (P:=l.prog) (w:=w) (base:=base) D46 ;have Im:=SZ (P:=l.prog) (w:=w) (base:=base) D47 wg yg Y2 uY TC;have Il:=SX (P:=l.prog) (w:=w) (base:=base) D48 Io pp Iv Im;have TF:=Sg (P:=l.prog) (w:=w) (base:=base) D49 ;have Iu:=Si (P:=l.prog) (w:=w) (base:=base) D50 Z5 qD Yi Lu Lv Lx;have Iq:=Sf (P:=l.prog) (w:=w) (base:=base) D51 jD Yh wg yg Y2 TF;exact SV F52 qD Il Iq O4 TK Y7 Iu
theorem walk{l:W.OpenLaw}{q:Program}{loose:List Str}{XP:(Str->Option Value)->Heap->Prop}{YP:World->Heap->Prop}{d:DefRec}{K:Params->W.Frag}(hn:l.most=some 63)(hdf:d.params.defaults=[])
  (hY:∀(w:World)(h:Heap),YP w h->(K w.params).In h)
  (F:∀(w:World)(mg:Str->Option Value)(fa:Addr)(h:Heap),(K w.params).In h->h.Ns mainGlobals mg->mg d.name=some (.ref fa)->
   ∃fd:FuncData,(∀(s:Shared)(u:Value),BindsTo s fd ⟨[u],[]⟩ [("_law_script",u)])/\∀base:Heap,(K w.params).In base->base.Ns mainGlobals mg->qL l.prog w (K w.params) mg base tQ 10 fa fd ["_law_script"] (V3 (K w.params))) :
  W.WalkO q loose XP YP l.row.toRowW d [] (λf vs=>PySem.call f vs):=
 L3.walkB (n:=63) (k:=10) (x := "_law_script") (sp:=V3) hn (by decide) hdf ⟨rfl,by decide,by decide⟩ hY F λ_ _ a ns hl hb hS=>⟨a,ns,rfl,hS,hl,hb,λ_=>rfl⟩
end My
namespace PySem.W.Fast
def tw9920655750282801303:=0
def tw3017566061154396867:=0
def tw17269072526798339547:=0
def tw3635052156177200737:=0
def tw11234308789197717566:=0
def tw9148881562127535215:=0
def tw2401989356974460844:=0
def tw17562312439136227535:=0
def tw18117561518421360252:=0
def tw4416977218952079278:=0
def tw3438891045777006111:=0
def tw18373398185577384530:=0
def tw6338954851339873641:=0
def tw2179448137460435647:=0
def tw1288826375024418413:=0
def tw15603788086292955631:=0
def tw5481347012234789800:=0
def tw865659315662761783:=0
def tw17173639330949019652:=0
def tw11374771683865912620:=0
def tw10990677617811122401:=0
def tw8824411379442721191:=0
def tw17475916369196448410:=0
def tw6394545142163729944:=0
def tw1084642676483345058:=0
def tw6457612931609527357:=0
def tw3150248163997463582:=0
def tw7382433105000628546:=0
def tw7870964796667351251:=0
def tw12225374425898243224:=0
def tw2672290473814080568:=0
def tw16994914647299285145:=0
def tw2241677903473470964:=0
def tw5022114822472588023:=0
def tw3736211579607702103:=0
def tw16883746273955766484:=0
def tw13272373624102915685:=0
def tw17067943021386510598:=0
def tw12149113467213568571:=0
def tw6878850305085501631:=0
def tw5510689589847767039:=0
def tw11292713910745089086:=0
def tw8557938320407909000:=0
def tw42039037100917192:=0
def tw14843812833205078060:=0
def tw429751407444533876:=0
def tw4058109416599985786:=0
def tw18366927463345273955:=0
def tw5560854924327565162:=0
def tw16656338143525462542:=0
def tw9399471509398562694:=0
def tw16552327193543223775:=0
def tw7972530553700496762:=0
def tw5662080062929476814:=0
def tw345464276858456864:=0
def tw6702292121079856702:=0
def tw13058412372936621018:=0
def tw3724542417435696054:=0
def tw2077325026809355104:=0
def tw4026467287824357198:=0
def tw3353889283072259536:=0
def tw8073967131904816635:=0
def tw8347248553385111553:=0
def tw12109293915626424068:=0
def tw6627599151094939784:=0
def tw3213767596853154383:=0
def tw9938380577804699570:=0
def tw12710631620611503887:=0
def tw6357619117947171557:=0
def tw12589673038044650075:=0
def tw4441479379393236389:=0
def tw18153764818938366730:=0
def tw7850630936728410128:=0
def tw9789250673187173713:=0
def tw9281829146402388379:=0
def tw4076397395834812181:=0
def tw4354944420358806193:=0
def tw13411095164736286203:=0
def tw4720405161893016823:=0
def tw14557007718518395802:=0
def tw11660828332667013806:=0
def tw146812828304095374:=0
def tw2882119184991109117:=0
def tw17158410590368632726:=0
def tw4874812777134989253:=0
def tw18391166588073553434:=0
def tw11165906821265680157:=0
def tw10016706644409421495:=0
def tw5719040479827612726:=0
def tw6589929564242930252:=0
def tw11487867042655162260:=0
def tw846847592072056450:=0
def tw16210289193207882651:=0
def tw2762997696365271968:=0
def tw11600760528193396561:=0
def tw6993191345316516682:=0
def tw18181948935578185767:=0
def tw17803755871437894039:=0
def tw11977505589201299791:=0
def tw608535868561691039:=0
def tw12118285956767341893:=0
def tw4912986772436096167:=0
def tw14654622416516838560:=0
def tw8768090406862965908:=0
def tw11496925154211324243:=0
def tw15196531624428398136:=0
def tw11333409287100632131:=0
def tw7925190607585851541:=0
def tw15118601269839953396:=0
def tw6048348543314419145:=0
def tw3717104767283627897:=0
def tw3051936277583914264:=0
def tw1917361580575577604:=0
def tw5367154596364343008:=0
def tw6762911430808488947:=0
def tw5352779276967767779:=0
def tw15179201648500665385:=0
def tw8781005202605870364:=0
def tw190757996863842792:=0
def tw1244226072994190975:=0
def tw9809908220318268430:=0
def tw7229705228111572870:=0
end PySem.W.Fast
open PySem PySem.W PyProof.Rows
set_option maxRecDepth 100000 in
set_option maxHeartbeats 0 in
theorem PySem.Challenge.cw_markrun_k30_whole_read_back_holds : PySem.Challenge.rw_markrun_k30_whole_read_back.Holds := by
 w_on; o_law; k_head; (case hw=>w_witness2)
 k_fill
 refine My.walk (l:=PySem.Challenge.rw_markrun_k30_whole_read_back) rfl rfl (λw h Y=>PySem.W.kIn_of Y) ?F
 case F=>
  intro w mg fa h KX G hmg;refine' My.all_mk KX G hmg ?a0 ?l0 ?c0 ?k0 ?a1 ?l1 ?c1 ?k1 ?a2 ?l2 ?c2 ?k2 ?a3 ?l3 ?c3 ?k3 ?a4 ?l4 ?c4 ?k4 ?a5 ?l5 ?c5 ?k5 ?a6 ?l6 ?c6 ?k6 ?a7 ?l7 ?c7 ?k7 ?a8 ?l8 ?c8 ?k8 ?a9 ?l9 ?c9 ?k9 ?a10 ?l10 ?c10 ?k10 ?a11 ?l11 ?c11 ?k11 ?a12 ?l12 ?c12 ?k12 ?a13 ?l13 ?c13 ?k13 ?a14 ?l14 ?c14 ?k14 ?a15 ?l15 ?c15 ?k15 ?a16 ?l16 ?c16 ?k16 ?a17 ?l17 ?c17 ?k17 ?a18 ?l18 ?c18 ?k18 ?a19 ?l19 ?c19 ?k19 ?a20 ?l20 ?c20 ?k20 ?a21 ?l21 ?c21 ?k21 ?a22 ?l22 ?c22 ?k22 ?a23 ?l23 ?c23 ?k23 ?a24 ?l24 ?c24 ?k24 ?a25 ?l25 ?c25 ?k25 ?a26 ?l26 ?c26 ?k26 ?a27 ?l27 ?c27 ?k27 ?a28 ?l28 ?c28 ?k28 ?a29 ?l29 ?c29 ?k29 ?a30 ?l30 ?c30 ?k30 ?a31 ?l31 ?c31 ?k31 ?a32 ?l32 ?c32 ?k32 ?a33 ?l33 ?c33 ?k33 ?a34 ?l34 ?c34 ?k34 ?a35 ?l35 ?c35 ?k35 ?a36 ?l36 ?c36 ?k36 ?a37 ?l37 ?c37 ?k37 ?a38 ?l38 ?c38 ?k38 ?a39 ?l39 ?c39 ?k39 ?a40 ?l40 ?c40 ?k40 ?a41 ?l41 ?c41 ?k41 ?a42 ?l42 ?c42 ?k42 ?a43 ?l43 ?c43 ?k43 ?a44 ?l44 ?c44 ?k44 ?a45 ?l45 ?c45 ?k45 ?a46 ?l46 ?c46 ?k46 ?a47 ?l47 ?c47 ?k47 ?a48 ?l48 ?c48 ?k48 ?a49 ?l49 ?c49 ?k49 ?a50 ?l50 ?c50 ?k50 ?a51 ?l51 ?c51 ?k51 ?a52 ?l52 ?c52 ?k52 ?CP ?CH ?CG ?CO ?CM ?CL ?CB ?CC ?CI ?CK ?CJ ?CF ?CA ?CD ?CN ?FP ?Fa ?Fe ?FN ?FQ ?Fh ?Fv ?Fz ?C0 ?C2 ?Fb ?Ff ?FC ?Fg ?Fu ?Fy ?F_ ?C1 ?C3 ?C4 ?C5 ?C6 ?C7 ?Fi ?Fj ?Fk ?Fm ?Fn ?Fo ?Fp ?Fq ?Fr ?Ft ?Fw ?Fx ?FZ ?Fd ?FI ?Of ?D_ ?Oc ?Oh ?FK ?Og ?Oj ?FB ?Od ?Oi ?FD ?Oe ?FH ?FU ?FM ?FJ
  all_goals try (first|k_is|k_exc|kit_is|kts_exm)
  all_goals decide
