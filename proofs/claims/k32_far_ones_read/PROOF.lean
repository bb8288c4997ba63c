import PyProof.Rows.All
import Wide.All
import OpenK.AllK
import Wide.FinOn
import Lean
import PyProof.EqAt
import PyProof.EqKinds
import PyProof.TupleCall
import PySem.Challenge.RW_markrun_k32_far_ones_read
set_option Elab.async false
set_option linter.all false
set_option maxRecDepth 100000
def ZZ:=@PySem.Around.under_plainId
def gi:=@Array.getElem?_eq_getElem
def Ve:=@Array.getElem?_eq_none
def Vf:=@Array.getElem?_toList
def Vg:=@Array.getElem_toList
def wp:=@Array.length_toList
def K9:=@Array.toArray_toList
def KA:=@Array.toList_append
def xL:=@Bool.and_eq_true
def JV:=@Bool.and_false
def B6:=@Bool.and_true
def Vh:=@Bool.eq_iff_iff
def pR:=@Bool.false_and
def jT:=@Bool.false_eq_true
def xG:=@Bool.false_ne_true
def JW:=@Bool.false_or
def B7:=@Bool.not_true
def JX:=@Bool.or_false
def pS:=@Bool.true_and
def KB:=@PySem.Calls.Name_function_global
def JY:=@PySem.Calls.callWith_builtin
def KC:=@PySem.F.args_tuple_iterator_next_1
def gj:=@PySem.F.called_set
def KD:=@PySem.F.entry_tuple_iterator_next
def B8:=@PyProof.Rows.F.plain_set_update_loop
def B9:=@PySem.F.slot_list_getattribute
def JZ:=@PySem.F.slot_tuple_iterator_next
def Ja:=@PySem.F.slot_zip_next
def X5:=@Int.add_zero
def Vi:=@Int.ediv_one
def KE:=@Int.emod_lt_of_pos
def BA:=@Int.eq_ofNat_of_zero_le
def KF:=@Int.fdiv_eq_ediv_of_nonneg
def Vj:=@Int.le_of_lt
def Jb:=@Int.le_refl
def BB:=@Int.le_trans
def KG:=@Int.mul_ediv_add_emod
def KH:=@Int.mul_emod_right
def Jc:=@Int.mul_one
def Vk:=@Int.natCast_nonneg
def BC:=@Int.ne_of_gt
def BD:=@Int.ofNat_zero
def BE:=@Int.one_mul
def xB:=@Int.toNat_natCast
def BF:=@List.Pairwise.map
def Jd:=@List.Perm.of_eq
def pT:=@List.Perm.refl
def vA:=@List.all_cons
def vB:=@List.all_eq_true
def X6:=@List.any_cons
def jU:=@List.any_eq_true
def gk:=@List.append_assoc
def vC:=@List.append_nil
def Za:=@List.cons.injEq
def jV:=@List.cons_append
def BH:=@List.drop_eq_getElem_cons
def BI:=@List.drop_eq_nil_of_le
def X7:=@List.ext_getElem?
def BJ:=@List.filterMap_cons
def qS:=@List.filter_append
def jW:=@List.filter_cons_of_neg
def qm:=@List.filter_cons_of_pos
def BK:=@List.filter_eq_self
def KJ:=@List.filter_filter
def Je:=@List.filter_map
def BL:=@List.filter_nil
def BM:=@List.filter_sublist
def X8:=@List.find?_cons
def Zb:=@List.foldl_cons
def BN:=@List.forIn_cons
def wP:=@List.getD_eq_getElem?_getD
def Zc:=@List.getElem?_append_left
def BO:=@List.getElem?_append_right
def yF:=@List.getElem?_eq_getElem
def uT:=@List.getElem?_eq_none
def KL:=@List.getElem?_eq_none_iff
def yx:=@List.getElem?_eq_some_iff
def xH:=@List.getElem?_map
def qo:=@List.getElem?_range
def KM:=@List.getElem?_replicate
def Jf:=@List.getElem?_set
def KO:=@List.getElem?_set_ne
def KP:=@List.getElem?_set_self
def Jg:=@List.getElem?_toArray
def Jh:=@List.getElem?_zipWith
def KQ:=@List.getElem_idxOf
def vq:=@List.getElem_mem
def X9:=@List.getElem_of_mem
def KR:=@List.idxOf_lt_length_of_mem
def ya:=@List.length_append
def xf:=@List.length_cons
def Zd:=@List.length_drop
def KS:=@List.length_eraseIdx
def KU:=@List.length_filterMap_le
def KW:=@List.length_filter_le
def zr:=@List.length_map
def jX:=@List.length_nil
def KY:=@List.length_pos_iff
def vD:=@List.length_range
def gl:=@List.length_replicate
def gm:=@List.length_set
def Vl:=@List.length_singleton
def jY:=@List.length_take
def tQ:=@List.length_zip
def gt:=@List.length_zipWith
def BP:=@List.lookup_cons
def tR:=@List.map_append
def KZ:=@List.map_congr_left
def xw:=@List.map_cons
def gu:=@List.map_id
def vc:=@List.map_map
def gx:=@List.map_nil
def u9:=@List.mem_append
def BQ:=@List.mem_append_left
def ut:=@List.mem_append_right
def yV:=@List.mem_cons
def wZ:=@List.mem_cons_of_mem
def xP:=@List.mem_cons_self
def vL:=@List.mem_filter
def Ji:=@List.mem_filterMap
def xQ:=@List.mem_map
def qT:=@List.mem_of_getElem?
def vd:=@List.mem_range
def w_:=@List.mem_singleton
def gy:=@List.nil_append
def Vm:=@List.nodup_cons
def Jj:=@List.nodup_nil
def BR:=@List.nodup_range
def wb:=@List.not_mem_nil
def BS:=@List.of_mem_zip
def Ze:=@List.pairwise_cons
def BT:=@List.pairwise_iff_getElem
def BU:=@List.pairwise_lt_range
def K8:=@List.range_eq_range'
def Zf:=@List.range_succ
def Kb:=@List.replicate_zero
def Kc:=@List.set_append_right
def yg:=@List.size_toArray
def BV:=@List.sum_cons
def Jk:=@List.take_length
def BW:=@List.take_of_length_le
def BX:=@List.take_succ_eq_append_getElem
def gz:=@List.zipWith_cons_cons
def Zg:=@List.zipWith_nil_left
def Vn:=@List.zip_cons_cons
def Kd:=@Nat.add_le_add_left
def Ke:=@Nat.eq_of_testBit_eq
def g_:=@Nat.le_add_right
def jZ:=@Nat.le_of_lt
def zt:=@Nat.le_refl
def Vo:=@Nat.le_succ
def xj:=@Nat.le_trans
def wQ:=@Nat.lt_irrefl
def BY:=@Nat.lt_of_le_of_lt
def wE:=@Nat.lt_of_lt_of_le
def Vp:=@Nat.lt_succ_of_lt
def Zh:=@Nat.lt_succ_self
def Jl:=@Nat.lt_trans
def tS:=@Nat.min_self
def uU:=@Nat.ne_of_gt
def wA:=@Nat.ne_of_lt
def BZ:=@Nat.not_lt
def Kf:=@Nat.not_succ_le_self
def Ba:=@Nat.sub_add_cancel
def Kg:=@Nat.testBit_div_two_pow
def Kh:=@Nat.testBit_mod_two_pow
def Bb:=@Nat.testBit_mul_two_pow
def xT:=@Nat.zero_add
def uu:=@Nat.zero_le
def tT:=@Ne.symm
def Jm:=@PySem.Obj.data_mapFields
def Ki:=@Option.isSome_iff_exists
def Bc:=@Option.isSome_map
def Kj:=@Option.map_eq_some_iff
def vM:=@Option.some.inj
def vt:=@PySem.PassesOwn.never
def Kk:=@PyProof.Rows.bitAnd_pp
def Vq:=@PyProof.Rows.callWith_type1
def XA:=@PyProof.Rows.slot_tuple_getitem
def Bd:=@PySem.SeqAt.EqAt.same
def pU:=@Sum.inl.inj
def Jn:=@Sum.inr.inj
def XB:=@beq_eq_false_iff_ne
def Zi:=@beq_iff_eq
def ja:=@beq_self_eq_true
def Vr:=@PySem.call_meets
def pV:=@PySem.codeAny_builtin
def Be:=@PySem.codeAny_call_builtin
def Vs:=@PySem.codeAny_mono
def Jo:=@cond_true
def Jp:=@decide_eq_decide
def yh:=@decide_eq_false
def ye:=@decide_eq_true
def Kl:=@decide_eq_true_iff
def Vt:=@PySem.fits_of_scanBound
def Bf:=@PySem.gives_joinTail
def uV:=@if_false
def zS:=@if_neg
def zP:=@if_pos
def vv:=@if_true
def Bg:=@PySem.isSubtype_stop
def Bh:=@PySem.isSubtype_type
def Zj:=@not_or
def Km:=@of_decide_eq_false
def v3:=@of_decide_eq_true
def jb:=@PySem.plainId_quiet
def wR:=@PySem.sizeLine_eq
def Jq:=@PyProof.Rows.subscriptTail_builtinR
def Bi:=@PySem.tupleKind_room_in1
def Jr:=@PySem.typeIs_str
def Vu:=@PySem.wpAny_Call_Name_kw
def Bj:=@PySem.wpAny_Call_method0_late
def XC:=@PySem.wpAny_askSetting
def Js:=@PySem.wpAny_attempt
def zD:=@PySem.wpAny_bind
def Jt:=@PySem.wpAny_call
def pW:=@PySem.wpAny_callSpecial?_slot
def tU:=@PySem.wpAny_call_entry
def Ko:=@PySem.wpAny_comprehension_free
def Ju:=@PySem.wpAny_execs_nil
def uA:=@PySem.wpAny_field
def Bk:=@PySem.wpAny_fieldsOf
def Bl:=@PySem.wpAny_handled
def uW:=@PySem.wpAny_holding
def Jv:=@PySem.wpAny_isInstance
def Bm:=@PySem.wpAny_ite_split
def Zk:=@PySem.wpAny_letGo
def Kp:=@PySem.wpAny_letOwnedTupleGo_enum
def uB:=@PySem.wpAny_mono
def uv:=@PySem.wpAny_newObj_type
def Vv:=@PySem.wpAny_of_eq
def Vw:=@PySem.wpAny_onRaise
def Zl:=@PySem.wpAny_passesOwn
def zV:=@PySem.wpAny_pure
def Jw:=@PySem.wpAny_pyIter_dict
def Jx:=@PySem.wpAny_pyIter_enum
def Vx:=@PySem.wpAny_pyIter_list
def Bn:=@PySem.wpAny_pyNext_list_end
def Bo:=@PySem.wpAny_pyNext_list_item
def kA:=@PySem.wpAny_rule
def tV:=@PySem.wpAny_seqItems
def Vy:=@PySem.wpAny_setField
def XD:=@PySem.wpAny_setField_rec
def XE:=@PySem.wpAny_setState_of
def Jy:=@PySem.wpAny_standAt
def Zm:=@PySem.wpAny_truthy_bool
def XF:=@PySem.wpAny_tryCatch
def Jz:=@PySem.wpAny_typeNameOfWhole_keyiter
def J_:=@PySem.wpAny_typeNameOf_keyiter
def kB:=@PySem.wpAny_typeOf
def Vz:=@PySem.wpAny_updateSeq
def Bp:=@PySem.wpAny_updateSeq_pair
namespace L2
open PySem PySem.Spec PyProof.Rows
abbrev zM:=Sum Int Str
def vW:zM->Value->Bool
 |.inl k,v=>Value.isInt k v
 |.inr x,v=>Value.isStrOf x v
def SK(w:World):zM->Int
 |.inl k=>hashInt k
 |.inr x=>hashStr w x
theorem tD:∀{k:zM}{v:Value},vW k v=true->(∃i t,k=Sum.inl i/\v=Value.int i t)\/(∃x t,k=Sum.inr x/\v=Value.str x t)
 |.inl i,v,h=>by
  obtain⟨t,e⟩:=Value.isInt_shape (k:=i) (v:=v) h;exact .inl ⟨i,t,rfl,e⟩
 |.inr x,v,h=>by
  obtain⟨t,e⟩:=Value.isStrOf_shape (x:=x) (v:=v) h;exact .inr ⟨x,t,rfl,e⟩
theorem SL(i:Int)(t:Tok):vW (.inl i) (.int i t)=true:=by simp[vW,Value.isInt]
theorem SM(x:Str)(t:Tok):vW (.inr x) (.str x t)=true:=by simp[vW,Value.isStrOf]
theorem SN(a b:Int):decide ((Sum.inl a:zM)=Sum.inl b)=(a==b):=by
 by_cases e:a=b
 ·subst e; simp
 ·have h:¬ (Sum.inl a:zM)=Sum.inl b:=λq=>e (pU q)
  rw[yh h];exact(XB.mpr e).symm
theorem SU(a b:Str):decide ((Sum.inr a:zM)=Sum.inr b)=decide (a=b):=by
 by_cases e:a=b
 ·subst e; simp
 ·have h:¬ (Sum.inr a:zM)=Sum.inr b:=λq=>e (Jn q)
  rw[yh h,yh e]
theorem SQ(a:Int)(b:Str):decide ((Sum.inl a:zM)=Sum.inr b)=false:=yh (λq=>nomatch q)
theorem SR(a:Str)(b:Int):decide ((Sum.inr a:zM)=Sum.inl b)=false:=yh (λq=>nomatch q)
def yd(prog:Program)(w:World):PySem.KeyKind prog w zM where
 is:=vW
 hash:=SK w
 inj:=λv a b ha hb=>by
  rcases tD ha with⟨i,t,rfl,rfl⟩|⟨x,t,rfl,rfl⟩
  ·rcases tD hb with⟨j,u,rfl,e⟩|⟨y,u,rfl,e⟩
   ·injection e with e1 _; rw[e1]
   ·exact nomatch e
  ·rcases tD hb with⟨j,u,rfl,e⟩|⟨y,u,rfl,e⟩
   ·exact nomatch e
   ·injection e with e1 _; rw[e1]
 byValue:=λk v h=>by
  rcases tD h with⟨i,t,rfl,rfl⟩|⟨x,t,rfl,rfl⟩<;>rfl
 pyHash:=λhv h=>by
  rcases tD hv with⟨i,t,rfl,rfl⟩|⟨x,t,rfl,rfl⟩
  ·exact wpAny_pyHash_int h
  ·exact wpAny_pyHash_str h
 eqBool:=λhu hv h=>by
  rcases tD hu with⟨i,t,rfl,rfl⟩|⟨x,t,rfl,rfl⟩
  ·rcases tD hv with⟨j,u,rfl,rfl⟩|⟨y,u,rfl,rfl⟩
   ·rw[SN]at h; exact wpAny_eqBool_int h
   ·rw[SQ]at h; exact SeqAt.EqAt.int_str i t y u _ _ _ _ h
  ·rcases tD hv with⟨j,u,rfl,rfl⟩|⟨y,u,rfl,rfl⟩
   ·rw[SR]at h; exact SeqAt.EqAt.str_int x t j u _ _ _ _ h
   ·rw[SU]at h; exact wpAny_eqBool_str h
 «strs»:=λk x t v h=>by
  rcases tD h with⟨i,u,rfl,e⟩|⟨y,u,rfl,e⟩
  ·exact nomatch e
  ·injection e with e1 _
   subst e1;cases v<;>rfl
theorem Ss(prog:Program)(w:World)(i:Int)(t:Tok):(yd prog w).is (.inl i) (.int i t)=true:=SL i t
theorem Lb(prog:Program)(w:World)(x:Str)(t:Tok):(yd prog w).is (.inr x) (.str x t)=true:=SM x t
inductive V where
 |zE|bl (b:Bool)|int (i:Int)|str (x:Str)|byt (b:Array UInt8)|flt (b:UInt64)|ref (a:Addr)|ty (n:String)
 deriving DecidableEq
def z_:V->Value->Prop
 |.zE,u=>u=Value.none
 |.bl b,u=>u=Value.bool b
 |.int i,u=>∃t,u=Value.int i t
 |.str x,u=>∃t,u=Value.str x t
 |.byt b,u=>∃t,u=Value.bytes b t
 |.flt b,u=>∃t,u=Value.float b t
 |.ref a,u=>u=Value.ref a
 |.ty n,u=>u=Value.type n
abbrev zu:List V->List Value->Prop:=Paired z_
theorem zu.length{xs:List V}{us:List Value}(r:zu xs us):xs.length=us.length:=Paired.length r
theorem zu.get:∀{xs:List V}{us:List Value}{i:Nat}{x:V},zu xs us->xs[i]?=some x->∃u,us[i]?=some u/\z_ x u
 |_,_,_,_,.nil,e=>by simp at e
 |_,_,0,_,.cons r _,e=>by simp at e; subst e; exact⟨_,rfl,r⟩
 |_,_,i+1,x,.cons _ t,e=>by
  obtain⟨u,h1,h2⟩:=zu.get (i:=i) (x:=x) t (by simpa using e);exact⟨u,by simpa using h1,h2⟩
theorem zu.set{x:V}{u:Value}(r:z_ x u):∀{xs:List V}{us:List Value}(i:Nat),zu xs us->zu (xs.set i x) (us.set i u)
 |_,_,_,.nil=>.nil
 |_,_,0,.cons _ t=>.cons r t
 |_,_,i+1,.cons q t=>.cons q (zu.set r i t)
theorem zu.append:∀{xs ys:List V}{us ws:List Value},zu xs us->zu ys ws->zu (xs++ys) (us++ws)
 |_,_,_,_,.nil,s=>s
 |_,_,_,_,.cons r t,s=>.cons r (zu.append t s)
theorem zu.take:∀{xs:List V}{us:List Value}(n:Nat),zu xs us->zu (xs.take n) (us.take n)
 |_,_,0,_=>.nil
 |_,_,_+1,.nil=>.nil
 |_,_,n+1,.cons r t=>.cons r (zu.take n t)
theorem zu.drop:∀{xs:List V}{us:List Value}(n:Nat),zu xs us->zu (xs.drop n) (us.drop n)
 |_,_,0,r=>r
 |_,_,_+1,.nil=>.nil
 |_,_,n+1,.cons _ t=>zu.drop n t
def p4:Option V->Option Value->Prop
 |some v,some u=>z_ v u
 |none,none=>True
 |_,_=>False
def KV{κ:Type}:List (κ×V)->List (κ×Value)->Prop:=Paired λ(p:κ×V) (q:κ×Value)=>p.1=q.1/\z_ p.2 q.2
def kV:zM->V
 |.inl i=>.int i
 |.inr x=>.str x
inductive HO where
  |lst (xs:List V)
  |tup (xs:List V)
  |dK (kvs:List (zM×V))|dT (kvs:List (List zM×V))
  |set (S:Int->Bool) (n:Nat)
  |ins (C dx:Addr) (fs:List (Str×V))
  |own (x:Addr)
  |xd (fs:List (Str×V))
  |met (f x:Addr)
  |rng (lo hi:Int)
  |y1 (o:Obj) (u:HO)
  |tbl (ps:Array Value)
  |ext (φ:Heap->Prop)
abbrev Hp:=Addr->Option HO
def zb(H:Hp)(a:Addr)(o:HO):Hp:=λb=>if b=a then some o else H b
theorem yT{H:Hp}{a:Addr}{o:HO}:zb H a o a=some o:=by unfold zb; rw[zP rfl]
theorem zx{H:Hp}{a b:Addr}{o:HO}(h:b≠a):zb H a o b=H b:=by unfold zb; rw[zS h]
theorem AC{H:Hp}{a b:Addr}{o u:HO}(h:H a=some o)(h':H b=some u)(d:o≠u):a≠b:=by
 intro e; subst e; rw[h]at h'; exact d (vM h')
theorem uK{H:Hp}{a b:Addr}{o:HO}(h:H a=some o)(h':H b=none):a≠b:=by
 intro e; subst e; rw[h]at h'; cases h'
section
variable(P:Program)(w:World)
def xC(H:Hp)(h:Heap)(a:Addr):HO->Prop
 |.lst xs=>xs.length<=sizeLine/\∃(its:List Value) (n:Nat),zu xs its/\h.get? a=some { cls:=.type "list",data:=.seq its.toArray n }
 |.tup xs=>xs.length<=sizeLine/\∃its:List Value,zu xs its/\IsTup h a its.toArray
 |.dK kvs=>kvs.length<=sizeLine/\(a==sysModules)=false/\∃vs,KV kvs vs/\h.DictOf (yd P w) a vs
 |.dT kvs=>kvs.length<=sizeLine/\(a==sysModules)=false/\∃xs:List (List zM×Addr×Value),
   Paired (λ(p:List zM×V) (q:List zM×Addr×Value)=>p.1=q.1/\H q.2.1=some (.tup (p.1.map kV))/\z_ p.2 q.2.2) kvs xs/\
   ∃o es ep,h.get? a=some o/\o.ExactDict/\o.data=.dict es ep/\es.toList=xs.map (entryOfKey (tupleKind (yd P w)))/\(xs.map (·.1)).Nodup
 |.set S n=>h.SetOf (intKind P w) a S n
 |.ins C dx fs=>H dx=some (.own a)/\fs.length<=1000/\dx≠a/\h.get? a=some (W.instObj C dx)/\
   ∃mA,h.Ns1 dx mA/\(∀f,p4 (fs.lookup f) (mA f))/\PySem.Within mA (fs.map (·.1))
 |.own _=>∃o,h.get? a=some o
 |.xd fs=>∃mA,h.Ns1 a mA/\∀f,p4 (fs.lookup f) (mA f)
 |.rng lo hi=>∃t u v,h.get? a=some { cls:=.type "range",data:=.fields #[.int lo t,.int hi u,.int 1 v] }
 |.y1 o u=>h.get? a=some o/\xC H h a u
 |.tbl ps=>h.get? a=some { cls:=.none,data:=.fields ps }
 |.met f x=>h.get? a=some (W.methodObj (.ref f) (.ref x))
 |.ext φ=>φ h/\(∃o,h.get? a=some o)/\∀h1 h2:Heap,φ h1->(∀o,h1.get? a=some o->h2.get? a=some o)->φ h2
def xM(H:Hp)(h:Heap):Prop:=∀a o,H a=some o->xC P w H h a o
end
section
variable{P:Program}{w:World}{H H':Hp}{h h':Heap}{a:Addr}{o:HO}
theorem xC.lt(x:xC P w H h a o):a<h.objs.size:=by
 cases o with
 |lst xs=>obtain⟨_,_,_,_,e⟩:=x; exact Heap.lt_size e
 |tup xs=>obtain⟨_,_,_,p⟩:=x; exact p.lt
 |dK kvs=>obtain⟨_,_,_,_,o,_,_,e,_⟩:=x; exact Heap.lt_size e
 |dT kvs=>obtain⟨_,_,_,_,o,_,_,e,_⟩:=x; exact Heap.lt_size e
 |set S n=>obtain⟨o,_,_,_,e,_⟩:=x; exact Heap.lt_size e
 |ins C dx fs=>obtain⟨_,_,_,e,_⟩:=x; exact Heap.lt_size e
 |own y=>obtain⟨_,e⟩:=x; exact Heap.lt_size e
 |xd fs=>obtain⟨_,⟨_,_,_,e,_⟩,_⟩:=x; exact Heap.lt_size e
 |rng lo hi=>obtain⟨_,_,_,e⟩:=x; exact Heap.lt_size e
 |y1 ob u=>obtain⟨e,_⟩:=x; exact Heap.lt_size e
 |tbl ps=>exact Heap.lt_size (show h.get? a=some _ from x)
 |met f y=>exact Heap.lt_size (show h.get? a=some _ from x)
 |ext φ=>obtain⟨_,⟨_,e⟩,_⟩:=x; exact Heap.lt_size e
theorem Paired.IF{α β:Type}{F G:α->β->Prop}:∀{l₁:List α}{l₂:List β},Paired F l₁ l₂->(∀a b,F a b->G a b)->Paired G l₁ l₂
 |_,_,.nil,_=>.nil
 |_,_,.cons r t,f=>.cons (f _ _ r) (Paired.IF t f)
theorem xC.jc(x:xC P w H h a o)(k:∀b u,(b=a\/H b=some (.own a))->h.get? b=some u->h'.get? b=some u)
  (ho:∀b,H b=some (.own a)->H' b=some (.own a))(ht:∀b xs,H b=some (.tup xs)->H' b=some (.tup xs)):xC P w H' h' a o:=by
 induction o with
 |lst xs=>obtain⟨z,its,n,r,e⟩:=x; exact⟨z,its,n,r,k _ _ (.inl rfl) e⟩
 |tup xs=>obtain⟨z,its,r,ob,e,c⟩:=x; exact⟨z,its,r,ob,k _ _ (.inl rfl) e,c⟩
 |dK kvs=>obtain⟨z,y,vs,r,ob,es,ep,e,c⟩:=x; exact⟨z,y,vs,r,ob,es,ep,k _ _ (.inl rfl) e,c⟩
 |dT kvs=>
  obtain⟨z,y,xs,r,ob,es,ep,e,c⟩:=x;exact⟨z,y,xs,Paired.IF r λp q z=>⟨z.1,ht _ _ z.2.1,z.2.2⟩,ob,es,ep,k _ _ (.inl rfl) e,c⟩
 |set S n=>obtain⟨ob,es,ep,t,e,c⟩:=x; exact⟨ob,es,ep,t,k _ _ (.inl rfl) e,c⟩
 |ins C dx fs=>
  obtain⟨d,z,ne,e,mA,⟨od,es,ep,e2,c⟩,r⟩:=x;exact⟨ho _ d,z,ne,k _ _ (.inl rfl) e,mA,⟨od,es,ep,k _ _ (.inr d) e2,c⟩,r⟩
 |own y=>obtain⟨ob,e⟩:=x; exact⟨ob,k _ _ (.inl rfl) e⟩
 |xd fs=>obtain⟨mA,⟨od,es,ep,e,c⟩,r⟩:=x; exact⟨mA,⟨od,es,ep,k _ _ (.inl rfl) e,c⟩,r⟩
 |rng lo hi=>obtain⟨t,u,v,e⟩:=x; exact⟨t,u,v,k _ _ (.inl rfl) e⟩
 |y1 ob u ih=>obtain⟨e,q⟩:=x; exact⟨k _ _ (.inl rfl) e,ih q⟩
 |tbl ps=>
  have e:h.get? a=some { cls:=.none,data:=.fields ps }:=x;show h'.get? a=some { cls:=.none,data:=.fields ps };exact k a _ (.inl rfl) e
 |met f y=>
  have e:h.get? a=some (W.methodObj (.ref f) (.ref y)):=x;show h'.get? a=some (W.methodObj (.ref f) (.ref y));exact k a _ (.inl rfl) e
 |ext φ=>obtain⟨p,⟨o,e⟩,st⟩:=x; exact⟨st _ _ p λo q=>k _ _ (.inl rfl) q,⟨o,k _ _ (.inl rfl) e⟩,st⟩
theorem xM.lt(x:xM P w H h)(e:H a=some o):a<h.objs.size:=(x a o e).lt
theorem xM.fresh(x:xM P w H h)(e:h.objs.size<=a):H a=none:=by
 cases q:H a with
 |none=>rfl
 |some u=>exact absurd (wE (x.lt q) e) (wQ _)
theorem xM.kept(x:xM P w H h)(k:∀b u,h.get? b=some u->h'.get? b=some u):xM P w H h':=λa o e=>
 (x a o e).jc (λb u _ q=>k b u q) (λ_ q=>q) λ_ _ q=>q
theorem xM.laid(x:xM P w H h)(k:∀b u,h.get? b=some u->h'.get? b=some u)(hp:h.objs.size<=a)(new:xC P w (zb H a o) h' a o):xM P w (zb H a o) h':=λb u e=>by
 have hn:=x.fresh hp;by_cases hb:b=a
 ·subst hb; rw[yT]at e; cases e; exact new
 ·rw[zx hb]at e;exact(x b u e).jc (λc v _ q=>k c v q) (λc q=>by rw[zx (uK q hn)]; exact q) λc xs q=>by rw[zx (uK q hn)]; exact q
end
def Rd(H:Hp)(a:Addr)(u:HO):Prop:=H a=some u\/∃o,H a=some (.y1 o u)
theorem Rd.ok{P:Program}{w:World}{H:Hp}{h:Heap}{a:Addr}{u:HO}(r:Rd H a u)(x:xM P w H h):xC P w H h a u:=by
 rcases r with r|⟨o,r⟩
 ·exact x a u r
 ·obtain⟨_,q⟩:=x a _ r;exact q
def XR:Option HO->Prop
 |some (.lst _)=>True
 |some (.dK _)=>True
 |some (.dT _)=>True
 |some (.set _ _)=>True
 |some (.ins _ _ _)=>True
 |some (.ext _)=>True
 |_=>False
section
variable{P:Program}{w:World}{H:Hp}{h h':Heap}{x e:Addr}{o':HO}
theorem xM.write(ok:xM P w H h)(mu:XR (H x))(he:e=x\/H e=some (.own x))(k:∀b u,b≠e->h.get? b=some u->h'.get? b=some u)(heo:∃u,h'.get? e=some u)
  (new:xC P w (zb H x o') h' x o'):xM P w (zb H x o') h':=λb u q=>by
 have nown:∀c y,H c=some (.own y)->c≠x:=λc y r z=>by subst z; rw[r]at mu; exact mu
 have ntup:∀c xs,H c=some (.tup xs)->c≠x:=λc xs r z=>by subst z; rw[r]at mu; exact mu
 by_cases hb:b=x
 ·subst hb; rw[yT]at q; cases q; exact new
 ·rw[zx hb]at q;by_cases hbe:b=e
  ·have q':H b=some (.own x):=by
    rcases he with z|z
    ·exact absurd (hbe.trans z) hb
    ·rw[hbe]; exact z
   rw[q]at q'; cases q';obtain⟨v,hv⟩:=heo;exact⟨v,by rw[hbe]; exact hv⟩
  ·refine(ok b u q).jc (λc v hc r=>k c v ?_ r) (λc r=>by rw[zx (nown c b r)]; exact r) λc xs r=>by rw[zx (ntup c xs r)]; exact r
   rcases hc with rfl|hc
   ·exact hbe
   ·rintro rfl;rcases he with z|z
    ·exact nown c b hc z
    ·rw[hc]at z; cases z; exact hb rfl
end
structure Un(fs ex:List Addr)(H H':Hp)(h h':Heap):Prop where
 keep:∀b o,h.get? b=some o->H b=none->b ∉ fs->b ∉ ex->h'.get? b=some o
 slot:∀b o,h.get? b=some o->H b=none->b∈fs->b ∉ ex->∃sl,h'.get? b=some { o with slots:=sl }
 free:∀b o,h.get? b=some o->H b=none->b ∉ ex->H' b=none
 there:∀b o,h.get? b=some o->b ∉ ex->∃o',h'.get? b=some o'
 vw:∀b xs,H b=some (.tup xs)->H' b=some (.tup xs)
 ve:∀b o u,H b=some (.y1 o u)->H' b=some (.y1 o u)
 ua:∀b ps,H b=some (.tbl ps)->∃more,H' b=some (.tbl (ps++more))
section
variable{fs fs' ex ex':List Addr}{H H1 H2:Hp}{h h1 h2 h':Heap}{a x e:Addr}{o:HO}
theorem Un.any(u:Un fs ex H H1 h h1){b:Addr}{ob:Obj}(q:h.get? b=some ob)(n:H b=none)(hx:b ∉ ex):∃sl,h1.get? b=some { ob with slots:=sl }:=by
 by_cases hb:b∈fs
 ·exact u.slot b ob q n hb hx
 ·exact⟨ob.slots,u.keep b ob q n hb hx⟩
theorem Un.kept(k:∀b u,h.get? b=some u->h'.get? b=some u):Un fs ex H H h h':=
 ⟨λb ob q _ _ _=>k b ob q,λb ob q _ _ _=>⟨ob.slots,k b ob q⟩,λ_ _ _ n _=>n,λb ob q _=>⟨ob,k b ob q⟩,λ_ _ q=>q,λ_ _ _ q=>q,λ_ ps q=>⟨#[],by rw[q]; simp⟩⟩
theorem Un.refl:Un fs ex H H h h:=Un.kept λ_ _ q=>q
theorem Un.laid(k:∀b u,h.get? b=some u->h'.get? b=some u)(hp:h.objs.size<=a)(hn:H a=none):Un fs ex H (zb H a o) h h' where
 keep:=λb u q _ _ _=>k b u q
 slot:=λb u q _ _ _=>⟨u.slots,k b u q⟩
 free:=λb u q n _=>by rw[zx (wA (wE (Heap.lt_size q) hp))]; exact n
 there:=λb u q _=>⟨u,k b u q⟩
 vw:=λb xs q=>by rw[zx (uK q hn)]; exact q
 ve:=λb u xs q=>by rw[zx (uK q hn)]; exact q
 ua:=λb ps q=>⟨#[],by rw[zx (uK q hn),q]; simp⟩
theorem Un.write(mu:XR (H x))(he:e=x\/H e=some (.own x))(k:∀b u,b≠e->h.get? b=some u->h'.get? b=some u)(heo:∃u,h'.get? e=some u):Un fs ex H (zb H x o) h h':=by
 have hx:∀b,H b=none->b≠x:=λb n z=>by subst z; rw[n]at mu; exact mu
 have hb:∀b,H b=none->b≠e:=λb n z=>by
  subst z;rcases he with r|r
  ·exact hx b n r
  ·rw[n]at r; cases r
 have hm:∀b u,H b=some u->¬ XR (some u)->b≠x:=λb u q nm z=>by subst z; rw[q]at mu; exact nm mu
 refine⟨λb u q n _ _=>k b u (hb b n) q,λb u q n _ _=>⟨u.slots,k b u (hb b n) q⟩,λb u q n _=>by rw[zx (hx b n)]; exact n,λb u q _=>?_,
  λb xs q=>by rw[zx (hm b _ q λz=>z)]; exact q,λb u xs q=>by rw[zx (hm b _ q λz=>z)]; exact q,λb ps q=>⟨#[],by rw[zx (hm b _ q λz=>z),q]; simp⟩⟩
 by_cases hbe:b=e
 ·subst hbe; exact heo
 ·exact⟨u,k b u hbe q⟩
end
def JA(h:Heap)(H:Hp):List Addr:=(List.range h.objs.size).filter λa=>(H a).isSome
def jA(h:Heap)(H:Hp):Heap:=W.hideAll h (JA h H)
theorem RZ(h:Heap)(H:Hp):(jA h H).objs.size=h.objs.size:=W.hideAll_size _ _
theorem RY{h:Heap}{H:Hp}{b:Addr}{o:Obj}(e:h.get? b=some o)(n:H b=none):(jA h H).get? b=some o:=
 W.hideAll_get _ e λhm=>by
  have q:(H b).isSome=true:=(vL.mp hm).2;rw[n]at q; simp at q
theorem AY{h:Heap}{H:Hp}{b:Addr}{o:Obj}(e:(jA h H).get? b=some o):h.get? b=some o/\H b=none:=by
 have e':h.get? b=some o:=W.of_hideAll (JA h H) e;refine⟨e',?_⟩;cases q:H b with
 |none=>rfl
 |some x=>
  have hm:b∈JA h H:=vL.mpr ⟨vd.mpr (Heap.lt_size e'),by simp[q]⟩;have z:(jA h H).get? b=none:=W.hideAll_none (JA h H) hm;rw[z]at e; cases e
structure Mod(K:W.Frag)(mg:Str->Option Value)(base:Heap):Prop where
 ID:K.In base
 glob:base.Ns mainGlobals mg
 blt:∃mb,base.Ns builtinsNs mb/\∀x:Str,x ≠ "__name__" -> mb x=bootBuiltins x
 nolimit:base.NoLimit
structure Cx where
 prog:Program
 w:World
 K:W.Frag
 mg:Str->Option Value
 base:Heap
 A:Around
 N:List Str
 s₀:Shared
 H₀:Hp
 env:Env
 outer:List Env
 stack:List Env
 ex:List Addr
 fn:Str->Bool
 calm:Bool
 pn:List (Addr×Obj)
 xe:Value->Shared->Prop
def t8(l:List Env):List Addr:=l.filterMap (·.frame)
abbrev Cx.fs(X:Cx):List Addr:=t8 X.outer
def tu(sc:Scope)(x:Str):Prop:=sc.names.lookup x=some .local\/sc.names.lookup x=some .cell\/sc.names.lookup x=some .free
def q_(sc:Scope)(x:Str):Prop:=sc.names.lookup x=some .local\/sc.names.lookup x=some .cell
def K_(env:Env)(h:Heap)(m:Str->Option Value)(x:Str)(u:Value):Prop:=
 (env.kindOf x=some .local/\m x=some u)\/((env.kindOf x=some .cell\/env.kindOf x=some .free)/\∃c,env.cells.lookup x=some c/\h.IsCell c (some u))
structure Cx.Ok(X:Cx):Prop where
 mod:Mod X.K X.mg X.base
 kind:X.env.scope.kind=.function
 glob:X.env.globals=mainGlobals
 blt:X.env.builtins=builtinsNs
 above:X.s₀.heap.objs.size<=X.env.locals
 inj:∀x y c,X.env.cells.lookup x=some c->X.env.cells.lookup y=some c->x=y
 has:∀x,(X.env.kindOf x=some .cell\/X.env.kindOf x=some .free)->∃c,X.env.cells.lookup x=some c
 Zn:∀x c,X.fn x=true->X.env.cells.lookup x=some c->X.s₀.heap.objs.size<=c
 hd:X.calm=true->X.A.handled=none
 frames:X.A.frames=some X.stack
 XJ:X.stack=X.outer\/(X.stack=X.env::X.outer/\X.env.frame=some X.env.locals)
 XG:∀b∈X.ex,b≠X.env.locals/\∀x c,X.env.cells.lookup x=some c->c≠b
 bs:∀b o,X.base.get? b=some o->X.s₀.heap.get? b=some o/\X.H₀ b=none
 pX:X.base.objs.size<=X.s₀.heap.objs.size
 Zs:∀b o,X.base.get? b=some o->b ∉ X.ex
 Zo:∀b∈X.ex,b ∉ X.fs
 tW:X.s₀.heap.FunFrames X.base X.outer
 kE:∀b∈X.fs,X.H₀ b=none
structure Inv(X:Cx)(z6:List (Addr×Obj))(σ:List (Option V))(H:Hp)(s:Shared):Prop where
 ok:X.Ok
 os:s.os=X.s₀.os
 bare:AllBare s.gens
 base:Un X.fs X.ex X.H₀ H X.s₀.heap s.heap
 loc:∃m,s.heap.Ns X.env.locals m/\∀(i:Nat)(x:Str)(v:V),X.N[i]?=some x->σ[i]?=some (some v)->tu X.env.scope x->∃u,z_ v u/\K_ X.env s.heap m x u
 cell:∀x c,X.env.cells.lookup x=some c->∃v,s.heap.IsCell c v
 free:H X.env.locals=none
 uX:∀x c,X.env.cells.lookup x=some c->H c=none
 pin:∀p∈X.pn++z6,s.heap.get? p.1=some p.2/\H p.1=none/\p.1≠X.env.locals/\p.1 ∉ X.fs/\∀v,p.2.data≠.cell v
 zg:xM X.prog X.w H s.heap
 len:σ.length=X.N.length
section
variable{X:Cx}{z6:List (Addr×Obj)}{σ:List (Option V)}{H H':Hp}{s:Shared}{h':Heap}
theorem Cx.Ok.Kv(ok:X.Ok){b:Addr}{o:Obj}(e:X.base.get? b=some o):b ∉ X.fs:=λhb=>by
 have:=(ok.tW.mem hb).1;rw[e]at this; cases this
theorem Inv.bs(I:Inv X z6 σ H s):∀b o,X.base.get? b=some o->s.heap.get? b=some o/\H b=none:=λb o e=>
 ⟨I.base.keep b o (I.ok.bs b o e).1 (I.ok.bs b o e).2 (I.ok.Kv e) (I.ok.Zs b o e),I.base.free b o (I.ok.bs b o e).1 (I.ok.bs b o e).2 (I.ok.Zs b o e)⟩
theorem Inv.bk(I:Inv X z6 σ H s):∀b o,X.base.get? b=some o->s.heap.get? b=some o:=λb o e=>(I.bs b o e).1
theorem Inv.mod(I:Inv X z6 σ H s):Mod X.K X.mg X.base:=I.ok.mod
theorem Inv.uw(I:Inv X z6 σ H s):X.K.In s.heap:=I.ok.mod.ID.keeps I.bk
theorem Inv.lt(I:Inv X z6 σ H s):X.env.locals<s.heap.objs.size:=let ⟨_,hn,_⟩:=I.loc; hn.lt
theorem Inv.sz(I:Inv X z6 σ H s):X.s₀.heap.objs.size<=s.heap.objs.size:=xj I.ok.above (jZ I.lt)
theorem Inv.Bs(I:Inv X z6 σ H s){a:Addr}(h:s.heap.objs.size<=a):a ∉ X.fs:=λhb=>by
 obtain⟨_,o,ho,_⟩:=I.ok.tW.mem hb;exact absurd (wE (Heap.lt_size ho) (xj I.sz h)) (wQ _)
theorem Inv.kD(I:Inv X z6 σ H s):∀x c,X.env.cells.lookup x=some c->c≠X.env.locals:=λx c e z=>by
 obtain⟨v,o,ho,hd⟩:=I.cell x c e;obtain⟨m,⟨o',es,ep,ho',hd',_⟩,_⟩:=I.loc;rw[z,ho']at ho; cases ho; rw[hd']at hd; cases hd
theorem Inv.tW(I:Inv X z6 σ H s):s.heap.FunFrames X.base X.outer:=by
 have all:∀(l:List Env),(∀b∈t8 l,b∈X.fs)->X.s₀.heap.FunFrames X.base l->s.heap.FunFrames X.base l:=by
  intro l
  induction l with
  |nil=>intro _ _; trivial
  |cons env r ih=>
   intro hs hl;obtain⟨hk,⟨L,o,hf,hn,ho,hd⟩,hr⟩:=hl;have hL:L∈X.fs:=hs L (by unfold t8; rw[BJ,hf]; exact xP);obtain⟨sl,e⟩:=I.base.slot L o ho (I.ok.kE L hL) hL λz=>I.ok.Zo L z hL
   exact⟨hk,⟨L,_,hf,hn,e,hd⟩,ih (λb hb=>hs b (by unfold t8; rw[BJ,hf]; exact wZ _ hb)) hr⟩
 exact all X.outer (λ_ hb=>hb) I.ok.tW
theorem Inv.stack(I:Inv X z6 σ H s):s.heap.FunFrames X.base X.stack:=by
 rcases I.ok.XJ with e|⟨e,hf⟩
 ·rw[e]; exact I.tW
 ·rw[e];obtain⟨m,hn,_⟩:=I.loc;refine .cons (by rw[I.ok.kind]; decide) hf hn ?_ I.tW;exact Heap.get?_none_of_le (xj I.ok.pX I.ok.above)
theorem Inv.XL(I:Inv X z6 σ H s):∀b∈t8 X.stack,b∈X.env.locals::X.fs:=λb hb=>by
 rcases I.ok.XJ with e|⟨e,hf⟩
 ·rw[e]at hb; exact wZ _ hb
 ·rw[e]at hb;unfold t8 at hb;rw[BJ,hf]at hb;exact hb
theorem Inv.Bv(I:Inv X z6 σ H s):∀b∈t8 X.stack,H b=none:=λb hb=>by
 rcases yV.mp (I.XL b hb)with e|hb
 ·rw[e]; exact I.free
 ·obtain⟨_,o,ho,_⟩:=I.ok.tW.mem hb;exact I.base.free b o ho (I.ok.kE b hb) λz=>I.ok.Zo b z hb
theorem Inv.step{g':Array GenState}{t':Nat}{d':Drawn}{ch:List Addr}(I:Inv X z6 σ H s)
  (hch:∀b∈ch,(b∈X.ex\/X.s₀.heap.objs.size<=b)/\b≠X.env.locals/\(∀x c,X.env.cells.lookup x=some c->c≠b)/\∀p∈X.pn++z6,p.1≠b)
  (keep:∀b o,b≠X.env.locals->b ∉ X.fs->b ∉ ch->s.heap.get? b=some o->H b=none->h'.get? b=some o)
  (slot:∀b o,b≠X.env.locals->b∈X.fs->b ∉ ch->s.heap.get? b=some o->H b=none->∃sl,h'.get? b=some { o with slots:=sl })(free:∀b o,b ∉ ch->s.heap.get? b=some o->H b=none->H' b=none)
  (there:∀b o,b ∉ ch->s.heap.get? b=some o->∃o',h'.get? b=some o')
  (vw:∀b xs,H b=some (.tup xs)->H' b=some (.tup xs))(ve:∀b o u,H b=some (.y1 o u)->H' b=some (.y1 o u))(ua:∀b ps,H b=some (.tbl ps)->∃more,H' b=some (.tbl (ps++more)))
  (ns:∀m,s.heap.Ns X.env.locals m->h'.Ns X.env.locals m)(zg:xM X.prog X.w H' h')(hg:AllBare g') :
  Inv X z6 σ H' { s with heap:=h',gens:=g',drawn:=d',toks:=t' }:=by
 have neL:∀b o,X.s₀.heap.get? b=some o->b≠X.env.locals:=λb o e=>wA (wE (Heap.lt_size e) I.ok.above)
 have neC:∀b o,X.s₀.heap.get? b=some o->b ∉ X.ex->b ∉ ch:=λb o e hx hb=>by
  rcases(hch b hb).1 with z|z
  ·exact hx z
  ·exact absurd (wE (Heap.lt_size e) z) (wQ _)
 have cellK:∀x c,X.env.cells.lookup x=some c->∀v,s.heap.IsCell c v->h'.IsCell c v:=λx c e v ⟨o,ho,hd⟩=>by
  have nch:c ∉ ch:=λz=>(hch c z).2.2.1 x c e rfl
  by_cases hc:c∈X.fs
  ·obtain⟨sl,q⟩:=slot c o (I.kD x c e) hc nch ho (I.uX x c e);exact⟨_,q,hd⟩
  ·exact⟨o,keep c o (I.kD x c e) hc nch ho (I.uX x c e),hd⟩
 refine⟨I.ok,I.os,hg,⟨λb o e n hb hx=>?_,λb o e n hb hx=>?_,λb o e n hx=>?_,λb o e hx=>?_,λb xs e=>vw b xs (I.base.vw b xs e),λb o xs e=>ve b o xs (I.base.ve b o xs e),λb ps e=>?_⟩,?_,λx c e=>?_,?_,λx c e=>?_,λp hp=>?_,zg,I.len⟩
 ·exact keep b o (neL b o e) hb (neC b o e hx) (I.base.keep b o e n hb hx) (I.base.free b o e n hx)
 ·obtain⟨sl,e1⟩:=I.base.slot b o e n hb hx;obtain⟨sl',e2⟩:=slot b _ (neL b o e) hb (neC b o e hx) e1 (I.base.free b o e n hx);exact⟨sl',e2⟩
 ·obtain⟨o',e1⟩:=I.base.there b o e hx;exact free b o' (neC b o e hx) e1 (I.base.free b o e n hx)
 ·obtain⟨o',e1⟩:=I.base.there b o e hx;exact there b o' (neC b o e hx) e1
 ·obtain⟨m1,e1⟩:=I.base.ua b ps e;obtain⟨m2,e2⟩:=ua b _ e1;exact⟨m1++m2,by rw[e2,Array.append_assoc]⟩
 ·obtain⟨m,hn,hl⟩:=I.loc;refine⟨m,ns m hn,λi x v e1 e2 e3=>?_⟩;obtain⟨u,r,l⟩:=hl i x v e1 e2 e3;refine⟨u,r,?_⟩;rcases l with l|⟨k,c,e,z⟩
  ·exact .inl l
  ·exact .inr ⟨k,c,e,cellK x c e _ z⟩
 ·obtain⟨v,z⟩:=I.cell x c e;exact⟨v,cellK x c e v z⟩
 ·obtain⟨m,⟨o,_,_,ho,_⟩,_⟩:=I.loc;exact free _ o (λz=>(hch _ z).2.1 rfl) ho I.free
 ·obtain⟨v,o,ho,hd⟩:=I.cell x c e;exact free c o (λz=>(hch c z).2.2.1 x c e rfl) ho (I.uX x c e)
 ·obtain⟨e,n,ne,nf,d⟩:=I.pin p hp;have nch:p.1 ∉ ch:=λz=>(hch p.1 z).2.2.2 p hp rfl
  exact⟨keep p.1 p.2 ne nf nch e n,free p.1 p.2 nch e n,ne,nf,d⟩
theorem Inv.un{t':Nat}(I:Inv X z6 σ H s)(u:Un X.fs [] H H' s.heap h')(zg:xM X.prog X.w H' h'):Inv X z6 σ H' { s with heap:=h',toks:=t' }:=by
 obtain⟨m,⟨o,es,ep,ho,r⟩,_⟩:=id I.loc;obtain⟨sl,hL⟩:=u.any ho I.free (by simp)
 exact I.step (g':=s.gens) (d':=s.drawn) (ch:=[]) (λ_ z=>nomatch z) (λb o _ hb _ e n=>u.keep b o e n hb (by simp)) (λb o _ hb _ e n=>u.slot b o e n hb (by simp)) (λb o _ e n=>u.free b o e n (by simp)) (λb o _ e=>u.there b o e (by simp)) u.vw u.ve u.ua (λm' hm=>by
  obtain⟨o',es',ep',ho',r'⟩:=hm;rw[ho]at ho'; cases ho';exact⟨_,es',ep',hL,r'⟩) zg I.bare
theorem Inv.call{g':Array GenState}{t':Nat}{d':Drawn}{ch:List Addr}(I:Inv X z6 σ H s)(u:Un (t8 X.stack) ch H H' s.heap h')(zg:xM X.prog X.w H' h')(hg:AllBare g')
  (hch:∀b∈ch,(b∈X.ex\/X.s₀.heap.objs.size<=b)/\b≠X.env.locals/\(∀x c,X.env.cells.lookup x=some c->c≠b)/\∀p∈X.pn++z6,p.1≠b) :
  Inv X z6 σ H' { s with heap:=h',gens:=g',drawn:=d',toks:=t' }:=by
 obtain⟨m,⟨o,es,ep,ho,r⟩,_⟩:=id I.loc;obtain⟨sl,hL⟩:=u.any ho I.free λz=>(hch _ z).2.1 rfl
 exact I.step (ch:=ch) hch (λb o hL hb hc e n=>u.keep b o e n (λz=>(yV.mp (I.XL b z)).elim hL hb) hc) (λb o _ _ hc e n=>u.any e n hc) (λb o hc e n=>u.free b o e n hc) (λb o hc e=>u.there b o e hc) u.vw u.ve u.ua (λm' hm=>by
  obtain⟨o',es',ep',ho',r'⟩:=hm;rw[ho]at ho'; cases ho';exact⟨_,es',ep',hL,r'⟩) zg hg
theorem Inv.turned{t':Nat}{it:Addr}(I:Inv X z6 σ H s)(k:∀b o,b≠it->s.heap.get? b=some o->h'.get? b=some o)(hn:H it=none)(hL:it≠X.env.locals)
  (h1:it∈X.ex\/X.s₀.heap.objs.size<=it)(h2:∀x c,X.env.cells.lookup x=some c->c≠it)(h3:∀p∈X.pn++z6,p.1≠it):Inv X z6 σ H { s with heap:=h',toks:=t' }:=by
 have nit:∀b u,H b=some u->b≠it:=λb u e z=>by rw[z,hn]at e; cases e
 refine I.step (g':=s.gens) (d':=s.drawn) (ch:=[it]) (λb hb=>?_) (λb o _ _ hc e _=>k b o (λz=>hc (by simp[z])) e) (λb o _ _ hc e _=>⟨o.slots,k b o (λz=>hc (by simp[z])) e⟩) (λ_ _ _ _ n=>n)
  (λb o hc e=>⟨o,k b o (λz=>hc (by simp[z])) e⟩) (λ_ _ e=>e) (λ_ _ _ e=>e) (λb ps e=>⟨#[],by rw[e]; simp⟩) (λm hm=>?_) (λb u e=>?_) I.bare
 ·have e:b=it:=by simpa using hb
  subst e;exact⟨h1,hL,h2,h3⟩
 ·obtain⟨o,es,ep,ho,r⟩:=hm;exact⟨o,es,ep,k _ o (tT hL) ho,r⟩
 ·refine(I.zg b u e).jc (λc v hc q=>k c v ?_ q) (λ_ q=>q) λ_ _ q=>q
  rcases hc with z|z
  ·rw[z]; exact nit b u e
  ·exact nit c _ z
theorem Inv.tok(I:Inv X z6 σ H s)(t:Nat):Inv X z6 σ H { s with toks:=t }:=I.un (h':=s.heap) (t':=t) Un.refl I.zg
theorem Inv.kept{t':Nat}(I:Inv X z6 σ H s)(k:∀b u,s.heap.get? b=some u->h'.get? b=some u):Inv X z6 σ H { s with heap:=h',toks:=t' }:=I.un (Un.kept k) (I.zg.kept k)
theorem Inv.laid{a:Addr}{o:HO}{t':Nat}(I:Inv X z6 σ H s)(k:∀b u,s.heap.get? b=some u->h'.get? b=some u)(hp:s.heap.objs.size<=a)(new:xC X.prog X.w (zb H a o) h' a o) :
  Inv X z6 σ (zb H a o) { s with heap:=h',toks:=t' }:=I.un (Un.laid k hp (I.zg.fresh hp)) (I.zg.laid k hp new)
theorem Inv.write{x e:Addr}{o:HO}{t':Nat}(I:Inv X z6 σ H s)(mu:XR (H x))(he:e=x\/H e=some (.own x))(k:∀b u,b≠e->s.heap.get? b=some u->h'.get? b=some u)(heo:∃u,h'.get? e=some u)
  (new:xC X.prog X.w (zb H x o) h' x o):Inv X z6 σ (zb H x o) { s with heap:=h',toks:=t' }:=I.un (Un.write mu he k heo) (I.zg.write mu he k heo new)
theorem Inv.weak{σ':List (Option V)}(I:Inv X z6 σ H s)(hl:σ'.length=σ.length)(w:∀(i:Nat) v,σ'[i]?=some (some v)->σ[i]?=some (some v)):Inv X z6 σ' H s:=
 ⟨I.ok,I.os,I.bare,I.base,let ⟨m,hn,hl'⟩:=I.loc; ⟨m,hn,λi x v e1 e2 e3=>hl' i x v e1 (w i v e2) e3⟩,I.cell,I.free,I.uX,I.pin,I.zg,hl.trans I.len⟩
theorem Inv.XI{pins':List (Addr×Obj)}(I:Inv X z6 σ H s)(h:∀p∈pins',s.heap.get? p.1=some p.2/\H p.1=none/\p.1≠X.env.locals/\p.1 ∉ X.fs/\∀v,p.2.data≠.cell v):Inv X pins' σ H s:=
 ⟨I.ok,I.os,I.bare,I.base,I.loc,I.cell,I.free,I.uX,λp hp=>(u9.mp hp).elim (λz=>I.pin p (BQ _ z)) (h p),I.zg,I.len⟩
theorem Ci{N:List Str}(hN:N.Nodup){i j:Nat}{x:Str}(a:N[i]?=some x)(b:N[j]?=some x):i=j:=by
 obtain⟨h1,e1⟩:=yx.mp a;obtain⟨h2,e2⟩:=yx.mp b;exact(List.getElem_inj hN).mp (e1.trans e2.symm)
theorem HS{M:Model}{A:Around}{E:Value->Shared->Prop}{i:Nat}{x:Str}{v:V}{u:Value}{Q:Unit->Shared->Prop}(I:Inv X z6 σ H s)(hN:X.N.Nodup)(hi:X.N[i]?=some x)(hx:q_ X.env.scope x)(r:z_ v u)
  (h:∀s',Inv X z6 (σ.set i (some v)) H s'->(∃a,Heap.SameBut a s.heap s'.heap/\(a=X.env.locals\/X.env.cells.lookup x=some a))->Q () s')(hf:X.fn x=true\/X.env.scope.names.lookup x=some .local:=by first|exact .inl rfl|exact .inr rfl|assumption):wpAny M A (storeName X.env x u) Q E s:=by
 obtain⟨m,hn,hl⟩:=id I.loc;have hcls:(X.env.scope.kind == .class||(X.env.scope.kind == .module&&X.env.locals != X.env.globals))=false:=by rw[I.ok.kind]; rfl
 have hiσ:i<σ.length:=by rw[I.len]; exact(yx.mp hi).1
 have kD:=I.kD
 have tracked:∀{a:Addr}{h':Heap},(∃o,s.heap.get? a=some o/\H a=none)->Heap.SameBut a s.heap h'->xM X.prog X.w H h':=λ{a h'} ha hs b ob e=>by
  obtain⟨_,_,hfree⟩:=ha;refine(I.zg b ob e).jc (λc w' hc q=>(hs.2 c ?_).trans q) (λ_ q=>q) λ_ _ q=>q
  rintro rfl;rcases hc with rfl|hc
  ·rw[hfree]at e; cases e
  ·rw[hfree]at hc; cases hc
 rcases hx with hk|hk
 ·refine wpAny_storeName_local hk hn (λh' hn' hs=>?_) hcls;obtain⟨oL,_,_,hoL,_⟩:=id hn;refine h _ ⟨I.ok,I.os,I.bare,⟨λb o e n hb hx=>?_,λb o e n hb hx=>?_,I.base.free,λb o e hx=>?_,I.base.vw,I.base.ve,I.base.ua⟩,⟨_,hn',λj y v' e1 e2 e3=>?_⟩,λy c e=>?_,I.free,I.uX,λp hp=>?_,tracked ⟨oL,hoL,I.free⟩ hs,by simpa using I.len⟩ ⟨_,hs,.inl rfl⟩
  ·exact(hs.2 b (wA (wE (Heap.lt_size e) I.ok.above))).trans (I.base.keep b o e n hb hx)
  ·obtain⟨sl,e1⟩:=I.base.slot b o e n hb hx;exact⟨sl,(hs.2 b (wA (wE (Heap.lt_size e) I.ok.above))).trans e1⟩
  ·obtain⟨o',e1⟩:=I.base.there b o e hx;exact⟨o',(hs.2 b (wA (wE (Heap.lt_size e) I.ok.above))).trans e1⟩
  ·by_cases hj:j=i
   ·subst hj;rw[hi]at e1; cases e1;rw[KP hiσ]at e2;cases e2;exact⟨u,r,.inl ⟨hk,by simp⟩⟩
   ·rw[KO (tT hj)]at e2;obtain⟨u',r',q⟩:=hl j y v' e1 e2 e3;refine⟨u',r',?_⟩;rcases q with⟨k,e⟩|⟨k,c,e,z⟩
    ·refine .inl ⟨k,?_⟩;have:y≠x:=λe=>hj (Ci hN e1 (e▸hi))
     simp[this,e]
    ·exact .inr ⟨k,c,e,z.sameBut hs (kD y c e)⟩
  ·obtain⟨w',z⟩:=I.cell y c e;exact⟨w',z.sameBut hs (kD y c e)⟩
  ·obtain⟨e,n,ne,nf,d⟩:=I.pin p hp;exact⟨(hs.2 p.1 ne).trans e,n,ne,nf,d⟩
 ·have hfn:X.fn x=true:=by
   rcases hf with z|z
   ·exact z
   ·rw[z]at hk; cases hk
  obtain⟨c,hc⟩:=I.ok.has x (.inl hk);obtain⟨w',z⟩:=I.cell x c hc;refine wpAny_storeName_cell I.ok.kind hk hc z (λh' hc' hs=>?_);obtain⟨oc,hoc,hocd⟩:=id z;refine h { s with heap:=h' } ⟨I.ok,I.os,I.bare,⟨λb o e n hb hx=>?_,λb o e n hb hx=>?_,I.base.free,λb o e hx=>?_,I.base.vw,I.base.ve,I.base.ua⟩,⟨m,hn.sameBut hs (tT (kD x c hc)),λj y v' e1 e2 e3=>?_⟩,λy c' e=>?_,I.free,I.uX,λp hp=>?_,tracked ⟨oc,hoc,I.uX x c hc⟩ hs,by simpa using I.len⟩ ⟨c,hs,.inr hc⟩
  ·exact(hs.2 b (wA (wE (Heap.lt_size e) (I.ok.Zn x c hfn hc)))).trans (I.base.keep b o e n hb hx)
  ·obtain⟨sl,e1⟩:=I.base.slot b o e n hb hx;exact⟨sl,(hs.2 b (wA (wE (Heap.lt_size e) (I.ok.Zn x c hfn hc)))).trans e1⟩
  ·obtain⟨o',e1⟩:=I.base.there b o e hx;exact⟨o',(hs.2 b (wA (wE (Heap.lt_size e) (I.ok.Zn x c hfn hc)))).trans e1⟩
  ·by_cases hj:j=i
   ·subst hj;rw[hi]at e1; cases e1;rw[KP hiσ]at e2;cases e2;exact⟨u,r,.inr ⟨.inl hk,c,hc,hc'⟩⟩
   ·rw[KO (tT hj)]at e2;obtain⟨u',r',q⟩:=hl j y v' e1 e2 e3;refine⟨u',r',?_⟩;rcases q with q|⟨k,c',e,z'⟩
    ·exact .inl q
    ·refine .inr ⟨k,c',e,z'.sameBut hs ?_⟩;rintro rfl;exact hj (Ci hN e1 (I.ok.inj _ _ _ e hc▸hi))
  ·by_cases hcc:c'=c
   ·subst hcc; exact⟨_,hc'⟩
   ·obtain⟨w2,z2⟩:=I.cell y c' e;exact⟨w2,z2.sameBut hs hcc⟩
  ·obtain⟨e,n,ne,nf,d⟩:=I.pin p hp;refine⟨(hs.2 p.1 ?_).trans e,n,ne,nf,d⟩;intro q;rw[q,hoc]at e;have q':oc=p.2:=vM e;exact d w' (by rw[<-q']; exact hocd)
theorem Mf{M:Model}{A:Around}{E:Value->Shared->Prop}{i:Nat}{x:Str}{v:V}{u:Value}{Q:Unit->Shared->Prop}(I:Inv X z6 σ H s)(hN:X.N.Nodup)(hi:X.N[i]?=some x)(hx:q_ X.env.scope x)(r:z_ v u)
  (h:∀s',Inv X z6 (σ.set i (some v)) H s'->Q () s')(hf:X.fn x=true\/X.env.scope.names.lookup x=some .local:=by first|exact .inl rfl|exact .inr rfl|assumption):wpAny M A (storeName X.env x u) Q E s:=
 HS I hN hi hx r (λs' I' _=>h s' I') hf
theorem Inv.IA{s':Shared}{ch:List Addr}(I:Inv X z6 σ H s)(ho:s'.os=s.os)(u:Un (t8 X.stack) ch H H' s.heap s'.heap)(zg:xM X.prog X.w H' s'.heap)(hg:AllBare s'.gens)
  (hch:∀b∈ch,(b∈X.ex\/X.s₀.heap.objs.size<=b)/\b≠X.env.locals/\(∀x c,X.env.cells.lookup x=some c->c≠b)/\∀p∈X.pn++z6,p.1≠b):Inv X z6 σ H' s':=by
 obtain⟨h',g',d',t',o'⟩:=s';have e:o'=s.os:=ho;subst e;exact I.call (g':=g') (t':=t') (d':=d') u zg hg hch
end
abbrev XK:=Value->Option Addr->Hp->Prop
abbrev St:=List (Option V)
abbrev VK:=V->Hp->Prop
abbrev TE:=St->Hp->VK->Prop
abbrev TT:=St->Hp->(Bool->Hp->Prop)->Prop
abbrev TA:=St->Hp->(List V->Hp->Prop)->Prop
structure ub where
 nx:St->Hp->Prop
 rt:VK
 bk:St->Hp->Prop:=λ_ _=>False
 ct:St->Hp->Prop:=λ_ _=>False
abbrev TS:=ub->St->Hp->Prop
def EP(X:Cx)(z6:List (Addr×Obj))(σ:St)(Q:VK)(u:Value)(s':Shared):Prop:=∃v H',Inv X z6 σ H' s'/\z_ v u/\Q v H'
def TP(X:Cx)(z6:List (Addr×Obj))(σ:St)(Q:Bool->Hp->Prop)(b:Bool)(s':Shared):Prop:=∃H',Inv X z6 σ H' s'/\Q b H'
def AP(X:Cx)(z6:List (Addr×Obj))(σ:St)(Q:List V->Hp->Prop)(us:List Value)(s':Shared):Prop:=∃vs H',Inv X z6 σ H' s'/\zu vs us/\Q vs H'
def SP(X:Cx)(z6:List (Addr×Obj))(D:ub)(f:Flow)(s':Shared):Prop:=
 match f with
 |.next=>∃σ' H',Inv X z6 σ' H' s'/\D.nx σ' H'
 |.brk=>∃σ' H',Inv X z6 σ' H' s'/\D.bk σ' H'
 |.cont=>∃σ' H',Inv X z6 σ' H' s'/\D.ct σ' H'
 |.ret u=>∃v σ' H',Inv X z6 σ' H' s'/\z_ v u/\D.rt v H'
def PE(X:Cx)(e:Expr)(t:TE):Prop:=
 ∀(z6:List (Addr×Obj)) (s:Shared) (σ:St) (H:Hp) (Q:VK),Inv X z6 σ H s->t σ H Q->wpAny (model X.prog X.w) X.A (eval e X.env) (EP X z6 σ Q) X.xe s
def PT(X:Cx)(e:Expr)(t:TT):Prop:=
 ∀(z6:List (Addr×Obj)) (s:Shared) (σ:St) (H:Hp) (Q:Bool->Hp->Prop),Inv X z6 σ H s->t σ H Q->wpAny (model X.prog X.w) X.A (isTrue e X.env (eval e X.env)) (TP X z6 σ Q) X.xe s
def PW(X:Cx)(e:Expr)(t:TT):Prop:=
 ∀(whole:Sem Value)(z6:List (Addr×Obj)) (s:Shared) (σ:St) (H:Hp) (Q:Bool->Hp->Prop),Inv X z6 σ H s->t σ H Q->wpAny (model X.prog X.w) X.A (isTrue e X.env whole) (TP X z6 σ Q) X.xe s
theorem PW.pt{X:Cx}{e:Expr}{t:TT}(h:PW X e t):PT X e t:=h _
def PA(X:Cx)(es:List Expr)(t:TA):Prop:=
 ∀(pos:Pos)(z6:List (Addr×Obj)) (s:Shared) (σ:St) (H:Hp) (Q:List V->Hp->Prop),Inv X z6 σ H s->t σ H Q->wpAny (model X.prog X.w) X.A (spliced (backTo pos (starEach es X.env))) (AP X z6 σ Q) X.xe s
def PS(X:Cx)(st:Stmt)(t:TS):Prop:=
 ∀(z6:List (Addr×Obj)) (s:Shared) (σ:St) (H:Hp) (D:ub),Inv X z6 σ H s->t D σ H->wpAny (model X.prog X.w) X.A (exec st X.env) (SP X z6 D) X.xe s
def vx(X:Cx)(st:List Stmt)(t:TS):Prop:=
 ∀(z6:List (Addr×Obj)) (s:Shared) (σ:St) (H:Hp) (D:ub),Inv X z6 σ H s->t D σ H->wpAny (model X.prog X.w) X.A (execs st X.env) (SP X z6 D) X.xe s
theorem zo{α:Type}{t:Sem α}{Q Q':α->Shared->Prop}{M:Model}{A:Around}{E:Value->Shared->Prop}{s:Shared}(h:wpAny M A t Q E s)(hQ:∀a s,Q a s->Q' a s):wpAny M A t Q' E s:=uB h hQ λ_ _ x=>x
section
variable{X:Cx}
def jP(i:Nat):TE:=λσ H Q=>∃v,σ[i]?=some (some v)/\Q v H
def tC(v:V):TE:=λ_ H Q=>Q v H
theorem Yp{i:Nat}{x:Str}{pos:Pos}(hN:X.N[i]?=some x)(hv:tu X.env.scope x)(hd:(x==("__debug__" : Str))=false:=by decide)(hcd:(x==("__classdict__" : Str))=false:=by decide):PE X (.Name x pos) (jP i):=by
 intro z6 s σ H Q I h;obtain⟨v,e,h⟩:=h;obtain⟨m,hn,hl⟩:=I.loc;obtain⟨u,r,l⟩:=hl i x v hN e hv;have fin:EP X z6 σ Q u s:=⟨v,H,I,r,h⟩;rcases l with⟨hk,hm⟩|⟨hk,c,hc,hcell⟩
 ·exact wpAny_Name (wpAny_loadName_local I.ok.kind hk hn hm fin) hd
 ·rcases hk with hk|hk
  ·exact wpAny_Name (wpAny_loadName_cell I.ok.kind hk hc hcell fin) hd
  ·exact wpAny_Name (wpAny_loadName_free I.ok.kind hk hc hcell fin hcd) hd
theorem Eg{i j pos}:PE X (.Constant (.int i) j pos) (tC (.int i)):=λ_ _ _ H _ I h=>wpAny_Constant_int ⟨.int i,H,I.tok _,⟨_,rfl⟩,h⟩
theorem bL{b j pos}:PE X (.Constant (.bool b) j pos) (tC (.bl b)):=λ_ _ _ H _ I h=>Constant_bool ⟨.bl b,H,I,rfl,h⟩
theorem bY{j pos}:PE X (.Constant .none j pos) (tC .zE):=λ_ _ _ H _ I h=>Constant_none ⟨.zE,H,I,rfl,h⟩
theorem bf{x j pos}:PE X (.Constant (.str x) j pos) (tC (.str x)):=λ_ _ _ H _ I h=>Calls.Constant_str ⟨.str x,H,I.tok _,⟨_,rfl⟩,h⟩
def Gl(X:Cx)(x:Str):Prop:=X.env.kindOf x=some .globalImplicit
theorem LV{E:Value->Shared->Prop}{z6:List (Addr×Obj)}{s:Shared}{σ:St}{H:Hp}{x:Str}{u:Value}{pos:Pos}{Q:Value->Shared->Prop}(I:Inv X z6 σ H s)(hg:Gl X x)(hm:X.mg x=some u)(h:Q u s)
  (hd:(x==("__debug__" : Str))=false:=by decide):wpAny (model X.prog X.w) X.A (eval (.Name x pos) X.env) Q E s:=
 KB I.ok.kind hg (Calls.loadGlobal_global (by rw[I.ok.glob]; exact I.mod.glob.keeps I.bk) hm h) hd
theorem Z7{E:Value->Shared->Prop}{z6:List (Addr×Obj)}{s:Shared}{σ:St}{H:Hp}{x:Str}{u:Value}{pos:Pos}{Q:Value->Shared->Prop}(I:Inv X z6 σ H s)(hg:Gl X x)(hm:X.mg x=none)(hv:bootBuiltins x=some u)(h:Q u s)
  (hn:x ≠ "__name__" := by decide)(hd:(x==("__debug__" : Str))=false:=by decide):wpAny (model X.prog X.w) X.A (eval (.Name x pos) X.env) Q E s:=by
 obtain⟨mb,h1,h2⟩:=I.mod.blt;exact KB I.ok.kind hg (Calls.loadGlobal_builtin (by rw[I.ok.glob]; exact I.mod.glob.keeps I.bk) hm (by rw[I.ok.blt]; exact h1.keeps I.bk) ((h2 x hn).trans hv) h) hd
theorem bU{x:Str}{v:V}{u:Value}{pos:Pos}(hg:Gl X x)(hm:X.mg x=some u)(r:z_ v u)(hd:(x==("__debug__" : Str))=false:=by decide):PE X (.Name x pos) (tC v):=
 λ_ _ _ H _ I h=>LV I hg hm ⟨v,H,I,r,h⟩ hd
variable{a b:Expr}{ta tb:TE}{pos:Pos}
def tB(t:TE):TT:=λσ H Q=>t σ H λx H1=>∃c,x=.bl c/\Q c H1
theorem cq{e:Expr}{t:TE}(h:PE X e t)(he:∀whole,isTrue e X.env whole=(do let v <-whole; standAt e.pos; holding [v] (truthy v)):=by intro _; rfl):PT X e (tB t):=by
 intro z6 s σ H Q I hw;refine isTrue_plain (zo (h z6 s σ H _ I hw) λv s1 ⟨x,H1,I1,r1,q1⟩=>?_) (he _);obtain⟨d,rfl,q⟩:=q1;cases r1;exact Zm ⟨H1,I1,q⟩
variable{tA tB':TT}{rest:List Expr}
def lh(t u:TT):TT:=λσ H Q=>t σ H λc H1=>if c=true then u σ H1 Q else Q false H1
def mF(t u:TT):TT:=λσ H Q=>t σ H λc H1=>if c=true then Q true H1 else u σ H1 Q
def mE(t:TT):TT:=λσ H Q=>t σ H λc H1=>Q (!c) H1
theorem cw(ha:PT X a tA):PW X (.BoolOp .And [a] pos) tA:=by
 intro wh z6 s σ H Q I h;refine isTrue_and (zo (ha z6 s σ H Q I h) λc s1 e=>?_);cases c with
 |true=>exact isTrue_and_nil e
 |false=>exact e
theorem cy(ha:PT X a tA):PW X (.BoolOp .Or [a] pos) tA:=by
 intro wh z6 s σ H Q I h;refine isTrue_or (zo (ha z6 s σ H Q I h) λc s1 e=>?_);cases c with
 |false=>exact isTrue_or_nil e
 |true=>exact e
theorem cv(ha:PT X a tA)(hb:PW X (.BoolOp .And (b::rest) pos) tB'):PW X (.BoolOp .And (a::b::rest) pos) (lh tA tB'):=by
 intro wh z6 s σ H Q I h;refine isTrue_and (zo (ha z6 s σ H _ I h) λc s1 ⟨H1,I1,q1⟩=>?_);cases c with
 |true=>exact hb wh z6 s1 σ H1 Q I1 q1
 |false=>exact⟨H1,I1,q1⟩
theorem cx(ha:PT X a tA)(hb:PW X (.BoolOp .Or (b::rest) pos) tB'):PW X (.BoolOp .Or (a::b::rest) pos) (mF tA tB'):=by
 intro wh z6 s σ H Q I h;refine isTrue_or (zo (ha z6 s σ H _ I h) λc s1 ⟨H1,I1,q1⟩=>?_);cases c with
 |true=>exact⟨H1,I1,q1⟩
 |false=>exact hb wh z6 s1 σ H1 Q I1 q1
theorem cn(ha:PT X a tA):PT X (.UnaryOp .Not a pos) (mE tA):=by
 intro z6 s σ H Q I h;exact isTrue_not (ha z6 s σ H (λc H1=>Q (!c) H1) I h)
def lj(ta tb:TE):TE:=λσ H Q=>ta σ H λx H1=>∃c,x=.bl c/\if c=true then tb σ H1 Q else Q (.bl false) H1
def mG(ta tb:TE):TE:=λσ H Q=>ta σ H λx H1=>∃c,x=.bl c/\if c=true then Q (.bl true) H1 else tb σ H1 Q
theorem bZ{op}{t:TE}(h:PE X a t):PE X (.BoolOp op [a] pos) t:=λz6 s σ H Q I hw=>BoolOp_one (h z6 s σ H Q I hw)
theorem bK(ha:PE X a ta)(hb:PE X (.BoolOp .And (b::rest) pos) tb):PE X (.BoolOp .And (a::b::rest) pos) (lj ta tb):=by
 intro z6 s σ H Q I h;refine BoolOp_and (zo (ha z6 s σ H _ I h) λv s1 ⟨x,H1,I1,r1,q1⟩=>?_);obtain⟨c,rfl,q1⟩:=q1;cases r1;refine Zm ?_;cases c with
 |true=>exact hb z6 s1 σ H1 Q I1 q1
 |false=>exact⟨.bl false,H1,I1,rfl,q1⟩
theorem ba(ha:PE X a ta)(hb:PE X (.BoolOp .Or (b::rest) pos) tb):PE X (.BoolOp .Or (a::b::rest) pos) (mG ta tb):=by
 intro z6 s σ H Q I h;refine BoolOp_or (zo (ha z6 s σ H _ I h) λv s1 ⟨x,H1,I1,r1,q1⟩=>?_);obtain⟨c,rfl,q1⟩:=q1;cases r1;refine Zm ?_;cases c with
 |false=>exact hb z6 s1 σ H1 Q I1 q1
 |true=>exact⟨.bl true,H1,I1,rfl,q1⟩
def lz(t:TT)(ta tb:TE):TE:=λσ H Q=>t σ H λc H1=>if c=true then ta σ H1 Q else tb σ H1 Q
theorem bV{c:Expr}(hc:PT X c tA)(ha:PE X a ta)(hb:PE X b tb):PE X (.IfExp c a b pos) (lz tA ta tb):=by
 intro z6 s σ H Q I h;refine wpAny_IfExp (zo (hc z6 s σ H _ I h) λd s1 ⟨H1,I1,q1⟩=>?_);cases d with
 |true=>exact ha z6 s1 σ H1 Q I1 q1
 |false=>exact hb z6 s1 σ H1 Q I1 q1
end
def yP(K:W.Frag)(H:Hp)(a:Addr)(xs:List V):Prop:=
 Rd H a (.lst xs) \/
  ∃(o:Obj) (its:Array Value) (n:Nat),K.lookup a=some o/\o.cls=.type "list" /\ o.dict=none/\o.data=.seq its n/\its.size<=sizeLine/\zu xs its.toList
def yq(K:W.Frag)(H:Hp)(a:Addr)(xs:List V):Prop:=
 Rd H a (.tup xs) \/
  ∃(o:Obj) (its:Array Value) (n:Nat),K.lookup a=some o/\o.cls=.type "tuple" /\ o.data=.seq its n/\its.size<=sizeLine/\zu xs its.toList
def N3:Value->Option V
 |.none=>some .zE
 |.bool b=>some (.bl b)
 |.int i _=>some (.int i)
 |.str x _=>some (.str x)
 |.bytes b _=>some (.byt b)
 |.float b _=>some (.flt b)
 |.ref a=>some (.ref a)
 |.type n=>some (.ty n)
 |_=>none
theorem z_.abs{x:V}{u:Value}(r:z_ x u):N3 u=some x:=by
 cases x with
 |zE=>cases r; rfl
 |bl _=>cases r; rfl
 |int _=>obtain⟨t,rfl⟩:=r; rfl
 |str _=>obtain⟨t,rfl⟩:=r; rfl
 |byt _=>obtain⟨t,rfl⟩:=r; rfl
 |flt _=>obtain⟨t,rfl⟩:=r; rfl
 |ref _=>cases r; rfl
 |ty _=>cases r; rfl
theorem z_.inj{x y:V}{u:Value}(r:z_ x u)(q:z_ y u):x=y:=vM (r.abs.symm.trans q.abs)
theorem zu.inj:∀{xs ys:List V}{us:List Value},zu xs us->zu ys us->xs=ys
 |_,_,_,.nil,.nil=>rfl
 |_,_,_,.cons r t,.cons r' t'=>by rw[r.inj r',zu.inj t t']
section
variable{X:Cx}{z6:List (Addr×Obj)}{σ:St}{H:Hp}{s:Shared}{a:Addr}{xs ys:List V}
theorem yP.of{K:W.Frag}(h:H a=some (.lst xs)):yP K H a xs:=.inl (.inl h)
theorem yq.of{K:W.Frag}(h:H a=some (.tup xs)):yq K H a xs:=.inl (.inl h)
theorem Inv.list(I:Inv X z6 σ H s)(h:yP X.K H a xs):∃its:List Value,zu xs its/\PlainL s.heap a its.toArray/\xs.length<=sizeLine:=by
 rcases h with h|⟨o,its,n,hk,hc,hd,hs,hz,r⟩
 ·obtain⟨z,its,n,r,e⟩:=h.ok I.zg;exact⟨its,r,⟨_,n,e,rfl,rfl,rfl⟩,z⟩
 ·refine⟨its.toList,r,⟨o,n,I.uw a o hk,hc,hd,by simpa using hs⟩,?_⟩;have e:=r.length;simp only[wp]at e;omega
theorem Inv.tuple(I:Inv X z6 σ H s)(h:yq X.K H a xs):∃its:List Value,zu xs its/\IsTup s.heap a its.toArray/\xs.length<=sizeLine:=by
 rcases h with h|⟨o,its,n,hk,hc,hs,hz,r⟩
 ·obtain⟨z,its,r,p⟩:=h.ok I.zg;exact⟨its,r,p,z⟩
 ·refine⟨its.toList,r,⟨o,I.uw a o hk,hc,n,by simpa using hs⟩,?_⟩;have e:=r.length;simp only[wp]at e;omega
theorem Inv.U2(I:Inv X z6 σ H s)(h:yP X.K H a xs)(h':yP X.K H a ys):xs=ys:=by
 obtain⟨its,r,⟨o,n,e,_,_,d⟩,_⟩:=I.list h;obtain⟨its',r',⟨o',n',e',_,_,d'⟩,_⟩:=I.list h';rw[e]at e'; cases e';rw[d]at d';injection d' with d1 _
 have:its=its':=by simpa using congrArg Array.toList d1
 subst this;exact r.inj r'
theorem Inv.II(I:Inv X z6 σ H s)(h:yq X.K H a xs)(h':yq X.K H a ys):xs=ys:=by
 obtain⟨its,r,⟨o,e,_,n,d⟩,_⟩:=I.tuple h;obtain⟨its',r',⟨o',e',_,n',d'⟩,_⟩:=I.tuple h';rw[e]at e'; cases e';rw[d]at d';injection d' with d1 _
 have:its=its':=by simpa using congrArg Array.toList d1
 subst this;exact r.inj r'
end
abbrev Cx.qq(X:Cx)(E:Value->Shared->Prop):Cx:={ X with xe:=E }
abbrev Cx.kF(X:Cx):Cx:=X.qq λ_ _=>False
theorem Cx.Ok.qq{X:Cx}(ok:X.Ok)(E:Value->Shared->Prop):(X.qq E).Ok:=
 ⟨ok.mod,ok.kind,ok.glob,ok.blt,ok.above,ok.inj,ok.has,ok.Zn,ok.hd,ok.frames,ok.XJ,ok.XG,ok.bs,ok.pX,ok.Zs,ok.Zo,ok.tW,ok.kE⟩
theorem Cx.Ok.jd{X:Cx}{E:Value->Shared->Prop}(ok:(X.qq E).Ok):X.Ok:=
 ⟨ok.mod,ok.kind,ok.glob,ok.blt,ok.above,ok.inj,ok.has,ok.Zn,ok.hd,ok.frames,ok.XJ,ok.XG,ok.bs,ok.pX,ok.Zs,ok.Zo,ok.tW,ok.kE⟩
section
variable{X:Cx}{z6:List (Addr×Obj)}{σ:St}{H:Hp}{s:Shared}{E:Value->Shared->Prop}
theorem Inv.qq(I:Inv X z6 σ H s)(E:Value->Shared->Prop):Inv (X.qq E) z6 σ H s:=⟨I.ok.qq E,I.os,I.bare,I.base,I.loc,I.cell,I.free,I.uX,I.pin,I.zg,I.len⟩
theorem Inv.jd(I:Inv (X.qq E) z6 σ H s):Inv X z6 σ H s:=⟨I.ok.jd,I.os,I.bare,I.base,I.loc,I.cell,I.free,I.uX,I.pin,I.zg,I.len⟩
theorem SP.jd{D:ub}{f:Flow}{s':Shared}(h:SP (X.qq E) z6 D f s'):SP X z6 D f s':=by
 cases f with
 |next=>obtain⟨σ',H',I,q⟩:=h; exact⟨σ',H',I.jd,q⟩
 |brk=>obtain⟨σ',H',I,q⟩:=h; exact⟨σ',H',I.jd,q⟩
 |cont=>obtain⟨σ',H',I,q⟩:=h; exact⟨σ',H',I.jd,q⟩
 |ret u=>obtain⟨v,σ',H',I,r,q⟩:=h; exact⟨v,σ',H',I.jd,r,q⟩
theorem vx.kF{st:List Stmt}{t:TS}(h:vx X.kF st t):vx X st t:=λz6 s σ H D I hw=>
 uB (h z6 s σ H D (I.qq _) hw) (λ_ _ q=>q.jd) λ_ _ z=>False.elim z
end
section
variable{X:Cx}{st:Stmt}{rest:List Stmt}{t u:TS}{e:Expr}{te:TE}{pos:Pos}
def mC:TS:=λD σ H=>D.nx σ H
def mL(t u:TS):TS:=λD σ H=>t { D with nx:=u D } σ H
theorem ci:vx X [] mC:=λ_ _ σ H _ I h=>Ju ⟨σ,H,I,h⟩
theorem cf(h1:PS X st t)(h2:vx X rest u):vx X (st::rest) (mL t u):=by
 intro z6 s σ H D I h;refine wpAny_execs_cons (zo (h1 z6 s σ H { D with nx:=u D } I h) λf s1 q=>?_);cases f with
 |next=>
  obtain⟨σ',H',I',q⟩:=q;exact h2 z6 s1 σ' H' D I' q
 |ret v=>exact q
 |brk=>exact q
 |cont=>exact q
theorem cj(h1:PS X st t):vx X [st] t:=by
 intro z6 s σ H D I h;refine wpAny_execs_cons (zo (h1 z6 s σ H D I h) λf s1 q=>?_);cases f with
 |next=>exact Ju q
 |ret v=>exact q
 |brk=>exact q
 |cont=>exact q
theorem Inv.quiet{z6:List (Addr×Obj)}{σ:St}{H:Hp}{s:Shared}(I:Inv X z6 σ H s):interactive X.env=false:=by simp[interactive,I.ok.kind]
def HY(te:TE):TS:=λD σ H=>te σ H λ_ H1=>D.nx σ H1
theorem cW(he:PE X e te)(hs:swapsWith e none pos.line X.env=pure false:=by rfl):PS X (.Expr e pos) (HY te):=by
 intro z6 s σ H D I h;exact wpAny_Expr_any (zo (he z6 s σ H _ I h) λv s1 ⟨x,H1,I1,r1,q1⟩=>⟨σ,H1,I1,q1⟩) I.quiet hs
def mI(te:TE):TS:=λD σ H=>te σ H D.rt
theorem M0(he:PE X e te):PS X (.Return (some e) pos) (mI te):=by
 intro z6 s σ H D I h;exact wpAny_Return_some (zo (he z6 s σ H _ I h) λv s1 ⟨x,H1,I1,r1,q1⟩=>⟨x,σ,H1,I1,r1,q1⟩)
def l_(c:TT)(t u:TS):TS:=λD σ H=>c σ H λb H1=>if b=true then t D σ H1 else u D σ H1
theorem cX{c:Expr}{a b:List Stmt}{tc:TT}(hc:PT X c tc)(ha:vx X a t)(hb:vx X b u):PS X (.If c a b pos) (l_ tc t u):=by
 intro z6 s σ H D I h;refine wpAny_If (zo (hc z6 s σ H _ I h) λd s1 ⟨H1,I1,q1⟩=>?_);cases d with
 |true=>exact ha z6 s1 σ H1 D I1 q1
 |false=>exact hb z6 s1 σ H1 D I1 q1
def mB:TS:=λ_ _ _=>False
theorem cg{sts:List Stmt}:vx X sts mB:=λ_ _ _ _ _ _ h=>h.elim
end
abbrev TG:=V->St->Hp->(St->Hp->Prop)->Prop
abbrev p6:=List V->St->Hp->(St->Hp->Prop)->Prop
def PG(X:Cx)(target:Expr)(t:TG):Prop:=
 ∀(z6:List (Addr×Obj)) (s:Shared) (σ:St) (H:Hp) (v:V) (u:Value) (Q:St->Hp->Prop),Inv X z6 σ H s->z_ v u->t v σ H Q->
  wpAny (model X.prog X.w) X.A (assign target X.env u) (λ_ s'=>∃σ' H',Inv X z6 σ' H' s'/\Q σ' H') X.xe s
def XS(X:Cx)(ts:List Expr)(t:p6):Prop:=
 ∀(z6:List (Addr×Obj)) (s:Shared) (σ:St) (H:Hp) (vs:List V) (us:List Value) (Q:St->Hp->Prop),Inv X z6 σ H s->zu vs us->t vs σ H Q->
  wpAny (model X.prog X.w) X.A (assignInOrder ((assignEach ts X.env).map (·.2)) us) (λ_ s'=>∃σ' H',Inv X z6 σ' H' s'/\Q σ' H') X.xe s
abbrev Ue:=V->V->V->Hp->(Hp->Prop)->Prop
def IW(X:Cx)(t:Ue):Prop:=
 ∀(z6:List (Addr×Obj)) (s:Shared) (σ:St) (H:Hp) (o i v:V) (ov iv u:Value) (Q:Hp->Prop),Inv X z6 σ H s->z_ o ov->z_ i iv->z_ v u->t o i v H Q->
  wpAny (model X.prog X.w) X.A (setItem ov iv u) (λ_ s'=>∃H',Inv X z6 σ H' s'/\Q H') X.xe s
abbrev XV:=V->V->Hp->VK->Prop
def IV(X:Cx)(op:Operator)(t:XV):Prop:=
 ∀(z6:List (Addr×Obj)) (s:Shared) (σ:St) (H:Hp) (x y:V) (v u:Value) (Q:VK),Inv X z6 σ H s->z_ x v->z_ y u->t x y H Q->
  wpAny (model X.prog X.w) X.A (inplaceOp op v u) (EP X z6 σ Q) X.xe s
section
variable{X:Cx}{pos:Pos}
def t9(i:Nat):TG:=λv σ H Q=>Q (σ.set i (some v)) H
theorem bj{i:Nat}{x:Str}(hN:X.N.Nodup)(hi:X.N[i]?=some x)(hx:q_ X.env.scope x)(hf:X.fn x=true\/X.env.scope.names.lookup x=some .local:=by first|exact .inl rfl|exact .inr rfl|assumption):PG X (.Name x pos) (t9 i):=by
 intro z6 s σ H v u Q I r h;exact wpAny_assign_Name (Mf I hN hi hx r (λs' I'=>⟨_,H,I',h⟩) hf)
def Xj:p6:=λvs σ H Q=>vs=[]/\Q σ H
def gA(t:TG)(u:p6):p6:=λvs σ H Q=>∃v r,vs=v::r/\t v σ H λσ' H'=>u r σ' H' Q
theorem bq:XS X [] Xj:=by
 intro z6 s σ H vs us Q I r h;obtain⟨e,h⟩:=h;subst e;cases r;exact assignInOrder_nil ⟨σ,H,I,h⟩
theorem bo{e:Expr}{es:List Expr}{t:TG}{u:p6}(h1:PG X e t)(h2:XS X es u)
  (hs:(assignEach (e::es) X.env).map (·.2)=assign e X.env::(assignEach es X.env).map (·.2):=by rfl):XS X (e::es) (gA t u):=by
 intro z6 s σ H vs us Q I r h;obtain⟨v,vr,e1,h⟩:=h;subst e1;cases r with
 |cons r rr=>
  rw[hs];refine assignInOrder_cons (zo (h1 z6 s σ H _ _ _ I r h) λ_ s1 ⟨σ1,H1,I1,q1⟩=>?_);exact h2 z6 s1 σ1 H1 _ _ Q I1 rr q1
def Xk(K:W.Frag)(n:Nat)(t:p6):TG:=λv σ H Q=>∃a xs,v=.ref a/\yq K H a xs/\xs.length=n/\t xs σ H Q
theorem bn{es:List Expr}{k:Nat}{t:p6}{n:Nat}(hc:X.calm=true)(h:XS X es t)
  (hn:(assignEach es X.env).length=n:=by rfl)(hst:(assignEach es X.env).findIdx? (·.1)=none:=by rfl):PG X (.Tuple es k pos) (Xk X.K n t):=by
 intro z6 s σ H v u Q I r hw;obtain⟨a,xs,e1,hq,hl,hw⟩:=hw;subst e1;cases r;obtain⟨its,rv,ht,hz⟩:=I.tuple hq;refine assign_Tuple_tuple (I.ok.hd hc) ht (by simp[hn,<-hl,rv.length]) hst λh' hx=>?_
 have I1:Inv X z6 σ H { s with heap:=h' }:=I.kept (t':=s.toks) λb o e=>hx b o (wA (Heap.lt_size e)) e
 exact h z6 _ σ H xs _ Q I1 (by simpa using rv) hw
def Fc(to ti:TE)(t:Ue):TG:=λv σ H Q=>to σ H λo H1=>ti σ H1 λi H2=>t o i v H2 λH3=>Q σ H3
theorem bm{o i:Expr}{to ti:TE}{t:Ue}(ho:PE X o to)(hi:PE X i ti)(hs:IW X t)
  (ha:∀v,assign (.Subscript o i pos) X.env v=(do
   let ov <-holding [v] (eval o X.env)
   let iv <-holding [v,ov] (eval i X.env)
   standAt pos
   holding [v,ov,iv] (setItem ov iv v)
   release [v,ov,iv] []):=by intro _; rfl):PG X (.Subscript o i pos) (Fc to ti t):=by
 intro z6 s σ H v u Q I r h;rw[ha];refine zD (uW (zo (ho z6 s σ H _ I h) λov s1 ⟨x,H1,I1,r1,q1⟩=>?_));refine zD (uW (zo (hi z6 s1 σ H1 _ I1 q1) λiv s2 ⟨y,H2,I2,r2,q2⟩=>?_));refine zD (Jy (zD (uW (zo (hs z6 s2 σ H2 x y v ov iv u _ I2 r1 r2 r q2) λ_ s3 ⟨H3,I3,q3⟩=>?_))));exact wpAny_release ⟨σ,H3,I3,q3⟩
def Mh(te:TE)(g:TG):TS:=λD σ H=>te σ H λx H1=>g x σ H1 D.nx
theorem Ey{tg e:Expr}{te:TE}{g:TG}(he:PE X e te)(hg:PG X tg g)(hs:swapsWithSole [tg] e pos.line X.env=pure false:=by rfl)(hw:swappedStores [tg] e X.env=pure none:=by rfl)
  (h1:(assignEach [tg] X.env).map (·.2)=[assign tg X.env]:=by rfl):PS X (.Assign [tg] e pos) (Mh te g):=by
 intro z6 s σ H D I h;refine wpAny_Assign_stores (zo (he z6 s σ H _ I h) λv s1 ⟨x,H1,I1,r1,q1⟩=>?_) hs hw;rw[h1];exact zo (hg z6 s1 σ H1 x v _ I1 r1 q1) λ_ s2 q=>q
theorem cZ{i:Nat}{x:Str}{e:Expr}{te:TE}{pos':Pos}(hN:X.N.Nodup)(hi:X.N[i]?=some x)(hx:q_ X.env.scope x)(he:PE X e te)(hs:swapsWith e (some (.Name x pos')) pos.line X.env=pure false:=by rfl)(hf:X.fn x=true\/X.env.scope.names.lookup x=some .local:=by first|exact .inl rfl|exact .inr rfl|assumption) :
  PS X (.Assign [.Name x pos'] e pos) (Mh te (t9 i)):=by
 intro z6 s σ H D I h;refine wpAny_Assign_Name (zo (he z6 s σ H _ I h) λv s1 ⟨y,H1,I1,r1,q1⟩=>?_) hs;exact Mf I1 hN hi hx r1 (λs2 I2=>⟨_,H1,I2,q1⟩) hf
def lm(i:Nat)(te:TE)(ti:XV):TS:=λD σ H=>∃x,σ[i]?=some (some x)/\te σ H λy H1=>ti x y H1 λz H2=>D.nx (σ.set i (some z)) H2
theorem cU{i:Nat}{x:Str}{e:Expr}{te:TE}{op:Operator}{ti:XV}{pos':Pos}(hN:X.N.Nodup)(hi:X.N[i]?=some x)(hx:q_ X.env.scope x)(he:PE X e te)(ho:IV X op ti)(hf:X.fn x=true\/X.env.scope.names.lookup x=some .local:=by first|exact .inl rfl|exact .inr rfl|assumption) :
  PS X (.AugAssign (.Name x pos') op e pos) (lm i te ti):=by
 intro z6 s σ H D I h;obtain⟨v,e1,h⟩:=h;obtain⟨m,hn,hl⟩:=I.loc;have vis:tu X.env.scope x:=by rcases hx with k|k; exact .inl k; exact .inr (.inl k)
 obtain⟨u,r,l⟩:=hl i x v hi e1 vis;refine wpAny_AugAssign_Name ?_
 have go:wpAny (model X.prog X.w) X.A (eval e X.env) (λw s₂=>wpAny (model X.prog X.w) X.A (inplaceOp op u w) (λr s₃=>wpAny (model X.prog X.w) X.A (storeName X.env x r) (λ_=>SP X z6 D .next) X.xe s₃) X.xe s₂) X.xe s:=by
  refine zo (he z6 s σ H _ I h) λw s1 ⟨y,H1,I1,r1,q1⟩=>?_
  refine zo (ho z6 s1 σ H1 v y u w _ I1 r r1 q1) λz s2 ⟨zv,H2,I2,r2,q2⟩=>?_
  exact Mf I2 hN hi hx r2 (λs3 I3=>⟨_,H2,I3,q2⟩) hf
 rcases l with⟨hk,hm⟩|⟨hk,c,hc,hcell⟩
 ·exact wpAny_loadName_local I.ok.kind hk hn hm go
 ·rcases hk with hk|hk
  ·exact wpAny_loadName_cell I.ok.kind hk hc hcell go
  ·rcases hx with k|k
   ·have:X.env.scope.names.lookup x=some .free:=hk;rw[k]at this; cases this
   ·have:X.env.scope.names.lookup x=some .free:=hk;rw[k]at this; cases this
def Fw(f:Int->Int->Int):XV:=λx y H Q=>∃i j,x=.int i/\y=.int j/\Q (.int (f i j)) H
theorem QD:IV X .Add (Fw λi j=>i+j):=by
 intro z6 s σ H x y v u Q I r1 r2 h;obtain⟨i,j,e1,e2,q⟩:=h;subst e1; subst e2;obtain⟨t,rfl⟩:=r1;obtain⟨t',rfl⟩:=r2;exact iadd_int ⟨.int _,H,I.tok _,⟨_,rfl⟩,q⟩
end
section
variable{X:Cx}{pos:Pos}
def mQ(c:TT)(tb:TS):TS:=λD σ H=>∃W:Nat->St->Hp->Prop,(∃m,W m σ H)/\∀m σ H,W m σ H->
 c σ H λb H1=>if b=true then ∃N:St->Hp->Prop,(∀σ' H',N σ' H'->∃m',m'<m/\W m' σ' H')/\tb { D with nx:=N,ct:=N,bk:=D.nx } σ H1 else D.nx σ H1
theorem ce{c:Expr}{body:List Stmt}{tc:TT}{tb:TS}(hp:PassesOwn (model X.prog X.w) X.A X.env X.xe)(hc:PT X c tc)(hb:vx X body tb):PS X (.While c body [] pos) (mQ tc tb):=by
 intro z6 s σ H D I h;obtain⟨W,⟨m0,w0⟩,turn⟩:=h;refine wpAny_While (codeAny_whileLoop (λn s'=>∃σ' H',Inv X z6 σ' H' s'/\W n σ' H') ?_ m0 ⟨σ,H,I,w0⟩);rintro n s1 ⟨σ1,H1,I1,w1⟩;refine Zl hp (zo (hc z6 s1 σ1 H1 _ I1 (turn n σ1 H1 w1)) λb s2 ⟨H2,I2,q2⟩=>?_);cases b with
 |true=>
  obtain⟨N,hN,q2⟩:=q2;rw[zP rfl];refine Zl hp (zo (hb z6 s2 σ1 H2 _ I2 q2) λf s3 q3=>?_);cases f with
  |next=>
   obtain⟨σ3,H3,I3,n3⟩:=q3;obtain⟨m',hm,w3⟩:=hN σ3 H3 n3;exact⟨m',hm,σ3,H3,I3,w3⟩
  |cont=>
   obtain⟨σ3,H3,I3,n3⟩:=q3;obtain⟨m',hm,w3⟩:=hN σ3 H3 n3;exact⟨m',hm,σ3,H3,I3,w3⟩
  |brk=>exact q3
  |ret v=>exact q3
 |false=>
  rw[zS xG];exact Ju ⟨σ1,H2,I2,q2⟩
end
structure It where
 go:Nat->Hp->Prop
 vE:Nat->Hp->V->Hp->Prop
 stop:Nat->Hp->Prop
def tm(X:Cx)(z6:List (Addr×Obj))(H:Hp)(b:Addr):Prop:=
 H b=none/\b≠X.env.locals/\b ∉ X.fs/\(b∈X.ex\/X.s₀.heap.objs.size<=b)/\(∀x c,X.env.cells.lookup x=some c->c≠b)/\∀p∈X.pn++z6,p.1≠b
theorem Inv.qp{X:Cx}{z6:List (Addr×Obj)}{σ:St}{H H':Hp}{s:Shared}{b:Addr}(I:Inv X z6 σ H s)(hb:s.heap.objs.size<=b)(hn:H' b=none):tm X z6 H' b:=by
 refine⟨hn,uU (wE I.lt hb),I.Bs hb,.inr (xj I.sz hb),λx c e z=>?_,λp hp z=>?_⟩
 ·obtain⟨v,q⟩:=I.cell x c e;exact absurd (wE q.lt (by rw[z]; exact hb)) (wQ _)
 ·exact absurd (wE (Heap.lt_size (I.pin p hp).1) (by rw[z]; exact hb)) (wQ _)
structure tq(P:Program)(w:World)(K:W.Frag)(tg:Expr)(J:It)(fp:List Addr)(it:Addr)(tn:Nat->Heap->Prop):Prop where
 mem:it∈fp
 obj:∀i h,tn i h->∀b∈fp,∃o,h.get? b=some o/\∀v,o.data≠.cell v
 keep:∀i h h',tn i h->(∀b∈fp,∀o,h.get? b=some o->h'.get? b=some o)->tn i h'
 item:∀(X:Cx),X.prog=P->X.w=w->X.K=K->X.calm=true->∀(i:Nat)(z6:List (Addr×Obj)) (s:Shared) (σ:St) (H:Hp) (E:Value->Shared->Prop),Inv X z6 σ H s->(∀b∈fp,tm X z6 H b)->tn i s.heap->J.go i H->
  wpAny (model P w) X.A (pyNext (.ref it)) (λr s1=>∃u,r=some u/\
   wpAny (model P w) X.A (letOwnedTupleGo tg (.ref it) u) (λ_ s2=>∃x H',Inv X z6 σ H' s2/\z_ x u/\J.vE i H x H'/\tn (i+1) s2.heap/\∀b∈fp,H' b=none) E s1) E s
 done:∀(X:Cx),X.prog=P->X.w=w->X.K=K->X.calm=true->∀(i:Nat)(z6:List (Addr×Obj)) (s:Shared) (σ:St) (H:Hp) (E:Value->Shared->Prop),Inv X z6 σ H s->(∀b∈fp,tm X z6 H b)->tn i s.heap->J.stop i H->
  wpAny (model P w) X.A (pyNext (.ref it)) (λr s1=>r=none/\Inv X z6 σ H s1) E s
 self:∀(A:Around)(i:Nat)(s:Shared)(Q:Value->Shared->Prop)(E:Value->Shared->Prop),tn i s.heap->Q (.ref it) s->wpAny (model P w) A (pyIter (.ref it)) Q E s
abbrev TI:=St->Hp->(It->Hp->Prop)->Prop
def IU(X:Cx)(z6:List (Addr×Obj))(σ:St)(tg:Expr)(R:It->Hp->Prop)(itv:Value)(s2:Shared):Prop:=
 ∃(it:Addr) (fp:List Addr) (tn:Nat->Heap->Prop) (J:It) (H':Hp),itv=.ref it/\Inv X z6 σ H' s2/\tq X.prog X.w X.K tg J fp it tn/\tn 0 s2.heap/\(∀b∈fp,tm X z6 H' b)/\R J H'
def PI(X:Cx)(tg iter:Expr)(wi:TI):Prop:=
 ∀(z6:List (Addr×Obj)) (s:Shared) (σ:St) (H:Hp) (R:It->Hp->Prop),Inv X z6 σ H s->wi σ H R->
  wpAny (model X.prog X.w) X.A (eval iter X.env) (λv s1=>wpAny (model X.prog X.w) X.A (pyIter v) (IU X z6 σ tg R) X.xe s1) X.xe s
theorem YT{M:Model}{A:Around}{E:Value→Shared→Prop}{s:Shared}{tg:Expr}{it:Addr}{u:Value}{o:Obj}{n:String}{vs:Array Value}{Q:Unit→Shared→Prop}(ho:s.heap.get? it=some o)(hc:o.cls=.type n)(hd:o.data=.fields vs)
    (hn:["enumerate", "zip", "dict_itemiterator", "dict_reverseitemiterator", "odict_iterator", "itertools.zip_longest", "itertools.pairwise"].contains n=false)(hQ:Q () s):wpAny M A (letOwnedTupleGo tg (.ref it) u) Q E s:=by
  unfold letOwnedTupleGo
  cases tg<;>first
    |exact zV hQ
    | (cases u<;>first
        |exact zV hQ
        | (refine zD (wpAny_load ho ?_)
           rw[hc,hd];show wpAny M A (if(["enumerate", "zip", "dict_itemiterator", "dict_reverseitemiterator", "odict_iterator", "itertools.zip_longest", "itertools.pairwise"].contains n&&vs[0]?==some (rawInt _))=true then _ else _) Q E s;rw[zS (by intro h; rw[hn,pR]at h; cases h)];exact zV hQ))
def IO(K:W.Frag)(a:Addr):It:=
 ⟨λi H=>∃xs x,yP K H a xs/\xs[i]?=some x,λi H x H'=>H'=H/\∀xs,yP K H a xs->xs[i]?=some x,λi H=>∃xs,yP K H a xs/\xs.length<=i⟩
def IQ(K:W.Frag)(a:Addr):It:=
 ⟨λi H=>∃xs x,yq K H a xs/\xs[i]?=some x,λi H x H'=>H'=H/\∀xs,yq K H a xs->xs[i]?=some x,λi H=>∃xs,yq K H a xs/\xs.length<=i⟩
def UY(lo:Int)(n:Nat):It:=⟨λi _=>i<n,λi H x H'=>H'=H/\x=.int (lo+i),λi _=>n<=i⟩
theorem oG{P:Program}{w:World}{K:W.Frag}{tg:Expr}(a it:Addr):tq P w K tg (IO K a) [it] it (λi h=>h.IsListIter it a i) where
 mem:=by simp
 obj:=λi h st b hb=>by
  have e:b=it:=by simpa using hb
  subst e;obtain⟨o,e,c,d⟩:=st;exact⟨o,e,λv z=>by rw[d]at z; cases z⟩
 keep:=λi h h' st k=>st.at λo e=>k it (by simp) o e
 item:=by
  intro X hP hw hK hc i z6 s σ H E I hf st hg;subst hP hw hK;obtain⟨xs,x,hq,hx⟩:=hg;obtain⟨its,rv,p,hz⟩:=I.list hq;obtain⟨u,hu,ru⟩:=rv.get hx;obtain⟨f0,f1,f2,f3,f4,f5⟩:=hf it (by simp);refine Bo st p.isList (x:=u) (by simpa using hu) λh' st' sb=>?_
  have I1:Inv X z6 σ H { s with heap:=h' }:=I.turned (t':=s.toks) (λb o hb e=>(sb.2 b hb).trans e) f0 f1 f3 f4 f5;obtain⟨o,e,c,d⟩:=id st';exact⟨u,rfl,YT (s:={ s with heap:=h' }) e c d (by decide) ⟨x,H,I1,ru,⟨rfl,λys hy=>by rw[I.U2 hy hq]; exact hx⟩,st',λb hb=>(hf b hb).1⟩⟩
 done:=by
  intro X hP hw hK hc i z6 s σ H E I hf st hg;subst hP hw hK;obtain⟨xs,hq,hx⟩:=hg;obtain⟨its,rv,p,hz⟩:=I.list hq;obtain⟨f0,f1,f2,f3,f4,f5⟩:=hf it (by simp);have hl:=rv.length;exact Bn (I.ok.hd hc) st p.isList (by simp; omega) λh' eb=>⟨rfl,I.turned (t':=s.toks) (λb o hb e=>eb b o hb e) f0 f1 f3 f4 f5⟩
 self:=λ_ _ _ _ _ st h=>wpAny_pyIter_listiter st h
theorem oJ{P:Program}{w:World}{K:W.Frag}{tg:Expr}(a it:Addr):tq P w K tg (IQ K a) [it] it (λi h=>h.IsTupleIter it a i) where
 mem:=by simp
 obj:=λi h st b hb=>by
  have e:b=it:=by simpa using hb
  subst e;obtain⟨o,e,c,d⟩:=st;exact⟨o,e,λv z=>by rw[d]at z; cases z⟩
 keep:=λi h h' st k=>st.at λo e=>k it (by simp) o e
 item:=by
  intro X hP hw hK hc i z6 s σ H E I hf st hg;subst hP hw hK;obtain⟨xs,x,hq,hx⟩:=hg;obtain⟨its,rv,p,hz⟩:=I.tuple hq;obtain⟨u,hu,ru⟩:=rv.get hx;obtain⟨f0,f1,f2,f3,f4,f5⟩:=hf it (by simp);refine wpAny_pyNext_tuple_item st (show s.heap.IsTuple a its.toArray from p) (x:=u) (by simpa using hu) λh' st' sb=>?_
  have I1:Inv X z6 σ H { s with heap:=h' }:=I.turned (t':=s.toks) (λb o hb e=>(sb.2 b hb).trans e) f0 f1 f3 f4 f5;obtain⟨o,e,c,d⟩:=id st';exact⟨u,rfl,YT (s:={ s with heap:=h' }) e c d (by decide) ⟨x,H,I1,ru,⟨rfl,λys hy=>by rw[I.II hy hq]; exact hx⟩,st',λb hb=>(hf b hb).1⟩⟩
 done:=by
  intro X hP hw hK hc i z6 s σ H E I hf st hg;subst hP hw hK;obtain⟨xs,hq,hx⟩:=hg;obtain⟨its,rv,p,hz⟩:=I.tuple hq;obtain⟨f0,f1,f2,f3,f4,f5⟩:=hf it (by simp);have hl:=rv.length;exact wpAny_pyNext_tuple_end (I.ok.hd hc) st (show s.heap.IsTuple a its.toArray from p) (by simp; omega) λh' eb=>⟨rfl,I.turned (t':=s.toks) (λb o hb e=>eb b o hb e) f0 f1 f3 f4 f5⟩
 self:=λ_ _ _ _ _ st h=>wpAny_pyIter_tupleiter st h
theorem oH{P:Program}{w:World}{K:PySem.W.Frag}{tg:Expr}(it:Addr)(lo:Int)(n:Nat):tq P w K tg (UY lo n) [it] it (λi h=>IsRangeIter h it (lo+(i:Nat)*1) ((n:Int)-(i:Nat)) 1) where
 mem:=by simp
 obj:=λi h st b hb=>by
  have e:b=it:=by simpa using hb
  subst e
  exact⟨_,st,λv z=>by
   have z':Data.fields _=Data.cell v:=z;cases z'⟩
 keep:=λi h h' st k=>k it (by simp) _ st
 item:=by
  intro X hP hw hK hc i z6 s σ H E I hf st hg;subst hP hw hK;obtain⟨f0,f1,f2,f3,f4,f5⟩:=hf it (by simp);have W:=Walks.range (prog:=X.prog) (w:=X.w) (I.ok.hd hc) it lo 1 n;refine W.item i s _ _ hg st λv h' tk hv st' kk=>?_
  obtain⟨t,rfl⟩:=hv;have I1:Inv X z6 σ H { s with heap:=h',toks:=tk }:=I.turned (λb o hb e=>kk b o (by simpa using hb) e) f0 f1 f3 f4 f5;refine⟨_,rfl,YT (s:={ s with heap:=h',toks:=tk }) (n := "range_iterator") st' rfl rfl (by decide) ⟨.int (lo+i),H,I1,⟨t,?_⟩,⟨rfl,rfl⟩,st',λb hb=>(hf b hb).1⟩⟩;rw[Jc]
 done:=by
  intro X hP hw hK hc i z6 s σ H E I hf st hg;subst hP hw hK;obtain⟨f0,f1,f2,f3,f4,f5⟩:=hf it (by simp);exact wpAny_pyNext_range_end (I.ok.hd hc) st (by have:n<=i:=hg; omega) λh' eb=>⟨rfl,I.turned (t':=s.toks) (λb o hb e=>eb b o hb e) f0 f1 f3 f4 f5⟩
 self:=λ_ _ _ _ _ st h=>wpAny_pyIter_rangeiter st h
section
variable{X:Cx}{tg:Expr}
def Rh(K:W.Frag)(tl:TE):TI:=λσ H R=>tl σ H λx H1=>∃a,x=.ref a/\(∃xs,yP K H1 a xs)/\R (IO K a) H1
def Rk(K:W.Frag)(tl:TE):TI:=λσ H R=>tl σ H λx H1=>∃a,x=.ref a/\(∃xs,yq K H1 a xs)/\R (IQ K a) H1
theorem bz{l:Expr}{tl:TE}(hl:PE X l tl):PI X tg l (Rh X.K tl):=by
 intro z6 s σ H R I h;refine zo (hl z6 s σ H _ I h) λv s1 ⟨x,H1,I1,r1,q1⟩=>?_
 obtain⟨a,e,⟨xs,hq⟩,q⟩:=q1;subst e;cases r1;obtain⟨its,rv,p,hz⟩:=I1.list hq;refine Vx p.isList ?_;refine⟨s1.heap.objs.size,[s1.heap.objs.size],_,_,H1,rfl,I1.kept (t':=s1.toks) λb o e=>Heap.get?_push_of_some _ e,oG a _,⟨_,Heap.get?_push_size _ rfl,rfl,rfl⟩,λb hb=>?_,q⟩;have e:b=s1.heap.objs.size:=by simpa using hb
 subst e;exact I1.qp (zt _) (I1.zg.fresh (zt _))
theorem cB{l:Expr}{tl:TE}(hl:PE X l tl):PI X tg l (Rk X.K tl):=by
 intro z6 s σ H R I h;refine zo (hl z6 s σ H _ I h) λv s1 ⟨x,H1,I1,r1,q1⟩=>?_
 obtain⟨a,e,⟨xs,hq⟩,q⟩:=q1;subst e;cases r1;obtain⟨its,rv,p,hz⟩:=I1.tuple hq;refine wpAny_pyIter_tuple (show s1.heap.IsTuple a its.toArray from p) ?_;refine⟨s1.heap.objs.size,[s1.heap.objs.size],_,_,H1,rfl,I1.kept (t':=s1.toks) λb o e=>Heap.get?_push_of_some _ e,oJ a _,⟨_,Heap.get?_push_size _ rfl,rfl,rfl⟩,λb hb=>?_,q⟩;have e:b=s1.heap.objs.size:=by simpa using hb
 subst e;exact I1.qp (zt _) (I1.zg.fresh (zt _))
theorem dM{z6:List (Addr×Obj)}{σ:St}{H:Hp}{s:Shared}{R:It->Hp->Prop}{E:Value->Shared->Prop}{lo hi:Int}{t u v:Tok}{tk:Nat}(I:Inv X z6 σ H s)(h1 : -(2 ^ 62)<=lo)(h2:lo<2 ^ 62)(h3 : -(2 ^ 62)<=hi)(h4:hi<2 ^ 62)
  (q:R (UY lo (hi-lo).toNat) H):wpAny (model X.prog X.w) X.A (pyIter (.ref s.heap.objs.size)) (IU X z6 σ tg R) E { s with heap:=s.heap.push { cls:=.type "range",data:=.fields #[.int lo t,.int hi u,.int 1 v] },toks:=tk }:=by
 refine wpAny_pyIter_range (IsRange.new ..) (small_one h1 h2 h3 h4) ?_;have I1:Inv X z6 σ H { s with heap:=s.heap.push { cls:=.type "range",data:=.fields #[.int lo t,.int hi u,.int 1 v] },toks:=tk }:=I.kept λb o e=>Heap.get?_push_of_some _ e
 refine⟨(s.heap.push { cls:=.type "range",data:=.fields #[.int lo t,.int hi u,.int 1 v] }).objs.size,[(s.heap.push { cls:=.type "range",data:=.fields #[.int lo t,.int hi u,.int 1 v] }).objs.size],_,_,H,rfl,
  I1.kept (t':=tk) λb o e=>Heap.get?_push_of_some _ e,oH _ lo (hi-lo).toNat,?_,λb hb=>?_,q⟩
 ·have e1:lo+((0:Nat):Int)*1=lo:=by simp
  have e2:(((hi-lo).toNat:Nat):Int)-((0:Nat):Int)=Builtin.Range.rangeSize lo hi 1:=by rw[rangeSize_one]; split<;>omega
  show IsRangeIter _ _ (lo+((0:Nat):Int)*1) ((((hi-lo).toNat:Nat):Int)-((0:Nat):Int)) 1;rw[e1,e2];exact Heap.get?_push_size _ rfl
 ·have e:b=(s.heap.push { cls:=.type "range",data:=.fields #[.int lo t,.int hi u,.int 1 v] }).objs.size:=by simpa using hb
  subst e;exact I1.qp (zt _) (I1.zg.fresh (zt _))
def Ri(ta:TA):TI:=λσ H R=>ta σ H λvs H1=>∃j:Int,vs=[.int j] /\ -(2 ^ 62)<=j/\j<2 ^ 62/\R (UY 0 j.toNat) H1
theorem b_{a:Expr}{ta:TA}{p pos:Pos}(hg:Gl X "range")(hm:X.mg "range" = none)(ha:PA X [a] ta)(hs:starEach [a] X.env=[(false,eval a X.env)]:=by rfl):PI X tg (.Call (.Name "range" p) [a] [] pos) (Ri ta):=by
 intro z6 s σ H R I h;refine Call_ (Z7 I hg hm boot_range (Vq (zo (ha pos z6 s σ H _ I h) λus s1 ⟨vs,H1,I1,r1,q1⟩=>?_) hs rfl));obtain⟨j,e,q1,q2,q⟩:=q1;subst e;cases r1 with
 |cons r rr=>
  cases rr;obtain⟨t,rfl⟩:=r;exact call_range_1 (dM I1 (by omega) (by omega) q1 q2 (by simpa using q))
def lw(wi:TI)(g:TG)(tb:TS):TS:=λD σ H=>wi σ H λJ H1=>∃W:Nat->Nat->St->Hp->Prop,(∃m,W 0 m σ H1)/\∀i m σ H,W i m σ H->
 (J.stop i H/\D.nx σ H)\/(J.go i H/\∃N:St->Hp->Prop,(∀σ' H',N σ' H'->∃m',m'<m/\W (i+1) m' σ' H')/\∀x H',J.vE i H x H'->g x σ H' λσ2 H2=>tb { D with nx:=N,ct:=N,bk:=D.nx } σ2 H2)
def W7(fp:List Addr)(h:Heap):List (Addr×Obj):=fp.filterMap λb=>(h.get? b).map λo=>(b,o)
theorem QV{fp:List Addr}{h:Heap}{b:Addr}{o:Obj}(hb:b∈fp)(e:h.get? b=some o):(b,o)∈W7 fp h:=Ji.mpr ⟨b,hb,by rw[e]; rfl⟩
theorem AZ{fp:List Addr}{h:Heap}{p:Addr×Obj}(hp:p∈W7 fp h):p.1∈fp/\h.get? p.1=some p.2:=by
 obtain⟨b,hb,e⟩:=Ji.mp hp;cases q:h.get? b with
 |none=>rw[q]at e; cases e
 |some o=>
  rw[q]at e;have e':(b,o)=p:=vM e;subst e';exact⟨hb,q⟩
theorem Inv.pinned{z6:List (Addr×Obj)}{σ:St}{H:Hp}{s:Shared}{fp:List Addr}(I:Inv X z6 σ H s)(hf:∀b∈fp,tm X z6 H b)(ho:∀b∈fp,∃o,s.heap.get? b=some o/\∀v,o.data≠.cell v):Inv X (z6++W7 fp s.heap) σ H s:=
 I.XI λp hp=>(u9.mp hp).elim (λz=>I.pin p (ut _ z)) λz=>by
  obtain⟨hb,e⟩:=AZ z;obtain⟨f0,f1,f2,_⟩:=hf p.1 hb;obtain⟨o,e',d⟩:=ho p.1 hb;rw[e]at e'; cases e';exact⟨e,f0,f1,f2,d⟩
theorem Inv.IJ{z6 pl:List (Addr×Obj)}{σ:St}{H:Hp}{s:Shared}(I:Inv X (z6++pl) σ H s):Inv X z6 σ H s:=I.XI λp hp=>I.pin p (ut _ (BQ _ hp))
theorem Ez{iter:Expr}{body:List Stmt}{wi:TI}{g:TG}{tb:TS}{pos:Pos}(hp:PassesOwn (model X.prog X.w) X.A X.env X.xe)(hc:X.calm=true)(hi:PI X tg iter wi)(hg:PG X tg g)(hb:vx X body tb)
  (hs:∀x,foldedSetIterable iter X.env x=pure x:=by intro _; rfl):PS X (.For tg iter body [] pos) (lw wi g tb):=by
 intro z6 s σ H D I h;refine wpAny_For (zo (hi z6 s σ H _ I h) λv s1 h1=>zo h1 λitv s2 h2=>?_) hs;obtain⟨it,fp,tn,J,H2,e,I2,T,st2,f2,W,⟨m0,w0⟩,turn⟩:=h2;subst e;have stat:∀{H':Hp},(∀b∈fp,H' b=none)->∀b∈fp,tm X z6 H' b:=λhn b hb=>⟨hn b hb,(f2 b hb).2⟩
 refine codeAny_forLoop_any (λn s'=>∃i σ' H',Inv X z6 σ' H' s'/\tn i s'.heap/\(∀b∈fp,H' b=none)/\W i n σ' H') ?_ m0 ⟨0,σ,H2,I2,st2,λb hb=>(f2 b hb).1,w0⟩;rintro n s3 ⟨i,σ3,H3,I3,st3,fr3,w3⟩;rcases turn i n σ3 H3 w3 with⟨stop,qn⟩|⟨go,N,hN,step⟩
 ·refine Zl hp (zo (T.done X rfl rfl rfl hc i z6 s3 σ3 H3 X.xe I3 (stat fr3) st3 stop) λr s4 ⟨hr,I4⟩=>?_);subst hr;exact Ju ⟨σ3,H3,I4,qn⟩
 ·refine Zl hp (zo (T.item X rfl rfl rfl hc i z6 s3 σ3 H3 X.xe I3 (stat fr3) st3 go) λr s4 ⟨u,hr,h4⟩=>?_);subst hr;refine Zl hp (zo h4 λ_ s5 ⟨x,H5,I5,r5,y5,st5,fr5⟩=>?_);have I5':=I5.pinned (stat fr5) (T.obj _ _ st5);refine Zl hp (zo (hg _ s5 σ3 H5 x u _ I5' r5 (step x H5 y5)) λ_ s6 ⟨σ6,H6,I6,q6⟩=>?_);refine Zl hp (zo (hb _ s6 σ6 H6 _ I6 q6) λf s7 q7=>?_)
  have again:∀{σ7:St}{H7:Hp},Inv X (z6++W7 fp s5.heap) σ7 H7 s7->N σ7 H7->∃m,m<n/\∃i σ' H',Inv X z6 σ' H' s7/\tn i s7.heap/\(∀b∈fp,H' b=none)/\W i m σ' H':=λ{σ7 H7} I7 n7=>by
   obtain⟨m',hm,w7⟩:=hN σ7 H7 n7;refine⟨m',hm,i+1,σ7,H7,I7.IJ,T.keep _ _ _ st5 λb hb o e=>(I7.pin (b,o) (ut _ (ut _ (QV hb e)))).1,λb hb=>?_,w7⟩;obtain⟨o,e,d⟩:=T.obj _ _ st5 b hb;exact(I7.pin (b,o) (ut _ (ut _ (QV hb e)))).2.1
  cases f with
  |next=>obtain⟨σ7,H7,I7,n7⟩:=q7; exact again I7 n7
  |cont=>obtain⟨σ7,H7,I7,n7⟩:=q7; exact again I7 n7
  |brk=>obtain⟨σ7,H7,I7,q7⟩:=q7; exact⟨σ7,H7,I7.IJ,q7⟩
  |ret v=>obtain⟨x7,σ7,H7,I7,r7,q7⟩:=q7; exact⟨x7,σ7,H7,I7.IJ,r7,q7⟩
end
abbrev R2:=V->V->Hp->VK->Prop
def yX(X:Cx)(f:Value->Value->Sem Value)(r:R2):Prop:=
 ∀(z6:List (Addr×Obj)) (s:Shared) (σ:St) (H:Hp) (x y:V) (v u:Value) (Q:VK),Inv X z6 σ H s->z_ x v->z_ y u->r x y H Q->
  wpAny (model X.prog X.w) X.A (f v u) (EP X z6 σ Q) X.xe s
def XX(X:Cx)(f:Value->Sem Value)(r:V->Hp->VK->Prop):Prop:=
 ∀(z6:List (Addr×Obj)) (s:Shared) (σ:St) (H:Hp) (x:V) (v:Value) (Q:VK),Inv X z6 σ H s->z_ x v->r x H Q->
  wpAny (model X.prog X.w) X.A (f v) (EP X z6 σ Q) X.xe s
def wS(X:Cx)(f:Value)(r:List V->Hp->VK->Prop):Prop:=
 ∀(z6:List (Addr×Obj)) (s:Shared) (σ:St) (H:Hp) (xs:List V) (us:List Value) (Q:VK),Inv X z6 σ H s->zu xs us->r xs H Q->
  wpAny (model X.prog X.w) X.A (call f us) (EP X z6 σ Q) X.xe s
def J8(r:R2)(ta tb:TE):TE:=λσ H Q=>ta σ H λx H1=>tb σ H1 λy H2=>r x y H2 Q
def mP(r:V->Hp->VK->Prop)(ta:TE):TE:=λσ H Q=>ta σ H λx H1=>r x H1 Q
def rI(C:Int->Int->Prop)(g:Int->Int->V):R2:=λx y H Q=>∃i j,x=.int i/\y=.int j/\C i j/\Q (g i j) H
def ul(g:Int->Int->V):R2:=λx y H Q=>∃i j,x=.int i/\y=.int j/\Q (g i j) H
def rU(g:Int->V):V->Hp->VK->Prop:=λx H Q=>∃i,x=.int i/\Q (g i) H
section
variable{X:Cx}{a b c:Expr}{ta tb tc:TE}{pos:Pos}
theorem Ih(ha:PE X a ta)(hb:PE X b tb){z6:List (Addr×Obj)}{s:Shared}{σ:St}{H:Hp}{R:V->V->Hp->Prop}(I:Inv X z6 σ H s)
  (h:ta σ H λx H1=>tb σ H1 λy H2=>R x y H2){Q:Value->Shared->Prop}{f:Value->Value->Sem Value}
  (hf:∀v u s2 x y H2,Inv X z6 σ H2 s2->z_ x v->z_ y u->R x y H2->wpAny (model X.prog X.w) X.A (f v u) Q X.xe s2) :
  wpAny (model X.prog X.w) X.A (eval a X.env) (λv s₁=>wpAny (model X.prog X.w) X.A (eval b X.env) (λu s₂=>wpAny (model X.prog X.w) X.A (f v u) Q X.xe s₂) X.xe s₁) X.xe s:=by
 refine zo (ha z6 s σ H _ I h) λv s1 ⟨x,H1,I1,r1,q1⟩=>?_
 refine zo (hb z6 s1 σ H1 _ I1 q1) λu s2 ⟨y,H2,I2,r2,q2⟩=>?_
 exact hf v u s2 x y H2 I2 r1 r2 q2
theorem Ei{op:Operator}{r:R2}(ho:yX X (binaryOp op) r)(ha:PE X a ta)(hb:PE X b tb):PE X (.BinOp a op b pos) (J8 r ta tb):=by
 intro z6 s σ H Q I h;exact wpAny_BinOp (Ih ha hb I h λv u s2 x y H2 I2 rx ry q=>ho z6 s2 σ H2 x y v u Q I2 rx ry q)
theorem bh{op:UnaryOp}{r:V->Hp->VK->Prop}(ho:XX X (unaryOp op) r)(ha:PE X a ta):PE X (.UnaryOp op a pos) (mP r ta):=by
 intro z6 s σ H Q I h;exact UnaryOp_ (zo (ha z6 s σ H _ I h) λv s1 ⟨x,H1,I1,r1,q1⟩=>ho z6 s1 σ H1 x v Q I1 r1 q1)
theorem Yn{f:Value->Value->Sem Value}{C:Int->Int->Prop}{g:Int->Int->Int}
  (rule:∀(i j:Int)(t u:Tok)(s:Shared)(Q:Value->Shared->Prop)(E:Value->Shared->Prop),C i j->Q (.int (g i j) s.toks) { s with toks:=s.toks+1 }->wpAny (model X.prog X.w) X.A (f (.int i t) (.int j u)) Q E s) :
  yX X f (rI C λi j=>.int (g i j)):=by
 intro z6 s σ H x y v u Q I rx ry h;obtain⟨i,j,rfl,rfl,hc,q⟩:=h;obtain⟨t,rfl⟩:=rx;obtain⟨t',rfl⟩:=ry;exact rule i j t t' s _ _ hc ⟨.int (g i j),H,I.tok _,⟨_,rfl⟩,q⟩
theorem Qd{f:Value->Value->Sem Value}{g:Int->Int->Int}
  (rule:∀(i j:Int)(t u:Tok)(s:Shared)(Q:Value->Shared->Prop)(E:Value->Shared->Prop),Q (.int (g i j) s.toks) { s with toks:=s.toks+1 }->wpAny (model X.prog X.w) X.A (f (.int i t) (.int j u)) Q E s) :
  yX X f (ul λi j=>.int (g i j)):=by
 intro z6 s σ H x y v u Q I rx ry h;obtain⟨i,j,rfl,rfl,q⟩:=h;obtain⟨t,rfl⟩:=rx;obtain⟨t',rfl⟩:=ry;exact rule i j t t' s _ _ ⟨.int (g i j),H,I.tok _,⟨_,rfl⟩,q⟩
theorem Qc{f:Value->Value->Sem Value}{g:Int->Int->Bool}
  (rule:∀(i j:Int)(t u:Tok)(s:Shared)(Q:Value->Shared->Prop)(E:Value->Shared->Prop),Q (.bool (g i j)) s->wpAny (model X.prog X.w) X.A (f (.int i t) (.int j u)) Q E s) :
  yX X f (ul λi j=>.bl (g i j)):=by
 intro z6 s σ H x y v u Q I rx ry h;obtain⟨i,j,rfl,rfl,q⟩:=h;obtain⟨t,rfl⟩:=rx;obtain⟨t',rfl⟩:=ry;exact rule i j t t' s _ _ ⟨.bl (g i j),H,I,rfl,q⟩
def XN(i j:Int):Prop:=0<=j/\j<=1000000/\i.natAbs<2 ^ 64
def XM(i j:Int):Prop:=(-(2 ^ 64)<i/\i<2 ^ 64)\/(-(2 ^ 64)<j/\j<2 ^ 64)
theorem XM.ok{i j:Int}(h:XM i j):IntMulOk i j:=by
 rcases h with⟨h1,h2⟩|⟨h1,h2⟩
 ·exact .of_left (intBits_le_64 h1 h2)
 ·exact .of_right (intBits_le_64 h1 h2)
theorem rD(k:Nat):(0:Int)<=2 ^ k:=by
 rw[two_pow_cast];exact Vk _
theorem ay:yX X (binaryOp .Add) (ul λi j=>.int (i+j)):=Qd λ_ _ _ _ _ _ _ q=>add_int q
theorem tK:yX X (binaryOp .Sub) (ul λi j=>.int (i-j)):=Qd λ_ _ _ _ _ _ _ q=>sub_int q
theorem qh:yX X (binaryOp .Mult) (rI XM λi j=>.int (i*j)):=Yn λ_ _ _ _ _ _ _ hc q=>mul_int q hc.ok
theorem yz:yX X (binaryOp .Mod) (rI (λ_ j=>0<j) λi j=>.int (i%j)):=Yn λi j _ _ _ _ _ hc q=>by
 have h1:(0:Int)<j:=hc;exact mod_int' (by omega) (by rw[Int.fmod_eq_emod_of_nonneg i (by omega)]; exact q)
theorem ZG:yX X (binaryOp .Pow) (rI XN λi j=>.int (i ^ j.toNat)):=Yn λ_ _ _ _ _ _ _ hc q=>pow_int_small hc.1 hc.2.1 hc.2.2 q
theorem Yo:yX X (binaryOp .LShift) (rI XN λi j=>.int (i*2 ^ j.toNat)):=Yn λ_ _ _ _ _ _ _ hc q=>lshift_int_small hc.1 hc.2.1 hc.2.2 q
theorem bH:yX X (binaryOp .RShift) (rI (λ_ j=>0<=j) λi j=>.int (i/2 ^ j.toNat)):=Yn λi j _ _ _ _ _ hc q=>
 rshift_int hc (by rw[KF i (rD _)]; exact q)
theorem EZ:yX X (binaryOp .BitAnd) (ul λi j=>.int (Builtin.bitAnd i j)):=Qd λ_ _ _ _ _ _ _ q=>and_int q
theorem bG:yX X (binaryOp .BitOr) (ul λi j=>.int (Builtin.bitOr i j)):=Qd λ_ _ _ _ _ _ _ q=>or_int q
theorem Hh{f:Value->Sem Value}{g:Int->Int}
  (rule:∀(i:Int)(t:Tok)(s:Shared)(Q:Value->Shared->Prop)(E:Value->Shared->Prop),Q (.int (g i) s.toks) { s with toks:=s.toks+1 }->wpAny (model X.prog X.w) X.A (f (.int i t)) Q E s) :
  XX X f (rU λi=>.int (g i)):=by
 intro z6 s σ H x v Q I rx h;obtain⟨i,rfl,q⟩:=h;obtain⟨t,rfl⟩:=rx;exact rule i t s _ _ ⟨.int (g i),H,I.tok _,⟨_,rfl⟩,q⟩
theorem u8:XX X (unaryOp .USub) (rU λi=>.int (-i)):=Hh λ_ _ _ _ _ q=>neg_int q
theorem rN:XX X (unaryOp .Invert) (rU λi=>.int (Builtin.bitNot i)):=Hh λ_ _ _ _ _ q=>invert_int q
theorem az:yX X (binaryOp .Add) (λx y H Q=>∃i k,x=.int i/\y=.bl k/\Q (.int (i+b2i k)) H):=by
 intro z6 s σ H x y v u Q I rx ry h;obtain⟨i,k,rfl,rfl,q⟩:=h;obtain⟨t,rfl⟩:=rx;cases ry;exact add_int_bool ⟨.int (i+b2i k),H,I.tok _,⟨_,rfl⟩,q⟩
end
def MR:V->V->Bool
 |.zE,.zE=>true|.zE,.int _=>true|.int _,.zE=>true|.zE,.bl _=>true|.bl _,.zE=>true|.zE,.str _=>true|.str _,.zE=>true
 |.int _,.int _=>true|.bl _,.bl _=>true|.str _,.str _=>true|.byt _,.byt _=>true
 |.int _,.str _=>true|.str _,.int _=>true|.bl _,.str _=>true|.str _,.bl _=>true
 |_,_=>false
def dA:R2:=λx y H Q=>MR x y=true/\Q (.bl (decide (x=y))) H
def dE:R2:=λx y H Q=>MR x y=true/\Q (.bl (!decide (x=y))) H
theorem Ir{i j:Int}:decide (V.int i=V.int j)=(i==j):=by
 rw[Vh];simp
theorem Iq{i j:Bool}:decide (V.bl i=V.bl j)=(i==j):=by
 rw[Vh];simp
theorem Iu{i j:Str}:decide (V.str i=V.str j)=(i==j):=by
 rw[Vh];simp
theorem Do{i j:Array UInt8}:decide (V.byt i=V.byt j)=(i.toList==j.toList):=by
 rw[Vh];cases i;cases j;simp
section
variable{X:Cx}{a b c:Expr}{ta tb tc:TE}{pos:Pos}
theorem xR{z6:List (Addr×Obj)}{σ:St}{H:Hp}{s:Shared}{Q:VK}{k k':Bool}(I:Inv X z6 σ H s)(q:Q (.bl k) H)(e:k=k'):EP X z6 σ Q (.bool k') s:=by
 subst e;exact⟨.bl k,H,I,rfl,q⟩
theorem b8:yX X (compareOp .Eq) dA:=by
 intro z6 s σ H x y v u Q I rx ry h;obtain⟨hs,q⟩:=h;cases x with
 |zE=>
  cases rx;cases y with
  |zE=>cases ry; exact PySem.EqNone.eq_none_none (xR I q (by simp))
  |bl j=>cases ry; exact PySem.EqNone.eq_none_bool (xR I q (by simp))
  |int j=>obtain⟨t',rfl⟩:=ry; exact PySem.EqNone.eq_none_int (xR I q (by simp))
  |str j=>obtain⟨t',rfl⟩:=ry; exact PySem.EqNone.eq_none_str (xR I q (by simp))
  |_=>exact absurd (show false=true from hs) xG
 |bl i=>
  cases rx;cases y with
  |zE=>cases ry; exact PySem.EqNone.eq_bool_none (xR I q (by simp))
  |bl j=>cases ry; exact eq_bool (xR I q Iq)
  |str j=>obtain⟨t',rfl⟩:=ry; exact PySem.EqMixed.eq_bool_str (xR I q (by simp))
  |_=>exact absurd (show false=true from hs) xG
 |int i=>
  obtain⟨t,rfl⟩:=rx;cases y with
  |zE=>cases ry; exact PySem.EqNone.eq_int_none (xR I q (by simp))
  |int j=>obtain⟨t',rfl⟩:=ry; exact eq_int (xR I q Ir)
  |str j=>obtain⟨t',rfl⟩:=ry; exact PySem.EqMixed.eq_int_str (xR I q (by simp))
  |_=>exact absurd (show false=true from hs) xG
 |str i=>
  obtain⟨t,rfl⟩:=rx;cases y with
  |zE=>cases ry; exact PySem.EqNone.eq_str_none (xR I q (by simp))
  |bl j=>cases ry; exact PySem.EqMixed.eq_str_bool (xR I q (by simp))
  |int j=>obtain⟨t',rfl⟩:=ry; exact PySem.EqMixed.eq_str_int (xR I q (by simp))
  |str j=>obtain⟨t',rfl⟩:=ry; exact eq_str (xR I q Iu)
  |_=>exact absurd (show false=true from hs) xG
 |byt i=>
  obtain⟨t,rfl⟩:=rx;cases y with
  |byt j=>obtain⟨t',rfl⟩:=ry; exact W.eq_bytes (xR I q Do)
  |_=>exact absurd (show false=true from hs) xG
 |_=>cases y<;>exact absurd (show false=true from hs) xG
theorem bC:yX X (compareOp .NotEq) dE:=by
 intro z6 s σ H x y v u Q I rx ry h;obtain⟨hs,q⟩:=h;cases x with
 |zE=>
  cases rx;cases y with
  |zE=>cases ry; exact PySem.EqNone.ne_none_none (xR I q (by simp))
  |bl j=>cases ry; exact PySem.EqNone.ne_none_bool (xR I q (by simp))
  |int j=>obtain⟨t',rfl⟩:=ry; exact PySem.EqNone.ne_none_int (xR I q (by simp))
  |str j=>obtain⟨t',rfl⟩:=ry; exact PySem.EqNone.ne_none_str (xR I q (by simp))
  |_=>exact absurd (show false=true from hs) xG
 |bl i=>
  cases rx;cases y with
  |zE=>cases ry; exact PySem.EqNone.ne_bool_none (xR I q (by simp))
  |bl j=>cases ry; exact ne_bool (xR I q (congrArg not Iq))
  |str j=>obtain⟨t',rfl⟩:=ry; exact PySem.EqMixed.ne_bool_str (xR I q (by simp))
  |_=>exact absurd (show false=true from hs) xG
 |int i=>
  obtain⟨t,rfl⟩:=rx;cases y with
  |zE=>cases ry; exact PySem.EqNone.ne_int_none (xR I q (by simp))
  |int j=>obtain⟨t',rfl⟩:=ry; exact ne_int (xR I q (congrArg not Ir))
  |str j=>obtain⟨t',rfl⟩:=ry; exact PySem.EqMixed.ne_int_str (xR I q (by simp))
  |_=>exact absurd (show false=true from hs) xG
 |str i=>
  obtain⟨t,rfl⟩:=rx;cases y with
  |zE=>cases ry; exact PySem.EqNone.ne_str_none (xR I q (by simp))
  |bl j=>cases ry; exact PySem.EqMixed.ne_str_bool (xR I q (by simp))
  |int j=>obtain⟨t',rfl⟩:=ry; exact PySem.EqMixed.ne_str_int (xR I q (by simp))
  |str j=>obtain⟨t',rfl⟩:=ry; exact ne_str (xR I q (congrArg not Iu))
  |_=>exact absurd (show false=true from hs) xG
 |byt i=>
  obtain⟨t,rfl⟩:=rx;cases y with
  |byt j=>obtain⟨t',rfl⟩:=ry; exact W.ne_bytes (xR I q (congrArg not Do))
  |_=>exact absurd (show false=true from hs) xG
 |_=>cases y<;>exact absurd (show false=true from hs) xG
theorem uQ:yX X (compareOp .Lt) (ul λi j=>.bl (decide (i<j))):=Qc λ_ _ _ _ _ _ _ q=>lt_int q
theorem W4:yX X (compareOp .LtE) (ul λi j=>.bl (decide (i<=j))):=Qc λ_ _ _ _ _ _ _ q=>le_int q
theorem Eb:yX X (compareOp .Gt) (ul λi j=>.bl (decide (j<i))):=Qc λ_ _ _ _ _ _ _ q=>gt_int q
theorem Qe:yX X (compareOp .GtE) (ul λi j=>.bl (decide (j<=i))):=Qc λ_ _ _ _ _ _ _ q=>ge_int q
theorem bB:yX X (compareOp .In) (λx y H Q=>∃i j,x=.str i/\y=.str j/\Q (.bl (!(Builtin.Str.occurrences j i 0 j.length 1).isEmpty)) H):=by
 intro z6 s σ H x y v u Q I rx ry h;obtain⟨i,j,rfl,rfl,q⟩:=h;obtain⟨t,rfl⟩:=rx;obtain⟨t',rfl⟩:=ry;exact in_str (xR I q rfl)
theorem ZF:yX X (compareOp .Is) (λx y H Q=>y=.zE/\Q (.bl (decide (x=.zE))) H):=by
 intro z6 s σ H x y v u Q I rx ry h;obtain⟨rfl,q⟩:=h;cases ry;refine is_none_gen (xR I q ?_)
 cases x<;>first
  |(cases rx; rfl)
  |(obtain⟨t,rfl⟩:=rx; rfl)
theorem Qf:yX X (compareOp .IsNot) (λx y H Q=>y=.zE/\Q (.bl (!decide (x=.zE))) H):=by
 intro z6 s σ H x y v u Q I rx ry h;obtain⟨rfl,q⟩:=h;cases ry;refine isnot_none_gen (xR I q ?_)
 cases x<;>first
  |(cases rx; rfl)
  |(obtain⟨t,rfl⟩:=rx; rfl)
theorem yX.or{f:Value->Value->Sem Value}{r r':R2}(h:yX X f r)(h':yX X f r'):yX X f (λx y H Q=>r x y H Q\/r' x y H Q):=by
 intro z6 s σ H x y v u Q I rx ry q;rcases q with q|q
 ·exact h z6 s σ H x y v u Q I rx ry q
 ·exact h' z6 s σ H x y v u Q I rx ry q
theorem yB(b:Expr){op:CmpOp}(h:op≠.In:=by decide)(h2:op≠.NotIn:=by decide):behindInMarks op b=false:=by
 have e1:(op==CmpOp.In)=false:=by cases op<;>first|rfl|exact absurd rfl h
 have e2:(op==CmpOp.NotIn)=false:=by cases op<;>first|rfl|exact absurd rfl h2
 cases b<;>simp[behindInMarks,e1,e2]
theorem bR{op:CmpOp}{r:R2}(ho:yX X (compareOp op) r)(ha:PE X a ta)(hb:PE X b tb)(hm:behindInMarks op b=false):PE X (.Compare a [op] [b] pos) (J8 r ta tb):=by
 intro z6 s σ H Q I h;exact wpAny_Compare1 (Ih ha hb I h λv u s2 x y H2 I2 rx ry q=>ho z6 s2 σ H2 x y v u Q I2 rx ry q) hm
def HZ(t:TE):TT:=λσ H Q=>t σ H λx H'=>∃k,x=.bl k/\Q k H'
theorem cm{op:CmpOp}{r:R2}(ho:yX X (compareOp op) r)(ha:PE X a ta)(hb:PE X b tb)(hm:behindInMarks op b=false):PT X (.Compare a [op] [b] pos) (HZ (J8 r ta tb)):=by
 intro z6 s σ H Q I h
 refine wpAny_isTrue_Compare1 (zo (ha z6 s σ H _ I h) λv s1 ⟨x,H1,I1,r1,q1⟩=>zo (hb z6 s1 σ H1 _ I1 q1) λu s2 ⟨y,H2,I2,r2,q2⟩=>
  zo (ho z6 s2 σ H2 x y v u _ I2 r1 r2 q2) λc s3 ⟨z,H3,I3,r3,k,e,q3⟩=>?_) hm
 subst e;cases r3;exact Zm ⟨H3,I3,q3⟩
def lr(r r':R2)(ta tb tc:TE):TE:=λσ H Q=>ta σ H λx H1=>tb σ H1 λy H2=>r x y H2 λz H3=>∃k,z=.bl k/\
 (if k=true then tc σ H3 λw' H4=>r' y w' H4 Q else Q (.bl false) H3)
theorem ck{op op':CmpOp}{r r':R2}(ho:yX X (compareOp op) r)(ho':yX X (compareOp op') r')(ha:PE X a ta)(hb:PE X b tb)(hc:PE X c tc)
  (hm:lastMarks [op,op'] [b,c]=false:=by with_unfolding_all rfl):PT X (.Compare a [op,op'] [b,c] pos) (HZ (lr r r' ta tb tc)):=by
 intro z6 s σ H Q I h
 refine isTrue_chain (zo (ha z6 s σ H _ I h) λv s1 ⟨x,H1,I1,r1,q1⟩=>test_link (zo (hb z6 s1 σ H1 _ I1 q1) λu s2 ⟨y,H2,I2,r2,q2⟩=>
  zo (ho z6 s2 σ H2 x y v u _ I2 r1 r2 q2) λd s3 ⟨z,H3,I3,r3,k,e,q3⟩=>?_)) hm
 subst e;cases r3;refine Zm ?_;cases k with
 |false=>
  obtain⟨k',e',q'⟩:=q3;cases e';exact ite_ff ⟨H3,I3,q'⟩
 |true=>
  refine ite_tt (test_last (zo (hc z6 s3 σ H3 _ I3 q3) λw' s4 ⟨z',H4,I4,r4,q4⟩=>zo (ho' z6 s4 σ H4 y z' u w' _ I4 r2 r4 q4) λd' s5 ⟨z2,H5,I5,r5,k2,e2,q5⟩=>?_));subst e2;cases r5;exact Zm ⟨H5,I5,q5⟩
theorem Z8:(sizeLine:Nat)<2 ^ 63:=by rw[wR]; decide
theorem a_:yX X (binaryOp .Add) (λx y H Q=>∃i j,x=.str i/\y=.str j/\i.length+j.length<=sizeLine/\Q (.str (i++j)) H):=by
 intro z6 s σ H x y v u Q I rx ry h;obtain⟨i,j,rfl,rfl,hz,q⟩:=h;obtain⟨t,rfl⟩:=rx;obtain⟨t',rfl⟩:=ry;exact add_str (λt' tk=>⟨.str (i++j),H,I.tok _,⟨_,rfl⟩,q⟩) hz
theorem vY{x:V}{us:List Value}(r:zu [x] us):∃u,us=[u]/\z_ x u:=by
 cases r with
 |cons r1 r2=>cases r2; exact⟨_,rfl,r1⟩
theorem JG{x y:V}{us:List Value}(r:zu [x,y] us):∃u w',us=[u,w']/\z_ x u/\z_ y w':=by
 cases r with
 |cons r1 r2=>
  cases r2 with
  |cons r3 r4=>cases r4; exact⟨_,_,rfl,r1,r3⟩
theorem Nf(hc:X.calm=true):wS X (.builtin "max") (λxs H Q=>∃i j,xs=[.int i,.int j]/\Q (.int (if j>i then j else i)) H):=by
 intro z6 s σ H xs us Q I r h;obtain⟨i,j,rfl,q⟩:=h;obtain⟨u,w',rfl,⟨t,rfl⟩,⟨t',rfl⟩⟩:=JG r;refine max_two_ints (I.ok.hd hc) λh' tk k=>⟨_,H,I.kept k,?_,q⟩
 by_cases hj:j>i
 ·rw[zP hj,zP hj]; exact⟨_,rfl⟩
 ·rw[zS hj,zS hj]; exact⟨_,rfl⟩
theorem Nh(hc:X.calm=true):wS X (.builtin "min") (λxs H Q=>∃i j,xs=[.int i,.int j]/\Q (.int (if j<i then j else i)) H):=by
 intro z6 s σ H xs us Q I r h;obtain⟨i,j,rfl,q⟩:=h;obtain⟨u,w',rfl,⟨t,rfl⟩,⟨t',rfl⟩⟩:=JG r;refine min_two_ints (I.ok.hd hc) λh' tk k=>⟨_,H,I.kept k,?_,q⟩
 by_cases hj:j<i
 ·rw[zP hj,zP hj]; exact⟨_,rfl⟩
 ·rw[zS hj,zS hj]; exact⟨_,rfl⟩
theorem NZ:wS X (.type "int") (λxs H Q=>(∃i,xs=[.int i]/\Q (.int i) H)\/∃k,xs=[.bl k]/\Q (.int (if k then 1 else 0)) H):=by
 intro z6 s σ H xs us Q I r h;rcases h with⟨i,rfl,q⟩|⟨k,rfl,q⟩
 ·obtain⟨u,rfl,t,rfl⟩:=vY r;exact call_int_int ⟨.int i,H,I,⟨_,rfl⟩,q⟩
 ·obtain⟨u,rfl,r1⟩:=vY r;cases r1;exact call_int_bool ⟨.int (if k then 1 else 0),H,I.tok _,⟨_,rfl⟩,q⟩
end
section
variable{prog:Program}{w:World}{A:Around}{E:Value->Shared->Prop}{s:Shared}{K:W.Frag}{x dx C f:Addr}{mA:Str->Option Value}{name:Str}{v:Value}
end
theorem p4.some_of{v:V}{o:Option Value}(r:p4 (some v) o):∃u,o=some u/\z_ v u:=by
 cases o with
 |none=>exact(show False from r).elim
 |some u=>exact⟨u,rfl,r⟩
section
variable{P:Program}{w:World}{H H':Hp}{h h':Heap}{a C dx:Addr}{fs fs':List (Str×V)}
end
section
variable{X:Cx}{z6:List (Addr×Obj)}{σ:St}{H:Hp}{s:Shared}{a C dx:Addr}{fs:List (Str×V)}{f:Str}{v:V}{A:Around}{E:Value->Shared->Prop}
end
section
variable{X:Cx}{o e value:Expr}{f:Str}{pos pos' tpos:Pos}{ta tv:TE}
end
section
variable{X:Cx}{z6:List (Addr×Obj)}{σ:St}{H:Hp}{s:Shared}{A:Around}{E:Value->Shared->Prop}{Q:Value->Shared->Prop}{c:Value}{b:Bool}
end
structure xy(k:Nat)(A:Around):Prop where
 hd:A.handled=none
 dp:A.depth+3*k+5<recursionLimit
 un:A.units+16*k+200<cLine
theorem xy.mono{j k:Nat}{A:Around}(r:xy k A)(h:j<=k):xy j A:=⟨r.hd,by have:=r.dp; omega,by have:=r.un; omega⟩
theorem xy.deeper{k:Nat}{A:Around}(r:xy (k+1) A)(env:Env):xy k (A.deeper env):=
 ⟨r.hd,by have:=r.dp; show A.depth+1+3*k+5<_; omega,by have:=r.un; show A.units+3+16*k+200<_; omega⟩
theorem xy.depth{k:Nat}{A:Around}(r:xy k A):A.depth<recursionLimit:=by have:=r.dp; omega
theorem xy.units{k:Nat}{A:Around}(r:xy k A):A.units+64<cLine:=by have:=r.un; omega
def ZW:TA:=λ_ H Q=>Q [] H
def ZV(ta:TE)(tr:TA):TA:=λσ H Q=>ta σ H λx H1=>tr σ H1 λxs H2=>Q (x::xs) H2
section
variable{X:Cx}{e:Expr}{es:List Expr}{te:TE}{t:TA}{pos:Pos}
theorem ZH:PA X [] ZW:=λ_ _ _ _ H Q I h=>Calls.spliced_nil ⟨[],H,I,.nil,h⟩
theorem Lv(ha:PE X e te)(hr:PA X es t)(hs:starEach (e::es) X.env=(false,eval e X.env)::starEach es X.env:=by rfl):PA X (e::es) (ZV te t):=by
 intro pos z6 s σ H Q I h;rw[hs];show wpAny _ _ (spliced ((false,eval e X.env)::backTo pos (starEach es X.env))) _ _ s;refine Calls.spliced_cons (zo (ha z6 s σ H _ I h) λu s1 ⟨x,H1,I1,r1,q1⟩=>?_);exact zo (hr pos z6 s1 σ H1 _ I1 q1) λus s2 ⟨xs,H2,I2,r2,q2⟩=>⟨x::xs,H2,I2,.cons r1 r2,q2⟩
def mO(t:TA):TE:=λσ H Q=>t σ H λxs H1=>xs.length<=sizeLine/\∀p,H1 p=none->Q (.ref p) (zb H1 p (.tup xs))
def m8(t:TA):TE:=λσ H Q=>t σ H λxs H1=>xs.length<=sizeLine/\∀p,H1 p=none->Q (.ref p) (zb H1 p (.lst xs))
theorem bg{x1}(h:PA X es t):PE X (.Tuple es x1 pos) (mO t):=by
 intro z6 s σ H Q I hq;refine wpAny_Tuple_spliced (zo (h pos z6 s σ H _ I hq) λus s1 ⟨xs,H1,I1,r,z,q⟩=>⟨by rw[<-r.length]; exact z,?_⟩);have hf:H1 s1.heap.objs.size=none:=I1.zg.fresh (zt _);refine⟨.ref s1.heap.objs.size,zb H1 s1.heap.objs.size (.tup xs),I1.laid (t':=s1.toks) (λb u e=>Heap.get?_push_of_some _ e) (zt _) ?_,rfl,q _ hf⟩;exact⟨z,us,r,⟨_,Heap.get?_push_size _ rfl,rfl,_,rfl⟩⟩
theorem bW(h:PA X es t):PE X (.List es pos) (m8 t):=by
 intro z6 s σ H Q I hq;refine wpAny_List_spliced (zo (h pos z6 s σ H _ I hq) λus s1 ⟨xs,H1,I1,r,z,q⟩=>⟨by rw[<-r.length]; exact z,?_⟩);have hf:H1 s1.heap.objs.size=none:=I1.zg.fresh (zt _);refine⟨.ref s1.heap.objs.size,zb H1 s1.heap.objs.size (.lst xs),I1.laid (t':=s1.toks) (λb u e=>Heap.get?_push_of_some _ e) (zt _) ?_,rfl,q _ hf⟩;exact⟨z,us,0,r,Heap.get?_push_size _ rfl⟩
end
abbrev Sp:=List V->Hp->VK->XK->Prop
abbrev qr:=List Env->Hp->Shared->XK->Value->Shared->Prop
structure UW(P:Program)(w:World)(K:W.Frag)(mg:Str->Option Value)(base:Heap)(A:Around)(outer:List Env)(s:Shared)(H:Hp):Prop where
 frames:A.frames=some outer
 mod:Mod K mg base
 bs:∀b o,base.get? b=some o->s.heap.get? b=some o/\H b=none
 pX:base.objs.size<=s.heap.objs.size
 tW:s.heap.FunFrames base outer
 kE:∀b∈t8 outer,H b=none
 zg:xM P w H s.heap
 bare:AllBare s.gens
def CE(outer:List Env)(P:Program)(w:World)(H:Hp)(s:Shared)(Q:VK)(u:Value)(s':Shared):Prop:=
 ∃v H',s'.os=s.os/\AllBare s'.gens/\Un (t8 outer) [] H H' s.heap s'.heap/\xM P w H' s'.heap/\z_ v u/\Q v H'
def CR(CX:qr)(outer:List Env)(P:Program)(w:World)(H:Hp)(s:Shared)(Q:VK)(E:XK)(r:Result)(s':Shared):Prop:=
 match r with
 |.ok (.ret u)=>CE outer P w H s Q u s'
 |.ok _=>False
 |.error e=>CX outer H s E e s'
structure tj(P:Program)(w:World)(K:W.Frag)(mg:Str->Option Value)(base:Heap)(CX:qr)(k:Nat)(f:Addr)(fd:FuncData)(ps:List Str)(sp:Sp):Prop where
 len:∀vs H Q E,sp vs H Q E->vs.length=ps.length
 run:∀(A:Around)(outer:List Env)(s:Shared)(H:Hp)(args:Args)(us:List Value)(vs:List V)(Q:VK)(E:XK),xy k A->UW P w K mg base A outer s H->BindsTo s fd args (ps.zip us)->zu vs us->sp vs H Q E->
  codeAny (model P w) A (.call (.ref f) args) (CR CX outer P w H s Q E) s
section
variable{X:Cx}{z6:List (Addr×Obj)}{σ:St}{H:Hp}{s s':Shared}
theorem Inv.Kq(I:Inv X z6 σ H s):UW X.prog X.w X.K X.mg X.base X.A X.stack s H:=
 ⟨I.ok.frames,I.ok.mod,I.bs,xj I.ok.pX I.sz,I.stack,I.Bv,I.zg,I.bare⟩
theorem Inv.after{Q:VK}{u:Value}(I:Inv X z6 σ H s)(h:CE X.stack X.prog X.w H s Q u s'):EP X z6 σ Q u s':=by
 obtain⟨v,H',os,bare,un,zg,r,q⟩:=h;obtain⟨hh,g,d,t,os'⟩:=s';obtain rfl:os'=s.os:=os;exact⟨v,H',I.call (h':=hh) (g':=g) (d':=d) (t':=t) (ch:=[]) un zg bare (λb z=>absurd z (by simp)),r,q⟩
end
def Mi(sp:Sp)(dvs:List V)(E:XK)(t:TA):TE:=λσ H Q=>t σ H λvs H1=>sp (vs++dvs) H1 Q E
def jh(K:W.Frag)(fd:FuncData)(ps:List Str)(ds:List Value):Prop:=
 ∀(s:Shared)(us:List Value),K.In s.heap->(us++ds).length=ps.length->BindsTo s fd ⟨us,[]⟩ (ps.zip (us++ds))
theorem jh.all{K:W.Frag}{fd:FuncData}{ps:List Str}(h:∀us:List Value,us.length=ps.length->bindArgs fd ⟨us,[]⟩=pure (ps.zip us)):jh K fd ps []:=λs us _ hl=>by
 rw[vC]at hl ⊢;exact .of_eq (h us hl)
def Uc(CX:qr)(X:Cx)(E:XK):Prop:=∀(z6:List (Addr×Obj)) (σ:St) (H:Hp) (s:Shared) (e:Value) (s':Shared),Inv X z6 σ H s->CX X.stack H s E e s'->X.xe e s'
section
variable{X:Cx}{CX:qr}{k:Nat}{f C:Addr}{fd:FuncData}{ps:List Str}{sp:Sp}{dvs:List V}{ds:List Value}{E:XK}{x m:Str}{p pos apos:Pos}{e o:Expr}{es:List Expr}{ta:TE}{t:TA}
theorem Gj{z6:List (Addr×Obj)}{σ:St}{H:Hp}{s:Shared}{Q:VK}{us:List Value}{vs:List V}(F:tj X.prog X.w X.K X.mg X.base CX k f fd ps sp)(hr:xy k X.A)(hb:jh X.K fd ps ds)(hd:zu dvs ds)(hx:Uc CX X E)
  (I:Inv X z6 σ H s)(r:zu vs us)(h:sp (vs++dvs) H Q E):wpAny (model X.prog X.w) X.A (call (.ref f) us) (EP X z6 σ Q) X.xe s:=by
 have r2:zu (vs++dvs) (us++ds):=r.append hd;have hl:(us++ds).length=ps.length:=by rw[<-r2.length]; exact F.len _ _ _ _ h
 refine Jt (Vs (F.run X.A X.stack s H ⟨us,[]⟩ (us++ds) (vs++dvs) Q E hr I.Kq (hb s us I.uw hl) r2 h) λr s' hq=>?_);cases r with
 |error e=>exact hx z6 σ H s e s' I hq
 |ok fl=>
  cases fl with
  |ret u=>exact I.after hq
  |next=>exact False.elim hq
  |brk=>exact False.elim hq
  |cont=>exact False.elim hq
theorem bN(F:tj X.prog X.w X.K X.mg X.base CX k f fd ps sp)(hr:xy k X.A)(hg:Gl X x)(hm:X.mg x=some (.ref f))(hk:W.keepIn X.K (.ref f)=true)(hb:jh X.K fd ps ds)(hd:zu dvs ds)(hx:Uc CX X E)
  (ha:PA X (e::es) t)(hdb:(x==("__debug__" : Str))=false:=by decide)(he:starEach (e::es) X.env=(false,eval e X.env)::starEach es X.env:=by rfl)(hpl:(backTo pos (starEach es X.env)).any (·.1)=false:=by rfl) :
  PE X (.Call (.Name x p) (e::es) [] pos) (Mi sp dvs E t):=by
 intro z6 s σ H Q I h;refine Vu (LV I hg hm ?_ hdb);refine W.callWith_K (h₀:=X.base) I.ok.mod.ID hk (zo (ha pos z6 s σ H _ I h) λus s1 ⟨vs,H1,I1,r,q⟩=>⟨I1.uw,?_⟩) he hpl;exact Gj F hr hb hd hx I1 r q
theorem bO(F:tj X.prog X.w X.K X.mg X.base CX k f fd ps sp)(hr:xy k X.A)(hg:Gl X x)(hm:X.mg x=some (.ref f))(hk:W.keepIn X.K (.ref f)=true)(hb:jh X.K fd ps ds)(hd:zu dvs ds)(hx:Uc CX X E)
  (hdb:(x==("__debug__" : Str))=false:=by decide):PE X (.Call (.Name x p) [] [] pos) (Mi sp dvs E ZW):=by
 intro z6 s σ H Q I h;refine Vu (LV I hg hm ?_ hdb);exact W.callWith_K0 I.uw hk (Gj (us:=[]) F hr hb hd hx I .nil h)
end
def PK(X:Cx)(kws:List Keyword)(t:TA):Prop:=
 ∀(pos:Pos)(z6:List (Addr×Obj)) (s:Shared) (σ:St) (H:Hp) (Q:List V->Hp->Prop),Inv X z6 σ H s->t σ H Q->wpAny (model X.prog X.w) X.A (evalAll ((backToKw pos (keywordEach kws X.env)).map (·.2))) (AP X z6 σ Q) X.xe s
section
variable{X:Cx}{CX:qr}{k:Nat}{f C:Addr}{fd:FuncData}{ps ks:List Str}{sp:Sp}{E:XK}{x m:Str}{p pos apos kpos:Pos}{e o:Expr}{es:List Expr}{kws:List Keyword}{te ta:TE}{t tk:TA}{nm:Option Str}
theorem cH:PK X [] ZW:=λ_ _ _ _ H Q I h=>wpAny_evalAll_nil ⟨[],H,I,.nil,h⟩
theorem cG(ha:PE X e te)(hr:PK X kws t):PK X (⟨nm,e,kpos⟩::kws) (ZV te t):=by
 intro pos z6 s σ H Q I h;show wpAny _ _ (evalAll ((do let v <-eval e X.env; standAt pos; pure v)::(backToKw pos (keywordEach kws X.env)).map (·.2))) _ _ s;refine wpAny_evalAll_cons (zD (zo (ha z6 s σ H _ I h) λu s1 ⟨x,H1,I1,r1,q1⟩=>zD (Jy (zV ?_))));exact zo (hr pos z6 s1 σ H1 _ I1 q1) λus s2 ⟨xs,H2,I2,r2,q2⟩=>⟨x::xs,H2,I2,.cons r1 r2,q2⟩
variable{g:List Value->List Value->List Value}{gV:List V->List V->List V}
end
structure y9(N P:List Str)(sc:Scope):Prop where
 kind:sc.kind=.function
 co:sc.isCoroutine=false
 gen:sc.isGenerator=false
 nd:N.Nodup
 pre:N.take P.length=P
 par:∀x∈P,sc.names.lookup x=some .local\/sc.names.lookup x=some .cell
 Kw:∀y∈sc.names,y.2≠.free
theorem DZ{kindOf:Str->Option NameKind}{x:Str}:∀{binds:List (Str×Value)} {m:Str->Option Value},(∀v,(x,v) ∉ binds)->bindL kindOf binds m x=m x
 | [],_,_=>rfl
 |(n,v)::r,m,h=>by
  unfold bindL;rw[DZ λw hw=>h w (wZ _ hw)]
  split
  ·have:x≠n:=by rintro rfl; exact h v xP
   simp[this]
  ·rfl
theorem DX{kindOf:Str->Option NameKind}{x:Str}:∀{binds:List (Str×Value)} {m:Str->Option Value},(∀v,(x,v) ∉ binds)->bindC kindOf binds m x=m x
 | [],_,_=>rfl
 |(n,v)::r,m,h=>by
  unfold bindC;rw[DX λw hw=>h w (wZ _ hw)]
  split
  ·rfl
  ·have:x≠n:=by rintro rfl; exact h v xP
   simp[this]
theorem DY{kindOf:Str->Option NameKind}{x:Str}{v:Value}:∀{P:List Str}{vs:List Value}{i:Nat}{m:Str->Option Value},P.Nodup->P[i]?=some x->vs[i]?=some v->kindOf x=some .local->
  bindL kindOf (P.zip vs) m x=some v
 | [],_,_,_,_,h,_,_=>by simp at h
 |_::_,[],_,_,_,_,h,_=>by simp at h
 |p::P,w::vs,0,m,nd,h1,h2,hk=>by
  simp at h1 h2; subst h1; subst h2;show bindL kindOf ((p,w)::P.zip vs) m p=_;unfold bindL;rw[DZ λv hv=>(Vm.mp nd).1 (BS hv).1,zP hk];simp
 |p::P,w::vs,i+1,m,nd,h1,h2,hk=>by
  show bindL kindOf ((p,w)::P.zip vs) m x=_;unfold bindL;exact DY (i:=i) (Vm.mp nd).2 (by simpa using h1) (by simpa using h2) hk
theorem DW{kindOf:Str->Option NameKind}{x:Str}{v:Value}:∀{P:List Str}{vs:List Value}{i:Nat}{m:Str->Option Value},P.Nodup->P[i]?=some x->vs[i]?=some v->kindOf x≠some .local->
  bindC kindOf (P.zip vs) m x=some v
 | [],_,_,_,_,h,_,_=>by simp at h
 |_::_,[],_,_,_,_,h,_=>by simp at h
 |p::P,w::vs,0,m,nd,h1,h2,hk=>by
  simp at h1 h2; subst h1; subst h2;show bindC kindOf ((p,w)::P.zip vs) m p=_;unfold bindC;rw[DX λv hv=>(Vm.mp nd).1 (BS hv).1,zS hk];simp
 |p::P,w::vs,i+1,m,nd,h1,h2,hk=>by
  show bindC kindOf ((p,w)::P.zip vs) m x=_;unfold bindC;exact DW (i:=i) (Vm.mp nd).2 (by simpa using h1) (by simpa using h2) hk
def start(N:List Str)(vs:List V):St:=vs.map some++List.replicate (N.length-vs.length) none
def j1(CX:qr)(P:Program)(w:World)(K:W.Frag)(mg:Str->Option Value)(base:Heap)(N:List Str)(qual:Str)(scope:Scope)(f:Addr)(cd:Value)(A:Around)(outer:List Env)(s:Shared)(H:Hp)(E:XK):Cx where
 prog:=P
 w:=w
 K:=K
 mg:=mg
 base:=base
 A:=A.deeper (envOfC qual scope s.heap.objs.size f cd)
 N:=N
 s₀:=s
 H₀:=H
 env:=envOfC qual scope s.heap.objs.size f cd
 outer:=outer
 stack:=envOfC qual scope s.heap.objs.size f cd::outer
 ex:=[]
 calm:=true
 fn:=λ_=>true
 pn:=[]
 xe:=λe s'=>wpAny (model P w) (A.deeper (envOfC qual scope s.heap.objs.size f cd)) (leaving (envOfC qual scope s.heap.objs.size f cd) e) (λ_ s''=>CX outer H s E e s'') (λe' s''=>CX outer H s E e' s'') s'
theorem Dj{sc:Scope}{n:Nat}{x:Str}(h:sc.names.lookup x=some .cell):∃c,(cellsFrom n sc.names []).lookup x=some c:=by
 have q:=W.cellsFrom_some sc.names n [] (.inl h);exact Ki.mp q
theorem Rs{CX:qr}{P:Program}{w:World}{K:W.Frag}{mg:Str->Option Value}{base:Heap}{N ps:List Str}{qual:Str}{scope:Scope}{f:Addr}{cd:Value}{A:Around}{outer:List Env}{s s1:Shared}{H:Hp}{E:XK}{us:List Value}{vs:List V}
  (S:y9 N ps scope)(hd:A.handled=none)(e0:UW P w K mg base A outer s H)(hl:vs.length=ps.length)(r:zu vs us)
  (x:InCallC s s.heap.objs.size (bindL (envOfC qual scope s.heap.objs.size f cd).kindOf (ps.zip us) λ_=>none) (cellsFrom (s.heap.objs.size+1) scope.names []) (bindC (envOfC qual scope s.heap.objs.size f cd).kindOf (ps.zip us) λ_=>none) s1) :
  Inv (j1 CX P w K mg base N qual scope f cd A outer s H E) [] (start N vs) H s1:=by
 have hpl:ps.length<=N.length:=by have:=congrArg List.length S.pre; rw[jY]at this; omega
 obtain⟨h1,tk,rfl,hk⟩:=x.done;have noA:∀b:Addr,b ∉ (j1 CX P w K mg base N qual scope f cd A outer s H E).ex:=λb z=>absurd (show b∈([]:List Addr)from z) (by simp)
 refine⟨⟨e0.mod,S.kind,rfl,rfl,zt _,λy z c h1 h2=>?_,λy hy=>?_,λy c _ h=>?_,λ_=>hd,Around.frames_deeper e0.frames,.inr ⟨rfl,rfl⟩,λb z=>absurd z (noA b),e0.bs,e0.pX,λb _ _=>noA b,λb z=>absurd z (noA b),e0.tW,e0.kE⟩,
  rfl,e0.bare,Un.kept hk,⟨_,x.toInCall.ns,λi y v h1 h2 h3=>?_⟩,λy c h=>⟨_,x.cell y c h⟩,e0.zg.fresh (zt _),λy c h=>?_,λp hp=>absurd (show p∈([]:List (Addr×Obj))from hp) (by simp),e0.zg.kept hk,?_⟩
 ·exact name_of_addr x.apart (PySem.mem_of_lookup h1) (PySem.mem_of_lookup h2)
 ·have hy:scope.names.lookup y=some .cell\/scope.names.lookup y=some .free:=hy;rcases hy with hy|hy
  ·exact Dj hy
  ·exact absurd rfl (S.Kw _ (PySem.mem_of_lookup hy))
 ·exact jZ (x.above y c (PySem.mem_of_lookup h))
 ·have hi:i<vs.length:=by
   unfold start at h2;by_cases hi:i<vs.length
   ·exact hi
   ·rw[BO (by simpa using hi)]at h2;rw[KM]at h2
    split at h2<;>cases h2
  have ha:vs[i]?=some v:=by
   unfold start at h2;rw[Zc (by simpa using hi),xH]at h2;cases e:vs[i]? with
   |none=>rw[e]at h2; cases h2
   |some a=>rw[e]at h2; cases h2; rfl
  obtain⟨u,hu,rv⟩:=r.get ha
  have hp:ps[i]?=some y:=by
   rw[<-S.pre,List.getElem?_take_of_lt (by omega)]; exact h1
  have ndP:ps.Nodup:=by rw[<-S.pre]; exact S.nd.sublist (List.take_sublist _ _)
  refine⟨u,rv,?_⟩;rcases S.par y (qT hp)with k|k
  ·exact .inl ⟨k,DY ndP hp hu k⟩
  ·obtain⟨c,e⟩:=Dj (n:=s.heap.objs.size+1) k;refine .inr ⟨.inl k,c,e,?_⟩;have q:=x.cell y c e;rw[DW ndP hp hu (by show scope.names.lookup y≠_; rw[k]; decide)]at q;exact q
 ·exact e0.zg.fresh (jZ (x.above y c (PySem.mem_of_lookup h)))
 ·unfold start;show _=N.length;rw[ya,zr,gl];omega
theorem Pb{CX:qr}{P:Program}{w:World}{K:W.Frag}{mg:Str->Option Value}{base:Heap}{k:Nat}{f:Addr}{name qual:Str}{params:Arguments}{body:List Stmt}{scope:Scope}{dV kV doc pm cdv ct oc:Value}{an od:Option Addr}
  {osl:Array (Option Value)}{N ps:List Str}{sp:Sp}(lk:K.lookup f=some ⟨oc,od,.func (W.fnOf name qual params body scope dV kV doc pm an cdv ct),osl⟩)(hcd:W.codeIn K cdv qual=true)(S:y9 N ps scope)
  (len:∀vs H Q E,sp vs H Q E->vs.length=ps.length)
  (hbody:∀(A:Around)(outer:List Env)(s:Shared)(H:Hp)(vs:List V)(Q:VK)(E:XK),xy k (A.deeper (envOfC qual scope s.heap.objs.size f cdv))->sp vs H Q E->
   ∃t,vx (j1 CX P w K mg base N qual scope f cdv A outer s H E) body t/\t { nx:=λ_ H'=>Q .zE H',rt:=Q } (start N vs) H) :
  tj P w K mg base CX (k+1) f (W.fnOf name qual params body scope dV kV doc pm an cdv ct) ps sp:=by
 refine⟨len,λA outer s H args us vs Q E hr e0 hb r hsp=>?_⟩;have hl:=len _ _ _ _ hsp;have KX:K.In s.heap:=e0.mod.ID.keeps λb o e=>(e0.bs b o e).1
 have lim:s.heap.NoLimit:=e0.mod.nolimit.keeps λb o e=>(e0.bs b o e).1
 have hkind:∀y∈ps.zip us,scope.names.lookup y.1=some .local\/(scope.names.lookup y.1=some .cell/\((cellsFrom (s.heap.objs.size+1) scope.names []).lookup y.1).isSome=true):=λ⟨n,v⟩ hy=>by
  rcases S.par n (BS hy).1 with q|q
  ·exact .inl q
  ·exact .inr ⟨q,W.cellsFrom_some _ _ _ (.inl q)⟩
 refine codeAny_call_function hr.depth (KX _ _ lk) rfl S.co S.gen rfl (W.codeRec_of KX hcd) (hb _ _ _ _ ?_);refine wpAny_newFunctionEnv_cells S.kind hkind λenv he s1 x=>?_
 subst he;refine⟨lim.keeps x.toInCall.keep,codeAny_func ?_⟩;obtain⟨t,ht,hq⟩:=hbody A outer s H vs Q E (hr.deeper _) hsp;have I:Inv (j1 CX P w K mg base N qual scope f cdv A outer s H E) [] (start N vs) H s1:=Rs S hr.hd e0 hl r x;refine uB (ht [] s1 (start N vs) H _ I hq) (λfl s' hs=>?_) λe s' hs=>hs
 have fin:∀{σ':St}{H':Hp}{v:V}{u:Value},Inv (j1 CX P w K mg base N qual scope f cdv A outer s H E) [] σ' H' s'->z_ v u->Q v H'->CE outer P w H s Q u s':=
  λ{σ' H' v u} J rv q=>⟨v,H',J.os,J.bare,J.base,J.zg,rv,q⟩
 cases fl with
 |ret u=>
  obtain⟨v,σ',H',J,rv,q⟩:=hs;exact fin J rv q
 |next=>
  obtain⟨σ',H',J,q⟩:=hs;exact fin (v:=V.zE) (u:=Value.none) J rfl q
 |brk=>
  obtain⟨_,_,_,q⟩:=hs;exact False.elim q
 |cont=>
  obtain⟨_,_,_,q⟩:=hs;exact False.elim q
section
variable{X:Cx}{x:Str}{p pos:Pos}{e:Expr}{es:List Expr}{t:TA}{id T:String}{r:List V->Hp->VK->Prop}
def J6(r:List V->Hp->VK->Prop)(t:TA):TE:=λσ H Q=>t σ H λvs H1=>r vs H1 Q
theorem bP(hc:wS X (.builtin id) r)(hg:Gl X x)(hm:X.mg x=none)(hv:bootBuiltins x=some (.builtin id))(ha:PA X (e::es) t)(hn:x ≠ "__name__" := by decide)(hdb:(x==("__debug__" : Str))=false:=by decide)
  (he:starEach (e::es) X.env=(false,eval e X.env)::starEach es X.env:=by rfl)(hpl:(backTo pos (starEach es X.env)).any (·.1)=false:=by rfl):PE X (.Call (.Name x p) (e::es) [] pos) (J6 r t):=by
 intro z6 s σ H Q I h;refine Vu (Z7 I hg hm hv ?_ hn hdb);exact PyProof.Rows.callWith_builtin1 (zo (ha pos z6 s σ H _ I h) λus s1 ⟨vs,H1,I1,r1,q1⟩=>hc z6 s1 σ H1 vs us Q I1 r1 q1) he hpl
theorem bQ(hc:wS X (.type T) r)(hg:Gl X x)(hm:X.mg x=none)(hv:bootBuiltins x=some (.type T))(ha:PA X (e::es) t)(hn:x ≠ "__name__" := by decide)(hdb:(x==("__debug__" : Str))=false:=by decide)
  (he:starEach (e::es) X.env=(false,eval e X.env)::starEach es X.env:=by rfl)(hpl:(backTo pos (starEach es X.env)).any (·.1)=false:=by rfl):PE X (.Call (.Name x p) (e::es) [] pos) (J6 r t):=by
 intro z6 s σ H Q I h;refine Vu (Z7 I hg hm hv ?_ hn hdb);exact Vq (zo (ha pos z6 s σ H _ I h) λus s1 ⟨vs,H1,I1,r1,q1⟩=>hc z6 s1 σ H1 vs us Q I1 r1 q1) he hpl
end
end L2
namespace HT
open PySem PyProof.Rows
section
open PySem.SeqAt
open PySem.AutoSeq1 (wpAny_loadPart')
open PySem.MeetsSeq PySem.MeetsSeq2 PySem.MeetsSeq3
end
section
variable{prog:Program}{w:World}{A:Around}{E:Value->Shared->Prop}{s:Shared}
theorem cat_tup{t b:Addr}{vs ws:List Value}{Q:Value->Shared->Prop}(ht:IsTup s.heap t vs.toArray)(hb:IsTup s.heap b ws.toArray)(hv:vs≠[])
  (h1:ws=[]->Q (.ref t) s)(h2:ws≠[]->Q (.ref s.heap.objs.size) { s with heap:=s.heap.push { cls:=.type "tuple",data:=.seq (vs++ws).toArray } })
  (hsz:vs.length+ws.length<=sizeLine):wpAny (model prog w) A (binaryOp .Add (.ref t) (.ref b)) Q E s:=by
 obtain⟨⟨cls,dd,data,sl⟩,ho,hc,n,hd⟩:=id ht;obtain⟨⟨cls2,dd2,data2,sl2⟩,ho2,hc2,n2,hd2⟩:=id hb;simp only at hc hd hc2 hd2;subst hc hd hc2 hd2;have e:vs.toArray++ws.toArray=(vs++ws).toArray:=by simp
 by_cases hw:ws=[]
 ·exact concat_meets ⟨_,ho,rfl⟩ ⟨_,ho2,rfl⟩ noFill_tuple_add seq_tuple_add PySem.F.slot_tuple_add PySem.F.entry_tuple_add (PySem.F.args_tuple_add_2 _ _)
   (tuple_addW1 t b vs.toArray ws.toArray n n2 dd dd2 sl sl2 (by simpa using hv) (by simp[hw])) ⟨ho,ho2,h1 hw⟩
 ·refine concat_meets ⟨_,ho,rfl⟩ ⟨_,ho2,rfl⟩ noFill_tuple_add seq_tuple_add PySem.F.slot_tuple_add PySem.F.entry_tuple_add (PySem.F.args_tuple_add_2 _ _)
   (tuple_addW2 t b vs.toArray ws.toArray n n2 dd dd2 sl sl2 (by simpa using hv) (by simpa using hw) (by rw[yg,yg]; exact hsz)) ⟨ho,ho2,?_⟩
  rw[e];exact h2 hw
def sIx(n d:Nat):Option Int->Nat
 |none=>d
 |some v=>if v<0 then(v+(n:Int)).toNat else min v.toNat n
theorem sIx_le(n d:Nat)(hd:d<=n)(o:Option Int):sIx n d o<=n:=by
 cases o with
 |none=>exact hd
 |some v=>
  show(if v<0 then(v+(n:Int)).toNat else min v.toNat n)<=n;by_cases hv:v<0
  ·rw[zP hv]; omega
  ·rw[zS hv]; exact Nat.min_le_right _ _
theorem Dk(v:Int)(n d:Nat):(if v<0 then max (v+(n:Int)) 0 else min v (n:Int))=((sIx n d (some v):Nat):Int):=by
 show(if v<0 then max (v+(n:Int)) 0 else min v (n:Int))=(((if v<0 then(v+(n:Int)).toNat else min v.toNat n):Nat):Int);by_cases hv:v<0
 ·simp only[zP hv]; omega
 ·simp only[zS hv]; omega
theorem N9(lo hi:Option Int)(n:Nat):Builtin.Slice.sliceAdjust lo hi 1 (n:Int)=(((sIx n 0 lo:Nat):Int),((sIx n n hi:Nat):Int)):=by
 have h1:¬ ((1:Int)<0):=by omega
 unfold Builtin.Slice.sliceAdjust;simp only[h1,uV];refine Prod.ext ?_ ?_
 ·cases lo with
  |none=>rfl
  |some v=>exact Dk v n 0
 ·cases hi with
  |none=>rfl
  |some v=>exact Dk v n n
theorem cK(i j:Nat):Builtin.Slice.slicePlaces (i:Int) (j:Int) 1=j-i:=by
 unfold Builtin.Slice.slicePlaces;have h1:(1:Int)>0:=by omega
 simp only[h1,vv,Vi]
 split<;>omega
theorem HI{v:Value}{o:Option Int}{Q:Option Int->Shared->Prop}(p:IsPart v o)(h:Q o s):wpAny (model prog w) A (Builtin.Slice.slicePartIndex v) Q E s:=by
 cases p with
 |none=>exact slicePart_none h
 |int i t=>exact slicePart_int h
theorem HH{sl:Addr}{vl vu:Value}{lo hi:Option Int}{n:Nat}{Q:Int×Int×Nat->Shared->Prop}(hs:s.heap.IsSliceOf sl vl vu .none)(pl:IsPart vl lo)(pu:IsPart vu hi)
  (h:Q (((sIx n 0 lo:Nat):Int),1,sIx n n hi-sIx n 0 lo) s):wpAny (model prog w) A (Builtin.Slice.sliceApplied (.ref sl) (pure (n:Int))) Q E s:=by
 obtain⟨os,hos,hcs,hds⟩:=id hs;unfold Builtin.Slice.sliceApplied Builtin.Slice.sliceFields;refine zD (zD (uA hos hds (x:=vl) rfl (zD (uA hos hds (x:=vu) rfl (zD (uA hos hds (x:=.none) rfl (zV ?_)))))));refine zD (slicePart_none ?_);show wpAny _ _ (if((1:Int)==0)=true then _ else _) _ _ s;rw[zS (by decide)];refine zD (HI pl (zD (HI pu (zD (zV ?_)))));show wpAny _ _ (match Builtin.Slice.sliceAdjust lo hi 1 (n:Int)with|(lo,hi)=>pure (lo,(1:Int),Builtin.Slice.slicePlaces lo hi 1)) _ _ s;rw[N9 lo hi n];show wpAny _ _ (pure (((sIx n 0 lo:Nat):Int),(1:Int),Builtin.Slice.slicePlaces ((sIx n 0 lo:Nat):Int) ((sIx n n hi:Nat):Int) 1)) _ _ s;rw[cK];exact zV h
theorem cE(xs:Array Value)(i k:Nat):((List.range k).filterMap λ(m:Nat)=>xs[((i:Int)+(m:Int)*1).toNat]?).toArray=((xs.toList.drop i).take k).toArray:=by
 have e:(λ(m:Nat)=>xs[((i:Int)+(m:Int)*1).toNat]?)=λm=>xs[i+m]?:=by
  funext m
  have:((i:Int)+(m:Int)*1).toNat=i+m:=by omega
  rw[this]
 rw[e];have:=pick_run xs i k;rw[List.filterMap_map]at this;have e2:((λx=>xs[x]?)∘λx=>i+x)=λm=>xs[i+m]?:=rfl
 rw[e2]at this;rw[this]
theorem getItem_tuple_cut{t sl:Addr}{zF:Array Value}{vl vu:Value}{lo hi:Option Int}{Q:Value->Shared->Prop}(ht:IsTup s.heap t zF)(hs:s.heap.IsSliceOf sl vl vu .none)(pl:IsPart vl lo)(pu:IsPart vu hi)
  (hw:¬ (sIx zF.size 0 lo=0/\sIx zF.size zF.size hi=zF.size))
  (h:Q (.ref s.heap.objs.size) { s with heap:=s.heap.push { cls:=.type "tuple",data:=.seq ((zF.toList.drop (sIx zF.size 0 lo)).take (sIx zF.size zF.size hi-sIx zF.size 0 lo)).toArray } })
  (hsz:zF.size<=sizeLine):wpAny (model prog w) A (getItem (.ref t) (.ref sl)) Q E s:=by
 have htake:sizeOk (.seq ((zF.toList.drop (sIx zF.size 0 lo)).take (sIx zF.size zF.size hi-sIx zF.size 0 lo)).toArray):=by
  show((zF.toList.drop (sIx zF.size 0 lo)).take (sIx zF.size zF.size hi-sIx zF.size 0 lo)).toArray.size<=sizeLine;rw[yg,jY,Zd,wp];omega
 have hj:sIx zF.size zF.size hi<=zF.size:=sIx_le _ _ (zt _) hi;obtain⟨os,hos,hcs,hds⟩:=id hs;have hTs:s.TypeIs (.ref sl) "slice" := ⟨os,hos,hcs⟩;unfold getItem
 try with_reducible refine uW ?_
 first|refine zD (zV ?_)|skip
 refine zD (wpAny_sequenceKey ht.typeIs (by decide) ?_)
 refine zD (pW (name:=Str.ofString "__getitem__") ht.typeIs XA
  (tU XA ht.typeIs entry_tuple_getitem ?_ (args_tuple_getitem _ _)))
 show wpAny _ _ (Builtin.Tuple.tupleItemsOf (.ref t) >>= _) _ _ s;refine zD (tupleItemsOf_ ht ?_);refine zD (kB hTs ?_);rw[zP (by decide)];refine zD (HH hs pl pu ?_)
 have hno:¬ ((((sIx zF.size 0 lo:Nat):Int)==0&&(1:Int)==1&&(sIx zF.size zF.size hi-sIx zF.size 0 lo)==zF.size)=true):=by
  intro q;rw[xL,xL]at q;have q1:((sIx zF.size 0 lo:Nat):Int)=0:=eq_of_beq q.1.1;have q2:sIx zF.size zF.size hi-sIx zF.size 0 lo=zF.size:=eq_of_beq q.2;exact hw ⟨by omega,by omega⟩
 show wpAny _ _ (if(((sIx zF.size 0 lo:Nat):Int)==0&&(1:Int)==1&&(sIx zF.size zF.size hi-sIx zF.size 0 lo)==zF.size)=true then _ else _) _ _ s;rw[zS hno,cE]
 first
  |exact zD (m:=Builtin.Tuple.tupleExact _) (uv (zV ⟨_,rfl,zV h⟩) htake)
  |exact zD (m:=Builtin.Tuple.tupleExact _) (uv (zD (zV (zV ⟨_,rfl,zV h⟩))) htake)
  |exact zD (zD (m:=Builtin.Tuple.tupleExact _) (uv (zV (zV ⟨_,rfl,zV h⟩)) htake))
  |exact zD (zD (m:=Builtin.Tuple.tupleExact _) (uv (zV ⟨_,rfl,zV h⟩) htake))
end
end HT
namespace L2
open PySem PySem.Spec PyProof.Rows
abbrev TO:=St->Hp->(Option Int->Hp->Prop)->Prop
def PO(X:Cx)(e:Option Expr)(t:TO):Prop:=
 ∀(z6:List (Addr×Obj)) (s:Shared) (σ:St) (H:Hp) (Q:Option Int->Hp->Prop),Inv X z6 σ H s->t σ H Q->
  wpAny (model X.prog X.w) X.A (evalPart e X.env) (λu s'=>∃o H',Inv X z6 σ H' s'/\IsPart u o/\Q o H') X.xe s
def mD:TO:=λ_ H Q=>Q none H
def mH(t:TE):TO:=λσ H Q=>t σ H λx H1=>∃i,x=.int i/\Q (some i) H1
section
variable{X:Cx}{e:Expr}{te:TE}{lo hi:Option Expr}{tl th:TO}{pos p2:Pos}
theorem cQ:PO X none mD:=by
 intro z6 s σ H Q I h;rw[evalPart_none];exact zV ⟨none,H,I,.none,h⟩
theorem cR(h:PE X e te):PO X (some e) (mH te):=by
 intro z6 s σ H Q I hw;rw[evalPart_some];refine zo (h z6 s σ H _ I hw) λu s1 ⟨x,H1,I1,r1,q1⟩=>?_
 obtain⟨i,rfl,q⟩:=q1;obtain⟨t,rfl⟩:=r1;exact⟨some i,H1,I1,.int i t,q⟩
def p5(X:Cx)(r:V->Option Int->Option Int->Hp->VK->Prop):Prop:=
 ∀(z6:List (Addr×Obj)) (s:Shared) (σ:St) (H:Hp) (x:V) (v vl vu:Value) (lo hi:Option Int) (sl:Addr) (Q:VK),Inv X z6 σ H s->z_ x v->s.heap.IsSliceOf sl vl vu .none->IsPart vl lo->IsPart vu hi->r x lo hi H Q->
  ∃T id,typeLookup (.type T) "__getitem__" = pure (some (.builtin id))/\s.TypeIs v T/\wpAny (model X.prog X.w) X.A (getItem v (.ref sl)) (EP X z6 σ Q) X.xe s
theorem p5.or{r r':V->Option Int->Option Int->Hp->VK->Prop}(h:p5 X r)(h':p5 X r'):p5 X (λx lo hi H Q=>r x lo hi H Q\/r' x lo hi H Q):=by
 intro z6 s σ H x v vl vu lo hi sl Q I rx hs pl pu q;rcases q with q|q
 ·exact h z6 s σ H x v vl vu lo hi sl Q I rx hs pl pu q
 ·exact h' z6 s σ H x v vl vu lo hi sl Q I rx hs pl pu q
def mN(r:V->Option Int->Option Int->Hp->VK->Prop)(te:TE)(tl th:TO):TE:=λσ H Q=>te σ H λx H1=>tl σ H1 λl H2=>th σ H2 λu H3=>r x l u H3 Q
theorem Ek{r:V->Option Int->Option Int->Hp->VK->Prop}(hr:p5 X r)(he:PE X e te)(hl:PO X lo tl)(hu:PO X hi th):PE X (.Subscript e (.Slice lo hi none p2) pos) (mN r te tl th):=by
 intro z6 s σ H Q I h;refine Subscript_ (zo (he z6 s σ H _ I h) λv s1 ⟨x,H1,I1,r1,q1⟩=>?_);refine wpAny_Slice (zo (hl z6 s1 σ H1 _ I1 q1) λvl s2 ⟨l,H2,I2,pl,q2⟩=>zo (hu z6 s2 σ H2 _ I2 q2) λvu s3 ⟨u,H3,I3,pu,q3⟩=>?_);rw[evalPart_none];refine zV ?_;have I4:Inv X z6 σ H3 { s3 with heap:=s3.heap.push { cls:=.type "slice",data:=.fields #[vl,vu,.none] } }:=I3.kept (t':=s3.toks) λb ob q=>Heap.get?_push_of_some _ q
 obtain⟨T,id,hT,ht,hg⟩:=hr z6 { s3 with heap:=s3.heap.push { cls:=.type "slice",data:=.fields #[vl,vu,.none] } } σ H3 x v vl vu l u s3.heap.objs.size Q I4 r1 (Heap.IsSliceOf.new ..) pl pu q3;show wpAny (model X.prog X.w) X.A (subscriptTail e (.Slice lo hi none p2) v (.ref s3.heap.objs.size)) (EP X z6 σ Q) X.xe { s3 with heap:=s3.heap.push { cls:=.type "slice",data:=.fields #[vl,vu,.none] } };exact tail_any (ops:=[.ref s3.heap.objs.size,v]) ht hT hg (by with_unfolding_all rfl)
def g6(xs:List V)(lo hi:Option Int):List V:=(xs.drop (HT.sIx xs.length 0 lo)).take (HT.sIx xs.length xs.length hi-HT.sIx xs.length 0 lo)
theorem Dm(xs:List V)(lo hi:Option Int):(g6 xs lo hi).length<=xs.length:=by
 unfold g6;rw[jY,Zd];omega
def GS(K:W.Frag):V->Option Int->Option Int->Hp->VK->Prop:=λx lo hi H Q=>∃a xs,x=.ref a/\yq K H a xs/\
 ¬ (HT.sIx xs.length 0 lo=0/\HT.sIx xs.length xs.length hi=xs.length)/\∀p,H p=none->Q (.ref p) (zb H p (.tup (g6 xs lo hi)))
theorem lK:p5 X (GS X.K):=by
 intro z6 s σ H x v vl vu lo hi sl Q I rx hs pl pu h;obtain⟨a,xs,rfl,hx,hw,q⟩:=h;cases rx;obtain⟨its,r,ht,hz⟩:=I.tuple hx;have hlen:its.toArray.size=xs.length:=by rw[yg]; exact r.length.symm
 refine⟨"tuple",_,XA.lookup,ht.typeIs,?_⟩;refine HT.getItem_tuple_cut ht hs pl pu (by rw[hlen]; exact hw) ?_ (by rw[hlen]; exact hz);rw[hlen];refine⟨.ref s.heap.objs.size,_,I.laid (t':=s.toks) (o:=.tup (g6 xs lo hi)) (λb ob q=>Heap.get?_push_of_some _ q) (zt _) ?_,rfl,q _ (I.zg.fresh (zt _))⟩;exact⟨xj (Dm xs lo hi) hz,_,(r.drop (HT.sIx xs.length 0 lo)).take (HT.sIx xs.length xs.length hi-HT.sIx xs.length 0 lo),IsTup.new _ _⟩
def GK(K:W.Frag):R2:=λx y H Q=>∃a b xs ys,x=.ref a/\y=.ref b/\yq K H a xs/\yq K H b ys/\xs≠[]/\xs.length+ys.length<=sizeLine/\
 (ys=[]->Q (.ref a) H)/\(ys≠[]->∀p,H p=none->Q (.ref p) (zb H p (.tup (xs++ys))))
theorem zu.IG{xs:List V}{us:List Value}(r:zu xs us):us=[]↔xs=[]:=by
 cases r with
 |nil=>simp
 |cons _ _=>simp
theorem b7:yX X (binaryOp .Add) (GK X.K):=by
 intro z6 s σ H x y v u Q I rx ry h;obtain⟨a,b,xs,ys,rfl,rfl,ha,hb,hx,hz,q1,q2⟩:=h;cases rx;cases ry;obtain⟨its,r1,p1,_⟩:=I.tuple ha;obtain⟨its2,r2,p2,_⟩:=I.tuple hb;refine HT.cat_tup p1 p2 (λz=>hx (r1.IG.mp z)) (λz=>⟨.ref a,H,I,rfl,q1 (r2.IG.mp z)⟩) (λz=>?_) (by rw[<-r1.length,<-r2.length]; exact hz);refine⟨.ref s.heap.objs.size,_,I.laid (t':=s.toks) (o:=.tup (xs++ys)) (λb ob q=>Heap.get?_push_of_some _ q) (zt _) ?_,rfl,q2 (λw=>z (r2.IG.mpr w)) _ (I.zg.fresh (zt _))⟩;exact⟨by rw[ya]; exact hz,_,r1.append r2,IsTup.new _ _⟩
end
def ixN(n:Nat)(i:Int):Option Nat:=if 0<=i then(if i<n then some i.toNat else none)else if -(n:Int)<=i then some (i+n).toNat else none
def t_{α:Type}(xs:List α)(i:Int):Option α:=(ixN xs.length i).bind λj=>xs[j]?
theorem C0{n:Nat}{i:Int}{j:Nat}(h:ixN n i=some j):seqIndex? i n=some j/\j<n /\ -(n:Int)<=i/\i<n:=by
 unfold ixN at h;by_cases h0:0<=i
 ·rw[zP h0]at h;by_cases h1:i<n
  ·rw[zP h1]at h;have e:i.toNat=j:=vM h;exact⟨by rw[seqIndex_of h0 h1,e],by omega,by omega,h1⟩
  ·rw[zS h1]at h; cases h
 ·rw[zS h0]at h;by_cases h1 : -(n:Int)<=i
  ·rw[zP h1]at h;have e:(i+n).toNat=j:=vM h;exact⟨by rw[seqIndex_neg (by omega) h1,e],by omega,h1,by omega⟩
  ·rw[zS h1]at h; cases h
theorem Ic{α:Type}{xs:List α}{i:Int}{v:α}(h:t_ xs i=some v):∃j,seqIndex? i xs.length=some j/\xs[j]?=some v/\j<xs.length /\ -(xs.length:Int)<=i/\i<xs.length:=by
 unfold t_ at h;cases e:ixN xs.length i with
 |none=>rw[e]at h; cases h
 |some j=>
  rw[e]at h;obtain⟨h1,h2,h3,h4⟩:=C0 e;exact⟨j,h1,h,h2,h3,h4⟩
def DB(b:Expr):Prop:=∀o i,subscripted b false o i=operate [o,i] (getItem o i)
def u_(X:Cx)(r:R2):Prop:=
 ∀(value slice:Expr)(z6:List (Addr×Obj)) (s:Shared) (σ:St) (H:Hp) (x y:V) (v u:Value) (Q:VK),Inv X z6 σ H s->z_ x v->z_ y u->r x y H Q->
  subscripted slice false v u=operate [v,u] (getItem v u)->wpAny (model X.prog X.w) X.A (subscriptTail value slice v u) (EP X z6 σ Q) X.xe s
def XQ(X:Cx)(id:String)(r:V->List V->Hp->VK->Prop):Prop:=
 ∀(z6:List (Addr×Obj)) (s:Shared) (σ:St) (H:Hp) (x:V) (xs:List V) (v:Value) (us:List Value) (Q:VK),Inv X z6 σ H s->z_ x v->zu xs us->r x xs H Q->
  wpAny (model X.prog X.w) X.A (call (.builtin id) (v::us)) (EP X z6 σ Q) X.xe s
section
variable{X:Cx}{a b:Expr}{ta tb:TE}{pos:Pos}
theorem u_.or{r r':R2}(h:u_ X r)(h':u_ X r'):u_ X (λx y H Q=>r x y H Q\/r' x y H Q):=by
 intro value slice z6 s σ H x y v u Q I rx ry q hs;rcases q with q|q
 ·exact h value slice z6 s σ H x y v u Q I rx ry q hs
 ·exact h' value slice z6 s σ H x y v u Q I rx ry q hs
theorem Lw{r:R2}(hr:u_ X r)(ha:PE X a ta)(hb:PE X b tb)(hs:DB b):PE X (.Subscript a b pos) (J8 r ta tb):=by
 intro z6 s σ H Q I h;exact Subscript_ (Ih ha hb I h λv u s2 x y H2 I2 rx ry q=>hr a b z6 s2 σ H2 x y v u Q I2 rx ry q (hs _ _))
def GN(K:W.Frag):R2:=λx y H Q=>∃p xs i v,x=.ref p/\y=.int i/\yP K H p xs/\t_ xs i=some v/\Q v H
def GP(K:W.Frag):R2:=λx y H Q=>∃p xs i v,x=.ref p/\y=.int i/\yq K H p xs/\t_ xs i=some v/\Q v H
def GO:R2:=λx y H Q=>∃z i c,x=.str z/\y=.int i/\z.length<=sizeLine/\t_ z.cps.toList i=some c/\Q (.str ⟨#[c]⟩) H
theorem S5:u_ X (GN X.K):=by
 intro value slice z6 s σ H x y v u Q I rx ry h hs;obtain⟨p,xs,i,z,rfl,rfl,hq,he,q⟩:=h;cases rx;obtain⟨t,rfl⟩:=ry;obtain⟨its,r,pl,hz⟩:=I.list hq;obtain⟨j,h1,h2,h3,h4,h5⟩:=Ic he;obtain⟨w,ew,rw'⟩:=r.get h2;have hl:=r.length;have hn:=Z8;have fin:EP X z6 σ Q w s:=⟨z,H,I,rw',q⟩;by_cases h0:0<=i
 ·have hj:i.toNat=j:=by
   rw[seqIndex_of h0 h5]at h1;exact vM h1
  exact item_listR pl.isList h0 (by omega) (by rw[hj]; simpa using ew) fin hs
 ·have hj:(i+(its.toArray.size:Int)).toNat=j:=by
   rw[seqIndex_neg (by omega) h4]at h1;rw[yg,<-hl];exact vM h1
  exact Jq (x:=w) pl.isList.typeIs slot_list_getitem.lookup
   (wpAny_getItem_list_neg (Q:=λr s'=>r=w/\EP X z6 σ Q r s') pl.isList (by omega) (by rw[yg]<;>omega) (by omega) (by rw[hj]; simpa using ew) ⟨rfl,fin⟩) hs
theorem S8:u_ X (GP X.K):=by
 intro value slice z6 s σ H x y v u Q I rx ry h hs;obtain⟨p,xs,i,z,rfl,rfl,hq,he,q⟩:=h;cases rx;obtain⟨t,rfl⟩:=ry;obtain⟨its,r,pl,hz⟩:=I.tuple hq;obtain⟨j,h1,h2,h3,h4,h5⟩:=Ic he;obtain⟨w,ew,rw'⟩:=r.get h2;have hl:=r.length;have hn:=Z8;have fin:EP X z6 σ Q w s:=⟨z,H,I,rw',q⟩
 exact Jq (x:=w) pl.typeIs slot_tuple_getitem.lookup
  (getItem_tuple (j:=j) (Q:=λr s'=>r=w/\EP X z6 σ Q r s') pl (by omega) (by omega) (by rw[yg,<-hl]; exact h1) (by simpa using ew) ⟨rfl,fin⟩) hs
theorem S7:u_ X GO:=by
 intro value slice z6 s σ H x y v u Q I rx ry h hs;obtain⟨z,i,c,rfl,rfl,hz,he,q⟩:=h;obtain⟨t,rfl⟩:=rx;obtain⟨t',rfl⟩:=ry;obtain⟨j,h1,h2,h3,h4,h5⟩:=Ic he;have hl:z.cps.toList.length=z.length:=by simp[Str.length]
 rw[hl]at h1 h4 h5;have hn:=Z8
 exact tail_any (Jr s z t) slot_str_getitem.lookup (getItem_str (c:=c) (by
  have e1:decide (i < -(2 ^ 63:Int))=false:=yh (by omega);have e2:decide (i≥2 ^ 63)=false:=yh (by omega);rw[e1,e2,JX]) (by rw[h1]; simpa using h2) ⟨.str ⟨#[c]⟩,H,I.tok _,⟨_,rfl⟩,q⟩) hs
def MB(K:W.Frag):R2:=λx y H Q=>GN K x y H Q\/GP K x y H Q\/GO x y H Q
theorem S6:u_ X (MB X.K):=S5.or (S8.or S7)
theorem Sq(its:List Value)(n j:Nat)(u:Value):Obj.mapSeq (·.setIfInBounds j u) { cls:=.type "list",data:=.seq its.toArray n }={ cls:=.type "list",data:=.seq (its.set j u).toArray n }:=by
 simp[Obj.mapSeq]
theorem Inv.lst{z6:List (Addr×Obj)}{σ:St}{H:Hp}{s:Shared}{p:Addr}{xs:List V}(I:Inv X z6 σ H s)(h:H p=some (.lst xs)) :
  ∃(its:List Value) (n:Nat),zu xs its/\s.heap.get? p=some { cls:=.type "list",data:=.seq its.toArray n }/\xs.length<=sizeLine:=by
 obtain⟨z,its,n,r,e⟩:=I.zg p _ h;exact⟨its,n,r,e,z⟩
theorem Inv.Kt{z6:List (Addr×Obj)}{σ:St}{H:Hp}{s:Shared}{p:Addr}{xs ys:List V}{its its':List Value}{n n':Nat}{f:Obj->Obj}(I:Inv X z6 σ H s)(h:H p=some (.lst xs))
  (ho:s.heap.get? p=some { cls:=.type "list",data:=.seq its.toArray n })(hf:f { cls:=.type "list",data:=.seq its.toArray n }={ cls:=.type "list",data:=.seq its'.toArray n' })(r:zu ys its')(hz:ys.length<=sizeLine)(t:Nat) :
  Inv X z6 σ (zb H p (.lst ys)) { s with heap:=s.heap.update p f,toks:=t }:=by
 have e:(s.heap.update p f).get? p=some { cls:=.type "list",data:=.seq its'.toArray n' }:=by
  rw[Heap.get?_update_self f ho (by rw[hf]<;>rfl),hf]
 refine I.write (x:=p) (e:=p) (by rw[h]; trivial) (.inl rfl) (λb u hb q=>(Heap.get?_update_other _ _ (tT hb)).trans q) ⟨_,e⟩ ?_;exact⟨hz,its',n',r,e⟩
def dF:V->V->V->Hp->(Hp->Prop)->Prop:=λo i v H Q=>∃p xs k j,o=.ref p/\i=.int k/\H p=some (.lst xs)/\ixN xs.length k=some j/\Q (zb H p (.lst (xs.set j v)))
theorem iI:IW X dF:=by
 intro z6 s σ H o i v ov iv u Q I ro ri rv h;obtain⟨p,xs,k,j,rfl,rfl,hp,hj,q⟩:=h;cases ro;obtain⟨t,rfl⟩:=ri;obtain⟨its,n,r,ho,hz⟩:=I.lst hp;obtain⟨h1,h2,h3,h4⟩:=C0 hj;have hl:=r.length;have hn:=Z8
 have I':Inv X z6 σ (zb H p (.lst (xs.set j v))) { s with heap:=s.heap.update p (Obj.mapSeq (·.setIfInBounds j u)) }:=
  I.Kt hp ho (Sq its n j u) (r.set rv j) (by rw[gm]; exact hz) s.toks
 by_cases h0:0<=k
 ·have hk:k.toNat=j:=by
   rw[seqIndex_of h0 h4]at h1;exact vM h1
  exact W.ki_setAt ho h0 (by omega) (by rw[yg,<-hl]; exact h4) (by rw[hk]; exact⟨_,I',q⟩)
 ·have hk:(k+(its.toArray.size:Int)).toNat=j:=by
   rw[seqIndex_neg (by omega) h3]at h1;rw[yg,<-hl];exact vM h1
  exact W.ki_setBack ho (by omega) (by rw[yg,<-hl]; exact h3) (by omega) (by rw[hk]; exact⟨_,I',q⟩)
theorem lN(lo hi:Option Int)(n:Nat):(sliceBounds lo hi none n).1=((HT.sIx n 0 lo:Nat):Int)/\(sliceBounds lo hi none n).2.1=((HT.sIx n n hi:Nat):Int)/\(sliceBounds lo hi none n).2.2=1:=by
 refine⟨?_,?_,rfl⟩
 ·cases lo with
  |none=>simp[sliceBounds,HT.sIx]
  |some i=>
   simp only[sliceBounds,HT.sIx,Option.getD_none,show(1:Int)>0 by decide,vv];by_cases h:i<0
   ·simp only[h,vv]<;>omega
   ·simp only[h,uV]<;>omega
 ·cases hi with
  |none=>simp[sliceBounds,HT.sIx]
  |some i=>
   simp only[sliceBounds,HT.sIx,Option.getD_none,show(1:Int)>0 by decide,vv];by_cases h:i<0
   ·simp only[h,vv]<;>omega
   ·simp only[h,uV]<;>omega
theorem lM(its:List Value)(lo hi:Option Int):slicePick its.toArray lo hi none=((its.drop (HT.sIx its.length 0 lo)).take (HT.sIx its.length its.length hi-HT.sIx its.length 0 lo)).toArray:=by
 obtain⟨h1,h2,h3⟩:=lN lo hi its.toArray.size;unfold slicePick;rw[h1,h2,h3];simp only[sliceRange_one,pick_run,yg]<;>rfl
def GQ(K:W.Frag):V->Option Int->Option Int->Hp->VK->Prop:=λx lo hi H Q=>∃a xs,x=.ref a/\yP K H a xs/\∀p,H p=none->Q (.ref p) (zb H p (.lst (g6 xs lo hi)))
theorem lI:p5 X (GQ X.K):=by
 intro z6 s σ H x v vl vu lo hi sl Q I rx hs pl pu h;obtain⟨a,xs,rfl,hx,q⟩:=h;cases rx;obtain⟨its,r,ht,hz⟩:=I.list hx;have hlen:=r.length;refine⟨"list",_,slot_list_getitem.lookup,ht.isList.typeIs,?_⟩;refine wpAny_getItem_list_slice ht.isList hs pl pu .none (by simp) ?_ (by rw[yg]<;>omega);rw[lM,<-hlen];refine⟨.ref s.heap.objs.size,_,I.laid (t':=s.toks) (o:=.lst (g6 xs lo hi)) (λb ob q=>Heap.get?_push_of_some _ q) (zt _) ?_,rfl,q _ (I.zg.fresh (zt _))⟩;exact⟨xj (Dm xs lo hi) hz,_,0,(r.drop (HT.sIx xs.length 0 lo)).take (HT.sIx xs.length xs.length hi-HT.sIx xs.length 0 lo),Heap.get?_push_size _ rfl⟩
def uI:V->Bool
 |.zE=>true
 |.bl _=>true
 |.int _=>true
 |.str _=>true
 |_=>false
def vS:V->V->Bool
 |.zE,.zE=>true
 |.bl a,.bl b=>a==b
 |.bl a,.int b=>(if a then 1 else 0)==b
 |.int a,.bl b=>a==(if b then 1 else 0)
 |.int a,.int b=>a==b
 |.str a,.str b=>a==b
 |_,_=>false
theorem FJ{A:Around}{s:Shared}{y x:V}{u v:Value}(ry:z_ y u)(rx:z_ x v)(fy:uI y=true)(fx:uI x=true):SeqAt.EqAt A s u v (vS y x):=by
 cases y with
 |zE=>
  cases ry;cases x with
  |zE=>cases rx; exact Bd _
  |bl b=>cases rx; exact SeqAt.EqAt.none_bool b
  |int b=>obtain⟨t,rfl⟩:=rx; exact SeqAt.EqAt.none_int b t
  |str b=>obtain⟨t,rfl⟩:=rx; exact SeqAt.EqAt.none_str b t
  |_=>exact absurd (show false=true from fx) xG
 |bl a=>
  cases ry;cases x with
  |zE=>cases rx; exact SeqAt.EqAt.bool_none a
  |bl b=>cases rx; exact SeqAt.EqAt.bool_bool a b
  |int b=>obtain⟨t,rfl⟩:=rx; exact SeqAt.EqAt.bool_int a b t
  |str b=>obtain⟨t,rfl⟩:=rx; exact SeqAt.EqAt.bool_str a b t
  |_=>exact absurd (show false=true from fx) xG
 |int a=>
  obtain⟨t',rfl⟩:=ry;cases x with
  |zE=>cases rx; exact SeqAt.EqAt.int_none a t'
  |bl b=>cases rx; exact SeqAt.EqAt.int_bool a t' b
  |int b=>obtain⟨t,rfl⟩:=rx; exact SeqAt.EqAt.int_int a t' b t
  |str b=>obtain⟨t,rfl⟩:=rx; exact SeqAt.EqAt.int_str a t' b t
  |_=>exact absurd (show false=true from fx) xG
 |str a=>
  obtain⟨t',rfl⟩:=ry;cases x with
  |zE=>cases rx; exact SeqAt.EqAt.str_none a t'
  |bl b=>cases rx; exact SeqAt.EqAt.str_bool a t' b
  |int b=>obtain⟨t,rfl⟩:=rx; exact SeqAt.EqAt.str_int a t' b t
  |str b=>obtain⟨t,rfl⟩:=rx; exact SeqAt.EqAt.str_str a t' b t
  |_=>exact absurd (show false=true from fx) xG
 |_=>exact absurd (show false=true from fy) xG
def vH(x:V)(u:Value):Bool:=match u with
 |.none=>vS .zE x
 |.bool b=>vS (.bl b) x
 |.int i _=>vS (.int i) x
 |.str z _=>vS (.str z) x
 |_=>false
theorem Tm{x y:V}{u:Value}(r:z_ y u)(f:uI y=true):vH x u=vS y x:=by
 cases y with
 |zE=>cases r; rfl
 |bl b=>cases r; rfl
 |int i=>obtain⟨t,rfl⟩:=r; rfl
 |str z=>obtain⟨t,rfl⟩:=r; rfl
 |_=>exact absurd (show false=true from f) xG
theorem XZ{x:V}:∀{xs:List V}{us:List Value},zu xs us->xs.all uI=true->us.any (vH x)=xs.any λy=>vS y x
 |_,_,.nil,_=>rfl
 |y::xs,u::us,.cons r t,f=>by
  rw[vA,xL]at f;rw[X6,X6,Tm r f.1,XZ t f.2]
theorem Z9{A:Around}{s:Shared}{x:V}{v:Value}(rx:z_ x v)(fx:uI x=true):∀{xs:List V}{us:List Value},zu xs us->xs.all uI=true->∀u∈us,SeqAt.EqAt A s u v (vH x u)
 |_,_,.nil,_=>λu hu=>by cases hu
 |y::xs,u::us,.cons r t,f=>λu' hu=>by
  rw[vA,xL]at f;rcases yV.mp hu with rfl|hu
  ·rw[Tm r f.1]; exact FJ r rx f.1 fx
  ·exact Z9 rx fx t f.2 u' hu
def QB(x:V)(xs:List V):Bool:=xs.any λy=>vS y x
def M9(K:W.Frag)(neg:Bool):R2:=λx y H Q=>∃p xs,y=.ref p/\(yP K H p xs\/yq K H p xs)/\uI x=true/\xs.all uI=true/\Q (.bl (if neg then !QB x xs else QB x xs)) H
theorem bA:yX X (compareOp .In) (M9 X.K false):=by
 intro z6 s σ H x y v u Q I rx ry h;obtain⟨p,xs,rfl,hq,fx,fs,q⟩:=h;cases ry;rcases hq with hq|hq
 ·obtain⟨its,r,pl,hz⟩:=I.list hq;refine SeqAt.in_listAt (vH x) pl.isList (λw hw=>Z9 rx fx r fs w (by simpa using hw)) ⟨.bl _,H,I,rfl,?_⟩;rw[show its.toArray.any (vH x)=its.any (vH x) by simp,XZ r fs];exact q
 ·obtain⟨its,r,pl,hz⟩:=I.tuple hq;refine SeqAt.in_tupleAt (vH x) pl (λw hw=>Z9 rx fx r fs w (by simpa using hw)) ⟨.bl _,H,I,rfl,?_⟩;rw[show its.toArray.any (vH x)=its.any (vH x) by simp,XZ r fs];exact q
theorem bE:yX X (compareOp .NotIn) (M9 X.K true):=by
 intro z6 s σ H x y v u Q I rx ry h;obtain⟨p,xs,rfl,hq,fx,fs,q⟩:=h;cases ry;rcases hq with hq|hq
 ·obtain⟨its,r,pl,hz⟩:=I.list hq;refine SeqAt.notIn_listAt (vH x) pl.isList (λw hw=>Z9 rx fx r fs w (by simpa using hw)) ⟨.bl _,H,I,rfl,?_⟩;rw[show its.toArray.any (vH x)=its.any (vH x) by simp,XZ r fs];exact q
 ·obtain⟨its,r,pl,hz⟩:=I.tuple hq;refine SeqAt.notIn_tupleAt (vH x) pl (λw hw=>Z9 rx fx r fs w (by simpa using hw)) ⟨.bl _,H,I,rfl,?_⟩;rw[show its.toArray.any (vH x)=its.any (vH x) by simp,XZ r fs];exact q
theorem bF:yX X (compareOp .NotIn) (λx y H Q=>∃i j,x=.str i/\y=.str j/\Q (.bl (!(!(Builtin.Str.occurrences j i 0 j.length 1).isEmpty))) H):=by
 intro z6 s σ H x y v u Q I rx ry h;obtain⟨i,j,rfl,rfl,q⟩:=h;obtain⟨t,rfl⟩:=rx;obtain⟨t',rfl⟩:=ry;exact notIn_str ⟨.bl _,H,I,rfl,q⟩
theorem Nb:wS X (.builtin "len") (λxs H Q=>∃p ys,xs=[.ref p]/\(yP X.K H p ys\/yq X.K H p ys)/\Q (.int ys.length) H):=by
 intro z6 s σ H xs us Q I r h;obtain⟨p,ys,rfl,hq,q⟩:=h;obtain⟨u,rfl,rx⟩:=vY r;cases rx;have hn:=Z8;rcases hq with hq|hq
 ·obtain⟨its,r',pl,hz⟩:=I.list hq;have hlen:=r'.length;exact Calls.call_len_list pl.isList (by simp only[yg]<;>omega) ⟨.int ys.length,H,I.tok _,⟨s.toks+1,by rw[yg,hlen]⟩,q⟩
 ·obtain⟨its,r',pl,hz⟩:=I.tuple hq;have hlen:=r'.length;exact len_tuple pl (by simp only[yg]<;>omega) ⟨.int ys.length,H,I.tok _,⟨s.toks+1,by rw[yg,hlen]⟩,q⟩
theorem Nc:wS X (.builtin "len") (λxs H Q=>∃z,xs=[.str z]/\z.length<=sizeLine/\Q (.int z.length) H):=by
 intro z6 s σ H xs us Q I r h;obtain⟨z,rfl,hz,q⟩:=h;obtain⟨u,rfl,t,rfl⟩:=vY r;have hn:=Z8;exact len_str (by omega) ⟨.int z.length,H,I.tok _,⟨_,rfl⟩,q⟩
theorem wS.or{f:Value}{r r':List V->Hp->VK->Prop}(h:wS X f r)(h':wS X f r'):wS X f (λxs H Q=>r xs H Q\/r' xs H Q):=by
 intro z6 s σ H xs us Q I rs q;rcases q with q|q
 ·exact h z6 s σ H xs us Q I rs q
 ·exact h' z6 s σ H xs us Q I rs q
theorem Nm:wS X (.type "tuple") (λxs H Q=>∃p ys,xs=[.ref p]/\((yP X.K H p ys/\∀l,H l=none->Q (.ref l) (zb H l (.tup ys)))\/(yq X.K H p ys/\Q (.ref p) H))):=by
 intro z6 s σ H xs us Q I r h;obtain⟨p,ys,rfl,h⟩:=h;obtain⟨u,rfl,rx⟩:=vY r;cases rx;rcases h with⟨hq,q⟩|⟨hq,q⟩
 ·obtain⟨its,r',pl,hz⟩:=I.list hq;have hlen:=r'.length;refine call_tuple_list pl.isList (λh' kp=>?_) (by simp only[yg]<;>omega);have I1:Inv X z6 σ H { s with heap:=h' }:=I.kept (t':=s.toks) kp
  have I2:Inv X z6 σ (zb H h'.objs.size (.tup ys)) { s with heap:=h'.push { cls:=.type "tuple",data:=.seq its.toArray } }:=
   I1.laid (t':=s.toks) (λb o e=>Heap.get?_push_of_some _ e) (zt _) (show xC X.prog X.w _ _ _ (.tup ys)from⟨hz,its,r',IsTup.new _ _⟩)
  exact⟨.ref h'.objs.size,_,I2,rfl,q _ (I1.zg.fresh (zt _))⟩
 ·obtain⟨its,r',pl,hz⟩:=I.tuple hq;exact call_tuple_same pl ⟨.ref p,H,I,rfl,q⟩
def Hg(K:W.Frag)(T:String)(x:V)(H:Hp):Prop:=match x with
 |.str _=>T = "str"
 |.int _=>T = "int"
 |.ref p=>(T = "list" /\ ∃xs,yP K H p xs)\/(T = "tuple" /\ ∃o,K.lookup p=some o/\o.cls=.type "tuple" /\ o.dict=none) \/
   (T = "dict" /\ ((∃kvs,H p=some (.dK kvs))\/∃kvs,H p=some (.dT kvs)))\/(T = "set" /\ ∃S n,H p=some (.set S n))
 |_=>False
theorem rE{z6:List (Addr×Obj)}{σ:St}{H:Hp}{s:Shared}{T:String}{x:V}{v:Value}(I:Inv X z6 σ H s)(r:z_ x v)(ty:Hg X.K T x H) :
  s.TypeIs v T/\∀a,v=.ref a->∃ob,s.heap.get? a=some ob/\ob.dict=none:=by
 cases x with
 |str z=>
  obtain⟨t,rfl⟩:=r;cases(show T = "str" from ty);exact⟨Jr s z t,λ_ e=>nomatch e⟩
 |int i=>
  obtain⟨t,rfl⟩:=r;cases(show T = "int" from ty);exact⟨typeIs_int s i t,λ_ e=>nomatch e⟩
 |ref p=>
  cases r;rcases ty with⟨rfl,xs,hq⟩|⟨rfl,o,hk,hc,hd⟩|⟨rfl,hk⟩|⟨rfl,S,n,hk⟩
  ·obtain⟨its,_,pl,_⟩:=I.list hq;refine⟨pl.isList.typeIs,λa e=>?_⟩;cases e;obtain⟨o,n,e,c,hd,_⟩:=pl;exact⟨o,e,hd⟩
  ·refine⟨⟨o,I.uw p o hk,hc⟩,λa e=>?_⟩;cases e;exact⟨o,I.uw _ o hk,hd⟩
  ·have z:∃o,s.heap.get? p=some o/\o.ExactDict:=by
    rcases hk with⟨kvs,hk⟩|⟨kvs,hk⟩
    ·obtain⟨_,_,_,_,o,_,_,e,ex,_⟩:=I.zg p _ hk;exact⟨o,e,ex⟩
    ·obtain⟨_,_,_,_,o,_,_,e,ex,_⟩:=I.zg p _ hk;exact⟨o,e,ex⟩
   obtain⟨o,e,ex⟩:=z;refine⟨⟨o,e,ex.1⟩,λa e2=>?_⟩;cases e2;exact⟨o,e,ex.2.1⟩
  ·obtain⟨o,_,_,_,e,ex,_⟩:=I.zg p _ hk;refine⟨⟨o,e,ex.1⟩,λa e2=>?_⟩;cases e2;exact⟨o,e,ex.2.1⟩
 |_=>exact False.elim ty
def HX(K:W.Frag)(T:String)(r:V->List V->Hp->VK->Prop)(to:TE)(t:TA):TE:=λσ H Q=>to σ H λx H1=>Hg K T x H1/\t σ H1 λxs H2=>r x xs H2 Q
variable{o e:Expr}{es:List Expr}{to:TE}{t:TA}{name:Str}{apos cpos:Pos}{T id:String}{r:V->List V->Hp->VK->Prop}
theorem bM(pa:PlainAttrs T)(slot:Slot T name id)(hty:typeOf (.builtin id)=pure (.type "method_descriptor"))(hm:XQ X id r)(ho:PE X o to)(ha:PA X (e::es) t)
  (hbase:attributeBase o name X.env (eval o X.env)=eval o X.env:=by rfl)
  (hfew:((backTo cpos (starEach (e::es) X.env)).all (λx=>!x.1)&&(backToKw cpos (keywordEach [] X.env)).all (λx=>x.1.isSome)
   && decide ((e::es).length+([]:List Keyword).length+(if([]:List Keyword).isEmpty then 0 else 1)<30))=true:=by rfl)
  (hline:(apos.endLine==cpos.line)=true:=by rfl)(hs:starEach (e::es) X.env=(false,eval e X.env)::starEach es X.env:=by rfl)(hplain:(backTo cpos (starEach es X.env)).any (·.1)=false:=by rfl) :
  PE X (.Call (.Attribute o name apos) (e::es) [] cpos) (HX X.K T r to t):=by
 intro z6 s σ H Q I h;refine wpAny_Call_method_late hbase hfew hline rfl (zo (ho z6 s σ H _ I h) λv s1 ⟨x,H1,I1,r1,ty,q1⟩=>?_);obtain⟨h1,h2⟩:=rE I1 r1 ty;refine⟨T,id,pa,slot,hty,h1,h2,?_⟩;have hA:=ha cpos z6 s1 σ H1 _ I1 q1;rw[hs]at hA ⊢;refine JY (by show(false||(backTo cpos (starEach es X.env)).any (·.1))=false; rw[hplain]<;>rfl) (Calls.evalArgs_plain ?_);exact zo hA λus s2 ⟨vs,H2,I2,r2,q2⟩=>hm z6 s2 σ H2 x vs v us Q I2 r1 r2 q2
end
def Bz(X:Cx)(id:String)(r:V->List V->Hp->VK->Prop):Prop:=
 ∀(z6:List (Addr×Obj)) (s:Shared) (σ:St) (H:Hp) (x:V) (xs:List V) (v:Value) (us:List Value) (Q:VK),Inv X z6 σ H s->z_ x v->zu xs us->r x xs H Q->
  wpAny (model X.prog X.w) X.A (call (.builtin id) (v::us)) (EP X z6 σ Q) X.xe s
theorem zu.one:∀{x:V}{us:List Value},zu [x] us->∃u,us=[u]/\z_ x u
 |_,_,.cons r .nil=>⟨_,rfl,r⟩
section
variable{X:Cx}{z6:List (Addr×Obj)}{σ:St}{H:Hp}{s:Shared}{l b:Addr}{xs ys zs:List V}
theorem Inv.Bq{its its':List Value}{n:Nat}{f:Array Value->Array Value}{t':Nat}(I:Inv X z6 σ H s)(hH:H l=some (.lst xs))
  (e:s.heap.get? l=some { cls:=.type "list",data:=.seq its.toArray n })(hf:f its.toArray=its'.toArray)(hv:zu ys its')(hz:ys.length<=sizeLine) :
  Inv X z6 σ (zb H l (.lst ys)) { s with heap:=s.heap.update l (Obj.mapSeq f),toks:=t' }:=by
 have q:=PySem.IsL.update e f;rw[hf]at q;refine I.write (x:=l) (e:=l) (by rw[hH]; exact trivial) (.inl rfl) (λb' u hb hu=>(Heap.get?_update_other s.heap (Obj.mapSeq f) (tT hb)).trans hu) ⟨_,q⟩ ?_;exact⟨hz,its',_,hv,q⟩
theorem Inv.Ks{its:List Value}{t':Nat}(I:Inv X z6 σ H s)(hv:zu ys its)(hz:ys.length<=sizeLine) :
  Inv X z6 σ (zb H s.heap.objs.size (.lst ys)) { s with heap:=s.heap.push { cls:=.type "list",data:=.seq its.toArray },toks:=t' }:=
 I.laid (λ_ _ q=>Heap.get?_push_of_some _ q) (zt _) ⟨hz,its,0,hv,Heap.get?_push_size _ rfl⟩
theorem Inv.fresh(I:Inv X z6 σ H s):H s.heap.objs.size=none:=I.zg.fresh (zt _)
theorem Inv.IE(I:Inv X z6 σ H s)(hH:H l=some (.lst xs)):xs.length<=sizeLine/\∃(its:List Value) (n:Nat),zu xs its/\xs.length=its.length/\s.heap.get? l=some { cls:=.type "list",data:=.seq its.toArray n }:=by
 obtain⟨z,its,n,r,e⟩:=I.zg l _ hH;exact⟨z,its,n,r,r.length,e⟩
theorem AT{n:Nat}(h:n<=sizeLine):Builtin.List.listTooLong n=false:=by
 unfold Builtin.List.listTooLong;exact yh (by omega)
end
section
variable{X:Cx}
def d8:V->List V->Hp->VK->Prop:=λx vs H Q=>∃l xs y,x=.ref l/\vs=[y]/\H l=some (.lst xs)/\xs.length<sizeLine/\Q .zE (zb H l (.lst (xs++[y])))
theorem Su:Bz X "list.append" d8:=by
 intro z6 s σ H x vs v us Q I rx rv h;obtain⟨l,xs,y,rfl,rfl,hH,hz,q⟩:=h;cases rx;obtain⟨u,rfl,ru⟩:=rv.one;obtain⟨z,its,n,r,hl,e⟩:=I.IE hH;refine Vr F.slot_list_append ⟨_,e,rfl⟩ F.entry_list_append (F.args_list_append_2 _ _) (PySem.list_append l its.toArray n u (by rw[yg]; omega)) ⟨e,?_⟩;refine⟨.zE,_,I.Bq (its':=its++[u]) hH e (by simp) (r.append (.cons ru .nil)) ?_,rfl,q⟩;rw[ya,Vl];omega
def dB:V->List V->Hp->VK->Prop:=λx vs H Q=>∃l b xs zs,x=.ref l/\vs=[.ref b]/\H l=some (.lst xs)/\H b=some (.lst zs)/\xs.length+zs.length<=sizeLine/\Q .zE (zb H l (.lst (xs++zs)))
theorem Sv:Bz X "list.extend" dB:=by
 intro z6 s σ H x vs v us Q I rx rv h;obtain⟨l,b,xs,zs,rfl,rfl,hH,hB,hz,q⟩:=h;cases rx;obtain⟨u,rfl,ru⟩:=rv.one;cases ru;obtain⟨z,its,n,r,hl,e⟩:=I.IE hH;obtain⟨z2,its2,n2,r2,hl2,e2⟩:=I.IE hB;have hsz:its.toArray.size+its2.toArray.size<=sizeLine:=by rw[yg,yg]; omega
 have hlong:¬ (!its.toArray.isEmpty&&Builtin.List.listTooLong (its.toArray.size+its2.toArray.size))=true:=by
  rw[AT hsz,JV];exact xG
 refine Vr F.slot_list_extend ⟨_,e,rfl⟩ F.entry_list_extend (F.args_list_extend_2 _ _)
  (AutoSeq1.list_extend_list_list_0 l its.toArray n b its2.toArray n2 hlong (by rw[yg]; omega) (by omega)) ⟨e,e2,?_⟩
 refine⟨.zE,_,I.Bq (its':=its++its2) hH e (by simp) (r.append r2) ?_,rfl,q⟩;rw[ya];omega
end
section
variable{prog:Program}{w:World}{A:Around}{E:Value->Shared->Prop}{s:Shared}
end
section
variable{X:Cx}
end
end L2
namespace Att
open PySem PySem.W PySem.Calls PyProof.Rows
theorem Rp{P:Params}{h:Heap}:∀(ns:List Int)(vs:List Value),WellAll P h vs (ns.map WData.int)->IntsAre vs ns:=by
 intro ns
 induction ns with
 |nil=>
  intro vs w;rw[gx]at w;cases w;exact .nil
 |cons n ns ih=>
  intro vs w;rw[xw]at w;cases w with
  |cons a b=>
   cases a;exact .cons _ _ (ih _ b)
theorem script_of{l:OpenLaw}{n:Nat}(hn:l.most=some n){P:Params}{h:Heap}{args:List WData}{vals:List Value}
  (hpre:l.row.toRowW.claim.pre args=true)(hwl:WellAll P h vals args) :
  ∃a vs ns,vals=[Value.ref a]/\args=[WData.list (ns.map WData.int)]/\h.get? a=some { cls:=.type "list",data:=.seq vs.toArray }/\IntsAre vs ns/\ns.length<=n:=by
 have hsh:WShape.hasAll [] args [.list .int]=true:=(pre_splitW hpre).1;have hc:l.pre.holds [] { args:=args }=true:=(pre_splitW hpre).2;obtain⟨d,r,rfl,h1,h2⟩:=hasAllW_cons hsh;obtain rfl:=hasAllW_nil h2;obtain⟨xs,rfl,h3⟩:=hasW_list h1;obtain⟨ns,rfl⟩:=items_int h3
 have hlen:ns.length<=n:=by
  unfold OpenLaw.pre at hc
  have h4:(WTm.not (.lt (.lit (.int (n:Int))) (.len (.arg 0)))).holds [] { args:=[.list (ns.map .int)] }=true:=by
   have h4:=(holds_andW hc).1;rw[hn]at h4;exact h4
  have h5:=condW_of h4 (w_not (w_lt w_lit (w_len_list (w_arg rfl))));rw[zr]at h5;refine Nat.le_of_not_lt λq=>?_
  have q':(n:Int)<((ns.length:Nat):Int):=by omega
  first
   |(rw[ye q']at h5; exact absurd h5 (by decide))
   |(simp at h5; omega)
 cases hwl with
 |cons w1 w2=>
  cases w2;cases w1 with
  |list ho hall=>exact⟨_,_,ns,rfl,rfl,ho,Rp ns _ hall,hlen⟩
theorem post_true(l:OpenLaw)(args:List WData):l.row.toRowW.claim.post args (.bool true) args=true:=
 postW_of (r:=l.row.toRowW) (X:=(true==true))
  (show WShape.has [] (.bool true) .bool=true by first|rfl|decide|simp[WShape.has,WShape.arms,WShape.armsAll])
  (show(WTm.eq .res (.lit (.bool true))).value [] { args:=args,res:=some (.bool true),after:=args }=some (.bool (true==true))from w_eq_bool (w_res rfl) w_lit) rfl
section
variable{prog:Program}{w:World}{A:Around}{E:Value->Shared->Prop}{s:Shared}{K:Frag}
end
end Att
namespace L2
open PySem PySem.Spec PyProof.Rows
theorem Hr:∀{vs:List Value}{ns:List Int},IntsAre vs ns->zu (ns.map V.int) vs
 |_,_,.nil=>.nil
 |_,_,.cons n t h=>.cons ⟨t,rfl⟩ (Hr h)
def DA(H:Hp):Prop:=∀b,H b=none\/∃o xs,H b=some (.y1 o (.lst xs))
theorem Se{P:Program}{w:World}{K:W.Frag}{mg mb:Str->Option Value}{CX:qr}{k:Nat}{fa a:Addr}{fd:FuncData}{x:Str}{sp:Sp}{s₁:Shared}{vs:List Value}{ns:List Int}
  (KX:K.In s₁.heap)(hns:s₁.heap.Ns mainGlobals mg)(hb:s₁.heap.Ns builtinsNs mb)(hbb:∀x:Str,x ≠ "__name__" -> mb x=bootBuiltins x)(hlim:s₁.heap.NoLimit)(hg:s₁.gens=#[])
  (ha:s₁.heap.get? a=some { cls:=.type "list",data:=.seq vs.toArray })(hi:IntsAre vs ns)(hl:ns.length<=sizeLine)(hr:xy k callerA)
  (F:∀base:Heap,K.In base->base.Ns mainGlobals mg->tj P w K mg base CX k fa fd [x] sp)(hbind:∀(s:Shared)(u:Value),BindsTo s fd ⟨[u],[]⟩ [(x,u)])
  (hsp:∀H:Hp,DA H->yP K H a (ns.map V.int)->sp [.ref a] H (λv _=>v=.bl true) λ_ _ _=>False)
  (hCX:∀H e s',CX [] H s₁ (λ_ _ _=>False) e s'->False) :
  codeAny (model P w) callerA (.call (.ref fa) ⟨[.ref a],[]⟩) (λr s'=>r=.ok (.ret (.bool true))/\OldK s₁.heap s'.heap/\s'.os=s₁.os/\AllBare s'.gens) s₁:=by
 have rv:=Hr hi;have lenV:=hi.length
 have core:∀H:Hp,DA H->yP K H a (ns.map V.int)->xM P w H s₁.heap->(∀b,H b≠none->b=a)->(H a≠none->K.lookup a=none)->
   codeAny (model P w) callerA (.call (.ref fa) ⟨[.ref a],[]⟩) (λr s'=>r=.ok (.ret (.bool true))/\OldK s₁.heap s'.heap/\s'.os=s₁.os/\AllBare s'.gens) s₁:=by
  intro H hO hS zg hA hK;have base_of:∀{b:Addr}{o:Obj},s₁.heap.get? b=some o->H b=none->(jA s₁.heap H).get? b=some o:=λe n=>RY e n
  have noA:∀{b:Addr}{o:Obj}{es:Array DictEntry}{ep:Nat},s₁.heap.get? b=some o->o.data=.dict es ep->H b=none:=λ{b o es ep} e d=>by
   cases q:H b with
   |none=>rfl
   |some u=>
    have e':b=a:=hA b (by rw[q]; simp);subst e';rw[ha]at e; cases e;have d':Data.seq vs.toArray _=Data.dict es ep:=d;cases d'
  have nsK:∀{b:Addr}{m:Str->Option Value},s₁.heap.Ns b m->(jA s₁.heap H).Ns b m:=λ{b m} ⟨o,es,ep,e,d,r⟩=>⟨o,es,ep,base_of e (noA e d),d,r⟩
  have hKb:K.In (jA s₁.heap H):=λb o e=>base_of (KX b o e) (by
   cases q:H b with
   |none=>rfl
   |some u=>
    have e':b=a:=hA b (by rw[q]; simp);subst e';rw[hK (by rw[q]; simp)]at e; cases e)
  have hM:Mod K mg (jA s₁.heap H):=⟨hKb,nsK hns,⟨mb,nsK hb,hbb⟩,let ⟨mc,h1,h2⟩:=hlim; ⟨mc,nsK h1,h2⟩⟩;have e0:UW P w K mg (jA s₁.heap H) callerA [] s₁ H:=⟨rfl,hM,λb o e=>AY e,Nat.le_of_eq (RZ _ _),trivial,λb hb=>absurd (show b∈([]:List Addr)from hb) (by simp),zg,.of_eq hg⟩;refine Vs ((F _ hKb (nsK hns)).run callerA [] s₁ H ⟨[.ref a],[]⟩ [.ref a] [.ref a] _ _ hr e0 (hbind s₁ (.ref a)) (.cons rfl .nil) (hsp H hO hS)) λr s' h=>?_
  cases r with
  |error e=>exact(hCX H e s' h).elim
  |ok fl=>
   cases fl with
   |next=>exact False.elim h
   |brk=>exact False.elim h
   |cont=>exact False.elim h
   |ret u=>
    obtain⟨v,H',os,bare,un,hok',r',q⟩:=h;have q':v=.bl true:=q;subst q';obtain rfl:u=Value.bool true:=r';refine⟨rfl,OldK.of_keep λb o e=>?_,os,bare⟩;cases q:H b with
    |none=>exact un.keep b o e q (by intro z; exact absurd (show b∈([]:List Addr)from z) (by simp)) (by simp)
    |some u=>
     rcases hO b with z|⟨ob,xs,z⟩
     ·rw[q]at z; cases z
     ·have z2:=un.ve b ob _ z;obtain⟨e1,_⟩:=zg b _ z;obtain⟨e2,_⟩:=hok' b _ z2;rw[e]at e1; cases e1;exact e2
 cases hk:K.lookup a with
 |some o=>
  have e:=KX a o hk;rw[ha]at e;cases e;refine core (λ_=>none) (λ_=>.inl rfl) (.inr ⟨_,vs.toArray,_,hk,rfl,rfl,rfl,by rw[yg,lenV]; exact hl,by simpa using rv⟩) (λb u z=>by have z':(none:Option HO)=some u:=z; cases z') (λb z=>absurd rfl z) λz=>absurd rfl z
 |none=>
  refine core (λb=>if b=a then some (.y1 { cls:=.type "list",data:=.seq vs.toArray } (.lst (ns.map V.int)))else none) (λb=>?_) (.inl (.inr ⟨{ cls:=.type "list",data:=.seq vs.toArray },zP rfl⟩)) (λb u z=>?_) (λb z=>?_) λ_=>hk
  ·by_cases hb:b=a
   ·exact .inr ⟨_,_,zP hb⟩
   ·exact .inl (zS hb)
  ·by_cases hb:b=a
   ·have z':=(zP hb).symm.trans z;cases z';subst hb;exact⟨ha,by rw[zr]; exact hl,vs,_,rv,ha⟩
   ·have z':=(zS hb).symm.trans z;cases z'
  ·by_cases hb:b=a
   ·exact hb
   ·exact absurd (zS hb) z
def YJ(s:Stmt):Arguments:=match s with
 |.FunctionDef _ a _ _ _ _ _ _ _ _=>a
 |_=>{ posonlyargs:=[],args:=[],vararg:=none,kwonlyargs:=[],kw_defaults:=[],kwarg:=none,defaults:=[] }
def p9(s:Stmt):List Stmt:=match s with
 |.FunctionDef _ _ b _ _ _ _ _ _ _=>b
 |_=>[]
def zw(s:Stmt):Scope:=match s with
 |.FunctionDef _ _ _ _ _ _ sc _ _ _=>sc
 |_=>{ kind:=.function,names:=[],isGenerator:=false,isCoroutine:=false }
abbrev tZ:qr:=λ_ _ _ _ _ _=>False
abbrev E0:XK:=λ_ _ _=>False
theorem Ef{X:Cx}:Uc tZ X E0:=λ_ _ _ _ _ _ _ h=>h.elim
structure jw(K:W.Frag)(x qual:Str)(st:Stmt)(f:Addr)(fd:FuncData):Prop where
 ex:∃(oc:Value) (od:Option Addr) (kV doc pm:Value) (an:Option Addr) (cdv ct:Value) (osl:Array (Option Value)),
  fd=W.fnOf x qual (YJ st) (p9 st) (zw st) .none kV doc pm an cdv ct/\K.lookup f=some ⟨oc,od,.func fd,osl⟩/\W.codeIn K cdv qual=true
 kp:W.keepIn K (.ref f)=true
section
variable{P:Program}{w:World}{K:W.Frag}{mg:Str->Option Value}{base:Heap}
theorem jw.ok{x qual:Str}{st:Stmt}{f:Addr}{fd:FuncData}{N ps:List Str}{k:Nat}{sp:Sp}(F:jw K x qual st f fd)(S:y9 N ps (zw st))(len:∀vs H Q E,sp vs H Q E->vs.length=ps.length)
  (hbody:∀(cdv:Value)(A:Around)(outer:List Env)(s:Shared)(H:Hp)(vs:List V)(Q:VK)(E:XK),xy k (A.deeper (envOfC qual (zw st) s.heap.objs.size f cdv))->sp vs H Q E->
   ∃t,vx (j1 tZ P w K mg base N qual (zw st) f cdv A outer s H E).kF (p9 st) t/\t { nx:=λ_ H'=>Q .zE H',rt:=Q } (start N vs) H):tj P w K mg base tZ (k+1) f fd ps sp:=by
 obtain⟨oc,od,kV,doc,pm,an,cdv,ct,osl,rfl,lk,hcd⟩:=F.ex;refine Pb lk hcd S len λA outer s H vs Q E hr hsp=>?_
 obtain⟨t,h,q⟩:=hbody cdv A outer s H vs Q E hr hsp;exact⟨t,h.kF,q⟩
theorem jw.binds{x qual:Str}{st:Stmt}{f:Addr}{fd:FuncData}{ps:List Str}(F:jw K x qual st f fd)
  (h:∀(kV doc pm:Value)(an:Option Addr)(cdv ct:Value)(us:List Value),us.length=ps.length->bindArgs (W.fnOf x qual (YJ st) (p9 st) (zw st) .none kV doc pm an cdv ct) ⟨us,[]⟩=pure (ps.zip us)):jh K fd ps []:=by
 obtain⟨oc,od,kV,doc,pm,an,cdv,ct,osl,rfl,lk,hcd⟩:=F.ex;exact .all (h kV doc pm an cdv ct)
theorem yH{x qual:Str}{st:Stmt}{f:Addr}{oc:Value}{od an:Option Addr}{osl:Array (Option Value)}{kV doc pm cdv ct:Value}(l:K.lookup f=some ⟨oc,od,.func (W.fnOf x qual (YJ st) (p9 st) (zw st) .none kV doc pm an cdv ct),osl⟩)
  (c:W.codeIn K cdv qual=true)(k:W.keepIn K (.ref f)=true):jw K x qual st f (W.fnOf x qual (YJ st) (p9 st) (zw st) .none kV doc pm an cdv ct):=⟨⟨oc,od,kV,doc,pm,an,cdv,ct,osl,rfl,l,c⟩,k⟩
end
theorem zc{A:Around}{k:Nat}(hr:xy k A):A.units+1<cLine:=BY (Kd (by decide:1<=64) _) hr.units
theorem lP{n:Nat}(h:n<=1000):n<sizeLine:=BY h (by decide)
section
variable{X:Cx}
end
theorem jC{A B:Prop}(h:B):if false=true then A else B:=by
 rw[zS xG];exact h
theorem jD{A B:Prop}(h:A):if true=true then A else B:=by
 rw[zP rfl];exact h
def yU(H H':Hp):Prop:=∀b o,H b=some o->H' b=some o
theorem yU.refl(H:Hp):yU H H:=λ_ _ h=>h
theorem yU.trans{H H1 H2:Hp}(a:yU H H1)(b:yU H1 H2):yU H H2:=λc o h=>b c o (a c o h)
theorem yU.free{H H':Hp}(e:yU H H'){l:Addr}(h:H' l=Option.none):H l=Option.none:=by
 cases q:H l with
 |none=>rfl
 |some o=>
  rw[e l o q]at h;cases h
end L2
set_option linter.all false
set_option maxRecDepth 100000
set_option maxHeartbeats 4000000
namespace L2
open PySem PySem.Spec PyProof.Rows
def zK(K:W.Frag)(mg:Str->Option Value)(x:Str)(st:Stmt)(ps:List Str):Prop:=
 ∃(f:Addr) (fd:FuncData),jw K x x st f fd/\mg x=some (.ref f)/\jh K fd ps []
def zR(P:Program)(w:World)(K:W.Frag)(mg:Str->Option Value)(base:Heap)(x:Str)(ps:List Str)(k:Nat)(sp:Sp):Prop:=
 ∃(f:Addr) (fd:FuncData),mg x=some (.ref f)/\W.keepIn K (.ref f)=true/\jh K fd ps []/\tj P w K mg base tZ k f fd ps sp
def yf(mg:Str->Option Value)(x:Str)(v:V):Prop:=∃u,mg x=some u/\z_ v u
section
variable{P:Program}{w:World}{K:W.Frag}{mg:Str->Option Value}{base:Heap}
theorem zK.ok{x:Str}{st:Stmt}{N ps:List Str}{k:Nat}{sp:Sp}(d:zK K mg x st ps)(S:y9 N ps (zw st))(len:∀vs H Q E,sp vs H Q E->vs.length=ps.length)
  (hbody:∀(f:Addr)(cdv:Value)(A:Around)(outer:List Env)(s:Shared)(H:Hp)(vs:List V)(Q:VK)(E:XK),xy k (A.deeper (envOfC x (zw st) s.heap.objs.size f cdv))->sp vs H Q E->
   ∃t,vx (j1 tZ P w K mg base N x (zw st) f cdv A outer s H E).kF (p9 st) t/\t { nx:=λ_ H'=>Q .zE H',rt:=Q } (start N vs) H):zR P w K mg base x ps (k+1) sp:=by
 obtain⟨f,fd,F,hm,hb⟩:=d;exact⟨f,fd,hm,F.kp,hb,F.ok S len (hbody f)⟩
end
section
variable{X:Cx}{x:Str}{p pos:Pos}{e:Expr}{es:List Expr}{t:TA}{ps:List Str}{j k:Nat}{sp:Sp}{v:V}{T:String}
def xX:Expr->Bool
 |.Starred ..=>false
 |_=>true
theorem tP{e:Expr}{es:List Expr}{env:Env}(h:xX e=true):starEach (e::es) env=(false,eval e env)::starEach es env:=by
 cases e<;>first|rfl|cases h
theorem VY{env:Env}{pos:Pos}:∀{es:List Expr},es.all xX=true->(backTo pos (starEach es env)).any (·.1)=false
 | [],_=>rfl
 |e::es,h=>by
  rw[vA,xL]at h;rw[tP h.1];have ih:=VY (env:=env) (pos:=pos) h.2;unfold backTo at ih ⊢;rw[xw,X6,ih];rfl
theorem W5{te:TE}(ha:PE X e te)(hr:PA X es t)(h:xX e=true:=by rfl):PA X (e::es) (ZV te t):=Lv ha hr (tP h)
def Uk:Expr->Option Int
 |.Constant (.int i) _ _=>some i
 |_=>none
theorem NF{e:Expr}{i:Int}(h:Uk e=some i):∃k p,e=.Constant (.int i) k p:=by
 cases e<;>first|(cases h; done)|skip
 rename_i c k p;cases c<;>first|(cases h; done)|skip
 cases h;exact⟨k,p,rfl⟩
def intsOf:List Expr->Option (List Int)
 | []=>some []
 |e::r=>(Uk e).bind λi=>(intsOf r).map (i::·)
theorem Ec:∀{es:List Expr}{is:List Int},intsOf es=some is->PA X es (λ_ H Q=>Q (is.map V.int) H)
 | [],is,h=>by
  cases(show some []=some is from h);exact ZH
 |e::r,is,h=>by
  have q:((Uk e).bind λi=>(intsOf r).map (i::·))=some is:=h;cases e1:Uk e with
  |none=>rw[e1]at q; cases q
  |some i=>
   rw[e1]at q;obtain⟨k,p,rfl⟩:=NF e1;cases e2:intsOf r with
   |none=>rw[e2]at q; cases q
   |some js=>
    rw[e2]at q;cases(show some (i::js)=some is from q);exact W5 Eg (Ec e2)
theorem Ej(h:zR X.prog X.w X.K X.mg X.base x ps k sp)(hr:xy j X.A)(hg:Gl X x)(ha:PA X (e::es) t)(hk:k<=j:=by decide)(hdb:(x==("__debug__" : Str))=false:=by decide)
  (he:(e::es).all xX=true:=by rfl):PE X (.Call (.Name x p) (e::es) [] pos) (Mi sp [] E0 t):=by
 obtain⟨f,fd,hm,kp,b,F⟩:=h;rw[vA,xL]at he;exact bN F (hr.mono hk) hg hm kp b .nil Ef ha hdb (tP he.1) (VY he.2)
theorem W6(h:yf X.mg x v)(hg:Gl X x)(hd:(x==("__debug__" : Str))=false:=by decide):PE X (.Name x pos) (tC v):=by
 obtain⟨u,hm,r⟩:=h;exact bU hg hm r hd
end
section
variable{X:Cx}{st:Stmt}{t:TS}
end
section
variable{X:Cx}
theorem v8:yX X (binaryOp .FloorDiv) (rI (λ_ j=>0<j/\j<2 ^ 64) λi j=>.int (i/j)):=Yn λi j _ _ _ _ _ hc q=>by
 have h1:(0:Int)<j:=hc.1;have h2:j<2 ^ 64:=hc.2;have h3:j.natAbs.log2<64:=(Nat.log2_lt (by omega)).mpr (by omega);exact PyProof.Rows.floordiv_int (by omega) (by rw[KF i (by omega)]; exact q) (.inl (PyProof.noPylong_of_log2 (by omega)))
end
theorem wl:bootBuiltins "len" = some (.builtin "len"):=by decide +kernel
theorem NT:bootBuiltins "min" = some (.builtin "min"):=by decide +kernel
theorem Dg:bootBuiltins "max" = some (.builtin "max"):=by decide +kernel
theorem NP:bootBuiltins "int" = some (.type "int"):=by decide +kernel
theorem NQ:bootBuiltins "list" = some (.type "list"):=by decide +kernel
theorem NR:bootBuiltins "tuple" = some (.type "tuple"):=by decide +kernel
theorem wf{H:Hp}{p:Addr}(h:H p=none)(o:HO):yU H (zb H p o):=λb u q=>by rw[zx (uK q h)]; exact q
theorem small{n:Nat}(h:n<=1000):n<=sizeLine:=jZ (lP h)
section
variable{X:Cx}{tg:Expr}
end
def ji(env:Env):List (Str×Addr)->Prop
 | []=>True
 |p::r=>env.cells.lookup p.1=some p.2/\ji env r
theorem ji.get{env:Env}:∀{cl:List (Str×Addr)} {y:Str} {c:Addr},ji env cl->cl.lookup y=some c->env.cells.lookup y=some c
 | [],_,_,_,h=>by cases h
 |(n,a)::r,y,c,hc,h=>by
  rw[BP]at h;cases e:y==n with
  |true=>
   rw[e]at h;have e':y=n:=by simpa using e
   subst e';have h':a=c:=by simpa using h
   subst h';exact hc.1
  |false=>
   rw[e]at h;exact ji.get hc.2 (by simpa using h)
def YH(scope:Scope)(env:Env)(cl:List (Str×Addr))(own:List Str):Bool:=
 scope.names.all λp=>p.1 != ("." : Str)&&((p.2 == .local&&(own.contains p.1||p.1==(".0" : Str)))||p.2 == .globalImplicit||p.2 == .globalExplicit ||
  (p.2 == .free&&(env.kindOf p.1==some .cell||env.kindOf p.1==some .free)&&(cl.lookup p.1).isSome))
def Xq(own:List Str)(y:Str):Str:=if own.contains y||y==(".0" : Str)then "." else y
def xz(N own:List Str):List Str:=N.map (Xq own)++own
theorem MD{env:Env}:∀{names:List (Str×NameKind)} {y:Str} {k:NameKind},
  (names.map λ(n,k)=>if(k==NameKind.free&&env.scope.kind == .function&&env.kindOf n==some .cell)then(n,NameKind.cell)else(n,k)).lookup y=some k->∃k0,(y,k0)∈names/\(k=k0\/(k0=.free/\k=.cell))
 | [],_,_,h=>by simp at h
 |(n,k')::r,y,k,h=>by
  rw[xw]at h;by_cases hc:(k'==NameKind.free&&env.scope.kind == .function&&env.kindOf n==some .cell)=true
  ·dsimp only at h;rw[zP hc,BP]at h;cases e:y==n with
   |true=>
    rw[e]at h;have e':y=n:=by simpa using e
    subst e';have h':NameKind.cell=k:=by simpa using h
    have hf:k'=.free:=by
     rw[xL,xL]at hc;simpa using hc.1.1
    exact⟨k',xP,.inr ⟨hf,h'.symm⟩⟩
   |false=>
    rw[e]at h;obtain⟨k0,m,z⟩:=MD (env:=env) (by simpa using h);exact⟨k0,wZ _ m,z⟩
  ·dsimp only at h;rw[zS hc,BP]at h;cases e:y==n with
   |true=>
    rw[e]at h;have e':y=n:=by simpa using e
    subst e';have h':k'=k:=by simpa using h
    exact⟨k',xP,.inl h'.symm⟩
   |false=>
    rw[e]at h;obtain⟨k0,m,z⟩:=MD (env:=env) (by simpa using h);exact⟨k0,wZ _ m,z⟩
def xb(X:Cx)(scope:Scope)(cl:List (Str×Addr))(own:List Str)(C:Addr)(s2:Shared)(H2:Hp)(fp:List Addr)(pn:List (Addr×Obj)):Cx:=
 { X with N:=xz X.N own,s₀:=s2,H₀:=H2,env:=compEnvC scope cl C X.env,outer:=X.stack,stack:=X.stack,ex:=fp,fn:=λ_=>false,pn:=pn,xe:=λ_ _=>False }
section
variable{X:Cx}{z6:List (Addr×Obj)}{σ:St}{H2:Hp}{s2:Shared}{scope:Scope}{cl:List (Str×Addr)}{own:List Str}{C D:Addr}{fp:List Addr}
theorem Dc(hb:YH scope X.env cl own=true){y:Str}{k:NameKind}(h:(relabel scope X.env).names.lookup y=some k) :
  y ≠ "." /\ ((k=.local->own.contains y=true\/y = ".0")/\((k=.cell\/k=.free)->(∃k0,(y,k0)∈scope.names/\k0=.cell)\/((X.env.kindOf y=some .cell\/X.env.kindOf y=some .free)/\∃c,cl.lookup y=some c))):=by
 obtain⟨k0,m,z⟩:=MD h;have q:=vB.mp hb _ m;rw[xL]at q;obtain⟨q1,q2⟩:=q;refine⟨by simpa using q1,λhk=>?_,λhk=>?_⟩
 ·rcases z with z|⟨_,z⟩
  ·subst z;subst hk;simpa using q2
  ·rw[z]at hk;cases hk
 ·have hf:k0=.free\/k0=.cell:=by
   rcases z with z|⟨z,_⟩
   ·subst z;rcases hk with hk|hk
    ·exact .inr hk
    ·exact .inl hk
   ·exact .inl z
  rcases hf with hf|hf
  ·subst hf
   right
   have q3:((X.env.kindOf y==some .cell||X.env.kindOf y==some .free)&&(cl.lookup y).isSome)=true:=by simpa using q2
   rw[xL]at q3;refine⟨?_,Ki.mp q3.2⟩;have:=q3.1;rw[Bool.or_eq_true]at this;rcases this with t|t
   ·exact .inl (by simpa using t)
   ·exact .inr (by simpa using t)
  ·exact .inl ⟨k0,m,hf⟩
theorem Ii(hb:YH scope X.env cl own=true)(hcell:∀y∈scope.names,y.2≠.cell){y:Str}{k:NameKind}(h:(relabel scope X.env).names.lookup y=some k)(hk:k=.cell\/k=.free) :
  (X.env.kindOf y=some .cell\/X.env.kindOf y=some .free)/\∃c,cl.lookup y=some c:=by
 rcases(Dc hb h).2.2 hk with⟨k0,m,e⟩|q
 ·exact absurd e (hcell _ m)
 ·exact q
theorem Dd(I:Inv X z6 σ H2 s2)(hk:scope.kind=.function)(hcell:∀y∈scope.names,y.2≠.cell)(hcap:ji X.env cl)(hb:YH scope X.env cl own=true)(hC:s2.heap.objs.size<=C)
  (hfp:∀b∈fp,tm X z6 H2 b)(hfo:∀b∈fp,∃o,s2.heap.get? b=some o):(xb X scope cl own C s2 H2 fp (X.pn++z6)).Ok where
 mod:=I.ok.mod
 kind:=hk
 glob:=I.ok.glob
 blt:=I.ok.blt
 above:=hC
 inj:=λx y c h1 h2=>I.ok.inj x y c (hcap.get h1) (hcap.get h2)
 has:=λx hx=>by
  rcases hx with hx|hx
  ·exact(Ii hb hcell (show(relabel scope X.env).names.lookup x=_ from hx) (.inl rfl)).2
  ·exact(Ii hb hcell (show(relabel scope X.env).names.lookup x=_ from hx) (.inr rfl)).2
 Zn:=λx c h=>by cases h
 hd:=I.ok.hd
 frames:=I.ok.frames
 XJ:=.inl rfl
 XG:=λb hx=>⟨by
  obtain⟨o,e⟩:=hfo b hx;exact wA (wE (Heap.lt_size e) hC),λx c h=>(hfp b hx).2.2.2.2.1 x c (hcap.get h)⟩
 bs:=I.bs
 pX:=xj I.ok.pX I.sz
 Zs:=λb o e hx=>by
  rcases(hfp b hx).2.2.2.1 with z|z
  ·exact I.ok.Zs b o e z
  ·exact absurd (wE (Heap.lt_size e) (xj I.ok.pX z)) (wQ _)
 Zo:=λb hx hz=>by
  rcases yV.mp (I.XL b hz)with z|z
  ·exact(hfp b hx).2.1 z
  ·exact(hfp b hx).2.2.1 z
 tW:=I.stack
 kE:=I.Bv
theorem Tv{α:Type}{σ:List (Option α)}{n i:Nat}{v:α}(h:(σ++List.replicate n none)[i]?=some (some v)):σ[i]?=some (some v):=by
 by_cases hi:i<σ.length
 ·rw[Zc hi]at h;exact h
 ·rw[BO (by omega),KM]at h
  split at h<;>cases h
theorem NO{h4:Heap}{m0:Str->Option Value}{dobj:Obj}{tk:Nat}(I:Inv X z6 σ H2 s2)(hk:scope.kind=.function)(hcell:∀y∈scope.names,y.2≠.cell)(hcap:ji X.env cl)(hb:YH scope X.env cl own=true)
  (hC:s2.heap.objs.size<=C)(hD:s2.heap.objs.size<=D)(hDC:D≠C)(hfp:∀b∈fp,tm X z6 H2 b)(hfo:∀b∈fp,∃o,s2.heap.get? b=some o)
  (keep:∀b o,s2.heap.get? b=some o->h4.get? b=some o)(ns:h4.Ns C m0)(hd:h4.get? D=some dobj)(hdd:∀v,dobj.data≠.cell v) :
  Inv (xb X scope cl own C s2 H2 fp (X.pn++z6)) [(D,dobj)] (σ++List.replicate own.length none) H2 { s2 with heap:=h4,toks:=tk }:=by
 have nfs:∀a,s2.heap.objs.size<=a->a ∉ t8 X.stack:=λa ha hz=>by
  rcases yV.mp (I.XL a hz)with z|z
  ·exact absurd (wE I.lt ha) (by rw[z]; exact wQ _)
  ·exact I.Bs ha z
 refine⟨Dd I hk hcell hcap hb hC hfp hfo,rfl,I.bare,Un.kept keep,⟨m0,ns,λi y v e1 e2 e3=>?_⟩,λx c h=>?_,I.zg.fresh hC,λx c h=>I.uX x c (hcap.get h),λp hp=>?_,I.zg.kept keep,?_⟩
 ·have e2':σ[i]?=some (some v):=Tv e2
  have hi:i<X.N.length:=by
   have:=(yx.mp e2').1;rw[I.len]at this;exact this
  have e1':(X.N.map (Xq own)++own)[i]?=some y:=e1;rw[Zc (by simpa using hi),xH]at e1';cases en:X.N[i]? with
  |none=>
   rw[en]at e1';cases e1'
  |some n=>
   rw[en]at e1';have ey:Xq own n=y:=vM e1'
   have vis:∃k,(relabel scope X.env).names.lookup y=some k/\(k=.local\/k=.cell\/k=.free):=by
    rcases e3 with z|z|z
    ·exact⟨_,z,.inl rfl⟩
    ·exact⟨_,z,.inr (.inl rfl)⟩
    ·exact⟨_,z,.inr (.inr rfl)⟩
   obtain⟨k,lk,kk⟩:=vis;obtain⟨nd,loc,_⟩:=Dc hb lk;unfold Xq at ey;by_cases ho:(own.contains n||n==(".0" : Str))=true
   ·rw[zP ho]at ey;exact absurd ey.symm nd
   ·rw[zS ho]at ey;subst ey
    have kk':k=.cell\/k=.free:=by
     rcases kk with z|z
     ·exfalso
      apply ho;rcases loc z with t|t
      ·rw[t]; rfl
      ·subst t; simp
     ·exact z
    obtain⟨ok,c,hc⟩:=Ii hb hcell lk kk';obtain⟨m,hn,hl⟩:=I.loc;obtain⟨u,r,l⟩:=hl i n v en e2' (.inr ok);refine⟨u,r,.inr ⟨?_,c,hc,?_⟩⟩
    ·rcases kk' with z|z
     ·subst z; exact .inl lk
     ·subst z; exact .inr lk
    ·rcases l with⟨z,_⟩|⟨_,c',hc',z⟩
     ·rcases ok with t|t<;>(rw[t]at z; cases z)
     ·rw[hcap.get hc]at hc';cases hc';obtain⟨o,ho',hd'⟩:=z;exact⟨o,keep _ _ ho',hd'⟩
 ·obtain⟨v,o,ho,hd'⟩:=I.cell x c (hcap.get h);exact⟨v,o,keep _ _ ho,hd'⟩
 ·rcases u9.mp hp with z|z
  ·obtain⟨e,n,ne,nf,d⟩:=I.pin p z;refine⟨keep _ _ e,n,wA (wE (Heap.lt_size e) hC),λhz=>?_,d⟩;rcases yV.mp (I.XL p.1 hz)with t|t
   ·exact ne t
   ·exact nf t
  ·have e:p=(D,dobj):=by simpa using z
   subst e;exact⟨hd,I.zg.fresh hD,hDC,nfs D hD,hdd⟩
 ·show(σ++List.replicate own.length none).length=(X.N.map (Xq own)++own).length;rw[ya,ya,gl,zr,I.len]
end
def kS(X:Cx)(ifs:List Expr)(tc:TT):Prop:=
 ∀(z6:List (Addr×Obj)) (s:Shared) (σ:St) (H:Hp) (Q:Bool->Hp->Prop),Inv X z6 σ H s->tc σ H Q->
  wpAny (model X.prog X.w) X.A (forIn ifs true λc r=>if r=true then do let ok <-isTrue c X.env (eval c X.env); pure (ForInStep.yield ok)else pure (ForInStep.yield r)) (TP X z6 σ Q) X.xe s
def mR:TT:=λ_ H Q=>Q true H
theorem cr{X:Cx}:kS X [] mR:=λ_ _ _ H _ I h=>wpAny_tests_nil ⟨H,I,h⟩
theorem cs{X:Cx}{c:Expr}{t:TT}(h:PT X c t):kS X [c] t:=λz6 s σ H Q I q=>wpAny_tests_one (h z6 s σ H Q I q)
section
variable{prog:Program}{w:World}{A:Around}{R:Result->Shared->Prop}{s:Shared}
theorem Sj{elt tg iter:Expr}{ifs:List Expr}{scope:Scope}{pos:Pos}{it acc:Value}{env:Env}(J:Nat->Shared->Prop)
  (turn:∀n s,J n s->wpAny (model prog w) A (pyNext it) (λr s₁=>match r with
   |none=>R (.ok .next) s₁
   |some v=>wpAny (model prog w) A (letOwnedTupleGo tg it v) (λ_ z=>wpAny (model prog w) A (assign tg env v) (λ_ s₂=>
    wpAny (model prog w) A (forIn ifs true λc r=>if r=true then do let ok <-isTrue c env (eval c env); pure (ForInStep.yield ok)else pure (ForInStep.yield r)) (λok s₃=>
     if ok=true then wpAny (model prog w) A (eval elt env) (λx s₄=>wpAny (model prog w) A (call (.builtin "list.append") [acc,x]) (λ_ s₅=>∃m,m<n/\J m s₅) (λ_ _=>False) s₄) (λ_ _=>False) s₃
     else ∃m,m<n/\J m s₃) (λ_ _=>False) s₂) (λ_ _=>False) z) (λ_ _=>False) s₁) (λ_ _=>False) s)
  (n:Nat)(h:J n s):codeAny (model prog w) A (.compLoop (.ListComp elt [⟨tg,iter,ifs,0⟩] scope pos) 0 it acc env) R s:=by
 have no:∀{P:Value->Shared->Prop},∀e s',(λ_ _=>False:Value->Shared->Prop) e s'->P e s':=λ_ _ z=>z.elim
 refine codeAny_loop rfl J (λn s hI=>?_) n h;show wpAny _ A (Sem.onRaise (compTurn (.ListComp elt [⟨tg,iter,ifs,0⟩] scope pos) 0 it acc env) (λx=>do noteFrame x env; theTreesLotGoes x)) _ _ s;refine wpAny_noted ?_;rw[compTurn_list];refine zD (Jy (zD (uB (turn n s hI) (λr s₁ h₁=>?_) no)));cases r with
 |none=>exact zV h₁
 |some v=>
  refine zD (uB h₁ (λ_ z hz=>?_) no);refine zD (uB hz (λ_ s₂ h₂=>?_) no);refine zD (uB h₂ (λok s₃ h₃=>?_) no);cases ok with
  |false=>exact zV ⟨rfl,h₃⟩
  |true=>
   refine zD (zD (uB h₃ (λx s₄ h₄=>?_) no));exact zD (uB h₄ (λ_ s₅ h₅=>zV (zV ⟨rfl,h₅⟩)) no)
end
abbrev wv(its:List Value)(k:Nat):Obj:={ cls:=.type "list",data:=.seq its.toArray k }
theorem CD{its:List Value}{k:Nat}:∀v,(wv its k).data≠.cell v:=λ_ z=>nomatch z
section
variable{X:Cx}{σ:St}{H:Hp}{s:Shared}{D:Addr}
theorem Rr{pl:List (Addr×Obj)}{its its':List Value}{k k' tk:Nat}{h':Heap}(I:Inv X ((D,wv its k)::pl) σ H s)(hD:X.s₀.heap.objs.size<=D)(hpn:∀p∈X.pn,p.1≠D)
  (hs:Heap.SameBut D s.heap h')(hd:h'.get? D=some (wv its' k')):Inv X [(D,wv its' k')] σ H { s with heap:=h',toks:=tk }:=by
 obtain⟨e,n,ne,nf,d⟩:=I.pin (D,wv its k) (ut _ xP);have I0:Inv X [] σ H s:=I.XI λp hp=>absurd hp (by simp)
 have I1:Inv X [] σ H { s with heap:=h',toks:=tk }:=I0.turned (it:=D) (λb o hb q=>(hs.2 b hb).trans q) n ne (.inr hD) (λx c hc z=>by
  subst z;obtain⟨v,o,ho,hv⟩:=I.cell x c hc;rw[show s.heap.get? c=some (wv its k)from e]at ho;cases ho;exact d v hv) (λp hp=>hpn p (by simpa using hp))
 exact I1.XI λp hp=>by
  have q:p=(D,wv its' k'):=by simpa using hp
  subst q;exact⟨hd,n,ne,nf,CD⟩
end
section
variable{X:Cx}{tg iter elt:Expr}{ifs:List Expr}{scope:Scope}{cl:List (Str×Addr)}{own:List Str}{pos:Pos}{te:TE}{tc:TT}{g:TG}{wi:TI}
theorem rO{fs ex:List Addr}{H H':Hp}{h h':Heap}{D:Addr}{o:HO}(u:Un fs ex H H' h h')(hD:h.objs.size<=D)(hn:H' D=none):Un fs ex H (zb H' D o) h h' where
 keep:=u.keep
 slot:=u.slot
 free:=λb ob q n hx=>by rw[zx (λz=>by subst z; exact absurd (wE (Heap.lt_size q) hD) (wQ _))]; exact u.free b ob q n hx
 there:=u.there
 vw:=λb xs q=>by rw[zx (uK (u.vw b xs q) hn)]; exact u.vw b xs q
 ve:=λb ob v q=>by rw[zx (uK (u.ve b ob v q) hn)]; exact u.ve b ob v q
 ua:=λb ps q=>by
  obtain⟨more,z⟩:=u.ua b ps q;exact⟨more,by rw[zx (uK z hn)]; exact z⟩
theorem Fn{P:Program}{w:World}{H:Hp}{h:Heap}{D:Addr}{o:HO}(x:xM P w H h)(hn:H D=none)(new:xC P w (zb H D o) h D o):xM P w (zb H D o) h:=λb u e=>by
 by_cases hb:b=D
 ·subst hb;rw[yT]at e;cases e;exact new
 ·rw[zx hb]at e;refine(x b u e).jc (λc v _ q=>q) (λc q=>?_) (λc xs q=>?_)
  ·rw[zx (uK q hn)]; exact q
  ·rw[zx (uK q hn)]; exact q
structure pZ(X:Cx)(scope:Scope)(cl:List (Str×Addr))(own:List Str):Prop where
 kind:scope.kind=.function
 cell:∀y∈scope.names,y.2≠.cell
 U0:ji X.env cl
 ok:YH scope X.env cl own=true
 U1:closureFor scope X.env=pure cl
 names:∀y∈scope.names,y.2=.local->scope.names.lookup y.1=some .local
structure Ua(X:Cx)(z6:List (Addr×Obj))(H:Hp)(s:Shared)(C:Addr):Prop where
 free:H C=none
 ne:C≠X.env.locals
 old:X.s₀.heap.objs.size<=C
 cell:∀x c,X.env.cells.lookup x=some c->c≠C
 pin:∀p∈X.pn++z6,p.1≠C
def QR(σ:St)(n:Nat)(J:It)(g:TG)(tc:TT)(te:TE)(W:Nat->Nat->List V->Hp->Prop)(Fin:List V->Hp->Prop):Prop:=
 ∀i m ys H,W i m ys H->(J.stop i H/\Fin ys H)\/(J.go i H/\ys.length<sizeLine/\∃N:List V->Hp->Prop,(∀ys' H',N ys' H'->∃m',m'<m/\W (i+1) m' ys' H')/\
  ∀x H',J.vE i H x H'->g x (σ++List.replicate n none) H' λσ2 H3=>(∃τ,σ2=σ++τ)/\tc σ2 H3 λc H4=>if c=true then te σ2 H4 λy H5=>N (ys++[y]) H5 else N ys H4)
theorem De{z6:List (Addr×Obj)}{σ:St}{H2:Hp}{s2:Shared}{fp:List Addr}{it:Addr}{tn:Nat->Heap->Prop}{J:It}{W:Nat->Nat->List V->Hp->Prop}{Fin:List V->Hp->Prop}{m0:Nat}
  {RR:Value->Addr->Result->Shared->Prop}(hcalm:X.calm=true)(B:pZ X scope cl own)(I:Inv X z6 σ H2 s2)(T:tq X.prog X.w X.K tg J fp it tn)(t0:tn 0 s2.heap)(hfp:∀b∈fp,tm X z6 H2 b)
  (hg:∀C s H fp pn,PG (xb X scope cl own C s H fp pn) tg g)(hc:∀C s H fp pn,kS (xb X scope cl own C s H fp pn) ifs tc)(he:∀C s H fp pn,PE (xb X scope cl own C s H fp pn) elt te)
  (W0:W 0 m0 [] H2)(turn:QR σ own.length J g tc te W Fin)
  (hRR:∀D C s' H' ys m',Inv X z6 σ (zb H' D (.lst ys)) s'->H' D=none->Fin ys H'->s'.heap.Ns C m'->Ua X z6 (zb H' D (.lst ys)) s' C->RR (.ref D) C (.ok .next) s'){E:Value->Shared->Prop} :
  wpAny (model X.prog X.w) X.A (newList []) (λacc s3=>wpAny (model X.prog X.w) X.A (newFunctionEnv scope X.env.globals cl [] X.env.qual none .none (some X.env)) (λcenv s4=>
   codeAny (model X.prog X.w) X.A (.compStart (.ListComp elt [⟨tg,iter,ifs,0⟩] scope pos) 0 (.ref it) acc { cenv with scope:=relabel scope X.env }) (RR acc cenv.locals) s4) E s3) E s2:=by
 refine uv (wpAny_newFunctionEnv B.cell (by intro y hy; simp at hy) (λh4 hns hsb=>?_) B.kind);dsimp only at hns hsb ⊢;generalize hP:s2.heap.push (wv [] 0)=P2 at hns hsb ⊢;have hC:P2.objs.size=s2.heap.objs.size+1:=by rw[<-hP,Heap.size_push]
 have hDC:s2.heap.objs.size≠P2.objs.size:=by rw[hC]; exact wA (Zh _)
 have hCle:s2.heap.objs.size<=P2.objs.size:=by rw[hC]; exact Vo _
 have keep:∀b o,s2.heap.get? b=some o->h4.get? b=some o:=λb o e=>
  hsb.extBut b o (wA (wE (Heap.lt_size e) hCle)) (Heap.get?_push_of_some _ (hP▸Heap.get?_push_of_some _ e))
 have hd4:h4.get? s2.heap.objs.size=some (wv [] 0):=hsb.extBut _ _ hDC (Heap.get?_push_of_some _ (hP▸Heap.get?_push_size _ rfl));have hfo:∀b∈fp,∃o,s2.heap.get? b=some o:=λb hb=>let ⟨o,e,_⟩:=T.obj 0 _ t0 b hb; ⟨o,e⟩
 have lt:∀b∈fp,b<s2.heap.objs.size:=λb hb=>let ⟨o,e⟩:=hfo b hb; Heap.lt_size e
 generalize hDD:s2.heap.objs.size=D at hDC hd4 ⊢;generalize hCC:P2.objs.size=C at hDC hns hsb hCle ⊢;have hDle:s2.heap.objs.size<=D:=Nat.le_of_eq hDD
 let X':=xb X scope cl own C s2 H2 fp (X.pn++z6)
 have hpn:∀p∈X'.pn,p.1≠D:=λp hp z=>by
  obtain⟨e,_⟩:=I.pin p hp;rw[z]at e;exact absurd (wE (Heap.lt_size e) hDle) (wQ _)
 have okb:=Dd I B.kind B.cell B.U0 B.ok hCle hfp hfo
 have fpok:∀{k:Nat}{its:List Value}{H':Hp},(∀b∈fp,H' b=none)->∀b∈fp,tm X' [(D,wv its k)] H' b:=λ{k its H'} hn b hb=>
  ⟨hn b hb,(okb.XG b hb).1,okb.Zo b hb,.inl hb,(okb.XG b hb).2,λp hp=>by
   rcases u9.mp hp with z|z
   ·exact(hfp b hb).2.2.2.2.2 p z
   ·have q:p=(D,wv its k):=by simpa using z
    subst q;exact λz=>absurd (lt b hb) (by rw[<-z]; exact BZ.mpr hDle)⟩
 have loop:∀s4:Shared,s4={ s2 with heap:=h4,toks:=s2.toks+([]:List (Str×Value)).length }->
   codeAny (model X.prog X.w) X.A (.compLoop (.ListComp elt [⟨tg,iter,ifs,0⟩] scope pos) 0 (.ref it) (.ref D) (compEnvC scope cl C X.env)) (RR (.ref D) C) s4:=by
  rintro s4 rfl
  refine Sj (λn s'=>∃(i:Nat) (ys:List V) (its:List Value) (k:Nat) (H':Hp),Inv X' [(D,wv its k)] (σ++List.replicate own.length none) H' s'/\zu ys its/\tn i s'.heap/\(∀b∈fp,H' b=none)/\W i n ys H'/\ys.length<=sizeLine) ?_ m0
   ⟨0,[],[],0,H2,NO I B.kind B.cell B.U0 B.ok hCle hDle hDC hfp hfo keep hns hd4 CD,.nil,T.keep _ _ _ t0 λb _ o e=>keep b o e,λb hb=>(hfp b hb).1,W0,uu _⟩
  rintro n s5 ⟨i,ys,its,k,H5,I5,v5,st5,fr5,w5,z5⟩;rcases turn i n ys H5 w5 with⟨stop,fin⟩|⟨go,room,N,hN,step⟩
  ·refine uB (T.done X' rfl rfl rfl hcalm i _ s5 _ H5 (λ_ _=>False) I5 (fpok fr5) st5 stop) (λr s6 ⟨hr,I6⟩=>?_) λ_ _ z=>z
   subst hr;obtain⟨e6,n6,ne6,nf6,d6⟩:=I6.pin (D,wv its k) (ut _ xP);obtain⟨m6,ns6,_⟩:=I6.loc;have u6:Un (t8 X.stack) fp H2 (zb H5 D (.lst ys)) s2.heap s6.heap:=rO I6.base hDle n6;have new6:xC X.prog X.w (zb H5 D (.lst ys)) s6.heap D (.lst ys):=⟨z5,its,k,v5,e6⟩;have I7:Inv X z6 σ (zb H5 D (.lst ys)) s6:=I.IA I6.os u6 (Fn I6.zg n6 new6) I6.bare (λb hb=>⟨(hfp b hb).2.2.2.1,(hfp b hb).2.1,(hfp b hb).2.2.2.2.1,(hfp b hb).2.2.2.2.2⟩);refine hRR D C s6 H5 ys m6 I7 n6 fin ns6 ⟨?_,?_,?_,λx c hcx z=>?_,λp hp z=>?_⟩
   ·rw[zx (tT hDC)]; exact I6.free
   ·exact λz=>absurd I.lt (by rw[<-z]; exact BZ.mpr hCle)
   ·exact xj I.sz hCle
   ·subst z;obtain⟨v,o,ho,_⟩:=I.cell x c hcx;exact absurd (wE (Heap.lt_size ho) hCle) (wQ _)
   ·obtain⟨e,_⟩:=I.pin p hp;rw[z]at e;exact absurd (wE (Heap.lt_size e) hCle) (wQ _)
  ·refine uB (T.item X' rfl rfl rfl hcalm i _ s5 _ H5 (λ_ _=>False) I5 (fpok fr5) st5 go) (λr s6 ⟨u,hr,h6⟩=>?_) λ_ _ z=>z
   subst hr;refine uB h6 (λ_ s7 ⟨x,H7,I7,r7,y7,st7,fr7⟩=>?_) λ_ _ z=>z
   have I7':=I7.pinned (fpok fr7) (T.obj _ _ st7);refine uB (hg C s2 H2 fp _ _ s7 _ H7 x u _ I7' r7 (step x H7 y7)) (λ_ s8 ⟨σ8,H8,I8,⟨τ,hτ⟩,q8⟩=>?_) λ_ _ z=>z
   subst hτ
   have back:∀{n':Nat}{ys':List V}{its':List Value}{k':Nat}{H9:Hp}{s9:Shared}{pl:List (Addr×Obj)},Inv X' ((D,wv its' k')::pl) (σ++τ) H9 s9->zu ys' its'->tn (i+1) s9.heap->(∀b∈fp,H9 b=none)->W (i+1) n' ys' H9->ys'.length<=sizeLine->
     ∃(i:Nat) (ys:List V) (its:List Value) (k:Nat) (H':Hp),Inv X' [(D,wv its k)] (σ++List.replicate own.length none) H' s9/\zu ys its/\tn i s9.heap/\(∀b∈fp,H' b=none)/\W i n' ys H'/\ys.length<=sizeLine:=λ{n' ys' its' k' H9 s9 pl} I9 v9 st9 fr9 w9 z9=>by
    have I9':Inv X' [(D,wv its' k')] (σ++τ) H9 s9:=I9.XI λp hp=>I9.pin p (ut _ (by
     have q:p=(D,wv its' k'):=by simpa using hp
     subst q;exact xP))
    refine⟨i+1,ys',its',k',H9,I9'.weak ?_ (λj v e=>?_),v9,st9,fr9,w9,z9⟩
    ·rw[I9'.len,<-I5.len]
    ·have e':=Tv e;rw[Zc (yx.mp e').1];exact e'
   have keepIt:∀{σ9:St}{H9:Hp}{s9:Shared},Inv X' ([(D,wv its k)]++W7 fp s7.heap) σ9 H9 s9->tn (i+1) s9.heap/\∀b∈fp,H9 b=none:=λ{σ9 H9 s9} I9=>
    ⟨T.keep _ _ _ st7 λb hb o e=>(I9.pin (b,o) (ut _ (ut _ (QV hb e)))).1,λb hb=>by
     obtain⟨o,e,_⟩:=T.obj _ _ st7 b hb;exact(I9.pin (b,o) (ut _ (ut _ (QV hb e)))).2.1⟩
   refine uB (hc C s2 H2 fp _ _ s8 _ H8 _ I8 q8) (λc s9 ⟨H9,I9,q9⟩=>?_) λ_ _ z=>z
   cases c with
   |false=>
    rw[zS xG]at q9 ⊢;obtain⟨m',hm,w9⟩:=hN _ _ q9;exact⟨m',hm,back I9 v5 (keepIt I9).1 (keepIt I9).2 w9 z5⟩
   |true=>
    rw[zP rfl]at q9 ⊢;refine uB (he C s2 H2 fp _ _ s9 _ H9 _ I9 q9) (λyv sa ⟨y,Ha,Ia,ra,qa⟩=>?_) λ_ _ z=>z
    obtain⟨m',hm,wa⟩:=hN _ _ qa;obtain⟨ea,na,_⟩:=Ia.pin (D,wv its k) (ut _ (BQ _ xP))
    have szi:its.toArray.size<=sizeLine:=by
     have:=v5.length;simp only[yg];omega
    refine wpAny_list_append_plain (hsz:=szi) ⟨k,ea⟩ λhb hlb hsb'=>?_
    obtain⟨kb,eb⟩:=hlb;have eb':hb.get? D=some (wv (its++[yv]) kb):=by rw[eb]; simp
    have Ib:Inv X' [(D,wv (its++[yv]) kb)] (σ++τ) Ha { sa with heap:=hb,toks:=sa.toks }:=Rr (tk:=sa.toks) Ia hDle hpn hsb' eb';have stb:tn (i+1) hb:=T.keep _ _ _ (keepIt Ia).1 λb hbf o e=>(hsb'.2 b (λz=>absurd (lt b hbf) (by rw[z]; exact BZ.mpr hDle))).trans e
    exact⟨m',hm,back Ib (zu.append v5 (.cons ra .nil)) stb (keepIt Ia).2 wa (by rw[ya]; exact room)⟩
 exact codeAny_compStart_list (loop _ rfl) (T.self X.A 0 _ _ _ (T.keep _ _ _ t0 λb _ o e=>keep b o e) (loop _ rfl))
def m7(n:Nat)(wi:TI)(g:TG)(tc:TT)(te:TE):TE:=λσ H Q=>wi σ H λJ H1=>∃W:Nat->Nat->List V->Hp->Prop,(∃m,W 0 m [] H1)/\
 QR σ n J g tc te W λys H'=>∀p,H' p=none->Q (.ref p) (zb H' p (.lst ys))
theorem Ua.inv{z6:List (Addr×Obj)}{σ:St}{H:Hp}{s:Shared}{C:Addr}{h':Heap}(o:Ua X z6 H s C)(I:Inv X z6 σ H s)(hs:Heap.SameBut C s.heap h'):Inv X z6 σ H { s with heap:=h' }:=
 I.turned (it:=C) (t':=s.toks) (λb u hb q=>(hs.2 b hb).trans q) o.free o.ne (.inr o.old) o.cell o.pin
theorem Eh(hcalm:X.calm=true)(B:pZ X scope cl own)(hi:PI X tg iter wi)(hg:∀C s H fp pn,PG (xb X scope cl own C s H fp pn) tg g)(hc:∀C s H fp pn,kS (xb X scope cl own C s H fp pn) ifs tc)
  (he:∀C s H fp pn,PE (xb X scope cl own C s H fp pn) elt te)(hs:∀x,foldedSetIterable iter X.env x=pure x:=by intro _; rfl) :
  PE X (.ListComp elt [⟨tg,iter,ifs,0⟩] scope pos) (m7 own.length wi g tc te):=by
 intro z6 s σ H Q I h;rw[eval_ListComp];refine Ko (use:=none) rfl hs B.U1 B.kind B.names (zo (hi z6 s σ H _ I h) λv s1 h1=>zo h1 λitv s2 h2=>?_);obtain⟨it,fp,tn,J,H2,e,I2,T,st2,f2,W,⟨m0,w0⟩,turn⟩:=h2;subst e;refine De (RR:=λacc C=>compPost (model X.prog X.w) X.A X.xe none (EP X z6 σ Q) acc C) hcalm B I2 T st2 f2 hg hc he w0 turn ?_;intro D C s' H' ys m' I' n' fin ns' off;exact⟨m',ns',λh' hs'=>⟨.ref D,zb H' D (.lst ys),off.inv I' hs',rfl,fin D n'⟩⟩
def mM(i n:Nat)(wi:TI)(g:TG)(tc:TT)(te:TE):TS:=λD σ H=>wi σ H λJ H1=>∃W:Nat->Nat->List V->Hp->Prop,(∃m,W 0 m [] H1)/\
 QR σ n J g tc te W λys H'=>∀p,H' p=none->D.nx (σ.set i (some (.ref p))) (zb H' p (.lst ys))
theorem M1{i:Nat}{x:Str}{px spos:Pos}(hcalm:X.calm=true)(hN:X.N.Nodup)(hix:X.N[i]?=some x)(hx:X.env.scope.names.lookup x=some .local)(B:pZ X scope cl own)
  (hsw:swapsWith (.ListComp elt [⟨tg,iter,ifs,0⟩] scope pos) (some (.Name x px)) spos.line X.env=pure true)(hi:PI X tg iter wi)
  (hg:∀C s H fp pn,PG (xb X scope cl own C s H fp pn) tg g)(hc:∀C s H fp pn,kS (xb X scope cl own C s H fp pn) ifs tc)(he:∀C s H fp pn,PE (xb X scope cl own C s H fp pn) elt te)
  (hs:∀x,foldedSetIterable iter X.env x=pure x:=by intro _; rfl) :
  PS X (.Assign [.Name x px] (.ListComp elt [⟨tg,iter,ifs,0⟩] scope pos) spos) (mM i own.length wi g tc te):=by
 intro z6 s σ H D I h;rw[exec_Assign_Name_used _ _ _ _ hsw];refine zD (Jy (zD ?_));show wpAny _ X.A (do let _ <-comprehension (.ListComp elt [⟨tg,iter,ifs,0⟩] scope pos) scope X.env _ (newList []) false (eval iter X.env) (some (assign (.Name x px) X.env))) _ _ s
 refine zD (zo (Ko (use:=some (assign (.Name x px) X.env)) (Q:=λ_ s'=>SP X z6 D .next s') rfl hs B.U1 B.kind B.names
  (zo (hi z6 s σ H _ I h) λv s1 h1=>zo h1 λitv s2 h2=>?_)) λ_ s' hq=>zV (zV hq))
 obtain⟨it,fp,tn,J,H2,e,I2,T,st2,f2,W,⟨m0,w0⟩,turn⟩:=h2;subst e;refine De (RR:=λacc C=>compPost (model X.prog X.w) X.A X.xe (some (assign (.Name x px) X.env)) (λ_ s'=>SP X z6 D .next s') acc C) hcalm B I2 T st2 f2 hg hc he w0 turn ?_;intro L C s' H' ys m' I' n' fin ns' off;show wpAny _ X.A (assign (.Name x px) X.env (.ref L)) _ _ s';refine wpAny_assign_Name (HS I' hN hix (.inl hx) (v:=.ref L) rfl (λs3 I3 q3=>?_) (.inr hx));obtain⟨a,hsa,ha⟩:=q3
 have hCa:C≠a:=by
  rcases ha with z|z
  ·rw[z]; exact off.ne
  ·exact λy=>off.cell x a z y.symm
 refine⟨m',ns'.sameBut hsa hCa,λh' hs'=>?_⟩;exact⟨_,_,Ua.inv (H:=zb H' L (.lst ys)) ⟨off.free,off.ne,off.old,off.cell,off.pin⟩ I3 hs',fin L n'⟩
end
structure QE(X:Cx)(e:Expr)(t:TE):Prop where
 h:PE X e t
structure QA(X:Cx)(es:List Expr)(t:TA):Prop where
 h:PA X es t
structure QS(X:Cx)(st:Stmt)(t:TS):Prop where
 h:PS X st t
structure QG(X:Cx)(e:Expr)(t:TG):Prop where
 h:PG X e t
structure Ud(X:Cx)(es:List Expr)(t:p6):Prop where
 h:XS X es t
structure QI(X:Cx)(tg e:Expr)(t:TI):Prop where
 h:PI X tg e t
section
variable{X:Cx}{x y:Str}{p pos pos' apos cpos p2:Pos}{e a b c o tg iter elt:Expr}{es rest:List Expr}{te ta tb tc to:TE}{t:TA}{tA tB':TT}{r r':R2}{v:V}{T id:String}{ps:List Str}{j k i:Nat}{sp:Sp}
theorem qv(i:Nat){x:Str}{pos:Pos}(hN:X.N[i]?=some x:=by rfl)(hv:tu X.env.scope x:=by first|exact Or.inl rfl|exact Or.inr (Or.inl rfl)|exact Or.inr (Or.inr rfl))(hd:(x==("__debug__" : Str))=false:=by decide)
  (hcd:(x==("__classdict__" : Str))=false:=by decide):QE X (.Name x pos) (jP i):=⟨Yp hN hv hd hcd⟩
theorem c_(h:yf X.mg x v)(hg:Gl X x)(hd:(x==("__debug__" : Str))=false:=by decide):QE X (.Name x pos) (tC v):=⟨W6 h hg hd⟩
def Ep:Expr->Bool
 |.Name ..=>true
 |.Call ..=>true
 |.Subscript ..=>true
 |.Attribute ..=>true
 |.Constant ..=>true
 |.List ..=>true
 |.Tuple ..=>true
 |.BinOp ..=>true
 |_=>false
theorem cN{e:Expr}{env:Env}(h:Ep e=true):∀whole,isTrue e env whole=(do let v <-whole; standAt e.pos; holding [v] (truthy v)):=by
 cases e<;>first|(intro _; rfl)|cases h
theorem GD:QA X [] ZW:=⟨ZH⟩
theorem GC(ha:QE X e te)(hr:QA X es t)(h:xX e=true:=by rfl):QA X (e::es) (ZV te t):=⟨W5 ha.h hr.h h⟩
def Yq:Expr->Bool
 |.Name ..=>true
 |.Constant ..=>true
 |.BinOp ..=>true
 |.Call ..=>true
 |.UnaryOp ..=>true
 |.Subscript ..=>true
 |.Attribute ..=>true
 |_=>false
theorem Lz{b:Expr}(h:Yq b=true):DB b:=by
 cases b<;>first|(intro _ _; rfl)|cases h
theorem M8{r:List V->Hp->VK->Prop}(hc:wS X (.builtin id) r)(hg:Gl X x)(hm:X.mg x=none)(hv:bootBuiltins x=some (.builtin id))(ha:QA X (e::es) t)(hn:x ≠ "__name__" := by decide)(hdb:(x==("__debug__" : Str))=false:=by decide)
  (he:(e::es).all xX=true:=by rfl):QE X (.Call (.Name x p) (e::es) [] pos) (J6 r t):=by
 rw[vA,xL]at he;exact⟨bP hc hg hm hv ha.h hn hdb (tP he.1) (VY he.2)⟩
theorem WB{r:List V->Hp->VK->Prop}(hc:wS X (.type T) r)(hg:Gl X x)(hm:X.mg x=none)(hv:bootBuiltins x=some (.type T))(ha:QA X (e::es) t)(hn:x ≠ "__name__" := by decide)(hdb:(x==("__debug__" : Str))=false:=by decide)
  (he:(e::es).all xX=true:=by rfl):QE X (.Call (.Name x p) (e::es) [] pos) (J6 r t):=by
 rw[vA,xL]at he;exact⟨bQ hc hg hm hv ha.h hn hdb (tP he.1) (VY he.2)⟩
variable{st:Stmt}{sts body:List Stmt}{ts us tbs:TS}{g:TG}{wi:TI}
def Xz:Expr->Bool
 |.ListComp ..=>false
 |.SetComp ..=>false
 |.DictComp ..=>false
 |_=>true
theorem Ch{e:Expr}{tgt:Option Expr}{n:Nat}{env:Env}(h:Xz e=true):swapsWith e tgt n env=pure false:=by
 cases e<;>first|rfl|cases h
theorem GG(he:QE X e te)(hs:Xz e=true:=by rfl):QS X (.Expr e pos) (HY te):=⟨cW he.h (Ch hs)⟩
theorem GH{i:Nat}{x:Str}{pos':Pos}(hN:X.N.Nodup)(hi:X.N[i]?=some x)(hx:q_ X.env.scope x)(he:QE X e te)(hs:Xz e=true:=by rfl)(hf:X.fn x=true\/X.env.scope.names.lookup x=some .local:=by first|exact .inl rfl|exact .inr rfl|assumption) :
  QS X (.Assign [.Name x pos'] e pos) (Mh te (t9 i)):=⟨cZ hN hi hx he.h (Ch hs) hf⟩
theorem yl{i:Nat}{x:Str}(hN:X.N.Nodup)(hi:X.N[i]?=some x)(hx:q_ X.env.scope x)(hf:X.fn x=true\/X.env.scope.names.lookup x=some .local:=by first|exact .inl rfl|exact .inr rfl|assumption):QG X (.Name x pos) (t9 i):=⟨bj hN hi hx hf⟩
theorem d3{o i:Expr}{to ti:TE}{t:Ue}(ho:QE X o to)(hi:QE X i ti)(hs:IW X t)(hp:Yq i=true:=by rfl):QG X (.Subscript o i pos) (Fc to ti t):=by
 refine⟨bm ho.h hi.h hs ?_⟩;cases i<;>first|(intro _; rfl)|cases hp
theorem gN:Ud X [] Xj:=⟨bq⟩
theorem v_{t:TG}{u:p6}(h1:QG X e t)(h2:Ud X es u)(hs:(assignEach (e::es) X.env).map (·.2)=assign e X.env::(assignEach es X.env).map (·.2):=by rfl):Ud X (e::es) (gA t u):=⟨bo h1.h h2.h hs⟩
theorem gM{k:Nat}{t:p6}{n:Nat}(hc:X.calm=true)(h:Ud X es t)(hn:(assignEach es X.env).length=n:=by rfl)(hst:(assignEach es X.env).findIdx? (·.1)=none:=by rfl):QG X (.Tuple es k pos) (Xk X.K n t):=⟨bn hc h.h hn hst⟩
variable{ifs:List Expr}{scope:Scope}{cl:List (Str×Addr)}{own:List Str}{tcc:TT}
variable{name:Str}{rm:V->List V->Hp->VK->Prop}
theorem HR{env:Env}{pos:Pos}:∀{es:List Expr},es.all xX=true->(backTo pos (starEach es env)).all (λx=>!x.1)=true
 | [],_=>rfl
 |e::es,h=>by
  rw[vA,xL]at h;rw[tP h.1];have ih:=HR (env:=env) (pos:=pos) h.2;unfold backTo at ih ⊢;rw[xw,vA,ih];rfl
theorem WA(pa:PlainAttrs T)(slot:Slot T name id)(hty:typeOf (.builtin id)=pure (.type "method_descriptor"))(hm:XQ X id rm)(ho:QE X o to)(ha:QA X (e::es) t)
  (hbase:attributeBase o name X.env (eval o X.env)=eval o X.env:=by rfl)(hline:(apos.endLine==cpos.line)=true:=by rfl)(he:(e::es).all xX=true:=by rfl)(hl:(e::es).length<30:=by decide) :
  QE X (.Call (.Attribute o name apos) (e::es) [] cpos) (HX X.K T rm to t):=⟨by
 have ha':=HR (env:=X.env) (pos:=cpos) he;rw[vA,xL]at he;refine bM pa slot hty hm ho.h ha.h hbase ?_ hline (tP he.1) (VY he.2);rw[ha'];show(true&&true&&decide ((e::es).length+0+0<30))=true;rw[ye (show(e::es).length+0+0<30 from hl)];rfl⟩
end
section
variable{P:Program}{w:World}{K:W.Frag}{mg:Str->Option Value}{base:Heap}
end
def DE(K:W.Frag)(H:Hp)(a c:Addr)(xs ys:List V):Prop:=(yq K H a xs/\yq K H c ys)\/(yP K H a xs/\yP K H c ys)
section
variable{X:Cx}{z6:List (Addr×Obj)}{σ:St}{H:Hp}{s:Shared}
theorem dN{A:Around}{a c:Addr}{xs ys:List V}{e:Nat->Bool}(I:Inv X z6 σ H s)(hu:A.units<cLine)(hq:DE X.K H a c xs ys)
  (he:∀(j:Nat) x' y' u v,xs[j]?=some x'->ys[j]?=some y'->z_ x' u->z_ y' v->SeqAt.EqAt A.in1 s u v (e j)) :
  SeqAt.RcAt A s (.ref a) (.ref c) ((List.range (min xs.length ys.length)).all e&&xs.length==ys.length)/\SeqAt.RcNeAt A s (.ref a) (.ref c) (!((List.range (min xs.length ys.length)).all e&&xs.length==ys.length)):=by
 have get:∀{zs:List V}{us:List Value}{j:Nat}(hj:j<us.toArray.size),zu zs us->∃z,zs[j]?=some z/\z_ z us.toArray[j]:=λ{zs us j} hj r=>by
  have hl:=r.length
  have hj':j<zs.length:=by
   rw[yg]at hj;omega
  obtain⟨u,hu',ru⟩:=r.get (yF hj');refine⟨_,yF hj',?_⟩
  have:us.toArray[j]=u:=by
   have h2:us[j]?=some us[j]:=yF (by omega);rw[h2]at hu';simpa using hu'
  rw[this];exact ru
 rcases hq with⟨ha,hc⟩|⟨ha,hc⟩
 ·obtain⟨us,ra,pa,_⟩:=I.tuple ha;obtain⟨vs,rc,pc,_⟩:=I.tuple hc;have h1:=ra.length;have h2:=rc.length
  have key:∀j (k1:j<us.toArray.size) (k2:j<vs.toArray.size),SeqAt.EqAt A.in1 s us.toArray[j] vs.toArray[j] (e j):=λj k1 k2=>by
   obtain⟨z1,e1,r1⟩:=get k1 ra;obtain⟨z2,e2,r2⟩:=get k2 rc;exact he j z1 z2 _ _ e1 e2 r1 r2
  have p:=SeqAt.RcAt.tuples (e:=e) pa pc hu key;have q:=SeqAt.RcNeAt.tuples (e:=e) pa pc hu key;rw[yg,yg,<-h1,<-h2]at p q;exact⟨p,q⟩
 ·obtain⟨us,ra,pa,_⟩:=I.list ha;obtain⟨vs,rc,pc,_⟩:=I.list hc;have h1:=ra.length;have h2:=rc.length
  have key:∀j (k1:j<us.toArray.size) (k2:j<vs.toArray.size),SeqAt.EqAt A.in1 s us.toArray[j] vs.toArray[j] (e j):=λj k1 k2=>by
   obtain⟨z1,e1,r1⟩:=get k1 ra;obtain⟨z2,e2,r2⟩:=get k2 rc;exact he j z1 z2 _ _ e1 e2 r1 r2
  by_cases hl:xs.length=ys.length
  ·have hs:us.toArray.size=vs.toArray.size:=by rw[yg,yg]; omega
   have p:=SeqAt.RcAt.lists (e:=e) pa.isList pc.isList hs hu key;have q:=SeqAt.RcNeAt.lists (e:=e) pa.isList pc.isList hs hu key;have e1:min xs.length ys.length=us.toArray.size:=by rw[yg]; omega
   have e2:(xs.length==ys.length)=true:=by simp[hl]
   rw[e1,e2,B6];exact⟨p,q⟩
  ·have hs:(us.toArray.size != vs.toArray.size)=true:=by
    rw[yg,yg];simp;omega
   have e2:(xs.length==ys.length)=false:=by simp[hl]
   rw[e2,JV];exact⟨SeqAt.RcAt.lists_lengths pa.isList pc.isList hs hu,SeqAt.RcNeAt.lists_lengths pa.isList pc.isList hs hu⟩
theorem Q9(A:Around):A.in1.units=A.units+1:=rfl
end
theorem PM{x:V}(h:uI x=true):vS x x=true:=by
 cases x<;>first|rfl|(simp[vS]; done)|cases h
open PySem.W (hideAll)
section
variable{P:Program}{w:World}{l:List Env}{H H':Hp}{h B h' h'':Heap}
end
section
variable{X:Cx}{z6:List (Addr×Obj)}{σ:St}{H H':Hp}{s:Shared}{B h':Heap}
variable{x:Str}{C:Addr}{np cpos pos:Pos}{e:Expr}{es:List Expr}{t:TA}{E:XK}
end
section
variable{P:Program}{w:World}{K:W.Frag}{mg:Str->Option Value}{base:Heap}{N:List Str}{qual:Str}{scope:Scope}{f:Addr}{cd:Value}{A:Around}{outer:List Env}{s₀:Shared}{H₀:Hp}{E:XK}
end
section
variable{X:Cx}{x:Str}{np cpos pos p:Pos}{e:Expr}{es:List Expr}{t:TA}{E:XK}{C:Addr}{ps:List Str}{j k:Nat}{sp:Sp}
end
end L2
namespace L2
open PySem PySem.Spec PyProof.Rows
section
variable{X:Cx}{z6:List (Addr×Obj)}{σ:St}{H H':Hp}{s:Shared}{a C:Addr}
def Kz(a C:Addr)(h:Heap):Prop:=∃o vs,h.get? a=some o/\o.cls=.ref C/\o.data=.fields vs
theorem rP{fs ex:List Addr}{H H':Hp}{h h':Heap}{D:Addr}{o:HO}(u:Un fs ex H H' h h')(hD:h.get? D=none)(hn:H' D=none):Un fs ex H (zb H' D o) h h' where
 keep:=u.keep
 slot:=u.slot
 free:=λb ob q n hx=>by rw[zx (λz=>by subst z; rw[hD]at q; cases q)]; exact u.free b ob q n hx
 there:=u.there
 vw:=λb xs q=>by rw[zx (uK (u.vw b xs q) hn)]; exact u.vw b xs q
 ve:=λb ob v q=>by rw[zx (uK (u.ve b ob v q) hn)]; exact u.ve b ob v q
 ua:=λb ps q=>by
  obtain⟨more,z⟩:=u.ua b ps q;exact⟨more,by rw[zx (uK z hn)]; exact z⟩
end
section
variable{X:Cx}{x n:Str}{p pos np hpos tpos:Pos}{e e1 e2:Expr}{es:List Expr}{ta:TA}{te:TE}{tx:TX}{ps:List Str}{j k i:Nat}{sp:Sp}{E:XK}{D:Addr}
variable{suite:List Stmt}{ts:TS}{b₀:Stmt}
end
section
variable{X:Cx}{x:Str}{p pos:Pos}{e:Expr}{es:List Expr}{t:TA}{ps:List Str}{j k:Nat}{sp:Sp}
end
section
variable{X:Cx}{e e1 e2:Expr}{es:List Expr}{te:TE}{t:TJ}{pos:Pos}
end
open PySem.W (Looks findIn mroIn looks_findIn looks_mroIn clsIn)
section
variable{prog:Program}{w:World}{A:Around}{E:Value->Shared->Prop}{h:Heap}{g:Array GenState}{d:Drawn}{t:Nat}{os:OsState}{a C:Addr}{o:Obj}{K:W.Frag}
end
end L2
namespace L2
open PySem PySem.Spec PyProof.Rows
section
variable{X:Cx}
theorem Hq{ns:List Int}{its:List Value}(r:zu (ns.map V.int) its){i:Nat}{v:Value}(h:its.toArray[i]?=some v):∃t,v=.int (ns.getD i 0) t:=by
 have hi:i<its.length:=by
  rw[Jg]at h;exact(yx.mp h).1
 have hl:ns.length=its.length:=by have:=r.length; rw[zr]at this; exact this
 have hx:(ns.map V.int)[i]?=some (.int (ns.getD i 0)):=by
  rw[xH,wP,yF (by omega)];rfl
 obtain⟨u,hu,ru⟩:=r.get hx;rw[Jg,hu]at h;cases h;exact ru
end
open Builtin.SmallTypes (nextOf)
structure kT(P:Program)(w:World)(it l:Addr)(st:Nat->Heap->Prop)(n:Nat)(val:Nat->Value):Prop where
 keep:∀i h h',st i h->(∀b o,(b=it\/b=l)->h.get? b=some o->h'.get? b=some o)->st i h'
 item:∀{A:Around}{Q:Value->Shared->Prop}{E:Value->Shared->Prop}{s:Shared}(i:Nat),st i s.heap->i<n->(∀h',st (i+1) h'->Heap.SameBut it s.heap h'->Q (val i) { s with heap:=h' })->wpAny (model P w) A (nextOf (.ref it)) Q E s
 done:∀{A:Around}{Q:Value->Shared->Prop}{E:Value->Shared->Prop}{s:Shared}(i:Nat),A.handled=none->st i s.heap->n<=i->
  (∀h' e,Heap.ExtBut it s.heap h'->(∃o,h'.get? e=some o/\o.cls=.type "StopIteration")->E (.ref e) { s with heap:=h' })->wpAny (model P w) A (nextOf (.ref it)) Q E s
section
variable{prog:Program}{w:World}{A:Around}{E:Value->Shared->Prop}{s:Shared}
theorem AM{it t:Addr}{i:Nat}{zF}{x:Value}{Q:Value->Shared->Prop}(hit:s.heap.IsTupleIter it t i)(ht:s.heap.IsTuple t zF)(hx:zF[i]?=some x)
  (hQ:∀h',h'.IsTupleIter it t (i+1)->Heap.SameBut it s.heap h'->Q x { s with heap:=h' }):wpAny (model prog w) A (nextOf (.ref it)) Q E s:=by
 obtain⟨o,ho,hc,hd⟩:=id hit;obtain⟨ol,hol,_,nl,hdl⟩:=ht;unfold nextOf
 refine zD (pW (name:=Str.ofString "__next__") hit.typeIs JZ
  (tU JZ hit.typeIs KD ?_ (KC _)))
 refine zD (m:=field (.ref it) 0) (uA ho hd (x:=.ref t) rfl ?_);show wpAny _ _ (if(Value.ref t==Value.none)=true then _ else _) _ _ s;rw[zS (show ¬ ((Value.ref t==Value.none)=true)from xG)];refine zD (m:=field (.ref it) 1) (uA ho hd (x:=.int i 0) rfl ?_);refine zD (m:=seqItems? (.ref t)) (tV hol hdl ?_);simp only[xB,hx];refine zD (Vy ho hd (by simp) (zV ⟨x,rfl,zV (hQ _ ?_ (Heap.SameBut.update ..))⟩))
 exact⟨_,Heap.get?_update_self _ ho (Obj.isFreed_of_fields (Jm hd _)),(Obj.cls_mapFields ..).trans hc,by
  rw[Jm hd]; simp[rawInt]⟩
theorem AL{it t:Addr}{i:Nat}{zF}{Q:Value->Shared->Prop}(hh:A.handled=none)(hit:s.heap.IsTupleIter it t i)(ht:s.heap.IsTuple t zF)(hx:zF[i]?=none)
  (hE:∀h' e,Heap.ExtBut it s.heap h'->(∃o,h'.get? e=some o/\o.cls=.type "StopIteration")->E (.ref e) { s with heap:=h' }):wpAny (model prog w) A (nextOf (.ref it)) Q E s:=by
 obtain⟨o,ho,hc,hd⟩:=id hit;obtain⟨ol,hol,_,nl,hdl⟩:=ht;unfold nextOf
 refine zD (pW (name:=Str.ofString "__next__") hit.typeIs JZ
  (tU JZ hit.typeIs KD ?_ (KC _)))
 refine zD (m:=field (.ref it) 0) (uA ho hd (x:=.ref t) rfl ?_);show wpAny _ _ (if(Value.ref t==Value.none)=true then _ else _) _ _ s;rw[zS (show ¬ ((Value.ref t==Value.none)=true)from xG)];refine zD (m:=field (.ref it) 1) (uA ho hd (x:=.int i 0) rfl ?_);refine zD (m:=seqItems? (.ref t)) (tV hol hdl ?_);simp only[xB,hx];refine zD (kA (zD (Vy ho hd (by simp) ?_)));refine zD (m:=newExc (.type "StopIteration") []) ?_;simp only[newExc,newTuple];refine zD (uv ?_ (by size_fits));refine zD (m:=firstArgMember _ _) (Vv (a:=Value.none) (by first|rfl|(simp only[firstArgMember]; rfl)) ?_);refine uv ?_ (by size_fits);simp only[raiseNew];refine zD (Bl ?_)
 first|rw[show A.in1.handled=none from hh]|rw[hh]
 refine zD (zV (wpAny_throw ?_));exact hE _ _ (((Heap.SameBut.update ..).extBut.push _).push _) ⟨_,Heap.get?_push_size _ rfl,rfl⟩
theorem lT{it l:Addr}(hne:l≠it)(zF:Array Value):kT prog w it l (λi h=>h.IsListIter it l i/\h.IsList l zF) zF.size (λi=>zF.getD i .none) where
 keep:=λi h h' st k=>⟨st.1.at λo e=>k it o (.inl rfl) e,st.2.at λo e=>k l o (.inr rfl) e⟩
 item:=λi st hi hQ=>wpAny_nextOf_list_item st.1 st.2 (x:=zF.getD i .none) (by simp[Array.getD,hi]) λh' st' sb=>hQ h' ⟨st',st.2.extBut sb.extBut hne⟩ sb
 done:=λi hh st hi hE=>wpAny_nextOf_list_end hh st.1 st.2 (Ve hi) hE
theorem lU{it l:Addr}(hne:l≠it)(zF:Array Value):kT prog w it l (λi h=>h.IsTupleIter it l i/\h.IsTuple l zF) zF.size (λi=>zF.getD i .none) where
 keep:=λi h h' st k=>⟨st.1.at λo e=>k it o (.inl rfl) e,st.2.at λo e=>k l o (.inr rfl) e⟩
 item:=λi st hi hQ=>AM st.1 st.2 (x:=zF.getD i .none) (by simp[Array.getD,hi]) λh' st' sb=>hQ h' ⟨st',st.2.extBut sb.extBut hne⟩ sb
 done:=λi hh st hi hE=>AL hh st.1 st.2 (Ve hi) hE
variable{z TI TO i1 i2 l1 l2:Addr}{st1 st2:Nat->Heap->Prop}{n1 n2:Nat}{v1 v2:Nat->Value}{a b:Value}{k:Nat}
theorem z0d{Q:Value->Shared->Prop}(D:ZipApart z TI TO i1 i2 l1 l2)(S1:kT prog w i1 l1 st1 n1 v1)(S2:kT prog w i2 l2 st2 n2 v2)
  (hz:IsZip s.heap z TI TO .none)(hTI:IsPair s.heap TI (.ref i1) (.ref i2))(hTO:IsPair s.heap TO a b)(h1:st1 k s.heap)(h2:st2 k s.heap)(k1:k<n1)(k2:k<n2)
  (hi1:i1<s.heap.objs.size)(hi2:i2<s.heap.objs.size)(hl1:l1<s.heap.objs.size)(hl2:l2<s.heap.objs.size)
  (hQ:∀h',IsZip h' z TI TO (rawInt s.heap.objs.size)->IsPair h' TO (v1 k) (v2 k)->st1 (k+1) h'->st2 (k+1) h'->IsPair h' s.heap.objs.size (v1 k) (v2 k)->
   (∀c o,c≠z->c≠TO->c≠i1->c≠i2->s.heap.get? c=some o->h'.get? c=some o)->Q (.ref s.heap.objs.size) { s with heap:=h' }) :
  wpAny (model prog w) A (Builtin.«zip.__next__» ⟨[.ref z],[]⟩) (λfin s'=>∃v,fin=.done (.ret v)/\Q v s') E s:=by
 refine zD (m:=field (.ref z) 2) (uA hz rfl (x:=.bool false) rfl ?_);refine zD (m:=field (.ref z) 3) (uA hz rfl (x:=.ref TI) rfl ?_);refine zD (tV hTI rfl ?_);refine zD (m:=Builtin.SmallTypes.ownedTupleIsFree (.ref z)) ?_;unfold Builtin.SmallTypes.ownedTupleIsFree;refine zD (uA hz rfl (x:=.none) rfl (zV ?_));simp only[vv];refine zD (kA (zD (uA hz rfl (x:=.ref TO) rfl ?_)));refine zD (XD hz (by simp) λha hza sa=>?_)
 replace hza:IsZip ha z TI TO .ellipsis:=hza
 refine zD ?_;simp only[List.zipIdx_cons,List.zipIdx_nil,BN,List.forIn_nil];have h1a:st1 k ha:=S1.keep k _ _ h1 λc o hc e=>sa.extBut c o (by rcases hc with rfl|rfl; exact D.i1z; exact D.l1z) e
 refine zD (zD (Vw (zD (m:=nextOf (.ref i1)) (S1.item k h1a k1 λhb h1b sb=>zV ?_))));have hTOb:IsPair hb TO a b:=sb.extBut _ _ D.TOi1 (sa.extBut _ _ D.TOz hTO);refine zD (tV hTOb rfl (zD (Bp hTOb λhc hTOc sc=>?_)))
 replace hTOc:IsPair hc TO (v1 k) b:=hTOc
 refine zD (Zk (zV ?_))
 have h2c:st2 k hc:=S2.keep k _ _ h2 λc o hcc e=>by
  rcases hcc with rfl|rfl
  ·exact sc.extBut _ _ D.TOi2.symm (sb.extBut _ _ D.i12.symm (sa.extBut _ _ D.i2z e))
  ·exact sc.extBut _ _ D.l2TO (sb.extBut _ _ D.l2i1 (sa.extBut _ _ D.l2z e))
 refine zD (zD (Vw (zD (m:=nextOf (.ref i2)) (S2.item k h2c k2 λhd h2d sd=>zV ?_))));have hTOd:IsPair hd TO (v1 k) b:=sd.extBut _ _ D.TOi2 hTOc;refine zD (tV hTOd rfl (zD (Bp hTOd λhe hTOe se=>?_)))
 replace hTOe:IsPair he TO (v1 k) (v2 k):=hTOe
 refine zD (Zk (zV (zV ?_)));refine zD (tV hTOe rfl (zD (wpAny_newTuple ?_)));have hsz:he.objs.size=s.heap.objs.size:=by rw[se.1,sd.1,sc.1,sb.1,sa.1]
 have hze:IsZip he z TI TO .ellipsis:=se.extBut _ _ D.TOz.symm (sd.extBut _ _ D.i2z.symm (sc.extBut _ _ D.TOz.symm (sb.extBut _ _ D.i1z.symm hza)))
 have hke:∀c o,c≠z->c≠TO->c≠i1->c≠i2->s.heap.get? c=some o->he.get? c=some o:=λc o c1 c2 c3 c4 e=>
  se.extBut _ _ c2 (sd.extBut _ _ c4 (sc.extBut _ _ c2 (sb.extBut _ _ c3 (sa.extBut _ _ c1 e))))
 have h1e:st1 (k+1) he:=S1.keep _ _ _ h1b λc o hcc e=>by
  rcases hcc with rfl|rfl
  ·exact se.extBut _ _ D.TOi1.symm (sd.extBut _ _ D.i12 (sc.extBut _ _ D.TOi1.symm e))
  ·exact se.extBut _ _ D.l1TO (sd.extBut _ _ D.l1i2 (sc.extBut _ _ D.l1TO e))
 have h2e:st2 (k+1) he:=S2.keep _ _ _ h2d λc o hcc e=>by
  rcases hcc with rfl|rfl
  ·exact se.extBut _ _ D.TOi2.symm e
  ·exact se.extBut _ _ D.l2TO e
 have hzlt:z<he.objs.size:=Heap.lt_size hze;refine zD (m:=Builtin.SmallTypes.ownedTupleHandOut (.ref z) (.ref he.objs.size)) ?_;unfold Builtin.SmallTypes.ownedTupleHandOut;have hzf:IsZip (he.push { cls:=.type "tuple",data:=.seq #[v1 k,v2 k] }) z TI TO .ellipsis:=Heap.get?_push_of_some _ hze;refine zD (XD hzf (by simp) λhg hzg sg=>?_)
 replace hzg:IsZip hg z TI TO (rawInt he.objs.size):=hzg
 refine XD hzg (by simp) λhh hzh sh=>?_
 replace hzh:IsZip hh z TI TO (rawInt he.objs.size):=hzh
 have up:∀c o,c≠z->he.get? c=some o->hh.get? c=some o:=λc o c1 e=>sh.extBut _ _ c1 (sg.extBut _ _ c1 (Heap.get?_push_of_some _ e))
 have hT:IsPair hh he.objs.size (v1 k) (v2 k):=sh.extBut _ _ (uU hzlt) (sg.extBut _ _ (uU hzlt) (Heap.get?_push_size _ rfl));rw[hsz]at hzh hT;refine zV ⟨_,rfl,?_⟩;show Q (.ref he.objs.size) _;rw[hsz];refine hQ hh hzh (up _ _ D.TOz hTOe) (S1.keep _ _ _ h1e λc o hcc e=>up c o ?_ e) (S2.keep _ _ _ h2e λc o hcc e=>up c o ?_ e) hT λc o c1 c2 c3 c4 e=>up c o c1 (hke c o c1 c2 c3 c4 e)
 ·rcases hcc with rfl|rfl
  ·exact D.i1z
  ·exact D.l1z
 ·rcases hcc with rfl|rfl
  ·exact D.i2z
  ·exact D.l2z
theorem z0c{Q:Fin->Shared->Prop}(hh:A.handled=none)(D:ZipApart z TI TO i1 i2 l1 l2)(S1:kT prog w i1 l1 st1 n1 v1)(S2:kT prog w i2 l2 st2 n2 v2)
  (hz:IsZip s.heap z TI TO .none)(hTI:IsPair s.heap TI (.ref i1) (.ref i2))(hTO:IsPair s.heap TO a b)(h1:st1 k s.heap)(h2:st2 k s.heap)(hend:n1<=k\/n2<=k)
  (hE:∀h' e,(∀c o,c≠z->c≠TO->c≠i1->c≠i2->s.heap.get? c=some o->h'.get? c=some o)->(∃o,h'.get? e=some o/\o.cls=.type "StopIteration")->E (.ref e) { s with heap:=h' }) :
  wpAny (model prog w) A (Builtin.«zip.__next__» ⟨[.ref z],[]⟩) Q E s:=by
 refine zD (m:=field (.ref z) 2) (uA hz rfl (x:=.bool false) rfl ?_);refine zD (m:=field (.ref z) 3) (uA hz rfl (x:=.ref TI) rfl ?_);refine zD (tV hTI rfl ?_);refine zD (m:=Builtin.SmallTypes.ownedTupleIsFree (.ref z)) ?_;unfold Builtin.SmallTypes.ownedTupleIsFree;refine zD (uA hz rfl (x:=.none) rfl (zV ?_));simp only[vv];refine zD (kA (zD (uA hz rfl (x:=.ref TO) rfl ?_)));refine zD (XD hz (by simp) λha hza sa=>?_)
 replace hza:IsZip ha z TI TO .ellipsis:=hza
 refine zD ?_;simp only[List.zipIdx_cons,List.zipIdx_nil,BN,List.forIn_nil];have h1a:st1 k ha:=S1.keep k _ _ h1 λc o hc e=>sa.extBut c o (by rcases hc with rfl|rfl; exact D.i1z; exact D.l1z) e
 by_cases k1:k<n1
 ·have k2:n2<=k:=by omega
  refine zD (zD (Vw (zD (m:=nextOf (.ref i1)) (S1.item k h1a k1 λhb h1b sb=>zV ?_))));have hTOb:IsPair hb TO a b:=sb.extBut _ _ D.TOi1 (sa.extBut _ _ D.TOz hTO);refine zD (tV hTOb rfl (zD (Bp hTOb λhc hTOc sc=>?_)));refine zD (Zk (zV ?_))
  have h2c:st2 k hc:=S2.keep k _ _ h2 λc o hcc e=>by
   rcases hcc with rfl|rfl
   ·exact sc.extBut _ _ D.TOi2.symm (sb.extBut _ _ D.i12.symm (sa.extBut _ _ D.i2z e))
   ·exact sc.extBut _ _ D.l2TO (sb.extBut _ _ D.l2i1 (sa.extBut _ _ D.l2z e))
  refine zD (zD (Vw (zD (m:=nextOf (.ref i2)) (S2.done k hh h2c k2 λhd e sd he=>?_))));obtain⟨oe,hoe,hce⟩:=he;have hzd:IsZip hd z TI TO .ellipsis:=sd _ _ D.i2z.symm (sc.extBut _ _ D.TOz.symm (sb.extBut _ _ D.i1z.symm hza));have hez:e≠z:=λx=>by subst x; rw[hzd]at hoe; cases hoe; simp at hce
  exact XD hzd (by simp) λhf _ sf=>hE hf e (λc o c1 c2 c3 c4 x=>sf.extBut _ _ c1 (sd _ _ c4 (sc.extBut _ _ c2 (sb.extBut _ _ c3 (sa.extBut _ _ c1 x))))) ⟨oe,sf.extBut _ _ hez hoe,hce⟩
 ·refine zD (zD (Vw (zD (m:=nextOf (.ref i1)) (S1.done k hh h1a (by omega) λhb e sb he=>?_))));obtain⟨oe,hoe,hce⟩:=he;have hzb:IsZip hb z TI TO .ellipsis:=sb _ _ D.i1z.symm hza;have hez:e≠z:=λx=>by subst x; rw[hzb]at hoe; cases hoe; simp at hce
  exact XD hzb (by simp) λhf _ sf=>hE hf e (λc o c1 _ c3 _ x=>sf.extBut _ _ c1 (sb _ _ c3 (sa.extBut _ _ c1 x))) ⟨oe,sf.extBut _ _ hez hoe,hce⟩
end
end L2
namespace L2
open PySem PySem.Spec PyProof.Rows
def vz(K:W.Frag)(tp:Bool)(H:Hp)(a:Addr)(xs:List V):Prop:=match tp with
 |true=>yq K H a xs
 |false=>yP K H a xs
def Xr(tp:Bool):String:=match tp with
 |true => "tuple_iterator"
 |false => "list_iterator"
def uG(tp:Bool)(h:Heap)(a:Addr)(its:Array Value):Prop:=match tp with
 |true=>h.IsTuple a its
 |false=>h.IsList a its
def jx(tp:Bool)(h:Heap)(it l:Addr)(i:Nat):Prop:=∃o,h.get? it=some o/\o.cls=.type (Xr tp)/\o.data=.fields #[.ref l,.int i 0]
theorem jx.at{tp:Bool}{h h':Heap}{it l:Addr}{i:Nat}(x:jx tp h it l i)(e:∀o,h.get? it=some o->h'.get? it=some o):jx tp h' it l i:=let ⟨o,ho,r⟩:=x; ⟨o,e _ ho,r⟩
theorem uG.push{tp:Bool}{h:Heap}{a:Addr}{its:Array Value}(x:uG tp h a its)(o:Obj):uG tp (h.push o) a its:=by
 cases tp
 ·exact Heap.IsList.push x o
 ·exact Heap.IsTuple.push x o
theorem uG.lt{tp:Bool}{h:Heap}{a:Addr}{its:Array Value}(x:uG tp h a its):a<h.objs.size:=by
 cases tp
 ·obtain⟨o,e,_⟩:=x; exact Heap.lt_size e
 ·obtain⟨o,e,_⟩:=x; exact Heap.lt_size e
section
variable{prog:Program}{w:World}{A:Around}{E:Value->Shared->Prop}{s:Shared}
theorem Qy{tp:Bool}{it l:Addr}(hne:l≠it)(zF:Array Value):kT prog w it l (λi h=>jx tp h it l i/\uG tp h l zF) zF.size (λi=>zF.getD i .none):=by
 cases tp
 ·exact lT hne zF
 ·exact lU hne zF
theorem GA{tp:Bool}{l:Addr}{zF:Array Value}{Q:Value->Shared->Prop}(h:uG tp s.heap l zF)
  (hQ:Q (.ref s.heap.objs.size) { s with heap:=s.heap.push { cls:=.type (Xr tp),data:=.fields #[.ref l,.int 0 0] } }):wpAny (model prog w) A (pyIter (.ref l)) Q E s:=by
 cases tp
 ·exact Vx (show s.heap.IsList l zF from h) hQ
 ·exact wpAny_pyIter_tuple (show s.heap.IsTuple l zF from h) hQ
abbrev JR(t1:Bool)(h:Heap)(l1:Addr):Heap:=h.push { cls:=.type (Xr t1),data:=.fields #[.ref l1,.int 0 0] }
abbrev JS(t1 t2:Bool)(h:Heap)(l1 l2:Addr):Heap:=(JR t1 h l1).push { cls:=.type (Xr t2),data:=.fields #[.ref l2,.int 0 0] }
abbrev JT(t1 t2:Bool)(h:Heap)(l1 l2:Addr):Heap:=(JS t1 t2 h l1 l2).push { cls:=.type "tuple",data:=.seq #[.ref h.objs.size,.ref (JR t1 h l1).objs.size] }
abbrev JU(t1 t2:Bool)(h:Heap)(l1 l2:Addr):Heap:=(JT t1 t2 h l1 l2).push { cls:=.type "tuple",data:=.seq #[.none,.none] }
abbrev X2(t1 t2:Bool)(h:Heap)(l1 l2:Addr):Heap:=(JU t1 t2 h l1 l2).push { cls:=.type "zip",data:=.fields #[.none,.bool false,.bool false,.ref (JS t1 t2 h l1 l2).objs.size,.ref (JT t1 t2 h l1 l2).objs.size] }
theorem z0g(t1 t2:Bool)(l1 l2:Addr)(xs ys:Array Value) :
  Meets (Builtin.«zip.__new__» ⟨[.type "zip",.ref l1,.ref l2],[]⟩) (λ_ R s=>uG t1 s.heap l1 xs/\uG t2 s.heap l2 ys/\R (.ok (.ret (.ref (JU t1 t2 s.heap l1 l2).objs.size))) { s with heap:=X2 t1 t2 s.heap l1 l2 }):=
 .of_wp λprog w A R s h=>by
  obtain⟨hp,g,d,tk,os⟩:=s; obtain⟨hl1,hl2,h⟩:=h;have hsub:=sub_zip;have hL1:uG t1 (Shared.heap ⟨hp,g,d,tk,os⟩) l1 xs:=hl1;have hL2:uG t2 (Shared.heap ⟨hp.push { cls:=.type (Xr t1),data:=.fields #[.ref l1,.int 0 0] },g,d,tk,os⟩) l2 ys:=uG.push hl2 _
  wp_walk using GA hL1,GA hL2
  exact⟨_,rfl,h⟩
theorem Nn{t1 t2:Bool}{l1 l2:Addr}{xs ys:Array Value}{Q:Value->Shared->Prop}(hl1:uG t1 s.heap l1 xs)(hl2:uG t2 s.heap l2 ys)
  (h:∀h',IsZip h' (s.heap.objs.size+4) (s.heap.objs.size+2) (s.heap.objs.size+3) .none->IsPair h' (s.heap.objs.size+2) (.ref s.heap.objs.size) (.ref (s.heap.objs.size+1))->
   IsPair h' (s.heap.objs.size+3) .none .none->jx t1 h' s.heap.objs.size l1 0->jx t2 h' (s.heap.objs.size+1) l2 0->
   (∀c o,s.heap.get? c=some o->h'.get? c=some o)->Q (.ref (s.heap.objs.size+4)) { s with heap:=h' }) :
  wpAny (model prog w) A (call (.type "zip") [.ref l1,.ref l2]) Q E s:=by
 refine callType_new F.called_zip (by decide) (F.typeCall_zip_2 _ _) (F.newCall_zip_2 _ _) (λobj=>F.args_object_init_3 obj _ _) F.entry_zip_new (z0g t1 t2 l1 l2 xs ys) ⟨hl1,hl2,?_⟩;have z1:(JR t1 s.heap l1).objs.size=s.heap.objs.size+1:=Heap.size_push ..;have z2:(JS t1 t2 s.heap l1 l2).objs.size=s.heap.objs.size+2:=by rw[Heap.size_push,z1]
 have z3:(JT t1 t2 s.heap l1 l2).objs.size=s.heap.objs.size+3:=by rw[Heap.size_push,z2]
 have z4:(JU t1 t2 s.heap l1 l2).objs.size=s.heap.objs.size+4:=by rw[Heap.size_push,z3]
 have g5:(X2 t1 t2 s.heap l1 l2).get? (JU t1 t2 s.heap l1 l2).objs.size=some _:=Heap.get?_push_size _ rfl;have g4:(X2 t1 t2 s.heap l1 l2).get? (JT t1 t2 s.heap l1 l2).objs.size=some _:=Heap.get?_push_of_some _ (Heap.get?_push_size _ rfl);have g3:(X2 t1 t2 s.heap l1 l2).get? (JS t1 t2 s.heap l1 l2).objs.size=some _:=Heap.get?_push_of_some _ (Heap.get?_push_of_some _ (Heap.get?_push_size _ rfl));have g2:(X2 t1 t2 s.heap l1 l2).get? (JR t1 s.heap l1).objs.size=some _:=Heap.get?_push_of_some _ (Heap.get?_push_of_some _ (Heap.get?_push_of_some _ (Heap.get?_push_size _ rfl)));have g1:(X2 t1 t2 s.heap l1 l2).get? s.heap.objs.size=some _:=Heap.get?_push_of_some _ (Heap.get?_push_of_some _ (Heap.get?_push_of_some _ (Heap.get?_push_of_some _ (Heap.get?_push_size _ rfl))));show _/\_;rw[z2,z3,z4]at g5;rw[z1,z2]at g3;rw[z3]at g4;rw[z1]at g2;rw[z4]
 exact⟨⟨_,g5,rfl⟩,h _ g5 g3 g4 ⟨_,g1,rfl,rfl⟩ ⟨_,g2,rfl,rfl⟩ λc o x=>
  Heap.get?_push_of_some _ (Heap.get?_push_of_some _ (Heap.get?_push_of_some _ (Heap.get?_push_of_some _ (Heap.get?_push_of_some _ x))))⟩
end
section
variable{X:Cx}{z6:List (Addr×Obj)}{σ:St}{H:Hp}{s:Shared}
theorem Inv.Zt{tp:Bool}{a:Addr}{xs:List V}(I:Inv X z6 σ H s)(h:vz X.K tp H a xs):∃its:List Value,zu xs its/\uG tp s.heap a its.toArray:=by
 cases tp
 ·obtain⟨its,r,p,_⟩:=I.list h;exact⟨its,r,p.isList⟩
 ·obtain⟨its,r,p,_⟩:=I.tuple h;exact⟨its,r,p⟩
theorem Inv.Bt{tp:Bool}{a:Addr}{xs ys:List V}(I:Inv X z6 σ H s)(h:vz X.K tp H a xs)(h':vz X.K tp H a ys):xs=ys:=by
 cases tp
 ·exact I.U2 h h'
 ·exact I.II h h'
theorem Hi{fs ch:List Addr}{h h':Heap}(k:∀b o,b ∉ ch->h.get? b=some o->h'.get? b=some o):Un fs ch H H h h':=
 ⟨λb o e _ _ hx=>k b o hx e,λb o e _ _ hx=>⟨o.slots,k b o hx e⟩,λ_ _ _ n _=>n,λb o e hx=>⟨o,k b o hx e⟩,λ_ _ z=>z,λ_ _ _ z=>z,λb ps e=>⟨#[],by rw[e]; simp⟩⟩
theorem Fm{P:Program}{w:World}{ch:List Addr}{h h':Heap}(x:xM P w H h)(hn:∀b∈ch,H b=none)(k:∀b o,b ∉ ch->h.get? b=some o->h'.get? b=some o):xM P w H h':=λb u e=>by
 have nit:∀c v,H c=some v->c ∉ ch:=λc v e z=>by rw[hn c z]at e; cases e
 refine(x b u e).jc (λc v hc q=>k c v ?_ q) (λ_ q=>q) λ_ _ q=>q
 rcases hc with z|z
 ·rw[z]; exact nit b u e
 ·exact nit c _ z
theorem Inv.but{ch:List Addr}{h':Heap}{tk:Nat}(I:Inv X z6 σ H s)(hf:∀b∈ch,tm X z6 H b)(k:∀b o,b ∉ ch->s.heap.get? b=some o->h'.get? b=some o):Inv X z6 σ H { s with heap:=h',toks:=tk }:=
 I.IA (s':={ s with heap:=h',toks:=tk }) rfl (Hi k) (Fm I.zg (λb hb=>(hf b hb).1) k) I.bare λb hb=>⟨(hf b hb).2.2.2.1,(hf b hb).2.1,(hf b hb).2.2.2.2.1,(hf b hb).2.2.2.2.2⟩
theorem Inv.V_{ch:List Addr}{h':Heap}{tk:Nat}{T:Addr}{o:HO}(I:Inv X z6 σ H s)(hf:∀b∈ch,tm X z6 H b)(k:∀b o,b ∉ ch->s.heap.get? b=some o->h'.get? b=some o)(hT:s.heap.get? T=none)(hn:H T=none)
  (new:xC X.prog X.w (zb H T o) h' T o):Inv X z6 σ (zb H T o) { s with heap:=h',toks:=tk }:=
 I.IA (s':={ s with heap:=h',toks:=tk }) rfl (rP (Hi k) hT hn) (Fn (Fm I.zg (λb hb=>(hf b hb).1) k) hn new) I.bare λb hb=>⟨(hf b hb).2.2.2.1,(hf b hb).2.1,(hf b hb).2.2.2.2.1,(hf b hb).2.2.2.2.2⟩
end
def IS(K:W.Frag)(t1 t2:Bool)(a b:Addr):It:=
  ⟨λi H=>∃xs ys x y,vz K t1 H a xs/\vz K t2 H b ys/\xs[i]?=some x/\ys[i]?=some y,
   λi H v H'=>∃p,H p=none/\v=.ref p/\∀xs ys,vz K t1 H a xs->vz K t2 H b ys->∃x y,xs[i]?=some x/\ys[i]?=some y/\H'=zb H p (.tup [x,y]),
   λi H=>∃xs ys,vz K t1 H a xs/\vz K t2 H b ys/\(xs.length<=i\/ys.length<=i)⟩
theorem oK{P:Program}{w:World}{K:W.Frag}{elts:List Expr}{kk:Nat}{pos:Pos}(t1 t2:Bool)(a b z TI TO i1 i2:Addr)(D:ZipApart z TI TO i1 i2 a b) :
  tq P w K (.Tuple elts kk pos) (IS K t1 t2 a b) [z,TI,TO,i1,i2] z (λi h=>IsZip h z TI TO .none/\IsPair h TI (.ref i1) (.ref i2)/\(∃u v,IsPair h TO u v)/\jx t1 h i1 a i/\jx t2 h i2 b i) where
 mem:=by simp
 obj:=λi h st c hc=>by
  obtain⟨s1,s2,⟨u,v,s3⟩,⟨o4,s4,_,d4⟩,⟨o5,s5,_,d5⟩⟩:=st;simp only[yV,wb,or_false]at hc;rcases hc with rfl|rfl|rfl|rfl|rfl
  ·exact⟨_,s1,λv q=>nomatch q⟩
  ·exact⟨_,s2,λv q=>nomatch q⟩
  ·exact⟨_,s3,λv q=>nomatch q⟩
  ·exact⟨_,s4,λv q=>by rw[d4]at q; cases q⟩
  ·exact⟨_,s5,λv q=>by rw[d5]at q; cases q⟩
 keep:=λi h h' st k=>by
  obtain⟨s1,s2,⟨u,v,s3⟩,s4,s5⟩:=st;exact⟨k z (by simp) _ s1,k TI (by simp) _ s2,⟨u,v,k TO (by simp) _ s3⟩,s4.at λo e=>k i1 (by simp) o e,s5.at λo e=>k i2 (by simp) o e⟩
 item:=by
  intro X hP hw hK hc i z6 s σ H E I hf st hg;subst hP hw hK;obtain⟨s1,s2,⟨u,v,s3⟩,s4,s5⟩:=st;obtain⟨xs,ys,x,y,hx,hy,ex,ey⟩:=hg;obtain⟨us,ru,pu⟩:=I.Zt hx;obtain⟨ws,rw',pw⟩:=I.Zt hy;obtain⟨xu,hxu,rxu⟩:=ru.get ex;obtain⟨yw,hyw,ryw⟩:=rw'.get ey;have k1:i<us.toArray.size:=by rw[yg]; exact(yx.mp hxu).1
  have k2:i<ws.toArray.size:=by rw[yg]; exact(yx.mp hyw).1
  have e1:us.toArray.getD i .none=xu:=by
   have:=yx.mp hxu;obtain⟨l,e⟩:=this;simp[Array.getD,l,e]
  have e2:ws.toArray.getD i .none=yw:=by
   have:=yx.mp hyw;obtain⟨l,e⟩:=this;simp[Array.getD,l,e]
  have hT:s.TypeIs (.ref z) "zip" := ⟨_,s1,rfl⟩;have q4:i1<s.heap.objs.size:=by obtain⟨o,e,_⟩:=s4; exact Heap.lt_size e
  have q5:i2<s.heap.objs.size:=by obtain⟨o,e,_⟩:=s5; exact Heap.lt_size e
  unfold pyNext
  refine zD (Js (pW (name:=Str.ofString "__next__") hT Ja (tU Ja hT F.entry_zip_next
   (z0d D (Qy D.l1i1 us.toArray) (Qy D.l2i2 ws.toArray) s1 s2 s3 ⟨s4,pu⟩ ⟨s5,pw⟩ k1 k2 q4 q5 pu.lt pw.lt λh' a1 a2 a3 a4 a5 a6=>zV ?_) (F.args_zip_next_1 _))))
  rw[e1,e2]at a2 a5;refine⟨_,rfl,wpAny_letOwnedTupleGo_zip (s:={ s with heap:=h' }) a1 λh'' b1 sb=>?_⟩
  have hTs:s.heap.get? s.heap.objs.size=none:=by
   cases q:s.heap.get? s.heap.objs.size with
   |none=>rfl
   |some o=>exact absurd (Heap.lt_size q) (wQ _)
  have hTf:H s.heap.objs.size=none:=I.zg.fresh (zt _);have hTz:s.heap.objs.size≠z:=uU (Heap.lt_size s1);have tup:h''.get? s.heap.objs.size=some { cls:=.type "tuple",data:=.seq #[xu,yw] }:=sb.extBut _ _ hTz a5
  have kk:∀c o,c ∉ [z,TI,TO,i1,i2]->s.heap.get? c=some o->h''.get? c=some o:=λc o hc e=>by
   simp only[yV,wb,or_false,Zj]at hc;exact sb.extBut _ _ hc.1 (a6 c o hc.1 hc.2.2.1 hc.2.2.2.1 hc.2.2.2.2 e)
  have new:xC X.prog X.w (zb H s.heap.objs.size (.tup [x,y])) h'' s.heap.objs.size (.tup [x,y]):=⟨(by show 2<=sizeLine; decide),[xu,yw],.cons rxu (.cons ryw .nil),⟨_,tup,rfl,_,rfl⟩⟩;refine⟨.ref s.heap.objs.size,zb H s.heap.objs.size (.tup [x,y]),I.V_ (tk:=s.toks) hf kk hTs hTf new,rfl,⟨s.heap.objs.size,hTf,rfl,λxs' ys' hx' hy'=>?_⟩,⟨b1,?_,⟨_,_,sb.extBut _ _ D.TOz a2⟩,a3.1.at λo e=>sb.extBut _ _ D.i1z e,a4.1.at λo e=>sb.extBut _ _ D.i2z e⟩,λc hc=>?_⟩
  ·rw[I.Bt hx' hx,I.Bt hy' hy];exact⟨x,y,ex,ey,rfl⟩
  ·exact sb.extBut _ _ D.TIz (a6 _ _ D.TIz D.TITO D.TIi1 D.TIi2 s2)
  ·rw[zx]
   ·exact(hf c hc).1
   ·intro q
    have hlt:c<s.heap.objs.size:=by
     simp only[yV,wb,or_false]at hc;rcases hc with rfl|rfl|rfl|rfl|rfl
     ·exact Heap.lt_size s1
     ·exact Heap.lt_size s2
     ·exact Heap.lt_size s3
     ·exact q4
     ·exact q5
    rw[q]at hlt;exact absurd hlt (wQ _)
 done:=by
  intro X hP hw hK hc i z6 s σ H E I hf st hg;subst hP hw hK;obtain⟨s1,s2,⟨u,v,s3⟩,s4,s5⟩:=st;obtain⟨xs,ys,hx,hy,hend⟩:=hg;obtain⟨us,ru,pu⟩:=I.Zt hx;obtain⟨ws,rw',pw⟩:=I.Zt hy
  have hend':us.toArray.size<=i\/ws.toArray.size<=i:=by
   have l1:=ru.length;have l2:=rw'.length;rw[yg,yg];omega
  have hT:s.TypeIs (.ref z) "zip" := ⟨_,s1,rfl⟩;unfold pyNext
  refine zD (Js (pW (name:=Str.ofString "__next__") hT Ja (tU Ja hT F.entry_zip_next
   (z0c (by exact I.ok.hd hc) D (Qy D.l1i1 us.toArray) (Qy D.l2i2 ws.toArray) s1 s2 s3 ⟨s4,pu⟩ ⟨s5,pw⟩ hend' λh' e kk he=>?_) (F.args_zip_next_1 _))))
  obtain⟨o,ho,hcl⟩:=he;refine zD (Jv (T := "StopIteration") (b:=true) ⟨o,ho,hcl⟩ Bg ?_);refine zV ⟨rfl,I.but (tk:=s.toks) hf λc ob hcc eb=>?_⟩;simp only[yV,wb,or_false,Zj]at hcc;exact kk c ob hcc.1 hcc.2.2.1 hcc.2.2.2.1 hcc.2.2.2.2 eb
 self:=λ_ _ _ _ _ st h=>wpAny_pyIter_zip st.1 h
theorem xE{a b:Nat}(h:a≠b):@Ne Addr a b:=h
theorem z0e{n l1 l2:Nat}(h1:l1<n)(h2:l2<n):ZipApart (n+4) (n+2) (n+3) n (n+1) l1 l2:=
 ⟨xE (by omega),xE (by omega),xE (by omega),xE (by omega),xE (by omega),xE (by omega),xE (by omega),xE (by omega),xE (by omega),xE (by omega),xE (by omega),xE (by omega),xE (by omega),xE (by omega),xE (by omega),xE (by omega),xE (by omega),xE (by omega)⟩
theorem NS:bootBuiltins "zip" = some (.type "zip"):=by decide +kernel
section
variable{X:Cx}
def Fo(K:W.Frag)(ta:TA):TI:=λσ H R=>ta σ H λvs H1=>∃a b xs ys t1 t2,vs=[.ref a,.ref b]/\vz K t1 H1 a xs/\vz K t2 H1 b ys/\R (IS K t1 t2 a b) H1
theorem cC{a b:Expr}{ta:TA}{p pos:Pos}{elts:List Expr}{kk:Nat}{tp:Pos}(hg:Gl X "zip")(hm:X.mg "zip" = none)(ha:PA X [a,b] ta)(hs:starEach [a,b] X.env=[(false,eval a X.env),(false,eval b X.env)]:=by rfl)
  (hs2:starEach [b] X.env=[(false,eval b X.env)]:=by rfl):PI X (.Tuple elts kk tp) (.Call (.Name "zip" p) [a,b] [] pos) (Fo X.K ta):=by
 intro z6 s σ H R I h;refine Call_ (Z7 I hg hm NS (Vq (zo (ha pos z6 s σ H _ I h) λus s1 ⟨vs,H1,I1,r1,q1⟩=>?_) (by rw[hs,hs2]) (by rw[hs2]; rfl)));obtain⟨l1,l2,xs,ys,t1,t2,rfl,hx,hy,q⟩:=q1;obtain⟨u,v,rfl,ru,rv⟩:=JG r1;cases(show u=Value.ref l1 from ru);cases(show v=Value.ref l2 from rv);obtain⟨us,_,pu⟩:=I1.Zt hx;obtain⟨ws,_,pw⟩:=I1.Zt hy;have w1:=pu.lt;have w2:=pw.lt;refine Nn pu pw λh' a1 a2 a3 a4 a5 kp=>?_
 have I2:Inv X z6 σ H1 { s1 with heap:=h' }:=I1.kept (t':=s1.toks) kp;refine wpAny_pyIter_zip (s:={ s1 with heap:=h' }) a1 ?_;generalize hn:s1.heap.objs.size=n at a1 a2 a3 a4 a5 w1 w2
 have D:ZipApart (n+4) (n+2) (n+3) n (n+1) l1 l2:=by
  exact z0e w1 w2
 refine⟨n+4,[n+4,n+2,n+3,n,n+1],_,_,H1,rfl,I2,oK t1 t2 l1 l2 (n+4) (n+2) (n+3) n (n+1) D,⟨a1,a2,⟨_,_,a3⟩,a4,a5⟩,λc hc=>?_,q⟩
 have hle:s1.heap.objs.size<=c:=by
  rw[hn];simp only[yV,wb,or_false]at hc;rcases hc with rfl|rfl|rfl|rfl|rfl
  ·exact g_ _ _
  ·exact g_ _ _
  ·exact g_ _ _
  ·exact zt _
  ·exact g_ _ _
 exact I1.qp hle (I1.zg.fresh hle)
theorem d7{a b:Expr}{ta:TA}{p pos:Pos}{elts:List Expr}{kk:Nat}{tp:Pos}(hg:Gl X "zip")(hm:X.mg "zip" = none)(ha:QA X [a,b] ta)(hs:xX a=true:=by rfl)(hs2:xX b=true:=by rfl) :
  QI X (.Tuple elts kk tp) (.Call (.Name "zip" p) [a,b] [] pos) (Fo X.K ta):=⟨cC hg hm ha.h (by rw[tP hs,tP hs2]; rfl) (tP hs2)⟩
end
def Da(scope:Scope)(env:Env)(cl:List (Str×Addr))(own:List Str):Bool:=
 scope.kind == .function&&scope.names.all (λy=>y.2 != .cell)&&YH scope env cl own&&scope.names.all (λy=>y.2 != .local||scope.names.lookup y.1==some .local)
theorem wj{X:Cx}{scope:Scope}{cl:List (Str×Addr)}{own:List Str}(U1:closureFor scope X.env=pure cl)(U0:ji X.env cl:=by first|exact True.intro|exact⟨rfl,True.intro⟩|exact⟨rfl,rfl,True.intro⟩|exact⟨rfl,rfl,rfl,True.intro⟩|exact⟨rfl,rfl,rfl,rfl,True.intro⟩)
  (ok:Da scope X.env cl own=true:=by rfl):pZ X scope cl own:=by
 unfold Da at ok;simp only[xL]at ok;obtain⟨⟨⟨h1,h2⟩,h3⟩,h4⟩:=ok;refine⟨Zi.mp h1,λy hy e=>?_,U0,h3,U1,λy hy e=>?_⟩
 ·have:=vB.mp h2 y hy;rw[e]at this;cases this
 ·have:=vB.mp h4 y hy;rw[e]at this;simpa using this
section
variable{X:Cx}(K:W.Frag)(hK:X.K=K)
include hK
end
def Ky(K:W.Frag)(a:Addr)(xs:List V):Prop:=∀H,yq K H a xs
theorem xm{K:W.Frag}{a:Addr}{xs:List V}{d:Option Addr}{its:Array Value}{n:Nat}{sl:Array (Option Value)}(h:K.lookup a=some ⟨.type "tuple",d,.seq its n,sl⟩)(hz:its.size<=sizeLine)(r:zu xs its.toList):Ky K a xs:=
 λ_=>.inr ⟨_,its,n,h,rfl,rfl,hz,r⟩
open Builtin Builtin.Str
section
variable{X:Cx}
theorem Ht:∀{ts:List Str}{its:List Value},zu (ts.map V.str) its->∃l:List (Str×Tok),its=strValues l/\l.map (·.1)=ts
 | [],_,.nil=>⟨[],rfl,rfl⟩
 |t::ts,_,.cons r rr=>by
  obtain⟨k,e⟩:=(show ∃k,_=Value.str t k from r);obtain⟨l,e1,e2⟩:=Ht rr;subst e e1;exact⟨(t,k)::l,rfl,by rw[xw,e2]⟩
def dC(K:W.Frag):V->List V->Hp->VK->Prop:=λx vs H Q=>∃(sep:Str) (p:Addr) (ts:List Str),x=.str sep/\vs=[.ref p]/\yP K H p (ts.map V.str)/\(ts.map (·.length)).sum+ts.length*sep.length<=sizeLine/\Q (.str (glued sep ts)) H
theorem glued_len(sep:Str):∀ts:List Str,(glued sep ts).length<=(ts.map (·.length)).sum+ts.length*sep.length
 | []=>by show(Str.length _)<=_; simp[glued,Str.length,Str.empty]
 |t::ts=>by
  have h:∀(us:List Str)(a:Array Nat),(us.foldl (λacc p=>acc++sep.cps++p.cps) a).size=a.size+(us.map (·.length)).sum+us.length*sep.length:=λus=>by
   induction us with
   |nil=>intro a; simp
   |cons u us ih=>
    intro a;rw[Zb,ih];simp only[Array.size_append,xw,BV,xf,Nat.succ_mul,Str.length];omega
  show(ts.foldl (λacc p=>acc++sep.cps++p.cps) t.cps).size<=_;rw[h];simp only[xw,BV,xf,Nat.succ_mul,Str.length];omega
theorem Sy:XQ X "str.join" (dC X.K):=by
 intro z6 s σ H x vs v us Q I rx rv h;obtain⟨sep,p,ts,rfl,rfl,hq,hz,q⟩:=h;obtain⟨t,rfl⟩:=(show ∃t,v=Value.str sep t from rx);obtain⟨u,rfl,ru⟩:=vY rv;cases(show u=Value.ref p from ru);obtain⟨its,r,pl,_⟩:=I.list hq;obtain⟨l,rfl,el⟩:=Ht r;have hT:s.TypeIs (.ref p) "list" := pl.isList.typeIs;obtain⟨o,ho,hc,n,hd⟩:=pl.isList
 have hno:tooLong ((l.map (·.1)).toArray.foldl (·+·.length+sep.length) 0)=false:=by
  rw[el,StrLaws.joinTotal];unfold tooLong;exact yh (by omega)
 have fit:(glued sep ts).length<=sizeLine:=xj (glued_len sep ts) hz;refine Jt (Be F.slot_str_join.plain F.entry_str_join (F.slot_str_join.check _ _ _ _ _ _ _ _ (Jr _ _ _) (F.args_str_join_2 _ _) ?_));obtain⟨other,e⟩:=join_tree sep t p;rw[e];refine zD (kB hT ?_);rw[zP (by decide)];refine zD (tV ho hd ?_);show wpAny _ _ (joinTail sep (strValues l)) _ _ _;rcases l with _|⟨a,_|⟨b,c⟩⟩
 ·subst el;exact Bf sep [] hno X.prog X.w _ (λr s'=>match r with|.ok (.ret v)=>EP X z6 σ Q v s'|.ok _=>False|.error e=>X.xe e s') s ⟨fit,.str _,H,I.tok _,⟨_,rfl⟩,q⟩
 ·subst el;exact Bf sep [a] hno X.prog X.w _ (λr s'=>match r with|.ok (.ret v)=>EP X z6 σ Q v s'|.ok _=>False|.error e=>X.xe e s') s ⟨.str _,H,I,⟨_,rfl⟩,q⟩
 ·subst el;exact Bf sep (a::b::c) hno X.prog X.w _ (λr s'=>match r with|.ok (.ret v)=>EP X z6 σ Q v s'|.ok _=>False|.error e=>X.xe e s') s ⟨fit,.str _,H,I.tok _,⟨_,rfl⟩,q⟩
end
def UZ(z:Str):It:=⟨λi _=>i<z.length,λi H x H'=>H'=H/\∃c,z.cps[i]?=some c/\x=.str ⟨#[c]⟩,λi _=>z.length<=i⟩
section
variable{X:Cx}{tg:Expr}
def Rj(te:TE):TI:=λσ H R=>te σ H λx H1=>∃z,x=.str z/\R (UZ z) H1
theorem oI{P:Program}{w:World}{K:W.Frag}{it:Addr}{z:Str}{t:Tok}{ty:String}(hty:ty = "str_ascii_iterator" \/ ty = "str_iterator"):tq P w K tg (UZ z) [it] it (λi h=>h.IsStrIter it ty z t i/\i<=z.length) where
 mem:=by simp
 obj:=λi h st b hb=>by
  have e:b=it:=by simpa using hb
  subst e;obtain⟨⟨o,e,c,d⟩,_⟩:=st;exact⟨o,e,λv z=>by rw[d]at z; cases z⟩
 keep:=λi h h' st k=>⟨let ⟨o,ho,r⟩:=st.1; ⟨o,k it (by simp) o ho,r⟩,st.2⟩
 item:=by
  intro X hP hw hK hc i z6 s σ H E I hf st hg;subst hP hw hK;obtain⟨f0,f1,f2,f3,f4,f5⟩:=hf it (by simp);have hg':i<z.cps.size:=hg;have hx:z.cps[i]?=some z.cps[i]:=by simp[hg']
  have go:∀h' tk (u:Value),(∃t',u=Value.str ⟨#[z.cps[i]]⟩ t')->h'.IsStrIter it ty z t (i+1)->Heap.SameBut it s.heap h'->∃v,some u=some v/\
    wpAny (model X.prog X.w) X.A (letOwnedTupleGo tg (.ref it) v) (λ_ s2=>∃x H',Inv X z6 σ H' s2/\z_ x v/\(UZ z).vE i H x H'/\(s2.heap.IsStrIter it ty z t (i+1)/\i+1<=z.length)/\∀b∈[it],H' b=none) E { s with heap:=h',toks:=tk }:=λh' tk u hu st' sb=>by
   obtain⟨t',rfl⟩:=hu;have I1:Inv X z6 σ H { s with heap:=h',toks:=tk }:=I.turned (λb o hb e=>(sb.2 b hb).trans e) f0 f1 f3 f4 f5;obtain⟨o,e,c,d⟩:=id st';exact⟨_,rfl,YT (s:={ s with heap:=h',toks:=tk }) e c d (by rcases hty with rfl|rfl<;>decide) ⟨.str ⟨#[z.cps[i]]⟩,H,I1,⟨t',rfl⟩,⟨rfl,_,hx,rfl⟩,⟨st',hg⟩,λb hb=>(hf b hb).1⟩⟩
  rcases hty with rfl|rfl
  ·exact wpAny_pyNext_ascii_item st.1 hx λh' st' sb=>go h' _ _ ⟨_,rfl⟩ st' sb
  ·exact wpAny_pyNext_wide_item st.1 hx λh' st' sb=>go h' _ _ ⟨_,rfl⟩ st' sb
 done:=by
  intro X hP hw hK hc i z6 s σ H E I hf st hg;subst hP hw hK;obtain⟨f0,f1,f2,f3,f4,f5⟩:=hf it (by simp);have hx:z.cps[i]?=none:=Ve hg;rcases hty with rfl|rfl
  ·exact wpAny_pyNext_ascii_end (I.ok.hd hc) st.1 hx λh' eb=>⟨rfl,I.turned (t':=s.toks) (λb o hb e=>eb b o hb e) f0 f1 f3 f4 f5⟩
  ·exact wpAny_pyNext_wide_end (I.ok.hd hc) st.1 hx λh' eb=>⟨rfl,I.turned (t':=s.toks) (λb o hb e=>eb b o hb e) f0 f1 f3 f4 f5⟩
 self:=λ_ _ _ _ _ st h=>by
  rcases hty with rfl|rfl
  ·exact wpAny_pyIter_striter_ascii st.1 h
  ·exact wpAny_pyIter_striter_wide st.1 h
theorem cA{e:Expr}{te:TE}(he:PE X e te):PI X tg e (Rj te):=by
 intro z6 s σ H R I h;refine zo (he z6 s σ H _ I h) λv s1 ⟨x,H1,I1,r1,q1⟩=>?_
 obtain⟨z,rfl,q⟩:=q1;obtain⟨t,rfl⟩:=(show ∃t,v=Value.str z t from r1)
 have fin:∀(ty:String),(ty = "str_ascii_iterator" \/ ty = "str_iterator")->∀o:Obj,(s1.heap.push o).IsStrIter s1.heap.objs.size ty z t 0->IU X z6 σ tg R (.ref s1.heap.objs.size) { s1 with heap:=s1.heap.push o }:=λty hty o st=>
  ⟨s1.heap.objs.size,[s1.heap.objs.size],_,_,H1,rfl,I1.kept (t':=s1.toks) λb o e=>Heap.get?_push_of_some _ e,oI hty,⟨st,uu _⟩,λb hb=>by
   have e:b=s1.heap.objs.size:=by simpa using hb
   subst e;exact I1.qp (zt _) (I1.zg.fresh (zt _)),q⟩
 cases ha:z.cps.all (·<128)
 ·exact wpAny_pyIter_wide ha (fin _ (.inr rfl) _ ⟨_,Heap.get?_push_size _ rfl,rfl,rfl⟩)
 ·exact wpAny_pyIter_ascii ha (fin _ (.inl rfl) _ ⟨_,Heap.get?_push_size _ rfl,rfl,rfl⟩)
end
def cutS(z:Str)(lo hi:Option Int):Str:=⟨((z.cps.toList.drop (HT.sIx z.length 0 lo)).take (HT.sIx z.length z.length hi-HT.sIx z.length 0 lo)).toArray⟩
theorem Nt(n:Nat)(lo:Option Int):(match lo with|none=>(0:Int)|some i=>max 0 (min (if i<0 then i+(n:Int)else i) (n:Int)))=((HT.sIx n 0 lo:Nat):Int)\/∃i,lo=some i/\i<0/\(n:Int)<i+n:=by
 cases lo with
 |none=>left; rfl
 |some i=>
  left
  show max 0 (min (if i<0 then i+(n:Int)else i) (n:Int))=(((if i<0 then(i+(n:Int)).toNat else min i.toNat n):Nat):Int);by_cases h:i<0
  ·simp only[h,vv]; omega
  ·simp only[h,uV]; omega
theorem Nr(n:Nat)(hi:Option Int):(match hi with|none=>(n:Int)|some i=>max 0 (min (if i<0 then i+(n:Int)else i) (n:Int)))=((HT.sIx n n hi:Nat):Int):=by
 cases hi with
 |none=>rfl
 |some i=>
  show max 0 (min (if i<0 then i+(n:Int)else i) (n:Int))=(((if i<0 then(i+(n:Int)).toNat else min i.toNat n):Nat):Int);by_cases h:i<0
  ·simp only[h,vv]; omega
  ·simp only[h,uV]; omega
theorem Nu(n:Nat)(lo:Option Int):(match lo with|none=>(0:Int)|some i=>max 0 (min (if i<0 then i+(n:Int)else i) (n:Int)))=((HT.sIx n 0 lo:Nat):Int):=by
 rcases Nt n lo with h|⟨i,_,h1,h2⟩
 ·exact h
 ·omega
theorem Em(z:Str)(lo hi:Option Int):(strSliceIndices lo hi 1 z.length)=(List.range (HT.sIx z.length z.length hi-HT.sIx z.length 0 lo)).map (HT.sIx z.length 0 lo+·):=by
 have h1:=Nu z.length lo;have h2:=Nr z.length hi;rw[<-sliceRange_one,<-h1,<-h2];unfold strSliceIndices;simp only[show(1:Int)>0 by decide,vv];cases lo<;>cases hi<;>rfl
theorem Ny(z:Str)(lo hi:Option Int):(⟨((strSliceIndices lo hi 1 z.length).filterMap (z.cps[·]?)).toArray⟩:Str)=cutS z lo hi:=by
 rw[Em,pick_run];rfl
theorem sIx_le(n d:Nat)(hd:d<=n)(v:Option Int):HT.sIx n d v<=n:=by
 cases v with
 |none=>exact hd
 |some i=>
  show(if i<0 then(i+(n:Int)).toNat else min i.toNat n)<=n;by_cases h:i<0
  ·simp only[h,vv]; omega
  ·simp only[h,uV]; omega
theorem N_(z:Str)(lo hi:Option Int)(h:(strSliceIndices lo hi 1 z.length).length=z.length):cutS z lo hi=z:=by
 rw[Em,zr,vD]at h;have a:=sIx_le z.length 0 (uu _) lo;have b:=sIx_le z.length z.length (zt _) hi;unfold cutS;rw[h];have hz:HT.sIx z.length 0 lo=0\/z.length=0:=by omega
 have hl:z.cps.toList.length=z.length:=by simp[Str.length]
 rcases hz with q|q
 ·rw[q,List.drop_zero,<-hl,Jk]
 ·have e:z.cps.toList=[]:=List.eq_nil_of_length_eq_zero (by omega);rw[e];simp;cases z with
  |mk c=>simp[Str.length]at q; simp[q]
theorem cut_len(z:Str)(lo hi:Option Int):(cutS z lo hi).length<=z.length:=by
 show(List.toArray _).size<=z.cps.size;rw[yg,jY,Zd,wp];omega
section
variable{X:Cx}
theorem Ee{v:Value}{lo:Option Int}(h:IsPart v lo):∃l:Option (Int×Tok),v=partValue l/\l.map (·.1)=lo:=by
 cases h with
 |none=>exact⟨none,rfl,rfl⟩
 |int i t=>exact⟨some (i,t),rfl,rfl⟩
def GR:V->Option Int->Option Int->Hp->VK->Prop:=λx lo hi H Q=>∃z:Str,x=.str z/\z.length<=sizeLine/\Q (.str (cutS z lo hi)) H
theorem lJ:p5 X GR:=by
 intro z6 s σ H x v vl vu lo hi sl Q I rx hs pl pu h;obtain⟨z,rfl,hz,q⟩:=h;obtain⟨t,rfl⟩:=(show ∃t,v=Value.str z t from rx);obtain⟨l,rfl,rfl⟩:=Ee pl;obtain⟨u,rfl,rfl⟩:=Ee pu;refine⟨"str",_,F.slot_str_getitem.lookup,Jr _ _ _,?_⟩;refine wpAny_getItem_str_slice (l:=l) (u:=u) (st:=none) hs rfl ?_;unfold sliceMade;have hp:slicePicked z l u none=strSliceIndices (l.map (·.1)) (u.map (·.1)) 1 z.length:=rfl;rw[hp]
 split
 ·rename_i hc
  have e:(strSliceIndices (l.map (·.1)) (u.map (·.1)) 1 z.length).length=z.length:=by
   rw[xL]at hc;exact Zi.mp hc.2
  rw[N_ z _ _ e]at q;exact⟨.str z,H,I,⟨_,rfl⟩,q⟩
 ·rw[Ny];exact⟨xj (cut_len z _ _) hz,.str _,H,I.tok _,⟨_,rfl⟩,q⟩
end
section
variable{X:Cx}{e o:Expr}{te to:TE}{pos apos cpos:Pos}{name:Str}{T id:String}{rm:V->List V->Hp->VK->Prop}
end
end L2
namespace L2
open PySem PySem.Spec PyProof.Rows
section
variable{κ:Type}[DecidableEq κ]
def ur(kvs:List (κ×V))(k:κ):Option V:=(kvs.find? λkv=>decide (kv.1=k)).map (·.2)
def vk(kvs:List (κ×V))(k:κ)(v:V):List (κ×V):=
 if(kvs.any λkv=>decide (kv.1=k))=true then kvs.map (λkv=>if kv.1=k then(kv.1,v)else kv)else kvs++[(k,v)]
theorem JF{p:κ×V}{r:List (κ×V)}{k:κ}(e:p.1=k):ur (p::r) k=some p.2:=by simp[ur,X8,e]
theorem JE{p:κ×V}{r:List (κ×V)}{k:κ}(e:¬ p.1=k):ur (p::r) k=ur r k:=by simp[ur,X8,e]
theorem Ho(k:κ):∀kvs:List (κ×V),(kvs.any λkv=>decide (kv.1=k))=(ur kvs k).isSome
 | []=>rfl
 |p::r=>by
  rw[X6];by_cases e:p.1=k
  ·simp only[JF e,ye e,Bool.true_or,Option.isSome_some]
  ·rw[JE e,yh e,JW]; exact Ho k r
theorem LY(kvs:List (κ×V))(k:κ)(v:V):(vk kvs k v).length<=kvs.length+1:=by
 unfold vk
 split
 ·rw[zr]; omega
 ·rw[ya,xf,jX]; omega
theorem p4.XH{o:Option V}{u:Option Value}(r:p4 o u):o.isSome=u.isSome:=by
 cases o with
 |none=>cases u with
  |none=>rfl
  |some _=>exact(show False from r).elim
 |some _=>cases u with
  |none=>exact(show False from r).elim
  |some _=>rfl
theorem KV.val{kvs:List (κ×V)}{vs:List (κ×Value)}(r:KV kvs vs)(k:κ):p4 (ur kvs k) (valueAt vs k):=by
 unfold KV at r
 induction r with
 |nil=>exact True.intro
 |@cons p q ps qs h t ih=>
  obtain⟨h1,h2⟩:=h;by_cases e:p.1=k
  ·have e':q.1=k:=h1.symm.trans e;have b:valueAt (q::qs) k=some q.2:=by simp[valueAt,X8,e']
   rw[JF e,b]; exact h2
  ·have e':¬ q.1=k:=λz=>e (h1.trans z)
   have b:valueAt (q::qs) k=valueAt qs k:=by simp[valueAt,X8,e']
   rw[JE e,b]; exact ih
theorem KV.any{kvs:List (κ×V)}{vs:List (κ×Value)}(r:KV kvs vs)(k:κ):(kvs.any λkv=>decide (kv.1=k))=vs.any λkv=>decide (kv.1=k):=by
 unfold KV at r
 induction r with
 |nil=>rfl
 |cons h t ih=>rw[X6,X6,ih,h.1]
theorem KV.IH{kvs:List (κ×V)}{vs:List (κ×Value)}(r:KV kvs vs)(k:κ){y:V}{u:Value}(ry:z_ y u) :
  KV (kvs.map λkv=>if kv.1=k then(kv.1,y)else kv) (vs.map λkv=>if kv.1=k then(kv.1,u)else kv):=by
 unfold KV at r ⊢
 induction r with
 |nil=>exact .nil
 |@cons p q ps qs h t ih=>
  rw[xw,xw];refine .cons ?_ ih;obtain⟨h1,h2⟩:=h;by_cases e:p.1=k
  ·rw[zP e,zP (h1.symm.trans e)]; exact⟨h1,ry⟩
  ·rw[zS e,zS (λz=>e (h1.trans z))]; exact⟨h1,h2⟩
theorem KV.put{kvs:List (κ×V)}{vs:List (κ×Value)}(r:KV kvs vs)(k:κ){y:V}{u:Value}(ry:z_ y u):KV (vk kvs k y) (stored vs k u):=by
 unfold vk stored;rw[r.any k];by_cases e:(vs.any λkv=>decide (kv.1=k))=true
 ·rw[zP e,zP e]; exact r.IH k ry
 ·rw[zS e,zS e]; exact Paired.snoc r ⟨rfl,ry⟩
theorem KV.length{kvs:List (κ×V)}{vs:List (κ×Value)}(r:KV kvs vs):kvs.length=vs.length:=Paired.length r
end
theorem jE{P:Program}{w:World}{k:zM}{u:Value}(r:z_ (kV k) u):(yd P w).is k u=true:=by
 cases k with
 |inl i=>obtain⟨t,e⟩:=(show ∃t,u=Value.int i t from r); subst e; exact Ss P w i t
 |inr x=>obtain⟨t,e⟩:=(show ∃t,u=Value.str x t from r); subst e; exact Lb P w x t
theorem F_{P:Program}{w:World}:∀{ks:List zM}{us:List Value},zu (ks.map kV) us->ItemsAre (yd P w) ks us
 | [],_,r=>by rw[gx]at r; cases r; exact .nil
 |k::ks,_,r=>by
  rw[xw]at r;cases r with
  |cons h t=>exact .cons (jE h) (F_ t)
abbrev KT(H:Hp):List (List zM×V)->List (List zM×Addr×Value)->Prop:=Paired λp q=>p.1=q.1/\H q.2.1=some (.tup (p.1.map kV))/\z_ p.2 q.2.2
theorem KT.val{H:Hp}{kvs:List (List zM×V)}{xs:List (List zM×Addr×Value)}(r:KT H kvs xs)(k:List zM):p4 (ur kvs k) ((atKey xs k).map (·.2)):=by
 induction r with
 |nil=>exact True.intro
 |@cons p q ps qs h t ih=>
  obtain⟨h1,_,h2⟩:=h;by_cases e:p.1=k
  ·have e':q.1=k:=h1.symm.trans e;have b:atKey (q::qs) k=some q.2:=by simp[atKey,X8,e']
   rw[JF e,b]; exact h2
  ·have e':¬ q.1=k:=λz=>e (h1.trans z)
   have b:atKey (q::qs) k=atKey qs k:=by simp[atKey,X8,e']
   rw[JE e,b]; exact ih
theorem KT.IH{H:Hp}{kvs:List (List zM×V)}{xs:List (List zM×Addr×Value)}(r:KT H kvs xs)(k:List zM){y:V}{u:Value}(ry:z_ y u) :
  KT H (kvs.map λkv=>if kv.1=k then(kv.1,y)else kv) (xs.map (putAt k u)):=by
 induction r with
 |nil=>exact .nil
 |@cons p q ps qs h t ih=>
  rw[xw,xw];refine .cons ?_ ih;obtain⟨h1,h2,h3⟩:=h;unfold putAt;by_cases e:p.1=k
  ·rw[zP e,zP (h1.symm.trans e)]; exact⟨h1,h2,ry⟩
  ·rw[zS e,zS (λz=>e (h1.trans z))]; exact⟨h1,h2,h3⟩
theorem KT.put{H:Hp}{kvs:List (List zM×V)}{xs:List (List zM×Addr×Value)}(r:KT H kvs xs)(k:List zM){b:Addr}{y:V}{u:Value}(hb:H b=some (.tup (k.map kV)))(ry:z_ y u) :
  KT H (vk kvs k y) (storedH xs k b u):=by
 have e:(kvs.any λkv=>decide (kv.1=k))=(atKey xs k).isSome:=by
  rw[Ho,(r.val k).XH,Bc]
 unfold vk storedH;rw[e];by_cases q:(atKey xs k).isSome=true
 ·rw[zP q,zP q]; exact r.IH k ry
 ·rw[zS q,zS q]; exact Paired.snoc r ⟨rfl,hb,ry⟩
theorem KT.keeps{H H':Hp}{kvs:List (List zM×V)}{xs:List (List zM×Addr×Value)}(r:KT H kvs xs)(ht:∀b ys,H b=some (.tup ys)->H' b=some (.tup ys)):KT H' kvs xs:=
 Paired.IF r λ_ _ z=>⟨z.1,ht _ _ z.2.1,z.2.2⟩
section
variable{P:Program}{w:World}{H:Hp}{h:Heap}{a:Addr}
theorem Gd{u:HO}(ok:xM P w H h)(e:Rd H a u):xC P w H h a u:=e.ok ok
theorem YK{kvs:List (zM×V)}(ok:xM P w H h)(e:Rd H a (.dK kvs)):kvs.length<=sizeLine/\(a==sysModules)=false/\∃vs,KV kvs vs/\h.DictOf (yd P w) a vs:=
 show xC P w H h a (.dK kvs)from Gd ok e
theorem Dv{kvs:List (zM×V)}(ok:xM P w H h)(e:H a=some (.dK kvs)):kvs.length<=sizeLine/\(a==sysModules)=false/\∃vs,KV kvs vs/\h.DictOf (yd P w) a vs:=YK ok (.inl e)
theorem QL{ks:List zM}(ok:xM P w H h)(e:H a=some (.tup (ks.map kV))):(tupleKind (yd P w)).is h ks a:=by
 obtain⟨_,its,r,o,h1,h2,n,h3⟩:=(show xC P w H h a (.tup (ks.map kV))from ok a _ e);exact⟨o,its.toArray,n,h1,h2,h3,by simpa using F_ r⟩
theorem Ti{kvs:List (List zM×V)}(ok:xM P w H h)(e:Rd H a (.dT kvs)):kvs.length<=sizeLine/\(a==sysModules)=false/\
  ∃xs,KT H kvs xs/\h.DictOfH (tupleKind (yd P w)) a xs:=by
 obtain⟨z,y,xs,r,o,es,ep,h1,h2,h3,h4,h5⟩:=(show xC P w H h a (.dT kvs)from Gd ok e);refine⟨z,y,xs,r,o,es,ep,h1,h2,h3,h4,λx hx=>?_,h5⟩
 have all:∀{l:List (List zM×V)} {m:List (List zM×Addr×Value)},KT H l m->∀x∈m,(tupleKind (yd P w)).is h x.1 x.2.1:=by
  intro l m q
  induction q with
  |nil=>intro x hx; exact nomatch hx
  |@cons p q ps qs hq t ih=>
   intro x hx;rcases yV.mp hx with e|hx
   ·subst e;exact QL ok (by rw[<-hq.1]; exact hq.2.1)
   ·exact ih x hx
 exact all r x hx
theorem PD{kvs:List (List zM×V)}(ok:xM P w H h)(e:H a=some (.dT kvs)):kvs.length<=sizeLine/\(a==sysModules)=false/\
  ∃xs,KT H kvs xs/\h.DictOfH (tupleKind (yd P w)) a xs:=Ti ok (.inl e)
end
def IK(H:Hp)(a:Addr)(y:V)(r:Option V):Prop:=
 (∃kvs k,Rd H a (.dK kvs)/\y=kV k/\r=ur kvs k)\/∃kvs k b,Rd H a (.dT kvs)/\y=.ref b/\H b=some (.tup (k.map kV))/\r=ur kvs k
def Bx(H:Hp)(a:Addr)(y v:V)(H':Hp):Prop:=
 (∃kvs k,H a=some (.dK kvs)/\y=kV k/\kvs.length<sizeLine/\H'=zb H a (.dK (vk kvs k v))) \/
 ∃kvs k b,H a=some (.dT kvs)/\y=.ref b/\H b=some (.tup (k.map kV))/\kvs.length<sizeLine/\H'=zb H a (.dT (vk kvs k v))
section
variable{X:Cx}{z6:List (Addr×Obj)}{σ:St}{H:Hp}{s:Shared}{a:Addr}{y v:V}{u r:Value}{o:Option V}{A:Around}{E:Value->Shared->Prop}
theorem Inv.big(I:Inv X z6 σ H s):sysModules<s.heap.objs.size:=by
 have h:mainGlobals<s.heap.objs.size:=(I.mod.glob.keeps I.bk).lt;exact Jl (by decide) h
theorem P0{Q:Value->Shared->Prop}(hu:A.units+1<cLine)(I:Inv X z6 σ H s)(g:IK H a y o)(ry:z_ y u)(h:∀s',Inv X z6 σ H s'->Q (.bool o.isSome) s') :
  wpAny (model X.prog X.w) A (compareOp .In u (.ref a)) Q E s:=by
 rcases g with⟨kvs,k,e,ey,l⟩|⟨kvs,k,b,e,ey,eb,l⟩
 ·subst ey;obtain⟨z,hd,vs,rel,dd⟩:=YK I.zg e;refine wpAny_in_of (jE ry) hd dd.mapOf ?_;rw[<-(rel.val k).XH,<-l];exact h _ (I.tok _)
 ·subst ey;cases(show u=Value.ref b from ry);obtain⟨z,hd,xs,rel,dd⟩:=Ti I.zg e;refine wpAny_in_heap (Bi hu) (QL I.zg eb) hd dd ?_;have q:=(rel.val k).XH;rw[Bc]at q;rw[<-q,<-l];exact h _ (I.tok _)
theorem P3{Q:Value->Shared->Prop}(hu:A.units+1<cLine)(I:Inv X z6 σ H s)(g:IK H a y o)(ry:z_ y u)(h:∀s',Inv X z6 σ H s'->Q (.bool (!o.isSome)) s') :
  wpAny (model X.prog X.w) A (compareOp .NotIn u (.ref a)) Q E s:=by
 rcases g with⟨kvs,k,e,ey,l⟩|⟨kvs,k,b,e,ey,eb,l⟩
 ·subst ey;obtain⟨z,hd,vs,rel,dd⟩:=YK I.zg e;refine wpAny_notIn_of (jE ry) hd dd.mapOf ?_;rw[<-(rel.val k).XH,<-l];exact h _ (I.tok _)
 ·subst ey;cases(show u=Value.ref b from ry);obtain⟨z,hd,xs,rel,dd⟩:=Ti I.zg e;refine wpAny_notIn_heap (Bi hu) (QL I.zg eb) hd dd ?_;have q:=(rel.val k).XH;rw[Bc]at q;rw[<-q,<-l];exact h _ (I.tok _)
theorem Ip{h':Heap}{t':Nat}{ob:HO}(I:Inv X z6 σ H s)(mu:XR (H a))(hs:Heap.SameBut a s.heap h')(he:∃q,h'.get? a=some q)(new:xC X.prog X.w (zb H a ob) h' a ob) :
  Inv X z6 σ (zb H a ob) { s with heap:=h',toks:=t' }:=
 I.write (x:=a) (e:=a) mu (.inl rfl) (λb q hb z=>(hs.2 b hb).trans z) he new
theorem Ix{P:Program}{w:World}{H':Hp}{h':Heap}{kvs:List (zM×V)}{vs:List (zM×Value)}(z:kvs.length<=sizeLine)(hd:(a==sysModules)=false)(rel:KV kvs vs)(dd:h'.DictOf (yd P w) a vs) :
  xC P w H' h' a (.dK kvs):=⟨z,hd,vs,rel,dd⟩
theorem P4{H':Hp}{Q:Unit->Shared->Prop}(hu:A.units+1<cLine)(I:Inv X z6 σ H s)(g:Bx H a y v H')(ry:z_ y u)(rv:z_ v r)(h:∀s',Inv X z6 σ H' s'->Q () s') :
  wpAny (model X.prog X.w) A (setItem (.ref a) u r) Q E s:=by
 rcases g with⟨kvs,k,e,ey,l,eH⟩|⟨kvs,k,b,e,ey,eb,l,eH⟩
 ·subst ey eH;obtain⟨z,hd,vs,rel,dd⟩:=Dv I.zg e;have hz:vs.length<=sizeLine:=by rw[<-rel.length]; exact z
  have hl:(vk kvs k v).length<=sizeLine:=by have:=LY kvs k v; omega
  refine wpAny_setItem_pairs (hsz:=hz) (jE ry) dd λh' dd' hs=>h _ ?_
  have he:∃q,h'.get? a=some q:=let ⟨q,_,_,hq,_⟩:=dd'; ⟨q,hq⟩;exact Ip I (by rw[e]; exact True.intro) hs he (Ix hl hd (rel.put k rv) dd')
 ·subst ey eH;cases(show u=Value.ref b from ry);obtain⟨z,hd,xs,rel,dd⟩:=PD I.zg e;have hz:xs.length<=sizeLine:=by rw[<-Paired.length rel]; exact z
  have hl:(vk kvs k v).length<=sizeLine:=by have:=LY kvs k v; omega
  refine wpAny_setItem_heap (hsz:=hz) (Bi hu) (QL I.zg eb) dd λh' dd' hs=>h _ ?_
  obtain⟨q,es,ep,hq,h2,h3,h4,_,h5⟩:=dd';refine Ip I (by rw[e]; exact True.intro) hs ⟨q,hq⟩ ⟨hl,hd,_,(rel.put k eb rv).keeps λc ys ec=>?_,q,es,ep,hq,h2,h3,h4,h5⟩;rw[zx (AC ec e (λz=>nomatch z))];exact ec
end
section
variable{X:Cx}{z6:List (Addr×Obj)}{σ:St}{H:Hp}{s:Shared}{a:Addr}{kvs:List (zM×V)}{k:zM}{u:Value}{A:Around}{E:Value->Shared->Prop}
theorem P1{Q:Value->Shared->Prop}(I:Inv X z6 σ H s)(e:Rd H a (.dK kvs))(h:∀t s',Inv X z6 σ H s'->Q (.int kvs.length t) s'):wpAny (model X.prog X.w) A (call (.builtin "len") [.ref a]) Q E s:=by
 obtain⟨z,hd,vs,rel,dd⟩:=YK I.zg e;refine call_len_dict hd dd (by rw[<-rel.length]; rw[wR]at z; omega) ?_;rw[<-rel.length];exact h _ _ (I.tok _)
end
theorem P9{X:Cx}{z6:List (Addr×Obj)}{σ:St}{H:Hp}{s:Shared}{a:Addr}{y:V}{o:Option V}(I:Inv X z6 σ H s)(g:IK H a y o):s.TypeIs (.ref a) "dict" := by
 rcases g with⟨kvs,k,e,_,_⟩|⟨kvs,k,b,e,_,_,_⟩
 ·obtain⟨_,_,vs,_,dd⟩:=YK I.zg e;exact dd.typeIs
 ·obtain⟨_,_,xs,_,dd⟩:=Ti I.zg e;exact dd.typeIs
def fS(td ty tv:TE):TS:=λD σ H=>tv σ H λv H1=>td σ H1 λx H2=>ty σ H2 λy H3=>∃a H4,x=.ref a/\Bx H3 a y v H4/\D.nx σ H4
section
variable{X:Cx}{o i e value:Expr}{pos pos' tpos:Pos}{td ty tv:TE}
theorem cV(hu:X.A.units+1<cLine)(ho:PE X o td)(hi:PE X i ty)(hv:PE X value tv)(hs:swapsWith value (some (.Subscript o i pos')) pos.line X.env=pure false) :
  PS X (.Assign [.Subscript o i pos'] value pos) (fS td ty tv):=by
 intro z6 s σ H D I h;refine wpAny_Assign_Subscript (zo (hv z6 s σ H _ I h) λr s1 ⟨v,H1,I1,rv,q1⟩=>zo (ho z6 s1 σ H1 _ I1 q1) λu s2 ⟨x,H2,I2,rx,q2⟩=>zo (hi z6 s2 σ H2 _ I2 q2) λiv s3 ⟨y,H3,I3,ry,a,H4,ex,g,q3⟩=>?_) hs;subst ex;obtain rfl:u=Value.ref a:=rx;exact P4 hu I3 g ry rv λs4 I4=>⟨σ,H4,I4,q3⟩
end
theorem Du{P:Program}{w:World}{H:Hp}(h:Heap)(hb:sysModules<h.objs.size):xC P w H (h.push { cls:=.type "dict",data:=.dict #[] }) h.objs.size (.dK []):=
 ⟨uu _,XB.mpr (tT (wA hb)),[],.nil,Heap.DictOf.new h⟩
def lu:TE:=λ_ H Q=>∀p,H p=none->Q (.ref p) (zb H p (.dK []))
section
variable{X:Cx}{pos:Pos}
theorem bT:PE X (.Dict [] [] pos) lu:=λz6 s σ H Q I h=>
 wpAny_Dict_empty ⟨.ref s.heap.objs.size,_,I.laid (a:=s.heap.objs.size) (o:=.dK []) (t':=s.toks) (λ_ _ q=>Heap.get?_push_of_some _ q) (zt _) (Du s.heap I.big),rfl,h _ (I.zg.fresh (zt _))⟩
end
def Mj:List (TE×TE)->St->Hp->(List (V×V)->Hp->Prop)->Prop
 | [],_,H,Q=>Q [] H
 |(tk,tv)::r,σ,H,Q=>tk σ H λx H1=>tv σ H1 λy H2=>Mj r σ H2 λps H3=>Q ((x,y)::ps) H3
abbrev VV:List (V×V)->List (Value×Value)->Prop:=Paired λp q=>z_ p.1 q.1/\z_ p.2 q.2
def Ub(X:Cx)(pos:Pos)(keys:List (Option Expr))(values:List Expr)(trs:List (TE×TE)):Prop:=
 ∀(z6:List (Addr×Obj)) (s:Shared) (σ:St) (H:Hp) (Q:List (V×V)->Hp->Prop),Inv X z6 σ H s->Mj trs σ H Q->
  wpAny (model X.prog X.w) X.A (evalPairs (pairTrees keys values X.env pos)) (λvs s'=>∃ps H',Inv X z6 σ H' s'/\VV ps vs/\Q ps H') X.xe s
theorem cT{X:Cx}{pos:Pos}:Ub X pos [] [] []:=λz6 s σ H Q I h=>pairTrees_nil_walk ⟨[],H,I,.nil,h⟩
theorem cS{X:Cx}{pos:Pos}{k v:Expr}{ks:List (Option Expr)}{vs:List Expr}{tk tv:TE}{trs:List (TE×TE)}(hk:PE X k tk)(hv:PE X v tv)(hr:Ub X pos ks vs trs) :
  Ub X pos (some k::ks) (v::vs) ((tk,tv)::trs):=λz6 s σ H Q I h=>
 pairTrees_cons_walk (zo (hk z6 s σ H _ I h) λu s1 ⟨x,H1,I1,rx,q1⟩=>zo (hv z6 s1 σ H1 _ I1 q1) λw2 s2 ⟨y,H2,I2,ry,q2⟩=>
  zo (hr z6 s2 σ H2 _ I2 q2) λws s3 ⟨ps,H3,I3,rel,q3⟩=>⟨(x,y)::ps,H3,I3,.cons ⟨rx,ry⟩ rel,q3⟩)
def qg(kvs more:List (zM×V)):List (zM×V):=more.foldl (λacc kv=>vk acc kv.1 kv.2) kvs
theorem KV.merge:∀{more:List (zM×V)} {rs:List (zM×Value)} {kvs:List (zM×V)} {vs:List (zM×Value)},KV more rs->KV kvs vs->KV (qg kvs more) (merged vs rs):=by
 intro more rs kvs vs r;unfold KV at r
 induction r generalizing kvs vs with
 |nil=>intro q; exact q
 |@cons p q ps qs h t ih=>
  intro r0
  have e:KV (vk kvs p.1 p.2) (stored vs q.1 q.2):=by
   have:=r0.put p.1 h.2;rw[<-h.1]; exact this
  exact ih e
theorem LX:∀(more kvs:List (zM×V)),(qg kvs more).length<=kvs.length+more.length
 | [],kvs=>by show kvs.length<=kvs.length+0; omega
 |p::r,kvs=>by
  have h1:=LX r (vk kvs p.1 p.2);have h2:=LY kvs p.1 p.2;show(qg (vk kvs p.1 p.2) r).length<=_;rw[xf]; omega
theorem Di{P:Program}{w:World}:∀{kvs:List (zM×V)} {ws:List (Value×Value)},VV (kvs.map λkv=>(kV kv.1,kv.2)) ws->∃rs,Carries (yd P w) ws rs/\KV kvs rs
 | [],_,r=>by rw[gx]at r; cases r; exact⟨[],True.intro,.nil⟩
 |p::kvs,_,r=>by
  rw[xw]at r;cases r with
  |@cons a b as bs h t=>
   obtain⟨rs,c,q⟩:=Di (P:=P) (w:=w) t;obtain⟨b1,b2⟩:=b;exact⟨(p.1,b2)::rs,⟨jE h.1,rfl,c⟩,.cons ⟨rfl,h.2⟩ q⟩
def lv(trs:List (TE×TE)):TE:=λσ H Q=>∀p,H p=none->Mj trs σ (zb H p (.dK [])) λps H2=>H2 p=some (.dK [])/\∃kvs:List (zM×V),ps=kvs.map (λkv=>(kV kv.1,kv.2))/\kvs.length<=15/\Q (.ref p) (zb H2 p (.dK (qg [] kvs)))
theorem bS{X:Cx}{pos:Pos}{keys:List (Option Expr)}{values:List Expr}{trs:List (TE×TE)}(h:Ub X pos keys values trs)(hall:keys.all (·.isSome)=true)(hl:keys.length=values.length)(h0:keys≠[])
  (h15:keys.length<=15):PE X (.Dict keys values pos) (lv trs):=by
 intro z6 s σ H Q I q;have hn:=I.zg.fresh (zt s.heap.objs.size);have I1:=I.laid (a:=s.heap.objs.size) (o:=.dK []) (h':=s.heap.push { cls:=.type "dict",data:=.dict #[] }) (t':=s.toks) (λ_ _ q=>Heap.get?_push_of_some _ q) (zt _) (Du s.heap I.big);refine wpAny_Dict_walk (knd:=yd X.prog X.w) hall hl h0 h15 (zo (h z6 _ σ _ _ I1 (q _ hn)) λws s2 ⟨ps,H2,I2,rel,e,kvs,ep,lk,q2⟩=>?_);subst ep;obtain⟨rs,c,rk⟩:=Di (P:=X.prog) (w:=X.w) rel;obtain⟨z,hd,vs0,r0,dd⟩:=Dv I2.zg e;cases r0;refine⟨rs,c,dd,λh' dd' hs=>⟨.ref s.heap.objs.size,_,?_,rfl,q2⟩⟩
 have hz:(qg [] kvs).length<=sizeLine:=by
  have h1:=LX kvs [];rw[jX]at h1;rw[wR]; omega
 have he:∃q,h'.get? s.heap.objs.size=some q:=let ⟨q,_,_,hq,_⟩:=dd'; ⟨q,hq⟩;exact Ip I2 (by rw[e]; exact True.intro) hs he (Ix hz hd (rk.merge .nil) dd')
section
variable{X:Cx}{z6:List (Addr×Obj)}{σ:St}{H:Hp}{s:Shared}{a:Addr}{y d:V}{u r:Value}{o:Option V}{A:Around}{E:Value->Shared->Prop}
end
section
variable{X:Cx}{o e f:Expr}{apos cpos:Pos}{td ty tx:TE}
end
section
variable{X:Cx}{z6:List (Addr×Obj)}{σ:St}{H:Hp}{s:Shared}{a:Addr}{kvs:List (zM×V)}{A:Around}{E:Value->Shared->Prop}
end
section
variable{X:Cx}{z6:List (Addr×Obj)}{σ:St}{H:Hp}{s:Shared}{a:Addr}{y:V}{u:Value}{A:Around}{E:Value->Shared->Prop}
end
end L2
namespace L3
open PySem
inductive D where
 |zE|bl (b:Bool)|int (i:Int)|str (x:Str)|tup (xs:List D)|lst (xs:List D)|dic (ks:List (Sum Int Str)) (vs:List D)|exc (x:Str)|obj (x:Str) (fs:List Str) (vs:List D)
theorem D.ind{P:D->Prop}(zE:P .zE)(bl:∀b,P (.bl b))(int:∀i,P (.int i))(str:∀x,P (.str x))(tup:∀xs,(∀d∈xs,P d)->P (.tup xs))(lst:∀xs,(∀d∈xs,P d)->P (.lst xs))
  (dic:∀ks xs,(∀d∈xs,P d)->P (.dic ks xs))(exc:∀x,P (.exc x))(obj:∀x fs xs,(∀d∈xs,P d)->P (.obj x fs xs))(d:D):P d:=
 D.rec (motive_1:=P) (motive_2:=λds=>∀d∈ds,P d) zE bl int str (λxs h=>tup xs h) (λxs h=>lst xs h) (λks xs h=>dic ks xs h) exc (λx fs xs h=>obj x fs xs h) (λ_ h=>absurd h (by simp))
  (λd ds hd hds e he=>by
   rcases yV.mp he with z|z
   ·exact z▸hd
   ·exact hds e z) d
mutual
def yW:D->D->Bool
 |.zE,.zE=>true
 |.bl a,.bl b=>a==b
 |.bl a,.int b=>(if a then 1 else 0)==b
 |.int a,.bl b=>a==(if b then 1 else 0)
 |.int a,.int b=>a==b
 |.str a,.str b=>a==b
 |.tup xs,.tup ys=>dEqs xs ys
 |.lst xs,.lst ys=>dEqs xs ys
 |_,_=>false
def dEqs:List D->List D->Bool
 | [],[]=>true
 |x::xs,y::ys=>yW x y&&dEqs xs ys
 |_,_=>false
end
abbrev Sl:=Bool×D
abbrev y4:=List (Option Sl)
abbrev FE:=y4->Option D
abbrev FT:=y4->Option Bool
abbrev FA:=y4->Option (List D)
abbrev FG:=D->y4->Option y4
inductive Fl where
 |nx (σ:y4)|rt (o:Bool) (d:D)|bk (σ:y4)|ct (σ:y4)
abbrev FS:=y4->Option Fl
abbrev yb:Nat:=16777216
def z7(i:Nat):FE:=λσ=>match σ[i]? with
 |some (some (false,d))=>some d
 |_=>none
def qb(i:Nat):FE:=λσ=>match σ[i]? with
 |some (some (_,d))=>some d
 |_=>none
def eC(d:D):FE:=λ_=>some d
def e1(F:D->Option D)(a:FE):FE:=λσ=>(a σ).bind F
def e2(F:D->D->Option D)(a b:FE):FE:=λσ=>(a σ).bind λx=>(b σ).bind λy=>F x y
def eL(F:List D->Option D)(a:FA):FE:=λσ=>(a σ).bind F
def zG:FA:=λ_=>some []
def zB(a:FE)(r:FA):FA:=λσ=>(a σ).bind λx=>(r σ).bind λxs=>some (x::xs)
def kW:D->Option Bool
 |.bl b=>some b
 |_=>none
def tE(a:FE):FT:=λσ=>(a σ).bind kW
def X0(a b:FT):FT:=λσ=>(a σ).bind λk=>match k with
 |true=>b σ
 |false=>some false
def gX(a b:FT):FT:=λσ=>(a σ).bind λk=>match k with
 |true=>some true
 |false=>b σ
def J7(a:FT):FT:=λσ=>(a σ).bind λk=>some (!k)
def Tj(a b:FE):FE:=λσ=>(a σ).bind λx=>(kW x).bind λk=>match k with
 |true=>b σ
 |false=>some (.bl false)
def Iz(a b:FE):FE:=λσ=>(a σ).bind λx=>(kW x).bind λk=>match k with
 |true=>some (.bl true)
 |false=>b σ
def PJ(a:FE):FE:=λσ=>(a σ).bind λx=>(kW x).bind λk=>some (.bl (!k))
def uH(c:FT)(a b:FE):FE:=λσ=>(c σ).bind λk=>match k with
 |true=>a σ
 |false=>b σ
def xU(a:FA):FE:=λσ=>(a σ).bind λxs=>some (.tup xs)
def xJ(a:FA):FE:=λσ=>(a σ).bind λxs=>some (.lst xs)
def yS:D->D->Option D
 |.int i,.int j=>some (.int (i+j))
 |.int i,.bl b=>some (.int (i+(if b then 1 else 0)))
 |.str x,.str y=>if x.length+y.length<=yb then some (.str (x++y))else none
 |.lst x,.lst y=>if x.length+y.length<=yb then some (.lst (x++y))else none
 |.tup x,.tup y=>if x.isEmpty=false/\x.length+y.length<=yb then some (.tup (x++y))else none
 |_,_=>none
def fI(C:Int->Int->Bool)(g:Int->Int->Int):D->D->Option D
 |.int i,.int j=>match C i j with
  |true=>some (.int (g i j))
  |false=>none
 |_,_=>none
def vT:D->D->Option D
 |.int i,.int j=>some (.int (i-j))
 |_,_=>none
def uj(i:Int):Bool:=decide (-(2 ^ 64)<i)&&decide (i<2 ^ 64)
def YN:D->D->Option D:=fI (λi _=>uj i) (·*·)
def j4:D->D->Option D:=fI (λ_ j=>uj j) (·*·)
def yk:D->D->Option D:=fI (λ_ j=>decide (0<j)) (· % ·)
def wm:D->D->Option D:=fI (λ_ j=>decide (0<j)&&decide (j<2 ^ 64)) (· / ·)
def qO(i j:Int):Bool:=decide (0<=j)&&(decide (j<=1000000)&&decide (i.natAbs<2 ^ 64))
def j5:D->D->Option D:=fI qO λi j=>i ^ j.toNat
def g8:D->D->Option D:=fI qO λi j=>i*2 ^ j.toNat
def O8:D->D->Option D:=fI (λ_ j=>decide (0<=j)) λi j=>i/2 ^ j.toNat
def qC(g:Int->Int->Int):D->D->Option D
 |.int i,.int j=>some (.int (g i j))
 |_,_=>none
def wn:D->Option D
 |.int i=>some (.int (-i))
 |_=>none
def O5:D->Option D
 |.int i=>some (.int (Builtin.bitNot i))
 |_=>none
def xV(g:Int->Int->Bool):D->D->Option D
 |.int i,.int j=>some (.bl (g i j))
 |_,_=>none
def gC:D->Bool
 |.zE=>true
 |_=>false
def pB:D->D->Option D
 |x,.zE=>some (.bl (gC x))
 |_,_=>none
def YO:D->D->Option D
 |x,.zE=>some (.bl (!gC x))
 |_,_=>none
def yY:D->Bool
 |.zE=>true
 |.bl _=>true
 |.int _=>true
 |.str _=>true
 |_=>false
def t7(f:D->D->Bool):List D->List D->Bool
 |x::xs,y::ys=>f x y&&t7 f xs ys
 |_,_=>true
def vG:Nat->D->D->Bool
 |0,_,_=>false
 |n+1,x,y=>match x,y with
  |.tup xs,.tup ys=>t7 (vG n) xs ys
  |.lst xs,.lst ys=>t7 (vG n) xs ys
  |x,y=>yY x&&yY y
def j3:D->D->Option Bool
 |.int _,.bl _=>none
 |.bl _,.int _=>none
 |x,y=>match vG 6 x y with
  |true=>some (yW x y)
  |false=>none
def yE(x y:D):Option D:=(j3 x y).bind λk=>some (.bl k)
def wu(x y:D):Option D:=(j3 x y).bind λk=>some (.bl (!k))
def qe:D->Option (Sum Int Str)
 |.int i=>some (.inl i)
 |.str x=>some (.inr x)
 |_=>none
def getK{α:Type}:List (Sum Int Str)->List α->Sum Int Str->Option α
 |k'::ks,v::vs,k=>if k'=k then some v else getK ks vs k
 |_,_,_=>none
def yc(ks:List (Sum Int Str))(k:Sum Int Str):Bool:=ks.any λj=>decide (j=k)
def xt(ks:List (Sum Int Str))(k:Sum Int Str):List (Sum Int Str):=if yc ks k=true then ks else ks++[k]
def w6{α:Type}(ks:List (Sum Int Str))(vs:List α)(k:Sum Int Str)(v:α):List α:=if yc ks k=true then List.zipWith (λk' x=>if k'=k then v else x) ks vs else vs++[v]
def pA(x:D):D->Option Bool
 |.lst ys=>match yY x&&ys.all yY with
  |true=>some (ys.any λy=>yW y x)
  |false=>none
 |.tup ys=>match yY x&&ys.all yY with
  |true=>some (ys.any λy=>yW y x)
  |false=>none
 |.str j=>match x with
  |.str i=>some (!(Builtin.Str.occurrences j i 0 j.length 1).isEmpty)
  |_=>none
 |.dic ks _=>(qe x).bind λk=>some (yc ks k)
 |_=>none
def xD(x y:D):Option D:=(pA x y).bind λk=>some (.bl k)
def kr(x y:D):Option D:=(pA x y).bind λk=>some (.bl (!k))
def vF{α:Type}(xs:List α)(i:Int):Option α:=if 0<=i then xs[i.toNat]? else if -(xs.length:Int)<=i then xs[(i+xs.length).toNat]? else none
def zL:D->D->Option D
 |.lst xs,.int i=>vF xs i
 |.tup xs,.int i=>vF xs i
 |.str z,.int i=>(vF z.cps.toList i).bind λc=>some (.str ⟨#[c]⟩)
 |.dic ks vs,k=>(qe k).bind λk=>getK ks vs k
 |_,_=>none
def xg:List D->Option D
 | [.lst xs]=>some (.int xs.length)
 | [.tup xs]=>some (.int xs.length)
 | [.str z]=>some (.int z.length)
 |_=>none
def Tp:List D->Option D
 | [.int i,.int j]=>some (.int (if j>i then j else i))
 |_=>none
def Tq:List D->Option D
 | [.int i,.int j]=>some (.int (if j<i then j else i))
 |_=>none
def O4:List D->Option D
 | [.int i]=>some (.int i)
 | [.bl k]=>some (.int (if k then 1 else 0))
 |_=>none
inductive DF where
 |int|bool|str|list|tuple
def Fy:DF->D->Option Bool
 |_,.dic _ _=>none
 |_,.exc _=>none
 |_,.obj _ _ _=>none
 |.int,.int _=>some true
 |.int,.bl _=>some true
 |.int,_=>some false
 |.bool,.bl _=>some true
 |.bool,_=>some false
 |.str,.str _=>some true
 |.str,_=>some false
 |.list,.lst _=>some true
 |.list,_=>some false
 |.tuple,.tup _=>some true
 |.tuple,_=>some false
def PH(T:DF)(a:FE):FE:=λτ=>(a τ).bind λd=>(Fy T d).bind λb=>some (.bl b)
def uJ(a:FE):FA:=λσ=>(a σ).bind λd=>match d with
 |.lst xs=>some xs
 |.tup xs=>some xs
 |.str z=>some (z.cps.toList.map λc=>.str ⟨#[c]⟩)
 |_=>none
def qM(lo hi:FE):FA:=λσ=>(lo σ).bind λx=>(hi σ).bind λy=>match x,y with
 |.int i,.int j=>if i.natAbs<=yb/\j.natAbs<=yb/\(j-i).toNat<=yb then some ((List.range (j-i).toNat).map λk:Nat=>.int (i+k))else none
 |_,_=>none
def zy(i:Nat):FG:=λd σ=>some (σ.set i (some (false,d)))
def v6(i j:Nat):FG:=λd σ=>match d with
 |.tup [x,y]=>some ((σ.set i (some (false,x))).set j (some (false,y)))
 |_=>none
def ym:FS:=λσ=>some (.nx σ)
def zO(a b:FS):FS:=λσ=>(a σ).bind λf=>match f with
 |.nx σ'=>b σ'
 |f=>some f
def zf(i:Nat)(e:FE):FS:=λσ=>(e σ).bind λd=>some (.nx (σ.set i (some (false,d))))
def vn(i:Nat)(e:FE):FS:=λσ=>(e σ).bind λd=>some (.nx (σ.set i (some (true,d))))
def yA(e:FE):FS:=λσ=>(e σ).bind λd=>some (.rt false d)
def um(e:FE):FS:=λσ=>(e σ).bind λd=>some (.rt true d)
def qP(i:Nat):FS:=λσ=>match σ[i]? with
 |some (some (true,d))=>some (.rt true d)
 |_=>none
def yR(c:FT)(a b:FS):FS:=λσ=>(c σ).bind λk=>match k with
 |true=>a σ
 |false=>b σ
def pI(g:FG)(b:FS):List D->y4->Option Fl
 | [],σ=>some (.nx σ)
 |d::r,σ=>(g d σ).bind λσ1=>(b σ1).bind λf=>match f with
  |.nx σ2=>pI g b r σ2
  |.ct σ2=>pI g b r σ2
  |.bk σ2=>some (.nx σ2)
  |.rt o d=>some (.rt o d)
def vm(it:FA)(g:FG)(b:FS):FS:=λσ=>(it σ).bind λds=>pI g b ds σ
def va(c:FT)(b:FS):Nat->y4->Option Fl
 |0,_=>none
 |n+1,σ=>(c σ).bind λk=>match k with
  |false=>some (.nx σ)
  |true=>(b σ).bind λf=>match f with
   |.nx σ2=>va c b n σ2
   |.ct σ2=>va c b n σ2
   |.bk σ2=>some (.nx σ2)
   |.rt o d=>some (.rt o d)
def UX:Nat:=100000000
def ZP(c:FT)(b:FS):FS:=λσ=>va c b UX σ
def ZO(i:Nat):FS:=λσ=>match σ[i]? with
 |some (some (_,d))=>some (.nx (σ.set i (some (false,d))))
 |_=>none
def fT(i:Nat)(F:D->Option D):FS:=λσ=>match σ[i]? with
 |some (some (true,d))=>(F d).bind λd'=>some (.nx (σ.set i (some (true,d'))))
 |_=>none
def w8(i:Nat)(F:D->D->Option D)(e:FE):FS:=λσ=>match σ[i]? with
 |some (some (true,d))=>(e σ).bind λx=>(F d x).bind λd'=>some (.nx (σ.set i (some (true,d'))))
 |_=>none
def xo:D->D->Option D
 |.lst xs,y=>if xs.length<yb then some (.lst (xs++[y]))else none
 |_,_=>none
def pL(i:Nat)(k v:FE):FS:=λσ=>(v σ).bind λy=>match σ[i]? with
 |some (some (true,.dic ks ds))=>(k σ).bind λx=>(qe x).bind λx=>if ks.length<yb then some (.nx (σ.set i (some (true,.dic (xt ks x) (w6 ks ds x y)))))else none
 |_=>none
def xN(ks:List (Sum Int Str))(ds:List D)(x:D):Option D:=(qe x).bind λk=>getK ks ds k
def Xg(F F':D->D->Option D)(a b c:FE):FE:=λτ=>(a τ).bind λx=>(b τ).bind λy=>(F x y).bind λk=>(kW k).bind λk=>match k with
 |true=>(c τ).bind λz=>F' y z
 |false=>some (.bl false)
def xK(g:FG)(c:FT)(e:FE)(σ:y4):List D->Option (List D)
 | []=>some []
 |d::r=>(g d σ).bind λσ1=>(c σ1).bind λk=>match k with
  |true=>(e σ1).bind λx=>(xK g c e σ r).bind λxs=>some (x::xs)
  |false=>xK g c e σ r
def xA:FT:=λ_=>some true
def xn(n:Nat)(it:FA)(g:FG)(c:FT)(e:FE):FE:=λσ=>(it σ).bind λds=>(xK g c e (σ++List.replicate n none) ds).bind λxs=>some (.lst xs)
def zd(n:Nat)(b:FS)(ds:List D):Option (Bool×D):=(b (ds.map (λd=>some (false,d))++List.replicate (n-ds.length) none)).bind λf=>match f with
 |.rt o d=>some (o,d)
 |.nx _=>some (false,.zE)
 |_=>none
def ze(F:List D->Option (Bool×D))(a:FA):FE:=λσ=>(a σ).bind λds=>(F ds).bind λr=>some r.2
def qB(F:List D->Option (Bool×D))(a:FA):FE:=λσ=>(a σ).bind λds=>(F ds).bind λr=>match r with
 |(true,d)=>some d
 |_=>none
open PySem.Spec PyProof.Rows L2
abbrev St:=L2.St
def N0(_:W.Frag)(H:Hp)(a:Addr)(kvs:List (zM×V)):Prop:=Rd H a (.dK kvs)
mutual
def zi(K:W.Frag)(H:Hp):D->V->Prop
 |.zE,v=>v=.zE
 |.bl b,v=>v=.bl b
 |.int i,v=>v=.int i
 |.str x,v=>v=.str x/\x.length<=sizeLine
 |.tup ds,v=>∃a vs,v=.ref a/\yq K H a vs/\Reps K H ds vs/\ds.length<=sizeLine
 |.lst ds,v=>∃a vs,v=.ref a/\yP K H a vs/\Reps K H ds vs/\ds.length<=sizeLine
 |.dic ks ds,v=>∃a vs,v=.ref a/\N0 K H a (ks.zip vs)/\ks.length=vs.length/\Reps K H ds vs/\ds.length<=sizeLine
 |.exc x,v=>∃a C,v=.ref a/\W.nsIn K mainGlobals x=some (some (.ref C))/\H a=some (.ext (Kz a C))
 |.obj x fs ds,v=>∃a C dx vs,v=.ref a/\W.nsIn K mainGlobals x=some (some (.ref C))/\H a=some (.ins C dx (fs.zip vs))/\fs.length=vs.length/\Reps K H ds vs
def Reps(K:W.Frag)(H:Hp):List D->List V->Prop
 | [],vs=>vs=[]
 |d::ds,vs=>∃v r,vs=v::r/\zi K H d v/\Reps K H ds r
end
section
variable{K:W.Frag}{G H H':Hp}
theorem Rd.mono{a:Addr}{u:HO}(s:yU H H')(h:Rd H a u):Rd H' a u:=by
 rcases h with h|⟨o,h⟩
 ·exact .inl (s _ _ h)
 ·exact .inr ⟨o,s _ _ h⟩
theorem vp{a:Addr}{xs:List V}(s:yU H H')(h:yq K H a xs):yq K H' a xs:=by
 rcases h with h|h
 ·exact .inl (Rd.mono s h)
 ·exact .inr h
theorem wM{a:Addr}{xs:List V}(s:yU H H')(h:yP K H a xs):yP K H' a xs:=by
 rcases h with h|h
 ·exact .inl (Rd.mono s h)
 ·exact .inr h
theorem Reps.imp:∀{ds:List D}{vs:List V},(∀d∈ds,∀v,zi K H d v->zi K H' d v)->Reps K H ds vs->Reps K H' ds vs
 | [],_,_,h=>h
 |d::ds,vs,f,h=>by
  obtain⟨v,r,rfl,hv,hr⟩:=h;exact⟨v,r,rfl,f d xP v hv,Reps.imp (λd' m=>f d' (wZ _ m)) hr⟩
theorem zi.mono(s:yU H H'):∀{d:D}{v:V},zi K H d v->zi K H' d v:=λ{d}=>by
 refine D.ind (P:=λd=>∀v,zi K H d v->zi K H' d v) (λv h=>h) (λb v h=>h) (λi v h=>h) (λx v h=>h) ?_ ?_ ?_ ?_ ?_ d _
 ·rintro xs ih v ⟨a,vs,e,q,r,l⟩;exact⟨a,vs,e,vp s q,Reps.imp ih r,l⟩
 ·rintro xs ih v ⟨a,vs,e,q,r,l⟩;exact⟨a,vs,e,wM s q,Reps.imp ih r,l⟩
 ·rintro ks xs ih v ⟨a,vs,e,q,z,r,l⟩;exact⟨a,vs,e,Rd.mono s q,z,Reps.imp ih r,l⟩
 ·rintro x v ⟨a,C,e,n,h⟩;exact⟨a,C,e,n,s _ _ h⟩
 ·rintro x fs xs ih v ⟨a,C,dx,vs,e,n,h,l,r⟩;exact⟨a,C,dx,vs,e,n,s _ _ h,l,Reps.imp ih r⟩
theorem Reps.mono(s:yU H H'){ds:List D}{vs:List V}(h:Reps K H ds vs):Reps K H' ds vs:=Reps.imp (λ_ _ _=>zi.mono s) h
theorem Reps.length:∀{ds:List D}{vs:List V},Reps K H ds vs->vs.length=ds.length
 | [],_,h=>by cases(show _=[]from h); rfl
 |d::ds,_,h=>by
  obtain⟨v,r,rfl,_,hr⟩:=h;rw[xf,xf,Reps.length hr]
theorem Reps.get:∀{ds:List D}{vs:List V}{i:Nat}{d:D},Reps K H ds vs->ds[i]?=some d->∃v,vs[i]?=some v/\zi K H d v
 | [],_,_,_,_,e=>by cases e
 |d::ds,_,0,_,h,e=>by
  obtain⟨v,r,rfl,hv,hr⟩:=h;cases e;exact⟨v,rfl,hv⟩
 |d::ds,_,i+1,d',h,e=>by
  obtain⟨v,r,rfl,hv,hr⟩:=h;exact Reps.get (i:=i) hr (by simpa using e)
theorem Reps.at{ds:List D}{vs:List V}{i:Nat}{v:V}(h:Reps K H ds vs)(e:vs[i]?=some v):∃d,ds[i]?=some d/\zi K H d v:=by
 have l:=h.length;have hi:i<ds.length:=by rw[<-l]; exact(yx.mp e).1
 obtain⟨v',e',r⟩:=h.get (yF hi);rw[e]at e';cases e';exact⟨_,yF hi,r⟩
theorem Reps.append:∀{ds es:List D}{vs us:List V},Reps K H ds vs->Reps K H es us->Reps K H (ds++es) (vs++us)
 | [],_,_,_,h,g=>by cases(show _=[]from h); exact g
 |d::ds,_,_,_,h,g=>by
  obtain⟨v,r,rfl,hv,hr⟩:=h;exact⟨v,_,rfl,hv,Reps.append hr g⟩
theorem Reps.one{d:D}{v:V}(h:zi K H d v):Reps K H [d] [v]:=⟨v,[],rfl,h,rfl⟩
theorem Reps.take:∀{ds:List D}{vs:List V}(n:Nat),Reps K H ds vs->Reps K H (ds.take n) (vs.take n)
 |_,_,0,_=>by rw[List.take_zero,List.take_zero]; rfl
 | [],_,n+1,h=>by cases(show _=[]from h); rfl
 |d::ds,_,n+1,h=>by
  obtain⟨v,r,rfl,hv,hr⟩:=h;exact⟨v,_,rfl,hv,Reps.take n hr⟩
theorem Reps.drop:∀{ds:List D}{vs:List V}(n:Nat),Reps K H ds vs->Reps K H (ds.drop n) (vs.drop n)
 |_,_,0,h=>h
 | [],_,n+1,h=>by cases(show _=[]from h); rfl
 |d::ds,_,n+1,h=>by
  obtain⟨v,r,rfl,hv,hr⟩:=h;exact Reps.drop n hr
theorem Reps.ints:∀{ns:List Int},Reps K H (ns.map D.int) (ns.map V.int)
 | []=>rfl
 |n::ns=>⟨_,_,rfl,rfl,Reps.ints⟩
end
structure zZ(G H G' H':Hp):Prop where
 g:yU G G'
 h:yU H H'
 gh:yU G' H'
 new:∀p,G' p≠none->G p≠none\/H p=none
section
variable{G H G' H' G0 H0 G1 H1 G2 H2:Hp}{p:Addr}{o:HO}
theorem zZ.refl(s:yU G H):zZ G H G H:=⟨yU.refl _,yU.refl _,s,λ_ h=>.inl h⟩
theorem zZ.trans(a:zZ G H G1 H1)(b:zZ G1 H1 G2 H2):zZ G H G2 H2:=⟨a.g.trans b.g,a.h.trans b.h,b.gh,λp h=>by
 rcases b.new p h with z|z
 ·exact a.new p z
 ·exact .inr (a.h.free z)⟩
theorem zZ.rebase(a:zZ G0 H0 G1 H1)(b:zZ G1 H0 G2 H2):zZ G0 H0 G2 H2:=⟨a.g.trans b.g,b.h,b.gh,λp h=>by
 rcases b.new p h with z|z
 ·exact a.new p z
 ·exact .inr z⟩
theorem zZ.z8(a:zZ G0 H0 G1 H1):zZ G1 H0 G1 H1:=⟨yU.refl _,a.h,a.gh,λ_ h=>.inl h⟩
theorem Hm{H:Hp}{p q:Addr}{o:HO}(h:zb H p o q≠none):q=p\/H q≠none:=by
 by_cases e:q=p
 ·exact .inl e
 ·rw[zx e]at h;exact .inr h
theorem Qp(s:yU G H):yU (zb G p o) (zb H p o):=λb u e=>by
 by_cases hb:b=p
 ·subst hb;rw[yT]at e ⊢;exact e
 ·rw[zx hb]at e ⊢;exact s _ _ e
theorem zZ.lay(s:yU G H)(h:H p=none):zZ G H (zb G p o) (zb H p o):=⟨wf (s.free h) o,wf h o,Qp s,λq z=>by
 rcases Hm z with e|e
 ·exact .inr (e▸h)
 ·exact .inl e⟩
theorem zZ.uZ(s:yU G H)(h:H p=none):zZ G H G (zb H p o):=⟨yU.refl _,wf h o,s.trans (wf h o),λ_ z=>.inl z⟩
theorem zZ.y1(a:zZ G H G1 H1)(h:H p=none)(g:G1 p=none)(e:H1 p=some o):zZ G H (zb G1 p o) H1:=⟨a.g.trans (wf g o),a.h,λb u q=>by
 by_cases hb:b=p
 ·subst hb;rw[yT]at q;cases q;exact e
 ·rw[zx hb]at q;exact a.gh _ _ q,λq z=>by
 rcases Hm z with w|w
 ·exact .inr (w▸h)
 ·exact a.new q w⟩
end
def vQ(K:W.Frag)(G H:Hp)(d:D)(p:Addr):Prop:=match d with
 |.lst ds=>∃vs,H p=some (.lst vs)/\Reps K G ds vs/\ds.length<=sizeLine
 |.dic ks ds=>∃vs,H p=some (.dK (ks.zip vs))/\ks.length=vs.length/\Reps K G ds vs/\ds.length<=sizeLine
 |_=>False
section
variable{K:W.Frag}{G H G' H':Hp}{d:D}{p:Addr}
theorem vQ.some(h:vQ K G H d p):H p≠none:=by
 cases d with
 |lst ds=>obtain⟨vs,e,_⟩:=h; rw[e]; exact λz=>nomatch z
 |dic ks ds=>obtain⟨vs,e,_⟩:=h; rw[e]; exact λz=>nomatch z
 |_=>exact h.elim
theorem vQ.mono(g:yU G G')(h:yU H H')(o:vQ K G H d p):vQ K G' H' d p:=by
 cases d with
 |lst ds=>obtain⟨vs,e,r,l⟩:=o; exact⟨vs,h _ _ e,r.mono g,l⟩
 |dic ks ds=>obtain⟨vs,e,z,r,l⟩:=o; exact⟨vs,h _ _ e,z,r.mono g,l⟩
 |_=>exact o.elim
theorem vQ.y1(o:vQ K G H d p)(g:G p=none):∃u,H p=Option.some u/\zi K (zb G p u) d (.ref p):=by
 cases d with
 |lst ds=>obtain⟨vs,e,r,l⟩:=o; exact⟨_,e,p,vs,rfl,yP.of yT,r.mono (wf g _),l⟩
 |dic ks ds=>obtain⟨vs,e,z,r,l⟩:=o; exact⟨_,e,p,vs,rfl,.inl yT,z,r.mono (wf g _),l⟩
 |_=>exact o.elim
end
structure zz(K:W.Frag)(n:Nat)(G0 H0 G H:Hp)(τ:y4)(σ:St):Prop where
 ext:zZ G0 H0 G H
 l1:σ.length=n
 l2:τ.length=n
 fr:∀(i:Nat)(d:D),τ[i]?=some (some (false,d))->∃v,σ[i]?=some (some v)/\zi K G d v
 ow:∀(i:Nat)(d:D),τ[i]?=some (some (true,d))->∃p,σ[i]?=some (some (V.ref p))/\G p=none/\H0 p=none/\vQ K G H d p
 ap:∀(i j:Nat)(d e:D)(p:Addr),i≠j->τ[i]?=some (some (true,d))->τ[j]?=some (some (true,e))->σ[i]?=some (some (V.ref p))->σ[j]?=some (some (V.ref p))->False
section
variable{K:W.Frag}{n:Nat}{G0 H0 G H G' H':Hp}{τ:y4}{σ:St}
theorem zz.go(E:zz K n G0 H0 G H τ σ)(x:zZ G H G' H'):zz K n G0 H0 G' H' τ σ:=⟨E.ext.trans x,E.l1,E.l2,λi d h=>by
 obtain⟨v,e,r⟩:=E.fr i d h;exact⟨v,e,r.mono x.g⟩,λi d h=>by
 obtain⟨p,e,g,z,o⟩:=E.ow i d h;refine⟨p,e,?_,z,o.mono x.g x.h⟩;cases q:G' p with
 |none=>rfl
 |some u=>
  rcases x.new p (by rw[q]; exact λz=>nomatch z)with w|w
  ·exact absurd g w
  ·exact absurd w o.some,E.ap⟩
theorem zz.z8(E:zz K n G0 H0 G H τ σ):zz K n G H0 G H τ σ:=⟨E.ext.z8,E.l1,E.l2,E.fr,E.ow,E.ap⟩
theorem zz.near{Ga Ha:Hp}(a:zZ G0 H0 Ga Ha)(E:zz K n Ga H0 G H τ σ):zz K n G0 H0 G H τ σ:=⟨a.rebase E.ext,E.l1,E.l2,E.fr,E.ow,E.ap⟩
theorem zz.lt{i:Nat}{s:Option Sl}(E:zz K n G0 H0 G H τ σ)(h:τ[i]?=some s):i<n:=by
 rw[<-E.l2];exact(yx.mp h).1
theorem u0{α:Type}{xs:List α}{i j:Nat}{x y:α}(h:(xs.set i x)[j]?=some y):(j=i/\y=x)\/(j≠i/\xs[j]?=some y):=by
 rw[Jf]at h;by_cases e:i=j
 ·subst e;rw[zP rfl]at h
  split at h
  ·cases h; exact .inl ⟨rfl,rfl⟩
  ·cases h
 ·rw[zS e]at h;exact .inr ⟨λz=>e z.symm,h⟩
theorem Xm{α:Type}{xs:List α}{i:Nat}{x:α}(h:i<xs.length):(xs.set i x)[i]?=some x:=by rw[Jf,zP rfl,zP h]
theorem qc{α:Type}{xs:List α}{i j:Nat}{x:α}(h:j≠i):(xs.set i x)[j]?=xs[j]?:=by rw[Jf,zS (λz=>h z.symm)]
theorem zz.set{i:Nat}{d:D}{v:V}(E:zz K n G0 H0 G H τ σ)(hi:i<n)(r:zi K G d v):zz K n G0 H0 G H (τ.set i (some (false,d))) (σ.set i (some v)):=⟨E.ext,by rw[gm]; exact E.l1,by rw[gm]; exact E.l2,λj e h=>by
 rcases u0 h with⟨rfl,z⟩|⟨ne,z⟩
 ·cases z;exact⟨v,Xm (by rw[E.l1]; exact hi),r⟩
 ·rw[qc ne];exact E.fr j e z,λj e h=>by
 rcases u0 h with⟨rfl,z⟩|⟨ne,z⟩
 ·cases z
 ·rw[qc ne];exact E.ow j e z,λj k e f p hne h1 h2=>by
 rcases u0 h1 with⟨rfl,z⟩|⟨ne,z⟩
 ·cases z
 ·rcases u0 h2 with⟨rfl,z'⟩|⟨ne',z'⟩
  ·cases z'
  ·rw[qc ne,qc ne'];exact E.ap j k e f p hne z z'⟩
theorem zz.Bu{i:Nat}{d:D}{p:Addr}(E:zz K n G0 H0 G H τ σ)(hi:i<n)(hg:G p=none)(h0:H0 p=none)(o:vQ K G H d p)(hn:∀(j:Nat)(e:D),j≠i->τ[j]?=some (some (true,e))->σ[j]?=some (some (V.ref p))->False) :
  zz K n G0 H0 G H (τ.set i (some (true,d))) (σ.set i (some (.ref p))):=⟨E.ext,by rw[gm]; exact E.l1,by rw[gm]; exact E.l2,λj e h=>by
 rcases u0 h with⟨rfl,z⟩|⟨ne,z⟩
 ·cases z
 ·rw[qc ne];exact E.fr j e z,λj e h=>by
 rcases u0 h with⟨rfl,z⟩|⟨ne,z⟩
 ·cases z;exact⟨p,Xm (by rw[E.l1]; exact hi),hg,h0,o⟩
 ·rw[qc ne];exact E.ow j e z,λj k e f q hne h1 h2 h3 h4=>by
 rcases u0 h1 with⟨rfl,z⟩|⟨ne,z⟩
 ·rcases u0 h2 with⟨rfl,z'⟩|⟨ne',z'⟩
  ·exact hne rfl
  ·rw[Xm (by rw[E.l1]; exact hi)]at h3;rw[qc ne']at h4;cases h3;exact hn k f ne' z' h4
 ·rcases u0 h2 with⟨rfl,z'⟩|⟨ne',z'⟩
  ·rw[Xm (by rw[E.l1]; exact hi)]at h4;rw[qc ne]at h3;cases h4;exact hn j e ne z h3
  ·rw[qc ne]at h3;rw[qc ne']at h4;exact E.ap j k e f q hne z z' h3 h4⟩
theorem zz.Br{i:Nat}{p:Addr}(E:zz K n G0 H0 G H τ σ)(hp:H p=none):∀(j:Nat)(e:D),j≠i->τ[j]?=some (some (true,e))->σ[j]?=some (some (V.ref p))->False:=λj e _ h1 h2=>by
 obtain⟨q,e1,_,_,o⟩:=E.ow j e h1;rw[h2]at e1;cases e1;exact o.some hp
theorem zz.freeze{i:Nat}{b:Bool}{d:D}(E:zz K n G0 H0 G H τ σ)(hi:τ[i]?=some (some (b,d))):∃G',zz K n G0 H0 G' H (τ.set i (some (false,d))) σ/\yU G G':=by
 have hin:=E.lt hi;cases b with
 |false=>
  refine⟨G,?_,yU.refl _⟩
  have e:τ.set i (some (false,d))=τ:=by
   apply X7;intro j;by_cases hj:j=i
   ·subst hj; rw[Xm (by rw[E.l2]; exact hin),hi]
   ·rw[qc hj]
  rw[e];exact E
 |true=>
  obtain⟨p,e,g,z,o⟩:=E.ow i d hi;obtain⟨u,hu,r⟩:=o.y1 g;have x:zZ G0 H0 (zb G p u) H:=E.ext.y1 z g hu;refine⟨zb G p u,⟨x,E.l1,by rw[gm]; exact E.l2,λj d' h=>?_,λj d' h=>?_,λj k e1 f q hne h1 h2=>?_⟩,wf g _⟩
  ·rcases u0 h with⟨rfl,w⟩|⟨ne,w⟩
   ·cases w;exact⟨_,e,r⟩
   ·obtain⟨v,e',r'⟩:=E.fr j d' w;exact⟨v,e',r'.mono (wf g _)⟩
  ·rcases u0 h with⟨rfl,w⟩|⟨ne,w⟩
   ·cases w
   ·obtain⟨q,e',g',z',o'⟩:=E.ow j d' w;refine⟨q,e',?_,z',o'.mono (wf g _) (yU.refl _)⟩;rw[zx (λc=>?_)]
    ·exact g'
    ·subst c;exact E.ap i j d d' q (λc=>ne c.symm) hi w e e'
  ·rcases u0 h1 with⟨rfl,w⟩|⟨ne,w⟩
   ·cases w
   ·rcases u0 h2 with⟨rfl,w'⟩|⟨ne',w'⟩
    ·cases w'
    ·exact E.ap j k e1 f q hne w w'
end
section
variable(X:Cx)
structure SE(e:Expr)(f:FE):Prop where
 h:∃t,PE X e t/\∀{G0 H0 G H:Hp}{τ:y4}{σ:St}{d:D}{Q:VK},zz X.K X.N.length G0 H0 G H τ σ->f τ=some d->(∀v G' H',zZ G H G' H'->zi X.K G' d v->Q v H')->t σ H Q
structure SB(e:Expr)(f:FE):Prop where
 h:∃t,PE X e t/\∀{G0 H0 G H:Hp}{τ:y4}{σ:St}{d:D}{Q:VK},zz X.K X.N.length G0 H0 G H τ σ->f τ=some d->(∀v G' H',zZ G H G' H'->zi X.K H' d v->Q v H')->t σ H Q
structure SF(e:Expr)(f:FE):Prop where
 h:∃t,PE X e t/\∀{G0 H0 G H:Hp}{τ:y4}{σ:St}{d:D}{Q:VK},zz X.K X.N.length G0 H0 G H τ σ->f τ=some d->(∀p G' H',zZ G H G' H'->H p=none->G' p=none->vQ X.K G' H' d p->Q (.ref p) H')->t σ H Q
structure ST(e:Expr)(f:FT):Prop where
 h:∃t,PT X e t/\∀{G0 H0 G H:Hp}{τ:y4}{σ:St}{d:Bool}{Q:Bool->Hp->Prop},zz X.K X.N.length G0 H0 G H τ σ->f τ=some d->(∀G' H',zZ G H G' H'->Q d H')->t σ H Q
structure SW(e:Expr)(f:FT):Prop where
 h:∃t,PW X e t/\∀{G0 H0 G H:Hp}{τ:y4}{σ:St}{d:Bool}{Q:Bool->Hp->Prop},zz X.K X.N.length G0 H0 G H τ σ->f τ=some d->(∀G' H',zZ G H G' H'->Q d H')->t σ H Q
structure SA(es:List Expr)(f:FA):Prop where
 h:∃t,PA X es t/\∀{G0 H0 G H:Hp}{τ:y4}{σ:St}{ds:List D}{Q:List V->Hp->Prop},zz X.K X.N.length G0 H0 G H τ σ->f τ=some ds->(∀vs G' H',zZ G H G' H'->Reps X.K G' ds vs->Q vs H')->t σ H Q
structure XT(es:List Expr)(f:FA):Prop where
 h:∃t,PA X es t/\∀{G0 H0 G H:Hp}{τ:y4}{σ:St}{ds:List D}{Q:List V->Hp->Prop},zz X.K X.N.length G0 H0 G H τ σ->f τ=some ds->(∀vs G' H',zZ G H G' H'->Reps X.K H' ds vs->Q vs H')->t σ H Q
end
def vP(K:W.Frag)(n:Nat)(G0 H0:Hp)(E:ub):Fl->Prop
 |.nx τ=>∀σ G H,zz K n G0 H0 G H τ σ->E.nx σ H
 |.bk τ=>∀σ G H,zz K n G0 H0 G H τ σ->E.bk σ H
 |.ct τ=>∀σ G H,zz K n G0 H0 G H τ σ->E.ct σ H
 |.rt false d=>∀v G H,zZ G0 H0 G H->zi K G d v->E.rt v H
 |.rt true d=>∀p G H,zZ G0 H0 G H->H0 p=none->G p=none->vQ K G H d p->E.rt (.ref p) H
section
variable(X:Cx)
structure SS(st:Stmt)(f:FS):Prop where
 h:∃t,PS X st t/\∀{G0 H0 G H:Hp}{τ:y4}{σ:St}{fl:Fl}{E:ub},zz X.K X.N.length G0 H0 G H τ σ->f τ=some fl->vP X.K X.N.length G0 H0 E fl->t E σ H
structure uf(st:List Stmt)(f:FS):Prop where
 h:∃t,vx X st t/\∀{G0 H0 G H:Hp}{τ:y4}{σ:St}{fl:Fl}{E:ub},zz X.K X.N.length G0 H0 G H τ σ->f τ=some fl->vP X.K X.N.length G0 H0 E fl->t E σ H
end
structure t4(K:W.Frag)(J:It)(G:Hp)(ds:List D):Prop where
 go:∀i G2 H,yU G G2->yU G2 H->i<ds.length->J.go i H
 vE:∀i G2 H x H',yU G G2->yU G2 H->i<ds.length->J.vE i H x H'->∃G3 d,zZ G2 H G3 H'/\ds[i]?=some d/\zi K G3 d x
 stop:∀i G2 H,yU G G2->yU G2 H->ds.length<=i->J.stop i H
structure SI(X:Cx)(tg iter:Expr)(f:FA):Prop where
 h:∃wi,PI X tg iter wi/\∀{G0 H0 G H:Hp}{τ:y4}{σ:St}{ds:List D}{R:It->Hp->Prop},zz X.K X.N.length G0 H0 G H τ σ->f τ=some ds->(∀J G' H',zZ G H G' H'->ds.length<=sizeLine->t4 X.K J G' ds->R J H')->wi σ H R
def zT(K:W.Frag)(F:List D->Option (Bool×D)):Sp:=λvs H Q _=>∃G ds o d,yU G H/\Reps K G ds vs/\F ds=some (o,d)/\
 match o with
 |false=>∀v G' H',zZ G H G' H'->zi K G' d v->Q v H'
 |true=>∀p G' H',zZ G H G' H'->H p=none->G' p=none->vQ K G' H' d p->Q (.ref p) H'
theorem zU{α β:Type}{o:Option α}{f:α->Option β}{b:β}(h:o.bind f=some b):∃a,o=some a/\f a=some b:=by
 cases o with
 |none=>cases h
 |some a=>exact⟨a,rfl,h⟩
theorem Dy{i:Nat}{τ:y4}{d:D}(h:z7 i τ=some d):τ[i]?=some (some (false,d)):=by
 unfold z7 at h
 split at h
 ·rename_i e;cases h;exact e
 ·cases h
theorem Dx{i:Nat}{τ:y4}{d:D}(h:qb i τ=some d):∃b,τ[i]?=some (some (b,d)):=by
 unfold qb at h
 split at h
 ·rename_i b d' e;cases h;exact⟨_,e⟩
 ·cases h
section
variable{X:Cx}{x:Str}{p pos apos cpos p2:Pos}{e a b c o:Expr}{es rest:List Expr}{f fa fb fc:FE}{ft fu:FT}{fs:FA}{F:D->D->Option D}{r:R2}
theorem SE.sb(h:SE X e f):SB X e f:=⟨let ⟨t,p,k⟩:=h.h; ⟨t,p,λE hf q=>k E hf λv G' H' x r=>q v G' H' x (r.mono x.gh)⟩⟩
theorem SF.se(h:SF X e f):SE X e f:=⟨let ⟨t,p,k⟩:=h.h; ⟨t,p,λE hf q=>k E hf λp G' H' x hp gp o=>by
 obtain⟨u,hu,r⟩:=o.y1 gp;exact q _ _ _ (x.y1 hp gp hu) r⟩⟩
theorem zI(h:SE X e f):SB X e f:=h.sb
theorem yo(h:SF X e f):SE X e f:=h.se
theorem zA(i:Nat){x:Str}{pos:Pos}(hN:X.N[i]?=some x:=by rfl)(hv:tu X.env.scope x:=by first|exact Or.inl rfl|exact Or.inr (Or.inl rfl)|exact Or.inr (Or.inr rfl))(hd:(x==("__debug__" : Str))=false:=by decide)
  (hcd:(x==("__classdict__" : Str))=false:=by decide):SE X (.Name x pos) (z7 i):=⟨⟨_,Yp hN hv hd hcd,λE hf q=>by
 obtain⟨v,e,r⟩:=E.fr _ _ (Dy hf);exact⟨v,e,q v _ _ (zZ.refl E.ext.gh) r⟩⟩⟩
theorem VT{v:V}{d:D}(h:PE X e (tC v))(r:∀H,zi X.K H d v):SE X e (eC d):=⟨⟨_,h,λE hf q=>by
 cases hf;exact q v _ _ (zZ.refl E.ext.gh) (r _)⟩⟩
theorem zH{i k pos}:SE X (.Constant (.int i) k pos) (eC (.int i)):=VT Eg λ_=>rfl
theorem MS{i k pos}:SE X (.Constant (.bool i) k pos) (eC (.bl i)):=VT bL λ_=>rfl
theorem wK{k pos}:SE X (.Constant .none k pos) (eC .zE):=VT bY λ_=>rfl
theorem zp{x k pos}(h:x.length<=1000:=by decide):SE X (.Constant (.str x) k pos) (eC (.str x)):=VT bf λ_=>⟨rfl,small h⟩
theorem qj{v:V}{d:D}(h:yf X.mg x v)(r:∀H,zi X.K H d v)(hg:Gl X x)(hd:(x==("__debug__" : Str))=false:=by decide):SE X (.Name x pos) (eC d):=VT (W6 h hg hd) r
def vf(K:W.Frag)(r:R2)(F:D->D->Option D):Prop:=∀G H x y u v d (Q:VK),yU G H->zi K G x u->zi K G y v->F x y=some d->(∀w G' H',zZ G H G' H'->zi K G' d w->Q w H')->r u v H Q
def qX(K:W.Frag)(r:R2)(F:D->D->Option D):Prop:=∀H x y u v d (Q:VK),zi K H x u->zi K H y v->F x y=some d->∃k,d=.bl k/\(Q (.bl k) H->r u v H Q)
theorem zW{op:Operator}(ho:yX X (binaryOp op) r)(hF:vf X.K r F)(ha:SE X a fa)(hb:SE X b fb):SE X (.BinOp a op b pos) (e2 F fa fb):=by
 obtain⟨ta,pa,ka⟩:=ha.h;obtain⟨tb,pb,kb⟩:=hb.h;refine⟨⟨_,Ei ho pa pb,λE hf q=>?_⟩⟩;obtain⟨x,hx,hf⟩:=zU hf;obtain⟨y,hy,hf⟩:=zU hf;refine ka E hx λv G1 H1 x1 r1=>?_
 refine kb (E.go x1) hy λu G2 H2 x2 r2=>?_
 exact hF G2 H2 x y v u _ _ x2.gh (r1.mono x2.g) r2 hf λw G' H' x3 r3=>q w G' H' (x1.trans (x2.trans x3)) r3
theorem zm(hr:u_ X r)(hF:vf X.K r F)(ha:SE X a fa)(hb:SE X b fb)(hs:Yq b=true:=by rfl):SE X (.Subscript a b pos) (e2 F fa fb):=by
 obtain⟨ta,pa,ka⟩:=ha.h;obtain⟨tb,pb,kb⟩:=hb.h;refine⟨⟨_,Lw hr pa pb (Lz hs),λE hf q=>?_⟩⟩;obtain⟨x,hx,hf⟩:=zU hf;obtain⟨y,hy,hf⟩:=zU hf;refine ka E hx λv G1 H1 x1 r1=>?_
 refine kb (E.go x1) hy λu G2 H2 x2 r2=>?_
 exact hF G2 H2 x y v u _ _ x2.gh (r1.mono x2.g) r2 hf λw G' H' x3 r3=>q w G' H' (x1.trans (x2.trans x3)) r3
theorem pM{op:CmpOp}(ho:yX X (compareOp op) r)(hF:qX X.K r F)(ha:SB X a fa)(hb:SB X b fb)(hm:behindInMarks op b=false):SE X (.Compare a [op] [b] pos) (e2 F fa fb):=by
 obtain⟨ta,pa,ka⟩:=ha.h;obtain⟨tb,pb,kb⟩:=hb.h;refine⟨⟨_,bR ho pa pb hm,λE hf q=>?_⟩⟩;obtain⟨x,hx,hf⟩:=zU hf;obtain⟨y,hy,hf⟩:=zU hf;refine ka E hx λv G1 H1 x1 r1=>?_
 refine kb (E.go x1) hy λu G2 H2 x2 r2=>?_
 obtain⟨k,rfl,z⟩:=hF H2 x y v u _ _ (r1.mono x2.h) r2 hf;exact z (q _ _ _ (x1.trans x2) rfl)
theorem y2{op:CmpOp}(ho:yX X (compareOp op) r)(hF:qX X.K r F)(ha:SB X a fa)(hb:SB X b fb)(hm:behindInMarks op b=false):ST X (.Compare a [op] [b] pos) (tE (e2 F fa fb)):=by
 obtain⟨ta,pa,ka⟩:=ha.h;obtain⟨tb,pb,kb⟩:=hb.h;refine⟨⟨_,cm ho pa pb hm,λE hf q=>?_⟩⟩;obtain⟨z,hz,hf⟩:=zU hf;obtain⟨x,hx,hz⟩:=zU hz;obtain⟨y,hy,hz⟩:=zU hz;refine ka E hx λv G1 H1 x1 r1=>?_
 refine kb (E.go x1) hy λu G2 H2 x2 r2=>?_
 obtain⟨k,rfl,z⟩:=hF H2 x y v u _ _ (r1.mono x2.h) r2 hz;cases hf;exact z ⟨_,rfl,q _ _ (x1.trans x2)⟩
theorem gW(h:SE X e f)(he:Ep e=true:=by rfl):ST X e (tE f):=by
 obtain⟨t,p,k⟩:=h.h;refine⟨⟨_,cq p (cN he),λE hf q=>?_⟩⟩;obtain⟨z,hz,hf⟩:=zU hf;refine k E hz λv G' H' x r=>?_
 cases z<;>first|cases hf|skip
 cases r;exact⟨_,rfl,q _ _ x⟩
theorem Mg(h:ST X a ft):SW X (.BoolOp .And [a] pos) ft:=⟨let ⟨t,p,k⟩:=h.h; ⟨t,cw p,k⟩⟩
theorem J5(h:ST X a ft):SW X (.BoolOp .Or [a] pos) ft:=⟨let ⟨t,p,k⟩:=h.h; ⟨t,cy p,k⟩⟩
theorem J3(ha:ST X a ft)(hb:SW X (.BoolOp .And (b::rest) pos) fu):SW X (.BoolOp .And (a::b::rest) pos) (X0 ft fu):=by
 obtain⟨ta,pa,ka⟩:=ha.h;obtain⟨tb,pb,kb⟩:=hb.h;refine⟨⟨_,cv pa pb,λE hf q=>?_⟩⟩;obtain⟨k,hk,hf⟩:=zU hf;refine ka E hk λG1 H1 x1=>?_
 cases k with
 |true=>exact jD (kb (E.go x1) hf λG' H' x2=>q _ _ (x1.trans x2))
 |false=>cases hf; exact jC (q _ _ x1)
theorem J4(ha:ST X a ft)(hb:SW X (.BoolOp .Or (b::rest) pos) fu):SW X (.BoolOp .Or (a::b::rest) pos) (gX ft fu):=by
 obtain⟨ta,pa,ka⟩:=ha.h;obtain⟨tb,pb,kb⟩:=hb.h;refine⟨⟨_,cx pa pb,λE hf q=>?_⟩⟩;obtain⟨k,hk,hf⟩:=zU hf;refine ka E hk λG1 H1 x1=>?_
 cases k with
 |false=>exact jC (kb (E.go x1) hf λG' H' x2=>q _ _ (x1.trans x2))
 |true=>cases hf; exact jD (q _ _ x1)
theorem ZU(h:SW X e ft):ST X e ft:=⟨let ⟨t,p,k⟩:=h.h; ⟨t,p.pt,k⟩⟩
theorem HP(h:ST X a ft):ST X (.UnaryOp .Not a pos) (J7 ft):=by
 obtain⟨ta,pa,ka⟩:=h.h;refine⟨⟨_,cn pa,λE hf q=>?_⟩⟩;obtain⟨k,hk,hf⟩:=zU hf;cases hf;exact ka E hk λG1 H1 x1=>q _ _ x1
theorem MV{op}(h:SE X a f):SE X (.BoolOp op [a] pos) f:=⟨let ⟨t,p,k⟩:=h.h; ⟨t,bZ p,k⟩⟩
theorem Gh{K:W.Frag}{G:Hp}{z:D}{v:V}{k:Bool}(r:zi K G z v)(h:kW z=some k):v=.bl k:=by
 cases z<;>first|cases h|skip
 exact r
theorem Gz(ha:SE X a fa)(hb:SE X (.BoolOp .And (b::rest) pos) fb):SE X (.BoolOp .And (a::b::rest) pos) (Tj fa fb):=by
 obtain⟨ta,pa,ka⟩:=ha.h;obtain⟨tb,pb,kb⟩:=hb.h;refine⟨⟨_,bK pa pb,λE hf q=>?_⟩⟩;obtain⟨z,hz,hf⟩:=zU hf;obtain⟨k,hk,hf⟩:=zU hf;refine ka E hz λv G1 H1 x1 r1=>⟨k,Gh r1 hk,?_⟩
 cases k with
 |true=>exact jD (kb (E.go x1) hf λv G' H' x2 r2=>q v _ _ (x1.trans x2) r2)
 |false=>cases hf; exact jC (q _ _ _ x1 rfl)
theorem iE(ha:SE X a fa)(hb:SE X (.BoolOp .Or (b::rest) pos) fb):SE X (.BoolOp .Or (a::b::rest) pos) (Iz fa fb):=by
 obtain⟨ta,pa,ka⟩:=ha.h;obtain⟨tb,pb,kb⟩:=hb.h;refine⟨⟨_,ba pa pb,λE hf q=>?_⟩⟩;obtain⟨z,hz,hf⟩:=zU hf;obtain⟨k,hk,hf⟩:=zU hf;refine ka E hz λv G1 H1 x1 r1=>⟨k,Gh r1 hk,?_⟩
 cases k with
 |false=>exact jC (kb (E.go x1) hf λv G' H' x2 r2=>q v _ _ (x1.trans x2) r2)
 |true=>cases hf; exact jD (q _ _ _ x1 rfl)
theorem tL(hc:ST X c ft)(ha:SE X a fa)(hb:SE X b fb):SE X (.IfExp c a b pos) (uH ft fa fb):=by
 obtain⟨tc,pc,kc⟩:=hc.h;obtain⟨ta,pa,ka⟩:=ha.h;obtain⟨tb,pb,kb⟩:=hb.h;refine⟨⟨_,bV pc pa pb,λE hf q=>?_⟩⟩;obtain⟨k,hk,hf⟩:=zU hf;refine kc E hk λG1 H1 x1=>?_
 cases k with
 |true=>exact jD (ka (E.go x1) hf λv G' H' x2 r2=>q v _ _ (x1.trans x2) r2)
 |false=>exact jC (kb (E.go x1) hf λv G' H' x2 r2=>q v _ _ (x1.trans x2) r2)
theorem zN:SA X [] zG:=⟨⟨_,ZH,λE hf q=>by cases hf; exact q _ _ _ (zZ.refl E.ext.gh) rfl⟩⟩
theorem zC(ha:SE X e f)(hr:SA X es fs)(h:xX e=true:=by rfl):SA X (e::es) (zB f fs):=by
 obtain⟨ta,pa,ka⟩:=ha.h;obtain⟨tb,pb,kb⟩:=hr.h;refine⟨⟨_,W5 pa pb h,λE hf q=>?_⟩⟩;obtain⟨x,hx,hf⟩:=zU hf;obtain⟨xs,hxs,hf⟩:=zU hf;cases hf;refine ka E hx λv G1 H1 x1 r1=>kb (E.go x1) hxs λvs G2 H2 x2 r2=>?_
 exact q _ _ _ (x1.trans x2) ⟨v,vs,rfl,r1.mono x2.g,r2⟩
theorem wD:XT X [] zG:=⟨⟨_,ZH,λE hf q=>by cases hf; exact q _ _ _ (zZ.refl E.ext.gh) rfl⟩⟩
theorem xv(ha:SB X e f)(hr:XT X es fs)(h:xX e=true:=by rfl):XT X (e::es) (zB f fs):=by
 obtain⟨ta,pa,ka⟩:=ha.h;obtain⟨tb,pb,kb⟩:=hr.h;refine⟨⟨_,W5 pa pb h,λE hf q=>?_⟩⟩;obtain⟨x,hx,hf⟩:=zU hf;obtain⟨xs,hxs,hf⟩:=zU hf;cases hf;refine ka E hx λv G1 H1 x1 r1=>kb (E.go x1) hxs λvs G2 H2 x2 r2=>?_
 exact q _ _ _ (x1.trans x2) ⟨v,vs,rfl,r1.mono x2.h,r2⟩
theorem fW{is:List Int}(h:intsOf es=some is):SA X es (λ_=>some (is.map D.int)):=⟨⟨_,Ec h,λE hf q=>by cases hf; exact q _ _ _ (zZ.refl E.ext.gh) Reps.ints⟩⟩
theorem wL{x1}(h:SA X es fs)(hl:∀τ ds,fs τ=some ds->ds.length<=1000):SE X (.Tuple es x1 pos) (xU fs):=by
 obtain⟨t,pt,k⟩:=h.h;refine⟨⟨_,bg pt,λE hf q=>?_⟩⟩;obtain⟨xs,hx,hf⟩:=zU hf;cases hf;have l:xs.length<=sizeLine:=small (hl _ _ hx);refine k E hx λvs G1 H1 x1 r1=>⟨by rw[r1.length]; exact l,λp hp=>?_⟩
 exact q _ _ _ (x1.trans (zZ.lay x1.gh hp)) ⟨p,vs,rfl,yq.of yT,r1.mono (wf (x1.gh.free hp) _),l⟩
theorem xY(h:SA X es fs)(hl:∀τ ds,fs τ=some ds->ds.length<=1000):SF X (.List es pos) (xJ fs):=by
 obtain⟨t,pt,k⟩:=h.h;refine⟨⟨_,bW pt,λE hf q=>?_⟩⟩;obtain⟨xs,hx,hf⟩:=zU hf;cases hf;have l:xs.length<=sizeLine:=small (hl _ _ hx);refine k E hx λvs G1 H1 x1 r1=>⟨by rw[r1.length]; exact l,λp hp=>?_⟩
 exact q _ _ _ (x1.trans (zZ.uZ x1.gh hp)) (x1.h.free hp) (x1.gh.free hp) ⟨vs,yT,r1,l⟩
theorem yN:∀(τ:y4) ds,zG τ=some ds->ds.length<=0:=λ_ _ h=>by cases h; exact zt _
theorem zX{n:Nat}(h:∀τ ds,fs τ=some ds->ds.length<=n):∀τ ds,zB f fs τ=some ds->ds.length<=n+1:=λτ ds e=>by
 obtain⟨x,_,e⟩:=zU e;obtain⟨xs,hx,e⟩:=zU e;cases e;exact Nat.succ_le_succ (h _ _ hx)
theorem NA{is:List Int}{n:Nat}(h:is.length<=n):∀(τ:y4) ds,(some (is.map D.int))=some ds->ds.length<=n:=λ_ _ e=>by
 cases e;rw[zr];exact h
theorem yK{m n:Nat}(h:∀τ ds,fs τ=some ds->ds.length<=m)(hmn:m<=n):∀τ ds,fs τ=some ds->ds.length<=n:=λτ ds e=>xj (h τ ds e) hmn
variable{ps:List Str}{j k:Nat}{FF:List D->Option (Bool×D)}{FL:List D->Option D}{id T:String}
theorem jM(h:zR X.prog X.w X.K X.mg X.base x ps k (zT X.K FF))(hr:xy j X.A)(hg:Gl X x)(ha:SA X (e::es) fs)(hk:k<=j:=by decide)(hdb:(x==("__debug__" : Str))=false:=by decide)
  (he:(e::es).all xX=true:=by rfl):SF X (.Call (.Name x p) (e::es) [] pos) (qB FF fs):=by
 obtain⟨t,pt,kt⟩:=ha.h;refine⟨⟨_,Ej h hr hg pt hk hdb he,λE hf q=>?_⟩⟩;obtain⟨ds,hd,hf⟩:=zU hf;obtain⟨⟨o,d⟩,hr,hf⟩:=zU hf;cases o with
 |false=>cases hf
 |true=>
  cases hf;refine kt E hd λvs G1 H1 x1 r1=>⟨G1,ds,true,_,x1.gh,by rw[vC]; exact r1,hr,λp G' H' x2 hp gp o=>?_⟩
  exact q p G' H' (x1.trans x2) (x1.h.free hp) gp o
theorem zj(h:zR X.prog X.w X.K X.mg X.base x ps k (zT X.K FF))(hr:xy j X.A)(hg:Gl X x)(ha:SA X (e::es) fs)(hk:k<=j:=by decide)(hdb:(x==("__debug__" : Str))=false:=by decide)
  (he:(e::es).all xX=true:=by rfl):SE X (.Call (.Name x p) (e::es) [] pos) (ze FF fs):=by
 obtain⟨t,pt,kt⟩:=ha.h;refine⟨⟨_,Ej h hr hg pt hk hdb he,λE hf q=>?_⟩⟩;obtain⟨ds,hd,hf⟩:=zU hf;obtain⟨⟨o,d⟩,hr,hf⟩:=zU hf;cases hf;refine kt E hd λvs G1 H1 x1 r1=>⟨G1,ds,o,d,x1.gh,by rw[vC]; exact r1,hr,?_⟩
 cases o with
 |false=>exact λv G' H' x2 r=>q v G' H' (x1.trans x2) r
 |true=>
  intro p G' H' x2 hp gp o;obtain⟨u,hu,r⟩:=o.y1 gp;exact q _ _ _ (x1.trans (x2.y1 hp gp hu)) r
def kR(K:W.Frag)(r:List V->Hp->VK->Prop)(F:List D->Option D):Prop:=∀G H ds vs d (Q:VK),yU G H->Reps K H ds vs->F ds=some d->(∀w G' H',zZ G H G' H'->zi K G' d w->Q w H')->r vs H Q
def B_(K:W.Frag)(r:List V->Hp->VK->Prop)(F:List D->Option D):Prop:=∀G H ds vs d (Q:VK),yU G H->Reps K G ds vs->F ds=some d->(∀w G' H',zZ G H G' H'->zi K G' d w->Q w H')->r vs H Q
theorem wY{rc:List V->Hp->VK->Prop}(hc:wS X (.builtin id) rc)(hF:kR X.K rc FL)(hg:Gl X x)(hm:X.mg x=none)(hv:bootBuiltins x=some (.builtin id))(ha:XT X (e::es) fs)(hn:x ≠ "__name__" := by decide)(hdb:(x==("__debug__" : Str))=false:=by decide)
  (he:(e::es).all xX=true:=by rfl):SE X (.Call (.Name x p) (e::es) [] pos) (eL FL fs):=by
 obtain⟨t,pt,kt⟩:=ha.h;refine⟨⟨_,(M8 hc hg hm hv ⟨pt⟩ hn hdb he).h,λE hf q=>?_⟩⟩;obtain⟨ds,hd,hf⟩:=zU hf;exact kt E hd λvs G1 H1 x1 r1=>hF G1 H1 ds vs _ _ x1.gh r1 hf λw G' H' x2 r2=>q w G' H' (x1.trans x2) r2
theorem i9{rc:List V->Hp->VK->Prop}(hc:wS X (.type T) rc)(hF:kR X.K rc FL)(hg:Gl X x)(hm:X.mg x=none)(hv:bootBuiltins x=some (.type T))(ha:XT X (e::es) fs)(hn:x ≠ "__name__" := by decide)(hdb:(x==("__debug__" : Str))=false:=by decide)
  (he:(e::es).all xX=true:=by rfl):SE X (.Call (.Name x p) (e::es) [] pos) (eL FL fs):=by
 obtain⟨t,pt,kt⟩:=ha.h;refine⟨⟨_,(WB hc hg hm hv ⟨pt⟩ hn hdb he).h,λE hf q=>?_⟩⟩;obtain⟨ds,hd,hf⟩:=zU hf;exact kt E hd λvs G1 H1 x1 r1=>hF G1 H1 ds vs _ _ x1.gh r1 hf λw G' H' x2 r2=>q w G' H' (x1.trans x2) r2
theorem iA{rc:List V->Hp->VK->Prop}(hc:wS X (.type T) rc)(hF:B_ X.K rc FL)(hg:Gl X x)(hm:X.mg x=none)(hv:bootBuiltins x=some (.type T))(ha:SA X (e::es) fs)(hn:x ≠ "__name__" := by decide)(hdb:(x==("__debug__" : Str))=false:=by decide)
  (he:(e::es).all xX=true:=by rfl):SE X (.Call (.Name x p) (e::es) [] pos) (eL FL fs):=by
 obtain⟨t,pt,kt⟩:=ha.h;refine⟨⟨_,(WB hc hg hm hv ⟨pt⟩ hn hdb he).h,λE hf q=>?_⟩⟩;obtain⟨ds,hd,hf⟩:=zU hf;exact kt E hd λvs G1 H1 x1 r1=>hF G1 H1 ds vs _ _ x1.gh r1 hf λw G' H' x2 r2=>q w G' H' (x1.trans x2) r2
theorem vo{op:UnaryOp}{ru:V->Hp->VK->Prop}{F1:D->Option D}(ho:XX X (unaryOp op) ru)(hF:∀(G H:Hp) x u d (Q:VK),zi X.K G x u->F1 x=some d->∃w,(∀G,zi X.K G d w)/\(Q w H->ru u H Q))(ha:SE X a fa):SE X (.UnaryOp op a pos) (e1 F1 fa):=by
 obtain⟨t,pt,kt⟩:=ha.h;refine⟨⟨_,bh ho pt,λE hf q=>?_⟩⟩;obtain⟨x,hx,hf⟩:=zU hf;refine kt E hx λv G1 H1 x1 r1=>?_
 obtain⟨w,rw_,z⟩:=hF G1 H1 x v _ _ r1 hf;exact z (q w _ _ x1 (rw_ _))
end
section
variable{X:Cx}{x:Str}{p pos pos' apos cpos:Pos}{e a b c tg iter elt:Expr}{es ifs:List Expr}{f fa fb:FE}{ft:FT}{fs:FA}{st:Stmt}{sts body:List Stmt}{g g':FS}
theorem xF:uf X [] ym:=⟨⟨_,ci,λ{_ _ G H τ σ fl E} K hf q=>by
 cases hf;exact q σ G H K⟩⟩
theorem vP.with{K:W.Frag}{n:Nat}{G0 H0:Hp}{E E':ub}{fl:Fl}(h:vP K n G0 H0 E fl)(hn:∀τ,fl=.nx τ->vP K n G0 H0 E' (.nx τ))(hb:∀τ,fl=.bk τ->vP K n G0 H0 E' (.bk τ))(hc:∀τ,fl=.ct τ->vP K n G0 H0 E' (.ct τ))(hr:E'.rt=E.rt):vP K n G0 H0 E' fl:=by
 cases fl with
 |nx τ=>exact hn τ rfl
 |bk τ=>exact hb τ rfl
 |ct τ=>exact hc τ rfl
 |rt o d=>
  cases o with
  |false=>intro v G H x r; rw[hr]; exact h v G H x r
  |true=>intro v G H x r1 r2 r3; rw[hr]; exact h v G H x r1 r2 r3
theorem zQ(h1:SS X st g)(h2:uf X sts g'):uf X (st::sts) (zO g g'):=by
 obtain⟨t,p,k⟩:=h1.h;obtain⟨t',p',k'⟩:=h2.h;refine⟨⟨_,cf p p',λ{G0 H0 G H τ σ fl E} K hf q=>?_⟩⟩;obtain⟨f1,h1,hf⟩:=zU hf;refine k K h1 ?_;cases f1 with
 |nx τ'=>exact λσ' G' H' K'=>k' K' hf q
 |bk τ'=>cases hf; exact q
 |ct τ'=>cases hf; exact q
 |rt o d=>cases hf; exact vP.with q (λ_ z=>nomatch z) (λ_ z=>nomatch z) (λ_ z=>nomatch z) rfl
theorem zY(h1:SS X st g):uf X [st] g:=⟨let ⟨t,p,k⟩:=h1.h; ⟨t,cj p,k⟩⟩
theorem J2(i:Nat)(h:uf X sts g):uf X sts (zO (ZO i) g):=by
 obtain⟨t,p,k⟩:=h.h;refine⟨⟨t,p,λ{G0 H0 G H τ σ fl E} K hf q=>?_⟩⟩;obtain⟨f1,h1,hf⟩:=zU hf;unfold ZO at h1
 split at h1
 ·rename_i bb d hd;cases h1;obtain⟨G',K',_⟩:=K.freeze hd;exact k K' hf q
 ·cases h1
theorem zn{i:Nat}{x:Str}{pos':Pos}(hN:X.N.Nodup)(hi:X.N[i]?=some x)(hx:q_ X.env.scope x)(he:SE X e f)(hs:Xz e=true:=by rfl)(hf:X.fn x=true\/X.env.scope.names.lookup x=some .local:=by first|exact .inl rfl|exact .inr rfl|assumption) :
  SS X (.Assign [.Name x pos'] e pos) (zf i f):=by
 obtain⟨t,p,k⟩:=he.h;refine⟨⟨_,(GH hN hi hx ⟨p⟩ hs hf).h,λ{G0 H0 G H τ σ fl E} K hf q=>?_⟩⟩;obtain⟨d,hd,hf⟩:=zU hf;cases hf;exact k K hd λv G' H' x r=>q _ _ _ ((K.go x).set (yx.mp hi).1 r)
theorem tO{i:Nat}{x:Str}{pos':Pos}(hN:X.N.Nodup)(hi:X.N[i]?=some x)(hx:q_ X.env.scope x)(he:SF X e f)(hs:Xz e=true:=by rfl)(hf:X.fn x=true\/X.env.scope.names.lookup x=some .local:=by first|exact .inl rfl|exact .inr rfl|assumption) :
  SS X (.Assign [.Name x pos'] e pos) (vn i f):=by
 obtain⟨t,p,k⟩:=he.h;refine⟨⟨_,(GH hN hi hx ⟨p⟩ hs hf).h,λ{G0 H0 G H τ σ fl E} K hf q=>?_⟩⟩;obtain⟨d,hd,hf⟩:=zU hf;cases hf;refine k K hd λp G' H' x hp gp o=>q _ _ _ ((K.go x).Bu (yx.mp hi).1 gp (K.ext.h.free hp) o ?_)
 exact K.Br hp
theorem yC(he:SE X e f):SS X (.Return (some e) pos) (yA f):=by
 obtain⟨t,p,k⟩:=he.h;refine⟨⟨_,M0 p,λ{G0 H0 G H τ σ fl E} K hf q=>?_⟩⟩;obtain⟨d,hd,hf⟩:=zU hf;cases hf;exact k K hd λv G' H' x r=>q v _ _ (K.ext.trans x) r
theorem qQ(he:SF X e f):SS X (.Return (some e) pos) (um f):=by
 obtain⟨t,p,k⟩:=he.h;refine⟨⟨_,M0 p,λ{G0 H0 G H τ σ fl E} K hf q=>?_⟩⟩;obtain⟨d,hd,hf⟩:=zU hf;cases hf;exact k K hd λp G' H' x hp gp o=>q p _ _ (K.ext.trans x) (K.ext.h.free hp) gp o
theorem jO(i:Nat){x:Str}{pos':Pos}(hN:X.N[i]?=some x:=by rfl)(hv:tu X.env.scope x:=by first|exact Or.inl rfl|exact Or.inr (Or.inl rfl)|exact Or.inr (Or.inr rfl))(hd:(x==("__debug__" : Str))=false:=by decide)
  (hcd:(x==("__classdict__" : Str))=false:=by decide):SS X (.Return (some (.Name x pos')) pos) (qP i):=by
 refine⟨⟨_,M0 (Yp hN hv hd hcd),λ{G0 H0 G H τ σ fl E} K hf q=>?_⟩⟩;unfold qP at hf
 split at hf
 ·rename_i d he;cases hf;obtain⟨p,e,g,z,o⟩:=K.ow _ _ he;exact⟨_,e,q p _ _ K.ext z g o⟩
 ·cases hf
theorem yn{sa sb:List Stmt}(hc:ST X c ft)(ha:uf X sa g)(hb:uf X sb g'):SS X (.If c sa sb pos) (yR ft g g'):=by
 obtain⟨tc,pc,kc⟩:=hc.h;obtain⟨ta,pa,ka⟩:=ha.h;obtain⟨tb,pb,kb⟩:=hb.h;refine⟨⟨_,cX pc pa pb,λ{G0 H0 G H τ σ fl E} K hf q=>?_⟩⟩;obtain⟨k,hk,hf⟩:=zU hf;refine kc K hk λG1 H1 x1=>?_
 cases k with
 |true=>exact jD (ka (K.go x1) hf q)
 |false=>exact jC (kb (K.go x1) hf q)
theorem HN:uf X sts (λ_=>none):=⟨⟨_,cg,λ_ hf=>by cases hf⟩⟩
theorem J1{ft:FT}(hp:PassesOwn (model X.prog X.w) X.A X.env X.xe)(hc:ST X c ft)(hb:uf X body g):SS X (.While c body [] pos) (ZP ft g):=by
 obtain⟨tc,pc,kc⟩:=hc.h;obtain⟨tb,pb,kb⟩:=hb.h;refine⟨⟨_,ce hp pc pb,λ{G0 H0 G H τ σ fl E} K hf q=>?_⟩⟩;refine⟨λm σ H=>∃τ G,zz X.K X.N.length G0 H0 G H τ σ/\va ft g m τ=some fl,⟨UX,τ,G,K,hf⟩,?_⟩;rintro m σ H ⟨τ,G,K,hf⟩;cases m with
 |zero=>cases hf
 |succ n=>
  obtain⟨k,hk,hf⟩:=zU (show(ft τ).bind _=_ from hf);refine kc K hk λG1 H1 x1=>?_
  cases k with
  |false=>
   cases hf;exact jC (q _ _ _ (K.go x1))
  |true=>
   obtain⟨f1,h1,hf⟩:=zU (show(g τ).bind _=_ from hf);refine jD ⟨λσ' H'=>∃τ G,zz X.K X.N.length G0 H0 G H' τ σ'/\va ft g n τ=some fl,λσ' H' z=>⟨n,Zh n,z⟩,kb (K.go x1) h1 ?_⟩;cases f1 with
   |nx τ2=>exact λσ2 G2 H2 K2=>⟨τ2,G2,K2,hf⟩
   |ct τ2=>exact λσ2 G2 H2 K2=>⟨τ2,G2,K2,hf⟩
   |bk τ2=>cases hf; exact q
   |rt o d=>cases hf; exact vP.with q (λ_ z=>nomatch z) (λ_ z=>nomatch z) (λ_ z=>nomatch z) rfl
theorem vP.near{K:W.Frag}{n:Nat}{G0 H0 Ga Ha:Hp}{E:ub}{fl:Fl}(x:zZ G0 H0 Ga Ha)(h:vP K n G0 H0 E fl):vP K n Ga H0 E fl:=by
 cases fl with
 |nx τ=>exact λσ G H z=>h σ G H (zz.near x z)
 |bk τ=>exact λσ G H z=>h σ G H (zz.near x z)
 |ct τ=>exact λσ G H z=>h σ G H (zz.near x z)
 |rt o d=>
  cases o with
  |false=>exact λv G H y r=>h v G H (x.rebase y) r
  |true=>exact λp G H y r1 r2 r3=>h p G H (x.rebase y) r1 r2 r3
structure SG(X:Cx)(tg:Expr)(fg:FG):Prop where
 h:∃t,PG X tg t/\∀{G0 H0 G H:Hp}{τ τ':y4}{σ:St}{d:D}{v:V}{Q:St->Hp->Prop},zz X.K X.N.length G0 H0 G H τ σ->zi X.K G d v->fg d τ=some τ'->(∀σ',zz X.K X.N.length G0 H0 G H τ' σ'->Q σ' H)->t v σ H Q
theorem gT{i:Nat}{x:Str}(h:QG X (.Name x pos) (t9 i))(hi:X.N[i]?=some x):SG X (.Name x pos) (zy i):=⟨⟨_,h.h,λK r hf q=>by
 cases hf;exact q _ (K.set (yx.mp hi).1 r)⟩⟩
theorem Y_{i j:Nat}{x y:Str}{p1 p2:Pos}{kk:Nat}(h:QG X (.Tuple [.Name x p1,.Name y p2] kk pos) (Xk X.K 2 (gA (t9 i) (gA (t9 j) Xj))))(hi:X.N[i]?=some x)(hj:X.N[j]?=some y):SG X (.Tuple [.Name x p1,.Name y p2] kk pos) (v6 i j):=⟨⟨_,h.h,λ{G0 H0 G H τ τ' σ d v Q} K r hf q=>by
 unfold v6 at hf
 split at hf
 ·rename_i d1 d2;cases hf;obtain⟨a,vs,rfl,sq,⟨v1,r1,rfl,h1,⟨v2,r2,rfl,h2,h3⟩⟩,_⟩:=r;cases(show r2=[]from h3);refine⟨a,_,rfl,vp K.ext.gh sq,rfl,v1,_,rfl,v2,_,rfl,rfl,?_⟩;exact q _ ((K.set (yx.mp hi).1 h1).set (yx.mp hj).1 h2)
 ·cases hf⟩⟩
theorem ql{fg:FG}(hp:PassesOwn (model X.prog X.w) X.A X.env X.xe)(hc:X.calm=true)(hi:SI X tg iter fs)(hg:SG X tg fg)(hb:uf X body g)(hs:∀x,foldedSetIterable iter X.env x=pure x:=by intro _; rfl):SS X (.For tg iter body [] pos) (vm fs fg g):=by
 obtain⟨ti,pi,ki⟩:=hi.h;obtain⟨tg',pg,kg⟩:=hg.h;obtain⟨tb,pb,kb⟩:=hb.h;refine⟨⟨_,Ez hp hc pi pg pb hs,λ{G0 H0 G H τ σ fl E} K hf q=>?_⟩⟩;obtain⟨ds,hd,hf⟩:=zU hf;refine ki K hd λJ Ga Ha xa _ wk=>?_
 have Ka:=K.go xa;have q':=vP.near Ka.ext q;refine⟨λi m σ H=>m=ds.length-i/\i<=ds.length/\∃τ G,zz X.K X.N.length Ga H0 G H τ σ/\pI fg g (ds.drop i) τ=some fl,⟨ds.length,rfl,uu _,τ,Ga,Ka.z8,hf⟩,?_⟩;rintro i m σ H ⟨rfl,hle,τ,G,K,hf⟩;by_cases hlt:i<ds.length
 ·refine .inr ⟨wk.go i G H K.ext.g K.ext.gh hlt,λσ' H'=>∃τ G,zz X.K X.N.length Ga H0 G H' τ σ'/\pI fg g (ds.drop (i+1)) τ=some fl,λσ' H' z=>⟨ds.length-(i+1),by omega,rfl,hlt,z⟩,λx H' y=>?_⟩;obtain⟨G3,d,x3,ed,rd⟩:=wk.vE i G H x H' K.ext.g K.ext.gh hlt y;rw[BH hlt]at hf;rw[yF hlt]at ed;cases ed;obtain⟨τ1,h1,hf⟩:=zU (show(fg _ τ).bind _=_ from hf);obtain⟨f1,h2,hf⟩:=zU hf;refine kg (K.go x3) rd h1 λσ1 K1=>kb K1 h2 ?_
  cases f1 with
  |nx τ2=>exact λσ2 G2 H2 K2=>⟨τ2,G2,K2,hf⟩
  |ct τ2=>exact λσ2 G2 H2 K2=>⟨τ2,G2,K2,hf⟩
  |bk τ2=>cases hf; exact q'
  |rt o d=>cases hf; exact vP.with q' (λ_ z=>nomatch z) (λ_ z=>nomatch z) (λ_ z=>nomatch z) rfl
 ·have e:ds.drop i=[]:=BI (by omega);rw[e]at hf;cases hf;exact .inl ⟨wk.stop i G H K.ext.g K.ext.gh (by omega),q' _ _ _ K⟩
theorem Rq{K:W.Frag}{G:Hp}{lo:Int}{n:Nat}:t4 K (UY lo n) G ((List.range n).map λk:Nat=>D.int (lo+k)) where
 go:=λi G2 H _ _ hi=>by
  show i<n;simpa using hi
 vE:=λi G2 H x H' _ g2 hi y=>by
  obtain⟨rfl,rfl⟩:=y;exact⟨G2,.int (lo+i),zZ.refl g2,by simp at hi; simp[hi],rfl⟩
 stop:=λi G2 H _ _ hi=>by
  show n<=i;simpa using hi
theorem jN(hg:Gl X "range")(hm:X.mg "range" = none)(ha:SE X a fa)(hs:xX a=true:=by rfl):SI X tg (.Call (.Name "range" p) [a] [] pos) (qM (eC (.int 0)) fa):=by
 obtain⟨t,pt,k⟩:=(zC ha zN hs).h;refine⟨⟨_,b_ hg hm pt (tP hs),λ{G0 H0 G H τ σ ds R} K hf q=>?_⟩⟩;obtain⟨x,hx,hf⟩:=zU hf;cases hx;obtain⟨y,hy,hf⟩:=zU hf;refine k K (ds:=[y]) (by unfold zB; rw[hy]; rfl) λvs G1 H1 x1 r1=>?_
 cases y<;>first|cases hf|skip
 rename_i j;obtain⟨v,r,rfl,hv,hr⟩:=r1;cases(show r=[]from hr);cases(show v=.int j from hv)
 change (if(0:Int).natAbs<=yb/\j.natAbs<=yb/\(j-0).toNat<=yb then _ else _)=_ at hf
 by_cases c:(0:Int).natAbs<=yb/\j.natAbs<=yb/\(j-0).toNat<=yb
 ·rw[zP c]at hf;cases hf;have c2:j.natAbs<=16777216:=c.2.1;have c3:(j-0).toNat<=16777216:=c.2.2;refine⟨j,rfl,by omega,by omega,q _ _ _ x1 ?_ ?_⟩
  ·rw[zr,vD,wR]; omega
  ·have e:(j-0).toNat=j.toNat:=by omega
   rw[e];exact Rq
 ·rw[zS c]at hf;cases hf
theorem Sm{K:W.Frag}{G:Hp}{a:Addr}{vs:List V}{ds:List D}(sq:yP K G a vs)(r:Reps K G ds vs):t4 K (IO K a) G ds where
 go:=λi G2 H g1 g2 hi=>by
  obtain⟨v,e,_⟩:=r.get (yF hi);exact⟨vs,v,wM (g1.trans g2) sq,e⟩
 vE:=λi G2 H x H' g1 g2 hi y=>by
  obtain⟨rfl,y⟩:=y;have e:=y vs (wM (g1.trans g2) sq);obtain⟨d,ed,rd⟩:=r.at e;exact⟨G2,d,zZ.refl g2,ed,rd.mono g1⟩
 stop:=λi G2 H g1 g2 hi=>⟨vs,wM (g1.trans g2) sq,by rw[r.length]; exact hi⟩
theorem o8{K:W.Frag}{G:Hp}{a:Addr}{vs:List V}{ds:List D}(sq:yq K G a vs)(r:Reps K G ds vs):t4 K (IQ K a) G ds where
 go:=λi G2 H g1 g2 hi=>by
  obtain⟨v,e,_⟩:=r.get (yF hi);exact⟨vs,v,vp (g1.trans g2) sq,e⟩
 vE:=λi G2 H x H' g1 g2 hi y=>by
  obtain⟨rfl,y⟩:=y;have e:=y vs (vp (g1.trans g2) sq);obtain⟨d,ed,rd⟩:=r.at e;exact⟨G2,d,zZ.refl g2,ed,rd.mono g1⟩
 stop:=λi G2 H g1 g2 hi=>⟨vs,vp (g1.trans g2) sq,by rw[r.length]; exact hi⟩
theorem lf{K:W.Frag}{G:Hp}{z:Str}:t4 K (UZ z) G (z.cps.toList.map λc=>D.str ⟨#[c]⟩) where
 go:=λi G2 H _ _ hi=>by
  rw[zr,wp]at hi;exact hi
 vE:=λi G2 H x H' _ g2 hi y=>by
  obtain⟨rfl,c,ec,rfl⟩:=y;refine⟨G2,.str ⟨#[c]⟩,zZ.refl g2,?_,rfl,small (n:=1) (by decide)⟩;rw[xH,Vf,ec];rfl
 stop:=λi G2 H _ _ hi=>by
  rw[zr,wp]at hi;exact hi
theorem PI.or{w1 w2:TI}(h1:PI X tg e w1)(h2:PI X tg e w2):PI X tg e (λσ H R=>w1 σ H R\/w2 σ H R):=λz6 s σ H R I q=>by
 rcases q with q|q
 ·exact h1 z6 s σ H R I q
 ·exact h2 z6 s σ H R I q
theorem tN(h:SE X e f):SI X tg e (uJ f):=by
 obtain⟨t,p,k⟩:=h.h;refine⟨⟨_,PI.or (bz p) (PI.or (cB p) (cA p)),λ{G0 H0 G H τ σ ds R} K hf q=>?_⟩⟩;obtain⟨d,hd,hf⟩:=zU hf;cases d<;>first|cases hf|skip
 ·rename_i z;refine .inr (.inr (k K hd λv G' H' x r=>?_));obtain⟨rfl,l⟩:=r;exact⟨z,rfl,q _ _ _ x (by rw[zr,wp]; exact l) lf⟩
 ·refine .inr (.inl (k K hd λv G' H' x r=>?_));obtain⟨a,vs,rfl,sq,rs,l⟩:=r;exact⟨a,rfl,⟨vs,vp x.gh sq⟩,q _ _ _ x l (o8 sq rs)⟩
 ·refine .inl (k K hd λv G' H' x r=>?_);obtain⟨a,vs,rfl,sq,rs,l⟩:=r;exact⟨a,rfl,⟨vs,wM x.gh sq⟩,q _ _ _ x l (Sm sq rs)⟩
end
def Mk(K:W.Frag)(n:Nat)(f:FE):TE:=λσ H Q=>∃G0 H0 G τ d,zz K n G0 H0 G H τ σ/\f τ=some d/\∀v G' H',zZ G H G' H'->zi K G' d v->Q v H'
def J9(K:W.Frag)(n:Nat)(f:FT):TT:=λσ H Q=>∃G0 H0 G τ d,zz K n G0 H0 G H τ σ/\f τ=some d/\∀G' H',zZ G H G' H'->Q d H'
structure jz(X:Cx)(es:List Expr)(f:FT):Prop where
 h:kS X es (J9 X.K X.N.length f)
section
variable{X:Cx}{e c:Expr}{f:FE}{ft:FT}
theorem SE.pe(h:SE X e f):PE X e (Mk X.K X.N.length f):=λz6 s σ H Q I q=>by
 obtain⟨t,p,k⟩:=h.h;obtain⟨G0,H0,G,τ,d,K,hf,z⟩:=q;exact p z6 s σ H Q I (k K hf z)
theorem ST.pt(h:ST X e ft):PT X e (J9 X.K X.N.length ft):=λz6 s σ H Q I q=>by
 obtain⟨t,p,k⟩:=h.h;obtain⟨G0,H0,G,τ,d,K,hf,z⟩:=q;exact p z6 s σ H Q I (k K hf z)
theorem qR:jz X [] xA:=⟨λz6 s σ H Q I q=>by
 obtain⟨G0,H0,G,τ,d,K,hf,z⟩:=q;cases hf;exact cr z6 s σ H Q I (z _ _ (zZ.refl K.ext.gh))⟩
theorem pO(h:ST X c ft):jz X [c] ft:=⟨cs h.pt⟩
end
theorem zz.more{K:W.Frag}{n:Nat}{G0 H0 G H:Hp}{τ:y4}{σ:St}(k:Nat)(E:zz K n G0 H0 G H τ σ):zz K (n+k) G0 H0 G H (τ++List.replicate k none) (σ++List.replicate k none):=by
 have at_:∀{i:Nat}{s:Sl},(τ++List.replicate k none)[i]?=some (some s)->τ[i]?=some (some s)/\(σ++List.replicate k none)[i]?=σ[i]?:=λ{i s} h=>by
  have h':=Tv h;have hi:i<n:=E.lt h';exact⟨h',Zc (by rw[E.l1]; exact hi)⟩
 refine⟨E.ext,by rw[ya,gl,E.l1],by rw[ya,gl,E.l2],λi d h=>?_,λi d h=>?_,λi j d e p hne h1 h2 h3 h4=>?_⟩
 ·obtain⟨h',e⟩:=at_ h;rw[e];exact E.fr i d h'
 ·obtain⟨h',e⟩:=at_ h;rw[e];exact E.ow i d h'
 ·obtain⟨h1',e1⟩:=at_ h1;obtain⟨h2',e2⟩:=at_ h2;rw[e1]at h3;rw[e2]at h4;exact E.ap i j d e p hne h1' h2' h3 h4
theorem Xx{K:PySem.W.Frag}{n k:Nat}{G0 H0 Ga Ha:Hp}{τ:y4}{σ:St}{J:It}{ds out:List D}{g:TG}{fg:FG}{ft:FT}{f:FE}{Fin:List V->Hp->Prop}(wk:t4 K J Ga ds)(hl:ds.length<=sizeLine)(Ka:zz K n G0 H0 Ga Ha τ σ)
  (hf:xK fg ft f (τ++List.replicate k none) ds=some out)
  (kg:∀G H d v τ' (Q:St->Hp->Prop),zz K (n+k) G0 H0 G H (τ++List.replicate k none) (σ++List.replicate k none)->zi K G d v->fg d (τ++List.replicate k none)=some τ'->(∀ρ,zz K (n+k) G0 H0 G H τ' (σ++ρ)->Q (σ++ρ) H)->g v (σ++List.replicate k none) H Q)
  (fin:∀ys G H,zZ Ga Ha G H->Reps K G out ys->out.length<=sizeLine->Fin ys H) :
  ∃W:Nat->Nat->List V->Hp->Prop,(∃m,W 0 m [] Ha)/\QR σ k J g (J9 K (n+k) ft) (Mk K (n+k) f) W Fin:=by
 refine⟨λi m ys H=>m=ds.length-i/\i<=ds.length/\ys.length<=i/\∃G done rest,zZ Ga Ha G H/\Reps K G done ys/\xK fg ft f (τ++List.replicate k none) (ds.drop i)=some rest/\done++rest=out,⟨ds.length,rfl,uu _,zt _,Ga,[],out,zZ.refl Ka.ext.gh,rfl,hf,rfl⟩,?_⟩;rintro i m ys H ⟨rfl,hle,hys,G,done,rest,x,rd,hf,eo⟩;by_cases hlt:i<ds.length
 ·refine .inr ⟨wk.go i G H x.g x.gh hlt,by omega,λys H=>ys.length<=i+1/\∃G done rest,zZ Ga Ha G H/\Reps K G done ys/\xK fg ft f (τ++List.replicate k none) (ds.drop (i+1))=some rest/\done++rest=out,λys' H' z=>⟨ds.length-(i+1),by omega,rfl,hlt,z.1,z.2⟩,λv H' y=>?_⟩;obtain⟨G3,d,x3,ed,rv⟩:=wk.vE i G H v H' x.g x.gh hlt y;rw[BH hlt]at hf;rw[yF hlt]at ed;cases ed;obtain⟨τ1,h1,hf⟩:=zU (show(fg _ _).bind _=_ from hf);obtain⟨kk,h2,hf⟩:=zU hf;have K3:=((Ka.go x).go x3).more k;refine kg G3 H' _ v τ1 _ K3 rv h1 λρ K4=>⟨⟨ρ,rfl⟩,_,_,_,_,kk,K4,h2,λG5 H5 x5=>?_⟩
  cases kk with
  |false=>exact jC ⟨by omega,G5,done,rest,x.trans (x3.trans x5),rd.mono (x3.g.trans x5.g),hf,eo⟩
  |true=>
   obtain⟨z,hz,hf⟩:=zU (show(f _).bind _=_ from hf);obtain⟨more,hm,hf⟩:=zU hf;cases hf;refine jD ⟨_,_,_,_,z,K4.go x5,hz,λu G6 H6 x6 r6=>⟨by rw[ya]; exact Nat.succ_le_succ hys,G6,done++[z],more,x.trans (x3.trans (x5.trans x6)),(rd.mono (x3.g.trans (x5.g.trans x6.g))).append (Reps.one r6),hm,?_⟩⟩;rw[gk];exact eo
 ·have e:ds.drop i=[]:=BI (by omega);rw[e]at hf;cases hf;rw[vC]at eo;subst eo;refine .inl ⟨wk.stop i G H x.g x.gh (by omega),fin ys G H x rd ?_⟩;rw[<-rd.length];omega
section
variable{X:Cx}{tg iter elt:Expr}{ifs:List Expr}{scope:Scope}{cl:List (Str×Addr)}{own:List Str}{pos:Pos}{fs:FA}{fg:FG}{ft:FT}{f:FE}{g:TG}
theorem MX{α:Type}(xs:List α)(y:α)(ys:List α){n:Nat}(h:n=xs.length)(z:α):(xs++y::ys).set n z=xs++z::ys:=by
 subst h;rw[Kc _ _ (zt _),Nat.sub_self];rfl
structure BG(X:Cx)(scope:Scope)(cl:List (Str×Addr))(own:List Str)(tg:Expr)(g:TG)(fg:FG):Prop where
 q:∀C s H fp pn,QG (xb X scope cl own C s H fp pn) tg g
 k:∀{G0 H0:Hp}{τ:y4}{σ:St},τ.length=X.N.length->σ.length=X.N.length->∀G H d v τ' (Q:St->Hp->Prop),zz X.K (X.N.length+own.length) G0 H0 G H (τ++List.replicate own.length none) (σ++List.replicate own.length none)->zi X.K G d v->fg d (τ++List.replicate own.length none)=some τ'->
  (∀ρ,zz X.K (X.N.length+own.length) G0 H0 G H τ' (σ++ρ)->Q (σ++ρ) H)->g v (σ++List.replicate own.length none) H Q
theorem v4{x:Str}{i:Nat}(q:∀C s H fp pn,QG (xb X scope cl [x] C s H fp pn) tg (t9 i))(hi:i=X.N.length):BG X scope cl [x] tg (t9 i) (zy i):=⟨q,λ{G0 H0 τ σ} l1 l2 G H d v τ' Q E r hf k=>by
 cases hf;have E':=E.set (i:=i) (v:=v) (by rw[hi]; exact Zh _) r;have es:(σ++List.replicate 1 none).set i (some v)=σ++[some v]:=MX σ none [] (hi.trans l2.symm) (some v);show Q ((σ++List.replicate 1 none).set i (some v)) H;rw[es];refine k [some v] ?_;rw[<-es];exact E'⟩
theorem DV{x y:Str}{i j:Nat}(q:∀C s H fp pn,QG (xb X scope cl [x,y] C s H fp pn) tg (Xk X.K 2 (gA (t9 i) (gA (t9 j) Xj))))(hi:i=X.N.length)(hj:j=X.N.length+1):BG X scope cl [x,y] tg (Xk X.K 2 (gA (t9 i) (gA (t9 j) Xj))) (v6 i j):=⟨q,λ{G0 H0 τ σ} l1 l2 G H d v τ' Q E r hf k=>by
 unfold v6 at hf
 split at hf
 ·rename_i d1 d2;cases hf;obtain⟨a,vs,rfl,sq,⟨v1,r1,rfl,h1,⟨v2,r2,rfl,h2,h3⟩⟩,_⟩:=r;cases(show r2=[]from h3);have E':=(E.set (i:=i) (v:=v1) (by rw[hi]; exact Nat.lt_add_of_pos_right (Nat.succ_pos _)) h1).set (i:=j) (v:=v2) (by rw[hj]; exact Zh _) h2
  have es:((σ++List.replicate 2 none).set i (some v1)).set j (some v2)=σ++[some v1,some v2]:=by
   have e1:(σ++List.replicate 2 none).set i (some v1)=σ++[some v1,none]:=MX σ none [none] (hi.trans l2.symm) (some v1);rw[e1];have e2:σ++[some v1,none]=(σ++[some v1])++[none]:=by simp
   rw[e2,MX (σ++[some v1]) none [] (by rw[ya,hj,l2]; rfl) (some v2)];simp
  refine⟨a,_,rfl,vp E.ext.gh sq,rfl,v1,_,rfl,v2,_,rfl,rfl,?_⟩;show Q (((σ++List.replicate 2 none).set i (some v1)).set j (some v2)) H;rw[es];refine k [some v1,some v2] ?_;rw[<-es];exact E'
 ·cases hf⟩
theorem Db(X:Cx)(own:List Str):(xz X.N own).length=X.N.length+own.length:=by
 unfold xz;rw[ya,zr]
theorem Xc{C:Addr}{s:Shared}{H:Hp}{fp:List Addr}{pn:List (Addr×Obj)}(h:SE (xb X scope cl own C s H fp pn) elt f):PE (xb X scope cl own C s H fp pn) elt (Mk X.K (X.N.length+own.length) f):=by
 have q:=h.pe;rw[show(xb X scope cl own C s H fp pn).N.length=X.N.length+own.length from Db X own]at q;exact q
theorem Xd{C:Addr}{s:Shared}{H:Hp}{fp:List Addr}{pn:List (Addr×Obj)}(h:jz (xb X scope cl own C s H fp pn) ifs ft):kS (xb X scope cl own C s H fp pn) ifs (J9 X.K (X.N.length+own.length) ft):=by
 have q:=h.h;rw[show(xb X scope cl own C s H fp pn).N.length=X.N.length+own.length from Db X own]at q;exact q
theorem u4(hcalm:X.calm=true)(B:pZ X scope cl own)(hi:SI X tg iter fs)(hg:BG X scope cl own tg g fg)(hc:∀C s H fp pn,jz (xb X scope cl own C s H fp pn) ifs ft)
  (he:∀C s H fp pn,SE (xb X scope cl own C s H fp pn) elt f)(hs:∀x,foldedSetIterable iter X.env x=pure x:=by intro _; rfl) :
  SF X (.ListComp elt [⟨tg,iter,ifs,0⟩] scope pos) (xn own.length fs fg ft f):=by
 obtain⟨ti,pi,ki⟩:=hi.h;refine⟨⟨_,Eh hcalm B pi (λC s H fp pn=>(hg.q C s H fp pn).h) (λC s H fp pn=>Xd (hc C s H fp pn)) (λC s H fp pn=>Xc (he C s H fp pn)) hs,λ{G0 H0 G H τ σ d Q} K hf q=>?_⟩⟩;obtain⟨ds,hd,hf⟩:=zU hf;obtain⟨out,ho,hf⟩:=zU hf;cases hf;refine ki K hd λJ Ga Ha xa l wk=>Xx wk l (K.go xa) ho (hg.k K.l2 K.l1) λys G1 H1 x1 r1 l1 p hp=>?_
 exact q p _ _ (xa.trans (x1.trans (zZ.uZ x1.gh hp))) (xa.h.free (x1.h.free hp)) (x1.gh.free hp) ⟨ys,yT,r1,l1⟩
theorem lW{i:Nat}{x:Str}{px spos:Pos}(hcalm:X.calm=true)(hN:X.N.Nodup)(hix:X.N[i]?=some x)(hx:X.env.scope.names.lookup x=some .local)(B:pZ X scope cl own)
  (hsw:swapsWith (.ListComp elt [⟨tg,iter,ifs,0⟩] scope pos) (some (.Name x px)) spos.line X.env=pure true)(hi:SI X tg iter fs)(hg:BG X scope cl own tg g fg)(hc:∀C s H fp pn,jz (xb X scope cl own C s H fp pn) ifs ft)
  (he:∀C s H fp pn,SE (xb X scope cl own C s H fp pn) elt f)(hs:∀x,foldedSetIterable iter X.env x=pure x:=by intro _; rfl) :
  SS X (.Assign [.Name x px] (.ListComp elt [⟨tg,iter,ifs,0⟩] scope pos) spos) (vn i (xn own.length fs fg ft f)):=by
 obtain⟨ti,pi,ki⟩:=hi.h;refine⟨⟨_,M1 hcalm hN hix hx B hsw pi (λC s H fp pn=>(hg.q C s H fp pn).h) (λC s H fp pn=>Xd (hc C s H fp pn)) (λC s H fp pn=>Xc (he C s H fp pn)) hs,λ{G0 H0 G H τ σ fl E} K hf q=>?_⟩⟩;obtain⟨d,hf1,hf⟩:=zU hf;cases hf;obtain⟨ds,hd,hf1⟩:=zU hf1;obtain⟨out,ho,hf1⟩:=zU hf1;cases hf1;refine ki K hd λJ Ga Ha xa l wk=>Xx wk l (K.go xa) ho (hg.k K.l2 K.l1) λys G1 H1 x1 r1 l1 p hp=>?_
 have K1:=(K.go xa).go x1;have K2:=K1.go (zZ.uZ (o:=.lst ys) x1.gh hp);exact q _ _ _ (K2.Bu (yx.mp hix).1 (x1.gh.free hp) (K1.ext.h.free hp) ⟨ys,yT,r1,l1⟩ (K1.Br hp))
theorem HL{i:Nat}{x:Str}{px spos:Pos}(hcalm:X.calm=true)(hN:X.N.Nodup)(hix:X.N[i]?=some x)(hx:X.env.scope.names.lookup x=some .local)(B:pZ X scope cl own)
  (hsw:swapsWith (.ListComp elt [⟨tg,iter,ifs,0⟩] scope pos) (some (.Name x px)) spos.line X.env=pure true)(hi:SI X tg iter fs)(hg:BG X scope cl own tg g fg)(hc:∀C s H fp pn,jz (xb X scope cl own C s H fp pn) ifs ft)
  (he:∀C s H fp pn,SE (xb X scope cl own C s H fp pn) elt f)(hs:∀x,foldedSetIterable iter X.env x=pure x:=by intro _; rfl) :
  SS X (.Assign [.Name x px] (.ListComp elt [⟨tg,iter,ifs,0⟩] scope pos) spos) (zf i (xn own.length fs fg ft f)):=by
 obtain⟨ti,pi,ki⟩:=hi.h;refine⟨⟨_,M1 hcalm hN hix hx B hsw pi (λC s H fp pn=>(hg.q C s H fp pn).h) (λC s H fp pn=>Xd (hc C s H fp pn)) (λC s H fp pn=>Xc (he C s H fp pn)) hs,λ{G0 H0 G H τ σ fl E} K hf q=>?_⟩⟩;obtain⟨d,hf1,hf⟩:=zU hf;cases hf;obtain⟨ds,hd,hf1⟩:=zU hf1;obtain⟨out,ho,hf1⟩:=zU hf1;cases hf1;refine ki K hd λJ Ga Ha xa l wk=>Xx wk l (K.go xa) ho (hg.k K.l2 K.l1) λys G1 H1 x1 r1 l1 p hp=>?_
 have K2:=((K.go xa).go x1).go (zZ.lay (o:=.lst ys) x1.gh hp);exact q _ _ _ (K2.set (yx.mp hix).1 ⟨p,ys,rfl,yP.of yT,r1.mono (wf (x1.gh.free hp) _),l1⟩)
end
section
variable{K:W.Frag}{n:Nat}{G0 H0 G H:Hp}{τ:y4}{σ:St}
theorem zz.U3{i:Nat}{d d':D}{p:Addr}{o:HO}(E:zz K n G0 H0 G H τ σ)(hi:τ[i]?=some (some (true,d)))(hp:σ[i]?=some (some (.ref p)))(new:vQ K G (zb H p o) d' p):zz K n G0 H0 G (zb H p o) (τ.set i (some (true,d'))) σ:=by
 obtain⟨p',e,g,z,_⟩:=E.ow i d hi;rw[hp]at e;cases e
 have keep:∀{H1:Hp},H1 p=none->yU H1 H->yU H1 (zb H p o):=λ{H1} h s b u q=>by
  rw[zx (uK q h)];exact s _ _ q
 refine⟨⟨E.ext.g,keep z E.ext.h,keep g E.ext.gh,E.ext.new⟩,E.l1,by rw[gm]; exact E.l2,λj e h=>?_,λj e h=>?_,λj k e f q hne h1 h2 h3 h4=>?_⟩
 ·rcases u0 h with⟨rfl,w⟩|⟨ne,w⟩
  ·cases w
  ·exact E.fr j e w
 ·rcases u0 h with⟨rfl,w⟩|⟨ne,w⟩
  ·cases w;exact⟨p,hp,g,z,new⟩
  ·obtain⟨q,eq,gq,zq,oq⟩:=E.ow j e w;refine⟨q,eq,gq,zq,?_⟩
   have hne:q≠p:=λc=>by
    subst c;exact E.ap i j d e q (λc=>ne c.symm) hi w hp eq
   cases e with
   |lst ds=>obtain⟨vs,ev,r⟩:=oq; exact⟨vs,by rw[zx hne]; exact ev,r⟩
   |dic ks ds=>obtain⟨vs,ev,r⟩:=oq; exact⟨vs,by rw[zx hne]; exact ev,r⟩
   |_=>exact oq.elim
 ·have t:∀{j:Nat}{e:D},(τ.set i (some (true,d')))[j]?=some (some (true,e))->∃e,τ[j]?=some (some (true,e)):=λ{j e} h=>by
   rcases u0 h with⟨rfl,_⟩|⟨_,w⟩
   ·exact⟨_,hi⟩
   ·exact⟨_,w⟩
  obtain⟨e1,w1⟩:=t h1;obtain⟨e2,w2⟩:=t h2;exact E.ap j k e1 e2 q hne w1 w2 h3 h4
end
section
variable{X:Cx}{x:Str}{xp pos apos cpos:Pos}{e:Expr}{f:FE}
theorem u5{i:Nat}(ho:QE X (.Name x xp) (jP i))(he:SE X e f)(hbase:attributeBase (.Name x xp) "append" X.env (eval (.Name x xp) X.env)=eval (.Name x xp) X.env:=by rfl)(hline:(apos.endLine==cpos.line)=true:=by rfl)(hs:xX e=true:=by rfl) :
  SS X (.Expr (.Call (.Attribute (.Name x xp) "append" apos) [e] [] cpos) pos) (w8 i xo f):=by
 obtain⟨t,p,k⟩:=(zC he zN hs).h;refine⟨⟨_,(GG (WA PySem.F.plainAttrs_list PySem.F.slot_list_append PySem.F.type_list_append Su ho ⟨p⟩ hbase hline (by rw[vA,hs]; rfl) (by show 1<30; decide)) rfl).h,λ{G0 H0 G H τ σ fl E} K hf q=>?_⟩⟩;unfold w8 at hf
 split at hf
 ·rename_i d hd;obtain⟨y,hy,hf⟩:=zU hf;obtain⟨d',hd',hf⟩:=zU hf;cases hf;obtain⟨a,ea,g,z,o⟩:=K.ow _ _ hd;cases d with
  |lst ds=>
   obtain⟨vs,ev,rs,l⟩:=o;refine⟨_,ea,.inl ⟨rfl,vs,yP.of ev⟩,k K (ds:=[y]) (by unfold zB; rw[hy]; rfl) λus G1 H1 x1 r1=>?_⟩;obtain⟨u,r,rfl,hu,hr⟩:=r1;cases(show r=[]from hr)
   change (if ds.length<yb then some (D.lst (ds++[y]))else none)=some d' at hd'
   by_cases c:ds.length<yb
   ·rw[zP c]at hd';cases hd';refine⟨a,vs,u,rfl,rfl,x1.h _ _ ev,by rw[rs.length,wR]; exact c,?_⟩;refine q _ _ _ ((K.go x1).U3 hd ea ⟨vs++[u],yT,(rs.mono x1.g).append (Reps.one hu),?_⟩);rw[ya,wR];exact c
   ·rw[zS c]at hd';cases hd'
  |_=>cases hd'
 ·cases hf
end
section
variable{P:Program}{w:World}{K:W.Frag}{mg:Str->Option Value}{base:Heap}
theorem La{α β:Type}{ds:List α}{k i:Nat}{h:α->Option β}{y:β}(e:(ds.map h++List.replicate k none)[i]?=some (some y)):∃d,ds[i]?=some d/\h d=some y:=by
 have e':=Tv e;rw[xH]at e';cases q:ds[i]? with
 |none=>rw[q]at e'; cases e'
 |some d=>
  rw[q]at e';exact⟨d,rfl,vM e'⟩
theorem FI{N:List Str}{G H:Hp}{ds:List D}{vs:List V}(s:yU G H)(r:Reps K G ds vs)(hl:ds.length<=N.length):zz K N.length G H G H (ds.map (λd=>some (false,d))++List.replicate (N.length-ds.length) none) (L2.start N vs):=by
 have l:=r.length;refine⟨zZ.refl s,?_,?_,λi d h=>?_,λi d h=>?_,λi j d e p _ h1=>?_⟩
 ·unfold L2.start;rw[ya,zr,gl];omega
 ·rw[ya,zr,gl];omega
 ·obtain⟨d',e,z⟩:=La h;cases z;obtain⟨v,ev,rv⟩:=r.get e;refine⟨v,?_,rv⟩;unfold L2.start;rw[Zc (by rw[zr]; exact(yx.mp ev).1),xH,ev];rfl
 ·obtain⟨d',e,z⟩:=La h;cases z
 ·obtain⟨d',e,z⟩:=La h1;cases z
theorem zK.yI{x:Str}{st:Stmt}{N ps:List Str}{k:Nat}{F:List D->Option (Bool×D)}{b:FS}(d:zK K mg x st ps)(S:y9 N ps (zw st))(hN:ps.length<=N.length)(hF:∀ds r,F ds=some r->ds.length=ps.length/\zd N.length b ds=some r)
  (hb:∀(f:Addr)(cdv:Value)(A:Around)(outer:List Env)(s:Shared)(H:Hp)(E:XK),xy k (A.deeper (envOfC x (zw st) s.heap.objs.size f cdv))->uf (j1 tZ P w K mg base N x (zw st) f cdv A outer s H E).kF (p9 st) b):zR P w K mg base x ps (k+1) (zT K F):=by
 refine d.ok S (λvs H Q E h=>?_) λf cdv A outer s H vs Q E hr h=>?_
 ·obtain⟨G,ds,o,dd,_,r,e,_⟩:=h;rw[r.length,(hF _ _ e).1]
 ·obtain⟨G,ds,o,dd,s',r,e,q⟩:=h;obtain⟨l,hrun⟩:=hF _ _ e;obtain⟨t,p,kt⟩:=(hb f cdv A outer s H E hr).h;obtain⟨fl,hfl,hrun⟩:=zU hrun;refine⟨t,p,kt (FI (N:=N) s' r (by omega)) hfl ?_⟩;cases fl with
  |nx τ=>
   cases hrun;exact λσ G' H' z=>q .zE G' H' z.ext rfl
  |rt o' d'=>
   cases hrun;cases o with
   |false=>exact q
   |true=>exact q
  |_=>cases hrun
end
section
variable{P:Program}{w:World}{K:W.Frag}{mg:Str->Option Value}{base:Heap}
end
section
variable{X:Cx}{K:W.Frag}
theorem ZB{C:Int->Int->Prop}{Cb:Int->Int->Bool}{g:Int->Int->Int}(h:∀i j,Cb i j=true->C i j):vf K (rI C λi j=>.int (g i j)) (fI Cb g):=λG H x y u v d Q s rx ry hf q=>by
 cases x<;>first|(cases hf; done)|skip
 cases y<;>first|(cases hf; done)|skip
 rename_i i j
 change (match Cb i j with|true=>some (D.int (g i j))|false=>none)=some d at hf
 cases c:Cb i j with
 |false=>rw[c]at hf; cases hf
 |true=>
  rw[c]at hf;cases hf;exact⟨i,j,rx,ry,h i j c,q _ _ _ (zZ.refl s) rfl⟩
theorem Lo{g:Int->Int->Int}:vf K (ul λi j=>.int (g i j)) (qC g):=λG H x y u v d Q s rx ry hf q=>by
 cases x<;>first|(cases hf; done)|skip
 cases y<;>first|(cases hf; done)|skip
 cases hf;exact⟨_,_,rx,ry,q _ _ _ (zZ.refl s) rfl⟩
theorem tI:vf K (ul λi j=>.int (i-j)) vT:=λG H x y u v d Q s rx ry hf q=>by
 cases x<;>first|(cases hf; done)|skip
 cases y<;>first|(cases hf; done)|skip
 cases hf;exact⟨_,_,rx,ry,q _ _ _ (zZ.refl s) rfl⟩
theorem CF{i:Int}(h:uj i=true) : -(2 ^ 64)<i/\i<2 ^ 64:=by
 unfold uj at h;rw[xL]at h;exact⟨v3 h.1,v3 h.2⟩
theorem Qa:vf K (rI XM λi j=>.int (i*j)) YN:=ZB λ_ _ h=>.inl (CF h)
theorem ZD:vf K (rI XM λi j=>.int (i*j)) j4:=ZB λ_ _ h=>.inr (CF h)
theorem yy:vf K (rI (λ_ j=>0<j) λi j=>.int (i%j)) yk:=ZB λ_ _ h=>v3 h
theorem v7:vf K (rI (λ_ j=>0<j/\j<2 ^ 64) λi j=>.int (i/j)) wm:=ZB λ_ _ h=>by
 rw[xL]at h;exact⟨v3 h.1,v3 h.2⟩
theorem Ev{i j:Int}(h:qO i j=true):XN i j:=by
 unfold qO at h;rw[xL,xL]at h;exact⟨v3 h.1,v3 h.2.1,v3 h.2.2⟩
theorem ZE:vf K (rI XN λi j=>.int (i ^ j.toNat)) j5:=ZB λ_ _ h=>Ev h
theorem Ym:vf K (rI XN λi j=>.int (i*2 ^ j.toNat)) g8:=ZB λ_ _ h=>Ev h
theorem ab:vf K (rI (λ_ j=>0<=j) λi j=>.int (i/2 ^ j.toNat)) O8:=ZB λ_ _ h=>v3 h
theorem wC{g:Int->Int->Bool}:qX K (ul λi j=>.bl (g i j)) (xV g):=λH x y u v d Q rx ry hf=>by
 cases x<;>first|(cases hf; done)|skip
 cases y<;>first|(cases hf; done)|skip
 cases hf;exact⟨_,rfl,λq=>⟨_,_,rx,ry,q⟩⟩
theorem Fx{H:Hp}{x:D}{u:V}(r:zi K H x u):gC x=decide (u=.zE):=by
 cases x with
 |zE=>cases r; rfl
 |bl b=>cases r; rfl
 |int b=>cases r; rfl
 |str b=>obtain⟨rfl,_⟩:=r; rfl
 |tup b=>obtain⟨a,vs,rfl,_⟩:=r; rfl
 |lst b=>obtain⟨a,vs,rfl,_⟩:=r; rfl
 |dic b c=>obtain⟨a,vs,rfl,_⟩:=r; rfl
 |exc b=>obtain⟨a,C,rfl,_⟩:=r; rfl
 |obj b c e=>obtain⟨a,C,dx,vs,rfl,_⟩:=r; rfl
theorem ZC:qX K (λx y H Q=>y=.zE/\Q (.bl (decide (x=.zE))) H) pB:=λH x y u v d Q rx ry hf=>by
 cases y<;>first|(cases hf; done)|skip
 have e:=Fx rx;refine⟨gC x,(vM hf).symm,λq=>⟨ry,?_⟩⟩;rw[<-e];exact q
theorem Qb:qX K (λx y H Q=>y=.zE/\Q (.bl (!decide (x=.zE))) H) YO:=λH x y u v d Q rx ry hf=>by
 cases y<;>first|(cases hf; done)|skip
 have e:=Fx rx;refine⟨!gC x,(vM hf).symm,λq=>⟨ry,?_⟩⟩;rw[<-e];exact q
theorem u7:∀(G H:Hp) x u d (Q:VK),zi K G x u->wn x=some d->∃w,(∀G,zi K G d w)/\(Q w H->rU (λi=>.int (-i)) u H Q):=λG H x u d Q r hf=>by
 cases x<;>first|(cases hf; done)|skip
 cases hf;exact⟨_,λ_=>rfl,λq=>⟨_,r,q⟩⟩
theorem rM:∀(G H:Hp) x u d (Q:VK),zi K G x u->O5 x=some d->∃w,(∀G,zi K G d w)/\(Q w H->rU (λi=>.int (Builtin.bitNot i)) u H Q):=λG H x u d Q r hf=>by
 cases x<;>first|(cases hf; done)|skip
 cases hf;exact⟨_,λ_=>rfl,λq=>⟨_,r,q⟩⟩
def GJ(K:W.Frag):R2:=λx y H Q=>∃l b xs zs,x=.ref l/\y=.ref b/\yP K H l xs/\yP K H b zs/\xs.length+zs.length<=sizeLine/\∀p,H p=none->Q (.ref p) (zb H p (.lst (xs++zs)))
theorem Ea:yX X (binaryOp .Add) (GJ X.K):=by
 intro z6 s σ H x y v u Q I rx ry h;obtain⟨l,b,xs,zs,rfl,rfl,hl,hb,hz,q⟩:=h;cases rx;cases ry;obtain⟨its,r1,p1,_⟩:=I.list hl;obtain⟨its2,r2,p2,_⟩:=I.list hb;obtain⟨⟨c1,d1,t1,sl1⟩,n1,ho1,hc1,hd1,ht1⟩:=p1;obtain⟨⟨c2,d2,t2,sl2⟩,n2,ho2,hc2,hd2,ht2⟩:=p2;simp only at hc1 ht1 hc2 ht2;subst hc1 ht1 hc2 ht2
 refine concat_meets ⟨_,ho1,rfl⟩ ⟨_,ho2,rfl⟩ noFill_list_add seq_list_add PySem.F.slot_list_add PySem.F.entry_list_add (PySem.F.args_list_add_2 _ _)
  (list_addW l b its.toArray its2.toArray n1 n2 d1 d2 sl1 sl2 (by rw[yg,yg,<-r1.length,<-r2.length]; exact hz)) ⟨ho1,ho2,?_⟩
 rw[show its.toArray++its2.toArray=(its++its2).toArray by simp];exact⟨.ref _,_,I.Ks (t':=s.toks) (r1.append r2) (by rw[ya]; exact hz),rfl,q _ I.fresh⟩
def GI(K:W.Frag):R2:=λx y H Q=>ul (λi j=>.int (i+j)) x y H Q\/(∃i k,x=.int i/\y=.bl k/\Q (.int (i+b2i k)) H)\/(∃i j,x=.str i/\y=.str j/\i.length+j.length<=sizeLine/\Q (.str (i++j)) H)\/GJ K x y H Q\/GK K x y H Q
theorem yu:yX X (binaryOp .Add) (GI X.K):=ay.or (az.or (a_.or (Ea.or b7)))
theorem yt:vf K (GI K) yS:=λG H x y u v d Q s rx ry hf q=>by
 cases x<;>cases y<;>first|(cases hf; done)|skip
 ·rename_i i b;cases rx;cases ry;cases hf;refine .inr (.inl ⟨i,b,rfl,rfl,?_⟩);have e:i+b2i b=i+(if b then 1 else 0):=by cases b<;>rfl
  rw[e];exact q _ _ _ (zZ.refl s) rfl
 ·cases hf;exact .inl ⟨_,_,rx,ry,q _ _ _ (zZ.refl s) rfl⟩
 ·rename_i i j;obtain⟨rfl,l1⟩:=rx;obtain⟨rfl,l2⟩:=ry
  change (if i.length+j.length<=yb then _ else _)=_ at hf
  by_cases c:i.length+j.length<=yb
  ·rw[zP c]at hf;cases hf;have c':i.length+j.length<=sizeLine:=by rw[wR]; exact c
   exact .inr (.inr (.inl ⟨i,j,rfl,rfl,c',q _ _ _ (zZ.refl s) ⟨rfl,by rw[strLen_append]; exact c'⟩⟩))
  ·rw[zS c]at hf;cases hf
 ·rename_i xs ys;obtain⟨a,vs,rfl,sa,ra,_⟩:=rx;obtain⟨b,us,rfl,sb,rb,_⟩:=ry
  change (if xs.isEmpty=false/\xs.length+ys.length<=yb then _ else _)=_ at hf
  by_cases c0:xs.isEmpty=false/\xs.length+ys.length<=yb
  ·rw[zP c0]at hf;have c:=c0.2;cases hf;have c':(xs++ys).length<=sizeLine:=by rw[wR,ya]; exact c
   have hx:vs≠[]:=λe=>by
    have l:=ra.length;rw[e]at l;cases xs with
    |nil=>cases c0.1
    |cons=>cases l
   ·refine .inr (.inr (.inr (.inr ⟨a,b,vs,us,rfl,rfl,vp s sa,vp s sb,hx,by rw[ra.length,rb.length,wR]; exact c,λe=>?_,λe p hp=>?_⟩)))
    ·subst e
     have e2:ys=[]:=by
      cases ys with
      |nil=>rfl
      |cons=>obtain⟨_,_,z,_⟩:=rb; cases z
     subst e2;exact q _ _ _ (zZ.refl s) ⟨a,vs,rfl,sa,by rw[vC]; exact ra,c'⟩
    ·exact q _ _ _ (zZ.lay s hp) ⟨p,vs++us,rfl,yq.of yT,(ra.append rb).mono (wf (s.free hp) _),c'⟩
  ·rw[zS c0]at hf;cases hf
 ·rename_i xs ys;obtain⟨a,vs,rfl,sa,ra,_⟩:=rx;obtain⟨b,us,rfl,sb,rb,_⟩:=ry
  change (if xs.length+ys.length<=yb then _ else _)=_ at hf
  by_cases c:xs.length+ys.length<=yb
  ·rw[zP c]at hf;cases hf;have c':(xs++ys).length<=sizeLine:=by rw[wR,ya]; exact c
   refine .inr (.inr (.inr (.inl ⟨a,b,vs,us,rfl,rfl,wM s sa,wM s sb,by rw[ra.length,rb.length,wR]; exact c,λp hp=>?_⟩)));exact q _ _ _ (zZ.lay s hp) ⟨p,vs++us,rfl,yP.of yT,(ra.append rb).mono (wf (s.free hp) _),c'⟩
  ·rw[zS c]at hf;cases hf
theorem NG{α:Type}{xs:List α}{i:Int}{x:α}(h:t_ xs i=some x):∃j:Nat,xs[j]?=some x/\∀{β:Type}(ys:List β),ys.length=xs.length->t_ ys i=ys[j]?:=by
 unfold t_ at h;cases e:ixN xs.length i with
 |none=>rw[e]at h; cases h
 |some j=>
  rw[e]at h;exact⟨j,h,λys l=>by unfold t_; rw[l,e]; rfl⟩
theorem DI{α:Type}(xs:List α)(i:Int):t_ xs i=vF xs i:=by
 unfold t_ vF ixN;by_cases h:0<=i
 ·rw[zP h,zP h];by_cases h2:i<xs.length
  ·rw[zP h2]; rfl
  ·rw[zS h2];exact(uT (by omega)).symm
 ·rw[zS h,zS h]
  split<;>rfl
theorem MF{H:Hp}{ds:List D}{vs:List V}{i:Int}{d:D}(r:Reps K H ds vs)(h:vF ds i=some d):∃v,t_ vs i=some v/\zi K H d v:=by
 rw[<-DI]at h;obtain⟨j,e,k⟩:=NG h;obtain⟨v,ev,rv⟩:=r.get e;exact⟨v,by rw[k vs r.length]; exact ev,rv⟩
def PX:D->D->Option D
 |.lst xs,.int i=>vF xs i
 |.tup xs,.int i=>vF xs i
 |.str z,.int i=>(vF z.cps.toList i).bind λc=>some (.str ⟨#[c]⟩)
 |_,_=>none
theorem Lp:vf K (MB K) PX:=λG H x y u v d Q s rx ry hf q=>by
 cases x<;>first|(cases hf; done)|skip
 all_goals (cases y<;>first|(cases hf; done)|skip)
 ·rename_i z i;obtain⟨rfl,l⟩:=rx;cases ry;obtain⟨c,hc,hf⟩:=zU hf;cases hf;rw[<-DI]at hc;exact .inr (.inr ⟨z,i,c,rfl,rfl,l,hc,q _ _ _ (zZ.refl s) ⟨rfl,small (n:=1) (by decide)⟩⟩)
 ·rename_i xs i;obtain⟨a,vs,rfl,sa,ra,_⟩:=rx;cases ry;obtain⟨w,hw,rw_⟩:=MF ra hf;exact .inr (.inl ⟨a,vs,i,w,rfl,rfl,vp s sa,hw,q _ _ _ (zZ.refl s) rw_⟩)
 ·rename_i xs i;obtain⟨a,vs,rfl,sa,ra,_⟩:=rx;cases ry;obtain⟨w,hw,rw_⟩:=MF ra hf;exact .inl ⟨a,vs,i,w,rfl,rfl,wM s sa,hw,q _ _ _ (zZ.refl s) rw_⟩
theorem wt:wS X (.builtin "len") (λxs H Q=>(∃p ys,xs=[.ref p]/\(yP X.K H p ys\/yq X.K H p ys)/\Q (.int ys.length) H)\/∃z,xs=[.str z]/\z.length<=sizeLine/\Q (.int z.length) H):=Nb.or Nc
theorem wy:kR K (λxs H Q=>(∃p ys,xs=[.ref p]/\(yP K H p ys\/yq K H p ys)/\Q (.int ys.length) H)\/∃z,xs=[.str z]/\z.length<=sizeLine/\Q (.int z.length) H) xg:=λG H ds vs d Q s r hf q=>by
 match ds,hf with
 | [.lst xs],hf=>
  cases hf;obtain⟨v,r',rfl,⟨a,us,rfl,sq,ru,_⟩,h2⟩:=r;cases(show r'=[]from h2);exact .inl ⟨a,us,rfl,.inl sq,by rw[ru.length]; exact q _ _ _ (zZ.refl s) rfl⟩
 | [.tup xs],hf=>
  cases hf;obtain⟨v,r',rfl,⟨a,us,rfl,sq,ru,_⟩,h2⟩:=r;cases(show r'=[]from h2);exact .inl ⟨a,us,rfl,.inr sq,by rw[ru.length]; exact q _ _ _ (zZ.refl s) rfl⟩
 | [.str z],hf=>
  cases hf;obtain⟨v,r',rfl,⟨rfl,l⟩,h2⟩:=r;cases(show r'=[]from h2);exact .inr ⟨z,rfl,l,q _ _ _ (zZ.refl s) rfl⟩
theorem aO:kR K (λxs H Q=>∃i j,xs=[.int i,.int j]/\Q (.int (if j>i then j else i)) H) Tp:=λG H ds vs d Q s r hf q=>by
 match ds,hf with
 | [.int i,.int j],hf=>
  cases hf;obtain⟨v,r',rfl,rfl,⟨v2,r2,rfl,rfl,h2⟩⟩:=r;cases(show r2=[]from h2);exact⟨i,j,rfl,q _ _ _ (zZ.refl s) rfl⟩
theorem aP:kR K (λxs H Q=>∃i j,xs=[.int i,.int j]/\Q (.int (if j<i then j else i)) H) Tq:=λG H ds vs d Q s r hf q=>by
 match ds,hf with
 | [.int i,.int j],hf=>
  cases hf;obtain⟨v,r',rfl,rfl,⟨v2,r2,rfl,rfl,h2⟩⟩:=r;cases(show r2=[]from h2);exact⟨i,j,rfl,q _ _ _ (zZ.refl s) rfl⟩
theorem Ak:kR K (λxs H Q=>(∃i,xs=[.int i]/\Q (.int i) H)\/∃k,xs=[.bl k]/\Q (.int (if k then 1 else 0)) H) O4:=λG H ds vs d Q s r hf q=>by
 match ds,hf with
 | [.int i],hf=>
  cases hf;obtain⟨v,r',rfl,rfl,h2⟩:=r;cases(show r'=[]from h2);exact .inl ⟨i,rfl,q _ _ _ (zZ.refl s) rfl⟩
 | [.bl k],hf=>
  cases hf;obtain⟨v,r',rfl,rfl,h2⟩:=r;cases(show r'=[]from h2);exact .inr ⟨k,rfl,q _ _ _ (zZ.refl s) rfl⟩
end
theorem Dn:∀xs ys:List D,(((List.range (min xs.length ys.length)).all λj=>yW (xs.getD j .zE) (ys.getD j .zE))&&xs.length==ys.length)=dEqs xs ys
 | [],[]=>rfl
 | [],_::_=>rfl
 |_::_,[]=>rfl
 |x::xs,y::ys=>by
  have ih:=Dn xs ys;show _=(yW x y&&dEqs xs ys);rw[<-ih,xf,xf,Nat.succ_min_succ,List.range_succ_eq_map,vA,List.all_map,Bool.and_assoc]
  congr 1
  congr 1
  rw[Vh];simp
theorem Dl{f:D->D->Bool}:∀{xs ys:List D},t7 f xs ys=true->∀(j:Nat) x y,xs[j]?=some x->ys[j]?=some y->f x y=true
 | [],_,_,j,x,y,e,_=>by cases e
 |x::xs,[],_,j,_,y,_,e=>by cases e
 |x::xs,y::ys,h,0,_,_,e1,e2=>by
  cases e1;cases e2;have h':(f x y&&t7 f xs ys)=true:=h;rw[xL]at h';exact h'.1
 |x::xs,y::ys,h,j+1,a,b,e1,e2=>by
  have h':(f x y&&t7 f xs ys)=true:=h;rw[xL]at h';exact Dl h'.2 j a b (by simpa using e1) (by simpa using e2)
section
variable{X:Cx}{z6:List (Addr×Obj)}{σ:St}{H:Hp}{s:Shared}{K:W.Frag}
theorem O1{n:Nat}(ih:∀d1 d2 v,vG n d1 d2=true->zi K H d1 v->zi K H d2 v->yW d1 d2=true):∀{xs ys:List D}{vs:List V},t7 (vG n) xs ys=true->Reps K H xs vs->Reps K H ys vs->dEqs xs ys=true
 | [],[],_,_,_,_=>rfl
 | [],_::_,_,_,r1,r2=>by
  cases(show _=[]from r1);obtain⟨_,_,e,_⟩:=r2;cases e
 |_::_,[],_,_,r1,r2=>by
  cases(show _=[]from r2);obtain⟨_,_,e,_⟩:=r1;cases e
 |x::xs,y::ys,_,h,r1,r2=>by
  obtain⟨v,r,rfl,a,b⟩:=r1;obtain⟨v',r',e,a',b'⟩:=r2;cases e;have h':(vG n x y&&t7 (vG n) xs ys)=true:=h;rw[xL]at h';show(yW x y&&dEqs xs ys)=true;rw[ih x y v h'.1 a a',O1 ih h'.2 b b'];rfl
theorem Il{n:Nat}{x y:D}(h:vG (n+1) x y=true):(∃xs ys,x=.tup xs/\y=.tup ys/\t7 (vG n) xs ys=true)\/(∃xs ys,x=.lst xs/\y=.lst ys/\t7 (vG n) xs ys=true)\/(yY x=true/\yY y=true):=by
 unfold vG at h
 split at h
 ·exact .inl ⟨_,_,rfl,rfl,h⟩
 ·exact .inr (.inl ⟨_,_,rfl,rfl,h⟩)
 ·rw[xL]at h;exact .inr (.inr h)
theorem gP{d:D}{v:V}(h:yY d=true)(r:zi K H d v):uI v=true:=by
 cases d<;>first|exact absurd h xG|skip
 ·cases(show v=_ from r); rfl
 ·cases(show v=_ from r); rfl
 ·cases(show v=_ from r); rfl
 ·cases(show v=_/\_ from r).1; rfl
theorem ZM{d1 d2:D}{x y:V}(h1:yY d1=true)(h2:yY d2=true)(r1:zi K H d1 x)(r2:zi K H d2 y):vS x y=yW d1 d2:=by
 cases d1<;>first|exact absurd h1 xG|skip
 all_goals (cases d2<;>first|exact absurd h2 xG|skip)
 all_goals first
  |(cases(show x=_ from r1); cases(show y=_ from r2); rfl)
  |(cases(show x=_ from r1); cases(show y=_/\_ from r2).1; rfl)
  |(cases(show x=_/\_ from r1).1; cases(show y=_ from r2); rfl)
  |(cases(show x=_/\_ from r1).1; cases(show y=_/\_ from r2).1; rfl)
theorem Tn(I:Inv X z6 σ H s):∀(n:Nat)(d1 d2:D)(v:V),vG n d1 d2=true->zi X.K H d1 v->zi X.K H d2 v->yW d1 d2=true
 |0,_,_,_,h,_,_=>by cases h
 |n+1,d1,d2,v,h,r1,r2=>by
  rcases Il h with⟨xs,ys,rfl,rfl,h⟩|⟨xs,ys,rfl,rfl,h⟩|⟨f1,f2⟩
  ·obtain⟨a,vs,rfl,s1,q1,_⟩:=r1;obtain⟨a',us,e,s2,q2,_⟩:=r2;cases e;cases I.II s1 s2;exact O1 (λd1 d2 v=>Tn I n d1 d2 v) h q1 q2
  ·obtain⟨a,vs,rfl,s1,q1,_⟩:=r1;obtain⟨a',us,e,s2,q2,_⟩:=r2;cases e;cases I.U2 s1 s2;exact O1 (λd1 d2 v=>Tn I n d1 d2 v) h q1 q2
  ·rw[<-ZM f1 f2 r1 r2];exact PM (gP f1 r1)
theorem Fd{α:Type}{xs:List α}{j:Nat}{x d:α}(h:xs[j]?=some x):xs.getD j d=x:=by rw[wP,h]; rfl
theorem Ql{A:Around}{n:Nat}{a c:Addr}{xs ys:List D}{vs us:List V}(I:Inv X z6 σ H s)(hu:A.units<cLine)(hq:DE X.K H a c vs us)(q1:Reps X.K H xs vs)(q2:Reps X.K H ys us)(h:t7 (vG n) xs ys=true)
  (ih:∀(d1 d2:D)(x y:V)(u v:Value),vG n d1 d2=true->zi X.K H d1 x->zi X.K H d2 y->z_ x u->z_ y v->SeqAt.EqAt A.in1 s u v (yW d1 d2)):SeqAt.RcAt A s (.ref a) (.ref c) (dEqs xs ys)/\SeqAt.RcNeAt A s (.ref a) (.ref c) (!dEqs xs ys):=by
 have z:=dN (A:=A) (e:=λj=>yW (xs.getD j .zE) (ys.getD j .zE)) I hu hq λj x' y' u' v' e1 e2 w1 w2=>by
  obtain⟨d1,g1,t1⟩:=q1.at e1;obtain⟨d2,g2,t2⟩:=q2.at e2;show SeqAt.EqAt A.in1 s u' v' (yW (xs.getD j .zE) (ys.getD j .zE));rw[Fd g1,Fd g2];exact ih d1 d2 x' y' u' v' (Dl h j d1 d2 g1 g2) t1 t2 w1 w2
 rw[q1.length,q2.length,Dn]at z;exact z
theorem Tl(I:Inv X z6 σ H s):∀(n:Nat)(A:Around)(d1 d2:D)(x y:V)(u v:Value),A.units+n<cLine->vG n d1 d2=true->zi X.K H d1 x->zi X.K H d2 y->z_ x u->z_ y v->SeqAt.EqAt A s u v (yW d1 d2)
 |0,_,_,_,_,_,_,_,_,h,_,_,_,_=>by cases h
 |n+1,A,d1,d2,x,y,u,v,hu,h,r1,r2,rx,ry=>by
  have h0:=h;have ra:=r1;have rb:=r2;rcases Il h with⟨xs,ys,rfl,rfl,h⟩|⟨xs,ys,rfl,rfl,h⟩|⟨f1,f2⟩
  ·obtain⟨a,vs,rfl,s1,q1,l1⟩:=r1;obtain⟨c,us,rfl,s2,q2,l2⟩:=r2;cases(show u=Value.ref a from rx);cases(show v=Value.ref c from ry);by_cases hac:a=c
   ·subst hac;rw[Tn I (n+1) _ _ _ h0 ra rb];exact Bd _
   ·exact SeqAt.EqAt.of_refs hac (Ql I (by omega) (.inl ⟨s1,s2⟩) q1 q2 h λd1 d2 x y u v hh t1 t2 w1 w2=>Tl I n A.in1 d1 d2 x y u v (by rw[Q9]; omega) hh t1 t2 w1 w2).1
  ·obtain⟨a,vs,rfl,s1,q1,l1⟩:=r1;obtain⟨c,us,rfl,s2,q2,l2⟩:=r2;cases(show u=Value.ref a from rx);cases(show v=Value.ref c from ry);by_cases hac:a=c
   ·subst hac;rw[Tn I (n+1) _ _ _ h0 ra rb];exact Bd _
   ·exact SeqAt.EqAt.of_refs hac (Ql I (by omega) (.inr ⟨s1,s2⟩) q1 q2 h λd1 d2 x y u v hh t1 t2 w1 w2=>Tl I n A.in1 d1 d2 x y u v (by rw[Q9]; omega) hh t1 t2 w1 w2).1
  ·rw[<-ZM f1 f2 r1 r2];exact FJ rx ry (gP f1 r1) (gP f2 r2)
end
def Qk(K:W.Frag)(neg:Bool):R2:=λx y H Q=>∃d1 d2 k,zi K H d1 x/\zi K H d2 y/\j3 d1 d2=some k/\Q (.bl (if neg then !k else k)) H
theorem x_{A:Around}{k:Nat}(hr:xy k A):A.units+7<cLine:=BY (Kd (by decide:7<=64) _) hr.units
section
variable{X:Cx}{K:W.Frag}
theorem O3{d1 d2:D}{k:Bool}(h:j3 d1 d2=some k):vG 6 d1 d2=true/\k=yW d1 d2:=by
 unfold j3 at h
 split at h
 ·cases h
 ·cases h
 ·split at h
  ·rename_i e;cases h;exact⟨e,rfl⟩
  ·cases h
theorem Gy{H:Hp}{d1 d2:D}{x y:V}{k:Bool}(h:j3 d1 d2=some k)(h1:yY d1=true)(h2:yY d2=true)(r1:zi K H d1 x)(r2:zi K H d2 y):MR x y=true/\decide (x=y)=k:=by
 obtain⟨_,e⟩:=O3 h;subst e;cases d1<;>first|exact absurd h1 xG|skip
 all_goals (cases d2<;>first|exact absurd h2 xG|(cases h; done)|skip)
 all_goals first
  |(cases(show x=_ from r1); cases(show y=_ from r2); exact⟨rfl,by first|rfl|exact Ir|exact Iq⟩)
  |(cases(show x=_ from r1); cases(show y=_/\_ from r2).1; exact⟨rfl,rfl⟩)
  |(cases(show x=_/\_ from r1).1; cases(show y=_ from r2); exact⟨rfl,rfl⟩)
  |(cases(show x=_/\_ from r1).1; cases(show y=_/\_ from r2).1; exact⟨rfl,Iu⟩)
theorem FM{z6:List (Addr×Obj)}{σ:St}{H:Hp}{s:Shared}{A:Around}{d1 d2:D}{x y:V}{u v:Value}(I:Inv X z6 σ H s)(hu:A.units+7<cLine)(h:vG 6 d1 d2=true)(hf:¬ (yY d1&&yY d2)=true)(r1:zi X.K H d1 x)(r2:zi X.K H d2 y)(rx:z_ x u)(ry:z_ y v) :
  SeqAt.RcAt A s u v (yW d1 d2)/\SeqAt.RcNeAt A s u v (!yW d1 d2):=by
 rcases Il h with⟨xs,ys,rfl,rfl,h⟩|⟨xs,ys,rfl,rfl,h⟩|⟨f1,f2⟩
 ·obtain⟨a,vs,rfl,s1,q1,l1⟩:=r1;obtain⟨c,us,rfl,s2,q2,l2⟩:=r2;cases(show u=Value.ref a from rx);cases(show v=Value.ref c from ry);exact Ql I (by omega) (.inl ⟨s1,s2⟩) q1 q2 h λd1 d2 x y u v hh t1 t2 w1 w2=>Tl I 5 A.in1 d1 d2 x y u v (by rw[Q9]; omega) hh t1 t2 w1 w2
 ·obtain⟨a,vs,rfl,s1,q1,l1⟩:=r1;obtain⟨c,us,rfl,s2,q2,l2⟩:=r2;cases(show u=Value.ref a from rx);cases(show v=Value.ref c from ry);exact Ql I (by omega) (.inr ⟨s1,s2⟩) q1 q2 h λd1 d2 x y u v hh t1 t2 w1 w2=>Tl I 5 A.in1 d1 d2 x y u v (by rw[Q9]; omega) hh t1 t2 w1 w2
 ·exact absurd (by rw[f1,f2]; rfl) hf
theorem vJ(hu:X.A.units+7<cLine):yX X (compareOp .Eq) (Qk X.K false):=by
 intro z6 s σ H x y v u Q I rx ry h;obtain⟨d1,d2,k,r1,r2,hk,q⟩:=h;by_cases hf:(yY d1&&yY d2)=true
 ·have hf':=hf;rw[xL]at hf';obtain⟨a,b⟩:=Gy hk hf'.1 hf'.2 r1 r2;exact b8 z6 s σ H x y v u Q I rx ry ⟨a,by rw[b]; exact q⟩
 ·obtain⟨hc,rfl⟩:=O3 hk;exact(FM I hu hc hf r1 r2 rx ry).1 _ _ _ _ ⟨.bl _,H,I,rfl,q⟩
theorem gI(hu:X.A.units+7<cLine):yX X (compareOp .NotEq) (Qk X.K true):=by
 intro z6 s σ H x y v u Q I rx ry h;obtain⟨d1,d2,k,r1,r2,hk,q⟩:=h;by_cases hf:(yY d1&&yY d2)=true
 ·have hf':=hf;rw[xL]at hf';obtain⟨a,b⟩:=Gy hk hf'.1 hf'.2 r1 r2;exact bC z6 s σ H x y v u Q I rx ry ⟨a,by rw[b]; exact q⟩
 ·obtain⟨hc,rfl⟩:=O3 hk;exact(FM I hu hc hf r1 r2 rx ry).2 _ _ _ _ ⟨.bl _,H,I,rfl,q⟩
theorem vI:qX K (Qk K false) yE:=λH x y u v d Q rx ry hf=>by
 obtain⟨k,hk,hf⟩:=zU hf;cases hf;exact⟨_,rfl,λq=>⟨x,y,k,rx,ry,hk,q⟩⟩
theorem gH:qX K (Qk K true) wu:=λH x y u v d Q rx ry hf=>by
 obtain⟨k,hk,hf⟩:=zU hf;cases hf;exact⟨_,rfl,λq=>⟨x,y,k,rx,ry,hk,q⟩⟩
end
end L3
namespace L3
open PySem
theorem Mo{c:FT}{b:FS}:∀{n:Nat}{σ:y4}{fl:Fl}(k:Nat),va c b n σ=some fl->va c b (n+k) σ=some fl
 |0,_,_,_,h=>by cases h
 |n+1,σ,fl,k,h=>by
  rw[Nat.succ_add];unfold va at h ⊢;cases hc:c σ with
  |none=>rw[hc]at h; cases h
  |some kk=>
   rw[hc]at h;cases kk with
   |false=>exact h
   |true=>
    change (b σ).bind _=_ at h
    show(b σ).bind _=_;cases hb:b σ with
    |none=>rw[hb]at h; cases h
    |some f=>
     rw[hb]at h;cases f with
     |nx τ=>exact Mo k h
     |ct τ=>exact Mo k h
     |bk τ=>exact h
     |rt o d=>exact h
theorem WH{c:FT}{b:FS}{σ:y4}{fl:Fl}(n:Nat)(h:va c b n σ=some fl)(hn:n<=UX:=by decide):ZP c b σ=some fl:=by
 have e:=Mo (UX-n) h;rw[Nat.add_sub_of_le hn]at e;exact e
theorem JI{c:FT}{b:FS}{σ σ':y4}{n:Nat}(hc:c σ=some true)(hb:b σ=some (.nx σ')):va c b (n+1) σ=va c b n σ':=by
 show(c σ).bind _=_;rw[hc];show(b σ).bind _=_;rw[hb];rfl
theorem JH{c:FT}{b:FS}{σ:y4}{n:Nat}(hc:c σ=some false):va c b (n+1) σ=some (.nx σ):=by
 show(c σ).bind _=_;rw[hc];rfl
theorem tF{g:FG}{b:FS}(P:Nat->y4->Prop):∀{ds:List D}{σ:y4}(n:Nat),P n σ->(∀i d σ,ds[i]?=some d->P (n+i) σ->∃σ1 σ2,g d σ=some σ1/\(b σ1=some (.nx σ2)\/b σ1=some (.ct σ2))/\P (n+i+1) σ2)->
  ∃σ',pI g b ds σ=some (.nx σ')/\P (n+ds.length) σ'
 | [],σ,n,h,_=>⟨σ,rfl,h⟩
 |d::ds,σ,n,h,step=>by
  obtain⟨σ1,σ2,e1,e2,p2⟩:=step 0 d σ rfl h
  obtain⟨σ',e3,p3⟩:=tF P (ds:=ds) (σ:=σ2) (n+1) p2 λi d' τ hd hp=>by
   obtain⟨a,b',c1,c2,c3⟩:=step (i+1) d' τ (by simpa using hd) (by rw[show n+(i+1)=n+1+i by omega]; exact hp);exact⟨a,b',c1,c2,by rw[show n+1+i+1=n+(i+1)+1 by omega]; exact c3⟩
  refine⟨σ',?_,by rw[xf,show n+(ds.length+1)=n+1+ds.length by omega]; exact p3⟩;show(g d σ).bind _=_;rw[e1];show(b σ1).bind _=_;rcases e2 with e2|e2
  ·rw[e2]; exact e3
  ·rw[e2]; exact e3
theorem tM{a b:FS}{σ σ':y4}(h:a σ=some (.nx σ')):zO a b σ=b σ':=by
 show(a σ).bind _=_;rw[h];rfl
theorem Fp{c:FT}{a b:FS}{σ:y4}(h:c σ=some true):yR c a b σ=a σ:=by
 show(c σ).bind _=_;rw[h];rfl
theorem Rl{c:FT}{a b:FS}{σ:y4}(h:c σ=some false):yR c a b σ=b σ:=by
 show(c σ).bind _=_;rw[h];rfl
abbrev wN(j:Nat):List D:=(List.range j).map λk:Nat=>D.int k
theorem jK{f:FE}{τ:y4}{n:Int}(h:f τ=some (.int n))(h1:n.natAbs<=1000000):qM (eC (.int 0)) f τ=some (wN n.toNat):=by
 unfold qM;rw[h];show(if(0:Int).natAbs<=yb/\n.natAbs<=yb/\(n-0).toNat<=yb then _ else _)=_;rw[zP ⟨by decide,by show _<=16777216; omega,by show _<=16777216; omega⟩,Int.sub_zero];simp only[Int.zero_add]
end L3
namespace L3
def shx:=
 And.intro zd.eq_1<|And.intro zO.eq_1<|And.intro zf.eq_1<|And.intro vn.eq_1<|And.intro yA.eq_1<|And.intro um.eq_1<|And.intro qP.eq_1<|And.intro yR.eq_1<|And.intro ym.eq_1<|And.intro ZO.eq_1 <|
 And.intro fT.eq_1<|And.intro w8.eq_1<|And.intro vm.eq_1<|And.intro pI.eq_1<|And.intro pI.eq_2<|And.intro e1.eq_1<|And.intro e2.eq_1<|And.intro eL.eq_1<|And.intro eC.eq_1<|And.intro z7.eq_1<|And.intro qb.eq_1 <|
 And.intro zB.eq_1<|And.intro zG.eq_1<|And.intro tE.eq_1<|And.intro kW.eq_def<|And.intro X0.eq_1<|And.intro gX.eq_1<|And.intro J7.eq_1<|And.intro Tj.eq_1<|And.intro Iz.eq_1<|And.intro PJ.eq_1<|And.intro uH.eq_1 <|
 And.intro xU.eq_1<|And.intro xJ.eq_1<|And.intro PH.eq_1<|And.intro Fy.eq_def<|And.intro fI.eq_def<|And.intro vT.eq_def<|And.intro xV.eq_def<|And.intro YN.eq_1<|And.intro j4.eq_1<|And.intro yk.eq_1<|And.intro wm.eq_1 <|
 And.intro j5.eq_1<|And.intro g8.eq_1<|And.intro O8.eq_1<|And.intro qC.eq_def<|And.intro wn.eq_def<|And.intro xg.eq_def<|And.intro O4.eq_def<|And.intro pB.eq_def<|And.intro YO.eq_def<|And.intro gC.eq_def <|
 And.intro zy.eq_1<|And.intro v6.eq_1<|And.intro uJ.eq_1<|And.intro ze.eq_1<|And.intro qB.eq_1<|And.intro xn.eq_1 <|
 And.intro @Option.bind_some.{0,0} <| And.intro @Option.bind_none.{0,0} <| And.intro @List.getElem?_cons_zero.{0} <| And.intro @List.getElem?_cons_succ.{0} <| And.intro @List.set_cons_zero.{0} <| And.intro @List.set_cons_succ.{0} <| And.intro @xw.{0,0} <| And.intro @gx.{0,0} <|
 And.intro @jV.{0} <| And.intro @gy.{0} <| And.intro @xf.{0} <| And.intro @jX.{0} <| And.intro @Kb.{0} <| And.intro @List.replicate_succ.{0} <| And.intro B7<|And.intro Bool.not_false <|
 And.intro @decide_true<|And.intro @decide_false<|And.intro Bool.and_self<|And.intro B6 pS
open PySem PySem.Spec PyProof.Rows L2
section
variable{α:Type}
theorem K5:∀{ks:List zM}{vs:List α}(k:zM),ks.length=vs.length->((ks.zip vs).any λkv=>decide (kv.1=k))=yc ks k
 | [],[],_,_=>rfl
 |k'::ks,v::vs,k,h=>by
  have ih:=K5 (ks:=ks) (vs:=vs) k (by simpa using h);show(decide (k'=k)||((ks.zip vs).any λkv=>decide (kv.1=k)))=(decide (k'=k)||yc ks k);rw[ih]
theorem Vd:∀{ks:List zM}{vs:List V}(k:zM),ks.length=vs.length->ur (ks.zip vs) k=getK ks vs k
 | [],[],_,_=>rfl
 |k'::ks,v::vs,k,h=>by
  have ih:=Vd (ks:=ks) (vs:=vs) k (by simpa using h);by_cases e:k'=k
  ·rw[Vn,JF (p:=(k',v)) e];show _=(if k'=k then some v else _);rw[zP e]
  ·rw[Vn,JE (p:=(k',v)) e,ih];show _=(if k'=k then some v else _);rw[zS e]
theorem K6:∀{ks:List zM}{vs:List V}(k:zM)(v:V),ks.length=vs.length->((ks.zip vs).map λkv=>if kv.1=k then(kv.1,v)else kv)=ks.zip (List.zipWith (λk' x=>if k'=k then v else x) ks vs)
 | [],[],_,_,_=>rfl
 |k'::ks,u::vs,k,v,h=>by
  have ih:=K6 (ks:=ks) (vs:=vs) k v (by simpa using h);rw[Vn,xw,ih,gz,Vn];by_cases e:k'=k
  ·rw[zP e,zP e]
  ·rw[zS e,zS e]
theorem K7{ks:List zM}{vs:List V}{k:zM}{v:V}(h:ks.length=vs.length):vk (ks.zip vs) k v=(xt ks k).zip (w6 ks vs k v):=by
 unfold vk xt w6;rw[K5 k h];by_cases c:yc ks k=true
 ·rw[zP c,zP c,zP c,K6 k v h]
 ·rw[zS c,zS c,zS c,List.zip_append h];rfl
theorem ZK{ks:List zM}{vs:List α}{k:zM}{v:α}(h:ks.length=vs.length):(xt ks k).length=(w6 ks vs k v).length:=by
 unfold xt w6
 split
 ·rw[gt,h,tS]
 ·rw[ya,ya,h];rfl
theorem G8{ks:List zM}{vs:List α}{k:zM}{v:α}(h:ks.length=vs.length):(w6 ks vs k v).length<=vs.length+1:=by
 unfold w6
 split
 ·rw[gt,h,tS];exact Vo _
 ·rw[ya];exact zt _
end
section
variable{K:W.Frag}{G H:Hp}
theorem Reps.getK:∀{ks:List zM}{ds:List D}{vs:List V}{k:zM}{d:D},Reps K H ds vs->getK ks ds k=some d->∃v,getK ks vs k=some v/\zi K H d v
 | [],_,_,_,_,_,e=>by cases e
 |_::_,[],_,_,_,_,e=>by cases e
 |k'::ks,d'::ds,_,k,d,r,e=>by
  obtain⟨v,r',rfl,hv,hr⟩:=r
  change (if k'=k then some d' else L3.getK ks ds k)=some d at e
  by_cases c:k'=k
  ·rw[zP c]at e;cases e;exact⟨v,by show(if k'=k then some v else _)=_; rw[zP c],hv⟩
  ·rw[zS c]at e;obtain⟨u,hu,ru⟩:=Reps.getK hr e;exact⟨u,by show(if k'=k then some v else _)=_; rw[zS c]; exact hu,ru⟩
theorem Fe{α:Type}:∀{ks:List zM}{vs:List α}(k:zM),ks.length=vs.length->(getK ks vs k).isSome=yc ks k
 | [],[],_,_=>rfl
 |k'::ks,v::vs,k,h=>by
  have ih:=Fe (ks:=ks) (vs:=vs) k (by simpa using h);show(if k'=k then some v else getK ks vs k).isSome=(decide (k'=k)||_);by_cases c:k'=k
  ·rw[zP c,ye c]; rfl
  ·rw[zS c,yh c,ih]; rfl
theorem Reps.Bw{k:zM}{d:D}{v:V}(hv:zi K H d v):∀{ks:List zM}{ds:List D}{vs:List V},Reps K H ds vs->Reps K H (List.zipWith (λk' x=>if k'=k then d else x) ks ds) (List.zipWith (λk' x=>if k'=k then v else x) ks vs)
 | [],_,_,_=>rfl
 |_::_,[],_,r=>by cases(show _=[]from r); rfl
 |k'::ks,d'::ds,_,r=>by
  obtain⟨u,r',rfl,hu,hr⟩:=r;refine⟨_,_,rfl,?_,Reps.Bw hv hr⟩;show zi K H (if k'=k then d else d') (if k'=k then v else u);by_cases c:k'=k
  ·rw[zP c,zP c]; exact hv
  ·rw[zS c,zS c]; exact hu
theorem Reps.put{ks:List zM}{ds:List D}{vs:List V}{k:zM}{d:D}{v:V}(r:Reps K H ds vs)(hv:zi K H d v):Reps K H (w6 ks ds k d) (w6 ks vs k v):=by
 unfold w6
 split
 ·exact Reps.Bw hv r
 ·exact r.append (Reps.one hv)
theorem Z4{x:D}{k:zM}{u:V}(h:qe x=some k)(r:zi K H x u):u=kV k:=by
 cases x<;>first|(cases h; done)|skip
 ·cases h; exact r
 ·cases h; exact(show u=_/\_ from r).1
end
section
variable{X:Cx}{K:W.Frag}
def GM:R2:=λx y H Q=>∃a kvs k v,x=.ref a/\y=kV k/\Rd H a (.dK kvs)/\ur kvs k=some v/\Q v H
theorem S4:u_ X GM:=by
 intro value slice z6 s σ H x y v u Q I rx ry h hs;obtain⟨a,kvs,k,z,rfl,rfl,e,l,q⟩:=h;cases rx;obtain⟨_,_,vs,rel,dd⟩:=YK I.zg e;obtain⟨w',hw,rw'⟩:=p4.some_of (v:=z) (o:=valueAt vs k) (by rw[<-l]; exact rel.val k)
 exact Jq (x:=w') (P9 I (.inl ⟨kvs,k,e,rfl,rfl⟩)) PySem.F.slot_dict_getitem.lookup
  (wpAny_getItem_of (Q:=λr s'=>r=w'/\EP X z6 σ Q r s') (jE ry) dd.mapOf hw ⟨rfl,z,H,I.tok _,rw',q⟩) hs
def GL(K:W.Frag):R2:=λx y H Q=>MB K x y H Q\/GM x y H Q
theorem zk(_:X.A.units+1<cLine):u_ X (GL X.K):=S6.or S4
theorem zl:vf K (GL K) zL:=λG H x y u v d Q s rx ry hf q=>by
 cases x with
 |dic ks ds=>
  obtain⟨a,vs,rfl,sq,l,rs,_⟩:=rx;obtain⟨k,hk,hf⟩:=zU hf;obtain⟨z,hz,rz⟩:=rs.getK hf;exact .inr ⟨a,_,k,z,rfl,Z4 hk ry,Rd.mono s sq,by rw[Vd k l]; exact hz,q _ _ _ (zZ.refl s) rz⟩
 |zE=>cases hf
 |bl b=>cases hf
 |int b=>cases hf
 |str z=>exact .inl (Lp G H (.str z) y u v d Q s rx ry (by cases y<;>exact hf) q)
 |tup z=>exact .inl (Lp G H (.tup z) y u v d Q s rx ry (by cases y<;>exact hf) q)
 |lst z=>exact .inl (Lp G H (.lst z) y u v d Q s rx ry (by cases y<;>exact hf) q)
 |exc z=>cases hf
 |obj z _ _=>cases hf
theorem MU{i:Nat}{x:Str}{p pos:Pos}{b:Expr}{fb:FE}(hu:X.A.units+1<cLine)(ho:QE X (.Name x p) (jP i))(hb:SE X b fb)(hs:Yq b=true:=by rfl):SE X (.Subscript (.Name x p) b pos) (e2 zL (qb i) fb):=by
 obtain⟨tb,pb,kb⟩:=hb.h;refine⟨⟨_,Lw (zk hu) ho.h pb (Lz hs),λ{G0 H0 G H τ σ d Q} E hf q=>?_⟩⟩;obtain⟨x,hx,hf⟩:=zU hf;obtain⟨y,hy,hf⟩:=zU hf;obtain⟨o,ho⟩:=Dx hx;cases o with
 |false=>
  obtain⟨v,ev,rv⟩:=E.fr _ _ ho;exact⟨v,ev,kb E hy λu G2 H2 x2 r2=>zl G2 H2 x y v u _ _ x2.gh (rv.mono x2.g) r2 hf λw G' H' x3 r3=>q w G' H' (x2.trans x3) r3⟩
 |true=>
  obtain⟨p,ev,_,_,o⟩:=E.ow _ _ ho;refine⟨_,ev,kb E hy λu G2 H2 x2 r2=>?_⟩;cases x with
  |lst ds=>
   obtain⟨vs,e1,rs,_⟩:=o;cases y<;>first|(cases hf; done)|skip
   rename_i i;obtain⟨w,hw,rw_⟩:=MF rs hf;cases r2;exact .inl (.inl ⟨p,vs,i,w,rfl,rfl,yP.of (x2.h _ _ e1),hw,q _ _ _ x2 (rw_.mono x2.g)⟩)
  |dic ks ds=>
   obtain⟨vs,e1,l,rs,_⟩:=o;obtain⟨k,hk,hf⟩:=zU hf;obtain⟨z,hz,rz⟩:=rs.getK hf;exact .inr ⟨p,_,k,z,rfl,Z4 hk r2,.inl (x2.h _ _ e1),by rw[Vd k l]; exact hz,q _ _ _ x2 (rz.mono x2.g)⟩
  |_=>exact o.elim
def MA(neg:Bool):R2:=λx y H Q=>∃a kvs k,y=.ref a/\x=kV k/\Rd H a (.dK kvs)/\Q (.bl (if neg then !(ur kvs k).isSome else(ur kvs k).isSome)) H
theorem b9(hu:X.A.units+1<cLine):yX X (compareOp .In) (MA false):=by
 intro z6 s σ H x y v u Q I rx ry h;obtain⟨a,kvs,k,rfl,rfl,e,q⟩:=h;cases ry;exact P0 hu I (.inl ⟨kvs,k,e,rfl,rfl⟩) rx λs' I'=>⟨.bl _,H,I',rfl,q⟩
theorem bD(hu:X.A.units+1<cLine):yX X (compareOp .NotIn) (MA true):=by
 intro z6 s σ H x y v u Q I rx ry h;obtain⟨a,kvs,k,rfl,rfl,e,q⟩:=h;cases ry;exact P3 hu I (.inl ⟨kvs,k,e,rfl,rfl⟩) rx λs' I'=>⟨.bl _,H,I',rfl,q⟩
def WC(K:W.Frag)(neg:Bool):R2:=λx y H Q=>M9 K neg x y H Q\/(∃i j,x=.str i/\y=.str j/\Q (.bl (if neg then !(!(Builtin.Str.occurrences j i 0 j.length 1).isEmpty)else !(Builtin.Str.occurrences j i 0 j.length 1).isEmpty)) H)\/MA neg x y H Q
theorem uP(hu:X.A.units+1<cLine):yX X (compareOp .In) (WC X.K false):=bA.or (bB.or (b9 hu))
theorem Ls(hu:X.A.units+1<cLine):yX X (compareOp .NotIn) (WC X.K true):=bE.or (bF.or (bD hu))
theorem WF{H:Hp}{x:D}{u:V}(hx:yY x=true)(rx:zi K H x u):∀{ys:List D}{vs:List V},Reps K H ys vs->ys.all yY=true->vs.all uI=true/\QB u vs=ys.any λy=>yW y x
 | [],_,r,_=>by cases(show _=[]from r); exact⟨rfl,rfl⟩
 |y::ys,_,r,h=>by
  obtain⟨v,r',rfl,hv,hr⟩:=r;rw[vA,xL]at h;obtain⟨a,b⟩:=WF hx rx hr h.2;refine⟨by rw[vA,gP h.1 hv,a]; rfl,?_⟩;show(vS v u||QB u r')=(yW y x||_);rw[ZM h.1 hx hv rx,b]
theorem Fq{neg:Bool}{H:Hp}{x y:D}{u v:V}{k:Bool}{Q:VK}(rx:zi K H x u)(ry:zi K H y v)(hf:pA x y=some k)(q:Q (.bl (if neg then !k else k)) H):WC K neg u v H Q:=by
 cases y with
 |lst ys=>
  obtain⟨a,vs,rfl,sq,rs,_⟩:=ry
  change (match yY x&&ys.all yY with|true=>some (ys.any λy=>yW y x)|false=>none)=some k at hf
  cases c:(yY x&&ys.all yY)with
  |false=>rw[c]at hf; cases hf
  |true=>
   rw[c]at hf;cases hf;rw[xL]at c;obtain⟨c1,c2⟩:=WF c.1 rx rs c.2;exact .inl ⟨a,vs,rfl,.inl sq,gP c.1 rx,c1,by rw[c2]; exact q⟩
 |tup ys=>
  obtain⟨a,vs,rfl,sq,rs,_⟩:=ry
  change (match yY x&&ys.all yY with|true=>some (ys.any λy=>yW y x)|false=>none)=some k at hf
  cases c:(yY x&&ys.all yY)with
  |false=>rw[c]at hf; cases hf
  |true=>
   rw[c]at hf;cases hf;rw[xL]at c;obtain⟨c1,c2⟩:=WF c.1 rx rs c.2;exact .inl ⟨a,vs,rfl,.inr sq,gP c.1 rx,c1,by rw[c2]; exact q⟩
 |str j=>
  cases x<;>first|(cases hf; done)|skip
  rename_i i;cases hf;exact .inr (.inl ⟨i,j,(show u=_/\_ from rx).1,(show v=_/\_ from ry).1,q⟩)
 |dic ks ds=>
  obtain⟨kk,hk,hf⟩:=zU hf;cases hf;obtain⟨a,vs,rfl,sq,l,rs,_⟩:=ry;refine .inr (.inr ⟨a,_,kk,rfl,Z4 hk rx,sq,?_⟩);rw[Vd kk l,Fe kk l];exact q
 |_=>cases hf
theorem uO:qX K (WC K false) xD:=λH x y u v d Q rx ry hf=>by
 obtain⟨k,hk,hf⟩:=zU hf;cases hf;exact⟨_,rfl,λq=>Fq rx ry hk q⟩
theorem Lq:qX K (WC K true) kr:=λH x y u v d Q rx ry hf=>by
 obtain⟨k,hk,hf⟩:=zU hf;cases hf;exact⟨_,rfl,λq=>Fq rx ry hk q⟩
theorem MZ{pos:Pos}:SF X (.Dict [] [] pos) (eC (.dic [] [])):=⟨⟨_,bT,λ{G0 H0 G H τ σ d Q} E hf q p hp=>by
 cases hf;exact q p G _ (zZ.uZ E.ext.gh hp) hp (E.ext.gh.free hp) ⟨[],yT,rfl,rfl,uu _⟩⟩⟩
theorem Q_{i:Nat}{x:Str}{xp pos pos':Pos}{k v:Expr}{fk fv:FE}(hu:X.A.units+1<cLine)(ho:QE X (.Name x xp) (jP i))(hk:SE X k fk)(hv:SE X v fv)(hs:swapsWith v (some (.Subscript (.Name x xp) k pos')) pos.line X.env=pure false:=by rfl) :
  SS X (.Assign [.Subscript (.Name x xp) k pos'] v pos) (pL i fk fv):=by
 obtain⟨tk,pk,kk⟩:=hk.h;obtain⟨tv,pv,kv⟩:=hv.h;refine⟨⟨_,cV hu ho.h pk pv hs,λ{G0 H0 G H τ σ fl E} K hf q=>?_⟩⟩;obtain⟨y,hy,hf⟩:=zU hf;refine kv K hy λw G1 H1 x1 r1=>?_
 split at hf
 ·rename_i ks ds hd;obtain⟨xk,hx,hf⟩:=zU hf;obtain⟨key,hkey,hf⟩:=zU hf;by_cases c:ks.length<yb
  ·rw[zP c]at hf;cases hf;have K1:=K.go x1;obtain⟨a,ea,g,z,vs,ev,l,rs,hl⟩:=K1.ow _ _ hd;refine⟨_,ea,kk K1 hx λu G2 H2 x2 r2=>⟨a,_,rfl,.inl ⟨_,key,x2.h _ _ ev,Z4 hkey r2,?_,rfl⟩,?_⟩⟩
   ·rw[tQ,l,tS,wR,<-l]; exact c
   ·refine q _ _ _ ((K1.go x2).U3 hd ea ⟨w6 ks vs key w,?_,ZK l,(rs.mono x2.g).put (r1.mono x2.g),?_⟩)
    ·rw[yT,K7 l]
    ·have h1:=G8 (ks:=ks) (vs:=ds) (k:=key) (v:=y) (by rw[l,rs.length]);have h2:ds.length<16777216:=by rw[<-rs.length,<-l]; exact c
     rw[wR];omega
  ·rw[zS c]at hf;cases hf
 ·cases hf
def wH(K:W.Frag)(w:World)(a:Addr)(ks:List zM)(ds:List D):Prop:=
 ∃us:List V,ks.length=us.length/\(a==sysModules)=false/\(∀H,Reps K H ds us)/\∀(P:Program)(h:Heap),K.In h->∃vs,KV (ks.zip us) vs/\h.DictOf (yd P w) a vs
inductive qt(w:World):List DictEntry->List Str->List Value->Prop
 |nil:qt w [] [] []
 |cons {x:Str} {t:Tok} {v:Value} {es:List DictEntry} {xs:List Str} {vs:List Value} (r:qt w es xs vs):qt w (⟨PyData.keyHash w.params x,.str x t,v⟩::es) (x::xs) (v::vs)
theorem qt.pairs{w:World}{P:Program}:∀{es:List DictEntry}{xs:List Str}{vs:List Value},qt w es xs vs->Pairs (yd P w) es ((xs.map Sum.inr).zip vs)/\(∀e∈es,∃k,(yd P w).is k e.key=true/\e.hash=(yd P w).hash k)
 |_,_,_,.nil=>⟨.nil,λe h=>absurd h (by simp)⟩
 |_,_,_,.cons (x:=x) (t:=t) r=>by
  obtain⟨a,b⟩:=qt.pairs (P:=P) r;refine⟨.cons (Lb P w x t) rfl a,λe h=>?_⟩;rcases yV.mp h with rfl|h
  ·exact⟨.inr x,Lb P w x t,rfl⟩
  ·exact b e h
theorem qt.len{w:World}:∀{es:List DictEntry}{xs:List Str}{vs:List Value},qt w es xs vs->xs.length=vs.length
 |_,_,_,.nil=>rfl
 |_,_,_,.cons r=>by rw[xf,xf,r.len]
theorem LH:∀{ks:List zM}{us:List V}{vs:List Value},zu us vs->ks.length=us.length->KV (ks.zip us) (ks.zip vs)
 | [],_,_,.nil,_=>.nil
 |k::ks,_,_,.cons r t,h=>.cons ⟨rfl,r⟩ (LH t (by simpa using h))
theorem B5:∀{ks:List zM}{vs:List Value},ks.length=vs.length->(ks.zip vs).map (·.1)=ks
 | [],[],_=>rfl
 |k::ks,v::vs,h=>by rw[Vn,xw,B5 (by simpa using h)]
theorem YR{w:World}{a:Addr}{es:List DictEntry}{n:Nat}{xs:List Str}{vs:List Value}{us:List V}{ds:List D}(l:K.lookup a=some { cls:=.type "dict",data:=.dict es.toArray n })(e:qt w es xs vs)(nd:xs.Nodup)(hs:(a==sysModules)=false)(r:zu us vs)(rd:∀H,Reps K H ds us) :
  wH K w a (xs.map .inr) ds:=by
 have hl:(xs.map Sum.inr:List zM).length=us.length:=by rw[zr,e.len,r.length]
 refine⟨us,hl,hs,rd,λP h KI=>⟨_,LH r hl,?_⟩⟩;obtain⟨p,q⟩:=e.pairs (P:=P);refine⟨_,_,_,KI _ _ l,⟨rfl,rfl,rfl⟩,rfl,λe he=>q e (by simpa using he),p,?_⟩;rw[B5 (by rw[zr]; exact e.len)];exact BF _ (λa b h z=>h (Jn z)) nd
theorem Pi{A:Addr}{ks:List zM}{ds:List D}(g:wH X.K X.w A ks ds):u_ X (λx y H Q=>x=.ref A/\∃k,y=kV k/\∃d,getK ks ds k=some d/\∀v,(∀H,∃H',yU H H'/\True)->(∀H,zi X.K H d v)->Q v H):=by
 intro value slice z6 s σ H x y v u Q I rx ry h hs;obtain⟨rfl,k,rfl,d,hd,q⟩:=h;cases rx;obtain⟨us,hl,hsys,rd,mk⟩:=g;obtain⟨vs,rel,dd⟩:=mk X.prog s.heap I.uw;obtain⟨z,hz,_⟩:=(rd H).getK hd
 have rz:∀H,zi X.K H d z:=λH'=>by
  obtain⟨z',hz',r'⟩:=(rd H').getK hd;rw[hz]at hz';cases hz';exact r'
 obtain⟨w',hw,rw'⟩:=p4.some_of (v:=z) (o:=valueAt vs k) (by rw[<-hz,<-Vd k hl]; exact rel.val k)
 exact Jq (x:=w') dd.typeIs PySem.F.slot_dict_getitem.lookup
  (wpAny_getItem_of (Q:=λr s'=>r=w'/\EP X z6 σ Q r s') (jE ry) dd.mapOf hw ⟨rfl,z,H,I.tok _,rw',q z (λH=>⟨H,yU.refl H,trivial⟩) rz⟩) hs
theorem uo{A:Addr}{ks:List zM}{ds:List D}{x:Str}{p pos:Pos}{b:Expr}{fb:FE}(h:yf X.mg x (.ref A))(g:wH X.K X.w A ks ds)(hg:Gl X x)(hb:SE X b fb)(hs:Yq b=true:=by rfl)(hd:(x==("__debug__" : Str))=false:=by decide) :
  SE X (.Subscript (.Name x p) b pos) (e1 (xN ks ds) fb):=by
 obtain⟨tb,pb,kb⟩:=hb.h;refine⟨⟨_,Lw (Pi g) (W6 h hg hd) pb (Lz hs),λ{G0 H0 G H τ σ d Q} E hf q=>?_⟩⟩;obtain⟨y,hy,hf⟩:=zU hf;obtain⟨k,hk,hf⟩:=zU hf;exact kb E hy λu G2 H2 x2 r2=>⟨rfl,k,Z4 hk r2,d,hf,λv _ rv=>q v _ _ x2 (rv _)⟩
end
def qk:D->Option (List D)
 |.lst xs=>some xs
 |.tup xs=>some xs
 |_=>none
def jB(a b:FE):FA:=λσ=>(a σ).bind λx=>(b σ).bind λy=>(qk x).bind λxs=>(qk y).bind λys=>some (List.zipWith (λx y=>D.tup [x,y]) xs ys)
section
variable{K:W.Frag}{G H:Hp}
theorem G_{x:D}{xs:List D}{u:V}(h:qk x=some xs)(r:zi K G x u):∃t a vs,u=.ref a/\vz K t G a vs/\Reps K G xs vs/\xs.length<=sizeLine:=by
 cases x<;>first|(cases h; done)|skip
 ·cases h;obtain⟨a,vs,rfl,sq,rs,l⟩:=r;exact⟨true,a,vs,rfl,sq,rs,l⟩
 ·cases h;obtain⟨a,vs,rfl,sq,rs,l⟩:=r;exact⟨false,a,vs,rfl,sq,rs,l⟩
theorem gU{H':Hp}{t:Bool}{a:Addr}{vs:List V}(s:yU H H')(h:vz K t H a vs):vz K t H' a vs:=by
 cases t
 ·exact wM s h
 ·exact vp s h
theorem z0f{t1 t2:Bool}{a b:Addr}{vs us:List V}{xs ys:List D}(s1:vz K t1 G a vs)(s2:vz K t2 G b us)(r1:Reps K G xs vs)(r2:Reps K G ys us):t4 K (IS K t1 t2 a b) G (List.zipWith (λx y=>D.tup [x,y]) xs ys) where
 go:=λi G2 H g1 g2 hi=>by
  rw[gt]at hi;obtain⟨v,e1,_⟩:=r1.get (yF (show i<xs.length by omega));obtain⟨u,e2,_⟩:=r2.get (yF (show i<ys.length by omega));exact⟨vs,us,v,u,gU (g1.trans g2) s1,gU (g1.trans g2) s2,e1,e2⟩
 vE:=λi G2 H x H' g1 g2 hi y=>by
  obtain⟨p,hp,rfl,k⟩:=y;obtain⟨v,u,e1,e2,rfl⟩:=k vs us (gU (g1.trans g2) s1) (gU (g1.trans g2) s2);obtain⟨d1,f1,q1⟩:=r1.at e1;obtain⟨d2,f2,q2⟩:=r2.at e2;refine⟨zb G2 p (.tup [v,u]),.tup [d1,d2],zZ.lay g2 hp,by rw[Jh,f1,f2],?_⟩;have sm:yU G (zb G2 p (.tup [v,u])):=g1.trans (wf (g2.free hp) _);exact⟨p,[v,u],rfl,yq.of yT,⟨v,_,rfl,q1.mono sm,⟨u,_,rfl,q2.mono sm,rfl⟩⟩,small (n:=2) (by decide)⟩
 stop:=λi G2 H g1 g2 hi=>by
  rw[gt]at hi;refine⟨vs,us,gU (g1.trans g2) s1,gU (g1.trans g2) s2,?_⟩;rw[r1.length,r2.length];omega
end
section
variable{X:Cx}{a b e o:Expr}{fa fb f:FE}{p pos apos cpos:Pos}
theorem iV{elts:List Expr}{kk:Nat}{tp:Pos}(hg:Gl X "zip")(hm:X.mg "zip" = none)(ha:SE X a fa)(hb:SE X b fb)(hs:xX a=true:=by rfl)(hs2:xX b=true:=by rfl):SI X (.Tuple elts kk tp) (.Call (.Name "zip" p) [a,b] [] pos) (jB fa fb):=by
 obtain⟨t,pt,k⟩:=(zC ha (zC hb zN hs2) hs).h;refine⟨⟨_,(d7 hg hm ⟨pt⟩ hs hs2).h,λ{G0 H0 G H τ σ ds R} K hf q=>?_⟩⟩;obtain⟨x,hx,hf⟩:=zU hf;obtain⟨y,hy,hf⟩:=zU hf;obtain⟨xs,hxs,hf⟩:=zU hf;obtain⟨ys,hys,hf⟩:=zU hf;cases hf;refine k K (ds:=[x,y]) (by unfold zB; rw[hx,hy]; rfl) λvs G1 H1 x1 r1=>?_
 obtain⟨v,r,rfl,hv,⟨v2,r2,rfl,hv2,hr⟩⟩:=r1;cases(show r2=[]from hr);obtain⟨t1,a1,vs1,rfl,s1,q1,l1⟩:=G_ hxs hv;obtain⟨t2,a2,vs2,rfl,s2,q2,l2⟩:=G_ hys hv2;refine⟨a1,a2,vs1,vs2,t1,t2,rfl,gU x1.gh s1,gU x1.gh s2,q _ _ _ x1 ?_ (z0f s1 s2 q1 q2)⟩;rw[gt];omega
abbrev FO:=y4->Option (Option Int)
def uL:FO:=λ_=>some none
def uM(f:FE):FO:=λσ=>(f σ).bind λd=>match d with
 |.int i=>some (some i)
 |_=>none
def p8{α:Type}(xs:List α)(lo hi:Option Int):List α:=(xs.drop (HT.sIx xs.length 0 lo)).take (HT.sIx xs.length xs.length hi-HT.sIx xs.length 0 lo)
def Tr(d:D)(lo hi:Option Int):Option D:=match d with
 |.lst xs=>some (.lst (p8 xs lo hi))
 |.tup xs=>if HT.sIx xs.length 0 lo=0/\HT.sIx xs.length xs.length hi=xs.length then none else some (.tup (p8 xs lo hi))
 |.str z=>some (.str (cutS z lo hi))
 |_=>none
def kq(a:FE)(lo hi:FO):FE:=λσ=>(a σ).bind λd=>(lo σ).bind λl=>(hi σ).bind λh=>Tr d l h
structure SO(X:Cx)(e:Option Expr)(f:FO):Prop where
 h:∃t,PO X e t/\∀{G0 H0 G H:Hp}{τ:y4}{σ:St}{d:Option Int}{Q:Option Int->Hp->Prop},zz X.K X.N.length G0 H0 G H τ σ->f τ=some d->(∀G' H',zZ G H G' H'->Q d H')->t σ H Q
theorem Qw:SO X none uL:=⟨⟨_,cQ,λE hf q=>by cases hf; exact q _ _ (zZ.refl E.ext.gh)⟩⟩
theorem Qx(h:SE X e f):SO X (some e) (uM f):=by
 obtain⟨t,pt,k⟩:=h.h;refine⟨⟨_,cR pt,λ{G0 H0 G H τ σ d Q} E hf q=>?_⟩⟩;obtain⟨x,hx,hf⟩:=zU hf;cases x<;>first|(cases hf; done)|skip
 cases hf;exact k E hx λv G' H' x r=>⟨_,r,q _ _ x⟩
theorem Reps.cut{K:W.Frag}{G:Hp}{ds:List D}{vs:List V}(r:Reps K G ds vs)(lo hi:Option Int):Reps K G (p8 ds lo hi) (g6 vs lo hi):=by
 unfold p8 g6;rw[r.length];exact(r.drop _).take _
theorem Th{α:Type}(xs:List α)(lo hi:Option Int):(p8 xs lo hi).length<=xs.length:=by
 unfold p8;rw[jY,Zd];omega
def dH(K:W.Frag):V->Option Int->Option Int->Hp->VK->Prop:=λx lo hi H Q=>GQ K x lo hi H Q\/GS K x lo hi H Q\/GR x lo hi H Q
theorem HG:p5 X (dH X.K):=lI.or (lK.or lJ)
theorem MW{lo hi:Option Expr}{fl fh:FO}{p2:Pos}(ha:SE X a fa)(hl:SO X lo fl)(hh:SO X hi fh):SE X (.Subscript a (.Slice lo hi none p2) pos) (kq fa fl fh):=by
 obtain⟨ta,pa,ka⟩:=ha.h;obtain⟨tl,pl,kl⟩:=hl.h;obtain⟨th,ph,kh⟩:=hh.h;refine⟨⟨_,Ek HG pa pl ph,λ{G0 H0 G H τ σ d Q} E hf q=>?_⟩⟩;obtain⟨x,hx,hf⟩:=zU hf;obtain⟨l,hl,hf⟩:=zU hf;obtain⟨h,hh,hf⟩:=zU hf;refine ka E hx λv G1 H1 x1 r1=>kl (E.go x1) hl λG2 H2 x2=>kh ((E.go x1).go x2) hh λG3 H3 x3=>?_
 have xx:=x1.trans (x2.trans x3);have r3:=r1.mono (x2.g.trans x3.g);cases x with
 |lst xs=>
  cases hf;obtain⟨a,vs,rfl,sq,rs,ll⟩:=r3;refine .inl ⟨a,vs,rfl,wM x3.gh sq,λp hp=>q _ _ _ (xx.trans (zZ.lay x3.gh hp)) ⟨p,_,rfl,yP.of yT,(rs.cut l h).mono (wf (x3.gh.free hp) _),xj (Th ..) ll⟩⟩
 |tup xs=>
  change (if HT.sIx xs.length 0 l=0/\HT.sIx xs.length xs.length h=xs.length then none else some (D.tup (p8 xs l h)))=some d at hf
  by_cases c:HT.sIx xs.length 0 l=0/\HT.sIx xs.length xs.length h=xs.length
  ·rw[zP c]at hf;cases hf
  ·rw[zS c]at hf;cases hf;obtain⟨a,vs,rfl,sq,rs,ll⟩:=r3;refine .inr (.inl ⟨a,vs,rfl,vp x3.gh sq,by rw[rs.length]; exact c,λp hp=>?_⟩);exact q _ _ _ (xx.trans (zZ.lay x3.gh hp)) ⟨p,_,rfl,yq.of yT,(rs.cut l h).mono (wf (x3.gh.free hp) _),xj (Th ..) ll⟩
 |str z=>
  cases hf;obtain⟨rfl,ll⟩:=r3;exact .inr (.inr ⟨z,rfl,ll,q _ _ _ xx ⟨rfl,xj (cut_len ..) ll⟩⟩)
 |_=>cases hf
def O9:List D->Option D
 | [.lst xs]=>some (.tup xs)
 | [.tup xs]=>some (.tup xs)
 |_=>none
theorem gQ{K:W.Frag}{G:Hp}{d:D}{vs:List V}(r:Reps K G [d] vs):∃v,vs=[v]/\zi K G d v:=by
 obtain⟨v,r',rfl,hv,hr⟩:=r;cases(show r'=[]from hr);exact⟨v,rfl,hv⟩
theorem ak{K:W.Frag}:B_ K (λxs H Q=>∃p ys,xs=[.ref p]/\((yP K H p ys/\∀l,H l=none->Q (.ref l) (zb H l (.tup ys)))\/(yq K H p ys/\Q (.ref p) H))) O9:=λG H ds vs d Q s r hf q=>by
 match ds,hf with
 | [.lst xs],hf=>
  cases hf;obtain⟨v,rfl,a,us,rfl,sq,rs,l⟩:=gQ r;exact⟨a,us,rfl,.inl ⟨wM s sq,λp hp=>q _ _ _ (zZ.lay s hp) ⟨p,us,rfl,yq.of yT,rs.mono (wf (s.free hp) _),l⟩⟩⟩
 | [.tup xs],hf=>
  cases hf;obtain⟨v,rfl,a,us,rfl,sq,rs,l⟩:=gQ r;exact⟨a,us,rfl,.inr ⟨vp s sq,q _ _ _ (zZ.refl s) ⟨a,us,rfl,sq,rs,l⟩⟩⟩
def Yj(x:D):List D->Nat->Option Nat
 | [],_=>none
 |y::ys,n=>match yW y x with
  |true=>some n
  |false=>Yj x ys (n+1)
def qD:D->D->Option D
 |.lst ys,x=>match yY x&&ys.all yY with
  |true=>(Yj x ys 0).bind λn=>some (.int n)
  |false=>none
 |_,_=>none
theorem L7{x:D}:∀{ys:List D}{n m:Nat},Yj x ys n=some m->∃j y,m=n+j/\ys[j]?=some y/\yW y x=true/\∀i z,i<j->ys[i]?=some z->yW z x=false
 | [],_,_,h=>by cases h
 |y::ys,n,m,h=>by
  change (match yW y x with|true=>some n|false=>Yj x ys (n+1))=some m at h
  cases c:yW y x with
  |true=>
   rw[c]at h;cases h;exact⟨0,y,rfl,rfl,c,λi z hi=>absurd hi (Nat.not_lt_zero _)⟩
  |false=>
   rw[c]at h;obtain⟨j,y',e1,e2,e3,e4⟩:=L7 h;refine⟨j+1,y',by omega,by simpa using e2,e3,λi z hi ez=>?_⟩;cases i with
   |zero=>cases ez; exact c
   |succ i=>exact e4 i z (by omega) (by simpa using ez)
theorem Sw:XQ X "list.index" (λx vs H Q=>∃(a:Addr) (us:List V) (y:V) (j:Nat) (u:V),x=.ref a/\vs=[y]/\yP X.K H a us/\uI y=true/\us.all uI=true/\us[j]?=some u/\vS u y=true/\(∀i z,i<j->us[i]?=some z->vS z y=false)/\Q (.int (j:Int)) H):=by
 intro z6 s σ H x xs v us' Q I rx rs h;obtain⟨a,us,y,j,u,rfl,rfl,sq,fy,fu,eu,hit,no,q⟩:=h;cases rx;obtain⟨w,rfl,ry⟩:=vY rs;obtain⟨its,r,⟨⟨c1,d1,t1,sl1⟩,n1,ho,hc,hd,ht⟩,hz⟩:=I.list sq;simp only at hc ht;subst hc ht;have hl:=r.length;have hj:j<us.length:=(yx.mp eu).1
 have key:∀(i:Nat)(z:V)(hi:i<its.toArray.size),us[i]?=some z->vH y its.toArray[i]=vS z y:=λi z hi ez=>by
  obtain⟨t,et,rt⟩:=r.get ez
  have e:its.toArray[i]=t:=by
   have h2:its[i]?=some its[i]:=yF (by rw[yg]at hi; exact hi);rw[h2]at et;simpa using et
  rw[e];exact Tm rt (vB.mp fu z (qT ez))
 have hjs:j<its.toArray.size:=by rw[yg,<-hl]; exact hj
 have hsz:=Z8;refine Vr PySem.F.slot_list_index ⟨_,ho,rfl⟩ PySem.F.entry_list_index (PySem.F.args_list_index_2 _ _) (SeqAt.list_indexAt a its.toArray n1 d1 sl1 w (vH y) j hjs (by omega) (by rw[key j u hjs eu]; exact hit) λm hm hlt=>?_) ⟨ho,λt ht=>?_,⟨.int j,H,I.tok _,⟨_,rfl⟩,q⟩⟩
 ·have hm':m<us.length:=by rw[yg,<-hl]at hm; exact hm
  rw[key m us[m] hm (yF hm')];exact no m _ hlt (yF hm')
 ·exact Z9 ry fy r fu t (by simpa using ht)
theorem MT{fo:FE}(ho:SE X o fo)(he:SE X e f)(hbase:attributeBase o "index" X.env (eval o X.env)=eval o X.env:=by rfl)(hline:(apos.endLine==cpos.line)=true:=by rfl)(hs:xX e=true:=by rfl) :
  SE X (.Call (.Attribute o "index" apos) [e] [] cpos) (e2 qD fo f):=by
 obtain⟨to,po,ko⟩:=ho.h;obtain⟨te,pe,ke⟩:=(zC he zN hs).h;refine⟨⟨_,(WA PySem.F.plainAttrs_list PySem.F.slot_list_index PySem.F.type_list_index Sw ⟨po⟩ ⟨pe⟩ hbase hline (by rw[vA,hs]; rfl) (by show 1<30; decide)).h,λ{G0 H0 G H τ σ d Q} E hf q=>?_⟩⟩;obtain⟨x,hx,hf⟩:=zU hf;obtain⟨y,hy,hf⟩:=zU hf;refine ko E hx λv G1 H1 x1 r1=>?_
 cases x with
 |lst ys=>
  obtain⟨a,us,rfl,sq,rs,_⟩:=r1;refine⟨.inl ⟨rfl,us,wM x1.gh sq⟩,ke (E.go x1) (ds:=[y]) (by unfold zB; rw[hy]; rfl) λws G2 H2 x2 r2=>?_⟩;obtain⟨w,rfl,rw_⟩:=gQ r2
  change (match yY y&&ys.all yY with|true=>(Yj y ys 0).bind λn=>some (D.int n)|false=>none)=some d at hf
  cases c:(yY y&&ys.all yY)with
  |false=>rw[c]at hf; cases hf
  |true=>
   rw[c]at hf;obtain⟨n,hn,hf⟩:=zU hf;cases hf;rw[xL]at c;obtain⟨j,z,e1,e2,e3,e4⟩:=L7 hn;rw[xT]at e1;subst e1;have rs2:=rs.mono x2.g;obtain⟨u,eu,ru⟩:=rs2.get e2;have fl:∀{i:Nat}{z:D},ys[i]?=some z->yY z=true:=λ{i z} ez=>vB.mp c.2 z (qT ez)
   refine⟨a,us,w,n,u,rfl,rfl,wM (x1.gh.trans x2.h) sq,gP c.1 rw_,(WF c.1 rw_ rs2 c.2).1,eu,by rw[ZM (fl e2) c.1 ru rw_]; exact e3,λi z hi ez=>?_,q _ _ _ (x1.trans x2) rfl⟩;obtain⟨dz,ed,rd⟩:=rs2.at ez;rw[ZM (fl ed) c.1 rd rw_];exact e4 i dz hi ed
 |_=>cases hf
theorem Qz{i:Nat}{x:Str}{op:Operator}{ti:XV}{F:D->D->Option D}{pos':Pos}(ho:IV X op ti)(hF:vf X.K ti F)(hN:X.N.Nodup)(hi:X.N[i]?=some x)(hx:q_ X.env.scope x)(he:SE X e f)(hf:X.fn x=true\/X.env.scope.names.lookup x=some .local:=by first|exact .inl rfl|exact .inr rfl|assumption) :
  SS X (.AugAssign (.Name x pos') op e pos) (zf i (e2 F (z7 i) f)):=by
 obtain⟨t,pt,k⟩:=he.h;refine⟨⟨_,cU hN hi hx pt ho hf,λ{G0 H0 G H τ σ fl E} K hf q=>?_⟩⟩;obtain⟨d,hd,hf⟩:=zU hf;cases hf;obtain⟨x,hx,hd⟩:=zU hd;obtain⟨y,hy,hd⟩:=zU hd;obtain⟨v,ev,rv⟩:=K.fr _ _ (Dy hx);refine⟨v,ev,k K hy λu G1 H1 x1 r1=>hF G1 H1 x y v u d _ x1.gh (rv.mono x1.g) r1 hd λw G2 H2 x2 r2=>?_⟩;exact q _ _ _ (((K.go x1).go x2).set (yx.mp hi).1 r2)
theorem QZ{K:W.Frag}:vf K (Fw λi j=>i+j) (qC λi j=>i+j):=λG H x y u v d Q s rx ry hf q=>by
 cases x<;>first|(cases hf; done)|skip
 cases y<;>first|(cases hf; done)|skip
 cases hf;exact⟨_,_,rx,ry,q _ _ _ (zZ.refl s) rfl⟩
variable{x:Str}{ps:List Str}{j k:Nat}{FF:List D->Option (Bool×D)}
theorem i8(h:zR X.prog X.w X.K X.mg X.base x ps k (zT X.K FF))(hr:xy j X.A)(hg:Gl X x)(hk:k<=j:=by decide)(hdb:(x==("__debug__" : Str))=false:=by decide):SE X (.Call (.Name x p) [] [] pos) (ze FF zG):=by
 obtain⟨f,fd,hm,kp,b,F⟩:=h;refine⟨⟨_,bO F (hr.mono hk) hg hm kp b .nil Ef hdb,λ{G0 H0 G H τ σ d Q} E hf q=>?_⟩⟩;obtain⟨ds,hd,hf⟩:=zU hf;cases hd;obtain⟨⟨o,d⟩,hr,hf⟩:=zU hf;cases hf;refine⟨G,[],o,d,E.ext.gh,rfl,hr,?_⟩;cases o with
 |false=>exact λv G' H' x2 r=>q v G' H' x2 r
 |true=>
  intro p G' H' x2 hp gp o;obtain⟨u,hu,r⟩:=o.y1 gp;exact q _ _ _ (x2.y1 hp gp hu) r
end
def FR(n N:Nat)(b:FS)(ds:List D):Option (Bool×D):=if ds.length=n then zd N b ds else none
theorem yM{n N:Nat}{b:FS}:∀ds r,FR n N b ds=some r->ds.length=n/\zd N b ds=some r:=λds r h=>by
 unfold FR at h
 split at h
 ·rename_i c;exact⟨c,h⟩
 ·cases h
theorem Hf{M:Model}{A:Around}{E:Value->Shared->Prop}{zF:Array Value}{x:Value}{e:Value->Bool}{j:Nat}(hM:∃prog w,M=model prog w)(hj:j<zF.size)(hit:e zF[j]=true)(no:∀m (hm:m<zF.size),m<j->e zF[m]=false){s:Shared}
  (he:∀y∈zF,SeqAt.EqAt A s y x (e y)){Q:Option PySem.Fin×Unit->Shared->Prop}(h:Q (some (.done (.ret (.int j s.toks))),()) { s with toks:=s.toks+1 }):∀m i:Nat,i+m=zF.size->i<=j->
  wpAny M A (forIn (List.range' i m) ((none,()):Option PySem.Fin×Unit) λ(i:Nat) (_:Option PySem.Fin×Unit)=>match zF[i]? with
   |some y=>do
    let __do_lift <-eqBool y x
    if __do_lift=true then do
      let __do_lift <-retInt (i:Int)
      pure (ForInStep.done (some __do_lift,()))
     else pure (ForInStep.yield (none,()))
   |_=>pure (ForInStep.yield (none,()))) Q E s
 |0,i,h1,h2=>by omega
 |m+1,i,h1,h2=>by
  obtain⟨prog,w,rfl⟩:=hM;have hi:i<zF.size:=by omega
  rw[List.range'_succ,BN];refine zD ?_;rw[gi hi];refine zD (he _ (Array.getElem_mem hi) prog w E _ ?_);by_cases c:i=j
  ·subst c;rw[hit,zP rfl]
   wp_walk
   exact h
  ·rw[no i hi (by omega),zS (by decide)];refine zV ?_;exact Hf ⟨prog,w,rfl⟩ hj hit no he h m (i+1) (by omega) (by omega)
theorem o9(t:Addr)(zF:Array Value)(x:Value)(e:Value->Bool)(j:Nat)(hj:j<zF.size)(hit:e zF[j]=true)(no:∀m (hm:m<zF.size),m<j->e zF[m]=false) :
  Meets (Builtin.«tuple.index» ⟨[.ref t,x],[]⟩) (λA R s=>IsTup s.heap t zF/\(∀y∈zF,SeqAt.EqAt A.in1 s y x (e y))/\R (.ok (.ret (.int j s.toks))) { s with toks:=s.toks+1 }):=by
 intro prog w A R s h;obtain⟨hp,g,d,tk,os⟩:=s;obtain⟨⟨o,ho,hc,n,hd⟩,he,h⟩:=h;unfold Builtin.«tuple.index»
 wp_walk
 skip
 rw[hd];refine zV (zV ?_);show wpAny _ _ (pure 0 >>= _) _ _ _;refine zD (zV (zD (zV (zD ?_))));rw[Std.Legacy.Range.forIn_eq_forIn_range'];have hs:Std.Legacy.Range.size [0:min zF.size zF.size]=zF.size:=by simp[Std.Legacy.Range.size]
 rw[hs];refine Hf ⟨prog,w,rfl⟩ hj hit no he ?_ zF.size 0 (by omega) (by omega);exact zV h
section
variable{X:Cx}{e o k v:Expr}{f fo fk fv:FE}{x:Str}{xp p pos apos cpos:Pos}
theorem Sx:XQ X "tuple.index" (λx vs H Q=>∃(a:Addr) (us:List V) (y:V) (j:Nat) (u:V),x=.ref a/\vs=[y]/\yq X.K H a us/\uI y=true/\us.all uI=true/\us[j]?=some u/\vS u y=true/\(∀i z,i<j->us[i]?=some z->vS z y=false)/\Q (.int (j:Int)) H):=by
 intro z6 s σ H x xs v us' Q I rx rs h;obtain⟨a,us,y,j,u,rfl,rfl,sq,fy,fu,eu,hit,no,q⟩:=h;cases rx;obtain⟨w,rfl,ry⟩:=vY rs;obtain⟨its,r,pt,hz⟩:=I.tuple sq;have hl:=r.length;have hj:j<us.length:=(yx.mp eu).1
 have key:∀(i:Nat)(z:V)(hi:i<its.toArray.size),us[i]?=some z->vH y its.toArray[i]=vS z y:=λi z hi ez=>by
  obtain⟨t,et,rt⟩:=r.get ez
  have e:its.toArray[i]=t:=by
   have h2:its[i]?=some its[i]:=yF (by rw[yg]at hi; exact hi);rw[h2]at et;simpa using et
  rw[e];exact Tm rt (vB.mp fu z (qT ez))
 have hjs:j<its.toArray.size:=by rw[yg,<-hl]; exact hj
 refine Vr PySem.F.slot_tuple_index pt.typeIs PySem.F.entry_tuple_index (PySem.F.args_tuple_index_2 _ _) (o9 a its.toArray w (vH y) j hjs (by rw[key j u hjs eu]; exact hit) λm hm hlt=>?_) ⟨pt,λt ht=>?_,⟨.int j,H,I.tok _,⟨_,rfl⟩,q⟩⟩
 ·have hm':m<us.length:=by rw[yg,<-hl]at hm; exact hm
  rw[key m us[m] hm (yF hm')];exact no m _ hlt (yF hm')
 ·exact Z9 ry fy r fu t (by simpa using ht)
def Uf(K:W.Frag)(A:Addr):Prop:=∃o,K.lookup A=some o/\o.cls=.type "tuple" /\ o.dict=none
def Xi(ds:List D)(y:D):Option D:=qD (.lst ds) y
theorem iB{A:Addr}{ds:List D}(h:yf X.mg x (.ref A))(r:∀H,zi X.K H (.tup ds) (.ref A))(kt:Uf X.K A)(hg:Gl X x)(he:SE X e f)(hd:(x==("__debug__" : Str))=false:=by decide)
  (hbase:attributeBase (.Name x xp) "index" X.env (eval (.Name x xp) X.env)=eval (.Name x xp) X.env:=by rfl)(hline:(apos.endLine==cpos.line)=true:=by rfl)(hs:xX e=true:=by rfl) :
  SE X (.Call (.Attribute (.Name x xp) "index" apos) [e] [] cpos) (e1 (Xi ds) f):=by
 obtain⟨te,pe,ke⟩:=(zC he zN hs).h;refine⟨⟨_,(WA PySem.F.plainAttrs_tuple PySem.F.slot_tuple_index PySem.F.type_tuple_index Sx (c_ h hg hd) ⟨pe⟩ hbase hline (by rw[vA,hs]; rfl) (by show 1<30; decide)).h,λ{G0 H0 G H τ σ d Q} E hf q=>?_⟩⟩;obtain⟨y,hy,hf⟩:=zU hf;refine⟨.inr (.inl ⟨rfl,kt⟩),ke E (ds:=[y]) (by unfold zB; rw[hy]; rfl) λws G2 H2 x2 r2=>?_⟩;obtain⟨w,rfl,rw_⟩:=gQ r2;obtain⟨a,us,ea,sq,rs,_⟩:=r G2;cases ea
 change (match yY y&&ds.all yY with|true=>(Yj y ds 0).bind λn=>some (D.int n)|false=>none)=some d at hf
 cases c:(yY y&&ds.all yY)with
 |false=>rw[c]at hf; cases hf
 |true=>
  rw[c]at hf;obtain⟨n,hn,hf⟩:=zU hf;cases hf;rw[xL]at c;obtain⟨j,z,e1,e2,e3,e4⟩:=L7 hn;rw[xT]at e1;subst e1;obtain⟨u,eu,ru⟩:=rs.get e2;have fl:∀{i:Nat}{z:D},ds[i]?=some z->yY z=true:=λ{i z} ez=>vB.mp c.2 z (qT ez)
  refine⟨A,us,w,n,u,rfl,rfl,vp x2.gh sq,gP c.1 rw_,(WF c.1 rw_ rs c.2).1,eu,by rw[ZM (fl e2) c.1 ru rw_]; exact e3,λi z hi ez=>?_,q _ _ _ x2 rfl⟩;obtain⟨dz,ed,rd⟩:=rs.at ez;rw[ZM (fl ed) c.1 rd rw_];exact e4 i dz hi ed
def kj(i:Int):Nat:=Builtin.Int.intBits i
end
open PySem.W
theorem Hw:∀{ns:List Int}{m:Int},m∈ns->kj m<=WData.weightAll (ns.map WData.int)
 | [],_,h=>by cases h
 |n::ns,m,h=>by
  have e:WData.weightAll ((n::ns).map WData.int)=kj n+1+WData.weightAll (ns.map WData.int):=by
   show WData.weightAll (WData.int n::ns.map WData.int)=_;rw[WData.weightAll];rfl
  rw[e];rcases yV.mp h with rfl|h
  ·omega
  ·have:=Hw h;omega
theorem Sh{ns:List Int}(h:WData.layableAll [.list (ns.map WData.int)]=true):∀m∈ns,kj m<=1048576:=λm hm=>by
 have h1:WData.layable (.list (ns.map WData.int))=true:=vB.mp h _ (w_.mpr rfl);unfold WData.layable at h1;rw[xL]at h1;have h2:WData.weight (.list (ns.map WData.int))<=2 ^ 20:=v3 h1.2;have h3:=Hw hm;have h4:WData.weight (.list (ns.map WData.int))=WData.weightAll (ns.map WData.int):=by rw[WData.weight]
 omega
section
variable{P:Program}{w:World}{K:W.Frag}{mg:Str->Option Value}{base:Heap}
def VX(K:W.Frag):Sp:=λvs H Q _=>∃(a:Addr) (ns:List Int),vs=[.ref a]/\yP K H a (ns.map V.int)/\ns.length<=63/\(∀m∈ns,kj m<=1048576)/\∀H',Q (.bl true) H'
theorem Sf{x:Str}{st:Stmt}{N:List Str}{k:Nat}{b:FS}{f:Addr}{fd:FuncData}(d:jw K "law" "law" st f fd)(S:y9 N [x] (zw st))(hN:1<=N.length)(hrun:∀ns:List Int,ns.length<=63->(∀m∈ns,kj m<=1048576)->∃o,zd N.length b [.lst (ns.map D.int)]=some (o,.bl true))
  (hb:∀(cdv:Value)(A:Around)(outer:List Env)(s:Shared)(H:Hp)(E:XK),xy k (A.deeper (envOfC "law" (zw st) s.heap.objs.size f cdv))->uf (j1 tZ P w K mg base N "law" (zw st) f cdv A outer s H E).kF (p9 st) b):tj P w K mg base tZ (k+1) f fd [x] (VX K):=by
 refine d.ok S (λvs H Q E h=>?_) λcdv A outer s H vs Q E hr h=>?_
 ·obtain⟨a,ns,rfl,_⟩:=h;rfl
 ·obtain⟨a,ns,rfl,sq,l,hbits,q⟩:=h;obtain⟨o,hrun⟩:=hrun ns l hbits;obtain⟨t,p,kt⟩:=(hb cdv A outer s H E hr).h;obtain⟨fl,hfl,hrun⟩:=zU hrun;have r:Reps K H [.lst (ns.map D.int)] [.ref a]:=⟨_,_,rfl,⟨a,_,rfl,sq,Reps.ints,by rw[zr]; exact small (by omega)⟩,rfl⟩;refine⟨t,p,kt (FI (N:=N) (yU.refl H) r hN) hfl ?_⟩;cases fl with
  |nx τ=>cases hrun
  |rt o' d'=>
   cases hrun;cases o with
   |false=>
    intro v G H' _ r;cases(show v=.bl true from r);exact q H'
   |true=>exact λp G H' _ _ _ z=>z.elim
  |_=>cases hrun
end
theorem walkB{l:W.OpenLaw}{n k:Nat}{q:Program}{loose:List Str}{XP:(Str->Option Value)->Heap->Prop}{YP:World->Heap->Prop}{d:DefRec}{K:Params->W.Frag}{sp:W.Frag->Sp}{x:Str}
  (hn:l.most=some n)(hn2:n<=sizeLine)(hdf:d.params.defaults=[])(hr:xy k callerA)(hY:∀(w:World)(h:Heap),YP w h->(K w.params).In h)
  (F:∀(w:World)(mg:Str->Option Value)(fa:Addr)(h:Heap),(K w.params).In h->h.Ns mainGlobals mg->mg d.name=some (.ref fa)->
   ∃fd:FuncData,(∀(s:Shared)(u:Value),BindsTo s fd ⟨[u],[]⟩ [(x,u)])/\∀base:Heap,(K w.params).In base->base.Ns mainGlobals mg->tj l.prog w (K w.params) mg base tZ k fa fd [x] (sp (K w.params)))
  (hsp:∀(K:W.Frag)(H:Hp)(a:Addr)(ns:List Int),ns.length<=n->(∀m∈ns,kj m<=1048576)->yP K H a (ns.map V.int)->sp K [.ref a] H (λv _=>v=.bl true) λ_ _ _=>False) :
  W.WalkO q loose XP YP l.row.toRowW d [] (λf vs=>PySem.call f vs):=by
 intro w s0 s1 mg mb Gr Y fa o pm cd doc dV kV ho hd hcd hD hmg hg args vals as hpre hlay hrd hwl hlo;have e1:dV=.none:=Dflts.none hD hdf;have e2:kV=.none:=Dflts.noKw hD;subst e1 e2;obtain⟨a,vs,ns,rfl,rfl,hobj,hints,hlen⟩:=Att.script_of hn hpre hwl;have KX:=hY w _ Y;obtain⟨fd,hb,hF⟩:=F w mg fa _ KX Gr.T.g hmg;have main:=Se KX Gr.T.g Gr.T.b Gr.T.builtins Gr.T.nolimit hg hobj hints (xj hlen hn2) hr hF hb (λH _ hS=>hsp _ H a ns hlen (Sh hlay) hS) (λ_ _ _ z=>z);refine enter_call (Vs main λr s' hq=>?_);obtain⟨rfl,h2,h3,h4⟩:=hq;refine⟨.inl ⟨.bool true,.bool true,[],rfl,λ_=>rfl,.bool true,Att.post_true l _,λ_=>?_⟩,h2,h3,h4⟩;exact⟨List.Pairwise.nil,λ_ hm=>nomatch hm⟩
end L3
namespace L3
open PySem PySem.Spec PyProof.Rows L2
theorem Pj{prog:Program}{w:World}{A:Around}{E:Value->Shared->Prop}{s:Shared}{a:Addr}{o:Obj}{xs:Array Value}{k:Nat}{name:Str}{Q:Option Value->Shared->Prop}
  (hx:s.heap.get? a=some o)(hc:o.cls=.type "list")(hdat:o.data=.seq xs k)(hd:o.dict=none)(hmiss:typeLookup (.type "list") name=pure none)
  (hname:(["__module__", "__name__", "__qualname__", "__doc__", "__annotations__"]:List Str).contains name=false)(hA:A.handled=none)
  (h:∀h' tk,(∀b ob,s.heap.get? b=some ob->h'.get? b=some ob)->Q none { s with heap:=h',toks:=tk })(hsz:name.length+100<=sizeLine) :
  wpAny (model prog w) A (getAttr? (.ref a) name) Q E s:=by
 obtain⟨c,dct,dat,sl⟩:=o;simp only at hc hdat hd;subst hc hdat hd;obtain⟨hp,g,d,tk,os⟩:=s;have hT:∀tk',(⟨hp,g,d,tk',os⟩:Shared).TypeIs (.ref a) "list" := λ_=>⟨_,hx,rfl⟩
 have f1:=sub_AttributeError;have f3:=B9.lookup;have f4:=B9.bind (.ref a);have f5:=am_list_getattr_none;unfold getAttr? getAttrBy? getAttrBy
 repeat (any_goals (first|assumption|exact hT _|((with_reducible show wpAny _ _ (call (Value.builtin "list.__getattribute__") _ _) _ _ _); refine Vr B9 (hT _) am_entry_list_getattribute (F.args_list_getattribute_2 _ _) (meets_getattribute_miss_list a xs k sl name _ hmiss hname hsz) ⟨hx,hA,λh' tk' e hx'=>?_⟩)|wp_step))
 obtain⟨t',u',he⟩:=hx'.there;show wpAny _ _ (getattributeRaised _ _ _ _ _ _ _) _ _ _;unfold getattributeRaised
 repeat (any_goals (first|assumption|wp_step))
 exact h _ _ hx'.keeps
theorem Qi:plainId "dict.update.loop" = true:=by decide +kernel
theorem FH:entryFor table "dict.update.loop" = some Builtin.«dict.update.loop»:=entryFor_of_fast (by kernel_rfl)
theorem _root_.PySem.Heap.DictOf.IC{prog:Program}{w:World}{h h':Heap}{a:Addr}{kvs:List (zM×Value)}(hm:h.DictOf (yd prog w) a kvs)(k:∀o,h.get? a=some o->h'.get? a=some o):h'.DictOf (yd prog w) a kvs:=
 let ⟨o',es,ep,ho,r⟩:=hm; ⟨o',es,ep,k _ ho,r⟩
theorem lZ(kvs:List (zM×Value))(k:zM)(v:Value):(stored kvs k v).length<=kvs.length+1:=by
 unfold stored
 split
 ·rw[zr]; omega
 ·rw[ya]; exact zt _
def IX(h:Heap)(v:Value)(k:zM)(x:Value):Prop:=∃b key,v=.ref b/\vW k key=true/\IsTup h b #[key,x]
theorem Hl{prog:Program}{w:World}{A:Around}{R:Result->Shared->Prop}{d it l:Addr}{its:List Value}(hA:A.handled=none)(hdl:d≠l)(hdi:d≠it)(hli:l≠it) :
  ∀(kvs:List (zM×Value)) (i:Nat) (acc:List (zM×Value)) (s:Shared),s.heap.IsListIter it l i->s.heap.IsList l its.toArray->i+kvs.length=its.length->(∀j kv,kvs[j]?=some kv->∃v,its[i+j]?=some v/\IX s.heap v kv.1 kv.2)->
   s.heap.DictOf (yd prog w) d acc->acc.length+kvs.length<=sizeLine->(∀h' tk,h'.DictOf (yd prog w) d (kvs.foldl (λa kv=>stored a kv.1 kv.2) acc)->(∀b o,b≠d->b≠it->s.heap.get? b=some o->h'.get? b=some o)->R (.ok (.ret .none)) { s with heap:=h',toks:=tk })->
   wpAny (model prog w) A.in1 (Builtin.«dict.update.loop» ⟨[.ref d,.ref it,rawInt i,.none],[]⟩) (λfin s'=>match fin with|.done f=>R (.ok f) s'|.again c'=>c'.quiet=true/\codeAny (model prog w) A c' R s') (λe s'=>R (.error e) s') s
 | [],i,acc,s,st,hl,hn,hp,hd,hz,h=>by
  unfold Builtin.«dict.update.loop»;refine zD (Bn (by exact hA) st hl (by simp at hn ⊢; omega) λh' eb=>?_);show wpAny _ _ (Builtin.Dict.addKeywords d [] >>= _) _ _ _;refine zD (zV (zV ?_));exact h h' s.toks (hd.IC λo e=>eb d o hdi e) (λb o _ hb e=>eb b o hb e)
 |kv::kvs,i,acc,s,st,hl,hn,hp,hd,hz,h=>by
  obtain⟨v,hv,b,key,rfl,hk,ht⟩:=hp 0 kv rfl;unfold Builtin.«dict.update.loop»;refine zD (Bo st hl (x:=.ref b) (by simpa using hv) λh1 st1 sb=>?_);have keep1:∀c o,c≠it->s.heap.get? c=some o->h1.get? c=some o:=λc o hc e=>(sb.2 c hc).trans e
  have notIt:∀{c:Addr}{xs:Array Value},IsTup s.heap c xs->c≠it:=λ{c xs} t e=>by
   subst e;obtain⟨o,e1,c1,_⟩:=t;obtain⟨o',e2,c2,_⟩:=st;rw[e1]at e2;cases e2;rw[c1]at c2;exact absurd (Value.type.inj c2) (by decide)
  have notD:∀{c:Addr}{xs:Array Value},IsTup s.heap c xs->c≠d:=λ{c xs} t e=>by
   subst e;obtain⟨o,e1,c1,_⟩:=t;obtain⟨o',es,ep,e2,c2,_⟩:=hd;rw[e1]at e2;cases e2;have c3:=c2.1;rw[c1]at c3;exact absurd (Value.type.inj c3) (by decide)
  obtain⟨o,ho,hc,n,hdat⟩:=ht;have ho1:=keep1 b o (notIt ⟨o,ho,hc,n,hdat⟩) ho;have hd1:h1.DictOf (yd prog w) d acc:=hd.IC λo e=>keep1 d o hdi e
  refine zD (uW (zD (XF ?_)));unfold Builtin.Dict.pairItems;refine zD (kB (T := "tuple") ⟨o,ho1,hc⟩ ?_);rw[zP (by rfl)];refine zD (tV ho1 hdat (zV ?_));refine uW (wpAny_dictSet_pairs (knd:=yd prog w) (k:=kv.1) hk hd1 (λh2 hd2 sb2=>?_) (by omega));refine zV ⟨jb Qi _,pV FH ?_⟩;rw[ZZ Qi _];have keep2:∀c o,c≠d->c≠it->s.heap.get? c=some o->h2.get? c=some o:=λc o h1' h2' e=>(sb2.2 c h1').trans (keep1 c o h2' e)
  have key2:∀{c:Addr}{xs:Array Value},IsTup s.heap c xs->IsTup h2 c xs:=λ{c xs} t=>by
   have a1:=notD t;have a2:=notIt t;obtain⟨o,e1,r⟩:=t;exact⟨o,keep2 c o a1 a2 e1,r⟩
  refine Hl (its:=its) hA hdl hdi hli kvs (i+1) (stored acc kv.1 kv.2) _ ?_ ?_ (by rw[xf]at hn; omega) (λj kv' e=>?_) hd2 ?_ λh' tk hd' kp=>?_
  ·exact st1.at λo e=>(sb2.2 it (λz=>hdi z.symm)).trans e
  ·obtain⟨o,e,r⟩:=hl;exact⟨o,keep2 l o (λz=>hdl z.symm) hli e,r⟩
  ·obtain⟨v',hv',b',key',rfl,hk',ht'⟩:=hp (j+1) kv' (by simpa using e);exact⟨_,by rw[show i+1+j=i+(j+1) by omega]; exact hv',b',key',rfl,hk',key2 ht'⟩
  ·have:=lZ acc kv.1 kv.2;rw[xf]at hz;omega
  ·exact h h' tk hd' λc o h1' h2' e=>kp c o h1' h2' (keep2 c o h1' h2' e)
theorem NX{prog:Program}{w:World}{A:Around}{E:Value->Shared->Prop}{s:Shared}{l:Addr}{o:Obj}{its:List Value}{n:Nat}{kvs:List (zM×Value)}{Q:Value->Shared->Prop}(hA:A.handled=none)(ho:s.heap.get? l=some o)(hc:o.cls=.type "list")(hdd:o.dict=none)(hdat:o.data=.seq its.toArray n)
  (hn:kvs.length=its.length)(hp:∀(j:Nat)(kv:zM×Value),kvs[j]?=some kv->∃v,its[j]?=some v/\IX s.heap v kv.1 kv.2)(hz:kvs.length<=sizeLine)
  (h:∀h' tk,h'.DictOf (yd prog w) s.heap.objs.size (kvs.foldl (λa kv=>stored a kv.1 kv.2) [])->(∀b o,s.heap.get? b=some o->h'.get? b=some o)->Q (.ref s.heap.objs.size) { s with heap:=h',toks:=tk }) :
  wpAny (model prog w) A (call (.type "dict") [.ref l]) Q E s:=by
 refine callType_codes (Q₁:=λobj s₁=>obj=.ref s.heap.objs.size/\s₁={ s with heap:=s.heap.push { cls:=.type "dict",data:=.dict #[] } }) F.kt_called_dict (F.kt_typeCall_dict_1 _) F.entry_dict_init (kt_code_dict_new _ ⟨rfl,rfl⟩) ?_;rintro obj s₁ ⟨rfl,rfl⟩;have hnew:(s.heap.push { cls:=.type "dict",data:=.dict #[] }).DictOf (yd prog w) s.heap.objs.size []:=Heap.DictOf.new s.heap;refine⟨hnew.typeIs,F.args_dict_init_2 _ _,?_⟩;unfold Builtin.«dict.__init__»;refine zD ?_;unfold Builtin.Dict.selfAndRest;refine zD (wpAny_notOrdered_dict hnew.typeIs ?_);show wpAny _ _ (pure (s.heap.objs.size,[Value.ref l])) _ _ _;refine zV ?_;show wpAny _ _ (Builtin.Dict.updateFrom "dict.__init__" s.heap.objs.size (.ref l) [] .none) _ _ _;unfold Builtin.Dict.updateFrom;have hlt:=Heap.lt_size ho;have ho1:(s.heap.push { cls:=.type "dict",data:=.dict #[] }).get? l=some o:=Heap.get?_push_of_some _ ho;refine zD (kB (T := "list") ⟨o,ho1,hc⟩ ?_);rw[zP (by rfl)];refine zD (Pj (o:=o) ho1 hc hdat hdd (am_miss_of_fast (by kernel_rfl)) (by decide) (by exact hA) (λh1 tk1 kp1=>?_) (by decide));rw[zP (by rfl)];have hd1:h1.DictOf (yd prog w) s.heap.objs.size []:=hnew.IC λo e=>kp1 _ _ e
 have ho2:h1.get? l=some o:=kp1 _ _ ho1;have hl1:h1.IsList l its.toArray:=⟨o,ho2,hc,n,hdat⟩
 have hd1lt:s.heap.objs.size<h1.objs.size:=by
  obtain⟨o',_,_,e,_⟩:=hd1;exact Heap.lt_size e
 show wpAny _ _ (pure () >>= _) _ _ _;refine zD (zV (zD ?_));refine Vx (s:={ s with heap:=h1,toks:=tk1 }) hl1 ?_;refine zV ⟨jb Qi _,pV FH ?_⟩;rw[ZZ Qi _];have k0:∀b ob,s.heap.get? b=some ob->(h1.push { cls:=.type "list_iterator",data:=.fields #[.ref l,.int 0 0] }).get? b=some ob:=λb ob e=>Heap.get?_push_of_some _ (kp1 b ob (Heap.get?_push_of_some _ e))
 refine Hl (l:=l) (its:=its) (A:=A.in1) (by exact hA) (xE (uU hlt)) (xE (wA hd1lt)) (xE (wA (Jl hlt hd1lt))) kvs 0 [] _ ⟨_,Heap.get?_push_size _ rfl,rfl,rfl⟩ ⟨o,k0 l o ho,hc,n,hdat⟩ (by rw[xT]; exact hn) (λj kv e=>?_) (hd1.push _) (by simpa using hz) λh' tk hd' kp=>?_
 ·obtain⟨v,hv,b,key,rfl,hk,o',e1,r⟩:=hp j kv e;exact⟨_,by rw[xT]; exact hv,b,key,rfl,hk,o',k0 b o' e1,r⟩
 ·refine⟨rfl,h h' tk hd' λb ob e=>?_⟩;have hb:=Heap.lt_size e;exact kp b ob (xE (wA hb)) (xE (wA (Jl hb hd1lt))) (k0 b ob e)
section
variable{X:Cx}
theorem Ed{z6:List (Addr×Obj)}{σ:St}{H:Hp}{s:Shared}(I:Inv X z6 σ H s):∀{kvs:List (zM×V)} {vs:List V} {its:List Value},zu vs its->kvs.length=vs.length->(∀(j:Nat)(kv:zM×V),kvs[j]?=some kv->∃b,vs[j]?=some (V.ref b)/\yq X.K H b [kV kv.1,kv.2])->
  ∃ws:List (zM×Value),KV kvs ws/\∀(j:Nat)(kw:zM×Value),ws[j]?=some kw->∃v,its[j]?=some v/\IX s.heap v kw.1 kw.2
 | [],_,_,_,_,_=>⟨[],.nil,λj kw e=>by cases e⟩
 |kv::kvs,[],_,_,h,_=>by cases h
 |kv::kvs,_::vs,_::its,.cons r t,h,hp=>by
  obtain⟨ws,rk,hw⟩:=Ed I t (by simpa using h) λj kv' e=>by
   obtain⟨b,e1,q⟩:=hp (j+1) kv' (by simpa using e);exact⟨b,by simpa using e1,q⟩
  obtain⟨b,e1,sq⟩:=hp 0 kv rfl;cases e1;obtain⟨is,ri,pt,_⟩:=I.tuple sq;obtain⟨key,x,rfl,rkey,rx⟩:=JG ri;refine⟨(kv.1,x)::ws,.cons ⟨rfl,rx⟩ rk,λj kw e=>?_⟩;cases j with
  |zero=>
   cases e;exact⟨_,rfl,b,key,r,jE (P:=X.prog) (w:=X.w) rkey,pt⟩
  |succ j=>
   obtain⟨v,e2,q⟩:=hw j kw (by simpa using e);exact⟨v,by simpa using e2,q⟩
def d9(K:W.Frag):List V->Hp->VK->Prop:=λxs H Q=>∃a vs kvs,xs=[.ref a]/\yP K H a vs/\kvs.length=vs.length/\(∀(j:Nat)(kv:zM×V),kvs[j]?=some kv->∃b,vs[j]?=some (.ref b)/\yq K H b [kV kv.1,kv.2])/\∀p,H p=none->Q (.ref p) (zb H p (.dK (qg [] kvs)))
theorem NW(hcalm:X.calm=true):wS X (.type "dict") (d9 X.K):=by
 intro z6 s σ H xs us Q I r h;obtain⟨a,vs,kvs,rfl,sq,hl,hp,q⟩:=h;obtain⟨u,rfl,ru⟩:=vY r;cases(show u=Value.ref a from ru);obtain⟨its,rv,⟨o,n,ho,hc,hdd,hdat⟩,hz⟩:=I.list sq;obtain⟨ws,rk,hw⟩:=Ed I rv hl hp;have hlw:ws.length=its.length:=by rw[<-rk.length,hl,rv.length]
 refine NX (I.ok.hd hcalm) ho hc hdd hdat hlw hw (by rw[hlw,<-rv.length]; exact hz) λh' tk dd kp=>?_
 have hle:(qg [] kvs).length<=sizeLine:=by
  have h1:=LX kvs [];rw[jX]at h1;omega
 have hm:(s.heap.objs.size==sysModules)=false:=by
  have:=I.big;rw[XB];exact xE (uU this)
 exact⟨.ref s.heap.objs.size,_,I.laid (a:=s.heap.objs.size) (o:=.dK (qg [] kvs)) (t':=tk) kp (zt _) (Ix hle hm (rk.merge .nil) dd),rfl,q _ I.fresh⟩
end
def qf:List D->Option (List (Sum Int Str)×List D)
 | []=>some ([],[])
 |.tup [k,v]::r=>(qe k).bind λk=>(qf r).bind λp=>some (k::p.1,v::p.2)
 |_=>none
def y_{α:Type}:List (Sum Int Str)->List α->List (Sum Int Str)->List α->List (Sum Int Str)×List α
 |ks,ds,k::r,v::q=>y_ (xt ks k) (w6 ks ds k v) r q
 |ks,ds,_,_=>(ks,ds)
def g7:List D->Option D
 | [.lst xs]=>(qf xs).bind λp=>some (.dic (y_ [] [] p.1 p.2).1 (y_ [] [] p.1 p.2).2)
 |_=>none
theorem G7:∀{ks:List zM}{us:List V}{as:List zM}{vs:List V},ks.length=us.length->as.length=vs.length->qg (as.zip vs) (ks.zip us)=(y_ as vs ks us).1.zip (y_ as vs ks us).2/\(y_ as vs ks us).1.length=(y_ as vs ks us).2.length
 | [],[],as,vs,_,h=>⟨rfl,h⟩
 |k::ks,u::us,as,vs,h1,h2=>by
  have ih:=G7 (ks:=ks) (us:=us) (as:=xt as k) (vs:=w6 as vs k u) (by simpa using h1) (ZK h2);refine⟨?_,ih.2⟩;show qg (vk (as.zip vs) k u) (ks.zip us)=_;rw[K7 h2];exact ih.1
theorem G4{K:W.Frag}{G:Hp}:∀{ks:List zM}{es:List D}{us:List V}{as:List zM}{ds:List D}{vs:List V},Reps K G es us->Reps K G ds vs->ks.length=us.length->as.length=vs.length->Reps K G (y_ as ds ks es).2 (y_ as vs ks us).2/\(y_ as ds ks es).1=(y_ as vs ks us).1
 | [],es,us,as,ds,vs,r1,r2,h1,h2=>by
  have e1:y_ as ds [] es=(as,ds):=by unfold y_; rfl
  have e2:y_ as vs [] us=(as,vs):=by unfold y_; rfl
  rw[e1,e2];exact⟨r2,rfl⟩
 |k::ks,es,[],as,ds,vs,r1,r2,h1,h2=>by cases h1
 |k::ks,[],u::us,as,ds,vs,r1,r2,h1,h2=>by cases(show _=[]from r1)
 |k::ks,e::es,_::_,as,ds,vs,r1,r2,h1,h2=>by
  obtain⟨v,r,ev,hv,hr⟩:=r1;cases ev;exact G4 (ks:=ks) (es:=es) (as:=xt as k) hr (r2.put hv) (by simpa using h1) (ZK h2)
theorem E_{α:Type}:∀{ks:List zM}{es:List α}{as:List zM}{ds:List α},as.length=ds.length->(y_ as ds ks es).2.length<=ds.length+es.length
 | [],es,as,ds,_=>by
  have e:y_ as ds [] es=(as,ds):=by unfold y_; rfl
  rw[e];exact g_ _ _
 |_::_,[],as,ds,_=>by
  have e:∀k ks,y_ as ds (k::ks) ([]:List α)=(as,ds):=λ_ _=>by unfold y_; rfl
  rw[e];exact g_ _ _
 |k::ks,e::es,as,ds,h=>by
  have ih:=E_ (ks:=ks) (es:=es) (as:=xt as k) (ds:=w6 as ds k e) (ZK h);have:=G8 (ks:=as) (vs:=ds) (k:=k) (v:=e) h;show(y_ (xt as k) (w6 as ds k e) ks es).2.length<=_;rw[xf];omega
theorem C2{K:W.Frag}{G:Hp}:∀{xs:List D}{vs:List V}{ks:List zM}{ds:List D},qf xs=some (ks,ds)->Reps K G xs vs->∃us,Reps K G ds us/\ks.length=us.length/\ks.length=vs.length/\∀(j:Nat)(kv:zM×V),(ks.zip us)[j]?=some kv->∃b,vs[j]?=some (V.ref b)/\yq K G b [kV kv.1,kv.2]
 | [],_,_,_,h,r=>by
  cases h;cases(show _=[]from r);exact⟨[],rfl,rfl,rfl,λj kv e=>by cases e⟩
 |x::xs,_,ks,ds,h,r=>by
  obtain⟨v,r',rfl,hv,hr⟩:=r;unfold qf at h
  split at h
  ·rename_i e; cases e
  ·rename_i k y r2 e;cases e;obtain⟨key,hk,h⟩:=zU h;obtain⟨⟨ks2,ds2⟩,h2,h⟩:=zU h;cases h;obtain⟨us,q1,q2,q3,q4⟩:=C2 h2 hr;obtain⟨b,ws,rfl,sq,⟨u1,_,rfl,hu1,⟨u2,_,rfl,hu2,e3⟩⟩,_⟩:=hv;cases(show _=[]from e3);refine⟨u2::us,⟨u2,us,rfl,hu2,q1⟩,by rw[xf,xf,q2],by rw[xf,xf,q3],λj kv e=>?_⟩;cases j with
   |zero=>
    cases e;refine⟨b,rfl,?_⟩;rw[<-Z4 hk hu1];exact sq
   |succ j=>
    obtain⟨b',e1,e2⟩:=q4 j kv (by simpa using e);exact⟨b',by simpa using e1,e2⟩
  ·cases h
theorem MY{X:Cx}{e:Expr}{fs:FA}{p pos:Pos}(hcalm:X.calm=true)(hg:Gl X "dict")(hm:X.mg "dict" = none)(hv:bootBuiltins "dict" = some (.type "dict"))(ha:SA X [e] fs)(hs:xX e=true:=by rfl):SF X (.Call (.Name "dict" p) [e] [] pos) (eL g7 fs):=by
 obtain⟨t,pt,k⟩:=ha.h;refine⟨⟨_,(WB (NW hcalm) hg hm hv ⟨pt⟩ (by decide) (by decide) (by rw[vA,hs]; rfl)).h,λ{G0 H0 G H τ σ d Q} E hf q=>?_⟩⟩;obtain⟨ds,hd,hf⟩:=zU hf;refine k E hd λvs G1 H1 x1 r1=>?_
 unfold g7 at hf
 split at hf
 ·rename_i xs;obtain⟨⟨ks,es⟩,hk,hf⟩:=zU hf;cases hf;obtain⟨v,rfl,a,ws,rfl,sq,rs,l⟩:=gQ r1;obtain⟨us,q1,q2,q3,q4⟩:=C2 hk rs;obtain⟨z1,z2⟩:=G7 (ks:=ks) (us:=us) (as:=[]) (vs:=[]) q2 rfl;obtain⟨z3,z4⟩:=G4 (ks:=ks) (as:=[]) (ds:=[]) (vs:=[]) q1 rfl q2 rfl;refine⟨a,ws,ks.zip us,rfl,wM x1.gh sq,by rw[tQ,q2,tS,<-q2,q3],λj kv e=>?_,λp hp=>?_⟩
  ·obtain⟨b,e1,e2⟩:=q4 j kv e;exact⟨b,e1,vp x1.gh e2⟩
  ·refine q p _ _ (x1.trans (zZ.uZ x1.gh hp)) (x1.h.free hp) (x1.gh.free hp) ⟨(y_ [] [] ks us).2,?_,?_,z3,?_⟩
   ·show zb H1 p (.dK (qg [] (ks.zip us))) p=some (.dK ((y_ [] [] ks es).1.zip (y_ [] [] ks us).2));rw[yT,z4];exact congrArg (λx=>some (HO.dK x)) z1
   ·show(y_ [] [] ks es).1.length=_;rw[z4];exact z2
   ·have:=E_ (ks:=ks) (es:=es) (as:=[]) (ds:=[]) rfl;have e1:es.length=ws.length:=by rw[<-q1.length,<-q2,q3]
    rw[rs.length]at e1;show(y_ [] [] ks es).2.length<=sizeLine;simp only[jX,xT]at this;omega
 ·cases hf
open PyProof Builtin Builtin.Str
section
variable{X:Cx}{e o a b c:Expr}{f fo fa fb fc:FE}{x:Str}{xp p pos apos cpos:Pos}
def ZT:List D->Option (List Str)
 | []=>some []
 |.str z::r=>(ZT r).bind λts=>some (z::ts)
 |_=>none
def To:D->D->Option D
 |.str sep,.lst xs=>(ZT xs).bind λts=>if(ts.map (·.length)).sum+ts.length*sep.length<=yb then some (.str (glued sep ts))else none
 |_,_=>none
theorem HV{K:W.Frag}{G:Hp}:∀{xs:List D}{vs:List V}{ts:List Str},ZT xs=some ts->Reps K G xs vs->vs=ts.map V.str
 | [],_,_,h,r=>by
  cases h;exact r
 |x::xs,_,ts,h,r=>by
  obtain⟨v,r',rfl,hv,hr⟩:=r;unfold ZT at h
  split at h
  ·rename_i e; cases e
  ·rename_i z r2 e;cases e;obtain⟨ts2,h2,h⟩:=zU h;cases h;rw[xw,(show v=_/\_ from hv).1,HV h2 hr]
  ·cases h
theorem iC(ho:SE X o fo)(he:SB X e f)(hbase:attributeBase o "join" X.env (eval o X.env)=eval o X.env:=by rfl)(hline:(apos.endLine==cpos.line)=true:=by rfl)(hs:xX e=true:=by rfl) :
  SE X (.Call (.Attribute o "join" apos) [e] [] cpos) (e2 To fo f):=by
 obtain⟨to,po,ko⟩:=ho.h;obtain⟨te,pe,ke⟩:=(xv he wD hs).h;refine⟨⟨_,(WA PySem.F.plainAttrs_str PySem.F.slot_str_join PySem.F.type_str_join Sy ⟨po⟩ ⟨pe⟩ hbase hline (by rw[vA,hs]; rfl) (by show 1<30; decide)).h,λ{G0 H0 G H τ σ d Q} E hf q=>?_⟩⟩;obtain⟨x,hx,hf⟩:=zU hf;obtain⟨y,hy,hf⟩:=zU hf;refine ko E hx λv G1 H1 x1 r1=>?_
 cases x with
 |str sep=>
  obtain⟨rfl,l1⟩:=r1;refine⟨rfl,ke (E.go x1) (ds:=[y]) (by unfold zB; rw[hy]; rfl) λws G2 H2 x2 r2=>?_⟩;obtain⟨w,rfl,rw_⟩:=gQ r2;cases y with
  |lst xs=>
   obtain⟨ts,hts,hf⟩:=zU hf;obtain⟨aa,vs,rfl,sq,rs,_⟩:=rw_;have ev:=HV hts rs;subst ev;by_cases cc:(ts.map (·.length)).sum+ts.length*sep.length<=yb
   ·rw[zP cc]at hf;cases hf;have c':(ts.map (·.length)).sum+ts.length*sep.length<=sizeLine:=by rw[wR]; exact cc
    exact⟨sep,aa,ts,rfl,rfl,sq,c',q _ _ _ (x1.trans x2) ⟨rfl,xj (glued_len sep ts) c'⟩⟩
   ·rw[zS cc]at hf;cases hf
  |_=>cases hf
 |_=>cases hf
def MN(f:FE)(fg:FG):FS:=λτ=>(f τ).bind λd=>(fg d τ).bind λτ'=>some (.nx τ')
theorem Ij:bootBuiltins "dict" = some (.type "dict"):=by decide +kernel
theorem lV{tg:Expr}{fg:FG}(he:SE X e f)(hg:SG X tg fg)(hs:swapsWithSole [tg] e pos.line X.env=pure false:=by rfl)(hw:swappedStores [tg] e X.env=pure none:=by rfl)(h1:(assignEach [tg] X.env).map (·.2)=[assign tg X.env]:=by rfl) :
  SS X (.Assign [tg] e pos) (MN f fg):=by
 obtain⟨te,pe,ke⟩:=he.h;obtain⟨tt,pt,kt⟩:=hg.h;refine⟨⟨_,Ey pe pt hs hw h1,λ{G0 H0 G H τ σ fl E} K hf q=>?_⟩⟩;obtain⟨d,hd,hf⟩:=zU hf;obtain⟨τ',ht,hf⟩:=zU hf;cases hf;exact ke K hd λv G' H' x1 r1=>kt (K.go x1) r1 ht λσ' K'=>q _ _ _ K'
def Qo(i:Nat)(k v:FE):FS:=λσ=>(v σ).bind λy=>match σ[i]? with
 |some (some (true,.lst ds))=>(k σ).bind λx=>match x with
  |.int j=>(ixN ds.length j).bind λn=>some (.nx (σ.set i (some (true,.lst (ds.set n y)))))
  |_=>none
 |_=>none
theorem Reps.set{K:W.Frag}{G:Hp}{d:D}{v:V}(hv:zi K G d v):∀{ds:List D}{vs:List V}(n:Nat),Reps K G ds vs->Reps K G (ds.set n d) (vs.set n v)
 | [],_,_,r=>by cases(show _=[]from r); rfl
 |d'::ds,_,0,r=>by
  obtain⟨u,r',rfl,hu,hr⟩:=r;exact⟨v,r',rfl,hv,hr⟩
 |d'::ds,_,n+1,r=>by
  obtain⟨u,r',rfl,hu,hr⟩:=r;exact⟨u,_,rfl,hu,Reps.set hv n hr⟩
theorem lX{i:Nat}{k v:Expr}{fk fv:FE}{pos':Pos}(ho:QE X (.Name x xp) (jP i))(hk:SE X k fk)(hv:SE X v fv)(hp:Yq k=true:=by rfl)(hs:swapsWithSole [.Subscript (.Name x xp) k pos'] v pos.line X.env=pure false:=by rfl)
  (hw:swappedStores [.Subscript (.Name x xp) k pos'] v X.env=pure none:=by rfl)(h1:(assignEach [.Subscript (.Name x xp) k pos'] X.env).map (·.2)=[assign (.Subscript (.Name x xp) k pos') X.env]:=by rfl):SS X (.Assign [.Subscript (.Name x xp) k pos'] v pos) (Qo i fk fv):=by
 obtain⟨tk,pk,kk⟩:=hk.h;obtain⟨tv,pv,kv⟩:=hv.h;refine⟨⟨_,Ey pv (d3 ho ⟨pk⟩ iI hp).h hs hw h1,λ{G0 H0 G H τ σ fl E} K hf q=>?_⟩⟩;obtain⟨y,hy,hf⟩:=zU hf;refine kv K hy λw G1 H1 x1 r1=>?_
 split at hf
 ·rename_i ds hd;obtain⟨xk,hx,hf⟩:=zU hf;cases xk with
  |int j=>
   obtain⟨n,hn,hf⟩:=zU hf;cases hf;have K1:=K.go x1;obtain⟨aa,ea,g,z,vs,ev,rs,l⟩:=K1.ow _ _ hd;refine⟨_,ea,kk K1 hx λu G2 H2 x2 r2=>?_⟩;cases(show u=_ from r2);refine⟨aa,vs,j,n,rfl,rfl,x2.h _ _ ev,by rw[rs.length]; exact hn,?_⟩;exact q _ _ _ ((K1.go x2).U3 hd ea ⟨_,yT,Reps.set (r1.mono x2.g) n (rs.mono x2.g),by rw[gm]; exact l⟩)
  |_=>cases hf
 ·cases hf
theorem lY{op op':CmpOp}{r r':R2}{F F':D->D->Option D}(ho:yX X (compareOp op) r)(hF:qX X.K r F)(ho':yX X (compareOp op') r')(hF':qX X.K r' F')(ha:SB X a fa)(hb:SB X b fb)(hc:SB X c fc)(hm:lastMarks [op,op'] [b,c]=false:=by with_unfolding_all rfl) :
  ST X (.Compare a [op,op'] [b,c] pos) (tE (Xg F F' fa fb fc)):=by
 obtain⟨ta,pa,ka⟩:=ha.h;obtain⟨tb,pb,kb⟩:=hb.h;obtain⟨tc,pc,kc⟩:=hc.h;refine⟨⟨_,ck ho ho' pa pb pc hm,λ{G0 H0 G H τ σ d Q} E hf q=>?_⟩⟩;obtain⟨w0,hw0,hf0⟩:=zU hf;obtain⟨x,hx,hw0⟩:=zU hw0;obtain⟨y,hy,hw0⟩:=zU hw0;obtain⟨k,hk,hw0⟩:=zU hw0;refine ka E hx λv G1 H1 x1 r1=>?_
 refine kb (E.go x1) hy λu G2 H2 x2 r2=>?_
 obtain⟨k,rfl,z⟩:=hF H2 x y v u _ _ (r1.mono x2.h) r2 hk;refine z ⟨k,rfl,?_⟩;cases k with
 |false=>
  cases hw0;cases hf0;exact jC ⟨_,rfl,q _ _ (x1.trans x2)⟩
 |true=>
  obtain⟨w,hw,hw0⟩:=zU (show(fc _).bind _=_ from hw0);refine jD (kc ((E.go x1).go x2) hw λu3 G3 H3 x3 r3=>?_);obtain⟨k,rfl,z⟩:=hF' H3 y w u u3 _ _ (r2.mono x3.h) r3 hw0;cases hf0;exact z ⟨_,rfl,q _ _ (x1.trans (x2.trans x3))⟩
end
end L3
namespace L2
open PySem PySem.Spec PyProof.Rows
def IL(K:W.Frag)(a:Addr):It:=
  ⟨λi H=>∃xs x,yP K H a xs/\xs[i]?=some x,
   λi H v H'=>∃p,H p=none/\v=.ref p/\∀xs,yP K H a xs->∃x,xs[i]?=some x/\H'=zb H p (.tup [.int (i:Int),x]),
   λi H=>∃xs,yP K H a xs/\xs.length<=i⟩
theorem oE{P:Program}{w:World}{K:W.Frag}{elts:List Expr}{kk:Nat}{pos:Pos}(a e it:Addr)(hei:e≠it) :
  tq P w K (.Tuple elts kk pos) (IL K a) [e,it] e (λi h=>(∃old,IsEnum h e it (i:Int) old)/\h.IsListIter it a i) where
 mem:=by simp
 obj:=λi h st c hc=>by
  obtain⟨⟨old,s1⟩,⟨o2,s2,_,d2⟩⟩:=st;simp only[yV,wb,or_false]at hc;rcases hc with rfl|rfl
  ·exact⟨_,s1,λv q=>nomatch q⟩
  ·exact⟨_,s2,λv q=>by rw[d2]at q; cases q⟩
 keep:=λi h h' st k=>by
  obtain⟨⟨old,s1⟩,s2⟩:=st;exact⟨⟨old,k e (by simp) _ s1⟩,s2.at λo x=>k it (by simp) o x⟩
 item:=by
  intro X hP hw hK hc i z6 s σ H E I hf st hg;subst hP hw hK;obtain⟨⟨old,s1⟩,s2⟩:=st;obtain⟨xs,x,hx,ex⟩:=hg;obtain⟨us,ru,pu,_⟩:=I.list hx;have pl:=pu.isList;obtain⟨xu,hxu,rxu⟩:=ru.get ex;have hx':us.toArray[i]?=some xu:=by rw[Jg]; exact hxu
  have lt1:e<s.heap.objs.size:=Heap.lt_size s1;have lt2:it<s.heap.objs.size:=by obtain⟨o,z,_⟩:=s2; exact Heap.lt_size z
  refine wpAny_pyNext_enum_item s1 s2 pl hx' hei λh1 heo hit1 ht1 hz1 hk1=>?_
  refine⟨_,rfl,Kp (s:={ s with heap:=h1,toks:=s.toks+1 }) heo λh2 he2 hs2=>?_⟩
  replace hs2:Heap.SameBut e h1 h2:=hs2
  have hTs:s.heap.get? s.heap.objs.size=none:=by
   cases q:s.heap.get? s.heap.objs.size with
   |none=>rfl
   |some o=>exact absurd (Heap.lt_size q) (wQ _)
  have hTf:H s.heap.objs.size=none:=I.zg.fresh (zt _);have tup:h2.get? s.heap.objs.size=some { cls:=.type "tuple",data:=.seq #[.int i s.toks,xu] }:=hs2.extBut _ _ (uU lt1) ht1
  have kk:∀c o,c ∉ [e,it]->s.heap.get? c=some o->h2.get? c=some o:=λc o hc z=>by
   simp only[yV,wb,or_false,Zj]at hc;exact hs2.extBut _ _ hc.1 (hk1 c o hc.1 hc.2 z)
  have new:xC X.prog X.w (zb H s.heap.objs.size (.tup [.int (i:Int),x])) h2 s.heap.objs.size (.tup [.int (i:Int),x]):=⟨(by show 2<=sizeLine; decide),[.int i s.toks,xu],.cons ⟨_,rfl⟩ (.cons rxu .nil),⟨_,tup,rfl,_,rfl⟩⟩;refine⟨.ref s.heap.objs.size,zb H s.heap.objs.size (.tup [.int (i:Int),x]),I.V_ (tk:=s.toks+1) hf kk hTs hTf new,rfl,⟨s.heap.objs.size,hTf,rfl,λxs' hx'=>?_⟩,⟨⟨xu,?_⟩,hit1.at λo z=>hs2.extBut _ _ hei.symm z⟩,λc hc=>?_⟩
  ·rw[I.U2 hx' hx];exact⟨x,ex,rfl⟩
  ·rw[show((i+1:Nat):Int)=(i:Int)+1 from rfl];exact he2
  ·rw[zx]
   ·exact(hf c hc).1
   ·intro q
    have hlt:c<s.heap.objs.size:=by
     simp only[yV,wb,or_false]at hc;rcases hc with rfl|rfl
     ·exact lt1
     ·exact lt2
    rw[q]at hlt;exact absurd hlt (wQ _)
 done:=by
  intro X hP hw hK hc i z6 s σ H E I hf st hg;subst hP hw hK;obtain⟨⟨old,s1⟩,s2⟩:=st;obtain⟨xs,hx,hend⟩:=hg;obtain⟨us,ru,pu,_⟩:=I.list hx;have pl:=pu.isList
  have hx':us.toArray[i]?=none:=by
   rw[Jg];exact uT (by have:=ru.length; omega)
  refine wpAny_pyNext_enum_end (by exact I.ok.hd hc) s1 s2 pl hx' λh1 he1=>?_
  refine⟨rfl,I.but (tk:=s.toks) hf λc ob hcc eb=>?_⟩;simp only[yV,wb,or_false,Zj]at hcc;exact he1 c ob hcc.2 eb
 self:=λ_ _ _ _ _ st h=>by
  obtain⟨⟨old,s1⟩,_⟩:=st;exact Jx s1 h
section
variable{X:Cx}
def Rf(K:W.Frag)(ta:TA):TI:=λσ H R=>ta σ H λvs H1=>∃a xs,vs=[.ref a]/\yP K H1 a xs/\R (IL K a) H1
theorem bw{a:Expr}{ta:TA}{p pos:Pos}{elts:List Expr}{kk:Nat}{tp:Pos}(hg:Gl X "enumerate")(hm:X.mg "enumerate" = none)(ha:PA X [a] ta)(hs:starEach [a] X.env=[(false,eval a X.env)]:=by rfl) :
  PI X (.Tuple elts kk tp) (.Call (.Name "enumerate" p) [a] [] pos) (Rf X.K ta):=by
 intro z6 s σ H R I h;refine Call_ (Z7 I hg hm boot_enumerate (Vq (zo (ha pos z6 s σ H _ I h) λus s1 ⟨vs,H1,I1,r1,q1⟩=>?_) (by rw[hs]; rfl) rfl));obtain⟨l1,xs,rfl,hx,q⟩:=q1;obtain⟨u,rfl,ru⟩:=vY r1;cases(show u=Value.ref l1 from ru);obtain⟨us,_,pu,_⟩:=I1.list hx;refine call_enumerate_list pu.isList λh' a1 a2 hz kp=>?_
 have I2:Inv X z6 σ H1 { s1 with heap:=h' }:=I1.kept (t':=s1.toks) kp;refine Jx (s:={ s1 with heap:=h' }) a1 ?_;generalize hn:s1.heap.objs.size=n at a1 a2 hz;refine⟨n+1,[n+1,n],_,_,H1,rfl,I2,oE l1 (n+1) n (xE (by omega)),⟨⟨_,a1⟩,a2⟩,λc hc=>?_,q⟩
 have hle:s1.heap.objs.size<=c:=by
  rw[hn];simp only[yV,wb,or_false]at hc;rcases hc with rfl|rfl
  ·exact g_ _ _
  ·exact zt _
 exact I1.qp hle (I1.zg.fresh hle)
end
end L2
namespace L3
open PySem PySem.Spec PyProof.Rows L2
def we(xs:List D):List D:=List.zipWith (λ(i:Nat) x=>D.tup [.int (i:Int),x]) (List.range xs.length) xs
def qL(a:FE):FA:=λσ=>(a σ).bind λd=>match d with
 |.lst xs=>some (we xs)
 |_=>none
theorem qN(xs:List D):(we xs).length=xs.length:=by simp[we]
theorem gG(xs:List D)(i:Nat):(we xs)[i]?=(xs[i]?).map λx=>D.tup [.int (i:Int),x]:=by
 unfold we;rw[Jh];by_cases h:i<xs.length
 ·rw[qo h,yF h]; rfl
 ·rw[uT (by simpa using h),uT (by omega)]; rfl
section
variable{K:W.Frag}{G H:Hp}
theorem PL{a:Addr}{vs:List V}{xs:List D}(s1:yP K G a vs)(r1:Reps K G xs vs):t4 K (IL K a) G (we xs) where
 go:=λi G2 H g1 g2 hi=>by
  rw[qN]at hi;obtain⟨v,e1,_⟩:=r1.get (yF hi);exact⟨vs,v,wM (g1.trans g2) s1,e1⟩
 vE:=λi G2 H x H' g1 g2 hi y=>by
  obtain⟨p,hp,rfl,k⟩:=y;obtain⟨v,e1,rfl⟩:=k vs (wM (g1.trans g2) s1);obtain⟨d1,f1,q1⟩:=r1.at e1;refine⟨zb G2 p (.tup [.int (i:Int),v]),.tup [.int (i:Int),d1],zZ.lay g2 hp,by rw[gG,f1]; rfl,?_⟩;have sm:yU G (zb G2 p (.tup [.int (i:Int),v])):=g1.trans (wf (g2.free hp) _);exact⟨p,[.int (i:Int),v],rfl,yq.of yT,⟨_,_,rfl,rfl,⟨v,_,rfl,q1.mono sm,rfl⟩⟩,small (n:=2) (by decide)⟩
 stop:=λi G2 H g1 g2 hi=>by
  rw[qN]at hi;exact⟨vs,wM (g1.trans g2) s1,by rw[r1.length]; exact hi⟩
end
theorem Qv{X:Cx}{a:Expr}{fa:FE}{p pos:Pos}{elts:List Expr}{kk:Nat}{tp:Pos}(hg:Gl X "enumerate")(hm:X.mg "enumerate" = none)(ha:SE X a fa)(hs:xX a=true:=by rfl):SI X (.Tuple elts kk tp) (.Call (.Name "enumerate" p) [a] [] pos) (qL fa):=by
 obtain⟨t,pt,k⟩:=(zC ha zN hs).h;refine⟨⟨_,bw hg hm pt (tP hs),λ{G0 H0 G H τ σ ds R} K hf q=>?_⟩⟩;obtain⟨x,hx,hf⟩:=zU hf;cases x<;>first|(cases hf; done)|skip
 cases hf;rename_i xs;refine k K (ds:=[.lst xs]) (by unfold zB; rw[hx]; rfl) λvs G1 H1 x1 r1=>?_
 obtain⟨v,r,rfl,hv,hr⟩:=r1;cases(show r=[]from hr);obtain⟨aa,vs1,rfl,s1,q1,l1⟩:=hv;exact⟨aa,vs1,rfl,wM x1.gh s1,q _ _ _ x1 (by rw[qN]; exact l1) (PL s1 q1)⟩
end L3
namespace L2
open PySem PySem.Spec PyProof PyProof.Rows
def Z2(a:Int):List Int->List Int
 | []=>[a]
 |b::r=>if a<=b then a::b::r else b::Z2 a r
def isort:List Int->List Int
 | []=>[]
 |a::r=>Z2 a (isort r)
theorem Oy(a:Int):∀l:List Int,(Z2 a l).Perm (a::l)
 | []=>pT _
 |b::r=>by
  unfold Z2
  split
  ·exact pT _
  ·exact((Oy a r).cons b).trans (List.Perm.swap a b r)
theorem isort_perm:∀l:List Int,(isort l).Perm l
 | []=>pT _
 |a::r=>(Oy a _).trans ((isort_perm r).cons a)
theorem Fr(a:Int):∀{l:List Int},l.Pairwise (·<=·)->(Z2 a l).Pairwise (·<=·)
 | [],_=>by simp[Z2]
 |b::r,h=>by
  obtain⟨h1,h2⟩:=Ze.mp h;unfold Z2
  split
  ·rename_i hab
   exact Ze.mpr ⟨λx hx=>by
    rcases yV.mp hx with rfl|hx
    ·exact hab
    ·exact BB hab (h1 x hx),h⟩
  ·rename_i hab;refine Ze.mpr ⟨λx hx=>?_,Fr a h2⟩;rcases yV.mp ((Oy a r).mem_iff.mp hx)with rfl|hx
   ·omega
   ·exact h1 x hx
theorem isort_sorted:∀l:List Int,(isort l).Pairwise (·<=·)
 | []=>List.Pairwise.nil
 |a::r=>Fr a (isort_sorted r)
theorem Mc:∀{a b:List Int},a.Perm b->a.Pairwise (·<=·)->b.Pairwise (·<=·)->a=b
 | [],b,p,_,_=>(List.nil_perm.mp p).symm
 |x::a,[],p,_,_=>by cases p.length_eq
 |x::a,y::b,p,ha,hb=>by
  obtain⟨h1,h2⟩:=Ze.mp ha;obtain⟨g1,g2⟩:=Ze.mp hb
  have e:x=y:=by
   have hx:x∈y::b:=p.mem_iff.mp (xP ..);have hy:y∈x::a:=p.mem_iff.mpr (xP ..);rcases yV.mp hx with rfl|hx
   ·rfl
   ·rcases yV.mp hy with e|hy
    ·exact e.symm
    ·exact Int.le_antisymm (h1 y hy) (g1 x hx)
  subst e;rw[Mc (List.perm_cons x |>.mp p) h2 g2]
theorem Hs:∀{ns:List Int}{its:List Value},zu (ns.map V.int) its->IntsAre its ns
 | [],_,.nil=>.nil
 |n::ns,_,.cons r rr=>by
  obtain⟨t,rfl⟩:=r;exact .cons _ _ (Hs rr)
theorem L1:∀{ns:List Int}{its:List Value},IntsAre its ns->zu (ns.map V.int) its
 | [],_,.nil=>.nil
 |_::_,_,.cons _ _ r=>.cons ⟨_,rfl⟩ (L1 r)
section
variable{X:Cx}
theorem Nl:wS X (.builtin "sorted") (λxs H Q=>∃p ns,xs=[.ref p]/\yP X.K H p (ns.map V.int)/\ns.length<64/\∀l,H l=none->Q (.ref l) (zb H l (.lst ((isort ns).map V.int)))):=by
 intro z6 s σ H xs us Q I r h;obtain⟨p,ns,rfl,hq,h64,q⟩:=h;obtain⟨u,rfl,rx⟩:=vY r;cases rx;obtain⟨its,r',pl,hz⟩:=I.list hq;have hlen:=r'.length;rw[zr]at hlen;refine sorted_ints pl.isList (Hs r') (by omega) λout ns' a1 a2 a3=>?_
 have e:ns'=isort ns:=Mc (a2.trans (isort_perm ns).symm) a3 (isort_sorted ns);subst e;obtain⟨c,hc⟩:=sortedAll_at s.heap its out;have hl2:(isort ns).length=ns.length:=(isort_perm ns).length_eq;refine⟨.ref (s.heap.objs.size+1),_,I.laid (t':=s.toks) (h':=sortedAll s.heap its out) (λ_ _=>sortedAll_old) (Vo _) (show xC X.prog X.w _ _ _ (.lst ((isort ns).map V.int))from⟨?_,out.toList,c,L1 a1,?_⟩),rfl,q _ (I.zg.fresh (Vo _))⟩
 ·rw[zr,hl2];show _<=sizeLine;rw[zr]at hz;exact hz
 ·rw[K9];exact hc
end
end L2
namespace L3
open PySem PySem.Spec PyProof.Rows L2
theorem Dh:bootBuiltins "sorted" = some (.builtin "sorted"):=by decide +kernel
def intsOf:List D->Option (List Int)
 | []=>some []
 |.int i::r=>(intsOf r).bind λns=>some (i::ns)
 |_=>none
theorem L5:∀ns:List Int,intsOf (ns.map D.int)=some ns
 | []=>rfl
 |n::ns=>by
  show(intsOf (ns.map D.int)).bind _=_;rw[L5 ns];rfl
theorem L4:∀{ds:List D}{ns:List Int},intsOf ds=some ns->ds=ns.map D.int
 | [],_,h=>by cases h; rfl
 |d::ds,ns,h=>by
  unfold intsOf at h
  split at h
  ·rename_i e; cases e
  ·rename_i i r e;cases e;obtain⟨ns',h1,h⟩:=zU h;cases h;rw[L4 h1];rfl
  ·cases h
theorem ME{K:W.Frag}{G:Hp}:∀{ns:List Int}{vs:List V},Reps K G (ns.map D.int) vs->vs=ns.map V.int
 | [],_,r=>r
 |n::ns,_,r=>by
  obtain⟨v,r',rfl,hv,hr⟩:=r;rw[ME hr,show v=V.int n from hv];rfl
theorem O_{K:W.Frag}{G:Hp}:∀ns:List Int,Reps K G (ns.map D.int) (ns.map V.int)
 | []=>rfl
 |n::ns=>⟨.int n,_,rfl,rfl,O_ ns⟩
def Tt:List D->Option D
 | [.lst xs]=>(intsOf xs).bind λns=>if ns.length<64 then some (.lst ((isort ns).map D.int))else none
 |_=>none
theorem HC{X:Cx}{e:Expr}{fs:FA}{p pos:Pos}(hg:Gl X "sorted")(hm:X.mg "sorted" = none)(ha:SA X [e] fs)(hs:xX e=true:=by rfl):SF X (.Call (.Name "sorted" p) [e] [] pos) (eL Tt fs):=by
 obtain⟨t,pt,k⟩:=ha.h;refine⟨⟨_,(M8 Nl hg hm Dh ⟨pt⟩ (by decide) (by decide) (by rw[vA,hs]; rfl)).h,λ{G0 H0 G H τ σ d Q} E hf q=>?_⟩⟩;obtain⟨ds,hd,hf⟩:=zU hf;refine k E hd λvs G1 H1 x1 r1=>?_
 match ds,hf with
 | [.lst xs],hf=>
  obtain⟨ns,hn,hf⟩:=zU (show(intsOf xs).bind _=some d from hf)
  split at hf
  ·rename_i h64;cases hf;obtain⟨v,rfl,a,us,rfl,sq,rs,l⟩:=gQ r1;rw[L4 hn]at rs l;rw[ME rs]at sq;refine⟨a,ns,rfl,wM x1.gh sq,h64,λp hp=>q p _ _ (x1.trans (zZ.uZ x1.gh hp)) (x1.h.free hp) (x1.gh.free hp) ⟨_,yT,O_ _,?_⟩⟩;rw[zr,(isort_perm ns).length_eq];rw[zr]at l;exact l
  ·cases hf
end L3
namespace L2
open PySem PySem.Spec PyProof.Rows
section
variable{X:Cx}
end
end L2
namespace L3
open PySem PySem.Spec PyProof.Rows L2
section
variable{X:Cx}{e o a b c:Expr}{f fo fa fb fc:FE}{x:Str}{xp p pos apos cpos:Pos}
end
def Xh:D->D->Option D
 |.lst x,.lst y=>if x.length+y.length<=yb then some (.lst (x++y))else none
 |_,_=>none
theorem PU{x y d:D}(h:Xh x y=some d):∃xs ys,x=.lst xs/\y=.lst ys/\xs.length+ys.length<=yb/\d=.lst (xs++ys):=by
 unfold Xh at h
 split at h
 ·rename_i xs ys;by_cases c:xs.length+ys.length<=yb
  ·rw[zP c]at h;cases h;exact⟨_,_,rfl,rfl,c,rfl⟩
  ·rw[zS c]at h;cases h
 ·cases h
section
variable{X:Cx}{a b:Expr}{fa fb:FE}{x:Str}{xp pos:Pos}
theorem iK{i:Nat}(ho:QE X (.Name x xp) (jP i))(hb:SE X b fb):SF X (.BinOp (.Name x xp) .Add b pos) (e2 Xh (qb i) fb):=by
 obtain⟨tb,pb,kb⟩:=hb.h;refine⟨⟨_,Ei Ea ho.h pb,λ{G0 H0 G H τ σ d Q} E hf q=>?_⟩⟩;obtain⟨x,hx,hf⟩:=zU hf;obtain⟨y,hy,hf⟩:=zU hf;obtain⟨xs,ys,rfl,rfl,c,rfl⟩:=PU hf
 ·have c':(xs++ys).length<=sizeLine:=by rw[wR,ya]; exact c
  obtain⟨o,ho⟩:=Dx hx;cases o with
  |false=>
   obtain⟨v,ev,rv⟩:=E.fr _ _ ho;refine⟨v,ev,kb E hy λu G2 H2 x2 r2=>?_⟩;obtain⟨aa,vs,rfl,sa,ra,_⟩:=rv;obtain⟨bb,us,rfl,sb,rb,_⟩:=r2;refine⟨aa,bb,vs,us,rfl,rfl,wM (x2.g.trans x2.gh) sa,wM x2.gh sb,by rw[ra.length,rb.length,wR]; exact c,λp hp=>?_⟩;exact q p _ _ (x2.trans (zZ.uZ x2.gh hp)) (x2.h.free hp) (x2.gh.free hp) ⟨_,yT,(ra.mono x2.g).append rb,c'⟩
  |true=>
   obtain⟨p,ev,_,_,vs,e1,ra,_⟩:=E.ow _ _ ho;refine⟨_,ev,kb E hy λu G2 H2 x2 r2=>?_⟩;obtain⟨bb,us,rfl,sb,rb,_⟩:=r2;refine⟨p,bb,vs,us,rfl,rfl,yP.of (x2.h _ _ e1),wM x2.gh sb,by rw[ra.length,rb.length,wR]; exact c,λp hp=>?_⟩;exact q p _ _ (x2.trans (zZ.uZ x2.gh hp)) (x2.h.free hp) (x2.gh.free hp) ⟨_,yT,(ra.mono x2.g).append rb,c'⟩
end
section
variable{X:Cx}{e:Expr}{es:List Expr}{fs:FA}{x:Str}{ps:List Str}{k j:Nat}{FF:List D->Option (Bool×D)}{p pos:Pos}
end
section
variable{X:Cx}{e:Expr}{es:List Expr}{fs:FA}{x y:Str}{ps:List Str}{k j:Nat}{FF:List D->Option (Bool×D)}{p pos pos' cpos:Pos}
end
section
variable{X:Cx}{x:Str}{xp pos apos cpos:Pos}
end
section
variable{K:W.Frag}{n:Nat}{G0 H0 G H G' H':Hp}{τ:y4}{σ:St}
end
section
variable{X:Cx}{e:Expr}{f:FE}{ft:FT}
end
def ZN(i:Nat)(e:FE):FS:=λσ=>match σ[i]? with
 |some (some (true,.lst xs))=>(e σ).bind λy=>match y with
  |.lst ys=>if xs.length+ys.length<=yb then some (.nx (σ.set i (some (true,.lst (xs++ys)))))else none
  |_=>none
 |_=>none
section
variable{X:Cx}{a b:Expr}{f fa fb:FE}{x:Str}{xp pos apos cpos:Pos}{e:Expr}
theorem fV(he:SF X e f)(hs:xX e=true:=by rfl):∃t,PA X [e] t/\∀{G0 H0 G H:Hp}{τ:y4}{σ:St}{d:D}{Q:List V->Hp->Prop},zz X.K X.N.length G0 H0 G H τ σ->f τ=some d->(∀p G' H',zZ G H G' H'->H p=none->G' p=none->vQ X.K G' H' d p->Q [.ref p] H')->t σ H Q:=by
 obtain⟨t,p,k⟩:=he.h;refine⟨_,W5 p ZH hs,λE hf q=>k E hf λp G1 H1 x1 hp gp o=>?_⟩;exact q p G1 H1 x1 hp gp o
theorem Md{i:Nat}(ho:QE X (.Name x xp) (jP i))(he:SF X e f)(hbase:attributeBase (.Name x xp) "extend" X.env (eval (.Name x xp) X.env)=eval (.Name x xp) X.env:=by rfl)(hline:(apos.endLine==cpos.line)=true:=by rfl)(hs:xX e=true:=by rfl) :
  SS X (.Expr (.Call (.Attribute (.Name x xp) "extend" apos) [e] [] cpos) pos) (ZN i f):=by
 obtain⟨t,p,k⟩:=fV he hs;refine⟨⟨_,(GG (WA PySem.F.plainAttrs_list PySem.F.slot_list_extend PySem.F.type_list_extend Sv ho ⟨p⟩ hbase hline (by rw[vA,hs]; rfl) (by show 1<30; decide)) rfl).h,λ{G0 H0 G H τ σ fl E} K hf q=>?_⟩⟩;unfold ZN at hf
 split at hf
 ·rename_i xs hd;obtain⟨y,hy,hf⟩:=zU hf;cases y with
  |lst ys=>
   change (if xs.length+ys.length<=yb then some (Fl.nx (τ.set i (some (true,.lst (xs++ys)))))else none)=some fl at hf
   by_cases c:xs.length+ys.length<=yb
   ·rw[zP c]at hf;cases hf;obtain⟨aa,ea,g,z,vs,ev,rs,l⟩:=K.ow _ _ hd;refine⟨_,ea,.inl ⟨rfl,vs,yP.of ev⟩,k K hy λp G1 H1 x1 hp gp o=>?_⟩;obtain⟨us,eu,ru,_⟩:=o;refine⟨aa,p,vs,us,rfl,rfl,x1.h _ _ ev,eu,by rw[rs.length,ru.length,wR]; exact c,?_⟩;refine q _ _ _ ((K.go x1).U3 hd ea ⟨_,yT,(rs.mono x1.g).append ru,?_⟩);rw[wR,ya]; exact c
   ·rw[zS c]at hf;cases hf
  |_=>cases hf
 ·cases hf
end
section
variable{X:Cx}{js:List Nat}{e c:Expr}{f:FE}{ft:FT}{g g':FS}{sts sa:List Stmt}{pos xp apos cpos:Pos}{x:Str}
end
section
variable{X:Cx}{js:List Nat}{e0 e1:Expr}{f0 f1:FE}{fm fr:FS}{mid rest:List Stmt}{p1 p2 p3 xp cp sp apos cpos pos:Pos}{x:Str}{kd:Nat}
end
end L3
namespace L2
open PySem PySem.Spec PyProof PyProof.Rows
section
variable{X:Cx}
end
end L2
namespace L3
open PySem PySem.Spec PyProof.Rows L2
section
variable{X:Cx}{K:W.Frag}
end
end L3
namespace L2
open PySem PySem.Spec PyProof PyProof.Rows
def gE(ks:List zM)(k:zM):Bool:=ks.any λk'=>decide (k'=k)
def vR(acc:List zM)(k:zM):List zM:=if gE acc k=true then acc else acc++[k]
theorem N5(acc:List zM)(k:zM):(vR acc k).length<=acc.length+1:=by
 unfold vR
 split
 ·omega
 ·rw[ya]; exact zt _
theorem C1{k:zM}{v:Value}(h:vW k v=true):v.scannable=true:=by
 rcases tD h with⟨i,t,_,rfl⟩|⟨x,t,_,rfl⟩<;>rfl
section
variable{prog:Program}{w:World}
end
section
variable{X:Cx}
theorem C3(P:Program)(w:World):∀{ks:List zM}{its:List Value},zu (ks.map kV) its->∀(j:Nat)(k:zM),ks[j]?=some k->∃v,its[j]?=some v/\vW k v=true
 | [],_,.nil,j,k,h=>by cases h
 |k::ks,_,.cons r t,j,k',h=>by
  cases j with
  |zero=>
   cases h;exact⟨_,rfl,jE (P:=P) (w:=w) r⟩
  |succ j=>
   obtain⟨v,e,q⟩:=C3 P w t j k' (by simpa using h);exact⟨v,by simpa using e,q⟩
end
end L2
namespace L3
open PySem PySem.Spec PyProof.Rows L2
theorem NU:bootBuiltins "set" = some (.type "set"):=by decide +kernel
section
variable{X:Cx}{K:W.Frag}
end
end L3
namespace L2
open PySem PySem.Spec PyProof PyProof.Rows
structure xl(t:SetTable):Prop where
 du:t.dummies=#[]
 up:t.place.toList.Pairwise (·<·)
theorem Id{xs:Array Nat}(up:xs.toList.Pairwise (·<·))(j:Nat):∀(f lo hi:Nat),lo<=hi->hi<=xs.size->hi-lo<=f->(∀(i:Nat)(h:i<xs.size),i<lo->xs[i]<j)->(∀(i:Nat)(h:i<xs.size),hi<=i->j<=xs[i])->
  SetTable.below.go xs j f lo hi<=xs.size/\(∀(i:Nat)(h:i<xs.size),i<SetTable.below.go xs j f lo hi->xs[i]<j)/\(∀(i:Nat)(h:i<xs.size),SetTable.below.go xs j f lo hi<=i->j<=xs[i])
 |0,lo,hi,h1,h2,h3,a,b=>by
  unfold SetTable.below.go;exact⟨by omega,a,λi h c=>b i h (by omega)⟩
 |f+1,lo,hi,h1,h2,h3,a,b=>by
  have mono:∀(i k:Nat)(hi:i<xs.size)(hk:k<xs.size),i<k->xs[i]<xs[k]:=λi k hi hk c=>by
   have:=BT.mp up i k (by simpa using hi) (by simpa using hk) c;simpa using this
  unfold SetTable.below.go;by_cases c:lo<hi
  ·rw[zP c];have hm:(lo+hi)/2<xs.size:=by omega
   have e:xs.getD ((lo+hi)/2) j=xs[(lo+hi)/2]:=by simp[Array.getD,hm]
   show(if xs.getD ((lo+hi)/2) j<j then _ else _)<=_/\_;dsimp only;rw[e];by_cases q:xs[(lo+hi)/2]<j
   ·rw[zP q];refine Id up j f ((lo+hi)/2+1) hi (by omega) h2 (by omega) (λi h z=>?_) b;by_cases y:i=(lo+hi)/2
    ·subst y; exact q
    ·exact Jl (mono i _ h hm (by omega)) q
   ·rw[zS q];refine Id up j f lo ((lo+hi)/2) (by omega) (by omega) (by omega) a (λi h z=>?_);by_cases y:i=(lo+hi)/2
    ·subst y; omega
    ·have:=mono _ i hm h (by omega);omega
  ·rw[zS c];exact⟨by omega,a,λi h z=>b i h (by omega)⟩
theorem Ie{xs:Array Nat}(up:xs.toList.Pairwise (·<·))(j:Nat):SetTable.below xs j<=xs.size/\(∀(i:Nat)(h:i<xs.size),i<SetTable.below xs j->xs[i]<j)/\(∀(i:Nat)(h:i<xs.size),SetTable.below xs j<=i->j<=xs[i]):=
 Id up j xs.size 0 xs.size (uu _) (zt _) (by omega) (λi _ h=>by omega) λi h c=>by omega
theorem cu{xs:Array Nat}{j:Nat}(up:xs.toList.Pairwise (·<·))(no:xs[SetTable.below xs j]?≠some j):(SetTable.insertAt xs (SetTable.below xs j) j).toList.Pairwise (·<·):=by
 obtain⟨b0,b1,b2⟩:=Ie up j;generalize SetTable.below xs j=p at *;rw[SetTable.toList_insertAt];refine List.pairwise_append.mpr ⟨up.sublist (List.take_sublist ..),Ze.mpr ⟨λa ha=>?_,up.sublist (List.drop_sublist ..)⟩,λa ha b hb=>?_⟩
 ·obtain⟨i,hi,rfl⟩:=X9 ha;rw[Zd,wp]at hi;rw[List.getElem_drop,Vg];have h1:=b2 (p+i) (by omega) (by omega)
  have h2:xs[p+i]'(by omega)≠j:=λz=>by
   cases i with
   |zero=>exact no (by rw[gi (by omega)]; exact congrArg some z)
   |succ i=>
    have h3:=b2 p (by omega) (zt _);have h4:=BT.mp up p (p+(i+1)) (by simp; omega) (by simp; omega) (by omega);simp only[Vg]at h4;omega
  omega
 ·have lt:a<j:=by
   obtain⟨i,hi,rfl⟩:=X9 ha;rw[jY,wp]at hi;rw[List.getElem_take,Vg];exact b1 i (by omega) (by omega)
  rcases yV.mp hb with rfl|hb
  ·exact lt
  ·obtain⟨i,hi,rfl⟩:=X9 hb;rw[Zd,wp]at hi;rw[List.getElem_drop,Vg];have:=b2 (p+i) (by omega) (by omega);omega
theorem Cg{t:SetTable}(h:xl t)(j:Nat):SetTable.has t.dummies j=false:=by
 rw[h.du];rfl
theorem lO{t:SetTable}(h:xl t)(j:Nat):(t.slot j=.empty/\t.place[SetTable.below t.place j]?≠some j)\/∃i,t.slot j=.live i:=by
 unfold SetTable.slot;dsimp only;by_cases c:t.place[SetTable.below t.place j]?=some j
 ·rw[zP (by rw[c]; exact ja _)];exact .inr ⟨_,rfl⟩
 ·rw[zS (by rw[Zi]; exact c),Cg h,zS xG];exact .inl ⟨rfl,c⟩
theorem Ex{t:SetTable}(h:xl t){f:Nat->Int}{hh:Int}:∀(n:Nat)(p:SetTable.Probe){j:Nat}{d:Option Nat},p.dummy=none->SetTable.probe.go t f hh n p=some (.empty j d)->d=none/\t.place[SetTable.below t.place j]?≠some j
 |0,p,j,d,hp,e=>by
  unfold SetTable.probe.go at e;cases e
 |n+1,p,j,d,hp,e=>by
  have adv:(t.advance p).dummy=none:=by
   unfold SetTable.advance
   split
   ·exact hp
   ·exact hp
  unfold SetTable.probe.go at e;rcases lO h p.j with⟨s,no⟩|⟨i,s⟩
  ·rw[s]at e;dsimp only at e;cases e;exact⟨hp,no⟩
  ·rw[s]at e;dsimp only at e
   split at e
   ·cases e
   ·exact Ex h n (t.advance p) adv e
theorem xl.U4(t:SetTable)(n:Nat):xl (t.standIn n):=⟨rfl,by
 show(Array.range n).toList.Pairwise (·<·);rw[Array.toList_range];exact BU⟩
theorem xl.lay{t:SetTable}(h:xl t)(es:Array (Int×Value))(hh:Int)(x:Value):xl (layNew t es hh x).2.1:=by
 unfold layNew
 split
 ·rename_i slot wd hs;dsimp only
  have put:xl (t.put slot).1:=by
   unfold SetTable.freeSlot at hs
   split at hs
   ·rename_i j d e;obtain⟨rfl,no⟩:=Ex h _ _ (show(t.probeStart hh).dummy=none from rfl) e;cases hs;unfold SetTable.put;refine⟨?_,?_⟩
    ·show(if SetTable.has t.dummies _=true then _ else _)=_;rw[Cg h,zS xG];exact h.du
    ·exact cu h.up no
   ·cases hs
  unfold SetTable.orStandIn
  split
  ·exact put
  ·exact xl.U4 _ _
 ·exact xl.U4 _ _
theorem xl.plain{t:SetTable}(h:xl t)(b:Bool):xl { t with plain:=b }:=⟨h.du,h.up⟩
theorem Sd{mask finger moves:Nat}{led plain:Bool}{hs:Array Int}{t':SetTable}{order:Array Nat}(e:SetTable.laid mask finger moves led plain hs=some (t',order)):xl t'/\t'.led=led:=by
 unfold SetTable.laid at e;cases c:SetTable.layClean mask hs with
 |none=>rw[c]at e; cases e
 |some owner=>
  rw[c]at e;cases e;refine⟨⟨rfl,?_⟩,rfl⟩;show((List.filterMap _ _).map _).Pairwise _;refine BF _ (R:=λa b:Nat×Nat=>a.1<b.1) (λa b z=>z) ?_;refine List.Pairwise.filterMap _ (R:=λa b:Nat=>a<b) (λa b z x hx y hy=>?_) BU;obtain⟨_,_,rfl⟩:=Kj.mp hx;obtain⟨_,_,rfl⟩:=Kj.mp hy;exact z
theorem xl.Kx{t:SetTable}(es:Array (Int×Value))(n:Nat)(h:xl t):xl (relayAll t es n).2.1/\(relayAll t es n).2.1.led=t.led:=by
 unfold relayAll
 split
 ·rename_i t' order e;dsimp only
  split
  ·exact Sd e
  ·exact⟨xl.U4 _ _,rfl⟩
 ·exact⟨xl.U4 _ _,rfl⟩
theorem Si(t:SetTable)(es:Array (Int×Value))(hh:Int)(x:Value):(layNew t es hh x).2.1.led=t.led:=by
 unfold layNew
 split
 ·dsimp only;unfold SetTable.orStandIn
  split<;>rfl
 ·rfl
section
variable{prog:Program}{w:World}{K:Type}[DecidableEq K]{knd:KeyKind prog w K}{A:Around}{E:Value->Shared->Prop}
theorem put_at{h:Heap}{a:Addr}{o:Obj}{es es2:Array (Int×Value)}{ep:Nat}{t t2:SetTable}(ho:h.get? a=some o)(hd:o.data=.set es ep t) :
  (h.update a (Obj.putSet es2 t2)).get? a=some { o with data:=.set es2 (ep+1) t2 }:=by
 have e:=Heap.get?_update_self (Obj.putSet es2 t2) ho (by rw[putSet_of es2 t2 hd]; rfl);rw[putSet_of es2 t2 hd]at e;exact e
theorem Hc{s:Shared}{g:Bool->Sem Unit}(hg:∀(b:Bool)(s1:Shared)(Q1:Unit->Shared->Prop),Q1 () s1->wpAny (model prog w) A (g b) Q1 E s1){a:Addr}{o:Obj}{es:Array (Int×Value)}{ep:Nat}{t:SetTable}(ho:s.heap.get? a=some o)(hd:o.data=.set es ep t)
  {es1:Array (Int×Value)}{t2:SetTable}(hb:es1.size<scanBound)(hf:t2.fits es1.size=true)(tb:xl t2){wd:Bool}{R:Option Bool->Shared->Prop}
  (h:∀(h':Heap)(es':Array (Int×Value)) (ep':Nat) (t':SetTable),Heap.SameBut a s.heap h'->h'.get? a=some { o with data:=.set es' ep' t' }->es'.toList.Perm es1.toList->t'.fits es'.size=true->xl t'->t'.led=t2.led->R (some true) { s with heap:=h' }) :
  wpAny (model prog w) A (storeSet a es1 t2 >>= λ_=>if(!wd&&t2.tooFull)=true then g (relayAll t2 es1 (SetTable.grown es1.size)).2.2 >>= λ_=>storeSet a (relayAll t2 es1 (SetTable.grown es1.size)).1 (relayAll t2 es1 (SetTable.grown es1.size)).2.1 >>= λ_=>pure (some true)else pure (some true)) R E s:=by
 refine zD (wpAny_storeSet_of (es':=es1) (t':=t2) ho hd ?_ (Vt hb));have h1:=put_at (es2:=es1) (t2:=t2) ho hd;have k1:=Heap.SameBut.update s.heap a (Obj.putSet es1 t2)
 split
 ·have pm:=relayAll_perm t2 es1 (SetTable.grown es1.size);have hf3:=relayAll_fits t2 es1 (SetTable.grown es1.size);obtain⟨tb3,ld3⟩:=tb.Kx es1 (SetTable.grown es1.size);generalize relayAll t2 es1 (SetTable.grown es1.size)=L at *;obtain⟨es2,t3,gv⟩:=L;dsimp only at *;have hz:es2.size=es1.size:=by rw[<-wp,pm.length_eq,wp]
  refine zD (hg gv _ _ (zD (wpAny_storeSet_of (es':=es2) (t':=t3) h1 rfl (zV ?_) (Vt (by omega)))));exact h _ es2 _ t3 (k1.trans (Heap.SameBut.update _ a _)) (put_at (o:={ o with data:=.set es1 (ep+1) t2 }) h1 rfl) pm hf3 tb3 ld3
 ·exact zV (h _ es1 _ t2 k1 h1 (pT _) hf tb rfl)
theorem N6{s:Shared}{a:Addr}{o:Obj}{es:Array (Int×Value)}{ep:Nat}{t:SetTable}{k:K}{x:Value}{Q:Bool->Shared->Prop}(hkey:knd.is k x=true)(hsc:x.scannable=true)(ho:s.heap.get? a=some o)(hd:o.data=.set es ep t)(hel:ElemsOf knd es.toList)(hb:es.size+1<scanBound)(hf:t.fits es.size=true)(tb:xl t)
  (h0:(∃e∈es.toList,knd.is k e.2=true)->Q false s)
  (h1:(∀e∈es.toList,knd.is k e.2=false)->∀(h':Heap)(es':Array (Int×Value)) (ep':Nat) (t':SetTable),Heap.SameBut a s.heap h'->h'.get? a=some { o with data:=.set es' ep' t' }->es'.toList.Perm (es.toList++[(knd.hash k,x)])->t'.fits es'.size=true->xl t'->t'.led=t.led->Q true { s with heap:=h' }) :
  wpAny (model prog w) A (setAddHashed a x (knd.hash k)) Q E s:=by
 unfold setAddHashed setAddHashedIn;refine uW (zD (XE (es:=es) (t:=t) ho hd hf ?_));dsimp only;rw[byScan_of hsc (Nat.lt_of_succ_lt hb) hel,zP rfl];unfold setAddByScan;refine zD (zD (kA (zD (wpAny_setScan_of hkey ho hd hf hel ?_))));cases hr:List.findIdx? (λe=>knd.is k e.2) es.toList with
 |some j=>
  dsimp only;obtain⟨hj,hp,_⟩:=List.findIdx?_eq_some_iff_getElem.mp hr;exact zV (zV (h0 ⟨es.toList[j],vq hj,hp⟩))
 |none=>
  dsimp only;have no:∀e∈es.toList,knd.is k e.2=false:=λe he=>List.findIdx?_eq_none_iff.mp hr e he
  have gw:∀(b:Bool){s1:Shared}{Q1:Unit->Shared->Prop},Q1 () s1->wpAny (model prog w) A (match b with|true=>rule "set.scan.the-table-gave-way" |false=>pure ()) Q1 E s1:=λb _ _ q=>by
   cases b
   ·exact zV q
   ·exact kA q
  have pm:=layNew_perm t es (knd.hash k) x;have hf1:=layNew_fits t es (knd.hash k) x;have tb1:=tb.lay es (knd.hash k) x;have ld1:=Si t es (knd.hash k) x;generalize layNew t es (knd.hash k) x=L at *;obtain⟨es1,t1,wd,gv⟩:=L;dsimp only at *;rw[Array.toList_push]at pm
  have hb1:es1.size<scanBound:=by
   rw[<-wp,pm.length_eq,ya,wp];exact hb
  refine zD (gw gv ?_)
  split
  ·refine zD ?_;rw[hashByValue_scannable 8 hsc];refine zV ?_
   have tb2:xl (if plainKind x=true then t1 else { t1 with plain:=false })/\(if plainKind x=true then t1 else { t1 with plain:=false }).led=t1.led/\(if plainKind x=true then t1 else { t1 with plain:=false }).fits es1.size=true:=by
    split
    ·exact⟨tb1,rfl,hf1⟩
    ·exact⟨tb1.plain false,rfl,SetTable.fits_plain_off hf1⟩
   refine Hc (λb s1 Q1 q=>gw b q) ho hd hb1 tb2.2.2 tb2.1 λh' es' ep' t' kp g p f b l=>?_
   dsimp only;exact zV (h1 no h' es' ep' t' kp g (p.trans pm) f b ((l.trans tb2.2.1).trans ld1))
  ·refine zD (zV ?_);simp only[↓reduceIte];refine Hc (λb s1 Q1 q=>gw b q) ho hd hb1 hf1 tb1 λh' es' ep' t' kp g p f b l=>?_
   dsimp only;exact zV (h1 no h' es' ep' t' kp g (p.trans pm) f b (l.trans ld1))
end
def keyOf:Value->zM
 |.int i _=>.inl i
 |.str x _=>.inr x
 |_=>.inl 0
theorem LC{k:zM}{v:Value}(h:vW k v=true):keyOf v=k:=by
 rcases tD h with⟨i,t,rfl,rfl⟩|⟨x,t,rfl,rfl⟩<;>rfl
section
variable{prog:Program}{w:World}
def ug(prog:Program)(w:World)(a:Addr)(ks:List zM)(h:Heap):Prop:=∃o es ep t,h.get? a=some o/\o.ExactSet/\o.data=.set es ep t/\ElemsOf (yd prog w) es.toList/\es.size<scanBound/\t.fits es.size=true/\xl t/\t.led=(!w.params.followText "set-order")/\(es.toList.map λe=>keyOf e.2).Perm ks
theorem ug.keep{a:Addr}{ks:List zM}{h h':Heap}(z:ug prog w a ks h)(k:∀o,h.get? a=some o->h'.get? a=some o):ug prog w a ks h':=by
 obtain⟨o,es,ep,t,ho,r⟩:=z;exact⟨o,es,ep,t,k o ho,r⟩
theorem FD{es:List (Int×Value)}(hel:ElemsOf (yd prog w) es){e:Int×Value}(he:e∈es):vW (keyOf e.2) e.2=true:=by
 obtain⟨⟨k,hk,_⟩,_⟩:=hel e he;have hk:vW k e.2=true:=hk;rw[LC hk];exact hk
theorem CJ{ks:List zM}{k:zM}:gE ks k=true↔k∈ks:=by
 unfold gE;rw[jU];exact⟨λ⟨x,hx,e⟩=>v3 e▸hx,λh=>⟨k,h,ye rfl⟩⟩
theorem ug.add{A:Around}{E:Value->Shared->Prop}{s:Shared}{a:Addr}{ks:List zM}{k:zM}{x:Value}{Q:Bool->Shared->Prop}(z:ug prog w a ks s.heap)(hk:vW k x=true)(hb:ks.length+1<scanBound)
  (h:∀(h':Heap)(b:Bool),(∀c o,c≠a->s.heap.get? c=some o->h'.get? c=some o)->ug prog w a (vR ks k) h'->Q b { s with heap:=h' }):wpAny (model prog w) A (setAddHashed a x ((yd prog w).hash k)) Q E s:=by
 obtain⟨o,es,ep,t,ho,hx,hd,hel,hb0,hf,tb,ld,pm⟩:=z;have hz:es.size=ks.length:=by rw[<-pm.length_eq,zr,wp]
 refine N6 (knd:=yd prog w) (k:=k) hk (C1 hk) ho hd hel (by omega) hf tb (λ⟨e,he,q⟩=>?_) λno h' es' ep' t' kp g p f tb' l=>?_
 ·have q:vW k e.2=true:=q;have m:gE ks k=true:=CJ.mpr (pm.mem_iff.mp (xQ.mpr ⟨e,he,LC q⟩));have ea:vR ks k=ks:=by unfold vR; rw[m,zP rfl]
  have:=h s.heap false (λ_ _ _ e=>e) (by rw[ea]; exact⟨o,es,ep,t,ho,hx,hd,hel,hb0,hf,tb,ld,pm⟩);exact this
 ·have m:gE ks k=false:=by
   cases c:gE ks k with
   |false=>rfl
   |true=>
    exfalso
    obtain⟨e,he,q⟩:=xQ.mp (pm.mem_iff.mpr (CJ.mp c));have i:=FD hel he;rw[q]at i;have n:vW k e.2=false:=no e he;rw[n]at i;cases i
  have ea:vR ks k=ks++[k]:=by unfold vR; rw[m,zS xG]
  have ez:es'.size=es.size+1:=by rw[<-wp,p.length_eq,ya,wp]; rfl
  refine h h' true (λc oc hc e=>(kp.2 c hc).trans e) ?_;rw[ea];refine⟨_,es',ep',t',g,hx,rfl,(hel.push (knd:=yd prog w) (k:=k) hk (C1 hk)).perm p,by omega,f,tb',l.trans ld,?_⟩;refine(p.map λe=>keyOf e.2).trans ?_;rw[tR];refine pm.append (Jd ?_);show[keyOf x]=[k];rw[LC hk]
theorem iJ{A:Around}{E:Value->Shared->Prop}{s:Shared}(a:Value){Q₁:Value->Shared->Prop}(h:Q₁ (.ref s.heap.objs.size) { s with heap:=s.heap.push { cls:=.type "set",dict:=none,data:=.set #[] 0 (.fresh 0 0 (!w.params.followText "set-order")) } }) :
  codeAny (model prog w) A (.call (.builtin "set.__new__") ⟨[.type "set",a],[]⟩) (wants Q₁ E) s:=by
 refine codeAny_of_tree (show wpAny _ A.in1 (checkBuiltinCall "set.__new__" ⟨[.type "set",a],[]⟩ >>= λ_=>again (.builtin "set.__new__" ⟨[.type "set",a],[]⟩)) _ _ s from ?_);refine zD (Vv (F.newCall_set_1 a) (zV ⟨jb F.plain_set_new _,pV (F.entry_set_new) ?_⟩));rw[ZZ (F.plain_set_new) _];unfold Builtin.«set.__new__» Builtin.Frozenset.newClass;have e:=sub_set_self;obtain⟨hp,g,d,tk,os⟩:=s;dsimp only
 wp_walk
 refine XC (zV ?_);dsimp only;simp only[newObj];exact zD (wpAny_alloc (zV (zV h)))
theorem HA{A:Around}{R:Result->Shared->Prop}{d it l:Addr}{its:List Value}(hA:A.handled=none)(hdl:d≠l)(hdi:d≠it)(hli:l≠it) :
  ∀(ks:List zM)(i:Nat)(acc:List zM)(s:Shared),s.heap.IsListIter it l i->s.heap.IsList l its.toArray->i+ks.length=its.length->(∀(j:Nat)(k:zM),ks[j]?=some k->∃v,its[i+j]?=some v/\vW k v=true)->
   ug prog w d acc s.heap->acc.length+ks.length+1<scanBound->(∀h' tk,ug prog w d (ks.foldl vR acc) h'->(∀b o,b≠d->b≠it->s.heap.get? b=some o->h'.get? b=some o)->R (.ok (.ret .none)) { s with heap:=h',toks:=tk })->
   codeAny (model prog w) A (.builtin "set.update.loop" ⟨[.ref d,.ref it],[]⟩) R s
 | [],i,acc,s,st,hl,hn,hp,hd,hz,h=>by
  refine pV F.entry_set_update_loop ?_;rw[ZZ B8 _];unfold Builtin.«set.update.loop»;refine zD (Bn (by exact hA) st hl (by simp at hn ⊢; omega) λh' eb=>?_);exact zV (h h' s.toks (hd.keep λo e=>eb d o hdi e) λb o _ hb e=>eb b o hb e)
 |k::ks,i,acc,s,st,hl,hn,hp,hd,hz,h=>by
  obtain⟨v,hv,hk⟩:=hp 0 k rfl;refine pV F.entry_set_update_loop ?_;rw[ZZ B8 _];unfold Builtin.«set.update.loop»;refine zD (Bo st hl (x:=v) (by simpa using hv) λh1 st1 sb=>?_);have keep1:∀c o,c≠it->s.heap.get? c=some o->h1.get? c=some o:=λc o hc e=>(sb.2 c hc).trans e
  have hd1:ug prog w d acc h1:=hd.keep λo e=>keep1 d o hdi e
  rw[xf]at hz hn;refine zD (uW ?_);unfold setAdd;refine uW (zD ((yd prog w).pyHash (k:=k) hk ?_));refine hd1.add (s:={ s with heap:=h1,toks:=_ }) hk (by omega) λh2 bb kp2 hd2=>?_
  have keep2:∀c o,c≠d->c≠it->s.heap.get? c=some o->h2.get? c=some o:=λc o a1 a2 e=>(kp2 c o a1 (keep1 c o a2 e))
  refine zV ⟨jb (B8) _,?_⟩;have hl2:=N5 acc k;refine HA (its:=its) hA hdl hdi hli ks (i+1) (vR acc k) _ ?_ ?_ (by omega) (λj k' e=>?_) hd2 (by omega) λh' tk hd' kp=>?_
  ·exact st1.at λo e=>kp2 it o (λz=>hdi z.symm) e
  ·obtain⟨o,e,r⟩:=hl;exact⟨o,keep2 l o (λz=>hdl z.symm) hli e,r⟩
  ·obtain⟨v',hv',hk'⟩:=hp (j+1) k' (by simpa using e);exact⟨v',by rw[show i+1+j=i+(j+1) by omega]; exact hv',hk'⟩
  ·exact h h' tk hd' λc o a1 a2 e=>kp c o a1 a2 (keep2 c o a1 a2 e)
set_option maxHeartbeats 8000000 in
theorem Nj{A:Around}{E:Value->Shared->Prop}{s:Shared}{l:Addr}{o:Obj}{its:List Value}{n:Nat}{ks:List zM}{Q:Value->Shared->Prop}(hA:A.handled=none)(ho:s.heap.get? l=some o)(hc:o.cls=.type "list")(hdat:o.data=.seq its.toArray n)
  (hn:ks.length=its.length)(hp:∀(j:Nat)(k:zM),ks[j]?=some k->∃v,its[j]?=some v/\vW k v=true)(hz:ks.length+1<scanBound)
  (h:∀h' tk,ug prog w s.heap.objs.size (ks.foldl vR []) h'->(∀b o,s.heap.get? b=some o->h'.get? b=some o)->Q (.ref s.heap.objs.size) { s with heap:=h',toks:=tk }) :
  wpAny (model prog w) A (call (.type "set") [.ref l]) Q E s:=by
 obtain⟨_,_,em⟩:=gj.mro;have e1:=gj.made; have e2:=gj.sub; have e3:=gj.notType; have e4:=gj.canCreate; have e5:=F.typeCall_set_1 (.ref l);refine Jt (codeAny_of_tree (show wpAny _ _ (callAny (.type "set") _) _ _ _ from zV ⟨Code.quiet_builtin _ (by decide +kernel),pV F.entry_type_call ?_⟩));rw[Around.under_plain (weight_type_call_type "set" [.ref l] []) rfl]
 repeat (any_goals (first|wp_step|assumption))
 refine Vs (iJ (.ref l) (E:=E) (Q₁:=λv s1=>v=.ref s.heap.objs.size/\s1={ s with heap:=s.heap.push { cls:=.type "set",dict:=none,data:=.set #[] 0 (.fresh 0 0 (!w.params.followText "set-order")) } }) ⟨rfl,rfl⟩) λr s1 hr=>?_
 cases r with
 |error e=>exact hr
 |ok fl=>
  cases fl with
  |ret v=>
   obtain⟨rfl,rfl⟩:=hr;generalize hb0:(!w.params.followText "set-order")=b;obtain⟨h0,hh0⟩:∃h0,h0=s.heap.push { cls:=.type "set",dict:=none,data:=.set #[] 0 (.fresh 0 0 b) }:=⟨_,rfl⟩;have g0:h0.get? s.heap.objs.size=some { cls:=.type "set",dict:=none,data:=.set #[] 0 (.fresh 0 0 b) }:=by rw[hh0]; exact Heap.get?_push_size _ rfl
   have k0:∀c oc,s.heap.get? c=some oc->h0.get? c=some oc:=λc oc e=>by rw[hh0]; exact Heap.get?_push_of_some _ e
   have z0:h0.objs.size=s.heap.objs.size+1:=by rw[hh0]; exact Heap.size_push ..
   have set0:ug prog w s.heap.objs.size [] h0:=⟨_,#[],0,_,g0,⟨rfl,rfl,rfl⟩,rfl,λe he=>by simp at he,by decide,by rfl,⟨rfl,List.Pairwise.nil⟩,hb0.symm,pT _⟩;rw[<-hh0];have hT:Shared.TypeIs { s with heap:=h0 } (.ref s.heap.objs.size) "set" := ⟨_,g0,rfl⟩;have i1:=gj.init.lookup; have i2:=gj.init.bind (.ref s.heap.objs.size)
   repeat (any_goals (first|wp_step|assumption))
   refine Vs (Be (R:=wants (λr s2=>r=.none/\∃h' tk,s2={ s with heap:=h',toks:=tk }/\ug prog w s.heap.objs.size (ks.foldl vR []) h'/\∀b o,s.heap.get? b=some o->h'.get? b=some o) E) gj.init.plain F.entry_set_init (check_set_init_1 hT ?_)) λr2 s2 hr2=>?_
   ·have ho0:=k0 l o ho;obtain⟨oc,od,odt,os⟩:=o;simp only at hc hdat;subst hc hdat;have hl0:h0.IsList l its.toArray:=⟨_,ho0,rfl,n,rfl⟩;have s1:=F.sub_list_set; have s2:=F.sub_list_frozenset;have ne:(Value.type "list" == Value.type "dict")=false:=by decide
    have hlt:=Heap.lt_size ho;unfold Builtin.«set.__init__» noKeywords Builtin.Frozenset.updateFrom;generalize eP:pyIter=P
    wp_walk
    subst eP;refine Vx hl0 (zD (wpAny_runValue ?_));have ki:∀c oc,s.heap.get? c=some oc->(h0.push { cls:=.type "list_iterator",data:=.fields #[.ref l,.int 0 0] }).get? c=some oc:=λc oc e=>Heap.get?_push_of_some _ (k0 c oc e)
    refine HA (l:=l) (its:=its) (by simp[hA]) (xE (uU hlt)) (xE (by rw[z0]; exact wA (Zh _))) (xE (by rw[z0]; exact wA (Vp hlt))) ks 0 [] _ ⟨_,Heap.get?_push_size _ rfl,rfl,rfl⟩ ⟨_,ki l _ ho,rfl,n,rfl⟩ (by rw[xT]; exact hn) (λj k e=>by rw[xT]; exact hp j k e) (set0.keep λoc e=>Heap.get?_push_of_some _ e) (by simpa using hz) λh' tk hs kp=>?_
    refine zV (show wpAny _ _ (ret Value.none) _ _ _ from zV ⟨rfl,h',tk,rfl,hs,λc oc e=>?_⟩);have hb:=Heap.lt_size e;exact kp c oc (xE (wA hb)) (xE (by rw[z0]; exact wA (Vp hb))) (ki c oc e)
   ·cases r2 with
    |error e=>exact hr2
    |ok f2=>
     cases f2 with
     |ret r=>
      obtain⟨rfl,h',tk,rfl,hs,kp⟩:=hr2
      repeat (any_goals (first|wp_step|assumption))
      exact h _ _ hs kp
     |_=>exact hr2.elim
  |_=>exact hr.elim
end
theorem VU:Slot "set_iterator" "__next__" "set_iterator.__next__":=
 .of (owner := "set_iterator") (n := "__next__") (by rw[typeLookup_type,builtinLookup_eq_fast]; kernel_rfl) (by decide +kernel) (by decide +kernel) (by decide +kernel) (by first|exact .inl (by decide +kernel)|exact .inr (by decide +kernel)) (by rw[Bh]; kernel_rfl)
theorem HE:Slot "set_iterator" "__iter__" "set_iterator.__iter__":=
 .of (owner := "set_iterator") (n := "__iter__") (by rw[typeLookup_type,builtinLookup_eq_fast]; kernel_rfl) (by decide +kernel) (by decide +kernel) (by decide +kernel) (by first|exact .inl (by decide +kernel)|exact .inr (by decide +kernel)) (by rw[Bh]; kernel_rfl)
theorem iU:entryFor table "set_iterator.__next__" = some Builtin.«set_iterator.__next__»:=entryFor_of_tree (by kernel_rfl)
theorem iT:entryFor table "set_iterator.__iter__" = some Builtin.«dict_keyiterator.__iter__»:=entryFor_alias (id' := "dict_keyiterator.__iter__") (by kernel_rfl) (by first|rfl|decide +kernel) (by decide +kernel) (by kernel_rfl)
theorem iH:entryFor table "set.__iter__" = some Builtin.«frozenset.__iter__»:=entryFor_alias (id' := "frozenset.__iter__") (by kernel_rfl) rfl (by decide +kernel) (by kernel_rfl)
theorem HD:Manifest.owners.lookup (String.ofList "set_iterator".toList)=some Manifest.sig_set_iterator:=by kernel_rfl
theorem iQ(a:Value):argsOk "set_iterator.__next__" ⟨[a],[]⟩:=by
 unfold argsOk; rw[signature?_of (id := "set_iterator.__next__") (n:=['_','_','t','x','e','n','_','_']) (o:=['r','o','t','a','r','e','t','i','_','t','e','s']) (by kernel_rfl) HD]; kernel_rfl
theorem iP(a:Value):argsOk "set_iterator.__iter__" ⟨[a],[]⟩:=by
 unfold argsOk; rw[signature?_of (id := "set_iterator.__iter__") (n:=['_','_','r','e','t','i','_','_']) (o:=['r','o','t','a','r','e','t','i','_','t','e','s']) (by kernel_rfl) HD]; kernel_rfl
section
variable{M:Model}{A:Around}{E:Value->Shared->Prop}
theorem Nq{s:Shared}{src:Source}{n:Nat}{Q:Nat->Shared->Prop}(hn:n≠0)(h:∀i d,i<n->Q i { s with drawn:=d }):wpAny M A (choose src n) Q E s:=
 λ_ _ _=>⟨hn,h _ _ (Nat.mod_lt _ (Nat.pos_of_ne_zero hn))⟩
theorem O2{α:Type}:∀{xs:List α}{i:Nat}{x:α},xs[i]?=some x->(x::xs.eraseIdx i).Perm xs
 | [],_,_,h=>by cases h
 |y::ys,0,x,h=>by
  cases h;exact pT _
 |y::ys,i+1,x,h=>(List.Perm.swap y x _).trans ((O2 (by simpa using h)).cons y)
theorem Dw{α:Type}:∀(n:Nat)(xs:List α)(s:Shared){Q:List α->Shared->Prop},xs.length<=n->(∀ys d,ys.Perm xs->Q ys { s with drawn:=d })->wpAny M A (drawOrder n xs) Q E s
 |0,xs,s,Q,hn,h=>by
  cases xs with
  |nil=>
   unfold drawOrder;exact zV (h [] s.drawn (pT _))
  |cons _ _=>simp at hn
 |n+1,[],s,Q,hn,h=>by
  unfold drawOrder;exact zV (h [] s.drawn (pT _))
 |n+1,x::xs,s,Q,hn,h=>by
  unfold drawOrder;refine zD (Nq (by simp) λi d hi=>?_);have e:(x::xs)[i]?=some ((x::xs)[i]):=yF hi;rw[e]
  have hl:((x::xs).eraseIdx i).length<=n:=by
   rw[KS,zP hi];rw[xf]at hn ⊢;omega
  refine zD (Dw n _ { s with drawn:=d } hl λys d' p=>zV ?_);exact h _ d' ((List.Perm.cons _ p).trans (O2 e))
end
theorem El{α:Type}(next:Nat->Nat):∀(n k:Nat)(left:List α)(out:Array α),left.length<=n->(pickOrder.go next n k left out).toList.Perm (out.toList++left)
 |0,k,left,out,h=>by
  cases left with
  |nil=>
   unfold pickOrder.go;exact Jd (vC _).symm
  |cons _ _=>simp at h
 |n+1,k,left,out,h=>by
  unfold pickOrder.go;cases left with
  |nil=>exact Jd (vC _).symm
  |cons x xs=>
   have hi:next k%(x::xs).length<(x::xs).length:=Nat.mod_lt _ (by simp);have e:(x::xs)[next k%(x::xs).length]?=some ((x::xs)[next k%(x::xs).length]):=yF hi;rw[e];dsimp only
   have hl:((x::xs).eraseIdx (next k%(x::xs).length)).length<=n:=by
    rw[KS,zP hi];rw[xf]at h ⊢;omega
   refine(El next n (k+1) _ _ hl).trans ?_;rw[Array.toList_push,gk];exact(pT _).append (O2 e)
theorem cF{α:Type}(next:Nat->Nat)(xs:Array α):(pickOrder next xs).toList.Perm xs.toList:=by
 show(pickOrder.go next xs.size 0 xs.toList #[]).toList.Perm _;have:=El next xs.size 0 xs.toList #[] (by simp);simpa using this
theorem NJ{xs:Array Nat}(up:xs.toList.Pairwise (·<·)):SetTable.below xs 0=0:=by
 obtain⟨a,b,_⟩:=Ie up 0;by_cases c:SetTable.below xs 0=0
 ·exact c
 ·have:=b 0 (by omega) (by omega);omega
theorem NI{xs:Array Nat}(up:xs.toList.Pairwise (·<·)){i:Nat}(h:i<xs.size):SetTable.below xs (xs[i]+1)=i+1:=by
 obtain⟨a,b,c⟩:=Ie up (xs[i]+1);generalize SetTable.below xs (xs[i]+1)=p at *;rcases Nat.lt_trichotomy p (i+1)with q|q|q
 ·have:=c i h (by omega);omega
 ·exact q
 ·have h1:=b (i+1) (by omega) q;have h2:=BT.mp up i (i+1) (by simpa using h) (by simp; omega) (by omega);simp only[Vg]at h2;omega
section
variable{prog:Program}{w:World}{A:Around}{E:Value->Shared->Prop}
def YC(h:Heap)(I:Addr)(fs:Array Value):Prop:=h.get? I=some { cls:=.type "set_iterator",data:=.fields fs }
structure Wk(w:World)(a:Addr)(es:Array (Int×Value))(ep:Nat)(t:SetTable)(ord:List Value)(I tp:Addr)(i:Nat)(h:Heap):Prop where
 st:∃o,h.get? a=some o/\o.data=.set es ep t
 md:(w.params.followText "set-order" = true/\ord=(pickOrder (w.params.setOrder a ep) es).toList.map (·.2)/\∃sl:Nat,YC h I #[rawInt sl,rawInt i,.ref a,rawInt es.size,rawInt ep]) \/
  (w.params.followText "set-order" = false/\(!t.plain&&decide (es.size>1))=false/\t.led=true/\xl t/\ord=es.toList.map (·.2)/\∃sl:Nat,YC h I #[rawInt sl,rawInt i,.ref a,rawInt es.size,rawInt ep]/\SetTable.below t.place sl=i) \/
  ∃places:List Nat,ord=places.map (λp=>(es.getD p (0,.none)).2)/\(∀p∈places,p<es.size)/\YC h I #[.ref tp,rawInt i,.ref a,rawInt es.size,rawInt ep]/\h.get? tp=some { cls:=.type "tuple",data:=.seq (places.map λp:Nat=>rawInt p).toArray }
theorem S0{s:Shared}{a:Addr}{o:Obj}{es:Array (Int×Value)}{ep:Nat}{t:SetTable}{Q:Value->Shared->Prop}(ho:s.heap.get? a=some o)(hx:o.ExactSet)(hd:o.data=.set es ep t)(hf:t.fits es.size=true)(hb:es.size<scanBound)(tb:xl t)(ld:t.led=(!w.params.followText "set-order"))
  (h:∀h' d ord I tp,ord.Perm (es.toList.map (·.2))->s.heap.objs.size<=I->(tp=a\/s.heap.objs.size<=tp)->I≠tp->Wk w a es ep t ord I tp 0 h'->(∀b ob,s.heap.get? b=some ob->h'.get? b=some ob)->Q (.ref I) { s with heap:=h',drawn:=d }):wpAny (model prog w) A (pyIter (.ref a)) Q E s:=by
 have hT:s.TypeIs (.ref a) "set" := ⟨o,ho,hx.1⟩;refine wpAny_pyIter_slot hT F.slot_set_iter (tU (F.slot_set_iter) hT iH ?_ (F.args_set_iter_1 _));unfold Builtin.«frozenset.__iter__» Builtin.Frozenset.slot0 slotArgs;simp only[List.isEmpty_nil,B7,jT,↓reduceIte,bind_assoc,jX,bne_self_eq_false];unfold Builtin.Frozenset.addrOf Builtin.Frozenset.sizeOf;refine zD (zV ?_)
 try dsimp only
 refine zD (zV ?_);refine zD (zD (wpAny_setEntries_of (es:=es) ho hd hf (zV ?_)));unfold setDrawn setsByText;refine zD (zD (XE (es:=es) (t:=t) ho hd hf ?_));dsimp only;refine zD (zD (XC (zV (zV ?_))));show wpAny _ _ (if(!w.params.followText "set-order" && (!t.plain&&decide (es.size>1)))=true then _ else _) _ _ _;have hn:es.size<=sizeLine:=Vt hb;by_cases c:(!w.params.followText "set-order" && (!t.plain&&decide (es.size>1)))=true
 ·rw[zP c];refine zD (Dw es.size _ s (by simp) λys d p=>?_);have ly:ys.length=es.size:=by rw[p.length_eq,vD]
  refine zD (wpAny_newTuple ?_ (by rw[zr,ly]; exact hn));have ho1:(s.heap.push { cls:=.type "tuple",data:=.seq (ys.map λi:Nat=>rawInt i).toArray }).get? a=some o:=Heap.get?_push_of_some _ ho;refine zD (wpAny_setEpoch_of (es:=es) (t:=t) ho1 hd hf ?_);unfold newFields;refine zD (uv (zV ⟨_,rfl, "set_iterator",_,⟨_,Heap.get?_push_size _ rfl,rfl⟩,VU.lookup,?_⟩));refine h _ d (ys.map λp=>(es.getD p (0,.none)).2) _ s.heap.objs.size ?_ ?_ (.inr (zt _)) ?_ ⟨⟨o,Heap.get?_push_of_some _ ho1,hd⟩,.inr (.inr ⟨ys,rfl,λq hq=>?_,Heap.get?_push_size _ rfl,Heap.get?_push_of_some _ (Heap.get?_push_size _ rfl)⟩)⟩ λb ob e=>Heap.get?_push_of_some _ (Heap.get?_push_of_some _ e)
  ·refine(p.map _).trans (Jd ?_);refine List.ext_getElem (by simp) λj h1 h2=>?_
   have hj:j<es.size:=by simpa using h1
   simp[Array.getD,hj]
  ·rw[Heap.size_push];exact Vo _
  ·rw[Heap.size_push];exact xE (uU (Zh _))
  ·simpa using p.mem_iff.mp hq
 ·rw[zS c];refine zD (zV (zD (wpAny_setEpoch_of (es:=es) (t:=t) ho hd hf ?_)));unfold newFields;refine zD (uv (zV ⟨_,rfl, "set_iterator",_,⟨_,Heap.get?_push_size _ rfl,rfl⟩,VU.lookup,?_⟩));cases f:w.params.followText "set-order" with
  |true=>
   exact h _ s.drawn _ _ a ((cF (w.params.setOrder a ep) es).map (·.2)) (zt _) (.inl rfl) (xE (uU (Heap.lt_size ho))) ⟨⟨o,Heap.get?_push_of_some _ ho,hd⟩,.inl ⟨f,rfl,0,Heap.get?_push_size _ rfl⟩⟩ λb ob e=>Heap.get?_push_of_some _ e
  |false=>
   rw[f]at c ld
   have c:(!t.plain&&decide (es.size>1))=false:=by
    rw[Bool.not_eq_true]at c;exact c
   exact h _ s.drawn _ _ a (pT _) (zt _) (.inl rfl) (xE (uU (Heap.lt_size ho))) ⟨⟨o,Heap.get?_push_of_some _ ho,hd⟩,.inr (.inl ⟨f,c,ld,tb,rfl,0,Heap.get?_push_size _ rfl,NJ tb.up⟩)⟩ λb ob e=>Heap.get?_push_of_some _ e
theorem AO{s:Shared}{a:Addr}{o:Obj}{es:Array (Int×Value)}{ep:Nat}{t:SetTable}{sl g:Nat}{Q:Option (Value×Nat)->Shared->Prop}(ho:s.heap.get? a=some o)(hd:o.data=.set es ep t)(hf:t.fits es.size=true)(f:w.params.followText "set-order" = true)
  (h:Q (((pickOrder (w.params.setOrder a ep) es)[g]?).map λe=>(e.2,sl)) s):wpAny (model prog w) A (setNext a sl g ep) Q E s:=by
 unfold setNext setsByText;refine zD (XE (es:=es) (t:=t) ho hd hf ?_);dsimp only;refine zD (zD (XC (zV ?_)));show wpAny _ _ (if w.params.followText "set-order" = true then _ else _) _ _ _;rw[zP f,zS (by simp)];unfold setWalk setsByText;refine zD (zD (XE (es:=es) (t:=t) ho hd hf ?_));dsimp only;refine zD (zD (XC (zV ?_)));show wpAny _ _ (if w.params.followText "set-order" = true then _ else _) _ _ _;rw[zP f];exact zD (XC (zV (zV h)))
theorem AN{s:Shared}{a:Addr}{o:Obj}{es:Array (Int×Value)}{ep:Nat}{t:SetTable}{sl g e:Nat}{Q:Option (Value×Nat)->Shared->Prop}(ho:s.heap.get? a=some o)(hd:o.data=.set es ep t)(hf:t.fits es.size=true)(f:w.params.followText "set-order" = false)(c:(!t.plain&&decide (es.size>1))=false)(ld:t.led=true)
  (h:Q (match es[SetTable.below t.place sl]?,t.place[SetTable.below t.place sl]? with|some (_,x),some j=>some (x,j+1)|_,_=>none) s):wpAny (model prog w) A (setNext a sl g e) Q E s:=by
 unfold setNext setsByText;refine zD (XE (es:=es) (t:=t) ho hd hf ?_);dsimp only;refine zD (zD (XC (zV ?_)));show wpAny _ _ (if w.params.followText "set-order" = true then _ else _) _ _ _;rw[zS (by rw[f]; exact xG)];refine zD (zV ?_);show wpAny _ _ (if(!t.plain&&decide (es.size>1))=true then _ else _) _ _ _;rw[zS (by rw[c]; exact xG)];refine zD (show wpAny _ _ (if(!t.led&&!es.isEmpty)=true then _ else _) _ _ _ from ?_);rw[zS (by rw[ld]; exact xG)];exact zV (zV h)
theorem Me{s:Shared}{P:Fin->Shared->Prop}{Q:Option Value->Shared->Prop}(hh:A.handled=none)(h:∀h',(∀b ob,s.heap.get? b=some ob->h'.get? b=some ob)->Q none { s with heap:=h' }) :
  wpAny (model prog w) A.in1 (newExc (.type "StopIteration") [] >>= λe=>(raiseNew e:Sem Fin)) P (λe s'=>wpAny (model prog w) A (isInstance e (.type "StopIteration") >>= λb=>if b=true then pure none else throw e) Q E s') s:=by
 refine zD ?_;simp only[newExc,newTuple];refine zD (uv (zD (m:=firstArgMember _ _) (Vv (a:=Value.none) (by first|rfl|(simp only[firstArgMember]; rfl)) (uv ?_ (by size_fits)))) (by size_fits));simp only[raiseNew];refine zD (Bl ?_);rw[show A.in1.handled=none from hh];refine zD (zV ?_);refine wpAny_throw (zD ?_);refine Jv (T := "StopIteration") (b:=true) ⟨_,Heap.get?_push_size _ rfl,rfl⟩ Bg ?_;exact zV (h _ λb ob e=>Heap.get?_push_of_some _ (Heap.get?_push_of_some _ e))
theorem jL{s:Shared}{I:Addr}{fs:Array Value}{k:Nat}{v:Value}{Q:Unit->Shared->Prop}(hit:YC s.heap I fs)(hk:k<fs.size)(h:∀h',YC h' I (fs.setIfInBounds k v)->Heap.SameBut I s.heap h'->Q () { s with heap:=h' }):wpAny (model prog w) A (setField (.ref I) k v) Q E s:=
 Vy hit rfl hk (h _ (Heap.get?_update_self _ hit rfl) (Heap.SameBut.update ..))
theorem CP{s:Shared}{a:Addr}{es:Array (Int×Value)}{ep:Nat}{t:SetTable}{ord:List Value}{I tp:Addr}{i:Nat}{Q:Option Value->Shared->Prop}(hh:A.handled=none)(hIa:I≠a)(hIt:I≠tp)(hf:t.fits es.size=true)(lo:ord.length=es.size)(W:Wk w a es ep t ord I tp i s.heap)(hi:i<=ord.length)
  (h1:∀v h',ord[i]?=some v->Wk w a es ep t ord I tp (i+1) h'->Heap.SameBut I s.heap h'->Q (some v) { s with heap:=h' })
  (h0:i=ord.length->∀h',(∀b ob,b≠I->s.heap.get? b=some ob->h'.get? b=some ob)->Q none { s with heap:=h' }):wpAny (model prog w) A (pyNext (.ref I)) Q E s:=by
 obtain⟨⟨o,ho,hd⟩,md⟩:=W
 obtain⟨first,hit⟩:∃first,YC s.heap I #[first,rawInt i,.ref a,rawInt es.size,rawInt ep]:=by
  rcases md with⟨_,_,sl,z⟩|⟨_,_,_,_,_,sl,z,_⟩|⟨_,_,_,z,_⟩
  ·exact⟨_,z⟩
  ·exact⟨_,z⟩
  ·exact⟨_,z⟩
 have hT:s.TypeIs (.ref I) "set_iterator" := ⟨_,hit,rfl⟩;unfold pyNext;refine zD (Js (pW (name:=Str.ofString "__next__") hT VU (tU VU hT iU ?_ (iQ _))));unfold Builtin.«set_iterator.__next__» slotArgs;simp only[List.isEmpty_nil,B7,jT,↓reduceIte,bind_assoc,jX,bne_self_eq_false];refine zD (zV ?_)
 try dsimp only
 refine zD (Bk hit rfl ?_);show wpAny _ _ (setEntries a >>= _) _ _ s;refine zD (wpAny_setEntries_of (es:=es) ho hd hf ?_);rw[zS (by simp)];refine zD (zV ?_);rcases md with⟨f,eo,sl,z⟩|⟨f,c,ld,tb,eo,sl,z,hb⟩|⟨places,eo,hp,z,ht⟩
 ·cases(vM (hit.symm.trans z));show wpAny _ _ (setNext a (sl:Int).toNat (i:Int).toNat (ep:Int).toNat >>= _) _ _ s;rw[xB,xB,xB]
  have eg:((pickOrder (w.params.setOrder a ep) es)[i]?).map (λe=>(e.2,sl))=(ord[i]?).map λv=>(v,sl):=by
   rw[eo,xH,Vf,Option.map_map];rfl
  refine zD (AO ho hd hf f ?_);rw[eg];cases hv:ord[i]? with
  |some v=>
   show wpAny _ _ (setField (.ref I) 0 (rawInt sl) >>= _) _ _ _;refine zD (jL hit (by simp) λh2 i2 k2=>?_);refine zD (jL (s:={ s with heap:=h2 }) i2 (by simp) λh3 i3 k3=>?_);refine zV ⟨v,rfl,zV (h1 v h3 hv ⟨⟨o,?_,hd⟩,.inl ⟨f,eo,sl,?_⟩⟩ (k2.trans k3))⟩
   ·exact(k3.2 a hIa.symm).trans ((k2.2 a hIa.symm).trans ho)
   ·exact i3
  |none=>
   show wpAny _ _ (setField (.ref I) 2 .none >>= _) _ _ _;refine zD (jL hit (by simp) λh2 i2 k2=>?_)
   have e:i=ord.length:=by
    have:=KL.mp hv;omega
   exact Me hh λh3 k3=>h0 e h3 λb ob hbI eb=>k3 b ob ((k2.2 b hbI).trans eb)
 ·cases(vM (hit.symm.trans z));show wpAny _ _ (setNext a (sl:Int).toNat (i:Int).toNat (ep:Int).toNat >>= _) _ _ s;rw[xB,xB,xB];refine zD (AN ho hd hf f c ld ?_);rw[hb]
  have hps:t.place.size=es.size:=by
   simp only[SetTable.fits,xL,Zi]at hf;exact hf.1
  by_cases hlt:i<es.size
  ·have e1:es[i]?=some (es[i].1,es[i].2):=gi hlt;have e2:t.place[i]?=some (t.place[i]'(by omega)):=gi (by omega);rw[e1,e2]
   have hv:ord[i]?=some es[i].2:=by
    rw[eo,xH,Vf,e1];rfl
   show wpAny _ _ (setField (.ref I) 0 (rawInt ((t.place[i]'(by omega)+1:Nat):Int)) >>= _) _ _ _;refine zD (jL hit (by simp) λh2 i2 k2=>?_);refine zD (jL (s:={ s with heap:=h2 }) i2 (by simp) λh3 i3 k3=>?_);refine zV ⟨es[i].2,rfl,zV (h1 _ h3 hv ⟨⟨o,?_,hd⟩,.inr (.inl ⟨f,c,ld,tb,eo,t.place[i]'(by omega)+1,?_,NI tb.up (by omega)⟩)⟩ (k2.trans k3))⟩
   ·exact(k3.2 a hIa.symm).trans ((k2.2 a hIa.symm).trans ho)
   ·exact i3
  ·have e1:es[i]?=none:=Ve (by omega);rw[e1];show wpAny _ _ (setField (.ref I) 2 .none >>= _) _ _ _;refine zD (jL hit (by simp) λh2 i2 k2=>?_);exact Me hh λh3 k3=>h0 (by omega) h3 λb ob hbI eb=>k3 b ob ((k2.2 b hbI).trans eb)
 ·cases(vM (hit.symm.trans z));show wpAny _ _ (seqItems? (.ref tp) >>= _) _ _ s;refine zD (tV ht rfl ?_);have lp:places.length=es.size:=by rw[<-lo,eo,zr]
  show wpAny _ _ (match(places.map λp:Nat=>rawInt p).toArray[(i:Int).toNat]? with|some (.int place _)=>_|some _=>_|none=>_) _ _ _;rw[xB];by_cases hlt:i<places.length
  ·have e1:(places.map λp:Nat=>rawInt p).toArray[i]?=some (rawInt (places[i]:Nat)):=by simp[hlt]
   have hpi:=hp places[i] (vq hlt);have e2:es[places[i]]?=some (es[places[i]].1,es[places[i]].2):=gi hpi
   have hv:ord[i]?=some es[places[i]].2:=by
    rw[eo,xH,yF hlt];simp[Array.getD,hpi]
   rw[e1];show wpAny _ _ (setNextDrawn a ((places[i]:Nat):Int).toNat (ep:Int).toNat >>= _) _ _ _;rw[xB,xB];unfold setNextDrawn;refine zD (zD (XE (es:=es) (t:=t) ho hd hf ?_));dsimp only;rw[zS (by simp),e2];refine zV ?_;refine zD (jL hit (by simp) λh2 i2 k2=>?_);refine zV ⟨_,rfl,zV (h1 _ h2 hv ⟨⟨o,(k2.2 a hIa.symm).trans ho,hd⟩,.inr (.inr ⟨places,eo,hp,i2,(k2.2 tp hIt.symm).trans ht⟩)⟩ k2)⟩
  ·have e1:(places.map λp:Nat=>rawInt p).toArray[i]?=none:=by simp; omega
   rw[e1];show wpAny _ _ (setField (.ref I) 0 (rawInt 0) >>= _) _ _ _;refine zD (jL hit (by simp) λh2 i2 k2=>?_);refine zD (jL (s:={ s with heap:=h2 }) i2 (by simp) λh3 i3 k3=>?_);exact Me hh λh4 k4=>h0 (by omega) h4 λb ob hbI eb=>k4 b ob ((k3.2 b hbI).trans ((k2.2 b hbI).trans eb))
end
section
variable{prog:Program}{w:World}{A:Around}{E:Value->Shared->Prop}
theorem z02{a:Addr}{es:Array (Int×Value)}{ep:Nat}{t:SetTable}{ord:List Value}{I tp:Addr}(hh:A.handled=none)(hIa:I≠a)(hIt:I≠tp)(hf:t.fits es.size=true)(lo:ord.length=es.size) :
  Walks prog w A I [I,a,tp] [I] ord.length (λi v=>ord[i]?=some v) (λi h=>i<=ord.length/\Wk w a es ep t ord I tp i h) where
 sub:=λb hb=>by
  rw[w_.mp hb];exact xP ..
 frame:=λi h h' ⟨hi,W⟩ k=>by
  obtain⟨⟨o,ho,hd⟩,md⟩:=W;have kI:=k I (xP ..);have ka:=k a (wZ _ (xP ..));have kt:=k tp (wZ _ (wZ _ (xP ..)));refine⟨hi,⟨o,ka o ho,hd⟩,?_⟩;rcases md with⟨f,eo,sl,z⟩|⟨f,c,ld,tb,eo,sl,z,hb⟩|⟨places,eo,hp,z,ht⟩
  ·exact .inl ⟨f,eo,sl,kI _ z⟩
  ·exact .inr (.inl ⟨f,c,ld,tb,eo,sl,kI _ z,hb⟩)
  ·exact .inr (.inr ⟨places,eo,hp,kI _ z,kt _ ht⟩)
 item:=λi s Q E hi ⟨hle,W⟩ hQ=>CP hh hIa hIt hf lo W hle (λv h' hv W' k=>by
  have:=hQ v h' s.toks hv ⟨hi,W'⟩ λb o hb e=>(k.2 b λz=>hb (by rw[z]; exact xP ..)).trans e
  exact this) λz=>absurd z (wA hi)
 done:=λs Q E ⟨hle,W⟩ hQ=>CP hh hIa hIt hf lo W hle (λv h' hv=>by
  rw[uT (zt _)]at hv;cases hv) λ_ h' k=>hQ h' s.toks λb o hb e=>k b o (λz=>hb (by rw[z]; exact xP ..)) e
 self:=λi s Q E ⟨hle,W⟩ hQ=>by
  obtain⟨_,md⟩:=W
  have hT:s.TypeIs (.ref I) "set_iterator" := by
   rcases md with⟨_,_,sl,z⟩|⟨_,_,_,_,_,sl,z,_⟩|⟨_,_,_,z,_⟩<;>exact⟨_,z,rfl⟩
  refine wpAny_pyIter_slot hT HE (tU HE hT iT (show wpAny _ _ (ret (.ref I)) _ _ s from ?_) (iP _));exact zV ⟨_,rfl, "set_iterator",_,hT,VU.lookup,hQ⟩
theorem Ra{s:Shared}{a:Addr}{Q:Bool->Shared->Prop}(hT:s.TypeIs (.ref a) "set")(h:Q false s):wpAny (model prog w) A (Builtin.List.listLengthHint (.ref a)) Q E s:=by
 unfold Builtin.List.listLengthHint;refine zD (wpAny_specialOf hT (F.slot_set_len.lookup) ?_);generalize hi:("set.__len__" : String)=x
 wp_delta
 rw[show splitId x=some ("set", "__len__")from by subst hi; decide +kernel];subst hi;refine zD (Jv (T := "set") (b:=true) hT (by rw[Bh]; kernel_rfl) ?_);refine Bm (λz=>absurd z (by decide)) λ_=>Bm (λ_=>?_) λz=>absurd (by decide +kernel) z
 exact zD (kB hT (zV h))
theorem Nv{s:Shared}{a:Addr}{o:Obj}{es:Array (Int×Value)}{ep:Nat}{t:SetTable}{Q:List Value->Shared->Prop}(hh:A.handled=none)(ho:s.heap.get? a=some o)(hx:o.ExactSet)(hd:o.data=.set es ep t)(hf:t.fits es.size=true)(hb:es.size<scanBound)(tb:xl t)(ld:t.led=(!w.params.followText "set-order"))
  (h:∀h' d tk ord,ord.Perm (es.toList.map (·.2))->s.heap.objs.size<h'.objs.size->(∀b ob,s.heap.get? b=some ob->h'.get? b=some ob)->Q ord { s with heap:=h',drawn:=d,toks:=tk }):wpAny (model prog w) A (collect (.ref a)) Q E s:=by
 unfold collect;refine zD (wpAny_runValue (pV (entry_proto_collect') ?_));show wpAny _ _ (newList [] >>= λl=>again (.builtin "list.__iadd__" ⟨[l,.ref a],[]⟩)) _ _ s;refine zD (wpAny_newList (zV ⟨Code.quiet_builtin _ (by decide +kernel),pV (entry_list_iadd') ?_⟩));show wpAny _ _ (Builtin.List.listExtendWith (.ref s.heap.objs.size) (.ref a) (.ref s.heap.objs.size)) _ _ { s with heap:=s.heap.push (seqObj "list" #[] 0) };unfold Builtin.List.listExtendWith;have ho0:(s.heap.push (seqObj "list" #[] 0)).get? a=some o:=Heap.get?_push_of_some _ ho;have hlt:=Heap.lt_size ho;have neS:s.heap.objs.size≠a:=xE (uU hlt);refine zD (kB (T := "set") ⟨o,ho0,hx.1⟩ ?_);have q1:Builtin.List.listSameRef (.ref s.heap.objs.size) (.ref a)=false:=by simp[Builtin.List.listSameRef,neS]
 have q2:(Value.type "set" == Value.type "list")=false:=by decide
 have q3:(Value.type "set" == Value.type "tuple")=false:=by decide
 rw[zS (by rw[q1,q2,q3]; exact xG)];refine zD (S0 ho0 hx hd hf hb tb ld λh1 d ord I tp pm hI htp hIt W0 kp=>?_);refine zD (uW (Ra ⟨o,kp a o ho0,hx.1⟩ ?_));refine Bm (λ_=>?_) λz=>absurd (by decide +kernel) z
 refine zD (kA (zD ?_));have z0:(s.heap.push (seqObj "list" #[] 0)).objs.size=s.heap.objs.size+1:=Heap.size_push ..;rw[z0]at hI htp;have lo:ord.length=es.size:=by rw[pm.length_eq,zr,wp]
 have hIa:I≠a:=xE (uU (wE (Vp hlt) hI))
 have hSf:s.heap.objs.size ∉ [I,a,tp]:=λm=>by
  simp only[yV,wb,or_false]at m;rcases m with m|m|m
  ·exact absurd hI (by rw[<-m]; exact Kf _)
  ·exact neS m
  ·rcases htp with e|e
   ·exact neS (m.trans e)
   ·exact absurd e (by rw[<-m]; exact Kf _)
 show wpAny _ _ (updateSeq s.heap.objs.size (·.push .none) >>= λ_=>updateSeq s.heap.objs.size (·.pop)) _ _ _;have S1:h1.get? s.heap.objs.size=some (seqObj "list" #[] 0):=kp _ _ (Heap.get?_push_size _ rfl);refine zD (Vz S1 rfl ?_);have S2:=Heap.get?_update_self (Obj.mapSeq (·.push Value.none)) S1 rfl;refine Vz (hz:=by seq_fits) S2 rfl (zV ⟨jb (F.plain_extend_loop) _,?_⟩);have S3:=Heap.get?_update_self (Obj.mapSeq (·.pop)) S2 rfl;have W:=z02 (prog:=prog) (w:=w) (A:=A.in1) (ep:=ep) (t:=t) (es:=es) (by exact hh) hIa hIt hf lo
 have keep:∀b ob,b≠s.heap.objs.size->h1.get? b=some ob->((h1.update s.heap.objs.size (Obj.mapSeq (·.push Value.none))).update s.heap.objs.size (Obj.mapSeq (·.pop))).get? b=some ob:=λb ob hbS e=>
  (Heap.get?_update_other _ _ (tT hbS)).trans ((Heap.get?_update_other _ _ (tT hbS)).trans e)
 refine codeAny_extend_loopS W.toS (by rw[lo]; exact Vt hb) s.heap.objs.size hSf (.ref s.heap.objs.size) ord.length 0 _ #[] _ rfl (uu _) (W.frame 0 h1 _ ⟨uu _,W0⟩ λb hb' ob e=>keep b ob (λz=>hSf (z▸hb')) e) S3 (ItemsOf.nil _) λs' acc' c' hm hS' hacc=>?_
 rw[Moved.eq_with hm];refine zD (wpAny_load hS' ?_)
 have ea:acc'.toList=ord:=by
  refine X7 λj=>?_
  by_cases c:j<ord.length
  ·have hj:j<acc'.size:=by rw[hacc.1]; exact c
   rw[Vf,gi hj];exact(hacc.2 j _ (gi hj)).symm
  ·rw[uT (by rw[wp,hacc.1]; omega),uT (by omega)]
 show wpAny _ _ (pure acc'.toList) _ _ _;rw[ea];refine zV (h s'.heap d s'.toks ord pm (Heap.lt_size hS') λb ob e=>?_);have hbl:=Heap.lt_size e;refine hm.heap b ob (λm=>?_) (keep b ob (xE (wA hbl)) (kp b ob (Heap.get?_push_of_some _ e)));rcases yV.mp m with m|m
 ·exact absurd hbl (by rw[m]; exact wQ _)
 ·rw[w_.mp m]at hbl;exact absurd (wE hbl (Nat.le_of_succ_le hI)) (wQ _)
end
def Oz:Value->Int
 |.int i _=>i
 |_=>0
theorem Fv:∀{vs:List Value},(∀v∈vs,∃i t,v=.int i t)->IntsAre vs (vs.map Oz)
 | [],_=>.nil
 |v::vs,h=>by
  obtain⟨i,t,rfl⟩:=h v (xP ..);exact .cons _ _ (Fv λx hx=>h x (wZ _ hx))
section
variable{prog:Program}{w:World}{A:Around}{E:Value->Shared->Prop}
theorem lR{s:Shared}{a:Addr}{ns:List Int}{Q:Value->Shared->Prop}(hh:A.handled=none)(z:ug prog w a (ns.map Sum.inl) s.heap)(h64:ns.length<64)
  (h:∀h' d tk p out c ns',s.heap.objs.size<=p->h'.get? p=some (seqObj "list" out c)->IntsAre out.toList ns'->ns'.Perm ns->ns'.Pairwise (·<=·)->(∀b ob,s.heap.get? b=some ob->h'.get? b=some ob)->Q (.ref p) { s with heap:=h',drawn:=d,toks:=tk }) :
  wpAny (model prog w) A (call (.builtin "sorted") [.ref a]) Q E s:=by
 obtain⟨o,es,ep,t,ho,hx,hd,hel,hb,hf,tb,ld,pk⟩:=z;refine Calls.call_function_entry kind_sorted plain_sorted entry_sorted (args_sorted1 _) ?_;unfold Builtin.«sorted»;refine zD (m:=checkCount "sorted" 1 1 _) (zV (zD (Nv (by exact hh) ho hx hd hf hb tb ld λh1 d tk ord pm hle kp=>zD (wpAny_newList ?_ (by rw[pm.length_eq,zr,wp]; exact Vt hb)))))
 have pk2:(ord.map keyOf).Perm (ns.map Sum.inl):=by
  have:=pm.map keyOf;rw[vc]at this;exact this.trans pk
 have hv:∀v∈ord,∃i tk,v=Value.int i tk:=λv hv=>by
  obtain⟨e,he,rfl⟩:=xQ.mp (pm.mem_iff.mp hv);obtain⟨i,_,ei⟩:=xQ.mp (pk2.mem_iff.mp (List.mem_map_of_mem hv));have:=FD hel he;rw[<-ei]at this;rcases tD this with⟨j,tk,_,e⟩|⟨x,tk,e,_⟩
  ·exact⟨j,tk,e⟩
  ·cases e
 have hI:=Fv hv
 have pj:(ord.map Oz).Perm ns:=by
  have g:=pk2.map λk:zM=>match k with|.inl i=>i|.inr _=>(0:Int)
  rw[vc,vc]at g
  have e1:ns.map ((λk:zM=>match k with|.inl i=>i|.inr _=>(0:Int))∘Sum.inl)=ns:=by
   rw[show((λk:zM=>match k with|.inl i=>i|.inr _=>(0:Int))∘Sum.inl)=id from rfl,gu]
  have e2:ord.map ((λk:zM=>match k with|.inl i=>i|.inr _=>(0:Int))∘keyOf)=ord.map Oz:=KZ λv hvv=>by
   obtain⟨i,tk,rfl⟩:=hv v hvv;rfl
  rw[e1,e2]at g;exact g
 have l64:ord.length<64:=by
  have:=pj.length_eq;rw[zr]at this;omega
 have g1:(h1.push (seqObj "list" ord.toArray 0)).get? h1.objs.size=some (seqObj "list" ord.toArray 0):=Heap.get?_push_size _ rfl;refine zD (uW (tU slot_list_sort ⟨_,g1,rfl⟩ entry_list_sort (list_sort_tree g1 hI l64 λout ns' a1 a2 a3=>⟨_,rfl,?_⟩) (args_list_sort _)));obtain⟨c,hc⟩:=sortedHeap_at (vs:=ord) (out:=out) g1;refine zV ⟨_,rfl,h _ d tk h1.objs.size out c ns' (jZ hle) hc a1 (a2.trans pj) a3 λb ob e=>?_⟩;have hbl:=Heap.lt_size (kp b ob e);rw[sortedHeap_old (xE (wA hbl)) (by rw[size_push']; exact Vp hbl)];exact Heap.get?_push_of_some _ (kp b ob e)
end
section
variable{X:Cx}
abbrev XU(prog:Program)(w:World)(a:Addr)(ks:List zM):HO:=.ext (ug prog w a ks)
def dG(X:Cx):List V->Hp->VK->Prop:=λxs H Q=>∃(a:Addr) (ks:List zM),xs=[.ref a]/\yP X.K H a (ks.map kV)/\ks.length<1000/\∀p,H p=none->Q (.ref p) (zb H p (XU X.prog X.w p (ks.foldl vR [])))
theorem Ni(hcalm:X.calm=true):wS X (.type "set") (dG X):=by
 intro z6 s σ H xs us Q I r h;obtain⟨a,ks,rfl,sq,hl,q⟩:=h;obtain⟨u,rfl,ru⟩:=vY r;cases(show u=Value.ref a from ru);obtain⟨its,rv,⟨o,n,ho,hc,hdd,hdat⟩,hz⟩:=I.list sq;have hn:ks.length=its.length:=by rw[<-rv.length,zr]
 refine Nj (I.ok.hd hcalm) ho hc hdat hn (C3 X.prog X.w rv) (by unfold scanBound; omega) λh' tk hs kp=>?_
 refine⟨.ref s.heap.objs.size,_,I.laid (a:=s.heap.objs.size) (o:=XU X.prog X.w s.heap.objs.size (ks.foldl vR [])) (t':=tk) kp (zt _) ⟨hs,?_,λh1 h2 z k=>z.keep k⟩,rfl,q _ I.fresh⟩;obtain⟨o',_,_,_,e,_⟩:=hs;exact⟨o',e⟩
theorem _root_.L2.Inv.draw{z6:List (Addr×Obj)}{σ:St}{H:Hp}{s:Shared}(I:Inv X z6 σ H s)(d:Drawn):Inv X z6 σ H { s with drawn:=d }:=⟨I.ok,I.os,I.bare,I.base,I.loc,I.cell,I.free,I.uX,I.pin,I.zg,I.len⟩
def dL(X:Cx):List V->Hp->VK->Prop:=λxs H Q=>∃(a:Addr) (ns:List Int),xs=[.ref a]/\H a=some (XU X.prog X.w a (ns.map Sum.inl))/\ns.length<64/\∀l,H l=none->Q (.ref l) (zb H l (.lst ((isort ns).map V.int)))
theorem Nk(hcalm:X.calm=true):wS X (.builtin "sorted") (dL X):=by
 intro z6 s σ H xs us Q I r h;obtain⟨a,ns,rfl,ea,h64,q⟩:=h;obtain⟨u,rfl,ru⟩:=vY r;cases(show u=Value.ref a from ru);obtain⟨z,_⟩:=(show xC X.prog X.w H s.heap a (XU X.prog X.w a (ns.map Sum.inl))from I.zg a _ ea);refine lR (I.ok.hd hcalm) z h64 λh' d tk p out c ns' hp hc a1 a2 a3 kp=>?_
 have e:ns'=isort ns:=Mc (a2.trans (isort_perm ns).symm) a3 (isort_sorted ns);subst e;have hl2:(isort ns).length=ns.length:=(isort_perm ns).length_eq;refine⟨.ref p,_,(I.draw d).laid (t':=tk) (h':=h') kp hp (show xC X.prog X.w _ _ _ (.lst ((isort ns).map V.int))from⟨?_,out.toList,c,L1 a1,?_⟩),rfl,q _ (I.zg.fresh hp)⟩
 ·rw[zr,hl2];show _<=sizeLine;rw[wR];omega
 ·rw[K9];exact hc
end
end L2
namespace L3
open PySem PySem.Spec PyProof.Rows L2
def pz(acc:List Int)(n:Int):List Int:=if(acc.any λm=>decide (m=n))=true then acc else acc++[n]
def tJ(ns:List Int):List Int:=ns.foldl pz []
theorem N4(acc:List Int)(n:Int):vR (acc.map Sum.inl) (.inl n)=(pz acc n).map Sum.inl:=by
 have e:gE (acc.map Sum.inl) (.inl n)=acc.any λm=>decide (m=n):=by
  unfold gE;rw[List.any_map]
  congr 1
  funext m
  exact Jp.mpr ⟨pU,congrArg _⟩
 unfold vR pz;rw[e]
 split
 ·rfl
 ·rw[tR];rfl
theorem EY:∀(ns acc:List Int),(ns.map Sum.inl).foldl vR (acc.map Sum.inl)=(ns.foldl pz acc).map Sum.inl
 | [],_=>rfl
 |n::ns,acc=>by
  rw[xw,Zb,Zb,N4];exact EY ns (pz acc n)
def Ts:List D->Option D
 | [.lst xs]=>(intsOf xs).bind λns=>if ns.length<1000/\(tJ ns).length<64 then some (.lst ((isort (tJ ns)).map D.int))else none
 |_=>none
theorem iO{X:Cx}{e:Expr}{fs:FA}{p p2 pos pos2:Pos}(hcalm:X.calm=true)(hg:Gl X "sorted")(hm:X.mg "sorted" = none)(hg2:Gl X "set")(hm2:X.mg "set" = none)(ha:SA X [e] fs)(hs:xX e=true:=by rfl) :
  SF X (.Call (.Name "sorted" p) [.Call (.Name "set" p2) [e] [] pos2] [] pos) (eL Ts fs):=by
 obtain⟨t,pt,k⟩:=ha.h;have q1:=WB (p:=p2) (pos:=pos2) (Ni hcalm) hg2 hm2 NU ⟨pt⟩ (by decide) (by decide) (by rw[vA,hs]; rfl);refine⟨⟨_,(M8 (p:=p) (pos:=pos) (Nk hcalm) hg hm Dh (GC q1 GD) (by decide) (by decide)).h,λ{G0 H0 G H τ σ d Q} E hf q=>?_⟩⟩;obtain⟨ds,hd,hf⟩:=zU hf;refine k E hd λvs G1 H1 x1 r1=>?_
 match ds,hf with
 | [.lst xs],hf=>
  obtain⟨ns,hn,hf⟩:=zU (show(intsOf xs).bind _=some d from hf)
  split at hf
  ·rename_i h64;cases hf;obtain⟨v,rfl,a,us,rfl,sq,rs,l⟩:=gQ r1;rw[L4 hn]at rs l;rw[ME rs]at sq
   have sq:yP X.K G1 a ((ns.map Sum.inl).map kV):=by
    rw[vc];exact sq
   have ek:(ns.map Sum.inl).foldl vR []=(tJ ns).map Sum.inl:=EY ns [];refine⟨a,ns.map Sum.inl,rfl,wM x1.gh sq,by rw[zr]; exact h64.1,λp1 hp1=>?_⟩;have x2:=x1.trans (zZ.uZ (o:=XU X.prog X.w p1 ((ns.map Sum.inl).foldl vR [])) x1.gh hp1);refine⟨p1,tJ ns,rfl,by rw[ek]; exact yT,h64.2,λp hp=>?_⟩;refine q p _ _ (x2.trans (zZ.uZ x2.gh hp)) (x2.h.free hp) (x2.gh.free hp) ⟨_,yT,O_ _,?_⟩;rw[zr,(isort_perm _).length_eq];show _<=16777216;omega
  ·cases hf
end L3
namespace L2
open PySem PySem.Spec PyProof PyProof.Rows
section
variable{X:Cx}{tg:Expr}
end
end L2
namespace L3
open PySem PySem.Spec PyProof.Rows L2
end L3
namespace L2
open PySem PySem.Spec PyProof PyProof.Rows
section
variable{X:Cx}
end
end L2
namespace L3
open PySem PySem.Spec PyProof.Rows L2
section
variable{X:Cx}{x y:Str}{xp yp pos apos cpos:Pos}{e:Expr}{f:FE}
end
section
variable{K:W.Frag}{n:Nat}{G0 H0 G H G' H':Hp}{τ:y4}{σ:St}{i:Nat}{nds:List (List D)}{p:Addr}{qs:List Addr}
end
section
variable{X:Cx}{i:Nat}{x:Str}{p pos pos' apos cpos xp sp:Pos}{e k v c tg iter:Expr}{f fk fv:FE}{ft:FT}{fs:FA}{st:Stmt}{sts body sa sb:List Stmt}{g g':NFS}{fg:FG}
end
section
variable{X:Cx}{i:Nat}{x:Str}{pos pos' p spos:Pos}{e tg iter:Expr}{st:Stmt}{fi:y4->Option Nat}{fs:FA}{rest:List Stmt}{g:NFS}{scope:Scope}{cl:List (Str×Addr)}{own:List Str}{tG:TG}{fg:FG}
end
section
variable{P:Program}{w:World}{K:W.Frag}{mg:Str->Option Value}{base:Heap}
end
section
variable{X:Cx}{e:Expr}{es:List Expr}{f:FE}{fs:FA}{x:Str}{p pos:Pos}{ps:List Str}{j k:Nat}{FF:List D->Option (Bool×D)}
end
end L3
namespace L2
open PySem PySem.Spec PyProof PyProof.Rows
section
variable{prog:Program}{w:World}{A:Around}{E:Value->Shared->Prop}
end
section
variable{X:Cx}
theorem C7:∀{kvs:List (zM×V)} {vs:List (zM×Value)},KV kvs vs->vs.map (·.1)=kvs.map (·.1)
 |_,_,.nil=>rfl
 |_,_,.cons r t=>by rw[xw,xw,C7 t,r.1]
end
end L2
namespace L3
open PySem PySem.Spec PyProof.Rows L2
end L3
namespace L2
open PySem PySem.Spec PyProof PyProof.Rows
section
variable{X:Cx}{x:Str}{e:Expr}{es:List Expr}{t:TA}{p pos:Pos}{i j:Nat}
end
end L2
namespace L3
open PySem PySem.Spec PyProof.Rows L2
section
variable{X:Cx}{x y o gn:Str}{e:Expr}{es:List Expr}{fs:FA}{p p2 pos pos' xp gp op apos cpos:Pos}{i io iy j:Nat}{body rest:List Stmt}{t:TS}{g:FS}
end
section
variable{X:Cx}{x y o gn:Str}{e:Expr}{es:List Expr}{fs:FA}{p p2 pos pos' xp xp2 gp op apos cpos:Pos}{i io iy j:Nat}{rest:List Stmt}{g:FS}{a:Addr}{names:List Str}{Fs:List (List D->Option (Bool×D))}{gs:List FS}
end
section
variable{α:Type}{P:List α->Prop}
theorem Hn(h:P []):∀us:List α,us.length=0->P us
 | [],_=>h
theorem JD{n:Nat}(h:∀a (r:List α),r.length=n->P (a::r)):∀us:List α,us.length=n+1->P us
 |a::r,e=>h a r (Nat.succ.inj e)
theorem xq(h:∀a,P [a]):∀us:List α,us.length=1->P us:=JD λa=>Hn (P:=λr=>P (a::r)) (h a)
theorem wz(h:∀a b,P [a,b]):∀us:List α,us.length=2->P us:=JD λa=>xq (P:=λr=>P (a::r)) (h a)
theorem jQ(h:∀a b c,P [a,b,c]):∀us:List α,us.length=3->P us:=JD λa=>wz (P:=λr=>P (a::r)) (h a)
theorem rR(h:∀a b c d,P [a,b,c,d]):∀us:List α,us.length=4->P us:=JD λa=>jQ (P:=λr=>P (a::r)) (h a)
end
abbrev yG(x:Str)(st:Stmt)(oc:Value)(od:Option Addr)(sl:Array (Option Value))(kV dc pm:Value)(an:Option Addr)(cd ct:Value):Option Obj:=some ⟨oc,od,.func (W.fnOf x x (YJ st) (p9 st) (zw st) .none kV dc pm an cd ct),sl⟩
section
variable{P:Program}{w:World}{K:W.Frag}{mg:Str->Option Value}{base:Heap}
end
section
variable{X:Cx}{tg iter elt:Expr}{scope:Scope}{cl:List (Str×Addr)}{own:List Str}{pos p1:Pos}{fs:FA}{fg:FG}{f:FE}{tG:TG}{st:Stmt}{sts:List Stmt}{g:FS}{b:FSN}
end
open PyProof
section
variable{X:Cx}{i m:Nat}{x:Str}{es:List Expr}{p pos pos' spos:Pos}
end
section
variable{X:Cx}{K:W.Frag}
end
end L3
namespace L2
open PySem PySem.Spec PyProof PyProof.Rows
def ue(K:W.Frag)(w:World)(a:Addr)(ks:List zM)(us:List V):Prop:=
 (a==sysModules)=false/\ks.length=us.length/\∃ep,∀(P:Program)(h:Heap),K.In h->∃vs,KV (ks.zip us) vs/\h.DictAt (yd P w) a vs ep
theorem LD{k:zM}{v:Value}(h:vW k v=true):z_ (kV k) v:=by
 rcases tD h with⟨i,t,rfl,rfl⟩|⟨x,t,rfl,rfl⟩
 ·exact⟨t,rfl⟩
 ·exact⟨t,rfl⟩
def IM(ks:List zM):It:=⟨λi _=>i<ks.length,λi H v H'=>H'=H/\∃k,ks[i]?=some k/\v=kV k,λi _=>ks.length<=i⟩
theorem ui:∀{kvs:List (zM×V)} {vs:List (zM×Value)},KV kvs vs->vs.length=kvs.length
 |_,_,.nil=>rfl
 |_,_,.cons _ t=>by rw[xf,xf,ui t]
theorem oF{P:Program}{w:World}{K:W.Frag}{tg:Expr}{ks:List zM}{us:List V}{ep:Nat}(a it:Addr)(hl:ks.length=us.length)(g:∀(P:Program)(h:Heap),K.In h->∃vs,KV (ks.zip us) vs/\h.DictAt (yd P w) a vs ep) :
  tq P w K tg (IM ks) [it] it (λi h=>h.IsKeyIter it a i ks.length ep) where
 mem:=by simp
 obj:=λi h st b hb=>by
  have e:b=it:=by simpa using hb
  subst e;obtain⟨o,e,c,d⟩:=st;exact⟨o,e,λv z=>by rw[d]at z; cases z⟩
 keep:=λi h h' st k=>st.at λo e=>k it (by simp) o e
 item:=by
  intro X hP hw hK hc i z6 s σ H E I hf st hg;subst hP hw hK;obtain⟨vs,rel,dd⟩:=g X.prog s.heap I.uw;have ln:vs.length=ks.length:=by rw[ui rel,tQ,hl,tS]
  have hi:i<vs.length:=by rw[ln]; exact hg
  have hx:vs[i]?=some (vs[i].1,vs[i].2):=yF hi
  have hk:ks[i]?=some vs[i].1:=by
   have e:=congrArg (λl:List zM=>l[i]?) (C7 rel);simp only[xH,hx,Option.map_some,List.map_fst_zip (show ks.length<=us.length by omega)]at e;exact e.symm
  obtain⟨f0,f1,f2,f3,f4,f5⟩:=hf it (by simp);rw[<-ln]at st;refine wpAny_pyNext_dict_item st dd hx λkey h' hkey st' sb=>?_
  rw[ln]at st';have I1:Inv X z6 σ H { s with heap:=h' }:=I.turned (t':=s.toks) (λb o hb e=>(sb.2 b hb).trans e) f0 f1 f3 f4 f5;obtain⟨o,e,c,d⟩:=id st';exact⟨key,rfl,YT (s:={ s with heap:=h' }) e c d (by decide) ⟨kV vs[i].1,H,I1,LD hkey,⟨rfl,_,hk,rfl⟩,st',λb hb=>(hf b hb).1⟩⟩
 done:=by
  intro X hP hw hK hc i z6 s σ H E I hf st hg;subst hP hw hK;obtain⟨vs,rel,dd⟩:=g X.prog s.heap I.uw;have ln:vs.length=ks.length:=by rw[ui rel,tQ,hl,tS]
  have hx:vs[i]?=none:=uT (by rw[ln]; exact hg);obtain⟨f0,f1,f2,f3,f4,f5⟩:=hf it (by simp);rw[<-ln]at st;exact wpAny_pyNext_dict_end (I.ok.hd hc) st dd hx λh' eb=>⟨rfl,I.turned (t':=s.toks) (λb o hb e=>eb b o hb e) f0 f1 f3 f4 f5⟩
 self:=λ_ _ _ _ _ st h=>wpAny_pyIter_keyiter st h
def Rg(ks:List zM):TI:=λ_ H R=>R (IM ks) H
theorem bx{X:Cx}{tg:Expr}{x:Str}{p:Pos}{A:Addr}{ks:List zM}{us:List V}(h:yf X.mg x (.ref A))(g:ue X.K X.w A ks us)(hg:Gl X x)(hd:(x==("__debug__" : Str))=false:=by decide):PI X tg (.Name x p) (Rg ks):=by
 intro z6 s σ H R I hR;obtain⟨hsys,hl,ep,mk⟩:=g;refine zo (W6 (pos:=p) h hg hd z6 s σ H (λv H1=>v=.ref A/\H1=H) I ⟨rfl,rfl⟩) λv s1 ⟨y,H1,I1,r1,e1,e2⟩=>?_
 subst e1 e2;cases(show v=Value.ref A from r1);obtain⟨vs,rel,dd⟩:=mk X.prog s1.heap I1.uw;have ln:vs.length=ks.length:=by rw[ui rel,tQ,hl,tS]
 refine Jw hsys dd ?_;rw[ln];refine⟨s1.heap.objs.size,[s1.heap.objs.size],_,_,H1,rfl,I1.kept (t':=s1.toks) λb o e=>Heap.get?_push_of_some _ e,oF A _ hl mk,⟨_,Heap.get?_push_size _ rfl,rfl,rfl⟩,λb hb=>?_,hR⟩;have e:b=s1.heap.objs.size:=by simpa using hb
 subst e;exact I1.qp (zt _) (I1.zg.fresh (zt _))
end L2
namespace L3
open PySem PySem.Spec PyProof PyProof.Rows L2
def keyOf:zM->D
 |.inl i=>.int i
 |.inr x=>.str x
def uN:zM->Bool
 |.inl _=>true
 |.inr x=>decide (x.length<=yb)
def iG(ks:List zM):FA:=λ_=>some (ks.map keyOf)
theorem LE{K:W.Frag}{G:Hp}{k:zM}(h:uN k=true):zi K G (keyOf k) (kV k):=by
 cases k with
 |inl i=>rfl
 |inr x=>exact⟨rfl,by rw[wR]; exact v3 h⟩
theorem Pl{K:W.Frag}{G:Hp}{ks:List zM}(h:ks.all uN=true):t4 K (IM ks) G (ks.map keyOf) where
 go:=λi G2 H _ _ hi=>by rw[zr]at hi; exact hi
 vE:=λi G2 H x H' g1 g2 hi y=>by
  obtain⟨rfl,k,hk,rfl⟩:=y;exact⟨G2,keyOf k,zZ.refl g2,by rw[xH,hk]; rfl,LE (vB.mp h k (qT hk))⟩
 stop:=λi G2 H _ _ hi=>by rw[zr]at hi; exact hi
theorem Mb{X:Cx}{tg:Expr}{x:Str}{p:Pos}{A:Addr}{ks:List zM}{us:List V}(h:yf X.mg x (.ref A))(g:ue X.K X.w A ks us)(hg:Gl X x)(hk:ks.all uN=true)(hn:ks.length<=1000)(hd:(x==("__debug__" : Str))=false:=by decide):SI X tg (.Name x p) (iG ks):=
 ⟨⟨_,bx h g hg hd,λ{G0 H0 G H τ σ ds R} K hf q=>by
  cases hf;exact q _ _ _ (zZ.refl K.ext.gh) (by rw[zr,wR]; exact xj hn (by decide)) (Pl hk)⟩⟩
theorem OH{K:W.Frag}{w:World}{a:Addr}{es:List DictEntry}{n:Nat}{xs:List Str}{vs:List Value}{us:List V}(l:K.lookup a=some { cls:=.type "dict",data:=.dict es.toArray n })(e:qt w es xs vs)(nd:xs.Nodup)(hs:(a==sysModules)=false)(r:zu us vs) :
  ue K w a (xs.map .inr) us:=by
 have hl:(xs.map Sum.inr:List zM).length=us.length:=by rw[zr,e.len,r.length]
 refine⟨hs,hl,n,λP h KI=>⟨_,LH r hl,?_⟩⟩;obtain⟨p,q⟩:=e.pairs (P:=P);refine⟨_,_,KI _ _ l,⟨rfl,rfl,rfl⟩,rfl,λe he=>q e (by simpa using he),p,?_⟩;rw[B5 (by rw[zr]; exact e.len)];exact BF _ (λa b h z=>h (Jn z)) nd
end L3
namespace L2
open PySem PySem.Spec PyProof PyProof.Rows
def DG(r d:Addr)(h:Heap):Prop:=h.IsValuesView r d
abbrev XY(r d:Addr):HO:=.ext (DG r d)
section
variable{X:Cx}{A:Addr}{ks:List zM}{us:List V}{x:Str}{p apos cpos:Pos}
def Hb(A:Addr):TE:=λ_ H Q=>∀r,H r=none->Q (.ref r) (zb H r (XY r A))
theorem bi(h:yf X.mg x (.ref A))(g:ue X.K X.w A ks us)(hg:Gl X x)(hd:(x==("__debug__" : Str))=false:=by decide)
  (hbase:attributeBase (.Name x p) "values" X.env (eval (.Name x p) X.env)=eval (.Name x p) X.env:=by rfl)(hline:(apos.endLine==cpos.line)=true:=by rfl) :
  PE X (.Call (.Attribute (.Name x p) "values" apos) [] [] cpos) (Hb A):=by
 intro z6 s σ H Q I hQ;obtain⟨hsys,hl,ep,mk⟩:=g;refine Bj hbase hline (zo (W6 (pos:=p) h hg hd z6 s σ H (λv H1=>v=.ref A/\H1=H) I ⟨rfl,rfl⟩) λv s1 ⟨y,H1,I1,r1,e1,e2⟩=>?_);subst e1 e2;cases(show v=Value.ref A from r1);obtain⟨vs,rel,dd⟩:=mk X.prog s1.heap I1.uw;have dO:s1.heap.DictOf (yd X.prog X.w) A vs:=dd.dictOf
 have t2:∀b,Value.ref A=.ref b->∃ob,s1.heap.get? b=some ob/\ob.dict=none:=λb q=>by
  cases q;obtain⟨ob,_,_,h1,h2,_⟩:=dO;exact⟨ob,h1,h2.2.1⟩
 refine⟨"dict",_,PySem.F.plainAttrs_dict,PySem.F.slot_dict_values,PySem.F.type_dict_values,dO.typeIs,t2,JY rfl (PySem.evalArgs_none ?_)⟩;refine call_meetsIn PySem.F.slot_dict_values dO.typeIs PySem.F.entry_dict_values (PySem.F.args_dict_values_1 _) (meets_dict_values (yd X.prog X.w) A hsys) ⟨⟨vs,dO⟩,?_⟩;have hv:DG s1.heap.objs.size A (s1.heap.push { cls:=.type "dict_values",data:=.fields #[.ref A] }):=⟨_,Heap.get?_push_size _ rfl,rfl,rfl⟩;refine⟨.ref s1.heap.objs.size,_,I1.laid (a:=s1.heap.objs.size) (o:=XY s1.heap.objs.size A) (t':=s1.toks) (λ_ _ q=>Heap.get?_push_of_some _ q) (zt _) ⟨hv,?_,λh1 h2 z k=>?_⟩,rfl,hQ _ I1.fresh⟩
 ·obtain⟨o,e,_⟩:=hv;exact⟨o,e⟩
 ·obtain⟨o,e,z⟩:=z;exact⟨o,k _ e,z⟩
def dD(A:Addr)(us:List V):List V->Hp->VK->Prop:=λxs H Q=>∃r,xs=[.ref r]/\H r=some (XY r A)/\∀p,H p=none->Q (.ref p) (zb H p (.lst us))
theorem C8:∀{kvs:List (zM×V)} {vs:List (zM×Value)},KV kvs vs->zu (kvs.map (·.2)) (vs.map (·.2))
 |_,_,.nil=>.nil
 |_,_,.cons r t=>.cons r.2 (C8 t)
theorem Nd(hcalm:X.calm=true)(g:ue X.K X.w A ks us)(hn:us.length<=1000):wS X (.type "list") (dD A us):=by
 intro z6 s σ H xs ws Q I r h;obtain⟨a,rfl,ea,q⟩:=h;obtain⟨u,rfl,ru⟩:=vY r;cases(show u=Value.ref a from ru);obtain⟨hsys,hl,ep,mk⟩:=g;obtain⟨vs,rel,dd⟩:=mk X.prog s.heap I.uw;have ln:vs.length=us.length:=by rw[ui rel,tQ,hl,tS]
 obtain⟨hv,_⟩:=(show xC X.prog X.w H s.heap a (XY a A)from I.zg a _ ea);refine W.kdl_call (W.kdl_values (knd:=yd X.prog X.w) (d:=A) (r:=a) (kvs:=vs) (ep:=ep)) (I.ok.hd hcalm) ⟨hv,dd⟩ (by rw[ln,wR]; exact xj hn (by decide)) λh' tk acc' c' kp hS hacc=>?_
 obtain⟨hsz,hat⟩:=hacc
 have e:acc'.toList=vs.map (·.2):=by
  refine X7 λj=>?_
  cases hj:acc'.toList[j]? with
  |none=>
   have:=KL.mp hj;rw[wp,hsz]at this;rw[xH,uT this];rfl
  |some v=>
   obtain⟨k,e⟩:=hat j v (by rw[<-Vf]; exact hj);rw[xH,e];rfl
 have rv:zu us acc'.toList:=by
  rw[e];have:=C8 rel;rw[List.map_snd_zip (show us.length<=ks.length by omega)]at this;exact this
 refine⟨.ref s.heap.objs.size,_,I.laid (a:=s.heap.objs.size) (o:=.lst us) (t':=tk) kp (zt _) ⟨?_,acc'.toList,c',rv,?_⟩,rfl,q _ I.fresh⟩
 ·rw[wR];exact xj hn (by decide)
 ·rw[hS]
end
end L2
namespace L3
open PySem PySem.Spec PyProof PyProof.Rows L2
theorem HB{X:Cx}{A:Addr}{ks:List zM}{us:List V}{ds:List D}{x:Str}{p p2 apos cpos pos:Pos}(hcalm:X.calm=true)(hgl:Gl X "list")(hml:X.mg "list" = none)(h:yf X.mg x (.ref A))(g:ue X.K X.w A ks us)(hg:Gl X x)(rd:∀H,Reps X.K H ds us)(hn:ds.length<=1000)(hd:(x==("__debug__" : Str))=false:=by decide)
  (hbase:attributeBase (.Name x p2) "values" X.env (eval (.Name x p2) X.env)=eval (.Name x p2) X.env:=by rfl)(hline:(apos.endLine==cpos.line)=true:=by rfl) :
  SF X (.Call (.Name "list" p) [.Call (.Attribute (.Name x p2) "values" apos) [] [] cpos] [] pos) (eC (.lst ds)):=by
 have hu:us.length<=1000:=by rw[(rd (λ_=>none)).length]; exact hn
 have q1:QE X (.Call (.Attribute (.Name x p2) "values" apos) [] [] cpos) (Hb A):=⟨bi h g hg hd hbase hline⟩;refine⟨⟨_,(WB (p:=p) (pos:=pos) (Nd hcalm g hu) hgl hml NQ (GC q1 GD) (by decide) (by decide)).h,λ{G0 H0 G H τ σ d Q} E hf q=>?_⟩⟩;cases hf;intro r hr;refine⟨r,rfl,yT,λl hl=>?_⟩;have x1:=zZ.uZ (o:=XY r A) E.ext.gh hr;have x2:=x1.trans (zZ.uZ (o:=.lst us) x1.gh hl);exact q l _ _ x2 (x1.h.free hl) (x1.gh.free hl) ⟨us,yT,rd _,by rw[wR]; exact xj hn (by decide)⟩
end L3
namespace L2
open PySem PySem.Spec PyProof PyProof.Rows
section
variable{X:Cx}{x n:Str}{p pos np hpos tpos:Pos}{e e1 e2:Expr}{es:List Expr}{ta:TA}{te:TE}{tx:TX}{ps:List Str}{j k i:Nat}{sp:Sp}{E:XK}{D:Addr}{suite:List Stmt}{ts:TS}{b₀:Stmt}
end
end L2
namespace L3
open PySem PySem.Spec PyProof PyProof.Rows L2
section
variable{X:Cx}{E:XK}{x:Str}{C:Addr}{st:Stmt}{sts rest:List Stmt}{g:FS}{f:FSX}{ft:FT}{fa:FA}{c e:Expr}{es:List Expr}{np cpos pos ipos:Pos}
end
section
variable{P:Program}{w:World}{K:W.Frag}{mg:Str->Option Value}{base:Heap}
end
section
variable{X:Cx}{iy i j k kb:Nat}{y n x z f g pn:Str}{C D:Addr}{ps:List Str}{F:FX}{B:Str->Option Bool}{fa:FA}{fc:FE}{c e:Expr}{es:List Expr}{yp fp cp ap np gp mp gc bp rp hpos tpos:Pos}
end
end L3
namespace L2
open PySem PySem.Spec PyProof PyProof.Rows
section
variable{prog:Program}{w:World}{A:Around}{E:Value->Shared->Prop}{s:Shared}
open HT in
theorem Pk{t sl:Addr}{zF:Array Value}{vl vu:Value}{lo hi:Option Int}{Q:Value->Shared->Prop}(ht:IsTup s.heap t zF)(hs:s.heap.IsSliceOf sl vl vu .none)(pl:IsPart vl lo)(pu:IsPart vu hi)
  (hw:sIx zF.size 0 lo=0/\sIx zF.size zF.size hi=zF.size)(h:Q (.ref t) s):wpAny (model prog w) A (getItem (.ref t) (.ref sl)) Q E s:=by
 obtain⟨os,hos,hcs,hds⟩:=id hs;have hTs:s.TypeIs (.ref sl) "slice" := ⟨os,hos,hcs⟩;unfold getItem
 try with_reducible refine uW ?_
 first|refine zD (zV ?_)|skip
 refine zD (wpAny_sequenceKey ht.typeIs (by decide) ?_)
 refine zD (pW (name:=Str.ofString "__getitem__") ht.typeIs XA
  (tU XA ht.typeIs entry_tuple_getitem ?_ (args_tuple_getitem _ _)))
 show wpAny _ _ (Builtin.Tuple.tupleItemsOf (.ref t) >>= _) _ _ s;refine zD (tupleItemsOf_ ht ?_);refine zD (kB hTs ?_);rw[zP (by decide)];refine zD (HH hs pl pu ?_)
 have hyes:(((sIx zF.size 0 lo:Nat):Int)==0&&(1:Int)==1&&(sIx zF.size zF.size hi-sIx zF.size 0 lo)==zF.size)=true:=by
  rw[hw.1,hw.2,Nat.sub_zero];simp
 show wpAny _ _ (if(((sIx zF.size 0 lo:Nat):Int)==0&&(1:Int)==1&&(sIx zF.size zF.size hi-sIx zF.size 0 lo)==zF.size)=true then _ else _) _ _ s;rw[zP hyes];have hT:s.TypeIs (.ref t) "tuple" := ht.typeIs;unfold Builtin.Tuple.tupleIsExact;exact zD (zD (kB hT (zV (zD (kA (zV ⟨_,rfl,zV h⟩))))))
end
def dI(K:W.Frag):V->Option Int->Option Int->Hp->VK->Prop:=λx lo hi H Q=>∃a xs,x=.ref a/\yq K H a xs/\
 (HT.sIx xs.length 0 lo=0/\HT.sIx xs.length xs.length hi=xs.length)/\Q (.ref a) H
theorem lL{X:Cx}:p5 X (dI X.K):=by
 intro z6 s σ H x v vl vu lo hi sl Q I rx hs pl pu h;obtain⟨a,xs,rfl,hx,hw,q⟩:=h;cases rx;obtain⟨its,r,ht,hz⟩:=I.tuple hx;have hlen:its.toArray.size=xs.length:=by rw[yg]; exact r.length.symm
 refine⟨"tuple",_,XA.lookup,ht.typeIs,?_⟩;exact Pk ht hs pl pu (by rw[hlen]; exact hw) ⟨.ref a,H,I,rfl,q⟩
end L2
namespace L3
open PySem PySem.Spec PyProof PyProof.Rows L2
def g9(d:D)(lo hi:Option Int):Option D:=match d with
 |.tup xs=>some (.tup (p8 xs lo hi))
 |d=>Tr d lo hi
def j2(a:FE)(lo hi:FO):FE:=λσ=>(a σ).bind λd=>(lo σ).bind λl=>(hi σ).bind λh=>g9 d l h
theorem Nx{α:Type}{xs:List α}{lo hi:Option Int}(c:HT.sIx xs.length 0 lo=0/\HT.sIx xs.length xs.length hi=xs.length):p8 xs lo hi=xs:=by
 unfold p8;rw[c.1,c.2,Nat.sub_zero,List.drop_zero,Jk]
theorem iF{X:Cx}{a:Expr}{fa:FE}{pos:Pos}{lo hi:Option Expr}{fl fh:FO}{p2:Pos}(ha:SE X a fa)(hl:SO X lo fl)(hh:SO X hi fh):SE X (.Subscript a (.Slice lo hi none p2) pos) (j2 fa fl fh):=by
 obtain⟨ta,pa,ka⟩:=ha.h;obtain⟨tl,pl,kl⟩:=hl.h;obtain⟨th,ph,kh⟩:=hh.h;refine⟨⟨_,Ek (HG.or lL) pa pl ph,λ{G0 H0 G H τ σ d Q} E hf q=>?_⟩⟩;obtain⟨x,hx,hf⟩:=zU hf;obtain⟨l,hl,hf⟩:=zU hf;obtain⟨h,hh,hf⟩:=zU hf;refine ka E hx λv G1 H1 x1 r1=>kl (E.go x1) hl λG2 H2 x2=>kh ((E.go x1).go x2) hh λG3 H3 x3=>?_
 have xx:=x1.trans (x2.trans x3);have r3:=r1.mono (x2.g.trans x3.g);cases x with
 |lst xs=>
  cases hf;obtain⟨a,vs,rfl,sq,rs,ll⟩:=r3;refine .inl (.inl ⟨a,vs,rfl,wM x3.gh sq,λp hp=>q _ _ _ (xx.trans (zZ.lay x3.gh hp)) ⟨p,_,rfl,yP.of yT,(rs.cut l h).mono (wf (x3.gh.free hp) _),xj (Th ..) ll⟩⟩)
 |tup xs=>
  cases hf;obtain⟨a,vs,rfl,sq,rs,ll⟩:=r3;by_cases c:HT.sIx xs.length 0 l=0/\HT.sIx xs.length xs.length h=xs.length
  ·refine .inr ⟨a,vs,rfl,vp x3.gh sq,by rw[rs.length]; exact c,?_⟩;rw[Nx c]at q;exact q _ _ _ xx ⟨a,vs,rfl,sq,rs,ll⟩
  ·refine .inl (.inr (.inl ⟨a,vs,rfl,vp x3.gh sq,by rw[rs.length]; exact c,λp hp=>?_⟩));exact q _ _ _ (xx.trans (zZ.lay x3.gh hp)) ⟨p,_,rfl,yq.of yT,(rs.cut l h).mono (wf (x3.gh.free hp) _),xj (Th ..) ll⟩
 |str z=>
  cases hf;obtain⟨rfl,ll⟩:=r3;exact .inl (.inr (.inr ⟨z,rfl,ll,q _ _ _ xx ⟨rfl,xj (cut_len ..) ll⟩⟩))
 |_=>cases hf
end L3
namespace L2
open PySem PySem.Spec PyProof PyProof.Rows
section
variable{X:Cx}{z6:List (Addr×Obj)}{σ:St}{H:Hp}{s:Shared}{a:Addr}{o:Obj}{kvs:List (zM×V)}
theorem Inv.swap{u u':HO}(I:Inv X z6 σ H s)(e:H a=some u)(no:∀x,u≠.own x)(nt:∀xs,u≠.tup xs)(nb:∀ps,X.H₀ a≠some (.tbl ps))(nf:∀ob v,X.H₀ a≠some (.y1 ob v))(nq:∀xs,X.H₀ a≠some (.tup xs))(new:xC X.prog X.w (zb H a u') s.heap a u'):Inv X z6 σ (zb H a u') s:=by
 have ne:∀b,H b=none->b≠a:=λb hb z=>by subst z; rw[e]at hb; cases hb
 refine⟨I.ok,I.os,I.bare,⟨I.base.keep,I.base.slot,λb ob q n hx=>?_,I.base.there,λb xs q=>?_,λb ob v q=>?_,λb ps q=>?_⟩,I.loc,I.cell,?_,λx c q=>?_,λp hp=>?_,λb v q=>?_,I.len⟩
 ·have:=I.base.free b ob q n hx;rw[zx (ne b this)]; exact this
 ·have hb:b≠a:=λz=>by subst z; exact nq xs q
  rw[zx hb]; exact I.base.vw b xs q
 ·have hb:b≠a:=λz=>by subst z; exact nf ob v q
  rw[zx hb]; exact I.base.ve b ob v q
 ·have hb:b≠a:=λz=>by subst z; exact nb ps q
  rw[zx hb]; exact I.base.ua b ps q
 ·rw[zx (ne _ I.free)]; exact I.free
 ·rw[zx (ne _ (I.uX x c q))]; exact I.uX x c q
 ·obtain⟨h1,h2,h3⟩:=I.pin p hp;exact⟨h1,by rw[zx (ne _ h2)]; exact h2,h3⟩
 ·by_cases hb:b=a
  ·subst hb; rw[yT]at q; cases q; exact new
  ·rw[zx hb]at q;refine(I.zg b v q).jc (λc w _ z=>z) (λc z=>?_) λc xs z=>?_
   ·have hc:c≠a:=λy=>by subst y; rw[e]at z; cases z; exact no _ rfl
    rw[zx hc]; exact z
   ·have hc:c≠a:=λy=>by subst y; rw[e]at z; cases z; exact nt _ rfl
    rw[zx hc]; exact z
theorem Inv.Zr(I:Inv X z6 σ H s)(e:H a=some (.dK kvs)):(∀ps,X.H₀ a≠some (.tbl ps))/\(∀ob v,X.H₀ a≠some (.y1 ob v))/\∀xs,X.H₀ a≠some (.tup xs):=by
 refine⟨λps z=>?_,λob v z=>?_,λxs z=>?_⟩
 ·obtain⟨_,q⟩:=I.base.ua a ps z; rw[e]at q; cases q
 ·have q:=I.base.ve a ob v z; rw[e]at q; cases q
 ·have q:=I.base.vw a xs z; rw[e]at q; cases q
theorem Inv.up(I:Inv X z6 σ H s)(e:H a=some (.dK kvs)):∃o,Inv X z6 σ (zb H a (.y1 o (.dK kvs))) s:=by
 obtain⟨n1,n2,n3⟩:=I.Zr e;obtain⟨z,y,vs,r,ob,es,ep,g,c⟩:=(show xC X.prog X.w H s.heap a (.dK kvs)from I.zg a _ e);exact⟨ob,I.swap e (λ_ z=>nomatch z) (λ_ z=>nomatch z) n1 n2 n3 ⟨g,z,y,vs,r,ob,es,ep,g,c⟩⟩
theorem Inv.dn(I:Inv X z6 σ H s)(e:H a=some (.y1 o (.dK kvs)))(n:(∀ps,X.H₀ a≠some (.tbl ps))/\(∀ob v,X.H₀ a≠some (.y1 ob v))/\∀xs,X.H₀ a≠some (.tup xs)):Inv X z6 σ (zb H a (.dK kvs)) s:=by
 obtain⟨n1,n2,n3⟩:=n;obtain⟨_,z,y,vs,r,ob,es,ep,g,c⟩:=(show xC X.prog X.w H s.heap a (.y1 o (.dK kvs))from I.zg a _ e);exact I.swap e (λ_ z=>nomatch z) (λ_ z=>nomatch z) n1 n2 n3 ⟨z,y,vs,r,ob,es,ep,g,c⟩
end
def ub.dn(D:ub)(a:Addr)(o:Obj)(kvs:List (zM×V)):ub:=
 ⟨λσ H=>H a=some (.y1 o (.dK kvs))/\D.nx σ (zb H a (.dK kvs)),λv H=>H a=some (.y1 o (.dK kvs))/\D.rt v (zb H a (.dK kvs)),λσ H=>H a=some (.y1 o (.dK kvs))/\D.bk σ (zb H a (.dK kvs)),λσ H=>H a=some (.y1 o (.dK kvs))/\D.ct σ (zb H a (.dK kvs))⟩
def fU(i:Nat)(t:TS):TS:=λD σ H=>∃a,σ[i]?=some (some (.ref a))/\((∃o kvs,H a=some (.y1 o (.dK kvs))/\t D σ H)\/∃kvs,H a=some (.dK kvs)/\∀o,t (D.dn a o kvs) σ (zb H a (.y1 o (.dK kvs))))
theorem cY{X:Cx}{st:Stmt}{t:TS}{i:Nat}(h:PS X st t):PS X st (fU i t):=by
 intro z6 s σ H D I ht;obtain⟨a,ha,⟨_,_,_,ht⟩|⟨kvs,e,ht⟩⟩:=ht
 ·exact h z6 s σ H D I ht
 ·obtain⟨o,I1⟩:=I.up e;refine zo (h z6 s σ _ _ I1 (ht o)) λf s' hf=>?_
  cases f with
  |next=>obtain⟨σ',H',I',e',q⟩:=hf; exact⟨σ',_,I'.dn e' (I.Zr e),q⟩
  |brk=>obtain⟨σ',H',I',e',q⟩:=hf; exact⟨σ',_,I'.dn e' (I.Zr e),q⟩
  |cont=>obtain⟨σ',H',I',e',q⟩:=hf; exact⟨σ',_,I'.dn e' (I.Zr e),q⟩
  |ret u=>obtain⟨v,σ',H',I',r,e',q⟩:=hf; exact⟨v,σ',_,I'.dn e' (I.Zr e),r,q⟩
def mK(i:Nat)(t:TE):TE:=λσ H Q=>∃a,σ[i]?=some (some (.ref a))/\((∃o kvs,H a=some (.y1 o (.dK kvs))/\t σ H Q)\/∃kvs,H a=some (.dK kvs)/\∀o,t σ (zb H a (.y1 o (.dK kvs))) λv H'=>H' a=some (.y1 o (.dK kvs))/\Q v (zb H' a (.dK kvs)))
theorem bd{X:Cx}{e:Expr}{t:TE}{i:Nat}(h:PE X e t):PE X e (mK i t):=by
 intro z6 s σ H Q I ht;obtain⟨a,ha,⟨_,_,_,ht⟩|⟨kvs,e,ht⟩⟩:=ht
 ·exact h z6 s σ H Q I ht
 ·obtain⟨o,I1⟩:=I.up e;exact zo (h z6 s σ _ _ I1 (ht o)) λu s' ⟨v,H',I',r,e',q⟩=>⟨v,_,I'.dn e' (I.Zr e),r,q⟩
theorem j6{P:Program}{w:World}{H:Hp}{h:Heap}{a:Addr}{o:Obj}{kvs:List (zM×V)}{es:Array DictEntry}{ep:Nat}(ok:xM P w H h)(e:H a=some (.y1 o (.dK kvs)))(d:o.data=.dict es ep):(a==sysModules)=false/\∃vs,KV kvs vs/\h.DictAt (yd P w) a vs ep:=by
 obtain⟨g,z,y,vs,r,ob,es',ep',g',c⟩:=(show xC P w H h a (.y1 o (.dK kvs))from ok a _ e);rw[g]at g';cases g';refine⟨y,vs,r,o,es',g,c.1,?_,c.2.2⟩;have e1:=c.2.1;rw[d]at e1;cases e1;exact d
theorem QM:∀{kvs:List (zM×V)} {vs:List (zM×Value)} {i:Nat} {k:zM} {x:Value},KV kvs vs->vs[i]?=some (k,x)->∃u,kvs[i]?=some (k,u)/\z_ u x
 |_,_,_,_,_,.nil,e=>by cases e
 |_,_,0,_,_,.cons r t,e=>by
  cases e;obtain⟨r1,r2⟩:=r;exact⟨_,congrArg some (Prod.ext r1 rfl),r2⟩
 |_,_,i+1,_,_,.cons _ t,e=>QM (i:=i) t (by simpa using e)
end L2
namespace L3
open PySem PySem.Spec PyProof PyProof.Rows L2
structure Tw(a:Addr)(kvs:List (zM×V))(G G':Hp):Prop where
 ne:∀b,b≠a->G' b=G b
 l:Rd G a (.dK kvs)
 r:Rd G' a (.dK kvs)
section
variable{K:W.Frag}{a:Addr}{o:Obj}{kvs:List (zM×V)}{G G' H H' G0 H0:Hp}
theorem Rd.tw{b:Addr}{u:HO}(t:Tw a kvs G G')(hu:∀ob v,u≠.y1 ob v)(h:Rd G b u):Rd G' b u:=by
 by_cases hb:b=a
 ·subst hb
  have e:u=.dK kvs:=by
   rcases h with h|⟨ob,h⟩<;>rcases t.l with l|⟨oc,l⟩<;>rw[l]at h
   ·cases h; rfl
   ·cases h; exact absurd rfl (hu oc _)
   ·cases h
   ·cases h; rfl
  rw[e];exact t.r
 ·rcases h with h|⟨ob,h⟩
  ·exact .inl (by rw[t.ne b hb]; exact h)
  ·exact .inr ⟨ob,by rw[t.ne b hb]; exact h⟩
theorem Tw.at{b:Addr}{u:HO}(t:Tw a kvs G G')(h:G b=some u)(h1:u≠.dK kvs)(h2:∀o,u≠.y1 o (.dK kvs)):G' b=some u:=by
 by_cases hb:b=a
 ·subst hb;rcases t.l with l|⟨oc,l⟩<;>rw[l]at h
  ·cases h; exact absurd rfl h1
  ·cases h; exact absurd rfl (h2 oc)
 ·rw[t.ne b hb]; exact h
theorem zi.tw(t:Tw a kvs G G'):∀{d:D}{v:V},zi K G d v->zi K G' d v:=λ{d}=>by
 refine D.ind (P:=λd=>∀v,zi K G d v->zi K G' d v) (λv h=>h) (λb v h=>h) (λi v h=>h) (λx v h=>h) ?_ ?_ ?_ ?_ ?_ d _
 ·rintro xs ih v ⟨b,vs,e,q,r,l⟩;refine⟨b,vs,e,?_,Reps.imp ih r,l⟩;rcases q with q|q
  ·exact .inl (Rd.tw t (λ_ _ z=>nomatch z) q)
  ·exact .inr q
 ·rintro xs ih v ⟨b,vs,e,q,r,l⟩;refine⟨b,vs,e,?_,Reps.imp ih r,l⟩;rcases q with q|q
  ·exact .inl (Rd.tw t (λ_ _ z=>nomatch z) q)
  ·exact .inr q
 ·rintro ks xs ih v ⟨b,vs,e,q,z,r,l⟩;exact⟨b,vs,e,Rd.tw t (λ_ _ z=>nomatch z) q,z,Reps.imp ih r,l⟩
 ·rintro x v ⟨b,C,e,n,h⟩;exact⟨b,C,e,n,t.at h (λz=>nomatch z) (λ_ z=>nomatch z)⟩
 ·rintro x fs xs ih v ⟨b,C,dx,vs,e,n,h,l,r⟩;exact⟨b,C,dx,vs,e,n,t.at h (λz=>nomatch z) (λ_ z=>nomatch z),l,Reps.imp ih r⟩
theorem Reps.tw(t:Tw a kvs G G'){ds:List D}{vs:List V}(h:Reps K G ds vs):Reps K G' ds vs:=Reps.imp (λ_ _ _=>zi.tw t) h
theorem vQ.tw{d:D}{p:Addr}(t:Tw a kvs G G')(hp:H' p=H p)(ow:vQ K G H d p):vQ K G' H' d p:=by
 cases d with
 |lst ds=>obtain⟨vs,e,r,l⟩:=ow; exact⟨vs,by rw[hp]; exact e,r.tw t,l⟩
 |dic ks ds=>obtain⟨vs,e,z,r,l⟩:=ow; exact⟨vs,by rw[hp]; exact e,z,r.tw t,l⟩
 |_=>exact ow.elim
theorem Mm(e:G a=some (.dK kvs)):Tw a kvs G (zb G a (.y1 o (.dK kvs))):=⟨λb hb=>zx hb,.inl e,.inr ⟨o,yT⟩⟩
theorem JB(e:G a=some (.y1 o (.dK kvs))):Tw a kvs G (zb G a (.dK kvs)):=⟨λb hb=>zx hb,.inr ⟨o,e⟩,.inl yT⟩
def gZ(a:Addr)(f:HO)(H0:Hp):Hp:=λb=>if b=a then(H0 a).bind λ_=>some f else H0 b
theorem Hk{f:HO}{b:Addr}(h:b≠a):gZ a f H0 b=H0 b:=zS h
theorem JC{f:HO}{b:Addr}:gZ a f H0 b=none↔H0 b=none:=by
 unfold gZ;by_cases h:b=a
 ·subst h;rw[zP rfl];cases H0 b with
  |none=>exact⟨λ_=>rfl,λ_=>rfl⟩
  |some u=>exact⟨λz=>(nomatch z),λz=>(nomatch z)⟩
 ·rw[zS h]
theorem rQ{f u:HO}(h:gZ a f H0 a=some u):u=f:=by
 unfold gZ at h;rw[zP rfl]at h;cases e:H0 a with
 |none=>rw[e]at h; cases h
 |some w=>rw[e]at h; cases h; rfl
theorem zz.up{n:Nat}{τ:y4}{σ:St}(E:zz K n G0 H0 G H τ σ)(e:G a=some (.dK kvs)):zz K n (zb G a (.y1 o (.dK kvs))) (gZ a (.y1 o (.dK kvs)) H0) (zb G a (.y1 o (.dK kvs))) (zb H a (.y1 o (.dK kvs))) τ σ:=by
 have t:=Mm (o:=o) e;refine⟨⟨yU.refl _,λb u h=>?_,Qp E.ext.gh,λ_ h=>.inl h⟩,E.l1,E.l2,λi d h=>?_,λi d h=>?_,E.ap⟩
 ·by_cases hb:b=a
  ·subst hb;rw[yT,rQ h]
  ·rw[Hk hb]at h;rw[zx hb];exact E.ext.h _ _ h
 ·obtain⟨v,e',r⟩:=E.fr i d h;exact⟨v,e',r.tw t⟩
 ·obtain⟨p,e',g,z,ow⟩:=E.ow i d h;have hp:p≠a:=λz=>by subst z; rw[e]at g; cases g
  exact⟨p,e',by rw[zx hp]; exact g,JC.mpr z,ow.tw t (zx hp)⟩
theorem zZ.kC(x0:zZ G0 H0 G H)(e:G a=some (.dK kvs))(x:zZ (zb G a (.y1 o (.dK kvs))) (gZ a (.y1 o (.dK kvs)) H0) G' H'):G' a=some (.y1 o (.dK kvs))/\H' a=some (.y1 o (.dK kvs))/\zZ G0 H0 (zb G' a (.dK kvs)) (zb H' a (.dK kvs)):=by
 have g':G' a=some (.y1 o (.dK kvs)):=x.g _ _ yT;refine⟨g',x.gh _ _ g',x0.rebase ⟨λb u h=>?_,λb u h=>?_,Qp x.gh,λp h=>?_⟩⟩
 ·by_cases hb:b=a
  ·subst hb;rw[e]at h;cases h;exact yT
  ·rw[zx hb];exact x.g _ _ (by rw[zx hb]; exact h)
 ·by_cases hb:b=a
  ·subst hb;have:=x0.h _ _ h;rw[x0.gh _ _ e]at this;cases this;exact yT
  ·rw[zx hb];exact x.h _ _ (by rw[Hk hb]; exact h)
 ·by_cases hb:p=a
  ·subst hb;exact .inl (by rw[e]; exact λz=>nomatch z)
  ·rw[zx hb]at h;rcases x.new p h with z|z
   ·rw[zx hb]at z;exact .inl z
   ·exact .inr (JC.mp z)
theorem zz.kC{n:Nat}{τ τ':y4}{σ σ':St}(E:zz K n G0 H0 G H τ σ)(e:G a=some (.dK kvs))(E':zz K n (zb G a (.y1 o (.dK kvs))) (gZ a (.y1 o (.dK kvs)) H0) G' H' τ' σ'):H' a=some (.y1 o (.dK kvs))/\zz K n G0 H0 (zb G' a (.dK kvs)) (zb H' a (.dK kvs)) τ' σ':=by
 obtain⟨g',h',x⟩:=E.ext.kC e E'.ext;have t:=JB g';refine⟨h',x,E'.l1,E'.l2,λi d h=>?_,λi d h=>?_,E'.ap⟩
 ·obtain⟨v,e',r⟩:=E'.fr i d h;exact⟨v,e',r.tw t⟩
 ·obtain⟨p,e',g,z,ow⟩:=E'.ow i d h;have hp:p≠a:=λz=>by subst z; rw[g']at g; cases g
  exact⟨p,e',by rw[zx hp]; exact g,JC.mp z,ow.tw t (zx hp)⟩
end
def Kn(K:W.Frag)(i:Nat)(τ:y4)(σ:St)(G:Hp):Prop:=∃a o ks ds vs,τ[i]?=some (some (false,.dic ks ds))/\σ[i]?=some (some (.ref a))/\G a=some (.y1 o (.dK (ks.zip vs)))/\ks.length=vs.length/\Reps K G ds vs/\ds.length<=sizeLine
structure IY(X:Cx)(i:Nat)(st:Stmt)(f:FS):Prop where
 h:∃t,PS X st t/\∀{G0 H0 G H:Hp}{τ:y4}{σ:St}{fl:Fl}{E:ub},zz X.K X.N.length G0 H0 G H τ σ->Kn X.K i τ σ G->f τ=some fl->vP X.K X.N.length G0 H0 E fl->t E σ H
structure DC(X:Cx)(i:Nat)(e:Expr)(f:FE):Prop where
 h:∃t,PE X e t/\∀{G0 H0 G H:Hp}{τ:y4}{σ:St}{d:D}{Q:VK},zz X.K X.N.length G0 H0 G H τ σ->Kn X.K i τ σ G->f τ=some d->(∀p G' H',zZ G H G' H'->H p=none->G' p=none->vQ X.K G' H' d p->Q (.ref p) H')->t σ H Q
structure YB(X:Cx)(i:Nat)(tg iter:Expr)(f:FA):Prop where
 h:∃wi,PI X tg iter wi/\∀{G0 H0 G H:Hp}{τ:y4}{σ:St}{ds:List D}{R:It->Hp->Prop},zz X.K X.N.length G0 H0 G H τ σ->Kn X.K i τ σ G->f τ=some ds->(∀J G' H',zZ G H G' H'->ds.length<=sizeLine->t4 X.K J G' ds->R J H')->wi σ H R
def qU{α:Type}(i:Nat)(f:y4->Option α):Prop:=∀τ x,f τ=some x->∃ks ds,τ[i]?=some (some (false,.dic ks ds))
theorem J0{X:Cx}{i:Nat}{st:Stmt}{f:FS}(h:IY X i st f)(hk:qU i f):SS X st f:=by
 obtain⟨t,pt,k⟩:=h.h;refine⟨⟨_,cY (i:=i) pt,λ{G0 H0 G H τ σ fl E} K hf q=>?_⟩⟩;obtain⟨ks,ds,ht⟩:=hk _ _ hf;obtain⟨v,hv,a,vs,rfl,rd,hl,rs,ll⟩:=K.fr i _ ht;refine⟨a,hv,?_⟩;rcases rd with e|⟨o,e⟩
 ·refine .inr ⟨_,K.ext.gh _ _ e,λo=>?_⟩;have K1:=K.up (o:=o) e;refine k K1 ⟨a,o,ks,ds,vs,ht,hv,yT,hl,rs.tw (Mm e),ll⟩ hf ?_;cases fl with
  |nx τ'=>exact λσ' G' H' z=>let ⟨h1,h2⟩:=K.kC e z; ⟨h1,q σ' _ _ h2⟩
  |bk τ'=>exact λσ' G' H' z=>let ⟨h1,h2⟩:=K.kC e z; ⟨h1,q σ' _ _ h2⟩
  |ct τ'=>exact λσ' G' H' z=>let ⟨h1,h2⟩:=K.kC e z; ⟨h1,q σ' _ _ h2⟩
  |rt ow d=>
   cases ow with
   |false=>
    intro v G' H' x r;obtain⟨g',h',x'⟩:=K.ext.kC e x;exact⟨h',q v _ _ x' (r.tw (JB g'))⟩
   |true=>
    intro p G' H' x hp gp ow;obtain⟨g',h',x'⟩:=K.ext.kC e x;have ne:p≠a:=λz=>by subst z; rw[g']at gp; cases gp
    exact⟨h',q p _ _ x' (JC.mp hp) (by rw[zx ne]; exact gp) (ow.tw (JB g') (zx ne))⟩
 ·exact .inl ⟨o,_,K.ext.gh _ _ e,k K ⟨a,o,ks,ds,vs,ht,hv,e,hl,rs,ll⟩ hf q⟩
theorem iN{X:Cx}{i:Nat}{e:Expr}{f:FE}(h:DC X i e f)(hk:qU i f):SF X e f:=by
 obtain⟨t,pt,k⟩:=h.h;refine⟨⟨_,bd (i:=i) pt,λ{G0 H0 G H τ σ d Q} K hf q=>?_⟩⟩;obtain⟨ks,ds,ht⟩:=hk _ _ hf;obtain⟨v,hv,a,vs,rfl,rd,hl,rs,ll⟩:=K.fr i _ ht;refine⟨a,hv,?_⟩;rcases rd with e|⟨o,e⟩
 ·refine .inr ⟨_,K.ext.gh _ _ e,λo=>?_⟩;have K1:=K.up (o:=o) e;refine k K1 ⟨a,o,ks,ds,vs,ht,hv,yT,hl,rs.tw (Mm e),ll⟩ hf λp G' H' x hp gp ow=>?_
  have hH:H a=some _:=K.ext.gh _ _ e;have g':G' a=some (.y1 o (.dK (ks.zip vs))):=x.g _ _ yT
  have hpH:H p=none:=by
   by_cases z:p=a
   ·subst z; rw[g']at gp; cases gp
   ·rw[zx z]at hp; exact hp
  have ne:p≠a:=λz=>by subst z; rw[g']at gp; cases gp
  refine⟨x.gh _ _ g',q p (zb G' a (.dK (ks.zip vs))) (zb H' a (.dK (ks.zip vs))) ⟨λb u hb=>?_,λb u hb=>?_,Qp x.gh,λb hb=>?_⟩ hpH (by rw[zx ne]; exact gp) (ow.tw (JB g') (zx ne))⟩
  ·by_cases z:b=a
   ·subst z; rw[e]at hb; cases hb; exact yT
   ·rw[zx z]; exact x.g _ _ (by rw[zx z]; exact hb)
  ·by_cases z:b=a
   ·subst z; rw[hH]at hb; cases hb; exact yT
   ·rw[zx z]; exact x.h _ _ (by rw[zx z]; exact hb)
  ·by_cases z:b=a
   ·subst z; exact .inl (by rw[e]; exact λz=>nomatch z)
   ·rw[zx z]at hb;rcases x.new b hb with w|w
    ·rw[zx z]at w; exact .inl w
    ·rw[zx z]at w; exact .inr w
 ·exact .inl ⟨o,_,K.ext.gh _ _ e,k K ⟨a,o,ks,ds,vs,ht,hv,e,hl,rs,ll⟩ hf q⟩
theorem HK{X:Cx}{i:Nat}{tg iter:Expr}{body:List Stmt}{fs:FA}{g:FS}{pos:Pos}{fg:FG}(hp:PassesOwn (model X.prog X.w) X.A X.env X.xe)(hc:X.calm=true)(hi:YB X i tg iter fs)(hg:SG X tg fg)(hb:uf X body g)(hs:∀x,foldedSetIterable iter X.env x=pure x:=by intro _; rfl):IY X i (.For tg iter body [] pos) (vm fs fg g):=by
 obtain⟨ti,pi,ki⟩:=hi.h;obtain⟨tg',pg,kg⟩:=hg.h;obtain⟨tb,pb,kb⟩:=hb.h;refine⟨⟨_,Ez hp hc pi pg pb hs,λ{G0 H0 G H τ σ fl E} K kn hf q=>?_⟩⟩;obtain⟨ds,hd,hf⟩:=zU hf;refine ki K kn hd λJ Ga Ha xa _ wk=>?_
 have Ka:=K.go xa;have q':=vP.near Ka.ext q;refine⟨λi m σ H=>m=ds.length-i/\i<=ds.length/\∃τ G,zz X.K X.N.length Ga H0 G H τ σ/\pI fg g (ds.drop i) τ=some fl,⟨ds.length,rfl,uu _,τ,Ga,Ka.z8,hf⟩,?_⟩;rintro i m σ H ⟨rfl,hle,τ,G,K,hf⟩;by_cases hlt:i<ds.length
 ·refine .inr ⟨wk.go i G H K.ext.g K.ext.gh hlt,λσ' H'=>∃τ G,zz X.K X.N.length Ga H0 G H' τ σ'/\pI fg g (ds.drop (i+1)) τ=some fl,λσ' H' z=>⟨ds.length-(i+1),by omega,rfl,hlt,z⟩,λx H' y=>?_⟩;obtain⟨G3,d,x3,ed,rd⟩:=wk.vE i G H x H' K.ext.g K.ext.gh hlt y;rw[BH hlt]at hf;rw[yF hlt]at ed;cases ed;obtain⟨τ1,h1,hf⟩:=zU (show(fg _ τ).bind _=_ from hf);obtain⟨f1,h2,hf⟩:=zU hf;refine kg (K.go x3) rd h1 λσ1 K1=>kb K1 h2 ?_
  cases f1 with
  |nx τ2=>exact λσ2 G2 H2 K2=>⟨τ2,G2,K2,hf⟩
  |ct τ2=>exact λσ2 G2 H2 K2=>⟨τ2,G2,K2,hf⟩
  |bk τ2=>cases hf; exact q'
  |rt o d=>cases hf; exact vP.with q' (λ_ z=>nomatch z) (λ_ z=>nomatch z) (λ_ z=>nomatch z) rfl
 ·have e:ds.drop i=[]:=BI (by omega);rw[e]at hf;cases hf;exact .inl ⟨wk.stop i G H K.ext.g K.ext.gh (by omega),q' _ _ _ K⟩
theorem Dp{i:Nat}{fs:FA}{fg:FG}{g:FS}(h:qU i fs):qU i (vm fs fg g):=λτ x hf=>by
 obtain⟨ds,hd,_⟩:=zU hf;exact h τ ds hd
end L3
namespace L2
open PySem PySem.Spec PyProof PyProof.Rows
def IR(a:Addr)(o:Obj)(kvs:List (zM×V)):It:=⟨λi H=>H a=some (.y1 o (.dK kvs))/\i<kvs.length,λi H v H'=>H'=H/\∃k,kvs[i]?=some (k,v),λi H=>H a=some (.y1 o (.dK kvs))/\kvs.length<=i⟩
theorem oD{P:Program}{w:World}{K:W.Frag}{tg:Expr}{kvs:List (zM×V)}{o:Obj}{es:Array DictEntry}{ep:Nat}(a it:Addr)(d:o.data=.dict es ep) :
  tq P w K tg (IR a o kvs) [it] it (λi h=>h.IsValIter it a i kvs.length ep) where
 mem:=by simp
 obj:=λi h st b hb=>by
  have e:b=it:=by simpa using hb
  subst e;obtain⟨o,e,c,d⟩:=st;exact⟨o,e,λv z=>by rw[d]at z; cases z⟩
 keep:=λi h h' st k=>st.at λo e=>k it (by simp) o e
 item:=by
  intro X hP hw hK hc i z6 s σ H E I hf st hg;subst hP hw hK;obtain⟨_,vs,rel,dd⟩:=j6 I.zg hg.1 d;have ln:vs.length=kvs.length:=ui rel;have hi:i<vs.length:=by rw[ln]; exact hg.2
  have hx:vs[i]?=some (vs[i].1,vs[i].2):=yF hi;obtain⟨u,hk,ru⟩:=QM rel hx;obtain⟨f0,f1,f2,f3,f4,f5⟩:=hf it (by simp);rw[<-ln]at st;refine wpAny_pyNext_values_item st dd hx λh' st' sb=>?_
  rw[ln]at st';have I1:Inv X z6 σ H { s with heap:=h' }:=I.turned (t':=s.toks) (λb o hb e=>(sb.2 b hb).trans e) f0 f1 f3 f4 f5;obtain⟨o,e,c,d⟩:=id st';exact⟨vs[i].2,rfl,YT (s:={ s with heap:=h' }) e c d (by decide) ⟨u,H,I1,ru,⟨rfl,_,hk⟩,st',λb hb=>(hf b hb).1⟩⟩
 done:=by
  intro X hP hw hK hc i z6 s σ H E I hf st hg;subst hP hw hK;obtain⟨_,vs,rel,dd⟩:=j6 I.zg hg.1 d;have ln:vs.length=kvs.length:=ui rel;have hx:vs[i]?=none:=uT (by rw[ln]; exact hg.2);obtain⟨f0,f1,f2,f3,f4,f5⟩:=hf it (by simp);rw[<-ln]at st;exact wpAny_pyNext_values_end (I.ok.hd hc) st dd hx λh' eb=>⟨rfl,I.turned (t':=s.toks) (λb o hb e=>eb b o hb e) f0 f1 f3 f4 f5⟩
 self:=λ_ _ _ _ _ st h=>wpAny_pyIter_valiter st h
def Re(i:Nat):TI:=λσ H R=>∃a o kvs,σ[i]?=some (some (.ref a))/\H a=some (.y1 o (.dK kvs))/\R (IR a o kvs) H
theorem bv{X:Cx}{tg:Expr}{x:Str}{p apos cpos:Pos}{i:Nat}(hN:X.N[i]?=some x)(hv:tu X.env.scope x)(hd:(x==("__debug__" : Str))=false:=by decide)(hcd:(x==("__classdict__" : Str))=false:=by decide)
  (hbase:attributeBase (.Name x p) "values" X.env (eval (.Name x p) X.env)=eval (.Name x p) X.env:=by rfl)(hline:(apos.endLine==cpos.line)=true:=by rfl) :
  PI X tg (.Call (.Attribute (.Name x p) "values" apos) [] [] cpos) (Re i):=by
 intro z6 s σ H R I hR;obtain⟨a,o,kvs,ha,e,hR⟩:=hR;refine Bj hbase hline (zo (Yp (pos:=p) hN hv hd hcd z6 s σ H (λv H1=>v=.ref a/\H1=H) I ⟨_,ha,rfl,rfl⟩) λv s1 ⟨y,H1,I1,r1,e1,e2⟩=>?_);subst e1 e2;cases(show v=Value.ref a from r1);obtain⟨g,_,_,_,_,o',es,ep,g',_,hdat,_⟩:=(show xC X.prog X.w H1 s1.heap a (.y1 o (.dK kvs))from I1.zg a _ e);rw[g]at g';cases g';obtain⟨lo,vs,rel,dd⟩:=j6 I1.zg e hdat;have ln:vs.length=kvs.length:=ui rel;have dO:s1.heap.DictOf (yd X.prog X.w) a vs:=dd.dictOf
 have t2:∀b,Value.ref a=.ref b->∃ob,s1.heap.get? b=some ob/\ob.dict=none:=λb q=>by
  cases q;obtain⟨ob,_,_,h1,h2,_⟩:=dO;exact⟨ob,h1,h2.2.1⟩
 refine⟨"dict",_,PySem.F.plainAttrs_dict,PySem.F.slot_dict_values,PySem.F.type_dict_values,dO.typeIs,t2,JY rfl (PySem.evalArgs_none ?_)⟩;refine call_meetsIn PySem.F.slot_dict_values dO.typeIs PySem.F.entry_dict_values (PySem.F.args_dict_values_1 _) (meets_dict_values (yd X.prog X.w) a lo) ⟨⟨vs,dO⟩,?_⟩;have I2:Inv X z6 σ H1 { s1 with heap:=s1.heap.push { cls:=.type "dict_values",data:=.fields #[.ref a] } }:=I1.kept (t':=s1.toks) λb o e=>Heap.get?_push_of_some _ e
 refine wpAny_pyIter_values (knd:=yd X.prog X.w) (s:={ s1 with heap:=s1.heap.push { cls:=.type "dict_values",data:=.fields #[.ref a] } }) ⟨_,Heap.get?_push_size _ rfl,rfl,rfl⟩ (dd.push _) ?_;rw[ln];refine⟨_,[_],_,_,H1,rfl,I2.kept (t':=s1.toks) λb o e=>Heap.get?_push_of_some _ e,oD a _ hdat,⟨_,Heap.get?_push_size _ rfl,rfl,rfl⟩,λb hb=>?_,hR⟩;have e:=w_.mp hb;subst e;exact I2.qp (zt _) (I2.zg.fresh (zt _))
end L2
namespace L3
open PySem PySem.Spec PyProof PyProof.Rows L2
def pF(i:Nat):FA:=λτ=>match τ[i]? with
 |some (some (false,.dic _ ds))=>some ds
 |_=>none
theorem Iw(i:Nat):qU i (pF i):=λτ x hf=>by
 unfold pF at hf
 split at hf
 ·rename_i ks ds e;exact⟨ks,ds,e⟩
 ·cases hf
theorem B4{ks:List zM}{vs:List V}{i:Nat}{k:zM}{v:V}(h:(ks.zip vs)[i]?=some (k,v)):ks[i]?=some k/\vs[i]?=some v:=by
 rw[List.getElem?_zip_eq_some]at h;exact h
theorem PF{K:W.Frag}{G:Hp}{a:Addr}{o:Obj}{ks:List zM}{ds:List D}{vs:List V}(hl:ks.length=vs.length)(e:G a=some (.y1 o (.dK (ks.zip vs))))(rs:Reps K G ds vs):t4 K (IR a o (ks.zip vs)) G ds where
 go:=λi G2 H g1 g2 hi=>⟨g2 _ _ (g1 _ _ e),by rw[tQ,hl,tS,rs.length]; exact hi⟩
 vE:=λi G2 H x H' g1 g2 hi y=>by
  obtain⟨rfl,k,hk⟩:=y;obtain⟨d,ed,rd⟩:=rs.at (B4 hk).2;exact⟨G2,d,zZ.refl g2,ed,rd.mono g1⟩
 stop:=λi G2 H g1 g2 hi=>⟨g2 _ _ (g1 _ _ e),by rw[tQ,hl,tS,rs.length]; exact hi⟩
theorem Ma{X:Cx}{tg:Expr}{x:Str}{p apos cpos:Pos}{i:Nat}(hN:X.N[i]?=some x)(hv:tu X.env.scope x)(hd:(x==("__debug__" : Str))=false:=by decide)(hcd:(x==("__classdict__" : Str))=false:=by decide)
  (hbase:attributeBase (.Name x p) "values" X.env (eval (.Name x p) X.env)=eval (.Name x p) X.env:=by rfl)(hline:(apos.endLine==cpos.line)=true:=by rfl):YB X i tg (.Call (.Attribute (.Name x p) "values" apos) [] [] cpos) (pF i):=by
 refine⟨⟨_,bv hN hv hd hcd hbase hline,λ{G0 H0 G H τ σ ds R} K kn hf q=>?_⟩⟩;obtain⟨a,o,ks,ds',vs,ht,hs,e,hl,rs,ll⟩:=kn;unfold pF at hf;rw[ht]at hf;cases hf;exact⟨a,o,_,hs,K.ext.gh _ _ e,q _ _ _ (zZ.refl K.ext.gh) ll (PF hl e rs)⟩
theorem Iv{i n:Nat}{fs:FA}{fg:FG}{ft:FT}{f:FE}(h:qU i fs):qU i (xn n fs fg ft f):=λτ x hf=>by
 obtain⟨ds,hd,_⟩:=zU hf;exact h τ ds hd
theorem Dq{i j:Nat}{f:FE}(h:qU i f):qU i (zf j f):=λτ x hf=>by
 obtain⟨d,hd,_⟩:=zU hf;exact h τ d hd
section
variable{X:Cx}{i:Nat}{tg iter elt:Expr}{ifs:List Expr}{scope:Scope}{cl:List (Str×Addr)}{own:List Str}{pos:Pos}{fs:FA}{fg:FG}{ft:FT}{f:FE}{g:TG}
theorem iM(hcalm:X.calm=true)(B:pZ X scope cl own)(hi:YB X i tg iter fs)(hg:BG X scope cl own tg g fg)(hc:∀C s H fp pn,jz (xb X scope cl own C s H fp pn) ifs ft)
  (he:∀C s H fp pn,SE (xb X scope cl own C s H fp pn) elt f)(hs:∀x,foldedSetIterable iter X.env x=pure x:=by intro _; rfl) :
  DC X i (.ListComp elt [⟨tg,iter,ifs,0⟩] scope pos) (xn own.length fs fg ft f):=by
 obtain⟨ti,pi,ki⟩:=hi.h;refine⟨⟨_,Eh hcalm B pi (λC s H fp pn=>(hg.q C s H fp pn).h) (λC s H fp pn=>Xd (hc C s H fp pn)) (λC s H fp pn=>Xc (he C s H fp pn)) hs,λ{G0 H0 G H τ σ d Q} K kn hf q=>?_⟩⟩;obtain⟨ds,hd,hf⟩:=zU hf;obtain⟨out,ho,hf⟩:=zU hf;cases hf;refine ki K kn hd λJ Ga Ha xa l wk=>Xx wk l (K.go xa) ho (hg.k K.l2 K.l1) λys G1 H1 x1 r1 l1 p hp=>?_
 exact q p _ _ (xa.trans (x1.trans (zZ.uZ x1.gh hp))) (xa.h.free (x1.h.free hp)) (x1.gh.free hp) ⟨ys,yT,r1,l1⟩
theorem HM{j:Nat}{x:Str}{px spos:Pos}(hcalm:X.calm=true)(hN:X.N.Nodup)(hix:X.N[j]?=some x)(hx:X.env.scope.names.lookup x=some .local)(B:pZ X scope cl own)
  (hsw:swapsWith (.ListComp elt [⟨tg,iter,ifs,0⟩] scope pos) (some (.Name x px)) spos.line X.env=pure true)(hi:YB X i tg iter fs)(hg:BG X scope cl own tg g fg)(hc:∀C s H fp pn,jz (xb X scope cl own C s H fp pn) ifs ft)
  (he:∀C s H fp pn,SE (xb X scope cl own C s H fp pn) elt f)(hs:∀x,foldedSetIterable iter X.env x=pure x:=by intro _; rfl) :
  IY X i (.Assign [.Name x px] (.ListComp elt [⟨tg,iter,ifs,0⟩] scope pos) spos) (zf j (xn own.length fs fg ft f)):=by
 obtain⟨ti,pi,ki⟩:=hi.h;refine⟨⟨_,M1 hcalm hN hix hx B hsw pi (λC s H fp pn=>(hg.q C s H fp pn).h) (λC s H fp pn=>Xd (hc C s H fp pn)) (λC s H fp pn=>Xc (he C s H fp pn)) hs,λ{G0 H0 G H τ σ fl E} K kn hf q=>?_⟩⟩;obtain⟨d,hf1,hf⟩:=zU hf;cases hf;obtain⟨ds,hd,hf1⟩:=zU hf1;obtain⟨out,ho,hf1⟩:=zU hf1;cases hf1;refine ki K kn hd λJ Ga Ha xa l wk=>Xx wk l (K.go xa) ho (hg.k K.l2 K.l1) λys G1 H1 x1 r1 l1 p hp=>?_
 have K2:=((K.go xa).go x1).go (zZ.lay (o:=.lst ys) x1.gh hp);exact q _ _ _ (K2.set (yx.mp hix).1 ⟨p,ys,rfl,yP.of yT,r1.mono (wf (x1.gh.free hp) _),l1⟩)
end
end L3
namespace L2
open PySem PySem.Spec PyProof PyProof.Rows
def IN(a:Addr)(o:Obj)(kvs:List (zM×V)):It:=⟨λi H=>H a=some (.y1 o (.dK kvs))/\i<kvs.length,λi H v H'=>∃p k u,H p=none/\v=.ref p/\kvs[i]?=some (k,u)/\H'=zb H p (.tup [kV k,u]),λi H=>H a=some (.y1 o (.dK kvs))/\kvs.length<=i⟩
theorem oC{P:Program}{w:World}{K:W.Frag}{elts:List Expr}{kk:Nat}{pos:Pos}{kvs:List (zM×V)}{o:Obj}{es:Array DictEntry}{ep:Nat}(a it:Addr)(d:o.data=.dict es ep) :
  tq P w K (.Tuple elts kk pos) (IN a o kvs) [it] it (λi h=>∃ok ov,IsItemIter h it a i kvs.length ep ok ov) where
 mem:=by simp
 obj:=λi h st b hb=>by
  have e:b=it:=by simpa using hb
  subst e;obtain⟨ok,ov,s1⟩:=st;exact⟨_,s1,λv q=>nomatch q⟩
 keep:=λi h h' st k=>by
  obtain⟨ok,ov,s1⟩:=st;exact⟨ok,ov,k it (by simp) _ s1⟩
 item:=by
  intro X hP hw hK hc i z6 s σ H E I hf st hg;subst hP hw hK;obtain⟨ok,ov,s1⟩:=st;obtain⟨_,vs,rel,dd⟩:=j6 I.zg hg.1 d;have ln:vs.length=kvs.length:=ui rel;have hi:i<vs.length:=by rw[ln]; exact hg.2
  have hx:vs[i]?=some (vs[i].1,vs[i].2):=yF hi;obtain⟨u,hk,ru⟩:=QM rel hx;have lt1:it<s.heap.objs.size:=Heap.lt_size s1;rw[<-ln]at s1;refine wpAny_pyNext_items_item s1 dd hx λkey h1 hkey ho ht hz hk1=>?_
  refine⟨_,rfl,wpAny_letOwnedTupleGo_items (s:={ s with heap:=h1 }) ho λh2 he2 hs2=>?_⟩
  replace hs2:Heap.SameBut it h1 h2:=hs2
  have hTs:s.heap.get? s.heap.objs.size=none:=by
   cases q:s.heap.get? s.heap.objs.size with
   |none=>rfl
   |some o=>exact absurd (Heap.lt_size q) (wQ _)
  have hTf:H s.heap.objs.size=none:=I.zg.fresh (zt _);have tup:h2.get? s.heap.objs.size=some { cls:=.type "tuple",data:=.seq #[key,vs[i].2] }:=hs2.extBut _ _ (uU lt1) ht
  have kk:∀c o,c ∉ [it]->s.heap.get? c=some o->h2.get? c=some o:=λc o hc z=>by
   have hc':c≠it:=λq=>hc (by rw[q]; exact w_.mpr rfl)
   exact hs2.extBut _ _ hc' (hk1 c o hc' z)
  have new:xC X.prog X.w (zb H s.heap.objs.size (.tup [kV vs[i].1,u])) h2 s.heap.objs.size (.tup [kV vs[i].1,u]):=⟨(by show 2<=sizeLine; decide),[key,vs[i].2],.cons (LD hkey) (.cons ru .nil),⟨_,tup,rfl,_,rfl⟩⟩;rw[ln]at he2;refine⟨.ref s.heap.objs.size,zb H s.heap.objs.size (.tup [kV vs[i].1,u]),I.V_ (tk:=s.toks) hf kk hTs hTf new,rfl,⟨s.heap.objs.size,_,u,hTf,rfl,hk,rfl⟩,⟨key,_,he2⟩,λc hc=>?_⟩;rw[zx]
  ·exact(hf c hc).1
  ·intro q;have e:c=it:=by simpa using hc
   rw[e]at q;rw[q]at lt1;exact absurd lt1 (wQ _)
 done:=by
  intro X hP hw hK hc i z6 s σ H E I hf st hg;subst hP hw hK;obtain⟨ok,ov,s1⟩:=st;obtain⟨_,vs,rel,dd⟩:=j6 I.zg hg.1 d;have ln:vs.length=kvs.length:=ui rel;have hx:vs[i]?=none:=uT (by rw[ln]; exact hg.2);rw[<-ln]at s1;exact wpAny_pyNext_items_end (I.ok.hd hc) s1 dd hx λh1 he1=>⟨rfl,I.but (tk:=s.toks) hf λc ob hcc eb=>he1 c ob (λq=>hcc (by rw[q]; exact w_.mpr rfl)) eb⟩
 self:=λ_ _ _ _ _ st h=>by
  obtain⟨ok,ov,s1⟩:=st;exact W.kcp_self s1 h
def Rb(i:Nat):TI:=λσ H R=>∃a o kvs,σ[i]?=some (some (.ref a))/\H a=some (.y1 o (.dK kvs))/\R (IN a o kvs) H
theorem bu{X:Cx}{elts:List Expr}{kk:Nat}{tpos:Pos}{x:Str}{p apos cpos:Pos}{i:Nat}(hN:X.N[i]?=some x)(hv:tu X.env.scope x)(hd:(x==("__debug__" : Str))=false:=by decide)(hcd:(x==("__classdict__" : Str))=false:=by decide)
  (hbase:attributeBase (.Name x p) "items" X.env (eval (.Name x p) X.env)=eval (.Name x p) X.env:=by rfl)(hline:(apos.endLine==cpos.line)=true:=by rfl) :
  PI X (.Tuple elts kk tpos) (.Call (.Attribute (.Name x p) "items" apos) [] [] cpos) (Rb i):=by
 intro z6 s σ H R I hR;obtain⟨a,o,kvs,ha,e,hR⟩:=hR;refine Bj hbase hline (zo (Yp (pos:=p) hN hv hd hcd z6 s σ H (λv H1=>v=.ref a/\H1=H) I ⟨_,ha,rfl,rfl⟩) λv s1 ⟨y,H1,I1,r1,e1,e2⟩=>?_);subst e1 e2;cases(show v=Value.ref a from r1);obtain⟨g,_,_,_,_,o',es,ep,g',_,hdat,_⟩:=(show xC X.prog X.w H1 s1.heap a (.y1 o (.dK kvs))from I1.zg a _ e);rw[g]at g';cases g';obtain⟨lo,vs,rel,dd⟩:=j6 I1.zg e hdat;have ln:vs.length=kvs.length:=ui rel;have dO:s1.heap.DictOf (yd X.prog X.w) a vs:=dd.dictOf
 have t2:∀b,Value.ref a=.ref b->∃ob,s1.heap.get? b=some ob/\ob.dict=none:=λb q=>by
  cases q;obtain⟨ob,_,_,h1,h2,_⟩:=dO;exact⟨ob,h1,h2.2.1⟩
 refine⟨"dict",_,PySem.F.plainAttrs_dict,PySem.F.slot_dict_items,PySem.F.type_dict_items,dO.typeIs,t2,JY rfl (PySem.evalArgs_none ?_)⟩;refine call_meetsIn PySem.F.slot_dict_items dO.typeIs PySem.F.entry_dict_items (PySem.F.args_dict_items_1 _) (meets_dict_items (yd X.prog X.w) a lo) ⟨⟨vs,dO⟩,?_⟩;have I2:Inv X z6 σ H1 { s1 with heap:=s1.heap.push { cls:=.type "dict_items",data:=.fields #[.ref a] } }:=I1.kept (t':=s1.toks) λb o e=>Heap.get?_push_of_some _ e
 refine wpAny_pyIter_items (knd:=yd X.prog X.w) (s:={ s1 with heap:=s1.heap.push { cls:=.type "dict_items",data:=.fields #[.ref a] } }) ⟨_,Heap.get?_push_size _ rfl,rfl,rfl⟩ (dd.push _) ?_;rw[ln];refine⟨_,[_],_,_,H1,rfl,I2.kept (t':=s1.toks) λb o e=>Heap.get?_push_of_some _ e,oC a _ hdat,⟨_,_,Heap.get?_push_size _ rfl⟩,λb hb=>?_,hR⟩;have e:=w_.mp hb;subst e;exact I2.qp (zt _) (I2.zg.fresh (zt _))
end L2
namespace L3
open PySem PySem.Spec PyProof PyProof.Rows L2
def jI(ks:List zM)(ds:List D):List D:=List.zipWith (λk d=>D.tup [keyOf k,d]) ks ds
def Yg(i:Nat):FA:=λτ=>match τ[i]? with
 |some (some (false,.dic ks ds))=>if ks.all uN=true then some (jI ks ds)else none
 |_=>none
theorem P7(i:Nat):qU i (Yg i):=λτ x hf=>by
 unfold Yg at hf
 split at hf
 ·rename_i ks ds e;exact⟨ks,ds,e⟩
 ·cases hf
theorem P5{K:W.Frag}{G:Hp}{a:Addr}{o:Obj}{ks:List zM}{ds:List D}{vs:List V}(hl:ks.length=vs.length)(e:G a=some (.y1 o (.dK (ks.zip vs))))(rs:Reps K G ds vs)(h:ks.all uN=true):t4 K (IN a o (ks.zip vs)) G (jI ks ds) where
 go:=λi G2 H g1 g2 hi=>⟨g2 _ _ (g1 _ _ e),by
  unfold jI at hi;rw[gt,<-rs.length]at hi;rw[tQ];exact hi⟩
 vE:=λi G2 H x H' g1 g2 hi y=>by
  obtain⟨p,k,u,hp,rfl,hk,rfl⟩:=y;obtain⟨hk1,hu⟩:=B4 hk;obtain⟨d,ed,rd⟩:=rs.at hu;refine⟨zb G2 p (.tup [kV k,u]),.tup [keyOf k,d],zZ.lay g2 hp,?_,?_⟩
  ·unfold jI;rw[Jh,hk1,ed]
  ·have sm:yU G (zb G2 p (.tup [kV k,u])):=g1.trans (wf (g2.free hp) _);exact⟨p,[kV k,u],rfl,yq.of yT,⟨_,_,rfl,LE (vB.mp h k (qT hk1)),⟨u,_,rfl,rd.mono sm,rfl⟩⟩,L2.small (n:=2) (by decide)⟩
 stop:=λi G2 H g1 g2 hi=>⟨g2 _ _ (g1 _ _ e),by
  unfold jI at hi;rw[gt,<-rs.length]at hi;rw[tQ];exact hi⟩
theorem iS{X:Cx}{elts:List Expr}{kk:Nat}{tpos:Pos}{x:Str}{p apos cpos:Pos}{i:Nat}(hN:X.N[i]?=some x)(hv:tu X.env.scope x)(hd:(x==("__debug__" : Str))=false:=by decide)(hcd:(x==("__classdict__" : Str))=false:=by decide)
  (hbase:attributeBase (.Name x p) "items" X.env (eval (.Name x p) X.env)=eval (.Name x p) X.env:=by rfl)(hline:(apos.endLine==cpos.line)=true:=by rfl):YB X i (.Tuple elts kk tpos) (.Call (.Attribute (.Name x p) "items" apos) [] [] cpos) (Yg i):=by
 refine⟨⟨_,bu hN hv hd hcd hbase hline,λ{G0 H0 G H τ σ ds R} K kn hf q=>?_⟩⟩;obtain⟨a,o,ks,ds',vs,ht,hs,e,hl,rs,ll⟩:=kn;unfold Yg at hf;rw[ht]at hf
 change (if ks.all uN=true then some (jI ks ds')else none)=some ds at hf
 by_cases c:ks.all uN=true
 ·rw[zP c]at hf;cases hf;refine⟨a,o,_,hs,K.ext.gh _ _ e,q _ _ _ (zZ.refl K.ext.gh) ?_ (P5 hl e rs c)⟩;unfold jI;rw[gt];exact xj (Nat.min_le_right _ _) ll
 ·rw[zS c]at hf;cases hf
end L3
namespace L2
open PySem PySem.Spec PyProof PyProof.Rows
section
variable{prog:Program}{w:World}{K:Type}[DecidableEq K]{knd:KeyKind prog w K}{A:Around}{E:Value->Shared->Prop}{s:Shared}
theorem AK{it d:Addr}{i ep:Nat}{kvs:List (K×Value)}{k:K}{v:Value}{Q:Value->Shared->Prop}(hit:s.heap.IsKeyIter it d i kvs.length ep)(hm:s.heap.DictAt knd d kvs ep)(hx:kvs[i]?=some (k,v))
  (hQ:∀key h',knd.is k key=true->h'.IsKeyIter it d (i+1) kvs.length ep->Heap.SameBut it s.heap h'->Q key { s with heap:=h' }):wpAny (model prog w) A (Builtin.SmallTypes.nextOf (.ref it)) Q E s:=by
 obtain⟨o,ho,hc,hd⟩:=id hit;obtain⟨od,es,hod,hcd,hdd,hk,hp,hn⟩:=id hm;have hsz:es.size=kvs.length:=by rw[<-hp.length]; simp
 have hlt:i<kvs.length:=(yx.mp hx).1;have hlt':i<es.size:=hsz.symm▸hlt;have hkey:knd.is k es[i].key=true:=(hp.get? (e:=es[i]) (by simp[hlt']) hx).1;have hown:Builtin.Dict_items.ownsTuple "dict_keyiterator" = false:=by decide
 have e0:¬ ((Value.ref d==Value.none)=true):=xG;unfold Builtin.SmallTypes.nextOf;refine zD (pW (name:=Str.ofString "__next__") hit.typeIs PySem.F.slot_dict_keyiterator_next (tU PySem.F.slot_dict_keyiterator_next hit.typeIs PySem.F.entry_dict_keyiterator_next ?_ (PySem.F.args_dict_keyiterator_next_1 _)));refine zD (zV (zD (zD ?_)))
 first|refine zD (Jz hit.typeIs (zV ?_))|refine zD (J_ hit.typeIs (zV ?_))
 refine zD (Bk ho hd ?_);simp only[hown,jT,uV]
 change wpAny _ _ (if(Value.ref d==Value.none)=true then _ else _) _ _ s
 rw[zS e0];refine zD (zV (zD (wpAny_dictEntries hod hdd ?_)));rw[zS (by rw[hsz]; simp)];refine zD (zV (zD (wpAny_dictEpoch hod hdd ?_)));rw[zS (by simp)];refine zV ?_;simp only[show ¬ ((i:Int)<0)from by omega,uV,xB,gi hlt'];refine zD ?_
 first|refine zD (Jz hit.typeIs (zV ?_))|refine zD (J_ hit.typeIs (zV ?_))
 refine zD (wpAny_isOneOf_keyiter hit.typeIs ?_)
 change wpAny _ _ (setField (.ref it) 1 (rawInt ((i:Int)+1)) >>= _) _ _ s
 refine zD (Vy ho hd (by simp) ?_)
 have hit':(s.heap.update it (Obj.mapFields (·.setIfInBounds 1 (rawInt ((i:Int)+1))))).IsKeyIter it d (i+1) kvs.length ep:=
  ⟨_,Heap.get?_update_self _ ho (Obj.isFreed_of_fields (Jm hd _)),(Obj.cls_mapFields ..).trans hc,by rw[Jm hd]; simp[rawInt]⟩
 refine zD (uW (zD (wpAny_isOneOf_keyiter (s:={ s with heap:=s.heap.update it (Obj.mapFields (·.setIfInBounds 1 (rawInt ((i:Int)+1)))) }) hit'.typeIs ?_)))
 change wpAny _ _ (pure es[i].key) _ _ _
 exact zV (zV ⟨_,rfl,zV (hQ _ _ hkey hit' (Heap.SameBut.update ..))⟩)
theorem CO{it d:Addr}{i ep:Nat}{kvs:List (K×Value)}{Q:Value->Shared->Prop}(hh:A.handled=none)(hit:s.heap.IsKeyIter it d i kvs.length ep)(hm:s.heap.DictAt knd d kvs ep)(hx:kvs[i]?=none)
  (hE:∀h' e,Heap.ExtBut it s.heap h'->(∃o,h'.get? e=some o/\o.cls=.type "StopIteration")->E (.ref e) { s with heap:=h' }):wpAny (model prog w) A (Builtin.SmallTypes.nextOf (.ref it)) Q E s:=by
 obtain⟨o,ho,hc,hd⟩:=id hit;obtain⟨od,es,hod,hcd,hdd,hk,hp,hn⟩:=id hm;have hsz:es.size=kvs.length:=by rw[<-hp.length]; simp
 have hge:es.size<=i:=by rw[hsz]; simpa using hx
 have hown:Builtin.Dict_items.ownsTuple "dict_keyiterator" = false:=by decide
 have e0:¬ ((Value.ref d==Value.none)=true):=xG;unfold Builtin.SmallTypes.nextOf;refine zD (pW (name:=Str.ofString "__next__") hit.typeIs PySem.F.slot_dict_keyiterator_next (tU PySem.F.slot_dict_keyiterator_next hit.typeIs PySem.F.entry_dict_keyiterator_next ?_ (PySem.F.args_dict_keyiterator_next_1 _)));refine zD (zV (zD (zD ?_)))
 first|refine zD (Jz hit.typeIs (zV ?_))|refine zD (J_ hit.typeIs (zV ?_))
 refine zD (Bk ho hd ?_);simp only[hown,jT,uV]
 change wpAny _ _ (if(Value.ref d==Value.none)=true then _ else _) _ _ s
 rw[zS e0];refine zD (zV (zD (wpAny_dictEntries hod hdd ?_)));rw[zS (by rw[hsz]; simp)];refine zD (zV (zD (wpAny_dictEpoch hod hdd ?_)));rw[zS (by simp)];refine zV ?_;simp only[show ¬ ((i:Int)<0)from by omega,uV,xB,Ve hge];refine zD ?_
 first|refine zD (Jz hit.typeIs (zV ?_))|refine zD (J_ hit.typeIs (zV ?_))
 change wpAny _ _ (setField (.ref it) 0 .none >>= _) _ _ s
 refine zD (Vy ho hd (by simp) ?_)
 change wpAny _ _ (newExc (.type "StopIteration") [] >>= _) _ _ _
 refine zD ?_;simp only[newExc,newTuple];refine zD (uv ?_ (by size_fits));refine zD (m:=firstArgMember _ _) (Vv (a:=Value.none) (by first|rfl|(simp only[firstArgMember]; rfl)) ?_);refine uv ?_ (by size_fits);simp only[raiseNew];refine zD (Bl ?_)
 first|rw[show A.in1.handled=none from hh]|rw[hh]
 refine zD (zV (wpAny_throw ?_));exact hE _ _ (((Heap.SameBut.update ..).extBut.push _).push _) ⟨_,Heap.get?_push_size _ rfl,rfl⟩
theorem PC(hh:A.handled=none)(it d:Addr)(hne:d≠it)(kvs:List (K×Value))(ep:Nat) :
  Draws prog w A it [it,d] kvs.length (λi v=>∃k x,kvs[i]?=some (k,x)/\knd.is k v=true) (λi h=>h.IsKeyIter it d i kvs.length ep/\h.DictAt knd d kvs ep) where
 live:=λ_ _ st=>let ⟨o,ho,_⟩:=st.1; ⟨o,ho⟩
 frame:=λ_ _ _ st hk=>⟨st.1.at λo e=>hk it (by simp) o e,st.2.at' λo e=>hk d (by simp) o e⟩
 item:=λi s Q E hi st hQ=>AK st.1 st.2 (yF hi) λkey h' hk st' sb=>hQ _ h' s.toks ⟨_,_,yF hi,hk⟩ ⟨st',st.2.extBut sb.extBut hne⟩ sb
 done:=λs Q E st hE=>CO hh st.1 st.2 (by simp) hE
theorem AJ(d:Addr)(kvs:List (K×Value))(ep:Nat)(lo:(d==sysModules)=false) :
  MeetsIn prog w (Builtin.«enumerate.__new__» ⟨[.type "enumerate",.ref d],[]⟩) (λ_ R s=>s.heap.DictAt knd d kvs ep/\
   R (.ok (.ret (.ref (s.heap.push { cls:=.type "dict_keyiterator",data:=.fields #[.ref d,.int 0 0,.int kvs.length 0,.int ep 0] }).objs.size)))
    { s with heap:=(s.heap.push { cls:=.type "dict_keyiterator",data:=.fields #[.ref d,.int 0 0,.int kvs.length 0,.int ep 0] }).push { cls:=.type "enumerate",data:=.fields #[.none,.bool false,.ref s.heap.objs.size,rawInt 0,.none,.none] } }):=
 .of_wp λA R s h=>by
  obtain⟨hp,g,d',tk,os⟩:=s;obtain⟨hm,h⟩:=h;have hsub:=sub_enumerate;obtain⟨od,es,hod,hcd,hdd,hk,hp',hn⟩:=id hm;have hm':(Shared.heap ⟨hp,g,d',tk,os⟩).DictAt knd d kvs ep:=hm
  wp_walk using PySem.AutoSeq1.wpAny_loadPart' hod
  refine wpAny_stack_any λst=>zV ?_
  split
  ·rename_i c _ _ _ _ _;cases(c==Value.type "enumerate")
   ·wp_walk using PySem.AutoSeq1.wpAny_loadPart' hod,Jw lo hm'
    exact⟨_,rfl,h⟩
   ·wp_walk using PySem.AutoSeq1.wpAny_loadPart' hod,Jw lo hm'
    exact⟨_,rfl,h⟩
  ·wp_walk using PySem.AutoSeq1.wpAny_loadPart' hod,Jw lo hm'
   exact⟨_,rfl,h⟩
theorem NY{d:Addr}{kvs:List (K×Value)}{ep:Nat}{Q:Value->Shared->Prop}(lo:(d==sysModules)=false)(hm:s.heap.DictAt knd d kvs ep)
  (h:∀h',IsEnum h' (s.heap.objs.size+1) s.heap.objs.size 0 .none->h'.IsKeyIter s.heap.objs.size d 0 kvs.length ep->h'.objs.size=s.heap.objs.size+2->(∀b o,s.heap.get? b=some o->h'.get? b=some o)->Q (.ref (s.heap.objs.size+1)) { s with heap:=h' }) :
  wpAny (model prog w) A (call (.type "enumerate") [.ref d]) Q E s:=by
 refine callType_newIn PySem.F.called_enumerate (by decide) (PySem.F.typeCall_enumerate_1 _) (PySem.F.newCall_enumerate_1 _) (λobj=>PySem.F.args_object_init_2 obj _) PySem.F.entry_enumerate_new (AJ d kvs ep lo) ⟨hm,?_⟩;have hz:(s.heap.push { cls:=.type "dict_keyiterator",data:=.fields #[.ref d,.int 0 0,.int kvs.length 0,.int ep 0] }).objs.size=s.heap.objs.size+1:=Heap.size_push ..
 change _/\_
 rw[hz]
 have he:IsEnum ((s.heap.push { cls:=.type "dict_keyiterator",data:=.fields #[.ref d,.int 0 0,.int kvs.length 0,.int ep 0] }).push { cls:=.type "enumerate",data:=.fields #[.none,.bool false,.ref s.heap.objs.size,rawInt 0,.none,.none] }) (s.heap.objs.size+1) s.heap.objs.size 0 .none:=by
  have q:=Heap.get?_push_size (s.heap.push { cls:=.type "dict_keyiterator",data:=.fields #[.ref d,.int 0 0,.int kvs.length 0,.int ep 0] }) (o:={ cls:=.type "enumerate",data:=.fields #[.none,.bool false,.ref s.heap.objs.size,rawInt 0,.none,.none] }) rfl;rw[hz]at q;exact q
 exact⟨⟨_,he,rfl⟩,h _ he ⟨_,Heap.get?_push_of_some _ (Heap.get?_push_size _ rfl),rfl,rfl⟩ (by rw[Heap.size_push,hz]) λb o x=>Heap.get?_push_of_some _ (Heap.get?_push_of_some _ x)⟩
end
def IP(a:Addr)(o:Obj)(kvs:List (zM×V)):It:=⟨λi H=>H a=some (.y1 o (.dK kvs))/\i<kvs.length,λi H v H'=>∃p k u,H p=none/\v=.ref p/\kvs[i]?=some (k,u)/\H'=zb H p (.tup [.int (i:Int),kV k]),λi H=>H a=some (.y1 o (.dK kvs))/\kvs.length<=i⟩
theorem oB{P:Program}{w:World}{K:W.Frag}{elts:List Expr}{kk:Nat}{pos:Pos}{kvs:List (zM×V)}{o:Obj}{es:Array DictEntry}{ep:Nat}(a e it:Addr)(hei:e≠it)(d:o.data=.dict es ep) :
  tq P w K (.Tuple elts kk pos) (IP a o kvs) [e,it] e (λi h=>(∃old,IsEnum h e it (i:Int) old)/\h.IsKeyIter it a i kvs.length ep) where
 mem:=by simp
 obj:=λi h st c hc=>by
  obtain⟨⟨old,s1⟩,⟨o2,s2,_,d2⟩⟩:=st;simp only[yV,wb,or_false]at hc;rcases hc with rfl|rfl
  ·exact⟨_,s1,λv q=>nomatch q⟩
  ·exact⟨_,s2,λv q=>by rw[d2]at q; cases q⟩
 keep:=λi h h' st k=>by
  obtain⟨⟨old,s1⟩,s2⟩:=st;exact⟨⟨old,k e (by simp) _ s1⟩,s2.at λo x=>k it (by simp) o x⟩
 item:=by
  intro X hP hw hK hc i z6 s σ H E I hf st hg;subst hP hw hK;obtain⟨⟨old,s1⟩,s2⟩:=st;obtain⟨_,vs,rel,dd⟩:=j6 I.zg hg.1 d;have ln:vs.length=kvs.length:=ui rel;have hi:i<vs.length:=by rw[ln]; exact hg.2
  have lt1:e<s.heap.objs.size:=Heap.lt_size s1;have lt2:it<s.heap.objs.size:=by obtain⟨o,z,_⟩:=s2; exact Heap.lt_size z
  have nea:∀c∈[e,it],a≠c:=λc hc z=>by
   have:=(hf c hc).1;rw[<-z,hg.1]at this;cases this
  rw[<-ln]at s2;refine wpAny_pyNext_enum_itemD (PC (knd:=yd X.prog X.w) (by exact I.ok.hd hc) it a (nea it (by simp)) vs ep) s1 ⟨s2,dd⟩ hi hei (by simp only[yV,wb,or_false,Zj]; exact⟨hei,(nea e (by simp)).symm⟩) λx h1 tk hP heo hs1 ht1 hz1 hk1=>?_
  obtain⟨k,xx,hx,hkey⟩:=hP;obtain⟨u,hk,ru⟩:=QM rel hx;obtain⟨s2',dd'⟩:=hs1;rw[ln]at s2';refine⟨_,rfl,Kp (s:={ s with heap:=h1,toks:=tk+1 }) heo λh2 he2 hs2=>?_⟩
  replace hs2:Heap.SameBut e h1 h2:=hs2
  have hTs:s.heap.get? s.heap.objs.size=none:=by
   cases q:s.heap.get? s.heap.objs.size with
   |none=>rfl
   |some o=>exact absurd (Heap.lt_size q) (wQ _)
  have hTf:H s.heap.objs.size=none:=I.zg.fresh (zt _);have tup:h2.get? s.heap.objs.size=some { cls:=.type "tuple",data:=.seq #[.int i tk,x] }:=hs2.extBut _ _ (uU lt1) ht1
  have kk:∀c o,c ∉ [e,it]->s.heap.get? c=some o->h2.get? c=some o:=λc o hc z=>by
   simp only[yV,wb,or_false,Zj]at hc;exact hs2.extBut _ _ hc.1 (hk1 c o hc.1 hc.2 z)
  have new:xC X.prog X.w (zb H s.heap.objs.size (.tup [.int (i:Int),kV k])) h2 s.heap.objs.size (.tup [.int (i:Int),kV k]):=⟨(by show 2<=sizeLine; decide),[.int i tk,x],.cons ⟨_,rfl⟩ (.cons (LD hkey) .nil),⟨_,tup,rfl,_,rfl⟩⟩;refine⟨.ref s.heap.objs.size,zb H s.heap.objs.size (.tup [.int (i:Int),kV k]),I.V_ (tk:=tk+1) hf kk hTs hTf new,rfl,⟨s.heap.objs.size,k,u,hTf,rfl,hk,rfl⟩,⟨⟨x,?_⟩,s2'.at λo z=>hs2.extBut _ _ hei.symm z⟩,λc hc=>?_⟩
  ·rw[show((i+1:Nat):Int)=(i:Int)+1 from rfl];exact he2
  ·rw[zx]
   ·exact(hf c hc).1
   ·intro q
    have hlt:c<s.heap.objs.size:=by
     simp only[yV,wb,or_false]at hc;rcases hc with rfl|rfl
     ·exact lt1
     ·exact lt2
    rw[q]at hlt;exact absurd hlt (wQ _)
 done:=by
  intro X hP hw hK hc i z6 s σ H E I hf st hg;subst hP hw hK;obtain⟨⟨old,s1⟩,s2⟩:=st;obtain⟨_,vs,rel,dd⟩:=j6 I.zg hg.1 d;have ln:vs.length=kvs.length:=ui rel
  have nea:∀c∈[e,it],a≠c:=λc hc z=>by
   have:=(hf c hc).1;rw[<-z,hg.1]at this;cases this
  rw[<-ln]at s2;have hT:s.TypeIs (.ref e) "enumerate" := ⟨_,s1,rfl⟩;unfold pyNext;refine zD (Js (pW (name:=Str.ofString "__next__") hT PySem.F.slot_enumerate_next (tU PySem.F.slot_enumerate_next hT PySem.F.entry_enumerate_next ?_ (PySem.F.args_enumerate_next_1 _))))
  change wpAny _ _ (field (.ref e) 2 >>= _) _ _ _
  refine zD (uA s1 rfl (x:=.ref it) rfl ?_);refine zD (CO (knd:=yd X.prog X.w) (by exact I.ok.hd hc) s2 dd (uT (by rw[ln]; exact hg.2)) λh' x he' hx'=>?_);obtain⟨o,ho,hc'⟩:=hx';refine zD (Jv (T := "StopIteration") (b:=true) ⟨o,ho,hc'⟩ Bg ?_);refine zV ⟨rfl,I.but (tk:=s.toks) hf λc ob hcc eb=>?_⟩;simp only[yV,wb,or_false,Zj]at hcc;exact he' c ob hcc.2 eb
 self:=λ_ _ _ _ _ st h=>by
  obtain⟨⟨old,s1⟩,_⟩:=st;exact Jx s1 h
def Rc(i:Nat):TI:=λσ H R=>∃a o kvs,σ[i]?=some (some (.ref a))/\H a=some (.y1 o (.dK kvs))/\R (IP a o kvs) H
theorem br{X:Cx}{elts:List Expr}{kk:Nat}{tpos:Pos}{x:Str}{p ep pos:Pos}{i:Nat}(hg:Gl X "enumerate")(hm:X.mg "enumerate" = none)(hN:X.N[i]?=some x)(hv:tu X.env.scope x)(hd:(x==("__debug__" : Str))=false:=by decide)(hcd:(x==("__classdict__" : Str))=false:=by decide) :
  PI X (.Tuple elts kk tpos) (.Call (.Name "enumerate" ep) [.Name x p] [] pos) (Rc i):=by
 intro z6 s σ H R I hR;obtain⟨a,o,kvs,ha,e,hR⟩:=hR;have pa:PA X [.Name x p] (ZV (jP i) ZW):=Lv (Yp (pos:=p) hN hv hd hcd) ZH rfl;refine Call_ (Z7 I hg hm boot_enumerate (Vq (zo (pa pos z6 s σ H (λvs H1=>vs=[.ref a]/\H1=H) I ⟨_,ha,rfl,rfl⟩) λus s1 ⟨vs,H1,I1,r1,e1,e2⟩=>?_) (by rfl) rfl));subst e1 e2;obtain⟨u,rfl,ru⟩:=vY r1;cases(show u=Value.ref a from ru);obtain⟨g,_,_,_,_,o',es,ep,g',_,hdat,_⟩:=(show xC X.prog X.w H1 s1.heap a (.y1 o (.dK kvs))from I1.zg a _ e);rw[g]at g';cases g';obtain⟨lo,vs,rel,dd⟩:=j6 I1.zg e hdat;have ln:vs.length=kvs.length:=ui rel;refine NY lo dd λh' a1 a2 hz kp=>?_
 have I2:Inv X z6 σ H1 { s1 with heap:=h' }:=I1.kept (t':=s1.toks) kp;refine Jx (s:={ s1 with heap:=h' }) a1 ?_;rw[ln]at a2;generalize hn:s1.heap.objs.size=n at a1 a2 hz;refine⟨n+1,[n+1,n],_,_,H1,rfl,I2,oB a (n+1) n (xE (by omega)) hdat,⟨⟨_,a1⟩,a2⟩,λc hc=>?_,hR⟩
 have hle:s1.heap.objs.size<=c:=by
  rw[hn];simp only[yV,wb,or_false]at hc;rcases hc with rfl|rfl
  ·exact g_ _ _
  ·exact zt _
 exact I1.qp hle (I1.zg.fresh hle)
end L2
namespace L3
open PySem PySem.Spec PyProof PyProof.Rows L2
def Yf(i:Nat):FA:=λτ=>match τ[i]? with
 |some (some (false,.dic ks _))=>if ks.all uN=true then some (we (ks.map keyOf))else none
 |_=>none
theorem P6(i:Nat):qU i (Yf i):=λτ x hf=>by
 unfold Yf at hf
 split at hf
 ·rename_i ks ds e;exact⟨ks,ds,e⟩
 ·cases hf
theorem PB{K:W.Frag}{G:Hp}{a:Addr}{o:Obj}{ks:List zM}{vs:List V}(hl:ks.length=vs.length)(e:G a=some (.y1 o (.dK (ks.zip vs))))(h:ks.all uN=true):t4 K (IP a o (ks.zip vs)) G (we (ks.map keyOf)) where
 go:=λi G2 H g1 g2 hi=>⟨g2 _ _ (g1 _ _ e),by
  rw[qN,zr]at hi;rw[tQ,<-hl,tS];exact hi⟩
 vE:=λi G2 H x H' g1 g2 hi y=>by
  obtain⟨p,k,u,hp,rfl,hk,rfl⟩:=y;obtain⟨hk1,hu⟩:=B4 hk;refine⟨zb G2 p (.tup [.int (i:Int),kV k]),.tup [.int (i:Int),keyOf k],zZ.lay g2 hp,?_,?_⟩
  ·rw[gG,xH,hk1];rfl
  ·exact⟨p,[.int (i:Int),kV k],rfl,yq.of yT,⟨_,_,rfl,rfl,⟨kV k,_,rfl,LE (vB.mp h k (qT hk1)),rfl⟩⟩,L2.small (n:=2) (by decide)⟩
 stop:=λi G2 H g1 g2 hi=>⟨g2 _ _ (g1 _ _ e),by
  rw[qN,zr]at hi;rw[tQ,<-hl,tS];exact hi⟩
theorem iR{X:Cx}{elts:List Expr}{kk:Nat}{tpos:Pos}{x:Str}{p ep pos:Pos}{i:Nat}(hg:Gl X "enumerate")(hm:X.mg "enumerate" = none)(hN:X.N[i]?=some x)(hv:tu X.env.scope x)(hd:(x==("__debug__" : Str))=false:=by decide)(hcd:(x==("__classdict__" : Str))=false:=by decide) :
  YB X i (.Tuple elts kk tpos) (.Call (.Name "enumerate" ep) [.Name x p] [] pos) (Yf i):=by
 refine⟨⟨_,br hg hm hN hv hd hcd,λ{G0 H0 G H τ σ ds R} K kn hf q=>?_⟩⟩;obtain⟨a,o,ks,ds',vs,ht,hs,e,hl,rs,ll⟩:=kn;unfold Yf at hf;rw[ht]at hf
 change (if ks.all uN=true then some (we (ks.map keyOf))else none)=some ds at hf
 by_cases c:ks.all uN=true
 ·rw[zP c]at hf;cases hf;refine⟨a,o,_,hs,K.ext.gh _ _ e,q _ _ _ (zZ.refl K.ext.gh) ?_ (PB hl e c)⟩;rw[qN,zr,hl,rs.length];exact ll
 ·rw[zS c]at hf;cases hf
end L3
namespace L2
open PySem PySem.Spec PyProof PyProof.Rows
theorem Sz(a d:Value):argsOk "max" ⟨[a],[("default",d)]⟩:=by unfold argsOk; kernel_rfl
section
variable{prog:Program}{w:World}{A:Around}{R:Result->Shared->Prop}{I:Addr}{fp wr:List Addr}{n:Nat}{P:Nat->Value->Prop}{St:Nat->Heap->Prop}{kw:List (Str×Value)}
theorem QW:(toString "max" ++ toString ".loop" : String) = "max.loop" := by decide
theorem Lc(W:Walks prog w A.in1 I fp wr n P St)(bt:Nat->Nat->Bool)(hcmp:CmpOf prog w A.in1 .Gt P bt)(S:Addr)(hSf:S ∉ fp):∀(k j:Nat)(s:Shared)(vb:Value)(c:Nat),n-(j+1)=k->j+1<=n->St (j+1) s.heap->P (argBest bt j) vb->
  s.heap.get? S=some { cls:=.type "list",dict:=none,data:=.seq #[vb,vb] c,slots:=#[] }->(∀v h' tk,P (argBest bt (n-1)) v->(∀b o,b ∉ wr->b≠S->s.heap.get? b=some o->h'.get? b=some o)->R (.ok (.ret v)) { s with heap:=h',toks:=tk })->
  codeAny (model prog w) A (.builtin "max.loop" ⟨[.ref I,.none,.ref S],kw⟩) R s
 |k,j,s,vb,c,hk,hj,hst,hPb,hS,hR=>by
  have hSw:S ∉ wr:=λh=>hSf (W.sub _ h)
  refine pV PySem.F.entry_max_loop ?_;rw[ZZ PySem.F.plain_max_loop _]
  change wpAny _ A.in1 (seqItems? (.ref S) >>= _) _ _ s
  refine zD (tV hS rfl ?_)
  change wpAny _ A.in1 (tryCatch (pyNext (.ref I)) _ >>= _) _ _ s
  match k,hk with
  |0,hk=>
   have hin:j+1=n:=by omega
   refine zD (XF (W.done s _ _ (hin▸hst) λh' tk hk'=>?_));have hS':=hk' S _ hSw hS
   change wpAny _ A.in1 (updateSeq S (λ_=>#[]) >>= _) _ _ _
   refine zD (Vz hS' rfl (zD (Zk (zV ?_))));exact hR vb _ tk (by rw[<-hin]; exact hPb) λb o hbw hbS e=>(Heap.get?_update_other _ _ (tT hbS)).trans (hk' b o hbw e)
  |k+1,hk=>
   have hlt:j+1<n:=by omega
   refine zD (XF (W.item (j+1) s _ _ hlt hst λv h' tk hP hst' hk'=>?_));have hS':=hk' S _ hSw hS
   change wpAny _ A.in1 (tryCatch (holding [v,v] (richCompare .Gt v vb >>= _)) _ >>= _) _ _ _
   refine zD (XF (uW (zD (hcmp (j+1) (argBest bt j) v vb _ _ _ hP hPb (zD (uW (Zm (zD (Zk (zV ?_))))))))));cases hb:bt (j+1) (argBest bt j)with
   |true=>
    simp only[vv];refine zD (Vz hS' rfl (zD (Zk ?_)));rw[QW];refine zV ⟨jb PySem.F.plain_max_loop _,Lc W bt hcmp S hSf k (j+1) _ v _ (by omega) hlt (W.frame _ _ _ hst' λb hbf o e=>?_) (by simp only[argBest,hb,vv]; exact hP) (Heap.get?_update_self _ hS' rfl) λv' h'' tk'' hP' hk''=>?_⟩
    ·exact(Heap.get?_update_other _ _ (λh:S=b=>hSf (by rw[h]; exact hbf))).trans e
    ·exact hR v' h'' tk'' hP' λb o hbw hbS e=>hk'' b o hbw hbS ((Heap.get?_update_other _ _ (tT hbS)).trans (hk' b o hbw e))
   |false=>
    simp only[jT,uV];refine zD (Zk ?_);rw[QW];refine zV ⟨jb PySem.F.plain_max_loop _,Lc W bt hcmp S hSf k (j+1) _ vb c (by omega) hlt hst' (by simp only[argBest,hb,jT,uV]; exact hPb) hS' λv' h'' tk'' hP' hk''=>?_⟩;exact hR v' h'' tk'' hP' λb o hbw hbS e=>hk'' b o hbw hbS (hk' b o hbw e)
theorem S_{dv:Value}(W:Walks prog w A.in1 I fp wr n P St)(bt:Nat->Nat->Bool)(hcmp:CmpOf prog w A.in1 .Gt P bt)(S:Addr)(hSf:S ∉ fp){s:Shared}{c:Nat}(hst:St 0 s.heap)
  (hS:s.heap.get? S=some { cls:=.type "list",dict:=none,data:=.seq #[] c,slots:=#[] })
  (hR:∀v h' tk,(n=0->v=dv)->(0<n->P (argBest bt (n-1)) v)->(∀b o,b ∉ wr->b≠S->s.heap.get? b=some o->h'.get? b=some o)->R (.ok (.ret v)) { s with heap:=h',toks:=tk }) :
  codeAny (model prog w) A (.builtin "max.loop" ⟨[.ref I,.none,.ref S],[("default",dv)]⟩) R s:=by
 have hSw:S ∉ wr:=λh=>hSf (W.sub _ h)
 refine pV PySem.F.entry_max_loop ?_;rw[ZZ PySem.F.plain_max_loop _]
 change wpAny _ A.in1 (seqItems? (.ref S) >>= _) _ _ s
 refine zD (tV hS rfl ?_)
 change wpAny _ A.in1 (tryCatch (pyNext (.ref I)) _ >>= _) _ _ s
 by_cases hn:n=0
 ·subst hn;refine zD (XF (W.done s _ _ hst λh' tk hk'=>?_))
  change wpAny _ A.in1 (rule _ >>= _) _ _ _
  refine zD (kA (zV ?_));exact hR dv _ tk (λ_=>rfl) (λz=>absurd z (wQ _)) λb o hbw hbS e=>hk' b o hbw e
 ·have hn':0<n:=by omega
  refine zD (XF (W.item 0 s _ _ hn' hst λv h' tk hP hst' hk'=>?_));have hS':=hk' S _ hSw hS
  change wpAny _ A.in1 (updateSeq S (λ_=>#[v,v]) >>= _) _ _ _
  refine zD (Vz hS' rfl ?_);rw[QW];refine zV ⟨jb PySem.F.plain_max_loop _,Lc W bt hcmp S hSf _ 0 _ v _ rfl hn' (W.frame _ _ _ hst' λb hbf o e=>?_) hP (Heap.get?_update_self _ hS' rfl) λv' h'' tk'' hP' hk''=>?_⟩
  ·exact(Heap.get?_update_other _ _ (λh:S=b=>hSf (by rw[h]; exact hbf))).trans e
  ·exact hR v' h'' tk'' (λz=>absurd z hn) (λ_=>hP') λb o hbw hbS e=>hk'' b o hbw hbS ((Heap.get?_update_other _ _ (tT hbS)).trans (hk' b o hbw e))
end
section
variable{prog:Program}{w:World}{A:Around}{E:Value->Shared->Prop}{s:Shared}
theorem o7{id:String}{b:Builtin}{args:List Value}{kw:List (Str×Value)}{Q:Value->Shared->Prop}(hk:builtinKind id=none)(hp:plainId id=true)(hb:entryFor table id=some b)(ha:argsOk id ⟨args,kw⟩)
  (hc:wpAny (model prog w) A.in1 (b ⟨args,kw⟩) (λfin s'=>match fin with
   |.done f=>(match(Except.ok f:Result)with|.ok (.ret v)=>Q v s'|.ok _=>False|.error e=>E e s')
   |.again c'=>c'.quiet=true/\codeAny (model prog w) A c' (λr s'=>match r with|.ok (.ret v)=>Q v s'|.ok _=>False|.error e=>E e s') s') E s):wpAny (model prog w) A (call (.builtin id) args kw) Q E s:=by
 refine Jt (Be hp hb ?_);simp only[checkBuiltinCall,hk];cases hsig:Manifest.signature? id with
 |none=>exact zV hc
 |some sig=>
  have ha':Bind.checkArgs id sig ⟨args,kw⟩=pure ():=by simpa only [argsOk,hsig]using ha
  simp only[ha'];exact zV hc
theorem Ng{x dv:Value}{Q:Value->Shared->Prop}
  (h:wpAny (model prog w) A.in1 (pyIter x) (λit s₂=>∃I fp wr n P St bt,it=.ref I/\Walks prog w A.in1 I fp wr n P St/\St 0 s₂.heap/\(∀b∈fp,b<s₂.heap.objs.size)/\CmpOf prog w A.in1 .Gt P bt/\
   ∀v h' tk,(n=0->v=dv)->(0<n->P (argBest bt (n-1)) v)->(∀b o,b ∉ wr->s₂.heap.get? b=some o->h'.get? b=some o)->Q v { s₂ with heap:=h',toks:=tk }) E s) :
  wpAny (model prog w) A (call (.builtin "max") [x] [("default",dv)]) Q E s:=by
 refine o7 PySem.F.kind_max PySem.F.plain_max PySem.F.entry_max (Sz _ _) ?_
 change wpAny _ A.in1 (Builtin.Builtins.bindParams "max" ["key", "default"] 0 ⟨[],[("default",dv)]⟩ >>= _) _ _ s
 refine zD (Vv (show Builtin.Builtins.bindParams "max" ["key", "default"] 0 ⟨[],[("default",dv)]⟩=pure [none,some dv]from rfl) ?_);refine zD (zV (zD (uB h (λit s₂ h₂=>?_) λ_ _ e=>e)));obtain⟨I,fp,wr,n,P,St,bt,rfl,W,hst,hfp,hcmp,hQ⟩:=h₂;refine zD (uv ?_);have hSf:s₂.heap.objs.size ∉ fp:=λhm=>wQ _ (hfp _ hm)
 rw[QW];refine zV ⟨jb PySem.F.plain_max_loop _,S_ W bt hcmp s₂.heap.objs.size hSf (W.frame _ _ _ hst λb _ o e=>Heap.get?_push_of_some _ e) (Heap.get?_push_size _ rfl) λv h' tk h0 hP hk=>?_⟩;exact hQ v h' tk h0 hP λb o hbw e=>hk b o hbw (wA (Heap.lt_size e)) (Heap.get?_push_of_some _ e)
end
section
variable{X:Cx}
def maxI:List Int->Int
 | []=>0
 |x::xs=>xs.foldl (λa b=>if a<b then b else a) x
theorem CI:∀(xs:List Int)(x:Int),(xs.foldl (λa b=>if a<b then b else a) x=x\/xs.foldl (λa b=>if a<b then b else a) x∈xs)/\x<=xs.foldl (λa b=>if a<b then b else a) x/\∀y∈xs,y<=xs.foldl (λa b=>if a<b then b else a) x
 | [],x=>⟨.inl rfl,Jb _,λy h=>absurd h (by simp)⟩
 |z::xs,x=>by
  obtain⟨a,b,c⟩:=CI xs (if x<z then z else x);have h1:x<=if x<z then z else x:=by split<;>omega
  have h2:z<=if x<z then z else x:=by split<;>omega
  refine⟨?_,BB h1 b,λy hy=>?_⟩
  ·rcases a with a|a
   ·by_cases q:x<z
    ·rw[zP q]at a
     right
     show List.foldl _ (if x<z then z else x) xs∈z::xs;rw[zP q,a];exact xP
    ·left
     rw[zS q]at a;show List.foldl _ (if x<z then z else x) xs=x;rw[zS q,a]
   ·exact .inr (wZ _ a)
  ·rcases yV.mp hy with rfl|hy
   ·exact BB h2 b
   ·exact c y hy
theorem Sr{xs:List Int}(h:xs≠[]):maxI xs∈xs/\∀y∈xs,y<=maxI xs:=by
 cases xs with
 |nil=>exact absurd rfl h
 |cons x xs=>
  obtain⟨a,b,c⟩:=CI xs x;refine⟨?_,λy hy=>?_⟩
  ·rcases a with a|a
   ·show List.foldl _ x xs∈_;rw[a];exact xP
   ·exact wZ _ a
  ·rcases yV.mp hy with rfl|hy
   ·exact b
   ·exact c y hy
theorem maxI_uniq{xs:List Int}{m:Int}(h:m∈xs)(h2:∀y∈xs,y<=m):m=maxI xs:=by
 obtain⟨a,b⟩:=Sr (xs:=xs) (λz=>by rw[z]at h; exact absurd h (by simp));have:=b m h;have:=h2 _ a;omega
def m9(K:W.Frag)(ta td:TE):TE:=λσ H Q=>ta σ H λx H1=>td σ H1 λz H2=>∃(p:Addr) (ns:List Int),x=.ref p/\yP K H2 p (ns.map V.int)/\Q (if ns=[]then z else .int (maxI ns)) H2
def GB(K:W.Frag)(x:V)(Q:VK):List V->Hp->Prop:=λzs H2=>match zs with
 | [z]=>∃(p:Addr) (ns:List Int),x=.ref p/\yP K H2 p (ns.map V.int)/\Q (if ns=[]then z else .int (maxI ns)) H2
 |_=>False
def cz(K:W.Frag)(td:TE)(σ:St)(Q:VK):List V->Hp->Prop:=λvs H1=>match vs with
 | [x]=>td σ H1 λz H2=>GB K x Q [z] H2
 |_=>False
theorem bX{a e:Expr}{ta td:TE}{p kp pos:Pos}(hcalm:X.calm=true)(hg:Gl X "max")(hm:X.mg "max" = none)(ha:PE X a ta)(hd:PE X e td)(hs:starEach [a] X.env=[(false,eval a X.env)]:=by rfl) :
  PE X (.Call (.Name "max" p) [a] [⟨some "default",e,kp⟩] pos) (m9 X.K ta td):=by
 intro z6 s σ H Q I h;have pa:PA X [a] (ZV ta ZW):=Lv ha ZH hs;have pk:PK X [⟨some "default",e,kp⟩] (ZV td ZW):=cG hd cH;refine Vu (Z7 I hg hm Dg ?_);refine PyProof.Rows.callWith_kw (zo (pa pos z6 s σ H (cz X.K td σ Q) I h) λus s1 ⟨vs,H1,I1,r1,q1⟩=>?_) (by rw[hs]; rfl) (by rw[hs]; rfl)
 match vs,r1,q1 with
 | [x],r1,q1=>
  obtain⟨u,rfl,ru⟩:=vY r1;refine zo (pk pos z6 s1 σ H1 (GB X.K x Q) I1 q1) λws s2 ⟨zs,H2,I2,rz,q2⟩=>?_
  match zs,rz,q2 with
  | [z],rz,q2=>
   obtain⟨dv,rfl,rd⟩:=vY rz;obtain⟨l,ns,rfl,hq,q⟩:=q2;cases(show u=Value.ref l from ru);have hdn:=I2.ok.hd hcalm;obtain⟨its,rv,pl,hz⟩:=I2.list hq;have hl:ns.length=its.toArray.size:=by have:=rv.length; rw[zr]at this; rw[yg]; exact this
   have hlt:l<s2.heap.objs.size:=by obtain⟨o,n,e,_⟩:=pl; exact Heap.lt_size e
   refine Ng ?_;refine Vx pl.isList ?_;refine⟨_,_,_,_,_,_,_,rfl,Walks.list (by exact hdn) s2.heap.objs.size l (wA hlt) its.toArray,⟨⟨_,Heap.get?_push_size _ rfl,rfl,rfl⟩,pl.isList.push _⟩,?_,CmpOf.ints_gt (λi=>ns.getD i 0) (λi v hv=>Hq rv hv),?_⟩
   ·intro b hb;show b<(s2.heap.push _).objs.size;rw[Heap.size_push];simp only[yV,wb,or_false]at hb;rcases hb with rfl|rfl
    ·exact Zh _
    ·exact Vp hlt
   ·intro v h' tk h0 hP k
    have kp:∀b o,s2.heap.get? b=some o->h'.get? b=some o:=λb o eb=>k b o (λz=>by
     have:b=s2.heap.objs.size:=by simpa using z
     rw[this]at eb;exact absurd (Heap.lt_size eb) (wQ _)) (Heap.get?_push_of_some _ eb)
    by_cases e0:ns=[]
    ·rw[zP e0]at q;have:v=dv:=h0 (by rw[<-hl,e0]; rfl);subst this;exact⟨z,H2,I2.kept (t':=tk) kp,rd,q⟩
    ·rw[zS e0]at q;have hpos:0<ns.length:=KY.mpr e0;have hP':=hP (by rw[<-hl]; exact hpos);obtain⟨t,rfl⟩:=Hq rv hP';obtain⟨b1,b2⟩:=argBest_gt (λi=>ns.getD i 0) (its.toArray.size-1);generalize argBest (λi j=>decide (ns.getD i 0>ns.getD j 0)) (its.toArray.size-1)=m at *;have hm':m<ns.length:=by omega
     have em:ns.getD m 0=maxI ns:=by
      refine maxI_uniq ?_ λy hy=>?_
      ·rw[wP,yF hm'];exact vq hm'
      ·obtain⟨j,hj,rfl⟩:=List.mem_iff_getElem.mp hy;have:=b2 j (by omega)
       rwa [wP,yF hj]at this
     exact⟨.int (maxI ns),H2,I2.kept (t':=tk) kp,⟨t,by rw[<-em]⟩,q⟩
end
end L2
namespace L3
open PySem PySem.Spec PyProof PyProof.Rows L2
def Z3:List D->Option (List Int)
 | []=>some []
 |.int i::r=>(Z3 r).bind λis=>some (i::is)
 |_::_=>none
theorem Fu{K:W.Frag}{G:Hp}:∀{xs:List D}{ns:List Int}{vs:List V},Z3 xs=some ns->Reps K G xs vs->vs=ns.map V.int
 | [],ns,vs,h,r=>by
  cases h;exact(show vs=[]from r)
 |.int i::xs,ns,vs,h,r=>by
  obtain⟨is,h1,h⟩:=zU (show(Z3 xs).bind _=_ from h);cases h;obtain⟨v,r',rfl,hv,hr⟩:=r;cases(show v=.int i from hv);rw[Fu h1 hr];rfl
 |.zE::_,_,_,h,_=>by cases h
 |.bl _::_,_,_,h,_=>by cases h
 |.str _::_,_,_,h,_=>by cases h
 |.tup _::_,_,_,h,_=>by cases h
 |.lst _::_,_,_,h,_=>by cases h
 |.dic _ _::_,_,_,h,_=>by cases h
 |.exc _::_,_,_,h,_=>by cases h
 |.obj _ _ _::_,_,_,h,_=>by cases h
theorem Ft:∀ns:List Int,Z3 (ns.map D.int)=some ns
 | []=>rfl
 |n::ns=>by
  show(Z3 (ns.map D.int)).bind _=_;rw[Ft ns];rfl
def O7:D->D->Option D
 |.lst xs,z=>(Z3 xs).bind λns=>some (if ns=[]then z else .int (maxI ns))
 |_,_=>none
theorem iD{X:Cx}{a e:Expr}{fa fe:FE}{p kp pos:Pos}(hcalm:X.calm=true)(hg:Gl X "max")(hm:X.mg "max" = none)(ha:SE X a fa)(hd:SE X e fe)(hs:xX a=true:=by rfl):SE X (.Call (.Name "max" p) [a] [⟨some "default",e,kp⟩] pos) (e2 O7 fa fe):=by
 obtain⟨ta,pa,ka⟩:=ha.h;obtain⟨td,pd,kd⟩:=hd.h;refine⟨⟨_,bX hcalm hg hm pa pd (tP hs),λ{G0 H0 G H τ σ d Q} E hf q=>?_⟩⟩;obtain⟨x,hx,hf⟩:=zU hf;obtain⟨z,hz,hf⟩:=zU hf;refine ka E hx λv G1 H1 x1 r1=>?_
 refine kd (E.go x1) hz λu G2 H2 x2 r2=>?_
 cases x with
 |lst xs=>
  obtain⟨ns,hn,hf⟩:=zU hf;cases hf;obtain⟨l,vs,rfl,sq,rs,_⟩:=r1;have e:=Fu hn rs;subst e;refine⟨l,ns,rfl,wM (x1.gh.trans x2.h) sq,?_⟩;by_cases c:ns=[]
  ·rw[zP c];rw[zP c]at q;exact q u G2 H2 (x1.trans x2) r2
  ·rw[zS c];rw[zS c]at q;exact q _ G2 H2 (x1.trans x2) rfl
 |_=>cases hf
def O6:List D->Option D
 | [.dic ks _]=>some (.int ks.length)
 |_=>none
theorem Na{X:Cx}:wS X (.builtin "len") (λxs H Q=>∃a kvs,xs=[V.ref a]/\Rd H a (.dK kvs)/\Q (.int kvs.length) H):=by
 intro z6 s σ H xs us Q I r h;obtain⟨a,kvs,rfl,ha,q⟩:=h;obtain⟨u,rfl,ru⟩:=vY r;cases ru;exact P1 I ha λt s' I'=>⟨.int kvs.length,H,I',⟨t,rfl⟩,q⟩
theorem aN{K:W.Frag}:kR K (λxs H Q=>∃a kvs,xs=[V.ref a]/\Rd H a (.dK kvs)/\Q (.int kvs.length) H) O6:=λG H ds vs d Q s r hf q=>by
 match ds,hf with
 | [.dic ks xs],hf=>
  cases hf;obtain⟨v,r',rfl,hv,hr⟩:=r;cases(show r'=[]from hr);obtain⟨a,vs,rfl,sq,hl,rs,_⟩:=hv;refine⟨a,_,rfl,sq,?_⟩;rw[tQ,<-hl,tS];exact q _ _ _ (zZ.refl s) rfl
def Iy(k v:FE):FE:=λσ=>(k σ).bind λx=>(v σ).bind λy=>(qe x).bind λk=>some (.dic [k] [y])
theorem iL{X:Cx}{k v:Expr}{fk fv:FE}{pos:Pos}(hk:SE X k fk)(hv:SE X v fv):SF X (.Dict [some k] [v] pos) (Iy fk fv):=by
 obtain⟨tk,pk,kk⟩:=hk.h;obtain⟨tv,pv,kv⟩:=hv.h;refine⟨⟨_,bS (cS pk pv cT) rfl rfl (by simp) (by show 1<=15; decide),λ{G0 H0 G H τ σ d Q} E hf q=>?_⟩⟩;obtain⟨x,hx,hf⟩:=zU hf;obtain⟨y,hy,hf⟩:=zU hf;obtain⟨kd,hkd,hf⟩:=zU hf;cases hf;intro p hp;have x0:=zZ.uZ (o:=.dK []) E.ext.gh hp;have E1:=E.go x0;refine kk E1 hx λu G1 H1 x1 r1=>?_
 refine kv (E1.go x1) hy λz G2 H2 x2 r2=>?_
 have hp2:H2 p=some (.dK []):=x2.h _ _ (x1.h _ _ yT);refine⟨hp2,[(kd,z)],?_,(by show 1<=15; decide),?_⟩
 ·rw[Z4 hkd r1];rfl
 ·have g2:G2 p=none:=by
   cases c:G2 p with
   |none=>rfl
   |some o=>
    rcases(x1.trans x2).new p (by rw[c]; exact λz=>nomatch z)with w|w
    ·exact absurd (E.ext.gh.free hp) w
    ·rw[yT]at w;cases w
  have x3:=x1.trans x2;refine q p G2 (zb H2 p (.dK [(kd,z)])) ⟨x3.g,λb w hb=>?_,λb w hb=>?_,λb hb=>?_⟩ hp g2 ⟨[z],yT,rfl,⟨z,[],rfl,r2,rfl⟩,L2.small (n:=1) (by decide)⟩
  ·have ne:b≠p:=λc=>by subst c; rw[hp]at hb; cases hb
   rw[zx ne];exact x3.h _ _ (x0.h _ _ hb)
  ·have ne:b≠p:=λc=>by subst c; rw[g2]at hb; cases hb
   rw[zx ne];exact x3.gh _ _ hb
  ·rcases x3.new b hb with w|w
   ·exact .inl w
   ·refine .inr ?_;by_cases c:b=p
    ·subst c; exact hp
    ·rw[zx c]at w; exact w
section
variable{X:Cx}{j k kk i:Nat}{f x n z g:Str}{C D':Addr}{ps:List Str}{F:FX}{FF:List D->Option (Bool×D)}{fa:FA}{fc:FE}{fx:FEX}{gs:FS}{c e b:Expr}{es:List Expr}{b₀:Stmt}{suite sts:List Stmt}{fp cp np p p1 pos rp hpos tpos:Pos}
end
section
variable{P:Program}{w:World}{K:W.Frag}{mg:Str->Option Value}{base:Heap}
end
end L3
namespace L2
open PySem PySem.Spec PyProof PyProof.Rows
section
variable{X:Cx}
end
end L2
namespace L3
open PySem PySem.Spec PyProof PyProof.Rows L2
end L3
local macro_rules
 | `(tactic| simp![$ls,*])=>`(tactic| simp only[L3.shx,Nat.reduceAdd,Nat.reduceSub,Int.reduceLT,Int.reduceLE,Int.reducePow,Int.reduceToNat,Int.reduceAdd,Int.reduceSub,Int.reduceMul,Int.reduceNeg,$ls,*])
namespace L3
open PySem
def Xn:List D:=[(.str "carry"),(.str "nought"),(.str "sign")]
def gB:D:=.tup Xn
def Pm:List D:=[(.str "jump"),(.str "when"),(.str "unless")]
def T_:D:=.tup Pm
def OJ:List (Sum Int Str):=List.map .inr ["label", "set", "high", "copy", "add", "addc", "sub", "subc", "and", "or", "xor", "test", "left", "right", "load", "store", "loadw", "storew", "jump", "when", "unless", "stop"]
def OM:List D:=[(.tup [(.str "name")]),(.tup [(.str "d"),(.str "n")]),(.tup [(.str "d"),(.str "n")]),(.tup [(.str "d"),(.str "s")]),(.tup [(.str "d"),(.str "s")]),(.tup [(.str "d"),(.str "s")]),(.tup [(.str "d"),(.str "s")]),(.tup [(.str "d"),(.str "s")]),(.tup [(.str "d"),(.str "s")]),(.tup [(.str "d"),(.str "s")]),(.tup [(.str "d"),(.str "s")]),(.tup [(.str "d"),(.str "s")]),(.tup [(.str "d"),(.str "n")]),(.tup [(.str "d"),(.str "n")]),(.tup [(.str "d"),(.str "s"),(.str "n")]),(.tup [(.str "d"),(.str "s"),(.str "n")]),(.tup [(.str "d"),(.str "s"),(.str "n")]),(.tup [(.str "d"),(.str "s"),(.str "n")]),(.tup [(.str "name")]),(.tup [(.str "mark"),(.str "name")]),(.tup [(.str "mark"),(.str "name")]),(.tup [])]
def OK:List (Sum Int Str):=List.map .inr ["set", "high", "left", "right", "load", "store", "loadw", "storew"]
def ON:List D:=[(.int 16),(.int 16),(.int 5),(.int 5),(.int 8),(.int 8),(.int 8),(.int 8)]
def wV:List (Sum Int Str):=List.map .inr ["kind", "d", "s", "mark", "distance"]
def wW:List D:=[(.tup [(.int 27),(.int 5)]),(.tup [(.int 24),(.int 3)]),(.tup [(.int 21),(.int 3)]),(.tup [(.int 24),(.int 2)]),(.tup [(.int 0),(.int 5)])]
def qE:List (Sum Int Str):=List.map .inr ["stop", "set", "high", "copy", "add", "addc", "sub", "subc", "and", "or", "xor", "test", "left", "right", "load", "store", "loadw", "storew"]
def qd:List D:=[(.int 0),(.int 1),(.int 2),(.int 3),(.int 4),(.int 5),(.int 6),(.int 7),(.int 8),(.int 9),(.int 10),(.int 11),(.int 12),(.int 13),(.int 14),(.int 15),(.int 16),(.int 17)]
def Xp:List L2.V:=[.int 0,.int 1,.int 2,.int 3,.int 4,.int 5,.int 6,.int 7,.int 8,.int 9,.int 10,.int 11,.int 12,.int 13,.int 14,.int 15,.int 16,.int 17]
def qG:List (Sum Int Str):=List.map .inr ["jump", "when", "unless"]
def qI:List D:=[(.int 18),(.int 19),(.int 20)]
def k_:List L2.V:=[.int 18,.int 19,.int 20]
def qF:List (Sum Int Str):=List.map .inr ["jump", "when", "unless"]
def qH:List D:=[(.int 21),(.int 22),(.int 23)]
def kz:List L2.V:=[.int 21,.int 22,.int 23]
def DR:FS:=
 (zO (yR (tE (e2 (xV λi j=>decide (i<j)) (z7 1) (eL xg (zB (z7 0) zG))))
   (yA (e2 zL (z7 0) (z7 1)))
   ym)
  (yA (eC (.int 0))))
theorem Ro(ns:List Int)(k:Nat):(ns.map D.int)[k]?=(ns[k]?).map D.int:=xH
def t6(ns:List Int)(k:Int):Int:=ns.getD k.toNat 0
def ux:List D->Option (Bool×D)
 | [.lst xs,.int k]=>if 0<=k then((xs[k.toNat]?).getD (.int 0) |> λd=>some (false,d))else none
 |_=>none
theorem Xf(ns:List Int){k:Int}(h:0<=k):ux [.lst (ns.map D.int),.int k]=some (false,.int (t6 ns k)):=by
 show(if 0<=k then _ else _)=_;rw[zP h,Ro];unfold t6;rw[wP];cases ns[k.toNat]?<;>rfl
theorem eD:∀ds r,ux ds=some r->ds.length=2/\zd 2 DR ds=some r:=λds r h=>by
 unfold ux at h
 split at h
 ·rename_i xs k;refine⟨rfl,?_⟩;by_cases h0:0<=k
  ·rw[zP h0]at h;cases h;unfold DR;by_cases c:k<(xs.length:Int)
   ·have e:zL (.lst xs) (.int k)=some ((xs[k.toNat]?).getD (.int 0)):=by
     show vF xs k=_;unfold vF;rw[zP h0,yF (by omega)];rfl
    simp![ye c,e]
   ·have e:xs[k.toNat]?=none:=uT (by omega);simp![yh c,e,Option.getD]
  ·rw[zS h0]at h;cases h
 ·cases h
def lt(k:Int):Str:=⟨#[97+k.toNat]⟩
theorem N1{k:Int}(h0:0<=k)(h1:k<26):vF ("abcdefghijklmnopqrstuvwxyz" : Str).cps.toList k=some (97+k.toNat):=by
 have h:∀j:Fin 26,vF ("abcdefghijklmnopqrstuvwxyz" : Str).cps.toList (j.val:Int)=some (97+j.val):=by decide +kernel
 have:=h ⟨k.toNat,by omega⟩;rw[show((⟨k.toNat,by omega⟩:Fin 26).val:Int)=k by show(k.toNat:Int)=k; omega]at this;exact this
theorem Uh{k:Int}(h0:0<=k)(h1:k<26):zL (.str "abcdefghijklmnopqrstuvwxyz") (.int k)=some (.str (lt k)):=by
 show(vF _ k).bind _=_;rw[N1 h0 h1];rfl
theorem add_str{a b:Str}(h:a.length+b.length<=100000):yS (.str a) (.str b)=some (.str (a++b)):=by
 show(if a.length+b.length<=yb then _ else _)=_;rw[zP (by show _<=16777216; omega)]
theorem LW(a b:Str):(a++b).length=a.length+b.length:=Array.size_append
theorem Yl(k:Int):(lt k).length=1:=rfl
theorem N2:((("abcdefghijklmnopqrstuvwxyz" : Str).length:Nat):Int)=26:=by decide +kernel
theorem gD{g:FG}{c:FT}{e:FE}{σ:y4}(p:D->Bool)(v:D->D):∀{ds:List D},(∀d∈ds,∃σ1,g d σ=some σ1/\c σ1=some (p d)/\(p d=true->e σ1=some (v d)))->xK g c e σ ds=some ((ds.filter p).map v)
 | [],_=>rfl
 |d::ds,h=>by
  obtain⟨σ1,e1,e2,e3⟩:=h d (xP ..);have ih:=gD p v (ds:=ds) λx hx=>h x (wZ _ hx)
  show(g d σ).bind _=_;rw[e1];show(c σ1).bind _=_;rw[e2];cases hp:p d with
  |false=>
   rw[jW (by rw[hp]; decide)];exact ih
  |true=>
   rw[qm hp];show(e σ1).bind _=_;rw[e3 hp];show(xK g c e σ ds).bind _=_;rw[ih];rfl
theorem Z6{g:FG}{e:FE}{σ:y4}(v:D->D){ds:List D}(h:∀d∈ds,∃σ1,g d σ=some σ1/\e σ1=some (v d)):xK g xA e σ ds=some (ds.map v):=by
 have:=gD (g:=g) (c:=xA) (e:=e) (σ:=σ) (λ_=>true) v (ds:=ds) λd hd=>by
  obtain⟨σ1,a,b⟩:=h d hd;exact⟨σ1,a,rfl,λ_=>b⟩
 rw[this,BK.mpr (λ_ _=>rfl)]
inductive wF(R:D->D->Prop):List D->List D->Prop
 |nil:wF R [] []
 |cons {x y:D} {xs ys:List D}:R x y->wF R xs ys->wF R (x::xs) (y::ys)
theorem CC{g:FG}{e:FE}{σ:y4}(R:D->D->Prop):∀{ds:List D},(∀d∈ds,∃σ1 x,g d σ=some σ1/\e σ1=some x/\R d x)->∃xs,xK g xA e σ ds=some xs/\wF R ds xs
 | [],_=>⟨[],rfl,.nil⟩
 |d::ds,h=>by
  obtain⟨σ1,x,e1,e2,r⟩:=h d (xP ..);obtain⟨xs,ih,rs⟩:=CC R (ds:=ds) λx hx=>h x (wZ _ hx)
  refine⟨x::xs,?_,.cons r rs⟩;show(g d σ).bind _=_;rw[e1];show(e σ1).bind _=_;rw[e2];show(xK g xA e σ ds).bind _=_;rw[ih];rfl
theorem ZX{n i:Nat}{d:D}(h:(wN n)[i]?=some d):i<n/\d=.int (i:Int):=by
 have hi:i<n:=by
  have:=(yx.mp h).1;simpa using this
 refine⟨hi,?_⟩;simp[hi]at h;exact h.symm
theorem Mn{n:Nat}{d:D}(h:d∈wN n):∃i:Nat,i<n/\d=.int (i:Int):=by
 obtain⟨i,hi,e⟩:=X9 h;exact⟨i,(ZX (yx.mpr ⟨hi,e⟩))⟩
theorem X1(n:Nat):(wN n).length=n:=by simp
theorem DK{α:Type}(xs:List α)(a:α):vF (xs++[a]) (-1)=some a:=by
 unfold vF;rw[zS (by decide),zP (by rw[ya,Vl]; omega)];rw[show((-1:Int)+((xs++[a]).length:Nat)).toNat=xs.length by rw[ya,Vl]; omega];simp
theorem qY{α:Type}{xs:List α}{i:Int}{a:α}(h0:0<=i)(h:xs[i.toNat]?=some a):vF xs i=some a:=by
 unfold vF;rw[zP h0,h]
def tH:Nat->D->Bool
 |0,_=>false
 |n+1,.tup xs=>xs.all (tH n)
 |n+1,.lst xs=>xs.all (tH n)
 |_+1,d=>yY d
theorem Ik{f:D->D->Bool}:∀{xs:List D},(∀x∈xs,f x x=true)->t7 f xs xs=true
 | [],_=>rfl
 |x::xs,h=>by
  show(f x x&&t7 f xs xs)=true;rw[h x (xP ..),Ik λy hy=>h y (wZ _ hy)];rfl
theorem Io:∀{xs:List D},(∀x∈xs,yW x x=true)->dEqs xs xs=true
 | [],_=>by unfold dEqs; rfl
 |x::xs,h=>by
  unfold dEqs;rw[h x (xP ..),Io λy hy=>h y (wZ _ hy)];rfl
theorem X_:∀(n:Nat)(d:D),tH n d=true->vG n d d=true/\yW d d=true
 |0,_,h=>by cases h
 |n+1,d,h=>by
  cases d with
  |tup xs=>
   have h':∀x∈xs,tH n x=true:=vB.mp h;exact⟨Ik λx hx=>(X_ n x (h' x hx)).1,by unfold yW; exact Io λx hx=>(X_ n x (h' x hx)).2⟩
  |lst xs=>
   have h':∀x∈xs,tH n x=true:=vB.mp h;exact⟨Ik λx hx=>(X_ n x (h' x hx)).1,by unfold yW; exact Io λx hx=>(X_ n x (h' x hx)).2⟩
  |dic ks vs=>cases h
  |exc _=>cases h
  |obj _ _ _=>cases h
  |zE=>exact⟨rfl,by unfold yW; rfl⟩
  |bl b=>exact⟨rfl,by unfold yW; exact ja b⟩
  |int i=>exact⟨rfl,by unfold yW; exact ja i⟩
  |str z=>exact⟨rfl,by unfold yW; exact ja z⟩
theorem FK{d:D}(h:tH 6 d=true):j3 d d=some true:=by
 obtain⟨h1,h2⟩:=X_ 6 d h
 have e:j3 d d=match vG 6 d d with
  |true=>some (yW d d)
  |false=>none:=by cases d<;>rfl
 rw[e,h1,h2]
theorem PN{d:D}(h:tH 6 d=true):yE d d=some (.bl true):=by
 unfold yE;rw[FK h];rfl
theorem CM{d:D}(h:tH 6 d=true):wu d d=some (.bl false):=by
 unfold wu;rw[FK h];rfl
theorem Yh{i j:Int}(h:i=j):yE (.int i) (.int j)=some (.bl true):=by
 subst h;show some (D.bl (i==i))=_;rw[ja]
theorem Yi{i j:Int}(h:i≠j):yE (.int i) (.int j)=some (.bl false):=by
 show some (D.bl (i==j))=_;rw[XB.mpr h]
theorem add_int{i j:Int}:yS (.int i) (.int j)=some (.int (i+j)):=rfl
theorem HU:∀ts:List Str,ZT (ts.map D.str)=some ts
 | []=>rfl
 |t::ts=>by
  show(ZT (ts.map D.str)).bind _=_;rw[HU ts];rfl
theorem S9{sep:Str}{ts:List Str}(h:(ts.map (·.length)).sum+ts.length*sep.length<=1000000):To (.str sep) (.lst (ts.map D.str))=some (.str (Builtin.Str.glued sep ts)):=by
 show(ZT (ts.map D.str)).bind _=_;rw[HU];show(if _<=yb then _ else _)=_;rw[zP (by show _<=16777216; omega)]
theorem cut_len(z:Str)(lo hi:Option Int):(L2.cutS z lo hi).length<=z.length:=by
 show((z.cps.toList.drop _).take _).toArray.size<=z.cps.size;simp only[yg,jY,Zd,wp];omega
theorem OI{α:Type}{k:Sum Int Str}{v:α}:∀{ks:List (Sum Int Str)} {vs:List α},ks.length=vs.length->∀k',getK (xt ks k) (w6 ks vs k v) k'=if k=k' then some v else getK ks vs k':=by
 have one:∀{ks:List (Sum Int Str)} {vs:List α},ks.length=vs.length->∀k',yc ks k=true->getK ks (List.zipWith (λk' x=>if k'=k then v else x) ks vs) k'=if k=k' then some v else getK ks vs k':=by
  intro ks
  induction ks with
  |nil=>intro vs _ k' h; cases h
  |cons a ks ih=>
   intro vs hl k' h;cases vs with
   |nil=>cases hl
   |cons b vs=>
    rw[gz];unfold getK;by_cases e1:a=k
    ·subst e1;by_cases e2:a=k'
     ·rw[zP e2,zP e2,zP rfl]
     ·rw[zS e2,zS e2,zS e2];by_cases e3:yc ks a=true
      ·have:=ih (vs:=vs) (by simpa using hl) k' e3;rw[this,zS e2]
      ·have:∀{ks:List (Sum Int Str)} {vs:List α},ks.length=vs.length->yc ks a=false->getK ks (List.zipWith (λk' x=>if k'=a then v else x) ks vs) k'=getK ks vs k':=by
        intro ks
        induction ks with
        |nil=>intro vs _ _; rfl
        |cons a' ks ih'=>
         intro vs hl h;cases vs with
         |nil=>cases hl
         |cons b vs=>
          have h2:decide (a'=a)=false/\yc ks a=false:=by
           have:(decide (a'=a)||yc ks a)=false:=h;exact Bool.or_eq_false_iff.mp this
          rw[gz];unfold getK;rw[zS (Km h2.1),ih' (by simpa using hl) h2.2]
       exact this (by simpa using hl) (by simpa using e3)
    ·have h2:yc ks k=true:=by
      have:(decide (a=k)||yc ks k)=true:=h;rw[yh e1]at this;exact this
     have:=ih (vs:=vs) (by simpa using hl) k' h2;rw[this,zS e1];by_cases e2:a=k'
     ·rw[zP e2];rw[zS (λe=>e1 (e2.trans e.symm)),zP e2]
     ·rw[zS e2];by_cases e3:k=k'
      ·rw[zP e3,zP e3]
      ·rw[zS e3,zS e3,zS e2]
 intro ks vs hl k';unfold xt w6;by_cases h:yc ks k=true
 ·rw[zP h,zP h];exact one hl k' h
 ·rw[zS h,zS h];clear one
  induction ks generalizing vs with
  |nil=>
   cases vs with
   |nil=>rfl
   |cons _ _=>cases hl
  |cons a ks ih=>
   cases vs with
   |nil=>cases hl
   |cons b vs=>
    have h2:¬ a=k/\¬ yc ks k=true:=by
     have:¬ (decide (a=k)||yc ks k)=true:=h
     constructor
     ·intro e; exact this (by rw[ye e]; rfl)
     ·intro e; exact this (by rw[e,Bool.or_true])
    rw[jV,jV];show(if a=k' then some b else getK (ks++[k]) (vs++[v]) k')=if k=k' then some v else if a=k' then some b else getK ks vs k'
    rw[ih (by simpa using hl) h2.2];by_cases e:a=k'
    ·rw[zP e,zP e];rw[zS (λe'=>h2.1 (e.trans e'.symm))]
    ·rw[zS e,zS e]
theorem RW{k:Sum Int Str}{ks:List (Sum Int Str)}(k':Sum Int Str):yc (xt ks k) k'=(yc ks k'||decide (k=k')):=by
 unfold xt;by_cases h:yc ks k=true
 ·rw[zP h];by_cases e:k=k'
  ·subst e; rw[h]; rfl
  ·rw[yh e,JX]
 ·rw[zS h];unfold yc;rw[List.any_append];simp
theorem Q8{α:Type}:∀{ks:List (Sum Int Str)} {us:List α} {as:List (Sum Int Str)} {vs:List α},ks.length=us.length->∀k,yc (y_ as vs ks us).1 k=(yc as k||yc ks k)
 | [],us,as,vs,_,k=>by
  show yc as k=(yc as k||false);rw[JX]
 |a::ks,[],_,_,h,_=>by cases h
 |a::ks,u::us,as,vs,h,k=>by
  show yc (y_ (xt as a) (w6 as vs a u) ks us).1 k=_;rw[Q8 (by simpa using h),RW];show _=(yc as k||(decide (a=k)||yc ks k));rw[Bool.or_assoc]
theorem N7{L M:List D}(h:L.length+M.length<=1000):yS (.lst L) (.lst M)=some (.lst (L++M)):=by
 show(if L.length+M.length<=yb then _ else _)=_;rw[zP (by show _<=16777216; omega)]
theorem QX(xs:List D):wu (.lst xs) (.lst [])=some (.bl (!xs.isEmpty)):=by
 cases xs with
 |nil=>exact CM (d:=.lst []) rfl
 |cons x r=>
  have e:yW (.lst (x::r)) (.lst [])=false:=by unfold yW; unfold dEqs; rfl
  show(some (yW (.lst (x::r)) (.lst []))).bind _=_;rw[e];rfl
theorem Ig:∀(n:Nat){l:List Nat},l.Nodup->(∀x∈l,x<n)->l.length<=n
 |0,l,_,h=>by
  cases l with
  |nil=>exact zt _
  |cons x r=>exact absurd (h x (xP ..)) (Nat.not_lt_zero _)
 |n+1,l,hd,h=>by
  by_cases hm:n∈l
  ·have h1:=Ig n (hd.erase n) λx hx=>by
    have:=(hd.mem_erase_iff).mp hx;have:=h x this.2;omega
   rw[List.length_erase_of_mem hm]at h1;omega
  ·have h1:=Ig n hd λx hx=>by
    have h2:=h x hx;have h3:x≠n:=λe=>hm (e▸hx)
    omega
   omega
theorem Ld{x y:D}{b:Bool}(h:yE x y=some (.bl b)):wu x y=some (.bl (!b)):=by
 unfold yE at h;unfold wu;cases e:j3 x y with
 |none=>rw[e]at h; cases h
 |some k=>
  rw[e]at h;cases h;rfl
theorem ND{n y l w:Nat}(hn:n<2 ^ w)(hy:y/2 ^ l%2 ^ w=0):(y &&& (n*2 ^ l))=0:=by
 apply Ke;intro i;rw[Nat.testBit_and,Nat.zero_testBit];rw[Bb];by_cases hl:l<=i
 ·by_cases hi:i-l<w
  ·have e:y.testBit i=(y/2 ^ l%2 ^ w).testBit (i-l):=by
    rw[Kh,Kg,ye hi,pS,Ba hl]
   rw[e,hy,Nat.zero_testBit,pR]
  ·have:n.testBit (i-l)=false:=Nat.testBit_lt_two_pow (wE hn (Nat.pow_le_pow_right (by decide) (by omega)));rw[this]; simp
 ·simp[hl]
theorem NC(x l w:Nat):(x &&& ((2 ^ w-1)*2 ^ l))=x/2 ^ l%2 ^ w*2 ^ l:=by
 apply Ke;intro i;rw[Nat.testBit_and,Bb,Bb,Nat.testBit_two_pow_sub_one,Kh,Kg];by_cases hl:l<=i
 ·simp[hl,Ba hl];rw[Bool.and_comm]
 ·simp[hl]
theorem No(l w:Nat):(((1:Int)*2 ^ w-1)*2 ^ l)=(((2 ^ w-1)*2 ^ l:Nat):Int):=by
 have h:1<=2 ^ w:=Nat.one_le_two_pow;rw[Int.natCast_mul,Int.natCast_sub h];simp
theorem NM{x:Int}(hx:0<=x)(l w:Nat):Builtin.bitAnd x (((1:Int)*2 ^ w-1)*2 ^ l)=x/2^l%2^w*2^l:=by
 obtain⟨n,rfl⟩:=BA hx;rw[No,Kk (Vk _) (Vk _),xB,xB,NC];simp
theorem NL{y n:Int}{l w:Nat}(hy:0<=y)(hn:0<=n)(hn2:n<2 ^ w)(hz:y/2 ^ l%2 ^ w=0):Builtin.bitAnd y (n*2 ^ l)=0:=by
 obtain⟨a,rfl⟩:=BA hy;obtain⟨b,rfl⟩:=BA hn;have e:(b:Int)*2 ^ l=((b*2 ^ l:Nat):Int):=by simp
 have h1:b<2 ^ w:=by
  have:((2 ^ w:Nat):Int)=(2:Int) ^ w:=by simp
  omega
 have h2:a/2 ^ l%2 ^ w=0:=by
  have:((a/2 ^ l%2 ^ w:Nat):Int)=(a:Int)/2 ^ l%2 ^ w:=by simp
  omega
 rw[e,Kk (Vk _) (Vk _),xB,xB,ND h1 h2];rfl
theorem Nz{x p r:Int}(hx:0<=x)(hp:0<p)(hr:0<r):0<=x-x/p%r*p/\(x-x/p%r*p)/p%r=0/\(x-x/p%r*p)/p/r=x/p/r/\(x-x/p%r*p)%p=x%p:=by
 have h0:0<=x/p:=Int.ediv_nonneg hx (Vj hp);have e1:x-x/p%r*p=x+p*(-(x/p%r)):=by rw[Int.mul_neg,Int.mul_comm p]; omega
 have e2:(x-x/p%r*p)/p=x/p-x/p%r:=by rw[e1,Int.add_mul_ediv_left _ _ (BC hp)]; omega
 have e3:x/p-x/p%r=r*(x/p/r):=by have:=KG (x/p) r; omega
 refine⟨?_,?_,?_,?_⟩
 ·have h1:x/p%r<=x/p:=by
   have:=KG (x/p) r;have h2:0<=x/p/r:=Int.ediv_nonneg h0 (Vj hr);have h3:0<=r*(x/p/r):=Int.mul_nonneg (Vj hr) h2;omega
  have h4:x/p%r*p<=x/p*p:=Int.mul_le_mul_of_nonneg_right h1 (Vj hp);have h5:=Int.ediv_mul_le x (BC hp);omega
 ·rw[e2,e3]; exact KH _ _
 ·rw[e2,e3]; exact Int.mul_ediv_cancel_left _ (BC hr)
 ·rw[e1]; exact Int.add_mul_emod_self_left ..
theorem bJ(x:Int)(w:Nat):Builtin.bitAnd x ((1:Int)*2 ^ w-1)=x%2 ^ w:=by
 rw[BE,W.kbt_mask]
theorem z01{x n:Int}{l w:Nat}(hx:0<=x)(hn:0<=n)(hn2:n<2 ^ w):Builtin.bitOr (Builtin.bitAnd x (Builtin.bitNot (((1:Int)*2 ^ w-1)*2 ^ l))) (n*2 ^ l)=x+(n-x/2 ^ l%2 ^ w)*2 ^ l:=by
 have hp:(0:Int)<2 ^ l:=Int.pow_pos (by decide);have hr:(0:Int)<2 ^ w:=Int.pow_pos (by decide);obtain⟨c0,c1,_,_⟩:=Nz hx hp hr;rw[PyProof.Rows.bitAnd_not,NM hx,PyProof.Rows.bitOr_and,NL c0 hn hn2 c1,Int.sub_mul];omega
theorem Lx{a b c d i:Int}(h0:0<=i)(h1:i<4):∃n,(n=a\/n=b\/n=c\/n=d)/\zL (.lst [.int a,.int b,.int c,.int d]) (.int i)=some (.int n):=by
 rcases(show i=0\/i=1\/i=2\/i=3 by omega)with rfl|rfl|rfl|rfl
 ·exact⟨a,by simp,rfl⟩
 ·exact⟨b,by simp,rfl⟩
 ·exact⟨c,by simp,rfl⟩
 ·exact⟨d,by simp,rfl⟩
theorem cD{a b c i:Int}(h0:0<=i)(h1:i<3):∃n,(n=a\/n=b\/n=c)/\zL (.lst [.int a,.int b,.int c]) (.int i)=some (.int n):=by
 rcases(show i=0\/i=1\/i=2 by omega)with rfl|rfl|rfl
 ·exact⟨a,by simp,rfl⟩
 ·exact⟨b,by simp,rfl⟩
 ·exact⟨c,by simp,rfl⟩
inductive vy:D->Prop
 |stop:vy (.tup [.str "stop"])
 |Zp {w:Str} {d n:Int} (hw:w = "set" \/ w = "high") (d0:0<=d) (d1:d<8) (n0:0<=n) (n1:n<65536):vy (.tup [.str w,.int d,.int n])
 |two {w:Str} {d s:Int} (hw:w = "copy" \/ w = "add" \/ w = "addc" \/ w = "sub" \/ w = "subc" \/ w = "and" \/ w = "or" \/ w = "xor" \/ w = "test") (d0:0<=d) (d1:d<8) (s0:0<=s) (s1:s<8):vy (.tup [.str w,.int d,.int s])
 |Zq {w:Str} {d n:Int} (hw:w = "left" \/ w = "right") (d0:0<=d) (d1:d<8) (n0:0<=n) (n1:n<32):vy (.tup [.str w,.int d,.int n])
 |mem {w:Str} {d s n:Int} (hw:w = "load" \/ w = "store" \/ w = "loadw" \/ w = "storew") (d0:0<=d) (d1:d<8) (s0:0<=s) (s1:s<8) (n0:0<=n) (n1:n<256):vy (.tup [.str w,.int d,.int s,.int n])
inductive qW(m:Int):D->Prop
 |uY {p:Int} (p0:0<=p) (p1:p<=m):qW m (.tup [.str "jump",.int p])
 |cond {w k:Str} {p:Int} (hw:w = "when" \/ w = "unless") (hk:k = "carry" \/ k = "nought" \/ k = "sign") (p0:0<=p) (p1:p<=m):qW m (.tup [.str w,.str k,.int p])
def xr(m:Int)(d:D):Prop:=vy d\/qW m d
theorem vV{a:D}{r:List D}:zL (.tup (a::r)) (.int 0)=some a:=rfl
def yj:D->Bool
 |.tup (.str w::_)=>w == "jump" || w == "when" || w == "unless"
 |_=>false
def pH:D->D
 |.tup xs=>(vF xs (-1)).getD .zE
 |_=>.zE
def QJ:D:=.tup [.str "jump",.str "when",.str "unless"]
theorem pJ{d:D}(h:vy d):∃w,zL d (.int 0)=some (.str w)/\xD (.str w) QJ=some (.bl false)/\yE (.str w) (.str "label")=some (.bl false)/\yj d=false/\tH 5 d=true:=by
 cases h with
 |stop=>exact⟨_,rfl,rfl,rfl,rfl,rfl⟩
 |Zp hw=>rcases hw with rfl|rfl<;>exact⟨_,rfl,rfl,rfl,rfl,rfl⟩
 |two hw=>rcases hw with rfl|rfl|rfl|rfl|rfl|rfl|rfl|rfl|rfl<;>exact⟨_,rfl,rfl,rfl,rfl,rfl⟩
 |Zq hw=>rcases hw with rfl|rfl<;>exact⟨_,rfl,rfl,rfl,rfl,rfl⟩
 |mem hw=>rcases hw with rfl|rfl|rfl|rfl<;>exact⟨_,rfl,rfl,rfl,rfl,rfl⟩
theorem uh{m:Int}{d:D}(h:qW m d):∃(w:Str) (p:Int),zL d (.int 0)=some (.str w)/\xD (.str w) QJ=some (.bl true)/\yE (.str w) (.str "label")=some (.bl false)/\yj d=true/\tH 5 d=true/\zL d (.int (-1))=some (.int p)/\pH d=.int p/\0<=p/\p<=m:=by
 cases h with
 |uY p0 p1=>exact⟨_,_,rfl,rfl,rfl,rfl,rfl,rfl,rfl,p0,p1⟩
 |cond hw hk p0 p1=>rcases hw with rfl|rfl<;>rcases hk with rfl|rfl|rfl<;>exact⟨_,_,rfl,rfl,rfl,rfl,rfl,rfl,rfl,p0,p1⟩
def wX(rows:List D):List Nat:=(List.range rows.length).filter λi=>yj (rows.getD i .zE)
theorem Xs{rows:List D}{i:Nat}(h:i∈wX rows):i<rows.length/\yj (rows.getD i .zE)=true:=by
 obtain⟨a,b⟩:=vL.mp h;exact⟨vd.mp a,b⟩
def yD:D->Bool
 |.tup (.str w::_)=>w == "label"
 |_=>false
def wo(t:Str):D:=.tup [.str "label",.str t]
theorem WG{m:Int}{d:D}(h:xr m d):∃w,zL d (.int 0)=some (.str w)/\yE (.str w) (.str "label")=some (.bl false)/\yD d=false/\tH 5 d=true:=by
 rcases h with h|h
 ·cases h with
  |stop=>exact⟨_,rfl,rfl,rfl,rfl⟩
  |Zp hw=>rcases hw with rfl|rfl<;>exact⟨_,rfl,rfl,rfl,rfl⟩
  |two hw=>rcases hw with rfl|rfl|rfl|rfl|rfl|rfl|rfl|rfl|rfl<;>exact⟨_,rfl,rfl,rfl,rfl⟩
  |Zq hw=>rcases hw with rfl|rfl<;>exact⟨_,rfl,rfl,rfl,rfl⟩
  |mem hw=>rcases hw with rfl|rfl|rfl|rfl<;>exact⟨_,rfl,rfl,rfl,rfl⟩
 ·cases h with
  |uY=>exact⟨_,rfl,rfl,rfl,rfl⟩
  |cond hw hk=>rcases hw with rfl|rfl<;>rcases hk with rfl|rfl|rfl<;>exact⟨_,rfl,rfl,rfl,rfl⟩
def A8(t:Str):D->Bool
 |.tup [_,.str u]=>u==t
 |_=>false
def gJ(t:Str)(s:Nat×Option Nat)(d:D):Nat×Option Nat:=match yD d with
 |true=>(s.1,match A8 t d with
  |true=>some s.1
  |false=>s.2)
 |false=>(s.1+1,s.2)
def xi(t:Str)(L:List D):Nat×Option Nat:=L.foldl (gJ t) (0,none)
theorem Eu(t:Str)(L:List D)(d:D):xi t (L++[d])=gJ t (xi t L) d:=by
 unfold xi;rw[List.foldl_append];rfl
theorem Et(t:Str):∀(L:List D)(s:Nat×Option Nat),(L.foldl (gJ t) s).1=s.1+(L.filter λd=>!yD d).length
 | [],_=>rfl
 |d::L,s=>by
  rw[Zb,Et t L];unfold gJ;cases h:yD d with
  |true=>rw[jW (by rw[h]; decide)]
  |false=>
   rw[qm (by rw[h]; rfl),xf];show s.1+1+_=_;omega
theorem W8(t u:Str)(L:List D):(xi t (L++[wo u])).2=if u=t then some (L.filter λd=>!yD d).length else(xi t L).2:=by
 rw[Eu];have h:=Et t L (0,none);show(match(u==t)with|true=>some (xi t L).1|false=>(xi t L).2)=_;by_cases e:u=t
 ·rw[zP e,Zi.mpr e];show some (xi t L).1=_;rw[show(xi t L).1=_ from h,xT]
 ·rw[zS e,XB.mpr e]
theorem L_{t:Str}{L:List D}{d:D}(h:yD d=false):(xi t (L++[d])).2=(xi t L).2:=by
 rw[Eu];unfold gJ;rw[h]
theorem tz{L:List D}{r:D}(h:L.length<=1000):xo (.lst L) r=some (.lst (L++[r])):=by
 show(if L.length<yb then _ else _)=_;rw[zP (by show _<16777216; omega)]
inductive wU:D->Prop
 |label (t:Str):wU (wo t)
 |plain {d:D}:vy d->wU d
 |uY (t:Str):wU (.tup [.str "jump",.str t])
 |cond {w k:Str} (t:Str) (hw:w = "when" \/ w = "unless") (hk:k = "carry" \/ k = "nought" \/ k = "sign"):wU (.tup [.str w,.str k,.str t])
theorem Rv{d:D}(h:wU d):∃w,zL d (.int 0)=some (.str w)/\yE (.str w) (.str "label")=some (.bl (yD d))/\tH 5 d=true:=by
 cases h with
 |label=>exact⟨_,rfl,rfl,rfl⟩
 |plain h=>
  obtain⟨w,a,b,c,e⟩:=WG (m:=0) (.inl h);exact⟨w,a,by rw[c]; exact b,e⟩
 |uY=>exact⟨_,rfl,rfl,rfl⟩
 |cond t hw hk=>rcases hw with rfl|rfl<;>rcases hk with rfl|rfl|rfl<;>exact⟨_,rfl,rfl,rfl⟩
def By(x y:D):Prop:=(yj x=false->y=x)/\(yj x=true->∃(h:List D) (a:D) (t:Str),x=.tup (h++[a])/\y=.tup (h++[.str t]))
theorem Rt{x:D}(h:yD x=true):yj x=false:=by
 unfold yD at h
 split at h
 ·rename_i w r;have e:w = "label" := by simpa using h
  subst e;rfl
 ·cases h
def vO(L:List D)(x y:D):Prop:=wU y/\yD y=yD x/\By x y/\yj y=yj x/\(yj x=true->∃(t:Str) (p:Nat),zL y (.int (-1))=some (.str t)/\(xi t L).2=some p/\pH x=.int (p:Int))
theorem Tk{R:D->D->Prop}:∀{xs ys:List D},wF R xs ys->xs.length=ys.length
 |_,_,.nil=>rfl
 |_,_,.cons _ r=>by rw[xf,xf,Tk r]
theorem O0{R:D->D->Prop}:∀{xs ys:List D},wF R xs ys->∀y∈ys,∃x∈xs,R x y
 |_,_,.nil,_,h=>by cases h
 |x::xs,y::ys,.cons r rs,z,hz=>by
  rcases yV.mp hz with rfl|hz
  ·exact⟨x,xP ..,r⟩
  ·obtain⟨w,hw,h⟩:=O0 rs z hz;exact⟨w,wZ _ hw,h⟩
theorem D_{R R':D->D->Prop}(h:∀x y,R x y->R' x y):∀{xs ys:List D},wF R xs ys->wF R' xs ys
 |_,_,.nil=>.nil
 |_,_,.cons r rs=>.cons (h _ _ r) (D_ h rs)
theorem FV{L0:List D}:∀{xs ys:List D},wF (vO L0) xs ys->wF (vO L0) (xs.filter λd=>!yD d) (ys.filter λd=>!yD d)
 |_,_,.nil=>.nil
 |x::xs,y::ys,.cons r rs=>by
  have a:=FV rs;cases h:yD x with
  |true=>
   rw[jW (p:=λd=>!yD d) (a:=y) (by rw[r.2.1,h]; decide),jW (p:=λd=>!yD d) (a:=x) (by rw[h]; decide)];exact a
  |false=>
   rw[qm (p:=λd=>!yD d) (a:=y) (by rw[r.2.1,h]; rfl),qm (p:=λd=>!yD d) (a:=x) (by rw[h]; rfl)];exact .cons r a
theorem FW{L0:List D}(t:Str):∀{xs ys:List D}(s:Nat×Option Nat),wF (vO L0) xs ys->ys.foldl (gJ t) s=xs.foldl (gJ t) s
 |_,_,_,.nil=>rfl
 |x::xs,y::ys,s,.cons r rs=>by
  rw[Zb,Zb,FW t _ rs]
  congr 1
  unfold gJ;rw[r.2.1];cases h:yD x with
  |true=>rw[r.2.2.1.1 (Rt h)]
  |false=>rfl
theorem Dz{R:D->D->Prop}:∀{xs ys:List D},wF R xs ys->∀{i:Nat}{x:D},xs[i]?=some x->∃y,ys[i]?=some y/\R x y
 |_,_,.nil,_,_,h=>by cases h
 |_,_,.cons r _,0,_,h=>by cases h; exact⟨_,rfl,r⟩
 |_,_,.cons _ rs,i+1,_,h=>Dz rs (by simpa using h)
theorem FC{R:D->D->Prop}:∀{xs ys:List D},xs.length=ys.length->(∀(i:Nat) x y,xs[i]?=some x->ys[i]?=some y->R x y)->wF R xs ys
 | [],[],_,_=>.nil
 | [],_::_,h,_=>by cases h
 |_::_,[],h,_=>by cases h
 |x::xs,y::ys,h,r=>.cons (r 0 x y rfl rfl) (FC (by simpa using h) λi a b ha hb=>r (i+1) a b (by simpa using ha) (by simpa using hb))
def T1:FS:=
 (yA (e2 yk (e2 j5 (e2 yk (e2 yS (e2 j4 (z7 0) (eC (.int 48271))) (e2 j4 (e2 yS (z7 1) (eC (.int 1))) (eC (.int 1299721)))) (eC (.int 2147483647))) (eC (.int 5))) (eC (.int 2147483647))))
def wg:List D->Option (Bool×D):=FR 2 2 T1
theorem eJ:∀ds r,wg ds=some r->ds.length=2/\zd 2 T1 ds=some r:=yM
theorem R5(x0 x1:D):wg [x0,x1]=zd 2 T1 [x0,x1]:=rfl
def j_:FS:=
 (zO (zf 1 (e2 yk (z7 0) (eC (.int 18))))
  (zO (zf 2 (e2 yk (e2 wm (z7 0) (eC (.int 18))) (eC (.int 8))))
  (zO (zf 3 (e2 yk (e2 wm (z7 0) (eC (.int 144))) (eC (.int 8))))
  (zO (zf 4 (e2 wm (z7 0) (eC (.int 1152))))
  (zO (yR (tE (e2 yE (z7 1) (eC (.int 0))))
   (yA (xU (zB (eC (.str "stop")) zG)))
   ym)
  (zO (yR (tE (e2 (xV λi j=>decide (i<j)) (z7 1) (eC (.int 3))))
   (yA (xU (zB (e2 zL (xJ (zB (eC (.str "set")) (zB (eC (.str "high")) zG))) (e2 vT (z7 1) (eC (.int 1)))) (zB (z7 2) (zB (e2 zL (xJ (zB (e2 yk (z7 4) (eC (.int 65536))) (zB (eC (.int 0)) (zB (eC (.int 65535)) (zB (e2 yk (z7 4) (eC (.int 9))) zG))))) (e2 yk (e2 wm (z7 4) (eC (.int 65536))) (eC (.int 4)))) zG)))))
   ym)
  (zO (yR (tE (e2 (xV λi j=>decide (i<j)) (z7 1) (eC (.int 12))))
   (yA (xU (zB (e2 zL (xJ (zB (eC (.str "copy")) (zB (eC (.str "add")) (zB (eC (.str "addc")) (zB (eC (.str "sub")) (zB (eC (.str "subc")) (zB (eC (.str "and")) (zB (eC (.str "or")) (zB (eC (.str "xor")) (zB (eC (.str "test")) zG)))))))))) (e2 vT (z7 1) (eC (.int 3)))) (zB (z7 2) (zB (z7 3) zG)))))
   ym)
  (zO (yR (tE (e2 (xV λi j=>decide (i<j)) (z7 1) (eC (.int 14))))
   (yA (xU (zB (e2 zL (xJ (zB (eC (.str "left")) (zB (eC (.str "right")) zG))) (e2 vT (z7 1) (eC (.int 12)))) (zB (z7 2) (zB (e2 zL (xJ (zB (e2 yk (z7 4) (eC (.int 32))) (zB (eC (.int 0)) (zB (eC (.int 31)) (zB (eC (.int 1)) zG))))) (e2 yk (e2 wm (z7 4) (eC (.int 32))) (eC (.int 4)))) zG)))))
   ym)
  (yA (xU (zB (e2 zL (xJ (zB (eC (.str "load")) (zB (eC (.str "store")) (zB (eC (.str "loadw")) (zB (eC (.str "storew")) zG))))) (e2 vT (z7 1) (eC (.int 14)))) (zB (z7 2) (zB (z7 3) (zB (e2 zL (xJ (zB (e2 yk (z7 4) (eC (.int 256))) (zB (eC (.int 0)) (zB (eC (.int 255)) zG)))) (e2 yk (e2 wm (z7 4) (eC (.int 256))) (eC (.int 3)))) zG))))))))))))))
def kL:List D->Option (Bool×D):=FR 1 5 j_
theorem eS:∀ds r,kL ds=some r->ds.length=1/\zd 5 j_ ds=some r:=yM
theorem Xo(x0:D):kL [x0]=zd 5 j_ [x0]:=rfl
def wJ(c k:Int):Int:=((c*48271+(k+1)*1299721)%2147483647) ^ 5%2147483647
theorem ZI{i j:Int}(h0:0<=j)(h1:j<64)(h2:0<=i)(h3:i<2 ^ 64):qO i j=true:=by
 unfold qO;rw[ye h0,ye (show j<=1000000 by omega),ye (show i.natAbs<2 ^ 64 by omega)];rfl
theorem jG(c k:Int):wg [.int c,.int k]=some (false,.int (wJ c k)):=by
 have h0:=Int.emod_nonneg (c*48271+(k+1)*1299721) (show(2147483647:Int)≠0 by decide);have h1:=KE (c*48271+(k+1)*1299721) (show(0:Int)<2147483647 by decide);have hp:=ZI (i:=(c*48271+(k+1)*1299721)%2147483647) (j:=5) (by decide) (by decide) h0 (by omega);have l1:uj 48271=true/\uj 1299721=true:=⟨by decide,by decide⟩;rw[R5];unfold T1;simp![add_int,l1,hp];rfl
theorem dR(c:Int):∃r,kL [.int c]=some (false,r)/\vy r:=by
 have d0:0<=c/18%8:=by omega
 have d1:c/18%8<8:=by omega
 have s0:0<=c/144%8:=by omega
 have s1:c/144%8<8:=by omega
 by_cases h0:c%18=0
 ·refine⟨_,?_,.stop⟩;rw[Xo];unfold j_;simp![h0,Yh]
 ·by_cases h3:c%18<3
  ·obtain⟨n,hn,e⟩:=Lx (a:=c/1152%65536) (b:=0) (c:=65535) (d:=c/1152%9) (i:=c/1152/65536%4) (by omega) (by omega)
   obtain⟨w,hw,ew⟩:∃w:Str,(w = "set" \/ w = "high")/\zL (.lst [.str "set",.str "high"]) (.int (c%18-1))=some (.str w):=by
    rcases(show c%18=1\/c%18=2 by omega)with h|h<;>rw[h]
    ·exact⟨"set",.inl rfl,rfl⟩
    ·exact⟨"high",.inr rfl,rfl⟩
   refine⟨_,?_,.Zp hw d0 d1 (show 0<=n by omega) (by omega)⟩;rw[Xo];unfold j_;simp![Yi h0,ye h3,ew,e]
  ·by_cases h12:c%18<12
   ·obtain⟨w,hw,ew⟩:∃w:Str,(w = "copy" \/ w = "add" \/ w = "addc" \/ w = "sub" \/ w = "subc" \/ w = "and" \/ w = "or" \/ w = "xor" \/ w = "test")/\zL (.lst [.str "copy",.str "add",.str "addc",.str "sub",.str "subc",.str "and",.str "or",.str "xor",.str "test"]) (.int (c%18-3))=some (.str w):=by
     rcases(show c%18=3\/c%18=4\/c%18=5\/c%18=6\/c%18=7\/c%18=8\/c%18=9\/c%18=10\/c%18=11 by omega)with h|h|h|h|h|h|h|h|h<;>rw[h]
     ·exact⟨"copy",by simp,rfl⟩
     ·exact⟨"add",by simp,rfl⟩
     ·exact⟨"addc",by simp,rfl⟩
     ·exact⟨"sub",by simp,rfl⟩
     ·exact⟨"subc",by simp,rfl⟩
     ·exact⟨"and",by simp,rfl⟩
     ·exact⟨"or",by simp,rfl⟩
     ·exact⟨"xor",by simp,rfl⟩
     ·exact⟨"test",by simp,rfl⟩
    refine⟨_,?_,.two hw d0 d1 s0 s1⟩;rw[Xo];unfold j_;simp![Yi h0,yh h3,ye h12,ew]
   ·by_cases h14:c%18<14
    ·obtain⟨n,hn,e⟩:=Lx (a:=c/1152%32) (b:=0) (c:=31) (d:=1) (i:=c/1152/32%4) (by omega) (by omega)
     obtain⟨w,hw,ew⟩:∃w:Str,(w = "left" \/ w = "right")/\zL (.lst [.str "left",.str "right"]) (.int (c%18-12))=some (.str w):=by
      rcases(show c%18=12\/c%18=13 by omega)with h|h<;>rw[h]
      ·exact⟨"left",.inl rfl,rfl⟩
      ·exact⟨"right",.inr rfl,rfl⟩
     refine⟨_,?_,.Zq hw d0 d1 (show 0<=n by omega) (by omega)⟩;rw[Xo];unfold j_;simp![Yi h0,yh h3,yh h12,ye h14,ew,e]
    ·obtain⟨n,hn,e⟩:=cD (a:=c/1152%256) (b:=0) (c:=255) (i:=c/1152/256%3) (by omega) (by omega)
     obtain⟨w,hw,ew⟩:∃w:Str,(w = "load" \/ w = "store" \/ w = "loadw" \/ w = "storew")/\zL (.lst [.str "load",.str "store",.str "loadw",.str "storew"]) (.int (c%18-14))=some (.str w):=by
      rcases(show c%18=14\/c%18=15\/c%18=16\/c%18=17 by omega)with h|h|h|h<;>rw[h]
      ·exact⟨"load",by simp,rfl⟩
      ·exact⟨"store",by simp,rfl⟩
      ·exact⟨"loadw",by simp,rfl⟩
      ·exact⟨"storew",by simp,rfl⟩
     refine⟨_,?_,.mem hw d0 d1 s0 s1 (show 0<=n by omega) (by omega)⟩;rw[Xo];unfold j_;simp![Yi h0,yh h3,yh h12,yh h14,ew,e]
def MC:FA:=(qM (eC (.int 0)) (e2 yk (e2 wm (z7 1) (eC (.int 3))) (eC (.int 7))))
def JM:FE:=(e2 zL (z7 2) (e2 yk (ze wg (zB (z7 1) (zB (z7 6) zG))) (eC (.int 26))))
def GX:FA:=(qM (eC (.int 0)) (e2 wm (z7 0) (eC (.int 26))))
def LK:FS:=(zf 4 (e2 yS (z7 4) (eC (.str "q"))))
def YG:FS:=
 (zO (zf 2 (eC (.str "abcdefghijklmnopqrstuvwxyz")))
  (zO (zf 3 (e2 To (eC (.str "")) (xn 1 MC (zy 6) xA JM)))
  (zO (yR (tE (e2 yE (e2 yk (z7 1) (eC (.int 3))) (eC (.int 0))))
   (zO (zf 4 (e2 zL (z7 2) (e2 yk (z7 0) (eC (.int 26)))))
    (zO (vm GX (zy 5)
     LK)
    (yA (z7 4))))
   ym)
  (zO (yR (tE (e2 yE (e2 yk (z7 1) (eC (.int 3))) (eC (.int 1))))
   (yA (e2 yS (e2 yS (e2 zL (z7 2) (e2 yk (z7 0) (eC (.int 26)))) (e2 zL (z7 2) (e2 wm (z7 0) (eC (.int 26))))) (kq (z7 3) uL (uM (eC (.int 6))))))
   ym)
  (yA (e2 yS (e2 yS (kq (z7 3) uL (uM (eC (.int 6)))) (e2 zL (z7 2) (e2 wm (z7 0) (eC (.int 26))))) (e2 zL (z7 2) (e2 yk (z7 0) (eC (.int 26))))))))))
def qw:List D->Option (Bool×D):=FR 2 6 YG
theorem eK:∀ds r,qw ds=some r->ds.length=2/\zd 6 YG ds=some r:=yM
theorem OL(x0 x1:D):qw [x0,x1]=zd 6 YG [x0,x1]:=rfl
def GW:FA:=(qM (eC (.int 0)) (eL xg (zB (z7 0) zG)))
def Hy:FE:=(z7 1)
def JQ:FT:=(tE (e2 xD (e2 zL (e2 zL (z7 0) (z7 1)) (eC (.int 0))) (xU (zB (eC (.str "jump")) (zB (eC (.str "when")) (zB (eC (.str "unless")) zG))))))
def T0:FS:=
 (um (xn 1 GW (zy 1) JQ Hy))
def qu:List D->Option (Bool×D):=FR 1 1 T0
theorem eG:∀ds r,qu ds=some r->ds.length=1/\zd 1 T0 ds=some r:=yM
theorem R4(x0:D):qu [x0]=zd 1 T0 [x0]:=rfl
def JL:FE:=(e2 zL (e2 zL (z7 0) (z7 10)) (e1 wn (eC (.int 1))))
def GV:FA:=(qM (eC (.int 0)) (e2 yS (eL xg (zB (z7 0) zG)) (eC (.int 1))))
def QP:FS:=(zO (zf 8 (e2 yk (ze wg (zB (z7 1) (zB (z7 7) zG))) (eC (.int 12))))
    (zO (yR (gX (tE (e2 xD (z7 7) (z7 3))) (tE (e2 yE (z7 8) (eC (.int 0)))))
     (zO (pL 4 (z7 7) (ze qw (zB (z7 6) (zB (z7 2) zG))))
      (zO (w8 5 xo (xU (zB (eC (.str "label")) (zB (e2 zL (qb 4) (z7 7)) zG))))
      (zf 6 (e2 (qC λi j=>i+j) (z7 6) (eC (.int 1))))))
     ym)
    (zO (yR (tE (e2 yE (z7 8) (eC (.int 1))))
     (zO (w8 5 xo (xU (zB (eC (.str "label")) (zB (ze qw (zB (z7 6) (zB (z7 2) zG))) zG))))
      (zf 6 (e2 (qC λi j=>i+j) (z7 6) (eC (.int 1)))))
     ym)
    (yR (tE (e2 (xV λi j=>decide (i<j)) (z7 7) (eL xg (zB (z7 0) zG))))
     (w8 5 xo (e2 zL (z7 0) (z7 7)))
     ym))))
def ZY:FE:=(uH (tE (e2 xD (e2 zL (z7 10) (eC (.int 0))) (z7 9))) (e2 yS (kq (z7 10) uL (uM (e1 wn (eC (.int 1))))) (xU (zB (e2 zL (z7 4) (e2 zL (z7 10) (e1 wn (eC (.int 1))))) zG))) (z7 10))
def U_:FS:=
 (zO (zf 2 (e2 yk (e2 wm (z7 1) (eC (.int 4))) (eC (.int 999))))
  (zO (zf 3 (xn 1 (uJ (ze qu (zB (z7 0) zG))) (zy 10) xA JL))
  (zO (vn 4 (eC (.dic [] [])))
  (zO (vn 5 (xJ zG))
  (zO (zf 6 (eC (.int 0)))
  (zO (vm GV (zy 7)
   QP)
  (zO (ZO 5) (zO (ZO 4) (zO (zf 9 (xU (zB (eC (.str "jump")) (zB (eC (.str "when")) (zB (eC (.str "unless")) zG)))))
  (um (xn 1 (uJ (z7 5)) (zy 10) xA ZY)))))))))))
def Y2:List D->Option (Bool×D):=FR 2 10 U_
theorem eE:∀ds r,Y2 ds=some r->ds.length=2/\zd 10 U_ ds=some r:=yM
theorem R0(x0 x1:D):Y2 [x0,x1]=zd 10 U_ [x0,x1]:=rfl
theorem Sk:∀(sh:Int)(n:Nat),(wN n).map (λd=>match d with|.int j=>D.str (lt (wJ sh j%26))|d=>d)=((List.range n).map λj:Nat=>lt (wJ sh j%26)).map D.str:=λsh n=>by
 rw[vc,vc];rfl
theorem HW(f:Nat->Int):∀l:List Nat,((l.map λj=>lt (f j)).map (·.length)).sum=l.length
 | []=>rfl
 |a::l=>by
  rw[xw,xw,BV,HW f l,Yl,xf];omega
def VZ(sh:Int):Str:=Builtin.Str.glued "" ((List.range (sh/3%7).toNat).map λj:Nat=>lt (wJ sh j%26))
def gO(x:Str):Nat->Str
 |0=>x
 |n+1=>gO x n ++ "q"
def uk(sh k:Int):Str:=if sh%3=0 then gO (lt (k%26)) (k/26).toNat else if sh%3=1 then lt (k%26)++lt (k/26)++L2.cutS (VZ sh) none (some 6)else L2.cutS (VZ sh) none (some 6)++lt (k/26)++lt (k%26)
theorem mT{k sh:Int}{x3 x4 x5:Option Sl}:∃ds xs:List D,(VZ sh).length<=7/\MC [some (false,.int k),some (false,.int sh),some (false,.str "abcdefghijklmnopqrstuvwxyz"),x3,x4,x5]=some ds/\xK (zy 6) xA JM [some (false,.int k),some (false,.int sh),some (false,.str "abcdefghijklmnopqrstuvwxyz"),x3,x4,x5,none] ds=some xs/\To (.str "") (.lst xs)=some (.str (VZ sh)):=by
 have hr:MC [some (false,.int k),some (false,.int sh),some (false,.str "abcdefghijklmnopqrstuvwxyz"),x3,x4,x5]=some (wN (sh/3%7).toNat):=
  jK (n:=sh/3%7) rfl (by omega)
 have hl:=Z6 (g:=zy 6) (e:=JM) (σ:=[some (false,.int k),some (false,.int sh),some (false,.str "abcdefghijklmnopqrstuvwxyz"),x3,x4,x5]++List.replicate 1 none) (λd=>match d with|.int j=>D.str (lt (wJ sh j%26))|d=>d) (ds:=wN (sh/3%7).toNat) λd hd=>by
  obtain⟨i,hi,rfl⟩:=Mn hd;have hm:=jG sh (i:Int);have hx:=Uh (k:=wJ sh i%26) (by omega) (by omega);refine⟨_,rfl,?_⟩;unfold JM;simp![hm,hx]
 rw[Sk]at hl;have hs:=HW (λj:Nat=>wJ sh j%26) (List.range (sh/3%7).toNat);rw[vD]at hs;have hg:=L2.glued_len "" ((List.range (sh/3%7).toNat).map λj:Nat=>lt (wJ sh j%26));have e0:("" : Str).length=0:=rfl;rw[hs,e0,Nat.mul_zero,Nat.add_zero]at hg;have hj:=S9 (sep := "") (ts:=(List.range (sh/3%7).toNat).map λj:Nat=>lt (wJ sh j%26)) (by rw[hs,e0]; omega);exact⟨_,_,xj hg (by omega),hr,hl,hj⟩
theorem GF(x:Str):∀n,(gO x n).length=x.length+n
 |0=>rfl
 |n+1=>by
  show(gO x n ++ "q").length=_;rw[LW,GF x n];rfl
theorem CK{k sh:Int}(k0:0<=k)(k1:k<676)(s0:0<=sh):qw [.int k,.int sh]=some (false,.str (uk sh k)):=by
 obtain⟨ds,xs,ht,er,ex,ej⟩:=mT (k:=k) (sh:=sh) (x3:=none) (x4:=none) (x5:=none);unfold uk;generalize VZ sh=t at ht ej ⊢;have a1:=Uh (k:=k%26) (by omega) (by omega);have a2:=Uh (k:=k/26) (by omega) (by omega);have c6:=cut_len t none (some 6);have l1:=Yl (k%26);have l2:=Yl (k/26);have h2:∀x y:Str,(x++y).length=x.length+y.length:=LW;have sl:kq (z7 3) uL (uM (eC (.int 6))) [some (false,.int k),some (false,.int sh),some (false,.str "abcdefghijklmnopqrstuvwxyz"),some (false,.str t),none,none]=some (.str (L2.cutS t none (some 6))):=rfl;rcases(show sh%3=0\/sh%3=1\/sh%3=2 by omega)with h|h|h
 ·have hr:GX [some (false,.int k),some (false,.int sh),some (false,.str "abcdefghijklmnopqrstuvwxyz"),some (false,.str t),some (false,.str (lt (k%26))),none]=some (wN (k/26).toNat):=jK (n:=k/26) rfl (by omega)
  obtain⟨σ',e2,x,rfl⟩:=tF (g:=zy 5) (b:=LK) (λi σ=>∃x,σ=[some (false,.int k),some (false,.int sh),some (false,.str "abcdefghijklmnopqrstuvwxyz"),some (false,.str t),some (false,.str (gO (lt (k%26)) i)),x]) (ds:=wN (k/26).toNat)
   (σ:=[some (false,.int k),some (false,.int sh),some (false,.str "abcdefghijklmnopqrstuvwxyz"),some (false,.str t),some (false,.str (lt (k%26))),none]) 0 ⟨_,rfl⟩ (by
   rintro i v σ hv ⟨x,rfl⟩;obtain⟨hi,rfl⟩:=ZX hv;rw[xT];have lq:("q" : Str).length=1:=rfl;have ha:=add_str (a:=gO (lt (k%26)) i) (b := "q") (by rw[lq,GF,Yl]; omega);exact⟨_,_,rfl,.inl (by unfold LK; simp![ha]; rfl),_,rfl⟩)
  rw[X1,xT]at e2;rw[zP h,OL];unfold YG;simp![er,ex,ej,h,Yh,a1,hr,e2]
 ·rw[zS (by omega),zP h];have h1:=add_str (a:=lt (k%26)) (b:=lt (k/26)) (by omega);have h3:=add_str (a:=lt (k%26)++lt (k/26)) (b:=L2.cutS t none (some 6)) (by rw[h2]; omega);have z:yE (.int 1) (.int 0)=some (.bl false):=rfl;rw[OL];unfold YG;simp![er,ex,ej,h,z,Yh,a1,a2,h1,sl,h3]
 ·rw[zS (by omega),zS (by omega)];have h1:=add_str (a:=L2.cutS t none (some 6)) (b:=lt (k/26)) (by omega);have h3:=add_str (a:=L2.cutS t none (some 6)++lt (k/26)) (b:=lt (k%26)) (by rw[h2]; omega);have z:yE (.int 2) (.int 0)=some (.bl false):=rfl;have z1:yE (.int 2) (.int 1)=some (.bl false):=rfl;rw[OL];unfold YG;simp![er,ex,ej,h,z,z1,a1,a2,h1,sl,h3]
theorem Im(a b:Str):(a++b).cps.toList=a.cps.toList++b.cps.toList:=KA
theorem GE(x:Str):∀n,(gO x n).cps.toList=x.cps.toList++List.replicate n 113
 |0=>by rw[Kb,vC]; rfl
 |n+1=>by
  show(gO x n ++ "q").cps.toList=_;rw[Im,GE x n,gk,List.replicate_succ'];rfl
theorem CL{sh k k':Int}(a0:0<=k)(b0:0<=k')(h:uk sh k=uk sh k'):k=k':=by
 unfold uk at h;have lc:∀x:Int,(lt x).cps.toList=[97+x.toNat]:=λ_=>rfl
 have h1:=congrArg (λz:Str=>z.cps.toList) h;by_cases c:sh%3=0
 ·simp only[zP c,GE,lc,jV,gy,Za]at h1;have h2:=congrArg List.length h1.2;rw[gl,gl]at h2;omega
 ·by_cases c1:sh%3=1
  ·simp only[zS c,zP c1,Im,lc,jV,gy,Za]at h1;omega
  ·simp only[zS c,zS c1,Im,lc,gk,List.append_cancel_left_eq,jV,gy,Za]at h1;omega
theorem L9{m:Int}{rows:List D}(hr:∀r∈rows,xr m r)(hl:rows.length<=1000):qu [.lst rows]=some (true,.lst ((wX rows).map λi:Nat=>D.int i)):=by
 have h1:GW [some (false,.lst rows)]=some (wN rows.length):=jK (n:=(rows.length:Int)) rfl (by omega)
 have h2:=gD (g:=zy 1) (c:=JQ) (e:=Hy) (σ:=[some (false,.lst rows),none]) (λd=>match d with|.int i=>yj (rows.getD i.toNat .zE)|_=>false) id (ds:=wN rows.length) λd hd=>by
  obtain⟨i,hi,rfl⟩:=Mn hd;have ex:zL (.lst rows) (.int (i:Int))=some rows[i]:=qY (by omega) (by rw[xB]; exact yF hi);have eg:rows.getD ((i:Int)).toNat .zE=rows[i]:=by rw[xB,wP,yF hi]; rfl
  have ej:∃w,zL rows[i] (.int 0)=some (.str w)/\xD (.str w) (.tup [.str "jump",.str "when",.str "unless"])=some (.bl (yj rows[i])):=by
   rcases hr _ (vq hi)with h|h
   ·obtain⟨w,a,b,_,c,_⟩:=pJ h;exact⟨w,a,by rw[c]; exact b⟩
   ·obtain⟨w,p,a,b,_,c,_⟩:=uh h;exact⟨w,a,by rw[c]; exact b⟩
  obtain⟨w,ew,ein⟩:=ej;refine⟨_,rfl,?_,λ_=>?_⟩
  ·show JQ [some (false,.lst rows),some (false,.int (i:Int))]=some (yj (rows.getD ((i:Int)).toNat .zE));rw[eg];unfold JQ;simp![ex,ew,ein]
  ·rfl
 have h3:List.map id ((wN rows.length).filter λd=>match d with|.int i=>yj (rows.getD i.toNat .zE)|_=>false)=(wX rows).map λi:Nat=>D.int i:=by
  rw[gu,Je];rfl
 rw[h3]at h2;rw[R4];unfold T0;simp![h1,h2]
def places(rows:List D):List D:=(wX rows).map λi=>pH (rows.getD i .zE)
def Z1(rows:List D)(q:Int):Bool:=(places rows).any λy=>yW y (.int q)
theorem cL{m:Int}{rows:List D}(hr:∀r∈rows,xr m r){y:D}(h:y∈places rows):∃p:Int,y=.int p/\0<=p/\p<=m:=by
 obtain⟨i,hi,rfl⟩:=xQ.mp h;obtain⟨hl,hj⟩:=Xs hi;have eg:rows.getD i .zE=rows[i]:=by rw[wP,yF hl]; rfl
 rw[eg]at hj ⊢;rcases hr _ (vq hl)with h|h
 ·obtain⟨_,_,_,_,c,_⟩:=pJ h;rw[c]at hj;cases hj
 ·obtain⟨w,p,_,_,_,_,_,_,e,p0,p1⟩:=uh h;exact⟨p,e,p0,p1⟩
theorem Rn{m:Int}{rows:List D}(hr:∀r∈rows,xr m r)(q:Int):xD (.int q) (.lst (places rows))=some (.bl (Z1 rows q)):=by
 have ha:(places rows).all yY=true:=vB.mpr λy hy=>by
  obtain⟨p,rfl,_⟩:=cL hr hy;rfl
 show(pA (.int q) (.lst (places rows))).bind _=_
 have:pA (.int q) (.lst (places rows))=some (Z1 rows q):=by
  show(match yY (.int q)&&(places rows).all yY with|true=>_|false=>_)=_;rw[ha];rfl
 rw[this];rfl
theorem Rm{rows:List D}{i:Nat}{p:Int}(hl:i<rows.length)(hj:yj rows[i]=true)(he:pH rows[i]=.int p):Z1 rows p=true:=by
 refine jU.mpr ⟨.int p,xQ.mpr ⟨i,vL.mpr ⟨vd.mpr hl,?_⟩,?_⟩,?_⟩
 ·rw[wP,yF hl]; exact hj
 ·rw[wP,yF hl]; exact he
 ·unfold yW; exact ja p
structure Inv(rows:List D)(sh:Int)(i:Nat)(ks:List (Sum Int Str))(vs L:List D)(c:Int):Prop where
 hk:ks.length=vs.length
 k1:ks.length<=i
 l1:L.length<=3*i
 c0:0<=c
 c1:c<=2*i
 nm:∀q:Int,0<=q->q<i->Z1 rows q=true->∃k:Int,0<=k/\k<c/\getK ks vs (.inl q)=some (.str (uk sh k))/\(xi (uk sh k) L).2=some q.toNat
 fl:L.filter (λd=>!yD d)=rows.take i
 el:∀d∈L,(∃t,d=wo t)\/d∈rows
theorem R_{m:Int}{rows:List D}(hr:∀r∈rows,xr m r)(hl:rows.length<=100){cell sh:Int}(s0:0<=sh){i:Nat}(hi:i<=rows.length){ks:List (Sum Int Str)}{vs L:List D}{c:Int}(I:Inv rows sh i ks vs L c){x8 x9:Option Sl} :
  ∃ks' vs' L' c' y8,Inv rows sh (i+1) ks' vs' L' c'/\QP [some (false,.lst rows),some (false,.int cell),some (false,.int sh),some (false,.lst (places rows)),some (true,.dic ks vs),some (true,.lst L),some (false,.int c),some (false,.int (i:Int)),x8,x9] =
   some (.nx [some (false,.lst rows),some (false,.int cell),some (false,.int sh),some (false,.lst (places rows)),some (true,.dic ks' vs'),some (true,.lst L'),some (false,.int c'),some (false,.int (i:Int)),y8,x9]):=by
 obtain⟨hk,k1,l1,c0,c1,nm,fl,el⟩:=I;have hm:=jG cell (i:Int);generalize wJ cell (i:Int)=mx at hm;have hin:=Rn hr (i:Int)
 have A:∃(ks':List (Sum Int Str)) (vs' L':List D) (c':Int),(ks'.length=vs'.length/\ks'.length<=i+1/\L'.length<=3*i+1/\0<=c'/\c'<=2*i+1)/\(∀q:Int,0<=q->q<(i+1:Nat)->Z1 rows q=true->∃k:Int,0<=k/\k<c'/\getK ks' vs' (.inl q)=some (.str (uk sh k))/\(xi (uk sh k) L').2=some q.toNat)/\L'.filter (λd=>!yD d)=rows.take i/\(∀d∈L',(∃t,d=wo t)\/d∈rows)/\
   yR (gX (tE (e2 xD (z7 7) (z7 3))) (tE (e2 yE (z7 8) (eC (.int 0)))))
     (zO (pL 4 (z7 7) (ze qw (zB (z7 6) (zB (z7 2) zG))))
      (zO (w8 5 xo (xU (zB (eC (.str "label")) (zB (e2 zL (qb 4) (z7 7)) zG))))
      (zf 6 (e2 (qC λi j=>i+j) (z7 6) (eC (.int 1))))))
     ym [some (false,.lst rows),some (false,.int cell),some (false,.int sh),some (false,.lst (places rows)),some (true,.dic ks vs),some (true,.lst L),some (false,.int c),some (false,.int (i:Int)),some (false,.int (mx%12)),x9] =
   some (.nx [some (false,.lst rows),some (false,.int cell),some (false,.int sh),some (false,.lst (places rows)),some (true,.dic ks' vs'),some (true,.lst L'),some (false,.int c'),some (false,.int (i:Int)),some (false,.int (mx%12)),x9]):=by
  obtain⟨k0,e0⟩:∃k,yE (.int (mx%12)) (.int 0)=some (.bl k):=⟨_,rfl⟩;by_cases h:Z1 rows (i:Int)=false/\k0=false
  ·refine⟨ks,vs,L,c,⟨hk,by omega,by omega,c0,by omega⟩,?_,fl,el,?_⟩
   ·intro q q0 q1 hq;by_cases e:q=(i:Int)
    ·subst e; rw[h.1]at hq; cases hq
    ·exact nm q q0 (by omega) hq
   ·rw[h.1]at hin;rw[h.2]at e0;simp![hin,e0]
  ·have et:=CK (k:=c) (sh:=sh) c0 (by omega) s0;obtain⟨t,ht⟩:∃t,t=uk sh c:=⟨_,rfl⟩;rw[<-ht]at et
   have hc:gX (tE (e2 xD (z7 7) (z7 3))) (tE (e2 yE (z7 8) (eC (.int 0)))) [some (false,.lst rows),some (false,.int cell),some (false,.int sh),some (false,.lst (places rows)),some (true,.dic ks vs),some (true,.lst L),some (false,.int c),some (false,.int (i:Int)),some (false,.int (mx%12)),x9]=some true:=by
    cases hb:Z1 rows (i:Int)with
    |true=>rw[hb]at hin; simp![hin]
    |false=>
     have:k0=true:=by cases k0 with|true=>rfl|false=>exact absurd ⟨hb,rfl⟩ h
     rw[hb]at hin;rw[this]at e0;simp![hin,e0]
   have gp:=OI (k:=.inl (i:Int)) (v:=D.str t) hk
   have g0:zL (.dic (xt ks (.inl (i:Int))) (w6 ks vs (.inl (i:Int)) (.str t))) (.int (i:Int))=some (.str t):=by
    show getK _ _ _=_;rw[gp,zP rfl]
   have hlk:(xt ks (.inl (i:Int))).length<=i+1:=by
    unfold xt
    split
    ·omega
    ·rw[ya]; show _+1<=_; omega
   have hap:=tz (L:=L) (r:=wo t) (by omega);refine⟨xt ks (.inl (i:Int)),w6 ks vs (.inl (i:Int)) (.str t),L++[wo t],c+1,⟨ZK hk,hlk,by rw[ya]; show _+1<=_; omega,by omega,by omega⟩,?_,?_,?_,?_⟩
   ·intro q q0 q1 hq;rw[gp];by_cases e:(i:Int)=q
    ·subst e;refine⟨c,c0,by omega,by rw[zP rfl,ht],?_⟩;rw[W8,zP ht,fl,jY,xB,Nat.min_eq_left hi]
    ·rw[zS (λh=>e (pU h))];obtain⟨k,k0,k1,k2,k3⟩:=nm q q0 (by omega) hq;refine⟨k,k0,by omega,k2,?_⟩;rw[W8,zS,k3];intro z;have:=CL c0 k0 (ht.symm.trans z);omega
   ·rw[qS,fl];show rows.take i++[]=_;rw[vC]
   ·intro d hd;rcases u9.mp hd with hd|hd
    ·exact el d hd
    ·cases w_.mp hd; exact .inl ⟨t,rfl⟩
   ·rw[Fp hc];have kd:qe (.int (i:Int))=some (.inl (i:Int)):=rfl;have hlim:ks.length<yb:=by show _<16777216; omega
    have sp:pL 4 (z7 7) (ze qw (zB (z7 6) (zB (z7 2) zG))) [some (false,.lst rows),some (false,.int cell),some (false,.int sh),some (false,.lst (places rows)),some (true,.dic ks vs),some (true,.lst L),some (false,.int c),some (false,.int (i:Int)),some (false,.int (mx%12)),x9] =
      some (.nx [some (false,.lst rows),some (false,.int cell),some (false,.int sh),some (false,.lst (places rows)),some (true,.dic (xt ks (.inl (i:Int))) (w6 ks vs (.inl (i:Int)) (.str t))),some (true,.lst L),some (false,.int c),some (false,.int (i:Int)),some (false,.int (mx%12)),x9]):=by
     simp![pL,et,kd,zP hlim]
    rw[tM sp];unfold wo at hap ⊢;simp![g0,hap]
 obtain⟨ks',vs',L',c',⟨a1,a2,a3,a4,a5⟩,anm,afl,ael,ae⟩:=A
 have B:∃(L2:List D) (c2:Int),(L2.length<=3*i+2/\0<=c2/\c2<=2*i+2/\c'<=c2/\∀k:Int,0<=k->k<c'->(xi (uk sh k) L2).2=(xi (uk sh k) L').2)/\L2.filter (λd=>!yD d)=rows.take i/\(∀d∈L2,(∃t,d=wo t)\/d∈rows)/\
   yR (tE (e2 yE (z7 8) (eC (.int 1))))
     (zO (w8 5 xo (xU (zB (eC (.str "label")) (zB (ze qw (zB (z7 6) (zB (z7 2) zG))) zG))))
      (zf 6 (e2 (qC λi j=>i+j) (z7 6) (eC (.int 1)))))
     ym [some (false,.lst rows),some (false,.int cell),some (false,.int sh),some (false,.lst (places rows)),some (true,.dic ks' vs'),some (true,.lst L'),some (false,.int c'),some (false,.int (i:Int)),some (false,.int (mx%12)),x9] =
   some (.nx [some (false,.lst rows),some (false,.int cell),some (false,.int sh),some (false,.lst (places rows)),some (true,.dic ks' vs'),some (true,.lst L2),some (false,.int c2),some (false,.int (i:Int)),some (false,.int (mx%12)),x9]):=by
  obtain⟨k0,e0⟩:∃k,yE (.int (mx%12)) (.int 1)=some (.bl k):=⟨_,rfl⟩;cases k0 with
  |false=>exact⟨L',c',⟨by omega,a4,by omega,by omega,λ_ _ _=>rfl⟩,afl,ael,by simp![e0]⟩
  |true=>
   have et:=CK (k:=c') (sh:=sh) a4 (by omega) s0;obtain⟨t,ht⟩:∃t,t=uk sh c':=⟨_,rfl⟩;rw[<-ht]at et;have hap:=tz (L:=L') (r:=wo t) (by omega);refine⟨L'++[wo t],c'+1,⟨by rw[ya]; show _+1<=_; omega,by omega,by omega,by omega,λk k0 k1=>?_⟩,?_,?_,?_⟩
   ·rw[W8,zS];intro z;have:=CL a4 k0 (ht.symm.trans z);omega
   ·rw[qS,afl];show rows.take i++[]=_;rw[vC]
   ·intro d hd;rcases u9.mp hd with hd|hd
    ·exact ael d hd
    ·cases w_.mp hd; exact .inl ⟨t,rfl⟩
   ·unfold wo at hap ⊢;simp![e0,et,hap]
 obtain⟨L2,c2,⟨b1,b2,b3,b4,b5⟩,bfl,bel,be⟩:=B
 have C:∃L3:List D,L3.length<=3*(i+1)/\(∀t,(xi t L3).2=(xi t L2).2)/\L3.filter (λd=>!yD d)=rows.take (i+1)/\(∀d∈L3,(∃t,d=wo t)\/d∈rows)/\
   yR (tE (e2 (xV λi j=>decide (i<j)) (z7 7) (eL xg (zB (z7 0) zG))))
     (w8 5 xo (e2 zL (z7 0) (z7 7)))
     ym [some (false,.lst rows),some (false,.int cell),some (false,.int sh),some (false,.lst (places rows)),some (true,.dic ks' vs'),some (true,.lst L2),some (false,.int c2),some (false,.int (i:Int)),some (false,.int (mx%12)),x9] =
   some (.nx [some (false,.lst rows),some (false,.int cell),some (false,.int sh),some (false,.lst (places rows)),some (true,.dic ks' vs'),some (true,.lst L3),some (false,.int c2),some (false,.int (i:Int)),some (false,.int (mx%12)),x9]):=by
  by_cases h:i<rows.length
  ·have hap:=tz (L:=L2) (r:=rows[i]) (by omega);have ex:zL (.lst rows) (.int (i:Int))=some rows[i]:=qY (by omega) (by rw[xB]; exact yF h);have hd:decide ((i:Int)<(rows.length:Int))=true:=ye (by omega);refine⟨L2++[rows[i]],by rw[ya]; show _+1<=_; omega,?_,?_,?_,?_⟩
   ·intro t;obtain⟨_,_,_,z,_⟩:=WG (hr _ (vq h));exact L_ z
   ·obtain⟨_,_,_,z,_⟩:=WG (hr _ (vq h));rw[qS,bfl,qm (by rw[z]; rfl),BL,BX h]
   ·intro d hd;rcases u9.mp hd with hd|hd
    ·exact bel d hd
    ·cases w_.mp hd; exact .inr (vq h)
   ·simp![hd,ex,hap]
  ·have hd:decide ((i:Int)<(rows.length:Int))=false:=yh (by omega);refine⟨L2,by omega,λ_=>rfl,?_,bel,by simp![hd]⟩;rw[bfl,BW (by omega),BW (by omega)]
 obtain⟨L3,d1,dpl,dfl,del,de⟩:=C;refine⟨ks',vs',L3,c2,some (false,.int (mx%12)),⟨a1,a2,by omega,b2,by omega,λq q0 q1 hq=>?_,dfl,del⟩,?_⟩
 ·obtain⟨k,k0,k1,k2,k3⟩:=anm q q0 q1 hq;exact⟨k,k0,by omega,k2,by rw[dpl,b5 k k0 k1,k3]⟩
 unfold QP;rw[tM (σ':=[some (false,.lst rows),some (false,.int cell),some (false,.int sh),some (false,.lst (places rows)),some (true,.dic ks vs),some (true,.lst L),some (false,.int c),some (false,.int (i:Int)),some (false,.int (mx%12)),x9]) (by simp![hm]),tM ae,tM be];exact de
theorem Ry{rows:List D}(hr:∀r∈rows,xr (rows.length:Int) r)(hl:rows.length<=100){cell:Int}:∃zF:List D,Y2 [.lst rows,.int cell]=some (true,.lst zF)/\(∀d∈zF,wU d)/\wF (vO zF) rows (zF.filter λd=>!yD d)/\zF.length<=1000:=by
 have hj:=L9 hr (by omega)
 have q9:xK (zy 10) xA JL [some (false,.lst rows),some (false,.int cell),some (false,.int (cell/4%999)),none,none,none,none,none,none,none,none] ((wX rows).map λi:Nat=>D.int i)=some (places rows):=by
  have:=Z6 (g:=zy 10) (e:=JL) (σ:=[some (false,.lst rows),some (false,.int cell),some (false,.int (cell/4%999)),none,none,none,none,none,none,none,none]) (λd=>match d with|.int i=>pH (rows.getD i.toNat .zE)|d=>d) (ds:=(wX rows).map λi:Nat=>D.int i) λd hd=>by
   obtain⟨i,hi,rfl⟩:=xQ.mp hd;obtain⟨h1,h2⟩:=Xs hi;have eg:rows.getD i .zE=rows[i]:=by rw[wP,yF h1]; rfl
   have ex:zL (.lst rows) (.int (i:Int))=some rows[i]:=qY (by omega) (by rw[xB]; exact yF h1);rw[eg]at h2;refine⟨_,rfl,?_⟩;show _=some (pH (rows.getD ((i:Int)).toNat .zE));rw[xB,eg];rcases hr _ (vq h1)with h|h
   ·obtain⟨_,_,_,_,c,_⟩:=pJ h;rw[c]at h2;cases h2
   ·obtain⟨w,p,_,_,_,_,_,q1,q2,_⟩:=uh h;rw[q2];unfold JL;simp![ex,q1]
  rw[this,vc];rfl
 have e2:GV [some (false,.lst rows),some (false,.int cell),some (false,.int (cell/4%999)),some (false,.lst (places rows)),some (true,.dic [] []),some (true,.lst []),some (false,.int 0),none,none,none]=some (wN (rows.length+1)):=by
  have:=jK (f:=e2 yS (eL xg (zB (z7 0) zG)) (eC (.int 1))) (τ:=[some (false,.lst rows),some (false,.int cell),some (false,.int (cell/4%999)),some (false,.lst (places rows)),some (true,.dic [] []),some (true,.lst []),some (false,.int 0),none,none,none]) (n:=(rows.length:Int)+1) rfl (by omega);rw[show((rows.length:Int)+1).toNat=rows.length+1 by omega]at this;exact this
 obtain⟨σ',e3,ks,vs,L,c,x7,x8,I,rfl⟩:=tF (g:=zy 7) (b:=QP) (λi σ=>∃ks vs L c x7 x8,Inv rows (cell/4%999) i ks vs L c/\σ=[some (false,.lst rows),some (false,.int cell),some (false,.int (cell/4%999)),some (false,.lst (places rows)),some (true,.dic ks vs),some (true,.lst L),some (false,.int c),x7,x8,none]) (ds:=wN (rows.length+1))
  (σ:=[some (false,.lst rows),some (false,.int cell),some (false,.int (cell/4%999)),some (false,.lst (places rows)),some (true,.dic [] []),some (true,.lst []),some (false,.int 0),none,none,none]) 0
  ⟨[],[],[],0,none,none,⟨rfl,zt _,zt _,by decide,by decide,(λq q0 q1=>by omega),rfl,(λ_ h=>by cases h)⟩,rfl⟩ (by
  rintro i v σ hv ⟨ks,vs,L,c,x7,x8,I,rfl⟩;obtain⟨hi,rfl⟩:=ZX hv;rw[xT]at I ⊢;obtain⟨ks',vs',L',c',y8,I',e⟩:=R_ (cell:=cell) (sh:=cell/4%999) hr hl (by omega) (by omega) I (x8:=x8) (x9:=none);exact⟨_,_,rfl,.inl e,ks',vs',L',c',_,y8,I',rfl⟩)
 rw[X1,xT]at I;obtain⟨hk,k1,l1,c0,c1,nm,fl,el⟩:=I
 obtain⟨zF,e4,ea⟩:=CC (g:=zy 10) (e:=ZY) (σ:=[some (false,.lst rows),some (false,.int cell),some (false,.int (cell/4%999)),some (false,.lst (places rows)),some (false,.dic ks vs),some (false,.lst L),some (false,.int c),x7,x8,some (false,.tup [.str "jump",.str "when",.str "unless"]),none]) (vO L) (ds:=L) λd hd=>by
  have pr:∀d,vy d->∃σ1 x,zy 10 d [some (false,.lst rows),some (false,.int cell),some (false,.int (cell/4%999)),some (false,.lst (places rows)),some (false,.dic ks vs),some (false,.lst L),some (false,.int c),x7,x8,some (false,.tup [.str "jump",.str "when",.str "unless"]),none]=some σ1/\ZY σ1=some x/\vO L d x:=λd h=>by
   obtain⟨w,a,b,_,jf,_⟩:=pJ h;unfold QJ at b;refine⟨_,d,rfl,?_,.plain h,rfl,⟨λ_=>rfl,λz=>by rw[jf]at z; cases z⟩,rfl,λz=>by rw[jf]at z; cases z⟩;unfold ZY;simp![a,b]
  rcases el d hd with⟨t,rfl⟩|hd
  ·have a:zL (wo t) (.int 0)=some (.str "label"):=rfl;have b:xD (.str "label") (.tup [.str "jump",.str "when",.str "unless"])=some (.bl false):=rfl;refine⟨_,wo t,rfl,?_,.label t,rfl,⟨λ_=>rfl,λz=>by cases z⟩,rfl,λz=>by cases z⟩;unfold ZY;simp![a,b]
  ·obtain⟨i,hi,rfl⟩:=X9 hd;rcases hr _ (vq hi)with h|h
   ·exact pr _ h
   ·obtain⟨w,p,a,b,_,j,_,q1,q2,p0,p1⟩:=uh h;obtain⟨kn,kn0,kn1,et,ep⟩:=nm p p0 (by omega) (Rm hi j q2);generalize uk (cell/4%999) kn=t at et ep;have eg:zL (.dic ks vs) (.int p)=some (.str t):=et;have hp:pH rows[i]=.int ((p.toNat:Nat):Int):=by rw[q2,show((p.toNat:Nat):Int)=p by omega]
    unfold QJ at b;generalize rows[i]=r at h a j q1 q2 hp;cases h with
    |uY p0 p1=>
     rename_i p';cases a;have sl:kq (z7 10) uL (uM (e1 wn (eC (.int 1)))) [some (false,.lst rows),some (false,.int cell),some (false,.int (cell/4%999)),some (false,.lst (places rows)),some (false,.dic ks vs),some (false,.lst L),some (false,.int c),x7,x8,some (false,.tup [.str "jump",.str "when",.str "unless"]),some (false,.tup [.str "jump",.int p'])]=some (.tup [.str "jump"]):=rfl;have ad:yS (.tup [.str "jump"]) (.tup [.str t])=some (.tup [.str "jump",.str t]):=rfl;refine⟨_,_,rfl,?_,.uY t,rfl,⟨(λz=>by cases z),λ_=>⟨[.str "jump"],_,t,rfl,rfl⟩⟩,rfl,λ_=>⟨t,p.toNat,rfl,ep,hp⟩⟩;unfold ZY;simp![vV,b,sl,q1,eg,ad]
    |cond hw hk p0 p1=>
     rename_i w' k' p';cases a;have sl:kq (z7 10) uL (uM (e1 wn (eC (.int 1)))) [some (false,.lst rows),some (false,.int cell),some (false,.int (cell/4%999)),some (false,.lst (places rows)),some (false,.dic ks vs),some (false,.lst L),some (false,.int c),x7,x8,some (false,.tup [.str "jump",.str "when",.str "unless"]),some (false,.tup [.str w,.str k',.int p'])]=some (.tup [.str w,.str k']):=rfl;have ad:yS (.tup [.str w,.str k']) (.tup [.str t])=some (.tup [.str w,.str k',.str t]):=rfl;refine⟨_,.tup [.str w,.str k',.str t],rfl,?_,.cond t hw hk,?_,⟨λz=>?_,λ_=>⟨[.str w,.str k'],_,t,rfl,rfl⟩⟩,?_,λ_=>⟨t,p.toNat,rfl,ep,hp⟩⟩
     ·unfold ZY;simp![vV,b,sl,q1,eg,ad]
     ·rcases hw with rfl|rfl<;>rfl
     ·rcases hw with rfl|rfl<;>cases z
     ·rcases hw with rfl|rfl<;>rfl
 have f1:=FV ea;have f3:=Tk ea;have f4:∀t,xi t zF=xi t L:=λt=>FW t _ ea
 rw[fl,BW (by omega)]at f1;refine⟨zF,?_,λd hd=>?_,D_ (λx y h=>⟨h.1,h.2.1,h.2.2.1,h.2.2.2.1,λz=>?_⟩) f1,by omega⟩
 rotate_left
 ·obtain⟨x,_,h⟩:=O0 ea d hd;exact h.1
 ·obtain⟨t,p,a,b,c⟩:=h.2.2.2.2 z;exact⟨t,p,a,by rw[f4]; exact b,c⟩
 rw[R0];unfold U_;simp![hj,q9,e2,e3,e4]
def p_:FS:=
 (zO (zf 3 (e2 yk (z7 2) (eC (.int 8))))
  (zO (zf 4 (e2 yS (z7 0) (e2 zL (xJ (zB (eC (.int 14)) (zB (eC (.int 15)) (zB (eC (.int 16)) (zB (eC (.int 13)) (zB (e1 wn (eC (.int 15))) (zB (e1 wn (eC (.int 16))) (zB (e1 wn (eC (.int 17))) (zB (e1 wn (eC (.int 14))) zG))))))))) (e2 yk (e2 wm (z7 2) (eC (.int 8))) (eC (.int 8))))))
  (zO (yR (X0 (tE (e2 (xV λi j=>decide (i<j)) (z7 3) (eC (.int 4)))) (tE (Xg (xV λi j=>decide (i<=j)) (xV λi j=>decide (i<=j)) (eC (.int 0)) (z7 4) (z7 1))))
   (yA (z7 4))
   ym)
  (zO (yR (tE (e2 (xV λi j=>decide (i<j)) (z7 3) (eC (.int 6))))
   (yA (e2 yk (e2 wm (z7 2) (eC (.int 64))) (e2 yS (z7 1) (eC (.int 1)))))
   ym)
  (yA (eL Tp (zB (eC (.int 0)) (zB (eL Tq (zB (z7 1) (zB (e2 vT (e2 yS (z7 0) (e2 yk (e2 wm (z7 2) (eC (.int 64))) (eC (.int 7)))) (eC (.int 3))) zG))) zG))))))))
def kK:List D->Option (Bool×D):=FR 3 5 p_
theorem eQ:∀ds r,kK ds=some r->ds.length=3/\zd 5 p_ ds=some r:=yM
theorem YS(x0 x1 x2:D):kK [x0,x1,x2]=zd 5 p_ [x0,x1,x2]:=rfl
def GY:FA:=(qM (eC (.int 0)) (z7 1))
def Xu:FS:=(zO (zf 5 (ze ux (zB (z7 0) (zB (e2 yS (eC (.int 3)) (z7 4)) zG))))
    (zO (yR (tE (e2 (xV λi j=>decide (i<j)) (eL xg (zB (z7 0) zG)) (e2 yS (eC (.int 4)) (z7 4))))
     (zf 5 (ze wg (zB (ze ux (zB (z7 0) (zB (eC (.int 2)) zG))) (zB (z7 4) zG))))
     ym)
    (yR (tE (e2 (xV λi j=>decide (i<j)) (e2 yk (ze wg (zB (z7 5) (zB (eC (.int 1)) zG))) (eC (.int 8))) (z7 2)))
     (zO (zf 6 (ze kK (zB (z7 4) (zB (z7 1) (zB (ze wg (zB (z7 5) (zB (eC (.int 2)) zG))) zG)))))
      (zO (zf 7 (e2 zL (xJ (zB (eC (.str "jump")) (zB (eC (.str "when")) (zB (eC (.str "unless")) zG)))) (e2 yk (ze wg (zB (z7 5) (zB (eC (.int 3)) zG))) (eC (.int 3)))))
      (yR (tE (e2 yE (z7 7) (eC (.str "jump"))))
       (w8 3 xo (xU (zB (z7 7) (zB (z7 6) zG))))
       (w8 3 xo (xU (zB (z7 7) (zB (e2 zL (xJ (zB (eC (.str "carry")) (zB (eC (.str "nought")) (zB (eC (.str "sign")) zG)))) (e2 yk (ze wg (zB (z7 5) (zB (eC (.int 4)) zG))) (eC (.int 3)))) (zB (z7 6) zG))))))))
     (w8 3 xo (ze kL (zB (ze wg (zB (z7 5) (zB (eC (.int 5)) zG))) zG))))))
def T5:FS:=
 (zO (vn 3 (xJ zG))
  (zO (vm GY (zy 4)
   Xu)
  (qP 3)))
def Y5:List D->Option (Bool×D):=FR 3 8 T5
theorem eT:∀ds r,Y5 ds=some r->ds.length=3/\zd 8 T5 ds=some r:=yM
theorem R9(x0 x1 x2:D):Y5 [x0,x1,x2]=zd 8 T5 [x0,x1,x2]:=rfl
def kX:FS:=
 (zO (zf 1 (e2 yk (z7 0) (eC (.int 24))))
  (zO (yR (tE (e2 yE (e2 yk (e2 wm (z7 0) (eC (.int 24))) (eC (.int 4))) (eC (.int 1))))
   (zf 1 (e2 yS (eC (.int 16)) (e2 yk (e2 wm (z7 0) (eC (.int 96))) (eC (.int 24)))))
   ym)
  (zO (yR (tE (e2 yE (e2 yk (e2 wm (z7 0) (eC (.int 24))) (eC (.int 8))) (eC (.int 3))))
   (zf 1 (e2 yS (eC (.int 30)) (e2 yk (e2 wm (z7 0) (eC (.int 192))) (eC (.int 31)))))
   ym)
  (yA (z7 1)))))
def Y3:List D->Option (Bool×D):=FR 1 2 kX
theorem eI:∀ds r,Y3 ds=some r->ds.length=1/\zd 2 kX ds=some r:=yM
theorem Tx(x0:D):Y3 [x0]=zd 2 kX [x0]:=rfl
def Uz:FS:=
 (zO (zf 1 (ze Y3 (zB (ze ux (zB (z7 0) (zB (eC (.int 0)) zG))) zG)))
  (zO (zf 2 (e2 zL (xJ (λ_=>some (List.map D.int [4,2,6,8]))) (e2 yk (ze ux (zB (z7 0) (zB (eC (.int 1)) zG))) (eC (.int 4)))))
  (zO (zf 3 (ze Y5 (zB (z7 0) (zB (z7 1) (zB (z7 2) zG)))))
  (yA (xU (zB (z7 3) (zB (ze Y2 (zB (z7 3) (zB (e2 wm (ze ux (zB (z7 0) (zB (eC (.int 1)) zG))) (eC (.int 4))) zG))) zG)))))))
def Y1:List D->Option (Bool×D):=FR 1 4 Uz
theorem eB:∀ds r,Y1 ds=some r->ds.length=1/\zd 4 Uz ds=some r:=yM
theorem P_(x0:D):Y1 [x0]=zd 4 Uz [x0]:=rfl
theorem cI{n m c:Int}(n0:0<=n)(m0:0<=m):∃p:Int,0<=p/\p<=m/\kK [.int n,.int m,.int c]=some (false,.int p):=by
 obtain⟨z,e⟩:∃z:Int,zL (.lst [.int 14,.int 15,.int 16,.int 13,.int (-15),.int (-16),.int (-17),.int (-14)]) (.int (c/8%8))=some (.int z):=by
  rcases(show c/8%8=0\/c/8%8=1\/c/8%8=2\/c/8%8=3\/c/8%8=4\/c/8%8=5\/c/8%8=6\/c/8%8=7 by omega)with h|h|h|h|h|h|h|h<;>rw[h]<;>exact⟨_,rfl⟩
 have hm:decide (0<m+1)=true:=ye (by omega);have q0:=Int.emod_nonneg (c/64) (show m+1≠0 by omega);have q1:=KE (c/64) (show 0<m+1 by omega)
 have hch:Xg (xV λi j=>decide (i<=j)) (xV λi j=>decide (i<=j)) (eC (.int 0)) (z7 4) (z7 1) [some (false,.int n),some (false,.int m),some (false,.int c),some (false,.int (c%8)),some (false,.int (n+z))]=some (.bl (decide (0<=n+z)&&decide (n+z<=m))):=by
  by_cases g0:0<=n+z
  ·simp![Xg,ye g0,pS]
  ·simp![Xg,yh g0,pR]
 have hg:(decide (0<=n+z)&&decide (n+z<=m))=true->0<=n+z/\n+z<=m:=λh=>by
  rw[xL]at h;exact⟨v3 h.1,v3 h.2⟩
 generalize (decide (0<=n+z)&&decide (n+z<=m))=bc at hch hg;cases h4:decide (c%8<4)<;>cases bc
 ·by_cases h6:c%8<6
  ·refine⟨_,q0,by omega,?_⟩;rw[YS];unfold p_;simp![e,add_int,h4,hch,ye h6,hm]
  ·refine⟨if(if n+c/64%7-3<m then n+c/64%7-3 else m)>0 then(if n+c/64%7-3<m then n+c/64%7-3 else m)else 0,?_,?_,?_⟩
   ·split<;>omega
   ·split
    ·split<;>omega
    ·omega
   ·rw[YS];unfold p_;simp![e,add_int,h4,hch,yh h6,Tq,Tp]
 ·by_cases h6:c%8<6
  ·refine⟨_,q0,by omega,?_⟩;rw[YS];unfold p_;simp![e,add_int,h4,hch,ye h6,hm]
  ·refine⟨if(if n+c/64%7-3<m then n+c/64%7-3 else m)>0 then(if n+c/64%7-3<m then n+c/64%7-3 else m)else 0,?_,?_,?_⟩
   ·split<;>omega
   ·split
    ·split<;>omega
    ·omega
   ·rw[YS];unfold p_;simp![e,add_int,h4,hch,yh h6,Tq,Tp]
 ·have h6:c%8<6:=by have:=v3 h4; omega
  refine⟨_,q0,by omega,?_⟩;rw[YS];unfold p_;simp![e,add_int,h4,hch,ye h6,hm]
 ·obtain⟨g0,g1⟩:=hg rfl;refine⟨n+z,g0,g1,?_⟩;rw[YS];unfold p_;simp![e,add_int,h4,hch]
theorem dW{s:D}{ns:List Int}{m dn i:Int}{L:List D}{x5 x6 x7:Option Sl}(hs:s=.lst (ns.map D.int))(i0:0<=i)(m0:0<=m)(hl:L.length<=1000) :
  ∃r,xr m r/\∃y5 y6 y7,Xu [some (false,s),some (false,.int m),some (false,.int dn),some (true,.lst L),some (false,.int i),x5,x6,x7]=some (.nx [some (false,s),some (false,.int m),some (false,.int dn),some (true,.lst (L++[r])),some (false,.int i),y5,y6,y7]):=by
 have hap:∀r,xo (.lst L) r=some (.lst (L++[r])):=λr=>by
  show(if L.length<yb then _ else _)=_;rw[zP (by show _<16777216; omega)]
 have hc:=Xf ns (k:=3+i) (by omega);have hc2:=Xf ns (k:=2) (by decide);have hln:xg [s]=some (.int (ns.length:Int)):=by rw[hs]; show some (D.int ((ns.map D.int).length:Nat))=_; rw[zr]
 rw[<-hs]at hc hc2
 have go:∀ c:Int,∃ r,xr m r∧∃ y5 y6 y7,yR (tE (e2 (xV fun i j=>decide (i<j)) (e2 yk (ze wg (zB (z7 5) (zB (eC (.int 1)) zG))) (eC (.int 8))) (z7 2)))
     (zO (zf 6 (ze kK (zB (z7 4) (zB (z7 1) (zB (ze wg (zB (z7 5) (zB (eC (.int 2)) zG))) zG)))))
      (zO (zf 7 (e2 zL (xJ (zB (eC (.str "jump")) (zB (eC (.str "when")) (zB (eC (.str "unless")) zG)))) (e2 yk (ze wg (zB (z7 5) (zB (eC (.int 3)) zG))) (eC (.int 3)))))
      (yR (tE (e2 yE (z7 7) (eC (.str "jump"))))
       (w8 3 xo (xU (zB (z7 7) (zB (z7 6) zG))))
       (w8 3 xo (xU (zB (z7 7) (zB (e2 zL (xJ (zB (eC (.str "carry")) (zB (eC (.str "nought")) (zB (eC (.str "sign")) zG)))) (e2 yk (ze wg (zB (z7 5) (zB (eC (.int 4)) zG))) (eC (.int 3)))) (zB (z7 6) zG))))))))
     (w8 3 xo (ze kL (zB (ze wg (zB (z7 5) (zB (eC (.int 5)) zG))) zG))) [some (false,s),some (false,.int m),some (false,.int dn),some (true,.lst L),some (false,.int i),some (false,.int c),x6,x7]=some (.nx [some (false,s),some (false,.int m),some (false,.int dn),some (true,.lst (L++[r])),some (false,.int i),y5,y6,y7]):=λc=>by
  have m1:=jG c 1;have m2:=jG c 2;have m3:=jG c 3;have m4:=jG c 4;have m5:=jG c 5;cases hd:decide (wJ c 1%8<dn)with
  |false=>
   obtain⟨r,er,pr⟩:=dR (wJ c 5);refine⟨r,.inl pr,some (false,.int c),x6,x7,?_⟩;simp![m1,hd,m5,er,hap]
  |true=>
   obtain⟨p,p0,p1,ep⟩:=cI (c:=wJ c 2) i0 m0
   obtain⟨w,hw,ew⟩:∃w:Str,(w = "jump" \/ w = "when" \/ w = "unless")/\zL (.lst [.str "jump",.str "when",.str "unless"]) (.int (wJ c 3%3))=some (.str w):=by
    rcases(show wJ c 3%3=0\/wJ c 3%3=1\/wJ c 3%3=2 by omega)with h|h|h<;>rw[h]
    ·exact⟨"jump",by simp,rfl⟩
    ·exact⟨"when",by simp,rfl⟩
    ·exact⟨"unless",by simp,rfl⟩
   obtain⟨k,hk,ek⟩:∃w:Str,(w = "carry" \/ w = "nought" \/ w = "sign")/\zL (.lst [.str "carry",.str "nought",.str "sign"]) (.int (wJ c 4%3))=some (.str w):=by
    rcases(show wJ c 4%3=0\/wJ c 4%3=1\/wJ c 4%3=2 by omega)with h|h|h<;>rw[h]
    ·exact⟨"carry",by simp,rfl⟩
    ·exact⟨"nought",by simp,rfl⟩
    ·exact⟨"sign",by simp,rfl⟩
   rcases hw with rfl|hw
   ·have q:yE (.str "jump") (.str "jump")=some (.bl true):=by rfl
    refine⟨_,.inr (.uY p0 p1),some (false,.int c),some (false,.int p),some (false,.str "jump"),?_⟩;simp![m1,m2,m3,hd,ep,ew,q,hap]
   ·have q:yE (.str w) (.str "jump")=some (.bl false):=by rcases hw with rfl|rfl<;>rfl
    refine⟨_,.inr (.cond hw hk p0 p1),some (false,.int c),some (false,.int p),some (false,.str w),?_⟩;simp![m1,m2,m3,m4,hd,ep,ew,ek,q,hap]
 cases hd:decide ((ns.length:Int)<4+i)with
 |false=>
  obtain⟨r,hr,y5,y6,y7,e⟩:=go (t6 ns (3+i));refine⟨r,hr,y5,y6,y7,?_⟩;unfold Xu;rw[tM (σ':=[some (false,s),some (false,.int m),some (false,.int dn),some (true,.lst L),some (false,.int i),some (false,.int (t6 ns (3+i))),x6,x7]) (by simp![add_int,hc])];rw[tM (σ':=[some (false,s),some (false,.int m),some (false,.int dn),some (true,.lst L),some (false,.int i),some (false,.int (t6 ns (3+i))),x6,x7]) (by rw[hs]; simp![add_int,zr,hd])];exact e
 |true=>
  obtain⟨r,hr,y5,y6,y7,e⟩:=go (wJ (t6 ns 2) i);refine⟨r,hr,y5,y6,y7,?_⟩;have mm:=jG (t6 ns 2) i;unfold Xu;rw[tM (σ':=[some (false,s),some (false,.int m),some (false,.int dn),some (true,.lst L),some (false,.int i),some (false,.int (t6 ns (3+i))),x6,x7]) (by simp![add_int,hc])];rw[tM (σ':=[some (false,s),some (false,.int m),some (false,.int dn),some (true,.lst L),some (false,.int i),some (false,.int (wJ (t6 ns 2) i)),x6,x7]) (by rw[hs]at hc2 ⊢; simp![add_int,zr,hd,hc2,mm])];exact e
theorem dS{ns:List Int}{m dn:Int}(m0:0<=m)(m1:m<=100):∃rows:List D,rows.length=m.toNat/\(∀r∈rows,xr m r)/\Y5 [.lst (ns.map D.int),.int m,.int dn]=some (true,.lst rows):=by
 obtain⟨s,hs⟩:∃s:D,s=.lst (ns.map D.int):=⟨_,rfl⟩;rw[<-hs];have hr:GY [some (false,s),some (false,.int m),some (false,.int dn),some (true,.lst []),none,none,none,none]=some (wN m.toNat):=jK (n:=m) rfl (by omega)
 obtain⟨σ',e,L,x4,x5,x6,x7,hl,hL,rfl⟩:=tF (g:=zy 4) (b:=Xu) (λi σ=>∃L x4 x5 x6 x7,L.length=i/\(∀r∈L,xr m r)/\σ=[some (false,s),some (false,.int m),some (false,.int dn),some (true,.lst L),x4,x5,x6,x7]) (ds:=wN m.toNat)
  (σ:=[some (false,s),some (false,.int m),some (false,.int dn),some (true,.lst []),none,none,none,none]) 0 ⟨[],none,none,none,none,rfl,(λ_ h=>by cases h),rfl⟩ (by
  rintro i v σ hv ⟨L,x4,x5,x6,x7,hl,hL,rfl⟩;obtain⟨hi,rfl⟩:=ZX hv;obtain⟨r,hr,y5,y6,y7,e⟩:=dW (s:=s) (ns:=ns) (m:=m) (dn:=dn) (i:=(i:Int)) (L:=L) (x5:=x5) (x6:=x6) (x7:=x7) hs (by omega) m0 (by omega);refine⟨_,_,rfl,.inl e,L++[r],_,y5,y6,y7,by rw[ya,hl]; rfl,?_,rfl⟩;intro x hx;rcases u9.mp hx with hx|hx
  ·exact hL x hx
  ·cases w_.mp hx;exact hr)
 rw[X1,xT]at hl;refine⟨L,hl,hL,?_⟩;rw[R9];unfold T5;simp![hr,e]
theorem So(c:Int):∃m:Int,0<=m/\m<=60/\Y3 [.int c]=some (false,.int m):=by
 have b1:∀x:Int,(∃k,yE (.int (c/24%4)) (.int 1)=some (.bl k)):=λ_=>⟨_,rfl⟩
 obtain⟨k1,e1⟩:∃k,yE (.int (c/24%4)) (.int 1)=some (.bl k):=⟨_,rfl⟩;obtain⟨k2,e2⟩:∃k,yE (.int (c/24%8)) (.int 3)=some (.bl k):=⟨_,rfl⟩;cases k1<;>cases k2
 ·refine⟨c%24,by omega,by omega,?_⟩;rw[Tx];unfold kX;simp![e1,e2,add_int]
 ·refine⟨30+c/192%31,by omega,by omega,?_⟩;rw[Tx];unfold kX;simp![e1,e2,add_int]
 ·refine⟨16+c/96%24,by omega,by omega,?_⟩;rw[Tx];unfold kX;simp![e1,e2,add_int]
 ·refine⟨30+c/192%31,by omega,by omega,?_⟩;rw[Tx];unfold kX;simp![e1,e2,add_int]
theorem NV(ns:List Int):∃rows zF:List D,rows.length<=60/\(∀r∈rows,xr (rows.length:Int) r)/\(∀d∈zF,wU d)/\wF (vO zF) rows (zF.filter λd=>!yD d)/\zF.length<=1000/\Y1 [.lst (ns.map D.int)]=some (false,.tup [.lst rows,.lst zF]):=by
 have hc0:=Xf ns (k:=0) (by decide);have hc1:=Xf ns (k:=1) (by decide);obtain⟨m,m0,m1,em⟩:=So (t6 ns 0);obtain⟨dn,_,ed⟩:=Lx (a:=4) (b:=2) (c:=6) (d:=8) (i:=t6 ns 1%4) (by omega) (by omega);obtain⟨rows,hl,hr,er⟩:=dS (ns:=ns) (m:=m) (dn:=dn) m0 (by omega);have hr':∀r∈rows,xr (rows.length:Int) r:=by rw[hl,show((m.toNat:Nat):Int)=m by omega]; exact hr
 obtain⟨zF,ei,h1,h2,h3⟩:=Ry (cell:=t6 ns 1/4) hr' (by omega);refine⟨rows,zF,by omega,hr',h1,h2,h3,?_⟩;generalize D.lst (ns.map D.int)=s at hc0 hc1 er ⊢;rw[P_];unfold Uz;simp![hc0,em,hc1,ed,er,ei]
def Uu:FS:=
 (yA (e2 yE (e2 zL (z7 0) (eC (.int 0))) (eC (.str "label"))))
def jo:List D->Option (Bool×D):=FR 1 1 Uu
theorem dr:∀ds r,jo ds=some r->ds.length=1/\zd 1 Uu ds=some r:=yM
theorem Pv(x0:D):jo [x0]=zd 1 Uu [x0]:=rfl
def H_:FE:=(z7 1)
def Mz:FT:=(J7 (tE (ze jo (zB (z7 1) zG))))
def TN:FS:=
 (um (xn 1 (uJ (z7 0)) (zy 1) Mz H_))
def ud:List D->Option (Bool×D):=FR 1 1 TN
theorem fF:∀ds r,ud ds=some r->ds.length=1/\zd 1 TN ds=some r:=yM
theorem RL(x0:D):ud [x0]=zd 1 TN [x0]:=rfl
theorem Fz{d:D}(h:wU d):jo [d]=some (false,.bl (yD d)):=by
 obtain⟨w,a,b,_⟩:=Rv h;rw[Pv];unfold Uu;simp![a,b]
theorem MM{zF:List D}(h:∀d∈zF,wU d):ud [.lst zF]=some (true,.lst (zF.filter λd=>!yD d)):=by
 have e:=gD (g:=zy 1) (c:=Mz) (e:=H_) (σ:=[some (false,.lst zF),none]) (λd=>!yD d) id (ds:=zF) λd hd=>by
  have hf:=Fz (h d hd);refine⟨_,rfl,?_,λ_=>rfl⟩;unfold Mz;simp![hf]
 rw[gu]at e;rw[RL];unfold TN;simp![e]
def Mq:FE:=(xU (zB (z7 6) (zB (eC (.bl true)) zG)))
def GU:FA:=(qM (eC (.int 0)) (eL xg (zB (ze ud (zB (z7 0) zG)) zG)))
def LI:FS:=(zO (w8 4 xo (z7 5))
    (zf 5 (e2 (qC λi j=>i+j) (z7 5) (uH (tE (e2 xD (z7 3) (z7 2))) (eC (.int 2)) (eC (.int 1))))))
def Ul:FS:=
 (zO (zf 2 (eL g7 (zB (xn 1 (uJ (z7 1)) (zy 6) xA Mq) zG)))
  (zO (vn 4 (xJ zG))
  (zO (zf 5 (eC (.int 0)))
  (zO (vm GU (zy 3)
   LI)
  (zO (w8 4 xo (z7 5))
  (qP 4))))))
def Zu:List D->Option (Bool×D):=FR 2 6 Ul
theorem dX:∀ds r,Zu ds=some r->ds.length=2/\zd 6 Ul ds=some r:=yM
theorem Pn(x0 x1:D):Zu [x0,x1]=zd 6 Ul [x0,x1]:=rfl
def zh(f:Nat->Bool):Nat->Int
 |0=>0
 |n+1=>zh f n+(if f n then 2 else 1)
def xI(f:Nat->Bool)(n:Nat):List D:=(List.range n).map λi=>D.int (zh f i)
theorem Uj(f:Nat->Bool)(n:Nat):xI f (n+1)=xI f n++[.int (zh f n)]:=by
 unfold xI;rw[Zf,tR];rfl
theorem IZ(f:Nat->Bool)(n:Nat):(xI f n).length=n:=by simp[xI]
def za(z8:List Nat):List D:=z8.map λi:Nat=>D.int i
def zJ(z8:List Nat)(n:Nat):Bool:=(za z8).any λy=>yW y (.int (n:Int))
theorem LF:∀z8:List Nat,qf (z8.map λi:Nat=>D.tup [.int i,.bl true])=some (z8.map λi:Nat=>Sum.inl (i:Int),z8.map λ_=>D.bl true)
 | []=>rfl
 |a::z8=>by
  show(qe (.int (a:Int))).bind _=_;show(qf (z8.map λi:Nat=>D.tup [.int i,.bl true])).bind _=_;rw[LF z8];rfl
theorem Ox(n:Nat):∀z8:List Nat,yc (z8.map λi:Nat=>Sum.inl (i:Int)) (.inl (n:Int))=zJ z8 n
 | []=>rfl
 |a::z8=>by
  show(decide ((Sum.inl (a:Int):Sum Int Str)=.inl (n:Int))||yc (z8.map λi:Nat=>Sum.inl (i:Int)) (.inl (n:Int)))=(yW (.int (a:Int)) (.int (n:Int))||zJ z8 n);rw[Ox n z8];have:yW (.int (a:Int)) (.int (n:Int))=((a:Int)==(n:Int)):=by unfold yW; rfl
  rw[this]
  congr 1
  by_cases h:(a:Int)=(n:Int)
  ·rw[ye (by rw[h]),h,ja]
  ·rw[yh (λe=>h (pU e)),XB.mpr h]
theorem N8{zF:List D}(h:∀d∈zF,wU d){z8:List Nat}{n:Nat}(hn:(zF.filter λd=>!yD d).length=n)(h1:n<=900):Zu [.lst zF,.lst (za z8)]=some (true,.lst (xI (zJ z8) (n+1))):=by
 have hr:=MM h
 have e1:xK (zy 6) xA Mq [some (false,.lst zF),some (false,.lst (za z8)),none,none,none,none,none] (za z8)=some (z8.map λi:Nat=>D.tup [.int i,.bl true]):=by
  have:=Z6 (g:=zy 6) (e:=Mq) (σ:=[some (false,.lst zF),some (false,.lst (za z8)),none,none,none,none,none]) (λd=>.tup [d,.bl true]) (ds:=za z8) λd hd=>⟨_,rfl,rfl⟩
  rw[this];unfold za;rw[vc];rfl
 obtain⟨K,V,e2,hK⟩:∃K V,g7 [.lst (z8.map λi:Nat=>D.tup [.int i,.bl true])]=some (.dic K V)/\∀n:Nat,yc K (.inl (n:Int))=zJ z8 n:=by
  refine⟨(y_ [] [] (z8.map λi:Nat=>Sum.inl (i:Int)) (z8.map λ_=>D.bl true)).1,(y_ [] [] (z8.map λi:Nat=>Sum.inl (i:Int)) (z8.map λ_=>D.bl true)).2,?_,λn=>?_⟩
  ·show(qf _).bind _=_;rw[LF];rfl
  ·rw[Q8 (by simp),Ox];rfl
 have e3:GU [some (false,.lst zF),some (false,.lst (za z8)),some (false,.dic K V),none,some (true,.lst []),some (false,.int 0)]=some (wN n):=by
  have:=jK (f:=eL xg (zB (ze ud (zB (z7 0) zG)) zG)) (τ:=[some (false,.lst zF),some (false,.lst (za z8)),some (false,.dic K V),none,some (true,.lst []),some (false,.int 0)]) (n:=(n:Int)) (by simp![hr,hn]) (by omega);exact this
 obtain⟨σ',e4,x3,rfl⟩:=tF (g:=zy 3) (b:=LI) (λi σ=>∃x3,σ=[some (false,.lst zF),some (false,.lst (za z8)),some (false,.dic K V),x3,some (true,.lst (xI (zJ z8) i)),some (false,.int (zh (zJ z8) i))]) (ds:=wN n)
  (σ:=[some (false,.lst zF),some (false,.lst (za z8)),some (false,.dic K V),none,some (true,.lst []),some (false,.int 0)]) 0 ⟨none,rfl⟩ (by
  rintro i v σ hv ⟨x3,rfl⟩;obtain⟨hi,rfl⟩:=ZX hv;rw[xT]at *;have hap:=tz (L:=xI (zJ z8) i) (r:=.int (zh (zJ z8) i)) (by rw[IZ]; omega)
  have hin:xD (.int (i:Int)) (.dic K V)=some (.bl (zJ z8 i)):=by
   show(some (yc K (.inl (i:Int)))).bind _=_;rw[hK];rfl
  refine⟨_,[some (false,.lst zF),some (false,.lst (za z8)),some (false,.dic K V),some (false,.int (i:Int)),some (true,.lst (xI (zJ z8) (i+1))),some (false,.int (zh (zJ z8) (i+1)))],rfl,.inl ?_,_,rfl⟩;rw[Uj];show _=some (Fl.nx [_,_,_,_,_,some (false,.int (zh (zJ z8) i+(if zJ z8 i then 2 else 1)))]);unfold LI;cases hf:zJ z8 i<;>rw[hf]at hin<;>simp![hap,hin]<;>rfl)
 rw[X1,xT]at e4;have hap:=tz (L:=xI (zJ z8) n) (r:=.int (zh (zJ z8) n)) (by rw[IZ]; omega);rw[Uj];rw[Pn];unfold Ul;simp![e1,e2,e3,e4,hap]
def Ut:FS:=
 (yA (e2 xD (e2 zL (z7 0) (eC (.int 0))) (eC T_)))
def Zy:List D->Option (Bool×D):=FR 1 1 Ut
theorem dq:∀ds r,Zy ds=some r->ds.length=1/\zd 1 Ut ds=some r:=yM
theorem Pu(x0:D):Zy [x0]=zd 1 Ut [x0]:=rfl
def QN:FS:=(yR (tE (ze jo (zB (z7 3) zG)))
     (pL 1 (e2 zL (z7 3) (eC (.int 1))) (z7 2))
     (zf 2 (e2 (qC λi j=>i+j) (z7 2) (eC (.int 1)))))
def Uw:FS:=
 (zO (vn 1 (eC (.dic [] [])))
  (zO (zf 2 (eC (.int 0)))
  (zO (vm (uJ (z7 0)) (zy 3)
   QN)
  (qP 1))))
def kH:List D->Option (Bool×D):=FR 1 4 Uw
theorem d_:∀ds r,kH ds=some r->ds.length=1/\zd 4 Uw ds=some r:=yM
theorem Px(x0:D):kH [x0]=zd 4 Uw [x0]:=rfl
theorem Ru{d:D}(h:wU d):Zy [d]=some (false,.bl (yj d)):=by
 have:∃w,zL d (.int 0)=some (.str w)/\xD (.str w) T_=some (.bl (yj d)):=by
  cases h with
  |label=>exact⟨_,rfl,rfl⟩
  |plain h=>
   obtain⟨w,a,b,_,c,_⟩:=pJ h;exact⟨w,a,by rw[c]; exact b⟩
  |uY=>exact⟨_,rfl,rfl⟩
  |cond t hw hk=>rcases hw with rfl|rfl<;>exact⟨_,rfl,rfl⟩
 obtain⟨w,a,b⟩:=this;rw[Pu];unfold Ut;simp![a,b]
theorem Rw{d:D}(h:wU d)(hl:yD d=true):∃t,d=wo t:=by
 cases h with
 |label t=>exact⟨t,rfl⟩
 |plain h=>
  obtain⟨_,_,_,z,_⟩:=WG (m:=0) (.inl h);rw[z]at hl;cases hl
 |uY=>cases hl
 |cond t hw hk=>rcases hw with rfl|rfl<;>cases hl
theorem Sb{zF:List D}(h:∀d∈zF,wU d)(hl:zF.length<=1000):∃ks vs,kH [.lst zF]=some (true,.dic ks vs)/\ks.length=vs.length/\∀t,getK ks vs (.inr t)=((xi t zF).2).map λn:Nat=>D.int n:=by
 obtain⟨σ',e,ks,vs,x3,a1,a2,a3,rfl⟩:=tF (g:=zy 3) (b:=QN) (λi σ=>∃ks vs x3,ks.length=vs.length/\ks.length<=i/\(∀t,getK ks vs (.inr t)=((xi t (zF.take i)).2).map λn:Nat=>D.int n)/\σ=[some (false,.lst zF),some (true,.dic ks vs),some (false,.int (((zF.take i).filter λd=>!yD d).length:Nat)),x3]) (ds:=zF)
  (σ:=[some (false,.lst zF),some (true,.dic [] []),some (false,.int 0),none]) 0 ⟨[],[],none,rfl,zt _,λt=>rfl,rfl⟩ (by
  rintro i v σ hv ⟨ks,vs,x3,a1,a2,a3,rfl⟩;rw[xT]at *;have hi:i<zF.length:=(yx.mp hv).1;have ev:zF[i]=v:=(yx.mp hv).2;have ht:zF.take (i+1)=zF.take i++[v]:=by rw[BX hi,ev]
  have hI:=h v (qT hv);have hf:=Fz hI;generalize hn:((zF.take i).filter λd=>!yD d).length=n;cases hL:yD v with
  |true=>
   obtain⟨u,rfl⟩:=Rw hI hL;rw[hL]at hf;have i1:zL (wo u) (.int 1)=some (.str u):=rfl;have kd:qe (.str u)=some (.inr u):=rfl;have hlim:ks.length<yb:=by show _<16777216; omega
   have hn2:((zF.take (i+1)).filter λd=>!yD d).length=n:=by
    rw[ht,qS,ya,hn];rfl
   have hlk:(xt ks (.inr u)).length<=i+1:=by
    unfold xt
    split
    ·omega
    ·rw[ya]; show _+1<=_; omega
   refine⟨_,[some (false,.lst zF),some (true,.dic (xt ks (.inr u)) (w6 ks vs (.inr u) (.int (n:Nat)))),some (false,.int (n:Nat)),some (false,wo u)],rfl,.inl ?_,xt ks (.inr u),w6 ks vs (.inr u) (.int (n:Nat)),_,ZK a1,hlk,λt=>?_,by rw[hn2]⟩
   ·unfold QN;simp![hf,pL,i1,kd,zP hlim]
   ·rw[OI a1,ht,W8,hn,a3];by_cases e:u=t
    ·rw[zP (by rw[e]),zP e];rfl
    ·rw[zS (λz=>e (Jn z)),zS e]
  |false=>
   rw[hL]at hf
   have hn2:((zF.take (i+1)).filter λd=>!yD d).length=n+1:=by
    rw[ht,qS,ya,hn,qm (by rw[hL]; rfl)];rfl
   refine⟨_,[some (false,.lst zF),some (true,.dic ks vs),some (false,.int ((n:Nat)+1:Int)),some (false,v)],rfl,.inl ?_,ks,vs,_,a1,by omega,λt=>?_,by rw[hn2]; rfl⟩
   ·unfold QN;simp![hf]
   ·rw[ht,L_ hL,a3])
 rw[xT,Jk]at a3;refine⟨ks,vs,?_,a1,a3⟩;rw[Px];unfold Uw;simp![e]
theorem Sa{zF:List D}(h:∀d∈zF,wU d)(hl:zF.length<=1000):∃ks vs,kH [.lst zF]=some (true,.dic ks vs)/\∀t,getK ks vs (.inr t)=((xi t zF).2).map λn:Nat=>D.int n:=by
 obtain⟨ks,vs,a,_,b⟩:=Sb h hl;exact⟨ks,vs,a,b⟩
def Mw:FE:=(uH (tE (ze Zy (zB (z7 2) zG))) (e2 zL (z7 1) (e2 zL (z7 2) (e1 wn (eC (.int 1))))) (eC .zE))
def TU:FS:=
 (zO (zf 1 (ze kH (zB (z7 0) zG)))
  (um (xn 1 (uJ (ze ud (zB (z7 0) zG))) (zy 2) xA Mw)))
def jt:List D->Option (Bool×D):=FR 1 2 TU
theorem fJ:∀ds r,jt ds=some r->ds.length=1/\zd 2 TU ds=some r:=yM
theorem RO(x0:D):jt [x0]=zd 2 TU [x0]:=rfl
def Uv:FS:=
 (yA (Iz (e2 pB (z7 0) (eC .zE)) (Tj (e2 (xV λi j=>decide (i<=j)) (e1 wn (eC (.int 16))) (z7 0)) (e2 (xV λi j=>decide (i<=j)) (z7 0) (eC (.int 15))))))
def Zz:List D->Option (Bool×D):=FR 1 1 Uv
theorem dt:∀ds r,Zz ds=some r->ds.length=1/\zd 1 Uv ds=some r:=yM
theorem Pw(x0:D):Zz [x0]=zd 1 Uv [x0]:=rfl
def JJ:FE:=(uH (tE (e2 pB (z7 4) (eC .zE))) (eC .zE) (e2 vT (e2 zL (z7 2) (z7 4)) (e2 zL (z7 2) (z7 3))))
def Up:FS:=
 (zO (zf 2 (qB Zu (zB (z7 0) (zB (z7 1) zG))))
  (um (xn 2 (qL (ze jt (zB (z7 0) zG))) (v6 3 4) xA JJ)))
def jk:List D->Option (Bool×D):=FR 2 3 Up
theorem da:∀ds r,jk ds=some r->ds.length=2/\zd 3 Up ds=some r:=yM
theorem Pq(x0 x1:D):jk [x0,x1]=zd 3 Up [x0,x1]:=rfl
def Ms:FE:=(xU (zB (z7 5) (zB (eC (.bl true)) zG)))
def Gc:FA:=(qM (eC (.int 0)) (eL xg (zB (z7 2) zG)))
def Mt:FE:=(z7 5)
def Vb:FT:=(tE (e2 kr (z7 5) (z7 3)))
def Mu:FE:=(z7 5)
def Vc:FT:=(J7 (tE (ze Zz (zB (e2 zL (z7 2) (z7 5)) zG))))
def TC:FS:=
 (zO (zf 2 (ze jk (zB (z7 0) (zB (z7 1) zG))))
  (zO (zf 3 (eL g7 (zB (xn 1 (uJ (z7 1)) (zy 5) xA Ms) zG)))
  (zO (zf 4 (xn 1 Gc (zy 5) Vb Mt))
  (um (xn 1 (uJ (z7 4)) (zy 5) Vc Mu)))))
def py:List D->Option (Bool×D):=FR 2 5 TC
theorem e_:∀ds r,py ds=some r->ds.length=2/\zd 5 TC ds=some r:=yM
theorem RG(x0 x1:D):py [x0,x1]=zd 5 TC [x0,x1]:=rfl
def tgt(r:D):D:=match yj r with
 |true=>pH r
 |false=>.zE
theorem FB{R:D->D->Prop}{g:FG}{e:FE}{σ:y4}(v:D->D)(h:∀r y,R r y->∃σ1,g y σ=some σ1/\e σ1=some (v r)):∀{rs ys:List D},wF R rs ys->xK g xA e σ ys=some (rs.map v)
 |_,_,.nil=>rfl
 |r::rs,y::ys,.cons x xs=>by
  obtain⟨σ1,e1,e2⟩:=h r y x;show(g y σ).bind _=_;rw[e1];show(e σ1).bind _=_;rw[e2];show(xK g xA e σ ys).bind _=_;rw[FB v h xs];rfl
theorem mU{rows zF:List D}(h:∀d∈zF,wU d)(hl:zF.length<=1000)(he:wF (vO zF) rows (zF.filter λd=>!yD d)):jt [.lst zF]=some (true,.lst (rows.map tgt)):=by
 obtain⟨ks,vs,e1,hk⟩:=Sa h hl;have e2:=MM h
 have e3:=FB (g:=zy 2) (e:=Mw) (σ:=[some (false,.lst zF),some (false,.dic ks vs),none]) tgt (λr y hf=>by
  have hj:=Ru hf.1;rw[hf.2.2.2.1]at hj;refine⟨_,rfl,?_⟩;unfold Mw tgt;cases z:yj r with
  |true=>
   rw[z]at hj;obtain⟨t,p,b1,b2,b3⟩:=hf.2.2.2.2 z
   have eg:zL (.dic ks vs) (.str t)=some (.int (p:Int)):=by
    show getK ks vs (.inr t)=_;rw[hk,b2];rfl
   simp![hj,b1,eg,b3]
  |false=>
   rw[z]at hj;simp![hj]) he
 rw[RO];unfold TU;simp![e1,e2,e3]
theorem Ml{m:Int}{r:D}(h:xr m r):(yj r=false/\tgt r=.zE)\/(yj r=true/\∃p:Nat,(p:Int)<=m/\tgt r=.int (p:Int)/\pH r=.int (p:Int)/\zL r (.int (-1))=some (.int (p:Int))):=by
 rcases h with h|h
 ·obtain⟨_,_,_,_,c,_⟩:=pJ h;refine .inl ⟨c,?_⟩;unfold tgt;rw[c]
 ·obtain⟨w,p,_,_,_,c,_,q1,q2,p0,p1⟩:=uh h;have hp:((p.toNat:Nat):Int)=p:=by omega
  refine .inr ⟨c,p.toNat,by omega,?_,by rw[hp,q2],by rw[hp,q1]⟩;unfold tgt;rw[c,hp];exact q2
def dv(f:Nat->Bool)(d:D):D:=match d with
 |.tup [.int i,.int p]=>.int (zh f p.toNat-zh f i.toNat)
 |_=>.zE
theorem YE{f:Nat->Bool}{n p:Nat}(h:p<n):zL (.lst (xI f n)) (.int (p:Int))=some (.int (zh f p)):=by
 refine qY (by omega) ?_;rw[xB];unfold xI;rw[xH,qo h];rfl
def xc(rows:List D)(f:Nat->Bool):List D:=(we (rows.map tgt)).map (dv f)
theorem Ds{rows:List D}{f:Nat->Bool}{i:Nat}(h:i<rows.length):(xc rows f)[i]?=some (dv f (.tup [.int (i:Int),tgt rows[i]])):=by
 unfold xc;rw[xH,gG,xH,yF h];rfl
theorem Dt(rows:List D)(f:Nat->Bool):(xc rows f).length=rows.length:=by
 unfold xc;rw[zr,qN,zr]
theorem Dr{rows zF:List D}(h:∀d∈zF,wU d)(hl:zF.length<=1000)(he:wF (vO zF) rows (zF.filter λd=>!yD d))(hr:∀r∈rows,xr (rows.length:Int) r)(hn:rows.length<=900){z8:List Nat} :
  jk [.lst zF,.lst (za z8)]=some (true,.lst (xc rows (zJ z8))):=by
 have e1:=N8 h (z8:=z8) (Tk he).symm hn;have e2:=mU h hl he
 have e3:xK (v6 3 4) xA JJ [some (false,.lst zF),some (false,.lst (za z8)),some (false,.lst (xI (zJ z8) (rows.length+1))),none,none] (we (rows.map tgt))=some (xc rows (zJ z8)):=by
  refine Z6 (dv (zJ z8)) λd hd=>?_
  obtain⟨i,hi,ed⟩:=X9 hd;have hi':i<rows.length:=by rw[qN,zr]at hi; exact hi
  have hd2:(we (rows.map tgt))[i]?=some d:=by rw[yF hi,ed]
  rw[gG,xH,yF hi']at hd2
  have hd3:d=.tup [.int (i:Int),tgt rows[i]]:=by
   injection hd2 with z
   exact z.symm
  subst hd3;have ai:=YE (f:=zJ z8) (n:=rows.length+1) (p:=i) (by omega);refine⟨_,rfl,?_⟩;rcases Ml (hr _ (vq hi'))with⟨_,z⟩|⟨_,p,p1,z,_⟩
  ·rw[z];unfold JJ;simp![];rfl
  ·rw[z];have ap:=YE (f:=zJ z8) (n:=rows.length+1) (p:=p) (by omega);unfold JJ;simp![ap,ai];rfl
 have e4:∀σ:y4,ze jt (zB (z7 0) zG) σ=some (.lst (rows.map tgt))->qL (ze jt (zB (z7 0) zG)) σ=some (we (rows.map tgt)):=λσ z=>by
  unfold qL;rw[z];rfl
 have e5:=e4 [some (false,.lst zF),some (false,.lst (za z8)),some (false,.lst (xI (zJ z8) (rows.length+1)))] (by simp![e2]);rw[Pq];unfold Up;simp![e1,e5,e3]
def ZA:D->Bool
 |.zE=>true
 |.int x=>decide (-16<=x)&&decide (x<=15)
 |_=>false
theorem AD{f:Nat->Bool}{d:D}:Zz [dv f d]=some (false,.bl (ZA (dv f d))):=by
 have:dv f d=.zE\/∃x,dv f d=.int x:=by
  unfold dv
  split
  ·exact .inr ⟨_,rfl⟩
  ·exact .inl rfl
 rcases this with z|⟨x,z⟩<;>rw[z,Pw]<;>unfold Uv
 ·simp![];rfl
 ·show _=some (false,D.bl (decide (-16<=x)&&decide (x<=15)));cases h1:decide (-16<=x)<;>simp![h1,pS,pR]
def vh(rows:List D)(z8:List Nat)(i:Nat):Bool:=!ZA (dv (zJ z8) (.tup [.int (i:Int),tgt (rows.getD i .zE)]))
def gF(rows:List D)(z8:List Nat):List Nat:=((List.range rows.length).filter λi=>!zJ z8 i).filter (vh rows z8)
theorem FN(l:List Nat):za l=l.map λi:Nat=>D.int i:=rfl
theorem AU{rows zF:List D}(h:∀d∈zF,wU d)(hl:zF.length<=1000)(he:wF (vO zF) rows (zF.filter λd=>!yD d))(hr:∀r∈rows,xr (rows.length:Int) r)(hn:rows.length<=900){z8:List Nat} :
  py [.lst zF,.lst (za z8)]=some (true,.lst (za (gF rows z8))):=by
 have e0:=Dr h hl he hr hn (z8:=z8)
 have e1:xK (zy 5) xA Ms [some (false,.lst zF),some (false,.lst (za z8)),some (false,.lst (xc rows (zJ z8))),none,none,none] (za z8)=some (z8.map λi:Nat=>D.tup [.int i,.bl true]):=by
  have:=Z6 (g:=zy 5) (e:=Ms) (σ:=[some (false,.lst zF),some (false,.lst (za z8)),some (false,.lst (xc rows (zJ z8))),none,none,none]) (λd=>.tup [d,.bl true]) (ds:=za z8) λd hd=>⟨_,rfl,rfl⟩
  rw[this,FN,vc];rfl
 obtain⟨K,V,e2,hK⟩:∃K V,g7 [.lst (z8.map λi:Nat=>D.tup [.int i,.bl true])]=some (.dic K V)/\∀n:Nat,yc K (.inl (n:Int))=zJ z8 n:=by
  refine⟨(y_ [] [] (z8.map λi:Nat=>Sum.inl (i:Int)) (z8.map λ_=>D.bl true)).1,(y_ [] [] (z8.map λi:Nat=>Sum.inl (i:Int)) (z8.map λ_=>D.bl true)).2,?_,λn=>?_⟩
  ·show(qf _).bind _=_;rw[LF];rfl
  ·rw[Q8 (by simp),Ox];rfl
 have e3:Gc [some (false,.lst zF),some (false,.lst (za z8)),some (false,.lst (xc rows (zJ z8))),some (false,.dic K V),none]=some (wN rows.length):=by
  have:=jK (f:=eL xg (zB (z7 2) zG)) (τ:=[some (false,.lst zF),some (false,.lst (za z8)),some (false,.lst (xc rows (zJ z8))),some (false,.dic K V),none]) (n:=((xc rows (zJ z8)).length:Int)) rfl (by rw[Dt]; omega);rw[Dt,xB]at this;exact this
 have e4:xK (zy 5) Vb Mt [some (false,.lst zF),some (false,.lst (za z8)),some (false,.lst (xc rows (zJ z8))),some (false,.dic K V),none,none] (wN rows.length)=some (za ((List.range rows.length).filter λi=>!zJ z8 i)):=by
  have:=gD (g:=zy 5) (c:=Vb) (e:=Mt) (σ:=[some (false,.lst zF),some (false,.lst (za z8)),some (false,.lst (xc rows (zJ z8))),some (false,.dic K V),none,none]) (λd=>match d with|.int i=>!zJ z8 i.toNat|_=>false) id (ds:=wN rows.length) λd hd=>by
   obtain⟨i,hi,rfl⟩:=Mn hd
   have hin:kr (.int (i:Int)) (.dic K V)=some (.bl (!zJ z8 i)):=by
    show(some (yc K (.inl (i:Int)))).bind _=_;rw[hK];rfl
   refine⟨_,rfl,?_,λ_=>rfl⟩;show Vb _=some (!zJ z8 ((i:Int)).toNat);rw[xB];unfold Vb;simp![hin]
  rw[this,gu,Je];rfl
 have e5:xK (zy 5) Vc Mu [some (false,.lst zF),some (false,.lst (za z8)),some (false,.lst (xc rows (zJ z8))),some (false,.dic K V),some (false,.lst (za ((List.range rows.length).filter λi=>!zJ z8 i))),none] (za ((List.range rows.length).filter λi=>!zJ z8 i))=some (za (gF rows z8)):=by
  have:=gD (g:=zy 5) (c:=Vc) (e:=Mu) (σ:=[some (false,.lst zF),some (false,.lst (za z8)),some (false,.lst (xc rows (zJ z8))),some (false,.dic K V),some (false,.lst (za ((List.range rows.length).filter λi=>!zJ z8 i))),none]) (λd=>match d with|.int i=>vh rows z8 i.toNat|_=>false) id (ds:=za ((List.range rows.length).filter λi=>!zJ z8 i)) λd hd=>by
   obtain⟨i,hi,rfl⟩:=xQ.mp hd;have hi':i<rows.length:=vd.mp (vL.mp hi).1;have eg:rows.getD i .zE=rows[i]:=by rw[wP,yF hi']; rfl
   have ex:zL (.lst (xc rows (zJ z8))) (.int (i:Int))=some (dv (zJ z8) (.tup [.int (i:Int),tgt rows[i]])):=qY (by omega) (by rw[xB]; exact Ds hi');have en:=AD (f:=zJ z8) (d:=.tup [.int (i:Int),tgt rows[i]]);refine⟨_,rfl,?_,λ_=>rfl⟩;show Vc _=some (vh rows z8 ((i:Int)).toNat);rw[xB];unfold Vc vh;rw[eg];generalize dv (zJ z8) (.tup [.int (i:Int),tgt rows[i]])=z at ex en;simp![ex,en]
  rw[this,gu,FN,Je];rfl
 rw[RG];unfold TC;generalize za z8=FF at *;generalize xc rows (zJ z8)=DD at *;generalize za ((List.range rows.length).filter λi=>!zJ z8 i)=NN at *;simp![e0,e1,e2,e3,e4,e5]
def uq(l:List Nat):List Nat:=(L2.isort (l.map λi:Nat=>(i:Int))).map Int.toNat
theorem lQ(l:List Nat):za (uq l)=(L2.isort (l.map λi:Nat=>(i:Int))).map D.int:=by
 unfold za uq;rw[vc];refine KZ λx hx=>?_
 obtain⟨i,_,rfl⟩:=xQ.mp ((L2.isort_perm _).mem_iff.mp hx);rfl
theorem VW(l:List Nat):(uq l).Perm l:=by
 have h:=(L2.isort_perm (l.map λi:Nat=>(i:Int))).map Int.toNat;rw[vc]at h
 have e:l.map (Int.toNat∘λi:Nat=>(i:Int))=l:=by
  rw[show(Int.toNat∘λi:Nat=>(i:Int))=id from funext λi=>xB i,gu]
 rw[e]at h;exact h
inductive vg(g:List Nat->List Nat):List Nat->List Nat->Nat->Prop
 |stop {z8:List Nat}:g z8=[]->vg g z8 z8 0
 |go {z8 R:List Nat} {k:Nat}:g z8≠[]->(z8++g z8).length<64->vg g (uq (z8++g z8)) R k->vg g z8 R (k+1)
def qz(n:Nat)(l:List Nat):Prop:=l.Nodup/\∀x∈l,x<n
theorem MH{g:List Nat->List Nat}{n:Nat}(hn:n<64)(hg:∀z8,qz n z8->qz n (z8++g z8)):∀(m:Nat)(z8:List Nat),qz n z8->n-z8.length<=m->∃R k,vg g z8 R k/\k<=m/\qz n R
 |m,z8,gf,hm=>by
  by_cases e:g z8=[]
  ·exact⟨z8,0,.stop e,uu _,gf⟩
  ·have g2:=hg z8 gf;have l2:=Ig n g2.1 g2.2;have l3:0<(g z8).length:=KY.mpr e;rw[ya]at l2;have g3:qz n (uq (z8++g z8)):=⟨(VW _).nodup_iff.mpr g2.1,λx hx=>g2.2 x ((VW _).mem_iff.mp hx)⟩;have l4:(uq (z8++g z8)).length=z8.length+(g z8).length:=by rw[(VW _).length_eq,ya]
   match m,hm with
   |0,hm=>omega
   |m+1,hm=>
    obtain⟨R,k,h,hk,gr⟩:=MH hn hg m (uq (z8++g z8)) g3 (by omega);exact⟨R,k+1,.go e (by rw[ya]; omega) h,by omega,gr⟩
theorem HJ{l:List Nat}(h:l.length<64):Tt [.lst (za l)]=some (.lst (za (uq l))):=by
 have e:za l=(l.map λi:Nat=>(i:Int)).map D.int:=by
  unfold za;rw[vc];rfl
 rw[lQ,e];show(intsOf _).bind _=_;rw[L5];show(if(l.map λi:Nat=>(i:Int)).length<64 then _ else _)=_;rw[zP (by rw[zr]; exact h)]
theorem DH{a b:List Nat}(h:(a++b).length<64):yS (.lst (za a)) (.lst (za b))=some (.lst (za (a++b))):=by
 show(if(za a).length+(za b).length<=yb then _ else _)=_;rw[ya]at h;unfold za;rw[zP (by rw[zr,zr]; show _<=16777216; omega),tR]
theorem FP(l:List Nat):(!(za l).isEmpty)=decide (l≠[]):=by
 cases l<;>rfl
theorem Fj{rows:List D}{z8:List Nat}(h:qz rows.length z8):qz rows.length (z8++gF rows z8):=by
 have mem:∀x∈gF rows z8,x<rows.length/\zJ z8 x=false:=λx hx=>by
  have h1:=vL.mp (vL.mp hx).1;exact⟨vd.mp h1.1,by simpa using h1.2⟩
 refine⟨List.nodup_append.mpr ⟨h.1,(BR.filter _).filter _,λa ha b hb e=>?_⟩,λx hx=>?_⟩
 ·subst e;have h2:=(mem a hb).2;have:zJ z8 a=true:=jU.mpr ⟨.int (a:Int),xQ.mpr ⟨a,ha,rfl⟩,by unfold yW; exact ja _⟩;rw[this]at h2;cases h2
 ·rcases u9.mp hx with hx|hx
  ·exact h.2 x hx
  ·exact(mem x hx).1
theorem QC(z8:List Nat)(n:Nat):pA (.int (n:Int)) (.lst (za z8))=some (zJ z8 n):=by
 have ha:(za z8).all yY=true:=vB.mpr λy hy=>by
  obtain⟨p,_,rfl⟩:=xQ.mp hy;rfl
 show(match yY (.int (n:Int))&&(za z8).all yY with|true=>_|false=>_)=_;rw[ha];rfl
def qA(rows:List D)(z8:List Nat)(i:Nat):Bool:=!zJ z8 i&&vh rows z8 i
theorem DL{rows:List D}{z8:List Nat}{i:Nat}(h:yj (rows.getD i .zE)=false):vh rows z8 i=false:=by
 unfold vh tgt;rw[h];rfl
theorem Pg(rows:List D)(z8:List Nat):gF rows z8=(wX rows).filter (qA rows z8):=by
 unfold gF wX;rw[KJ,KJ];refine List.filter_congr λi _=>?_
 unfold qA;cases h:yj (rows.getD i .zE)with
 |true=>rw[B6,Bool.and_comm]
 |false=>rw[DL h,JV,pR]
def GZ:FA:=(qM (eC (.int 0)) (eL xg (zB (z7 0) zG)))
def LO:FS:=(zO (w8 2 xo (e2 yS (e2 zL (qb 2) (e1 wn (eC (.int 1)))) (eC (.int 1))))
    (yR (tE (e2 xD (z7 3) (z7 1)))
     (Qo 2 (e1 wn (eC (.int 1))) (e2 yS (e2 zL (qb 2) (e1 wn (eC (.int 1)))) (eC (.int 1))))
     ym))
def T6:FS:=
 (zO (vn 2 (xJ (zB (eC (.int 0)) zG)))
  (zO (vm GZ (zy 3)
   LO)
  (qP 2)))
def jp:List D->Option (Bool×D):=FR 2 4 T6
theorem eU:∀ds r,jp ds=some r->ds.length=2/\zd 4 T6 ds=some r:=yM
theorem RA(x0 x1:D):jp [x0,x1]=zd 4 T6 [x0,x1]:=rfl
def LM:FS:=(zO (zf 5 (e2 vT (e2 zL (z7 2) (e2 zL (e2 zL (z7 0) (z7 4)) (e1 wn (eC (.int 1))))) (e2 zL (z7 2) (z7 4))))
    (yR (X0 (tE (e2 kr (z7 4) (z7 1))) (gX (tE (e2 (xV λi j=>decide (i<j)) (z7 5) (e1 wn (eC (.int 16))))) (tE (e2 (xV λi j=>decide (j<i)) (z7 5) (eC (.int 15))))))
     (w8 3 xo (z7 4))
     ym))
def T2:FS:=
 (zO (zf 2 (ze jp (zB (z7 0) (zB (z7 1) zG))))
  (zO (vn 3 (xJ zG))
  (zO (vm (uJ (ze qu (zB (z7 0) zG))) (zy 4)
   LM)
  (qP 3))))
def pp:List D->Option (Bool×D):=FR 2 6 T2
theorem eM:∀ds r,pp ds=some r->ds.length=2/\zd 6 T2 ds=some r:=yM
theorem R6(x0 x1:D):pp [x0,x1]=zd 6 T2 [x0,x1]:=rfl
theorem HQ{rows:List D}{z8:List Nat}(hl:rows.length<=900):jp [.lst rows,.lst (za z8)]=some (true,.lst (xI (zJ z8) (rows.length+1))):=by
 have e3:GZ [some (false,.lst rows),some (false,.lst (za z8)),some (true,.lst [.int 0]),none]=some (wN rows.length):=jK (n:=(rows.length:Int)) rfl (by omega)
 obtain⟨σ',e4,x3,rfl⟩:=tF (g:=zy 3) (b:=LO) (λi σ=>∃x3,σ=[some (false,.lst rows),some (false,.lst (za z8)),some (true,.lst (xI (zJ z8) (i+1))),x3]) (ds:=wN rows.length)
  (σ:=[some (false,.lst rows),some (false,.lst (za z8)),some (true,.lst [.int 0]),none]) 0 ⟨none,rfl⟩ (by
  rintro i v σ hv ⟨x3,rfl⟩;obtain⟨hi,rfl⟩:=ZX hv;rw[xT]at *;have hap:=tz (L:=xI (zJ z8) (i+1)) (r:=.int (zh (zJ z8) i+1)) (by rw[IZ]; omega)
  have hin:xD (.int (i:Int)) (.lst (za z8))=some (.bl (zJ z8 i)):=by
   show(pA _ _).bind _=_;rw[QC];rfl
  have i1:zL (.lst (xI (zJ z8) (i+1))) (.int (-1))=some (.int (zh (zJ z8) i)):=by rw[Uj]; exact DK _ _
  have i2:zL (.lst (xI (zJ z8) (i+1)++[.int (zh (zJ z8) i+1)])) (.int (-1))=some (.int (zh (zJ z8) i+1)):=DK _ _;refine⟨_,[some (false,.lst rows),some (false,.lst (za z8)),some (true,.lst (xI (zJ z8) (i+1+1))),some (false,.int (i:Int))],rfl,.inl ?_,_,rfl⟩;rw[Uj _ (i+1)];show _=some (Fl.nx [_,_,some (true,.lst (_++[.int (zh (zJ z8) i+(if zJ z8 i then 2 else 1))])),_]);unfold LO;cases hf:zJ z8 i
  ·rw[hf]at hin;simp![i1,add_int,hap,hin];rfl
  ·rw[hf]at hin
   have hs:Qo 2 (e1 wn (eC (.int 1))) (e2 yS (e2 zL (qb 2) (e1 wn (eC (.int 1)))) (eC (.int 1))) [some (false,.lst rows),some (false,.lst (za z8)),some (true,.lst (xI (zJ z8) (i+1)++[.int (zh (zJ z8) i+1)])),some (false,.int (i:Int))] =
     some (.nx [some (false,.lst rows),some (false,.lst (za z8)),some (true,.lst (xI (zJ z8) (i+1)++[.int (zh (zJ z8) i+2)])),some (false,.int (i:Int))]):=by
    have hn:L2.ixN (xI (zJ z8) (i+1)++[D.int (zh (zJ z8) i+1)]).length (-1)=some (xI (zJ z8) (i+1)).length:=by
     rw[ya,Vl];unfold L2.ixN;rw[zS (by decide),zP (by omega)]
     congr 1
     omega
    have ht:(xI (zJ z8) (i+1)++[D.int (zh (zJ z8) i+1)]).set (xI (zJ z8) (i+1)).length (.int (zh (zJ z8) i+2))=xI (zJ z8) (i+1)++[.int (zh (zJ z8) i+2)]:=by
     rw[Kc _ _ (zt _),Nat.sub_self];rfl
    have h2:zh (zJ z8) i+1+1=zh (zJ z8) i+2:=by omega
    simp![Qo,i2,add_int,hn,h2,ht]
   simp![i1,add_int,hap,hin,hs];rfl)
 rw[X1,xT]at e4;rw[RA];unfold T6;simp![e3,e4]
theorem AG{rows:List D}(hr:∀r∈rows,xr (rows.length:Int) r)(hn:rows.length<=900){z8:List Nat}:pp [.lst rows,.lst (za z8)]=some (true,.lst (za (gF rows z8))):=by
 have e1:=HQ (rows:=rows) (z8:=z8) hn;have e2:=L9 hr (by omega)
 have jl:(wX rows).length<=900:=by
  have:=KW (λi=>yj (rows.getD i .zE)) (List.range rows.length);rw[vD]at this;exact xj this hn
 obtain⟨σ',e3,x4,x5,rfl⟩:=tF (g:=zy 4) (b:=LM) (λi σ=>∃x4 x5,σ=[some (false,.lst rows),some (false,.lst (za z8)),some (false,.lst (xI (zJ z8) (rows.length+1))),some (true,.lst (za (((wX rows).take i).filter (qA rows z8)))),x4,x5]) (ds:=(wX rows).map λi:Nat=>D.int i)
  (σ:=[some (false,.lst rows),some (false,.lst (za z8)),some (false,.lst (xI (zJ z8) (rows.length+1))),some (true,.lst []),none,none]) 0 ⟨none,none,rfl⟩ (by
  rintro i v σ hv ⟨x4,x5,rfl⟩;rw[xT]at *;rw[xH]at hv;cases hj:(wX rows)[i]? with
  |none=>rw[hj]at hv; cases hv
  |some j=>
  rw[hj]at hv;cases hv;have hi:=(yx.mp hj).1;have ej:=(yx.mp hj).2;have ht:(wX rows).take (i+1)=(wX rows).take i++[j]:=by rw[BX hi,ej]
  obtain⟨jl1,jj⟩:=Xs (qT hj);have eg:rows.getD j .zE=rows[j]:=by rw[wP,yF jl1]; rfl
  rw[eg]at jj;have ex:zL (.lst rows) (.int (j:Int))=some rows[j]:=qY (by omega) (by rw[xB]; exact yF jl1);rcases Ml (hr _ (vq jl1))with⟨z,_⟩|⟨_,p,p1,tp,_,lp⟩
  ·rw[z]at jj; cases jj
  have ap:=YE (f:=zJ z8) (n:=rows.length+1) (p:=p) (by omega);have aj:=YE (f:=zJ z8) (n:=rows.length+1) (p:=j) (by omega)
  have hni:kr (.int (j:Int)) (.lst (za z8))=some (.bl (!zJ z8 j)):=by
   show(pA _ _).bind _=_;rw[QC];rfl
  have ea:vh rows z8 j=(decide (zh (zJ z8) p-zh (zJ z8) j < -16)||decide (15<zh (zJ z8) p-zh (zJ z8) j)):=by
   unfold vh;rw[eg,tp];show(!(decide (-16<=zh (zJ z8) ((p:Int)).toNat-zh (zJ z8) ((j:Int)).toNat)&&decide (zh (zJ z8) ((p:Int)).toNat-zh (zJ z8) ((j:Int)).toNat<=15)))=_;rw[xB,xB,Bool.not_and,<-decide_not,<-decide_not]
   congr 1
   ·exact Jp.mpr (by omega)
   ·exact Jp.mpr (by omega)
  have hap:=tz (L:=za (((wX rows).take i).filter (qA rows z8))) (r:=.int (j:Int)) (by
   unfold za;rw[zr];have h1:=KW (qA rows z8) ((wX rows).take i);rw[jY]at h1;omega)
  have eL:za (((wX rows).take (i+1)).filter (qA rows z8))=match qA rows z8 j with
   |true=>za (((wX rows).take i).filter (qA rows z8))++[.int (j:Int)]
   |false=>za (((wX rows).take i).filter (qA rows z8)):=by
   rw[ht,qS];cases hA:qA rows z8 j with
   |true=>
    rw[qm hA];unfold za;rw[tR];rfl
   |false=>
    rw[jW (by rw[hA]; decide),BL,vC]
  refine⟨_,[some (false,.lst rows),some (false,.lst (za z8)),some (false,.lst (xI (zJ z8) (rows.length+1))),some (true,.lst (za (((wX rows).take (i+1)).filter (qA rows z8)))),some (false,.int (j:Int)),some (false,.int (zh (zJ z8) p-zh (zJ z8) j))],rfl,.inl ?_,_,_,rfl⟩;rw[eL];unfold qA at *;rw[ea];generalize za (List.filter (λi=>!zJ z8 i&&vh rows z8 i) ((wX rows).take i))=LL at *;unfold LM;cases hf:zJ z8 j with
  |true=>
   rw[hf]at hni;simp![ex,lp,ap,aj,hni,pR]
  |false=>
   rw[hf]at hni;cases c1:decide (zh (zJ z8) p-zh (zJ z8) j < -16)with
   |true=>simp![ex,lp,ap,aj,hni,c1,hap,pS,Bool.true_or]
   |false=>
    cases c2:decide (15<zh (zJ z8) p-zh (zJ z8) j)with
    |true=>simp![ex,lp,ap,aj,hni,c1,c2,hap,pS,JW]
    |false=>simp![ex,lp,ap,aj,hni,c1,c2,pS,JW])
 rw[zr,xT,Jk,<-Pg]at e3;rw[R6];unfold T2;simp![e1,e2,e3]
theorem Ui{f g:Nat->Bool}(h:∀n,f n=true->g n=true)(a:Nat):∀k:Nat,0<=zh f (a+k)-zh f a/\zh f (a+k)-zh f a<=zh g (a+k)-zh g a
 |0=>by
  show 0<=zh f a-zh f a/\zh f a-zh f a<=zh g a-zh g a;omega
 |k+1=>by
  have ih:=Ui h a k;have e1:zh f (a+(k+1))=zh f (a+k)+(if f (a+k)then 2 else 1):=rfl;have e2:zh g (a+(k+1))=zh g (a+k)+(if g (a+k)then 2 else 1):=rfl;rw[e1,e2];cases hf:f (a+k)with
  |true=>
   rw[h _ hf];simp only[vv];omega
  |false=>
   cases g (a+k)<;>simp only[vv,jT,uV]<;>omega
theorem AF{f g:Nat->Bool}(h:∀n,f n=true->g n=true){i:Nat}{t:D}(ht:t=.zE\/∃p:Nat,t=.int (p:Int))(hg:ZA (dv g (.tup [.int (i:Int),t]))=true):ZA (dv f (.tup [.int (i:Int),t]))=true:=by
 rcases ht with rfl|⟨p,rfl⟩
 ·rfl
 ·have key:∀f:Nat->Bool,ZA (dv f (.tup [.int (i:Int),.int (p:Int)]))=(decide (-16<=zh f p-zh f i)&&decide (zh f p-zh f i<=15)):=λf=>by
   show(decide (-16<=zh f ((p:Int)).toNat-zh f ((i:Int)).toNat)&&decide (zh f ((p:Int)).toNat-zh f ((i:Int)).toNat<=15))=_;rw[xB,xB]
  rw[key,xL,decide_eq_true_eq,decide_eq_true_eq]at hg ⊢;rcases Nat.le_total i p with l|l
  ·have:=Ui h i (p-i);rw[show i+(p-i)=p by omega]at this;omega
  ·have:=Ui h p (i-p);rw[show p+(i-p)=i by omega]at this;omega
theorem L6{z8:List Nat}{n:Nat}:zJ z8 n=true↔n∈z8:=by
 constructor
 ·intro h;obtain⟨y,hy,e⟩:=jU.mp h;obtain⟨m,hm,rfl⟩:=xQ.mp hy;have:yW (.int (m:Int)) (.int (n:Int))=((m:Int)==(n:Int)):=by unfold yW; rfl
  rw[this,Zi]at e;have:m=n:=by omega
  exact this▸hm
 ·intro h;exact jU.mpr ⟨.int (n:Int),xQ.mpr ⟨n,h,rfl⟩,by unfold yW; exact ja _⟩
theorem Ph{rows:List D}(hr:∀r∈rows,xr (rows.length:Int) r){z8 c:List Nat}(hs:∀x∈z8,x∈c)(hc:gF rows c=[]):∀x∈gF rows z8,x∈c:=λx hx=>by
 have h1:=vL.mp hx;have h2:=vL.mp h1.1;have hlt:=vd.mp h2.1;by_cases hxc:x∈c
 ·exact hxc
 ·exfalso
  have eg:rows.getD x .zE=rows[x]:=by rw[wP,yF hlt]; rfl
  have ht:tgt (rows.getD x .zE)=.zE\/∃p:Nat,tgt (rows.getD x .zE)=.int (p:Int):=by
   rw[eg];rcases Ml (hr _ (vq hlt))with⟨_,z⟩|⟨_,p,_,z,_⟩
   ·exact .inl z
   ·exact .inr ⟨p,z⟩
  have nc:vh rows c x=false:=by
   cases ha:vh rows c x with
   |false=>rfl
   |true=>
    have:x∈gF rows c:=vL.mpr ⟨vL.mpr ⟨h2.1,by
     cases hf:zJ c x with
     |false=>rfl
     |true=>exact absurd (L6.mp hf) hxc⟩,ha⟩
    rw[hc]at this;cases this
  have h3:ZA (dv (zJ c) (.tup [.int (x:Int),tgt (rows.getD x .zE)]))=true:=by
   unfold vh at nc;simpa using nc
  have h4:=AF (f:=zJ z8) (g:=zJ c) (λn hn=>L6.mpr (hs n (L6.mp hn))) ht h3;have h5:=h1.2;unfold vh at h5;rw[h4]at h5;cases h5
theorem Gi{rows:List D}(hr:∀r∈rows,xr (rows.length:Int) r){c:List Nat}(hc:gF rows c=[]):∀{z8 R:List Nat}{k:Nat},vg (gF rows) z8 R k->(∀x∈z8,x∈c)->∀x∈R,x∈c
 |_,_,_,.stop _,h=>h
 |z8,_,_,.go _ _ r,h=>Gi hr hc r λx hx=>by
  rcases u9.mp ((VW _).mem_iff.mp hx)with hx|hx
  ·exact h x hx
  ·exact Ph hr h hc x hx
theorem dQ{g:List Nat->List Nat}:∀{z8 R:List Nat}{k:Nat},vg g z8 R k->g R=[]
 |_,_,_,.stop e=>e
 |_,_,_,.go _ _ r=>dQ r
def LJ:FS:=(zO (zf 1 (eL Tt (zB (e2 yS (z7 1) (z7 2)) zG)))
    (zf 2 (ze py (zB (z7 0) (zB (z7 1) zG)))))
def Td:FT:=(tE (e2 wu (z7 2) (xJ zG)))
def Ur:FS:=
 (zO (zf 1 (xJ zG))
  (zO (zf 2 (ze py (zB (z7 0) (zB (z7 1) zG))))
  (zO (ZP Td
   LJ)
  (yA (z7 1)))))
def Zx:List D->Option (Bool×D):=FR 1 3 Ur
theorem df:∀ds r,Zx ds=some r->ds.length=1/\zd 3 Ur ds=some r:=yM
theorem Ps(x0:D):Zx [x0]=zd 3 Ur [x0]:=rfl
theorem FQ{rows zF:List D}(hf:∀z8,py [.lst zF,.lst (za z8)]=some (true,.lst (za (gF rows z8)))):∀{z8 R:List Nat}{k:Nat},vg (gF rows) z8 R k->
  va Td LJ (k+1) [some (false,.lst zF),some (false,.lst (za z8)),some (false,.lst (za (gF rows z8)))]=some (.nx [some (false,.lst zF),some (false,.lst (za R)),some (false,.lst (za []))])
 |z8,_,_,.stop e=>by
  rw[JH]
  ·rw[e]
  ·have h:=QX (za (gF rows z8));rw[e]at h ⊢;unfold Td;simp![h];rfl
 |z8,_,_,.go e h r=>by
  rw[JI (σ':=[some (false,.lst zF),some (false,.lst (za (uq (z8++gF rows z8)))),some (false,.lst (za (gF rows (uq (z8++gF rows z8)))))]) ?_ ?_]
  ·exact FQ hf r
  ·have h:=QX (za (gF rows z8));rw[FP,ye e]at h;unfold Td;simp![h]
  ·have h1:=DH h;have h2:=HJ h;have h3:=hf (uq (z8++gF rows z8));unfold LJ;simp![h1,h2,h3]
theorem PZ{rows zF:List D}(h:∀d∈zF,wU d)(hl:zF.length<=1000)(he:wF (vO zF) rows (zF.filter λd=>!yD d))(hr:∀r∈rows,xr (rows.length:Int) r)(hn:rows.length<64) :
  ∃R k,vg (gF rows) [] R k/\k<=64/\qz rows.length R/\Zx [.lst zF]=some (false,.lst (za R)):=by
 obtain⟨R,k,hR,hk,gr⟩:=MH hn (λz8=>Fj (rows:=rows)) rows.length [] ⟨Jj,λ_ h=>by cases h⟩ (Nat.sub_le _ _);have hf:∀z8,py [.lst zF,.lst (za z8)]=some (true,.lst (za (gF rows z8))):=λz8=>AU h hl he hr (by omega)
 have e1:=FQ hf hR;have e2:=WH _ e1 (xj (show k+1<=65 by omega) (by decide));have e3:=hf [];have e0:za []=[]:=rfl;rw[e0]at e2 e3;refine⟨R,k,hR,by omega,gr,?_⟩;rw[Ps];unfold Ur;simp![e3,e2]
def DU:FS:=
 (zO (zf 4 (e2 g8 (e2 vT (e2 g8 (eC (.int 1)) (z7 2)) (eC (.int 1))) (z7 1)))
  (yA (e2 (qC Builtin.bitOr) (e2 (qC Builtin.bitAnd) (z7 0) (e1 O5 (z7 4))) (e2 g8 (z7 3) (z7 1)))))
theorem Ew{d:Nat}(h:d<64):1<=(2:Int) ^ d/\(2:Int) ^ d<2 ^ 64:=by
 have h1:(2:Nat) ^ d<2 ^ 64:=Nat.pow_lt_pow_right (by decide) h;have h2:0<(2:Nat) ^ d:=Nat.pow_pos (by decide);have e:((2 ^ d:Nat):Int)=(2:Int) ^ d:=by simp
 have e2:((2 ^ 64:Nat):Int)=(2:Int) ^ 64:=by decide
 omega
def Y9:List D->Option (Bool×D)
 | [.int x,.int l,.int d,.int n]=>if(0<=x/\0<=l/\l<64/\0<=d/\d<64)/\0<=n/\n<2 ^ d.toNat then some (false,.int (x+(n-x/2 ^ l.toNat%2 ^ d.toNat)*2 ^ l.toNat))else none
 |_=>none
theorem fO:∀ds r,Y9 ds=some r->ds.length=4/\zd 5 DU ds=some r:=λds r h=>by
 unfold Y9 at h
 split at h
 ·rename_i x l d n;refine⟨rfl,?_⟩
  split at h
  ·rename_i c;obtain⟨⟨x0,l0,l1,d0,d1⟩,n0,n1⟩:=c;obtain⟨p0,p1⟩:=Ew (d:=d.toNat) (by omega);cases h;have e1:=ZI (i:=1) (j:=d) d0 d1 (by decide) (by decide);have e2:=ZI (i:=1*2 ^ d.toNat-1) (j:=l) l0 l1 (by omega) (by omega);have e3:=ZI (i:=n) (j:=l) l0 l1 n0 (by omega);unfold DU;simp![e1,e2,e3,O5,z01 x0 n0 n1]
  ·cases h
 ·cases h
theorem z03{x l d n:Int}(h:(0<=x/\0<=l/\l<64/\0<=d/\d<64)/\0<=n/\n<2 ^ d.toNat):Y9 [.int x,.int l,.int d,.int n]=some (false,.int (x+(n-x/2 ^ l.toNat%2 ^ d.toNat)*2 ^ l.toNat)):=zP h
def DT:FS:=
 (zO (yR (tE (e2 yE (z7 1) (eC (.str "n"))))
   (yA (xU (zB (eC (.int 0)) (zB (e1 (xN OK ON) (z7 0)) zG))))
   ym)
  (yA (e1 (xN wV wW) (z7 1))))
def wG:List D->Option (Bool×D):=FR 2 2 DT
theorem fC:∀ds r,wG ds=some r->ds.length=2/\zd 2 DT ds=some r:=yM
def TY:FS:=
 (yA (ze Y9 (zB (z7 0) (zB (e2 zL (z7 1) (eC (.int 0))) (zB (e2 zL (z7 1) (eC (.int 1))) (zB (z7 2) zG))))))
def uF:List D->Option (Bool×D):=FR 3 3 TY
theorem fN:∀ds r,uF ds=some r->ds.length=3/\zd 3 TY ds=some r:=yM
theorem RS(x0 x1 x2:D):uF [x0,x1,x2]=zd 3 TY [x0,x1,x2]:=rfl
theorem Mp{x l d n:Int}(h:(0<=x/\0<=l/\l<64/\0<=d/\d<64)/\0<=n/\n<2 ^ d.toNat):uF [.int x,.tup [.int l,.int d],.int n]=some (false,.int (x+(n-x/2 ^ l.toNat%2 ^ d.toNat)*2 ^ l.toNat)):=by
 have i0:zL (.tup [.int l,.int d]) (.int 0)=some (.int l):=rfl;have i1:zL (.tup [.int l,.int d]) (.int 1)=some (.int d):=rfl;rw[RS];unfold TY;simp![i0,i1,z03 h]
def z04:FE:=(z7 1)
def z08:FT:=(tE (e2 wu (z7 1) (eC (.str "name"))))
def DM:FS:=
 (um (xn 1 (uJ (e1 (xN OJ OM) (z7 0))) (zy 1) z08 z04))
def wq:List D->Option (Bool×D):=FR 1 1 DM
theorem di:∀ds r,wq ds=some r->ds.length=1/\zd 1 DM ds=some r:=yM
def Yk:FS:=(zO (zf 5 (uH (tE (e2 yE (z7 3) (eC (.str "mark")))) (e1 (Xi Xn) (z7 4)) (z7 4)))
    (zf 2 (ze uF (zB (z7 2) (zB (ze wG (zB (e2 zL (z7 0) (eC (.int 0))) (zB (z7 3) zG))) (zB (z7 5) zG))))))
def p7:FS:=
 (zO (zf 2 (ze uF (zB (eC (.int 0)) (zB (e1 (xN wV wW) (eC (.str "kind"))) (zB (z7 1) zG)))))
  (zO (vm (jB (qB wq (zB (e2 zL (z7 0) (eC (.int 0))) zG)) (j2 (z7 0) (uM (eC (.int 1))) uL)) (v6 3 4)
   Yk)
  (yA (z7 2))))
def wT:List D->Option (Bool×D):=FR 2 6 p7
theorem dj:∀ds r,wT ds=some r->ds.length=2/\zd 6 p7 ds=some r:=yM
theorem ky(x0 x1:D):wT [x0,x1]=zd 6 p7 [x0,x1]:=rfl
theorem ZJ{c:Int}(h0:0<=c)(h1:c<32):uF [.int 0,.tup [.int 27,.int 5],.int c]=some (false,.int (c*134217728)):=by
 rw[Mp (x:=0) (l:=27) (d:=5) (n:=c) ⟨by decide,h0,h1⟩];simp
theorem put_at{x l d n m:Int}(hl:0<=l/\l<64)(hd:0<=d/\d<64)(x0:0<=x)(n0:0<=n)(n1:n<2 ^ d.toNat)(hz:x/2 ^ l.toNat%2 ^ d.toNat=0)(hm:m=2 ^ l.toNat):uF [.int x,.tup [.int l,.int d],.int n]=some (false,.int (x+n*m)):=by
 rw[Mp ⟨⟨x0,hl.1,hl.2,hd.1,hd.2⟩,n0,n1⟩,hz,hm,Int.sub_zero]
theorem Tu{c:Int}(c0:0<=c)(c1:c<32){w:Str}(hf:wq [.str w]=some (true,.lst [])):wT [.tup [.str w],.int c]=some (false,.int (c*134217728)):=by
 have hk:xN wV wW (.str "kind")=some (.tup [.int 27,.int 5]):=by rfl
 have q1:=ZJ c0 c1;have sl:g9 (.tup [.str w]) (some 1) none=some (.tup []):=by rfl
 rw[ky];unfold p7;simp![hk,q1,vV,hf,jB,j2,uM,uL,sl,qk,Zg]
theorem Pd{w:Str}{c W d n:Int}(hf:wq [.str w]=some (true,.lst [.str "d",.str "n"]))(hd:wG [.str w,.str "d"]=some (false,.tup [.int 24,.int 3]))(hn:wG [.str w,.str "n"]=some (false,.tup [.int 0,.int W]))
  (c0:0<=c)(c1:c<32)(w0:0<=W)(w1:W<=16)(d0:0<=d)(d1:d<8)(n0:0<=n)(n1:n<2 ^ W.toNat)(hp:(2:Int) ^ W.toNat ∣ 16777216) :
  wT [.tup [.str w,.int d,.int n],.int c]=some (false,.int (c*134217728+d*16777216+n)):=by
 have hk:xN wV wW (.str "kind")=some (.tup [.int 27,.int 5]):=by rfl
 have q1:=ZJ c0 c1;have q2:=put_at (x:=c*134217728) (l:=24) (d:=3) (n:=d) (m:=16777216) (by decide) (by decide) (by omega) d0 d1 (by show c*134217728/16777216%8=0; omega) (by decide)
 have q3:=put_at (x:=c*134217728+d*16777216) (l:=0) (d:=W) (n:=n) (m:=1) (by decide) ⟨w0,by omega⟩ (by omega) n0 n1 (by
  show(c*134217728+d*16777216)/1%2 ^ W.toNat=0;rw[Vi];obtain⟨k,hk⟩:=hp;rw[show c*134217728+d*16777216=2 ^ W.toNat*(k*(8*c+d)) by rw[<-Int.mul_assoc,<-hk]; omega];exact KH _ _) (by decide)
 have m1:yE (.str "d") (.str "mark")=some (.bl false):=by rfl
 have m2:yE (.str "n") (.str "mark")=some (.bl false):=by rfl
 have sl:g9 (.tup [.str w,.int d,.int n]) (some 1) none=some (.tup [.int d,.int n]):=by rfl
 rw[ky];unfold p7;simp![hk,q1,vV,hf,jB,j2,uM,uL,sl,qk,gz,Zg,Yk,m1,m2,hd,q2,hn,q3,Jc]
theorem Pe{w:Str}{c d s:Int}(hf:wq [.str w]=some (true,.lst [.str "d",.str "s"]))(hd:wG [.str w,.str "d"]=some (false,.tup [.int 24,.int 3]))(hs:wG [.str w,.str "s"]=some (false,.tup [.int 21,.int 3]))
  (c0:0<=c)(c1:c<32)(d0:0<=d)(d1:d<8)(s0:0<=s)(s1:s<8) :
  wT [.tup [.str w,.int d,.int s],.int c]=some (false,.int (c*134217728+d*16777216+s*2097152)):=by
 have hk:xN wV wW (.str "kind")=some (.tup [.int 27,.int 5]):=by rfl
 have q1:=ZJ c0 c1;have q2:=put_at (x:=c*134217728) (l:=24) (d:=3) (n:=d) (m:=16777216) (by decide) (by decide) (by omega) d0 d1 (by show c*134217728/16777216%8=0; omega) (by decide);have q3:=put_at (x:=c*134217728+d*16777216) (l:=21) (d:=3) (n:=s) (m:=2097152) (by decide) (by decide) (by omega) s0 s1 (by show(c*134217728+d*16777216)/2097152%8=0; omega) (by decide);have m1:yE (.str "d") (.str "mark")=some (.bl false):=by rfl
 have m2:yE (.str "s") (.str "mark")=some (.bl false):=by rfl
 have sl:g9 (.tup [.str w,.int d,.int s]) (some 1) none=some (.tup [.int d,.int s]):=by rfl
 rw[ky];unfold p7;simp![hk,q1,vV,hf,jB,j2,uM,uL,sl,qk,gz,Zg,Yk,m1,m2,hd,q2,hs,q3]
theorem Pf{w:Str}{c d s n:Int}(hf:wq [.str w]=some (true,.lst [.str "d",.str "s",.str "n"]))(hd:wG [.str w,.str "d"]=some (false,.tup [.int 24,.int 3]))(hs:wG [.str w,.str "s"]=some (false,.tup [.int 21,.int 3]))
  (hn:wG [.str w,.str "n"]=some (false,.tup [.int 0,.int 8]))(c0:0<=c)(c1:c<32)(d0:0<=d)(d1:d<8)(s0:0<=s)(s1:s<8)(n0:0<=n)(n1:n<256) :
  wT [.tup [.str w,.int d,.int s,.int n],.int c]=some (false,.int (c*134217728+d*16777216+s*2097152+n)):=by
 have hk:xN wV wW (.str "kind")=some (.tup [.int 27,.int 5]):=by rfl
 have q1:=ZJ c0 c1;have q2:=put_at (x:=c*134217728) (l:=24) (d:=3) (n:=d) (m:=16777216) (by decide) (by decide) (by omega) d0 d1 (by show c*134217728/16777216%8=0; omega) (by decide);have q3:=put_at (x:=c*134217728+d*16777216) (l:=21) (d:=3) (n:=s) (m:=2097152) (by decide) (by decide) (by omega) s0 s1 (by show(c*134217728+d*16777216)/2097152%8=0; omega) (by decide);have q4:=put_at (x:=c*134217728+d*16777216+s*2097152) (l:=0) (d:=8) (n:=n) (m:=1) (by decide) (by decide) (by omega) n0 n1 (by show(c*134217728+d*16777216+s*2097152)/1%256=0; omega) (by decide);have m1:yE (.str "d") (.str "mark")=some (.bl false):=by rfl
 have m2:yE (.str "s") (.str "mark")=some (.bl false):=by rfl
 have m3:yE (.str "n") (.str "mark")=some (.bl false):=by rfl
 have sl:g9 (.tup [.str w,.int d,.int s,.int n]) (some 1) none=some (.tup [.int d,.int s,.int n]):=by rfl
 rw[ky];unfold p7;simp![hk,q1,vV,hf,jB,j2,uM,uL,sl,qk,gz,Zg,Yk,m1,m2,m3,hd,q2,hs,q3,hn,q4,Jc]
theorem Fb{c m:Int}{w k:Str}(hf:wq [.str w]=some (true,.lst [.str "mark"]))(hp:wG [.str w,.str "mark"]=some (false,.tup [.int 24,.int 2]))(hm:Xi Xn (.str k)=some (.int m))(m0:0<=m)(m1:m<3)(c0:0<=c)(c1:c<32):wT [.tup [.str w,.str k],.int c]=some (false,.int (c*134217728+m*16777216)):=by
 have hk:xN wV wW (.str "kind")=some (.tup [.int 27,.int 5]):=by rfl
 have q1:=ZJ c0 c1;have q2:=put_at (x:=c*134217728) (l:=24) (d:=2) (n:=m) (m:=16777216) (by decide) (by decide) (by omega) m0 (by show m<4; omega) (by show c*134217728/16777216%4=0; omega) (by decide);have e1:yE (.str "mark") (.str "mark")=some (.bl true):=by rfl
 have sl:g9 (.tup [.str w,.str k]) (some 1) none=some (.tup [.str k]):=by rfl
 rw[ky];unfold p7;simp![hk,q1,vV,hf,jB,j2,uM,uL,sl,qk,gz,Zg,Yk,e1,hm,hp,q2]
def DS:FS:=
 (zO (zf 0 (xJ (zB (eC (.str "stop")) (zB (eC (.str "set")) (zB (eC (.str "high")) (zB (eC (.str "copy")) (zB (eC (.str "add")) (zB (eC (.str "addc")) (zB (eC (.str "sub")) (zB (eC (.str "subc")) (zB (eC (.str "and")) (zB (eC (.str "or")) (zB (eC (.str "xor")) (zB (eC (.str "test")) zG))))))))))))))
  (yA (e2 yS (z7 0) (xJ (zB (eC (.str "left")) (zB (eC (.str "right")) (zB (eC (.str "load")) (zB (eC (.str "store")) (zB (eC (.str "loadw")) (zB (eC (.str "storew")) zG))))))))))
def XO:List D->Option (Bool×D):=FR 0 1 DS
theorem eO:∀ds r,XO ds=some r->ds.length=0/\zd 1 DS ds=some r:=yM
def kY:FS:=
 (zO (zf 1 (e2 j4 (e2 qD (ze XO zG) (e2 zL (z7 0) (eC (.int 0)))) (e2 j5 (eC (.int 2)) (eC (.int 27)))))
  (zO (yR (tE (e2 yE (e2 zL (z7 0) (eC (.int 0))) (eC (.str "stop"))))
   (yA (z7 1))
   ym)
  (zO (zf 1 (e2 yS (z7 1) (e2 j4 (e2 zL (z7 0) (eC (.int 1))) (e2 j5 (eC (.int 2)) (eC (.int 24))))))
  (zO (yR (tE (e2 xD (e2 zL (z7 0) (eC (.int 0))) (xU (zB (eC (.str "set")) (zB (eC (.str "high")) (zB (eC (.str "left")) (zB (eC (.str "right")) zG)))))))
   (yA (e2 yS (z7 1) (e2 zL (z7 0) (eC (.int 2)))))
   ym)
  (zO (zf 1 (e2 yS (z7 1) (e2 j4 (e2 zL (z7 0) (eC (.int 2))) (e2 j5 (eC (.int 2)) (eC (.int 21))))))
  (zO (yR (tE (e2 yE (eL xg (zB (z7 0) zG)) (eC (.int 4))))
   (zf 1 (e2 yS (z7 1) (e2 zL (z7 0) (eC (.int 3)))))
   ym)
  (yA (z7 1))))))))
def qx:List D->Option (Bool×D):=FR 1 2 kY
theorem eV:∀ds r,qx ds=some r->ds.length=1/\zd 2 kY ds=some r:=yM
theorem Ty(x0:D):qx [x0]=zd 2 kY [x0]:=rfl
abbrev jH:D:=.lst [.str "stop",.str "set",.str "high",.str "copy",.str "add",.str "addc",.str "sub",.str "subc",.str "and",.str "or",.str "xor",.str "test",.str "left",.str "right",.str "load",.str "store",.str "loadw",.str "storew"]
theorem Qg:XO []=some (false,jH):=by rfl
theorem Qj:qO 2 27=true/\qO 2 24=true/\qO 2 21=true/\uj 134217728=true/\uj 16777216=true/\uj 2097152=true:=⟨by decide,by decide,by decide,by decide,by decide,by decide⟩
theorem Sn:qx [.tup [.str "stop"]]=some (false,.int 0):=by
 have hi:qD jH (.str "stop")=some (.int 0):=by rfl
 have hs:yE (.str "stop") (.str "stop")=some (.bl true):=by rfl
 have hO:=Qg;rw[Ty];unfold kY;generalize jH=O at hi hO;simp![hO,vV,hi,Qj,hs]
theorem QT{w:Str}{c d n:Int}(hi:qD jH (.str w)=some (.int c))(hs:yE (.str w) (.str "stop")=some (.bl false))(hin:xD (.str w) (.tup [.str "set",.str "high",.str "left",.str "right"])=some (.bl true)) :
  qx [.tup [.str w,.int d,.int n]]=some (false,.int (c*134217728+d*16777216+n)):=by
 have i1:∀{a b c:D},zL (.tup [a,b,c]) (.int 1)=some b:=rfl;have i2:∀{a b c:D},zL (.tup [a,b,c]) (.int 2)=some c:=rfl;have hO:=Qg;rw[Ty];unfold kY;generalize jH=O at hi hO;simp![hO,vV,i1,i2,hi,Qj,hs,hin,add_int]
theorem jF{w:Str}{c d n:Int}(hi:qD jH (.str w)=some (.int c))(hs:yE (.str w) (.str "stop")=some (.bl false))(hin:xD (.str w) (.tup [.str "set",.str "high",.str "left",.str "right"])=some (.bl false)) :
  qx [.tup [.str w,.int d,.int n]]=some (false,.int (c*134217728+d*16777216+n*2097152)):=by
 have i1:∀{a b c:D},zL (.tup [a,b,c]) (.int 1)=some b:=rfl;have i2:∀{a b c:D},zL (.tup [a,b,c]) (.int 2)=some c:=rfl;have hl:yE (.int ((0+1+1+1:Nat):Int)) (.int 4)=some (.bl false):=by rfl
 have hO:=Qg;rw[Ty];unfold kY;generalize jH=O at hi hO;simp![hO,vV,i1,i2,hi,Qj,hs,hin,add_int,hl]
theorem QU{w:Str}{c d s n:Int}(hi:qD jH (.str w)=some (.int c))(hs:yE (.str w) (.str "stop")=some (.bl false))(hin:xD (.str w) (.tup [.str "set",.str "high",.str "left",.str "right"])=some (.bl false)) :
  qx [.tup [.str w,.int d,.int s,.int n]]=some (false,.int (c*134217728+d*16777216+s*2097152+n)):=by
 have i1:∀{a b c e:D},zL (.tup [a,b,c,e]) (.int 1)=some b:=rfl;have i2:∀{a b c e:D},zL (.tup [a,b,c,e]) (.int 2)=some c:=rfl;have i3:∀{a b c e:D},zL (.tup [a,b,c,e]) (.int 3)=some e:=rfl;have hl:yE (.int ((0+1+1+1+1:Nat):Int)) (.int 4)=some (.bl true):=by rfl
 have hO:=Qg;rw[Ty];unfold kY;generalize jH=O at hi hO;simp![hO,vV,i1,i2,i3,hi,Qj,hs,hin,add_int,hl]
def TH:FS:=
 (yA (e2 (qC Builtin.bitAnd) (e2 O8 (z7 0) (z7 1)) (e2 vT (e2 g8 (eC (.int 1)) (z7 2)) (eC (.int 1)))))
def Y7:List D->Option (Bool×D):=FR 3 3 TH
theorem fB:∀ds r,Y7 ds=some r->ds.length=3/\zd 3 TH ds=some r:=yM
theorem RI(x0 x1 x2:D):Y7 [x0,x1,x2]=zd 3 TH [x0,x1,x2]:=rfl
def TF:FS:=
 (yA (ze Y7 (zB (z7 0) (zB (e2 zL (z7 1) (eC (.int 0))) (zB (e2 zL (z7 1) (eC (.int 1))) zG)))))
def uy:List D->Option (Bool×D):=FR 2 2 TF
theorem fA:∀ds r,uy ds=some r->ds.length=2/\zd 2 TF ds=some r:=yM
theorem RH(x0 x1:D):uy [x0,x1]=zd 2 TF [x0,x1]:=rfl
def Uo:FS:=
 (yA (ze uy (zB (z7 0) (zB (e1 (xN wV wW) (eC (.str "kind"))) zG))))
def tf:List D->Option (Bool×D):=FR 1 1 Uo
theorem dZ:∀ds r,tf ds=some r->ds.length=1/\zd 1 Uo ds=some r:=yM
theorem Pp(x0:D):tf [x0]=zd 1 Uo [x0]:=rfl
def z05:FE:=(z7 2)
def z09:FT:=(tE (e2 yE (e1 (xN qE qd) (z7 2)) (z7 0)))
def z06:FE:=(z7 2)
def z0a:FT:=(tE (e2 yE (e1 (xN qG qI) (z7 2)) (z7 0)))
def z07:FE:=(z7 2)
def z0b:FT:=(tE (e2 yE (e1 (xN qF qH) (z7 2)) (z7 0)))
def DP:FS:=
 (zO (vn 1 (xn 1 (iG qE) (zy 2) z09 z05))
  (zO (ZN 1 (xn 1 (iG qG) (zy 2) z0a z06))
  (zO (ZN 1 (xn 1 (iG qF) (zy 2) z0b z07))
  (zO (ZO 1) (yA (uH (tE (e2 yE (z7 1) (xJ zG))) (eC .zE) (e2 zL (z7 1) (eC (.int 0)))))))))
def kG:List D->Option (Bool×D):=FR 1 2 DP
theorem dy:∀ds r,kG ds=some r->ds.length=1/\zd 2 DP ds=some r:=yM
def DO:FS:=
 (yA (e2 xD (z7 0) (eC (.lst qI))))
def qV:List D->Option (Bool×D):=FR 1 1 DO
theorem dw:∀ds r,qV ds=some r->ds.length=1/\zd 1 DO ds=some r:=yM
def DN:FS:=
 (yA (e2 xD (z7 0) (eC (.lst qH))))
def pf:List D->Option (Bool×D):=FR 1 1 DN
theorem dm:∀ds r,pf ds=some r->ds.length=1/\zd 1 DN ds=some r:=yM
def Xa:FS:=
 (zO (zf 3 (ze uy (zB (z7 0) (zB (ze wG (zB (z7 1) (zB (z7 2) zG))) zG))))
  (zO (yR (tE (e2 wu (z7 2) (eC (.str "mark"))))
   (yA (z7 3))
   ym)
  (yA (uH (tE (e2 (xV λi j=>decide (i<j)) (z7 3) (eL xg (zB (eC gB) zG)))) (e2 zL (eC gB) (z7 3)) (eC .zE)))))
def uE:List D->Option (Bool×D):=FR 3 4 Xa
theorem dk:∀ds r,uE ds=some r->ds.length=3/\zd 4 Xa ds=some r:=yM
theorem Fh(x0 x1 x2:D):uE [x0,x1,x2]=zd 4 Xa [x0,x1,x2]:=rfl
def pQ:FE:=(ze uE (zB (z7 0) (zB (z7 2) (zB (z7 5) zG))))
def TM:FS:=
 (zO (zf 1 (ze tf (zB (z7 0) zG)))
  (zO (zf 2 (ze kG (zB (z7 1) zG)))
  (zO (yR (tE (e2 pB (z7 2) (eC .zE)))
   (yA (eC .zE))
   ym)
  (zO (zf 3 (eL O9 (zB (e2 yS (xJ (zB (z7 2) zG)) (xn 1 (uJ (qB wq (zB (z7 2) zG))) (zy 5) xA pQ)) zG)))
  (zO (yR (tE (e2 xD (eC .zE) (z7 3)))
   (yA (eC .zE))
   ym)
  (zO (zf 4 (uH (tE (ze qV (zB (z7 1) zG))) (ze uF (zB (z7 0) (zB (e1 (xN wV wW) (eC (.str "distance"))) (zB (eC (.int 0)) zG)))) (z7 0)))
  (yA (uH (tE (e2 yE (ze wT (zB (z7 3) (zB (z7 1) zG))) (z7 4))) (z7 3) (eC .zE)))))))))
def uc:List D->Option (Bool×D):=FR 1 5 TM
theorem fE:∀ds r,uc ds=some r->ds.length=1/\zd 5 TM ds=some r:=yM
theorem RK(x0:D):uc [x0]=zd 5 TM [x0]:=rfl
def TQ:FS:=
 (zO (zf 2 (e2 g8 (eC (.int 1)) (z7 1)))
  (yA (uH (tE (e2 (xV λi j=>decide (i<j)) (e2 YN (eC (.int 2)) (z7 0)) (z7 2))) (z7 0) (e2 vT (z7 0) (z7 2)))))
def qy:List D->Option (Bool×D):=FR 2 3 TQ
theorem fG:∀ds r,qy ds=some r->ds.length=2/\zd 3 TQ ds=some r:=yM
theorem RM(x0 x1:D):qy [x0,x1]=zd 3 TQ [x0,x1]:=rfl
def Uq:FS:=
 (zO (yR (tE (e2 (xV λi j=>decide (j<=i)) (e2 yS (z7 1) (eC (.int 1))) (eL xg (zB (z7 0) zG))))
   (yA (eC .zE))
   ym)
  (yA (xU (zB (z7 2) (zB (e2 yS (z7 1) (eC (.int 2))) (zB (e2 yS (z7 1) (ze qy (zB (e2 zL (z7 0) (e2 yS (z7 1) (eC (.int 1)))) (zB (eC (.int 32)) zG)))) zG))))))
def Zw:List D->Option (Bool×D):=FR 3 3 Uq
theorem db:∀ds r,Zw ds=some r->ds.length=3/\zd 3 Uq ds=some r:=yM
theorem Pr(x0 x1 x2:D):Zw [x0,x1,x2]=zd 3 Uq [x0,x1,x2]:=rfl
def kZ:FS:=
 (zO (yR (gX (tE (e2 (xV λi j=>decide (i<j)) (z7 1) (eC (.int 0)))) (tE (e2 (xV λi j=>decide (j<=i)) (z7 1) (eL xg (zB (z7 0) zG)))))
   (yA (eC .zE))
   ym)
  (zO (zf 2 (ze uc (zB (e2 zL (z7 0) (z7 1)) zG)))
  (zO (yR (tE (e2 pB (z7 2) (eC .zE)))
   (yA (eC .zE))
   ym)
  (zO (zf 3 (ze tf (zB (e2 zL (z7 0) (z7 1)) zG)))
  (zO (yR (tE (ze pf (zB (z7 3) zG)))
   (yA (ze Zw (zB (z7 0) (zB (z7 1) (zB (z7 2) zG)))))
   ym)
  (zO (yR (tE (ze qV (zB (z7 3) zG)))
   (zO (zf 4 (e1 (xN wV wW) (eC (.str "distance"))))
    (yA (xU (zB (z7 2) (zB (e2 yS (z7 1) (eC (.int 1))) (zB (e2 yS (z7 1) (ze qy (zB (ze uy (zB (e2 zL (z7 0) (z7 1)) (zB (z7 4) zG))) (zB (e2 zL (z7 4) (eC (.int 1))) zG)))) zG))))))
   ym)
  (yA (xU (zB (z7 2) (zB (e2 yS (z7 1) (eC (.int 1))) (zB (eC .zE) zG)))))))))))
def uz:List D->Option (Bool×D):=FR 2 5 kZ
theorem fK:∀ds r,uz ds=some r->ds.length=2/\zd 5 kZ ds=some r:=yM
theorem Tz(x0 x1:D):uz [x0,x1]=zd 5 kZ [x0,x1]:=rfl
def Xb:FS:=
 (zO (zf 3 (e2 j4 (e2 yS (e2 yS (eC (.int 18)) (e2 qD (xJ (zB (eC (.str "jump")) (zB (eC (.str "when")) (zB (eC (.str "unless")) zG)))) (e2 zL (z7 0) (eC (.int 0))))) (e2 YN (eC (.int 3)) (eL O4 (zB (z7 2) zG)))) (e2 j5 (eC (.int 2)) (eC (.int 27)))))
  (zO (yR (tE (e2 wu (e2 zL (z7 0) (eC (.int 0))) (eC (.str "jump"))))
   (zf 3 (e2 yS (z7 3) (e2 j4 (e2 qD (xJ (zB (eC (.str "carry")) (zB (eC (.str "nought")) (zB (eC (.str "sign")) zG)))) (e2 zL (z7 0) (eC (.int 1)))) (e2 j5 (eC (.int 2)) (eC (.int 24))))))
   ym)
  (zO (yR (tE (z7 2))
   (um (xJ (zB (z7 3) (zB (e2 yk (z7 1) (e2 j5 (eC (.int 2)) (eC (.int 32)))) zG))))
   ym)
  (um (xJ (zB (e2 yS (z7 3) (e2 yk (z7 1) (eC (.int 32)))) zG))))))
def kJ:List D->Option (Bool×D):=FR 3 4 Xb
theorem eF:∀ds r,kJ ds=some r->ds.length=3/\zd 4 Xb ds=some r:=yM
theorem Fi(x0 x1 x2:D):kJ [x0,x1,x2]=zd 4 Xb [x0,x1,x2]:=rfl
theorem QY{x l W:Int}(l0:0<=l)(w0:0<=W)(w1:W<64):uy [.int x,.tup [.int l,.int W]]=some (false,.int (x/2 ^ l.toNat%2 ^ W.toNat)):=by
 have i0:zL (.tup [.int l,.int W]) (.int 0)=some (.int l):=rfl;have i1:zL (.tup [.int l,.int W]) (.int 1)=some (.int W):=rfl;have e1:=ZI (i:=1) (j:=W) w0 w1 (by decide) (by decide)
 have p:Y7 [.int x,.int l,.int W]=some (false,.int (x/2 ^ l.toNat%2 ^ W.toNat)):=by
  rw[RI];unfold TH;simp![e1,ye l0,bJ]
 rw[RH];unfold TF;simp![i0,i1,p]
theorem YI{x:Int}(h0:0<=x)(h1:x<4294967296):tf [.int x]=some (false,.int (x/134217728)):=by
 have hk:xN wV wW (.str "kind")=some (.tup [.int 27,.int 5]):=by rfl
 have n:uy [.int x,.tup [.int 27,.int 5]]=some (false,.int (x/134217728%32)):=QY (by decide) (by decide) (by decide);rw[show x/134217728%32=x/134217728 by omega]at n;rw[Pp];unfold Uo;simp![hk,n]
def pG:List D:=[.str "stop",.str "set",.str "high",.str "copy",.str "add",.str "addc",.str "sub",.str "subc",.str "and",.str "or",.str "xor",.str "test",.str "left",.str "right",.str "load",.str "store",.str "loadw",.str "storew",.str "jump",.str "when",.str "unless",.str "jump",.str "when",.str "unless"]
theorem SV:(List.range 32).map (λc:Nat=>kG [.int (c:Int)])=(List.range 32).map λc=>some (false,pG.getD c .zE):=by kernel_rfl
theorem AE:(List.range 32).map (λc:Nat=>qV [.int (c:Int)])=(List.range 32).map λc=>some (false,.bl (decide (18<=c)&&decide (c<=20))):=by kernel_rfl
theorem PY:(List.range 32).map (λc:Nat=>pf [.int (c:Int)])=(List.range 32).map λc=>some (false,.bl (decide (21<=c)&&decide (c<=23))):=by kernel_rfl
theorem Ln{f g:Nat->Option (Bool×D)}(h:(List.range 32).map f=(List.range 32).map g){n:Nat}(hn:n<32):f n=g n:=by
 have e:=congrArg (λl=>l[n]?) h;simp only[xH,qo hn,Option.map_some]at e;exact vM e
theorem LG{n:Nat}(h:n<32):kG [.int (n:Int)]=some (false,pG.getD n .zE):=Ln SV h
theorem Xy{n:Nat}(h:n<32):qV [.int (n:Int)]=some (false,.bl (decide (18<=n)&&decide (n<=20))):=Ln AE h
theorem OA{n:Nat}(h:n<32):pf [.int (n:Int)]=some (false,.bl (decide (21<=n)&&decide (n<=23))):=Ln PY h
theorem Z0{x l W:Int}{k f:Str}(hp:wG [.str k,.str f]=some (false,.tup [.int l,.int W]))(hm:wu (.str f) (.str "mark")=some (.bl true))(l0:0<=l)(w0:0<=W)(w1:W<64):uE [.int x,.str k,.str f]=some (false,.int (x/2 ^ l.toNat%2 ^ W.toNat)):=by
 have n:=QY (x:=x) l0 w0 w1;rw[Fh];unfold Xa;simp![hp,n,hm]
def CH:List D:=[.str "carry",.str "nought",.str "sign",.zE]
theorem RX{x:Int}{k:Str}(hp:wG [.str k,.str "mark"]=some (false,.tup [.int 24,.int 2])):uE [.int x,.str k,.str "mark"]=some (false,CH.getD (x/16777216%4).toNat .zE):=by
 have n:uy [.int x,.tup [.int 24,.int 2]]=some (false,.int (x/16777216%4)):=QY (by decide) (by decide) (by decide);have hm:wu (.str "mark") (.str "mark")=some (.bl false):=by rfl
 rw[Fh];unfold Xa;rcases(show x/16777216%4=0\/x/16777216%4=1\/x/16777216%4=2\/x/16777216%4=3 by omega)with e|e|e|e<;>rw[e]at n ⊢
 ·have i:zL gB (.int 0)=some (.str "carry"):=rfl;simp only[shx,hp,n,hm,i];rfl
 ·have i:zL gB (.int 1)=some (.str "nought"):=rfl;simp only[shx,hp,n,hm,i];rfl
 ·have i:zL gB (.int 2)=some (.str "sign"):=rfl;simp only[shx,hp,n,hm,i];rfl
 ·simp only[shx,hp,n,hm];rfl
theorem MK{x c Z known:Int}{b:Bool}{k:Str}{fs R:List D}(hc:tf [.int x]=some (false,.int c))(hk:kG [.int c]=some (false,.str k))(hf:wq [.str k]=some (true,.lst fs))
  (hl:xK (zy 5) xA pQ [some (false,.int x),some (false,.int c),some (false,.str k),none,none,none] fs=some R)(hn:xD .zE (.tup (.str k::R))=some (.bl false))(hR:R.length<=3)(hnear:qV [.int c]=some (false,.bl b))
  (hw:b=true->uF [.int x,.tup [.int 0,.int 5],.int 0]=some (false,.int known))(hb:b=false->known=x)(hz:wT [.tup (.str k::R),.int c]=some (false,.int Z)) :
  uc [.int x]=some (false,if Z=known then .tup (.str k::R)else .zE):=by
 have ha:yS (.lst [.str k]) (.lst R)=some (.lst (.str k::R)):=by
  rw[N7 (by simp only[xf,jX]; omega)];rfl
 have ht:O9 [.lst (.str k::R)]=some (.tup (.str k::R)):=rfl;have hd:xN wV wW (.str "distance")=some (.tup [.int 0,.int 5]):=by rfl
 have hq:yE (.int Z) (.int known)=some (.bl (decide (Z=known))):=by
  by_cases e:Z=known
  ·rw[Yh e,ye e]
  ·rw[Yi e,yh e]
 rw[RK];unfold TM;cases b with
 |true=>
  have hw:=hw rfl;by_cases e:Z=known
  ·rw[zP e];rw[ye e]at hq;simp![hc,hk,hf,hl,ha,ht,hn,hnear,hd,hw,hz,hq]
  ·rw[zS e];rw[yh e]at hq;simp![hc,hk,hf,hl,ha,ht,hn,hnear,hd,hw,hz,hq]
 |false=>
  cases hb rfl;by_cases e:Z=x
  ·rw[zP e];rw[ye e]at hq;simp![hc,hk,hf,hl,ha,ht,hn,hnear,hd,hz,hq]
  ·rw[zS e];rw[yh e]at hq;simp![hc,hk,hf,hl,ha,ht,hn,hnear,hd,hz,hq]
theorem HF{n W:Int}(w0:0<=W)(w1:W<64):qy [.int n,.int W]=some (false,.int (if 2*n<2 ^ W.toNat then n else n-2 ^ W.toNat)):=by
 have e1:=ZI (i:=1) (j:=W) w0 w1 (by decide) (by decide);have l2:uj 2=true:=by decide
 rw[RM];unfold TQ;by_cases c:2*n<2 ^ W.toNat
 ·rw[zP c];have c':decide (2*n<1*2 ^ W.toNat)=true:=ye (by omega);simp![e1,l2,c']
 ·rw[zS c];have c':decide (2*n<1*2 ^ W.toNat)=false:=yh (by omega);simp![e1,l2,c',yh c,BE]
theorem o3{ws:List D}{a:Int}(h:a<0\/(ws.length:Int)<=a):uz [.lst ws,.int a]=some (false,.zE):=by
 rw[Tz];unfold kZ;by_cases c:a<0
 ·simp![ye c]
 ·have d:(ws.length:Int)<=a:=by omega
  simp![yh c,ye d]
structure At(ws:List D)(a x:Int):Prop where
 a0:0<=a
 a1:a<(ws.length:Int)
 ix:zL (.lst ws) (.int a)=some (.int x)
 x0:0<=x
 x1:x<4294967296
section
variable{ws:List D}{a x:Int}(A:At ws a x)
include A
theorem At.cond{α:Type}:decide (a<0)=false/\decide ((ws.length:Int)<=a)=false/\decide (0<=a)=true/\decide (a<(ws.length:Int))=true:=by
 obtain⟨a0,a1,_,_,_⟩:=A;exact⟨yh (by omega),yh (by omega),ye a0,ye a1⟩
theorem o6{c:Int}{R:List D}(hc:tf [.int x]=some (false,.int c))(hf:pf [.int c]=some (false,.bl false))(hn:qV [.int c]=some (false,.bl false))(hr:uc [.int x]=some (false,.tup R)) :
  uz [.lst ws,.int a]=some (false,.tup [.tup R,.int (a+1),.zE]):=by
 obtain⟨c1,c2,_,_⟩:=A.cond (α:=Nat);have ix:=A.ix;rw[Tz];unfold kZ;simp![c1,c2,ix,hr,hc,hf,hn,add_int]
theorem o1{c:Int}{R:List D}(hc:tf [.int x]=some (false,.int c))(hf:pf [.int c]=some (false,.bl false))(hn:qV [.int c]=some (false,.bl true))(hr:uc [.int x]=some (false,.tup R)) :
  uz [.lst ws,.int a]=some (false,.tup [.tup R,.int (a+1),.int (a+(if 2*(x%32)<32 then x%32 else x%32-32))]):=by
 obtain⟨c1,c2,_,_⟩:=A.cond (α:=Nat);have ix:=A.ix;have hk:xN wV wW (.str "distance")=some (.tup [.int 0,.int 5]):=by rfl
 have n:uy [.int x,.tup [.int 0,.int 5]]=some (false,.int (x/1%32)):=QY (by decide) (by decide) (by decide);rw[Vi]at n;have s:qy [.int (x%32),.int 5]=some (false,.int (if 2*(x%32)<32 then x%32 else x%32-32)):=HF (by decide) (by decide);have i1:zL (.tup [.int 0,.int 5]) (.int 1)=some (.int 5):=rfl;rw[Tz];unfold kZ;generalize (if 2*(x%32)<32 then x%32 else x%32-32)=S at s ⊢;simp![c1,c2,ix,hr,hc,hf,hn,hk,n,i1,s,add_int]
theorem o0{c:Int}{R:List D}(hc:tf [.int x]=some (false,.int c))(hf:pf [.int c]=some (false,.bl true))(hr:uc [.int x]=some (false,.tup R)){y:Int}(hy:zL (.lst ws) (.int (a+1))=some (.int y))(hl:a+1<(ws.length:Int)) :
  uz [.lst ws,.int a]=some (false,.tup [.tup R,.int (a+2),.int (a+(if 2*y<4294967296 then y else y-4294967296))]):=by
 obtain⟨c1,c2,_,_⟩:=A.cond (α:=Nat);have ix:=A.ix;have s:qy [.int y,.int 32]=some (false,.int (if 2*y<4294967296 then y else y-4294967296)):=HF (by decide) (by decide);have d:decide ((ws.length:Int)<=a+1)=false:=yh (by omega)
 have e:Zw [.lst ws,.int a,.tup R]=some (false,.tup [.tup R,.int (a+2),.int (a+(if 2*y<4294967296 then y else y-4294967296))]):=by
  rw[Pr];unfold Uq;generalize (if 2*y<4294967296 then y else y-4294967296)=S at s ⊢;simp![add_int,d,hy,s]
 rw[Tz];unfold kZ;simp![c1,c2,ix,hr,hc,hf,e]
end
def TV:FS:=
 (zO (zf 2 (e2 g8 (eC (.int 1)) (z7 1)))
  (zO (yR (gX (tE (e2 (xV λi j=>decide (i<j)) (e2 YN (eC (.int 2)) (z7 0)) (e1 wn (z7 2)))) (tE (e2 (xV λi j=>decide (j<=i)) (e2 YN (eC (.int 2)) (z7 0)) (z7 2))))
   (λ_=>none)
   ym)
  (yA (uH (tE (e2 (xV λi j=>decide (j<=i)) (z7 0) (eC (.int 0)))) (z7 0) (e2 yS (z7 0) (z7 2))))))
def ju:List D->Option (Bool×D):=FR 2 3 TV
theorem fL:∀ds r,ju ds=some r->ds.length=2/\zd 3 TV ds=some r:=yM
theorem RP(x0 x1:D):ju [x0,x1]=zd 3 TV [x0,x1]:=rfl
def Ta:FS:=
 (yA (ze wT (zB (z7 0) (zB (e1 (xN qE qd) (e2 zL (z7 0) (eC (.int 0)))) zG))))
def kP:List D->Option (Bool×D):=FR 1 1 Ta
theorem fQ:∀ds r,kP ds=some r->ds.length=1/\zd 1 Ta ds=some r:=yM
theorem RU(x0:D):kP [x0]=zd 1 Ta [x0]:=rfl
def TB:FS:=
 (zO (zf 2 (e1 (xN wV wW) (eC (.str "distance"))))
  (yA (ze uF (zB (ze wT (zB (z7 0) (zB (e1 (xN qG qI) (e2 zL (z7 0) (eC (.int 0)))) zG))) (zB (z7 2) (zB (ze ju (zB (z7 1) (zB (e2 zL (z7 2) (eC (.int 1))) zG))) zG))))))
def kO:List D->Option (Bool×D):=FR 2 3 TB
theorem eh:∀ds r,kO ds=some r->ds.length=2/\zd 3 TB ds=some r:=yM
theorem RF(x0 x1:D):kO [x0,x1]=zd 3 TB [x0,x1]:=rfl
def Us:FS:=
 (um (xJ (zB (ze wT (zB (z7 0) (zB (e1 (xN qF qH) (e2 zL (z7 0) (eC (.int 0)))) zG))) (zB (ze ju (zB (z7 1) (zB (eC (.int 32)) zG))) zG))))
def jn:List D->Option (Bool×D):=FR 2 2 Us
theorem dg:∀ds r,jn ds=some r->ds.length=2/\zd 2 Us ds=some r:=yM
theorem Pt(x0 x1:D):jn [x0,x1]=zd 2 Us [x0,x1]:=rfl
def Xv:FS:=(yR (tE (e2 pB (e2 zL (z7 2) (z7 4)) (eC .zE)))
     (w8 3 xo (ze kP (zB (z7 5) zG)))
     (yR (tE (e2 xD (z7 4) (z7 1)))
       (ZN 3 (qB jn (zB (z7 5) (zB (e2 zL (z7 2) (z7 4)) zG))))
       (w8 3 xo (ze kO (zB (z7 5) (zB (e2 zL (z7 2) (z7 4)) zG))))))
def Tc:FS:=
 (zO (zf 1 (ze Zx (zB (z7 0) zG)))
  (zO (zf 2 (ze jk (zB (z7 0) (zB (z7 1) zG))))
  (zO (vn 3 (xJ zG))
  (zO (vm (qL (ze ud (zB (z7 0) zG))) (v6 4 5)
   Xv)
  (qP 3)))))
def kQ:List D->Option (Bool×D):=FR 1 6 Tc
theorem fR:∀ds r,kQ ds=some r->ds.length=1/\zd 6 Tc ds=some r:=yM
theorem RV(x0:D):kQ [x0]=zd 6 Tc [x0]:=rfl
theorem Hj{d W:Int}(w0:0<=W)(w1:W<64)(h0 : -(2 ^ W.toNat)<=2*d)(h1:2*d<2 ^ W.toNat):ju [.int d,.int W]=some (false,.int (d%2 ^ W.toNat)):=by
 have e1:=ZI (i:=1) (j:=W) w0 w1 (by decide) (by decide);obtain⟨p0,p1⟩:=Ew (d:=W.toNat) (by omega);have l2:uj 2=true:=by decide
 rw[RP];unfold TV;obtain⟨P,hP⟩:∃P:Int,P=2 ^ W.toNat:=⟨_,rfl⟩;rw[<-hP]at h0 h1 p0 p1 ⊢;have c1:decide (2*d < -(1*P))=false:=yh (by omega);have c2:decide (1*P<=2*d)=false:=yh (by omega);cases c3:decide (0<=d)with
 |true=>
  have c3:=v3 c3;have m:d%P=d:=Int.emod_eq_of_lt c3 (by omega);simp![e1,l2,<-hP,c1,c2,ye c3,m]
 |false=>
  have c4:=Km c3
  have m:d%P=d+P:=by
   rw[<-Int.add_emod_right (a:=d) (b:=P)];exact Int.emod_eq_of_lt (by omega) (by omega)
  simp![e1,l2,<-hP,c1,c2,c3,add_int,m];rw[BE]
structure kU(r:D)(v:Int):Prop where
 v0:0<=v
 v1:v<4294967296
 c:∃n:Nat,n<=17/\v/134217728=(n:Int)
 w:kP [r]=some (false,.int v)
 r:uc [.int v]=some (false,r)
theorem Va{k:Str}{n:Nat}{v:Int}{R fs:List D}(v0:0<=v)(v1:v<4294967296)(n17:n<=17)(hv:v/134217728=(n:Int))(hk:pG.getD n .zE=.str k)(hc:xN qE qd (.str k)=some (.int (n:Int)))(hf:wq [.str k]=some (true,.lst fs))
  (hl:xK (zy 5) xA pQ [some (false,.int v),some (false,.int (n:Int)),some (false,.str k),none,none,none] fs=some R)(hn:xD .zE (.tup (.str k::R))=some (.bl false))(hR:R.length<=3)(hz:wT [.tup (.str k::R),.int (n:Int)]=some (false,.int v)):kU (.tup (.str k::R)) v:=by
 refine⟨v0,v1,⟨n,n17,hv⟩,?_,?_⟩
 ·rw[RU];unfold Ta;simp![vV,hc,hz]
 ·have hcc:=YI v0 v1;rw[hv]at hcc;have hkk:=LG (n:=n) (by omega);rw[hk]at hkk;have hnear:=Xy (n:=n) (by omega);rw[yh (show ¬ 18<=n by omega),pR]at hnear;have:=MK hcc hkk hf hl hn hR hnear (λh=>by cases h) (λ_=>rfl) hz;rw[this,zP rfl]
theorem ge{n:Nat}{k:Str}{W P d m:Int}(n17:n<=17)(hk:pG.getD n .zE=.str k)(hc:xN qE qd (.str k)=some (.int (n:Int)))(hf:wq [.str k]=some (true,.lst [.str "d",.str "n"]))(hd:wG [.str k,.str "d"]=some (false,.tup [.int 24,.int 3]))
  (hp:wG [.str k,.str "n"]=some (false,.tup [.int 0,.int W]))(w0:0<=W)(w1:W<=16)(hP:(2:Int) ^ W.toNat=P)(hdv:(2:Int) ^ W.toNat ∣ 16777216)(d0:0<=d)(d1:d<8)(m0:0<=m)(m1:m<P)(hP2:P<=65536)(hx:((n:Int)*134217728+d*16777216+m)%P=m):kU (.tup [.str k,.int d,.int m]) ((n:Int)*134217728+d*16777216+m):=by
 have hfw:=Pd (c:=(n:Int)) (d:=d) (n:=m) hf hd hp (by omega) (by omega) w0 w1 d0 d1 m0 (by rw[hP]; exact m1) hdv;have h1:uE [.int ((n:Int)*134217728+d*16777216+m),.str k,.str "d"]=some (false,.int (((n:Int)*134217728+d*16777216+m)/16777216%8)):=Z0 hd (by rfl) (by decide) (by decide) (by decide);have h2:uE [.int ((n:Int)*134217728+d*16777216+m),.str k,.str "n"]=some (false,.int (((n:Int)*134217728+d*16777216+m)/1%P)):=by rw[<-hP]; exact Z0 hp (by rfl) (by decide) w0 (by omega)
 rw[Vi,hx]at h2;rw[show((n:Int)*134217728+d*16777216+m)/16777216%8=d by omega]at h1;refine Va (by omega) (by omega) n17 (by omega) hk hc hf ?_ rfl (by simp) hfw;generalize (n:Int)*134217728+d*16777216+m=x at *;simp only[xK,zy.eq_1,xA,pQ,shx,h1,h2]
theorem vZ{n:Nat}{k:Str}{d s:Int}(n13:n<=13)(hk:pG.getD n .zE=.str k)(hc:xN qE qd (.str k)=some (.int (n:Int)))(hf:wq [.str k]=some (true,.lst [.str "d",.str "s"]))(hd:wG [.str k,.str "d"]=some (false,.tup [.int 24,.int 3]))
  (hp:wG [.str k,.str "s"]=some (false,.tup [.int 21,.int 3]))(d0:0<=d)(d1:d<8)(s0:0<=s)(s1:s<8):kU (.tup [.str k,.int d,.int s]) ((n:Int)*134217728+d*16777216+s*2097152):=by
 have hfw:=Pe (c:=(n:Int)) (d:=d) (s:=s) hf hd hp (by omega) (by omega) d0 d1 s0 s1;have h1:uE [.int ((n:Int)*134217728+d*16777216+s*2097152),.str k,.str "d"]=some (false,.int (((n:Int)*134217728+d*16777216+s*2097152)/16777216%8)):=Z0 hd (by rfl) (by decide) (by decide) (by decide);have h2:uE [.int ((n:Int)*134217728+d*16777216+s*2097152),.str k,.str "s"]=some (false,.int (((n:Int)*134217728+d*16777216+s*2097152)/2097152%8)):=Z0 hp (by rfl) (by decide) (by decide) (by decide);rw[show((n:Int)*134217728+d*16777216+s*2097152)/16777216%8=d by omega]at h1;rw[show((n:Int)*134217728+d*16777216+s*2097152)/2097152%8=s by omega]at h2;refine Va (by omega) (by omega) (by omega) (by omega) hk hc hf ?_ rfl (by simp) hfw;generalize (n:Int)*134217728+d*16777216+s*2097152=x at *;simp only[xK,zy.eq_1,xA,pQ,shx,h1,h2]
theorem gd{n:Nat}{k:Str}{d s m:Int}(n17:n<=17)(hk:pG.getD n .zE=.str k)(hc:xN qE qd (.str k)=some (.int (n:Int)))(hf:wq [.str k]=some (true,.lst [.str "d",.str "s",.str "n"]))(hd:wG [.str k,.str "d"]=some (false,.tup [.int 24,.int 3]))
  (hp:wG [.str k,.str "s"]=some (false,.tup [.int 21,.int 3]))(hp2:wG [.str k,.str "n"]=some (false,.tup [.int 0,.int 8]))(d0:0<=d)(d1:d<8)(s0:0<=s)(s1:s<8)(m0:0<=m)(m1:m<256):kU (.tup [.str k,.int d,.int s,.int m]) ((n:Int)*134217728+d*16777216+s*2097152+m):=by
 have hfw:=Pf (c:=(n:Int)) (d:=d) (s:=s) (n:=m) hf hd hp hp2 (by omega) (by omega) d0 d1 s0 s1 m0 m1;have h1:uE [.int ((n:Int)*134217728+d*16777216+s*2097152+m),.str k,.str "d"]=some (false,.int (((n:Int)*134217728+d*16777216+s*2097152+m)/16777216%8)):=Z0 hd (by rfl) (by decide) (by decide) (by decide);have h2:uE [.int ((n:Int)*134217728+d*16777216+s*2097152+m),.str k,.str "s"]=some (false,.int (((n:Int)*134217728+d*16777216+s*2097152+m)/2097152%8)):=Z0 hp (by rfl) (by decide) (by decide) (by decide);have h3:uE [.int ((n:Int)*134217728+d*16777216+s*2097152+m),.str k,.str "n"]=some (false,.int (((n:Int)*134217728+d*16777216+s*2097152+m)/1%256)):=Z0 hp2 (by rfl) (by decide) (by decide) (by decide);rw[show((n:Int)*134217728+d*16777216+s*2097152+m)/16777216%8=d by omega]at h1;rw[show((n:Int)*134217728+d*16777216+s*2097152+m)/2097152%8=s by omega]at h2;rw[show((n:Int)*134217728+d*16777216+s*2097152+m)/1%256=m by omega]at h3;refine Va (by omega) (by omega) n17 (by omega) hk hc hf ?_ rfl (by simp) hfw;generalize (n:Int)*134217728+d*16777216+s*2097152+m=x at *;simp only[xK,zy.eq_1,xA,pQ,shx,h1,h2,h3]
theorem cO{r:D}(h:vy r):∃v:Int,kU r v:=by
 cases h with
 |stop=>exact⟨0,Va (n:=0) (fs:=[]) (by decide) (by decide) (by decide) (by decide) rfl rfl rfl rfl rfl (by simp) (Tu (c:=0) (by decide) (by decide) rfl)⟩
 |Zp hw d0 d1 n0 n1=>
  rcases hw with rfl|rfl
  ·exact⟨_,ge (n:=1) (W:=16) (P:=65536) (by decide) rfl rfl rfl rfl rfl (by decide) (by decide) (by decide) (by decide) d0 d1 n0 n1 (by decide) (by omega)⟩
  ·exact⟨_,ge (n:=2) (W:=16) (P:=65536) (by decide) rfl rfl rfl rfl rfl (by decide) (by decide) (by decide) (by decide) d0 d1 n0 n1 (by decide) (by omega)⟩
 |two hw d0 d1 s0 s1=>
  rcases hw with rfl|rfl|rfl|rfl|rfl|rfl|rfl|rfl|rfl
  ·exact⟨_,vZ (n:=3) (by decide) rfl rfl rfl rfl rfl d0 d1 s0 s1⟩
  ·exact⟨_,vZ (n:=4) (by decide) rfl rfl rfl rfl rfl d0 d1 s0 s1⟩
  ·exact⟨_,vZ (n:=5) (by decide) rfl rfl rfl rfl rfl d0 d1 s0 s1⟩
  ·exact⟨_,vZ (n:=6) (by decide) rfl rfl rfl rfl rfl d0 d1 s0 s1⟩
  ·exact⟨_,vZ (n:=7) (by decide) rfl rfl rfl rfl rfl d0 d1 s0 s1⟩
  ·exact⟨_,vZ (n:=8) (by decide) rfl rfl rfl rfl rfl d0 d1 s0 s1⟩
  ·exact⟨_,vZ (n:=9) (by decide) rfl rfl rfl rfl rfl d0 d1 s0 s1⟩
  ·exact⟨_,vZ (n:=10) (by decide) rfl rfl rfl rfl rfl d0 d1 s0 s1⟩
  ·exact⟨_,vZ (n:=11) (by decide) rfl rfl rfl rfl rfl d0 d1 s0 s1⟩
 |Zq hw d0 d1 n0 n1=>
  rcases hw with rfl|rfl
  ·exact⟨_,ge (n:=12) (W:=5) (P:=32) (by decide) rfl rfl rfl rfl rfl (by decide) (by decide) (by decide) (by decide) d0 d1 n0 n1 (by decide) (by omega)⟩
  ·exact⟨_,ge (n:=13) (W:=5) (P:=32) (by decide) rfl rfl rfl rfl rfl (by decide) (by decide) (by decide) (by decide) d0 d1 n0 n1 (by decide) (by omega)⟩
 |mem hw d0 d1 s0 s1 n0 n1=>
  rcases hw with rfl|rfl|rfl|rfl
  ·exact⟨_,gd (n:=14) (by decide) rfl rfl rfl rfl rfl rfl d0 d1 s0 s1 n0 n1⟩
  ·exact⟨_,gd (n:=15) (by decide) rfl rfl rfl rfl rfl rfl d0 d1 s0 s1 n0 n1⟩
  ·exact⟨_,gd (n:=16) (by decide) rfl rfl rfl rfl rfl rfl d0 d1 s0 s1 n0 n1⟩
  ·exact⟨_,gd (n:=17) (by decide) rfl rfl rfl rfl rfl rfl d0 d1 s0 s1 n0 n1⟩
def qZ:D->D
 |.tup xs=>.tup xs.dropLast
 |d=>d
def cJ:D->Int
 |.tup (.str w::_)=>if w = "when" then 1 else if w = "unless" then 2 else 0
 |_=>0
def mJ:D->Int
 |.tup [_,.str k,_]=>if k = "nought" then 1 else if k = "sign" then 2 else 0
 |_=>0
structure Ug(r y:D)(c m:Int):Prop where
 c0:0<=c
 c1:c<3
 m0:0<=m
 m1:m<3
 nw:∀d:Int,-16<=d->d<=15->kO [y,.int d]=some (false,.int ((18+c)*134217728+m*16777216+d%32))
 fw:∀d:Int,-1000<=d->d<=1000->jn [y,.int d]=some (true,.lst [.int ((21+c)*134217728+m*16777216),.int (d%4294967296)])
 nr:∀d:Int,uc [.int ((18+c)*134217728+m*16777216+d%32)]=some (false,qZ r)
 fr:uc [.int ((21+c)*134217728+m*16777216)]=some (false,qZ r)
 hd:∃R,qZ r=.tup R/\R≠[]/\R.length<=2/\R.all yY=true
theorem Fa{c:Int}{t:Str}(c0:0<=c)(c1:c<32):wT [.tup [.str "jump",.str t],.int c]=some (false,.int (c*134217728)):=by
 have hk:xN wV wW (.str "kind")=some (.tup [.int 27,.int 5]):=by rfl
 have hf:wq [.str "jump"]=some (true,.lst []):=by rfl
 have q1:=ZJ c0 c1;have sl:g9 (.tup [.str "jump",.str t]) (some 1) none=some (.tup [.str t]):=by rfl
 rw[ky];unfold p7;simp![hk,q1,vV,hf,jB,j2,uM,uL,sl,qk,Zg]
theorem FZ{c m:Int}{w k t:Str}(hw:w = "when" \/ w = "unless")(hm:Xi Xn (.str k)=some (.int m))(m0:0<=m)(m1:m<3)(c0:0<=c)(c1:c<32):wT [.tup [.str w,.str k,.str t],.int c]=some (false,.int (c*134217728+m*16777216)):=by
 have hk:xN wV wW (.str "kind")=some (.tup [.int 27,.int 5]):=by rfl
 have hf:wq [.str w]=some (true,.lst [.str "mark"]):=by rcases hw with rfl|rfl<;>rfl
 have hp:wG [.str w,.str "mark"]=some (false,.tup [.int 24,.int 2]):=by rcases hw with rfl|rfl<;>rfl
 have q1:=ZJ c0 c1;have q2:=put_at (x:=c*134217728) (l:=24) (d:=2) (n:=m) (m:=16777216) (by decide) (by decide) (by omega) m0 (by show m<4; omega) (by show c*134217728/16777216%4=0; omega) (by decide);have e1:yE (.str "mark") (.str "mark")=some (.bl true):=by rfl
 have sl:g9 (.tup [.str w,.str k,.str t]) (some 1) none=some (.tup [.str k,.str t]):=by rfl
 rw[ky];unfold p7;simp![hk,q1,vV,hf,jB,j2,uM,uL,sl,qk,gz,Zg,Yk,e1,hm,hp,q2]
theorem CN{y:D}{w:Str}{c m d:Int}(y0:zL y (.int 0)=some (.str w))(n0:xN qG qI (.str w)=some (.int (18+c)))(c0:0<=c)(c1:c<3)(m0:0<=m)(m1:m<3)(f:wT [y,.int (18+c)]=some (false,.int ((18+c)*134217728+m*16777216)))(d0 : -16<=d)(d1:d<=15) :
  kO [y,.int d]=some (false,.int ((18+c)*134217728+m*16777216+d%32)):=by
 have hk:xN wV wW (.str "distance")=some (.tup [.int 0,.int 5]):=by rfl
 have i1:zL (.tup [.int 0,.int 5]) (.int 1)=some (.int 5):=rfl;have u:=Hj (d:=d) (W:=5) (by decide) (by decide) (by show(-32:Int)<=_; omega) (by show _<(32:Int); omega);have e32:d%2 ^ (5:Int).toNat=d%32:=rfl;rw[e32]at u;have q:=put_at (x:=(18+c)*134217728+m*16777216) (l:=0) (d:=5) (n:=d%32) (m:=1) (by decide) (by decide) (by omega) (by omega) (by show d%32<32; omega) (by show((18+c)*134217728+m*16777216)/1%32=0; omega) (by decide);rw[RF];unfold TB;generalize (18+c)*134217728+m*16777216=Z at *;simp![hk,i1,y0,n0,f,u,q,Jc]
theorem FU{y:D}{w:Str}{c m d:Int}(y0:zL y (.int 0)=some (.str w))(n0:xN qF qH (.str w)=some (.int (21+c)))(f:wT [y,.int (21+c)]=some (false,.int ((21+c)*134217728+m*16777216)))(d0 : -1000<=d)(d1:d<=1000) :
  jn [y,.int d]=some (true,.lst [.int ((21+c)*134217728+m*16777216),.int (d%4294967296)]):=by
 have u:=Hj (d:=d) (W:=32) (by decide) (by decide) (by show(-4294967296:Int)<=_; omega) (by show _<(4294967296:Int); omega);have e32:d%2 ^ (32:Int).toNat=d%4294967296:=rfl;rw[e32]at u;rw[Pt];unfold Us;simp![y0,n0,f,u]
theorem Cm{x Z:Int}{n:Nat}{k:Str}{fs R:List D}(x0:0<=x)(x1:x<4294967296)(hx:x/134217728=(n:Int))(n0:18<=n)(n1:n<=20)(hk:pG.getD n .zE=.str k)(hf:wq [.str k]=some (true,.lst fs))(hl:xK (zy 5) xA pQ [some (false,.int x),some (false,.int (n:Int)),some (false,.str k),none,none,none] fs=some R)
  (hn:xD .zE (.tup (.str k::R))=some (.bl false))(hR:R.length<=3)(hz:wT [.tup (.str k::R),.int (n:Int)]=some (false,.int Z))(hZ:Z=x+(0-x%32)*1):uc [.int x]=some (false,.tup (.str k::R)):=by
 have hcc:=YI x0 x1;rw[hx]at hcc;have hkk:=LG (n:=n) (by omega);rw[hk]at hkk;have hnear:=Xy (n:=n) (by omega);rw[ye n0,ye n1,pS]at hnear;have hw:uF [.int x,.tup [.int 0,.int 5],.int 0]=some (false,.int (x+(0-x/1%32)*1)):=Mp ⟨⟨x0,by decide,by decide,by decide,by decide⟩,by decide,by decide⟩;rw[Vi]at hw;have:=MK hcc hkk hf hl hn hR hnear (λ_=>hw) (λh=>by cases h) hz;rw[this,zP hZ]
theorem FY{x:Int}{n:Nat}{k:Str}{fs R:List D}(x0:0<=x)(x1:x<4294967296)(hx:x/134217728=(n:Int))(n0:21<=n)(n1:n<=23)(hk:pG.getD n .zE=.str k)(hf:wq [.str k]=some (true,.lst fs))(hl:xK (zy 5) xA pQ [some (false,.int x),some (false,.int (n:Int)),some (false,.str k),none,none,none] fs=some R)
  (hn:xD .zE (.tup (.str k::R))=some (.bl false))(hR:R.length<=3)(hz:wT [.tup (.str k::R),.int (n:Int)]=some (false,.int x)):uc [.int x]=some (false,.tup (.str k::R)):=by
 have hcc:=YI x0 x1;rw[hx]at hcc;have hkk:=LG (n:=n) (by omega);rw[hk]at hkk;have hnear:=Xy (n:=n) (by omega);rw[yh (show ¬ n<=20 by omega),JV]at hnear;have:=MK hcc hkk hf hl hn hR hnear (λh=>by cases h) (λ_=>rfl) hz;rw[this,zP rfl]
theorem SJ{p:Int}{t:Str}:Ug (.tup [.str "jump",.int p]) (.tup [.str "jump",.str t]) 0 0:=by
 refine⟨by decide,by decide,by decide,by decide,λd d0 d1=>?_,λd d0 d1=>?_,λd=>?_,?_,⟨_,rfl,by simp,by simp,rfl⟩⟩
 ·exact CN (w := "jump") (c:=0) (m:=0) rfl rfl (by decide) (by decide) (by decide) (by decide) (Fa (by decide) (by decide)) d0 d1
 ·exact FU (w := "jump") (c:=0) (m:=0) rfl rfl (Fa (by decide) (by decide)) d0 d1
 ·refine Cm (n:=18) (k := "jump") (fs:=[]) (R:=[]) (Z:=18*134217728) (by omega) (by omega) (by omega) (by decide) (by decide) rfl rfl rfl rfl (by simp) (Tu (c:=18) (by decide) (by decide) rfl) (by omega)
 ·exact FY (n:=21) (k := "jump") (fs:=[]) (R:=[]) (by omega) (by omega) (by omega) (by decide) (by decide) rfl rfl rfl rfl (by simp) (Tu (c:=21) (by decide) (by decide) rfl)
theorem Nw{w k:Str}{p:Int}{t:Str}(hw:w = "when" \/ w = "unless")(hk:k = "carry" \/ k = "nought" \/ k = "sign"):Ug (.tup [.str w,.str k,.int p]) (.tup [.str w,.str k,.str t]) (cJ (.tup [.str w,.str k,.int p])) (mJ (.tup [.str w,.str k,.int p])):=by
 obtain⟨c,ec,c0,c1,hn,hfar,kn,kf⟩:∃c:Nat,cJ (.tup [.str w,.str k,.int p])=(c:Int)/\1<=c/\c<=2/\xN qG qI (.str w)=some (.int (18+(c:Int)))/\xN qF qH (.str w)=some (.int (21+(c:Int)))/\pG.getD (18+c) .zE=.str w/\pG.getD (21+c) .zE=.str w:=by
  rcases hw with rfl|rfl
  ·exact⟨1,by rfl,by decide,by decide,by rfl,by rfl,rfl,rfl⟩
  ·exact⟨2,by rfl,by decide,by decide,by rfl,by rfl,rfl,rfl⟩
 obtain⟨m,em,m1,hm,mk⟩:∃m:Nat,mJ (.tup [.str w,.str k,.int p])=(m:Int)/\m<3/\Xi Xn (.str k)=some (.int (m:Int))/\CH.getD m .zE=.str k:=by
  rcases hk with rfl|rfl|rfl
  ·exact⟨0,by rfl,by decide,by rfl,rfl⟩
  ·exact⟨1,by rfl,by decide,by rfl,rfl⟩
  ·exact⟨2,by rfl,by decide,by rfl,rfl⟩
 rw[ec,em];have hf:wq [.str w]=some (true,.lst [.str "mark"]):=by rcases hw with rfl|rfl<;>rfl
 have hp:wG [.str w,.str "mark"]=some (false,.tup [.int 24,.int 2]):=by rcases hw with rfl|rfl<;>rfl
 have held:∀x:Int,x/16777216%4=(m:Int)->uE [.int x,.str w,.str "mark"]=some (false,.str k):=λx hx=>by
  have:=RX (x:=x) hp;rw[hx,xB,mk]at this;exact this
 refine⟨by omega,by omega,by omega,by omega,λd d0 d1=>?_,λd d0 d1=>?_,λd=>?_,?_,⟨_,rfl,by simp,by simp,rfl⟩⟩
 ·exact CN rfl hn (by omega) (by omega) (by omega) (by omega) (FZ hw hm (by omega) (by omega) (by omega) (by omega)) d0 d1
 ·exact FU rfl hfar (FZ hw hm (by omega) (by omega) (by omega) (by omega)) d0 d1
 ·have hh:=held ((18+(c:Int))*134217728+(m:Int)*16777216+d%32) (by omega);refine Cm (n:=18+c) (k:=w) (fs:=[.str "mark"]) (R:=[.str k]) (Z:=((18+c:Nat):Int)*134217728+(m:Int)*16777216) (by omega) (by omega) (by omega) (by omega) (by omega) kn hf ?_ rfl (by simp) (Fb hf hp hm (by omega) (by omega) (by omega) (by omega)) (by omega);generalize (18+(c:Int))*134217728+(m:Int)*16777216+d%32=x at *;simp only[xK,zy.eq_1,xA,pQ,shx,hh]
 ·have hh:=held ((21+(c:Int))*134217728+(m:Int)*16777216) (by omega);have hz:=Fb (c:=((21+c:Nat):Int)) hf hp hm (by omega) (by omega) (by omega) (by omega);rw[show((21+c:Nat):Int)*134217728+(m:Int)*16777216=(21+(c:Int))*134217728+(m:Int)*16777216 by omega]at hz;refine FY (n:=21+c) (k:=w) (fs:=[.str "mark"]) (R:=[.str k]) (by omega) (by omega) (by omega) (by omega) (by omega) kf hf ?_ rfl (by simp) hz;generalize (21+(c:Int))*134217728+(m:Int)*16777216=x at *;simp only[xK,zy.eq_1,xA,pQ,shx,hh]
theorem SC{n:Int}{L:List D}{r y:D}(h:qW n r)(hf:vO L r y):Ug r y (cJ r) (mJ r):=by
 obtain⟨hd,a,t,ex,ey⟩:=hf.2.2.1.2 (by obtain⟨_,_,_,_,_,z,_⟩:=uh h; exact z);cases h with
 |uY p0 p1=>
  match hd,ex,ey with
  | [q],ex,ey=>
   cases ex;subst ey;exact SJ
  | [],ex,_=>cases ex
  |_::_::_,ex,_=>simp at ex
 |cond hw hk p0 p1=>
  match hd,ex,ey with
  | [q,q2],ex,ey=>
   cases ex;subst ey;exact Nw hw hk
  | [],ex,_=>cases ex
  | [_],ex,_=>cases ex
  |_::_::_::_,ex,_=>simp at ex
def vj(qs:List Nat):List D:=qs.map λi:Nat=>D.int i
theorem Fk(n:Nat):∀qs:List Nat,yc (qs.map λi:Nat=>Sum.inl (i:Int)) (.inl (n:Int))=decide (n∈qs)
 | []=>rfl
 |a::qs=>by
  show(decide ((Sum.inl (a:Int):Sum Int Str)=.inl (n:Int))||yc (qs.map λi:Nat=>Sum.inl (i:Int)) (.inl (n:Int)))=_;rw[Fk n qs];by_cases h:a=n
  ·subst h;rw[ye (p:=(Sum.inl (a:Int):Sum Int Str)=.inl (a:Int)) rfl,ye (xP ..)];rfl
  ·rw[yh (p:=(Sum.inl (a:Int):Sum Int Str)=.inl (n:Int)) (λe=>h (by have:=pU e; omega)),JW];refine Jp.mpr ⟨λz=>wZ _ z,λz=>?_⟩;rcases yV.mp z with z|z
   ·exact absurd z.symm h
   ·exact z
def xO:Option Nat->D
 |none=>.zE
 |some p=>.int (p:Int)
theorem LU{g:FG}{e:FE}{σ:y4}(v:Nat->D):∀{ds:List D}(k:Nat),(∀i d,ds[i]?=some d->∃σ1,g d σ=some σ1/\e σ1=some (v (k+i)))->xK g xA e σ ds=some ((List.range' k ds.length).map v)
 | [],_,_=>rfl
 |d::ds,k,h=>by
  obtain⟨σ1,e1,e2⟩:=h 0 d rfl
  have ih:=LU v (ds:=ds) (k+1) λi d' hd=>by
   rw[show k+1+i=k+(i+1) by omega];exact h (i+1) d' (by simpa using hd)
  show(g d σ).bind _=_;rw[e1];show(e σ1).bind _=_;rw[e2];show(xK g xA e σ ds).bind _=_;rw[ih];rfl
theorem AB(T:List Nat):(vj T).length=T.length:=by unfold vj; rw[zr]
def pN(n:Nat)(p:Nat->Bool):List Nat:=(List.range n).filter p
theorem Qh{n:Nat}{p:Nat->Bool}{i:Nat}:i∈pN n p↔i<n/\p i=true:=by
 unfold pN;rw[vL,vd]
theorem Lr:∀(ns acc:List Int),acc.Nodup->(ns.foldl pz acc).Nodup/\∀x,x∈ns.foldl pz acc↔x∈acc\/x∈ns
 | [],acc,h=>⟨h,λx=>⟨.inl,λz=>z.elim id λz=>by cases z⟩⟩
 |n::ns,acc,h=>by
  rw[Zb];by_cases c:(acc.any λm=>decide (m=n))=true
  ·have e:pz acc n=acc:=zP c;rw[e];obtain⟨a,b⟩:=Lr ns acc h;refine⟨a,λx=>(b x).trans ⟨λz=>z.imp id (wZ _),λz=>z.elim .inl λz=>?_⟩⟩;rcases yV.mp z with rfl|z
   ·obtain⟨m,hm,e⟩:=jU.mp c;exact .inl (v3 e▸hm)
   ·exact .inr z
  ·have e:pz acc n=acc++[n]:=zS c;rw[e];have hn:n ∉ acc:=λz=>c (jU.mpr ⟨n,z,ye rfl⟩)
   obtain⟨a,b⟩:=Lr ns (acc++[n]) (List.nodup_append.mpr ⟨h,Vm.mpr ⟨wb,Jj⟩,λx hx y hy z=>hn (by cases w_.mp hy; exact z▸hx)⟩);refine⟨a,λx=>(b x).trans ?_⟩;rw[u9,w_,yV];exact⟨λz=>z.elim (λz=>z.elim .inl λz=>.inr (.inl z)) λz=>.inr (.inr z),λz=>z.elim (λz=>.inl (.inl z)) λz=>z.elim (λz=>.inl (.inr z)) .inr⟩
theorem CG:∀{a b:List Int},a.Pairwise (·<·)->b.Pairwise (·<·)->(∀x,x∈a↔x∈b)->a=b
 | [],[],_,_,_=>rfl
 | [],y::b,_,_,h=>by have:=(h y).mpr xP; cases this
 |x::a,[],_,_,h=>by have:=(h x).mp xP; cases this
 |x::a,y::b,ha,hb,h=>by
  rw[Ze]at ha hb
  have e:x=y:=by
   rcases yV.mp ((h x).mp xP)with z|z
   ·exact z
   ·rcases yV.mp ((h y).mpr xP)with w|w
    ·exact w.symm
    ·have:=hb.1 x z;have:=ha.1 y w;omega
  subst e
  rw[CG ha.2 hb.2 λz=>⟨λhz=>by
   rcases yV.mp ((h z).mp (wZ _ hz))with w|w
   ·have:=ha.1 z hz; omega
   ·exact w,λhz=>by
   rcases yV.mp ((h z).mpr (wZ _ hz))with w|w
   ·have:=hb.1 z hz; omega
   ·exact w⟩]
theorem bI(n:Nat)(p:Nat->Bool):((pN n p).map λi:Nat=>(i:Int)).Pairwise (·<·):=by
 rw[List.pairwise_map];unfold pN;exact List.Pairwise.filter _ (BU.imp λh=>by omega)
theorem lS{n:Nat}{l:List Nat}(hl:l.length<1000){p:Nat->Bool}(hn:(pN n p).length<64)(h:∀i,i∈l↔i<n/\p i=true):Ts [.lst (vj l)]=some (.lst (vj (pN n p))):=by
 have e0:intsOf (vj l)=some (l.map λi:Nat=>(i:Int)):=by
  have:=L5 (l.map λi:Nat=>(i:Int));rw[vc]at this;exact this
 obtain⟨nd,mem⟩:=Lr (l.map λi:Nat=>(i:Int)) [] Jj;have pm:=L2.isort_perm (tJ (l.map λi:Nat=>(i:Int)))
 have s0:(L2.isort (tJ (l.map λi:Nat=>(i:Int)))).Pairwise (·<·):=by
  have n1:(L2.isort (tJ (l.map λi:Nat=>(i:Int)))).Nodup:=pm.nodup_iff.mpr nd;exact(L2.isort_sorted (tJ (l.map λi:Nat=>(i:Int)))).imp₂ (λa b h1 h2=>by have:a≠b:=h2; omega) n1
 have eq:L2.isort (tJ (l.map λi:Nat=>(i:Int)))=(pN n p).map λi:Nat=>(i:Int):=CG s0 (bI n p) λx=>by
  rw[pm.mem_iff,show x∈tJ (l.map λi:Nat=>(i:Int))↔x∈([]:List Int)\/x∈l.map (λi:Nat=>(i:Int))from mem x]
  constructor
  ·rintro(z|z)
   ·cases z
   ·obtain⟨i,hi,rfl⟩:=xQ.mp z;exact xQ.mpr ⟨i,Qh.mpr ((h i).mp hi),rfl⟩
  ·intro z;obtain⟨i,hi,rfl⟩:=xQ.mp z;exact .inr (xQ.mpr ⟨i,(h i).mpr (Qh.mp hi),rfl⟩)
 have len:(tJ (l.map λi:Nat=>(i:Int))).length<64:=by
  rw[<-pm.length_eq,eq,zr];exact hn
 show(intsOf (vj l)).bind _=_;rw[e0];show(if(l.map λi:Nat=>(i:Int)).length<1000/\(tJ (l.map λi:Nat=>(i:Int))).length<64 then some (D.lst ((L2.isort (tJ (l.map λi:Nat=>(i:Int)))).map D.int))else none)=_;rw[zP ⟨by rw[zr]; exact hl,len⟩,eq,vc];rfl
theorem SH{hd:List D}{t u:Str}(h1:hd≠[])(h2:hd.length<=2):Tr (.tup (hd++[.str t])) none (some (-1))=some (.tup hd)/\zL (.tup (hd++[.str t])) (.int (-1))=some (.str t)/\yS (.tup hd) (.tup [.str u])=some (.tup (hd++[.str u])):=by
 match hd,h1,h2 with
 | [a],_,_=>exact⟨rfl,rfl,rfl⟩
 | [a,b],_,_=>exact⟨rfl,rfl,rfl⟩
 | [],h,_=>exact absurd rfl h
 |_::_::_::_,_,h=>simp at h
def Z5:FS:=(zO (zf 1 (e2 yS (e2 zL (eC (.str "abcdefghijklmnopqrstuvwxyz")) (e2 yk (e2 vT (z7 2) (eC (.int 1))) (eL xg (zB (eC (.str "abcdefghijklmnopqrstuvwxyz")) zG)))) (z7 1)))
    (zf 2 (e2 wm (e2 vT (z7 2) (eC (.int 1))) (eL xg (zB (eC (.str "abcdefghijklmnopqrstuvwxyz")) zG)))))
def km:FT:=(tE (e2 (xV λi j=>decide (j<i)) (z7 2) (eC (.int 0))))
def T8:FS:=
 (zO (zf 1 (eC (.str "")))
  (zO (zf 2 (e2 yS (z7 0) (eC (.int 1))))
  (zO (ZP km
   Z5)
  (yA (z7 1)))))
def kN:List D->Option (Bool×D):=FR 1 3 T8
theorem eY:∀ds r,kN ds=some r->ds.length=1/\zd 3 T8 ds=some r:=yM
theorem RD(x0:D):kN [x0]=zd 3 T8 [x0]:=rfl
def nm(n:Nat):Str:=if n<26 then lt (n:Int) ++ "" else lt (((n:Int)-26)/26)++(lt (((n:Int)-26)%26) ++ "")
theorem AV{n left:Int}{acc:Str}(hl:acc.length<=100):Z5 [some (false,.int n),some (false,.str acc),some (false,.int left)]=some (.nx [some (false,.int n),some (false,.str (lt ((left-1)%26)++acc)),some (false,.int ((left-1)/26))]):=by
 have hi:=Uh (k:=(left-1)%26) (by omega) (by omega);have ha:=add_str (a:=lt ((left-1)%26)) (b:=acc) (by rw[Yl]; omega);unfold Z5;simp![N2,hi,ha]
theorem EK{n left:Int}{acc:Str}:km [some (false,.int n),some (false,.str acc),some (false,.int left)]=some (decide (0<left)):=by
 unfold km;simp![]
theorem Lm{n left:Int}{acc:Str}{k:Nat}(h:0<left)(hl:acc.length<=100):va km Z5 (k+1) [some (false,D.int n),some (false,.str acc),some (false,.int left)] =
  va km Z5 k [some (false,.int n),some (false,.str (lt ((left-1)%26)++acc)),some (false,.int ((left-1)/26))]:=JI (EK.trans (by rw[ye h])) (AV hl)
theorem EJ{n left:Int}{acc:Str}{k:Nat}(h:¬ 0<left):va km Z5 (k+1) [some (false,D.int n),some (false,.str acc),some (false,.int left)]=some (.nx [some (false,D.int n),some (false,.str acc),some (false,.int left)]):=
 JH (EK.trans (by rw[yh h]))
theorem AS{n:Nat}(h:n<702):kN [.int (n:Int)]=some (false,.str (nm n)):=by
 have fin:∀{s:Str}{left:Int},ZP km Z5 [some (false,.int (n:Int)),some (false,.str ""),some (false,.int ((n:Int)+1))]=some (.nx [some (false,.int (n:Int)),some (false,.str s),some (false,.int left)])->kN [.int (n:Int)]=some (false,.str s):=λ{s left} h=>by
  rw[RD];unfold T8;simp![add_int,h]
 unfold nm
 split
 ·refine fin (left:=((n:Int)+1-1)/26) (WH 2 ((Lm (by omega) (by decide)).trans ?_));rw[EJ (by omega),show((n:Int)+1-1)%26=n by omega]
 ·refine fin (left:=(((n:Int)+1-1)/26-1)/26) (WH 3 ((Lm (by omega) (by decide)).trans ((Lm (by omega) (by rw[LW,Yl]; decide)).trans ?_)));rw[EJ (by omega),show((n:Int)+1-1)%26=((n:Int)-26)%26 by omega,show(((n:Int)+1-1)/26-1)%26=((n:Int)-26)/26 by omega]
theorem C4(v:Nat->D):∀qs:List Nat,qf (qs.map λi:Nat=>D.tup [.int i,v i])=some (qs.map λi:Nat=>Sum.inl (i:Int),qs.map v)
 | []=>rfl
 |a::qs=>by
  show(qe (.int (a:Int))).bind _=_;show(qf (qs.map λi:Nat=>D.tup [.int i,v i])).bind _=_;rw[C4 v qs];rfl
theorem Fg(v:Nat->D)(n:Nat):∀(qs:List Nat)(as:List (Sum Int Str)) (ds:List D),as.length=ds.length->getK (y_ as ds (qs.map λi:Nat=>Sum.inl (i:Int)) (qs.map v)).1 (y_ as ds (qs.map λi:Nat=>Sum.inl (i:Int)) (qs.map v)).2 (.inl (n:Int))=if n∈qs then some (v n)else getK as ds (.inl (n:Int))
 | [],as,ds,_=>by rw[zS wb]; unfold y_; rfl
 |a::qs,as,ds,h=>by
  show getK (y_ (xt as (.inl (a:Int))) (w6 as ds (.inl (a:Int)) (v a)) (qs.map λi:Nat=>Sum.inl (i:Int)) (qs.map v)).1 (y_ (xt as (.inl (a:Int))) (w6 as ds (.inl (a:Int)) (v a)) (qs.map λi:Nat=>Sum.inl (i:Int)) (qs.map v)).2 (.inl (n:Int))=_;rw[Fg v n qs _ _ (ZK h),OI h];by_cases c:n∈qs
  ·rw[zP c,zP (wZ _ c)]
  ·rw[zS c];by_cases e:a=n
   ·subst e;rw[zP rfl,zP (xP ..)]
   ·rw[zS (λz=>e (by have:=pU z; omega)),zS (λz=>(yV.mp z).elim (λz=>e z.symm) c)]
theorem P8(v:Nat->D)(qs:List Nat):∃K V,g7 [.lst (qs.map λi:Nat=>D.tup [.int i,v i])]=some (.dic K V)/\(∀n:Nat,yc K (.inl (n:Int))=decide (n∈qs))/\∀n∈qs,getK K V (.inl (n:Int))=some (v n):=by
 refine⟨(y_ [] [] (qs.map λi:Nat=>Sum.inl (i:Int)) (qs.map v)).1,(y_ [] [] (qs.map λi:Nat=>Sum.inl (i:Int)) (qs.map v)).2,?_,λn=>?_,λn hn=>?_⟩
 ·show(qf _).bind _=_;rw[C4];rfl
 ·rw[Q8 (by simp),Fk];rfl
 ·rw[Fg v n qs [] [] rfl,zP hn]
def Hz:FE:=(z7 2)
def Mx:FT:=(tE (e2 YO (z7 2) (eC .zE)))
def JN:FE:=(xU (zB (z7 3) (zB (ze kN (zB (z7 2) zG)) zG)))
def T9:FS:=
 (zO (zf 1 (eL Ts (zB (xn 1 (uJ (z7 0)) (zy 2) Mx Hz) zG)))
  (um (eL g7 (zB (xn 2 (qL (z7 1)) (v6 2 3) xA JN) zG))))
def Y6:List D->Option (Bool×D):=FR 1 2 T9
theorem eZ:∀ds r,Y6 ds=some r->ds.length=1/\zd 2 T9 ds=some r:=yM
theorem RE(x0:D):Y6 [x0]=zd 2 T9 [x0]:=rfl
def QO:FS:=(zO (yR (tE (e2 xD (z7 4) (z7 2)))
     (w8 3 xo (xU (zB (eC (.str "label")) (zB (e2 zL (z7 2) (z7 4)) zG))))
     ym)
    (w8 3 xo (uH (tE (e2 pB (e2 zL (z7 1) (z7 4)) (eC .zE))) (z7 5) (e2 yS (z7 5) (xU (zB (e2 zL (z7 2) (e2 zL (z7 1) (z7 4))) zG))))))
def Ux:FS:=
 (zO (zf 2 (ze Y6 (zB (z7 1) zG)))
  (zO (vn 3 (xJ zG))
  (zO (vm (qL (z7 0)) (v6 4 5)
   QO)
  (zO (yR (tE (e2 xD (eL xg (zB (z7 0) zG)) (z7 2)))
   (w8 3 xo (xU (zB (eC (.str "label")) (zB (e2 zL (z7 2) (eL xg (zB (z7 0) zG))) zG))))
   ym)
  (qP 3)))))
def Z_:List D->Option (Bool×D):=FR 2 6 Ux
theorem e7:∀ds r,Z_ ds=some r->ds.length=2/\zd 6 Ux ds=some r:=yM
theorem Py(x0 x1:D):Z_ [x0,x1]=zd 6 Ux [x0,x1]:=rfl
def pP(tgs:List (Option Nat)):List Nat:=tgs.filterMap id
def yL(n:Nat)(tgs:List (Option Nat)):List Nat:=pN (n+1) λi=>decide (i∈pP tgs)
theorem Ly{n:Nat}{tgs:List (Option Nat)}(h:∀p,some p∈tgs->p<=n){p:Nat}:p∈yL n tgs↔some p∈tgs:=by
 unfold yL pP;rw[Qh,Kl,Ji]
 constructor
 ·rintro⟨_,a,ha,e⟩;have e:a=some p:=e;exact e▸ha
 ·exact λz=>⟨Nat.lt_succ_of_le (h p z),some p,z,rfl⟩
def w4(n:Nat)(tgs:List (Option Nat))(p:Nat):Str:=nm ((yL n tgs).idxOf p)
theorem Eo(n:Nat)(tgs:List (Option Nat)):(yL n tgs).Nodup:=by
 unfold yL pN;exact List.Nodup.sublist BM BR
theorem Lu:∀tgs:List (Option Nat),(tgs.map xO).filter (λd=>!gC d)=vj (pP tgs)
 | []=>rfl
 |none::tgs=>by
  rw[xw,jW (by decide),Lu tgs];rfl
 |some p::tgs=>by
  rw[xw,qm (by rfl),Lu tgs];rfl
theorem A9{n:Nat}{tgs:List (Option Nat)}(hn:(yL n tgs).length<=60)(hl:tgs.length<=900)(h:∀p,some p∈tgs->p<=n) :
  ∃K V,Y6 [.lst (tgs.map xO)]=some (true,.dic K V)/\(∀p:Nat,yc K (.inl (p:Int))=decide (p∈yL n tgs))/\∀p∈yL n tgs,getK K V (.inl (p:Int))=some (.str (w4 n tgs p)):=by
 have e1:=gD (g:=zy 2) (c:=Mx) (e:=Hz) (σ:=[some (false,.lst (tgs.map xO)),none,none]) (λd=>!gC d) id (ds:=tgs.map xO) λd hd=>by
  refine⟨_,rfl,?_,λ_=>rfl⟩;unfold Mx;simp![]
 rw[gu,Lu]at e1
 have e2:=lS (n:=n+1) (l:=pP tgs) (by
  have:(pP tgs).length<=tgs.length:=KU _ _;omega) (p:=λi=>decide (i∈pP tgs)) (show(yL n tgs).length<64 by omega) λi=>by
  rw[Kl];refine⟨λz=>⟨?_,z⟩,λz=>z.2⟩;obtain⟨a,ha,e⟩:=Ji.mp z;have e:a=some i:=e;exact Nat.lt_succ_of_le (h i (e▸ha))
 have e2:Ts [.lst (vj (pP tgs))]=some (.lst (vj (yL n tgs))):=e2;obtain⟨K,V,e4,hK,hV⟩:=P8 (λp=>.str (w4 n tgs p)) (yL n tgs)
 have e3:xK (v6 2 3) xA JN [some (false,.lst (tgs.map xO)),some (false,.lst (vj (yL n tgs))),none,none] (we (vj (yL n tgs)))=some ((yL n tgs).map λp:Nat=>D.tup [.int p,.str (w4 n tgs p)]):=by
  have:=LU (g:=v6 2 3) (e:=JN) (σ:=[some (false,.lst (tgs.map xO)),some (false,.lst (vj (yL n tgs))),none,none]) (λi=>match(yL n tgs)[i]? with|some p=>D.tup [.int p,.str (w4 n tgs p)]|none=>.zE) (ds:=we (vj (yL n tgs))) 0 λi d hd=>by
   rw[gG]at hd;unfold vj at hd;rw[xH]at hd;cases hp:(yL n tgs)[i]? with
   |none=>rw[hp]at hd; cases hd
   |some p=>
    rw[hp]at hd;cases hd;have hi:=(yx.mp hp).1
    have ix:(yL n tgs).idxOf p=i:=by
     have e:(yL n tgs)[i]=p:=(yx.mp hp).2;rw[<-e];exact(Eo n tgs).idxOf_getElem i hi
    have nf:=AS (n:=i) (by omega);refine⟨_,rfl,?_⟩;rw[xT,hp];show _=some (D.tup [.int p,.str (nm ((yL n tgs).idxOf p))]);rw[ix];unfold JN;generalize vj (yL n tgs)=PP at *;generalize tgs.map xO=TT at *;simp![nf]
  rw[this,<-K8,qN,AB];refine congrArg some (X7 λi=>?_);rw[xH,xH];by_cases hi:i<(yL n tgs).length
  ·rw[qo hi,yF hi];show some (match(yL n tgs)[i]? with|some p=>D.tup [.int p,.str (w4 n tgs p)]|none=>.zE)=_;rw[yF hi];rfl
  ·rw[uT (by rw[vD]; omega),uT (by omega)];rfl
 refine⟨K,V,?_,hK,hV⟩;rw[RE];unfold T9;generalize (yL n tgs).map (λp:Nat=>D.tup [.int p,.str (w4 n tgs p)])=PR at *;generalize vj (yL n tgs)=PP at *;generalize vj (pP tgs)=NN at *;generalize tgs.map xO=TT at *;simp![e1,e2,qL,e3,e4]
def YF:D->Str->D
 |.tup xs,s=>.tup (xs++[.str s])
 |d,_=>d
def wB(n:Nat)(tgs:List (Option Nat))(p:Nat):List D:=if p∈yL n tgs then[wo (w4 n tgs p)]else[]
def pK(n:Nat)(tgs:List (Option Nat))(r:D):Option Nat->D
 |none=>r
 |some p=>YF r (w4 n tgs p)
def xW(rows:List D)(tgs:List (Option Nat)):Nat->List D
 |0=>[]
 |i+1=>xW rows tgs i++(wB rows.length tgs i++[pK rows.length tgs (rows.getD i .zE) (tgs.getD i none)])
def wI(rows:List D)(tgs:List (Option Nat)):List D:=xW rows tgs rows.length++wB rows.length tgs rows.length
theorem LS(n:Nat)(tgs:List (Option Nat))(p:Nat):(wB n tgs p).length<=1:=by
 unfold wB
 split
 ·exact zt _
 ·exact uu _
theorem Xw(rows:List D)(tgs:List (Option Nat)):∀i,(xW rows tgs i).length<=2*i
 |0=>zt _
 |i+1=>by
  unfold xW;rw[ya,ya,Vl];have:=Xw rows tgs i;have:=LS rows.length tgs i;omega
theorem SZ{rows:List D}{tgs:List (Option Nat)}(hn:rows.length<=400)(hq:(yL rows.length tgs).length<=60)(hl:tgs.length=rows.length)(h:∀p,some p∈tgs->p<=rows.length)(hr:∀i p:Nat,tgs[i]?=some (some p)->∃hd:List D,rows[i]?=some (D.tup hd)/\hd≠[]/\hd.length<=2) :
  Z_ [.lst rows,.lst (tgs.map xO)]=some (true,.lst (wI rows tgs)):=by
 obtain⟨K,V,e1,hK,hV⟩:=A9 hq (by omega) h
 have inK:∀p:Nat,xD (.int (p:Int)) (.dic K V)=some (.bl (decide (p∈yL rows.length tgs))):=λp=>by
  show(some (yc K (.inl (p:Int)))).bind _=_;rw[hK];rfl
 have ixK:∀p∈yL rows.length tgs,zL (.dic K V) (.int (p:Int))=some (.str (w4 rows.length tgs p)):=λp hp=>hV p hp
 have lab:∀(p:Nat)(L:List D)(f:FE)(σ:y4),σ[3]?=some (some (true,.lst L))->σ[2]?=some (some (false,.dic K V))->f σ=some (.int (p:Int))->L.length<=900->(∀L',f (σ.set 3 L')=f σ)->yR (tE (e2 xD f (z7 2))) (w8 3 xo (xU (zB (eC (.str "label")) (zB (e2 zL (z7 2) f) zG)))) ym σ=some (.nx (σ.set 3 (some (true,.lst (L++wB rows.length tgs p))))):=λp L f σ h3 h2 hf hL _=>by
  have i1:=inK p;unfold wB;by_cases c:p∈yL rows.length tgs
  ·rw[zP c];rw[ye c]at i1;have i2:=ixK p c;have ap:=tz (L:=L) (r:=wo (w4 rows.length tgs p)) (by omega);unfold wo at *;simp![hf,h2,i1,i2,h3,ap]
  ·rw[zS c,vC];rw[yh c]at i1
   have e:σ.set 3 (some (true,.lst L))=σ:=by
    refine X7 λj=>?_
    rw[Jf];by_cases z:3=j
    ·subst z;rw[zP rfl,zP (yx.mp h3).1,h3]
    ·rw[zS z]
   rw[e];simp![hf,h2,i1]
 obtain⟨σ',e2,x4,x5,rfl⟩:=tF (g:=v6 4 5) (b:=QO) (λi σ=>∃(x4 x5:Option Sl),σ=[some (false,.lst rows),some (false,.lst (tgs.map xO)),some (false,.dic K V),some (true,.lst (xW rows tgs i)),x4,x5]) (ds:=we rows)
  (σ:=[some (false,.lst rows),some (false,.lst (tgs.map xO)),some (false,.dic K V),some (true,.lst []),none,none]) 0 ⟨none,none,rfl⟩ (by
  rintro i d σ hd ⟨x4,x5,rfl⟩;rw[xT]at *;rw[gG]at hd;cases hx:rows[i]? with
  |none=>rw[hx]at hd; cases hd
  |some r=>
   rw[hx]at hd;cases hd;have hi:=(yx.mp hx).1;have ll:=Xw rows tgs i;have la:=LS rows.length tgs i;have er:rows.getD i .zE=r:=by rw[wP,hx]; rfl
   have ht:tgs[i]?=some tgs[i]:=yF (by omega);have et:tgs.getD i none=tgs[i]:=by rw[wP,ht]; rfl
   have it:zL (.lst (tgs.map xO)) (.int (i:Int))=some (xO tgs[i]):=qY (by omega) (by rw[xB,xH,ht]; rfl);have s1:=lab i (xW rows tgs i) (z7 4) [some (false,.lst rows),some (false,.lst (tgs.map xO)),some (false,.dic K V),some (true,.lst (xW rows tgs i)),some (false,.int (i:Int)),some (false,r)] rfl rfl rfl (by omega) (λ_=>rfl);have ap0:=tz (L:=xW rows tgs i++wB rows.length tgs i) (r:=pK rows.length tgs r tgs[i]) (by rw[ya]; omega);refine⟨_,[some (false,.lst rows),some (false,.lst (tgs.map xO)),some (false,.dic K V),some (true,.lst (xW rows tgs (i+1))),some (false,.int (i:Int)),some (false,r)],rfl,.inl ?_,_,_,rfl⟩;show QO [some (false,.lst rows),some (false,.lst (tgs.map xO)),some (false,.dic K V),some (true,.lst (xW rows tgs i)),some (false,.int (i:Int)),some (false,r)]=some (Fl.nx [some (false,.lst rows),some (false,.lst (tgs.map xO)),some (false,.dic K V),some (true,.lst (xW rows tgs i++(wB rows.length tgs i++[pK rows.length tgs (rows.getD i .zE) (tgs.getD i none)]))),some (false,.int (i:Int)),some (false,r)]);rw[er,et,<-gk];unfold QO;rw[tM s1];show w8 3 xo _ [some (false,.lst rows),some (false,.lst (tgs.map xO)),some (false,.dic K V),some (true,.lst (xW rows tgs i++wB rows.length tgs i)),some (false,.int (i:Int)),some (false,r)]=_;cases hg:tgs[i]with
   |none=>
    rw[hg]at it ap0;have it:zL (.lst (tgs.map xO)) (.int (i:Int))=some .zE:=it;have ap:xo (.lst (xW rows tgs i++wB rows.length tgs i)) r=some (.lst (xW rows tgs i++wB rows.length tgs i++[r])):=ap0;clear ap0;show _=some (Fl.nx [some (false,.lst rows),some (false,.lst (tgs.map xO)),some (false,.dic K V),some (true,.lst (xW rows tgs i++wB rows.length tgs i++[r])),some (false,.int (i:Int)),some (false,r)]);generalize tgs.map xO=TT at *;generalize xW rows tgs i++wB rows.length tgs i=LL at *;simp![it,ap]
   |some p=>
    rw[hg]at it ap0 ht;obtain⟨hd,hx',n1,n2⟩:=hr i p ht;rw[hx]at hx';cases hx';have hp:p∈yL rows.length tgs:=(Ly h).mpr (qT ht);have i2:=ixK p hp;have z:pB (.int (p:Int)) .zE=some (.bl false):=rfl;have it:zL (.lst (tgs.map xO)) (.int (i:Int))=some (.int (p:Int)):=it;have ad:=(SH (t := "") (u:=w4 rows.length tgs p) n1 n2).2.2;have ap:xo (.lst (xW rows tgs i++wB rows.length tgs i)) (.tup (hd++[.str (w4 rows.length tgs p)]))=some (.lst (xW rows tgs i++wB rows.length tgs i++[.tup (hd++[.str (w4 rows.length tgs p)])])):=ap0;clear ap0;show _=some (Fl.nx [some (false,.lst rows),some (false,.lst (tgs.map xO)),some (false,.dic K V),some (true,.lst (xW rows tgs i++wB rows.length tgs i++[.tup (hd++[.str (w4 rows.length tgs p)])])),some (false,.int (i:Int)),some (false,.tup hd)]);generalize w4 rows.length tgs p=u at *;generalize tgs.map xO=TT at *;generalize xW rows tgs i++wB rows.length tgs i=LL at *;generalize D.tup (hd++[.str u])=dd at *;generalize D.tup hd=dh at *;simp![it,z,i2,ad,ap])
 rw[qN,xT]at e2;have ll:=Xw rows tgs rows.length;have s3:=lab rows.length (xW rows tgs rows.length) (eL xg (zB (z7 0) zG)) [some (false,.lst rows),some (false,.lst (tgs.map xO)),some (false,.dic K V),some (true,.lst (xW rows tgs rows.length)),x4,x5] rfl rfl rfl (by omega) (λ_=>rfl);rw[Py];unfold Ux;show((zO _ _ [some (false,.lst rows),some (false,.lst (tgs.map xO)),none,none,none,none]).bind _)=_
 rw[tM (σ':=[some (false,.lst rows),some (false,.lst (tgs.map xO)),some (false,.dic K V),none,none,none]) (by
  generalize tgs.map xO=TT at *;simp![e1])]
 rw[tM (σ':=[some (false,.lst rows),some (false,.lst (tgs.map xO)),some (false,.dic K V),some (true,.lst []),none,none]) (by simp![])]
 rw[tM (σ':=[some (false,.lst rows),some (false,.lst (tgs.map xO)),some (false,.dic K V),some (true,.lst (xW rows tgs rows.length)),x4,x5]) (by
  generalize tgs.map xO=TT at *;simp![qL,e2])]
 rw[tM s3];rfl
def LQ:FS:=(zO (pL 1 (z7 2) (z7 3))
    (zO (zf 2 (e2 zL (z7 3) (eC (.int 1))))
    (zf 3 (ze uz (zB (z7 0) (zB (z7 2) zG))))))
def Tf:FT:=(tE (e2 YO (z7 3) (eC .zE)))
def TW:FS:=
 (zO (vn 1 (eC (.dic [] [])))
  (zO (zf 2 (eC (.int 0)))
  (zO (zf 3 (ze uz (zB (z7 0) (zB (z7 2) zG))))
  (zO (ZP Tf
   LQ)
  (qP 1)))))
def jv:List D->Option (Bool×D):=FR 1 4 TW
theorem fM:∀ds r,jv ds=some r->ds.length=1/\zd 4 TW ds=some r:=yM
theorem RQ(x0:D):jv [x0]=zd 4 TW [x0]:=rfl
def Mr:FE:=(e2 zL (z7 1) (eC (.int 1)))
def Um:FS:=
 (yA (e2 O7 (xn 1 (pF 0) (zy 1) xA Mr) (eC (.int 0))))
def Zv:List D->Option (Bool×D):=FR 1 1 Um
theorem dY:∀ds r,Zv ds=some r->ds.length=1/\zd 1 Um ds=some r:=yM
theorem Po(x0:D):Zv [x0]=zd 1 Um [x0]:=rfl
def LR:FS:=(zO (zf 5 (e2 zL (z7 4) (eC (.int 2))))
    (yR (X0 (tE (e2 YO (z7 5) (eC .zE))) (X0 (tE (e2 wu (z7 5) (z7 2))) (tE (e2 kr (z7 5) (z7 1)))))
     (yA (z7 3))
     ym))
def TZ:FS:=
 (zO (zf 1 (ze jv (zB (z7 0) zG)))
  (zO (zf 2 (ze Zv (zB (z7 1) zG)))
  (zO (yR (tE (e2 wu (z7 2) (eL xg (zB (z7 0) zG))))
   (yA (z7 2))
   ym)
  (zO (vm (Yg 1) (v6 3 4)
   LR)
  (yA (eC .zE))))))
def YA:List D->Option (Bool×D):=FR 1 6 TZ
theorem fP:∀ds r,YA ds=some r->ds.length=1/\zd 6 TZ ds=some r:=yM
theorem RT(x0:D):YA [x0]=zd 6 TZ [x0]:=rfl
def TR:FS:=
 (zO (zf 1 (ze YA (zB (z7 0) zG)))
  (zO (yR (tE (e2 YO (z7 1) (eC .zE)))
   (λ_=>none)
   ym)
  (yA (ze jv (zB (z7 0) zG)))))
def Y8:List D->Option (Bool×D):=FR 1 2 TR
theorem fH:∀ds r,Y8 ds=some r->ds.length=1/\zd 2 TR ds=some r:=yM
theorem RN(x0:D):Y8 [x0]=zd 2 TR [x0]:=rfl
def LP:FS:=(pL 2 (z7 4) (z7 3))
def Mv:FE:=(e2 zL (z7 7) (eC (.int 0)))
def JO:FE:=(uH (tE (e2 pB (e2 zL (z7 7) (eC (.int 2))) (eC .zE))) (eC .zE) (e2 zL (z7 2) (e2 zL (z7 7) (eC (.int 2)))))
def TK:FS:=
 (zO (zf 1 (ze Y8 (zB (z7 0) zG)))
  (zO (vn 2 (Iy (eL xg (zB (z7 0) zG)) (eL O6 (zB (z7 1) zG))))
  (zO (vm (Yf 1) (v6 3 4)
   LP)
  (zO (ZO 2) (zO (zf 5 (xn 1 (pF 1) (zy 7) xA Mv))
  (zO (zf 6 (xn 1 (pF 1) (zy 7) xA JO))
  (um (qB Z_ (zB (z7 5) (zB (z7 6) zG))))))))))
def jq:List D->Option (Bool×D):=FR 1 7 TK
theorem fD:∀ds r,jq ds=some r->ds.length=1/\zd 7 TK ds=some r:=yM
theorem RJ(x0:D):jq [x0]=zd 7 TK [x0]:=rfl
def tA(A:Nat->Int):Option Nat->D
 |none=>.zE
 |some p=>.int (A p)
structure Tb(ws:List D)(n:Nat)(A:Nat->Int)(b:Nat->D)(tg:Nat->Option Nat):Prop where
 up:∀i,i<n->A i<A (i+1)
 z:A 0=0
 e:A n=(ws.length:Int)
 told:∀i,i<n->uz [.lst ws,.int (A i)]=some (false,.tup [b i,.int (A (i+1)),tA A (tg i)])
 fin:uz [.lst ws,.int (A n)]=some (false,.zE)
 le:∀i p,i<n->tg i=some p->p<=n
 IB:n<=400
def vK(A:Nat->Int)(b:Nat->D)(tg:Nat->Option Nat)(i:Nat):D:=.tup [b i,.int (A (i+1)),tA A (tg i)]
def y3(A:Nat->Int)(n:Nat):List (Sum Int Str):=(List.range n).map λi=>.inl (A i)
def yJ(A:Nat->Int)(b:Nat->D)(tg:Nat->Option Nat)(n:Nat):List D:=(List.range n).map (vK A b tg)
theorem G9{ks:List (Sum Int Str)}{vs:List D}{k:Sum Int Str}{v:D}(h:yc ks k=false):xt ks k=ks++[k]/\w6 ks vs k v=vs++[v]:=by
 unfold xt w6;rw[h];exact⟨rfl,rfl⟩
theorem C6(A:Nat->Int)(n:Nat):y3 A (n+1)=y3 A n++[.inl (A n)]:=by
 unfold y3;rw[Zf,tR];rfl
theorem rS(A:Nat->Int)(b:Nat->D)(tg:Nat->Option Nat)(n:Nat):yJ A b tg (n+1)=yJ A b tg n++[vK A b tg n]:=by
 unfold yJ;rw[Zf,tR];rfl
theorem Xt(A:Nat->Int)(n:Nat):(y3 A n).length=n:=by
 unfold y3;rw[zr,vD]
theorem C5{A:Nat->Int}{n:Nat}{x:Int}:yc (y3 A n) (.inl x)=true↔∃i,i<n/\A i=x:=by
 unfold yc y3;rw[jU]
 constructor
 ·rintro⟨k,hk,e⟩;obtain⟨i,hi,rfl⟩:=xQ.mp hk;exact⟨i,vd.mp hi,pU (v3 e)⟩
 ·rintro⟨i,hi,rfl⟩;exact⟨_,xQ.mpr ⟨i,vd.mpr hi,rfl⟩,ye rfl⟩
section
variable{ws:List D}{n:Nat}{A:Nat->Int}{b:Nat->D}{tg:Nat->Option Nat}(T:Tb ws n A b tg)
include T
theorem Tb.lt{i j:Nat}(h:i<j)(hj:j<=n):A i<A j:=by
 induction j with
 |zero=>omega
 |succ j ih=>
  have u:=T.up j (by omega);by_cases e:i=j
  ·rw[e]; exact u
  ·have:=ih (by omega) (by omega);omega
theorem Tb.inj{i j:Nat}(hi:i<=n)(hj:j<=n)(e:A i=A j):i=j:=by
 rcases Nat.lt_trichotomy i j with h|h|h
 ·have:=T.lt h hj; omega
 ·exact h
 ·have:=T.lt h hi; omega
theorem Tb.new{i:Nat}(hi:i<=n):yc (y3 A i) (.inl (A i))=false:=by
 cases c:yc (y3 A i) (.inl (A i))with
 |false=>rfl
 |true=>
  obtain⟨j,hj,e⟩:=C5.mp c;have:=T.inj (by omega) hi e;omega
def gY(n:Nat)(A:Nat->Int)(b:Nat->D)(tg:Nat->Option Nat)(i:Nat):D:=if i<n then vK A b tg i else .zE
theorem Tb.tell{i:Nat}(hi:i<=n):uz [.lst ws,.int (A i)]=some (false,gY n A b tg i):=by
 unfold gY;by_cases h:i<n
 ·rw[zP h];exact T.told i h
 ·have e:i=n:=by omega
  rw[zS h,e];exact T.fin
theorem Hu:∀(k i:Nat),i+k=n->va Tf LQ (k+1) [some (false,.lst ws),some (true,.dic (y3 A i) (yJ A b tg i)),some (false,.int (A i)),some (false,gY n A b tg i)]=some (.nx [some (false,.lst ws),some (true,.dic (y3 A n) (yJ A b tg n)),some (false,.int (A n)),some (false,.zE)])
 |0,i,h=>by
  have e:i=n:=by omega
  subst e;have ht:gY i A b tg i=.zE:=zS (wQ _);rw[ht];refine JH ?_;unfold Tf;simp![]
 |k+1,i,h=>by
  have hi:i<n:=by omega
  have ht:gY n A b tg i=vK A b tg i:=zP hi;rw[ht,JI (σ':=[some (false,.lst ws),some (true,.dic (y3 A (i+1)) (yJ A b tg (i+1))),some (false,.int (A (i+1))),some (false,gY n A b tg (i+1))])]
  ·exact Hu k (i+1) (by omega)
  ·unfold Tf vK;simp![]
  ·obtain⟨p1,p2⟩:=G9 (vs:=yJ A b tg i) (v:=vK A b tg i) (T.new (jZ hi));have tl:=T.tell (i:=i+1) hi;have hl:(y3 A i).length<yb:=by rw[Xt]; have:=T.IB; show i<16777216; omega
   have i1:zL (vK A b tg i) (.int 1)=some (.int (A (i+1))):=rfl
   have hp:pL 1 (z7 2) (z7 3) [some (false,.lst ws),some (true,.dic (y3 A i) (yJ A b tg i)),some (false,.int (A i)),some (false,vK A b tg i)]=some (.nx [some (false,.lst ws),some (true,.dic (y3 A (i+1)) (yJ A b tg (i+1))),some (false,.int (A i)),some (false,vK A b tg i)]):=by
    rw[C6,rS,<-p1,<-p2];show(if(y3 A i).length<yb then _ else _)=_;rw[zP hl];rfl
   unfold LQ;generalize y3 A (i+1)=K1 at *;generalize yJ A b tg (i+1)=V1 at *;generalize y3 A i=K0 at *;generalize yJ A b tg i=V0 at *;generalize vK A b tg i=TD at *;generalize gY n A b tg (i+1)=TL at *;simp![hp,i1,tl]
theorem Hv:jv [.lst ws]=some (true,.dic (y3 A n) (yJ A b tg n)):=by
 have e0:=T.tell (i:=0) (uu _);rw[T.z]at e0;have lp:=WH (n+1) (Hu T n 0 (xT n)) (by have:=T.IB; show n+1<=100000000; omega);rw[T.z]at lp;have k0:y3 A 0=[]:=rfl;have v0:yJ A b tg 0=[]:=rfl;rw[k0,v0]at lp;rw[RQ];unfold TW;generalize gY n A b tg 0=TL at *;generalize y3 A n=KK at *;generalize yJ A b tg n=VV at *;simp![e0,lp]
theorem NH:Zv [.dic (y3 A n) (yJ A b tg n)]=some (false,.int (A n)):=by
 have e1:xK (zy 1) xA Mr [some (false,.dic (y3 A n) (yJ A b tg n)),none] (yJ A b tg n)=some (((List.range n).map λi=>A (i+1)).map D.int):=by
  have:=Z6 (g:=zy 1) (e:=Mr) (σ:=[some (false,.dic (y3 A n) (yJ A b tg n)),none]) (λd=>match d with|.tup [_,x,_]=>x|_=>.zE) (ds:=yJ A b tg n) λd hd=>by
   obtain⟨i,_,rfl⟩:=xQ.mp hd;exact⟨_,rfl,rfl⟩
  rw[this];unfold yJ;rw[vc,vc];rfl
 have e2:O7 (.lst (((List.range n).map λi=>A (i+1)).map D.int)) (.int 0)=some (.int (A n)):=by
  show(Z3 _).bind _=_;rw[Ft];show some (if(List.range n).map (λi=>A (i+1))=[]then _ else _)=_;by_cases c:n=0
  ·subst c;show some (D.int 0)=some (D.int (A 0));rw[T.z]
  ·rw[zS (by
    intro h;have:=congrArg List.length h;rw[zr,vD]at this;exact c this)]
   have:A n=L2.maxI ((List.range n).map λi=>A (i+1)):=by
    refine L2.maxI_uniq ?_ λy hy=>?_
    ·exact xQ.mpr ⟨n-1,vd.mpr (by omega),by rw[Ba (by omega)]⟩
    ·obtain⟨i,hi,rfl⟩:=xQ.mp hy;have hi:=vd.mp hi;by_cases e:i+1=n
     ·rw[e]; exact Jb _
     ·exact Vj (T.lt (by omega) (zt _))
   rw[<-this]
 rw[Po];unfold Um;generalize ((List.range n).map λi=>A (i+1)).map D.int=LL at *;have e0:pF 0 [some (false,.dic (y3 A n) (yJ A b tg n))]=some (yJ A b tg n):=rfl;generalize y3 A n=KK at *;generalize yJ A b tg n=VV at *;simp![e0,e1,e2]
def QH(A:Nat->Int)(b:Nat->D)(tg:Nat->Option Nat)(n:Nat):List D:=(List.range n).map λi=>D.tup [.int (A i),vK A b tg i]
omit T in
theorem Rz{x2 x3 x4 x5:Option Sl}:Yg 1 [some (false,.lst ws),some (false,.dic (y3 A n) (yJ A b tg n)),x2,x3,x4,x5]=some (QH A b tg n):=by
 have h:(y3 A n).all uN=true:=vB.mpr λk hk=>by
  obtain⟨i,_,rfl⟩:=xQ.mp hk;rfl
 show(if(y3 A n).all uN=true then some (jI (y3 A n) (yJ A b tg n))else none)=_;rw[zP h];unfold jI y3 yJ QH;refine congrArg some (X7 λi=>?_);rw[Jh,xH,xH,xH];cases(List.range n)[i]? with
 |none=>rfl
 |some j=>rfl
theorem Pa:YA [.lst ws]=some (false,.zE):=by
 have e1:=Hv T;have e2:=NH T;have ne:wu (.int (A n)) (.int (ws.length:Int))=some (.bl false):=by rw[T.e]; exact Ld (Yh rfl)
 obtain⟨σ',e3,x3,x4,x5,rfl⟩:=tF (g:=v6 3 4) (b:=LR) (λi σ=>∃x3 x4 x5,σ=[some (false,.lst ws),some (false,.dic (y3 A n) (yJ A b tg n)),some (false,.int (A n)),x3,x4,x5]) (ds:=QH A b tg n)
  (σ:=[some (false,.lst ws),some (false,.dic (y3 A n) (yJ A b tg n)),some (false,.int (A n)),none,none,none]) 0 ⟨none,none,none,rfl⟩ (by
  rintro i v σ hv ⟨x3,x4,x5,rfl⟩;obtain⟨j,hj,rfl⟩:=xQ.mp (qT hv);have hj:=vd.mp hj;refine⟨_,[some (false,.lst ws),some (false,.dic (y3 A n) (yJ A b tg n)),some (false,.int (A n)),some (false,.int (A j)),some (false,vK A b tg j),some (false,tA A (tg j))],rfl,.inl ?_,_,_,_,rfl⟩;have i2:zL (vK A b tg j) (.int 2)=some (tA A (tg j)):=rfl;unfold LR;cases h:tg j with
  |none=>
   rw[h]at i2;have t0:tA A none=.zE:=rfl;rw[t0]at i2 ⊢;generalize vK A b tg j=TD at *;generalize y3 A n=KK at *;generalize yJ A b tg n=VV at *;simp![i2]
  |some p=>
   rw[h]at i2;have t0:tA A (some p)=.int (A p):=rfl;rw[t0]at i2 ⊢;have hp:=T.le j p hj h;by_cases e:p=n
   ·have q:wu (.int (A p)) (.int (A n))=some (.bl false):=by rw[e]; exact Ld (Yh rfl)
    generalize vK A b tg j=TD at *;generalize y3 A n=KK at *;generalize yJ A b tg n=VV at *;simp![i2,q]
   ·have q:wu (.int (A p)) (.int (A n))=some (.bl true):=Ld (Yi (by have:=T.lt (i:=p) (j:=n) (by omega) (zt _); omega))
    have hin:kr (.int (A p)) (.dic (y3 A n) (yJ A b tg n))=some (.bl false):=by
     show(some (yc (y3 A n) (.inl (A p)))).bind _=_;rw[C5.mpr ⟨p,by omega,rfl⟩];rfl
    generalize vK A b tg j=TD at *;generalize y3 A n=KK at *;generalize yJ A b tg n=VV at *;simp![i2,q,hin])
 have e4:=Rz (ws:=ws) (A:=A) (b:=b) (tg:=tg) (n:=n) (x2:=some (false,.int (A n))) (x3:=none) (x4:=none) (x5:=none);rw[RT];unfold TZ;generalize QH A b tg n=IT at *;generalize y3 A n=KK at *;generalize yJ A b tg n=VV at *;simp![e1,e2,ne,e4,e3]
theorem mS:Y8 [.lst ws]=some (false,.dic (y3 A n) (yJ A b tg n)):=by
 have e1:=Pa T;have e2:=Hv T;rw[RN];unfold TR;generalize y3 A n=KK at *;generalize yJ A b tg n=VV at *;simp![e1,e2]
def wc(A:Nat->Int)(n i:Nat):List (Sum Int Str):=.inl (A n)::y3 A i
def wx(n i:Nat):List D:=.int (n:Int)::(List.range i).map λj:Nat=>.int (j:Int)
omit T in
theorem Ff{n:Nat}{A:Nat->Int}(inj:∀i j,i<=n->j<=n->A i=A j->i=j){p:Nat}(hp:p<n)(f:Nat->D):∀(l:List Nat),p∈l->(∀i∈l,i<=n)->getK (l.map λi=>Sum.inl (A i)) (l.map f) (.inl (A p))=some (f p)
 | [],h,_=>by cases h
 |a::l,h,hl=>by
  show(if(Sum.inl (A a):Sum Int Str)=.inl (A p)then some (f a)else getK (l.map λi=>Sum.inl (A i)) (l.map f) (.inl (A p)))=_;by_cases e:A a=A p
  ·have:=inj a p (hl a xP) (jZ hp) e;subst this;rw[zP rfl]
  ·rw[zS (λz=>e (pU z))];rcases yV.mp h with rfl|h
   ·exact absurd rfl e
   ·exact Ff inj hp f l h λi hi=>hl i (wZ _ hi)
theorem AW{p:Nat}(hp:p<=n):getK (wc A n n) (wx n n) (.inl (A p))=some (.int (p:Int)):=by
 show(if(Sum.inl (A n):Sum Int Str)=.inl (A p)then some (D.int (n:Int))else getK (y3 A n) ((List.range n).map λj:Nat=>D.int (j:Int)) (.inl (A p)))=_;by_cases e:p=n
 ·subst e;rw[zP rfl]
 ·rw[zS (λz=>e (T.inj hp (zt _) (pU z).symm))];exact Ff (λi j hi hj h=>T.inj hi hj h) (show p<n by omega) (λj:Nat=>D.int (j:Int)) (List.range n) (vd.mpr (by omega)) λi hi=>jZ (vd.mp hi)
theorem AX{i:Nat}(hi:i<n):yc (wc A n i) (.inl (A i))=false:=by
 show(decide ((Sum.inl (A n):Sum Int Str)=.inl (A i))||yc (y3 A i) (.inl (A i)))=false;rw[T.new (jZ hi),JX]
 exact yh λz=>by
  have:=T.lt hi (zt _);have:=pU z;omega
theorem dP(hq:(yL n ((List.range n).map tg)).length<=60)(hr:∀i p,i<n->tg i=some p->∃hd:List D,b i=.tup hd/\hd≠[]/\hd.length<=2):jq [.lst ws]=some (true,.lst (wI ((List.range n).map b) ((List.range n).map tg))):=by
 have e1:=mS T;have hf:=T.IB
 have e2:Iy (eL xg (zB (z7 0) zG)) (eL O6 (zB (z7 1) zG)) [some (false,.lst ws),some (false,.dic (y3 A n) (yJ A b tg n)),none,none,none,none,none]=some (.dic (wc A n 0) (wx n 0)):=by
  show some (D.dic [.inl (ws.length:Int)] [.int ((y3 A n).length:Int)])=_;rw[<-T.e,Xt];rfl
 have en:Yf 1 [some (false,.lst ws),some (false,.dic (y3 A n) (yJ A b tg n)),some (true,.dic (wc A n 0) (wx n 0)),none,none,none,none]=some (we ((y3 A n).map keyOf)):=by
  have h:(y3 A n).all uN=true:=vB.mpr λk hk=>by
   obtain⟨i,_,rfl⟩:=xQ.mp hk;rfl
  show(if(y3 A n).all uN=true then _ else _)=_;rw[zP h]
 obtain⟨σ',e3,x3,x4,rfl⟩:=tF (g:=v6 3 4) (b:=LP) (λi σ=>∃x3 x4,σ=[some (false,.lst ws),some (false,.dic (y3 A n) (yJ A b tg n)),some (true,.dic (wc A n i) (wx n i)),x3,x4,none,none]) (ds:=we ((y3 A n).map keyOf))
  (σ:=[some (false,.lst ws),some (false,.dic (y3 A n) (yJ A b tg n)),some (true,.dic (wc A n 0) (wx n 0)),none,none,none,none]) 0 ⟨none,none,rfl⟩ (by
  rintro i v σ hv ⟨x3,x4,rfl⟩;rw[xT]at *;rw[gG,xH]at hv
  have hi:i<n:=by
   cases z:(y3 A n)[i]? with
   |none=>rw[z]at hv; cases hv
   |some y=>
    have:=(yx.mp z).1;rw[Xt]at this;exact this
  have hk:(y3 A n)[i]?=some (.inl (A i)):=by
   unfold y3;rw[xH,qo hi];rfl
  rw[hk]at hv;cases hv;refine⟨_,[some (false,.lst ws),some (false,.dic (y3 A n) (yJ A b tg n)),some (true,.dic (wc A n (i+1)) (wx n (i+1))),some (false,.int (i:Int)),some (false,.int (A i)),none,none],rfl,.inl ?_,_,_,rfl⟩;obtain⟨p1,p2⟩:=G9 (vs:=wx n i) (v:=.int (i:Int)) (AX T hi)
  have s1:wc A n (i+1)=wc A n i++[.inl (A i)]:=by
   unfold wc;rw[C6];rfl
  have s2:wx n (i+1)=wx n i++[.int (i:Int)]:=by
   unfold wx;rw[Zf,tR];rfl
  rw[s1,s2,<-p1,<-p2];unfold LP;show(if(wc A n i).length<yb then _ else _)=_;rw[zP (by unfold wc; rw[xf,Xt]; show i+1<16777216; omega)];rfl)
 rw[qN,zr,Xt,xT]at e3
 have lc1:xK (zy 7) xA Mv [some (false,.lst ws),some (false,.dic (y3 A n) (yJ A b tg n)),some (false,.dic (wc A n n) (wx n n)),x3,x4,none,none,none] (yJ A b tg n)=some ((List.range n).map b):=by
  have:=Z6 (g:=zy 7) (e:=Mv) (σ:=[some (false,.lst ws),some (false,.dic (y3 A n) (yJ A b tg n)),some (false,.dic (wc A n n) (wx n n)),x3,x4,none,none,none]) (λd=>match d with|.tup [x,_,_]=>x|_=>.zE) (ds:=yJ A b tg n) λd hd=>by
   obtain⟨i,_,rfl⟩:=xQ.mp hd;exact⟨_,rfl,rfl⟩
  rw[this];unfold yJ;rw[vc];rfl
 have lc2:xK (zy 7) xA JO [some (false,.lst ws),some (false,.dic (y3 A n) (yJ A b tg n)),some (false,.dic (wc A n n) (wx n n)),x3,x4,some (false,.lst ((List.range n).map b)),none,none] (yJ A b tg n)=some (((List.range n).map tg).map xO):=by
  have:=LU (g:=zy 7) (e:=JO) (σ:=[some (false,.lst ws),some (false,.dic (y3 A n) (yJ A b tg n)),some (false,.dic (wc A n n) (wx n n)),x3,x4,some (false,.lst ((List.range n).map b)),none,none]) (λi=>xO (tg i)) (ds:=yJ A b tg n) 0 λi d hd=>by
   unfold yJ at hd;rw[xH]at hd
   have hi:i<n:=by
    cases z:(List.range n)[i]? with
    |none=>rw[z]at hd; cases hd
    |some y=>
     have:=(yx.mp z).1;rw[vD]at this;exact this
   rw[qo hi]at hd;cases hd;refine⟨_,rfl,?_⟩;rw[xT];have i2:zL (vK A b tg i) (.int 2)=some (tA A (tg i)):=rfl;unfold JO;cases h:tg i with
   |none=>
    rw[h]at i2;have t0:tA A none=.zE:=rfl;rw[t0]at i2;generalize vK A b tg i=TD at *;generalize y3 A n=KK at *;generalize wc A n n=KN at *;generalize wx n n=VN at *;simp![i2];rfl
   |some p=>
    rw[h]at i2;have t0:tA A (some p)=.int (A p):=rfl;rw[t0]at i2;have ix:zL (.dic (wc A n n) (wx n n)) (.int (A p))=some (.int (p:Int)):=AW T (T.le i p hi h);generalize vK A b tg i=TD at *;generalize y3 A n=KK at *;generalize wc A n n=KN at *;generalize wx n n=VN at *;simp![i2,ix];rfl
  rw[this,<-K8];have l:(yJ A b tg n).length=n:=by unfold yJ; rw[zr,vD]
  rw[l,vc];rfl
 have lb:=SZ (rows:=(List.range n).map b) (tgs:=(List.range n).map tg) (by rw[zr,vD]; exact hf) (by rw[zr,vD]; exact hq) (by rw[zr,zr]) (λp hp=>by
  obtain⟨i,hi,e⟩:=xQ.mp hp;rw[zr,vD];exact T.le i p (vd.mp hi) e) λi p hp=>by
  rw[xH]at hp
  have hi:i<n:=by
   cases z:(List.range n)[i]? with
   |none=>rw[z]at hp; cases hp
   |some y=>
    have:=(yx.mp z).1;rw[vD]at this;exact this
  rw[qo hi]at hp;obtain⟨hd,e,h1,h2⟩:=hr i p hi (vM hp);refine⟨hd,?_,h1,h2⟩;rw[xH,qo hi];exact congrArg some e
 have d0:∀σ:y4,σ[1]?=some (some (false,.dic (y3 A n) (yJ A b tg n)))->pF 1 σ=some (yJ A b tg n):=λσ h=>by
  unfold pF;rw[h]
 have d1:=d0 [some (false,.lst ws),some (false,.dic (y3 A n) (yJ A b tg n)),some (false,.dic (wc A n n) (wx n n)),x3,x4,none,none] rfl;have d2:=d0 [some (false,.lst ws),some (false,.dic (y3 A n) (yJ A b tg n)),some (false,.dic (wc A n n) (wx n n)),x3,x4,some (false,.lst ((List.range n).map b)),none] rfl;rw[RJ];unfold TK;generalize wI ((List.range n).map b) ((List.range n).map tg)=LA at *;generalize ((List.range n).map tg).map xO=TG at *;generalize (List.range n).map b=RB at *;generalize we ((y3 A n).map keyOf)=NK at *;generalize y3 A n=KK at *;generalize yJ A b tg n=VV at *;generalize wc A n n=KN at *;generalize wx n n=VN at *;generalize wc A n 0=KN0 at *;generalize wx n 0=VN0 at *;simp![e1,e2,en,e3,d1,lc1,d2,lc2,lb]
end
def xh(r:D):Nat:=match pH r with
 |.int p=>p.toNat
 |_=>0
def gg(c m d:Int)(z8:Bool):List Int:=bif z8 then[(21+c)*134217728+m*16777216,d%4294967296]else[(18+c)*134217728+m*16777216+d%32]
def jJ(r:D):Int:=match kP [r]with
 |some (_,.int v)=>v
 |_=>0
def dJ(rows:List D)(z8:List Nat)(i:Nat):Int:=zh (zJ z8) (xh (rows.getD i .zE))-zh (zJ z8) i
def xS(rows:List D)(z8:List Nat)(i:Nat):List Int:=bif yj (rows.getD i .zE)then gg (cJ (rows.getD i .zE)) (mJ (rows.getD i .zE)) (dJ rows z8 i) (zJ z8 i)else[jJ (rows.getD i .zE)]
def yQ(rows:List D)(z8:List Nat):Nat->List Int
 |0=>[]
 |n+1=>yQ rows z8 n++xS rows z8 n
def t5(rows:List D)(i:Nat):D:=bif yj (rows.getD i .zE)then qZ (rows.getD i .zE)else rows.getD i .zE
def uR(rows:List D)(i:Nat):Option Nat:=bif yj (rows.getD i .zE)then some (xh (rows.getD i .zE))else none
structure Wr(rows zF:List D)(z8:List Nat):Prop where
 it:∀d∈zF,wU d
 li:zF.length<=1000
 he:wF (vO zF) rows (zF.filter λd=>!yD d)
 hr:∀r∈rows,xr (rows.length:Int) r
 hn:rows.length<64
 hg:gF rows z8=[]
 hj:∀i,zJ z8 i=true->yj (rows.getD i .zE)=true
structure W1(rows zF:List D)(z8:List Nat)(i:Nat)(y:D):Prop where
 yi:(zF.filter λd=>!yD d)[i]?=some y
 pl:yj (rows.getD i .zE)=false->y=rows.getD i .zE/\kU y (jJ y)/\zJ z8 i=false/\tgt (rows.getD i .zE)=.zE
 jm:yj (rows.getD i .zE)=true->Ug (rows.getD i .zE) y (cJ (rows.getD i .zE)) (mJ (rows.getD i .zE))/\xh (rows.getD i .zE)<=rows.length/\tgt (rows.getD i .zE)=.int (xh (rows.getD i .zE):Nat)/\(zJ z8 i=false -> -16<=dJ rows z8 i/\dJ rows z8 i<=15) /\ -200<=dJ rows z8 i/\dJ rows z8 i<=200
theorem YD(f:Nat->Bool):∀n:Nat,0<=zh f n/\zh f n<=2*n
 |0=>⟨Jb _,Jb _⟩
 |n+1=>by
  obtain⟨a,b⟩:=YD f n;show 0<=zh f n+(if f n then 2 else 1)/\zh f n+(if f n then 2 else 1)<=_
  split<;>omega
section
variable{rows zF:List D}{z8:List Nat}(W:Wr rows zF z8)
include W
theorem Wr.one{i:Nat}(hi:i<rows.length):∃y,W1 rows zF z8 i y:=by
 obtain⟨y,ey,hf⟩:=Dz W.he (yF hi);have eg:rows.getD i .zE=rows[i]:=by rw[wP,yF hi]; rfl
 have hR:=W.hr _ (vq hi);refine⟨y,ey,λhj=>?_,λhj=>?_⟩
 ·rw[eg]at hj ⊢
  have pr:vy rows[i]:=by
   rcases hR with h|h
   ·exact h
   ·obtain⟨_,_,_,_,_,z,_⟩:=uh h;rw[z]at hj;cases hj
  have yr:y=rows[i]:=hf.2.2.1.1 hj;obtain⟨v,w⟩:=cO pr;refine⟨yr,?_,?_,?_⟩
  ·rw[yr];have:jJ rows[i]=v:=by unfold jJ; rw[w.w]
   rw[this];exact w
  ·cases c:zJ z8 i with
   |false=>rfl
   |true=>
    have:=W.hj i c;rw[eg,hj]at this;cases this
  ·unfold tgt;rw[hj]
 ·rw[eg]at hj ⊢
  have jr:qW (rows.length:Int) rows[i]:=by
   rcases hR with h|h
   ·obtain⟨_,_,_,_,z,_⟩:=pJ h;rw[z]at hj;cases hj
   ·exact h
  obtain⟨_,p,_,_,_,_,_,_,lp,p0,p1⟩:=uh jr;have hp:xh rows[i]=p.toNat:=by unfold xh; rw[lp]
  have pn:(xh rows[i]:Int)=p:=by rw[hp]; omega
  have tp:tgt rows[i]=.int (xh rows[i]:Nat):=by
   unfold tgt;rw[hj,pn];exact lp
  have a1:=YD (zJ z8) (xh rows[i]);have a2:=YD (zJ z8) i;have hn:=W.hn;have ed:dJ rows z8 i=zh (zJ z8) (xh rows[i])-zh (zJ z8) i:=by unfold dJ; rw[eg]
  refine⟨SC jr hf,by omega,tp,λhF=>?_,by omega,by omega⟩
  have aw:vh rows z8 i=false:=by
   cases z:vh rows z8 i with
   |false=>rfl
   |true=>
    have:i∈gF rows z8:=vL.mpr ⟨vL.mpr ⟨vd.mpr hi,by rw[hF]; rfl⟩,z⟩;rw[W.hg]at this;cases this
  unfold vh at aw;rw[eg,tp]at aw;have nb:(decide (-16<=zh (zJ z8) (xh rows[i])-zh (zJ z8) i)&&decide (zh (zJ z8) (xh rows[i])-zh (zJ z8) i<=15))=true:=by simpa [ZA,dv]using aw
  rw[xL]at nb;rw[ed];exact⟨v3 nb.1,v3 nb.2⟩
theorem Wr.Kr{i:Nat}(hi:i<rows.length):((xS rows z8 i).length:Int)=if zJ z8 i then 2 else 1:=by
 obtain⟨y,h⟩:=W.one hi;unfold xS;cases hj:yj (rows.getD i .zE)with
 |false=>
  rw[(h.pl hj).2.2.1];rfl
 |true=>
  unfold gg;cases zJ z8 i<;>rfl
theorem Wr.len:∀{n:Nat},n<=rows.length->((yQ rows z8 n).length:Int)=zh (zJ z8) n
 |0,_=>rfl
 |n+1,h=>by
  have a:=Wr.len (n:=n) (by omega);have b:=W.Kr (i:=n) (by omega);show((yQ rows z8 n++xS rows z8 n).length:Int)=zh (zJ z8) n+(if zJ z8 n then 2 else 1);rw[ya];omega
omit W in
theorem NB:∀{i n:Nat},i<=n->∃r,yQ rows z8 n=yQ rows z8 i++r
 |i,n,h=>by
  induction n with
  |zero=>exact⟨[],by rw[show i=0 by omega]; rfl⟩
  |succ n ih=>
   by_cases e:i=n+1
   ·exact⟨[],by rw[e,vC]⟩
   ·obtain⟨r,q⟩:=ih (by omega);exact⟨r++xS rows z8 n,by show yQ rows z8 n++xS rows z8 n=_; rw[q,gk]⟩
theorem Wr.at{i k:Nat}{v:Int}(hi:i<rows.length)(hk:(xS rows z8 i)[k]?=some v):zL (.lst ((yQ rows z8 rows.length).map D.int)) (.int (zh (zJ z8) i+k))=some (.int v)/\zh (zJ z8) i+k<((yQ rows z8 rows.length).length:Int):=by
 obtain⟨r,e⟩:=NB (rows:=rows) (z8:=z8) (i:=i+1) (n:=rows.length) hi;have l:=W.len (n:=i) (by omega);have kl:k<(xS rows z8 i).length:=(yx.mp hk).1;have e2:yQ rows z8 (i+1)=yQ rows z8 i++xS rows z8 i:=rfl
 have g:(yQ rows z8 rows.length)[(yQ rows z8 i).length+k]?=some v:=by
  rw[e,e2,gk,BO (by omega),Nat.add_sub_cancel_left,Zc kl];exact hk
 have lt:=(yx.mp g).1;refine⟨qY (by omega) ?_,by omega⟩;rw[show(zh (zJ z8) i+(k:Int)).toNat=(yQ rows z8 i).length+k by omega,xH,g];rfl
theorem Wr.tb:Tb ((yQ rows z8 rows.length).map D.int) rows.length (zh (zJ z8)) (t5 rows) (uR rows):=by
 refine⟨λi hi=>?_,rfl,?_,λi hi=>?_,?_,λi p hi h=>?_,by have:=W.hn; omega⟩
 ·show zh (zJ z8) i<zh (zJ z8) i+(if zJ z8 i then 2 else 1)
  split<;>omega
 ·rw[zr];exact(W.len (zt _)).symm
 ·obtain⟨y,h⟩:=W.one hi;have a0:=YD (zJ z8) i;have ll:(((yQ rows z8 rows.length).map D.int).length:Int)=((yQ rows z8 rows.length).length:Int):=by rw[zr]
  unfold t5 uR;show _=some (false,D.tup [_,.int (zh (zJ z8) i+(if zJ z8 i then 2 else 1)),_]);cases hj:yj (rows.getD i .zE)with
  |false=>
   obtain⟨yr,w,nf,_⟩:=h.pl hj;rw[yr]at w;have g:=W.at (k:=0) (v:=jJ (rows.getD i .zE)) hi (by unfold xS; rw[hj]; rfl);rw[BD,X5]at g;obtain⟨n,n17,hc⟩:=w.c;have hcc:=YI w.v0 w.v1;rw[hc]at hcc;have hnear:=Xy (n:=n) (by omega);rw[yh (show ¬ 18<=n by omega),pR]at hnear;have hfar:=OA (n:=n) (by omega);rw[yh (show ¬ 21<=n by omega),pR]at hfar
   obtain⟨R,hR⟩:∃R,rows.getD i .zE=.tup R:=by
    have:=W.hr _ (vq hi);have eg:rows.getD i .zE=rows[i]:=by rw[wP,yF hi]; rfl
    rw[eg];generalize rows[i]=rr at this;rcases this with q|q<;>cases q<;>exact⟨_,rfl⟩
   have wr:=w.r;rw[hR]at wr g;have:=o6 ⟨a0.1,by rw[ll]; exact g.2,g.1,by rw[<-hR]; exact w.v0,by rw[<-hR]; exact w.v1⟩ (by rw[<-hR]; exact hcc) hfar hnear wr;rw[this,nf,hR];rfl
  |true=>
   obtain⟨w,p1,tp,nr,d0,d1⟩:=h.jm hj;obtain⟨R,hR,_,_,_⟩:=w.hd;have c0:=w.c0;have c1:=w.c1;have m0:=w.m0;have m1:=w.m1;have ea:zh (zJ z8) i+dJ rows z8 i=zh (zJ z8) (xh (rows.getD i .zE)):=by unfold dJ; omega
   cases hF:zJ z8 i with
   |true=>
    have rv:xS rows z8 i=[(21+cJ (rows.getD i .zE))*134217728+mJ (rows.getD i .zE)*16777216,dJ rows z8 i%4294967296]:=by
     unfold xS;rw[hj,hF];rfl
    have g:=W.at (k:=0) hi (by rw[rv]; rfl);rw[BD,X5]at g;have g1:=W.at (k:=1) hi (by rw[rv]; rfl);rw[show((1:Nat):Int)=1 from rfl]at g1;have fr:=w.fr;rw[hR]at fr;obtain⟨x,hx⟩:∃x,x=(21+cJ (rows.getD i .zE))*134217728+mJ (rows.getD i .zE)*16777216:=⟨_,rfl⟩;obtain⟨n,hn'⟩:∃n:Nat,(n:Int)=21+cJ (rows.getD i .zE):=⟨(21+cJ (rows.getD i .zE)).toNat,by omega⟩;rw[<-hx]at g fr;have hcc:=YI (x:=x) (by omega) (by omega);rw[show x/134217728=(n:Int) by omega]at hcc;have hfar:=OA (n:=n) (by omega);rw[ye (show 21<=n by omega),ye (show n<=23 by omega),pS]at hfar;have:=o0 (a:=zh (zJ z8) i) ⟨a0.1,by rw[ll]; exact g.2,g.1,by omega,by omega⟩ hcc hfar fr g1.1 (by rw[ll]; exact g1.2);rw[this,show zh (zJ z8) i+(if 2*(dJ rows z8 i%4294967296)<4294967296 then dJ rows z8 i%4294967296 else dJ rows z8 i%4294967296-4294967296)=zh (zJ z8) (xh (rows.getD i .zE)) by rw[<-ea]; split<;>omega];simp only[Jo,hR];rfl
   |false=>
    have rv:xS rows z8 i=[(18+cJ (rows.getD i .zE))*134217728+mJ (rows.getD i .zE)*16777216+dJ rows z8 i%32]:=by
     unfold xS;rw[hj,hF];rfl
    obtain⟨n0,n1⟩:=nr hF;have g:=W.at (k:=0) hi (by rw[rv]; rfl);rw[BD,X5]at g;have fr:=w.nr (dJ rows z8 i);rw[hR]at fr;obtain⟨x,hx⟩:∃x,x=(18+cJ (rows.getD i .zE))*134217728+mJ (rows.getD i .zE)*16777216+dJ rows z8 i%32:=⟨_,rfl⟩;obtain⟨n,hn'⟩:∃n:Nat,(n:Int)=18+cJ (rows.getD i .zE):=⟨(18+cJ (rows.getD i .zE)).toNat,by omega⟩;rw[<-hx]at g fr;have hcc:=YI (x:=x) (by omega) (by omega);rw[show x/134217728=(n:Int) by omega]at hcc;have hfar:=OA (n:=n) (by omega);rw[yh (show ¬ 21<=n by omega),pR]at hfar;have hnear:=Xy (n:=n) (by omega);rw[ye (show 18<=n by omega),ye (show n<=20 by omega),pS]at hnear;have:=o1 (a:=zh (zJ z8) i) ⟨a0.1,by rw[ll]; exact g.2,g.1,by omega,by omega⟩ hcc hfar hnear fr;rw[this,show zh (zJ z8) i+(if 2*(x%32)<32 then x%32 else x%32-32)=zh (zJ z8) (xh (rows.getD i .zE)) by rw[<-ea]; split<;>omega];simp only[Jo,hR];rfl
 ·refine o3 (.inr ?_);rw[zr];exact Int.le_of_eq (W.len (zt _))
 ·obtain⟨y,w⟩:=W.one hi;unfold uR at h;cases hj:yj (rows.getD i .zE)with
  |false=>rw[hj]at h; cases h
  |true=>
   rw[hj]at h;cases h;exact(w.jm hj).2.1
end
theorem QF{z8:List Nat}{n:Nat}:zJ z8 n=true↔n∈z8:=by
 unfold zJ za;rw[jU]
 have e:∀a:Nat,yW (.int (a:Int)) (.int (n:Int))=true↔a=n:=λa=>by
  have:yW (.int (a:Int)) (.int (n:Int))=((a:Int)==(n:Int)):=by unfold yW; rfl
  rw[this,Zi];omega
 constructor
 ·rintro⟨x,hx,h⟩;obtain⟨a,ha,rfl⟩:=xQ.mp hx;exact(e a).mp h▸ha
 ·exact λh=>⟨_,xQ.mpr ⟨n,h,rfl⟩,(e n).mpr rfl⟩
theorem Qm{g:List Nat->List Nat}:∀{z8 R:List Nat}{k:Nat},vg g z8 R k->g R=[]
 |_,_,_,.stop e=>e
 |_,_,_,.go _ _ r=>Qm r
theorem MI{rows:List D}:∀{z8 R:List Nat}{k:Nat},vg (gF rows) z8 R k->(∀i∈z8,yj (rows.getD i .zE)=true)->∀i∈R,yj (rows.getD i .zE)=true
 |_,_,_,.stop _,h=>h
 |z8,_,_,.go _ _ r,h=>MI r λi hi=>by
  have hi:i∈z8++gF rows z8:=(VW _).mem_iff.mp hi;rcases u9.mp hi with hi|hi
  ·exact h i hi
  ·cases c:yj (rows.getD i .zE)with
   |true=>rfl
   |false=>
    have:=(vL.mp hi).2;rw[DL c]at this;cases this
theorem PQ{i:Nat}{e:FE}{σ:y4}{L W:List D}(h0:σ[i]?=some (some (true,.lst L)))(he:e σ=some (.lst W))(h1:L.length<=1000)(h2:W.length<=2):ZN i e σ=some (.nx (σ.set i (some (true,.lst (L++W))))):=by
 unfold ZN;rw[h0,he];show(if L.length+W.length<=yb then _ else _)=_;rw[zP (by show _<=16777216; omega)]
theorem Hx{rows zF:List D}(h:∀d∈zF,wU d)(hl:zF.length<=1000)(he:wF (vO zF) rows (zF.filter λd=>!yD d))(hr:∀r∈rows,xr (rows.length:Int) r)(hn:rows.length<64) :
  ∃z8 k,vg (gF rows) [] z8 k/\Wr rows zF z8/\kQ [.lst zF]=some (true,.lst ((yQ rows z8 rows.length).map D.int)):=by
 obtain⟨R,k',hR,_,_,ef⟩:=PZ h hl he hr hn;have W:Wr rows zF R:=⟨h,hl,he,hr,hn,Qm hR,λi hi=>MI hR (λ_ h=>by cases h) i (QF.mp hi)⟩;refine⟨R,k',hR,W,?_⟩;have ed:=Dr h hl he hr (by omega) (z8:=R);have er:=MM h;have rl:=Tk he
 have en:qL (ze ud (zB (z7 0) zG)) [some (false,.lst zF),some (false,.lst (za R)),some (false,.lst (xc rows (zJ R))),some (true,.lst []),none,none]=some (we (zF.filter λd=>!yD d)):=by
  have e4:∀σ:y4,ze ud (zB (z7 0) zG) σ=some (.lst (zF.filter λd=>!yD d))->qL (ze ud (zB (z7 0) zG)) σ=some (we (zF.filter λd=>!yD d)):=λσ z=>by
   unfold qL;rw[z];rfl
  exact e4 _ (by simp![er])
 obtain⟨σ',e3,x4,x5,rfl⟩:=tF (g:=v6 4 5) (b:=Xv) (λi σ=>∃x4 x5,σ=[some (false,.lst zF),some (false,.lst (za R)),some (false,.lst (xc rows (zJ R))),some (true,.lst ((yQ rows R i).map D.int)),x4,x5]) (ds:=we (zF.filter λd=>!yD d))
  (σ:=[some (false,.lst zF),some (false,.lst (za R)),some (false,.lst (xc rows (zJ R))),some (true,.lst []),none,none]) 0 ⟨none,none,rfl⟩ (by
  rintro i v σ hv ⟨x4,x5,rfl⟩;rw[xT]at *;rw[gG]at hv
  have hi:i<rows.length:=by
   rw[rl];cases z:(zF.filter λd=>!yD d)[i]? with
   |none=>rw[z]at hv; cases hv
   |some y=>exact(yx.mp z).1
  obtain⟨y,H⟩:=W.one hi;rw[H.yi]at hv;cases hv
  have al:((yQ rows R i).map D.int).length<=900:=by
   have:=W.len (n:=i) (by omega);have:=YD (zJ R) i;rw[zr];omega
  have eg:rows.getD i .zE=rows[i]:=by rw[wP,yF hi]; rfl
  have ex:zL (.lst (xc rows (zJ R))) (.int (i:Int))=some (dv (zJ R) (.tup [.int (i:Int),tgt (rows.getD i .zE)])):=qY (by omega) (by rw[xB,eg]; exact Ds hi)
  have hin:xD (.int (i:Int)) (.lst (za R))=some (.bl (zJ R i)):=by
   show(pA _ _).bind _=_;rw[QC];rfl
  have s1:(yQ rows R (i+1)).map D.int=(yQ rows R i).map D.int++(xS rows R i).map D.int:=by
   show(yQ rows R i++xS rows R i).map D.int=_;rw[tR]
  refine⟨_,[some (false,.lst zF),some (false,.lst (za R)),some (false,.lst (xc rows (zJ R))),some (true,.lst ((yQ rows R (i+1)).map D.int)),some (false,.int (i:Int)),some (false,y)],rfl,.inl ?_,_,_,rfl⟩;rw[s1];cases hj:yj (rows.getD i .zE)with
  |false=>
   obtain⟨yr,w,nf,tn⟩:=H.pl hj;have rv:xS rows R i=[jJ y]:=by unfold xS; rw[hj,yr]; rfl
   have hap:=tz (L:=(yQ rows R i).map D.int) (r:=.int (jJ y)) (by omega);rw[tn]at ex;have ex:zL (.lst (xc rows (zJ R))) (.int (i:Int))=some .zE:=ex;have ww:=w.w;rw[rv];unfold Xv;generalize (yQ rows R i).map D.int=LL at *;generalize xc rows (zJ R)=DD at *;generalize jJ y=PV at *;simp![ex,ww,hap]
  |true=>
   obtain⟨w,p1,tp,nr,d0,d1⟩:=H.jm hj;rw[tp]at ex;have ex:zL (.lst (xc rows (zJ R))) (.int (i:Int))=some (.int (dJ rows R i)):=ex;cases hF:zJ R i with
   |true=>
    have fw:=w.fw (dJ rows R i) (by omega) (by omega)
    have rv:(xS rows R i).map D.int=[.int ((21+cJ (rows.getD i .zE))*134217728+mJ (rows.getD i .zE)*16777216),.int (dJ rows R i%4294967296)]:=by
     unfold xS;rw[hj,hF];rfl
    rw[<-rv]at fw;rw[hF]at hin;have rl2:((xS rows R i).map D.int).length<=2:=by rw[rv]; simp
    have ee:=PQ (i:=3) (e:=qB jn (zB (z7 5) (zB (e2 zL (z7 2) (z7 4)) zG))) (σ:=[some (false,.lst zF),some (false,.lst (za R)),some (false,.lst (xc rows (zJ R))),some (true,.lst ((yQ rows R i).map D.int)),some (false,.int (i:Int)),some (false,y)]) (L:=(yQ rows R i).map D.int) (W:=(xS rows R i).map D.int) rfl (by
     generalize (yQ rows R i).map D.int=LL at *;generalize (xS rows R i).map D.int=WW at *;generalize xc rows (zJ R)=DD at *;simp![ex,fw]) (by omega) rl2
    unfold Xv
    rw[Rl (by
     generalize (yQ rows R i).map D.int=LL at *;generalize xc rows (zJ R)=DD at *;simp![ex]),Fp (by
     generalize (yQ rows R i).map D.int=LL at *;generalize xc rows (zJ R)=DD at *;simp![hin])]
    exact ee
   |false=>
    obtain⟨n0,n1⟩:=nr hF;have nw:=w.nw (dJ rows R i) n0 n1
    have rv:(xS rows R i).map D.int=[.int ((18+cJ (rows.getD i .zE))*134217728+mJ (rows.getD i .zE)*16777216+dJ rows R i%32)]:=by
     unfold xS;rw[hj,hF];rfl
    rw[rv];rw[hF]at hin;have hap:=tz (L:=(yQ rows R i).map D.int) (r:=.int ((18+cJ (rows.getD i .zE))*134217728+mJ (rows.getD i .zE)*16777216+dJ rows R i%32)) (by omega);unfold Xv;generalize (18+cJ (rows.getD i .zE))*134217728+mJ (rows.getD i .zE)*16777216+dJ rows R i%32=VV at *;generalize (yQ rows R i).map D.int=LL at *;generalize xc rows (zJ R)=DD at *;simp![ex,hin,nw,hap])
 rw[qN,xT,<-rl]at e3;rw[RV];unfold Tc;generalize we (zF.filter λd=>!yD d)=NN at *;generalize xc rows (zJ R)=DD at *;simp![ef,ed,en,e3]
def LN:FS:=(zO (zf 1 (eL Tt (zB (e2 yS (z7 1) (z7 2)) zG)))
    (zf 2 (ze pp (zB (z7 0) (zB (z7 1) zG)))))
def Te:FT:=(tE (e2 wu (z7 2) (xJ zG)))
def T4:FS:=
 (zO (zf 2 (ze pp (zB (z7 0) (zB (z7 1) zG))))
  (zO (ZP Te
   LN)
  (yA (z7 1))))
def pq:List D->Option (Bool×D):=FR 2 3 T4
theorem eR:∀ds r,pq ds=some r->ds.length=2/\zd 3 T4 ds=some r:=yM
theorem R8(x0 x1:D):pq [x0,x1]=zd 3 T4 [x0,x1]:=rfl
def T3:FS:=
 (yA (ze pq (zB (z7 0) (zB (xJ zG) zG))))
def Y4:List D->Option (Bool×D):=FR 1 1 T3
theorem eN:∀ds r,Y4 ds=some r->ds.length=1/\zd 1 T3 ds=some r:=yM
theorem R7(x0:D):Y4 [x0]=zd 1 T3 [x0]:=rfl
def JK:FE:=(z7 3)
def JP:FT:=(tE (e2 (xV λi j=>decide (i<j)) (e2 yk (ze wg (zB (z7 1) (zB (z7 3) zG))) (eC (.int 4))) (z7 2)))
def Uy:FS:=
 (yA (ze pq (zB (z7 0) (zB (xn 1 (uJ (ze qu (zB (z7 0) zG))) (zy 3) JP JK) zG))))
def Y0:List D->Option (Bool×D):=FR 3 3 Uy
theorem e9:∀ds r,Y0 ds=some r->ds.length=3/\zd 3 Uy ds=some r:=yM
theorem Pz(x0 x1 x2:D):Y0 [x0,x1,x2]=zd 3 Uy [x0,x1,x2]:=rfl
def Gb:FA:=(qM (eC (.int 0)) (eL xg (zB (z7 0) zG)))
def QQ:FS:=(yR (tE (e2 xD (e2 zL (e2 zL (z7 0) (z7 4)) (eC (.int 0))) (xU (zB (eC (.str "jump")) (zB (eC (.str "when")) (zB (eC (.str "unless")) zG))))))
     (zO (zf 5 (e2 vT (e2 zL (z7 2) (e2 zL (e2 zL (z7 0) (z7 4)) (e1 wn (eC (.int 1))))) (e2 zL (z7 2) (z7 4))))
      (vn 3 (e2 Xh (qb 3) (ze kJ (zB (e2 zL (z7 0) (z7 4)) (zB (z7 5) (zB (e2 xD (z7 4) (z7 1)) zG)))))))
     (w8 3 xo (ze qx (zB (e2 zL (z7 0) (z7 4)) zG))))
def T7:FS:=
 (zO (zf 2 (ze jp (zB (z7 0) (zB (z7 1) zG))))
  (zO (vn 3 (xJ zG))
  (zO (vm Gb (zy 4)
   QQ)
  (qP 3))))
def kM:List D->Option (Bool×D):=FR 2 6 T7
theorem eX:∀ds r,kM ds=some r->ds.length=2/\zd 6 T7 ds=some r:=yM
theorem RC(x0 x1:D):kM [x0,x1]=zd 6 T7 [x0,x1]:=rfl
theorem cM{r:D}(h:vy r):∃v:Int,kU r v/\qx [r]=some (false,.int v):=by
 cases h with
 |stop=>exact⟨0,Va (n:=0) (fs:=[]) (by decide) (by decide) (by decide) (by decide) rfl rfl rfl rfl rfl (by simp) (Tu (c:=0) (by decide) (by decide) rfl),Sn⟩
 |Zp hw d0 d1 n0 n1=>
  rcases hw with rfl|rfl
  ·exact⟨_,ge (n:=1) (W:=16) (P:=65536) (by decide) rfl rfl rfl rfl rfl (by decide) (by decide) (by decide) (by decide) d0 d1 n0 n1 (by decide) (by omega),QT (c:=1) (by rfl) (by rfl) (by rfl)⟩
  ·exact⟨_,ge (n:=2) (W:=16) (P:=65536) (by decide) rfl rfl rfl rfl rfl (by decide) (by decide) (by decide) (by decide) d0 d1 n0 n1 (by decide) (by omega),QT (c:=2) (by rfl) (by rfl) (by rfl)⟩
 |two hw d0 d1 s0 s1=>
  rcases hw with rfl|rfl|rfl|rfl|rfl|rfl|rfl|rfl|rfl
  ·exact⟨_,vZ (n:=3) (by decide) rfl rfl rfl rfl rfl d0 d1 s0 s1,jF (c:=3) (by rfl) (by rfl) (by rfl)⟩
  ·exact⟨_,vZ (n:=4) (by decide) rfl rfl rfl rfl rfl d0 d1 s0 s1,jF (c:=4) (by rfl) (by rfl) (by rfl)⟩
  ·exact⟨_,vZ (n:=5) (by decide) rfl rfl rfl rfl rfl d0 d1 s0 s1,jF (c:=5) (by rfl) (by rfl) (by rfl)⟩
  ·exact⟨_,vZ (n:=6) (by decide) rfl rfl rfl rfl rfl d0 d1 s0 s1,jF (c:=6) (by rfl) (by rfl) (by rfl)⟩
  ·exact⟨_,vZ (n:=7) (by decide) rfl rfl rfl rfl rfl d0 d1 s0 s1,jF (c:=7) (by rfl) (by rfl) (by rfl)⟩
  ·exact⟨_,vZ (n:=8) (by decide) rfl rfl rfl rfl rfl d0 d1 s0 s1,jF (c:=8) (by rfl) (by rfl) (by rfl)⟩
  ·exact⟨_,vZ (n:=9) (by decide) rfl rfl rfl rfl rfl d0 d1 s0 s1,jF (c:=9) (by rfl) (by rfl) (by rfl)⟩
  ·exact⟨_,vZ (n:=10) (by decide) rfl rfl rfl rfl rfl d0 d1 s0 s1,jF (c:=10) (by rfl) (by rfl) (by rfl)⟩
  ·exact⟨_,vZ (n:=11) (by decide) rfl rfl rfl rfl rfl d0 d1 s0 s1,jF (c:=11) (by rfl) (by rfl) (by rfl)⟩
 |Zq hw d0 d1 n0 n1=>
  rcases hw with rfl|rfl
  ·exact⟨_,ge (n:=12) (W:=5) (P:=32) (by decide) rfl rfl rfl rfl rfl (by decide) (by decide) (by decide) (by decide) d0 d1 n0 n1 (by decide) (by omega),QT (c:=12) (by rfl) (by rfl) (by rfl)⟩
  ·exact⟨_,ge (n:=13) (W:=5) (P:=32) (by decide) rfl rfl rfl rfl rfl (by decide) (by decide) (by decide) (by decide) d0 d1 n0 n1 (by decide) (by omega),QT (c:=13) (by rfl) (by rfl) (by rfl)⟩
 |mem hw d0 d1 s0 s1 n0 n1=>
  rcases hw with rfl|rfl|rfl|rfl
  ·exact⟨_,gd (n:=14) (by decide) rfl rfl rfl rfl rfl rfl d0 d1 s0 s1 n0 n1,QU (c:=14) (by rfl) (by rfl) (by rfl)⟩
  ·exact⟨_,gd (n:=15) (by decide) rfl rfl rfl rfl rfl rfl d0 d1 s0 s1 n0 n1,QU (c:=15) (by rfl) (by rfl) (by rfl)⟩
  ·exact⟨_,gd (n:=16) (by decide) rfl rfl rfl rfl rfl rfl d0 d1 s0 s1 n0 n1,QU (c:=16) (by rfl) (by rfl) (by rfl)⟩
  ·exact⟨_,gd (n:=17) (by decide) rfl rfl rfl rfl rfl rfl d0 d1 s0 s1 n0 n1,QU (c:=17) (by rfl) (by rfl) (by rfl)⟩
theorem SD{m:Int}{r:D}(h:qW m r)(d:Int)(b:Bool):kJ [r,.int d,.bl b]=some (true,.lst ((gg (cJ r) (mJ r) d b).map D.int)):=by
 have pw:qO 2 27=true/\qO 2 24=true/\qO 2 32=true/\uj 134217728=true/\uj 16777216=true/\uj 3=true:=⟨by decide,by decide,by decide,by decide,by decide,by decide⟩
 have one:∀(w k:Str)(c m p:Int)(hi:qD (.lst [.str "jump",.str "when",.str "unless"]) (.str w)=some (.int c)) (hk:qD (.lst [.str "carry",.str "nought",.str "sign"]) (.str k)=some (.int m)) (ne:wu (.str w) (.str "jump")=some (.bl true)),kJ [.tup [.str w,.str k,.int p],.int d,.bl b]=some (true,.lst ((gg c m d b).map D.int)):=λw k c m p hi hk ne=>by
  have i1:zL (.tup [.str w,.str k,.int p]) (.int 1)=some (.str k):=rfl;rw[Fi];unfold Xb gg;cases b
  ·simp![vV,i1,hi,hk,pw,add_int,ne,jT,uV,X5,cond_false,xw,gx]
  ·have e3:(18+c+3:Int)=21+c:=by omega
   simp![vV,i1,hi,hk,pw,add_int,ne,vv,e3,Jo,xw,gx]
 cases h with
 |uY p0 p1=>
  rename_i p;have i0:qD (.lst [.str "jump",.str "when",.str "unless"]) (.str "jump")=some (.int 0):=by rfl
  have ne:wu (.str "jump") (.str "jump")=some (.bl false):=by rfl
  have c0:cJ (.tup [.str "jump",.int p])=0:=by rfl
  have m0:mJ (.tup [.str "jump",.int p])=0:=by rfl
  rw[c0,m0,Fi];unfold Xb gg;cases b
  ·simp![vV,i0,pw,add_int,ne,jT,uV,cond_false,xw,gx,X5,Int.zero_mul]
  ·simp![vV,i0,pw,add_int,ne,vv,Jo,xw,gx,X5,Int.zero_mul]
 |cond hw hk p0 p1=>rcases hw with rfl|rfl<;>rcases hk with rfl|rfl|rfl<;>exact one _ _ _ _ _ (by rfl) (by rfl) (by rfl)
theorem Np{L W:List D}(h1:L.length<=1000)(h2:W.length<=2):Xh (.lst L) (.lst W)=some (.lst (L++W)):=by
 show(if L.length+W.length<=yb then _ else _)=_;rw[zP (by show _<=16777216; omega)]
theorem CB{rows zF:List D}{z8:List Nat}(W:Wr rows zF z8):kM [.lst rows,.lst (za z8)]=some (true,.lst ((yQ rows z8 rows.length).map D.int)):=by
 have hn:=W.hn;have e1:=HQ (rows:=rows) (z8:=z8) (by omega);have e2:Gb [some (false,.lst rows),some (false,.lst (za z8)),some (false,.lst (xI (zJ z8) (rows.length+1))),some (true,.lst []),none,none]=some (wN rows.length):=jK (n:=(rows.length:Int)) rfl (by omega)
 obtain⟨σ',e3,x4,x5,rfl⟩:=tF (g:=zy 4) (b:=QQ) (λi σ=>∃x4 x5,σ=[some (false,.lst rows),some (false,.lst (za z8)),some (false,.lst (xI (zJ z8) (rows.length+1))),some (true,.lst ((yQ rows z8 i).map D.int)),x4,x5]) (ds:=wN rows.length)
  (σ:=[some (false,.lst rows),some (false,.lst (za z8)),some (false,.lst (xI (zJ z8) (rows.length+1))),some (true,.lst []),none,none]) 0 ⟨none,none,rfl⟩ (by
  rintro i v σ hv ⟨x4,x5,rfl⟩;obtain⟨hi,rfl⟩:=ZX hv;rw[xT]at *;obtain⟨y,H⟩:=W.one hi;have eg:rows.getD i .zE=rows[i]:=by rw[wP,yF hi]; rfl
  have al:((yQ rows z8 i).map D.int).length<=900:=by
   have:=W.len (n:=i) (by omega);have:=YD (zJ z8) i;rw[zr];omega
  have ex:zL (.lst rows) (.int (i:Int))=some (rows.getD i .zE):=qY (by omega) (by rw[xB,eg]; exact yF hi);have hR:xr (rows.length:Int) (rows.getD i .zE):=by rw[eg]; exact W.hr _ (vq hi)
  have ej:∃w,zL (rows.getD i .zE) (.int 0)=some (.str w)/\xD (.str w) (.tup [.str "jump",.str "when",.str "unless"])=some (.bl (yj (rows.getD i .zE))):=by
   rcases hR with h|h
   ·obtain⟨w,a,b,_,c,_⟩:=pJ h;exact⟨w,a,by rw[c]; exact b⟩
   ·obtain⟨w,p,a,b,_,c,_⟩:=uh h;exact⟨w,a,by rw[c]; exact b⟩
  obtain⟨w,ew,ein⟩:=ej
  have hin:xD (.int (i:Int)) (.lst (za z8))=some (.bl (zJ z8 i)):=by
   show(pA _ _).bind _=_;rw[QC];rfl
  have s1:(yQ rows z8 (i+1)).map D.int=(yQ rows z8 i).map D.int++(xS rows z8 i).map D.int:=by
   show(yQ rows z8 i++xS rows z8 i).map D.int=_;rw[tR]
  cases hj:yj (rows.getD i .zE)with
  |false=>
   have pr:vy (rows.getD i .zE):=by
    rcases hR with h|h
    ·exact h
    ·obtain⟨_,_,_,_,_,z,_⟩:=uh h;rw[z]at hj;cases hj
   obtain⟨v,w1,w2⟩:=cM pr
   have rv:xS rows z8 i=[v]:=by
    unfold xS jJ;rw[hj,w1.w];rfl
   have hap:=tz (L:=(yQ rows z8 i).map D.int) (r:=.int v) (by omega);rw[hj]at ein;refine⟨_,[some (false,.lst rows),some (false,.lst (za z8)),some (false,.lst (xI (zJ z8) (rows.length+1))),some (true,.lst ((yQ rows z8 (i+1)).map D.int)),some (false,.int (i:Int)),x5],rfl,.inl ?_,_,_,rfl⟩;rw[s1,rv];unfold QQ;generalize (yQ rows z8 i).map D.int=LL at *;generalize rows.getD i .zE=RR at *;simp![ex,ew,ein,w2,hap]
  |true=>
   have jr:qW (rows.length:Int) (rows.getD i .zE):=by
    rcases hR with h|h
    ·obtain⟨_,_,_,_,z,_⟩:=pJ h;rw[z]at hj;cases hj
    ·exact h
   obtain⟨_,p1,tp,_,_,_⟩:=H.jm hj
   have lx:zL (rows.getD i .zE) (.int (-1))=some (.int (xh (rows.getD i .zE):Nat)):=by
    obtain⟨_,p,_,_,_,_,_,l1,l2,_⟩:=uh jr;unfold tgt at tp;rw[hj]at tp;rw[l1,<-tp,<-l2]
   have q4:=SD jr (dJ rows z8 i) (zJ z8 i)
   have rv:xS rows z8 i=gg (cJ (rows.getD i .zE)) (mJ (rows.getD i .zE)) (dJ rows z8 i) (zJ z8 i):=by
    unfold xS;rw[hj];rfl
   rw[<-rv]at q4;have hc:=Np (L:=(yQ rows z8 i).map D.int) (W:=(xS rows z8 i).map D.int) (by omega) (by rw[rv,zr]; unfold gg; cases zJ z8 i<;>simp);have ap:=YE (f:=zJ z8) (n:=rows.length+1) (p:=xh (rows.getD i .zE)) (by omega);have aj:=YE (f:=zJ z8) (n:=rows.length+1) (p:=i) (by omega);rw[hj]at ein;have sb:vT (.int (zh (zJ z8) (xh (rows.getD i .zE)))) (.int (zh (zJ z8) i))=some (.int (dJ rows z8 i)):=rfl;refine⟨_,[some (false,.lst rows),some (false,.lst (za z8)),some (false,.lst (xI (zJ z8) (rows.length+1))),some (true,.lst ((yQ rows z8 (i+1)).map D.int)),some (false,.int (i:Int)),some (false,.int (dJ rows z8 i))],rfl,.inl ?_,_,_,rfl⟩;rw[s1];unfold QQ;generalize (yQ rows z8 i).map D.int=LL at *;generalize (xS rows z8 i).map D.int=WW at *;generalize dJ rows z8 i=DJ at *;generalize zh (zJ z8) (xh (rows.getD i .zE))=AP at *;generalize zh (zJ z8) i=AI at *;generalize xh (rows.getD i .zE)=PP at *;generalize rows.getD i .zE=RR at *;generalize xI (zJ z8) (rows.length+1)=AA at *;have hs:vT (.int AP) (.int AI)=some (.int DJ):=sb;simp only[vT.eq_1]at hs;have hd:AP-AI=DJ:=by injection hs with z; injection z
   simp![ex,ew,ein,lx,ap,aj,hd,hin,q4,hc])
 rw[X1,xT]at e3;rw[RC];unfold T7;simp![e1,e2,e3]
theorem Gf{rows:List D}(hf:∀z8,pp [.lst rows,.lst (za z8)]=some (true,.lst (za (gF rows z8)))):∀{z8 R:List Nat}{k:Nat},vg (gF rows) z8 R k->
  va Te LN (k+1) [some (false,.lst rows),some (false,.lst (za z8)),some (false,.lst (za (gF rows z8)))]=some (.nx [some (false,.lst rows),some (false,.lst (za R)),some (false,.lst (za []))])
 |z8,_,_,.stop e=>by
  rw[JH]
  ·rw[e]
  ·have h:=QX (za (gF rows z8));rw[e]at h ⊢;unfold Te;simp![h];rfl
 |z8,_,_,.go e h r=>by
  rw[JI (σ':=[some (false,.lst rows),some (false,.lst (za (uq (z8++gF rows z8)))),some (false,.lst (za (gF rows (uq (z8++gF rows z8)))))]) ?_ ?_]
  ·exact Gf hf r
  ·have h:=QX (za (gF rows z8));rw[FP,ye e]at h;unfold Te;simp![h]
  ·have h1:=DH h;have h2:=HJ h;have h3:=hf (uq (z8++gF rows z8));unfold LN;simp![h1,h2,h3]
theorem Ge{rows:List D}(hr:∀r∈rows,xr (rows.length:Int) r)(hn:rows.length<64){far0:List Nat}(g0:qz rows.length far0):∃R k,vg (gF rows) far0 R k/\pq [.lst rows,.lst (za far0)]=some (false,.lst (za R)):=by
 obtain⟨R,k,hR,hk,gr⟩:=MH hn (λz8=>Fj (rows:=rows)) rows.length far0 g0 (Nat.sub_le _ _);have hf:∀z8,pp [.lst rows,.lst (za z8)]=some (true,.lst (za (gF rows z8))):=λz8=>AG hr (by omega)
 have e1:=Gf hf hR;have e2:=WH _ e1 (xj (show k+1<=65 by omega) (by decide));have e3:=hf far0;refine⟨R,k,hR,?_⟩;rw[R8];unfold T4;simp![e3,e2]
theorem NE{rows:List D}(hr:∀r∈rows,xr (rows.length:Int) r)(hn:rows.length<64)(c m:Int):∃far0 R k,(∀i∈far0,yj (rows.getD i .zE)=true)/\vg (gF rows) far0 R k/\Y0 [.lst rows,.int c,.int m]=some (false,.lst (za R)):=by
 obtain⟨far0,e0⟩:∃f:List Nat,f=(wX rows).filter λi:Nat=>decide (wJ c (i:Int)%4<m):=⟨_,rfl⟩
 have g0:qz rows.length far0:=by
  rw[e0];refine⟨(BR.sublist BM).sublist BM,λx hx=>?_⟩;exact(Xs (vL.mp hx).1).1
 obtain⟨R,k,hR,e4⟩:=Ge hr hn g0;have ej:=L9 hr (by omega)
 have el:xK (zy 3) JP JK [some (false,.lst rows),some (false,.int c),some (false,.int m),none] ((wX rows).map λi:Nat=>D.int i)=some (za far0):=by
  have h2:=gD (g:=zy 3) (c:=JP) (e:=JK) (σ:=[some (false,.lst rows),some (false,.int c),some (false,.int m),none]) (λd=>match d with|.int i=>decide (wJ c i%4<m)|_=>false) id (ds:=(wX rows).map λi:Nat=>D.int i) λd hd=>by
   obtain⟨i,_,rfl⟩:=xQ.mp hd;have hm:=jG c (i:Int);refine⟨_,rfl,?_,λ_=>?_⟩
   ·unfold JP;show tE _ [some (false,.lst rows),some (false,.int c),some (false,.int m),some (false,.int (i:Int))]=_;simp![hm]
   ·unfold JK;rfl
  rw[h2,e0];unfold za;rw[gu,Je];rfl
 refine⟨far0,R,k,λi hi=>?_,hR,?_⟩
 ·rw[e0]at hi;exact(Xs (vL.mp hi).1).2
 ·rw[Pz];unfold Uy;simp![ej,qk,el,e4]
theorem AH{rows:List D}(hr:∀r∈rows,xr (rows.length:Int) r)(hn:rows.length<64):∃(R:List Nat) (k:Nat),vg (gF rows) [] R k/\Y4 [.lst rows]=some (false,.lst (za R)):=by
 obtain⟨R,k,hR,e4⟩:=Ge hr hn (far0:=[]) ⟨Jj,λ_ h=>by cases h⟩;have e4:pq [.lst rows,.lst []]=some (false,.lst (za R)):=e4;refine⟨R,k,hR,?_⟩;rw[R7];unfold T3;simp![e4]
def xZ(rows:List D):List D:=(List.range rows.length).map (t5 rows)
def yZ(rows:List D):List (Option Nat):=(List.range rows.length).map (uR rows)
theorem Xe(rows:List D):(xZ rows).length=rows.length:=by unfold xZ; rw[zr,vD]
theorem Df{rows:List D}{i:Nat}(h:i<rows.length):(xZ rows).getD i .zE=t5 rows i:=by
 unfold xZ;rw[wP,xH,qo h];rfl
theorem Hd{rows:List D}{i:Nat}(h:i<rows.length):(yZ rows).getD i none=uR rows i:=by
 unfold yZ;rw[wP,xH,qo h];rfl
theorem L8{m:Int}{r:D}(h:qW m r):∃hd:List D,qZ r=.tup hd/\hd≠[]/\hd.length<=2/\Tr r none (some (-1))=some (.tup hd)/\zL r (.int (-1))=some (.int (xh r:Nat))/\(∀x∈hd,∃s,x=.str s)/\(xh r:Int)<=m:=by
 cases h with
 |uY p0 p1=>
  rename_i p;have e:xh (.tup [.str "jump",.int p])=p.toNat:=rfl;refine⟨[.str "jump"],rfl,by simp,by simp,rfl,?_,λx hx=>⟨_,w_.mp hx⟩,by rw[e]; omega⟩;rw[e,show((p.toNat:Nat):Int)=p by omega];rfl
 |cond hw hk p0 p1=>
  rename_i w k p;have e:xh (.tup [.str w,.str k,.int p])=p.toNat:=rfl;refine⟨[.str w,.str k],rfl,by simp,by simp,rfl,?_,λx hx=>?_,by rw[e]; omega⟩
  ·rw[e,show((p.toNat:Nat):Int)=p by omega];rfl
  ·rcases yV.mp hx with rfl|hx
   ·exact⟨_,rfl⟩
   ·exact⟨_,w_.mp hx⟩
section
variable{rows:List D}(hr:∀r∈rows,xr (rows.length:Int) r)(hn:rows.length<=60)
include hr
theorem MJ{i:Nat}(hi:i<rows.length):zL (.lst rows) (.int (i:Int))=some (rows.getD i .zE)/\xr (rows.length:Int) (rows.getD i .zE):=by
 have eg:rows.getD i .zE=rows[i]:=by rw[wP,yF hi]; rfl
 rw[eg];exact⟨qY (by omega) (by rw[xB]; exact yF hi),hr _ (vq hi)⟩
theorem QK{i:Nat}(hi:i<rows.length)(hj:yj (rows.getD i .zE)=true):qW (rows.length:Int) (rows.getD i .zE):=by
 rcases(MJ hr hi).2 with h|h
 ·obtain⟨_,_,_,_,z,_⟩:=pJ h;rw[z]at hj;cases hj
 ·exact h
theorem He:∀p,some p∈yZ rows->p<=rows.length:=λp hp=>by
 obtain⟨i,hi,e⟩:=xQ.mp hp;have hi:=vd.mp hi;unfold uR at e;cases hj:yj (rows.getD i .zE)with
 |false=>rw[hj]at e; cases e
 |true=>
  rw[hj]at e;cases e;obtain⟨_,_,_,_,_,_,_,h⟩:=L8 (QK hr hi hj);omega
omit hr in
include hn in
theorem En:(yL rows.length (yZ rows)).length<=60:=by
 have nd:=Eo rows.length (yZ rows)
 have sub:∀x∈yL rows.length (yZ rows),x∈pP (yZ rows):=λx hx=>by
  unfold yL at hx;rw[Qh]at hx;exact v3 hx.2
 have:=List.Nodup.length_le_of_subset nd sub;have l2:(pP (yZ rows)).length<=(yZ rows).length:=KU _ _;have l3:(yZ rows).length=rows.length:=by unfold yZ; rw[zr,vD]
 omega
def LZ(rows:List D)(i:Nat):List D:=if i<=rows.length then xW (xZ rows) (yZ rows) i else wI (xZ rows) (yZ rows)
omit hr in
theorem SX(i:Nat):(LZ rows i).length<=2*rows.length+1:=by
 unfold LZ
 split
 ·rename_i h;have:=Xw (xZ rows) (yZ rows) i;omega
 ·unfold wI;rw[ya];have:=Xw (xZ rows) (yZ rows) (xZ rows).length;have:=LS (xZ rows).length (yZ rows) (xZ rows).length;rw[Xe]at *;omega
def XW(d:D):Prop:=∃xs,d=.tup xs/\xs.length<=1000/\∀x∈xs,(∃s,x=.str s)\/∃i,x=.int i
theorem SY:∀d∈wI (xZ rows) (yZ rows),XW d:=by
 have at_:∀i,∀d∈wB (xZ rows).length (yZ rows) i,XW d:=λi d hd=>by
  unfold wB at hd
  split at hd
  ·rw[w_.mp hd]
   exact⟨_,rfl,by simp,λx hx=>by
    rcases yV.mp hx with rfl|hx
    ·exact .inl ⟨_,rfl⟩
    ·exact .inl ⟨_,w_.mp hx⟩⟩
  ·cases hd
 have lg:∀i,i<=rows.length->∀d∈xW (xZ rows) (yZ rows) i,XW d:=λi=>by
  induction i with
  |zero=>exact λ_ d hd=>by cases hd
  |succ i ih=>
   intro hi d hd;unfold xW at hd;rcases u9.mp hd with hd|hd
   ·exact ih (by omega) d hd
   ·rcases u9.mp hd with hd|hd
    ·exact at_ i d hd
    ·rw[w_.mp hd,Df hi,Hd hi];cases hj:yj (rows.getD i .zE)with
     |true=>
      obtain⟨h,b1,_,b3,_,_,b6,_⟩:=L8 (QK hr hi hj);have et:uR rows i=some (xh (rows.getD i .zE)):=by unfold uR; rw[hj]; rfl
      have eb:t5 rows i=.tup h:=by unfold t5; rw[hj]; exact b1
      rw[et,eb];refine⟨h++[.str _],rfl,by rw[ya]; simp only[xf,jX]; omega,λx hx=>?_⟩;rcases u9.mp hx with hx|hx
      ·exact .inl (b6 x hx)
      ·exact .inl ⟨_,w_.mp hx⟩
     |false=>
      have et:uR rows i=none:=by unfold uR; rw[hj]; rfl
      have eb:t5 rows i=rows.getD i .zE:=by unfold t5; rw[hj]; rfl
      rw[et,eb];show XW (rows.getD i .zE)
      have pr:vy (rows.getD i .zE):=by
       rcases(MJ hr hi).2 with h|h
       ·exact h
       ·obtain⟨_,_,_,_,_,z,_⟩:=uh h;rw[z]at hj;cases hj
      generalize rows.getD i .zE=RR at pr;cases pr with
      |stop=>exact⟨_,rfl,by simp,λx hx=>.inl ⟨_,w_.mp hx⟩⟩
      |Zp=>exact⟨_,rfl,by simp,λx hx=>by simp only[yV,wb,or_false]at hx; rcases hx with rfl|rfl|rfl<;>simp⟩
      |two=>exact⟨_,rfl,by simp,λx hx=>by simp only[yV,wb,or_false]at hx; rcases hx with rfl|rfl|rfl<;>simp⟩
      |Zq=>exact⟨_,rfl,by simp,λx hx=>by simp only[yV,wb,or_false]at hx; rcases hx with rfl|rfl|rfl<;>simp⟩
      |mem=>exact⟨_,rfl,by simp,λx hx=>by simp only[yV,wb,or_false]at hx; rcases hx with rfl|rfl|rfl|rfl<;>simp⟩
 intro d hd;unfold wI at hd;rw[Xe]at hd;rcases u9.mp hd with hd|hd
 ·exact lg _ (zt _) d hd
 ·exact at_ rows.length d (by rw[Xe]; exact hd)
end
theorem oA{L:List D}(h:∀d∈L,XW d):tH 6 (.lst L)=true:=vB.mpr λd hd=>by
 obtain⟨xs,rfl,_,hx⟩:=h d hd;refine vB.mpr λx hxx=>?_
 rcases hx x hxx with⟨s,rfl⟩|⟨i,rfl⟩<;>rfl
def gR(L:List D):List D:=L.filter λd=>!yD d
theorem Tg(a b:Str):(a++b).cps.toList=a.cps.toList++b.cps.toList:=KA
theorem AR{a b:Nat}(ha:a<702)(hb:b<702)(h:nm a=nm b):a=b:=by
 have h1:=congrArg (λz:Str=>z.cps.toList) h;have lc:∀x:Int,(lt x).cps.toList=[97+x.toNat]:=λ_=>rfl
 have le:(("" : Str)).cps.toList=[]:=rfl;unfold nm at h1;by_cases ca:a<26
 ·by_cases cb:b<26
  ·simp only[zP ca,zP cb,Tg,lc,le,vC,Za]at h1;omega
  ·simp only[zP ca,zS cb,Tg,lc,le,vC,jV,gy,Za]at h1;exact absurd h1.2 (λz=>nomatch z)
 ·by_cases cb:b<26
  ·simp only[zS ca,zP cb,Tg,lc,le,vC,jV,gy,Za]at h1;exact absurd h1.2 (λz=>nomatch z)
  ·simp only[zS ca,zS cb,Tg,lc,le,vC,jV,gy,Za]at h1;omega
section
variable{n:Nat}{tgs:List (Option Nat)}
theorem AQ(hn:(yL n tgs).length<=60){p q:Nat}(hp:p∈yL n tgs)(hq:q∈yL n tgs)(h:w4 n tgs p=w4 n tgs q):p=q:=by
 have a:=KR hp;have b:=KR hq;have e:=AR (by omega) (by omega) h;have ga:(yL n tgs)[(yL n tgs).idxOf p]=p:=KQ a;have gb:(yL n tgs)[(yL n tgs).idxOf q]=q:=KQ b;rw[<-ga,<-gb]
 exact congrArg (λi=>(yL n tgs).getD i 0) e |> λz=>by
  rw[wP,wP,yF a,yF b]at z;exact z
end
structure jy(rows:List D)(tgs:List (Option Nat)):Prop where
 Ku:(yL rows.length tgs).length<=60
 ln:tgs.length=rows.length
 le:∀p,some p∈tgs->p<=rows.length
 nl:∀i,i<rows.length->yD (pK rows.length tgs (rows.getD i .zE) (tgs.getD i none))=false
section
variable{rows:List D}{tgs:List (Option Nat)}
theorem LT{n p:Nat}:∀d∈wB n tgs p,yD d=true:=λd hd=>by
 unfold wB at hd
 split at hd
 ·cases w_.mp hd;rfl
 ·cases hd
theorem C9{n p:Nat}:gR (wB n tgs p)=[]:=List.filter_eq_nil_iff.mpr λd hd=>by
 rw[LT d hd]
 decide
theorem ML(a b:List D):gR (a++b)=gR a++gR b:=qS ..
theorem Qn(Y:jy rows tgs):∀i,i<=rows.length->gR (xW rows tgs i)=(List.range i).map λj=>pK rows.length tgs (rows.getD j .zE) (tgs.getD j none)
 |0,_=>rfl
 |i+1,h=>by
  unfold xW;rw[ML,ML,Qn Y i (by omega),C9,gy,Zf,tR]
  congr 1
  show List.filter _ [_]=_;rw[qm (by rw[Y.nl i (by omega)]; rfl)];rfl
theorem dU(Y:jy rows tgs):gR (wI rows tgs)=(List.range rows.length).map λj=>pK rows.length tgs (rows.getD j .zE) (tgs.getD j none):=by
 unfold wI;rw[ML,Qn Y _ (zt _),C9,vC]
theorem CA(Y:jy rows tgs):∀i,i<=rows.length->(xW rows tgs i).filter yD=((List.range i).filter λp=>decide (p∈yL rows.length tgs)).map λp=>wo (w4 rows.length tgs p)
 |0,_=>rfl
 |i+1,h=>by
  unfold xW;rw[qS,qS,CA Y i (by omega),Zf,qS,tR]
  congr 1
  rw[jW (by rw[Y.nl i (by omega)]; decide),BL,vC,BK.mpr LT];unfold wB;by_cases c:i∈yL rows.length tgs
  ·rw[zP c,qm (by rw[ye c])];rfl
  ·rw[zS c,jW (by rw[yh c]; decide)];rfl
theorem Sc(Y:jy rows tgs):(wI rows tgs).filter yD=((List.range (rows.length+1)).filter λp=>decide (p∈yL rows.length tgs)).map λp=>wo (w4 rows.length tgs p):=by
 unfold wI;rw[qS,CA Y _ (zt _),Zf,qS,tR]
 congr 1
 rw[BK.mpr LT];unfold wB;by_cases c:rows.length∈yL rows.length tgs
 ·rw[zP c,qm (by rw[ye c])];rfl
 ·rw[zS c,jW (by rw[yh c]; decide)];rfl
theorem Er(Y:jy rows tgs){q:Nat}(hq:q∈yL rows.length tgs)(L:List D)(i:Nat)(hi:(gR L).length=i)(h:(xi (w4 rows.length tgs q) L).2=if q<i then some q else none):(xi (w4 rows.length tgs q) (L++wB rows.length tgs i)).2=if q<i+1 then some q else none:=by
 unfold wB;by_cases c:i∈yL rows.length tgs
 ·rw[zP c,W8];by_cases e:i=q
  ·subst e;rw[zP rfl,zP (by omega)];exact congrArg some hi
  ·rw[zS (λz=>e (AQ Y.Ku c hq z)),h];by_cases z:q<i
   ·rw[zP z,zP (by omega)]
   ·rw[zS z,zS (by omega)]
 ·rw[zS c,vC,h];have e:i≠q:=λz=>c (z▸hq)
  by_cases z:q<i
  ·rw[zP z,zP (by omega)]
  ·rw[zS z,zS (by omega)]
theorem Es(Y:jy rows tgs){q:Nat}(hq:q∈yL rows.length tgs):∀i,i<=rows.length->(xi (w4 rows.length tgs q) (xW rows tgs i)).2=if q<i then some q else none
 |0,_=>rfl
 |i+1,h=>by
  unfold xW;rw[<-gk,L_ (Y.nl i (by omega))];exact Er Y hq _ i (by rw[Qn Y i (by omega),zr,vD]) (Es Y hq i (by omega))
theorem cP(Y:jy rows tgs){q:Nat}(hq:q∈yL rows.length tgs):(xi (w4 rows.length tgs q) (wI rows tgs)).2=some q:=by
 unfold wI;rw[Er Y hq _ rows.length (by rw[Qn Y _ (zt _),zr,vD]) (Es Y hq _ (zt _))];have:=(Ly Y.le).mp hq;have:=Y.le q this;rw[zP (by omega)]
end
def DQ:FS:=
 (zO (MN (ze Y1 (zB (z7 0) zG)) (v6 1 2))
  (zO (zf 3 (ze ux (zB (z7 0) (zB (eC (.int 2)) zG))))
  (zO (zf 4 (ze Y4 (zB (z7 1) zG)))
  (zO (zf 5 (ze kM (zB (z7 1) (zB (ze Y0 (zB (z7 1) (zB (z7 3) (zB (e2 yS (eC (.int 1)) (e2 yk (z7 3) (eC (.int 4)))) zG)))) zG))))
  (zO (zf 6 (qB jq (zB (z7 5) zG)))
  (zO (yR (tE (e2 wu (z7 6) (qB jq (zB (qB kQ (zB (z7 2) zG)) zG))))
   (yA (eC (.bl false)))
   ym)
  (zO (zf 7 (qB kQ (zB (z7 6) zG)))
  (yA (Tj (e2 yE (z7 7) (ze kM (zB (z7 1) (zB (z7 4) zG)))) (e2 (xV λi j=>decide (i<=j)) (eL xg (zB (z7 7) zG)) (eL xg (zB (z7 5) zG))))))))))))
theorem MG{g:List Nat->List Nat}:∀{z8 R R':List Nat}{k k':Nat},vg g z8 R k->vg g z8 R' k'->R=R'
 |_,_,_,_,_,.stop _,.stop _=>rfl
 |_,_,_,_,_,.stop e,.go e' _ _=>absurd e e'
 |_,_,_,_,_,.go e _ _,.stop e'=>absurd e' e
 |_,_,_,_,_,.go _ _ r,.go _ _ r'=>MG r r'
theorem Rx{m:Int}{r:D}(h:qW m r)(t:Str):wU (YF (qZ r) t)/\yD (YF (qZ r) t)=false/\yj (YF (qZ r) t)=true/\zL (YF (qZ r) t) (.int (-1))=some (.str t)/\By r (YF (qZ r) t)/\yD r=false:=by
 cases h with
 |uY p0 p1=>exact⟨.uY t,rfl,rfl,rfl,⟨(λz=>by cases z),λ_=>⟨[.str "jump"],_,t,rfl,rfl⟩⟩,rfl⟩
 |cond hw hk p0 p1=>
  rename_i w k p;exact⟨.cond t hw hk,by rcases hw with rfl|rfl<;>rfl,by rcases hw with rfl|rfl<;>rfl,rfl,⟨(λz=>by rcases hw with rfl|rfl<;>cases z),λ_=>⟨[.str w,.str k],_,t,rfl,rfl⟩⟩,by rcases hw with rfl|rfl<;>rfl⟩
section
variable{rows:List D}(hr:∀r∈rows,xr (rows.length:Int) r)(hn:rows.length<=60)
include hr hn
theorem Sg:jy (xZ rows) (yZ rows)/\∀i,i<rows.length->∀L:List D,(∀q∈yL rows.length (yZ rows),(xi (w4 rows.length (yZ rows) q) L).2=some q)->vO L (rows.getD i .zE) (pK rows.length (yZ rows) ((xZ rows).getD i .zE) ((yZ rows).getD i none)):=by
 have hL:∀i,i<rows.length->(wU (pK rows.length (yZ rows) ((xZ rows).getD i .zE) ((yZ rows).getD i none))/\yD (pK rows.length (yZ rows) ((xZ rows).getD i .zE) ((yZ rows).getD i none))=false)/\∀L:List D,(∀q∈yL rows.length (yZ rows),(xi (w4 rows.length (yZ rows) q) L).2=some q)->vO L (rows.getD i .zE) (pK rows.length (yZ rows) ((xZ rows).getD i .zE) ((yZ rows).getD i none)):=λi hi=>by
  rw[Df hi,Hd hi];cases hj:yj (rows.getD i .zE)with
  |false=>
   have et:uR rows i=none:=by unfold uR; rw[hj]; rfl
   have eb:t5 rows i=rows.getD i .zE:=by unfold t5; rw[hj]; rfl
   rw[et,eb]
   have pr:vy (rows.getD i .zE):=by
    rcases(MJ hr hi).2 with h|h
    ·exact h
    ·obtain⟨_,_,_,_,_,z,_⟩:=uh h;rw[z]at hj;cases hj
   obtain⟨_,_,_,l,_⟩:=WG (m:=0) (.inl pr);exact⟨⟨.plain pr,l⟩,λL _=>⟨.plain pr,rfl,⟨λ_=>rfl,λz=>by rw[hj]at z; cases z⟩,rfl,λz=>by rw[hj]at z; cases z⟩⟩
  |true=>
   have jr:=QK hr hi hj;have et:uR rows i=some (xh (rows.getD i .zE)):=by unfold uR; rw[hj]; rfl
   have eb:t5 rows i=qZ (rows.getD i .zE):=by unfold t5; rw[hj]; rfl
   rw[et,eb];have pm:xh (rows.getD i .zE)∈yL rows.length (yZ rows):=(Ly (He hr)).mpr (xQ.mpr ⟨i,vd.mpr hi,et⟩);obtain⟨a1,a2,a3,a4,a5,a6⟩:=Rx jr (w4 rows.length (yZ rows) (xh (rows.getD i .zE)));refine⟨⟨a1,a2⟩,λL hq=>⟨a1,a2.trans a6.symm,a5,a3.trans hj.symm,λ_=>⟨_,_,a4,hq _ pm,?_⟩⟩⟩;obtain⟨_,p,_,_,_,_,_,l1,l2,p0,_⟩:=uh jr;have hp:xh (rows.getD i .zE)=p.toNat:=by unfold xh; rw[l2]
   rw[l2,hp]
   congr 1
   omega
 have bl:=Xe rows;refine⟨⟨?_,?_,?_,?_⟩,λi hi=>(hL i hi).2⟩
 ·rw[bl];exact En hn
 ·rw[bl];unfold yZ;rw[zr,vD]
 ·rw[bl];exact He hr
 ·rw[bl];exact λi hi=>(hL i hi).1.2
theorem Pc:(∀d∈wI (xZ rows) (yZ rows),wU d)/\(wI (xZ rows) (yZ rows)).length<=1000/\wF (vO (wI (xZ rows) (yZ rows))) rows ((wI (xZ rows) (yZ rows)).filter λd=>!yD d):=by
 obtain⟨Y,F⟩:=Sg hr hn;have bl:=Xe rows;have ra:=dU Y;have la:=Sc Y
 have pa:∀q∈yL rows.length (yZ rows),(xi (w4 rows.length (yZ rows) q) (wI (xZ rows) (yZ rows))).2=some q:=λq hq=>by
  have:=cP Y (q:=q) (by rw[bl]; exact hq);rw[bl]at this;exact this
 rw[bl]at ra la
 have he:wF (vO (wI (xZ rows) (yZ rows))) rows ((wI (xZ rows) (yZ rows)).filter λd=>!yD d):=by
  show wF _ rows (gR (wI (xZ rows) (yZ rows)));rw[ra];refine FC (by rw[zr,vD]) λi x y hx hy=>?_
  have hi:=(yx.mp hx).1;rw[xH,qo hi]at hy;cases hy;have eg:rows.getD i .zE=x:=by rw[wP,hx]; rfl
  rw[<-eg];exact F i hi _ pa
 refine⟨λd hd=>?_,?_,he⟩
 ·cases z:yD d with
  |true=>
   have:d∈(wI (xZ rows) (yZ rows)).filter yD:=vL.mpr ⟨hd,z⟩;rw[la]at this;obtain⟨p,_,rfl⟩:=xQ.mp this;exact .label _
  |false=>
   have:d∈(wI (xZ rows) (yZ rows)).filter λd=>!yD d:=vL.mpr ⟨hd,by rw[z]; rfl⟩
   obtain⟨x,_,h⟩:=O0 he d this;exact h.1
 ·have:=SX (rows:=rows) (rows.length+1);unfold LZ at this;rw[zS (by omega)]at this;omega
theorem Gg{zF:List D}{z8:List Nat}(W:Wr rows zF z8):jq [.lst ((yQ rows z8 rows.length).map D.int)]=some (true,.lst (wI (xZ rows) (yZ rows))):=
 dP W.tb (En hn) λi p hi h=>by
  unfold uR at h;cases hj:yj (rows.getD i .zE)with
  |false=>rw[hj]at h; cases h
  |true=>
   obtain⟨hd,b1,b2,b3,_⟩:=L8 (QK hr hi hj);exact⟨hd,by unfold t5; rw[hj]; exact b1,b2,b3⟩
end
theorem e8:∀ns:List Int,ns.length<=63->(∀m∈ns,kj m<=1048576)->∃o,zd 8 DQ [.lst (ns.map D.int)]=some (o,.bl true):=λns hl hb=>by
 refine⟨false,?_⟩;obtain⟨rows,zF,h1,h2,h3,h4,h5,eb⟩:=NV ns;have ec:=Xf ns (k:=2) (by omega);generalize t6 ns 2=c at ec;generalize D.lst (ns.map D.int)=s at eb ec ⊢;obtain⟨R,k,hR,ew,eW⟩:=Hx h3 h5 h4 h2 (by omega);obtain⟨R1,k1,hR1,en⟩:=AH h2 (by omega);have e1:=MG hR1 hR;subst e1;obtain⟨far0,R2,k2,j0,hR2,ea⟩:=NE h2 (by omega) c (1+c%4);have W2:Wr rows zF R2:=⟨h3,h5,h4,h2,by omega,Qm hR2,λi hi=>MI hR2 j0 i (QF.mp hi)⟩;have el:=CB ew;have el2:=CB W2;have r1:=Gg h2 h1 ew;have r2:=Gg h2 h1 W2;obtain⟨f1,f2,f3⟩:=Pc h2 h1;obtain⟨R3,k3,hR3,W3,eA⟩:=Hx f1 f2 f3 h2 (by omega);have e3:=MG hR3 hR;subst e3
 have le:((yQ rows R3 rows.length).length:Int)<=((yQ rows R2 rows.length).length:Int):=by
  rw[W3.len (zt _),W2.len (zt _)];have sb:=Gi h2 (Qm hR2) hR (λ_ h=>by cases h);have:=Ui (f:=zJ R3) (g:=zJ R2) (λn hn=>QF.mpr (sb n (QF.mp hn))) 0 rows.length;rw[xT]at this;have z1:zh (zJ R3) 0=0:=rfl;have z2:zh (zJ R2) 0=0:=rfl;omega
 have q1:=CM (oA (SY h2))
 have q2:=PN (d:=.lst ((yQ rows R3 rows.length).map D.int)) (vB.mpr λd hd=>by
  obtain⟨v,_,rfl⟩:=xQ.mp hd;rfl)
 have ln1:((yQ rows R3 rows.length).map D.int).length=(yQ rows R3 rows.length).length:=zr _;have ln2:((yQ rows R2 rows.length).map D.int).length=(yQ rows R2 rows.length).length:=zr _;rw[<-ln1,<-ln2]at le;have dl:=ye le;unfold DQ;generalize (yQ rows R3 rows.length).map D.int=WW at *;generalize (yQ rows R2 rows.length).map D.int=WV at *;generalize wI (xZ rows) (yZ rows)=LA at *;simp![MN,eb,ec,en,ea,el,el2,r1,r2,eW,eA,q1,q2,dl,add_int]
end L3
namespace My
open PySem L2 L3
set_option maxHeartbeats 4000000
def top(i:Nat):Stmt:=PySem.Challenge.pw_markrun_k32_far_ones_read.main.body.getD i (.Pass ⟨0,0,0,0⟩)
section
variable{P:Program}{w:World}{K:W.Frag}{mg:Str->Option Value}{base:Heap}{tY:Addr}{pY:Addr}{je:Addr}{jg:Addr}{vN:Addr}{tX:Addr}{uD:Addr}{uC:Addr}
abbrev V3:Stmt:=top 6
theorem h_:y9 ["word", "low", "width"] ["word", "low", "width"] (zw V3):=⟨rfl,rfl,rfl,by decide +kernel,rfl,by decide +kernel,by decide +kernel⟩
theorem aV(d:zK K mg "part" V3 ["word", "low", "width"]):zR P w K mg base "part" ["word", "low", "width"] 1 (zT K Y7):=
 zK.yI d h_ (by decide) fB λf cdv A outer s H E hr=>(zY (yC (zW EZ Lo (zW bH ab (zA 0) (zA 1)) (zW tK tI (zW Yo Ym zH (zA 2)) zH))))
abbrev VF:Stmt:=top 7
theorem Gx:y9 ["word", "low", "width", "number", "there"] ["word", "low", "width", "number"] (zw VF):=⟨rfl,rfl,rfl,by decide +kernel,rfl,by decide +kernel,by decide +kernel⟩
theorem ar(d:zK K mg "with_part" VF ["word", "low", "width", "number"]):zR P w K mg base "with_part" ["word", "low", "width", "number"] 1 (zT K Y9):=
 zK.yI d Gx (by decide) fO λf cdv A outer s H E hr=>(zQ (zn (i:=4) Gx.nd rfl (Or.inl rfl) (zW Yo Ym (zW tK tI (zW Yo Ym zH (zA 2)) zH) (zA 1)))
  (zY (yC (zW bG Lo (zW EZ Lo (zA 0) (vo rN rM (zA 4))) (zW Yo Ym (zA 3) (zA 1))))))
abbrev V8:Stmt:=top 8
theorem Gs:y9 ["number", "width", "power"] ["number", "width"] (zw V8):=⟨rfl,rfl,rfl,by decide +kernel,rfl,by decide +kernel,by decide +kernel⟩
theorem ac(d:zK K mg "signed" V8 ["number", "width"]):zR P w K mg base "signed" ["number", "width"] 1 (zT K qy):=
 zK.yI d Gs (by decide) fG λf cdv A outer s H E hr=>(zQ (zn (i:=2) Gs.nd rfl (Or.inl rfl) (zW Yo Ym zH (zA 1)))
  (zY (yC (tL (y2 uQ wC (zI (zW qh Qa zH (zA 0))) (zI (zA 2)) (yB _)) (zA 0) (zW tK tI (zA 0) (zA 2))))))
abbrev VC:Stmt:=top 9
theorem Gw:y9 ["number", "width", "power"] ["number", "width"] (zw VC):=⟨rfl,rfl,rfl,by decide +kernel,rfl,by decide +kernel,by decide +kernel⟩
theorem am(d:zK K mg "unsigned" VC ["number", "width"]):zR P w K mg base "unsigned" ["number", "width"] 1 (zT K ju):=
 zK.yI d Gw (by decide) fL λf cdv A outer s H E hr=>(zQ (zn (i:=2) Gw.nd rfl (Or.inl rfl) (zW Yo Ym zH (zA 1)))
  (zQ (yn (ZU (J4 (y2 uQ wC (zI (zW qh Qa zH (zA 0))) (zI (vo u8 u7 (zA 2))) (yB _)) (J5 (y2 Qe wC (zI (zW qh Qa zH (zA 0))) (zI (zA 2)) (yB _)))))
   HN
   xF)
  (zY (yC (tL (y2 Qe wC (zI (zA 0)) (zI zH) (yB _)) (zA 0) (zW yu yt (zA 0) (zA 2)))))))
abbrev V4:Stmt:=top 21
theorem i4:y9 ["kind", "field"] ["kind", "field"] (zw V4):=⟨rfl,rfl,rfl,by decide +kernel,rfl,by decide +kernel,by decide +kernel⟩
theorem aW(d:zK K mg "place_in_word" V4 ["kind", "field"])(OG:yf mg "NUMBER_WIDTHS" (.ref jg))(M7:wH K w jg OK ON)(OF:yf mg "NUMBER_LOW" (.int 0))(M6:∀H,zi K H (.int 0) (.int 0))(vU:yf mg "PLACES" (.ref vN))(vX:wH K w vN wV wW):zR P w K mg base "place_in_word" ["kind", "field"] 1 (zT K wG):=
 zK.yI d i4 (by decide) fC λf cdv A outer s H E hr=>(zQ (yn (y2 (vJ (x_ hr)) vI (zI (zA 1)) (zI zp) (yB _))
   (zY (yC (wL (zC (qj OF M6 rfl) (zC (uo OG M7 rfl (zA 0)) zN)) (yK (zX (zX yN)) (by decide)))))
   xF)
  (zY (yC (uo vU vX rfl (zA 1)))))
abbrev V2:Stmt:=top 22
theorem hX:y9 ["word", "place"] ["word", "place"] (zw V2):=⟨rfl,rfl,rfl,by decide +kernel,rfl,by decide +kernel,by decide +kernel⟩
theorem aU(d:zK K mg "number_at" V2 ["word", "place"])(Op:zR P w K mg base "part" ["word", "low", "width"] 1 (zT K Y7)):zR P w K mg base "number_at" ["word", "place"] 2 (zT K uy):=
 zK.yI d hX (by decide) fA λf cdv A outer s H E hr=>(zY (yC (zj Op hr rfl (zC (zA 0) (zC (zm (zk (zc hr)) zl (zA 1) zH) (zC (zm (zk (zc hr)) zl (zA 1) zH) zN))))))
abbrev VE:Stmt:=top 23
theorem i6:y9 ["word", "place", "number"] ["word", "place", "number"] (zw VE):=⟨rfl,rfl,rfl,by decide +kernel,rfl,by decide +kernel,by decide +kernel⟩
theorem aq(d:zK K mg "with_number" VE ["word", "place", "number"])(Ou:zR P w K mg base "with_part" ["word", "low", "width", "number"] 1 (zT K Y9)):zR P w K mg base "with_number" ["word", "place", "number"] 2 (zT K uF):=
 zK.yI d i6 (by decide) fN λf cdv A outer s H E hr=>(zY (yC (zj Ou hr rfl (zC (zA 0) (zC (zm (zk (zc hr)) zl (zA 1) zH) (zC (zm (zk (zc hr)) zl (zA 1) zH) (zC (zA 2) zN)))))))
abbrev WP:Stmt:=top 24
theorem fj:y9 ["kind"] ["kind"] (zw WP):=⟨rfl,rfl,rfl,by decide +kernel,rfl,by decide +kernel,by decide +kernel⟩
theorem Ah(d:zK K mg "fields_in_word" WP ["kind"])(OB:yf mg "FIELDS" (.ref je))(M2:wH K w je OJ OM):zR P w K mg base "fields_in_word" ["kind"] 1 (zT K wq):=
 zK.yI d fj (by decide) di λf cdv A outer s H E hr=>(zY (qQ (u4 rfl (wj (own:=["field"]) rfl) (tN (uo OB M2 rfl (zA 0))) (v4 (λC s H fp pn=>(yl (i:=1) (show(xz ["kind"] ["field"]).Nodup by decide +kernel) rfl (Or.inl rfl))) rfl) (λC s H fp pn=>(pO (y2 (gI (x_ hr)) gH (zI (zA 1)) (zI zp) (yB _)))) (λC s H fp pn=>(zA 1)))))
abbrev WQ:Stmt:=top 25
theorem Yu:y9 ["row", "code", "word", "field", "held", "number"] ["row", "code"] (zw WQ):=⟨rfl,rfl,rfl,by decide +kernel,rfl,by decide +kernel,by decide +kernel⟩
theorem Ai(d:zK K mg "first_word" WQ ["row", "code"])(B3:mg "zip" = none)(vU:yf mg "PLACES" (.ref vN))(vX:wH K w vN wV wW)(kx:yf mg "MARKS" (.ref tY))(ZL:∀H,zi K H gB (.ref tY))(LB:Uf K tY)(pE:zR P w K mg base "with_number" ["word", "place", "number"] 2 (zT K uF))(YW:zR P w K mg base "fields_in_word" ["kind"] 1 (zT K wq))(Yb:zR P w K mg base "place_in_word" ["kind", "field"] 1 (zT K wG)):zR P w K mg base "first_word" ["row", "code"] 3 (zT K wT):=
 zK.yI d Yu (by decide) dj λf cdv A outer s H E hr=>(zQ (zn (i:=2) Yu.nd rfl (Or.inl rfl) (zj pE hr rfl (zC zH (zC (uo vU vX rfl zp) (zC (zA 1) zN)))))
  (zQ (ql vt rfl (iV rfl B3 (yo (jM YW hr rfl (zC (zm (zk (zc hr)) zl (zA 0) zH) zN))) (iF (zA 0) (Qx zH) Qw)) (Y_ (gM (n:=2) rfl (v_ (yl (i:=3) Yu.nd rfl (Or.inl rfl)) (v_ (yl (i:=4) Yu.nd rfl (Or.inl rfl)) gN))) rfl rfl)
   (zQ (zn (i:=5) Yu.nd rfl (Or.inl rfl) (tL (y2 (vJ (x_ hr)) vI (zI (zA 3)) (zI zp) (yB _)) (iB kx ZL LB rfl (zA 4)) (zA 4)))
    (zY (zn (i:=2) Yu.nd rfl (Or.inl rfl) (zj pE hr rfl (zC (zA 2) (zC (zj Yb hr rfl (zC (zm (zk (zc hr)) zl (zA 0) zH) (zC (zA 3) zN))) (zC (zA 5) zN))))))))
  (zY (yC (zA 2)))))
abbrev WK:Stmt:=top 26
theorem fY:y9 ["word"] ["word"] (zw WK):=⟨rfl,rfl,rfl,by decide +kernel,rfl,by decide +kernel,by decide +kernel⟩
theorem Ac(d:zK K mg "code_in" WK ["word"])(vU:yf mg "PLACES" (.ref vN))(vX:wH K w vN wV wW)(j8:zR P w K mg base "number_at" ["word", "place"] 2 (zT K uy)):zR P w K mg base "code_in" ["word"] 3 (zT K tf):=
 zK.yI d fY (by decide) dZ λf cdv A outer s H E hr=>(zY (yC (zj j8 hr rfl (zC (zA 0) (zC (uo vU vX rfl zp) zN)))))
abbrev WZ:Stmt:=top 27
theorem Gn:y9 ["code", "found"] ["code"] (zw WZ):=⟨rfl,rfl,rfl,by decide +kernel,rfl,by decide +kernel,by decide +kernel⟩
theorem Aq(d:zK K mg "kind_of_code" WZ ["code"])(ku:yf mg "CODES" (.ref tX))(Yr:wH K w tX qE qd)(pD:yf mg "NEAR_CODES" (.ref uD))(gL:wH K w uD qG qI)(pC:yf mg "FAR_CODES" (.ref uC))(gK:wH K w uC qF qH)(I_:ue K w tX qE Xp)(GT:∀H,Reps K H qd Xp)(YM:ue K w uD qG k_)(WE:∀H,Reps K H qI k_)(YL:ue K w uC qF kz)(WD:∀H,Reps K H qH kz):zR P w K mg base "kind_of_code" ["code"] 1 (zT K kG):=
 zK.yI d Gn (by decide) dy λf cdv A outer s H E hr=>(zQ (lW (i:=1) rfl Gn.nd rfl rfl (wj (own:=["kind"]) rfl) rfl (Mb ku I_ rfl (by decide) (by decide)) (v4 (λC s H fp pn=>(yl (i:=2) (show(xz ["code", "found"] ["kind"]).Nodup by decide +kernel) rfl (Or.inl rfl))) rfl) (λC s H fp pn=>(pO (y2 (vJ (x_ hr)) vI (zI (uo ku Yr rfl (zA 2))) (zI (zA 0)) (yB _)))) (λC s H fp pn=>(zA 2)))
  (zQ (Md (qv 1) (u4 rfl (wj (own:=["kind"]) rfl) (Mb pD YM rfl (by decide) (by decide)) (v4 (λC s H fp pn=>(yl (i:=2) (show(xz ["code", "found"] ["kind"]).Nodup by decide +kernel) rfl (Or.inl rfl))) rfl) (λC s H fp pn=>(pO (y2 (vJ (x_ hr)) vI (zI (uo pD gL rfl (zA 2))) (zI (zA 0)) (yB _)))) (λC s H fp pn=>(zA 2))))
  (zQ (Md (qv 1) (u4 rfl (wj (own:=["kind"]) rfl) (Mb pC YL rfl (by decide) (by decide)) (v4 (λC s H fp pn=>(yl (i:=2) (show(xz ["code", "found"] ["kind"]).Nodup by decide +kernel) rfl (Or.inl rfl))) rfl) (λC s H fp pn=>(pO (y2 (vJ (x_ hr)) vI (zI (uo pC gK rfl (zA 2))) (zI (zA 0)) (yB _)))) (λC s H fp pn=>(zA 2))))
  (J2 1 (zY (yC (tL (y2 (vJ (x_ hr)) vI (zI (zA 1)) (zI (yo (xY zN (yK yN (by decide))))) (yB _)) wK (zm (zk (zc hr)) zl (zA 1) zH))))))))
abbrev WY:Stmt:=top 28
theorem h8:y9 ["code"] ["code"] (zw WY):=⟨rfl,rfl,rfl,by decide +kernel,rfl,by decide +kernel,by decide +kernel⟩
theorem Ap(d:zK K mg "is_near_code" WY ["code"])(X3:mg "list" = none)(pD:yf mg "NEAR_CODES" (.ref uD))(gL:wH K w uD qG qI)(YM:ue K w uD qG k_)(WE:∀H,Reps K H qI k_):zR P w K mg base "is_near_code" ["code"] 1 (zT K qV):=
 zK.yI d h8 (by decide) dw λf cdv A outer s H E hr=>(zY (yC (pM (uP (zc hr)) uO (zI (zA 0)) (zI (yo (HB rfl rfl X3 pD YM rfl WE (by decide)))) (by with_unfolding_all rfl))))
abbrev WS:Stmt:=top 29
theorem fq:y9 ["code"] ["code"] (zw WS):=⟨rfl,rfl,rfl,by decide +kernel,rfl,by decide +kernel,by decide +kernel⟩
theorem Al(d:zK K mg "is_far_code" WS ["code"])(X3:mg "list" = none)(pC:yf mg "FAR_CODES" (.ref uC))(gK:wH K w uC qF qH)(YL:ue K w uC qF kz)(WD:∀H,Reps K H qH kz):zR P w K mg base "is_far_code" ["code"] 1 (zT K pf):=
 zK.yI d fq (by decide) dm λf cdv A outer s H E hr=>(zY (yC (pM (uP (zc hr)) uO (zI (zA 0)) (zI (yo (HB rfl rfl X3 pC YL rfl WD (by decide)))) (by with_unfolding_all rfl))))
abbrev WR:Stmt:=top 31
theorem Gm:y9 ["word", "kind", "field", "number"] ["word", "kind", "field"] (zw WR):=⟨rfl,rfl,rfl,by decide +kernel,rfl,by decide +kernel,by decide +kernel⟩
theorem Aj(d:zK K mg "held_in" WR ["word", "kind", "field"])(yO:mg "len" = none)(kx:yf mg "MARKS" (.ref tY))(ZL:∀H,zi K H gB (.ref tY))(j8:zR P w K mg base "number_at" ["word", "place"] 2 (zT K uy))(Yb:zR P w K mg base "place_in_word" ["kind", "field"] 1 (zT K wG)):zR P w K mg base "held_in" ["word", "kind", "field"] 3 (zT K uE):=
 zK.yI d Gm (by decide) dk λf cdv A outer s H E hr=>(zQ (zn (i:=3) Gm.nd rfl (Or.inl rfl) (zj j8 hr rfl (zC (zA 0) (zC (zj Yb hr rfl (zC (zA 1) (zC (zA 2) zN))) zN))))
  (zQ (yn (y2 (gI (x_ hr)) gH (zI (zA 2)) (zI zp) (yB _))
   (zY (yC (zA 3)))
   xF)
  (zY (yC (tL (y2 uQ wC (zI (zA 3)) (zI (wY wt wy rfl yO wl (xv (zI (qj kx ZL rfl)) wD))) (yB _)) (zm (zk (zc hr)) zl (qj kx ZL rfl) (zA 3)) wK)))))
abbrev V6:Stmt:=top 30
theorem VS:y9 ["word", "code", "kind", "row", "known"] ["word"] (zw V6):=⟨rfl,rfl,rfl,by decide +kernel,rfl,by decide +kernel,by decide +kernel⟩
theorem aY(d:zK K mg "row_in" V6 ["word"])(B2:mg "tuple" = none)(vU:yf mg "PLACES" (.ref vN))(vX:wH K w vN wV wW)(YU:zR P w K mg base "code_in" ["word"] 3 (zT K tf))(OX:zR P w K mg base "kind_of_code" ["code"] 1 (zT K kG))(YW:zR P w K mg base "fields_in_word" ["kind"] 1 (zT K wq))(OT:zR P w K mg base "held_in" ["word", "kind", "field"] 3 (zT K uE))(YY:zR P w K mg base "is_near_code" ["code"] 1 (zT K qV))(pE:zR P w K mg base "with_number" ["word", "place", "number"] 2 (zT K uF))(qJ:zR P w K mg base "first_word" ["row", "code"] 3 (zT K wT)):zR P w K mg base "row_in" ["word"] 4 (zT K uc):=
 zK.yI d VS (by decide) fE λf cdv A outer s H E hr=>(zQ (zn (i:=1) VS.nd rfl (Or.inl rfl) (zj YU hr rfl (zC (zA 0) zN)))
  (zQ (zn (i:=2) VS.nd rfl (Or.inr rfl) (zj OX hr rfl (zC (zA 1) zN)))
  (zQ (yn (y2 ZF ZC (zI (zA 2)) (zI wK) (yB _))
   (zY (yC wK))
   xF)
  (zQ (zn (i:=3) VS.nd rfl (Or.inl rfl) (iA Nm ak rfl B2 NR (zC (zW yu yt (yo (xY (zC (zA 2) zN) (yK (zX yN) (by decide)))) (yo (u4 rfl (wj (own:=["field"]) rfl) (tN (yo (jM YW hr rfl (zC (zA 2) zN)))) (v4 (λC s H fp pn=>(yl (i:=5) (show(xz ["word", "code", "kind", "row", "known"] ["field"]).Nodup by decide +kernel) rfl (Or.inl rfl))) rfl) (λC s H fp pn=>qR) (λC s H fp pn=>(zj OT hr rfl (zC (zA 0) (zC (zA 2) (zC (zA 5) zN)))))))) zN)))
  (zQ (yn (y2 (uP (zc hr)) uO (zI wK) (zI (zA 3)) (by with_unfolding_all rfl))
   (zY (yC wK))
   xF)
  (zQ (zn (i:=4) VS.nd rfl (Or.inl rfl) (tL (gW (zj YY hr rfl (zC (zA 1) zN))) (zj pE hr rfl (zC (zA 0) (zC (uo vU vX rfl zp) (zC zH zN)))) (zA 0)))
  (zY (yC (tL (y2 (vJ (x_ hr)) vI (zI (zj qJ hr rfl (zC (zA 3) (zC (zA 1) zN)))) (zI (zA 4)) (yB _)) (zA 3) wK)))))))))
abbrev WU:Stmt:=top 33
theorem f_:y9 ["item"] ["item"] (zw WU):=⟨rfl,rfl,rfl,by decide +kernel,rfl,by decide +kernel,by decide +kernel⟩
theorem An(d:zK K mg "is_label" WU ["item"]):zR P w K mg base "is_label" ["item"] 1 (zT K jo):=
 zK.yI d f_ (by decide) dr λf cdv A outer s H E hr=>(zY (yC (pM (vJ (x_ hr)) vI (zI (zm (zk (zc hr)) zl (zA 0) zH)) (zI zp) (yB _))))
abbrev WT:Stmt:=top 34
theorem fz:y9 ["item"] ["item"] (zw WT):=⟨rfl,rfl,rfl,by decide +kernel,rfl,by decide +kernel,by decide +kernel⟩
theorem Am(d:zK K mg "is_jump" WT ["item"])(OC:yf mg "JUMPS" (.ref pY))(M3:∀H,zi K H T_ (.ref pY)):zR P w K mg base "is_jump" ["item"] 1 (zT K Zy):=
 zK.yI d fz (by decide) dq λf cdv A outer s H E hr=>(zY (yC (pM (uP (zc hr)) uO (zI (zm (zk (zc hr)) zl (zA 0) zH)) (zI (qj OC M3 rfl)) (by with_unfolding_all rfl))))
abbrev V7:Stmt:=top 35
theorem i5:y9 ["items"] ["items"] (zw V7):=⟨rfl,rfl,rfl,by decide +kernel,rfl,by decide +kernel,by decide +kernel⟩
theorem aZ(d:zK K mg "rows_of" V7 ["items"])(YX:zR P w K mg base "is_label" ["item"] 1 (zT K jo)):zR P w K mg base "rows_of" ["items"] 2 (zT K ud):=
 zK.yI d i5 (by decide) fF λf cdv A outer s H E hr=>(zY (qQ (u4 rfl (wj (own:=["item"]) rfl) (tN (zA 0)) (v4 (λC s H fp pn=>(yl (i:=1) (show(xz ["items"] ["item"]).Nodup by decide +kernel) rfl (Or.inl rfl))) rfl) (λC s H fp pn=>(pO (HP (gW (zj YX hr rfl (zC (zA 1) zN)))))) (λC s H fp pn=>(zA 1)))))
abbrev Wa:Stmt:=top 36
theorem VL:y9 ["items", "places", "place", "item"] ["items"] (zw Wa):=⟨rfl,rfl,rfl,by decide +kernel,rfl,by decide +kernel,by decide +kernel⟩
theorem Ar(d:zK K mg "label_places" Wa ["items"])(YX:zR P w K mg base "is_label" ["item"] 1 (zT K jo)):zR P w K mg base "label_places" ["items"] 2 (zT K kH):=
 zK.yI d VL (by decide) d_ λf cdv A outer s H E hr=>(zQ (tO (i:=1) VL.nd rfl (Or.inl rfl) MZ)
  (zQ (zn (i:=2) VL.nd rfl (Or.inl rfl) zH)
  (zQ (ql vt rfl (tN (zA 0)) (gT (yl (i:=3) VL.nd rfl (Or.inl rfl)) rfl)
   (zY (yn (gW (zj YX hr rfl (zC (zA 3) zN)))
     (zY (Q_ (zc hr) (qv 1) (zm (zk (zc hr)) zl (zA 3) zH) (zA 2)))
     (zY (Qz (i:=2) QD QZ VL.nd rfl (Or.inl rfl) zH)))))
  (zY (jO 1)))))
abbrev VA:Stmt:=top 37
theorem Gv:y9 ["items", "places"] ["items"] (zw VA):=⟨rfl,rfl,rfl,by decide +kernel,rfl,by decide +kernel,by decide +kernel⟩
theorem ag(d:zK K mg "targets_of" VA ["items"])(OY:zR P w K mg base "label_places" ["items"] 2 (zT K kH))(j9:zR P w K mg base "rows_of" ["items"] 2 (zT K ud))(OV:zR P w K mg base "is_jump" ["item"] 1 (zT K Zy)):zR P w K mg base "targets_of" ["items"] 3 (zT K jt):=
 zK.yI d Gv (by decide) fJ λf cdv A outer s H E hr=>(zQ (zn (i:=1) Gv.nd rfl (Or.inr rfl) (zj OY hr rfl (zC (zA 0) zN)))
  (zY (qQ (u4 rfl (wj (own:=["row"]) rfl) (tN (zj j9 hr rfl (zC (zA 0) zN))) (v4 (λC s H fp pn=>(yl (i:=2) (show(xz ["items", "places"] ["row"]).Nodup by decide +kernel) rfl (Or.inl rfl))) rfl) (λC s H fp pn=>qR) (λC s H fp pn=>(tL (gW (zj OV hr rfl (zC (zA 2) zN))) (zm (zk (zc hr)) zl (zA 1) (zm (zk (zc hr)) zl (zA 2) (vo u8 u7 zH))) wK))))))
abbrev Wx:Stmt:=top 39
theorem VR:y9 ["number", "name", "left"] ["number"] (zw Wx):=⟨rfl,rfl,rfl,by decide +kernel,rfl,by decide +kernel,by decide +kernel⟩
theorem aQ(d:zK K mg "name_of" Wx ["number"])(yO:mg "len" = none)(Xl:yf mg "LETTERS" (.str "abcdefghijklmnopqrstuvwxyz"))(W9:∀H,zi K H (.str "abcdefghijklmnopqrstuvwxyz") (.str "abcdefghijklmnopqrstuvwxyz")):zR P w K mg base "name_of" ["number"] 1 (zT K kN):=
 zK.yI d VR (by decide) eY λf cdv A outer s H E hr=>(zQ (zn (i:=1) VR.nd rfl (Or.inl rfl) zp)
  (zQ (zn (i:=2) VR.nd rfl (Or.inl rfl) (zW yu yt (zA 0) zH))
  (zQ (J1 vt (y2 Eb wC (zI (zA 2)) (zI zH) (yB _))
   (zQ (zn (i:=1) VR.nd rfl (Or.inl rfl) (zW yu yt (zm (zk (zc hr)) zl (qj Xl W9 rfl) (zW yz yy (zW tK tI (zA 2) zH) (wY wt wy rfl yO wl (xv (zI (qj Xl W9 rfl)) wD)))) (zA 1)))
    (zY (zn (i:=2) VR.nd rfl (Or.inl rfl) (zW v8 v7 (zW tK tI (zA 2) zH) (wY wt wy rfl yO wl (xv (zI (qj Xl W9 rfl)) wD)))))))
  (zY (yC (zA 1))))))
abbrev Wy:Stmt:=top 41
theorem Gp:y9 ["targets", "places"] ["targets"] (zw Wy):=⟨rfl,rfl,rfl,by decide +kernel,rfl,by decide +kernel,by decide +kernel⟩
theorem aR(d:zK K mg "names_of_places" Wy ["targets"])(jS:mg "sorted" = none)(B1:mg "set" = none)(jR:mg "dict" = none)(uS:mg "enumerate" = none)(Om:zR P w K mg base "name_of" ["number"] 1 (zT K kN)):zR P w K mg base "names_of_places" ["targets"] 2 (zT K Y6):=
 zK.yI d Gp (by decide) eZ λf cdv A outer s H E hr=>(zQ (zn (i:=1) Gp.nd rfl (Or.inl rfl) (yo (iO rfl rfl jS rfl B1 (zC (yo (u4 rfl (wj (own:=["target"]) rfl) (tN (zA 0)) (v4 (λC s H fp pn=>(yl (i:=2) (show(xz ["targets", "places"] ["target"]).Nodup by decide +kernel) rfl (Or.inl rfl))) rfl) (λC s H fp pn=>(pO (y2 Qf Qb (zI (zA 2)) (zI wK) (yB _)))) (λC s H fp pn=>(zA 2)))) zN))))
  (zY (qQ (MY rfl rfl jR Ij (zC (yo (u4 rfl (wj (own:=["number", "place"]) rfl) (Qv rfl uS (zA 1)) (DV (λC s H fp pn=>(gM (n:=2) rfl (v_ (yl (i:=2) (show(xz ["targets", "places"] ["number", "place"]).Nodup by decide +kernel) rfl (Or.inl rfl)) (v_ (yl (i:=3) (show(xz ["targets", "places"] ["number", "place"]).Nodup by decide +kernel) rfl (Or.inl rfl)) gN)))) rfl rfl) (λC s H fp pn=>qR) (λC s H fp pn=>(wL (zC (zA 3) (zC (zj Om hr rfl (zC (zA 2) zN)) zN)) (yK (zX (zX yN)) (by decide)))))) zN)))))
abbrev Wb:Stmt:=top 40
theorem VM:y9 ["rows", "targets", "names", "items", "number", "row"] ["rows", "targets"] (zw Wb):=⟨rfl,rfl,rfl,by decide +kernel,rfl,by decide +kernel,by decide +kernel⟩
theorem As(d:zK K mg "labelled" Wb ["rows", "targets"])(uS:mg "enumerate" = none)(yO:mg "len" = none)(On:zR P w K mg base "names_of_places" ["targets"] 2 (zT K Y6)):zR P w K mg base "labelled" ["rows", "targets"] 3 (zT K Z_):=
 zK.yI d VM (by decide) e7 λf cdv A outer s H E hr=>(zQ (zn (i:=2) VM.nd rfl (Or.inl rfl) (zj On hr rfl (zC (zA 1) zN)))
  (zQ (tO (i:=3) VM.nd rfl (Or.inl rfl) (xY zN (yK yN (by decide))))
  (zQ (ql vt rfl (Qv rfl uS (zA 0)) (Y_ (gM (n:=2) rfl (v_ (yl (i:=4) VM.nd rfl (Or.inl rfl)) (v_ (yl (i:=5) VM.nd rfl (Or.inl rfl)) gN))) rfl rfl)
   (zQ (yn (y2 (uP (zc hr)) uO (zI (zA 4)) (zI (zA 2)) (by with_unfolding_all rfl))
     (zY (u5 (qv 3) (wL (zC zp (zC (zm (zk (zc hr)) zl (zA 2) (zA 4)) zN)) (yK (zX (zX yN)) (by decide)))))
     xF)
    (zY (u5 (qv 3) (tL (y2 ZF ZC (zI (zm (zk (zc hr)) zl (zA 1) (zA 4))) (zI wK) (yB _)) (zA 5) (zW yu yt (zA 5) (wL (zC (zm (zk (zc hr)) zl (zA 2) (zm (zk (zc hr)) zl (zA 1) (zA 4))) zN) (yK (zX yN) (by decide)))))))))
  (zQ (yn (y2 (uP (zc hr)) uO (zI (wY wt wy rfl yO wl (xv (zI (zA 0)) wD))) (zI (zA 2)) (by with_unfolding_all rfl))
   (zY (u5 (qv 3) (wL (zC zp (zC (zm (zk (zc hr)) zl (zA 2) (wY wt wy rfl yO wl (xv (zI (zA 0)) wD))) zN)) (yK (zX (zX yN)) (by decide)))))
   xF)
  (zY (jO 3))))))
abbrev WM:Stmt:=top 44
theorem fZ:y9 ["words", "address", "row"] ["words", "address", "row"] (zw WM):=⟨rfl,rfl,rfl,by decide +kernel,rfl,by decide +kernel,by decide +kernel⟩
theorem Ae(d:zK K mg "far_at" WM ["words", "address", "row"])(yO:mg "len" = none)(YQ:yf mg "WORD_BITS" (.int 32))(Ys:∀H,zi K H (.int 32) (.int 32))(Yc:zR P w K mg base "signed" ["number", "width"] 1 (zT K qy)):zR P w K mg base "far_at" ["words", "address", "row"] 2 (zT K Zw):=
 zK.yI d fZ (by decide) db λf cdv A outer s H E hr=>(zQ (yn (y2 Qe wC (zI (zW yu yt (zA 1) zH)) (zI (wY wt wy rfl yO wl (xv (zI (zA 0)) wD))) (yB _))
   (zY (yC wK))
   xF)
  (zY (yC (wL (zC (zA 2) (zC (zW yu yt (zA 1) zH) (zC (zW yu yt (zA 1) (zj Yc hr rfl (zC (zm (zk (zc hr)) zl (zA 0) (zW yu yt (zA 1) zH)) (zC (qj YQ Ys rfl) zN)))) zN))) (yK (zX (zX (zX yN))) (by decide))))))
abbrev VB:Stmt:=top 43
theorem Qu:y9 ["words", "address", "row", "code", "place"] ["words", "address"] (zw VB):=⟨rfl,rfl,rfl,by decide +kernel,rfl,by decide +kernel,by decide +kernel⟩
theorem ah(d:zK K mg "told_at" VB ["words", "address"])(yO:mg "len" = none)(vU:yf mg "PLACES" (.ref vN))(vX:wH K w vN wV wW)(Oq:zR P w K mg base "row_in" ["word"] 4 (zT K uc))(YU:zR P w K mg base "code_in" ["word"] 3 (zT K tf))(OU:zR P w K mg base "is_far_code" ["code"] 1 (zT K pf))(OQ:zR P w K mg base "far_at" ["words", "address", "row"] 2 (zT K Zw))(YY:zR P w K mg base "is_near_code" ["code"] 1 (zT K qV))(Yc:zR P w K mg base "signed" ["number", "width"] 1 (zT K qy))(j8:zR P w K mg base "number_at" ["word", "place"] 2 (zT K uy)):zR P w K mg base "told_at" ["words", "address"] 5 (zT K uz):=
 zK.yI d Qu (by decide) fK λf cdv A outer s H E hr=>(zQ (yn (ZU (J4 (y2 uQ wC (zI (zA 1)) (zI zH) (yB _)) (J5 (y2 Qe wC (zI (zA 1)) (zI (wY wt wy rfl yO wl (xv (zI (zA 0)) wD))) (yB _)))))
   (zY (yC wK))
   xF)
  (zQ (zn (i:=2) Qu.nd rfl (Or.inl rfl) (zj Oq hr rfl (zC (zm (zk (zc hr)) zl (zA 0) (zA 1)) zN)))
  (zQ (yn (y2 ZF ZC (zI (zA 2)) (zI wK) (yB _))
   (zY (yC wK))
   xF)
  (zQ (zn (i:=3) Qu.nd rfl (Or.inl rfl) (zj YU hr rfl (zC (zm (zk (zc hr)) zl (zA 0) (zA 1)) zN)))
  (zQ (yn (gW (zj OU hr rfl (zC (zA 3) zN)))
   (zY (yC (zj OQ hr rfl (zC (zA 0) (zC (zA 1) (zC (zA 2) zN))))))
   xF)
  (zQ (yn (gW (zj YY hr rfl (zC (zA 3) zN)))
   (zQ (zn (i:=4) Qu.nd rfl (Or.inl rfl) (uo vU vX rfl zp))
    (zY (yC (wL (zC (zA 2) (zC (zW yu yt (zA 1) zH) (zC (zW yu yt (zA 1) (zj Yc hr rfl (zC (zj j8 hr rfl (zC (zm (zk (zc hr)) zl (zA 0) (zA 1)) (zC (zA 4) zN))) (zC (zm (zk (zc hr)) zl (zA 4) zH) zN)))) zN))) (yK (zX (zX (zX yN))) (by decide))))))
   xF)
  (zY (yC (wL (zC (zA 2) (zC (zW yu yt (zA 1) zH) (zC wK zN))) (yK (zX (zX (zX yN))) (by decide)))))))))))
abbrev VD:Stmt:=top 48
theorem Yx:y9 ["words", "table", "address", "told"] ["words"] (zw VD):=⟨rfl,rfl,rfl,by decide +kernel,rfl,by decide +kernel,by decide +kernel⟩
theorem ao(d:zK K mg "walked" VD ["words"])(Q6:zR P w K mg base "told_at" ["words", "address"] 5 (zT K uz)):zR P w K mg base "walked" ["words"] 6 (zT K jv):=
 zK.yI d Yx (by decide) fM λf cdv A outer s H E hr=>(zQ (tO (i:=1) Yx.nd rfl (Or.inl rfl) MZ)
  (zQ (zn (i:=2) Yx.nd rfl (Or.inl rfl) zH)
  (zQ (zn (i:=3) Yx.nd rfl (Or.inl rfl) (zj Q6 hr rfl (zC (zA 0) (zC (zA 2) zN))))
  (zQ (J1 vt (y2 Qf Qb (zI (zA 3)) (zI wK) (yB _))
   (zQ (Q_ (zc hr) (qv 1) (zA 2) (zA 3))
    (zQ (zn (i:=2) Yx.nd rfl (Or.inl rfl) (zm (zk (zc hr)) zl (zA 3) zH))
    (zY (zn (i:=3) Yx.nd rfl (Or.inl rfl) (zj Q6 hr rfl (zC (zA 0) (zC (zA 2) zN))))))))
  (zY (jO 1))))))
abbrev WJ:Stmt:=top 49
theorem fX:y9 ["table"] ["table"] (zw WJ):=⟨rfl,rfl,rfl,by decide +kernel,rfl,by decide +kernel,by decide +kernel⟩
theorem Ab(d:zK K mg "behind" WJ ["table"])(X4:mg "max" = none):zR P w K mg base "behind" ["table"] 1 (zT K Zv):=
 zK.yI d fX (by decide) dY λf cdv A outer s H E hr=>(zY (yC (iD rfl rfl X4 (yo (iN (iM rfl (wj (own:=["told"]) rfl) (Ma (i:=0) rfl (by first|exact Or.inl rfl|exact Or.inr (Or.inl rfl)|exact Or.inr (Or.inr rfl))) (v4 (λC s H fp pn=>(yl (i:=1) (show(xz ["table"] ["told"]).Nodup by decide +kernel) rfl (Or.inl rfl))) rfl) (λC s H fp pn=>qR) (λC s H fp pn=>(zm (zk (zc hr)) zl (zA 1) zH))) (Iv (Iw 0)))) zH)))
abbrev VG:Stmt:=top 46
theorem Yy:y9 ["words", "table", "end", "address", "told", "target"] ["words"] (zw VG):=⟨rfl,rfl,rfl,by decide +kernel,rfl,by decide +kernel,by decide +kernel⟩
theorem au(d:zK K mg "word_fault" VG ["words"])(yO:mg "len" = none)(Ye:zR P w K mg base "walked" ["words"] 6 (zT K jv))(OP:zR P w K mg base "behind" ["table"] 1 (zT K Zv)):zR P w K mg base "word_fault" ["words"] 7 (zT K YA):=
 zK.yI d Yy (by decide) fP λf cdv A outer s H E hr=>(zQ (zn (i:=1) Yy.nd rfl (Or.inl rfl) (zj Ye hr rfl (zC (zA 0) zN)))
  (zQ (zn (i:=2) Yy.nd rfl (Or.inl rfl) (zj OP hr rfl (zC (zA 1) zN)))
  (zQ (yn (y2 (gI (x_ hr)) gH (zI (zA 2)) (zI (wY wt wy rfl yO wl (xv (zI (zA 0)) wD))) (yB _))
   (zY (yC (zA 2)))
   xF)
  (zQ (J0 (HK vt rfl (iS (i:=1) rfl (by first|exact Or.inl rfl|exact Or.inr (Or.inl rfl)|exact Or.inr (Or.inr rfl))) (Y_ (gM (n:=2) rfl (v_ (yl (i:=3) Yy.nd rfl (Or.inl rfl)) (v_ (yl (i:=4) Yy.nd rfl (Or.inl rfl)) gN))) rfl rfl)
   (zQ (zn (i:=5) Yy.nd rfl (Or.inl rfl) (zm (zk (zc hr)) zl (zA 4) zH))
    (zY (yn (ZU (J3 (y2 Qf Qb (zI (zA 5)) (zI wK) (yB _)) (J3 (y2 (gI (x_ hr)) gH (zI (zA 5)) (zI (zA 2)) (yB _)) (Mg (y2 (Ls (zc hr)) Lq (zI (zA 5)) (zI (zA 1)) (by with_unfolding_all rfl))))))
     (zY (yC (zA 3)))
     xF)))) (Dp (P7 1)))
  (zY (yC wK))))))
abbrev V9:Stmt:=top 47
theorem Gu:y9 ["words", "wrong"] ["words"] (zw V9):=⟨rfl,rfl,rfl,by decide +kernel,rfl,by decide +kernel,by decide +kernel⟩
theorem af(d:zK K mg "table_of" V9 ["words"])(Ov:zR P w K mg base "word_fault" ["words"] 7 (zT K YA))(Ye:zR P w K mg base "walked" ["words"] 6 (zT K jv)):zR P w K mg base "table_of" ["words"] 8 (zT K Y8):=
 zK.yI d Gu (by decide) fH λf cdv A outer s H E hr=>(zQ (zn (i:=1) Gu.nd rfl (Or.inl rfl) (zj Ov hr rfl (zC (zA 0) zN)))
  (zQ (yn (y2 Qf Qb (zI (zA 1)) (zI wK) (yB _))
   HN
   xF)
  (zY (yC (zj Ye hr rfl (zC (zA 0) zN))))))
abbrev V5:Stmt:=top 45
theorem ZS:y9 ["words", "table", "numbers", "number", "address", "rows", "targets"] ["words"] (zw V5):=⟨rfl,rfl,rfl,by decide +kernel,rfl,by decide +kernel,by decide +kernel⟩
theorem aX(d:zK K mg "read_words" V5 ["words"])(yO:mg "len" = none)(uS:mg "enumerate" = none)(Os:zR P w K mg base "table_of" ["words"] 8 (zT K Y8))(OZ:zR P w K mg base "labelled" ["rows", "targets"] 3 (zT K Z_)):zR P w K mg base "read_words" ["words"] 9 (zT K jq):=
 zK.yI d ZS (by decide) fD λf cdv A outer s H E hr=>(zQ (zn (i:=1) ZS.nd rfl (Or.inl rfl) (zj Os hr rfl (zC (zA 0) zN)))
  (zQ (tO (i:=2) ZS.nd rfl (Or.inr rfl) (iL (wY wt wy rfl yO wl (xv (zI (zA 0)) wD)) (wY Na aN rfl yO wl (xv (zI (zA 1)) wD))))
  (zQ (J0 (HK vt rfl (iR (i:=1) rfl uS rfl (by first|exact Or.inl rfl|exact Or.inr (Or.inl rfl)|exact Or.inr (Or.inr rfl))) (Y_ (gM (n:=2) rfl (v_ (yl (i:=3) ZS.nd rfl (Or.inl rfl)) (v_ (yl (i:=4) ZS.nd rfl (Or.inl rfl)) gN))) rfl rfl)
   (zY (Q_ (zc hr) (qv 2) (zA 4) (zA 3)))) (Dp (P6 1)))
  (J2 2 (zQ (J0 (HM (j:=5) rfl ZS.nd rfl rfl (wj (own:=["told"]) rfl) rfl (Ma (i:=1) rfl (by first|exact Or.inl rfl|exact Or.inr (Or.inl rfl)|exact Or.inr (Or.inr rfl))) (v4 (λC s H fp pn=>(yl (i:=7) (show(xz ["words", "table", "numbers", "number", "address", "rows", "targets"] ["told"]).Nodup by decide +kernel) rfl (Or.inl rfl))) rfl) (λC s H fp pn=>qR) (λC s H fp pn=>(zm (zk (zc hr)) zl (zA 7) zH))) (Dq (Iv (Iw 1))))
  (zQ (J0 (HM (j:=6) rfl ZS.nd rfl rfl (wj (own:=["told"]) rfl) rfl (Ma (i:=1) rfl (by first|exact Or.inl rfl|exact Or.inr (Or.inl rfl)|exact Or.inr (Or.inr rfl))) (v4 (λC s H fp pn=>(yl (i:=7) (show(xz ["words", "table", "numbers", "number", "address", "rows", "targets"] ["told"]).Nodup by decide +kernel) rfl (Or.inl rfl))) rfl) (λC s H fp pn=>qR) (λC s H fp pn=>(tL (y2 ZF ZC (zI (zm (zk (zc hr)) zl (zA 7) zH)) (zI wK) (yB _)) wK (zm (zk (zc hr)) zl (zA 2) (zm (zk (zc hr)) zl (zA 7) zH))))) (Dq (Iv (Iw 1))))
  (zY (qQ (jM OZ hr rfl (zC (zA 5) (zC (zA 6) zN)))))))))))
abbrev WI:Stmt:=top 51
theorem Yt:y9 ["items", "far", "twofold", "number", "told", "address"] ["items", "far"] (zw WI):=⟨rfl,rfl,rfl,by decide +kernel,rfl,by decide +kernel,by decide +kernel⟩
theorem Aa(d:zK K mg "addresses" WI ["items", "far"])(jR:mg "dict" = none)(wO:mg "range" = none)(yO:mg "len" = none)(j9:zR P w K mg base "rows_of" ["items"] 2 (zT K ud)):zR P w K mg base "addresses" ["items", "far"] 3 (zT K Zu):=
 zK.yI d Yt (by decide) dX λf cdv A outer s H E hr=>(zQ (zn (i:=2) Yt.nd rfl (Or.inl rfl) (yo (MY rfl rfl jR Ij (zC (yo (u4 rfl (wj (own:=["number"]) rfl) (tN (zA 1)) (v4 (λC s H fp pn=>(yl (i:=6) (show(xz ["items", "far", "twofold", "number", "told", "address"] ["number"]).Nodup by decide +kernel) rfl (Or.inl rfl))) rfl) (λC s H fp pn=>qR) (λC s H fp pn=>(wL (zC (zA 6) (zC MS zN)) (yK (zX (zX yN)) (by decide)))))) zN))))
  (zQ (tO (i:=4) Yt.nd rfl (Or.inl rfl) (xY zN (yK yN (by decide))))
  (zQ (zn (i:=5) Yt.nd rfl (Or.inl rfl) zH)
  (zQ (ql vt rfl (jN rfl wO (wY wt wy rfl yO wl (xv (zI (zj j9 hr rfl (zC (zA 0) zN))) wD))) (gT (yl (i:=3) Yt.nd rfl (Or.inl rfl)) rfl)
   (zQ (u5 (qv 4) (zA 5))
    (zY (Qz (i:=5) QD QZ Yt.nd rfl (Or.inl rfl) (tL (y2 (uP (zc hr)) uO (zI (zA 3)) (zI (zA 2)) (by with_unfolding_all rfl)) zH zH)))))
  (zQ (u5 (qv 4) (zA 5))
  (zY (jO 4)))))))
abbrev WX:Stmt:=top 58
theorem h7:y9 ["distance"] ["distance"] (zw WX):=⟨rfl,rfl,rfl,by decide +kernel,rfl,by decide +kernel,by decide +kernel⟩
theorem Ao(d:zK K mg "is_near" WX ["distance"])(OE:yf mg "NEAR_ON" (.int 15))(M5:∀H,zi K H (.int 15) (.int 15))(OD:yf mg "NEAR_BACK" (.int 16))(M4:∀H,zi K H (.int 16) (.int 16)):zR P w K mg base "is_near" ["distance"] 1 (zT K Zz):=
 zK.yI d h7 (by decide) dt λf cdv A outer s H E hr=>(zY (yC (iE (pM ZF ZC (zI (zA 0)) (zI wK) (yB _)) (MV (Gz (pM W4 wC (zI (vo u8 u7 (qj OD M4 rfl))) (zI (zA 0)) (yB _)) (MV (pM W4 wC (zI (zA 0)) (zI (qj OE M5 rfl)) (yB _))))))))
abbrev WL:Stmt:=top 57
theorem Gk:y9 ["items", "far", "at"] ["items", "far"] (zw WL):=⟨rfl,rfl,rfl,by decide +kernel,rfl,by decide +kernel,by decide +kernel⟩
theorem Ad(d:zK K mg "distances_of" WL ["items", "far"])(uS:mg "enumerate" = none)(OO:zR P w K mg base "addresses" ["items", "far"] 3 (zT K Zu))(Ot:zR P w K mg base "targets_of" ["items"] 3 (zT K jt)):zR P w K mg base "distances_of" ["items", "far"] 4 (zT K jk):=
 zK.yI d Gk (by decide) da λf cdv A outer s H E hr=>(zQ (zn (i:=2) Gk.nd rfl (Or.inr rfl) (yo (jM OO hr rfl (zC (zA 0) (zC (zA 1) zN)))))
  (zY (qQ (u4 rfl (wj (own:=["number", "target"]) rfl) (Qv rfl uS (zj Ot hr rfl (zC (zA 0) zN))) (DV (λC s H fp pn=>(gM (n:=2) rfl (v_ (yl (i:=3) (show(xz ["items", "far", "at"] ["number", "target"]).Nodup by decide +kernel) rfl (Or.inl rfl)) (v_ (yl (i:=4) (show(xz ["items", "far", "at"] ["number", "target"]).Nodup by decide +kernel) rfl (Or.inl rfl)) gN)))) rfl rfl) (λC s H fp pn=>qR) (λC s H fp pn=>(tL (y2 ZF ZC (zI (zA 4)) (zI wK) (yB _)) wK (zW tK tI (zm (zk (zc hr)) zl (zA 2) (zA 4)) (zm (zk (zc hr)) zl (zA 2) (zA 3)))))))))
abbrev W_:Stmt:=top 56
theorem Qt:y9 ["items", "far", "distances", "chosen", "near"] ["items", "far"] (zw W_):=⟨rfl,rfl,rfl,by decide +kernel,rfl,by decide +kernel,by decide +kernel⟩
theorem aT(d:zK K mg "not_reaching" W_ ["items", "far"])(jR:mg "dict" = none)(wO:mg "range" = none)(yO:mg "len" = none)(YV:zR P w K mg base "distances_of" ["items", "far"] 4 (zT K jk))(OW:zR P w K mg base "is_near" ["distance"] 1 (zT K Zz)):zR P w K mg base "not_reaching" ["items", "far"] 5 (zT K py):=
 zK.yI d Qt (by decide) e_ λf cdv A outer s H E hr=>(zQ (zn (i:=2) Qt.nd rfl (Or.inr rfl) (zj YV hr rfl (zC (zA 0) (zC (zA 1) zN))))
  (zQ (zn (i:=3) Qt.nd rfl (Or.inr rfl) (yo (MY rfl rfl jR Ij (zC (yo (u4 rfl (wj (own:=["number"]) rfl) (tN (zA 1)) (v4 (λC s H fp pn=>(yl (i:=5) (show(xz ["items", "far", "distances", "chosen", "near"] ["number"]).Nodup by decide +kernel) rfl (Or.inl rfl))) rfl) (λC s H fp pn=>qR) (λC s H fp pn=>(wL (zC (zA 5) (zC MS zN)) (yK (zX (zX yN)) (by decide)))))) zN))))
  (zQ (HL (i:=4) rfl Qt.nd rfl rfl (wj (own:=["number"]) rfl) rfl (jN rfl wO (wY wt wy rfl yO wl (xv (zI (zA 2)) wD))) (v4 (λC s H fp pn=>(yl (i:=5) (show(xz ["items", "far", "distances", "chosen", "near"] ["number"]).Nodup by decide +kernel) rfl (Or.inl rfl))) rfl) (λC s H fp pn=>(pO (y2 (Ls (zc hr)) Lq (zI (zA 5)) (zI (zA 3)) (by with_unfolding_all rfl)))) (λC s H fp pn=>(zA 5)))
  (zY (qQ (u4 rfl (wj (own:=["number"]) rfl) (tN (zA 4)) (v4 (λC s H fp pn=>(yl (i:=5) (show(xz ["items", "far", "distances", "chosen", "near"] ["number"]).Nodup by decide +kernel) rfl (Or.inl rfl))) rfl) (λC s H fp pn=>(pO (HP (gW (zj OW hr rfl (zC (zm (zk (zc hr)) zl (zA 2) (zA 5)) zN)))))) (λC s H fp pn=>(zA 5))))))))
abbrev WN:Stmt:=top 55
theorem VJ:y9 ["items", "far", "lacking"] ["items"] (zw WN):=⟨rfl,rfl,rfl,by decide +kernel,rfl,by decide +kernel,by decide +kernel⟩
theorem Af(d:zK K mg "far_rows" WN ["items"])(jS:mg "sorted" = none)(Q4:zR P w K mg base "not_reaching" ["items", "far"] 5 (zT K py)):zR P w K mg base "far_rows" ["items"] 6 (zT K Zx):=
 zK.yI d VJ (by decide) df λf cdv A outer s H E hr=>(zQ (zn (i:=1) VJ.nd rfl (Or.inl rfl) (yo (xY zN (yK yN (by decide)))))
  (zQ (zn (i:=2) VJ.nd rfl (Or.inl rfl) (zj Q4 hr rfl (zC (zA 0) (zC (zA 1) zN))))
  (zQ (J1 vt (y2 (gI (x_ hr)) gH (zI (zA 2)) (zI (yo (xY zN (yK yN (by decide))))) (yB _))
   (zQ (zn (i:=1) VJ.nd rfl (Or.inl rfl) (yo (HC rfl jS (zC (zW yu yt (zA 1) (zA 2)) zN))))
    (zY (zn (i:=2) VJ.nd rfl (Or.inl rfl) (zj Q4 hr rfl (zC (zA 0) (zC (zA 1) zN)))))))
  (zY (yC (zA 1))))))
abbrev VH:Stmt:=top 60
theorem i7:y9 ["row"] ["row"] (zw VH):=⟨rfl,rfl,rfl,by decide +kernel,rfl,by decide +kernel,by decide +kernel⟩
theorem av(d:zK K mg "word_of_row" VH ["row"])(ku:yf mg "CODES" (.ref tX))(Yr:wH K w tX qE qd)(qJ:zR P w K mg base "first_word" ["row", "code"] 3 (zT K wT)):zR P w K mg base "word_of_row" ["row"] 4 (zT K kP):=
 zK.yI d i7 (by decide) fQ λf cdv A outer s H E hr=>(zY (yC (zj qJ hr rfl (zC (zA 0) (zC (uo ku Yr rfl (zm (zk (zc hr)) zl (zA 0) zH)) zN)))))
abbrev Wz:Stmt:=top 62
theorem Gq:y9 ["row", "distance", "place"] ["row", "distance"] (zw Wz):=⟨rfl,rfl,rfl,by decide +kernel,rfl,by decide +kernel,by decide +kernel⟩
theorem aS(d:zK K mg "near_word" Wz ["row", "distance"])(vU:yf mg "PLACES" (.ref vN))(vX:wH K w vN wV wW)(pD:yf mg "NEAR_CODES" (.ref uD))(gL:wH K w uD qG qI)(pE:zR P w K mg base "with_number" ["word", "place", "number"] 2 (zT K uF))(Yd:zR P w K mg base "unsigned" ["number", "width"] 1 (zT K ju))(qJ:zR P w K mg base "first_word" ["row", "code"] 3 (zT K wT)):zR P w K mg base "near_word" ["row", "distance"] 4 (zT K kO):=
 zK.yI d Gq (by decide) eh λf cdv A outer s H E hr=>(zQ (zn (i:=2) Gq.nd rfl (Or.inl rfl) (uo vU vX rfl zp))
  (zY (yC (zj pE hr rfl (zC (zj qJ hr rfl (zC (zA 0) (zC (uo pD gL rfl (zm (zk (zc hr)) zl (zA 0) zH)) zN))) (zC (zA 2) (zC (zj Yd hr rfl (zC (zA 1) (zC (zm (zk (zc hr)) zl (zA 2) zH) zN))) zN)))))))
abbrev WO:Stmt:=top 63
theorem ff:y9 ["row", "distance"] ["row", "distance"] (zw WO):=⟨rfl,rfl,rfl,by decide +kernel,rfl,by decide +kernel,by decide +kernel⟩
theorem Ag(d:zK K mg "far_words" WO ["row", "distance"])(YQ:yf mg "WORD_BITS" (.int 32))(Ys:∀H,zi K H (.int 32) (.int 32))(pC:yf mg "FAR_CODES" (.ref uC))(gK:wH K w uC qF qH)(Yd:zR P w K mg base "unsigned" ["number", "width"] 1 (zT K ju))(qJ:zR P w K mg base "first_word" ["row", "code"] 3 (zT K wT)):zR P w K mg base "far_words" ["row", "distance"] 4 (zT K jn):=
 zK.yI d ff (by decide) dg λf cdv A outer s H E hr=>(zY (qQ (xY (zC (zj qJ hr rfl (zC (zA 0) (zC (uo pC gK rfl (zm (zk (zc hr)) zl (zA 0) zH)) zN))) (zC (zj Yd hr rfl (zC (zA 1) (zC (qj YQ Ys rfl) zN))) zN)) (yK (zX (zX yN)) (by decide)))))
abbrev VI:Stmt:=top 61
theorem Yz:y9 ["items", "far", "distances", "words", "number", "row"] ["items"] (zw VI):=⟨rfl,rfl,rfl,by decide +kernel,rfl,by decide +kernel,by decide +kernel⟩
theorem ax(d:zK K mg "written" VI ["items"])(uS:mg "enumerate" = none)(OR:zR P w K mg base "far_rows" ["items"] 6 (zT K Zx))(YV:zR P w K mg base "distances_of" ["items", "far"] 4 (zT K jk))(j9:zR P w K mg base "rows_of" ["items"] 2 (zT K ud))(Ow:zR P w K mg base "word_of_row" ["row"] 4 (zT K kP))(OS:zR P w K mg base "far_words" ["row", "distance"] 4 (zT K jn))(Oo:zR P w K mg base "near_word" ["row", "distance"] 4 (zT K kO)):zR P w K mg base "written" ["items"] 7 (zT K kQ):=
 zK.yI d Yz (by decide) fR λf cdv A outer s H E hr=>(zQ (zn (i:=1) Yz.nd rfl (Or.inl rfl) (zj OR hr rfl (zC (zA 0) zN)))
  (zQ (zn (i:=2) Yz.nd rfl (Or.inl rfl) (zj YV hr rfl (zC (zA 0) (zC (zA 1) zN))))
  (zQ (tO (i:=3) Yz.nd rfl (Or.inl rfl) (xY zN (yK yN (by decide))))
  (zQ (ql vt rfl (Qv rfl uS (zj j9 hr rfl (zC (zA 0) zN))) (Y_ (gM (n:=2) rfl (v_ (yl (i:=4) Yz.nd rfl (Or.inl rfl)) (v_ (yl (i:=5) Yz.nd rfl (Or.inl rfl)) gN))) rfl rfl)
   (zY (yn (y2 ZF ZC (zI (zm (zk (zc hr)) zl (zA 2) (zA 4))) (zI wK) (yB _))
     (zY (u5 (qv 3) (zj Ow hr rfl (zC (zA 5) zN))))
     (zY (yn (y2 (uP (zc hr)) uO (zI (zA 4)) (zI (zA 1)) (by with_unfolding_all rfl))
       (zY (Md (qv 3) (jM OS hr rfl (zC (zA 5) (zC (zm (zk (zc hr)) zl (zA 2) (zA 4)) zN)))))
       (zY (u5 (qv 3) (zj Oo hr rfl (zC (zA 5) (zC (zm (zk (zc hr)) zl (zA 2) (zA 4)) zN))))))))))
  (zY (jO 3))))))
abbrev We:Stmt:=top 65
theorem hG:y9 ["_law_script", "_law_k"] ["_law_script", "_law_k"] (zw We):=⟨rfl,rfl,rfl,by decide +kernel,rfl,by decide +kernel,by decide +kernel⟩
theorem Ax(d:zK K mg "_law_cell_at" We ["_law_script", "_law_k"])(yO:mg "len" = none):zR P w K mg base "_law_cell_at" ["_law_script", "_law_k"] 1 (zT K ux):=
 zK.yI d hG (by decide) eD λf cdv A outer s H E hr=>(zQ (yn (y2 uQ wC (zI (zA 1)) (zI (wY wt wy rfl yO wl (xv (zI (zA 0)) wD))) (yB _))
   (zY (yC (zm (zk (zc hr)) zl (zA 0) (zA 1))))
   xF)
  (zY (yC zH)))
abbrev Wj:Stmt:=top 66
theorem hU:y9 ["_law_cell", "_law_k"] ["_law_cell", "_law_k"] (zw Wj):=⟨rfl,rfl,rfl,by decide +kernel,rfl,by decide +kernel,by decide +kernel⟩
theorem aB(d:zK K mg "_law_mixed" Wj ["_law_cell", "_law_k"]):zR P w K mg base "_law_mixed" ["_law_cell", "_law_k"] 1 (zT K wg):=
 zK.yI d hU (by decide) eJ λf cdv A outer s H E hr=>(zY (yC (zW yz yy (zW ZG ZE (zW yz yy (zW yu yt (zW qh ZD (zA 0) zH) (zW qh ZD (zW yu yt (zA 1) zH) zH)) zH) zH) zH)))
abbrev Wl:Stmt:=top 67
theorem Yv:y9 ["_law_k", "_law_shape", "_law_letters", "_law_tail", "_law_name", "_law_turn"] ["_law_k", "_law_shape"] (zw Wl):=⟨rfl,rfl,rfl,by decide +kernel,rfl,by decide +kernel,by decide +kernel⟩
theorem aC(d:zK K mg "_law_name_by" Wl ["_law_k", "_law_shape"])(wO:mg "range" = none)(vi:zR P w K mg base "_law_mixed" ["_law_cell", "_law_k"] 1 (zT K wg)):zR P w K mg base "_law_name_by" ["_law_k", "_law_shape"] 2 (zT K qw):=
 zK.yI d Yv (by decide) eK λf cdv A outer s H E hr=>(zQ (zn (i:=2) Yv.nd rfl (Or.inr rfl) zp)
  (zQ (zn (i:=3) Yv.nd rfl (Or.inl rfl) (iC zp (zI (yo (u4 rfl (wj (own:=["_law_j"]) rfl) (jN rfl wO (zW yz yy (zW v8 v7 (zA 1) zH) zH)) (v4 (λC s H fp pn=>(yl (i:=6) (show(xz ["_law_k", "_law_shape", "_law_letters", "_law_tail", "_law_name", "_law_turn"] ["_law_j"]).Nodup by decide +kernel) rfl (Or.inl rfl))) rfl) (λC s H fp pn=>qR) (λC s H fp pn=>(zm (zk (zc hr)) zl (zA 2) (zW yz yy (zj vi hr rfl (zC (zA 1) (zC (zA 6) zN))) zH))))))))
  (zQ (yn (y2 (vJ (x_ hr)) vI (zI (zW yz yy (zA 1) zH)) (zI zH) (yB _))
   (zQ (zn (i:=4) Yv.nd rfl (Or.inl rfl) (zm (zk (zc hr)) zl (zA 2) (zW yz yy (zA 0) zH)))
    (zQ (ql vt rfl (jN rfl wO (zW v8 v7 (zA 0) zH)) (gT (yl (i:=5) Yv.nd rfl (Or.inl rfl)) rfl)
     (zY (zn (i:=4) Yv.nd rfl (Or.inl rfl) (zW yu yt (zA 4) zp))))
    (zY (yC (zA 4)))))
   xF)
  (zQ (yn (y2 (vJ (x_ hr)) vI (zI (zW yz yy (zA 1) zH)) (zI zH) (yB _))
   (zY (yC (zW yu yt (zW yu yt (zm (zk (zc hr)) zl (zA 2) (zW yz yy (zA 0) zH)) (zm (zk (zc hr)) zl (zA 2) (zW v8 v7 (zA 0) zH))) (MW (zA 3) Qw (Qx zH)))))
   xF)
  (zY (yC (zW yu yt (zW yu yt (MW (zA 3) Qw (Qx zH)) (zm (zk (zc hr)) zl (zA 2) (zW v8 v7 (zA 0) zH))) (zm (zk (zc hr)) zl (zA 2) (zW yz yy (zA 0) zH)))))))))
abbrev Ws:Stmt:=top 68
theorem VP:y9 ["_law_cell", "_law_kind", "_law_first", "_law_other", "_law_rest"] ["_law_cell"] (zw Ws):=⟨rfl,rfl,rfl,by decide +kernel,rfl,by decide +kernel,by decide +kernel⟩
theorem aI(d:zK K mg "_law_row_by" Ws ["_law_cell"]):zR P w K mg base "_law_row_by" ["_law_cell"] 1 (zT K kL):=
 zK.yI d VP (by decide) eS λf cdv A outer s H E hr=>(zQ (zn (i:=1) VP.nd rfl (Or.inl rfl) (zW yz yy (zA 0) zH))
  (zQ (zn (i:=2) VP.nd rfl (Or.inl rfl) (zW yz yy (zW v8 v7 (zA 0) zH) zH))
  (zQ (zn (i:=3) VP.nd rfl (Or.inl rfl) (zW yz yy (zW v8 v7 (zA 0) zH) zH))
  (zQ (zn (i:=4) VP.nd rfl (Or.inl rfl) (zW v8 v7 (zA 0) zH))
  (zQ (yn (y2 (vJ (x_ hr)) vI (zI (zA 1)) (zI zH) (yB _))
   (zY (yC (wL (zC zp zN) (yK (zX yN) (by decide)))))
   xF)
  (zQ (yn (y2 uQ wC (zI (zA 1)) (zI zH) (yB _))
   (zY (yC (wL (zC (zm (zk (zc hr)) zl (yo (xY (zC zp (zC zp zN)) (yK (zX (zX yN)) (by decide)))) (zW tK tI (zA 1) zH)) (zC (zA 2) (zC (zm (zk (zc hr)) zl (yo (xY (zC (zW yz yy (zA 4) zH) (zC zH (zC zH (zC (zW yz yy (zA 4) zH) zN)))) (yK (zX (zX (zX (zX yN)))) (by decide)))) (zW yz yy (zW v8 v7 (zA 4) zH) zH)) zN))) (yK (zX (zX (zX yN))) (by decide)))))
   xF)
  (zQ (yn (y2 uQ wC (zI (zA 1)) (zI zH) (yB _))
   (zY (yC (wL (zC (zm (zk (zc hr)) zl (yo (xY (zC zp (zC zp (zC zp (zC zp (zC zp (zC zp (zC zp (zC zp (zC zp zN))))))))) (yK (zX (zX (zX (zX (zX (zX (zX (zX (zX yN))))))))) (by decide)))) (zW tK tI (zA 1) zH)) (zC (zA 2) (zC (zA 3) zN))) (yK (zX (zX (zX yN))) (by decide)))))
   xF)
  (zQ (yn (y2 uQ wC (zI (zA 1)) (zI zH) (yB _))
   (zY (yC (wL (zC (zm (zk (zc hr)) zl (yo (xY (zC zp (zC zp zN)) (yK (zX (zX yN)) (by decide)))) (zW tK tI (zA 1) zH)) (zC (zA 2) (zC (zm (zk (zc hr)) zl (yo (xY (zC (zW yz yy (zA 4) zH) (zC zH (zC zH (zC zH zN)))) (yK (zX (zX (zX (zX yN)))) (by decide)))) (zW yz yy (zW v8 v7 (zA 4) zH) zH)) zN))) (yK (zX (zX (zX yN))) (by decide)))))
   xF)
  (zY (yC (wL (zC (zm (zk (zc hr)) zl (yo (xY (zC zp (zC zp (zC zp (zC zp zN)))) (yK (zX (zX (zX (zX yN)))) (by decide)))) (zW tK tI (zA 1) zH)) (zC (zA 2) (zC (zA 3) (zC (zm (zk (zc hr)) zl (yo (xY (zC (zW yz yy (zA 4) zH) (zC zH (zC zH zN))) (yK (zX (zX (zX yN))) (by decide)))) (zW yz yy (zW v8 v7 (zA 4) zH) zH)) zN)))) (yK (zX (zX (zX (zX yN)))) (by decide)))))))))))))
abbrev Wp:Stmt:=top 69
theorem MP:y9 ["_law_number", "_law_many", "_law_cell", "_law_way", "_law_far"] ["_law_number", "_law_many", "_law_cell"] (zw Wp):=⟨rfl,rfl,rfl,by decide +kernel,rfl,by decide +kernel,by decide +kernel⟩
theorem aG(d:zK K mg "_law_place_by" Wp ["_law_number", "_law_many", "_law_cell"])(X4:mg "max" = none)(B0:mg "min" = none):zR P w K mg base "_law_place_by" ["_law_number", "_law_many", "_law_cell"] 1 (zT K kK):=
 zK.yI d MP (by decide) eQ λf cdv A outer s H E hr=>(zQ (zn (i:=3) MP.nd rfl (Or.inl rfl) (zW yz yy (zA 2) zH))
  (zQ (zn (i:=4) MP.nd rfl (Or.inl rfl) (zW yu yt (zA 0) (zm (zk (zc hr)) zl (yo (xY (zC zH (zC zH (zC zH (zC zH (zC (vo u8 u7 zH) (zC (vo u8 u7 zH) (zC (vo u8 u7 zH) (zC (vo u8 u7 zH) zN)))))))) (yK (zX (zX (zX (zX (zX (zX (zX (zX yN)))))))) (by decide)))) (zW yz yy (zW v8 v7 (zA 2) zH) zH))))
  (zQ (yn (ZU (J3 (y2 uQ wC (zI (zA 3)) (zI zH) (yB _)) (Mg (lY W4 wC W4 wC (zI zH) (zI (zA 4)) (zI (zA 1))))))
   (zY (yC (zA 4)))
   xF)
  (zQ (yn (y2 uQ wC (zI (zA 3)) (zI zH) (yB _))
   (zY (yC (zW yz yy (zW v8 v7 (zA 2) zH) (zW yu yt (zA 1) zH))))
   xF)
  (zY (yC (wY (Nf rfl) aO rfl X4 Dg (xv (zI zH) (xv (zI (wY (Nh rfl) aP rfl B0 NT (xv (zI (zA 1)) (xv (zI (zW tK tI (zW yu yt (zA 0) (zW yz yy (zW v8 v7 (zA 2) zH) zH)) zH)) wD)))) wD)))))))))
abbrev Wt:Stmt:=top 70
theorem ZR:y9 ["_law_script", "_law_many", "_law_dense", "_law_found", "_law_number", "_law_cell", "_law_place", "_law_word_here"] ["_law_script", "_law_many", "_law_dense"] (zw Wt):=⟨rfl,rfl,rfl,by decide +kernel,rfl,by decide +kernel,by decide +kernel⟩
theorem aJ(d:zK K mg "_law_rows_by" Wt ["_law_script", "_law_many", "_law_dense"])(wO:mg "range" = none)(yO:mg "len" = none)(qK:zR P w K mg base "_law_cell_at" ["_law_script", "_law_k"] 1 (zT K ux))(vi:zR P w K mg base "_law_mixed" ["_law_cell", "_law_k"] 1 (zT K wg))(Oh:zR P w K mg base "_law_place_by" ["_law_number", "_law_many", "_law_cell"] 1 (zT K kK))(Oi:zR P w K mg base "_law_row_by" ["_law_cell"] 1 (zT K kL)):zR P w K mg base "_law_rows_by" ["_law_script", "_law_many", "_law_dense"] 3 (zT K Y5):=
 zK.yI d ZR (by decide) eT λf cdv A outer s H E hr=>(zQ (tO (i:=3) ZR.nd rfl (Or.inl rfl) (xY zN (yK yN (by decide))))
  (zQ (ql vt rfl (jN rfl wO (zA 1)) (gT (yl (i:=4) ZR.nd rfl (Or.inl rfl)) rfl)
   (zQ (zn (i:=5) ZR.nd rfl (Or.inl rfl) (zj qK hr rfl (zC (zA 0) (zC (zW yu yt zH (zA 4)) zN))))
    (zQ (yn (y2 uQ wC (zI (wY wt wy rfl yO wl (xv (zI (zA 0)) wD))) (zI (zW yu yt zH (zA 4))) (yB _))
     (zY (zn (i:=5) ZR.nd rfl (Or.inl rfl) (zj vi hr rfl (zC (zj qK hr rfl (zC (zA 0) (zC zH zN))) (zC (zA 4) zN)))))
     xF)
    (zY (yn (y2 uQ wC (zI (zW yz yy (zj vi hr rfl (zC (zA 5) (zC zH zN))) zH)) (zI (zA 2)) (yB _))
     (zQ (zn (i:=6) ZR.nd rfl (Or.inl rfl) (zj Oh hr rfl (zC (zA 4) (zC (zA 1) (zC (zj vi hr rfl (zC (zA 5) (zC zH zN))) zN)))))
      (zQ (zn (i:=7) ZR.nd rfl (Or.inl rfl) (zm (zk (zc hr)) zl (yo (xY (zC zp (zC zp (zC zp zN))) (yK (zX (zX (zX yN))) (by decide)))) (zW yz yy (zj vi hr rfl (zC (zA 5) (zC zH zN))) zH)))
      (zY (yn (y2 (vJ (x_ hr)) vI (zI (zA 7)) (zI zp) (yB _))
       (zY (u5 (qv 3) (wL (zC (zA 7) (zC (zA 6) zN)) (yK (zX (zX yN)) (by decide)))))
       (zY (u5 (qv 3) (wL (zC (zA 7) (zC (zm (zk (zc hr)) zl (yo (xY (zC zp (zC zp (zC zp zN))) (yK (zX (zX (zX yN))) (by decide)))) (zW yz yy (zj vi hr rfl (zC (zA 5) (zC zH zN))) zH)) (zC (zA 6) zN))) (yK (zX (zX (zX yN))) (by decide)))))))))
     (zY (u5 (qv 3) (zj Oi hr rfl (zC (zj vi hr rfl (zC (zA 5) (zC zH zN))) zN)))))))))
  (zY (jO 3))))
abbrev Wh:Stmt:=top 71
theorem hJ:y9 ["_law_rows"] ["_law_rows"] (zw Wh):=⟨rfl,rfl,rfl,by decide +kernel,rfl,by decide +kernel,by decide +kernel⟩
theorem A_(d:zK K mg "_law_jumps_in" Wh ["_law_rows"])(wO:mg "range" = none)(yO:mg "len" = none):zR P w K mg base "_law_jumps_in" ["_law_rows"] 1 (zT K qu):=
 zK.yI d hJ (by decide) eG λf cdv A outer s H E hr=>(zY (qQ (u4 rfl (wj (own:=["_law_number"]) rfl) (jN rfl wO (wY wt wy rfl yO wl (xv (zI (zA 0)) wD))) (v4 (λC s H fp pn=>(yl (i:=1) (show(xz ["_law_rows"] ["_law_number"]).Nodup by decide +kernel) rfl (Or.inl rfl))) rfl) (λC s H fp pn=>(pO (y2 (uP (zc hr)) uO (zI (zm (zk (zc hr)) zl (zm (zk (zc hr)) zl (zA 0) (zA 1)) zH)) (zI (wL (zC zp (zC zp (zC zp zN))) (yK (zX (zX (zX yN))) (by decide)))) (by with_unfolding_all rfl)))) (λC s H fp pn=>(zA 1)))))
abbrev Wi:Stmt:=top 72
theorem Qr:y9 ["_law_cell", "_law_many"] ["_law_cell"] (zw Wi):=⟨rfl,rfl,rfl,by decide +kernel,rfl,by decide +kernel,by decide +kernel⟩
theorem aA(d:zK K mg "_law_many_by" Wi ["_law_cell"]):zR P w K mg base "_law_many_by" ["_law_cell"] 1 (zT K Y3):=
 zK.yI d Qr (by decide) eI λf cdv A outer s H E hr=>(zQ (zn (i:=1) Qr.nd rfl (Or.inl rfl) (zW yz yy (zA 0) zH))
  (zQ (yn (y2 (vJ (x_ hr)) vI (zI (zW yz yy (zW v8 v7 (zA 0) zH) zH)) (zI zH) (yB _))
   (zY (zn (i:=1) Qr.nd rfl (Or.inl rfl) (zW yu yt zH (zW yz yy (zW v8 v7 (zA 0) zH) zH))))
   xF)
  (zQ (yn (y2 (vJ (x_ hr)) vI (zI (zW yz yy (zW v8 v7 (zA 0) zH) zH)) (zI zH) (yB _))
   (zY (zn (i:=1) Qr.nd rfl (Or.inl rfl) (zW yu yt zH (zW yz yy (zW v8 v7 (zA 0) zH) zH))))
   xF)
  (zY (yC (zA 1))))))
abbrev Wf:Stmt:=top 73
theorem qi:y9 ["_law_rows", "_law_cell", "_law_shape", "_law_places", "_law_names", "_law_items", "_law_count", "_law_place", "_law_more", "_law_jumps"] ["_law_rows", "_law_cell"] (zw Wf):=⟨rfl,rfl,rfl,by decide +kernel,rfl,by decide +kernel,by decide +kernel⟩
theorem Ay(d:zK K mg "_law_items_by" Wf ["_law_rows", "_law_cell"])(wO:mg "range" = none)(yO:mg "len" = none)(j7:zR P w K mg base "_law_jumps_in" ["_law_rows"] 1 (zT K qu))(vi:zR P w K mg base "_law_mixed" ["_law_cell", "_law_k"] 1 (zT K wg))(Q0:zR P w K mg base "_law_name_by" ["_law_k", "_law_shape"] 2 (zT K qw)):zR P w K mg base "_law_items_by" ["_law_rows", "_law_cell"] 4 (zT K Y2):=
 zK.yI d qi (by decide) eE λf cdv A outer s H E hr=>(zQ (zn (i:=2) qi.nd rfl (Or.inl rfl) (zW yz yy (zW v8 v7 (zA 1) zH) zH))
  (zQ (HL (i:=3) rfl qi.nd rfl rfl (wj (own:=["_law_number"]) rfl) rfl (tN (zj j7 hr rfl (zC (zA 0) zN))) (v4 (λC s H fp pn=>(yl (i:=10) (show(xz ["_law_rows", "_law_cell", "_law_shape", "_law_places", "_law_names", "_law_items", "_law_count", "_law_place", "_law_more", "_law_jumps"] ["_law_number"]).Nodup by decide +kernel) rfl (Or.inl rfl))) rfl) (λC s H fp pn=>qR) (λC s H fp pn=>(zm (zk (zc hr)) zl (zm (zk (zc hr)) zl (zA 0) (zA 10)) (vo u8 u7 zH))))
  (zQ (tO (i:=4) qi.nd rfl (Or.inr rfl) MZ)
  (zQ (tO (i:=5) qi.nd rfl (Or.inl rfl) (xY zN (yK yN (by decide))))
  (zQ (zn (i:=6) qi.nd rfl (Or.inl rfl) zH)
  (zQ (ql vt rfl (jN rfl wO (zW yu yt (wY wt wy rfl yO wl (xv (zI (zA 0)) wD)) zH)) (gT (yl (i:=7) qi.nd rfl (Or.inl rfl)) rfl)
   (zQ (zn (i:=8) qi.nd rfl (Or.inl rfl) (zW yz yy (zj vi hr rfl (zC (zA 1) (zC (zA 7) zN))) zH))
    (zQ (yn (ZU (J4 (y2 (uP (zc hr)) uO (zI (zA 7)) (zI (zA 3)) (by with_unfolding_all rfl)) (J5 (y2 (vJ (x_ hr)) vI (zI (zA 8)) (zI zH) (yB _)))))
     (zQ (Q_ (zc hr) (qv 4) (zA 7) (zj Q0 hr rfl (zC (zA 6) (zC (zA 2) zN))))
      (zQ (u5 (qv 5) (wL (zC zp (zC (MU (zc hr) (qv 4) (zA 7)) zN)) (yK (zX (zX yN)) (by decide))))
      (zY (Qz (i:=6) QD QZ qi.nd rfl (Or.inl rfl) zH))))
     xF)
    (zQ (yn (y2 (vJ (x_ hr)) vI (zI (zA 8)) (zI zH) (yB _))
     (zQ (u5 (qv 5) (wL (zC zp (zC (zj Q0 hr rfl (zC (zA 6) (zC (zA 2) zN))) zN)) (yK (zX (zX yN)) (by decide))))
      (zY (Qz (i:=6) QD QZ qi.nd rfl (Or.inl rfl) zH)))
     xF)
    (zY (yn (y2 uQ wC (zI (zA 7)) (zI (wY wt wy rfl yO wl (xv (zI (zA 0)) wD))) (yB _))
     (zY (u5 (qv 5) (zm (zk (zc hr)) zl (zA 0) (zA 7))))
     xF))))))
  (J2 5 (J2 4 (zQ (zn (i:=9) qi.nd rfl (Or.inr rfl) (wL (zC zp (zC zp (zC zp zN))) (yK (zX (zX (zX yN))) (by decide))))
  (zY (qQ (u4 rfl (wj (own:=["_law_item"]) rfl) (tN (zA 5)) (v4 (λC s H fp pn=>(yl (i:=10) (show(xz ["_law_rows", "_law_cell", "_law_shape", "_law_places", "_law_names", "_law_items", "_law_count", "_law_place", "_law_more", "_law_jumps"] ["_law_item"]).Nodup by decide +kernel) rfl (Or.inl rfl))) rfl) (λC s H fp pn=>qR) (λC s H fp pn=>(tL (y2 (uP (zc hr)) uO (zI (zm (zk (zc hr)) zl (zA 10) zH)) (zI (zA 9)) (by with_unfolding_all rfl)) (zW yu yt (MW (zA 10) Qw (Qx (vo u8 u7 zH))) (wL (zC (zm (zk (zc hr)) zl (zA 4) (zm (zk (zc hr)) zl (zA 10) (vo u8 u7 zH))) zN) (yK (zX yN) (by decide)))) (zA 10)))))))))))))))
abbrev Wd:Stmt:=top 74
theorem Qq:y9 ["_law_script", "_law_many", "_law_dense", "_law_rows"] ["_law_script"] (zw Wd):=⟨rfl,rfl,rfl,by decide +kernel,rfl,by decide +kernel,by decide +kernel⟩
theorem Aw(d:zK K mg "_law_built" Wd ["_law_script"])(Oe:zR P w K mg base "_law_many_by" ["_law_cell"] 1 (zT K Y3))(qK:zR P w K mg base "_law_cell_at" ["_law_script", "_law_k"] 1 (zT K ux))(Oj:zR P w K mg base "_law_rows_by" ["_law_script", "_law_many", "_law_dense"] 3 (zT K Y5))(Oc:zR P w K mg base "_law_items_by" ["_law_rows", "_law_cell"] 4 (zT K Y2)):zR P w K mg base "_law_built" ["_law_script"] 5 (zT K Y1):=
 zK.yI d Qq (by decide) eB λf cdv A outer s H E hr=>(zQ (zn (i:=1) Qq.nd rfl (Or.inl rfl) (zj Oe hr rfl (zC (zj qK hr rfl (zC (zA 0) (zC zH zN))) zN)))
  (zQ (zn (i:=2) Qq.nd rfl (Or.inl rfl) (zm (zk (zc hr)) zl (yo (xY (fW (is:=[4,2,6,8]) rfl) (yK (NA (n:=4) (by decide)) (by decide)))) (zW yz yy (zj qK hr rfl (zC (zA 0) (zC zH zN))) zH)))
  (zQ (zn (i:=3) Qq.nd rfl (Or.inl rfl) (zj Oj hr rfl (zC (zA 0) (zC (zA 1) (zC (zA 2) zN)))))
  (zY (yC (wL (zC (zA 3) (zC (zj Oc hr rfl (zC (zA 3) (zC (zW v8 v7 (zj qK hr rfl (zC (zA 0) (zC zH zN))) zH) zN))) zN)) (yK (zX (zX yN)) (by decide))))))))
abbrev Wu:Stmt:=top 75
theorem MQ:y9 ["_law_rows", "_law_far", "_law_found", "_law_number"] ["_law_rows", "_law_far"] (zw Wu):=⟨rfl,rfl,rfl,by decide +kernel,rfl,by decide +kernel,by decide +kernel⟩
theorem aK(d:zK K mg "_law_stands" Wu ["_law_rows", "_law_far"])(wO:mg "range" = none)(yO:mg "len" = none):zR P w K mg base "_law_stands" ["_law_rows", "_law_far"] 1 (zT K jp):=
 zK.yI d MQ (by decide) eU λf cdv A outer s H E hr=>(zQ (tO (i:=2) MQ.nd rfl (Or.inl rfl) (xY (zC zH zN) (yK (zX yN) (by decide))))
  (zQ (ql vt rfl (jN rfl wO (wY wt wy rfl yO wl (xv (zI (zA 0)) wD))) (gT (yl (i:=3) MQ.nd rfl (Or.inl rfl)) rfl)
   (zQ (u5 (qv 2) (zW yu yt (MU (zc hr) (qv 2) (vo u8 u7 zH)) zH))
    (zY (yn (y2 (uP (zc hr)) uO (zI (zA 3)) (zI (zA 1)) (by with_unfolding_all rfl))
     (zY (lX (qv 2) (vo u8 u7 zH) (zW yu yt (MU (zc hr) (qv 2) (vo u8 u7 zH)) zH)))
     xF))))
  (zY (jO 2))))
abbrev Wm:Stmt:=top 76
theorem VO:y9 ["_law_rows", "_law_far", "_law_stands_here", "_law_found", "_law_number", "_law_distance"] ["_law_rows", "_law_far"] (zw Wm):=⟨rfl,rfl,rfl,by decide +kernel,rfl,by decide +kernel,by decide +kernel⟩
theorem aD(d:zK K mg "_law_near_ones" Wm ["_law_rows", "_law_far"])(Ya:zR P w K mg base "_law_stands" ["_law_rows", "_law_far"] 1 (zT K jp))(j7:zR P w K mg base "_law_jumps_in" ["_law_rows"] 1 (zT K qu)):zR P w K mg base "_law_near_ones" ["_law_rows", "_law_far"] 2 (zT K pp):=
 zK.yI d VO (by decide) eM λf cdv A outer s H E hr=>(zQ (zn (i:=2) VO.nd rfl (Or.inl rfl) (zj Ya hr rfl (zC (zA 0) (zC (zA 1) zN))))
  (zQ (tO (i:=3) VO.nd rfl (Or.inl rfl) (xY zN (yK yN (by decide))))
  (zQ (ql vt rfl (tN (zj j7 hr rfl (zC (zA 0) zN))) (gT (yl (i:=4) VO.nd rfl (Or.inl rfl)) rfl)
   (zQ (zn (i:=5) VO.nd rfl (Or.inl rfl) (zW tK tI (zm (zk (zc hr)) zl (zA 2) (zm (zk (zc hr)) zl (zm (zk (zc hr)) zl (zA 0) (zA 4)) (vo u8 u7 zH))) (zm (zk (zc hr)) zl (zA 2) (zA 4))))
    (zY (yn (ZU (J3 (y2 (Ls (zc hr)) Lq (zI (zA 4)) (zI (zA 1)) (by with_unfolding_all rfl)) (Mg (ZU (J4 (y2 uQ wC (zI (zA 5)) (zI (vo u8 u7 zH)) (yB _)) (J5 (y2 Eb wC (zI (zA 5)) (zI zH) (yB _))))))))
     (zY (u5 (qv 3) (zA 4)))
     xF))))
  (zY (jO 3)))))
abbrev Wq:Stmt:=top 77
theorem Qs:y9 ["_law_rows", "_law_far", "_law_more"] ["_law_rows", "_law_far"] (zw Wq):=⟨rfl,rfl,rfl,by decide +kernel,rfl,by decide +kernel,by decide +kernel⟩
theorem aH(d:zK K mg "_law_reaching" Wq ["_law_rows", "_law_far"])(jS:mg "sorted" = none)(Q2:zR P w K mg base "_law_near_ones" ["_law_rows", "_law_far"] 2 (zT K pp)):zR P w K mg base "_law_reaching" ["_law_rows", "_law_far"] 3 (zT K pq):=
 zK.yI d Qs (by decide) eR λf cdv A outer s H E hr=>(zQ (zn (i:=2) Qs.nd rfl (Or.inl rfl) (zj Q2 hr rfl (zC (zA 0) (zC (zA 1) zN))))
  (zQ (J1 vt (y2 (gI (x_ hr)) gH (zI (zA 2)) (zI (yo (xY zN (yK yN (by decide))))) (yB _))
   (zQ (zn (i:=1) Qs.nd rfl (Or.inl rfl) (yo (HC rfl jS (zC (zW yu yt (zA 1) (zA 2)) zN))))
    (zY (zn (i:=2) Qs.nd rfl (Or.inl rfl) (zj Q2 hr rfl (zC (zA 0) (zC (zA 1) zN)))))))
  (zY (yC (zA 1)))))
abbrev Wn:Stmt:=top 78
theorem hW:y9 ["_law_rows"] ["_law_rows"] (zw Wn):=⟨rfl,rfl,rfl,by decide +kernel,rfl,by decide +kernel,by decide +kernel⟩
theorem aE(d:zK K mg "_law_needed" Wn ["_law_rows"])(YZ:zR P w K mg base "_law_reaching" ["_law_rows", "_law_far"] 3 (zT K pq)):zR P w K mg base "_law_needed" ["_law_rows"] 4 (zT K Y4):=
 zK.yI d hW (by decide) eN λf cdv A outer s H E hr=>(zY (yC (zj YZ hr rfl (zC (zA 0) (zC (yo (xY zN (yK yN (by decide)))) zN)))))
abbrev Wc:Stmt:=top 79
theorem h9:y9 ["_law_rows", "_law_cell", "_law_most"] ["_law_rows", "_law_cell", "_law_most"] (zw Wc):=⟨rfl,rfl,rfl,by decide +kernel,rfl,by decide +kernel,by decide +kernel⟩
theorem Av(d:zK K mg "_law_any_far" Wc ["_law_rows", "_law_cell", "_law_most"])(YZ:zR P w K mg base "_law_reaching" ["_law_rows", "_law_far"] 3 (zT K pq))(j7:zR P w K mg base "_law_jumps_in" ["_law_rows"] 1 (zT K qu))(vi:zR P w K mg base "_law_mixed" ["_law_cell", "_law_k"] 1 (zT K wg)):zR P w K mg base "_law_any_far" ["_law_rows", "_law_cell", "_law_most"] 4 (zT K Y0):=
 zK.yI d h9 (by decide) e9 λf cdv A outer s H E hr=>(zY (yC (zj YZ hr rfl (zC (zA 0) (zC (yo (u4 rfl (wj (own:=["_law_number"]) rfl) (tN (zj j7 hr rfl (zC (zA 0) zN))) (v4 (λC s H fp pn=>(yl (i:=3) (show(xz ["_law_rows", "_law_cell", "_law_most"] ["_law_number"]).Nodup by decide +kernel) rfl (Or.inl rfl))) rfl) (λC s H fp pn=>(pO (y2 uQ wC (zI (zW yz yy (zj vi hr rfl (zC (zA 1) (zC (zA 3) zN))) zH)) (zI (zA 2)) (yB _)))) (λC s H fp pn=>(zA 3)))) zN)))))
abbrev Wo:Stmt:=top 80
theorem Go:y9 ["_law_some"] [] (zw Wo):=⟨rfl,rfl,rfl,by decide +kernel,rfl,by decide +kernel,by decide +kernel⟩
theorem aF(d:zK K mg "_law_order" Wo []):zR P w K mg base "_law_order" [] 1 (zT K XO):=
 zK.yI d Go (by decide) eO λf cdv A outer s H E hr=>(zQ (zn (i:=0) Go.nd rfl (Or.inl rfl) (yo (xY (zC zp (zC zp (zC zp (zC zp (zC zp (zC zp (zC zp (zC zp (zC zp (zC zp (zC zp (zC zp zN)))))))))))) (yK (zX (zX (zX (zX (zX (zX (zX (zX (zX (zX (zX (zX yN)))))))))))) (by decide)))))
  (zY (yC (zW yu yt (zA 0) (yo (xY (zC zp (zC zp (zC zp (zC zp (zC zp (zC zp zN)))))) (yK (zX (zX (zX (zX (zX (zX yN)))))) (by decide))))))))
abbrev Wv:Stmt:=top 81
theorem VQ:y9 ["_law_row", "_law_word_here"] ["_law_row"] (zw Wv):=⟨rfl,rfl,rfl,by decide +kernel,rfl,by decide +kernel,by decide +kernel⟩
theorem aL(d:zK K mg "_law_word" Wv ["_law_row"])(yO:mg "len" = none)(Og:zR P w K mg base "_law_order" [] 1 (zT K XO)):zR P w K mg base "_law_word" ["_law_row"] 2 (zT K qx):=
 zK.yI d VQ (by decide) eV λf cdv A outer s H E hr=>(zQ (zn (i:=1) VQ.nd rfl (Or.inl rfl) (zW qh ZD (MT (i8 Og hr rfl) (zm (zk (zc hr)) zl (zA 0) zH)) (zW ZG ZE zH zH)))
  (zQ (yn (y2 (vJ (x_ hr)) vI (zI (zm (zk (zc hr)) zl (zA 0) zH)) (zI zp) (yB _))
   (zY (yC (zA 1)))
   xF)
  (zQ (zn (i:=1) VQ.nd rfl (Or.inl rfl) (zW yu yt (zA 1) (zW qh ZD (zm (zk (zc hr)) zl (zA 0) zH) (zW ZG ZE zH zH))))
  (zQ (yn (y2 (uP (zc hr)) uO (zI (zm (zk (zc hr)) zl (zA 0) zH)) (zI (wL (zC zp (zC zp (zC zp (zC zp zN)))) (yK (zX (zX (zX (zX yN)))) (by decide)))) (by with_unfolding_all rfl))
   (zY (yC (zW yu yt (zA 1) (zm (zk (zc hr)) zl (zA 0) zH))))
   xF)
  (zQ (zn (i:=1) VQ.nd rfl (Or.inl rfl) (zW yu yt (zA 1) (zW qh ZD (zm (zk (zc hr)) zl (zA 0) zH) (zW ZG ZE zH zH))))
  (zQ (yn (y2 (vJ (x_ hr)) vI (zI (wY wt wy rfl yO wl (xv (zI (zA 0)) wD))) (zI zH) (yB _))
   (zY (zn (i:=1) VQ.nd rfl (Or.inl rfl) (zW yu yt (zA 1) (zm (zk (zc hr)) zl (zA 0) zH))))
   xF)
  (zY (yC (zA 1)))))))))
abbrev Wg:Stmt:=top 82
theorem MO:y9 ["_law_row", "_law_distance", "_law_is_far", "_law_word_here"] ["_law_row", "_law_distance", "_law_is_far"] (zw Wg):=⟨rfl,rfl,rfl,by decide +kernel,rfl,by decide +kernel,by decide +kernel⟩
theorem Az(d:zK K mg "_law_jump_words" Wg ["_law_row", "_law_distance", "_law_is_far"])(M_:mg "int" = none):zR P w K mg base "_law_jump_words" ["_law_row", "_law_distance", "_law_is_far"] 1 (zT K kJ):=
 zK.yI d MO (by decide) eF λf cdv A outer s H E hr=>(zQ (zn (i:=3) MO.nd rfl (Or.inl rfl) (zW qh ZD (zW yu yt (zW yu yt zH (MT (yo (xY (zC zp (zC zp (zC zp zN))) (yK (zX (zX (zX yN))) (by decide)))) (zm (zk (zc hr)) zl (zA 0) zH))) (zW qh Qa zH (i9 NZ Ak rfl M_ NP (xv (zI (zA 2)) wD)))) (zW ZG ZE zH zH)))
  (zQ (yn (y2 (gI (x_ hr)) gH (zI (zm (zk (zc hr)) zl (zA 0) zH)) (zI zp) (yB _))
   (zY (zn (i:=3) MO.nd rfl (Or.inl rfl) (zW yu yt (zA 3) (zW qh ZD (MT (yo (xY (zC zp (zC zp (zC zp zN))) (yK (zX (zX (zX yN))) (by decide)))) (zm (zk (zc hr)) zl (zA 0) zH)) (zW ZG ZE zH zH)))))
   xF)
  (zQ (yn (gW (zA 2))
   (zY (qQ (xY (zC (zA 3) (zC (zW yz yy (zA 1) (zW ZG ZE zH zH)) zN)) (yK (zX (zX yN)) (by decide)))))
   xF)
  (zY (qQ (xY (zC (zW yu yt (zA 3) (zW yz yy (zA 1) zH)) zN) (yK (zX yN) (by decide))))))))
abbrev Ww:Stmt:=top 83
theorem Yw:y9 ["_law_rows", "_law_far", "_law_stands_here", "_law_found", "_law_number", "_law_distance"] ["_law_rows", "_law_far"] (zw Ww):=⟨rfl,rfl,rfl,by decide +kernel,rfl,by decide +kernel,by decide +kernel⟩
theorem aM(d:zK K mg "_law_written" Ww ["_law_rows", "_law_far"])(wO:mg "range" = none)(yO:mg "len" = none)(Ya:zR P w K mg base "_law_stands" ["_law_rows", "_law_far"] 1 (zT K jp))(Od:zR P w K mg base "_law_jump_words" ["_law_row", "_law_distance", "_law_is_far"] 1 (zT K kJ))(Ol:zR P w K mg base "_law_word" ["_law_row"] 2 (zT K qx)):zR P w K mg base "_law_written" ["_law_rows", "_law_far"] 3 (zT K kM):=
 zK.yI d Yw (by decide) eX λf cdv A outer s H E hr=>(zQ (zn (i:=2) Yw.nd rfl (Or.inl rfl) (zj Ya hr rfl (zC (zA 0) (zC (zA 1) zN))))
  (zQ (tO (i:=3) Yw.nd rfl (Or.inl rfl) (xY zN (yK yN (by decide))))
  (zQ (ql vt rfl (jN rfl wO (wY wt wy rfl yO wl (xv (zI (zA 0)) wD))) (gT (yl (i:=4) Yw.nd rfl (Or.inl rfl)) rfl)
   (zY (yn (y2 (uP (zc hr)) uO (zI (zm (zk (zc hr)) zl (zm (zk (zc hr)) zl (zA 0) (zA 4)) zH)) (zI (wL (zC zp (zC zp (zC zp zN))) (yK (zX (zX (zX yN))) (by decide)))) (by with_unfolding_all rfl))
     (zQ (zn (i:=5) Yw.nd rfl (Or.inl rfl) (zW tK tI (zm (zk (zc hr)) zl (zA 2) (zm (zk (zc hr)) zl (zm (zk (zc hr)) zl (zA 0) (zA 4)) (vo u8 u7 zH))) (zm (zk (zc hr)) zl (zA 2) (zA 4))))
      (zY (tO (i:=3) Yw.nd rfl (Or.inl rfl) (iK (qv 3) (zj Od hr rfl (zC (zm (zk (zc hr)) zl (zA 0) (zA 4)) (zC (zA 5) (zC (pM (uP (zc hr)) uO (zI (zA 4)) (zI (zA 1)) (by with_unfolding_all rfl)) zN))))))))
     (zY (u5 (qv 3) (zj Ol hr rfl (zC (zm (zk (zc hr)) zl (zA 0) (zA 4)) zN)))))))
  (zY (jO 3)))))
abbrev ZQ:Stmt:=top 84
theorem gS:y9 ["_law_script", "_law_rows", "_law_items", "_law_cell", "_law_least", "_law_words", "_law_found", "_law_again"] ["_law_script"] (zw ZQ):=⟨rfl,rfl,rfl,by decide +kernel,rfl,by decide +kernel,by decide +kernel⟩
theorem Au{f:Addr}{fd:FuncData}(d:jw K "law" "law" ZQ f fd)(yO:mg "len" = none)(Ob:zR P w K mg base "_law_built" ["_law_script"] 5 (zT K Y1))(qK:zR P w K mg base "_law_cell_at" ["_law_script", "_law_k"] 1 (zT K ux))(Of:zR P w K mg base "_law_needed" ["_law_rows"] 4 (zT K Y4))(Q3:zR P w K mg base "_law_written" ["_law_rows", "_law_far"] 3 (zT K kM))(Oa:zR P w K mg base "_law_any_far" ["_law_rows", "_law_cell", "_law_most"] 4 (zT K Y0))(Q5:zR P w K mg base "read_words" ["words"] 9 (zT K jq))(Q7:zR P w K mg base "written" ["items"] 7 (zT K kQ)):tj P w K mg base tZ 10 f fd ["_law_script"] (VX K):=
 Sf d gS (by decide) e8 λcdv A outer s H E hr=>(zQ (lV (zj Ob hr rfl (zC (zA 0) zN)) (Y_ (gM (n:=2) rfl (v_ (yl (i:=1) gS.nd rfl (Or.inl rfl)) (v_ (yl (i:=2) gS.nd rfl (Or.inl rfl)) gN))) rfl rfl))
  (zQ (zn (i:=3) gS.nd rfl (Or.inl rfl) (zj qK hr rfl (zC (zA 0) (zC zH zN))))
  (zQ (zn (i:=4) gS.nd rfl (Or.inl rfl) (zj Of hr rfl (zC (zA 1) zN)))
  (zQ (zn (i:=5) gS.nd rfl (Or.inl rfl) (zj Q3 hr rfl (zC (zA 1) (zC (zj Oa hr rfl (zC (zA 1) (zC (zA 3) (zC (zW yu yt zH (zW yz yy (zA 3) zH)) zN)))) zN))))
  (zQ (zn (i:=6) gS.nd rfl (Or.inl rfl) (yo (jM Q5 hr rfl (zC (zA 5) zN))))
  (zQ (yn (y2 (gI (x_ hr)) gH (zI (zA 6)) (zI (yo (jM Q5 hr rfl (zC (yo (jM Q7 hr rfl (zC (zA 2) zN))) zN)))) (yB _))
   (zY (yC MS))
   xF)
  (zQ (zn (i:=7) gS.nd rfl (Or.inl rfl) (yo (jM Q7 hr rfl (zC (zA 6) zN))))
  (zY (yC (Gz (pM (vJ (x_ hr)) vI (zI (zA 7)) (zI (zj Q3 hr rfl (zC (zA 1) (zC (zA 4) zN)))) (yB _)) (MV (pM W4 wC (zI (wY wt wy rfl yO wl (xv (zI (zA 7)) wD))) (zI (wY wt wy rfl yO wl (xv (zI (zA 5)) wD))) (yB _)))))))))))))
end
theorem all_mk{l:W.OpenLaw}{w:World}{K:W.Frag}{h:Heap}{mg:Str->Option Value}{fa:Addr}(X:K.In h)(G:h.Ns mainGlobals mg)(hfa:mg "law" = some (.ref fa))
  {f0:Addr}{od0 an0:Option Addr}{sl0:Array (Option Value)}{oc0 kV0 dc0 pm0 cd0 ct0:Value}
  {f1:Addr}{od1 an1:Option Addr}{sl1:Array (Option Value)}{oc1 kV1 dc1 pm1 cd1 ct1:Value}
  {f2:Addr}{od2 an2:Option Addr}{sl2:Array (Option Value)}{oc2 kV2 dc2 pm2 cd2 ct2:Value}
  {f3:Addr}{od3 an3:Option Addr}{sl3:Array (Option Value)}{oc3 kV3 dc3 pm3 cd3 ct3:Value}
  {f4:Addr}{od4 an4:Option Addr}{sl4:Array (Option Value)}{oc4 kV4 dc4 pm4 cd4 ct4:Value}
  {f5:Addr}{od5 an5:Option Addr}{sl5:Array (Option Value)}{oc5 kV5 dc5 pm5 cd5 ct5:Value}
  {f6:Addr}{od6 an6:Option Addr}{sl6:Array (Option Value)}{oc6 kV6 dc6 pm6 cd6 ct6:Value}
  {f7:Addr}{od7 an7:Option Addr}{sl7:Array (Option Value)}{oc7 kV7 dc7 pm7 cd7 ct7:Value}
  {f8:Addr}{od8 an8:Option Addr}{sl8:Array (Option Value)}{oc8 kV8 dc8 pm8 cd8 ct8:Value}
  {f9:Addr}{od9 an9:Option Addr}{sl9:Array (Option Value)}{oc9 kV9 dc9 pm9 cd9 ct9:Value}
  {f10:Addr}{od10 an10:Option Addr}{sl10:Array (Option Value)}{oc10 kV10 dc10 pm10 cd10 ct10:Value}
  {f11:Addr}{od11 an11:Option Addr}{sl11:Array (Option Value)}{oc11 kV11 dc11 pm11 cd11 ct11:Value}
  {f12:Addr}{od12 an12:Option Addr}{sl12:Array (Option Value)}{oc12 kV12 dc12 pm12 cd12 ct12:Value}
  {f13:Addr}{od13 an13:Option Addr}{sl13:Array (Option Value)}{oc13 kV13 dc13 pm13 cd13 ct13:Value}
  {f14:Addr}{od14 an14:Option Addr}{sl14:Array (Option Value)}{oc14 kV14 dc14 pm14 cd14 ct14:Value}
  {f15:Addr}{od15 an15:Option Addr}{sl15:Array (Option Value)}{oc15 kV15 dc15 pm15 cd15 ct15:Value}
  {f16:Addr}{od16 an16:Option Addr}{sl16:Array (Option Value)}{oc16 kV16 dc16 pm16 cd16 ct16:Value}
  {f17:Addr}{od17 an17:Option Addr}{sl17:Array (Option Value)}{oc17 kV17 dc17 pm17 cd17 ct17:Value}
  {f18:Addr}{od18 an18:Option Addr}{sl18:Array (Option Value)}{oc18 kV18 dc18 pm18 cd18 ct18:Value}
  {f19:Addr}{od19 an19:Option Addr}{sl19:Array (Option Value)}{oc19 kV19 dc19 pm19 cd19 ct19:Value}
  {f20:Addr}{od20 an20:Option Addr}{sl20:Array (Option Value)}{oc20 kV20 dc20 pm20 cd20 ct20:Value}
  {f21:Addr}{od21 an21:Option Addr}{sl21:Array (Option Value)}{oc21 kV21 dc21 pm21 cd21 ct21:Value}
  {f22:Addr}{od22 an22:Option Addr}{sl22:Array (Option Value)}{oc22 kV22 dc22 pm22 cd22 ct22:Value}
  {f23:Addr}{od23 an23:Option Addr}{sl23:Array (Option Value)}{oc23 kV23 dc23 pm23 cd23 ct23:Value}
  {f24:Addr}{od24 an24:Option Addr}{sl24:Array (Option Value)}{oc24 kV24 dc24 pm24 cd24 ct24:Value}
  {f25:Addr}{od25 an25:Option Addr}{sl25:Array (Option Value)}{oc25 kV25 dc25 pm25 cd25 ct25:Value}
  {f26:Addr}{od26 an26:Option Addr}{sl26:Array (Option Value)}{oc26 kV26 dc26 pm26 cd26 ct26:Value}
  {f27:Addr}{od27 an27:Option Addr}{sl27:Array (Option Value)}{oc27 kV27 dc27 pm27 cd27 ct27:Value}
  {f28:Addr}{od28 an28:Option Addr}{sl28:Array (Option Value)}{oc28 kV28 dc28 pm28 cd28 ct28:Value}
  {f29:Addr}{od29 an29:Option Addr}{sl29:Array (Option Value)}{oc29 kV29 dc29 pm29 cd29 ct29:Value}
  {f30:Addr}{od30 an30:Option Addr}{sl30:Array (Option Value)}{oc30 kV30 dc30 pm30 cd30 ct30:Value}
  {f31:Addr}{od31 an31:Option Addr}{sl31:Array (Option Value)}{oc31 kV31 dc31 pm31 cd31 ct31:Value}
  {f32:Addr}{od32 an32:Option Addr}{sl32:Array (Option Value)}{oc32 kV32 dc32 pm32 cd32 ct32:Value}
  {f33:Addr}{od33 an33:Option Addr}{sl33:Array (Option Value)}{oc33 kV33 dc33 pm33 cd33 ct33:Value}
  {f34:Addr}{od34 an34:Option Addr}{sl34:Array (Option Value)}{oc34 kV34 dc34 pm34 cd34 ct34:Value}
  {f35:Addr}{od35 an35:Option Addr}{sl35:Array (Option Value)}{oc35 kV35 dc35 pm35 cd35 ct35:Value}
  {f36:Addr}{od36 an36:Option Addr}{sl36:Array (Option Value)}{oc36 kV36 dc36 pm36 cd36 ct36:Value}
  {f37:Addr}{od37 an37:Option Addr}{sl37:Array (Option Value)}{oc37 kV37 dc37 pm37 cd37 ct37:Value}
  {f38:Addr}{od38 an38:Option Addr}{sl38:Array (Option Value)}{oc38 kV38 dc38 pm38 cd38 ct38:Value}
  {f39:Addr}{od39 an39:Option Addr}{sl39:Array (Option Value)}{oc39 kV39 dc39 pm39 cd39 ct39:Value}
  {f40:Addr}{od40 an40:Option Addr}{sl40:Array (Option Value)}{oc40 kV40 dc40 pm40 cd40 ct40:Value}
  {f41:Addr}{od41 an41:Option Addr}{sl41:Array (Option Value)}{oc41 kV41 dc41 pm41 cd41 ct41:Value}
  {f42:Addr}{od42 an42:Option Addr}{sl42:Array (Option Value)}{oc42 kV42 dc42 pm42 cd42 ct42:Value}
  {f43:Addr}{od43 an43:Option Addr}{sl43:Array (Option Value)}{oc43 kV43 dc43 pm43 cd43 ct43:Value}
  {f44:Addr}{od44 an44:Option Addr}{sl44:Array (Option Value)}{oc44 kV44 dc44 pm44 cd44 ct44:Value}
  {f45:Addr}{od45 an45:Option Addr}{sl45:Array (Option Value)}{oc45 kV45 dc45 pm45 cd45 ct45:Value}
  {f46:Addr}{od46 an46:Option Addr}{sl46:Array (Option Value)}{oc46 kV46 dc46 pm46 cd46 ct46:Value}
  {f47:Addr}{od47 an47:Option Addr}{sl47:Array (Option Value)}{oc47 kV47 dc47 pm47 cd47 ct47:Value}
  {f48:Addr}{od48 an48:Option Addr}{sl48:Array (Option Value)}{oc48 kV48 dc48 pm48 cd48 ct48:Value}
  {f49:Addr}{od49 an49:Option Addr}{sl49:Array (Option Value)}{oc49 kV49 dc49 pm49 cd49 ct49:Value}
  {f50:Addr}{od50 an50:Option Addr}{sl50:Array (Option Value)}{oc50 kV50 dc50 pm50 cd50 ct50:Value}
  {f51:Addr}{od51 an51:Option Addr}{sl51:Array (Option Value)}{oc51 kV51 dc51 pm51 cd51 ct51:Value}
  {f52:Addr}{od52 an52:Option Addr}{sl52:Array (Option Value)}{oc52 kV52 dc52 pm52 cd52 ct52:Value}
  {f53:Addr}{od53 an53:Option Addr}{sl53:Array (Option Value)}{oc53 kV53 dc53 pm53 cd53 ct53:Value}
  {f54:Addr}{od54 an54:Option Addr}{sl54:Array (Option Value)}{oc54 kV54 dc54 pm54 cd54 ct54:Value}
  {f55:Addr}{od55 an55:Option Addr}{sl55:Array (Option Value)}{oc55 kV55 dc55 pm55 cd55 ct55:Value}
  {f56:Addr}{od56 an56:Option Addr}{sl56:Array (Option Value)}{oc56 kV56 dc56 pm56 cd56 ct56:Value}
  {f57:Addr}{od57 an57:Option Addr}{sl57:Array (Option Value)}{oc57 kV57 dc57 pm57 cd57 ct57:Value}
  {f58:Addr}{od58 an58:Option Addr}{sl58:Array (Option Value)}{oc58 kV58 dc58 pm58 cd58 ct58:Value}
  (a0:W.nsIn K mainGlobals "part" = some (some (.ref f0)))
  (l0:K.lookup f0=yG "part" V3 oc0 od0 sl0 kV0 dc0 pm0 an0 cd0 ct0)
  (c0:W.codeIn K cd0 "part" = true)(k0:W.keepIn K (.ref f0)=true)
  (a1:W.nsIn K mainGlobals "with_part" = some (some (.ref f1)))
  (l1:K.lookup f1=yG "with_part" VF oc1 od1 sl1 kV1 dc1 pm1 an1 cd1 ct1)
  (c1:W.codeIn K cd1 "with_part" = true)(k1:W.keepIn K (.ref f1)=true)
  (a2:W.nsIn K mainGlobals "signed" = some (some (.ref f2)))
  (l2:K.lookup f2=yG "signed" V8 oc2 od2 sl2 kV2 dc2 pm2 an2 cd2 ct2)
  (c2:W.codeIn K cd2 "signed" = true)(k2:W.keepIn K (.ref f2)=true)
  (a3:W.nsIn K mainGlobals "unsigned" = some (some (.ref f3)))
  (l3:K.lookup f3=yG "unsigned" VC oc3 od3 sl3 kV3 dc3 pm3 an3 cd3 ct3)
  (c3:W.codeIn K cd3 "unsigned" = true)(k3:W.keepIn K (.ref f3)=true)
  (a4:W.nsIn K mainGlobals "place_in_word" = some (some (.ref f4)))
  (l4:K.lookup f4=yG "place_in_word" V4 oc4 od4 sl4 kV4 dc4 pm4 an4 cd4 ct4)
  (c4:W.codeIn K cd4 "place_in_word" = true)(k4:W.keepIn K (.ref f4)=true)
  (a5:W.nsIn K mainGlobals "number_at" = some (some (.ref f5)))
  (l5:K.lookup f5=yG "number_at" V2 oc5 od5 sl5 kV5 dc5 pm5 an5 cd5 ct5)
  (c5:W.codeIn K cd5 "number_at" = true)(k5:W.keepIn K (.ref f5)=true)
  (a6:W.nsIn K mainGlobals "with_number" = some (some (.ref f6)))
  (l6:K.lookup f6=yG "with_number" VE oc6 od6 sl6 kV6 dc6 pm6 an6 cd6 ct6)
  (c6:W.codeIn K cd6 "with_number" = true)(k6:W.keepIn K (.ref f6)=true)
  (a7:W.nsIn K mainGlobals "fields_in_word" = some (some (.ref f7)))
  (l7:K.lookup f7=yG "fields_in_word" WP oc7 od7 sl7 kV7 dc7 pm7 an7 cd7 ct7)
  (c7:W.codeIn K cd7 "fields_in_word" = true)(k7:W.keepIn K (.ref f7)=true)
  (a8:W.nsIn K mainGlobals "first_word" = some (some (.ref f8)))
  (l8:K.lookup f8=yG "first_word" WQ oc8 od8 sl8 kV8 dc8 pm8 an8 cd8 ct8)
  (c8:W.codeIn K cd8 "first_word" = true)(k8:W.keepIn K (.ref f8)=true)
  (a9:W.nsIn K mainGlobals "code_in" = some (some (.ref f9)))
  (l9:K.lookup f9=yG "code_in" WK oc9 od9 sl9 kV9 dc9 pm9 an9 cd9 ct9)
  (c9:W.codeIn K cd9 "code_in" = true)(k9:W.keepIn K (.ref f9)=true)
  (a10:W.nsIn K mainGlobals "kind_of_code" = some (some (.ref f10)))
  (l10:K.lookup f10=yG "kind_of_code" WZ oc10 od10 sl10 kV10 dc10 pm10 an10 cd10 ct10)
  (c10:W.codeIn K cd10 "kind_of_code" = true)(k10:W.keepIn K (.ref f10)=true)
  (a11:W.nsIn K mainGlobals "is_near_code" = some (some (.ref f11)))
  (l11:K.lookup f11=yG "is_near_code" WY oc11 od11 sl11 kV11 dc11 pm11 an11 cd11 ct11)
  (c11:W.codeIn K cd11 "is_near_code" = true)(k11:W.keepIn K (.ref f11)=true)
  (a12:W.nsIn K mainGlobals "is_far_code" = some (some (.ref f12)))
  (l12:K.lookup f12=yG "is_far_code" WS oc12 od12 sl12 kV12 dc12 pm12 an12 cd12 ct12)
  (c12:W.codeIn K cd12 "is_far_code" = true)(k12:W.keepIn K (.ref f12)=true)
  (a13:W.nsIn K mainGlobals "held_in" = some (some (.ref f13)))
  (l13:K.lookup f13=yG "held_in" WR oc13 od13 sl13 kV13 dc13 pm13 an13 cd13 ct13)
  (c13:W.codeIn K cd13 "held_in" = true)(k13:W.keepIn K (.ref f13)=true)
  (a14:W.nsIn K mainGlobals "row_in" = some (some (.ref f14)))
  (l14:K.lookup f14=yG "row_in" V6 oc14 od14 sl14 kV14 dc14 pm14 an14 cd14 ct14)
  (c14:W.codeIn K cd14 "row_in" = true)(k14:W.keepIn K (.ref f14)=true)
  (a15:W.nsIn K mainGlobals "is_label" = some (some (.ref f15)))
  (l15:K.lookup f15=yG "is_label" WU oc15 od15 sl15 kV15 dc15 pm15 an15 cd15 ct15)
  (c15:W.codeIn K cd15 "is_label" = true)(k15:W.keepIn K (.ref f15)=true)
  (a16:W.nsIn K mainGlobals "is_jump" = some (some (.ref f16)))
  (l16:K.lookup f16=yG "is_jump" WT oc16 od16 sl16 kV16 dc16 pm16 an16 cd16 ct16)
  (c16:W.codeIn K cd16 "is_jump" = true)(k16:W.keepIn K (.ref f16)=true)
  (a17:W.nsIn K mainGlobals "rows_of" = some (some (.ref f17)))
  (l17:K.lookup f17=yG "rows_of" V7 oc17 od17 sl17 kV17 dc17 pm17 an17 cd17 ct17)
  (c17:W.codeIn K cd17 "rows_of" = true)(k17:W.keepIn K (.ref f17)=true)
  (a18:W.nsIn K mainGlobals "label_places" = some (some (.ref f18)))
  (l18:K.lookup f18=yG "label_places" Wa oc18 od18 sl18 kV18 dc18 pm18 an18 cd18 ct18)
  (c18:W.codeIn K cd18 "label_places" = true)(k18:W.keepIn K (.ref f18)=true)
  (a19:W.nsIn K mainGlobals "targets_of" = some (some (.ref f19)))
  (l19:K.lookup f19=yG "targets_of" VA oc19 od19 sl19 kV19 dc19 pm19 an19 cd19 ct19)
  (c19:W.codeIn K cd19 "targets_of" = true)(k19:W.keepIn K (.ref f19)=true)
  (a20:W.nsIn K mainGlobals "name_of" = some (some (.ref f20)))
  (l20:K.lookup f20=yG "name_of" Wx oc20 od20 sl20 kV20 dc20 pm20 an20 cd20 ct20)
  (c20:W.codeIn K cd20 "name_of" = true)(k20:W.keepIn K (.ref f20)=true)
  (a21:W.nsIn K mainGlobals "names_of_places" = some (some (.ref f21)))
  (l21:K.lookup f21=yG "names_of_places" Wy oc21 od21 sl21 kV21 dc21 pm21 an21 cd21 ct21)
  (c21:W.codeIn K cd21 "names_of_places" = true)(k21:W.keepIn K (.ref f21)=true)
  (a22:W.nsIn K mainGlobals "labelled" = some (some (.ref f22)))
  (l22:K.lookup f22=yG "labelled" Wb oc22 od22 sl22 kV22 dc22 pm22 an22 cd22 ct22)
  (c22:W.codeIn K cd22 "labelled" = true)(k22:W.keepIn K (.ref f22)=true)
  (a23:W.nsIn K mainGlobals "far_at" = some (some (.ref f23)))
  (l23:K.lookup f23=yG "far_at" WM oc23 od23 sl23 kV23 dc23 pm23 an23 cd23 ct23)
  (c23:W.codeIn K cd23 "far_at" = true)(k23:W.keepIn K (.ref f23)=true)
  (a24:W.nsIn K mainGlobals "told_at" = some (some (.ref f24)))
  (l24:K.lookup f24=yG "told_at" VB oc24 od24 sl24 kV24 dc24 pm24 an24 cd24 ct24)
  (c24:W.codeIn K cd24 "told_at" = true)(k24:W.keepIn K (.ref f24)=true)
  (a25:W.nsIn K mainGlobals "walked" = some (some (.ref f25)))
  (l25:K.lookup f25=yG "walked" VD oc25 od25 sl25 kV25 dc25 pm25 an25 cd25 ct25)
  (c25:W.codeIn K cd25 "walked" = true)(k25:W.keepIn K (.ref f25)=true)
  (a26:W.nsIn K mainGlobals "behind" = some (some (.ref f26)))
  (l26:K.lookup f26=yG "behind" WJ oc26 od26 sl26 kV26 dc26 pm26 an26 cd26 ct26)
  (c26:W.codeIn K cd26 "behind" = true)(k26:W.keepIn K (.ref f26)=true)
  (a27:W.nsIn K mainGlobals "word_fault" = some (some (.ref f27)))
  (l27:K.lookup f27=yG "word_fault" VG oc27 od27 sl27 kV27 dc27 pm27 an27 cd27 ct27)
  (c27:W.codeIn K cd27 "word_fault" = true)(k27:W.keepIn K (.ref f27)=true)
  (a28:W.nsIn K mainGlobals "table_of" = some (some (.ref f28)))
  (l28:K.lookup f28=yG "table_of" V9 oc28 od28 sl28 kV28 dc28 pm28 an28 cd28 ct28)
  (c28:W.codeIn K cd28 "table_of" = true)(k28:W.keepIn K (.ref f28)=true)
  (a29:W.nsIn K mainGlobals "read_words" = some (some (.ref f29)))
  (l29:K.lookup f29=yG "read_words" V5 oc29 od29 sl29 kV29 dc29 pm29 an29 cd29 ct29)
  (c29:W.codeIn K cd29 "read_words" = true)(k29:W.keepIn K (.ref f29)=true)
  (a30:W.nsIn K mainGlobals "addresses" = some (some (.ref f30)))
  (l30:K.lookup f30=yG "addresses" WI oc30 od30 sl30 kV30 dc30 pm30 an30 cd30 ct30)
  (c30:W.codeIn K cd30 "addresses" = true)(k30:W.keepIn K (.ref f30)=true)
  (a31:W.nsIn K mainGlobals "is_near" = some (some (.ref f31)))
  (l31:K.lookup f31=yG "is_near" WX oc31 od31 sl31 kV31 dc31 pm31 an31 cd31 ct31)
  (c31:W.codeIn K cd31 "is_near" = true)(k31:W.keepIn K (.ref f31)=true)
  (a32:W.nsIn K mainGlobals "distances_of" = some (some (.ref f32)))
  (l32:K.lookup f32=yG "distances_of" WL oc32 od32 sl32 kV32 dc32 pm32 an32 cd32 ct32)
  (c32:W.codeIn K cd32 "distances_of" = true)(k32:W.keepIn K (.ref f32)=true)
  (a33:W.nsIn K mainGlobals "not_reaching" = some (some (.ref f33)))
  (l33:K.lookup f33=yG "not_reaching" W_ oc33 od33 sl33 kV33 dc33 pm33 an33 cd33 ct33)
  (c33:W.codeIn K cd33 "not_reaching" = true)(k33:W.keepIn K (.ref f33)=true)
  (a34:W.nsIn K mainGlobals "far_rows" = some (some (.ref f34)))
  (l34:K.lookup f34=yG "far_rows" WN oc34 od34 sl34 kV34 dc34 pm34 an34 cd34 ct34)
  (c34:W.codeIn K cd34 "far_rows" = true)(k34:W.keepIn K (.ref f34)=true)
  (a35:W.nsIn K mainGlobals "word_of_row" = some (some (.ref f35)))
  (l35:K.lookup f35=yG "word_of_row" VH oc35 od35 sl35 kV35 dc35 pm35 an35 cd35 ct35)
  (c35:W.codeIn K cd35 "word_of_row" = true)(k35:W.keepIn K (.ref f35)=true)
  (a36:W.nsIn K mainGlobals "near_word" = some (some (.ref f36)))
  (l36:K.lookup f36=yG "near_word" Wz oc36 od36 sl36 kV36 dc36 pm36 an36 cd36 ct36)
  (c36:W.codeIn K cd36 "near_word" = true)(k36:W.keepIn K (.ref f36)=true)
  (a37:W.nsIn K mainGlobals "far_words" = some (some (.ref f37)))
  (l37:K.lookup f37=yG "far_words" WO oc37 od37 sl37 kV37 dc37 pm37 an37 cd37 ct37)
  (c37:W.codeIn K cd37 "far_words" = true)(k37:W.keepIn K (.ref f37)=true)
  (a38:W.nsIn K mainGlobals "written" = some (some (.ref f38)))
  (l38:K.lookup f38=yG "written" VI oc38 od38 sl38 kV38 dc38 pm38 an38 cd38 ct38)
  (c38:W.codeIn K cd38 "written" = true)(k38:W.keepIn K (.ref f38)=true)
  (a39:W.nsIn K mainGlobals "_law_cell_at" = some (some (.ref f39)))
  (l39:K.lookup f39=yG "_law_cell_at" We oc39 od39 sl39 kV39 dc39 pm39 an39 cd39 ct39)
  (c39:W.codeIn K cd39 "_law_cell_at" = true)(k39:W.keepIn K (.ref f39)=true)
  (a40:W.nsIn K mainGlobals "_law_mixed" = some (some (.ref f40)))
  (l40:K.lookup f40=yG "_law_mixed" Wj oc40 od40 sl40 kV40 dc40 pm40 an40 cd40 ct40)
  (c40:W.codeIn K cd40 "_law_mixed" = true)(k40:W.keepIn K (.ref f40)=true)
  (a41:W.nsIn K mainGlobals "_law_name_by" = some (some (.ref f41)))
  (l41:K.lookup f41=yG "_law_name_by" Wl oc41 od41 sl41 kV41 dc41 pm41 an41 cd41 ct41)
  (c41:W.codeIn K cd41 "_law_name_by" = true)(k41:W.keepIn K (.ref f41)=true)
  (a42:W.nsIn K mainGlobals "_law_row_by" = some (some (.ref f42)))
  (l42:K.lookup f42=yG "_law_row_by" Ws oc42 od42 sl42 kV42 dc42 pm42 an42 cd42 ct42)
  (c42:W.codeIn K cd42 "_law_row_by" = true)(k42:W.keepIn K (.ref f42)=true)
  (a43:W.nsIn K mainGlobals "_law_place_by" = some (some (.ref f43)))
  (l43:K.lookup f43=yG "_law_place_by" Wp oc43 od43 sl43 kV43 dc43 pm43 an43 cd43 ct43)
  (c43:W.codeIn K cd43 "_law_place_by" = true)(k43:W.keepIn K (.ref f43)=true)
  (a44:W.nsIn K mainGlobals "_law_rows_by" = some (some (.ref f44)))
  (l44:K.lookup f44=yG "_law_rows_by" Wt oc44 od44 sl44 kV44 dc44 pm44 an44 cd44 ct44)
  (c44:W.codeIn K cd44 "_law_rows_by" = true)(k44:W.keepIn K (.ref f44)=true)
  (a45:W.nsIn K mainGlobals "_law_jumps_in" = some (some (.ref f45)))
  (l45:K.lookup f45=yG "_law_jumps_in" Wh oc45 od45 sl45 kV45 dc45 pm45 an45 cd45 ct45)
  (c45:W.codeIn K cd45 "_law_jumps_in" = true)(k45:W.keepIn K (.ref f45)=true)
  (a46:W.nsIn K mainGlobals "_law_many_by" = some (some (.ref f46)))
  (l46:K.lookup f46=yG "_law_many_by" Wi oc46 od46 sl46 kV46 dc46 pm46 an46 cd46 ct46)
  (c46:W.codeIn K cd46 "_law_many_by" = true)(k46:W.keepIn K (.ref f46)=true)
  (a47:W.nsIn K mainGlobals "_law_items_by" = some (some (.ref f47)))
  (l47:K.lookup f47=yG "_law_items_by" Wf oc47 od47 sl47 kV47 dc47 pm47 an47 cd47 ct47)
  (c47:W.codeIn K cd47 "_law_items_by" = true)(k47:W.keepIn K (.ref f47)=true)
  (a48:W.nsIn K mainGlobals "_law_built" = some (some (.ref f48)))
  (l48:K.lookup f48=yG "_law_built" Wd oc48 od48 sl48 kV48 dc48 pm48 an48 cd48 ct48)
  (c48:W.codeIn K cd48 "_law_built" = true)(k48:W.keepIn K (.ref f48)=true)
  (a49:W.nsIn K mainGlobals "_law_stands" = some (some (.ref f49)))
  (l49:K.lookup f49=yG "_law_stands" Wu oc49 od49 sl49 kV49 dc49 pm49 an49 cd49 ct49)
  (c49:W.codeIn K cd49 "_law_stands" = true)(k49:W.keepIn K (.ref f49)=true)
  (a50:W.nsIn K mainGlobals "_law_near_ones" = some (some (.ref f50)))
  (l50:K.lookup f50=yG "_law_near_ones" Wm oc50 od50 sl50 kV50 dc50 pm50 an50 cd50 ct50)
  (c50:W.codeIn K cd50 "_law_near_ones" = true)(k50:W.keepIn K (.ref f50)=true)
  (a51:W.nsIn K mainGlobals "_law_reaching" = some (some (.ref f51)))
  (l51:K.lookup f51=yG "_law_reaching" Wq oc51 od51 sl51 kV51 dc51 pm51 an51 cd51 ct51)
  (c51:W.codeIn K cd51 "_law_reaching" = true)(k51:W.keepIn K (.ref f51)=true)
  (a52:W.nsIn K mainGlobals "_law_needed" = some (some (.ref f52)))
  (l52:K.lookup f52=yG "_law_needed" Wn oc52 od52 sl52 kV52 dc52 pm52 an52 cd52 ct52)
  (c52:W.codeIn K cd52 "_law_needed" = true)(k52:W.keepIn K (.ref f52)=true)
  (a53:W.nsIn K mainGlobals "_law_any_far" = some (some (.ref f53)))
  (l53:K.lookup f53=yG "_law_any_far" Wc oc53 od53 sl53 kV53 dc53 pm53 an53 cd53 ct53)
  (c53:W.codeIn K cd53 "_law_any_far" = true)(k53:W.keepIn K (.ref f53)=true)
  (a54:W.nsIn K mainGlobals "_law_order" = some (some (.ref f54)))
  (l54:K.lookup f54=yG "_law_order" Wo oc54 od54 sl54 kV54 dc54 pm54 an54 cd54 ct54)
  (c54:W.codeIn K cd54 "_law_order" = true)(k54:W.keepIn K (.ref f54)=true)
  (a55:W.nsIn K mainGlobals "_law_word" = some (some (.ref f55)))
  (l55:K.lookup f55=yG "_law_word" Wv oc55 od55 sl55 kV55 dc55 pm55 an55 cd55 ct55)
  (c55:W.codeIn K cd55 "_law_word" = true)(k55:W.keepIn K (.ref f55)=true)
  (a56:W.nsIn K mainGlobals "_law_jump_words" = some (some (.ref f56)))
  (l56:K.lookup f56=yG "_law_jump_words" Wg oc56 od56 sl56 kV56 dc56 pm56 an56 cd56 ct56)
  (c56:W.codeIn K cd56 "_law_jump_words" = true)(k56:W.keepIn K (.ref f56)=true)
  (a57:W.nsIn K mainGlobals "_law_written" = some (some (.ref f57)))
  (l57:K.lookup f57=yG "_law_written" Ww oc57 od57 sl57 kV57 dc57 pm57 an57 cd57 ct57)
  (c57:W.codeIn K cd57 "_law_written" = true)(k57:W.keepIn K (.ref f57)=true)
  (a58:W.nsIn K mainGlobals "law" = some (some (.ref f58)))
  (l58:K.lookup f58=yG "law" ZQ oc58 od58 sl58 kV58 dc58 pm58 an58 cd58 ct58)
  (c58:W.codeIn K cd58 "law" = true)(k58:W.keepIn K (.ref f58)=true)
  (EX:W.nsIn K mainGlobals "zip" = some none)
  (EQ:W.nsIn K mainGlobals "list" = some none)
  (EO:W.nsIn K mainGlobals "len" = some none)
  (EW:W.nsIn K mainGlobals "tuple" = some none)
  (EV:W.nsIn K mainGlobals "sorted" = some none)
  (EU:W.nsIn K mainGlobals "set" = some none)
  (EL:W.nsIn K mainGlobals "dict" = some none)
  (EM:W.nsIn K mainGlobals "enumerate" = some none)
  (ER:W.nsIn K mainGlobals "max" = some none)
  (ET:W.nsIn K mainGlobals "range" = some none)
  (ES:W.nsIn K mainGlobals "min" = some none)
  (EN:W.nsIn K mainGlobals "int" = some none)
  {jg:Addr}{A6:Nat}(Cd:W.nsIn K mainGlobals "NUMBER_WIDTHS" = some (some (.ref jg)))
  {mi:Tok}
  {oP:Tok}
  {nG:Tok}
  {og:Tok}
  {nO:Tok}
  {om:Tok}
  {nS:Tok}
  {ot:Tok}
  {nW:Tok}
  {ox:Tok}
  {ng:Tok}
  {oz:Tok}
  {nj:Tok}
  {r8:Tok}
  {nu:Tok}
  {rA:Tok}
  (Ck:K.lookup jg=some { cls:=.type "dict",data:=.dict #[⟨PyData.keyHash w.params "set",.str "set" mi,.int 16 oP⟩,⟨PyData.keyHash w.params "high",.str "high" nG,.int 16 og⟩,⟨PyData.keyHash w.params "left",.str "left" nO,.int 5 om⟩,⟨PyData.keyHash w.params "right",.str "right" nS,.int 5 ot⟩,⟨PyData.keyHash w.params "load",.str "load" nW,.int 8 ox⟩,⟨PyData.keyHash w.params "store",.str "store" ng,.int 8 oz⟩,⟨PyData.keyHash w.params "loadw",.str "loadw" nj,.int 8 r8⟩,⟨PyData.keyHash w.params "storew",.str "storew" nu,.int 8 rA⟩] A6 })(Co:(jg==sysModules)=false)
  {mY:Tok}(Cc:W.nsIn K mainGlobals "NUMBER_LOW" = some (some (.int 0 mY)))
  {vN:Addr}{A7:Nat}(Ce:W.nsIn K mainGlobals "PLACES" = some (some (.ref vN)))
  {mj:Tok}
  {U6:Addr}{d0_PLACES:Option Addr}{n0_PLACES:Nat}{iX:Array (Option Value)}
  {rV rW:Tok}
  {nH:Tok}
  {UI:Addr}{d1_PLACES:Option Addr}{n1_PLACES:Nat}{im:Array (Option Value)}
  {sN sP:Tok}
  {nP:Tok}
  {UM:Addr}{d2_PLACES:Option Addr}{n2_PLACES:Nat}{iu:Array (Option Value)}
  {sT sV:Tok}
  {nT:Tok}
  {UO:Addr}{d3_PLACES:Option Addr}{n3_PLACES:Nat}{iz:Array (Option Value)}
  {sX sZ:Tok}
  {nX:Tok}
  {UQ:Addr}{d4_PLACES:Option Addr}{n4_PLACES:Nat}{lA:Array (Option Value)}
  {sj sn:Tok}
  (Cl:K.lookup vN=some { cls:=.type "dict",data:=.dict #[⟨PyData.keyHash w.params "kind",.str "kind" mj,.ref U6⟩,⟨PyData.keyHash w.params "d",.str "d" nH,.ref UI⟩,⟨PyData.keyHash w.params "s",.str "s" nP,.ref UM⟩,⟨PyData.keyHash w.params "mark",.str "mark" nT,.ref UO⟩,⟨PyData.keyHash w.params "distance",.str "distance" nX,.ref UQ⟩] A7 })(Cp:(vN==sysModules)=false)
  (Cr:K.lookup U6=some ⟨.type "tuple",d0_PLACES,.seq #[.int 27 rV,.int 5 rW] n0_PLACES,iX⟩)
  (E5:K.lookup UI=some ⟨.type "tuple",d1_PLACES,.seq #[.int 24 sN,.int 3 sP] n1_PLACES,im⟩)
  (E9:K.lookup UM=some ⟨.type "tuple",d2_PLACES,.seq #[.int 21 sT,.int 3 sV] n2_PLACES,iu⟩)
  (EB:K.lookup UO=some ⟨.type "tuple",d3_PLACES,.seq #[.int 24 sX,.int 2 sZ] n3_PLACES,iz⟩)
  (ED:K.lookup UQ=some ⟨.type "tuple",d4_PLACES,.seq #[.int 0 sj,.int 5 sn] n4_PLACES,lA⟩)
  {je:Addr}{A2:Nat}(CT:W.nsIn K mainGlobals "FIELDS" = some (some (.ref je)))
  {mf:Tok}
  {U5:Addr}{d0_FIELDS:Option Addr}{n0_FIELDS:Nat}{iW:Array (Option Value)}
  {rT:Tok}
  {nE:Tok}
  {UH:Addr}{d1_FIELDS:Option Addr}{n1_FIELDS:Nat}{il:Array (Option Value)}
  {sM sO:Tok}
  {nM:Tok}
  {UL:Addr}{d2_FIELDS:Option Addr}{n2_FIELDS:Nat}{ir:Array (Option Value)}
  {sS sU:Tok}
  {nR:Tok}
  {UN:Addr}{d3_FIELDS:Option Addr}{n3_FIELDS:Nat}{iw:Array (Option Value)}
  {sW sY:Tok}
  {nV:Tok}
  {UP:Addr}{d4_FIELDS:Option Addr}{n4_FIELDS:Nat}{i_:Array (Option Value)}
  {si sk:Tok}
  {nZ:Tok}
  {UR:Addr}{d5_FIELDS:Option Addr}{n5_FIELDS:Nat}{lB:Array (Option Value)}
  {so sr:Tok}
  {ni:Tok}
  {US:Addr}{d6_FIELDS:Option Addr}{n6_FIELDS:Nat}{lC:Array (Option Value)}
  {ss su:Tok}
  {nn:Tok}
  {UT:Addr}{d7_FIELDS:Option Addr}{n7_FIELDS:Nat}{lD:Array (Option Value)}
  {sv sw:Tok}
  {ny:Tok}
  {UU:Addr}{d8_FIELDS:Option Addr}{n8_FIELDS:Nat}{lE:Array (Option Value)}
  {sx sy:Tok}
  {n_:Tok}
  {UV:Addr}{d9_FIELDS:Option Addr}{n9_FIELDS:Nat}{lF:Array (Option Value)}
  {s_ z00:Tok}
  {mn:Tok}
  {U7:Addr}{d10_FIELDS:Option Addr}{n10_FIELDS:Nat}{iY:Array (Option Value)}
  {rX rY:Tok}
  {mq:Tok}
  {U8:Addr}{d11_FIELDS:Option Addr}{n11_FIELDS:Nat}{iZ:Array (Option Value)}
  {rZ re:Tok}
  {ms:Tok}
  {U9:Addr}{d12_FIELDS:Option Addr}{n12_FIELDS:Nat}{ia:Array (Option Value)}
  {rf rg:Tok}
  {mv:Tok}
  {UA:Addr}{d13_FIELDS:Option Addr}{n13_FIELDS:Nat}{ib:Array (Option Value)}
  {rh rj:Tok}
  {my:Tok}
  {UB:Addr}{d14_FIELDS:Option Addr}{n14_FIELDS:Nat}{ic:Array (Option Value)}
  {rn rq r_:Tok}
  {m_:Tok}
  {UC:Addr}{d15_FIELDS:Option Addr}{n15_FIELDS:Nat}{ie:Array (Option Value)}
  {sA sB sC:Tok}
  {n5:Tok}
  {UD:Addr}{d16_FIELDS:Option Addr}{n16_FIELDS:Nat}{ig:Array (Option Value)}
  {sD sE sF:Tok}
  {n9:Tok}
  {UE:Addr}{d17_FIELDS:Option Addr}{n17_FIELDS:Nat}{ii:Array (Option Value)}
  {sG sH sI:Tok}
  {nA:Tok}
  {UF:Addr}{d18_FIELDS:Option Addr}{n18_FIELDS:Nat}{ij:Array (Option Value)}
  {sJ:Tok}
  {nB:Tok}
  {UG:Addr}{d19_FIELDS:Option Addr}{n19_FIELDS:Nat}{ik:Array (Option Value)}
  {sK sL:Tok}
  {nI:Tok}
  {UJ:Addr}{d20_FIELDS:Option Addr}{n20_FIELDS:Nat}{ip:Array (Option Value)}
  {sQ sR:Tok}
  {nJ:Tok}
  {UK:Addr}{d21_FIELDS:Option Addr}{n21_FIELDS:Nat}{iq:Array (Option Value)}
  (Cj:K.lookup je=some { cls:=.type "dict",data:=.dict #[⟨PyData.keyHash w.params "label",.str "label" mf,.ref U5⟩,⟨PyData.keyHash w.params "set",.str "set" nE,.ref UH⟩,⟨PyData.keyHash w.params "high",.str "high" nM,.ref UL⟩,⟨PyData.keyHash w.params "copy",.str "copy" nR,.ref UN⟩,⟨PyData.keyHash w.params "add",.str "add" nV,.ref UP⟩,⟨PyData.keyHash w.params "addc",.str "addc" nZ,.ref UR⟩,⟨PyData.keyHash w.params "sub",.str "sub" ni,.ref US⟩,⟨PyData.keyHash w.params "subc",.str "subc" nn,.ref UT⟩,⟨PyData.keyHash w.params "and",.str "and" ny,.ref UU⟩,⟨PyData.keyHash w.params "or",.str "or" n_,.ref UV⟩,⟨PyData.keyHash w.params "xor",.str "xor" mn,.ref U7⟩,⟨PyData.keyHash w.params "test",.str "test" mq,.ref U8⟩,⟨PyData.keyHash w.params "left",.str "left" ms,.ref U9⟩,⟨PyData.keyHash w.params "right",.str "right" mv,.ref UA⟩,⟨PyData.keyHash w.params "load",.str "load" my,.ref UB⟩,⟨PyData.keyHash w.params "store",.str "store" m_,.ref UC⟩,⟨PyData.keyHash w.params "loadw",.str "loadw" n5,.ref UD⟩,⟨PyData.keyHash w.params "storew",.str "storew" n9,.ref UE⟩,⟨PyData.keyHash w.params "jump",.str "jump" nA,.ref UF⟩,⟨PyData.keyHash w.params "when",.str "when" nB,.ref UG⟩,⟨PyData.keyHash w.params "unless",.str "unless" nI,.ref UJ⟩,⟨PyData.keyHash w.params "stop",.str "stop" nJ,.ref UK⟩] A2 })(Cn:(je==sysModules)=false)
  (Cq:K.lookup U5=some ⟨.type "tuple",d0_FIELDS,.seq #[.str "name" rT] n0_FIELDS,iW⟩)
  (E4:K.lookup UH=some ⟨.type "tuple",d1_FIELDS,.seq #[.str "d" sM,.str "n" sO] n1_FIELDS,il⟩)
  (E8:K.lookup UL=some ⟨.type "tuple",d2_FIELDS,.seq #[.str "d" sS,.str "n" sU] n2_FIELDS,ir⟩)
  (EA:K.lookup UN=some ⟨.type "tuple",d3_FIELDS,.seq #[.str "d" sW,.str "s" sY] n3_FIELDS,iw⟩)
  (EC:K.lookup UP=some ⟨.type "tuple",d4_FIELDS,.seq #[.str "d" si,.str "s" sk] n4_FIELDS,i_⟩)
  (EE:K.lookup UR=some ⟨.type "tuple",d5_FIELDS,.seq #[.str "d" so,.str "s" sr] n5_FIELDS,lB⟩)
  (EF:K.lookup US=some ⟨.type "tuple",d6_FIELDS,.seq #[.str "d" ss,.str "s" su] n6_FIELDS,lC⟩)
  (EG:K.lookup UT=some ⟨.type "tuple",d7_FIELDS,.seq #[.str "d" sv,.str "s" sw] n7_FIELDS,lD⟩)
  (EH:K.lookup UU=some ⟨.type "tuple",d8_FIELDS,.seq #[.str "d" sx,.str "s" sy] n8_FIELDS,lE⟩)
  (EI:K.lookup UV=some ⟨.type "tuple",d9_FIELDS,.seq #[.str "d" s_,.str "s" z00] n9_FIELDS,lF⟩)
  (Cs:K.lookup U7=some ⟨.type "tuple",d10_FIELDS,.seq #[.str "d" rX,.str "s" rY] n10_FIELDS,iY⟩)
  (Ct:K.lookup U8=some ⟨.type "tuple",d11_FIELDS,.seq #[.str "d" rZ,.str "s" re] n11_FIELDS,iZ⟩)
  (Cu:K.lookup U9=some ⟨.type "tuple",d12_FIELDS,.seq #[.str "d" rf,.str "n" rg] n12_FIELDS,ia⟩)
  (Cv:K.lookup UA=some ⟨.type "tuple",d13_FIELDS,.seq #[.str "d" rh,.str "n" rj] n13_FIELDS,ib⟩)
  (Cw:K.lookup UB=some ⟨.type "tuple",d14_FIELDS,.seq #[.str "d" rn,.str "s" rq,.str "n" r_] n14_FIELDS,ic⟩)
  (Cy:K.lookup UC=some ⟨.type "tuple",d15_FIELDS,.seq #[.str "d" sA,.str "s" sB,.str "n" sC] n15_FIELDS,ie⟩)
  (Cz:K.lookup UD=some ⟨.type "tuple",d16_FIELDS,.seq #[.str "d" sD,.str "s" sE,.str "n" sF] n16_FIELDS,ig⟩)
  (C_:K.lookup UE=some ⟨.type "tuple",d17_FIELDS,.seq #[.str "d" sG,.str "s" sH,.str "n" sI] n17_FIELDS,ii⟩)
  (E2:K.lookup UF=some ⟨.type "tuple",d18_FIELDS,.seq #[.str "name" sJ] n18_FIELDS,ij⟩)
  (E3:K.lookup UG=some ⟨.type "tuple",d19_FIELDS,.seq #[.str "mark" sK,.str "name" sL] n19_FIELDS,ik⟩)
  (E6:K.lookup UJ=some ⟨.type "tuple",d20_FIELDS,.seq #[.str "mark" sQ,.str "name" sR] n20_FIELDS,ip⟩)
  (E7:K.lookup UK=some ⟨.type "tuple",d21_FIELDS,.seq #[] n21_FIELDS,iq⟩)
  {tY:Addr}{A4:Nat}{lH:Array (Option Value)}{rG rJ rL:Tok}(CW:W.nsIn K mainGlobals "MARKS" = some (some (.ref tY)))
  (Lh:K.lookup tY=some ⟨.type "tuple",none,.seq #[.str "carry" rG,.str "nought" rJ,.str "sign" rL] A4,lH⟩)
  {tX:Addr}{A0:Nat}(CQ:W.nsIn K mainGlobals "CODES" = some (some (.ref tX)))
  {ma:Tok}
  {oM:Tok}
  {nC:Tok}
  {oY:Tok}
  {nK:Tok}
  {oh:Tok}
  {nQ:Tok}
  {oo:Tok}
  {nU:Tok}
  {ou:Tok}
  {nY:Tok}
  {oy:Tok}
  {nh:Tok}
  {o_:Tok}
  {nk:Tok}
  {r9:Tok}
  {nv:Tok}
  {rB:Tok}
  {nz:Tok}
  {rC:Tok}
  {ml:Tok}
  {oQ:Tok}
  {mo:Tok}
  {oR:Tok}
  {mr:Tok}
  {oS:Tok}
  {mt:Tok}
  {oT:Tok}
  {mw:Tok}
  {oU:Tok}
  {mz:Tok}
  {oV:Tok}
  {n4:Tok}
  {oW:Tok}
  {n8:Tok}
  {oX:Tok}
  (Le:K.lookup tX=some { cls:=.type "dict",data:=.dict #[⟨PyData.keyHash w.params "stop",.str "stop" ma,.int 0 oM⟩,⟨PyData.keyHash w.params "set",.str "set" nC,.int 1 oY⟩,⟨PyData.keyHash w.params "high",.str "high" nK,.int 2 oh⟩,⟨PyData.keyHash w.params "copy",.str "copy" nQ,.int 3 oo⟩,⟨PyData.keyHash w.params "add",.str "add" nU,.int 4 ou⟩,⟨PyData.keyHash w.params "addc",.str "addc" nY,.int 5 oy⟩,⟨PyData.keyHash w.params "sub",.str "sub" nh,.int 6 o_⟩,⟨PyData.keyHash w.params "subc",.str "subc" nk,.int 7 r9⟩,⟨PyData.keyHash w.params "and",.str "and" nv,.int 8 rB⟩,⟨PyData.keyHash w.params "or",.str "or" nz,.int 9 rC⟩,⟨PyData.keyHash w.params "xor",.str "xor" ml,.int 10 oQ⟩,⟨PyData.keyHash w.params "test",.str "test" mo,.int 11 oR⟩,⟨PyData.keyHash w.params "left",.str "left" mr,.int 12 oS⟩,⟨PyData.keyHash w.params "right",.str "right" mt,.int 13 oT⟩,⟨PyData.keyHash w.params "load",.str "load" mw,.int 14 oU⟩,⟨PyData.keyHash w.params "store",.str "store" mz,.int 15 oV⟩,⟨PyData.keyHash w.params "loadw",.str "loadw" n4,.int 16 oW⟩,⟨PyData.keyHash w.params "storew",.str "storew" n8,.int 17 oX⟩] A0 })(Lj:(tX==sysModules)=false)
  {uD:Addr}{A5:Nat}(CZ:W.nsIn K mainGlobals "NEAR_CODES" = some (some (.ref uD)))
  {mh:Tok}
  {oO:Tok}
  {nF:Tok}
  {oa:Tok}
  {nN:Tok}
  {oj:Tok}
  (Li:K.lookup uD=some { cls:=.type "dict",data:=.dict #[⟨PyData.keyHash w.params "jump",.str "jump" mh,.int 18 oO⟩,⟨PyData.keyHash w.params "when",.str "when" nF,.int 19 oa⟩,⟨PyData.keyHash w.params "unless",.str "unless" nN,.int 20 oj⟩] A5 })(Ll:(uD==sysModules)=false)
  {uC:Addr}{A1:Nat}(CS:W.nsIn K mainGlobals "FAR_CODES" = some (some (.ref uC)))
  {me:Tok}
  {oN:Tok}
  {nD:Tok}
  {oZ:Tok}
  {nL:Tok}
  {oi:Tok}
  (Lf:K.lookup uC=some { cls:=.type "dict",data:=.dict #[⟨PyData.keyHash w.params "jump",.str "jump" me,.int 21 oN⟩,⟨PyData.keyHash w.params "when",.str "when" nD,.int 22 oZ⟩,⟨PyData.keyHash w.params "unless",.str "unless" nL,.int 23 oi⟩] A1 })(Lk:(uC==sysModules)=false)
  {pY:Addr}{A3:Nat}{lG:Array (Option Value)}{rF rH rK:Tok}(CU:W.nsIn K mainGlobals "JUMPS" = some (some (.ref pY)))
  (Lg:K.lookup pY=some ⟨.type "tuple",none,.seq #[.str "jump" rF,.str "when" rH,.str "unless" rK] A3,lG⟩)
  {mV:Tok}(CV:W.nsIn K mainGlobals "LETTERS" = some (some (.str "abcdefghijklmnopqrstuvwxyz" mV)))
  {mZ:Tok}(Cf:W.nsIn K mainGlobals "WORD_BITS" = some (some (.int 32 mZ)))
  {mX:Tok}(Ca:W.nsIn K mainGlobals "NEAR_ON" = some (some (.int 15 mX)))
  {mW:Tok}(CY:W.nsIn K mainGlobals "NEAR_BACK" = some (some (.int 16 mW)))
  : ∃fd:FuncData,(∀(s:Shared)(v:Value),BindsTo s fd ⟨[v],[]⟩ [("_law_script",v)])/\∀base:Heap,K.In base->base.Ns mainGlobals mg->tj l.prog w K mg base tZ 10 fa fd ["_law_script"] (VX K):=by
 have e:=hfa.symm.trans (W.mg_of X G a58);cases e;have B3:mg "zip" = none:=W.mg_none_of X G EX;have X3:mg "list" = none:=W.mg_none_of X G EQ;have yO:mg "len" = none:=W.mg_none_of X G EO;have B2:mg "tuple" = none:=W.mg_none_of X G EW;have jS:mg "sorted" = none:=W.mg_none_of X G EV;have B1:mg "set" = none:=W.mg_none_of X G EU;have jR:mg "dict" = none:=W.mg_none_of X G EL;have uS:mg "enumerate" = none:=W.mg_none_of X G EM;have X4:mg "max" = none:=W.mg_none_of X G ER;have wO:mg "range" = none:=W.mg_none_of X G ET;have B0:mg "min" = none:=W.mg_none_of X G ES;have M_:mg "int" = none:=W.mg_none_of X G EN;have OG:yf mg "NUMBER_WIDTHS" (.ref jg):=⟨_,W.mg_of X G Cd,rfl⟩;have M7:wH K w jg OK ON:=YR (us:=[.int 16,.int 16,.int 5,.int 5,.int 8,.int 8,.int 8,.int 8]) Ck (.cons (.cons (.cons (.cons (.cons (.cons (.cons (.cons .nil)))))))) (by decide +kernel) Co (.cons ⟨_,rfl⟩ (.cons ⟨_,rfl⟩ (.cons ⟨_,rfl⟩ (.cons ⟨_,rfl⟩ (.cons ⟨_,rfl⟩ (.cons ⟨_,rfl⟩ (.cons ⟨_,rfl⟩ (.cons ⟨_,rfl⟩ .nil)))))))) λH=>⟨_,_,rfl,rfl,⟨_,_,rfl,rfl,⟨_,_,rfl,rfl,⟨_,_,rfl,rfl,⟨_,_,rfl,rfl,⟨_,_,rfl,rfl,⟨_,_,rfl,rfl,⟨_,_,rfl,rfl,rfl⟩⟩⟩⟩⟩⟩⟩⟩
 have OF:yf mg "NUMBER_LOW" (.int 0):=⟨_,W.mg_of X G Cc,⟨_,rfl⟩⟩;have M6:∀H,zi K H (.int 0) (.int 0):=λ_=>rfl
 have vU:yf mg "PLACES" (.ref vN):=⟨_,W.mg_of X G Ce,rfl⟩;have vX:wH K w vN wV wW:=YR (us:=[.ref U6,.ref UI,.ref UM,.ref UO,.ref UQ]) Cl (.cons (.cons (.cons (.cons (.cons .nil))))) (by decide +kernel) Cp (.cons rfl (.cons rfl (.cons rfl (.cons rfl (.cons rfl .nil))))) λH=>⟨_,_,rfl,⟨U6,_,rfl,xm (xs:=[.int 27,.int 5]) Cr (by show(2:Nat)<=sizeLine; decide) (.cons ⟨_,rfl⟩ (.cons ⟨_,rfl⟩ .nil)) H,⟨_,_,rfl,rfl,⟨_,_,rfl,rfl,rfl⟩⟩,small (by decide)⟩,⟨_,_,rfl,⟨UI,_,rfl,xm (xs:=[.int 24,.int 3]) E5 (by show(2:Nat)<=sizeLine; decide) (.cons ⟨_,rfl⟩ (.cons ⟨_,rfl⟩ .nil)) H,⟨_,_,rfl,rfl,⟨_,_,rfl,rfl,rfl⟩⟩,small (by decide)⟩,⟨_,_,rfl,⟨UM,_,rfl,xm (xs:=[.int 21,.int 3]) E9 (by show(2:Nat)<=sizeLine; decide) (.cons ⟨_,rfl⟩ (.cons ⟨_,rfl⟩ .nil)) H,⟨_,_,rfl,rfl,⟨_,_,rfl,rfl,rfl⟩⟩,small (by decide)⟩,⟨_,_,rfl,⟨UO,_,rfl,xm (xs:=[.int 24,.int 2]) EB (by show(2:Nat)<=sizeLine; decide) (.cons ⟨_,rfl⟩ (.cons ⟨_,rfl⟩ .nil)) H,⟨_,_,rfl,rfl,⟨_,_,rfl,rfl,rfl⟩⟩,small (by decide)⟩,⟨_,_,rfl,⟨UQ,_,rfl,xm (xs:=[.int 0,.int 5]) ED (by show(2:Nat)<=sizeLine; decide) (.cons ⟨_,rfl⟩ (.cons ⟨_,rfl⟩ .nil)) H,⟨_,_,rfl,rfl,⟨_,_,rfl,rfl,rfl⟩⟩,small (by decide)⟩,rfl⟩⟩⟩⟩⟩
 have OB:yf mg "FIELDS" (.ref je):=⟨_,W.mg_of X G CT,rfl⟩;have M2:wH K w je OJ OM:=YR (us:=[.ref U5,.ref UH,.ref UL,.ref UN,.ref UP,.ref UR,.ref US,.ref UT,.ref UU,.ref UV,.ref U7,.ref U8,.ref U9,.ref UA,.ref UB,.ref UC,.ref UD,.ref UE,.ref UF,.ref UG,.ref UJ,.ref UK]) Cj (.cons (.cons (.cons (.cons (.cons (.cons (.cons (.cons (.cons (.cons (.cons (.cons (.cons (.cons (.cons (.cons (.cons (.cons (.cons (.cons (.cons (.cons .nil)))))))))))))))))))))) (by decide +kernel) Cn (.cons rfl (.cons rfl (.cons rfl (.cons rfl (.cons rfl (.cons rfl (.cons rfl (.cons rfl (.cons rfl (.cons rfl (.cons rfl (.cons rfl (.cons rfl (.cons rfl (.cons rfl (.cons rfl (.cons rfl (.cons rfl (.cons rfl (.cons rfl (.cons rfl (.cons rfl .nil)))))))))))))))))))))) λH=>⟨_,_,rfl,⟨U5,_,rfl,xm (xs:=[.str "name"]) Cq (by show(1:Nat)<=sizeLine; decide) (.cons ⟨_,rfl⟩ .nil) H,⟨_,_,rfl,⟨rfl,small (by decide)⟩,rfl⟩,small (by decide)⟩,⟨_,_,rfl,⟨UH,_,rfl,xm (xs:=[.str "d",.str "n"]) E4 (by show(2:Nat)<=sizeLine; decide) (.cons ⟨_,rfl⟩ (.cons ⟨_,rfl⟩ .nil)) H,⟨_,_,rfl,⟨rfl,small (by decide)⟩,⟨_,_,rfl,⟨rfl,small (by decide)⟩,rfl⟩⟩,small (by decide)⟩,⟨_,_,rfl,⟨UL,_,rfl,xm (xs:=[.str "d",.str "n"]) E8 (by show(2:Nat)<=sizeLine; decide) (.cons ⟨_,rfl⟩ (.cons ⟨_,rfl⟩ .nil)) H,⟨_,_,rfl,⟨rfl,small (by decide)⟩,⟨_,_,rfl,⟨rfl,small (by decide)⟩,rfl⟩⟩,small (by decide)⟩,⟨_,_,rfl,⟨UN,_,rfl,xm (xs:=[.str "d",.str "s"]) EA (by show(2:Nat)<=sizeLine; decide) (.cons ⟨_,rfl⟩ (.cons ⟨_,rfl⟩ .nil)) H,⟨_,_,rfl,⟨rfl,small (by decide)⟩,⟨_,_,rfl,⟨rfl,small (by decide)⟩,rfl⟩⟩,small (by decide)⟩,⟨_,_,rfl,⟨UP,_,rfl,xm (xs:=[.str "d",.str "s"]) EC (by show(2:Nat)<=sizeLine; decide) (.cons ⟨_,rfl⟩ (.cons ⟨_,rfl⟩ .nil)) H,⟨_,_,rfl,⟨rfl,small (by decide)⟩,⟨_,_,rfl,⟨rfl,small (by decide)⟩,rfl⟩⟩,small (by decide)⟩,⟨_,_,rfl,⟨UR,_,rfl,xm (xs:=[.str "d",.str "s"]) EE (by show(2:Nat)<=sizeLine; decide) (.cons ⟨_,rfl⟩ (.cons ⟨_,rfl⟩ .nil)) H,⟨_,_,rfl,⟨rfl,small (by decide)⟩,⟨_,_,rfl,⟨rfl,small (by decide)⟩,rfl⟩⟩,small (by decide)⟩,⟨_,_,rfl,⟨US,_,rfl,xm (xs:=[.str "d",.str "s"]) EF (by show(2:Nat)<=sizeLine; decide) (.cons ⟨_,rfl⟩ (.cons ⟨_,rfl⟩ .nil)) H,⟨_,_,rfl,⟨rfl,small (by decide)⟩,⟨_,_,rfl,⟨rfl,small (by decide)⟩,rfl⟩⟩,small (by decide)⟩,⟨_,_,rfl,⟨UT,_,rfl,xm (xs:=[.str "d",.str "s"]) EG (by show(2:Nat)<=sizeLine; decide) (.cons ⟨_,rfl⟩ (.cons ⟨_,rfl⟩ .nil)) H,⟨_,_,rfl,⟨rfl,small (by decide)⟩,⟨_,_,rfl,⟨rfl,small (by decide)⟩,rfl⟩⟩,small (by decide)⟩,⟨_,_,rfl,⟨UU,_,rfl,xm (xs:=[.str "d",.str "s"]) EH (by show(2:Nat)<=sizeLine; decide) (.cons ⟨_,rfl⟩ (.cons ⟨_,rfl⟩ .nil)) H,⟨_,_,rfl,⟨rfl,small (by decide)⟩,⟨_,_,rfl,⟨rfl,small (by decide)⟩,rfl⟩⟩,small (by decide)⟩,⟨_,_,rfl,⟨UV,_,rfl,xm (xs:=[.str "d",.str "s"]) EI (by show(2:Nat)<=sizeLine; decide) (.cons ⟨_,rfl⟩ (.cons ⟨_,rfl⟩ .nil)) H,⟨_,_,rfl,⟨rfl,small (by decide)⟩,⟨_,_,rfl,⟨rfl,small (by decide)⟩,rfl⟩⟩,small (by decide)⟩,⟨_,_,rfl,⟨U7,_,rfl,xm (xs:=[.str "d",.str "s"]) Cs (by show(2:Nat)<=sizeLine; decide) (.cons ⟨_,rfl⟩ (.cons ⟨_,rfl⟩ .nil)) H,⟨_,_,rfl,⟨rfl,small (by decide)⟩,⟨_,_,rfl,⟨rfl,small (by decide)⟩,rfl⟩⟩,small (by decide)⟩,⟨_,_,rfl,⟨U8,_,rfl,xm (xs:=[.str "d",.str "s"]) Ct (by show(2:Nat)<=sizeLine; decide) (.cons ⟨_,rfl⟩ (.cons ⟨_,rfl⟩ .nil)) H,⟨_,_,rfl,⟨rfl,small (by decide)⟩,⟨_,_,rfl,⟨rfl,small (by decide)⟩,rfl⟩⟩,small (by decide)⟩,⟨_,_,rfl,⟨U9,_,rfl,xm (xs:=[.str "d",.str "n"]) Cu (by show(2:Nat)<=sizeLine; decide) (.cons ⟨_,rfl⟩ (.cons ⟨_,rfl⟩ .nil)) H,⟨_,_,rfl,⟨rfl,small (by decide)⟩,⟨_,_,rfl,⟨rfl,small (by decide)⟩,rfl⟩⟩,small (by decide)⟩,⟨_,_,rfl,⟨UA,_,rfl,xm (xs:=[.str "d",.str "n"]) Cv (by show(2:Nat)<=sizeLine; decide) (.cons ⟨_,rfl⟩ (.cons ⟨_,rfl⟩ .nil)) H,⟨_,_,rfl,⟨rfl,small (by decide)⟩,⟨_,_,rfl,⟨rfl,small (by decide)⟩,rfl⟩⟩,small (by decide)⟩,⟨_,_,rfl,⟨UB,_,rfl,xm (xs:=[.str "d",.str "s",.str "n"]) Cw (by show(3:Nat)<=sizeLine; decide) (.cons ⟨_,rfl⟩ (.cons ⟨_,rfl⟩ (.cons ⟨_,rfl⟩ .nil))) H,⟨_,_,rfl,⟨rfl,small (by decide)⟩,⟨_,_,rfl,⟨rfl,small (by decide)⟩,⟨_,_,rfl,⟨rfl,small (by decide)⟩,rfl⟩⟩⟩,small (by decide)⟩,⟨_,_,rfl,⟨UC,_,rfl,xm (xs:=[.str "d",.str "s",.str "n"]) Cy (by show(3:Nat)<=sizeLine; decide) (.cons ⟨_,rfl⟩ (.cons ⟨_,rfl⟩ (.cons ⟨_,rfl⟩ .nil))) H,⟨_,_,rfl,⟨rfl,small (by decide)⟩,⟨_,_,rfl,⟨rfl,small (by decide)⟩,⟨_,_,rfl,⟨rfl,small (by decide)⟩,rfl⟩⟩⟩,small (by decide)⟩,⟨_,_,rfl,⟨UD,_,rfl,xm (xs:=[.str "d",.str "s",.str "n"]) Cz (by show(3:Nat)<=sizeLine; decide) (.cons ⟨_,rfl⟩ (.cons ⟨_,rfl⟩ (.cons ⟨_,rfl⟩ .nil))) H,⟨_,_,rfl,⟨rfl,small (by decide)⟩,⟨_,_,rfl,⟨rfl,small (by decide)⟩,⟨_,_,rfl,⟨rfl,small (by decide)⟩,rfl⟩⟩⟩,small (by decide)⟩,⟨_,_,rfl,⟨UE,_,rfl,xm (xs:=[.str "d",.str "s",.str "n"]) C_ (by show(3:Nat)<=sizeLine; decide) (.cons ⟨_,rfl⟩ (.cons ⟨_,rfl⟩ (.cons ⟨_,rfl⟩ .nil))) H,⟨_,_,rfl,⟨rfl,small (by decide)⟩,⟨_,_,rfl,⟨rfl,small (by decide)⟩,⟨_,_,rfl,⟨rfl,small (by decide)⟩,rfl⟩⟩⟩,small (by decide)⟩,⟨_,_,rfl,⟨UF,_,rfl,xm (xs:=[.str "name"]) E2 (by show(1:Nat)<=sizeLine; decide) (.cons ⟨_,rfl⟩ .nil) H,⟨_,_,rfl,⟨rfl,small (by decide)⟩,rfl⟩,small (by decide)⟩,⟨_,_,rfl,⟨UG,_,rfl,xm (xs:=[.str "mark",.str "name"]) E3 (by show(2:Nat)<=sizeLine; decide) (.cons ⟨_,rfl⟩ (.cons ⟨_,rfl⟩ .nil)) H,⟨_,_,rfl,⟨rfl,small (by decide)⟩,⟨_,_,rfl,⟨rfl,small (by decide)⟩,rfl⟩⟩,small (by decide)⟩,⟨_,_,rfl,⟨UJ,_,rfl,xm (xs:=[.str "mark",.str "name"]) E6 (by show(2:Nat)<=sizeLine; decide) (.cons ⟨_,rfl⟩ (.cons ⟨_,rfl⟩ .nil)) H,⟨_,_,rfl,⟨rfl,small (by decide)⟩,⟨_,_,rfl,⟨rfl,small (by decide)⟩,rfl⟩⟩,small (by decide)⟩,⟨_,_,rfl,⟨UK,_,rfl,xm (xs:=[]) E7 (by show(0:Nat)<=sizeLine; decide) .nil H,rfl,small (by decide)⟩,rfl⟩⟩⟩⟩⟩⟩⟩⟩⟩⟩⟩⟩⟩⟩⟩⟩⟩⟩⟩⟩⟩⟩
 have LB:Uf K tY:=⟨_,Lh,rfl,rfl⟩;have kx:yf mg "MARKS" (.ref tY):=⟨_,W.mg_of X G CW,rfl⟩;have ZL:∀H,zi K H gB (.ref tY):=λH=>⟨tY,_,rfl,xm (xs:=[.str "carry",.str "nought",.str "sign"]) Lh (by show(3:Nat)<=sizeLine; decide) (.cons ⟨_,rfl⟩ (.cons ⟨_,rfl⟩ (.cons ⟨_,rfl⟩ .nil))) H,⟨_,_,rfl,⟨rfl,small (by decide)⟩,⟨_,_,rfl,⟨rfl,small (by decide)⟩,⟨_,_,rfl,⟨rfl,small (by decide)⟩,rfl⟩⟩⟩,small (by decide)⟩
 have ku:yf mg "CODES" (.ref tX):=⟨_,W.mg_of X G CQ,rfl⟩;have I_:ue K w tX qE Xp:=OH (us:=Xp) Le (.cons (.cons (.cons (.cons (.cons (.cons (.cons (.cons (.cons (.cons (.cons (.cons (.cons (.cons (.cons (.cons (.cons (.cons .nil)))))))))))))))))) (by decide +kernel) Lj (.cons ⟨_,rfl⟩ (.cons ⟨_,rfl⟩ (.cons ⟨_,rfl⟩ (.cons ⟨_,rfl⟩ (.cons ⟨_,rfl⟩ (.cons ⟨_,rfl⟩ (.cons ⟨_,rfl⟩ (.cons ⟨_,rfl⟩ (.cons ⟨_,rfl⟩ (.cons ⟨_,rfl⟩ (.cons ⟨_,rfl⟩ (.cons ⟨_,rfl⟩ (.cons ⟨_,rfl⟩ (.cons ⟨_,rfl⟩ (.cons ⟨_,rfl⟩ (.cons ⟨_,rfl⟩ (.cons ⟨_,rfl⟩ (.cons ⟨_,rfl⟩ .nil))))))))))))))))));have GT:∀H,Reps K H qd Xp:=λH=>⟨_,_,rfl,rfl,⟨_,_,rfl,rfl,⟨_,_,rfl,rfl,⟨_,_,rfl,rfl,⟨_,_,rfl,rfl,⟨_,_,rfl,rfl,⟨_,_,rfl,rfl,⟨_,_,rfl,rfl,⟨_,_,rfl,rfl,⟨_,_,rfl,rfl,⟨_,_,rfl,rfl,⟨_,_,rfl,rfl,⟨_,_,rfl,rfl,⟨_,_,rfl,rfl,⟨_,_,rfl,rfl,⟨_,_,rfl,rfl,⟨_,_,rfl,rfl,⟨_,_,rfl,rfl,rfl⟩⟩⟩⟩⟩⟩⟩⟩⟩⟩⟩⟩⟩⟩⟩⟩⟩⟩
 have Yr:wH K w tX qE qd:=YR (us:=[.int 0,.int 1,.int 2,.int 3,.int 4,.int 5,.int 6,.int 7,.int 8,.int 9,.int 10,.int 11,.int 12,.int 13,.int 14,.int 15,.int 16,.int 17]) Le (.cons (.cons (.cons (.cons (.cons (.cons (.cons (.cons (.cons (.cons (.cons (.cons (.cons (.cons (.cons (.cons (.cons (.cons .nil)))))))))))))))))) (by decide +kernel) Lj (.cons ⟨_,rfl⟩ (.cons ⟨_,rfl⟩ (.cons ⟨_,rfl⟩ (.cons ⟨_,rfl⟩ (.cons ⟨_,rfl⟩ (.cons ⟨_,rfl⟩ (.cons ⟨_,rfl⟩ (.cons ⟨_,rfl⟩ (.cons ⟨_,rfl⟩ (.cons ⟨_,rfl⟩ (.cons ⟨_,rfl⟩ (.cons ⟨_,rfl⟩ (.cons ⟨_,rfl⟩ (.cons ⟨_,rfl⟩ (.cons ⟨_,rfl⟩ (.cons ⟨_,rfl⟩ (.cons ⟨_,rfl⟩ (.cons ⟨_,rfl⟩ .nil)))))))))))))))))) λH=>⟨_,_,rfl,rfl,⟨_,_,rfl,rfl,⟨_,_,rfl,rfl,⟨_,_,rfl,rfl,⟨_,_,rfl,rfl,⟨_,_,rfl,rfl,⟨_,_,rfl,rfl,⟨_,_,rfl,rfl,⟨_,_,rfl,rfl,⟨_,_,rfl,rfl,⟨_,_,rfl,rfl,⟨_,_,rfl,rfl,⟨_,_,rfl,rfl,⟨_,_,rfl,rfl,⟨_,_,rfl,rfl,⟨_,_,rfl,rfl,⟨_,_,rfl,rfl,⟨_,_,rfl,rfl,rfl⟩⟩⟩⟩⟩⟩⟩⟩⟩⟩⟩⟩⟩⟩⟩⟩⟩⟩
 have pD:yf mg "NEAR_CODES" (.ref uD):=⟨_,W.mg_of X G CZ,rfl⟩;have YM:ue K w uD qG k_:=OH (us:=k_) Li (.cons (.cons (.cons .nil))) (by decide +kernel) Ll (.cons ⟨_,rfl⟩ (.cons ⟨_,rfl⟩ (.cons ⟨_,rfl⟩ .nil)));have WE:∀H,Reps K H qI k_:=λH=>⟨_,_,rfl,rfl,⟨_,_,rfl,rfl,⟨_,_,rfl,rfl,rfl⟩⟩⟩
 have gL:wH K w uD qG qI:=YR (us:=[.int 18,.int 19,.int 20]) Li (.cons (.cons (.cons .nil))) (by decide +kernel) Ll (.cons ⟨_,rfl⟩ (.cons ⟨_,rfl⟩ (.cons ⟨_,rfl⟩ .nil))) λH=>⟨_,_,rfl,rfl,⟨_,_,rfl,rfl,⟨_,_,rfl,rfl,rfl⟩⟩⟩
 have pC:yf mg "FAR_CODES" (.ref uC):=⟨_,W.mg_of X G CS,rfl⟩;have YL:ue K w uC qF kz:=OH (us:=kz) Lf (.cons (.cons (.cons .nil))) (by decide +kernel) Lk (.cons ⟨_,rfl⟩ (.cons ⟨_,rfl⟩ (.cons ⟨_,rfl⟩ .nil)));have WD:∀H,Reps K H qH kz:=λH=>⟨_,_,rfl,rfl,⟨_,_,rfl,rfl,⟨_,_,rfl,rfl,rfl⟩⟩⟩
 have gK:wH K w uC qF qH:=YR (us:=[.int 21,.int 22,.int 23]) Lf (.cons (.cons (.cons .nil))) (by decide +kernel) Lk (.cons ⟨_,rfl⟩ (.cons ⟨_,rfl⟩ (.cons ⟨_,rfl⟩ .nil))) λH=>⟨_,_,rfl,rfl,⟨_,_,rfl,rfl,⟨_,_,rfl,rfl,rfl⟩⟩⟩
 have z0h:Uf K pY:=⟨_,Lg,rfl,rfl⟩;have OC:yf mg "JUMPS" (.ref pY):=⟨_,W.mg_of X G CU,rfl⟩;have M3:∀H,zi K H T_ (.ref pY):=λH=>⟨pY,_,rfl,xm (xs:=[.str "jump",.str "when",.str "unless"]) Lg (by show(3:Nat)<=sizeLine; decide) (.cons ⟨_,rfl⟩ (.cons ⟨_,rfl⟩ (.cons ⟨_,rfl⟩ .nil))) H,⟨_,_,rfl,⟨rfl,small (by decide)⟩,⟨_,_,rfl,⟨rfl,small (by decide)⟩,⟨_,_,rfl,⟨rfl,small (by decide)⟩,rfl⟩⟩⟩,small (by decide)⟩
 have Xl:yf mg "LETTERS" (.str "abcdefghijklmnopqrstuvwxyz"):=⟨_,W.mg_of X G CV,⟨_,rfl⟩⟩;have W9:∀H,zi K H (.str "abcdefghijklmnopqrstuvwxyz") (.str "abcdefghijklmnopqrstuvwxyz"):=λ_=>⟨rfl,small (by decide)⟩
 have YQ:yf mg "WORD_BITS" (.int 32):=⟨_,W.mg_of X G Cf,⟨_,rfl⟩⟩;have Ys:∀H,zi K H (.int 32) (.int 32):=λ_=>rfl
 have OE:yf mg "NEAR_ON" (.int 15):=⟨_,W.mg_of X G Ca,⟨_,rfl⟩⟩;have M5:∀H,zi K H (.int 15) (.int 15):=λ_=>rfl
 have OD:yf mg "NEAR_BACK" (.int 16):=⟨_,W.mg_of X G CY,⟨_,rfl⟩⟩;have M4:∀H,zi K H (.int 16) (.int 16):=λ_=>rfl
 have F0:=yH (st:=V3) l0 c0 k0;have D0:zK K mg "part" V3 ["word", "low", "width"]:=⟨_,_,F0,W.mg_of X G a0,F0.binds λ_ _ _ _ _ _=>jQ λ_ _ _=>rfl⟩;have F1:=yH (st:=VF) l1 c1 k1;have D1:zK K mg "with_part" VF ["word", "low", "width", "number"]:=⟨_,_,F1,W.mg_of X G a1,F1.binds λ_ _ _ _ _ _=>rR λ_ _ _ _=>rfl⟩;have F2:=yH (st:=V8) l2 c2 k2;have D2:zK K mg "signed" V8 ["number", "width"]:=⟨_,_,F2,W.mg_of X G a2,F2.binds λ_ _ _ _ _ _=>wz λ_ _=>rfl⟩;have F3:=yH (st:=VC) l3 c3 k3;have D3:zK K mg "unsigned" VC ["number", "width"]:=⟨_,_,F3,W.mg_of X G a3,F3.binds λ_ _ _ _ _ _=>wz λ_ _=>rfl⟩;have F4:=yH (st:=V4) l4 c4 k4;have D4:zK K mg "place_in_word" V4 ["kind", "field"]:=⟨_,_,F4,W.mg_of X G a4,F4.binds λ_ _ _ _ _ _=>wz λ_ _=>rfl⟩;have F5:=yH (st:=V2) l5 c5 k5;have D5:zK K mg "number_at" V2 ["word", "place"]:=⟨_,_,F5,W.mg_of X G a5,F5.binds λ_ _ _ _ _ _=>wz λ_ _=>rfl⟩;have F6:=yH (st:=VE) l6 c6 k6;have D6:zK K mg "with_number" VE ["word", "place", "number"]:=⟨_,_,F6,W.mg_of X G a6,F6.binds λ_ _ _ _ _ _=>jQ λ_ _ _=>rfl⟩;have F7:=yH (st:=WP) l7 c7 k7;have D7:zK K mg "fields_in_word" WP ["kind"]:=⟨_,_,F7,W.mg_of X G a7,F7.binds λ_ _ _ _ _ _=>xq λ_=>rfl⟩;have F8:=yH (st:=WQ) l8 c8 k8;have D8:zK K mg "first_word" WQ ["row", "code"]:=⟨_,_,F8,W.mg_of X G a8,F8.binds λ_ _ _ _ _ _=>wz λ_ _=>rfl⟩;have F9:=yH (st:=WK) l9 c9 k9;have D9:zK K mg "code_in" WK ["word"]:=⟨_,_,F9,W.mg_of X G a9,F9.binds λ_ _ _ _ _ _=>xq λ_=>rfl⟩;have F10:=yH (st:=WZ) l10 c10 k10;have D10:zK K mg "kind_of_code" WZ ["code"]:=⟨_,_,F10,W.mg_of X G a10,F10.binds λ_ _ _ _ _ _=>xq λ_=>rfl⟩;have F11:=yH (st:=WY) l11 c11 k11;have D11:zK K mg "is_near_code" WY ["code"]:=⟨_,_,F11,W.mg_of X G a11,F11.binds λ_ _ _ _ _ _=>xq λ_=>rfl⟩;have F12:=yH (st:=WS) l12 c12 k12;have D12:zK K mg "is_far_code" WS ["code"]:=⟨_,_,F12,W.mg_of X G a12,F12.binds λ_ _ _ _ _ _=>xq λ_=>rfl⟩;have F13:=yH (st:=WR) l13 c13 k13;have D13:zK K mg "held_in" WR ["word", "kind", "field"]:=⟨_,_,F13,W.mg_of X G a13,F13.binds λ_ _ _ _ _ _=>jQ λ_ _ _=>rfl⟩;have F14:=yH (st:=V6) l14 c14 k14;have D14:zK K mg "row_in" V6 ["word"]:=⟨_,_,F14,W.mg_of X G a14,F14.binds λ_ _ _ _ _ _=>xq λ_=>rfl⟩;have F15:=yH (st:=WU) l15 c15 k15;have D15:zK K mg "is_label" WU ["item"]:=⟨_,_,F15,W.mg_of X G a15,F15.binds λ_ _ _ _ _ _=>xq λ_=>rfl⟩;have F16:=yH (st:=WT) l16 c16 k16;have D16:zK K mg "is_jump" WT ["item"]:=⟨_,_,F16,W.mg_of X G a16,F16.binds λ_ _ _ _ _ _=>xq λ_=>rfl⟩;have F17:=yH (st:=V7) l17 c17 k17;have D17:zK K mg "rows_of" V7 ["items"]:=⟨_,_,F17,W.mg_of X G a17,F17.binds λ_ _ _ _ _ _=>xq λ_=>rfl⟩;have F18:=yH (st:=Wa) l18 c18 k18;have D18:zK K mg "label_places" Wa ["items"]:=⟨_,_,F18,W.mg_of X G a18,F18.binds λ_ _ _ _ _ _=>xq λ_=>rfl⟩;have F19:=yH (st:=VA) l19 c19 k19;have D19:zK K mg "targets_of" VA ["items"]:=⟨_,_,F19,W.mg_of X G a19,F19.binds λ_ _ _ _ _ _=>xq λ_=>rfl⟩;have F20:=yH (st:=Wx) l20 c20 k20;have D20:zK K mg "name_of" Wx ["number"]:=⟨_,_,F20,W.mg_of X G a20,F20.binds λ_ _ _ _ _ _=>xq λ_=>rfl⟩;have F21:=yH (st:=Wy) l21 c21 k21;have D21:zK K mg "names_of_places" Wy ["targets"]:=⟨_,_,F21,W.mg_of X G a21,F21.binds λ_ _ _ _ _ _=>xq λ_=>rfl⟩;have F22:=yH (st:=Wb) l22 c22 k22;have D22:zK K mg "labelled" Wb ["rows", "targets"]:=⟨_,_,F22,W.mg_of X G a22,F22.binds λ_ _ _ _ _ _=>wz λ_ _=>rfl⟩;have F23:=yH (st:=WM) l23 c23 k23;have D23:zK K mg "far_at" WM ["words", "address", "row"]:=⟨_,_,F23,W.mg_of X G a23,F23.binds λ_ _ _ _ _ _=>jQ λ_ _ _=>rfl⟩;have F24:=yH (st:=VB) l24 c24 k24;have D24:zK K mg "told_at" VB ["words", "address"]:=⟨_,_,F24,W.mg_of X G a24,F24.binds λ_ _ _ _ _ _=>wz λ_ _=>rfl⟩;have F25:=yH (st:=VD) l25 c25 k25;have D25:zK K mg "walked" VD ["words"]:=⟨_,_,F25,W.mg_of X G a25,F25.binds λ_ _ _ _ _ _=>xq λ_=>rfl⟩;have F26:=yH (st:=WJ) l26 c26 k26;have D26:zK K mg "behind" WJ ["table"]:=⟨_,_,F26,W.mg_of X G a26,F26.binds λ_ _ _ _ _ _=>xq λ_=>rfl⟩;have F27:=yH (st:=VG) l27 c27 k27;have D27:zK K mg "word_fault" VG ["words"]:=⟨_,_,F27,W.mg_of X G a27,F27.binds λ_ _ _ _ _ _=>xq λ_=>rfl⟩;have F28:=yH (st:=V9) l28 c28 k28;have D28:zK K mg "table_of" V9 ["words"]:=⟨_,_,F28,W.mg_of X G a28,F28.binds λ_ _ _ _ _ _=>xq λ_=>rfl⟩;have F29:=yH (st:=V5) l29 c29 k29;have D29:zK K mg "read_words" V5 ["words"]:=⟨_,_,F29,W.mg_of X G a29,F29.binds λ_ _ _ _ _ _=>xq λ_=>rfl⟩;have F30:=yH (st:=WI) l30 c30 k30;have D30:zK K mg "addresses" WI ["items", "far"]:=⟨_,_,F30,W.mg_of X G a30,F30.binds λ_ _ _ _ _ _=>wz λ_ _=>rfl⟩;have F31:=yH (st:=WX) l31 c31 k31;have D31:zK K mg "is_near" WX ["distance"]:=⟨_,_,F31,W.mg_of X G a31,F31.binds λ_ _ _ _ _ _=>xq λ_=>rfl⟩;have F32:=yH (st:=WL) l32 c32 k32;have D32:zK K mg "distances_of" WL ["items", "far"]:=⟨_,_,F32,W.mg_of X G a32,F32.binds λ_ _ _ _ _ _=>wz λ_ _=>rfl⟩;have F33:=yH (st:=W_) l33 c33 k33;have D33:zK K mg "not_reaching" W_ ["items", "far"]:=⟨_,_,F33,W.mg_of X G a33,F33.binds λ_ _ _ _ _ _=>wz λ_ _=>rfl⟩;have F34:=yH (st:=WN) l34 c34 k34;have D34:zK K mg "far_rows" WN ["items"]:=⟨_,_,F34,W.mg_of X G a34,F34.binds λ_ _ _ _ _ _=>xq λ_=>rfl⟩;have F35:=yH (st:=VH) l35 c35 k35;have D35:zK K mg "word_of_row" VH ["row"]:=⟨_,_,F35,W.mg_of X G a35,F35.binds λ_ _ _ _ _ _=>xq λ_=>rfl⟩;have F36:=yH (st:=Wz) l36 c36 k36;have D36:zK K mg "near_word" Wz ["row", "distance"]:=⟨_,_,F36,W.mg_of X G a36,F36.binds λ_ _ _ _ _ _=>wz λ_ _=>rfl⟩;have F37:=yH (st:=WO) l37 c37 k37;have D37:zK K mg "far_words" WO ["row", "distance"]:=⟨_,_,F37,W.mg_of X G a37,F37.binds λ_ _ _ _ _ _=>wz λ_ _=>rfl⟩;have F38:=yH (st:=VI) l38 c38 k38;have D38:zK K mg "written" VI ["items"]:=⟨_,_,F38,W.mg_of X G a38,F38.binds λ_ _ _ _ _ _=>xq λ_=>rfl⟩;have F39:=yH (st:=We) l39 c39 k39;have D39:zK K mg "_law_cell_at" We ["_law_script", "_law_k"]:=⟨_,_,F39,W.mg_of X G a39,F39.binds λ_ _ _ _ _ _=>wz λ_ _=>rfl⟩;have F40:=yH (st:=Wj) l40 c40 k40;have D40:zK K mg "_law_mixed" Wj ["_law_cell", "_law_k"]:=⟨_,_,F40,W.mg_of X G a40,F40.binds λ_ _ _ _ _ _=>wz λ_ _=>rfl⟩;have F41:=yH (st:=Wl) l41 c41 k41;have D41:zK K mg "_law_name_by" Wl ["_law_k", "_law_shape"]:=⟨_,_,F41,W.mg_of X G a41,F41.binds λ_ _ _ _ _ _=>wz λ_ _=>rfl⟩;have F42:=yH (st:=Ws) l42 c42 k42;have D42:zK K mg "_law_row_by" Ws ["_law_cell"]:=⟨_,_,F42,W.mg_of X G a42,F42.binds λ_ _ _ _ _ _=>xq λ_=>rfl⟩;have F43:=yH (st:=Wp) l43 c43 k43;have D43:zK K mg "_law_place_by" Wp ["_law_number", "_law_many", "_law_cell"]:=⟨_,_,F43,W.mg_of X G a43,F43.binds λ_ _ _ _ _ _=>jQ λ_ _ _=>rfl⟩;have F44:=yH (st:=Wt) l44 c44 k44;have D44:zK K mg "_law_rows_by" Wt ["_law_script", "_law_many", "_law_dense"]:=⟨_,_,F44,W.mg_of X G a44,F44.binds λ_ _ _ _ _ _=>jQ λ_ _ _=>rfl⟩;have F45:=yH (st:=Wh) l45 c45 k45;have D45:zK K mg "_law_jumps_in" Wh ["_law_rows"]:=⟨_,_,F45,W.mg_of X G a45,F45.binds λ_ _ _ _ _ _=>xq λ_=>rfl⟩;have F46:=yH (st:=Wi) l46 c46 k46;have D46:zK K mg "_law_many_by" Wi ["_law_cell"]:=⟨_,_,F46,W.mg_of X G a46,F46.binds λ_ _ _ _ _ _=>xq λ_=>rfl⟩;have F47:=yH (st:=Wf) l47 c47 k47;have D47:zK K mg "_law_items_by" Wf ["_law_rows", "_law_cell"]:=⟨_,_,F47,W.mg_of X G a47,F47.binds λ_ _ _ _ _ _=>wz λ_ _=>rfl⟩;have F48:=yH (st:=Wd) l48 c48 k48;have D48:zK K mg "_law_built" Wd ["_law_script"]:=⟨_,_,F48,W.mg_of X G a48,F48.binds λ_ _ _ _ _ _=>xq λ_=>rfl⟩;have F49:=yH (st:=Wu) l49 c49 k49;have D49:zK K mg "_law_stands" Wu ["_law_rows", "_law_far"]:=⟨_,_,F49,W.mg_of X G a49,F49.binds λ_ _ _ _ _ _=>wz λ_ _=>rfl⟩;have F50:=yH (st:=Wm) l50 c50 k50;have D50:zK K mg "_law_near_ones" Wm ["_law_rows", "_law_far"]:=⟨_,_,F50,W.mg_of X G a50,F50.binds λ_ _ _ _ _ _=>wz λ_ _=>rfl⟩;have F51:=yH (st:=Wq) l51 c51 k51;have D51:zK K mg "_law_reaching" Wq ["_law_rows", "_law_far"]:=⟨_,_,F51,W.mg_of X G a51,F51.binds λ_ _ _ _ _ _=>wz λ_ _=>rfl⟩;have F52:=yH (st:=Wn) l52 c52 k52;have D52:zK K mg "_law_needed" Wn ["_law_rows"]:=⟨_,_,F52,W.mg_of X G a52,F52.binds λ_ _ _ _ _ _=>xq λ_=>rfl⟩;have F53:=yH (st:=Wc) l53 c53 k53;have D53:zK K mg "_law_any_far" Wc ["_law_rows", "_law_cell", "_law_most"]:=⟨_,_,F53,W.mg_of X G a53,F53.binds λ_ _ _ _ _ _=>jQ λ_ _ _=>rfl⟩;have F54:=yH (st:=Wo) l54 c54 k54;have D54:zK K mg "_law_order" Wo []:=⟨_,_,F54,W.mg_of X G a54,F54.binds λ_ _ _ _ _ _=>Hn rfl⟩;have F55:=yH (st:=Wv) l55 c55 k55;have D55:zK K mg "_law_word" Wv ["_law_row"]:=⟨_,_,F55,W.mg_of X G a55,F55.binds λ_ _ _ _ _ _=>xq λ_=>rfl⟩;have F56:=yH (st:=Wg) l56 c56 k56;have D56:zK K mg "_law_jump_words" Wg ["_law_row", "_law_distance", "_law_is_far"]:=⟨_,_,F56,W.mg_of X G a56,F56.binds λ_ _ _ _ _ _=>jQ λ_ _ _=>rfl⟩;have F57:=yH (st:=Ww) l57 c57 k57;have D57:zK K mg "_law_written" Ww ["_law_rows", "_law_far"]:=⟨_,_,F57,W.mg_of X G a57,F57.binds λ_ _ _ _ _ _=>wz λ_ _=>rfl⟩;have F58:=yH (st:=ZQ) l58 c58 k58;refine⟨W.fnOf "law" "law" (YJ ZQ) (p9 ZQ) (zw ZQ) .none kV58 dc58 pm58 an58 cd58 ct58,λs v=>.of_eq rfl,λbase _ _=>?_⟩;have Op:=aV (P:=l.prog) (w:=w) (base:=base) D0 ;have Ou:=ar (P:=l.prog) (w:=w) (base:=base) D1 ;have Yc:=ac (P:=l.prog) (w:=w) (base:=base) D2 ;have Yd:=am (P:=l.prog) (w:=w) (base:=base) D3 ;have Yb:=aW (P:=l.prog) (w:=w) (base:=base) D4 OG M7 OF M6 vU vX;have j8:=aU (P:=l.prog) (w:=w) (base:=base) D5 Op;have pE:=aq (P:=l.prog) (w:=w) (base:=base) D6 Ou;have YW:=Ah (P:=l.prog) (w:=w) (base:=base) D7 OB M2;have qJ:=Ai (P:=l.prog) (w:=w) (base:=base) D8 B3 vU vX kx ZL LB pE YW Yb;have YU:=Ac (P:=l.prog) (w:=w) (base:=base) D9 vU vX j8;have OX:=Aq (P:=l.prog) (w:=w) (base:=base) D10 ku Yr pD gL pC gK I_ GT YM WE YL WD;have YY:=Ap (P:=l.prog) (w:=w) (base:=base) D11 X3 pD gL YM WE;have OU:=Al (P:=l.prog) (w:=w) (base:=base) D12 X3 pC gK YL WD;have OT:=Aj (P:=l.prog) (w:=w) (base:=base) D13 yO kx ZL j8 Yb;have Oq:=aY (P:=l.prog) (w:=w) (base:=base) D14 B2 vU vX YU OX YW OT YY pE qJ;have YX:=An (P:=l.prog) (w:=w) (base:=base) D15 ;have OV:=Am (P:=l.prog) (w:=w) (base:=base) D16 OC M3;have j9:=aZ (P:=l.prog) (w:=w) (base:=base) D17 YX;have OY:=Ar (P:=l.prog) (w:=w) (base:=base) D18 YX;have Ot:=ag (P:=l.prog) (w:=w) (base:=base) D19 OY j9 OV;have Om:=aQ (P:=l.prog) (w:=w) (base:=base) D20 yO Xl W9;have On:=aR (P:=l.prog) (w:=w) (base:=base) D21 jS B1 jR uS Om;have OZ:=As (P:=l.prog) (w:=w) (base:=base) D22 uS yO On;have OQ:=Ae (P:=l.prog) (w:=w) (base:=base) D23 yO YQ Ys Yc;have Q6:=ah (P:=l.prog) (w:=w) (base:=base) D24 yO vU vX Oq YU OU OQ YY Yc j8;have Ye:=ao (P:=l.prog) (w:=w) (base:=base) D25 Q6;have OP:=Ab (P:=l.prog) (w:=w) (base:=base) D26 X4;have Ov:=au (P:=l.prog) (w:=w) (base:=base) D27 yO Ye OP;have Os:=af (P:=l.prog) (w:=w) (base:=base) D28 Ov Ye;have Q5:=aX (P:=l.prog) (w:=w) (base:=base) D29 yO uS Os OZ;have OO:=Aa (P:=l.prog) (w:=w) (base:=base) D30 jR wO yO j9;have OW:=Ao (P:=l.prog) (w:=w) (base:=base) D31 OE M5 OD M4;have YV:=Ad (P:=l.prog) (w:=w) (base:=base) D32 uS OO Ot;have Q4:=aT (P:=l.prog) (w:=w) (base:=base) D33 jR wO yO YV OW;have OR:=Af (P:=l.prog) (w:=w) (base:=base) D34 jS Q4;have Ow:=av (P:=l.prog) (w:=w) (base:=base) D35 ku Yr qJ;have Oo:=aS (P:=l.prog) (w:=w) (base:=base) D36 vU vX pD gL pE Yd qJ;have OS:=Ag (P:=l.prog) (w:=w) (base:=base) D37 YQ Ys pC gK Yd qJ;have Q7:=ax (P:=l.prog) (w:=w) (base:=base) D38 uS OR YV j9 Ow OS Oo;have qK:=Ax (P:=l.prog) (w:=w) (base:=base) D39 yO;have vi:=aB (P:=l.prog) (w:=w) (base:=base) D40 ;have Q0:=aC (P:=l.prog) (w:=w) (base:=base) D41 wO vi;have Oi:=aI (P:=l.prog) (w:=w) (base:=base) D42 ;have Oh:=aG (P:=l.prog) (w:=w) (base:=base) D43 X4 B0;have Oj:=aJ (P:=l.prog) (w:=w) (base:=base) D44 wO yO qK vi Oh Oi;have j7:=A_ (P:=l.prog) (w:=w) (base:=base) D45 wO yO;have Oe:=aA (P:=l.prog) (w:=w) (base:=base) D46 ;have Oc:=Ay (P:=l.prog) (w:=w) (base:=base) D47 wO yO j7 vi Q0;have Ob:=Aw (P:=l.prog) (w:=w) (base:=base) D48 Oe qK Oj Oc;have Ya:=aK (P:=l.prog) (w:=w) (base:=base) D49 wO yO;have Q2:=aD (P:=l.prog) (w:=w) (base:=base) D50 Ya j7;have YZ:=aH (P:=l.prog) (w:=w) (base:=base) D51 jS Q2;have Of:=aE (P:=l.prog) (w:=w) (base:=base) D52 YZ;have Oa:=Av (P:=l.prog) (w:=w) (base:=base) D53 YZ j7 vi;have Og:=aF (P:=l.prog) (w:=w) (base:=base) D54 ;have Ol:=aL (P:=l.prog) (w:=w) (base:=base) D55 yO Og;have Od:=Az (P:=l.prog) (w:=w) (base:=base) D56 M_;have Q3:=aM (P:=l.prog) (w:=w) (base:=base) D57 wO yO Ya Od Ol;exact Au F58 yO Ob qK Of Q3 Oa Q5 Q7
theorem walk{l:W.OpenLaw}{q:Program}{loose:List Str}{XP:(Str->Option Value)->Heap->Prop}{YP:World->Heap->Prop}{d:DefRec}{K:Params->W.Frag}(hn:l.most=some 63)(hdf:d.params.defaults=[])
  (hY:∀(w:World)(h:Heap),YP w h->(K w.params).In h)
  (F:∀(w:World)(mg:Str->Option Value)(fa:Addr)(h:Heap),(K w.params).In h->h.Ns mainGlobals mg->mg d.name=some (.ref fa)->
   ∃fd:FuncData,(∀(s:Shared)(u:Value),BindsTo s fd ⟨[u],[]⟩ [("_law_script",u)])/\∀base:Heap,(K w.params).In base->base.Ns mainGlobals mg->tj l.prog w (K w.params) mg base tZ 10 fa fd ["_law_script"] (VX (K w.params))) :
  W.WalkO q loose XP YP l.row.toRowW d [] (λf vs=>PySem.call f vs):=
 L3.walkB (n:=63) (k:=10) (x := "_law_script") (sp:=VX) hn (by decide) hdf ⟨rfl,by decide,by decide⟩ hY F λ_ _ a ns hl hb hS=>⟨a,ns,rfl,hS,hl,hb,λ_=>rfl⟩
end My
namespace PySem.W.Fast
def tw11954974611699111624:=0
def tw895203842712721419:=0
def tw8229109894297343298:=0
def tw12967437303665474758:=0
def tw15802346849908392067:=0
def tw10361784954080250705:=0
def tw8651690355865942436:=0
def tw2058876688449135959:=0
def tw4022547762021312502:=0
def tw5308738517917538356:=0
def tw13337171212354490717:=0
def tw13606693070641579367:=0
def tw8159695271855883786:=0
def tw8299109485831203548:=0
def tw6601745008169515207:=0
def tw18195649692240949605:=0
def tw9753556101119480887:=0
def tw2349792583306675808:=0
def tw13240315312444442351:=0
def tw9397108875056632140:=0
def tw2843981276509152292:=0
def tw13010743477388825497:=0
def tw12546496126376985055:=0
def tw50085274319685730:=0
def tw857337878654586512:=0
def tw7734779860283914330:=0
def tw8292437128129321205:=0
def tw11714454085076986086:=0
def tw4173167987399729594:=0
def tw9840076309021722640:=0
def tw13816537962827029473:=0
def tw2878500043002382524:=0
def tw10730144762957200175:=0
def tw17901794649854679987:=0
def tw6434531929766812623:=0
def tw1527072427928843740:=0
def tw9018388404086899053:=0
def tw2796145005209414654:=0
def tw14197952374108482058:=0
def tw4037992401182283251:=0
def tw6214833352906069000:=0
def tw7434443531537468295:=0
def tw2828165614301452486:=0
def tw7548317112263653248:=0
def tw18386796078760798247:=0
def tw17052675573134215232:=0
def tw15556535704508355644:=0
def tw10289548526961435778:=0
def tw8640403278908384875:=0
def tw13506733013090987414:=0
def tw9453547970803697806:=0
def tw6005838259114734974:=0
def tw6504502453402449419:=0
def tw5687530823882168743:=0
def tw12161782501253451138:=0
def tw1694919767920079574:=0
def tw6495598584023645928:=0
def tw11379289968955743942:=0
def tw12553538943725397794:=0
def tw9055044973866366142:=0
def tw12158247231289208488:=0
def tw2882392282928340829:=0
def tw9228587416989629067:=0
def tw16299334154975352918:=0
def tw2841723316029777624:=0
def tw12072740028736592435:=0
def tw12376400073030308846:=0
def tw4088681011140283513:=0
def tw1641211477939431808:=0
def tw16469123512103484797:=0
def tw16913660282926326743:=0
def tw15361351623384606890:=0
def tw5655654542624490060:=0
def tw14291685723753283351:=0
def tw13244907111374904557:=0
def tw16236443261312078331:=0
def tw13410998999884150227:=0
def tw2193379098442703405:=0
def tw15692187178908714322:=0
def tw242124716772975768:=0
def tw15065964582283117135:=0
def tw8189683871929865353:=0
def tw5675678734307145363:=0
def tw9679961730776311325:=0
def tw7455497392882503465:=0
def tw12437885847200735795:=0
def tw16303346126186737371:=0
def tw7455958076786671919:=0
def tw13253271094287664374:=0
def tw1233088584373268322:=0
def tw8452048342447142678:=0
def tw2396706001051983157:=0
def tw14218662667543674894:=0
def tw14381504378703605773:=0
def tw16289028076912473314:=0
def tw15905844970249057813:=0
def tw7099682208110486587:=0
def tw5822309544017995631:=0
def tw15402627020246592637:=0
def tw10546353703007542126:=0
def tw15620259199328878340:=0
def tw15989196151557883676:=0
def tw9014044191796278394:=0
def tw8691400126507109523:=0
def tw2829420483452931688:=0
def tw13487427624683186825:=0
def tw12492406260810013970:=0
def tw12535807781683352415:=0
def tw17094760364857803919:=0
def tw4367036180925205719:=0
def tw8537827100579041767:=0
def tw17193843108407243286:=0
def tw14196887150137111181:=0
def tw17620105384696778463:=0
def tw14261940592954152296:=0
def tw17684669644496931356:=0
def tw568242503971714672:=0
def tw7854744360874391179:=0
def tw13366358080345597085:=0
def tw14237562363155421372:=0
def tw14777364560099675153:=0
def tw5592634485965657345:=0
def tw9124722525719025552:=0
def tw1352341149631484748:=0
def tw6376462782459892520:=0
def tw2716616794876654571:=0
def tw3021705933803355569:=0
def tw99217046325602708:=0
def tw663860061548863520:=0
def tw2661744921292999943:=0
def tw4885682624126186390:=0
end PySem.W.Fast
open PySem PySem.W PyProof.Rows
set_option maxRecDepth 100000 in
set_option maxHeartbeats 0 in
theorem PySem.Challenge.cw_markrun_k32_far_ones_read_holds : PySem.Challenge.rw_markrun_k32_far_ones_read.Holds := by
 w_on; o_law; k_head; (case hw=>w_witness2)
 k_fill
 refine My.walk (l:=PySem.Challenge.rw_markrun_k32_far_ones_read) rfl rfl (λw h Y=>PySem.W.kIn_of Y) ?F
 case F=>
  intro w mg fa h KX G hmg;refine' My.all_mk KX G hmg ?a0 ?l0 ?c0 ?k0 ?a1 ?l1 ?c1 ?k1 ?a2 ?l2 ?c2 ?k2 ?a3 ?l3 ?c3 ?k3 ?a4 ?l4 ?c4 ?k4 ?a5 ?l5 ?c5 ?k5 ?a6 ?l6 ?c6 ?k6 ?a7 ?l7 ?c7 ?k7 ?a8 ?l8 ?c8 ?k8 ?a9 ?l9 ?c9 ?k9 ?a10 ?l10 ?c10 ?k10 ?a11 ?l11 ?c11 ?k11 ?a12 ?l12 ?c12 ?k12 ?a13 ?l13 ?c13 ?k13 ?a14 ?l14 ?c14 ?k14 ?a15 ?l15 ?c15 ?k15 ?a16 ?l16 ?c16 ?k16 ?a17 ?l17 ?c17 ?k17 ?a18 ?l18 ?c18 ?k18 ?a19 ?l19 ?c19 ?k19 ?a20 ?l20 ?c20 ?k20 ?a21 ?l21 ?c21 ?k21 ?a22 ?l22 ?c22 ?k22 ?a23 ?l23 ?c23 ?k23 ?a24 ?l24 ?c24 ?k24 ?a25 ?l25 ?c25 ?k25 ?a26 ?l26 ?c26 ?k26 ?a27 ?l27 ?c27 ?k27 ?a28 ?l28 ?c28 ?k28 ?a29 ?l29 ?c29 ?k29 ?a30 ?l30 ?c30 ?k30 ?a31 ?l31 ?c31 ?k31 ?a32 ?l32 ?c32 ?k32 ?a33 ?l33 ?c33 ?k33 ?a34 ?l34 ?c34 ?k34 ?a35 ?l35 ?c35 ?k35 ?a36 ?l36 ?c36 ?k36 ?a37 ?l37 ?c37 ?k37 ?a38 ?l38 ?c38 ?k38 ?a39 ?l39 ?c39 ?k39 ?a40 ?l40 ?c40 ?k40 ?a41 ?l41 ?c41 ?k41 ?a42 ?l42 ?c42 ?k42 ?a43 ?l43 ?c43 ?k43 ?a44 ?l44 ?c44 ?k44 ?a45 ?l45 ?c45 ?k45 ?a46 ?l46 ?c46 ?k46 ?a47 ?l47 ?c47 ?k47 ?a48 ?l48 ?c48 ?k48 ?a49 ?l49 ?c49 ?k49 ?a50 ?l50 ?c50 ?k50 ?a51 ?l51 ?c51 ?k51 ?a52 ?l52 ?c52 ?k52 ?a53 ?l53 ?c53 ?k53 ?a54 ?l54 ?c54 ?k54 ?a55 ?l55 ?c55 ?k55 ?a56 ?l56 ?c56 ?k56 ?a57 ?l57 ?c57 ?k57 ?a58 ?l58 ?c58 ?k58 ?EX ?EQ ?EO ?EW ?EV ?EU ?EL ?EM ?ER ?ET ?ES ?EN ?Cd ?Ck ?Co ?Cc ?Ce ?Cr ?E5 ?E9 ?EB ?ED ?Cl ?Cp ?CT ?Cq ?E4 ?E8 ?EA ?EC ?EE ?EF ?EG ?EH ?EI ?Cs ?Ct ?Cu ?Cv ?Cw ?Cy ?Cz ?C_ ?E2 ?E3 ?E6 ?E7 ?Cj ?Cn ?CW ?Lh ?CQ ?Le ?Lj ?CZ ?Li ?Ll ?CS ?Lf ?Lk ?CU ?Lg ?CV ?Cf ?Ca ?CY
  all_goals try (first|k_is|k_exc|kit_is|kts_exm)
  all_goals decide
