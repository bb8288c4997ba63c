import PyProof.Rows.All
import Wide.All
import OpenK.AllK
import Wide.FinOn
import Lean
import PyProof.EqAt
import PyProof.EqKinds
import PyProof.TupleCall
import PySem.Challenge.RW_markrun_k44_whole_two_machines
set_option Elab.async false
set_option linter.all false
set_option maxRecDepth 100000
set_option genSizeOf false
set_option genInjectivity false
set_option compiler.extract_closed false
set_option bootstrap.genMatcherCode false
section
open Lean
def rb0(f:Syntax→Syntax)(s:Syntax):Syntax:=s.rewriteBottomUp f
def ix0(b w:Nat)(s:Syntax):Nat:=match s with
 |.ident _ _ (.str .anonymous x) _=>
  let n:=x.front.toNat
  if n<b||b+w≤n||2<x.length then 99999 else 2*(if x.length=1 then n-b else n-b+w*(x.back.toNat-96))
 |_=>99999
def fb0(t s:Syntax):Syntax:=match s with
 |.atom _ v=>.atom .none v
 |.ident ..=>let u:=t[1][0][1][ix0 192 192 s]
  if u.isMissing||u.isOfKind numLitKind then s else u
 |.node _ k a=>if k==``Parser.Term.app then
   let u:=t[1][2][0][1][ix0 913 57 s[0]]
   if u.isMissing||u.isOfKind numLitKind then s else rb0 (λx=>let y:=s[1][ix0 7936 8 x/2]
    if y.isMissing then x else y) u
  else if k==nullKind then
   let l:=s[0][2][1][1][0][0][0][4][1]
   if l.isMissing then s else mkNullNode (l.getArgs++a.extract 1 a.size)
  else if k==``Parser.Command.print then .node .none ``Parser.Command.end #[mkAtom "end",mkNullNode (if s[1].getId==`a then #[]else #[s[1],mkNullNode])]else .node .none k a
 |_=>s
end
open Lean in
local macro_rules(kind:=Lean.Parser.Command.mutual)|s=>do
 let c:=s[1][0]
 unless c.isOfKind ``Parser.Command.check do Macro.throwUnsupported
 let g:Syntax→Syntax:=λt=>rb0 (fb0 t) t
 return rb0 (fb0 (g (g (g (g (g (g c[1]))))))) (s[1].setArg 0 mkNullNode)
mutual
#check([some,List,false,true,none,(by omega),Option,base,Addr,(by decide),autoParam,Shared,W.Frag,Bool,if_pos,rows,if_neg,Expr,PySem.wpAny_bind,(by simp only[_root_.L3.yH,_root_.L3.zZ,_root_.L3.yP,_root_.L3.pA,_root_.L3.yF,_root_.L3.qc,_root_.L3.jD,_root_.L3.xR,_root_.L3.xq,_root_.L3.Jp,_root_.L3.y5a,_root_.L3.Zi,_root_.L3.p9,_root_.L3.ZY,_root_.L3.e1,_root_.L3.e2,_root_.L3.eL,_root_.L3.eC,_root_.L3.z6,_root_.L3.Qj,_root_.L3.zA,_root_.L3.zG,_root_.L3.tE,_root_.L3.YW,_root_.L3.MU,_root_.L3.kq,_root_.L3.gb,_root_.L3.U9,_root_.L3.Oj,_root_.L3.CB,_root_.L3.uN,_root_.L3.wA,_root_.L3.vF,_root_.L3.W6,_root_.L3.LH,_root_.L3.lz,_root_.L3.gD.sel,_root_.L3.fI,_root_.L3.gJ,_root_.L3.ui,_root_.L3.qP,_root_.L3.UC,_root_.L3.xP,_root_.L3.ZK,_root_.L3.z12,_root_.L3.uj,_root_.L3.Qq,_root_.L3.py,_root_.L3.Qp,_root_.L3.tL,_root_.L3.Op,_root_.L3.ZM,_root_.L3.UD,_root_.L3.UL,_root_.L3.yA,_root_.L3.uO,_root_.L3.uq,_root_.L3.zT,_root_.L3.uM,_root_.L3.xw,Option.bind_some,Option.bind_none,List.getElem?_cons_zero,List.getElem?_cons_succ,List.set_cons_zero,List.set_cons_succ,List.map,List.cons_append,List.nil_append,List.length_cons,List.length_nil,List.replicate_zero,List.replicate_succ,Bool.not_true,Bool.not_false,decide_true,decide_false,Bool.and_self,Bool.and_true,Bool.true_and,Nat.reduceAdd,Nat.reduceSub,Int.reduceLT,Int.reduceLE,Int.reducePow,Int.reduceToNat,Int.reduceAdd,Int.reduceSub,Int.reduceMul,Int.reduceNeg]),X.env,Stmt,Keyed,0,Array,wpAny,s.heap.objs.size,absurd,(Or.inl rfl),s.heap,Reps,World,xs.length,sizeLine,(by simp),PyProof.Rows.wpS_bind,(Bool×D),heap,Program,List.length_map,(model prog w),rows.length,(i+1),(È×Obj),a.size,List.length_append,X.mg,decide_eq_true,[x0],PyProof.Rows.wpS_pure,X.prog,Around,False,[x0,x1],X.N.length,0,SortSt,"WordMachine","RowMachine",(.bl Â),(model X.prog X.w),(z6 1),vs.length,outer,getK,s.heap.get?,(z6 0),ps.length,data,Value.ref,"self",decide_eq_false,(z8 0),D.int,(Nat.le_refl _),(z6 2),s.toks,eval,(Int×Int),ds.length,I.zf,cons,Bool.and_eq_true,toks,List.getElem?_eq_getElem,List.length_cons,(z8 1),(e::es),mainGlobals,(zc zC),prog,PySem.wpAny_pure,Heap.lt_size,"list",h'.get?,List.size_toArray,Nat.le_trans,(z6 3),h.get?,Heap.get?_push_of_some,X.xe,(by decide +kernel),(wI Ws),(Sum Int Str),(kP ps),ks.length,PySem,(eC (.int 0)),l.prog,PyProof.Rows,(z8 2),[ú,ù],(.ref f),(ůr=Â),(rows.getD i .zE),(.inl rfl),HT.sIx,rest,kvs.length,(n+1),name,List.mem_cons.mp,PySem.Spec,FuncData,scope,(yM _),Int.toNat_natCast,(.dK kvs),"State",(.int 0),["state","row"],(vP ps),(zS st),(by simp only[_root_.L3.yH,_root_.L3.zZ,_root_.L3.yP,_root_.L3.pA,_root_.L3.yF,_root_.L3.qc,_root_.L3.jD,_root_.L3.xR,_root_.L3.xq,_root_.L3.Jp,_root_.L3.y5a,_root_.L3.Zi,_root_.L3.p9,_root_.L3.ZY,_root_.L3.e1,_root_.L3.e2,_root_.L3.eL,_root_.L3.eC,_root_.L3.z6,_root_.L3.Qj,_root_.L3.zA,_root_.L3.zG,_root_.L3.tE,_root_.L3.YW,_root_.L3.MU,_root_.L3.kq,_root_.L3.gb,_root_.L3.U9,_root_.L3.Oj,_root_.L3.CB,_root_.L3.uN,_root_.L3.wA,_root_.L3.vF,_root_.L3.W6,_root_.L3.LH,_root_.L3.lz,_root_.L3.gD.sel,_root_.L3.fI,_root_.L3.gJ,_root_.L3.ui,_root_.L3.qP,_root_.L3.UC,_root_.L3.xP,_root_.L3.ZK,_root_.L3.z12,_root_.L3.uj,_root_.L3.Qq,_root_.L3.py,_root_.L3.Qp,_root_.L3.tL,_root_.L3.Op,_root_.L3.ZM,_root_.L3.UD,_root_.L3.UL,_root_.L3.yA,_root_.L3.uO,_root_.L3.uq,_root_.L3.zT,_root_.L3.uM,_root_.L3.xw,Option.bind_some,Option.bind_none,List.getElem?_cons_zero,List.getElem?_cons_succ,List.set_cons_zero,List.set_cons_succ,List.map,List.cons_append,List.nil_append,List.length_cons,List.length_nil,List.replicate_zero,List.replicate_succ,Bool.not_true,Bool.not_false,decide_true,decide_false,Bool.and_self,Bool.and_true,Bool.true_and,Nat.reduceAdd,Nat.reduceSub,Int.reduceLT,Int.reduceLE,Int.reducePow,Int.reduceToNat,Int.reduceAdd,Int.reduceSub,Int.reduceMul,Int.reduceNeg,_root_.L3.xK,_root_.L3.WO,_root_.L3.WP,_root_.L3.WR,_root_.L3.qz,_root_.L3.vk,_root_.L3.xf,_root_.L3.jb,_root_.L3.Qg,_root_.L3.r_,_root_.L3.rp,_root_.L3.XA,_root_.L3.x46,_root_.L3.P4,_root_.L3.P5,_root_.L3.IG,_root_.L3.X_,_root_.L3.Oa,_root_.L3.qw,_root_.L3.jh,_root_.L3.putAt,_root_.L3.rE,_root_.L3.y43,_root_.L3.gN,_root_.L3.hide,_root_.L3.qd,_root_.L3.y9q,_root_.L3.y9r,_root_.L3.y9s,_root_.L3.y9t,_root_.L3.y9u,_root_.L3.y9v,_root_.L3.x2a,_root_.L3.x2b,_root_.L3.x2c,_root_.L3.x2d,_root_.L3.x2e,_root_.L3.x2f,_root_.L3.x2g,_root_.L3.GS,_root_.L3.kR,_root_.L3.WQ,_root_.L3.q_,_root_.L3.z61,_root_.L3.LW,_root_.L3.z5y,_root_.L3.z5z,_root_.L3.wU,_root_.L3.Vx,_root_.L3.vE,_root_.L3.oX,_root_.L3.qt,_root_.L3.rB,_root_.L3.Uv,_root_.L3.Oe,_root_.L3.j4,_root_.L3.qy,_root_.L3.pf,_root_.L3.Qh,_root_.L3.Fx,_root_.L3.ZF,_root_.L3.CF,_root_.L3.wX,_root_.L3.bj,_root_.L3.z00,_root_.L3.s_,_root_.L3.sA,_root_.L3.rq,_root_.L3.JI,_root_.L3.UM,Option.map_some,Option.map_none,List.take_succ_cons,List.take_zero]),(a.d2 X G),StateT,(eC (.int 1)),Bool.false_ne_true,of_decide_eq_true,z.length,(.bl Ã),E.l2,List.mem_cons_self,(.ref C),W.kitOne,X.base,(k+1),(a.d1 X G),iter,K.In,List.getElem?_eq_some_iff.mp,List.append_assoc,bootBuiltins,(.ref a),stop,I.xY,E.l1,List.map_cons,Nat.zero_add,"words","items",us.length,(z8 3),o.push,if_true,PySem.sizeLine_eq,List.getElem?_map,"tuple",k.toNat,b.size,OwnMs,(zg (zX b)),Heap.get?_push_size,Array.length_toList,Nat.lt_of_lt_of_le,"word",b.length,(xG 0),(z6 4),X.calm,A.in1,K.go,List.replicate,[x0,x1,x2],ps.map,"dict",(zU×V),W.nsIn,List.append_nil,(.yK o Ŀ),List.all_cons,N.length,K.lookup,String,I.list,I.tok,l.map,Nat.le_add_right,Nat.ne_of_lt,List.mem_map.mp,X.length,(.ref p),congrArg,"jump",Sum.inl,"when",(z6 5),z.elim,cLine,(wV X scope cl own C s H fp pn),X.env.locals,ys.length,ns.length,(.str w),PyProof,0,(Ŀa s),(j+1),cpos,args,(Nat.lt_irrefl _),(wG I q â),its.toArray,"unless","table",r.length,add_int,I.tuple,zero,succ,F.dj,List.mem_append.mp,List.length_take,X.env.scope,Nat.le_refl,"held",(À v),(vS st),(a σ),(u q),Nat.le_of_lt,K.ext.gh,if_false,[.ref a],(.int i),Scope,E.go,0,List.getD_eq_getElem?_getD,List.range,(.tup [.str "stop"]),(λ_ z=>nomatch z),(a==sysModules),(.Name x pos),Int.le_of_lt,decide_true,(.type ĝ),(.lst Ħ),(.int 8),"carry",(z8 4),x.size,getA,back,List.mem_cons_of_mem,(.Name x p),List.mem_singleton.mp,compareOp,(eC .zE),(Str×Nat),g.length,W.keepIn,P.length,elem',(A n),E.lp,apos,"registers",PySem.wpAny_mono,(ns.map V.int),(.str "mark"),Nat.zero_le,(zO Ĉ),Int.le_refl,False.elim,(xE e=Ã),(.lst xs),X.N.Nodup,(À ŏ),(xJ A n),(.str k),vd.cons,(Ú+1),r.mono,"row",I.loc,F.at_,pos',keep,X.env.cells.lookup,((ė).all xE=Ã),(.Name x xp),(λz=>nomatch z),"memory",(.int 16),ms.length,i.length,a.length,W.toNat,I.ok.hd,(z8 5),"test",IsPair,(yA 1),"zip",tP.nd,F.ok,Unit,(zi (zg (zX b)) zh (z8 1) zJ),zR.refl,"_law_cell","address",Option.some.inj,Nat.min_eq_left,List.map_append,List.length_set,"number",(.int (i:Int)),(ks.zip vs),(zU×Value),vs.toArray,"nought","state","kind",(yx P w),Ws.length,(.tup xs),"storew",j.length,d.length,W.findIn,zw.refl,(.int 1),X.stack,"store","loadw",A.units,"left",o.data,I.cell,(yA 5),"set","add",I.pin,h.Ns,X.fs,E.ow,List.not_mem_nil,s.heap.push,List.length_zip,(Nat×Nat×Nat),(xh A b tg n),(.type "int"),Nat.min_self,True.intro,(yx prog w),(.type ŧ),fs.length,f.length,c.length,I.turned,"sign","code",(f β),plain,E.own,x.gh,call,D.nx,(.ListComp elt [⟨tg,iter,ifs,0⟩] scope pos),(X.fn x=Ã\/X.env.scope.names.lookup x=À .local),List.mem_append_right,List.take_append_drop,(.Call ĉa ė [] pos),(x ≠ "__name__"),a.toList.drop,a.heap.objs.size,(eq_of_beq c),Option.bind_some,List.length_drop,(.type "bool"),(.int (n:Int)),List.mem_cons,(Or.inr rfl),List.map_map,binaryOp,E.ext.gh,(Æ Value),(.int x),"__init__",(Str×È),W.kia_one,(zO Ė),"place",(g i j),or_false,L.length,0,(yL zC),[.int x],(Ÿ pD),"right",(Ŗ h),(À m),(κ×V),"load","high",y.Perm,I.free,I.bare,(tK x),(lo+i),(A i),"max",zR.ql,yX.tr,tplDs,IsZip,(j-1),"or",its',item,cond,W.at,P.pN,E.ap,(xv (wI Ws) a b c (kP ps) (vP ps)),(zA Ă zG),Array.getElem?_toList,0,(zA ý zG),PySem.wpAny_holding,(by simpa using h),(by simpa using e),List.length_range,starEach,(ns.map ĉ),(.type "str"),h.objs.size,ForInStep,"truths",(.ref it),b.extract,c.trans,Txt.mul,(a.d3 X G),ws.length,b.toArray,X.A.units,(À İ),envOfC,y.toList,l.length,Reps.imp,"mark",codeAny,"subc","addc",ns.map,X.H₀,I.laid,"end","sub","xor","law","and",value,r.get,o.cls,IsTup,(x+1),E.fr,(yZ (zY (zY ya)) É),List.getElem?_append_left,PySem.wpAny_field,PySem.wpAny_seqItems,List.all_eq_true.mp,attributeBase,Nat.lt_of_le_of_lt,List.zip_cons_cons,foldedSetIterable,a.toList.take,b.toArray.size,List.zipWith,(.ins C dx fs),Nat.ne_of_gt,(σ++[À v]),(zB Į zL),Heap.SameBut,(.inr z),A.deeper,(ě ?_),its.length,(Α ċ),(λ_=>Ä),(.inr rfl),a.toArray,I.ok.kind,(.type T),(.nx β2),"stands",(.inl a),x.length,s.TypeIs,[.str k],[.lst a],(Ŗ hi),(.str x),(zX b),Ne.symm,Sum.inr,BindsTo,zR.lay,starts,"step","copy",intsOf,IsPart,(0<=i),forIn,yd.of,small,I.len,E.pin,putF,hide,K.lp,((x==("__classdict__" : Str))=Â),List.getElem?_append_right,Int.eq_ofNat_of_zero_le,List.getElem?_eq_none,own.length,(e2 zM ý ī),Array.toList_append,Bool.false_eq_true,Builtin.bitAnd,c.heap.objs.size,(Nat.sub_le _ _),"_law_k",(eC (.int 4)),I.zf.fresh,(zB Ĉ zL),Heap.size_push,(EP X z7 σ Q),(wK Ï R i),a.extract,(.str "test"),(30+(i:Int)),(zB Ė zL),(Str×Value),(K w.params),swapsWith,(Á zU×V),(model P w),"sorted",SeqAt.EqAt,(.int 2),DictEntry,A.handled,q.toList,W.codeIn,e.trans,[.int c],(top 65),(by rfl),(Str×V),"range",kN.getD,IntsAre,(lo+k),putAt,D.tup,D.lst,self,e.gh,cont,c.gh,True,I.pO,(yZ (zY (zY (zY ya))) É),PySem.PassesOwn.never,(backToKw pos (keywordEach [] Ô)),(by with_unfolding_all rfl),(e2 zM ý ň),((apos.endLine==cpos.line)=Ã),(.tup [(.str "d"),(.str "s")]),[xM C T e fw fh sd due done],List.pairwise_append.mp,List.drop_eq_getElem_cons,0,Nat.lt_succ_self,List.zipWith_cons_cons,(.fz (.int m)),"first_words","distance",List.mem_range.mp,"_law_script",rows.drop,List.getElem_mem,b.toList.take,a.names.lookup,(.dic hk hv),Nat.le_of_eq,behindInMarks,(.builtin id),"enumerate",Sum.inl.inj,Nat.sub_self,Int.ediv_one,(yx ò X.w),(yQ x p f g),DecidableEq,(Ρ (x+3)),(.str ōa),(.ref Ú),(Γ Ţ),rows.getD,(.dT kvs),"stop","thing",callWith,0,[.str w],(zO Į),(vK t L),(.ref z),(.ref A),(zO zJ),(zO vM),(c b a),nextOf,valueAt,K.ext.g,(Ãa _),(Á D),(.bl b),assign,"done",zC.map,xs.map,(z6 7),(uk i),(k<=j),V.ref,isort,y_.of,W.set,hi.h,dEqs,X.pn,D.bl,[it],((n:Int)*134217728+d*16777216+s*2097152+m),(zB Ĉ (zB Ė zL)),X.s₀.heap.objs.size,PyProof.Rows.wpS_forRange,(wp (xH b)),(if b then 1 else 0),[.bl a,.bl b,.bl c],beq_eq_false_iff_ne.mpr,(.tup [.int 27,.int 5]),List.length_replicate,List.mem_of_getElem?,List.replicate_succ,List.length_zipWith,(st ws a b c hk hv),(.str k::R),Nat.succ_le_succ,(eC (.int 3)),(λC s H c b=>uw),(zA Ă øb),"first_held",a.toArray.size,Bool.eq_iff_iff,(yQ a0 p0 f0 g),(zB zJ zL),Bool.false_and,b.toList.drop,(Ρ (x+n)),(À (Ã,d)),(.str "subc"),(.str "addc"),(λ_ _=>ô),(.str "add"),d.trans,pos.line,fs.lookup,(Ρ (x+2)),(Ρ (x+1)),(Ρ (x+0)),(μa (i<j)),(ps.zip us),(ks.zip us),(eL tL õb),(.type Ź),(.tup āl),isort_perm,SortSt.mk',(.int 5),(λ_=>rfl),(xF X.K F),(thaws ms),(.str ăa),(Α ġ),Value.str,(Ŀa Ìb),(Ø Ö),(Ĝ e),"do_sum",x.toList,o.length,R.length,NameKind,["item"],(ùa 32),(Ŏ ..),(zO Ţ),(qw r.1),(.ref l),(.int m),Rd.mono,(ąb b),"steps","marks","again",i.toNat,Nat.ble,(Ĝl s),(ùa n),(.bl t),stored,q.size,backTo,(zc R),(yA 2),"run","int","due",x.new,whole,slots,field,bindL,bindC,E.ext,[x,y],step,body,I.os,(starEach ė Ô=(Â,eval e Ô)::starEach es Ô),Int.natCast_nonneg,(zi ū zh (wf Ĉ w6) ľa),(eC (.int 2)),((n:Int)*134217728+d*16777216+m),(i<100000000000000000000),PySem.wpAny_newObj_type,Int.emod_lt_of_pos,List.mem_of_mem_take,[.int w,.int 31,.int 1],(zi ū zh Ĉ zJ),(ns.map WData.int),PySem.wpAny_call_entry,List.take_of_length_le,List.drop_eq_nil_of_le,(vX zL (yZ ya É)),PySem.wpAny_passesOwn,List.zipWith_nil_left,(j.filter λd=>!xI d),(a.filter λd=>!xI d),(Á zU×È×Value),Nat.add_le_add_left,Int.emod_nonneg,(getMethod ov m pl),List.mem_range.mpr,Builtin.bitNot,(zi ū zh Į zJ),Nat.lt_of_succ_lt,[.at [ŀ] ëa],Int.not_lt.mp,beq_self_eq_true,PySem.call_meets,0,F.heap.objs.size,(wL as vs ks us),"isinstance",X.env.kindOf,Nat.le_antisymm,(τ++Ŷ k Ä),beq_iff_eq.mpr,(yQ y q Ä g),(.tup [x,y,z]),(.inl (n:Int)),Builtin.bitOr,(xs.map .inr),(.lst ys),Str.ofString,(start N vs),(failedOf s),(F.ok i q z),apos.atName,List.lookup,Int.one_mul,env.kindOf,(zV H p o),(kindOf s),(.int j),(.inl z),(zO yT),Value.int,PassesOwn,OwnMs.imp,l.extBut,[.p 0 []],0,(Α Ų),(Æ Nat),(arrOf s),(.lst ws),(.int 15),[.ref p],j.toNat,argBest,xs.Nodup,t.length,r.append,n.length,i.natAbs,c.typeIs,b.toList,List.map,b.trans,fs.map,(ða c),(vF zG),s'.heap,d.toNat,W.mg_of,Iff.rfl,(À 1),(z6 6),ys.all,(18+c),"told",wb.one,o.elim,modify,eq_int,c.toks,c.heap,W.fnOf,Result,Paired,(z8 7),(z8 6),(uh n),(lo+m),(e σ),(c σ),(c β),(0<=j),z.cps,thaws,(i+k),w_lt,maxI,hv.h,d.oM,(st Ħ a b c Ĩ Ń),(st (wI Ws') a' b' c' (kP ps') (vP ps')),((n:Int)*134217728+d*16777216+s*2097152),(.Call (.Attribute o m apos) [] [] pos),((ùa é).filter λi=>!zc zC i),(.tup [.str w,.str k,.str t]),"abcdefghijklmnopqrstuvwxyz",(yN C T e fw fh s d0 j0),PySem.wpAny_callSpecial?_slot,Array.getElem?_eq_some_iff.mp,(.tup [.str w,.str k,.int p]),(xM C T e fw fh sd due done),(.int 4294967296),[(n0,p0),(n1,p1),(n2,p2)],X.env.scope.names.lookup,PySem.wpAny_setField_rec,List.mem_of_mem_drop,PySem.wpAny_truthy_bool,PySem.wpAny_pyIter_list,(À (Â,d)),(.dic Ĩ Ń),Nat.add_sub_cancel',PySem.F.plain_max_loop,(e2 zM ý źc),PySem.codeAny_builtin,List.getElem?_toArray,(.fz (.int k)),PySem.wpAny_tryCatch,List.mem_append_left,Array.getElem_toList,assignEach,(λC s H d c=>uw),PySem.strLen_append,PySem.plainId_quiet,(ξa (ýb ė Ô)),PySem.wpAny_rule,(ξa (ýb es Ô)),(zi ū zh Ţ zJ),(by simpa using c),(.type "NoneType"),Nat.lt_succ_of_lt,Nat.le_of_lt_succ,List.flatten_cons,List.ext_getElem?,(Ŧa W.emptyDict),(σ++Ŷ ŝb Ä),List.take_length,List.filter_cons,[.int 24,.int 3],(yL (gF Ï zC)),(.builtin "len"),Nat.succ.inj,WData.weightAll,List.find?_cons,(Τc (b::rest)),"width",Value.none,I.base.free,s.heap.IsTuple,(.str "label"),(.int (p:Int)),Nat.lt_irrefl,List.any_cons,[x0,x1,x2,x3],(μ (À v)),(eC Ăa),(Ŭ _ rfl),(zT qK õb),Nat.add_comm,Int.le_trans,"other",(λd=>!xI d),(vV Ï R i),(.tup [x,y]),(.str "and"),"field",scope.names,c.heap.get?,OwnMs.cells,List.length,[Š,"far"],(À (b,d)),(κ×Value),Obj.mapSeq,List.foldl,(Ëb .Add),(xE a=Ã),(X9 a b c),(.tup Ĥc),"do_bits",seqObj,[ëa,Ła],(Ŧb Ċ),(Τc ēl),(Θ Ŀf),(c.val k),(us++ds),(ţ p),t.extBut,p.extBut,h.length,h.DictOf,b.typeIs,Operator,G.extBut,getItem,0,(zO Ąa),(yF Ča),(xJ A i),(vL g _),(o++[l]),(lo+m-1),(.ref x),(.own x),(.int v),(w%256),(WT ps),kvs.map,callerA,base.Ns,X.outer,AllBare,(z8 2),(Ķc c),(wI ns),(pq st),(G b d),"one",z.symm,y.size,isTrue,I.kept,(yL R),(v1 k),(uP x),(b σ),(a::r),0,(Uu i),kY.nd,binds,Z.map,V.int,Model,D.str,[a,b],(w=0),(n+k),(j+2),(g=1),(C=x),["table","end","first_words","first_held"],(min (if i<0 then i+(n:Int)else i) (n:Int)),PyProof.Rows.wpS_mono,PyProof.Rows.subscriptTail_builtinR,List.take_succ_eq_append_getElem,((ùa i).map λk=>D.str (nk k)),Builtin.List.listTooLong,(λa b=>if a<b then b else a),((c+7919*k)*48271%2147483647),PySem.Calls.callWith_builtin,[(p0:Int),(p1:Int),(p2:Int)],(by simp only[ğ]<;>omega),(rows.take d++jF g),PySem.Around.under_plainId,[xM ú T n fw fh ôb i j],(PyData.shownAll (pyTs a)),List.extract_eq_take_drop,[.str n0,.str n1,.str n2],(e2 qP (eC (.int 5)) ý),PySem.wpAny_Call_Name_kw,((u q).mpr (.inr z)),(zW xB xA Ė zJ),[.str w,.str k],(e2 zM Ă ī),[Ć,àa,"end",ĕa,įa],PySem.wpAny_typeOf,[À (Â,.int x),Ä],List.pairwise_cons.mp,(wx (own:=[ņa]) rfl),(by rw[E.l1];exact c),List.all_eq_true.mpr,Array.toList_extract,(X.drop k++Y.take e),((u q).mpr (.inl z)),List.Perm.refl,Builtin.Int.intBits,(eC (.int 32)),[.int i,.bl Ã],[.at [ú,ù] Ōa],(xw ŝb fs fg ft f),(ps.take i),PySem.call_meetsIn,Nat.sub_add_cancel,List.mem_filter.mp,List.filter_append,ForInStep.yield,(by rw[ŭ];omega),c.toArray.size,(wI (Ws.set d w)),(relabel ļ Ô),(pB j6 jC rfl yT),"default",(.fz (.int w)),List.mem_map.mpr,List.lookup_cons,List.cons_append,[.int 24,.int 2],(Uz b e Ý a d),"StopIteration",sliceBounds,g.objs.size,Nat.zero_lt_one,List.range_succ,List.length_nil,Int.min_eq_left,(Φc (b::rest)),(À (V.ref p)),(tupleKind Ŏa),(X.N[i]?=À x),Nat.not_lt.mpr,(ŋd es Ô),(wC ks vs k v),(gZ rfl uA zJ),(eC (.int 12)),(.int (a:Int)),(zO (Ξa Ěa)),s.heap.update,Nat.add_assoc,[ëa,Ła,ů],[Ć,ş,ëa],[p0,p1,p2,p3],(À (Ã,e)),(β++[À m]),(eC (.int 7)),(ZU c.heap H),(č e Ô),(.str "or"),e.gh.free,W.callWith_K,Int.pow_zero,Int.ne_of_gt,I.base.there,Around.under,[Ć,"most"],(μa (j<=i)),(zV H a Ŀ),(zV G a Ž),(zB jE zL),c.heap.push,a.heap.push,X.base.get?,OwnMs.focus,Int.mul_one,I.ok.mod.Xa,I.base.slot,(Β (A p)),(f (qd β)),L2.start,(s q z),(kU fs f),(.tup ys),uf.some_of,its.toList,W.plainGet,[.str Đb],(zV H a o),(jW éa x),(UW e=Ã),(.tup şh),(.str ųa),(.str ŋa),"do_move",y.testBit,x.extract,inplaceOp,I.base.tZ,I.base.tF,I.base.qm,(.ret v),(.ref t),(.inr u),[Ħa,Üc],[.lst ws],(ťh _ _),(Φc ēl),(ċa .In),(Γ Ąa),(Ĉa _ b),(À ř),(wM ks k),(vs++dvs),(pj ns 4),(f.n X G),(.yK o u),(.tbl ps),(.ref i1),0,(.int 32),(gN β),Y.take,y.extBut,xs.foldl,s.length,p.toList,oneType',h.extBut,g.isList,ZipApart,Y.length,OwnMs.qo,C.extBut,B.extBut,(Łf ?_),(wy K F),(uO 3 4),(qB Ĳ),(m∈tI),(kP ĭe),(g d σ),(eC İa),(eC Ĺd),(X.gv E),(I.VL e),(.own a),(.lst a),(.int k),(.int a),(.inr t),0,(.inr k),(.inl h),(.fz d),a.take,X.drop,"slice",x.trans,u_.with,p.toNat,h.trans,g.trans,Un.kept,I.fresh,rawInt,c.symm,[p0,p1],(Ĝl d),(īb i),(Øc _),(Ÿc _),(Ĝ q),(Ŗ e),(yA 15),(e σ1),(.bl k),(qv 1),(21+c),"bool",xs.all,u.keep,sIx_le,pyIter,preSum,o.dict,ks.zip,f.mono,e.symm,d.getD,Ws.set,W.isFn,T.keep,I.mono,B.kind,(yM _),(yA 3),(wJ f),(wI I),(u::v),(tC v),(kZ 1),(k9 a),(jD 1),(i==j),(YW x),(X++M),(Vz x),"str",piled,atKey,Ul.nd,Uk.nd,Ui.nd,Uh.nd,Uf.nd,T.obj,D.ind,CmpOp,(n-1),(i-1),(h a),(wL [] [] (zC.map λi:Nat=>Sum.inl (i:Int)) (zC.map λ_=>D.bl Ã)),(yN C T e fw fh s due done),(e2 zM (e1 (xV [ŀ] ş) Ă) Ñc),PyProof.Rows.wpS_get,(.Call (.Attribute (.Name c p) m apos) ė [] pos),(by show ¬ (1000000000<=900000000);decide),[.int g0,.int g1,.int g2,.int g3],(.tup [(.str "d"),(.str "s"),(.str "n")]),(λw d=>UU f g r c w (by simpa using d)),(.Call (.Attribute o m apos) ė [] pos),(if 2*(x%32)<32 then x%32 else x%32-32),(WB X.K 2 (j5 (uk i) (j5 (uk j) WA))),Builtin.SmallTypes.ownedTupleIsFree,[yN ù U (A n) fw fh ĭd (A i) j],[xM ù U (A n) fw fh ôb (A i) j],(mirror x lo (lo+m) ((lo+m-lo)/2)),(((τ.take k).map jd)++τ.drop k),PySem.F.slot_tuple_iterator_next,[g0,g1*256,g2*65536,g3*16777216],PySem.wpAny_letGo,PyProof.Rows.slot_tuple_getitem,(by rw[e];exact λz=>nomatch z),Builtin.Str.occurrences,(.tup [(.str "d"),(.str "n")]),(.Assign [.Name x pos'] e pos),[.Subscript ĭa k pos'],(zi ū zh Ĉ Ė),(ĉ (1*2 ^ ((w:Int)).toNat)),(λc=>∃r,c.1=À r/\u9 t r),(x.extract (d+Èa) (d+Èa+e)),PyProof.Rows.callWith_type1,(if k'=k then À v else _),(by show _<=16777216;omega),(Z.map λq=>.int (q.2:Int)),[.Subscript o k pos'],"_law_names_here",(wK Ï zC é),((u p).mpr ĳ),[yN ú T n fw fh ĭd i j],(zi (zg (zX a)) zh Ė zJ),Builtin.Slice.slicePlaces,(x.extract (d+k) (d+Èa)),PySem.mem_of_lookup,PySem.tupleKind_room_in1,PySem.F.slot_dict_values,List.pairwise_append.mpr,Builtin.Tuple.tupleExact,(.tup [.str Ëa,.str t]),strSliceIndices,PySem.F.plainAttrs_dict,Nat.add_sub_cancel_left,(List.nodup_cons.mp nd),(wW Ï (zc R)),(e2 zM Ă ý),(by rw[E.l1];exact hi),PySem.wpAny_updateSeq,PySem.wpAny_execs_nil,PySem.F.slot_zip_next,List.set_append_right,List.getElem?_zipWith,Heap.get?_update_self,(vW je jn rfl),[.int x,.int (n:Int)],(λ_=>Ň ø Sem β),(yZ (zY (zY ya)) É),(wx (own:=[Ťb]) rfl),(Z.map λq=>.str q.1),(.UnaryOp .Not a pos),(.Return (À e) pos),Nat.sub_succ_lt_self,(ys.any λy=>xZ y x),(Nat.lt_of_not_le c),(.Attribute e f pos),letOwnedTupleGo,PySem.wpAny_standAt,(by simpa using h1),(e2 yW ý ň),PySem.codeAny_mono,List.set_cons_zero,(b∈X.ex\/Ęc<=b),s2.heap.objs.size,W.instObj,PySem.wpAny_of_eq,Int.emod_eq_of_lt,[Ć,Š,ĕa,įa],[Ć,ş,ĕa,įa],[.lst a,.lst Øb],(by rw[LC];omega),(Str×Tok×Value),0,((p,w)::P.zip vs),s.heap.IsSliceOf,s.heap.FunFrames,Nat.min_eq_right,List.any_eq_true,Int.max_eq_right,[.lst ws,.int a],[.int 21,.int 3],(λi=>K x (b+i)),(xc (n%7).toNat),(w/16777216%256),(o++ūb i (i+k)),(JV n x (c x a)),(.tup [x,y,z,w]),((ßc i).take 1),(eC û),[.at [ŀ] ş],(σ++Ŷ k Ä),(λc=>f c.symm),(yQ a0 p0 f0 u),(py λi j=>i+j),(ga (zC++g zC)),(e2 zM ġ ň),(e2 zM ċ ī),(I.ok.bs b o e),k.toArray.size,Bool.and_false,Nat.le_succ,I.base.keep,(Zl a b o i j),(Zk a b o i j),0,(.type "type"),(.int (k:Int)),(.builtin Ŵb),(.Name x pos'),(zB ľa zL),(L++u4 Z i),beq_iff_eq.mp,a.toArray.any,Bool.true_and,[ů,"count"],(À (d:Int)),(zu.near x z),(putF f v fs),(lo+k-(lo+l)),own.contains,decide_false,P2.objs.size,Nat.lt_trans,Nat.le_total,Int.add_zero,(.str śa),[(D,u5 a k)],(ċa .NotIn),(ze (yI vM)),(ze (yI jE)),(zV H p ĉl),(zV H a Ž),(xs.set i x),(wW Ï ę),(jh β i π),(e2 F fa fb),(MZ r ta tb),(F.ok j q z),"do_storew",W.hasDictIn,Option.bind,List.map_id,(Ïg C Ú),(Ωa (Ţf)),(Ëb .Mult),(Á M×yD),(zT jP õb),(zA ň zG),(y b o e a),(x-x/p%r*p),(wf Ĉ jY),(vn ps a b),(qB Ï[i]),(ns.take k),(l+(r-l)/2),(d b o a e),(21+cJ Ĳ),(18+cJ Ĳ),(.bool Ã),((n:Int)=0),(Ζ Ţ),"do_store","do_loadw","__next__",ws.toArray,ps'.length,b.drop,Value.bool,HT.sIx_nat,rows.map,ns.getD,[y,.int d],[.lst Ħ],[(ĸe,dv)],(Β (-1)),(ă<=ſ),(λ_ q=>q),(yt ę i),(qn a k b),(qG kvs k),(.tup űh),(.str Ía),(.str Ëa),(.own Łd),(.int p.1),(.int i t),(.int due),(.str Ęb),(.str ôc),(.dic K V),"do_load","do_high","do_copy",zo.append,x.testBit,l.swap.hd,h'.DictOf,cl.lookup,c.toArray,c.gh.free,__do_lift,W.makesIn,Reps.ints,PySem.Str,Paired.Bb,Int.toNat,[ņa,Ťd],[ŀa,Ťb],(Āc ăb),(Ćb i j),(Β æb),(Β Ēa),(Ŀa ña),(Α Îa),(ö+ŝb),(Ĉa _ m),(Ĉa _ a),(ģ _ e),(Á Int),(σ++[v]),(λc=>?_),(λ_=>?_),(β++[m]),(j<=1000),(h p ţf),(.tup ds),(.ref i2),(.ref Xc),(.ref VR),(.ref VO),(.lst ds),(.int 24),(.fz Îb),(.bool b),"do_set",u.extBut,p.isList,n.extBut,mergeAt',m.length,j.natAbs,i.isList,h.isList,f.typeIs,e.h.free,c.h.free,bindArgs,a.toList,X.take,W.lookIn,Reps.set,Reps.one,M.length,(é+1),(āb Y_),(σ++ρ),(yt ę),(yF çg),(xF K F),(uq Ă),(u4 Z i),(tS a.1),(tQ Ĉ),(tM ſh),0,(gF Ï),(eC ńc),(Zo a.2),(zO Ķa),(ZU h H),(Wa ņb),(MV r t),(2 ^ 64),(.str t),(.ref e),(.ref c),(.nx σ),(.int w),(.int g),(.int e),(.int 3),(.inr x),(xH d),"label",unaryOp,uT.swap,uT.move,u.trans,u.there,pyNext,ds.set,ds.map,ds.drop,add_str,Keyword,I.write,0,I.ok.gs,E.ext.h,A.depth,(Úf e),(öa e),(öa d),(Ůh q),(ŕa _),(ţ q),(ęa _),(Áb i),(Ÿc k),(ì-1),(Ŗ f),(Æ V),(z8 15),(z6 15),(tM xs),(qd β),(q::qs),(hi-lo),(eC gL),(b β1),(ZV xs),(Of ..),(A ê),(xH b),"name",vs.map,u.slot,u.free,s.gens,p.size,not_or,ks.all,kindOf,bs.map,argsOk,a.toks,Params,J.stop,InLong,I.base,(xc n),(x++y),(wI g),(vP f),(vD r),(v2 k),(r β),(kP f),(g==k),(a++b),(Qn l),(OE z),(ME _),(A i'),"low","far",there,start,st.at,rows2,o.loc,names,label,l.fin,h.Ns1,g.get,f.get,a.any,W.one,M.ind,Jv.nd,Ju.nd,Jt.nd,Js.nd,Jr.nd,D.i2z,D.i1z,D.TOz,["_law_script","_law_rows","_law_places","_law_names_here","_law_cell","_law_many","_law_at","_law_items_here","_law_words_here","_law_pairs_here","_law_one","_law_other","_law_starts","_law_turn","_law_most"],[À (Â,.lst Ï),À (Â,.lst (Z.map λq=>.int (q.2:Int))),À (Â,.lst (Z.map λq=>.str q.1)),À (Ã,.lst []),Ä],(vR (Η (yk (i:=5) (show(w8 ["items","far","distances","chosen","near"] ["number"]).Nodup by decide +kernel) rfl Ü)) rfl),(((sIx ì 0 lo:Nat):Int)==0&&(1:Int)==1&&(sIx ì ì hi-sIx ì 0 lo)==ì),(yq (vX (zB yT (zB yT (zB yT (zB yT zL)))) (yZ (zY (zY (zY (zY ya)))) É))),[À (Â,.lst a),À (Â,.lst (yL zC)),À (Â,.dic K V),Ä,À (Ã,.lst []),À (Â,.int 0)],(zj u3 b rfl (zB Ĉ (Γ (zW xB xA (zW tO jB zJ Ė) zJ)))),(x0::x1::x2::x3::x4::x5::x6::x7::x8::x9::x10::À (yN ù T e fw fh s due done)::rest),(x0::x1::x2::x3::x4::x5::x6::x7::x8::x9::À (yN ú T e fw fh s due done)::rest),(Ŧa { cls:=.type "range",data:=.fields #[.int lo t,.int hi u,.int 1 v] }),(wN (zB yT (zB Ţ (Γ (Ζ (z8 5))))) Íc),(if 2*y<4294967296 then y else y-4294967296),((Áb (sIx ì 0 lo)).take (sIx ì ì hi-sIx ì 0 lo)),(A.under (.builtin "type.__call__" ⟨.ref C::us,a⟩)),(.tup [.str k,.int (d:Int),.int n]),(ħb ĉa "values" Ô (eval ĉa Ô)=eval ĉa Ô),[À (Â,.lst a),À (Â,.dic b c),À (Â,r)],[rows.getD k .zE,.int ((k:Int)+1),tgs.getD k .zE],(if i<0 then(i+(n:Int)).toNat else min i.toNat n),[.int (i:Int),tgt Ï[i]],(x+(n-x/2 ^ l.toNat%2 ^ d.toNat)*2 ^ l.toNat),(f.2 b (Æa (Ů (Ĝ e) (I.ok.VH x c C l)))),[.int 0,.int 5],[(B,wl g d p0),(v,wl g d p1),(x,wl g d p2)],(ĭb (λk' x=>if k'=k then v else x) ks vs),(if k=f then(k,v)::r else(k,x)::putF f v r),(if G b=Ä/\G' b≠Ä then Ä else G1 b),(ě ⟨_,rfl,ě h⟩),Nat.min_le_right,(À (Â,xM C T e fw fh sd due done)::τ),(À (.builtin "type.__getattribute__")),(by show c*134217728/16777216%8=0;omega),["_law_one","_law_other","_law_starts"],(tJ L P w K G g N c a f d A ÿ s H E),(f.2 b (Æa (Ů (Ĝ e) I.ok.above))),(À (.builtin "object.__setattr__")),(.Call (.Name "zip" p) [a,b] [] pos),Int.ofNat_le.mpr,(zB (zW xB xA zJ Į) zL),List.mem_reverse.mp,[.int (i:Int),x],(Ÿ λp=>if p.1=a then(a,b)else p),Array.mem_toList_iff.mpr,((ùa n).map λi=>A ê),((18+c)*134217728+m*16777216+d%32),((ùa ê).map λk=>D.str (nk k)),(y.toList.drop lo),PySem.F.slot_dict_getitem.lookup,(e2 zM (Λ (xV [ŀ] ş)) ńd),Nat.eq_zero_of_not_pos,(ýb [a] Ô=[(Â,č a Ô)]),(e1 (wB ul um) (eC (.str Üc))),(eC (.dic [] [])),Array.mem_of_getElem?,(rows.map tgt),(ţ q++(Ąb m (j-1)).reverse),(λa b h z=>h (Sum.inr.inj z)),(zA Îa (Α (e2 zM ċ Ų))),(yd X.K H p ys\/y_ X.K H p ys),(0<=x/\0<=l/\l<64/\0<=d/\d<64),((c==("__debug__" : Str))=Â),(.Slice lo hi Ä p2),((a 29+9*(i:Int))%26),PySem.wpAny_Call_method0_late,Array.perm_iff_toList_perm.mp,[xM C T e fw fh ôb due done],(.builtin "object.__class__"),(Λ (xV į "due")),(Θ (.obj C ąe [a,b,c,d])),(wV X ļ cl own C s H l pn),(st Ħ Â Â Â Ĩ Ń),[yN C T e fw fh s due done],(zi ū zh Į Ąa),PySem.wpAny_updateSeq_pair,List.length_eq_zero_iff.mp,(r.2.set a (À (.fz d1))),(.inl ⟨b,k,e,rfl,rfl⟩),(.For tg iter body [] pos),0,List.pairwise_reverse.mpr,Builtin.Slice.sliceAdjust,[À Ĵd,À Úc,À Ňd],(Ĵb (Čb x ń Ú f c)),(rI Tj λi j=>.int (i*j)),(f (.int i t) (.int j u)),(((1:Int)*2 ^ w-1)*2 ^ l),PySem.wpAny_pyIter_tuple,PySem.Calls.spliced_cons,List.mem_iff_getElem?.mp,(β.set i (À (.fz d))),(by rw[ç];exact e.len),(by rw[eq_of_beq e];rfl),(PySem.evalArgs_none ?_),(.tup [.str w,.str k,a]),Nat.testBit_mul_two_pow,List.length_pos_iff.mpr,List.filter_cons_of_pos,[.tup Ĥc,.int (n:Int)],(x/2 ^ l.toNat%2 ^ Ĵa),(k K i λv n m x r=>?_),(by show 2<=á;decide),(.ins C dx (fs.zip vs)),(.str "name"),PySem.wpAny_getItem_of,List.Perm.append_right,Array.getElem?_eq_none,(yZ (zY ya) É),(Φa (zO ľa) (zO yT)),(À (Â,.dic ks ds)),(zY (zY (zY (zY ya)))),0,(zO (zW tO jB zJ Ĉ)),(o++(ūb k i).reverse),(if x<z then z else x),(if f n then 2 else 1),(.BoolOp .And [a] pos),PySem.SeqAt.EqAt.same,PySem.F.slot_dict_get,List.Perm.append_left,[.int x,.int y,.bl p],(Ρ ((x+n)%65536+3)),(Ρ ((x+n)%65536+2)),(Ρ ((x+n)%65536+1)),(Ρ ((x+n)%65536+0)),(λz=>a (by simp[z])),(by show 1<30;decide),(by dsimp only;omega),(L.filter λd=>!xI d),(.BoolOp .Or [a] pos),[.int l,.int W],[D.bl a,.bl b,.bl c],(λx y=>D.tup [x,y]),(by rw[e];exact Ŭa),(.tup [kV f[i].1,u]),(.Subscript o i pos),(.BoolOp op [a] pos),s₂.heap.objs.size,PySem.wpAny_newList,PySem.wpAny_attempt,List.reverse_append,List.mem_filter.mpr,List.getElem_of_mem,List.getElem?_range,List.filterMap_cons,Int.toNat_of_nonneg,(vW kH kX rfl),[ōa,"one",ųd,ăa],(xv ws a b c hk hv),(by simpa using hv),(Nat.not_lt_zero _),(Nat.not_lt.mp hlt),((i:Int)+(m:Int)*1),"__getattribute__",decide_eq_true_iff,List.set_cons_succ,(ξa (ýb [] Ô)),(λ_ _ q=>ģ _ q),(by simpa using k),(by simpa using a),(by rw[ğ];omega),(.tup [row,nx,tg]),(tu xs lo hi),(rows.take d),Option.isSome_map,Nat.sub_pos_of_lt,Nat.lt_trichotomy,Nat.le_succ_of_le,List.reverse_perm,List.nodup_append,List.getElem?_set,List.Pairwise.nil,List.Pairwise.map,Array.toList_push,[.str w,.str Đb],[.str w,.str "d"],[.str k,.str "d"],(ŀe lo hi Ä n),(Čb b a Ú f d),(Ůf lo hi 1 ŋ),(λh=>by cases h),(zj ZT b rfl ŧb),(zW Zd Zc zJ Ė),(wd (JR (wH jE))),(Uy r Å Å ?_),(.yK o (.dK ňa)),(.tup (k.map kV)),(.str ⟨#[c]⟩),z.cps.toList,"fields_in_word",env.cells.lookup,d.heap.objs.size,X.s₀.heap.get?,X.env.scope.kind,Nat.max_eq_right,List.zipIdx_cons,List.map_fst_zip,Int.toNat_eq_max,Int.min_eq_right,A.heap.objs.size,[.fz (.lst þb)],(wL as ds ks es),(wL [] [] ks es),(gc Ï tgs é),(d b _ q λz=>z),(Str->Æ Value),(DG K t1 t2 a b),"table_of_rows","place_in_word",a.setIfInBounds,W.methodCall_KW,Nat.testBit_and,List.take_left',List.of_mem_zip,List.forIn_cons,List.foldl_cons,List.drop_left',Int.ediv_nonneg,[ōa,"one",ųd],[ů,"low",Ťd],[.int c,.int k],(Çe ĝ #[] 0),(Ŧd b o e n a),(σ++Ŷ n Ä),(xs.getD j .zE),(e2 zM ċ ň),(e2 qP źc Ă),(e2 ZM Ă Ča),(by rw[q];simp),(.tup [kV k,u]),(.dK (l.zip m)),"not_reaching","label_places","kind_of_code","is_near_code","distances_of","_law_cell_at",d.toArray.size,d.names.lookup,Nat.le_min.mpr,List.take_zero,List.take_take,List.drop_drop,Int.ofNat_zero,Builtin.bitXor,[kV kv.1,kv.2],[.int w,.bl u],[.int (n:Int)],[.int (c:Int)],(Α (eC Ō)),(ě (Ò ?_)),(τ.set i ŀd),(vW UF Ud rfl),(by rw[í,J]),(by rw[o];rfl),(by rw[J];rfl),(TP X z7 σ Q),(.obj x fs ms),(.builtin Úd),((ŷh).take m),sysModules,Array.getD,"word_of_row","with_number","moved_right","is_far_code","dict_values","__setattr__","__getitem__",s.heap.DictAt,p.toList.take,0,p.toList.drop,i.natAbs.log2,c.heap.DictOf,X.env.globals,W.plainGet_of,Paired.length,L2.isort_perm,Bool.or_false,(.lst ŋb),[ů,Ób,ņa],[ş,Ăb,ëa],[ş,Ła,Ħa],(Υb (.bl v)),(č ĭa Ô),(zr.near x z),(zV H5 D äd),(yQ a p fl g),(w/65536%256),(vV Ï zC i),(c*134217728),(XB a Ž H0),(D.bl (i==j)),(.mk e1 e2 d),(.Expr e pos),"words_from","word_fault","targets_of","moved_left","is_address","first_word","bytes_from",0,"address_of","address_in","_law_words","_law_pairs","_law_names","_law_mixed","_law_items","_law_drawn","_law_alike",seqIndex_neg,s2.heap.get?,l.row.toRowW,its'.toArray,h.IsListIter,concat_meets,WData.weight,SeqAt.RcNeAt,PySem.Within,PySem.W.Frag,Nat.zero_max,List.map_nil,List.any_map,E.ext.h.free,Code.isFrame,(ýb es Ô),(μa (i<=j)),(λ_ _=>rfl),(pairsOf vs),(n.mono d.g),(gallopOf s),(dJ Ï R i),(atKey xs k),(I.pO x c e),(21+(c:Int)),(.inl (A p)),(.Name x p2),((vK t a).2),(őf ĵb),(À Éa),"with_part","number_at","near_word","is_number","four_from","far_words","addresses","_law_word",seqIndex_of,a.names.all,W.specialIn,W.plainOver,W.kitx_list,W.emptyDict,Value.float,Reps.length,Int.pow_pos,D.TOi2.symm,(Ωa (Ūb)),(Ćb "q" j),(Íd _ É),(Β (i+j)),(žc _ É),(λx=>!x.1),(zA ċ zG),(zA ī zG),(wy X.K FF),(wp (xH a)),(w/256%256),(uM Xj øb),(ixN ď j),(.str w::_),(.rt m β2),(.list Âd),(.Name c p),((i:Int)+1),"unsigned","table_of","put_word","put_byte","pairs_of","max.loop","is_label","far_rows","bytes_of","_law_any","__name__",wpAny_call,wpAny_Name,typeLookup,typeIs_str,typeIs_int,tgs.length,scope.kind,es.toArray,c.zf.fresh,builtinsNs,acc.length,X.Pairwise,Walks.list,Value.type,Str.length,SeqAt.RcAt,OwnMs.snoc,OwnMs.join,I.ok.above,D.i1z.symm,D.TOz.symm,[.str ôc],[.str Ëa],[.lst þb],(Űe N vs),(Á M×M),(λ_=>ô),(zV H x o),(zV G p u),(xZ d1 d2),(pA 1 Žh),(eL FL fs),(by rw[h]),(acc++its),(Wg k=Ã),(.yK ob v),(.val İ),(.tup įl),(.tup ěe),(.tup Ŝh),(.tup Đl),(.tup Ĝc),(.str ęb),(.str Üc),(.str ßa),(.str "q"),(.str "n"),(.str "d"),(.lst Ï),(.int Óa),(.bl (!k)),((k,x)::r),"written","word_of","word_at","told_at","rows_of","look_at","is_pair","is_near","is_jump","held_in","code_in","byte_at",zs.length,tupleText,ps.take,o.reverse,eq_of_beq,cellsFrom,c.heap.Ns,as.length,a.size_eq,0,a.g.trans,WData.int,W.takerIn,W.readsIn,W.findCls,W.OpenLaw,PySem.Fin,IsTup.new,E.ext.new,[õc,Ťd],[ōa,Ÿd],[Ōa,ů],[Þc,Ťb],[ů,Ób],[ů,ņa],(ĵg ê),(ĉd čc),(ÿd r j),(Υb ïd),(Ε Ųf),(Ζ ŏh),(Æa ōc),(Γ Ķa),(Γ Řf),(Α đd),(Α Ůd),(Α ųf),(Ĉa _ z),(Ĉa _ d),(À Ĥl),(xs++[x]),0,(xF K uc),(xF K pQ),(xF K jN),(x-y-q<0),(x b u e),(x ^^^ y),(x &&& y),(wy K vQ),(wy K k5),(wy K k4),(wy K gz),(wy K gx),(wy K g_),(n*2 ^ l),(k.n X G),(f _ _ e),(d i q z),(Ut te t),(.v d::a),(.nx σ2),(.lst []),(.int 31),(.int 21),(ßc d),"walked","target","summed","signed","row_in","joined","far_at","do_row","behind",y.length,xO.focus,toString,tgs.getD,pick_run,o.toList,listText,k.length,its.size,h.DictAt,f.toList,e.isList,d.typeIs,d.extBut,b.h.free,Z.length,W.length,Reps.rep,OwnMs.Ru,I.ok.mod,G.length,["four"],(āb Up),(σ++τ),(xs++ys),(xf ċ),(xf ī),(wH Į),(uq ý),(tQ Ė),(qV q c),(py šb),(lo+y-1),(kv.1=k),(j3 ŗa),(ga Ím),(Mc h H),(DE K a),(DC K a),(D9 K a),(2 ^ 62),(.ref D),(.ref B),(.own d),(.int n),(.inl x),(.inl i),(.inl e),(.inl d),(.bl d'),(-16<=x),"taken","leads","count","added",wb.snoc,wb.mono,u_.near,setItem,propext,h1.get?,getAttr,e.pairs,d.mapOf,a.names,W.frame,Reps.S6,PySem.W,L3.getA,C.trans,Builtin,(Çh k),(üf k),(ĵg i),(Ám _),(ĸc f),(Šd h),(Űh d),(ħe _),(ĵa y),(Ôd c),(Ðd i),(ąb u),(ác j),(ßc i),(Ÿc n),(Ş _),(Æa c),(Ð g),(ï h),(Ŗ q),(Æ M),(À r),(À c),(xc 12),(x::xs),(x-y-q),(wI ys),(wH zJ),(n::ns),(lo σ),(j+1+m),(hi σ),(g b a),(f Ùf),(f v u),(eC UI),(b r.2),(DA ks),(C2/31),(B q c),"repr","part",uT.fin,s.mono,r.drop,q.mono,o.bind,ns.sum,m.mono,l.most,l.mono,j.mono,h.push,h.elim,g.get?,0,frames,d.kept,c.size,c.getD,bubble,b.Perm,Y.drop,W.item,O.heap,L2.ixN,J.keep,I.step,I.look,I.keep,E.back,D.l2TO,C.get?,B.kept,B.cell,A.cond,(z6 i),(yL b),(xc 3),(vP u),(uU m),(qv 3),(qv 2),(qC d),(mA f),(lo+y),(lo+j),0,(kV k),(kP u),(k'=k),(k σ),(jF g),(i::a),(ga l),(Ls i),(J_ K),[.str k,.int (d:Int),.int (s:Int)],[À (.fz d0),À (.fz d1),À (.fz d2),À (.fz d3),À (.fz d4),À (.fz d5),À (.fz d6),À (.fz d7),À (.fz d8),À (.fz d9),À (yN ú T n fw fh (st (wI h) Â Â Â Ĩ Ń) 0 0),À (yN ù U (A n) fw fh (st (wI h) Â Â Â Ĩ Ń) 0 0),À (.fz (.lst starts)),Ä,Ä],["_law_script","_law_start","_law_count","_law_cell","_law_names_here","_law_places","_law_rows"],(vR (Η (yk (i:=2) (show(w8 ["code","found"] ["kind"]).Nodup by decide +kernel) rfl Ü)) rfl),[.tup [.int ((x+0)%65536),.int (w%256)],.tup [.int ((x+1)%65536),.int (w/256%256)],.tup [.int ((x+2)%65536),.int (w/65536%256)],.tup [.int ((x+3)%65536),.int (w/16777216%256)]],[À (Â,.lst Ï),À (Â,.lst (Z.map λq=>.int (q.2:Int))),À (Â,.lst (Z.map λq=>.str q.1)),À (Ã,.lst L),À (Â,.int (i:Int)),Ä,Ä],["_law_rows","_law_places","_law_names_here","_law_items_here","_law_k"],(xU ⟨_,rfl,.inl rfl⟩ (xU ⟨_,rfl,.inr ĳ⟩ (xU ⟨_,rfl,.inr (.inr ĳ)⟩ (xU ⟨_,rfl,.inr (.inr (.inr rfl))⟩ YV)))),(.ins C dx (putF f w (fs.zip vs))),((p.setIfInBounds i (d,Èa+Y.length,N)).eraseIdxIfInBounds ê),[.int 0,.int 4294967295,.int 2147483648,.int 1,.int (u%7),.int (65530+u%12),.int (u*7%4294967296),.int (u*5%4294967296)],Heap.get?_update_other,[À (Â,.lst a),À (Â,.lst (yL zC)),À (Â,.lst (wW Ï ę)),À (Â,.dic K V),À (Â,.lst (yL ıd)),Ä],[À (Â,.lst j),À (Â,.lst (yL R)),À (Â,.lst (wW Ï (zc R))),À (Ã,.lst []),Ä,Ä],[À (Â,.lst a),À (Â,.lst (yL zC)),À (Â,.lst (wW Ï ę)),À (Â,.dic K V),Ä,Ä],[.str k,.int (d:Int),.int (n:Int)],[À (Â,.lst a),À (Â,.lst (yL zC)),À (Â,.lst (wW Ï ę)),À (Â,.dic K V),Ä],[.tup [.int g0,.int 0],.tup [.int g1,.int 8],.tup [.int g2,.int 16],.tup [.int g3,.int 24]],(a::b::rest),(λxs H Q=>(∃i,xs=[.int i]/\Q ôa H)\/∃k,xs=[.bl k]/\Q (Β (if k then 1 else 0)) H),(λq z w=>by rcases z with⟨z,_⟩|z;exact z;exact i q (t q z ((u q).mpr (.inr w)))),(λr s'=>r=.ok (.ret (.bool Ã))/\OldK c.heap s'.heap/\s'.os=c.os/\AllBare s'.gens),(zn (h pos g s σ H _ I i) λf a ⟨j,d,c,r,z,q⟩=>⟨by rw[<-áa];exact z,?_⟩),[À (Â,.lst a),À (Â,.lst (yL zC)),À (Â,.lst (wW Ï ę)),Ä,Ä,Ä],(vR (Τ (yk (i:=7) (show(w8 ăl [Ťb]).Nodup by decide +kernel) rfl Ü)) rfl),[.str k,.int (d:Int),.int (s:Int),.int n],[.tup [.str ăa,.bl Â],.tup [.str ŋa,.bl Â],.tup [.str "sign",.bl Â]],pendingOf,(s.heap.update a (Obj.mapSeq λ_=>#[])),(yU Ěc wn Ěa (zO yT) Ľ),(λc=>c.1=Ä/\∃y q g,st=yQ y q Ä g/\vh 0 q.toList y.toList/\y.Perm x),(zn (l pos c s σ H _ I h) λg m ⟨o,q,d,f,n⟩=>u c m σ q o g Q d f n),(by have:=Int.add_le_add_right (þa h) (n:Int);rwa [Int.zero_add]at this),[.int (x%256),.int (x/256%256),.int (x/65536%256),.int (x/16777216%256)],(λq z=>h q (Βa (s q z))),(.builtin "list.__iadd__"),[o0,o1,o2,o3,o4,À (Â,.int (g:Int)),o6,o7,o8,o9,o10,o11,o12,o13,o14],[À (Â,.int x),À (Â,.int (n:Int)),À (Â,.str k),Ä,Ä,Ä],[.fz T,.fz (.int e),.fz āa,.fz ãc],(l.map λp=>⟨PyData.keyHash w.params p.1,.str p.1 p.2.1,p.2.2⟩),[À (Â,.lst a),À (Â,.lst Ï),À (Ã,.dic [] []),Ä,Ä],(zn (n pos i s σ H _ I h) λv y ⟨z,B,c,r,q⟩=>⟨c.xY,?_⟩),(λr=>pure (.done (À r,e.2.1,e.2.2.1,e.2.2.2.1,e.2.2.2.2.1))),[.Name x p1,.Name y p2],(λxs H Q=>∃a kvs,xs=[V.ref a]/\Rd H a Ŀ/\Q (.int Ķ) H),(by first|exact Or.inl rfl|exact Or.inr Ü|exact Or.inr Éb),[.str w,.int d,.int n],[À (Â,.int x),À (Â,N),À (Â,.str k),Ä,Ä,Ä],[.int g0,.int (g1*256),.int (g2*65536),.int (g3*16777216)],(wN (zB (zi ū zh ōh (Ζ Ķa)) (zB Ţ (Γ Ąa))) Íc),[À (Â,.lst a),À (Â,.lst Øb),Ä,Ä,Ä,Ä,Ä],(.tup [.str k,d,s,n]),(.done (À (Zk a b (ţ q) i (j+1)),ţ q,i,j+1,g,k,u)),(.dic (xJ (yt ę) é) (xh (yt ę) (YY b) (Zq b) é)),[.str w,.int d,.int s,.int n],(if decide (0<=i)&&decide żc then 20 else 1000000000),[o0,o1,o2,o3,o4,b,a,o7,o8,o9,o10,o11,o12,o13,o14,Ä],(λr=>pure (.done (À r,d.2.1,d.2.2.1,d.2.2.2.1,g))),(zj L8 a rfl (zB (z8 10) (zB (z8 11) (Γ (z8 12))))),(if t then YL [.int x,.int n]else YM [.int x,.int n]),(.tup [.str "load",.int (d:Int),.int (s:Int),.int n]),((18+cJ Ĳ)*134217728+mJ Ĳ*16777216+dJ Ï R i%32),(Ε ((isort ns).map V.int)),(yV (i:=3) Uj.nd rfl Ü (zj LA b rfl (zB Ĉ ıb))),(xm (yU Wb WZ (zO Į) (zO vM) Ľ) (ze (yI vM)) wE),(.yield (Ä,e.2.1,e.2.2.1,e.2.2.2.1,e.2.2.2.2.1+1)),(jg (tR ű pY) (LX (zj ZQ b rfl ėc) (LX Źc qU))),(by show(c*134217728+d*16777216)/2097152%8=0;omega),(.tup [.str k,d,s]),(if v<0 then max (v+(n:Int)) 0 else min v (n:Int)),(.tup [.str řa,.int (d:Int),.int (s:Int),.int n]),(.tup [.str Řa,.int (d:Int),.int (s:Int),.int n]),(.tup [.str őa,.int (d:Int),.int (s:Int),.int n]),[(wl g d p0:Nat),(wl g d p1:Nat),(wl g d p2:Nat)],(λ_=>ñ ⟨_,rfl,X4.go ⟨d,h,f,by omega⟩⟩),(zn (j g s σ H _ I h) λv i ⟨x,f,e,k,d⟩=>?_),(if v<0 then(v+(n:Int)).toNat else min v.toNat n),(.Call (.Attribute ĉa "values" apos) [] [] cpos),["_law_name","_law_place"],(if zc zC i then 2 else 1),[ŀa,"_law_found",Ťb,"_law_way","_law_address"],[À (Â,.int c),À (Ã,.lst []),Ä,Ä,Ä],(W.fnOf x a (pq st) ía ń .none kV d h g b ct),(.Tuple [.Name x p1,.Name y p2,.Name z e] c pos),(((Ćb "q" a).cps++(lt k).cps)++(Ćb "q" b).cps),[À (yN C T e fw fh s1 d1 j1),À Úc,À Ňd],(zT Xk (zA (z6 10) (zA (z6 11) (Α (z6 12))))),(λi=>decide (0<=i)&&decide (i<1099511627776)),(by rw[I.ok.glob];exact I.mod.glob.keeps I.bk),(.tup [.str "copy",.int (d:Int),.int (s:Int)]),((β.set i (À (.fz x))).set j (À (.fz y))),[À (Â,.dic Ĩ Ń),À (Â,.int x),Ä],(zn (j g s σ H _ I h) λc i ⟨f,d,e⟩=>?_),(kvs.map λkv=>if kv.1=k then(kv.1,y)else kv),(f (E.go d) c λv y t o i=>q v _ _ (Ķc o) i),(assign (.Name x f) Ô),(Őd (Ò (Ĥb hz rfl (x:=.ref TO) rfl ?_))),(λq=>(o q/\¬ F q)\/((F q/\¬ L1 q)\/L2 q)),(tJ xC P w K mg Ç N c ń f g A ÿ s H E),(tJ xC P w K mg Ç N a ń f b A ÿ s H E),(W.fnOf x a (pq st) ía ń h kV d i g b ct),(W.fnOf m q (pq st) ía ń g kV d h c a ct),(Builtin.«zip.__next__» ⟨[.ref z],[]⟩),(.plain ⟨.Y7 â Å Å Å Å,nofun⟩),(.plain ⟨.Xb â Å Å Å Å,nofun⟩),(ħb ĉa Š Ô (č ĉa Ô)=č ĉa Ô),(zi (zg (zX a)) zh (wf Ĉ Xx) (wf Ĉ gE)),(zA (Λ (xV [ŀ] ëa)) (Α (zT YG Ĩc))),(yV (i:=2) Jq.nd rfl Ü (zj L9 b rfl ėc)),(if G p=Ä/\G' p≠Ä then Ä else G1 p),(by rw[q];exact List.mem_singleton.mpr rfl),(Builtin.Tuple.tupleItemsOf (.ref t) >>= _),(.tup [.str ķa,.int (d:Int),.int (s:Int)]),(.Call (.Attribute o ĸ apos) ė [] cpos),(zj ZS a rfl (Κ ĭc)),(tJ xC P w K mg a N x ń f c A ÿ s H E),(tJ xC P w K mg a N q ń f c A ÿ s H E),(s = ôc \/ s = ăa \/ s = Ëa \/ s = Ía),(if([]:Á Keyword).isEmpty then 0 else 1),(acc++(if k>0 then ", " else "" : Áa)++t),(ςa (λi j=>vw i+vw j<=134217728) (i*j)),(w8 [Š,"far","at"] ["number","target"]),(Zn (uv (Jx .list rfl rfl kz pH OY Ěa))),[.str w,.int d,.int s],(zB (wf Ĉ pY) (Γ (zj ZQ b rfl ėc))),(by show c*134217728/16777216%4=0;omega),(.dic (kP (Zf ps x w)) (vP (Zf ps x w))),(.Call (.Subscript ĉa k p2) ė [] pos),Array.Perm.refl,[.int (Τb (21+c)),.int (d%4294967296)],(Ŧa { cls:=.type Ź,Ą:=.dict #[] }),(wV X ļ cl own C s2 H2 fp (X.pn++z7)),(swapsWithSole [tg] e ķc Ô=pure Â),(qt 0 Ód (Vx (zT YG Ĩc) (Vx ŀf wU))),(W.fnOf ĸ c h i a dV kV B pm an d ct),(.tup [.str "set",.int (d:Int),.int n]),(.Attribute (.Name x p2) "values" apos),(wx (own:=[ōa]) rfl),PyProof.Rows.slot_tuple_getitem.lookup,[.int l,.int d],(zC++gF Ï zC),(λq a b=>dj q ((ïa).mpr (.inr a)) b),(zV (zV m i (.own y)) y (.ins C i [])),(tJ O P w K J l N g d f I A ÿ s H E),(a.pin (b,o) (Ža _ (Ža _ (Ld l e)))),(Z.pin (b,o) (Ža _ (Ža _ (Ld d e)))),(PySem.F.args_tuple_iterator_next_1 _),[st Ħ a b c Ĩ Ń,.fz (.tup ěe)],(ħb o ĸ Ô (č o Ô)=č o Ô),(if x∈cs then getA fs a f else Ä),0,(if k'=k then À v else Ā ks vs k),(f (E.go d) c λu p l=>q _ _ (Ķc l)),(.tup [.str àb,.int (d:Int),.int n]),(λ_ _ z=>nomatch z),Builtin.SmallTypes.ownedTupleHandOut,[Š,"far","twofold",ņa,"told",Ła],[i,l,À (Â,.int (n:Int)),m,t,j,u],(tryCatch (pyNext (.ref I)) _ >>= _),(if ns=[]then z else .int (maxI ns)),(backToKw cpos (keywordEach [] Ô)),(.ListComp g [⟨tg,b,f,0⟩] a pos),((Ĺ h).resolve_left λz=>c z.symm),(Õc (show uT _ _ _ _ _ from h).sx),(Θ (yN ú T e fw fh s due done)),(ζ (js t a b y) (Uq t a b (x+1))),(zn (b d s σ H Q I h) λc f e=>?_),(swappedStores [tg] e Ô=pure Ä),(!c.toArray.isEmpty&&ċe (Ĵe+Īc)),[.str Ëa,.str q.1],[.lst (zC.map λi:Nat=>D.tup Īe)],(Ûd y=À .cell\/Ûd y=À .free),(ςa (λ_ j=>0<j/\j<2 ^ 64) (i/j)),(Ĥb hz rfl (x:=.bool Â) rfl ?_),(g d c λx s l o=>q _ _ (Żb l) o),(c*134217728+d*16777216+s*2097152),(.str (Ćb "q" (a ŭb%4)++lt Çi)),PySem.F.entry_tuple_iterator_next,(λq z=>(ïa).mpr (.inr (s q z))),(λq z w=>B q ęe λE=>w (i q E)),(L2.isort (Äa λi:Nat=>(i:Int))),PySem.Calls.Name_function_global,0,[xM C T e fw fh (uU s) due done],[.tup R,.int (a+2),.int (a+Ŕh)],(Ĥb hz rfl (x:=.ref TI) rfl ?_),(λm j c f s o=>i m j c f ģl o),(λm c a b s o=>i m c a b ģl o),(g0+g1*256+g2*65536+g3*16777216),(e2 zM (Λ (xV [ŀ] Ăb)) Ñc),(Classical.choose_spec (qA c k)),[.own Łd,.fz Îb,.fz (.int w)],["_law_rows","_law_places",šf],(ςa (λ_ j=>0<=j) (i/2 ^ þd)),(Ĥb hz rfl (x:=.none) rfl ĵb),(ζ (ju t a b y) (Ur t a b x)),(λp=>if p.1=a then(a,b)else p),(zW Yv Yt (zW Zd Zc zJ Į) zJ),(st (wI g) r u t (kP e) (vP e)),(st (wI f) k s q (kP e) (vP e)),(rI Bg λi j=>.int (i*2 ^ þd)),(kvs.any λkv=>decide (kv.1=k)),(jq left (wJ f) λi=>K x (b+i)),(PySem.F.args_dict_get_3 _ _ _),(Nat.le_of_sub_eq_zero (źh c)),(.tup [.str w,.str k,.str q.1]),(.Assign [.Name x px] Ża spos),((σ++Ŷ 2 Ä).set i (À b)),(zW tO jB zJ Ė),(zW JX JU Ąa zJ),PySem.wpAny_comprehension_free,Array.perm_iff_toList_perm.mpr,[st Ħ a b c Ĩ Ń,.fz Ĳd],[b i,.int (A ê),tA A (tg i)],(ωa (zB (z8 7) (Γ (z8 6)))),(Θ (.obj ú ąe [a,b,c,d])),(λq z w=>t q z (Βa (j q w))),(λq z w=>B q (Βa (j q z)) w),(λb o f e=>(U.2 b f).trans e),(st Ħ a b c (kP qs) (vP qs)),(e2 zM (Λ (xV į àa)) Ìi),(X.take k++r.toList++Y.drop e),(PySem.F.args_tuple_add_2 _ _),(PySem.F.args_dict_values_1 _),List.eq_nil_of_length_eq_zero,(ą t==ťd),(δc (.bl (!decide (x=.zE)))),(Ĵ ŋ ŋ hi-Ĵ ŋ 0 lo),(Ĵ à à hi-Ĵ à 0 lo),(ĉ (x/2 ^ ((l:Int)).toNat)),(ĉ (g*2 ^ ((n:Int)).toNat)),(aG Å Å e (f i hi) h1 h2),(Na rfl Wt (zj JC b rfl ŧb)),(.tup [.int (i:Int),tgt Ĳ]),(.call (.ref S) ⟨óa,[]⟩),[.int (i:Int),v],List.pairwise_iff_getElem.mp,[À (Â,.lst ńf),Ä,Ä],[À (Â,.dic ġa ũa),Ä],[st Ħ a b c Ĩ Ń,.fz r],[st Ħ a b c hk hv,.fz Łc],[st Ħ a b c hk hv,.fz ŗh],[.str Ëa,.str Ía,.str ßa],[.str k,.int x,.int y,.bl a],[.str "d",.str "s",.str "n"],(űb e Ä ķc Ô=pure Â),(λc d k e=>g a f m c d k e),(w8 ["four"] ["byte","low"]),(if g=f then À u else i g),(List.eq_of_mem_replicate h),((ĝl).push (Çe ŧ Ŋa 0)),(!(Ŕf j i 0 Œa 1).isEmpty),Option.isSome_iff_exists.mp,Builtin.Builtins.bindParams,[àa,ėb,Ûc,ĩc,Ōa,"due"],(ħb e f Ô Śe=č e Ô),(À (yp K (.inl (i:Int)))),(λd1 d2 v=>On I n d1 d2 v),(zi ū zh (wf Ĉ tq) ľa),(zT vQ (vg ú ľb Ă zG)),(yP 3 (zT jQ (zA Ă ķb))),(e2 gJ (e2 uj ň ċ) ň),(call (.builtin a) (v::us)),(by rw[e];exact⟨_,l,q⟩),(Ue y l C hv ⟨A⟩ i a z),(.type "method_descriptor"),(.own (.dic (kP c) (vP c))),((wI ys).any λy=>xZ y Îb),(e2 uj ň ý),"dict_reverseitemiterator",Int.fdiv_eq_ediv_of_nonneg,Builtin.Slice.sliceApplied,Array.toList_setIfInBounds,(zi (zg (zX d)) zh Ė zJ),(vm (z8 8) (vm (z8 9) qU)),(vE (z6 8) (vE (z6 9) wU)),(seqItems? (.ref S) >>= _),(if Ōh=Ã then _ else _),(if p.1=a then(a,b)else p),(by rw[mirror_size];omega),(W.methodObj İ (.ref y)),PySem.F.entry_dict_values,(Ĵb (Čb q ń Ú f c)),(Ĵb (Čb c ń Ú f g)),(Ĵb (Čb a ń Ú f b)),(τ.set i (À (Ã,d'))),(λf vs=>PySem.call f vs),(rule "list.sort.gallop"),(e2 xP ġ (eC (.int 9))),(e2 qP (eC (.int 2)) ý),(cL Đ (λb a=>ÿc.1) k),(X.N.map (hide own)++own),(Nat.le_of_ble_eq_true z),(.ins C dx (putF f y fs)),(.Compare a [op] [b] pos),(.Attribute o "get" apos),((d.endLine==f.line)=Ã),(Ε (xs++zs)),(o q/\¬ L1 q),(L q/\¬ L1 q),slot_list_getitem.lookup,PySem.F.type_dict_values,PySem.F.slot_tuple_index,[.int x,.tup Ìm,.int n],[.int x,.tup şh,.int 0],(ςa (λ_ j=>0<j) (i%j)),(Λ (xV [ú,ù] Ōa)),(ţ q++Ąb Ùa (j+1+m)),(xs.drop (Ĵ à 0 lo)),(e1 (wB ul um) (eC ïc)),(c*134217728+m*16777216),(by rw[k];simpa using m),(bn b f Å Å Å Å),(args_tuple_getitem _ _),(Option.map (λx=>!x) y),(.tup [.str Ëa,.int p]),(("q" : Str).length<=16),"itertools.zip_longest",PySem.F.slot_dict_items,PySem.F.plainAttrs_list,PySem.F.entry_tuple_add,Nat.testBit_mod_two_pow,Nat.testBit_div_two_pow,List.mem_iff_getElem.mp,List.getElem?_replicate,List.filter_eq_self.mpr,List.filter_cons_of_neg,Builtin.Dict.updateFrom,[.int a,.int (XC ps a)],(Ζ (zW tO Lg Ţ zJ)),(λx l r Q c T L J=>?_),(λd=>.tup [d,.bl Ã]),(by rw[u7 Å];exact w),(U7 (w := Ëa) rfl rfl),(List.take_sublist _ _),(À (Â,d)),"WordMachine.__init__",wpAny_pyNext_list_item,PySem.F.slot_tuple_add,PySem.F.entry_max_loop,PySem.F.entry_dict_get,PyProof.Rows.bitAnd_pp,0,List.pairwise_cons.mpr,List.getElem?_set_self,[.str w,.str k,.str t],(λq z=>(ïa).mpr ðd),(λc=>MP x (z+1) c st),(λb o g e=>O b o g e),(λb o f e=>Q b o f e),(zF.filter λd=>!xI d),(yq (qF J6 b rfl Ůb)),(yU Wb WZ Ěa þc Ľ),(xV ["State"] "words"),(rI C λi j=>.int Ôb),(o.trans (Ŋb e.gh i)),(n.trans (Ŋb e.gh j)),(g pos a j σ l _ c k),(by have:=g q h;omega),(MM a b (ţ q) i ìb),(.While c body [] pos),(.Subscript ĭa k ĩa),(.Subscript a Æi pos),((ps++[(a,f)]).map pD),"RowMachine.__init__",wpAny_pyNext_list_end,X.s₀.heap.FunFrames,Std.Legacy.Range.size,PyProof.Rows.wpS_lift,Nat.add_lt_of_lt_sub',List.Pairwise.sublist,Int.mul_ediv_add_emod,[àa,ėb,Ûc,ĩc,Ōa],[.ref I,.none,.ref S],0,[.dic Ĩ Ń,.int x],(Çe ĝ d.toArray 0),(ýg++(ßc i).take 1),(λo v z=>by cases z),(λi=>a.getD i .none),(x.above y c (Ũf h)),(uN (tE ċ) ň ī),(qV (u.tF b c v q) d),(f.trans (j.trans n)),(by simpa using this),(by rw[yB z];exact c),(by rw[l,g];exact hz),(bV I o n hf e d g i),(MQ D.l2i2 J.toArray),(MQ D.l1i1 L.toArray),(F.args_zip_next_1 _),(.Pass ⟨0,0,0,0⟩),(.Attribute o f tpos),"str_ascii_iterator","itertools.pairwise",wpAny_loadName_local,Nat.eq_of_testBit_eq,Nat.add_le_of_le_sub,List.getElem?_set_ne,Calls.evalArgs_plain,Array.toList_reverse,Array.toArray_toList,[⟨À ĸe,e,kp⟩],[.Attribute o f ĩa],["one",ųd,"borrow"],(υ (W6 .list Ă)),(Γ (vW Qw Jf rfl)),(Γ (vW Qv Je rfl)),(λz=>e (a.trans z)),(λxs z=>by cases z),(λq z=>j q (i q z)),(zB Ķa (zB Ñi zL)),(zA ġ (zA çg zG)),(xZ x y&&dEqs xs ys),(tE (e2 ZM ċ Ča)),(if k then 1 else 0),(if a then 1 else 0),(by rw[ŭ];exact b),(by rw[ğ]<;>omega),(by rw[ç];exact c),(Zl a b Îe (i-1) j),(WM I k i hv ?_ j a),(Nat.le_add_left ..),(.inr (j q (i q z))),(.Subscript o k ĩa),(.Subscript a b pos),(.Call c ė [] pos),(.Attribute o f ĩa),(.Assign [tg] e pos),((τ.take k).map jd),((d q).mpr (.inl c)),"dict_itemiterator","Machine.registers",z.cps.toList.length,wpAny_loadName_cell,entry_tuple_getitem,beq_eq_false_iff_ne,Nat.sub_le_sub_left,Nat.log2_lt,List.mem_map_of_mem,Heap.SameBut.update,[ů,"low",Ťd,ņa],[.str "d",.str "s"],[.str "d",.str "n"],[.at [ú,ù] ĩc],[.at [ú,ù] Ûc],(ξc (.Name Àc p)),(ξc (.Name çc p)),(ξb (d.lst i Ãb)),(Δa (À (Ã,a))),(Χb (.Name Ŵb p)),(Χb (.Name Ź p)),(δc (Ψa (x=.zE))),(Ε (Ωa (Ďc a))),(ùa (min à Űa)),(ģ _ (ģ _ ůd)),(λx l r Q c q=>?_),(wN (zB yT zL) ói),(vn ps İc (v%256)),(storeName Ô x u),(qb λi j=>.bl Ôb),(qV (u.tZ b e q) d),(qE (uv Į) zJ zJ),(intBits_le_64 a b),(hv b s σ H _ I h),(f x y&&pp f xs ys),(by simpa using hu),(by simpa using h2),(by simpa using e2),(by simpa using e1),(by show m<4;omega),(N d (Ľd (ſc a))),(.tup (p.1.map kV)),(.str (qC d).shown),(.ret (.int j Č)),(.Tuple Ĭl kk pos),(.Tuple elts kk tp),(.Assign Šf v pos),(.Assign ŗf v pos),(ks.map kV),"internal:collect","dict.update.loop","Machine.__init__",s.heap.IsTupleIter,of_decide_eq_false,getattributeRaised,SeqAt.EqAt.str_int,SeqAt.EqAt.of_refs,SeqAt.EqAt.int_str,Obj.data_mapFields,Nat.lt_of_le_of_ne,List.zip_nil_right,List.getElem?_take,Int.mul_emod_right,[Þc,"_law_start"],[.lst ws,.int æb],(χ (zB Į ñc)),(δ (zA ċ ŉc)),(Ĉd (èb b.gh c)),(Äa λi=>Ìa æb),(Λ (xV į Ōa)),(ąb (èb c.gh f)),(ξa (ýb es env)),(À (.Name x px)),(λv _=>v=.bl Ã),(λb u q=>ģ _ q),(λb u e=>ģ _ e),(λ_ h=>Û h â),(λC s H c b=>Ė),(β.set i (À a)),(zi ū zh Ąa zJ),(zi ū zh Ĉ zJ),(zW xB xA Ĉ Ė),(zW eJ eE Ĉ Ė),(yP 2 (zT YN Ĩc)),(yP 2 (zT Vd Ĩc)),(wL [] [] p.1 p.2),(i a s σ H _ I h),(f g s σ H _ I h),(by simpa using t),(by simpa using g),(by simpa using G),(by rw[ž,u];rfl),(by rw[í];omega),(by rw[z];exact a),(by rw[lj];decide),(by rw[j];exact R),(by rw[j];exact B),(ZF (β.take ă)),(Mv t1 t2 h l1 l2),(Mu t1 t2 h l1 l2),(MH a b Îe ê j),(.Tuple Ĭl c pos),(.Tuple es x1 pos),0,(.IfExp c a b pos),((c+7919*k)*48271),((a:Int)==(n:Int)),wpAny_sequenceKey,wpAny_pyIter_enum,wpAny_assign_Name,meets_dict_values,decide_eq_true_eq,d.zf.fresh,d.params.defaults,Value.isInt_shape,Nat.add_sub_of_le,List.getElem_take,List.getElem_drop,List.any_eq_false,Heap.get?_push_ne,Calls.spliced_nil,Array.size_append,[ņa,Ťd,"power"],[.str w,.str "s"],[.str w,.str "n"],[.str k,.str "s"],[.str k,.str "n"],(ļa i q (I q z)),(ôg b o e n F t),(Čb g d Ú f I),(τ++Ŷ ŝb Ä),(λx=>x.1.isSome),(λi=>c.getD i 0),(zj JE b rfl ŧb),(zW xX xW Ĉ zJ),0,(zW xB xA zJ įg),(zV a p (.lst c)),(y.toList.map wJ),(x.toList.map wJ),(vL (s.free t) _),(vL (c.free m) _),(i<1099511627776),(eC (.int 65536)),(by rw[c];decide),(by rw[aD];omega),(List.cons.inj a),(.tbl (ps++more)),(.builtin "repr"),(.Tuple es k pos),(.Dict [] [] pos),((a:Int)<(p:Int)),(λC s H d b=>uw),"odict_iterator","State.__init__","REGISTER_COUNT","Machine.stands","Machine.memory",z.cps.toList.map,wpAny_pyIter_zip,wpAny_execs_cons,noFill_tuple_add,i.heap.objs.size,fillsInplaceSlot,e.heap.objs.size,W.cellsFrom_some,Option.getD_none,Nat.zero_testBit,Nat.succ_lt_succ,List.drop_length,List.all_eq_true,Heap.size_update,F.entry_zip_next,[x0,x1,x2,x3,x4],[.int 27,.int 5],(λz=>Û rfl z),(λz=>h (èc z)),(λq=>nomatch q),(λq z=>h q űe),(yQ x Ċl Ä g),(wL [] [] ks us),(p i q/\¬ L1 q),(by simp[Íj,c]),(a.symm.trans e),(ZF (β.take b)),(.tup [Ęa,ïi]),(.obj C ąe ħl),(.int (q.2:Int)),(.inr ⟨i,e⟩),(.inl ⟨z,w⟩),(.inl ⟨i,e⟩),(.inl ⟨c,w⟩),(.done (Ä,())),(.cons rfl .nil),(.builtin "sum"),(.builtin "all"),((ŋe).length=n),"type.__call__","list_iterator","NUMBER_WIDTHS","Machine.steps","Machine.place","Machine.marks","Machine.again",wpAny_loadPart',sc.names.lookup,noFill_list_add,g.isList.typeIs,Option.map_some,List.zipIdx_nil,List.nil_append,List.filter_map,Heap.DictOf.new,F.slot_int_rmul,[.int a,.int f],[.int 0,.int W],[.int 0,.int 8],[.at [ŀ] Ăb],(Çe ĝ #[] c),(Ο (Α ńd)),(νc (ûf ê)),(äc (łd Ċd)),(Ε (xs++[y])),(ĥc (Åa x z)),(Β (i+b2i k)),(Β (XC ps a)),(ýb [e,f] Ô),(νa (Γ đm)),(σ++Ŷ 1 Ä),(β++[À úf]),(xh A b tg ê),(vx ks ms k m2),(vm (z8 14) qU),(vE (z6 14) wU),(u.g.trans e.g),(q _ _ _ d rfl),(h.swap.pa e c),(f x (Ä,l,r)),(eC (.int 256)),(e2 zM ġ ī),(e2 zM ċ Ų),(e2 yW Ă ý),(e2 Qq Ă ý),(e.2.2.2.2.1+1),(cU λi j=>i+j),(by simp;omega),(by kernel_rfl),(Us (qv 4) Ķa),(Rd.tw t Ûm q),(Nu sp [] E0 t),(Lz .word h e2),(LU I l j ?_ a),(K.ext.trans x),(I.ok.VM b o e),(2*n<1*2 ^ Ĵa),(.yK o (.dK l)),(.bl (yp ks k)),((ïa).mpr Ŀb),((u p).mpr rfl),(Η èe),"str_iterator","Machine.step","ADDRESS_BITS",wpAny_setField,wpAny_newTuple,sliceRange_one,slicePart_none,recursionLimit,firstArgMember,env.scope.kind,c.resolve_left,Value.type.inj,PyData.keyHash,Nat.add_le_add,List.nodup_nil,List.forIn_nil,List.drop_zero,L.toArray.size,J.toArray.size,[Š,"places"],[.dic Ĩ Ń],["_law_place"],(őb [:n] c f),(Çg tg ăb u),(Ĳe (Ä,())),(ŋd [tg] Ô),(ą Ĥa::Íe),(Á V×Á D),(λi=>Ĺg i 0),(β'++[À m]),(yt ę i+Ől),(yQ x p Ä g),(xD x&&Ēd xD),(x/16777216%4),(x-y-qY Â<0),0,(wz d&&êb ds),(wK Ï R ê),(wC ks ds x y),(vW Qx Jg rfl),(vW Ox Lp rfl),(vL (Ŝe j) _),(vL (Ŝe i) _),(pre_splitW c),(p7 fs vs f w),(p7 fs ms f e),(l.lst hl Ãb),(gc Ï tgs n),(eC (.int 40)),(d2 q (G▸f)),(d.lst hl Ãb),(by size_fits),(b.getD j .zE),(a.getD i Â),(St->Hp->Prop),(Lz .row h e1),(H _ _ Å ?_),(AP X z7 σ Q),(.int Ôb Č),(.int (z:Int)),(.int (w:Int)),(.int (n:Nat)),(.ins C dx []),(.builtin çb),(.List es pos),"list.append","_law_number",0,"Machine.run",x.toList.drop,tupleItemsOf_,swapsWithSole,swappedStores,subscriptTail,seq_tuple_add,s.heap.IsList,s.heap.IsCell,r.length.symm,listUpdate_at,h.IsTupleIter,evalPart_none,call_list_seq,WData.layable,Value.isStrOf,NameKind.free,NameKind.cell,List.take_nil,Int.mul_assoc,Int.add_assoc,[íe,ųd,ăa],[Ëa,Ía,ßa],[àa,ėb,Ûc],[ů,ōa,Ÿd],[ŀa,Ťb,šf],[z,TI,TO,B,r],[D1,.tup āl],["_law_pair"],(ζa (Ňb f)),(ļa i q űe),(Öe Æf İ),(õd _ _ r x),(νc (ûf i)),(Żb (Ķc m)),(ųh (žh a)),(č ýa Ô),(ŋd ė Ô),(Ŧb (óg _)),(Β (2 ^ w)),(σ++[À b]),(λj o=>j++o),(zV H' a Ŀ),(zV H' D äd),(zV G' a Ŀ),(zO (yq Æd)),(xx.size-1+1),(xh A b tg i),(wK Ï zC i),(vx A a k m'),(vn ps x áe),(ps++[(a,b)]),(jh r.2 i π),(j p (i p w)),(dunderI Ša),(dJ Ï zC i),(b.gh.free c),(Zi 4 kE Îa),(Zf ps İc v),(ZZ kvs more),(Ya xs lo hi),(XC ps a≠0),(Wq (K:=K) e),(WR (xf çg)),(L++[gR q.1]),(H _ _ lo ?_),(EP X c σ Q),(.str s t::r),(.str (nk i)),(.str (i++j)),(.Name çb p),(.Name ĝ p),((é:Int)+1),((n:Int)*8+d),((k:Int)*ěc),"dict_items","NUMBER_LOW","NEAR_CODES",s.cps.toList,mul_one_list,e2.length_eq,c.toList.any,c.symm.trans,W.kitx_tuple,OwnMs.length,Nat.succ_pos,Nat.sub_zero,Nat.mul_comm,Nat.lt_asymm,Nat.add_zero,K.ext.h.free,Int.zero_add,Int.sub_zero,Int.max_comm,Int.add_comm,Array.toList,[Ćc tg Ô],(ĸg (tT g)),(đe++ßc d),(Ε (x::r)),(ċa .NotEq),(Ŷ Ũ xs),(λx v h=>h),(λi v h=>h),(λc=>p Ćf),(λb v h=>h),(zV H l Ūm),(zV H l ųe),(zV H l Ŀl),(zV H l äd),(zB Ţ Ŧe),(zB Į üg),(zB Ė ıb),(yQ y p f g),(xD m&&xD l),(x.rebase y),(wI (LZ ps)),(w8 ćl ŏl),(uo ī Ħc),(tC (.ty T)),(qu ę Ìh),(p9 fs fg g),(p8 m π m2),(p8 P π m2),(p.bs b o e),(okb.Tc b d),(newList []),(loop _ rfl),(k.append o),(i+1+1==ì),(d.down ēa),(by rw[<-z]),(by exact O),(by exact A),(by cases h),(bo É É),(a.map V.bl),(a (qd r.2)),(WB X.K n t),(U5 z lo hi),(Mt t1 h l1),(I.XX x c e),(DF a o kvs),(DB a o kvs),(30+(k:Int)),(18+(c:Int)),(.type T.nm),(.tup [ïi]),(.tup [v,u]),(.tup [u,v]),(.tab ks ms),(.ret .none),(.dic ks ds),(.builtin j),"distances","_law_some","_law_mark","WORD_BITS","NEAR_BACK",0,"FAR_CODES","BYTE_LOWS","BYTE_BITS",wpAny_in_of,unsupported,subscripted,seqEpoch_at,o.ExactDict,mirror_perm,len_mul_leN,keywordEach,interactive,i.objs.size,c.objs.size,binarySort',acc.toArray,W.kitx_dict,Value.isInt,Value.bytes,Sum.inr.inj,Shared.heap,Reps.append,Paired.snoc,OwnMs.split,Option.none,Nat.sub_sub,IsRangeIter,I.ok.pP.mem,I.ok.frames,Heap.ExtBut,F.heap.get?,0,E.ext.trans,D.TOi1.symm,Code.guards,Code.frames,Builtin.Str,[a,.fz Ņl],[a,.fz Ĵl],[S,.fz Ņl],[S,.fz Ĵl],["key",ĸe],(ļa n q z),(ļa n q c),(Ωa (Ŵh)),(Ψa (i=j)),(č o Ô),(č e env),(č a Ô),(Γa (i-j)),(Ćb "q" b),(Ćb "q" a),(Ąb m ìb),(Β (c%5)),(Žc Ťh b),(Ža _ Ŏ),(Ġ o É),(Ů ōc f),(Ŷ k its),(À (_,d)),(zV H' D o),(zV H x o'),(zV H a u'),(zT Vn õb),(zT Vc ķb),(zB Żf zL),(zB œh zL),(zA ĩe zG),(zA Ų zG),(y j q p z),(wf Ĉ gE),(wM ks Çf),(wG I q ?_),(q _ _ e d),(n=0->v=dv),(ks.map UN),(j.cut l h),(i.cut l h),(fs.zip vs),(eL tL øb),(as.zip vs),(X_ F g g'),(W.sub _ h),(W.len Ċ),(SP X z7 D),(Eu f y fs),(8*2097152),(.yK o Ğa),(.type ĺa),(.rt Ã d),(.ok .next),(.int done),(.Name x f),((n:Int)+1),((j:Int)+1),((j+k:Nat)),z.cps.size,wpAny_load,uf.none_of,size_push',pushGuards,piled_cons,out.toList,m.zf.fresh,l.swap.fin,isTrue_and,f.zf.fresh,closureFor,beq_iff_eq,b.Pairwise,WShape.has,W.handedIn,Subscript_,PlainAttrs,OwnMs.putF,D.i2z.symm,D.i12.symm,[p0,p1,p2],["_law_k"],(Ïg C dx),(Ğe e ?_),(ůa<1000),(įb this),(Ŷ k xs),(à==Űa),(Ã==Ã),(Ú==Ìj),(λv h=>h),(λ_=>#[]),(zV H a d),(zV H T o),(zV H D o),(zV G p o),(zC++g zC),(zB zJ zL),(yP 2 ōm),(yP 2 ī),(xJ A ê),(xE b=Ã),(wW Ï f),(wB gK gM),(wB ZP kK),(wB ZO kJ),(vn c u v),(v_ ńi i),(u8 śc g),(u5 its k),(truthy v),(pA 3 ċd),(o.getD d),(n b ob e),(j+1==ũ),(hb _ _ e),(fj Y c h),(d.db Ãb),(d.da Ãb),(by rw[c]),(arrOf st),(aq P Å),(a.d4 X G),(Ze ks ds),(ZX l rfl),(ZX j rfl),(Y.pl q h),(XX y c e),(Wg b=Ã),(P.zip vs),(JJ Đ n),(Hp->Prop),(Gj e=Ã),(2 ^ 63-1),(.tup Šn),(.tup Ĭm),(.tup Īi),(.tup êm),(.tup Ċi),(.tup Ìm),(.tup żl),(.tup ķl),(.tup Ěl),(.str şa),(.str ĳd),(.str x t),(.str "s"),(.ref Łe),(.ref Âb),(.lst ďk),(.int ěc),(.int ŋ),(.int à),(.int 500),0,(.inr ųa),(.inr ŋa),(.inr ăa),(.inl æb),(.inl p.1),"NEAR_ON","Machine",zF.length,zC.length,z.sameBut,spos.line,sortRuns',slicePick,sh.extBut,sg.extBut,s.heap.Ns,ru.length,qs.length,ok.frames,maxI_uniq,l.swap.sa,kvs.foldl,k.toArray,isTrue_or,h.swap.ca,h.IsTuple,h.DictOfH,getMethod,g.toArray,g.isEmpty,g.gh.free,0,es.length,countRun',cond_true,c.g.trans,Str.empty,Reps.take,Reps.getK,Reps.getA,Reps.drop,Q.toArray,I.zf.kept,Decidable,Arguments,[Ħa,Ŵa],[àa,ėb],[ş,Ăb],[ş,Ła],[x,y,z,u],[w,x,y,z],[v,ov,iv],[a,.fz r],[.lst zF],["field"],["State"],(ñh n y),(Ðk ê),(ðh ăb),(ào Ċ),(ąf Łe),(ķn Å),(Ĺg i 0),(Ģm=Ã),(ĉd ą),(Εb Ŭm),(Εb ūm),(Śc s h),(Δa Ðn),(Ŋb s t),(δb Ģm),(Γa Ôb),(Ĳa<=16),(Τb Ēf),(Τb ēd),(Κ ĭc),(Ε âe),(Ε īi),(Ε đe),(μ Ğj),(Β Ôb),(ċa .Eq),(Δ Ţ),(Ζ Ēm),(Ζ Ķa),(Ζ Ąa),(Ξa Òb),(Ξa Ěa),(Γ ųl),(Γ Żf),(Åa _ _),(Η Ķa),(ùa Āb),(Α Űd),(Α ĩe),(Α Ĝe),(Ŋ c.1),(ģ _ f),(ě ĵb),(ě Ťh),(Ò ĝj),(À Šl),(zc zC i),(zA f fs),(xF K Xf),(xF K VY),(xF K VX),(xF K VW),(x/2 ^ l),(x a o e),(wM ks x),(u5 [] 0),(st::sts),(q _ _ d),(pyTs ds),(pf F fa),(o++x++y),(k K b z),(jp E.XV),(h r g f),(d+k+x.2),(cut H L),(c _ _ e),(a++[yv]),(ZZ [] c),(W.l▸e),(OD lo n),(F.n X G),(F b o e),(B q ðd),(B q ĳb),(2 ^ w-1),(.tup []),(.rt o d),(.ref YD),(.ref YC),(.ref YB),(.ref VT),(.ref VS),(.ref VQ),(.ref VP),(.ok Åf),(.nx σ'),(.nx β'),(.nx r.2),(.lst vs),(.int g0),(.int C2),(.fz àj),(.dK ňa),((i:Int)),(x==("__debug__" : Str)),(tR ű w6),(qZ (xH b)),(by cases y<;>exact c),(.fz (.int ((k+z:Nat):Int))),(tR ű tq),(wx (own:=[Đb]) rfl),(vm Į (vm Ţ qU)),(vE ċ (vE ġ wU)),(λd=>À (Â,d))],[(zA ἀ zG),(.int ἀ),(zB ἀ zL),(ze (yI ἀ)),(.lst ἀ),(zW xX xW ἀ zJ),(λC s H c b=>ἀ),(À ἀ::rest),(zA (eC ἀ) (zA ἁ ἂ)),(zB Ĉ ἀ),(e1 ἀ Ă),(yP 2 ἀ),(.nx (Θ ἀ)),(zA Ă ἀ),(zA ċ ἀ),0,(ἀ%65536),0,0,(λC s H d c=>ἀ),(zb (xm ἀ ἁ wE) (Δ ἂ)),(ze (jH ἀ)),(zA Ă (Α ἀ)),(zT uH (Χ ἀ)),(yF (wA ἀ)),0,0,0,0,0,0,0,0,0,(zV H p ἀ),(zA ý ἀ),(ut ἀ Zh),(λr st=>∃g,st=yQ a0 p0 f0 g/\jG ἀ ἁ r),(wd (Yq Űr ľa ἀ)),(zA ἀ zG),(zB ἀ zL),0,0,(σ.set i ἀ),(zb (Zm Îc rfl ἀ ἁ ἂ) (ze ἃ)),(xS ἀ λc=>?_),(yU űr qX ἀ ἁ Ľ),0,0,(zW xB xA ἀ ἁ),0,0,(gb (tE ἀ)),0,(zB Ė ἀ),(zA ī ἀ),(kR 0 [.at [ŀ] ş] Ñc ἀ),(PyProof.Rows.wpS_modify ἀ),((u q).mpr (.inr ἀ)),(qb λi j=>.int ἀ),(.nx (μ ἀ)),(Υc (Νa ἀ)),(ě (Ò ἀ)),(xm ἀ Wn wE),(wd (gS ἀ)),(wH (yq ἀ)),(Zn (uv ἀ)),(X6 (X5 ἀ ἁ)),(Uo ἀ rfl),(yk (i:=1) (show (ἀ).Nodup by decide +kernel) rfl Ü),(uu jc jj rfl vH pZ (uQ ἀ uR)),(PyProof.Rows.wpS_lift (PySem.wpAny_rule ⟨rfl,ã ἀ⟩)),0,(Zg (n:=2) rfl (ut ἀ ἁ)),0,0,(yU (qZ ἀ) qX (zO ἁ) (zO ἂ) Ľ),(Ò (PySem.wpAny_onRaise ἀ)),(yU Ěc wn ἀ ἁ Ľ),(λC s H fp pn=>Qe ἀ),(.bl (decide ἀ)),((ἀ).map ĉ),0,0,0,0,0,0,0,0,0,(vR (Τ ἀ) rfl),(zb (xm ἀ ἁ wE) (zb ἂ ἃ)),(tE (e2 xg ἀ ἁ)),(Čl _ _ ἀ),(Η (Zp ἀ)),(XA (tE ἀ)),(će ἀ ?_),0,0,(ui λi j=>decide ἀ),(Ζ (zj u3 b rfl (zB Ĉ ἀ))),(backTo pos ἀ),(WQ 0 [.at [ŀ] Ăb] (eC ἀ) (xf ἁ)),0,0,(rI ἀ λi j=>.int ἁ),0,0,(λc=>ñ ⟨g,rfl,ju.fin ἀ⟩),0,(qb λi j=>.bl (decide ἀ)),(À (Ã,.lst ἀ)),(wN (zB yT ἀ) Íc),(Uw ἀ ἁ ⟨l⟩ ?_ ?_ ?_),(λC s H fp pn=>Qd ἀ),(λC s H fp pn=>(ἀ).h),(Δ (wN ἀ Ģb)),(λq=>ἀ\/L2 q),(M9 (Ρa ἀ ἁ) rfl rfl),(tE (e2 zp Ă ἀ)),(e2 zp Şb (eC ἀ)),(JQ ņb Ŵr yT ἀ),(λC s H d b=>ἀ),(zA (wA ἀ) (Α ἁ)),(zj u3 b rfl ἀ),(gZ rfl uA ἀ),(e2 xP ἀ Ůd),(yk (i:=5) (show (ἀ).Nodup by decide +kernel) rfl Ü),0,(yk (i:=2) (show (ἀ).Nodup by decide +kernel) rfl Ü),0,0,(ἀ*134217728+m*16777216),(.str (qC ἀ).shown),(if (ἀ).length+(ἁ).length<=yY then _ else _),(.Call ἀ [e] [] pos),(űb v (À ἀ) ķc Ô=pure Â),(ID (i:=8) kY.nd rfl Ü (yq ἀ)),0,0,0,0,0,0,0,0,0,(λc=>ñ ⟨g,rfl,js.fin ἀ⟩),(if ἀ=Ã then _ else _),(e2 zM (vF ἀ) (e2 xP Îa ťb)),(NU Fy Gc rfl Zt OZ (zB ἀ zL)),(gS (WS WG b rfl (jg ű ἀ))),(wN (zB Į (zB Ěe ἀ)) Íc),(GZ G H ἀ y u v d Q s e f Ųr q),0,0,(zj ZR b rfl (Κ (Γ ἀ))),(tE (e2 zp (e1 ἀ ċ) Ă)),(λc=>ñ (h _ _ ἀ)),(zT uG (Χ (e1 ἀ Ĝe))),0,0,(qz (pf Xl (qt 0 [] ἀ))),0,0,(e2 zM (vF ἀ) (e2 xP ἁ Ħc)),0,(zj ZS b rfl (Κ ἀ)),(λC s H c a=>ἀ),(NX rfl rfl XF OX ἀ),(yF (e2 ἀ ý ċ)),(zi ū zh Į ἀ),(Η (Ιe éh ἀ)),(rU λi=>.int ἀ),(zj WH b rfl ἀ),(eL Yc (Α ἀ)),(eL W9 (Α ἀ)),(wA (Ι ἀ ġ ἁ)),(uQ (zO ἀ) uR),(ἀ%4294967296),(Fp ἀ rfl rfl),(γ (Ε ἀ)),(Łf (ã ἀ)),(vk 4 (xf ἀ)),(qD 8 (vF ἀ)),0,(e2 zM ċ ἀ),0,0,(.BoolOp .And ἀ pos),(vR (λC s H c b=>ἀ) rfl),(.BoolOp .Or ἀ pos),(uu (U2 b) UY rfl Zs U1 (uQ (zO ἀ) uR)),(λxs H Q=>(∃p ys,xs=[.ref p]/\ἀ/\Q ἁ H)\/∃z,xs=[.str z]/\ŋ<=á/\Q (.int ŋ) H),(uS Ěc wn (zO (zj tz b rfl ἀ)) (zO zJ) Ľ),0,0,0,0,0,0,0,0,0,(Lw I Å ἀ j k h λd1 d2 x y u v l f b d g=>Om I n A.in1 d1 d2 x y u v ἁ l f b d g),(λx y H Q=>y=.zE/\Q ἀ H),(Υc (yk (i:=15) (show (ἀ).Nodup by decide +kernel) rfl Ü)),(.nx [À (.own ἀ),À (.fz Îb),À Ĺe,À (.fz ἁ),À (.fz ἂ)]),(λx y H Q=>∃i j,x=.str i/\y=.str j/\Q (.bl ἀ) H),(yk (i:=6) (show (ἀ).Nodup by decide +kernel) rfl Ü),(yk (i:=3) (show (ἀ).Nodup by decide +kernel) rfl Ü),0,0,(uN (tE (e2 zp ý ī)) Ča (e2 zp (zT wZ ἀ) ň)),((ἀ).filter λd=>!xI d),(.Call ἀ [a] [] pos),(yV (i:=2) Ug.nd rfl Ü (zj Yk b rfl ἀ)),0,0,(e2 yW (eC ἀ) ċ),0,0,(.done (À ἀ,i,m,ţ q++(ἁ).reverse,g,k,j-1-m)),0,(λd=>match d with|.int j=>.int ἀ|d=>d),(ξ (λc=>ñ ⟨_,rfl,X4.fin ἀ⟩)),(ξ (λc=>ñ ⟨_,rfl,X1.fin ἀ⟩)),(Δ (uS (Wa ņb) WY Ěa (zO ἀ) Ðc)),(zi ū zh (yq (vX ἀ Íc)) (νa ůh)),(Γ (zW xB xA Ė (zj JB b rfl ἀ))),(PyProof.Rows.wpS_modify (ã ἀ)),(.done (À ἀ,i,j-1,ţ q,g,k,u)),(.Call ἀ [e] [] Úa),(zj tz b rfl (zB Į (zB zJ ἀ))),(.done (À ἀ,o++ūb i ἁ,i+k,j,g,k,u)),(λc=>ñ ⟨_,rfl,js.fin ἀ⟩),(zT uH (Ξ ἀ)),(Q w H->rU (λi=>.int ἀ) u H Q),(yq (vy rfl ŵr (tQ Ěi) (vR ἀ rfl) (λC s H c a=>uw) (ψb ἁ))),(λxs H Q=>∃p ys,xs=ýd/\ἀ),(qE (Φa Òb ýc) vM (Ωc ἀ)),(.nx [À ἀ,À Úc,À ųr]),0,(qt 0 [] (vE Ų (vE ἀ ŷr))),0,0,(Äc β i π (.obj x Ųe ἀ)),(λq z=>yB λc=>z ((ἀ).mpr c)),(zn ἀ λd g ⟨j,f,i⟩=>?_),(if (ἀ).length<yY then À ἁ else Ä),(Α (e2 yW ý (zT YO ἀ))),(λc=>ñ (C λp j q f=>éb ἀ ἁ)),0,0,0,0,0,0,0,0,0,(by rw[ŗ,<-ŗ ἀ,ža,ex]),(Fl.nx (τ.set i (ψa ἀ))),(Np đf (vy rfl Êm ἀ Ąl ἁ ųo)),(Äc r.2 i π (.own ἀ)),(λq z=>.inl ((ἀ).mpr z)),(yF (e2 t6 Ă (eC ἀ))),(ms.map À++Ŷ ἀ Ä),0,0,(eL kF (Α (zT k5 ἀ))),(Θa (Κe (vm ἀ Ŷr))),(Ω (Ο (zA Êg ἀ))),(λb o j e=>(ἀ).trans e),0,0,(Δ (zj tz b rfl ἀ)),0,0,(Α (zT Vm (δ ἀ))),0,(zj JD b rfl (χ ἀ)),(updateSeq S ἀ >>= _),(uS Ěc wn ἀ ñd Ľ),(òh Ÿr++Ŷ ἀ Ä),(zb (xm Ğl ἀ wE) (Υ Ğl ἁ ἂ)),(Κd (θ (ςc ἀ))),(Κd (Α (ςc ἀ))),(Τa Ēh (Χc ἀ) (Χc ἁ)),(zB ľa (zB Źc ἀ)),(zA Şb (zA ŀf ἀ)),(.Expr (Ζd ἀ) pos),(Zp (yU (wp ἀ) wn (zO ἁ) Ěa (yM _))),(dP (pl:=_) IN a rfl (jg ű (vm Ąa ἀ)))])
def q0 (h0:0=0:=by first|exact .inl rfl|exact .inr rfl|assumption)(h1:0=0:=by decide)(h2:0=0:=by intro _;rfl)(h3:0=0:=by rfl)(h4:0=0:=by first|exact Or.inl rfl|exact Or.inr Ü|exact Or.inr Éb)(h5:0=0:=by first|exact Ŭa|exact⟨rfl,Ŭa⟩|exact⟨rfl,rfl,Ŭa⟩|exact⟨rfl,rfl,rfl,Ŭa⟩|exact⟨rfl,rfl,rfl,rfl,Ŭa⟩)(h6:0=0:=by intros;exact λ_ _ _ _ _ _=>rfl):Ëc:=⟨⟩
def q7:=q0._auto_1
def q10:=q0._auto_2
def q11:=q0._auto_3
def q12:=q0._auto_4
def q13:=q0._auto_5
def q14:=q0._auto_6
def q15:=q0._auto_7
local macro_rules|`(tactic|omega)=>`(tactic|lia)
noncomputable section
namespace L2
open Ī ĺ ĭ
abbrev zU:=Sum Int Str
noncomputable def Yn:zU->Value->Í
 |.inl k,v=>éq k v|.inr x,v=>ćp x v
noncomputable def z4y(w:ß):zU->Int
 |.inl k=>hashInt k|.inr x=>hashStr w x
def kM:∀{k:zU}{v:Value},Yn k v=Ã->(∃i t,k=Ìa i/\v=òd i t)\/(∃x t,k=ňb x/\v=Ŋc x t)
 |.inl i,v,h=>by obtain⟨t,e⟩:=âo (k:=i) (v:=v) h;exact .inl ⟨i,t,rfl,e⟩
 |.inr x,v,h=>by obtain⟨t,e⟩:=Value.isStrOf_shape (x:=x) (v:=v) h;exact .inr ⟨x,t,rfl,e⟩
def z4z(i:Int)(t:Tok):Yn Ňk ňg=Ã:=by simp[Yn,éq]
theorem z50(x:Str)(t:Tok):Yn èh Îr=Ã:=by simp[Yn,ćp]
theorem z51(a b:Int):decide ((Ìa a:zU)=Ìa b)=(a==b):=by
 by_cases e:a=b;subst e;simp;have h:¬ (Ìa a:zU)=Ìa b:=λq=>e (èc q)
 rw[ć h];exact(ĝc e).symm
def z54(a b:Str):decide ((ňb a:zU)=ňb b)=decide (a=b):=by
 by_cases e:a=b;subst e;simp;have h:¬ (ňb a:zU)=ňb b:=λq=>e (ëq q)
 rw[ć h,ć e]
theorem z52(a:Int)(b:Str):decide ((Ìa a:zU)=ňb b)=Â:=ć ġo
def z53(a:Str)(b:Int):decide ((ňb a:zU)=Ìa b)=Â:=ć ġo
def yx(Ě:æ)(w:ß):PySem.KeyKind Ě w zU where
 is:=Yn
 hash:=z4y w
 inj:=λv a b f d=>by
  rcases kM f with⟨i,t,rfl,rfl⟩|⟨x,t,rfl,rfl⟩;rcases kM d with⟨j,u,rfl,e⟩|⟨y,u,rfl,e⟩;injection e with e1 _;rw[e1];exact nomatch e
  rcases kM d with⟨j,u,rfl,e⟩|⟨y,u,rfl,e⟩;exact nomatch e
  injection e with e1 _;rw[e1]
 byValue:=λk v h=>by rcases kM h with⟨i,t,rfl,rfl⟩|⟨x,t,rfl,rfl⟩<;>rfl
 pyHash:=λc h=>by rcases kM c with⟨i,t,rfl,rfl⟩|⟨x,t,rfl,rfl⟩;exact wpAny_pyHash_int h;exact wpAny_pyHash_str h
 eqBool:=λg c h=>by rcases kM g with⟨i,t,rfl,rfl⟩|⟨x,t,rfl,rfl⟩;rcases kM c with⟨j,u,rfl,rfl⟩|⟨y,u,rfl,rfl⟩;rw[z51]at h;exact wpAny_eqBool_int h;rw[z52]at h;exact ũn i t y u _ _ _ _ h;rcases kM c with⟨j,u,rfl,rfl⟩|⟨y,u,rfl,rfl⟩;rw[z53]at h;exact ŧn x t j u _ _ _ _ h;rw[z54]at h;exact wpAny_eqBool_str h
 «strs»:=λk x t v h=>by
  rcases kM h with⟨i,u,rfl,e⟩|⟨y,u,rfl,e⟩;exact nomatch e
  injection e with e1 _
  subst e1;cases v<;>rfl
def z6j(Ě:æ)(w:ß)(i:Int)(t:Tok):(ŭa).is Ňk ňg=Ã:=z4z i t
def GN(Ě:æ)(w:ß)(x:Str)(t:Tok):(ŭa).is èh Îr=Ã:=z50 x t
set_option genInjectivity true
inductive V where
 |zE|bl (b:Í)|int (i:Int)|str (x:Str)|byt (b:Ø UInt8)|XY (b:UInt64)|ref (a:È)|ty (n:Áa)
 deriving íc
set_option genInjectivity false
def zx:V->Value->Prop
 |.zE,u=>u=ťd|.bl b,u=>u=Ķg b|.int i,u=>∃t,u=òd i t|.str x,u=>∃t,u=Ŋc x t|.byt b,u=>∃t,u=êq b t|.XY b,u=>∃t,u=ĭj b t|.ref a,u=>u=ą a|.ty n,u=>u=śj n
abbrev zo:Á V->Á Value->Prop:=ĝd zx
theorem zo.length{xs:Á V}{us:Á Value}(r:zo xs us):à=š:=Ýj r
theorem zo.get:∀{xs:Á V}{us:Á Value}{i:Nat}{x:V},zo xs us->xs[i]?=À x->∃u,us[i]?=À u/\zx x u
 |_,_,_,_,.nil,e=>by simp at e|_,_,0,_,.cons r _,e=>by simp at e;subst e;exact⟨_,rfl,r⟩|_,_,i+1,x,.cons _ t,e=>by obtain⟨u,a,b⟩:=zo.get (i:=i) (x:=x) t ûb;exact⟨u,by simpa using a,b⟩
theorem zo.set{x:V}{u:Value}(r:zx x u):∀{xs:Á V}{us:Á Value}(i:Nat),zo xs us->zo ēg (us.set i u)
 |_,_,_,.nil=>.nil|_,_,0,.cons _ t=>.cons r t|_,_,i+1,.cons q t=>.cons q (zo.set r i t)
theorem Őg:∀{xs ys:Á V}{us ws:Á Value},zo xs us->zo ys ws->zo ık (us++ws)
 |_,_,_,_,.nil,s=>s|_,_,_,_,.cons r t,s=>.cons r (Őg t s)
theorem zo.take:∀{xs:Á V}{us:Á Value}(n:Nat),zo xs us->zo (xs.take n) (us.take n)
 |_,_,0,_=>.nil|_,_,_+1,.nil=>.nil|_,_,n+1,.cons r t=>.cons r (zo.take n t)
theorem zo.drop:∀{xs:Á V}{us:Á Value}(n:Nat),zo xs us->zo (xs.drop n) (us.drop n)
 |_,_,0,r=>r|_,_,_+1,.nil=>.nil|_,_,n+1,.cons _ t=>zo.drop n t
def uf:Æ V->Æ Value->Prop
 |À v,À u=>zx v u|Ä,Ä=>Ëc|_,_=>ô
def KV{κ:Type}:Á Þb->Á ſd->Prop:=ĝd λ(p:κ×V) (q:κ×Value)=>p.1=q.1/\zx p.2 q.2
noncomputable def kV:zU->V
 |.inl i=>.int i|.inr x=>.str x
inductive HO where
  |lst (xs:Á V)
  |tup (xs:Á V)
  |dK (kvs:Á ź)|dT (kvs:Á Ųb)
  |set (S:Int->Í) (n:Nat)
  |ins (C dx:È) (fs:Á ſb)
  |own (x:È)
  |xd (fs:Á ſb)
  |met (f x:È)
  |rng (lo hi:Int)
  |yK (o:Obj) (u:HO)
  |tbl (ps:Ø Value)
  |ext (φ:Heap->Prop)
abbrev Hp:=È->Æ HO
noncomputable def zV(H:Hp)(a:È)(o:HO):Hp:=λb=>if b=a then À o else H b
def yb{H:Hp}{a:È}{o:HO}:zV H a o a=À o:=by unfold zV;rw[Î rfl]
theorem yB{H:Hp}{a b:È}{o:HO}(h:b≠a):zV H a o b=H b:=by unfold zV;rw[Ð h]
theorem z73{H:Hp}{a b:È}{o u:HO}(h:H a=À o)(h':H b=À u)(d:o≠u):a≠b:=by intro e;subst e;rw[h]at h';exact d (ła h')
def qV{H:Hp}{a b:È}{o:HO}(h:H a=À o)(h':H b=Ä):a≠b:=by intro e;subst e;rw[h]at h';cases h'
section
variable(P:æ)(w:ß)
def xN(H:Hp)(h:Heap)(a:È):HO->Prop
 |.lst xs=>à<=á/\∃(its:Á Value) (n:Nat),zo xs its/\Ģ a=À { cls:=.type ĝ,Ą:=.seq Þa n }|.tup xs=>à<=á/\∃its:Á Value,zo xs its/\ğb h a Þa|.dK kvs=>Ķ<=á/\üa=Â/\∃vs,KV kvs vs/\Òe Ŏa a vs|.dT kvs=>Ķ<=á/\üa=Â/\∃xs:Á Ëd,
   ĝd (λ(p:Á zU×V) (q:Á zU×È×Value)=>p.1=q.1/\H q.2.1=À řn/\zx p.2 q.2.2) kvs xs/\
   ∃o es ep,Ģ a=À o/\ßq/\Ŝa=.dict es ep/\es.toList=ĉc (entryOfKey ňe)/\(ĉc (·.1)).Nodup
 |.set S n=>h.SetOf (intKind P w) a S n|.ins C dx fs=>H dx=À òf/\ůa<=1000/\dx≠a/\Ģ a=À ŏq/\
   ∃mA,Ļh dx mA/\(∀f,uf Ťk ôl)/\ĉj mA (ĉd (·.1))
 |.own _=>∃o,Ģ a=À o|.xd fs=>∃mA,Ļh a mA/\∀f,uf Ťk ôl|.rng lo hi=>∃t u v,Ģ a=À { cls:=.type Àc,Ą:=.fields #[.int lo t,.int hi u,.int 1 v] }|.yK o u=>Ģ a=À o/\xN H h a u|.tbl ps=>Ģ a=À { cls:=.none,Ą:=.fields ps }|.met f x=>Ģ a=À (W.methodObj İ Þe)|.ext φ=>φ h/\(∃o,Ģ a=À o)/\∀h1 h2:Heap,φ h1->(∀o,ŕk a=À o->h2.get? a=À o)->φ h2
def xt(H:Hp)(h:Heap):Prop:=∀a o,H a=À o->xN P w H h a o
#print a
section
variable{P:æ}{w:ß}{H H':Hp}{h h':Heap}{a:È}{o:HO}
theorem xN.lt(x:xN P w H h a o):a<Āb:=by
 cases o with
 |lst xs=>obtain⟨_,_,_,_,e⟩:=x;exact Ĝ e
 |tup xs=>obtain⟨_,_,_,p⟩:=x;exact p.lt
 |dK kvs=>obtain⟨_,_,_,_,o,_,_,e,_⟩:=x;exact Ĝ e
 |dT kvs=>obtain⟨_,_,_,_,o,_,_,e,_⟩:=x;exact Ĝ e
 |set S n=>obtain⟨o,_,_,_,e,_⟩:=x;exact Ĝ e
 |ins C dx fs=>obtain⟨_,_,_,e,_⟩:=x;exact Ĝ e
 |own y=>obtain⟨_,e⟩:=x;exact Ĝ e
 |xd fs=>obtain⟨_,⟨_,_,_,e,_⟩,_⟩:=x;exact Ĝ e
 |rng lo hi=>obtain⟨_,_,_,e⟩:=x;exact Ĝ e
 |yK ob u=>obtain⟨e,_⟩:=x;exact Ĝ e
 |tbl ps=>exact Ĝ (show Ģ a=À _ from x)|met f y=>exact Ĝ (show Ģ a=À _ from x)|ext φ=>obtain⟨_,⟨_,e⟩,_⟩:=x;exact Ĝ e
theorem śg{α β:Type}{F G:α->β->Prop}:∀{l₁:Á α}{l₂:Á β},ĝd F l₁ l₂->(∀a b,F a b->G a b)->ĝd G l₁ l₂
 |_,_,.nil,_=>.nil|_,_,.cons r t,f=>.cons (f _ _ r) (śg t f)
def xN.Y9(x:xN P w H h a o)(k:∀b u,(b=a\/H b=À òf)->Ģ b=À u->Ğ b=À u)(A:∀b,H b=À òf->H' b=À òf)(B:∀b xs,H b=À Őa->H' b=À Őa):xN P w H' h' a o:=by
 induction o with
 |lst xs=>obtain⟨z,l,n,r,e⟩:=x;exact⟨z,l,n,r,k _ _ ĳ e⟩
 |tup xs=>obtain⟨z,l,r,g,e,c⟩:=x;exact⟨z,l,r,g,k _ _ ĳ e,c⟩
 |dK kvs=>obtain⟨z,y,E,r,g,i,j,e,c⟩:=x;exact⟨z,y,E,r,g,i,j,k _ _ ĳ e,c⟩
 |dT kvs=>obtain⟨z,y,xs,r,g,i,j,e,c⟩:=x;exact⟨z,y,xs,śg r λp q z=>⟨z.1,B _ _ z.2.1,z.2.2⟩,g,i,j,k _ _ ĳ e,c⟩
 |set S n=>obtain⟨g,i,j,t,e,c⟩:=x;exact⟨g,i,j,t,k _ _ ĳ e,c⟩
 |ins C dx fs=>obtain⟨d,z,F,e,m,⟨s,i,j,e2,c⟩,r⟩:=x;exact⟨A _ d,z,F,k _ _ ĳ e,m,⟨s,i,j,k _ _ (.inr d) e2,c⟩,r⟩
 |own y=>obtain⟨g,e⟩:=x;exact⟨g,k _ _ ĳ e⟩
 |xd fs=>obtain⟨m,⟨s,i,j,e,c⟩,r⟩:=x;exact⟨m,⟨s,i,j,k _ _ ĳ e,c⟩,r⟩
 |rng lo hi=>obtain⟨t,u,v,e⟩:=x;exact⟨t,u,v,k _ _ ĳ e⟩
 |yK g u ih=>obtain⟨e,q⟩:=x;exact⟨k _ _ ĳ e,ih q⟩
 |tbl ps=>have e:Ģ a=À { cls:=.none,Ą:=.fields ps }:=x;show Ğ a=À { cls:=.none,Ą:=.fields ps };exact k a _ ĳ e|met f y=>have e:Ģ a=À řm:=x;show Ğ a=À řm;exact k a _ ĳ e|ext φ=>obtain⟨p,⟨o,e⟩,st⟩:=x;exact⟨st _ _ p λo q=>k _ _ ĳ q,⟨o,k _ _ ĳ e⟩,st⟩
theorem xt.lt(x:xt P w H h)(e:H a=À o):a<Āb:=(Ņr).lt
def xt.fresh(x:xt P w H h)(e:Āb<=a):H a=Ä:=by
 cases q:H a with
 |Ä=>rfl|À u=>exact Û (Ů (x.lt q) e) Üa
def xt.kept(x:xt P w H h)(k:∀b u,Ģ b=À u->Ğ b=À u):xt P w H h':=λa o e=>
 (Ņr).Y9 (λb u _ q=>k b u q) Ŀg λ_ _ q=>q
def xt.laid(x:xt P w H h)(k:∀b u,Ģ b=À u->Ğ b=À u)(g:Āb<=a)(d:xN P w Ÿe h' a o):xt P w Ÿe h':=λb u e=>by have f:=x.fresh g;by_cases hb:b=a;subst hb;rw[yb]at e;cases e;exact d;rw[yB hb]at e;exact(ük).Y9 (λc v _ q=>k c v q) (λc q=>by rw[yB (qV q f)];exact q) λc i q=>by rw[yB (qV q f)];exact q
#print a
def Rd(H:Hp)(a:È)(u:HO):Prop:=H a=À u\/∃o,H a=À Ôf
def Rd.ok{P:æ}{w:ß}{H:Hp}{h:Heap}{a:È}{u:HO}(r:Rd H a u)(x:xt P w H h):xN P w H h a u:=by rcases r with r|⟨o,r⟩;exact x a u r;obtain⟨_,q⟩:=x a _ r;exact q
def QM:Æ HO->Prop
 |À (.lst _)=>Ëc|À (.dK _)=>Ëc|À (.dT _)=>Ëc|À (.set _ _)=>Ëc|À (.ins _ _ _)=>Ëc|À (.ext _)=>Ëc|_=>ô
section
variable{P:æ}{w:ß}{H:Hp}{h h':Heap}{x e:È}{o':HO}
def xt.write(ok:xt P w H h)(f:QM (H x))(n:e=x\/H e=À ße)(k:∀b u,b≠e->Ģ b=À u->Ğ b=À u)(j:∃u,Ğ e=À u)(l:xN P w ĕq h' x o'):xt P w ĕq h':=λb u q=>by
 have a:∀c y,H c=À (.own y)->c≠x:=λc y r z=>by subst z;rw[r]at f;exact f
 have d:∀c g,H c=À (.tup g)->c≠x:=λc g r z=>by subst z;rw[r]at f;exact f
 by_cases hb:b=x;subst hb;rw[yb]at q;cases q;exact l;rw[yB hb]at q;by_cases hbe:b=e;have m:H b=À ße:=by rcases n with z|z;exact Û (hbe.trans z) hb;rw[hbe];exact z
 rw[q]at m;cases m;obtain⟨v,o⟩:=j;exact⟨v,by rw[hbe];exact o⟩;refine(ok b u q).Y9 (λc v i r=>k c v ?_ r) (λc r=>by rw[yB (a c b r)];exact r) λc g r=>by rw[yB (d c g r)];exact r
 rcases i with rfl|i;exact hbe;rintro rfl;rcases n with z|z;exact a c b i z;rw[i]at z;cases z;exact hb rfl
#print a
structure Un(fs ex:Á È)(H H':Hp)(h h':Heap):Prop where
 Īa:∀b o,Ģ b=À o->H b=Ä->b ∉ fs->b ∉ ex->Ğ b=À o
 slot:∀b o,Ģ b=À o->H b=Ä->b∈fs->b ∉ ex->∃sl,Ğ b=À { o with Ůc:=sl }
 free:∀b o,Ģ b=À o->H b=Ä->b ∉ ex->H' b=Ä
 ĳh:∀b o,Ģ b=À o->b ∉ ex->∃o',Ğ b=À o'
 tZ:∀b xs,H b=À Őa->H' b=À Őa
 tF:∀b o u,H b=À Ôf->H' b=À Ôf
 qm:∀b ps,H b=À Õf->∃more,H' b=À ăo
section
variable{fs ex:Á È}{H H1:Hp}{h h1 h':Heap}{a x e:È}{o:HO}
def Un.any(u:Un fs ex H H1 h h1){b:È}{a:Obj}(q:Ģ b=À a)(n:H b=Ä)(c:b ∉ ex):∃sl,ŕk b=À { a with Ůc:=sl }:=by by_cases hb:b∈fs;exact ĕh b a q n hb c;exact⟨a.slots,ĕf b a q n hb c⟩
def ăf(k:∀b u,Ģ b=À u->Ğ b=À u):Un fs ex H H h h':=
 ⟨λb a q _ _ _=>k b a q,λb a q _ _ _=>⟨a.slots,k b a q⟩,λ_ _ _ n _=>n,λb a q _=>⟨a,k b a q⟩,λ_ _ q=>q,λ_ _ _ q=>q,λ_ c q=>⟨#[],by rw[q];simp⟩⟩
def Un.refl:Un fs ex H H h h:=ăf λ_ _ q=>q
def Un.laid(k:∀b u,Ģ b=À u->Ğ b=À u)(d:Āb<=a)(c:H a=Ä):Un fs ex H Ÿe h h' where
 Īa:=λb u q _ _ _=>k b u q
 slot:=λb u q _ _ _=>⟨u.slots,k b u q⟩
 free:=λb u q n _=>by rw[yB (Æa (Ů Čf d))];exact n
 ĳh:=λb u q _=>⟨u,k b u q⟩
 tZ:=λb e q=>by rw[yB ķk];exact q
 tF:=λb u e q=>by rw[yB ķk];exact q
 qm:=λb f q=>⟨#[],by rw[yB ķk,q];simp⟩
def Un.write(a:QM (H x))(j:e=x\/H e=À ße)(k:∀b u,b≠e->Ģ b=À u->Ğ b=À u)(c:∃u,Ğ e=À u):Un fs ex H ũj h h':=by
 have g:∀b,H b=Ä->b≠x:=λb n z=>by subst z;rw[n]at a;exact a
 have f:∀b,H b=Ä->b≠e:=λb n z=>by subst z;rcases j with r|r;exact g b n r;rw[n]at r;cases r
 have d:∀b u,H b=À u->¬ QM (À u)->b≠x:=λb u q l z=>by subst z;rw[q]at a;exact l a
 refine⟨λb u q n _ _=>k b u (f b n) q,λb u q n _ _=>⟨u.slots,k b u (f b n) q⟩,λb u q n _=>by rw[yB (g b n)];exact n,λb u q _=>?_,
  λb i q=>by rw[yB Ŕi];exact q,λb u i q=>by rw[yB Ŕi];exact q,λb m q=>⟨#[],by rw[yB Ŕi,q];simp⟩⟩
 by_cases hbe:b=e;subst hbe;exact c;exact⟨u,k b u hbe q⟩
#print a
noncomputable def Mc(h:Heap)(H:Hp):Á È:=(Ĵr).filter λa=>(H a).isSome
def ZU(h:Heap)(H:Hp):Heap:=W.hideAll h Ľk
def z3w(h:Heap)(H:Hp):(Üh).objs.size=Āb:=W.hideAll_size _ _
def z3v{h:Heap}{H:Hp}{b:È}{o:Obj}(e:Ģ b=À o)(n:H b=Ä):(Üh).get? b=À o:=
 W.hideAll_get _ e λa=>by have q:(H b).isSome=Ã:=(İe a).2;rw[n]at q;simp at q
def z93{h:Heap}{H:Hp}{b:È}{o:Obj}(e:(Üh).get? b=À o):Ģ b=À o/\H b=Ä:=by
 have a:Ģ b=À o:=W.of_hideAll Ľk e;refine⟨a,?_⟩;cases q:H b with
 |Ä=>rfl|À x=>have c:b∈Mc h H:=ĕi ⟨Ïd (Ĝ a),by simp[q]⟩;have z:(Üh).get? b=Ä:=W.hideAll_none Ľk c;rw[z]at e;cases e
noncomputable def ox(g h:Heap)(L:È):Á ë:=(Ĵr).filterMap λa=>if a=L\/(Öl a).isSome=Ã then Ä else(Ģ a).map λo=>(a,o)
def ĵ(g h:Heap)(L d:È):Á ë:=(ox g h L).filter λp=>decide (p.1≠d)
structure Mod(K:Ì)(mg:Str->Æ Value)(Ç:Heap):Prop where
 Xa:ŕ Ç
 glob:åe Ę mg
 blt:∃mb,åe ŗj mb/\∀x:Str,x ≠ ōj->mb x=Ř x
 nolimit:base.NoLimit
structure Cx where
 Ě:æ
 w:ß
 K:Ì
 mg:Str->Æ Value
 Ç:Heap
 A:ó
 N:Á Str
 s₀:Ë
 H₀:Hp
 env:Env
 ÿ:Á Env
 stack:Á Env
 ex:Á È
 fn:Str->Í
 calm:Í
 pn:Á ë
 xe:Value->Ë->Prop
noncomputable def j3(l:Á Env):Á È:=l.filterMap (·.frame)
abbrev Cx.fs(X:Cx):Á È:=j3 æe
def jW(a:õa)(x:Str):Prop:=âc x=À .local\/âc x=À .cell\/âc x=À .free
def pW(a:õa)(x:Str):Prop:=âc x=À .local\/âc x=À .cell
def oR(env:Env)(h:Heap)(m:Str->Æ Value)(x:Str)(u:Value):Prop:=
 (ìd x=À .local/\m x=À u)\/((ìd x=À .cell\/ìd x=À .free)/\∃c,ņi x=À c/\h.IsCell c (À u))
structure Cx.Ok(X:Cx):Prop where
 mod:Mod X.K î ő
 kind:ŉi=.function
 glob:Ûj=Ę
 blt:X.env.builtins=ŗj
 above:Ęc<=Òa
 inj:∀x y c,īa x=À c->īa y=À c->x=y
 has:∀x,(Ûd x=À .cell\/Ûd x=À .free)->∃c,īa x=À c
 VH:∀x c,X.fn x=Ã->īa x=À c->Ęc<=c
 hd:ų=Ã->X.A.handled=Ä
 Øl:X.A.frames=À ŗa
 Th:ŗa=æe\/(ŗa=Ô::æe/\X.env.frame=À Òa)
 Tc:∀b∈X.ex,b≠Òa/\∀x c,īa x=À c->c≠b
 bs:∀b o,ũe b=À o->ňi b=À o/\ĕb b=Ä
 gs:X.base.objs.size<=Ęc
 VM:∀b o,ũe b=À o->b ∉ X.ex
 VI:∀b∈X.ex,b ∉ ţa
 pP:ïn ő æe
 Y6:∀b∈ţa,ĕb b=Ä
structure zI(X:Cx)(z7:Á ë)(σ:Á Ćh)(H:Hp)(s:Ë):Prop where
 ok:X.Ok
 os:s.os=X.s₀.os
 bare:çe ėh
 Ç:Un ţa X.ex ĕb H X.s₀.heap Ý
 loc:∃m,çr Òa m/\∀(i:Nat)(x:Str)(v:V),X.N[i]?=À x->σ[i]?=À ìa->jW éa x->∃u,zx v u/\oR Ô Ý m x u
 cell:∀x c,īa x=À c->∃v,Āp c v
 free:H Òa=Ä
 pO:∀x c,īa x=À c->H c=Ä
 pin:∀p∈ēc++z7,ā p.1=À p.2/\H p.1=Ä/\p.1≠Òa/\p.1 ∉ ţa/\∀v,p.2.data≠.cell v
 zf:xt ò X.w H Ý
 len:σ.length=ö
section
variable{X:Cx}{z7:Á ë}{σ:Á Ćh}{H H':Hp}{s:Ë}{h':Heap}
def Cx.Ok.oG(ok:X.Ok){b:È}{o:Obj}(e:ũe b=À o):b ∉ ţa:=λa=>by have:=(ok.pP.mem a).1;rw[e]at this;cases this
theorem zI.bs(I:zI X z7 σ H s):∀b o,ũe b=À o->ā b=À o/\H b=Ä:=λb o e=>
 ⟨ôg b o ðg.1 ðg.2 (I.ok.oG e) ŭo,Ŧd b o ðg.1 ðg.2 ŭo⟩
def zI.bk(I:zI X z7 σ H s):∀b o,ũe b=À o->ā b=À o:=λb o e=>(I.bs b o e).1
theorem zI.mod(I:zI X z7 σ H s):Mod X.K î ő:=Ĭk
def zI.xY(I:zI X z7 σ H s):X.K.In Ý:=I.ok.mod.Xa.keeps I.bk
theorem zI.lt(I:zI X z7 σ H s):Òa<Ú:=let ⟨_,hn,_⟩:=ħa;hn.lt
def zI.sz(I:zI X z7 σ H s):Ęc<=Ú:=Ġ Šj (ða I.lt)
def zI.Ry(I:zI X z7 σ H s){a:È}(h:Ú<=a):a ∉ ţa:=λc=>by obtain⟨_,o,b,_⟩:=óq c;exact Û (Ů (Ĝ b) (Ġ I.sz h)) Üa
def zI.XX(I:zI X z7 σ H s):∀x c,īa x=À c->c≠Òa:=λx c e z=>by obtain⟨v,o,f,d⟩:=ŝa x c e;obtain⟨m,⟨i,g,h,b,a,_⟩,_⟩:=ħa;rw[z,b]at f;cases f;rw[a]at d;cases d
theorem zI.pP(I:zI X z7 σ H s):Úg ő æe:=by
 have a:∀(l:Á Env),(∀b∈j3 l,b∈ţa)->ïn ő l->Úg ő l:=by
  intro l
  induction l with
  |nil=>intro _ _;trivial|đ env r ih=>
   intro g h;obtain⟨n,⟨L,o,f,j,i,m⟩,k⟩:=h;have d:L∈ţa:=g L (by unfold j3;rw[Ęi,f];exact Ŏ);obtain⟨p,e⟩:=ŭe L o i (I.ok.Y6 L d) d λz=>I.ok.VI L z d
   exact⟨n,⟨L,_,f,j,e,m⟩,ih (λb c=>g b (by unfold j3;rw[Ęi,f];exact Ĉa _ c)) k⟩
 exact a æe (λ_ c=>c) I.ok.pP
theorem zI.stack(I:zI X z7 σ H s):Úg ő ŗa:=by rcases I.ok.Th with e|⟨e,hf⟩;rw[e];exact I.pP;rw[e];obtain⟨m,a,_⟩:=ħa;refine .cons (by rw[Ļb];decide) hf a ?_ I.pP;exact Heap.get?_none_of_le (Ġ øh Šj)
def zI.Ti(I:zI X z7 σ H s):∀b∈j3 ŗa,b∈Òa::ţa:=λb a=>by rcases I.ok.Th with e|⟨e,hf⟩;rw[e]at a;exact Ĉa _ a;rw[e]at a;unfold j3 at a;rw[Ęi,hf]at a;exact a
def zI.S4(I:zI X z7 σ H s):∀b∈j3 ŗa,H b=Ä:=λb a=>by rcases Ĺ (I.Ti b a)with e|a;rw[e];exact âb;obtain⟨_,o,c,_⟩:=óq a;exact Ŧd b o c (I.ok.Y6 b a) λz=>I.ok.VI b z a
def zI.step{g':Ø GenState}{t':Nat}{d':Drawn}{ch:Á È}(I:zI X z7 σ H s)(t:∀b∈ch,Íg/\b≠Òa/\(∀x c,īa x=À c->c≠b)/\∀p∈ēc++z7,p.1≠b)(g:∀b o,b≠Òa->b ∉ ţa->b ∉ ch->ā b=À o->H b=Ä->Ğ b=À o)(A:∀b o,b≠Òa->b∈ţa->b ∉ ch->ā b=À o->H b=Ä->∃sl,Ğ b=À { o with Ůc:=sl })(f:∀b o,b ∉ ch->ā b=À o->H b=Ä->H' b=Ä)(C:∀b o,b ∉ ch->ā b=À o->∃o',Ğ b=À o')(T:∀b xs,H b=À Őa->H' b=À Őa)(Q:∀b o u,H b=À Ôf->H' b=À Ôf)(S:∀b ps,H b=À Õf->∃more,H' b=À ăo)(ns:∀m,çr Òa m->h'.Ns Òa m)(Y:xt ò X.w H' h')(Z:çe g') :zI X z7 σ H' { s with å:=h',gens:=g',drawn:=d',ē:=t' }:=by
 have F:∀b o,ňi b=À o->b≠Òa:=λb o e=>Æa (Ů ōc Šj)
 have y:∀b o,ňi b=À o->b ∉ X.ex->b ∉ ch:=λb o e a B=>by rcases(t b B).1 with z|z;exact a z;exact Û (Ů ōc z) Üa
 have h:∀x c,īa x=À c->∀v,Āp c v->h'.IsCell c v:=λx c e v ⟨o,E,J⟩=>by
  have j:c ∉ ch:=λz=>(t c z).2.2.1 x c e rfl
  by_cases hc:c∈ţa;obtain⟨sl,q⟩:=A c o Åq hc j E Ęj;exact⟨_,q,J⟩;exact⟨o,g c o Åq hc j E Ęj,J⟩
 refine⟨I.ok,Ŷc,Z,⟨λb o e n B a=>?_,λb o e n B a=>?_,λb o e n a=>?_,λb o e a=>?_,λb xs e=>T b xs (Âf b xs e),λb o xs e=>Q b o xs (Ãf b o xs e),λb ps e=>?_⟩,?_,λx c e=>?_,?_,λx c e=>?_,λp K=>?_,Y,Ŕb⟩;exact g b o Řr B ģg (ôg b o e n B a) Ŧi;obtain⟨sl,e1⟩:=ŭe b o e n B a;obtain⟨G,e2⟩:=A b _ Řr B ģg e1 Ŧi;exact⟨G,e2⟩;obtain⟨o',e1⟩:=Še b o e a;exact f b o' ģg e1 Ŧi;obtain⟨o',e1⟩:=Še b o e a;exact C b o' ģg e1;obtain⟨U,e1⟩:=Äf b ps e;obtain⟨R,e2⟩:=S b _ e1;exact⟨U++R,by rw[e2,Array.append_assoc]⟩;obtain⟨m,P,O⟩:=ħa;refine⟨m,ns m P,λi x v e1 e2 W=>?_⟩;obtain⟨u,r,l⟩:=O i x v e1 e2 W;refine⟨u,r,?_⟩;rcases l with l|⟨k,c,e,z⟩;exact .inl l;exact .inr ⟨k,c,e,h x c e _ z⟩;obtain⟨v,z⟩:=ŝa x c e;exact⟨v,h x c e v z⟩;obtain⟨m,⟨o,_,_,E,_⟩,_⟩:=ħa;exact f _ o (λz=>(t _ z).2.1 rfl) E âb;obtain⟨v,o,E,J⟩:=ŝa x c e;exact f c o (λz=>(t c z).2.2.1 x c e rfl) E Ęj;obtain⟨e,n,N,L,d⟩:=ša p K;have j:p.1 ∉ ch:=λz=>(t p.1 z).2.2.2 p K rfl
 exact⟨g p.1 p.2 N L j e n,f p.1 p.2 j e n,N,L,d⟩
def zI.un{t':Nat}(I:zI X z7 σ H s)(u:Un ţa [] H H' Ý h')(j:xt ò X.w H' h'):zI X z7 σ H' { s with å:=h',ē:=t' }:=by
 obtain⟨m,⟨o,l,q,g,r⟩,_⟩:=id ħa;obtain⟨p,k⟩:=u.any g âb â
 exact ãl (g':=ėh) (d':=s.drawn) (ch:=[]) ûa (λb o _ d _ e n=>ĕf b o e n d â) (λb o _ d _ e n=>ĕh b o e n d â) (λb o _ e n=>Ėh b o e n â) (λb o _ e=>ïh b o e â) u.tZ u.tF u.qm (λv i=>by obtain⟨t,c,f,a,h⟩:=i;rw[g]at a;cases a;exact⟨_,c,f,k,h⟩) j ãb
def zI.call{g':Ø GenState}{t':Nat}{d':Drawn}{ch:Á È}(I:zI X z7 σ H s)(u:Un Ļk ch H H' Ý h')(v:xt ò X.w H' h')(t:çe g')(f:∀b∈ch,Íg/\b≠Òa/\(∀x c,īa x=À c->c≠b)/\∀p∈ēc++z7,p.1≠b) :zI X z7 σ H' { s with å:=h',gens:=g',drawn:=d',ē:=t' }:=by
 obtain⟨m,⟨o,y,B,j,r⟩,_⟩:=id ħa;obtain⟨A,i⟩:=u.any j âb λz=>(f _ z).2.1 rfl
 exact ãl (ch:=ch) f (λb o i k a e n=>ĕf b o e n (λz=>(Ĺ (I.Ti b z)).elim i k) a) (λb o _ _ a e n=>u.any e n a) (λb o a e n=>Ėh b o e n a) (λb o a e=>ïh b o e a) u.tZ u.tF u.qm (λE q=>by obtain⟨C,g,h,d,l⟩:=q;rw[j]at d;cases d;exact⟨_,g,h,i,l⟩) v t
def zI.turned{t':Nat}{it:È}(I:zI X z7 σ H s)(k:∀b o,b≠it->ā b=À o->Ğ b=À o)(t:H it=Ä)(f:it≠Òa)(g:it∈X.ex\/Ęc<=it)(w:∀x c,īa x=À c->c≠it)(A:∀p∈ēc++z7,p.1≠it):zI X z7 σ H { s with å:=h',ē:=t' }:=by
 have d:∀b u,H b=À u->b≠it:=λb u e z=>by rw[z,t]at e;cases e
 refine ãl (g':=ėh) (d':=s.drawn) (ch:=ĕc) (λb i=>?_) (λb o _ _ a e _=>k b o ąi e) (λb o _ _ a e _=>⟨o.slots,k b o ąi e⟩) (λ_ _ _ _ n=>n)
  (λb o a e=>⟨o,k b o ąi e⟩) (λ_ _ e=>e) (λ_ _ _ e=>e) (λb B e=>⟨#[],by rw[e];simp⟩) (λm l=>?_) (λb u e=>?_) ãb
 have e:b=it:=by simpa using i
 subst e;exact⟨g,f,w,A⟩;obtain⟨o,h,y,j,r⟩:=l;exact⟨o,h,y,k _ o (Ňb f) j,r⟩;refine(Đ b u e).Y9 (λc v a q=>k c v ?_ q) Ŀg λ_ _ q=>q
 rcases a with z|z;rw[z];exact d b u e;exact d c _ z
def zI.tok(I:zI X z7 σ H s)(t:Nat):zI X z7 σ H { s with ē:=t }:=I.un (h':=Ý) (t':=t) Un.refl Đ
theorem zI.kept{t':Nat}(I:zI X z7 σ H s)(k:∀b u,ā b=À u->Ğ b=À u):zI X z7 σ H { s with å:=h',ē:=t' }:=I.un (ăf k) (Ăr k)
theorem zI.laid{a:È}{o:HO}{t':Nat}(I:zI X z7 σ H s)(k:∀b u,ā b=À u->Ğ b=À u)(c:Ú<=a)(d:xN ò X.w Ÿe h' a o) :zI X z7 σ Ÿe { s with å:=h',ē:=t' }:=I.un (Un.laid k c (Ŧb c)) (I.zf.laid k c d)
theorem zI.write{x e:È}{o:HO}{t':Nat}(I:zI X z7 σ H s)(f:QM (H x))(d:e=x\/H e=À ße)(k:∀b u,b≠e->ā b=À u->Ğ b=À u)(a:∃u,Ğ e=À u)(c:xN ò X.w ũj h' x o):zI X z7 σ ũj { s with å:=h',ē:=t' }:=I.un (Un.write f d k a) (I.zf.write f d k a c)
def zI.weak{σ':Á Ćh}(I:zI X z7 σ H s)(b:σ'.length=σ.length)(w:∀(i:Nat) v,σ'[i]?=À ìa->σ[i]?=À ìa):zI X z7 σ' H s:=
 ⟨I.ok,Ŷc,ãb,Ģh,let ⟨m,hn,hl'⟩:=ħa;⟨m,hn,λi x v e1 e2 a=>hl' i x v e1 (w i v e2) a⟩,ŝa,âb,Ìc,ša,Đ,Ĉd Ŕb⟩
def zI.Tg{a:Á ë}(I:zI X z7 σ H s)(h:∀p∈a,ā p.1=À p.2/\H p.1=Ä/\p.1≠Òa/\p.1 ∉ ţa/\∀v,p.2.data≠.cell v):zI X a σ H s:=
 ⟨I.ok,Ŷc,ãb,Ģh,ħa,ŝa,âb,Ìc,λp b=>(ça b).elim (λz=>ša p (ŉd _ z)) (h p),Đ,Ŕb⟩
def dt{N:Á Str}(c:N.Nodup){i j:Nat}{x:Str}(a:N[i]?=À x)(b:N[j]?=À x):i=j:=by obtain⟨d,e1⟩:=Ŗ a;obtain⟨e,e2⟩:=Ŗ b;exact(List.getElem_inj c).mp (e1.trans e2.symm)
def lU{M:ýe}{A:ó}{E:Value->Ë->Prop}{i:Nat}{x:Str}{v:V}{u:Value}{Q:Ľa->Ë->Prop}(I:zI X z7 σ H s)(hN:ğa)(hi:X.N[i]?=À x)(t:pW éa x)(r:zx v u)(h:∀s',zI X z7 ŭd H s'->(∃a,Ĳb a Ý Čd/\(a=Òa\/īa x=À a))->Q () s')(hf:Ê ża q7):Ù M A Ōn Q E s:=by
 obtain⟨m,W,hl⟩:=id ħa;have O:(ŉi == .class||(ŉi == .module&&Òa != Ûj))=Â:=by rw[Ļb];rfl
 have L:i<σ.length:=by rw[Ŕb];exact ńb.1
 have XX:=I.XX
 have g:∀{a:È}{h':Heap},(∃o,ā a=À o/\H a=Ä)->Ĳb a Ý h'->xt ò X.w H h':=λ{a h'} ha f b ob e=>by
  obtain⟨_,_,B⟩:=ha;refine(Đ b ob e).Y9 (λc P l q=>(f.2 c ?_).trans q) Ŀg λ_ _ q=>q
  rintro rfl;rcases l with rfl|l;rw[B]at e;cases e;rw[B]at l;cases l
 rcases t with hk|hk;refine wpAny_storeName_local hk W (λh' hn' f=>?_) O;obtain⟨oL,_,_,hoL,_⟩:=id W;refine h _ ⟨I.ok,Ŷc,ãb,⟨λb o e n F t=>?_,λb o e n F t=>?_,Ŧd,λb o e t=>?_,Âf,Ãf,Äf⟩,⟨_,hn',λj y T e1 e2 e3=>?_⟩,λy c e=>?_,âb,Ìc,λp Y=>?_,g ⟨oL,hoL,âb⟩ f,by simpa using Ŕb⟩ ⟨_,f,.inl rfl⟩;exact(ūh).trans ðo;obtain⟨Z,e1⟩:=ŭe b o e n F t;exact⟨Z,(ūh).trans e1⟩;obtain⟨o',e1⟩:=Še b o e t;exact⟨o',(ūh).trans e1⟩;by_cases hj:j=i;subst hj;rw[hi]at e1;cases e1;rw[Ùn L]at e2;cases e2;exact⟨u,r,.inl ⟨hk,by simp⟩⟩;rw[ďn (Ňb hj)]at e2;obtain⟨u',U,q⟩:=hl j y T e1 e2 e3;refine⟨u',U,?_⟩;rcases q with⟨k,e⟩|⟨k,c,e,z⟩;refine .inl ⟨k,?_⟩;have:y≠x:=λe=>hj (dt hN e1 (e▸hi))
 simp[this,e];exact .inr ⟨k,c,e,ár f żq⟩;obtain⟨P,z⟩:=ŝa y c e;exact⟨P,ár f żq⟩;obtain⟨e,n,S,nf,d⟩:=ša p Y;exact⟨(f.2 p.1 S).trans e,n,S,nf,d⟩;have C:X.fn x=Ã:=by rcases hf with z|z;exact z;rw[z]at hk;cases hk
 obtain⟨c,l⟩:=I.ok.has x (.inl hk);obtain⟨P,z⟩:=ŝa x c l;refine wpAny_storeName_cell Ļb hk l z (λh' G f=>?_);obtain⟨oc,J,K⟩:=id z;refine h { s with å:=h' } ⟨I.ok,Ŷc,ãb,⟨λb o e n F t=>?_,λb o e n F t=>?_,Ŧd,λb o e t=>?_,Âf,Ãf,Äf⟩,⟨m,W.sameBut f (Ňb (XX x c l)),λj y T e1 e2 e3=>?_⟩,λy R e=>?_,âb,Ìc,λp Y=>?_,g ⟨oc,J,Ìc x c l⟩ f,by simpa using Ŕb⟩ ⟨c,f,.inr l⟩;exact(Şh).trans ðo;obtain⟨Z,e1⟩:=ŭe b o e n F t;exact⟨Z,(Şh).trans e1⟩;obtain⟨o',e1⟩:=Še b o e t;exact⟨o',(Şh).trans e1⟩;by_cases hj:j=i;subst hj;rw[hi]at e1;cases e1;rw[Ùn L]at e2;cases e2;exact⟨u,r,.inr ⟨.inl hk,c,l,G⟩⟩;rw[ďn (Ňb hj)]at e2;obtain⟨u',U,q⟩:=hl j y T e1 e2 e3;refine⟨u',U,?_⟩;rcases q with q|⟨k,R,e,z'⟩;exact .inl q;refine .inr ⟨k,R,e,z'.sameBut f ?_⟩;rintro rfl;exact hj (dt hN e1 (I.ok.inj _ _ _ e l▸hi));by_cases hcc:R=c;subst hcc;exact⟨_,G⟩;obtain⟨w2,z2⟩:=ŝa y R e;exact⟨w2,z2.sameBut f hcc⟩;obtain⟨e,n,S,nf,d⟩:=ša p Y;refine⟨(f.2 p.1 ?_).trans e,n,S,nf,d⟩;intro q;rw[q,J]at e;have q':oc=p.2:=ła e;exact d P (by rw[<-q'];exact K)
def Nr{M:ýe}{A:ó}{E:Value->Ë->Prop}{i:Nat}{x:Str}{v:V}{u:Value}{Q:Ľa->Ë->Prop}(I:zI X z7 σ H s)(b:ğa)(hi:X.N[i]?=À x)(c:pW éa x)(r:zx v u)(h:∀s',zI X z7 ŭd H s'->Q () s')(d:Ê ża q7):Ù M A Ōn Q E s:=
 lU I b hi c r (λs' a _=>h s' a) d
def zI.BX{s':Ë}{ch:Á È}(I:zI X z7 σ H s)(f:s'.os=s.os)(u:Un Ļk ch H H' Ý Čd)(d:xt ò X.w H' Čd)(g:çe s'.gens)(a:∀b∈ch,Íg/\b≠Òa/\(∀x c,īa x=À c->c≠b)/\∀p∈ēc++z7,p.1≠b):zI X z7 σ H' s':=by obtain⟨h',g',d',t',h⟩:=s';have e:h=s.os:=f;subst e;exact I.call (g':=g') (t':=t') (d':=d') u d g a
#print a
abbrev XK:=Value->Æ È->Hp->Prop
abbrev St:=Á Ćh
abbrev VK:=V->Hp->Prop
abbrev TE:=St->Hp->VK->Prop
abbrev TT:=St->Hp->(Í->Hp->Prop)->Prop
abbrev TA:=St->Hp->(Á V->Hp->Prop)->Prop
structure uF where
 nx:St->Hp->Prop
 rt:VK
 bk:St->Hp->Prop:=λ_ _=>ô
 ct:St->Hp->Prop:=λ_ _=>ô
abbrev TS:=uF->St->Hp->Prop
def EP(X:Cx)(a:Á ë)(σ:St)(Q:VK)(u:Value)(s':Ë):Prop:=∃v H',zI X a σ H' s'/\zx v u/\Q v H'
def TP(X:Cx)(a:Á ë)(σ:St)(Q:Í->Hp->Prop)(b:Í)(s':Ë):Prop:=∃H',zI X a σ H' s'/\Q b H'
def AP(X:Cx)(a:Á ë)(σ:St)(Q:Á V->Hp->Prop)(us:Á Value)(s':Ë):Prop:=∃vs H',zI X a σ H' s'/\zo vs us/\Q vs H'
def SP(X:Cx)(a:Á ë)(D:uF)(f:Flow)(s':Ë):Prop:=
 match f with
 |.next=>∃σ' H',zI X a σ' H' s'/\źa σ' H'|.brk=>∃σ' H',zI X a σ' H' s'/\D.bk σ' H'|.cont=>∃σ' H',zI X a σ' H' s'/\D.ct σ' H'|.ret u=>∃v σ' H',zI X a σ' H' s'/\zx v u/\D.rt v H'
def PE(X:Cx)(e:Ñ)(t:TE):Prop:=
 ∀(z7:Á ë) (s:Ë) (σ:St) (H:Hp) (Q:VK),zI X z7 σ H s->t σ H Q->Ù ü X.A Śe ũb Ĥ s
def PT(X:Cx)(e:Ñ)(t:TT):Prop:=
 ∀(z7:Á ë) (s:Ë) (σ:St) (H:Hp) (Q:Í->Hp->Prop),zI X z7 σ H s->t σ H Q->Ù ü X.A (ðe e Ô Śe) Èj Ĥ s
def PW(X:Cx)(e:Ñ)(t:TT):Prop:=
 ∀(ŭc:Sem Value)(z7:Á ë) (s:Ë) (σ:St) (H:Hp) (Q:Í->Hp->Prop),zI X z7 σ H s->t σ H Q->Ù ü X.A (ðe e Ô ŭc) Èj Ĥ s
def PW.pt{X:Cx}{e:Ñ}{t:TT}(h:PW X e t):PT X e t:=h _
def PA(X:Cx)(es:Á Ñ)(t:TA):Prop:=
 ∀(pos:Pos)(z7:Á ë) (s:Ë) (σ:St) (H:Hp) (Q:Á V->Hp->Prop),zI X z7 σ H s->t σ H Q->Ù ü X.A (spliced őd) íp Ĥ s
def PS(X:Cx)(st:Õ)(t:TS):Prop:=
 ∀(z7:Á ë) (s:Ë) (σ:St) (H:Hp) (D:uF),zI X z7 σ H s->t D σ H->Ù ü X.A (exec st Ô) Ĭq Ĥ s
def t4(X:Cx)(st:Á Õ)(t:TS):Prop:=
 ∀(z7:Á ë) (s:Ë) (σ:St) (H:Hp) (D:uF),zI X z7 σ H s->t D σ H->Ù ü X.A (execs st Ô) Ĭq Ĥ s
def zn{α:Type}{t:Sem α}{Q b:α->Ë->Prop}{M:ýe}{A:ó}{E:Value->Ë->Prop}{s:Ë}(h:Ù M A t Q E s)(c:∀a s,Q a s->b a s):Ù M A t b E s:=Ėa h c λ_ _ x=>x
section
variable{X:Cx}
noncomputable def Uu(i:Nat):TE:=λσ H Q=>∃v,σ[i]?=À ìa/\Q v H
noncomputable def tC(v:V):TE:=λ_ H Q=>Q v H
def Wf{i:Nat}{x:Str}{pos:Pos}(n:X.N[i]?=À x)(hv:jW éa x)(g:Ê ı q10)(f:Ê řb q10):PE X ýa øe:=by intro o s σ H Q I h;obtain⟨v,e,h⟩:=h;obtain⟨m,q,k⟩:=ħa;obtain⟨u,r,l⟩:=k i x v n e hv;have b:EP X o σ Q u s:=⟨v,H,I,r,h⟩;rcases l with⟨d,p⟩|⟨d,c,j,a⟩;exact ŏj (Čn Ļb d q p b) g;rcases d with d|d;exact ŏj (ĳn Ļb d j a b) g;exact ŏj (wpAny_loadName_free Ļb d j a b f) g
def y2s{i j pos}:PE X (.Constant ôa j pos) (tC ôa):=λ_ _ _ H _ I h=>wpAny_Constant_int ⟨.int i,H,Ãa _,⟨_,rfl⟩,h⟩
def y2f{b j pos}:PE X (.Constant Ÿg j pos) (tC ąc):=λ_ _ _ H _ I h=>Constant_bool ⟨.bl b,H,I,rfl,h⟩
def y2x{j pos}:PE X (.Constant .none j pos) (tC .zE):=λ_ _ _ H _ I h=>Constant_none ⟨.zE,H,I,rfl,h⟩
def y31{x j pos}:PE X (.Constant Ņb j pos) (tC Ņb):=λ_ _ _ H _ I h=>Calls.Constant_str ⟨.str x,H,Ãa _,⟨_,rfl⟩,h⟩
def Gl(X:Cx)(x:Str):Prop:=Ûd x=À .globalImplicit
def LU{E:Value->Ë->Prop}{a:Á ë}{s:Ë}{σ:St}{H:Hp}{x:Str}{u:Value}{pos:Pos}{Q:Value->Ë->Prop}(I:zI X a σ H s)(d:Gl X x)(c:î x=À u)(h:Q u s)(b:Ê ı q10):Ù ü X.A Ĝp Q E s:=
 öm Ļb d (Calls.loadGlobal_global řl c h) b
def WM{E:Value->Ë->Prop}{d:Á ë}{s:Ë}{σ:St}{H:Hp}{x:Str}{u:Value}{pos:Pos}{Q:Value->Ë->Prop}(I:zI X d σ H s)(g:Gl X x)(f:î x=Ä)(hv:Ř x=À u)(h:Q u s)(e:Ê Àb q10)(c:Ê ı q10):Ù ü X.A Ĝp Q E s:=by obtain⟨i,a,b⟩:=I.mod.blt;exact öm Ļb g (Calls.loadGlobal_builtin řl f (by rw[I.ok.blt];exact a.keeps I.bk) ((b x e).trans hv) h) c
def y2q{x:Str}{v:V}{u:Value}{pos:Pos}(c:Gl X x)(a:î x=À u)(r:zx v u)(b:Ê ı q10):PE X ýa Ĩf:=
 λ_ _ _ H _ I h=>LU I c a ⟨v,H,I,r,h⟩ b
def y2g{x:Str}{v:V}{u:Value}{pos:Pos}(d:Gl X x)(b:î x=Ä)(hv:Ř x=À u)(r:zx v u)(c:Ê Àb q10)(a:Ê ı q10):PE X ýa Ĩf:=
 λ_ _ _ H _ I h=>WM I d b hv ⟨v,H,I,r,h⟩ c a
variable{a b:Ñ}{ta tb:TE}{pos:Pos}
noncomputable def tB(t:TE):TT:=λσ H Q=>t σ H λx a=>∃c,x=.bl c/\Q c a
def fN{e:Ñ}{t:TE}(h:PE X e t)(j:Ê (∀ŭc,ðe e Ô ŭc=(do let v <-ŭc;standAt e.pos;holding [v] ūq)) q11):PT X e (tB t):=by intro f s σ H Q I b;refine isTrue_plain (zn (h f s σ H _ I b) λv k ⟨x,i,a,c,g⟩=>?_) (j _);obtain⟨d,rfl,q⟩:=g;cases c;exact ľd ⟨i,a,q⟩
variable{tA tB':TT}{ĵ:Á Ñ}
noncomputable def y8d(t u:TT):TT:=λσ H Q=>t σ H λc a=>if c=Ã then u σ a Q else Q Â a
noncomputable def y8w(t u:TT):TT:=λσ H Q=>t σ H λc a=>if c=Ã then Q Ã a else u σ a Q
noncomputable def y8u(t:TT):TT:=λσ H Q=>t σ H λc a=>Q (!c) a
def fX(b:PT X a tA):PW X üi tA:=by
 intro g d s σ H Q I h;refine Łq çm;cases c with
 |Ã=>exact isTrue_and_nil e|Â=>exact e
def fZ(b:PT X a tA):PW X ĉi tA:=by
 intro g d s σ H Q I h;refine ïr çm;cases c with
 |Â=>exact isTrue_or_nil e|Ã=>exact e
def fW(j:PT X a tA)(k:PW X ţd tB'):PW X Êe (y8d tA tB'):=by
 intro l g s σ H Q I h;refine Łq ŝl;cases c with
 |Ã=>exact k l g i σ f Q d e|Â=>exact⟨f,d,e⟩
def fY(j:PT X a tA)(k:PW X ņe tB'):PW X Ëf (y8w tA tB'):=by
 intro l g s σ H Q I h;refine ïr ŝl;cases c with
 |Ã=>exact⟨f,d,e⟩|Â=>exact k l g i σ f Q d e
def y3z(b:PT X a tA):PT X Ág (y8u tA):=by intro e s σ H Q I h;exact isTrue_not (b e s σ H (λc d=>Q (!c) d) I h)
noncomputable def y8e(ta tb:TE):TE:=λσ H Q=>ta σ H λx a=>∃c,x=.bl c/\if c=Ã then tb σ a Q else Q û a
noncomputable def y8x(ta tb:TE):TE:=λσ H Q=>ta σ H λx a=>∃c,x=.bl c/\if c=Ã then Q Ō a else tb σ a Q
noncomputable def y8v(ta:TE):TE:=λσ H Q=>ta σ H λx a=>∃c,x=.bl c/\Q (.bl (!c)) a
def eZ{op}{t:TE}(h:PE X a t):PE X Đi t:=λb s σ H Q I c=>BoolOp_one (h b s σ H Q I c)
def eR(j:PE X a ta)(l:PE X ţd tb):PE X Êe (y8e ta tb):=by
 intro g s σ H Q I h;refine BoolOp_and Ōl;obtain⟨c,rfl,d⟩:=d;cases k;refine ľd ?_;cases c with
 |Ã=>exact l g i σ f Q e d|Â=>exact⟨.bl Â,f,e,rfl,d⟩
def y2z(j:PE X a ta)(l:PE X ņe tb):PE X Ëf (y8x ta tb):=by
 intro g s σ H Q I h;refine BoolOp_or Ōl;obtain⟨c,rfl,d⟩:=d;cases k;refine ľd ?_;cases c with
 |Â=>exact l g i σ f Q e d|Ã=>exact⟨.bl Ã,f,e,rfl,d⟩
def y2y(e:PE X a ta):PE X Ág (y8v ta):=by intro i s σ H Q I h;refine UnaryOp_ (zn (e i s σ H _ I h) λv j ⟨x,f,d,g,b⟩=>?_);obtain⟨c,rfl,b⟩:=b;cases g;exact not_of (ľd ⟨.bl (!c),f,d,rfl,b⟩)
noncomputable def y8l(t:TT)(ta tb:TE):TE:=λσ H Q=>t σ H λc a=>if c=Ã then ta σ a Q else tb σ a Q
def y2r{c:Ñ}(m:PT X c tA)(k:PE X a ta)(l:PE X b tb):PE X Øo (y8l tA ta tb):=by
 intro e s σ H Q I h;refine wpAny_IfExp (Φd (m e s σ H _ I h));cases d with
 |Ã=>exact k e g σ j Q f i|Â=>exact l e g σ j Q f i
#print a
def yd(K:Ì)(H:Hp)(a:È)(xs:Á V):Prop:=
 Rd H a Ğa \/
  ∃(o:Obj) (its:Ø Value) (n:Nat),Àa a=À o/\Ğb=.type ĝ/\ęf=Ä/\Ŝa=.seq its n/\ġk<=á/\zo xs ŵe
def y_(K:Ì)(H:Hp)(a:È)(xs:Á V):Prop:=
 Rd H a Őa \/
  ∃(o:Obj) (its:Ø Value) (n:Nat),Àa a=À o/\Ğb=.type ŧ/\Ŝa=.seq its n/\ġk<=á/\zo xs ŵe
noncomputable def og:Value->Æ V
 |.none=>À .zE|.bool b=>À ąc|.int i _=>À ôa|.str x _=>À Ņb|.bytes b _=>À (.byt b)|.float b _=>À (.XY b)|.ref a=>À ř|.type n=>À (.ty n)|_=>Ä
def zx.abs{x:V}{u:Value}(r:zx x u):og u=À x:=by
 cases x with
 |zE=>cases r;rfl|bl _=>cases r;rfl|int _=>obtain⟨t,rfl⟩:=r;rfl
 |str _=>obtain⟨t,rfl⟩:=r;rfl
 |byt _=>obtain⟨t,rfl⟩:=r;rfl
 |XY _=>obtain⟨t,rfl⟩:=r;rfl
 |ref _=>cases r;rfl|ty _=>cases r;rfl
def zx.inj{x y:V}{u:Value}(r:zx x u)(q:zx y u):x=y:=ła (r.abs.symm.trans q.abs)
theorem zo.inj:∀{xs ys:Á V}{us:Á Value},zo xs us->zo ys us->xs=ys
 |_,_,_,.nil,.nil=>rfl|_,_,_,.cons r t,.cons r' t'=>by rw[r.inj r',zo.inj t t']
section
variable{X:Cx}{z7:Á ë}{σ:St}{H:Hp}{s:Ë}{a:È}{xs ys:Á V}
def Œb{K:Ì}(h:H a=À Ğa):yd K H a xs:=.inl ùf
def ďc{K:Ì}(h:H a=À Őa):y_ K H a xs:=.inl ùf
def zI.list(I:zI X z7 σ H s)(h:yd X.K H a xs):∃its:Á Value,zo xs its/\PlainL Ý a Þa/\à<=á:=by rcases h with h|⟨o,its,n,hk,hc,hd,hs,hz,r⟩;obtain⟨z,its,n,r,e⟩:=h.ok Đ;exact⟨its,r,⟨_,n,e,rfl,rfl,rfl⟩,z⟩;refine⟨ŵe,r,⟨o,n,ś a o hk,hc,hd,by simpa using hs⟩,?_⟩;have e:=áa;simp only[ŭ]at e;omega
def zI.tuple(I:zI X z7 σ H s)(h:y_ X.K H a xs):∃its:Á Value,zo xs its/\ğb Ý a Þa/\à<=á:=by rcases h with h|⟨o,its,n,hk,hc,hs,hz,r⟩;obtain⟨z,its,r,p⟩:=h.ok Đ;exact⟨its,r,p,z⟩;refine⟨ŵe,r,⟨o,ś a o hk,hc,n,by simpa using hs⟩,?_⟩;have e:=áa;simp only[ŭ]at e;omega
def zI.OA(I:zI X z7 σ H s)(h:yd X.K H a xs)(h':yd X.K H a ys):xs=ys:=by
 obtain⟨c,r,⟨o,n,e,_,_,d⟩,_⟩:=Âa h;obtain⟨b,i,⟨k,j,f,_,_,g⟩,_⟩:=Âa h';rw[e]at f;cases f;rw[d]at g;injection g with d1 _
 have:c=b:=by simpa using Êa ŗp d1
 subst this;exact r.inj i
def zI.Be(I:zI X z7 σ H s)(h:y_ X.K H a xs)(h':y_ X.K H a ys):xs=ys:=by
 obtain⟨c,r,⟨o,e,_,n,d⟩,_⟩:=ãa h;obtain⟨b,i,⟨k,f,_,j,g⟩,_⟩:=ãa h';rw[e]at f;cases f;rw[d]at g;injection g with d1 _
 have:c=b:=by simpa using Êa ŗp d1
 subst this;exact r.inj i
#print a
abbrev Cx.gv(X:Cx)(E:Value->Ë->Prop):Cx:={ X with xe:=E }
abbrev Cx.tW(X:Cx):Cx:=X.gv λ_ _=>ô
theorem Cx.Ok.gv{X:Cx}(ok:X.Ok)(E:Value->Ë->Prop):(ðf).Ok:=
 ⟨ok.mod,ok.kind,ok.glob,ok.blt,ok.above,ok.inj,ok.has,ok.VH,ok.hd,êr,ok.Th,ok.Tc,ok.bs,ok.gs,ok.VM,ok.VI,ok.pP,ok.Y6⟩
def Cx.Ok.YA{X:Cx}{E:Value->Ë->Prop}(ok:(ðf).Ok):X.Ok:=
 ⟨ok.mod,ok.kind,ok.glob,ok.blt,ok.above,ok.inj,ok.has,ok.VH,ok.hd,êr,ok.Th,ok.Tc,ok.bs,ok.gs,ok.VM,ok.VI,ok.pP,ok.Y6⟩
section
variable{X:Cx}{z7:Á ë}{σ:St}{H:Hp}{s:Ë}{E:Value->Ë->Prop}
theorem zI.gv(I:zI X z7 σ H s)(E:Value->Ë->Prop):zI ðf z7 σ H s:=⟨I.ok.gv E,Ŷc,ãb,Ģh,ħa,ŝa,âb,Ìc,ša,Đ,Ŕb⟩
theorem zI.YA(I:zI ðf z7 σ H s):zI X z7 σ H s:=⟨I.ok.YA,Ŷc,ãb,Ģh,ħa,ŝa,âb,Ìc,ša,Đ,Ŕb⟩
theorem SP.YA{D:uF}{f:Flow}{s':Ë}(h:SP ðf z7 D f s'):SP X z7 D f s':=by
 cases f with
 |next=>obtain⟨σ',a,I,q⟩:=h;exact⟨σ',a,I.YA,q⟩
 |brk=>obtain⟨σ',a,I,q⟩:=h;exact⟨σ',a,I.YA,q⟩
 |Éc=>obtain⟨σ',a,I,q⟩:=h;exact⟨σ',a,I.YA,q⟩
 |ret u=>obtain⟨v,σ',a,I,r,q⟩:=h;exact⟨v,σ',a,I.YA,r,q⟩
theorem t4.tW{st:Á Õ}{t:TS}(h:t4 X.tW st t):t4 X st t:=λz7 s σ H D I a=>
 Ėa (h z7 s σ H D (I.gv _) a) (λ_ _ q=>q.YA) λ_ _ z=>Ĝa z
#print a
section
variable{X:Cx}{st:Õ}{ĵ:Á Õ}{t u:TS}{e:Ñ}{te:TE}{pos:Pos}
noncomputable def y8s:TS:=λD σ H=>źa σ H
noncomputable def y91(t u:TS):TS:=λD σ H=>t { D with nx:=u D } σ H
def fL:t4 X [] y8s:=λ_ _ σ H _ I h=>Ŷf ⟨σ,H,I,h⟩
def fK(c:PS X st t)(e:t4 X ĵ u):t4 X (st::ĵ) (y91 t u):=by
 intro a s σ H D I h;refine Đo (zn (c a s σ H { D with nx:=u D } I h) λf d q=>?_);cases f with
 |next=>obtain⟨σ',g,b,q⟩:=q;exact e a d σ' g D b q
 |ret v=>exact q|brk=>exact q|Éc=>exact q
def fM(a:PS X st t):t4 X [st] t:=by
 intro b s σ H D I h;refine Đo (zn (a b s σ H D I h) λf c q=>?_);cases f with
 |next=>exact Ŷf q|ret v=>exact q|brk=>exact q|Éc=>exact q
def zI.quiet{a:Á ë}{σ:St}{H:Hp}{s:Ë}(I:zI X a σ H s):ãq Ô=Â:=by simp[ãq,Ļb]
noncomputable def lg(te:TE):TS:=λD σ H=>te σ H λ_ a=>źa σ a
def fG(f:PE X e te)(d:Ê Ķm q12):PS X ïj (lg te):=by intro g s σ H D I h;exact wpAny_Expr_any (zn Ço λv i ⟨x,c,a,j,b⟩=>⟨σ,c,a,b⟩) I.quiet d
noncomputable def y8z(te:TE):TS:=λD σ H=>te σ H D.rt
def Lm(f:PE X e te):PS X Âg (y8z te):=by intro g s σ H D I h;exact wpAny_Return_some (zn Ço λv i ⟨x,c,a,d,b⟩=>⟨x,σ,c,a,d,b⟩)
noncomputable def y8m(c:TT)(t u:TS):TS:=λD σ H=>c σ H λb a=>if b=Ã then t D σ a else u D σ a
def fH{c:Ñ}{a b:Á Õ}{k:TT}(n:PT X c k)(l:t4 X a t)(m:t4 X b u):PS X (.If c a b pos) (y8m k t u):=by
 intro e s σ H D I h;refine wpAny_If (Φd (n e s σ H _ I h));cases d with
 |Ã=>exact l e g σ j D f i|Â=>exact m e g σ j D f i
noncomputable def y8r:TS:=λ_ _ _=>ô
def y3y{a:Á Õ}:t4 X a y8r:=λ_ _ _ _ _ _ h=>Õl
#print a
abbrev TG:=V->St->Hp->êp->Prop
abbrev kC:=Á V->St->Hp->êp->Prop
def PG(X:Cx)(a:Ñ)(t:TG):Prop:=
 ∀(z7:Á ë) (s:Ë) (σ:St) (H:Hp) (v:V) (u:Value) (Q:St->Hp->Prop),zI X z7 σ H s->zx v u->t v σ H Q->
  Ù ü X.A (Ćc a Ô u) (λ_ b=>∃σ' H',zI X z7 σ' H' b/\Q σ' H') Ĥ s
def QN(X:Cx)(b:Á Ñ)(t:kC):Prop:=
 ∀(z7:Á ë) (s:Ë) (σ:St) (H:Hp) (vs:Á V) (us:Á Value) (Q:St->Hp->Prop),zI X z7 σ H s->zo vs us->t vs σ H Q->
  Ù ü X.A (assignInOrder ((ŋd b Ô).map (·.2)) us) (λ_ a=>∃σ' H',zI X z7 σ' H' a/\Q σ' H') Ĥ s
abbrev OJ:=V->V->V->Hp->Àr->Prop
def DK(X:Cx)(t:OJ):Prop:=
 ∀(z7:Á ë) (s:Ë) (σ:St) (H:Hp) (o i v:V) (ov iv u:Value) (Q:Hp->Prop),zI X z7 σ H s->zx o ov->zx i iv->zx v u->t o i v H Q->
  Ù ü X.A (œk ov iv u) (λ_ a=>∃H',zI X z7 σ H' a/\Q H') Ĥ s
abbrev Vu:=V->V->Hp->VK->Prop
def QO(X:Cx)(a:Ôe)(t:Vu):Prop:=
 ∀(z7:Á ë) (s:Ë) (σ:St) (H:Hp) (x y:V) (v u:Value) (Q:VK),zI X z7 σ H s->zx x v->zx y u->t x y H Q->
  Ù ü X.A (Áf a v u) ũb Ĥ s
section
variable{X:Cx}{pos:Pos}
noncomputable def uk(i:Nat):TG:=λv σ H Q=>Q ŭd H
def y35{i:Nat}{x:Str}(b:ğa)(hi:X.N[i]?=À x)(c:pW éa x)(d:Ê ża q7):PG X ýa ċc:=by intro e s σ H v u Q I r h;exact Ýo (Nr I b hi c r (λf a=>⟨_,H,a,h⟩) d)
noncomputable def WA:kC:=λa σ H Q=>a=[]/\Q σ H
noncomputable def j5(t:TG)(u:kC):kC:=λb σ H Q=>∃v r,b=v::r/\t v σ H λσ' a=>u r σ' a Q
def y39:QN X [] WA:=by intro c s σ H a b Q I r h;obtain⟨e,h⟩:=h;subst e;cases r;exact assignInOrder_nil ⟨σ,H,I,h⟩
def y38{e:Ñ}{es:Á Ñ}{t:TG}{u:kC}(b:PG X e t)(j:QN X es u)(i:Ê ((ĝp).map (·.2)=Ćc e Ô::(ŋe).map (·.2)) q12):QN X ė (j5 t u):=by
 intro a s σ H m k Q I r h;obtain⟨v,l,e1,h⟩:=h;subst e1;cases r with
 |đ r rr=>rw[i];refine assignInOrder_cons (zn (b a s σ H _ _ _ I r h) λ_ d ⟨σ1,g,c,f⟩=>?_);exact j a d σ1 g _ _ Q c rr f
noncomputable def WB(K:Ì)(n:Nat)(t:kC):TG:=λv σ H Q=>∃a xs,v=.ref a/\y_ K H a xs/\à=n/\t xs σ H Q
def y37{es:Á Ñ}{k:Nat}{t:kC}{n:Nat}(y:ų=Ã)(h:QN X es t)(m:Ê Ĵo q12)(d:Ê ((ŋe).findIdx? (·.1)=Ä) q12):PG X ąo Âq:=by
 intro f s σ H v u Q I r c;obtain⟨a,x,e1,l,i,c⟩:=c;subst e1;cases r;obtain⟨q,g,p,A⟩:=ãa l;refine assign_Tuple_tuple Ũk p (by simp[m,<-i,Ďa]) d λw z=>?_
 have j:zI X f σ H { s with å:=w }:=ñe (t':=Č) λb o e=>z b o ík e
 exact h f _ σ H x _ Q j Éo c
noncomputable def bq(e a:TE)(t:OJ):TG:=λv σ H Q=>e σ H λo b=>a σ b λi c=>t o i v c λd=>Q σ d
def y36{o i:Ñ}{c b:TE}{t:OJ}(m:PE X o c)(hi:PE X i b)(B:DK X t)(p:∀v,Ćc ďi Ô v=(do
   let ov <-holding [v] Ćq
   let iv <-holding [v,ov] (č i Ô)
   standAt pos
   holding ċr (œk ov iv v)
   release ċr []):=by intro _;rfl):PG X ďi (bq c b t):=by
 intro a s σ H v u Q I r h;rw[p];refine Ò (ùb (zn (m a s σ H _ I h) λov q ⟨x,z,f,k,w⟩=>?_));refine Ò (ùb (zn (hi a q σ z _ f w) λiv n ⟨y,A,d,j,C⟩=>?_));refine Ò (Èg (Ò (ùb (zn (B a n σ A x y v ov iv u _ d k j r C) λ_ E ⟨l,e,g⟩=>?_))));exact wpAny_release ⟨σ,l,e,g⟩
noncomputable def Nt(b:TE)(g:TG):TS:=λD σ H=>b σ H λx a=>g x σ a źa
def Go{tg e:Ñ}{b:TE}{g:TG}(o:PE X e b)(j:PG X tg g)(n:Ê Åm q12)(f:Ê èm q12)(c:Ê ((Íp).map (·.2)=Řp) q12):PS X ĭn (Nt b g):=by intro a s σ H D I h;refine wpAny_Assign_stores (zn (o a s σ H _ I h) λv k ⟨x,m,d,i,l⟩=>?_) n f;rw[c];exact zn (j a k σ m x v _ d i l) λ_ p q=>q
def y3x{i:Nat}{x:Str}{e:Ñ}{b:TE}{a:Pos}(f:ğa)(hi:X.N[i]?=À x)(g:pW éa x)(o:PE X e b)(n:Ê (űb e (À (.Name x a)) ķc Ô=pure Â) q12)(p:Ê ża q7) :PS X (.Assign [.Name x a] e pos) (Nt b ċc):=by intro k s σ H D I h;refine wpAny_Assign_Name (zn (o k s σ H _ I h) λv r ⟨y,m,d,j,l⟩=>?_) n;exact Nr d f hi g j (λq c=>⟨_,m,c,l⟩) p
noncomputable def y8f(i:Nat)(c:TE)(a:Vu):TS:=λD σ H=>∃x,σ[i]?=À (À x)/\c σ H λy b=>a x y b λz d=>źa (μ (À z)) d
def Gp{i:Nat}{x:Str}{e:Ñ}{p:TE}{n:Ôe}{q:Vu}{d:Pos}(C:ğa)(hi:X.N[i]?=À x)(f:pW éa x)(K:PE X e p)(G:QO X n q)(hf:Ê ża q7) :PS X (.AugAssign (.Name x d) n e pos) (y8f i p q):=by
 intro g s σ H D I h;obtain⟨v,e1,h⟩:=h;obtain⟨m,F,B⟩:=ħa;have j:jW éa x:=by rcases f with k|k;exact .inl k;exact .inr (.inl k)
 obtain⟨u,r,l⟩:=B i x v hi e1 j;refine wpAny_AugAssign_Name ?_
 have o:Ù ü X.A Śe (λw S=>Ù ü X.A (Áf n u w) (λr W=>Ù ü X.A (storeName Ô x r) (λ_=>SP X g D .next) Ĥ W) Ĥ S) Ĥ s:=by
  refine zn (K g s σ H _ I h) λw T ⟨y,Y,P,Q,U⟩=>?_
  refine zn (G g T σ Y v y u w _ P r Q U) λz s2 ⟨zv,J,t,E,L⟩=>?_
  exact Nr t C hi f E (λs3 O=>⟨_,J,O,L⟩) hf
 rcases l with⟨a,R⟩|⟨a,c,Z,b⟩;exact Čn Ļb a F R o;rcases a with a|a;exact ĳn Ļb a Z b o;rcases f with k|k;have:Ļd x=À .free:=a;rw[k]at this;cases this;have:Ļd x=À .free:=a;rw[k]at this;cases this
noncomputable def cU(f:Int->Int->Int):Vu:=λx y H Q=>∃i j,x=.int i/\y=.int j/\Q (Β (f i j)) H
def Ek:QO X .Add Ťo:=by intro d s σ H x y v u Q I b a h;obtain⟨i,j,e1,e2,q⟩:=h;subst e1;subst e2;obtain⟨t,rfl⟩:=b;obtain⟨c,rfl⟩:=a;exact iadd_int ⟨.int _,H,Ãa _,⟨_,rfl⟩,q⟩
#print a
section
variable{X:Cx}{pos:Pos}
noncomputable def y97(c:TT)(d:TS):TS:=λD σ H=>∃W:Nat->St->Hp->Prop,(∃m,W m σ H)/\∀m σ H,W m σ H->
 c σ H λb a=>if b=Ã then ∃N:St->Hp->Prop,(∀σ' H',N σ' H'->∃m',m'<m/\W m' σ' H')/\d { D with nx:=N,ct:=N,bk:=źa } σ a else źa σ a
def fJ{c:Ñ}{a:Á Õ}{t:TT}{u:TS}(x:ód ü X.A Ô Ĥ)(L:PT X c t)(B:t4 X a u):PS X (.While c a [] pos) (y97 t u):=by
 intro j s σ H D I h;obtain⟨W,⟨C,E⟩,d⟩:=h;refine wpAny_While (codeAny_whileLoop (λn O=>∃σ' H',zI X j σ' H' O/\W n σ' H') ?_ C ⟨σ,H,I,E⟩);rintro n K ⟨σ1,z,F,G⟩;refine Çd x (zn (L j K σ1 z _ F (d n σ1 z G)) λb J ⟨y,q,g⟩=>?_);cases b with
 |Ã=>
  obtain⟨N,r,g⟩:=g;rw[Î rfl];refine Çd x (zn (B j J σ1 y _ q g) λf P i=>?_);cases f with
  |next=>obtain⟨σ3,e,l,p⟩:=i;obtain⟨k,o,m⟩:=r σ3 e p;exact⟨k,o,σ3,e,l,m⟩
  |Éc=>obtain⟨σ3,e,l,p⟩:=i;obtain⟨k,o,m⟩:=r σ3 e p;exact⟨k,o,σ3,e,l,m⟩
  |brk=>exact i|ret v=>exact i
 |Â=>rw[Ð ŉ];exact Ŷf ⟨σ1,y,q,g⟩
#print a
structure It where
 go:Nat->Hp->Prop
 ua:Nat->Hp->V->Hp->Prop
 Ś:Nat->Hp->Prop
def jS(X:Cx)(a:Á ë)(H:Hp)(b:È):Prop:=
 H b=Ä/\b≠Òa/\b ∉ ţa/\Íg/\(∀x c,īa x=À c->c≠b)/\∀p∈ēc++a,p.1≠b
def zI.Z8{X:Cx}{d:Á ë}{σ:St}{H H':Hp}{s:Ë}{b:È}(I:zI X d σ H s)(a:Ú<=b)(g:H' b=Ä):jS X d H' b:=by refine⟨g,įb (Ů I.lt a),I.Ry a,.inr (Ġ I.sz a),λx c e z=>?_,λp f z=>?_⟩;obtain⟨v,q⟩:=ŝa x c e;exact Û (Ů q.lt Ío) Üa;exact Û (Ů (Ĝ (ša p f).1) Ío) Üa
structure gC(P:æ)(w:ß)(K:Ì)(tg:Ñ)(J:It)(fp:Á È)(it:È)(tn:Nat->Heap->Prop):Prop where
 mem:it∈fp
 obj:∀i h,tn i h->∀b∈fp,∃o,Ģ b=À o/\∀v,Ŝa≠.cell v
 Īa:∀i h h',tn i h->(∀b∈fp,∀o,Ģ b=À o->Ğ b=À o)->tn i h'
 ïb:∀(X:Cx),ò=P->X.w=w->X.K=K->ų=Ã->∀(i:Nat)(z7:Á ë) (s:Ë) (σ:St) (H:Hp) (E:Value->Ë->Prop),zI X z7 σ H s->(∀b∈fp,jS X z7 H b)->tn i Ý->J.go i H->
  Ù ųb X.A Ēr (λr s1=>∃u,r=À u/\
   Ù ųb X.A Ëp (λ_ s2=>∃x H',zI X z7 σ H' s2/\zx x u/\J.ua i H x H'/\tn ê s2.heap/\∀b∈fp,H' b=Ä) E s1) E s
 done:∀(X:Cx),ò=P->X.w=w->X.K=K->ų=Ã->∀(i:Nat)(z7:Á ë) (s:Ë) (σ:St) (H:Hp) (E:Value->Ë->Prop),zI X z7 σ H s->(∀b∈fp,jS X z7 H b)->tn i Ý->Ġh i H->
  Ù ųb X.A Ēr (λr s1=>r=Ä/\zI X z7 σ H s1) E s
 Çc:∀(A:ó)(i:Nat)(s:Ë)(Q:Value->Ë->Prop)(E:Value->Ë->Prop),tn i Ý->Q ăb s->Ù ųb A (ėf ăb) Q E s
abbrev TI:=St->Hp->(It->Hp->Prop)->Prop
def DJ(X:Cx)(d:Á ë)(σ:St)(tg:Ñ)(R:It->Hp->Prop)(a:Value)(c:Ë):Prop:=
 ∃(it:È) (fp:Á È) (tn:Nat->Heap->Prop) (J:It) (H':Hp),a=.ref it/\zI X d σ H' c/\gC ò X.w X.K tg J fp it tn/\tn 0 Ěd/\(∀b∈fp,jS X d H' b)/\R J H'
def PI(X:Cx)(tg a:Ñ)(c:TI):Prop:=
 ∀(z7:Á ë) (s:Ë) (σ:St) (H:Hp) (R:It->Hp->Prop),zI X z7 σ H s->c σ H R->
  Ù ü X.A Ĉq (λv b=>Ù ü X.A (ėf v) (DJ X z7 σ tg R) Ĥ b) Ĥ s
def UH{M:ýe}{A:ó}{E:Value→Ë→Prop}{s:Ë}{tg:Ñ}{it:È}{u:Value}{o:Obj}{n:Áa}{vs:Ø Value}{Q:Ľa→Ë→Prop}(d:ā it=À o)(c:Ğb=.type n)(b:Ŝa=.fields vs)(e:[çc,ĺa,İn,Ŏm,ĉo,žm,ċn].contains n=Â)(a:Q () s):Ù M A Ëp Q E s:=by
  unfold Çg
  cases tg<;>first
    |exact ě a
    | (cases u<;>first
        |exact ě a
        | (refine Ò (Ĺq d ?_)
           rw[c,b];show Ù M A (δb ([çc,ĺa,İn,Ŏm,ĉo,žm,ċn].contains n&&vs[0]?==À (ąf _))) Q E s;rw[Ð (by intro h;rw[e,Įc]at h;cases h)];exact ě a))
noncomputable def DC(K:Ì)(a:È):It:=
 ⟨λi H=>∃xs x,yd K H a xs/\xs[i]?=À x,λi H x b=>b=H/\∀xs,yd K H a xs->xs[i]?=À x,λi H=>∃xs,yd K H a xs/\à<=i⟩
noncomputable def DE(K:Ì)(a:È):It:=
 ⟨λi H=>∃xs x,y_ K H a xs/\xs[i]?=À x,λi H x b=>b=H/\∀xs,y_ K H a xs->xs[i]?=À x,λi H=>∃xs,y_ K H a xs/\à<=i⟩
noncomputable def OD(lo:Int)(n:Nat):It:=⟨λi _=>i<n,λi H x a=>a=H/\x=.int åb,λi _=>n<=i⟩
def x2r{P:æ}{w:ß}{K:Ì}{tg:Ñ}(a it:È):gC P w K tg Ŀk ĕc it (λi h=>ąj it a i) where
 mem:=by simp
 obj:=λi h st b f=>by
  have e:b=it:=by simpa using f
  subst e;obtain⟨o,e,c,d⟩:=st;exact⟨o,e,λv z=>by rw[d]at z;cases z⟩
 Īa:=λi h j st k=>ĵh λo e=>k it â o e
 ïb:=by
  intro X B q C O i N s σ H E I m st F;subst B q C;obtain⟨R,x,l,r⟩:=F;obtain⟨y,G,p,Z⟩:=Âa l;obtain⟨u,hu,Y⟩:=G.get r;obtain⟨J,t,S,L,n,A⟩:=m it â;refine Òn st Żg (x:=u) œn λj g U=>?_
  have T:zI X N σ H { s with å:=j }:=Ųa (t':=Č) ěm J t L n A;obtain⟨o,e,c,d⟩:=id g;exact⟨u,rfl,UH (s:={ s with å:=j }) e c d É ⟨x,H,T,Y,⟨rfl,λys hy=>by rw[I.OA hy l];exact r⟩,g,λb f=>(m b f).1⟩⟩
 done:=by intro X B q C O i N s σ H E I m st F;subst B q C;obtain⟨R,l,r⟩:=F;obtain⟨y,G,p,Z⟩:=Âa l;obtain⟨J,t,S,L,n,A⟩:=m it â;have hl:=ĭk;exact în (ĵa O) st Żg ťo λj Q=>⟨rfl,Ųa (t':=Č) Þn J t L n A⟩
 Çc:=λ_ _ _ _ _ st h=>wpAny_pyIter_listiter st h
def x2u{P:æ}{w:ß}{K:Ì}{tg:Ñ}(a it:È):gC P w K tg ľk ĕc it (λi h=>ăp it a i) where
 mem:=by simp
 obj:=λi h st b f=>by
  have e:b=it:=by simpa using f
  subst e;obtain⟨o,e,c,d⟩:=st;exact⟨o,e,λv z=>by rw[d]at z;cases z⟩
 Īa:=λi h l st k=>ĵh λo e=>k it â o e
 ïb:=by
  intro X B r C O i N s σ H E I n st F;subst B r C;obtain⟨R,x,m,t⟩:=F;obtain⟨g,G,p,Z⟩:=ãa m;obtain⟨u,hu,Y⟩:=G.get t;obtain⟨J,y,S,L,q,A⟩:=n it â;refine wpAny_pyNext_tuple_item st (show ŧd a ôr from p) (x:=u) œn λl j U=>?_
  have T:zI X N σ H { s with å:=l }:=Ųa (t':=Č) ěm J y L q A;obtain⟨o,e,c,d⟩:=id j;exact⟨u,rfl,UH (s:={ s with å:=l }) e c d É ⟨x,H,T,Y,⟨rfl,λys hy=>by rw[I.Be hy m];exact t⟩,j,λb f=>(n b f).1⟩⟩
 done:=by intro X B r C O i N s σ H E I n st F;subst B r C;obtain⟨R,m,t⟩:=F;obtain⟨g,G,p,Z⟩:=ãa m;obtain⟨J,y,S,L,q,A⟩:=n it â;have hl:=ĭk;exact wpAny_pyNext_tuple_end (ĵa O) st (show ŧd a ôr from p) ťo λl Q=>⟨rfl,Ųa (t':=Č) Þn J y L q A⟩
 Çc:=λ_ _ _ _ _ st h=>wpAny_pyIter_tupleiter st h
def x2s{P:æ}{w:ß}{K:Ċj}{tg:Ñ}(it:È)(lo:Int)(n:Nat):gC P w K tg Ŗr ĕc it (λi h=>òq h it (lo+(i:Nat)*1) ((n:Int)-(i:Nat)) 1) where
 mem:=by simp
 obj:=λi h st b a=>by
  have e:b=it:=by simpa using a
  subst e
  exact⟨_,st,λv z=>by have C:Data.fields _=Data.cell v:=z;cases C⟩
 Īa:=λi h d st k=>k it â _ st
 ïb:=by
  intro X p j q y i B s σ H E I f st r;subst p j q;obtain⟨u,l,G,x,g,m⟩:=f it â;have W:=Walks.range (Ě:=ò) (w:=X.w) Ũk it lo 1 n;refine ßl i s _ _ r st λv d A L c N=>?_
  obtain⟨t,rfl⟩:=L;have J:zI X B σ H { s with å:=d,ē:=A }:=Ųa (λb o a e=>N b o ħi e) u l x g m;refine⟨_,rfl,UH (s:={ s with å:=d,ē:=A }) (n := "range_iterator") c rfl rfl É ⟨.int åb,H,J,⟨t,?_⟩,⟨rfl,rfl⟩,c,λb a=>(f b a).1⟩⟩;rw[ūe]
 done:=by intro X p j q y i B s σ H E I f st r;subst p j q;obtain⟨u,l,G,x,g,m⟩:=f it â;exact wpAny_pyNext_range_end Ũk st (by have:n<=i:=r;omega) λd F=>⟨rfl,Ųa (t':=Č) (λb o a e=>F b o a e) u l x g m⟩
 Çc:=λ_ _ _ _ _ st h=>wpAny_pyIter_rangeiter st h
section
variable{X:Cx}{tg:Ñ}
def z42(K:Ì)(c:TE):TI:=λσ H R=>c σ H λx b=>∃a,x=.ref a/\(∃xs,yd K b a xs)/\R Ŀk b
def z45(K:Ì)(c:TE):TI:=λσ H R=>c σ H λx b=>∃a,x=.ref a/\(∃xs,y_ K b a xs)/\R ľk b
def y3e{l:Ñ}{f:TE}(g:PE X l f):PI X tg l (z42 X.K f):=by
 intro k s σ H R I h;refine zn (g k s σ H _ I h) λv d ⟨x,t,c,j,r⟩=>?_
 obtain⟨a,e,⟨y,m⟩,q⟩:=r;subst e;cases j;obtain⟨n,u,p,w⟩:=c.list m;refine Ŀd Żg ?_;refine⟨Ňi,[Ňi],_,_,t,rfl,c.kept (t':=d.toks) λb o e=>ģ _ e,x2r a _,⟨_,Ŭ _ rfl,rfl,rfl⟩,λb i=>?_,q⟩;have e:b=Ňi:=by simpa using i
 subst e;exact c.Z8 Ċ (Ŗj Ċ)
def y3h{l:Ñ}{g:TE}(i:PE X l g):PI X tg l (z45 X.K g):=by
 intro m s σ H R I h;refine zn (i m s σ H _ I h) λv c ⟨x,t,d,k,r⟩=>?_
 obtain⟨a,e,⟨y,n⟩,q⟩:=r;subst e;cases k;obtain⟨f,u,p,w⟩:=d.tuple n;refine ßi (show c.heap.IsTuple a f.toArray from p) ?_;refine⟨Ţb,[Ţb],_,_,t,rfl,Ùl (t':=ęd) λb o e=>ģ _ e,x2u a _,⟨_,Ŭ _ rfl,rfl,rfl⟩,λb j=>?_,q⟩;have e:b=Ţb:=by simpa using j
 subst e;exact d.Z8 Ċ ēr
def y4x{c:Á ë}{σ:St}{H:Hp}{s:Ë}{R:It->Hp->Prop}{E:Value->Ë->Prop}{lo hi:Int}{t u v:Tok}{tk:Nat}(I:zI X c σ H s)(d : -Łk<=lo)(h:lo<2 ^ 62)(i : -Łk<=hi)(f:hi<2 ^ 62)(q:R (OD lo (Čh).toNat) H):Ù ü X.A (ėf ðc) (DJ X c σ tg R) E { s with å:=Ŧa { cls:=.type Àc,Ą:=.fields #[.int lo t,.int hi u,.int 1 v] },ē:=tk }:=by
 refine wpAny_pyIter_range (IsRange.new ..) (small_one d h i f) ?_;have a:zI X c σ H { s with å:=Ŧa { cls:=.type Àc,Ą:=.fields #[.int lo t,.int hi u,.int 1 v] },ē:=tk }:=ñe λb o e=>ģ _ e
 refine⟨(Œh).objs.size,[(Œh).objs.size],_,_,H,rfl,
  a.kept (t':=tk) λb o e=>ģ _ e,x2s _ lo (Čh).toNat,?_,λb g=>?_,q⟩
 have e1:lo+((0:Nat):Int)*1=lo:=by simp
 have e2:(((Čh).toNat:Nat):Int)-((0:Nat):Int)=Builtin.Range.rangeSize lo hi 1:=by rw[rangeSize_one];split<;>omega
 show òq _ _ (lo+((0:Nat):Int)*1) ((((Čh).toNat:Nat):Int)-((0:Nat):Int)) 1;rw[e1,e2];exact Ŭ _ rfl;have e:b=(Œh).objs.size:=by simpa using g
 subst e;exact a.Z8 Ċ (a.zf.fresh Ċ)
def z43(a:TA):TI:=λσ H R=>a σ H λb c=>∃j:Int,b=[.int j] /\ -Łk<=j/\j<2 ^ 62/\R (OD 0 þd) c
def y3f{a:Ñ}{c:TA}{p pos:Pos}(k:Gl X Àc)(i:î Àc=Ä)(l:PA X [a] c)(m:Ê Żh q12):PI X tg Ŀn (z43 c):=by
 intro g s σ H R I h;refine Call_ (WM I k i boot_range (Ŝf (zn (l pos g s σ H _ I h) λo u ⟨v,w,d,f,b⟩=>?_) m rfl));obtain⟨j,e,b,n,q⟩:=b;subst e;cases f with
 |đ r rr=>cases rr;obtain⟨t,rfl⟩:=r;exact call_range_1 (y4x d Å Å b n (by simpa using q))
noncomputable def y8k(b:TI)(g:TG)(a:TS):TS:=λD σ H=>b σ H λJ c=>∃W:Nat->Nat->St->Hp->Prop,(∃m,W 0 m σ c)/\∀i m σ H,W i m σ H->
 (Ġh i H/\źa σ H)\/(J.go i H/\∃N:St->Hp->Prop,(∀σ' H',N σ' H'->∃m',m'<m/\W ê m' σ' H')/\∀x H',J.ua i H x H'->g x σ H' λσ2 d=>a { D with nx:=N,ct:=N,bk:=źa } σ2 d)
noncomputable def Jb(a:Á È)(h:Heap):Á ë:=a.filterMap λb=>(Ģ b).map λo=>(b,o)
def Ld{a:Á È}{h:Heap}{b:È}{o:Obj}(c:b∈a)(e:Ģ b=À o):(b,o)∈Jb a h:=List.mem_filterMap.mpr ⟨b,c,by rw[e];rfl⟩
def z94{a:Á È}{h:Heap}{p:È×Obj}(c:p∈Jb a h):p.1∈a/\Ģ p.1=À p.2:=by
 obtain⟨b,f,e⟩:=List.mem_filterMap.mp c;cases q:Ģ b with
 |Ä=>rw[q]at e;cases e|À o=>rw[q]at e;have d:(b,o)=p:=ła e;subst d;exact⟨f,q⟩
def zI.pinned{c:Á ë}{σ:St}{H:Hp}{s:Ë}{a:Á È}(I:zI X c σ H s)(m:∀b∈a,jS X c H b)(l:∀b∈a,∃o,ā b=À o/\∀v,Ŝa≠.cell v):zI X (c++Jb a Ý) σ H s:=
 I.Tg λp i=>(ça i).elim (λz=>ša p (Ža _ z)) λz=>by obtain⟨f,e⟩:=z94 z;obtain⟨j,k,h,_⟩:=m p.1 f;obtain⟨o,g,d⟩:=l p.1 f;rw[e]at g;cases g;exact⟨e,j,k,h,d⟩
def zI.Bf{a pl:Á ë}{σ:St}{H:Hp}{s:Ë}(I:zI X (a++pl) σ H s):zI X a σ H s:=I.Tg λp b=>ša p (Ža _ (ŉd _ b))
def Gq{p:Ñ}{q:Á Õ}{wi:TI}{g:TG}{Z:TS}{pos:Pos}(O:ód ü X.A Ô Ĥ)(hc:ų=Ã)(hi:PI X tg p wi)(hg:PG X tg g)(l:t4 X q Z)(hs:Ê (∀x,Īb p Ô x=pure x) q11):PS X (.For tg p q [] pos) (y8k wi g Z):=by
 intro y s σ H D I h;refine wpAny_For (zn (hi y s σ H _ I h) λv s1 h1=>zn h1 λitv s2 h2=>?_) hs;obtain⟨it,F,tn,J,H2,e,I2,T,Q,f2,W,⟨m0,w0⟩,C⟩:=h2;subst e;have k:∀{H':Hp},(∀b∈F,H' b=Ä)->∀b∈F,jS X y H' b:=λhn b l=>⟨hn b l,(f2 b l).2⟩
 refine codeAny_forLoop_any (λn s'=>∃i σ' H',zI X y σ' H' s'/\tn i Čd/\(∀b∈F,H' b=Ä)/\W i n σ' H') ?_ m0 ⟨0,σ,H2,I2,Q,λb l=>(f2 b l).1,w0⟩;rintro n s3 ⟨i,σ3,P,I3,G,B,w3⟩;rcases C i n σ3 P w3 with⟨E,qn⟩|⟨go,N,hN,K⟩;refine Çd O (zn (T.done X rfl rfl rfl hc i y s3 σ3 P Ĥ I3 (k B) G E) λr s4 ⟨Y,I4⟩=>?_);subst Y;exact Ŷf ⟨σ3,P,I4,qn⟩
 .refine Çd O (zn (T.item X rfl rfl rfl hc i y s3 σ3 P Ĥ I3 (k B) G go) λr s4 ⟨u,Y,h4⟩=>?_);subst Y;refine Çd O (zn h4 λ_ s5 ⟨x,H5,I5,r5,y5,z,U⟩=>?_);have S:=I5.pinned (k U) (ĸf _ _ z);refine Çd O (zn (hg _ s5 σ3 H5 x u _ S r5 (K x H5 y5)) λ_ s6 ⟨σ6,H6,I6,q6⟩=>?_);refine Çd O (zn (l _ s6 σ6 H6 _ I6 q6) λf R t=>?_)
  have j:∀{σ7:St}{c:Hp},zI X (y++Jb F s5.heap) σ7 c R->N σ7 c->∃m,m<n/\∃i σ' H',zI X y σ' H' R/\tn i R.heap/\(∀b∈F,H' b=Ä)/\W i m σ' H':=λ{σ7 c} a L=>by obtain⟨m',hm,w7⟩:=hN σ7 c L;refine⟨m',hm,i+1,σ7,c,a.Bf,Ġf _ _ _ z λb l o e=>Ñm.1,λb l=>?_,w7⟩;obtain⟨o,e,d⟩:=ĸf _ _ z b l;exact Ñm.2.1
  cases f with
  |next=>obtain⟨σ7,c,a,L⟩:=t;exact j a L
  |Éc=>obtain⟨σ7,c,a,L⟩:=t;exact j a L
  |brk=>obtain⟨σ7,c,a,t⟩:=t;exact⟨σ7,c,a.Bf,t⟩
  |ret v=>obtain⟨x7,σ7,c,a,r7,t⟩:=t;exact⟨x7,σ7,c,a.Bf,r7,t⟩
#print a
abbrev R2:=V->V->Hp->VK->Prop
def yj(X:Cx)(f:Value->Value->Sem Value)(r:R2):Prop:=
 ∀(z7:Á ë) (s:Ë) (σ:St) (H:Hp) (x y:V) (v u:Value) (Q:VK),zI X z7 σ H s->zx x v->zx y u->r x y H Q->
  Ù ü X.A Âl ũb Ĥ s
def QR(X:Cx)(f:Value->Sem Value)(r:V->Hp->VK->Prop):Prop:=
 ∀(z7:Á ë) (s:Ë) (σ:St) (H:Hp) (x:V) (v:Value) (Q:VK),zI X z7 σ H s->zx x v->r x H Q->
  Ù ü X.A (f v) ũb Ĥ s
def wu(X:Cx)(f:Value)(r:Á V->Hp->VK->Prop):Prop:=
 ∀(z7:Á ë) (s:Ë) (σ:St) (H:Hp) (xs:Á V) (us:Á Value) (Q:VK),zI X z7 σ H s->zo xs us->r xs H Q->
  Ù ü X.A (Źa f us) ũb Ĥ s
noncomputable def MZ(r:R2)(b a:TE):TE:=λσ H Q=>b σ H λx c=>a σ c λy d=>r x y d Q
noncomputable def y96(r:V->Hp->VK->Prop)(a:TE):TE:=λσ H Q=>a σ H λx b=>r x b Q
noncomputable def rI(C:Int->Int->Prop)(g:Int->Int->V):R2:=λx y H Q=>∃i j,x=.int i/\y=.int j/\C i j/\Q Ôb H
noncomputable def qb(g:Int->Int->V):R2:=λx y H Q=>∃i j,x=.int i/\y=.int j/\Q Ôb H
def rU(g:Int->V):V->Hp->VK->Prop:=λx H Q=>∃i,x=.int i/\Q (g i) H
section
variable{X:Cx}{a b c:Ñ}{ta tb:TE}{pos:Pos}
def Fq(k:PE X a ta)(j:PE X b tb){c:Á ë}{s:Ë}{σ:St}{H:Hp}{R:V->V->Hp->Prop}(I:zI X c σ H s)(h:ta σ H λx H1=>tb σ H1 λy H2=>R x y H2){Q:Value->Ë->Prop}{f:Value->Value->Sem Value}(o:∀v u s2 x y H2,zI X c σ H2 s2->zx x v->zx y u->R x y H2->Ù ü X.A Âl Q Ĥ s2) :Ù ü X.A Ĉq (λv s₁=>Ù ü X.A (č b Ô) (λu s₂=>Ù ü X.A Âl Q Ĥ s₂) Ĥ s₁) Ĥ s:=by
 refine zn (k c s σ H _ I h) λv l ⟨x,H1,e,i,m⟩=>?_
 refine zn (j c l σ H1 _ e m) λu s2 ⟨y,H2,d,g,n⟩=>?_
 exact o v u s2 x y H2 d i g n
def eh{c:Ôe}{r:R2}(i:yj X (Ëb c) r)(k:PE X a ta)(e:PE X b tb):PE X (.BinOp a c b pos) ėg:=by intro g s σ H Q I h;exact wpAny_BinOp (Fq k e I h λv u j x y l d f m q=>i g j σ l x y v u Q d f m q)
def y33{b:UnaryOp}{r:V->Hp->VK->Prop}(k:QR X (ëh b) r)(f:PE X a ta):PE X (.UnaryOp b a pos) (y96 r ta):=by intro c s σ H Q I h;exact UnaryOp_ (zn (f c s σ H _ I h) λv e ⟨x,i,d,j,g⟩=>k c e σ i x v Q d j g)
def UZ{f:Value->Value->Sem Value}{C:Int->Int->Prop}{g:Int->Int->Int}(a:∀(i j:Int)(t u:Tok)(s:Ë)(Q:Value->Ë->Prop)(E:Value->Ë->Prop),C i j->Q îp { s with ē:=Č+1 }->Ù ü X.A Ýi Q E s) :yj X f ãn:=by intro k s σ H x y v u Q I c e h;obtain⟨i,j,rfl,rfl,d,q⟩:=h;obtain⟨t,rfl⟩:=c;obtain⟨b,rfl⟩:=e;exact a i j t b s _ _ d ⟨.int Ôb,H,Ãa _,⟨_,rfl⟩,q⟩
def JW{f:Value->Value->Sem Value}{g:Int->Int->Int}(a:∀(i j:Int)(t u:Tok)(s:Ë)(Q:Value->Ë->Prop)(E:Value->Ë->Prop),Q îp { s with ē:=Č+1 }->Ù ü X.A Ýi Q E s) :yj X f ğr:=by intro e s σ H x y v u Q I c d h;obtain⟨i,j,rfl,rfl,q⟩:=h;obtain⟨t,rfl⟩:=c;obtain⟨b,rfl⟩:=d;exact a i j t b s _ _ ⟨.int Ôb,H,Ãa _,⟨_,rfl⟩,q⟩
def Li{f:Value->Value->Sem Value}{g:Int->Int->Í}(a:∀(i j:Int)(t u:Tok)(s:Ë)(Q:Value->Ë->Prop)(E:Value->Ë->Prop),Q (.bool Ôb) s->Ù ü X.A Ýi Q E s) :yj X f ōn:=by intro e s σ H x y v u Q I c d h;obtain⟨i,j,rfl,rfl,q⟩:=h;obtain⟨t,rfl⟩:=c;obtain⟨b,rfl⟩:=d;exact a i j t b s _ _ ⟨.bl Ôb,H,I,rfl,q⟩
def Bg(i j:Int):Prop:=0<=j/\j<=1000000/\Ąd<2 ^ 64
def Tj(i j:Int):Prop:=(-ßh<i/\i<2 ^ 64)\/(-ßh<j/\j<2 ^ 64)
def Tj.ok{i j:Int}(h:Tj i j):IntMulOk i j:=by rcases h with⟨a,b⟩|⟨a,b⟩;exact .of_left Őn;exact .of_right Őn
def x3t(k:Nat):(0:Int)<=2 ^ k:=by rw[two_pow_cast];exact Ÿc _
def y1v:yj X Âe (Γa (i+j)):=JW λ_ _ _ _ _ _ _ q=>âa q
def Yv:yj X (Ëb .Sub) ĉq:=JW λ_ _ _ _ _ _ _ q=>sub_int q
def tO:yj X ğg Üi:=UZ λ_ _ _ _ _ _ _ a q=>mul_int q a.ok
def xX:yj X (Ëb .Mod) Ųm:=UZ λi j _ _ _ _ _ a q=>by have b:(0:Int)<j:=a;exact mod_int' Å (by rw[Int.fmod_eq_emod_of_nonneg i Å];exact q)
def Zd:yj X (Ëb .LShift) ĉm:=UZ λ_ _ _ _ _ _ _ a q=>lshift_int_small a.1 a.2.1 a.2.2 q
def eJ:yj X (Ëb .RShift) Ăm:=UZ λi j _ _ _ _ _ a q=>
 rshift_int a (by rw[ŏm i (x3t _)];exact q)
def Gd:yj X (Ëb .BitAnd) (Γa (šb i j)):=JW λ_ _ _ _ _ _ _ q=>and_int q
def eI:yj X (Ëb .BitOr) (Γa (âd i j)):=JW λ_ _ _ _ _ _ _ q=>or_int q
def y2a:yj X (Ëb .BitXor) (Γa (żi i j)):=JW λ_ _ _ _ _ _ _ q=>xor_int q
def m4{f:Value->Sem Value}{g:Int->Int}(a:∀(i:Int)(t:Tok)(s:Ë)(Q:Value->Ë->Prop)(E:Value->Ë->Prop),Q (.int (g i) Č) { s with ē:=Č+1 }->Ù ü X.A (f ňg) Q E s) :QR X f (Δc (g i)):=by intro c s σ H x v Q I b h;obtain⟨i,rfl,q⟩:=h;obtain⟨t,rfl⟩:=b;exact a i t s _ _ ⟨.int (g i),H,Ãa _,⟨_,rfl⟩,q⟩
def P7:QR X (ëh .USub) (Δc (-i)):=m4 λ_ _ _ _ _ q=>neg_int q
def x48:QR X (ëh .Invert) (Δc Ūk):=m4 λ_ _ _ _ _ q=>invert_int q
def y1w:yj X Âe (λx y H Q=>∃i k,x=.int i/\y=.bl k/\Q Őo H):=by intro c s σ H x y v u Q I a b h;obtain⟨i,k,rfl,rfl,q⟩:=h;obtain⟨t,rfl⟩:=a;cases b;exact add_int_bool ⟨.int (i+b2i k),H,Ãa _,⟨_,rfl⟩,q⟩
#print a
noncomputable def NT:V->V->Í
 |.zE,.zE=>Ã|.zE,.int _=>Ã|.int _,.zE=>Ã|.zE,.bl _=>Ã|.bl _,.zE=>Ã|.zE,.str _=>Ã|.str _,.zE=>Ã|.int _,.int _=>Ã|.bl _,.bl _=>Ã|.str _,.str _=>Ã|.byt _,.byt _=>Ã|.int _,.str _=>Ã|.str _,.int _=>Ã|.bl _,.str _=>Ã|.str _,.bl _=>Ã|_,_=>Â
def y4k:R2:=λx y H Q=>NT x y=Ã/\Q (Ψa (x=y)) H
def y4p:R2:=λx y H Q=>NT x y=Ã/\Q (.bl (!decide (x=y))) H
def C6{i j:Int}:decide (üe i=üe j)=Ĭf:=by rw[īc];simp
def C5{i j:Í}:decide (V.bl i=V.bl j)=Ĭf:=by rw[īc];simp
def C7{i j:Str}:decide (V.str i=V.str j)=Ĭf:=by rw[īc];simp
def bI{i j:Ø UInt8}:decide (V.byt i=V.byt j)=(i.toList==j.toList):=by rw[īc];cases i;cases j;simp
section
variable{X:Cx}{a b c:Ñ}{ta tb:TE}{pos:Pos}
def wG{a:Á ë}{σ:St}{H:Hp}{s:Ë}{Q:VK}{k b:Í}(I:zI X a σ H s)(q:Q Đf H)(e:k=b):EP X a σ Q Ÿg s:=by subst e;exact⟨.bl k,H,I,rfl,q⟩
def y20:yj X ĩr y4k:=by
 intro e s σ H x y v u Q I d a h;obtain⟨c,q⟩:=h;cases x with
 |zE=>
  cases d;cases y with
  |zE=>cases a;exact PySem.EqNone.eq_none_none Ýa|bl j=>cases a;exact PySem.EqNone.eq_none_bool Ýa|int j=>obtain⟨b,rfl⟩:=a;exact PySem.EqNone.eq_none_int Ýa
  |str j=>obtain⟨b,rfl⟩:=a;exact PySem.EqNone.eq_none_str Ýa
  |_=>exact Û (show Â=Ã from c) ŉ
 |bl i=>
  cases d;cases y with
  |zE=>cases a;exact PySem.EqNone.eq_bool_none Ýa|bl j=>cases a;exact eq_bool (wG I q C5)|str j=>obtain⟨b,rfl⟩:=a;exact PySem.EqMixed.eq_bool_str Ýa
  |_=>exact Û (show Â=Ã from c) ŉ
 |int i=>
  obtain⟨t,rfl⟩:=d;cases y with
  |zE=>cases a;exact PySem.EqNone.eq_int_none Ýa|int j=>obtain⟨b,rfl⟩:=a;exact Ęd (wG I q C6)
  |str j=>obtain⟨b,rfl⟩:=a;exact PySem.EqMixed.eq_int_str Ýa
  |_=>exact Û (show Â=Ã from c) ŉ
 |str i=>
  obtain⟨t,rfl⟩:=d;cases y with
  |zE=>cases a;exact PySem.EqNone.eq_str_none Ýa|bl j=>cases a;exact PySem.EqMixed.eq_str_bool Ýa|int j=>obtain⟨b,rfl⟩:=a;exact PySem.EqMixed.eq_str_int Ýa
  |str j=>obtain⟨b,rfl⟩:=a;exact eq_str (wG I q C7)
  |_=>exact Û (show Â=Ã from c) ŉ
 |byt i=>
  obtain⟨t,rfl⟩:=d;cases y with
  |byt j=>obtain⟨b,rfl⟩:=a;exact W.eq_bytes (wG I q bI)
  |_=>exact Û (show Â=Ã from c) ŉ
 |_=>cases y<;>exact Û (show Â=Ã from c) ŉ
def y25:yj X Ŝp y4p:=by
 intro e s σ H x y v u Q I d a h;obtain⟨c,q⟩:=h;cases x with
 |zE=>
  cases d;cases y with
  |zE=>cases a;exact PySem.EqNone.ne_none_none Ýa|bl j=>cases a;exact PySem.EqNone.ne_none_bool Ýa|int j=>obtain⟨b,rfl⟩:=a;exact PySem.EqNone.ne_none_int Ýa
  |str j=>obtain⟨b,rfl⟩:=a;exact PySem.EqNone.ne_none_str Ýa
  |_=>exact Û (show Â=Ã from c) ŉ
 |bl i=>
  cases d;cases y with
  |zE=>cases a;exact PySem.EqNone.ne_bool_none Ýa|bl j=>cases a;exact ne_bool (wG I q (Êa not C5))|str j=>obtain⟨b,rfl⟩:=a;exact PySem.EqMixed.ne_bool_str Ýa
  |_=>exact Û (show Â=Ã from c) ŉ
 |int i=>
  obtain⟨t,rfl⟩:=d;cases y with
  |zE=>cases a;exact PySem.EqNone.ne_int_none Ýa|int j=>obtain⟨b,rfl⟩:=a;exact ne_int (wG I q (Êa not C6))
  |str j=>obtain⟨b,rfl⟩:=a;exact PySem.EqMixed.ne_int_str Ýa
  |_=>exact Û (show Â=Ã from c) ŉ
 |str i=>
  obtain⟨t,rfl⟩:=d;cases y with
  |zE=>cases a;exact PySem.EqNone.ne_str_none Ýa|bl j=>cases a;exact PySem.EqMixed.ne_str_bool Ýa|int j=>obtain⟨b,rfl⟩:=a;exact PySem.EqMixed.ne_str_int Ýa
  |str j=>obtain⟨b,rfl⟩:=a;exact ne_str (wG I q (Êa not C7))
  |_=>exact Û (show Â=Ã from c) ŉ
 |byt i=>
  obtain⟨t,rfl⟩:=d;cases y with
  |byt j=>obtain⟨b,rfl⟩:=a;exact W.ne_bytes (wG I q (Êa not bI))
  |_=>exact Û (show Â=Ã from c) ŉ
 |_=>cases y<;>exact Û (show Â=Ã from c) ŉ
def Yu:yj X (ċa .Lt) (χa (i<j)):=Li λ_ _ _ _ _ _ _ q=>lt_int q
def Ge:yj X (ċa .LtE) (χa (i<=j)):=Li λ_ _ _ _ _ _ _ q=>le_int q
def y21:yj X (ċa .Gt) (χa (j<i)):=Li λ_ _ _ _ _ _ _ q=>gt_int q
def JY:yj X (ċa .GtE) (χa (j<=i)):=Li λ_ _ _ _ _ _ _ q=>ge_int q
def y24:yj X Ìf (ηc ļm):=by intro d s σ H x y v u Q I a b h;obtain⟨i,j,rfl,rfl,q⟩:=h;obtain⟨t,rfl⟩:=a;obtain⟨c,rfl⟩:=b;exact in_str (wG I q rfl)
def Wb:yj X (ċa .Is) Ņn:=by
 intro c s σ H x y v u Q I a b h;obtain⟨rfl,q⟩:=h;cases b;refine is_none_gen Ġq
 cases x<;>first
  |(cases a;rfl)
  |(obtain⟨t,rfl⟩:=a;rfl)
def Lj:yj X (ċa .IsNot) ģm:=by
 intro c s σ H x y v u Q I a b h;obtain⟨rfl,q⟩:=h;cases b;refine isnot_none_gen Ġq
 cases x<;>first
  |(cases a;rfl)
  |(obtain⟨t,rfl⟩:=a;rfl)
def yj.or{f:Value->Value->Sem Value}{r d:R2}(h:yj X f r)(h':yj X f d):yj X f (λx y H Q=>r x y H Q\/d x y H Q):=by intro c s σ H x y v u Q I a b q;rcases q with q|q;exact h c s σ H x y v u Q I a b q;exact h' c s σ H x y v u Q I a b q
def yM(b:Ñ){a:ĺf}(h:Ê (a≠.In) q10)(c:Ê (a≠.NotIn) q10):åc a b=Â:=by
 have e1:(a==CmpOp.In)=Â:=by cases a<;>first|rfl|exact Û rfl h
 have e2:(a==CmpOp.NotIn)=Â:=by cases a<;>first|rfl|exact Û rfl c
 cases b<;>simp[åc,e1,e2]
theorem eS{c:ĺf}{r:R2}(i:yj X (ċa c) r)(l:PE X a ta)(e:PE X b tb)(j:åc c b=Â):PE X (.Compare a [c] [b] pos) ėg:=by intro g s σ H Q I h;exact wpAny_Compare1 (Fq l e I h λv u k x y m d f n q=>i g k σ m x y v u Q d f n q) j
noncomputable def y94(t:TE):TT:=λσ H Q=>t σ H λx a=>∃k,x=.bl k/\Q k a
def Gv{f:ĺf}{r:R2}(t:yj X (ċa f) r)(C:PE X a ta)(o:PE X b tb)(w:åc f b=Â):PT X (.Compare a [f] [b] pos) (y94 ėg):=by
 intro d s σ H Q I h
 refine wpAny_isTrue_Compare1 (zn (C d s σ H _ I h) λv B ⟨x,F,j,n,E⟩=>zn (o d B σ F _ j E) λu A ⟨y,G,g,m,J⟩=>
  zn (t d A σ G x y v u _ g n m J) λc K ⟨z,p,i,q,k,e,l⟩=>?_) w
 subst e;cases q;exact ľd ⟨p,i,l⟩
def US:(á:Nat)<2 ^ 63:=by rw[ť];decide
def y1x:yj X Âe (λx y H Q=>∃i j,x=.str i/\y=.str j/\Ĳa+Œa<=á/\Q Ľp H):=by intro f s σ H x y v u Q I b d h;obtain⟨i,j,rfl,rfl,c,q⟩:=h;obtain⟨t,rfl⟩:=b;obtain⟨a,rfl⟩:=d;exact ôh (λa e=>⟨.str (i++j),H,Ãa _,⟨_,rfl⟩,q⟩) c
def uy{x:V}{us:Á Value}(r:zo [x] us):∃u,us=[u]/\zx x u:=by
 cases r with
 |đ r1 r2=>cases r2;exact⟨_,rfl,r1⟩
def PZ{x y:V}{us:Á Value}(r:zo ųc us):∃u w',us=[u,w']/\zx x u/\zx y w':=by
 cases r with
 |đ r1 r2=>
  cases r2 with
  |đ r3 r4=>cases r4;exact⟨_,_,rfl,r1,r3⟩
def sF:wu X Ūa Ĕl:=by intro c s σ H xs b Q I r h;rcases h with⟨i,rfl,q⟩|⟨k,rfl,q⟩;obtain⟨u,rfl,t,rfl⟩:=uy r;exact call_int_int ⟨.int i,H,I,⟨_,rfl⟩,q⟩;obtain⟨u,rfl,a⟩:=uy r;cases a;exact call_int_bool ⟨.int Ġn,H,Ãa _,⟨_,rfl⟩,q⟩
#print a
structure Xr(h:Heap)(x dx C:È)(mA:Str->Æ Value):Prop where
 obj:Ģ x=À ŏq
 ns:Ļh dx mA
 ne:dx≠x
def z5x{h:Heap}{f:È}{d:Str->Æ Value}(n:Ļh f d):∃od,Ģ f=À od/\∀ĸ,Èh ĸ od=À (d ĸ):=by
 obtain⟨o,c,p,i,k,g,_,m⟩:=n;refine⟨o,i,λname=>?_⟩;have e:=m ĸ;unfold nsFind findBy at e;rw[<-Array.find?_toList]at e;unfold Èh;rw[k];dsimp only
 split;rename_i y q;rw[q]at e;exact Êa À e;rename_i q;rw[q]at e
 have a:ŉp (·.refKey)=Â:=by rw[æo];intro y j;obtain⟨z,t,b⟩:=g y (Array.mem_toList_iff.mp j);simp[DictEntry.refKey,b]
 have l:¬ ŉp (·.refKey)=Ã:=by rw[a];exact ŉ
 rw[Ð l];exact Êa À e
def Xr.look{h:Heap}{x b C:È}{a:Str->Æ Value}(I:Xr h x b C a):∃od,W.InstAt h x (Ïg C b) C (À od)/\∀ĸ,Èh ĸ od=À (a ĸ):=
 let ⟨od,ho,hl⟩:=z5x I.ns
 ⟨od,⟨I.obj,rfl,rfl,ho⟩,hl⟩
section
variable{Ě:æ}{w:ß}{A:ó}{E:Value->Ë->Prop}{s:Ë}{K:Ì}{x dx C f:È}{mA:Str->Æ Value}{ĸ:Str}{v:Value}
def z1g{a:Í}{Q:Value->Ë->Prop}(X:ŕ Ý)(I:Xr Ý x dx C mA)(e:Ŷe K C ĸ=Ã)(f:Ěg K C=Ã)(d:Ŕa K ŏ ĸ=À Ä)(hv:mA ĸ=À v)(b:Ňq v=Ã)(h:Q v { s with ē:=Č+1 }) :Ù è A (Ŗk Þe ĸ a) Q E s:=by obtain⟨g,J,c⟩:=äl;exact W.get_value X J (Üj e).1 (W.findObj_own f d rfl (by rw[c,hv])) b h
def z1h{pl:Sem Í}{Q:Value×Á Value->Ë->Prop}(X:ŕ Ý)(I:Xr Ý x dx C mA)(a:Ŷe K C ĸ=Ã)(d:Ŕa K ŏ ĸ=À ċb)(b:ğf K İ=Ã)(hv:mA ĸ=Ä)(h:Q (.ref f,[.ref x]) s) :Ù è A (ór Þe ĸ pl) Q E s:=by obtain⟨e,J,c⟩:=äl;exact W.method_fn X J (Üj a).1 (Üj a).2 d (þg b) (by show(Èh ĸ e).map (·.isSome)=À Â;rw[c,hv];rfl) h
def y76{ns:Á Str}{Q:Ľa->Ë->Prop}(X:ŕ Ý)(I:Xr Ý x dx C mA)(o:Ŕa K ŏ Ój=À Ŭh)(n:Īj K C=Ã)(m:Úk K C ĸ=À Ä)(q:Ěg K C=Ã)(k:ĉj mA ns)(hsz:Ôa<=á)(h:∀h',Xr h' x dx C (λy=>if y=ĸ then À v else mA y)->Ĳb dx Ý h'->Q () { s with å:=h',ē:=Č+2 }) :Ù è A (setAttr Þe ĸ v) Q E s:=by
 obtain⟨z,J,u⟩:=äl;refine W.set_plain X J o (W.osa_open (s:={ s with ē:=Č+1 }) (r:=Ä) X J n m λb=>?_);obtain⟨F,p,e⟩:=W.any_some q;have t:ā x=À ⟨.ref C,À dx,.plain,#[]⟩:=I.obj;refine Ò (Ζa (Ò (wpAny_loadPart t (Ò (W.Looks.here (s:={ s with ē:=Č+1 }) (W.looks_clsIn X p) ?_)))));rw[e];refine ě (a:=À dx) (Ò Âj);refine wpAny_nsSet1 (s:={ s with ē:=Č+1 }) I.ns λh' d c=>?_
 obtain⟨B,l,j,f,i,g⟩:=d.count (PySem.Within.cons ĸ v k);refine Ò (wpAny_lookBehind f (by rw[i];exact pastItsLine_dict (Ġ g (by rw[ĕ];omega))) ?_);exact ě (h _ ⟨(c.2 _ (Ňb I.ne)).trans I.obj,d,I.ne⟩ c)
def z66{R:Ĝd->Ë->Prop}{vs:Á Value}{b:Á ůb}(X:ŕ Ý)(c:Řg K C=Ã)(hi:Ŕa K ŏ Ïb=À ċb)(e:W.typeIn K İ=À (.type "function"))(h:đb è (A.under (.builtin ĵo ⟨.ref C::vs,b⟩)) (.call İ ⟨.ref Ĥa::vs,b⟩) (W.InitBack Ĥa R)
   { s with å:=(řd).push ĝg }) :
  đb è A (.call ŏ ⟨vs,b⟩) R s:=by
 obtain⟨j,g,d,t,i⟩:=s;exact W.make_core (W.makes_of X c) (W.looks_findIn X hi) (λa=>W.bind_fn X a e) ĳ h
#print a
noncomputable def Ŗb(f:Str)(v:V):Á ſb->Á ſb
 | []=>[(f,v)]|(g,x)::r=>if g=f then(g,v)::r else(g,x)::Ŗb f v r
theorem dD(f g:Str)(v:V):∀fs:Á ſb,(Ąg).lookup g=if g=f then À v else ĸc g
 | []=>by show êd g [(f,v)]=_;by_cases h:g=f;have a:(g==f)=Ã:=Þd h;simp only[êd,a,Î h];have a:(g==f)=Â:=ĝc h;simp only[êd,a,Ð h]|(k,x)::r=>by have b:=dD f g v r;rw[show Ŗb f v Ák=Ţh from rfl];by_cases hk:k=f;rw[Î hk];by_cases h:g=k;have a:īh=Ã:=Þd h;simp only[êd,a,Î (āf hk)];have a:īh=Â:=ĝc h;simp only[êd,a,Ð (λe:g=f=>h (Żb hk.symm))];rw[Ð hk];by_cases h:g=k;have a:īh=Ã:=Þd h;simp only[êd,a,Ð (λe:g=f=>hk (h.symm.trans e))];have a:īh=Â:=ĝc h;simp only[êd,a];exact b
theorem Eu(f:Str)(v:V):∀fs:Á ſb,f∈(Ąg).map (·.1)/\∀g,g∈ĉd (·.1)->g∈(Ąg).map (·.1)
 | []=>⟨by simp[Ŗb],λg h=>by simp at h⟩|(k,x)::r=>by obtain⟨b,a⟩:=Eu f v r;rw[show Ŗb f v Ák=Ţh from rfl];by_cases hk:k=f;rw[Î hk];subst hk;exact⟨by simp,λg h=>by simpa using h⟩;rw[Ð hk];refine⟨?_,λg h=>?_⟩;rw[ŝ];exact Ĉa _ b;rw[ŝ]at h ⊢;rcases Ĺ h with e|e;exact List.mem_cons.mpr ňk;exact Ĉa _ (a g e)
theorem dB(f:Str)(v:V):∀fs:Á ſb,(Ąg).length<=ůa+1
 | []=>by simp[Ŗb]|(k,x)::r=>by have a:=dB f v r;rw[show Ŗb f v Ák=Ţh from rfl];by_cases hk:k=f;rw[Î hk,ĕ,ĕ];omega;rw[Ð hk,ĕ,ĕ];omega
def Ŵe{v:V}{o:Æ Value}(r:uf ìa o):∃u,o=À u/\zx v u:=by
 cases o with
 |Ä=>exact(show ô from r).elim|À u=>exact⟨u,rfl,r⟩
def ĺq{o:Æ Value}(r:uf Ä o):o=Ä:=by
 cases o with
 |Ä=>rfl|À u=>exact(show ô from r).elim
def z3s{v:V}{u:Value}(r:zx v u):Ňq u=Ã:=by
 cases v with
 |zE=>cases(show u=ťd from r);rfl|bl b=>cases(show u=Ķg b from r);rfl|int i=>obtain⟨t,e⟩:=(show ∃t,u=òd i t from r);cases e;rfl
 |str x=>obtain⟨t,e⟩:=(show ∃t,u=Ŋc x t from r);cases e;rfl
 |byt b=>obtain⟨t,e⟩:=(show ∃t,u=êq b t from r);cases e;rfl
 |XY b=>obtain⟨t,e⟩:=(show ∃t,u=ĭj b t from r);cases e;rfl
 |ref a=>cases(show u=ą a from r);rfl|ty n=>cases(show u=śj n from r);rfl
section
variable{P:æ}{w:ß}{H:Hp}{h:Heap}{a C dx:È}{fs:Á ſb}
def LF(c:xt P w H h)(e:H a=À Įb):∃mA,Xr h a dx C mA/\(∀f,uf Ťk ôl)/\ĉj mA (ĉd (·.1))/\ůa<=1000/\H dx=À òf:=by obtain⟨d,z,b,g,mA,n,r,q⟩:=(show xN P w H h a Įb from c a _ e);exact⟨mA,⟨g,n,b⟩,r,q,z,d⟩
#print a
structure tG(K:Ì)(C:È):Prop where
 pg:Ŷe K C ür=Ã
 hd:Ěg K C=Ã
 po:Īj K C=Ã
 sa:Ŕa K ŏ Ój=À Ŭh
def tG.get{K:Ì}{C:È}(c:tG K C)(f:Str):Ŷe K C f=Ã:=c.pg
def YT(K:Ì)(C:È)(f:Str):Prop:=Ŕa K ŏ f=À Ä
def YT.oN{K:Ì}{C:È}{f:Str}(n:YT K C f):Úk K C f=À Ä:=by unfold Úk;rw[show Ŕa K ŏ f=À Ä from n];rfl
structure OF(K:Ì)(C:È)(m:Str)(f:È):Prop where
 at_:Ŕa K ŏ m=À ċb
 fn:ğf K İ=Ã
 kp:ďa K İ=Ã
section
variable{X:Cx}{z7:Á ë}{σ:St}{H:Hp}{s:Ë}{a C dx:È}{fs:Á ſb}{f:Str}{v:V}{A:ó}{E:Value->Ë->Prop}
def c9{b:Í}{Q:Value->Ë->Prop}(I:zI X z7 σ H s)(e:H a=À Įb)(c:tG X.K C)(n:YT X.K C f)(l:ĸc f=À v)(h:∀u s',zI X z7 σ H s'->zx v u->Q u s'):Ù ü A (Ŗk ř f b) Q E s:=by obtain⟨i,O,r,_,_,_⟩:=LF Đ e;obtain⟨u,g,d⟩:=Ŵe (v:=v) (o:=i f) (by rw[<-l];exact r f);exact z1g ś O (c.get f) c.hd n g (z3s d) (h u _ ăc d)
def cA{m:Str}{g:È}{pl:Sem Í}{Q:Value×Á Value->Ë->Prop}(I:zI X z7 σ H s)(e:H a=À Įb)(c:tG X.K C)(k:OF X.K C m g)(l:ĸc m=Ä)(h:Q (.ref g,óa) s):Ù ü A (ór ř m pl) Q E s:=by obtain⟨d,O,r,_,_,_⟩:=LF Đ e;have b:d m=Ä:=ĺq (by rw[<-l];exact r m);exact z1h ś O (c.get m) k.at_ k.fn b h
def l8{y:V}{u:Value}{Q:Ľa->Ë->Prop}(I:zI X z7 σ H s)(e:H a=À Įb)(c:tG X.K C)(n:YT X.K C f)(G:ůa<1000)(F:zx y u)(h:∀s',zI X z7 σ (zV H a Ŧm) s'->Q () s'):Ù ü A (setAttr ř f u) Q E s:=by
 obtain⟨i,O,r,k,_,j⟩:=LF Đ e;have t:(ĉd (·.1)).length<=á:=by rw[ç,ť];omega
 refine y76 ś O c.sa c.po n.oN c.hd k t λp d m=>h _ ?_
 have v:∃o,p.get? dx=À o:=let ⟨o,_,_,e',_⟩:=d.ns;⟨o,e'⟩;refine öh (x:=a) (e:=dx) či (.inr j) (λb q l z=>(m.2 b l).trans z) v ?_;refine⟨by rw[yB O.ne];exact j,?_,O.ne,d.obj,_,d.ns,λg=>?_,λg B=>?_⟩;have:=dB f y fs;omega;show uf ((Ŗb f y fs).lookup g) Ĺm;rw[dD];by_cases q:g=f;rw[Î q,Î q];exact F;rw[Ð q,Ð q];exact r g;by_cases q:g=f;rw[q];exact ĭq.1;refine ĭq.2 g (k g λz=>B ?_);show Ĺm=Ä;rw[Ð q];exact z
def zI.made(I:zI X z7 σ H s):zI X z7 σ (zV (zV H Ú (.own Ĥa)) Ĥa (.ins C Ú [])) { s with å:=(řd).push ĝg }:=by
 have e1:(řd).get? Ú=À Ĭj:=Ŭ Ý rfl
 have e2:((řd).push ĝg).get? (Ú+1)=À ĝg:=by
  have:=Ŭ řd (o:=Ïg C Ú) rfl
  rwa [Ũb]at this
 have g:(řd).Ns Ú ĸb:=⟨Ĭj,#[],_,e1,rfl,(λe h=>Û h â),λ_=>rfl⟩;have d:=Ėb (a:=Ú) (o:=.own Ĥa) (h':=Ŧa Ĭj) (t':=Č) źn Ċ ⟨_,e1⟩;refine d.laid (a:=Ú+1) (o:=.ins C Ú []) (t':=Č) źn (äc (Ũb _ _)) ?_;have c:Ú≠Ú+1:=Æa Ċf;refine⟨by rw[yB c,yb],ęa _,c,e2,λ_=>Ä,(Heap.Ns1.of_empty g).at λo q=>ģ _ q,λ_=>Ŭa,λy f=>Û rfl f⟩
def rF{Ě:æ}{w:ß}{env:Env}{e:Ñ}{f:Str}{pos:Pos}{s:Ë}{Q:Value->Ë->Prop}(a:ħb e f env ćq=č e env)(h:Ù è A ćq (λo s₁=>Ù è A (Ŗk o f Ã) Q E s₁) E s):Ù è A (č Æg env) Q E s:=
 Attribute_any_ h (by rw[arm_eval_Attribute,a])
#print a
noncomputable def y8j(K:Ì)(c:TE)(f:Str):TE:=λσ H Q=>c σ H λx b=>∃a C dx fs v,x=.ref a/\b a=À Įb/\tG K C/\YT K C f/\ĸc f=À v/\Q v b
def y58(K:Ì)(c e:TE)(f:Str):TS:=λD σ H=>e σ H λy d=>c σ d λx b=>∃a C dx fs,x=.ref a/\b a=À Įb/\tG K C/\YT K C f/\ůa<1000/\
 źa σ (zV b a Ŧm)
def Ak(X:Cx)(a:Ôe)(b:V->V->Hp->VK->Prop):Prop:=
 ∀(z7:Á ë) (s:Ë) (σ:St) (H:Hp) (x y:V) (u v:Value) (Q:VK),zI X z7 σ H s->zx x u->zx y v->b x y H Q->Ù ü X.A (Áf a u v) ũb Ĥ s
def y59(K:Ì)(e h:TE)(d:V->V->Hp->VK->Prop)(f:Str):TS:=λD σ H=>e σ H λx b=>∃a C dx fs v,x=.ref a/\b a=À Įb/\tG K C/\YT K C f/\ĸc f=À v/\
 h σ b λy g=>d v y g λz c=>∃dx' fs',c a=À (.ins C dx' fs')/\fs'.length<1000/\źa σ (zV c a (.ins C dx' (Ŗb f z fs')))
section
variable{X:Cx}{o e Ĝb:Ñ}{f:Str}{pos ĩa tpos:Pos}{ta tv:TE}
def eU(r:PE X e ta)(g:ħb e f Ô Śe=č e Ô):PE X Æg (y8j X.K ta f):=by intro j s σ H Q I h;refine rF g (zn (r j s σ H _ I h) λu z ⟨x,p,d,i,a,C,y,t,v,k,m,c,n,l,q⟩=>?_);subst k;obtain rfl:u=ą a:=i;exact c9 d m c n l λA w b o=>⟨v,p,b,o,q⟩
def y3u(t:PE X o ta)(hv:PE X Ĝb tv)(z:űb Ĝb (À Ĭn) ķc Ô=pure Â):PS X (.Assign Ĕn Ĝb pos) (y58 X.K ta tv f):=by intro b s σ H D I h;refine plainObj_wpAny_Assign_Attribute (zn őn λu v ⟨y,w,k,i,q⟩=>zn (t b v σ w _ k q) λe G ⟨x,B,d,m,a,C,A,E,p,r,c,n,l,g⟩=>?_) z;subst p;obtain rfl:e=ą a:=m;exact l8 d r c n l i λF j=>⟨σ,_,j,g⟩
def y3v{i:Ôe}{g:V->V->Hp->VK->Prop}(R:PE X o ta)(hv:PE X Ĝb tv)(b:Ak X i g):PS X (.AugAssign ĉn i Ĝb pos) (y59 X.K ta tv g f):=by
 intro d s σ H D I h;refine wpAny_AugAssign_AttributeAny (zn (R d s σ H _ I h) λp s1 ⟨x,U,F,L,a,C,Z,fs,v,O,P,c,n,l,q⟩=>?_);subst O;obtain rfl:p=ą a:=L;refine c9 F P c n l λu N j S=>zn (hv d N σ U _ j q) λA B ⟨y,t,E,w,G⟩=>zn (b d B σ t v y u A _ E S w G) λw4 s4 ⟨z,H3,r,J,Q,m,e,k,W⟩=>?_
 exact l8 r e c n k J λY T=>⟨σ,_,T,W⟩
def y4h:V->V->Hp->VK->Prop:=λx y H Q=>∃i j,x=.int i/\y=.int j/\Q Ĵj H
def z48:Ak X .Add y4h:=by rintro d s σ H x y u v Q I b c ⟨i,j,rfl,rfl,q⟩;obtain⟨t,rfl⟩:=(show ∃t,u=òd i t from b);obtain⟨a,rfl⟩:=(show ∃a,v=òd j a from c);exact PyProof.Rows.iadd_int ⟨.int (i+j),H,Ãa _,⟨_,rfl⟩,q⟩
#print a
section
variable{X:Cx}{z7:Á ë}{σ:St}{H:Hp}{s:Ë}{A:ó}{E:Value->Ë->Prop}{Q:Value->Ë->Prop}{c:Value}{b:Í}
inductive jV(K:Ċj)(H:Hp):V->Value->Prop where
 |zE:jV K H .zE Ŕd
 |bl (x:Í):jV K H (.bl x) Æb
 |int (i:Int):jV K H ôa Ūa
 |str (x:Str):jV K H Ņb ÿb
 |XY (x:UInt64):jV K H (.XY x) (.type "float")
 |lst {a:È} {xs:Á V} (e:H a=À Ğa):jV K H ř Āa
 |yK {a:È} {o:Obj} {xs:Á V} (e:H a=À įq):jV K H ř Āa
 |tup {a:È} {xs:Á V} (e:H a=À Őa):jV K H ř Ůa
 |dK {a:È} {kvs:Á ź} (e:H a=À Ŀ):jV K H ř ŀc
 |dT {a:È} {kvs:Á Ųb} (e:H a=À óc):jV K H ř ŀc
 |ins {a C dx:È} {fs:Á ſb} (e:H a=À Įb) (cl:tG K C) (ha:PySem.W.findIn K ŏ "__class__"=À (À Ëi))
   (hn:PySem.W.specialIn K Ëi "__get__"=À (À (.builtin "getset_descriptor.__get__"))) (htk:PySem.W.takesIn K Ëi=À Ã)
   (hm:PySem.W.mroIn K C (.type "object")=À Ã):jV K H ř ŏ
def LI{x:V}{u t:Value}(I:zI X z7 σ H s)(d:zx x u)(l:jV X.K H x t)(e:Ő X.K t c=À b)(h:∀tk,Q Ÿg { s with ē:=tk }) :Ù ü A (Źa Êj [u,c]) Q E s:=by
 cases l with
 |zE=>cases(show u=ťd from d);exact Ñb W.kitx_none ś Ŭa e Įa h|bl y=>cases(show u=Ķg y from d);exact Ñb W.kitx_bool ś Ŭa e Įa h|int i=>obtain⟨t,q⟩:=(show ∃t,u=òd i t from d);cases q;exact Ñb W.kitx_int ś Ŭa e Įa h
 |str y=>obtain⟨t,q⟩:=(show ∃t,u=Ŋc y t from d);cases q;exact Ñb W.kitx_str ś Ŭa e Įa h
 |XY y=>obtain⟨t,q⟩:=(show ∃t,u=ĭj y t from d);cases q;exact Ñb W.kitx_float ś Ŭa e Įa h
 |@lst a g ea=>cases(show u=ą a from d);obtain⟨_,_,n,_,f⟩:=(show xN ò X.w H Ý a (.lst g)from Đ a _ ea);exact Ñb īj ś ⟨_,f,rfl⟩ e Įa h
 |@yK a ob g ea=>cases(show u=ą a from d);obtain⟨_,_,_,n,_,f⟩:=(show xN ò X.w H Ý a (.yK ob (.lst g))from Đ a _ ea);exact Ñb īj ś ⟨_,f,rfl⟩ e Įa h
 |@tup a g ea=>cases(show u=ą a from d);obtain⟨_,_,_,p⟩:=(show xN ò X.w H Ý a (.tup g)from Đ a _ ea);obtain⟨o,f,j,_⟩:=p;exact Ñb ŋp ś ⟨o,f,j⟩ e Įa h
 |@dK a kvs ea=>cases(show u=ą a from d);obtain⟨_,_,B,_,p⟩:=(show xN ò X.w H Ý a Ŀ from Đ a _ ea);obtain⟨o,k,m,f,j,_⟩:=p;exact Ñb èq ś ⟨o,f,j.1⟩ e Įa h
 |@dT a kvs ea=>cases(show u=ą a from d);obtain⟨_,_,g,_,o,k,m,f,j,_⟩:=(show xN ò X.w H Ý a óc from Đ a _ ea);exact Ñb èq ś ⟨o,f,j.1⟩ e Įa h
 |@ins a C dx fs ea cl ha hn htk hm=>cases(show u=ą a from d);obtain⟨r,O,_⟩:=LF Đ ea;obtain⟨v,J,_⟩:=O.look;exact Ñb (W.kitx_own (cl.get _) cl.hd ha hn htk hm) ś J e Įa h
#print a
structure yo(k:Nat)(A:ó):Prop where
 hd:Ÿb=Ä
 dp:úh+3*k+5<Żo
 un:Śa+16*k+200<Ða
 gd:A.guards=À []
theorem yo.mono{j k:Nat}{A:ó}(r:yo k A)(h:j<=k):yo j A:=⟨r.hd,by have:=r.dp;omega,by have:=r.un;omega,r.gd⟩
theorem yo.deeper{k:Nat}{A:ó}(r:yo Œ A)(env:Env):yo k (Ĵb env):=
 ⟨r.hd,by have:=r.dp;show úh+1+3*k+5<_;omega,by have:=r.un;show Śa+3+16*k+200<_;omega,by first|exact r.gd|simp[še,úq,ļq,r.gd]⟩
def z65{A:ó}{C:È}{us:Á Value}{a:Á ůb}:(Ŗh).depth=úh+1:=by first|rfl|simp[še,Code.weight,Code.isCreation,Code.isGuard,Code.isCaller,ûq,ďj,guardIds]
theorem z67{A:ó}{C:È}{us:Á Value}{a:Á ůb}:(Ŗh).units=Śa+1:=by first|rfl|simp[še,Code.cUnits,ûq,ďj]
theorem yo.make{k:Nat}{A:ó}(r:yo Œ A)(C:È)(us:Á Value)(a:Á ůb):yo k Ŗh:=
 ⟨r.hd,by have:=r.dp;rw[z65];omega,by have:=r.un;rw[z67];omega,by first|exact r.gd|simp[še,úq,ļq,r.gd]⟩
theorem yo.depth{k:Nat}{A:ó}(r:yo k A):úh<Żo:=by have:=r.dp;omega
theorem yo.units{k:Nat}{A:ó}(r:yo k A):Śa+64<Ða:=by have:=r.un;omega
noncomputable def X7:TA:=λ_ H Q=>Q [] H
noncomputable def Ut(b:TE)(a:TA):TA:=λσ H Q=>b σ H λx c=>a σ c λd e=>Q (x::d) e
section
variable{X:Cx}{e:Ñ}{es:Á Ñ}{te:TE}{t:TA}{pos:Pos}
def Wc:PA X [] X7:=λ_ _ _ _ H Q I h=>èo ⟨[],H,I,.nil,h⟩
def eN(i:PE X e te)(g:PA X es t)(o:Ê ŷc q12):PA X ė ĉk:=by intro pos a s σ H Q I h;rw[o];show Ù _ _ (spliced ((Â,č e Ô)::Ŧc pos Đj)) _ _ s;refine ài (zn Æo λu j ⟨x,l,c,f,k⟩=>?_);exact zn æn λq r ⟨m,n,b,d,p⟩=>⟨x::m,n,b,.cons f d,p⟩
def y95(t:TA):TE:=λσ H Q=>t σ H λb a=>Ű<=á/\∀p,a p=Ä->Q Éa (zV a p (.tup b))
def y8o(t:TA):TE:=λσ H Q=>t σ H λb a=>Ű<=á/\∀p,a p=Ä->Q Éa (zV a p (.lst b))
def y32{x1}(h:PA X es t):PE X Öo (y95 t):=by intro g s σ H Q I i;refine wpAny_Tuple_spliced ėl;have k:d Âb=Ä:=Ŗj Ċ;refine⟨.ref Âb,zV d Âb (.tup j),c.laid (t':=Ğh) Żn Ċ ?_,rfl,q _ k⟩;exact⟨z,f,r,⟨_,Ŭ _ rfl,rfl,_,rfl⟩⟩
def y2t(h:PA X es t):PE X ôp (y8o t):=by intro g s σ H Q I i;refine wpAny_List_spliced ėl;have k:d Âb=Ä:=Ŗj Ċ;refine⟨.ref Âb,zV d Âb (.lst j),c.laid (t':=Ğh) Żn Ċ ?_,rfl,q _ k⟩;exact⟨z,f,0,r,Ŭ _ rfl⟩
#print a
abbrev Sp:=Á V->Hp->VK->XK->Prop
abbrev g7:=Á Env->Hp->Ë->XK->Value->Ë->Prop
structure Xe(P:æ)(w:ß)(K:Ì)(mg:Str->Æ Value)(Ç:Heap)(A:ó)(ÿ:Á Env)(s:Ë)(H:Hp):Prop where
 Øl:A.frames=À ÿ
 mod:Mod K mg Ç
 bs:∀b o,base.get? b=À o->ā b=À o/\H b=Ä
 gs:base.objs.size<=Ú
 pP:Úg Ç ÿ
 Y6:∀b∈j3 ÿ,H b=Ä
 zf:xt P w H Ý
 bare:çe ėh
def CE(ÿ:Á Env)(P:æ)(w:ß)(H:Hp)(s:Ë)(Q:VK)(u:Value)(s':Ë):Prop:=
 ∃v H',s'.os=s.os/\çe s'.gens/\Un (j3 ÿ) [] H H' Ý Čd/\xt P w H' Čd/\zx v u/\Q v H'
def CR(a:g7)(ÿ:Á Env)(P:æ)(w:ß)(H:Hp)(s:Ë)(Q:VK)(E:XK)(r:Ĝd)(s':Ë):Prop:=
 match r with
 |.ok (.ret u)=>CE ÿ P w H s Q u s'|.ok _=>ô|.error e=>a ÿ H s E e s'
structure xL(P:æ)(w:ß)(K:Ì)(mg:Str->Æ Value)(Ç:Heap)(CX:g7)(k:Nat)(f:È)(fd:Ļ)(ps:Á Str)(sp:Sp):Prop where
 len:∀vs H Q E,sp vs H Q E->þ=ă
 run:∀(A:ó)(ÿ:Á Env)(s:Ë)(H:Hp)(Ûa:Args)(us:Á Value)(vs:Á V)(Q:VK)(E:XK),yo k A->Xe P w K mg Ç A ÿ s H->ŉb s fd Ûa Ľc->zo vs us->sp vs H Q E->
  đb ųb A (.call İ Ûa) (CR CX ÿ P w H s Q E) s
def xL.imp{P:æ}{w:ß}{K:Ì}{e:Str->Æ Value}{a:Heap}{g:g7}{k:Nat}{f:È}{i:Ļ}{ps:Á Str}{sp d:Sp}(F:xL P w K e a g k f i ps sp)(h:∀vs H Q E,d vs H Q E->sp vs H Q E):xL P w K e a g k f i ps d:=
 ⟨λvs H Q E q=>F.len vs H Q E (h _ _ _ _ q),λA b s H c l vs Q E m p j o n=>F.run A b s H c l vs Q E m p j o (h _ _ _ _ n)⟩
def Xe.make{P:æ}{w:ß}{K:Ì}{b:Str->Æ Value}{a:Heap}{A:ó}{ÿ:Á Env}{s:Ë}{H:Hp}(e:Xe P w K b a A ÿ s H)(C:È)(us:Á Value)(c:Á ůb) :Xe P w K b a (A.under (.builtin ĵo ⟨.ref C::us,c⟩)) ÿ s H:=⟨by first|exact e.frames|(simpa [še,Code.envs,ďj,pushEnvs]using e.frames),e.mod,e.bs,e.gs,e.pP,e.Y6,e.zf,e.bare⟩
section
variable{X:Cx}{z7:Á ë}{σ:St}{H:Hp}{s s':Ë}
def zI.Rt(I:zI X z7 σ H s):Xe ò X.w X.K î ő X.A ŗa s H:=
 ⟨ôq,Ĭk,I.bs,Ġ øh I.sz,I.stack,I.S4,Đ,ãb⟩
def zI.after{Q:VK}{u:Value}(I:zI X z7 σ H s)(h:CE ŗa ò X.w H s Q u s'):EP X z7 σ Q u s':=by obtain⟨v,f,e,a,i,j,r,q⟩:=h;obtain⟨k,g,d,t,c⟩:=s';obtain rfl:c=s.os:=e;exact⟨v,f,I.call (h':=k) (g':=g) (d':=d) (t':=t) (ch:=[]) i j a (λb z=>Û z â),r,q⟩
#print a
noncomputable def Nu(sp:Sp)(a:Á V)(E:XK)(t:TA):TE:=λσ H Q=>t σ H λb c=>sp (b++a) c Q E
noncomputable def MY(C:È)(m:Str)(sp:Sp)(b:Á V)(E:XK)(d:TE)(t:TA):TE:=λσ H Q=>d σ H λx c=>∃a dx fs,x=.ref a/\c a=À Įb/\ĸc m=Ä/\
 t σ c λe f=>sp (x::(e++b)) f Q E
def y8p(C:È)(sp:Sp)(b:Á V)(E:XK)(t:TA):TE:=λσ H Q=>t σ H λd a=>∀x dx,a x=Ä->a dx=Ä->dx≠x->
 sp (.ref x::(d++b)) (zV (zV a dx ße) x òp) (λv c=>v=.zE/\Q Þe c) E
def uE(K:Ì)(a:Ļ)(ps:Á Str)(ds:Á Value):Prop:=
 ∀(s:Ë)(us:Á Value),ŕ Ý->(Íe).length=ă->ŉb s a ⟨us,[]⟩ (ps.zip Íe)
def uE.all{K:Ì}{a:Ļ}{ps:Á Str}(h:∀us:Á Value,š=ă->Åh a ⟨us,[]⟩=pure Ľc):uE K a ps []:=λs us _ b=>by rw[ż]at b ⊢;exact .of_eq (h us b)
def Xt(a:g7)(X:Cx)(E:XK):Prop:=∀(z7:Á ë) (σ:St) (H:Hp) (s:Ë) (e:Value) (s':Ë),zI X z7 σ H s->a ŗa H s E e s'->Ĥ e s'
section
variable{X:Cx}{CX:g7}{k:Nat}{f C:È}{fd:Ļ}{ps:Á Str}{sp:Sp}{dvs:Á V}{ds:Á Value}{E:XK}{x m:Str}{p pos Ĕa:Pos}{e o:Ñ}{es:Á Ñ}{ta:TE}{t:TA}
def Jo{b:Á ë}{σ:St}{H:Hp}{s:Ë}{Q:VK}{us:Á Value}{vs:Á V}(F:xL ò X.w X.K î ő CX k f fd ps sp)(d:yo k X.A)(i:uE X.K fd ps ds)(j:zo dvs ds)(m:Xt CX X E)(I:zI X b σ H s)(r:zo vs us)(h:sp Ñf H Q E):Ù ü X.A (Źa İ us) (EP X b σ Q) Ĥ s:=by
 have c:zo Ñf Íe:=Ăd j;have g:(Íe).length=ă:=by rw[<-űa];exact F.len _ _ _ _ h
 refine Ŏj (Ëg (F.run X.A ŗa s H ⟨us,[]⟩ Íe Ñf Q E d I.Rt (i s us ś g) c h) λr l a=>?_);cases r with
 |error e=>exact m b σ H s e l I a|ok fl=>
  cases fl with
  |ret u=>exact I.after a|next=>exact Ĝa a|brk=>exact Ĝa a|Éc=>exact Ĝa a
def y2j(F:xL ò X.w X.K î ő CX k f fd ps sp)(m:yo k X.A)(l:Gl X x)(j:î x=À İ)(hk:ďa X.K İ=Ã)(g:uE X.K fd ps ds)(o:zo dvs ds)(d:Xt CX X E)(n:PA X ė t)(a:Ê ı q10)(u:Ê ŷc q12)(b:Ê ((őd).any (·.1)=Â) q12) :PE X ſa (Nu sp dvs E t):=by intro i s σ H Q I h;refine Ęe ūo;refine ŝe (h₀:=ő) Ŭe hk Īl u b;exact Jo F m g o d c r q
def y2w{pl:Sem Í}(R:PE X o ta)(c:tG X.K C)(n:OF X.K C m f)(F:xL ò X.w X.K î ő CX k f fd ps sp)(G:yo k X.A)(v:uE X.K fd ps ds)(P:zo dvs ds)(p:Xt CX X E)(L:PA X ė t)(b:Ê ŷc q12)(d:Ê ((őd).any (·.1)=Â) q12)(J:č Ňf Ô=(do
   let ov <-č o Ô
   standAt éd
   let (f,first) <-holding [ov] Îd
   öc pos f first ŏd Ïc):=by rfl) :
  PE X Ňf (MY C m sp dvs E ta t):=by
 intro j s σ H Q I h;refine Śi (pl:=pl) (zn (R j s σ H _ I h) λu N ⟨x,O,i,y,a,Y,T,z,B,l,q⟩=>?_) J;subst z;obtain rfl:u=ą a:=y;refine cA i B c n l ?_;refine ŝe (first:=óa) (h₀:=ő) Ŭe n.kp (zn (L pos j N σ O _ i q) λus U ⟨vs,Z,g,r,S⟩=>⟨g.xY,?_⟩) b d;exact Jo (us:=.ref a::us) (vs:=.ref a::vs) F G v P p g (.cons rfl r) S
def eW{pl:Sem Í}(y:PE X o ta)(c:tG X.K C)(d:OF X.K C m f)(F:xL ò X.w X.K î ő CX k f fd ps sp)(t:yo k X.A)(g:uE X.K fd ps ds)(v:zo dvs ds)(e:Xt CX X E)(r:č İd Ô=(do
   let ov <-č o Ô
   standAt éd
   let (f,first) <-holding [ov] Îd
   öc pos f first Ĥi Ïc):=by rfl) :
  PE X İd (MY C m sp dvs E ta X7):=by
 intro j s σ H Q I h;refine Śi (pl:=pl) (zn (y j s σ H _ I h) λu G ⟨x,J,b,i,a,B,z,n,p,l,q⟩=>?_) r;subst n;obtain rfl:u=ą a:=i;refine cA b p c d l ?_;exact W.callWith_K0 (first:=óa) b.xY d.kp (Jo (us:=óa) (vs:=óa) F t g v e b ıo q)
structure Mk(K:Ì)(C f:È):Prop where
 makes:Řg K C=Ã
 init:Ŕa K ŏ Ïb=À ċb
 fn:ğf K İ=Ã
 kp:ďa K ŏ=Ã
def y54{c:Á ë}{σ:St}{H:Hp}{s:Ë}{Q:VK}{us:Á Value}{vs:Á V}(M:Mk X.K C f)(F:xL ò X.w X.K î ő CX k f fd ps sp)(q:yo Œ X.A)(m:uE X.K fd ps ds)(t:zo dvs ds)(z:Xt CX X E)(I:zI X c σ H s)(r:zo vs us)(h:∀x dx,H x=Ä->H dx=Ä->dx≠x->sp (.ref x::Ñf) (zV (zV H dx ße) x òp) (λv H2=>v=.zE/\Q Þe H2) E) :Ù ü X.A (Źa ŏ us) ĺp Ĥ s:=by
 have g:=h Ĥa Ú Ğp Ée (Æa Ċf);have b:=zI.made (C:=C) I;have d:zo (čc Ĥa::Ñf) Îp:=.cons rfl (Ăd t)
 have i:(ą Ĥa::us++ds).length=ă:=by have e:=œa;rw[F.len _ _ _ _ g]at e;exact Ĝf
 refine Ŏj (z66 (f:=f) ś M.makes M.init (þg M.fn) (Ëg (F.run _ ŗa _ _ ⟨ą Ĥa::us,[]⟩ Îp _ _ E (q.make C us [])
  (b.Rt.make C us []) (m _ (ą Ĥa::us) b.xY i) d g) λr y a=>?_))
 cases r with
 |error e=>exact z c σ _ _ e y b a|ok fl=>
  cases fl with
  |ret u=>obtain⟨v,n,j,p,o,l⟩:=b.after a;subst o;exact⟨p,⟨čc Ĥa,n,j,rfl,l⟩⟩
  |next=>exact Ĝa a|brk=>exact Ĝa a|Éc=>exact Ĝa a
def y2u(M:Mk X.K C f)(F:xL ò X.w X.K î ő CX k f fd ps sp)(m:yo Œ X.A)(l:Gl X x)(j:î x=À ŏ)(g:uE X.K fd ps ds)(o:zo dvs ds)(d:Xt CX X E)(n:PA X ė t)(a:Ê ı q10)(u:Ê ŷc q12)(b:Ê ((őd).any (·.1)=Â) q12) :PE X ſa (y8p C sp dvs E t):=by intro i s σ H Q I h;refine Ęe ūo;refine ŝe (h₀:=ő) Ŭe M.kp Īl u b;exact y54 M F m g o d c r q
#print a
def PK(X:Cx)(a:Á õh)(t:TA):Prop:=
 ∀(pos:Pos)(z7:Á ë) (s:Ë) (σ:St) (H:Hp) (Q:Á V->Hp->Prop),zI X z7 σ H s->t σ H Q->Ù ü X.A (evalAll ((backToKw pos (âq a Ô)).map (·.2))) íp Ĥ s
section
variable{X:Cx}{k:Nat}{f:È}{x m:Str}{pos kpos:Pos}{e o:Ñ}{kws:Á õh}{te:TE}{t:TA}{nm:Æ Str}
def y3m:PK X [] X7:=λ_ _ _ _ H Q I h=>wpAny_evalAll_nil ⟨[],H,I,.nil,h⟩
def y3k(i:PE X e te)(g:PK X kws t):PK X (⟨nm,e,kpos⟩::kws) ĉk:=by intro pos a s σ H Q I h;show Ù _ _ (evalAll ((do let v <-č e Ô;standAt pos;pure v)::(backToKw pos (âq kws Ô)).map (·.2))) _ _ s;refine wpAny_evalAll_cons (Ò (zn Æo λu j ⟨x,l,c,f,k⟩=>Ò (Èg ĵb)));exact zn æn λp q ⟨m,n,b,d,o⟩=>⟨x::m,n,b,.cons f d,o⟩
#print a
structure zk(N P:Á Str)(sc:õa):Prop where
 kind:sc.kind=.function
 co:sc.isCoroutine=Â
 gen:sc.isGenerator=Â
 nd:N.Nodup
 pre:N.take Đa=P
 par:∀x∈P,Ľo x=À .local\/Ľo x=À .cell
 oH:∀y∈sc.names,y.2≠.free
theorem aW{a:Str->Æ Œc}{x:Str}:∀{úe:Á ůb} {m:Str->Æ Value},(∀v,(x,v) ∉ úe)->Űc a úe m x=m x
 | [],_,_=>rfl|(n,v)::r,m,h=>by
  unfold Űc;rw[aW λw b=>h w Îf]
  split;have:x≠n:=by rintro rfl;exact h v Ŏ
  simp[this];rfl
theorem aU{a:Str->Æ Œc}{x:Str}:∀{úe:Á ůb} {m:Str->Æ Value},(∀v,(x,v) ∉ úe)->űc a úe m x=m x
 | [],_,_=>rfl|(n,v)::r,m,h=>by
  unfold űc;rw[aU λw b=>h w Îf]
  split;rfl;have:x≠n:=by rintro rfl;exact h v Ŏ
  simp[this]
theorem aV{a:Str->Æ Œc}{x:Str}{v:Value}:∀{P:Á Str}{vs:Á Value}{i:Nat}{m:Str->Æ Value},P.Nodup->P[i]?=À x->vs[i]?=À v->a x=À .local->
  Űc a žq m x=À v
 | [],_,_,_,_,h,_,_=>by simp at h|_::_,[],_,_,_,_,h,_=>by simp at h|p::P,w::vs,0,m,nd,h1,h2,hk=>by simp at h1 h2;subst h1;subst h2;show Űc a Øg m p=_;unfold Űc;rw[aW λv b=>űf.1 (ŝi b).1,Î hk];simp|p::P,w::vs,i+1,m,nd,h1,h2,hk=>by show Űc a Øg m x=_;unfold Űc;exact aV (i:=i) űf.2 Ég Ŕn hk
theorem aT{a:Str->Æ Œc}{x:Str}{v:Value}:∀{P:Á Str}{vs:Á Value}{i:Nat}{m:Str->Æ Value},P.Nodup->P[i]?=À x->vs[i]?=À v->a x≠À .local->
  űc a žq m x=À v
 | [],_,_,_,_,h,_,_=>by simp at h|_::_,[],_,_,_,_,h,_=>by simp at h|p::P,w::vs,0,m,nd,h1,h2,hk=>by simp at h1 h2;subst h1;subst h2;show űc a Øg m p=_;unfold űc;rw[aU λv b=>űf.1 (ŝi b).1,Ð hk];simp|p::P,w::vs,i+1,m,nd,h1,h2,hk=>by show űc a Øg m x=_;unfold űc;exact aT (i:=i) űf.2 Ég Ŕn hk
noncomputable def Ĵh(N:Á Str)(vs:Á V):St:=Ĕh À++Ŷ (ſ-þ) Ä
noncomputable def tJ(g:g7)(P:æ)(w:ß)(K:Ì)(mg:Str->Æ Value)(Ç:Heap)(N:Á Str)(b:Str)(a:õa)(f:È)(d:Value)(A:ó)(ÿ:Á Env)(s:Ë)(H:Hp)(E:XK):Cx where
 Ě:=P
 w:=w
 K:=K
 mg:=mg
 Ç:=Ç
 A:=Ĵb ĺi
 N:=N
 s₀:=s
 H₀:=H
 env:=Čb b a Ú f d
 ÿ:=ÿ
 stack:=Čb b a Ú f d::ÿ
 ex:=[]
 calm:=Ã
 fn:=λ_=>Ã
 pn:=[]
 xe:=λe i=>Ù ųb (Ĵb ĺi) (leaving ĺi e) (λ_ c=>g ÿ H s E e c) (λh c=>g ÿ H s E h c) i
def av{a:õa}{n:Nat}{x:Str}(h:âc x=À .cell):∃c,(Ók n řk []).lookup x=À c:=by have q:=ĕo řk n [] ùf;exact Ľm q
def z4g{O:g7}{P:æ}{w:ß}{K:Ì}{J:Str->Æ Value}{l:Heap}{N ps:Á Str}{g:Str}{d:õa}{f:È}{I:Value}{A:ó}{ÿ:Á Env}{s Q:Ë}{H:Hp}{E:XK}{us:Á Value}{vs:Á V}(S:zk N ps d)(X:Ÿb=Ä)(m:Xe P w K J l A ÿ s H)(Z:þ=ă)(r:zo vs us)(x:InCallC s Ú (Űc (ño).kindOf Ľc λ_=>Ä) (Ók Ĥa d.names []) (űc (ño).kindOf Ľc λ_=>Ä) Q) :zI Ðm [] æd H Q:=by
 have Y:ă<=ſ:=by have:=Êa żd S.pre;rw[èa]at this;omega
 obtain⟨F,tk,rfl,L⟩:=x.done;have o:∀b:È,b ∉ (Ðm).ex:=λb z=>Û (show b∈([]:Á È)from z) â
 refine⟨⟨m.mod,S.kind,rfl,rfl,êa _,λy z c F j=>?_,λy t=>?_,λy c _ h=>?_,λ_=>X,Around.frames_deeper m.frames,.inr ⟨rfl,rfl⟩,λb z=>Û z (o b),m.bs,m.gs,λb _ _=>o b,λb z=>Û z (o b),m.pP,m.Y6⟩,
  rfl,m.bare,ăf L,⟨_,x.toInCall.ns,λi y v F j h3=>?_⟩,λy c h=>⟨_,x.cell y c h⟩,Ŀq Ċ,λy c h=>?_,λp B=>Û (show p∈([]:Á ë)from B) â,m.zf.kept L,?_⟩
 exact name_of_addr x.apart (Ũf F) (Ũf j);have t:Ŷi y=À .cell\/Ŷi y=À .free:=t;rcases t with t|t;exact av t;exact Û rfl (S.oH _ (Ũf t));exact ða ýn;have G:i<þ:=by
  unfold Ĵh at j;by_cases G:i<þ;exact G;rw[Śb Êo]at j;rw[Ån]at j
  split at j<;>cases j
 have U:vs[i]?=À v:=by
  unfold Ĵh at j;rw[ģb Êo,Ŧ]at j;cases e:vs[i]? with
  |Ä=>rw[e]at j;cases j|À a=>rw[e]at j;cases j;rfl
 obtain⟨u,R,T⟩:=ĝb U
 have B:ps[i]?=À y:=by rw[<-S.pre,List.getElem?_take_of_lt Å];exact F
 have C:ps.Nodup:=by rw[<-S.pre];exact S.nd.sublist Ïn
 refine⟨u,T,?_⟩;rcases S.par y (Ġc B)with k|k;exact .inl ⟨k,aV C B R k⟩;obtain⟨c,e⟩:=av (n:=Ú+1) k;refine .inr ⟨.inl k,c,e,?_⟩;have q:=x.cell y c e;rw[aT C B R (by show Ŷi y≠_;rw[k];decide)]at q;exact q;exact Ŀq (ða ýn);unfold Ĵh;show _=ſ;rw[í,ç,ğc];omega
def bf{L:g7}{P:æ}{w:ß}{K:Ì}{G:Str->Æ Value}{g:Heap}{k:Nat}{f:È}{ĸ c:Str}{h:Ąr}{i:Á Õ}{a:õa}{dV kV B pm d ct oc:Value}{an od:Æ È}{O:Ø Íb}{N ps:Á Str}{sp:Sp}(lk:Àa f=À ⟨oc,od,.func Çm,O⟩)(T:źb K d c=Ã)(S:zk N ps a)(C:∀vs H Q E,sp vs H Q E->þ=ă)(j:∀(A:ó)(ÿ:Á Env)(s:Ë)(H:Hp)(vs:Á V)(Q:VK)(E:XK),yo k (Ĵb (Čb c a Ú f d))->sp vs H Q E->
   ∃t,t4 Ūh i t/\t { nx:=λ_ H'=>Q .zE H',rt:=Q } æd H) :
  xL P w K G g L Œ f Çm ps sp:=by
 refine⟨C,λA ÿ s H Z us vs Q E U p hb r F=>?_⟩;have hl:=C _ _ _ _ F;have KX:ŕ Ý:=p.mod.Xa.keeps λb o e=>Ŵp.1
 have R:s.heap.NoLimit:=p.mod.nolimit.keeps λb o e=>Ŵp.1
 have l:∀y∈ps.zip us,âc y.1=À .local\/(âc y.1=À .cell/\((Ók Ĥa řk []).lookup y.1).isSome=Ã):=λ⟨n,v⟩ hy=>by rcases S.par n (ŝi hy).1 with q|q;exact .inl q;exact .inr ⟨q,ĕo _ _ _ (.inl q)⟩
 refine codeAny_call_function U.depth (KX _ _ lk) rfl S.co S.gen rfl (W.codeRec_of KX T) (hb _ _ _ _ ?_);refine wpAny_newFunctionEnv_cells S.kind l λenv he s1 x=>?_
 subst he;refine⟨R.keeps x.toInCall.keep,codeAny_func ?_⟩;obtain⟨t,ht,hq⟩:=j A ÿ s H vs Q E (U.deeper _) F;have I:zI Ūh [] æd H s1:=z4g S U.hd p hl r x;refine Ėa (ht [] s1 æd H _ I hq) (λfl Y m=>?_) λe Y m=>m
 have z:∀{σ':St}{H':Hp}{v:V}{u:Value},zI Ūh [] σ' H' Y->zx v u->Q v H'->CE ÿ P w H s Q u Y:=
  λ{σ' H' v u} J X q=>⟨v,H',J.os,J.bare,J.base,J.zf,X,q⟩
 cases fl with
 |ret u=>
  obtain⟨v,σ',H',J,X,q⟩:=m;exact z J X q
 |next=>
  obtain⟨σ',H',J,q⟩:=m;exact z (v:=V.zE) (u:=ťd) J rfl q
 |brk=>
  obtain⟨_,_,_,q⟩:=m;exact Ĝa q
 |Éc=>
  obtain⟨_,_,_,q⟩:=m;exact Ĝa q
section
variable{X:Cx}{x:Str}{p pos:Pos}{e:Ñ}{es:Á Ñ}{t:TA}{id T:Áa}{r:Á V->Hp->VK->Prop}
noncomputable def MV(r:Á V->Hp->VK->Prop)(t:TA):TE:=λσ H Q=>t σ H λa b=>r a b Q
def y2k(u:wu X æc r)(k:Gl X x)(i:î x=Ä)(hv:Ř x=À æc)(l:PA X ė t)(j:Ê Àb q10)(a:Ê ı q10)(v:Ê ŷc q12)(b:Ê ((őd).any (·.1)=Â) q12):PE X ſa Þh:=by intro c s σ H Q I h;refine Ęe Ħn;exact PyProof.Rows.callWith_builtin1 Ġl v b
def y2m(u:wu X ļb r)(k:Gl X x)(i:î x=Ä)(hv:Ř x=À ļb)(l:PA X ė t)(j:Ê Àb q10)(a:Ê ı q10)(v:Ê ŷc q12)(b:Ê ((őd).any (·.1)=Â) q12):PE X ſa Þh:=by intro c s σ H Q I h;refine Ęe Ħn;exact Ŝf Ġl v b
#print a
#print L2
namespace HT
open Ī ĭ
section
variable{Ě:æ}{w:ß}{A:ó}{E:Value->Ë->Prop}{s:Ë}
def cat_tup{t b:È}{vs ws:Á Value}{Q:Value->Ë->Prop}(u:ğb Ý t Ŋa)(r:ğb Ý b ĳg)(hv:vs≠[])(q:ws=[]->Q Æf s)(v:ws≠[]->Q ðc { s with å:=Ŧa { cls:=.type ŧ,Ą:=.seq (vs++ws).toArray } })(hsz:þ+Ĉb<=á):Ù è A (Ëb .Add Æf (.ref b)) Q E s:=by
 obtain⟨⟨cls,j,Ą,k⟩,h,m,n,l⟩:=id u;obtain⟨⟨o,g,i,d⟩,a,f,p,c⟩:=id r;simp only at m l f c;subst m l f c;have e:Ŋa++ĳg=(vs++ws).toArray:=by simp
 by_cases hw:ws=[];exact Ćj ⟨_,h,rfl⟩ ⟨_,a,rfl⟩ đo þp Ón Án ğm
  (tuple_addW1 t b Ŋa ĳg n p j g k d ĝi (by simp[hw])) ⟨h,a,q hw⟩
 refine Ćj ⟨_,h,rfl⟩ ⟨_,a,rfl⟩ đo þp Ón Án ğm
  (tuple_addW2 t b Ŋa ĳg n p j g k d ĝi (by simpa using hw) (by rw[ğ,ğ];exact hsz)) ⟨h,a,?_⟩
 rw[e];exact v hw
noncomputable def sIx(n d:Nat):Æ Int->Nat
 |Ä=>d|À v=>if v<0 then(v+(n:Int)).toNat else min v.toNat n
def sIx_nat(n d k:Nat):sIx n d (À (k:Int))=min k n:=by show(if(k:Int)<0 then((k:Int)+(n:Int)).toNat else min (k:Int).toNat n)=min k n;rw[Ð Å,ľ]
theorem Ėf(n d:Nat)(a:d<=n)(o:Æ Int):sIx n d o<=n:=by
 cases o with
 |Ä=>exact a|À v=>show ōl<=n;by_cases hv:v<0;rw[Î hv];omega;rw[Ð hv];exact ťh _ _
def az(v:Int)(n d:Nat):ņl=((sIx n d ìa:Nat):Int):=by show ņl=((ōl:Nat):Int);by_cases hv:v<0;simp only[Î hv];exact(ōi _).symm;simp only[Ð hv];obtain⟨k,rfl⟩:=śb (Ôd hv);rcases Ċg k n with h|h;rw[ľ,Ńa h,Ņe (Ůh h)];rw[ľ,Ûg h,Ŏi (Ůh h)]
theorem oj(lo hi:Æ Int)(n:Nat):Ùi lo hi 1 (n:Int)=(((sIx n 0 lo:Nat):Int),((sIx n n hi:Nat):Int)):=by
 have a:¬ ((1:Int)<0):=by omega
 unfold Ùi;simp only[a,òa];refine Prod.ext ?_ ?_;cases lo with
 |Ä=>rfl|À v=>exact az v n 0
 cases hi with
 |Ä=>rfl|À v=>exact az v n n
def y3o(i j:Nat):Ŧf (i:Int) (j:Int) 1=j-i:=by
 unfold Ŧf;have a:(1:Int)>0:=by omega
 simp only[a,Ť,êc]
 split<;>omega
def lE{v:Value}{o:Æ Int}{Q:Æ Int->Ë->Prop}(p:ŏb v o)(h:Q o s):Ù è A (Builtin.Slice.slicePartIndex v) Q E s:=by
 cases p with
 |Ä=>exact źo h|int i t=>exact slicePart_int h
def lD{e:È}{d c:Value}{lo hi:Æ Int}{n:Nat}{Q:Int×Int×Nat->Ë->Prop}(f:Ùg e d c .none)(pl:ŏb d lo)(i:ŏb c hi)(h:Q (((sIx n 0 lo:Nat):Int),1,sIx n n hi-sIx n 0 lo) s):Ù è A (Őm áh (pure (n:Int))) Q E s:=by obtain⟨j,a,g,b⟩:=id f;unfold Őm Builtin.Slice.sliceFields;refine Ò (Ò (Ĥb a b (x:=d) rfl (Ò (Ĥb a b (x:=c) rfl (Ò (Ĥb a b (x:=.none) rfl ĵb))))));refine Ò (źo ?_);show Ù _ _ (δb ((1:Int)==0)) _ _ s;rw[Ð É];refine Ò (lE pl (Ò (lE i (Ò ĵb))));show Ù _ _ (match Ùi lo hi 1 (n:Int)with|(lo,hi)=>pure (lo,(1:Int),Ŧf lo hi 1)) _ _ s;rw[oj lo hi n];show Ù _ _ (pure (((sIx n 0 lo:Nat):Int),(1:Int),Ŧf ((sIx n 0 lo:Nat):Int) ((sIx n n hi:Nat):Int) 1)) _ _ s;rw[y3o];exact ě h
def y3j(xs:Ø Value)(i k:Nat):((ùa k).filterMap λ(m:Nat)=>xs[(Ġi).toNat]?).toArray=((xs.toList.drop i).take k).toArray:=by
 have e:(λ(m:Nat)=>xs[(Ġi).toNat]?)=λm=>xs[i+m]?:=by
  funext m
  have:(Ġi).toNat=i+m:=by omega
  rw[this]
 rw[e];have:=ĝk xs i k;rw[List.filterMap_map]at this;have e2:((λx=>xs[x]?)∘λx=>i+x)=λm=>xs[i+m]?:=rfl
 rw[e2]at this;rw[this]
theorem getItem_tuple_cut{t f:È}{a:Ø Value}{l j:Value}{lo hi:Æ Int}{Q:Value->Ë->Prop}(c:ğb Ý t a)(k:Ùg f l j .none)(pl:ŏb l lo)(v:ŏb j hi)(o:¬ (sIx ì 0 lo=0/\sIx ì ì hi=ì))(h:Q ðc { s with å:=Ŧa { cls:=.type ŧ,Ą:=.seq (ŕh).toArray } })(hsz:ì<=á):Ù è A ėp Q E s:=by
 have b:sizeOk (.seq (ŕh).toArray):=by show(ŕh).toArray.size<=á;rw[ğ,èa,Åb,ŭ];exact Ġ Êf (Ġ ţb hsz)
 have x:sIx ì ì hi<=ì:=Ėf _ _ Ċ hi;obtain⟨n,d,g,p⟩:=id k;have e:Łb İ ýf:=⟨n,d,g⟩;unfold Öe
 try with_reducible refine ùb ?_
 first|refine Ò ĵb|skip
 refine Ò (Ûo ąd É ?_)
 refine Ò (ĵd (ĸ:=åd Ôj) ąd Œf
  (Ãd Œf ąd Ĵn ?_ źm))
 show Ù _ _ Űl _ _ s;refine Ò (úp c ?_);refine Ò Őq;rw[Î É];refine Ò (lD k pl v ?_)
 have i:¬ (Ōh=Ã):=by intro q;rw[Ē,Ē]at q;have r:((sIx ì 0 lo:Nat):Int)=0:=Òk q.1.1;have u:sIx ì ì hi-sIx ì 0 lo=ì:=Òk q.2;exact o ⟨Int.ofNat_eq_zero.mp r,Üd x (Ġ (äc u.symm) ţb)⟩
 show Ù _ _ Ŗm _ _ s;rw[Ð i,y3j]
 first
  |exact Ò (m:=Ŭf _) Ďq
  |exact Ò (m:=Ŭf _) (Žc (Ò Ļr) b)
  |exact Ò (Ò (m:=Ŭf _) (Žc Ļr b))
  |exact Ò (Ò (m:=Ŭf _) Ďq)
#print a
#print HT
namespace L2
open Ī ĺ ĭ
abbrev TO:=St->Hp->(Æ Int->Hp->Prop)->Prop
def PO(X:Cx)(e:Æ Ñ)(t:TO):Prop:=
 ∀(z7:Á ë) (s:Ë) (σ:St) (H:Hp) (Q:Æ Int->Hp->Prop),zI X z7 σ H s->t σ H Q->
  Ù ü X.A (evalPart e Ô) (λu a=>∃o H',zI X z7 σ H' a/\ŏb u o/\Q o H') Ĥ s
noncomputable def y8t:TO:=λ_ H Q=>Q Ä H
noncomputable def y8y(t:TE):TO:=λσ H Q=>t σ H λx a=>∃i,x=.int i/\Q (À i) a
section
variable{X:Cx}{e:Ñ}{te:TE}{lo hi:Æ Ñ}{tl th:TO}{pos p2:Pos}
def y3r:PO X Ä y8t:=by intro a s σ H Q I h;rw[Ąp];exact ě ⟨Ä,H,I,.none,h⟩
def y3s(h:PE X e te):PO X (À e) (y8y te):=by
 intro d s σ H Q I b;rw[evalPart_some];refine zn (h d s σ H _ I b) λu j ⟨x,g,a,c,f⟩=>?_
 obtain⟨i,rfl,q⟩:=f;obtain⟨t,rfl⟩:=c;exact⟨À i,g,a,.int i t,q⟩
def kB(X:Cx)(r:V->Æ Int->Æ Int->Hp->VK->Prop):Prop:=
 ∀(z7:Á ë) (s:Ë) (σ:St) (H:Hp) (x:V) (v vl vu:Value) (lo hi:Æ Int) (sl:È) (Q:VK),zI X z7 σ H s->zx x v->Ùg sl vl vu .none->ŏb vl lo->ŏb vu hi->r x lo hi H Q->
  ∃T id,Őj ļb Ôj=pure (À æc)/\Łb v T/\Ù ü X.A (Öe v (.ref sl)) ũb Ĥ s
def kB.or{r d:V->Æ Int->Æ Int->Hp->VK->Prop}(h:kB X r)(h':kB X d):kB X (λx lo hi H Q=>r x lo hi H Q\/d x lo hi H Q):=by intro c s σ H x v g a lo hi e Q I b f i j q;rcases q with q|q;exact h c s σ H x v g a lo hi e Q I b f i j q;exact h' c s σ H x v g a lo hi e Q I b f i j q
noncomputable def y93(r:V->Æ Int->Æ Int->Hp->VK->Prop)(te:TE)(tl th:TO):TE:=λσ H Q=>te σ H λx a=>tl σ a λl b=>th σ b λu c=>r x l u c Q
def e_{r:V->Æ Int->Æ Int->Hp->VK->Prop}(J:kB X r)(n:PE X e te)(j:PO X lo tl)(O:PO X hi th):PE X (.Subscript e Æi pos) (y93 r te tl th):=by
 intro c s σ H Q I h;refine ňq (zn (n c s σ H _ I h) λv K ⟨x,N,z,C,L⟩=>?_);refine wpAny_Slice (zn (j c K σ N _ z L) λf E ⟨l,m,i,P,o⟩=>zn (O c E σ m _ i o) λd a ⟨u,g,y,p,B⟩=>?_);rw[Ąp];refine ě ?_;have k:zI X c σ g { a with å:=Ũe { cls:=.type ýf,Ą:=.fields #[f,d,.none] } }:=y.kept (t':=Ğh) λb S q=>ģ _ q
 obtain⟨T,R,t,G,F⟩:=J c { a with å:=Ũe { cls:=.type ýf,Ą:=.fields #[f,d,.none] } } σ g x v f d l u Âb Q k C (Heap.IsSliceOf.new ..) P p B;show Ù ü X.A (ýp e Æi v Ñr) ĺp Ĥ { a with å:=Ũe { cls:=.type ýf,Ą:=.fields #[f,d,.none] } };exact tail_any (ops:=[.ref Âb,v]) G t F Ðc
def Ya(xs:Á V)(lo hi:Æ Int):Á V:=(ŵm).take ĥm
def bB(xs:Á V)(lo hi:Æ Int):(Ĵp).length<=à:=by unfold Ya;rw[èa,Åb];exact Ġ Êf ţb
def i9(K:Ì):V->Æ Int->Æ Int->Hp->VK->Prop:=λx lo hi H Q=>∃a xs,x=.ref a/\y_ K H a xs/\
 ¬ (Ĵ à 0 lo=0/\Ĵ à à hi=à)/\∀p,H p=Ä->Q Éa (γ (.tup Ĵp))
def y7m:kB X (i9 X.K):=by
 intro t s σ H x v w p lo hi u Q I j k l m h;obtain⟨a,d,rfl,n,i,q⟩:=h;cases j;obtain⟨e,r,f,g⟩:=ãa n;have c:e.toArray.size=œa:=by rw[ğ];exact āp
 refine⟨ŧ,_,Ëm,Âh,?_⟩;refine HT.getItem_tuple_cut f k l m (by rw[c];exact i) ?_ (by rw[c];exact g);rw[c];refine⟨.ref Ú,_,Ėb (t':=Č) (o:=.tup (Ya d lo hi)) (λb y q=>ģ _ q) Ċ ?_,rfl,q _ Ée⟩;exact⟨Ġ (bB d lo hi) g,_,(Ìl (Ĵ œa 0 lo)).take (Ĵ œa œa hi-Ĵ œa 0 lo),ßk _ _⟩
def hU(K:Ì):R2:=λx y H Q=>∃a b xs ys,x=.ref a/\y=.ref b/\y_ K H a xs/\y_ K H b ys/\xs≠[]/\à+Óa<=á/\
 (ys=[]->Q ř H)/\(ys≠[]->∀p,H p=Ä->Q Éa (γ (.tup ık)))
def zo.Bc{xs:Á V}{us:Á Value}(r:zo xs us):us=[]↔xs=[]:=by
 cases r with
 |nil=>simp|đ _ _=>simp
def y1z:yj X Âe (hU X.K):=by intro B s σ H x y v u Q I p n h;obtain⟨a,b,l,A,rfl,rfl,r,i,g,f,t,m⟩:=h;cases p;cases n;obtain⟨k,d,j,_⟩:=ãa r;obtain⟨e,c,p2,_⟩:=ãa i;refine HT.cat_tup j p2 (λz=>g (d.Bc.mp z)) (λz=>⟨.ref a,H,I,rfl,t (c.Bc.mp z)⟩) (λz=>?_) (by rw[<-œa,<-űa];exact f);refine⟨.ref Ú,_,Ėb (t':=Č) (o:=.tup (l++A)) (λb C q=>ģ _ q) Ċ ?_,rfl,m (λw=>z (c.Bc.mpr w)) _ Ée⟩;exact⟨by rw[í];exact f,_,d.append c,ßk _ _⟩
#print a
noncomputable def ixN(n:Nat)(i:Int):Æ Nat:=if 0<=i then(if i<n then À şc else Ä)else if -(n:Int)<=i then À (i+n).toNat else Ä
def ja{α:Type}(xs:Á α)(i:Int):Æ α:=(ixN à i).bind λj=>xs[j]?
def cZ{n:Nat}{i:Int}{j:Nat}(h:ixN n i=À j):seqIndex? i n=À j/\j<n /\ -(n:Int)<=i/\i<n:=by unfold ixN at h;by_cases h0:0<=i;rw[Î h0]at h;by_cases h1:i<n;rw[Î h1]at h;have e:şc=j:=ła h;exact⟨by rw[ħj h0 h1,e],by omega,by omega,h1⟩;rw[Ð h1]at h;cases h;rw[Ð h0]at h;by_cases h1 : -(n:Int)<=i;rw[Î h1]at h;have e:(i+n).toNat=j:=ła h;exact⟨by rw[āj Å h1,e],by omega,h1,by omega⟩;rw[Ð h1]at h;cases h
def DO{α:Type}{xs:Á α}{i:Int}{v:α}(h:ja xs i=À v):∃j,seqIndex? i à=À j/\xs[j]?=À v/\j<à /\ -(à:Int)<=i/\i<à:=by
 unfold ja at h;cases e:ixN à i with
 |Ä=>rw[e]at h;cases h|À j=>rw[e]at h;obtain⟨a,d,c,b⟩:=cZ e;exact⟨j,a,h,d,c,b⟩
def Ar(b:Ñ):Prop:=∀o i,Ýq b Â o i=operate [o,i] (Öe o i)
def qp(X:Cx)(r:R2):Prop:=
 ∀(Ĝb slice:Ñ)(z7:Á ë) (s:Ë) (σ:St) (H:Hp) (x y:V) (v u:Value) (Q:VK),zI X z7 σ H s->zx x v->zx y u->r x y H Q->
  Ýq slice Â v u=operate [v,u] (Öe v u)->Ù ü X.A (ýp Ĝb slice v u) ũb Ĥ s
def DI(X:Cx)(a:Áa)(r:V->Á V->Hp->VK->Prop):Prop:=
 ∀(z7:Á ë) (s:Ë) (σ:St) (H:Hp) (x:V) (xs:Á V) (v:Value) (us:Á Value) (Q:VK),zI X z7 σ H s->zx x v->zo xs us->r x xs H Q->
  Ù ü X.A Ňm ũb Ĥ s
section
variable{X:Cx}{a b:Ñ}{ta tb:TE}{pos:Pos}
def qp.or{r g:R2}(h:qp X r)(h':qp X g):qp X (λx y H Q=>r x y H Q\/g x y H Q):=by intro a b f s σ H x y v u Q I d e q c;rcases q with q|q;exact h a b f s σ H x y v u Q I d e q c;exact h' a b f s σ H x y v u Q I d e q c
def Gh{r:R2}(i:qp X r)(j:PE X a ta)(d:PE X b tb)(l:Ar b):PE X Īn ėg:=by intro f s σ H Q I h;exact ňq (Fq j d I h λv u g x y k c e m q=>i a b f g σ k x y v u Q c e m q (l _ _))
def h_(K:Ì):R2:=λx y H Q=>∃p xs i v,x=.ref p/\y=.int i/\yd K H p xs/\ja xs i=À v/\Q v H
def i4(K:Ì):R2:=λx y H Q=>∃p xs i v,x=.ref p/\y=.int i/\y_ K H p xs/\ja xs i=À v/\Q v H
def i3:R2:=λx y H Q=>∃z i c,x=.str z/\y=.int i/\ŋ<=á/\ja ńi i=À c/\Q Ńi H
def z4q:qp X (h_ X.K):=by
 intro f e l s σ H x y v u Q I F C h n;obtain⟨p,O,i,z,rfl,rfl,G,B,q⟩:=h;cases F;obtain⟨t,rfl⟩:=C;obtain⟨c,r,g,R⟩:=Âa G;obtain⟨j,b,A,P,E,J⟩:=DO B;obtain⟨w,m,d⟩:=ĝb A;have o:=áa;have N:=US;have a:EP X l σ Q w s:=⟨z,H,I,d,q⟩;by_cases h0:0<=i;have k:şc=j:=by rw[ħj h0 J]at b;exact ła b
 exact item_listR áf h0 Å Ÿm a n;have k:(i+(Ĵe:Int)).toNat=j:=by rw[āj Å E]at b;rw[ğ,<-o];exact ła b
 exact Ĉe (x:=w) Ŀo ŭm
  (wpAny_getItem_list_neg (Q:=λr L=>r=w/\EP X l σ Q r L) áf Å ģn Å Ÿm ⟨rfl,a⟩) n
def z4t:qp X (i4 X.K):=by
 intro d c e s σ H x y v u Q I B A h E;obtain⟨p,J,i,z,rfl,rfl,C,o,q⟩:=h;cases B;obtain⟨t,rfl⟩:=A;obtain⟨m,r,f,O⟩:=ãa C;obtain⟨j,k,n,L,N,P⟩:=DO o;obtain⟨w,l,b⟩:=ĝb n;have g:=áa;have G:=US;have a:EP X e σ Q w s:=⟨z,H,I,b,q⟩
 exact Ĉe (x:=w) Âh slot_tuple_getitem.lookup
  (getItem_tuple (j:=j) (Q:=λr F=>r=w/\EP X e σ Q r F) f Å Å (by rw[ğ,<-g];exact k) (by simpa using l) ⟨rfl,a⟩) E
def z4s:qp X i3:=by
 intro b a p s σ H x y v u Q I m k h n;obtain⟨z,i,c,rfl,rfl,B,g,q⟩:=h;obtain⟨t,rfl⟩:=m;obtain⟨A,rfl⟩:=k;obtain⟨j,d,f,w,l,o⟩:=DO g;have e:Ĳn=ŋ:=by simp[Ŝj]
 rw[e]at d l o;have r:=US
 exact tail_any (őj s z t) slot_str_getitem.lookup (getItem_str (c:=c) (by have e1:decide (i < -(2 ^ 63:Int))=Â:=ć Å;have e2:decide (i≥2 ^ 63)=Â:=ć Å;rw[e1,e2,ßj]) (by rw[d];simpa using f) ⟨.str ⟨#[c]⟩,H,Ãa _,⟨_,rfl⟩,q⟩) n
def HJ(K:Ì):R2:=λx y H Q=>h_ K x y H Q\/i4 K x y H Q\/i3 x y H Q
def z4r:qp X (HJ X.K):=z4q.or (z4t.or z4s)
def z68(its:Á Value)(n j:Nat)(u:Value):Àe (·.setIfInBounds j u) { cls:=.type ĝ,Ą:=.seq Þa n }={ cls:=.type ĝ,Ą:=.seq (its.set j u).toArray n }:=by simp[Àe]
theorem zI.lst{a:Á ë}{σ:St}{H:Hp}{s:Ë}{p:È}{xs:Á V}(I:zI X a σ H s)(h:H p=À Ğa) :∃(its:Á Value) (n:Nat),zo xs its/\ā p=À { cls:=.type ĝ,Ą:=.seq Þa n }/\à<=á:=by obtain⟨z,its,n,r,e⟩:=Đ p _ h;exact⟨its,n,r,e,z⟩
def zI.oE{d:Á ë}{σ:St}{H:Hp}{s:Ë}{p:È}{xs a:Á V}{its îb:Á Value}{n c:Nat}{f:Obj->Obj}(I:zI X d σ H s)(h:H p=À Ğa)(j:ā p=À { cls:=.type ĝ,Ą:=.seq Þa n })(g:f { cls:=.type ĝ,Ą:=.seq Þa n }={ cls:=.type ĝ,Ą:=.seq Ąj c })(r:zo a îb)(hz:ĳa<=á)(t:Nat) :zI X d σ (γ óf) { s with å:=őe p f,ē:=t }:=by
 have e:(őe p f).get? p=À { cls:=.type ĝ,Ą:=.seq Ąj c }:=by rw[źf f j (by rw[g]<;>rfl),g]
 refine öh (x:=p) (e:=p) (by rw[h];trivial) ĳ (λb u i q=>(ζa (Ňb i)).trans q) ⟨_,e⟩ ?_;exact⟨hz,îb,c,r,e⟩
def y4r:V->V->V->Hp->Àr->Prop:=λo i v H Q=>∃p xs k j,o=.ref p/\i=.int k/\H p=À Ğa/\ixN à k=À j/\Q (Μc (xs.set j v))
def l7:DK X y4r:=by
 intro w s σ H o i v E J u Q I y B z h;obtain⟨p,x,k,j,rfl,rfl,f,C,q⟩:=h;cases y;obtain⟨t,rfl⟩:=B;obtain⟨a,n,r,d,A⟩:=I.lst f;obtain⟨b,G,g,m⟩:=cZ C;have c:=áa;have F:=US
 have l:zI X w σ (Μc (x.set j v)) { s with å:=őe p (Àe (·.setIfInBounds j u)) }:=
  I.oE f d (z68 a n j u) (r.set z j) (by rw[Ņa];exact A) Č
 by_cases h0:0<=k;have e:Ũ=j:=by rw[ħj h0 m]at b;exact ła b
 exact W.ki_setAt d h0 Å (by rw[ğ,<-c];exact m) ňm;have e:(k+(Īc:Int)).toNat=j:=by rw[āj Å g]at b;rw[ğ,<-c];exact ła b
 exact W.ki_setBack d Å (by rw[ğ,<-c];exact g) Å ňm
def y7p(lo hi:Æ Int)(n:Nat):Ĺi.1=((Ĵ n 0 lo:Nat):Int)/\Ĺi.2.1=((Ĵ n n hi:Nat):Int)/\Ĺi.2.2=1:=by
 refine⟨?_,?_,rfl⟩;cases lo with
 |Ä=>simp[ŀe,Ĵ]|À i=>simp only[ŀe,Ĵ,Ėo,show(1:Int)>0 by decide,Ť];by_cases h:i<0;simp only[h,Ť];rw[Ņe ġl,ŕp,<-ōi];simp only[h,òa];obtain⟨k,rfl⟩:=śb (Ôd h);rcases Ċg k n with q|q;rw[ľ,Ńa q,Ņe þh];exact Ýg ăh;rw[ľ,Ûg q,Ŏi þh];exact Ýg Ůk
 cases hi with
 |Ä=>simp[ŀe,Ĵ]|À i=>simp only[ŀe,Ĵ,Ėo,show(1:Int)>0 by decide,Ť];by_cases h:i<0;simp only[h,Ť];rw[Ņe ġl,ŕp,<-ōi];simp only[h,òa];obtain⟨k,rfl⟩:=śb (Ôd h);rcases Ċg k n with q|q;rw[ľ,Ńa q,Ņe þh];exact Ýg ăh;rw[ľ,Ûg q,Ŏi þh];exact Ýg Ůk
def y7o(its:Á Value)(lo hi:Æ Int):är Þa lo hi Ä=((its.drop (Ĵ Ķb 0 lo)).take (Ĵ Ķb Ķb hi-Ĵ Ķb 0 lo)).toArray:=by obtain⟨b,c,a⟩:=y7p lo hi its.toArray.size;unfold är;rw[b,c,a];simp only[Źo,ĝk,ğ]<;>rfl
def i7(K:Ì):V->Æ Int->Æ Int->Hp->VK->Prop:=λx c b H Q=>∃a xs,x=.ref a/\yd K H a xs/\∀p,H p=Ä->Q Éa (Μc (Ya xs c b))
def y7k:kB X (i7 X.K):=by intro u s σ H x v y t e f w Q I i l m n h;obtain⟨a,c,rfl,p,q⟩:=h;cases i;obtain⟨j,r,g,k⟩:=Âa p;have d:=áa;refine⟨ĝ,_,ŭm,Ŀo,?_⟩;refine wpAny_getItem_list_slice áf l m n .none â ?_ ģn;rw[y7o,<-d];refine⟨.ref Ú,_,Ėb (t':=Č) (o:=.lst (Ya c e f)) (λb z q=>ģ _ q) Ċ ?_,rfl,q _ Ée⟩;exact⟨Ġ (bB c e f) k,_,0,(Ìl (Ĵ űa 0 e)).take (Ĵ űa űa f-Ĵ űa 0 e),Ŭ _ rfl⟩
noncomputable def j2:V->Í
 |.zE=>Ã|.bl _=>Ã|.int _=>Ã|.str _=>Ã|_=>Â
noncomputable def qO:V->V->Í
 |.zE,.zE=>Ã|.bl a,.bl b=>a==b|.bl a,.int b=>ġn==b|.int a,.bl b=>a==ěc|.int a,.int b=>a==b|.str a,.str b=>a==b|_,_=>Â
def bU{A:ó}{s:Ë}{y x:V}{u v:Value}(e:zx y u)(c:zx x v)(g:j2 y=Ã)(f:j2 x=Ã):ŵb A s u v (qO y x):=by
 cases y with
 |zE=>
  cases e;cases x with
  |zE=>cases c;exact ýi _|bl b=>cases c;exact SeqAt.EqAt.none_bool b|int b=>obtain⟨t,rfl⟩:=c;exact SeqAt.EqAt.none_int b t
  |str b=>obtain⟨t,rfl⟩:=c;exact SeqAt.EqAt.none_str b t
  |_=>exact Û (show Â=Ã from f) ŉ
 |bl a=>
  cases e;cases x with
  |zE=>cases c;exact SeqAt.EqAt.bool_none a|bl b=>cases c;exact SeqAt.EqAt.bool_bool a b|int b=>obtain⟨t,rfl⟩:=c;exact SeqAt.EqAt.bool_int a b t
  |str b=>obtain⟨t,rfl⟩:=c;exact SeqAt.EqAt.bool_str a b t
  |_=>exact Û (show Â=Ã from f) ŉ
 |int a=>
  obtain⟨d,rfl⟩:=e;cases x with
  |zE=>cases c;exact SeqAt.EqAt.int_none a d|bl b=>cases c;exact SeqAt.EqAt.int_bool a d b|int b=>obtain⟨t,rfl⟩:=c;exact SeqAt.EqAt.int_int a d b t
  |str b=>obtain⟨t,rfl⟩:=c;exact ũn a d b t
  |_=>exact Û (show Â=Ã from f) ŉ
 |str a=>
  obtain⟨d,rfl⟩:=e;cases x with
  |zE=>cases c;exact SeqAt.EqAt.str_none a d|bl b=>cases c;exact SeqAt.EqAt.str_bool a d b|int b=>obtain⟨t,rfl⟩:=c;exact ŧn a d b t
  |str b=>obtain⟨t,rfl⟩:=c;exact SeqAt.EqAt.str_str a d b t
  |_=>exact Û (show Â=Ã from f) ŉ
 |_=>exact Û (show Â=Ã from g) ŉ
def tK(x:V)(u:Value):Í:=match u with
 |.none=>qO .zE x|.bool b=>qO ąc x|.int i _=>qO ôa x|.str z _=>qO (.str z) x|_=>Â
def CG{x y:V}{u:Value}(r:zx y u)(f:j2 y=Ã):tK x u=qO y x:=by
 cases y with
 |zE=>cases r;rfl|bl b=>cases r;rfl|int i=>obtain⟨t,rfl⟩:=r;rfl
 |str z=>obtain⟨t,rfl⟩:=r;rfl
 |_=>exact Û (show Â=Ã from f) ŉ
theorem QY{x:V}:∀{xs:Á V}{us:Á Value},zo xs us->Ĕf j2=Ã->us.any äb=xs.any λy=>qO y x
 |_,_,.nil,_=>rfl|y::xs,u::us,.cons r t,f=>by rw[ž,Ē]at f;rw[ūd,ūd,CG r f.1,QY t f.2]
theorem UU{A:ó}{s:Ë}{x:V}{v:Value}(b:zx x v)(c:j2 x=Ã):∀{xs:Á V}{us:Á Value},zo xs us->Ĕf j2=Ã->∀u∈us,ŵb A s u v (tK x u)
 |_,_,.nil,_=>λu a=>by cases a|y::xs,u::us,.cons r t,f=>λd a=>by rw[ž,Ē]at f;rcases Ĺ a with rfl|a;rw[CG r f.1];exact bU r b f.1 c;exact UU b c t f.2 d a
def LD(x:V)(xs:Á V):Í:=xs.any λy=>qO y x
def HH(K:Ì)(a:Í):R2:=λx y H Q=>∃p xs,y=.ref p/\(yd K H p xs\/y_ K H p xs)/\j2 x=Ã/\Ĕf j2=Ã/\Q (.bl (if a then !LD x xs else LD x xs)) H
def y23:yj X Ìf (HH X.K Â):=by intro k s σ H x y v u Q I f j h;obtain⟨p,l,rfl,b,g,c,q⟩:=h;cases j;rcases b with b|b;obtain⟨a,r,e,i⟩:=Âa b;refine SeqAt.in_listAt äb Ĥk ņf ⟨.bl _,H,I,rfl,?_⟩;rw[show ÿg äb=ľh äb by simp,QY r c];exact q;obtain⟨a,r,e,i⟩:=ãa b;refine SeqAt.in_tupleAt äb e ņf ⟨.bl _,H,I,rfl,?_⟩;rw[show ÿg äb=ľh äb by simp,QY r c];exact q
def y27:yj X Ďg (HH X.K Ã):=by intro k s σ H x y v u Q I f j h;obtain⟨p,l,rfl,b,g,c,q⟩:=h;cases j;rcases b with b|b;obtain⟨a,r,e,i⟩:=Âa b;refine SeqAt.notIn_listAt äb Ĥk ņf ⟨.bl _,H,I,rfl,?_⟩;rw[show ÿg äb=ľh äb by simp,QY r c];exact q;obtain⟨a,r,e,i⟩:=ãa b;refine SeqAt.notIn_tupleAt äb e ņf ⟨.bl _,H,I,rfl,?_⟩;rw[show ÿg äb=ľh äb by simp,QY r c];exact q
def y28:yj X Ďg (ηc (!(!(Ŕf j i 0 Œa 1).isEmpty))):=by intro d s σ H x y v u Q I a b h;obtain⟨i,j,rfl,rfl,q⟩:=h;obtain⟨t,rfl⟩:=a;obtain⟨c,rfl⟩:=b;exact notIn_str ⟨.bl _,H,I,rfl,q⟩
def sI:wu X şd (λxs H Q=>∃p ys,xs=ýd/\Ãi/\Q ſj H):=by intro j s σ H xs i Q I r h;obtain⟨p,ys,rfl,b,q⟩:=h;obtain⟨u,rfl,f⟩:=uy r;cases f;have k:=US;rcases b with b|b;obtain⟨d,c,e,g⟩:=Âa b;have a:=űa;exact Calls.call_len_list Ĥk Đe ⟨.int Óa,H,Ãa _,⟨Č+1,by rw[ğ,a]⟩,q⟩;obtain⟨d,c,e,g⟩:=ãa b;have a:=űa;exact len_tuple e Đe ⟨.int Óa,H,Ãa _,⟨Č+1,by rw[ğ,a]⟩,q⟩
def sJ:wu X şd (λxs H Q=>∃z,xs=[.str z]/\ŋ<=á/\Q Ôr H):=by intro b s σ H xs a Q I r h;obtain⟨z,rfl,d,q⟩:=h;obtain⟨u,rfl,t,rfl⟩:=uy r;have c:=US;exact len_str Å ⟨.int ŋ,H,Ãa _,⟨_,rfl⟩,q⟩
def wu.or{f:Value}{r d:Á V->Hp->VK->Prop}(h:wu X f r)(h':wu X f d):wu X f (λxs H Q=>r xs H Q\/d xs H Q):=by intro c s σ H xs b Q I a q;rcases q with q|q;exact h c s σ H xs b Q I a q;exact h' c s σ H xs b Q I a q
def sL:wu X Āa (λxs H Q=>∃p ys,xs=ýd/\Ãi/\∀l,H l=Ä->Q Řc ťp):=by
 intro A s σ H xs B Q I r h;obtain⟨p,ys,rfl,j,q⟩:=h;obtain⟨u,rfl,z⟩:=uy r;cases z
 have g:∀(a:Á Value),zo ys a->Óa<=á->∀(c:Heap)(d:Nat),(∀b o',ā b=À o'->c.get? b=À o')->
   c.get? Ú=À { cls:=.type ĝ,dict:=Ä,Ą:=.seq ĺb d,Ůc:=#[] }->EP X A σ Q ðc { s with å:=c }:=λa f m c d k e=>
  ⟨.ref Ú,_,Ėb (t':=Č) k Ċ (show xN ò X.w _ c _ äd from⟨m,a,d,f,e⟩),rfl,q _ Ée⟩
 rcases j with j|j;obtain⟨a,f,y,m⟩:=Âa j;have i:=Űa;obtain⟨o,t,x,n,v⟩:=y.isList;exact ąp p ĳ t x v ķm Đe;obtain⟨a,f,y,m⟩:=ãa j;have i:=Űa;obtain⟨o,t,x,n,v⟩:=y;exact ąp p Ĺb t x v ķm Đe
def Fy:wu X Ůa (Νd ((yd X.K H p ys/\∀l,H l=Ä->Q Řc ţp)\/(y_ X.K H p ys/\Q Éa H))):=by
 intro j s σ H xs x Q I r h;obtain⟨p,ys,rfl,h⟩:=h;obtain⟨u,rfl,t⟩:=uy r;cases t;rcases h with⟨f,q⟩|⟨f,q⟩;obtain⟨a,d,g,m⟩:=Âa f;have k:=œa;refine call_tuple_list áf (λc v=>?_) Đe;have i:zI X j σ H { s with å:=c }:=ñe (t':=Č) v
 have n:zI X j σ (zV H åq ųe) { s with å:=c.push { cls:=.type ŧ,Ą:=.seq ĺb } }:=
  i.laid (t':=Č) (λb o e=>ģ _ e) Ċ (show xN ò X.w _ _ _ ųe from⟨m,a,d,ßk _ _⟩)
 exact⟨.ref åq,_,n,rfl,q _ (i.zf.fresh Ċ)⟩;obtain⟨a,d,g,m⟩:=ãa f;exact call_tuple_same g ⟨.ref p,H,I,rfl,q⟩
def l_(K:Ì)(T:Áa)(x:V)(H:Hp):Prop:=match x with
 |.str _=>T = İf|.int _=>T = Ūc|.ref p=>(T = ĝ/\∃xs,yd K H p xs)\/(T = ŧ/\∃o,Àa p=À o/\Ğb=.type ŧ/\ęf=Ä) \/
   (T = Ź/\((∃kvs,H p=À Ŀ)\/∃kvs,H p=À óc))\/(T = şa/\∃S n,H p=À (.set S n))
 |_=>ô
def x3v{k:Á ë}{σ:St}{H:Hp}{s:Ë}{T:Áa}{x:V}{v:Value}(I:zI X k σ H s)(r:zx x v)(f:l_ X.K T x H) :Łb v T/\∀a,v=.ref a->∃ob,ā a=À ob/\ob.dict=Ä:=by
 cases x with
 |str z=>obtain⟨t,rfl⟩:=r;cases(show T = İf from f);exact⟨őj s z t,λ_ e=>nomatch e⟩
 |int i=>obtain⟨t,rfl⟩:=r;cases(show T = Ūc from f);exact⟨Œj s i t,λ_ e=>nomatch e⟩
 |ref p=>
  cases r;rcases f with⟨rfl,u,l⟩|⟨rfl,o,b,q,h⟩|⟨rfl,b⟩|⟨rfl,S,n,b⟩;obtain⟨m,_,j,_⟩:=Âa l;refine⟨j.isList.typeIs,λa e=>?_⟩;cases e;obtain⟨o,n,e,c,h,_⟩:=j;exact⟨o,e,h⟩;refine⟨⟨o,ś p o b,q⟩,λa e=>?_⟩;cases e;exact⟨o,ś _ o b,h⟩;have z:∃o,ā p=À o/\ßq:=by rcases b with⟨g,b⟩|⟨g,b⟩;obtain⟨_,_,_,_,o,_,_,e,d,_⟩:=Đ p _ b;exact⟨o,e,d⟩;obtain⟨_,_,_,_,o,_,_,e,d,_⟩:=Đ p _ b;exact⟨o,e,d⟩
  obtain⟨o,e,d⟩:=z;refine⟨⟨o,e,d.1⟩,λa e2=>?_⟩;cases e2;exact⟨o,e,d.2.1⟩;obtain⟨o,_,_,_,e,d,_⟩:=Đ p _ b;refine⟨⟨o,e,d.1⟩,λa e2=>?_⟩;cases e2;exact⟨o,e,d.2.1⟩
 |_=>exact Ĝa f
noncomputable def lf(K:Ì)(T:Áa)(r:V->Á V->Hp->VK->Prop)(b:TE)(t:TA):TE:=λσ H Q=>b σ H λx a=>l_ K T x a/\t σ a λc d=>r x c d Q
variable{o e:Ñ}{es:Á Ñ}{to:TE}{t:TA}{ĸ:Str}{Ĕa Úa:Pos}{T id:Áa}{r:V->Á V->Hp->VK->Prop}
def y2h(p:ŉq T)(f:Slot T ĸ id)(i:typeOf æc=pure Ŋm)(y:DI X id r)(w:PE X o to)(C:PA X ė t)(b:Ê Õm q12)(d:((Ŧc Úa (ýb ė Ô)).all Ķj&&(ám).all óo
   && decide ((ė).length+([]:Á õh).length+ŷl<30))=Ã:=by rfl)
  (c:Ê Òc q12)(N:Ê ŷc q12)(a:Ê ((Ŧc Úa Đj).any (·.1)=Â) q12) :
  PE X Ųl (lf X.K T r to t):=by
 intro g s σ H Q I h;refine wpAny_Call_method_late b d c rfl (zn (w g s σ H _ I h) λv B ⟨x,F,j,k,A,E⟩=>?_);obtain⟨n,J⟩:=x3v j k A;refine⟨T,id,p,f,i,n,J,?_⟩;have l:=C Úa g B σ F _ j E;rw[N]at l ⊢;refine Ďe (by show(Â||(Ŧc Úa Đj).any (·.1))=Â;rw[a]<;>rfl) (Đn ?_);exact zn l λu z ⟨L,G,m,q,O⟩=>y g z σ G x L v u Q m k q O
#print a
def An(X:Cx)(a:Áa)(r:V->Á V->Hp->VK->Prop):Prop:=
 ∀(z7:Á ë) (s:Ë) (σ:St) (H:Hp) (x:V) (xs:Á V) (v:Value) (us:Á Value) (Q:VK),zI X z7 σ H s->zx x v->zo xs us->r x xs H Q->
  Ù ü X.A Ňm ũb Ĥ s
def zo.one:∀{x:V}{us:Á Value},zo [x] us->∃u,us=[u]/\zx x u
 |_,_,.cons r .nil=>⟨_,rfl,r⟩
theorem zo.rep{xs:Á V}{us:Á Value}(h:zo xs us):∀k:Nat,zo (œq).flatten (Ŷ k us).flatten
 |0=>.nil|k+1=>by rw[ġc,ġc,ŗd,ŗd];exact Őg h (zo.rep h k)
theorem bg(its:Á Value):∀(k:Nat)(acc:Á Value),
  Áe (λx1 x2=>x1++x2) çq (Ŷ k Þa)=(acc++(Ēq).flatten).toArray
 |0,acc=>by simp|k+1,acc=>by
  have e:çq++Þa=(ůj).toArray:=by simp
  have e2:ůj++(Ēq).flatten=acc++(Ŷ Œ its).flatten:=by rw[ġc,ŗd,ŗ]
  rw[<-e2,<-bg its k ůj,<-e,ġc,şi]
section
variable{X:Cx}{z7:Á ë}{σ:St}{H:Hp}{s:Ë}{l b:È}{xs ys:Á V}
def zI.Ba{its îb:Á Value}{n:Nat}{f:Ø Value->Ø Value}{t':Nat}(I:zI X z7 σ H s)(d:H l=À Ğa)(e:ā l=À { cls:=.type ĝ,Ą:=.seq Þa n })(b:f Þa=Ąj)(hv:zo ys îb)(hz:Óa<=á) :zI X z7 σ ťp { s with å:=őe l (Àe f),ē:=t' }:=by have q:=PySem.IsL.update e f;rw[b]at q;refine öh (x:=l) (e:=l) (by rw[d];exact trivial) ĳ (λg u c a=>(Čl Ý (Àe f) (Ňb c)).trans a) ⟨_,q⟩ ?_;exact⟨hz,îb,_,hv,q⟩
def zI.Rw{its:Á Value}{t':Nat}(I:zI X z7 σ H s)(hv:zo ys its)(hz:Óa<=á) :zI X z7 σ (zV H Ú äd) { s with å:=Ŧa { cls:=.type ĝ,Ą:=.seq Þa },ē:=t' }:=
 Ėb ĥi Ċ ⟨hz,its,0,hv,Ŭ _ rfl⟩
theorem zI.fresh(I:zI X z7 σ H s):H Ú=Ä:=Ŧb Ċ
def zI.Td(I:zI X z7 σ H s)(a:H l=À Ğa):à<=á/\∃(its:Á Value) (n:Nat),zo xs its/\à=Ķb/\ā l=À { cls:=.type ĝ,Ą:=.seq Þa n }:=by obtain⟨z,its,n,r,e⟩:=Đ l _ a;exact⟨z,its,n,r,áa,e⟩
def GT{n:Nat}(h:n<=á):ċe n=Â:=by unfold ċe;exact ć Å
#print a
section
variable{X:Cx}
def y4i:V->Á V->Hp->VK->Prop:=λx a H Q=>∃l xs y,x=.ref l/\a=[y]/\H l=À Ğa/\à<á/\Q .zE (zV H l Ŏo)
def z6p:An X õp y4i:=by intro j s σ H x m v i Q I c d h;obtain⟨l,o,y,rfl,rfl,b,k,q⟩:=h;cases c;obtain⟨u,rfl,f⟩:=d.one;obtain⟨z,a,n,r,g,e⟩:=I.Td b;refine Öd F.slot_list_append ⟨_,e,rfl⟩ F.entry_list_append (F.args_list_append_2 _ _) (PySem.list_append l ĺb n u Ĩi) ⟨e,?_⟩;refine⟨.zE,_,I.Ba (îb:=a++[u]) b e â (Ăd (.cons f .nil)) ?_,rfl,q⟩;rw[í,List.length_singleton];omega
def y4l:V->Á V->Hp->VK->Prop:=λx a H Q=>∃l b xs zs,x=.ref l/\a=[.ref b]/\H l=À Ğa/\H b=À (.lst zs)/\à+Îk<=á/\Q .zE Ţp
def z6r:An X "list.extend" y4l:=by
 intro A s σ H x J v y Q I o p h;obtain⟨l,b,C,B,rfl,rfl,g,m,G,q⟩:=h;cases o;obtain⟨u,rfl,t⟩:=p.one;cases t;obtain⟨z,c,n,r,w,e⟩:=I.Td g;obtain⟨E,a,j,i,k,e2⟩:=I.Td m;have f:Ĵe+Īc<=á:=by rw[ğ,ğ];omega
 have d:¬ ém=Ã:=by rw[GT f,òg];exact ŉ
 refine Öd F.slot_list_extend ⟨_,e,rfl⟩ F.entry_list_extend (F.args_list_extend_2 _ _)
  (AutoSeq1.list_extend_list_list_0 l ŕg n b ĺb j d Ĩi Å) ⟨e,e2,?_⟩
 refine⟨.zE,_,I.Ba (îb:=c++a) g e â (Ăd i) ?_,rfl,q⟩;rw[í];omega
def y4q:R2:=λx y H Q=>∃l k xs,x=.ref l/\y=.int k/\H l=À Ğa /\ -(2 ^ 63)<=k/\k<2 ^ 63/\à*Ũ<=á/\
 ∀p,H p=Ä->Q Éa (γ (.lst (ŝp).flatten))
def c_{α:Type}(xs:Á α)(k:Nat):(œq).flatten.length=k*à:=by
 induction k with
 |äa=>simp|åa k ih=>rw[ġc,ŗd,í,ih,Nat.succ_mul,űd]
theorem y29:yj X ğg y4q:=by
 intro L s σ H x y v u Q I G E h;obtain⟨l,k,N,rfl,rfl,B,A,C,p,q⟩:=h;cases G;obtain⟨t,rfl⟩:=E;obtain⟨z,b,n,r,w,e⟩:=I.Td B;have g:Ĭb*Ũ<=á:=by rw[ğ,<-w];exact p
 have d:¬ Ĭb*Ũ>Âr/8:=by
  have:(á:Nat)<=Âr/8:=by decide
  omega
 have f:¬ (!Builtin.List.listFitsIndex k)=Ã:=by rw[fitsIndex_both A C];exact ŉ
 have c:¬ ċe (Ĭb*Ũ)=Ã:=by rw[GT g];exact ŉ
 have i:Áe ġp #[] (Ŷ (if b.toArray.isEmpty=Ã then 0 else Ũ) ĉb)=(Ŷ Ũ b).flatten.toArray:=by
  have J:∀m:Nat,Áe ġp #[] (Ŷ m ĉb)=(Ŷ m b).flatten.toArray:=λm=>by have:=bg b m [];rw[ło]at this;exact this
  rw[J];cases b with
  |nil=>simp|đ a r'=>rw[Ð â]
 refine wpAny_binaryOp_repeat_ref (T := ĝ) (U := Ūc) É ⟨_,e,rfl⟩ (λK=>Œj K k t) noFill_list_mul F.fills_int_mul Ņo repeat_list F.slot_int_index.lookup
  (Öd Ņo (Œj s k t) F.entry_int_rmul (F.args_int_rmul_2 _ _) (int___rmul___int_list k t l ĉb n)
   ⟨e,rfl,⟨_,e,rfl⟩,Öd F.slot_list_mul ⟨_,e,rfl⟩ F.entry_list_mul (F.args_list_mul_2 _ _) (AutoListH.list___mul___list_int_3 l ĉb n k t f d c) ⟨e,?_⟩⟩)
 rw[i];exact⟨.ref _,_,I.Rw (t':=Č) (r.rep Ũ) (by rw[c_,ŏp];exact p),rfl,q _ Ąf⟩
#print a
#print L2
namespace Att
open Ī Ŝk PySem.Calls ĭ
def z4d{P:ğh}{h:Heap}:∀(ns:Á Int)(vs:Á Value),WellAll P h vs Âd->Âc vs ns:=by
 intro ns
 induction ns with
 |nil=>intro vs w;rw[Čj]at w;cases w;exact .nil|đ n ns ih=>
  intro vs w;rw[ŝ]at w;cases w with
  |đ a b=>cases a;exact .cons _ _ (ih _ b)
def script_of{l:OpenLaw}{n:Nat}(o:Ñl=À n){P:ğh}{h:Heap}{Ûa:Á WData}{b:Á Value}(c:l.row.toRowW.claim.pre Ûa=Ã)(i:WellAll P h b Ûa) :∃a vs ns,b=[ą a]/\Ûa=[WData.list Âd]/\Ģ a=À { cls:=.type ĝ,Ą:=.seq Ŋa }/\Âc vs ns/\Ôa<=n:=by
 have j:WShape.hasAll [] Ûa [.list .int]=Ã:=ßp.1;have k:l.pre.holds [] { Ûa:=Ûa }=Ã:=ßp.2;obtain⟨d,r,rfl,m,s⟩:=hasAllW_cons j;obtain rfl:=hasAllW_nil s;obtain⟨u,rfl,t⟩:=hasW_list m;obtain⟨ns,rfl⟩:=items_int t
 have e:Ôa<=n:=by
  unfold OpenLaw.pre at k
  have f:(WTm.not (.lt (.lit Çb) (.len (.arg 0)))).holds [] { Ûa:=[.list (Ĕb .int)] }=Ã:=by have f:=(holds_andW k).1;rw[o]at f;exact f
  have g:=condW_of f (w_not (ĩd w_lit (w_len_list (w_arg rfl))));rw[ç]at g;refine Nat.le_of_not_lt λq=>?_
  have p:(n:Int)<((Ôa:Nat):Int):=by omega
  first
   |(rw[ï p]at g;exact Û g É)
   |(simp at g;omega)
 cases i with
 |đ w1 w2=>
  cases w2;cases w1 with
  |list ho hall=>exact⟨_,_,ns,rfl,rfl,ho,z4d ns _ hall,e⟩
def post_true(l:OpenLaw)(Ûa:Á WData):l.row.toRowW.claim.post Ûa ĭg Ûa=Ã:=
 postW_of (r:=ăj) (X:=ŕq)
  (show ņq [] ĭg .bool=Ã by first|rfl|decide|simp[ņq,WShape.arms,WShape.armsAll])
  (show(WTm.eq .res (.lit ĭg)).value [] { Ûa:=Ûa,res:=À ĭg,after:=Ûa }=À (.bool ŕq)from w_eq_bool (w_res rfl) w_lit) rfl
#print Att
namespace L2
open Ī ĺ ĭ
theorem mD:∀{vs:Á Value}{ns:Á Int},Âc vs ns->zo ėa vs
 |_,_,.nil=>.nil|_,_,.cons n t h=>.cons ⟨t,rfl⟩ (mD h)
def Aq(H:Hp):Prop:=∀b,H b=Ä\/∃o xs,H b=À įq
def z5m{P:æ}{w:ß}{K:Ì}{t U:Str->Æ Value}{CX:g7}{k:Nat}{S a:È}{Z:Ļ}{x:Str}{sp:Sp}{c:Ë}{vs:Á Value}{ns:Á Int}(KX:ŕ Ěd)(C:Ôk Ę t)(g:Ôk ŗj U)(O:∀x:Str,x ≠ ōj->U x=Ř x)(I:c.heap.NoLimit)(hg:c.gens=#[])(L:źd a=À { cls:=.type ĝ,Ą:=.seq Ŋa })(hi:Âc vs ns)(X:Ôa<=á)(hr:yo k äe)(F:∀Ç:Heap,ŕ Ç->åe Ę t->xL P w K t Ç CX k S Z [x] sp)(l:∀(s:Ë)(u:Value),ŉb s Z ⟨[u],[]⟩ [(x,u)])(R:∀H:Hp,Aq H->yd K H a ėa->sp óa H Źn λ_ _ _=>ô)(T:∀H e s',CX [] H c (λ_ _ _=>ô) e s'->ô) :đb ųb äe īm Ėl c:=by
 have rv:=mD hi;have E:=hi.length
 have j:∀H:Hp,Aq H->yd K H a ėa->xt P w H Ěd->(∀b,H b≠Ä->b=a)->(H a≠Ä->Àa a=Ä)->
   đb ųb äe īm Ėl c:=by
  intro H Y hS zf hA hK;have f:∀{b:È}{o:Obj},źd b=À o->H b=Ä->(ře).get? b=À o:=λe n=>z3v e n
  have N:∀{b:È}{o:Obj}{y:Ø ŷb}{J:Nat},źd b=À o->Ŝa=.dict y J->H b=Ä:=λ{b o y J} e d=>by
   cases q:H b with
   |Ä=>rfl|À u=>have Q:b=a:=hA b Ŭi;subst Q;rw[L]at e;cases e;have d':Data.seq Ŋa _=Data.dict y J:=d;cases d'
  have i:∀{b:È}{m:Str->Æ Value},Ôk b m->(ře).Ns b m:=λ{b m} ⟨o,y,J,e,d,r⟩=>⟨o,y,J,f e (N e d),d,r⟩
  have p:ŕ ře:=λb o e=>f (KX b o e) (by
   cases q:H b with
   |Ä=>rfl|À u=>have Q:b=a:=hA b Ŭi;subst Q;rw[hK Ŭi]at e;cases e)
  have hM:Mod K t ře:=⟨p,i C,⟨U,i g,O⟩,let ⟨mc,h1,h2⟩:=I;⟨mc,i h1,h2⟩⟩;have e0:Xe P w K t ře äe [] c H:=⟨rfl,hM,λb o e=>z93 e,äc (z3w _ _),trivial,λb g=>Û (show b∈([]:Á È)from g) â,zf,.of_eq hg⟩;refine Ëg ((F _ p (i C)).run äe [] c H ⟨óa,[]⟩ óa óa _ _ hr e0 (l c ř) ıo (R H Y hS)) λr s' h=>?_
  cases r with
  |error e=>exact(T H e s' h).elim|ok fl=>
   cases fl with
   |next=>exact Ĝa h|brk=>exact Ĝa h|Éc=>exact Ĝa h|ret u=>
    obtain⟨v,H',os,B,un,G,r',q⟩:=h;have q':v=.bl Ã:=q;subst q';obtain rfl:u=Ķg Ã:=r';refine⟨rfl,OldK.of_keep λb o e=>?_,os,B⟩;cases q:H b with
    |Ä=>exact un.keep b o e q (by intro z;exact Û (show b∈([]:Á È)from z) â) â|À u=>
     rcases Y b with z|⟨ob,xs,z⟩
     .rw[q]at z;cases z
     .have z2:=un.tF b ob _ z;obtain⟨e1,_⟩:=zf b _ z;obtain⟨e2,_⟩:=G b _ z2;rw[e]at e1;cases e1;exact e2
 cases hk:Àa a with
 |À o=>have e:=KX a o hk;rw[L]at e;cases e;refine j ĸb (λ_=>.inl rfl) (.inr ⟨_,Ŋa,_,hk,rfl,rfl,rfl,by rw[ğ,E];exact X,by simpa using rv⟩) (λb u z=>by have A:(Ä:Æ HO)=À u:=z;cases A) (λb z=>Û rfl z) λz=>Û rfl z|Ä=>refine j (λb=>if b=a then À (.yK { cls:=.type ĝ,Ą:=.seq Ŋa } (.lst ėa))else Ä) (λb=>?_) (.inl (.inr ⟨{ cls:=.type ĝ,Ą:=.seq Ŋa },Î rfl⟩)) (λb u z=>?_) (λb z=>?_) λ_=>hk;by_cases g:b=a;exact .inr ⟨_,_,Î g⟩;exact .inl űk;by_cases g:b=a;have A:=(Î g).symm.trans z;cases A;subst g;exact⟨L,by rw[ç];exact X,vs,_,rv,L⟩;have A:=(űk).symm.trans z;cases A;by_cases g:b=a;exact g;exact Û űk z
noncomputable def j7(s:Õ)(j:Nat):Õ:=match s with
 |.ClassDef _ _ _ ŵc _ _ _ _ _ _ _=>body.getD j Ĉn|_=>.Pass ⟨0,0,0,0⟩
noncomputable def pq(s:Õ):Ąr:=match s with
 |.FunctionDef _ a _ _ _ _ _ _ _ _=>a|_=>{ posonlyargs:=[],Ûa:=[],vararg:=Ä,kwonlyargs:=[],kw_defaults:=[],kwarg:=Ä,defaults:=[] }
noncomputable def vS(s:Õ):Á Õ:=match s with
 |.FunctionDef _ _ b _ _ _ _ _ _ _=>b|_=>[]
noncomputable def zS(s:Õ):õa:=match s with
 |.FunctionDef _ _ _ _ _ _ sc _ _ _=>sc|_=>{ kind:=.function,ĸh:=[],isGenerator:=Â,isCoroutine:=Â }
abbrev xC:g7:=λ_ _ _ _ _ _=>ô
abbrev E0:XK:=λ_ _ _=>ô
def Wd{X:Cx}:Xt xC X E0:=λ_ _ _ _ _ _ _ h=>Õl
structure Fun(K:Ì)(x qual:Str)(st:Õ)(f:È)(fd:Ļ):Prop where
 ex:∃(oc:Value) (od:Æ È) (kV doc pm:Value) (an:Æ È) (cdv ct:Value) (osl:Ø Íb),
  fd=ěd x qual ëe ía ń .none kV doc pm an cdv ct/\Àa f=À ⟨oc,od,.func fd,osl⟩/\źb K cdv qual=Ã
 kp:ďa K İ=Ã
section
variable{P:æ}{w:ß}{K:Ì}{mg:Str->Æ Value}{Ç:Heap}
def Fun.ok{x a:Str}{st:Õ}{f:È}{i:Ļ}{N ps:Á Str}{k:Nat}{sp:Sp}(F:Fun K x a st f i)(S:zk N ps ń)(g:∀vs H Q E,sp vs H Q E->þ=ă)(c:∀(b:Value)(A:ó)(ÿ:Á Env)(s:Ë)(H:Hp)(vs:Á V)(Q:VK)(E:XK),yo k ŝm->sp vs H Q E->
   ∃t,t4 (Ťl).tW ía t/\t { nx:=λ_ H'=>Q .zE H',rt:=Q } æd H):xL P w K mg Ç xC Œ f i ps sp:=by
 obtain⟨o,p,kV,l,r,u,b,v,n,rfl,j,e⟩:=F.ex;refine bf j e S g λA ÿ s H vs Q E m d=>?_
 obtain⟨t,h,q⟩:=c b A ÿ s H vs Q E m d;exact⟨t,h.tW,q⟩
def Fun.binds{x a:Str}{st:Õ}{f:È}{g:Ļ}{ps:Á Str}(F:Fun K x a st f g)(h:∀(kV b d:Value)(e:Æ È)(c ct:Value)(us:Á Value),š=ă->Åh (ěd x a ëe ía ń .none kV b d e c ct) ⟨us,[]⟩=pure Ľc):uE K g ps []:=by obtain⟨k,l,kV,b,d,e,c,ct,j,rfl,m,i⟩:=F.ex;exact .all (h kV b d e c ct)
def bm{x a:Str}{st:Õ}{f:È}{i:Value}{j g:Æ È}{e:Ø Íb}{kV d h b ct:Value}(l:Àa f=À ⟨i,j,.func œl,e⟩)(c:źb K b a=Ã)(k:ďa K İ=Ã):Fun K x a st f œl:=⟨⟨i,j,kV,d,h,g,b,ct,e,rfl,l,c⟩,k⟩
#print a
def zX{A:ó}{k:Nat}(a:yo k A):Śa+1<Ða:=Ĩb (Ìd (by decide:1<=64) _) a.units
def y7q{n:Nat}(h:n<=1000):n<á:=Ĩb h É
def j8{A B:Prop}(h:B):if Â=Ã then A else B:=by rw[Ð ŉ];exact h
def j9{A B:Prop}(h:A):if Ã=Ã then A else B:=by rw[Î rfl];exact h
def zw(H H':Hp):Prop:=∀b o,H b=À o->H' b=À o
def ŕa(H:Hp):zw H H:=λ_ _ h=>h
def zw.trans{H d e:Hp}(a:zw H d)(b:zw d e):zw H e:=λc o h=>b c o (a c o h)
def zw.free{H H':Hp}(e:zw H H'){l:È}(h:H' l=ðq):H l=ðq:=by
 cases q:H l with
 |Ä=>rfl|À o=>rw[e l o q]at h;cases h
#print L2
set_option linter.all false
set_option maxRecDepth 100000
set_option maxHeartbeats 4000000
namespace L2
open Ī ĺ ĭ
def Def(K:Ì)(a:Str->Æ Value)(x:Str)(st:Õ)(ps:Á Str):Prop:=
 ∃(f:È) (fd:Ļ),Fun K x x st f fd/\a x=À İ/\uE K fd ps []
def vJ(P:æ)(w:ß)(K:Ì)(b:Str->Æ Value)(a:Heap)(x:Str)(ps:Á Str)(k:Nat)(sp:Sp):Prop:=
 ∃(f:È) (fd:Ļ),b x=À İ/\ďa K İ=Ã/\uE K fd ps []/\xL P w K b a xC k f fd ps sp
def wT(a:Str->Æ Value)(x:Str)(v:V):Prop:=∃u,a x=À u/\zx v u
section
variable{P:æ}{w:ß}{K:Ì}{mg:Str->Æ Value}{Ç:Heap}
theorem Def.ok{x:Str}{st:Õ}{N ps:Á Str}{k:Nat}{sp:Sp}(d:Def K mg x st ps)(S:zk N ps ń)(c:∀vs H Q E,sp vs H Q E->þ=ă)(a:∀(f:È)(b:Value)(A:ó)(ÿ:Á Env)(s:Ë)(H:Hp)(vs:Á V)(Q:VK)(E:XK),yo k (Ĵb (Čb x ń Ú f b))->sp vs H Q E->
   ∃t,t4 (tJ xC P w K mg Ç N x ń f b A ÿ s H E).tW ía t/\t { nx:=λ_ H'=>Q .zE H',rt:=Q } æd H):vJ P w K mg Ç x ps Œ sp:=by
 obtain⟨f,e,F,h,g⟩:=d;exact⟨f,e,h,F.kp,g,ļa S c (a f)⟩
#print a
section
variable{X:Cx}{x:Str}{p pos:Pos}{e:Ñ}{es:Á Ñ}{t:TA}{ps:Á Str}{j k:Nat}{sp:Sp}{v:V}{T:Áa}
noncomputable def xE:Ñ->Í
 |.Starred ..=>Â|_=>Ã
def tS{e:Ñ}{es:Á Ñ}{env:Env}(h:xE e=Ã):ýb ė env=(Â,č e env)::ýb es env:=by cases e<;>first|rfl|cases h
theorem Zo{env:Env}{pos:Pos}:∀{es:Á Ñ},es.all xE=Ã->(ŷn).any (·.1)=Â
 | [],_=>rfl|e::es,h=>by rw[ž,Ē]at h;rw[tS h.1];have a:=Zo (env:=env) (pos:=pos) h.2;unfold Ŧc at a ⊢;rw[ŝ,ūd,a];rfl
def Yw{a:TE}(c:PE X e a)(b:PA X es t)(h:Ê ĝa q12):PA X ė (Ut a t):=eN c b (tS h)
noncomputable def rC:Ñ->Æ Int
 |.Constant ôa _ _=>À i|_=>Ä
def Ŏb:Á Ñ->Æ ũg
 | []=>À []|e::r=>(rC e).bind λi=>(Ŏb r).map (i::·)
def Gi(h:vJ ò X.w X.K î ő x ps k sp)(d:yo j X.A)(m:Gl X x)(g:PA X ė t)(hk:Ê Čc q10)(c:Ê ı q10)(a:Ê Ĭa q12):PE X ſa ũo:=by obtain⟨f,n,l,i,b,F⟩:=h;rw[ž,Ē]at a;exact y2j F (d.mono hk) m l i b .nil Wd g c Ôh Úh
def We(h:wT î x v)(a:Gl X x)(b:Ê ı q10):PE X ýa Ĩf:=by obtain⟨u,c,r⟩:=h;exact y2q a c r b
def y2i(a:Gl X x)(c:î x=Ä)(hv:Ř x=À ļb)(d:Ê Àb q10)(b:Ê ı q10):PE X ýa ůp:=
 y2g a c hv rfl d b
#print a
section
variable{X:Cx}
def JX:yj X (Ëb .FloorDiv) ím:=UZ λi j _ _ _ _ _ a q=>by have b:(0:Int)<j:=a.1;have c:j<2 ^ 64:=a.2;have d:j.natAbs.log2<64:=(ĕr).mpr Å;exact PyProof.Rows.floordiv_int Å (by rw[ŏm i Å];exact q) (.inl (PyProof.noPylong_of_log2 Å))
#print a
def pZ:Ř "len"=À şd:=by decide +kernel
def rZ:Ř Úd=À Êj:=by decide +kernel
def rh:Ř "sum"=À Ĳo:=by decide +kernel
def rY:Ř "all"=À ĳo:=by decide +kernel
def rf:Ř çb=À óp:=by decide +kernel
def ah:Ř Ūc=À Ūa:=by decide +kernel
def rW:Ř ēf=À Æb:=by decide +kernel
def OY:Ř ĝ=À Āa:=by decide +kernel
def OZ:Ř ŧ=À Ůa:=by decide +kernel
def z59{K:Ì}:Ő K Ūa Ūa=À Ã:=by rfl
def z57{K:Ì}:Ő K Æb Ūa=À Ã:=by kernel_rfl
def z58{K:Ì}:Ő K Ūa Æb=À Â:=by kernel_rfl
def z56{K:Ì}:Ő K Æb Æb=À Ã:=by rfl
def z5b{K:Ì}:Ő K Ŕd Ūa=À Â:=by kernel_rfl
def z5a{K:Ì}:Ő K Ŕd Æb=À Â:=by kernel_rfl
def z5d{K:Ì}:Ő K Ůa Ůa=À Ã:=by rfl
def z5c{K:Ì}:Ő K ÿb ÿb=À Ã:=by rfl
def vL{H:Hp}{p:È}(h:H p=Ä)(o:HO):zw H íd:=λb u q=>by rw[yB (qV q h)];exact q
def œb{n:Nat}(h:n<=1000):n<=á:=ða (y7q h)
def YE(env:Env):Á Ðb->Prop
 | []=>Ëc|p::r=>ņi p.1=À p.2/\YE env r
theorem YE.get{env:Env}:∀{cl:Á Ðb} {y:Str} {c:È},YE env cl->Ŕg y=À c->ņi y=À c
 | [],_,_,_,h=>by cases h|(n,a)::r,y,c,hc,h=>by
  rw[Ļe]at h;cases e:y==n with
  |Ã=>
   rw[e]at h;have b:y=n:=by simpa using e
   subst b;have d:a=c:=by simpa using h
   subst d;exact hc.1
  |Â=>rw[e]at h;exact YE.get hc.2 úb
noncomputable def U0(a:õa)(env:Env)(b:Á Ðb)(own:Á Str):Í:=
 Ĩj λp=>p.1 != ("." : Str)&&((p.2 == .local&&(Ćg p.1||p.1==(".0" : Str)))||p.2 == .globalImplicit||p.2 == .globalExplicit ||
  (p.2 == .free&&(ìd p.1==À .cell||ìd p.1==À .free)&&(b.lookup p.1).isSome))
noncomputable def ŗb(own:Á Str)(y:Str):Str:=if Ćg y||y==(".0" : Str)then "." else y
def w8(N own:Á Str):Á Str:=N.map (ŗb own)++own
theorem HR{env:Env}:∀{ĸh:Á (Str×Œc)} {y:Str} {k:Œc},
  (names.map λ(n,k)=>if(k==Ĉp&&Žo == .function&&ìd n==À .cell)then(n,ĉp)else(n,k)).lookup y=À k->∃k0,(y,k0)∈ĸh/\(k=k0\/(k0=.free/\k=.cell))
 | [],_,_,h=>by simp at h|(n,k')::r,y,k,h=>by
  rw[ŝ]at h;by_cases hc:(k'==Ĉp&&Žo == .function&&ìd n==À .cell)=Ã;dsimp only at h;rw[Î hc,Ļe]at h;cases e:y==n with
  |Ã=>
   rw[e]at h;have b:y=n:=by simpa using e
   subst b;have a:ĉp=k:=by simpa using h
   have c:k'=.free:=by rw[Ē,Ē]at hc;simpa using hc.1.1
   exact⟨k',Ŏ,.inr ⟨c,a.symm⟩⟩
  |Â=>rw[e]at h;obtain⟨k0,m,z⟩:=HR (env:=env) úb;exact⟨k0,Ĉa _ m,z⟩
  dsimp only at h;rw[Ð hc,Ļe]at h;cases e:y==n with
  |Ã=>
   rw[e]at h;have b:y=n:=by simpa using e
   subst b;have a:k'=k:=by simpa using h
   exact⟨k',Ŏ,.inl a.symm⟩
  |Â=>rw[e]at h;obtain⟨k0,m,z⟩:=HR (env:=env) úb;exact⟨k0,Ĉa _ m,z⟩
def wV(X:Cx)(a:õa)(c:Á Ðb)(own:Á Str)(C:È)(b:Ë)(e:Hp)(d:Á È)(pn:Á ë):Cx:=
 { X with N:=w8 X.N own,s₀:=b,H₀:=e,env:=compEnvC a c C Ô,ÿ:=ŗa,stack:=ŗa,ex:=d,fn:=λ_=>Â,pn:=pn,xe:=λ_ _=>ô }
section
variable{X:Cx}{z7:Á ë}{σ:St}{H2:Hp}{s2:Ë}{ļ:õa}{cl:Á Ðb}{own:Á Str}{C D:È}{fp:Á È}
def aZ(g:U0 ļ Ô cl own=Ã){y:Str}{k:Œc}(h:(Ķe).names.lookup y=À k) :y ≠ "."/\((k=.local->Ćg y=Ã\/y = ".0")/\((k=.cell\/k=.free)->(∃k0,(y,k0)∈Źd/\k0=.cell)\/(ìm/\∃c,Ŕg y=À c))):=by
 obtain⟨k0,m,z⟩:=HR h;have q:=Ħb g _ m;rw[Ē]at q;obtain⟨f,e⟩:=q;refine⟨by simpa using f,λa=>?_,λa=>?_⟩;rcases z with z|⟨_,z⟩;subst z;subst a;simpa using e;rw[z]at a;cases a;have b:k0=.free\/k0=.cell:=by rcases z with z|⟨z,_⟩;subst z;rcases a with a|a;exact .inr a;exact .inl a;exact .inl z
 rcases b with b|b;subst b
 right
 have d:((Ûd y==À .cell||Ûd y==À .free)&&(Ŕg y).isSome)=Ã:=by simpa using e
 rw[Ē]at d;refine⟨?_,Ľm d.2⟩;have:=d.1;rw[Bool.or_eq_true]at this;rcases this with t|t;exact .inl Èo;exact .inr Èo;exact .inl ⟨k0,m,b⟩
def Fv(b:U0 ļ Ô cl own=Ã)(a:∀y∈Źd,y.2≠.cell){y:Str}{k:Œc}(h:(Ķe).names.lookup y=À k)(hk:k=.cell\/k=.free) :ìm/\∃c,Ŕg y=À c:=by rcases(aZ b h).2.2 hk with⟨d,m,e⟩|q;exact Û e (a _ m);exact q
def ab(I:zI X z7 σ H2 s2)(hk:Ŕj=.function)(d:∀y∈Źd,y.2≠.cell)(f:YE Ô cl)(k:U0 ļ Ô cl own=Ã)(j:Îg<=C)(g:∀b∈fp,jS X z7 H2 b)(i:∀b∈fp,∃o,Ăj b=À o):(Äm).Ok where
 mod:=Ĭk
 kind:=hk
 glob:=I.ok.glob
 blt:=I.ok.blt
 above:=j
 inj:=λx y c l n=>I.ok.inj x y c (Ľh l) (Ľh n)
 has:=λx a=>by rcases a with a|a;exact(Fv k d (show(Ķe).names.lookup x=_ from a) ĳ).2;exact(Fv k d (show(Ķe).names.lookup x=_ from a) Ĺb).2
 VH:=λx c h=>by cases h
 hd:=ĵa
 Øl:=ôq
 Th:=.inl rfl
 Tc:=λb a=>⟨by obtain⟨o,e⟩:=i b a;exact Æa (Ů ōc j),λx c h=>Àl.2.2.2.2.1 x c (Ľh h)⟩
 bs:=I.bs
 gs:=Ġ øh I.sz
 VM:=λb o e a=>by rcases(g b a).2.2.2.1 with z|z;exact I.ok.VM b o e z;exact Û (Ů ōc (Ġ øh z)) Üa
 VI:=λb a m=>by rcases Ĺ (I.Ti b m)with z|z;exact Àl.2.1 z;exact Àl.2.2.1 z
 pP:=I.stack
 Y6:=I.S4
def Oy{α:Type}{σ:Á (Æ α)}{n i:Nat}{v:α}(h:ŧi[i]?=À ìa):σ[i]?=À ìa:=by
 by_cases hi:i<σ.length;rw[ģb hi]at h;exact h;rw[Śb Å,Ån]at h
 split at h<;>cases h
def rS{J:Heap}{Z:Str->Æ Value}{j:Obj}{tk:Nat}(I:zI X z7 σ H2 s2)(hk:Ŕj=.function)(q:∀y∈Źd,y.2≠.cell)(g:YE Ô cl)(K:U0 ļ Ô cl own=Ã)(Q:Îg<=C)(hD:Îg<=D)(O:D≠C)(S:∀b∈fp,jS X z7 H2 b)(P:∀b∈fp,∃o,Ăj b=À o)(f:∀b o,Ăj b=À o->J.get? b=À o)(ns:J.Ns C Z)(hd:J.get? D=À j)(L:∀v,j.data≠.cell v) :zI Äm [(D,j)] Śd H2 { s2 with å:=J,ē:=tk }:=by
 have Y:∀a,Îg<=a->a ∉ j3 ŗa:=λa ha W=>by rcases Ĺ (I.Ti a W)with z|z;exact Û (Ů I.lt ha) (by rw[z];exact Ūd _);exact I.Ry ha z
 refine⟨ab I hk q g K Q S P,rfl,ãb,ăf f,⟨Z,ns,λi y v e1 e2 e3=>?_⟩,λx c h=>?_,Ŧb Q,λx c h=>Ìc x c (ļh h),λp hp=>?_,Ăr f,?_⟩;have B:σ[i]?=À ìa:=Oy e2
 have hi:i<ö:=by have:=(Ŗ B).1;rw[Ŕb]at this;exact this
 have s:Ťm[i]?=À y:=e1;rw[ģb (by simpa using hi),Ŧ]at s;cases en:X.N[i]? with
 |Ä=>rw[en]at s;cases s|À n=>
  rw[en]at s;have A:ŗb own n=y:=ła s
  have R:∃k,(Ķe).names.lookup y=À k/\(k=.local\/k=.cell\/k=.free):=by rcases e3 with z|z|z;exact⟨_,z,.inl rfl⟩;exact⟨_,z,.inr ĳ⟩;exact⟨_,z,.inr Ĺb⟩
  obtain⟨k,H,kk⟩:=R;obtain⟨nd,U,_⟩:=aZ K H;unfold ŗb at A;by_cases E:(Ćg n||n==(".0" : Str))=Ã;rw[Î E]at A;exact Û A.symm nd;rw[Ð E]at A;subst A
  have G:k=.cell\/k=.free:=by
   rcases kk with z|z;exfalso
   apply E;rcases U z with t|t;rw[t];rfl;subst t;simp;exact z
  obtain⟨ok,c,hc⟩:=Fv K q H G;obtain⟨m,hn,hl⟩:=ħa;obtain⟨u,r,l⟩:=hl i n v en B (.inr ok);refine⟨u,r,.inr ⟨?_,c,hc,?_⟩⟩;rcases G with z|z;subst z;exact .inl H;subst z;exact .inr H;rcases l with⟨z,_⟩|⟨_,c',F,z⟩;rcases ok with t|t<;>(rw[t]at z;cases z);rw[ļh hc]at F;cases F;obtain⟨o,T,w⟩:=z;exact⟨o,f _ _ T,w⟩
 obtain⟨v,o,E,w⟩:=ŝa x c (ļh h);exact⟨v,o,f _ _ E,w⟩;rcases ça hp with z|z;obtain⟨e,n,ne,nf,d⟩:=ša p z;refine⟨f _ _ e,n,Æa (Ů ōc Q),λW=>?_,d⟩;rcases Ĺ (I.Ti p.1 W)with t|t;exact ne t;exact nf t;have e:p=(D,j):=by simpa using z
 subst e;exact⟨hd,Ŧb hD,O,Y D hD,L⟩;show(Śd).length=(Ťm).length;rw[í,í,ğc,ç,Ŕb]
#print a
def Xs(X:Cx)(a:Á Ñ)(b:TT):Prop:=
 ∀(z7:Á ë) (s:Ë) (σ:St) (H:Hp) (Q:Í->Hp->Prop),zI X z7 σ H s->b σ H Q->
  Ù ü X.A (őb a Ã λc r=>if r=Ã then do let ok <-ðe c Ô (č c Ô);pure (Ĳe ok)else pure (Ĳe r)) Èj Ĥ s
noncomputable def y98:TT:=λ_ H Q=>Q Ã H
def y40{X:Cx}:Xs X [] y98:=λ_ _ _ H _ I h=>wpAny_tests_nil ⟨H,I,h⟩
def y41{X:Cx}{c:Ñ}{t:TT}(h:PT X c t):Xs X [c] t:=λa s σ H Q I q=>wpAny_tests_one (h a s σ H Q I q)
section
variable{Ě:æ}{w:ß}{A:ó}{R:Ĝd->Ë->Prop}{s:Ë}
def z5q{g tg b:Ñ}{f:Á Ñ}{a:õa}{pos:Pos}{it d:Value}{env:Env}(J:Nat->Ë->Prop)(j:∀n s,J n s->Ù è A (ðh it) (λr s₁=>match r with
   |Ä=>R Ĳq s₁|À v=>Ù è A (Çg tg it v) (λ_ z=>Ù è A (Ćc tg env v) (λ_ s₂=>
    Ù è A (őb f Ã λc r=>if r=Ã then do let ok <-ðe c env (č c env);pure (Ĳe ok)else pure (Ĳe r)) (λok s₃=>
     if ok=Ã then Ù è A (č g env) (λx s₄=>Ù è A (Źa (.builtin õp) [d,x]) (λ_ s₅=>∃m,m<n/\J m s₅) Ĵc s₄) Ĵc s₃
     else ∃m,m<n/\J m s₃) Ĵc s₂) Ĵc z) Ĵc s₁) Ĵc s)
  (n:Nat)(h:J n s):đb è A (.compLoop âm 0 it d env) R s:=by
 have i:∀{P:Value->Ë->Prop},∀e s',(λ_ _=>ô:Value->Ë->Prop) e s'->P e s':=λ_ _ z=>Ïa
 refine codeAny_loop rfl J (λn s p=>?_) n h;show Ù _ A (Sem.onRaise (compTurn âm 0 it d env) (λx=>do noteFrame x env;theTreesLotGoes x)) _ _ s;refine wpAny_noted ?_;rw[compTurn_list];refine Ò (Èg (Ò (Ėa (j n s p) (λr s₁ k=>?_) i)));cases r with
 |Ä=>exact ě k|À v=>
  refine Ò (Ėa k (λ_ z u=>?_) i);refine Ò (Ėa u (λ_ s₂ o=>?_) i);refine Ò (Ėa o (λok s₃ l=>?_) i);cases ok with
  |Â=>exact ě ⟨rfl,l⟩|Ã=>
   refine Ò (Ò (Ėa l (λx s₄ t=>?_) i));exact Ò (Ėa t (λ_ s₅ q=>ě (ě ⟨rfl,q⟩)) i)
#print a
abbrev u5(its:Á Value)(k:Nat):Obj:={ cls:=.type ĝ,Ą:=.seq Þa k }
def dC{its:Á Value}{k:Nat}:∀v,(Ūq).data≠.cell v:=λ_ z=>nomatch z
section
variable{X:Cx}{σ:St}{H:Hp}{s:Ë}{D:È}
def z4f{pl:Á ë}{its îb:Á Value}{k f tk:Nat}{h':Heap}(I:zI X ((D,u5 its k)::pl) σ H s)(m:Ęc<=D)(g:∀p∈ēc,p.1≠D)(t:Ĳb D Ý h')(u:Ğ D=À (u5 îb f)):zI X [(D,u5 îb f)] σ H { s with å:=h',ē:=tk }:=by
 obtain⟨e,n,i,A,d⟩:=ša (D,u5 its k) ďq;have r:zI X [] σ H s:=I.Tg λp a=>Û a â
 have j:zI X [] σ H { s with å:=h',ē:=tk }:=r.turned (it:=D) (λb o l q=>(t.2 b l).trans q) n i (.inr m) (λx c w z=>by subst z;obtain⟨v,o,h,y⟩:=ŝa x c w;rw[show ā c=À Ūq from e]at h;cases h;exact d v y) (λp a=>g p ħi)
 exact j.Tg λp a=>by
  have q:p=(D,u5 îb f):=by simpa using a
  subst q;exact⟨u,n,i,A,dC⟩
#print a
section
variable{X:Cx}{tg Ŕ elt:Ñ}{ifs:Á Ñ}{ļ:õa}{cl:Á Ðb}{own:Á Str}{pos:Pos}{te:TE}{tc:TT}{g:TG}{wi:TI}
def x49{fs ex:Á È}{H H':Hp}{h h':Heap}{D:È}{o:HO}(u:Un fs ex H H' h h')(g:Āb<=D)(d:H' D=Ä):Un fs ex H Ĕq h h' where
 Īa:=ĕf
 slot:=ĕh
 free:=λb c q n i=>by rw[yB (λz=>by subst z;exact Û (Ů Čf g) Üa)];exact Ėh b c q n i
 ĳh:=ïh
 tZ:=λb e q=>by rw[yB Ŏn];exact u.tZ b e q
 tF:=λb c v q=>by rw[yB ÿn];exact u.tF b c v q
 qm:=λb f q=>by obtain⟨a,z⟩:=u.qm b f q;exact⟨a,by rw[yB (qV z d)];exact z⟩
def cM{P:æ}{w:ß}{H:Hp}{h:Heap}{D:È}{o:HO}(x:xt P w H h)(d:H D=Ä)(a:xN P w śq h D o):xt P w śq h:=λb u e=>by by_cases hb:b=D;subst hb;rw[yb]at e;cases e;exact a;rw[yB hb]at e;refine(ük).Y9 (λc v _ q=>q) (λc q=>?_) (λc f q=>?_);rw[yB (qV q d)];exact q;rw[yB (qV q d)];exact q
structure ZA(X:Cx)(ļ:õa)(cl:Á Ðb)(own:Á Str):Prop where
 kind:Ŕj=.function
 cell:∀y∈Źd,y.2≠.cell
 O7:YE Ô cl
 ok:U0 ļ Ô cl own=Ã
 O8:Ńq ļ Ô=pure cl
 ĸh:∀y∈Źd,y.2=.local->scope.names.lookup y.1=À .local
structure OG(X:Cx)(z7:Á ë)(H:Hp)(s:Ë)(C:È):Prop where
 free:H C=Ä
 ne:C≠Òa
 old:Ęc<=C
 cell:∀x c,īa x=À c->c≠C
 pin:∀p∈ēc++z7,p.1≠C
def LS(σ:St)(n:Nat)(J:It)(g:TG)(tc:TT)(te:TE)(W:Nat->Nat->Á V->Hp->Prop)(a:Á V->Hp->Prop):Prop:=
 ∀i m ys H,W i m ys H->(Ġh i H/\a ys H)\/(J.go i H/\Óa<á/\∃N:Á V->Hp->Prop,(∀ys' H',N ys' H'->∃m',m'<m/\W ê m' ys' H')/\
  ∀x H',J.ua i H x H'->g x ŧi H' λσ2 d=>(∃τ,σ2=σ++τ)/\tc σ2 d λc b=>if c=Ã then te σ2 b λy e=>N (ys++[y]) e else N ys b)
def ac{z7:Á ë}{σ:St}{H2:Hp}{F:Ë}{l:Á È}{it:È}{tn:Nat->Heap->Prop}{J:It}{W:Nat->Nat->Á V->Hp->Prop}{Fin:Á V->Hp->Prop}{m0:Nat}{RR:Value->È->Ĝd->Ë->Prop}(P:ų=Ã)(B:ZA X ļ cl own)(I:zI X z7 σ H2 F)(T:gC ò X.w X.K tg J l it tn)(t0:tn 0 F.heap)(G:∀b∈l,jS X z7 H2 b)(hg:∀C s H l pn,PG Îi tg g)(hc:∀C s H l pn,Xs Îi ifs tc)(he:∀C s H l pn,PE Îi elt te)(W0:W 0 m0 [] H2)(turn:LS σ ŝb J g tc te W Fin)(hRR:∀D C s' H' ys m',zI X z7 σ ģp s'->H' D=Ä->Fin ys H'->s'.heap.Ns C m'->OG X z7 ģp s' C->RR łk C Ĳq s'){E:Value->Ë->Prop} :Ù ü X.A Ŷp (λacc s3=>Ù ü X.A (newFunctionEnv ļ Ûj cl [] X.env.qual Ä .none (À Ô)) (λcenv s4=>
   đb ü X.A (.compStart Ża 0 ăb acc { cenv with ļ:=relabel ļ Ô }) (RR acc cenv.locals) s4) E s3) E F:=by
 refine Žc (wpAny_newFunctionEnv êl (by intro y hy;simp at hy) (λh4 hns Y=>?_) Ģf);dsimp only at hns Y ⊢;generalize hP:F.heap.push Ňr=P2 at hns Y ⊢;have hC:Ĉg=Ød+1:=by rw[<-hP,Ũb]
 have Q:Ød≠Ĉg:=by rw[hC];exact Æa Ċf
 have f:Ød<=Ĉg:=by rw[hC];exact óg _
 have R:∀b o,öq b=À o->h4.get? b=À o:=λb o e=>
  Y.extBut b o (Æa đq) (ģ _ (hP▸ģ _ e))
 have hd4:h4.get? Ød=À Ňr:=Y.extBut _ _ Q (ģ _ (hP▸Ŭ _ rfl));have hfo:∀b∈l,∃o,öq b=À o:=λb d=>let ⟨o,e,_⟩:=ĸf 0 _ t0 b d;⟨o,e⟩
 have lt:∀b∈l,b<Ød:=λb d=>let ⟨o,e⟩:=hfo b d;Ĝ e
 generalize hDD:Ød=D at Q hd4 ⊢;generalize hCC:Ĉg=C at Q hns Y f ⊢;have m:Ød<=D:=äc hDD
 let X':=wV X ļ cl own C F H2 l (ēc++z7)
 have hpn:∀p∈X'.pn,p.1≠D:=λp hp z=>by obtain⟨e,_⟩:=ša p hp;rw[z]at e;exact Û (Ů ōc m) Üa
 have okb:=ab I Ģf êl B.O7 B.ok f G hfo
 have S:∀{k:Nat}{a:Á Value}{H':Hp},(∀b∈l,H' b=Ä)->∀b∈l,jS X' čg H' b:=λ{k a H'} hn b d=>
  ⟨hn b d,ŵp.1,okb.VI b d,.inl d,ŵp.2,λp hp=>by
   rcases ça hp with z|z;exact ìe.2.2.2.2.2 p z;have q:p=(D,u5 a k):=by simpa using z
   subst q;exact λz=>Û (lt b d) (by rw[<-z];exact Ŋe m)⟩
 have loop:∀s4:Ë,s4={ F with å:=h4,ē:=F.toks+([]:Á ůb).length }->
   đb ü X.A (.compLoop Ża 0 ăb łk (compEnvC ļ cl C Ô)) (RR łk C) s4:=by
  rintro s4 rfl
  refine z5q (λn s'=>∃(i:Nat) (ys:Á V) (a:Á Value) (k:Nat) (H':Hp),zI X' čg Śd H' s'/\zo ys a/\tn i Čd/\(∀b∈l,H' b=Ä)/\W i n ys H'/\Óa<=á) ?_ m0
   ⟨0,[],[],0,H2,rS I Ģf êl B.O7 B.ok f m Q G hfo R hns hd4 dC,.nil,Ġf _ _ _ t0 λb _ o e=>R b o e,λb d=>ìe.1,W0,ęa _⟩
  rintro n s5 ⟨i,ys,a,k,H5,I5,v5,st5,fr5,w5,z5⟩;rcases turn i n ys H5 w5 with⟨Ś,fin⟩|⟨go,room,N,hN,Ŵc⟩
  .refine Ėa (T.done X' rfl rfl rfl P i _ s5 _ H5 Ĵc I5 (S fr5) st5 Ś) (λr s6 ⟨hr,I6⟩=>?_) λ_ _ z=>z
   subst hr;obtain⟨e6,n6,ne6,nf6,d6⟩:=I6.pin (D,u5 a k) ďq;obtain⟨m6,ns6,_⟩:=I6.loc;have u6:Un Ļk l H2 çj F.heap s6.heap:=x49 I6.base m n6;have new6:xN ò X.w çj s6.heap D äd:=⟨z5,a,k,v5,e6⟩;have I7:zI X z7 σ çj s6:=I.BX I6.os u6 (cM I6.zf n6 new6) I6.bare (λb d=>⟨ìe.2.2.2.1,ìe.2.1,ìe.2.2.2.2.1,ìe.2.2.2.2.2⟩);refine hRR D C s6 H5 ys m6 I7 n6 fin ns6 ⟨?_,?_,?_,λx c hcx z=>?_,λp hp z=>?_⟩
   .rw[yB (Ňb Q)];exact I6.free
   .exact λz=>Û I.lt (by rw[<-z];exact Ŋe f)
   .exact Ġ I.sz f
   .subst z;obtain⟨v,o,ho,_⟩:=ŝa x c hcx;exact Û (Ů (Ĝ ho) f) Üa
   .obtain⟨e,_⟩:=ša p hp;rw[z]at e;exact Û đq Üa
  .refine Ėa (T.item X' rfl rfl rfl P i _ s5 _ H5 Ĵc I5 (S fr5) st5 go) (λr s6 ⟨u,hr,h6⟩=>?_) λ_ _ z=>z
   subst hr;refine Ėa h6 (λ_ s7 ⟨x,H7,I7,r7,y7,st7,fr7⟩=>?_) λ_ _ z=>z
   have I7':=I7.pinned (S fr7) (ĸf _ _ st7);refine Ėa (hg C F H2 l _ _ s7 _ H7 x u _ I7' r7 (Ŵc x H7 y7)) (λ_ s8 ⟨σ8,H8,I8,⟨τ,hτ⟩,q8⟩=>?_) λ_ _ z=>z
   subst hτ
   have ća:∀{n':Nat}{U:Á V}{t:Á Value}{k':Nat}{L:Hp}{O:Ë}{pl:Á ë},zI X' ((D,u5 t k')::pl) İk L O->zo U t->tn ê àl->(∀b∈l,L b=Ä)->W ê n' U L->U.length<=á->
     ∃(i:Nat) (ys:Á V) (a:Á Value) (k:Nat) (H':Hp),zI X' čg Śd H' O/\zo ys a/\tn i àl/\(∀b∈l,H' b=Ä)/\W i n' ys H'/\Óa<=á:=λ{n' U t k' L O pl} Z v9 st9 fr9 w9 z9=>by
    have I9':zI X' [(D,u5 t k')] İk L O:=Z.Tg λp hp=>Z.pin p (Ža _ (by
     have q:p=(D,u5 t k'):=by simpa using hp
     subst q;exact Ŏ))
    refine⟨i+1,U,t,k',L,I9'.weak ?_ (λj v e=>?_),v9,st9,fr9,w9,z9⟩
    .rw[I9'.len,<-I5.len]
    .have e':=Oy e;rw[ģb (Ŗ e').1];exact e'
   have h:∀{σ9:St}{L:Hp}{O:Ë},zI X' (čg++Jb l s7.heap) σ9 L O->tn ê àl/\∀b∈l,L b=Ä:=λ{σ9 L O} Z=>
    ⟨Ġf _ _ _ st7 λb d o e=>Òm.1,λb d=>by obtain⟨o,e,_⟩:=ĸf _ _ st7 b d;exact Òm.2.1⟩
   refine Ėa (hc C F H2 l _ _ s8 _ H8 _ I8 q8) (λc O ⟨L,Z,q9⟩=>?_) λ_ _ z=>z
   cases c with
   |Â=>
    rw[Ð ŉ]at q9 ⊢;obtain⟨m',hm,w9⟩:=hN _ _ q9;exact⟨m',hm,ća Z v5 (h Z).1 (h Z).2 w9 z5⟩
   |Ã=>
    rw[Î rfl]at q9 ⊢;refine Ėa (he C F H2 l _ _ O _ L _ Z q9) (λyv sa ⟨y,Ha,Ia,ra,qa⟩=>?_) λ_ _ z=>z
    obtain⟨m',hm,wa⟩:=hN _ _ qa;obtain⟨ea,na,_⟩:=Ia.pin (D,u5 a k) (Ža _ (ŉd _ Ŏ))
    have szi:Īc<=á:=by have:=v5.length;simp only[ğ];omega
    refine wpAny_list_append_plain (hsz:=szi) ⟨k,ea⟩ λd hlb hsb'=>?_
    obtain⟨kb,eb⟩:=hlb;have eb':d.get? D=À (u5 œr kb):=by rw[eb];simp
    have Ib:zI X' [(D,u5 œr kb)] İk Ha { sa with å:=d,ē:=sa.toks }:=z4f (tk:=sa.toks) Ia m hpn hsb' eb';have stb:tn ê d:=Ġf _ _ _ (h Ia).1 λb hbf o e=>(hsb'.2 b (λz=>Û (lt b hbf) (by rw[z];exact Ŋe m))).trans e
    exact⟨m',hm,ća Ib (Őg v5 (.cons ra .nil)) stb (h Ia).2 wa (by rw[í];exact room)⟩
 exact codeAny_compStart_list ŷp (T.self X.A 0 _ _ _ (Ġf _ _ _ t0 λb _ o e=>R b o e) ŷp)
def y8n(n:Nat)(wi:TI)(g:TG)(tc:TT)(te:TE):TE:=λσ H Q=>wi σ H λJ b=>∃W:Nat->Nat->Á V->Hp->Prop,(∃m,W 0 m [] b)/\
 LS σ n J g tc te W λc a=>∀p,a p=Ä->Q Éa ùo
def OG.inv{a:Á ë}{σ:St}{H:Hp}{s:Ë}{C:È}{h':Heap}(o:OG X a H s C)(I:zI X a σ H s)(d:Ĳb C Ý h'):zI X a σ H { s with å:=h' }:=
 Ųa (it:=C) (t':=Č) (λb u c q=>(d.2 b c).trans q) o.free o.ne (.inr o.old) o.cell o.pin
def eV(a:ų=Ã)(B:ZA X ļ cl own)(hi:PI X tg Ŕ wi)(F:∀C s H fp pn,PG Ña tg g)(L:∀C s H fp pn,Xs Ña ifs tc)(q:∀C s H fp pn,PE Ña elt te)(K:Ê (∀x,Īb Ŕ Ô x=pure x) q11) :PE X Ża (y8n ŝb wi g tc te):=by intro l s σ H Q I h;rw[eval_ListComp];refine ēm (use:=Ä) rfl K B.O8 Ģf B.names (zn (hi l s σ H _ I h) λv U n=>zn n λr R p=>?_);obtain⟨Y,fp,S,J,O,e,m,T,f,u,W,⟨P,y⟩,b⟩:=p;subst e;refine ac (RR:=λk C=>compPost ü X.A Ĥ Ä (EP X l σ Q) k C) a B m T f u F L q y b ?_;intro D C Z E G t z o d c j;exact⟨t,c,λN i=>⟨.ref D,zV E D (.lst G),j.inv z i,rfl,d D o⟩⟩
def y92(i n:Nat)(wi:TI)(g:TG)(tc:TT)(te:TE):TS:=λD σ H=>wi σ H λJ b=>∃W:Nat->Nat->Á V->Hp->Prop,(∃m,W 0 m [] b)/\
 LS σ n J g tc te W λc a=>∀p,a p=Ä->źa ħr ùo
def Gu{i:Nat}{x:Str}{f c:Pos}(d:ų=Ã)(O:ğa)(u:X.N[i]?=À x)(F:Ļd x=À .local)(B:ZA X ļ cl own)(E:űb Ża (À Ĵq) c.line Ô=pure Ã)(hi:PI X tg Ŕ wi)(hg:∀C s H fp pn,PG Ña tg g)(hc:∀C s H fp pn,Xs Ña ifs tc)(S:∀C s H fp pn,PE Ña elt te)(hs:Ê (∀x,Īb Ŕ Ô x=pure x) q11) :PS X (.Assign [.Name x f] Ża c) (y92 i ŝb wi g tc te):=by
 intro p s σ H D I h;rw[exec_Assign_Name_used _ _ _ _ E];refine Ò (Èg (Ò ?_));show Ù _ X.A (do let _ <-comprehension Ża ļ Ô _ Ŷp Â (č Ŕ Ô) Ľr) _ _ s
 refine Ò (zn (ēm (use:=À Šl) (Q:=λ_ j=>SP X p D .next j) rfl hs B.O8 Ģf B.names
  (zn (hi p s σ H _ I h) λv s1 K=>zn K λU s2 R=>?_)) λ_ j hq=>ě (ě hq))
 obtain⟨it,fp,tn,J,H2,e,G,T,q,Z,W,⟨m0,w0⟩,k⟩:=R;subst e;refine ac (RR:=λt C=>compPost ü X.A Ĥ Ľr (λ_ j=>SP X p D .next j) t C) d B G T q Z hg hc S w0 k ?_;intro L C j H' ys Y I' P o l b;show Ù _ X.A (Ćc Ĵq Ô (.ref L)) _ _ j;refine Ýo (lU I' O u (.inl F) (v:=.ref L) rfl (λs3 I3 q3=>?_) (.inr F));obtain⟨a,n,ha⟩:=q3
 have m:C≠a:=by rcases ha with z|z;rw[z];exact b.ne;exact λy=>b.cell x a z y.symm
 refine⟨Y,l.sameBut n m,λh' r=>?_⟩;exact⟨_,_,OG.inv (H:=zV H' L äd) ⟨b.free,b.ne,b.old,b.cell,b.pin⟩ I3 r,o L P⟩
#print a
structure QE(X:Cx)(e:Ñ)(t:TE):Prop where
 h:PE X e t
structure QA(X:Cx)(es:Á Ñ)(t:TA):Prop where
 h:PA X es t
structure QS(X:Cx)(st:Õ)(t:TS):Prop where
 h:PS X st t
structure QG(X:Cx)(e:Ñ)(t:TG):Prop where
 h:PG X e t
structure OH(X:Cx)(es:Á Ñ)(t:kC):Prop where
 h:QN X es t
structure QI(X:Cx)(tg e:Ñ)(t:TI):Prop where
 h:PI X tg e t
section
variable{X:Cx}{x:Str}{p pos ĩa Ĕa Úa:Pos}{e a b c o:Ñ}{es:Á Ñ}{te to:TE}{t:TA}{r:R2}{v:V}{T id:Áa}{j k i:Nat}
def qv(i:Nat){x:Str}{pos:Pos}(b:Ê ŉe q12)(hv:Ê Źe q13)(c:Ê ı q10)(a:Ê řb q10):QE X ýa øe:=⟨Wf b hv c a⟩
def y4c(h:wT î x v)(b:Gl X x)(a:Ê ı q10):QE X ýa Ĩf:=⟨We h b a⟩
def y4b(a:Gl X x)(c:î x=Ä)(hv:Ř x=À ļb)(d:Ê Àb q10)(b:Ê ı q10):QE X ýa ůp:=⟨y2i a c hv d b⟩
noncomputable def Gj:Ñ->Í
 |.Name ..=>Ã|.Call ..=>Ã|.Subscript ..=>Ã|.Attribute ..=>Ã|.Constant ..=>Ã|.List ..=>Ã|.Tuple ..=>Ã|.BinOp ..=>Ã|_=>Â
def f9{e:Ñ}{env:Env}(h:Gj e=Ã):∀ŭc,ðe e env ŭc=(do let v <-ŭc;standAt e.pos;holding [v] ūq):=by cases e<;>first|(intro _;rfl)|cases h
def fq:QA X [] X7:=⟨Wc⟩
def HC(b:QE X e te)(a:QA X es t)(h:Ê ĝa q12):QA X ė ĉk:=⟨Yw b.h a.h h⟩
noncomputable def Wg:Ñ->Í
 |.Name ..=>Ã|.Constant ..=>Ã|.BinOp ..=>Ã|.Call ..=>Ã|.UnaryOp ..=>Ã|.Subscript ..=>Ã|.Attribute ..=>Ã|_=>Â
def Gk{b:Ñ}(h:Wg b=Ã):Ar b:=by cases b<;>first|(intro _ _;rfl)|cases h
def Jk{r:Á V->Hp->VK->Prop}(g:wu X æc r)(i:Gl X x)(d:î x=Ä)(hv:Ř x=À æc)(c:QA X ė t)(f:Ê Àb q10)(b:Ê ı q10)(a:Ê Ĭa q12):QE X ſa Þh:=by rw[ž,Ē]at a;exact⟨y2k g i d hv c.h f b Ôh Úh⟩
def Ue{r:Á V->Hp->VK->Prop}(g:wu X ļb r)(i:Gl X x)(d:î x=Ä)(hv:Ř x=À ļb)(c:QA X ė t)(f:Ê Àb q10)(b:Ê ı q10)(a:Ê Ĭa q12):QE X ſa Þh:=by rw[ž,Ē]at a;exact⟨y2m g i d hv c.h f b Ôh Úh⟩
variable{g:TG}
noncomputable def UW:Ñ->Í
 |.ListComp ..=>Â|.SetComp ..=>Â|.DictComp ..=>Â|_=>Ã
def dq{e:Ñ}{tgt:Æ Ñ}{n:Nat}{env:Env}(h:UW e=Ã):űb e tgt n env=pure Â:=by cases e<;>first|rfl|cases h
def h8(a:QE X e te)(b:Ê źe q12):QS X ïj (lg te):=⟨fG a.h (dq b)⟩
def HG{i:Nat}{x:Str}{ĩa:Pos}(b:ğa)(hi:X.N[i]?=À x)(d:pW éa x)(a:QE X e te)(c:Ê źe q12)(f:Ê ża q7) :QS X Ŗf (Nt te ċc):=⟨y3x b hi d a.h (dq c) f⟩
def yk{i:Nat}{x:Str}(a:ğa)(hi:X.N[i]?=À x)(b:pW éa x)(c:Ê ża q7):QG X ýa ċc:=⟨y35 a hi b c⟩
def f_{o i:Ñ}{to a:TE}{t:OJ}(c:QE X o to)(hi:QE X i a)(d:DK X t)(b:Ê (Wg i=Ã) q12):QG X ďi (bq to a t):=by refine⟨y36 c.h đc d ?_⟩;cases i<;>first|(intro _;rfl)|cases b
def Zh:OH X [] WA:=⟨y39⟩
def ut{t:TG}{u:kC}(b:QG X e t)(c:OH X es u)(a:Ê ((ĝp).map (·.2)=Ćc e Ô::(ŋe).map (·.2)) q12):OH X ė (j5 t u):=⟨y38 b.h c.h a⟩
def Zg{k:Nat}{t:kC}{n:Nat}(b:ų=Ã)(h:OH X es t)(c:Ê Ĵo q12)(a:Ê ((ŋe).findIdx? (·.1)=Ä) q12):QG X ąo Âq:=⟨y37 b h.h c a⟩
variable{ĸ:Str}{rm:V->Á V->Hp->VK->Prop}
theorem lP{env:Env}{pos:Pos}:∀{es:Á Ñ},es.all xE=Ã->(ŷn).all Ķj=Ã
 | [],_=>rfl|e::es,h=>by rw[ž,Ē]at h;rw[tS h.1];have a:=lP (env:=env) (pos:=pos) h.2;unfold Ŧc at a ⊢;rw[ŝ,ž,a];rfl
def HE(j:ŉq T)(c:Slot T ĸ id)(g:typeOf æc=pure Ŋm)(m:DI X id rm)(l:QE X o to)(k:QA X ė t)(a:Ê Õm q12)(b:Ê Òc q12)(d:Ê Ĭa q12)(i:Ê ((ė).length<30) q10) :QE X Ųl (lf X.K T rm to t):=⟨by have f:=lP (env:=Ô) (pos:=Úa) d;rw[ž,Ē]at d;refine y2h j c g m l.h k.h a ?_ b (tS d.1) (Zo d.2);rw[f];show(Ã&&Ã&&decide ((ė).length+0+0<30))=Ã;rw[ï (show(ė).length+0+0<30 from i)];rfl⟩
#print a
def Aw(K:Ì)(H:Hp)(a c:È)(xs b:Á V):Prop:=(y_ K H a xs/\y_ K H c b)\/(yd K H a xs/\yd K H c b)
section
variable{X:Cx}{z7:Á ë}{σ:St}{H:Hp}{s:Ë}
def y4y{A:ó}{a c:È}{xs f:Á V}{e:Nat->Í}(I:zI X z7 σ H s)(l:Śa<Ða)(S:Aw X.K H a c xs f)(Q:∀(j:Nat) x' y' u v,xs[j]?=À x'->f[j]?=À y'->zx x' u->zx y' v->ŵb Ŵ s u v (e j)) :ŝj A s ř âh ((Ňn).all e&&à==Űa)/\Ĉj A s ř âh (!((Ňn).all e&&à==Űa)):=by
 have g:∀{B:Á V}{b:Á Value}{j:Nat}(R:j<Ĭb),zo B b->∃z,B[j]?=À z/\zx z ĉb[j]:=λ{B b j} R r=>by
  have E:=áa
  have o:j<B.length:=by rw[ğ]at R;omega
  obtain⟨u,n,T⟩:=ĝb (Ĕ o);refine⟨_,Ĕ o,?_⟩
  have:ĉb[j]=u:=by have C:b[j]?=À b[j]:=Ĕ Å;rw[C]at n;simpa using n
  rw[this];exact T
 rcases S with⟨N,O⟩|⟨N,O⟩;obtain⟨b,t,h,_⟩:=ãa N;obtain⟨k,x,i,_⟩:=ãa O;have P:=ād;have C:=ŀb
 have d:∀j (m:j<Ĭb) (w:j<ñg),ŵb Ŵ s ĉb[j] îr[j] (e j):=λj m w=>by obtain⟨G,e1,J⟩:=g m t;obtain⟨L,e2,F⟩:=g w x;exact Q j G L _ _ e1 e2 J F
 have p:=SeqAt.RcAt.tuples (e:=e) h i l d;have q:=SeqAt.RcNeAt.tuples (e:=e) h i l d;rw[ğ,ğ,<-P,<-C]at p q;exact⟨p,q⟩;obtain⟨b,t,h,_⟩:=Âa N;obtain⟨k,x,i,_⟩:=Âa O;have P:=ād;have C:=ŀb
 have d:∀j (m:j<Ĭb) (w:j<ñg),ŵb Ŵ s ĉb[j] îr[j] (e j):=λj m w=>by obtain⟨G,e1,J⟩:=g m t;obtain⟨L,e2,F⟩:=g w x;exact Q j G L _ _ e1 e2 J F
 by_cases E:à=Űa;have y:Ĭb=ñg:=by rw[ğ,ğ];omega
 have p:=SeqAt.RcAt.lists (e:=e) Áh Àh y l d;have q:=SeqAt.RcNeAt.lists (e:=e) Áh Àh y l d;have e1:min à Űa=Ĭb:=by rw[ğ];omega
 have e2:Ŕq=Ã:=by simp[E]
 rw[e1,e2,Bool.and_true];exact⟨p,q⟩;have y:(Ĭb != ñg)=Ã:=by rw[ğ,ğ];simp;omega
 have e2:Ŕq=Â:=by simp[E]
 rw[e2,òg];exact⟨SeqAt.RcAt.lists_lengths Áh Àh y l,SeqAt.RcNeAt.lists_lengths Áh Àh y l⟩
def LC(A:ó):A.in1.units=Śa+1:=rfl
#print a
def z0y{x:V}(h:j2 x=Ã):qO x x=Ã:=by cases x<;>first|rfl|(simp[qO];done)|cases h
open Ŝk (hideAll)
#print L2
namespace L2
open Ī ĺ ĭ
section
variable{H H':Hp}{a C:È}
def oP(a C:È)(h:Heap):Prop:=∃o vs,Ģ a=À o/\Ğb=.ref C/\Ŝa=.fields vs
def x4a{fs ex:Á È}{H H':Hp}{h h':Heap}{D:È}{o:HO}(u:Un fs ex H H' h h')(g:Ģ D=Ä)(d:H' D=Ä):Un fs ex H Ĕq h h' where
 Īa:=ĕf
 slot:=ĕh
 free:=λb c q n i=>by rw[yB (λz=>by subst z;rw[g]at q;cases q)];exact Ėh b c q n i
 ĳh:=ïh
 tZ:=λb e q=>by rw[yB Ŏn];exact u.tZ b e q
 tF:=λb c v q=>by rw[yB ÿn];exact u.tF b c v q
 qm:=λb f q=>by obtain⟨a,z⟩:=u.qm b f q;exact⟨a,by rw[yB (qV z d)];exact z⟩
#print a
section
variable{X:Cx}
def Mh{ns:Á Int}{its:Á Value}(r:zo ėa its){i:Nat}{v:Value}(h:Þa[i]?=À v):∃t,v=.int Ėr t:=by
 have e:i<Ķb:=by rw[ņd]at h;exact Üb.1
 have d:Ôa=Ķb:=by have:=áa;rw[ç]at this;exact this
 have c:ėa[i]?=À (Β Ėr):=by rw[Ŧ,øa,Ĕ Å];rfl
 obtain⟨u,a,b⟩:=ĝb c;rw[ņd,a]at h;cases h;exact b
theorem Gm{ns:Á Int}:∀(k:Nat),k<=Ôa->Ęf Ðp k=(Ĩg).sum
 |0,_=>by simp[Ęf]|k+1,h=>by rw[Ęf,Gm k Å,ĉe Å,List.sum_append,øa,Ĕ Å];show _+ns[k]=_+(ns[k]+0);rw[ċg]
def Ax(ns:Á Int):Prop:=(∀n∈ns,ġh n)/\∀k,k<=Ôa->ġh (Ĩg).sum
def iA(K:Ì):Á V->Hp->VK->Prop:=λa H Q=>∃(p:È) (ns:Á Int),a=ýd/\(yd K H p ėa\/y_ K H p ėa)/\Ax ns/\Q (.int Ïl) H
def lV{ns:Á Int}(h:Ax ns):∀j,j<Ôa->ġh (Ĺg j 0)/\ġh (Ęf Ðp Ùa):=λj a=>by refine⟨h.1 _ ?_,?_⟩;rw[øa,Ĕ a];exact àc a;rw[Gm _ Å];exact h.2 _ Å
def sP(G:ų=Ã):wu X Ĳo (iA X.K):=by
 intro L s σ H N J Q I r h;obtain⟨p,d,rfl,m,B,q⟩:=h;obtain⟨u,rfl,E⟩:=uy r;cases E;have A:=ĵa G;have e:Ęf (λi=>ĝf i 0) œa=d.sum:=by rw[Gm _ Ċ,śd]
 refine call_sum_walk ?_;rcases m with m|m;obtain⟨a,t,w,F⟩:=Âa m;have j:œa=Īc:=by have:=ād;rw[ç]at this;rw[ğ];exact this
 have c:p<Ú:=by obtain⟨o,n,e,_⟩:=w;exact Ĝ e
 refine Ŀd w.isList ?_;refine⟨_,_,_,_,_,_,λi=>ĝf i 0,rfl,Śj Žp Ú p Űk ĺb,⟨⟨_,Ŭ _ rfl,rfl,rfl⟩,w.isList.push _⟩,?_,λi v y=>Mh t y,?_,?_⟩;intro b l;show b<(Ŧa _).objs.size;rw[Ũb];simp only[Èb,ťa,Õb]at l;rcases l with rfl|rfl;exact Øc _;exact ŕd c;rw[<-j];exact lV B;intro C x t' k;rw[<-j,e]
 exact⟨.int d.sum,H,ñe (t':=x) λb o f=>k b o (λz=>by
  have:b=Ú:=by simpa using z
  rw[this]at f;exact Û (Ĝ f) Üa) Ĺr,⟨_,rfl⟩,q⟩
 obtain⟨a,t,w,F⟩:=ãa m;have j:œa=Īc:=by have:=ād;rw[ç]at this;rw[ğ];exact this
 have g:ŧd p ĺb:=w;have c:p<Ú:=by obtain⟨o,e,_⟩:=g;exact Ĝ e
 refine ßi g ?_;refine⟨_,_,_,_,_,_,λi=>ĝf i 0,rfl,Walks.tuple Žp Ú p Űk ĺb,⟨⟨_,Ŭ _ rfl,rfl,rfl⟩,g.push _⟩,?_,λi v y=>Mh t y,?_,?_⟩;intro b l;show b<(Ŧa _).objs.size;rw[Ũb];simp only[Èb,ťa,Õb]at l;rcases l with rfl|rfl;exact Øc _;exact ŕd c;rw[<-j];exact lV B;intro C x t' k;rw[<-j,e]
 exact⟨.int d.sum,H,ñe (t':=x) λb o f=>k b o (λz=>by
  have:b=Ú:=by simpa using z
  rw[this]at f;exact Û (Ĝ f) Üa) Ĺr,⟨_,rfl⟩,q⟩
def x4f{a:Á Í}{its:Á Value}(r:zo Àq its){i:Nat}{v:Value}(h:Þa[i]?=À v):v=.bool ép:=by
 have f:i<Ķb:=by rw[ņd]at h;exact Üb.1
 have e:ĳa=Ķb:=by have:=áa;rw[ç]at this;exact this
 have d:Àq[i]?=À (.bl ép):=by rw[Ŧ,øa,Ĕ Å];rfl
 obtain⟨u,b,c⟩:=ĝb d;rw[ņd,b]at h;cases h;exact c
def y4w{d:Á Í}:(ùa œa).all (λi=>ĝf i Â)=d.all id:=by
 rw[īc,Ěo,Ěo]
 constructor;intro h b e;obtain⟨i,c,rfl⟩:=Än e;have:=h i (Ïd c)
 rwa [øa,Ĕ c]at this;intro h i c;have a:=Ýc c;rw[øa,Ĕ a];exact h _ (àc a)
def hG(K:Ì):Á V->Hp->VK->Prop:=λa H Q=>∃(p:È) (bs:Á Í),a=ýd/\yd K H p (Ĝh V.bl)/\Q (.bl (bs.all id)) H
def sB(B:ų=Ã):wu X ĳo (hG X.K):=by
 intro F s σ H G E Q I r h;obtain⟨p,d,rfl,x,q⟩:=h;obtain⟨u,rfl,w⟩:=uy r;cases w;have y:=ĵa B;refine call_all_walk ?_;obtain⟨a,l,g,L⟩:=Âa x;have m:œa=Īc:=by have:=Ďb;rw[ç]at this;rw[ğ];exact this
 have f:p<Ú:=by obtain⟨o,n,e,_⟩:=g;exact Ĝ e
 refine Ŀd áf ?_;refine⟨_,_,_,_,_,_,λi=>ĝf i Â,rfl,Śj (by exact y) Ú p (Æa f) ĺb,⟨⟨_,Ŭ _ rfl,rfl,rfl⟩,g.isList.push _⟩,?_,?_⟩;intro i v J N C A j;rw[x4f l A];exact ě j;intro j t k;rw[<-m,y4w]
 exact⟨.bl (d.all id),H,ñe (t':=t) λb o c=>k b o (λz=>by
  have:b=Ú:=by simpa using z
  rw[this]at c;exact Û (Ĝ c) Üa) (ģ _ c),rfl,q⟩
#print a
open Builtin.SmallTypes (Āc)
structure Xu(P:æ)(w:ß)(it l:È)(st:Nat->Heap->Prop)(n:Nat)(val:Nat->Value):Prop where
 Īa:∀i h h',st i h->(∀b o,(b=it\/b=l)->Ģ b=À o->Ğ b=À o)->st i h'
 ïb:∀{A:ó}{Q:Value->Ë->Prop}{E:Value->Ë->Prop}{s:Ë}(i:Nat),st i Ý->i<n->(∀h',st ê h'->Ĳb it Ý h'->Q (val i) { s with å:=h' })->Ù ųb A şg Q E s
 done:∀{A:ó}{Q:Value->Ë->Prop}{E:Value->Ë->Prop}{s:Ë}(i:Nat),Ÿb=Ä->st i Ý->n<=i->
  (∀h' e,õq it Ý h'->(∃o,Ğ e=À o/\Ğb=.type Ŀe)->E áh { s with å:=h' })->Ù ųb A şg Q E s
section
variable{Ě:æ}{w:ß}{A:ó}{E:Value->Ë->Prop}{s:Ë}
def z78{it t:È}{i:Nat}{zF}{x:Value}{Q:Value->Ë->Prop}(a:Ťn it t i)(f:ŧd t zF)(j:zF[i]?=À x)(h:∀h',h'.IsTupleIter it t ê->Ĳb it Ý h'->Q x { s with å:=h' }):Ù è A şg Q E s:=by
 obtain⟨o,c,g,b⟩:=id a;obtain⟨l,e,_,k,d⟩:=f;unfold Āc
 refine Ò (ĵd (ĸ:=åd Ĳg) a.typeIs ŏf
  (Ãd ŏf a.typeIs òm ?_ Óm))
 refine Ò (m:=ůc ăb 0) (Ĥb c b (x:=.ref t) rfl ?_);show Ù _ _ Ğr _ _ s;rw[Ð (show ¬ ėr from ŉ)];refine Ò (m:=ůc ăb 1) (Ĥb c b (x:=.int i 0) rfl ?_);refine Ò (m:=seqItems? (.ref t)) (ĥb e d ?_);simp only[ľ,j];refine Ò (ŷo c b â (ě ⟨x,rfl,ě (h _ ?_ (Ĺn ..))⟩))
 exact⟨_,źf _ c (Obj.isFreed_of_fields (Ūn b _)),(Obj.cls_mapFields ..).trans g,by rw[Ūn b];simp[ąf]⟩
def z77{it t:È}{i:Nat}{zF}{Q:Value->Ë->Prop}(h:Ÿb=Ä)(b:Ťn it t i)(j:ŧd t zF)(l:zF[i]?=Ä)(k:∀h' e,õq it Ý h'->(∃o,Ğ e=À o/\Ğb=.type Ŀe)->E áh { s with å:=h' }):Ù è A şg Q E s:=by
 obtain⟨o,g,q,d⟩:=id b;obtain⟨p,f,_,n,c⟩:=j;unfold Āc
 refine Ò (ĵd (ĸ:=åd Ĳg) Óe ŏf
  (Ãd ŏf Óe òm ?_ Óm))
 refine Ò (m:=ůc ăb 0) (Ĥb g d (x:=.ref t) rfl ?_);show Ù _ _ Ğr _ _ s;rw[Ð (show ¬ ėr from ŉ)];refine Ò (m:=ůc ăb 1) (Ĥb g d (x:=.int i 0) rfl ?_);refine Ò (m:=seqItems? (.ref t)) (ĥb f c ?_);simp only[ľ,l];refine Ò (Őd (Ò (ŷo g d â ?_)));refine Ò (m:=newExc (.type Ŀe) []) ?_;simp only[newExc,newTuple];refine Ò (Žc ?_ çp);refine Ò (m:=żo _ _) (Ðg (a:=ťd) (by first|rfl|(simp only[żo];rfl)) ?_);refine Žc ?_ çp;simp only[raiseNew];refine Ò (wpAny_handled ?_)
 first|rw[show A.in1.handled=Ä from h]|rw[h]
 refine Ò (ě (wpAny_throw ?_));exact k _ _ (((Ĺn ..).extBut.push _).push _) ⟨_,Ŭ _ rfl,rfl⟩
def y7x{it l:È}(d:l≠it)(a:Ø Value):Xu Ě w it l (λi h=>ąj it l i/\h.IsList l a) ì ün where
 Īa:=λi h f st k=>⟨st.1.at λo e=>k it o ĳ e,st.2.at λo e=>k l o Ĺb e⟩
 ïb:=λi st c m=>wpAny_nextOf_list_item st.1 st.2 (x:=a.getD i .none) Ħo λf b g=>m f ⟨b,st.2.extBut g.extBut d⟩ g
 done:=λi n st c j=>wpAny_nextOf_list_end n st.1 st.2 (òi c) j
def y7y{it l:È}(d:l≠it)(a:Ø Value):Xu Ě w it l (λi h=>ăp it l i/\ñr l a) ì ün where
 Īa:=λi h f st k=>⟨st.1.at λo e=>k it o ĳ e,st.2.at λo e=>k l o Ĺb e⟩
 ïb:=λi st c m=>z78 st.1 st.2 (x:=a.getD i .none) Ħo λf b g=>m f ⟨b,st.2.extBut g.extBut d⟩ g
 done:=λi n st c j=>z77 n st.1 st.2 (òi c) j
variable{z TI TO i1 i2 l1 l2:È}{st1 st2:Nat->Heap->Prop}{n1 n2:Nat}{v1 v2:Nat->Value}{a b:Value}{k:Nat}
def x6u{Q:Value->Ë->Prop}(D:âf z TI TO i1 i2 l1 l2)(I:Xu Ě w i1 l1 st1 n1 v1)(J:Xu Ě w i2 l2 st2 n2 v2)(hz:ëb Ý z TI TO .none)(S:ĸa Ý TI Öf űg)(O:ĸa Ý TO a b)(h1:st1 k Ý)(h2:st2 k Ý)(k1:k<n1)(k2:k<n2)(hi1:i1<Ú)(hi2:i2<Ú)(hl1:l1<Ú)(hl2:l2<Ú)(hQ:∀h',ëb h' z TI TO (ąf Ú)->ĸa h' TO óe Ĩh->st1 Œ h'->st2 Œ h'->ĸa h' Ú óe Ĩh->
   (∀c o,c≠z->c≠TO->c≠i1->c≠i2->ā c=À o->Ğ c=À o)->Q ðc { s with å:=h' }) :
  Ù è A ŧl (λfin s'=>∃v,fin=.done Åf/\Q v s') E s:=by
 refine Ò (m:=ůc ûc 2) îm;refine Ò (m:=ůc ûc 3) úm;refine Ò (ĥb S rfl ?_);refine Ò (m:=Ŋf ûc) ?_;unfold Ŋf;refine Ò ăm;simp only[Ť];refine Ò šl;refine Ò (ļd hz â λha q B=>?_)
 replace q:ëb ha z TI TO .ellipsis:=q
 refine Ò ?_;simp only[ŋi,Ło,Şi,Ãp];have Z:st1 k ha:=ål k _ _ h1 λc o N e=>æf c o (by rcases N with rfl|rfl;exact Ňh;exact D.l1z) e
 refine Ò (Υa (Ò (m:=Āc Öf) (I.item k Z k1 λhb Y C=>ě ?_)));have n:ĸa hb TO a b:=åf _ _ D.TOi1 (æf _ _ ňh O);refine Ò (ĥb n rfl (Ò (Òi n λN h p=>?_)))
 replace h:ĸa N TO óe b:=h
 refine Ò ĝj
 have h2c:st2 k N:=âl k _ _ h2 λc o d e=>by rcases d with rfl|rfl;exact Ðe _ _ İj (åf _ _ Ōq (æf _ _ ņh e));exact Ðe _ _ çl (åf _ _ D.l2i1 (æf _ _ D.l2z e))
 refine Ò (Υa (Ò (m:=Āc űg) (J.item k h2c k2 λhd U y=>ě ?_)));have j:ĸa hd TO óe b:=Ûf _ _ D.TOi2 h;refine Ò (ĥb j rfl (Ò (Òi j λg f t=>?_)))
 replace f:ĸa g TO óe Ĩh:=f
 refine Ò (őf ĺr);refine Ò (ĥb f rfl (Ò (Ÿo ?_)));have F:Łe=Ú:=by rw[t.1,y.1,p.1,C.1,B.1]
 have G:ëb g z TI TO .ellipsis:=Ïe _ _ Ţj (Ûf _ _ ŋq (Ðe _ _ Ţj (åf _ _ šj q)))
 have hke:∀c o,c≠z->c≠TO->c≠i1->c≠i2->ā c=À o->Öl c=À o:=λc o r L T X e=>
  Ïe _ _ L (Ûf _ _ X (Ðe _ _ L (åf _ _ T (æf _ _ r e))))
 have P:st1 Œ g:=ål _ _ _ Y λc o d e=>by rcases d with rfl|rfl;exact Ïe _ _ ùq (Ûf _ _ D.i12 (Ðe _ _ ùq e));exact Ïe _ _ D.l1TO (Ûf _ _ D.l1i2 (Ðe _ _ D.l1TO e))
 have W:st2 Œ g:=âl _ _ _ U λc o d e=>by rcases d with rfl|rfl;exact Ïe _ _ İj e;exact Ïe _ _ çl e
 have l:z<Łe:=Ĝ G;refine Ò (m:=Üm ûc Ðr) ?_;unfold Üm;have R:ëb (g.push { cls:=.type ŧ,Ą:=.seq #[v1 k,v2 k] }) z TI TO .ellipsis:=ģ _ G;refine Ò (ļd R â λhg u sg=>?_)
 replace u:ëb hg z TI TO Ĕr:=u
 refine ļd u â λK i sh=>?_
 replace i:ëb K z TI TO Ĕr:=i
 have H:∀c o,c≠z->Öl c=À o->K.get? c=À o:=λc o r e=>år _ _ r (ær _ _ r Ũg)
 have hT:ĸa K Łe óe Ĩh:=år _ _ (įb l) (ær _ _ (įb l) ůd);rw[F]at i hT;refine ě ⟨_,rfl,?_⟩;show Q Ðr _;rw[F];refine hQ K i (H _ _ ňh f) (ål _ _ _ P λc o d e=>H c o ?_ e) (âl _ _ _ W λc o d e=>H c o ?_ e) hT λc o r L T X e=>H c o r (hke c o r L T X e)
 .rcases d with rfl|rfl
  .exact Ňh
  .exact D.l1z
 .rcases d with rfl|rfl
  .exact ņh
  .exact D.l2z
def x6t{Q:Fin->Ë->Prop}(R:Ÿb=Ä)(D:âf z TI TO i1 i2 l1 l2)(B:Xu Ě w i1 l1 st1 n1 v1)(O:Xu Ě w i2 l2 st2 n2 v2)(hz:ëb Ý z TI TO .none)(K:ĸa Ý TI Öf űg)(y:ĸa Ý TO a b)(W:st1 k Ý)(X:st2 k Ý)(S:n1<=k\/n2<=k)(U:∀h' e,(∀c o,c≠z->c≠TO->c≠i1->c≠i2->ā c=À o->Ğ c=À o)->(∃o,Ğ e=À o/\Ğb=.type Ŀe)->E áh { s with å:=h' }) :Ù è A ŧl Q E s:=by
 refine Ò (m:=ůc ûc 2) îm;refine Ò (m:=ůc ûc 3) úm;refine Ò (ĥb K rfl ?_);refine Ò (m:=Ŋf ûc) ?_;unfold Ŋf;refine Ò ăm;simp only[Ť];refine Ò šl;refine Ò (ļd hz â λT g l=>?_)
 replace g:ëb T z TI TO .ellipsis:=g
 refine Ò ?_;simp only[ŋi,Ło,Şi,Ãp];have t:st1 k T:=B.keep k _ _ W λc o I e=>õd c o (by rcases I with rfl|rfl;exact Ňh;exact D.l1z) e
 by_cases k1:k<n1;have Z:n2<=k:=by omega
 refine Ò (Υa (Ò (m:=Āc Öf) (B.item k t k1 λv h1b h=>ě ?_)));have i:ĸa v TO a b:=àf _ _ D.TOi1 (õd _ _ ňh y);refine Ò (ĥb i rfl (Ò (Òi i λI N u=>?_)));refine Ò ĝj
 have J:st2 k I:=O.keep k _ _ X λc o F e=>by rcases F with rfl|rfl;exact źg _ _ İj (àf _ _ Ōq (õd _ _ ņh e));exact źg _ _ çl (àf _ _ D.l2i1 (õd _ _ D.l2z e))
 refine Ò (Υa (Ò (m:=Āc űg) (O.done k R J Z λhd e P G=>?_)));obtain⟨H,d,f⟩:=G;have q:ëb hd z TI TO .ellipsis:=P _ _ ŋq (źg _ _ Ţj (àf _ _ šj g));have j:e≠z:=λx=>by subst x;rw[q]at d;cases d;simp at f
 exact ļd q â λL _ n=>U L e (λc o r c2 C Y x=>żg _ _ r (P _ _ Y (źg _ _ c2 (àf _ _ C Ęp)))) ⟨H,żg _ _ j d,f⟩;refine Ò (Υa (Ò (m:=Āc Öf) (B.done k R t Å λv e h G=>?_)));obtain⟨H,d,f⟩:=G;have p:ëb v z TI TO .ellipsis:=h _ _ šj g;have j:e≠z:=λx=>by subst x;rw[p]at d;cases d;simp at f
 exact ļd p â λL _ n=>U L e (λc o r _ C _ x=>żg _ _ r (h _ _ C Ęp)) ⟨H,żg _ _ j d,f⟩
#print a
#print L2
namespace L2
open Ī ĺ ĭ
def tm(K:Ì)(b:Í)(H:Hp)(a:È)(xs:Á V):Prop:=match b with
 |Ã=>y_ K H a xs|Â=>yd K H a xs
noncomputable def JG(a:Í):Áa:=match a with
 |Ã => "tuple_iterator"|Â => Ķo
def qM(b:Í)(h:Heap)(a:È)(its:Ø Value):Prop:=match b with
 |Ã=>ñr a its|Â=>h.IsList a its
def YS(a:Í)(h:Heap)(it l:È)(i:Nat):Prop:=∃o,Ģ it=À o/\Ğb=.type (JG a)/\Ŝa=.fields #[.ref l,.int i 0]
theorem YS.at{a:Í}{h h':Heap}{it l:È}{i:Nat}(x:YS a h it l i)(e:∀o,Ģ it=À o->Ğ it=À o):YS a h' it l i:=let ⟨o,ho,r⟩:=x;⟨o,e _ ho,r⟩
theorem qM.push{b:Í}{h:Heap}{a:È}{its:Ø Value}(x:qM b h a its)(o:Obj):qM b (Ôl o) a its:=by cases b;exact Heap.IsList.push x o;exact Heap.IsTuple.push x o
def qM.lt{b:Í}{h:Heap}{a:È}{its:Ø Value}(x:qM b h a its):a<Āb:=by cases b;obtain⟨o,e,_⟩:=x;exact Ĝ e;obtain⟨o,e,_⟩:=x;exact Ĝ e
section
variable{Ě:æ}{w:ß}{A:ó}{E:Value->Ë->Prop}{s:Ë}
def MQ{c:Í}{it l:È}(a:l≠it)(b:Ø Value):Xu Ě w it l (λi h=>YS c h it l i/\qM c h l b) ũ (λi=>b.getD i .none):=by cases c;exact y7x a b;exact y7y a b
def ff{a:Í}{l:È}{b:Ø Value}{Q:Value->Ë->Prop}(h:qM a Ý l b)(c:Q ðc { s with å:=Ŧa { cls:=.type (JG a),Ą:=.fields #[.ref l,.int 0 0] } }):Ù è A (ėf Řc) Q E s:=by cases a;exact Ŀd (show ÿp l b from h) c;exact ßi (show ŧd l b from h) c
abbrev Mt(t1:Í)(h:Heap)(l1:È):Heap:=Ôl { cls:=.type (JG t1),Ą:=.fields #[.ref l1,.int 0 0] }
abbrev Mu(t1 t2:Í)(h:Heap)(l1 l2:È):Heap:=(Äq).push { cls:=.type (JG t2),Ą:=.fields #[.ref l2,.int 0 0] }
abbrev Mv(t1 t2:Í)(h:Heap)(l1 l2:È):Heap:=(Óo).push { cls:=.type ŧ,Ą:=.seq #[.ref Āb,.ref (Äq).objs.size] }
abbrev Mw(t1 t2:Í)(h:Heap)(l1 l2:È):Heap:=(Òo).push { cls:=.type ŧ,Ą:=.seq #[.none,.none] }
abbrev Uz(t1 t2:Í)(h:Heap)(l1 l2:È):Heap:=(Mw t1 t2 h l1 l2).push { cls:=.type ĺa,Ą:=.fields #[.none,.bool Â,.bool Â,.ref (Óo).objs.size,.ref (Òo).objs.size] }
def x6y(c e:Í)(a b:È)(xs p:Ø Value) :Meets (Builtin.«zip.__new__» ⟨[.type ĺa,.ref a,.ref b],[]⟩) (λ_ R s=>qM c Ý a xs/\qM e Ý b p/\R (.ok (.ret (.ref (Mw c e Ý a b).objs.size))) { s with å:=Uz c e Ý a b }):=
 .of_wp λprog w A R s h=>by
  obtain⟨o,g,d,m,l⟩:=s;obtain⟨f,k,h⟩:=h;have n:=sub_zip;have i:qM c (ìq ⟨o,g,d,m,l⟩) a xs:=f;have j:qM e (ìq ⟨ţ { cls:=.type (JG c),Ą:=.fields #[.ref a,.int 0 0] },g,d,m,l⟩) b p:=qM.push k _
  wp_walk using ff i,ff j
  exact⟨_,rfl,h⟩
def sQ{b e:Í}{a d:È}{xs r:Ø Value}{Q:Value->Ë->Prop}(j:qM b Ý a xs)(m:qM e Ý d r)(h:∀h',ëb h' (Ú+4) (Ú+2) (Ú+3) .none->ĸa h' (Ú+2) ðc (.ref Ĥa)->
   ĸa h' (Ú+3) .none .none->YS b h' Ú a 0->YS e h' Ĥa d 0->
   (∀c o,ā c=À o->Ğ c=À o)->Q (.ref (Ú+4)) { s with å:=h' }) :
  Ù è A (Źa İq [.ref a,.ref d]) Q E s:=by
 refine callType_new F.called_zip É (F.typeCall_zip_2 _ _) (F.newCall_zip_2 _ _) (λl=>F.args_object_init_3 l _ _) F.entry_zip_new (x6y b e a d xs r) ⟨j,m,?_⟩;have k:(Mt b Ý a).objs.size=Ú+1:=Ũb ..;have i:(Mu b e Ý a d).objs.size=Ú+2:=by rw[Ũb,k]
 have g:(Mv b e Ý a d).objs.size=Ú+3:=by rw[Ũb,i]
 have q:(Mw b e Ý a d).objs.size=Ú+4:=by rw[Ũb,g]
 have f:(ľe).get? (Mw b e Ý a d).objs.size=À _:=Ŭ _ rfl;have p:(ľe).get? (Mv b e Ý a d).objs.size=À _:=ģ _ ůd;have t:(ľe).get? (Mu b e Ý a d).objs.size=À _:=ģ _ (ģ _ ůd);have n:(ľe).get? (Mt b Ý a).objs.size=À _:=ģ _ ňn;have u:(ľe).get? Ú=À _:=ģ _ (ģ _ ňn);show _/\_;rw[i,g,q]at f;rw[k,i]at t;rw[g]at p;rw[k]at n;rw[q]
 exact⟨⟨_,f,rfl⟩,h _ f t p ⟨_,u,rfl,rfl⟩ ⟨_,n,rfl,rfl⟩ λc o x=>
  ģ _ (ģ _ (ģ _ (ģ _ (ģ _ x))))⟩
#print a
section
variable{X:Cx}{z7:Á ë}{σ:St}{H:Hp}{s:Ë}
def zI.VN{b:Í}{a:È}{xs:Á V}(I:zI X z7 σ H s)(h:tm X.K b H a xs):∃its:Á Value,zo xs its/\qM b Ý a Þa:=by cases b;obtain⟨its,r,p,_⟩:=Âa h;exact⟨its,r,Żg⟩;obtain⟨its,r,p,_⟩:=ãa h;exact⟨its,r,p⟩
def zI.R_{b:Í}{a:È}{xs c:Á V}(I:zI X z7 σ H s)(h:tm X.K b H a xs)(h':tm X.K b H a c):xs=c:=by cases b;exact I.OA h h';exact I.Be h h'
def m5{fs ch:Á È}{h h':Heap}(k:∀b o,b ∉ ch->Ģ b=À o->Ğ b=À o):Un fs ch H H h h':=
 ⟨λb o e _ _ a=>k b o a e,λb o e _ _ a=>⟨o.slots,k b o a e⟩,λ_ _ _ n _=>n,λb o e a=>⟨o,k b o a e⟩,λ_ _ z=>z,λ_ _ _ z=>z,λb c e=>⟨#[],by rw[e];simp⟩⟩
def cL{P:æ}{w:ß}{ch:Á È}{h h':Heap}(x:xt P w H h)(f:∀b∈ch,H b=Ä)(k:∀b o,b ∉ ch->Ģ b=À o->Ğ b=À o):xt P w H h':=λb u e=>by
 have a:∀c v,H c=À v->c ∉ ch:=λc v e z=>by rw[f c z]at e;cases e
 refine(ük).Y9 (λc v d q=>k c v ?_ q) Ŀg λ_ _ q=>q
 rcases d with z|z;rw[z];exact a b u e;exact a c _ z
def zI.but{ch:Á È}{h':Heap}{tk:Nat}(I:zI X z7 σ H s)(c:∀b∈ch,jS X z7 H b)(k:∀b o,b ∉ ch->ā b=À o->Ğ b=À o):zI X z7 σ H { s with å:=h',ē:=tk }:=
 I.BX (s':={ s with å:=h',ē:=tk }) rfl (m5 k) ţm ãb λb a=>⟨ÿc.2.2.2.1,ÿc.2.1,ÿc.2.2.2.2.1,ÿc.2.2.2.2.2⟩
def zI.BY{ch:Á È}{h':Heap}{tk:Nat}{T:È}{o:HO}(I:zI X z7 σ H s)(c:∀b∈ch,jS X z7 H b)(k:∀b o,b ∉ ch->ā b=À o->Ğ b=À o)(f:ā T=Ä)(e:H T=Ä)(d:xN ò X.w Śq h' T o):zI X z7 σ Śq { s with å:=h',ē:=tk }:=
 I.BX (s':={ s with å:=h',ē:=tk }) rfl (x4a (m5 k) f e) (cM ţm e d) ãb λb a=>⟨ÿc.2.2.2.1,ÿc.2.1,ÿc.2.2.2.2.1,ÿc.2.2.2.2.2⟩
#print a
def DG(K:Ì)(c d:Í)(a b:È):It:=
  ⟨λi H=>∃xs ys x y,tm K c H a xs/\tm K d H b ys/\xs[i]?=À x/\ys[i]?=À y,
   λi H v e=>∃p,H p=Ä/\v=.ref p/\∀xs ys,tm K c H a xs->tm K d H b ys->∃x y,xs[i]?=À x/\ys[i]?=À y/\e=zV H p Ŷd,
   λi H=>∃xs ys,tm K c H a xs/\tm K d H b ys/\(à<=i\/Óa<=i)⟩
def x2v{P:æ}{w:ß}{K:Ì}{U:Á Ñ}{Q:Nat}{pos:Pos}(t1 t2:Í)(a b z TI TO B r:È)(D:âf z TI TO B r a b) :gC P w K (.Tuple U Q pos) Ŗi Ēp z (λi h=>ëb h z TI TO .none/\ĸa h TI Ńk (.ref r)/\(∃u v,ĸa h TO u v)/\YS t1 h B a i/\YS t2 h r b i) where
 mem:=by simp
 obj:=λi h st c d=>by obtain⟨g,j,⟨u,v,p⟩,⟨o4,n,_,d4⟩,⟨o5,m,_,d5⟩⟩:=st;simp only[Èb,ťa,Õb]at d;rcases d with rfl|rfl|rfl|rfl|rfl;exact⟨_,g,λv q=>nomatch q⟩;exact⟨_,j,λv q=>nomatch q⟩;exact⟨_,p,λv q=>nomatch q⟩;exact⟨_,n,λv q=>by rw[d4]at q;cases q⟩;exact⟨_,m,λv q=>by rw[d5]at q;cases q⟩
 Īa:=λi h h' st k=>by obtain⟨g,j,⟨u,v,p⟩,n,m⟩:=st;exact⟨k z â _ g,k TI â _ j,⟨u,v,k TO â _ p⟩,n.at λo e=>k B â o e,m.at λo e=>k r â o e⟩
 ïb:=by
  intro X hP hw hK d i z7 s σ H E I hf st hg;subst hP hw hK;obtain⟨g,j,⟨u,v,p⟩,n,m⟩:=st;obtain⟨xs,ys,x,y,hx,hy,ex,ey⟩:=hg;obtain⟨L,ru,pu⟩:=I.VN hx;obtain⟨J,A,Z⟩:=I.VN hy;obtain⟨xu,O,rxu⟩:=ru.get ex;obtain⟨yw,Y,ryw⟩:=A.get ey;have k1:i<Åp:=by rw[ğ];exact(Ŗ O).1
  have k2:i<Æp:=by rw[ğ];exact(Ŗ Y).1
  have e1:L.toArray.getD i .none=xu:=by have:=Ŗ O;obtain⟨l,e⟩:=this;simp[Íj,l,e]
  have e2:J.toArray.getD i .none=yw:=by have:=Ŗ Y;obtain⟨l,e⟩:=this;simp[Íj,l,e]
  have S:Łb ûc ĺa:=⟨_,g,rfl⟩;have q4:B<Ú:=by obtain⟨o,e,_⟩:=n;exact Ĝ e
  have q5:r<Ú:=by obtain⟨o,e,_⟩:=m;exact Ĝ e
  unfold ðh
  refine Ò (ēi (ĵd (ĸ:=åd Ĳg) S ŷf (Ãd ŷf S Ĝo
   (x6u D Ćn ąn g j p ⟨n,pu⟩ ⟨m,Z⟩ k1 k2 q4 q5 pu.lt Z.lt λh' a1 a2 a3 a4 a5 a6=>ě ?_) ćn)))
  rw[e1,e2]at a2 a5;refine⟨_,rfl,wpAny_letOwnedTupleGo_zip (s:={ s with å:=h' }) a1 λC b1 G=>?_⟩
  have hTs:ā Ú=Ä:=by
   cases q:ā Ú with
   |Ä=>rfl|À o=>exact Û Čf Üa
  have R:H Ú=Ä:=Ŧb Ċ;have hTz:Ú≠z:=įb (Ĝ g);have tup:èl Ú=À { cls:=.type ŧ,Ą:=.seq #[xu,yw] }:=Õe _ _ hTz a5
  have Q:∀c o,c ∉ Ēp->ā c=À o->èl c=À o:=λc o d e=>by simp only[Èb,ťa,Õb,ęh]at d;exact Õe _ _ d.1 (a6 c o d.1 d.2.2.1 d.2.2.2.1 d.2.2.2.2 e)
  have new:xN ò X.w (zV H Ú Ŷd) C Ú Ŷd:=⟨íi,[xu,yw],.cons rxu (.cons ryw .nil),⟨_,tup,rfl,_,rfl⟩⟩;refine⟨.ref Ú,zV H Ú Ŷd,I.BY (tk:=Č) hf Q hTs R new,rfl,⟨Ú,R,rfl,λxs' ys' hx' hy'=>?_⟩,⟨b1,?_,⟨_,_,Õe _ _ ňh a2⟩,a3.1.at λo e=>Õe _ _ Ňh e,a4.1.at λo e=>Õe _ _ ņh e⟩,λc d=>?_⟩;rw[I.R_ hx' hx,I.R_ hy' hy];exact⟨x,y,ex,ey,rfl⟩;exact Õe _ _ D.TIz (a6 _ _ D.TIz D.TITO D.TIi1 D.TIi2 j);rw[yB];exact(hf c d).1;intro q
  have N:c<Ú:=by simp only[Èb,ťa,Õb]at d;rcases d with rfl|rfl|rfl|rfl|rfl;exact Ĝ g;exact Ĝ j;exact Ĝ p;exact q4;exact q5
  rw[q]at N;exact Û N Üa
 done:=by
  intro X hP hw hK d i z7 s σ H E I hf st hg;subst hP hw hK;obtain⟨g,j,⟨u,v,p⟩,n,m⟩:=st;obtain⟨xs,ys,hx,hy,hend⟩:=hg;obtain⟨L,ru,pu⟩:=I.VN hx;obtain⟨J,A,Z⟩:=I.VN hy
  have t:Åp<=i\/Æp<=i:=by have l1:=èr;have l2:=A.length;rw[ğ,ğ];omega
  have S:Łb ûc ĺa:=⟨_,g,rfl⟩;unfold ðh
  refine Ò (ēi (ĵd (ĸ:=åd Ĳg) S ŷf (Ãd ŷf S Ĝo
   (x6t (by exact ĵa d) D Ćn ąn g j p ⟨n,pu⟩ ⟨m,Z⟩ t λh' e Q he=>?_) ćn)))
  obtain⟨o,ho,hcl⟩:=he;refine Ò (wpAny_isInstance (T := Ŀe) (b:=Ã) ⟨o,ho,hcl⟩ isSubtype_stop ?_);refine ě ⟨rfl,I.but (tk:=Č) hf λc ob f eb=>?_⟩;simp only[Èb,ťa,Õb,ęh]at f;exact Q c ob f.1 f.2.2.1 f.2.2.2.1 f.2.2.2.2 eb
 Çc:=λ_ _ _ _ _ st h=>ďo st.1 h
def we{a b:Nat}(h:a≠b):@Ne È a b:=h
def x6v{n b a:Nat}(c:b<n)(d:a<n):âf (n+4) (n+2) (n+3) n ķ b a:=
 ⟨we Å,we Å,we Å,we Å,we Å,we Å,we Å,we Å,we Å,we Å,we Å,we Å,we Å,we Å,we Å,we Å,we Å,we Å⟩
def rX:Ř ĺa=À İq:=by decide +kernel
section
variable{X:Cx}
def cN(K:Ì)(d:TA):TI:=λσ H R=>d σ H λe c=>∃a b xs ys t1 t2,e=[.ref a,.ref b]/\tm K t1 c a xs/\tm K t2 c b ys/\R Ŗi c
def y3i{a b:Ñ}{m:TA}{p pos:Pos}{f:Á Ñ}{kk:Nat}{L:Pos}(U:Gl X ĺa)(S:î ĺa=Ä)(ha:PA X ÿe m)(hs:Ê (ýb ÿe Ô=[(Â,č a Ô),(Â,č b Ô)]) q12)(e:Ê (ýb [b] Ô=[(Â,č b Ô)]) q12):PI X (.Tuple f kk L) ŭh (cN X.K m):=by
 intro r s σ H R I h;refine Call_ (WM I U S rX (Ŝf (zn (ha pos r s σ H _ I h) λO i ⟨vs,B,d,Q,q1⟩=>?_) (by rw[hs,e]) (by rw[e];rfl)));obtain⟨k,j,xs,ys,P,G,rfl,N,Y,q⟩:=q1;obtain⟨u,v,rfl,Z,W⟩:=PZ Q;cases(show u=ą k from Z);cases(show v=ą j from W);obtain⟨O,_,y⟩:=d.VN N;obtain⟨ws,_,A⟩:=d.VN Y;have z:=y.lt;have t:=A.lt;refine sQ y A λw l o x F E T=>?_
 have J:zI X r σ B { i with å:=w }:=Ùl (t':=i.toks) T;refine ďo (s:={ i with å:=w }) l ?_;generalize hn:Ēo=n at l o x F E z t
 have D:âf (n+4) (n+2) (n+3) n ķ k j:=by exact x6v z t
 refine⟨n+4,[n+4,n+2,n+3,n,n+1],_,_,B,rfl,J,x2v P G k j (n+4) (n+2) (n+3) n ķ D,⟨l,o,⟨_,_,x⟩,F,E⟩,λc C=>?_,q⟩
 have g:Ēo<=c:=by rw[hn];simp only[Èb,ťa,Õb]at C;rcases C with rfl|rfl|rfl|rfl|rfl;exact Åa _ _;exact Åa _ _;exact Åa _ _;exact êa _;exact Åa _ _
 exact d.Z8 g (ào g)
def y4d{a b:Ñ}{e:TA}{p pos:Pos}{d:Á Ñ}{j:Nat}{f:Pos}(k:Gl X ĺa)(l:î ĺa=Ä)(g:QA X ÿe e)(i:Ê Ãe q12)(c:Ê Ţq q12) :QI X (.Tuple d j f) ŭh (cN X.K e):=⟨y3i k l g.h (by rw[tS i,tS c];rfl) (tS c)⟩
#print a
def aX(a:õa)(env:Env)(b:Á Ðb)(own:Á Str):Í:=
 a.kind == .function&&Ĩj (λy=>y.2 != .cell)&&U0 a env b own&&Ĩj (λy=>y.2 != .local||âc y.1==À .local)
def wx{X:Cx}{a:õa}{b:Á Ðb}{own:Á Str}(j:Ńq a Ô=pure b)(h:Ê (YE Ô b) q14)(ok:Ê (aX a Ô b own=Ã) q12):ZA X a b own:=by unfold aX at ok;simp only[Ē]at ok;obtain⟨⟨⟨d,g⟩,i⟩,f⟩:=ok;refine⟨þg d,λy c e=>?_,h,i,j,λy c e=>?_⟩;have:=Ħb g y c;rw[e]at this;cases this;have:=Ħb f y c;rw[e]at this;simpa using this
section
variable{X:Cx}(K:Ì)(hK:X.K=K)
include hK
#print a
def oO(K:Ì)(a:È)(xs:Á V):Prop:=∀H,y_ K H a xs
def sZ{K:Ì}{a:È}{xs:Á V}{d:Æ È}{its:Ø Value}{n:Nat}{b:Ø Íb}(h:Àa a=À ⟨.type ŧ,d,.seq its n,b⟩)(hz:ġk<=á)(r:zo xs ŵe):oO K a xs:=
 λ_=>.inr ⟨_,its,n,h,rfl,rfl,hz,r⟩
open şk üq
noncomputable def OE(z:Str):It:=⟨λi _=>i<ŋ,λi H x a=>a=H/\∃c,Ħd[i]?=À c/\x=.str ⟨#[c]⟩,λi _=>ŋ<=i⟩
section
variable{X:Cx}{tg:Ñ}
def z44(b:TE):TI:=λσ H R=>b σ H λx a=>∃z,x=.str z/\R Įh a
def x2t{P:æ}{w:ß}{K:Ì}{it:È}{z:Str}{t:Tok}{n:Áa}(j:n = Ċn \/ n = Ŵo):gC P w K tg Įh ĕc it (λi h=>h.IsStrIter it n z t i/\i<=ŋ) where
 mem:=by simp
 obj:=λi h st b g=>by
  have e:b=it:=by simpa using g
  subst e;obtain⟨⟨o,e,c,d⟩,_⟩:=st;exact⟨o,e,λv z=>by rw[d]at z;cases z⟩
 Īa:=λi h a st k=>⟨let ⟨o,ho,r⟩:=st.1;⟨o,k it â o ho,r⟩,st.2⟩
 ïb:=by
  intro X Q L R T i N s σ H E I J st C;subst Q L R;obtain⟨F,y,Z,G,p,B⟩:=J it â;have S:i<ĸq:=C;have l:Ħd[i]?=À Ħd[i]:=by simp[S]
  have U:∀a q (u:Value),(∃t',u=Ŋc ⟨#[Ħd[i]]⟩ t')->a.IsStrIter it n z t ê->Ĳb it Ý a->∃v,À u=À v/\
    Ù ü X.A (Çg tg ăb v) (λ_ Y=>∃x H',zI X N σ H' Y/\zx x v/\(Įh).ua i H x H'/\(Y.heap.IsStrIter it n z t ê/\i+1<=ŋ)/\∀b∈[it],H' b=Ä) E { s with å:=a,ē:=q }:=λa q u hu f m=>by
   obtain⟨t',rfl⟩:=hu;have I1:zI X N σ H { s with å:=a,ē:=q }:=Ųa (λb o g e=>(m.2 b g).trans e) F y G p B;obtain⟨o,e,c,d⟩:=id f;exact⟨_,rfl,UH (s:={ s with å:=a,ē:=q }) e c d (by rcases j with rfl|rfl<;>decide) ⟨.str ⟨#[Ħd[i]]⟩,H,I1,⟨t',rfl⟩,⟨rfl,_,l,rfl⟩,⟨f,C⟩,λb g=>(J b g).1⟩⟩
  rcases j with rfl|rfl;exact wpAny_pyNext_ascii_item st.1 l λa f m=>U a _ _ ⟨_,rfl⟩ f m;exact wpAny_pyNext_wide_item st.1 l λa f m=>U a _ _ ⟨_,rfl⟩ f m
 done:=by intro X Q L R T i N s σ H E I J st C;subst Q L R;obtain⟨F,y,Z,G,p,B⟩:=J it â;have l:Ħd[i]?=Ä:=òi C;rcases j with rfl|rfl;exact wpAny_pyNext_ascii_end (ĵa T) st.1 l λa O=>⟨rfl,Ųa (t':=Č) Ýn F y G p B⟩;exact wpAny_pyNext_wide_end (ĵa T) st.1 l λa O=>⟨rfl,Ųa (t':=Č) Ýn F y G p B⟩
 Çc:=λ_ _ _ _ _ st h=>by rcases j with rfl|rfl;exact wpAny_pyIter_striter_ascii st.1 h;exact wpAny_pyIter_striter_wide st.1 h
def y3g{e:Ñ}{j:TE}(p:PE X e j):PI X tg e (z44 j):=by
 intro i s σ H R I h;refine zn (p i s σ H _ I h) λv a ⟨x,n,f,l,m⟩=>?_
 obtain⟨z,rfl,q⟩:=m;obtain⟨t,rfl⟩:=(show ∃t,v=Ŋc z t from l)
 have c:∀(d:Áa),(d = Ċn \/ d = Ŵo)->∀o:Obj,(Ũe o).IsStrIter Âb d z t 0->DJ X i σ tg R Ñr { a with å:=Ũe o }:=λd g o st=>
  ⟨Âb,[Âb],_,_,n,rfl,f.kept (t':=Ğh) λb o e=>ģ _ e,x2t g,⟨st,ęa _⟩,λb k=>by
   have e:b=Âb:=by simpa using k
   subst e;exact f.Z8 Ċ (łq Ċ),q⟩
 cases ha:z.cps.all (·<128);exact wpAny_pyIter_wide ha (c _ Ĺb _ ⟨_,Ŭ _ rfl,rfl,rfl⟩);exact wpAny_pyIter_ascii ha (c _ ĳ _ ⟨_,Ŭ _ rfl,rfl,rfl⟩)
#print a
def U5(z:Str)(lo hi:Æ Int):Str:=⟨((z.cps.toList.drop (Ĵ ŋ 0 lo)).take Ĥm).toArray⟩
def sT(n:Nat)(lo:Æ Int):(match lo with|Ä=>(0:Int)|À i=>max 0 Će)=((Ĵ n 0 lo:Nat):Int)\/∃i,lo=À i/\i<0/\(n:Int)<i+n:=by
 cases lo with
 |Ä=>left;rfl|À i=>
  left
  show max 0 Će=((śh:Nat):Int);by_cases h:i<0;simp only[h,Ť];omega;simp only[h,òa];omega
def sS(n:Nat)(hi:Æ Int):(match hi with|Ä=>(n:Int)|À i=>max 0 Će)=((Ĵ n n hi:Nat):Int):=by
 cases hi with
 |Ä=>rfl|À i=>show max 0 Će=((śh:Nat):Int);by_cases h:i<0;simp only[h,Ť];omega;simp only[h,òa];omega
def sU(n:Nat)(lo:Æ Int):(match lo with|Ä=>(0:Int)|À i=>max 0 Će)=((Ĵ n 0 lo:Nat):Int):=by rcases sT n lo with h|⟨i,_,h1,h2⟩;exact h;omega
def f6(z:Str)(lo hi:Æ Int):Ļi=(ùa Ĥm).map (Ĵ ŋ 0 lo+·):=by have a:=sU ŋ lo;have b:=sS ŋ hi;rw[<-Źo,<-a,<-b];unfold Ůf;simp only[show(1:Int)>0 by decide,Ť];cases lo<;>cases hi<;>rfl
def sr(z:Str)(lo hi:Æ Int):(⟨((Ļi).filterMap (Ħd[·]?)).toArray⟩:Str)=U5 z lo hi:=by rw[f6,ĝk];rfl
def Ėf(n d:Nat)(a:d<=n)(v:Æ Int):Ĵ n d v<=n:=by
 cases v with
 |Ä=>exact a|À i=>show śh<=n;by_cases h:i<0;simp only[h,Ť];omega;simp only[h,òa];omega
def sw(z:Str)(lo hi:Æ Int)(h:(Ļi).length=ŋ):U5 z lo hi=z:=by
 rw[f6,ç,üb]at h;have a:=Ėf ŋ 0 āh lo;have b:=Ėf ŋ ŋ Ċ hi;unfold U5;rw[h];have f:Ĵ ŋ 0 lo=0\/ŋ=0:=by omega
 have d:Ĳn=ŋ:=by simp[Ŝj]
 rcases f with q|q;rw[q,Äp,<-d,śd];have e:ńi=[]:=ġm Å;rw[e];simp;cases z with
 |mk c=>simp[Ŝj]at q;simp[q]
theorem C0(z:Str)(lo hi:Æ Int):(Ãq).length<=ŋ:=by show(List.toArray _).size<=ĸq;rw[ğ,èa,Åb,ŭ];exact Ġ Êf ţb
section
variable{X:Cx}
def eQ{v:Value}{lo:Æ Int}(h:ŏb v lo):∃l:Æ (Int×Tok),v=partValue l/\Äa (·.1)=lo:=by
 cases h with
 |Ä=>exact⟨Ä,rfl,rfl⟩|int i t=>exact⟨À (i,t),rfl,rfl⟩
def i8:V->Æ Int->Æ Int->Hp->VK->Prop:=λx b a H Q=>∃z:Str,x=.str z/\ŋ<=á/\Q (.str (U5 z b a)) H
def y7l:kB X i8:=by
 intro k s σ H x v p j n m o Q I b f g i h;obtain⟨z,rfl,d,q⟩:=h;obtain⟨t,rfl⟩:=(show ∃t,v=Ŋc z t from b);obtain⟨l,rfl,rfl⟩:=eQ g;obtain⟨u,rfl,rfl⟩:=eQ i;refine⟨İf,_,F.slot_str_getitem.lookup,őj _ _ _,?_⟩;refine wpAny_getItem_str_slice (l:=l) (u:=u) (st:=Ä) f rfl ?_;unfold sliceMade;have c:slicePicked z l u Ä=Ůf (Äa (·.1)) (u.map (·.1)) 1 ŋ:=rfl;rw[c]
 split;rename_i a
 have e:(Ůf (Äa (·.1)) (u.map (·.1)) 1 ŋ).length=ŋ:=by rw[Ē]at a;exact þg a.2
 rw[sw z _ _ e]at q;exact⟨.str z,H,I,⟨_,rfl⟩,q⟩;rw[sr];exact⟨Ġ (C0 z _ _) d,.str _,H,Ãa _,⟨_,rfl⟩,q⟩
#print a
#print L2
namespace L2
open Ī ĺ ĭ
section
variable{κ:Type}[íc κ]
noncomputable def qG(kvs:Á Þb)(k:κ):Æ V:=(kvs.find? λa=>decide (a.1=k)).map (·.2)
noncomputable def t7(kvs:Á Þb)(k:κ)(v:V):Á Þb:=
 if(kvs.any λa=>decide (a.1=k))=Ã then ãe (λa=>if a.1=k then(a.1,v)else a)else kvs++[(k,v)]
theorem Mg{p:κ×V}{r:Á Þb}{k:κ}(e:p.1=k):qG (p::r) k=À p.2:=by simp[qG,Ţd,e]
theorem Mf{p:κ×V}{r:Á Þb}{k:κ}(e:¬ p.1=k):qG (p::r) k=qG r k:=by simp[qG,Ţd,e]
theorem mC(k:κ):∀kvs:Á Þb,Ċm=(łg).isSome
 | []=>rfl|p::r=>by rw[ūd];by_cases e:p.1=k;simp only[Mg e,ï e,Bool.true_or,Option.isSome_some];rw[Mf e,ć e,Bool.false_or];exact mC k r
def GF(kvs:Á Þb)(k:κ)(v:V):(t7 kvs k v).length<=Ķ+1:=by
 unfold t7
 split;rw[ç];omega;rw[í,ĕ,ńe];omega
def uf.VJ{o:Æ V}{u:Æ Value}(r:uf o u):o.isSome=u.isSome:=by
 cases o with
 |Ä=>cases u with
  |Ä=>rfl|À _=>exact(show ô from r).elim
 |À _=>cases u with
  |Ä=>exact(show ô from r).elim|À _=>rfl
theorem uf.getD{o:Æ V}{u:Æ Value}{d:V}{d':Value}(r:uf o u)(a:zx d d'):zx ŭq (u.getD d'):=by
 cases o with
 |Ä=>cases u with
  |Ä=>exact a|À _=>exact(show ô from r).elim
 |À _=>cases u with
  |Ä=>exact(show ô from r).elim|À _=>exact r
def KV.val{kvs:Á Þb}{vs:Á ſd}(r:KV kvs vs)(k:κ):uf łg (āc vs k):=by
 unfold KV at r
 induction r with
 |nil=>exact Ŭa|@cons p q ps qs h t ih=>
  obtain⟨c,d⟩:=h;by_cases e:p.1=k;have a:q.1=k:=Ŋp e;have b:āc ċh k=À q.2:=by simp[āc,Ţd,a]
  rw[Mg e,b];exact d;have a:¬ q.1=k:=λz=>e (ąb z)
  have b:āc ċh k=āc qs k:=by simp[āc,Ţd,a]
  rw[Mf e,b];exact ih
theorem KV.any{kvs:Á Þb}{vs:Á ſd}(r:KV kvs vs)(k:κ):Ċm=vs.any λkv=>decide ĺk:=by
 unfold KV at r
 induction r with
 |nil=>rfl|đ h t ih=>rw[ūd,ūd,ih,h.1]
theorem KV.Bd{kvs:Á Þb}{vs:Á ſd}(r:KV kvs vs)(k:κ){y:V}{u:Value}(c:zx y u) :KV Şl (Ĕh λkv=>if kv.1=k then(kv.1,u)else kv):=by
 unfold KV at r ⊢
 induction r with
 |nil=>exact .nil|@cons p q ps qs h t ih=>rw[ŝ,ŝ];refine .cons ?_ ih;obtain⟨a,b⟩:=h;by_cases e:p.1=k;rw[Î e,Î ħo];exact⟨a,c⟩;rw[Ð e,Ð ęn];exact⟨a,b⟩
def KV.put{kvs:Á Þb}{vs:Á ſd}(r:KV kvs vs)(k:κ){y:V}{u:Value}(a:zx y u):KV (t7 kvs k y) (Ťc vs k u):=by unfold t7 Ťc;rw[r.any k];by_cases e:(vs.any λb=>decide (b.1=k))=Ã;rw[Î e,Î e];exact r.Bd k a;rw[Ð e,Ð e];exact îq r ⟨rfl,a⟩
theorem KV.length{kvs:Á Þb}{vs:Á ſd}(r:KV kvs vs):Ķ=þ:=Ýj r
#print a
def kL{P:æ}{w:ß}{k:zU}{u:Value}(r:zx øl u):(Ŏa).is k u=Ã:=by
 cases k with
 |inl i=>obtain⟨t,e⟩:=(show ∃t,u=òd i t from r);subst e;exact z6j P w i t
 |inr x=>obtain⟨t,e⟩:=(show ∃t,u=Ŋc x t from r);subst e;exact GN P w x t
theorem cY{P:æ}{w:ß}:∀{ks:Á zU}{us:Á Value},zo Šn us->ItemsAre Ŏa ks us
 | [],_,r=>by rw[Čj]at r;cases r;exact .nil|k::ks,_,r=>by
  rw[ŝ]at r;cases r with
  |đ h t=>exact .cons (kL h) (cY t)
abbrev KT(H:Hp):Á Ųb->Á Ëd->Prop:=ĝd λp q=>p.1=q.1/\H q.2.1=À řn/\zx p.2 q.2.2
def KT.val{H:Hp}{kvs:Á Ųb}{xs:Á Ëd}(r:KT H kvs xs)(k:Á zU):uf łg ((ėj).map (·.2)):=by
 induction r with
 |nil=>exact Ŭa|@cons p q ps qs h t ih=>
  obtain⟨c,_,d⟩:=h;by_cases e:p.1=k;have a:q.1=k:=Ŋp e;have b:Ĳf ċh k=À q.2:=by simp[Ĳf,Ţd,a]
  rw[Mg e,b];exact d;have a:¬ q.1=k:=λz=>e (ąb z)
  have b:Ĳf ċh k=Ĳf qs k:=by simp[Ĳf,Ţd,a]
  rw[Mf e,b];exact ih
def KT.Bd{H:Hp}{kvs:Á Ųb}{xs:Á Ëd}(r:KT H kvs xs)(k:Á zU){y:V}{u:Value}(d:zx y u) :KT H Şl (ĉc (Äc k u)):=by
 induction r with
 |nil=>exact .nil|@cons p q ps qs h t ih=>rw[ŝ,ŝ];refine .cons ?_ ih;obtain⟨a,b,c⟩:=h;unfold Äc;by_cases e:p.1=k;rw[Î e,Î ħo];exact⟨a,b,d⟩;rw[Ð e,Ð ęn];exact⟨a,b,c⟩
def KT.put{H:Hp}{kvs:Á Ųb}{xs:Á Ëd}(r:KT H kvs xs)(k:Á zU){b:È}{y:V}{u:Value}(d:H b=À łi)(a:zx y u) :KT H (t7 kvs k y) (storedH xs k b u):=by
 have e:(kvs.any λc=>decide (c.1=k))=(ėj).isSome:=by rw[mC,(r.val k).VJ,Ĭi]
 unfold t7 storedH;rw[e];by_cases q:(ėj).isSome=Ã;rw[Î q,Î q];exact r.Bd k a;rw[Ð q,Ð q];exact îq r ⟨rfl,d,a⟩
def KT.keeps{H H':Hp}{kvs:Á Ųb}{xs:Á Ëd}(r:KT H kvs xs)(a:∀b ys,H b=À ųe->H' b=À ųe):KT H' kvs xs:=
 śg r λ_ _ z=>⟨z.1,a _ _ z.2.1,z.2.2⟩
section
variable{P:æ}{w:ß}{H:Hp}{h:Heap}{a:È}
def iD{u:HO}(ok:xt P w H h)(e:Rd H a u):xN P w H h a u:=e.ok ok
def kD{kvs:Á ź}(ok:xt P w H h)(e:Rd H a Ŀ):Ķ<=á/\üa=Â/\∃vs,KV kvs vs/\Òe Ŏa a vs:=
 show xN P w H h a Ŀ from iD ok e
def z0e{kvs:Á ź}(ok:xt P w H h)(e:H a=À Ŀ):Ķ<=á/\üa=Â/\∃vs,KV kvs vs/\Òe Ŏa a vs:=kD ok ňk
def JJ{ks:Á zU}(ok:xt P w H h)(e:H a=À Ãr):(ňe).is h ks a:=by obtain⟨_,b,r,o,c,d,n,f⟩:=(show xN P w H h a Ãr from ok a _ e);exact⟨o,ĉb,n,c,d,f,by simpa using cY r⟩
def U8{kvs:Á Ųb}(ok:xt P w H h)(e:Rd H a óc):Ķ<=á/\üa=Â/\
  ∃xs,KT H kvs xs/\òr ňe a xs:=by
 obtain⟨z,y,xs,r,o,g,k,d,i,n,f,j⟩:=(show xN P w H h a óc from iD ok e);refine⟨z,y,xs,r,o,g,k,d,i,n,f,λx b=>?_,j⟩
 have c:∀{l:Á Ųb} {m:Á Ëd},KT H l m->∀x∈m,(ňe).is h x.1 x.2.1:=by
  intro l m q
  induction q with
  |nil=>intro x b;exact nomatch b|@cons p q ps qs hq t ih=>intro x b;rcases Ĺ b with e|b;subst e;exact JJ ok (by rw[<-hq.1];exact hq.2.1);exact ih x b
 exact c r x b
def z0t{kvs:Á Ųb}(ok:xt P w H h)(e:H a=À óc):Ķ<=á/\üa=Â/\
  ∃xs,KT H kvs xs/\òr ňe a xs:=U8 ok ňk
#print a
def Tk(H:Hp)(a:È)(y:V)(r:Æ V):Prop:=
 (∃kvs k,Rd H a Ŀ/\y=kV k/\r=qG kvs k)\/∃kvs k b,Rd H a óc/\y=.ref b/\H b=À łi/\r=qG kvs k
def Sj(H:Hp)(a:È)(y v:V)(H':Hp):Prop:=
 (∃kvs k,H a=À Ŀ/\y=kV k/\Ķ<á/\H'=zV H a (.dK (t7 kvs k v))) \/
 ∃kvs k b,H a=À óc/\y=.ref b/\H b=À łi/\Ķ<á/\H'=zV H a (.dT (t7 kvs k v))
section
variable{X:Cx}{z7:Á ë}{σ:St}{H:Hp}{s:Ë}{a:È}{y v:V}{u r:Value}{o:Æ V}{A:ó}{E:Value->Ë->Prop}
def zI.big(I:zI X z7 σ H s):Ìj<Ú:=by have h:Ę<Ú:=(I.mod.glob.keeps I.bk).lt;exact ĉg É h
def z02{Q:Value->Ë->Prop}(p:Śa+1<Ða)(I:zI X z7 σ H s)(g:Tk H a y o)(m:zx y u)(h:∀s',zI X z7 σ H s'->Q (.bool o.isSome) s') :Ù ü A (ċa .In u ř) Q E s:=by rcases g with⟨j,k,e,i,l⟩|⟨j,k,b,e,i,n,l⟩;subst i;obtain⟨z,f,r,c,d⟩:=kD Đ e;refine Ûq (kL m) f Řk ?_;rw[<-(Ìe).VJ,<-l];exact h _ ăc;subst i;cases(show u=ą b from m);obtain⟨z,f,t,c,d⟩:=U8 Đ e;refine wpAny_in_heap (ũf p) ſq f d ?_;have q:=(Ìe).VJ;rw[Ĭi]at q;rw[<-q,<-l];exact h _ ăc
def z04{Q:Value->Ë->Prop}(p:Śa+1<Ða)(I:zI X z7 σ H s)(g:Tk H a y o)(m:zx y u)(h:∀s',zI X z7 σ H s'->Q (.bool (!o.isSome)) s') :Ù ü A (ċa .NotIn u ř) Q E s:=by rcases g with⟨j,k,e,i,l⟩|⟨j,k,b,e,i,n,l⟩;subst i;obtain⟨z,f,r,c,d⟩:=kD Đ e;refine wpAny_notIn_of (kL m) f Řk ?_;rw[<-(Ìe).VJ,<-l];exact h _ ăc;subst i;cases(show u=ą b from m);obtain⟨z,f,t,c,d⟩:=U8 Đ e;refine wpAny_notIn_heap (ũf p) ſq f d ?_;have q:=(Ìe).VJ;rw[Ĭi]at q;rw[<-q,<-l];exact h _ ăc
def bF{h':Heap}{t':Nat}{d:HO}(I:zI X z7 σ H s)(i:QM (H a))(g:Ĳb a Ý h')(h:∃q,Ğ a=À q)(c:xN ò X.w řq h' a d) :zI X z7 σ řq { s with å:=h',ē:=t' }:=
 öh (x:=a) (e:=a) i ĳ (λb q f z=>(g.2 b f).trans z) h c
def C8{P:æ}{w:ß}{H':Hp}{h':Heap}{kvs:Á ź}{vs:Á ŉa}(z:Ķ<=á)(c:üa=Â)(b:KV kvs vs)(d:œg Ŏa a vs) :xN P w H' h' a Ŀ:=⟨z,c,vs,b,d⟩
def z05{H':Hp}{Q:Ľa->Ë->Prop}(W:Śa+1<Ða)(I:zI X z7 σ H s)(g:Sj H a y v H')(G:zx y u)(J:zx v r)(h:∀s',zI X z7 σ H' s'->Q () s') :Ù ü A (œk ř u r) Q E s:=by
 rcases g with⟨d,k,e,n,l,o⟩|⟨d,k,b,e,n,F,l,o⟩;subst n o;obtain⟨z,B,T,f,p⟩:=z0e Đ e;have t:T.length<=á:=by rw[<-Űa];exact z
 have m:(t7 d k v).length<=á:=by have:=GF d k v;omega
 refine wpAny_setItem_pairs (hsz:=t) (kL G) p λC i x=>h _ ?_
 have P:∃q,èl a=À q:=let ⟨q,_,_,j,_⟩:=i;⟨q,j⟩;exact bF I či x P (C8 m B (f.put k J) i);subst n o;cases(show u=ą b from G);obtain⟨z,B,N,f,p⟩:=z0t Đ e;have t:ſ<=á:=by rw[<-Ýj f];exact z
 have m:(t7 d k v).length<=á:=by have:=GF d k v;omega
 refine wpAny_setItem_heap (hsz:=t) (ũf W) (JJ Đ F) p λC i x=>h _ ?_
 obtain⟨q,L,Y,j,O,R,S,_,U⟩:=i;refine bF I či x ⟨q,j⟩ ⟨m,B,_,(f.put k F J).keeps λc Z K=>?_,q,L,Y,j,O,R,S,U⟩;rw[yB (z73 K e Įa)];exact K
#print a
section
variable{X:Cx}{z7:Á ë}{σ:St}{H:Hp}{s:Ë}{a:È}{kvs:Á ź}{A:ó}{E:Value->Ë->Prop}
def z03{Q:Value->Ë->Prop}(I:zI X z7 σ H s)(e:Rd H a Ŀ)(h:∀t s',zI X z7 σ H s'->Q (.int Ķ t) s'):Ù ü A (Źa şd óa) Q E s:=by obtain⟨z,d,f,b,c⟩:=kD Đ e;refine call_len_dict d c (by rw[<-Ű];rw[ť]at z;omega) ?_;rw[<-Ű];exact h _ _ ăc
#print a
def z0c{X:Cx}{f:Á ë}{σ:St}{H:Hp}{s:Ë}{a:È}{y:V}{o:Æ V}(I:zI X f σ H s)(g:Tk H a y o):Łb ř Ź:=by rcases g with⟨d,k,e,_,_⟩|⟨d,k,b,e,_,_,_⟩;obtain⟨_,_,h,_,c⟩:=kD Đ e;exact ąd;obtain⟨_,_,i,_,c⟩:=U8 Đ e;exact ąd
noncomputable def y57(c b g:TE):TS:=λD σ H=>g σ H λv d=>c σ d λx e=>b σ e λy f=>∃a H4,x=.ref a/\Sj f a y v H4/\źa σ H4
section
variable{X:Cx}{o i e Ĝb:Ñ}{pos ĩa:Pos}{td ty tv:TE}
def fF(G:Ċb+1<Ða)(e:PE X o td)(hi:PE X i ty)(hv:PE X Ĝb tv)(F:űb Ĝb (À (.Subscript o i ĩa)) ķc Ô=pure Â) :PS X (.Assign [.Subscript o i ĩa] Ĝb pos) (y57 td ty tv):=by intro b s σ H D I h;refine wpAny_Assign_Subscript (zn őn λr B ⟨v,E,n,z,C⟩=>zn (e b B σ E _ n C) λu t ⟨x,j,c,q,k⟩=>zn (hi b t σ j _ c k) λN K ⟨y,L,m,l,a,d,w,g,p⟩=>?_) F;subst w;obtain rfl:u=ą a:=q;exact z05 G m g l z λJ f=>⟨σ,d,f,p⟩
#print a
def z0d{P:æ}{w:ß}{H:Hp}(h:Heap)(a:Ìj<Āb):xN P w H (Ôl { cls:=.type Ź,Ą:=.dict #[] }) Āb (.dK []):=
 ⟨ęa _,ĝc (Ňb (Æa a)),[],.nil,ńo h⟩
def y8i:TE:=λ_ H Q=>∀p,H p=Ä->Q Éa (γ (.dK []))
section
variable{X:Cx}{pos:Pos}
def y2p:PE X Ćo y8i:=λb s σ H Q I h=>
 wpAny_Dict_empty ⟨.ref Ú,_,Ėb (a:=Ú) (o:=.dK []) (t':=Č) ĥi Ċ (z0d Ý I.big),rfl,h _ Ée⟩
#print a
abbrev VV:Á (V×V)->Á (Value×Value)->Prop:=ĝd λp q=>zx p.1 q.1/\zx p.2 q.2
def ZZ(kvs a:Á ź):Á ź:=a.foldl (λb c=>t7 b c.1 c.2) kvs
def KV.merge:∀{more:Á ź} {rs:Á ŉa} {kvs:Á ź} {vs:Á ŉa},KV more rs->KV kvs vs->KV ĳp (merged vs rs):=by
 intro more rs kvs vs r;unfold KV at r
 induction r generalizing kvs vs with
 |nil=>intro q;exact q|@cons p q ps qs h t ih=>
  intro a
  have e:KV (t7 kvs p.1 p.2) (Ťc vs q.1 q.2):=by have:=a.put p.1 h.2;rw[<-h.1];exact this
  exact ih e
theorem dA:∀(more kvs:Á ź),(ĳp).length<=Ķ+more.length
 | [],kvs=>by show Ķ<=Ķ+0;omega|p::r,kvs=>by have a:=dA r (t7 kvs p.1 p.2);have b:=GF kvs p.1 p.2;show(ZZ (t7 kvs p.1 p.2) r).length<=_;rw[ĕ];omega
structure M2(X:Cx)(o:Ñ)(m:Str)(Ĕa:Pos)(e f:Ñ)(Úa:Pos):Prop where
 Ç:ħb o m Ô Ćq=č o Ô
 O9:((Ŧc Úa Œo).all Ķj&&(ám).all óo
  && decide (([e,f]:Á Ñ).length+([]:Á õh).length+ŷl<30))=Ã
 line:(apos.endLine==cpos.line)=Ã
 trees:Ŧc Úa Œo=[(Â,č e Ô),(Â,č f Ô)]
def Al(H:Hp)(a:È):Prop:=(∃kvs,Rd H a Ŀ)\/∃kvs,Rd H a óc
def z4i{X:Cx}{j:Á ë}{σ:St}{H:Hp}{s:Ë}{a:È}(I:zI X j σ H s)(d:Al H a) :Łb ř Ź/\(∀b,ą a=.ref b->∃ob,ā b=À ob/\ob.dict=Ä)/\üa=Â:=by rcases d with⟨i,e⟩|⟨i,e⟩;obtain⟨_,g,k,_,c⟩:=kD Đ e;refine⟨ąd,λb q=>?_,g⟩;cases q;obtain⟨ob,_,_,f,h,_⟩:=c;exact⟨ob,f,h.2.1⟩;obtain⟨_,g,l,_,c⟩:=U8 Đ e;refine⟨ąd,λb q=>?_,g⟩;cases q;obtain⟨ob,_,_,f,h,_⟩:=c;exact⟨ob,f,h.2.1⟩
section
variable{X:Cx}{z7:Á ë}{σ:St}{H:Hp}{s:Ë}{a:È}{y d:V}{u r:Value}{o:Æ V}{A:ó}{E:Value->Ë->Prop}
def z01{Q:Value->Ë->Prop}(v:Śa+1<Ða)(I:zI X z7 σ H s)(g:Tk H a y o)(p:zx y u)(n:zx d r)(h:∀w' s',zI X z7 σ H s'->zx ŭq w'->Q w' s') :Ù ü A (Źa (.builtin "dict.get") [.ref a,u,r]) Q E s:=by rcases g with⟨m,k,e,j,l⟩|⟨m,k,b,e,j,q,l⟩;subst j;obtain⟨z,i,x,c,f⟩:=kD Đ e;refine Įe þi Âh Õn Čm (meets_dict_get_default ëc a (kL p) i r) ⟨_,f.mapOf,h _ _ ăc ?_⟩;rw[l];exact(Ìe).getD n;subst j;cases(show u=ą b from p);obtain⟨z,i,t,c,f⟩:=U8 Đ e;refine Įe þi Âh Õn Čm (meetsH_dict_get_default (tupleKind ëc) a b i r) ⟨ũf v,k,t,JJ Đ q,f,h _ _ ăc ?_⟩;rw[l];exact(Ìe).getD n
#print a
noncomputable def y8h(e d g:TE):TE:=λσ H Q=>e σ H λx b=>∃a,x=.ref a/\Al b a/\d σ b λy f=>g σ f λz c=>∃o,Tk c a y o/\Q (o.getD z) c
section
variable{X:Cx}{o e f:Ñ}{Ĕa Úa:Pos}{td ty tx:TE}
def y2o(P:Ċb+1<Ða)(l:PE X o td)(r:PE X e ty)(R:PE X f tx)(m:M2 X o "get" Ĕa e f Úa):PE X (.Call Ũm [e,f] [] Úa) (y8h td ty tx):=by
 intro b s σ H Q I h;refine wpAny_Call_method m.base m.O9 m.line ůf þi PySem.F.type_dict_get (zn (l b s σ H _ I h) λu L ⟨x,O,i,G,a,K,d,N⟩=>?_);subst K;obtain rfl:u=ą a:=G;obtain⟨n,j,_⟩:=z4i i d;refine⟨n,j,?_⟩;rw[m.trees]
 refine Ďe rfl (Đn (ài (zn (r b L σ O _ i N) λZ J ⟨y,q,k,v,t⟩=>
  ài (zn (R b J σ q _ k t) λU Y ⟨z,E,w,B,S,g,C⟩=>èo ?_))))
 exact z01 P w g v B λW T p c=>⟨_,E,p,c,C⟩
#print a
#print L2
namespace L3
open Ī
set_option genInjectivity true
inductive D where
 |zE|bl (b:Í)|int (i:Int)|str (x:Str)|tup (xs:Á D)|lst (xs:Á D)|dic (ks:Á ħ) (vs:Á D)|exc (x:Str)|obj (x:Str) (fs:Á Str) (vs:Á D)
set_option genInjectivity false
def Ĺf{P:D->Prop}(o:P .zE)(r:∀b,P ąc)(m:∀i,P ôa)(l:∀x,P Ņb)(a:∀xs,(∀d∈xs,P d)->P Őa)(k:∀xs,(∀d∈xs,P d)->P Ğa)(j:∀ks xs,(∀d∈xs,P d)->P (.dic ks xs))(c:∀x,P (.exc x))(g:∀x fs xs,(∀d∈xs,P d)->P (.obj x fs xs))(d:D):P d:=
 D.rec (motive_1:=P) (motive_2:=λn=>∀d∈n,P d) o r m l (λxs h=>a xs h) (λxs h=>k xs h) (λks xs h=>j ks xs h) c (λx fs xs h=>g x fs xs h) żn
  (λd n p f e q=>by rcases Ĺ q with z|z;exact z▸p;exact f e z) d
mutual
noncomputable def xZ:D->D->Í
 |.zE,.zE=>Ã|.bl a,.bl b=>a==b|.bl a,.int b=>ġn==b|.int a,.bl b=>a==ěc|.int a,.int b=>a==b|.str a,.str b=>a==b|.tup xs,.tup ys=>Ēc xs ys|.lst xs,.lst ys=>Ēc xs ys|_,_=>Â
noncomputable def Ēc:Á D->Á D->Í
 | [],[]=>Ã|x::xs,y::ys=>xZ x y&&Ēc xs ys|_,_=>Â
end
abbrev Sl:=Í×D
abbrev yE:=Á (Æ Sl)
abbrev FE:=yE->Æ D
abbrev FT:=yE->Æ Í
abbrev FA:=yE->Æ Ąc
abbrev FG:=D->yE->Æ yE
inductive Fl where
 |nx (σ:yE)|rt (o:Í) (d:D)|bk (σ:yE)|ct (σ:yE)
abbrev FS:=yE->Æ Fl
abbrev yY:Nat:=16777216
noncomputable def z6(i:Nat):FE:=λσ=>match σ[i]? with
 |À ŀd=>À d|_=>Ä
noncomputable def Qj(i:Nat):FE:=λσ=>match σ[i]? with
 |À ēq=>À d|_=>Ä
noncomputable def eC(d:D):FE:=λ_=>À d
noncomputable def e1(F:D->Æ D)(a:FE):FE:=λσ=>(îa).bind F
noncomputable def e2(F:D->D->Æ D)(a b:FE):FE:=λσ=>(îa).bind λx=>(õe).bind λy=>F x y
noncomputable def eL(F:Á D->Æ D)(a:FA):FE:=λσ=>(îa).bind F
noncomputable def zG:FA:=λ_=>À []
noncomputable def zA(a:FE)(r:FA):FA:=λσ=>(îa).bind λx=>(r σ).bind λb=>À (x::b)
noncomputable def YW:D->Æ Í
 |.bl b=>À b|_=>Ä
def tE(a:FE):FT:=λσ=>(îa).bind YW
noncomputable def MU(a b:FT):FT:=λσ=>(îa).bind λk=>match k with
 |Ã=>b σ|Â=>À Â
noncomputable def kq(a b:FT):FT:=λσ=>(îa).bind λk=>match k with
 |Ã=>À Ã|Â=>b σ
noncomputable def gb(a:FT):FT:=λσ=>(îa).bind λk=>À (!k)
def U9(a b:FE):FE:=λσ=>(îa).bind λx=>(ĭf).bind λk=>match k with
 |Ã=>b σ|Â=>À û
def Oj(a b:FE):FE:=λσ=>(îa).bind λx=>(ĭf).bind λk=>match k with
 |Ã=>À Ō|Â=>b σ
def CB(a:FE):FE:=λσ=>(îa).bind λx=>(ĭf).bind λk=>À Àk
noncomputable def uN(c:FT)(a b:FE):FE:=λσ=>(ģd).bind λk=>match k with
 |Ã=>a σ|Â=>b σ
noncomputable def wA(a:FA):FE:=λσ=>(îa).bind λb=>À (.tup b)
noncomputable def vF(a:FA):FE:=λσ=>(îa).bind λb=>À (.lst b)
noncomputable def yW:D->D->Æ D
 |.int i,.int j=>À Ĵj|.int i,.bl b=>À (Β (i+ěc))|.str x,.str y=>if ŀb+ęk<=yY then À (.str Ĥh)else Ä|.lst x,.lst y=>if ŀb+ęk<=yY then À (Ε Ĥh)else Ä|.tup x,.tup y=>if x.isEmpty=Â/\ŀb+ęk<=yY then À (.tup Ĥh)else Ä|_,_=>Ä
noncomputable def fI(C:Int->Int->Í)(g:Int->Int->Int):D->D->Æ D
 |.int i,.int j=>match C i j with
  |Ã=>À Ĩr|Â=>Ä
 |_,_=>Ä
noncomputable def gJ:D->D->Æ D
 |.int i,.int j=>À (Β (i-j))|_,_=>Ä
noncomputable def qT(i:Int):Í:=decide (-ßh<i)&&decide (i<2 ^ 64)
def qP:D->D->Æ D:=fI (λi _=>qT i) (·*·)
def UC:D->D->Æ D:=fI (λ_ j=>qT j) (·*·)
def xP:D->D->Æ D:=fI (λ_ j=>decide (0<j)) (· % ·)
def ZK:D->D->Æ D:=fI (λ_ j=>decide (0<j)&&decide (j<2 ^ 64)) (· / ·)
noncomputable def p6(i j:Int):Í:=decide ĥd&&(decide (j<=1000000)&&decide (Ąd<2 ^ 64))
def z12:D->D->Æ D:=fI p6 λi j=>i ^ þd
def uj:D->D->Æ D:=fI p6 λi j=>i*2 ^ þd
def Qq:D->D->Æ D:=fI (λ_ j=>decide ĥd) λi j=>i/2 ^ þd
noncomputable def py(g:Int->Int->Int):D->D->Æ D
 |.int i,.int j=>À Ĩr|_,_=>Ä
noncomputable def Qp:D->Æ D
 |.int i=>À (Β (-i))|_=>Ä
noncomputable def CK:D->Æ D
 |.int i=>À (Β Ūk)|_=>Ä
noncomputable def ui(g:Int->Int->Í):D->D->Æ D
 |.int i,.int j=>À (.bl Ôb)|_,_=>Ä
noncomputable def UL:D->Í
 |.zE=>Ã|_=>Â
def ZM:D->D->Æ D
 |x,.zE=>À (.bl (UL x))|_,_=>Ä
def UD:D->D->Æ D
 |x,.zE=>À (.bl (!UL x))|_,_=>Ä
noncomputable def xD:D->Í
 |.zE=>Ã|.bl _=>Ã|.int _=>Ã|.str _=>Ã|_=>Â
noncomputable def pp(f:D->D->Í):Á D->Á D->Í
 |x::xs,y::ys=>f x y&&pp f xs ys|_,_=>Ã
def uh:Nat->D->D->Í
 |0,_,_=>Â|n+1,x,y=>match x,y with
  |.tup xs,.tup ys=>pp Ġd xs ys|.lst xs,.lst ys=>pp Ġd xs ys|x,y=>xD x&&xD y
def ZL:D->D->Æ Í
 |.int _,.bl _=>Ä|.bl _,.int _=>Ä|x,y=>match uh 6 x y with
  |Ã=>À (xZ x y)|Â=>Ä
def zp(x y:D):Æ D:=(ZL x y).bind λk=>À Đf
def xg(x y:D):Æ D:=(ZL x y).bind λk=>À Àk
noncomputable def uP:D->Æ ħ
 |.int i=>À Ňk|.str x=>À èh|_=>Ä
noncomputable def Ā{α:Type}:Á ħ->Á α->Sum Int Str->Æ α
 |k'::ks,v::vs,k=>if k'=k then À v else Ā ks vs k|_,_,_=>Ä
noncomputable def yp(ks:Á ħ)(k:Sum Int Str):Í:=ks.any λj=>decide (j=k)
def wM(ks:Á ħ)(k:Sum Int Str):Á ħ:=if yp ks k=Ã then ks else ks++[k]
def wC(ks:Á ħ)(vs:Á α)(k:Sum Int Str)(v:α):Á α:=if yp ks k=Ã then ĭb (λa x=>if a=k then v else x) ks vs else vs++[v]
def UB(x:D):D->Æ Í
 |.lst ys=>match xD x&&Ēd xD with
  |Ã=>À Äg|Â=>Ä
 |.tup ys=>match xD x&&Ēd xD with
  |Ã=>À Äg|Â=>Ä
 |.str j=>match x with
  |.str i=>À ļm|_=>Ä
 |.dic ks _=>(ôe).bind λk=>À (yp ks k)|_=>Ä
def t6(x y:D):Æ D:=(UB x y).bind λk=>À Đf
def ZN(x y:D):Æ D:=(UB x y).bind λk=>À Àk
noncomputable def v_(xs:Á α)(i:Int):Æ α:=if 0<=i then xs[şc]? else if -(à:Int)<=i then xs[(i+à).toNat]? else Ä
def zM:D->D->Æ D
 |.lst xs,.int i=>v_ xs i|.tup xs,.int i=>v_ xs i|.str z,.int i=>(Ũq).bind λc=>À Ńi|.dic ks vs,k=>(uP k).bind λk=>Ā ks vs k|_,_=>Ä
noncomputable def tL:Á D->Æ D
 | [.lst xs]=>À Õr| [.tup xs]=>À Õr| [.str z]=>À Ôr|_=>Ä
noncomputable def Op:Á D->Æ D
 | [.int i]=>À ôa| [.bl k]=>À (Β Ġn)|_=>Ä
inductive gD where
 |int|bool|str|list|tuple
noncomputable def gD.nm:gD->Áa
 |.int => Ūc|.bool => ēf|.str => İf|.list => ĝ|.tuple => ŧ
noncomputable def lz:D->Æ (Í×Í×Í×Í×Í)
 |.zE=>À (Â,Â,Â,Â,Â)|.bl _=>À (Ã,Ã,Â,Â,Â)|.int _=>À (Ã,Â,Â,Â,Â)|.str _=>À (Â,Â,Ã,Â,Â)|.tup _=>À (Â,Â,Â,Â,Ã)|.lst _=>À (Â,Â,Â,Ã,Â)|.dic _ _=>Ä|.exc _=>Ä|.obj _ _ _=>Ä
noncomputable def gD.sel:gD->Í×Í×Í×Í×Í->Í
 |.int,k=>k.1|.bool,k=>k.2.1|.str,k=>k.2.2.1|.list,k=>k.2.2.2.1|.tuple,k=>k.2.2.2.2
def LH(T:gD)(d:D):Æ Í:=(lz d).bind λk=>À (T.sel k)
def W6(T:gD)(a:FE):FE:=λτ=>(a τ).bind λd=>(LH T d).bind λb=>À ąc
noncomputable def uq(a:FE):FA:=λσ=>(îa).bind λd=>match d with
 |.lst xs=>À xs|.tup xs=>À xs|.str z=>À (Ďo λc=>.str ⟨#[c]⟩)|_=>Ä
noncomputable def uo(lo hi:FE):FA:=λσ=>(Žk).bind λx=>(ſk).bind λy=>match x,y with
 |.int i,.int j=>if Ąd<=yY/\ſg<=yY/\(j-i).toNat<=yY then À ((ùa (j-i).toNat).map λk:Nat=>.int Ĩd)else Ä|_,_=>Ä
noncomputable def yA(i:Nat):FG:=λd σ=>À (μ Ðn)
noncomputable def uO(i j:Nat):FG:=λd σ=>match d with
 |.tup ųc=>À ((μ (À (Â,x))).set j (À (Â,y)))|_=>Ä
noncomputable def xq:FS:=λσ=>À ãh
noncomputable def zZ(a b:FS):FS:=λσ=>(îa).bind λf=>match f with
 |.nx σ'=>b σ'|f=>À f
noncomputable def yP(i:Nat)(e:FE):FS:=λσ=>(Ģd).bind λd=>À Ĝr
noncomputable def pA(i:Nat)(e:FE):FS:=λσ=>(Ģd).bind λd=>À (.nx (μ ıc))
noncomputable def yF(e:FE):FS:=λσ=>(Ģd).bind λd=>À (.rt Â d)
noncomputable def qc(e:FE):FS:=λσ=>(Ģd).bind λd=>À ıq
noncomputable def jD(i:Nat):FS:=λσ=>match σ[i]? with
 |À ıc=>À ıq|_=>Ä
noncomputable def xR(c:FT)(a b:FS):FS:=λσ=>(ģd).bind λk=>match k with
 |Ã=>a σ|Â=>b σ
noncomputable def ZY(g:FG)(b:FS):Á D->yE->Æ Fl
 | [],σ=>À ãh|d::r,σ=>(íf).bind λσ1=>(b σ1).bind λf=>match f with
  |.nx σ2=>ZY g b r σ2|.ct σ2=>ZY g b r σ2|.bk σ2=>À ċk|.rt o d=>À ŝr
def p9(it:FA)(g:FG)(b:FS):FS:=λσ=>(it σ).bind λa=>ZY g b a σ
noncomputable def pF(c:FT)(b:FS):Nat->yE->Æ Fl
 |0,_=>Ä|n+1,σ=>(ģd).bind λk=>match k with
  |Â=>À ãh|Ã=>(õe).bind λf=>match f with
   |.nx σ2=>pF c b n σ2|.ct σ2=>pF c b n σ2|.bk σ2=>À ċk|.rt o d=>À ŝr
noncomputable def gw:Nat:=100000000
def L_(c:FT)(b:FS):FS:=λσ=>pF c b gw σ
noncomputable def Jp(i:Nat):FS:=λσ=>match σ[i]? with
 |À ēq=>À Ĝr|_=>Ä
noncomputable def y5a(i:Nat)(F:D->Æ D):FS:=λσ=>match σ[i]? with
 |À ıc=>(F d).bind λa=>À łn|_=>Ä
noncomputable def Zi(i:Nat)(F:D->D->Æ D)(e:FE):FS:=λσ=>match σ[i]? with
 |À ıc=>(Ģd).bind λx=>(F d x).bind λa=>À łn|_=>Ä
noncomputable def kE:D->D->Æ D
 |.lst xs,y=>if à<yY then À Ŏo else Ä|_,_=>Ä
def Zj(i:Nat)(k v:FE):FS:=λσ=>(v σ).bind λy=>match σ[i]? with
 |À (À (Ã,.dic ks ds))=>(ûl).bind λx=>(ôe).bind λx=>if ĩ<yY then À (Δa (À (Ã,.dic ņr Úp)))else Ä|_=>Ä
def wB(ks:Á ħ)(ds:Á D)(x:D):Æ D:=(ôe).bind λk=>Ā ks ds k
def Yd(ks:Á ħ)(x:D):Æ D:=(ôe).bind λk=>À Űo
def CA(d k e:FE):FE:=λσ=>(d σ).bind λx=>match x with
 |.dic ks ds=>(ûl).bind λy=>(Ģd).bind λz=>(uP y).bind λy=>À ((Ā ks ds y).getD z)|_=>Ä
noncomputable def ye(g:FG)(c:FT)(e:FE)(σ:yE):Á D->Æ Ąc
 | []=>À []|d::r=>(íf).bind λσ1=>(c σ1).bind λk=>match k with
  |Ã=>(ďf).bind λx=>(ye g c e σ r).bind λa=>À (x::a)|Â=>ye g c e σ r
noncomputable def yf:FT:=λ_=>À Ã
def xw(n:Nat)(it:FA)(g:FG)(c:FT)(e:FE):FE:=λσ=>(it σ).bind λb=>(ye g c e ŧi b).bind λa=>À óf
noncomputable def yH(n:Nat)(b:FS)(ds:Á D):Æ ä:=(b (Αe (n-ď))).bind λf=>match f with
 |.rt o d=>À (o,d)|.nx _=>À (Â,.zE)|_=>Ä
noncomputable def zT(F:Á D->Æ ä)(a:FA):FE:=λσ=>(îa).bind λb=>(F b).bind λr=>À r.2
noncomputable def uM(F:Á D->Æ ä)(a:FA):FE:=λσ=>(îa).bind λb=>(F b).bind λr=>match r with
 |(Ã,d)=>À d|_=>Ä
open ĺ ĭ L2
abbrev St:=L2.St
def oW(_:Ì)(H:Hp)(a:È)(kvs:Á ź):Prop:=Rd H a Ŀ
mutual
def za(K:Ì)(H:Hp):D->V->Prop
 |.zE,v=>v=.zE|.bl b,v=>v=.bl b|.int i,v=>v=.int i|.str x,v=>v=.str x/\ŀb<=á|.tup ds,v=>∃a vs,v=.ref a/\y_ K H a vs/\Þ K H ds vs/\ď<=á|.lst ds,v=>∃a vs,v=.ref a/\yd K H a vs/\Þ K H ds vs/\ď<=á|.dic ks ds,v=>∃a vs,v=.ref a/\oW K H a ňa/\ĩ=þ/\Þ K H ds vs/\ď<=á|.exc x,v=>∃a C,v=.ref a/\Ż K Ę x=À Ġa/\H a=À (.ext (oP a C))|.obj x fs ds,v=>∃a C dx vs,v=.ref a/\Ż K Ę x=À Ġa/\H a=À îi/\ůa=þ/\Þ K H ds vs
def Þ(K:Ì)(H:Hp):Á D->Á V->Prop
 | [],vs=>vs=[]|d::ds,vs=>∃v r,vs=v::r/\za K H d v/\Þ K H ds r
end
section
variable{K:Ì}{H H':Hp}
def Śc{a:È}{u:HO}(s:zw H H')(h:Rd H a u):Rd H' a u:=by rcases h with h|⟨o,h⟩;exact .inl (s _ _ h);exact .inr ⟨o,s _ _ h⟩
def vz(s:zw H H')(h:y_ K H a xs):y_ K H' a xs:=by rcases h with h|h;exact .inl ěr;exact .inr h
def u8(s:zw H H')(h:yd K H a xs):yd K H' a xs:=by rcases h with h|h;exact .inl ěr;exact .inr h
theorem ďb:∀{ds:Á D}{vs:Á V},(∀d∈ds,∀v,za K H d v->za K H' d v)->Þ K H ds vs->Þ K H' ds vs
 | [],_,_,h=>h|d::ds,vs,f,h=>by obtain⟨v,r,rfl,c,a⟩:=h;exact⟨v,r,rfl,f d Ŏ v c,ďb (λb m=>f b Ŧg) a⟩
theorem za.mono(s:zw H H'):∀{d:D}{v:V},za K H d v->za K H' d v:=λ{d}=>by refine Ĺf (P:=λd=>∀v,za K H d v->za K H' d v) ŗq šp şp Şp ?_ ?_ ?_ ?_ ?_ d _;rintro g f v ⟨a,c,e,q,r,l⟩;exact⟨a,c,e,vz s q,ďb f r,l⟩;rintro g f v ⟨a,c,e,q,r,l⟩;exact⟨a,c,e,u8 s q,ďb f r,l⟩;rintro m g f v ⟨a,c,e,q,z,r,l⟩;exact⟨a,c,e,Śc s q,z,ďb f r,l⟩;rintro x v ⟨a,C,e,n,h⟩;exact⟨a,C,e,n,s _ _ h⟩;rintro x k g f v ⟨a,C,j,c,e,n,h,l,r⟩;exact⟨a,C,j,c,e,n,s _ _ h,l,ďb f r⟩
theorem Reps.mono(s:zw H H'){ds:Á D}{vs:Á V}(h:Þ K H ds vs):Þ K H' ds vs:=ďb (λ_ _ _=>za.mono s) h
theorem Įj:∀{ds:Á D}{vs:Á V},Þ K H ds vs->þ=ď
 | [],_,h=>by cases(show _=[]from h);rfl|d::ds,_,h=>by obtain⟨v,r,rfl,_,a⟩:=h;rw[ĕ,ĕ,Įj a]
theorem Reps.get:∀{ds:Á D}{vs:Á V}{i:Nat}{d:D},Þ K H ds vs->ds[i]?=À d->∃v,vs[i]?=À v/\za K H d v
 | [],_,_,_,_,e=>by cases e|d::ds,_,0,_,h,e=>by obtain⟨v,r,rfl,b,a⟩:=h;cases e;exact⟨v,rfl,b⟩
 |d::ds,_,i+1,d',h,e=>by obtain⟨v,r,rfl,b,a⟩:=h;exact Reps.get (i:=i) a ûb
theorem Reps.at{ds:Á D}{vs:Á V}{i:Nat}{v:V}(h:Þ K H ds vs)(e:vs[i]?=À v):∃d,ds[i]?=À d/\za K H d v:=by
 have l:=Ñe;have a:i<ď:=by rw[<-l];exact čf.1
 obtain⟨c,b,r⟩:=h.get (Ĕ a);rw[e]at b;cases b;exact⟨_,Ĕ a,r⟩
theorem íq:∀{ds es:Á D}{vs us:Á V},Þ K H ds vs->Þ K H es us->Þ K H (ds++es) (vs++us)
 | [],_,_,_,h,g=>by cases(show _=[]from h);exact g|d::ds,_,_,_,h,g=>by obtain⟨v,r,rfl,b,a⟩:=h;exact⟨v,_,rfl,b,íq a g⟩
def Êh(h:za K H d v):Þ K H [d] [v]:=⟨v,[],rfl,h,rfl⟩
theorem ýr:∀{ds:Á D}{vs:Á V}(n:Nat),Þ K H ds vs->Þ K H (ds.take n) (vs.take n)
 |_,_,0,_=>by rw[Ÿi,Ÿi];rfl| [],_,n+1,h=>by cases(show _=[]from h);rfl|d::ds,_,n+1,h=>by obtain⟨v,r,rfl,b,a⟩:=h;exact⟨v,_,rfl,b,ýr n a⟩
theorem Ār:∀{ds:Á D}{vs:Á V}(n:Nat),Þ K H ds vs->Þ K H (óh n) (vs.drop n)
 |_,_,0,h=>h| [],_,n+1,h=>by cases(show _=[]from h);rfl|d::ds,_,n+1,h=>by obtain⟨v,r,rfl,b,a⟩:=h;exact Ār n a
theorem řg:∀{ns:Á Int},Þ K H þb ėa
 | []=>rfl|n::ns=>⟨_,_,rfl,rfl,řg⟩
#print a
structure zR(G H G' H':Hp):Prop where
 g:zw G G'
 h:zw H H'
 gh:zw G' H'
 new:∀p,G' p≠Ä->G p≠Ä\/H p=Ä
section
variable{G H G0 H0 G1 H1 G2 H2:Hp}{p:È}{o:HO}
theorem Ŀa(s:zw G H):zR G H G H:=⟨ŕa _,ŕa _,s,λ_ h=>.inl h⟩
theorem zR.trans(a:zR G H G1 H1)(b:zR G1 H1 G2 H2):zR G H G2 H2:=⟨Øk b.g,a.h.trans b.h,b.gh,λp h=>by rcases b.new p h with z|z;exact a.new p z;exact .inr (a.h.free z)⟩
def zR.rebase(a:zR G0 H0 G1 H1)(b:zR G1 H0 G2 H2):zR G0 H0 G2 H2:=⟨Øk b.g,b.h,b.gh,λp h=>by rcases b.new p h with z|z;exact a.new p z;exact .inr z⟩
def zR.zC(a:zR G0 H0 G1 H1):zR G1 H0 G1 H1:=⟨ŕa _,a.h,a.gh,λ_ h=>.inl h⟩
def P8(h:zV H p o q≠Ä):q=p\/H q≠Ä:=by by_cases e:q=p;exact .inl e;rw[yB e]at h;exact .inr h
def M1(s:zw G H):zw Ŝq íd:=λb u e=>by by_cases hb:b=p;subst hb;rw[yb]at e ⊢;exact e;rw[yB hb]at e ⊢;exact s _ _ e
def Ŋb(s:zw G H)(h:H p=Ä):zR G H Ŝq íd:=⟨vL (s.free h) o,vL h o,M1 s,λq z=>by rcases P8 z with e|e;exact .inr (e▸h);exact .inl e⟩
def èb(s:zw G H)(h:H p=Ä):zR G H G íd:=⟨ŕa _,vL h o,s.trans (vL h o),λ_ z=>.inl z⟩
def zR.yK(a:zR G H G1 H1)(h:H p=Ä)(g:G1 p=Ä)(e:H1 p=À o):zR G H (zV G1 p o) H1:=⟨Øk (vL g o),a.h,λb u q=>by
 by_cases hb:b=p;subst hb;rw[yb]at q;cases q;exact e;rw[yB hb]at q;exact a.gh _ _ q,λq z=>by
 rcases P8 z with w|w;exact .inr (w▸h);exact a.new q w⟩
#print a
def wv(K:Ì)(G H:Hp)(d:D)(p:È):Prop:=match d with
 |.lst ds=>∃vs,H p=À ũr/\Þ K G ds vs/\ď<=á|.dic ks ds=>∃vs,H p=À ŭr/\ĩ=þ/\Þ K G ds vs/\ď<=á|_=>ô
section
variable{K:Ì}{G H G' H':Hp}{d:D}{p:È}
def wv.some(h:wv K G H d p):H p≠Ä:=by
 cases d with
 |lst ds=>obtain⟨a,e,_⟩:=h;rw[e];exact λz=>nomatch z
 |dic ks ds=>obtain⟨a,e,_⟩:=h;rw[e];exact λz=>nomatch z
 |_=>exact Õl
theorem wv.mono(g:zw G G')(h:zw H H')(o:wv K G H d p):wv K G' H' d p:=by
 cases d with
 |lst ds=>obtain⟨a,e,r,l⟩:=o;exact⟨a,h _ _ e,ĥa g,l⟩
 |dic ks ds=>obtain⟨a,e,z,r,l⟩:=o;exact⟨a,h _ _ e,z,ĥa g,l⟩
 |_=>exact Ėd
def wv.rep(s:zw G H)(o:wv K G H d p):za K H d Éa:=by
 cases d with
 |lst ds=>obtain⟨a,e,r,l⟩:=o;exact⟨p,a,rfl,Œb e,ĥa s,l⟩
 |dic ks ds=>obtain⟨a,e,z,r,l⟩:=o;exact⟨p,a,rfl,.inl e,z,ĥa s,l⟩
 |_=>exact Ėd
def wv.yK(o:wv K G H d p)(g:G p=Ä):∃u,H p=Option.some u/\za K Ūj d Éa:=by
 cases d with
 |lst ds=>obtain⟨a,e,r,l⟩:=o;exact⟨_,e,p,a,rfl,Œb yb,ĥa Ûe,l⟩
 |dic ks ds=>obtain⟨a,e,z,r,l⟩:=o;exact⟨_,e,p,a,rfl,.inl yb,z,ĥa Ûe,l⟩
 |_=>exact Ėd
#print a
structure zr(K:Ì)(n:Nat)(G0 H0 G H:Hp)(τ:yE)(σ:St):Prop where
 ext:zR G0 H0 G H
 l1:σ.length=n
 l2:τ.length=n
 fr:∀(i:Nat)(d:D),τ[i]?=À ŀd->∃v,σ[i]?=À ìa/\za K G d v
 ow:∀(i:Nat)(d:D),τ[i]?=À ıc->∃p,σ[i]?=À Ňe/\G p=Ä/\H0 p=Ä/\wv K G H d p
 ap:∀(i j:Nat)(d e:D)(p:È),i≠j->τ[i]?=À ıc->τ[j]?=À Ŗe->σ[i]?=À Ňe->σ[j]?=À Ňe->ô
section
variable{K:Ì}{n:Nat}{G0 H0 G H G' H':Hp}{τ:yE}{σ:St}
def zr.go(E:zr K n G0 H0 G H τ σ)(x:zR G H G' H'):zr K n G0 H0 G' H' τ σ:=⟨øq x,Ŝ,ō,λi d h=>by
 obtain⟨v,e,r⟩:=ġb i d h;exact⟨v,e,ĥa x.g⟩,λi d h=>by
 obtain⟨p,e,g,z,o⟩:=Ťa i d h;refine⟨p,e,?_,z,o.mono x.g x.h⟩;cases q:G' p with
 |Ä=>rfl|À u=>rcases Ŭc p (by rw[q];exact λz=>nomatch z)with w|w;exact Û g w;exact Û w o.some,ób⟩
theorem zr.zC(E:zr K n G0 H0 G H τ σ):zr K n G H0 G H τ σ:=⟨E.ext.zC,Ŝ,ō,ġb,Ťa,ób⟩
def zr.near(a:zR G0 H0 Ga Ha)(E:zr K n Ga H0 G H τ σ):zr K n G0 H0 G H τ σ:=⟨a.rebase Ųc,Ŝ,ō,ġb,Ťa,ób⟩
def zr.lt{i:Nat}{s:Æ Sl}(E:zr K n G0 H0 G H τ σ)(h:τ[i]?=À s):i<n:=by rw[<-ō];exact Üb.1
def vo{α:Type}{xs:Á α}{i j:Nat}{x y:α}(h:ēg[j]?=À y):(j=i/\y=x)\/(j≠i/\xs[j]?=À y):=by
 rw[Ĳi]at h;by_cases e:i=j;subst e;rw[Î rfl]at h
 split at h;cases h;exact .inl ⟨rfl,rfl⟩;cases h;rw[Ð e]at h;exact .inr ⟨λz=>e îe,h⟩
def Yi{α:Type}{xs:Á α}{i:Nat}{x:α}(h:i<à):ēg[i]?=À x:=by rw[Ĳi,Î rfl,Î h]
theorem qR{α:Type}{xs:Á α}{i j:Nat}{x:α}(h:j≠i):ēg[j]?=xs[j]?:=by rw[Ĳi,Ð (λz=>h îe)]
theorem zr.set{i:Nat}{d:D}{v:V}(E:zr K n G0 H0 G H τ σ)(hi:i<n)(r:za K G d v):zr K n G0 H0 G H Ãj ŭd:=⟨Ųc,by rw[Ņa];exact Ŝ,by rw[Ņa];exact ō,λj e h=>by
 rcases vo h with⟨rfl,z⟩|⟨a,z⟩;cases z;exact⟨v,Yi Ŵf,r⟩;rw[qR a];exact ġb j e z,λj e h=>by
 rcases vo h with⟨rfl,z⟩|⟨a,z⟩;cases z;rw[qR a];exact Ťa j e z,λj k e f p g l m=>by
 rcases vo l with⟨rfl,z⟩|⟨a,z⟩;cases z;rcases vo m with⟨rfl,c⟩|⟨b,c⟩;cases c;rw[qR a,qR b];exact ób j k e f p g z c⟩
def zr.S3{i:Nat}{d:D}{p:È}(E:zr K n G0 H0 G H τ σ)(hi:i<n)(u:G p=Ä)(v:H0 p=Ä)(o:wv K G H d p)(r:∀(j:Nat)(e:D),j≠i->τ[j]?=À Ŗe->σ[j]?=À Ňe->ô) :zr K n G0 H0 G H (τ.set i ıc) ħr:=⟨Ųc,by rw[Ņa];exact Ŝ,by rw[Ņa];exact ō,λj e h=>by
 rcases vo h with⟨rfl,z⟩|⟨b,z⟩;cases z;rw[qR b];exact ġb j e z,λj e h=>by
 rcases vo h with⟨rfl,z⟩|⟨b,z⟩;cases z;exact⟨p,Yi Ŵf,u,v,o⟩;rw[qR b];exact Ťa j e z,λj k e f q m t s g c=>by
 rcases vo t with⟨rfl,z⟩|⟨b,z⟩;rcases vo s with⟨rfl,l⟩|⟨a,l⟩;exact m rfl;rw[Yi Ŵf]at g;rw[qR a]at c;cases g;exact r k f a l c;rcases vo s with⟨rfl,l⟩|⟨a,l⟩;rw[Yi Ŵf]at c;rw[qR b]at g;cases c;exact r j e b z g;rw[qR b]at g;rw[qR a]at c;exact ób j k e f q m z l g c⟩
def zr.Rx(E:zr K n G0 H0 G H τ σ)(a:H p=Ä):∀(j:Nat)(e:D),j≠i->τ[j]?=À Ŗe->σ[j]?=À Ňe->ô:=λj e _ b c=>by obtain⟨q,e1,_,_,o⟩:=Ťa j e b;rw[c]at e1;cases e1;exact o.some a
def zr.freeze{i:Nat}{b:Í}{d:D}(E:zr K n G0 H0 G H τ σ)(hi:τ[i]?=À žd):∃G',zr K n G0 H0 G' H Ãj σ/\zw G G':=by
 have m:=E.lt hi;cases b with
 |Â=>
  refine⟨G,?_,ŕa _⟩
  have e:τ.set i ŀd=τ:=by apply Řd;intro j;by_cases hj:j=i;subst hj;rw[Yi (by rw[ō];exact m),hi];rw[qR hj]
  rw[e];exact E
 |Ã=>obtain⟨p,e,g,z,o⟩:=Ťa i d hi;obtain⟨u,L,r⟩:=o.yK g;have x:zR G0 H0 Ūj H:=E.ext.yK z g L;refine⟨zV G p u,⟨x,Ŝ,by rw[Ņa];exact ō,λj l h=>?_,λj l h=>?_,λj k e1 f q t A F=>?_⟩,vL g _⟩;rcases vo h with⟨rfl,w⟩|⟨y,w⟩;cases w;exact⟨_,e,r⟩;obtain⟨v,a,B⟩:=ġb j l w;exact⟨v,a,B.mono Ûe⟩;rcases vo h with⟨rfl,w⟩|⟨y,w⟩;cases w;obtain⟨q,a,I,C,N⟩:=Ťa j l w;refine⟨q,a,?_,C,N.mono Ûe ÿh⟩;rw[yB ūg];exact I;subst c;exact ób i j d l q (λc=>y Ćf) hi w e a;rcases vo A with⟨rfl,w⟩|⟨y,w⟩;cases w;rcases vo F with⟨rfl,s⟩|⟨J,s⟩;cases s;exact ób j k e1 f q t w s
#print a
section
variable(X:Cx)
structure SE(e:Ñ)(f:FE):Prop where
 h:∃t,PE X e t/\∀{G0 H0 G H:Hp}{τ:yE}{σ:St}{d:D}{Q:VK},zr X.K ö G0 H0 G H τ σ->f τ=À d->(∀v G' H',zR G H G' H'->za X.K G' d v->Q v H')->t σ H Q
structure SB(e:Ñ)(f:FE):Prop where
 h:∃t,PE X e t/\∀{G0 H0 G H:Hp}{τ:yE}{σ:St}{d:D}{Q:VK},zr X.K ö G0 H0 G H τ σ->f τ=À d->(∀v G' H',zR G H G' H'->za X.K H' d v->Q v H')->t σ H Q
structure SF(e:Ñ)(f:FE):Prop where
 h:∃t,PE X e t/\∀{G0 H0 G H:Hp}{τ:yE}{σ:St}{d:D}{Q:VK},zr X.K ö G0 H0 G H τ σ->f τ=À d->(∀p G' H',zR G H G' H'->H p=Ä->G' p=Ä->wv X.K G' H' d p->Q Éa H')->t σ H Q
structure ST(e:Ñ)(f:FT):Prop where
 h:∃t,PT X e t/\∀{G0 H0 G H:Hp}{τ:yE}{σ:St}{d:Í}{Q:Í->Hp->Prop},zr X.K ö G0 H0 G H τ σ->f τ=À d->(∀G' H',zR G H G' H'->Q d H')->t σ H Q
structure SW(e:Ñ)(f:FT):Prop where
 h:∃t,PW X e t/\∀{G0 H0 G H:Hp}{τ:yE}{σ:St}{d:Í}{Q:Í->Hp->Prop},zr X.K ö G0 H0 G H τ σ->f τ=À d->(∀G' H',zR G H G' H'->Q d H')->t σ H Q
structure SA(es:Á Ñ)(f:FA):Prop where
 h:∃t,PA X es t/\∀{G0 H0 G H:Hp}{τ:yE}{σ:St}{ds:Á D}{Q:Á V->Hp->Prop},zr X.K ö G0 H0 G H τ σ->f τ=À ds->(∀vs G' H',zR G H G' H'->Þ X.K G' ds vs->Q vs H')->t σ H Q
structure QP(es:Á Ñ)(f:FA):Prop where
 h:∃t,PA X es t/\∀{G0 H0 G H:Hp}{τ:yE}{σ:St}{ds:Á D}{Q:Á V->Hp->Prop},zr X.K ö G0 H0 G H τ σ->f τ=À ds->(∀vs G' H',zR G H G' H'->Þ X.K H' ds vs->Q vs H')->t σ H Q
#print a
def u_(K:Ì)(n:Nat)(b a:Hp)(E:uF):Fl->Prop
 |.nx τ=>∀σ G H,zr K n b a G H τ σ->E.nx σ H|.bk τ=>∀σ G H,zr K n b a G H τ σ->E.bk σ H|.ct τ=>∀σ G H,zr K n b a G H τ σ->E.ct σ H|.rt Â d=>∀v G H,zR b a G H->za K G d v->E.rt v H|.rt Ã d=>∀p G H,zR b a G H->a p=Ä->G p=Ä->wv K G H d p->E.rt Éa H
section
variable(X:Cx)
structure SS(st:Õ)(f:FS):Prop where
 h:∃t,PS X st t/\∀{G0 H0 G H:Hp}{τ:yE}{σ:St}{fl:Fl}{E:uF},zr X.K ö G0 H0 G H τ σ->f τ=À fl->u_ X.K ö G0 H0 E fl->t E σ H
structure tj(st:Á Õ)(f:FS):Prop where
 h:∃t,t4 X st t/\∀{G0 H0 G H:Hp}{τ:yE}{σ:St}{fl:Fl}{E:uF},zr X.K ö G0 H0 G H τ σ->f τ=À fl->u_ X.K ö G0 H0 E fl->t E σ H
#print a
structure jX(K:Ì)(J:It)(G:Hp)(ds:Á D):Prop where
 go:∀i G2 H,zw G G2->zw G2 H->i<ď->J.go i H
 ua:∀i G2 H x H',zw G G2->zw G2 H->i<ď->J.ua i H x H'->∃G3 d,zR G2 H G3 H'/\ds[i]?=À d/\za K G3 d x
 Ś:∀i G2 H,zw G G2->zw G2 H->ď<=i->Ġh i H
structure SI(X:Cx)(tg Ŕ:Ñ)(f:FA):Prop where
 h:∃wi,PI X tg Ŕ wi/\∀{G0 H0 G H:Hp}{τ:yE}{σ:St}{ds:Á D}{R:It->Hp->Prop},zr X.K ö G0 H0 G H τ σ->f τ=À ds->(∀J G' H',zR G H G' H'->ď<=á->jX X.K J G' ds->R J H')->wi σ H R
noncomputable def wy(K:Ì)(F:Á D->Æ ä):Sp:=λa H Q _=>∃G ds o d,zw G H/\Þ K G ds a/\F ds=À (o,d)/\
 match o with
 |Â=>∀v G' H',zR G H G' H'->za K G' d v->Q v H'|Ã=>∀p G' H',zR G H G' H'->H p=Ä->G' p=Ä->wv K G' H' d p->Q Éa H'
def zH{α β:Type}{o:Æ α}{f:α->Æ β}{b:β}(h:Îl f=À b):∃a,o=À a/\f a=À b:=by
 cases o with
 |Ä=>cases h|À a=>exact⟨a,rfl,h⟩
def CC(h:z6 i τ=À d):τ[i]?=À ŀd:=by
 unfold z6 at h
 split at h;rename_i e;cases h;exact e;cases h
def z0v(h:Qj i τ=À d):∃b,τ[i]?=À žd:=by
 unfold Qj at h
 split at h;rename_i b a e;cases h;exact⟨_,e⟩;cases h
section
variable{X:Cx}{x:Str}{p pos:Pos}{e a b c o:Ñ}{es ĵ:Á Ñ}{f fa fb:FE}{ft fu:FT}{fs:FA}{F:D->D->Æ D}{r:R2}
def SE.sb(h:SE X e f):SB X e f:=⟨let ⟨t,p,k⟩:=h.h;⟨t,p,λE c q=>k E c λv b a x r=>q v b a x (ĥa Ÿa)⟩⟩
def SF.se(h:SF X e f):SE X e f:=⟨let ⟨t,p,k⟩:=h.h;⟨t,p,λE d q=>k E d λp i g x b a o=>by obtain⟨u,c,r⟩:=o.yK a;exact q _ _ _ (x.yK b a c) r⟩⟩
def zO(h:SE X e f):SB X e f:=h.sb
def yq(h:SF X e f):SE X e f:=h.se
def z8(i:Nat)(b:Ê ŉe q12)(hv:Ê Źe q13)(c:Ê ı q10)(a:Ê řb q10):SE X ýa ìl:=⟨⟨_,Wf b hv c a,λE d q=>by obtain⟨v,e,r⟩:=ġb _ _ (CC d);exact⟨v,e,q v _ _ ŋc r⟩⟩⟩
def y5d(i:Nat)(d:Ê ŉe q12)(hv:Ê Źe q13)(f:Ê ı q10)(a:Ê řb q10):SB X ýa (Qj i):=⟨⟨_,Wf d hv f a,λE g q=>by
 obtain⟨b,c⟩:=z0v g;cases b with
 |Â=>obtain⟨v,e,r⟩:=ġb _ _ c;exact⟨v,e,q v _ _ ŋc (ĥa Ìb)⟩
 |Ã=>obtain⟨p,e,_,_,o⟩:=Ťa _ _ c;exact⟨_,e,q _ _ _ ŋc (o.rep Ìb)⟩⟩⟩
def Jw(h:PE X e Ĩf)(r:∀H,za X.K H d v):SE X e (eC d):=⟨⟨_,h,λE a q=>by cases a;exact q v _ _ ŋc (r _)⟩⟩
def zJ{i k pos}:SE X (.Constant ôa k pos) (eC ôa):=Jw y2s λ_=>rfl
def jE{i k pos}:SE X (.Constant (.bool i) k pos) (eC (.bl i)):=Jw y2f λ_=>rfl
def vM{k pos}:SE X (.Constant .none k pos) Ča:=Jw y2x λ_=>rfl
def yT{x k pos}(h:Ê (ŀb<=1000) q10):SE X (.Constant Ņb k pos) (eC Ņb):=Jw y31 λ_=>⟨rfl,œb h⟩
def vW(h:wT î x v)(r:∀H,za X.K H d v)(b:Gl X x)(a:Ê ı q10):SE X ýa (eC d):=Jw (We h b a) r
def ue(K:Ì)(r:R2)(F:D->D->Æ D):Prop:=∀G H x y u v d (Q:VK),zw G H->za K G x u->za K G y v->F x y=À d->(∀w G' H',zR G H G' H'->za K G' d w->Q w H')->r u v H Q
def gA(K:Ì)(r:R2)(F:D->D->Æ D):Prop:=∀H x y u v d (Q:VK),za K H x u->za K H y v->F x y=À d->∃k,d=.bl k/\(Q Đf H->r u v H Q)
def zW(t:yj X (Ëb op) r)(B:ue X.K r F)(A:SE X a fa)(o:SE X b fb):SE X (.BinOp a op b pos) Ėg:=by
 obtain⟨J,j,H⟩:=A.h;obtain⟨N,f,i⟩:=o.h;refine⟨⟨_,eh t j f,λE c q=>?_⟩⟩;obtain⟨x,k,c⟩:=zH c;obtain⟨y,z,c⟩:=zH c;refine H E k λv L O e n=>?_
 refine i üh z λu I C d l=>?_
 exact B I C x y v u _ _ d.gh Ĕj l c λw G p m s=>q w G p Ěp s
def zi(t:qp X r)(B:ue X.K r F)(A:SE X a fa)(o:SE X b fb)(G:Ê Žq q12):SE X Īn Ėg:=by
 obtain⟨L,j,I⟩:=A.h;obtain⟨O,f,i⟩:=o.h;refine⟨⟨_,Gh t j f (Gk G),λE c q=>?_⟩⟩;obtain⟨x,k,c⟩:=zH c;obtain⟨y,z,c⟩:=zH c;refine I E k λv N P e n=>?_
 refine i üh z λu J C d l=>?_
 exact B J C x y v u _ _ d.gh Ĕj l c λw H p m s=>q w H p Ěp s
def uS(o:yj X (ċa op) r)(w:gA X.K r F)(t:SB X a fa)(n:SB X b fb)(p:åc op b=Â):SE X ŧm Ėg:=by
 obtain⟨C,i,B⟩:=t.h;obtain⟨H,f,g⟩:=n.h;refine⟨⟨_,eS o i f p,λE c q=>?_⟩⟩;obtain⟨x,j,c⟩:=zH c;obtain⟨y,s,c⟩:=zH c;refine B E j λv G I d m=>?_
 refine g ýh s λu J A e l=>?_
 obtain⟨k,rfl,z⟩:=w A x y v u _ _ (Ðl e.h) l c;exact z (q _ _ _ (Ķc e) rfl)
def yU(p:yj X (ċa op) r)(A:gA X.K r F)(w:SB X a fa)(o:SB X b fb)(s:åc op b=Â):ST X ŧm (tE Ėg):=by
 obtain⟨G,j,C⟩:=w.h;obtain⟨I,g,i⟩:=o.h;refine⟨⟨_,Gv p j g s,λE d q=>?_⟩⟩;obtain⟨z,c,d⟩:=zH d;obtain⟨x,l,c⟩:=zH c;obtain⟨y,t,c⟩:=zH c;refine C E l λv H J e n=>?_
 refine i üh t λu L B f m=>?_
 obtain⟨k,rfl,z⟩:=A B x y v u _ _ (n.mono f.h) m c;cases d;exact z ⟨_,rfl,q _ _ (Żb f)⟩
def uv(h:SE X e f)(c:Ê Ár q12):ST X e (tE f):=by
 obtain⟨t,p,k⟩:=h.h;refine⟨⟨_,fN p (f9 c),λE a q=>?_⟩⟩;obtain⟨z,b,a⟩:=zH a;refine k E b λv g d x r=>?_
 cases z<;>first|cases a|skip
 cases r;exact⟨_,rfl,q _ _ x⟩
def y8c(h:ST X a ft):SW X üi ft:=⟨let ⟨t,p,k⟩:=h.h;⟨t,fX p,k⟩⟩
def Wo(h:ST X a ft):SW X ĉi ft:=⟨let ⟨t,p,k⟩:=h.h;⟨t,fZ p,k⟩⟩
def lZ(j:ST X a ft)(i:SW X ţd fu):SW X Êe (MU ft fu):=by
 obtain⟨o,g,m⟩:=j.h;obtain⟨s,e,f⟩:=i.h;refine⟨⟨_,fW g e,λE c q=>?_⟩⟩;obtain⟨k,n,c⟩:=zH c;refine m E n λr t d=>?_
 cases k with
 |Ã=>exact j9 Ùm|Â=>cases c;exact j8 ŉr
def X5(j:ST X a ft)(i:SW X ņe fu):SW X Ëf (kq ft fu):=by
 obtain⟨o,g,m⟩:=j.h;obtain⟨s,e,f⟩:=i.h;refine⟨⟨_,fY g e,λE c q=>?_⟩⟩;obtain⟨k,n,c⟩:=zH c;refine m E n λr t d=>?_
 cases k with
 |Â=>exact j8 Ùm|Ã=>cases c;exact j9 ŉr
def X6(h:SW X e ft):ST X e ft:=⟨let ⟨t,p,k⟩:=h.h;⟨t,p.pt,k⟩⟩
def Zn(h:ST X a ft):ST X Ág (gb ft):=by obtain⟨g,c,e⟩:=h.h;refine⟨⟨_,y3z c,λE b q=>?_⟩⟩;obtain⟨k,f,b⟩:=zH b;cases b;exact e E f λj i d=>q _ _ d
def Um{op}(h:SE X a f):SE X Đi f:=⟨let ⟨t,p,k⟩:=h.h;⟨t,eZ p,k⟩⟩
def Jm{K:Ì}{G:Hp}{z:D}{v:V}{k:Í}(r:za K G z v)(h:YW z=À k):v=.bl k:=by
 cases z<;>first|cases h|skip
 exact r
def M6(m:SE X a fa)(l:SE X ţd fb):SE X Êe (U9 fa fb):=by
 obtain⟨s,g,p⟩:=m.h;obtain⟨w,e,f⟩:=l.h;refine⟨⟨_,eR g e,λE c q=>?_⟩⟩;obtain⟨z,n,c⟩:=zH c;obtain⟨k,r,c⟩:=zH c;refine p E n λv u x d j=>⟨k,Jm j r,?_⟩
 cases k with
 |Ã=>exact j9 şl|Â=>cases c;exact j8 śo
def iy(m:SE X a fa)(l:SE X ņe fb):SE X Ëf (Oj fa fb):=by
 obtain⟨s,g,p⟩:=m.h;obtain⟨w,e,f⟩:=l.h;refine⟨⟨_,y2z g e,λE c q=>?_⟩⟩;obtain⟨z,n,c⟩:=zH c;obtain⟨k,r,c⟩:=zH c;refine p E n λv u x d j=>⟨k,Jm j r,?_⟩
 cases k with
 |Â=>exact j8 şl|Ã=>cases c;exact j9 śo
def y70(g:SE X a fa):SE X Ág (CB fa):=by obtain⟨l,c,i⟩:=g.h;refine⟨⟨_,y2y c,λE b q=>?_⟩⟩;obtain⟨z,d,b⟩:=zH b;obtain⟨k,j,b⟩:=zH b;cases b;exact i E d λv n m e f=>⟨k,Jm f j,q _ _ _ e rfl⟩
def qE(s:ST X c ft)(p:SE X a fa)(m:SE X b fb):SE X Øo (uN ft fa fb):=by
 obtain⟨y,o,w⟩:=s.h;obtain⟨x,l,t⟩:=p.h;obtain⟨A,i,j⟩:=m.h;refine⟨⟨_,y2r o l i,λE e q=>?_⟩⟩;obtain⟨k,u,e⟩:=zH e;refine w E u λz B d=>?_
 cases k with
 |Ã=>exact j9 (t ýh e λv r n g f=>q v _ _ (Ķc g) f)|Â=>exact j8 (j ýh e λv r n g f=>q v _ _ (Ķc g) f)
def zL:SA X [] zG:=⟨⟨_,Wc,λE a q=>by cases a;exact q _ _ _ ŋc rfl⟩⟩
def zB(o:SE X e f)(n:SA X es fs)(h:Ê ĝa q12):SA X ė Ŀr:=by
 obtain⟨t,k,r⟩:=o.h;obtain⟨w,i,j⟩:=n.h;refine⟨⟨_,Yw k i h,λE a q=>?_⟩⟩;obtain⟨x,s,a⟩:=zH a;obtain⟨z,b,a⟩:=zH a;cases a;refine r E s λv u y c m=>j (öa c) b λp B A d l=>?_
 exact q _ _ _ (ąb d) ⟨v,p,rfl,Ðl d.g,l⟩
def uR:QP X [] zG:=⟨⟨_,Wc,λE a q=>by cases a;exact q _ _ _ ŋc rfl⟩⟩
def uQ(n:SB X e f)(m:QP X es fs)(h:Ê ĝa q12):QP X ė Ŀr:=by
 obtain⟨s,j,p⟩:=n.h;obtain⟨u,g,i⟩:=m.h;refine⟨⟨_,Yw j g h,λE a q=>?_⟩⟩;obtain⟨x,r,a⟩:=zH a;obtain⟨y,b,a⟩:=zH a;cases a;refine p E r λv t w c l=>i (öa c) b λo A z d k=>?_
 exact q _ _ _ (ąb d) ⟨v,o,rfl,Òl d.h,k⟩
def wN{x1}(h:SA X es fs)(e:∀τ ds,fs τ=À ds->ď<=1000):SE X Öo (wA fs):=by
 obtain⟨t,i,k⟩:=h.h;refine⟨⟨_,y32 i,λE a q=>?_⟩⟩;obtain⟨g,d,a⟩:=zH a;cases a;have l:Ďa<=á:=œb (e _ _ d);refine k E d λf j m x1 b=>⟨by rw[Ű];exact l,λp c=>?_⟩
 exact q _ _ _ (x1.trans (Ŋb x1.gh c)) ⟨p,f,rfl,ďc yb,b.mono (vL (x1.gh.free c) _),l⟩
def vX(h:SA X es fs)(f:∀τ ds,fs τ=À ds->ď<=1000):SF X ôp (vF fs):=by
 obtain⟨t,j,k⟩:=h.h;refine⟨⟨_,y2t j,λE c q=>?_⟩⟩;obtain⟨i,e,c⟩:=zH c;cases c;have l:Ĳa<=á:=œb ćk;refine k E e λg m n a d=>⟨by rw[œa];exact l,λp b=>?_⟩
 exact q _ _ _ (a.trans (èb a.gh b)) (a.h.free b) (a.gh.free b) ⟨g,yb,d,l⟩
def ya:∀(τ:yE) ds,zG τ=À ds->ď<=0:=λ_ _ h=>by cases h;exact êa _
def zY(h:∀τ ds,fs τ=À ds->ď<=n):∀τ ds,zA f fs τ=À ds->ď<=n+1:=λτ ds e=>by obtain⟨x,_,e⟩:=zH e;obtain⟨b,a,e⟩:=zH e;cases e;exact ĥc (h _ _ a)
def yZ(h:∀τ ds,fs τ=À ds->ď<=m)(a:m<=n):∀τ ds,fs τ=À ds->ď<=n:=λτ ds e=>Ġ (h τ ds e) a
variable{ps:Á Str}{j k:Nat}{FF:Á D->Æ ä}{FL:Á D->Æ D}{id T:Áa}
def qF(h:vJ ò X.w X.K î ő x ps k Ĺj)(f:yo j X.A)(r:Gl X x)(u:SA X ė fs)(hk:Ê Čc q10)(c:Ê ı q10)(B:Ê Ĭa q12):SF X ſa (uM FF fs):=by
 obtain⟨t,C,m⟩:=u.h;refine⟨⟨_,Gi h f r C hk c B,λE a q=>?_⟩⟩;obtain⟨F,v,a⟩:=zH a;obtain⟨⟨o,d⟩,f,a⟩:=zH a;cases o with
 |Â=>cases a|Ã=>
  cases a;refine m E v λG n H b g=>⟨n,F,Ã,_,b.gh,by rw[ż];exact g,f,λp z i y s l o=>?_⟩
  exact q p z i (Ĉd y) (ħk s) l o
def zj(h:vJ ò X.w X.K î ő x ps k Ĺj)(f:yo j X.A)(z:Gl X x)(C:SA X ė fs)(hk:Ê Čc q10)(c:Ê ı q10)(G:Ê Ĭa q12):SE X ſa (zT FF fs):=by
 obtain⟨t,I,s⟩:=C.h;refine⟨⟨_,Gi h f z I hk c G,λE a q=>?_⟩⟩;obtain⟨J,F,a⟩:=zH a;obtain⟨⟨o,d⟩,f,a⟩:=zH a;cases a;refine s E F λL y N b n=>⟨y,J,o,d,b.gh,by rw[ż];exact n,f,?_⟩
 cases o with
 |Â=>exact λv m i g r=>q v m i (Ĉd g) r|Ã=>intro p m i g B l o;obtain⟨u,H,r⟩:=o.yK l;exact q _ _ _ (Ĉd (g.yK B l H)) r
def ZE(K:Ì)(r:Á V->Hp->VK->Prop)(F:Á D->Æ D):Prop:=∀G H ds vs d (Q:VK),zw G H->Þ K H ds vs->F ds=À d->(∀w G' H',zR G H G' H'->za K G' d w->Q w H')->r vs H Q
def Ap(K:Ì)(r:Á V->Hp->VK->Prop)(F:Á D->Æ D):Prop:=∀G H ds vs d (Q:VK),zw G H->Þ K G ds vs->F ds=À d->(∀w G' H',zR G H G' H'->za K G' d w->Q w H')->r vs H Q
def uu(y:wu X æc rc)(m:ZE X.K rc FL)(l:Gl X x)(C:î x=Ä)(hv:Ř x=À æc)(n:QP X ė fs)(i:Ê Àb q10)(a:Ê ı q10)(z:Ê Ĭa q12):SE X ſa ŭj:=by obtain⟨t,A,j⟩:=n.h;refine⟨⟨_,(Jk y l C hv ⟨A⟩ i a z).h,λE b q=>?_⟩⟩;obtain⟨B,s,b⟩:=zH b;exact j E s λo k r c f=>m k r B o _ _ Êc f b λw v g u d=>q w v g ūk d
def y6v(y:wu X ļb rc)(m:ZE X.K rc FL)(l:Gl X x)(C:î x=Ä)(hv:Ř x=À ļb)(n:QP X ė fs)(i:Ê Àb q10)(a:Ê ı q10)(z:Ê Ĭa q12):SE X ſa ŭj:=by obtain⟨t,A,j⟩:=n.h;refine⟨⟨_,(ŉm).h,λE b q=>?_⟩⟩;obtain⟨B,s,b⟩:=zH b;exact j E s λo k r c f=>m k r B o _ _ Êc f b λw v g u d=>q w v g ūk d
def NU(y:wu X ļb rc)(m:Ap X.K rc FL)(l:Gl X x)(C:î x=Ä)(hv:Ř x=À ļb)(n:SA X ė fs)(i:Ê Àb q10)(a:Ê ı q10)(z:Ê Ĭa q12):SE X ſa ŭj:=by obtain⟨t,A,j⟩:=n.h;refine⟨⟨_,(ŉm).h,λE b q=>?_⟩⟩;obtain⟨B,s,b⟩:=zH b;exact j E s λo k r c f=>m k r B o _ _ Êc f b λw v g u d=>q w v g ūk d
def M7(g:QR X (ëh op) ru)(k:∀(G H:Hp) x u d (Q:VK),za X.K G x u->F1 x=À d->∃w,(∀G,za X.K G d w)/\(Q w H->ru u H Q))(l:SE X a fa):SE X (.UnaryOp op a pos) (e1 F1 fa):=by
 obtain⟨t,n,j⟩:=l.h;refine⟨⟨_,y33 g n,λE c q=>?_⟩⟩;obtain⟨x,o,c⟩:=zH c;refine j E o λv i m e f=>?_
 obtain⟨w,b,z⟩:=k i m x v _ _ f c;exact z (q w _ _ e (b _))
#print a
section
variable{X:Cx}{x:Str}{p pos ĩa:Pos}{e a b c tg Ŕ:Ñ}{f fa:FE}{ft:FT}{fs:FA}{st:Õ}{sts ŵc:Á Õ}{g g':FS}
def wE:tj X [] xq:=⟨⟨_,fL,λ{_ _ G H τ σ b E} K a q=>by cases a;exact q σ G H K⟩⟩
theorem ÿf{K:Ì}{n:Nat}{e b:Hp}{E c:uF}{a:Fl}(h:u_ K n e b E a)(g:∀τ,a=.nx τ->u_ K n e b c (.nx τ))(k:∀τ,a=.bk τ->u_ K n e b c (.bk τ))(m:∀τ,a=.ct τ->u_ K n e b c (.ct τ))(f:c.rt=E.rt):u_ K n e b c a:=by
 cases a with
 |nx τ=>exact g τ rfl|bk τ=>exact k τ rfl|ct τ=>exact m τ rfl|rt o d=>
  cases o with
  |Â=>intro v G H x r;rw[f];exact h v G H x r|Ã=>intro v G H x j i l;rw[f];exact h v G H x j i l
def zb(b:SS X st g)(j:tj X sts g'):tj X ňr (zZ g g'):=by
 obtain⟨t,p,k⟩:=b.h;obtain⟨u,f,e⟩:=j.h;refine⟨⟨_,fK p f,λ{l r G H τ σ m E} K a q=>?_⟩⟩;obtain⟨i,b,a⟩:=zH a;refine k K b ?_;cases i with
 |nx τ'=>exact λσ' s n c=>e c a q|bk τ'=>cases a;exact q|ct τ'=>cases a;exact q|rt o d=>cases a;exact ÿf q ûa ûa ûa rfl
def ze(a:SS X st g):tj X [st] g:=⟨let ⟨t,p,k⟩:=a.h;⟨t,fM p,k⟩⟩
def lO(i:Nat)(h:tj X sts g):tj X sts (zZ (Jp i) g):=by
 obtain⟨t,p,k⟩:=h.h;refine⟨⟨t,p,λ{f n G H τ σ l E} K b q=>?_⟩⟩;obtain⟨m,a,b⟩:=zH b;unfold Jp at a
 split at a;rename_i j d e;cases a;obtain⟨o,c,_⟩:=K.freeze e;exact k c b q;cases a
def yV(b:ğa)(hi:X.N[i]?=À x)(c:pW éa x)(l:SE X e f)(g:Ê źe q12)(a:Ê ża q7) :SS X Ŗf (yP i f):=by obtain⟨t,p,k⟩:=l.h;refine⟨⟨_,(HG b hi c ⟨p⟩ g a).h,λ{m s G H τ σ n E} K a q=>?_⟩⟩;obtain⟨d,j,a⟩:=zH a;cases a;exact k K j λv u o x r=>q _ _ _ ((ŵ x).set ńb.1 r)
def kj(c:ğa)(hi:X.N[i]?=À x)(g:pW éa x)(n:SF X e f)(l:Ê źe q12)(a:Ê ża q7) :SS X Ŗf (pA i f):=by
 obtain⟨t,p,k⟩:=n.h;refine⟨⟨_,(HG c hi g ⟨p⟩ l a).h,λ{r v G H τ σ s E} K a q=>?_⟩⟩;obtain⟨d,m,a⟩:=zH a;cases a;refine k K m λp w u x b j o=>q _ _ _ ((ŵ x).S3 ńb.1 j (Œp b) o ?_)
 exact K.Rx b
def yI(c:SE X e f):SS X Âg (yF f):=by obtain⟨t,p,k⟩:=c.h;refine⟨⟨_,Lm p,λ{g l G H τ σ i E} K a q=>?_⟩⟩;obtain⟨d,b,a⟩:=zH a;cases a;exact k K b λv m j x r=>q v _ _ Ŭo r
def jH(i:SF X e f):SS X Âg (qc f):=by obtain⟨t,p,k⟩:=i.h;refine⟨⟨_,Lm p,λ{j n G H τ σ l E} K a q=>?_⟩⟩;obtain⟨d,g,a⟩:=zH a;cases a;exact k K g λp r m x c b o=>q p _ _ Ŭo (Œp c) b o
def kZ(i:Nat)(c:Ê ŉe q12)(hv:Ê Źe q13)(f:Ê ı q10)(b:Ê řb q10):SS X (.Return (À ûg) pos) (jD i):=by
 refine⟨⟨_,Lm (Wf c hv f b),λ{j l G H τ σ k E} K a q=>?_⟩⟩;unfold jD at a
 split at a;rename_i d h;cases a;obtain⟨p,e,g,z,o⟩:=K.ow _ _ h;exact⟨_,e,q p _ _ K.ext z g o⟩;cases a
def xm(m:ST X c ft)(l:tj X sa g)(i:tj X sb g'):SS X (.If c sa sb pos) (xR ft g g'):=by
 obtain⟨u,j,p⟩:=m.h;obtain⟨r,f,n⟩:=l.h;obtain⟨w,d,e⟩:=i.h;refine⟨⟨_,fH j f d,λ{s x G H τ σ t E} K a q=>?_⟩⟩;obtain⟨k,o,a⟩:=zH a;refine p K o λv y b=>?_
 cases k with
 |Ã=>exact j9 (n (ŵ b) a q)|Â=>exact j8 (e (ŵ b) a q)
def Wn:tj X sts ĸb:=⟨⟨_,y3y,λ_ a=>by cases a⟩⟩
def lN{ft:FT}(y:ód ü X.A Ô Ĥ)(C:ST X c ft)(u:tj X ŵc g):SS X én (L_ ft g):=by
 obtain⟨J,x,I⟩:=C.h;obtain⟨O,r,s⟩:=u.h;refine⟨⟨_,fJ y x r,λ{i p G H τ σ j E} K a q=>?_⟩⟩;refine⟨λm σ H=>∃τ G,zr X.K ö i p G H τ σ/\pF ft g m τ=À j,⟨gw,τ,G,K,a⟩,?_⟩;rintro m σ H ⟨τ,G,K,a⟩;cases m with
 |äa=>cases a|åa n=>
  obtain⟨k,F,a⟩:=zH (show(ft τ).bind _=_ from a);refine I K F λL P f=>?_
  cases k with
  |Â=>cases a;exact j8 (q _ _ _ (ŵ f))|Ã=>
   obtain⟨v,t,a⟩:=zH (show(g τ).bind _=_ from a);refine j9 ⟨λσ' l=>∃τ G,zr X.K ö i p G l τ σ'/\pF ft g n τ=À j,λσ' l z=>⟨n,Øc n,z⟩,s (ŵ f) t ?_⟩;cases v with
   |nx τ2=>exact λσ2 e B b=>⟨τ2,e,b,a⟩|ct τ2=>exact λσ2 e B b=>⟨τ2,e,b,a⟩|bk τ2=>cases a;exact q|rt o d=>cases a;exact ÿf q ûa ûa ûa rfl
theorem Œk{K:Ì}{n:Nat}{c a e f:Hp}{E:uF}{b:Fl}(x:zR c a e f)(h:u_ K n c a E b):u_ K n e a E b:=by
 cases b with
 |nx τ=>exact λσ G H z=>h σ G H æj|bk τ=>exact λσ G H z=>h σ G H æj|ct τ=>exact λσ G H z=>h σ G H æj|rt o d=>
  cases o with
  |Â=>exact λv G H y r=>h v G H ūp r|Ã=>exact λp G H y g i j=>h p G H ūp g i j
structure SG(X:Cx)(tg:Ñ)(fg:FG):Prop where
 h:∃t,PG X tg t/\∀{G0 H0 G H:Hp}{τ τ':yE}{σ:St}{d:D}{v:V}{Q:St->Hp->Prop},zr X.K ö G0 H0 G H τ σ->za X.K G d v->fg d τ=À τ'->(∀σ',zr X.K ö G0 H0 G H τ' σ'->Q σ' H)->t v σ H Q
def Uo(h:QG X ýa ċc)(hi:X.N[i]?=À x):SG X ýa (yA i):=⟨⟨_,h.h,λK r a q=>by cases a;exact q _ (K.set ńb.1 r)⟩⟩
def M9(h:QG X Ŝn ŉf)(hi:X.N[i]?=À x)(l:X.N[j]?=À y):SG X Ŝn (uO i j):=⟨⟨_,h.h,λ{p s G H τ τ' σ d v Q} K r b q=>by
 unfold uO at b
 split at b;rename_i u t;cases b;obtain⟨a,w,rfl,m,⟨f,o,rfl,e,⟨c,g,rfl,k,n⟩⟩,_⟩:=r;cases(show g=[]from n);refine⟨a,_,rfl,vz ña m,rfl,f,_,rfl,c,_,rfl,rfl,?_⟩;exact q _ ((K.set ńb.1 e).set (Ŗ l).1 k);cases b⟩⟩
def Zm{c:FG}(R:ód ü X.A Ô Ĥ)(hc:ų=Ã)(hi:SI X tg Ŕ fs)(hg:SG X tg c)(L:tj X ŵc g)(hs:Ê (∀x,Īb Ŕ Ô x=pure x) q11):SS X Öi (p9 fs c g):=by
 obtain⟨ti,Z,U⟩:=đc;obtain⟨Y,pg,O⟩:=hg.h;obtain⟨tb,v,B⟩:=L.h;refine⟨⟨_,Gq R hc Z pg v hs,λ{G0 u G H τ σ r E} K a q=>?_⟩⟩;obtain⟨b,hd,a⟩:=zH a;refine U K hd λJ p Ha Q _ j=>?_
 have s:=ŵ Q;have k:=Œk s.ext q;refine⟨λi m σ H=>m=Ű-i/\i<=Ű/\∃τ G,zr X.K ö p u G H τ σ/\ZY c g Ţk τ=À r,⟨Ű,rfl,ęa _,τ,p,s.zC,a⟩,?_⟩;rintro i m σ H ⟨rfl,hle,τ,G,K,a⟩;by_cases hlt:i<Ű;refine .inr ⟨j.go i G H Ăc ña hlt,λσ' f=>∃τ G,zr X.K ö p u G f τ σ'/\ZY c g çk τ=À r,λσ' f z=>⟨Ű-ê,Ãg _ _ hlt,rfl,hlt,z⟩,λx f y=>?_⟩;obtain⟨G3,d,I,t,C⟩:=j.ua i G H x f Ăc ña hlt y;rw[Öc hlt]at a;rw[Ĕ hlt]at t;cases t;obtain⟨τ1,F,a⟩:=zH (show(c _ τ).bind _=_ from a);obtain⟨P,T,a⟩:=zH a;refine O (ŵ I) C F λσ1 W=>B W T ?_
 cases P with
 |nx τ2=>exact λσ2 n S l=>⟨τ2,n,l,a⟩|ct τ2=>exact λσ2 n S l=>⟨τ2,n,l,a⟩|bk τ2=>cases a;exact k|rt o d=>cases a;exact ÿf k ûa ûa ûa rfl
 have e:ĵg i=[]:=Åd ği;rw[e]at a;cases a;exact .inl ⟨j.stop i G H Ăc ña Å,k _ _ _ K⟩
def z4e{K:Ì}{G:Hp}{lo:Int}{n:Nat}:jX K Ŗr G ((Ţc).map λk:Nat=>ĉ Ãc) where
 go:=λi b H _ _ a=>by show i<n;simpa using a
 ua:=λi b H x d _ c a y=>by obtain⟨rfl,rfl⟩:=y;exact⟨b,.int åb,Ŀa c,by simp at a;simp[a],rfl⟩
 Ś:=λi b H _ _ a=>by show n<=i;simpa using a
def gZ(m:Gl X Àc)(l:î Àc=Ä)(s:SE X a fa)(d:Ê Ãe q12):SI X tg Ŀn (uo ī fa):=by
 obtain⟨t,w,k⟩:=(zB s zL d).h;refine⟨⟨_,y3f m l w (tS d),λ{z B G H τ σ ds R} K b q=>?_⟩⟩;obtain⟨x,g,b⟩:=zH b;cases g;obtain⟨y,o,b⟩:=zH b;refine k K (ds:=[y]) (by unfold zA;rw[o];rfl) λF A I f i=>?_
 cases y<;>first|cases b|skip
 rename_i j;obtain⟨v,r,rfl,u,n⟩:=i;cases(show r=[]from n);cases(show v=.int j from u)
 change (if(0:Int).natAbs<=yY/\ſg<=yY/\(j-0).toNat<=yY then _ else _)=_ at b
 by_cases c:(0:Int).natAbs<=yY/\ſg<=yY/\(j-0).toNat<=yY;rw[Î c]at b;cases b;have C:ſg<=16777216:=c.2.1;have E:(j-0).toNat<=16777216:=c.2.2;refine⟨j,rfl,by omega,by omega,q _ _ _ f ?_ ?_⟩;rw[ç,üb,ť];omega;have e:(j-0).toNat=þd:=by omega
 rw[e];exact z4e;rw[Ð c]at b;cases b
def z5w{K:Ì}{G:Hp}{a:È}{vs:Á V}{ds:Á D}(g:yd K G a vs)(r:Þ K G ds vs):jX K Ŀk G ds where
 go:=λi h H c b f=>by obtain⟨v,e,_⟩:=ĝb (Ĕ f);exact⟨vs,v,u8 śc g,e⟩
 ua:=λi h H x l c b f y=>by obtain⟨rfl,y⟩:=y;have e:=y vs ũq;obtain⟨d,k,j⟩:=r.at e;exact⟨h,d,Ŀa b,k,Ól c⟩
 Ś:=λi h H c b f=>⟨vs,u8 śc g,by rw[áa];exact f⟩
def x2k{K:Ì}{G:Hp}{a:È}{vs:Á V}{ds:Á D}(g:y_ K G a vs)(r:Þ K G ds vs):jX K ľk G ds where
 go:=λi h H c b f=>by obtain⟨v,e,_⟩:=ĝb (Ĕ f);exact⟨vs,v,vz śc g,e⟩
 ua:=λi h H x l c b f y=>by obtain⟨rfl,y⟩:=y;have e:=y vs (vz śc g);obtain⟨d,k,j⟩:=r.at e;exact⟨h,d,Ŀa b,k,Ól c⟩
 Ś:=λi h H c b f=>⟨vs,vz śc g,by rw[áa];exact f⟩
def y8a{K:Ì}{G:Hp}{z:Str}:jX K Įh G (Ďo λc=>þe ⟨#[c]⟩) where
 go:=λi b H _ _ a=>by rw[ç,ŭ]at a;exact a
 ua:=λi b H x f _ e a y=>by obtain⟨rfl,c,d,rfl⟩:=y;refine⟨b,.str ⟨#[c]⟩,Ŀa e,?_,rfl,œb (n:=1) É⟩;rw[Ŧ,öb,d];rfl
 Ś:=λi b H _ _ a=>by rw[ç,ŭ]at a;exact a
def PI.or(b:PI X tg e w1)(c:PI X tg e w2):PI X tg e (λσ H R=>w1 σ H R\/w2 σ H R):=λa s σ H R I q=>by rcases q with q|q;exact b a s σ H R I q;exact c a s σ H R I q
def tQ(h:SE X e f):SI X tg e (uq f):=by
 obtain⟨t,p,k⟩:=h.h;refine⟨⟨_,PI.or (y3e p) (PI.or (y3h p) (y3g p)),λ{o s G H τ σ u R} K j q=>?_⟩⟩;obtain⟨d,i,j⟩:=zH j;cases d<;>first|cases j|skip
 rename_i z;refine .inr (.inr ìi);obtain⟨rfl,l⟩:=r;exact⟨z,rfl,q _ _ _ x (by rw[ç,ŭ];exact l) y8a⟩;refine .inr (.inl ìi);obtain⟨a,g,rfl,b,c,l⟩:=r;exact⟨a,rfl,⟨g,vz Ÿa b⟩,q _ _ _ x l (x2k b c)⟩;refine .inl ìi;obtain⟨a,g,rfl,b,c,l⟩:=r;exact⟨a,rfl,⟨g,u8 Ÿa b⟩,q _ _ _ x l (z5w b c)⟩
#print a
noncomputable def Nv(K:Ì)(n:Nat)(f:FE):TE:=λσ H Q=>∃G0 H0 G τ d,zr K n G0 H0 G H τ σ/\f τ=À d/\∀v G' H',zR G H G' H'->za K G' d v->Q v H'
noncomputable def Ma(K:Ì)(n:Nat)(f:FT):TT:=λσ H Q=>∃G0 H0 G τ d,zr K n G0 H0 G H τ σ/\f τ=À d/\∀G' H',zR G H G' H'->Q d H'
structure YU(X:Cx)(es:Á Ñ)(f:FT):Prop where
 h:Xs X es (Ma X.K ö f)
section
variable{X:Cx}{e c:Ñ}{f:FE}{ft:FT}
def SE.pe(h:SE X e f):PE X e (Nv X.K ö f):=λa s σ H Q I q=>by obtain⟨t,p,k⟩:=h.h;obtain⟨c,g,G,τ,d,K,b,z⟩:=q;exact p a s σ H Q I ōr
def ST.pt(h:ST X e ft):PT X e (Ma X.K ö ft):=λa s σ H Q I q=>by obtain⟨t,p,k⟩:=h.h;obtain⟨c,f,G,τ,d,K,b,z⟩:=q;exact p a s σ H Q I ōr
def uw:YU X [] yf:=⟨λa s σ H Q I q=>by obtain⟨e,c,G,τ,d,K,b,z⟩:=q;cases b;exact y40 a s σ H Q I (z _ _ ţg)⟩
def Zp(h:ST X c ft):YU X [c] ft:=⟨y41 h.pt⟩
#print a
def zr.more{K:Ì}{n:Nat}{m o G H:Hp}{τ:yE}{σ:St}(k:Nat)(E:zr K n m o G H τ σ):zr K āe m o G H Ýd ég:=by
 have a:∀{i:Nat}{s:Sl},Ýd[i]?=À (À s)->τ[i]?=À (À s)/\ég[i]?=σ[i]?:=λ{i s} h=>by have b:=Oy h;have t:i<n:=E.lt b;exact⟨b,ģb (by rw[Ŝ];exact t)⟩
 refine⟨Ųc,by rw[í,ğc,Ŝ],by rw[í,ğc,ō],λi d h=>?_,λi d h=>?_,λi j d e p g r u q l=>?_⟩;obtain⟨b,e⟩:=a h;rw[e];exact ġb i d b;obtain⟨b,e⟩:=a h;rw[e];exact Ťa i d b;obtain⟨c,e1⟩:=a r;obtain⟨f,e2⟩:=a u;rw[e1]at q;rw[e2]at l;exact ób i j d e p g c f q l
def JM{K:Ċj}{n k:Nat}{t B b j:Hp}{τ:yE}{σ:St}{J:It}{ds out:Á D}{g:TG}{l:FG}{r:FT}{f:FE}{p:Á V->Hp->Prop}(C:jX K J b ds)(hl:ď<=á)(F:zr K n t B b j τ σ)(a:ye l r f Ýd ds=À out)(R:∀G H d v τ' (Q:St->Hp->Prop),zr K āe t B G H Ýd ég->za K G d v->l d Ýd=À τ'->(∀ρ,zr K āe t B G H τ' Îh->Q Îh H)->g v ég H Q)(w:∀ys G H,zR b j G H->Þ K G out ys->out.length<=á->p ys H) :∃W:Nat->Nat->Á V->Hp->Prop,(∃m,W 0 m [] j)/\LS σ k J g (Ma K āe r) (Nv K āe f) W p:=by
 refine⟨λi m ys H=>m=ď-i/\i<=ď/\Óa<=i/\∃G done ĵ,zR b j G H/\Þ K G done ys/\ye l r f Ýd (óh i)=À ĵ/\done++ĵ=out,⟨ď,rfl,ęa _,êa _,b,[],out,Ŀa F.ext.gh,rfl,a,rfl⟩,?_⟩;rintro i m ys H ⟨rfl,hle,A,G,done,ĵ,x,q,a,s⟩;by_cases hlt:i<ď
 .refine .inr ⟨C.go i G H x.g Ÿa hlt,by omega,λys H=>Óa<=i+1/\∃G done ĵ,zR b j G H/\Þ K G done ys/\ye l r f Ýd (óh ê)=À ĵ/\done++ĵ=out,λys' E z=>⟨ď-ê,Ãg _ _ hlt,rfl,hlt,z.1,z.2⟩,λv E y=>?_⟩;obtain⟨S,d,c,I,rv⟩:=C.ua i G H v E x.g Ÿa hlt y;rw[Öc hlt]at a;rw[Ĕ hlt]at I;cases I;obtain⟨τ1,P,a⟩:=zH (show(l _ _).bind _=_ from a);obtain⟨O,U,a⟩:=zH a;have Y:=((F.go x).go c).more k;refine R S E _ v τ1 _ Y rv P λρ N=>⟨⟨ρ,rfl⟩,_,_,_,_,O,N,U,λX H5 o=>?_⟩
  cases O with
  |Â=>exact j8 ⟨by omega,X,done,ĵ,þf (ąb o),Íl (ûr o.g),a,s⟩|Ã=>obtain⟨z,hz,a⟩:=zH (show(f _).bind _=_ from a);obtain⟨h,hm,a⟩:=zH a;cases a;refine j9 ⟨_,_,_,_,z,N.go o,hz,λu T H6 L Z=>⟨by rw[í];exact ĥc A,T,done++[z],h,þf (ąb (o.trans L)),(Íl (ûr (o.g.trans L.g))).append (Êh Z),hm,?_⟩⟩;rw[ŗ];exact s
 have e:óh i=[]:=Åd ği;rw[e]at a;cases a;rw[ż]at s;subst s;refine .inl ⟨C.stop i G H x.g Ÿa Å,w ys G H x q ?_⟩;rw[<-q.length];omega
section
variable{X:Cx}{tg Ŕ elt:Ñ}{ifs:Á Ñ}{ļ:õa}{cl:Á Ðb}{own:Á Str}{pos:Pos}{fs:FA}{fg:FG}{ft:FT}{f:FE}{g:TG}
def NW(xs:Á α)(y:α)(a:Á α)(h:n=à)(z:α):(xs++y::a).set n z=xs++z::a:=by subst h;rw[Ÿf _ _ Ċ,éc];rfl
structure BG(X:Cx)(ļ:õa)(cl:Á Ðb)(own:Á Str)(tg:Ñ)(g:TG)(fg:FG):Prop where
 q:∀C s H fp pn,QG Ña tg g
 k:∀{G0 H0:Hp}{τ:yE}{σ:St},τ.length=ö->σ.length=ö->∀G H d v τ' (Q:St->Hp->Prop),zr X.K ťg G0 H0 G H òo Śd->za X.K G d v->fg d òo=À τ'->
  (∀ρ,zr X.K ťg G0 H0 G H τ' Îh->Q Îh H)->g v Śd H Q
def vR(q:∀C s H fp pn,QG (wV X ļ cl [x] C s H fp pn) tg ċc)(hi:i=ö):BG X ļ cl [x] tg ċc (yA i):=⟨q,λ{h f τ σ} g c G H d v τ' Q E r e k=>by cases e;have b:=E.set (i:=i) (v:=v) (by rw[hi];exact Øc _) r;have a:(Ŕo).set i ìa=σ++[À v]:=NW σ Ä [] (hi.trans Ćf) ìa;show Q ((Ŕo).set i ìa) H;rw[a];refine k [À v] ?_;rw[<-a];exact b⟩
def Fp(q:∀C s H fp pn,QG (wV X ļ cl ųc C s H fp pn) tg ŉf)(hi:i=ö)(h:j=ö+1):BG X ļ cl ųc tg ŉf (uO i j):=⟨q,λ{u A τ σ} w g G H d v τ' Q E r e k=>by
 unfold uO at e
 split at e;rename_i F B;cases e;obtain⟨a,I,rfl,p,⟨b,z,rfl,l,⟨c,m,rfl,o,t⟩⟩,_⟩:=r;cases(show m=[]from t);have n:=(E.set (i:=i) (v:=b) (by rw[hi];exact Nat.lt_add_of_pos_right (ōp _)) l).set (i:=j) (v:=c) (by rw[h];exact Øc _) o
 have f:(Đm).set j Ŷk=σ++[À b,À c]:=by
  have e1:(σ++Ŷ 2 Ä).set i (À b)=σ++[À b,Ä]:=NW σ Ä [Ä] (hi.trans g.symm) (À b);rw[e1];have e2:σ++[À b,Ä]=Ġp++[Ä]:=by simp
  rw[e2,NW Ġp Ä [] (by rw[í,h,g];rfl) Ŷk];simp
 refine⟨a,_,rfl,vz Ìb p,rfl,b,_,rfl,c,_,rfl,rfl,?_⟩;show Q ((Đm).set j Ŷk) H;rw[f];refine k [À b,À c] ?_;rw[<-f];exact n;cases e⟩
def aY(X:Cx)(own:Á Str):(w8 X.N own).length=ö+ŝb:=by unfold w8;rw[í,ç]
theorem Qd(h:SE Ña elt f):PE Ña elt (Nv X.K ťg f):=by have q:=h.pe;rw[show(Ña).N.length=ö+ŝb from aY X own]at q;exact q
def Qe(h:YU Ña ifs ft):Xs Ña ifs (Ma X.K ťg ft):=by have q:=h.h;rw[show(Ña).N.length=ö+ŝb from aY X own]at q;exact q
def vy(a:ų=Ã)(B:ZA X ļ cl own)(hi:SI X tg Ŕ fs)(j:BG X ļ cl own tg g fg)(E:∀C s H fp pn,YU Ña ifs ft)(o:∀C s H fp pn,SE Ña elt f)(A:Ê (∀x,Īb Ŕ Ô x=pure x) q11) :SF X Ża Ĭe:=by
 obtain⟨P,w,r⟩:=đc;refine⟨⟨_,eV a B w (Γb (j.q C s H fp pn)) (Χa (E C s H fp pn)) (Βb (o C s H fp pn)) A,λ{F N G H τ σ d Q} K b q=>?_⟩⟩;obtain⟨O,z,b⟩:=zH b;obtain⟨n,m,b⟩:=zH b;cases b;refine r K z λJ S L e l t=>JM t l (ŵ e) m (j.k K.l2 K.l1) λy I R c v u p i=>?_
 exact q p _ _ (Żb (ąb (èb Êc i))) (Ãh (Äh i)) (Ŗg i) ⟨y,yb,v,u⟩
def y83(b:ų=Ã)(w:ğa)(c:X.N[i]?=À x)(y:Ļd x=À .local)(B:ZA X ļ cl own)(n:űb Ża Ÿn âr Ô=pure Ã)(hi:SI X tg Ŕ fs)(u:BG X ļ cl own tg g fg)(U:∀C s H fp pn,YU Ña ifs ft)(F:∀C s H fp pn,SE Ña elt f)(T:Ê (∀x,Īb Ŕ Ô x=pure x) q11) :SS X ďm (pA i Ĭe):=by
 obtain⟨ti,Q,I⟩:=đc;refine⟨⟨_,Gu b w c y B n Q (Γb (u.q C s H fp pn)) (Χa (U C s H fp pn)) (Βb (F C s H fp pn)) T,λ{W H0 G H τ σ Y E} K r q=>?_⟩⟩;obtain⟨d,a,r⟩:=zH r;cases r;obtain⟨ds,R,a⟩:=zH a;obtain⟨A,z,a⟩:=zH a;cases a;refine I K R λJ Ga Ha t l L=>JM L l (ŵ t) z (u.k K.l2 K.l1) λv Z H1 j P O p e=>?_
 have m:=(ŵ t).go j;have S:=m.go (èb (o:=.lst v) j.gh e);exact q _ _ _ (S.S3 (Ŗ c).1 (j.gh.free e) (m.ext.h.free e) ⟨v,yb,P,O⟩ (m.Rx e))
def Nq(b:ų=Ã)(v:ğa)(c:X.N[i]?=À x)(w:Ļd x=À .local)(B:ZA X ļ cl own)(j:űb Ża Ÿn âr Ô=pure Ã)(hi:SI X tg Ŕ fs)(t:BG X ļ cl own tg g fg)(T:∀C s H fp pn,YU Ña ifs ft)(A:∀C s H fp pn,SE Ña elt f)(S:Ê (∀x,Īb Ŕ Ô x=pure x) q11) :SS X ďm (yP i Ĭe):=by
 obtain⟨ti,P,F⟩:=đc;refine⟨⟨_,Gu b v c w B j P (λC s H fp pn=>(t.q C s H fp pn).h) (Χa (T C s H fp pn)) (Βb (A C s H fp pn)) S,λ{U H0 G H τ σ W E} K m q=>?_⟩⟩;obtain⟨d,a,m⟩:=zH m;cases m;obtain⟨ds,Q,a⟩:=zH a;obtain⟨z,y,a⟩:=zH a;cases a;refine F K Q λJ Ga Z n l I=>JM I l (ŵ n) y (t.k K.l2 K.l1) λu Y H1 e O L p r=>?_
 have R:=((ŵ n).go e).go (Ŋb (o:=.lst u) Èc r);exact q _ _ _ (R.set (Ŗ c).1 ⟨p,u,rfl,Œb yb,O.mono (vL (Ŝe r) _),L⟩)
#print a
section
variable{K:Ì}{n:Nat}{G0 H0 G H:Hp}{τ:yE}{σ:St}
def zr.Te(E:zr K n G0 H0 G H τ σ)(hi:τ[i]?=À ıc)(x:σ[i]?=À Ğj)(A:wv K G íd d' p):zr K n G0 H0 G íd Şm σ:=by
 obtain⟨S,e,g,z,_⟩:=Ťa i d hi;rw[x]at e;cases e
 have l:∀{m:Hp},m p=Ä->zw m H->zw m íd:=λ{m} h s b u q=>by rw[yB (qV q h)];exact s _ _ q
 refine⟨⟨E.ext.g,l z ùh,l g Ìb,àk⟩,Ŝ,by rw[Ņa];exact ō,λj e h=>?_,λj e h=>?_,λj k e f q a I N O P=>?_⟩;rcases vo h with⟨rfl,w⟩|⟨F,w⟩;cases w;exact ġb j e w;rcases vo h with⟨rfl,w⟩|⟨F,w⟩;cases w;exact⟨p,x,g,z,A⟩;obtain⟨q,C,J,R,v⟩:=Ťa j e w;refine⟨q,C,J,R,?_⟩
 have a:q≠p:=λc=>by subst c;exact ób i j d e q (λc=>F Ćf) hi w x C
 cases e with
 |lst ds=>obtain⟨B,y,r⟩:=v;exact⟨B,by rw[yB a];exact y,r⟩
 |dic ks ds=>obtain⟨B,y,r⟩:=v;exact⟨B,by rw[yB a];exact y,r⟩
 |_=>exact v.elim
 have t:∀{j:Nat}{e:D},Şm[j]?=À Ŗe->∃e,τ[j]?=À Ŗe:=λ{j e} h=>by rcases vo h with⟨rfl,_⟩|⟨_,w⟩;exact⟨_,hi⟩;exact⟨_,w⟩
 obtain⟨e1,Q⟩:=t I;obtain⟨e2,L⟩:=t N;exact ób j k e1 e2 q a Q L O P
#print a
section
variable{X:Cx}{x:Str}{xp pos Ĕa Úa:Pos}{e:Ñ}{f:FE}
def Us(J:QE X ĭa øe)(L:SE X e f)(m:Ê (ħb ĭa "append" Ô åj=č ĭa Ô) q12)(n:Ê Òc q12)(C:Ê ĝa q12) :SS X (Θe (.Attribute ĭa "append" Ĕa)) (Zi i kE f):=by
 obtain⟨t,p,k⟩:=(zB L zL C).h;refine⟨⟨_,(h8 (HE Àn PySem.F.slot_list_append PySem.F.type_list_append z6p J ⟨p⟩ m n (by rw[ž,C];rfl) Ći) rfl).h,λ{S Y G H τ σ T E} K j q=>?_⟩⟩;unfold Zi at j
 split at j;rename_i d I;obtain⟨y,Q,j⟩:=zH j;obtain⟨O,b,j⟩:=zH j;cases j;obtain⟨a,B,g,z,o⟩:=K.ow _ _ I;cases d with
 |lst ds=>
  obtain⟨v,A,w,l⟩:=o;refine⟨_,B,.inl ⟨rfl,v,Œb A⟩,k K (ds:=[y]) (by unfold zA;rw[Q];rfl) λU W Z s N=>?_⟩;obtain⟨u,r,rfl,R,P⟩:=N;cases(show r=[]from P)
  change (if ď<yY then À (Æc (ds++[y]))else Ä)=À O at b
  by_cases c:ď<yY;rw[Î c]at b;cases b;refine⟨a,v,u,rfl,rfl,s.h _ _ A,by rw[w.length,ť];exact c,?_⟩;refine q _ _ _ ((ŵ s).Te I B ⟨v++[u],yb,(w.mono s.g).append (Êh R),?_⟩);rw[í,ť];exact c;rw[Ð c]at b;cases b
 |_=>cases b
 cases j
#print a
section
variable{P:æ}{w:ß}{K:Ì}{mg:Str->Æ Value}{Ç:Heap}
def LY{α β:Type}{ds:Á α}{k i:Nat}{h:α->Æ β}{y:β}(e:(òh h++Ŷ k Ä)[i]?=À (À y)):∃d,ds[i]?=À d/\h d=À y:=by
 have a:=Oy e;rw[Ŧ]at a;cases q:ds[i]? with
 |Ä=>rw[q]at a;cases a|À d=>rw[q]at a;exact⟨d,rfl,ła a⟩
def bT{N:Á Str}{G H:Hp}{ds:Á D}{vs:Á V}(s:zw G H)(r:Þ K G ds vs)(g:ď<=ſ):zr K ſ G H G H (Αe (ſ-ď)) Ŧj:=by have l:=áa;refine⟨Ŀa s,?_,?_,λi d h=>?_,λi d h=>?_,λi j d e p _ c=>?_⟩;unfold Űe;rw[í,ç,ğc];omega;rw[í,ç,ğc];omega;obtain⟨a,e,z⟩:=LY h;cases z;obtain⟨v,b,f⟩:=ĝb e;refine⟨v,?_,f⟩;unfold Űe;rw[ģb (by rw[ç];exact(Ŗ b).1),Ŧ,b];rfl;obtain⟨a,e,z⟩:=LY h;cases z;obtain⟨a,e,z⟩:=LY c;cases z
def Def.oJ{x:Str}{st:Õ}{N ps:Á Str}{k:Nat}{F:Á D->Æ ä}{b:FS}(d:Def K mg x st ps)(S:zk N ps ń)(J:ă<=ſ)(i:∀ds r,F ds=À r->ď=ă/\yH ſ b ds=À r)(m:∀(f:È)(c:Value)(A:ó)(ÿ:Á Env)(s:Ë)(H:Hp)(E:XK),yo k Ûi->tj (tJ xC P w K mg Ç N x ń f c A ÿ s H E).tW ía b):vJ P w K mg Ç x ps Œ èf:=by
 refine d.ok S (λC H Q E h=>?_) λf c A ÿ s H C Q E B h=>?_;obtain⟨G,ds,o,j,_,r,e,_⟩:=h;rw[áa,(i _ _ e).1];obtain⟨G,ds,o,j,v,r,e,q⟩:=h;obtain⟨l,a⟩:=i _ _ e;obtain⟨t,p,y⟩:=(m f c A ÿ s H E B).h;obtain⟨n,g,a⟩:=zH a;refine⟨t,p,y (bT (N:=N) v r Å) g ?_⟩;cases n with
 |nx τ=>cases a;exact λσ I u z=>q .zE I u z.ext rfl|rt o' d'=>
  cases a;cases o with
  |Â=>exact q|Ã=>exact q
 |_=>cases a
#print a
section
variable{X:Cx}{K:Ì}
def WX(h:∀i j,Cb i j=Ã->C i j):ue K ãn (fI Cb g):=λG H x y u v d Q s b e a q=>by
 cases x<;>first|(cases a;done)|skip
 cases y<;>first|(cases a;done)|skip
 rename_i i j
 change (match Cb i j with|Ã=>À (ĉ Ôb)|Â=>Ä)=À d at a
 cases c:Cb i j with
 |Â=>rw[c]at a;cases a|Ã=>rw[c]at a;cases a;exact⟨i,j,b,e,h i j c,q _ _ _ Øa rfl⟩
def UX:ue K ğr (py g):=λG H x y u v d Q s b c a q=>by
 cases x<;>first|(cases a;done)|skip
 cases y<;>first|(cases a;done)|skip
 cases a;exact⟨_,_,b,c,q _ _ _ Øa rfl⟩
def Yt:ue K ĉq gJ:=λG H x y u v d Q s b c a q=>by
 cases x<;>first|(cases a;done)|skip
 cases y<;>first|(cases a;done)|skip
 cases a;exact⟨_,_,b,c,q _ _ _ Øa rfl⟩
def dF(h:qT i=Ã) : -ßh<i/\i<2 ^ 64:=by unfold qT at h;rw[Ē]at h;exact⟨Ŋ h.1,Ŋ h.2⟩
def jB:ue K Üi qP:=WX λ_ _ h=>.inl (dF h)
def Lg:ue K Üi UC:=WX λ_ _ h=>.inr (dF h)
def xW:ue K Ųm xP:=WX λ_ _ h=>Ŋ h
def JU:ue K ím ZK:=WX λ_ _ h=>by rw[Ē]at h;exact⟨Ŋ h.1,Ŋ h.2⟩
def y3t(h:p6 i j=Ã):Bg i j:=by unfold p6 at h;rw[Ē,Ē]at h;exact⟨Ŋ h.1,Ŋ h.2.1,Ŋ h.2.2⟩
def Zc:ue K ĉm uj:=WX λ_ _ h=>y3t h
def eE:ue K Ăm Qq:=WX λ_ _ h=>Ŋ h
def tN:gA K ōn (ui g):=λH x y u v d Q b c a=>by
 cases x<;>first|(cases a;done)|skip
 cases y<;>first|(cases a;done)|skip
 cases a;exact⟨_,rfl,λq=>⟨_,_,b,c,q⟩⟩
def cV(r:za K H x u):UL x=decide (u=.zE):=by
 cases x with
 |zE=>cases r;rfl|bl b=>cases r;rfl|int b=>cases r;rfl|str b=>obtain⟨rfl,_⟩:=r;rfl
 |tup b=>obtain⟨a,d,rfl,_⟩:=r;rfl
 |lst b=>obtain⟨a,d,rfl,_⟩:=r;rfl
 |dic b c=>obtain⟨a,d,rfl,_⟩:=r;rfl
 |exc b=>obtain⟨a,C,rfl,_⟩:=r;rfl
 |obj b c e=>obtain⟨a,C,f,d,rfl,_⟩:=r;rfl
def WZ:gA K Ņn ZM:=λH x y u v d Q b c a=>by
 cases y<;>first|(cases a;done)|skip
 have e:=cV b;refine⟨UL x,(ła a).symm,λq=>⟨c,?_⟩⟩;rw[<-e];exact q
def Lh:gA K ģm UD:=λH x y u v d Q b c a=>by
 cases y<;>first|(cases a;done)|skip
 have e:=cV b;refine⟨!UL x,(ła a).symm,λq=>⟨c,?_⟩⟩;rw[<-e];exact q
def P6:∀(G H:Hp) x u d (Q:VK),za K G x u->Qp x=À d->∃w,(∀G,za K G d w)/\(Λd (-i)):=λG H x u d Q r a=>by
 cases x<;>first|(cases a;done)|skip
 cases a;exact⟨_,λ_=>rfl,λq=>⟨_,r,q⟩⟩
def x47:∀(G H:Hp) x u d (Q:VK),za K G x u->CK x=À d->∃w,(∀G,za K G d w)/\(Λd Ūk):=λG H x u d Q r a=>by
 cases x<;>first|(cases a;done)|skip
 cases a;exact⟨_,λ_=>rfl,λq=>⟨_,r,q⟩⟩
def hJ(K:Ì):R2:=λx y H Q=>∃l b xs zs,x=.ref l/\y=.ref b/\yd K H l xs/\yd K H b zs/\à+Îk<=á/\∀p,H p=Ä->Q Éa (γ Ūm)
def y1y:yj X Âe (hJ X.K):=by
 intro P s σ H x y v u Q I G E h;obtain⟨l,b,T,R,rfl,rfl,r,t,p,q⟩:=h;cases G;cases E;obtain⟨c,o,w,_⟩:=Âa r;obtain⟨a,n,N,_⟩:=Âa t;obtain⟨⟨U,B,S,k⟩,J,j,f,A,g⟩:=w;obtain⟨⟨W,L,O,m⟩,C,d,e,z,i⟩:=N;simp only at f g e i;subst f g e i
 refine Ćj ⟨_,j,rfl⟩ ⟨_,d,rfl⟩ ľo seq_list_add PySem.F.slot_list_add PySem.F.entry_list_add (PySem.F.args_list_add_2 _ _)
  (list_addW l b ŕg ĺb J C B L k m (by rw[ğ,ğ,<-Őc,<-ăd];exact p)) ⟨j,d,?_⟩
 rw[show ŕg++ĺb=(c++a).toArray by simp];exact⟨.ref _,_,I.Rw (t':=Č) (o.append n) (by rw[í];exact p),rfl,q _ Ąf⟩
def h9(K:Ì):R2:=λx y H Q=>qb (λi j=>.int (i+j)) x y H Q\/(∃i k,x=.int i/\y=.bl k/\Q Őo H)\/(∃i j,x=.str i/\y=.str j/\Ĳa+Œa<=á/\Q Ľp H)\/hJ K x y H Q\/hU K x y H Q
def xB:yj X Âe (h9 X.K):=y1v.or (y1w.or (y1x.or (y1y.or y1z)))
def xA:ue K (h9 K) yW:=λG H x y u v d Q s A w f q=>by
 cases x<;>first|(cases f;done)|skip
 all_goals (cases y<;>first|(cases f;done)|skip)
 rename_i i b;cases A;cases w;cases f;refine .inr (.inl ⟨i,b,rfl,rfl,?_⟩);have e:i+b2i b=i+ěc:=by cases b<;>rfl
 rw[e];exact q _ _ _ Øa rfl;cases f;exact .inl ⟨_,_,A,w,q _ _ _ Øa rfl⟩;rename_i i j;obtain⟨rfl,I⟩:=A;obtain⟨rfl,F⟩:=w
 change (if Ĳa+Œa<=yY then _ else _)=_ at f
 by_cases c:Ĳa+Œa<=yY;rw[Î c]at f;cases f;have m:Ĳa+Œa<=á:=by rw[ť];exact c
 exact .inr (.inr (.inl ⟨i,j,rfl,rfl,m,q _ _ _ Øa ⟨rfl,by rw[ōd];exact m⟩⟩));rw[Ð c]at f;cases f;rename_i g h;obtain⟨a,n,rfl,B,k,_⟩:=A;obtain⟨b,r,rfl,C,o,_⟩:=w
 change (if õr=Â/\Ďa+Ñe<=yY then _ else _)=_ at f
 by_cases c0:õr=Â/\Ďa+Ñe<=yY;rw[Î c0]at f;have c:=c0.2;cases f;have m:(g++h).length<=á:=by rw[ť,í];exact c
 have E:n≠[]:=λe=>by
  have l:=Ġk;rw[e]at l;cases g with
  |nil=>cases c0.1|đ=>cases l
 refine .inr (.inr (.inr (.inr ⟨a,b,n,r,rfl,rfl,vz s B,vz s C,E,by rw[Ġk,Őc,ť];exact c,λe=>?_,λe p t=>?_⟩)));subst e
 have e2:h=[]:=by
  cases h with
  |nil=>rfl|đ=>obtain⟨_,_,z,_⟩:=o;cases z
 subst e2;exact q _ _ _ Øa ⟨a,n,rfl,B,by rw[ż];exact k,m⟩;exact q _ _ _ ĝr ⟨p,n++r,rfl,ďc yb,(Ÿp).mono üo,m⟩;rw[Ð c0]at f;cases f;rename_i g h;obtain⟨a,n,rfl,B,k,_⟩:=A;obtain⟨b,r,rfl,C,o,_⟩:=w
 change (if Ďa+Ñe<=yY then _ else _)=_ at f
 by_cases c:Ďa+Ñe<=yY;rw[Î c]at f;cases f;have m:(g++h).length<=á:=by rw[ť,í];exact c
 refine .inr (.inr (.inr (.inl ⟨a,b,n,r,rfl,rfl,u8 s B,u8 s C,by rw[Ġk,Őc,ť];exact c,λp t=>?_⟩)));exact q _ _ _ ĝr ⟨p,n++r,rfl,Œb yb,(Ÿp).mono üo,m⟩;rw[Ð c]at f;cases f
def rD(h:ja xs i=À x):∃j:Nat,xs[j]?=À x/\∀{β:Type}(ys:Á β),Óa=à->ja ys i=ys[j]?:=by
 unfold ja at h;cases e:ixN à i with
 |Ä=>rw[e]at h;cases h|À j=>rw[e]at h;exact⟨j,h,λys l=>by unfold ja;rw[l,e];rfl⟩
def aL(xs:Á α)(i:Int):ja xs i=v_ xs i:=by
 unfold ja v_ ixN;by_cases h:0<=i;rw[Î h,Î h];by_cases h2:i<à;rw[Î h2];rfl;rw[Ð h2];exact(Ŝb Å).symm;rw[Ð h,Ð h]
 split<;>rfl
def iH(r:Þ K H ds vs)(h:v_ ds i=À d):∃v,ja vs i=À v/\za K H d v:=by rw[<-aL]at h;obtain⟨j,e,k⟩:=rD h;obtain⟨v,b,a⟩:=ĝb e;exact⟨v,by rw[k vs áa];exact b,a⟩
def z11:D->D->Æ D
 |.lst xs,.int i=>v_ xs i|.tup xs,.int i=>v_ xs i|.str z,.int i=>(Ũq).bind λc=>À Ńi|_,_=>Ä
def GZ:ue K (HJ K) z11:=λG H x y u v d Q s h m e q=>by
 cases x<;>first|(cases e;done)|skip
 all_goals (cases y<;>first|(cases e;done)|skip)
 rename_i z i;obtain⟨rfl,l⟩:=h;cases m;obtain⟨c,o,e⟩:=zH e;cases e;rw[<-aL]at o;exact .inr (.inr ⟨z,i,c,rfl,rfl,l,o,q _ _ _ Øa ⟨rfl,œb (n:=1) É⟩⟩);rename_i p i;obtain⟨a,k,rfl,f,j,_⟩:=h;cases m;obtain⟨w,g,b⟩:=iH j e;exact .inr (.inl ⟨a,k,i,w,rfl,rfl,vz s f,g,q _ _ _ Øa b⟩);rename_i p i;obtain⟨a,k,rfl,f,j,_⟩:=h;cases m;obtain⟨w,g,b⟩:=iH j e;exact .inl ⟨a,k,i,w,rfl,rfl,u8 s f,g,q _ _ _ Øa b⟩
def jc:wu X şd (Ψc Ãi ſj):=sI.or sJ
def jj:ZE K (Ψc (yd K H p ys\/y_ K H p ys) ſj) tL:=λG H i j d Q s r b q=>by
 match i,b with
 | [.lst xs],b=>cases b;obtain⟨v,c,rfl,⟨a,f,rfl,h,g,_⟩,e⟩:=r;cases(show c=[]from e);exact .inl ⟨a,f,rfl,.inl h,by rw[Ďa];exact q _ _ _ Øa rfl⟩
 | [.tup xs],b=>cases b;obtain⟨v,c,rfl,⟨a,f,rfl,h,g,_⟩,e⟩:=r;cases(show c=[]from e);exact .inl ⟨a,f,rfl,.inr h,by rw[Ďa];exact q _ _ _ Øa rfl⟩
 | [.str z],b=>cases b;obtain⟨v,c,rfl,⟨rfl,l⟩,e⟩:=r;cases(show c=[]from e);exact .inr ⟨z,rfl,l,q _ _ _ Øa rfl⟩
def y0b:ZE K Ĕl Op:=λG H e f d Q s r a q=>by
 match e,a with
 | [.int i],a=>cases a;obtain⟨v,c,rfl,rfl,b⟩:=r;cases(show c=[]from b);exact .inl ⟨i,rfl,q _ _ _ Øa rfl⟩
 | [.bl k],a=>cases a;obtain⟨v,c,rfl,rfl,b⟩:=r;cases(show c=[]from b);exact .inr ⟨k,rfl,q _ _ _ Øa rfl⟩
#print a
theorem bE:∀xs ys:Á D,(((ùa (min à Óa)).all λj=>xZ Ũi (ys.getD j .zE))&&à==Óa)=Ēc xs ys
 | [],[]=>rfl| [],_::_=>rfl|_::_,[]=>rfl|x::xs,y::ys=>by
  have a:=bE xs ys;show _=Ğn;rw[<-a,ĕ,ĕ,Nat.succ_min_succ,List.range_succ_eq_map,ž,List.all_map,Bool.and_assoc]
  congr 1
  congr 1
  rw[īc];simp
theorem a_:∀{xs ys:Á D},pp f xs ys=Ã->∀(j:Nat) x y,xs[j]?=À x->ys[j]?=À y->f x y=Ã
 | [],_,_,j,x,y,e,_=>by cases e|x::xs,[],_,j,_,y,_,e=>by cases e|x::xs,y::ys,h,0,_,_,e1,e2=>by cases e1;cases e2;have c:Œn=Ã:=h;rw[Ē]at c;exact c.1|x::xs,y::ys,h,j+1,a,b,e1,e2=>by have c:Œn=Ã:=h;rw[Ē]at c;exact a_ c.2 j a b Ŗn ŕn
section
variable{X:Cx}{z7:Á ë}{σ:St}{H:Hp}{s:Ë}{K:Ì}
theorem CH(d:∀d1 d2 v,uh n d1 d2=Ã->za K H d1 v->za K H d2 v->xZ d1 d2=Ã):∀{xs ys:Á D}{vs:Á V},pp Ġd xs ys=Ã->Þ K H xs vs->Þ K H ys vs->Ēc xs ys=Ã
 | [],[],_,_,_,_=>rfl| [],_::_,_,_,r1,r2=>by cases(show _=[]from r1);obtain⟨_,_,e,_⟩:=r2;cases e
 |_::_,[],_,_,r1,r2=>by cases(show _=[]from r2);obtain⟨_,_,e,_⟩:=r1;cases e
 |x::xs,y::ys,_,h,r1,r2=>by obtain⟨v,r,rfl,a,b⟩:=r1;obtain⟨i,j,e,g,f⟩:=r2;cases e;have c:(uh n x y&&pp Ġd xs ys)=Ã:=h;rw[Ē]at c;show Ğn=Ã;rw[d x y v c.1 a g,CH d c.2 b f];rfl
def F_(h:uh ķ x y=Ã):(∃xs ys,x=.tup xs/\y=.tup ys/\pp Ġd xs ys=Ã)\/(∃xs ys,x=.lst xs/\y=.lst ys/\pp Ġd xs ys=Ã)\/(xD x=Ã/\xD y=Ã):=by
 unfold uh at h
 split at h;exact .inl ⟨_,_,rfl,rfl,h⟩;exact .inr (.inl ⟨_,_,rfl,rfl,h⟩);rw[Ē]at h;exact .inr (.inr h)
def Wi(h:xD d=Ã)(r:za K H d v):j2 v=Ã:=by
 cases d<;>first|exact Û h ŉ|skip
 cases(show v=_ from r);rfl;cases(show v=_ from r);rfl;cases(show v=_ from r);rfl;cases(show v=_/\_ from r).1;rfl
def Jn(c:xD d1=Ã)(d:xD d2=Ã)(b:za K H d1 x)(a:za K H d2 y):qO x y=xZ d1 d2:=by
 cases d1<;>first|exact Û c ŉ|skip
 all_goals (cases d2<;>first|exact Û d ŉ|skip)
 all_goals first
  |(cases(show x=_ from b);cases(show y=_ from a);rfl)
  |(cases(show x=_ from b);cases(show y=_/\_ from a).1;rfl)
  |(cases(show x=_/\_ from b).1;cases(show y=_ from a);rfl)
  |(cases(show x=_/\_ from b).1;cases(show y=_/\_ from a).1;rfl)
theorem On(I:zI X z7 σ H s):∀(n:Nat)(d1 d2:D)(v:V),uh n d1 d2=Ã->za X.K H d1 v->za X.K H d2 v->xZ d1 d2=Ã
 |0,_,_,_,h,_,_=>by cases h|n+1,d1,d2,v,h,r1,r2=>by rcases F_ h with⟨k,m,rfl,rfl,h⟩|⟨k,m,rfl,rfl,h⟩|⟨g,i⟩;obtain⟨a,l,rfl,c,d,_⟩:=r1;obtain⟨o,j,e,b,f,_⟩:=r2;cases e;cases I.Be c b;exact CH łm h d f;obtain⟨a,l,rfl,c,d,_⟩:=r1;obtain⟨o,j,e,b,f,_⟩:=r2;cases e;cases I.OA c b;exact CH łm h d f;rw[<-Jn g i r1 r2];exact z0y (Wi g r1)
def bv{α:Type}{xs:Á α}{j:Nat}{x d:α}(h:xs[j]?=À x):xs.getD j d=x:=by rw[øa,h];rfl
def Lw{A:ó}{n:Nat}{a c:È}{xs b:Á D}{vs us:Á V}(I:zI X z7 σ H s)(B:Śa<Ða)(q:Aw X.K H a c vs us)(i:Þ X.K H xs vs)(l:Þ X.K H b us)(h:pp Ġd xs b=Ã)(w:∀(d1 d2:D)(x y:V)(u v:Value),uh n d1 d2=Ã->za X.K H d1 x->za X.K H d2 y->zx x u->zx y v->ŵb Ŵ s u v ūj):ŝj A s ř âh (Ēc xs b)/\Ĉj A s ř âh (!dEqs xs b):=by
 have z:=y4y (A:=A) (e:=λj=>xZ Ũi èp) I B q λj C p k d e1 e2 o t=>by obtain⟨d1,g,r⟩:=i.at e1;obtain⟨d2,f,m⟩:=l.at e2;show ŵb Ŵ s k d (xZ Ũi èp);rw[bv g,bv f];exact w d1 d2 C p k d (a_ h j d1 d2 g f) r m o t
 rw[Ĳa,Ďb,bE]at z;exact z
theorem Om(I:zI X z7 σ H s):∀(n:Nat)(A:ó)(d1 d2:D)(x y:V)(u v:Value),Śa+n<Ða->uh n d1 d2=Ã->za X.K H d1 x->za X.K H d2 y->zx x u->zx y v->ŵb A s u v ūj
 |0,_,_,_,_,_,_,_,_,h,_,_,_,_=>by cases h|n+1,A,d1,d2,x,y,u,v,hu,h,r1,r2,rx,ry=>by have o:=h;have r:=r1;have p:=r2;rcases F_ h with⟨B,E,rfl,rfl,h⟩|⟨B,E,rfl,rfl,h⟩|⟨q,m⟩;obtain⟨a,C,rfl,i,j,t⟩:=r1;obtain⟨c,z,rfl,e,k,w⟩:=r2;cases(show u=ą a from rx);cases(show v=ą c from ry);by_cases hac:a=c;subst hac;rw[On I ķ _ _ _ o r p];exact ýi _;exact Ũn hac (γc Įo Õg).1;obtain⟨a,C,rfl,i,j,t⟩:=r1;obtain⟨c,z,rfl,e,k,w⟩:=r2;cases(show u=ą a from rx);cases(show v=ą c from ry);by_cases hac:a=c;subst hac;rw[On I ķ _ _ _ o r p];exact ýi _;exact Ũn hac (γc Ĭo Õg).1;rw[<-Jn q m r1 r2];exact bU rx ry (Wi q r1) (Wi m r2)
#print a
def Lv(K:Ì)(a:Í):R2:=λx y H Q=>∃d1 d2 k,za K H d1 x/\za K H d2 y/\ZL d1 d2=À k/\Q (.bl (if a then !k else k)) H
def xH(a:yo k A):Śa+7<Ða:=Ĩb (Ìd (by decide:7<=64) _) a.units
section
variable{X:Cx}{K:Ì}
def CJ(h:ZL d1 d2=À k):uh 6 d1 d2=Ã/\k=xZ d1 d2:=by
 unfold ZL at h
 split at h;cases h;cases h;split at h;rename_i e;cases h;exact⟨e,rfl⟩;cases h
def iw(h:ZL d1 d2=À k)(c:xD d1=Ã)(d:xD d2=Ã)(b:za K H d1 x)(a:za K H d2 y):NT x y=Ã/\decide (x=y)=k:=by
 obtain⟨_,e⟩:=CJ h;subst e;cases d1<;>first|exact Û c ŉ|skip
 all_goals (cases d2<;>first|exact Û d ŉ|(cases h;done)|skip)
 all_goals first
  |(cases(show x=_ from b);cases(show y=_ from a);exact⟨rfl,by first|rfl|exact C6|exact C5⟩)
  |(cases(show x=_ from b);cases(show y=_/\_ from a).1;exact⟨rfl,rfl⟩)
  |(cases(show x=_/\_ from b).1;cases(show y=_ from a);exact⟨rfl,rfl⟩)
  |(cases(show x=_/\_ from b).1;cases(show y=_/\_ from a).1;exact⟨rfl,C7⟩)
def bV(I:zI X z7 σ H s)(G:Śa+7<Ða)(h:uh 6 d1 d2=Ã)(F:¬ (xD d1&&xD d2)=Ã)(n:za X.K H d1 x)(m:za X.K H d2 y)(o:zx x u)(p:zx y v) :ŝj A s u v ūj/\Ĉj A s u v (!xZ d1 d2):=by rcases F_ h with⟨B,E,rfl,rfl,h⟩|⟨B,E,rfl,rfl,h⟩|⟨w,q⟩;obtain⟨a,C,rfl,i,j,r⟩:=n;obtain⟨c,z,rfl,e,k,t⟩:=m;cases(show u=ą a from o);cases(show v=ą c from p);exact Lw I Å Įo j k h λd1 d2 x y u v l f b d g=>Om I 5 Ŵ d1 d2 x y u v Õg l f b d g;obtain⟨a,C,rfl,i,j,r⟩:=n;obtain⟨c,z,rfl,e,k,t⟩:=m;cases(show u=ą a from o);cases(show v=ą c from p);exact Lw I Å Ĭo j k h λd1 d2 x y u v l f b d g=>Om I 5 Ŵ d1 d2 x y u v Õg l f b d g;exact Û (by rw[w,q];rfl) F
def wp(o:Ċb+7<Ða):yj X ĩr (Lv X.K Â):=by intro j s σ H x y v u Q I g i h;obtain⟨m,l,k,e,d,f,q⟩:=h;by_cases hf:Ūp=Ã;have c:=hf;rw[Ē]at c;obtain⟨a,b⟩:=iw f c.1 c.2 e d;exact y20 j s σ H x y v u Q I g i ⟨a,by rw[b];exact q⟩;obtain⟨n,rfl⟩:=CJ f;exact Ąn.1 _ _ _ _ ⟨.bl _,H,I,rfl,q⟩
def qZ(o:Ċb+7<Ða):yj X Ŝp (Lv X.K Ã):=by intro j s σ H x y v u Q I g i h;obtain⟨m,l,k,e,d,f,q⟩:=h;by_cases hf:Ūp=Ã;have c:=hf;rw[Ē]at c;obtain⟨a,b⟩:=iw f c.1 c.2 e d;exact y25 j s σ H x y v u Q I g i ⟨a,by rw[b];exact q⟩;obtain⟨n,rfl⟩:=CJ f;exact Ąn.2 _ _ _ _ ⟨.bl _,H,I,rfl,q⟩
def wn:gA K (Lv K Â) zp:=λH x y u v d Q c e a=>by obtain⟨k,b,a⟩:=zH a;cases a;exact⟨_,rfl,λq=>⟨x,y,k,c,e,b,q⟩⟩
def qX:gA K (Lv K Ã) xg:=λH x y u v d Q c e a=>by obtain⟨k,b,a⟩:=zH a;cases a;exact⟨_,rfl,λq=>⟨x,y,k,c,e,b,q⟩⟩
#print a
def z5e{K:Ì}:Ő K Ŕd ÿb=À Â/\Ő K Ŕd Āa=À Â/\Ő K Ŕd Ůa=À Â/\
  Ő K Æb ÿb=À Â/\Ő K Æb Āa=À Â/\Ő K Æb Ůa=À Â/\
  Ő K Ūa ÿb=À Â/\Ő K Ūa Āa=À Â/\Ő K Ūa Ůa=À Â:=by refine⟨?_,?_,?_,?_,?_,?_,?_,?_,?_⟩<;>kernel_rfl
def z5f{K:Ì}:Ő K ÿb Ūa=À Â/\Ő K ÿb Æb=À Â/\Ő K ÿb Āa=À Â/\Ő K ÿb Ůa=À Â/\
  Ő K Āa Ūa=À Â/\Ő K Āa Æb=À Â/\Ő K Āa ÿb=À Â/\Ő K Āa Ůa=À Â/\Ő K Āa Āa=À Ã:=by refine⟨?_,?_,?_,?_,?_,?_,?_,?_,?_⟩<;>first|kernel_rfl|rfl
def z5g{K:Ì}:Ő K Ůa Ūa=À Â/\Ő K Ůa Æb=À Â/\Ő K Ůa Āa=À Â/\Ő K Ůa ÿb=À Â:=by refine⟨?_,?_,?_,?_⟩<;>kernel_rfl
noncomputable def x3u:D->Áa
 |.zE => "NoneType"|.bl _ => ēf|.int _ => Ūc|.str _ => İf|.tup _ => ŧ|.lst _ => ĝ|.dic _ _ => Ź|.exc _ => "x"|.obj _ _ _ => "x"
def UP{K:Ì}{T:gD}{d:D}{b:Í}(h:LH T d=À b):Ő K (.type (x3u d)) Êq=À b:=by
 obtain⟨c,v,f,r,a,m,j,t,l⟩:=z5e (K:=K);obtain⟨o,n,w,u,x,p,y,q,e⟩:=z5f (K:=K);obtain⟨k,i,g,s⟩:=z5g (K:=K);cases T<;>cases d<;>cases h
 all_goals first|exact z59|exact z57|exact z58|exact z56|exact z5b|exact z5a|exact z5d|exact z5c|assumption
def y4n(K:Ì)(T:gD):Á V->Hp->VK->Prop:=λa H Q=>∃x d b,a=[x,.ty T.nm]/\za K H d x/\LH T d=À b/\Q ąc H
def sG(T:gD):wu X Êj (y4n X.K T):=by
 intro t s σ H B A Q I r h;obtain⟨x,d,b,rfl,g,e,q⟩:=h;obtain⟨u,c,rfl,i,v⟩:=PZ r;cases(show c=śj T.nm from v);have f:∀k,EP X t σ Q Ÿg { s with ē:=k }:=λk=>⟨.bl b,H,Ãa k,rfl,q⟩
 cases d with
 |zE=>cases(show x=_ from g);exact LI I i .zE (UP (d:=.zE) e) f|bl y=>cases(show x=_ from g);exact LI I i (.bl _) (UP (d:=.bl y) e) f|int y=>cases(show x=_ from g);exact LI I i (.int _) (UP (d:=.int y) e) f|str y=>cases(show x=_/\_ from g).1;exact LI I i (.str _) (UP (d:=.str y) e) f|tup ds=>obtain⟨a,w,rfl,p,_⟩:=g;cases(show u=ą a from i);obtain⟨l,_,⟨o,j,m,_⟩,_⟩:=ãa p;exact Ñb ŋp ś ⟨o,j,m⟩ (UP (d:=.tup ds) e) Įa f
 |lst ds=>obtain⟨a,w,rfl,p,_⟩:=g;cases(show u=ą a from i);obtain⟨l,_,⟨o,n,j,m,_⟩,_⟩:=Âa p;exact Ñb īj ś ⟨o,j,m⟩ (UP (d:=.lst ds) e) Įa f
 |dic ks ds=>cases T<;>cases e|exc _=>cases T<;>cases e|obj _ _ _=>cases T<;>cases e
def Jx(T:gD)(n:Gl X Úd)(e:Gl X x)(l:î Úd=Ä)(g:î x=Ä)(hv:Ř x=À Êq)(o:SB X a f)(i:Ê Ãe q12)(m:Ê Àb q10)(u:Ê ı q10):SE X (.Call (.Name Úd p) [a,.Name x p1] [] pos) (W6 T f):=by obtain⟨t,w,k⟩:=o.h;refine⟨⟨_,(Jk (sG T) n l rZ (HC ⟨w⟩ (HC (y4b e g hv m u) fq rfl) i) É É (by rw[ž,i];rfl)).h,λ{y B G H τ σ d Q} E c q=>?_⟩⟩;obtain⟨z,s,c⟩:=zH c;obtain⟨b,j,c⟩:=zH c;cases c;exact k E s λv C A x r=>⟨v,z,b,rfl,r,j,q _ _ _ x rfl⟩
#print L3
namespace L3
open Ī
theorem Pa{c:FT}{b:FS}:∀{n:Nat}{σ:yE}{fl:Fl}(k:Nat),pF c b n σ=À fl->pF c b āe σ=À fl
 |0,_,_,_,h=>by cases h|n+1,σ,fl,k,h=>by
  rw[Nat.succ_add];unfold pF at h ⊢;cases hc:c σ with
  |Ä=>rw[hc]at h;cases h|À kk=>
   rw[hc]at h;cases kk with
   |Â=>exact h|Ã=>
    change (õe).bind _=_ at h
    show(õe).bind _=_;cases hb:b σ with
    |Ä=>rw[hb]at h;cases h|À f=>
     rw[hb]at h;cases f with
     |nx τ=>exact Pa k h|ct τ=>exact Pa k h|bk τ=>exact h|rt o d=>exact h
def iU(n:Nat)(h:pF c b n σ=À fl)(a:Ê (n<=gw) q10):L_ c b σ=À fl:=by have e:=Pa (gw-n) h;rw[ão a]at e;exact e
def mU(d:c σ=À Ã)(a:b σ=À Ŧr):pF c b ķ σ=pF c b n σ':=by show(ģd).bind _=_;rw[d];show(õe).bind _=_;rw[a];rfl
def mT(a:c σ=À Â):pF c b ķ σ=À ãh:=by show(ģd).bind _=_;rw[a];rfl
theorem kQ(P:Nat->yE->Prop):∀{ds:Á D}{σ:yE}(n:Nat),P n σ->(∀i d σ,ds[i]?=À d->P (n+i) σ->∃σ1 σ2,g d σ=À σ1/\(b σ1=À ċk\/b σ1=À (.ct σ2))/\P (n+i+1) σ2)->
  ∃σ',ZY g b ds σ=À Ŧr/\P (n+ď) σ'
 | [],σ,n,h,_=>⟨σ,rfl,h⟩|d::ds,σ,n,h,Ŵc=>by
  obtain⟨σ1,σ2,e1,e2,p⟩:=Ŵc 0 d σ rfl h
  obtain⟨σ',c,q⟩:=kQ P (ds:=ds) (σ:=σ2) ķ p λi o τ k e=>by obtain⟨a,l,m,f,j⟩:=Ŵc ê o τ Ħi (by rw[show n+ê=n+1+i by omega];exact e);exact⟨a,l,m,f,by rw[show n+1+i+1=n+ê+1 by omega];exact j⟩
  refine⟨σ',?_,by rw[ĕ,show n+(ď+1)=n+1+ď by omega];exact q⟩;show(íf).bind _=_;rw[e1];show(b σ1).bind _=_;rcases e2 with e2|e2;rw[e2];exact c;rw[e2];exact c
def z47(h:c σ=À Ã):xR c a b σ=a σ:=by show(ģd).bind _=_;rw[h];rfl
def z46(h:c σ=À Â):xR c a b σ=b σ:=by show(ģd).bind _=_;rw[h];rfl
abbrev xc(j:Nat):Á D:=(ùa j).map λk:Nat=>ĉ k
def gX(h:f τ=À Ņk)(a:n.natAbs<=1000000):uo ī f τ=À (xc n.toNat):=by unfold uo;rw[h];show(if(0:Int).natAbs<=yY/\n.natAbs<=yY/\(n-0).toNat<=yY then _ else _)=_;rw[Î ⟨by decide,by show _<=16777216;omega,by show _<=16777216;omega⟩,Ŕp];simp only[œp]
open ĺ ĭ L2
section
variable{α:Type}
theorem mn:∀{ks:Á zU}{vs:Á α}(k:zU),ĩ=þ->((ňa).any λkv=>decide ĺk)=yp ks k
 | [],[],_,_=>rfl|k'::ks,v::vs,k,h=>by have a:=mn (ks:=ks) (vs:=vs) k úb;show(decide úl||((ňa).any λkv=>decide ĺk))=(decide úl||yp ks k);rw[a]
theorem Wu(k:zU):∀{ks:Á zU}{vs:Á V},ĩ=þ->qG ňa k=Ā ks vs k:=by
 intro ks
 induction ks with
 |nil=>intro vs _;cases vs<;>rfl|đ k' ks ih=>
  intro vs h;cases vs with
  |nil=>cases h|đ v vs=>by_cases e:k'=k;rw[ĩb,Mg (p:=(k',v)) e];show _=ŝf;rw[Î e];rw[ĩb,Mf (p:=(k',v)) e,ih ťk];show _=ŝf;rw[Ð e]
theorem x6w(k:zU)(v:V):∀(ks:Á zU)(vs:Á V),((ňa).map λkv=>if kv.1=k then(kv.1,v)else kv)=Ěf šh:=by
 intro ks
 induction ks with
 |nil=>intro vs;rfl|đ k' ks ih=>
  intro vs;cases vs with
  |nil=>rfl|đ u vs=>rw[ĩb,ŝ,ih,Ùc,ĩb];by_cases e:k'=k;rw[Î e,Î e];rw[Ð e,Ð e]
theorem Pv(h:ĩ=þ):t7 ňa k v=(Ðf).zip Ōe:=by unfold t7 wM wC;rw[mn k h];by_cases c:yp ks k=Ã;rw[Î c,Î c,Î c,x6w k v];rw[Ð c,Ð c,Ð c,List.zip_append h];rfl
def Uc(h:ĩ=þ):(Ðf).length=(Ōe).length:=by
 unfold wM wC
 split;rw[Ģc,h,ūa];rw[í,í,h];rfl
def Gw(h:ĩ=þ):(Ōe).length<=þ+1:=by
 unfold wC
 split;rw[Ģc,h,ūa];exact óg _;rw[í];exact êa _
#print a
section
variable{K:Ì}{H:Hp}
theorem þr:∀{ks:Á zU}{ds:Á D}{vs:Á V}{k:zU}{d:D},Þ K H ds vs->Ā ks ds k=À d->∃v,Ā ks vs k=À v/\za K H d v
 | [],_,_,_,_,_,e=>by cases e|_::_,[],_,_,_,_,e=>by cases e|k'::ks,d'::ds,_,k,d,r,e=>by
  obtain⟨v,h,rfl,f,a⟩:=r
  change (if k'=k then À d' else L3.getK ks ds k)=À d at e
  by_cases c:k'=k;rw[Î c]at e;cases e;exact⟨v,by show ŝf=_;rw[Î c],f⟩;rw[Ð c]at e;obtain⟨u,g,b⟩:=þr a e;exact⟨u,by show ŝf=_;rw[Ð c];exact g,b⟩
theorem b_{α β:Type}:∀{ks:Á zU}{ds:Á α}{vs:Á β}{k:zU},ď=þ->Ā ks ds k=Ä->Ā ks vs k=Ä
 | [],_,_,_,_,_=>by unfold Ā;rfl|_::_,[],[],_,_,_=>rfl|k'::ks,d'::ds,v::vs,k,h,e=>by
  change (if k'=k then À d' else Ā ks ds k)=Ä at e
  show Øm=Ä;by_cases c:k'=k;rw[Î c]at e;cases e;rw[Ð c]at e;rw[Ð c];exact b_ úb e
theorem Cf:∀{ks:Á zU}{vs:Á α}(k:zU),ĩ=þ->(Ā ks vs k).isSome=yp ks k
 | [],[],_,_=>rfl|k'::ks,v::vs,k,h=>by have a:=Cf (ks:=ks) (vs:=vs) k úb;show(Øm).isSome=(decide úl||_);by_cases c:k'=k;rw[Î c,ï c];rfl;rw[Ð c,ć c,a];rfl
theorem śk(hv:za K H d v):∀{ks:Á zU}{ds:Á D}{vs:Á V},Þ K H ds vs->Þ K H (ĭb (λk' x=>if k'=k then d else x) ks ds) šh
 | [],_,_,_=>rfl|_::_,[],_,r=>by cases(show _=[]from r);rfl|k'::ks,d'::ds,_,r=>by obtain⟨u,e,rfl,b,a⟩:=r;refine⟨_,_,rfl,?_,śk hv a⟩;show za K H (if k'=k then d else d') (if k'=k then v else u);by_cases c:k'=k;rw[Î c,Î c];exact hv;rw[Ð c,Ð c];exact b
def Reps.put(r:Þ K H ds vs)(hv:za K H d v):Þ K H (wC ks ds k d) Ōe:=by
 unfold wC
 split;exact śk hv r;exact Ăd (Êh hv)
def ZW(h:uP x=À k)(r:za K H x u):u=kV k:=by
 cases x<;>first|(cases h;done)|skip
 cases h;exact r;cases h;exact(show u=_/\_ from r).1
#print a
section
variable{X:Cx}{K:Ì}
def hX:R2:=λx y H Q=>∃a kvs k v,x=.ref a/\y=kV k/\Rd H a Ŀ/\qG kvs k=À v/\Q v H
def z4p:qp X hX:=by
 intro g d n s σ H x y v u Q I w p h B;obtain⟨a,b,k,z,rfl,rfl,e,l,q⟩:=h;cases w;obtain⟨_,_,A,f,t⟩:=kD Đ e;obtain⟨i,j,c⟩:=Ŵe (v:=z) (o:=āc A k) (by rw[<-l];exact f.val k)
 exact Ĉe (x:=i) (z0c I Õi) Ÿh
  (ði (Q:=λr m=>r=i/\EP X n σ Q r m) (kL p) t.mapOf j ⟨rfl,z,H,Ãa _,c,q⟩) B
def hW(K:Ì):R2:=λx y H Q=>HJ K x y H Q\/hX x y H Q
def zg(_:Ċb+1<Ða):qp X (hW X.K):=z4r.or z4p
def zh:ue K (hW K) zM:=λG H x y u v d Q s e f c q=>by
 cases x with
 |dic ks ds=>obtain⟨a,n,rfl,j,l,g,_⟩:=e;obtain⟨k,m,c⟩:=zH c;obtain⟨z,i,h⟩:=g.getK c;exact .inr ⟨a,_,k,z,rfl,ZW m f,Śc s j,by rw[Wu k l];exact i,q _ _ _ Øa h⟩
 |zE=>cases c|bl b=>cases c|int b=>cases c|str z=>exact .inl (ιb (.str z))|tup z=>exact .inl (ιb (.tup z))|lst z=>exact .inl (ιb (.lst z))|exc z=>cases c|obj z _ _=>cases c
def HI(b:Í):R2:=λx y H Q=>∃a kvs k,y=.ref a/\x=kV k/\Rd H a Ŀ/\Q (.bl (if b then !(qG kvs k).isSome else(łg).isSome)) H
def y22(f:Ċb+1<Ða):yj X Ìf (HI Â):=by intro i s σ H x y v u Q I d g h;obtain⟨a,b,k,rfl,rfl,e,q⟩:=h;cases g;exact z02 f I Õi d λj c=>⟨.bl _,H,c,rfl,q⟩
def y26(f:Ċb+1<Ða):yj X Ďg (HI Ã):=by intro i s σ H x y v u Q I d g h;obtain⟨a,b,k,rfl,rfl,e,q⟩:=h;cases g;exact z04 f I Õi d λj c=>⟨.bl _,H,c,rfl,q⟩
def Jl(K:Ì)(a:Í):R2:=λx y H Q=>HH K a x y H Q\/(∃i j,x=.str i/\y=.str j/\Q (.bl (if a then !(!(Ŕf j i 0 Œa 1).isEmpty)else !(Ŕf j i 0 Œa 1).isEmpty)) H)\/HI a x y H Q
def Wa(a:Ċb+1<Ða):yj X Ìf (Jl X.K Â):=y23.or (y24.or (y22 a))
def Gf(a:Ċb+1<Ða):yj X Ďg (Jl X.K Ã):=y27.or (y28.or (y26 a))
theorem Lx(e:xD x=Ã)(d:za K H x u):∀{ys:Á D}{vs:Á V},Þ K H ys vs->Ēd xD=Ã->vs.all j2=Ã/\LD u vs=ys.any λy=>xZ y x
 | [],_,r,_=>by cases(show _=[]from r);exact⟨rfl,rfl⟩|y::ys,_,r,h=>by obtain⟨v,g,rfl,c,f⟩:=r;rw[ž,Ē]at h;obtain⟨a,b⟩:=Lx e d f h.2;refine⟨by rw[ž,Wi h.1 c,a];rfl,?_⟩;show(qO v u||LD u g)=(xZ y x||_);rw[Jn h.1 e c d,b]
theorem cO(d:za K H x u)(h:za K H y v)(b:UB x y=À k)(q:Q (.bl (if neg then !k else k)) H):Jl K neg u v H Q:=by
 cases y with
 |lst ys=>
  obtain⟨a,g,rfl,e,f,_⟩:=h
  change (match xD x&&Ēd xD with|Ã=>À Äg|Â=>Ä)=À k at b
  cases c:Ôp with
  |Â=>rw[c]at b;cases b|Ã=>rw[c]at b;cases b;rw[Ē]at c;obtain⟨n,m⟩:=Lx c.1 d f c.2;exact .inl ⟨a,g,rfl,.inl e,Wi c.1 d,n,by rw[m];exact q⟩
 |tup ys=>
  obtain⟨a,g,rfl,e,f,_⟩:=h
  change (match xD x&&Ēd xD with|Ã=>À Äg|Â=>Ä)=À k at b
  cases c:Ôp with
  |Â=>rw[c]at b;cases b|Ã=>rw[c]at b;cases b;rw[Ē]at c;obtain⟨n,m⟩:=Lx c.1 d f c.2;exact .inl ⟨a,g,rfl,.inr e,Wi c.1 d,n,by rw[m];exact q⟩
 |str j=>
  cases x<;>first|(cases b;done)|skip
  rename_i i;cases b;exact .inr (.inl ⟨i,j,(show u=_/\_ from d).1,(show v=_/\_ from h).1,q⟩)
 |dic ks ds=>obtain⟨o,p,b⟩:=zH b;cases b;obtain⟨a,g,rfl,e,l,f,_⟩:=h;refine .inr (.inr ⟨a,_,o,rfl,ZW p d,e,?_⟩);rw[Wu o l,Cf o l];exact q
 |_=>cases b
def WY:gA K (Jl K Â) t6:=λH x y u v d Q c e a=>by obtain⟨k,b,a⟩:=zH a;cases a;exact⟨_,rfl,λq=>cO c e b q⟩
def Gb:gA K (Jl K Ã) ZN:=λH x y u v d Q c e a=>by obtain⟨k,b,a⟩:=zH a;cases a;exact⟨_,rfl,λq=>cO c e b q⟩
def M8:SF X Ćo Žh:=⟨⟨_,y2p,λ{e c G H τ σ d Q} E b q p a=>by cases b;exact q p G _ (èb Ìb a) a (E.ext.gh.free a) ⟨[],yb,rfl,rfl,ęa _⟩⟩⟩
def MR(P:Ċb+1<Ða)(B:QE X ĭa øe)(hk:SE X k fk)(hv:SE X v fv)(O:Ê (Ψb ên) q12) :SS X şn (Zj i fk fv):=by
 obtain⟨T,F,Q⟩:=hk.h;obtain⟨tv,C,J⟩:=īd;refine⟨⟨_,fF P B.h F C O,λ{U Z G H τ σ W E} K b q=>?_⟩⟩;obtain⟨y,N,b⟩:=zH b;refine J K N λw Y H1 r I=>?_
 split at b;rename_i ks n p;obtain⟨xk,s,b⟩:=zH b;obtain⟨d,e,b⟩:=zH b;by_cases c:ĩ<yY;rw[Î c]at b;cases b;have m:=ŵ r;obtain⟨a,o,g,z,vs,L,l,j,R⟩:=m.ow _ _ p;refine⟨_,o,Q m s λu G2 H2 f t=>⟨a,_,rfl,.inl ⟨_,d,f.h _ _ L,ZW e t,?_,rfl⟩,?_⟩⟩;rw[ŧa,l,ūa,ť,<-l];exact c;refine q _ _ _ ((m.go f).Te p o ⟨wC ks vs d w,?_,Uc l,(Ól f.g).put (ġf f.g),?_⟩);rw[yb,Pv l];have S:=Gw (ks:=ks) (vs:=n) (k:=d) (v:=y) (by rw[l,Œa]);have h2:ăd<16777216:=by rw[<-Œa,<-l];exact c
 rw[ť];omega;rw[Ð c]at b;cases b;cases b
def tH(K:Ì)(w:ß)(a:È)(ks:Á zU)(ds:Á D):Prop:=
 ∃us:Á V,ĩ=š/\üa=Â/\(∀H,Þ K H ds us)/\∀(P:æ)(h:Heap),ŕ h->∃vs,KV ľc vs/\Òe Ŏa a vs
inductive jM(w:ß):Á ŷb->Á Str->Á Value->Prop
 |nil:jM w [] [] []
 |đ {x:Str} {t:Tok} {v:Value} {es:Á ŷb} {xs:Á Str} {vs:Á Value} (r:jM w es xs vs):jM w (⟨Àp w.params x,.str x t,v⟩::es) Ÿk (v::vs)
theorem jM.pairs:∀{es:Á ŷb}{xs:Á Str}{vs:Á Value},jM w es xs vs->Pairs Ŏa es ((ĉc ňb).zip vs)/\(∀e∈es,∃k,(Ŏa).is k e.key=Ã/\e.hash=(Ŏa).hash k)
 |_,_,_,.nil=>⟨.nil,λe h=>Û h â⟩|_,_,_,.cons (x:=x) (t:=t) r=>by obtain⟨a,b⟩:=jM.pairs (P:=P) r;refine⟨.cons (GN P w x t) rfl a,λe h=>?_⟩;rcases Ĺ h with rfl|h;exact⟨.inr x,GN P w x t,rfl⟩;exact b e h
theorem jM.len{w:ß}:∀{es:Á ŷb}{xs:Á Str}{vs:Á Value},jM w es xs vs->à=þ
 |_,_,_,.nil=>rfl|_,_,_,.cons r=>by rw[ĕ,ĕ,r.len]
theorem Ey(r:zo us vs):∀{ks:Á zU},ĩ=š->KV ľc ňa:=by
 induction r with
 |nil=>intro ks _;rw[Ŭn,Ŭn];exact .nil|đ r _ ih=>
  intro ks h;cases ks with
  |nil=>exact .nil|đ k ks=>exact .cons ⟨rfl,r⟩ (ih ťk)
theorem Mx:∀{ks:Á zU}{vs:Á Value},ĩ=þ->(ňa).map (·.1)=ks
 | [],[],_=>rfl|k::ks,v::vs,h=>by rw[ĩb,ŝ,Mx úb]
theorem br(l:Àa a=À { cls:=.type Ź,Ą:=.dict ŕj n })(e:jM w es xs vs)(j:Ād)(f:üa=Â)(r:zo us vs)(d:∀H,Þ K H ds us) :tH K w a ãd ds:=by
 have c:(ĉc ňb:Á zU).length=š:=by rw[ç,e.len,áa]
 refine⟨us,c,f,d,λP h g=>⟨_,Ey r c,?_⟩⟩;obtain⟨p,q⟩:=ŗk (P:=P);refine⟨_,_,_,g _ _ l,⟨rfl,rfl,rfl⟩,rfl,λe i=>q e (by simpa using i),p,?_⟩;rw[Mx ãi];exact Ĵi _ Ái j
def z1c(g:tH X.K X.w A ks ds):qp X (λx y H Q=>x=.ref A/\∃k,y=kV k/\∃d,Ā ks ds k=À d/\∀v,(∀H,∃H',zw H H'/\Ëc)->(∀H,za X.K H d v)->Q v H):=by
 intro f c E s σ H x y v u Q I N J h R;obtain⟨rfl,k,rfl,d,p,q⟩:=h;cases N;obtain⟨S,t,j,i,O⟩:=g;obtain⟨P,e,m⟩:=O ò Ý ś;obtain⟨z,n,_⟩:=(i H).getK p
 have L:∀H,za X.K H d z:=λH'=>by obtain⟨T,a,G⟩:=(i H').getK p;rw[n]at a;cases a;exact G
 obtain⟨l,B,b⟩:=Ŵe (v:=z) (o:=āc P k) (by rw[<-n,<-Wu k t];exact e.val k)
 exact Ĉe (x:=l) m.typeIs Ÿh
  (ði (Q:=λr C=>r=l/\EP X E σ Q r C) (kL J) m.mapOf B ⟨rfl,z,H,Ãa _,b,q z (λH=>⟨H,ŕa H,trivial⟩) L⟩) R
def pB(h:wT î x üc)(g:tH X.K X.w A ks ds)(l:Gl X x)(i:SE X b fb)(s:Ê Žq q12)(o:Ê ı q10) :SE X (.Subscript ĉa b pos) (e1 (wB ks ds) fb):=by obtain⟨z,c,e⟩:=i.h;refine⟨⟨_,Gh (z1c g) (We h l o) c (Gk s),λ{t B G H τ σ d Q} E a q=>?_⟩⟩;obtain⟨y,n,a⟩:=zH a;obtain⟨k,j,a⟩:=zH a;exact e E n λu F C r f=>⟨rfl,k,ZW j f,d,a,λv _ m=>q v _ _ r (m _)⟩
#print a
noncomputable def gY:D->Æ Ąc
 |.lst xs=>À xs|.tup xs=>À xs|_=>Ä
def t_(a b:FE):FA:=λσ=>(îa).bind λx=>(õe).bind λy=>(gY x).bind λd=>(gY y).bind λc=>À (ĭb Či d c)
section
variable{K:Ì}{G H:Hp}
def i_(h:gY x=À xs)(r:za K G x u):∃t a vs,u=.ref a/\tm K t G a vs/\Þ K G xs vs/\à<=á:=by
 cases x<;>first|(cases h;done)|skip
 cases h;obtain⟨a,vs,rfl,c,b,l⟩:=r;exact⟨Ã,a,vs,rfl,c,b,l⟩;cases h;obtain⟨a,vs,rfl,c,b,l⟩:=r;exact⟨Â,a,vs,rfl,c,b,l⟩
def Yz(s:zw H H')(h:tm K t H a vs):tm K t H' a vs:=by cases t;exact u8 s h;exact vz s h
def x6x(l:tm K t1 G a vs)(j:tm K t2 G b us)(h:Þ K G xs vs)(g:Þ K G ys us):jX K Ŗi G (ĭb Či xs ys) where
 go:=λi f H d c e=>by rw[Ģc]at e;obtain⟨v,e1,_⟩:=h.get (Ĕ (show i<à by omega));obtain⟨u,e2,_⟩:=ļh (Ĕ (show i<Óa by omega));exact⟨vs,us,v,u,Yz ée l,Yz ée j,e1,e2⟩
 ua:=λi f H x A d c e y=>by obtain⟨p,m,rfl,k⟩:=y;obtain⟨v,u,e1,e2,rfl⟩:=k vs us (Yz ée l) (Yz ée j);obtain⟨w,r,t⟩:=h.at e1;obtain⟨s,q,z⟩:=g.at e2;refine⟨zV f p Ìq,.tup [w,s],Ŋb c m,by rw[Źf,r,q],?_⟩;have o:zw G (zV f p Ìq):=Ķc ýo;exact⟨p,[v,u],rfl,ďc yb,⟨v,_,rfl,t.mono o,⟨u,_,rfl,z.mono o,rfl⟩⟩,œb (n:=2) É⟩
 Ś:=λi f H d c e=>by rw[Ģc]at e;refine⟨vs,us,Yz ée l,Yz ée j,?_⟩;rw[Ñe,Ďa];omega
#print a
section
variable{X:Cx}{a b e o:Ñ}{fa fb f:FE}{p pos:Pos}
def MB(Q:Gl X ĺa)(E:î ĺa=Ä)(L:SE X a fa)(w:SE X b fb)(o:Ê Ãe q12)(d:Ê Ţq q12):SI X ŝn ŭh (t_ fa fb):=by
 obtain⟨t,P,k⟩:=(zB L (zB w zL d) o).h;refine⟨⟨_,(y4d Q E ⟨P⟩ o d).h,λ{U Z G H τ σ ds R} K c q=>?_⟩⟩;obtain⟨x,S,c⟩:=zH c;obtain⟨y,J,c⟩:=zH c;obtain⟨xs,g,c⟩:=zH c;obtain⟨ys,i,c⟩:=zH c;cases c;refine k K (ds:=ųc) (by unfold zA;rw[S,J];rfl) λvs Y H1 e C=>?_
 obtain⟨v,r,rfl,O,⟨T,u,rfl,f,I⟩⟩:=C;cases(show u=[]from I);obtain⟨A,F,l,rfl,n,N,l1⟩:=i_ g O;obtain⟨s,z,j,rfl,m,B,W⟩:=i_ i f;refine⟨F,z,l,j,A,s,rfl,Yz Èc n,Yz Èc m,q _ _ _ e ?_ (x6x n m N B)⟩;rw[Ģc];omega
abbrev FO:=yE->Æ (Æ Int)
noncomputable def ji:FO:=λ_=>À Ä
noncomputable def qW(f:FE):FO:=λσ=>(f σ).bind λd=>match d with
 |.int i=>À (À i)|_=>Ä
def tu(xs:Á α)(lo hi:Æ Int):Á α:=(ŵm).take ĥm
def Qr(d:D)(lo hi:Æ Int):Æ D:=match d with
 |.lst xs=>À (Ε Īi)|.tup xs=>if Ĵ à 0 lo=0/\Ĵ à à hi=à then Ä else À År|.str z=>À (.str Ãq)|_=>Ä
def UA(a:FE)(lo hi:FO):FE:=λσ=>(îa).bind λd=>(Žk).bind λl=>(ſk).bind λh=>Qr d l h
structure SO(X:Cx)(e:Æ Ñ)(f:FO):Prop where
 h:∃t,PO X e t/\∀{G0 H0 G H:Hp}{τ:yE}{σ:St}{d:Æ Int}{Q:Æ Int->Hp->Prop},zr X.K ö G0 H0 G H τ σ->f τ=À d->(∀G' H',zR G H G' H'->Q d H')->t σ H Q
def Nc:SO X Ä ji:=⟨⟨_,y3r,λE a q=>by cases a;exact q _ _ ŋc⟩⟩
def Jz(h:SE X e f):SO X (À e) (qW f):=by
 obtain⟨t,b,k⟩:=h.h;refine⟨⟨_,y3s b,λ{g j G H τ σ d Q} E a q=>?_⟩⟩;obtain⟨x,c,a⟩:=zH a;cases x<;>first|(cases a;done)|skip
 cases a;exact k E c λv l i x r=>⟨_,r,q _ _ x⟩
def Reps.cut{K:Ì}{G:Hp}{ds:Á D}{vs:Á V}(r:Þ K G ds vs)(lo hi:Æ Int):Þ K G (tu ds lo hi) (Ya vs lo hi):=by unfold tu Ya;rw[áa];exact(Ìl _).take _
def Of(xs:Á α)(lo hi:Æ Int):(Īi).length<=à:=by unfold tu;rw[èa,Åb];exact Ġ Êf ţb
def y4s(K:Ì):V->Æ Int->Æ Int->Hp->VK->Prop:=λx b a H Q=>i7 K x b a H Q\/i9 K x b a H Q\/i8 x b a H Q
def lC:kB X (y4s X.K):=y7k.or (y7m.or y7l)
def NV{lo hi:Æ Ñ}{w fh:FO}{p2:Pos}(J:SE X a fa)(k:SO X lo w)(s:SO X hi fh):SE X ën (UA fa w fh):=by
 obtain⟨N,C,K⟩:=J.h;obtain⟨Y,L,A⟩:=k.h;obtain⟨T,B,F⟩:=s.h;refine⟨⟨_,e_ lC C L B,λ{O S G H τ σ d Q} E b q=>?_⟩⟩;obtain⟨x,y,b⟩:=zH b;obtain⟨l,k,b⟩:=zH b;obtain⟨h,s,b⟩:=zH b;refine K E y λv R Z m I=>A (öa m) k λG2 U u=>F ((öa m).go u) s λP W e=>?_
 have o:=m.trans (îh e);have n:=ġf Śo;cases x with
 |lst xs=>cases b;obtain⟨a,t,rfl,r,j,f⟩:=n;refine .inl ⟨a,t,rfl,u8 Èc r,λp i=>q _ _ _ än ⟨p,_,rfl,Œb yb,(Ĥq).mono Þp,Ġ Đh f⟩⟩
 |tup xs=>
  change (if Ĵ à 0 l=0/\Ĵ à à h=à then Ä else À (Åc (tu xs l h)))=À d at b
  by_cases c:Ĵ à 0 l=0/\Ĵ à à h=à;rw[Î c]at b;cases b;rw[Ð c]at b;cases b;obtain⟨a,t,rfl,r,j,f⟩:=n;refine .inr (.inl ⟨a,t,rfl,vz Èc r,by rw[Œa];exact c,λp i=>?_⟩);exact q _ _ _ än ⟨p,_,rfl,ďc yb,(Ĥq).mono Þp,Ġ Đh f⟩
 |str z=>cases b;obtain⟨rfl,f⟩:=n;exact .inr (.inr ⟨z,rfl,f,q _ _ _ o ⟨rfl,Ġ (C0 ..) f⟩⟩)
 |_=>cases b
noncomputable def W8:Á D->Æ D
 | [.lst xs]=>À Ğa| [.tup xs]=>À Ğa|_=>Ä
noncomputable def W9:Á D->Æ D
 | [.lst xs]=>À Őa| [.tup xs]=>À Őa|_=>Ä
def jo{K:Ì}{G:Hp}{d:D}{vs:Á V}(r:Þ K G [d] vs):∃v,vs=[v]/\za K G d v:=by obtain⟨v,b,rfl,c,a⟩:=r;cases(show b=[]from a);exact⟨v,rfl,c⟩
def NY{fs:FA}(o:Gl X ĝ)(n:î ĝ=Ä)(r:SA X [e] fs)(u:Ê ĝa q12):SF X (Χb Ŀp) (eL W8 fs):=by
 obtain⟨t,x,k⟩:=r.h;refine⟨⟨_,(Ue sL o n OY ⟨x⟩ É É Ëo).h,λ{y A G H τ σ d Q} E f q=>?_⟩⟩;obtain⟨w,s,f⟩:=zH f;refine k E s λB z C b m=>?_
 match w,f with
 | [.lst xs],f=>cases f;obtain⟨v,rfl,a,g,rfl,j,i,l⟩:=jo m;exact⟨a,g,rfl,.inl (u8 b.gh j),λp c=>q p _ _ ųn (ħk c) İp ⟨g,yb,i,l⟩⟩
 | [.tup xs],f=>cases f;obtain⟨v,rfl,a,g,rfl,j,i,l⟩:=jo m;exact⟨a,g,rfl,.inr (vz b.gh j),λp c=>q p _ _ ųn (ħk c) İp ⟨g,yb,i,l⟩⟩
def Gc{K:Ì}:Ap K (Νd ((yd K H p ys/\∀l,H l=Ä->Q Řc ţp)\/(y_ K H p ys/\Q Éa H))) W9:=λG H h i d Q s r c q=>by
 match h,c with
 | [.lst xs],c=>cases c;obtain⟨v,rfl,a,b,rfl,e,f,l⟩:=jo r;exact⟨a,b,rfl,.inl ⟨u8 s e,λp g=>q _ _ _ (Ŋb s g) ⟨p,b,rfl,ďc yb,ěf (vL (s.free g) _),l⟩⟩⟩
 | [.tup xs],c=>cases c;obtain⟨v,rfl,a,b,rfl,e,f,l⟩:=jo r;exact⟨a,b,rfl,.inr ⟨vz s e,q _ _ _ Øa ⟨a,b,rfl,e,f,l⟩⟩⟩
def JH(x:D):Á D->Nat->Æ Nat
 | [],_=>Ä|y::ys,n=>match xZ y x with
  |Ã=>À n|Â=>JH x ys ķ
def z10:D->D->Æ D
 |.lst ys,x=>match xD x&&Ēd xD with
  |Ã=>(JH x ys 0).bind λn=>À Ņk|Â=>Ä
 |_,_=>Ä
theorem ce:∀{ys:Á D}{n m:Nat},JH x ys n=À m->∃j y,m=n+j/\ys[j]?=À y/\xZ y x=Ã/\∀i z,i<j->ys[i]?=À z->xZ z x=Â
 | [],_,_,h=>by cases h|y::ys,n,m,h=>by
  change (match xZ y x with|Ã=>À n|Â=>JH x ys ķ)=À m at h
  cases c:xZ y x with
  |Ã=>rw[c]at h;cases h;exact⟨0,y,rfl,rfl,c,λi z b=>Û b Ği⟩|Â=>
   rw[c]at h;obtain⟨j,d,e1,e2,e,f⟩:=ce h;refine⟨j+1,d,by omega,by simpa using e2,e,λi z b a=>?_⟩;cases i with
   |äa=>cases a;exact c|åa i=>exact f i z Å ħi
def lM(o:QO X op ti)(A:ue X.K ti F)(l:ğa)(hi:X.N[i]?=À x)(j:pW éa x)(I:SE X e f)(b:Ê ża q7) :SS X (.AugAssign ûg op e pos) (yP i (e2 F ìl f)):=by obtain⟨t,J,k⟩:=I.h;refine⟨⟨_,Gp l hi j J o b,λ{L P G H τ σ O E} K b q=>?_⟩⟩;obtain⟨d,a,b⟩:=zH b;cases b;obtain⟨x,j,a⟩:=zH a;obtain⟨y,z,a⟩:=zH a;obtain⟨v,r,s⟩:=K.fr _ _ (CC j);refine⟨v,r,k K z λu p B c n=>A p B x y v u d _ Êc (Ël c.g) n a λw R Q C m=>?_⟩;exact q _ _ _ (((ŵ c).go C).set ńb.1 m)
def GY{K:Ì}:ue K Ťo ìg:=λG H x y u v d Q s b c a q=>by
 cases x<;>first|(cases a;done)|skip
 cases y<;>first|(cases a;done)|skip
 cases a;exact⟨_,_,b,c,q _ _ _ Øa rfl⟩
#print a
def FR(n N:Nat)(b:FS)(ds:Á D):Æ ä:=if ď=n then yH N b ds else Ä
def yO:∀ds r,FR n N b ds=À r->ď=n/\yH N b ds=À r:=λds r h=>by
 unfold FR at h
 split at h;rename_i c;exact⟨c,h⟩;cases h
theorem lw{M:ýe}{A:ó}{E:Value->Ë->Prop}{a:Ø Value}{x:Value}{e:Value->Í}{j:Nat}(k:∃Ě w,M=model Ě w)(l:j<ì)(b:e a[j]=Ã)(g:∀m (n:m<ì),m<j->e a[m]=Â){s:Ë}(f:∀y∈a,ŵb A s y x (e y)){Q:Æ Þk×Ľa->Ë->Prop}(h:Q (À (.done śn),()) { s with ē:=Č+1 }):∀m i:Nat,i+m=ì->i<=j->
  Ù M A (őb (List.range' i m) ((Ä,()):Æ Þk×Ľa) λ(i:Nat) (_:Æ Þk×Ľa)=>match a[i]? with
   |À y=>do
    let ŗg <-eqBool y x
    if ŗg=Ã then do
      let ŗg <-retInt (i:Int)
      pure (ForInStep.done (À ŗg,()))
     else pure Ìp
   |_=>pure Ìp) Q E s
 |0,i,h1,h2=>by omega|m+1,i,h1,h2=>by
  obtain⟨Ě,w,rfl⟩:=k;have d:i<ì:=by omega
  rw[List.range'_succ,Şi];refine Ò ?_;rw[Array.getElem?_eq_getElem d];refine Ò (f _ (Array.getElem_mem d) Ě w E _ ?_);by_cases c:i=j;subst c;rw[b,Î rfl]
  wp_walk
  exact h;rw[g i d Å,Ð É];refine ě ?_;exact lw ⟨Ě,w,rfl⟩ l b g f h m ê Å Å
def x2m(t:È)(a:Ø Value)(x:Value)(e:Value->Í)(j:Nat)(p:j<ì)(c:e a[j]=Ã)(l:∀m (B:m<ì),m<j->e a[m]=Â) :Meets (Builtin.«tuple.index» ⟨[.ref t,x],[]⟩) (λA R s=>ğb Ý t a/\(∀y∈a,ŵb Ŵ s y x (e y))/\R (.ok śn) { s with ē:=Č+1 }):=by
 intro b w A R s h;obtain⟨v,g,d,r,q⟩:=s;obtain⟨⟨o,u,z,n,i⟩,k,h⟩:=h;unfold Builtin.«tuple.index»
 wp_walk
 skip
 rw[i];refine ě ĵb;show Ù _ _ (pure 0 >>= _) _ _ _;refine Ò (Ζa Âj);rw[Std.Legacy.Range.forIn_eq_forIn_range'];have f:ðn [0:min ì ì]=ì:=by simp[ðn]
 rw[f];refine lw ⟨b,w,rfl⟩ p c l k ?_ ì 0 Å Å;exact ě h
section
variable{X:Cx}{e o k v:Ñ}{f fo fk fv:FE}{x:Str}{xp p Ĕa Úa:Pos}
def z6s:DI X "tuple.index" (λx vs H Q=>∃(a:È) (us:Á V) (y:V) (j:Nat) (u:V),x=.ref a/\vs=[y]/\y_ X.K H a us/\j2 y=Ã/\us.all j2=Ã/\us[j]?=À u/\qO u y=Ã/\(∀i z,i<j->us[i]?=À z->qO z y=Â)/\Q (.int (j:Int)) H):=by
 intro Y s σ H x Z v T Q I P G h;obtain⟨a,us,y,j,u,rfl,rfl,N,J,E,p,k,U,q⟩:=h;cases P;obtain⟨w,rfl,O⟩:=uy G;obtain⟨b,r,C,hz⟩:=ãa N;have o:=áa;have W:j<š:=(Ŗ p).1
 have d:∀(i:Nat)(z:V)(g:i<Ĭb),us[i]?=À z->tK y ĉb[i]=qO z y:=λi z g A=>by
  obtain⟨t,B,R⟩:=ĝb A
  have e:ĉb[i]=t:=by have L:b[i]?=À b[i]:=Ĕ (by rw[ğ]at g;exact g);rw[L]at B;simpa using B
  rw[e];exact CG R (Ħb E z (Ġc A))
 have f:j<Ĭb:=by rw[ğ,<-o];exact W
 refine Öd ům C.typeIs PySem.F.entry_tuple_index (PySem.F.args_tuple_index_2 _ _) (x2m a ĉb w (tK y) j f (by rw[d j u f p];exact k) λm n l=>?_) ⟨C,λt S=>?_,⟨.int j,H,Ãa _,⟨_,rfl⟩,q⟩⟩;have c:m<š:=by rw[ğ,<-o]at n;exact n
 rw[d m us[m] n (Ĕ c)];exact U m _ l (Ĕ c);exact UU O J r E t (by simpa using S)
def DM(K:Ì)(A:È):Prop:=∃o,Àa A=À o/\Ğb=.type ŧ/\ęf=Ä
def Qs(ds:Á D)(y:D):Æ D:=z10 ŵg y
def y6y(h:wT î x üc)(r:∀H,za X.K H Űg üc)(R:DM X.K A)(hg:Gl X x)(S:SE X e f)(hd:Ê ı q10)(k:Ê (ħb ĭa "index" Ô åj=č ĭa Ô) q12)(l:Ê Òc q12)(t:Ê ĝa q12) :SE X (Ζd (.Attribute ĭa "index" Ĕa)) (e1 (Qs ds) f):=by
 obtain⟨te,U,O⟩:=(zB S zL t).h;refine⟨⟨_,(HE PySem.F.plainAttrs_tuple ům PySem.F.type_tuple_index z6s (y4c h hg hd) ⟨U⟩ k l (by rw[ž,t];rfl) Ći).h,λ{G0 H0 G H τ σ d Q} E g q=>?_⟩⟩;obtain⟨y,Z,g⟩:=zH g;refine⟨.inr (.inl ⟨rfl,R⟩),O E (ds:=[y]) (by unfold zA;rw[Z];rfl) λws G2 H2 v C=>?_⟩;obtain⟨w,rfl,b⟩:=jo C;obtain⟨a,J,W,T,m,_⟩:=r G2;cases W
 change (match xD y&&ds.all xD with|Ã=>(JH y ds 0).bind λn=>À (ĉ n)|Â=>Ä)=À d at g
 cases c:(xD y&&ds.all xD)with
 |Â=>rw[c]at g;cases g|Ã=>
  rw[c]at g;obtain⟨n,N,g⟩:=zH g;cases g;rw[Ē]at c;obtain⟨j,z,e1,e2,e3,Y⟩:=ce N;rw[Ş]at e1;subst e1;obtain⟨u,P,ru⟩:=m.get e2;have p:∀{i:Nat}{z:D},ds[i]?=À z->xD z=Ã:=λ{i z} o=>Ħb c.2 z (Ġc o)
  refine⟨A,J,w,n,u,rfl,rfl,vz v.gh T,Wi c.1 b,(Lx c.1 b m c.2).1,P,by rw[Jn (p e2) c.1 ru b];exact e3,λi z L o=>?_,q _ _ _ v rfl⟩;obtain⟨I,s,B⟩:=m.at o;rw[Jn (p s) c.1 B b];exact Y i I L s
def y6x(W:Ċb+1<Ða)(J:SE X o fo)(hk:SE X k fk)(hv:SE X v fv)(m:M2 X o "get" Ĕa k v Úa):SE X (.Call Ũm [k,v] [] Úa) (CA fo fk fv):=by
 obtain⟨to,K,U⟩:=J.h;obtain⟨Z,N,Y⟩:=hk.h;obtain⟨tv,L,P⟩:=īd;refine⟨⟨_,y2o W K N L m,λ{G0 H0 G H τ σ d Q} E b q=>?_⟩⟩;obtain⟨x,C,b⟩:=zH b;refine U E C λw G1 H1 f O=>?_
 cases x with
 |dic ks ds=>
  obtain⟨y,R,b⟩:=zH b;obtain⟨z,S,b⟩:=zH b;obtain⟨e,i,b⟩:=zH b;cases b;obtain⟨a,T,rfl,B,l,t,_⟩:=O;refine⟨a,rfl,.inl ⟨_,Śc f.gh B⟩,Y (öa f) R λu G2 H2 j F=>P ((öa f).go j) S λw' G3 H3 n I=>?_⟩;refine⟨qG (Ěf T) e,.inl ⟨_,e,Śc (f.gh.trans (j.h.trans n.h)) B,ZW i F,rfl⟩,?_⟩;rw[Wu e l];have r:=t.mono (j.g.trans n.g);cases c:Ā ks ds e with
  |Ä=>rw[c]at q;rw[b_ (by rw[ād]) c];exact q _ _ _ Ān I|À d'=>rw[c]at q;obtain⟨z',p,s⟩:=r.getK c;rw[p];exact q _ _ _ Ān s
 |_=>cases b
noncomputable def vw(i:Int):Nat:=Ĩe i
def Qo:D->D->Æ D:=fI (λi j=>decide (vw i+vw j<=134217728)) (·*·)
def eF:yj X ğg Źl:=UZ λi j _ _ _ _ _ b q=>mul_int q (by unfold IntMulOk;intro h;rw[Ē]at h;have a:decide (((Ĩe i+Ĩe j:Nat):Int)>(134217728:Nat))=Ã:=h.2;have d:=Ŋ a;have c:Ĩe i+Ĩe j<=134217728:=b;omega)
def eB{K:Ì}:ue K Źl Qo:=WX λ_ _ h=>Ŋ h
#print a
open Ŝk
theorem mS:∀{ns:Á Int}{m:Int},m∈ns->vw m<=šd Âd
 | [],_,h=>by cases h|n::ns,m,h=>by
  have e:šd ((żk).map Ùk)=vw n+1+šd Âd:=by show šd (Ùk n::Ĕb Ùk)=_;rw[šd];rfl
  rw[e];rcases Ĺ h with rfl|h;omega;have:=mS h;omega
def z5o{ns:Á Int}(h:WData.layableAll [.list Âd]=Ã):∀m∈ns,vw m<=1048576:=λm b=>by
 have a:Ćp ŀj=Ã:=Ħb h _ (List.mem_singleton.mpr rfl);unfold Ćp at a;rw[Ē]at a;have e:ćj ŀj<=2 ^ 20:=Ŋ a.2;have d:=mS b;have c:ćj ŀj=šd Âd:=by rw[ćj]
 omega
section
variable{K:Ì}
def J_(K:Ì):Sp:=λb H Q _=>∃(a:È) (ns:Á Int),b=óa/\yd K H a ėa/\Ôa<=63/\(∀m∈ns,vw m<=1048576)/\∀H',Q Ō H'
#print a
def walkB{l:Ýk}{n k:Nat}{q:æ}{e:Á Str}{XP:ŕi->Heap->Prop}{Q:ß->Heap->Prop}{d:DefRec}{K:ğh->Ì}{sp:Ì->Sp}{x:Str}(U:Ñl=À n)(G:n<=á)(E:áo=[])(hr:yo k äe)(hY:∀(w:ß)(h:Heap),Q w h->(Űb).In h)(F:∀(w:ß)(j:Str->Æ Value)(C:È)(h:Heap),(Űb).In h->Ţa Ę j->j d.name=À ŏ->
   ∃fd:Ļ,(∀(s:Ë)(u:Value),ŉb s fd ⟨[u],[]⟩ [(x,u)])/\∀Ç:Heap,(Űb).In Ç->åe Ę j->xL Ĭ w Űb j Ç xC k C fd [x] (sp Űb))
  (I:∀(K:Ì)(H:Hp)(a:È)(ns:Á Int),Ôa<=n->(∀m∈ns,vw m<=1048576)->yd K H a ėa->sp K óa H Źn λ_ _ _=>ô) :
  W.WalkO q e XP Q ăj d [] şm:=by
 intro w s0 s1 j mb p Y C o pm cd Z dV kV ho hd hcd R J hg O N as y A X L hlo;have e1:dV=.none:=Dflts.none R E;have e2:kV=.none:=Dflts.noKw R;subst e1 e2;obtain⟨a,vs,ns,rfl,rfl,t,i,c⟩:=Att.script_of U y L;have P:=hY w _ Y;obtain⟨fd,S,hF⟩:=F w j C _ P p.T.g J;have B:=z5m P p.T.g p.T.b p.T.builtins p.T.nolimit hg t i (Ġ c G) hr hF S (λH _ hS=>I _ H a ns c (z5o A) hS) (λ_ _ _ z=>z);refine enter_call (Ëg B λr s' hq=>?_);obtain⟨rfl,h2,h3,h4⟩:=hq;refine⟨.inl ⟨.bool Ã,.bool Ã,[],rfl,λ_=>rfl,.bool Ã,Att.post_true l _,λ_=>?_⟩,h2,h3,h4⟩;exact⟨ĳi,λ_ hm=>nomatch hm⟩
#print L3
namespace L3
open Ī ĺ ĭ L2
def z1e{Ě:æ}{w:ß}{A:ó}{E:Value->Ë->Prop}{s:Ë}{a:È}{o:Obj}{xs:Ø Value}{k:Nat}{ĸ:Str}{Q:Æ Value->Ë->Prop}(n:ā a=À o)(q:Ğb=.type ĝ)(f:Ŝa=.seq xs k)(p:ęf=Ä)(j:Őj Āa ĸ=pure Ä)(i:(["__module__",ōj,"__qualname__","__doc__","__annotations__"]:Á Str).contains ĸ=Â)(z:Ÿb=Ä)(h:∀h' tk,(∀b ob,ā b=À ob->Ğ b=À ob)->Q Ä { s with å:=h',ē:=tk })(hsz:name.length+100<=á) :Ù è A (getAttr? (.ref a) ĸ) Q E s:=by
 obtain⟨c,x,y,v⟩:=o;simp only at q f p;subst q f p;obtain⟨u,g,d,tk,t⟩:=s;have r:∀m,(⟨u,g,d,m,t⟩:Ë).TypeIs ř ĝ:=λ_=>⟨_,n,rfl⟩
 have G:=sub_AttributeError;have I:=PySem.F.slot_list_getattribute.lookup;have B:=PySem.F.slot_list_getattribute.bind ř;have H:=am_list_getattr_none;unfold getAttr? getAttrBy? getAttrBy
 repeat (any_goals (first|assumption|exact r _|((with_reducible show Ù _ _ (Źa (Value.builtin "list.__getattribute__") _ _) _ _ _);refine Öd PySem.F.slot_list_getattribute (r _) am_entry_list_getattribute (F.args_list_getattribute_2 _ _) (meets_getattribute_miss_list a xs k v ĸ _ j i hsz) ⟨n,z,λh' m e l=>?_⟩)|wp_step))
 obtain⟨C,J,K⟩:=l.there;show Ù _ _ (Ŧn _ _ _ _ _ _ _) _ _ _;unfold Ŧn
 repeat (any_goals (first|assumption|wp_step))
 exact h _ _ l.keeps
def Ll:plainId Ţn=Ã:=by decide +kernel
def bR:entryFor table Ţn=À Builtin.«dict.update.loop»:=entryFor_of_fast Ŧo
def _root_.PySem.Heap.DictOf.BZ{Ě:æ}{w:ß}{h h':Heap}{a:È}{kvs:Á ŉa}(b:Òe ŭa a kvs)(k:∀o,Ģ a=À o->Ğ a=À o):œg ŭa a kvs:=
 let ⟨o',es,ep,ho,r⟩:=b;⟨o',es,ep,k _ ho,r⟩
def y89(kvs:Á ŉa)(k:zU)(v:Value):(Ťc kvs k v).length<=Ķ+1:=by
 unfold Ťc
 split;rw[ç];omega;rw[í];exact êa _
def DL(h:Heap)(v:Value)(k:zU)(x:Value):Prop:=∃b key,v=.ref b/\Yn k key=Ã/\ğb h b #[key,x]
theorem m9{Ě:æ}{w:ß}{A:ó}{R:Ĝd->Ë->Prop}{d it l:È}{its:Á Value}(hA:Ÿb=Ä)(E:d≠l)(u:d≠it)(H:l≠it) :∀(kvs:Á ŉa) (i:Nat) (acc:Á ŉa) (s:Ë),s.heap.IsListIter it l i->ÿp l Þa->i+Ķ=Ķb->(∀j kv,kvs[j]?=À kv->∃v,its[i+j]?=À v/\DL Ý v kv.1 kv.2)->
   s.heap.DictOf ŭa d acc->Řj+Ķ<=á->(∀h' tk,œg ŭa d (ír (λa kv=>Ťc a kv.1 kv.2) acc)->(∀b o,b≠d->b≠it->ā b=À o->Ğ b=À o)->R (.ok Ïq) { s with å:=h',ē:=tk })->
   Ù è Ŵ (Builtin.«dict.update.loop» ⟨[.ref d,.ref it,ąf i,.none],[]⟩) (λfin s'=>match fin with|.done f=>R (.ok f) s'|.again c'=>c'.quiet=Ã/\đb è A c' R s') (λe s'=>R (.error e) s') s
 | [],i,acc,s,st,hl,hn,hp,hd,hz,h=>by unfold Builtin.«dict.update.loop»;refine Ò (în (by exact hA) st hl (by simp at hn ⊢;omega) λh' eb=>?_);show Ù _ _ (Builtin.Dict.addKeywords d [] >>= _) _ _ _;refine Ò ĺr;exact h h' Č (hd.BZ λo e=>eb d o u e) (λb o _ hb e=>eb b o hb e)|kv::kvs,i,acc,s,st,hl,hn,hp,hd,hz,h=>by
  obtain⟨v,hv,b,key,rfl,hk,ht⟩:=hp 0 kv rfl;unfold Builtin.«dict.update.loop»;refine Ò (Òn st hl (x:=.ref b) ĝi λh1 S sb=>?_);have m:∀c o,c≠it->ā c=À o->ŕk c=À o:=λc o N e=>(sb.2 c N).trans e
  have p:∀{c:È}{q:Ø Value},ğb Ý c q->c≠it:=λ{c q} t e=>by subst e;obtain⟨o,e1,W,_⟩:=t;obtain⟨o',e2,L,_⟩:=st;rw[e1]at e2;cases e2;rw[W]at L;exact Û (ſo L) É
  have J:∀{c:È}{q:Ø Value},ğb Ý c q->c≠d:=λ{c q} t e=>by subst e;obtain⟨o,e1,W,_⟩:=t;obtain⟨o',es,ep,e2,L,_⟩:=hd;rw[e1]at e2;cases e2;have c3:=L.1;rw[W]at c3;exact Û (ſo c3) É
  obtain⟨o,ho,N,n,C⟩:=ht;have K:=m b o (p ⟨o,ho,N,n,C⟩) ho;have U:h1.DictOf ŭa d acc:=hd.BZ λo e=>m d o u e
  refine Ò (ùb (Ò (ňd ?_)));unfold Builtin.Dict.pairItems;refine Ò (Ğe (T := ŧ) ⟨o,K,N⟩ ?_);rw[Î žb];refine Ò (ĥb K C ĵb);refine ùb (wpAny_dictSet_pairs (knd:=yx Ě w) (k:=kv.1) hk U (λh2 Q I=>?_) Å);refine ě ⟨Ŏd Ll _,Ņd bR ?_⟩;rw[Ēe Ll _];have g:∀c o,c≠d->c≠it->ā c=À o->h2.get? c=À o:=λc o y B e=>(I.2 c y).trans (m c o B e)
  have F:∀{c:È}{q:Ø Value},ğb Ý c q->ğb h2 c q:=λ{c q} t=>by have a1:=J t;have a2:=p t;obtain⟨o,e1,r⟩:=t;exact⟨o,g c o a1 a2 e1,r⟩
  refine m9 (its:=its) hA E u H kvs ê (Ťc acc kv.1 kv.2) _ ?_ ?_ (by rw[ĕ]at hn;omega) (λj O e=>?_) Q ?_ λh' tk X kp=>?_;exact S.at λo e=>(I.2 it (λz=>u îe)).trans e;obtain⟨o,e,r⟩:=hl;exact⟨o,g l o (λz=>E îe) H e,r⟩;obtain⟨v',Y,b',G,rfl,P,Z⟩:=hp Ùa O ûb;exact⟨_,by rw[show i+1+j=i+Ùa by omega];exact Y,b',G,rfl,P,F Z⟩;have:=y89 acc kv.1 kv.2;rw[ĕ]at hz;omega;exact h h' tk X λc o y B e=>kp c o y B (g c o y B e)
def sE{Ě:æ}{w:ß}{A:ó}{E:Value->Ë->Prop}{s:Ë}{l:È}{o:Obj}{its:Á Value}{n:Nat}{kvs:Á ŉa}{Q:Value->Ë->Prop}(O:Ÿb=Ä)(B:ā l=À o)(x:Ğb=.type ĝ)(z:ęf=Ä)(f:Ŝa=.seq Þa n)(R:Ķ=Ķb)(S:∀(j:Nat)(g:zU×Value),kvs[j]?=À g->∃v,its[j]?=À v/\DL Ý v g.1 g.2)(hz:Ķ<=á)(h:∀h' tk,œg ŭa Ú (ír (λa g=>Ťc a g.1 g.2) [])->(∀b o,ā b=À o->Ğ b=À o)->Q ðc { s with å:=h',ē:=tk }) :Ù è A (Źa ŀc [.ref l]) Q E s:=by
 refine callType_codes (Q₁:=λu N=>u=.ref Ú/\N={ s with å:=Ŧa { cls:=.type Ź,Ą:=.dict #[] } }) F.kt_called_dict (F.kt_typeCall_dict_1 _) F.entry_dict_init (kt_code_dict_new _ ⟨rfl,rfl⟩) ?_;rintro u N ⟨rfl,rfl⟩;have d:(Ãm).DictOf ŭa Ú []:=ńo Ý;refine⟨ĥk,F.args_dict_init_2 _ _,?_⟩;unfold Builtin.«dict.__init__»;refine Ò ?_;unfold Builtin.Dict.selfAndRest;refine Ò (wpAny_notOrdered_dict ĥk ?_);show Ù _ _ (pure (Ú,[ą l])) _ _ _;refine ě ?_;show Ù _ _ (Èn "dict.__init__" Ú Řc [] .none) _ _ _;unfold Èn;have t:=Ĝ B;have k:(Ãm).get? l=À o:=ģ _ B;refine Ò (Ğe (T := ĝ) ⟨o,k,x⟩ ?_);rw[Î žb];refine Ò (z1e (o:=o) k x f z (am_miss_of_fast Ŧo) É żp (λp I m=>?_) É);rw[Î žb];have q:p.DictOf ŭa Ú []:=d.BZ λo e=>m _ _ e
 have y:p.get? l=À o:=m _ _ k;have C:p.IsList l Þa:=⟨o,y,x,n,f⟩
 have c:Ú<p.objs.size:=by obtain⟨K,_,_,e,_⟩:=q;exact Ĝ e
 show Ù _ _ (pure () >>= _) _ _ _;refine Ò Âj;refine Ŀd (s:={ s with å:=p,ē:=I }) C ?_;refine ě ⟨Ŏd Ll _,Ņd bR ?_⟩;rw[Ēe Ll _];have H:∀b i,ā b=À i->(p.push { cls:=.type Ķo,Ą:=.fields #[.ref l,.int 0 0] }).get? b=À i:=λb i e=>ģ _ (m b i Ũg)
 refine m9 (l:=l) (its:=its) (A:=Ŵ) żp (we (įb t)) (we Űk) (we (Æa (ĉg t c))) kvs 0 [] _ ⟨_,Ŭ _ rfl,rfl,rfl⟩ ⟨o,H l o B,x,n,f⟩ (by rw[Ş];exact R) (λj g e=>?_) (q.push _) (by simpa using hz) λh' tk G U=>?_;obtain⟨v,W,b,J,rfl,P,K,e1,r⟩:=S j g e;exact⟨_,by rw[Ş];exact W,b,J,rfl,P,K,H b K e1,r⟩;refine⟨rfl,h h' tk G λb i e=>?_⟩;have L:=Ĝ e;exact U b i (we (Æa L)) (we (Æa (ĉg L c))) (H b i e)
section
variable{X:Cx}
theorem eO{k:Á ë}{σ:St}{H:Hp}{s:Ë}(I:zI X k σ H s):∀{kvs:Á ź} {vs:Á V} {its:Á Value},zo vs its->Ķ=þ->(∀(j:Nat)(kv:zU×V),kvs[j]?=À kv->∃b,vs[j]?=À (čc b)/\y_ X.K H b Ži)->
  ∃ws:Á ŉa,KV kvs ws/\∀(j:Nat)(kw:zU×Value),ws[j]?=À kw->∃v,its[j]?=À v/\DL Ý v kw.1 kw.2
 | [],_,_,_,_,_=>⟨[],.nil,λj kw e=>by cases e⟩|kv::kvs,[],_,_,h,_=>by cases h|kv::kvs,_::vs,_::its,.cons r t,h,hp=>by
  obtain⟨ws,g,f⟩:=eO I t úb λj c e=>by obtain⟨b,e1,q⟩:=hp Ùa c ûb;exact⟨b,by simpa using e1,q⟩
  obtain⟨b,e1,l⟩:=hp 0 kv rfl;cases e1;obtain⟨o,m,n,_⟩:=ãa l;obtain⟨d,x,rfl,a,i⟩:=PZ m;refine⟨(kv.1,x)::ws,.cons ⟨rfl,i⟩ g,λj kw e=>?_⟩;cases j with
  |äa=>cases e;exact⟨_,rfl,b,d,r,kL (P:=ò) (w:=X.w) a,n⟩|åa j=>obtain⟨v,e2,q⟩:=f j kw ûb;exact⟨v,by simpa using e2,q⟩
def y4j(K:Ì):Á V->Hp->VK->Prop:=λc H Q=>∃a vs kvs,c=óa/\yd K H a vs/\Ķ=þ/\(∀(j:Nat)(kv:zU×V),kvs[j]?=À kv->∃b,vs[j]?=À (.ref b)/\y_ K H b Ži)/\∀p,H p=Ä->Q Éa (γ (.dK (ZZ [] kvs)))
def sD(b:ų=Ã):wu X ŀc (y4j X.K):=by
 intro J s σ H N G Q I r h;obtain⟨a,O,c,rfl,y,k,x,q⟩:=h;obtain⟨u,rfl,C⟩:=uy r;cases(show u=ą a from C);obtain⟨g,i,⟨o,n,w,F,f,e⟩,E⟩:=Âa y;obtain⟨v,l,p⟩:=eO I i k x;have d:v.length=Ďa:=by rw[<-Ďb,k,Ĳa]
 refine sE (ĵa b) w F f e d p (by rw[d,<-Ĳa];exact E) λL t z B=>?_
 have j:(Ŕr).length<=á:=by have m:=dA c [];rw[ńe]at m;omega
 have A:Ŗq=Â:=by have:=I.big;rw[ĵn];exact we Œq
 exact⟨.ref Ú,_,Ėb (a:=Ú) (o:=.dK Ŕr) (t':=t) B Ċ (C8 j A (l.merge .nil) z),rfl,q _ Ąf⟩
#print a
def Yo:Á D->Æ (Á ħ×Á D)
 | []=>À ([],[])|.tup [k,v]::r=>(uP k).bind λk=>(Yo r).bind λp=>À (k::p.1,v::p.2)|_=>Ä
def wL{α:Type}:Á ħ->Á α->Á ħ->Á α->Á ħ×Á α
 |ks,ds,k::r,v::q=>wL Ðf (wC ks ds k v) r q|ks,ds,_,_=>(ks,ds)
def Yc:Á D->Æ D
 | [.lst xs]=>(Yo xs).bind λp=>À (.dic Åo.1 Åo.2)|_=>Ä
theorem fQ:∀{ks:Á zU}{us:Á V}{as:Á zU}{vs:Á V},ĩ=š->Õk=þ->ZZ Ĩq ľc=Ùd.1.zip Ùd.2/\Ùd.1.length=Ùd.2.length
 | [],[],as,vs,_,h=>⟨rfl,h⟩|k::ks,u::us,as,vs,h1,h2=>by have a:=fQ (ks:=ks) (us:=us) (as:=wM as k) (vs:=wC as vs k u) Ég (Uc h2);refine⟨?_,a.2⟩;show ZZ (t7 Ĩq k u) ľc=_;rw[Pv h2];exact a.1
theorem fP{K:Ì}{G:Hp}:∀{ks:Á zU}{es:Á D}{us:Á V}{as:Á zU}{ds:Á D}{vs:Á V},Þ K G es us->Þ K G ds vs->ĩ=š->Õk=þ->Þ K G ői.2 Ùd.2/\ői.1=Ùd.1
 | [],es,us,as,ds,vs,r1,r2,h1,h2=>by
  have e1:wL as ds [] es=(as,ds):=by unfold wL;rfl
  have e2:wL as vs [] us=(as,vs):=by unfold wL;rfl
  rw[e1,e2];exact⟨r2,rfl⟩
 |k::ks,es,[],as,ds,vs,r1,r2,h1,h2=>by cases h1|k::ks,[],u::us,as,ds,vs,r1,r2,h1,h2=>by cases(show _=[]from r1)|k::ks,e::es,_::_,as,ds,vs,r1,r2,h1,h2=>by obtain⟨v,r,b,c,a⟩:=r1;cases b;exact fP (ks:=ks) (es:=es) (as:=wM as k) a (r2.put c) Ég (Uc h2)
theorem fO{α:Type}:∀{ks:Á zU}{es:Á α}{as:Á zU}{ds:Á α},Õk=ď->ői.2.length<=ď+ør
 | [],es,as,ds,_=>by
  have e:wL as ds [] es=(as,ds):=by unfold wL;rfl
  rw[e];exact Åa _ _
 |_::_,[],as,ds,_=>by
  have e:∀k ks,wL as ds (k::ks) ([]:Á α)=(as,ds):=λ_ _=>by unfold wL;rfl
  rw[e];exact Åa _ _
 |k::ks,e::es,as,ds,h=>by have a:=fO (ks:=ks) (es:=es) (as:=wM as k) (ds:=wC as ds k e) (Uc h);have:=Gw (ks:=as) (vs:=ds) (k:=k) (v:=e) h;show(wL (wM as k) (wC as ds k e) ks es).2.length<=_;rw[ĕ];omega
theorem cm{K:Ì}{G:Hp}:∀{xs:Á D}{vs:Á V}{ks:Á zU}{ds:Á D},Yo xs=À (ks,ds)->Þ K G xs vs->∃us,Þ K G ds us/\ĩ=š/\ĩ=þ/\∀(j:Nat)(kv:zU×V),ľc[j]?=À kv->∃b,vs[j]?=À (čc b)/\y_ K G b Ži
 | [],_,_,_,h,r=>by cases h;cases(show _=[]from r);exact⟨[],rfl,rfl,rfl,λj kv e=>by cases e⟩|x::xs,_,ks,ds,h,r=>by
  obtain⟨v,C,rfl,t,p⟩:=r;unfold Yo at h
  split at h;rename_i e;cases e;rename_i k y A e;cases e;obtain⟨o,z,h⟩:=zH h;obtain⟨⟨q,n⟩,f,h⟩:=zH h;cases h;obtain⟨us,s,g,l,w⟩:=cm f p;obtain⟨b,B,rfl,i,⟨E,_,rfl,c,⟨d,_,rfl,a,u⟩⟩,_⟩:=t;cases(show _=[]from u);refine⟨d::us,⟨d,us,rfl,a,s⟩,by rw[ĕ,ĕ,g],by rw[ĕ,ĕ,l],λj kv e=>?_⟩;cases j with
  |äa=>cases e;refine⟨b,rfl,?_⟩;rw[<-ZW z c];exact i|åa j=>obtain⟨m,e1,e2⟩:=w j kv ûb;exact⟨m,by simpa using e1,e2⟩
  cases h
def NX{X:Cx}{e:Ñ}{fs:FA}{p pos:Pos}(f:ų=Ã)(I:Gl X Ź)(F:î Ź=Ä)(hv:Ř Ź=À ŀc)(J:SA X [e] fs)(N:Ê ĝa q12):SF X ńn (eL Yc fs):=by
 obtain⟨t,P,k⟩:=J.h;refine⟨⟨_,(Ue (sD f) I F hv ⟨P⟩ É É (by rw[ž,N];rfl)).h,λ{S U G H τ σ d Q} E c q=>?_⟩⟩;obtain⟨ds,L,c⟩:=zH c;refine k E L λvs T K g A=>?_
 unfold Yc at c
 split at c;rename_i W;obtain⟨⟨ks,es⟩,R,c⟩:=zH c;cases c;obtain⟨v,rfl,a,o,rfl,z,n,l⟩:=jo A;obtain⟨us,s,i,r,O⟩:=cm R n;obtain⟨y,B⟩:=fQ (ks:=ks) (us:=us) (as:=[]) (vs:=[]) i rfl;obtain⟨w,u⟩:=fP (ks:=ks) (as:=[]) (ds:=[]) (vs:=[]) s rfl i rfl;refine⟨a,o,Ěf us,rfl,u8 g.gh z,by rw[ŧa,i,ūa,<-i,r],λj C e=>?_,λp m=>?_⟩;obtain⟨b,e1,e2⟩:=O j C e;exact⟨b,e1,vz g.gh e2⟩;refine q p _ _ (Ăf (èb g.gh m)) (g.h.free m) (ör m) ⟨Ĥo.2,?_,?_,w,?_⟩;show zV K p (.dK (ZZ [] ľc)) p=À (.dK (Œi.1.zip Ĥo.2));rw[yb,u];exact Êa (λx=>À (HO.dK x)) y;show Œi.1.length=_;rw[u];exact B;have:=fO (ks:=ks) (es:=es) (as:=[]) (ds:=[]) rfl;have e1:ør=Őc:=by rw[<-Ýf,<-i,r]
 rw[ăd]at e1;show Œi.2.length<=á;simp only[ńe,Ş]at this;omega;cases c
open Öa şk üq
section
variable{X:Cx}{e o a b c:Ñ}{f:FE}{x:Str}{xp p pos:Pos}
def OX:Ř Ź=À ŀc:=by decide +kernel
def HW(i:Nat)(k v:FE):FS:=λσ=>(v σ).bind λy=>match σ[i]? with
 |À (À (Ã,.lst ds))=>(ûl).bind λx=>match x with
  |.int j=>(Ľj).bind λn=>À (Δa (ψa Đr))|_=>Ä
 |_=>Ä
theorem Éh{K:Ì}{G:Hp}{d:D}{v:V}(hv:za K G d v):∀{ds:Á D}{vs:Á V}(n:Nat),Þ K G ds vs->Þ K G (ñh n d) (vs.set n v)
 | [],_,_,r=>by cases(show _=[]from r);rfl|d'::ds,_,0,r=>by obtain⟨u,c,rfl,b,a⟩:=r;exact⟨v,c,rfl,hv,a⟩
 |d'::ds,_,n+1,r=>by obtain⟨u,c,rfl,b,a⟩:=r;exact⟨u,_,rfl,b,Éh hv n a⟩
def y85(A:QE X ĭa øe)(hk:SE X k fk)(hv:SE X v fv)(F:Ê Űj q12)(R:Ê (ûp ŗf v ķc Ô=pure Â) q12)(r:Ê (üp ŗf v Ô=pure Ä) q12)(m:Ê ((ŋd ŗf Ô).map (·.2)=[Ćc ên Ô]) q12):SS X şn (HW i fk fv):=by
 obtain⟨T,I,S⟩:=hk.h;obtain⟨tv,C,L⟩:=īd;refine⟨⟨_,Go C (f_ A ⟨I⟩ l7 F).h R r m,λ{U Z G H τ σ W E} K a q=>?_⟩⟩;obtain⟨y,P,a⟩:=zH a;refine L K P λw Y H1 o J=>?_
 split at a;rename_i ds f;obtain⟨O,p,a⟩:=zH a;cases O with
 |int j=>obtain⟨n,B,a⟩:=zH a;cases a;have c:=ŵ o;obtain⟨t,e,g,z,Q,N,d,l⟩:=c.ow _ _ f;refine⟨_,e,S c p λu G2 H2 b s=>?_⟩;cases(show u=_ from s);refine⟨t,Q,j,n,rfl,rfl,b.h _ _ N,by rw[œa];exact B,?_⟩;exact q _ _ _ ((c.go b).Te f e ⟨_,yb,Éh (J.mono b.g) n (d.mono b.g),by rw[Ņa];exact l⟩)
 |_=>cases a
 cases a
#print a
#print L3
namespace L2
open Ī ĺ ĭ
def D9(K:Ì)(a:È):It:=
  ⟨λi H=>∃xs x,yd K H a xs/\xs[i]?=À x,
   λi H v b=>∃p,H p=Ä/\v=.ref p/\∀xs,yd K H a xs->∃x,xs[i]?=À x/\b=zV H p Ńg,
   λi H=>∃xs,yd K H a xs/\à<=i⟩
def x2p{P:æ}{w:ß}{K:Ì}{t:Á Ñ}{kk:Nat}{pos:Pos}(a e it:È)(u:e≠it) :gC P w K (.Tuple t kk pos) ŀk [e,it] e (λi h=>(∃old,IsEnum h e it (i:Int) old)/\ąj it a i) where
 mem:=by simp
 obj:=λi h st c b=>by obtain⟨⟨old,g⟩,⟨o2,j,_,d2⟩⟩:=st;simp only[Èb,ťa,Õb]at b;rcases b with rfl|rfl;exact⟨_,g,λv q=>nomatch q⟩;exact⟨_,j,λv q=>by rw[d2]at q;cases q⟩
 Īa:=λi h h' st k=>by obtain⟨⟨old,g⟩,j⟩:=st;exact⟨⟨old,k e â _ g⟩,j.at λo x=>k it â o x⟩
 ïb:=by
  intro X U L hK b i z7 s σ H E I C st hg;subst U L hK;obtain⟨⟨old,g⟩,j⟩:=st;obtain⟨xs,x,y,ex⟩:=hg;obtain⟨Q,ru,Y,_⟩:=Âa y;have pl:=Y.isList;obtain⟨B,hxu,N⟩:=ru.get ex;have f:ār[i]?=À B:=by rw[ņd];exact hxu
  have r:e<Ú:=Ĝ g;have lt2:it<Ú:=by obtain⟨o,z,_⟩:=j;exact Ĝ z
  refine wpAny_pyNext_enum_item g j pl f u λG R p S hz1 T=>?_
  refine⟨_,rfl,wpAny_letOwnedTupleGo_enum (s:={ s with å:=G,ē:=Č+1 }) R λA F d=>?_⟩
  replace d:Ĳb e G A:=d
  have Z:ā Ú=Ä:=by
   cases q:ā Ú with
   |Ä=>rfl|À o=>exact Û Čf Üa
  have l:H Ú=Ä:=Ŧb Ċ;have O:A.get? Ú=À { cls:=.type ŧ,Ą:=.seq #[.int i Č,B] }:=Ħk _ _ (įb r) S
  have kk:∀c o,c ∉ [e,it]->ā c=À o->A.get? c=À o:=λc o b z=>by simp only[Èb,ťa,Õb,ęh]at b;exact Ħk _ _ b.1 (T c o b.1 b.2 z)
  have new:xN ò X.w (zV H Ú Ńg) A Ú Ńg:=⟨íi,[.int i Č,B],.cons ⟨_,rfl⟩ (.cons N .nil),⟨_,O,rfl,_,rfl⟩⟩;refine⟨.ref Ú,zV H Ú Ńg,I.BY (tk:=Č+1) C kk Z l new,rfl,⟨Ú,l,rfl,λxs' f=>?_⟩,⟨⟨B,?_⟩,p.at λo z=>Ħk _ _ u.symm z⟩,λc b=>?_⟩;rw[I.OA f y];exact⟨x,ex,rfl⟩;rw[show((i+1:Nat):Int)=(i:Int)+1 from rfl];exact F;rw[yB];exact(C c b).1;intro q
  have n:c<Ú:=by simp only[Èb,ťa,Õb]at b;rcases b with rfl|rfl;exact r;exact lt2
  rw[q]at n;exact Û n Üa
 done:=by
  intro X U L hK b i z7 s σ H E I C st hg;subst U L hK;obtain⟨⟨old,g⟩,j⟩:=st;obtain⟨xs,y,hend⟩:=hg;obtain⟨Q,ru,Y,_⟩:=Âa y;have pl:=Y.isList
  have f:ār[i]?=Ä:=by rw[ņd];exact Ŝb (by have:=èr;omega)
  refine wpAny_pyNext_enum_end (by exact ĵa b) g j pl f λG J=>?_
  refine⟨rfl,I.but (tk:=Č) C λc ob m eb=>?_⟩;simp only[Èb,ťa,Õb,ęh]at m;exact J c ob m.2 eb
 Çc:=λ_ _ _ _ _ st h=>by obtain⟨⟨old,g⟩,_⟩:=st;exact Üo g h
section
variable{X:Cx}
def z40(K:Ì)(c:TA):TI:=λσ H R=>c σ H λd b=>∃a xs,d=óa/\yd K b a xs/\R ŀk b
def y3c{a:Ñ}{i:TA}{p pos:Pos}{b:Á Ñ}{L:Nat}{v:Pos}(B:Gl X çc)(z:î çc=Ä)(C:PA X [a] i)(J:Ê Żh q12) :PI X (.Tuple b L v) ŀn (z40 X.K i):=by
 intro k s σ H R I h;refine Call_ (WM I B z boot_enumerate (Ŝf (zn (C pos k s σ H _ I h) λw e ⟨P,o,f,y,F⟩=>?_) Çj rfl));obtain⟨m,O,rfl,N,q⟩:=F;obtain⟨u,rfl,E⟩:=uy y;cases(show u=ą m from E);obtain⟨w,_,x,_⟩:=f.list N;refine call_enumerate_list x.isList λl g j G A=>?_
 have t:zI X k σ o { e with å:=l }:=f.kept (t':=e.toks) A;refine Üo (s:={ e with å:=l }) g ?_;generalize hn:Ĕo=n at g j G;refine⟨n+1,[n+1,n],_,_,o,rfl,t,x2p m ķ n (we Å),⟨⟨_,g⟩,j⟩,λc r=>?_,q⟩
 have d:Ĕo<=c:=by rw[hn];simp only[Èb,ťa,Õb]at r;rcases r with rfl|rfl;exact Åa _ _;exact êa _
 exact f.Z8 d (łq d)
#print a
#print L2
namespace L3
open Ī ĺ ĭ L2
noncomputable def tM(xs:Á D):Á D:=ĭb (λ(i:Nat) x=>Åc űh) (ùa à) xs
def gO(a:FE):FA:=λσ=>(îa).bind λd=>match d with
 |.lst xs=>À ĉh|_=>Ä
def Ys(xs:Á D):(ĉh).length=à:=by simp[tM]
theorem JT(xs:Á D)(i:Nat):ĉh[i]?=(xs[i]?).map λx=>Åc űh:=by unfold tM;rw[Źf];by_cases h:i<à;rw[ėi h,Ĕ h];rfl;rw[Ŝb úb,Ŝb Å];rfl
section
variable{K:Ì}{G H:Hp}
def z0w(g:yd K G a vs)(f:Þ K G xs vs):jX K ŀk G ĉh where
 go:=λi e H c b d=>by rw[Ys]at d;obtain⟨v,e1,_⟩:=Ľh (Ĕ d);exact⟨vs,v,u8 śc g,e1⟩
 ua:=λi e H x q c b d y=>by obtain⟨p,h,rfl,k⟩:=y;obtain⟨v,e1,rfl⟩:=k vs ũq;obtain⟨m,j,l⟩:=f.at e1;refine⟨zV e p Är,.tup [.int (i:Int),m],Ŋb b h,by rw[JT,j];rfl,?_⟩;have o:zw G (zV e p Är):=ąb (vL (b.free h) _);exact⟨p,Ĭm,rfl,ďc yb,⟨_,_,rfl,rfl,⟨v,_,rfl,Òl o,rfl⟩⟩,œb (n:=2) É⟩
 Ś:=λi e H c b d=>by rw[Ys]at d;exact⟨vs,u8 śc g,by rw[Űa];exact d⟩
#print a
def Na(n:Gl X çc)(m:î çc=Ä)(u:SE X a fa)(f:Ê Ãe q12):SI X ŝn ŀn (gO fa):=by
 obtain⟨t,z,k⟩:=(zB u zL f).h;refine⟨⟨_,y3c n m z (tS f),λ{A C G H τ σ ds R} K b q=>?_⟩⟩;obtain⟨x,g,b⟩:=zH b;cases x<;>first|(cases b;done)|skip
 cases b;rename_i w;refine k K (ds:=[.lst w]) (by unfold zA;rw[g];rfl) λE B F d j=>?_
 obtain⟨v,r,rfl,y,o⟩:=j;cases(show r=[]from o);obtain⟨l,c,rfl,e,s,i⟩:=y;exact⟨l,c,rfl,u8 d.gh e,q _ _ _ d (by rw[Ys];exact i) (z0w e s)⟩
#print L3
namespace L2
open Ī ĺ Öa ĭ
noncomputable def WJ(a:Int):Á Int->Á Int
 | []=>[a]|b::r=>if a<=b then a::b::r else b::WJ a r
def Ďc:Á Int->Á Int
 | []=>[]|a::r=>WJ a (Ďc r)
theorem Eh(a:Int):∀l:Á Int,(WJ a l).Perm (a::l)
 | []=>ħe _|b::r=>by
  unfold WJ
  split;exact ħe _;exact((Eh a r).cons b).trans (List.Perm.swap a b r)
theorem łc:∀l:Á Int,(Ďc l).Perm l
 | []=>ħe _|a::r=>(Eh a _).trans ((łc r).cons a)
theorem cP(a:Int):∀{l:Á Int},l.Pairwise (·<=·)->(WJ a l).Pairwise (·<=·)
 | [],_=>by simp[WJ]|b::r,h=>by
  obtain⟨e,f⟩:=Ġe h;unfold WJ
  split;rename_i c
  exact Øn ⟨λx d=>by rcases Ĺ d with rfl|d;exact c;exact Ųd c (e x d),h⟩;rename_i c;refine Øn ⟨λx d=>?_,cP a f⟩;rcases Ĺ ((Eh a r).mem_iff.mp d)with rfl|d;omega;exact e x d
theorem Em:∀l:Á Int,(Ďc l).Pairwise (·<=·)
 | []=>ĳi|a::r=>cP a (Em r)
theorem Nd:∀{a b:Á Int},a.Perm b->a.Pairwise (·<=·)->Ņq (·<=·)->a=b
 | [],b,p,_,_=>(List.nil_perm.mp p).symm|x::a,[],p,_,_=>by cases p.length_eq|x::a,y::b,p,ha,hb=>by
  obtain⟨f,i⟩:=Ġe ha;obtain⟨h,g⟩:=Ġe hb
  have e:x=y:=by have d:x∈y::b:=p.mem_iff.mp ŕc;have c:y∈x::a:=p.mem_iff.mpr ŕc;rcases Ĺ d with rfl|d;rfl;rcases Ĺ c with e|c;exact Ĝf;exact Int.le_antisymm (f y c) (h x d)
  subst e;rw[Nd (List.perm_cons x |>.mp p) i g]
theorem mE:∀{ns:Á Int}{its:Á Value},zo ėa its->Âc its ns
 | [],_,.nil=>.nil|n::ns,_,.cons r rr=>by obtain⟨t,rfl⟩:=r;exact .cons _ _ (mE rr)
theorem Ei:∀{ns:Á Int}{its:Á Value},Âc its ns->zo ėa its
 | [],_,.nil=>.nil|_::_,_,.cons _ _ r=>.cons ⟨_,rfl⟩ (Ei r)
section
variable{X:Cx}
def sO:wu X úg (λxs H Q=>∃p ns,xs=ýd/\yd X.K H p ėa/\Ôa<64/\∀l,H l=Ä->Q Řc Ťp):=by
 intro A s σ H xs z Q I r h;obtain⟨p,ns,rfl,o,x,q⟩:=h;obtain⟨u,rfl,n⟩:=uy r;cases n;obtain⟨d,i,y,j⟩:=Âa o;have b:=Ĳa;rw[ç]at b;refine sorted_ints y.isList (mE i) Å λa f t k m=>?_
 have e:f=Ďc ns:=Nd (k.trans (łc ns).symm) m (Em ns);subst e;obtain⟨c,v⟩:=sortedAll_at Ý d a;have g:(Ďc ns).length=Ôa:=(łc ns).length_eq;refine⟨.ref Ĥa,_,Ėb (t':=Č) (h':=sortedAll Ý d a) (λ_ _=>sortedAll_old) (óg _) (show xN ò X.w _ _ _ Ŀl from⟨?_,Æh,c,Ei t,?_⟩),rfl,q _ Ğp⟩;rw[ç,g];show _<=á;rw[ç]at j;exact j;rw[Ēn];exact v
#print a
#print L2
namespace L3
open Ī ĺ ĭ L2
def am:Ř Ŵb=À úg:=by decide +kernel
noncomputable def Ŏb:Á D->Æ ũg
 | []=>À []|.int i::r=>(Ŏb r).bind λa=>À ýl|_=>Ä
theorem cT:∀ns:Á Int,Ŏb þb=À ns
 | []=>rfl|n::ns=>by show(Ŏb þb).bind _=_;rw[cT ns];rfl
theorem cS:∀{ds:Á D}{ns:Á Int},Ŏb ds=À ns->ds=Ĕb ĉ
 | [],_,h=>by cases h;rfl|d::ds,ns,h=>by
  unfold Ŏb at h
  split at h;rename_i e;cases e;rename_i i r e;cases e;obtain⟨b,a,h⟩:=zH h;cases h;rw[cS a];rfl;cases h
theorem iF{K:Ì}{G:Hp}:∀{ns:Á Int}{vs:Á V},Þ K G þb vs->vs=Ĕb üe
 | [],_,r=>r|n::ns,_,r=>by obtain⟨v,c,rfl,b,a⟩:=r;rw[iF a,show v=üe n from b];rfl
theorem cQ{K:Ì}{G:Hp}:∀ns:Á Int,Þ K G þb ėa
 | []=>rfl|n::ns=>⟨.int n,_,rfl,rfl,cQ ns⟩
def CO:Á D->Æ D
 | [.lst xs]=>(Ŏb xs).bind λa=>if ĳa<64 then À ņn else Ä|_=>Ä
def y7f(s:Gl X Ŵb)(o:î Ŵb=Ä)(u:SA X [e] fs)(x:Ê ĝa q12):SF X Ńn (eL CO fs):=by
 obtain⟨t,z,k⟩:=u.h;refine⟨⟨_,(Jk sO s o am ⟨z⟩ É É (by rw[ž,x];rfl)).h,λ{A F G H τ σ d Q} E b q=>?_⟩⟩;obtain⟨y,w,b⟩:=zH b;refine k E w λI C J c n=>?_
 match y,b with
 | [.lst xs],b=>
  obtain⟨j,r,b⟩:=zH (show(Ŏb xs).bind _=À d from b)
  split at b;rename_i g;cases b;obtain⟨v,rfl,a,B,rfl,m,i,l⟩:=jo n;rw[cS r]at i l;rw[iF i]at m;refine⟨a,j,rfl,u8 Êc m,g,λp f=>q p _ _ Ŷn (Äh f) (Ŗg f) ⟨_,yb,cQ _,?_⟩⟩;rw[ç,(łc j).length_eq];rw[ç]at l;exact l;cases b
noncomputable def jd:Æ Sl->Æ Sl
 |À (_,d)=>À (Â,d)|Ä=>Ä
def Ov(τ:yE):yE:=τ.map jd
def MX(f:FT):FT:=λτ=>f (Ov τ)
def y9b(τ:yE)(k:Nat)(h:k<τ.length):(Ŏf).set k (jd τ[k])=((τ.take Œ).map jd)++τ.drop Œ:=by
 have e:τ.drop k=τ[k]::τ.drop Œ:=Öc h;have l:(Įn).length=k:=by rw[ç,èa];omega
 rw[e,Ÿf _ _ Å,l,éc,Ìg,ĉe h,ńa,ŗ];rfl
section
variable{K:Ì}{n:Nat}{G0 H0 G H G':Hp}{τ:yE}{σ:St}
def Xo(G G':Hp):Prop:=∀p,G p=Ä->G' p≠Ä->∃u,G' p=À u/\(∀xs,u≠.tup xs)/\∀o v,u≠.yK o v
def y2b(o:wv K G H d p):∃u,H p=À u/\(∀xs,u≠.tup xs)/\∀o v,u≠.yK o v:=by
 cases d with
 |lst ds=>obtain⟨a,e,_⟩:=o;exact⟨_,e,Ěn,ûn⟩
 |dic ks ds=>obtain⟨a,e,_⟩:=o;exact⟨_,e,Ěn,ûn⟩
 |_=>exact Ėd
def zr.oB(E:zr K n G0 H0 G H τ σ)(hi:τ[i]?=À žd):∃G',zr K n G0 H0 G' H Ãj σ/\zw G G'/\Xo G G':=by
 cases b with
 |Â=>
  refine⟨G,?_,ŕa _,λp a m=>Û a m⟩
  have e:τ.set i ŀd=τ:=by apply Řd;intro j;by_cases hj:j=i;subst hj;rw[Yi (by rw[ō];exact E.lt hi),hi];rw[qR hj]
  rw[e];exact E
 |Ã=>
  have L:=E.lt hi;obtain⟨p,e,g,z,o⟩:=Ťa i d hi;obtain⟨Q,l,N⟩:=y2b o;obtain⟨u,C,r⟩:=o.yK g;have J:u=Q:=by rw[C]at l;cases l;rfl
  subst J;have x:zR G0 H0 Ūj H:=E.ext.yK z g C;refine⟨zV G p u,⟨x,Ŝ,by rw[Ņa];exact ō,λj t h=>?_,λj t h=>?_,λj k e1 f q A a m=>?_⟩,vL g _,λq a m=>?_⟩;rcases vo h with⟨rfl,w⟩|⟨B,w⟩;cases w;exact⟨_,e,r⟩;obtain⟨v,s,F⟩:=ġb j t w;exact⟨v,s,F.mono Ûe⟩;rcases vo h with⟨rfl,w⟩|⟨B,w⟩;cases w;obtain⟨q,s,O,I,R⟩:=Ťa j t w;refine⟨q,s,?_,I,R.mono Ûe ÿh⟩;rw[yB ūg];exact O;subst c;exact ób i j d t q (λc=>B Ćf) hi w e s;rcases vo a with⟨rfl,w⟩|⟨B,w⟩;cases w;rcases vo m with⟨rfl,y⟩|⟨P,y⟩;cases y;exact ób j k e1 f q A w y;rcases P8 m with c|c;subst c;exact⟨u,yb,N⟩;exact Û a c
def Xo.trans(g:zw G1 G2)(a:Xo G G1)(b:Xo G1 G2):Xo G G2:=λp f i=>by
 cases e:G1 p with
 |Ä=>exact b p e i|À u=>obtain⟨c,d,h⟩:=a p f œf;exact⟨c,g _ _ d,h⟩
theorem zr.Rv(E:zr K n G0 H0 G H τ σ):∀k,k<=n->∃G',zr K n G0 H0 G' H Ŏf σ/\zw G G'/\Xo G G'
 |0,_=>⟨G,by rw[Ÿi];exact E,ŕa _,λp l q=>Û l q⟩|k+1,hk=>by
  obtain⟨o,f,i,g⟩:=zr.Rv E k Å;have a:k<τ.length:=by rw[ō];omega
  have e:=y9b τ k a
  have c:Ŏf[k]?=À τ[k]:=by rw[Śb (by rw[ç,èa];omega),ç,èa,Ńa Å,éc,List.getElem?_drop,őp,Ĕ a]
  cases t:τ[k]with
  |Ä=>
   refine⟨o,?_,i,g⟩;rw[<-e,t]
   have e2:(Ŏf).set k (jd Ä)=Įn++τ.drop k:=by apply Řd;intro j;by_cases hj:j=k;subst hj;rw[Yi (by rw[f.l2];omega),c,t];rfl;rw[qR hj]
   rw[e2];exact f
  |À s=>obtain⟨b,d⟩:=s;rw[t]at c;obtain⟨u,r,h,m⟩:=f.oB c;refine⟨u,?_,i.trans h,Ăf h m⟩;rw[<-e,t];exact r
def zr.oA(E:zr K n G0 H0 G H τ σ):∃G',zr K n G0 H0 G' H (Ov τ) σ/\zw G G'/\Xo G G':=by
 obtain⟨G',a,s,l⟩:=E.Rv n Ċ;refine⟨G',?_,s,l⟩;have e:τ.take n=τ:=by rw[<-ō];exact śd
 have e2:τ.drop n=[]:=by rw[<-ō];exact ęo
 rw[e,e2,ż]at a;exact a
noncomputable def ća(G G' a:Hp):Hp:=λp=>if G p=Ä/\G' p≠Ä then Ä else a p
theorem zR.back(s:zw G G')(d:zw G' H)(x:zR G' H G1 H1):zR G H (ća G G' G1) H1:=by refine⟨λb u e=>?_,x.h,λb u e=>?_,λp h=>?_⟩;show ţh=À u;rw[Ð (λc=>by rw[c.1]at e;cases e)];exact x.g _ _ (s _ _ e);by_cases c:G b=Ä/\G' b≠Ä;have a:ţh=À u:=e;rw[Î c]at a;cases a;have a:ţh=À u:=e;rw[Ð c]at a;exact Ÿa _ _ a;by_cases c:G p=Ä/\G' p≠Ä;have a:Ůl≠Ä:=h;rw[Î c]at a;exact Û rfl a;have a:Ůl≠Ä:=h;rw[Ð c]at a;rcases Ŭc p a with z|z;by_cases g:G p=Ä;exact Û ⟨g,z⟩ c;exact .inl g;exact .inr z
#print a
section
variable{X:Cx}{e:Ñ}{f:FE}{ft:FT}
def y87(h:ST X e ft):ST X e (MX ft):=by obtain⟨t,p,k⟩:=h.h;refine⟨⟨t,p,λ{f i G H τ σ d Q} E c q=>?_⟩⟩;obtain⟨m,a,s,l⟩:=E.oA;exact k a c λg j b=>q _ _ (zR.back s a.ext.gh b)
#print a
noncomputable def qD(i:Nat)(e:FE):FS:=λσ=>match σ[i]? with
 |À (À (Ã,.lst xs))=>(Ģd).bind λy=>match y with
  |.lst ys=>if à+Óa<=yY then À (Δa (ψa ık))else Ä|_=>Ä
 |_=>Ä
noncomputable def Os:D->D->Æ D
 |.lst x,.int k=>if 0<=k/\k<=1000000/\ŀb*Ũ<=yY then À (.lst (Ŷ Ũ x).flatten)else Ä|_,_=>Ä
def z13(h:Os x y=À d):∃xs k,x=.lst xs/\y=.int k/\(0<=k/\k<=1000000/\à*Ũ<=yY)/\d=.lst (ŝp).flatten:=by
 unfold Os at h
 split at h;rename_i xs k;by_cases c:0<=k/\k<=1000000/\à*Ũ<=yY;rw[Î c]at h;cases h;exact⟨_,_,rfl,rfl,c,rfl⟩;rw[Ð c]at h;cases h;cases h
theorem Īk{K:Ì}{G:Hp}{ds:Á D}{vs:Á V}(r:Þ K G ds vs):∀k:Nat,Þ K G (Ŷ k ds).flatten (Ŷ k vs).flatten
 |0=>rfl|k+1=>by rw[ġc,ŗd,ġc,ŗd];exact Ăd (Īk r k)
section
variable{X:Cx}{a b:Ñ}{f fa fb:FE}{x:Str}{xp pos Ĕa Úa:Pos}{e:Ñ}
def y5c(j:SF X e f)(g:Ê ĝa q12):∃t,PA X [e] t/\∀{G0 H0 G H:Hp}{τ:yE}{σ:St}{d:D}{Q:Á V->Hp->Prop},zr X.K ö G0 H0 G H τ σ->f τ=À d->(∀p G' H',zR G H G' H'->H p=Ä->G' p=Ä->wv X.K G' H' d p->Q ýd H')->t σ H Q:=by obtain⟨t,p,k⟩:=j.h;refine⟨_,Yw p Wc g,λE m q=>k E m λp l c b a i o=>?_⟩;exact q p l c b a i o
def Np(J:QE X ĭa øe)(N:SF X e f)(b:Ê (ħb ĭa "extend" Ô åj=č ĭa Ô) q12)(d:Ê Òc q12)(w:Ê ĝa q12) :SS X (Θe (.Attribute ĭa "extend" Ĕa)) (qD i f):=by
 obtain⟨t,p,k⟩:=y5c N w;refine⟨⟨_,(h8 (HE Àn PySem.F.slot_list_extend PySem.F.type_list_extend z6r J ⟨p⟩ b d (by rw[ž,w];rfl) Ći) rfl).h,λ{P T G H τ σ C E} K a q=>?_⟩⟩;unfold qD at a
 split at a;rename_i m A;obtain⟨y,O,a⟩:=zH a;cases y with
 |lst ys=>
  change (if žg+Óa<=yY then À (δd (m++ys))else Ä)=À C at a
  by_cases c:žg+Óa<=yY;rw[Î c]at a;cases a;obtain⟨B,s,g,z,v,r,n,l⟩:=K.ow _ _ A;refine⟨_,s,.inl ⟨rfl,v,Œb r⟩,k K O λp R U j S Q o=>?_⟩;obtain⟨I,L,u,_⟩:=o;refine⟨B,p,v,I,rfl,rfl,j.h _ _ r,L,by rw[ăd,u.length,ť];exact c,?_⟩;refine q _ _ _ ((ŵ j).Te A s ⟨_,yb,(n.mono j.g).append u,?_⟩);rw[ť,í];exact c;rw[Ð c]at a;cases a
 |_=>cases a
 cases a
def y7c(B:SF X a fa)(t:SE X b fb):SF X (.BinOp a .Mult b pos) (e2 Os fa fb):=by
 obtain⟨J,v,F⟩:=B.h;obtain⟨O,n,r⟩:=t.h;refine⟨⟨_,eh y29 v n,λ{K R G H τ σ d Q} E i q=>?_⟩⟩;obtain⟨x,I,i⟩:=zH i;obtain⟨y,A,i⟩:=zH i;refine F E I λp N U l P L o=>?_
 refine r (öa l) A λu W S j s=>?_
 obtain⟨T,k,rfl,rfl,c,rfl⟩:=z13 i;obtain⟨C,z,m,_⟩:=o;cases(show u=.int k from s);have e:=l.trans j;refine⟨p,k,C,rfl,rfl,j.h _ _ z,by omega,by omega,by rw[žg,ť];exact c.2.2,λw f=>?_⟩;refine q w _ _ (Żb (èb Èc f)) (Ãh f) (Ŝe f) ⟨_,yb,Īk (Ðl j.g) _,?_⟩;rw[ť,c_,ŏp];exact c.2.2
#print a
noncomputable def z7r(τ:yE):Í:=τ.all λs=>match s with
 |À (Ã,_)=>Â|_=>Ã
noncomputable def Qf:Á D->Æ (Á Í)
 | []=>À []|.bl b::r=>(Qf r).bind λa=>À (b::a)|_=>Ä
theorem af:∀{ds:Á D}{bs:Á Í},Qf ds=À bs->ds=Ĝh Ĕc
 | [],_,h=>by cases h;rfl|d::ds,bs,h=>by
  unfold Qf at h
  split at h;rename_i e;cases e;rename_i b r e;cases e;obtain⟨c,a,h⟩:=zH h;cases h;rw[af a];rfl;cases h
theorem iI{K:Ì}{G:Hp}:∀{bs:Á Í}{vs:Á V},Þ K G (Ĝh Ĕc) vs->vs=Ĝh V.bl
 | [],_,r=>r|b::bs,_,r=>by obtain⟨v,d,rfl,c,a⟩:=r;rw[iI a,show v=V.bl b from c];rfl
def CI:Á D->Æ D
 | [.lst xs]=>(Qf xs).bind λa=>À (.bl (a.all id))|_=>Ä
def z9m{K:Ì}:ZE K (hG K) CI:=λG H h j d Q s r b q=>by
 match h,b with
 | [.lst xs],b=>obtain⟨g,f,b⟩:=zH (show(Qf xs).bind _=À d from b);cases b;obtain⟨v,rfl,a,i,rfl,e,c,l⟩:=jo r;rw[af f]at c;rw[iI c]at e;exact⟨a,g,rfl,e,q _ _ _ Øa rfl⟩
structure oV(K:Ì)(H0 G H:Hp)(p:È)(qs:Á È)(nds:Á Ąc):Prop where
 hp:H p=À (Ε (qs.map čc))
 p0:H0 p=Ä
 pg:G p=Ä
 np:p ∉ qs
 nd:qs.Nodup
 ln:nds.length=ér
 el:∀(j:Nat)(q:È),qs[j]?=À q->∃ds vs,nds[j]?=À ds/\H q=À ũr/\H0 q=Ä/\G q=Ä/\Þ K G ds vs/\ď<=á
structure Ao(K:Ì)(n:Nat)(G0 H0 G H:Hp)(τ:yE)(σ:St)(i:Nat)(nds:Á Ąc):Prop where
 env:zr K n G0 H0 G H τ σ
 no:z7r τ=Ã
 x6z:∃p qs,σ[i]?=À Ğj/\oV K H0 G H p qs nds
inductive NF where
 |nx (nds:Á Ąc) (τ:yE)
 |rt (d:D)
abbrev oT:=Á Ąc->yE->Æ NF
def oU(K:Ì)(n:Nat)(b a:Hp)(E:uF)(i:Nat):NF->Prop
 |.nx nds τ=>∀σ G H,Ao K n b a G H τ σ i nds->E.nx σ H|.rt d=>∀v G H,zR b a G H->za K G d v->E.rt v H
structure NS(X:Cx)(i:Nat)(st:Õ)(f:oT):Prop where
 h:∃t,PS X st t/\∀{G0 H0 G H:Hp}{τ:yE}{σ:St}{nds:Á Ąc} {fl:NF} {E:uF},Ao X.K ö G0 H0 G H τ σ i nds->f nds τ=À fl->oU X.K ö G0 H0 E i fl->t E σ H
#print L3
namespace L2
open Ī ĺ Öa ĭ
section
variable{Ě:æ}{w:ß}{A:ó}{E:Value->Ë->Prop}
def sV{s:Ë}{a:È}{kvs:Á ŉa}{ep:Nat}{Q:Á Value->Ë->Prop}(t:Ÿb=Ä)(lo:üa=Â)(n:Õj ŭa a kvs ep)(p:Ķ<=á)(h:∀h' tk vs,þ=Ķ->(∀(j:Nat)(v:Value),vs[j]?=À v->∃k x,kvs[j]?=À (k,x)/\(ŭa).is k v=Ã)->Ú<h'.objs.size->(∀b ob,ā b=À ob->Ğ b=À ob)->Q vs { s with å:=h',ē:=tk }):Ù è A (collect ř) Q E s:=by
 unfold collect;refine Ò (wpAny_runValue (Ņd (entry_proto_collect') ?_));show Ù _ _ (newList [] >>= λl=>again (.builtin "list.__iadd__" ⟨[l,.ref a],[]⟩)) _ _ s;refine Ò (Ēi (ě ⟨Code.quiet_builtin _ ĥ,Ņd (entry_list_iadd') ?_⟩));have i:a<Ú:=n.lt_size;have f:Ú≠a:=we (įb i);rw[Ēe ĥ]
 refine W.kdl_extend (R:=λr m=>match r with
  |.ok Åf=>Ù è A (match v with
   |ą a=>(do
    let o <-load a
    match Ŝa with
    |.seq xs _=>pure xs.toList|_=>Üq šn)
   |_=>Üq šn) Q E m
  |.ok _=>ô|.error e=>E e m) (s:={ s with å:=Ŧa ťi }) (W.kdl_dict (knd:=yx Ě w) (kvs:=kvs) (ep:=ep) lo) (by exact t) (n.push _) Ú f f ðc 0 ůd (λh' tk d u q g c=>?_) p
 refine Ò (Ĺq g ?_);show Ù _ _ (pure d.toList) _ _ _;refine ě (h h' tk d.toList (by rw[ŭ];exact c.1) (λj v e=>c.2 j v (by rw[<-öb];exact e)) (Ĝ g) λb ob e=>?_);exact q b ob (we ík) Ũg
def z4c(vs:Á Value)(kvs:Á ŉa)(ns:Á Int)(b:þ=Ķ)(a:ãe (·.1)=Ĕb Ìa)(c:∀(j:Nat)(v:Value),vs[j]?=À v->∃k x,kvs[j]?=À (k,x)/\(ŭa).is k v=Ã):Âc vs ns:=by
 revert kvs ns
 induction vs with
 |nil=>
  intro kvs ns b a _;cases kvs with
  |nil=>
   cases ns with
   |nil=>exact .nil|đ n ns=>cases a
  |đ _ _=>cases b
 |đ v vs ih=>
  intro kvs ns b a c;cases kvs with
  |nil=>cases b|đ kx kvs=>
   cases ns with
   |nil=>cases a|đ n ns=>obtain⟨k,x,e,z⟩:=c 0 v rfl;cases e;have d:k=Ìa n:=Ăo.1;subst d;obtain⟨t,rfl⟩:=âo (k:=n) (v:=v) z;exact .cons _ _ (ih kvs ns (by simpa using b) Ăo.2 λj u f=>by simpa using c Ùa u (by simpa using f))
#print a
section
theorem Ew:∀{kvs:Á ź} {vs:Á ŉa},KV kvs vs->Ĕh (·.1)=ãe (·.1)
 |_,_,.nil=>rfl|_,_,.cons r t=>by rw[ŝ,ŝ,Ew t,r.1]
#print a
#print L2
namespace L3
open Ī ĺ ĭ L2
noncomputable def UO:Á ħ->Æ ũg
 | []=>À []|.inl i::r=>(UO r).bind λa=>À ýl|.inr _::_=>Ä
theorem Es:∀{ks:Á ħ} {ns:Á Int},UO ks=À ns->ks=Ĕb Ìa
 | [],_,h=>by cases h;rfl|.inl i::r,_,h=>by obtain⟨ns,a,h⟩:=zH h;cases h;rw[Es a];rfl
 |.inr _::_,_,h=>by cases h
section
variable{α:Type}{P:Á α->Prop}
def x4e(h:P []):∀us:Á α,š=0->P us
 | [],_=>h
def II{n:Nat}(h:∀a (r:Á α),áa=n->P öe):∀us:Á α,š=n+1->P us
 |a::r,e=>h a r (Šd e)
def us1(h:∀a,P [a]):∀us:Á α,š=1->P us:=II λa=>x4e (P:=λr=>P öe) Ľf
def us2(h:∀a b,P ÿe):∀us:Á α,š=2->P us:=II λa=>us1 (P:=λr=>P öe) Ľf
def us3(h:∀a b c,P [a,b,c]):∀us:Á α,š=3->P us:=II λa=>us2 (P:=λr=>P öe) Ľf
def us4(h:∀a b c d,P [a,b,c,d]):∀us:Á α,š=4->P us:=II λa=>us3 (P:=λr=>P öe) Ľf
def us5(h:∀a b c d e,P [a,b,c,d,e]):∀us:Á α,š=5->P us:=II λa=>us4 (P:=λr=>P öe) Ľf
#print a
abbrev Ou(x:Str)(st:Õ)(oc:Value)(od:Æ È)(sl:Ø Íb)(kV dc pm:Value)(an:Æ È)(cd ct:Value):Æ Obj:=À ⟨oc,od,.func (ěd x x ëe ía ń .none kV dc pm an cd ct),sl⟩
#print L3
namespace L2
open Ī ĺ Öa ĭ
def pV(K:Ì)(w:ß)(a:È)(ks:Á zU)(us:Á V):Prop:=
 üa=Â/\ĩ=š/\∃ep,∀(P:æ)(h:Heap),ŕ h->∃vs,KV ľc vs/\Ģk Ŏa a vs ep
def cg{k:zU}{v:Value}(h:Yn k v=Ã):zx øl v:=by rcases kM h with⟨i,t,rfl,rfl⟩|⟨x,t,rfl,rfl⟩;exact⟨t,rfl⟩;exact⟨t,rfl⟩
def DA(ks:Á zU):It:=⟨λi _=>i<ĩ,λi H v a=>a=H/\∃k,ks[i]?=À k/\v=kV k,λi _=>ĩ<=i⟩
theorem jf:∀{kvs:Á ź} {vs:Á ŉa},KV kvs vs->þ=Ķ
 |_,_,.nil=>rfl|_,_,.cons _ t=>by rw[ĕ,ĕ,jf t]
theorem x2q{P:æ}{w:ß}{K:Ì}{tg:Ñ}{ks:Á zU}{us:Á V}{ep:Nat}(a it:È)(O:ĩ=š)(g:∀(P:æ)(h:Heap),ŕ h->∃vs,KV ľc vs/\Ģk Ŏa a vs ep) :gC P w K tg Ål ĕc it (λi h=>h.IsKeyIter it a i ĩ ep) where
 mem:=by simp
 obj:=λi h st b j=>by
  have e:b=it:=by simpa using j
  subst e;obtain⟨o,e,c,d⟩:=st;exact⟨o,e,λv z=>by rw[d]at z;cases z⟩
 Īa:=λi h r st k=>ĵh λo e=>k it â o e
 ïb:=by
  intro X B x G R i Q s σ H E I t st J;subst B x G;obtain⟨vs,f,C⟩:=g ò Ý ś;have n:þ=ĩ:=by rw[jf f,ŧa,O,ūa]
  have S:i<þ:=by rw[n];exact J
  have q:vs[i]?=À (vs[i].1,vs[i].2):=Ĕ S
  have hk:ks[i]?=À vs[i].1:=by have e:=Êa (λl:Á zU=>l[i]?) (Ew f);simp only[Ŧ,q,ŀo,Ōi (show ĩ<=š by omega)]at e;exact Ĝf
  obtain⟨L,y,U,N,u,A⟩:=t it â;rw[<-n]at st;refine wpAny_pyNext_dict_item st C q λF r p m Z=>?_
  rw[n]at m;have Y:zI X Q σ H { s with å:=r }:=Ųa (t':=Č) (οd (Z.2 b j)) L y N u A;obtain⟨o,e,c,d⟩:=id m;exact⟨F,rfl,UH (s:={ s with å:=r }) e c d É ⟨kV vs[i].1,H,Y,cg p,⟨rfl,_,hk,rfl⟩,m,λb j=>(t b j).1⟩⟩
 done:=by
  intro X B x G R i Q s σ H E I t st J;subst B x G;obtain⟨vs,f,C⟩:=g ò Ý ś;have n:þ=ĩ:=by rw[jf f,ŧa,O,ūa]
  have q:vs[i]?=Ä:=Ŝb (by rw[n];exact J);obtain⟨L,y,U,N,u,A⟩:=t it â;rw[<-n]at st;exact wpAny_pyNext_dict_end (ĵa R) st C q λr T=>⟨rfl,Ųa (t':=Č) (λb o j e=>T b o j e) L y N u A⟩
 Çc:=λ_ _ _ _ _ st h=>wpAny_pyIter_keyiter st h
def z41(ks:Á zU):TI:=λ_ H R=>R Ål H
def y3d{X:Cx}{tg:Ñ}{x:Str}{p:Pos}{A:È}{ks:Á zU}{us:Á V}(h:wT î x üc)(g:pV X.K X.w A ks us)(t:Gl X x)(B:Ê ı q10):PI X tg ĉa (z41 ks):=by
 intro r s σ H R I m;obtain⟨a,j,C,k⟩:=g;refine zn (We (pos:=p) h t B r s σ H (λv i=>v=.ref A/\i=H) I ⟨rfl,rfl⟩) λv c ⟨y,i,d,q,e1,e2⟩=>?_
 subst e1 e2;cases(show v=ą A from q);obtain⟨u,f,l⟩:=k ò Ěd d.xY;have z:u.length=ĩ:=by rw[jf f,ŧa,j,ūa]
 refine wpAny_pyIter_dict a l ?_;rw[z];refine⟨Ţb,[Ţb],_,_,i,rfl,Ùl (t':=ęd) λb o e=>ģ _ e,x2q A _ j k,⟨_,Ŭ _ rfl,rfl,rfl⟩,λb n=>?_,m⟩;have e:b=Ţb:=by simpa using n
 subst e;exact d.Z8 Ċ ēr
#print L2
namespace L3
open Ī ĺ Öa ĭ L2
noncomputable def UN:zU->D
 |.inl i=>.int i|.inr x=>.str x
noncomputable def Zb:zU->Í
 |.inl _=>Ã|.inr x=>decide (ŀb<=yY)
def iG(ks:Á zU):FA:=λ_=>À ģq
def ci{K:Ì}{G:Hp}{k:zU}(h:Zb k=Ã):za K G (UN k) øl:=by
 cases k with
 |inl i=>rfl|inr x=>exact⟨rfl,by rw[ť];exact Ŋ h⟩
def z1m{K:Ì}{G:Hp}{ks:Á zU}(h:Ěh Zb=Ã):jX K Ål G ģq where
 go:=λi b H _ _ a=>by rw[ç]at a;exact a
 ua:=λi b H x f e d a y=>by obtain⟨rfl,k,c,rfl⟩:=y;exact⟨b,UN k,Ŀa d,by rw[Ŧ,c];rfl,ci (Ħb h k (Ġc c))⟩
 Ś:=λi b H _ _ a=>by rw[ç]at a;exact a
def Nb(h:wT î x üc)(g:pV X.K X.w A ks us)(b:Gl X x)(hk:Ěh Zb=Ã)(c:ĩ<=1000)(a:Ê ı q10):SI X tg ĉa (iG ks):=
 ⟨⟨_,y3d h g b a,λ{f e G H τ σ i R} K d q=>by cases d;exact q _ _ _ ţg (by rw[ç,ť];exact Ġ c É) (z1m hk)⟩⟩
def z1d{K:Ì}{w:ß}{a:È}{es:Á ŷb}{n:Nat}{xs:Á Str}{vs:Á Value}{us:Á V}(l:Àa a=À { cls:=.type Ź,Ą:=.dict ŕj n })(e:jM w es xs vs)(i:Ād)(d:üa=Â)(r:zo us vs) :pV K w a ãd us:=by
 have c:(ĉc ňb:Á zU).length=š:=by rw[ç,e.len,áa]
 refine⟨d,c,n,λP h f=>⟨_,Ey r c,?_⟩⟩;obtain⟨p,q⟩:=ŗk (P:=P);refine⟨_,_,f _ _ l,⟨rfl,rfl,rfl⟩,rfl,λe g=>q e Éo,p,?_⟩;rw[Mx ãi];exact Ĵi _ Ái i
#print L3
namespace L2
open Ī ĺ Öa ĭ
def aA(r d:È)(h:Heap):Prop:=h.IsValuesView r d
abbrev QT(r d:È):HO:=.ext (aA r d)
section
variable{X:Cx}{A:È}{ks:Á zU}{us:Á V}{x:Str}{p Ĕa Úa:Pos}
def lh(A:È):TE:=λ_ H Q=>∀r,H r=Ä->Q (.ref r) (zV H r (QT r A))
def y34(h:wT î x üc)(g:pV X.K X.w A ks us)(P:Gl X x)(R:Ê ı q10)(d:Ê Řh q12)(f:Ê Òc q12) :PE X Ŏl (lh A):=by
 intro E s σ H Q I N;obtain⟨i,S,T,O⟩:=g;refine Èi d f (zn (We (pos:=p) h P R E s σ H (λv t=>v=.ref A/\t=H) I ⟨rfl,rfl⟩) λv c ⟨y,t,m,J,e1,e2⟩=>?_);subst e1 e2;cases(show v=ą A from J);obtain⟨u,L,G⟩:=O ò Ěd m.xY;have l:Új ëc A u:=G.dictOf
 have C:∀b,ą A=.ref b->∃j,źd b=À j/\j.dict=Ä:=λb q=>by cases q;obtain⟨j,_,_,n,r,_⟩:=l;exact⟨j,n,r.2.1⟩
 refine⟨Ź,_,ůf,Ūf,Ům,l.typeIs,C,Ďe rfl åi⟩;refine Įe Ūf l.typeIs Śm Ġm (Þo ëc A i) ⟨⟨u,l⟩,?_⟩;have B:aA Ţb A (ŧe { cls:=.type Òj,Ą:=.fields #[.ref A] }):=⟨_,Ŭ _ rfl,rfl,rfl⟩;refine⟨.ref Ţb,_,m.laid (a:=Ţb) (o:=QT Ţb A) (t':=ęd) ĥi Ċ ⟨B,?_,λn r z k=>?_⟩,rfl,N _ m.fresh⟩;obtain⟨o,e,_⟩:=B;exact⟨o,e⟩;obtain⟨o,e,z⟩:=z;exact⟨o,k _ e,z⟩
def y4o(A:È)(us:Á V):Á V->Hp->VK->Prop:=λa H Q=>∃r,a=[.ref r]/\H r=À (QT r A)/\∀p,H p=Ä->Q Éa (γ (.lst us))
theorem cq:∀{kvs:Á ź} {vs:Á ŉa},KV kvs vs->zo (ãe (·.2)) (Ĕh (·.2))
 |_,_,.nil=>.nil|_,_,.cons r t=>.cons r.2 (cq t)
def sK(c:ų=Ã)(g:pV X.K X.w A ks us)(t:š<=1000):wu X Āa (y4o A us):=by
 intro R s σ H T P Q I r h;obtain⟨a,rfl,F,q⟩:=h;obtain⟨u,rfl,J⟩:=uy r;cases(show u=ą a from J);obtain⟨p,x,ep,E⟩:=g;obtain⟨n,i,z⟩:=E ò Ý ś;have L:ăd=š:=by rw[jf i,ŧa,x,ūa]
 obtain⟨N,_⟩:=(show xN ò X.w H Ý a (QT a A)from Đ a _ F);refine W.kdl_call (W.kdl_values (knd:=yx ò X.w) (d:=A) (r:=a) (kvs:=n) (ep:=ep)) (ĵa c) ⟨N,z⟩ (by rw[L,ť];exact Ġ t É) λS y b B C O f=>?_
 obtain⟨l,m⟩:=f
 have e:Ćd=n.map (·.2):=by
  refine Řd λj=>?_
  cases hj:Ćd[j]? with
  |Ä=>have:=List.getElem?_eq_none_iff.mp hj;rw[ŭ,l]at this;rw[Ŧ,Ŝb this];rfl|À v=>obtain⟨k,e⟩:=m j v (by rw[<-öb];exact hj);rw[Ŧ,e];rfl
 have G:zo us Ćd:=by rw[e];have:=cq i;rw[List.map_snd_zip (show š<=ĩ by omega)]at this;exact this
 refine⟨.ref Ú,_,Ėb (a:=Ú) (o:=.lst us) (t':=y) C Ċ ⟨?_,Ćd,B,G,?_⟩,rfl,q _ Ąf⟩;rw[ť];exact Ġ t É;rw[O]
#print a
#print L2
namespace L3
open Ī ĺ Öa ĭ L2
def lA(b:ų=Ã)(i:Gl X ĝ)(j:î ĝ=Ä)(h:wT î x üc)(g:pV X.K X.w A ks us)(n:Gl X x)(k:∀H,Þ X.K H ds us)(m:ď<=1000)(u:Ê ı q10)(a:Ê (ħb ěj "values" Ô (č ěj Ô)=č ěj Ô) q12)(c:Ê Òc q12) :SF X (.Call Ŀp [.Call Ém [] [] Úa] [] pos) (eC ŵg):=by
 have y:š<=1000:=by rw[(k ĸb).length];exact m
 have t:QE X (.Call Ém [] [] Úa) (lh A):=⟨y34 h g n u a c⟩;refine⟨⟨_,(Ue (p:=p) (pos:=pos) (sK b g y) i j OY (HC t fq) É É).h,λ{B C G H τ σ d Q} E z q=>?_⟩⟩;cases z;intro r s;refine⟨r,rfl,yb,λl f=>?_⟩;have e:=èb (o:=QT r A) Ìb s;have v:=Żb (èb (o:=.lst us) Èc f);exact q l _ _ v (Ãh f) (Ŝe f) ⟨us,yb,k _,by rw[ť];exact Ġ m É⟩
#print L3
namespace L2
open Ī ĺ Öa ĭ
section
variable{Ě:æ}{w:ß}{A:ó}{E:Value->Ë->Prop}{s:Ë}
open HT in
def z1f{t f:È}{a:Ø Value}{l j:Value}{lo hi:Æ Int}{Q:Value->Ë->Prop}(b:ğb Ý t a)(k:Ùg f l j .none)(pl:ŏb l lo)(o:ŏb j hi)(i:sIx ì 0 lo=0/\sIx ì ì hi=ì)(h:Q Æf s):Ù è A ėp Q E s:=by
 obtain⟨m,d,g,n⟩:=id k;have e:Łb İ ýf:=⟨m,d,g⟩;unfold Öe
 try with_reducible refine ùb ?_
 first|refine Ò ĵb|skip
 refine Ò (Ûo Óe É ?_)
 refine Ò (ĵd (ĸ:=åd Ôj) Óe Œf
  (Ãd Œf Óe Ĵn ?_ źm))
 show Ù _ _ Űl _ _ s;refine Ò (úp b ?_);refine Ò Őq;rw[Î É];refine Ò (lD k pl o ?_)
 have c:Ōh=Ã:=by rw[i.1,i.2,Ŏp];simp
 show Ù _ _ Ŗm _ _ s;rw[Î c];have p:Łb Æf ŧ:=Óe;unfold Builtin.Tuple.tupleIsExact;exact Ò (Ò (Ğe p (Ζa (Őd Ťh))))
#print a
def y4t(K:Ì):V->Æ Int->Æ Int->Hp->VK->Prop:=λx c b H Q=>∃a xs,x=.ref a/\y_ K H a xs/\
 (Ĵ à 0 c=0/\Ĵ à à b=à)/\Q ř H
def y7n:kB X (y4t X.K):=by
 intro n s σ H x v w m p o t Q I f i j k h;obtain⟨a,g,rfl,l,e,q⟩:=h;cases f;obtain⟨c,r,d,u⟩:=ãa l;have b:Ĵe=Ďa:=by rw[ğ];exact āp
 refine⟨ŧ,_,Ëm,ĥk,?_⟩;exact z1f d i j k (by rw[b];exact e) ⟨.ref a,H,I,rfl,q⟩
#print L2
namespace L3
open Ī ĺ Öa ĭ L2
def Ye(d:D)(lo hi:Æ Int):Æ D:=match d with
 |.tup xs=>À År|d=>Qr d lo hi
def ZJ(a:FE)(lo hi:FO):FE:=λσ=>(îa).bind λd=>(Žk).bind λl=>(ſk).bind λh=>Ye d l h
def so{α:Type}{xs:Á α}{lo hi:Æ Int}(c:Ĵ à 0 lo=0/\Ĵ à à hi=à):tu xs lo hi=xs:=by unfold tu;rw[c.1,c.2,Ŏp,Äp,śd]
theorem y71{X:Cx}{a:Ñ}{y:FE}{pos:Pos}{lo hi:Æ Ñ}{w fh:FO}{p2:Pos}(K:SE X a y)(o:SO X lo w)(t:SO X hi fh):SE X ën (ZJ y w fh):=by
 obtain⟨O,F,L⟩:=K.h;obtain⟨Z,N,B⟩:=o.h;obtain⟨U,C,I⟩:=t.h;refine⟨⟨_,e_ (lC.or y7n) F N C,λ{P T G H τ σ d Q} E b q=>?_⟩⟩;obtain⟨x,A,b⟩:=zH b;obtain⟨l,o,b⟩:=zH b;obtain⟨h,t,b⟩:=zH b;refine L E A λv S H1 r J=>B (öa r) o λG2 W u=>I ((öa r).go u) t λR Y e=>?_
 have n:=r.trans (îh e);have s:=J.mono Śo;cases x with
 |lst xs=>cases b;obtain⟨a,m,rfl,k,i,f⟩:=s;refine .inl (.inl ⟨a,m,rfl,u8 Èc k,λp j=>q _ _ _ ån ⟨p,_,rfl,Œb yb,(ĥq).mono Ýp,Ġ Đh f⟩⟩)
 |tup xs=>cases b;obtain⟨a,m,rfl,k,i,f⟩:=s;by_cases c:Ĵ à 0 l=0/\Ĵ à à h=à;refine .inr ⟨a,m,rfl,vz Èc k,by rw[Ĳa];exact c,?_⟩;rw[so c]at q;exact q _ _ _ n ⟨a,m,rfl,k,i,f⟩;refine .inl (.inr (.inl ⟨a,m,rfl,vz Èc k,by rw[Ĳa];exact c,λp j=>?_⟩));exact q _ _ _ ån ⟨p,_,rfl,ďc yb,(ĥq).mono Ýp,Ġ Đh f⟩
 |str z=>cases b;obtain⟨rfl,f⟩:=s;exact .inl (.inr (.inr ⟨z,rfl,f,q _ _ _ n ⟨rfl,Ġ (C0 ..) f⟩⟩))
 |_=>cases b
#print L3
namespace L2
open Ī ĺ Öa ĭ
section
variable{X:Cx}{z7:Á ë}{σ:St}{H:Hp}{s:Ë}{a:È}{o:Obj}{kvs:Á ź}
def zI.swap(I:zI X z7 σ H s)(e:H a=À u)(t:∀x,u≠.own x)(o:∀xs,u≠.tup xs)(k:∀ps,ĕb a≠À Õf)(r:∀ob v,ĕb a≠À űj)(l:∀xs,ĕb a≠À Őa)(g:xN ò X.w Ėq Ý a u'):zI X z7 σ Ėq s:=by
 have f:∀b,H b=Ä->b≠a:=λb d z=>by subst z;rw[e]at d;cases d
 refine⟨I.ok,Ŷc,ãb,⟨ôg,ŭe,λb ob q n B=>?_,Še,λb xs q=>?_,λb ob v q=>?_,λb ps q=>?_⟩,ħa,ŝa,?_,λx c q=>?_,λp m=>?_,λb v q=>?_,Ŕb⟩;have:=Ŧd b ob q n B;rw[yB (f b this)];exact this;have d:b≠a:=λz=>by subst z;exact l xs q
 rw[yB d];exact Âf b xs q;have d:b≠a:=λz=>by subst z;exact r ob v q
 rw[yB d];exact Ãf b ob v q;have d:b≠a:=λz=>by subst z;exact k ps q
 rw[yB d];exact Äf b ps q;rw[yB (f _ âb)];exact âb;rw[yB (f _ (Ìc x c q))];exact Ìc x c q;obtain⟨j,i,A⟩:=ša p m;exact⟨j,by rw[yB (f _ i)];exact i,A⟩;by_cases d:b=a;subst d;rw[yb]at q;cases q;exact g;rw[yB d]at q;refine(Đ b v q).Y9 (λc w _ z=>z) (λc z=>?_) λc xs z=>?_;have h:c≠a:=λy=>by subst y;rw[e]at z;cases z;exact t _ rfl
 rw[yB h];exact z;have h:c≠a:=λy=>by subst y;rw[e]at z;cases z;exact o _ rfl
 rw[yB h];exact z
def zI.VL(I:zI X z7 σ H s)(e:H a=À Ŀ):(∀ps,ĕb a≠À Õf)/\(∀ob v,ĕb a≠À űj)/\∀xs,ĕb a≠À Őa:=by refine⟨λps z=>?_,λob v z=>?_,λxs z=>?_⟩;obtain⟨_,q⟩:=Äf a ps z;rw[e]at q;cases q;have q:=Ãf a ob v z;rw[e]at q;cases q;have q:=Âf a xs z;rw[e]at q;cases q
def zI.up(I:zI X z7 σ H s)(e:H a=À Ŀ):∃o,zI X z7 σ Ēg s:=by obtain⟨d,j,i⟩:=I.VL e;obtain⟨z,y,h,r,b,f,k,g,c⟩:=(show xN ò X.w H Ý a Ŀ from Đ a _ e);exact⟨b,I.swap e ûa ûa d j i ⟨g,z,y,h,r,b,f,k,g,c⟩⟩
def zI.dn(I:zI X z7 σ H s)(e:H a=À Ž)(n:(∀ps,ĕb a≠À Õf)/\(∀ob v,ĕb a≠À űj)/\∀xs,ĕb a≠À Őa):zI X z7 σ Ťe s:=by obtain⟨b,i,h⟩:=n;obtain⟨_,z,y,f,r,ob,d,j,g,c⟩:=(show xN ò X.w H Ý a Ž from Đ a _ e);exact I.swap e ûa ûa b i h ⟨z,y,f,r,ob,d,j,g,c⟩
#print a
def uF.dn(D:uF)(a:È)(o:Obj)(kvs:Á ź):uF:=
 ⟨λσ H=>H a=À Ž/\źa σ Ťe,λv H=>H a=À Ž/\D.rt v Ťe,λσ H=>H a=À Ž/\D.bk σ Ťe,λσ H=>H a=À Ž/\D.ct σ Ťe⟩
def y5b(i:Nat)(t:TS):TS:=λD σ H=>∃a,σ[i]?=À Ïf/\((∃o kvs,H a=À Ž/\t D σ H)\/∃kvs,H a=À Ŀ/\∀o,t (D.dn a o kvs) σ Ēg)
def y3w{X:Cx}{st:Õ}{t:TS}{i:Nat}(h:PS X st t):PS X st (y5b i t):=by
 intro k s σ H D I d;obtain⟨a,p,⟨_,_,_,d⟩|⟨m,e,d⟩⟩:=d;exact h k s σ H D I d
 .obtain⟨o,l⟩:=I.up e;refine zn (h k s σ _ _ l (d o)) λf n g=>?_
  cases f with
  |next=>obtain⟨σ',j,b,c,q⟩:=g;exact⟨σ',_,b.dn c ñf,q⟩
  |brk=>obtain⟨σ',j,b,c,q⟩:=g;exact⟨σ',_,b.dn c ñf,q⟩
  |Éc=>obtain⟨σ',j,b,c,q⟩:=g;exact⟨σ',_,b.dn c ñf,q⟩
  |ret u=>obtain⟨v,σ',j,b,r,c,q⟩:=g;exact⟨v,σ',_,b.dn c ñf,r,q⟩
def y90(i:Nat)(t:TE):TE:=λσ H Q=>∃a,σ[i]?=À Ïf/\((∃o kvs,H a=À Ž/\t σ H Q)\/∃kvs,H a=À Ŀ/\∀o,t σ Ēg λv b=>b a=À Ž/\Q v (zV b a Ŀ))
def y30(h:PE X e t):PE X e (y90 i t):=by intro c s σ H Q I b;obtain⟨a,m,⟨_,_,_,b⟩|⟨j,e,b⟩⟩:=b;exact h c s σ H Q I b;obtain⟨o,f⟩:=I.up e;exact zn (h c s σ _ _ f (b o)) λu l ⟨v,k,d,r,g,q⟩=>⟨v,_,d.dn g ñf,r,q⟩
def UE(ok:xt P w H h)(e:H a=À Ž)(d:Ŝa=.dict es ep):üa=Â/\∃vs,KV kvs vs/\Ģk Ŏa a vs ep:=by obtain⟨g,z,y,vs,r,j,b,i,f,c⟩:=(show xN P w H h a Ž from ok a _ e);rw[g]at f;cases f;refine⟨y,vs,r,o,b,g,c.1,?_,c.2.2⟩;have e1:=c.2.1;rw[d]at e1;cases e1;exact d
theorem Ex:∀{kvs:Á ź} {vs:Á ŉa} {i:Nat} {k:zU} {x:Value},KV kvs vs->vs[i]?=À (k,x)->∃u,kvs[i]?=À (k,u)/\zx u x
 |_,_,_,_,_,.nil,e=>by cases e|_,_,0,_,_,.cons r t,e=>by cases e;obtain⟨b,a⟩:=r;exact⟨_,Êa À (Prod.ext b rfl),a⟩
 |_,_,i+1,_,_,.cons _ t,e=>Ex (i:=i) t ûb
#print L2
namespace L3
open Ī ĺ Öa ĭ L2
structure Tw(a:È)(kvs:Á ź)(G G':Hp):Prop where
 ne:∀b,b≠a->G' b=G b
 l:Rd G a Ŀ
 r:Rd G' a Ŀ
section
variable{K:Ì}{a:È}{o:Obj}{kvs:Á ź}{G G' H H' G0 H0:Hp}
def Rd.tw(t:Tw a kvs G G')(c:∀ob v,u≠.yK ob v)(h:Rd G b u):Rd G' b u:=by
 by_cases hb:b=a;subst hb
 have e:u=.dK kvs:=by rcases h with h|⟨ob,h⟩<;>rcases t.l with l|⟨oc,l⟩<;>rw[l]at h;cases h;rfl;cases h;exact Û rfl (c oc _);cases h;cases h;rfl
 rw[e];exact t.r;rcases h with h|⟨ob,h⟩;exact .inl (by rw[t.ne b hb];exact h);exact .inr ⟨ob,by rw[t.ne b hb];exact h⟩
theorem Tw.at{b:È}{u:HO}(t:Tw a kvs G G')(h:G b=À u)(c:u≠.dK kvs)(d:∀o,u≠.yK o Ŀ):G' b=À u:=by by_cases hb:b=a;subst hb;rcases t.l with l|⟨oc,l⟩<;>rw[l]at h;cases h;exact Û rfl c;cases h;exact Û rfl (d oc);rw[t.ne b hb];exact h
theorem za.tw(t:Tw a kvs G G'):∀{d:D}{v:V},za K G d v->za K G' d v:=λ{d}=>by refine Ĺf (P:=λd=>∀v,za K G d v->za K G' d v) ŗq šp şp Şp ?_ ?_ ?_ ?_ ?_ d _;rintro g f v ⟨b,c,e,q,r,l⟩;refine⟨b,c,e,?_,ďb f r,l⟩;rcases q with q|q;exact .inl Ũo;exact .inr q;rintro g f v ⟨b,c,e,q,r,l⟩;refine⟨b,c,e,?_,ďb f r,l⟩;rcases q with q|q;exact .inl Ũo;exact .inr q;rintro m g f v ⟨b,c,e,q,z,r,l⟩;exact⟨b,c,e,Rd.tw t Ûm q,z,ďb f r,l⟩;rintro x v ⟨b,C,e,n,h⟩;exact⟨b,C,e,n,t.at h Įa ûa⟩;rintro x k g f v ⟨b,C,j,c,e,n,h,l,r⟩;exact⟨b,C,j,c,e,n,t.at h Įa ûa,l,ďb f r⟩
theorem Reps.tw(t:Tw a kvs G G')(h:Þ K G ds vs):Þ K G' ds vs:=ďb (λ_ _ _=>za.tw t) h
theorem wv.tw(t:Tw a kvs G G')(f:H' p=H p)(c:wv K G H d p):wv K G' H' d p:=by
 cases d with
 |lst ds=>obtain⟨b,e,r,l⟩:=c;exact⟨b,by rw[f];exact e,r.tw t,l⟩
 |dic ks ds=>obtain⟨b,e,z,r,l⟩:=c;exact⟨b,by rw[f];exact e,z,r.tw t,l⟩
 |_=>exact c.elim
def P3(e:G a=À Ŀ):Tw a kvs G ťe:=⟨λb c=>yB c,.inl e,.inr ⟨o,yb⟩⟩
def Md(e:G a=À Ž):Tw a kvs G (zV G a Ŀ):=⟨λb c=>yB c,.inr ⟨o,e⟩,.inl yb⟩
noncomputable def XB(a:È)(f:HO)(H0:Hp):Hp:=λb=>if b=a then(H0 a).bind λ_=>À f else H0 b
def m8(h:b≠a):XB a f H0 b=H0 b:=Ð h
def Me:XB a f H0 b=Ä↔H0 b=Ä:=by
 unfold XB;by_cases h:b=a;subst h;rw[Î rfl];cases H0 b with
 |Ä=>exact⟨λ_=>rfl,λ_=>rfl⟩|À u=>exact⟨λz=>(nomatch z),λz=>(nomatch z)⟩
 rw[Ð h]
theorem x4b(h:XB a f H0 a=À u):u=f:=by
 unfold XB at h;rw[Î rfl]at h;cases e:H0 a with
 |Ä=>rw[e]at h;cases h|À w=>rw[e]at h;cases h;rfl
def zr.up(E:zr K n G0 H0 G H τ σ)(e:G a=À Ŀ):zr K n ťe ìj ťe Ēg τ σ:=by
 have t:=P3 (o:=o) e;refine⟨⟨ŕa _,λb u h=>?_,M1 Ìb,λ_ h=>.inl h⟩,Ŝ,ō,λi d h=>?_,λi d h=>?_,ób⟩;by_cases hb:b=a;subst hb;rw[yb,x4b h];rw[m8 hb]at h;rw[yB hb];exact ùh _ _ h;obtain⟨v,c,r⟩:=ġb i d h;exact⟨v,c,r.tw t⟩;obtain⟨p,c,g,z,j⟩:=Ťa i d h;have f:p≠a:=λz=>by subst z;rw[e]at g;cases g
 exact⟨p,c,by rw[yB f];exact g,Me.mpr z,j.tw t (yB f)⟩
def zR.XW(x0:zR G0 H0 G H)(e:G a=À Ŀ)(x:zR ťe ìj G' H'):G' a=À Ž/\H' a=À Ž/\zR G0 H0 Ĥp Ģp:=by have c:G' a=À Ž:=x.g _ _ yb;refine⟨c,Ÿa _ _ c,x0.rebase ⟨λb u h=>?_,λb u h=>?_,M1 Ÿa,λp h=>?_⟩⟩;by_cases hb:b=a;subst hb;rw[e]at h;cases h;exact yb;rw[yB hb];exact x.g _ _ (by rw[yB hb];exact h);by_cases hb:b=a;subst hb;have:=x0.h _ _ h;rw[x0.gh _ _ e]at this;cases this;exact yb;rw[yB hb];exact x.h _ _ (by rw[m8 hb];exact h);by_cases hb:p=a;subst hb;exact .inl œf;rw[yB hb]at h;rcases Ŭc p h with z|z;rw[yB hb]at z;exact .inl z;exact .inr (Me.mp z)
theorem zr.XW(E:zr K n G0 H0 G H τ σ)(e:G a=À Ŀ)(b:zr K n ťe ìj G' H' τ' σ'):H' a=À Ž/\zr K n G0 H0 Ĥp Ģp τ' σ':=by
 obtain⟨j,k,x⟩:=E.ext.XW e b.ext;have t:=Md j;refine⟨k,x,b.l1,b.l2,λi d h=>?_,λi d h=>?_,b.ap⟩;obtain⟨v,c,r⟩:=b.fr i d h;exact⟨v,c,r.tw t⟩;obtain⟨p,c,g,z,l⟩:=b.ow i d h;have f:p≠a:=λz=>by subst z;rw[j]at g;cases g
 exact⟨p,c,by rw[yB f];exact g,Me.mp z,l.tw t (yB f)⟩
#print a
def Kn(K:Ì)(i:Nat)(τ:yE)(σ:St)(G:Hp):Prop:=∃a o ks ds vs,τ[i]?=À õi/\σ[i]?=À Ïf/\G a=À Łi/\ĩ=þ/\Þ K G ds vs/\ď<=á
structure Av(X:Cx)(i:Nat)(st:Õ)(f:FS):Prop where
 h:∃t,PS X st t/\∀{G0 H0 G H:Hp}{τ:yE}{σ:St}{fl:Fl}{E:uF},zr X.K ö G0 H0 G H τ σ->Kn X.K i τ σ G->f τ=À fl->u_ X.K ö G0 H0 E fl->t E σ H
structure Au(X:Cx)(i:Nat)(e:Ñ)(f:FE):Prop where
 h:∃t,PE X e t/\∀{G0 H0 G H:Hp}{τ:yE}{σ:St}{d:D}{Q:VK},zr X.K ö G0 H0 G H τ σ->Kn X.K i τ σ G->f τ=À d->(∀p G' H',zR G H G' H'->H p=Ä->G' p=Ä->wv X.K G' H' d p->Q Éa H')->t σ H Q
structure OI(X:Cx)(i:Nat)(tg Ŕ:Ñ)(f:FA):Prop where
 h:∃wi,PI X tg Ŕ wi/\∀{G0 H0 G H:Hp}{τ:yE}{σ:St}{ds:Á D}{R:It->Hp->Prop},zr X.K ö G0 H0 G H τ σ->Kn X.K i τ σ G->f τ=À ds->(∀J G' H',zR G H G' H'->ď<=á->jX X.K J G' ds->R J H')->wi σ H R
def YF(i:Nat)(f:yE->Æ α):Prop:=∀τ x,f τ=À x->∃ks ds,τ[i]?=À õi
def y84{X:Cx}{i:Nat}{st:Õ}{f:FS}(h:Av X i st f)(hk:YF i f):SS X st f:=by
 obtain⟨t,Q,k⟩:=h.h;refine⟨⟨_,y3w (i:=i) Q,λ{R S G H τ σ N E} K w q=>?_⟩⟩;obtain⟨B,F,n⟩:=hk _ _ w;obtain⟨v,s,a,I,rfl,L,A,y,C⟩:=K.fr i _ n;refine⟨a,s,?_⟩;rcases L with e|⟨o,e⟩;refine .inr ⟨_,ña _ _ e,λo=>?_⟩;have P:=K.up (o:=o) e;refine k P ⟨a,o,B,F,I,n,s,yb,A,y.tw (P3 e),C⟩ w ?_;cases N with
 |nx τ'=>exact λσ' g c z=>let ⟨h1,h2⟩:=K.XW e z;⟨h1,q σ' _ _ h2⟩|bk τ'=>exact λσ' g c z=>let ⟨h1,h2⟩:=K.XW e z;⟨h1,q σ' _ _ h2⟩|ct τ'=>exact λσ' g c z=>let ⟨h1,h2⟩:=K.XW e z;⟨h1,q σ' _ _ h2⟩|rt m d=>
  cases m with
  |Â=>intro v g c x r;obtain⟨b,l,u⟩:=K.ext.XW e x;exact⟨l,q v _ _ u (r.tw (Md b))⟩
  |Ã=>
   intro p g c x O j m;obtain⟨b,l,u⟩:=K.ext.XW e x;have J:p≠a:=λz=>by subst z;rw[b]at j;cases j
   exact⟨l,q p _ _ u (Me.mp O) (by rw[yB J];exact j) (m.tw (Md b) (yB J))⟩
 exact .inl ⟨o,_,ña _ _ e,k K ⟨a,o,B,F,I,n,s,e,A,y,C⟩ w q⟩
def y7d(h:Au X i e f)(hk:YF i f):SF X e f:=by
 obtain⟨t,T,k⟩:=h.h;refine⟨⟨_,y30 (i:=i) T,λ{U W G H τ σ d Q} K A q=>?_⟩⟩;obtain⟨l,I,s⟩:=hk _ _ A;obtain⟨v,y,a,m,rfl,N,C,B,E⟩:=K.fr i _ s;refine⟨a,y,?_⟩;rcases N with e|⟨o,e⟩;refine .inr ⟨_,ña _ _ e,λo=>?_⟩;have P:=K.up (o:=o) e;refine k P ⟨a,o,l,I,m,s,y,yb,C,B.tw (P3 e),E⟩ A λp J R x F j S=>?_
 have O:H a=À _:=ña _ _ e;have n:J a=À (.yK o Ůi):=x.g _ _ yb
 have r:H p=Ä:=by by_cases z:p=a;subst z;rw[n]at j;cases j;rw[yB z]at F;exact F
 have L:p≠a:=λz=>by subst z;rw[n]at j;cases j
 refine⟨Ÿa _ _ n,q p (zV J a Ůi) (zV R a Ůi) ⟨λb u c=>?_,λb u c=>?_,M1 Ÿa,λb c=>?_⟩ r (by rw[yB L];exact j) (S.tw (Md n) (yB L))⟩;by_cases z:b=a;subst z;rw[e]at c;cases c;exact yb;rw[yB z];exact x.g _ _ Ăn;by_cases z:b=a;subst z;rw[O]at c;cases c;exact yb;rw[yB z];exact x.h _ _ Ăn;by_cases z:b=a;subst z;exact .inl œf;rw[yB z]at c;rcases Ŭc b c with w|w;rw[yB z]at w;exact .inl w;rw[yB z]at w;exact .inr w;exact .inl ⟨o,_,ña _ _ e,k K ⟨a,o,l,I,m,s,y,e,C,B,E⟩ A q⟩
def y82(R:ód ü X.A Ô Ĥ)(hc:ų=Ã)(hi:OI X i tg Ŕ fs)(hg:SG X tg fg)(I:tj X ŵc g)(hs:Ê (∀x,Īb Ŕ Ô x=pure x) q11):Av X i Öi űp:=by
 obtain⟨ti,Z,U⟩:=đc;obtain⟨Y,pg,L⟩:=hg.h;obtain⟨tb,u,v⟩:=I.h;refine⟨⟨_,Gq R hc Z pg u hs,λ{G0 t G H τ σ p E} K Q a q=>?_⟩⟩;obtain⟨b,hd,a⟩:=zH a;refine U K Q hd λJ n Ha P _ f=>?_
 have r:=ŵ P;have j:=Œk r.ext q;refine⟨λi m σ H=>m=Ű-i/\i<=Ű/\∃τ G,zr X.K ö n t G H τ σ/\ZY fg g Ţk τ=À p,⟨Ű,rfl,ęa _,τ,n,r.zC,a⟩,?_⟩;rintro i m σ H ⟨rfl,hle,τ,G,K,a⟩;by_cases hlt:i<Ű;refine .inr ⟨f.go i G H Ăc ña hlt,λσ' c=>∃τ G,zr X.K ö n t G c τ σ'/\ZY fg g çk τ=À p,λσ' c z=>⟨Ű-ê,Ãg _ _ hlt,rfl,hlt,z⟩,λx c y=>?_⟩;obtain⟨G3,d,F,s,B⟩:=f.ua i G H x c Ăc ña hlt y;rw[Öc hlt]at a;rw[Ĕ hlt]at s;cases s;obtain⟨τ1,C,a⟩:=zH (show(fg _ τ).bind _=_ from a);obtain⟨O,T,a⟩:=zH a;refine L (ŵ F) B C λσ1 W=>v W T ?_
 cases O with
 |nx τ2=>exact λσ2 l S k=>⟨τ2,l,k,a⟩|ct τ2=>exact λσ2 l S k=>⟨τ2,l,k,a⟩|bk τ2=>cases a;exact j|rt o d=>cases a;exact ÿf j ûa ûa ûa rfl
 have e:ĵg i=[]:=Åd ği;rw[e]at a;cases a;exact .inl ⟨f.stop i G H Ăc ña Å,j _ _ _ K⟩
def z08(h:YF i fs):YF i űp:=λτ x c=>by obtain⟨a,b,_⟩:=zH c;exact h τ a b
#print L3
namespace L2
open Ī ĺ Öa ĭ
noncomputable def DF(a:È)(o:Obj)(kvs:Á ź):It:=⟨λi H=>H a=À Ž/\i<Ķ,λi H v b=>b=H/\∃k,kvs[i]?=À (k,v),λi H=>H a=À Ž/\Ķ<=i⟩
def x2o{P:æ}{w:ß}{K:Ì}{tg:Ñ}{kvs:Á ź}{o:Obj}{es:Ø ŷb}{ep:Nat}(a it:È)(d:Ŝa=.dict es ep) :gC P w K tg Æq ĕc it (λi h=>h.IsValIter it a i Ķ ep) where
 mem:=by simp
 obj:=λi h st b j=>by
  have e:b=it:=by simpa using j
  subst e;obtain⟨o,e,c,d⟩:=st;exact⟨o,e,λv z=>by rw[d]at z;cases z⟩
 Īa:=λi h q st k=>ĵh λo e=>k it â o e
 ïb:=by
  intro X B x F N i L s σ H E I r st n;subst B x F;obtain⟨_,g,f,C⟩:=UE Đ n.1 d;have m:Ďa=Ķ:=jf f;have O:i<Ďa:=by rw[m];exact n.2
  have p:g[i]?=À (g[i].1,g[i].2):=Ĕ O;obtain⟨u,Y,U⟩:=Ex f p;obtain⟨G,y,R,J,t,A⟩:=r it â;rw[<-m]at st;refine wpAny_pyNext_values_item st C p λq l T=>?_
  rw[m]at l;have S:zI X L σ H { s with å:=q }:=Ųa (t':=Č) (οd (T.2 b j)) G y J t A;obtain⟨o,e,c,d⟩:=id l;exact⟨g[i].2,rfl,UH (s:={ s with å:=q }) e c d É ⟨u,H,S,U,⟨rfl,_,Y⟩,l,λb j=>(r b j).1⟩⟩
 done:=by intro X B x F N i L s σ H E I r st n;subst B x F;obtain⟨_,g,f,C⟩:=UE Đ n.1 d;have m:Ďa=Ķ:=jf f;have p:g[i]?=Ä:=Ŝb (by rw[m];exact n.2);obtain⟨G,y,R,J,t,A⟩:=r it â;rw[<-m]at st;exact wpAny_pyNext_values_end (ĵa N) st C p λq Q=>⟨rfl,Ųa (t':=Č) (λb o j e=>Q b o j e) G y J t A⟩
 Çc:=λ_ _ _ _ _ st h=>wpAny_pyIter_valiter st h
def z3z(i:Nat):TI:=λσ H R=>∃a o kvs,σ[i]?=À Ïf/\H a=À Ž/\R Æq H
def y3b{X:Cx}{tg:Ñ}{x:Str}{p d f:Pos}{i:Nat}(O:X.N[i]?=À x)(hv:jW éa x)(Y:Ê ı q10)(B:Ê řb q10)(j:Ê Řh q12)(k:Ê ũm q12) :PI X tg (.Call (.Attribute ĉa "values" d) [] [] f) (z3z i):=by
 intro E s σ H R I u;obtain⟨a,o,l,U,e,u⟩:=u;refine Èi j k (zn (Wf (pos:=p) O hv Y B E s σ H (λv m=>v=.ref a/\m=H) I ⟨_,U,rfl,rfl⟩) λv c ⟨y,m,z,T,e1,e2⟩=>?_);subst e1 e2;cases(show v=ą a from T);obtain⟨g,_,_,_,_,o',Z,ep,J,_,h,_⟩:=(show xN ò X.w m Ěd a ůo from z.zf a _ e);rw[g]at J;cases J;obtain⟨Q,C,A,G⟩:=UE z.zf e h;have W:C.length=Ďb:=jf A;have r:Új ëc a C:=G.dictOf
 have K:∀b,ą a=.ref b->∃n,źd b=À n/\n.dict=Ä:=λb q=>by cases q;obtain⟨n,_,_,L,S,_⟩:=r;exact⟨n,L,S.2.1⟩
 refine⟨Ź,_,ůf,Ūf,Ům,r.typeIs,K,Ďe rfl åi⟩;refine Įe Ūf r.typeIs Śm Ġm (Þo ëc a Q) ⟨⟨C,r⟩,?_⟩;have t:zI X E σ m { c with å:=ŧe { cls:=.type Òj,Ą:=.fields #[.ref a] } }:=z.kept (t':=ęd) λb o e=>ģ _ e
 refine wpAny_pyIter_values (knd:=yx ò X.w) (s:={ c with å:=ŧe { cls:=.type Òj,Ą:=.fields #[.ref a] } }) ⟨_,Ŭ _ rfl,rfl,rfl⟩ (G.push _) ?_;rw[W];refine⟨_,[_],_,_,m,rfl,t.kept (t':=ęd) λb o e=>ģ _ e,x2o a _ h,⟨_,Ŭ _ rfl,rfl,rfl⟩,λb P=>?_,u⟩;have e:=Ċa P;subst e;exact t.Z8 Ċ (t.zf.fresh Ċ)
#print L2
namespace L3
open Ī ĺ Öa ĭ L2
noncomputable def UK(i:Nat):FA:=λτ=>match τ[i]? with
 |À (À (Â,.dic _ ds))=>À ds|_=>Ä
def z0b(i:Nat):YF i (UK i):=λτ x a=>by
 unfold UK at a
 split at a;rename_i b c e;exact⟨b,c,e⟩;cases a
def mo{ks:Á zU}{vs:Á V}{i:Nat}{k:zU}{v:V}(h:ňa[i]?=À (k,v)):ks[i]?=À k/\vs[i]?=À v:=by rw[List.getElem?_zip_eq_some]at h;exact h
def z0u{K:Ì}{G:Hp}{a:È}{o:Obj}{ks:Á zU}{ds:Á D}{vs:Á V}(j:ĩ=þ)(e:G a=À Łi)(g:Þ K G ds vs):jX K (DF a o ňa) G ds where
 go:=λi h H c b f=>⟨b _ _ Œr,by rw[ŧa,j,ūa,Ďa];exact f⟩
 ua:=λi h H x p c b f y=>by obtain⟨rfl,k,m⟩:=y;obtain⟨d,n,l⟩:=g.at (mo m).2;exact⟨h,d,Ŀa b,n,Òl c⟩
 Ś:=λi h H c b f=>⟨b _ _ Œr,by rw[ŧa,j,ūa,Ďa];exact f⟩
def y7j(j:X.N[i]?=À x)(hv:jW éa x)(s:Ê ı q10)(d:Ê řb q10)(b:Ê Řh q12)(c:Ê Òc q12):OI X i tg Ŏl (UK i):=by refine⟨⟨_,y3b j hv s d b c,λ{t v G H τ σ y R} K l f q=>?_⟩⟩;obtain⟨a,o,u,k,w,n,r,e,h,g,m⟩:=l;unfold UK at f;rw[n]at f;cases f;exact⟨a,o,_,r,ña _ _ e,q _ _ _ ţg m (z0u h e g)⟩
def z0a(h:YF i fs):YF i (xw n fs fg ft f):=λτ x c=>by obtain⟨a,b,_⟩:=zH c;exact h τ a b
section
variable{X:Cx}{i:Nat}{tg Ŕ elt:Ñ}{ifs:Á Ñ}{ļ:õa}{cl:Á Ðb}{own:Á Str}{pos:Pos}{fs:FA}{fg:FG}{ft:FT}{f:FE}{g:TG}
def y7b(a:ų=Ã)(B:ZA X ļ cl own)(hi:OI X i tg Ŕ fs)(m:BG X ļ cl own tg g fg)(I:∀C s H fp pn,YU Ña ifs ft)(t:∀C s H fp pn,SE Ña elt f)(F:Ê (∀x,Īb Ŕ Ô x=pure x) q11) :Au X i Ża Ĭe:=by
 obtain⟨S,z,u⟩:=đc;refine⟨⟨_,eV a B z (Γb (m.q C s H fp pn)) (Χa (I C s H fp pn)) (λC s H fp pn=>Qd (t C s H fp pn)) F,λ{L P G H τ σ d Q} K o b q=>?_⟩⟩;obtain⟨R,E,b⟩:=zH b;obtain⟨r,n,b⟩:=zH b;cases b;refine u K o E λJ U O e l v=>JM v l (ŵ e) n (m.k K.l2 K.l1) λA N T c y w p j=>?_
 exact q p _ _ (Żb (ąb (èb Êc j))) (Ãh (Äh j)) (Ŗg j) ⟨A,yb,y,w⟩
#print a
#print L3
namespace L2
open Ī ĺ Öa ĭ
def DB(a:È)(o:Obj)(kvs:Á ź):It:=⟨λi H=>H a=À Ž/\i<Ķ,λi H v b=>∃p k u,H p=Ä/\v=.ref p/\kvs[i]?=À (k,u)/\b=zV H p ŭi,λi H=>H a=À Ž/\Ķ<=i⟩
def x2n{P:æ}{w:ß}{K:Ì}{B:Á Ñ}{kk:Nat}{pos:Pos}{kvs:Á ź}{o:Obj}{es:Ø ŷb}{ep:Nat}(a it:È)(d:Ŝa=.dict es ep) :gC P w K (.Tuple B kk pos) Çq ĕc it (λi h=>∃ok ov,IsItemIter h it a i Ķ ep ok ov) where
 mem:=by simp
 obj:=λi h st b hb=>by
  have e:b=it:=by simpa using hb
  subst e;obtain⟨ok,ov,g⟩:=st;exact⟨_,g,λv q=>nomatch q⟩
 Īa:=λi h h' st k=>by obtain⟨ok,ov,g⟩:=st;exact⟨ok,ov,k it â _ g⟩
 ïb:=by
  intro X S O Y p i z7 s σ H E I J st C;subst S O Y;obtain⟨ok,ov,g⟩:=st;obtain⟨_,f,j,U⟩:=UE Đ C.1 d;have r:Űa=Ķ:=jf j;have hi:i<Űa:=by rw[r];exact C.2
  have F:f[i]?=À (f[i].1,f[i].2):=Ĕ hi;obtain⟨u,hk,ru⟩:=Ex j F;have m:it<Ú:=Ĝ g;rw[<-r]at g;refine wpAny_pyNext_items_item g U F λn L A ho ht hz Z=>?_
  refine⟨_,rfl,wpAny_letOwnedTupleGo_items (s:={ s with å:=L }) ho λG t l=>?_⟩
  replace l:Ĳb it L G:=l
  have T:ā Ú=Ä:=by
   cases q:ā Ú with
   |Ä=>rfl|À o=>exact Û Čf Üa
  have y:H Ú=Ä:=Ŧb Ċ;have Q:G.get? Ú=À { cls:=.type ŧ,Ą:=.seq #[n,f[i].2] }:=õd _ _ (įb m) ht
  have kk:∀c o,c ∉ ĕc->ā c=À o->G.get? c=À o:=λc o p z=>by
   have x:c≠it:=λq=>p ůl
   exact õd _ _ x (Z c o x z)
  have new:xN ò X.w (zV H Ú Ďi) G Ú Ďi:=⟨íi,[n,f[i].2],.cons (cg A) (.cons ru .nil),⟨_,Q,rfl,_,rfl⟩⟩;rw[r]at t;refine⟨.ref Ú,zV H Ú Ďi,I.BY (tk:=Č) J kk T y new,rfl,⟨Ú,_,u,y,rfl,hk,rfl⟩,⟨n,_,t⟩,λc p=>?_⟩;rw[yB];exact(J c p).1;intro q;have e:c=it:=by simpa using p
  rw[e]at q;rw[q]at m;exact Û m Üa
 done:=by intro X S O Y p i z7 s σ H E I J st C;subst S O Y;obtain⟨ok,ov,g⟩:=st;obtain⟨_,f,j,U⟩:=UE Đ C.1 d;have r:Űa=Ķ:=jf j;have F:f[i]?=Ä:=Ŝb (by rw[r];exact C.2);rw[<-r]at g;exact wpAny_pyNext_items_end (ĵa p) g U F λL N=>⟨rfl,I.but (tk:=Č) J λc ob R eb=>N c ob (λq=>R ůl) eb⟩
 Çc:=λ_ _ _ _ _ st h=>by obtain⟨ok,ov,g⟩:=st;exact W.kcp_self g h
def z3y(i:Nat):TI:=λσ H R=>∃a o kvs,σ[i]?=À Ïf/\H a=À Ž/\R Çq H
def y3a{X:Cx}{n:Á Ñ}{kk:Nat}{m:Pos}{x:Str}{p d f:Pos}{i:Nat}(Q:X.N[i]?=À x)(hv:jW éa x)(hd:Ê ı q10)(E:Ê řb q10)(j:Ê Ūl q12)(k:Ê ũm q12) :PI X (.Tuple n kk m) (.Call (.Attribute ĉa Š d) [] [] f) (z3y i):=by
 intro J s σ H R I A;obtain⟨a,o,l,Y,e,A⟩:=A;refine Èi j k (zn (Wf (pos:=p) Q hv hd E J s σ H (λv r=>v=.ref a/\r=H) I ⟨_,Y,rfl,rfl⟩) λv c ⟨y,r,B,W,e1,e2⟩=>?_);subst e1 e2;cases(show v=ą a from W);obtain⟨g,_,_,_,_,o',es,ep,L,_,h,_⟩:=(show xN ò X.w r Ěd a ůo from B.zf a _ e);rw[g]at L;cases L;obtain⟨T,G,C,K⟩:=UE B.zf e h;have Z:ĭk=Ďb:=jf C;have u:Új ëc a G:=K.dictOf
 have O:∀b,ą a=.ref b->∃t,źd b=À t/\t.dict=Ä:=λb q=>by cases q;obtain⟨t,_,_,P,U,_⟩:=u;exact⟨t,P,U.2.1⟩
 refine⟨Ź,_,ůf,ſm,PySem.F.type_dict_items,u.typeIs,O,Ďe rfl åi⟩;refine Įe ſm u.typeIs PySem.F.entry_dict_items (PySem.F.args_dict_items_1 _) (meets_dict_items ëc a T) ⟨⟨G,u⟩,?_⟩;have z:zI X J σ r { c with å:=ŧe { cls:=.type Ńp,Ą:=.fields #[.ref a] } }:=él (t':=ęd) λb o e=>ģ _ e
 refine wpAny_pyIter_items (knd:=yx ò X.w) (s:={ c with å:=ŧe { cls:=.type Ńp,Ą:=.fields #[.ref a] } }) ⟨_,Ŭ _ rfl,rfl,rfl⟩ (K.push _) ?_;rw[Z];refine⟨_,[_],_,_,r,rfl,z.kept (t':=ęd) λb o e=>ģ _ e,x2n a _ h,⟨_,_,Ŭ _ rfl⟩,λb S=>?_,A⟩;have e:=Ċa S;subst e;exact z.Z8 Ċ (z.zf.fresh Ċ)
#print L2
namespace L3
open Ī ĺ Öa ĭ L2
def Ze(ks:Á zU)(ds:Á D):Á D:=ĭb (λk d=>Åc [UN k,d]) ks ds
def UJ(i:Nat):FA:=λτ=>match τ[i]? with
 |À õi=>if Ěh Zb=Ã then À Ÿq else Ä|_=>Ä
def z09(i:Nat):YF i (UJ i):=λτ x a=>by
 unfold UJ at a
 split at a;rename_i b c e;exact⟨b,c,e⟩;cases a
def z07{K:Ì}{G:Hp}{a:È}{o:Obj}{ks:Á zU}{ds:Á D}{vs:Á V}(w:ĩ=þ)(e:G a=À Łi)(l:Þ K G ds vs)(h:Ěh Zb=Ã):jX K (DB a o ňa) G Ÿq where
 go:=λi j H f c b=>⟨c _ _ ćk,by unfold Ze at b;rw[Ģc,<-Ďb]at b;rw[ŧa];exact b⟩
 ua:=λi j H x z f c b y=>by obtain⟨p,k,u,m,rfl,r,rfl⟩:=y;obtain⟨g,t⟩:=mo r;obtain⟨d,s,q⟩:=l.at t;refine⟨zV j p ŭi,.tup [UN k,d],Ŋb c m,?_,?_⟩;unfold Ze;rw[Źf,g,s];have v:zw G (zV j p ŭi):=f.trans ýo;exact⟨p,[kV k,u],rfl,ďc yb,⟨_,_,rfl,ci (Ħb h k (Ġc g)),⟨u,_,rfl,Íl v,rfl⟩⟩,L2.small (n:=2) É⟩
 Ś:=λi j H f c b=>⟨c _ _ ćk,by unfold Ze at b;rw[Ģc,<-Ďb]at b;rw[ŧa];exact b⟩
def y7i(m:X.N[i]?=À x)(hv:jW éa x)(u:Ê ı q10)(j:Ê řb q10)(b:Ê Ūl q12)(d:Ê Òc q12):OI X i (.Tuple elts kk tpos) (.Call (.Attribute ĉa Š Ĕa) [] [] Úa) (UJ i):=by
 refine⟨⟨_,y3a m hv u j b d,λ{w y G H τ σ v R} K n f q=>?_⟩⟩;obtain⟨a,o,h,g,z,s,t,e,l,k,r⟩:=n;unfold UJ at f;rw[s]at f
 change (if h.all Zb=Ã then À (Ze h g)else Ä)=À v at f
 by_cases c:h.all Zb=Ã;rw[Î c]at f;cases f;refine⟨a,o,_,t,ña _ _ e,q _ _ _ ţg ?_ (z07 l e k c)⟩;unfold Ze;rw[Ģc];exact Ġ Êf r;rw[Ð c]at f;cases f
#print L3
namespace L2
open Ī ĺ Öa ĭ
def z6y(a d:Value):ĝh çb ⟨[a],[(ĸe,d)]⟩:=by unfold ĝh;kernel_rfl
section
variable{Ě:æ}{w:ß}{A:ó}{R:Ĝd->Ë->Prop}{I:È}{fp wr:Á È}{n:Nat}{P:Nat->Value->Prop}{St:Nat->Heap->Prop}{kw:Á ůb}
def Le:(ěk çb ++ ěk ".loop" : Áa) = ňj:=by decide
theorem GP(W:Walks Ě w Ŵ I fp wr n P St)(r:Nat->Nat->Í)(l:CmpOf Ě w Ŵ .Gt P r)(S:È)(p:S ∉ fp):∀(k j:Nat)(s:Ë)(vb:Value)(c:Nat),n-Ùa=k->j+1<=n->St Ùa Ý->P ék vb->
  ā S=À { cls:=.type ĝ,dict:=Ä,Ą:=.seq #[vb,vb] c,Ůc:=#[] }->(∀v h' tk,P (ÿd r Ļf) v->(∀b o,b ∉ wr->b≠S->ā b=À o->Ğ b=À o)->R ťr { s with å:=h',ē:=tk })->
  đb è A (.builtin ňj ⟨ön,kw⟩) R s
 |k,j,s,vb,c,hk,hj,hst,hPb,hS,hR=>by
  have y:S ∉ wr:=λh=>p Īq
  refine Ņd Ôn ?_;rw[Ēe Ńd _]
  change Ù _ Ŵ ŕm _ _ s
  refine Ò (ĥb hS rfl ?_)
  change Ù _ Ŵ ßm _ _ s
  match k,hk with
  |0,hk=>
   have z:j+1=n:=by omega
   refine Ò (ňd (W.done s _ _ (z▸hst) λh' tk d=>?_));have m:=d S _ y hS
   change Ù _ Ŵ (ψd Řq) _ _ _
   refine Ò (ŵf m rfl ļr);exact hR vb _ tk (by rw[<-z];exact hPb) λb o a f e=>(ĕp).trans Īg
  |k+1,hk=>
   have x:j+1<n:=by omega
   refine Ò (ňd (ßl Ùa s _ _ x hst λv h' tk E q d=>?_));have m:=d S _ y hS
   change Ù _ Ŵ (tryCatch (holding [v,v] (richCompare .Gt v vb >>= _)) _ >>= _) _ _ _
   refine Ò (ňd (ùb (Ò (l Ùa ék v vb _ _ _ E hPb (Ò (ùb (ľd ļr)))))));cases hb:r Ùa ék with
   |Ã=>simp only[Ť];refine Ò (ŵf m rfl (Ò (őf ?_)));rw[Le];refine ě ⟨Ŏd Ńd _,GP W r l S p k Ùa _ v _ Å x (Śk _ _ _ q λb C o e=>?_) (by simp only[ÿd,hb,Ť];exact E) (źf _ m rfl) λB u g t i=>?_⟩;exact(ζa (λh:S=b=>p (by rw[h];exact C))).trans e;exact hR B u g t λb o a f e=>i b o a f ((ĕp).trans Īg)|Â=>simp only[Šb,òa];refine Ò (őf ?_);rw[Le];refine ě ⟨Ŏd Ńd _,GP W r l S p k Ùa _ vb c Å x q (by simp only[ÿd,hb,Šb,òa];exact hPb) m λB u g t i=>?_⟩;exact hR B u g t λb o a f e=>i b o a f Īg
def z6z(W:Walks Ě w Ŵ I fp wr n P St)(u:Nat->Nat->Í)(l:CmpOf Ě w Ŵ .Gt P u)(S:È)(f:S ∉ fp)(m:St 0 Ý)(C:ā S=À { cls:=.type ĝ,dict:=Ä,Ą:=.seq #[] c,Ůc:=#[] })(B:∀v h' tk,Ģq->(0<n->P (ÿd u Ļf) v)->(∀b o,b ∉ wr->b≠S->ā b=À o->Ğ b=À o)->R ťr { s with å:=h',ē:=tk }) :đb è A (.builtin ňj ⟨ön,ļg⟩) R s:=by
 have r:S ∉ wr:=λh=>f Īq
 refine Ņd Ôn ?_;rw[Ēe Ńd _]
 change Ù _ Ŵ ŕm _ _ s
 refine Ò (ĥb C rfl ?_)
 change Ù _ Ŵ ßm _ _ s
 by_cases hn:n=0;subst hn;refine Ò (ňd (W.done s _ _ m λh' tk d=>?_))
 change Ù _ Ŵ (rule _ >>= _) _ _ _
 refine Ò (Őd ĵb);exact B dv _ tk Ņc (λz=>Û z Üa) λb o a g e=>d b o a e;have p:0<n:=by omega
 refine Ò (ňd (ßl 0 s _ _ p m λv h' tk G i d=>?_));have q:=d S _ r C
 change Ù _ Ŵ (ψd (λ_=>#[v,v])) _ _ _
 refine Ò (ŵf q rfl ?_);rw[Le];refine ě ⟨Ŏd Ńd _,GP W u l S f _ 0 _ v _ rfl p (Śk _ _ _ i λb x o e=>?_) G (źf _ q rfl) λE y j t k=>?_⟩;exact(ζa (λh:S=b=>f (by rw[h];exact x))).trans e;exact B E y j (λz=>Û z hn) (λ_=>t) λb o a g e=>k b o a g ((ζa (Ňb g)).trans Īg)
#print a
section
variable{Ě:æ}{w:ß}{A:ó}{E:Value->Ë->Prop}{s:Ë}
def x2j{a:Áa}{b:şk}{Ûa:Á Value}{c:Á ůb}{Q:Value->Ë->Prop}(hk:builtinKind a=Ä)(h:plainId a=Ã)(j:entryFor table a=À b)(i:ĝh a ⟨Ûa,c⟩)(g:Ù è Ŵ (b ⟨Ûa,c⟩) (λfin s'=>match fin with
   |.done f=>(match(Except.ok f:Ĝd)with|.ok Åf=>Q v s'|.ok _=>ô|.error e=>E e s')
   |.again c'=>c'.quiet=Ã/\đb è A c' (λr s'=>match r with|.ok Åf=>Q v s'|.ok _=>ô|.error e=>E e s') s') E s):Ù è A (Źa (.builtin a) Ûa c) Q E s:=by
 refine Ŏj (codeAny_call_builtin h j ?_);simp only[checkBuiltinCall,hk];cases hsig:Manifest.signature? a with
 |Ä=>exact ě g|À sig=>
  have d:Bind.checkArgs a sig ⟨Ûa,c⟩=pure ():=by simpa only [ĝh,hsig]using i
  simp only[d];exact ě g
def sM
  (h:Ù è Ŵ (ėf x) (λit s₂=>∃I fp wr n P St bt,it=.ref I/\Walks Ě w Ŵ I fp wr n P St/\St 0 s₂.heap/\(∀b∈fp,b<đi)/\CmpOf Ě w Ŵ .Gt P bt/\
   ∀v h' tk,Ģq->(0<n->P (ÿd bt Ļf) v)->(∀b o,b ∉ wr->s₂.heap.get? b=À o->Ğ b=À o)->Q v { s₂ with å:=h',ē:=tk }) E s) :
  Ù è A (Źa óp [x] ļg) Q E s:=by
 refine x2j PySem.F.kind_max PySem.F.plain_max PySem.F.entry_max (z6y _ _) ?_
 change Ù _ Ŵ (ľm çb āq 0 ⟨[],ļg⟩ >>= _) _ _ s
 refine Ò (Ðg (show ľm çb āq 0 ⟨[],ļg⟩=pure [Ä,À dv]from rfl) ?_);refine Ò (Ζa (Ėa h (λit s₂ i=>?_) λ_ _ e=>e));obtain⟨I,fp,wr,n,P,St,bt,rfl,W,f,g,a,j⟩:=i;refine Ò (Žc ?_);have d:đi ∉ fp:=λp=>Ūd _ (g _ p)
 rw[Le];refine ě ⟨Ŏd Ńd _,z6z W bt a đi d (Śk _ _ _ f λb _ o e=>ģ _ e) ůd λv h' tk m l k=>?_⟩;exact j v h' tk m l λb o c e=>k b o c ík Ũg
#print a
section
variable{X:Cx}
noncomputable def Īd:Á Int->Int
 | []=>0|x::xs=>Üf Če x
theorem dM:∀(xs:Á Int)(x:Int),(Üf Če x=x\/Üf Če x∈xs)/\x<=Üf Če x/\∀y∈xs,y<=Üf Če x
 | [],x=>⟨.inl rfl,ěa _,λy h=>Û h â⟩|z::xs,x=>by
  obtain⟨a,b,c⟩:=dM xs úi;have e:x<=if x<z then z else x:=by split<;>omega
  have f:z<=if x<z then z else x:=by split<;>omega
  refine⟨?_,Ųd e b,λy d=>?_⟩;rcases a with a|a;by_cases q:x<z;rw[Î q]at a
  right
  show Áe _ úi xs∈z::xs;rw[Î q,a];exact Ŏ;left
  rw[Ð q]at a;show Áe _ úi xs=x;rw[Ð q,a];exact .inr ŧg;rcases Ĺ d with rfl|d;exact Ųd f b;exact c y d
def z69(h:xs≠[]):Īd xs∈xs/\∀y∈xs,y<=Īd xs:=by
 cases xs with
 |nil=>exact Û rfl h|đ x xs=>obtain⟨a,b,c⟩:=dM xs x;refine⟨?_,λy d=>?_⟩;rcases a with a|a;show Áe _ x xs∈_;rw[a];exact Ŏ;exact Ĉa _ a;rcases Ĺ d with rfl|d;exact b;exact c y d
def ër(h:m∈xs)(c:∀y∈xs,y<=m):m=Īd xs:=by obtain⟨a,b⟩:=z69 (xs:=xs) (λz=>by rw[z]at h;exact Û h â);have:=b m h;have:=c _ a;omega
def y8q(K:Ì)(c b:TE):TE:=λσ H Q=>c σ H λx d=>b σ d λz a=>∃(p:È) (ns:Á Int),x=.ref p/\yd K a p ėa/\Q àm a
def fm(K:Ì)(x:V)(Q:VK):Á V->Hp->Prop:=λb a=>match b with
 | [z]=>∃(p:È) (ns:Á Int),x=.ref p/\yd K a p ėa/\Q àm a|_=>ô
def y49(K:Ì)(a:TE)(σ:St)(Q:VK):Á V->Hp->Prop:=λb d=>match b with
 | [x]=>a σ d λz c=>fm K x Q [z] c|_=>ô
def y2v(f:ų=Ã)(hg:Gl X çb)(hm:î çb=Ä)(ha:PE X a ta)(hd:PE X e td)(J:Ê Żh q12) :PE X (.Call ľp [a] ēn pos) (y8q X.K ta td):=by
 intro T s σ H Q I h;have Z:PA X [a] (Ut ta X7):=eN ha Wc J;have pk:PK X ēn (Ut td X7):=y3k hd y3m;refine Ęe (WM I hg hm rf ?_);refine PyProof.Rows.callWith_kw (zn (Z pos T s σ H (y49 X.K td σ Q) I h) λus s1 ⟨vs,H1,I1,F,P⟩=>?_) Çj Çj
 match vs,F,P with
 | [x],F,P=>
  obtain⟨u,rfl,ru⟩:=uy F;refine zn (pk pos T s1 σ H1 (fm X.K x Q) I1 P) λws A ⟨zs,Y,B,N,E⟩=>?_
  match zs,N,E with
  | [z],N,E=>
   obtain⟨dv,rfl,rd⟩:=uy N;obtain⟨l,c,rfl,hq,q⟩:=E;cases(show u=ą l from ru);have C:=B.ok.hd f;obtain⟨d,O,R,hz⟩:=B.list hq;have U:űa=ŵi:=by have:=O.length;rw[ç]at this;rw[ğ];exact this
   have g:l<ŏi:=by obtain⟨o,n,e,_⟩:=R;exact Ĝ e
   refine sM ?_;refine Ŀd R.isList ?_;refine⟨_,_,_,_,_,_,_,rfl,Śj (by exact C) ŏi l (Æa g) d.toArray,⟨⟨_,Ŭ _ rfl,rfl,rfl⟩,R.isList.push _⟩,?_,CmpOf.ints_gt ôo (λi v hv=>Mh O hv),?_⟩;intro b W;show b<(A.heap.push _).objs.size;rw[Ũb];simp only[Èb,ťa,Õb]at W;rcases W with rfl|rfl;exact Øc _;exact ŕd g;intro v h' S h0 hP k
   have kp:∀b o,A.heap.get? b=À o->Ğ b=À o:=λb o L=>k b o (λz=>by
    have:b=ŏi:=by simpa using z
    rw[this]at L;exact Û (Ĝ L) Üa) (ģ _ L)
   by_cases e0:c=[];rw[Î e0]at q;have:v=dv:=h0 (by rw[<-U,e0];rfl);subst this;exact⟨z,Y,él (t':=S) kp,rd,q⟩;rw[Ð e0]at q;have w:0<űa:=èi e0;have G:=hP (by rw[<-U];exact w);obtain⟨t,rfl⟩:=Mh O G;obtain⟨b1,b2⟩:=argBest_gt ôo (ŵi-1);generalize ÿd (λi j=>decide (Ûl i 0>Ûl j 0)) (ŵi-1)=m at *;have r:m<űa:=by omega
   have em:Ûl m 0=Īd c:=by
    refine ër ?_ λy hy=>?_;rw[øa,Ĕ r];exact àc r;obtain⟨j,hj,rfl⟩:=Än hy;have:=b2 j Å
    rwa [øa,Ĕ hj]at this
   exact⟨.int (Īd c),Y,él (t':=S) kp,⟨t,by rw[<-em]⟩,q⟩
#print a
#print L2
namespace L3
open Ī ĺ Öa ĭ L2
noncomputable def ZV:Á D->Æ ũg
 | []=>À []|.int i::r=>(ZV r).bind λa=>À ýl|_::_=>Ä
theorem Ej{K:Ì}{G:Hp}:∀{xs:Á D}{ns:Á Int}{vs:Á V},ZV xs=À ns->Þ K G xs vs->vs=Ĕb üe
 | [],ns,vs,h,r=>by cases h;exact(show vs=[]from r)|.int i::xs,ns,vs,h,r=>by obtain⟨e,b,h⟩:=zH (show(ďh).bind _=_ from h);cases h;obtain⟨v,d,rfl,c,a⟩:=r;cases(show v=.int i from c);rw[Ej b a];rfl
 |.zE::_,_,_,h,_=>by cases h|.bl _::_,_,_,h,_=>by cases h|.str _::_,_,_,h,_=>by cases h|.tup _::_,_,_,h,_=>by cases h|.lst _::_,_,_,h,_=>by cases h|.dic _ _::_,_,_,h,_=>by cases h|.exc _::_,_,_,h,_=>by cases h|.obj _ _ _::_,_,_,h,_=>by cases h
theorem cR:∀ns:Á Int,ZV þb=À ns
 | []=>rfl|n::ns=>by show(ZV þb).bind _=_;rw[cR ns];rfl
def CM:D->D->Æ D
 |.lst xs,z=>(ďh).bind λa=>À (if a=[]then z else .int (Īd a))|_,_=>Ä
def y6z{X:Cx}{a e:Ñ}{n j:FE}{p I pos:Pos}(f:ų=Ã)(J:Gl X çb)(F:î çb=Ä)(K:SE X a n)(O:SE X e j)(N:Ê Ãe q12):SE X (.Call ľp [a] [⟨À ĸe,e,I⟩] pos) (e2 CM n j):=by
 obtain⟨S,B,P⟩:=K.h;obtain⟨T,s,y⟩:=O.h;refine⟨⟨_,y2v f J F B s (tS N),λ{U Y G H τ σ d Q} E b q=>?_⟩⟩;obtain⟨x,R,b⟩:=zH b;obtain⟨z,L,b⟩:=zH b;refine P E R λv W Z g C=>?_
 refine y (öa g) L λu o k i t=>?_
 cases x with
 |lst xs=>obtain⟨m,w,b⟩:=zH b;cases b;obtain⟨l,vs,rfl,A,r,_⟩:=C;have e:=Ej w r;subst e;refine⟨l,m,rfl,u8 (g.gh.trans i.h) A,?_⟩;by_cases c:m=[];rw[Î c];rw[Î c]at q;exact q u o k (Ăf i) t;rw[Ð c];rw[Ð c]at q;exact q _ o k (Ăf i) rfl
 |_=>cases b
noncomputable def CL:Á D->Æ D
 | [.dic ks _]=>À (.int ĩ)|_=>Ä
def sH:wu X şd ĭl:=by intro f s σ H xs e Q I r h;obtain⟨a,kvs,rfl,c,q⟩:=h;obtain⟨u,rfl,d⟩:=uy r;cases d;exact z03 I c λt g b=>⟨.int Ķ,H,b,⟨t,rfl⟩,q⟩
def y0z{K:Ì}:ZE K ĭl CL:=λG H i g d Q s r b q=>by
 match i,b with
 | [.dic ks xs],b=>cases b;obtain⟨v,e,rfl,h,f⟩:=r;cases(show e=[]from f);obtain⟨a,g,rfl,j,c,k,_⟩:=h;refine⟨a,_,rfl,j,?_⟩;rw[ŧa,<-c,ūa];exact q _ _ _ Øa rfl
#print L3
namespace L3
open Ī ĺ ĭ L2
inductive M where
 |fz (d:D)|own (d:D)|obj (x:Str) (fs:Á Str) (ms:Á M)|tab (ks:Á ħ) (ms:Á M)|tp (ms:Á M)
mutual
noncomputable def uU:M->D
 |.fz d=>d|.own d=>d|.obj x fs ms=>.obj x fs Ňc|.tab ks ms=>.dic ks Ňc|.tp ms=>.tup Ňc
noncomputable def ħd:Á M->Á D
 | []=>[]|m::ms=>uU m::ħd ms
end
noncomputable def Ća{κ α:Type}[íc κ]:Á κ->Á α->κ->Æ α
 |k'::ks,v::vs,k=>if k'=k then À v else Ća ks vs k|_,_,_=>Ä
noncomputable def vx{κ α:Type}[íc κ]:Á κ->Á α->κ->α->Á α
 |k'::ks,v::vs,k,y=>if k'=k then y::vs else v::vx ks vs k y|_,vs,_,_=>vs
inductive xj where
 |at(cs:Á Str) (f:Str)|ky (k:Sum Int Str)
def lQ:M->xj->Æ M
 |.obj x fs ms,.at cs f=>if x∈cs then Ća fs ms f else Ä|.tab ks ms,.ky k=>Ća ks ms k|_,_=>Ä
def y74:M->xj->M->M
 |.obj x fs ms,.at _ f,m=>.obj x fs (vx fs ms f m)|.tab ks ms,.ky k,m=>.tab ks (vx ks ms k m)|m,_,_=>m
def qx:M->Á xj->Æ M
 |m,[]=>À m|m,s::π=>(lQ m s).bind λa=>qx a π
def p8:M->Á xj->M->Æ M
 |_,[],m'=>À m'|m,s::π,m'=>(lQ m s).bind λb=>(p8 b π m').bind λa=>À (y74 m s a)
abbrev Ft:=È->Prop
mutual
def xO(K:Ì)(G H:Hp):M->V->Ft->Prop
 |.fz d,v,L=>za K G d v/\∀q,¬ L q|.own d,v,L=>∃p,v=.ref p/\wv K G H d p/\∀q,L q↔q=p|.obj x fs ms,v,L=>∃p C dx vs L',v=.ref p/\Ż K Ę x=À Ġa/\H p=À îi/\ůa=þ/\Ū K G H ms vs L'/\¬ L' p/\∀q,L q↔q=p\/L' q|.tab ks ms,v,L=>∃p vs L',v=.ref p/\H p=À ŭr/\ĩ=þ/\Ū K G H ms vs L'/\ıa<=á/\¬ L' p/\∀q,L q↔q=p\/L' q|.tp ms,v,L=>∃p vs,v=.ref p/\y_ K G p vs/\Ū K G H ms vs L/\ıa<=á
def Ū(K:Ì)(G H:Hp):Á M->Á V->Ft->Prop
 | [],vs,L=>vs=[]/\∀q,¬ L q|m::ms,vs,L=>∃v r L1 L2,vs=v::r/\xO K G H m v L1/\Ū K G H ms r L2/\(∀q,L1 q->L2 q->ô)/\∀q,L q↔L1 q\/L2 q
end
def ŀh{P:M->Prop}(i:∀d,P úf)(own:∀d,P ńk)(b:∀x fs ms,(∀m∈ms,P m)->P Éj)(c:∀ks ms,(∀m∈ms,P m)->P Îq)(f:∀ms,(∀m∈ms,P m)->P (.tp ms))(m:M):P m:=
 M.rec (motive_1:=P) (motive_2:=λms=>∀m∈ms,P m) i own (λx fs ms h=>b x fs ms h) (λks ms h=>c ks ms h) (λms h=>f ms h) żn
  (λd k g a e j=>by rcases Ĺ j with z|z;exact z▸g;exact a e z) m
noncomputable def ak:HO->Í
 |.lst _=>Ã|.dK _=>Ã|.ins _ _ _=>Ã|_=>Â
def Bx(H:Hp)(q:È):Prop:=∃u,H q=À u/\ak u=Ã
def Bx.some{H:Hp}{q:È}(b:Bx H q):H q≠Ä:=by obtain⟨u,e,_⟩:=b;rw[e];exact λz=>nomatch z
section
variable{K:Ì}{G H G' H':Hp}
def wv.loc{d:D}{p:È}(g:zw G G')(h:H' p=H p)(o:wv K G H d p):wv K G' H' d p:=by
 cases d with
 |lst ds=>obtain⟨a,e,r,l⟩:=o;exact⟨a,āf e,ĥa g,l⟩
 |dic ks ds=>obtain⟨a,e,z,r,l⟩:=o;exact⟨a,āf e,z,ĥa g,l⟩
 |_=>exact Ėd
theorem ôd:∀{ms:Á M}{vs:Á V}{L:Ft},(∀m∈ms,∀v L1,(∀q,L1 q->L q)->xO K G H m v L1->xO K G' H' m v L1)->Ū K G H ms vs L->Ū K G' H' ms vs L
 | [],_,_,_,h=>h|m::ms,vs,L,f,h=>by obtain⟨v,r,L1,j,e,i,d,b,u⟩:=h;exact⟨v,r,L1,j,e,f m Ŏ v L1 Ûn i,ôd (λk g c a s o=>f k (Ĉa _ g) c a óm o) d,b,u⟩
theorem xO.loc(g:zw G G')(m:M):∀(v:V)(L:Ft),(∀q,L q->H' q=H q)->xO K G H m v L->xO K G' H' m v L:=by refine ŀh (P:=λm=>∀v L,(∀q,L q->H' q=H q)->xO K G H m v L->xO K G' H' m v L) ?_ ?_ ?_ ?_ ?_ m;rintro d v L h ⟨r,n⟩;exact⟨ĥa g,n⟩;rintro d v L h ⟨p,e,o,u⟩;exact⟨p,e,ķh g (h p Ųo),u⟩;rintro x E t i v L h ⟨p,C,y,f,j,e,A,k,l,r,n,u⟩;exact⟨p,C,y,f,j,e,A,(ůg).trans k,l,ôd üm r,n,u⟩;rintro F t i v L h ⟨p,f,j,e,k,l,r,w,n,u⟩;exact⟨p,f,j,e,(ůg).trans k,l,ôd üm r,w,n,u⟩;rintro t i v L h ⟨p,f,e,B,r,l⟩;exact⟨p,f,e,vz g B,ôd (λm c a b s o=>i m c a b Ģo o) r,l⟩
theorem Ōp:∀{ms:Á M}{vs:Á V}{L:Ft},Ū K G H ms vs L->þ=ıa
 | [],_,_,h=>by obtain⟨rfl,_⟩:=h;rfl
 |m::ms,_,_,h=>by obtain⟨v,r,b,c,rfl,_,a,_⟩:=h;rw[ĕ,ĕ,Ōp a]
theorem wv.bx{d:D}{p:È}(o:wv K G H d p):Bx H p:=by
 cases d with
 |lst ds=>obtain⟨a,e,_⟩:=o;exact⟨_,e,rfl⟩
 |dic ks ds=>obtain⟨a,e,_⟩:=o;exact⟨_,e,rfl⟩
 |_=>exact Ėd
theorem Żd:∀{ms:Á M}{vs:Á V}{L:Ft},(∀m∈ms,∀v L1,xO K G H m v L1->∀q,L1 q->Bx H q)->Ū K G H ms vs L->∀q,L q->Bx H q
 | [],_,_,_,h,q,z=>Û z (h.2 q)|m::ms,vs,L,f,h,q,z=>by obtain⟨v,r,L1,i,e,c,a,g,u⟩:=h;rcases(u q).mp z with z|z;exact f m Ŏ v L1 c q z;exact Żd (λd b=>f d Îf) a q z
theorem xO.cells(m:M):∀(v:V)(L:Ft),xO K G H m v L->∀q,L q->Bx H q:=by refine ŀh (P:=λm=>∀v L,xO K G H m v L->∀q,L q->Bx H q) ?_ ?_ ?_ ?_ ?_ m;rintro d v L ⟨r,n⟩ q z;exact Û z (n q);rintro d v L ⟨p,e,o,u⟩ q z;cases(u q).mp z;exact o.bx;rintro x h c a v L ⟨p,C,k,f,g,e,s,b,l,r,n,u⟩ q z;rcases(u q).mp z with rfl|z;exact⟨_,b,rfl⟩;exact Żd a r q z;rintro j c a v L ⟨p,f,g,e,b,l,r,i,n,u⟩ q z;rcases(u q).mp z with rfl|z;exact⟨_,b,rfl⟩;exact Żd a r q z;rintro c a v L ⟨p,f,e,t,r,l⟩ q z;exact Żd a r q z
theorem Nz:∀(ms:Á M),(Ňc).length=ıa
 | []=>rfl|m::ms=>by show(Ňc).length+1=_;rw[Nz ms];rfl
theorem äf:∀{ms:Á M}{vs:Á V}{L:Ft},(∀m∈ms,∀v L1,(∀q,L1 q->L q)->xO K G H m v L1->za K G' ðl v)->Ū K G H ms vs L->Þ K G' Ňc vs
 | [],_,_,_,h=>h.1|m::ms,vs,L,f,h=>by obtain⟨v,r,L1,k,e,g,c,j,u⟩:=h;exact⟨v,r,e,f m Ŏ v L1 Ûn g,äf (λi d b a s o=>f i ôk b a óm o) c⟩
theorem xO.qo(g:zw G G')(m:M):∀(v:V)(L:Ft),(∀q,L q->G' q=H q)->xO K G H m v L->za K G' ðl v:=by
 refine ŀh (P:=λm=>∀v L,(∀q,L q->G' q=H q)->xO K G H m v L->za K G' ðl v) ?_ ?_ ?_ ?_ ?_ m;rintro d v L h ⟨r,n⟩;exact ĥa g;rintro d v L h ⟨p,rfl,o,u⟩;have b:=h p Ųo;cases d with
 |lst ds=>obtain⟨a,e,r,l⟩:=o;exact⟨p,a,rfl,Œb (Ĉd e),ĥa g,l⟩
 |dic y ds=>obtain⟨a,e,z,r,l⟩:=o;exact⟨p,a,rfl,.inl (Ĉd e),z,ĥa g,l⟩
 |_=>exact Ėd
 rintro x F k i v L h ⟨p,C,A,a,t,e,B,b,l,r,n,u⟩;exact⟨p,C,A,a,e,B,(ůg).trans b,l,äf ûm r⟩;rintro y k i v L h ⟨p,a,t,e,b,l,r,w,n,u⟩;exact⟨p,a,e,.inl ((ůg).trans b),l,äf ûm r,by rw[Nz];exact w⟩;rintro k i v L h ⟨p,a,e,E,r,l⟩;exact⟨p,a,e,vz g E,äf (λm j c f s o=>i m j c f Ģo o) r,by rw[Nz];exact l⟩
theorem Ūe{κ:Type}[íc κ]{k:κ}{y:M}:∀{ks:Á κ}{ms:Á M}{vs:Á V}{L:Ft},Ū K G H ms vs L->Ća ks ms k=À y->
  ∃v1 L1,Ća ks vs k=À v1/\xO K G H y v1 L1/\(∀q,L1 q->L q)/\∀{G' H':Hp}{m2:M}{L2:Ft},zw G G'->(∀q,L q->¬ L1 q->H' q=H q)->xO K G' H' m2 v1 L2->(∀q,L2 q->L q->L1 q)->Ū K G' H' ŗo vs ęr
 | [],_,_,_,_,e=>by cases e|_::_,[],_,_,_,e=>by cases e|k'::ks,m::ms,vs,L,h,e=>by
  obtain⟨v,r,p,t,rfl,A,x,b,u⟩:=h;unfold Ća at e;by_cases c:k'=k;rw[Î c]at e;cases e;refine⟨v,p,by unfold Ća;rw[Î c],A,λq z=>(ïa).mpr ðd,λ{G' H' m2 L2} g l n j=>?_⟩;unfold vx;rw[Î c];refine⟨v,r,L2,t,rfl,n,?_,λq d a=>b q (j q d ((ïa).mpr (.inr a))) a,λq=>?_⟩;exact ôd (λF _ C B s o=>ķh g F C B λq z=>l q (Βa űe) λw=>b q w űe) x;constructor;rintro(⟨z,w⟩|z);rcases(u q).mp z with z|z;exact Û z w;exact .inr z;exact .inl z;rintro(z|z);exact .inr z;exact .inl ⟨(ïa).mpr ĳb,λw=>b q w z⟩;rw[Ð c]at e;obtain⟨v1,L1,e1,E,i,f⟩:=Ūe x e;refine⟨v1,L1,by unfold Ća;rw[Ð c];exact e1,E,λq z=>(ïa).mpr (.inr (i q z)),λ{G' H' m2 L2} g l n j=>?_⟩;unfold vx;rw[Ð c];refine⟨v,r,p,λq=>(t q/\¬ L1 q)\/L2 q,rfl,?_,f g (λq z w=>l q ęe w) n (λq z w=>j q z ((ïa).mpr (.inr w))),λq d a=>?_,λq=>?_⟩
  exact A.loc g m v p λq z=>l q Ħe λw=>b q z (i q w);rcases a with⟨a,_⟩|a;exact b q d a;exact b q d (i q (j q a ((ïa).mpr ŉk)));constructor;rintro(⟨z,w⟩|z);rcases(u q).mp z with z|z;exact .inl z;exact .inr ĭo;exact .inr ĳb;rintro(z|⟨z,w⟩|z);exact .inl ⟨(ïa).mpr ðd,λw=>b q z (i q w)⟩;exact .inl ⟨(ïa).mpr ĳb,w⟩;exact .inr z
#print a
def wb(K:Ì)(H:Hp):V->Á xj->V->Prop
 |v,[],u=>u=v|v,.at cs f::π,u=>∃p x C dx fs w,v=.ref p/\x∈cs/\Ż K Ę x=À Ġa/\H p=À Įb/\ĸc f=À w/\wb K H w π u|v,.ky k::π,u=>∃p kvs w,v=.ref p/\H p=À Ŀ/\qG kvs k=À w/\wb K H w π u
theorem LV{κ α:Type}[íc κ][BEq κ][LawfulBEq κ]{k:κ}:∀{ks:Á κ}{vs:Á α},(ňa).lookup k=Ća ks vs k
 | [],_=>rfl|_::_,[]=>rfl|k'::ks,v::vs=>by
  rw[ĩb,Ļe];unfold Ća;by_cases c:k'=k;subst c;rw[Î rfl];simp;rw[Ð c];have:(k==k')=Â:=by simpa using λz=>c îe
  rw[this];exact LV
theorem bu{α:Type}{k:Sum Int Str}:∀{ks:Á ħ} {vs:Á α},Ća ks vs k=Ā ks vs k
 | [],_=>by unfold Ća Ā;rfl|_::_,[]=>by unfold Ća Ā;rfl|k'::ks,v::vs=>by unfold Ća Ā;by_cases c:k'=k;rw[Î c,Î c];rw[Ð c,Ð c];exact bu
section
variable{K:Ì}{G H G' H':Hp}
theorem ők(s:zw H H'):∀{π:Á xj}{v u:V},wb K H v π u->wb K H' v π u
 | [],_,_,h=>h|.at cs f::π,_,_,h=>by obtain⟨p,x,C,i,c,w,e,g,d,a,l,r⟩:=h;exact⟨p,x,C,i,c,w,e,g,d,s _ _ a,l,ők s r⟩
 |.ky k::π,_,_,h=>by obtain⟨p,b,w,e,a,l,r⟩:=h;exact⟨p,b,w,e,s _ _ a,l,ők s r⟩
theorem ĕd:∀{π:Á xj}{v u u':V},wb K H v π u->wb K H v π u'->u=u'
 | [],_,_,_,h,h'=>āf h'.symm|.at cs f::π,_,_,_,h,h'=>by obtain⟨p,x,C,z,t,w,rfl,E,A,e,l,r⟩:=h;obtain⟨m,B,y,q,i,s,c,o,j,a,b,d⟩:=h';cases c;rw[e]at a;cases a;rw[l]at b;cases b;exact ĕd r d
 |.ky k::π,_,_,_,h,h'=>by obtain⟨p,n,w,rfl,e,l,r⟩:=h;obtain⟨m,g,s,c,a,b,d⟩:=h';cases c;rw[e]at a;cases a;rw[l]at b;cases b;exact ĕd r d
theorem Ők:∀{π:Á xj}{s:xj}{v u:V},wb K H v (π++[s]) u->∃w,wb K H v π w/\wb K H w [s] u
 | [],_,v,_,h=>⟨v,rfl,h⟩|.at cs f::π,_,_,_,h=>by obtain⟨p,x,C,j,i,w,e,n,m,d,l,r⟩:=h;obtain⟨g,b,a⟩:=Ők r;exact⟨g,⟨p,x,C,j,i,w,e,n,m,d,l,b⟩,a⟩
 |.ky k::π,_,_,_,h=>by obtain⟨p,c,w,e,d,l,r⟩:=h;obtain⟨g,b,a⟩:=Ők r;exact⟨g,⟨p,c,w,e,d,l,b⟩,a⟩
theorem Ěk{m1:M}:∀{π:Á xj}{m:M}{v:V}{L:Ft},xO K G H m v L->qx m π=À m1->
  ∃v1 L1,wb K H v π v1/\xO K G H m1 v1 L1/\(∀q,L1 q->L q)/\∀{G' H':Hp}{m2:M}{L2:Ft},zw G G'->(∀q,L q->¬ L1 q->H' q=H q)->xO K G' H' m2 v1 L2->(∀q,L2 q->L q->L1 q)->
   ∃m',p8 m π m2=À m'/\xO K G' H' m' v ęr
 | [],m,v,L,h,e=>by
  cases e;refine⟨v,L,rfl,h,λ_ z=>z,λ{G' H' m2 L2} g B O t=>⟨m2,rfl,?_⟩⟩
  have e:(Εb (L q/\¬ L q))=L2:=by
   funext q
   exact Ŕk ⟨λz=>Ïa (λw=>Û w.1 w.2) id,.inr⟩
  rw[e];exact O
 |s::π,m,v,L,h,e=>by
  obtain⟨P,b,ee⟩:=zH e
  have I:∀{p:È}{o L1 L2:Ft},¬ o p->(∀q,L q↔q=p\/o q)->(∀q,L1 q->o q)->(∀q,L2 q->L q->L1 q)->(¬ ((o p/\¬ L1 p)\/L2 p))/\∀q,(Ŭm\/L2 q)↔q=p\/(ūm\/L2 q):=λ{p o L1 L2} n u s t=>by refine⟨?_,λq=>⟨?_,?_⟩⟩;rintro(⟨z,_⟩|z);exact n z;exact n (s p (t p z ţf));rintro(⟨z,w⟩|z);rcases(u q).mp z with z|z;exact .inl z;exact .inr ĭo;exact .inr ĳb;rintro(rfl|⟨z,w⟩|z);exact .inl ⟨(ïa).mpr ĳ,λw=>n (s q w)⟩;exact .inl ⟨(ïa).mpr ĳb,w⟩;exact .inr z
  cases m with
  |fz d=>cases b|own d=>cases b|tp a=>cases b|obj x fs a=>
   cases s with
   |ky k=>cases b| «at» cs f=>
    change Öm=À P at b
    by_cases hx:x∈cs;rw[Î hx]at b;obtain⟨p,C,dx,Z,o,rfl,ns,N,l,r,n,u⟩:=h;obtain⟨R,F,e1,T,j,S⟩:=Ūe r b;obtain⟨v1,L1,Y,X,i,U⟩:=Ěk T ee;refine⟨v1,L1,⟨p,x,C,dx,_,R,rfl,hx,ns,N,by rw[LV];exact e1,Y⟩,X,λq z=>(ïa).mpr Ĩn,λ{G' H' m2 L2} g B O t=>?_⟩;obtain⟨m',W,o'⟩:=U g Ěm O ęm
    have J:=S g ôm o' ĕl
    have eL:Ţl=Ěr:=by
     funext q
     refine Ŕk ⟨?_,?_⟩;rintro(⟨z,w⟩|⟨z,w⟩|z);exact .inl ⟨z,λE=>w (i q E)⟩;exact .inl ⟨j q z,w⟩;exact .inr z;rintro(⟨z,w⟩|z);by_cases c:F q;exact .inr įo;exact .inl ⟨z,c⟩;exact .inr ĳb
    rw[eL]at J;obtain⟨f3,Q⟩:=I n u ěn t;refine⟨.obj x fs (vx fs a f m'),by show(ěg Öm _)=_;rw[Î hx,b];show ěg ųp _=_;rw[W];rfl,p,C,dx,Z,_,rfl,ns,?_,l,J,f3,Q⟩;rw[B p ţf λw=>n ĭp];exact N;rw[Ð hx]at b;cases b
  |tab A a=>
   cases s with
   | «at» cs f=>cases b|ky k=>
    change Ća A a k=À P at b
    obtain⟨p,Z,o,rfl,N,l,r,l2,n,u⟩:=h;obtain⟨R,F,e1,T,j,S⟩:=Ūe r b;obtain⟨v1,L1,Y,X,i,U⟩:=Ěk T ee;refine⟨v1,L1,⟨p,_,R,rfl,N,by rw[Wu _ l,<-bu];exact e1,Y⟩,X,λq z=>(ïa).mpr Ĩn,λ{G' H' m2 L2} g B O t=>?_⟩;obtain⟨m',W,o'⟩:=U g Ěm O ęm
    have J:=S g ôm o' ĕl
    have eL:Ţl=Ěr:=by
     funext q
     refine Ŕk ⟨?_,?_⟩;rintro(⟨z,w⟩|⟨z,w⟩|z);exact .inl ⟨z,λE=>w (i q E)⟩;exact .inl ⟨j q z,w⟩;exact .inr z;rintro(⟨z,w⟩|z);by_cases c:F q;exact .inr įo;exact .inl ⟨z,c⟩;exact .inr ĳb
    rw[eL]at J;obtain⟨f3,Q⟩:=I n u ěn t;refine⟨.tab A ĩp,by show(ěg (Ća A a k) _)=_;rw[b];show ěg ųp _=_;rw[W];rfl,p,Z,_,rfl,?_,l,J,?_,f3,Q⟩;rw[B p ţf λw=>n ĭp];exact N;have:∀{A:Á ħ} {a:Á M},(ĩp).length=ĳa:=λ{A}=>by
     induction A with
     |nil=>intro a;rfl|đ k' A ih=>
      intro a;cases a with
      |nil=>rfl|đ y a=>
       unfold vx
       split;rfl;rw[ĕ,ĕ,ih]
    rw[this];exact l2
#print a
abbrev yD:=Á Ŵk
noncomputable def ŗb:M->Æ Sl
 |.fz d=>À (Â,d)|_=>Ä
def gN(β:yD):yE:=β.map λo=>Îl ŗb
def qd(β:yD):yE:=β.map λo=>o.map λm=>(Â,uU m)
mutual
noncomputable def wz:D->Í
 |.zE=>Ã|.bl _=>Ã|.int _=>Ã|.str _=>Ã|.tup ds=>êb ds|_=>Â
noncomputable def êb:Á D->Í
 | []=>Ã|d::ds=>wz d&&êb ds
end
def GS:D->Í
 |.lst ds=>êb ds|.dic _ ds=>êb ds|_=>Â
structure Sm(K:Ì)(H0 G H:Hp)(β:yD)(σ:St)(Ls:Nat->Ft):Prop where
 at_:∀(i:Nat)(m:M),β[i]?=À Ýb->∃v,σ[i]?=À ìa/\xO K G H m v ÿl
 dj:∀(i j:Nat)(q:È),i≠j->Ls i q->Ls j q->ô
 ok:∀(i:Nat)(q:È),Ls i q->G q=Ä/\H0 q=Ä/\Bx H q
structure zu(K:Ì)(n:Nat)(P:Á V)(G0 H0 G H:Hp)(β:yD)(σ:St):Prop where
 ext:zR G0 H0 G H
 l1:σ.length=n
 l2:β.length=n
 lp:Đa<=n
 pin:∀(i:Nat)(v:V),P[i]?=À v->σ[i]?=À ìa
 own:∃Ls,Sm K H0 G H β σ Ls
section
variable{K:Ì}{n:Nat}{P:Á V}{G0 H0 G H G' H':Hp}{β:yD}{σ:St}
def Fw{q:È}(x:zR G H G' H')(g:G q=Ä)(b:Bx H q):G' q=Ä/\Bx H' q:=by
 obtain⟨u,e,c⟩:=b;refine⟨?_,u,x.h _ _ e,c⟩;cases z:G' q with
 |Ä=>rfl|À o=>rcases Ŭc q (by rw[z];exact λw=>nomatch w)with w|w;exact Û g w;rw[e]at w;cases w
def zu.go(E:zu K n P G0 H0 G H β σ)(x:zR G H G' H'):zu K n P G0 H0 G' H' β σ:=by obtain⟨j,F⟩:=ŷa;refine⟨øq x,Ŝ,ō,ēa,ŕb,j,λi m h=>?_,æa,λi q z=>?_⟩;obtain⟨v,e,o⟩:=Ĩa i m h;refine⟨v,e,ķh x.g m v _ λq z=>?_⟩;obtain⟨u,d,_⟩:=èd.2.2;rw[d];exact x.h _ _ d;obtain⟨a,b,c⟩:=ļa i q z;obtain⟨k,f⟩:=Fw x a c;exact⟨k,b,f⟩
def z3x{i:Nat}{b:Í}{d:D}(h:Ùf[i]?=À žd):b=Â/\β[i]?=À (À úf):=by
 unfold gN at h;rw[Ŧ]at h;cases e:β[i]? with
 |Ä=>rw[e]at h;cases h|À o=>
  rw[e]at h;cases o with
  |Ä=>cases h|À m=>
   cases m with
   |fz d'=>cases h;exact⟨rfl,rfl⟩|_=>cases h
def y9p{i:Nat}{b:Í}{d:D}(h:Ċh[i]?=À žd):b=Â/\∃m,β[i]?=À Ýb/\d=uU m:=by
 unfold qd at h;rw[Ŧ]at h;cases e:β[i]? with
 |Ä=>rw[e]at h;cases h|À o=>
  rw[e]at h;cases o with
  |Ä=>cases h|À m=>cases h;exact⟨rfl,m,rfl,rfl⟩
def bS{τ:yE}(s:zw G H)(c:σ.length=n)(f:τ.length=n)(h:∀(i:Nat)(b:Í)(d:D),τ[i]?=À žd->b=Â/\∃v,σ[i]?=À ìa/\za K G d v):zr K n G H G H τ σ:=
 ⟨Ŀa s,c,f,λi d e=>(h i Â d e).2,λi d e=>(by cases(h i Ã d e).1),λi j d e p _ a=>(by cases(h i Ã d a).1)⟩
def zu.XZ(E:zu K n P G0 H0 G H β σ):zr K n G H G H Ùf σ:=by
 obtain⟨c,F⟩:=ŷa;refine bS Ìb Ŝ (by unfold gN;rw[ç];exact ō) λi b d h=>?_
 obtain⟨rfl,a⟩:=z3x h;obtain⟨v,e,r,_⟩:=Ĩa i _ a;exact⟨rfl,v,e,r⟩
def sv{b c:Hp}{L:Ft}(g:∀q,¬ L q->c q=b q)(i:∀q,L q->Bx b q){a:È}{vs:Á V}(h:y_ K b a vs):y_ K c a vs:=by
 have k:∀{u:HO},ak u=Â->b a=À u->c a=À u:=λ{u} j e=>by rw[g a λz=>?_];exact e;obtain⟨w,d,f⟩:=i a z;rw[e]at d;cases d;rw[j]at f;cases f
 rcases h with h|h;rcases h with h|⟨o,h⟩;exact .inl (.inl (k rfl h));exact .inl (.inr ⟨o,k rfl h⟩);exact .inr h
def bC{g k:Hp}{L:Ft}(o:∀q,¬ L q->k q=g q)(p:∀q,L q->Bx g q)(d:D):∀(v:V),wz d=Ã->za K g d v->za K k d v:=by
 refine Ĺf (P:=λd=>∀v,wz d=Ã->za K g d v->za K k d v) (λv _ h=>h) (λb v _ h=>h) (λi v _ h=>h) (λx v _ h=>h) ?_ (λc f v t=>by cases t) (λB c f v t=>by cases t) (λx v t=>by cases t) (λx A c f v t=>by cases t) d;rintro c f v t ⟨a,n,e,q,r,l⟩;refine⟨a,n,e,sv o p q,?_,l⟩;have z:êb c=Ã:=t;clear t q l
 induction c generalizing n with
 |nil=>exact r|đ x c ih2=>obtain⟨u,m,rfl,y,s⟩:=r;have j:(wz x&&êb c)=Ã:=z;rw[Ē]at j;exact⟨u,m,rfl,f x Ŏ u j.1 y,ih2 (λd w=>f d (Ĉa _ w)) m s j.2⟩
theorem bD{b f:Hp}{L:Ft}(c:∀q,¬ L q->f q=b q)(e:∀q,L q->Bx b q):∀{ds:Á D}{vs:Á V},êb ds=Ã->Þ K b ds vs->Þ K f ds vs
 | [],_,_,r=>r|d::ds,_,t,r=>by obtain⟨u,i,rfl,h,g⟩:=r;have a:Øp=Ã:=t;rw[Ē]at a;exact⟨u,i,rfl,bC c e d u a.1 h,bD c e a.2 g⟩
theorem zu.qo(E:zu K n P G0 H0 G H β σ):∃G1,zr K n G1 H G1 H Ċh σ/\∀G2 H2,zR G1 H G2 H2->∃G3,zR G H G3 H2/\zu K n P G0 H0 G3 H2 β σ/\(∀d v,wz d=Ã->za K G2 d v->za K G3 d v)/\(∀ds vs,êb ds=Ã->Þ K G2 ds vs->Þ K G3 ds vs)/\∀q,G2 q=Ä->G3 q=Ä:=by
 classical
 obtain⟨s,F⟩:=ŷa
 let L:Ft:=λq=>∃i,s i q
 have k:∀q,L q->G q=Ä:=λq ⟨i,z⟩=>èd.1
 have y:∀q,L q->Bx H q:=λq ⟨i,z⟩=>èd.2.2
 let G1:Hp:=λq=>if L q then H q else G q
 have e1:∀q,L q->G1 q=H q:=λq z=>Î z
 have e2:∀q,¬ L q->G1 q=G q:=λq z=>Ð z
 have l:zw G G1:=λq o e=>by rw[e2 q λz=>by rw[k q z]at e;cases e];exact e
 have A:zw G1 H:=λq o e=>by by_cases c:L q;rw[e1 q c]at e;exact e;rw[e2 q c]at e;exact Ìb _ _ e
 refine⟨G1,bS A Ŝ (by unfold qd;rw[ç];exact ō) λi b d h=>?_,λG2 H2 x=>?_⟩;obtain⟨rfl,m,C,rfl⟩:=y9p h;obtain⟨v,e,o⟩:=Ĩa i m C;exact⟨rfl,v,e,o.qo l m v _ λq z=>e1 q ⟨i,z⟩⟩;let G3:Hp:=λq=>if L q then Ä else G2 q
 have a:∀q,¬ L q->G3 q=G2 q:=λq z=>Ð z
 have f:∀q,L q->G3 q=Ä:=λq z=>Î z
 have p:∀q,L q->Bx G2 q:=λq z=>by obtain⟨u,B,c⟩:=y q z;exact⟨u,x.g _ _ ((e1 q z).trans B),c⟩
 have j:zR G H G3 H2:=by
  refine⟨λq o e=>?_,x.h,λq o e=>?_,λq z=>?_⟩;have c:¬ L q:=λz=>by rw[k q z]at e;cases e
  rw[a q c];exact x.g _ _ (l _ _ e);by_cases c:L q;rw[f q c]at e;cases e;rw[a q c]at e;exact Ÿa _ _ e;by_cases c:L q;rw[f q c]at z;exact Û rfl z;rw[a q c]at z;rcases Ŭc q z with w|w;rw[e2 q c]at w;exact .inl w;exact .inr w
 refine⟨G3,j,öa j,λd v t r=>bC a p d v t r,λds vs t r=>bD a p t r,λq z=>?_⟩;by_cases c:L q;exact f q c;rw[a q c];exact z
def MD{α:Type}{xs:Á α}{x y:α}{i:Nat}(h:ök[i]?=À y):(i<à/\xs[i]?=À y)\/(i=à/\y=x):=by
 rcases Nat.lt_or_ge i à with c|c;rw[ģb c]at h;exact .inl ⟨c,h⟩;rw[Śb c]at h;cases z:i-à with
 |äa=>rw[z]at h;cases h;exact .inr ⟨by omega,rfl⟩|åa k=>rw[z]at h;cases h
def jp{α:Type}{xs:Á α}{x:α}{n:Nat}(h:à=n):ök[n]?=À x:=by subst h;rw[Śb Ċ,éc];rfl
def u7{α:Type}{xs:Á α}{x:α}{i:Nat}(h:i<à):ök[i]?=xs[i]?:=ģb h
def zu.push{m:M}{v:V}{L:Ft}(E:zu K n P G0 H0 G H β σ)(o:xO K G H m v L)(p:∀Ls,Sm K H0 G H β σ Ls->∀i q,Ls i q->L q->ô)(ok:∀q,L q->G q=Ä/\H0 q=Ä/\Bx H q):zu K ķ P G0 H0 G H ŗe İb:=by
 obtain⟨Ls,F⟩:=ŷa;have d:=p Ls F;refine⟨Ųc,by rw[í,Ŝ];rfl,by rw[í,ō];rfl,by have:=ēa;omega,λi u h=>?_,λj=>if j<n then Ls j else if j=n then L else λ_=>ô,λi r h=>?_,λi j q f b a=>?_,λi q z=>?_⟩;have g:i<σ.length:=by rw[Ŝ];exact Ů Üb.1 ēa
 rw[u7 g];exact ŕb i u h;rcases MD h with⟨c,e⟩|⟨c,e⟩;rw[ō]at c;obtain⟨u,k,l⟩:=Ĩa i r e;refine⟨u,by rw[u7 Ģe];exact k,?_⟩;simp only[Î c];exact l;cases e;rw[ō]at c;subst c;refine⟨v,jp Ŝ,?_⟩;simp only[Ūd,òa,Ť];exact o;skip
 split at b;split at a;exact æa i j q f b a;split at a;exact d i q b a;exact a;split at b;split at a;exact d j q a b;split at a;exact f Å;exact a;exact b;skip
 split at z;exact ļa i q z;split at z;exact ok q z;exact Ïa
def zu.Z9{d:D}{v:V}(E:zu K n P G0 H0 G H β σ)(r:za K G d v):zu K ķ P G0 H0 G H ŕo İb:=
 E.push (L:=λ_=>ô) ⟨r,λ_ z=>z⟩ (λ_ _ _ _ _ z=>z) λ_ z=>Ïa
def zu.oK{d:D}{p:È}(E:zu K n P G0 H0 G H β σ)(x:zR G H G' H')(r:H p=Ä)(A:G' p=Ä)(o:wv K G' H' d p):zu K ķ P G0 H0 G' H' (β++[À ńk]) (σ++[À Éa]):=by
 obtain⟨m,F⟩:=ŷa;have J:=öa x;refine⟨?_,?_,?_,?_,?_,?_⟩<;>try first|exact J.ext|exact(by rw[í,Ŝ];rfl)|exact(by rw[í,ō];rfl)
 have:=ēa;omega;intro i u h
 have B:i<σ.length:=by rw[Ŝ];exact Ů Üb.1 ēa
 rw[u7 B];exact ŕb i u h;have s:∀i q,m i q->q≠p:=λi q z c=>by subst c;exact èd.2.2.some r
 refine⟨λj=>if j<n then m j else if j=n then(λq=>q=p)else λ_=>ô,λi v h=>?_,λi j q t k f=>?_,λi q z=>?_⟩;rcases MD h with⟨c,e⟩|⟨c,e⟩;rw[ō]at c;obtain⟨u,C,I⟩:=Ĩa i v e;refine⟨u,by rw[u7 Ģe];exact C,?_⟩;simp only[Î c];refine ħa x.g v u _ λq z=>?_
 obtain⟨w,l,_⟩:=èd.2.2;rw[l];exact x.h _ _ l;cases e;rw[ō]at c;subst c;refine⟨_,jp Ŝ,?_⟩;simp only[Ūd,òa,Ť];exact⟨p,rfl,o,λq=>ďd⟩;skip
 split at k;split at f;exact æa i j q t k f;split at f;exact s i q k f;exact f;split at k;split at f;exact s j q f k;split at f;exact t Å;exact f;exact k;skip
 split at z;obtain⟨a,b,c⟩:=ļa i q z;obtain⟨L,y⟩:=Fw x a c;exact⟨L,b,y⟩;split at z;subst z;exact⟨A,Ďj r,o.bx⟩;exact Ïa
def zu.S0{m:M}{v:V}{i:Nat}(hi:i<n)(r:Đa<=i)(d:σ.length=n)(b:β.length=n)(E:zu K ķ P G0 H0 G H ŗe İb):zu K n P G0 H0 G H (β.set i Ýb) ŭd:=by
 obtain⟨l,F⟩:=ŷa;refine⟨Ųc,by rw[Ņa];exact d,by rw[Ņa];exact b,by omega,λj u h=>?_,λj=>if j=i then l n else if j<n then l j else λ_=>ô,λj p h=>?_,λj k q f c a=>?_,λj q z=>?_⟩;have o:j<Đa:=Üb.1;rw[qR Å];have:=ŕb j u h;rw[u7 Å]at this;exact this;rcases vo h with⟨rfl,w⟩|⟨f,w⟩;cases w;obtain⟨u,e,g⟩:=Ĩa n m (jp b);rw[jp d]at e;cases e;simp only[Ť];exact⟨v,Yi Å,g⟩;have o:j<n:=by rw[<-b];exact(Ŗ w).1
 obtain⟨u,e,g⟩:=Ĩa j p Ín;rw[u7 Å]at e;simp only[Ð f,Î o];exact⟨u,by rw[qR f];exact e,g⟩;skip
 split at c;split at a;exact f Å;split at a;exact æa n k q Å c a;exact a;split at c;split at a;exact æa j n q Å c a;split at a;exact æa j k q f c a;exact a;exact c;skip
 split at z;exact ļa n q z;split at z;exact ļa j q z;exact Ïa
def zu.pop{m:Æ M}{v:Æ V}(b:σ.length=n)(a:β.length=n)(f:Đa<=n)(E:zu K ķ P G0 H0 G H ŭg Ūg):zu K n P G0 H0 G H β σ:=by
 obtain⟨e,F⟩:=ŷa;refine⟨Ųc,b,a,f,λj u h=>?_,e,λj d h=>?_,æa,ļa⟩;have i:j<Đa:=Üb.1;have:=ŕb j u h;rw[u7 Å]at this;exact this;have i:j<n:=by rw[<-a];exact Üb.1
 obtain⟨u,c,g⟩:=Ĩa j d (by rw[u7 Å];exact h);rw[u7 Å]at c;exact⟨u,c,g⟩
#print a
inductive g9 where
 |nx (β:yD)|rt (m:M) (β:yD)|bk (β:yD)|ct (β:yD)
abbrev yR:=yD->Æ g9
abbrev xi:=yD->Æ (M×yD)
abbrev uJ:=yD->Æ (Í×yD)
def Vs(K:Ì)(n:Nat)(P:Á V)(b a:Hp)(E:uF):g9->Prop
 |.nx β=>∀σ G H,zu K n P b a G H β σ->E.nx σ H|.bk β=>∀σ G H,zu K n P b a G H β σ->E.bk σ H|.ct β=>∀σ G H,zu K n P b a G H β σ->E.ct σ H|.rt m β=>∀σ v G H,zu K ķ P b a G H ŗe İb->E.rt v H
section
variable(X:Cx)
structure MC(e:Ñ)(f:xi):Prop where
 h:∃t,PE X e t/\∀{P:Á V}{G0 H0 G H:Hp}{β β':yD}{σ:St}{m:M}{Q:VK},zu X.K ö P G0 H0 G H β σ->f β=À (m,β')->(∀v G' H',zw G G'->zu X.K (ö+1) P G0 H0 G' H' Ñp İb->Q v H')->t σ H Q
structure MT(e:Ñ)(f:uJ):Prop where
 h:∃t,PT X e t/\∀{P:Á V}{G0 H0 G H:Hp}{β β':yD}{σ:St}{b:Í}{Q:Í->Hp->Prop},zu X.K ö P G0 H0 G H β σ->f β=À (b,β')->(∀G' H',zw G G'->zu X.K ö P G0 H0 G' H' β' σ->Q b H')->t σ H Q
structure MW(e:Ñ)(f:uJ):Prop where
 h:∃t,PW X e t/\∀{P:Á V}{G0 H0 G H:Hp}{β β':yD}{σ:St}{b:Í}{Q:Í->Hp->Prop},zu X.K ö P G0 H0 G H β σ->f β=À (b,β')->(∀G' H',zw G G'->zu X.K ö P G0 H0 G' H' β' σ->Q b H')->t σ H Q
structure MS(np:Nat)(st:Õ)(f:yR):Prop where
 h:∃t,PS X st t/\∀{P:Á V}{G0 H0 G H:Hp}{β:yD}{σ:St}{fl:g9}{E:uF},Đa=np->zu X.K ö P G0 H0 G H β σ->f β=À fl->Vs X.K ö P G0 H0 E fl->t E σ H
structure pX(np:Nat)(st:Á Õ)(f:yR):Prop where
 h:∃t,t4 X st t/\∀{P:Á V}{G0 H0 G H:Hp}{β:yD}{σ:St}{fl:g9}{E:uF},Đa=np->zu X.K ö P G0 H0 G H β σ->f β=À fl->Vs X.K ö P G0 H0 E fl->t E σ H
#print a
section
variable{K:Ì}{n:Nat}{P:Á V}{G0 H0 G H:Hp}{β:yD}{σ:St}{m:M}{v:V}{d:D}
def zu.Ta{m:Æ M}{v:Æ V}(E:zu K ķ P G0 H0 G H ŭg Ūg):σ.length=n:=by have:=Ŝ;rw[í]at this;exact Šd this
def zu.XV{m:Æ M}{v:Æ V}(E:zu K ķ P G0 H0 G H ŭg Ūg):β.length=n:=by have:=ō;rw[í]at this;exact Šd this
def zu.gu(E:zu K ķ P G0 H0 G H ŕo İb):za K G d v:=by obtain⟨b,F⟩:=ŷa;obtain⟨u,a,r,_⟩:=Ĩa n _ Ŏr;rw[jp E.Ta]at a;cases a;exact r
def zu.Y8{i:Nat}(E:zu K n P G0 H0 G H β σ)(hi:i<n)(a:Đa<=i)(r:za K G d v):zu K n P G0 H0 G H âi ŭd:=(E.Z9 r).S0 hi a Ŝ ō
theorem zu.zC(E:zu K n P G0 H0 G H β σ):zu K n P G H0 G H β σ:=⟨E.ext.zC,Ŝ,ō,ēa,ŕb,ŷa⟩
def zu.near{b c:Hp}(a:zR G0 H0 b c)(E:zu K n P b H0 G H β σ):zu K n P G0 H0 G H β σ:=⟨a.rebase Ųc,Ŝ,ō,ēa,ŕb,ŷa⟩
theorem Vs.near{b c:Hp}{E:uF}{a:g9}(x:zR G0 H0 b c)(h:Vs K n P G0 H0 E a):Vs K n P b H0 E a:=by
 cases a with
 |nx τ=>exact λσ G H z=>h σ G H ăg|bk τ=>exact λσ G H z=>h σ G H ăg|ct τ=>exact λσ G H z=>h σ G H ăg|rt m β=>exact λσ v G H z=>h σ v G H ăg
#print a
def xf(f:FE):xi:=λβ=>(Ál).bind λd=>À (.fz d,β)
def jb(f:FE):xi:=λβ=>(ůe).bind λd=>match wz d with
 |Ã=>À (.fz d,β)|Â=>Ä
def Qg(f:FE):xi:=λβ=>(Ál).bind λd=>À (.own d,β)
def r_(f:FE):xi:=λβ=>(ůe).bind λd=>match GS d with
 |Ã=>À (.own d,β)|Â=>Ä
noncomputable def rp(f:xi):xi:=λβ=>(ŵa).bind λr=>match r with
 |(.own d,β')=>À (.fz d,β')|r=>À r
def XA(f:FT):uJ:=λβ=>(ůe).bind λb=>À (b,β)
noncomputable def x46(f:uJ):uJ:=λβ=>(ŵa).bind λr=>À (!r.1,r.2)
noncomputable def P4(f g:uJ):uJ:=λβ=>(ŵa).bind λr=>match r.1 with
 |Ã=>g r.2|Â=>À (Â,r.2)
noncomputable def P5(f g:uJ):uJ:=λβ=>(ŵa).bind λr=>match r.1 with
 |Ã=>À (Ã,r.2)|Â=>g r.2
noncomputable def qw:M->Æ D
 |.fz d=>À d|_=>Ä
def X_(F:D->D->Æ D)(f g:xi):xi:=λβ=>(ŵa).bind λr=>(ŗc).bind λx=>(g r.2).bind λa=>(qw a.1).bind λy=>(F x y).bind λz=>À (.fz z,a.2)
def IG(f:xi):uJ:=λβ=>(ŵa).bind λr=>(ŗc).bind λx=>(ĭf).bind λb=>À (b,r.2)
def Oa(f g:xi):xi:=λβ=>(ŵa).bind λr=>(ŗc).bind λx=>(ĭf).bind λb=>match b with
 |Ã=>g r.2|Â=>À (.fz û,r.2)
def jZ{m:M}{d:D}(h:qw m=À d):m=.fz d:=by
 cases m with
 |fz d'=>cases h;rfl|_=>cases h
section
variable{X:Cx}{x:Str}{p pos:Pos}{e a b:Ñ}{ĵ:Á Ñ}{f:FE}{ft:FT}{F:D->D->Æ D}{r:R2}{g g':xi}{u u':uJ}
def wH(h:SE X e f):MC X e (xf f):=by obtain⟨t,p,k⟩:=h.h;refine⟨⟨t,p,λE a q=>?_⟩⟩;obtain⟨d,b,a⟩:=zH a;cases a;exact k E.XZ b λv i c x r=>q v i c x.g ((öa x).Z9 r)
def kS(h:SE X e f):MC X e (jb f):=by
 obtain⟨t,p,k⟩:=h.h;refine⟨⟨t,p,λE a q=>?_⟩⟩;obtain⟨d,n,a⟩:=zH a;cases c:wz d with
 |Â=>rw[c]at a;cases a|Ã=>
  rw[c]at a;cases a;obtain⟨s,m,ća⟩:=E.qo;refine k m n λv u i x r=>?_
  obtain⟨l,b,o,j,_⟩:=ća _ _ x;exact q v l i b.g (o.Z9 (j d v c r))
def GM(h:SF X e f):MC X e (Qg f):=by obtain⟨t,p,k⟩:=h.h;refine⟨⟨t,p,λE a q=>?_⟩⟩;obtain⟨d,c,a⟩:=zH a;cases a;exact k E.XZ c λp j i x b l o=>q _ j i x.g (E.oK x b l o)
def UV(h:ST X e ft):MT X e (XA ft):=by
 obtain⟨t,p,k⟩:=h.h;refine⟨⟨t,p,λE a q=>?_⟩⟩;obtain⟨b,c,a⟩:=zH a;cases a;obtain⟨m,j,ća⟩:=E.qo;refine k j c λn f x=>?_
 obtain⟨i,d,l,_⟩:=ća _ _ x;exact q i f d.g l
def z6v(h:MT X a u):MW X üi u:=⟨let ⟨t,p,k⟩:=h.h;⟨t,fX p,k⟩⟩
def z6x(h:MT X a u):MW X ĉi u:=⟨let ⟨t,p,k⟩:=h.h;⟨t,fZ p,k⟩⟩
def z6u(m:MT X a u)(j:MW X ţd u'):MW X Êe (P4 u u'):=by
 obtain⟨r,i,n⟩:=m.h;obtain⟨v,f,g⟩:=j.h;refine⟨⟨_,fW i f,λE c q=>?_⟩⟩;obtain⟨⟨k,β1⟩,p,c⟩:=zH c;refine n E p λt w e d=>?_
 cases k with
 |Ã=>exact j9 ïm|Â=>cases c;exact j8 ġq
def z6w(m:MT X a u)(j:MW X ņe u'):MW X Ëf (P5 u u'):=by
 obtain⟨r,i,n⟩:=m.h;obtain⟨v,f,g⟩:=j.h;refine⟨⟨_,fY i f,λE c q=>?_⟩⟩;obtain⟨⟨k,β1⟩,p,c⟩:=zH c;refine n E p λt w e d=>?_
 cases k with
 |Â=>exact j8 ïm|Ã=>cases c;exact j9 ġq
def dg(h:MW X e u):MT X e u:=⟨let ⟨t,p,k⟩:=h.h;⟨t,p.pt,k⟩⟩
def zu.down{K:Ì}{n:Nat}{P:Á V}{a b G H:Hp}{β:yD}{σ:St}{m:Æ M}{v:Æ V}(c:Đa<=n)(E:zu K ķ P a b G H ŭg Ūg):zu K n P a b G H β σ:=E.pop E.Ta E.XV c
def z6b{e:ĺf}(u:yj X (ċa e) r)(v:gA X.K r F)(C:MC X a g)(t:MC X b g')(O:åc e b=Â):MC X (.Compare a [e] [b] pos) ĩq:=by
 obtain⟨P,A,L⟩:=C.h;obtain⟨R,l,n⟩:=t.h;refine⟨⟨_,eS u A l O,λE c q=>?_⟩⟩;obtain⟨⟨T,β1⟩,o,c⟩:=zH c;obtain⟨w,e1,c⟩:=zH c;cases jZ e1;obtain⟨⟨S,β2⟩,y,c⟩:=zH c;obtain⟨H,e2,c⟩:=zH c;cases jZ e2;obtain⟨z,I,c⟩:=zH c;cases c;refine L E o λp Q U G i=>?_
 have B:=i.gu;refine n (i.down ēa) y λm N x f j=>?_
 have s:=j.gu;have d:=j.down ēa;obtain⟨k,rfl,J⟩:=v x w H p m _ _ ((B.mono f).mono d.ext.gh) (Ël d.ext.gh) I;exact J (q _ N _ (G.trans f) (d.Z9 rfl))
def z6t(h:MC X e g)(j:Ê Ár q12):MT X e (IG g):=by
 obtain⟨t,p,k⟩:=h.h;refine⟨⟨_,fN p (f9 j),λE a q=>?_⟩⟩;obtain⟨⟨n,β1⟩,d,a⟩:=zH a;obtain⟨o,e1,a⟩:=zH a;cases jZ e1;obtain⟨b,f,a⟩:=zH a;cases a;refine k E d λl m r i c=>?_
 exact⟨_,Jm c.gu f,q _ _ i (c.down ēa)⟩
def z6q{i:ĺf}(w:yj X (ċa i) r)(x:gA X.K r F)(H:MC X a g)(v:MC X b g')(R:åc i b=Â):MT X (.Compare a [i] [b] pos) (IG ĩq):=by
 obtain⟨S,C,P⟩:=H.h;obtain⟨Y,n,p⟩:=v.h;refine⟨⟨_,Gv w C n R,λE d q=>?_⟩⟩;obtain⟨⟨T,β3⟩,c,d⟩:=zH d;obtain⟨d3,O,d⟩:=zH d;cases jZ O;obtain⟨U,f,d⟩:=zH d;cases d;obtain⟨⟨m1,β1⟩,s,c⟩:=zH c;obtain⟨y,e1,c⟩:=zH c;cases jZ e1;obtain⟨⟨Z,β2⟩,B,c⟩:=zH c;obtain⟨J,e2,c⟩:=zH c;cases jZ e2;obtain⟨z,L,c⟩:=zH c;cases c;refine P E s λt W H1 I l=>?_
 have G:=l.gu;refine p (l.down ēa) B λo Q A j m=>?_
 have u:=m.gu;have e:=m.down ēa;obtain⟨k,rfl,N⟩:=x A y J t o _ _ ((G.mono j).mono e.ext.gh) (u.mono e.ext.gh) L;cases f;exact N ⟨_,rfl,q Q _ (I.trans j) e⟩
def z6d{op}(h:MC X a g):MC X Đi g:=⟨let ⟨t,p,k⟩:=h.h;⟨t,eZ p,k⟩⟩
def z6a(o:MC X a g)(m:MC X ţd g'):MC X Êe (Oa g g'):=by
 obtain⟨u,l,p⟩:=o.h;obtain⟨y,f,i⟩:=m.h;refine⟨⟨_,eR l f,λE c q=>?_⟩⟩;obtain⟨⟨z,β1⟩,j,c⟩:=zH c;obtain⟨A,e1,c⟩:=zH c;cases jZ e1;obtain⟨k,s,c⟩:=zH c;refine p E j λt x B e d=>⟨k,Jm d.gu s,?_⟩
 cases k with
 |Ã=>exact j9 (i źp c λv C w n r=>q v _ _ (Żb n) r)|Â=>cases c;exact j8 (q _ _ _ e ((źp).Z9 rfl))
#print a
noncomputable def WP:yR:=λβ=>À (.nx β)
noncomputable def xK(a b:yR):yR:=λβ=>(a β).bind λf=>match f with
 |.nx β'=>b β'|f=>À f
noncomputable def WO(c:uJ)(a b:yR):yR:=λβ=>(Ĥd).bind λr=>match r.1 with
 |Ã=>a r.2|Â=>b r.2
noncomputable def WR(f:xi):yR:=λβ=>(ŵa).bind λr=>À (.rt r.1 r.2)
noncomputable def qz(f:xi):yR:=λβ=>(ŵa).bind λr=>À Ũr
noncomputable def vk(i:Nat)(f:xi):yR:=λβ=>(ŵa).bind λr=>À (.nx (r.2.set i (À r.1)))
abbrev MG:=D->yD->Æ yD
noncomputable def JI(i:Nat):MG:=λd β=>À âi
noncomputable def UM(i j:Nat):MG:=λd β=>match d with
 |.tup ųc=>À śl|_=>Ä
noncomputable def jA(g:MG)(b:yR):Á D->yD->Æ g9
 | [],β=>À (.nx β)|d::r,β=>(g d β).bind λβ1=>(Ďh).bind λf=>match f with
  |.nx β2=>jA g b r β2|.ct β2=>jA g b r β2|.bk β2=>À Ľb|.rt m β2=>À Ŀj
def LW(it:FA)(g:MG)(b:yR):yR:=λβ=>(it Ùf).bind λa=>jA g b a β
noncomputable def pG(c:uJ)(b:yR):Nat->yD->Æ g9
 |0,_=>Ä|n+1,β=>(Ĥd).bind λr=>match r.1 with
  |Â=>À Ũr|Ã=>(Äl).bind λf=>match f with
   |.nx β2=>pG c b n β2|.ct β2=>pG c b n β2|.bk β2=>À Ľb|.rt m β2=>À Ŀj
def GK(c:uJ)(b:yR):yR:=λβ=>pG c b gw β
section
variable{X:Cx}{np:Nat}{x:Str}{p pos ĩa:Pos}{e c tg Ŕ:Ñ}{st:Õ}{sts ŵc:Á Õ}{f g:yR}{h:xi}{u:uJ}{fs:FA}
def JP:pX X np [] WP:=⟨⟨_,fL,λ{P c b G H β σ d E} _ K a q=>by cases a;exact q σ G H K⟩⟩
def xQ(b:MS X np st f)(m:pX X np sts g):pX X np ňr (xK f g):=by
 obtain⟨t,p,k⟩:=b.h;obtain⟨w,j,i⟩:=m.h;refine⟨⟨_,fK p j,λ{P n u G H β σ r E} c K a q=>?_⟩⟩;obtain⟨l,b,a⟩:=zH a;refine k c K b ?_;cases l with
 |nx τ'=>exact λσ' v s e=>i c e a q|bk τ'=>cases a;exact q|ct τ'=>cases a;exact q|rt o d=>cases a;exact q
def wd(a:MS X np st f):pX X np [st] f:=⟨let ⟨t,p,k⟩:=a.h;⟨t,fM p,k⟩⟩
def JO{b e:Á Õ}(r:MT X c u)(p:pX X np b f)(n:pX X np e g):MS X np (.If c b e pos) (WO u f g):=by
 obtain⟨z,o,v⟩:=r.h;obtain⟨w,m,s⟩:=p.h;obtain⟨B,j,l⟩:=n.h;refine⟨⟨_,fH o m j,λ{P x C G H β σ y E} i K a q=>?_⟩⟩;obtain⟨⟨k,β1⟩,t,a⟩:=zH a;refine v K t λA F _ d=>?_
 cases k with
 |Ã=>exact j9 (s i d a q)|Â=>exact j8 (l i d a q)
def JR(c:MC X e h):MS X np Âg (WR h):=by obtain⟨t,p,k⟩:=c.h;refine⟨⟨_,Lm p,λ{P f j G H β σ g E} n K a q=>?_⟩⟩;obtain⟨⟨m,β1⟩,d,a⟩:=zH a;cases a;exact k K d λv l i _ b=>q _ v _ _ b
def gS(d:MC X e h)(c:Ê Ķm q12):MS X np ïj (qz h):=by obtain⟨t,p,k⟩:=d.h;refine⟨⟨_,fG p c,λ{P g l G H β σ i E} o K a q=>?_⟩⟩;obtain⟨⟨m,β1⟩,f,a⟩:=zH a;cases a;exact k K f λv n j _ b=>q _ _ _ (b.down Řb)
def ur{i:Nat}{x:Str}{ĩa:Pos}(c:ğa)(hi:X.N[i]?=À x)(d:pW éa x)(r:np<=i)(g:MC X e h)(f:Ê źe q12)(a:Ê ża q7) :MS X np Ŗf (vk i h):=by obtain⟨t,p,k⟩:=g.h;refine⟨⟨_,(HG c hi d ⟨p⟩ f a).h,λ{P l s G H β σ n E} w K a q=>?_⟩⟩;obtain⟨⟨m,β1⟩,j,a⟩:=zH a;cases a;exact k K j λv u o _ b=>q _ _ _ (b.S0 ńb.1 Å b.Ta b.XV)
structure QK(X:Cx)(np:Nat)(tg:Ñ)(fg:MG):Prop where
 h:∃t,PG X tg t/\∀{P:Á V}{G0 H0 G H:Hp}{β β':yD}{σ:St}{d:D}{v:V}{Q:St->Hp->Prop},Đa=np->zu X.K ö P G0 H0 G H β σ->za X.K G d v->fg d β=À β'->(∀σ',zu X.K ö P G0 H0 G H β' σ'->Q σ' H)->t v σ H Q
def z6h{i:Nat}{x:Str}(h:QG X ýa ċc)(hi:X.N[i]?=À x)(b:np<=i):QK X np ýa (JI i):=⟨⟨_,h.h,λc K r a q=>by cases a;exact q _ (K.Y8 ńb.1 Å r)⟩⟩
def z6g{i j:Nat}{x y:Str}{p1 p2:Pos}{c:Nat}(h:QG X Õo ŉf)(hi:X.N[i]?=À x)(n:X.N[j]?=À y)(u:np<=i)(t:np<=j):QK X np Õo (UM i j):=⟨⟨_,h.h,λ{P s w G H β β' σ d v Q} C K r b q=>by
 unfold UM at b
 split at b;rename_i A z;cases b;obtain⟨a,B,rfl,o,⟨g,p,rfl,f,⟨e,k,rfl,m,l⟩⟩,_⟩:=r;cases(show k=[]from l);refine⟨a,_,rfl,vz ña o,rfl,g,_,rfl,e,_,rfl,rfl,?_⟩;exact q _ ((K.Y8 ńb.1 Å f).Y8 (Ŗ n).1 Å m);cases b⟩⟩
def dZ{c:MG}(S:ód ü X.A Ô Ĥ)(hc:ų=Ã)(hi:SI X tg Ŕ fs)(hg:QK X np tg c)(L:pX X np ŵc g)(hs:Ê (∀x,Īb Ŕ Ô x=pure x) q11):MS X np Öi (LW fs c g):=by
 obtain⟨ti,pi,W⟩:=đc;obtain⟨Z,pg,O⟩:=hg.h;obtain⟨tb,v,B⟩:=L.h;refine⟨⟨_,Gq S hc pi pg v hs,λ{P G0 t G H τ σ p E} u K a q=>?_⟩⟩;obtain⟨b,hd,a⟩:=zH a;refine W K.XZ hd λJ o Ha R _ j=>?_
 have r:=ŵ R;have k:=Vs.near r.ext q;refine⟨λi m σ H=>m=Ű-i/\i<=Ű/\∃τ G,zu X.K ö P o t G H τ σ/\jA c g Ţk τ=À p,⟨Ű,rfl,ęa _,τ,o,r.zC,a⟩,?_⟩;rintro i m σ H ⟨rfl,hle,τ,G,K,a⟩;by_cases hlt:i<Ű;refine .inr ⟨j.go i G H Ăc ña hlt,λσ' f=>∃τ G,zu X.K ö P o t G f τ σ'/\jA c g çk τ=À p,λσ' f z=>⟨Ű-ê,Ãg _ _ hlt,rfl,hlt,z⟩,λx f y=>?_⟩;obtain⟨G3,d,I,s,C⟩:=j.ua i G H x f Ăc ña hlt y;rw[Öc hlt]at a;rw[Ĕ hlt]at s;cases s;obtain⟨τ1,F,a⟩:=zH (show(c _ τ).bind _=_ from a);obtain⟨Q,U,a⟩:=zH a;refine O u (ŵ I) C F λσ1 Y=>B u Y U ?_
 cases Q with
 |nx τ2=>exact λσ2 n T l=>⟨τ2,n,l,a⟩|ct τ2=>exact λσ2 n T l=>⟨τ2,n,l,a⟩|bk τ2=>cases a;exact k|rt m β=>cases a;exact k
 have e:i=Ű:=by omega
 subst e;rw[ęo]at a;cases a;exact .inl ⟨j.stop _ G H Ăc ña Ċ,k _ _ _ K⟩
def z6o(x:ód ü X.A Ô Ĥ)(B:MT X c u)(s:pX X np ŵc g):MS X np én (GK u g):=by
 obtain⟨J,v,I⟩:=B.h;obtain⟨O,o,p⟩:=s.h;refine⟨⟨_,fJ x v o,λ{P f l G H τ σ i E} F K a q=>?_⟩⟩;refine⟨λm σ H=>∃τ G,zu X.K ö P f l G H τ σ/\pG u g m τ=À i,⟨gw,τ,G,K,a⟩,?_⟩;rintro m σ H ⟨τ,G,K,a⟩;cases m with
 |äa=>cases a|åa n=>
  obtain⟨⟨k,β1⟩,C,a⟩:=zH (show(u τ).bind _=_ from a);refine I K C λL Q _ e=>?_
  cases k with
  |Â=>cases a;exact j8 (q _ _ _ e)|Ã=>
   obtain⟨t,r,a⟩:=zH (show(g β1).bind _=_ from a);refine j9 ⟨λσ' j=>∃τ G,zu X.K ö P f l G j τ σ'/\pG u g n τ=À i,λσ' j z=>⟨n,Øc n,z⟩,p F e r ?_⟩;cases t with
   |nx τ2=>exact λσ2 d y b=>⟨τ2,d,b,a⟩|ct τ2=>exact λσ2 d y b=>⟨τ2,d,b,a⟩|bk τ2=>cases a;exact q|rt m β=>cases a;exact q
#print a
def jh(β:yD)(i:Nat)(π:Á xj):Æ M:=match β[i]? with
 |À Ýb=>qx m π|_=>Ä
def Äc(β:yD)(i:Nat)(π:Á xj)(m2:M):Æ yD:=match β[i]? with
 |À Ýb=>(Ųp).bind λa=>À žn|_=>Ä
def WV{β:yD}{i:Nat}{π:Á xj}{a:M}(h:jh β i π=À a):∃m,β[i]?=À Ýb/\qx m π=À a:=by
 unfold jh at h
 split at h;rename_i m e;exact⟨m,e,h⟩;cases h
def Ln{β:yD}{i:Nat}{π:Á xj}{m a m2:M}(h:β[i]?=À Ýb)(e:p8 m π m2=À a):Äc β i π m2=À žn:=by unfold Äc;rw[h];show(Ųp).bind _=_;rw[e];rfl
def vC(K:Ì)(a:Á Str)(f:Str):Prop:=∀x∈a,∀C,Ż K Ę x=À Ġa->tG K C/\YT K C f
structure SP(X:Cx)(e:Ñ)(i:Nat)(π:Á xj):Prop where
 h:∃t,PE X e t/\∀{σ:St}{H:Hp}{v u:V}{Q:VK},σ[i]?=À ìa->wb X.K H v π u->Q u H->t σ H Q
section
variable{X:Cx}{x f:Str}{p pos:Pos}{e:Ñ}{i:Nat}{π:Á xj}{cs:Á Str}
def xG(i:Nat){x:Str}{pos:Pos}(c:Ê ŉe q12)(hv:Ê Źe q13)(d:Ê ı q10)(b:Ê řb q10):SP X ýa i []:=⟨⟨_,Wf c hv d b,λe a q=>by cases(show _=_ from a);exact⟨_,e,q⟩⟩⟩
def tR(h:SP X e i π)(k:vC X.K cs f)(d:Ê ŀm q12):SP X Æg i (π++[.at cs f]):=by obtain⟨t,p,j⟩:=h.h;refine⟨⟨_,eU p d,λe a q=>?_⟩⟩;obtain⟨w,m,g⟩:=a.snoc;obtain⟨p,x,C,o,b,v,rfl,u,s,r,l,rfl⟩:=g;obtain⟨c,n⟩:=k x u C s;exact j e m ⟨p,C,o,b,_,rfl,r,c,n,l,q⟩
#print a
section
variable{K:Ì}{n:Nat}{P:Á V}{G0 H0 G H:Hp}{β:yD}{σ:St}
def zu.write{m W O:M}{T:V}{i:Nat}{π:Á xj}(E:zu K ķ P G0 H0 G H (β++[À O]) (σ++[À T]))(hP:Đa<=n)(X:β[i]?=À Ýb)(ha:qx m π=À W) :∃r v1 L1 Lr,σ[i]?=À ŵk/\wb K H r π v1/\xO K G H W v1 L1/\xO K G H O T Lr/\(∀q,L1 q->Lr q->ô)/\
   ∀{H':Hp}{m2:M}{L2:Ft},(∀q,¬ L1 q->H' q=H q)->xO K G H' m2 v1 L2->(∀q,L2 q->L1 q\/Lr q)->∃m',p8 m π m2=À m'/\zu K n P G0 H0 G H' (β.set i (À m')) σ:=by
 obtain⟨p,F⟩:=ŷa;have v:=E.Ta;have l:=E.XV;have hi:i<n:=by rw[<-l];exact(Ŗ X).1
 obtain⟨r,N,Z⟩:=Ĩa i m (by rw[u7 Å];exact X);rw[u7 Å]at N;obtain⟨u,x,L⟩:=Ĩa n O (jp l);rw[jp v]at x;cases x;obtain⟨v1,L1,Y,o1,s,re⟩:=Z.focus ha;have I:∀q,L1 q->p n q->ô:=λq a b=>æa i n q Å (s q a) b
 refine⟨r,v1,L1,p n,N,Y,o1,L,I,λ{H' m2 L2} t U A=>?_⟩
 obtain⟨m',e',o'⟩:=re (ŕa G) (λq _ z=>t q z) U (λq z w=>by rcases A q z with c|c;exact c;exact Û c λc=>æa i n q Å w c)
 have B:∀q,L1 q->G q=Ä/\H0 q=Ä:=λq z=>⟨Ėp.1,Ėp.2.1⟩
 refine⟨m',e',⟨E.ext.g,λq o z=>?_,λq o z=>?_,àk⟩,v,by rw[Ņa];exact l,hP,λj w h=>?_,λj=>if j=i then(Εb ĥo)else if j<n then p j else λ_=>ô,λj S h=>?_,λj k q f e d=>?_,λj q z=>?_⟩
 .rw[t q λw=>by rw[(B q w).2]at z;cases z];exact ùh _ _ z
 .rw[t q λw=>by rw[(B q w).1]at z;cases z];exact Ìb _ _ z
 .have C:j<Đa:=Üb.1;have:=ŕb j w h;rw[u7 Å]at this;exact this
 .rcases vo h with⟨rfl,w⟩|⟨f,w⟩
  .cases w;simp only[Ť];exact⟨r,N,o'⟩
  .have C:j<n:=by rw[<-l];exact(Ŗ w).1
   obtain⟨u,x,ou⟩:=Ĩa j S Ín;rw[u7 Å]at x;simp only[Ð f,Î C];exact⟨u,x,ou.loc (ŕa G) S u _ λq z=>t q λQ=>æa i j q êg (s q Q) z⟩
 .have y:∀j,j≠i->j<n->∀q,ĥo\/L2 q->p j q->ô:=λj f C q e d=>by
   rcases e with⟨e,_⟩|e;exact æa i j q êg e d;rcases A q e with c|c;exact æa i j q êg (s q c) d;exact æa n j q Å c d
  split at e
  .split at d;exact f Å;split at d;exact y k Å Å q e d;exact d
  .split at e;split at d;exact y j Å Å q d e;split at d;exact æa j k q f e d;exact d;exact e
 .split at z
  .rcases z with⟨z,w⟩|z
   .obtain⟨a,b,c⟩:=ļa i q z;obtain⟨u,R,J⟩:=c;exact⟨a,b,u,(t q w).trans R,J⟩
   .refine⟨?_,?_,U.cells m2 _ _ q z⟩
    .rcases A q z with c|c
     .exact Çl.1
     .exact ăq.1
    .rcases A q z with c|c
     .exact Çl.2
     .exact ăq.2.1
  .split at z
   .rename_i f C;obtain⟨a,b,c⟩:=ļa j q z;obtain⟨u,R,J⟩:=c;exact⟨a,b,u,(t q λQ=>æa i j q êg (s q Q) z).trans R,J⟩
   .exact Ïa
#print a
def kR(i:Nat)(π:Á xj)(a:FE)(b:xi):yR:=λβ=>(b β).bind λr=>(ŗc).bind λy=>(Ĭp).bind λc=>match c with
 |.own ŵg=>(Áq).bind λx=>match x with
  |.int j=>(Ľj).bind λn=>(ζd (Ε Đr)).bind λβ2=>À Ľb|_=>Ä
 |_=>Ä
def WQ(i:Nat)(π:Á xj)(a:FE)(b:xi):yR:=λβ=>(b β).bind λr=>(ŗc).bind λy=>(Ĭp).bind λc=>match c with
 |.own Ðq=>(Áq).bind λx=>(ôe).bind λx=>match decide (ĩ<yY)with
  |Ã=>(ζd (.dic ņr Úp)).bind λβ2=>À Ľb|Â=>Ä
 |_=>Ä
section
variable{X:Cx}{np:Nat}{o k v:Ñ}{i:Nat}{π:Á xj}{fk:FE}{fv:xi}{pos ĩa:Pos}
def Yq(R:SP X o i π)(hk:SE X k fk)(hv:MC X v fv)(hp:Ê Űj q12)(Y:Ê (ûp Šf v ķc Ô=pure Â) q12)(hw:Ê (üp Šf v Ô=pure Ä) q12)(h1:Ê ((ŋd Šf Ô).map (·.2)=[Ćc ĩn Ô]) q12):MS X np Şn (kR i π fk fv):=by
 obtain⟨tk,pk,Z⟩:=hk.h;obtain⟨tv,pv,kv⟩:=īd;obtain⟨to,po,ko⟩:=R.h;refine⟨⟨_,Go pv (f_ ⟨po⟩ ⟨pk⟩ l7 hp).h Y hw h1,λ{P G0 H0 G H β σ fl E} hP K a q=>?_⟩⟩;obtain⟨⟨m,β1⟩,hy,a⟩:=zH a;obtain⟨y,O,a⟩:=zH a;cases jZ O;obtain⟨nd,Q,a⟩:=zH a
 split at a;rename_i ds;obtain⟨xk,hx,a⟩:=zH a;cases xk with
 |int j=>
  obtain⟨d,n,a⟩:=zH a;obtain⟨β2,C,a⟩:=zH a;cases a;obtain⟨mm,s,F⟩:=WV Q;refine kv K hy λw G1 H1 s1 g=>?_
  obtain⟨r,v1,L1,Lr,A,L,_⟩:=g.write Řb s F;refine ko A L ?_;obtain⟨Ga,T,ća⟩:=(g.down Řb).qo;refine Z T hx λu G2 H2 x2 r2=>?_
  cases(show u=_ from r2);obtain⟨G3,x,_,_⟩:=ća _ _ x2;have N:=g.go x;obtain⟨r',W,S,Lr',b,e,f,or',dj',t⟩:=N.write Řb s F;rw[A]at b;cases b;cases ĕd (L.mono x.h) e;obtain⟨p,rfl,⟨I,ev,J,l⟩,B⟩:=f;obtain⟨m',e',U⟩:=t (H':=zV H2 p (Ε (I.set d w))) (m2:=.own (Ε (ñh d y))) (L2:=λq=>q=p) (Υd (B q)) ⟨p,rfl,⟨_,yb,Éh N.gu d J,by rw[Ņa];exact l⟩,λ_=>ďd⟩ (ηd (B q));rw[Ln s e']at C;cases C;exact⟨p,I,j,d,rfl,rfl,ev,by rw[J.length];exact n,q _ _ _ U⟩
 |_=>cases a
 cases a
def JQ(hu:Ċb+1<Ða)(R:SP X o i π)(hk:SE X k fk)(hv:MC X v fv)(Y:Ê (Ψb ĩn) q12):MS X np Şn (WQ i π fk fv):=by
 obtain⟨tk,pk,Z⟩:=hk.h;obtain⟨tv,pv,kv⟩:=īd;obtain⟨to,po,ko⟩:=R.h;refine⟨⟨_,fF hu po pk pv Y,λ{P G0 H0 G H β σ fl E} hP K a q=>?_⟩⟩;obtain⟨⟨m,β1⟩,hy,a⟩:=zH a;obtain⟨y,O,a⟩:=zH a;cases jZ O;obtain⟨nd,Q,a⟩:=zH a
 split at a;rename_i ks n;obtain⟨xk,hx,a⟩:=zH a;obtain⟨b,d,a⟩:=zH a
 split at a;rename_i c;have c:=Ŋ c;obtain⟨β2,I,a⟩:=zH a;cases a;obtain⟨mm,t,J⟩:=WV Q;refine kv K hy λw G1 H1 s1 s=>?_
 obtain⟨r,v1,L1,Lr,C,L,_⟩:=s.write Řb t J;refine ko C L ?_;obtain⟨Ga,T,ća⟩:=(s.down Řb).qo;refine Z T hx λu G2 H2 x2 r2=>?_
 obtain⟨G3,B,_,_⟩:=ća _ _ x2;have N:=s.go B;obtain⟨r',W,S,Lr',e,f,j,or',dj',x⟩:=N.write Řb t J;rw[C]at e;cases e;cases ĕd (L.mono B.h) f;obtain⟨p,rfl,⟨vs,ev,l,g,hl⟩,F⟩:=j
 obtain⟨m',e',U⟩:=x (H':=zV H2 p (.dK (t7 ňa b w))) (m2:=.own (.dic (wM ks b) (wC ks n b y))) (L2:=λq=>q=p) (Υd (F q))
  ⟨p,rfl,⟨wC ks vs b w,by rw[yb,Pv l],Uc l,g.put N.gu,by
   have h1:=Gw (ks:=ks) (vs:=n) (k:=b) (v:=y) (by rw[l,Ďa]);have h2:ăd<16777216:=by rw[<-Ďa,<-l];exact c
   rw[ť];omega⟩,λ_=>ďd⟩ (ηd (F q))
 rw[Ln t e']at I;cases I;exact⟨p,_,rfl,.inl ⟨_,b,ev,ZW d r2,by rw[ŧa,l,ūa,ť,<-l];exact c,rfl⟩,q _ _ _ U⟩;cases a;cases a
#print a
noncomputable def kU(fs:Á Str)(f:Str):Á Str:=if f∈fs then fs else fs++[f]
def p7{α:Type}(fs:Á Str)(ms:Á α)(f:Str)(m:α):Á α:=if f∈fs then vx fs ms f m else ms++[m]
theorem fR{f:Str}{w:V}:∀{fs:Á Str}{vs:Á V},ůa=þ->Ŗb f w Ħq=(Ųe).zip àp
 | [],[],_=>by unfold kU p7;rw[Ð â,Ð â];rfl| [],_::_,h=>by cases h|_::_,[],h=>by cases h|g::fs,v::vs,h=>by
  have b:=fR (f:=f) (w:=w) (fs:=fs) (vs:=vs) ťk;rw[ĩb];unfold Ŗb;by_cases c:g=f;subst c;unfold kU p7;rw[Î rfl,Î Ŏ,Î Ŏ];unfold vx;rw[Î rfl,ĩb];rw[Ð c,b];unfold kU p7;by_cases z:f∈fs;rw[Î z,Î z,Î ók,Î ók]
  conv=>rhs;unfold vx
  rw[Ð c,ĩb];have a:f ∉ g::fs:=λw=>by rcases Ĺ w with w|w;exact c w.symm;exact z w
  rw[Ð z,Ð z,Ð a,Ð a,ļe,ļe,ĩb]
theorem l5{κ α:Type}[íc κ]{k:κ}{y:α}:∀{ks:Á κ}{xs:Á α},(vx ks xs k y).length=à
 | [],_=>by unfold vx;rfl|_::_,[]=>by unfold vx;rfl|k'::ks,x::xs=>by
  unfold vx
  split;rfl;rw[ĕ,ĕ,l5]
theorem y42{α:Type}{f:Str}{w:α}{fs:Á Str}{vs:Á α}(h:ůa=þ):(Ųe).length=(àp).length:=by
 unfold kU p7
 split;rw[l5];exact h;rw[í,í,h];rfl
section
variable{K:Ì}{G H:Hp}
theorem īk{κ:Type}[íc κ]{k:κ}{m2:M}{e:V}{L2:Ft}(o2:xO K G H m2 e L2):∀{ks:Á κ}{ms:Á M}{vs:Á V}{L:Ft},Ū K G H ms vs L->(∀q,L q->L2 q->ô)->∃L',Ū K G H ŗo (vx ks vs k e) L'/\∀q,L' q->L q\/L2 q
 | [],ms,vs,L,h,_=>⟨L,by unfold vx;exact h,λq z=>.inl z⟩|_::_,[],vs,L,h,_=>by obtain⟨rfl,n⟩:=h;exact⟨L,by unfold vx;exact⟨rfl,n⟩,λq z=>.inl z⟩
 |k'::ks,m::ms,vs,L,h,dj=>by obtain⟨v,r,i,f,rfl,o,g,d,u⟩:=h;unfold vx;by_cases c:k'=k;rw[Î c,Î c];refine⟨λq=>L2 q\/f q,⟨e,r,L2,f,rfl,o2,g,λq a b=>dj q ((ïa).mpr (.inr b)) a,λq=>ďd⟩,λq z=>?_⟩;rcases z with z|z;exact .inr z;exact .inl ęe;rw[Ð c,Ð c];obtain⟨L',l,j⟩:=īk (k:=k) o2 (ks:=ks) g Îm;refine⟨λq=>i q\/L' q,⟨v,_,i,L',rfl,o,l,λq a b=>?_,λq=>ďd⟩,λq z=>?_⟩;rcases j q b with b|b;exact d q a b;exact dj q űo b;rcases z with z|z;exact .inl Ħe;rcases j q z with z|z;exact .inl ęe;exact .inr z
theorem Şj{m2:M}{c:V}{L2:Ft}(o2:xO K G H m2 c L2):∀{ms:Á M}{vs:Á V}{L:Ft},Ū K G H ms vs L->(∀q,L q->L2 q->ô)->Ū K G H (ms++[m2]) (vs++[c]) (λq=>L q\/L2 q)
 | [],vs,L,h,_=>by obtain⟨rfl,n⟩:=h;refine⟨c,[],L2,λ_=>ô,rfl,o2,⟨rfl,λ_ z=>z⟩,λ_ _ z=>z,λq=>⟨?_,?_⟩⟩;rintro(z|z);exact Û z (n q);exact .inl z;rintro(z|z);exact .inr z;exact Ïa
 |m::ms,vs,L,h,dj=>by obtain⟨v,r,f,i,rfl,g,e,d,u⟩:=h;refine⟨v,_,f,λq=>i q\/L2 q,rfl,g,Şj o2 e Îm,λq a b=>?_,λq=>⟨?_,?_⟩⟩;rcases b with b|b;exact d q a b;exact dj q űo b;rintro(z|z);rcases(u q).mp z with z|z;exact .inl z;exact .inr ðd;exact .inr ĳb;rintro(z|z|z);exact .inl Ħe;exact .inl ęe;exact .inr z
def Ŋq{f:Str}{m2:M}{a:V}{L2 L:Ft}{fs:Á Str}{ms:Á M}{vs:Á V}(o2:xO K G H m2 a L2)(h:Ū K G H ms vs L)(b:∀q,L q->L2 q->ô):∃L',Ū K G H (p7 fs ms f m2) (p7 fs vs f a) L'/\∀q,L' q->L q\/L2 q:=by unfold p7;by_cases c:f∈fs;rw[Î c,Î c];exact īk o2 h b;rw[Ð c,Ð c];exact⟨_,Şj o2 h b,λq z=>z⟩
#print a
def jl(m:M)(β:yD)(i:Nat)(π:Á xj)(a:Á Str)(f:Str):Æ g9:=(ĕg).bind λb=>match b with
 |.obj x fs ms=>match decide (x∈a)&&decide őq with
  |Ã=>(Τd (p7 fs ms f m)).bind λβ2=>À Ľb|Â=>Ä
 |_=>Ä
def q_(i:Nat)(π:Á xj)(b:Á Str)(f:Str)(a:xi):yR:=λβ=>(a β).bind λr=>jl r.1 r.2 i π b f
def GJ(i:Nat)(π:Á xj)(e:Á Str)(f:Str)(d:FE):yR:=λβ=>(ĕg).bind λg=>match g with
 |.obj x fs ms=>match decide (x∈e)&&decide őq with
  |Ã=>(Ća fs ms f).bind λc=>(qw c).bind λc=>match c with
   |.int a=>(d Ċh).bind λy=>match y with
    |.int b=>(Τd (p7 fs ms f (.fz (Β (a+b))))).bind λβ2=>À Ľb|_=>Ä
   |_=>Ä
  |Â=>Ä
 |_=>Ä
section
variable{X:Cx}{np:Nat}{o v:Ñ}{i:Nat}{π:Á xj}{cs:Á Str}{f:Str}{fv:xi}{fe:FE}{pos ĩa tpos:Pos}
def zu.S5{K:Ì}{n:Nat}{P:Á V}{v A G H:Hp}{β β2:yD}{σ:St}{x f:Str}{fs:Á Str}{ms:Á M}{m e:M}{w:V}{i:Nat}{π:Á xj}(E:zu K ķ P v A G H (β++[À e]) (σ++[À w]))(Z:Đa<=n)(N:β[i]?=À Ýb)(ha:qx m π=À Éj)(L:Äc β i π (.obj x Ųe áp)=À β2) :∃r p C dx vs,σ[i]?=À ŵk/\wb K H r π Éa/\Ż K Ę x=À Ġa/\H p=À îi/\ůa=þ/\zu K n P v A G đg β2 σ:=by
 obtain⟨r,v1,L1,y,X,S,T,j,h,wr⟩:=E.write Z N ha;obtain⟨p,C,dx,vs,O,rfl,F,Y,l,Q,B,d⟩:=T;have k:∀q,q≠p->đg q=H q:=λq z=>yB z
 have t:Ū K G đg ms vs O:=ôd (λI _ R g s o=>ķh ÿh I R g λq z=>k q λc=>B (c▸s q z)) Q;have u:xO K G đg e w y:=j.loc ÿh e w y λq z=>k q λc=>h q įn z
 obtain⟨g,U,J⟩:=Ŋq (f:=f) (fs:=fs) u t (λq a b=>h q ((d q).mpr (.inr a)) b)
 obtain⟨I,e',K5⟩:=wr (H':=zV H p ĉl) (m2:=.obj x Ųe áp) (L2:=λq=>q=p\/g q) (λq z=>k q λc=>z įn)
  ⟨p,C,dx,p7 fs vs f w,g,rfl,F,by rw[yb,fR l],y42 l,U,λz=>by
   rcases J p z with z|z;exact B z;exact h p ((d p).mpr ĳ) z,λq=>ďd⟩ (λq z=>by
   rcases z with rfl|z;exact .inl ((d q).mpr ĳ);rcases J q z with z|z;exact .inl ((d q).mpr ĳb);exact .inr z)
 rw[Ln N e']at L;cases L;exact⟨r,p,C,dx,vs,X,S,F,Y,l,K5⟩
def gT(e:SP X o i π)(k:vC X.K cs f)(hv:MC X v fv)(Q:Ê (Ψb Ĭn) q12):MS X np (.Assign Ĕn v pos) (q_ i π cs f fv):=by
 obtain⟨Z,n,F⟩:=īd;obtain⟨to,j,R⟩:=e.h;refine⟨⟨_,y3u j n Q,λ{P S W G H β σ T E} Y K a q=>?_⟩⟩;obtain⟨⟨m,β1⟩,L,a⟩:=zH a;obtain⟨nd,g,a⟩:=zH (show(jh β1 i π).bind _=_ from a)
 split at a;rename_i x fs ms
 split at a;rename_i c;rw[Ē]at c;have b:=Ŋ c.2;obtain⟨β2,N,a⟩:=zH a;cases a;obtain⟨mm,I,O⟩:=WV g;refine F K L λw U H1 s1 B=>?_
 obtain⟨r,p,C,s,vs,t,d,z,u,l,J⟩:=B.S5 Řb I O N;obtain⟨A,y⟩:=k x ĸr C z;exact R t d ⟨p,C,s,_,rfl,u,A,y,by rw[ŧa,l,ūa,<-l];exact b,q _ _ _ J⟩;cases a;cases a
def z6m(Q:SP X o i π)(k:vC X.K cs f)(hv:SE X v fe):MS X np (.AugAssign ĉn .Add v pos) (GJ i π cs f fe):=by
 obtain⟨tv,pv,kv⟩:=īd;obtain⟨to,po,ko⟩:=Q.h;refine⟨⟨_,y3v po pv z48,λ{P G0 H0 G H β σ fl E} hP K e q=>?_⟩⟩;obtain⟨nd,O,e⟩:=zH e
 split at e;rename_i x fs ms
 split at e;rename_i c;rw[Ē]at c;have hx:=Ŋ c.1;have hl:=Ŋ c.2;obtain⟨ch,n,e⟩:=zH e;obtain⟨dc,z,s⟩:=zH e;cases jZ z
 split at s;rename_i a;obtain⟨y,hy,e⟩:=zH s
 split at e;rename_i b;obtain⟨β2,hβ,e⟩:=zH e;cases e;obtain⟨mm,L,F⟩:=WV O;have U:=K.Z9 (d:=.zE) (v:=.zE) rfl;obtain⟨r,v1,L1,Lr,B,I,R,_⟩:=U.write Řb L F;obtain⟨p,C,S,vs,L',rfl,J,hp,l,rs,nL,uL⟩:=R;obtain⟨cl,na⟩:=k x hx C J;obtain⟨T,Lc,ec,⟨rc,_⟩,_⟩:=Ūe rs n;cases(show T=_ from rc);refine ko B I ⟨p,C,S,_,_,rfl,hp,cl,na,by rw[LV];exact ec,?_⟩;obtain⟨Ga,Y,ća⟩:=K.qo;refine kv Y hy λu G2 H2 x2 r2=>?_
 cases(show u=_ from r2);obtain⟨G3,N,W,_⟩:=ća _ _ x2;obtain⟨r',p',C',w,vs',j,m,g,t,A,Z⟩:=(W.Z9 (d:=.int (a+b)) (v:=.int (a+b)) rfl).S5 Řb L F hβ;rw[B]at j;cases j;cases ĕd (ġf N.h) m;have eC:C'=C:=by rw[J]at g;cases g;rfl
 subst eC;exact⟨_,_,rfl,rfl,w,_,t,by rw[ŧa,A,ūa,<-A];exact hl,q _ _ _ Z⟩;cases e;cases s;cases e;cases e
#print a
open Classical in
noncomputable def cut(H:Hp)(L:Ft):Hp:=λq=>if L q then Ä else H q
def b9{H:Hp}{L:Ft}{q:È}(h:L q):cut H L q=Ä:=by unfold cut;rw[Î h]
theorem ZI{H:Hp}{L:Ft}{q:È}(h:¬ L q):cut H L q=H q:=by unfold cut;rw[Ð h]
theorem bA{H:Hp}{L:Ft}{q:È}(h:cut H L q=Ä):L q\/H q=Ä:=by by_cases c:L q;exact .inl c;rw[ZI c]at h;exact .inr h
abbrev FM:=Á M->Æ ŧj
def xF(K:Ì)(F:FM):Sp:=λa H Q _=>∃G ms L ms' m',zw G H/\Ū K G H ms a L/\(∀q,L q->G q=Ä)/\F ms=À (ms',m')/\
 ∀v G' H' L',zR G őr G' H'->Ū K G' H' (m'::ms') (v::a) L'->(∀q,L' q->G' q=Ä/\cut H L q=Ä)->Q v H'
section
variable{K:Ì}{n:Nat}{P:Á V}{G0 H0 G H G' H':Hp}{β:yD}{σ:St}
def zu.Rz{m:M}{v:V}{L:Ft}(E:zu K n P G0 H0 G H β σ)(x:zR G H G' H')(o:xO K G' H' m v L)(k:∀q,L q->G' q=Ä/\H q=Ä):zu K ķ P G0 H0 G' H' ŗe İb:=by
 obtain⟨p,F⟩:=ŷa;have I:=öa x;have r:∀i q,p i q->L q->ô:=λi q z c=>èd.2.2.some (k q c).2
 refine⟨I.ext,by rw[í,Ŝ];rfl,by rw[í,ō];rfl,by have:=ēa;omega,λi u h=>?_,λj=>if j<n then p j else if j=n then L else λ_=>ô,λi t h=>?_,λi j q s f d=>?_,λi q z=>?_⟩;have A:i<σ.length:=by rw[Ŝ];exact Ů Üb.1 ēa
 rw[u7 A];exact ŕb i u h;rcases MD h with⟨c,e⟩|⟨c,e⟩;rw[ō]at c;obtain⟨u,B,C⟩:=Ĩa i t e;refine⟨u,by rw[u7 Ģe];exact B,?_⟩;simp only[Î c];refine C.loc x.g t u _ λq z=>?_
 obtain⟨w,l,_⟩:=èd.2.2;rw[l];exact x.h _ _ l;cases e;rw[ō]at c;subst c;refine⟨_,jp Ŝ,?_⟩;simp only[Ūd,òa,Ť];exact o;split at f;split at d;exact æa i j q s f d;split at d;exact r i q f d;exact d;split at f;split at d;exact r j q d f;split at d;exact s Å;exact d;exact f;split at z;obtain⟨a,b,c⟩:=ļa i q z;obtain⟨J,y⟩:=Fw x a c;exact⟨J,b,y⟩;split at z;exact⟨(k q z).1,Ďj (k q z).2,o.cells m v _ q z⟩;exact Ïa
def zu.back{m T:M}{i:Nat}{π:Á xj}(E:zu K n P G0 H0 G H β σ)(X:β[i]?=À Ýb)(ha:qx m π=À T) :∃r v1 L1,σ[i]?=À ŵk/\wb K H r π v1/\xO K G H T v1 L1/\(∀q,L1 q->G q=Ä)/\
   ∀{G' H':Hp}{m' nd':M}{v:V}{Lr L2:Ft},zR G (cut H L1) G' H'->xO K G' H' m' v Lr->xO K G' H' nd' v1 L2->(∀q,Lr q->L2 q->ô)->(∀q,Lr q\/L2 q->G' q=Ä/\cut H L1 q=Ä)->
    ∃mm,p8 m π nd'=À mm/\zu K ķ P G0 H0 G' H' (β.set i (À mm)++[À m']) İb:=by
 obtain⟨t,F⟩:=ŷa;have hi:i<n:=by rw[<-ō];exact(Ŗ X).1
 obtain⟨r,O,om⟩:=Ĩa i m X;obtain⟨v1,L1,va,o1,I,re⟩:=om.focus ha;refine⟨r,v1,L1,O,va,o1,λq z=>ïo.1,λ{G' H' m' nd' v Lr L2} x W U Y B=>?_⟩
 have s:∀j q,t j q->¬ L1 q->H' q=H q:=λj q z w=>by obtain⟨u,C,_⟩:=Ęg.2.2;rw[C];exact x.h _ _ ((ZI w).trans C)
 have A:∀j q,t j q->¬ L1 q->(Lr q\/L2 q)->ô:=λj q z w c=>by have e:=Çl.2;rw[ZI w]at e;exact Ęg.2.2.some e
 obtain⟨mm,e',o'⟩:=re x.g (λq z w=>s i q z w) U (λq z w=>by by_cases c:L1 q;exact c;exact(A i q w c ĳb).elim)
 have y:∀j q,j≠i->t j q->¬ L1 q:=λj q p z w=>æa i j q Šp (I q w) z
 have J:∀q,cut H L1 q=Ä->H0 q=Ä:=λq z=>by rcases bA z with z|z;exact ïo.2.1;exact Ďj z
 have l:(β.set i (À mm)).length=n:=by rw[Ņa];exact ō
 refine⟨mm,e',⟨E.ext.g.trans x.g,λq o z=>x.h _ _ ?_,Ÿa,λq z=>?_⟩,by rw[í,Ŝ];rfl,by rw[í,l];rfl,by have:=ēa;omega,λj u h=>?_,λj=>if j=i then(λq=>(t i q/\¬ L1 q)\/L2 q)else if j<n then t j else if j=n then Lr else λ_=>ô,λj L h=>?_,λj k q p f d=>?_,λj q z=>?_⟩
 .rw[ZI λw=>by rw[(ļa i q (I q w)).2.1]at z;cases z];exact ùh _ _ z
 .rcases Ŭc q z with w|w
  .exact àk q w
  .exact .inr (J q w)
 .have hj:j<σ.length:=by
   rw[Ŝ];exact Ů Üb.1 ēa
  rw[u7 hj];exact ŕb j u h
 .rcases MD h with⟨c,e⟩|⟨c,e⟩
  .rw[l]at c;rcases vo e with⟨rfl,w⟩|⟨p,w⟩
   .cases w;simp only[Ť];exact⟨r,by rw[u7 Ģe];exact O,o'⟩
   .obtain⟨u,eu,ou⟩:=Ĩa j L w;simp only[Ð p,Î c];exact⟨u,by rw[u7 Ģe];exact eu,ou.loc x.g L u _ λq z=>s j q z ĝq⟩
  .cases e;rw[l]at c;subst c;refine⟨_,jp Ŝ,?_⟩;simp only[Ð (įb hi),Ūd,òa,Ť];exact W
 .have S:∀j,j≠i->∀q,(t i q/\¬ L1 q)\/L2 q->t j q->ô:=λj p q f d=>by
   rcases f with⟨f,_⟩|f;exact æa i j q Šp f d;exact A j q d (y j q p d) (.inr f)
  have N:∀q,(t i q/\¬ L1 q)\/L2 q->Lr q->ô:=λq f d=>by rcases f with⟨f,w⟩|f;exact A i q f w ŉk;exact Y q d f
  have Q:∀j,j≠i->∀q,t j q->Lr q->ô:=λj p q f d=>A j q f (y j q p f) ŉk
  split at f
  .split at d;exact p Å;split at d;exact S k Å q f d;split at d;exact N q f d;exact d
  .split at f;split at d;exact S j Å q d f;split at d;exact æa j k q p f d;split at d;exact Q j Å q f d;exact d;split at f;split at d;exact N q d f;split at d;exact Q k Å q d f;split at d;exact p Å;exact d;exact f
 .have R:∀q,t j q->¬ L1 q->G' q=Ä/\H0 q=Ä/\Bx H' q:=λq z w=>by
   obtain⟨a,b,u,C,Z⟩:=ļa j q z;refine⟨?_,b,u,(s j q z w).trans C,Z⟩;cases e:G' q with
   |Ä=>rfl|À o=>rcases Ŭc q œf with c|c;exact Û a c;rw[ZI w,C]at c;cases c
  split at z
  .rename_i ej;subst ej;rcases z with⟨z,w⟩|z;exact R q z w;exact⟨Śr.1,J q Śr.2,U.cells nd' _ _ q z⟩
  .rename_i p
   split at z;exact R q z ĝq;split at z;exact⟨řr.1,J q řr.2,W.cells m' _ _ q z⟩;exact Ïa
#print a
inductive AV where
 |v (d:D)|p (i:Nat) (π:Á xj)
abbrev uI:=yD->Æ (Á AV)
def Xd(K:Ì)(G H:Hp)(σ:St):Á AV->Á V->Prop
 | [],vs=>vs=[]|.v d::as,vs=>∃v r,vs=v::r/\za K G d v/\Xd K G H σ as r|.p i π::as,vs=>∃v r w,vs=v::r/\σ[i]?=À (À w)/\wb K H w π v/\Xd K G H σ as r
structure MA(X:Cx)(es:Á Ñ)(f:uI):Prop where
 h:∃t,PA X es t/\∀{P:Á V}{G0 H0 G H:Hp}{β:yD}{σ:St}{as:Á AV}{Q:Á V->Hp->Prop},zu X.K ö P G0 H0 G H β σ->f β=À as->(∀vs G' H',zR G H G' H'->Xd X.K G' H' σ as vs->Q vs H')->t σ H Q
noncomputable def wU:uI:=λ_=>À []
def Vx(f:FE)(r:uI):uI:=λβ=>(ůe).bind λd=>match wz d with
 |Ã=>(ĩh).bind λa=>À Ċk|Â=>Ä
def vE(f:FE)(r:uI):uI:=λβ=>(Ál).bind λd=>(ĩh).bind λa=>À Ċk
def oX(f:FE)(r:uI):uI:=λβ=>(ůe).bind λd=>match GS d with
 |Ã=>(ĩh).bind λa=>À Ċk|Â=>Ä
noncomputable def gH:M->Nat->Á xj->AV
 |.fz d,_,_=>.v d|_,i,π=>.p i π
def qt(i:Nat)(π:Á xj)(r:uI):uI:=λβ=>(ĕg).bind λb=>(ĩh).bind λa=>À (gH b i π::a)
section
variable{X:Cx}{e:Ñ}{es:Á Ñ}{f:FE}{r:uI}{i:Nat}{π:Á xj}
def qU:MA X [] wU:=⟨⟨_,Wc,λE a q=>by cases a;exact q _ _ _ ŋc rfl⟩⟩
def LX(m:SE X e f)(w:MA X es r)(h:Ê ĝa q12):MA X ė (Vx f r):=by
 obtain⟨t,p,k⟩:=m.h;obtain⟨H,s,o⟩:=w.h;refine⟨⟨_,Yw p s h,λE a q=>?_⟩⟩;obtain⟨d,z,a⟩:=zH a
 split at a;rename_i c;obtain⟨G,b,a⟩:=zH a;cases a;obtain⟨C,u,ća⟩:=E.qo;refine k u z λv K F x r=>?_
 obtain⟨B,j,A,l,_⟩:=ća _ _ x;refine o A b λy J I i n=>q _ _ _ (j.trans i) ⟨v,y,rfl,(l d v c r).mono i.g,n⟩;cases a
def vm(o:SE X e f)(l:MA X es r)(h:Ê ĝa q12):MA X ė (vE f r):=by
 obtain⟨t,p,k⟩:=o.h;obtain⟨B,j,i⟩:=l.h;refine⟨⟨_,Yw p j h,λE a q=>?_⟩⟩;obtain⟨d,n,a⟩:=zH a;obtain⟨y,b,a⟩:=zH a;cases a;refine k E.XZ n λv A w x r=>?_
 exact i (öa x) b λm z u c s=>q _ _ _ (þf c) ⟨v,m,rfl,ĥa c.g,s⟩
def jg(C:SP X e i π)(A:MA X es r)(h:Ê ĝa q12):MA X ė (qt i π r):=by
 obtain⟨t,p,k⟩:=C.h;obtain⟨K,s,o⟩:=A.h;refine⟨⟨_,Yw p s h,λE a q=>?_⟩⟩;obtain⟨z,v,a⟩:=zH a;obtain⟨I,n,a⟩:=zH a;obtain⟨G,u,B⟩:=WV v;obtain⟨w,c,F,j,f,y,_⟩:=æl u B;refine k j f (o E n λl J H b m=>q _ _ _ b ?_);cases z with
 |fz d=>cases a;exact⟨c,l,rfl,y.1.mono b.g,m⟩|own d=>cases a;exact⟨c,l,w,rfl,j,ěf b.h,m⟩|obj x fs ms=>cases a;exact⟨c,l,w,rfl,j,ěf b.h,m⟩|tab ks ms=>cases a;exact⟨c,l,w,rfl,j,ěf b.h,m⟩|tp ms=>cases a;exact⟨c,l,w,rfl,j,ěf b.h,m⟩
#print a
noncomputable def Uv:Á AV->Æ Ąc
 | []=>À []|.v d::as=>(Uv as).bind λa=>À (d::a)|.p _ _::_=>Ä
def Oe:Á AV->Æ (Á D×Nat×Á xj×Á D)
 | []=>Ä|.v d::as=>(Oe as).bind λr=>À (d::r.1,r.2)|.p i π::as=>(Uv as).bind λb=>À ([],i,π,b)
noncomputable def j4(ds:Á D):Á M:=òh .fz
def qy(F:FM)(as:Á AV)(β:yD):Æ (M×yD):=match Uv as with
 |À ds=>(F (j4 ds)).bind λr=>À (r.2,β)|Ä=>(Oe as).bind λc=>(jh β c.2.1 c.2.2.1).bind λb=>(F (j4 c.1++b::j4 c.2.2.2)).bind λr=>(r.1[c.1.length]?).bind λa=>(Äc β c.2.1 c.2.2.1 a).bind λβ'=>À (r.2,β')
def pf(F:FM)(f:uI):xi:=λβ=>(ŵa).bind λa=>qy F a β
section
variable{K:Ì}{n:Nat}{P:Á V}{G0 H0 G H G' H':Hp}{β:yD}{σ:St}
theorem JZ:∀{ds:Á D}{vs:Á V},Þ K G ds vs->Ū K G H (j4 ds) vs Ũj
 | [],_,r=>⟨r,λ_ z=>z⟩|d::ds,_,r=>by obtain⟨v,r,rfl,b,a⟩:=r;exact⟨v,r,λ_=>ô,λ_=>ô,rfl,⟨b,λ_ z=>z⟩,JZ a,λ_ z=>Ïa,λq=>⟨λz=>Ïa,λz=>Ïa id id⟩⟩
theorem eM{g:M}{v1:V}{c:Ft}(o:xO K G H g v1 c){b:Á D}{e:Á V}(f:Þ K G b e):∀{a:Á D}{va:Á V},Þ K G a va->Ū K G H (j4 a++g::j4 b) (va++v1::e) c
 | [],va,r=>by cases(show va=[]from r);exact⟨v1,e,c,λ_=>ô,rfl,o,JZ f,λ_ _ z=>z,λq=>⟨.inl,λz=>Ïa id Ĝa⟩⟩|d::ds,_,r=>by obtain⟨v,r,rfl,i,h⟩:=r;exact⟨v,_,λ_=>ô,c,rfl,⟨i,λ_ z=>z⟩,eM o f h,λ_ z=>Ïa,λq=>⟨.inr,λz=>Ïa Ĝa id⟩⟩
theorem ON:∀{as:Á AV}{ds:Á D}{vs:Á V},Uv as=À ds->Xd K G H σ as vs->Þ K G ds vs
 | [],ds,vs,e,r=>by cases e;exact r|.v d::as,ds,vs,e,r=>by obtain⟨f,b,e⟩:=zH e;cases e;obtain⟨v,r,rfl,c,a⟩:=r;exact⟨v,r,rfl,c,ON b a⟩
 |.p i π::as,ds,vs,e,r=>by cases e
theorem aK:∀{as:Á AV}{a b:Á D}{i:Nat}{π:Á xj}{vs:Á V},Oe as=À (a,i,π,b)->Xd K G H σ as vs->∃va v1 vb w,vs=va++v1::vb/\Þ K G a va/\Þ K G b vb/\σ[i]?=À (À w)/\wb K H w π v1
 | [],a,b,i,π,vs,e,r=>by cases e|.v d::as,a,b,i,π,vs,e,r=>by obtain⟨⟨o,q,π',k⟩,c,e⟩:=zH e;cases e;obtain⟨v,r,rfl,m,g⟩:=r;obtain⟨va,v1,vb,w,rfl,n,l,f,h⟩:=aK c g;exact⟨v::va,v1,vb,w,rfl,⟨v,va,rfl,m,n⟩,l,f,h⟩
 |.p j ρ::as,a,b,i,π,vs,e,r=>by obtain⟨k,c,e⟩:=zH e;cases e;obtain⟨v,r,w,rfl,f,va,g⟩:=r;exact⟨[],v,r,w,rfl,rfl,ON c g,f,va⟩
theorem Gg{v1:V}{c:M}:∀{ms:Á M}{vs:Á V}{L:Ft}{k:Nat},Ū K G H ms vs L->ms[k]?=À c->vs[k]?=À v1->∃L2,xO K G H c v1 L2/\∀q,L2 q->L q
 | [],_,_,_,_,e,_=>by cases e|m::ms,_,L,0,h,e1,e2=>by obtain⟨v,r,b,g,rfl,f,a,d,u⟩:=h;cases e1;cases e2;exact⟨b,f,λq z=>(ïa).mpr ðd⟩
 |m::ms,_,L,k+1,h,e1,e2=>by obtain⟨v,r,b,g,rfl,f,a,d,u⟩:=h;obtain⟨L2,o,s⟩:=Gg (k:=k) a Ŗn ŕn;exact⟨L2,o,λq z=>(ïa).mpr (.inr űe)⟩
def zu.call{F:FM}{as:Á AV}{vs:Á V}{m:M}{β':yD}{Q:VK}{E0:XK}(E:zu K n P G0 H0 G H β σ)(s:Xd K G H σ as vs)(c:qy F as β=À (m,β'))(q:∀v G' H',zw G G'->zu K ķ P G0 H0 G' H' Ñp İb->Q v H'):xF K F vs H Q E0:=by
 unfold qy at c
 split at c;rename_i ds e;obtain⟨⟨l,m'⟩,j,c⟩:=zH c;cases c;refine⟨G,_,_,_,_,Ìb,JZ (ON e s),λ_ z=>Ïa,j,λv G' H' J x o f=>?_⟩
 have A:cut H Ũj=H:=by
  funext q
  exact ZI (λz=>z)
 rw[A]at x;obtain⟨L,U,La,X,e2,h,B,r,u⟩:=o;cases e2
 exact q v G' H' x.g (E.Rz x h λq z=>by obtain⟨a,b⟩:=f q Ħe;rw[A]at b;exact⟨a,b⟩);obtain⟨⟨a,i,π,b⟩,hc,c⟩:=zH c;obtain⟨nd,W,c⟩:=zH c;obtain⟨⟨l,m'⟩,j,c⟩:=zH c;obtain⟨Y,p,c⟩:=zH c;obtain⟨β2,C,c⟩:=zH c;cases c;obtain⟨mm,I,ha⟩:=WV W;obtain⟨w,v1,N,Z,S,h,T,O⟩:=æl I ha;obtain⟨xa,v1',xb,w',rfl,t,R,d,k⟩:=aK hc s;rw[Z]at d;cases d;cases ĕd S k;refine⟨G,_,N,_,_,Ìb,eM h R t,T,j,λv G' H' J x o f=>?_⟩;obtain⟨L,U,La,X,e2,oa,ob,r,u⟩:=o;cases e2
 obtain⟨L2,B,y⟩:=Gg (v1:=v1) ob p (by rw[<-ād,Śb Ċ,éc];rfl)
 obtain⟨m3,e3,K3⟩:=O x oa B (λq z w=>r q z (y q w)) (λq z=>by rcases z with z|z;exact f q Ħe;exact f q (Βa (y q z)))
 rw[Ln I e3]at C;cases C;exact q v G' H' x.g K3
#print a
section
variable{X:Cx}{x m c:Str}{ps:Á Str}{j k:Nat}{F:FM}{e o:Ñ}{es:Á Ñ}{fa:uI}{p pos Ĕa:Pos}{i:Nat}{π:Á xj}
def WS(h:vJ ò X.w X.K î ő x ps k ņc)(n:yo j X.A)(m:Gl X x)(o:MA X ė fa)(hk:Ê Čc q10)(a:Ê ı q10)(y:Ê Ĭa q12):MC X ſa ŋr:=by
 obtain⟨t,i,u⟩:=o.h;refine⟨⟨_,Gi h n m i hk a y,λE c q=>?_⟩⟩;obtain⟨H,b,c⟩:=zH c;refine u E b λC B G d z=>?_
 rw[ż];exact(ýh).call z c λv r l s f=>q v r l (d.g.trans s) f
def vj(P:æ)(w:ß)(K:Ì)(b:Str->Æ Value)(a:Heap)(c m:Str)(ps:Á Str)(k:Nat)(sp:Sp):Prop:=
 ∃(C f:È) (fd:Ļ),Ż K Ę c=À Ġa/\tG K C/\OF K C m f/\uE K fd ps []/\xL P w K b a xC k f fd ps sp
def t5(c m:Str)(i:Nat)(π:Á xj)(F:FM)(f:uI):xi:=λβ=>(ĕg).bind λb=>match b with
 |.obj x fs _=>match decide (x=c)&&!(decide (m∈fs))with
  |Ã=>(ŵa).bind λa=>qy F (.p i π::a) β|Â=>Ä
 |_=>Ä
theorem GG{f:Str}:∀{fs:Á Str}{vs:Á V},f ∉ fs->(Ħq).lookup f=Ä
 | [],_,_=>rfl|_::_,[],_=>rfl|g::fs,v::vs,h=>by
  rw[ĩb,Ļe]
  have c:(f==g)=Â:=by
   have:f≠g:=λz=>h (z▸Ŏ)
   simpa using this
  rw[c];exact GG λz=>h ók
def au{P:Á V}{b d G H:Hp}{β β':yD}{σ:St}{y:M}{Q:VK}{C:È}{t:TA}{A:TE}{E0:XK}(f:Ż X.K Ę c=À Ġa)(U:∀{σ:St}{H:Hp}{v u:V}{Q:VK},σ[i]?=À ìa->wb X.K H v π u->Q u H->A σ H Q)(Y:∀{P:Á V}{b d G H:Hp}{β:yD}{σ:St}{as:Á AV}{Q:Á V->Hp->Prop},zu X.K ö P b d G H β σ->fa β=À as->(∀vs G' H',zR G H G' H'->Xd X.K G' H' σ as vs->Q vs H')->t σ H Q)(E:zu X.K ö P b d G H β σ)(a:t5 c m i π F fa β=À (y,β'))(q:∀v G' H',zw G G'->zu X.K (ö+1) P b d G' H' (β'++[À y]) İb->Q v H'):MY C m ņc [] E0 A t σ H Q:=by
 obtain⟨nd,B,a⟩:=zH a
 split at a;rename_i x R ms
 split at a;rename_i k;rw[Ē]at k;cases Ŋ k.1
 have Z:m ∉ R:=by have:=k.2;simpa using this
 obtain⟨as,n,a⟩:=zH a;obtain⟨mm,j,T⟩:=WV B;obtain⟨w,v1,L1,r,o,I,_⟩:=æl j T;obtain⟨p,C',J,vs,L',rfl,z,L,l,rs,nL,uL⟩:=I;rw[f]at z;cases z;refine U r o ⟨p,J,_,rfl,L,GG Z,?_⟩;refine Y E n λvs G1 H1 e O=>?_
 rw[ż];exact(üh).call (as:=.p i π::as) ⟨_,vs,w,rfl,r,o.mono e.h,O⟩ a λv G' H' s S=>q v G' H' (e.g.trans s) S;cases a;cases a
def dR{pl:Sem Í}(h:vj ò X.w X.K î ő c m ps k ņc)(s:yo j X.A)(l:SP X o i π)(u:MA X ė fa)(hk:Ê Čc q10)(a:Ê Ĭa q12)(p:č Ňf Ô=(do
   let ov <-č o Ô
   standAt éd
   let (f,first) <-holding [ov] Îd
   öc pos f first ŏd Ïc):=by rfl):MC X Ňf (t5 c m i π F fa):=by
 obtain⟨C,f,G,y,z,g,b,r⟩:=h;obtain⟨t,d,x⟩:=u.h;obtain⟨H,n,v⟩:=l.h;rw[ž,Ē]at a;exact⟨⟨_,y2w n z g r (Ël hk) b .nil Wd d Ôh Úh p,λE B q=>au y v x E B q⟩⟩
def UT{pl:Sem Í}(h:vj ò X.w X.K î ő c m ps k ņc)(p:yo j X.A)(g:SP X o i π)(hk:Ê Čc q10)(n:č İd Ô=(do
   let ov <-č o Ô
   standAt éd
   let (f,first) <-holding [ov] Îd
   öc pos f first Ĥi Ïc):=by rfl):MC X İd (t5 c m i π F wU):=by
 obtain⟨C,f,B,v,x,d,b,y⟩:=h;obtain⟨L,l,s⟩:=g.h;exact⟨⟨_,eW l x d y (p.mono hk) b .nil Wd n,λE u q=>au (t:=X7) v s (λ{P z I G H β σ J Q} r e a=>by cases e;exact a _ _ _ (Ŀa r.ext.gh) rfl) E u q⟩⟩
def QJ(P:æ)(w:ß)(K:Ì)(b:Str->Æ Value)(a:Heap)(c:Str)(ps:Á Str)(k:Nat)(sp:Sp):Prop:=
 ∃(C f:È) (fd:Ļ),Ż K Ę c=À Ġa/\b c=À ŏ/\Mk K C f/\uE K fd ps []/\xL P w K b a xC k f fd ps sp
def Qh(c:Str)(F:FM)(f:uI):xi:=λβ=>(ŵa).bind λa=>(Uv a).bind λb=>(F (.obj c [] []::j4 b)).bind λr=>match r.2 with
 |.fz .zE=>(r.1[0]?).bind λm=>À (m,β)|_=>Ä
def GL(h:QJ ò X.w X.K î ő c ps k ņc)(hr:yo j X.A)(hg:Gl X c)(ha:MA X ė fa)(hk:Ê (k+1<=j) q10)(W:Ê Åi q10)(U:Ê Ĭa q12) :MC X (.Call Łj ė [] pos) (Qh c F fa):=by
 obtain⟨C,f,fd,ns,J,mk,b,FF⟩:=h;obtain⟨t,pa,ka⟩:=ha.h;rw[ž,Ē]at U;refine⟨⟨_,y2u mk FF (hr.mono hk) hg J b .nil Wd pa W (tS U.1) (Zo U.2),λ{P G0 H0 G H β β' σ mr Q} E d q=>?_⟩⟩;obtain⟨as,R,d⟩:=zH d;obtain⟨ds,T,d⟩:=zH d;obtain⟨⟨S,m'⟩,hF,d⟩:=zH d;refine ka E R λvs x m Z ra y i s l ne=>?_
 rw[ż];have Y:=öa Z;have rd:=ON T ra
 split at d;rename_i em
 change m'=.fz .zE at em
 subst em;obtain⟨m0,h0,d⟩:=zH d;cases d;have N:∀q,q≠y->q≠i->zV (zV m i (.own y)) y (.ins C i []) q=m q:=λq z w=>by rw[yB z,yB w]
 have gy:x y=Ä:=Y.ext.gh.free s
 have s2:zw x Ïm:=λq o z=>by have n:=Y.ext.gh _ _ z;rw[N q (λc=>by subst c;rw[s]at n;cases n) (λc=>by subst c;rw[l]at n;cases n)];exact n
 refine⟨x,.obj c [] []::j4 ds,λq=>q=y,S,.fz .zE,s2,⟨_,vs,λq=>q=y,λ_=>ô,rfl,⟨y,C,i,[],λ_=>ô,rfl,ns,yb,rfl,⟨rfl,λ_ z=>z⟩,λz=>z,λq=>⟨.inl,λz=>Ïa id Ĝa⟩⟩,JZ rd,λ_ _ z=>z,λq=>⟨.inl,λz=>Ïa id Ĝa⟩⟩,λq z=>z▸gy,hF,λv G' H' L' I o hN=>?_⟩;obtain⟨v',r',La,Lb,e2,oa,ob,dj,u⟩:=o;cases e2;refine⟨oa.1,?_⟩;obtain⟨L2,o2,O⟩:=Gg (v1:=.ref y) ob h0 rfl
 have cn:∀q,cut Ïm (λq=>q=y) q=Ä->m q=Ä:=λq z=>by rcases bA z with z|z;exact z▸s;by_cases r:q=y;exact r▸s;by_cases B:q=i;exact B▸l;rw[N q r B]at z;exact z
 have x3:zR x m G' H':=⟨I.g,λq o z=>I.h _ _ (by
  have r:q≠y:=λc=>by subst c;rw[s]at z;cases z
  have B:q≠i:=λc=>by subst c;rw[l]at z;cases z
  rw[ZI (L:=λq=>q=y) r,N q r B];exact z),I.gh,λq z=>by
  rcases I.new q z with w|w;exact .inl w;exact .inr (cn q w)⟩
 exact q _ G' H' (Z.g.trans x3.g) (Y.Rz x3 o2 λq z=>by obtain⟨a,b⟩:=hN q (Βa (O q z));exact⟨a,cn q b⟩);cases d
#print a
section
variable{K:Ì}{G H:Hp}
theorem ïq:∀{ms:Á M}{vs:Á V}{L:Ft},Ū K G H ms vs L->∃Ls:Nat->Ft,(∀(i:Nat)(m:M),ms[i]?=À m->∃v,vs[i]?=À v/\xO K G H m v ÿl)/\(∀(i j:Nat)(q:È),i≠j->Ls i q->Ls j q->ô)/\∀i q,Ls i q->L q
 | [],_,_,_=>⟨λ_ _=>ô,⟨λi m h=>žp,⟨λ_ _ _ _ z=>Ïa,λ_ _ z=>Ïa⟩⟩⟩|m::ms,_,L,h=>by
  obtain⟨v,r,n,t,rfl,p,l,d,u⟩:=h;obtain⟨Ls,k,o,f⟩:=ïq l;refine⟨λi=>match i with|0=>n|j+1=>Ls j,λi s e=>?_,λi j q g b a=>?_,λi q z=>?_⟩;cases i with
  |äa=>cases e;exact⟨v,rfl,p⟩|åa j=>exact k j s ûb
  cases i with
  |äa=>
   cases j with
   |äa=>exact g rfl|åa j=>exact d q b (f j q a)
  |åa i=>
   cases j with
   |äa=>exact d q a (f i q b)|åa j=>exact o i j q (λc=>g Ŵq) b a
  cases i with
  |äa=>exact(ïa).mpr ðd|åa j=>exact(ïa).mpr (.inr (f j q z))
theorem şj:∀{ms:Á M}{vs:Á V}{Ls:Nat->Ft},(∀(i:Nat)(m:M),ms[i]?=À m->∃v,vs[i]?=À v/\xO K G H m v ÿl)->(∀(i j:Nat)(q:È),i≠j->Ls i q->Ls j q->ô)->þ=ıa->∃L,Ū K G H ms vs L/\∀q,L q->∃i,i<ıa/\Ls i q
 | [],vs,Ls,_,_,l=>by
  cases vs with
  |nil=>exact⟨λ_=>ô,⟨rfl,λ_ z=>z⟩,λ_ z=>Ïa⟩|đ v r=>cases l
 |m::ms,[],Ls,_,_,l=>by cases l|m::ms,v::vs,Ls,h,d,l=>by
  obtain⟨L,o,c⟩:=şj (ms:=ms) (vs:=vs) (Ls:=λi=>Ls ê) (λi n e=>by obtain⟨u,a,b⟩:=h ê n ûb;exact⟨u,by simpa using a,b⟩) (λi j q p=>d ê Ùa q Å) (Šd l)
  obtain⟨u,a,b⟩:=h 0 m rfl;cases a;refine⟨λq=>Ls 0 q\/L q,⟨v,vs,Ls 0,L,rfl,b,o,λq k f=>?_,λq=>ďd⟩,λq z=>?_⟩;obtain⟨i,_,z⟩:=c q f;exact d 0 ê q Å k z;rcases z with z|z;exact⟨0,ōp _,z⟩;obtain⟨i,g,z⟩:=c q z;exact⟨i+1,Ęo g,z⟩
#print a
noncomputable def ZF:Á Ŵk->Æ (Á M)
 | []=>À []|o::r=>Îl λm=>(ZF r).bind λa=>À (m::a)
def CF(b:Nat):g9->Æ ŧj
 |.rt m β=>(Ĩo).bind λa=>À (a,m)|.nx β=>(Ĩo).bind λa=>À (a,.fz .zE)|_=>Ä
def wX(a n:Nat)(b:yR)(ms:Á M):Æ ŧj:=(b (ιd (n-ıa))).bind (CF a)
def ve(a n:Nat)(b:yR):FM:=λc=>if űa=a then wX a n b c else Ä
def vt{a n:Nat}{b:yR}:∀ms r,ve a n b ms=À r->ıa=a/\wX a n b ms=À r:=λms r h=>by
 unfold ve at h
 split at h;rename_i c;exact⟨c,h⟩;cases h
theorem aI:∀{os:Á Ŵk} {ms:Á M},ZF os=À ms->ıa=os.length/\∀(i:Nat)(m:M),ms[i]?=À m->os[i]?=À Ýb
 | [],ms,h=>by cases h;exact⟨rfl,λi m e=>by cases e⟩|o::r,ms,h=>by
  obtain⟨d,a,h⟩:=zH h;obtain⟨c,b,h⟩:=zH h;cases h;subst a;obtain⟨l,g⟩:=aI b;refine⟨by rw[ĕ,ĕ,l],λi m e=>?_⟩;cases i with
  |äa=>cases e;rfl|åa j=>exact g j m ûb
section
variable{K:Ì}
def z63{N:Á Str}{G H:Hp}{ms:Á M}{vs:Á V}{L:Ft}(s:zw G H)(o:Ū K G H ms vs L)(t:∀q,L q->G q=Ä)(u:ıa<=ſ):zu K ſ vs G őr G H (ιd (ſ-ıa)) Ŧj:=by
 have l:=Őc;obtain⟨j,f,r,d⟩:=o.split;have b:∀q,L q->Bx H q:=Żd (λm _ v g n=>n.cells m v g) o
 have a:∀(i:Nat)(v:V),vs[i]?=À v->Ŧj[i]?=À ìa:=λi v e=>by unfold Űe;rw[ģb (by rw[ç];exact čf.1),Ŧ,e];rfl
 refine⟨⟨ŕa _,λq o e=>?_,s,λq z=>.inl z⟩,?_,?_,by omega,a,j,λi m h=>?_,r,λi q z=>⟨t q Ĉk,b9 Ĉk,b q Ĉk⟩⟩;by_cases c:L q;rw[b9 c]at e;cases e;rw[ZI c]at e;exact e;unfold Űe;rw[í,ç,ğc];omega;rw[í,ç,ğc];omega;obtain⟨w,e,z⟩:=LY h;cases z;obtain⟨v,p,k⟩:=f i m e;exact⟨v,a i v p,k⟩
def dH{n:Nat}{s p G H:Hp}{vs:Á V}{β:yD}{σ:St}{m:M}{v:V}{ms:Á M}(E:zu K ķ vs s p G H ŗe İb)(x:þ<=n)(h:ZF (β.take þ)=À ms) :∃L,Ū K G H (m::ms) (v::vs) L/\∀q,L q->G q=Ä/\p q=Ä:=by
 obtain⟨Ls,F⟩:=ŷa;obtain⟨l,g⟩:=aI h;rw[èa,E.XV,Ńa x]at l;obtain⟨u,k,y⟩:=Ĩa n m Ŏr;rw[jp E.Ta]at k;cases k
 obtain⟨L,o,C⟩:=şj (K:=K) (G:=G) (H:=H) (ms:=m::ms) (vs:=v::vs) (Ls:=λi=>match i with|0=>Ls n|j+1=>if j<n then Ls j else λ_=>ô) (λi c e=>by
  cases i with
  |äa=>cases e;exact⟨v,rfl,y⟩|åa j=>
   have f:ms[j]?=À c:=by simpa using e
   have d:j<þ:=by rw[<-l];exact ąh.1
   have e2:=g j c f;rw[ŭn]at e2;rw[Î d]at e2;obtain⟨w,t,A⟩:=Ĩa j c (by rw[u7 (by rw[E.XV];omega)];exact e2);have r:=ŕb j (vs[j]) (Ĕ d);rw[t]at r;cases r;refine⟨vs[j],by simp[d],?_⟩;simp only[Î (show j<n by omega)];exact A) (λi j q B b a=>by
  cases i with
  |äa=>
   cases j with
   |äa=>exact B rfl|åa j=>
    dsimp only at b a
    split at a;exact æa n j q Å b a;exact a
  |åa i=>
   cases j with
   |äa=>
    dsimp only at b a
    split at b;exact æa n i q Å a b;exact b
   |åa j=>
    dsimp only at b a
    split at b;split at a;exact æa i j q Å b a;exact a;exact b) (by rw[ĕ,ĕ,l])
 refine⟨L,o,λq z=>?_⟩;obtain⟨i,_,z⟩:=C q z;cases i with
 |äa=>exact⟨Ăq.1,Ăq.2.1⟩|åa j=>
  dsimp only at z
  split at z;exact⟨Ęg.1,Ęg.2.1⟩;exact Ïa
#print a
structure wj(K:Ì)(x qual:Str)(st:Õ)(f:È)(fd:Ļ):Prop where
 ex:∃(oc:Value) (od:Æ È) (dV kV doc pm:Value) (an:Æ È) (cdv ct:Value) (osl:Ø Íb),
  fd=ěd x qual ëe ía ń dV kV doc pm an cdv ct/\Àa f=À ⟨oc,od,.func fd,osl⟩/\źb K cdv qual=Ã
 kp:ďa K İ=Ã
def _root_.L2.Fun.v{K:Ì}{x a:Str}{st:Õ}{f:È}{h:Ļ}(F:Fun K x a st f h):wj K x a st f h:=by obtain⟨k,l,kV,b,n,i,d,j,c,e,m,g⟩:=F.ex;exact⟨⟨k,l,.none,kV,b,n,i,d,j,c,e,m,g⟩,F.kp⟩
section
variable{P:æ}{w:ß}{K:Ì}{mg:Str->Æ Value}{Ç:Heap}
def z18{x a:Str}{st:Õ}{f:È}{j:Value}{m g:Æ È}{e:Ø Íb}{h kV d i b ct:Value}(l:Àa f=À ⟨j,m,.func ťl,e⟩)(c:źb K b a=Ã)(k:ďa K İ=Ã):wj K x a st f ťl:=⟨⟨j,m,h,kV,d,i,g,b,ct,e,rfl,l,c⟩,k⟩
def wj.ok{x a:Str}{st:Õ}{f:È}{i:Ļ}{N ps:Á Str}{k:Nat}{sp:Sp}(F:wj K x a st f i)(S:zk N ps ń)(g:∀vs H Q E,sp vs H Q E->þ=ă)(c:∀(b:Value)(A:ó)(ÿ:Á Env)(s:Ë)(H:Hp)(vs:Á V)(Q:VK)(E:XK),yo k ŝm->sp vs H Q E->
   ∃t,t4 (Ťl).tW ía t/\t { nx:=λ_ H'=>Q .zE H',rt:=Q } æd H):xL P w K mg Ç xC Œ f i ps sp:=by
 obtain⟨o,p,y,kV,l,r,u,b,v,n,rfl,j,e⟩:=F.ex;refine bf j e S g λA ÿ s H vs Q E m d=>?_
 obtain⟨t,h,q⟩:=c b A ÿ s H vs Q E m d;exact⟨t,h.tW,q⟩
def wj.Tf{x c:Str}{st:Õ}{f:È}{T:Ļ}{N ps:Á Str}{k:Nat}{F:FM}{b:yR}(d:wj K x c st f T)(S:zk N ps ń)(R:ă<=ſ)(U:∀ms r,F ms=À r->ıa=ă/\wX ă ſ b ms=À r)(X:∀(g:Value)(A:ó)(ÿ:Á Env)(s:Ë)(H:Hp)(E:XK),yo k Ŝm->pX (ţl).tW ă ía b):xL P w K mg Ç xC Œ f T ps Ñh:=by
 refine d.ok S (λW H Q E h=>?_) λg A ÿ s H W Q E hr h=>?_;obtain⟨G,ms,L,I,m',_,o,_,e,_⟩:=h;rw[Őc,(U _ _ e).1];obtain⟨G,ms,L,I,m',s',o,hL,e,q⟩:=h;obtain⟨l,a⟩:=U _ _ e;obtain⟨t,p,Z⟩:=(X g A ÿ s H E hr).h;obtain⟨Y,n,a⟩:=zH a;have j:ĩk=ă:=by rw[Őc,l]
 refine⟨t,p,Z j (z63 (N:=N) s' o hL Å) n ?_⟩;cases Y with
 |nx β=>obtain⟨z,B,a⟩:=zH (show(Ño).bind _=_ from a);cases a;intro σ J y i;obtain⟨O,C,u⟩:=dH (i.Z9 (d:=.zE) (v:=.zE) rfl) Ïo Ðo;exact q .zE J y O i.ext C u
 |rt m β=>obtain⟨z,B,a⟩:=zH (show(Ño).bind _=_ from a);cases a;intro σ v J y i;obtain⟨O,C,u⟩:=dH i Ïo Ðo;exact q v J y O i.ext C u
 |_=>cases a
def wj.oI{x c:Str}{st:Õ}{f:È}{j:Ļ}{N ps:Á Str}{k:Nat}{F:Á D->Æ ä}{b:FS}(d:wj K x c st f j)(S:zk N ps ń)(O:ă<=ſ)(m:∀ds r,F ds=À r->ď=ă/\yH ſ b ds=À r)(u:∀(g:Value)(A:ó)(ÿ:Á Env)(s:Ë)(H:Hp)(E:XK),yo k Ŝm->tj (ţl).tW ía b):xL P w K mg Ç xC Œ f j ps èf:=by
 refine d.ok S (λJ H Q E h=>?_) λg A ÿ s H J Q E I h=>?_;obtain⟨G,ds,o,n,_,r,e,_⟩:=h;rw[áa,(m _ _ e).1];obtain⟨G,ds,o,n,B,r,e,q⟩:=h;obtain⟨l,a⟩:=m _ _ e;obtain⟨t,p,C⟩:=(u g A ÿ s H E I).h;obtain⟨v,i,a⟩:=zH a;refine⟨t,p,C (bT (N:=N) B r Å) i ?_⟩;cases v with
 |nx τ=>cases a;exact λσ L y z=>q .zE L y z.ext rfl|rt o' d'=>
  cases a;cases o with
  |Â=>exact q|Ã=>exact q
 |_=>cases a
theorem Def.Tf{x:Str}{st:Õ}{N ps:Á Str}{k:Nat}{F:FM}{b:yR}(d:Def K mg x st ps)(S:zk N ps ń)(h:ă<=ſ)(i:∀ms r,F ms=À r->ıa=ă/\wX ă ſ b ms=À r)(j:∀(f:È)(a:Value)(A:ó)(ÿ:Á Env)(s:Ë)(H:Hp)(E:XK),yo k (Ĵb (Čb x ń Ú f a))->pX (tJ xC P w K mg Ç N x ń f a A ÿ s H E).tW ă ía b):vJ P w K mg Ç x ps Œ Ñh:=by obtain⟨f,g,e,l,c⟩:=d;exact⟨f,g,l,e.kp,c,e.v.Tf S h i (j f)⟩
def bj(F:FM):Á D->Æ ä:=λa=>(F (j4 a)).bind λr=>match r.2 with
 |.fz d=>À (Â,d)|.own d=>À (Ã,d)|_=>Ä
def y7v{F:FM}{vs:Á V}{H:Hp}{Q:VK}{E:XK}(h:wy K (bj F) vs H Q E):xF K F vs H Q E:=by
 obtain⟨G,t,o,d,s,r,e,q⟩:=h;obtain⟨⟨c,g⟩,m,e⟩:=zH e
 have j:cut H Ũj=H:=by
  funext q
  exact ZI (λz=>z)
 refine⟨G,j4 t,λ_=>ô,c,g,s,JZ r,λ_ z=>Ïa,m,λv k i A x w l=>?_⟩;rw[j]at x;obtain⟨C,I,N,J,e2,f,L,B,u⟩:=w;cases e2;cases g with
 |fz d'=>cases e;exact q v k i x f.1|own d'=>cases e;obtain⟨p,rfl,y,n⟩:=f;obtain⟨a,b⟩:=l p ((u p).mpr (.inl ((n p).mpr rfl)));rw[j]at b;exact q p k i x b a y
 |_=>cases e
#print a
structure OC(P:æ)(w:ß)(K:Ì)(mg:Str->Æ Value)(Ç:Heap)(c m:Str)(ps:Á Str)(k:Nat)(sp:Sp):Prop where
 ex:∃(C f:È) (fd:Ļ) (mc:Value),mg c=À ŏ/\ĩj K ŏ ġi=À ŧh/\Ûk K C mc=Ã/\Ük K ŏ mc m=À Ųj/\ďa K İ=Ã/\uE K fd ps []/\xL P w K mg Ç xC k f fd ps sp
section
variable{X:Cx}{c m:Str}{ps:Á Str}{j k:Nat}{F:FM}{e:Ñ}{es:Á Ñ}{fa:uI}{p pos Ĕa:Pos}{sp:Sp}{t:TA}
def y2n{pl:Sem Í}(h:OC ò X.w X.K î ő c m ps k sp)(z:yo j X.A)(x:Gl X c)(B:PA X ė t)(hk:Ê Čc q10)(d:Ê Åi q10)(i:Ê Ĭa q12)(y:č łf Ô=(do
   let ov <-č Łj Ô
   standAt éd
   let (f,first) <-holding [ov] Îd
   öc pos f first ŏd Ïc):=by rfl):PE X łf ũo:=by
 obtain⟨C,f,J,O,E,l,g,a,v,b,F⟩:=h.ex;rw[ž,Ē]at i;intro o s σ H Q I u;refine Śi (pl:=pl) ?_ y;refine LU I x E ?_ d;refine W.method_cls ś l (W.cls_value ś g a rfl ?_);exact ŝe (h₀:=ő) Ŭe v (zn (B pos o _ σ H _ ăc u) λG L ⟨N,P,n,r,q⟩=>⟨n.xY,Jo F (z.mono hk) b .nil Wd n r q⟩) (tS i.1) (Zo i.2)
def dP{pl:Sem Í}(h:OC ò X.w X.K î ő c m ps k ņc)(x:yo j X.A)(r:Gl X c)(y:MA X ė fa)(hk:Ê Čc q10)(a:Ê Åi q10)(C:Ê Ĭa q12)(u:č łf Ô=(do
   let ov <-č Łj Ô
   standAt éd
   let (f,first) <-holding [ov] Îd
   öc pos f first ŏd Ïc):=by rfl):MC X łf ŋr:=by
 obtain⟨t,n,B⟩:=y.h;refine⟨⟨_,y2n h x r n hk a C u,λE d q=>?_⟩⟩;obtain⟨L,b,d⟩:=zH d;refine B E b λI H J i G=>?_
 rw[ż];exact(öa i).call G d λv z o s l=>q v z o (i.g.trans s) l
#print a
noncomputable def z00:yD->Æ Ġg:=λβ=>À ([],β)
noncomputable def s_(f:xi)(r:yD->Æ Ġg):yD->Æ Ġg:=λβ=>(ŵa).bind λa=>(r a.2).bind λb=>À (a.1::b.1,b.2)
noncomputable def sA(ks:Á Str)(fs:yD->Æ Ġg):xi:=λβ=>(fs β).bind λr=>match decide (ĩ=r.1.length)with
 |Ã=>À (.tab (ks.map .inr) r.1,r.2)|Â=>Ä
noncomputable def rq(i:Nat):xi:=λβ=>match β[i]? with
 |À Ýb=>À (m,β.set i Ä)|_=>Ä
#print L3
namespace L2
open Ī ĺ Öa ĭ
section
variable{X:Cx}{c e:Ñ}{es:Á Ñ}{t:TA}{tc:TE}{pos:Pos}{j:Nat}
noncomputable def y8g(X:Cx)(j:Nat)(tc:TE)(t:TA):TE:=λσ H Q=>tc σ H λv c=>∃(f:È) (fd:Ļ) (ps:Á Str) (k:Nat) (sp:Sp),v=.ref f/\k<=j/\ďa X.K İ=Ã/\uE X.K fd ps []/\xL ò X.w X.K î ő xC k f fd ps sp/\t σ c λa b=>sp (a++[]) b Q E0
def y2l(w:yo j X.A)(y:PE X c tc)(x:PA X ė t)(d:Ê Ĭa q12)(a:Ê (č īn Ô=(do öc pos (<-č c Ô) [] ŏd Ïc)) q12):PE X īn (y8g X j tc t):=by intro i s σ H Q I h;rw[ž,Ē]at d;rw[a];refine Ò (zn (y i s σ H _ I h) λu p ⟨v,K,l,m,f,G,J,k,B,n,z,o,b,F,q⟩=>?_);subst n;cases m;refine ŝe (h₀:=ő) Ŭe o (zn (x pos i p σ _ _ l q) λC E ⟨N,L,g,r,q⟩=>⟨g.xY,?_⟩) (tS d.1) (Zo d.2);exact Jo F (w.mono z) b .nil Wd g r q
#print a
#print L2
namespace L3
open Ī ĺ ĭ L2
def YQ(K:Ì)(w:ß)(b:Str->Æ Value)(a:È)(ks:Á zU)(ns:Á Str):Prop:=
 ∃fs:Á È,üa=Â/\ĩ=ůa/\(∀(i:Nat)(n:Str),ns[i]?=À n->∃f,fs[i]?=À f/\b n=À İ)/\Ôa=ůa/\∀(P:æ)(h:Heap),ŕ h->∃vs,KV (Ěf èk) vs/\Òe Ŏa a vs
inductive Xq(mg:Str->Æ Value):Á Str->Á È->Prop
 |nil:Xq mg [] []
 |đ {n:Str} {f:È} {ns:Á Str} {fs:Á È} (h:mg n=À İ) (r:Xq mg ns fs):Xq mg żk (f::fs)
theorem Xq.at_{c:Str->Æ Value}:∀{ns:Á Str}{fs:Á È},Xq c ns fs->(∀(i:Nat)(n:Str),ns[i]?=À n->∃f,fs[i]?=À f/\c n=À İ)/\Ôa=ůa
 |_,_,.nil=>⟨λi n h=>žp,rfl⟩|_,_,.cons h r=>by
  obtain⟨a,b⟩:=r.at_;refine⟨λi n e=>?_,by rw[ĕ,ĕ,b]⟩;cases i with
  |äa=>cases e;exact⟨_,rfl,h⟩|åa i=>exact a i n ûb
theorem mF:∀{fs:Á È},zo èk Ęr
 | []=>.nil|_::_=>.cons rfl mF
def z1l{K:Ì}{d:Str->Æ Value}{w:ß}{a:È}{es:Á ŷb}{n:Nat}{xs ns:Á Str}{fs:Á È}(l:Àa a=À { cls:=.type Ź,Ą:=.dict ŕj n })(e:jM w es xs Ęr)(o:Ād)(g:üa=Â)(m:Xq d ns fs) :YQ K w d a ãd ns:=by
 have c:(ĉc ňb:Á zU).length=(èk).length:=by rw[ç,e.len,ç,ç]
 obtain⟨f,i⟩:=m.at_;refine⟨fs,g,by rw[c,ç],f,i,λP h j=>⟨_,Ey mF c,?_⟩⟩;obtain⟨p,q⟩:=ŗk (P:=P);refine⟨_,_,_,j _ _ l,⟨rfl,rfl,rfl⟩,rfl,λe k=>q e Ħi,p,?_⟩;rw[Mx ãi];exact Ĵi _ Ái o
section
variable{X:Cx}
def z1j{A:È}{ks:Á zU}{ns:Á Str}(g:YQ X.K X.w î A ks ns):yj X Ìf (λx y H Q=>y=.ref A/\∃k,x=kV k/\Q Űo H):=by intro l s σ H x y v u Q I e i h;obtain⟨rfl,k,rfl,q⟩:=h;cases i;obtain⟨j,a,c,_,_,f⟩:=g;obtain⟨m,b,d⟩:=f ò Ý ś;refine Ûq (kL e) a Řk ?_;rw[<-(b.val k).VJ,Wu k Ĥn,Cf k Ĥn];exact⟨.bl _,H,Ãa _,rfl,q⟩
def y86{A:È}{ks:Á zU}{ns:Á Str}{x:Str}{p pos:Pos}{a:Ñ}{e:FE}(h:wT î x üc)(g:YQ X.K X.w î A ks ns)(m:Gl X x)(o:SE X a e)(r:Ê ı q10)(l:Ê (åc .In ĉa=Â) q12) :ST X (.Compare a [.In] [.Name x p] pos) (tE (e1 (Yd ks) e)):=by obtain⟨v,f,t⟩:=o.h;refine⟨⟨_,Gv (z1j g) f (We h m r) l,λ{B C G H τ σ d Q} E c q=>?_⟩⟩;obtain⟨z,b,c⟩:=zH c;obtain⟨y,n,b⟩:=zH b;obtain⟨k,j,b⟩:=zH b;cases b;cases c;exact t E n λu I F s i=>⟨rfl,k,ZW j i,_,rfl,q _ _ s⟩
def z1k{A:È}{ks:Á zU}{ns:Á Str}(g:YQ X.K X.w î A ks ns):qp X (λx y H Q=>x=.ref A/\∃k n,y=kV k/\Ā ks ns k=À n/\∀f,î n=À İ->Q İ H):=by
 intro p j L s σ H x y v u Q I S R h Y;obtain⟨rfl,k,n,rfl,N,q⟩:=h;cases S;obtain⟨a,z,E,b,P,U⟩:=g;obtain⟨W,l,C⟩:=U ò Ý ś
 have m:∀{ks:Á zU}{ns:Á Str}{a:Á È},(∀(i:Nat)(n:Str),ns[i]?=À n->∃f,a[i]?=À f/\î n=À İ)->Ā ks ns k=À n->∃f,Ā ks (a.map čc) k=À İ/\î n=À İ:=λ{ks}=>by
  induction ks with
  |nil=>intro ns a _ e;cases e|đ k' ks ih=>
   intro ns a b e;cases ns with
   |nil=>cases e|đ n' ns=>
    obtain⟨f0,t,O⟩:=b 0 n' rfl;cases a with
    |nil=>cases t|đ f1 a=>cases t;unfold Ā at e;rw[ŝ];unfold Ā;by_cases c:k'=k;rw[Î c]at e ⊢;cases e;exact⟨_,rfl,O⟩;rw[Ð c]at e ⊢;exact ih (λi n h=>b ê n úb) e
 obtain⟨f,Z,T⟩:=m b N;obtain⟨B,G,d⟩:=Ŵe (v:=čc f) (o:=āc W k) (by rw[<-Z,<-Wu k (by rw[ç];exact E)];exact l.val k)
 exact Ĉe (x:=B) C.typeIs Ÿh
  (ði (Q:=λr J=>r=B/\EP X L σ Q r J) (kL R) C.mapOf G ⟨rfl,_,H,Ãa _,d,q f T⟩) Y
inductive vd(X:Cx)(j:Nat):Á Str->Á FM->Prop
 |nil:vd X j [] []
 |đ {n:Str} {ps:Á Str} {k:Nat} {F:FM} {ns:Á Str} {Fs:Á FM} (h:vJ ò X.w X.K î ő n ps k ņc) (hk:k<=j) (r:vd X j ns Fs):vd X j żk (F::Fs)
theorem vd.get{X:Cx}{j:Nat}{k:zU}{F:FM}:∀{ks:Á zU}{ns:Á Str}{Fs:Á FM},vd X j ns Fs->Ā ks Fs k=À F->∃n ps i,Ā ks ns k=À n/\i<=j/\vJ ò X.w X.K î ő n ps i ņc
 | [],_,_,_,e=>by cases e|_::_,_,_,.nil,e=>by cases e|k'::ks,_,_,.cons (n:=n) (ps:=ps) (k:=i) h hk r,e=>by unfold Ā at e;by_cases c:k'=k;rw[Î c]at e;cases e;exact⟨n,ps,i,by unfold Ā;rw[Î c],hk,h⟩;rw[Ð c]at e;obtain⟨d,a,b,g,f⟩:=ĝb e;exact⟨d,a,b,by unfold Ā;rw[Ð c];exact g,f⟩
def Fx(ks:Á zU)(b:Á FM)(a:FE)(c:uI):xi:=λβ=>(a Ċh).bind λx=>(ôe).bind λk=>(Ā ks b k).bind λF=>pf F c β
def z6c{A:È}{ks:Á zU}{ns:Á Str}{z:Á FM}{x:Str}{p p2 pos:Pos}{k e:Ñ}{es:Á Ñ}{C:FE}{t:uI}{j:Nat}(h:wT î x üc)(g:YQ X.K X.w î A ks ns)(hg:Gl X x)(D:vd X j ns z)(hr:yo j X.A)(hk:SE X k C)(ha:MA X ė t)(hs:Ê Űj q12)(hd:Ê ı q10)(Y:Ê Ĭa q12)(o:Ê (č Àm Ô=(do öc pos (<-č (.Subscript ĉa k p2) Ô) [] ŏd Ïc)) q12):MC X Àm (Fx ks z C t):=by
 obtain⟨tk,W,kk⟩:=hk.h;obtain⟨ta,pa,ka⟩:=ha.h;refine⟨⟨_,y2l hr (Gh (z1k g) (We h hg hd) W (Gk hs)) pa Y o,λ{P G0 H0 G H β β' σ m Q} E a q=>?_⟩⟩;obtain⟨y,hy,a⟩:=zH a;obtain⟨l,d,a⟩:=zH a;obtain⟨F,U,a⟩:=zH a;obtain⟨as,r,a⟩:=zH a;obtain⟨n,R,i,O,N,⟨f,S,hm,kp,b,T⟩⟩:=D.get U;obtain⟨G1,E1,ća⟩:=E.qo;refine kk E1 hy λu G2 H2 x2 J=>?_
 obtain⟨G3,L,I,_⟩:=ća _ _ x2;refine⟨rfl,l,n,ZW d J,O,λf' c=>?_⟩;rw[hm]at c;cases c;refine⟨f,S,R,i,_,rfl,N,kp,b,T,ka I r λvs G4 H4 B Z=>?_⟩;rw[ż];exact(I.go B).call Z a λv G' H' s K'=>q v G' H' (L.g.trans (B.g.trans s)) K'
#print a
def xV(a:Á Str)(f:Str):D->Æ D
 |.obj x fs vs=>if x∈a then Ća fs vs f else Ä|_=>Ä
theorem ÿr{K:Ì}{G:Hp}{κ:Type}[íc κ]{k:κ}{d:D}:∀{ks:Á κ}{ds:Á D}{vs:Á V},Þ K G ds vs->ŝk ks ds k=À d->∃v,ŝk ks vs k=À v/\za K G d v
 | [],_,_,_,e=>by cases e|_::_,[],_,_,e=>by cases e|k'::ks,d'::ds,vs,r,e=>by obtain⟨v,f,rfl,b,a⟩:=r;unfold ŝk at e ⊢;by_cases c:k'=k;rw[Î c]at e ⊢;cases e;exact⟨v,rfl,b⟩;rw[Ð c]at e ⊢;exact ÿr a e
noncomputable def vg(c m:Str)(a:FE)(fs:FA):FA:=λτ=>(a τ).bind λo=>match o with
 |.obj x fl _=>match decide (x=c)&&!(decide (m∈fl))with
  |Ã=>(fs τ).bind λb=>À (o::b)|Â=>Ä
 |_=>Ä
section
variable{X:Cx}{e o:Ñ}{f m c:Str}{cs:Á Str}{fe fo:FE}{pos Ĕa:Pos}{ps:Á Str}{j k:Nat}{FF:Á D->Æ ä}
def wf(h:SE X e fe)(k:vC X.K cs f)(i:Ê ŀm q12):SE X Æg (e1 (xV cs f) fe):=by
 obtain⟨t,p,j⟩:=h.h;refine⟨⟨_,eU p i,λ{F L G H τ σ d Q} E b q=>?_⟩⟩;obtain⟨y,w,b⟩:=zH b;refine j E w λv J O c s=>?_
 unfold xV at b
 split at b;rename_i x N P;by_cases hx:x∈cs;rw[Î hx]at b;obtain⟨a,C,m,I,rfl,o,z,l,g⟩:=s;obtain⟨u,B,A⟩:=g.getA b;obtain⟨r,n⟩:=k x hx C o;exact⟨a,C,m,_,u,rfl,Êc _ _ z,r,n,by rw[LV];exact B,q _ _ _ c A⟩;rw[Ð hx]at b;cases b;cases b
def y73{e f G H:Hp}{τ:yE}{σ:St}{ds:Á D}{Q:VK}{C:È}{t:TA}{p:TE}{sp:Sp}{fs:FA}(i:Ż X.K Ę c=À Ġa)(I:∀{e f G H:Hp}{τ:yE}{σ:St}{d:D}{Q:VK},zr X.K ö e f G H τ σ->fo τ=À d->(∀v G' H',zR G H G' H'->za X.K G' d v->Q v H')->p σ H Q)(w:∀{e f G H:Hp}{τ:yE}{σ:St}{ds:Á D}{Q:Á V->Hp->Prop},zr X.K ö e f G H τ σ->fs τ=À ds->(∀vs G' H',zR G H G' H'->Þ X.K G' ds vs->Q vs H')->t σ H Q)(E:zr X.K ö e f G H τ σ)(b:vg c m fo fs τ=À ds)(q:∀vs G' H',zR G H G' H'->Þ X.K G' ds vs->sp vs H' Q E0):MY C m sp [] E0 p t σ H Q:=by
 obtain⟨y,A,b⟩:=zH b
 split at b;rename_i x s vs
 split at b;rename_i j;rw[Ē]at j;cases Ŋ j.1
 have J:m ∉ s:=by have:=j.2;simpa using this
 obtain⟨u,F,b⟩:=zH b;cases b;refine I E A λv R T h k=>?_
 obtain⟨a,O,z,P,rfl,o,B,l,L⟩:=id k;rw[i]at o;cases o;refine⟨a,z,_,rfl,h.gh _ _ B,GG J,w (öa h) F λvs U S n r=>?_⟩;rw[ż];exact q _ _ _ (āf n) ⟨_,vs,rfl,k.mono n.g,r⟩;cases b;cases b
def y7w{G H:Hp}{ds:Á D}{vs:Á V}{Q:VK}{a b:Hp}{d:D}{o:Í}{E:XK}(x:zR a b G H)(r:Þ X.K G ds vs)(f:FF ds=À (o,d))(q:∀v G' H',zR a b G' H'->za X.K G' d v->Q v H'):wy X.K FF vs H Q E:=by
 refine⟨G,ds,o,d,Ÿa,r,f,?_⟩;cases o with
 |Â=>exact λv G' H' c r=>q v G' H' (þf c) r|Ã=>intro p G' H' c g e o;obtain⟨u,h,r⟩:=o.yK e;exact q _ _ _ (þf (c.yK g e h)) r
def pC{pl:Sem Í}(h:vj ò X.w X.K î ő c m ps k Ĺj)(I:yo j X.A)(i:SE X o fo)(hk:Ê Čc q10)(B:č İd Ô=(do
   let ov <-č o Ô
   standAt éd
   let (f,first) <-holding [ov] Îd
   öc pos f first Ĥi Ïc):=by rfl):SE X İd (zT FF (vg c m fo zG)):=by
 obtain⟨C,f,O,s,v,z,b,F⟩:=h;obtain⟨W,l,N⟩:=i.h;refine⟨⟨_,eW l v z F (ġf hk) b .nil Wd B,λ{g p G H τ σ d Q} E a q=>?_⟩⟩;obtain⟨u,L,a⟩:=zH a;obtain⟨⟨S,P⟩,n,a⟩:=zH a;cases a;exact y73 (t:=X7) s N (λ{g p G H τ σ u Q} J e y=>by cases e;exact y _ _ _ (Ŀa J.ext.gh) rfl) E L λT U R x r=>y7w x r n q
#print a
def z61(a:Nat)(i:Nat)(π:Á xj)(b:FE)(c:xi):yR:=λβ=>(Ĥd).bind λr=>(ŗc).bind λy=>match y with
 |.tup [d1,d2]=>(jh Ôi i π).bind λd=>match d with
  |.own ŵg=>(b (qd Ôi)).bind λx=>match x with
   |.int j=>(Ľj).bind λn=>(Äc Ôi i π (.own (Ε (ñh n d2)))).bind λβ2=>À Ľb|_=>Ä
  |_=>Ä
 |_=>Ä
open Öa
mutual
noncomputable def qC:D->PyData
 |.zE=>.none|.bl b=>.bool b|.int i=>.int i|.str x=>.str x|.tup ds=>.tuple Ŋr|.lst ds=>.list Ŋr|_=>.none
noncomputable def pyTs:Á D->Á PyData
 | []=>[]|d::ds=>qC d::pyTs ds
end
mutual
noncomputable def wD:D->Nat
 |.zE=>4|.bl _=>5|.int i=>if decide Őb&&decide żc then 20 else 1000000000|.tup ds=>wDs ds+3|.lst ds=>wDs ds+2|_=>1000000000
noncomputable def wDs:Á D->Nat
 | []=>0|d::ds=>wD d+2+wDs ds
end
theorem lq:∀(ts:Á Str)(k:Nat)(acc:Str),(textFrom k acc ts).length<=Řj+ıf ts
 | [],k,acc=>Åa _ _|t::r,k,acc=>by
  have h:=lq r Œ Ÿl
  have e:(Ÿl).length=Řj+(if k>0 then 2 else 0)+ād:=by
   rw[ōd,ōd]
   split<;>rfl
  rw[e]at h;rw[Ľq];show(textFrom Œ _ r).length<=_;have:(if k>0 then 2 else 0:Nat)<=2:=by split<;>omega
  omega
def z5u(a:Á Str):(ğk a).length<=ıf a+2:=by unfold ğk;have h:=lq a 0 "[";have e1:(("[" : Áa):Str).length=1:=rfl;have e2:(("]" : Áa):Str).length=1:=rfl;rw[ōd,e2];rw[e1]at h;omega
def x2l(a:Á Str):(Ïk a).length<=ıf a+3:=by
 unfold Ïk;rw[ōd,ōd];have e1:((("(" : Áa):Str)).length=1:=rfl;have b:(((if ĳa==1 then ",)" else ")" : Áa):Str)).length<=2:=by split<;>decide
 rw[e1];by_cases h:a=[];subst h;have:(Str.join ", " []).length=0:=rfl;omega;have:=join_length_add a h;omega
def y7h(d:D):wD d<=900000000->(ól).shown.length<=wD d:=by
 have f:∀a:Á D,(∀d∈a,wD d<=900000000->(ól).shown.length<=wD d)->wDs a<=900000000->ıf Ĕe<=wDs a:=λa=>by
  induction a with
  |nil=>intro _ _;exact êa _|đ x a g=>intro h k;have n:wD x+2+wDs a<=900000000:=k;have p:=h x Ŏ Å;have j:=g (λd m=>h d Ŧg) Å;show ıf ((qC x).shown::PyData.shownAll (pyTs a))<=wD x+2+wDs a;rw[Ľq];omega
 refine Ĺf (P:=λd=>wD d<=900000000->(ól).shown.length<=wD d) ?_ ?_ ?_ ?_ ?_ ?_ ?_ ?_ ?_ d;intro _;decide;intro b _;cases b<;>decide;intro i h
 change ĸl<=900000000 at h
 show(åd (ěk i)).length<=ĸl;cases c:(decide Őb&&decide żc)with
 |Â=>rw[c,Ð É]at h;omega|Ã=>
  rw[Î rfl];rw[Ē]at c;have e:(10:Int) ^ 20=100000000000000000000:=by decide
  have j:=Ŋ c.2;rw[<-e]at j;exact toString_length_le ĸr É j
 intro x h;exact Û h Ńf;intro a g h;have l:wDs a+3<=900000000:=h;have:=f a g Å;have:=x2l Ĕe;show(Ïk Ĕe).length<=wDs a+3;omega;intro a g h;have l:wDs a+2<=900000000:=h;have:=f a g Å;have:=z5u Ĕe;show(ğk Ĕe).length<=wDs a+2;omega;intro q a _ h;exact Û h Ńf;intro x h;exact Û h Ńf;intro x o a _ h;exact Û h Ńf
def sC{X:Cx}:wu X ŀc (λxs H Q=>∃a kvs,xs=óa/\Rd H a Ŀ/\∀p,H p=Ä->Q Éa (zV H p Ŀ)):=by
 intro z s σ H xs y Q I r h;obtain⟨a,kvs,rfl,e,q⟩:=h;obtain⟨u,rfl,w⟩:=uy r;cases(show u=ą a from w);obtain⟨k,c,x,d,l⟩:=kD Đ e;have i:ŀb=Ķ:=jf d;refine kt_call_dict c l (by rw[i];exact k) λv n m=>?_
 have f:Ŗq=Â:=by have:=I.big;rw[ĵn];exact we Œq
 have t:∀b o,ā b=À o->v.get? b=À o:=λb o j=>by have g:=Ĝ j;exact(m.2 b (we (Æa g))).trans (ģ _ j)
 exact⟨.ref Ú,_,Ėb (a:=Ú) (o:=.dK kvs) (t':=Č) t Ċ (C8 k f d n),rfl,q _ Ąf⟩
noncomputable def Oo:Á D->Æ D
 | [.dic ks ds]=>À Ðq|_=>Ä
def y7a{X:Cx}{e:Ñ}{fs:FA}{p pos:Pos}(o:Gl X Ź)(n:î Ź=Ä)(hv:Ř Ź=À ŀc)(r:SA X [e] fs)(u:Ê ĝa q12):SF X ńn (eL Oo fs):=by
 obtain⟨t,x,k⟩:=r.h;refine⟨⟨_,(Ue sC o n hv ⟨x⟩ É É Ëo).h,λ{z C G H τ σ d Q} E b q=>?_⟩⟩;obtain⟨J,s,b⟩:=zH b;refine k E s λF B I c j=>?_
 unfold Oo at b
 split at b;rename_i A y;cases b;obtain⟨v,rfl,a,m,rfl,w,i,g,l⟩:=jo j;refine⟨a,_,rfl,Śc Êc w,λp f=>?_⟩;exact q p _ _ Ŷn (Äh f) (Ŗg f) ⟨m,yb,i,g,l⟩;cases b
#print L3
namespace L3
def x2a:wz .zE=Ã:=rfl
def x2b(b:Í):wz ąc=Ã:=rfl
def x2c(i:Int):wz ôa=Ã:=rfl
def x2d(x:Śg):wz Ņb=Ã:=rfl
def x2e(ds:Á D):wz Űg=êb ds:=rfl
def x2f:êb []=Ã:=rfl
def x2g(d:D)(ds:Á D):êb (d::ds)=Øp:=rfl
def rB(i:Nat)(π:Á xj)(d:D):gH úf i π=.v d:=rfl
def y9q(d:D):uU úf=d:=rfl
def y9r(d:D):uU ńk=d:=rfl
def y9s(x:Śg)(fs:Á Śg)(ms:Á M):uU Éj=.obj x fs Ňc:=rfl
def y9t(ks:Á (Sum Int Śg))(ms:Á M):uU Îq=.dic ks Ňc:=rfl
def y9u:ħd []=[]:=rfl
def y9v(m:M)(ms:Á M):ħd (m::ms)=uU m::ħd ms:=rfl
def rE(x:M):qx x []=À x:=rfl
def y43(x y:M):p8 x [] y=À y:=rfl
def z5y(g:MG)(b:yR)(x:yD):jA g b [] x=À (.nx x):=rfl
def z5z(g:MG)(b:yR)(x:yD)(d:D)(r:Á D):type_of% (jA.eq_2 g b x d r):=rfl
open Ī ĺ ĭ L2
def fldk_nil{K:Ì}{f:Str}:vC K [] f:=λx a=>Û a â
def fldk_cons{K:Ì}{f c:Str}{C:È}{d:Á Str}(ns:Ż K Ę c=À Ġa)(g:tG K C)(e:Ŕa K ŏ f=À Ä)(r:vC K d f):vC K (c::d) f:=λx b h a=>by rcases Ĺ b with rfl|b;rw[ns]at a;cases a;exact⟨g,e⟩;exact r x b h a
def CP:Á D->Æ D
 | [.lst xs]=>(ďh).bind λa=>match a.all Řl&&decide (ĳa<=1000)with
  |Ã=>À (.int a.sum)|Â=>Ä
 |_=>Ä
theorem lW:∀{ns:Á Int},(∀n∈ns,0<=n/\n<1099511627776)->0<=Ïl/\Ïl<=1099511627776*(Ôa:Int)
 | [],_=>⟨ěa _,by decide⟩|n::ns,h=>by
  obtain⟨a,b⟩:=lW λm e=>h m (Ĉa _ e)
  obtain⟨c,d⟩:=h n Ŏ;rw[List.sum_cons,ĕ]
  constructor;omega;push_cast
  omega
def y1e{K:Ì}:ZE K (iA K) CP:=λG H o w d Q s r b q=>by
 match o,b with
 | [.lst xs],b=>
  obtain⟨ns,m,b⟩:=zH (show(ďh).bind _=À d from b);cases c:(ns.all Řl&&decide (Ôa<=1000))with
  |Â=>rw[c]at b;cases b|Ã=>
   rw[c]at b;cases b;rw[Ē]at c;have t:=Ŋ c.2
   have f:∀n∈ns,0<=n/\n<1099511627776:=λn e=>by have:=Ħb c.1 n e;rw[Ē]at this;exact⟨Ŋ this.1,Ŋ this.2⟩
   obtain⟨v,rfl,a,u,rfl,g,h,l⟩:=jo r;rw[Ej m h]at g;refine⟨a,ns,rfl,.inl g,⟨λn e=>?_,λk x=>?_⟩,q _ _ _ Øa rfl⟩;have:=f n e
   constructor<;>omega;have:=lW (ns:=ns.take k) λn e=>f n (ſc e)
   have j:(Ĩg).length<=1000:=by rw[èa];omega
   have p:((Ĩg).length:Int)<=1000:=by exact_mod_cast j
   constructor<;>omega
def U1:Ř Èl=À Ąo:=PyProof.Rows.bootS_repr
def GI(i:Nat)(F:D->D->Æ D)(f:FE):yR:=λβ=>(e2 F ìl f Ùf).bind λd=>À (.nx âi)
section
variable{X:Cx}{np:Nat}{x c:Str}{p pos ĩa:Pos}{e:Ñ}{f:FE}{F:D->D->Æ D}
def z6l{i:Nat}{n:Ôe}{m:Vu}(r:QO X n m)(z:ue X.K m F)(o:ğa)(hi:X.N[i]?=À x)(j:pW éa x)(T:np<=i)(A:SE X e f)(b:Ê ża q7) :MS X np (.AugAssign ûg n e pos) (GI i F f):=by obtain⟨t,Q,k⟩:=A.h;refine⟨⟨_,Gp o hi j Q r b,λ{P R U G H β σ S E} Y K b q=>?_⟩⟩;obtain⟨d,a,b⟩:=zH b;cases b;obtain⟨x,j,a⟩:=zH a;obtain⟨y,J,a⟩:=zH a;have l:=K.XZ;obtain⟨v,C,I⟩:=l.fr _ _ (CC j);refine⟨v,C,k l J λu s L c B=>z s L x y v u d _ Êc (ġf c.g) B a λw Z W O p=>?_⟩;exact q _ _ _ (((ŵ c).go O).Y8 ńb.1 Å p)
#print a
def GH(h:xi)(a:MG):yR:=λβ=>(h β).bind λr=>(ŗc).bind λd=>(a d r.2).bind λβ2=>À Ľb
def z6k{X:Cx}{f:Nat}{tg e:Ñ}{pos:Pos}{h:xi}{g:MG}(u:MC X e h)(b:QK X f tg g)(t:Ê Åm q12)(k:Ê èm q12)(j:Ê ((Íp).map (·.2)=Řp) q12) :MS X f ĭn (GH h g):=by
 obtain⟨y,l,p⟩:=u.h;obtain⟨C,w,o⟩:=b.h;refine⟨⟨_,Go l w t k j,λ{P z I G H β σ A E} x K a q=>?_⟩⟩;obtain⟨⟨m,β1⟩,r,a⟩:=zH a;obtain⟨d,n,b⟩:=zH a;clear a;cases jZ n;obtain⟨β2,s,a⟩:=zH b;cases a;refine p K r λv B J F c=>?_
 exact o x (c.down Řb) c.gu s λσ' i=>q _ _ _ i
open Öa
noncomputable def Ot:D->Í
 |.int i=>decide Őb&&decide żc|.bl _=>Ã|_=>Â
def kF:Á D->Æ D
 | [d]=>match Ot d with
  |Ã=>À Śn|Â=>Ä
 |_=>Ä
def i6(K:Ì):Á V->Hp->VK->Prop:=λa H Q=>∃d v,a=[v]/\za K H d v/\Ot d=Ã/\Q Śn H
def U2{X:Cx}{j:Nat}(o:yo j X.A):wu X Ąo (i6 X.K):=by
 intro n s σ H p m Q I r h;obtain⟨d,v,rfl,c,g,q⟩:=h;obtain⟨u,rfl,f⟩:=uy r;cases d with
 |int i=>
  cases(show v=.int i from c);obtain⟨t,rfl⟩:=f;have a:(decide Őb&&decide żc)=Ã:=g;rw[Ē]at a;have w:=Ŋ a.1;have l:=Ŋ a.2
  have k:Ùj<1920:=by
   have:Ąd<2 ^ 70:=by
    have e:(2:Nat) ^ 70=1180591620717411303424:=by decide
    omega
   by_cases z:Ąd=0;rw[z];decide;exact ĉg ((ķn z).mpr this) É
  exact P.repr_of_int k ⟨.str _,H,Ãa _,⟨_,rfl⟩,q⟩
 |bl b=>cases(show v=.bl b from c);cases(show u=.bool b from f);exact P.repr_of_bool ⟨.str _,H,Ãa _,⟨_,rfl⟩,by cases b<;>exact q⟩|_=>cases g
def UY{K:Ì}:ZE K (i6 K) kF:=λG H f h d Q s r a q=>by
 match f,a with
 | [x],a=>
  change (match Ot x with|Ã=>À (þe (qC x).shown)|Â=>Ä)=À d at a
  cases c:Ot x with
  |Â=>rw[c]at a;cases a|Ã=>
   rw[c]at a;cases a;obtain⟨v,rfl,e⟩:=jo r
   have j:wD x<=20:=by
    cases x with
    |int i=>show(if(decide Őb&&decide żc)=Ã then 20 else 1000000000)<=20;rw[Î (show(decide Őb&&decide żc)=Ã from c)];exact êa _|bl b=>show 5<=20;decide|_=>cases c
   have g:=y7h x Å;refine⟨x,v,rfl,e,c,q _ _ _ Øa ⟨rfl,?_⟩⟩;rw[ť];omega
def Ob(a:Á D->Æ D)(h:xi):xi:=λβ=>(h β).bind λr=>(ŗc).bind λd=>(a [d]).bind λz=>À (.fz z,r.2)
section
variable{X:Cx}{np:Nat}
def dN{x:Str}{p pos:Pos}{j:Áa}{e:Ñ}{h:xi}{f:Á D->Æ D}{k:Á V->Hp->VK->Prop}(O:wu X Ñq k)(G:ZE X.K k f)(F:Gl X x)(R:î x=Ä)(hv:Ř x=À Ñq)(J:MC X e h)(A:Ê Àb q10)(b:Ê ı q10)(P:Ê ([e].all xE=Ã) q12)(n:Ê ĝa q12) :MC X (.Call ĉa [e] [] pos) (Ob f h):=by
 obtain⟨t,Q,B⟩:=J.h;refine⟨⟨_,(Jk O F R hv ⟨Yw Q Wc n⟩ A b P).h,λE a q=>?_⟩⟩;obtain⟨⟨m,β1⟩,s,a⟩:=zH a;obtain⟨d,u,a⟩:=zH a;cases jZ u;obtain⟨z,I,a⟩:=zH a;cases a;refine B E s λv C L H i=>?_
 have r:=i.gu;have c:=i.down ēa;exact G C L [d] [v] _ _ c.ext.gh ⟨v,[],rfl,ĥa c.ext.gh,rfl⟩ I λw N y l o=>q w N y (H.trans l.g) ((c.go l).Z9 o)
noncomputable def LN(i j k:Nat):MG:=λd β=>match d with
 |.tup [x,y,z]=>À ((śl).set k (À (.fz z)))|_=>Ä
def z6f{i j k:Nat}{x y z:Str}{p1 p2 e pos:Pos}{c:Nat}(h:QG X Ŕl (WB X.K 3 (j5 ċc (j5 (uk j) (j5 (uk k) WA)))))(hi:X.N[i]?=À x)(u:X.N[j]?=À y)(hk:X.N[k]?=À z)(C:np<=i)(L:np<=j)(B:np<=k):QK X np Ŕl (LN i j k):=⟨⟨_,h.h,λ{P A E G H β β' σ d v Q} I K r b q=>by
 unfold LN at b
 split at b;rename_i F R O;cases b;obtain⟨a,S,rfl,o,⟨l,J,rfl,g,⟨f,w,rfl,n,⟨t,m,rfl,p,s⟩⟩⟩,_⟩:=r;cases(show m=[]from s);refine⟨a,_,rfl,vz ña o,rfl,l,_,rfl,f,_,rfl,t,_,rfl,rfl,?_⟩;exact q _ (((K.Y8 ńb.1 Å g).Y8 (Ŗ u).1 Å n).Y8 (Ŗ hk).1 Å p);cases b⟩⟩
#print a
section
variable{P:æ}{w:ß}{K:Ì}{mg:Str->Æ Value}{Ç:Heap}
def z5n{x:Str}{st:Õ}{N:Á Str}{k:Nat}{F:FM}{b:yR}{f:È}{i:Ļ}(d:Fun K Ěb Ěb st f i)(S:zk N [x] ń)(j:1<=ſ)(t:∀ms r,F ms=À r->ıa=1/\wX 1 ſ b ms=À r)(e:∀ns:Á Int,Ôa<=63->(∀m∈ns,vw m<=1048576)->∃r,F Ői=À (r,.fz Ō))(n:∀(g:Value)(A:ó)(ÿ:Á Env)(s:Ë)(H:Hp)(E:XK),yo k (Ĵb (Čb Ěb ń Ú f g))->pX (tJ xC P w K mg Ç N Ěb ń f g A ÿ s H E).tW 1 ía b):xL P w K mg Ç xC Œ f i [x] Āl:=
 (d.v.Tf (F:=F) S j t n).imp λB H Q E h=>by obtain⟨a,ns,rfl,u,l,c,q⟩:=h;obtain⟨r,p⟩:=e ns l c;have y:Þ K H ťj óa:=⟨_,_,rfl,⟨a,_,rfl,u,řg,by rw[ç];exact œb Å⟩,rfl⟩;refine y7v ⟨H,_,Â,.bl Ã,ŕa H,y,?_,λv C o _ z=>?_⟩;show(F (j4 ťj)).bind _=_;rw[show j4 ťj=Ői from rfl,p];rfl;cases(show v=.bl Ã from z);exact q o
#print a
noncomputable def Oq:D->D->Æ D
 |.str x,.int j=>match decide (ŀb<=16)&&(decide ĥd&&decide Ůg)with
  |Ã=>À (.str (Ćb x j))|Â=>Ä
 |_,_=>Ä
def i5:V->V->Hp->VK->Prop:=λx y H Q=>∃i j,x=.str i/\y=.int j/\Ĳa<=16/\0<=j/\j<=1000/\Q (.str Šg) H
def eG{X:Cx}:yj X ğg i5:=by intro e s σ H x y v u Q I c d h;obtain⟨i,j,rfl,rfl,a,f,g,q⟩:=h;obtain⟨t,rfl⟩:=c;obtain⟨b,rfl⟩:=d;exact SB.mul (mulOk_of 16 1000 a Å Å É É) λb k=>⟨.str Šg,H,Ãa _,⟨_,rfl⟩,q⟩
def eD{K:Ì}:ue K i5 Oq:=λG H x y u v d Q s e h a q=>by
 cases x<;>first|(cases a;done)|skip
 cases y<;>first|(cases a;done)|skip
 rename_i i j
 change (match decide Ġr&&(decide ĥd&&decide Ůg)with|Ã=>À (þe Šg)|Â=>Ä)=À d at a
 cases c:(decide Ġr&&(decide ĥd&&decide Ůg))with
 |Â=>rw[c]at a;cases a|Ã=>rw[c]at a;cases a;rw[Ē,Ē]at c;have b:=Ŋ c.1;have f:=Ŋ c.2.1;have g:=Ŋ c.2.2;have l:(Šg).length<=16*1000:=áq b Å;exact⟨i,j,e.1,h,b,f,g,q _ _ _ Øa ⟨rfl,by rw[ť];omega⟩⟩
section
variable{X:Cx}{np:Nat}{ļ:õa}{cl:Á Ðb}{own:Á Str}{elt tg Ŕ:Ñ}{ifs:Á Ñ}{pos:Pos}{fs:FA}{g:TG}{fg:FG}{ft:FT}{f:FE}
def z6n{i:Nat}{x:Str}{w b:Pos}(c:ų=Ã)(F:ğa)(j:X.N[i]?=À x)(I:Ļd x=À .local)(B:ZA X ļ cl own)(t:űb Ża (À (.Name x w)) b.line Ô=pure Ã)(hi:SI X tg Ŕ fs)(z:BG X ļ cl own tg g fg)(hc:∀C s H fp pn,YU Ña ifs ft)(Q:∀C s H fp pn,SE Ña elt f)(hs:Ê (∀x,Īb Ŕ Ô x=pure x) q11)(hn:Ê (np<=i) q10) :MS X np (.Assign [.Name x w] Ża b) (vk i (xf Ĭe)):=by
 obtain⟨ti,W,R⟩:=đc;refine⟨⟨_,Gu c F j I B t W (Γb (z.q C s H fp pn)) (Χa (hc C s H fp pn)) (Βb (Q C s H fp pn)) hs,λ{P G0 H0 G H β σ fl E} hP K u q=>?_⟩⟩;obtain⟨⟨m,β1⟩,e,u⟩:=zH u;cases u;obtain⟨d,a,e⟩:=zH e;cases e;obtain⟨ds,Y,a⟩:=zH a;obtain⟨O,L,a⟩:=zH a;cases a;have r:=K.XZ;refine R r Y λJ Ga Ha v l S=>JM S l (ŵ v).XZ L (z.k r.l2 r.l1) λA G1 H1 n U T p y=>?_
 have Z:=((ŵ v).go n).go (Ŋb (o:=.lst A) n.gh y);exact q _ _ _ (Z.Y8 (Ŗ j).1 Å ⟨p,A,rfl,Œb yb,U.mono (vL (n.gh.free y) _),T⟩)
#print a
def iadd_list_road{M:ýe}{A:ó}{E:Value->Ë->Prop}{s:Ë}{a b:Value}{Q:Value->Ë->Prop}(f:Łb a ĝ)(h:Łb b ĝ)(i:Ù M A (Źa Ĥl ÿe) Q E s):Ù M A (Áf .Add a b) Q E s:=by
 have e:=F.slot_list_iadd.lookup;unfold Áf;refine ùb ?_
 have d:ēo Āa Ša (Operator.Add == .Add)=pure Â:=by unfold ēo;show(Őj Āa Įp >>= λg=>pure (g.isSome&&!isSeqSlot g))=pure Â;rw[e];show(pure (Ã&&!isSeqSlot õk):Sem Í)=_;rw[show isSeqSlot õk=Ã by decide +kernel];rfl
 have c:seqSlot? (.type ĝ) Įp=pure õk:=PySem.seqSlot_of e ĥ;refine Ò (Ğe f (Ò (Ðg d ?_)));show Ù M A (if Â=Ã then _ else _) Q E s;rw[Ð ŉ];refine Ò (wpAny_binaryOp1_none (nm := Ša) f h ľo ?_);refine Ò (Ðg c ?_);exact Ò (Őd i)
#print L3
namespace L2
open Ī ĺ Öa ĭ
open PySem.AutoSeq1 in
def z5v(l:È)(c:Ø Value)(n:Nat)(b:È)(a:Ø Value)(n2:Nat)(d2:Æ È)(j:Ø Íb)(p:¬(!c.isEmpty&&ċe (Úl+ì))=Ã)(i:Úl<=á)(f:Úl+ì<=á+1) :Meets (Builtin.«list.__iadd__» ⟨[.ref l,.ref b],[]⟩) (λ_ R s=>ā l=À { cls:=.type ĝ,dict:=Ä,Ą:=.seq c n,Ůc:=#[] }/\ā b=À { cls:=.type ĝ,dict:=d2,Ą:=.seq a n2,Ůc:=j }/\R (.ok (.ret (ą l))) { s with å:=őe l (Àe λx=>x++a),ē:=Č }):=
 .of_wp λm w A R s h=>by
  obtain⟨y,g,d,u,r⟩:=s;obtain⟨k,o,h⟩:=h;have v:=idx_int;have q:=AutoSeq1.sub_tuple_tuple;have B:=AutoSeq1.sub_list_list;have t:=AutoSeq1.sub_tuple_list;have z:=AutoSeq1.sub_list_tuple;have e:(c++a).size<=á+1:=by rw[éo];exact f
  wp_walk using(ŵf k rfl (hz:=i) (_hz':=e)),ļo k,ļo o
  exact⟨_,rfl,h⟩
def y4m(K:Ì):Vu:=λx y H Q=>∃l b xs zs,x=.ref l/\y=.ref b/\H l=À Ğa/\yd K H b zs/\à+Îk<=á/\Q Řc Ţp
def z4h{X:Cx}:QO X .Add (y4m X.K):=by
 intro N s σ H x y v u Q I C B h;obtain⟨l,b,P,O,rfl,rfl,o,A,S,q⟩:=h;cases C;cases B;obtain⟨z,c,n,r,L,e⟩:=I.Td o;obtain⟨a,m,G,_⟩:=Âa A;obtain⟨⟨R,E,J,k⟩,t,f,g,p,i⟩:=G;simp only at g i;subst g i;have w:=žg;have j:Ĵe+Īc<=á:=by rw[ğ,ğ];omega
 have d:¬ ém=Ã:=by rw[GT j,òg];exact ŉ
 refine L3.iadd_list_road ⟨_,e,rfl⟩ ⟨_,f,rfl⟩ (Öd F.slot_list_iadd ⟨_,e,rfl⟩ F.entry_list_iadd (F.args_list_iadd_2 _ _)
  (z5v l ŕg n b ĺb t E k d Ĩi Å) ⟨e,f,?_⟩)
 refine⟨.ref l,_,I.Ba (îb:=c++a) o e â (Ăd m) ?_,rfl,q⟩;rw[í];omega
#print L2
namespace L3
open Ī ĺ Öa ĭ L2
section
variable{X:Cx}{x:Str}{pos ĩa:Pos}{e:Ñ}{f:FE}{i:Nat}
def y78{α:Type}{xs:Á α}{i:Nat}{v:α}(h:xs[i]?=À v):xs.set i v=xs:=by obtain⟨a,rfl⟩:=Ŗ h;exact List.set_getElem_self a
def ID(s:ğa)(hi:X.N[i]?=À x)(v:pW éa x)(B:SE X e f)(a:Ê ża q7) :SS X (.AugAssign ûg .Add e pos) (qD i f):=by
 obtain⟨t,O,k⟩:=B.h;refine⟨⟨_,Gp s hi v O z4h a,λ{P R G H τ σ w E} K a q=>?_⟩⟩;unfold qD at a
 split at a;rename_i j r;obtain⟨y,J,a⟩:=zH a;cases y with
 |lst ys=>
  change (if Œa+Óa<=yY then À (δd (j++ys))else Ä)=À w at a
  by_cases c:Œa+Óa<=yY;rw[Î c]at a;cases a;obtain⟨o,m,g,z,L,I,n,l⟩:=K.ow _ _ r;refine⟨_,m,k K J λu Q S d F=>?_⟩;obtain⟨b,A,rfl,C,p,_⟩:=F;refine⟨o,b,L,A,rfl,rfl,d.h _ _ I,u8 d.gh C,by rw[ăd,p.length,ť];exact c,?_⟩
  change E.nx (List.set σ i (À (čc o))) _
  rw[y78 m];refine q _ _ _ ((ŵ d).Te r m ⟨_,yb,(Ĕj).append p,?_⟩);rw[ť,í];exact c;rw[Ð c]at a;cases a
 |_=>cases a
 cases a
#print a
#print L3
namespace L3
open Ī ĺ ĭ L2
def zQ(K:Ì)(x:Str)(st:Õ):Prop:=
 ∃(f:È) (od an:Æ È) (sl:Ø Íb) (oc kV dc pm cd ct:Value),Ż K Ę x=À ċb/\Àa f=Ou x st oc od sl kV dc pm an cd ct/\źb K cd x=Ã/\ďa K İ=Ã
section
variable{K:Ì}{mg:Str->Æ Value}{h:Heap}{x p0 p1 p2 p3:Str}{st:Õ}{ps:Á Str}
def fnp_mk{f:È}{i d:Æ È}{e:Ø Íb}{g kV h j b ct:Value}(a:Ż K Ę x=À ċb)(l:Àa f=Ou x st g i e kV h j d b ct)(c:źb K b x=Ã)(k:ďa K İ=Ã):zQ K x st:=⟨_,_,_,_,_,_,_,_,_,_,a,l,c,k⟩
def zQ.d(a:zQ K x st)(X:ŕ h)(G:Ţa Ę mg)(b:∀(kV e i:Value)(j:Æ È)(g ct:Value)(us:Á Value),š=ă->Åh (ěd x x ëe ía ń .none kV e i j g ct) ⟨us,[]⟩=pure Ľc):Def K mg x st ps:=by obtain⟨f,n,j,o,m,kV,p,i,q,ct,a,l,c,k⟩:=a;have F:=bm (st:=st) l c k;exact⟨_,_,F,Ďd X G a,F.binds b⟩
abbrev BA(x:Str)(st:Õ)(us:Á Value)(ps:Á Str):Prop:=∀(kV doc pm:Value)(an:Æ È)(cdv ct:Value),Åh (ěd x x ëe ía ń .none kV doc pm an cdv ct) ⟨us,[]⟩=pure Ľc
def zQ.d1(a:zQ K x st)(X:ŕ h)(G:Ţa Ę mg)(b:Ê (∀u,BA x st [u] [p0]) q15):Def K mg x st [p0]:=a.d X G λ_ _ _ _ _ _=>us1 λu=>b u _ _ _ _ _ _
def zQ.d2(a:zQ K x st)(X:ŕ h)(G:Ţa Ę mg)(b:Ê (∀u v,BA x st [u,v] ćf) q15):Def K mg x st ćf:=a.d X G λ_ _ _ _ _ _=>us2 λu v=>b u v _ _ _ _ _ _
def zQ.d3(a:zQ K x st)(X:ŕ h)(G:Ţa Ę mg)(b:Ê (∀u v y,BA x st [u,v,y] ōq) q15):Def K mg x st ōq:=a.d X G λ_ _ _ _ _ _=>us3 λu v y=>b u v y _ _ _ _ _ _
def zQ.d4(a:zQ K x st)(X:ŕ h)(G:Ţa Ę mg)(b:Ê (∀u v y z,BA x st [u,v,y,z] ŕe) q15):Def K mg x st ŕe:=a.d X G λ_ _ _ _ _ _=>us4 λu v y z=>b u v y z _ _ _ _ _ _
def _root_.L2.Def.oS(d:Def K mg x st ps)(P:æ)(w:ß)(a:Heap)(k:Nat)(F:Á D->Æ ä)(S:zk N ps ń)(g:∀ds r,F ds=À r->ď=ă/\yH ſ b ds=À r)(i:∀{f:È}{c:Value}{A:ó}{ÿ:Á Env}{s:Ë}{H:Hp}{E:XK},yo k Ûi->tj (Ŵl).tW ía b)(h:Ê ľg q10):vJ P w K mg a x ps Œ èf:=Def.oJ d S h g λ_ _ _ _ _ _ _ e=>i e
def _root_.L2.Def.oM(d:Def K mg x st ps)(P:æ)(w:ß)(a:Heap)(k:Nat)(F:FM)(S:zk N ps ń)(g:∀ms r,F ms=À r->ıa=ă/\wX ă ſ b ms=À r)(i:∀{f:È}{c:Value}{A:ó}{ÿ:Á Env}{s:Ë}{H:Hp}{E:XK},yo k Ûi->pX (Ŵl).tW ă ía b)(h:Ê ľg q10):vJ P w K mg a x ps Œ Ñh:=Def.Tf d S h g λ_ _ _ _ _ _ _ e=>i e
def wj.oM(d:wj K x q st f fd)(P:æ)(w:ß)(mg:Str->Æ Value)(a:Heap)(k:Nat)(F:FM)(S:zk N ps ń)(h:∀ms r,F ms=À r->ıa=ă/\wX ă ſ b ms=À r)(i:∀{c:Value}{A:ó}{ÿ:Á Env}{s:Ë}{H:Hp}{E:XK},yo k śm->pX (ŵl).tW ă ía b)(g:Ê ľg q10):xL P w K mg a xC Œ f fd ps Ñh:=d.Tf S g h λ_ _ _ _ _ _ e=>i e
def wj.oF(d:wj K x q st f fd)(P:æ)(w:ß)(mg:Str->Æ Value)(a:Heap)(k:Nat)(F:Á D->Æ ä)(S:zk N ps ń)(h:∀ds r,F ds=À r->ď=ă/\yH ſ b ds=À r)(i:∀{c:Value}{A:ó}{ÿ:Á Env}{s:Ë}{H:Hp}{E:XK},yo k śm->tj (ŵl).tW ía b)(g:Ê ľg q10):xL P w K mg a xC Œ f fd ps èf:=d.oI S g h λ_ _ _ _ _ _ e=>i e
#print a
#print L3
namespace L2
open Ī ĺ Öa ĭ
noncomputable def wJ(p:Ö):Int:=numOf p.1
def yX(p q:Ö):Prop:=wJ p<=wJ q
def Wl(p:Ö):Prop:=∃n t,p.1=.int n t
def vp(x:Ø Ö):Prop:=∀(i:Nat) p,x[i]?=À p->Wl p
noncomputable def WC:Í->Ö->Ø Ö->Nat->Nat->Nat->Ň ø Sem ùd:=sortPriv% PySem.Builtin.gallop
noncomputable def dW:Ø Ö->Ø Ö->Ň ø Sem Ōc:=sortPriv% PySem.Builtin.mergeLo
noncomputable def dU:Ø Ö->Ø Ö->Ň ø Sem Ōc:=sortPriv% PySem.Builtin.mergeHi
section
variable{Ě:æ}{w:ß}{A:ó}{E:Value->Ë->Prop}{s:Ë}
def vq{x:Ø Ö}{i:Nat}{p:Ö}{st:ø}{Q}(h:x[i]?=À p)(q:Q p st):wpS è A E s (đa x i) Q st:=by rw[elem'_eq,h];exact ñ q
def ĩd{p q:Ö}{st:ø}{Q:Æ Í->ø->Prop}(hk:ěh st=ßf)(c:Wl p)(d:Wl q)(h:Q (À (decide (wJ p<wJ q))) st):wpS è A E s (lt' p q) Q st:=by obtain⟨⟨a,t,e⟩,⟨b,u,f⟩⟩:=And.intro c d;rw[lt'_eq];refine ã çf;unfold wJ at h;rw[hk,keyLt'_oneType,e,f];rw[e,f]at h;exact ã (ñn (ēi (oneLt_int ⟨rfl,ñ h⟩)))
def Nf(B:Nat->Í)(n hi:Nat):Prop:=hi<=n/\(∀i,i<hi->B i=Ã)/\∀i,hi<=i->i<n->B i=Â
noncomputable def jq(left:Í)(k:Int)(f:Nat->Int)(i:Nat):Í:=if left then decide (f i<k)else !decide (k<f i)
def x5z{left:Í}{a x:Ö}{st:ø}{Q:Æ Í->ø->Prop}(hk:ěh st=ßf)(b:Wl a)(c:Wl x)(h:Q (À (jq left (wJ a) (λ_=>wJ x) 0)) st) :wpS è A E s (if left=Ã then lt' x a else do let y <-lt' a x;pure Żm) Q st:=by
 cases left with
 |Ã=>exact ĩd hk c b h|Â=>exact ã (ĩd hk b c (ñ h))
def Mi{β:Type}{n:Nat}{c:β}{f:Nat->β->Ň ø Sem (āb β)}{st:ø}{Q R:β->ø->Prop}(I:Nat->β->Prop)(h:I 0 c)(a:∀i c,i<n->I i c->wpS è A E s (f i c) (λr st'=>match r with|.done c'=>Q c' st'|.yield c'=>st'=st/\I ê c') st)(b:∀c,I n c->Q c st)(e:∀c st',Q c st'->R c st'):wpS è A E s Êp R st:=by refine će (ęc (I:=λi c st'=>st'=st/\I i c) (Q:=Q) ?_ ?_ ⟨rfl,h⟩) e;rintro i c _ _ d ⟨rfl,h⟩;exact a i c d h;rintro c _ ⟨rfl,h⟩;rw[ċj]at h;exact b c h
def mH{B:Nat->Í}{n lo hi:Nat}{st:ø}{f:Nat->Æ ùd×Nat×Nat->Ň ø Sem (āb (Æ ùd×Nat×Nat))}{R:Æ ùd×Nat×Nat->ø->Prop}(a:∀i j,i<=j->j<n->B j=Ã->B i=Ã)(z:lo<=hi)(v:hi<=n)(I:∀i,i<lo->B i=Ã)(C:∀i,hi<=i->i<n->B i=Â)(G:∀x l r Q,r<=l->Q (.done (Ä,l,r)) st->wpS è A E s ŝo Q st)(y:∀x l r Q,l<r->r<=n->(B ĩg=Ã->Q (.yield (Ä,l+(r-l)/2+1,r)) st)->(B ĩg=Â->Q (.yield (Ä,l,l+(r-l)/2)) st)->wpS è A E s ŝo Q st)(q:∀m,Nf B n m->R (Ä,m,m) st):wpS è A E s (őb [:n] (Ä,lo,hi) f) R st:=by refine Mi (Q:=λc t=>t=st/\∃m,c=(Ä,m,m)/\Nf B n m) (λx c=>∃l r,c=(Ä,l,r)/\l<=r/\r<=n/\r+x<=n+l/\(∀i,i<l->B i=Ã)/\∀i,r<=i->i<n->B i=Â) ⟨lo,hi,rfl,z,v,Áp v āh,I,C⟩ ?_ ?_ ?_;rintro x _ J ⟨l,r,rfl,k,b,H,h,d⟩;by_cases c:r<=l;cases Üd k c;exact G _ _ _ _ c ⟨rfl,l,rfl,b,h,d⟩;have u:=Åa l ((r-l)/2);have p:=òn (Nat.div_lt_self (ĭi Åg) (Øc 1));refine y _ _ _ _ Åg b ?_ ?_<;>(generalize l+(r-l)/2=m at u p ⊢;intro e);exact⟨rfl,_,r,rfl,p,b,by omega,λi o=>a i m (Ŗd o) (Ů p b) e,d⟩;refine⟨rfl,l,_,rfl,u,by omega,by omega,h,λi o F=>?_⟩;cases e2:B i;rfl;rw[a _ i o F e2]at e;cases e;rintro _ ⟨l,r,rfl,k,b,H,h,d⟩;cases Üd k Å;exact⟨rfl,l,rfl,b,h,d⟩;rintro _ _ ⟨rfl,m,rfl,g⟩;exact q m g
def x62{left:Í}{f:Ö}{x:Ø Ö}{b n d:Nat}{st:ø}{Q:Æ Nat->ø->Prop}(hk:ěh st=ßf)(R:Wl f)(O:vp x)(W:b+n<=ąa)(G:d<n)(U:∀i j,i<=j->j<n->K x (b+i)<=K x (b+j))(h:∀hi,Nf ċm n hi->Q (À hi) st) :wpS è A E s (WC left f x b n d) Q st:=by
 have H:∀i Q,i<n->Q (À (jq left ĥf àg i)) st->wpS è A E s (đa x (b+i) >>= λx=>if left=Ã then lt' x f else do let y <-lt' f x;pure Żm) Q st:=by
  intro i Q hi q;have e:x[b+i]?=À x[b+i]:=getElem?_pos _ _ Å;refine ã (vq e (x5z hk R (O _ _ e) ?_));have e2:K x (b+i)=wJ x[b+i]:=by unfold K;rw[e];rfl
  have N:jq left ĥf (λ_=>wJ x[b+i]) 0=jq left ĥf àg i:=by unfold jq;simp only[e2]
  rw[N];exact q
 have k:∀i j,i<=j->j<n->jq left ĥf àg j=Ã->jq left ĥf àg i=Ã:=by intro i j P S;have:=U i j P S;unfold jq;cases left;simp only[Šb,òa,Bool.not_eq_true',decide_eq_false_iff_not];omega;simp only[Ť,ßo];omega
 generalize ċm=B at h H k;unfold WC;refine ã (H d _ G ?_);cases e:B d;refine ã (Mi (Q:=λc F=>F=st/\∃l o,c=(Ä,l,o)/\l<=d/\B (d-l)=Â/\l<o/\∀i,i+o<=d->B i=Ã) (λx c=>∃l o,c=(Ä,l,o)/\l<=d/\B (d-l)=Â/\l<o/\x<o) ⟨0,1,rfl,ęa _,e,łe,łe⟩ ?_ ?_ ?_);rintro x _ O ⟨l,o,rfl,p,t,u,C⟩;dsimp only
 split;exact ñ ⟨rfl,l,o,rfl,p,t,u,λi _=>by omega⟩;have lo:=Ĩb (Nat.sub_le d o) G;refine ã Ĺp;cases e2:B (d-o);exact ñ ⟨rfl,o,_,rfl,by omega,e2,by omega,by omega⟩;exact ñ ⟨rfl,l,o,rfl,p,t,u,λi v=>k i _ (Nat.le_sub_of_add_le v) lo e2⟩;rintro _ ⟨l,o,rfl,p,t,u,C⟩;exact⟨rfl,l,o,rfl,p,t,u,λi _=>by omega⟩;rintro _ _ ⟨rfl,l,o,rfl,p,t,u,C⟩;refine ã (mH (B:=B) (lo:=d+1-min o (d+1)) (hi:=d-l) k (Ġ (Ķn (ŷi ⟨u,ĥc p⟩) _) (äc (Nat.add_sub_add_right ..))) (ða (Ĩb ţb G)) (λi a=>C i (by have:=Nat.add_lt_of_lt_sub a;omega)) (λi v I=>?_) ŉn Ën λm g=>ñ (h m g));cases e2:B i;rfl;rw[k _ i v I e2]at t;cases t;dsimp only;rw[Î c];exact ñ q;dsimp only;rw[Ð Å];refine ã ìp;cases e2:B ĩg;exact ñ (J e2);exact ñ (L e2);refine ã (Mi (Q:=λc F=>F=st/\∃l o,c=(Ä,l,o)/\d+l<n/\B (d+l)=Ã/\l<o/\∀i,d+o<=i->i<n->B i=Â) (λx c=>∃l o,c=(Ä,l,o)/\d+l<n/\B (d+l)=Ã/\l<o/\x<o) ⟨0,1,rfl,G,e,łe,łe⟩ ?_ ?_ ?_);rintro x _ O ⟨l,o,rfl,p,t,u,C⟩;dsimp only
 split;rename_i c
 replace c:=Nat.le_add_of_sub_le c
 exact ñ ⟨rfl,l,o,rfl,p,t,u,λi _ _=>by omega⟩;rename_i c;have lo:=òn Åg;refine ã Ĺp;cases e2:B (d+o);exact ñ ⟨rfl,l,o,rfl,p,t,u,λi v I=>by cases N:B i;rfl;rw[k _ i v I N]at e2;cases e2⟩;exact ñ ⟨rfl,o,_,rfl,lo,e2,by omega,by omega⟩;rintro _ ⟨l,o,rfl,p,t,u,C⟩;exact⟨rfl,l,o,rfl,p,t,u,λi _ _=>by omega⟩;rintro _ _ ⟨rfl,l,o,rfl,p,t,u,C⟩;refine ã (mH (B:=B) (lo:=d+l+1) (hi:=d+min o (n-d)) k (Nat.add_lt_add_left (Nat.lt_min.mpr ⟨u,Nat.lt_sub_of_add_lt (űd .. ▸ p)⟩) _) (Ġ (Ìd (ťh ..) _) (äc (łd (ða G)))) (λi v=>k i (d+l) (Ŗd v) p t) (λi a b=>?_) ŉn Ën λm g=>ñ (h m g));rcases Ċg o (n-d)with z|z;rw[Ńa z]at a;exact C i a b;rw[Ûg z,łd (ða G)]at a;exact Û b (Ŋe a);dsimp only;rw[Î c];exact ñ q;dsimp only;rw[Ð Å];refine ã ìp;cases e2:B ĩg;exact ñ (J e2);exact ñ (L e2)
#print a
structure uT(R:Ö->Ö->Prop)(t o x y:Á Ö):Prop where
 p:(o++Ĥh).Perm t
 sx:(o++x).Pairwise R
 sy:(o++y).Pairwise R
section
variable{R:Ö->Ö->Prop}{t o m x y:Á Ö}
def ìh(h:uT R t o x y):uT R t o y x:=⟨(ÿi o List.perm_append_comm).trans h.p,h.sy,h.sx⟩
def íh(h:uT R t o (m++x) y)(c:∀p∈m,∀q∈y,R p q):uT R t (o++m) x y:=by obtain⟨p,a,b⟩:=h;refine⟨?_,?_,?_⟩;rw[ŗ]at p ⊢;exact p;rw[ŗ];exact a;rw[List.pairwise_append]at a b ⊢;refine⟨?_,b.2.1,λp e q d=>?_⟩;exact ūf ⟨a.1,(Õc a.2.1).1,λp e q d=>a.2.2 p e q (ŉd _ d)⟩;rcases ça e with z|z;exact b.2.2 p z q d;exact c p z q d
def Êl(h:uT R t o x y)(c:∀p∈x,∀q∈y,R p q):(Ōr).Perm t/\(Ōr).Pairwise R:=by have:=(íh (m:=x) (x:=[]) (by rw[ż];exact h) c);exact⟨by rw[ŗ];exact h.p,this.sy⟩
#print a
def éb{p q r:Ö}(a:yX p q)(b:yX q r):yX p r:=Ųd a b
section
variable{Ě:æ}{w:ß}{A:ó}{E:Value->Ë->Prop}{s:Ë}
def Ux{left:Í}{a:Ö}{x:Ø Ö}{b n d:Nat}{st:ø}{Q:Æ Nat->ø->Prop}(hk:ěh st=ßf)(f:Wl a)(t:vp x)(o:b+n<=ąa)(r:d<n){z:Á Ö}(m:(ùp b).take n=z)(q:z.Pairwise yX)(h:∀k,k<=n->(∀p∈z.take k,if left then wJ p<wJ a else yX p a)->(∀p∈z.drop k,if left then yX a p else wJ a<wJ p)->Q (À k) st) :wpS è A E s (WC left a x b n d) Q st:=by
 have u:ŋ=n:=by rw[<-m,èa,Åb,ŭ];omega
 have g:∀i (l:i<ŋ),K x (b+i)=wJ z[i]:=by intro i l;subst m;have e:x[b+i]?=À x[b+i]:=getElem?_pos _ _ Å;unfold K;rw[e,äo,åo,Ŋd];rfl
 refine x62 hk f t o r (λi j v y=>?_) λk c=>h k c.1 (λp f=>?_) λp f=>?_;rw[g i Å,g j Å];by_cases e:i=j;subst e;exact ěa _;exact ĭm q i j _ _ Å;obtain⟨i,l,rfl⟩:=List.mem_take_iff_getElem.mp f;have:=c.2.1 i Å;simp only[jq,g i (show i<ŋ by omega)]at this;cases left;exact Ôd ān;simpa using this;obtain⟨i,l,rfl⟩:=List.mem_drop_iff_getElem.mp f;have:=c.2.2 (k+i) Å Å;simp only[jq,g (k+i) Å]at this;simp only[űd k i]at this ⊢;cases left;simpa using this;exact Ôd ān
def jG{β:Type}(Q I:β->Prop):āb β->Prop
 |.done c=>Q c|.yield c=>I c
abbrev yQ(a:Ø Ö)(p:Ø Ũa)(f:Æ Value)(g:Nat):ø:=Ńc ßf a p g f
def Uw{β:Type}{n:Nat}{c:β}{f:Nat->β->Ň ø Sem (āb β)}{a p fl g}{R:β->ø->Prop}(I:Nat->β->Prop)(Q:β->Prop)(h:I 0 c)(d:∀i c g,i<n->I i c->wpS è A E s (f i c) (λr st'=>∃g',st'=yQ a p fl g'/\jG Q (I ê) r) èj)(e:∀c,I n c->Q c)(b:∀c g,Q c->R c èj):wpS è A E s Êp R èj:=by refine će (ęc (I:=λi c st'=>∃g,st'=yQ a p fl g/\I i c) (Q:=λc st'=>∃g,st'=yQ a p fl g/\Q c) ?_ ?_ ⟨g,rfl,h⟩) ?_;rintro i c _ _ j ⟨g,rfl,h⟩;refine će (d i c g j h) ?_;rintro r _ ⟨g,rfl,h⟩;cases r<;>exact⟨g,rfl,h⟩;rintro c _ ⟨g,rfl,h⟩;rw[ċj]at h;exact⟨g,rfl,e c h⟩;rintro c _ ⟨g,rfl,h⟩;exact b c g h
#print a
def xr(t:Á Ö)(a b o:Ø Ö)(i j:Nat):Prop:=uT yX t Ğk Ăh (įc j)
def u9(t:Á Ö)(r:Ø Ö):Prop:=r.toList.Perm t/\r.toList.Pairwise yX
section
variable{t:Á Ö}{a b o:Ø Ö}{i j k:Nat}{p:Ö}
def C9(h:a[i]?=À p):Áb i=p::Áb ê:=by obtain⟨b,rfl⟩:=Ķd h;rw[Öc Ģn,Ŋd]
theorem xr.swap(h:xr t a b o i j):xr t b a o j i:=ìh h
def xr.pa(h:xr t a b o i j)(e:a[i]?=À p)(c:∀q∈įc j,yX p q):xr t a b Îe ê j:=by unfold xr at h ⊢;rw[C9 e]at h;rw[ĵi];exact íh (m:=[p]) h λq d=>Ċa d▸c
def xr.pb(h:xr t a b o i j)(e:b[j]?=À p)(c:∀q∈Áb i,yX p q):xr t a b Îe i Ùa:=(Ŝo).swap
def xr.ca(h:xr t a b o i j)(c:∀p∈(Ăh).take k,∀q∈įc j,yX p q):xr t a b ãg Ĩd j:=by unfold xr at h ⊢;rw[<-ža k Ăh,źi]at h;rw[şb,Ĥe,ĕe,Űf];exact h.move c
def xr.cb(h:xr t a b o i j)(c:∀p∈(įc j).take k,∀q∈Áb i,yX p q):xr t a b (o++Ąb j (j+k)) i (j+k):=(ðr c).swap
theorem xr.fin(h:xr t a b o i j)(c:∀p∈Áb i,∀q∈įc j,yX p q):u9 t (o++ūb i ì++Ąb j ũ):=by
 have e:∀(x:Ø Ö) k,(Àf k ąa).toList=ùp k:=λx k=>by rw[Ĥe,ĕe];exact Äd (by rw[Åb,ŭ];exact êa _)
 unfold u9;rw[şb,şb,e,e];exact Êl h c
def xr.hd(h:xr t a b o i j)(e:a[i]?=À p):∀q∈Áb i,yX p q:=by unfold xr at h;have:=(Õc h.sx).2.1;rw[C9 e]at this ⊢;intro q c;rcases Ĺ c with rfl|c;exact ěa _;exact(Ġe this).1 q c
def xr.sa(h:xr t a b o i j):(Ăh).Pairwise yX:=äm.2.1
def du(h:i=ì){P:Ö->Prop}:∀p∈Áb i,P p:=by rw[Åd ĳe];intro p b;cases b
def aJ(h:ũ-i=k):(įc i).take k=įc i:=Äd (by rw[Åb,ŭ];omega)
#print a
abbrev lF:=Æ Ōc×Ø Ö×Nat×Nat×Nat
abbrev MI:=Æ Ōc×Ø Ö×Nat×Nat×Nat×Nat
abbrev Y_:=Æ Ōc×Ø Ö×Nat×Nat×Nat×Nat×Nat
structure Wm(t:Á Ö)(a b:Ø Ö)(x:Nat)(o:Ø Ö)(i j:Nat):Prop where
 l:xr t a b o i j
 p:i+1<ì
 q:j<ũ
 s:x<i+j
section
variable(t:Á Ö)(a b:Ø Ö)(x:Nat)
inductive MN:lF->Prop
 |mk {o i j m}:Wm t a b x o i j->MN (Ä,o,i,j,m)
inductive IB:MI->Prop
 |mk {o i j m n}:Wm t a b x o i j->IB (Ä,o,i,j,m,n)
inductive X1:MI->Prop
 |fin {r c}:u9 t r->X1 (À r,c)
 |go {o i j m n}:Wm t a b x o i j->X1 (Ä,o,i,j,m,n)
inductive Uq:Y_->Prop
 |mk {o i j m n q}:Wm t a b x o i j->Uq (Ä,o,i,j,m,n,q)
inductive js:Y_->Prop
 |fin {r c}:u9 t r->js (À r,c)
 |go {o i j m n q}:Wm t a b x o i j->js (Ä,o,i,j,m,n,q)
#print a
def Za{a b:Nat}(h:a<=b)(c:¬(a==b)=Ã):a<b:=ūn h λe=>c (Þd e)
def Yr{a:Nat}(c:¬(a==0)=Ã):∃n,a=n+1:=Nat.exists_eq_succ_of_ne_zero λe=>c (Þd e)
noncomputable def ML(r:Æ Nat)(f:Nat->Ň ø Sem β)(g:Ň ø Sem β):Ň ø Sem β:=(sortPriv% PySem.Builtin.mergeLo.match_1) Žf r f λ_=>g
section
variable(a b:Ø Ö)
noncomputable def Zk(o:Ø Ö)(i j:Nat):Ø Ö:=o++ūb i ì++Ąb j ũ
noncomputable def MH(o:Ø Ö)(i j:Nat):Ø Ö:=o++Ąb j ũ++ūb i ì
def No(o:Ø Ö)(i j g k m:Nat):Ň ø Sem Íh:=do
 let p <-đa a i
 if Źp=Ã then pure (.done (À Ôo,ţ p,i+1,j,g,k,m))
 else if(decide (k<7)&&decide (m<7))=Ã then pure (.done (Ä,ţ p,i+1,j,g,k,m))else pure (.yield (Ä,ţ p,i+1,j,g,k,m))
def Nn(o:Ø Ö)(i j g k u:Nat):Ň ø Sem Íh:=do
 let q <-đa b j
 if ůq=Ã then pure ĵl
 else do
  let p <-đa a i
  let r <-WC Ã p b Ùa (ũ-Ùa) 0
  ML r (λm=>
   if m>0 then
    if(j+1+m==ũ)=Ã then pure (.done (À (Zk a b Ŵm i žk),ţ q++Ąb Ùa žk,i,j+1+m,g,k,m))
    else No a b Ŵm i žk g k m
   else No a b Āh i Ùa g k m) (pure ĵl)
def Nm(o:Ø Ö)(i j n u g:Nat):Ň ø Sem Íh:=do
 ėd λs=>Ńc îd úd šc g çd
 let q <-đa b j
 let r <-WC Â q a i (ì-i) 0
 ML r (λk=>
  if k>0 then
   if(i+k+1==ì)=Ã then pure (Θd (MH a b ãg Ĩd j) Ĩd)
   else if(i+k==ì)=Ã then pure (Θd (Zk a b ãg Ĩd j) Ĩd)
   else Nn a b ãg Ĩd j g k u
  else Nn a b o i j g k u) (pure (.done (À ög,o,i,j,g,n,u)))
noncomputable def IA(r:Æ α)(f:α->Ň ø Sem β)(g:Ň ø Sem β):Ň ø Sem β:=Break.runK.match_1 Žf r f λ_=>g
noncomputable def lI(r:Æ Í)(f:Í->Ň ø Sem β)(g:Ň ø Sem β):Ň ø Sem β:=(sortPriv% PySem.Builtin.countRun.match_1) Žf r f λ_=>g
def lL(o:Ø Ö)(i j g m n:Nat):Ň ø Sem (āb MI):=do
 let q <-đa b j
 let p <-đa a i
 let r <-lt' q p
 lI r (λt=>
  if t=Ã then do
   let q <-đa b j
   if ůq=Ã then pure (.done (À (Zk a b Āh i Ùa),ţ q,i,j+1,0,n+1))
   else if n+1≥g then pure (.done (Ä,ţ q,i,j+1,0,n+1))else pure (.yield (Ä,ţ q,i,j+1,0,n+1))
  else do
   let p <-đa a i
   if Źp=Ã then pure (.done (À Ôo,ţ p,i+1,j,m+1,0))
   else if m+1≥g then pure (.done (Ä,ţ p,i+1,j,m+1,0))else pure (.yield (Ä,ţ p,i+1,j,m+1,0))) (pure (.done (À ög,o,i,j,m,n)))
def y80(x:Y_):Ň ø Sem Íh:=if x.2.2.2.2.1>1 then Nm a b x.2.1 x.2.2.1 x.2.2.2.1 x.2.2.2.2.2.1 x.2.2.2.2.2.2 (x.2.2.2.2.1-1)else Nm a b x.2.1 x.2.2.1 x.2.2.2.1 x.2.2.2.2.2.1 x.2.2.2.2.2.2 x.2.2.2.2.1
def y81(o:Ø Ö)(i j g:Nat):Ň ø Sem (āb lF):=do
 let d <-őb [:ì+ũ] ((Ä,o,i,j,0,0):MI) λ_ d=>lL a b d.2.1 d.2.2.1 d.2.2.2.1 g d.2.2.2.2.1 d.2.2.2.2.2
 IA d.1 ĺl do
  liftM Šm
  let e <-őb [:ì+ũ] ((Ä,d.2.1,d.2.2.1,d.2.2.2.1,g+1,d.2.2.2.2.1,d.2.2.2.2.2):Y_) λ_ e=>y80 a b e
  IA e.1 īl do
   ėd λs=>Ńc îd úd šc ţo çd
   pure łl
#print a
def YX(x:Ø Ö)(i:Nat)(h:i<ąa):∃p,x[i]?=À p:=⟨_,getElem?_pos x i h⟩
section
variable{t:Á Ö}{a b:Ø Ö}(hl:∀q∈Ćd,∀p∈Áb Ąh,yX q p)
include hl in
theorem xr.lst{o i j}(l:xr t a b o i j)(e:i+1=ì):u9 t (MH a b o i j):=ŀq λq d p c=>hl q (List.drop_subset _ _ d) p (by rw[show ì-1=i by omega];exact c)
def xr.da{o i j}(l:xr t a b o i j)(e:i=ì):u9 t ög:=ĺh (du e)
def xr.db{o i j}(l:xr t a b o i j)(e:j=ũ):u9 t ög:=ĺh λp c=>du e
#print a
section
variable{Ě:æ}{w:ß}{A:ó}{E:Value->Ë->Prop}{s:Ë}
def xS{α:Type}{c:Prop}[ăr c]{m n:Ň ø Sem α}{Q:α->ø->Prop}{st:ø}(a:c->wpS è A E s m Q st)(b:¬c->wpS è A E s n Q st):wpS è A E s (if c then m else n) Q st:=by by_cases h:c;rw[Î h];exact a h;rw[Ð h];exact b h
section
variable{t:Á Ö}{a b:Ø Ö}(ha:vp a)(hb:vp b)(hl:∀q∈Ćd,∀p∈Áb Ąh,yX q p){a0:Ø Ö}{p0:Ø Ũa}{f0:Æ Value}{x y g m k u:Nat}{o:Ø Ö}{i j:Nat}{p q:Ö}
include hl in
theorem mO(l:xr t a b o i j)(ep:a[i]?=À p)(c:∀r∈įc j,yX p r)(e:i+1<ì)(d:j<ũ)(h:x<=i+j)(f:y<=x):wpS è A E s (No a b o i j g k m) (ζ (js t a b y) (Uq t a b x)) Ĭc:=by
 replace l:=l.pa ep c
 refine ã (vq ep (ξ (γb âp)))
 replace c:=Za e c
 exact xS (λ_=>ñ ⟨g,rfl,js.go ⟨l,c,d,by omega⟩⟩) λ_=>ñ ⟨g,rfl,Uq.mk ⟨l,c,d,by omega⟩⟩
include ha hb hl in
theorem mN(l:xr t a b o i j)(h:b[j]?=À q)(c:∀r∈Áb i,yX q r)(f:i+1<ì)(G:x<i+j+1)(e:y<=x):wpS è A E s (Nn a b o i j g k u) æm Ĭc:=by
 have C:=(Ķd h).1
 replace l:=l.pb h c
 refine ã (vq h (ξ (γb (l.db Ãb))))
 replace c:=Za C c
 replace e:=įi e
 obtain⟨p,d⟩:=YX a i (Òd f);refine ã (vq d (ã (Ux rfl (ha _ _ d) hb ōo (ĭi c) (aJ rfl) ìr λm n e1 e2=>?_)));rw[źi]at e2
 replace n:j+1+m<=ũ:=űd .. ▸ Ďn Ċd n
 refine xS Ŭg λF=>?_;have v:=l.cb λp B r z=>éb (þa (e1 p B)) (l.hd d r z)
 refine xS (γb (v.db Ãb)) λc=>mO hl v d e2 f (Za n c) Å e;cases źh F;exact mO hl l d e2 f c G e
include ha hb hl in
theorem mM(l:xr t a b o i j)(z:i+1<ì)(I:j<ũ)(K:x<i+j)(B:y<=x){n C:Nat}:wpS è A E s (Nm a b o i j n u g) æm (yQ a0 p0 f0 C):=by
 obtain⟨q,e⟩:=YX b j I;have h:=Òd z;refine ã (Αa (ã (vq e (ã (Ux rfl Űq ha (äc (łd (ða h))) (ĭi h) (aJ rfl) l.sa λk v H d=>?_)))));rw[źi]at d
 replace d:=λp m=>þa (d p m)
 replace v:i+k<=ì:=űd .. ▸ Ďn (ða h) v
 refine xS Ŭg λc=>?_;have f:=l.ca λp m r F=>éb (H p m) (Œg e r F)
 refine xS (Ιd (f.lst hl Ãb)) λJ=>xS (Ιd (f.da Ãb)) λG=>mN ha hb hl f e d (Za (Za v G) J) Å B;cases źh c;exact mN ha hb hl l e d z (ŕd K) B
include ha hb hl in
theorem x65(l:Wm t a b x o i j)(B:y<=x+1){n:Nat}:wpS è A E s (lL a b o i j g m n) (ζ (X1 t a b y) (IB t a b Ġb)) ëg:=by
 obtain⟨l,h,k,z⟩:=l;obtain⟨p,f⟩:=YX a i (Òd h);obtain⟨q,e⟩:=YX b j k;refine ã (vq e (ã (vq f (ã (ĩd rfl Űq (ha _ _ f) ?_)))));by_cases c:wJ q<wJ p;rw[ï c];have d:=l.pb e λr v=>éb (þa c) (l.hd f r v)
 refine ã (vq e (ωc Ųq))
 replace c:=Za k c
 exact xS (λ_=>ñ ⟨_,rfl,X1.go ⟨d,h,c,by omega⟩⟩) λ_=>ñ ⟨_,rfl,IB.mk ⟨d,h,c,Ęo z⟩⟩;rw[ć c];have d:=l.pa f λr v=>éb ũk (Œg e r v)
 refine ã (vq f (ωc æp))
 replace c:=Za h c
 exact xS (λ_=>ñ ⟨_,rfl,X1.go ⟨d,c,k,by omega⟩⟩) λ_=>ñ ⟨_,rfl,IB.mk ⟨d,c,k,by omega⟩⟩
include ha hb hl in
theorem x66(l:Wm t a b x o i j):wpS è A E s (y81 a b o i j g) (ζ Śf (MN t a b Ġb)) ëg:=by refine ã (Αb (λz=>IB t a b (x+z)) (X1 t a b Ġb));rintro z _ g m ⟨l⟩;exact x65 ha hb hl l ŏo;rintro _ ⟨_,d,e,h⟩;omega;rintro _ g (⟨f⟩|⟨l⟩);exact ñ ⟨g,rfl,_,rfl,f⟩;refine ã (Οa (Αb (λz=>Uq t a b (x+1+z)) (js t a b Ġb)));rintro z _ g m ⟨l,d,e,h⟩;have k:=Åa Ġb z;exact xS (λ_=>mM ha hb hl l d e h k) λ_=>mM ha hb hl l d e h k;rintro _ ⟨_,d,e,h⟩;omega;rintro _ g (⟨f⟩|⟨l⟩);exact ñ ⟨g,rfl,_,rfl,f⟩;exact ã (Αa (ñ ⟨_,rfl,MN.mk l⟩))
#print a
def x69{a b:Ø Ö}{a0 p0 f0 g}{t:Á Ö}{Q:Ø Ö->ø->Prop}(o:vp a)(k:vp b)(v:0<ì){y:Ö}(j:b[0]?=À y)(d:xr t a b #[y] 0 1)(i:∀q∈Ćd,∀p∈Áb Ąh,yX q p)(h:∀r g,u9 t r->Q r Ĭc):wpS è A E s (dW a b) Q Ĭc:=by have m:0<ũ:=(Ķd j).1;unfold dW;refine ã (Οa (vq j (xS (ξb Ųq) λu=>xS Łn λn=>?_)));refine ã (Νc (Uw (λx=>MN t a b x) Śf ⟨d,Za v n,Za m u,Nat.one_pos⟩ ?_ ?_ ?_));rintro x _ g F ⟨l⟩;exact x66 o k i l;rintro _ ⟨_,z,B,C⟩;omega;rintro⟨q,c⟩ g ⟨r,e,f⟩;cases e;exact ñ ŏr
#print a
def xz(t:Á Ö)(a b o:Ø Ö)(i j:Nat):Prop:=uT (λp q=>yX q p) t Ğk (ĉf).reverse (Ŭk).reverse
section
variable{t:Á Ö}{a b o:Ø Ö}{i j k:Nat}{p:Ö}
def Nw(h:a[i]?=À p):īb ê=īb i++[p]:=by obtain⟨b,rfl⟩:=Ķd h;rw[ĉe Ģn,Ŋd]
theorem xz.swap(h:xz t a b o i j):xz t b a o j i:=ìh h
def xz.pa(h:xz t a b o ê j)(e:a[i]?=À p)(c:∀q∈ác j,yX q p):xz t a b Îe i j:=by unfold xz at h ⊢;rw[Nw e,Ĕi]at h;rw[ĵi];exact íh (m:=[p]) h λq f r d=>Ċa f▸c r Ŧk
def xz.pb(h:xz t a b o i Ùa)(e:b[j]?=À p)(c:∀q∈īb i,yX q p):xz t a b Îe i j:=(Ŝo).swap
def xz.ca(h:xz t a b o i j)(hk:k<=i)(c:∀p∈(ĉf).drop k,∀q∈ác j,yX q p):xz t a b ùi k j:=by unfold xz at h ⊢;rw[<-ža k ĉf,Ĕi,Źi,Ńa hk]at h;rw[şb,đn,Ĥe,ĕe,<-List.drop_take];exact h.move λp e r d=>c p (Űh e) r Ŧk
def xz.cb(h:xz t a b o i j)(hk:k<=j)(c:∀p∈(Ŭk).drop k,∀q∈īb i,yX q p):xz t a b (o++(Ąb k j).reverse) i k:=(ðr hk c).swap
theorem xz.fin(h:xz t a b o i j)(c:∀p∈īb i,∀q∈ác j,yX p q):u9 t (ūb 0 i++Ąb 0 j++Ñk):=by
 have e:∀(x:Ø Ö) k,(Àf 0 k).toList=x.toList.take k:=λx k=>by rw[Ĥe,ĕe];rfl
 have:=Êl (ìh h) λq g p d=>c p Ŧk q (Űh g)
 unfold u9;rw[şb,şb,e,e,đn]
 have f:(Ğk++(Ŭk).reverse++(ĉf).reverse).reverse=īb i++ác j++o.toList.reverse:=by simp only[Ĕi,List.reverse_reverse,ŗ]
 rw[<-f];exact⟨(İi _).trans this.1,Øi this.2⟩
def xz.sa(h:xz t a b o i j):(ĉf).Pairwise yX:=List.pairwise_reverse.mp äm.2.1
def xz.hd(h:xz t a b o ê j)(e:a[i]?=À p):∀q∈īb ê,yX q p:=by have:=h.sa;rw[Nw e]at this ⊢;intro q c;rcases ça c with c|c;exact(Õc this).2.2 q c p Ŏ;rw[Ċa c];exact ěa _
def dm(h:i=0){P:Ö->Prop}:∀p∈īb i,P p:=by subst h;intro p b;cases b
#print a
abbrev Up:=Æ Ōc×Nat×Nat×Ø Ö×Nat×Nat×Nat
abbrev lG:=Æ Ōc×Nat×Nat×Ø Ö×Nat
abbrev MJ:=Æ Ōc×Nat×Nat×Ø Ö×Nat×Nat
structure X2(t:Á Ö)(a b:Ø Ö)(x:Nat)(o:Ø Ö)(i j:Nat):Prop where
 l:xz t a b o ê Ăe
 p:i<ì
 q:j+1<ũ
 s:x+i+j+3<ì+ũ
section
variable(t:Á Ö)(a b:Ø Ö)(x:Nat)
inductive MO:lG->Prop
 |mk {o i j m}:X2 t a b x o i j->MO (Ä,i+1,j+2,o,m)
inductive IC:MJ->Prop
 |mk {o i j m n}:X2 t a b x o i j->IC (Ä,i+1,j+2,o,m,n)
inductive X4:MJ->Prop
 |fin {r c}:u9 t r->X4 (À r,c)
 |go {o i j m n}:X2 t a b x o i j->X4 (Ä,i+1,j+2,o,m,n)
inductive Ur:Up->Prop
 |mk {o i j m n q}:X2 t a b x o i j->Ur (Ä,i+1,j+2,o,m,n,q)
inductive ju:Up->Prop
 |fin {r c}:u9 t r->ju (À r,c)
 |go {o i j m n q}:X2 t a b x o i j->ju (Ä,i+1,j+2,o,m,n,q)
#print a
section
variable(a b:Ø Ö)
noncomputable def Zl(o:Ø Ö)(i j:Nat):Ø Ö:=ūb 0 i++Ąb 0 j++Ñk
noncomputable def MM(o:Ø Ö)(i j:Nat):Ø Ö:=Ąb 0 j++ūb 0 i++Ñk
def Nl(o:Ø Ö)(i j g k m:Nat):Ň ø Sem įk:=do
 let p <-đa a ļf
 if(i-1==0)=Ã then pure (.done (À ĥn,i-1,j,ţ p,g,k,m))
 else if(decide (k<7)&&decide (m<7))=Ã then pure (.done (Ä,i-1,j,ţ p,g,k,m))else pure (.yield (Ä,i-1,j,ţ p,g,k,m))
def Nk(o:Ø Ö)(i j g k u:Nat):Ň ø Sem įk:=do
 let q <-đa b ìb
 if(j-1==1)=Ã then pure (Εd èn)
 else do
  let p <-đa a ļf
  let r <-WC Ã p b 0 ìb (j-1-1)
  ML r (λm=>
   if j-1-m>0 then
    if(m==1)=Ã then pure (υc (MM a b Ài i m) Čq)
    else if(m==0)=Ã then pure (υc (Zl a b Ài i m) Čq)
    else Nl a b Ài i m g k (j-1-m)
   else Nl a b Āh i ìb g k (j-1-m)) (pure (Εd (Zl a b Āh i ìb)))
def Nj(o:Ø Ö)(i j n u g:Nat):Ň ø Sem įk:=do
 ėd λs=>Ńc îd úd šc g çd
 let q <-đa b ìb
 let r <-WC Â q a 0 i ļf
 ML r (λk=>
  if i-k>0 then
   if(k==0)=Ã then pure (.done (À (Zl a b ùi k j),k,j,o++(ūb k i).reverse,g,i-k,u))
   else Nk a b ùi k j g (i-k) u
  else Nk a b o i j g (i-k) u) (pure (.done (À õg,i,j,o,g,n,u)))
def lK(o:Ø Ö)(i j g m n:Nat):Ň ø Sem (āb MJ):=do
 let q <-đa b ìb
 let p <-đa a ļf
 let r <-lt' q p
 lI r (λt=>
  if t=Ã then do
   let p <-đa a ļf
   if(i-1==0)=Ã then pure (.done (À ĥn,i-1,j,ţ p,m+1,0))
   else if m+1≥g then pure (.done (Ä,i-1,j,ţ p,m+1,0))else pure (.yield (Ä,i-1,j,ţ p,m+1,0))
  else do
   let q <-đa b ìb
   if(j-1==1)=Ã then pure (.done (À èn,i,j-1,ţ q,0,n+1))
   else if n+1≥g then pure (.done (Ä,i,j-1,ţ q,0,n+1))else pure (.yield (Ä,i,j-1,ţ q,0,n+1))) (pure (.done (À õg,i,j,o,m,n)))
def y7z(o:Ø Ö)(i j g:Nat):Ň ø Sem (āb lG):=do
 let d <-őb [:ì+ũ] ((Ä,i,j,o,0,0):MJ) λ_ d=>lK a b d.2.2.2.1 d.2.1 d.2.2.1 g d.2.2.2.2.1 d.2.2.2.2.2
 IA d.1 ĺl do
  liftM Šm
  let e <-őb [:ì+ũ] ((Ä,d.2.1,d.2.2.1,d.2.2.2.1,g+1,d.2.2.2.2.1,d.2.2.2.2.2):Up) λ_ e=>if e.2.2.2.2.1>1 then Nj a b e.2.2.2.1 e.2.1 e.2.2.1 e.2.2.2.2.2.1 e.2.2.2.2.2.2 (e.2.2.2.2.1-1)else Nj a b e.2.2.2.1 e.2.1 e.2.2.1 e.2.2.2.2.2.1 e.2.2.2.2.2.2 e.2.2.2.2.1
  IA e.1 īl do
   ėd λs=>Ńc îd úd šc ţo çd
   pure łl
#print a
section
variable{Ě:æ}{w:ß}{A:ó}{E:Value->Ë->Prop}{s:Ë}
section
variable{t:Á Ö}{a b:Ø Ö}(ha:vp a)(hb:vp b)(hl:∀q∈Æh,∀p∈ác 1,yX p q){a0:Ø Ö}{p0:Ø Ũa}{f0:Æ Value}{x y g m k u:Nat}{o:Ø Ö}{i j:Nat}{p:Ö}
include hl in
theorem xz.lst(l:xz t a b o i j)(e:j=1):u9 t (MM a b o i j):=ŀq λq d p c=>hl p (List.take_subset _ _ c) q (e▸d)
def xz.da(l:xz t a b o i j)(e:i=0):u9 t õg:=ĺh (dm e)
def xz.db(l:xz t a b o i j)(e:j=0):u9 t õg:=ĺh λp c=>dm e
def mL(l:xz t a b o ê j)(ep:a[i]?=À p)(c:∀r∈ác j,yX r p)(f:2<=j)(d:j<=ũ)(q:x+i+j<ì+ũ)(h:y<=x):wpS è A E s (Nl a b o ê j g k m) Ąm Ĭc:=by
 have e:=(Ķd ep).1
 replace l:=l.pa ep c
 refine ã (vq ep (ξ (υa (l.da Ãb))));obtain⟨i,rfl⟩:=Yr c;obtain⟨j,rfl⟩:∃n,j=n+2:=⟨j-2,(įe f).symm⟩;exact xS (λ_=>ñ ⟨g,rfl,ju.go ⟨l,Òd e,d,by omega⟩⟩) λ_=>ñ ⟨g,rfl,Ur.mk ⟨l,Òd e,d,by omega⟩⟩
include ha hb hl in
theorem mK(l:xz t a b o ê Ăe)(B:b[j+1]?=À q)(c:∀r∈īb ê,yX r q)(I:i<ì)(J:x+i+j+1<ì+ũ)(C:y<=x):wpS è A E s (Nk a b o ê Ăe g k u) Ąm Ĭc:=by
 have f:=(Ķd B).1
 replace l:=l.pb B c
 refine ã (vq B (ξ (υa âp)));obtain⟨j,rfl⟩:=Yr (a:=j) λe=>c äi
 obtain⟨p,h⟩:=YX a i I
 replace f:=ða f
 refine ã (vq h (ã (Ux rfl (ha _ _ h) hb (show 0+(j+1+1)<=ũ from(ůk).symm▸f) Ċf (z:=ác (j+1+1)) rfl ìr λm d e1 e2=>?_)))
 replace d:m<=j+1+1:=d
 rw[Źi,Ńa d]at e1
 replace e1:=λp v=>þa (e1 p v)
 refine xS Ŭg λc=>?_;have n:=l.cb d λp v r H=>éb (l.hd h r H) (e2 p v)
 exact xS (υa (n.lst hl Ãb)) λG=>xS (υa (n.db Ãb)) λF=>by
  obtain⟨m,rfl⟩:=Yr F;obtain⟨m,rfl⟩:=Yr (a:=m) λe=>G äi
  exact mL n h e1 ħn (Ġ d f) Å C
 cases Üd d čm;exact mL l h e1 ħn f Å C
include ha hb hl in
theorem mI(l:X2 t a b x o i j)(e:y<=x){n B:Nat}:wpS è A E s (Nj a b o ê Ăe n u g) (ζ (ju t a b y) (Ur t a b Ġb)) (yQ a0 p0 f0 B):=by
 obtain⟨l,m,G,I⟩:=l;obtain⟨q,d⟩:=YX b Ùa G
 replace e:=įi e
 refine ã (Δd (vq d (ã (Ux rfl (hb _ _ d) ha (show 0+ê<=ì from(ůk).symm▸m) Ċf (z:=īb ê) rfl l.sa λk f h H=>?_))));rw[Źi,Ńa f]at h;refine xS Ŭg λc=>?_;have v:=l.ca f λp F r C=>éb (Œg d r C) (þa (H p F))
 refine xS (λc=>ñ ⟨_,rfl,ju.fin (v.da Ãb)⟩) λc=>?_
 obtain⟨k,rfl⟩:=Yr c;exact mK ha hb hl v d h (Ġ f m) Å e;cases Üd f čm;exact mK ha hb hl l d h m Å e
include ha hb hl in
theorem x63(l:X2 t a b x o i j)(B:y<=x+1){n:Nat}:wpS è A E s (lK a b o ê Ăe g m n) (ζ (X4 t a b y) (IC t a b Ġb)) ëg:=by
 obtain⟨l,h,f,C⟩:=l;obtain⟨p,v⟩:=YX a i h;obtain⟨q,k⟩:=YX b Ùa f;refine ã (vq k (ã (vq v (ã (ĩd rfl (hb _ _ k) (ha _ _ v) ?_)))));by_cases c:wJ q<wJ p;rw[ï c];have d:=l.pa v λr z=>éb (Œg k r z) (þa c)
 refine ã (vq v (ψc ųq));obtain⟨i,rfl⟩:=Yr c
 replace h:=Òd h
 exact xS ŋl λ_=>ñ ⟨_,rfl,IC.mk ⟨d,h,f,by omega⟩⟩;rw[ć c];have d:=l.pb k λr z=>éb (l.hd v r z) ũk
 refine ã (vq k (ψc æp));obtain⟨j,rfl⟩:=Yr (a:=j) λe=>c äi
 replace f:=Òd f
 exact xS ŋl λ_=>ñ ⟨_,rfl,IC.mk ⟨d,h,f,by omega⟩⟩
include ha hb hl in
theorem x64(l:X2 t a b x o i j):wpS è A E s (y7z a b o ê Ăe g) (ζ Śf (MO t a b Ġb)) ëg:=by refine ã (Αb (λz=>IC t a b (x+z)) (X4 t a b Ġb));rintro z _ g e ⟨l⟩;exact x63 ha hb hl l ŏo;rintro _ ⟨l,_,_,z⟩;omega;rintro _ g (⟨f⟩|⟨l⟩);exact ñ ⟨g,rfl,_,rfl,f⟩;refine ã (Οa (Αb (λz=>Ur t a b (x+1+z)) (ju t a b Ġb)));rintro z _ g e ⟨l⟩;have d:=Åa Ġb z;exact xS (λ_=>mI ha hb hl l d) λ_=>mI ha hb hl l d;rintro _ ⟨l,_,_,z⟩;omega;rintro _ g (⟨f⟩|⟨l⟩);exact ñ ⟨g,rfl,_,rfl,f⟩;exact ã (Αa (ñ ⟨_,rfl,MO.mk l⟩))
#print a
def x68{a b:Ø Ö}{a0 p0 f0 g}{t:Á Ö}{Q:Ø Ö->ø->Prop}(u:vp a)(j:vp b)(m:0<ũ){y:Ö}(k:a[ì-1]?=À y)(d:xz t a b #[y] Ąh ũ)(i:∀q∈Æh,∀p∈ác 1,yX p q)(h:∀r g,u9 t r->Q r Ĭc):wpS è A E s (dU a b) Q Ĭc:=by
 unfold dU;refine ã (Οa (vq k (xS (ξb ųq) λv=>xS Łn λo=>?_)));obtain⟨n,e1⟩:=Yr v;obtain⟨C,e2⟩:∃n,ũ=n+2:=⟨ũ-2,(įe (ūn m λe=>o (Þd Ĝf))).symm⟩;have B:ì=n+2:=by omega
 rw[e1,e2]at d;refine ã (Νc (Uw (λx=>MO t a b x) Śf (by rw[e1,e2];exact⟨d,by omega,by omega,by omega⟩) ?_ ?_ ?_));rintro x _ g F ⟨l⟩;exact x64 u j i l;rintro _ ⟨l,_,_,z⟩;omega;rintro⟨q,c⟩ g ⟨r,e,f⟩;cases e;exact ñ ŏr
#print a
def jt(x:Ø Ö)(l n:Nat):Prop:=∀i j,i<=j->j<n->K x (l+i)<=K x (l+j)
def lH(x:Ø Ö):Prop:=∀i j,i<ąa->j<ąa->K x i=K x j->i=j
def y7g(h:jt x l n)(c:n=0\/K x (l+n-1)<=K x (l+n)):jt x l ķ:=by
 intro i j a b;by_cases e:j<n;exact h i j a e;obtain rfl:j=n:=by omega
 by_cases e2:i=j;rw[e2];exact ěa _;have:=h i ìb Å Å;rw[show l+ìb=l+j-1 by omega]at this;exact Ųd this (žo Å)
section
variable{Ě:æ}{w:ß}{A:ó}{E:Value->Ë->Prop}{s:Ë}
def Uy{i j p f g}(c:vp x)(hi:i<ąa)(d:j<ąa)(h:Q (À (decide (K x i<K x j))) ìc):wpS è A E s (ltAt' i j) Q ìc:=by have a:x[i]?=À x[i]:=getElem?_pos x i hi;have b:x[j]?=À x[j]:=getElem?_pos x j d;rw[ltAt'_eq];refine ã (Νc (vq a (ã (vq b (ĩd rfl (c _ _ a) (c _ _ b) ?_)))));unfold K at h;rw[a,b]at h;exact h
def mG{x:Ø Ö}{a lo n p f g}{F:Nat->Æ ùd×Nat->Ň ø Sem (āb (Æ ùd×Nat))}{R:Æ ùd×Nat->ø->Prop}(l:1<=a)(b:a<=n)(i:jt x lo a)(k:∀y m Q,1<=m->m<n->(K x ġd<K x Ýe->Q (.done (Ä,m)) ìc)->(¬ K x ġd<K x Ýe->Q (.yield (Ä,m+1)) ìc)->wpS è A E s (F y (Ä,m)) Q ìc)(h:∀m,a<=m->m<=n->jt x lo m->(m=n\/K x ġd<K x Ýe)->R (Ä,m) ìc):wpS è A E s (őb [a:n] (Ä,a) F) R ìc:=by refine ęc (I:=λy c st=>st=yQ x p f g/\c=(Ä,y)/\jt x lo y) ?_ ?_ ⟨rfl,rfl,i⟩;rintro y _ _ e j ⟨rfl,rfl,d⟩;exact k _ _ _ Å j (λc=>h y e Å d (.inr c)) λc=>⟨rfl,rfl,y7g d (.inr ũk)⟩;rintro _ _ ⟨rfl,rfl,d⟩;rw[Ŋi b]at d ⊢;exact h n b Ċ d ĳ
def dY{lo m j:Nat}(h:j<m):lo+ġd-1-öl=lo+(m-1-j):=by rw[ñq,ñq,Nat.add_left_comm 1,Nat.add_sub_add_left,Nat.add_sub_assoc (by rw[űd];exact h)]
theorem x61{x:Ø Ö}{lo n p f g}{Q:Æ Nat->ø->Prop}(r:vp x)(F:lH x)(P:lo+n=ąa)(H:1<=n)(h:∀m y,áb x->(∀k,k<lo->y[k]?=x[k]?)->1<=m->m<=n->jt y lo m->Q Ýb ũp):wpS è A E s (ùr lo n) Q ìc:=by
 unfold ùr;refine ã (mG (lo:=lo) (êa 1) H (λi j a b=>by rw[show i=j by omega];exact ěa _) ?_ ?_);intro y m Q a b u z;refine ã ŀi;by_cases c:K x ġd<K x Ýe;simp only[c,ÿa,Ť];exact ñ (u c);simp only[c,ćg,Šb,òa];exact ñ (z c);intro m a b q c;refine xS (λe=>ñ (h m x ţk Ēj a b q)) λe=>?_
 replace c:=žo ûb
 replace b:m<n:=by simp at e;omega
 refine xS (λe=>?_) λe=>?_;refine ã ŀi
 have:K x lo<K x Ýe:=by have v:=q 0 (m-1) Å (by dsimp only at e;omega);rw[show lo+(m-1)=lo+m-1 by omega,őp]at v;have G:=F lo Ýe Å Å;dsimp only at e;omega
 simp only[this,ÿa,Ť];exact ñ (h m x ţk Ēj a Å q);obtain rfl:m=1:=by dsimp only at e;omega
 refine ã (ñn (Őd ⟨rfl,?_⟩));refine ã (ιa (ęc (I:=λy c st=>st=yQ x p f g/\c=(Ä,y,0)/\∀i j,i<=j->j<y->K x öl<=K x åb) (Q:=λc st=>st=yQ x p f g/\∃m,c=(Ä,m,0)/\2<=m/\m<=n/\∀i j,i<=j->j<m->K x öl<=K x åb) ?_ ?_ ⟨rfl,rfl,?_⟩));rintro y _ _ G B ⟨rfl,rfl,d⟩;refine ã (Uy r ći ći ?_);by_cases c:K x õl<K x Ĺk;simp only[c,ÿa,Ť];refine ñ ⟨rfl,rfl,λi j o l=>?_⟩;by_cases e:j<y;exact d i j o e;obtain rfl:j=y:=by omega
 by_cases e2:i=j;rw[e2];exact ěa _;have:=d i ìb Å Å;rw[show lo+ìb=lo+j-1 by omega]at this;omega;simp only[c,ćg,Šb,òa];refine ã ŀi
 have:K x Ĺk<K x õl:=by have O:=F Ĺk õl Å Å;omega
 simp only[this,ÿa,Ť];exact ñ ⟨rfl,y,rfl,by omega,by omega,d⟩;rintro _ _ ⟨rfl,rfl,d⟩;rw[Ŋi Å]at d ⊢;exact⟨rfl,n,rfl,by omega,by omega,d⟩;intro i j o l;by_cases e2:i=j;rw[e2];exact ěa _;rw[show i=0 by omega,show j=1 by omega];exact þa c;rintro _ _ ⟨rfl,m,rfl,G,B,d⟩;have C:∀k,K ōf k=_:=λk=>K_mirror Å k
 refine ã (wpS_reverse (ã (mG (x:=mirror x lo ġd ((lo+m-lo)/2)) (lo:=lo) ći B ?_ ?_ ?_)));intro i j o l;dsimp only at l;rw[C,C,Î Å,Î Å];have:=d (m-1-j) (m-1-i) (Ķn o _) (Ĩb ţb (Nat.sub_lt (Ĩb āh l) łe));rw[dY (Ĩb o l),dY l];exact this;intro y t Q a b u z;have J:(ōf).Perm x:=àq _ _ _ _;refine ã (Uy ?_ Řm Řm ?_);intro i p L;obtain⟨N,v⟩:=ái ((Éi J).mem_iff.mp (ųh (žh L)));exact r N p (by rw[<-öb];exact v);by_cases c:K ōf (lo+t)<K ōf (lo+t-1);simp only[c,ÿa,Ť];exact ñ (u c);simp only[c,ćg,Šb,òa];exact ñ (z c);intro t a b q _;refine ñ (h t _ (àq _ _ _ _) (λk R=>?_) (by dsimp only at a;omega) b q);rw[getElem?_mirror_all Å,Ð Å]
#print a
def QX{x y:Ø Ö}(h:vp x)(p:áb x):vp y:=by intro i q a;obtain⟨b,c⟩:=ái ((Éi p).mem_iff.mp ěp);exact h b q (by rw[<-öb];exact c)
section
variable{Ě:æ}{w:ß}{A:ó}{E:Value->Ë->Prop}{s:Ë}
def z6i{l r:Nat}(h:l<r):l<=(l+r)/2/\(l+r)/2<r:=by omega
def x60{x:Ø Ö}{lo n ok p f g}{Q:Í->ø->Prop}(hx:vp x)(hn:lo+n<=ąa)(zf:ok<=n)(d:jt x lo ok)(h:∀y,áb x->(∀k,k<lo->y[k]?=x[k]?)->jt y lo n->Q Ã ũp):wpS è A E s (æq lo n ok) Q ìc:=by
 unfold æq;refine ã (ιa (ęc (I:=λk c st=>c=(Ä,())/\∃y,st=yQ y p f g/\áb x/\(∀k,k<lo->y[k]?=x[k]?)/\(k<=n->jt y lo k)) (Q:=λc st=>c=(Ä,())/\∃y,st=yQ y p f g/\áb x/\(∀k,k<lo->y[k]?=x[k]?)/\jt y lo n) ?_ ?_ ⟨rfl,x,rfl,Ám _,λ_ _=>rfl,λ_ i j a b=>?_⟩));rintro k _ _ hk S ⟨rfl,y,rfl,v,G,d⟩
 replace d:=d (ða S)
 have hy:=QX hx v;have L:lo+k<ïe:=by have:=v.size_eq;omega
 have Z:∀j,j<=k->lo+j<ïe:=λj hj=>Ĩb (Ìd hj lo) L
 refine ã (Mi (Q:=λc st=>st=yQ y p f g/\∃l r,c=(Ä,l,r)/\l<=k/\(∀i,i<l->K y åb<=K y Ãc)/\∀i,l<=i->i<k->K y Ãc<K y åb) (λz c=>∃l r,c=(Ä,l,r)/\l<=r/\r<=k/\r+z<=k+l/\(∀i,i<l->K y åb<=K y Ãc)/\∀i,r<=i->i<k->K y Ãc<K y åb) ⟨0,k,rfl,ęa _,êa _,êa _,λi J=>Û J Ği,λi a b=>Û b (Ŋe a)⟩ ?_ ?_ ?_);rintro z _ hz ⟨l,r,rfl,O,o,g3,C,B⟩;refine xS ūg λc=>?_;cases Üd O c;exact ñ ⟨rfl,l,l,rfl,o,C,B⟩;obtain⟨Y,R⟩:=z6i Åg;dsimp only;generalize (l+r)/2=m at Y R ⊢;have T:=Ů R o;refine ã (Uy hy L (Z m (ða T)) ?_);by_cases c2:K y Ãc<K y ġd;simp only[c2,ÿa,Ť];exact ñ ⟨rfl,l,_,rfl,Y,ða T,by omega,C,λi q P=>Int.lt_of_lt_of_le c2 (d _ _ q P)⟩;simp only[c2,ćg,Šb,òa];exact ñ ⟨rfl,_,r,rfl,R,o,by omega,λi q=>Ųd (d i m (Ŗd q) T) (Ôd c2),B⟩;rintro _ ⟨l,r,rfl,O,o,g3,C,B⟩;cases Üd O Å;exact⟨rfl,l,l,rfl,o,C,B⟩;rintro _ _ ⟨rfl,l,r,rfl,o,C,B⟩;have e:lo+k-ąg=lo+l:=Nat.sub_sub_self (Ìd o lo);refine ã (Αa (ñ ⟨rfl,Ül y Ãc ąg,rfl,(bubble_perm _ _ _).trans v,λi J=>?_,λ_=>?_⟩));have z:=Ů J (Åa lo l);rw[<-G i J,getElem?_bubble L _ ţb,e,Ð (Æa z),Ð λc=>Őp z c.1];have F:∀i,K (Ül y Ãc ąg) i=_:=K_bubble L ţb;generalize Ül y Ãc ąg=b at F;rw[e]at F;have N:∀i,i<l->K b åb=K y åb:=λi a=>by rw[F,Ð λc=>Æa a (Nat.add_left_cancel c),Ð λc=>Őp a (Nat.lt_of_add_lt_add_left c.1)]
 have U:K b (lo+l)=K y Ãc:=by rw[F,Î rfl]
 have W:∀i,l<=i->i<k->K b (lo+ê)=K y åb:=λi a c=>by rw[F,Ð Å,Î Å];rfl
 intro i j q P;rcases Įi j l with z|rfl|z;rw[N i (Ĩb q z),N j z];exact d i j q (Ů z o);rcases Nat.lt_or_eq_of_le q with z|rfl;rw[N i z,U];exact C i z;exact ěa _;obtain⟨j,rfl⟩:∃t,j=t+1:=⟨j-1,by omega⟩;have H:=Nat.lt_of_succ_lt_succ P;rw[W j (Ŗd z) H];rcases Įi i l with u|rfl|u;rw[N i u];exact d i j Å H;rw[U];exact þa (B j (Ŗd z) H);obtain⟨i,rfl⟩:∃t,i=t+1:=⟨i-1,by omega⟩;have X:=Nat.le_of_succ_le_succ q;rw[W i (Ŗd u) (Ĩb X H)];exact d i j X H;rintro _ _ ⟨rfl,y,rfl,v,G,d⟩;refine⟨rfl,y,rfl,v,G,?_⟩;by_cases e:n=0;intro i j a b;omega;rw[Ŋi Å]at d;exact d Ċ;by_cases e:ok=0;rw[show i=j by omega];exact ěa _;exact d i j a Å;rintro _ _ ⟨rfl,y,rfl,v,G,d⟩;exact ñ (h y v G d)
#print a
theorem l6{F:Ø Ö->Ö×Nat->Ø Ö}{s:Nat}(b:∀a p j,F a (p,j)=ři (s+j) p){R:Á Ö}:∀(l Z P:Á Ö)(n:Nat)(x:Ø Ö),ŏc=P++(Z++R)->Đa=s+n->Ĩk=Ďb->((l.zipIdx n).foldl F x).toList=P++(l++R)
 | [],Z,P,n,x,h,_,hz=>by rw[Ói hz]at h;exact h|p::l,z::Z,P,n,x,h,hp,hz=>by
  rw[ŋi,şi,b]
  have:=l6 b (R:=R) l Z (P++[p]) ķ (x.setIfInBounds (s+n) p) (by rw[őm,h,Ÿf _ _ Å,hp,éc,ŗ];rfl) (by rw[í,hp];rfl) (Šd hz)
  rw[this,ŗ];rfl
def bW{x:Ø Ö}{P X R:Á Ö}{a b:Nat}(h:ŏc=P++(X++R))(c:Đa=a)(d:a+Èa=b):(Àf a b).toList=X:=by rw[Ĥe,ĕe,h,Ši c,Ŝi Å]
theorem OO{x:Ø Ö}{P R:Á Ö}{p:Ö}{a:Nat}(h:ŏc=P++p::R)(b:Đa=a):x[a]?=À p:=by rw[<-öb,h,Śb Å,b,éc];rfl
def aH{x y:Ø Ö}(h:vp x)(c:∀p∈čb,p∈ŏc):vp y:=by intro i q a;obtain⟨b,d⟩:=ái (c q ěp);exact h b q (by rw[<-öb];exact d)
section
variable{Ě:æ}{w:ß}{A:ó}{E:Value->Ë->Prop}{s:Ë}
def x6a{a st:ø}{Q:PUnit->ø->Prop}(h:Q ⟨⟩ a):wpS è A E s (set a:Ň ø Sem PUnit) Q st:=by unfold wpS;rw[StateT.run_set];exact ě ⟨rfl,h⟩
def x67{x:Ø Ö}{p:Ø Ũa}{g i d N pw2:Nat}{p1 p2:Á Ũa}{P o v R:Á Ö}{l u:Ö}{Q:Í->ø->Prop}(S:vp x)(ep:Þf=p1++(d,(Üe).length,N)::(d+(Üe).length,(ħf).length,pw2)::p2)(hi:p1.length=i)(ex:ŏc=P++(Üe++(ħf++R)))(J:Đa=d)(H:(Üe).Pairwise yX)(O:(ħf).Pairwise yX)(h:∀y q g Z,čb=P++(Z++R)->Z.Perm (Üe++ħf)->Z.Pairwise yX->Źb=p1++(d,(Üe).length+(ħf).length,N)::p2->Q Ã ßd):wpS è A E s (Žg i) Q Óp:=by
 generalize eX:o++[l]=X at ep ex H h;generalize eY:u::v=Y at ep ex O h
 have e1:p[i]?=À (d,Èa,N):=by rw[<-öb,ep,Śb Å,hi,éc];rfl
 have e2:p[i+1]?=À (d+Èa,ãf,pw2):=by rw[<-öb,ep,Śb Å,hi,Űf];rfl
 have e3:(Ċl).toList=p1++(d,Èa+ãf,N)::p2:=by rw[Array.toList_eraseIdxIfInBounds,őm,ep,Ÿf _ _ Å,hi,éc,List.eraseIdx_append_of_length_le Å,hi,Űf];rfl
 have U:∀q∈X,yX q l:=by intro q f;rw[<-eX]at f H;rcases ça f with z|z;exact(Õc H).2.2 q z l Ŏ;rw[Ċa z];exact ěa _
 have I:∀q∈Y,yX u q:=by intro q f;rw[<-eY]at f O;rcases Ĺ f with z|z;rw[z];exact ěa _;exact(Ġe O).1 q z
 have mX:l∈X:=eX▸Ža _ Ŏ;have mY:u∈Y:=eY▸Ŏ;have lX:Èa=Őc+1:=by rw[<-eX,í];rfl
 have lY:ãf=v.length+1:=by rw[<-eY];rfl
 have szx:ąa=d+(Èa+(ãf+őc)):=by rw[<-ŭ,ex,í,í,í,J]
 have ay:x[d+Èa]?=À u:=OO (P:=P++X) (R:=v++R) (by rw[ex,ŗ,<-eY];rfl) Åj;have ax:x[d+Èa-1]?=À l:=OO (P:=P++o) (R:=Y++R) (by rw[ex,<-eX,ŗ,ŗ];rfl) Ìo;have C:(∀p∈X,∀q∈Y,yX p q)->Q Ã ģo:=λc=>h x _ g (X++Y) (by rw[ex,ŗ]) ŧk (ūf ⟨H,O,c⟩) e3
 unfold Žg;refine ã çf;show wpS _ _ _ _ (match(p[i]?,p[i+1]?)with|_=>_) _ _;rw[e1,e2];refine ã (x6a (ã (vq ay (ã (Ux (z:=X) (x:=x) (b:=d) (n:=Èa) rfl (S _ _ ay) S Å Å (by rw[ex,Ši J,Ŝi rfl]) H λk hk d1 d2=>?_)))));refine xS (Ωd (d1 p ?_) (I q f)) λc=>?_;rw[Äd (by simp at c;omega)];exact j
 replace c:k<Èa:=by simp at c;omega
 have ax2:x[d+k+(Èa-k)-1]?=À l:=by rw[Œe,łd Ċd];exact ax
 refine ã (vq ax2 (ã (Ux (z:=Y) (x:=x) (b:=d+Èa) (n:=ãf) rfl (S _ _ ax) S Å Å (by rw[ex,<-ŗ,Ši Åj,Ŝi rfl]) O λe hk2 f1 f2=>?_)));refine xS (Ωd (U p j) (f2 q ?_)) λc2=>?_;rw[Òk c];exact f
 replace c2:0<e:=by simp at c2;omega
 have G:(ŧf).toList=üf k:=bW (P:=P++Çh k) (R:=Y++R) (γd Šk) (by rw[í,èa,J,Ńa Ċd]) (by rw[Åb,Œe,łd Ċd]);have B:(śf).toList=Úf e:=bW (P:=P++X) (R:=Þl e++R) (γd ûh) Åj (by rw[èa,Ńa hk2])
 have T:∀r g,u9 ĥe r->wpS è A E s (do ėd λs=>Ńc îd (r.toList.zipIdx.foldl (λa x=>ři Őr x.1) úd) šc ĕj çd;return (failedOf (<-get)).isNone) Q ģo:=by
  rintro r g ⟨r1,r2⟩;refine ã (Δd (Łf (ñ (h _ _ _ Ğm ?_ ?_ ?_ e3))));have:=l6 (F:=λa x=>ři Őr x.1) (s:=d+k) (λ_ _ _=>rfl) (R:=Þl e++R) r.toList ĥe (P++Çh k) 0 x (by rw[ex];simp only[ŗ];rw[<-ŗ ûh,ža,<-ŗ Šk,ža]) (by rw[í,èa,J,Ńa Ċd];rfl) r1.length_eq.symm
  rw[this];simp only[ŗ];have a:(Ğm).Perm (Çh k++ĥe++Þl e):=ñi _ (ÿi _ r1);rw[<-ŗ Šk šk,ža,ŗ X,ža]at a;exact a;have m:∀q∈r.toList,q∈üf k\/q∈Úf e:=λq f=>ça (r1.mem_iff.mp f)
  have tX:=ža k X;have tY:=ža e Y;have K:=H;have L:=O;rw[<-tX]at K;rw[<-tY]at L;refine ūf ⟨ūf ⟨(Õc K).1,r2,λp j q f=>?_⟩,(Õc L).2.1,λp j q f=>?_⟩;rcases m q f with z|z;exact(Õc K).2.2 p j q z;exact éb (d1 p j) (I q (ſc z));rcases ça j with j|j;exact éb (d1 p j) (I q (Ľd f));rcases m p j with z|z;exact éb (U p (Ľd z)) (f2 q f);exact(Õc L).2.2 p z q f
 have A1:vp ŧf:=aH S λp j=>by rw[G]at j;rw[ex];exact Ža _ (ŉd _ (Ľd j))
 have A2:vp śf:=aH S λp j=>by rw[B]at j;rw[ex];exact Ža _ (Ža _ (ŉd _ (ſc j)))
 have z1:(ŧf).size=Èa-k:=by rw[<-ŭ,G,Åb]
 have z2:(śf).size=e:=by rw[<-ŭ,B,èa,Ńa hk2]
 have sX':(šk).Pairwise yX:=ón (List.drop_sublist _ _) H;have W:(ûh).Pairwise yX:=ón Ïn O;have b0:śf[0]?=À u:=OO (P:=[]) (R:=v.take (e-1)) (by rw[B,<-eY];obtain⟨n,rfl⟩:∃n,e=n+1:=⟨e-1,by omega⟩;rfl) rfl;have al:ŧf[Èa-k-1]?=À l:=OO (P:=o.drop k) (R:=[]) (by rw[G,<-eX,List.drop_append_of_le_length Å]) (by rw[Åb];omega);generalize Àf (d+k) (d+Èa)=xx at *;generalize Àf (d+Èa) (d+Èa+e)=yy at *;refine xS (λ_=>ã (x69 (t:=üf k++Úf e) A1 A2 Å b0 ?_ ?_ λr g hr=>T r g hr)) λ_=>ã (x68 (t:=üf k++Úf e) A1 A2 Å (y:=l) ?_ ?_ ?_ λr g hr=>T r g hr);have a0:xr ĥe xx yy #[] 0 0:=⟨by rw[<-G,<-B];exact ħe _,G▸sX',B▸W⟩;exact a0.pb b0 λq f=>þa åp;intro q f p j;rw[z1,C9 al,Åd ĳe]at j;rw[Ċa j];exact þa (f1 q (B▸f));rw[z1];exact al;have a0:xz ĥe xx yy #[] Ħp yy.size:=by have t1:xx.toList.take Ħp=xx.toList:=Äd ĳe;have t2:yy.toList.take yy.size=yy.toList:=Äd (by rw[ŭ];exact êa _);unfold xz;rw[t1,t2,G,B];have pz:=List.Perm.append (İi šk) (İi ûh);exact⟨pz,Øi sX',Øi W⟩
 exact a0.pa (by rw[z1];exact al) λq f=>þa (f1 q (B▸ſc f));intro q f p j;rw[Nw b0]at j;rw[Ċa j];exact þa åp
#print a
def vh:Nat->Á Ũa->Á Ö->Prop
 |_,[],L=>L=[]|n,r::p,L=>r.1=n/\∃X M,L=X++M/\Èa=r.2.1/\X≠[]/\řj yX/\vh (n+r.2.1) p M
theorem iK:∀{p q:Á Ũa} {n:Nat} {L:Á Ö},vh n (p++q) L->∃M N,L=M++N/\vh n p M/\vh (n+Ëh) q N
 | [],q,n,L,h=>⟨[],L,rfl,rfl,h⟩|r::p,q,n,L,h=>by obtain⟨d,X,M,rfl,c,e,g,f⟩:=h;obtain⟨M,N,rfl,a,b⟩:=iK f;exact⟨X++M,N,(ŗ ..).symm,⟨d,X,M,rfl,c,e,g,a⟩,by rw[í,c,<-Œe];exact b⟩
theorem HS:∀{p q:Á Ũa} {n:Nat} {M N:Á Ö},vh n p M->vh (n+Ëh) q N->vh n (p++q) (M++N)
 | [],q,n,M,N,h,h2=>by rw[show M=[]from h]at h2 ⊢;exact h2|r::p,q,n,M,N,h,h2=>by obtain⟨b,X,M,rfl,a,c,e,d⟩:=h;exact⟨b,X,M++N,ŗ ..,a,c,e,HS d (by rw[í,a,<-Œe]at h2;exact h2)⟩
theorem iL:∀{p:Á Ũa} {n:Nat} {L:Á Ö},vh n p L->p.length<=Öb
 | [],n,L,h=>ęa _|r::p,n,L,h=>by obtain⟨c,X,M,rfl,e,a,d,b⟩:=h;have:=iL b;have:=èi a;rw[í,ĕ];omega
theorem iM{F:Nat×Nat×Nat->Nat×Nat×Nat}(a:∀r,(F r).1=r.1/\(F r).2.1=r.2.1):∀{p:Á Ũa} {k n:Nat} {L:Á Ö},vh n p L->vh n (p.modify k F) L
 | [],0,n,L,h=>h| [],_+1,n,L,h=>h|r::p,0,n,L,h=>by obtain⟨b,X,M,rfl,f,c,e,d⟩:=h;exact⟨(a r).1.trans b,X,M,rfl,f.trans (a r).2.symm,c,e,(a r).2▸d⟩
 |r::p,k+1,n,L,h=>by obtain⟨b,X,M,rfl,f,c,e,d⟩:=h;exact⟨b,X,M,rfl,f,c,e,iM a d⟩
def y72{x y:Ø Ö}{L R:Á Ö}{lo m:Nat}(ex:ŏc=L++R)(n:Öb=lo)(d:∀k,k<lo->y[k]?=x[k]?)(c:jt y lo m)(o:lo+m<=ïe):∃X M,čb=L++Įf/\Èa=m/\řj yX:=by
 have e:y.toList.take lo=L:=by
  refine Řd λk=>?_
  rw[ŭn]
  split;rename_i f;rw[öb,d k f,<-öb,ex,ģb Å];rw[Ŝb Å]
 have h:(Ëj).length=m:=by rw[èa,Åb,ŭ];omega
 refine⟨(ŷh).take m,(ŷh).drop m,?_,h,List.pairwise_iff_getElem.mpr λi j b l a=>?_⟩;rw[ža,<-e,ža];have g:∀i (b:i<(Ëj).length),K y åb=wJ Ëj[i]:=by intro i b;have e:y[lo+i]?=À y[lo+i]:=getElem?_pos _ _ Å;unfold K;rw[e,äo,åo,Ŋd];rfl
 have:=c i j (ða a) Å;rw[g i b,g j l]at this;exact this
def z0s{x y:Ø Ö}(h:(ûo).Nodup)(p:áb x):lH y:=by
 have n:(úo).Nodup:=((Éi p).map wJ).nodup_iff.mpr h;intro i j a b e
 have g:∀i (a:i<ïe),úo[i]?=À (K y i):=by intro i a;have e:y[i]?=À y[i]:=getElem?_pos y i a;rw[Ŧ,öb];unfold K;rw[e];rfl
 exact(List.getElem?_inj (by rw[ç,ŭ];exact a) n).mp (by rw[g i a,g j b,e])
section
variable{Ě:æ}{w:ß}{A:ó}{E:Value->Ë->Prop}{s:Ë}
def mP{x:Ø Ö}{p:Ø Ũa}{g i:Nat}{L R:Á Ö}{Q:Í->ø->Prop}(I:vp x)(ex:ŏc=L++R)(o:vh 0 Þf L)(hi:i+1<Ęh)(h:∀y q g M,čb=M++R->M.Perm L->vh 0 Źb M->ťc+1=Ęh->Q Ã ßd):wpS è A E s (Žg i) Q Óp:=by
 have C:p.toList.length=Ęh:=ŭ;obtain⟨⟨S,O,pw⟩,⟨U,T,z⟩,c⟩:∃r1 r2,Þf=Öj i++r1::r2::Øj (i+2):=⟨Þf[i],Þf[i+1],by rw[<-Öc,<-Öc,ža]⟩;have j:(Öj i).length=i:=by rw[èa];omega
 have n:(Øj (i+2)).length=Ęh-(i+2):=by rw[Åb,C]
 generalize Öj i=p1 at c j;generalize Øj (i+2)=p2 at c n;rw[c]at o;obtain⟨P,N,rfl,v,r⟩:=iK o;obtain⟨f,X,N,rfl,l,G,F,d,Y,N,rfl,k,H,B,a⟩:=r;dsimp only at f l d k a;obtain⟨K,J,rfl⟩:=(List.eq_nil_or_concat X).resolve_left G;rw[List.concat_eq_append]at *;obtain⟨W,Y',rfl⟩:=List.exists_cons_of_ne_nil H;subst l k;rw[Ş]at f d;subst f;subst d;refine x67 I c j (P:=P) (R:=N++R) (by rw[ex];simp only[ŗ]) rfl F B λy q g Z u b t m=>h y q g (P++(Z++N)) (by rw[u];simp only[ŗ]) ?_ ?_ ?_;refine ÿi _ ((ñi N b).trans ?_);rw[ŗ];rw[m];refine HS v ⟨(ůk).symm,Z,N,rfl,b.length_eq.trans (í ..),?_,t,?_⟩;intro e;rw[e]at b;have:=b.length_eq;rw[í,ĕ]at this;cases this;rw[Ş]at a ⊢;rw[Œe]at a;exact a;have:=Êa żd m;rw[ŭ,í,ĕ,j,n]at this;omega
abbrev Nh:=āb (Æ Ľa×Nat)
noncomputable def Ng(lo n:Nat):Ň ø Sem Nh:=do
 ėd λs=>Ńc îd úd ((šc).push (lo,n,0)) ĕj çd
 pure (.yield (Ä,lo+n))
noncomputable def MK{β:Type}(r:Æ Ũa)(f:Nat->Nat->Nat->Ň ø Sem β)(g:Ň ø Sem β):Ň ø Sem β:=(sortPriv% PySem.Builtin.sortRuns.match_1) Žf r f λ_=>g
def lJ(N lo n:Nat)(f:Nat->Nat->Nat):Ň ø Sem Nh:=do
 let d <-get
 MK (Ĉf).back? (λg e _=>do
  let r <-őb [:N] ((Ä,()):Æ Ľa×Ľa) λ_ _=>do
   let d <-get
   MK (if(Ĉf).size>1 then Ĉf[(Ĉf).size-2]? else Ä) (λ_ _ a=>
    if a<=f g e then pure İo else do
     let b <-Žg ((Ĉf).size-2)
     if(!b)=Ã then pure (.done (À (),()))else pure (.yield (Ä,()))) (pure İo)
  IA r.1 (λr=>pure (.done (À r,lo))) do
   let _ <-ėd λs=>Ńc îd úd ((šc).modify ((šc).size-1) λx=>(sortPriv% PySem.Builtin.sortRuns.match_3) (λ_=>Nat×Nat×Nat) x λst c _=>(st,c,f g e)) ĕj çd
   Ng lo n) (Ng lo n)
inductive Ni(X M L:Á Ö):Æ Ľa×Ľa->ø->Prop
 |mk {y q g N}:čb=N++Įf->N.Perm L->vh 0 Źb N->Ni X M L (Ä,()) ßd
def x6c{x y:Ø Ö}{q:Ø Ũa}{g k lo N:Nat}{L X M:Á Ö}{B:Nat->Nat->Nat}{Q:Nh->ø->Prop}(H:vp x)(v:áb x)(u:vh 0 Źb L)(o:Öb=lo)(m:čb=L++Įf)(l:Èa=k)(G:řj yX)(hk:1<=k)(h:∀y q g L,čb=L++M->Öb=lo+k->vh 0 Źb L->áb x->Q (.yield (Ä,lo+k)) ßd):wpS è A E s (lJ N lo k B) Q ßd:=by
 have t:∀{f:Ø Ö}{b},ģk=b++Įf->Ýl L->f.Perm x:=λe1 e2=>Array.Perm.trans (Ĕm (by rw[e1,m];exact ñi _ e2)) v
 have j:∀{f:Ø Ö}{a:Ø Ũa} {n b},ģk=b++Įf->Ýl L->vh 0 Æh b->wpS è A E s (Ng lo k) Q (yQ f a Ä n):=by intro f a n b e1 e2 d;refine ã (Αa (ñ (h _ _ _ (b++X) (by rw[ŗ];exact e1) (by rw[í,ňp,o,l]) ?_ (t e1 e2))));show vh 0 (a.push (lo,k,0)).toList _;rw[ĵi];exact HS d ⟨by rw[Ş,ňp,o],X,[],(ż _).symm,l,λe=>įb hk (l▸Êa żd e),G,rfl⟩
 refine ã çf;show wpS _ _ _ _ (MK q.back? _ _) _ _;cases q.back? with
 |Ä=>exact j m ŧk u|À r=>
  refine ã (ιa (ęc (I:=λ_=>Ni X M L) (Q:=Ni X M L) ?_ (λ_ _ h=>h) (.mk m ŧk u)));rintro _ _ _ _ _ ⟨e1,e2,d⟩;rename_i f a n b;refine ã çf;show wpS _ _ _ _ (MK (if ì>1 then a[ì-2]? else Ä) _ _) _ _;by_cases c:ì>1;rw[Î c];cases a[ì-2]? with
  |Ä=>exact ñ îj|À r=>exact xS (λ_=>ñ îj) λ_=>ã (mP (p:=a) (i:=ì-2) (QX H (t e1 e2)) e1 d Å λO P J M2 F z C K=>ñ (.mk F (z.trans e2) C))
  rw[Ð c];exact ñ îj;rintro _ _ ⟨e1,e2,d⟩;refine ã (Αa (j e1 e2 ?_));show vh 0 (Array.modify _ _ _).toList _;rw[Array.toList_modify];refine iM ?_ d;exact λ⟨_,_,_⟩=>⟨rfl,rfl⟩
inductive MP(x:Ø Ö)(z:Nat):Æ Ľa×Nat->ø->Prop
 |mk {lo y q g L R}:čb=L++R->Öb=lo->vh 0 Źb L->áb x->z<=lo->MP x z (Ä,lo) ßd
def x6b{x:Ø Ö}{g:Nat}{Q:Ľa->ø->Prop}(F:vp x)(hd:(ûo).Nodup)(h:∀y q g,áb x->y.toList.Pairwise yX->Q () ßd):wpS è A E s ãr Q (yQ x #[] Ä g):=by
 unfold ãr;refine ã çf;refine ã (ιa (ęc (I:=λz=>MP x z) (Q:=λc st=>c.1=Ä/\∃y q g,st=yQ y q Ä g/\vh 0 Źb čb/\áb x) ?_ ?_ (.mk (L:=[]) (R:=ŏc) rfl rfl rfl ţk Ċ)));rintro z _ _ _ hz ⟨f,o,d,a,l⟩;rename_i lo y q g L R;have H:=Ök;have Z:ïe=lo+őc:=by rw[<-ŭ,f,í,o]
 refine xS ūg λc=>?_;have:R=[]:=Ói (by dsimp only at c;omega);subst this;rw[ż]at f;exact ñ ⟨rfl,y,q,g,rfl,f▸d,a⟩;replace c:lo<ąa:=by dsimp only at c;omega
 refine ã (x61 (lo:=lo) (n:=ąa-lo) (QX F a) (z0s hd a) Å Å λm y1 u U G v T=>?_);have A1:=QX F (îh a);have z1:=(îh a).size_eq
 have P:∀{k i S},1<=k->lo+k<=ąa->i.Perm y->(∀j,j<lo->i[j]?=y[j]?)->jt i lo k->wpS è A E s (lJ ąa lo k S) (λr st=>jG ğl Ün r) (yQ i q Ä g):=by intro k i S O h4 C p K;obtain⟨X,M,eY,W,Y⟩:=y72 (m:=k) f o p K (by rw[(Şk a).size_eq];exact h4);exact x6c F (Şk a) d o eY W Y O λy q g L e1 e2 e3 e4=>.mk e1 e2 e3 e4 (Áp l O)
 refine će (Q:=λr st=>jG ğl Ün r) ?_ λr st h=>by cases r<;>exact h
 refine xS (λt=>ã (Οa (x60 (lo:=lo) (n:=min (ąa-lo) (minRun' ąa ąa 0)) (ok:=m) A1 ?_ ?_ T λi C p K=>xS (λc=>nomatch c) λ_=>P ?_ ?_ (Şk u) (λk N=>(p k N).trans (U k N)) K))) λt=>P G Å u U T;omega;exact ŷi ⟨v,ða t⟩;exact ŷi ⟨Ġ G v,Ġ G (ða t)⟩;exact Ġ (Ìd (Nat.min_le_left ..) _) ōo;rintro _ _ ⟨f,o,d,a,l⟩;rename_i lo y q g L R;have H:=Ök;have Z:ïe=lo+őc:=by rw[<-ŭ,f,í,o]
 have:R=[]:=Ói (by dsimp only at l;omega);subst this;rw[ż]at f;exact⟨rfl,y,q,g,rfl,f▸d,a⟩;rintro⟨_,lo⟩ _ ⟨rfl,y,q,g,rfl,d,a⟩;refine ã (ιa (ęc (I:=λz c st=>c=(Ä,())/\∃y q g,st=yQ y q Ä g/\vh 0 Źb čb/\áb x/\(ťc<=1\/ťc+z<=ąa)) (Q:=λc st=>c=(Ä,())/\∃y q g,st=yQ y q Ä g/\vh 0 Źb čb/\áb x/\ťc<=1) ?_ ?_ ⟨rfl,y,q,g,rfl,d,a,.inr ?_⟩));rintro z _ _ _ hz ⟨rfl,y,q,g,rfl,d,a,B⟩;refine ã (Łf (ξ (λc=>ñ ⟨rfl,y,q,g,rfl,d,a,c⟩)))
 replace c:¬ ťc<=1:=c
 refine ã (mP (QX F a) (ż _).symm d ?_ λi p g2 M J t c3 c4=>?_);have:∀(b:Prop) [ăr b],(if b then ťc-2-1 else ťc-2)+1<ťc:=λb _=>by split<;>omega
 exact this _;rw[ż]at J;refine ñ ⟨rfl,i,p,g2,rfl,J▸c3,(Ĕm (J▸t)).trans a,.inr Å⟩;rintro _ _ ⟨rfl,y,q,g,rfl,d,a,B⟩;exact⟨rfl,y,q,g,rfl,d,a,by rw[ċj]at B;dsimp only at B;omega⟩;have:=iL d;rw[ŭ,ŭ,Ök]at this;exact this;rintro _ _ ⟨rfl,y,q,g,rfl,d,a,B⟩;refine ñ (h y q g a ?_)
 match e:Źb,d,(ŭ (xs:=q))with
 | [],d,_=>rw[show čb=[]from d];exact ĳi| [r],d,_=>obtain⟨_,X,M,e,_,_,h5,h6⟩:=d;rw[e,show M=[]from h6,ż];exact h5
 |_::_::_,_,v=>simp only[ĕ]at v;omega
def y7s(o:ā a=À (Çe ĝ Ŋa n))(l:Âc vs ns)(F:ns.Nodup)(hz:þ<=á)(h:∀(out:Ø Value)(b:Á Int),Âc ľq b->Ýl ns->Ņq (·<=·)->P (.done Ïq) { s with å:=sortedHeap Ý a vs out }):Ù è A (Builtin.«list.sort» ⟨óa,[]⟩) P E s:=by
 by_cases h64:þ<64;exact list_sort_tree o l h64 h
 obtain⟨k,f,r,rfl⟩:∃k f r,vs=k::f::r:=by
  match vs,h64 with
  | [],h=>exact Û É h| [_],h=>exact Û (show 1<64 by decide) h|k::f::r,_=>exact⟨k,f,r,rfl⟩
 generalize e:k::f::r=vs at *;have m:¬ vs.toArray.size<2:=by rw[ğ];omega
 have B:a<Ú:=Ĝ o;obtain⟨c,u⟩:∃c,(ĝl).get? a=À Ŋo:=⟨_,get?_update_seq o Řq⟩
 have v:((Ļm).push ťi).get? a=À Ŋo:=by rw[ço _ _ _ (by rw[Ļq,ěo];exact Æa (ŕd B)),ço _ _ _ (by rw[ěo];exact Æa B)];exact u
 rw[list_sort_plain];refine Ò (listItems_at o rfl (Ò (Ăp o rfl (hsz:=by rw[ğ];exact hz) ?_)));refine Ò (Þq u rfl (Ò (Ÿo ?_ (by exact hz))));refine Ò (Ēi (ùb ?_));show Ù è A _ P E { s with å:=(Ļm).push ťi };rw[Ð m,Ð m,<-e,keyKind_ints (e▸l),e];refine Ò (Ζa (Ėa (x6b (x:=pairsOf vs) (g:=7) (Q:=λ_ st=>(ŵq).Perm ēj/\failedOf st=Ä/\SortedTo ŵq (ēj).size) ?_ ?_ ?_) ?_ λ_ _ e=>e));intro i p d;exact l.intKeys p (ųh (žh d));have:(ēj).toList.map wJ=ns:=by rw[pairsOf_toList,show wJ=numOf∘Prod.fst from rfl,<-Êb,Ōi Ċ,l.nums]
 rw[this];exact F;intro y q g d t;refine⟨d,rfl,λi j N O=>?_⟩;have z:=d.size_eq;have C:y[i]?=À y[i]:=getElem?_pos y i Å;have H:y[j]?=À y[j]:=getElem?_pos y j Å;unfold K;rw[C,H];by_cases c:i=j;subst c;exact ěa _;have:=ĭm t i j ĳe ĳe Å;rw[Ŋd,Ŋd]at this;exact this;rintro⟨⟨⟩,st⟩ _ ⟨rfl,d,L,t⟩;dsimp only;refine Ò (Þq v rfl (Ò (Ăp v rfl ?_ (hsz2:=by refine Ġ (äc ((Array.size_map ..).trans (d.size_eq.trans (pairsOf_size _)))) (įi hz)))));rw[L];simp only[bne_self_eq_false,Šb,òa];obtain⟨b,J,I,G⟩:=sorted_out l d t;exact ě (h _ b J I G)
def y7t(B:Ÿb=Ä)(lo:üa=Â)(o:Õj ŭa a kvs ep)(hk:ãe (·.1)=Ĕb Ìa)(hz:Ôa<=á)(h:∀h' tk p out c ns',Ú<=p->Ğ p=À (Çe ĝ out c)->Âc ľq ns'->ns'.Perm ns->ns'.Pairwise (·<=·)->(∀b ob,ā b=À ob->Ğ b=À ob)->Q Éa { s with å:=h',ē:=tk }) :Ù è A (Źa úg óa) Q E s:=by
 have g:Ķ=Ôa:=by
  have:=Êa żd hk
  rwa [ç,ç]at this
 have q:ns.Nodup:=by have:=o.nodup;rw[hk]at this;exact(List.pairwise_map.mp this).imp λh z=>h (Êa _ z)
 refine Calls.call_function_entry kind_sorted plain_sorted entry_sorted (args_sorted1 _) ?_;unfold Builtin.«sorted»;refine Ò (m:=checkCount Ŵb 1 1 _) (Ζa (sV (by exact B) lo o (g▸hz) λi tk d l x k n=>Ò (Ēi ?_ ăn)));have r:=z4c d kvs ns l hk x;have j:(i.push ùn).get? äq=À ùn:=Ŭ _ rfl;refine Ò (ùb (Ãd slot_list_sort ⟨_,j,rfl⟩ entry_list_sort (y7s j r q ăn λout ns' u t y=>⟨_,rfl,?_⟩) (args_list_sort _)));obtain⟨c,v⟩:=sortedHeap_at (vs:=d) (out:=out) j;refine ě ⟨_,rfl,h _ tk äq out c ns' (ða k) v u t y λb ob e=>?_⟩;have f:=Ĝ Ůq;rw[sortedHeap_old (we (Æa f)) (by rw[Ļq];exact ŕd f)];exact ģ _ Ůq
#print a
section
variable{X:Cx}
def y4u:Á V->Hp->VK->Prop:=λb H Q=>∃(a:È) (kvs:Á ź) (ns:Á Int),b=óa/\Rd H a Ŀ/\ãe (·.1)=Ĕb Ìa/\Ôa<=á/\∀l,H l=Ä->Q Řc Ťp
def sN(b:ų=Ã):wu X úg y4u:=by
 intro S s σ H T R Q I r h;obtain⟨a,v,d,rfl,F,O,j,q⟩:=h;obtain⟨u,rfl,J⟩:=uy r;cases(show u=ą a from J);obtain⟨_,y,K,g,o,l,P,x,k,L,t,G,A⟩:=kD Đ F;have B:Õj ëc a K P:=⟨o,l,x,k,L,t,G,A⟩;refine y7t (ĵa b) y B ((Ew g).trans O) j λh' m p f c e i N E n z C=>?_
 obtain rfl:e=Ďc d:=Nd (n.trans (łc d).symm) z (Em d);refine⟨.ref p,_,Ėb (t':=m) (h':=h') C i (show xN ò X.w _ _ _ (Ε ((Ďc d).map üe))from⟨?_,ģk,c,Ei E,?_⟩),rfl,q _ (Ŧb i)⟩;rw[ç,(łc d).length_eq];exact j;rw[Ēn];exact N
#print a
#print L2
namespace L3
open Ī ĺ ĭ L2
def CN:Á D->Æ D
 | [.dic ks _]=>(UO ks).bind λa=>À ņn|_=>Ä
def y7e(b:ų=Ã)(z:Gl X Ŵb)(y:î Ŵb=Ä)(A:SA X [e] fs)(B:Ê ĝa q12) :SF X Ńn (eL CN fs):=by
 obtain⟨t,F,k⟩:=A.h;refine⟨⟨_,(Jk (p:=p) (pos:=pos) (sN b) z y am ⟨F⟩ É É (by rw[ž,B];rfl)).h,λ{I K G H τ σ d Q} E f q=>?_⟩⟩;obtain⟨u,C,f⟩:=zH f;refine k E C λL J N g w=>?_
 match u,f with
 | [.dic ks xs],f=>
  obtain⟨i,m,f⟩:=zH f;cases f;obtain⟨v,rfl,a,r,rfl,s,o,n,l⟩:=jo w
  have j:Ĳa<=á:=by have:=Įj n;rw[Es m,ç]at o;omega
  refine⟨a,Ěf r,i,rfl,Śc g.gh s,?_,j,λx c=>?_⟩;rw[<-Es m];exact Ōi Å;refine q x _ _ (Ăf (èb g.gh c)) (g.h.free c) (ör c) ⟨_,yb,řg,?_⟩;rw[ç,(łc i).length_eq];exact j
def Gn(K:Ì)(x:Str):Prop:=Ż K Ę x=À Ä
def Gs(K:Ì)(x:Str)(v:Value):Prop:=Ż K Ę x=À ìa
def Tq(K:Ì)(d:Æ È)(a:È)(vs:Á Value):Prop:=∃n sl,Àa a=À ⟨.type ŧ,d,.seq Ŋa n,sl⟩
def Tp(K:Ì)(a:È)(vs:Á Value):Prop:=∃d,Tq K d a vs
def Dc(K:Ì)(w:ß)(a:È)(l:Á Ög):Prop:=(∃n,Àa a=À { cls:=.type Ź,Ą:=.dict (Ĩl).toArray n })/\üa=Â
noncomputable def vD:Á Value->Æ Ïp
 | []=>À ([],[])|.int i _::r=>(ħh).bind λp=>À (.int i::p.1,.int i::p.2)|.str s _::r=>match Šc Ýf 1000 with
  |Ã=>(ħh).bind λp=>À (.str s::p.1,.str s::p.2)|Â=>Ä
 |_=>Ä
def vT(vs:Á Value):Æ Ïp:=match Šc þ 1000 with
 |Ã=>vD vs|Â=>Ä
noncomputable def vU:Á Value->Æ (Á V)
 | []=>À []|.ref a::r=>(vU r).bind λp=>À (.ref a::p)|_=>Ä
section
variable{K:Ì}{w:ß}{h:Heap}{mg:Str->Æ Value}{a:È}{x:Str}{v:Value}{d:Æ È}{n:Nat}{i:Int}{t:Tok}{s:Str}{sl:Ø Íb}{xs:Á Str}{vs:Á Value}{us:Á V}{ds:Á D}{l:Á Ög}
def gn_mk(h:Ż K Ę x=À Ä):Gn K x:=h
def gs_mk(h:Ż K Ę x=À ìa):Gs K x v:=h
def tq_mk(h:Àa a=À ⟨.type ŧ,d,.seq Ŋa n,sl⟩):Tq K d a vs:=⟨_,_,h⟩
def tp_mk(h:Àa a=À ⟨.type ŧ,d,.seq Ŋa n,sl⟩):Tp K a vs:=⟨_,_,_,h⟩
def dc_mk(h:Àa a=À { cls:=.type Ź,Ą:=.dict (Ĩl).toArray n })(q:üa=Â):Dc K w a l:=⟨⟨n,h⟩,q⟩
def qQ(X:ŕ h)(G:Ţa Ę mg)(g:Gn K x):mg x=Ä:=W.mg_none_of X G g
def kI(X:ŕ h)(G:Ţa Ę mg)(g:Gs K x ř):wT mg x ř:=⟨_,Ďd X G g,rfl⟩
def Yh(X:ŕ h)(G:Ţa Ę mg)(g:Gs K x ňg):wT mg x ôa:=⟨_,Ďd X G g,⟨_,rfl⟩⟩
theorem Wq:∀{vs:Á Value}{us:Á V}{ds:Á D},vD vs=À (us,ds)->zo us vs/\∀H,Þ K H ds us
 | [],_,_,e=>by cases e;exact⟨.nil,λ_=>rfl⟩|.int i t::r,_,_,e=>by obtain⟨p,e1,e⟩:=zH (show(ħh).bind _=_ from e);cases e;obtain⟨b,c⟩:=Wq e1;exact⟨.cons ⟨_,rfl⟩ b,λH=>⟨_,_,rfl,rfl,c H⟩⟩
 |.str s t::r,_,_,e=>by
  cases z:Šc Ýf 1000 with
  |Â=>rw[show vD Ļp=match Šc Ýf 1000 with|Ã=>_|Â=>Ä from rfl,z]at e;cases e
  |Ã=>rw[show vD Ļp=match Šc Ýf 1000 with|Ã=>_|Â=>Ä from rfl,z]at e;obtain⟨p,e1,e⟩:=zH (show(ħh).bind _=_ from e);cases e;obtain⟨b,c⟩:=Wq e1;exact⟨.cons ⟨_,rfl⟩ b,λH=>⟨_,_,rfl,⟨rfl,œb ťm⟩,c H⟩⟩
theorem mB:∀{vs:Á Value}{us:Á V},vU vs=À us->zo us vs
 | [],_,e=>by cases e;exact .nil|.ref a::r,_,e=>by obtain⟨p,e1,e⟩:=zH (show(vU r).bind _=_ from e);cases e;exact .cons rfl (mB e1)
def Mb(g:Tq K d a vs)(e:vT vs=À (us,ds))(H:Hp):za K H Űg ř:=by
 obtain⟨n,sl,g⟩:=g;cases z:Šc þ 1000 with
 |Â=>rw[show vT vs=match Šc þ 1000 with|Ã=>_|Â=>Ä from rfl,z]at e;cases e
 |Ã=>rw[show vT vs=match Šc þ 1000 with|Ã=>_|Â=>Ä from rfl,z]at e;obtain⟨b,c⟩:=Wq (K:=K) e;have q:=œb ťm;exact⟨a,us,rfl,sZ g q b H,c H,by rw[<-(c H).length,Ű];exact q⟩
def vG(g:Tp K a vs)(e:vT vs=À (us,ds))(H:Hp):za K H Űg ř:=let ⟨_,g⟩:=g;Mb g e H
def P0(g:Tq K Ä a vs):DM K a:=let ⟨_,_,g⟩:=g;⟨_,g,rfl,rfl⟩
theorem Qn:∀l:Á Ög,jM w (Äa λp=>(⟨Àp w.params p.1,.str p.1 p.2.1,p.2.2⟩:ŷb)) (Äa (·.1)) (Äa (·.2.2))
 | []=>.nil|_::l=>.cons ĭh
def bG(g:Dc K w a l)(e:vU (Äa (·.2.2))=À us)(c:Ād)(ex:Äa (·.1)=xs)(b:∀H,Þ K H ds us):tH K w a ãd ds:=by obtain⟨⟨n,g⟩,q⟩:=g;subst ex;exact br g ĭh c q (mB e) b
def Oh(g:Dc K w a l)(e:vD (Äa (·.2.2))=À (us,ds))(b:Ād)(ex:Äa (·.1)=xs):tH K w a ãd ds:=by obtain⟨⟨n,g⟩,q⟩:=g;subst ex;exact br g ĭh b q Ķp.1 (Wq e).2
def C3(g:Dc K w a l)(e:vD (Äa (·.2.2))=À (us,ds))(b:Ād)(ex:Äa (·.1)=xs):pV K w a ãd us:=by obtain⟨⟨n,g⟩,q⟩:=g;subst ex;exact z1d g ĭh b q Ķp.1
def C4(_:Dc K w a l)(e:vD (Äa (·.2.2))=À (us,ds)):∀H,Þ K H ds us:=(Wq e).2
#print a
abbrev HD(x:Str)(ps:Á Str)(k:Nat)(F:Á D->Æ ä)(P:æ)(w:ß)(K:Ì)(mg:Str->Æ Value)(Ç:Heap):Prop:=vJ P w K mg Ç x ps k èf
section
variable{X:Cx}{e:Ñ}
def eT(a:PE X e s)(b:PE X e t):PE X e (λσ H Q=>s σ H Q\/t σ H Q):=λc z σ H Q I h=>by rcases h with h|h;exact a c z σ H Q I h;exact b c z σ H Q I h
noncomputable def Qk(f g:FE):FE:=λτ=>match f τ with
 |À d=>À d|Ä=>g τ
def y6w(a:SE X e f)(b:SE X e g):SE X e (Qk f g):=by
 obtain⟨s,c,i⟩:=a.h;obtain⟨t,j,k⟩:=b.h;refine⟨⟨_,eT c j,λ{m l G H τ σ d Q} E h q=>?_⟩⟩;unfold Qk at h;cases z:f τ with
 |À x=>rw[z]at h;cases h;exact .inl (i E z q)|Ä=>rw[z]at h;exact .inr (k E h q)
noncomputable def W3(f g:xi):xi:=λβ=>match f β with
 |À d=>À d|Ä=>g β
def dQ(a:MC X e f)(b:MC X e g):MC X e (W3 f g):=by
 obtain⟨s,i,c⟩:=a.h;obtain⟨t,j,d⟩:=b.h;refine⟨⟨_,eT i j,λ{P k l G H β β' σ m Q} E h q=>?_⟩⟩;unfold W3 at h;cases z:f β with
 |À x=>rw[z]at h;cases h;exact .inl (c E z q)|Ä=>rw[z]at h;exact .inr (d E h q)
#print a
def Xp(K:Ì)(m q:Str)(st:Õ)(ps:Á Str)(f:È):Prop:=ğf K İ=Ã/\ďa K İ=Ã/\∃fd,wj K m q st f fd/\uE K fd ps []
def QL(K:Ì)(m:Str)(f:È)(c:Str):Prop:=∃C,Ż K Ę c=À Ġa/\tG K C/\Ŕa K ŏ m=À ċb
def jU(K:Ì)(c d m q:Str)(st:Õ)(ps:Á Str):Prop:=∃f,QL K m f c/\QL K m f d/\Xp K m q st ps f
def Vt(K:Ì)(c q:Str)(st:Õ)(ps:Á Str):Prop:=∃C f,Ż K Ę c=À Ġa/\Řg K C=Ã/\Ŕa K ŏ Ïb=À ċb/\ďa K ŏ=Ã/\Xp K Ïb q st ps f
def OB(K:Ì)(c m q:Str)(st:Õ)(ps:Á Str):Prop:=∃C f,Ż K Ę c=À Ġa/\ĩj K ŏ ġi=À ŧh/\Ûk K C øg=Ã/\Ük K ŏ øg m=À Ųj/\Xp K m q st ps f
def pU(K:Ì)(x:Str)(st:Õ)(f:È):Prop:=Ż K Ę x=À ċb/\zQ K x st
section
variable{K:Ì}{w:ß}{mg:Str->Æ Value}{h:Heap}{c d m q x:Str}{st:Õ}{ps xs ns:Á Str}{f a:È}{C D:È}{sp:Sp}{k:Nat}{l:Á Ög}{fs:Á È}
def cls_mk(a:Ŷe K C ür=Ã)(c:Ěg K C=Ã)(b:Īj K C=Ã)(d:Ŕa K ŏ Ój=À Ŭh):tG K C:=⟨a,c,b,d⟩
def mdp_mk{n:Value}{o c:Æ È}{j:Ø Íb}{g kV d h a ct:Value}(i:ğf K İ=Ã)(l:Àa f=À ⟨n,o,.func Ŧl,j⟩)(e:źb K a q=Ã)(k:ďa K İ=Ã)(b:uE K Ŧl ps []):Xp K m q st ps f:=⟨i,k,_,z18 l e k,b⟩
def mtc_mk(n:Ż K Ę c=À Ġa)(a:tG K C)(g:Ŕa K ŏ m=À ċb):QL K m f c:=⟨C,n,a,g⟩
def mtp_mk(a:QL K m f c)(b:QL K m f d)(e:Xp K m q st ps f):jU K c d m q st ps:=⟨f,a,b,e⟩
def mkp_mk(n:Ż K Ę c=À Ġa)(b:Řg K C=Ã)(g:Ŕa K ŏ Ïb=À ċb)(a:ďa K ŏ=Ã)(e:Xp K Ïb q st ps f):Vt K c q st ps:=⟨C,f,n,b,g,a,e⟩
def cmp_mk(n:Ż K Ę c=À Ġa)(b:ĩj K ŏ ġi=À ŧh)(a:Ûk K C øg=Ã)(g:Ük K ŏ øg m=À Ųj)(e:Xp K m q st ps f):OB K c m q st ps:=⟨C,f,n,b,a,g,e⟩
def fnq_mk{i d:Æ È}{e:Ø Íb}{g kV h j b ct:Value}(a:Ż K Ę x=À ċb)(l:Àa f=Ou x st g i e kV h j d b ct)(c:źb K b x=Ã)(k:ďa K İ=Ã):pU K x st f:=⟨a,fnp_mk a l c k⟩
def aS(b:∀s us,ŕ Ý->š=ă->ŉb s fd ⟨us,[]⟩ Ľc):uE K fd ps []:=λs us c a=>by rw[ż]at a ⊢;exact b s us c a
def jU.hh(a:jU K c d m q st ps)(P:æ)(w:ß)(mg:Str->Æ Value)(e:Heap)(ok:∀{f fd},wj K m q st f fd->xL P w K mg e xC k f fd ps sp):vj P w K mg e c m ps k sp/\vj P w K mg e d m ps k sp:=by obtain⟨f,⟨C,h,l,n⟩,⟨D,p,o,j⟩,i,g,fd,F,b⟩:=a;exact⟨⟨C,f,fd,h,l,⟨n,i,g⟩,b,ok F⟩,⟨D,f,fd,p,o,⟨j,i,g⟩,b,ok F⟩⟩
def Vt.hh(a:Vt K c q st ps)(X:ŕ h)(G:Ţa Ę mg)(P:æ)(w:ß)(d:Heap)(ok:∀{f fd},wj K Ïb q st f fd->xL P w K mg d xC k f fd ps sp):QJ P w K mg d c ps k sp:=by obtain⟨C,f,n,j,g,e,i,l,fd,F,b⟩:=a;exact⟨C,f,fd,n,Ďd X G n,⟨j,g,i,e⟩,b,ok F⟩
def OB.hh(a:OB K c m q st ps)(X:ŕ h)(G:Ţa Ę mg)(P:æ)(w:ß)(d:Heap)(ok:∀{f fd},wj K m q st f fd->xL P w K mg d xC k f fd ps sp):OC P w K mg d c m ps k sp:=by obtain⟨C,f,n,l,e,g,i,j,fd,F,b⟩:=a;exact⟨⟨C,f,fd,_,Ďd X G n,l,e,g,j,b,ok F⟩⟩
def pU.n(a:pU K x st f)(X:ŕ h)(G:Ţa Ę mg):mg x=À İ:=Ďd X G a.1
def z06(g:Dc K w a l)(e:Äa (·.2.2)=ĉd ą)(b:Ād)(ex:Äa (·.1)=xs)(m:Xq mg ns fs):YQ K w mg a ãd ns:=by obtain⟨⟨n,g⟩,q⟩:=g;subst ex;exact z1l g (e▸Qn l) b q m
#print a
section
variable{K:Ì}{fd:Ļ}{p0 p1 p2 p3:Str}
def bd2(b:∀s x y,ŕ Ý->ŉb s fd ⟨ųc,[]⟩ ((ćf).zip ųc)):uE K fd ćf []:=aS λs a d c=>us2 (P:=λa=>ŉb s fd ⟨a,[]⟩ ((ćf).zip a)) (λx y=>b s x y d) a c
def bd4(b:∀s x y z u,ŕ Ý->ŉb s fd ⟨ĉr,[]⟩ ((ŕe).zip ĉr)):uE K fd ŕe []:=aS λs a d c=>us4 (P:=λa=>ŉb s fd ⟨a,[]⟩ ((ŕe).zip a)) (λx y z u=>b s x y z u d) a c
#print a
#print L3
namespace L3
open Ī
noncomputable def cB:Á D:=[Ł,Ăa,İa,Ŷg]
def UI:D:=.tup cB
noncomputable def Yj:Á D:=[ňc,Že,że]
def gL:D:=.tup Yj
noncomputable def z1n:Á D:=[Ņg,ńg,źj]
def O_:D:=.tup z1n
noncomputable def Cg:Á ħ:=ćd .inr [êh,şa,àb,ōb,Ša,ēb,Ęb,Ēb,ěb,íb,ęb,ķa,śa,Ûb,ßb,Řa,řa,őa,Ëa,Ía,ßa,ôc]
noncomputable def Cj:Á D:=[Ëq,ŕf,ŕf,Óc,Óc,Óc,Óc,Óc,Óc,Óc,Óc,Óc,ŕf,ŕf,Ņf,Ņf,Ņf,Ņf,Ëq,ĩo,ĩo,Ŝr]
noncomputable def Ch:Á ħ:=ćd .inr [şa,àb,śa,Ûb,ßb,Řa,řa,őa]
noncomputable def Ck:Á D:=[İa,İa,ńc,ńc,Ăa,Ăa,Ăa,Ăa]
noncomputable def ul:Á ħ:=ćd .inr [ōa,"d","s",Đb,Üc]
noncomputable def um:Á D:=[(.tup [(.int 27),ńc]),(.tup [Ŷg,çh]),(.tup [Ďk,çh]),(.tup [Ŷg,Ŷb]),(.tup [Ł,ńc])]
noncomputable def gK:Á ħ:=ćd .inr [ôc,şa,àb,ōb,Ša,ēb,Ęb,Ēb,ěb,íb,ęb,ķa,śa,Ûb,ßb,Řa,řa,őa]
noncomputable def gM:Á D:=[Ł,Ŗa,Ŷb,çh,(.int 4),ńc,(.int 6),(.int 7),Ăa,(.int 9),(.int 10),(.int 11),(.int 12),(.int 13),(.int 14),üd,İa,(.int 17)]
noncomputable def L0:Á L2.V:=[.int 0,.int 1,.int 2,.int 3,.int 4,.int 5,.int 6,.int 7,.int 8,.int 9,.int 10,.int 11,.int 12,.int 13,.int 14,.int 15,.int 16,.int 17]
noncomputable def ZP:Á ħ:=ćd .inr Ďp
noncomputable def kK:Á D:=[(.int 18),(.int 19),(.int 20)]
noncomputable def L5:Á L2.V:=[.int 18,.int 19,.int 20]
noncomputable def ZO:Á ħ:=ćd .inr Ďp
noncomputable def kJ:Á D:=[Ďk,(.int 22),(.int 23)]
noncomputable def L4:Á L2.V:=[.int 21,.int 22,.int 23]
theorem JL{g:FG}{c:FT}{e:FE}{σ:yE}(p:D->Í)(v:D->D):∀{ds:Á D},(∀d∈ds,∃σ1,g d σ=À σ1/\c σ1=À (p d)/\(p d=Ã->e σ1=À (v d)))->ye g c e σ ds=À ((ds.filter p).map v)
 | [],_=>rfl|d::ds,h=>by
  obtain⟨σ1,e1,e2,b⟩:=h d ŕc;have a:=JL p v (ds:=ds) λx f=>h x (Ĉa _ f)
  show(íf).bind _=_;rw[e1];show(c σ1).bind _=_;rw[e2];cases hp:p d with
  |Â=>rw[Çn (by rw[hp];decide)];exact a|Ã=>rw[éi hp];show(ďf).bind _=_;rw[b hp];show(ye g c e σ ds).bind _=_;rw[a];rfl
def kO(v:D->D)(h:∀d∈ds,∃σ1,g d σ=À σ1/\e σ1=À (v d)):ye g yf e σ ds=À (òh v):=by
 have:=JL (g:=g) (c:=yf) (e:=e) (σ:=σ) (λ_=>Ã) v (ds:=ds) λd f=>by obtain⟨σ1,a,b⟩:=h d f;exact⟨σ1,a,rfl,λ_=>b⟩
 rw[this,Æn Ēj]
inductive ub(R:D->D->Prop):Á D->Á D->Prop
 |nil:ub R [] []
 |đ {x y:D} {xs ys:Á D}:R x y->ub R xs ys->ub R Ÿk (y::ys)
theorem cy{g:FG}{e:FE}{σ:yE}(R:D->D->Prop):∀{ds:Á D},(∀d∈ds,∃σ1 x,g d σ=À σ1/\e σ1=À x/\R d x)->∃xs,ye g yf e σ ds=À xs/\ub R ds xs
 | [],_=>⟨[],rfl,.nil⟩|d::ds,h=>by
  obtain⟨σ1,x,e1,e2,r⟩:=h d ŕc;obtain⟨xs,b,a⟩:=cy R (ds:=ds) λx c=>h x (Ĉa _ c)
  refine⟨x::xs,?_,.cons r a⟩;show(íf).bind _=_;rw[e1];show(ďf).bind _=_;rw[e2];show(ye g yf e σ ds).bind _=_;rw[b];rfl
def IH{n i:Nat}{d:D}(h:ģh[i]?=À d):i<n/\d=.int (i:Int):=by
 have a:i<n:=by have:=Üb.1;simpa using this
 refine⟨a,?_⟩;simp[a]at h;exact h.symm
def x4d{n:Nat}{d:D}(h:d∈xc n):∃i:Nat,i<n/\d=.int (i:Int):=by obtain⟨i,a,e⟩:=Ėi h;exact⟨i,(IH (List.getElem?_eq_some_iff.mpr ⟨a,e⟩))⟩
def x4c(n:Nat):(ģh).length=n:=by simp
def QZ{α:Type}{xs:Á α}{i:Int}{a:α}(b:0<=i)(h:xs[şc]?=À a):v_ xs i=À a:=by unfold v_;rw[Î b,h]
def gU:Nat->D->Í
 |0,_=>Â|n+1,.tup xs=>Ĕf (gU n)|n+1,.lst xs=>Ĕf (gU n)|_+1,d=>xD d
theorem Fz{f:D->D->Í}:∀{xs:Á D},(∀x∈xs,f x x=Ã)->pp f xs xs=Ã
 | [],_=>rfl|x::xs,h=>by show(f x x&&pp f xs xs)=Ã;rw[h x ŕc,Fz λy a=>h y ŧg];rfl
theorem C1:∀{xs:Á D},(∀x∈xs,xZ x x=Ã)->Ēc xs xs=Ã
 | [],_=>rfl|x::xs,h=>by show(xZ x x&&Ēc xs xs)=Ã;rw[h x ŕc,C1 λy a=>h y ŧg];rfl
theorem JV:∀(n:Nat)(d:D),gU n d=Ã->uh n d d=Ã/\xZ d d=Ã
 |0,_,h=>by cases h|n+1,d,h=>by
  cases d with
  |tup xs=>have c:∀x∈xs,gU n x=Ã:=Ħb h;exact⟨Fz λx a=>äg.1,C1 λx a=>äg.2⟩|lst xs=>have c:∀x∈xs,gU n x=Ã:=Ħb h;exact⟨Fz λx a=>äg.1,C1 λx a=>äg.2⟩|dic ks vs=>cases h|exc _=>cases h|obj _ _ _=>cases h|zE=>exact⟨rfl,rfl⟩|bl b=>exact⟨rfl,Õd b⟩|int i=>exact⟨rfl,Õd i⟩|str z=>exact⟨rfl,Õd z⟩
def z0x(h:gU 6 d=Ã):ZL d d=À Ã:=by
 obtain⟨a,b⟩:=JV 6 d h
 have e:ZL d d=match uh 6 d d with
  |Ã=>À (xZ d d)|Â=>Ä:=by cases d<;>rfl
 rw[e,a,b]
theorem WU(h:gU 6 d=Ã):xg d d=À û:=by unfold xg;rw[z0x h];rfl
def WK{i j:Int}(h:i=j):zp ôa ïd=À Ō:=by subst h;show À (Ĕc (i==i))=_;rw[Õd]
theorem LG{i j:Int}(h:i≠j):zp ôa ïd=À û:=by show À íj=_;rw[ĝc h]
theorem âa{i j:Int}:yW ôa ïd=À Ĵj:=rfl
def z1i:∀{ks:Á ħ} {vs:Á α},ĩ=þ->∀k',Ā Ðf Ōe k'=if k=k' then À v else Ā ks vs k':=by
 have f:∀{ks:Á ħ} {vs:Á α},ĩ=þ->∀k',yp ks k=Ã->Ā ks šh k'=if k=k' then À v else Ā ks vs k':=by
  intro ks
  induction ks with
  |nil=>intro vs _ k' h;cases h|đ a ks ih=>
   intro vs c k' h;cases vs with
   |nil=>cases c|đ b vs=>
    rw[Ùc];unfold Ā;by_cases e1:a=k;subst e1;by_cases e2:a=k';rw[Î e2,Î e2,Î rfl];rw[Ð e2,Ð e2,Ð e2];by_cases e3:yp ks a=Ã;have:=ih (vs:=vs) œd k' e3;rw[this,Ð e2];have:∀{ks:Á ħ} {vs:Á α},ĩ=þ->yp ks a=Â->Ā ks (ĭb (λk' x=>if k'=a then v else x) ks vs) k'=Ā ks vs k':=by
     intro ks
     induction ks with
     |nil=>intro vs _ _;rfl|đ a' ks ih'=>
      intro vs c h;cases vs with
      |nil=>cases c|đ b vs=>
       have d:decide (a'=a)=Â/\yp ks a=Â:=by have:(decide (a'=a)||yp ks a)=Â:=h;exact Bool.or_eq_false_iff.mp this
       rw[Ùc];unfold Ā;rw[Ð (ťn d.1),ih' œd d.2]
    exact this œd (by simpa using e3);have d:yp ks k=Ã:=by have:(decide (a=k)||yp ks k)=Ã:=h;rw[ć e1]at this;exact this
    have:=ih (vs:=vs) œd k' d;rw[this,Ð e1];by_cases e2:a=k';rw[Î e2];rw[Ð (λe=>e1 (e2.trans Ĝf)),Î e2];rw[Ð e2];by_cases e3:k=k';rw[Î e3,Î e3];rw[Ð e3,Ð e3,Ð e2]
 intro ks vs c k';unfold wM wC;by_cases h:yp ks k=Ã;rw[Î h,Î h];exact f c k' h;rw[Ð h,Ð h];clear f
 induction ks generalizing vs with
 |nil=>
  cases vs with
  |nil=>rfl|đ _ _=>cases c
 |đ a ks ih=>
  cases vs with
  |nil=>cases c|đ b vs=>
   have d:¬ a=k/\¬ yp ks k=Ã:=by
    have:¬ (decide (a=k)||yp ks k)=Ã:=h
    constructor;intro e;exact this (by rw[ï e];rfl);intro e;exact this (by rw[e,Bool.or_true])
   rw[ļe,ļe];show(if a=k' then À b else Ā (ks++[k]) (vs++[v]) k')=if k=k' then À v else if a=k' then À b else Ā ks vs k'
   rw[ih œd d.2];by_cases e:a=k';rw[Î e,Î e];rw[Ð (λg=>d.1 (Żb g.symm))];rw[Ð e,Ð e]
theorem z3t(a:Sum Int Str):yp Ðf a=(yp ks a||decide (k=a)):=by unfold wM;by_cases h:yp ks k=Ã;rw[Î h];by_cases e:k=a;subst e;rw[h];rfl;rw[ć e,ßj];rw[Ð h];unfold yp;rw[List.any_append];simp
theorem Ef{α:Type}:∀{ks:Á ħ} {us:Á α} {as:Á ħ} {vs:Á α},ĩ=š->∀k,yp Ùd.1 k=(yp as k||yp ks k)
 | [],us,as,vs,_,k=>by show yp as k=(yp as k||Â);rw[ßj]|a::ks,[],_,_,h,_=>by cases h|a::ks,u::us,as,vs,h,k=>by show yp (wL (wM as a) (wC as vs a u) ks us).1 k=_;rw[Ef úb,z3t];show _=(yp as k||(decide (a=k)||yp ks k));rw[Bool.or_assoc]
theorem oi{L M:Á D}(h:Öb+Ëh<=1000):yW (.lst L) (.lst M)=À (Ε (L++M)):=by show(if Öb+Ëh<=yY then _ else _)=_;rw[Î Şf]
theorem dh(xs:Á D):xg Ğa Čk=À (.bl (!xs.isEmpty)):=by
 cases xs with
 |nil=>exact WU (d:=.lst []) rfl|đ x r=>have e:xZ śp Čk=Â:=rfl;show(À (xZ śp Čk)).bind _=_;rw[e];rfl
theorem Fo:∀(n:Nat){l:Á Nat},l.Nodup->(∀x∈l,x<n)->Ďb<=n
 |0,l,_,h=>by
  cases l with
  |nil=>exact êa _|đ x r=>exact Û (h x ŕc) Ği
 |n+1,l,hd,h=>by
  by_cases hm:n∈l;have b:=Fo n (hd.erase n) λx a=>by have:=(hd.mem_erase_iff).mp a;have:=h x this.2;omega
  rw[List.length_erase_of_mem hm]at b;omega;have b:=Fo n hd λx a=>by
   have d:=h x a;have c:x≠n:=λe=>hm (e▸a)
   omega
  omega
def GQ{x y:D}{b:Í}(h:zp x y=À ąc):xg x y=À (.bl (!b)):=by
 unfold zp at h;unfold xg;cases e:ZL x y with
 |Ä=>rw[e]at h;cases h|À k=>rw[e]at h;cases h;rfl
def r9(b:n<2 ^ w)(a:y/2 ^ l%2 ^ w=0):(y &&& ąk)=0:=by
 apply čn;intro i;rw[śi,ėo];rw[çi];by_cases hl:l<=i;by_cases hi:i-l<w;have e:ſe i=(y/2 ^ l%2 ^ w).testBit (i-l):=by rw[Ân,Ãn,ï hi,Āg,įe hl]
 rw[e,a,ėo,Įc];have:n.testBit (i-l)=Â:=Nat.testBit_lt_two_pow (Ů b (Nat.pow_le_pow_right É Å));rw[this];simp;simp[hl]
theorem oz(x l w:Nat):(x &&& (śr*2 ^ l))=x/2 ^ l%2 ^ w*2 ^ l:=by apply čn;intro i;rw[śi,çi,çi,Nat.testBit_two_pow_sub_one,Ân,Ãn];by_cases hl:l<=i;simp[hl,įe hl];rw[Bool.and_comm];simp[hl]
theorem sR(l w:Nat):Þi=((śr*2 ^ l:Nat):Int):=by have h:1<=2 ^ w:=Nat.one_le_two_pow;rw[Int.natCast_mul,Int.natCast_sub h];simp
def rQ(a:0<=x)(l w:Nat):šb x Þi=x/2^l%2^w*2^l:=by obtain⟨n,rfl⟩:=śb a;rw[sR,Ön ċf ċf,ľ,ľ,oz];simp
def rP(d:0<=y)(h:0<=n)(g:n<2 ^ w)(hz:y/2 ^ l%2 ^ w=0):šb y ąk=0:=by
 obtain⟨a,rfl⟩:=śb d;obtain⟨b,rfl⟩:=śb h;have e:(b:Int)*2 ^ l=((b*2 ^ l:Nat):Int):=by simp
 have c:b<2 ^ w:=by
  have:((2 ^ w:Nat):Int)=(2:Int) ^ w:=by simp
  omega
 have f:a/2 ^ l%2 ^ w=0:=by
  have:((a/2 ^ l%2 ^ w:Nat):Int)=(a:Int)/2 ^ l%2 ^ w:=by simp
  omega
 rw[e,Ön ċf ċf,ľ,ľ,r9 c f];rfl
def ss{x p r:Int}(g:0<=x)(a:0<p)(b:0<r):0<=x-x/p%r*p/\Ĥg/p%r=0/\Ĥg/p/r=x/p/r/\Ĥg%p=x%p:=by
 have f:0<=x/p:=ši g (þa a);have e1:x-x/p%r*p=x+p*(-(x/p%r)):=by rw[Int.mul_neg,Int.mul_comm p];omega
 have e2:Ĥg/p=x/p-x/p%r:=by rw[e1,Int.add_mul_ediv_left _ _ (şe a)];omega
 have c:x/p-x/p%r=r*(x/p/r):=by have:=ôn (x/p) r;omega
 refine⟨?_,?_,?_,?_⟩;have d:x/p%r<=x/p:=by have:=ôn (x/p) r;have e:0<=x/p/r:=ši f (þa b);have j:0<=r*(x/p/r):=Int.mul_nonneg (þa b) e;omega
 have h:x/p%r*p<=x/p*p:=Int.mul_le_mul_of_nonneg_right d (þa a);have i:=Int.ediv_mul_le x (şe a);omega;rw[e2,c];exact Ůn _ _;rw[e2,c];exact Int.mul_ediv_cancel_left _ (şe b);rw[e1];exact Int.add_mul_emod_self_left ..
def eP(x:Int)(w:Nat):šb x ((1:Int)*2 ^ w-1)=x%2 ^ w:=by rw[ëd,W.kbt_mask]
theorem x6g{x n:Int}{l w:Nat}(b:0<=x)(f:0<=n)(a:n<2 ^ w):âd (šb x (Ðd Þi)) ąk=x+(n-x/2 ^ l%2 ^ w)*2 ^ l:=by have d:(0:Int)<2 ^ l:=įj É;have c:(0:Int)<2 ^ w:=įj É;obtain⟨e,g,_,_⟩:=ss b d c;rw[PyProof.Rows.bitAnd_not,rQ b,PyProof.Rows.bitOr_and,rP e f a g,Int.sub_mul];omega
def ae(a:Nat):decide ((0:Int)<=Ðd (a:Int))=Â:=ć (by unfold Ðd;omega)
def b0(a:Nat):decide ((0:Int)<=(a:Int))=Ã:=ï (Ÿc a)
def rT(a:Int):Ðd (Ðd a)=a:=by unfold Ðd;omega
def aj(a b:Nat):âd (a:Int) (b:Int)=((a ||| b:Nat):Int):=by unfold âd šb;rw[ae,ae];simp only[rT,ľ]
theorem aR(a b:Nat):šb (a:Int) (b:Int)=((a &&& b:Nat):Int):=by unfold šb;rw[b0,b0];simp only[ľ]
def aP:FS:=
 (zZ (xR (tE (e2 ļc ý Ŀc))
   (yF ųf)
   xq)
  (yF ī))
def z4b(ns:Á Int)(k:Nat):þb[k]?=(ns[k]?).map ĉ:=Ŧ
noncomputable def pj(ns:Á Int)(k:Int):Int:=Ĺg Ũ 0
noncomputable def jO:Á D->Æ ä
 | [.lst xs,.int k]=>if 0<=k then((xs[Ũ]?).getD Ł |> λd=>À (Â,d))else Ä|_=>Ä
def U3(ns:Á Int){k:Int}(h:0<=k):jO [.lst þb,.int k]=À (Â,.int (pj ns k)):=by show(if 0<=k then _ else _)=_;rw[Î h,z4b];unfold pj;rw[øa];cases ns[Ũ]?<;>rfl
def y53:∀ds r,jO ds=À r->ď=2/\yH 2 aP ds=À r:=λds r h=>by
 unfold jO at h
 split at h;rename_i a k;refine⟨rfl,?_⟩;by_cases h0:0<=k;rw[Î h0]at h;cases h;unfold aP;by_cases c:k<(ĳa:Int);have e:zM óf ôf=À ((a[Ũ]?).getD Ł):=by show v_ a k=_;unfold v_;rw[Î h0,Ĕ Å];rfl
 simp only[Ó,ï c,e];have e:a[Ũ]?=Ä:=Ŝb Å;simp only[Ó,ć c,e,Option.getD];rw[Ð h0]at h;cases h;cases h
def Fu(h:Ąd<2 ^ m):vw i<=m:=by
 by_cases c:i=0;subst c;exact ęa _;have e:vw i=Ùj+1:=by show(if(i==0)=Ã then 0 else Ùj+1)=_;rw[Ð œd]
 rw[e];exact(ĕr).mpr h
def Ub{i j:Int}(a:0<=j)(c:j<64)(d:0<=i)(b:i<2 ^ 64):p6 i j=Ã:=by unfold p6;rw[ï a,ï (show j<=1000000 by omega),ï (show Ąd<2 ^ 64 by omega)];rfl
def aQ:FS:=
 (zZ (yP 4 (e2 uj ņm ý))
  (yF (e2 (py âd) (e2 ĸk Ă (e1 CK Ų)) (e2 uj ġ ý))))
def fE{d:Nat}(h:d<64):1<=(2:Int) ^ d/\(2:Int) ^ d<2 ^ 64:=by
 have a:(2:Nat) ^ d<2 ^ 64:=Nat.pow_lt_pow_right É h;have b:0<(2:Nat) ^ d:=Nat.pow_pos É;have e:((2 ^ d:Nat):Int)=(2:Int) ^ d:=by simp
 have e2:((2 ^ 64:Nat):Int)=(2:Int) ^ 64:=by decide
 omega
noncomputable def ZC:Á D->Æ ä
 | [.int x,.int l,.int d,.int n]=>if Äi/\0<=n/\n<2 ^ čd then À (Â,.int ŝh)else Ä|_=>Ä
def y56:∀ds r,ZC ds=À r->ď=4/\yH 5 aQ ds=À r:=λds r h=>by
 unfold ZC at h
 split at h;rename_i x l d n;refine⟨rfl,?_⟩
 split at h;rename_i c;obtain⟨⟨f,a,b,g,m⟩,e,k⟩:=c;obtain⟨q,p⟩:=fE (d:=čd) Å;cases h;have e1:=Ub (i:=1) (j:=d) g m É É;have e2:=Ub (i:=1*2 ^ čd-1) (j:=l) a b Å Å;have o:=Ub (i:=n) (j:=l) a b e Å;unfold aQ;simp only[Ó,e1,e2,o,CK,x6g f e k];cases h;cases h
def mZ{x l d n:Int}(h:Äi/\0<=n/\n<2 ^ čd):ZC [.int x,.int l,.int d,.int n]=À (Â,.int ŝh):=Î h
def OU:FS:=
 (yF (e2 ĸk Ţo ņm))
def wZ:Á D->Æ ä:=FR 3 3 OU
def cH(x0 x1 x2:D):wZ ŷ=yH 3 OU ŷ:=rfl
def Db:FS:=
 (zZ (yP 3 (e2 yW šo þn))
  (Ω (zA (e2 xP ġ ïf) (Α (e2 ţe ġ ïf)))))
def VZ:Á D->Æ ä:=FR 3 4 Db
def z20(x0 x1 x2:D):VZ ŷ=yH 4 Db ŷ:=rfl
def Fd:FS:=
 (zZ (yP 3 (e2 gJ (e2 gJ Ă ý) þn))
  (zZ (xR (tE (e2 ļc ġ ī))
   (Ω (zA (e2 yW ġ ïf) Áj))
   xq)
  (Ω ĝn)))
def Vl:Á D->Æ ä:=FR 3 4 Fd
def z3h(x0 x1 x2:D):Vl ŷ=yH 4 Fd ŷ:=rfl
def FK:FS:=
 (zZ (Μ (e2 uj Ă ý))
  (zZ (yP 3 (μc (Ο (zA ĩe Ģg))))
  (Ω (zA (zT wZ (Ο (ψ Ķr))) ŉc))))
def YL:Á D->Æ ä:=FR 2 4 FK
def z34(x0 x1:D):YL õ=yH 4 FK õ:=rfl
def FN:FS:=
 (zZ (Μ (μc (Ξ (zA (e2 gJ ý ň) Ģg))))
  (Ω (zA Ţo ķb)))
def YM:Á D->Æ ä:=FR 2 3 FN
def z35(x0 x1:D):YM õ=yH 3 FN õ:=rfl
def IP:FE:=(zT wZ (Ξ (δ ñk)))
def Dj:FS:=
 (yF (Ηc (xw 1 (uq Ãl) Ĺa yf IP)))
def Vc:Á D->Æ ä:=FR 1 1 Dj
def z27(x0:D):Vc ð=yH 1 Dj ð:=rfl
def Pn:FE:=(e2 uj ý ċ)
def Fj:FS:=
 (yF (eL CP (Α (xw 2 (t_ Ă Ãl) (uO 1 2) yf Pn))))
def QF:Á D->Æ ä:=FR 1 1 Fj
def z3n(x0:D):QF ð=yH 1 Fj ð:=rfl
def Dh:FS:=
 (yF (CA Ă ý ī))
def Vb:Á D->Æ ä:=FR 2 2 Dh
def z25(x0 x1:D):Vb õ=yH 2 Dh õ:=rfl
def De:FS:=
 (yF (zT wZ (zA šo (ψ (Α îf)))))
def Va:Á D->Æ ä:=FR 2 2 De
def z22(x0 x1:D):Va õ=yH 2 De õ:=rfl
def Mq:FE:=(zT Va Ĩc)
def Dx:FS:=
 (qc (xw 1 (uo ī ťb) Ĺa yf Mq))
def Xj:Á D->Æ ä:=FR 1 1 Dx
def z2l(x0:D):Xj ð=yH 1 Dx ð:=rfl
def Ms:FE:=(zT Vb (zA Ă ķb))
def Fh:FS:=
 (yF (zT QF (Α (xw 1 (uq ļj) Ũc yf Ms))))
def QC:Á D->Æ ä:=FR 2 2 Fh
def z3l(x0 x1:D):QC õ=yH 2 Fh õ:=rfl
def FW:yR:=
 (WQ 0 [] ý (xf (zT wZ (Ο (ψ ñk)))))
def Vk:FM:=ve 3 3 FW
def z3a(x0 x1 x2:M):Vk ŷ=wX 3 3 FW ŷ:=rfl
def LR:yR:=(qz (pf Vk (qt 0 [] (vE ġ (vE Ų wU)))))
def FX:yR:=
 (LW (t_ ļj Ęq) (UM 3 4)
   LR)
def Q9:FM:=ve 3 5 FX
def z3b(x0 x1 x2:M):Q9 ŷ=wX 3 5 FX ŷ:=rfl
def mh:FE:=(wA ĝn)
def DZ:yR:=
 (xK (q_ 0 [] [ŀ] ş (Qg (eL W8 øb)))
  (xK (q_ 0 [] [ŀ] Ăb (Qg (Ζc (xw 1 (uq čh) Ĥf yf mh))))
  (q_ 0 [] [ŀ] ëa (Qg (eL Oo ķb)))))
def VX:FM:=ve 3 3 DZ
def z1y(x0 x1 x2:M):VX ŷ=wX 3 3 DZ ŷ:=rfl
def Dr:yR:=
 (ω (xf ńd))
def Tt:FM:=ve 2 2 Dr
def z2f(x0 x1:M):Tt õ=wX 2 2 Dr õ:=rfl
def Do:yR:=
 (kR 0 èg Ñc (jb (zT ZC (zA ŀf (zA îf (zA îf (Α ńd)))))))
def To:FM:=ve 2 2 Do
def z2c(x0 x1:M):To õ=wX 2 2 Do õ:=rfl
def Dn:yR:=
 (ω (jb Źh))
def Tn:FM:=ve 2 2 Dn
def z2b(x0 x1:M):Tn õ=wX 2 2 Dn õ:=rfl
def Xz:FS:=
 (zZ (xR (Ηb (eC ĵc))
   (yF (zT VZ (δ (Ο (zA çg zG)))))
   xq)
  (zZ (xR (Ηb (eC ĳc))
   (yF (zT VZ Ųn))
   xq)
  (yF (zT Vl (δ (Ο (Α (U9 ġ (e2 zp Ă (eC Ĳc))))))))))
def Xm:Á D->Æ ä:=FR 4 4 Xz
def Qy(x0 x1 x2 x3:D):Xm Ŭd=yH 4 Xz Ŭd:=rfl
def FJ:yR:=
 (xK (οa Že (e2 zp ý ī))
  (οa że (e2 zp (zT wZ (δ (zA (e2 gJ ĩe ň) Ģg))) ň)))
def Xl:FM:=ve 2 2 FJ
def z33(x0 x1:M):Xl õ=wX 2 2 FJ õ:=rfl
def OR:yR:=
 (xK (vk 2 (jb (zT Xm (Ηe (zA Źh (Α (e2 zM (Λ (xV ďr Ăb)) (eC ňc))))))))
  (xK (οa ňc ũi)
  (xK (ςb (vE ïg wU))
  (WO (θa (e2 xg Şb (eC Ŭb)))
   (ω (xf ïg))
   WP))))
def g8:FM:=ve 2 3 OR
def cE(x0 x1:M):g8 õ=wX 2 3 OR õ:=rfl
def F4:FS:=
 (zZ (xR (Ηb (eC ŷd))
   (Αc ĸk)
   xq)
  (zZ (xR (Ηb (eC śe))
   (Αc (py âd))
   xq)
  (Αc (py żi))))
def Vf:Á D->Æ ä:=FR 3 3 F4
def z2s(x0 x1 x2:D):Vf ŷ=yH 3 F4 ŷ:=rfl
def Dm:yR:=
 (xK (vk 2 (jb (zT Vf (Ηe (Α (e2 zM (Λ ân) ńd))))))
  (xK (ςb (vE ċ wU))
  (ω Ĳk)))
def YI:FM:=ve 2 3 Dm
def z2a(x0 x1:M):YI õ=wX 2 3 Dm õ:=rfl
def OQ:yR:=
 (xK (vk 2 (jb ŀf))
  (xK (vk 3 (xf (uN (tE (Θb (.str śa))) (zT YL ŋo) (zT YM ŋo))))
  (xK (WO (θa (e2 UD îg Ča))
   (οa ňc îg)
   WP)
  (xK (ςb (vE şo wU))
  (kR 0 èg Ñc (xf şo))))))
def YJ:FM:=ve 2 4 OQ
def cD(x0 x1:M):YJ õ=wX 2 4 OQ õ:=rfl
def Dd:FS:=
 (yF (zT Va (zA Źh (Α (e2 zM ý Ħc)))))
def YG:Á D->Æ ä:=FR 2 2 Dd
def z21(x0 x1:D):YG õ=yH 2 Dd õ:=rfl
def Dp:yR:=
 (ω (jb (zT Vb Ŭl)))
def Tr:FM:=ve 2 2 Dp
def z2d(x0 x1:M):Tr õ=wX 2 2 Dp õ:=rfl
def Dq:yR:=
 (ω (jb (zT QC Ŭl)))
def Ts:FM:=ve 2 2 Dq
def z2e(x0 x1:M):Ts õ=wX 2 2 Dq õ:=rfl
def Ds:yR:=
 (qz (pf Vk Æm))
def Tu:FM:=ve 2 2 Ds
def z2g(x0 x1:M):Tu õ=wX 2 2 Ds õ:=rfl
def Dt:yR:=
 (qz (pf Q9 Æm))
def Tv:FM:=ve 2 2 Dt
def z2h(x0 x1:M):Tv õ=wX 2 2 Dt õ:=rfl
noncomputable def qN:Á ħ:=ćd .inr [şa,àb,ōb,Ša,ēb,Ęb,Ēb,ķa,ěb,íb,ęb,śa,Ûb,ßb,řa,Řa,őa]
noncomputable def bM:Á Str:=[Źg,Ŏg,ŏg,Ŏc,Ŏc,Ŏc,Ŏc,Ŏc,Æe,Æe,Æe,že,že,ōg,ıg,İg,ęg]
def U6:Á FM:=[Tt,To,Tn,g8,g8,g8,g8,g8,YI,YI,YI,YJ,YJ,Tr,Ts,Tu,Tv]
def Qb:yR:=
 (WO (θa (e1 (Yd qN) Şb))
   (qz (Fx qN U6 Şb (qt 0 [] (vE ý wU))))
   WP)
def pR:FM:=ve 2 2 Qb
def Ci(x0 x1:M):pR õ=wX 2 2 Qb õ:=rfl
def rM:FS:=
 (zZ (xR (tE (Θb ńg))
   (yF þm)
   xq)
  (zZ (xR (tE (Θb źj))
   (yF (CB þm))
   xq)
  (yF (Θb Ņg))))
def pS:Á D->Æ ä:=FR 2 2 rM
def DW:FS:=
 (yF (Oj (e2 zp Ìi (Λ (xV į ėb))) (e2 zp (e2 zM ĝm ī) (wA (Α (eC ŋg))))))
def vQ:Á D->Æ ä:=FR 1 1 DW
def z1v(x0:D):vQ ð=yH 1 DW ð:=rfl
def OP:yR:=
 (xK (WO (θa (Qk ńm (zT vQ (vg ù ľb Ă zG))))
   ķp
   WP)
  (xK (vk 1 (jb ĝm))
  (xK (qz (pf pR (qt 0 īe (vE Şb wU))))
  (xK (q_ 0 [] į ūc (jb (uN (tE (zT pS (zA ŵn (Α Şb)))) ńd Ñc)))
  (xK (GJ 0 [] į ćc ň)
  (WR (xf (eC Ō))))))))
def uc:FM:=ve 1 2 OP
def cC(x0:M):uc ð=wX 1 2 OP ð:=rfl
abbrev jT:Á ħ:=[.inr ăa,.inr ŋa,.inr ųa]
noncomputable def X9(a b c:Í):D:=.dic jT Ĝc
def st(ws:Á D)(a b c:Í)(hk:Á ħ)(hv:Á D):M:=.obj ŀ âj [.own ûd,.own Äe,.own ãc]
def xv(ws:Á D)(a b c:Í)(hk:Á ħ)(hv:Á D):D:=.obj ŀ âj [.lst ws,X9 a b c,.dic hk hv]
abbrev tI:Á Str:=[àa,ėb,Ûc,ĩc,Ōa,ūc,ćc]
inductive uK:Str->Prop
 |row:uK ú
 |word:uK ù
noncomputable def yN(C:Str)(T:D)(e:Int)(fw fh:D)(s:M)(due done:Int):M:=.obj C tI [.fz T,.fz æh,.fz fw,.fz fh,s,.fz ŉg,.fz ĳq]
noncomputable def xM(C:Str)(T:D)(e:Int)(fw fh:D)(s:D)(due done:Int):D:=.obj C tI [T,.int e,fw,fh,s,.int due,.int done]
section
variable{C:Str}{ws ws':Á D}{a b c d':Í}{hk hk':Á ħ}{hv hv':Á D}{T fw fh sd:D}{e due done:Int}{s s':M}
def uV:uU ģc=xv ws a b c hk hv:=by simp only[st,xv,uU,ħd]
theorem Wp:uU Ŀf=xM C T e fw fh (uU s) due done:=by simp only[yN,xM,uU,ħd]
theorem Xy{i:Nat}{π:Á xj}:gH ģc i π=.p i π:=rfl
def gI:qx ģc èg=À (.own ûd):=rfl
def Qa:qx ģc ŉo=À (.own (.dic jT Ĝc)):=rfl
def aM:qx ģc Ód=À (.own ãc):=rfl
def gW:p8 ģc èg (.own (.lst ws'))=À (st ws' a b c hk hv):=rfl
def fT:p8 ģc Ód (.own (.dic hk' hv'))=À (st ws a b c hk' hv'):=rfl
def Jd{x y z:Í}:p8 ģc ŉo (.own (.dic jT [.bl x,.bl y,.bl z]))=À (st ws x y z hk hv):=rfl
def p_:xV [ŀ] ş Ĝi=À ûd:=rfl
def CS:xV [ŀ] Ăb Ĝi=À Äe:=rfl
def CQ:xV [ŀ] ëa Ĝi=À ãc:=rfl
def P1:zM Äe ňc=À (.bl a):=rfl
def x2h:zM Äe Že=À ąc:=rfl
def x2i:zM Äe że=À (.bl c):=rfl
def Lk:wM jT Úr=jT:=rfl
def y3l:wM jT Ùr=jT:=rfl
def y3n:wM jT Ør=jT:=rfl
def Lo:wC jT ċi Úr Ŋk=[.bl d',.bl b,.bl c]:=rfl
def y46:wC jT ċi Ùr Ŋk=[.bl a,.bl d',.bl c]:=rfl
def y47:wC jT ċi Ør Ŋk=[.bl a,.bl b,.bl d']:=rfl
def aN(a:uK C):qx Ŀf īe=À s:=by cases a<;>rfl
def fU(a:uK C):p8 Ŀf īe s'=À (yN C T e fw fh s' due done):=by cases a<;>rfl
def CT(a:uK C):xV į àa ĸd=À T:=by cases a<;>rfl
def bX(a:uK C):xV į ėb ĸd=À æh:=by cases a<;>rfl
def Qu(a:uK C):xV į Ōa ĸd=À sd:=by cases a<;>rfl
def Qt(a:uK C):xV į ūc ĸd=À ŉg:=by cases a<;>rfl
def z14(a:uK C):xV į ćc ĸd=À ĳq:=by cases a<;>rfl
def be(a:uK C){d2:Int}{ĵ:yD}:jl (.fz (.int d2)) Ëe 0 [] į ūc=À (Ν (yN C T e fw fh s d2 done)):=by cases a<;>rfl
def aO(a:uK C){ĵ:yD}:GJ 0 [] į ćc ň Ëe=À (Ν (yN C T e fw fh s due (done+1))):=by cases a<;>rfl
def bQ(b:uK C){m:Str}{F:Á D->Æ ä}{τ:yE}{r:D}(c:m ∉ tI)(h:F Ôc=À (Â,r)):Qk (zT F (vg ú m Ă zG)) (zT F (vg ù m Ă zG)) Ŧh=À r:=by
 have a:∀x:Str,zT F (vg x m Ă zG) Ŧh=match decide Ąe with|Ã=>À r|Â=>Ä:=λx=>by
  show(vg x m Ă zG Ŧh).bind _=_;show((match decide Ąe&&!(decide ëf)with|Ã=>À Ôc|Â=>Ä).bind _)=_;rw[ć c];cases decide Ąe with
  |Â=>rfl|Ã=>show(F Ôc).bind _=_;rw[h];rfl
 unfold Qk;rw[a,a];cases b with
 |row=>rfl|word=>rfl
#print a
noncomputable def wI(ns:Á Int):Á D:=Ĕb ĉ
def gg{ns:Á Int}{k:Nat}{v:Int}:(êe).set k àe=wI (ns.set k v):=(List.map_set ..).symm
def jv{ns:Á Int}:(êe).length=Ôa:=ç ..
def gQ{n k:Nat}(h:k<n):ál n (k:Int)=À k:=by unfold ál;rw[Î ăh];simp[h]
theorem qS{ns:Á Int}{k:Nat}{v:Int}(h:ns[k]?=À v):zM (Ε êe) ùg=À àe:=by show v_ êe (k:Int)=_;unfold v_;rw[Î ăh];show êe[((k:Int)).toNat]?=_;rw[ľ];unfold wI;rw[Ŧ,h];rfl
def IE{C:Str}(a:uK C){T fw fh sd row nx tg:D}{e due done:Int}{k:Í}(h:due≠e->zM T ŉg=À ĩi/\zp row úa=À Đf) :vQ Ôc=À (Â,.bl (decide (due=e)||k))\/due=e/\vQ Ôc=À (Â,.bl Ã):=by
 have b:∀{i j:Int},zp ôa ïd=À ąq:=λ{i j}=>by show À íj=_;rw[show Ĭf=decide (i=j)from rfl]
 have l:∀{x y z:D},zM àd Ł=À x:=rfl;rw[z1v];unfold DW;by_cases c:due=e;right
 refine⟨c,?_⟩;simp only[Ó,Qt a,bX a,b,c,ÿa];left
 obtain⟨f,g⟩:=h c;have d:decide (due=e)=Â:=ć c;rw[d];simp only[Ó,Qt a,bX a,CT a,b,d,f,l,g];rfl
def lR{C:Str}(a:uK C){T fw fh row tg:D}{e due done:Int}{s s':M}{nx:D}{d2:Int}(c:due≠e)(f:zM T ŉg=À ĩi)(u:zp row úa=À û)(i:wz ĩi=Ã)(ns:∀d,s≠.fz d)(l:pR [s,.fz row]=À ([s',.fz row],.fz .zE))(ld:Í)(j:pS [uU s',row]=À (Â,.bl ld))(o:(if ld then tg else nx)=.int d2) :uc Ði=À ([yN C T e fw fh s' d2 (done+1)],.fz Ō):=by
 have t:vQ øm=À (Â,.bl Â):=by rcases IE a (T:=T) (fw:=fw) (fh:=fh) (sd:=uU s) (row:=row) (nx:=nx) (tg:=tg) (e:=e) (due:=due) (done:=done) (k:=Â) λ_=>⟨f,u⟩with z|⟨z,_⟩;rw[z,ć c];rfl;exact Û z c
 have q:∀{x y z:D},zM àd Ł=À x:=rfl;have g:∀{x y z:D},zM àd Ŗa=À y:=rfl;have h:∀{x y z:D},zM àd Ŷb=À z:=rfl
 have r:gH s 0 īe=.p 0 īe:=by
  cases s with
  |fz d=>exact Û rfl (ns d)|_=>rfl
 have n:=λτ:yE=>bQ a (F:=vQ) (m := ľb) (τ:=τ) ĥ t
 rw[cC];unfold OP;cases ld with
 |Â=>have b:nx=.int d2:=o;subst b;simp only[Ņ,Wp,n,CT a,Qt a,f,i,q,g,h,aN a,fU a,r,l,Qu a,j,be a,aO a]|Ã=>have b:tg=.int d2:=o;subst b;simp only[Ņ,Wp,n,CT a,Qt a,f,i,q,g,h,aN a,fU a,r,l,Qu a,j,be a,aO a]
theorem ge{x y z:D}:zM àd Ł=À x:=rfl
def kr{x y z:D}:zM àd Ŗa=À y:=rfl
def ku{x y z:D}:zM àd Ŷb=À z:=rfl
def W4{x y:D}:zM Ŷd Ł=À x:=rfl
def W5{x y:D}:zM Ŷd Ŗa=À y:=rfl
def Ęd{i j:Int}:zp ôa ïd=À ąq:=by show À íj=_;rw[show Ĭf=decide (i=j)from rfl]
theorem WL{x:Str}:uP Ņb=À èh:=rfl
def JN:decide (3<yY)=Ã:=by decide
def Yl:zM (.tup (y::xs)) Ł=À y:=rfl
section
variable{Ws:Á Int}{a b c:Í}{hk:Á ħ}{hv:Á D}
def z0m{d:Nat}{n:Int}(e:d<ŏa):Tt [st Ħ a b c hk hv,.fz Èm]=À ([st (wI (Ğf d n)) a b c hk hv,.fz Èm],.fz .zE):=by rw[z2f];unfold Dr;simp only[Ņ,ge,kr,ku,gI,gW,jv,gQ e,gg]
theorem z0g{d s:Nat}{v:Int}(f:d<ŏa)(e:Ws[s]?=À v):Tn [st Ħ a b c hk hv,.fz Śl]=À ([st (wI (Ğf d v)) a b c hk hv,.fz Śl],.fz .zE):=by rw[z2b];unfold Dn;simp only[Ņ,uV,p_,qS e,ge,kr,ku,gI,gW,jv,gQ f,gg]
theorem WN{w:Int}{g:Int}(h:wZ Àd=À (Â,.int g)):Xl [st Ħ a b c hk hv,.fz äh]=À ([st Ħ a (decide Āe) (decide ăe) hk hv,.fz äh],.fz .zE):=by rw[z33];unfold FJ;simp only[Ņ,uV,h,Ęd,WL,Qa,Jd,JN,y3l,y3n,y46,y47]
theorem z0h{d:Nat}{n v w:Int}(e:Ws[d]?=À v)(h:ZC [.int v,.int 16,.int 16,.int n]=À (Â,.int w)):To [st Ħ a b c hk hv,.fz Úm]=À ([st ĵe a b c hk hv,.fz Úm],.fz .zE):=by have f:d<ŏa:=čf.1;rw[z2c];unfold Do;simp only[Ņ,uV,p_,qS e,h,ge,kr,ku,gI,gW,jv,gQ f,gg]
theorem z0p{k:Str}{d s:Nat}{x y w g:Int}{u:Í}(e:xg Ģa Ŭb=À Ō)(f:Ws[d]?=À x)(l:Ws[s]?=À y)(h:Xm Ĵm=À (Â,.tup ži))(j:wZ Àd=À (Â,.int g)) :g8 ım=À ([st ĵe u (decide Āe) (decide ăe) hk hv,.fz Łc],.fz .zE):=by have i:d<ŏa:=ąh.1;rw[cE];unfold OR;simp only[Ņ,uV,p_,CS,P1,qS f,qS l,h,ge,kr,ku,W4,W5,WL,Qa,Jd,JN,Lk,Lo,WN j,Xy,e,gI,gW,jv,gQ i,gg]
theorem Yb{k:Str}{d s:D}{F:FM}{S a:M}(b:Yd qN Ģa=À Ō)(c:Ā qN U6 øf=À F)(e:∀d,S≠.fz d)(g:wz d=Ã)(i:wz s=Ã)(h:F ÿq=À (ýq,.fz .zE)) :pR ÿq=À (ýq,.fz .zE):=by
 rw[Ci];unfold Qb
 have f:gH S 0 []=.p 0 []:=by
  cases S with
  |fz d=>exact Û rfl (e d)|_=>rfl
 simp only[Ņ,ge,b,WL,c,f,h]
theorem pE{ws:Á D}:∀d,st ws a b c hk hv≠.fz d:=λd h=>by cases h
#print a
section
variable{Ws:Á Int}{a b c:Í}{hk:Á ħ}{hv:Á D}
def z0f{k:Str}{d s:Nat}{x y w g:Int}(e:Ws[d]?=À x)(j:Ws[s]?=À y)(h:Vf [.str k,.int x,.int y]=À (Â,.int w))(i:wZ Àd=À (Â,.int g)) :YI ım=À ([st ĵe a (decide Āe) (decide ăe) hk hv,.fz Łc],.fz .zE):=by have f:d<ŏa:=čf.1;rw[z2a];unfold Dm;simp only[Ņ,uV,p_,qS e,qS j,h,ge,kr,ku,WN i,Xy,gI,gW,jv,gQ f,gg]
theorem z0k{k:Str}{d:Nat}{x n w g:Int}(f:Ws[d]?=À x)(t:Í)(e:zp Ģa Čg=À ţc)(h:ļl=À (Â,.tup [.int w,.zE]))(j:wZ Àd=À (Â,.int g)) :YJ Ĳm=À ([st ĵe a (decide Āe) (decide ăe) hk hv,.fz ŗh],.fz .zE):=by
 have i:d<ŏa:=ąh.1;rw[cD];unfold OQ;cases t with
 |Â=>rw[Ð É]at h;simp only[Ņ,uV,p_,qS f,e,h,ge,kr,ku,W4,W5,WN j,Xy,gI,gW,jv,gQ i,gg]|Ã=>rw[Î rfl]at h;simp only[Ņ,uV,p_,qS f,e,h,ge,kr,ku,W4,W5,WN j,Xy,gI,gW,jv,gQ i,gg]
theorem z0l{k:Str}{d:Nat}{x n w g:Int}{u:Í}(f:Ws[d]?=À x)(t:Í)(e:zp Ģa Čg=À ţc)(h:ļl=À (Â,.tup ži))(j:wZ Àd=À (Â,.int g)) :YJ Ĳm=À ([st ĵe u (decide Āe) (decide ăe) hk hv,.fz ŗh],.fz .zE):=by
 have i:d<ŏa:=ąh.1;rw[cD];unfold OQ;cases t with
 |Â=>rw[Ð É]at h;simp only[Ņ,uV,p_,qS f,e,h,ge,kr,ku,W4,W5,WL,Qa,Jd,JN,Lk,Lo,WN j,Xy,gI,gW,jv,gQ i,gg]|Ã=>rw[Î rfl]at h;simp only[Ņ,uV,p_,qS f,e,h,ge,kr,ku,W4,W5,WL,Qa,Jd,JN,Lk,Lo,WN j,Xy,gI,gW,jv,gQ i,gg]
#print a
inductive qr:D->Prop
 |Ś:qr úa
 |Y7 {w:Str} {d n:Int} (hw:w = şa \/ w = àb) (d0:0<=d) (d1:d<8) (n0:0<=n) (n1:n<65536):qr ųj
 |two {w:Str} {d s:Int} (hw:w = ōb \/ w = Ša \/ w = ēb \/ w = Ęb \/ w = Ēb \/ w = ěb \/ w = íb \/ w = ęb \/ w = ķa) (d0:0<=d) (d1:d<8) (s0:0<=s) (s1:s<8):qr Ér
 |Xb {w:Str} {d n:Int} (hw:w = śa \/ w = Ûb) (d0:0<=d) (d1:d<8) (n0:0<=n) (n1:n<32):qr ųj
 |mem {w:Str} {d s n:Int} (hw:w = ßb \/ w = Řa \/ w = řa \/ w = őa) (d0:0<=d) (d1:d<8) (s0:0<=s) (s1:s<8) (n0:0<=n) (n1:n<256):qr Êr
inductive Vq(m:Int):D->Prop
 |vZ {p:Int} (p0:0<=p) (p1:p<=m):Vq m żm
 |ðb {w k:Str} {p:Int} (hw:w = Ía \/ w = ßa) (hk:k = ăa \/ k = ŋa \/ k = ųa) (p0:0<=p) (p1:p<=m):Vq m ķd
def kA(m:Int)(d:D):Prop:=qr d\/Vq m d
noncomputable def xy:D->Í
 |.tup ľj=>w == Ëa || w == Ía || w == ßa|_=>Â
def Yp:D->D
 |.tup xs=>(v_ xs (-1)).getD .zE|_=>.zE
noncomputable def cf:D:=.tup ĳm
theorem Ua{d:D}(h:qr d):∃w,zM d Ł=À Õa/\t6 Õa cf=À û/\zp Õa Ũd=À û/\xy d=Â/\gU 5 d=Ã:=by
 cases h with
 |Ś=>exact⟨_,rfl,rfl,rfl,rfl,rfl⟩|Y7 hw=>rcases hw with rfl|rfl<;>exact⟨_,rfl,rfl,rfl,rfl,rfl⟩
 |two hw=>rcases hw with rfl|rfl|rfl|rfl|rfl|rfl|rfl|rfl|rfl<;>exact⟨_,rfl,rfl,rfl,rfl,rfl⟩
 |Xb hw=>rcases hw with rfl|rfl<;>exact⟨_,rfl,rfl,rfl,rfl,rfl⟩
 |mem hw=>rcases hw with rfl|rfl|rfl|rfl<;>exact⟨_,rfl,rfl,rfl,rfl,rfl⟩
def LK{m:Int}{d:D}(h:Vq m d):∃(w:Str) (p:Int),zM d Ł=À Õa/\t6 Õa cf=À Ō/\zp Õa Ũd=À û/\xy d=Ã/\gU 5 d=Ã/\zM d Ľg=À (.int p)/\Yp d=.int p/\0<=p/\p<=m:=by
 cases h with
 |vZ p0 p1=>exact⟨_,_,rfl,rfl,rfl,rfl,rfl,rfl,rfl,p0,p1⟩|ðb hw hk p0 p1=>rcases hw with rfl|rfl<;>rcases hk with rfl|rfl|rfl<;>exact⟨_,_,rfl,rfl,rfl,rfl,rfl,rfl,rfl,p0,p1⟩
noncomputable def xI:D->Í
 |.tup ľj=>w == êh|_=>Â
noncomputable def gR(t:Str):D:=.tup [.str êh,.str t]
theorem HU{m:Int}{d:D}(h:kA m d):∃w,zM d Ł=À Õa/\zp Õa Ũd=À û/\xI d=Â/\gU 5 d=Ã:=by
 rcases h with h|h;cases h with
 |Ś=>exact⟨_,rfl,rfl,rfl,rfl⟩|Y7 hw=>rcases hw with rfl|rfl<;>exact⟨_,rfl,rfl,rfl,rfl⟩
 |two hw=>rcases hw with rfl|rfl|rfl|rfl|rfl|rfl|rfl|rfl|rfl<;>exact⟨_,rfl,rfl,rfl,rfl⟩
 |Xb hw=>rcases hw with rfl|rfl<;>exact⟨_,rfl,rfl,rfl,rfl⟩
 |mem hw=>rcases hw with rfl|rfl|rfl|rfl<;>exact⟨_,rfl,rfl,rfl,rfl⟩
 cases h with
 |vZ=>exact⟨_,rfl,rfl,rfl,rfl⟩|ðb hw hk=>rcases hw with rfl|rfl<;>rcases hk with rfl|rfl|rfl<;>exact⟨_,rfl,rfl,rfl,rfl⟩
noncomputable def z70(t:Str):D->Í
 |.tup [_,.str u]=>u==t|_=>Â
def Jc(t:Str)(s:Nat×Æ Nat)(d:D):Nat×Æ Nat:=match xI d with
 |Ã=>(s.1,match z70 t d with
  |Ã=>À s.1|Â=>s.2)
 |Â=>(s.1+1,s.2)
def vK(t:Str)(L:Á D):Nat×Æ Nat:=L.foldl (Jc t) (0,Ä)
def fD(t:Str)(L:Á D)(d:D):vK t (L++[d])=Jc t úc d:=by unfold vK;rw[List.foldl_append];rfl
theorem fB(t:Str):∀(L:Á D)(s:Nat×Æ Nat),(L.foldl (Jc t) s).1=s.1+(Ĉi).length
 | [],_=>rfl|d::L,s=>by
  rw[şi,fB t L];unfold Jc;cases h:xI d with
  |Ã=>rw[Çn (by rw[h];decide)]|Â=>rw[éi (by rw[h];rfl),ĕ];show s.1+1+_=_;omega
def fA(t u:Str)(L:Á D):(vK t (L++[gR u])).2=if u=t then À (Ĉi).length else úc.2:=by rw[fD];have h:=fB t L (0,Ä);show(match(u==t)with|Ã=>À úc.1|Â=>úc.2)=_;by_cases e:u=t;rw[Î e,Þd e];show À úc.1=_;rw[show úc.1=_ from h,Ş];rw[Ð e,ĝc e]
theorem fC{t:Str}{L:Á D}{d:D}(h:xI d=Â):(vK t (L++[d])).2=úc.2:=by rw[fD];unfold Jc;rw[h]
theorem OM{L:Á D}{r:D}(h:Öb<=1000):kE (.lst L) r=À (Ε (L++[r])):=by show(if Öb<yY then _ else _)=_;rw[Î (by show _<16777216;omega)]
inductive vf:D->Prop
 |Ĺh (t:Str):vf (gR t)
 |Ŷa {d:D}:qr d->vf d
 |vZ (t:Str):vf ŭf
 |ðb {w k:Str} (t:Str) (hw:w = Ía \/ w = ßa) (hk:k = ăa \/ k = ŋa \/ k = ųa):vf Ĳd
def z4k{d:D}(h:vf d):∃w,zM d Ł=À Õa/\zp Õa Ũd=À (.bl (xI d))/\gU 5 d=Ã:=by
 cases h with
 |Ĺh=>exact⟨_,rfl,rfl,rfl⟩|Ŷa h=>obtain⟨w,a,b,c,e⟩:=HU (m:=0) ùf;exact⟨w,a,by rw[c];exact b,e⟩
 |vZ=>exact⟨_,rfl,rfl,rfl⟩|ðb t hw hk=>rcases hw with rfl|rfl<;>rcases hk with rfl|rfl|rfl<;>exact⟨_,rfl,rfl,rfl⟩
def oQ(x y:D):Prop:=(xy x=Â->y=x)/\(xy x=Ã->∃(h:Á D) (a:D) (t:Str),x=.tup (h++[a])/\y=.tup (h++[.str t]))
def k9(L:Á D)(x y:D):Prop:=vf y/\xI y=xI x/\oQ x y/\xy y=xy x/\(xy x=Ã->∃(t:Str) (p:Nat),zM y Ľg=À àh/\úc.2=À p/\Yp x=.int (p:Int))
theorem W7{R:D->D->Prop}:∀{xs ys:Á D},ub R xs ys->à=Óa
 |_,_,.nil=>rfl|_,_,.cons _ r=>by rw[ĕ,ĕ,W7 r]
theorem bP{R:D->D->Prop}:∀{xs ys:Á D},ub R xs ys->∀y∈ys,∃x∈xs,R x y
 |_,_,.nil,_,h=>by cases h|x::xs,y::ys,.cons r rs,z,hz=>by rcases Ĺ hz with rfl|hz;exact⟨x,Ŏ ..,r⟩;obtain⟨w,a,h⟩:=bP rs z hz;exact⟨w,Ĉa _ a,h⟩
theorem bN{R a:D->D->Prop}(h:∀x y,R x y->a x y):∀{xs ys:Á D},ub R xs ys->ub a xs ys
 |_,_,.nil=>.nil|_,_,.cons r rs=>.cons (h _ _ r) (bN h rs)
theorem Ol{R:D->D->Prop}:∀{xs ys:Á D},ub R xs ys->∀{i:Nat}{x:D},xs[i]?=À x->∃y,ys[i]?=À y/\R x y
 |_,_,.nil,_,_,h=>by cases h|_,_,.cons r _,0,_,h=>by cases h;exact⟨_,rfl,r⟩|_,_,.cons _ rs,i+1,_,h=>Ol rs úb
def FC:FS:=
 (zZ (Μ (e2 xP (e2 UC (e2 yW Ă (e2 qP (eC (.int 7919)) ý)) (eC (.int 48271))) (eC (.int 2147483647))))
  (yF (e2 xP (e2 yW (e2 yW (e2 Qo ċ ċ) (e2 qP Ře ċ)) ý) (eC (.int 2147483629)))))
def uH:Á D->Æ ä:=FR 2 3 FC
def z2z(x0 x1:D):uH õ=yH 3 FC õ:=rfl
def FH:FS:=
 (zZ (Μ (Ξb (Ψ Ţm)))
  (zZ (yP 3 (Ψ (e2 yW Ţm ň)))
  (zZ (yP 4 (vF (ψ (Ι (.int 4294967295) (eC (.int 2147483648)) (zA ň (zA (e2 xP ġ Ře) (Α (e2 yW (eC (.int 65530)) (e2 xP ġ Ŏe)))))))))
  (yF (e2 zM (e2 yW Ų (vF (zA (e2 xP (e2 UC ġ Ře) ïf) (Α (e2 xP (e2 UC ġ Ùh) ïf))))) ċ)))))
def Q6:Á D->Æ ä:=FR 2 5 FH
def z31(x0 x1:D):Q6 õ=yH 5 FH õ:=rfl
def Pi:FE:=(zT Q6 Ĩc)
def FI:FS:=
 (qc (xw 1 (uo ī Ůd) Ĺa yf Pi))
def Q7:Á D->Æ ä:=FR 1 1 FI
def z32(x0:D):Q7 ð=yH 1 FI ð:=rfl
def qA(c k:Int):∃v:Int,uH Ťi=À (Â,.int v)/\0<=v/\v<2147483629:=by
 have f:=Íd Ùo (show(2147483647:Int)≠0 by decide);have g:=žc Ùo (show(0:Int)<2147483647 by decide);have d:qT 7919=Ã/\qT 48271=Ã/\qT 7=Ã:=⟨by decide,by decide,by decide⟩
 have b:vw če<=40:=by
  have e:(2:Nat) ^ 40=1099511627776:=by decide
  exact Fu Å
 have a:decide (vw če+vw če<=134217728)=Ã:=ï Å;refine⟨((c+7919*k)*48271%2147483647*če+7*če+k)%2147483629,?_,Íd _ É,žc _ É⟩;rw[z2z];unfold FC;simp only[Ó,d,âa,Qo,a,ÿa]
theorem Ym{l:Á D}{P:D->Prop}(c:Int){n:Int}(h:(Ďb:Int)=n)(e:0<n)(a:∀r∈l,P r):∃r,zM (.lst l) (Β (c%n))=À r/\P r:=by
 have d:=Íd c (show n≠0 by omega);have f:=žc c e;have b:(c%n).toNat<Ďb:=by omega
 exact⟨l[(c%n).toNat],QZ d (Ĕ b),a _ (àc b)⟩
def xU{P:D->Prop}{x:D}{l:Á D}(h:P x)(t:∀r∈l,P r):∀r∈x::l,P r:=λr m=>by rcases Ĺ m with rfl|m;exact h;exact t r m
def YV{P:D->Prop}:∀r∈([]:Á D),P r:=λ_ m=>Û m ťa
def x6h(c k:Int):∃w:Int,Q6 Ťi=À (Â,.int w)/\0<=w/\w<4294967296:=by obtain⟨v,e1,j,h⟩:=qA c (2*k);obtain⟨u,e2,m,i⟩:=qA c (2*k+1);have e:qT 2=Ã/\qT 7=Ã/\qT 5=Ã:=⟨by decide,by decide,by decide⟩;obtain⟨_,g,w,rfl,b,f⟩:=Ym (P:=λd=>∃w:Int,d=.int w/\0<=w/\w<4294967296) v (n:=8) (l:=ċl) rfl É (xU ⟨_,rfl,by omega,by omega⟩ (xU ⟨_,rfl,by omega,by omega⟩ (xU ⟨_,rfl,by omega,by omega⟩ (xU ⟨_,rfl,by omega,by omega⟩ (xU ⟨_,rfl,by omega,by omega⟩ (xU ⟨_,rfl,by omega,by omega⟩ (xU ⟨_,rfl,by omega,by omega⟩ (xU ⟨_,rfl,by omega,by omega⟩ YV))))))));refine⟨w,?_,b,f⟩;have a:yW (.lst [.int 0,.int 4294967295,.int 2147483648,.int 1,.int (u%7),.int (65530+u%12)]) (.lst [.int (u*7%4294967296),.int (u*5%4294967296)])=À (.lst ċl):=rfl;rw[z31];unfold FH;simp only[Ó,e,âa,e1,e2,a,g,ÿa]
theorem GE{g:FG}{e:FE}{σ:yE}(P:Int->Prop):∀{ds:Á D},(∀d∈ds,∃σ1 v,g d σ=À σ1/\e σ1=À àe/\P v)->∃vs:Á Int,ye g yf e σ ds=À (wI vs)/\þ=ď/\∀v∈vs,P v
 | [],_=>⟨[],rfl,rfl,λ_ h=>Û h â⟩|d::ds,h=>by
  obtain⟨σ1,v,e1,e2,p⟩:=h d ŕc;obtain⟨vs,c,l,q⟩:=GE P λf b=>h f Îf
  refine⟨v::vs,?_,by rw[ĕ,ĕ,l],λx a=>?_⟩;simp only[ye,e1,yf,Äb,e2,c];rfl;rcases Ĺ a with rfl|a;exact p;exact q x a
def x6i(c:Int):∃Ws:Á Int,Q7 żb=À (Ã,.lst Ħ)/\ŏa=8/\∀w∈Ws,0<=w/\w<4294967296:=by
 have a:uo ī Ůd [À (Â,.int c)]=À (xc 8):=gX (n:=8) rfl É
 obtain⟨f,e,l,p⟩:=GE (g:=yA 1) (e:=Pi) (σ:=[À (Â,.int c),Ä]) (λw=>0<=w/\w<4294967296) (ds:=xc 8) λd i=>by obtain⟨k,_,rfl⟩:=Ça i;obtain⟨w,j,b,h⟩:=x6h c k;refine⟨_,w,rfl,?_,b,h⟩;unfold Pi;simp only[Ó,j]
 refine⟨f,?_,l,p⟩;rw[z32];unfold FI;simp only[Ó,a,e]
noncomputable def pD(p:Int×Int):D:=.tup [.int p.1,.int p.2]
structure vv(ps:Á Ď):Prop where
 ad:∀p∈ps,0<=p.1/\p.1<65536
 pN:∀p∈ps,0<=p.2/\p.2<256
 nd:(Ÿ (·.1)).Nodup
def HQ:FA:=(uo ī (e2 xP (Ψ äp) Ře))
def mi:FE:=(e2 zM Îa ī)
def LQ:FS:=(zZ (yP 3 (Δe (.int 50)))
    (zZ (yP 4 (υb (zA šm (zA (e2 yW (eC (.int 65527)) šm) (Α (e2 xP ġ ÿo)))) (Δe (.int 60))))
    (xR (MX (tE (e2 ZN Ų (xw 1 ĵk Şa yf mi))))
     (Zi 1 kE (wA (zA Ų (Α (υb (zA (e2 xP (Γe (.int 70)) Şo) (ψ (θ (eC (.int 255))))) (Γe (.int 80)))))))
     xq)))
def FD:FS:=
 (zZ (pA 1 ċd)
  (zZ (p9 HQ Ũc
   LQ)
  īf))
def Q5:Á D->Æ ä:=FR 1 5 FD
def z30(x0:D):Q5 ð=yH 5 FD ð:=rfl
def z4a(x:Int):∀(ys:Á Int),UB Îb (Ε źk)=À (decide (x∈ys)):=λys=>by
 have b:(xD Îb&&(źk).all xD)=Ã:=by rw[Ē];refine⟨rfl,ģe λd f=>?_⟩;obtain⟨y,_,rfl⟩:=Ça f;rfl
 show(match xD Îb&&(źk).all xD with|Ã=>À Ōm|Â=>Ä)=_;rw[b];show À Ōm=_
 congr 1
 unfold wI;rw[čj,īc];rw[Ģi,Üg]
 constructor;rintro⟨y,c,e⟩;have a:(y==x)=Ã:=e;rw[ńq]at a;exact a▸c;intro h;exact⟨x,h,(Õd x:(x==x)=Ã)⟩
def y2d(c:Int):∃ps,Q5 żb=À (Ã,.lst Úb)/\vv ps/\ă<=6:=by
 obtain⟨n,E,Z,X⟩:=qA c 40
 have Q:HQ Œl=À ág:=by unfold HQ;refine gX (n:=n%7) ?_ Å;simp only[Ó,E,ÿa]
 obtain⟨σ',e1,ps,w,r,u,l,P,rfl⟩:=kQ (g:=yA 2) (b:=LQ) (λi σ=>∃(ps:Á Ď) (w r u:Æ Sl),ă<=i/\vv ps/\σ=[À (Â,.int c),À (Ã,.lst Úb),w,r,u])
  (ds:=xc (n%7).toNat) (σ:=Œl) 0 ⟨[],Ä,Ä,Ä,êa _,⟨λ_ h=>Û h â,λ_ h=>Û h â,Âp⟩,rfl⟩ λi d σ q e=>by
   obtain⟨ps,w,r,u,l,P,rfl⟩:=e;rw[Ş]at l ⊢;obtain⟨k,_,rfl⟩:=Ça (Ġc q);obtain⟨v,B,Y,W⟩:=qA c (50+k);obtain⟨j,A,_,_⟩:=qA c (60+k);obtain⟨S,F,_,_⟩:=qA c (70+k);obtain⟨m,T,_,_⟩:=qA c (80+k)
   obtain⟨a,C,G,O⟩:∃a:Int,zM (.lst [.int (v%9),.int (65527+v%9),.int (v%65536)]) (Β (j%3))=À õf/\0<=a/\a<65536:=by rcases(show j%3=0\/j%3=1\/j%3=2 by omega)with h|h|h<;>rw[h]<;>exact⟨_,rfl,by omega,by omega⟩
   obtain⟨f,J,b0,K⟩:∃f:Int,zM (.lst [.int (S%256),.int 0,.int 255]) (Β (m%3))=À (.int f)/\0<=f/\f<256:=by rcases(show m%3=0\/m%3=1\/m%3=2 by omega)with h|h|h<;>rw[h]<;>exact⟨_,rfl,by omega,by omega⟩
   have s:ye Şa yf mi [À (Â,.int c),À (Â,.lst Úb),À (Â,.int (k:Int)),À (Â,.int v),À (Â,.int a),Ä] Úb=À ((Úb).map λd=>match d with|.tup [x,_]=>x|d=>d):=kO (λd=>match d with|.tup [x,_]=>x|d=>d) λd q=>by obtain⟨p,_,rfl⟩:=Ça q;exact⟨_,rfl,rfl⟩
   have t:((Úb).map λd=>match d with|.tup [x,_]=>x|d=>d)=wI (Ÿ (·.1)):=by unfold wI;rw[Êb,Êb];rfl
   rw[t]at s;have o:=z4a a (Ÿ (·.1));by_cases cc:a∈Ÿ (·.1);refine⟨_,[À (Â,.int c),À (Ã,.lst Úb),À (Â,.int (k:Int)),À (Â,.int v),À (Â,.int a)],rfl,.inl ?_,ps,_,_,_,by omega,P,rfl⟩;unfold LQ;rw[ï cc]at o;simp only[Ó,âa,B,A,C,ÿa,MX,Ov,jd,s,ZN,o];refine⟨_,[À (Â,.int c),À (Ã,.lst ìn),À (Â,.int (k:Int)),À (Â,.int v),À (Â,.int a)],rfl,.inl ?_,ps++[(a,f)],_,_,_,?_,?_,rfl⟩;unfold LQ;rw[ć cc]at o
   have H:kE (Ε Úb) (.tup ņo)=À (Ε ìn):=by
    show(Χd (Úb) (Æc (Ÿ pD++[.tup ņo])))=_;have L:i<(ág).length:=ųk.1;have N:(ág).length=(n%7).toNat:=by simp[xc]
    rw[Î (by rw[ç];show _<16777216;omega),ńa];rfl
   simp only[Ó,âa,B,A,C,ÿa,MX,Ov,jd,s,ZN,o,F,T,J,H];rw[í];show ă+1<=_;omega;refine⟨λp e=>?_,λp e=>?_,?_⟩;rcases ça e with e|e;exact P.ad p e;cases Ċa e;exact⟨G,O⟩;rcases ça e with e|e;exact òb p e;cases Ċa e;exact⟨b0,K⟩;rw[ńa,ıi];refine⟨P.nd,by simp,λx U y R=>?_⟩;cases Ċa R;intro z;have I:x=a:=z;exact cc (I▸U)
 refine⟨ps,?_,P,?_⟩;rw[z30];unfold FD;simp only[Ó,Q,e1];have:(ág).length=(n%7).toNat:=by simp[xc]
 omega
def F2:FS:=
 (zZ (xR (kq (tE (W6 .bool Ă)) (υ (W6 .int Ă)))
   Ðh
   xq)
  (yF (U9 (e2 đj ī Ă) (e2 ļc Ă ōm))))
def k7:Á D->Æ ä:=FR 2 2 F2
def z2q(x0 x1:D):k7 õ=yH 2 F2 õ:=rfl
def Dy:FS:=
 (yF (zT k7 (Χ îf)))
def Tz:Á D->Æ ä:=FR 1 1 Dy
def z2m(x0:D):Tz ð=yH 1 Dy ð:=rfl
def F3:FS:=
 (zZ (xR (kq (υ (W6 .tuple Ă)) (tE (e2 xg Ŀc źc)))
   Ðh
   xq)
  (yF (U9 (zT Tz ķr) (zT k7 (zA (e2 zM Ă ň) ñk)))))
def Q1:Á D->Æ ä:=FR 1 1 F3
def z2r(x0:D):Q1 ð=yH 1 F3 ð:=rfl
def E_:FS:=(zZ (xR (υ (zT Q1 ķb))
     ĸb
     xq)
    (zZ (xR (tE (e2 t6 ïg (Qj 1)))
     ĸb
     xq)
    (Zj 1 ïg ũi)))
def Di:FS:=
 (zZ Ŭj
  (zZ (xR (tE ūi)
   īf
   xq)
  (zZ (xR Ėn
   ĸb
   xq)
  (zZ (p9 Òh Ũc
   E_)
  īf))))
def YH:Á D->Æ ä:=FR 1 3 Di
def z26(x0:D):YH ð=yH 3 Di ð:=rfl
def Po:FE:=(zT k7 (δ Ķr))
def Fm:FS:=
 (zZ (xR (tE ūi)
   (qc (e2 Os (vF ĸj) Ůd))
   xq)
  (zZ (xR (kq Ėn (tE (e2 xg Ŀc Ůd)))
   ĸb
   xq)
  (zZ (xR (υ (eL CI (Α (xw 1 Òh Ĺa yf Po))))
   ĸb
   xq)
  (qc (eL W8 õb)))))
def QH:Á D->Æ ä:=FR 1 1 Fm
def z3p(x0:D):QH ð=yH 1 Fm ð:=rfl
def DQ:yR:=
 (xK (q_ 0 [] į Ōa (Qh ŀ VX (qt 0 ľn (qt 0 Ľn wU))))
  (xK (q_ 0 [] į ūc ĳk)
  (q_ 0 [] į ćc ĳk)))
def pQ:FM:=ve 1 1 DQ
def z1p(x0:M):pQ ð=wX 1 1 DQ ð:=rfl
def DP:yR:=
 (xK (q_ 0 [] į àa (xf ý))
  (xK (q_ 0 [] į ėb Ĳk)
  (xK (q_ 0 [] į Ûc (xf (uM QH ŉc)))
  (xK (q_ 0 [] į ĩc (xf (uM YH ød)))
  (qz (W3 (t5 ú Şc 0 [] pQ wU) (t5 ù Şc 0 [] pQ wU)))))))
def Xf:FM:=ve 5 5 DP
def z1o(x0 x1 x2 x3 x4:M):Xf ĝo=wX 5 5 DP ĝo:=rfl
theorem dE{g:MG}{b:yR}(P:Nat->yD->Prop):∀{ds:Á D}{β:yD}(n:Nat),P n β->(∀i d β,ds[i]?=À d->P (n+i) β->∃β1 β2,g d β=À β1/\b β1=À Ľb/\P (n+i+1) β2)->
  ∃β',jA g b ds β=À ŧr/\P (n+ď) β'
 | [],β,n,h,_=>⟨β,rfl,h⟩|d::ds,β,n,h,Ŵc=>by
  obtain⟨β1,β2,e1,e2,r⟩:=Ŵc 0 d β rfl h
  obtain⟨β',l,s⟩:=dE P (ds:=ds) (β:=β2) ķ r λi q τ k c=>by obtain⟨a,o,p,e,j⟩:=Ŵc ê q τ Ħi (by rw[show n+ê=n+1+i by omega];exact c);exact⟨a,o,p,e,by rw[show n+1+i+1=n+ê+1 by omega];exact j⟩
  refine⟨β',?_,by rw[ĕ,show n+(ď+1)=n+1+ď by omega];exact s⟩;show((g d β).bind λβ1=>(Ďh).bind λf=>match f with|.nx β2=>jA g b ds β2|.ct β2=>jA g b ds β2|.bk β2=>À Ľb|.rt m β2=>À Ŀj)=_;rw[e1];show(Ďh).bind _=_;rw[e2];exact l
def El{i:Int}{w:Nat}(e:w<=64):k7 [.int i,.int (w:Int)]=À (Â,.bl (decide Őb&&decide (i<2 ^ w))):=by
 have b:p6 1 (w:Int)=Ã:=by unfold p6;rw[ï Å,ï Å];rfl
 have d:uj Ŗa ðp=À ğp:=by show(match p6 1 (w:Int)with|Ã=>À řf|Â=>Ä)=_;rw[b];show À řf=_;rw[ľ,ëd]
 rw[z2q];unfold F2;by_cases c:0<=i;have a:decide Őb=Ã:=ï c;rw[a];simp only[Ó,a,b,ľ,ëd];have a:decide Őb=Â:=ć c;rw[a];simp only[Ó,a,Įc]
theorem x6j{Ws:Á Int}(g:ŏa=8)(j:∀w∈Ws,0<=w/\w<4294967296):QH Ļg=À (Ã,.lst Ħ):=by
 have e:ye Ĺa yf Po [À (Â,.lst Ħ),Ä] Ħ=À ((Ħ).map λ_=>.bl Ã):=kO (λ_=>.bl Ã) λd l=>by
  obtain⟨w,f,rfl⟩:=Ça l;refine⟨_,rfl,?_⟩;obtain⟨a,b⟩:=j w f;have h:=El (i:=w) (w:=32) É;have c:(2:Int) ^ 32=4294967296:=by decide
  rw[c,ï a,ï b]at h;unfold Po;simp only[Ó,show k7 [.int w,.int 32]=À (Â,.bl Ã)from h]
 have e2:(Ħ).map (λ_=>Ĕc Ã)=(Ŷ 8 Ã).map Ĕc:=by unfold wI;rw[Êb,List.map_replicate,<-g,<-List.map_const'];rfl
 have k:CI [.lst [.bl Ã,.bl Ã,.bl Ã,.bl Ã,.bl Ã,.bl Ã,.bl Ã,.bl Ã]]=À Ō:=rfl;rw[e2]at e;have m:W8 Ļg=À āa:=rfl
 have n:xg (.int ((Ħ).length:Int)) Ăa=À û:=by rw[jv,g];rfl
 rw[z3p];unfold Fm;simp only[Ó,n,e,k,m]
noncomputable def kP(ps:Á Ď):Á ħ:=Ÿ λp=>.inl p.1
noncomputable def vP(ps:Á Ď):Á D:=Ÿ λp=>.int p.2
def Ee{ps:Á Ď}{a:Int}:yp Ĩ Ŀb=decide (a∈Ÿ (·.1)):=by
 unfold yp kP;rw[čj,īc,Ģi,Üg]
 constructor;rintro⟨p,b,e⟩;have c:=Ŋ e;exact ĺe ⟨p,b,èc c⟩;intro h;obtain⟨p,b,e⟩:=Ça h;exact⟨p,b,ï (Êa Ìa e)⟩
def fS{ps:Á Ď}{a b:Int}(h:a ∉ Ÿ (·.1)):wM Ĩ Ŀb=kP īp/\wC Ĩ Ń Ŀb (.int b)=vP īp:=by
 have c:yp Ĩ Ŀb=Â:=by rw[Ee];exact ć h
 unfold wM wC;rw[Ð Āo,Ð Āo];unfold kP vP;rw[ńa,ńa];exact⟨rfl,rfl⟩
def y2c{p:Int×Int}(c:0<=p.1/\p.1<65536)(d:0<=p.2/\p.2<256):Q1 [pD p]=À (Â,.bl Ã):=by
 have a:=El (i:=p.1) (w:=16) É;rw[ï c.1,ï (show p.1<2 ^ 16 from c.2)]at a;have b:=El (i:=p.2) (w:=8) É;rw[ï d.1,ï (show p.2<2 ^ 8 from d.2)]at b;have g:k7 [.int p.1,.int 16]=À (Â,.bl Ã):=a;have h:k7 [.int p.2,.int 8]=À (Â,.bl Ã):=b
 have f:Tz [.int p.1]=À (Â,.bl Ã):=by rw[z2m];unfold Dy;simp only[Ó,g]
 have e:xg (.int ((0+1+1:Nat):Int)) Ŷb=À û:=rfl;rw[z2r];unfold F3 pD;simp only[Ó,W4,W5,f,h,e]
theorem aq{ps:Á Ď}(P:vv ps)(v:ă<=1000):YH [.lst Úb]=À (Ã,.dic Ĩ Ń):=by
 obtain⟨σ',e1,x,rfl⟩:=kQ (g:=yA 2) (b:=E_) (λi σ=>∃x:Æ Sl,σ=[À (Â,.lst Úb),À (Ã,.dic ìf (vP ĭe)),x])
  (ds:=Ÿ pD) (σ:=[À (Â,.lst Úb),À (Ã,.dic [] []),Ä]) 0 ⟨Ä,rfl⟩ λi d σ h a=>by
   obtain⟨x,rfl⟩:=a;rw[Ş];have e:i<ă:=by have:=Üb.1;rw[ç]at this;exact this
   rw[Ŧ,Ĕ e]at h;cases h;generalize a:ps[i]=p;have j:p∈ps:=a▸àc e;have q:=y2c (P.ad p j) (òb p j);have t:Ðk ê=Ðk i++[p]:=by rw[ĉe e,a]
   have c:p.1 ∉ (ĭe).map (·.1):=by
    have l:=P.nd
    have e2:Ÿ (·.1)=(ĭe).map (·.1)++p.1::(ps.drop ê).map (·.1):=by rw[<-a,<-ŝ,<-Öc e,<-ńa,ža]
    rw[e2,ıi]at l;intro z;exact l.2.2 _ z _ Ŏ rfl
   have f:t6 Ňg (.dic ìf (vP ĭe))=À û:=by show((uP Ňg).bind λk=>À (yp ìf k)).bind _=_;show À (Ĕc (yp ìf Ür))=_;rw[Ee,ć c]
   obtain⟨r,u⟩:=fS (b:=p.2) c;have o:(ìf).length<yY:=by unfold kP;rw[ç,èa];show _<16777216;omega
   refine⟨_,[À (Â,.lst Úb),À (Ã,.dic (kP đr) (vP đr)),À (Â,pD p)],rfl,.inl ?_,_,rfl⟩;rw[t];unfold E_;have m:zM (pD p) Ł=À Ňg:=rfl;have s:zM (pD p) Ŗa=À (.int p.2):=rfl;have n:uP Ňg=À Ür:=rfl;rw[<-r,<-u];simp only[Ó,q,m,s,f,Zj,n,Î o]
 rw[Ş,ç,śd]at e1;rw[z26];unfold Di;simp only[Ó,e1]
noncomputable def t8(n:Nat):Á ħ:=(Ţc).map λk:Nat=>.inl (k:Int)
theorem bz{g:Nat->D}{k:Nat}:∀{xs:Á Nat},k∈xs->Ā (ĉc λk:Nat=>(.inl (k:Int):Sum Int Str)) (ĉc g) (.inl (k:Int))=À (g k)
 | [],h=>Û h â|x::xs,h=>by rw[ŝ,ŝ];unfold Ā;by_cases c:x=k;rw[Î Ŵq,c];rw[Ð (λz=>c (by have:=èc z;omega))];exact bz ãm
def lj{n:Nat}:yp (t8 n) ád=Â:=by unfold yp t8;rw[čj,æo];intro k a;have:=Ýc a;show ¬ decide ((.inl (k:Int):Sum Int Str)=.inl (n:Int))=Ã;rw[Ģi];intro z;have:=èc z;omega
def y88{Ws:Á Int}{hk:Á ħ}{hv:Á D}:VX [.obj ŀ [] [],.fz āa,.fz ãc]=À ([st Ħ Â Â Â hk hv,.fz āa,.fz ãc],.fz .zE):=by have e1:ye Ĥf yf mh [Ä,À (Â,.lst Ħ),À (Â,.dic hk hv),Ä] Yj=À ěl:=rfl;have e2:Yc [.lst ěl]=À (X9 Â Â Â):=rfl;have a:W8 Ļg=À āa:=rfl;have d:Oo [.dic hk hv]=À ãc:=rfl;have b:∀{x:M}{ĵ:yD},jl x (Θ (.obj ŀ [] [])) 0 [] [ŀ] ş=À (Ν (.obj ŀ [ş] [x])):=rfl;have c:∀{x y:M}{ĵ:yD},jl x (Θ (.obj ŀ [ş] [y])) 0 [] [ŀ] Ăb=À (Ν (.obj ŀ ćr [y,x])):=rfl;have e:∀{x y z:M}{ĵ:yD},jl x (Θ (.obj ŀ ćr [y,z])) 0 [] [ŀ] ëa=À (Ν (.obj ŀ âj [y,z,x])):=rfl;rw[z1y];unfold DZ;simp only[Ņ,gL,e1,e2,a,d,b,c,e];rfl
def ot{C:Str}(h:uK C){T fw fh:D}{e:Int}{Ws:Á Int}{hk:Á ħ}{hv:Á D}{fs:Á Str}{ms:Á M}:pQ [.obj C ąe ħl]=À ([yN C T e āa ãc (st Ħ Â Â Â hk hv) 0 0],.fz .zE):=by
 have l:qx Īo ľn=À (.fz āa):=by cases h<;>rfl
 have m:qx Īo Ľn=À (.fz ãc):=by cases h<;>rfl
 have i:∀{a b c d x:M}{ĵ:yD},jl x Íi 0 [] į Ōa=À (Ν (.obj C õn [a,b,c,d,x])):=by intros;cases h<;>rfl
 have j:∀{a b c d f x:M}{ĵ:yD},jl x (Θ (.obj C õn [a,b,c,d,f])) 0 [] į ūc=À (Ν (.obj C Ŀm [a,b,c,d,f,x])):=by intros;cases h<;>rfl
 have k:∀{a b c d f g x:M}{ĵ:yD},jl x (Θ (.obj C Ŀm [a,b,c,d,f,g])) 0 [] į ćc=À (Ν (.obj C tI [a,b,c,d,f,g,x])):=by intros;cases h<;>rfl
 rw[z1p];unfold DQ;simp only[Ņ,l,m,y88,i,j,k];rfl
def dX{C:Str}(f:uK C){T g:D}{e:Int}{Ws:Á Int}{ps:Á Ď}(h:ŏa=8)(j:∀w∈Ws,0<=w/\w<4294967296)(q:YH [g]=À (Ã,.dic Ĩ Ń)) :Xf [.obj C [] [],.fz T,.fz æh,.fz āa,.fz g]=À ([yN C T e āa Łd Ïi 0 0,.fz T,.fz æh,.fz āa,.fz g],.fz .zE):=by
 have l:∀{x:M}{ĵ:yD},jl x (Θ (.obj C [] [])) 0 [] į àa=À (Ν (.obj C [àa] [x])):=by intros;cases f<;>rfl
 have n:∀{a x:M}{ĵ:yD},jl x (Θ (.obj C [àa] [a])) 0 [] į ėb=À (Ν (.obj C Ćr [a,x])):=by intros;cases f<;>rfl
 have o:∀{a b x:M}{ĵ:yD},jl x (Θ (.obj C Ćr ÿe)) 0 [] į Ûc=À (Ν (.obj C ďp [a,b,x])):=by intros;cases f<;>rfl
 have m:∀{a b c x:M}{ĵ:yD},jl x (Θ (.obj C ďp [a,b,c])) 0 [] į ĩc=À (Ν (.obj C ąe [a,b,c,x])):=by intros;cases f<;>rfl
 have k:=ot f (T:=T) (e:=e) (fw:=.zE) (fh:=.zE) (Ws:=Ws) (hk:=kP ps) (hv:=vP ps) (fs:=[]) (ms:=[])
 have i:∀{a b c d:M}{ĵ:yD},W3 (t5 ú Şc 0 [] pQ wU) (t5 ù Şc 0 [] pQ wU) Íi=qy pQ öd Íi:=by
  intro a b c d ĵ;cases f with
  |row=>show(match qy pQ öd Ęm with|À d=>À d|Ä=>Ä)=_;cases qy pQ öd Ęm<;>rfl
  |word=>rfl
 rw[z1o];unfold DP;simp only[Ó,xK,qz,q_,xf,gN,ŗb,wX,CF,ZF,@Option.map_some.{0,0},@List.take_succ_cons.{0},@List.take_zero.{0},l,n,o,m,x6j h j,q,i];simp only[Ņ,k]
def D_:FS:=
 (yF (e2 zp Ĝe (eC Ũd)))
def Ve:Á D->Æ ä:=FR 1 1 D_
def z2o(x0:D):Ve ð=yH 1 D_ ð:=rfl
def mj:FE:=ý
def Pq:FT:=(υ (zT Ve øb))
def FZ:FS:=
 (qc (xw 1 Òh Ĺa Pq mj))
def qK:Á D->Æ ä:=FR 1 1 FZ
def z3d(x0:D):qK ð=yH 1 FZ ð:=rfl
def cX{d:D}(h:vf d):Ve [d]=À (Â,.bl (xI d)):=by obtain⟨w,a,b,_⟩:=z4k h;rw[z2o];unfold D_;simp only[Ó,a,b]
theorem Ly{a:Á D}(h:∀d∈a,vf d):qK Ńb=À (Ã,.lst Êd):=by
 have e:=JL (g:=yA 1) (c:=Pq) (e:=mj) (σ:=[À (Â,.lst a),Ä]) Ŵd id (ds:=a) λd b=>by have f:=cX (h d b);refine⟨_,rfl,?_,λ_=>rfl⟩;unfold Pq;simp only[Ó,f]
 rw[Ĝg]at e;rw[z3d];unfold FZ;simp only[Ó,e]
def Dz:FS:=
 (yF (e2 t6 Ĝe (eC O_)))
def T_:Á D->Æ ä:=FR 1 1 Dz
def z2n(x0:D):T_ ð=yH 1 Dz ð:=rfl
def LO:FS:=(xR (tE (zT Ve ŉc))
     (Zj 1 îg ċ)
     (Μ (e2 ìg ċ ň)))
def F5:FS:=
 (zZ Ŭj
  (zZ Šq
  (zZ (p9 Òh Ĥf
   LO)
  īf)))
def Vh:Á D->Æ ä:=FR 1 4 F5
def z2t(x0:D):Vh ð=yH 4 F5 ð:=rfl
def cW{d:D}(h:vf d):T_ [d]=À (Â,.bl (xy d)):=by
 have:∃w,zM d Ł=À Õa/\t6 Õa O_=À (.bl (xy d)):=by
  cases h with
  |Ĺh=>exact⟨_,rfl,rfl⟩|Ŷa h=>obtain⟨w,a,b,_,c,_⟩:=Ua h;exact⟨w,a,by rw[c];exact b⟩
  |vZ=>exact⟨_,rfl,rfl⟩|ðb t hw hk=>rcases hw with rfl|rfl<;>exact⟨_,rfl,rfl⟩
 obtain⟨w,a,b⟩:=this;rw[z2n];unfold Dz;simp only[Ó,a,b]
theorem z4l(h:vf d)(a:xI d=Ã):∃t,d=gR t:=by
 cases h with
 |Ĺh t=>exact⟨t,rfl⟩|Ŷa h=>obtain⟨_,_,_,z,_⟩:=HU (m:=0) ùf;rw[z]at a;cases a
 |vZ=>cases a|ðb t hw hk=>rcases hw with rfl|rfl<;>cases a
def z5j{a:Á D}(h:∀d∈a,vf d)(B:ĳa<=1000):∃ks vs,Vh Ńb=À (Ã,.dic ks vs)/\ĩ=þ/\∀t,Ā ks vs öf=(Ĝj).map λn:Nat=>ĉ n:=by
 obtain⟨σ',e,ks,vs,o,f,w,k,rfl⟩:=kQ (g:=yA 3) (b:=LO) (λi σ=>∃ks vs o,ĩ=þ/\ĩ<=i/\(∀t,Ā ks vs öf=((vK t (ûf i)).2).map λn:Nat=>ĉ n)/\σ=[À (Â,.lst a),À (Ã,.dic ks vs),À (Â,.int ((ęp).length:Nat)),o]) (ds:=a)
  (σ:=[À (Â,.lst a),À (Ã,.dic [] []),À (Â,.int 0),Ä]) 0 ⟨[],[],Ä,rfl,êa _,λt=>rfl,rfl⟩ (by
  rintro i v σ q ⟨ks,vs,o,f,w,k,rfl⟩;rw[Ş]at *;have x:i<ĳa:=ųk.1;have y:a[i]=v:=ųk.2;have l:ûf ê=ûf i++[v]:=by rw[ĉe x,y]
  have r:=h v (Ġc q);have m:=cX r;generalize hn:(ęp).length=n;cases hL:xI v with
  |Ã=>
   obtain⟨u,rfl⟩:=z4l r hL;rw[hL]at m;have s:zM (gR u) Ŗa=À (.str u):=rfl;have A:uP (.str u)=À Çf:=rfl;have j:ĩ<yY:=by show _<16777216;omega
   have c:(Ōo).length=n:=by rw[l,ıe,í,hn];rfl
   have p:(ğq).length<=i+1:=by
    unfold wM
    split;omega;rw[í];show _+1<=_;omega
   refine⟨_,[À (Â,.lst a),À (Ã,.dic ğq (wC ks vs Çf ñp)),À (Â,.int (n:Nat)),À (Â,gR u)],rfl,.inl ?_,wM ks Çf,wC ks vs Çf ñp,_,Uc f,p,λt=>?_,by rw[c]⟩
   .unfold LO;simp only[Ó,m,Zj,s,A,Î j]
   .rw[z1i f,l,fA,hn,k];by_cases e:u=t
    .rw[Î (by rw[e]),Î e];rfl
    .rw[Ð (λz=>e (ëq z)),Ð e]
  |Â=>
   rw[hL]at m
   have c:(Ōo).length=n+1:=by rw[l,ıe,í,hn,éi (by rw[hL];rfl)];rfl
   refine⟨_,[À (Â,.lst a),À (Ã,.dic ks vs),À (Â,.int ((n:Nat)+1:Int)),À (Â,v)],rfl,.inl ?_,ks,vs,_,f,by omega,λt=>?_,by rw[c];rfl⟩
   .unfold LO;simp only[Ó,m]
   .rw[l,fC hL,k])
 rw[Ş,śd]at k;refine⟨ks,vs,?_,f,k⟩;rw[z2t];unfold F5;simp only[Ó,e]
theorem cv{c:Á D}(h:∀d∈c,vf d)(e:űa<=1000):∃ks vs,Vh [.lst c]=À (Ã,.dic ks vs)/\∀t,Ā ks vs öf=((vK t c).2).map λn:Nat=>ĉ n:=by obtain⟨ks,vs,a,_,b⟩:=z5j h e;exact⟨ks,vs,a,b⟩
def NZ{x:Int}{n:Nat}(a:0<=x)(b:x<4294967296)(c:n<=64):p6 x (n:Int)=Ã:=by unfold p6;rw[ï Å,ï Å,ï (show x.natAbs<2 ^ 64 by omega)];rfl
def kT{x:Int}{l w:Nat}(b:w<=64):wZ [.int x,.int (l:Int),.int (w:Int)]=À (Â,.int (x/2 ^ l%2 ^ w)):=by
 have a:p6 1 (w:Int)=Ã:=NZ É É b
 have d:uj Ŗa ðp=À ğp:=by show(match p6 1 (w:Int)with|Ã=>À řf|Â=>Ä)=_;rw[a];show À řf=_;rw[ľ,ëd]
 have c:Qq Îb (.int (l:Int))=À (Β ńr):=by show(match decide ((0:Int)<=(l:Int))with|Ã=>À Ħm|Â=>Ä)=_;rw[ï (Ÿc l)];show À Ħm=_;rw[ľ]
 have e:=eP ńr w;rw[ëd]at e;rw[cH];unfold OU;simp only[yH,zZ,yP,yF,e1,e2,z6,eC,Äb,ŝ,Čj,ļe,ło,ĕ,ńe,ġc,List.replicate_zero,ģi,Ìg,List.getElem?_cons_succ,List.getElem?_cons_zero,d,c,gJ,py,Nat.reduceAdd,Nat.reduceSub,Int.reduceSub,e]
noncomputable def vn(ps:Á Ď)(a b:Int):Á Ď:=if a∈Ÿ (·.1)then Ÿ ąm else ps++[(a,b)]
noncomputable def gP:Á Ď->Int->Int
 | [],_=>0|p::ps,a=>if p.1=a then p.2 else gP ps a
theorem c7(a:Int):∀ps:Á Ď,(Ā Ĩ Ń Ŀb).getD Ł=.int (gP ps a)
 | []=>rfl|p::ps=>by show(if(Ìa p.1:Sum Int Str)=.inl a then À (ĉ p.2)else Ā Ĩ Ń Ŀb).getD Ł=.int (if p.1=a then p.2 else gP ps a);by_cases h:p.1=a;rw[Î Ůj,Î h];rfl;rw[Ð Ġo,Ð h];exact c7 a ps
theorem kG(a:Int):∀{ps:Á Ď},(∀p∈ps,0<=p.2/\p.2<256)->0<=gP ps a/\gP ps a<256
 | [],_=>⟨by show(0:Int)<=0;decide,by show(0:Int)<256;decide⟩|p::ps,h=>by
  unfold gP
  split;exact h p Ŏ;exact kG a λq b=>h q Îf
theorem ml(a b:Int):∀ps:Á Ď,ĭb (λk' x=>if k'=(Ìa a:Sum Int Str)then ĉ b else x) Ĩ Ń=vP Ųh
 | []=>rfl|p::ps=>by show(if(Ìa p.1:Sum Int Str)=.inl a then ĉ b else .int p.2)::ĭb _ Ĩ Ń=ĉ ŗm.2::vP Ųh;rw[ml a b ps];by_cases h:p.1=a;rw[Î Ůj,Î h];rw[Ð Ġo,Ð h]
theorem CV(a b:Int):∀ps:Á Ď,(Ųh).map (·.1)=Ÿ (·.1)
 | []=>rfl|p::ps=>by show ŗm.1::_=p.1::_;rw[CV a b ps];by_cases h:p.1=a;rw[Î h,<-h];rw[Ð h]
theorem z4x(h:Ÿ (·.1)=qs.map (·.1)):kP ps=kP qs:=by
 have e:∀l:Á Ď,kP l=(Äa (·.1)).map Ìa:=λl=>by rw[Êb];rfl
 rw[e,e,h]
theorem y75(ps:Á Ď)(a b:Int):wM Ĩ Ŀb=kP Ħg/\wC Ĩ Ń Ŀb (.int b)=vP Ħg:=by by_cases h:a∈Ÿ (·.1);unfold vn wM wC;rw[Î h,Ee,Î Ųk,Î Ųk,ml,z4x (CV a b ps)];exact⟨rfl,rfl⟩;unfold vn;rw[Ð h];exact fS h
def y77{ps:Á Ď}{a b:Int}(P:vv ps)(d:0<=a)(f:a<65536)(b0:0<=b)(e:b<256):vv Ħg:=by
 unfold vn;by_cases h:a∈Ÿ (·.1);rw[Î h]
 have m:∀q∈Ÿ ąm,q=(a,b)\/q∈ps:=λq c=>by obtain⟨p,g,rfl⟩:=Ça c;by_cases z:p.1=a;rw[Î z];exact .inl rfl;rw[Ð z];exact .inr g
 refine⟨λq c=>?_,λq c=>?_,?_⟩;rcases m q c with rfl|z;exact⟨d,f⟩;exact P.ad q z;rcases m q c with rfl|z;exact⟨b0,e⟩;exact òb q z;rw[CV];exact P.nd;rw[Ð h];refine⟨λq c=>?_,λq c=>?_,?_⟩;rcases ça c with z|z;exact P.ad q z;cases Ċa z;exact⟨d,f⟩;rcases ça c with z|z;exact òb q z;cases Ċa z;exact⟨b0,e⟩;rw[ńa,ıi];refine⟨P.nd,by simp,λx j y i=>?_⟩;cases Ċa i;exact λz=>h (by rw[<-show x=a from z];exact j)
def Yy{ps:Á Ď}{a b:Int}:(Ħg).length<=ă+1:=by
 unfold vn
 split;rw[ç];omega;rw[í];exact êa _
section
variable{Ws:Á Int}{a b c:Í}{ps:Á Ď}
def aF{x n:Int}:Va [.int x,.int n]=À (Â,.int İc):=by
 have a:wZ [.int (x+n),.int 0,.int 16]=À (Â,.int İc):=by have:=kT (x:=x+n) (l:=0) (w:=16) É;rw[Şe,êc]at this;exact this
 rw[z22];unfold De;simp only[Ó,âa,a]
theorem ao{x:Int}:Vb øn=À (Â,.int (gP ps x)):=by have a:uP Îb=À ņk:=rfl;rw[z25];unfold Dh;simp only[Ó,CA,a,c7]
noncomputable def Vz(x:Int):Á D:=[.int Ļc,.int ĺc,.int Ĺc,.int îc]
theorem bh{x:Int}:Xj Ùb=À (Ã,.lst įf):=by
 have a:uo ī ťb [À (Â,.int x)]=À (xc 4):=gX (n:=4) rfl É
 have e:ye Ĺa yf Mq ğe (xc 4)=À įf:=by
  have:=kO (g:=yA 1) (e:=Mq) (σ:=ğe) (ds:=xc 4) (χc (Ρ (x+j))) λd b=>by obtain⟨k,_,rfl⟩:=Ça b;refine⟨_,rfl,?_⟩;unfold Mq;simp only[Ó,aF]
  exact this
 rw[z2l];unfold Dx;simp only[Ó,a,e]
theorem x6d(P:vv ps){x:Int}:QC øn=À (Â,.int (gP ps Ļc+gP ps ĺc*256+gP ps Ĺc*65536+gP ps îc*16777216)):=by
 have e:ye Ũc yf Ms Ŝl įf=À [.int (gP ps Ļc),.int (gP ps ĺc),.int (gP ps Ĺc),.int (gP ps îc)]:=by
  have:=kO (g:=yA 2) (e:=Ms) (σ:=Ŝl) (ds:=Vz x) (χc (gP ps j)) λd b=>by
   obtain⟨j,rfl⟩:∃j,d=.int j:=by
    rcases Ĺ b with rfl|b;exact⟨_,rfl⟩
    rcases Ĺ b with rfl|b;exact⟨_,rfl⟩
    rcases Ĺ b with rfl|b;exact⟨_,rfl⟩;exact⟨_,Ċa b⟩
   refine⟨_,rfl,?_⟩;unfold Ms;simp only[Ó,ao]
  exact this
 obtain⟨m,N⟩:=kG Ļc òb;obtain⟨b0,E⟩:=kG ĺc òb;obtain⟨L,C⟩:=kG Ĺc òb;obtain⟨p,B⟩:=kG îc òb;generalize gP ps Ļc=g0 at *;generalize gP ps ĺc=g1 at *;generalize gP ps Ĺc=g2 at *;generalize gP ps îc=g3 at *
 have c:∀{g:Int}(n:Nat),0<=g->g<256->n<=64->uj åh Çb=À (Β (g*2 ^ n)):=λ{g} n S f t=>by have f:=NZ (x:=g) (n:=n) S Å t;show(match p6 g (n:Int)with|Ã=>À ħm|Â=>Ä)=_;rw[f];show À ħm=_;rw[ľ]
 have s:QF [.lst ńf]=À (Â,.int ým):=by
  have z:t_ Ă Ãl [À (Â,.lst ńf)]=À Ēl:=rfl;have A:uj Ūr Ł=À Ūr:=by have:=c 0 m N É;rw[Şe,ūe]at this;exact this
  have Q:uj (.int g1) Ăa=À (Β (g1*256)):=c 8 b0 E É;have O:uj (.int g2) İa=À (Β (g2*65536)):=c 16 L C É;have I:uj (.int g3) Ŷg=À (Β (g3*16777216)):=c 24 p B É
  have l:ye (uO 1 2) yf Pn Įm Ēl=À ıl:=by
   have a:∀(u v w:D),uj u v=À w->∃σ1,uO 1 2 Íq Įm=À σ1/\Pn σ1=À w:=λu v w h=>⟨[À (Â,.lst ńf),À (Â,u),À (Â,v)],rfl,h⟩
   obtain⟨X,H,k⟩:=a _ _ _ A;obtain⟨U,R,K⟩:=a _ _ _ Q;obtain⟨T,F,o⟩:=a _ _ _ O;obtain⟨W,J,r⟩:=a _ _ _ I;simp only[ye,H,R,F,J,k,K,o,r,yf,Äb]
  have y:CP [.lst ıl]=À (Β ým):=by
   show(match((Őf).all λi=>decide Őb&&decide þo)&&decide ((Őf:Á Int).length<=1000)with|Ã=>À (ĉ (Őf:Á Int).sum)|Â=>Ä)=_
   have q:((Őf:Á Int).all λi=>decide Őb&&decide þo)=Ã:=by simp only[ž,List.all_nil,Ē,ßo,and_true];refine⟨⟨?_,?_⟩,⟨?_,?_⟩,⟨?_,?_⟩,?_,?_⟩<;>omega
   rw[q];show À (ĉ (g0+(g1*256+(g2*65536+(g3*16777216+0)))))=_
   congr 2
   omega
  rw[z3n];unfold Fj;simp only[Ó,z,l,y]
 rw[z3l];unfold Fh;have G:gY (Ε įf)=À įf:=rfl;simp only[Ó,bh,G,e,s]
theorem rV{x:Int}:Vc Ùb=À (Â,.tup Ģl):=by
 have j:wZ [.int x,.int 0,.int 8]=À (Â,.int (x%256)):=by have:=kT (x:=x) (l:=0) (w:=8) É;rw[Şe,êc]at this;exact this
 have f:wZ [.int x,.int 8,.int 8]=À (Â,.int (x/256%256)):=kT (l:=8) (w:=8) É;have m:wZ [.int x,.int 16,.int 8]=À (Â,.int (x/65536%256)):=kT (l:=16) (w:=8) É;have p:wZ [.int x,.int 24,.int 8]=À (Â,.int (x/16777216%256)):=kT (l:=24) (w:=8) É;have a:∀(u w:D),wZ [.int x,u,.int 8]=À (Â,w)->∃σ1,yA 1 u ğe=À σ1/\IP σ1=À w:=λu w h=>⟨[À (Â,.int x),À (Â,u)],rfl,by unfold IP;simp only[Ó,h]⟩
 obtain⟨r,o,b⟩:=a _ _ j;obtain⟨s,k,e⟩:=a _ _ f;obtain⟨q,n,d⟩:=a _ _ m;obtain⟨t,c,g⟩:=a _ _ p
 have l:ye Ĺa yf IP ğe cB=À Ģl:=by show ye Ĺa yf IP ğe [.int 0,.int 8,.int 16,.int 24]=_;simp only[ye,o,k,n,c,b,e,d,g,yf,Äb]
 have i:∀w x y z:D,W9 [.lst Ċr]=À (.tup Ċr):=λ_ _ _ _=>rfl
 rw[z27];unfold Dj;simp only[Ó,UI,l,i]
theorem fV{x w:Int}(f:ă<=1000):Vk Ām=À ([.own (.dic (kP Īp) (vP Īp)),.fz Îb,.fz äh],.fz .zE):=by
 have c:wZ [.int w,.int 0,.int 8]=À (Â,.int áe):=by have:=kT (x:=w) (l:=0) (w:=8) É;rw[Şe,êc]at this;exact this
 have e:uP Îb=À ņk:=rfl;have a:decide ((Ĩ).length<yY)=Ã:=ï (by unfold kP;rw[ç];show _<16777216;omega);obtain⟨d,b⟩:=y75 ps x áe;rw[<-d,<-b,z3a];unfold FW;simp only[Ņ,c,e,a]
def Zf(ps:Á Ď)(x w:Int):Á Ď:=vn (vn (vn (vn ps Ļc áe) ĺc Ļj) Ĺc éj) îc âg
def y45{x w:Int}(A:ă<=900):Q9 Ām=À ([.own ſl,.fz Îb,.fz äh],.fz .zE):=by
 have z:t_ ļj Ęq [Ä,À (Â,.int x),À (Â,.int w),Ä,Ä]=À ąl:=by unfold t_;simp only[Ó,bh,rV];rfl
 have d:∀(c:Á Ď) (u v:Int) (e f:Æ M),űa<=1000->0<=v->v<256->LR [À ŋm,À ŷg,À Ĺe,À (.fz (.int u)),À (.fz àe)]=À (ζc (.dic (kP ŧq) (vP ŧq)) (.int u) àe):=λc u v e f k q i=>by have g:=fV (ps:=c) (x:=u) (w:=v) k;rw[Ñg q i]at g;have r:gH ŋm 0 []=.p 0 []:=rfl;unfold LR;simp only[Ņ,r,g]
 have l:∀(o e f:Æ M)(u v:D),UM 3 4 Íq [o,À ŷg,À Ĺe,e,f]=À [o,À ŷg,À Ĺe,À (.fz u),À (.fz v)]:=λ_ _ _ _ _=>rfl
 have B:=Yy (ps:=ps) (a:=(x+0)%65536) (b:=w%256);have j:=d ps Ļc áe Ä Ä Å Å Å;generalize hq0:vn ps Ļc áe=p0 at *;have C:=Yy (ps:=p0) (a:=Ġb%65536) (b:=w/256%256);have m:=d p0 ĺc Ļj Ä Ä Å Å Å;generalize hq1:vn p0 ĺc Ļj=p1 at *;have E:=Yy (ps:=p1) (a:=(x+2)%65536) (b:=w/65536%256);have n:=d p1 Ĺc éj Ä Ä Å Å Å;generalize hq2:vn p1 Ĺc éj=p2 at *;have h:=d p2 îc âg Ä Ä Å Å Å
 have y:vn p2 îc âg=Zf ps x w:=by unfold Zf;rw[hq0,hq1,hq2]
 rw[y]at h
 have t:jA (UM 3 4) LR ąl [À ņg,À ŷg,À Ĺe,Ä,Ä]=À (ζc ſl (Β îc) (Β âg)):=by simp only[jA,l,j,m,n,h,Äb]
 have s:ŗb ņg=Ä:=rfl;rw[z3b];unfold FX;simp only[Ņ,s,z,t]
theorem y4e:zM åg Ł=À x:=rfl
def Lu{x y z w:D}:zM åg Ŗa=À y:=rfl
def y4f{x y z w:D}:zM åg Ŷb=À z:=rfl
def y4g{x y z w:D}:zM åg çh=À w:=rfl
def OL{k:Str}{hk:Á ħ}{hv:Á D}{d:D}{s:Nat}{x n:Int}(e:Ws[s]?=À x):YG [xv Ħ a b c hk hv,.tup [.str k,d,.int (s:Int),.int n]]=À (Â,.int İc):=by rw[z21];unfold Dd;simp only[Ó,p_,y4f,y4g,qS e,aF]
theorem z0i{d s:Nat}{x n:Int}(f:d<ŏa)(e:Ws[s]?=À x):Tr [st Ħ a b c Ĩ Ń,.fz Ľl]=À ([st (wI (Ğf d (gP ps İc))) a b c Ĩ Ń,.fz Ľl],.fz .zE):=by rw[z2d];unfold Dp;simp only[Ņ,uV,CQ,OL e,ao,Lu,gI,gW,jv,gQ f,gg]
theorem z0j(P:vv ps){d s:Nat}{x n:Int}(f:d<ŏa)(e:Ws[s]?=À x):Ts [st Ħ a b c Ĩ Ń,.fz Ňl]=À ([st (wI (Ğf d (gP ps Ąi+gP ps ăi*256+gP ps Ăi*65536+gP ps āi*16777216))) a b c Ĩ Ń,.fz Ňl],.fz .zE):=by have w:=x6d P (x:=(x+n)%65536);generalize gP ps Ąi+gP ps ăi*256+gP ps Ăi*65536+gP ps āi*16777216=v at w;rw[z2e];unfold Dq;simp only[Ņ,uV,CQ,OL e,w,Lu,gI,gW,jv,gQ f,gg]
theorem z0n(f:ă<=1000){d s:Nat}{x n v:Int}(h:Ws[d]?=À v)(e:Ws[s]?=À x):Tu [st Ħ a b c Ĩ Ń,.fz ňl]=À ([st Ħ a b c (kP ŋn) (vP ŋn),.fz ňl],.fz .zE):=by have g:gH ņg 0 Ód=.p 0 Ód:=rfl;rw[z2g];unfold Ds;simp only[Ņ,uV,p_,OL e,qS h,Lu,aM,fT,g,fV f]
theorem z0o(f:ă<=900){d s:Nat}{x n v:Int}(h:Ws[d]?=À v)(e:Ws[s]?=À x):Tv [st Ħ a b c Ĩ Ń,.fz ŉl]=À ([st Ħ a b c (kP Ĳp) (vP Ĳp),.fz ŉl],.fz .zE):=by have g:gH ņg 0 Ód=.p 0 Ód:=rfl;rw[z2h];unfold Dt;simp only[Ņ,uV,p_,OL e,qS h,Lu,aM,fT,g,y45 f]
theorem Oi{k:Str}{d s n:D}{F:FM}{S a:M}(b:Yd qN Ģa=À Ō)(f:Ā qN U6 øf=À F)(e:∀d,S≠.fz d)(h:F Āq=À (þq,.fz .zE)) :pR Āq=À (þq,.fz .zE):=by
 rw[Ci];unfold Qb
 have c:gH S 0 []=.p 0 []:=by
  cases S with
  |fz d=>exact Û rfl (e d)|_=>rfl
 simp only[Ņ,y4e,b,WL,f,c,h]
#print a
def y48(n:Nat):(0:Int)<2 ^ n:=įj É
noncomputable def OW(k:Str)(x y:Nat):Nat:=if k = ěb then x &&& y else if k = íb then x ||| y else x ^^^ y
inductive VU:Str->Prop
 |and:VU ěb |or:VU íb |xor:VU ęb
def rR{k:Str}(h:VU k){x y:Nat}(b:x<4294967296)(a:y<4294967296):OW k x y<4294967296:=by
 have e:(4294967296:Nat)=2 ^ 32:=by decide
 rw[e]at b a ⊢;unfold OW
 split;exact Nat.and_lt_two_pow _ a;split;exact Nat.or_lt_two_pow b a;exact Nat.xor_lt_two_pow b a
def GO(z:Nat):z%2=(z.testBit 0).toNat:=by rw[Nat.testBit_zero];rcases Nat.mod_two_eq_zero_or_one z with h|h<;>rw[h]<;>rfl
theorem eK:∀(n x y:Nat),x<=n->(x ||| y)=ýk+þk
 |0,x,y,h=>by
  have:x=0:=by omega
  subst this;simp
 |n+1,x,y,h=>by
  by_cases z:x=0;subst z;simp;have e:=eK n (x/2) (y/2) Å;have i:(x ||| y)/2=x/2 ||| y/2:=Nat.or_div_two;have d:ýk/2=x/2 ^^^ y/2:=Nat.xor_div_two;have g:þk/2=x/2 &&& y/2:=Nat.and_div_two;have f:=GO (x ||| y);have a:=GO ýk;have b:=GO þk;rw[Nat.testBit_or]at f;rw[Nat.testBit_xor]at a;rw[śi]at b
  have c:((őg 0||ſe 0).toNat:Nat)=(őg 0 ^^ ſe 0).toNat+(őg 0&&ſe 0).toNat:=by cases őg 0<;>cases ſe 0<;>rfl
  rw[<-i,<-d,<-g]at e;omega
def rj(x y:Nat):żi (x:Int) (y:Int)=((x ^^^ y:Nat):Int):=by
 show âd (x:Int) (y:Int)-šb (x:Int) (y:Int)=_;rw[aj,aR,eK x x y Ċ]
 push_cast
 omega
def z4u{k:Str}(h:VU k){x y:Nat}:Vf [.str k,.int (x:Int),.int (y:Int)]=À (Â,.int (OW k x y:Int)):=by
 have d:zp ŷd ŷd=À Ō:=rfl;have b:zp śe ŷd=À û:=rfl;have c:zp śe śe=À Ō:=rfl;have a:zp Ÿj ŷd=À û:=rfl;have e:zp Ÿj śe=À û:=rfl;rw[z2s];unfold F4 OW;cases h with
 |and=>rw[Î rfl,<-aR];simp only[Ó,d]|or=>rw[Ð ĥ,Î rfl,<-aj];simp only[Ó,b,c]|xor=>rw[Ð ĥ,Ð ĥ];simp only[Ó,a,e,rj]
section
variable{Ws:Á Int}{a b c:Í}{hk:Á ħ}{hv:Á D}
noncomputable def qY(p:Í):Int:=if p then 1 else 0
def aB{x y:Int}{p:Í}:VZ Āi=À (Â,.tup [.int (Κc (x+y+qY p)),.bl (decide (4294967296<=x+y+qY p))]):=by
 have a:decide ((0:Int)<4294967296)=Ã:=by decide
 rw[z20];unfold Db;cases p<;>simp only[Ó,âa,qY,a,Šb,òa,Ť]
theorem Ny{x y:Int}{p:Í}(x0:0<=x)(x1:x<4294967296)(f:0<=y)(g:y<4294967296):Vl Āi=À (Â,.tup [.int (Κc (x-y-qY p)),.bl (decide (x-y-qY p<0))]):=by
 have c:∀(q:Int),(q=0\/q=1)->(∀τ:yE,uN (tE ċ) ň ī [À (Â,.int x),À (Â,.int y),À (Â,.bl p),Ä]=À (.int q))->Vl Āi=À (Â,.tup [.int (Κc Źk),.bl (decide ûk)]):=λq h d=>by
  have a:=d [];rw[z3h];unfold Fd;generalize uN (tE ċ) ň ī=EE at a;by_cases z:x-y-q<0;have b:decide ûk=Ã:=ï z;have e:Źk%4294967296=x-y-q+4294967296:=by omega
  rw[e,b];simp only[Ó,a,b,âa];have b:decide ûk=Â:=ć z;have e:Źk%4294967296=x-y-q:=by omega
  rw[e,b];simp only[Ó,a,b]
 cases p with
 |Â=>exact c 0 ĳ λ_=>rfl|Ã=>exact c 1 Ĺb λ_=>rfl
inductive Xv:Str->Prop
 |add:Xv Ša |addc:Xv ēb |sub:Xv Ęb |subc:Xv Ēb |test:Xv ķa
def y8b{k:Str}(h:Xv k){x y:Int}(x0:0<=x)(x1:x<4294967296)(e:0<=y)(f:y<4294967296):∃(t:Int) (u:Í),Xm Ĵm=À (Â,.tup [.int (t%4294967296),.bl u]):=by
 cases h with
 |add=>refine⟨x+y+qY Â,decide (4294967296<=x+y+qY Â),?_⟩;have b:zp ĵc ĵc=À Ō:=rfl;rw[Qy];unfold Xz;simp only[Ó,b,aB]|addc=>refine⟨x+y+qY a,decide (4294967296<=x+y+qY a),?_⟩;have b:zp ĳc ĵc=À û:=rfl;have c:zp ĳc ĳc=À Ō:=rfl;rw[Qy];unfold Xz;simp only[Ó,b,c,aB]|sub=>refine⟨x-y-qY Â,decide Öp,?_⟩;have b:zp Ŋg ĵc=À û:=rfl;have c:zp Ŋg ĳc=À û:=rfl;have d:zp Ŋg Ĳc=À û:=rfl;rw[Qy];unfold Xz;cases a<;>simp only[Ó,b,c,d,Ny x0 x1 e f]|subc=>refine⟨x-y-qY a,decide (x-y-qY a<0),?_⟩;have b:zp Ĳc ĵc=À û:=rfl;have c:zp Ĳc ĳc=À û:=rfl;have d:zp Ĳc Ĳc=À Ō:=rfl;rw[Qy];unfold Xz;cases a<;>simp only[Ó,b,c,d,Ny x0 x1 e f]|test=>refine⟨x-y-qY Â,decide Öp,?_⟩;have b:zp Ŭb ĵc=À û:=rfl;have c:zp Ŭb ĳc=À û:=rfl;have d:zp Ŭb Ĳc=À û:=rfl;rw[Qy];unfold Xz;cases a<;>simp only[Ó,b,c,d,Ny x0 x1 e f]
theorem z0q{d s:Nat}{x y w g:Int}{u:Í}(j:Ws[d]?=À x)(i:Ws[s]?=À y)(h:Xm [.str ķa,.int x,.int y,.bl a]=À (Â,.tup ži))(f:wZ Àd=À (Â,.int g)) :g8 [st Ħ a b c hk hv,.fz űl]=À ([st Ħ u (decide Āe) (decide ăe) hk hv,.fz űl],.fz .zE):=by have e:xg Ŭb Ŭb=À û:=rfl;rw[cE];unfold OR;simp only[Ņ,uV,p_,CS,P1,qS j,qS i,h,ge,kr,ku,W4,W5,WL,Qa,Jd,JN,Lk,Lo,WN f,Xy,e]
#print a
def z5s{x:Int}{n:Nat}(f:0<=x)(e:x<4294967296)(g:n<=31):YL żf=À (Â,.tup [.int (x*2 ^ n%4294967296),if n=0 then .zE else .bl (decide (x*2 ^ n/4294967296%2=1))]):=by
 have d:=NZ (n:=n) f e Å;have b:∀y:Int,wZ [.int y,.int 32,.int 1]=À (Â,.int (y/4294967296%2)):=λy=>kT (x:=y) (l:=32) (w:=1) É
 have c:∀y:Int,wZ [.int y,.int 0,.int 32]=À (Â,.int (y%4294967296)):=λy=>by have:=kT (x:=y) (l:=0) (w:=32) É;rw[Şe,êc]at this;exact this
 rw[z34];unfold FK;by_cases z:n=0;have a:decide Įg=Ã:=ï Å;rw[Î z];simp only[Ó,d,ľ,b,c,Ęd,a];have a:decide Įg=Â:=ć Å;rw[Ð z];simp only[Ó,d,ľ,b,c,Ęd,a]
theorem y4z{x:Int}{n:Nat}:YM żf=À (Â,.tup [.int (x/2 ^ n),if n=0 then .zE else .bl (decide (x/2 ^ Ļf%2=1))]):=by
 have b:decide ((0:Int)<=(n:Int))=Ã:=ï Ůk;rw[z35];unfold FN;by_cases z:n=0;have a:decide Įg=Ã:=ï Å;rw[Î z];simp only[Ó,b,ľ,Ęd,a];have a:decide Įg=Â:=ć Å
 have p:wZ [.int x,.int ((n:Int)-1),.int 1]=À (Â,.int (x/2 ^ Ļf%2)):=by rw[show(n:Int)-1=((n-1:Nat):Int) by omega];exact kT (l:=n-1) (w:=1) É
 rw[Ð z];simp only[Ó,b,ľ,p,Ęd,a]
theorem x6f{w n:Int}(a:0<=w)(b:w<4294967296)(n0:0<=n)(n1:n<65536):ZC [.int w,.int 16,.int 16,.int n]=À (Â,.int (w%65536+65536*n)):=by
 rw[mZ (x:=w) (l:=16) (d:=16) (n:=n) ⟨⟨a,by decide,by decide,by decide,by decide⟩,n0,n1⟩];have e:w+(n-w/65536%65536)*65536=w%65536+65536*n:=by omega
 exact Êa (λz=>À (Â,ĉ z)) e
structure ug(Ws:Á Int):Prop where
 l:ŏa=8
 h:∀w∈Ws,0<=w/\w<4294967296
def ug.at{Ws:Á Int}(h:ug Ws){d:Nat}(a:d<8):∃x,Ws[d]?=À x/\0<=x/\x<4294967296:=⟨_,Ĕ (h.l▸a),h.h _ (àc _)⟩
theorem ug.set{Ws:Á Int}(h:ug Ws){d:Nat}{x:Int}(x0:0<=x)(x1:x<4294967296):ug (Ğf d x):=⟨by rw[Ņa];exact h.l,λw a=>by rcases List.mem_or_eq_of_mem_set a with z|z;exact h.h w z;rw[z];exact⟨x0,x1⟩⟩
def Ja{w:Int}:wZ Àd=À (Â,.int (w/2147483648%2)):=by exact kT (x:=w) (l:=31) (w:=1) É
structure Az(r:D)(Ws:Á Int)(a b c:Í)(ps:Á Ď)(Ws':Á Int)(a' b' c':Í)(ps':Á Ď):Prop where
 w:ug Ws'
 p:vv ps'
 l:Ĵg<=ă+4
 e:pR İm=À ([st (wI Ws') a' b' c' (kP ps') (vP ps'),.fz r],.fz .zE)
structure Vv(r:D):Prop where
 ld:∀D1,pS [D1,r]=À (Â,.bl Â)
 st:zp r úa=À û
 tp:wz r=Ã
 dr:∀{Ws:Á Int}{a b c:Í}{ps:Á Ď},ug Ws->vv ps->ă<=800->∃Ws' a' b' c' ps',Az r Ws a b c ps Ws' a' b' c' ps'
def IF{k:Str}{d s:Nat}(h:Xv k)(B:d<8)(A:s<8):Vv Łc:=by
 have e:(∀D1,pS ēp=À (Â,.bl Â))->zp Łc úa=À û->Yd qN Ģa=À Ō->Ā qN U6 øf=À g8->(xg Ģa Ŭb=À Ō\/k = ķa)->Vv Łc:=λz C i n g=>⟨z,C,rfl,λ{F a b c f} W P E=>by obtain⟨x,l,q,p⟩:=ñb B;obtain⟨y,j,v,w⟩:=ñb A;obtain⟨t,u,m⟩:=y8b (a:=a) h q p v w;have o:0<=t%4294967296:=Íd _ É;have r:t%4294967296<4294967296:=žc _ É;rcases g with g|rfl;exact⟨_,_,_,_,f,Đc o r,P,Åa _ _,Yb i n pE rfl rfl (z0p (b:=b) (c:=c) (hk:=kP f) (hv:=vP f) g l j m Ja)⟩;exact⟨_,_,_,_,f,W,P,Åa _ _,Yb i n pE rfl rfl (z0q (b:=b) (c:=c) (hk:=kP f) (hv:=vP f) l j m Ja)⟩⟩
 cases h with
 |add=>exact e Ņc rfl rfl rfl ĳ|addc=>exact e Ņc rfl rfl rfl ĳ|sub=>exact e Ņc rfl rfl rfl ĳ|subc=>exact e Ņc rfl rfl rfl ĳ|test=>exact e Ņc rfl rfl rfl Ĺb
def N_{k:Str}{d s:Nat}(h:VU k)(p:d<8)(o:s<8):Vv Łc:=by
 obtain⟨n,r,f,t⟩:(∀D1,pS ēp=À (Â,.bl Â))/\zp Łc úa=À û/\Yd qN Ģa=À Ō/\Ā qN U6 øf=À YI:=by cases h<;>exact⟨λ_=>rfl,rfl,rfl,rfl⟩
 refine⟨n,r,rfl,λ{z a b c e} W P v=>?_⟩;obtain⟨x,j,g,u⟩:=ñb p;obtain⟨y,i,m,w⟩:=ñb o;obtain⟨q,rfl⟩:=śb g;obtain⟨l,rfl⟩:=śb m;exact⟨_,_,_,_,e,Đc ċf (Int.ofNat_lt.mpr (rR h Å Å)),P,Åa _ _,Yb f t pE rfl rfl (z0f (a:=a) (b:=b) (c:=c) (hk:=kP e) (hv:=vP e) j i (z4u h (x:=q) (y:=l)) Ja)⟩
def x29{k:Str}{d n:Nat}(h:k = śa \/ k = Ûb)(v:d<8)(s:n<=31):Vv Ŷj:=by
 obtain⟨u,y,l,r⟩:(∀D1,pS [D1,.tup Đl]=À (Â,.bl Â))/\zp Ŷj úa=À û/\Yd qN Ģa=À Ō/\Ā qN U6 øf=À YJ:=by rcases h with rfl|rfl<;>exact⟨λ_=>rfl,rfl,rfl,rfl⟩
 refine⟨u,y,rfl,λ{A a b c e} W P B=>?_⟩;obtain⟨x,o,g,j⟩:=ñb v
 have q:∀{w:Int}{t p:Í},0<=w->w<4294967296->zp Ģa Čg=À ţc->(if t then YL żf else YM żf)=À (Â,.tup [.int w,if n=0 then .zE else .bl p])->∃Ws' a' b' c' ps',Az Ŷj A a b c e Ws' a' b' c' ps':=λ{w t p} i m hk f=>by by_cases z:n=0;rw[Î z]at f;exact⟨_,_,_,_,e,Đc i m,P,Åa _ _,Yb l r pE rfl rfl (z0k (a:=a) (b:=b) (c:=c) (hk:=kP e) (hv:=vP e) o t hk f Ja)⟩;rw[Ð z]at f;exact⟨_,_,_,_,e,Đc i m,P,Åa _ _,Yb l r pE rfl rfl (z0l (a:=a) (b:=b) (c:=c) (hk:=kP e) (hv:=vP e) o t hk f Ja)⟩
 rcases h with rfl|rfl;exact q (t:=Ã) ĳj ĵj rfl (z5s g j s);exact q (t:=Â) (ši g (þa (y48 n))) (Int.lt_of_le_of_lt (Int.ediv_le_self _ g) j) rfl y4z
def Jy{ps:Á Ď}{x y:Int}(P:vv ps):vv (vn ps (x%65536) (y%256)):=y77 P ĳj ĵj ĳj ĵj
def x28{k:Str}{d s:Nat}{n:Int}(h:k = ßb \/ k = Řa \/ k = řa \/ k = őa)(p:d<8)(r:s<8):Vv Ër:=by
 obtain⟨q,t⟩:(∀D1,pS [D1,.tup Ěl]=À (Â,.bl Â))/\zp Ër úa=À û:=by rcases h with rfl|rfl|rfl|rfl<;>exact⟨λ_=>rfl,rfl⟩
 refine⟨q,t,rfl,λ{i a b c f} W P o=>?_⟩;obtain⟨v,m,C,u⟩:=ñb p;obtain⟨x,e,z,w⟩:=ñb r;have j:d<Ĳa:=W.l▸p;rcases h with rfl|rfl|rfl|rfl;have g:=kG İc òb;exact⟨_,a,b,c,f,Đc g.1 Å,P,Åa _ _,Oi rfl rfl pE (z0i j e)⟩;exact⟨i,a,b,c,_,W,Jy P,Ġ Yy (Ìd É _),Oi rfl rfl pE (z0n Đq m e)⟩;have B:=kG Ąi òb;have A:=kG ăi òb;have y:=kG Ăi òb;have E:=kG āi òb;exact⟨_,a,b,c,f,Đc Å Å,P,Åa _ _,Oi rfl rfl pE (z0j P j e)⟩;exact⟨i,a,b,c,Zf f İc v,W,Jy (Jy (Jy (Jy P))),Ġ Yy (ĥc (Ġ Yy (ĥc (Ġ Yy (ĥc Yy))))),Oi rfl rfl pE (z0o Đq m e)⟩
def x27{r:D}(h:qr r)(hz:r≠.tup ţj):Vv r:=by
 have f:∀{d:Int},0<=d->d<8->∃n:Nat,d=(n:Int)/\n<8:=λ{d} q t=>by obtain⟨n,rfl⟩:=śb q;exact⟨n,rfl,by omega⟩
 cases h with
 |Ś=>exact Û rfl hz|Y7 hw d0 d1 n0 n1=>obtain⟨d,rfl,e⟩:=f d0 d1;rcases hw with rfl|rfl;exact⟨λ_=>rfl,rfl,rfl,λ{p a b c i} W P o=>⟨_,a,b,c,i,Đc n0 Å,P,Åa _ _,Yb rfl rfl pE rfl rfl (z0m ŕr)⟩⟩;refine⟨λ_=>rfl,rfl,rfl,λ{p a b c i} W P o=>?_⟩;obtain⟨x,m,k,j⟩:=ñb e;exact⟨_,a,b,c,i,Đc Å Å,P,Åa _ _,Yb rfl rfl pE rfl rfl (z0h m (x6f k j n0 n1))⟩
 |two hw d0 d1 s0 s1=>obtain⟨d,rfl,e⟩:=f d0 d1;obtain⟨s,rfl,g⟩:=f s0 s1;rcases hw with rfl|rfl|rfl|rfl|rfl|rfl|rfl|rfl|rfl;refine⟨λ_=>rfl,rfl,rfl,λ{p a b c i} W P o=>?_⟩;obtain⟨x,m,k,j⟩:=ñb g;exact⟨_,a,b,c,i,Đc k j,P,Åa _ _,Yb rfl rfl pE rfl rfl (z0g ŕr m)⟩;exact IF .add e g;exact IF .addc e g;exact IF .sub e g;exact IF .subc e g;exact N_ .and e g;exact N_ .or e g;exact N_ .xor e g;exact IF .test e g
 |Xb hw d0 d1 n0 n1=>obtain⟨d,rfl,e⟩:=f d0 d1;obtain⟨n,rfl⟩:=śb n0;exact x29 hw e Å
 |mem hw d0 d1 s0 s1 n0 n1=>obtain⟨d,rfl,e⟩:=f d0 d1;obtain⟨s,rfl,g⟩:=f s0 s1;exact x28 hw e g
noncomputable def lt(k:Int):Str:=⟨#[97+Ũ]⟩
def oY(a:0<=k)(b:k<26):v_ (ĳd : Str).cps.toList k=À (97+Ũ):=by
 have h:∀j:Fin 26,v_ (ĳd : Str).cps.toList (j.val:Int)=À (97+j.val):=by decide +kernel
 have:=h ⟨Ũ,by omega⟩;rw[show((⟨Ũ,by omega⟩:Fin 26).val:Int)=k by show(Ũ:Int)=k;omega]at this;exact this
def oZ(b:0<=k)(a:k<26):zM Ír ôf=À (.str (lt k)):=by show(v_ _ k).bind _=_;rw[oY b a];rfl
def ôh(h:ĳa+Ű<=100000):yW (.str a) (.str b)=À (.str Ĭh):=by show(if ĳa+Ű<=yY then _ else _)=_;rw[Î Şf]
theorem z5t(a b:Str):(Ĭh).length=ĳa+Ű:=éo
def dG(k:Int):(lt k).length=1:=rfl
open Ī ĭ
def G9:FS:=(zZ (yP 4 (Ψ (e2 yW (eC (.int 30)) ġ)))
    (zZ (yP 5 (e2 zM ý (e2 xP (e2 yW (Ψ (eC (.int 29))) (e2 qP (eC (.int 9)) ġ)) (eC (.int 26)))))
    (Zi 2 kE (e2 yW (e2 yW (e2 Oq (eC Żj) (e2 xP Ų ťb)) Îa) (e2 Oq (eC Żj) (e2 xP (e2 ZK Ų ťb) ťb))))))
def OT:FS:=
 (zZ (yP 1 (eC Ír))
  (zZ (pA 2 ċd)
  (zZ (p9 Ůp Ĥf
   G9)
  (zZ (xR (tE (e2 zp (e2 xP Ă Ùh) ī))
   (HW 2 ī (e2 zM (vF (Ι ŋg (eC ňc) (zA (eC Ņg) (Α (eC ńg))))) (e2 xP (e2 ZK Ă Ùh) ťb)))
   xq)
  (jD 2)))))
def Q4:Á D->Æ ä:=FR 1 6 OT
def cG(x0:D):Q4 ð=yH 6 OT ð:=rfl
def qn(a k b:Int):Str:=Ćb "q" a++lt k++Ćb "q" b
def y4a:("q" : Str)=⟨#[113]⟩:=by decide +kernel
def Lq{a k b:Int}{x:Nat}:x∈(Łg).cps.toList->x=113\/x=97+Ũ:=λh=>by
 have e:(Łg).cps.toList=(ċq).cps.toList++[97+Ũ]++(Ċq).cps.toList:=by unfold qn;show(ŕl).toList=_;rw[şb,şb];rfl
 rw[e,y4a,Ňp,Ňp]at h;rcases ça h with h|h;rcases ça h with h|h;exact .inl ĺm;exact .inr (Ċa h);exact .inl ĺm
def h7{a k b:Int}:97+Ũ∈(Łg).cps.toList:=by
 have e:(Łg).cps.toList=(ċq).cps.toList++[97+Ũ]++(Ċq).cps.toList:=by unfold qn;show(ŕl).toList=_;rw[şb,şb];rfl
 rw[e];simp
def HF{a k b f c d:Int}(l:0<=k)(g:0<=c)(h:k≠c):qn a k b≠qn f c d:=λe=>by have i:=Lq (a:=f) (k:=c) (b:=d) (x:=97+Ũ) (e▸h7);have j:=Lq (a:=a) (k:=k) (b:=b) (x:=97+c.toNat) (e▸h7);omega
def MF{s:Str}{x y:Nat}{a k b:Int}(f:x∈ņp)(c:y∈ņp)(d:x≠y)(g:x≠113)(h:y≠113):s≠qn a k b:=λe=>by subst e;have:=Lq f;have:=Lq c;omega
def de{j:Int}(a:0<=j)(b:j<4):Oq Żj ïd=À (.str Ĳj):=by show(match decide Žm&&(decide ĥd&&decide Ůg)with|Ã=>À (þe Ĳj)|Â=>Ä)=_;rw[show decide Žm=Ã by decide +kernel,ï a,ï Å];rfl
def df{j:Int}(a:j<4):(Ĳj).length<=1*4:=áq (L:=1) (N:=4) ĥ Å
structure Ay(n0 n1 n2:Str):Prop where
 a:n0≠n1
 b:n0≠n2
 c:n1≠n2
def z71(c:Int):∃n0 n1 n2:Str,Q4 żb=À (Ã,.lst Ėe)/\Ay n0 n1 n2:=by
 obtain⟨a,f⟩:∃a:Int->Int,∀k,uH Ťi=À (Â,.int (a k))/\0<=a k:=⟨λk=>Classical.choose (qA c k),λk=>⟨ÿm.1,ÿm.2.1⟩⟩;have m:=(f 29).1;have P:=(f 29).2
 let nk:Nat->Str:=λk=>qn (a Èq%4) ((a 29+9*(k:Int))%26) (a Èq/4%4)
 have o:∀τ:yE,uo ī Ħc τ=À îl:=λτ=>gX (n:=3) rfl É
 obtain⟨σ',e1,F,J,I,rfl⟩:=kQ (g:=yA 3) (b:=G9) (λi σ=>∃F J I:Æ Sl,σ=[À (Â,.int c),À (Â,.str ĳd),À (Ã,.lst Ċe),F,J,I])
  (ds:=xc 3) (σ:=[À (Â,.int c),À (Â,.str ĳd),À (Ã,.lst []),Ä,Ä,Ä]) 0 ⟨Ä,Ä,Ä,rfl⟩ λi d σ S N=>by
   obtain⟨F,J,I,rfl⟩:=N;rw[Ş];obtain⟨T,rfl⟩:=IH S;have B:=(f ŭb).1;have U:=(f ŭb).2;have w:=oZ (k:=(a 29+9*(i:Int))%26) Å Å;have u:qT 9=Ã:=by decide
   have C:=de (j:=a ŭb%4) Å Å;have v:=de (j:=a ŭb/4%4) Å Å;have O:=df (j:=a ŭb%4) Å;have Q:=df (j:=a ŭb/4%4) Å;have A:yW (.str (Ćb "q" (a ŭb%4))) (.str (lt Çi))=À ñm:=ôh (by rw[dG];omega);have r:yW ñm (.str (Ćb "q" (a ŭb/4%4)))=À ļp:=ôh (by rw[z5t,dG];omega)
   have t:kE (.lst Ċe) ļp=À (Ε Ŷh):=by show(Χd (Ċe) (Æc (Ċe++[_])))=_;rw[Î (by rw[ç,üb];show _<16777216;omega),Ńe,ńa];rfl
   refine⟨_,[À (Â,.int c),À (Â,.str ĳd),À (Ã,.lst Ŷh),À (Â,.int (i:Int)),À (Â,.int (a ŭb)),À (Â,.str (lt Çi))],rfl,.inl ?_,_,_,_,rfl⟩;unfold G9;generalize Ċe=LL at B m u w C v A r t ⊢;generalize Ŷh=LM at B m u w C v A r t ⊢;generalize nk i=NK at B m u w C v A r t ⊢;simp only[Ó,âa,B,m,u,w,C,v,A,r,t,ÿa]
 have R:(îl).length=3:=by rw[ç,üb]
 rw[Ş,R]at e1;have L:(ùa 3).map (λk=>þe (nk k))=[.str (nk 0),.str (nk 1),.str (nk 2)]:=rfl;rw[L]at e1;have G:nk 0≠nk 1:=HF Å Å Å;have H:nk 0≠nk 2:=HF Å Å Å;have p:nk 1≠nk 2:=HF Å Å Å
 have K:∀s:Str,Ŷl->∀k,s≠nk k:=λs E k=>by rcases E with rfl|rfl|rfl|rfl;exact MF (x:=115) (y:=116) ĥ ĥ É É É;exact MF (x:=99) (y:=97) ĥ ĥ É É É;exact MF (x:=106) (y:=117) ĥ ĥ É É É;exact MF (x:=119) (y:=104) ĥ ĥ É É É
 by_cases z:c%5=0;obtain⟨s,q,E⟩:∃s:Str,zM (.lst [.str ôc,.str ăa,.str Ëa,.str Ía]) (Β (c/5%4))=À (.str s)/\Ŷl:=by rcases(show c/5%4=0\/c/5%4=1\/c/5%4=2\/c/5%4=3 by omega)with h|h|h|h<;>rw[h];exact⟨_,rfl,.inl rfl⟩;exact⟨_,rfl,.inr ĳ⟩;exact⟨_,rfl,.inr (.inr ĳ)⟩;exact⟨_,rfl,.inr (.inr Ĺb)⟩
 refine⟨s,nk 1,nk 2,?_,K s E 1,K s E 2,p⟩;have l:zp čq Ł=À Ō:=WK z;have e:ál 3 0=À 0:=rfl;rw[cG];unfold OT;generalize nk 0=A0 at o e1 l q e ⊢;generalize nk 1=A1 at o e1 l q e ⊢;generalize nk 2=A2 at o e1 l q e ⊢;simp only[Ó,HW,o,e1,l,q,e,ÿa];refine⟨nk 0,nk 1,nk 2,?_,G,H,p⟩;have l:zp čq Ł=À û:=LG z;rw[cG];unfold OT;generalize nk 0=A0 at o e1 l ⊢;generalize nk 1=A1 at o e1 l ⊢;generalize nk 2=A2 at o e1 l ⊢;simp only[Ó,o,e1,l,ÿa]
def HP:FA:=(uo ī (e2 yW Ŀc ň))
def Ph:FE:=(wA (zA (eC Ũd) Ťg))
def IR:FT:=(tE (e2 zp đd Ų))
def G8:FS:=(zZ (qD 3 (xw 2 (t_ ċ ý) (uO 5 6) IR Ph))
    (qD 3 (UA Ă (qW Ų) (qW (e2 yW Ų ň)))))
def FB:FS:=
 (zZ Ŭq
  (zZ (p9 HP (yA 4)
   G8)
  (jD 3)))
def Vi:Á D->Æ ä:=FR 3 5 FB
def z2y(x0 x1 x2:D):Vi ŷ=yH 5 FB ŷ:=rfl
noncomputable def zD(q:Str×Nat):D:=.tup [.str q.1,.int (q.2:Int)]
def u4(Z:Á ča)(i:Nat):Á D:=(Z.filter λq=>decide (q.2=i)).map λq=>gR q.1
def cx{Z:Á ča}{i:Nat}:∀d∈u4 Z i,vf d/\xI d=Ã:=λd a=>by obtain⟨q,_,rfl⟩:=Ça a;exact⟨.label _,rfl⟩
def z5l{Z:Á ča}{i:Nat}:(Óh).filter Ŵd=[]:=List.filter_eq_nil_iff.mpr λd a=>by
 rw[(cx d a).2]
 decide
def z5k{Z:Á ča}{i:Nat}:(Óh).length<=Ĩk:=by unfold u4;rw[ç];exact List.length_filter_le ..
theorem GD{t:Str}{i:Nat}:∀(Z:Á ča) (L:Á D),(vK t ýg).2=if(t,i)∈Z then À (Ĉi).length else úc.2
 | [],L=>by show(vK t (L++[])).2=_;rw[ż,Ð â]|q::Z,L=>by
  by_cases c:q.2=i;have e:u4 (q::Z) i=gR q.1::u4 Z i:=by unfold u4;rw[Ŝd,Î (ï c),ŝ]
  rw[e,show L++gR q.1::u4 Z i=ĸp++u4 Z i by simp,GD Z,fA]
  have e2:(ĸp).filter Ŵd=L.filter λd=>!xI d:=by rw[ıe];show _++[]=_;rw[ż]
  rw[e2];by_cases m:(t,i)∈Z;rw[Î m,Î Ŧg];rw[Ð m];by_cases h:q.1=t;rw[Î h,Î (by rw[<-h,<-c];exact Ŏ)];rw[Ð h,Ð λz=>by rcases Ĺ z with z|z;exact h Żp;exact m z];have e:u4 (q::Z) i=u4 Z i:=by unfold u4;rw[Ŝd,Ð (by rw[ć c];decide)]
  rw[e,GD Z];by_cases m:(t,i)∈Z;rw[Î m,Î Ŧg];rw[Ð m,Ð λz=>by rcases Ĺ z with z|z;exact c Żp;exact m z]
structure Vr(Z:Á ča)(Ï zF:Á D):Prop where
 it:∀d∈zF,vf d
 rw:zF.filter Ŵd=Ï
 ln:ßr<=1000
 pl:∀q∈Z,(vK q.1 zF).2=À q.2
def z4m{Z:Á ča}{Ï:Á D}(k:(ûe (·.1)).Nodup)(H:Ĩk<=3)(u:∀q∈Z,q.2<=é)(N:∀r∈Ï,vf r/\xI r=Â)(X:é<=60) :∃zF,Vi [.lst Ï,.lst şf,.lst Àg]=À (Ã,.lst zF)/\Vr Z Ï zF:=by
 have j:∀{t:Str}{p J:Nat},(t,p)∈Z->(t,J)∈Z->p=J:=λ{t p J} h m=>by
  clear u H
  induction Z with
  |nil=>cases h|đ q Z ih=>rw[ŝ,List.nodup_cons]at k;rcases Ĺ h with e|h;rcases Ĺ m with e'|m;rw[<-e]at e';exact(Êa Prod.snd e').symm;exact Û (ĸn (f:=(·.1)) m) (by rw[<-e]at k;exact k.1);rcases Ĺ m with e'|m;exact Û (ĸn (f:=(·.1)) h) (by rw[<-e']at k;exact k.1);exact ih k.2 h m
 have P:HP Ŋh=À (xc Ìh):=by unfold HP;have:=gX (f:=e2 yW Ŀc ň) (τ:=Ŋh) (n:=((é+1:Nat):Int)) rfl Å;rw[ľ]at this;exact this
 obtain⟨σ',e1,L,O,K,s,R,o,rfl⟩:=kQ (g:=yA 4) (b:=G8) (λi σ=>∃(L:Á D) (O:Æ Sl),(∀d∈L,vf d)/\L.filter Ŵd=rows.take i/\Öb<=4*i/\(∀q∈Z,(vK q.1 L).2=if q.2<i then À q.2 else Ä)/\σ=[À (Â,.lst Ï),À (Â,.lst şf),À (Â,.lst Àg),À (Ã,.lst L),O])
  (ds:=xc Ìh) (σ:=Ŋh) 0 ⟨[],Ä,λ_ h=>Û h â,rfl,by simp,λq _=>by rw[Ð Å];rfl,rfl⟩ λi d σ a G=>by
   obtain⟨L,O,K,s,R,o,rfl⟩:=G;rw[Ş]at *;obtain⟨Y,rfl⟩:=IH a
   have v:t_ ċ ý [À (Â,.lst Ï),À (Â,.lst şf),À (Â,.lst Àg),À (Ã,.lst L),À (Â,.int (i:Int))]=À (ûe zD):=by
    show À (ĭb Či (ûe λq=>þe q.1) (ûe λq=>ĉ (q.2:Int)))=_
    congr 1
    clear u H j k o P a
    induction Z with
    |nil=>rfl|đ q Z ih=>rw[ŝ,ŝ,Ùc,ih,ŝ];rfl
   have B:ye (uO 5 6) IR Ph Ćl (ûe zD)=À Óh:=by
    generalize hσ:(Ćl:yE)=S
    have I:∀q:Str×Nat,∃σ1,uO 5 6 (zD q) S=À σ1/\IR σ1=À (decide (q.2=i))/\Ph σ1=À (gR q.1):=λq=>by subst hσ;refine⟨_,rfl,?_,rfl⟩;by_cases h:q.2=i;rw[ï h];have F:zp īo Ňa=À Ō:=WK Å;unfold IR;simp only[Ó,F];rw[ć h];have F:zp īo Ňa=À û:=LG Å;unfold IR;simp only[Ó,F]
    clear hσ u H j k o P a v
    induction Z with
    |nil=>rfl|đ q Z ih=>obtain⟨σ1,Q,C,U⟩:=I q;rw[ŝ];unfold u4;by_cases h:q.2=i;rw[ï h]at C;rw[Ŝd,Î Ųk,ŝ];simp only[ye,Q,C,U,Äb,ih];rfl;rw[ć h]at C;rw[Ŝd,Ð (by rw[ć h];decide)];simp only[ye,Q,C,Äb,ih];rfl
   have cut:tu Ï (À (i:Int)) (À łj)=(ŭk).take 1:=by unfold tu;rw[show(i:Int)+1=((i+1:Nat):Int) by omega,ķg,ķg];by_cases z:i<é;rw[show min i é=i by omega,show min ê é-i=1 by omega];rw[Åd Å,Åd Å,Ċp,Ċp]
   have lb:=z5k (Z:=Z) (i:=i);have lc:(æg).length<=1:=by rw[èa];omega
   have w:Öb+(Óh).length<=yY:=by show _<=16777216;omega
   have A:(ýg).length+(æg).length<=yY:=by rw[í];show _<=16777216;omega
   refine⟨_,[À (Â,.lst Ï),À (Â,.lst şf),À (Â,.lst Àg),À (Ã,.lst ún),À (Â,.int (i:Int))],rfl,.inl ?_,_,_,?_,?_,?_,?_,rfl⟩;unfold G8;generalize æg=RR at v B w A cut ⊢;generalize u4 Z i=LB at v B w A cut ⊢;generalize ûe zD=ZD at v B w A cut ⊢;simp only[Ó,qD,UA,qW,Qr,v,B,Î w,Î A,âa,cut];intro d a;rcases ça a with a|a;rcases ça a with a|a;exact K d a;exact(cx d a).1;exact Řn.1;rw[ıe,ıe,z5l,s,ż]
   have:(æg).filter Ŵd=(ŭk).take 1:=Æn λd a=>by rw[Řn.2];rfl
   rw[this,<-List.take_add];rw[í,í];omega;intro q l
   have e1:(vK q.1 ún).2=(vK q.1 ýg).2:=by
    rcases h:(ŭk).take 1 with _|⟨r,ĵ⟩;rw[ż];have E:ĵ=[]:=by have:=Êa żd h;rw[ĕ]at this;exact ġm Å
    subst E;exact fC (N r (Ľd (ſc (by rw[h];exact Ŏ)))).2
   have T:=u q l;rw[e1,GD,s,èa,o q l];by_cases c:q.2=i;rw[Î (by rw[<-c];exact l),Î Å,show min i é=q.2 by omega];rw[Ð λz=>c (j l z)];by_cases z:q.2<i;rw[Î z,Î Å];rw[Ð z,Ð Å]
 have W:(xc Ìh).length=é+1:=by rw[ç,üb]
 simp only[Ş,W]at s R o;refine⟨L,?_,K,by rw[s,Äd Å],by omega,λq l=>by rw[o q l,Î (by have:=u q l;omega)]⟩;rw[z2y];unfold FB;simp only[Ó,P,e1]
def XE:FE:=(uN (tE (zT T_ ķb)) (e2 zM ý (Ρc (e1 Qp ň))) Ča)
def OV:FS:=
 (zZ (yP 1 (zT Vh õb))
  (qc (xw 1 (uq Űd) Ũc yf XE)))
def jP:Á D->Æ ä:=FR 1 2 OV
def cI(x0:D):jP ð=yH 2 OV ð:=rfl
def GA:FS:=(Zj 2 ġ (wA (zA (e2 zM ý ġ) (zA (e2 yW ġ ň) ød))))
def Fc:FS:=
 (zZ (yP 1 Űd)
  (zZ (pA 2 Žh)
  (zZ (p9 (gO ġg) éf
   GA)
  (jD 2))))
def QB:Á D->Æ ä:=FR 1 5 Fc
def z3g(x0:D):QB ð=yH 5 Fc ð:=rfl
def DY:yR:=
 (xK (Ξc (uM QB øb))
  (qz (pf Xf (Ρd (eL CL ød)))))
def VW:FM:=ve 4 5 DY
def z1x(x0 x1 x2 x3:M):VW Ŭd=wX 4 5 DY Ŭd:=rfl
noncomputable def gc(Ï tgs:Á D)(n:Nat):Á D:=(Ţc).map λk:Nat=>.tup Śh
theorem y9f{Ï tgs:Á D}{n:Nat}:wM (t8 n) ád=t8 ķ/\wC (t8 n) ãp ád (.tup [òc n .zE,.int ĵq,Ĝk n .zE])=gc Ï tgs ķ:=by unfold wM wC;rw[Ð Îo,Ð Îo];unfold t8 gc;rw[Ńe,ńa,ńa];exact⟨rfl,rfl⟩
def y9e{Ï tgs:Á D}{k n:Nat}(h:k<n):zM (.dic (t8 n) ãp) ùg=À (.tup Śh):=by show(uP ùg).bind _=_;exact bz (g:=λk:Nat=>.tup Śh) (Ïd h)
def y9a{a Ï tgs:Á D}(h:qK Ńb=À (Ã,.lst Ï))(r:jP Ńb=À (Ã,.lst tgs))(t:œj=é)(u:é<=1000):QB Ńb=À (Ã,.dic (t8 é) œi):=by
 have f:gO ġg ĩl=À (tM tgs):=by unfold gO;simp only[Ó,r]
 obtain⟨σ',e1,x,y,rfl⟩:=kQ (g:=uO 3 4) (b:=GA) (λi σ=>∃x y:Æ Sl,σ=[À (Â,.lst a),À (Â,.lst Ï),À (Ã,.dic (t8 i) (gc Ï tgs i)),x,y])
  (ds:=tM tgs) (σ:=ĩl) 0 ⟨Ä,Ä,rfl⟩ λi d σ e o=>by
   obtain⟨x,y,rfl⟩:=o;rw[Ş]
   have k:i<é:=by have:=čf.1;rw[Ys]at this;omega
   have c:i<œj:=by omega
   rw[JT,Ĕ c]at e;cases e;have p:tgs[i]=Ĝk i .zE:=by rw[øa,Ĕ c];rfl
   rw[p]
   have j:zM žj Ňa=À Ĳ:=by show v_ Ï (i:Int)=_;unfold v_;rw[Î (Ÿc i),ľ,øa,Ĕ k];rfl
   obtain⟨q,s⟩:=y9f (Ï:=Ï) (tgs:=tgs) (n:=i);have m:(t8 i).length<yY:=by unfold t8;rw[ç,üb];show _<16777216;omega
   have l:uP Ňa=À (.inl (i:Int)):=rfl;refine⟨_,[À (Â,.lst a),À (Â,.lst Ï),À (Ã,.dic (t8 ê) (gc Ï tgs ê)),À (Â,.int (i:Int)),À (Â,Ĝk i .zE)],rfl,.inl ?_,_,_,rfl⟩;rw[<-q,<-s];unfold GA;simp only[Ó,Zj,j,âa,l,Î m]
 rw[Ş,Ys,t]at e1;rw[z3g];unfold Fc;generalize tM tgs=NN at f e1;simp only[Ó,h,f,e1]
theorem y50{a Ï tgs:Á D}{b:D}{Ws:Á Int}{ps:Á Ď}(e:qK Ńb=À (Ã,.lst Ï))(i:jP Ńb=À (Ã,.lst tgs))(j:œj=é)(c:é<=1000)(d:ŏa=8)(f:∀w∈Ws,0<=w/\w<4294967296)(k:YH [b]=À (Ã,.dic Ĩ Ń)) :VW [.obj ú [] [],.fz óf,.fz āa,.fz b]=À ([yN ú (.dic (t8 é) œi) é āa Łd Ïi 0 0,.fz óf,.fz āa,.fz b],.fz .zE):=by
 have g:gH (.obj ú [] []) 0 []=.p 0 []:=rfl
 have h:CL [.dic (t8 é) œi]=À (.int é):=by show À (ĉ ((t8 é).length:Int))=_;unfold t8;rw[ç,üb]
 rw[z1x];unfold DY;simp only[Ņ,y9a e i j c,h,g,dX .row d f k]
def tT(a:Á D)(r:D):D:=match xy r with
 |Ã=>match Yp r with
  |.str t=>((Ĝj).map λn:Nat=>ĉ n).getD .zE|_=>.zE
 |Â=>.zE
inductive RJ(Z:Á ča)(RK:D->Prop):D->Prop
 |Ŷa {r:D} (h:RK r):RJ Z RK r
 |Ś:RJ Z RK úa
 |vZ {q:Str×Nat} (h:q∈Z):RJ Z RK Ær
 |ðb {w k:Str} {q:Str×Nat} (hw:w = Ía \/ w = ßa) (hk:k = ăa \/ k = ŋa \/ k = ųa) (h:q∈Z):RJ Z RK Ďm
structure Hd(r:D):Prop where
 pr:qr r
 w:∃w,zM r Ł=À Õa/\zp Õa ŋg=À û/\ZN Õa (.lst ĳm)=À Ō
def iJ{Z:Á ča}{a:D->Prop}(b:∀r,a r->Hd r){r:D}(h:RJ Z a r):vf r/\xI r=Â:=by
 cases h with
 |Ŷa h=>exact⟨.plain (b r h).pr,(HU (m:=0) (.inl (b r h).pr)).choose_spec.2.2.1⟩|Ś=>exact⟨.plain .stop,rfl⟩|vZ h=>exact⟨.vZ _,rfl⟩|ðb hw hk h=>exact⟨.cond _ hw hk,by rcases hw with rfl|rfl<;>rfl⟩
def y9d{Z:Á ča}{m:D->Prop}{Ï a:Á D}(o:∀r,m r->Hd r)(s:∀r∈Ï,RJ Z m r)(Y:Vr Z Ï a):qK Ńb=À (Ã,.lst Ï)/\jP Ńb=À (Ã,.lst (ĸg (tT a))):=by
 obtain⟨b,c,A,E⟩:=cv Y.it Y.ln;have i:=Ly Y.it;rw[Y.rw]at i;refine⟨i,?_⟩
 have C:=kO (g:=yA 2) (e:=XE) (σ:=[À (Â,.lst a),À (Â,.dic b c),Ä]) (ds:=Ï) (tT a) λr v=>by
  have f:=cW (iJ o (s r v)).1;refine⟨řh,rfl,?_⟩
  have d:∀(t:Str)(p:Nat),xy r=Ã->zM r Ľg=À àh->Yp r=.str t->(vK t a).2=À p->XE řh=À (tT a r):=λt p z x y l=>by
   have B:zM (.dic b c) àh=À ũd:=by show Ā b c öf=_;rw[E,l];rfl
   have j:tT a r=.int (p:Int):=by unfold tT;rw[z,y];show((Ĝj).map λn:Nat=>ĉ n).getD .zE=_;rw[l];rfl
   rw[z]at f;rw[j];unfold XE;simp only[Ó,f,x,B]
  have u:xy r=Â->XE řh=À (tT a r):=λz=>by
   have j:tT a r=.zE:=by unfold tT;rw[z]
   rw[z]at f;rw[j];unfold XE;simp only[Ó,f]
  cases s r v with
  |Ŷa h=>exact u (Ua (o r h).pr).choose_spec.2.2.2.1|Ś=>exact u rfl|@vZ q h=>exact d q.1 q.2 rfl rfl rfl Żq|@cond w k q hw hk' h=>exact d q.1 q.2 (by rcases hw with rfl|rfl<;>rfl) rfl rfl Żq
 rw[cI];unfold OV;simp only[Ó,A,i,C]
def F8:FS:=
 (zZ (yP 3 (Ξb (zT uH (Χ ėe))))
  (zZ (yP 4 (Ξb (Ψ (e2 yW ėe ň))))
  (zZ (yP 5 (Ψ (e2 yW ėe (eC (.int 2)))))
  (zZ (yP 6 (Ρc (e2 xP (Ψ (e2 yW ėe Ħc)) Ħc)))
  (zZ (yP 7 (υb (Ι ňc (eC Že) (Α (eC że))) (Ψ (e2 yW ėe ťb))))
  (zZ (pA 8 (vF (zA (wA (Ι ńg Ċc ðk)) (zA (wA (Ι źj Ċc ðk)) (zA (wA (zA (eC Ņg) ðk)) (Λb (Ι Ŋg ġ ød) (Θc Ìr (θ (e2 xP Îa Ùh)))))))))
  (zZ (Οc (zA (Θc (.str Ûb) (Α (e2 xP Îa ťb))) (Λb (Ι Čg ġ (Α (e2 xP Îa ĩe))) (wA (zA (εb (Ι ĵc (eC ĳc) (zA (eC Ĳc) (θ (eC Ŭb))))) (zA ġ Ĝq))))))
  (zZ (Οc (Λb (zA (εb (Ι (.str "load") (eC (.str Řa)) (zA (eC (.str řa)) (Α (eC (.str őa)))))) (zA ġ (zA Ų (Α (e2 xP (e2 ZK Îa ťb) Şo))))) (Θc (.str àb) (θ (e2 xP Îa ÿo)))))
  (zZ (Οc (Λb (zA (εb (Ι (.str ōb) (eC ŷd) (zA (eC (.str íb)) (Α (eC Ÿj))))) (zA ġ ød)) (e2 zM (vF (zA (wA (θ (eC ŋg))) (θ (wA (Ι Ŭb ġ (zA ġ zG)))))) (e2 xP Îa źc))))
  (zZ (Jp 8) (yF (e2 zM (z6 8) (e2 xP Ă Ŏe)))))))))))))
def Q2:Á D->Æ ä:=FR 3 9 F8
def z2w(x0 x1 x2:D):Q2 ŷ=yH 9 F8 ŷ:=rfl
def Pf:FE:=(e2 xP (zT uH (zA ġ (Α (e2 yW äp Ċc)))) (e2 yW ċ ň))
def HN:FA:=(uo ī ċ)
def Pg:FE:=(zT Q2 (zA (zT jO (Χ (e2 yW (e2 yW ý (eC Ŷb)) Ċc))) (zA Ċc ød)))
def F9:FS:=
 (zZ (Μ (e2 yW ň (e2 xP (zT jO Ĩc) Ŏe)))
  (zZ (yP 3 (zT jO (Χ Êg)))
  (zZ (yP 4 (uM Q4 ŉc))
  (zZ (yP 5 (xw 1 Ůp (yA 7) yf Pf))
  (zZ (yP 6 (xw 1 HN (yA 7) yf Pg))
  (Ω (zA đd (zA Îa ød))))))))
def Q3:Á D->Æ ä:=FR 2 7 F9
def z2x(x0 x1:D):Q3 õ=yH 7 F9 õ:=rfl
def qL(r:D):Prop:=qr r/\r≠.tup ţj
theorem Wj{w:Str}{d s:Nat}(a:w = ōb \/ w = Ša \/ w = ēb \/ w = Ęb \/ w = Ēb \/ w = ěb \/ w = íb \/ w = ęb \/ w = ķa)(c:d<8)(b:s<8):qL (.tup [.str w,.int (d:Int),.int (s:Int)]):=⟨.two a Å Å Å Å,nofun⟩
def cK(r:D)(h:qL r):Hd r:=by
 obtain⟨h,a⟩:=h;refine⟨h,?_⟩;cases h with
 |Ś=>exact Û rfl a|Y7 hw=>rcases hw with rfl|rfl<;>exact⟨_,rfl,rfl,rfl⟩
 |two hw=>rcases hw with rfl|rfl|rfl|rfl|rfl|rfl|rfl|rfl|rfl<;>exact⟨_,rfl,rfl,rfl⟩
 |Xb hw=>rcases hw with rfl|rfl<;>exact⟨_,rfl,rfl,rfl⟩
 |mem hw=>rcases hw with rfl|rfl|rfl|rfl<;>exact⟨_,rfl,rfl,rfl⟩
def rA{n0 n1 n2:Str}{p0 p1 p2:Nat}(c k:Int):∃r,Q2 [.int c,.int k,.lst Ėe]=À (Â,r)/\RJ ĺd qL r:=by
 obtain⟨H,y,a0,b0⟩:=qA c (5*k);obtain⟨E,t,a1,b1⟩:=qA c (5*k+1);obtain⟨f,C,a2,b2⟩:=qA c (5*k+2);obtain⟨v3,u,a3,b3⟩:=qA c (5*k+3);obtain⟨v4,p,a4,b4⟩:=qA c (5*k+4);obtain⟨b,O,a⟩:∃b:Nat,H%8=(b:Int)/\b<8:=⟨(H%8).toNat,by omega,by omega⟩;obtain⟨g,L,e⟩:∃g:Nat,E%8=(g:Int)/\g<8:=⟨(E%8).toNat,by omega,by omega⟩;obtain⟨_,T,q,rfl,B⟩:=Ym (P:=λd=>∃q:Str×Nat,d=.str q.1/\q∈[(n0,p0),(n1,p1),(n2,p2)]) v3 (n:=3) (l:=Ėe) rfl É (xU ⟨(n0,p0),rfl,by simp⟩ (xU ⟨(n1,p1),rfl,by simp⟩ (xU ⟨(n2,p2),rfl,by simp⟩ YV)));obtain⟨_,S,h,rfl,I⟩:=Ym (P:=λd=>∃h:Str,d=.str h/\(h = ăa \/ h = ŋa \/ h = ųa)) v4 (n:=3) (l:=[.str ăa,.str ŋa,.str ųa]) rfl É (xU ⟨_,rfl,.inl rfl⟩ (xU ⟨_,rfl,.inr ĳ⟩ (xU ⟨_,rfl,.inr Ĺb⟩ YV)));obtain⟨_,F,wa,rfl,ha⟩:=Ym (P:=λd=>∃w:Str,d=.str w/\(w = Ša \/ w = ēb \/ w = Ēb \/ w = ķa)) f (n:=4) (l:=[.str Ša,.str ēb,.str Ēb,.str ķa]) rfl É Ĉl;obtain⟨_,i,Y,rfl,z⟩:=Ym (P:=λd=>∃w:Str,d=.str w/\(w = ßb \/ w = Řa \/ w = řa \/ w = őa)) f (n:=4) (l:=[.str ßb,.str Řa,.str řa,.str őa]) rfl É Ĉl;obtain⟨_,G,W,rfl,hc⟩:=Ym (P:=λd=>∃w:Str,d=.str w/\qL (.tup [.str w,.int (b:Int),.int (g:Int)])) f (n:=4) (l:=[.str ōb,.str ěb,.str íb,.str ęb]) rfl É (xU ⟨_,rfl,Wj â a e⟩ (xU ⟨_,rfl,Wj â a e⟩ (xU ⟨_,rfl,Wj â a e⟩ (xU ⟨_,rfl,Wj â a e⟩ YV))));obtain⟨J,s,v⟩:=Ym (P:=RJ ĺd qL) f (n:=2) (l:=[.tup ţj,.tup [.str ķa,.int (b:Int),.int (b:Int)]]) rfl É (xU .stop (xU (.plain (Wj â a a)) YV));obtain⟨m,j,Z⟩:∃m:Nat,f%4=(m:Int)/\m<=31:=⟨(f%4).toNat,by omega,by omega⟩;obtain⟨o,A,N⟩:∃o:Nat,f%32=(o:Int)/\o<=31:=⟨(f%32).toNat,by omega,by omega⟩;rw[j]at F i G
 obtain⟨x,R,K⟩:=Ym (P:=RJ ĺd qL) c (n:=12) (l:=[.tup [.str Ía,.str h,.str q.1],.tup [.str ßa,.str h,.str q.1],.tup êm,.tup [.str Ęb,.int (b:Int),.int (g:Int)],.tup [.str şa,.int (b:Int),.int (f%5)],.tup [.str Ûb,.int (b:Int),.int (m:Int)],.tup [.str śa,.int (b:Int),.int (o:Int)],.tup [.str wa,.int (b:Int),.int (g:Int)],.tup [.str Y,.int (b:Int),.int (g:Int),.int (f/4%256)],.tup [.str àb,.int (b:Int),.int (f%65536)],.tup [.str W,.int (b:Int),.int (g:Int)],J]) rfl É
  (xU (.cond ĳ I B) (xU (.cond Ĺb I B) (xU (.vZ B) (xU (.plain (Wj â a e)) (xU Ũl (xU ũl (xU ũl (xU (.plain (Wj (by rcases ha with rfl|rfl|rfl|rfl<;>simp) a e)) (xU (.plain ⟨.mem z Å Å Å Å Å Å,nofun⟩) (xU Ũl (xU (.plain hc) (xU v YV))))))))))))
 refine⟨x,?_,K⟩;have X:qT 5=Ã:=by decide
 have Q:8<=yY:=by decide
 have U:10<=yY:=by decide
 have g3:12<=yY:=by decide
 rw[z2w];unfold F8;simp only[Ó,qD,âa,X,y,t,C,u,p,O,L,T,S,j,A,F,i,G,s,Î Q,Î U,Î g3,R,ÿa]
theorem z0r(ns:Á Int):∃(n:Nat) (n0 n1 n2:Str) (p0 p1 p2:Nat) (Ï:Á D),1<=n/\n<=12/\Ay n0 n1 n2/\p0<=n/\p1<=n/\p2<=n/\é=n/\(∀r∈Ï,RJ ĺd qL r)/\Q3 [.lst þb,.int 3]=À (Â,.tup [.lst Ï,.lst (wI ďe),.lst Ėe]):=by
 have L:=U3 ns (k:=3) É;have E:=U3 ns (k:=4) É;obtain⟨n0,n1,n2,q,U⟩:=z71 Òf;obtain⟨n,P,A,B⟩:∃n:Nat,1+pj ns 3%12=(n:Int)/\1<=n/\n<=12:=⟨(1+pj ns 3%12).toNat,by omega,by omega,by omega⟩;have K:∀τ:yE,uo ī Ħc τ=À îl:=λτ=>gX (n:=3) rfl É
 generalize hNS:Ĕb ĉ=NS at *;generalize hNM:Æc Ėe=NM at *
 obtain⟨C,W,T,b⟩:=GE (g:=yA 7) (e:=Pf) (σ:=[À (Â,.lst NS),À (Â,.int 3),À (Â,.int (n:Int)),À (Â,.int Òf),À (Â,NM),Ä,Ä,Ä]) (λv=>0<=v/\v<=n) (ds:=xc 3) λd w=>by obtain⟨k,_,rfl⟩:=Ça w;obtain⟨v,Q,Z,Y⟩:=qA Òf (40+(k:Int));refine⟨_,v%ĵq,rfl,?_,Íd _ Å,by have:=žc v (show 0<(n:Int)+1 by omega);omega⟩;have z:decide (0<(n:Int)+1)=Ã:=ï Å;unfold Pf;simp only[Ó,âa,Q,z]
 obtain⟨p0,p1,p2,p,X,H,N⟩:∃p0 p1 p2:Nat,C=ďe/\p0<=n/\p1<=n/\p2<=n:=by
  match C,T,b with
  | [x,y,z],_,b=>have I:=b x â;have R:=b y â;have S:=b z â;refine⟨x.toNat,y.toNat,z.toNat,?_,by omega,by omega,by omega⟩;rw[ęi I.1,ęi R.1,ęi S.1]
 subst p;generalize hPL:wI ďe=PL at *
 obtain⟨Ï,c,G⟩:=cy (g:=yA 7) (e:=Pg) (σ:=[À (Â,.lst NS),À (Â,.int 3),À (Â,.int (n:Int)),À (Â,.int Òf),À (Â,NM),À (Â,.lst PL),Ä,Ä]) (λ_ x=>RJ ĺd qL x) (ds:=xc n) λd w=>by obtain⟨k,_,rfl⟩:=Ça w;have F:=U3 ns (k:=5+(k:Int)) Å;rw[hNS]at F;obtain⟨r,c,s⟩:=rA (n0:=n0) (n1:=n1) (n2:=n2) (p0:=p0) (p1:=p1) (p2:=p2) (pj ns (5+(k:Int))) (k:Int);rw[hNM]at c;refine⟨_,r,rfl,?_,s⟩;unfold Pg;simp only[Ó,âa,F,c]
 have a:é=n:=by rw[<-W7 G,ç,üb]
 have s:∀r∈Ï,RJ ĺd qL r:=λr O=>by obtain⟨x,_,h⟩:=bP G r O;exact h
 have o:∀{i l m t j u:Æ Sl},HN Þm=À ģh:=λ{i l m t j u}=>by unfold HN;have:=gX (f:=z6 2) (τ:=Þm) (n:=(n:Int)) rfl Å;rw[ľ]at this;exact this
 have J:jO [.lst NS,.int (3+1)]=À (Â,.int Òf):=E;refine⟨n,n0,n1,n2,p0,p1,p2,Ï,A,B,U,X,H,N,a,s,?_⟩;rw[hNM,hPL,z2x];unfold F9;simp only[Ó,L,E,q,âa,P,K,W,o,c,ÿa]
def Pd:FE:=(wA (zA đd Áj))
def iB:FA:=(uo ī (eL tL ĵr))
def Ez:FS:=(zZ ıp
    (yP 5 (e2 ìg Îa (uN (tE (e2 t6 ġ ċ)) źc ň))))
def Df:FS:=
 (zZ (Μ (Ζc (xw 1 ĵk (yA 6) yf Pd)))
  (zZ (pA 4 ċd)
  (zZ (yP 5 ī)
  (zZ (p9 iB Ĥf
   Ez)
  (zZ ıp
  (jD 4))))))
def Xg:Á D->Æ ä:=FR 2 6 Df
def z23(x0 x1:D):Xg õ=yH 6 Df õ:=rfl
noncomputable def yt(f:Nat->Í):Nat->Int
 |0=>0|n+1=>yt f n+ûi
def qu(f:Nat->Í)(n:Nat):Á D:=(Ţc).map λi=>ĉ (yt f i)
def aE(f:Nat->Í)(n:Nat):qu f ķ=qu f n++[.int (yt f n)]:=by unfold qu;rw[Ńe,ńa];rfl
def aD(f:Nat->Í)(n:Nat):(qu f n).length=n:=by simp[qu]
noncomputable def yL(zC:Á Nat):Á D:=Ĉc λi:Nat=>ĉ i
def zc(zC:Á Nat)(n:Nat):Í:=(Øb).any λy=>xZ y Çb
theorem Et:∀zC:Á Nat,Yo (Ĉc λi:Nat=>Åc Īe)=À (Ĉc λi:Nat=>Ìa (i:Int),Ĉc λ_=>Ĕc Ã)
 | []=>rfl|a::zC=>by show(uP ŏe).bind _=_;show(Yo (Ĉc λi:Nat=>Åc Īe)).bind _=_;rw[Et zC];rfl
theorem Eg(n:Nat):∀zC:Á Nat,yp (Ĉc λi:Nat=>Ìa (i:Int)) ád=zc zC n
 | []=>rfl|a::zC=>by
  show(decide ((Ìa (a:Int):Sum Int Str)=.inl (n:Int))||yp (Ĉc λi:Nat=>Ìa (i:Int)) ád)=(xZ ŏe Çb||zc zC n);rw[Eg n zC];have:xZ ŏe Çb=Úo:=rfl;rw[this]
  congr 1
  by_cases h:(a:Int)=(n:Int);rw[ï Ůj,h,Õd];rw[ć (λe=>h (èc e)),ĝc h]
theorem aC{a:Á D}(h:∀d∈a,vf d){zC:Á Nat}{n:Nat}(m:(Êd).length=n)(t:n<=900):Xg Ôg=À (Ã,.lst (qu ę ķ)):=by
 have o:=Ly h
 have e1:ye (yA 6) yf Pd ĳl Øb=À (Ĉc λi:Nat=>Åc Īe):=by
  have:=kO (g:=yA 6) (e:=Pd) (σ:=ĳl) Ìn (ds:=yL zC) λd w=>⟨_,rfl,rfl⟩
  rw[this];unfold yL;rw[Êb];rfl
 obtain⟨K,V,e2,p⟩:∃K V,Yc ëm=À Ōg/\∀n:Nat,yp K ád=zc zC n:=by refine⟨ľf.1,ľf.2,?_,λn=>?_⟩;show(Yo _).bind _=_;rw[Et];rfl;rw[Ef â,Eg];rfl
 have s:iB Ŏh=À ģh:=by have:=gX (f:=eL tL ĵr) (τ:=Ŏh) (n:=(n:Int)) (by simp only[Ó,o,m]) Å;exact this
 obtain⟨σ',l,k,rfl⟩:=kQ (g:=yA 3) (b:=Ez) (λi σ=>∃k,σ=[À (Â,.lst a),À (Â,.lst Øb),À (Â,.dic K V),k,À (Ã,.lst (qu ę i)),À (Â,.int ŀg)]) (ds:=xc n)
  (σ:=Ŏh) 0 ⟨Ä,rfl⟩ (by
  rintro i v σ q ⟨k,rfl⟩;obtain⟨u,rfl⟩:=IH q;rw[Ş]at *;have c:=OM (L:=qu ę i) (r:=.int ŀg) āo
  have j:t6 Ňa Ōg=À (.bl ľr):=by show(Łm).bind _=_;rw[p];rfl
  refine⟨_,[À (Â,.lst a),À (Â,.lst Øb),À (Â,.dic K V),À (Â,.int (i:Int)),À (Ã,.lst (qu ę ê)),À (Â,.int (yt ę ê))],rfl,.inl ?_,_,rfl⟩;rw[aE];show _=À (Fl.nx [_,_,_,_,_,À (Â,.int Òp)]);unfold Ez;cases hf:zc zC i<;>rw[hf]at j<;>simp only[Ó,c,j]<;>rfl)
 rw[x4c,Ş]at l;have c:=OM (L:=qu ę n) (r:=.int (yt ę n)) āo;rw[aE];rw[z23];unfold Df;simp only[Ó,e1,e2,s,l,c]
def F0:FS:=
 (yF (Oj ūi (U9 (e2 đj (e1 Qp îf) Ă) (e2 đj Ă (eC üd)))))
def Q0:Á D->Æ ä:=FR 1 1 F0
def z2p(x0:D):Q0 ð=yH 1 F0 ð:=rfl
def Mp:FE:=(uN (tE (e2 ZM Ų Ča)) Ča (e2 gJ Šo (e2 zM ċ ġ)))
def Dl:FS:=
 (zZ (Μ (uM Xg Ĩc))
  (qc (xw 2 (gO ġg) éf yf Mp)))
def Vd:Á D->Æ ä:=FR 2 3 Dl
def z29(x0 x1:D):Vd õ=yH 3 Dl õ:=rfl
def Pj:FE:=(wA (zA Îa Áj))
def iC:FA:=(uo ī (eL tL ķb))
def Pk:FE:=Îa
def IS:FT:=(tE (e2 ZN Îa ġ))
def Pl:FE:=Îa
def IU:FT:=(υ (zT Q0 (Α (e2 zM ċ Îa))))
def FQ:FS:=
 (zZ Äo
  (zZ (yP 3 (Ζc (xw 1 ĵk Şa yf Pj)))
  (zZ (yP 4 (xw 1 iC Şa IS Pk))
  (qc (xw 1 (uq Ų) Şa IU Pl)))))
def YN:Á D->Æ ä:=FR 2 5 FQ
def z37(x0 x1:D):YN õ=yH 5 FQ õ:=rfl
def tgt(r:D):D:=match xy r with
 |Ã=>Yp r|Â=>.zE
theorem bO{R:D->D->Prop}{g:FG}{e:FE}{σ:yE}(v:D->D)(h:∀r y,R r y->∃σ1,g y σ=À σ1/\e σ1=À (v r)):∀{rs ys:Á D},ub R rs ys->ye g yf e σ ys=À (rs.map v)
 |_,_,.nil=>rfl|r::rs,y::ys,.cons x xs=>by obtain⟨σ1,e1,e2⟩:=h r y x;show(g y σ).bind _=_;rw[e1];show(ďf).bind _=_;rw[e2];show(ye g yf e σ ys).bind _=_;rw[bO v h xs];rfl
def y9c{Ï a:Á D}(h:∀d∈a,vf d)(j:ĳa<=1000)(s:ub Īf Ï Êd):jP Ńb=À (Ã,.lst ſh):=by
 obtain⟨c,f,e1,l⟩:=cv h j;have e2:=Ly h
 have o:=bO (g:=yA 2) (e:=XE) (σ:=[À (Â,.lst a),À (Â,.dic c f),Ä]) tgt (λr y i=>by
  have b:=cW i.1;rw[i.2.2.2.1]at b;refine⟨_,rfl,?_⟩;unfold XE tgt;cases z:xy r with
  |Ã=>
   rw[z]at b;obtain⟨t,p,q,n,k⟩:=i.2.2.2.2 z
   have m:zM (.dic c f) àh=À ũd:=by show Ā c f öf=_;rw[l,n];rfl
   simp only[Ó,b,q,m,k]
  |Â=>rw[z]at b;simp only[Ó,b]) s
 rw[cI];unfold OV;simp only[Ó,e1,e2,o]
theorem y9o{m:Int}{r:D}(h:kA m r):(xy r=Â/\tgt r=.zE)\/(xy r=Ã/\∃p:Nat,(p:Int)<=m/\tgt r=.int (p:Int)/\Yp r=.int (p:Int)/\zM r Ľg=À ũd):=by
 rcases h with h|h;obtain⟨_,_,_,_,c,_⟩:=Ua h;refine .inl ⟨c,?_⟩;unfold tgt;rw[c];obtain⟨w,p,_,_,_,c,_,d,b,f,e⟩:=LK h;have a:((Āf:Nat):Int)=p:=by omega
 refine .inr ⟨c,Āf,by omega,?_,by rw[a,b],by rw[a,d]⟩;unfold tgt;rw[c,a];exact b
def dv(f:Nat->Í)(d:D):D:=match d with
 |.tup [.int i,.int p]=>.int (yt f Āf-yt f şc)|_=>.zE
def DN{f:Nat->Í}{n p:Nat}(h:p<n):zM (Ε (qu f n)) ũd=À (Β (yt f p)):=by refine QZ Å ?_;rw[ľ];unfold qu;rw[Ŧ,ėi h];rfl
def wW(Ï:Á D)(f:Nat->Í):Á D:=(Öh).map (dv f)
def bK{Ï:Á D}{f:Nat->Í}{i:Nat}(h:i<é):ţq[i]?=À (dv f ŵj):=by unfold wW;rw[Ŧ,JT,Ŧ,Ĕ h];rfl
def bL(Ï:Á D)(f:Nat->Í):(ţq).length=é:=by unfold wW;rw[ç,Ys,ç]
theorem bJ{Ï a:Á D}(h:∀d∈a,vf d)(l:ĳa<=1000)(j:ub Īf Ï Êd)(t:∀r∈Ï,kA (é:Int) r)(s:é<=900){zC:Á Nat} :Vd Ôg=À (Ã,.lst Ĕg):=by
 have e1:=aC h (zC:=zC) (W7 j).symm s;have e2:=y9c h l j
 have v:ye éf yf Mp [À (Â,.lst a),À (Â,.lst Øb),À (Â,.lst Űp),Ä,Ä] Öh=À Ĕg:=by
  refine kO (dv ę) λd u=>?_
  obtain⟨i,e,m⟩:=Ėi u;have c:i<é:=by rw[Ys,ç]at e;exact e
  have b:Öh[i]?=À d:=by rw[Ĕ e,m]
  rw[JT,Ŧ,Ĕ c]at b
  have g:d=.tup Ŝh:=by
   injection b with z
   exact îe
  subst g;have k:=DN (f:=zc zC) (n:=é+1) (p:=i) Å;refine⟨_,rfl,?_⟩;rcases y9o (t _ (àc c))with⟨_,z⟩|⟨_,p,x,z,_⟩;rw[z];unfold Mp;simp only[Ó];rfl;rw[z];have o:=DN (f:=zc zC) (n:=é+1) (p:=p) Å;unfold Mp;simp only[Ó,o,k];rfl
 have w:∀σ:yE,zT jP õb σ=À (Ε ſh)->gO ġg σ=À Öh:=λσ z=>by unfold gO;rw[z];rfl
 have q:=w [À (Â,.lst a),À (Â,.lst Øb),À (Â,.lst Űp)] (by simp only[Ó,e2]);rw[z29];unfold Dl;simp only[Ó,e1,q,v]
noncomputable def GR:D->Í
 |.zE=>Ã|.int x=>decide ŋk&&decide (x<=15)|_=>Â
def z75{f:Nat->Í}{d:D}:Q0 [dv f d]=À (Â,.bl (GR (dv f d))):=by
 have:dv f d=.zE\/∃x,dv f d=.int x:=by
  unfold dv
  split;exact .inr ⟨_,rfl⟩;exact .inl rfl
 rcases this with z|⟨x,z⟩<;>rw[z,z2p]<;>unfold F0;simp only[Ó];rfl;show _=À (Â,Ĕc (decide ŋk&&decide (x<=15)));cases h1:decide ŋk<;>simp only[Ó,h1,Įc]
def ZG(Ï:Á D)(zC:Á Nat)(i:Nat):Í:=!GR (dv ę Īm)
def gF(Ï:Á D)(zC:Á Nat):Á Nat:=(ıd).filter (ZG Ï zC)
def bY(l:Á Nat):yL l=Äa λi:Nat=>ĉ i:=rfl
def z7s{Ï a:Á D}(h:∀d∈a,vf d)(u:ĳa<=1000)(A:ub Īf Ï Êd)(y:∀r∈Ï,kA (é:Int) r)(w:é<=900){zC:Á Nat} :YN Ôg=À (Ã,.lst Şd):=by
 have j:=bJ h u A y w (zC:=zC)
 have e1:ye Şa yf Pj Ęl Øb=À (Ĉc λi:Nat=>Åc Īe):=by
  have:=kO (g:=yA 5) (e:=Pj) (σ:=Ęl) Ìn (ds:=yL zC) λd l=>⟨_,rfl,rfl⟩
  rw[this,bY,Êb];rfl
 obtain⟨K,V,e2,x⟩:∃K V,Yc ëm=À Ōg/\∀n:Nat,yp K ád=zc zC n:=by refine⟨ľf.1,ľf.2,?_,λn=>?_⟩;show(Yo _).bind _=_;rw[Et];rfl;rw[Ef â,Eg];rfl
 have m:iC đl=À (xc é):=by have:=gX (f:=eL tL ķb) (τ:=đl) (n:=((Ĕg).length:Int)) rfl (by rw[bL];omega);rw[bL,ľ]at this;exact this
 have o:ye Şa IS Pk ďl (xc é)=À (yL ıd):=by
  have:=JL (g:=yA 5) (c:=IS) (e:=Pk) (σ:=ďl) (λd=>match d with|.int i=>!zc zC şc|_=>Â) id (ds:=xc é) λd l=>by
   obtain⟨i,q,rfl⟩:=x4d l
   have p:ZN Ňa Ōg=À (.bl (!zc zC i)):=by show(Łm).bind _=_;rw[x];rfl
   refine⟨_,rfl,?_,λ_=>rfl⟩;show IS _=À (!zc zC (Ůr).toNat);rw[ľ];unfold IS;simp only[Ó,p]
  rw[this,Ĝg,Ńo];rfl
 have k:ye Şa IU Pl čl (yL ıd)=À Şd:=by
  have:=JL (g:=yA 5) (c:=IU) (e:=Pl) (σ:=čl) (λd=>match d with|.int i=>ZG Ï zC şc|_=>Â) id (ds:=yL ıd) λd l=>by
   obtain⟨i,q,rfl⟩:=Ça l;have b:i<é:=Ýc (İe q).1;have v:òc i .zE=Ï[i]:=by rw[øa,Ĕ b];rfl
   have t:zM (Ε Ĕg) Ňa=À (dv ę ŵj):=QZ Å (by rw[ľ];exact bK b);have s:=z75 (f:=zc zC) (d:=.tup Ŝh);refine⟨_,rfl,?_,λ_=>rfl⟩;show IU _=À (ZG Ï zC (Ůr).toNat);rw[ľ];unfold IU ZG;rw[v];generalize dv ę ŵj=z at t s;simp only[Ó,t,s]
  rw[this,Ĝg,bY,Ńo];rfl
 rw[z37];unfold FQ;generalize yL zC=FF at j e1 e2 m o k ⊢;generalize wW Ï ę=DD at j e1 e2 m o k ⊢;generalize yL ıd=NN at j e1 e2 m o k ⊢;simp only[Ó,j,e1,e2,m,o,k]
def ga(l:Á Nat):Á Nat:=(õm).map Ŝg
def y7r(l:Á Nat):yL þl=(õm).map ĉ:=by
 unfold yL ga;rw[Êb];refine List.map_congr_left λx a=>?_
 obtain⟨i,_,rfl⟩:=Ça ((Þj _).mem_iff.mp a);rfl
def ME(l:Á Nat):(þl).Perm l:=by
 have h:=(Þj (Äa λi:Nat=>(i:Int))).map Ŝg;rw[Êb]at h
 have e:Äa (Ŝg∘λi:Nat=>(i:Int))=l:=by rw[show(Ŝg∘λi:Nat=>(i:Int))=id from funext λi=>ľ i,Ĝg]
 rw[e]at h;exact h
inductive gB(g:Á Nat->Á Nat):Á Nat->Á Nat->Nat->Prop
 |Ś {zC:Á Nat}:g zC=[]->gB g zC zC 0
 |go {zC R:Á Nat} {k:Nat}:g zC≠[]->(ŝq).length<64->gB g íg R k->gB g zC R Œ
def YR(n:Nat)(l:Á Nat):Prop:=l.Nodup/\∀x∈l,x<n
theorem iN{g:Á Nat->Á Nat}{n:Nat}(i:n<64)(b:∀zC,YR n zC->YR n ŝq):∀(m:Nat)(zC:Á Nat),YR n zC->n-àr<=m->∃R k,gB g zC R k/\k<=m/\YR n R
 |m,zC,gf,hm=>by
  by_cases e:g zC=[];exact⟨zC,0,.stop e,ęa _,gf⟩;have a:=b zC gf;have c:=Fo n a.1 a.2;have l:0<(g zC).length:=èi e;rw[í]at c;have d:YR n íg:=⟨(įh).nodup_iff.mpr a.1,λx j=>a.2 x ((įh).mem_iff.mp j)⟩;have p:(íg).length=àr+(g zC).length:=by rw[(įh).length_eq,í]
  match m,hm with
  |0,hm=>omega|m+1,hm=>obtain⟨R,k,h,o,f⟩:=iN i b m íg d Å;exact⟨R,k+1,.go e Ìo h,by omega,f⟩
def y7u{l:Á Nat}(h:Ďb<64):CO [.lst (yL l)]=À (Ε (yL þl)):=by
 have e:yL l=(Äa λi:Nat=>(i:Int)).map ĉ:=by unfold yL;rw[Êb];rfl
 rw[y7r,e];show(Ŏb _).bind _=_;rw[cT];show(if(Äa λi:Nat=>(i:Int)).length<64 then _ else _)=_;rw[Î (by rw[ç];exact h)]
theorem oh{a b:Á Nat}(h:(Ĭh).length<64):yW (Ε (yL a)) (Ε íl)=À (Ε (yL Ĭh)):=by show(Φb (yL a) íl)=_;rw[í]at h;unfold yL;rw[Î (by rw[ç,ç];show _<=16777216;omega),ńa]
theorem z16(l:Á Nat):(!(yL l).isEmpty)=decide (l≠[]):=by cases l<;>rfl
def z3r{Ï:Á D}{zC:Á Nat}(h:YR é zC):YR é Ím:=by
 have d:∀x∈gF Ï zC,x<é/\zc zC x=Â:=λx c=>by have f:=İe (İe c).1;exact⟨Ýc f.1,by simpa using f.2⟩
 refine⟨List.nodup_append.mpr ⟨h.1,(List.nodup_range.filter _).filter _,λa i b j e=>?_⟩,λx c=>?_⟩;subst e;have g:=(d a j).2;have:zc zC a=Ã:=List.any_eq_true.mpr ⟨.int (a:Int),ĺe ⟨a,i,rfl⟩,Õd _⟩;rw[this]at g;cases g;rcases ça c with c|c;exact h.2 x c;exact(d x c).1
def z49(zC:Á Nat)(n:Nat):UB Çb (Ε Øb)=À (zc zC n):=by
 have b:(Øb).all xD=Ã:=ģe λy a=>by obtain⟨p,_,rfl⟩:=Ça a;rfl
 show(match xD Çb&&(Øb).all xD with|Ã=>_|Â=>_)=_;rw[b];rfl
def rG{Ï:Á D}{zC:Á Nat}{i:Nat}(h:xy Ĳ=Â):ZG Ï zC i=Â:=by unfold ZG tgt;rw[h];rfl
def G7:FS:=(zZ (yP 1 (eL CO (Α (e2 yW ý ċ))))
    Ão)
def Oc:FT:=(tE (e2 xg ċ ċd))
def Dv:FS:=
 (zZ (yP 1 ċd)
  (zZ Ão
  (zZ (L_ Oc
   G7)
  (yF ý))))
def Xh:Á D->Æ ä:=FR 1 3 Dv
def z2j(x0:D):Xh ð=yH 3 Dv ð:=rfl
theorem bZ{Ï a:Á D}(b:∀zC,YN Ôg=À (Ã,.lst Şd)):∀{zC R:Á Nat}{k:Nat},gB Øh zC R k->
  pF Oc G7 Œ [À (Â,.lst a),À (Â,.lst Øb),À (Â,.lst Şd)]=À (.nx [À (Â,.lst a),À (Â,.lst òe),À (Â,.lst (yL []))])
 |zC,_,_,.stop e=>by rw[mT];rw[e];have h:=dh Şd;rw[e]at h ⊢;unfold Oc;simp only[Ó,h];rfl|zC,_,_,.go e h r=>by rw[mU (σ':=[À (Â,.lst a),À (Â,.lst (yL ļk)),À (Â,.lst (yL (gF Ï ļk)))]) ?_ ?_];exact bZ b r;have h:=dh Şd;rw[z16,ï e]at h;unfold Oc;simp only[Ó,h];have c:=oh h;have f:=y7u h;have d:=b ļk;unfold G7;simp only[Ó,c,f,d]
theorem bc{Ï a:Á D}(h:∀d∈a,vf d)(i:ĳa<=1000)(n:ub Īf Ï Êd)(m:∀r∈Ï,kA (é:Int) r)(l:é<64) :∃R k,gB Øh [] R k/\k<=64/\YR é R/\Xh Ńb=À (Â,.lst òe):=by
 obtain⟨R,k,c,o,j⟩:=iN l (λb=>z3r (Ï:=Ï)) é [] ⟨Âp,λ_ h=>by cases h⟩ ţb;have f:∀b,YN [.lst a,.lst íl]=À (Ã,.lst (yL (gF Ï b))):=λb=>z7s h i n m Å
 have e1:=bZ f c;have e2:=iU _ e1 (Ġ (show k+1<=65 by omega) É);have e:=f [];have g:yL []=[]:=rfl;rw[g]at e2 e;refine⟨R,k,c,by omega,j,?_⟩;rw[z2j];unfold Dv;simp only[Ó,e,e2]
def rN:FS:=
 (zZ (xR (tE (e2 zp ý (eC żj)))
   (Ω (ψ (Α (Λ (wB Ch Ck)))))
   xq)
  (yF (e1 (wB ul um) ý)))
def vi:Á D->Æ ä:=FR 2 2 rN
def Fg:FS:=
 (yF (zT ZC (Ξ (zA Şb (zA Ñc ķb)))))
def jR:Á D->Æ ä:=FR 3 3 Fg
def z3k(x0 x1 x2:D):jR ŷ=yH 3 Fg ŷ:=rfl
def Pc{x l d n:Int}(h:Äi/\0<=n/\n<2 ^ čd):jR Űm=À (Â,.int ŝh):=by have a:zM Èr Ł=À (.int l):=rfl;have b:zM Èr Ŗa=À (.int d):=rfl;rw[z3k];unfold Fg;simp only[Ó,a,b,mZ h]
def x6l:FE:=ý
def x6p:FT:=(tE (e2 xg ý (eC ïi)))
def rH:FS:=
 (qc (xw 1 (uq (Λ (wB Cg Cj))) Ĺa x6p x6l))
def ud:Á D->Æ ä:=FR 1 1 rH
def UR:FS:=(zZ (yP 5 (uN (tE (e2 zp ġ (eC Ęa))) (e1 (Qs Yj) Ų) Ų))
    (Μ (zT jR (Ο (zA (zT vi (zA Ĝe ŉc)) Ťg)))))
def ZH:FS:=
 (zZ (Μ (zT jR (ψ (zA Ŷm øb))))
  (zZ (p9 (t_ (uM ud ķr) (ZJ Ă (qW ň) ji)) éf
   UR)
  (yF ċ)))
def uG:Á D->Æ ä:=FR 2 6 ZH
def WD(x0 x1:D):uG õ=yH 6 ZH õ:=rfl
def Wh{c:Int}(a:0<=c)(b:c<32):jR [.int 0,.tup Ğo,.int c]=À (Â,.int ëj):=by rw[Pc (x:=0) (l:=27) (d:=5) (n:=c) ⟨by decide,a,b⟩];simp
def kW{x l d n m:Int}(a:0<=l/\l<64)(b:0<=d/\d<64)(x0:0<=x)(n0:0<=n)(n1:n<2 ^ čd)(hz:x/2 ^ l.toNat%2 ^ čd=0)(c:m=2 ^ l.toNat):jR Űm=À (Â,.int (x+n*m)):=by rw[Pc ⟨⟨x0,a.1,a.2,b.1,b.2⟩,n0,n1⟩,hz,c,Ŕp]
theorem CW{c:Int}(b:0<=c)(a:c<32){w:Str}(g:ud øc=À (Ã,.lst [])):uG [.tup øc,.int c]=À (Â,.int ëj):=by
 have f:wB ul um ïc=À Ğc:=by rfl
 have e:=Wh b a;have d:Ye (.tup øc) Đd Ä=À Ŝr:=by rfl
 rw[WD];unfold ZH;simp only[Ó,f,e,Yl,g,t_,ZJ,qW,ji,d,gY,Èd]
theorem z19{w:Str}{c W d n:Int}(t:ud øc=À (Ã,.lst ļn))(o:vi ķi=À (Â,.tup ŝd))(s:vi ìo=À (Â,.tup Ňo))(r:0<=c)(p:c<32)(b:0<=W)(u:W<=16)(d0:0<=d)(d1:d<8)(n0:0<=n)(n1:n<2 ^ Ĵa)(e:(2:Int) ^ Ĵa ∣ 16777216) :uG [.tup įl,.int c]=À (Â,.int (c*134217728+d*16777216+n)):=by
 have a:wB ul um ïc=À Ğc:=by rfl
 have h:=Wh r p;have q:=kW (x:=c*134217728) (l:=24) (d:=3) (n:=d) (m:=16777216) É É Å d0 d1 Ũh É
 have f:=kW (x:=c*134217728+d*16777216) (l:=0) (d:=W) (n:=n) (m:=1) É ⟨b,by omega⟩ Å n0 n1 (by show(c*134217728+d*16777216)/1%2 ^ Ĵa=0;rw[êc];obtain⟨k,a⟩:=e;rw[show c*134217728+d*16777216=2 ^ Ĵa*(k*(8*c+d)) by rw[<-ċp,<-a];omega];exact Ůn _ _) É
 have g:zp Žj Ęa=À û:=by rfl
 have j:zp żj Ęa=À û:=by rfl
 have i:Ye ųj Đd Ä=À (.tup [.int d,.int n]):=by rfl
 rw[WD];unfold ZH;simp only[Ó,a,h,Yl,t,t_,ZJ,qW,ji,i,gY,Ùc,Èd,UR,g,j,o,q,s,f,ūe]
theorem z1a{w:Str}{c d s:Int}(t:ud øc=À (Ã,.lst Ļn))(k:vi ķi=À (Â,.tup ŝd))(i:vi ëo=À (Â,.tup ßg))(q:0<=c)(o:c<32)(d0:0<=d)(d1:d<8)(a:0<=s)(h:s<8) :uG [.tup żl,.int c]=À (Â,.int ðm):=by
 have r:wB ul um ïc=À Ğc:=by rfl
 have f:=Wh q o;have p:=kW (x:=c*134217728) (l:=24) (d:=3) (n:=d) (m:=16777216) É É Å d0 d1 Ũh É;have b:=kW (x:=c*134217728+d*16777216) (l:=21) (d:=3) (n:=s) (m:=2097152) É É Å a h ńl É;have e:zp Žj Ęa=À û:=by rfl
 have j:zp Ïr Ęa=À û:=by rfl
 have g:Ye Ér Đd Ä=À (.tup [.int d,.int s]):=by rfl
 rw[WD];unfold ZH;simp only[Ó,r,f,Yl,t,t_,ZJ,qW,ji,g,gY,Ùc,Èd,UR,e,j,k,p,i,b]
theorem z1b{w:Str}{c d s n:Int}(y:ud øc=À (Ã,.lst ĵm))(o:vi ķi=À (Â,.tup ŝd))(j:vi ëo=À (Â,.tup ßg))(u:vi ìo=À (Â,.tup ňo))(t:0<=c)(p:c<32)(d0:0<=d)(d1:d<8)(a:0<=s)(h:s<8)(n0:0<=n)(n1:n<256) :uG [.tup ķl,.int c]=À (Â,.int (c*134217728+d*16777216+s*2097152+n)):=by
 have v:wB ul um ïc=À Ğc:=by rfl
 have f:=Wh t p;have r:=kW (x:=c*134217728) (l:=24) (d:=3) (n:=d) (m:=16777216) É É Å d0 d1 Ũh É;have b:=kW (x:=c*134217728+d*16777216) (l:=21) (d:=3) (n:=s) (m:=2097152) É É Å a h ńl É;have q:=kW (x:=c*134217728+d*16777216+s*2097152) (l:=0) (d:=8) (n:=n) (m:=1) É É Å n0 n1 (by show ðm/1%256=0;omega) É;have e:zp Žj Ęa=À û:=by rfl
 have k:zp Ïr Ęa=À û:=by rfl
 have i:zp żj Ęa=À û:=by rfl
 have g:Ye Êr Đd Ä=À (.tup [.int d,.int s,.int n]):=by rfl
 rw[WD];unfold ZH;simp only[Ó,v,f,Yl,y,t_,ZJ,qW,ji,g,gY,Ùc,Èd,UR,e,k,i,o,r,j,b,u,q,ūe]
theorem bp{c m:Int}{w k:Str}(p:ud øc=À (Ã,.lst ŷe))(a:vi Ķi=À (Â,.tup Ľe))(o:Qs Yj Ģa=À řc)(i:0<=m)(q:m<3)(h:0<=c)(f:c<32):uG [.tup ěe,.int c]=À (Â,.int ŷm):=by
 have j:wB ul um ïc=À Ğc:=by rfl
 have e:=Wh h f;have g:=kW (x:=c*134217728) (l:=24) (d:=2) (n:=m) (m:=16777216) É É Å i ŗn žl É;have e1:zp Ęa Ęa=À Ō:=by rfl
 have b:Ye Ŵj Đd Ä=À (.tup łb):=by rfl
 rw[WD];unfold ZH;simp only[Ó,j,e,Yl,p,t_,ZJ,qW,ji,b,gY,Ùc,Èd,UR,e1,o,a,g]
def FU:FS:=
 (yF (zT wZ (Ξ (zA Şb (Α Ñc)))))
def k8:Á D->Æ ä:=FR 2 2 FU
def z38(x0 x1:D):k8 õ=yH 2 FU õ:=rfl
def Dk:FS:=
 (yF (zT k8 (Χ Ŷm)))
def k6:Á D->Æ ä:=FR 1 1 Dk
def z28(x0:D):k6 ð=yH 1 Dk ð:=rfl
def x6m:FE:=ċ
def x6q:FT:=(νb Ťq)
def x6n:FE:=ċ
def x6r:FT:=(νb ťq)
def x6o:FE:=ċ
def x6s:FT:=(νb Ŧq)
def rL:FS:=
 (zZ (pA 1 (xw 1 (iG gK) Ũc x6q x6m))
  (zZ (qD 1 (xw 1 (iG ZP) Ũc x6r x6n))
  (zZ (qD 1 (xw 1 (iG ZO) Ũc x6s x6o))
  (zZ (Jp 1) (yF (uN (tE (e2 zp ý ċd)) Ča Şb))))))
def Vg:Á D->Æ ä:=FR 1 2 rL
def rK:FS:=
 (θd (.lst kK))
def ZB:Á D->Æ ä:=FR 1 1 rK
def rJ:FS:=
 (θd (.lst kJ))
def YK:Á D->Æ ä:=FR 1 1 rJ
def OS:FS:=
 (zZ (yP 3 (zT k8 (Ξ (Α (zT vi (δ ķj))))))
  (zZ (xR (tE (e2 xg ċ (eC Ęa)))
   (yF ġ)
   xq)
  (yF (uN (tE (e2 ļc ġ (eL tL (Α čh)))) (e2 zM čh ġ) Ča))))
def qJ:Á D->Æ ä:=FR 3 4 OS
def cF(x0 x1 x2:D):qJ ŷ=yH 4 OS ŷ:=rfl
def XD:FE:=(zT qJ (Ξ (Ο Ťg)))
def FY:FS:=
 (zZ (yP 1 (zT k6 õb))
  (zZ (Μ (zT Vg øb))
  (zZ (xR ğn
   Ùe
   xq)
  (zZ (yP 3 (Ηc (e2 yW (vF ķj) (xw 1 (uq (uM ud ķj)) Şa yf XD))))
  (zZ (xR (tE (e2 t6 Ča ġ))
   Ùe
   xq)
  (zZ (yP 4 (uN (tE (zT ZB øb)) (zT jR (Ξ (zA żh ĸj))) Ă))
  (yF (uN (tE (e2 zp (zT uG (zA ġ øb)) Ų)) ġ Ča))))))))
def pT:Á D->Æ ä:=FR 1 5 FY
def z3c(x0:D):pT ð=yH 5 FY ð:=rfl
def Fa:FS:=
 (zZ şq
  (yF (uN (tE (e2 ļc Ūi ċ)) Ă (e2 gJ Ă ċ))))
def YO:Á D->Æ ä:=FR 2 3 Fa
def z3e(x0 x1:D):YO õ=yH 3 Fa õ:=rfl
def Du:FS:=
 (zZ (xR (tE (e2 ţe Êg Ŀc))
   Ùe
   xq)
  (Ω (Ο (zA (e2 yW ý źc) (Ψd (zA (e2 zM Ă Êg) ěq))))))
def Tx:Á D->Æ ä:=FR 3 3 Du
def z2i(x0 x1 x2:D):Tx ŷ=yH 3 Du ŷ:=rfl
def V_:FS:=
 (zZ (xR (kq (tE (e2 ļc ý ī)) (tE (e2 ţe ý Ŀc)))
   Ùe
   xq)
  (zZ (Μ (zT pT òk))
  (zZ (xR ğn
   Ùe
   xq)
  (zZ (yP 3 (zT k6 òk))
  (zZ (xR (tE (zT YK ŉc))
   (yF (zT Tx (Ξ (zA ý ķb))))
   xq)
  (zZ (xR (tE (zT ZB ŉc))
   (zZ (yP 4 żh)
    (ξd (Ψd (zA (zT k8 (zA ųf Ĝq)) (θ (e2 zM Ų ň))))))
   xq)
  (ξd (Α Ča))))))))
def jQ:Á D->Æ ä:=FR 2 5 V_
def Oz(x0 x1:D):jQ õ=yH 5 V_ õ:=rfl
def Lf{x l W:Int}(c:0<=l)(a:0<=W)(e:W<64):k8 [.int x,.tup Ċi]=À (Â,.int ëi):=by
 have b:zM Çr Ł=À (.int l):=rfl;have d:zM Çr Ŗa=À (.int W):=rfl;have e1:=Ub (i:=1) (j:=W) a e É É
 have p:wZ [.int x,.int l,.int W]=À (Â,.int ëi):=by rw[cH];unfold OU;simp only[Ó,e1,ï c,eP]
 rw[z38];unfold FU;simp only[Ó,b,d,p]
theorem U4{x:Int}(b:0<=x)(c:x<4294967296):k6 Ùb=À (Â,.int (x/134217728)):=by
 have a:wB ul um ïc=À Ğc:=by rfl
 have n:k8 [.int x,.tup Ğo]=À (Â,.int (x/134217728%32)):=Lf É É É;rw[show x/134217728%32=x/134217728 by omega]at n;rw[z28];unfold Dk;simp only[Ó,a,n]
noncomputable def kN:Á D:=[.str ôc,.str şa,.str àb,.str ōb,.str Ša,.str ēb,.str Ęb,.str Ēb,.str ěb,.str íb,.str ęb,.str ķa,.str śa,.str Ûb,.str ßb,.str Řa,.str řa,.str őa,.str Ëa,.str Ía,.str ßa,.str Ëa,.str Ía,.str ßa]
theorem z55:(Ŕc).map (λc:Nat=>Vg Àj)=(Ŕc).map λc=>À (Â,Ác c .zE):=by kernel_rfl
def z76:(Ŕc).map (λc:Nat=>ZB Àj)=(Ŕc).map λc=>À (Â,.bl (decide (18<=c)&&decide (c<=20))):=by kernel_rfl
def z15:(Ŕc).map (λc:Nat=>YK Àj)=(Ŕc).map λc=>À (Â,.bl (decide (21<=c)&&decide (c<=23))):=by kernel_rfl
def GX{f g:Nat->Æ ä}(h:(Ŕc).map f=(Ŕc).map g){n:Nat}(a:n<32):f n=g n:=by have e:=Êa (λl=>l[n]?) h;simp only[Ŧ,ėi a,ŀo]at e;exact ła e
def Ev{n:Nat}(h:n<32):Vg ſi=À (Â,Ác n .zE):=GX z55 h
def JS{n:Nat}(h:n<32):ZB ſi=À (Â,.bl (decide (18<=n)&&decide (n<=20))):=GX z76 h
def CU{n:Nat}(h:n<32):YK ſi=À (Â,.bl (decide (21<=n)&&decide (n<=23))):=GX z15 h
def WI{x l W:Int}{k f:Str}(b:vi [.str k,.str f]=À (Â,.tup Ċi))(e:xg (.str f) Ęa=À Ō)(c:0<=l)(a:0<=W)(d:W<64):qJ [.int x,.str k,.str f]=À (Â,.int ëi):=by have n:=Lf (x:=x) c a d;rw[cF];unfold OS;simp only[Ó,b,n,e]
noncomputable def dI:Á D:=[.str ăa,.str ŋa,.str ųa,.zE]
theorem z3u{x:Int}{k:Str}(a:vi [.str k,.str Đb]=À (Â,.tup Ľe)):qJ [.int x,.str k,.str Đb]=À (Â,dI.getD (Õp).toNat .zE):=by
 have n:k8 [.int x,.tup Ľe]=À (Â,.int Õp):=Lf É É É;have b:xg Ęa Ęa=À û:=by rfl
 rw[cF];unfold OS;rcases(show x/16777216%4=0\/x/16777216%4=1\/x/16777216%4=2\/x/16777216%4=3 by omega)with e|e|e|e<;>rw[e]at n ⊢;have i:zM gL Ł=À ňc:=rfl;simp only[Ó,a,n,b,i];rfl;have i:zM gL Ŗa=À Že:=rfl;simp only[Ó,a,n,b,i];rfl;have i:zM gL Ŷb=À że:=rfl;simp only[Ó,a,n,b,i];rfl;simp only[Ó,a,n,b];rfl
def HV{x c Z a:Int}{b:Í}{k:Str}{fs R:Á D}(m:k6 Ùb=À (Â,.int c))(hk:Vg żb=À (Â,.str k))(o:ud łb=À (Ã,.lst fs))(h:ye Şa yf XD [À (Â,.int x),À (Â,.int c),À (Â,.str k),Ä,Ä,Ä] fs=À R)(n:t6 .zE Åe=À û)(q:őc<=3)(d:ZB żb=À (Â,.bl b))(j:b=Ã->jR űm=À (Â,.int a))(p:b=Â->a=x)(hz:uG [.tup Ĥc,.int c]=À (Â,.int Z)) :pT Ùb=À (Â,if Z=a then .tup Ĥc else .zE):=by
 have i:yW (.lst łb) (.lst R)=À (.lst Ĥc):=by rw[oi (by simp only[ĕ,ńe];omega)];rfl
 have g:W9 [.lst Ĥc]=À Åe:=rfl;have l:wB ul um Źj=À Że:=by rfl
 have f:zp (.int Z) õf=À (Ψa (Z=a)):=by by_cases e:Z=a;rw[WK e,ï e];rw[LG e,ć e]
 rw[z3c];unfold FY;cases b with
 |Ã=>have j:=j rfl;by_cases e:Z=a;rw[Î e];rw[ï e]at f;simp only[Ó,m,hk,o,h,i,g,n,d,l,j,hz,f];rw[Ð e];rw[ć e]at f;simp only[Ó,m,hk,o,h,i,g,n,d,l,j,hz,f]|Â=>cases p rfl;by_cases e:Z=x;rw[Î e];rw[ï e]at f;simp only[Ó,m,hk,o,h,i,g,n,d,l,hz,f];rw[Ð e];rw[ć e]at f;simp only[Ó,m,hk,o,h,i,g,n,d,l,hz,f]
theorem lB{n W:Int}(d:0<=W)(e:W<64):YO [.int n,.int W]=À (Â,.int (if 2*n<2 ^ Ĵa then n else n-2 ^ Ĵa)):=by
 have e1:=Ub (i:=1) (j:=W) d e É É;have b:qT 2=Ã:=by decide
 rw[z3e];unfold Fa;by_cases c:2*n<2 ^ Ĵa;rw[Î c];have a:decide Ůo=Ã:=ï Å;simp only[Ó,e1,b,a];rw[Ð c];have a:decide Ůo=Â:=ć Å;simp only[Ó,e1,b,a,ć c,ëd]
theorem x25{ws:Á D}{a:Int}(h:a<0\/(Ĉb:Int)<=a):jQ Þg=À (Â,.zE):=by
 rw[Oz];unfold V_;by_cases c:a<0;simp only[Ó,ï c];have d:(Ĉb:Int)<=a:=by omega
 simp only[Ó,ć c,ï d]
structure At(ws:Á D)(a x:Int):Prop where
 a0:0<=a
 a1:a<(Ĉb:Int)
 ix:zM ûd õf=À Îb
 x0:0<=x
 x1:x<4294967296
section
variable{ws:Á D}{a x:Int}(A:At ws a x)
include A
theorem At.cond{α:Type}:decide (a<0)=Â/\decide ((Ĉb:Int)<=a)=Â/\decide (0<=a)=Ã/\decide (a<(Ĉb:Int))=Ã:=by obtain⟨b,c,_,_,_⟩:=A;exact⟨ć Å,ć Å,ï b,ï c⟩
theorem x26{c:Int}{R:Á D}(e:k6 Ùb=À (Â,.int c))(i:YK żb=À (Â,.bl Â))(h:ZB żb=À (Â,.bl Â))(b:pT Ùb=À (Â,.tup R)) :jQ Þg=À (Â,.tup [.tup R,.int (a+1),.zE]):=by obtain⟨f,d,_,_⟩:=ël (α:=Nat);have g:=A.ix;rw[Oz];unfold V_;simp only[Ó,f,d,g,b,e,i,h,âa]
theorem x24{c:Int}{R:Á D}(g:k6 Ùb=À (Â,.int c))(f:YK żb=À (Â,.bl Â))(j:ZB żb=À (Â,.bl Ã))(b:pT Ùb=À (Â,.tup R)) :jQ Þg=À (Â,.tup [.tup R,.int (a+1),.int (a+ňf)]):=by
 obtain⟨h,d,_,_⟩:=ël (α:=Nat);have i:=A.ix;have k:wB ul um Źj=À Że:=by rfl
 have n:k8 [.int x,.tup şh]=À (Â,.int (x/1%32)):=Lf É É É;rw[êc]at n;have s:YO [.int (x%32),.int 5]=À (Â,.int ňf):=lB É É;have e:zM Że Ŗa=À ńc:=rfl;rw[Oz];unfold V_;generalize ňf=S at s ⊢;simp only[Ó,h,d,i,b,g,f,j,k,n,e,s,âa]
theorem x23{c:Int}{R:Á D}(h:k6 Ùb=À (Â,.int c))(k:YK żb=À (Â,.bl Ã))(b:pT Ùb=À (Â,.tup R)){y:Int}(g:zM ûd (Β (a+1))=À (.int y))(l:a+1<(Ĉb:Int)) :jQ Þg=À (Â,.tup ùm):=by
 obtain⟨i,f,_,_⟩:=ël (α:=Nat);have j:=A.ix;have s:YO [.int y,.int 32]=À (Â,.int Ŕh):=lB É É;have d:decide ((Ĉb:Int)<=a+1)=Â:=ć Å
 have e:Tx [.lst ws,.int a,.tup R]=À (Â,.tup ùm):=by rw[z2i];unfold Du;generalize Ŕh=S at s ⊢;simp only[Ó,âa,d,g,s]
 rw[Oz];unfold V_;simp only[Ó,i,f,j,b,h,k,e]
#print a
def Fe:FS:=
 (zZ şq
  (zZ (xR (kq (tE (e2 ļc Ūi (e1 Qp ċ))) (tE (e2 ţe Ūi ċ)))
   ĸb
   xq)
  (yF (uN (tE (e2 ţe Ă ī)) Ă (e2 yW Ă ċ)))))
def Vm:Á D->Æ ä:=FR 2 3 Fe
def z3i(x0 x1:D):Vm õ=yH 3 Fe õ:=rfl
def Fk:FS:=
 (yF (οb Ťq))
def Vo:Á D->Æ ä:=FR 1 1 Fk
def z3o(x0:D):Vo ð=yH 1 Fk ð:=rfl
def FP:FS:=
 (zZ (yP 2 żh)
  (yF (zT jR (zA (οb ťq) (Ο (υd (zA ũi zG)))))))
def Vj:Á D->Æ ä:=FR 2 3 FP
def z36(x0 x1:D):Vj õ=yH 3 FP õ:=rfl
def Dw:FS:=
 (qc (vF (zA (οb Ŧq) (υd ěq))))
def Xi:Á D->Æ ä:=FR 2 2 Dw
def z2k(x0 x1:D):Xi õ=yH 2 Dw õ:=rfl
def JK:FS:=(xR (tE (e2 ZM Šo Ča))
     (Zi 3 kE (zT Vo Ťg))
     (xR (tE (e2 t6 Ų ý))
       (qD 3 (uM Xi Âi))
       (Zi 3 kE (zT Vj Âi))))
def Fn:FS:=
 (zZ (yP 1 (zT Xh õb))
  (zZ Äo
  (zZ Ŭq
  (zZ (p9 (gO Űd) (uO 4 5)
   JK)
  (jD 3)))))
def Vp:Á D->Æ ä:=FR 1 6 Fn
def z3q(x0:D):Vp ð=yH 6 Fn ð:=rfl
def m7{d W:Int}(k:0<=W)(o:W<64)(n : -(2 ^ Ĵa)<=2*d)(l:2*d<2 ^ Ĵa):Vm [.int d,.int W]=À (Â,.int (d%2 ^ Ĵa)):=by
 have e1:=Ub (i:=1) (j:=W) k o É É;obtain⟨q,p⟩:=fE (d:=Ĵa) Å;have h:qT 2=Ã:=by decide
 rw[z3i];unfold Fe;obtain⟨P,e⟩:∃P:Int,P=2 ^ Ĵa:=⟨_,rfl⟩;rw[<-e]at n l q p ⊢;have g:decide (2*d < -(1*P))=Â:=ć Å;have f:decide (1*P<=2*d)=Â:=ć Å;cases c:decide (0<=d)with
 |Ã=>have c:=Ŋ c;have m:d%P=d:=Ñg c Å;simp only[Ó,e1,h,<-e,g,f,ï c,m]|Â=>
  have r:=ťn c
  have m:d%P=d+P:=by rw[<-Int.add_emod_right (a:=d) (b:=P)];exact Ñg Å Å
  simp only[Ó,e1,h,<-e,g,f,c,âa,m];rw[ëd]
theorem z5r{g:FG}{c:FT}{e:FE}{σ σ1:yE}{d x:D}{r xs:Á D}(h:g d σ=À σ1)(f:c σ1=À Ã)(a:e σ1=À x)(b:ye g c e σ r=À xs):ye g c e σ (d::r)=À Ÿk:=by rw[ye,h,Äb,f,Äb];show(ďf).bind _=_;rw[a,b];rfl
def ZX{x:Int}{N r:D}{k:Str}{f:D}{fs R:Á D}(h:qJ [.int x,.str k,f]=À (Â,r))(a:ye Şa yf XD İl fs=À R):ye Şa yf XD İl (f::fs)=À (r::R):=
 z5r (σ1:=[À (Â,.int x),À (Â,N),À (Â,.str k),Ä,Ä,À (Â,f)]) rfl rfl (by simp only[Ó,XD,h]) a
def Qi{q d B r b:Int}(h:0<B)(d0:0<=d)(d1:d<b)(a:0<=r)(c:r<B):(q*(b*B)+d*B+r)/B%b=d:=by rw[<-ċp,<-Int.add_mul,Ŗp,Int.add_mul_ediv_right _ _ (şe h),Int.ediv_eq_zero_of_lt a c,œp,Ŗp,Int.add_mul_emod_self_right,Ñg d0 d1]
structure Vw(r:D)(v:Int):Prop where
 v0:0<=v
 v1:v<4294967296
 c:∃n:Nat,n<=17/\v/134217728=(n:Int)
 w:Vo [r]=À (Â,.int v)
 r:pT [.int v]=À (Â,r)
def Mm{k:Str}{n:Nat}{v:Int}{R fs:Á D}(e:0<=v)(v1:v<4294967296)(d:n<=17)(hv:v/134217728=(n:Int))(hk:Ác n .zE=.str k)(i:wB gK gM Ģa=À Çb)(l:ud łb=À (Ã,.lst fs))(f:ye Şa yf XD [À (Â,.int v),À (Â,.int (n:Int)),À (Â,.str k),Ä,Ä,Ä] fs=À R)(j:t6 .zE Åe=À û)(g:őc<=3)(hz:uG êi=À (Â,.int v)):Vw Åe v:=by refine⟨e,v1,⟨n,d,hv⟩,?_,?_⟩;rw[z3o];unfold Fk;simp only[Ó,Yl,i,hz];have c:=U4 e v1;rw[hv]at c;have b:=Ev (n:=n) Å;rw[hk]at b;have a:=JS (n:=n) Å;rw[ć (show ¬ 18<=n by omega),Įc]at a;have:=HV c b l f j g a ļi Ņc hz;rw[this,Î rfl]
theorem Ml{n:Nat}{k:Str}{W P d m:Int}(e:n<=17)(hk:Ác n .zE=.str k)(t:wB gK gM Ģa=À Çb)(q:ud łb=À (Ã,.lst ļn))(l:vi ĸi=À (Â,.tup ŝd))(i:vi îo=À (Â,.tup Ňo))(g:0<=W)(r:W<=16)(p:(2:Int) ^ Ĵa=P)(a:(2:Int) ^ Ĵa ∣ 16777216)(d0:0<=d)(d1:d<8)(o:0<=m)(s:m<P)(u:P<=65536)(v:Żc%P=m):Vw (.tup [.str k,.int d,.int m]) Żc:=by
 have f:=z19 (c:=(n:Int)) (d:=d) (n:=m) q l i Å Å g r d0 d1 o (by rw[p];exact s) a;have h:qJ [.int Żc,.str k,.str "d"]=À (Â,.int (Żc/16777216%8)):=WI l žb É É É;have j:qJ [.int Żc,.str k,.str "n"]=À (Â,.int (Żc/1%P)):=by rw[<-p];exact WI i žb É g Å
 rw[êc,v]at j;rw[show Żc/16777216%8=d from Qi (B:=16777216) (b:=8) É d0 d1 o Å]at h;exact Mm Å Å e Å hk t q (ZX h źq) rfl â f
def Zr{n:Nat}{k:Str}{d s:Int}(p:n<=13)(hk:Ác n .zE=.str k)(o:wB gK gM Ģa=À Çb)(m:ud łb=À (Ã,.lst Ļn))(l:vi ĸi=À (Â,.tup ŝd))(h:vi ío=À (Â,.tup ßg))(d0:0<=d)(d1:d<8)(f:0<=s)(i:s<8):Vw (.tup [.str k,.int d,.int s]) įd:=by have e:=z1a (c:=(n:Int)) (d:=d) (s:=s) m l h Å Å d0 d1 f i;have g:qJ [.int įd,.str k,.str "d"]=À (Â,.int (įd/16777216%8)):=WI l žb É É É;have j:qJ [.int įd,.str k,.str "s"]=À (Â,.int (įd/2097152%8)):=WI h žb É É É;rw[show įd/16777216%8=d from Qi (B:=16777216) (b:=8) É d0 d1 Å Å]at g;have a:=Qi (q:=(n:Int)*8+d) (B:=2097152) (b:=8) (r:=0) É f i É É;rw[show Łp*Įq+s*2097152+0=(n:Int)*134217728+d*16777216+s*2097152 by omega]at a;rw[a]at j;exact Mm Å Å Å Å hk o m (ZX g źq) rfl â e
def Mj{n:Nat}{k:Str}{d s m:Int}(f:n<=17)(hk:Ác n .zE=.str k)(x:wB gK gM Ģa=À Çb)(v:ud łb=À (Ã,.lst ĵm))(p:vi ĸi=À (Â,.tup ŝd))(j:vi ío=À (Â,.tup ßg))(e:vi îo=À (Â,.tup ňo))(d0:0<=d)(d1:d<8)(h:0<=s)(l:s<8)(t:0<=m)(w:m<256):Vw (.tup [.str k,.int d,.int s,.int m]) Ėc:=by have g:=z1b (c:=(n:Int)) (d:=d) (s:=s) (n:=m) v p j e Å Å d0 d1 h l t w;have i:qJ [.int Ėc,.str k,.str "d"]=À (Â,.int (Ėc/16777216%8)):=WI p žb É É É;have o:qJ [.int Ėc,.str k,.str "s"]=À (Â,.int (Ėc/2097152%8)):=WI j žb É É É;have u:qJ [.int Ėc,.str k,.str "n"]=À (Â,.int (Ėc/1%256)):=WI e žb É É É;rw[Čp,show((n:Int)*134217728+d*16777216+(s*2097152+m))/16777216%8=d from Qi (B:=16777216) (b:=8) É d0 d1 Å Å,<-Čp]at i;have a:=Qi (q:=(n:Int)*8+d) (B:=2097152) (b:=8) (r:=m) É h l t Å;rw[show Łp*Įq+s*2097152+m=(n:Int)*134217728+d*16777216+s*2097152+m by omega]at a;rw[a]at o;rw[show Ėc/1%256=m by omega]at u;exact Mm Å Å f Å hk x v (ZX i (ZX o (ZX u rfl))) rfl â g
def y3p{r:D}(h:qr r):∃v:Int,Vw r v:=by
 cases h with
 |Ś=>exact⟨0,Mm (n:=0) (fs:=[]) É É É É rfl rfl rfl rfl rfl â (CW (c:=0) É É rfl)⟩|Y7 hw d0 d1 n0 n1=>rcases hw with rfl|rfl;exact⟨_,Ml (n:=1) (W:=16) (P:=65536) É rfl rfl rfl rfl rfl É É É É d0 d1 n0 n1 É Å⟩;exact⟨_,Ml (n:=2) (W:=16) (P:=65536) É rfl rfl rfl rfl rfl É É É É d0 d1 n0 n1 É Å⟩
 |two hw d0 d1 s0 s1=>rcases hw with rfl|rfl|rfl|rfl|rfl|rfl|rfl|rfl|rfl;exact⟨_,Zr (n:=3) É rfl rfl rfl rfl rfl d0 d1 s0 s1⟩;exact⟨_,Zr (n:=4) É rfl rfl rfl rfl rfl d0 d1 s0 s1⟩;exact⟨_,Zr (n:=5) É rfl rfl rfl rfl rfl d0 d1 s0 s1⟩;exact⟨_,Zr (n:=6) É rfl rfl rfl rfl rfl d0 d1 s0 s1⟩;exact⟨_,Zr (n:=7) É rfl rfl rfl rfl rfl d0 d1 s0 s1⟩;exact⟨_,Zr (n:=8) É rfl rfl rfl rfl rfl d0 d1 s0 s1⟩;exact⟨_,Zr (n:=9) É rfl rfl rfl rfl rfl d0 d1 s0 s1⟩;exact⟨_,Zr (n:=10) É rfl rfl rfl rfl rfl d0 d1 s0 s1⟩;exact⟨_,Zr (n:=11) É rfl rfl rfl rfl rfl d0 d1 s0 s1⟩
 |Xb hw d0 d1 n0 n1=>rcases hw with rfl|rfl;exact⟨_,Ml (n:=12) (W:=5) (P:=32) É rfl rfl rfl rfl rfl É É É É d0 d1 n0 n1 É Å⟩;exact⟨_,Ml (n:=13) (W:=5) (P:=32) É rfl rfl rfl rfl rfl É É É É d0 d1 n0 n1 É Å⟩
 |mem hw d0 d1 s0 s1 n0 n1=>rcases hw with rfl|rfl|rfl|rfl;exact⟨_,Mj (n:=14) É rfl rfl rfl rfl rfl rfl d0 d1 s0 s1 n0 n1⟩;exact⟨_,Mj (n:=15) É rfl rfl rfl rfl rfl rfl d0 d1 s0 s1 n0 n1⟩;exact⟨_,Mj (n:=16) É rfl rfl rfl rfl rfl rfl d0 d1 s0 s1 n0 n1⟩;exact⟨_,Mj (n:=17) É rfl rfl rfl rfl rfl rfl d0 d1 s0 s1 n0 n1⟩
noncomputable def Qc:D->D
 |.tup xs=>.tup xs.dropLast|d=>d
noncomputable def cJ:D->Int
 |.tup ľj=>if w = Ía then 1 else if w = ßa then 2 else 0|_=>0
noncomputable def mJ:D->Int
 |.tup [_,.str k,_]=>if k = ŋa then 1 else if k = ųa then 2 else 0|_=>0
structure OK(r y:D)(c m:Int):Prop where
 c0:0<=c
 c1:c<3
 m0:0<=m
 m1:m<3
 nw:∀d:Int,-16<=d->d<=15->Vj ĺg=À (Â,.int ŵh)
 fw:∀d:Int,-1000<=d->d<=1000->Xi ĺg=À (Ã,.lst Âm)
 nr:∀d:Int,pT [.int ŵh]=À (Â,Qc r)
 fr:pT [.int ġr]=À (Â,Qc r)
 hd:∃R,Qc r=.tup R/\R≠[]/\őc<=2/\R.all xD=Ã
def bo{c:Int}{t:Str}(b:0<=c)(a:c<32):uG [.tup [.str Ëa,.str t],.int c]=À (Â,.int ëj):=by
 have f:wB ul um ïc=À Ğc:=by rfl
 have g:ud Ťj=À (Ã,.lst []):=by rfl
 have e:=Wh b a;have d:Ye ŭf Đd Ä=À (.tup [.str t]):=by rfl
 rw[WD];unfold ZH;simp only[Ó,f,e,Yl,g,t_,ZJ,qW,ji,d,gY,Èd]
theorem bn{c m:Int}{w k t:Str}(a:w = Ía \/ w = ßa)(p:Qs Yj Ģa=À řc)(j:0<=m)(r:m<3)(i:0<=c)(g:c<32):uG [.tup Ún,.int c]=À (Â,.int ŷm):=by
 have o:wB ul um ïc=À Ğc:=by rfl
 have q:ud øc=À (Ã,.lst ŷe):=by rcases a with rfl|rfl<;>rfl
 have b:vi Ķi=À (Â,.tup Ľe):=by rcases a with rfl|rfl<;>rfl
 have f:=Wh i g;have h:=kW (x:=c*134217728) (l:=24) (d:=2) (n:=m) (m:=16777216) É É Å j ŗn žl É;have e1:zp Ęa Ęa=À Ō:=by rfl
 have e:Ye Ĳd Đd Ä=À (.tup [.str k,.str t]):=by rfl
 rw[WD];unfold ZH;simp only[Ó,o,f,Yl,q,t_,ZJ,qW,ji,e,gY,Ùc,Èd,UR,e1,p,b,h]
theorem di{y:D}{w:Str}{c m d:Int}(b:zM y Ł=À Õa)(n0:wB ZP kK Õa=À (Β ēd))(j:0<=c)(i:c<3)(k:0<=m)(h:m<3)(f:uG [y,.int ēd]=À (Â,.int Ģr))(d0 : -16<=d)(d1:d<=15) :Vj ĺg=À (Â,.int ŵh):=by
 have g:wB ul um Źj=À Że:=by rfl
 have e:zM Że Ŗa=À ńc:=rfl;have u:=m7 (d:=d) (W:=5) É É (by show(-32:Int)<=_;omega) (by show _<(32:Int);omega);have a:d%2 ^ (5:Int).toNat=d%32:=rfl;rw[a]at u;have q:=kW (x:=ēd*134217728+m*16777216) (l:=0) (d:=5) (n:=d%32) (m:=1) É É Å Å (by show d%32<32;omega) (by show Ģr/1%32=0;omega) É;rw[z36];unfold FP;generalize ēd*134217728+m*16777216=Z at g e b n0 f u q ⊢;simp only[Ó,g,e,b,n0,f,u,q,ūe]
theorem ba{y:D}{w:Str}{c m d:Int}(b:zM y Ł=À Õa)(n0:wB ZO kJ Õa=À (Β Ēf))(f:uG [y,.int Ēf]=À (Â,.int ġr))(d0 : -1000<=d)(d1:d<=1000) :Xi ĺg=À (Ã,.lst Âm):=by have u:=m7 (d:=d) (W:=32) É É (by show(-4294967296:Int)<=_;omega) (by show _<(4294967296:Int);omega);have a:d%2 ^ (32:Int).toNat=d%4294967296:=rfl;rw[a]at u;rw[z2k];unfold Dw;simp only[Ó,b,n0,f,u]
theorem eA{x Z:Int}{n:Nat}{k:Str}{fs R:Á D}(x0:0<=x)(x1:x<4294967296)(j:x/134217728=(n:Int))(n0:18<=n)(n1:n<=20)(hk:Ác n .zE=.str k)(l:ud łb=À (Ã,.lst fs))(e:ye Şa yf XD Ħl fs=À R)(i:t6 .zE Åe=À û)(f:őc<=3)(hz:uG êi=À (Â,.int Z))(g:Z=x+(0-x%32)*1):pT Ùb=À (Â,.tup Ĥc):=by have c:=U4 x0 x1;rw[j]at c;have b:=Ev (n:=n) Å;rw[hk]at b;have a:=JS (n:=n) Å;rw[ï n0,ï n1,Āg]at a;have d:jR űm=À (Â,.int (x+(0-x/1%32)*1)):=Pc ⟨⟨x0,by decide,by decide,by decide,by decide⟩,by decide,by decide⟩;rw[êc]at d;have:=HV c b l e i f a (λ_=>d) ļi hz;rw[this,Î g]
theorem bi{x:Int}{n:Nat}{k:Str}{fs R:Á D}(x0:0<=x)(x1:x<4294967296)(g:x/134217728=(n:Int))(n0:21<=n)(n1:n<=23)(hk:Ác n .zE=.str k)(i:ud łb=À (Ã,.lst fs))(d:ye Şa yf XD Ħl fs=À R)(f:t6 .zE Åe=À û)(e:őc<=3)(hz:uG êi=À (Â,.int x)):pT Ùb=À (Â,.tup Ĥc):=by have c:=U4 x0 x1;rw[g]at c;have b:=Ev (n:=n) Å;rw[hk]at b;have a:=JS (n:=n) Å;rw[ć (show ¬ n<=20 by omega),òg]at a;have:=HV c b i d f e a ļi Ņc hz;rw[this,Î rfl]
theorem z4w{p:Int}{t:Str}:OK żm ŭf 0 0:=by refine⟨by decide,by decide,by decide,by decide,λd b a=>?_,λd b a=>?_,λd=>?_,?_,⟨_,rfl,by simp,by simp,rfl⟩⟩;exact di (w := Ëa) (c:=0) (m:=0) rfl rfl É É É É ſp b a;exact ba (w := Ëa) (c:=0) (m:=0) rfl rfl ſp b a;refine eA (n:=18) (k := Ëa) (fs:=[]) (R:=[]) (Z:=18*134217728) Å Å Å É É rfl rfl rfl rfl â (CW (c:=18) É É rfl) Å;exact bi (n:=21) (k := Ëa) (fs:=[]) (R:=[]) Å Å Å É É rfl rfl rfl rfl â (CW (c:=21) É É rfl)
def sW{w k:Str}{p:Int}{t:Str}(b:w = Ía \/ w = ßa)(hk:k = ăa \/ k = ŋa \/ k = ųa):OK ķd Ĳd (cJ ķd) (mJ ķd):=by
 obtain⟨c,z,A,C,r,e,u,s⟩:∃c:Nat,cJ ķd=(c:Int)/\1<=c/\c<=2/\wB ZP kK Õa=À (Β Éq)/\wB ZO kJ Õa=À (Β ęj)/\Ác ēd .zE=.str w/\Ác Ēf .zE=.str w:=by rcases b with rfl|rfl;exact⟨1,by rfl,by decide,by decide,by rfl,by rfl,rfl,rfl⟩;exact⟨2,by rfl,by decide,by decide,by rfl,by rfl,rfl,rfl⟩
 obtain⟨m,y,B,f,v⟩:∃m:Nat,mJ ķd=(m:Int)/\m<3/\Qs Yj Ģa=À (.int (m:Int))/\dI.getD m .zE=.str k:=by rcases hk with rfl|rfl|rfl;exact⟨0,by rfl,by decide,by rfl,rfl⟩;exact⟨1,by rfl,by decide,by rfl,rfl⟩;exact⟨2,by rfl,by decide,by rfl,rfl⟩
 rw[z,y];have g:ud øc=À (Ã,.lst ŷe):=by rcases b with rfl|rfl<;>rfl
 have i:vi Ķi=À (Â,.tup Ľe):=by rcases b with rfl|rfl<;>rfl
 have a:∀x:Int,x/16777216%4=(m:Int)->qJ [.int x,.str w,.str Đb]=À (Â,.str k):=λx q=>by have:=z3u (x:=x) i;rw[q,ľ,v]at this;exact this
 refine⟨by omega,by omega,by omega,by omega,λd h j=>?_,λd h j=>?_,λd=>?_,?_,⟨_,rfl,by simp,by simp,rfl⟩⟩;exact di rfl r Å Å Å Å Źm h j;exact ba rfl e Źm h j;have l:=a (Éq*134217728+(m:Int)*16777216+d%32) Å;exact eA (n:=18+c) (k:=w) (fs:=ŷe) (R:=łb) (Z:=((18+c:Nat):Int)*134217728+(m:Int)*16777216) Å Å Å Å Å u g Źq rfl â (bp g i f Å Å Å Å) Å;have l:=a (ęj*134217728+(m:Int)*16777216) Å;have o:=bp (c:=((21+c:Nat):Int)) g i f Å Å Å Å;rw[show((21+c:Nat):Int)*134217728+(m:Int)*16777216=ęj*134217728+(m:Int)*16777216 by omega]at o;exact bi (n:=21+c) (k:=w) (fs:=ŷe) (R:=łb) Å Å Å Å Å s g Źq rfl â o
def z4v{n:Int}{L:Á D}{r y:D}(h:Vq n r)(e:k9 L r y):OK r y (cJ r) (mJ r):=by
 obtain⟨d,a,t,b,c⟩:=e.2.2.1.2 (by obtain⟨_,_,_,_,_,z,_⟩:=LK h;exact z);cases h with
 |vZ p0 p1=>
  match d,b,c with
  | [q],b,c=>cases b;subst c;exact z4w| [],b,_=>cases b|_::_::_,b,_=>simp at b
 |ðb hw hk p0 p1=>
  match d,b,c with
  | [q,q2],b,c=>cases b;subst c;exact sW hw hk| [],b,_=>cases b| [_],b,_=>cases b|_::_::_::_,b,_=>simp at b
noncomputable def x72:Æ Nat->D
 |Ä=>.zE|À p=>.int (p:Int)
def GB:FS:=(zZ (Zj 1 ċ ġ)
    (zZ (yP 2 îg)
    Ņm))
def Od:FT:=(tE (e2 UD ġ Ča))
def Ff:FS:=
 (zZ Ŭj
  (zZ Šq
  (zZ Ņm
  (zZ (L_ Od
   GB)
  īf))))
def Vn:Á D->Æ ä:=FR 1 4 Ff
def z3j(x0:D):Vn ð=yH 4 Ff ð:=rfl
def Pe:FE:=Ñc
def Dg:FS:=
 (yF (e2 CM (xw 1 (UK 0) Ĺa yf Pe) ī))
def Tl:Á D->Æ ä:=FR 1 1 Dg
def z24(x0:D):Tl ð=yH 1 Dg ð:=rfl
def GC:FS:=(zZ (yP 5 (e2 zM Ų źc))
    (xR (MU (tE (e2 UD Îa Ča)) (MU (tE (e2 xg Îa ċ)) (tE (e2 ZN Îa ý))))
     (yF ġ)
     xq))
def Fi:FS:=
 (zZ (yP 1 ėq)
  (zZ (Μ (zT Tl øb))
  (zZ (xR (tE (e2 xg ċ Ŀc))
   (yF ċ)
   xq)
  (zZ (p9 (UJ 1) éf
   GC)
  Ùe))))
def QD:Á D->Æ ä:=FR 1 6 Fi
def z3m(x0:D):QD ð=yH 6 Fi ð:=rfl
def Fb:FS:=
 (zZ (yP 1 (zT QD õb))
  (zZ (xR (tE (e2 UD ý Ča))
   ĸb
   xq)
  (yF ėq)))
def Xn:Á D->Æ ä:=FR 1 2 Fb
def z3f(x0:D):Xn ð=yH 2 Fb ð:=rfl
noncomputable def tA(A:Nat->Int):Æ Nat->D
 |Ä=>.zE|À p=>.int (A p)
structure Tb(ws:Á D)(n:Nat)(A:Nat->Int)(b:Nat->D)(tg:Nat->Æ Nat):Prop where
 up:∀i,i<n->A i<A ê
 z:A 0=0
 e:A n=(Ĉb:Int)
 told:∀i,i<n->jQ Űn=À (Â,.tup Ėm)
 fin:jQ [.lst ws,.int Ēa]=À (Â,.zE)
 le:∀i p,i<n->tg i=À p->p<=n
 O9:n<=400
def ux(A:Nat->Int)(b:Nat->D)(tg:Nat->Æ Nat)(i:Nat):D:=.tup Ėm
noncomputable def xJ(A:Nat->Int)(n:Nat):Á ħ:=(Ţc).map λi=>.inl æb
def xh(A:Nat->Int)(b:Nat->D)(tg:Nat->Æ Nat)(n:Nat):Á D:=(Ţc).map (ux A b tg)
def y44{ks:Á ħ}{vs:Á D}{k:Sum Int Str}{v:D}(h:yp ks k=Â):wM ks k=ks++[k]/\wC ks vs k v=vs++[v]:=by unfold wM wC;rw[h];exact⟨rfl,rfl⟩
def z5i(A:Nat->Int)(n:Nat):xJ A ķ=xJ A n++[.inl Ēa]:=by unfold xJ;rw[Ńe,ńa];rfl
def x4g(A:Nat->Int)(b:Nat->D)(tg:Nat->Æ Nat)(n:Nat):xh A b tg ķ=xh A b tg n++[ux A b tg n]:=by unfold xh;rw[Ńe,ńa];rfl
def z5h(A:Nat->Int)(n:Nat):(ġa).length=n:=by unfold xJ;rw[ç,üb]
theorem cp{A:Nat->Int}{n:Nat}{x:Int}:yp ġa ņk=Ã↔∃i,i<n/\A i=x:=by
 unfold yp xJ;rw[Üg]
 constructor;rintro⟨k,b,e⟩;obtain⟨i,a,rfl⟩:=Ça b;exact⟨i,Ýc a,èc (Ŋ e)⟩;rintro⟨i,a,rfl⟩;exact⟨_,ĺe ⟨i,Ïd a,rfl⟩,ï rfl⟩
theorem c8{n:Nat}{A:Nat->Int}(b:∀i j,i<=n->j<=n->A i=A j->i=j){p:Nat}(c:p<n)(f:Nat->D):∀(l:Á Nat),p∈l->(∀i∈l,i<=n)->Ā Ŵn (Äa f) Ěj=À (f p)
 | [],h,_=>by cases h|a::l,h,hl=>by show(if(Ìa (A a):Sum Int Str)=.inl (A p)then À (f a)else Ā Ŵn (Äa f) Ěj)=_;by_cases e:A a=A p;have:=b a p (hl a Ŏ) Ċd e;subst this;rw[Î rfl];rw[Ð (λz=>e (èc z))];rcases Ĺ h with rfl|h;exact Û rfl e;exact c8 b c f l h λi d=>hl i ôk
section
variable{ws:Á D}{n:Nat}{A:Nat->Int}{b:Nat->D}{tg:Nat->Æ Nat}(T:Tb ws n A b tg)
include T
theorem Tb.lt{i j:Nat}(h:i<j)(a:j<=n):A i<A j:=by
 induction j with
 |äa=>omega|åa j ih=>have u:=T.up j Å;by_cases e:i=j;rw[e];exact u;have:=ih Å Å;omega
theorem Tb.inj{i j:Nat}(hi:i<=n)(a:j<=n)(e:A i=A j):i=j:=by rcases Įi i j with h|h|h;have:=T.lt h a;omega;exact h;have:=T.lt h hi;omega
theorem Tb.new{i:Nat}(hi:i<=n):yp Úe Ûr=Â:=by
 cases c:yp Úe Ûr with
 |Â=>rfl|Ã=>obtain⟨j,a,e⟩:=cp.mp c;have:=T.inj Å hi e;omega
def X8(n:Nat)(A:Nat->Int)(b:Nat->D)(tg:Nat->Æ Nat)(i:Nat):D:=if i<n then ux A b tg i else .zE
theorem Tb.tell{i:Nat}(hi:i<=n):jQ Űn=À (Â,X8 n A b tg i):=by
 unfold X8;by_cases h:i<n;rw[Î h];exact T.told i h;have e:i=n:=by omega
 rw[Ð h,e];exact T.fin
theorem mQ:∀(k i:Nat),i+k=n->pF Od GB Œ [À (Â,.lst ws),À (Ã,.dic Úe ħp),À (Â,.int æb),À (Â,X8 n A b tg i)]=À (.nx [À (Â,.lst ws),À (Ã,.dic ġa ũa),À (Â,.int Ēa),À (Â,.zE)])
 |0,i,h=>by
  have e:i=n:=by omega
  subst e;have f:X8 i A b tg i=.zE:=Ð Üa;rw[f];refine mT ?_;unfold Od;simp only[Ó]
 |k+1,i,h=>by
  have g:i<n:=by omega
  have f:X8 n A b tg i=ux A b tg i:=Î g;rw[f,mU (σ':=[À (Â,.lst ws),À (Ã,.dic šq Ŗo),À (Â,.int đh),À (Â,X8 n A b tg ê)])];exact mQ k ê Å;unfold Od ux;simp only[Ó];obtain⟨l,m⟩:=y44 (vs:=xh A b tg i) (v:=ux A b tg i) (T.new (ða g));have d:=T.tell (i:=i+1) g;have j:(Úe).length<yY:=by rw[z5h];have:=T.O9;show i<16777216;omega
  have c:zM (ux A b tg i) Ŗa=À (Β đh):=rfl
  have a:Zj 1 ċ ġ [À (Â,.lst ws),À (Ã,.dic Úe ħp),À (Â,.int æb),À (Â,ux A b tg i)]=À (.nx [À (Â,.lst ws),À (Ã,.dic šq Ŗo),À (Â,.int æb),À (Â,ux A b tg i)]):=by rw[z5i,x4g,<-l,<-m];show(if(Úe).length<yY then _ else _)=_;rw[Î j];rfl
  unfold GB;generalize xJ A ê=K1 at a c d ⊢;generalize xh A b tg ê=V1 at a c d ⊢;generalize xJ A i=K0 at a c d ⊢;generalize xh A b tg i=V0 at a c d ⊢;generalize ux A b tg i=TD at a c d ⊢;generalize X8 n A b tg ê=TL at a c d ⊢;simp only[Ó,a,c,d]
theorem mR:Vn Éf=À (Ã,.dic ġa ũa):=by have c:=T.tell (i:=0) āh;rw[T.z]at c;have a:=iU ķ (mQ T n 0 (Ş n)) (by have:=T.O9;show n+1<=100000000;omega);rw[T.z]at a;have d:xJ A 0=[]:=rfl;have e:xh A b tg 0=[]:=rfl;rw[d,e]at a;rw[z3j];unfold Ff;generalize X8 n A b tg 0=TL at c a ⊢;generalize xJ A n=KK at c a ⊢;generalize xh A b tg n=VV at c a ⊢;simp only[Ó,c,a]
theorem rO:Tl [.dic ġa ũa]=À (Â,.int Ēa):=by
 have e1:ye Ĺa yf Pe įm ũa=À Ąq:=by
  have:=kO (g:=yA 1) (e:=Pe) (σ:=įm) (λd=>match d with|.tup [_,x,_]=>x|_=>.zE) (ds:=xh A b tg n) λd k=>by obtain⟨i,_,rfl⟩:=Ça k;exact⟨_,rfl,rfl⟩
  rw[this];unfold xh;rw[Êb,Êb];rfl
 have e2:CM (Ε Ąq) Ł=À Ţg:=by
  show(ZV _).bind _=_;rw[cR];show À (if(Ţc).map (λi=>A ê)=[]then _ else _)=_;by_cases c:n=0;subst c;show À (ĉ 0)=À (ĉ (A 0));rw[T.z];rw[Ð (by intro h;have:=Êa żd h;rw[ç,üb]at this;exact c this)]
  have:A n=L2.maxI Ŵh:=by refine L2.maxI_uniq ?_ λy j=>?_;exact ĺe ⟨n-1,Ïd Å,by rw[įe Å]⟩;obtain⟨i,f,rfl⟩:=Ça j;have f:=Ýc f;by_cases e:i+1=n;rw[e];exact ěa _;exact þa (T.lt Å Ċ)
  rw[<-this]
 rw[z24];unfold Dg;generalize (Ŵh).map ĉ=LL at *;have a:UK 0 [À (Â,.dic ġa ũa)]=À ũa:=rfl;generalize xJ A n=KK at a e1 e2 ⊢;generalize xh A b tg n=VV at a e1 e2 ⊢;simp only[Ó,a,e1,e2]
def LJ(A:Nat->Int)(b:Nat->D)(tg:Nat->Æ Nat)(n:Nat):Á D:=(Ţc).map λi=>Åc [.int æb,ux A b tg i]
omit T in
theorem z4n{x2 x3 x4 x5:Æ Sl}:UJ 1 [À (Â,.lst ws),À (Â,.dic ġa ũa),x2,x3,x4,x5]=À (LJ A b tg n):=by
 have h:(ġa).all Zb=Ã:=ģe λk a=>by obtain⟨i,_,rfl⟩:=Ça a;rfl
 show(if(ġa).all Zb=Ã then À (Ze ġa ũa)else Ä)=_;rw[Î h];unfold Ze xJ xh LJ;refine Êa À (Řd λi=>?_);rw[Źf,Ŧ,Ŧ,Ŧ];cases(ùa n)[i]? with
 |Ä=>rfl|À j=>rfl
theorem z17:QD Éf=À (Â,.zE):=by
 have e1:=mR T;have e2:=rO T;have d:xg Ţg (.int (Ĉb:Int))=À û:=by rw[T.e];exact GQ (WK rfl)
 obtain⟨σ',f,x3,x4,x5,rfl⟩:=kQ (g:=uO 3 4) (b:=GC) (λi σ=>∃x3 x4 x5,σ=[À (Â,.lst ws),À (Â,.dic ġa ũa),À (Â,.int Ēa),x3,x4,x5]) (ds:=LJ A b tg n)
  (σ:=[À (Â,.lst ws),À (Â,.dic ġa ũa),À (Â,.int Ēa),Ä,Ä,Ä]) 0 ⟨Ä,Ä,Ä,rfl⟩ (by
  rintro i v σ o ⟨x3,x4,x5,rfl⟩;obtain⟨j,m,rfl⟩:=Ça (Ġc o);have m:=Ýc m;refine⟨_,[À (Â,.lst ws),À (Â,.dic ġa ũa),À (Â,.int Ēa),À (Â,.int (A j)),À (Â,ux A b tg j),À (Â,tA A (tg j))],rfl,.inl ?_,_,_,_,rfl⟩;have a:zM (ux A b tg j) Ŷb=À (tA A (tg j)):=rfl;unfold GC;cases h:tg j with
  |Ä=>
   rw[h]at a;have l:tA A Ä=.zE:=rfl;rw[l]at a ⊢;generalize ux A b tg j=TD at a ⊢;generalize xJ A n=KK at a ⊢;generalize xh A b tg n=VV at a ⊢;simp only[Ó,a]
  |À p=>
   rw[h]at a;have l:tA A (À p)=.int (A p):=rfl;rw[l]at a ⊢;have r:=T.le j p m h;by_cases e:p=n
   .have q:xg Ůe Ţg=À û:=by rw[e];exact GQ (WK rfl)
    generalize ux A b tg j=TD at a q ⊢;generalize xJ A n=KK at a q ⊢;generalize xh A b tg n=VV at a q ⊢;simp only[Ó,a,q]
   .have q:xg Ůe Ţg=À Ō:=GQ (LG (by have:=T.lt (i:=p) (j:=n) Å Ċ;omega))
    have c:ZN Ůe (.dic ġa ũa)=À û:=by show(À (yp ġa Ěj)).bind _=_;rw[cp.mpr ⟨p,by omega,rfl⟩];rfl
    generalize ux A b tg j=TD at a q c ⊢;generalize xJ A n=KK at a q c ⊢;generalize xh A b tg n=VV at a q c ⊢;simp only[Ó,a,q,c])
 have k:=z4n (ws:=ws) (A:=A) (b:=b) (tg:=tg) (n:=n) (x2:=À (Â,.int Ēa)) (x3:=Ä) (x4:=Ä) (x5:=Ä);rw[z3m];unfold Fi;generalize LJ A b tg n=IT at e1 e2 d k f ⊢;generalize xJ A n=KK at e1 e2 d k f ⊢;generalize xh A b tg n=VV at e1 e2 d k f ⊢;simp only[Ó,e1,e2,d,k,f]
theorem y99:Xn Éf=À (Â,.dic ġa ũa):=by have e1:=z17 T;have e2:=mR T;rw[z3f];unfold Fb;generalize xJ A n=KK at e1 e2 ⊢;generalize xh A b tg n=VV at e1 e2 ⊢;simp only[Ó,e1,e2]
#print a
def qB(r:D):Nat:=match Yp r with
 |.int p=>Āf|_=>0
noncomputable def mW(c m d:Int)(zC:Í):Á Int:=bif zC then[Ēf*134217728+m*16777216,d%4294967296]else[ēd*134217728+m*16777216+d%32]
def Yx(r:D):Int:=match Vo [r]with
 |À (_,.int v)=>v|_=>0
def dJ(Ï:Á D)(zC:Á Nat)(i:Nat):Int:=yt ę êf-yt ę i
def vV(Ï:Á D)(zC:Á Nat)(i:Nat):Á Int:=bif xy Ĳ then mW (cJ Ĳ) (mJ Ĳ) įp ľr else[Yx Ĳ]
def wK(Ï:Á D)(zC:Á Nat):Nat->Á Int
 |0=>[]|n+1=>wK Ï zC n++vV Ï zC n
def YY(Ï:Á D)(i:Nat):D:=bif xy Ĳ then Qc Ĳ else òc i .zE
def Zq(Ï:Á D)(i:Nat):Æ Nat:=bif xy Ĳ then À êf else Ä
structure Wr(Ï zF:Á D)(zC:Á Nat):Prop where
 it:∀d∈zF,vf d
 li:ßr<=1000
 he:ub (k9 zF) Ï ßn
 hr:∀r∈Ï,kA (é:Int) r
 hn:é<64
 hg:gF Ï zC=[]
 hj:∀i,zc zC i=Ã->xy Ĳ=Ã
structure W1(Ï zF:Á D)(zC:Á Nat)(i:Nat)(y:D):Prop where
 yi:ßn[i]?=À y
 pl:xy Ĳ=Â->y=òc i .zE/\Vw y (Yx y)/\zc zC i=Â/\tgt Ĳ=.zE
 jm:xy Ĳ=Ã->OK Ĳ y (cJ Ĳ) (mJ Ĳ)/\qB Ĳ<=é/\tgt Ĳ=.int (qB Ĳ:Nat)/\(zc zC i=Â -> -16<=dJ Ï zC i/\dJ Ï zC i<=15) /\ -200<=dJ Ï zC i/\dJ Ï zC i<=200
theorem Vy(f:Nat->Í):∀n:Nat,0<=yt f n/\yt f n<=2*n
 |0=>⟨ěa _,ěa _⟩|n+1=>by
  obtain⟨a,b⟩:=Vy f n;show 0<=yt f n+ûi/\yt f n+ûi<=_
  split<;>omega
section
variable{Ï zF:Á D}{zC:Á Nat}(W:Wr Ï zF zC)
include W
theorem Wr.one{i:Nat}(hi:i<é):∃y,W1 Ï zF zC i y:=by
 obtain⟨y,n,m⟩:=Ol W.he (Ĕ hi);have b:òc i .zE=Ï[i]:=by rw[øa,Ĕ hi];rfl
 have j:=W.hr _ (àc hi);refine⟨y,n,λa=>?_,λa=>?_⟩;rw[b]at a ⊢
 have t:qr Ï[i]:=by rcases j with h|h;exact h;obtain⟨_,_,_,_,_,z,_⟩:=LK h;rw[z]at a;cases a
 have k:y=Ï[i]:=m.2.2.1.1 a;obtain⟨v,w⟩:=y3p t;refine⟨k,?_,?_,?_⟩;rw[k];have:Yx Ï[i]=v:=by unfold Yx;rw[w.w]
 rw[this];exact w;cases c:zc zC i with
 |Â=>rfl|Ã=>have:=W.hj i c;rw[b,a]at this;cases this
 unfold tgt;rw[a];rw[b]at a ⊢
 have g:Vq (é:Int) Ï[i]:=by rcases j with h|h;obtain⟨_,_,_,_,z,_⟩:=Ua h;rw[z]at a;cases a;exact h
 obtain⟨_,p,_,_,_,_,_,_,l,B,u⟩:=LK g;have r:qB Ï[i]=Āf:=by unfold qB;rw[l]
 have q:(qB Ï[i]:Int)=p:=by rw[r];omega
 have f:tgt Ï[i]=.int (qB Ï[i]:Nat):=by unfold tgt;rw[a,q];exact l
 have C:=Vy ę ħg;have x:=Vy ę i;have A:=W.hn;have o:dJ Ï zC i=yt ę ħg-yt ę i:=by unfold dJ;rw[b]
 refine⟨z4v g m,by omega,f,λs=>?_,by omega,by omega⟩
 have e:ZG Ï zC i=Â:=by
  cases z:ZG Ï zC i with
  |Â=>rfl|Ã=>have:i∈gF Ï zC:=ĕi ⟨ĕi ⟨Ïd hi,by rw[s];rfl⟩,z⟩;rw[W.hg]at this;cases this
 unfold ZG at e;rw[b,f]at e;have d:(decide (-16<=yt ę ħg-yt ę i)&&decide (yt ę ħg-yt ę i<=15))=Ã:=by simpa [GR,dv]using e
 rw[Ē]at d;rw[o];exact⟨Ŋ d.1,Ŋ d.2⟩
theorem Wr.oC{i:Nat}(hi:i<é):((êj).length:Int)=if zc zC i then 2 else 1:=by
 obtain⟨y,h⟩:=Ŀh hi;unfold vV;cases hj:xy Ĳ with
 |Â=>rw[(h.pl hj).2.2.1];rfl|Ã=>unfold mW;cases zc zC i<;>rfl
theorem Wr.len:∀{n:Nat},n<=é->((wK Ï zC n).length:Int)=yt ę n
 |0,_=>rfl|n+1,h=>by have a:=Wr.len (n:=n) Å;have b:=W.oC (i:=n) Å;show((wK Ï zC n++vV Ï zC n).length:Int)=yt ę n+(if zc zC n then 2 else 1);rw[í];omega
omit W in
theorem oy:∀{i n:Nat},i<=n->∃r,wK Ï zC n=wK Ï zC i++r
 |i,n,h=>by
  induction n with
  |äa=>exact⟨[],by rw[show i=0 by omega];rfl⟩|åa n ih=>by_cases e:i=n+1;exact⟨[],by rw[e,ż]⟩;obtain⟨r,q⟩:=ih Å;exact⟨r++vV Ï zC n,by show wK Ï zC n++vV Ï zC n=_;rw[q,ŗ]⟩
theorem Wr.at{i k:Nat}{v:Int}(hi:i<é)(hk:êj[k]?=À v):zM (Ε Ğg) (Β (yt ę i+k))=À àe/\yt ę i+k<((Ţf).length:Int):=by
 obtain⟨r,e⟩:=oy (Ï:=Ï) (zC:=zC) (i:=i+1) (n:=é) hi;have l:=W.len (n:=i) Å;have a:k<(êj).length:=(Ŗ hk).1;have e2:wK Ï zC ê=wK Ï zC i++vV Ï zC i:=rfl
 have g:Ţf[(Ĩp).length+k]?=À v:=by rw[e,e2,ŗ,Śb Å,Űf,ģb a];exact hk
 have lt:=(Ŗ g).1;refine⟨QZ Å ?_,by omega⟩;rw[show(yt ę i+(k:Int)).toNat=(Ĩp).length+k by omega,Ŧ,g];rfl
theorem Wr.tb:Tb Ğg é Ïh (YY Ï) (Zq Ï):=by
 refine⟨λi j=>?_,rfl,?_,λi j=>?_,?_,λi p j h=>?_,by have:=W.hn;omega⟩;show yt ę i<yt ę i+Ől
 split<;>omega;rw[ç];exact(īq).symm;obtain⟨y,h⟩:=Ŀh j;have s:=Vy ę i;have m:((Ğg).length:Int)=((Ţf).length:Int):=by rw[ç]
 unfold YY Zq;show _=À (Â,Åc [_,.int Òp,_]);cases hj:xy Ĳ with
 |Â=>
  obtain⟨E,w,G,_⟩:=h.pl hj;rw[E]at w;have g:=ñb (k:=0) (v:=Yx Ĳ) j (by unfold vV;rw[hj];rfl);rw[Żi,ċg]at g;obtain⟨n,F,I⟩:=w.c;have e:=U4 w.v0 w.v1;rw[I]at e;have d:=JS (n:=n) Å;rw[ć (show ¬ 18<=n by omega),Įc]at d;have b:=CU (n:=n) Å;rw[ć (show ¬ 21<=n by omega),Įc]at b
  obtain⟨R,f⟩:∃R,òc i .zE=.tup R:=by
   have:=W.hr _ (àc j);have H:òc i .zE=Ï[i]:=by rw[øa,Ĕ j];rfl
   rw[H];generalize Ï[i]=rr at this;rcases this with q|q<;>cases q<;>exact⟨_,rfl⟩
  have B:=w.r;rw[f]at B g;have:=x26 ⟨s.1,by rw[m];exact g.2,g.1,by rw[<-f];exact w.v0,by rw[<-f];exact w.v1⟩ (by rw[<-f];exact e) b d B;rw[this,G,f];rfl
 |Ã=>
  obtain⟨w,L,J,C,K,N⟩:=h.jm hj;obtain⟨R,f,_,_,_⟩:=w.hd;have Q:=w.c0;have O:=w.c1;have P:=w.m0;have T:=w.m1;have A:yt ę i+dJ Ï zC i=yt ę êf:=by unfold dJ;omega
  cases hF:zc zC i with
  |Ã=>
   have o:vV Ï zC i=[īg*134217728+mJ Ĳ*16777216,dJ Ï zC i%4294967296]:=by unfold vV;rw[hj,hF];rfl
   have g:=ñb (k:=0) j Æj;rw[Żi,ċg]at g;have t:=ñb (k:=1) j Æj;rw[show((1:Nat):Int)=1 from rfl]at t;have l:=w.fr;rw[f]at l;obtain⟨x,z⟩:∃x,x=īg*134217728+mJ Ĳ*16777216:=⟨_,rfl⟩;obtain⟨n,u⟩:∃n:Nat,(n:Int)=21+cJ Ĳ:=⟨(īg).toNat,by omega⟩;rw[<-z]at g l;have e:=U4 (x:=x) Å Å;rw[show x/134217728=(n:Int) by omega]at e;have b:=CU (n:=n) Å;rw[ï (show 21<=n by omega),ï (show n<=23 by omega),Āg]at b;have:=x23 (a:=yt ę i) ⟨s.1,by rw[m];exact g.2,g.1,by omega,by omega⟩ e b l t.1 (by rw[m];exact t.2);rw[this,show yt ę i+(if 2*(dJ Ï zC i%4294967296)<4294967296 then dJ Ï zC i%4294967296 else dJ Ï zC i%4294967296-4294967296)=yt ę êf by rw[<-A];split<;>omega];simp only[úr,f];rfl
  |Â=>
   have o:vV Ï zC i=[Ĭg*134217728+mJ Ĳ*16777216+dJ Ï zC i%32]:=by unfold vV;rw[hj,hF];rfl
   obtain⟨U,S⟩:=C hF;have g:=ñb (k:=0) j Æj;rw[Żi,ċg]at g;have l:=w.nr įp;rw[f]at l;obtain⟨x,z⟩:∃x,x=Ĭg*134217728+mJ Ĳ*16777216+dJ Ï zC i%32:=⟨_,rfl⟩;obtain⟨n,u⟩:∃n:Nat,(n:Int)=18+cJ Ĳ:=⟨(Ĭg).toNat,by omega⟩;rw[<-z]at g l;have e:=U4 (x:=x) Å Å;rw[show x/134217728=(n:Int) by omega]at e;have b:=CU (n:=n) Å;rw[ć (show ¬ 21<=n by omega),Įc]at b;have d:=JS (n:=n) Å;rw[ï (show 18<=n by omega),ï (show n<=20 by omega),Āg]at d;have:=x24 (a:=yt ę i) ⟨s.1,by rw[m];exact g.2,g.1,by omega,by omega⟩ e b d l;rw[this,show yt ę i+ňf=yt ę êf by rw[<-A];split<;>omega];simp only[úr,f];rfl
 refine x25 (.inr ?_);rw[ç];exact Int.le_of_eq īq;obtain⟨y,w⟩:=Ŀh j;unfold Zq at h;cases hj:xy Ĳ with
 |Â=>rw[hj]at h;cases h|Ã=>rw[hj]at h;cases h;exact(w.jm hj).2.1
#print a
def z4j{zC:Á Nat}{n:Nat}:zc zC n=Ã↔n∈zC:=by
 unfold zc yL;rw[Üg]
 have e:∀a:Nat,xZ ŏe Çb=Ã↔a=n:=λa=>by have:xZ ŏe Çb=Úo:=rfl;rw[this,ńq];omega
 constructor;rintro⟨x,c,h⟩;obtain⟨a,b,rfl⟩:=Ça c;exact(e a).mp h▸b;exact λh=>⟨_,ĺe ⟨n,h,rfl⟩,(e n).mpr rfl⟩
theorem iP{g:Á Nat->Á Nat}:∀{zC R:Á Nat}{k:Nat},gB g zC R k->g R=[]
 |_,_,_,.stop e=>e|_,_,_,.go _ _ r=>iP r
theorem iO{Ï:Á D}:∀{zC R:Á Nat}{k:Nat},gB Øh zC R k->(∀i∈zC,xy Ĳ=Ã)->∀i∈R,xy Ĳ=Ã
 |_,_,_,.stop _,h=>h|zC,_,_,.go _ _ r,h=>iO r λi a=>by
  have a:i∈zC++gF Ï zC:=(įh).mem_iff.mp a;rcases ça a with a|a;exact h i a;cases c:xy Ĳ with
  |Ã=>rfl|Â=>have:=(İe a).2;rw[rG c]at this;cases this
def z0z{i:Nat}{e:FE}{σ:yE}{L W:Á D}(b:σ[i]?=À (À (Ã,.lst L)))(a:e σ=À (.lst W))(c:Öb<=1000)(d:ĩk<=2):qD i e σ=À (Δa (ψa (L++W))):=by unfold qD;rw[b,a];show(if Öb+ĩk<=yY then _ else _)=_;rw[Î Şf]
theorem x6k{Ï j:Á D}(h:∀d∈j,vf d)(x:Œa<=1000)(q:ub (k9 j) Ï Éd)(I:∀r∈Ï,kA (é:Int) r)(K:é<64) :∃zC k,gB Øh [] zC k/\Wr Ï j zC/\Vp [.lst j]=À (Ã,.lst Ğg):=by
 obtain⟨R,U,A,_,_,F⟩:=bc h x q I K;have W:Wr Ï j R:=⟨h,x,q,I,K,iP A,λi o=>iO A (λ_ h=>by cases h) i (z4j.mp o)⟩;refine⟨R,U,A,W,?_⟩;have B:=bJ h x q I Å (zC:=R);have S:=Ly h;have N:=W7 q
 have G:gO Űd Ďl=À (tM Éd):=by
  have e4:∀σ:yE,zT qK õb σ=À (.lst Éd)->gO Űd σ=À (tM Éd):=λσ z=>by unfold gO;rw[z];rfl
  exact e4 _ (by simp only[Ó,S])
 obtain⟨σ',u,J,C,rfl⟩:=kQ (g:=uO 4 5) (b:=JK) (λi σ=>∃J C,σ=[À (Â,.lst j),À (Â,.lst òe),À (Â,.lst Ųf),À (Ã,.lst ıj),J,C]) (ds:=tM Éd)
  (σ:=Ďl) 0 ⟨Ä,Ä,rfl⟩ (by
  rintro i v σ p ⟨J,C,rfl⟩;rw[Ş]at *;rw[JT]at p
  have o:i<é:=by
   rw[N];cases z:Éd[i]? with
   |Ä=>rw[z]at p;cases p|À y=>exact(Ŗ z).1
  obtain⟨y,H⟩:=Ŀh o;rw[H.yi]at p;cases p
  have al:(ıj).length<=900:=by have:=W.len (n:=i) Å;have:=Vy ŧc i;rw[ç];omega
  have X:òc i .zE=Ï[i]:=by rw[øa,Ĕ o];rfl
  have a:zM ëk Ňa=À (dv ŧc Īm):=QZ Å (by rw[ľ,X];exact bK o)
  have c:t6 Ňa (Ε òe)=À (.bl (zc R i)):=by show(UB _ _).bind _=_;rw[z49];rfl
  have s1:(Ùp).map ĉ=(Ūb).map ĉ++(ŵd).map ĉ:=by show(wK Ï R i++vV Ï R i).map ĉ=_;rw[ńa]
  refine⟨_,[À (Â,.lst j),À (Â,.lst òe),À (Â,.lst Ųf),À (Ã,.lst (Ωa Ùp)),À (Â,.int (i:Int)),À (Â,y)],rfl,.inl ?_,_,_,rfl⟩;rw[s1];cases hj:xy Ĳ with
  |Â=>
   obtain⟨Q,w,nf,Z⟩:=H.pl hj;have l:vV Ï R i=[Yx y]:=by unfold vV;rw[hj,Q];rfl
   have f:=OM (L:=(Ūb).map ĉ) (r:=.int (Yx y)) Å;rw[Z]at a;have a:zM ëk Ňa=À .zE:=a;have t:=w.w;rw[l];unfold JK;generalize (Ūb).map ĉ=LL at a t f ⊢;generalize wW Ï ŧc=DD at a t f ⊢;generalize Yx y=PV at a t f ⊢;simp only[Ó,a,t,f]
  |Ã=>
   obtain⟨w,p1,O,P,d0,d1⟩:=H.jm hj;rw[O]at a;have a:zM ëk Ňa=À (Β Ėj):=a;cases hF:zc R i with
   |Ã=>
    have m:=w.fw Ėj Å Å
    have l:(ŵd).map ĉ=[.int (īg*134217728+mJ Ĳ*16777216),.int (dJ Ï R i%4294967296)]:=by unfold vV;rw[hj,hF];rfl
    rw[<-l]at m;rw[hF]at c;have E:((ŵd).map ĉ).length<=2:=by rw[l];simp
    have T:=z0z (i:=3) (e:=uM Xi Âi) (σ:=[À (Â,.lst j),À (Â,.lst òe),À (Â,.lst Ųf),À (Ã,.lst ıj),À (Â,.int (i:Int)),À (Â,y)]) (L:=(Ūb).map ĉ) (W:=(ŵd).map ĉ) rfl (by generalize (Ūb).map ĉ=LL at a m ⊢;generalize (ŵd).map ĉ=WW at a m ⊢;generalize wW Ï ŧc=DD at a m ⊢;simp only[Ó,a,m]) Å E
    unfold JK
    rw[z46 (by
     generalize (Ūb).map ĉ=LL at a ⊢;generalize wW Ï ŧc=DD at a ⊢;simp only[Ó,a]),z47 (by
     generalize (Ūb).map ĉ=LL at c ⊢;generalize wW Ï ŧc=DD at c ⊢;simp only[Ó,c])]
    exact T
   |Â=>
    obtain⟨n0,Y⟩:=P hF;have s:=w.nw Ėj n0 Y
    have l:(ŵd).map ĉ=[.int ľl]:=by unfold vV;rw[hj,hF];rfl
    rw[l];rw[hF]at c;have f:=OM (L:=(Ūb).map ĉ) (r:=.int ľl) Å;unfold JK;generalize Ĭg*134217728+mJ Ĳ*16777216+dJ Ï R i%32=VV at a c s f ⊢;generalize (Ūb).map ĉ=LL at a c s f ⊢;generalize wW Ï ŧc=DD at a c s f ⊢;simp only[Ó,a,c,s,f])
 rw[Ys,Ş,<-N]at u;rw[z3q];unfold Fn;generalize tM Éd=NN at F B G u ⊢;generalize wW Ï ŧc=DD at F B G u ⊢;simp only[Ó,F,B,G,u]
def UQ:yR:=(GI 2 ìg ň)
def YZ:uJ:=(P4 (θa (e2 ļc ċ ý)) (IG (W3 (t5 ú Ōb 0 [] uc wU) (t5 ù Ōb 0 [] uc wU))))
def DV:yR:=
 (xK (vk 2 ĳk)
  (xK (GK YZ
   UQ)
  (WR Ĳk)))
def jN:FM:=ve 2 3 DV
def z1u(x0 x1:M):jN õ=wX 2 3 DV õ:=rfl
theorem Pb{c:uJ}{b:yR}{a:g9}:∀{n:Nat}{β:yD}(m:Nat),pG c b n β=À a->pG c b (n+m) β=À a
 |0,_,_,h=>by cases h|n+1,β,m,h=>by
  rw[show n+1+m=(n+m)+1 by omega]
  change (Ĥd).bind _=_ at h
  show(Ĥd).bind _=_;cases e:c β with
  |Ä=>rw[e]at h;cases h|À r=>
   rw[e]at h
   change (match r.1 with|Â=>_|Ã=>_)=_ at h
   show(match r.1 with|Â=>_|Ã=>_)=_;cases hr:r.1 with
   |Â=>rw[hr]at h;exact h|Ã=>
    rw[hr]at h
    change (Äl).bind _=_ at h
    show(Äl).bind _=_;cases e2:b r.2 with
    |Ä=>rw[e2]at h;cases h|À f=>
     rw[e2]at h;cases f with
     |nx β2=>exact Pb m h|ct β2=>exact Pb m h|bk β2=>exact h|rt x β2=>exact h
def z62{c:uJ}{b:yR}{β:yD}{a:g9}(n:Nat)(h:pG c b n β=À a)(d:Ê (n<=gw) q10):GK c b β=À a:=by have e:=Pb (gw-n) h;rw[ão d]at e;exact e
def mV{c:uJ}{b:yR}{β β1 β2:yD}{n:Nat}(d:c β=À (Ã,β1))(a:b β1=À Ľb):pG c b ķ β=pG c b n β2:=by show(Ĥd).bind _=_;rw[d];show(Ďh).bind _=_;rw[a];rfl
def Mn{c:uJ}{b:yR}{β β1:yD}{n:Nat}(a:c β=À (Â,β1)):pG c b ķ β=À (.nx β1):=by show(Ĥd).bind _=_;rw[a];rfl
def si{C:Str}(c:uK C){T fw fh:D}{e due done:Int}{s:M}{m:Str}(b:m ∉ tI){F:FM}{ĵ:yD}:W3 (t5 ú m 0 [] F wU) (t5 ù m 0 [] F wU) Ëe=qy F öd Ëe:=by
 have a:∀x:Str,t5 x m 0 [] F wU Ëe=match decide Ąe with|Ã=>qy F öd Ëe|Â=>Ä:=λx=>by show(match decide Ąe&&!(decide ëf)with|Ã=>_|Â=>_)=_;rw[ć b];cases decide Ąe<;>rfl
 unfold W3;rw[a,a];cases c with
 |row=>show(match qy F öd åm with|À d=>À d|Ä=>Ä)=_;cases qy F öd åm<;>rfl
 |word=>rfl
def U7{r:D}{a:M}{w:Str}(b:zM r Ł=À Õa)(c:Yd qN Õa=À û):pR Čr=À (Čr,.fz .zE):=by rw[Ci];unfold Qb;simp only[Ņ,b,c]
theorem lS{C:Str}(b:uK C){T fw fh:D}{e due done:Int}{s:M}(h:vQ øm=À (Â,.bl Ã)):uc Ði=À (Ði,.fz û):=by
 have a:=λτ:yE=>bQ b (F:=vQ) (m := ľb) (τ:=τ) ĥ h
 rw[cC];unfold OP;simp only[Ņ,Wp,a]
section
variable{C:Str}(hC:uK C){T fw fh:D}{e:Int}{s s1:M}{d0 d1 j0 j1 m k:Int}
include hC in
theorem Lz{t:Í}(hk:k<m)(h:uc [yN C T e fw fh s d0 j0]=À ([yN C T e fw fh s1 d1 j1],.fz ţc)):YZ Úi=À (t,Ŗl):=by have z:decide (k<m)=Ã:=ï hk;have a:=si hC (T:=T) (e:=e) (fw:=fw) (fh:=fh) (s:=s) (due:=d0) (done:=j0) (m := Ōb) (F:=uc) (ĵ:=[À Úc,À Ňd]) ĥ;unfold YZ;simp only[Ņ,Wp,z,a,h]
theorem iT(hk:¬ k<m):YZ Úi=À (Â,Úi):=by have z:decide (k<m)=Â:=ć hk;unfold YZ;simp only[Ņ,Wp,z]
theorem iR{x:Æ M}(b:x=À Ĵd):UQ [x,À Úc,À Ňd]=À (.nx [x,À Úc,À (.fz (Β Œ))]):=by subst b;have a:ŗb Ĵd=Ä:=rfl;unfold UQ;simp only[Ņ,GI,a]
theorem iS{n:Nat}(b:n<=gw)(w:pG YZ UQ n [À Ĵd,À Úc,À (.fz Ł)]=À (.nx Ŗl)):jN [yN C T e fw fh s d0 j0,.fz řc]=À ([yN C T e fw fh s1 d1 j1,.fz řc],.fz ôf):=by have w:=z62 n w b;have a:∀{s:M}{d0 j0:Int},ŗb Ĵd=Ä:=rfl;rw[z1u];unfold DV;simp only[Ņ,a,w]
#print a
inductive Kd(n:Nat)(A:Nat->Int):D->D->D->D->Prop
 |Ś {x y:D}:Kd n A úa úa x y
 |Ŷa {r x y:D} (h:qL r):Kd n A r r x y
 |vZ {t:Str} {p:Nat} (hp:p<=n):Kd n A ŭf (.tup Ťj) ũd Ůe
 |ðb {w k t:Str} {p:Nat} (hw:w = Ía \/ w = ßa) (hk:k = ăa \/ k = ŋa \/ k = ųa) (hp:p<=n):Kd n A Ĳd Ŵj ũd Ůe
structure QQ(n:Nat)(A:Nat->Int)(T U:D):Prop where
 inj:∀i,i<=n->(A i=A n↔i=n)
 at_:∀i,i<n->∃r b x y,Kd n A r b x y/\zM T Ňa=À (.tup [r,.int łj,x])/\zM U šg=À (.tup [b,.int đh,y])/\wz x=Ã/\wz y=Ã
section
variable{n:Nat}{A:Nat->Int}{T U fw fh:D}(W:QQ n A T U)
inductive Nx(n:Nat)(A:Nat->Int)(T U fw fh:D)(Ws:Á Int)(a b c:Í)(ps:Á Ď)(i j:Nat):Prop
 |no (h1:vQ ēe=À (Â,.bl Ã)) (h2:vQ Ōf=À (Â,.bl Ã))
   (e1:uc Ťf=À (Ťf,.fz û)) (e2:uc ŋf=À (ŋf,.fz û)):Nx n A T U fw fh Ws a b c ps i j
 |go {Ws':Á Int} {a' b' c':Í} {ps':Á Ď} {i':Nat} (w:ug Ws') (p:vv ps') (l:Ĵg<=ă+4) (hi:i'<=n)
   (h1:vQ ēe=À (Â,.bl Â)) (h2:vQ Ōf=À (Â,.bl Â))
   (e1:uc Ťf=À ([yN ú T n fw fh Įd i' Ķq],.fz Ō)) (e2:uc ŋf=À ([yN ù U Ēa fw fh Įd İh Ķq],.fz Ō)):Nx n A T U fw fh Ws a b c ps i j
include W in
theorem dk{Ws:Á Int}{a b c:Í}{ps:Á Ď}{i j:Nat}(L:ug Ws)(P:vv ps)(hp:ă<=800)(hi:i<=n):Nx n A T U fw fh Ws a b c ps i j:=by
 have J:vQ ēe=À (Â,.bl Ã)->vQ Ōf=À (Â,.bl Ã)->Nx n A T U fw fh Ws a b c ps i j:=λB C=>.no B C (lS .row (by rw[uV];exact B)) (lS .word (by rw[uV];exact C))
 by_cases z:i=n
 .subst z;refine J ?_ ?_
  .rcases IE .row (T:=T) (fw:=fw) (fh:=fh) (sd:=xv Ħ a b c Ĩ Ń) (row:=.zE) (nx:=.zE) (tg:=.zE) (e:=(i:Int)) (due:=(i:Int)) (done:=(j:Int)) (k:=Ã) ğo with z|⟨_,z⟩;rw[z,ï rfl];rfl;exact z
  .rcases IE .word (T:=U) (fw:=fw) (fh:=fh) (sd:=xv Ħ a b c Ĩ Ń) (row:=.zE) (nx:=.zE) (tg:=.zE) (e:=A i) (due:=A i) (done:=(j:Int)) (k:=Ã) ğo with z|⟨_,z⟩;rw[z,ï rfl];rfl;exact z
 .have E:(i:Int)≠n:=by omega
  have o:A i≠A n:=λe=>z ((W.inj i hi).mp e)
  obtain⟨r,q,x,y,K,X,R,tx,ty⟩:=W.at_ i Å
  have sd:∀{v:Í},zp r úa=À (.bl v)->zp q úa=À (.bl v)->vQ ēe=À (Â,.bl v)/\vQ Ōf=À (Â,.bl v):=λ{v} O N=>by
   refine⟨?_,?_⟩
   .rcases IE .row (fw:=fw) (fh:=fh) (sd:=xv Ħ a b c Ĩ Ń) (e:=(n:Int)) (due:=(i:Int)) (done:=(j:Int)) (k:=v) (λ_=>⟨X,O⟩)with z|⟨z,_⟩;rw[z,ć E];rfl;exact Û z E
   .rcases IE .word (fw:=fw) (fh:=fh) (sd:=xv Ħ a b c Ĩ Ń) (e:=A n) (due:=A i) (done:=(j:Int)) (k:=v) (λ_=>⟨R,N⟩)with z|⟨z,_⟩;rw[z,ć o];rfl;exact Û z o
  have S:∀{u v:D}{k:Int},wz u=Ã->wz v=Ã->wz (.tup [u,.int k,v])=Ã:=λ{u v k} B C=>by show(wz u&&(Ã&&(wz v&&Ã)))=Ã;rw[B,C];rfl
  have m:∀{g:Á Int}{F I G:Í}{f:Á Ď} {ld:Í} {i':Nat},ug g->vv f->Űa<=ă+4->i'<=n->zp r úa=À û->zp q úa=À û->wz r=Ã->wz q=Ã->pR İm=À ([st ĥh F I G Īh Ħh,.fz r],.fz .zE)->pR [st Ħ a b c Ĩ Ń,.fz q]=À ([st ĥh F I G Īh Ħh,.fz q],.fz .zE)->pS [xv ĥh F I G Īh Ħh,r]=À (Â,.bl ld)->pS [xv ĥh F I G Īh Ħh,q]=À (Â,.bl ld)->(if ld then x else .int łj)=.int (i':Int)->(if ld then y else .int đh)=.int İh->Nx n A T U fw fh Ws a b c ps i j:=λ{g F I G f ld i'} w p l Q O N p1 p2 d1 d2 l1 l2 g1 g2=>by obtain⟨B,C⟩:=sd O N;exact .go w p l Q B C (lR .row E X O (S p1 tx) pE d1 ld (by rw[uV];exact l1) g1) (lR .word o R N (S p2 ty) pE d2 ld (by rw[uV];exact l2) g2)
  cases K with
  |Ś=>obtain⟨B,C⟩:=sd (v:=Ã) rfl rfl;exact J B C
  |Ŷa h=>have t:=x27 h.1 h.2;obtain⟨g,F,I,G,f,H⟩:=t.dr (a:=a) (b:=b) (c:=c) L P hp;exact m (ld:=Â) (i':=i+1) H.w H.p H.l Å t.st t.st t.tp t.tp H.e H.e (t.ld _) (t.ld _) rfl rfl
  |@vZ t p hp'=>exact m (ld:=Ã) (i':=p) L P Å hp' rfl rfl rfl rfl În În rfl rfl rfl rfl|@cond w k t p hw' hk hp'=>
   obtain⟨ld,Z,Y⟩:∃ld:Í,pS [xv Ħ a b c Ĩ Ń,.tup Ún]=À (Â,.bl ld)/\pS [xv Ħ a b c Ĩ Ń,.tup ěe]=À (Â,.bl ld):=by rcases hw' with rfl|rfl<;>rcases hk with rfl|rfl|rfl<;>exact⟨_,rfl,rfl⟩
   have d:pR ĕm=À (ĕm,.fz .zE)/\pR Ôm=À (Ôm,.fz .zE):=by rcases hw' with rfl|rfl;exact⟨U7 (w := Ía) rfl rfl,U7 (w := Ía) rfl rfl⟩;exact⟨U7 (w := ßa) rfl rfl,U7 (w := ßa) rfl rfl⟩
   have s:zp Ĳd úa=À û/\zp Ŵj úa=À û:=by rcases hw' with rfl|rfl<;>exact⟨rfl,rfl⟩
   cases ld with
   |Ã=>exact m (ld:=Ã) (i':=p) L P Å hp' s.1 s.2 rfl rfl d.1 d.2 Z Y rfl rfl|Â=>exact m (ld:=Â) (i':=i+1) L P Å Å s.1 s.2 rfl rfl d.1 d.2 Z Y rfl rfl
inductive As(n:Nat)(A:Nat->Int)(T U fw fh:D)(m:Nat)(Ws:Á Int)(a b c:Í)(ps:Á Ď)(i j:Nat):Prop
 |mk {Ws':Á Int} {a' b' c':Í} {ps':Á Ď} {i' k:Nat} (w:ug Ws') (p:vv ps') (hi:i'<=n) (hk:k<=m) (l:Ĵg<=ă+4*k)
   (e1:jN [yN ú T n fw fh ĭd i j,.fz řc]=À ([yN ú T n fw fh Įd i' (ķq:Int),.fz řc],.fz ôf))
   (e2:jN [yN ù U Ēa fw fh ĭd æb j,.fz řc]=À ([yN ù U Ēa fw fh Įd İh (ķq:Int),.fz řc],.fz ôf)):As n A T U fw fh m Ws a b c ps i j
include W in
theorem y55{m:Nat}(Q:m<=100){Ws:Á Int}{a b c:Í}{ps:Á Ď}{i j:Nat}(q:ug Ws)(P:vv ps)(G:ă<=300)(hi:i<=n):As n A T U fw fh m Ws a b c ps i j:=by
 have C:∀(d k:Nat){Ws:Á Int}{a b c:Í}{ps:Á Ď} {i j:Nat},k+d=m->ug Ws->vv ps->ă+4*d<=800->i<=n->∃g r u t e s z,ug g/\vv e/\s<=n/\z<=d/\e.length<=ă+4*z/\
   pG YZ UQ (d+1) [À (yN ú T n fw fh ĭd i j),À Úc,À Ňd]=À (Οd (yN ú T n fw fh ćm s ((j+z:Nat):Int)))/\
   pG YZ UQ (d+1) [À (yN ù U Ēa fw fh ĭd æb j),À Úc,À Ňd]=À (Οd (yN ù U Ēa fw fh ćm (A s) ((j+z:Nat):Int))):=by
  intro d
  induction d with
  |äa=>
   intro k Ws a b c ps i j y q P G hi;have y:¬ (k:Int)<m:=by omega
   exact⟨Ws,a,b,c,ps,i,0,q,P,hi,êa _,by omega,Mn (iT y),Mn (iT y)⟩
  |åa d ih=>
   intro k Ws a b c ps i j y q P G hi;have h:(k:Int)<m:=by omega
   cases dk W (fw:=fw) (fh:=fh) (a:=a) (b:=b) (c:=c) (j:=j) q P Å hi with
   |no h1 h2 e1 e2=>exact⟨Ws,a,b,c,ps,i,0,q,P,hi,ęa _,by omega,Mn ëp,Mn Ūo⟩|@go g r u t e s w p l o h1 h2 e1 e2=>
    obtain⟨B,I,L,K,F,O,z,J,N,E,H,R,x,v⟩:=ih Œ (a:=r) (b:=u) (c:=t) (j:=j+1) Å w p Å o;refine⟨B,I,L,K,F,O,z+1,J,N,E,by omega,by omega,?_,?_⟩
    .rw[mV ëp (iR rfl),show j+(z+1)=j+1+z by omega,show k+(z+1)=k+1+z by omega];exact x
    .rw[mV Ūo (iR rfl),show j+(z+1)=j+1+z by omega,show k+(z+1)=k+1+z by omega];exact v
 obtain⟨g,r,u,t,e,s,z,w,p,o,H,l,x,v⟩:=C m 0 (j:=j) (a:=a) (b:=b) (c:=c) (Ş m) q P Å hi;rw[Ş]at x v;have f:m+1<=gw:=Ġ (ĥc Q) É;exact .mk w p o H l (iS f x) (iS f v)
#print a
def Da:yR:=
 (xK (Ξc (zT Xn øb))
  (qz (pf Xf (Ρd ħq))))
def VY:FM:=ve 4 5 Da
def z1z(x0 x1 x2 x3:M):VY Ŭd=wX 4 5 Da Ŭd:=rfl
theorem iQ{g:Á Nat->Á Nat}:∀{f R R':Á Nat}{k k':Nat},gB g f R k->gB g f R' k'->R=R'
 |_,_,_,_,_,.stop _,.stop _=>rfl|_,_,_,_,_,.stop e,.go n _ _=>Û e n|_,_,_,_,_,.go n _ _,.stop e=>Û e n|_,_,_,_,_,.go _ _ a,.go _ _ b=>iQ a b
inductive Pz(Z:Á ča):D->D->Prop
 |Ś:Pz Z úa úa
 |Ŷa {r:D} (h:qL r):Pz Z r r
 |vZ {q:Str×Nat} (h:q∈Z):Pz Z (.tup [.str Ëa,.int (q.2:Int)]) Ær
 |ðb {w k:Str} {q:Str×Nat} (hw:w = Ía \/ w = ßa) (hk:k = ăa \/ k = ŋa \/ k = ųa) (h:q∈Z):Pz Z (.tup [.str w,.str k,.int (q.2:Int)]) Ďm
theorem f8{Z:Á ča}:∀{Ï:Á D},(∀r∈Ï,RJ Z qL r)->∃rs,ub (Pz Z) rs Ï
 | [],_=>⟨[],.nil⟩|r::Ï,h=>by
  obtain⟨rs,e⟩:=f8 λr a=>h r ŧg
  cases h r Ŏ with
  |Ŷa z=>exact⟨_,.cons (.plain z) e⟩|Ś=>exact⟨_,.cons .stop e⟩|vZ z=>exact⟨_,.cons (.vZ z) e⟩|ðb hw hk z=>exact⟨_,.cons (.cond hw hk z) e⟩
def fj{Z:Á ča}{Ï e:Á D}{n:Nat}(Y:Vr Z Ï e)(g:∀q∈Z,q.2<=n){x y:D}(h:Pz Z x y):k9 e x y/\kA (n:Int) x:=by
 have d:∀{b:Í}{p:Prop},b=Â->b=Ã->p:=λm f=>by rw[m]at f;cases f
 have i:∀{r:D},qr r->k9 e r r/\kA (n:Int) r:=λ{r} h=>by obtain⟨_,_,_,_,c,_⟩:=Ua h;exact⟨⟨.plain h,rfl,⟨λ_=>rfl,d c⟩,rfl,d c⟩,.inl h⟩
 cases h with
 |Ś=>exact i .stop|Ŷa h=>exact i h.1|@vZ q h=>exact⟨⟨.vZ _,rfl,⟨λz=>d z rfl,λ_=>⟨Ťj,_,q.1,rfl,rfl⟩⟩,rfl,λ_=>⟨q.1,q.2,rfl,Y.pl q h,rfl⟩⟩,.inr (.vZ Å çn)⟩|@cond w k q hw hk h=>
  have j:∀a:D,xy æi=Ã:=λa=>by rcases hw with rfl|rfl<;>rfl
  have l:∀a:D,xI æi=Â:=λa=>by rcases hw with rfl|rfl<;>rfl
  exact⟨⟨.cond _ hw hk,by rw[l,l],⟨λz=>d z (j _),λ_=>⟨ěe,_,q.1,rfl,rfl⟩⟩,by rw[j,j],λ_=>⟨q.1,q.2,rfl,Y.pl q h,rfl⟩⟩,.inr (.cond hw hk Å çn)⟩
def lr{Z:Á ča}{Ï a:Á D}(Y:Vr Z Ï a){q:Str×Nat}(h:q∈Z){r:D}(b:xy r=Ã)(c:Yp r=.str q.1):tT a r=.int (q.2:Int):=by unfold tT;rw[b,c];show(((vK q.1 a).2).map λn:Nat=>ĉ n).getD .zE=_;rw[Y.pl q h];rfl
def x3s{Z:Á ča}{Ï g b:Á D}{zC:Á Nat}(Y:Vr Z Ï g)(E:ub (Pz Z) b Ï)(p:∀q∈Z,q.2<=é)(W:Wr b g zC):QQ é Ïh (.dic (t8 é) (gc Ï řp é)) Ķl:=by
 have z:=W7 E;have T:=W.tb;rw[z]at T;refine⟨λi l=>⟨λe=>T.inj l Ċ e,λe=>by rw[e]⟩,λi l=>?_⟩;have m:i<Ű:=by omega
 obtain⟨y,r,K⟩:=Ol E (Ĕ m);have s:b.getD i .zE=b[i]:=by rw[øa,Ĕ m];rfl
 have n:òc i .zE=y:=by rw[øa,r];rfl
 have u:(řp).getD i .zE=tT g y:=by rw[øa,Ŧ,r];rfl
 have f:=y9e (Ï:=Ï) (tgs:=ĸg (tT g)) l;rw[n,u]at f
 have d:zM Ķl (Β ŀg)=À (ux Ïh (YY b) (Zq b) i):=by show Ā _ _ (.inl ŀg)=_;exact c8 (λi j l o h=>T.inj l o h) l (ux Ïh (YY b) (Zq b)) (ùa é) (Ïd l) λj o=>ða (Ýc o)
 have A:YY b i=bif xy b[i]then Qc b[i]else b[i]:=by unfold YY;rw[s]
 have t:Zq b i=bif xy b[i]then À (qB b[i])else Ä:=by unfold Zq;rw[s]
 unfold ux at d;rw[A,t]at d;generalize b[i]=x at K d;cases K with
 |Ś=>exact⟨_,_,_,_,.stop,f,d,rfl,rfl⟩|Ŷa h=>
  obtain⟨_,_,_,_,c,_⟩:=Ua h.1;have v:tT g y=.zE:=by unfold tT;rw[c]
  rw[c]at d;rw[v]at f;exact⟨_,_,_,_,.plain h,f,d,rfl,rfl⟩
 |@vZ q h=>rw[lr Y h rfl rfl]at f;exact⟨_,_,_,_,.vZ (p q h),f,d,rfl,rfl⟩|@cond w k q hw hk h=>
  have j:∀a:D,xy æi=Ã:=λa=>by rcases hw with rfl|rfl<;>rfl
  rw[lr Y h (j _) rfl]at f;rw[j]at d;exact⟨_,_,_,_,.cond hw hk (p q h),f,d,rfl,rfl⟩
def x6e{ws:Á D}{b a:D}{Ws:Á Int}{ps:Á Ď}(c:Xn Éf=À (Â,b))(d:ŏa=8)(e:∀w∈Ws,0<=w/\w<4294967296)(g:YH [a]=À (Ã,.dic Ĩ Ń)) :VY [.obj ù [] [],.fz ûd,.fz āa,.fz a]=À ([yN ù b Ĉb āa Łd Ïi 0 0,.fz ûd,.fz āa,.fz a],.fz .zE):=by have f:gH (.obj ù [] []) 0 []=.p 0 []:=rfl;rw[z1z];unfold Da;simp only[Ņ,c,f,dX .word d e g]
inductive Am(Z:Á ča)(Ï zF:Á D):Prop
 |mk {T U:D} {A:Nat->Int} {ws ŋb:Á D} {zC:D} (W:QQ é A T U) (hA:A 0=0) (he:A é=Ĉb) (hs:∀i,i<=é->zM àj Ňa=À šg)
   (e1:Vp čr=À (Ã,.lst ws)) (e2:Xh čr=À (Â,zC)) (e3:Xg [.lst zF,zC]=À (Ã,.lst ŋb)) (e4:Xn Éf=À (Â,U)) (hT:T=.dic (t8 é) (gc Ï (ĸg (tT zF)) é)) (hb:∀i:Nat,0<=A i/\A i<=2*i):Am Z Ï zF
def z64{Z:Á ča}{Ï a:Á D}(Y:Vr Z Ï a)(u:∀r∈Ï,RJ Z qL r)(c:∀q∈Z,q.2<=é)(z:é<=60):Am Z Ï a:=by
 obtain⟨b,E⟩:=f8 u;have n:=W7 E
 have f:ub Īf b Êd:=by rw[Y.rw];exact bN (λx y h=>űq.1) E
 have p:∀r∈b,kA (Ű:Int) r:=λr w=>by rw[n];obtain⟨i,j,rfl⟩:=Ėi w;obtain⟨y,_,h⟩:=Ol E (Ĕ j);exact űq.2
 obtain⟨zC,k,R,W,l⟩:=x6k Y.it Y.ln f p Å;obtain⟨o,A,v,_,_,t⟩:=bc Y.it Y.ln f p Å;cases iQ R v;have T:=W.tb;have g:=y99 T;have m:=aC Y.it (zC:=zC) (W7 f).symm Å;have s:=x3s Y E c W;rw[n]at T g m l;exact .mk s rfl T.e (λi j=>DN Å) l t m g rfl (Vy _)
def Pm:FE:=(wA (δ òk))
def Pp:FT:=(tE (e2 xg ųf ī))
def FV:FS:=
 (qc (xw 1 (uq (eL CN õb)) Ĺa Pp Pm))
def Q8:Á D->Æ ä:=FR 1 1 FV
def z39(x0:D):Q8 ð=yH 1 FV ð:=rfl
def DU:FS:=
 (qc (eL W8 (Α (e1 ân ųm))))
def k4:Á D->Æ ä:=FR 1 1 DU
def z1t(x0:D):k4 ð=yH 1 DU ð:=rfl
def Mo:FE:=(e2 zM (e1 (xV [ŀ] Ăb) ŵn) ý)
def DR:FS:=
 (yF (Ηc (xw 1 (uq čh) Ĺa yf Mo)))
def gx:Á D->Æ ä:=FR 1 1 DR
def z1q(x0:D):gx ð=yH 1 DR ð:=rfl
def DS:FS:=
 (qc (uM Q8 (Α (e1 (xV ďr ëa) ųm))))
def gz:Á D->Æ ä:=FR 1 1 DS
def z1r(x0:D):gz ð=yH 1 DS ð:=rfl
def DT:FS:=
 (yF Ìi)
def g_:Á D->Æ ä:=FR 1 1 DT
def z1s(x0:D):g_ ð=yH 1 DT ð:=rfl
def DX:FS:=
 (yF (Λ (xV į ćc)))
def k5:Á D->Æ ä:=FR 1 1 DX
def z1w(x0:D):k5 ð=yH 1 DX ð:=rfl
def F7:FS:=
 (zZ (xR (kq (εa (zT k4 (vg ú ĕa Ă zG)) (zT k4 (vg ù ĕa ý zG))) (kq (εa (zT gx (vg ú ŝc Ă zG)) (zT gx (vg ù ŝc ý zG))) (εa (zT gz (vg ú įa Ă zG)) (zT gz (vg ù įa ý zG)))))
   Ðh
   xq)
  (zZ (xR (kq (εa (μd (vg ú Ŝc Ă zG)) (μd (vg ù Ŝc ý zG))) (εa (eL kF (Α ńm)) (eL kF (Α (zT vQ (vg ù ľb ý zG))))))
   Ðh
   xq)
  (yF (e2 zp (Ρc (zT g_ (vg ú Ób Ă zG))) (zT g_ (vg ù Ób ý zG))))))
def Xk:Á D->Æ ä:=FR 3 3 F7
def z2v(x0 x1 x2:D):Xk ŷ=yH 3 F7 ŷ:=rfl
noncomputable def XC:Á Ď->Int->Int
 | [],_=>0|p::ps,a=>if p.1=a then p.2 else XC ps a
theorem bw{a:Int}:∀{ps:Á Ď},a∈Ÿ (·.1)->Ā Ĩ Ń Ŀb=À őo
 | [],h=>Û h â|p::ps,h=>by show Ā (.inl p.1::kP ps) (.int p.2::vP ps) Ŀb=_;unfold Ā XC;by_cases c:p.1=a;rw[Î (Êa Ìa c),Î c];rw[Ð (λz=>c (èc z)),Ð c];rw[ŝ]at h;exact bw ãm
def z4o{ps:Á Ď}{a:Int}(h:a∈Ÿ (·.1)):zM Łd õf=À őo:=by show(uP õf).bind _=_;exact bw h
def LZ(ps:Á Ď):Á Int:=L2.isort (Ÿ (·.1))
def WT(ps:Á Ď):Á D:=((LZ ps).filter λa=>decide ĵp).map λa=>.tup Én
theorem z6e{ps:Á Ď}{a:Int}(h:a∈LZ ps):a∈Ÿ (·.1):=(Þj (Ÿ (·.1))).mem_iff.mp h
theorem cj:∀(ps:Á Ď),UO Ĩ=À (Ÿ (·.1))
 | []=>rfl|p::ps=>by show(UO Ĩ).bind _=_;rw[cj ps];rfl
def z5p{g:FG}{c:FT}{e:FE}{σ:yE}(p:Int->Í)(v:Int->D){ns:Á Int}(h:∀n∈ns,∃σ1,g Ņk σ=À σ1/\c σ1=À (p n)/\(p n=Ã->e σ1=À (v n))):ye g c e σ êe=À ((ns.filter p).map v):=by
 induction ns with
 |nil=>rfl|đ n ns ih=>
  obtain⟨σ1,e1,e2,b⟩:=h n Ŏ;have a:=ih λm d=>h m ôk
  show ye g c e σ (.int n::wI ns)=_;cases q:p n with
  |Ã=>rw[q]at e2;simp only[ye,e1,Äb,e2,b q,a,Ŝd,q,Ť,ŝ]|Â=>rw[q]at e2;simp only[ye,e1,Äb,e2,a,Ŝd,q,Šb,òa]
theorem z72{i:Int}:xg ôa Ł=À (Ψa (i≠0)):=by
 show À (Ĕc (!(i==0)))=_
 congr 2
 by_cases c:i=0;subst c;rfl;rw[ï c];have:(i==0)=Â:=by simpa using c
 rw[this];rfl
def y2e{ps:Á Ď}:Q8 Èp=À (Ã,.lst âe):=by
 have e1:CN Èp=À (Ε Ŭp):=by show(UO Ĩ).bind _=_;rw[cj];rfl
 have e2:ye Ĺa Pp Pm [À (Â,.dic Ĩ Ń),Ä] Ŭp=À âe:=z5p (λa=>decide ĵp) (λa=>.tup Én) λn c=>by have b:=z4o (z6e c);refine⟨_,rfl,?_,λ_=>?_⟩;unfold Pp;simp only[Ó,b,z72];unfold Pm;simp only[Ó,b]
 rw[z39];unfold FV;simp only[Ó,e1,e2]
section
variable{C:Str}(hC:uK C){T fw fh:D}{e due done:Int}{Ws:Á Int}{a b c:Í}{ps:Á Ď}
include hC
theorem iE:k4 Êi=À (Ã,.lst Ħ):=by have d:W8 Ļg=À āa:=rfl;rw[z1t];unfold DU;simp only[Ó,Qu hC,p_,d]
theorem dL:gx Êi=À (Â,.tup Ĝc):=by
 have e1:ye Ĺa yf Mo [À (Â,xM C T e fw fh ôb due done),Ä] Yj=À Ĝc:=by
  have h:∀m:Str,Mo [À (Â,xM C T e fw fh ôb due done),À (Â,.str m)]=zM Äe (.str m):=λm=>by unfold Mo;simp only[Ó,Qu hC,CS]
  unfold Yj;simp only[ye,yA,yf,Äb,ģi,Ìg,h,P1,x2h,x2i]
 have e2:W9 [.lst Ĝc]=À ŷj:=rfl;rw[z1q];unfold DR gL;simp only[Ó,e1,e2]
theorem dS:gz Êi=À (Ã,.lst âe):=by rw[z1r];unfold DS;simp only[Ó,Qu hC,CQ,y2e]
theorem f7{sd:D}:g_ Ôc=À (Â,.int due):=by rw[z1s];unfold DT;simp only[Ó,Qt hC]
theorem lT{sd:D}:k5 Ôc=À (Â,.int done):=by rw[z1w];unfold DX;simp only[Ó,z14 hC]
#print a
def iz{C m:Str}{T fw fh sd:D}{e due done:Int}(b:m ∉ tI){τ:yE}{a:FE}(h:a τ=À ĸd):vg C m a zG τ=À Ôc:=by unfold vg;rw[h];show(match decide (C=C)&&!(decide ëf)with|Ã=>À Ôc|Â=>Ä)=_;rw[ï rfl,ć b];rfl
def aG{T U fw fh:D}{n i j p g:Int}{Ws:Á Int}{a b c v:Í}{ps:Á Ď}{e:Á D}(z:0<=j)(Z:j<1000)(Y:ug Ws)(O:zM (.lst e) ôa=À åh)(r:vQ ēe=À (Â,.bl v))(s:vQ [xM ù U p fw fh ôb g j]=À (Â,.bl v)) :Xk [xM ú T n fw fh ôb i j,xM ù U p fw fh ôb g j,.lst e]=À (Â,.bl Ã):=by
 have J:xg āa āa=À û:=WU (ģe λd q=>by obtain⟨x,_,rfl⟩:=Ça q;rfl)
 have B:xg ŷj ŷj=À û:=WU rfl
 have N:xg Ĥr Ĥr=À û:=WU (ģe λd q=>by obtain⟨x,_,rfl⟩:=Ça q;rfl)
 have G:kF [.int j]=À êk:=by show(match decide ĥd&&decide (j<100000000000000000000)with|Ã=>_|Â=>_)=_;rw[ï z,ï Å];rfl
 have F:kF [.bl v]=À äj:=rfl;have S:xg êk êk=À û:=WU rfl;have X:xg äj äj=À û:=WU rfl;have K:zp åh åh=À Ō:=WK rfl;obtain⟨R,f⟩:∃R,R=xM ú T n fw fh ôb i j:=⟨_,rfl⟩;obtain⟨V,h⟩:∃V,V=xM ù U p fw fh ôb g j:=⟨_,rfl⟩;have t:∀{m:Str}{τ:yE},m ∉ tI->vg ú m Ă zG (À (Â,R)::τ)=À [R]:=λk=>by rw[f];exact iz k rfl
 have P:∀{m:Str}{y:Æ Sl}{τ:yE},m ∉ tI->vg ù m ý zG (y::À (Â,V)::τ)=À [V]:=λk=>by rw[h];exact iz k rfl
 have H:k4 [R]=À (Ã,.lst Ħ):=f▸iE .row;have A:k4 [V]=À (Ã,.lst Ħ):=h▸iE .word;have w:gx [R]=À (Â,.tup Ĝc):=f▸dL .row;have L:gx [V]=À (Â,.tup Ĝc):=h▸dL .word;have C:gz [R]=À (Ã,.lst âe):=f▸dS .row;have u:gz [V]=À (Ã,.lst âe):=h▸dS .word;have W:k5 [R]=À (Â,.int j):=f▸lT .row;have E:k5 [V]=À (Â,.int j):=h▸lT .word;have Q:g_ [R]=À (Â,.int i):=f▸f7 .row;have I:g_ [V]=À (Â,.int g):=h▸f7 .word;rw[<-f]at r ⊢;rw[<-h]at s ⊢;have l:=λ(m:Str) (k:m ∉ tI) (τ:yE)=>t (τ:=τ) k
 have o:=λ(m:Str) (k:m ∉ tI) (y:Æ Sl) (τ:yE)=>P (y:=y) (τ:=τ) k
 rw[z2v];unfold F7
 simp only[Ó,l ĕa ĥ,l ŝc ĥ,l įa ĥ,l Ŝc ĥ,l ľb ĥ,l Ób ĥ,o ĕa ĥ,o ŝc ĥ,o įa ĥ,o Ŝc ĥ,o ľb ĥ,o Ób ĥ,H,A,w,L,C,u,W,E,Q,I,r,s,J,B,N,G,F,S,X,K,O]
def HM:FA:=(uo ī Îa)
def Mr:FE:=(wA (Ι Ìr (Ξb Ĉh) (Α (e2 UC Ĉh Ře))))
def IQ:FE:=(e2 yW Ĉh (e2 Qo Îa (eL Op (Α (e2 (μa (j<i)) Ĉh đd)))))
def LP:yR:=(WO (P5 (XA (gb (tE ŗl))) (IG (X_ xg (Ob kF (t5 ú Ōb 10 [] uc wU)) (Ob kF (t5 ù Ōb 11 [] uc wU)))))
     ķp
     WP)
def F6:yR:=
 (xK (GH (xf (zT Q3 (Χ Ħc))) (LN 1 2 3))
  (xK (Ξc (zT jO (Χ (eC Ŷb))))
  (xK (vk 5 (xf (e2 xP Ų (eC čk))))
  (xK (vk 6 (xf (e2 xP (e2 ZK Ų (eC čk)) (e2 yW ħq ň))))
  (xK (vk 1 (xf (e2 yW (e2 yW (UA ý ji (qW đd)) (xw 1 HM Ďf yf Mr)) (UA ý (qW đd) ji))))
  (xK (vk 2 (xf (xw 1 (uq ċ) Ďf yf IQ)))
  (xK (vk 7 (xf (uM Vi Ųn)))
  (xK (vk 8 (xf (uM Q7 (Α (zT jO (Ξ ĸj))))))
  (xK (vk 9 (xf (uM Q5 (Α (zT jO (Ξ Ģg))))))
  (xK (vk 10 (Qh ú VW (vE Ċc Ŕm)))
  (xK (vk 11 (Qh ù VY (vE (uM Vp (Α Ċc)) Ŕm)))
  (xK (vk 12 (xf (uM Xg (zA Ċc (Α (zT Xh (zA Ċc zG)))))))
  (xK (LW (uo ī Ŏe) (JI 13)
   LP)
  (xK (vk 14 (xf (e2 xP (e2 ZK Ų (eC Ör)) (eC Ďk))))
  (WR (Oa (X_ zp (t5 ú ũc 10 [] jN řo) (t5 ù ũc 11 [] jN řo)) (jb ŗl)))))))))))))))))
def Sk:FM:=ve 1 15 F6
def z2u(x0:M):Sk ð=wX 1 15 F6 ð:=rfl
def y51{Z b:Á ča}{a:D->Prop}(h:∀q∈Z,∃q'∈b,q'.1=q.1){r:D}(c:RJ Z a r):RJ b a r:=by
 cases c with
 |Ŷa z=>exact .plain z|Ś=>exact .stop|@vZ q z=>obtain⟨q',m,e⟩:=h q z;rw[<-e];exact .vZ m
 |@cond w k q hw hk z=>obtain⟨q',m,e⟩:=h q z;rw[<-e];exact .cond hw hk m
noncomputable def jF(k:Nat):Á D:=(ùa k).map λi:Nat=>.tup [.str şa,.int ((i:Int)%8),.int ((i:Int)*7)]
noncomputable def wl(k a p:Nat):Nat:=if a<p then p+k else p
def y79{o0 o1 o2 o3 o4 b a o7 o8 o9 o10 o11 o12 o13 o14:Æ Sl}{k:Nat}:ye Ďf yf Mr Ĺl (xc k)=À (jF k):=by
 have:=kO (g:=yA 15) (e:=Mr) (σ:=Ĺl) (λd=>match d with|.int i=>.tup [.str şa,.int (i%8),.int (i*7)]|_=>.zE) (ds:=xc k) λd f=>by
  obtain⟨i,_,rfl⟩:=Ça f;refine⟨_,rfl,?_⟩;have c:qT 7=Ã:=by decide
  unfold Mr;simp only[Ó,c,ÿa]
 rw[this];unfold jF xc;rw[Êb];rfl
def y3q{o0 o1 o2 o3 o4 o7 o8 o9 o10 o11 o12 o13 o14:Æ Sl}{k a:Nat}(hk:k<=30){p0 p1 p2:Nat}:ye Ďf yf IQ [o0,o1,o2,o3,o4,À (Â,.int (k:Int)),À (Â,.int (a:Int)),o7,o8,o9,o10,o11,o12,o13,o14,Ä] (wI ďe)=À (wI [(wl k a p0:Nat),(wl k a p1:Nat),(wl k a p2:Nat)]):=by
 have d:∀p:Nat,IQ [o0,o1,o2,o3,o4,À (Â,.int (k:Int)),À (Â,.int (a:Int)),o7,o8,o9,o10,o11,o12,o13,o14,À (Â,.int (p:Int))]=À (.int (wl k a p:Nat)):=λp=>by
  have j:vw (k:Int)<=40:=Fu Å
  have g:∀b:Í,Qo ùg Ór=À (Β łp):=λb=>by
   have i:vw ěc<=40:=by cases b<;>exact Fu É
   show(match decide (vw (k:Int)+vw ěc<=134217728)with|Ã=>À (ĉ łp)|Â=>Ä)=_;rw[ï Å]
  have f:=g (decide ćo);have h:∀b:Í,Op [.bl b]=À Ór:=λ_=>rfl
  have e:(p:Int)+(k:Int)*(if decide ćo then 1 else 0)=(wl k a p:Nat):=by unfold wl;by_cases c:a<p;rw[Î c,Î (ï Å)];omega;rw[Ð c,Ð (by rw[ć Å];decide)];omega
  unfold IQ;simp only[Ó,h,f,âa,e]
 show ye Ďf yf IQ _ [.int (p0:Int),.int (p1:Int),.int (p2:Int)]=_;simp only[ye,yA,yf,Äb,ģi,Ìg,d];rfl
def z74{x:Str}:xg Ņb Ņb=À û:=WU rfl
def b7{m:Str}{F:FM}{f:uI}{T fw fh:D}{e due done:Int}{s:M}{x0 x1 x2 x3 x4 x5 x6 x7 x8 x9:Æ M}{ĵ:yD}(a:m ∉ tI):t5 ú m 10 [] F f őh=(f őh).bind λas=>qy F (.p 10 []::as) őh:=by show(match decide (ú=(ú : Str))&&!(decide ëf)with|Ã=>_|Â=>_)=_;rw[ć a,ï rfl];rfl
def b8{m:Str}{F:FM}{f:uI}{T fw fh:D}{e due done:Int}{s:M}{x0 x1 x2 x3 x4 x5 x6 x7 x8 x9 x10:Æ M}{ĵ:yD}(a:m ∉ tI):t5 ù m 11 [] F f Őh=(f Őh).bind λas=>qy F (.p 11 []::as) Őh:=by show(match decide (ù=(ù : Str))&&!(decide ëf)with|Ã=>_|Â=>_)=_;rw[ć a,ï rfl];rfl
inductive A_(n:Nat)(A:Nat->Int)(T U fw fh:D)(ŋb:Á D)(Ws:Á Int)(a b c:Í)(ps:Á Ď)(i j:Nat):Prop
 |mk {Ws':Á Int} {a' b' c' t:Í} {ps':Á Ď} {i' j':Nat} (w:ug Ws') (p:vv ps') (l:Ĵg<=ă+4) (hi:i'<=n) (hj:j'<=j+1)
   (al:Xk [xM ú T n fw fh ôb i j,xM ù U Ēa fw fh ôb æb j,.lst ŋb]=À (Â,.bl Ã))
   (e1:uc Ťf=À ([yN ú T n fw fh Įd i' (j':Int)],.fz ţc))
   (e2:uc ŋf=À ([yN ù U Ēa fw fh Įd İh (j':Int)],.fz ţc)):A_ n A T U fw fh ŋb Ws a b c ps i j
def ly{n:Nat}{A:Nat->Int}{T U fw fh:D}{d:Á D}(W:QQ n A T U)(f:∀i,i<=n->zM (.lst d) Ňa=À šg){Ws:Á Int}{a b c:Í}{ps:Á Ď}{i j:Nat}(e:ug Ws)(P:vv ps)(g:ă<=800)(hi:i<=n)(h:j<1000):A_ n A T U fw fh d Ws a b c ps i j:=by
 cases dk W (fw:=fw) (fh:=fh) (a:=a) (b:=b) (c:=c) (j:=j) e P g hi with
 |no h1 h2 e1 e2=>exact .mk e P Ĳr hi Ĳr Ĩm e1 e2|go w p l hi' h1 h2 e1 e2=>exact .mk (j':=j+1) w p l hi' Ċ Ĩm e1 e2
inductive DH(d0 d1 d2 d3 d4 d5 d6 d7 d8 d9:D)(n:Nat)(A:Nat->Int)(T U fw fh:D)(ŋb:Á D)(u:Nat)(β:yD):Prop
 |mk (Ws:Á Int) (a b c:Í) (qs:Á Ď) (i j:Nat) (x13:Æ M) (w:ug Ws) (P:vv qs) (l:ér<=6+4*u) (hi:i<=n) (hj:j<=u)
  (e:β=[À (.fz d0),À (.fz d1),À (.fz d2),À (.fz d3),À (.fz d4),À (.fz d5),À (.fz d6),À (.fz d7),À (.fz d8),À (.fz d9),À (yN ú T n fw fh Ĝm (i:Int) (j:Int)),À (yN ù U Ēa fw fh Ĝm æb (j:Int)),À Ŭr,x13,Ä]):DH d0 d1 d2 d3 d4 d5 d6 d7 d8 d9 n A T U fw fh ŋb u β
section
variable{d0 d1 d2 d3 d4 d5 d6 d7 d8 d9:D}{n:Nat}{A:Nat->Int}{T U fw fh:D}{ŋb:Á D}
def z60(W:QQ n A T U)(K:A 0=0)(I:∀i,i<=n->zM àj Ňa=À šg){h:Á Int}(x:ug h){ps:Á Ď}(P:vv ps)(X:ă<=6) :∃β',jA (JI 13) LP ŷk Ăl=À ŧr/\DH d0 d1 d2 d3 d4 d5 d6 d7 d8 d9 n A T U fw fh ŋb 12 β':=by
 have:=dE (g:=JI 13) (b:=LP) (DH d0 d1 d2 d3 d4 d5 d6 d7 d8 d9 n A T U fw fh ŋb) (ds:=xc 12) (β:=Ăl) 0 ⟨h,Â,Â,Â,ps,0,0,Ä,x,P,by omega,ęa _,êa _,by rw[K];rfl⟩ λu d β J B=>by obtain⟨R,a,b,c,O,i,j,G,w,Q,l,z,L,rfl⟩:=B;rw[Ş]at l L ⊢;obtain⟨S,rfl⟩:=IH J;obtain @⟨f,k,s,q,t,e,o,r,E,F,N,p,C,y,e1,e2⟩:=ly W I (fw:=fw) (fh:=fh) (a:=a) (b:=b) (c:=c) w Q Å z (show j<1000 by omega);refine⟨_,[À (.fz d0),À (.fz d1),À (.fz d2),À (.fz d3),À (.fz d4),À (.fz d5),À (.fz d6),À (.fz d7),À (.fz d8),À (.fz d9),À (yN ú T n fw fh Ĉm (o:Int) (r:Int)),À (yN ù U Ēa fw fh Ĉm (A o) (r:Int)),À Ŭr,À (.fz (.int (u:Int))),Ä],rfl,?_,⟨f,k,s,q,e,o,r,_,E,F,by omega,p,by omega,rfl⟩⟩;have v:kF [.bl t]=À (Υb ţc):=rfl;unfold LP;generalize (qC ţc).shown=SS at v;simp only[Ņ,Ob,X_,qw,Wp,uV,y,b7 (m := Ōb) ĥ,b8 (m := Ōb) ĥ,e1,e2,v,z74]
 have H:(ŷk).length=12:=by rw[ç,üb]
 rw[Ş,H]at this;exact this
#print a
def y52:∀ns:Á Int,Ôa<=63->(∀m∈ns,vw m<=1048576)->∃r,Sk Ői=À (r,.fz Ō):=λns hl hb=>by
 obtain⟨I,e1,l0,S⟩:=x6i (pj ns 0);obtain⟨u,e2,P,lp⟩:=y2d (pj ns 1);have c0:=U3 ns (k:=0) É;have c1:=U3 ns (k:=1) É;have c2:=U3 ns (k:=2) É;obtain⟨n,B,v,x,p0,p1,p2,Ï,n1',n12,R,h0,h1,h2,lrows,hr,edr⟩:=z0r ns;have r12:∀τ:yE,uo ī Ŏe τ=À ŷk:=λτ=>gX (n:=12) rfl É
 generalize hNS:Ĕb ĉ=NS at *;generalize hC2:pj ns 2=C2 at *;obtain⟨g,ek,hk⟩:∃g:Nat,C2%31=(g:Int)/\g<=30:=⟨(C2%31).toNat,by omega,by omega⟩;have zl:0<(é:Int)+1:=by omega
 have q0:=Íd Æl (şe zl);have q1:=žc Æl zl;obtain⟨d,ea,ha⟩:∃d:Nat,C2/31%ŀp=(d:Int)/\d<=é:=⟨(C2/31%ŀp).toNat,by omega,by omega⟩;obtain⟨L,em,o⟩:∃L:Nat,C2/500%21=(L:Int)/\L<=20:=⟨(C2/500%21).toNat,by omega,by omega⟩;have sl:(ül).length=g:=by unfold jF;rw[ç,üb]
 have tl:(īi).length=d:=by rw[èa];omega
 have dl:(ďk).length=é-d:=Åb ..
 have g1:Qr žj Ä Ăg=À ĥr:=by show À (Æc (tu Ï Ä Ăg))=_;unfold tu;rw[ķg];show À (Æc ((ßc 0).take (min d é-0)))=_;rw[Ńa ha];rfl
 have g2:Qr žj Ăg Ä=À Òr:=by show À (Æc (tu Ï Ăg Ä))=_;unfold tu;rw[ķg];show À (Æc ((ßc (min d é)).take (é-min d é)))=_;rw[Ńa ha,Äd Å]
 have g3:yW ĥr (Ε ül)=À Ħr:=by show(Φb īi ül)=_;rw[Î Şf]
 have g4:yW Ħr Òr=À (.lst Śp):=by show(Φb (đe) ďk)=_;rw[Î (by rw[í];show _<=16777216;omega)]
 have rg:∀{o0 o1 o2 o3 o4 o6 o7 o8 o9 o10 o11 o12 o13 o14:Æ Sl},HM ĥl=À (xc g):=λ{o0 o1 o2 o3 o4 o6 o7 o8 o9 o10 o11 o12 o13 o14}=>by unfold HM;have:=gX (f:=z6 5) (τ:=ĥl) (n:=(g:Int)) rfl Å;rw[ľ]at this;exact this
 have rl:(Śp).length=n+g:=by rw[í,í];omega
 have y:∀r∈đe++ßc d,RJ Šh qL r:=λr o=>by
  have H:r∈Ï->RJ Šh qL r:=λh=>y51 (λq t=>by rcases Ĺ t with rfl|t;exact⟨(B,wl g d p0),by simp,rfl⟩;rcases Ĺ t with rfl|t;exact⟨(v,wl g d p1),by simp,rfl⟩;cases Ċa t;exact⟨(x,wl g d p2),by simp,rfl⟩) (hr r h)
  rcases ça o with o|o;rcases ça o with o|o;exact H (ſc o);obtain⟨i,N,rfl⟩:=Ça o;have:=Ýc N;exact .plain ⟨.Y7 ĳ Å Å Å Å,nofun⟩;exact H (Ľd o)
 have mv:∀p,p<=n->wl g d p<=n+g:=λp h=>by unfold wl;split<;>omega
 have E:=λ{o0 o1 o2 o3 o4 o7 o8 o9 o10 o11 o12 o13 o14:Æ Sl}=>y3q (o0:=o0) (o1:=o1) (o2:=o2) (o3:=o3) (o4:=o4) (o7:=o7) (o8:=o8) (o9:=o9) (o10:=o10) (o11:=o11) (o12:=o12) (o13:=o13) (o14:=o14) (a:=d) hk (p0:=p0) (p1:=p1) (p2:=p2)
 generalize hR2:đe++ßc d=Ķh at *
 have hZ:∀q∈[(B,wl g d p0),(v,wl g d p1),(x,wl g d p2)],q.2<=rows2.length:=λq t=>by rw[rl];rcases Ĺ t with rfl|t;exact mv _ h0;rcases Ĺ t with rfl|t;exact mv _ h1;cases Ċa t;exact mv _ h2
 obtain⟨zF,ei,Y⟩:=z4m (Z:=Šh) (Ï:=Ķh) (by show[B,v,x].Nodup;simp[R.a,R.b,R.c]) (êa 3) hZ (λr o=>iJ cK (y r o)) Å
 obtain @⟨T,U,A,ws,K,zC,W,hA,he,hs,f1,f2,f3,f4,hT⟩:=z64 Y y hZ Å;generalize hNM:Æc [.str B,.str v,.str x]=NM at *;have ei':Vi [.lst Ķh,.lst (wI Ŋl),NM]=À (Ã,.lst zF):=by rw[<-hNM];exact ei
 obtain⟨t1,t2⟩:=y9d cK y Y;have ri:=y50 t1 t2 (by rw[ç]) Å l0 S Ŷq;rw[<-hT]at ri;have wi:=x6e f4 l0 S Ŷq;rw[<-he]at wi;generalize hPL:wI ďe=PL at *;generalize hPM:wI Ŋl=PM at *;have hfw:∃fw,fw=Æc Ħf:=⟨_,rfl⟩;obtain⟨β',e3,Ws,a,b,c,qs,i,j,x13,w,Q,l,N,hj,rfl⟩:=z60 (d0:=.lst NS) (d1:=.lst Ķh) (d2:=.lst PM) (d3:=NM) (d4:=.int C2) (d5:=.int (g:Int)) (d6:=.int (d:Int)) (d7:=.lst zF) (d8:=.lst Ħf) (d9:=.lst (u.map pD)) (fw:=.lst Ħf) (fh:=.dic ùl ïl) W hA hs ⟨l0,S⟩ P lp;obtain @⟨Ws',a',b',c',qs',i',z,w',Q',hi',hz,l',u1,u2⟩:=y55 W (fw:=.lst Ħf) (fh:=.dic ùl ïl) (m:=L) Å (a:=a) (b:=b) (c:=c) (j:=j) w Q Å N;obtain @⟨_,_,_,_,_,_,_,_,_,_,_,_,_,al,_,_⟩:=ly W hs (fw:=.lst Ħf) (fh:=.dic ùl ïl) (a:=a') (b:=b') (c:=c') (j:=j+z) w' Q' Å hi' Å;have X:ZK ūr čk=À (Β Æl):=rfl;have O:ZK ūr Ör=À (Β (C2/500)):=rfl;have zd:decide (0<(é:Int)+1)=Ã:=ï zl;have ez:zp ïp ïp=À Ō:=WK rfl;have G:∀{C:Str}{T fw fh:D}{e:Int}{s:M}{d0 j0:Int},ŗb Ĵd=Ä:=rfl;have cr:=λ{T fw fh:D} {e due done:Int} {s:M} {x0 x1 x2 x3 x4 x5 x6 x7 x8 x9:Æ M} {ĵ:yD}=>b7 (m := ũc) (F:=jN) (f:=vE (z6 14) wU) (T:=T) (fw:=fw) (fh:=fh) (e:=e) (due:=due) (done:=done) (s:=s) (x0:=x0) (x1:=x1) (x2:=x2) (x3:=x3) (x4:=x4) (x5:=x5) (x6:=x6) (x7:=x7) (x8:=x8) (x9:=x9) (ĵ:=ĵ) ĥ
 have cw:=λ{T fw fh:D} {e due done:Int} {s:M} {x0 x1 x2 x3 x4 x5 x6 x7 x8 x9 x10:Æ M} {ĵ:yD}=>b8 (m := ũc) (F:=jN) (f:=vE (z6 14) wU) (T:=T) (fw:=fw) (fh:=fh) (e:=e) (due:=due) (done:=done) (s:=s) (x0:=x0) (x1:=x1) (x2:=x2) (x3:=x3) (x4:=x4) (x5:=x5) (x6:=x6) (x7:=x7) (x8:=x8) (x9:=x9) (x10:=x10) (ĵ:=ĵ) ĥ
 generalize ((j+z:Nat):Int)=J at *;refine⟨[.fz (.lst NS)],?_⟩;rw[z2u];unfold F6;simp only[Ņ,GH,qw,LN,Oa,X_,edr,c0,c1,c2,X,O,ek,zd,ea,em,UA,qW,ji,g1,g2,g3,g4,rg,y79,E,ei',e1,e2,ri,f1,wi,f2,f3,G,r12,e3,Wp,uV,cr,cw,u1,u2,ez,al,âa,ÿa]
#print L3
local macro_rules
 | `(tactic| ac_rfl)=>`(tactic| exact⟨rfl,rfl,rfl,by decide +kernel,rfl,by decide +kernel,by decide +kernel⟩)
namespace My
open Ī L2 L3
set_option maxHeartbeats 4000000
noncomputable def top(i:Nat):Õ:=PySem.Challenge.pw_markrun_k44_whole_two_machines.main.body.getD i Ĉn
section
variable{P:æ}{w:ß}{K:Ì}{mg:Str->Æ Value}{Ç:Heap}{VO:È}{Xc:È}{VR:È}{VQ:È}{VS:È}{VT:È}{YB:È}{YD:È}{YC:È}{VP:È}
abbrev HT:=æ->ß->Ì->ŕi->Heap->Prop
section
variable{h:Heap}(X:ŕ h)(G:Ţa Ę mg)
abbrev KS:Õ:=top 10
def y6b:zk ák ák (zS KS):=by ac_rfl
variable(kz:mg Úd=Ä)(IV:mg Ūc=Ä)(Ps:mg ēf=Ä)
def Bs:=HD Ģj ák 1 k7
def y0i(a:zQ K Ģj KS):Bs P w K mg Ç:=(ņ).oS P w Ç 0 k7 y6b yO λb=>(Υ (Λa (uv (Jx .bool rfl rfl kz Ps rW Ěa)) (Wo (Κa (Jx .int rfl rfl kz IV ah Ěa)))) Đg (M6 (uS Ge tN ýc Ěa Ľ) (Um (uS Yu tN Ěa (zO ľi) Ľ))))
abbrev Hm:Õ:=top 11
def iY:zk [íe,ųd,ăa,"total"] čp (zS Hm):=by ac_rfl
variable(UF:wT mg "BEYOND" Ĺd)(Ud:∀H,za K H Ĺd Ĺd)
def Bh:=HD ŏk čp 1 VZ
def z9i(a:zQ K ŏk Hm):Bh P w K mg Ç:=(ćb).oS P w Ç 0 VZ iY yO λb=>(zb (yV (i:=3) iY.nd rfl Ü (ς Áo ŏn)) (Δ (wN (zB (zW xX xW Ţ Äj) (Γ (uS JY tN Ŗc (zO Äj) ģf))) Ģb)))
abbrev N6:Õ:=top 12
def ip:zk [íe,ųd,"borrow",śa] ĕn (zS N6):=by ac_rfl
def D5:=HD Ōk ĕn 1 Vl
def y1i(a:zQ K Ōk N6):D5 P w K mg Ç:=(ćb).oS P w Ç 0 Vl ip yO λb=>(zb (yV (i:=3) ip.nd rfl Ü (zW Yv Yt (zW Yv Yt Ĉ Ė) ŏn)) (Υ (yU Yu tN Ŗc ýc Ľ) (Δb (zB (zW xB xA Ţ Äj) Ŧe)) (wN Ŧp Ģb)))
abbrev Kw:Õ:=top 15
def y6l:zk ţi ţi (zS Kw):=by ac_rfl
def D2:=HD Él ţi 1 wZ
def y17(a:zQ K Él Kw):D2 P w K mg Ç:=(ćb).oS P w Ç 0 wZ y6l yO λb=>(Δ (zW Gd UX Âo Ćm))
abbrev Kq:Õ:=top 13
def NQ:zk [ů,Ŏk,"moved","fallen"] āg (zS Kq):=by ac_rfl
variable(je:wT mg Õq Øf)(jn:∀H,za K H Øf Øf)(tz:D2 P w K mg Ç)
def AN:=HD ój āg 2 YL
def y11(a:zQ K ój Kq):AN P w K mg Ç:=(ņ).oS P w Ç 1 YL NQ yO λb=>(zb (yV (i:=2) NQ.nd rfl Ü (zW Zd Zc Ĉ Ė)) (zb (yV (i:=3) NQ.nd rfl Ü (Ξd (zB Į (zB Żf ĭc)))) (Δb (zB (Ηd ır) ñc))))
abbrev Kr:Õ:=top 14
def ik:zk [ů,Ŏk,"fallen"] āg (zS Kr):=by ac_rfl
def AO:=HD Ðj āg 2 YM
def y12(a:zQ K Ðj Kr):AO P w K mg Ç:=(ņ).oS P w Ç 1 YM ik yO λb=>(zb (yV (i:=2) ik.nd rfl Ü (Ξd (Κ (zB (zW Yv Yt Ė zJ) ĭc)))) (Δb (zB Âo ıb)))
abbrev NC:Õ:=top 16
def iu:zk [ů,ıh,Ťd,ņa,"there"] ĺn (zS NC):=by ac_rfl
def D7:=HD ğj ĺn 1 ZC
def y1o(a:zQ K ğj NC):D7 P w K mg Ç:=(ŷq).oS P w Ç 0 ZC iu y56 λb=>(zb (yV (i:=4) iu.nd rfl Ü (zW Zd Zc Ćm Ė)) (Δ (zW eI UX (zW Gd UX Ĉ (M7 x48 x47 Ąa)) (zW Zd Zc Ţ Ė))))
abbrev N1:Õ:=top 17
def im:zk êo ŝg (zS N1):=by ac_rfl
def D4:=HD ēk ŝg 1 YO
def y1d(a:zQ K ēk N1):D4 P w K mg Ç:=(ņ).oS P w Ç 0 YO im yO λb=>(zb (yV (i:=2) im.nd rfl Ü ľi) (Δ (qE (yU Yu tN øi ùc Ľ) Ĉ (zW Yv Yt Ĉ Į))))
abbrev N9:Õ:=top 18
def ir:zk êo ŝg (zS N9):=by ac_rfl
def D6:=HD Ńj ŝg 1 Vm
def y1l(a:zQ K Ńj N9):D6 P w K mg Ç:=(ņ).oS P w Ç 0 Vm ir yO λb=>(zb (yV (i:=2) ir.nd rfl Ü ľi) (zb (Ηa (Λa (yU Yu tN øi (zO (M7 P7 P6 Į)) Ľ) (Wo (yU JY tN øi ùc Ľ)))) (Δ (qE (yU JY tN Ěa ýc Ľ) Ĉ (zW xB xA Ĉ Į)))))
abbrev Hu:Õ:=top 19
def y5r:zk [ů] [ů] (zS Hu):=by ac_rfl
variable(Zt:mg ŧ=Ä)(Qx:wT mg Ùq Ŵg)(Jg:∀H,za K H UI Ŵg)
def Ss:=HD ŋj [ů] 2 Vc
def z9q(a:zQ K ŋj Hu):Ss P w K mg Ç:=(œ).oS P w Ç 1 Vc y5r yO λd=>(Δ (ζb (yq (vy rfl (wx (own:=[ıh]) rfl) (tQ Ûp) (Εa (w8 [ů] [ıh])) ħc (Η (zj tz d rfl (Κ (zB Ė ĭc))))))))
abbrev NG:Õ:=top 20
def y6s:zk Įk Įk (zS NG):=by ac_rfl
variable(Pu:mg "sum"=Ä)(Zu:mg ĺa=Ä)
def D8:=HD Ãk Įk 1 QF
def y1r(a:zQ K Ãk NG):D8 P w K mg Ç:=(œ).oS P w Ç 0 QF y6s yO λd=>(Δ (uu (sP rfl) y1e rfl Pu rh (Ιc (yq (vy rfl (wx (own:=["byte",ıh]) rfl) (MB rfl Zu Ĉ Ûp) (Λc (λC s H c b=>(Ρa (Νa ĸm) (ε (Ρb ĸm))))) ħc (Η (zW Zd Zc Ė èe)))))))
abbrev KP:Õ:=top 79
def y68:zk œc œc (zS KP):=by ac_rfl
def Bp:=HD ŉj œc 1 Ve
def y0f(a:zQ K ŉj KP):Bp P w K mg Ç:=(œ).oS P w Ç 0 Ve y68 yO λb=>(Δ (ωd (zO Ád)))
abbrev KO:Õ:=top 80
def y67:zk œc œc (zS KO):=by ac_rfl
variable(CZ:wT mg "JUMPS" ųg)(Gy:∀H,za K H O_ ųg)
def Bo:=HD Êk œc 1 T_
def y0e(a:zQ K Êk KO):Bo P w K mg Ç:=(œ).oS P w Ç 0 T_ y67 yO λb=>(Δ (uS Ýh WY (zO Ád) (zO (vW CZ Gy rfl)) Ðc))
abbrev N0:Õ:=top 81
def y6o:zk [Š] [Š] (zS N0):=by ac_rfl
variable(J7:Bp P w K mg Ç)
def AX:=HD Æk [Š] 2 qK
def y1c(a:zQ K Æk N0):AX P w K mg Ç:=(œ).oS P w Ç 1 qK y6o yO λd=>(Φ (vy rfl (wx (own:=œc) rfl) Õh (Εa (w8 [Š] œc)) (ηa (Κa (zj J7 d rfl Ůb))) Žn))
abbrev KZ:Õ:=top 82
def Jr:zk [Š,"places",Ób,"item"] [Š] (zS KZ):=by ac_rfl
def AF:=HD Űi [Š] 2 Vh
def y0m(a:zQ K Űi KZ):AF P w K mg Ç:=(œ).oS P w Ç 1 Vh Jr yO λb=>(zb (kj (i:=1) Ņh rfl Ü M8) (zb (yV (i:=2) Ņh rfl Ü zJ) (ν Õh (Μa (yk (i:=3) Ņh rfl Ü)) (ze (xm (uv (zj J7 b rfl ñc)) (ze (MR ņb đf Œd Į)) (ze (lM (i:=2) Ek GY Ņh rfl Ü zJ)))) ĩf)))
abbrev N7:Õ:=top 83
def iq:zk Çp [Š] (zS N7):=by ac_rfl
variable(EB:AF P w K mg Ç)(ZT:AX P w K mg Ç)(E6:Bo P w K mg Ç)
def Ab:=HD òj [Š] 3 jP
def y1j(a:zQ K òj N7):Ab P w K mg Ç:=(œ).oS P w Ç 2 jP iq yO λb=>(zb (yV (i:=1) iq.nd rfl Éb (zj EB b rfl ŧb)) (Φ (vy rfl (wx (own:=[Ħa]) rfl) (tQ Ľi) (γa (Ρb (w8 Çp [Ħa]))) Ōd (Τ (qE (uv (zj E6 b rfl ıb)) (zi ū zh Ė (Βc (M7 P7 P6 zJ))) vM)))))
abbrev KM:Õ:=top 35
def y65:zk [õc] [õc] (zS KM):=by ac_rfl
variable(Qv:wT mg Ŷo İa)(Je:∀H,za K H İa İa)(WF:Bs P w K mg Ç)
def AD:=HD ôj [õc] 2 Tz
def y0c(a:zQ K ôj KM):AD P w K mg Ç:=(œ).oS P w Ç 1 Tz y65 yO λb=>(Δ (zj WF b rfl (Κ Ęn)))
abbrev KU:Õ:=top 34
def y6c:zk [õc] [õc] (zS KU):=by ac_rfl
variable(vH:mg "len"=Ä)(Qw:wT mg Úq Ăa)(Jf:∀H,za K H Ăa Ăa)(E4:AD P w K mg Ç)
def AE:=HD Èk [õc] 3 Q1
def y0j(a:zQ K Èk KU):AE P w K mg Ç:=(œ).oS P w Ç 2 Q1 y6c yO λb=>(Υ (Λa (Κa (Jx .tuple rfl rfl kz Zt OZ Ěa)) (Wo (ο Őe ýc))) Đg (M6 (zj E4 b rfl (Γ Ào)) (Um (zj WF b rfl (zB Ào ėn)))))
abbrev Ht:Õ:=top 33
def NO:zk [įa,ëa,"pair"] [įa] (zS Ht):=by ac_rfl
variable(pH:mg ĝ=Ä)(E8:AE P w K mg Ç)
def Sr:=HD öj [įa] 4 YH
def z9p(a:zQ K öj Ht):Sr P w K mg Ç:=(œ).oS P w Ç 3 YH NO yO λb=>(zb (kj (i:=1) NO.nd rfl Ü M8) (δa án (ze ĩf) (xm Żl Wn wE) (ν Õh (Μa (yk (i:=2) NO.nd rfl Ü)) (zb (Ηa (Κa (zj E8 b rfl ıb))) (zb (Ηa (yU Ýh WY (zO Ñd) (y5d 1) Ðc)) (ze (MR ņb đf Ñd Ñd)))) ĩf)))
abbrev Kv:Õ:=top 36
def y6k:zk [ëa] [ëa] (zS Kv):=by ac_rfl
variable(IW:mg Ŵb=Ä)
def D0:=HD Ňj [ëa] 1 Q8
def y16(a:zQ K Ňj Kv):D0 P w K mg Ç:=(œ).oS P w Ç 0 Q8 y6k yO λb=>(ze (jH (vy rfl (wx (own:=[Ła]) rfl) (tQ (yq (y7e rfl rfl IW ŧb))) (γa (Νa (w8 [ëa] [Ła]))) (Τ (Zp (ο (zO Řf) ýc))) (Τ (wN (χ ïk) Ģb)))))
abbrev Hs:Õ:=top 37
def y5q:zk Èe Èe (zS Hs):=by ac_rfl
def Bj:=HD Ík Èe 1 Vb
def z9o(a:zQ K Ík Hs):Bj P w K mg Ç:=(ņ).oS P w Ç 0 Vb y5q yO λb=>(Δ (y6x ņb Ĉ Ė zJ ⟨rfl,rfl,rfl,rfl⟩))
abbrev Ho:Õ:=top 38
def y5o:zk æk æk (zS Ho):=by ac_rfl
def So:=HD øj æk 2 Va
def z9k(a:zQ K øj Ho):So P w K mg Ç:=(ņ).oS P w Ç 1 Va y5o yO λb=>(ςd (zB Áo (zB zJ Ęn)))
abbrev KJ:Õ:=top 39
def y64:zk [Ła] [Ła] (zS KJ):=by ac_rfl
variable(uA:mg Àc=Ä)(Qz:So P w K mg Ç)
def AB:=HD ģj [Ła] 3 Xj
def y09(a:zQ K ģj KJ):AB P w K mg Ç:=(œ).oS P w Ç 2 Xj y64 yO λd=>(ze (jH (vy rfl ġe ōe (Εa (w8 [Ła] [ņa])) ħc (Η (zj Qz d rfl ėc)))))
abbrev ND:Õ:=top 40
def y6r:zk Èe Èe (zS ND):=by ac_rfl
variable(EY:D8 P w K mg Ç)(J6:AB P w K mg Ç)(J0:Bj P w K mg Ç)
def Af:=HD Äk Èe 4 QC
def y1p(a:zQ K Äk ND):Af P w K mg Ç:=(ņ).oS P w Ç 3 QC y6r yO λb=>(Δ (zj EY b rfl (ι (yq (vy rfl (wx (own:=[íe]) rfl) (tQ àn) (γa (Ρb (w8 [ëa,"address"] [íe]))) Ōd (Τ (zj J0 b rfl (zB Ĉ ıb))))))))
abbrev Ky:Õ:=top 41
def y6n:zk œe œe (zS Ky):=by ac_rfl
def AT:HT:=λP w K mg Ç=>vJ P w K mg Ç ņj œe 2 (xF K Vk)
def y19(a:zQ K ņj Ky):AT P w K mg Ç:=(ćb).oM P w Ç 1 Vk y6n vt λb=>(wd (JQ ņb ű Ė (wH (Ηd ėn))))
abbrev Kz:Õ:=top 42
def NR:zk [ëa,Ła,ů,íe,"byte"] œe (zS Kz):=by ac_rfl
variable(JA:AT P w K mg Ç)(Co:Ss P w K mg Ç)
def AU:HT:=λP w K mg Ç=>vJ P w K mg Ç Ņj œe 4 (xF K Q9)
def y1a(a:zQ K Ņj Kz):AU P w K mg Ç:=(ćb).oM P w Ç 3 Q9 NR vt λb=>(wd (dZ Îc rfl (MB rfl Zu àn (zj Co b rfl ıb)) (z6g (Ρa (yk (i:=3) NR.nd rfl Ü) (ε (yk (i:=4) NR.nd rfl Ü))) rfl rfl É É) (Θa (WS JA b rfl (jg ű (vm Ţ (vm Ąa qU)))))))
abbrev Hk:Õ:=j7 (top 44) 0
def y5m:zk Ŕe Ŕe (zS Hk):=by ac_rfl
variable(XF:mg Ź=Ä)(kH:wT mg "MARKS" Ųg)(kX:∀H,za K H gL Ųg)(w6:vC K [ŀ] ş)(tq:vC K [ŀ] Ăb)(pY:vC K [ŀ] ëa)
def z9g{f:È}{b:Ļ}(d:wj K Ïb Ċo Hk f b):xL P w K mg Ç xC 1 f b Ŕe łr:=Ĭd P w mg Ç 0 VX y5m vt λe=>(xQ (gT ű w6 (GM (NY rfl pH Ůb))) (xQ (gT ű tq (GM (ωb (Γ (Μd (ψb (ιc (w8 ["self","words",ëa] [Đb]))) (wN Ŧp žf)))))) (wd (gT ű pY (GM (y7a rfl XF OX ıb))))))
abbrev K9:Õ:=top 45
def y5y:zk ł ł (zS K9):=by ac_rfl
def Bl:HT:=λP w K mg Ç=>vJ P w K mg Ç Źg ł 1 (xF K Tt)
def y00(a:zQ K Źg K9):Bl P w K mg Ç:=(ņ).oM P w Ç 0 Tt y5y vt λb=>(η (wH ľa))
abbrev Hz:Õ:=top 46
def y5u:zk ł ł (zS Hz):=by ac_rfl
variable(JF:D7 P w K mg Ç)
def Sx:HT:=λP w K mg Ç=>vJ P w K mg Ç Ŏg ł 2 (xF K To)
def z9v(a:zQ K Ŏg Hz):Sx P w K mg Ç:=(ņ).oM P w Ç 1 To y5u vt λb=>(η (kS (zj JF b rfl (zB Źc (zB zJ (zB zJ üg))))))
abbrev Hy:Õ:=top 47
def y5t:zk ł ł (zS Hy):=by ac_rfl
def Bk:HT:=λP w K mg Ç=>vJ P w K mg Ç ŏg ł 1 (xF K Tn)
def z9u(a:zQ K ŏg Hy):Bk P w K mg Ç:=(ņ).oM P w Ç 0 Tn y5t vt λb=>(η (kS Źc))
abbrev N2:Õ:=top 49
def y6p:zk ěi ěi (zS N2):=by ac_rfl
variable(L6:Bh P w K mg Ç)(EV:D5 P w K mg Ç)
def AY:=HD Ēk ěi 2 Xm
def y1f(a:zQ K Ēk N2):AY P w K mg Ç:=(ŷq).oS P w Ç 1 Xm y6p yO λb=>(Βe (Δ (zj L6 b rfl (χ (zB Į Ŧe)))) (Δ (zj L6 b rfl űn)) (zj EV b rfl (χ (zB Į (Γ (M6 Ţ (Um (uS Ěc wn Ěa ñd ģf))))))))
abbrev Kp:Õ:=top 50
def y6i:zk ãk ãk (zS Kp):=by ac_rfl
def AM:HT:=λP w K mg Ç=>vJ P w K mg Ç Çk ãk 2 (xF K Xl)
def y10(a:zQ K Çk Kp):AM P w K mg Ç:=(ņ).oM P w Ç 1 Xl y6i vt λb=>(xQ (Ιb (wH (uS Ěc wn Òb ýc Ľ))) (wd (Ιb (wH (Ωc (χ (zB (zW Yv Yt Żf zJ) ĭc)))))))
abbrev KC:Õ:=top 48
def ic:zk [Ōa,Ħa,Ĕd] ł (zS KC):=by ac_rfl
variable(WG:AM P w K mg Ç)(ES:AY P w K mg Ç)
def A6:HT:=λP w K mg Ç=>vJ P w K mg Ç Ŏc ł 3 (xF K g8)
def y03(a:zQ K Ŏc KC):A6 P w K mg Ç:=(ņ).oM P w Ç 2 g8 ic vt λb=>(xQ (ur (i:=2) ic.nd rfl Ü É (kS (zj ES b rfl (Ζe (zB Źc (Γ (zi ū zh (wf Ĉ tq) yT))))))) (xQ (Ιb (wH Ñd)) (xQ (ηb (vm Ñd qU)) (wd (JO (UV (ο (zO ľa) ñd)) (η (wH Ñd)) JP)))))
abbrev KW:Õ:=top 52
def y6d:zk Ţi Ţi (zS KW):=by ac_rfl
def Bt:=HD ĕk Ţi 1 Vf
def y0k(a:zQ K ĕk KW):Bt P w K mg Ç:=(ćb).oS P w Ç 0 Vf y6d yO λb=>(Βe (Δ (zW Gd UX Ė Į)) (Δ (zW eI UX Ė Į)) (zW y2a UX Ė Į))
abbrev Hx:Õ:=top 51
def ib:zk [Ōa,Ħa,ů] ł (zS Hx):=by ac_rfl
variable(E9:Bt P w K mg Ç)
def Sw:HT:=λP w K mg Ç=>vJ P w K mg Ç Æe ł 3 (xF K YI)
def z9t(a:zQ K Æe Hx):Sw P w K mg Ç:=(ņ).oM P w Ç 2 YI ib vt λb=>(xQ (ur (i:=2) ib.nd rfl Ü É (kS (zj E9 b rfl (Ζe (Γ Źc))))) (xQ (ηb (vm Į qU)) (η Ĵk)))
abbrev K7:Õ:=top 53
def NP:zk [Ōa,Ħa,ů,Ĕd] ł (zS K7):=by ac_rfl
variable(EL:AN P w K mg Ç)(EM:AO P w K mg Ç)
def S_:HT:=λP w K mg Ç=>vJ P w K mg Ç že ł 3 (xF K YJ)
def z9y(a:zQ K že K7):S_ P w K mg Ç:=(ņ).oM P w Ç 2 YJ NP vt λb=>(xQ (ur (i:=2) NP.nd rfl Ü É (kS Źc)) (xQ (ur (i:=3) NP.nd rfl Ü É (wH (qE ôi (zj EL b rfl ŧp) (zj EM b rfl ŧp)))) (xQ (JO (UV (yU Lj Lh (zO Œd) þc Ľ)) (wd (Ιb (wH Œd))) JP) (xQ (ηb (vm Œd qU)) (η (wH Œd))))))
abbrev Hn:Õ:=top 54
def y5n:zk ł ł (zS Hn):=by ac_rfl
def Sn:=HD ùj ł 3 YG
def z9j(a:zQ K ùj Hn):Sn P w K mg Ç:=(ņ).oS P w Ç 2 YG y5n yO λb=>(Δ (zj Qz b rfl (zB (zi ū zh (wf Ĉ w6) ľa) üg)))
abbrev H_:Õ:=top 55
def y5v:zk ł ł (zS H_):=by ac_rfl
variable(ZQ:Sn P w K mg Ç)
def Sy:HT:=λP w K mg Ç=>vJ P w K mg Ç ōg ł 4 (xF K Tr)
def z9w(a:zQ K ōg H_):Sy P w K mg Ç:=(ņ).oM P w Ç 3 Tr y5v vt λb=>(η (kS (zj J0 b rfl Žl)))
abbrev K6:Õ:=top 56
def y5w:zk ł ł (zS K6):=by ac_rfl
variable(EW:Af P w K mg Ç)
def Sz:HT:=λP w K mg Ç=>vJ P w K mg Ç ıg ł 5 (xF K Ts)
def z9x(a:zQ K ıg K6):Sz P w K mg Ç:=(ņ).oM P w Ç 4 Ts y5w vt λb=>(η (kS (zj EW b rfl Žl)))
abbrev KA:Õ:=top 57
def y5z:zk ł ł (zS KA):=by ac_rfl
def A4:HT:=λP w K mg Ç=>vJ P w K mg Ç İg ł 4 (xF K Tu)
def y01(a:zQ K İg KA):A4 P w K mg Ç:=(ņ).oM P w Ç 3 Tu y5z vt λb=>(Θa (WS JA b rfl Ńl))
abbrev KB:Õ:=top 58
def y60:zk ł ł (zS KB):=by ac_rfl
variable(EQ:AU P w K mg Ç)
def A5:HT:=λP w K mg Ç=>vJ P w K mg Ç ęg ł 5 (xF K Tv)
def y02(a:zQ K ęg KB):A5 P w K mg Ç:=(ņ).oM P w Ç 4 Tv y60 vt λb=>(Θa (WS EQ b rfl Ńl))
abbrev K8:Õ:=top 60
def y5x:zk ł ł (zS K8):=by ac_rfl
variable(Ow:wT mg "DEEDS" Ťr)(Og:YQ K w mg VP qN bM)(Cu:Bl P w K mg Ç)(Cq:Sx P w K mg Ç)(Cp:Bk P w K mg Ç)(WE:A6 P w K mg Ç)(J3:Sw P w K mg Ç)(L7:S_ P w K mg Ç)(Cr:Sy P w K mg Ç)(Cs:Sz P w K mg Ç)(Cv:A4 P w K mg Ç)(Cw:A5 P w K mg Ç)
def A3:HT:=λP w K mg Ç=>vJ P w K mg Ç ėk ł 6 (xF K pR)
def z9z(a:zQ K ėk K8):A3 P w K mg Ç:=(ņ).oM P w Ç 5 pR y5x vt λb=>(wd (JO (UV (y86 Ow Og rfl ľa)) (Θa (z6c Ow Og rfl (ģa Cu É (ģa Cq É (ģa Cp É (ģa WE É (ģa WE É (ģa WE É (ģa WE É (ģa WE É (ģa J3 É (ģa J3 É (ģa J3 É (ģa L7 É (ģa L7 É (ģa Cr É (ģa Cs É (ģa Cv É (ģa Cw É vd.nil))))))))))))))))) b ľa (jg ű (vm Ė qU)))) JP))
abbrev Ko:Õ:=top 61
def y6h:zk ł ł (zS Ko):=by ac_rfl
def B_:=HD ōk ł 1 pS
def y0y(a:zQ K ōk Ko):B_ P w K mg Ç:=(ņ).oS P w Ç 0 pS y6h yO λb=>(zb (xm ôi (Δ Ńm) wE) (Υ ôi (Δ (y70 Ńm)) (ωd (zO ľa))))
abbrev Kx:Õ:=top 67
def y6m:zk âk âk (zS Kx):=by ac_rfl
variable(Ce:wT mg ķo Ţr)(HB:tH K w VS Ch Ck)(Cd:wT mg ńp Ł)(HA:∀H,za K H Ł Ł)(j6:wT mg "PLACES" šr)(jC:tH K w VT ul um)
def D3:=HD Ři âk 1 vi
def y18(a:zQ K Ři Kx):D3 P w K mg Ç:=(ņ).oS P w Ç 0 vi y6m yO λb=>(Υ (Φa Òb ñd) (Δb (zB (vW Cd HA rfl) (Γ (pB Ce HB rfl Ĉ)))) (pB j6 jC rfl Ė))
abbrev Ku:Õ:=top 68
def y6j:zk åk åk (zS Ku):=by ac_rfl
def AS:=HD Ġj åk 2 k8
def y15(a:zQ K Ġj Ku):AS P w K mg Ç:=(ņ).oS P w Ç 1 k8 y6j yO λb=>(ςd (Κ (zB ľa üg)))
abbrev NB:Õ:=top 69
def y6q:zk áj áj (zS NB):=by ac_rfl
def Ae:=HD Ïj áj 2 jR
def y1n(a:zQ K Ïj NB):Ae P w K mg Ç:=(ćb).oS P w Ç 1 jR y6q yO λb=>(Δ (zj JF b rfl (zB Ĉ (zB ľa (zB ľa ıb)))))
abbrev KG:Õ:=top 70
def y63:zk [ōa] [ōa] (zS KG):=by ac_rfl
variable(CY:wT mg "FIELDS" ţr)(Gx:tH K w VQ Cg Cj)
def Bm:=HD Ņi [ōa] 1 ud
def y07(a:zQ K Ņi KG):Bm P w K mg Ç:=(œ).oS P w Ç 0 ud y63 yO λd=>(Φ (vy rfl (wx (own:=[Ÿd]) rfl) (tQ (pB CY Gx rfl Ĉ)) (Εa (w8 [ōa] [Ÿd])) (ηa (yU (qZ éh) qX Òb ñd ģf)) Žn))
abbrev KH:Õ:=top 71
def Ug:zk [Ħa,Ŵa,ů,Ÿd,ëa,ņa] ąr (zS KH):=by ac_rfl
variable(En:DM K Xc)(Yk:Ae P w K mg Ç)(J5:Bm P w K mg Ç)(J9:D3 P w K mg Ç)
def AA:=HD õj ąr 3 uG
def y08(a:zQ K õj KH):AA P w K mg Ç:=(ņ).oS P w Ç 2 uG Ug yO λb=>(zb (οc (zB zJ (zB ķe Ůb))) (ν (MB rfl Zu (yq (qF J5 b rfl (Γ Ád))) (y71 Ĉ (Jz zJ) Nc)) (Ζb (yk (i:=3) Ug.nd rfl Ü) (ε (yk (i:=4) Ug.nd rfl Ü))) (zb (yV (i:=5) Ug.nd rfl Ü (qE (yU Ěc wn Ŗc ñd Ľ) (y6y kH kX En rfl Ąa) Ąa)) (ze (οc (zB Į (zB (zj J9 b rfl (zB Ád ñc)) îk))))) (yI Į)))
abbrev Hv:Õ:=top 72
def y5s:zk [ů] [ů] (zS Hv):=by ac_rfl
variable(WH:AS P w K mg Ç)
def Su:=HD Ìk [ů] 3 k6
def z9r(a:zQ K Ìk Hv):Su P w K mg Ç:=(œ).oS P w Ç 2 k6 y5s yO λb=>(Δ (Εc (Κ (Γ ķe))))
abbrev KY:Õ:=top 73
def ig:zk [Ŵa,"found"] [Ŵa] (zS KY):=by ac_rfl
variable(UG:wT mg "CODES" Šr)(Jh:tH K w YB gK gM)(Yg:wT mg Ņp Şr)(Jj:tH K w YD ZP kK)(Yf:wT mg Øq şr)(Ji:tH K w YC ZO kJ)(CD:pV K w YB gK L0)(Qm:pV K w YD ZP L5)(HL:∀H,Þ K H kK L5)(Ql:pV K w YC ZO L4)(HK:∀H,Þ K H kJ L4)
def Bu:=HD űi [Ŵa] 1 Vg
def y0l(a:zQ K űi KY):Bu P w K mg Ç:=(œ).oS P w Ç 0 Vg ig yO λd=>(zb (y83 (i:=1) rfl ig.nd rfl rfl Êm rfl (Nb UG CD rfl É É) Ąl (Γc (pB UG Jh rfl èe)) ųo) (zb (εd (Nb Yg Qm rfl É É) (Γc (pB Yg Jj rfl èe))) (zb (εd (Nb Yf Ql rfl É É) (Γc (pB Yf Ji rfl èe))) (lO 1 (Δ (qE (yU (wp éh) wn Òb ĥp Ľ) vM Œm))))))
abbrev KR:Õ:=top 74
def y6a:zk [Ŵa] [Ŵa] (zS KR):=by ac_rfl
def Br:=HD Ųi [Ŵa] 1 ZB
def y0h(a:zQ K Ųi KR):Br P w K mg Ç:=(œ).oS P w Ç 0 ZB y6a yO λb=>(Αd (yq (lA rfl rfl pH Yg Qm rfl HL É)))
abbrev KN:Õ:=top 75
def y66:zk [Ŵa] [Ŵa] (zS KN):=by ac_rfl
def Bn:=HD Ñj [Ŵa] 1 YK
def y0d(a:zQ K Ñj KN):Bn P w K mg Ç:=(œ).oS P w Ç 0 YK y66 yO λb=>(Αd (yq (lA rfl rfl pH Yf Ql rfl HK É)))
abbrev KL:Õ:=top 77
def ie:zk [ů,ōa,Ÿd,ņa] Đp (zS KL):=by ac_rfl
def AC:=HD Ëk Đp 3 qJ
def y0a(a:zQ K Ëk KL):AC P w K mg Ç:=(ćb).oS P w Ç 2 qJ ie yO λb=>(zb (yV (i:=3) ie.nd rfl Ü (Εc (zB Ĉ (ι (zj J9 b rfl Ũp))))) (Υ (ο ùc ñd) Īr (qE (yU Yu tN Ŗc (zO (Ξa (zO Ěi))) Ľ) (zi ū zh Ěi Ţ) vM)))
abbrev K_:Õ:=top 76
def Ju:zk [ů,Ŵa,ōa,Ħa,"known"] [ů] (zS K_):=by ac_rfl
variable(J1:Su P w K mg Ç)(EA:Bu P w K mg Ç)(C_:AC P w K mg Ç)(J8:Br P w K mg Ç)(ZR:AA P w K mg Ç)
def AW:=HD Ĕk [ů] 4 pT
def y1b(a:zQ K Ĕk K_):AW P w K mg Ç:=(œ).oS P w Ç 3 pT Ju yO λb=>(zb (yV (i:=1) łh rfl Ü (zj J1 b rfl ŧb)) (zb (yV (i:=2) łh rfl Éb (zj EA b rfl Ůb)) (zb Łl (zb (yV (i:=3) łh rfl Ü (ζb (ς (yq (vX ıb ói)) (yq (vy rfl (wx (own:=Ďr) rfl) (tQ (yq (qF J5 b rfl ıb))) (γa (Οb (w8 ["word",Ŵa,ōa,Ħa,"known"] Ďr))) Ōd (Τ (zj C_ b rfl (Κ (zB Į îk))))))))) (δa (yU Ýh WY þc Ŗc Ðc) ďg (yV (i:=4) łh rfl Ü (qE (uv (zj J8 b rfl Ůb)) (zj Yk b rfl (Κ (zB ķe ĭc))) Ĉ)) (Δ (qE (Φa (zO (zj ZR b rfl (zB Ţ Ůb))) Øe) Ţ vM)))))))
abbrev KD:Õ:=top 86
def y61:zk ãj ãj (zS KD):=by ac_rfl
variable(JB:D4 P w K mg Ç)
def A7:=HD Ėk ãj 2 Tx
def y04(a:zQ K Ėk KD):A7 P w K mg Ç:=(ćb).oS P w Ç 1 Tx y61 yO λb=>(Υ (yU JY tN (zO Ěe) Őe Ľ) ďg (θb (Γd (zB (zi ū zh Ĉ Ěe) ęq))))
abbrev N8:Õ:=top 85
def M5:zk [ş,Ła,Ħa,Ŵa,Ób] Ĉr (zS N8):=by ac_rfl
variable(ER:AW P w K mg Ç)(E5:Bn P w K mg Ç)(Cy:A7 P w K mg Ç)
def Ac:=HD Åk Ĉr 5 jQ
def y1k(a:zQ K Åk N8):Ac P w K mg Ç:=(ņ).oS P w Ç 4 jQ M5 yO λb=>(δa (Λa (yU Yu tN Òb ýc Ľ) (Wo (yU JY tN Òb Őe Ľ))) ďg (yV (i:=2) M5.nd rfl Ü (zj ER b rfl ïk)) (zb Łl (zb (yV (i:=3) M5.nd rfl Ü (zj J1 b rfl ïk)) (zb (xm (uv (zj E5 b rfl ñc)) (Δ (zj Cy b rfl (zB Ĉ Ũp))) wE) (Υ (uv (zj J8 b rfl ñc)) (zb (yV (i:=4) M5.nd rfl Ü ķe) (Δ (θb (Γd (zB (Εc (zB Řf (zB Ąa zL))) (zB ſn zL)))))) (θb (zB vM zL)))))))
abbrev NA:Õ:=top 89
def Uj:zk [ş,àa,Ła,Ĕd] [ş] (zS NA):=by ac_rfl
variable(LA:Ac P w K mg Ç)
def Ad:=HD Đk [ş] 6 Vn
def y1m(a:zQ K Đk NA):Ad P w K mg Ç:=(œ).oS P w Ç 5 Vn Uj yO λb=>(zb (kj (i:=1) Uj.nd rfl Ü M8) (zb (yV (i:=2) Uj.nd rfl Ü zJ) (zb ŀl (zb (lN Îc (yU Lj Lh Ŗc þc Ľ) (zb (MR ņb đf Į Ţ) (zb (yV (i:=2) Uj.nd rfl Ü Œd) (ze ŀl)))) (ze ĩf)))))
abbrev Hr:Õ:=top 90
def y5p:zk [àa] [àa] (zS Hr):=by ac_rfl
variable(Pt:mg çb=Ä)
def Bi:=HD Ęk [àa] 1 Tl
def z9n(a:zQ K Ęk Hr):Bi P w K mg Ç:=(œ).oS P w Ç 0 Tl y5p yO λd=>(Δ (y6z rfl rfl Pt (yq (y7d (y7b rfl (wx (own:=[Ĕd]) rfl) (y7j (i:=0) rfl Įl) (Εa (w8 ["table"] [Ĕd])) ħc (Η Œm)) (z0a (z0b 0)))) zJ))
abbrev NE:Õ:=top 87
def Uk:zk [ş,àa,ėb,Ła,Ĕd,đk] [ş] (zS NE):=by ac_rfl
variable(JE:Ad P w K mg Ç)(Cm:Bi P w K mg Ç)
def Ag:=HD ñj [ş] 7 QD
def y1q(a:zQ K ñj NE):Ag P w K mg Ç:=(œ).oS P w Ç 6 QD Uk yO λb=>(zb (yV (i:=1) Ĵf rfl Ü õo) (zb (yV (i:=2) Ĵf rfl Ü (zj Cm b rfl Ůb)) (δa (ο ùc Őe) (ze (yI Į)) (y84 (y82 Îc rfl (y7i (i:=1) rfl Įl) (Ζb (yk (i:=3) Ĵf rfl Ü) (ε (yk (i:=4) Ĵf rfl Ü))) (zb (yV (i:=5) Ĵf rfl Ü ſn) (ze (xm (X6 (lZ (yU Lj Lh Ûh þc Ľ) (lZ (ο Ûh ùc) (y8c (yU (Gf ņb) Gb Ûh Òb Ðc))))) Īr wE)))) (z08 (z09 1))) ďg)))
abbrev N4:Õ:=top 88
def io:zk [ş,"wrong"] [ş] (zS N4):=by ac_rfl
variable(EX:Ag P w K mg Ç)
def AZ:=HD ńj [ş] 8 Xn
def y1g(a:zQ K ńj N4):AZ P w K mg Ç:=(œ).oS P w Ç 7 Xn io yO λb=>(zb (yV (i:=1) io.nd rfl Ü (zj EX b rfl ŧb)) (zb (Ηa (yU Lj Lh Òb þc Ľ)) (Δ õo)))
abbrev Hq:Õ:=top 94
def Uf:zk Ým Žd (zS Hq):=by ac_rfl
def Sq:=HD ĥj Žd 3 Xg
def z9l(a:zQ K ĥj Hq):Sq P w K mg Ç:=(ņ).oS P w Ç 2 Xg Uf yO λc=>(zb (yV (i:=2) ķf rfl Ü (yq (ωb (Γ (yq (vy rfl ġe Ķk (vR (Κb (θc (w8 Ým [ņa]))) rfl) Ĉo (Κb (wN (zB ğd Ŧe) žf)))))))) (zb (kj (i:=4) ķf rfl Ü Æd) (zb (yV (i:=5) ķf rfl Ü zJ) (zb (Zm Îc rfl (Νb (Ξa (zO (zj ZT c rfl ŧb)))) (Μa (yk (i:=3) ķf rfl Ü)) (zb ŧo (ze (lM (i:=5) Ek GY ķf rfl Ü (qE (yU (Wa (zX c)) WY Ŗc ùc Ðc) zJ zJ))))) (zb ŧo (ze (kZ 4)))))))
abbrev KQ:Õ:=top 101
def y69:zk [Üc] [Üc] (zS KQ):=by ac_rfl
variable(Cc:wT mg Ýr üd)(G_:∀H,za K H üd üd)(Ca:wT mg Öq İa)(Gz:∀H,za K H İa İa)
def Bq:=HD Ék [Üc] 1 Q0
def y0g(a:zQ K Ék KQ):Bq P w K mg Ç:=(œ).oS P w Ç 0 Q0 y69 yO λb=>(Δ (iy (uS Wb WZ Ěa þc Ľ) (Um (M6 (uS Ge tN (zO (M7 P7 P6 (vW Ca Gz rfl))) Ěa Ľ) (Um (uS Ge tN Ěa (zO (vW Cc G_ rfl)) Ľ))))))
abbrev Hw:Õ:=top 100
def iZ:zk [Š,Ĳh,"at"] Žd (zS Hw):=by ac_rfl
variable(Wt:mg çc=Ä)(Q_:Sq P w K mg Ç)(JC:Ab P w K mg Ç)
def Sv:=HD ųi Žd 4 Vd
def z9s(a:zQ K ųi Hw):Sv P w K mg Ç:=(ņ).oS P w Ç 3 Vd iZ yO λb=>(zb (yV (i:=2) iZ.nd rfl Éb (yq (qF Q_ b rfl ėc))) (Φ (vy rfl (wx (own:=[ņa,đk]) rfl) ĩm (Λc (Τ (Ρa (ιc źl) (ε (yk (i:=4) (show(źl).Nodup by decide +kernel) rfl Ü))))) Ōd (λC s H d c=>(qE (yU Wb WZ Øe þc Ľ) vM (zW Yv Yt Ñi (zi ū zh Į Ţ)))))))
abbrev Kt:Õ:=top 99
def M4:zk [Š,Ĳh,Òq,"chosen","near"] Žd (zS Kt):=by ac_rfl
variable(J2:Sv P w K mg Ç)(E7:Bq P w K mg Ç)
def AR:=HD ůi Žd 5 YN
def y14(a:zQ K ůi Kt):AR P w K mg Ç:=(ņ).oS P w Ç 4 YN M4 yO λd=>(zb (yV (i:=2) M4.nd rfl Éb (zj J2 d rfl ėc)) (zb (yV (i:=3) M4.nd rfl Éb (yq (ωb (ι (yq (vy rfl ġe Ķk ŋh ħc (Η (wN (zB Ķa Ŧe) žf)))))))) (zb (Nq (i:=4) rfl M4.nd rfl rfl ġe rfl (Νb (uu jc jj rfl vH pZ (uQ ùc uR))) ŋh (ηa (yU (Gf (zX d)) Gb Ûh Ŗc (by with_unfolding_all rfl))) ĳr) (Φ (vy rfl ġe (tQ Ąa) ŋh (ηa (Κa (zj E7 d rfl (ι (zi (zg (zX d)) zh èe Ķa))))) ĳr)))))
abbrev KE:Õ:=top 98
def Jq:zk [Š,Ĳh,"lacking"] [Š] (zS KE):=by ac_rfl
variable(L9:AR P w K mg Ç)
def A8:=HD Ŋj [Š] 6 Xh
def y05(a:zQ K Ŋj KE):A8 P w K mg Ç:=(œ).oS P w Ç 5 Xh Jq yO λb=>(zb (yV (i:=1) Jq.nd rfl Ü (yq Æd)) (zb ŭl (zb (lN Îc (ο ùc ĥp) (zb (yV (i:=1) Jq.nd rfl Ü (yq (y7f rfl IW (ι (zW xB xA Ė Į))))) (ze ŭl))) (ze (yI Ė)))))
abbrev NH:Õ:=top 106
def y6t:zk [Ħa] [Ħa] (zS NH):=by ac_rfl
def Ah:=HD Îj [Ħa] 4 Vo
def y1s(a:zQ K Îj NH):Ah P w K mg Ç:=(œ).oS P w Ç 3 Vo y6t yO λb=>(Δ (μb (pB UG Jh rfl Ád)))
abbrev Ks:Õ:=top 108
def il:zk [Ħa,Üc,Ób] Èf (zS Ks):=by ac_rfl
variable(JD:D6 P w K mg Ç)
def AQ:=HD ġj Èf 4 Vj
def y13(a:zQ K ġj Ks):AQ P w K mg Ç:=(ņ).oS P w Ç 3 Vj il yO λb=>(zb (yV (i:=2) il.nd rfl Ü ķe) (Δ (zj Yk b rfl (zB (μb (pB Yg Jj rfl Ád)) (zB Į (ι (χd (zB Ñd zL))))))))
abbrev KF:Õ:=top 109
def y62:zk Èf Èf (zS KF):=by ac_rfl
def A9:=HD Ĥj Èf 4 Xi
def y06(a:zQ K Ĥj KF):A9 P w K mg Ç:=(ņ).oS P w Ç 3 Xi y62 yO λb=>(Φ (vX (zB (μb (pB Yf Ji rfl Ád)) (Γ (χd ęq))) Ģb))
abbrev NJ:Õ:=top 107
def Ul:zk [Š,Ĳh,Òq,ş,ņa,Ħa] [Š] (zS NJ):=by ac_rfl
variable(J4:A8 P w K mg Ç)(EZ:Ah P w K mg Ç)(Cz:A9 P w K mg Ç)(EN:AQ P w K mg Ç)
def Aj:=HD Âk [Š] 7 Vp
def y1u(a:zQ K Âk NJ):Aj P w K mg Ç:=(œ).oS P w Ç 6 Vp Ul yO λb=>(zb (yV (i:=1) ĳf rfl Ü (zj J4 b rfl ŧb)) (zb (yV (i:=2) ĳf rfl Ü (zj J2 b rfl ėc)) (zb (kj (i:=3) ĳf rfl Ü Æd) (ν (Na rfl Wt Ľi) (Ζb (yk (i:=4) ĳf rfl Ü) (ε (yk (i:=5) ĳf rfl Ü))) (ze (xm (yU Wb WZ (zO Ñi) þc Ľ) (ze (Us ñl (zj EZ b rfl îk))) (ze (xm (yU Ýh WY Øe Òb Ðc) (ze (Np ñl (qF Cz b rfl Ĝn))) (ze (Us ñl (zj EN b rfl Ĝn))))))) (kZ 3)))))
abbrev NI:Õ:=top 64
def y6u:zk [ĕa] [ĕa] (zS NI):=by ac_rfl
variable(Pr:mg "all"=Ä)(Ox:wT mg ċo Ăa)(Lp:∀H,za K H Ăa Ăa)
def Ai:=HD ðj [ĕa] 2 QH
def y1t(a:zQ K ðj NI):Ai P w K mg Ç:=(œ).oS P w Ç 1 QH y6u yO λc=>(δa án (Φ (y7c (vX ĭc ói) Üp)) (Ηa (X6 (X5 Żl (Wo (Τa (xH c) įr Üp))))) (zb (Ηa (Κa (uu (sB rfl) z9m rfl Pr rY (Ιc (yq (vy rfl (wx (own:=[õc]) rfl) Õh (vR (Κb (Νa (w8 [ĕa] [õc]))) rfl) Ĉo (Κb (zj WF c rfl (χ ır))))))))) (Φ (NY rfl pH ŧb))))
abbrev Hg:Õ:=j7 Žb 2
def y5k:zk [Ć] [Ć] (zS Hg):=by ac_rfl
variable(gE:vC K į ūc)(Xx:vC K į àa)(QU:vC K į ėb)
def z9c{f:È}{b:Ļ}(d:wj K ľb Čo Hg f b):xL P w K mg Ç xC 1 f b [Ć] ÿk:=d.oF P w mg Ç 0 vQ y5k yO λa=>(Δ (iy (uS ĺj wn (zO Ğq) (zO (wf Ĉ QU)) Ľ) (Um (uS ĺj wn (zO (zi (zg (zX a)) zh ūl zJ)) (zO Ŋn) Ľ))))
abbrev HY:Õ:=j7 Žb 1
def y5f:zk [Ć] [Ć] (zS HY):=by ac_rfl
variable(jY:vC K į Ōa)(QV:vC K į ĩc)(QW:vC K į Ûc)(Xw:vC K į ćc)(Ep:QJ P w K mg Ç ŀ Ŕe 1 łr)
def z96{f:È}{a:Ļ}(d:wj K Şc Ļo HY f a):xL P w K mg Ç xC 3 f a [Ć] ùk:=Ĭd P w mg Ç 2 pQ y5f vt λb=>(xQ (gT ű jY (GL Ep b rfl (jg (tR ű QW) (jg (tR ű QV) qU)))) (xQ (gT ű gE Żk) (wd (gT ű Xw Żk))))
abbrev Hh:Õ:=j7 Žb 3
def iV:zk [Ć,Ĕd] [Ć] (zS Hh):=by ac_rfl
variable(IL:vj P w K mg Ç ú ľb [Ć] 1 ÿk)(IJ:vj P w K mg Ç ù ľb [Ć] 1 ÿk)(Ct:A3 P w K mg Ç)(EK:B_ P w K mg Ç)
def z9d{f:È}{b:Ļ}(d:wj K Ōb ŵo Hh f b):xL P w K mg Ç xC 7 f b [Ć] øk:=Ĭd P w mg Ç 6 uc iV vt λa=>(xQ (JO (UV (uv (y6w (pC IL a Ĉ) (pC IJ a Ĉ)))) Ŀi JP) (xQ (ur (i:=1) iV.nd rfl Ü É (kS ūl)) (xQ (gS (WS Ct a rfl (jg (tR ű jY) (vm ťf qU)))) (xQ (gT ű gE (kS (qE (uv (zj EK a rfl (zB ĥg (Γ ťf)))) ťf ťf))) (xQ (z6m ű Xw zJ) Ŀi)))))
abbrev Hf:Õ:=j7 Žb 4
def NL:zk [Ć,"most",Ŏk] Ţe (zS Hf):=by ac_rfl
variable(IM:vj P w K mg Ç ú Ōb [Ć] 7 øk)(IK:vj P w K mg Ç ù Ōb [Ć] 7 øk)
def z9b{f:È}{b:Ļ}(d:wj K ũc øp Hf f b):xL P w K mg Ç xC 8 f b Ţe úk:=Ĭd P w mg Ç 7 jN NL vt λa=>(xQ (ur (i:=2) NL.nd rfl Ü É Żk) (xQ (z6o Îc (dg (z6u (UV (yU Yu tN ùc Òb Ľ)) (z6v (z6t (dQ (UT IM a ű) (UT IK a ű)))))) (wd (z6l (i:=2) Ek GY NL.nd rfl Ü É zJ))) (wd (JR Ĵk))))
abbrev He:Õ:=j7 Žb 5
def y5j:zk [Ć] [Ć] (zS He):=by ac_rfl
def z9a{f:È}{a:Ļ}(d:wj K ĕa ın He f a):xL P w K mg Ç xC 1 f a [Ć] āk:=d.oF P w mg Ç 0 k4 y5j yO λb=>(Φ (NY rfl pH (Γ (wf ĥg w6))))
abbrev HZ:Õ:=j7 Žb 6
def y5g:zk [Ć] [Ć] (zS HZ):=by ac_rfl
def z97{f:È}{b:Ļ}(d:wj K ŝc ĺo HZ f b):xL P w K mg Ç xC 1 f b [Ć] ăk:=d.oF P w mg Ç 0 gx y5g yO λe=>(Δ (ζb (Μd (ψb (Νa (w8 ["self"] [Đb]))) (zi (zg (zX e)) zh (wf ĥg tq) Ė))))
abbrev Hb:Õ:=j7 Žb 7
def y5h:zk [Ć] [Ć] (zS Hb):=by ac_rfl
variable(EO:D0 P w K mg Ç)
def z98{f:È}{a:Ļ}(d:wj K įa čo Hb f a):xL P w K mg Ç xC 2 f a [Ć] Ăk:=d.oF P w mg Ç 1 gz y5h yO λb=>(Φ (qF EO b rfl (Γ (wf ĥg pY))))
abbrev Hc:Õ:=j7 Žb 9
def y5i:zk [Ć] [Ć] (zS Hc):=by ac_rfl
def z99{f:È}{a:Ļ}(d:wj K Ób Ĺo Hc f a):xL P w K mg Ç xC 1 f a [Ć] Ąk:=d.oF P w mg Ç 0 g_ y5i yO λb=>(Δ Ğq)
abbrev Hi:Õ:=j7 Žb 10
def y5l:zk [Ć] [Ć] (zS Hi):=by ac_rfl
def z9e{f:È}{a:Ļ}(d:wj K Ŝc ĸo Hi f a):xL P w K mg Ç xC 1 f a [Ć] Āk:=d.oF P w mg Ç 0 k5 y5l yO λb=>(Δ (wf Ĉ Xw))
abbrev HX:Õ:=j7 Žb 0
def y5e:zk ĝe ĝe (zS HX):=by ac_rfl
variable(PN:vj P w K mg Ç ú Şc [Ć] 3 ùk)(P9:vj P w K mg Ç ù Şc [Ć] 3 ùk)(Eb:Ai P w K mg Ç)(Cn:Sr P w K mg Ç)
def z95{f:È}{b:Ļ}(d:wj K Ïb ţn HX f b):xL P w K mg Ç xC 5 f b ĝe ŀr:=Ĭd P w mg Ç 4 Xf y5e vt λa=>(xQ (gT ű Xx (wH Ė)) (xQ (gT ű QU Ĵk) (xQ (gT ű QW (Ιa (qF Eb a rfl ñc))) (xQ (gT ű QV (Ιa (qF Cn a rfl Íf))) (Θa (dQ (UT PN a ű) (UT P9 a ű)))))))
abbrev N5:Õ:=top 104
def Jv:zk [Š,"rows",àa,ņa,đk] [Š] (zS N5):=by ac_rfl
def Aa:=HD ŗi [Š] 4 QB
def y1h(a:zQ K ŗi N5):Aa P w K mg Ç:=(œ).oS P w Ç 3 QB Jv yO λb=>(zb (yV (i:=1) Łh rfl Ü Ľi) (zb (kj (i:=2) Łh rfl Ü M8) (ν ĩm (Ζb (yk (i:=3) Łh rfl Ü) (ε (yk (i:=4) Łh rfl Ü))) (ze (MR ņb òl Ţ (wN (zB (zi ū zh Ė Ţ) (zB (zW xB xA Ţ zJ) Íf)) Íc))) (kZ 2))))
abbrev Hj:Õ:=j7 (top 103) 0
def iW:zk [Ć,Š,ĕa,įa,àa] Òg (zS Hj):=by ac_rfl
variable(IN:OC P w K mg Ç Þr Ïb ĝe 5 ŀr)(EU:Aa P w K mg Ç)
def z9f{f:È}{b:Ļ}(d:wj K Ïb ín Hj f b):xL P w K mg Ç xC 6 f b Òg Ńr:=Ĭd P w mg Ç 5 VW iW vt λa=>(xQ (ur (i:=4) iW.nd rfl Ü É (Ιa (qF EU a rfl Ůb))) (νd (uu sH y0z rfl vH pZ (uQ Øe uR))))
abbrev Hl:Õ:=j7 (top 92) 0
def iX:zk [Ć,ş,ĕa,įa,àa] Óg (zS Hl):=by ac_rfl
variable(ET:AZ P w K mg Ç)
def z9h{f:È}{b:Ļ}(d:wj K Ïb Ñn Hl f b):xL P w K mg Ç xC 9 f b Óg Łr:=Ĭd P w mg Ç 8 VY iX vt λa=>(xQ (ur (i:=4) iX.nd rfl Ü É (wH (zj ET a rfl Ůb))) (νd Įr))
abbrev Ke:Õ:=top 111
def y6f:zk äk äk (zS Ke):=by ac_rfl
def Bw:=HD Ŵi äk 1 jO
def y0q(a:zQ K Ŵi Ke):Bw P w K mg Ç:=(ņ).oS P w Ç 0 jO y6f y53 λb=>(zb (xm (yU Yu tN Òb Őe Ľ) (Δ Řf) wE) (ze (yI zJ)))
abbrev Ki:Õ:=top 112
def ii:zk [ŀa,Ťb,öp] Şg (zS Ki):=by ac_rfl
def Bz:=HD ýj Şg 1 uH
def y0t(a:zQ K ýj Ki):Bz P w K mg Ç:=(ņ).oS P w Ç 0 uH ii yO λb=>(zb (yV (i:=2) ii.nd rfl Ü (Ζ (zW tO Lg (zW xB xA Ĉ đm) zJ))) (ze (yI (Ζ (zW xB xA (ς (zW eF eB Į Į) (zW tO jB zJ Į)) Ė)))))
abbrev Kl:Õ:=top 113
def M3:zk [ŀa,Ťb,"_law_way",öp,Óq] Şg (zS Kl):=by ac_rfl
variable(u3:Bz P w K mg Ç)
def AK:=HD Ħj Şg 2 Q6
def y0w(a:zQ K Ħj Kl):AK P w K mg Ç:=(ņ).oS P w Ç 1 Q6 M3 yO λb=>(zb (yV (i:=2) M3.nd rfl Ü œo) (zb (yV (i:=3) M3.nd rfl Ü ŏh) (zb (yV (i:=4) M3.nd rfl Ü (yq (vX (zB zJ (zB zJ (zB zJ (zB zJ (zB įg (Γ øo)))))) (yZ (zY (zY öi)) É)))) (ze (yI (zi ū zh (zW xB xA Ąa (yq (vX (zB Ên (Γ Ên)) Ģb))) Į))))))
abbrev Km:Õ:=top 114
def y6g:zk [ŀa] [ŀa] (zS Km):=by ac_rfl
variable(EI:AK P w K mg Ç)
def AL:=HD új [ŀa] 3 Q7
def y0x(a:zQ K új Km):AL P w K mg Ç:=(œ).oS P w Ç 2 Q7 y6g yO λd=>(ze (jH (vy rfl ſf ōe (Εa (w8 [ŀa] Ŏq)) ħc (Η (zj EI d rfl ėc)))))
abbrev Kk:Õ:=top 115
def Jt:zk ől [ŀa] (zS Kk):=by ac_rfl
def AJ:=HD ûj [ŀa] 2 Q5
def y0v(a:zQ K ûj Kk):AJ P w K mg Ç:=(œ).oS P w Ç 1 Q5 Jt yO λb=>(zb (kj (i:=1) Ńh rfl Ü Æd) (ν (Νb (νa Şq)) (Μa (yk (i:=2) Ńh rfl Ü)) (zb (yV (i:=3) Ńh rfl Ü (Μb (Κ ůh))) (zb (yV (i:=4) Ńh rfl Ü (Βd (zB įg (zB øo (Γ įg))))) (ze (xm (y87 (yU (Gf ņb) Gb Øe (zO (yq (vy rfl (wx (own:=Ĕp) rfl) Ķk (γa (Οb (w8 ől Ĕp))) (λC s H d c=>uw) (Τ (zi ū zh Ķa zJ))))) Ðc)) (ze (Us đf (wN (zB Ąa (ι (Βd (zB (νa ůh) (zB zJ Şq))))) Ģb))) wE)))) ĩf))
abbrev Kj:Õ:=top 116
def Ui:zk [ŀa,"_law_letters",šf,Ťb,Ôq,"_law_letter"] [ŀa] (zS Kj):=by ac_rfl
def AI:=HD üj [ŀa] 2 Q4
def y0u(a:zQ K üj Kj):AI P w K mg Ç:=(œ).oS P w Ç 1 Q4 Ui yO λb=>(zb (yV (i:=1) ĵf rfl Ü yT) (zb (kj (i:=2) ĵf rfl Ü Æd) (zb (Zm Îc rfl ōe (Μa (yk (i:=3) ĵf rfl Ü)) (zb (yV (i:=4) ĵf rfl Ü (Μb (Κ (Γ (zW xB xA zJ Ţ))))) (zb (yV (i:=5) ĵf rfl Ü (zi ū zh Ė (Ζ (ς (Μb ģr) (zW tO jB zJ Ţ))))) (ze (Us òl (ς (zW xB xA (zW eG eD yT ĭr) Ķa) (zW eG eD yT īr))))))) (zb (xm (Φa (zO öo) ýc) (ze (y85 òl zJ (zi ū zh ōh (Ζ (zW JX JU Ĉ zJ))))) wE) (ze (kZ 2))))))
abbrev Kg:Õ:=top 117
def Js:zk ćl ām (zS Kg):=by ac_rfl
def By:=HD þj ām 1 Vi
def y0s(a:zQ K þj Kg):By P w K mg Ç:=(ćb).oS P w Ç 0 Vi Js yO λd=>(zb (kj (i:=3) ńh rfl Ü Æd) (ν (Νb (zW xB xA įr zJ)) (Μa (yk (i:=4) ńh rfl Éb)) (zb (ID (i:=3) ńh rfl Ü (yq (vy rfl (wx (own:=ŏl) rfl) (MB rfl Zu Į Ė) (Λc (Η (Ρa (Οb ŭp) (ε (θc ŭp))))) (ηa (yU (wp éh) wn (zO ğd) Øe ģf)) (Η (wN (zB yT (zB Ķa zL)) žf))))) (ze (ID (i:=3) ńh rfl Ü (NV Ĉ (Jz Ąa) (Jz (zW xB xA Ąa zJ)))))) (kZ 3)))
abbrev Kc:Õ:=top 118
def kY:zk [ŀa,Ťb,šf,"_law_d","_law_s","_law_n","_law_name",Ôq,Óq] đp (zS Kc):=by ac_rfl
def AG:=HD Ōj đp 2 Q2
def y0p(a:zQ K Ōj Kc):AG P w K mg Ç:=(ćb).oS P w Ç 1 Q2 kY yO λb=>(zb (yV (i:=3) ùe rfl Ü œo) (zb (yV (i:=4) ùe rfl Ü ìk) (zb (yV (i:=5) ùe rfl Ü ŏh) (zb (yV (i:=6) ùe rfl Ü (Βc ìk)) (zb (yV (i:=7) ùe rfl Ü (zi ū zh (yq (vX (zB yT (zB yT (zB yT zL))) Íc)) ìk)) (zb (kj (i:=8) ùe rfl Ü (vX (zB ėm (zB ėm (zB (wN (zB yT (Γ ğd)) Ģb) (zB (ωa (zB Ţ Íf)) Ěq)))) (yZ (zY öi) É))) (zb (Ωb (vX (zB œh (zB œh (zB Ĳl zL))) Íc)) (zb (Ωb (vX (zB (wN (zB (zi ū zh ōh Ĭr) (zB Ţ (zB Ąa (Γ (Ζ (zW JX JU Ķa zJ)))))) (yZ öi É)) Ěq) Ģb)) (zb (Ωb (vX (zB Ĳl (ι (zi ū zh (yq (vX (zB Ŋn (zB (ωa (zB Ţ ñc)) zL)) Ģb)) Ĭr))) Ģb)) (lO 8 (Δ (zi ū zh (z8 8) öo))))))))))))
abbrev Kf:Õ:=top 119
def Uh:zk ăl ůn (zS Kf):=by ac_rfl
variable(ZS:Bw P w K mg Ç)(EG:AI P w K mg Ç)(EC:AG P w K mg Ç)
def AH:=HD ÿj ůn 3 Q3
def y0r(a:zQ K ÿj Kf):AH P w K mg Ç:=(ņ).oS P w Ç 2 Q3 Uh yO λb=>(zb (yV (i:=2) Ķf rfl Éb (zW xB xA zJ (Ζ (χb (zB Ė zL))))) (zb (yV (i:=3) Ķf rfl Éb (χb (Γ Ěe))) (zb (yV (i:=4) Ķf rfl Éb (yq (qF EG b rfl ñc))) (zb (Nq (i:=5) rfl Ķf rfl rfl ſf rfl ōe ęl Ōd (λC s H d c=>(zW xX xW (Μb (zB Ţ (Γ (zW xB xA zJ Ğd)))) (zW xB xA Į zJ)))) (zb (Nq (i:=6) rfl Ķf rfl rfl ſf rfl (gZ rfl uA Į) ęl Ōd (Τ (zj EC b rfl (zB (χb (Γ (zW xB xA Ěe Ğd))) (zB Ğd Íf))))) (Δ (wN (zB ğd (zB Ķa Íf)) Íc)))))))
abbrev Kb:Õ:=top 120
def y6e:zk ũh ũh (zS Kb):=by ac_rfl
variable(Zs:mg Èl=Ä)(PQ:vj P w K mg Ç ú įa [Ć] 2 Ăk)(PP:vj P w K mg Ç ú ŝc [Ć] 1 ăk)(PU:vj P w K mg Ç ú ĕa [Ć] 1 āk)(PY:vj P w K mg Ç ú Ŝc [Ć] 1 Āk)(PR:vj P w K mg Ç ú Ób [Ć] 1 Ąk)(PC:vj P w K mg Ç ù įa [Ć] 2 Ăk)(PB:vj P w K mg Ç ù ŝc [Ć] 1 ăk)(PF:vj P w K mg Ç ù ĕa [Ć] 1 āk)(PJ:vj P w K mg Ç ù Ŝc [Ć] 1 Āk)(PD:vj P w K mg Ç ù Ób [Ć] 1 Ąk)
def Bv:=HD Āj ũh 3 Xk
def y0o(a:zQ K Āj Kb):Bv P w K mg Ç:=(ćb).oS P w Ç 2 Xk y6e yO λb=>(zb (xm (Λa (Τa Ēh (pC PU b Ĉ) (pC PF b Ė)) (X5 (Τa Ēh (pC PP b Ĉ) (pC PB b Ė)) (Wo (Τa Ēh (pC PQ b Ĉ) (pC PC b Ė))))) Đg wE) (Υ (Λa (Εe (pC PY b Ĉ) (pC PJ b Ė)) (Wo (Εe (pC IL b Ĉ) (pC IJ b Ė)))) Đg (uS Ěc wn (zO (Βc (pC PR b Ĉ))) (zO (pC PD b Ė)) Ľ)))
abbrev Wk:Õ:=top 121
def tP:zk ŉh [Þc] (zS Wk):=by ac_rfl
variable(Eo:QJ P w K mg Ç ú Òg 6 Ńr)(Er:QJ P w K mg Ç ù Óg 9 Łr)(PX:vj P w K mg Ç ú ũc Ţe 8 úk)(PH:vj P w K mg Ç ù ũc Ţe 8 úk)(ED:AH P w K mg Ç)(EF:By P w K mg Ç)(EJ:AL P w K mg Ç)(EH:AJ P w K mg Ç)(Ec:Aj P w K mg Ç)(L8:Bv P w K mg Ç)
def y0n{f:È}{g:Ļ}(d:Fun K Ěb Ěb Wk f g):xL P w K mg Ç xC 11 f g [Þc] Āl:=z5n d tP É vt y52 λh A e s H E a=>(xQ (z6k (wH (zj ED a rfl ģr)) (z6f (Zg (n:=3) rfl (ut (yk (i:=1) Ļa rfl Ü) (ut (yk (i:=2) Ļa rfl Ü) (ε (yk (i:=3) Ļa rfl Ü))))) rfl rfl rfl É É É)) (xQ (ur (i:=4) Ļa rfl Ü É (wH ųl)) (xQ (ur (i:=5) Ļa rfl Éb É (wH ĭr)) (xQ (ur (i:=6) Ļa rfl Éb É (wH (zW xX xW Ēm (zW xB xA Įr zJ)))) (xQ (ur (i:=1) Ļa rfl Ü É (wH (ς (zW xB xA (NV Ė Nc (Jz ğd)) (yq (vy rfl ſf (gZ rfl uA Ķa) (εc (w8 ŉh Ŏq)) ħc (λC s H c b=>(ωa (zB (Ζ ćh) (Γ (zW tO Lg ćh zJ)))))))) (NV Ė (Jz ğd) Nc)))) (xQ (z6n (i:=2) rfl Ļa rfl rfl (wx (own:=Ép) rfl) rfl (tQ Į) (εc (w8 ŉh Ép)) ħc (Η (ς ćh (zW eF eB Ķa (y6v sF y0b rfl IV ah (Ιc (uS y21 tN (zO ćh) (zO ğd) ģf))))))) (xQ (ur (i:=7) Ļa rfl Ü É (wH (yq (qF EF a rfl űn)))) (xQ (ur (i:=8) Ļa rfl Ü É (Ιa (qF EJ a rfl İr))) (xQ (ur (i:=9) Ļa rfl Ü É (Ιa (qF EH a rfl İr))) (xQ (ur (i:=10) Ļa rfl Ü É (GL Eo a rfl (vm Ğd œm))) (xQ (ur (i:=11) Ļa rfl Ü É (GL Er a rfl (vm (yq (qF Ec a rfl (Γ Ğd))) œm))) (xQ (ur (i:=12) Ļa rfl Ü É (Ιa (qF Q_ a rfl (zB Ğd (Γ (zj J4 a rfl (zB Ğd zL))))))) (xQ (dZ Îc rfl ōe (z6h (yk (i:=13) Ļa rfl Ü) rfl É) (wd (JO (dg (z6w (UV (Zn (uv Ļl))) (z6x (z6q (qZ (xH a)) qX (dN (U2 a) UY rfl Zs U1 (UT IM a (xG 10))) (dN (U2 a) UY rfl Zs U1 (UT IK a (xG 11))) Ľ)))) Ŀi JP))) (xQ (ur (i:=14) Ļa rfl Ü É (wH īr)) (wd (JR (z6a (z6b ĺj wn (dR PX a (xG 10) Řo) (dR PH a (xG 11) Řo) Ľ) (z6d (kS Ļl)))))))))))))))))))
#print a
#print a
def all_mk{l:Ýk}{w:ß}{K:Ì}{h:Heap}{a:Str->Æ Value}(X:ŕ h)(G:Ţa Ę a)(hfa:a Ěb=À (.ref fa))(a0:zQ K Ģj KS)(a1:zQ K ŏk Hm)(a2:zQ K Ōk N6)(a3:zQ K Él Kw)(a4:zQ K ój Kq)(a5:zQ K Ðj Kr)(a6:zQ K ğj NC)(a7:zQ K ēk N1)(a8:zQ K Ńj N9)(a9:zQ K ŋj Hu)(a10:zQ K Ãk NG)(a11:zQ K ŉj KP)(a12:zQ K Êk KO)(a13:zQ K Æk N0)(a14:zQ K Űi KZ)(a15:zQ K òj N7)(a16:zQ K ôj KM)(a17:zQ K Èk KU)(a18:zQ K öj Ht)(a19:zQ K Ňj Kv)(a20:zQ K Ík Hs)(a21:zQ K øj Ho)(a22:zQ K ģj KJ)(a23:zQ K Äk ND)(a24:zQ K ņj Ky)(a25:zQ K Ņj Kz)(a26:Vt K ŀ Ċo Hk Ŕe)(a27:pU K Źg K9 C)(T:pU K Ŏg Hz u)(Q:pU K ŏg Hy x)(a30:zQ K Ēk N2)(a31:zQ K Çk Kp)(f:pU K Ŏc KC b)(a33:zQ K ĕk KW)(k:pU K Æe Hx c)(F:pU K že K7 j)(a36:zQ K ùj Hn)(R:pU K ōg H_ E)(U:pU K ıg K6 A)(a39:pU K İg KA z)(a40:pU K ęg KB I)(a41:zQ K ėk K8)(a42:zQ K ōk Ko)(a43:zQ K Ři Kx)(a44:zQ K Ġj Ku)(a45:zQ K Ïj NB)(a46:zQ K Ņi KG)(a47:zQ K õj KH)(a48:zQ K Ìk Hv)(a49:zQ K űi KY)(a50:zQ K Ųi KR)(a51:zQ K Ñj KN)(a52:zQ K Ëk KL)(a53:zQ K Ĕk K_)(a54:zQ K Ėk KD)(a55:zQ K Åk N8)(a56:zQ K Đk NA)(a57:zQ K Ęk Hr)(a58:zQ K ñj NE)(a59:zQ K ńj N4)(a60:zQ K ĥj Hq)(a61:zQ K Ék KQ)(a62:zQ K ųi Hw)(a63:zQ K ůi Kt)(a64:zQ K Ŋj KE)(a65:zQ K Îj NH)(a66:zQ K ġj Ks)(a67:zQ K Ĥj KF)(a68:zQ K Âk NJ)(a69:zQ K ðj NI)(a70:jU K ú ù ľb Čo Hg [Ć])(a71:jU K ú ù Şc Ļo HY [Ć])(a72:jU K ú ù Ōb ŵo Hh [Ć])(a73:jU K ú ù ũc øp Hf Ţe)(a74:jU K ú ù ĕa ın He [Ć])(a75:jU K ú ù ŝc ĺo HZ [Ć])(a76:jU K ú ù įa čo Hb [Ć])(a77:jU K ú ù Ób Ĺo Hc [Ć])(a78:jU K ú ù Ŝc ĸo Hi [Ć])(a79:OB K Þr Ïb ţn HX ĝe)(a80:zQ K ŗi N5)(a81:Vt K ú ín Hj Òg)(a82:Vt K ù Ñn Hl Óg)(a83:zQ K Ŵi Ke)(a84:zQ K ýj Ki)(a85:zQ K Ħj Kl)(a86:zQ K új Km)(a87:zQ K ûj Kk)(a88:zQ K üj Kj)(a89:zQ K þj Kg)(a90:zQ K Ōj Kc)(a91:zQ K ÿj Kf)(a92:zQ K Āj Kb)(a93:Ż K Ę Ěb=À (À Ńk))(l93:Àa B=Ou Ěb Wk Z S Y t r q o i p)(c93:źb K i Ěb=Ã)(k93:ďa K Ńk=Ã)(z8t:Gn K Úd)(z8s:Gn K Ūc)(z8p:Gn K ēf)(z91:Gn K ŧ)(z90:Gn K "sum")(z92:Gn K ĺa)(z8u:Gn K "len")(z8v:Gn K ĝ)(z8z:Gn K Ŵb)(z8x:Gn K Àc)(z8q:Gn K Ź)(z8w:Gn K çb)(z8r:Gn K çc)(z8o:Gn K "all")(z8y:Gn K Èl)(Xw:vC K į ćc)(gE:vC K į ūc)(QU:vC K į ėb)(QV:vC K į ĩc)(QW:vC K į Ûc)(L:vC K [ŀ] ëa)(jY:vC K į Ōa)(Xx:vC K į àa)(O:vC K [ŀ] Ăb)(g:vC K [ŀ] ş)(z7e:Gs K "DEEDS" Ťr)(z7t:Dc K w VP [(şa,y9x,.ref C),(àb,x0t,.ref u),(ōb,x15,.ref x),(Ša,x1c,.ref b),(ēb,x1h,.ref b),(Ęb,x1m,.ref b),(Ēb,x1q,.ref b),(ķa,x1u,.ref b),(ěb,x1y,.ref c),(íb,x21,.ref c),(ęb,x04,.ref c),(śa,x07,.ref j),(Ûb,x0a,.ref j),(ßb,x0d,.ref E),(řa,x0g,.ref A),(Řa,x0j,.ref z),(őa,x0m,.ref I)])(z7a:Gs K "BEYOND" (.int 4294967296 y9h))(z7q:Gs K Õq (.int 32 y9n))(z7c:Gs K Ùq Ŵg)(dw:Tq K Ä VO [.int 0 x3w,.int 8 x3z,.int 16 x42,.int 24 x45])(z7h:Gs K "JUMPS" ųg)(d_:Tq K Ä VR [.str Ëa x3x,.str Ía x40,.str ßa x43])(z79:Gs K Ŷo (.int 16 y9g))(z7b:Gs K Úq (.int 8 y9i))(z7i:Gs K "MARKS" Ųg)(e9:Tq K Ä Xc [.str ăa x3y,.str ŋa x41,.str ųa x44])(z7n:Gs K ķo Ţr)(z7v:Dc K w VS [(şa,x01,.int 16 x2z),(àb,x0x,.int 16 x3b),(śa,x19,.int 5 x3f),(Ûb,x1e,.int 5 x3h),(ßb,x1j,.int 8 x3j),(Řa,x1o,.int 8 x3l),(řa,x1s,.int 8 x3n),(őa,x1w,.int 8 x3p)])(z7m:Gs K ńp (.int 0 y9l))(z7o:Gs K "PLACES" šr)(z7w:Dc K w VT [(ōa,x02,.ref S8),("d",x0y,.ref SU),("s",x1a,.ref SZ),(Đb,x1f,.ref Sb),(Üc,x1k,.ref Sd)])(z7y:Tp K S8 [.int 27 x4i,.int 5 x4j])(z8a:Tp K SU [.int 24 x58,.int 3 x5a])(z8e:Tp K SZ [.int 21 x5e,.int 3 x5g])(z8g:Tp K Sb [.int 24 x5i,.int 2 x5k])(z8i:Tp K Sd [.int 0 x5m,.int 5 x5o])(z7g:Gs K "FIELDS" ţr)(z7u:Dc K w VQ [(êh,y9z,.ref S7),(şa,x0v,.ref SR),(àb,x17,.ref SY),(ōb,x1d,.ref Sa),(Ša,x1i,.ref Sc),(ēb,x1n,.ref Se),(Ęb,x1r,.ref Sf),(Ēb,x1v,.ref Sg),(ěb,x1z,.ref Sh),(íb,x22,.ref Si),(ęb,x05,.ref S9),(ķa,x08,.ref SC),(śa,x0b,.ref SD),(Ûb,x0e,.ref SH),(ßb,x0h,.ref SJ),(Řa,x0k,.ref SK),(řa,x0n,.ref SL),(őa,x0p,.ref SM),(Ëa,x0q,.ref SN),(Ía,x0r,.ref SQ),(ßa,x0z,.ref SV),(ôc,x11,.ref SX)])(z7x:Tp K S7 [.str ēh x4h])(z89:Tp K SR [.str "d" x57,.str "n" x59])(z8d:Tp K SY [.str "d" x5d,.str "n" x5f])(z8f:Tp K Sa [.str "d" x5h,.str "s" x5j])(z8h:Tp K Sc [.str "d" x5l,.str "s" x5n])(z8j:Tp K Se [.str "d" x5p,.str "s" x5q])(z8k:Tp K Sf [.str "d" x5r,.str "s" x5s])(z8l:Tp K Sg [.str "d" x5t,.str "s" x5u])(z8m:Tp K Sh [.str "d" x5v,.str "s" x5w])(z8n:Tp K Si [.str "d" x5x,.str "s" x5y])(z7z:Tp K S9 [.str "d" x4k,.str "s" x4l])(z80:Tp K SC [.str "d" x4m,.str "s" x4n])(z81:Tp K SD [.str "d" x4o,.str "n" x4p])(z82:Tp K SH [.str "d" x4q,.str "n" x4r])(z83:Tp K SJ [.str "d" x4s,.str "s" x4t,.str "n" x4u])(z84:Tp K SK [.str "d" x4v,.str "s" x4w,.str "n" x4x])(z85:Tp K SL [.str "d" x4y,.str "s" x4z,.str "n" x50])(z86:Tp K SM [.str "d" x51,.str "s" x52,.str "n" x53])(z87:Tp K SN [.str ēh x54])(z88:Tp K SQ [.str Đb x55,.str ēh x56])(z8b:Tp K SV [.str Đb x5b,.str ēh x5c])(z8c:Tp K SX [])(z7d:Gs K "CODES" Šr)(GU:Dc K w YB [(ôc,y9w,.int 0 x2w),(şa,x0s,.int 1 x38),(àb,x14,.int 2 x3c),(ōb,x1b,.int 3 x3g),(Ša,x1g,.int 4 x3i),(ēb,x1l,.int 5 x3k),(Ęb,x1p,.int 6 x3m),(Ēb,x1t,.int 7 x3o),(ěb,x1x,.int 8 x3q),(íb,x20,.int 9 x3r),(ęb,x03,.int 10 x30),(ķa,x06,.int 11 x31),(śa,x09,.int 12 x32),(Ûb,x0c,.int 13 x33),(ßb,x0f,.int 14 x34),(Řa,x0i,.int 15 x35),(řa,x0l,.int 16 x36),(őa,x0o,.int 17 x37)])(z7k:Gs K Ņp Şr)(GW:Dc K w YD [(Ëa,x00,.int 18 x2y),(Ía,x0w,.int 19 x3a),(ßa,x18,.int 20 x3e)])(z7f:Gs K Øq şr)(GV:Dc K w YC [(Ëa,y9y,.int 21 x2x),(Ía,x0u,.int 22 x39),(ßa,x16,.int 23 x3d)])(z7l:Gs K Ýr (.int 15 y9k))(z7j:Gs K Öq (.int 16 y9j))(z7p:Gs K ċo (.int 8 y9m)): ∃fd:Ļ,(∀(s:Ë)(v:Value),ŉb s fd ⟨[v],[]⟩ [(Þc,v)])/\∀Ç:Heap,ŕ Ç->åe Ę a->xL Ĭ w K a Ç xC 11 fa fd [Þc] Āl:=by
 have e:=hfa.symm.trans (Ďd X G a93);cases e;have kz:=qQ X G z8t;have IV:=qQ X G z8s;have Ps:=qQ X G z8p;have Zt:=qQ X G z91;have Pu:=qQ X G z90;have Zu:=qQ X G z92;have d:=qQ X G z8u;have P:=qQ X G z8v;have IW:=qQ X G z8z;have m:=qQ X G z8x;have XF:=qQ X G z8q;have Pt:=qQ X G z8w;have Wt:=qQ X G z8r;have Pr:=qQ X G z8o;have Zs:=qQ X G z8y;have Ow:=kI X G z7e;have Og:YQ K w a VP qN bM:=z06 (fs:=[C,u,x,b,b,b,b,b,c,c,c,j,j,E,A,z,I]) z7t rfl ĥ rfl (.cons (a27.n X G) (.cons (T.n X G) (.cons (Q.n X G) (.cons Óf (.cons Óf (.cons Óf (.cons Óf (.cons Óf (.cons Ćk (.cons Ćk (.cons Ćk (.cons ŗr (.cons ŗr (.cons (R.n X G) (.cons (U.n X G) (.cons (a39.n X G) (.cons (a40.n X G) .nil)))))))))))))))));have UF:=Yh X G z7a;have Ud:∀H,za K H Ĺd Ĺd:=λ_=>rfl
 have je:=Yh X G z7q;have jn:∀H,za K H Øf Øf:=λ_=>rfl
 have Qx:=kI X G z7c;have x70:=P0 dw;have Jg:∀H,za K H UI Ŵg:=Mb dw rfl;have CZ:=kI X G z7h;have x71:=P0 d_;have Gy:∀H,za K H O_ ųg:=Mb d_ rfl;have Qv:=Yh X G z79;have Je:∀H,za K H İa İa:=λ_=>rfl
 have Qw:=Yh X G z7b;have Jf:∀H,za K H Ăa Ăa:=λ_=>rfl
 have kH:=kI X G z7i;have En:=P0 e9;have kX:∀H,za K H gL Ųg:=Mb e9 rfl;have Ce:=kI X G z7n;have HB:tH K w VS Ch Ck:=Oh z7v rfl ĥ rfl;have Cd:=Yh X G z7m;have HA:∀H,za K H Ł Ł:=λ_=>rfl
 have J:=kI X G z7o;have N:tH K w VT ul um:=bG z7w rfl ĥ rfl λH=>⟨_,_,rfl,vG z7y rfl H,⟨_,_,rfl,vG z8a rfl H,⟨_,_,rfl,vG z8e rfl H,⟨_,_,rfl,vG z8g rfl H,⟨_,_,rfl,vG z8i rfl H,rfl⟩⟩⟩⟩⟩
 have CY:=kI X G z7g;have Gx:tH K w VQ Cg Cj:=bG z7u rfl ĥ rfl λH=>⟨_,_,rfl,vG z7x rfl H,⟨_,_,rfl,vG z89 rfl H,⟨_,_,rfl,vG z8d rfl H,⟨_,_,rfl,vG z8f rfl H,⟨_,_,rfl,vG z8h rfl H,⟨_,_,rfl,vG z8j rfl H,⟨_,_,rfl,vG z8k rfl H,⟨_,_,rfl,vG z8l rfl H,⟨_,_,rfl,vG z8m rfl H,⟨_,_,rfl,vG z8n rfl H,⟨_,_,rfl,vG z7z rfl H,⟨_,_,rfl,vG z80 rfl H,⟨_,_,rfl,vG z81 rfl H,⟨_,_,rfl,vG z82 rfl H,⟨_,_,rfl,vG z83 rfl H,⟨_,_,rfl,vG z84 rfl H,⟨_,_,rfl,vG z85 rfl H,⟨_,_,rfl,vG z86 rfl H,⟨_,_,rfl,vG z87 rfl H,⟨_,_,rfl,vG z88 rfl H,⟨_,_,rfl,vG z8b rfl H,⟨_,_,rfl,vG z8c rfl H,rfl⟩⟩⟩⟩⟩⟩⟩⟩⟩⟩⟩⟩⟩⟩⟩⟩⟩⟩⟩⟩⟩⟩
 have UG:=kI X G z7d;have CD:pV K w YB gK L0:=C3 (ds:=gM) GU rfl ĥ rfl;have y4v:∀H,Þ K H gM L0:=C4 GU rfl;have Jh:tH K w YB gK gM:=Oh GU rfl ĥ rfl;have Yg:=kI X G z7k;have Qm:pV K w YD ZP L5:=C3 (ds:=kK) GW rfl ĥ rfl;have HL:∀H,Þ K H kK L5:=C4 GW rfl;have Jj:tH K w YD ZP kK:=Oh GW rfl ĥ rfl;have Yf:=kI X G z7f;have Ql:pV K w YC ZO L4:=C3 (ds:=kJ) GV rfl ĥ rfl;have HK:∀H,Þ K H kJ L4:=C4 GV rfl;have Ji:tH K w YC ZO kJ:=Oh GV rfl ĥ rfl;have Cc:=Yh X G z7l;have G_:∀H,za K H üd üd:=λ_=>rfl
 have Ca:=Yh X G z7j;have Gz:∀H,za K H İa İa:=λ_=>rfl
 have Ox:=Yh X G z7p;have Lp:∀H,za K H Ăa Ăa:=λ_=>rfl
 have F93:=bm (st:=Wk) l93 c93 k93;refine⟨ěd Ěb Ěb (pq Wk) (vS Wk) (zS Wk) .none t r q o i p,λs v=>.of_eq rfl,λbase _ _=>?_⟩;have WF:Bs Ĭ w K a Ç:=y0i X G kz IV Ps a0;have L6:Bh Ĭ w K a Ç:=z9i X G UF Ud a1;have EV:D5 Ĭ w K a Ç:=y1i X G UF Ud a2;have y:D2 Ĭ w K a Ç:=y17 X G a3;have EL:=y11 X G je jn y a4;have EM:=y12 X G y a5;have JF:D7 Ĭ w K a Ç:=y1o X G a6;have JB:D4 Ĭ w K a Ç:=y1d X G a7;have JD:D6 Ĭ w K a Ç:=y1l X G a8;have Co:=z9q X G y Zt Qx Jg a9;have EY:D8 Ĭ w K a Ç:=y1r X G Qx Jg Pu Zu a10;have J7:Bp Ĭ w K a Ç:=y0f X G a11;have E6:Bo Ĭ w K a Ç:=y0e X G CZ Gy a12;have ZT:=y1c X G J7 a13;have EB:=y0m X G J7 a14;have JC:=y1j X G EB ZT E6 a15;have E4:=y0c X G Qv Je WF a16;have E8:=y0j X G kz Zt WF d Qw Jf E4 a17;have Cn:=z9p X G kz P E8 a18;have EO:D0 Ĭ w K a Ç:=y16 X G IW a19;have J0:Bj Ĭ w K a Ç:=z9o X G a20;have Qz:=z9k X G y Qv Je a21;have J6:=y09 X G m Qz a22;have EW:=y1p X G EY J6 J0 a23;have JA:=y19 X G y Qw Jf a24;have EQ:=y1a X G Zu J6 JA Co a25;have Ep:=a26.hh X G Ĭ w Ç (z9g P XF kH kX g O L);have Cu:Bl Ĭ w K a Ç:=y00 X G g a27.2;have Cq:=z9v X G g JF T.2;have Cp:Bk Ĭ w K a Ç:=z9u X G g Q.2;have ES:=y1f X G L6 EV a30;have WG:=y10 X G je jn y O a31;have WE:=y03 X G g O WG ES f.2;have E9:Bt Ĭ w K a Ç:=y0k X G a33;have J3:=z9t X G g WG E9 k.2;have L7:=z9y X G g O WG EL EM F.2;have ZQ:=z9j X G Qz g a36;have Cr:=z9w X G J0 g L ZQ R.2;have Cs:=z9x X G g L ZQ EW U.2;have Cv:=y01 X G JA g L ZQ a39.2;have Cw:=y02 X G g L ZQ EQ a40.2;have Ct:=z9z X G Ow Og Cu Cq Cp WE J3 L7 Cr Cs Cv Cw a41;have EK:B_ Ĭ w K a Ç:=y0y X G O a42;have J9:D3 Ĭ w K a Ç:=y18 X G Ce HB Cd HA J N a43;have WH:=y15 X G y a44;have Yk:=y1n X G JF a45;have J5:Bm Ĭ w K a Ç:=y07 X G CY Gx a46;have ZR:=y08 X G Zu kH kX J N En Yk J5 J9 a47;have J1:=z9r X G J N WH a48;have EA:Bu Ĭ w K a Ç:=y0l X G UG Jh Yg Jj Yf Ji CD Qm Ql a49;have J8:Br Ĭ w K a Ç:=y0h X G P Yg Qm HL a50;have E5:Bn Ĭ w K a Ç:=y0d X G P Yf Ql HK a51;have C_:=y0a X G d kH kX J9 WH a52;have ER:=y1b X G Zt J N Yk J5 J1 EA C_ J8 ZR a53;have Cy:=y04 X G je jn d JB a54;have LA:=y1k X G d J N WH J1 J8 JB ER E5 Cy a55;have JE:=y1m X G LA a56;have Cm:Bi Ĭ w K a Ç:=z9n X G Pt a57;have EX:=y1q X G d JE Cm a58;have ET:=y1g X G JE EX a59;have Q_:=z9l X G ZT d m XF a60;have E7:Bq Ĭ w K a Ç:=y0g X G Cc G_ Ca Gz a61;have J2:=z9s X G Wt Q_ JC a62;have L9:=y14 X G d m XF J2 E7 a63;have J4:=y05 X G IW L9 a64;have EZ:=y1s X G UG Jh ZR a65;have EN:=y13 X G J N Yk Yg Jj ZR JD a66;have Cz:=y06 X G je jn Yf Ji ZR JD a67;have Ec:=y1u X G ZT Wt J2 J4 EZ Cz EN a68;have Eb:=y1t X G kz je jn WF d P Pr Ox Lp a69;obtain⟨IL,IJ⟩:=a70.hh Ĭ w a Ç (z9c gE Xx QU);obtain⟨PN,P9⟩:=a71.hh Ĭ w a Ç (z96 gE jY QV QW Xw Ep);obtain⟨IM,IK⟩:=a72.hh Ĭ w a Ç (z9d gE Xx jY Xw IL IJ Ct EK);obtain⟨PX,PH⟩:=a73.hh Ĭ w a Ç (z9b IM IK);obtain⟨PU,PF⟩:=a74.hh Ĭ w a Ç (z9a P g jY);obtain⟨PP,PB⟩:=a75.hh Ĭ w a Ç (z97 Zt kH kX O jY);obtain⟨PQ,PC⟩:=a76.hh Ĭ w a Ç (z98 L jY EO);obtain⟨PR,PD⟩:=a77.hh Ĭ w a Ç (z99 gE);obtain⟨PY,PJ⟩:=a78.hh Ĭ w a Ç (z9e Xw);have IN:=a79.hh X G Ĭ w Ç (z95 Xx QU QV QW PN P9 Eb Cn);have EU:=y1h X G ZT Wt JC a80;have Eo:=a81.hh X G Ĭ w Ç (z9f d IN EU);have Er:=a82.hh X G Ĭ w Ç (z9h d IN ET);have ZS:Bw Ĭ w K a Ç:=y0q X G d a83;have u3:Bz Ĭ w K a Ç:=y0t X G a84;have EI:=y0w X G u3 a85;have EJ:=y0x X G m EI a86;have EH:=y0v X G m u3 a87;have EG:=y0u X G m u3 a88;have EF:By Ĭ w K a Ç:=y0s X G Zu d m a89;have EC:=y0p X G u3 a90;have ED:=y0r X G m u3 ZS EG EC a91;have L8:Bv Ĭ w K a Ç:=y0o X G IL IJ Zs PQ PP PU PY PR PC PB PF PJ PD a92;exact y0n IV d m Q_ J4 IM IK ZS Zs Eo Er PX PH ED EF EJ EH Ec L8 F93
def walk{l:Ýk}{q:æ}{b:Á Str}{v:ŕi->Heap->Prop}{i:ß->Heap->Prop}{d:DefRec}{K:ğh->Ì}(t:Ñl=À 63)(e:áo=[])(r:∀(w:ß)(h:Heap),i w h->(Űb).In h)(F:∀(w:ß)(c:Str->Æ Value)(g:È)(h:Heap),(Űb).In h->Ţa Ę c->c d.name=À (.ref g)->
   ∃fd:Ļ,(∀(s:Ë)(u:Value),ŉb s fd ⟨[u],[]⟩ [(Þc,u)])/\∀Ç:Heap,(Űb).In Ç->åe Ę c->xL Ĭ w Űb c Ç xC 11 g fd [Þc] (J_ Űb)) :
  W.WalkO q b v i ăj d [] şm:=
 L3.walkB (n:=63) (k:=11) (x := Þc) (sp:=J_) t É e ⟨rfl,by decide,by decide,rfl⟩ r F λ_ _ a p j m o=>⟨a,p,rfl,o,j,m,λ_=>rfl⟩
#print My
end
open Lean in
local macro_rules|`(universe $x)=>return rb0 (fb0 .missing) (mkNullNode (<-(Array.range' 64 812).mapM λi=>`(def $(mkIdent (.mkSimple s!"tw{(Name.str x.getId s!"o_{i}").hash}")):ident:=Nat)))
namespace PySem.W.Fast
universe PySem.Challenge.cw_markrun_k44_whole_two_machines_holds
def tw13072161584778494357:=Nat
def tw1078842977465433789:=Nat
def tw15105525661056336598:=Nat
def tw16594801250899179773:=Nat
def tw2901475148663115819:=Nat
def tw17130737207906443642:=Nat
def tw1009601195371677150:=Nat
def tw14970314182022237308:=Nat
def tw618091992916956950:=Nat
def tw3967989021044935559:=Nat
def tw15133855752646370605:=Nat
def tw14891450446806108484:=Nat
def tw12767066376275758672:=Nat
def tw5382390282994496691:=Nat
def tw4529216344372727239:=Nat
def tw10773807072144394249:=Nat
def tw3979216800145933243:=Nat
def tw5933613347332813507:=Nat
def tw6887341775897686690:=Nat
def tw10059748892963241148:=Nat
def tw17388173865479622800:=Nat
def tw9992618072129140682:=Nat
def tw17245568551856913913:=Nat
def tw8989839115648457491:=Nat
def tw11054319401757044405:=Nat
def tw7600064862883557459:=Nat
def tw8374610223946760511:=Nat
def tw5025085134491687031:=Nat
def tw14522697792999428207:=Nat
def tw10675975992552245251:=Nat
def tw15730776920710740074:=Nat
def tw12435185324838556828:=Nat
def tw10793496215226625448:=Nat
def tw611591588297924541:=Nat
def tw7171907483699770863:=Nat
def tw16801978992779092894:=Nat
def tw17247664763799559888:=Nat
def tw7681501929420114004:=Nat
end PySem.W.Fast
open PySem PySem.W PyProof.Rows
set_option maxRecDepth 100000 in
set_option maxHeartbeats 0 in
theorem PySem.Challenge.cw_markrun_k44_whole_two_machines_holds : PySem.Challenge.rw_markrun_k44_whole_two_machines.Holds := by
 w_on;o_law;k_head;(case hw=>w_witness2)
 k_fill
 refine My.walk (l:=PySem.Challenge.rw_markrun_k44_whole_two_machines) rfl rfl (λw h Y=>PySem.W.kIn_of Y) ?F
 case F=>
  intro w d e h c G b;refine' My.all_mk c G b ?a0 ?a1 ?a2 ?a3 ?a4 ?a5 ?a6 ?a7 ?a8 ?a9 ?a10 ?a11 ?a12 ?a13 ?a14 ?a15 ?a16 ?a17 ?a18 ?a19 ?a20 ?a21 ?a22 ?a23 ?a24 ?a25 ?a26 ?a27 ?a28 ?a29 ?a30 ?a31 ?a32 ?a33 ?a34 ?a35 ?a36 ?a37 ?a38 ?a39 ?a40 ?a41 ?a42 ?a43 ?a44 ?a45 ?a46 ?a47 ?a48 ?a49 ?a50 ?a51 ?a52 ?a53 ?a54 ?a55 ?a56 ?a57 ?a58 ?a59 ?a60 ?a61 ?a62 ?a63 ?a64 ?a65 ?a66 ?a67 ?a68 ?a69 ?a70 ?a71 ?a72 ?a73 ?a74 ?a75 ?a76 ?a77 ?a78 ?a79 ?a80 ?a81 ?a82 ?a83 ?a84 ?a85 ?a86 ?a87 ?a88 ?a89 ?a90 ?a91 ?a92 ?a93 ?l93 ?c93 ?k93 ?a200 ?a201 ?a202 ?a203 ?a204 ?a205 ?a206 ?a207 ?a208 ?a209 ?a210 ?a211 ?a212 ?a213 ?a214 ?a215 ?a216 ?a217 ?a218 ?a219 ?a220 ?a221 ?a222 ?a223 ?a224 ?a225 ?a226 ?a227 ?a228 ?a229 ?a230 ?a231 ?a232 ?a233 ?a234 ?a235 ?a236 ?a237 ?a238 ?a239 ?a240 ?a241 ?a242 ?a243 ?a244 ?a245 ?a246 ?a247 ?a248 ?a249 ?a250 ?a251 ?a252 ?a253 ?a254 ?a255 ?a256 ?a257 ?a258 ?a259 ?a260 ?a261 ?a262 ?a263 ?a264 ?a265 ?a266 ?a267 ?a268 ?a269 ?a270 ?a271 ?a272 ?a273 ?a274 ?a275 ?a276 ?a277 ?a278 ?a279
  all_goals try first|exact L3.fnp_mk (by k_is) (by k_is) (by k_is) (by k_is)|exact L3.gn_mk (by k_is)|exact L3.gs_mk (by k_is)|exact L3.dc_mk (by simp only[List.map_cons,List.map_nil];k_is) (by decide)|exact L3.tp_mk (by k_is)|exact L3.tq_mk (by k_is)|exact L3.fnq_mk (by k_is) (by k_is) (by k_is) (by k_is)|exact L3.mtp_mk (L3.mtc_mk (by k_is) (L3.cls_mk (by k_is) (by k_is) (by k_is) (by k_is)) (by k_is)) (L3.mtc_mk (by k_is) (L3.cls_mk (by k_is) (by k_is) (by k_is) (by k_is)) (by k_is)) (L3.mdp_mk (by k_is) (by k_is) (by k_is) (by k_is) (by first|exact .all (L3.us1 λ_=>rfl)|exact .all (L3.us2 λ_ _=>rfl)|exact .all (L3.us3 λ_ _ _=>rfl)|exact .all (L3.us4 λ_ _ _ _=>rfl)|exact .all (L3.us5 λ_ _ _ _ _=>rfl)|(refine L3.bd2 λ_ _ _ a=>?_;apply PySem.W.binds_K a rfl;k_is;all_goals rfl)|(refine L3.bd4 λ_ _ _ _ _ a=>?_;apply PySem.W.binds_K a rfl;k_is;all_goals rfl)))|exact L3.mkp_mk (by k_is) (by k_is) (by k_is) (by k_is) (L3.mdp_mk (by k_is) (by k_is) (by k_is) (by k_is) (by first|exact .all (L3.us1 λ_=>rfl)|exact .all (L3.us2 λ_ _=>rfl)|exact .all (L3.us3 λ_ _ _=>rfl)|exact .all (L3.us4 λ_ _ _ _=>rfl)|exact .all (L3.us5 λ_ _ _ _ _=>rfl)|(refine L3.bd2 λ_ _ _ a=>?_;apply PySem.W.binds_K a rfl;k_is;all_goals rfl)|(refine L3.bd4 λ_ _ _ _ _ a=>?_;apply PySem.W.binds_K a rfl;k_is;all_goals rfl)))|exact L3.cmp_mk (by k_is) (by k_is) (by k_is) (by k_is) (L3.mdp_mk (by k_is) (by k_is) (by k_is) (by k_is) (by first|exact .all (L3.us1 λ_=>rfl)|exact .all (L3.us2 λ_ _=>rfl)|exact .all (L3.us3 λ_ _ _=>rfl)|exact .all (L3.us4 λ_ _ _ _=>rfl)|exact .all (L3.us5 λ_ _ _ _ _=>rfl)|(refine L3.bd2 λ_ _ _ a=>?_;apply PySem.W.binds_K a rfl;k_is;all_goals rfl)|(refine L3.bd4 λ_ _ _ _ _ a=>?_;apply PySem.W.binds_K a rfl;k_is;all_goals rfl)))|exact L3.fldk_cons (by k_is) (L3.cls_mk (by k_is) (by k_is) (by k_is) (by k_is)) (by k_is) L3.fldk_nil|exact L3.fldk_cons (by k_is) (L3.cls_mk (by k_is) (by k_is) (by k_is) (by k_is)) (by k_is) (L3.fldk_cons (by k_is) (L3.cls_mk (by k_is) (by k_is) (by k_is) (by k_is)) (by k_is) L3.fldk_nil)|exact L3.mkd_mk (by k_is) (by k_is) (by k_is) (by k_is) (by k_is) (by k_is) (by k_is) (by k_is) (by(refine L3.bd3 λ_ _ _ _ a=>?_;apply PySem.W.binds_K a rfl;k_is;all_goals rfl))|exact L3.mtd_mk (L3.mtc_mk (by k_is) (L3.cls_mk (by k_is) (by k_is) (by k_is) (by k_is)) (by k_is)) (L3.mtc_mk (by k_is) (L3.cls_mk (by k_is) (by k_is) (by k_is) (by k_is)) (by k_is)) (by k_is) (by k_is) (by k_is) (by k_is) (by(refine L3.bd2 λ_ _ _ a=>?_;apply PySem.W.binds_K a rfl;k_is;all_goals rfl)) (by(apply Exists.intro;apply L3.bd1;intro _ _ a;apply PySem.W.binds_K a rfl;k_is;all_goals rfl))
  all_goals try (first|k_is|k_exc|kit_is|kts_exm)
  all_goals decide
