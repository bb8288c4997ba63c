import PyProof.Rows.All
import Wide.All
import OpenK.AllK
import Wide.FinOn
import Lean
import PyProof.EqAt
import PyProof.EqKinds
import PyProof.TupleCall
import PySem.Challenge.RW_markrun_k51_whole_unneeded
set_option Elab.async false
set_option linter.all false
set_option maxRecDepth 100000
set_option compiler.extract_closed false
set_option bootstrap.genMatcherCode false
open Lean in
local macro_rules|`(mutual $c:command $cs*end)=>do
 unless c.raw.isOfKind ``Parser.Command.check do Macro.throwUnsupported
 let ix:String→Syntax→Nat:=λl s=>match s with
  |.ident _ _ (.str .anonymous x) _=>if x.length<3&&l.contains x.front then l.toList.idxOf x.front+if x.length=1 then 0 else l.length*(x.back.toNat-96)else 99999
  |_=>99999
 let F:Syntax→Syntax→Syntax:=λt s=>if s.isAtom then mkAtom s.getAtomVal else if s.isIdent then t[1][0][1].getSepArgs.getD (ix "ÀÁÂÃÄÅÆÇÈÉÊËÌÍÎÏÐÑÒÓÔÕÖØÙÚÛÜÝÞßàáâãäåæçèéêëìíîïðñòóôõöøùúûüýþÿĀāĂăĄąĆćĈĉĊċČčĎďĐđĒēĔĕĖėĘęĚěĜĝĞğĠġĢģĤĥĦħĨĩĪīĬĭĮįİıĲĳĴĵĶķĸĹĺĻļĽľĿŀŁłŃńŅņŇňŉŊŋŌōŎŏŐőŒœŔŕŖŗŘřŚśŜŝŞşŠšŢţŤťŦŧŨũŪūŬŭŮůŰűŲųŴŵŶŷŸŹźŻżŽžſ" s) s else if s.isOfKind ``Parser.Term.app then
   match t[1][2][0][1].getSepArgs[ix "ΑΒΓΔΕΖΗΘΙΚΛΜΝΞΟΡΤΥΦΧΨΩγδεζηθιμνξοςυχψω" s[0]]? with
   |some u=>u.rewriteBottomUp λx=>s[1].getArgs.getD (ix "ἀἁἂἃἄἅἆἇ" x) x
   |_=>s
  else if s.isOfKind nullKind then mkNullNode (s.getArgs.flatMap λx=>if x.isOfKind ``Parser.Tactic.simpLemma then (if x[2].isOfKind `«term[_]» then x[2][1].getArgs.map λy=>if y.isAtom then y else x.setArg 2 y else #[x])else #[x])else s
 let t:=Nat.fold 6 (λ_ _ t=>t.rewriteBottomUp (F t)) c.raw[1]
 return mkNullNode (←cs.mapM λs=>if s.raw.isOfKind ``Parser.Command.omit then (let x:=s.raw[1][0];if x.getId==`a then `(end)else `(end $(mkIdent x.getId)))else return s.raw.rewriteBottomUp (F t))
mutual
#check([some,List,true,none,false,(by omega),Option,Addr,base,Shared,autoParam,if_pos,PySem.wpAny_bind,Bool,W.Frag,if_neg,(by decide),Expr,And.intro,wpAny,Array,s.heap.objs.size,X.env,Keyed,Stmt,"RowMachine",absurd,s.heap,sizeLine,World,[_root_.L3.yS.eq_1,_root_.L3.zc.eq_1,_root_.L3.yF.eq_1,_root_.L3.gf.eq_1,_root_.L3.yO.eq_1,_root_.L3.uv.eq_1,_root_.L3.jp.eq_1,_root_.L3.yi.eq_1,_root_.L3.xA.eq_1,_root_.L3.QL.eq_1,_root_.L3.bo.eq_1,_root_.L3.Zy.eq_1,_root_.L3.ge.eq_1,_root_.L3.gU.eq_1,_root_.L3.gU.eq_2,_root_.L3.e1.eq_1,_root_.L3.e2.eq_1,_root_.L3.eL.eq_1,_root_.L3.eC.eq_1,_root_.L3.z7.eq_1,_root_.L3.p9.eq_1,_root_.L3.zB.eq_1,_root_.L3.zH.eq_1,_root_.L3.tE.eq_1,_root_.L3.kH.eq_def,_root_.L3.Qd.eq_1,_root_.L3.gj.eq_1,_root_.L3.qJ.eq_1,_root_.L3.gK.eq_1,_root_.L3.TB.eq_1,_root_.L3.Jv.eq_1,_root_.L3.j5.eq_1,_root_.L3.xX.eq_1,_root_.L3.wC.eq_1,_root_.L3.Zb.eq_1,_root_.L3.Tf.eq_def,_root_.L3.fI.eq_def,_root_.L3.pA.eq_def,_root_.L3.kQ.eq_def,_root_.L3.TD.eq_1,_root_.L3.TF.eq_1,_root_.L3.yc.eq_1,_root_.L3.wY.eq_1,_root_.L3.Rk.eq_1,_root_.L3.vH.eq_1,_root_.L3.qB.eq_1,_root_.L3.xq.eq_def,_root_.L3.TH.eq_def,_root_.L3.j6.eq_def,_root_.L3.Rj.eq_def,_root_.L3.Ze.eq_def,_root_.L3.J_.eq_def,_root_.L3.X9.eq_def,_root_.L3.yR.eq_1,_root_.L3.uE.eq_1,_root_.L3.uq.eq_1,_root_.L3.ze.eq_1,_root_.L3.vY.eq_1,_root_.L3.vy.eq_1,Option.bind_some,Option.bind_none,List.getElem?_cons_zero,List.getElem?_cons_succ,List.set_cons_zero,List.set_cons_succ,List.map_cons,List.map_nil,List.cons_append,List.nil_append,List.length_cons,List.length_nil,List.replicate_zero,List.replicate_succ,Bool.not_true,Bool.not_false,decide_true,decide_false,Bool.and_self,Bool.and_true,Bool.true_and,Nat.reduceAdd,Nat.reduceSub,Int.reduceLT,Int.reduceLE,Int.reducePow,Int.reduceToNat,Int.reduceAdd,Int.reduceSub,Int.reduceMul,Int.reduceNeg],(model prog w),heap,xs.length,Reps,List.length_append,PyProof.Rows.wpS_bind,Program,(Or.inl rfl),(za z6),List.length_map,(by simp),PySem.wpAny_pure,(Í×D),(Ç×Obj),False,(i+1),s.heap.get?,Around,X.N.length,X.mg,PyProof.Rows.wpS_pure,SortSt,X.prog,prog,cons,ds.length,(.bl Ä),data,(z7 0),outer,(model X.prog X.w),(z7 1),h'.get?,List.length_cons,mainGlobals,vs.length,getK,toks,Bool.and_eq_true,s.toks,h.get?,(Nat.le_refl _),Heap.get?_push_of_some,Heap.lt_size,List.getElem?_eq_getElem,(eC (.int 0)),(e::es),Value.ref,"list",ps.length,[_root_.L3.yS.eq_1,_root_.L3.zc.eq_1,_root_.L3.yF.eq_1,_root_.L3.gf.eq_1,_root_.L3.yO.eq_1,_root_.L3.uv.eq_1,_root_.L3.jp.eq_1,_root_.L3.yi.eq_1,_root_.L3.xA.eq_1,_root_.L3.QL.eq_1,_root_.L3.bo.eq_1,_root_.L3.Zy.eq_1,_root_.L3.ge.eq_1,_root_.L3.gU.eq_1,_root_.L3.gU.eq_2,_root_.L3.e1.eq_1,_root_.L3.e2.eq_1,_root_.L3.eL.eq_1,_root_.L3.eC.eq_1,_root_.L3.z7.eq_1,_root_.L3.p9.eq_1,_root_.L3.zB.eq_1,_root_.L3.zH.eq_1,_root_.L3.tE.eq_1,_root_.L3.kH.eq_def,_root_.L3.Qd.eq_1,_root_.L3.gj.eq_1,_root_.L3.qJ.eq_1,_root_.L3.gK.eq_1,_root_.L3.TB.eq_1,_root_.L3.Jv.eq_1,_root_.L3.j5.eq_1,_root_.L3.xX.eq_1,_root_.L3.wC.eq_1,_root_.L3.Zb.eq_1,_root_.L3.Tf.eq_def,_root_.L3.fI.eq_def,_root_.L3.pA.eq_def,_root_.L3.kQ.eq_def,_root_.L3.TD.eq_1,_root_.L3.TF.eq_1,_root_.L3.yc.eq_1,_root_.L3.wY.eq_1,_root_.L3.Rk.eq_1,_root_.L3.vH.eq_1,_root_.L3.qB.eq_1,_root_.L3.xq.eq_def,_root_.L3.TH.eq_def,_root_.L3.j6.eq_def,_root_.L3.Rj.eq_def,_root_.L3.Ze.eq_def,_root_.L3.J_.eq_def,_root_.L3.X9.eq_def,_root_.L3.yR.eq_1,_root_.L3.uE.eq_1,_root_.L3.uq.eq_1,_root_.L3.ze.eq_1,_root_.L3.vY.eq_1,_root_.L3.vy.eq_1,Option.bind_some,Option.bind_none,List.getElem?_cons_zero,List.getElem?_cons_succ,List.set_cons_zero,List.set_cons_succ,List.map_cons,List.map_nil,List.cons_append,List.nil_append,List.length_cons,List.length_nil,List.replicate_zero,List.replicate_succ,Bool.not_true,Bool.not_false,decide_true,decide_false,Bool.and_self,Bool.and_true,Bool.true_and,Nat.reduceAdd,Nat.reduceSub,Int.reduceLT,Int.reduceLE,Int.reducePow,Int.reduceToNat,Int.reduceAdd,Int.reduceSub,Int.reduceMul,Int.reduceNeg,_root_.L3.yT.eq_1,_root_.L3.tM.eq_1,_root_.L3.tN.eq_1,_root_.L3.qW.eq_1,_root_.L3.tL.eq_1,_root_.L3.uF.eq_1,_root_.L3.xQ.eq_1,_root_.L3.tu.eq_1,_root_.L3.ZZ.eq_1,_root_.L3.R0.eq_1,_root_.L3.P_.eq_1,_root_.L3.tQ.eq_1,_root_.L3.dN.eq_1,_root_.L3.dM.eq_1,_root_.L3.Qe.eq_1,_root_.L3.Qf.eq_1,_root_.L3.T4.eq_1,_root_.L3.Pz.eq_1,_root_.L3.q_.eq_def,_root_.L3.pH.eq_1,_root_.L3.putAt.eq_1,_root_.L3.tq.eq_1,_root_.L3.qG.eq_1,_root_.L3.jd.eq_1,_root_.L3.hide.eq_1,_root_.L3.tP.eq_1,_root_.L3.wG.eq_1,_root_.L3.wG.eq_2,_root_.L3.wG.eq_3,_root_.L3.wG.eq_4,_root_.L3.thaws.eq_1,_root_.L3.thaws.eq_2,_root_.L3.wS.eq_1,_root_.L3.wS.eq_2,_root_.L3.wS.eq_3,_root_.L3.wS.eq_4,_root_.L3.wS.eq_5,_root_.L3.tplDs.eq_1,_root_.L3.tplDs.eq_2,_root_.L3.Ij.eq_def,_root_.L3.pF.eq_1,_root_.L3.Zo.eq_1,_root_.L3.qC.eq_1,_root_.L3.S_.eq_1,_root_.L3.Zn.eq_1,_root_.L3.tK.eq_1,_root_.L3.tK.eq_2,_root_.L3.wq.eq_1,_root_.L3.Yq.eq_1,_root_.L3.wp.eq_1,_root_.L3.PH.eq_1,_root_.L3.qR.eq_1,_root_.L3.jZ.eq_1,_root_.L3.jM.eq_1,_root_.L3.jM.eq_2,_root_.L3.jM.eq_3,_root_.L3.kN.eq_1,_root_.L3.kN.eq_2,_root_.L3.kN.eq_3,_root_.L3.tI.eq_1,_root_.L3.jb.eq_1,_root_.L3.tz.eq_1,_root_.L3.Jn.eq_1,_root_.L3.Jm.eq_1,_root_.L3.qz.eq_1,_root_.L3.qz.eq_2,_root_.L3.Zc.eq_1,_root_.L3.Zc.eq_2,_root_.L3.wN.eq_1,_root_.L3.DS.eq_1,_root_.L3.T7.eq_1,_root_.L3.V3.eq_1,_root_.L3.R1.eq_1,_root_.L3.Yt.eq_1,_root_.L3.je.eq_1,_root_.L3.XA.eq_1,Option.map_some,Option.map_none,List.take_succ_cons,List.take_zero],List.size_toArray,(.ref f),all_at,[a,x1],eval,List.mem_cons.mp,(zA 0),(zA 1),(n+1),I.zd,(eC (.int 1)),Int.toNat_natCast,decide_eq_true,X.xe,Array.length_toList,Bool.false_ne_true,(Int×Int),(z7 2),D.int,name,(kP ps),(.ref C),(wI Ws),z.length,z6.size,a.size,E.l2,List.replicate,"State",(zY st),FuncData,l.prog,E.l1,List.mem_cons_self,List.mem_singleton.mp,["state","row"],(.bl Â),N.length,(Źr=Ä),HT.sIx,"set",scope,PySem,ks.length,(zA 2),StateT,z.elim,F.dj,Nat.zero_add,["self"],Nat.lt_of_lt_of_le,(Sum Int Str),PyProof.Rows,(.inl rfl),(z7 3),if_true,X.base,List.getElem?_eq_some_iff.mp,decide_eq_false,Nat.le_trans,W.kitOne,(.ref a),List.getElem?_map,ys.length,PySem.Spec,(vP ps),List.map_cons,kvs.length,(.str w),(Ía 8),List.append_assoc,PySem.sizeLine_eq,ns.length,(.ref p),Sum.inl,W.nsIn,OwnMs,K.In,Heap.get?_push_size,List.all_cons,o.push,(zA 3),rawInt,bootBuiltins,"tuple",es.size,b.size,I.xy,Nat.ne_of_lt,List.length_set,X.length,congrArg,X.calm,F.at_,(k+1),F.ok,List.getD_eq_getElem?_getD,of_decide_eq_true,its.toArray,(a.d2 X G),(z7 4),I.list,cpos,iter,r.length,(xB 0),k.toNat,(zU (zN b)),List.mem_cons_of_mem,List.mem_of_getElem?,(.Name x xp),Nat.zero_le,X.env.locals,(yM _),"test",K.lookup,j.toNat,(À v),cLine,(j+1),apos,List.range,Builtin.bitAnd,List.mem_append.mp,(.Name x pos),(x_ I q ê),(a.d1 X G),[a,x1,x2],[.ref a],if_false,d.length,W.keepIn,"items",(.int 0),(wz st),"dict",o.data,(a σ),I.tok,(u q),zero,succ,(by decide +kernel),(.int 8),s.heap.push,Nat.le_refl,b.length,P.length,r.mono,cond,List.append_nil,Nat.le_of_lt,"carry",(À ĩ),L.length,(.int i),"range",I.tuple,String,pos',Unit,False.elim,(ë ?_),(.dK kvs),(Ŏb _),(śa s),x.size,Scope,E.own,K.go,getA,args,E.lp,(xJ prog w),"unless","held",(yf e=Â),us.length,ms.length,"when",(À c),add_int,"subc","addc",ps.map,elem',E.go,h.Ns,(vG X scope cl own C s H fp pn),List.mem_range.mpr,List.all_eq_true.mp,List.length_take,List.not_mem_nil,Option.some.inj,Int.le_of_lt,(.type đ),"__init__","nought",(wM z6 i),(.ref Õ),(.lst xs),A.handled,a.length,W.findIn,xs.size,vM.cons,(ō h),"add",rows,List.length_replicate,X.env.cells.lookup,(by simpa using h),((ď).all yf=Â),List.length_range,PySem.wpAny_mono,X.env.scope,SetTable.below,Nat.ne_of_gt,(.lst Ī),"right","word",c.length,"sign","copy",(Õ+1),(zR×V),"left",IsPair,(f β),"zip",zO.t8,"sub",I.loc,D.str,List.mem_append_right,(ns.map D.int),Array.getElem?_toList,E.ext.gh,"storew",X.N.Nodup,Ws.length,(zA 4),"table","store","loadw",X.stack,I.ok.hd,"load",ns.map,"jump",I.cell,yL.of,I.pin,E.pin,stop,most,X.fs,Int.eq_ofNat_of_zero_le,(N.map D.str),List.length_drop,(λz=>nomatch z),zO.refl,(a==sysModules),(Nat×Nat×Nat),(.str "subc"),(.str "addc"),Heap.SameBut,compareOp,True.intro,(Æ Value),(.type Ũ),vs.toArray,"state",fs.length,[.lst z6],(À ĕ),(a &&& p),zo.refl,SetTable,L2.cutS,t.place,A.units,(Á D),(lo+i),V.ref,"and",plain,l.map,"or",keep,(.Call (.Name x p) ď [] pos),"_law_script",Str.ofString,Builtin.bitOr,PySem.wpAny_holding,a.heap.objs.size,List.map_append,(.fz (.lst g)),Heap.size_push,(ns.map V.int),(.type "bool"),List.mem_cons,(σ++[À v]),(.type "int"),(Int×Value),"words",Int.le_refl,binaryOp,(zR×Value),its.length,(eC äa),(.int 16),a.toArray,W.kia_one,j.length,(g i j),or_false,(zM zn),(À m),(κ×V),(x::xs),(z7 6),y.Perm,I.laid,I.bare,yN.tr,"xor",small,r.get,o.cls,N.map,IsZip,A.in1,(j-1),memK,its',E.ow,E.fr,D.nx,List.take_append_drop,List.getElem?_eq_none,(.tup [.str "stop"]),(eq_of_beq c),(by simpa using e),Nat.le_add_right,own.length,a.toList.drop,List.foldl_cons,(.str "stop"),(.str "add"),(.builtin id),(.type "str"),(.str Æa),h.objs.size,ForInStep,"truths",(.ref it),b.extract,(zM Ě),Obj.mapSeq,(Str×Ç),b.toArray,X.A.units,(.tup xs),envOfC,(ō hi),y.toList,t.length,s.TypeIs,h.length,(.int 1),W.fnOf,(zA 6),"high",PyProof,(zN b),I.free,(yR 1),"law",value,V.int,(x+1),call,(.tup [.str k,.int (d:Int),.int (s:Int)]),(zW ſ zV ě zF),(X.fn x=Â\/X.env.scope.names.lookup x=À .local),List.getElem?_append_left,PySem.wpAny_field,PySem.wpAny_seqItems,Array.getElem_toList,"_law_mark_here",List.replicate_succ,List.zip_cons_cons,(x ≠ "__name__"),attributeBase,a.toList.take,(.str "jump"),starEach,(.int (i:Int)),List.mem_map.mp,b.toArray.size,(.int (k:Int)),(.ins C dx fs),(δ (wI u)),Value.none,(ks.zip vs),(.inr z),"sorted",A.deeper,"memory",I.ok.kind,(ĵ ..),(.inl a),W.codeIn,T.length,R.length,c.trans,(gt T i),"place",Ne.symm,codeAny,IntsAre,"step","end",putAt,forIn,isort,IsTup,I.len,E.ext,D.lst,[d,s],(W i),step,putF,item,P.jV,K.lp,Nat.lt_irrefl,((apos.endLine==cpos.line)=Â),beq_eq_false_iff_ne.mpr,PySem.wpAny_call_entry,Bool.false_eq_true,(λ_ z=>nomatch z),Builtin.bitNot,Nat.succ_le_succ,(e2 zJ Ā Ď),(.fz (.lst NS)),"set_iterator",I.zd.fresh,(EP X z8 σ Q),"registers",a.extract,"number",List.map_map,(Or.inr rfl),(K w.params),(F.ok i q z),(.str "sub"),(.str "and"),DecidableEq,(.inl z),(Á zR×V),(model P w),(.str "or"),SeqAt.EqAt,(a.d3 X G),(Wf z6 m),z6.length,scanBound,Value.str,(t_ st),u.extBut,q.toList,K.ext.gh,I.turned,(xJ P w),(Str×V),(.inl h),(vP []),(kP []),(À d),intsOf,assign,(zb T),(zA 5),(z7 9),(lo+k),(k<=j),tplDs,(w=0),x.gh,many,True,E.ap,(.ListComp elt [⟨tg,iter,ifs,0⟩] scope pos),(.fz (.int (gt T 0:Nat))),(xg (ye b)),(À (Ä,.int (m:Int))),PySem.PassesOwn.never,[.bl a1,.bl b1,.bl c1],Nat.mod_two_eq_zero_or_one,List.getElem?_append_right,List.pairwise_append.mp,(.dic (kP []) (vP [])),(zB Ā zH),(zB ý zH),"first_words",foldedSetIterable,Nat.lt_succ_of_lt,"address",rows.length,Option.bind_some,(zC zF zL),b.toList.take,(by kernel_rfl),beq_iff_eq.mpr,a.toArray.size,a.names.lookup,(.str "left"),(.dic hk hv),(À (Â,d)),"enumerate",(yE x p f g),(.lst ys),(Ζ (x+3)),Value.type,n.testBit,es.toList,Value.int,(śa Ńa),(Á Nat),(i d ê),(.type T),(.dT kvs),"thing","stands",x.length,i.natAbs,i.length,g.length,(vR t L),(.str t),(.str k),(.ref z),(.ref l),(zM zF),e.trans,(c b a),z.symm,nextOf,Sum.inr,Nat.ble,["row"],(Ãa _),(Ía n),(ye a),qs.map,eq_int,IsPart,(Z2 i),[x,y],label,drawn,hv.h,hide,dEqs,cont,body,X.pn,I.pX,(zQ (zQ yK)),"abcdefghijklmnopqrstuvwxyz",[À (Ä,.lst a),Ã,Ã,Ã,Ã],((x==("__classdict__" : Str))=Ä),List.take_succ_eq_append_getElem,PySem.wpAny_newObj_type,X.s₀.heap.objs.size,Int.natCast_nonneg,PySem.codeAny_builtin,PyProof.Rows.wpS_forRange,[.bl a2,.bl b2,.bl c2],[.int w,.int 31,.int 1],(zP u8 u7 Ě zF),List.take_of_length_le,(st ws a b c hk hv),(.int (n:Int)),(À (Ä,d)),Nat.lt_of_le_of_lt,Int.emod_lt_of_pos,(by simpa using c),Nat.lt_of_succ_lt,beq_self_eq_true,"first_held",(eC (.int 3)),Int.emod_nonneg,(yE a0 p0 f0 g),"_law_k",behindInMarks,b.toList.drop,(.int 32),swapsWith,(r0::z6),Nat.sub_self,Nat.min_self,List.zipWith,(λ_ _=>î),(Str×Value),(.int x),fs.lookup,(Ζ (x+2)),(Ζ (x+1)),(Ζ (x+0)),(.type Üa),isort_perm,SortSt.mk',(.ref I),(λ_=>Ã),(xL X.K F),(.inr rfl),(Β ĥ),OwnMs.imp,pos.line,(Ô Ø),(I z x y),(.nx β2),"do_sum",x.toList,j.natAbs,f.length,NameKind,(Č e),["item"],(top 80),(g d σ),(.str x),(.int v),Rd.mono,valueAt,W.mg_of,N.Nodup,Iff.rfl,BindsTo,zO.lay,(ĵe c),(ėl s),(.bl b),xs.map,(zA 9),t.fits,stored,q.size,o.elim,backTo,Ws.set,(vz i),(lo+m),"due","int",yo.of,whole,t.led,field,bindL,bindC,L.map,self,nds',I.os,D.bl,(zW ſ zV (wb Ě xo) Ęb),(eC (.int 2)),(backToKw pos (keywordEach [] Ö)),(.tup [.str "set",.str "high"]),Nat.lt_succ_self,List.Perm.refl,List.mem_append_left,List.drop_eq_getElem_cons,Array.getElem?_eq_getElem,(.fz (.lst Ła)),(ns.map WData.int),PySem.wpAny_passesOwn,(by rw[E.l1];exact c),(Á zR×Ç×Value),Array.toList_append,List.mem_filter.mp,List.filter_append,assignEach,List.flatten_cons,[.at [İ] ąa],PySem.call_meets,List.cons_append,F.heap.objs.size,"set-order","isinstance",X.env.kindOf,Nat.testBit_and,List.length_nil,Bool.eq_iff_iff,s.heap.update,(τ++į k Ã),(X.N[i]?=À x),(yE y q Ã g),(.tup [x,y,z]),Sum.inl.inj,(Ţ _ rfl),(λd=>!yh d),(start N vs),(failedOf s),(.str "xor"),decide_true,OwnMs.cells,List.lookup,(.str ía),(Á M×yB),(ps.zip us),(.int 2047),"__next__",sep.length,env.kindOf,Str.length,(zX H p o),(kindOf s),(gH ĭa x),(L.map zb),x.testBit,DictEntry,L.filter,(Ξ Éa),(Æ Nat),(start _),(i s ê),(arrOf s),(Uf z6 m),(Pf z6 m),(.rt o d),y.length,o.length,n.length,callWith,Reps.imp,(lo+hi),fs.map,(z7 5),(Žc _),"marks",s'.heap,l.toNat,I.fresh,E.ext.h,(ßa _),(żc _),(zA 7),ys.all,ts.map,"done",wR.one,modify,W.isFn,(z7 7),(yR 3),(uN n),(jc x),(e σ),(c σ),z.cps,x.new,qe.nd,Zz.nd,(j-i),(i+k),insI,nds2,hk.h,hi.h,dict,c.gh,P.it,(zW ſ zV Ě zF),(starEach ď Ö=(Ä,eval e Ö)::starEach es Ö),(.Call (.Attribute o m apos) [] [] pos),(e2 zJ ý Ď),(yI ĕc Ð),(yI (zQ ĕc) Ð),(xR T e fw fh s d j),(.tup [.str "left",.str "right"]),PySem.wpAny_callSpecial?_slot,Array.getElem?_eq_some_iff.mp,(L.map λl=>.lst (zb l)),Option.isSome_iff_exists.mp,PySem.Around.under_plainId,(yI (zQ yK) Ð),(xC T e fw fh sd due done),w.params.followText,(.int 4294967296),X.env.scope.names.lookup,PySem.wpAny_setField_rec,PySem.wpAny_pyIter_list,List.getElem?_replicate,List.filter_cons_of_pos,List.filter_cons_of_neg,(e2 zJ Ā Źc),(ku g ê λq r j=>?_),List.getElem?_toArray,Heap.get?_update_self,[xC T e fw fh sd d j],(seqObj đ #[] 0),"StopIteration",Nat.add_le_add_left,[.bl a,.bl b,.bl c],PySem.wpAny_rule,(zU (zN a)),PySem.wpAny_typeOf,PySem.codeAny_mono,(.type "NoneType"),Nat.le_of_lt_succ,(åa W.emptyDict),(σ++į ðb Ã),c.heap.objs.size,Nat.testBit_succ,List.getElem_mem,["self",Çb,ąa],(vB as vs ks us),(.builtin "len"),Nat.succ.inj,(V s+n),(1+(k:Int)),eq_of_beq,WData.weightAll,Nat.le_antisymm,List.length_zip,List.find?_cons,f.objs.size,s.heap.IsTuple,List.nodup_nil,(Ζ (x+n)),(.Name x p),List.any_cons,many.toNat,(β++[À m]),(zC Ě zL),[a,x1,x2,x3],(δ (wI W)),(knd.hash k),(.tup [x,y]),Array.getD,scope.names,(.str ıa),(v7 z6 r),(κ×Value),(vx (v6 e)),(.int (-1)),a.testBit,ord.length,(Β Ŋ),(Éb .Add),(yf a=Â),(thaws ms),(Y8 a b c),"do_bits",W.makesIn,PassesOwn,E.ext.new,[ąa,Öc],(řb Ċ),(Àa _ b),(ċ _ e),(λ_=>?_),(.lst []),[.ref p],["mark"],(us++ds),(wI W),(Ť p),r.append,q.extBut,m.length,Y.length,G.extBut,(za Ĵc),(q_ r.1),(o++[l]),(lo+m-1),(gt T w),(.ref x),(.own x),(.int j),(w%256),x.trans,m.trans,h.trans,callerA,base.Ns,X.outer,K.ext.g,AllBare,(őe c),(wI ns),(pK z6),(d q z),(Wf z6),(Uf z6),(Pf z6),(G b d),(.bl t),(.bl k),"told",pyNext,c.symm,"stop",y.size,pyIter,isTrue,h.elim,Result,Paired,I.kept,a.map,(zA 2),(z7 8),(v1 k),(b σ),(a::r),slots,o.loc,binds,Xb.nd,Xa.nd,N.len,Model,[a,b],(n+k),(j+2),(g=1),(.tup [.str "load",.str "store",.str "loadw",.str "storew"]),[s0,x1,x2,x3,x4,x5,x6,x7,À m1,À m2,x10],["self","table","end","registers","memory"],(min (if i<0 then i+(n:Int)else i) (n:Int)),(!w.params.followText "set-order"),PyProof.Rows.wpS_mono,(À (Ä,.int (need:Int))),(Zg X.K 2 (qT (vz i) (qT (vz j) Zf))),(!t.plain&&decide (es.size>1)),(SetTable.grown c.size),PySem.wpAny_setState_of,List.pairwise_iff_getElem.mp,(zC Ě (zC ě zL)),PyProof.Rows.callWith_type1,(by simp only[Ĕ]<;>omega),(by show _<=16777216;omega),List.extract_eq_take_drop,(.dic Ĩ ŕ),PySem.wpAny_Call_Name_kw,List.pairwise_append.mpr,Builtin.List.listTooLong,((u q).mpr (.inr z)),PySem.wpAny_truthy_bool,PySem.fits_of_scanBound,(wu zL (yI yK Ð)),List.drop_eq_nil_of_le,(.str "label"),[À (Ä,.int x),Ã],(zW ſ zV ŀ zF),List.pairwise_cons.mp,(by show 1<30;decide),List.mem_of_mem_take,Array.toList_extract,(tupleKind (xJ P w)),(X.drop k++Y.take e),PySem.plainId_quiet,List.mem_reverse.mp,List.length_zipWith,List.getElem_of_mem,List.getElem?_range,Builtin.Int.intBits,(À (Â,.lst ds)),(λl=>D.lst (zb l)),(getMethod ov m pl),xs.toList.Pairwise,ForInStep.yield,(Ía (è).length),(zW ſ zV ť zF),(by rw[Ģ];omega),d.trans,SetTable.below.go,List.mem_range.mp,List.getElem?_set,Array.toList_push,(λC s H b c=>jK),(wI (Ws.set d w)),(relabel Ľ Ö),(Vk b t2 Ü a d),"_law_first",(.fz (.int w)),Nat.zero_testBit,List.take_length,List.lookup_cons,(eC (.int 4)),"_law_many",sliceBounds,Nat.min_eq_left,I.base.free,[.at [Ú] Ŧa],(À (V.ref p)),(by simp;omega),((àa).mpr ťb),Nat.not_lt.mpr,(Éd es Ö),(wL ks vs k v),(ts.map D.str),(gg rfl vo zF),b.trans,[ąa,Öc,Ĳa],[p0,p1,p2,p3],[.str "stop"],(μb (b::zr)),(À (Â,e)),(kT c.heap H),(Ę e Ö),(zC ě zL),Nat.lt_or_ge,Nat.le_of_eq,Nat.add_comm,Int.pow_zero,Int.ediv_one,Around.under,"places",(į Ĝ []),(XG (wZ jq)),(.tup Ķf),apos.atName,a.heap.push,X.base.get?,OwnMs.focus,Int.one_mul,(À (b,d)),(vm X.K FF),(ks.zip us),(jD (ye b)),(f (tP β)),(eL j6 Òc),(T.set m x),L2.start,(gb fs f),(.tup ys),its.toList,W.plainGet,(λ_=>î),(zb (W i)),(zX H a o),(dl'++[m]),(VJ e=Â),(.str ěa),l.extBut,List.map,"do_move",z6.take,z6.filter,y.testBit,x.extract,seqObj,Reps.ints,(eC Ĥb),(eC .zK),(.inr u),[Źa,įc],(Χa Şf),(μb Ĵl),(ša .In),(ιb þb),(Ζ ŕd),(Δ ŀ),(Ι Ňa),(Β Ÿ),(vs++dvs),(vR t z6),(d.n X G),(.wU o u),(.ref i1),Y.take,y.extBut,s.length,s.drawn,p.toList,oneType',l.length,i.trans,h.extBut,h.DictOf,b.typeIs,b.toList,ZipApart,Reps.one,OwnMs.qM,Operator,C.extBut,B.extBut,(ĵf ?_),(zM ť),(zM Ęb),(xq Ża),(vm K F),(gl L p),(eC øb),(X.g8 E),(2 ^ 62),(.ref t),(.own a),(.int n),X.drop,"again",kvs.map,i.toNat,getItem,cut_len,Un.kept,I.write,(zA 8),(Đa e),(ūa _),(ėl d),(ģb i),(ō e),(zb ws),(wC zH),(e σ1),(a q z),"bool",xs.all,u.keep,sIx_le,preSum,o.dict,layNew,ks.zip,knd.is,d.getD,T.keep,L2.ixN,I.base,B.kind,(zA 3),(yR 2),(wT 8),(wI b),(wI a),(w8 f),(ur x),(u::v),(tC v),(kH x),(i==j),(X++M),(Wz x),(0<=i),"str","one",wX.JP,start,p.map,f.map,error,atKey,VX.nd,VW.nd,T.obj,D.tup,[.zK],(m%8),(i-1),(h a),["table","end","first_words","first_held"],(e2 zJ (e1 (xM [İ] "words") ý) (e2 zJ Ā Ğ)),PyProof.Rows.wpS_get,[.str w,.str k,.str t],(.Call (.Attribute (.Name c p) m apos) ď [] pos),(.tup [.str (źa w),.int (d:Nat),.int (s:Nat)]),List.nodup_cons.mp,[.int g0,.int g1,.int g2,.int g3],(ya Éc xc (zM Ħd) (zM zn) Åa),["_law_marks","_law_others","_law_need"],(Ģb o name Ö (eval o Ö)=eval o Ö),(zX (zX m i (.own y)) y (.ins C i [])),(į (è).length 0++[2047]),PyProof.Rows.subscriptTail_builtinR,Builtin.SmallTypes.ownedTupleIsFree,PySem.wpAny_askSetting,(c*48271+104729*k+7919*(Ŝ:Int)+1),(uO Ī a b c Ĩ ŕ),(mirror x lo (lo+m) ((lo+m-lo)/2)),(T.set m (rl (U m) (P m) T (W m))),PySem.F.slot_tuple_iterator_next,(xR T e fw fh s due done),[g0,g1*256,g2*65536,g3*16777216],[xC T e fw fh (wG s) due done],(yg (uw kS b rfl (zC Ě zL))),(.Assign [.Name x pos'] e pos),((c==("__debug__" : Str))=Ä),[.Subscript Âa k pos'],(Ħ (1*2 ^ ((w:Int)).toNat)),(λc=>∃r,c.1=À r/\uB t r),(x.extract (d+Ů) (d+Ů+e)),(if k'=k then À v else _),(.type "method_descriptor"),(.tup [.str "jump",.str t]),[.Subscript o k pos'],((u p).mpr ŉ),(zP xf xZ ě zF),Builtin.Slice.slicePlaces,(x.extract (d+k) (d+Ů)),PySem.mem_of_lookup,Builtin.Tuple.tupleExact,(β.set i (À (.fz d))),(kQ λi j=>decide (i<j)),(ĥb es Ö),"set_iterator.__next__","set_iterator.__iter__",strSliceIndices,PySem.F.plainAttrs_list,Builtin.Range.rangeSize,(e1 (xM [Ú] Ŧa) ý),(by rw[w.l];omega),List.getElem?_set_self,Array.getElem?_eq_none,(by rw[E.l1];exact hi),PySem.wpAny_execs_nil,PySem.F.slot_zip_next,Nat.le_of_ble_eq_true,(λ_=>Ł õ Sem β),(um (own:=[įc]) rfl),(.UnaryOp .Not a pos),(.Subscript Âa k sp),(.Return (À e) pos),Nat.eq_of_testBit_eq,List.getElem?_set_ne,List.all_eq_true.mpr,Int.not_lt.mp,[.Tuple ŏh kk pos'],["self",Ùa,śb,ıb],(σ.set i (À ŝ)),(ys.any λy=>xz y x),(if b then 1 else 0),(by rw[wv];exact Ih),(Nat.lt_of_not_le c),(.Attribute e f pos),letOwnedTupleGo,PySem.wpAny_attempt,List.nodup_cons.mpr,Int.toNat_of_nonneg,(Χa (ĥb ď Ö)),(by simpa using hi),(by simpa using h1),(eC (.str ĉa)),Nat.sub_add_cancel,List.set_cons_zero,List.set_cons_succ,(zW Ňd zV ě zF),(w/2147483648%2=1),(b∈X.ex\/ěc<=b),(by simpa using f),(L.foldl (uG t) s),(eC (.int 30)),(.builtin įb),s2.heap.objs.size,decide_eq_true_eq,W.instObj,Nat.lt_trichotomy,Nat.le_succ_of_le,List.getElem_drop,List.ext_getElem?,List.Pairwise.nil,[(a:Int),(b:Int)],(λC s H c d=>jK),(zP xf xZ ť zF),(by rw[IL];omega),(Str×Tok×Value),((p,w)::P.zip vs),s.heap.FunFrames,PySem.wpAny_call,PySem.typeIs_str,Nat.testBit_zero,[.fz (.lst Ła)],(λi=>K x (b+i)),(w/16777216%256),(o++Ŝb i (i+k)),(Q0 n x (c x a)),(.tup [x,y,z,w]),z.cps.toList,p.toNat.testBit,Nat.zero_lt_one,List.nil_append,List.Perm.of_eq,Int.ediv_nonneg,Bool.or_eq_true,[a,x1,x2,x3,x4],(σ++į k Ã),(λc=>f c.symm),(yE a0 p0 f0 u),(e2 zJ ĥ Ď),(e2 yb Ŋ Ğ),(I.ok.bs b o e),g.toArray.size,List.take_zero,(eC û),"width",(Η (.int 8)),(k_ a b o i j),(Z0 a b o i j),(.type "type"),(zC Ęb zL),(ks.map kV),swapsWithSole,swappedStores,es.toList.map,beq_iff_eq.mp,List.sum_cons,[Ĳa,"count"],(Ę Âa Ö),(νb (b::zr)),(zh.near x z),(putF f v fs),(lo+k-(lo+l)),pickOrder.go,own.contains,decide_false,W.callWith_K,P2.objs.size,Nat.lt_trans,List.map_nil,K.ext.h.free,Int.le_trans,I.base.there,(.str Ĵa),[(D,v_ a k)],(λ_ _=>rfl),(zX H p Ăl),(xs.set i x),(pH β i π),(e2 F fa fb),(OY r ta tb),(.int (i+j)),"do_storew",W.hasDictIn,Option.bind,Nat.le_succ,List.length,I.ok.mod.WC,I.base.slot,(Ì ?_),(.int p),(ų n q z),(ų j q z),(Ñg C Õ),(y b o e a),(x-x/p%r*p),(vZ ps a b),(ns.take k),(l+(r-l)/2),(.type ļ),(.bool Â),((n:Int)=0),(wb Ě qy),"do_store","do_loadw",ws.toArray,uW.some_of,setsByText,out.toList,beq_iff_eq,Value.bool,Pt.testBit,PlainAttrs,ns.getD,[.lst Ī],(Ē<=Ĺ),(λ_=>rfl),(λ_ q=>q),(vV āl g),(tR kvs k),(Zw k=Â),(T.map pc),(.tup Űh),(.str čb),(.str ōa),(.str Ŋa),(.str ŉa),(.str ńa),(.own ĕe),(.lst Řa),(.int i t),(.int due),(ēa hd),(xs++ys),(jd β),"do_load","do_high","do_copy",zf.append,xs.toList,ts.length,pc.isList,m.testBit,l.swap.hd,h'.DictOf,g.toArray,drawOrder,cl.lookup,__do_lift,Paired.Lk,[wM z6 i],(Āc üb),(Ŏa Ş),(νb Ĵl),(Α Äe),(ò+ðb),(Á Int),(σ++[v]),(β++[m]),(w_ ks k),(h p Ŗf),(c.val k),(Pf z6 i),(.ref i2),(.ref YV),(.ref WQ),(.ref WP),(.ref WO),(.ref WN),(.ref WM),(.ref WL),(.ref WK),(.ref WI),(.fz ĺc),(.bool b),(Δ Ňa),f.trans,"do_set","append",r.extBut,p.isList,mergeAt',l.countP,h.isList,f.typeIs,f.toList,entryFor,c.typeIs,bindArgs,X.take,W.lookIn,W.length,Reps.set,M.length,(Tt ps),(úb Y2),(Ĺf nd),(σ++ρ),(xq Îa),(xL K F),(x != y),(vJ g _),(uz Øc),(uq ý),(pI Ě),(kT h H),(eC Ķd),(XN ăd),(QJ P h),(OW r t),(2 ^ 64),(.ref e),(.ref c),(.ref A),(.nx σ),(.int w),(.int e),(.inr x),(.inr t),(.inr k),"slice",unaryOp,uI.swap,uI.move,u.there,tZ.with,setNext,p.trans,l.trans,ds.drop,b.drop,add_str,W8.putO,Sb.refl,I.ok.g7,E.ext.g,A.depth,[.none],(Õf e),(Ŀl _),(ŗd c),(ĭ-1),(Ť q),(ñb i),(Ĝc _),(ëa _),(Ŭ c),(Č q),(Č f),(č d),(Æ V),(ō p),(À r),(tP β),(q::qs),(jh xs),(hi-lo),vs.map,u.slot,u.free,typeOf,s.gens,p.size,o.getD,not_or,newExc,m.mono,l.mono,kindOf,f.get?,e.symm,ds.map,bs.map,argsOk,a.toks,R.take,Params,L.heap,J.stop,J.get?,InLong,A.get?,V.str,(zA 4),(yM _),(vD r),(v2 k),(uz n),(r β),(q/64),(k σ),(g==k),(a τ),(JV z),"low",there,thaws,table,names,l.fin,h.Ns1,g.get,a.any,QQ.nd,QP.nd,QO.nd,QN.nd,M.ind,D.i2z,D.i1z,D.TOz,CmpOp,Call_,(qW (tu (gK (e2 zg (ze jW (xW Ú "registers" (z7 8) zH)) (ze jW (xW Ú "registers" (z7 9) zH))) (e2 zg (ze qo (xW Ú "marks" (z7 8) zH)) (ze qo (xW Ú "marks" (z7 9) zH)))))),[À (Ä,s),À (Ä,.int first),À (Ä,.int most),À (Ä,.int l),À (Ä,.lst (N.map D.str)),À (Ä,.int A),À (Ä,.lst R),À (Ä,.int (i:Int)),À (Â,.lst L)],[À (Ä,s),À (Ä,.int first),À (Ä,.int most),À (Ä,.int l),À (Ä,.lst (N.map D.str)),À (Ä,.int A),À (Ä,.lst R),Ã,À (Â,.lst [])],["_law_script","_law_first","_law_most","_law_count","_law_names_here","_law_many","_law_rows","_law_k","_law_items"],(e2 zJ Ā Ğ),(λr f=>match r with|.ok (.ret v)=>EP X m σ Q v f|.ok _=>î|.error e=>X.xe e f),(åa { cls:=.type "range",data:=.fields #[.int lo t,.int hi u,.int 1 v] }),[.Name x p1,.Name y p2],((z6.toList.drop (sIx Ĭ 0 lo)).take (sIx Ĭ Ĭ hi-sIx Ĭ 0 lo)),[o0,o1,o2,o3,o4,o5,o6,o7,À (Ä,xC T e fw fh sd d j),o9,o10],[o0,o1,o2,o3,o4,o5,o6,o7,o8,À (Ä,xC T e fw fh sd d j),o10],(À (Ä,.int (rl (Uf z6 m) (Pf z6 m) T (Wf z6 m):Nat))),(A.under (.builtin "type.__call__" ⟨.ref C::us,a⟩)),(if plainKind x=Â then i else { i with plain:=Ä }),(List.zipWith (λk' x=>if k'=k then v else x) ks vs),(.tup [.str k,.int (d:Int),.int n]),[À Ád,Ã,Ã,Ã,Ã,Ã,Ã,Ã,Ã,Ã,Ã],[rows.getD k .zK,.int ((k:Int)+1),tgs.getD k .zK],(if i<0 then(i+(n:Int)).toNat else min i.toNat n),(.tup [.str "copy",.int (d:Int),.int (s:Int)]),(ku (s:={ s with á:=q }) r ê λx K m=>?_),(f.2 b (Ŭ (ņ (Č e) (I.ok.W9 x c F l)))),(if k=f then(k,v)::r else(k,x)::putF f v r),(tE (e2 wK (z7 7) (e2 zJ (p9 4) (z7 6)))),(À (.builtin "type.__getattribute__")),(by rw[PySem.isSubtype_type];kernel_rfl),(.tup [.str "high",.int (d:Int),.int n]),(pickOrder (w.params.setOrder a ep) es),(uo G P w K L g N c a f d A þ s H E),(ps.map λp=>if p.1=a then(a,b)else p),(f.2 b (Ŭ (ņ (Č e) I.ok.above))),[wt z6 T2 f2 g2 Ws2 a2 b2 c2 ps i j2],[wt z6 T1 f1 g1 Ws1 a1 b1 c1 ps i j1],(À (.builtin "object.__setattr__")),(.tup [.str ļ,.int (d:Int),.int n]),PyProof.Rows.F.plain_set_update_loop,(e2 (xq Îa) (e2 qB Ÿ (z7 5)) Ğ),(.Call (.Name "zip" p) [a,b] [] pos),(e1 (xM [Ú] "due") ý),Heap.SameBut.update,[.int (i:Int),x],(e2 zJ (e1 (xM [İ] Çb) ý) Ľd),Array.mem_toList_iff.mpr,(yG Zj b rfl (zC zn zL)),Builtin.Str.occurrences,(y.toList.drop lo),Nat.eq_zero_of_not_pos,Heap.get?_update_other,[1,26,676,17576,3,5,7],[wt z6 T fw fh Ws a b c ps i j],[Yv z6 T fw fh Ws a b c ps i j],(by rw[e];exact λz=>nomatch z),Array.mem_of_getElem?,(Ρ (.obj Ú ĳf [a,b,c,d])),(Ť q++(ýb m (j-1)).reverse),(yL X.K H p ys\/yo X.K H p ys),(if ĵd Ïd=Â then _ else _),Array.perm_iff_toList_perm.mp,(.builtin "object.__class__"),PySem.wpAny_pyNext_list_item,PySem.Calls.callWith_builtin,(į (è).length 0),[.str k,.int x,.int y,.bl a],(zQ (zQ (zQ (zQ (zQ ĕc))))),(vG X Ľ cl own C s H l pn),PySem.wpAny_pyNext_list_end,[xC T e fw fh ńf due done],(by with_unfolding_all rfl),(Φa (.int 64)),PySem.wpAny_updateSeq_pair,List.length_eq_zero_iff.mp,[xC T e fw fh sd due done],["kind","one","other",ía],(Ė (e t) (x := ĉa) Ð),(Ė (e t) (x := Ąa) Ð),(yG pE a rfl (zC Ě Úc)),(r.2.set a (À (.fz d1))),(.tup [.str ĉa,.str Ąa]),(.For tg iter body [] pos),List.pairwise_reverse.mpr,List.mem_or_eq_of_mem_set,Builtin.Slice.sliceAdjust,(qW (xQ (eC ĸ))),[xR T e fw fh s due done],(İb (Ąb x ı Õ f c)),(rI UN λi j=>.int (i*j)),(f (.int i t) (.int j u)),(((1:Int)*2 ^ w-1)*2 ^ l),"_law_names_here",PySem.wpAny_pyIter_tuple,PySem.tupleKind_room_in1,PySem.Calls.spliced_cons,List.mem_iff_getElem?.mp,(Ι (zP xf xZ ġc Ňa)),(eC (.dic [] [])),Nat.testBit_mul_two_pow,Nat.add_sub_cancel_left,(Ι (zP u8 u7 Čb zF)),(k K g λv m n x r=>?_),(.ins C dx (fs.zip vs)),PySem.wpAny_isInstance,List.zipWith_cons_cons,List.pairwise_cons.mpr,List.Perm.append_right,["kind","one","other"],(λi=>z6.getD i .none),(yI (zQ (zQ ĕc)) Ð),(o++(Ŝb k i).reverse),PySem.wpAny_updateSeq,PySem.wpAny_ite_split,PySem.SeqAt.EqAt.same,PySem.F.slot_dict_get,List.set_append_right,List.Perm.append_left,[.int x,.int y,.bl p],(λz=>a (by simp[z])),(λa w=>a ||| gt T w),(by simp only[ß,p]),(by dsimp only;omega),(.BoolOp .Or [a] pos),(eC (.str Ąa)),(e2 zJ ý Ğ),(e2 wY ý Ìb),((P:Int)/2 ^ k),PySem.wpAny_setField,PySem.wpAny_newTuple,PySem.gives_joinTail,Nat.pow_le_pow_right,List.mem_of_mem_drop,[D.bl a,.bl b,.bl c],["row",ŝb,"target"],(by rw[e];exact Ţa),(by rw[N.len];omega),(.Subscript o i pos),((m/512+(j:Int))%26),PySem.wpAny_standAt,PySem.wpAny_newList,List.reverse_append,List.mem_filter.mpr,List.filterMap_cons,(v4 Zh Zx rfl),(by size_fits),(T.set m need),(.inr (s q z)),(Ía (min â œ)),(zW ſ zV Ě ě),(uO ws a b c hk hv),(relayAll t2 c če),(by simpa using hv),((j.2 b k).trans H),((i:Int)+(m:Int)*1),(((i+1:Nat):Int)+1),"__getattribute__",List.mem_singleton,List.map_replicate,List.getElem?_take,(Χa (ĥb [] Ö)),(ο (zM Ħd) Ób),(λb u q=>ċ _ q),(λ_ _ q=>ċ _ q),(yF 1 (vY qr Òc)),(by simpa using b),(by simpa using a),(by simpa using T),(by simpa using F),(by rw[ŗd e];rfl),(by rw[Ĕ];omega),(2*(è).length+2),(.tup [row,nx,tg]),"moves_by_nought","_law_program_by",z.cps.toList.drop,bne_self_eq_false,SetTable.probe.go,Nat.sub_pos_of_lt,List.reverse_perm,List.getElem_take,Array.size_append,(Ņe lo hi Ã n),(Ąb b a Õ f d),(šf lo hi 1 ī),(į n 0++[2047]),(τ++į ðb Ã),(zX a p (.lst b)),(gk rows tgs Øc),(Vj l Å Å ?_),(Nat.log2_lt Å),(.tup (k.map kV)),(.str ⟨#[c]⟩),(.Tuple es k pos),(zC zn zL),"_law_registers",s.heap.IsSliceOf,env.cells.lookup,X.s₀.heap.get?,X.env.scope.kind,Nat.max_eq_right,List.zipIdx_cons,List.mem_map.mpr,(vB as ds ks es),(vB [] [] ks es),(ue kvs p.1 p.2),(q/64%(Ĺ:Int)),(ks.foldl uX []),(g.symm.trans z),(c b _ q λz=>z),(by rw[g];omega),(Str->Æ Value),(Nat.sub_le _ _),(Mb K t1 t2 a b),"table_of_rows","list_iterator","_law_backward",a.setIfInBounds,Nat.and_le_left,List.take_left',List.of_mem_zip,List.mem_append,List.forIn_cons,List.drop_left',I.base.keep,[Ĳa,"low",úg],(Ο (.tup vs)),(Ňe b o e n a),(Ì (łf øa)),(σ++į n Ã),(ys.getD j .zK),(xs.getD j .zK),(eC (.str ļ)),(e2 zJ Ŋ Ğ),(e2 zJ ý Ā),(by rw[ä,hP]),(by rw[q];simp),(((c:Int)+1)-1),"label_places","_law_cell_at",d.names.lookup,c.toArray.size,Nat.testBit_or,Nat.le_min.mpr,List.take_take,List.drop_drop,Builtin.bitXor,Bool.false_and,(zC zF Úc),[kV kv.1,kv.2],[.int w,.bl u],(τ.set i ĥc),(τ.set i Ã),(zb (Wf z6 i)),(v4 V8 VR rfl),(TP X z8 σ Q),(.int (j:Int)),(.inl (n:Int)),(.builtin Ðd),((ŵh).take m),sysModules,"set.__new__","moved_right","_law_row_by","__setattr__",s.heap.IsList,s.heap.DictAt,p.toList.take,p.toList.drop,X.env.globals,W.plainGet_of,Paired.length,Nat.reduceSub,Nat.reduceAdd,Nat.add_assoc,Bool.not_true,(.str ĵa),[Çb,ûb,ąa],[.type ļ,a],(Α (r::z6)),(À (Ħ 1)),(zX H5 D åc),(yE a p fl g),(yA.near x z),(w/65536%256),(qW (xQ ùg)),(Yu xs lo hi),(T.set m Ćl),(D.bl (i==j)),(.mk e1 e2 d),(.Expr e pos),"words_from","targets_of","moved_left","is_address","bytes_from","address_of","address_in","_law_words","_law_names","_law_items","_law_begun","_law_agree",setAddHashed,seqIndex_neg,s2.heap.get?,l.row.toRowW,its'.toArray,h.IsListIter,e.gh.free,concat_meets,WData.weight,SeqAt.RcNeAt,PySem.Within,PySem.W.Frag,Nat.zero_max,Nat.succ_pos,Nat.succ_mul,List.map_set,List.any_map,K.env.ext.gh,Int.ne_of_gt,E.ext.h.free,Code.isFrame,(Α (x++y)),(Α (wI u)),(λz=>c ÿc),(zB ý Ñc),(xJ ö X.w),(x.rebase y),(ue kvs k v),(pairsOf vs),(gallopOf s),(by exact B),(atKey xs k),(I.pX x c e),["State"],(gT N[i]),"with_part","ways_from","needed_at","is_number","four_from","comers_of","_law_mark",wpAny_of_eq,seqIndex_of,p.length_eq,c.heap.get?,a.names.all,W.specialIn,W.plainOver,W.kitx_list,W.emptyDict,Value.float,Sum.inr.inj,Reps.length,Reps.append,List.map_id,K.env.ext.g,Int.pow_pos,D.TOi2.symm,(ų n q c),(Ę o Ö),(Éb .Mult),(ŀa _ Ēl),(λx=>!x.1),(zC ť zL),(zB ùg zH),(zB Ğ zH),(w/256%256),(vY kC Òc),(vY Yb Ñc),(v7 z6 Ĝa),(ixN ú j),(f.map Ş),(a/512+Ŗd),(L++[xK t]),(.type Ńd),(.str w::_),(.list Âd),relayAll,"put_word","put_byte","pairs_of","mark_bit","is_label","bytes_of","_law_row","_law_one","__name__",z.cps.size,wpAny_load,wpAny_Name,typeIs_int,tgs.length,size_push',scope.kind,o.ExactSet,m.zd.fresh,c.zd.fresh,builtinsNs,boot_range,X.Pairwise,SeqAt.RcAt,OwnMs.snoc,OwnMs.join,List.foldl,I.ok.above,D.i1z.symm,D.TOz.symm,(wI Ws1),(eC ôb),(.own d),[.lst Ła],(Űe N vs),(į m []),(Á M×M),(zX H x o),(yf b=Â),(acc++its),(P.it r c),(E.r8 k e),(.val ĕ),(.tup Āl),(.tup úl),(.int œ),((k,x)::r),"word_of","word_at","ways_of","rows_of","look_at","is_pair","is_jump","byte_at",zf.of_get,t.dummies,reduceIte,qs.length,o.reverse,inplaceOp,collect,cellsFrom,c.toArray,c.heap.Ns,as.length,a.size_eq,a.g.trans,WData.int,W.takerIn,W.readsIn,W.findCls,W.OpenLaw,U.testBit,Str.empty,PySem.Fin,IsTup.new,I.base.uT,I.base.qN,I.base.pY,Decidable,[ðc,úg],[ĸa,ıa],[Ĳa,ŝb],[Ŧa,Ĳa],(Ăd Ųa),(œl _ _),(η Äe),(Βb ŗf),(žc _ z),(Δ ť),(Ι Čb),(Ía Ţd),(Àa _ z),(Àa _ a),(ċ _ f),(ë øa),(À Â),(λc=>?_),(xs[i]+1),(xs++[x]),(x-y-q<0),(x b u e),(x ^^^ y),(x &&& y),(vV r z6),(uH E.pW),(st::sts),(n*65536),(n*2 ^ l),(j.n X G),(b i q z),(.v d::a),(.nx σ2),(.nx σ'),(.lst z6),(.lst ws),(.lst ds),(.fz ħg),(.fz Ħb),(ë h),(.fz d),(v6 j),"summed","joined","do_row",yr.focus,ws.foldl,tgs.getD,raiseNew,qs.Nodup,pick_run,p.length,o.toList,n.natAbs,its.size,i.h.free,e.length,d.extBut,c.toList,c.h.free,a.toList,Reps.rep,OwnMs.N7,I.ok.mod,F.length,[.ref l],["four"],(Àm%26),(ůh ..),(úb VZ),(Ía 32),(σ++τ),(zM Ħd),(zM ě),(vP ps'),(vJ B _),(uK [r]),(uE 3 4),(tO q c),(qO [r]),(pD ŋa),(lo+y-1),(kv.1=k),(kP ps'),(gt T m),(eC Ĳc),(eC Ğe),(by rfl),(Ob h H),(Ma K a),(MZ K a),(MY K a),(.ref D),(.lst b),(.int 2),(.inl i),(.inl e),(.inl d),(.bl d'),"taken","needs","leads","added",xs.getD,wR.snoc,wR.mono,u.toNat,setItem,propext,h1.get?,getAttr,g.trans,a.names,Reps.ND,PySem.W,L3.getA,ElemsOf,C.trans,B.trans,(Êh k),(ĳn i),(ôf k),(ÿa x),(ÿa j),(Đa f),(Đa d),(ād/2),(źb r),(Żl _),(ĸb b),(Ŵf c),(Ļc f),(Ŕd h),(Ōa b),(Ûc j),(Ĺf h),(Ŕb i),(Ĝc k),(ń _),(ú+1),(Ï g),(Æ M),(ō w),(ō f),(À b),(À 7),(x-y-q),(wT 30),(v::vs),(s q z),(n::ns),(n+ú),(n+i+1),(j-i-1),(j+1+m),(g b a),(f œg),(f v u),(f q z),(eC V9),(b β1),(a q w),(Tv OA),(Te xs),(H _ h),(C q w),(C q c),(.bl x),"ways","used","self","rows","part",uI.fin,t'.led,r.drop,p.mono,o.bind,ns.sum,n.mono,l.most,h.push,frames,ds.set,c.size,c.drop,bubble,b.Perm,Y.drop,X.H₀,N.last,L.keep,K.keep,I.step,I.look,E.back,D.l2TO,C.mono,B.get?,B.cell,(yR 6),(xK t),(x++y),(wd r),(wG m),(uR d),(qv 1),(mA f),(lo+y),(lo+j),(k'=k),(jp 1),(i::a),(c β),(a==b),(a++b),(a β),(Xi 1),(QY K),(Ls i),[À (.fz (.lst NS)),À (.fz (.lst g)),À (.fz (.lst (wI u))),À (.fz (.lst (wI W))),À (.fz (.int (gt T 0:Nat))),A,À (.fz (.int p)),À (.fz (.lst [.tup [.str "test",.int (p%8),.int (p/8%8)],.tup [.str "test",.int (p/64%8),.int (p/512%8)]])),À (wt g (vV (.tup [.str "test",.int (p%8),.int (p/8%8)]) g) (.lst (wI u)) (.dic (kP []) (vP [])) u a1 b1 c1 [] 0 1),À (wt g (vV (.tup [.str "test",.int (p/64%8),.int (p/512%8)]) g) (.lst (wI W)) (.dic (kP []) (vP [])) W a2 b2 c2 [] 0 1),Ã],(xO (Τa (zN b) (zA 3) (wD (zC zn (zC zn zL)) (yI ĕc Ð))) (zj (yW (wD (zC (zA 3) (zC (zA 4) (zC (zW ſ zV (yg (wu (zC (Ι (zA 6)) (zC (Ι (zA 6)) zL)) (yI ĕc Ð))) (Ι (zP u8 u7 Ě zF))) zL))) (yI (zQ ĕc) Ð)))) xS),[À (Ä,s),À (Ä,.int first),À (Ä,.int most),À (Ä,.int l),À (Ä,.lst Řa),À (Ä,.int A),À (Ä,.lst R),À (Ä,.int (i:Int)),À (Â,.lst w)],[.tup [.int (Ζ (x+0)),.int (w%256)],.tup [.int (Ζ (x+1)),.int (w/256%256)],.tup [.int (Ζ (x+2)),.int (w/65536%256)],.tup [.int (Ζ (x+3)),.int (w/16777216%256)]],[.str "test",.int (p/64%8),.int (p/512%8)],(tt (λC s H b c=>(xN (i:=6) (show(vj [Ğb,"_law_many","_law_letters","_law_size","_law_word","_law_spot"] ["_law_k"]).Nodup by decide +kernel) rfl ç)) rfl),[À (Ä,.int a),À (Ä,.lst Řa),À (Ä,.int (c:Int)),À (Ä,.lst [.tup [.str "jump",.str (N[c]' Å)],xK (N[0]' Å),.tup [.str "stop"]]),Ã,Ã],(gj (tE (e2 wK (vy 1 (uq (z7 6)) (yR 9) Oo HV) (wC zH))) (tE (e2 zg (e2 yc (e2 wY (ze uj (zB ý (Β (e2 yb Ā Źc)))) Źc) (eC (.int 5))) (z7 7)))),(e2 (xq Ża) (ze uK (Β (e2 zJ Ā (z7 6)))) (e2 (xq Îa) (Ju Wn (zB (p9 4) (Β (e2 zJ ĥ (z7 6))))) (e1 V6 (ze qO (Β (e2 zJ Ā (z7 6))))))),[À (Ä,.int m),À (Ä,.int many),À (Ä,.str Ėc),À (Ä,.int (m%8)),À (Ä,.str W),À (Ä,.int c),À (Ä,.int (i:Int))],[.str Æa,.int (p%8),.int (p/8%8)],(.tup [.str "copy",.int 0,.int 0]),(.ins C dx (putF f w (fs.zip vs))),((p.setIfInBounds i (d,Ů+Y.length,K)).eraseIdxIfInBounds ï),(zC zn (zC zn (zC zn (zC zn (zC zn (zC zn (zC zn zL))))))),(λd=>match d with|.int j=>D.str (L2.cutS W Ã (À c)++lt ((m/512+j)%26)++L2.cutS W (À c) Ã)|d=>d),(rl (Uf z6 m) (Pf z6 m) T (Wf z6 m)),(ze vX (xW Ú "stands" (z7 8) zH)),(.tup [.str (źa w),.int d,.int s]),[À (Ä,.lst a),Ã,À (Ä,.int (w:Int)),À (Ä,.int (i:Int)),À (Ä,.lst (zb (W i)))],(λk:zR=>match k with|.inl i=>i|.inr _=>(0:Int)),[.tup [.int g0,.int 0],.tup [.int g1,.int 8],.tup [.int g2,.int 16],.tup [.int g3,.int 24]],[À (Ä,.int m),À (Ä,.int many),À (Ä,.str Ėc),À (Ä,.int (m%8)),Ã,Ã,Ã],(PySem.wpAny_newList (ë ⟨PySem.Code.quiet_builtin _ ãa,ĝc (entry_list_iadd') ?_⟩)),(λq z w=>by rcases z with⟨z,_⟩|z;exact z;exact j q (t q z ((u q).mpr (.inr w)))),(λr s'=>r=.ok (.ret (.bool Â))/\OldK c.heap s'.heap/\s'.os=c.os/\AllBare s'.gens),(zt (h pos i s σ H _ I k) λj a ⟨f,d,c,r,z,q⟩=>⟨by rw[<-ż];exact z,?_⟩),(VG (β':=[À ŗb,À (.fz (.lst it)),Ã,Ã,Ã,Ã,Ã,Ã,Ã,Ã,Ã]) ?_),(List.mem_singleton.mpr rfl),(((sIx Ĭ 0 lo:Nat):Int)==0&&(1:Int)==1&&(sIx Ĭ Ĭ hi-sIx Ĭ 0 lo)==Ĭ),[s0,it,À (δ (wI W1)),À (η (wI W2)),À (.fz Ĥc),Ã,x6,x7,x8,x9,x10],[À Ád,À ſa,À īb,À (δ (wI W)),À Èc,A,β6,β7,À G,À F,Ã],[.tup [.str ía,.bl Ä],.tup [.str ěa,.bl Ä],.tup [.str "sign",.bl Ä]],pendingOf,[s0,it,À (δ (wI W1)),À (η (wI W)),À (.fz Ĥc),x5,x6,x7,x8,x9,x10],(λc=>c.1=Ã/\∃y q g,st=yE y q Ã g/\vU 0 q.toList y.toList/\y.Perm x),(newList [] >>= λl=>again (.builtin "list.__iadd__" ⟨[l,.ref a],[]⟩)),[À (Ä,m1),À (Ä,m2),À (Ä,.int (n:Int)),À (Ä,.int (k:Int))],[À (Ä,.lst a),Ã,f,À (Ä,.int (i:Int)),À (Ä,.lst (zb (W i)))],(zt (u pos c s σ H _ I h) λl m ⟨g,q,n,v,d⟩=>i c m σ q g l Q n v d),[.int (x%256),.int (x/256%256),.int (x/65536%256),.int (x/16777216%256)],(λq z=>h q (ε (s q z))),(jF kM kj rfl uS gI (qH (zM ě) qd)),[.fz T,.fz (.int e),.fz İa,.fz ác],[À (Ä,.lst z6),À (Ä,.lst rows),À (Â,.dic [] []),Ã,Ã],(l.map λp=>⟨PyData.keyHash w.params p.1,.str p.1 p.2.1,p.2.2⟩),(.Attribute o name apos),(Ěc (ë ⟨_,rfl, Řb,_,⟨_,Ţ _ rfl,rfl⟩,QX.lookup,?_⟩)),(uF 1 (xQ (ze Wh (Β (e2 wY (Ιa (zB Ď zH)) (eC (.int 9))))))),(zt (o pos m s σ H _ I h) λy z ⟨v,B,c,r,q⟩=>⟨c.xy,?_⟩),((cond a [.int 0] [])++(cond c [.int 1] [])++cond d [.int 2] []),["_law_items","_law_one","_law_other","_law_ahead","_law_more"],(λr=>pure (.done (À r,e.2.1,e.2.2.1,e.2.2.2.1,e.2.2.2.2.1))),(zB (e1 (xM [İ] ąa) ý) (Β (ze ZJ (zB ý (zB Ā zH))))),(ë ⟨_,rfl,ë h⟩),[.fz (.lst z6),.fz (Α (wI a)),.fz (Α (wI b)),.fz c,.fz f],(λxs H Q=>∃a kvs,xs=[V.ref a]/\Rd H a ùa/\Q (.int ŗ) H),(tQ (tE (e2 zg (e2 yc (Ιa (zB Ď zH)) (eC (.int 9))) Ğ))),(setNext a (n:Int).toNat (i:Int).toNat (ep:Int).toNat >>= _),[.int g0,.int (g1*256),.int (g2*65536),.int (g3*16777216)],(ux Ž xo),(by rw[typeLookup_type,builtinLookup_eq_fast];kernel_rfl),(a::b::zr),(.tup [.str k,d,s,n]),(.done (À (k_ a b (Ť q) i (j+1)),Ť q,i,j+1,g,k,u)),(PySem.wpAny_runValue (ĝc (entry_proto_collect') ?_)),(.tup [.str (źa w),.int (d:Nat),.int (s:Nat),.int n]),(λr=>pure (.done (À r,d.2.1,d.2.2.1,d.2.2.2.1,g))),(uF 1 (xQ (vY Yd (zB ý (zB Ğ (Η (.int 12))))))),(if t then Yg [.int x,.int n]else Yh [.int x,.int n]),(.ListComp (.List [] p) [⟨tg,iter,[],0⟩] Ľ pos),(yF 3 (e2 zJ (ze UY zH) (e2 yc ý (eC (.int 28))))),(.yield (Ã,e.2.1,e.2.2.1,e.2.2.2.1,e.2.2.2.2.1+1)),Nat.not_lt_zero,(jf (ux Ž qS) (IY (yG kR b rfl Đe) (IY Ÿc qX))),(.tup [.str k,d,s]),(if v<0 then max (v+(n:Int)) 0 else min v (n:Int)),(.tup [.str ōa,.int (d:Int),.int (s:Int),.int n]),(.tup [.str Ŋa,.int (d:Int),.int (s:Int),.int n]),(.tup [.str ŉa,.int (d:Int),.int (s:Int),.int n]),(.tup [.str ńa,.int (d:Int),.int (s:Int),.int n]),['r','o','t','a','r','e','t','i','_','t','e','s'],(ĥb [a,b] Ö=[(Ä,Ę a Ö),(Ä,Ę b Ö)]),(λ_=>ô ⟨_,rfl,Y5.go ⟨h,f,d,by omega⟩⟩),(zt (k e s σ H _ I h) λv j ⟨x,g,f,l,d⟩=>?_),(if v<0 then(v+(n:Int)).toNat else min v.toNat n),(Zy 8 Yy (Θ (eC Ğe) (Β (e2 zJ Ÿ (z7 7))))),(qR 0 Ëd (Yq (ze ZJ (zB ý Ñc)) (Yq Ĵf wq))),((Õd a (ÿb λ_=>#[])).push (seqObj Ũ ťa 0)),[ĵa,"add",ča,"sub",Ča,"and","or","xor",Æa],(λi=>decide (0<=i)&&decide (i<1099511627776)),(by rw[I.ok.glob];exact I.mod.glob.keeps I.bk),(by first|rfl|(simp only[firstArgMember];rfl)),List.take_sublist,[À (Ä,.dic Ĩ ŕ),À (Ä,.int x),Ã],(zt (k d s σ H _ I h) λc j ⟨g,f,e⟩=>?_),(o (E.go d) c λv t w l j=>q v _ _ (ĵe l) j),(kvs.map λkv=>if kv.1=k then(kv.1,y)else kv),(e2 (xq Îa) (e2 qB ĥ (e2 yb Ìb Ŋ)) Ğ),(assign (.Name x f) Ö),[D1,.tup [.str k,.int (d:Int),.int (s:Int)]],(ņd (Ì (ěb hz rfl (x:=.ref TO) rfl ?_))),(À (Ä,xC T e fw fh (wG s) due done)::τ),(λq=>(o q/\¬ E q)\/((E q/\¬ L1 q)\/L2 q)),(uo yq P w K mg È N c ı f g A þ s H E),(uo yq P w K mg È N a ı f b A þ s H E),(ds.map (λd=>À (Ä,d))++į (n-ú) Ã),(Builtin.«zip.__next__» ⟨[.ref z],[]⟩),(uc=Ä->k = "add" \/ k = "sub" \/ k = Æa),(.tup [.str Æa,.int (d:Int),.int (s:Int)]),(Θ (eC (.str ĵa)) (zB Ď (zB Ď zH))),(yF 1 (e2 (xq Ża) Ā (ze Yf (Η äd)))),(uo yq P w K mg a N x ı f c A þ s H E),(uo yq P w K mg a N q ı f c A þ s H E),(if(i==0)=Â then 0 else i.natAbs.log2+1),(if([]:Á Keyword).isEmpty then 0 else 1),(.tup [.str (źa w),.int d,.int s,.int n]),(ċb x a ůb Ûa ı .none kV d g h b ct),(δa (λi j=>wy i+wy j<=134217728) (i*j)),(Β (e2 zJ Ā (e2 yc Øb (eL j6 Ñc)))),(p[Èa]'(by rw[<-w.ln];exact(ō hds).1)),(gi (uy (QV .list rfl rfl gx jO Jk þb))),(by rw[<-m];exact Nat.not_succ_le_self _),(.tup [.str k,.int (d:Nat),.int (s:Nat)]),(.tup [.str (źa w),.str (źa k),.str t]),[o0,o1,o2,o3,o4,o5,o6,o7,À Ĭd,o9,o10],[o0,o1,o2,o3,o4,o5,o6,o7,o8,À Ĭd,o10],(λw d=>Ie f g r c w (by simpa using d)),(zC (wb Ě qS) (Δ (yG kR b rfl Đe))),(by first|exact .inl ãa|exact .inr ãa),(Xo (by rcases g with rfl|rfl<;>decide)),(.dic (kP (gc ps x w)) (vP (gc ps x w))),List.length_filter_le,Array.Perm.refl,(ċb Ěa q ůb Ûa ı m kV j d h a ct),(åa { cls:=.type Üa,ü:=.dict #[] }),(vG X Ľ cl own C s2 H2 fp (X.pn++z8)),(.Call (.Subscript Šd k o) ď [] pos),(m/512+(i:Int)),(λq a b=>dj q ((àa).mpr (.inr a)) b),(uo Q P w K J l N g d f G A þ s H E),(j.pin (b,o) (ŀa _ (ŀa _ (Ig a e)))),(Z.pin (b,o) (ŀa _ (ŀa _ (Ig d e)))),(PySem.F.args_tuple_iterator_next_1 _),[Yv z6 T2 f2 g2 Ws2 a2 b2 c2 ps i j2],[Yv z6 T1 f1 g1 Ws1 a1 b1 c1 ps i j1],(ċb x a ůb Ûa ı i kV d g h b ct),(ċb m q ůb Ûa ı h kV g c d a ct),(zX H l (Α ((isort ns).map V.int))),(vj [Ùa,"rows"] ["number","target"]),(m (E.go d) c λp s j=>q _ _ (ĵe j)),(if x∈cs then getA fs a f else Ã),(if wd _ = ŏa then[p]else two ï p),(if k'=k then À v else ą ks vs k),(e2 yc (e2 yb Ìi Ÿ) (eC (.int 8))),(À (.Name x pos')),Builtin.SmallTypes.ownedTupleHandOut,(λv:Int=>decide (v/2147483648%2=1)),(backToKw cpos (keywordEach [] Ö)),(.Tuple [.Name x g,.Name y k] f pos),(.Tuple [.Name x e,.Name y f] c pos),(.ListComp f [⟨tg,b,g,0⟩] a pos),(ċb ħ c h i a Z kV z pm an d ct),(Ħ ((P:Int)/2 ^ ((k:Int)).toNat)),(Ïc (show uI _ _ _ _ _ from h).sx),(Υ (jH t a b y) (Va t a b (x+1))),(λc=>by subst c;rw[l]at n;cases n),(zt (d b s σ H Q I h) λc f e=>?_),(zW Ňd zV (wb Ě ZW) (wb Ě j0)),(e2 zJ (e1 (xM [İ] ûb) ý) Ōh),(e2 zJ (e1 (xM [Ú] ňa) ý) Ůh),(.tup [.str (źa w),.int d,.int n]),(Ñd y=À .cell\/Ñd y=À .free),(δa (λ_ j=>0<j/\j<2 ^ 64) (i/j)),(ěb hz rfl (x:=.bool Ä) rfl ?_),(Gc rfl Xq (yg (uw Td b rfl Ťd))),(.Call (.Name ña p) [a,b] [] pos),PySem.F.entry_tuple_iterator_next,(λq z w=>B q ęe λF=>w (j q F)),(qZ (xN (i:=9) qe.nd rfl ç) XW),((ę h).resolve_left λz=>c ÿc),(!w.params.followText Ïd && Če),(tQ (qJ (tE ćl))),PySem.F.slot_dict_getitem.lookup,PySem.Calls.Name_function_global,[.tup Ìc,.tup ğc,.int (n:Int)],(ěb hz rfl (x:=.ref TI) rfl ?_),(λm f c i s o=>j m f c i ğl o),(λm b a c s o=>i m b a c ğl o),(zC (ζ (zP xF xE Čb Ġl)) zL),(g0+g1*256+g2*65536+g3*16777216),(.fz (.lst [.tup Āl,.tup úl])),PySem.Calls.call_function_entry,PyProof.Rows.slot_tuple_getitem,[.own ĕe,.fz ĺc,.fz (.int w)],[.lst Ła,.int first,.int most],[.int w,.int 16,.int 16,.int n],(δa (λ_ j=>0<=j) (i/2 ^ Èa)),(ĥb [b] Ö=[(Ä,Ę b Ö)]),(ĥb [a] Ö=[(Ä,Ę a Ö)]),(Α (L.map λl=>D.lst (zb l))),(ěb hz rfl (x:=.none) rfl øa),(Υ (jJ t a b y) (Vb t a b x)),(λp=>if p.1=a then(a,b)else p),(zP Zs Zr (zP jm jj zF ŀ) zF),(rI Lw λi j=>.int (i*2 ^ Èa)),(kvs.any λkv=>decide (kv.1=k)),(jG left (w8 f) λi=>K x (b+i)),(PySem.F.args_dict_get_3 _ _ _),(Nat.le_of_sub_eq_zero (Ŷh c)),((σ++į 2 Ã).set i (À b)),(zP jm jj zF Ħd),PySem.wpAny_comprehension_free,Array.perm_iff_toList_perm.mpr,(Ďe (es:=es) (t:=t) c i d ?_),(λq z w=>t q z (ε (i q w))),(λq z w=>B q (ε (i q z)) w),(λb o f e=>(R.2 b f).trans e),(X.take k++r.toList++Y.drop e),(PySem.F.args_tuple_add_2 _ _),(.rt (.fz ĸ) (À Ád::β')),(.rt (.fz ĸ) (À ŗb::β')),(.Call (.Name c p) ď [] pos),List.eq_nil_of_length_eq_zero,(Đ t==Ĭb),["ways","comers",ĺb,ŝb,Še],(ωb (.bl (!decide (x=.zK)))),(Ħ (x/2 ^ ((l:Int)).toNat)),(Ħ (g*2 ^ ((n:Int)).toNat)),(Ļ ī ī hi-Ļ ī 0 lo),(Ļ â â hi-Ļ â 0 lo),(λq=>(t i q/\¬ L1 q)\/L2 q),(.tup [.str w,.int d,.int n]),(.call (.ref N) ⟨Ôa,[]⟩),[.int (i:Int),v],((è).length+1),[À (Ä,.lst ĺf),Ã,Ã],[À (Ä,.lst a),Ã,f,x,A],[st Ī a b c hk hv,.fz ŗh],[st Ī a b c hk hv,.fz ėb],(ĳc e Ã ňc Ö=pure Ä),(λc f m e=>i a d j c f m e),(wD (zC ť (zC jq zL)) Īd),(vj ["four"] ["byte","low"]),(st Ī Ä Ä Ä Ÿb ŷb),(st Ī Ä Ä Ä Ĩ ŕ),(setField łc 2 .none >>= _),(if g=f then À u else k g),(Zn (vQ Ď Íg) (je 10) Zl),(!(Ŵh j i 0 Ðb 1).isEmpty),Builtin.List.listLengthHint,Builtin.List.listExtendWith,[x0,x1,x2,x3,x4,À Ĭd,x6],[x0,x1,x2,x3,x4,x5,À Ĭd],[.str ŏa,.str (N[k]' Å)],(Ģb e f Ö Ře=Ę e Ö),(λq=>(o q/\¬ L1 q)\/L2 q),(λq=>(L q/\¬ L1 q)\/L2 q),(λd1 d2 v=>Jx I n d1 d2 v),(zW ſ zV (wb Ě ul) Ęb),(e2 pA (e2 vH Ğ ĥ) Ğ),(by rw[e];exact⟨_,g,q⟩),(.own (.dic (kP c) (vP c))),[ňa,Ŀb,Óc,īc,Ŧa,"due"],(e2 yb Ā Ğ),"dict_reverseitemiterator",Int.fdiv_eq_ediv_of_nonneg,Builtin.Slice.sliceApplied,Array.toList_setIfInBounds,(λb p=>b++sep.cps++p.cps),(ya CT CP þb (zM Xd) Åa),(vn z6 L T (b++[m]) x6 x7),(uw IK a rfl (zC Ě Úc)),(if p.1=a then(a,b)else p),(by rw[mirror_size];omega),(W.methodObj ĕ (.ref y)),Option.map_eq_some_iff.mp,(İb (Ąb q ı Õ f c)),(İb (Ąb c ı Õ f g)),(İb (Ąb a ı Õ f b)),(τ.set i (À (Â,d'))),(λf vs=>PySem.call f vs),(xN (i:=8) qe.nd rfl ç),(rule "list.sort.gallop"),(by simp at hn ⊢;omega),(X.N.map (hide own)++own),(VH (gO ý) (uE 3 4) Tx),(SK ĝ (λb a=>þc.1) k),(.nx (Ξ (À (Â,a)))),(.ins C dx (putF f y fs)),(.Compare a [op] [b] pos),(j.2 a l.symm),slot_list_getitem.lookup,PySem.F.type_list_append,PySem.F.slot_tuple_index,PySem.F.slot_list_append,Builtin.List.listSameRef,["one","other","borrow"],(δa (λ_ j=>0<j) (i%j)),(Ť q++ýb Ëa (j+1+m)),(Îa w (Ŕb 4294901760)),(xs.drop (Ļ â 0 lo)),(by unfold zB;rw[i];rfl),(by rw[d];simpa using n),(Option.map (λx=>!x) y),(.Attribute o "get" Ìa),"itertools.zip_longest",PySem.F.entry_tuple_add,Nat.testBit_mod_two_pow,Nat.testBit_div_two_pow,List.length_pos_iff.mpr,List.getElem?_cons_zero,List.getElem?_cons_succ,F.entry_set_update_loop,Builtin.Dict.updateFrom,[.int a,.int (Y9 ps a)],(Ι (zP u8 u7 Ňa zF)),(λx l r Q c P O N=>?_),(λv:Int=>decide (v=0)),(zB (eC àc) (Η ūd)),(vn z6 L Ęi b Êc Ċe),(by show 2<=Ý;decide),(by rw[z];exact ĵ ..),(by rw[xr Å];exact w),(L.set w (gl L w++[i])),((è).map λr=>ub Ŭd),(ŕd%65536+3),(ŕd%65536+2),(ŕd%65536+1),(ŕd%65536+0),PySem.F.slot_tuple_add,PySem.F.entry_dict_get,PyProof.Rows.bitAnd_pp,Nat.testBit_lt_two_pow,List.pairwise_lt_range,[.int 0,.int 1,.int 2],(λq z=>(àa).mpr ęi),(λq z=>(àa).mpr ťb),(λc=>OT x (z+1) c st),(λb o g e=>S b o g e),(λb o f e=>Z b o f e),(zC (v4 TM Q7 rfl) zL),(yg (uw TZ b rfl ře)),(yF 5 (e2 yc Ąi ĥ)),(yF 4 (e2 yc ý ĥ)),(yF 0 (Φa (.int 28))),(uP T ūb &&& Pf z6 m),(rI C λi j=>.int Ñb),(r.trans (ŝc e.gh i)),(by rw[ä,ĕa];omega),(by rw[<-ła];exact a),(OQ a b (Ť q) i äb),(L.foldl (uG t) (m,o)),(.int ((i+1:Nat):Int)),(.Subscript Âa k ôa),(.Call Ĥl ď [] ź),(.BoolOp .And [a] pos),"RowMachine.__init__","PUT_NOUGHT_AND_SIGN",X.s₀.heap.FunFrames,Std.Legacy.Range.size,PyProof.Rows.wpS_lift,Nat.add_lt_of_lt_sub',List.nodup_append.mpr,List.length_singleton,List.getElem?_zipWith,List.eq_nil_or_concat,List.dropLast_eq_take,List.concat_eq_append,List.Pairwise.sublist,Int.mul_ediv_add_emod,[ňa,Ŀb,Óc,īc,Ŧa],[Źa,ľe,"_law_most"],[.int x,.int (n:Int)],[.dic Ĩ ŕ,.int x],(Âf đ f.toArray 0),(Âf đ d.toArray 0),(Ζ ((x+n)%65536+3)),(Ζ ((x+n)%65536+2)),(Ζ ((x+n)%65536+1)),(Ζ ((x+n)%65536+0)),(x.above y c (Śf h)),(vn z6 L T b Êc Ċe),(tO (u.uT b c v q) d),(j5 (tE ĥ) Ğ Ď),(es.getD p (0,.none)),(by simpa using this),(by rw[w1.l];exact e),(by rw[g,k];exact hz),(Rf I n l hf i f d g),(OU D.l2i2 L.toArray),(OU D.l1i1 J.toArray),(F.args_zip_next_1 _),(.Slice lo hi Ã p2),(.Pass ⟨0,0,0,0⟩),(.Call Šd [] [] pos),(.Call Ĥl [] [] ź),(.Attribute o f tpos),(ds.set n y),(.ret .none),"str_ascii_iterator","itertools.pairwise",wpAny_loadName_local,codeAny_call_builtin,Nat.add_le_of_le_sub,List.set_append_left,List.length_eraseIdx,List.length_dropLast,Calls.evalArgs_plain,Array.toList_reverse,Array.toArray_toList,[.Attribute o f ôa],(γ (Zb .list ý)),(Űd 0&&p.testBit 0),(λz=>e (a.trans z)),(λq z=>i q (j q z)),(λq z=>h q (s q z)),(xz x y&&dEqs xs ys),(w a/2147483648%2=1),(vn z6 L T b Êc x7),(tE (e2 Ze ý Åf)),(if a then 1 else 0),(by rw[Ģ];exact b),(by rw[Ĕ]<;>omega),(by rw[é];exact c),(by rw[wv];exact s2),(by rw[wv];exact s1),(by rw[p.l];exact q),(Z0 a b Åe (i-1) j),(XC I j f hv ?_ o a),(Nat.le_add_left ..),(.inr (i q (j q z))),(.Subscript o k ôa),(.Subscript a b pos),(.Call c ď [] pos),(.BoolOp op [a] pos),(.Attribute o f ôa),((d q).mpr (.inl c)),"dict_itemiterator","Machine.registers",z.cps.toList.length,ws.take,wpAny_setEntries_of,wpAny_loadName_cell,wpAny_letGo,beq_eq_false_iff_ne,List.replicate_zero,Builtin.Range.small,[Ĳa,"low",úg,ŝb],["one","other",ía],(Ζc (.Name ãc p)),(Ζc (.Name ña p)),(Νb (.Name Üa p)),(ωb (θa (x=.zK))),(ċ _ (ċ _ Üd)),(À (Â,.lst xs)),(λx l r Q c q=>?_),(λ_ h=>by cases h),(zW ſ zV Ňa Čd),(zC zn (zC zn ňi)),(vy ðb fs fg ft f),(vZ ps şd (v%256)),(tO (u.qN b e q) d),(tE (Ξa (eC ób))),(storeName Ö x u),(qb λi j=>.bl Ñb),(intBits_le_64 b a),(hv b s σ H _ I h),(f x y&&p7 f xs ys),(by simpa using hz),(by simpa using hj),(by simpa using h2),(by simpa using e2),(by simpa using e1),(Xc (uy ŀ) zF zF),(Obj.putSet es2 t2),(.tup (p.1.map kV)),(.ret (.int j Ĉ)),(.Tuple ŏh kk ôa),(.Tuple ŏh kk pos),(.Tuple elts kk tp),(.Assign ŕf v pos),(.Assign Ŏf v pos),(zU (zN d)),"internal:collect","dict.update.loop","Machine.__init__",s.heap.IsTupleIter,getattributeRaised,decide_eq_true_iff,SetTable.orStandIn,SeqAt.EqAt.str_int,SeqAt.EqAt.of_refs,SeqAt.EqAt.int_str,Obj.data_mapFields,Nat.lt_of_le_of_ne,List.zip_nil_right,(őe (ļa b.gh c)),(Χa (ĥb es env)),(λx y=>D.tup ċc),(λv _=>v=.bl Â),(λb u e=>ċ _ e),(λb B G q=>I b q),(λ_ h=>Û h ê),(β.set i (À a)),(zX G p (.tup vs)),(zW Ňd zV Čd zF),(zP xf xZ Ě ě),(zP jl ua ě ųh),(zP Ir Io Ě ě),(zB ĥ (Β Ľd)),(y_ (įa (Č g))),(wpAny_handled ?_),(vB [] [] p.1 p.2),(qz (β.take Ē)),(h c s σ H _ I b),(call õb (v::us)),(by simpa using t),(by simpa using k),(by rw[řa];omega),(by rw[ţ,z];rfl),(by rw[Ă];omega),(by rw[Ă,Ă,l]),(by rw[z];exact a),(by rw[i];exact U),(by rw[i];exact O),(by rw[d];exact c),(by rw[dG];decide),(args_list_sort _),(Os t1 t2 h l1 l2),(Oq t1 t2 h l1 l2),(OL a b Åe ï j),(.obj Ú ĳf ġl),(.Tuple es x1 pos),(.IfExp c a b pos),wpAny_storeSet_of,wpAny_setEpoch_of,wpAny_pyIter_slot,wpAny_pyIter_enum,wpAny_assign_Name,s.heap.IsListIter,d.params.defaults,Value.isInt_shape,Option.isSome_map,Nat.or_lt_two_pow,List.getElem?_inj,List.foldl_append,List.drop_sublist,List.any_eq_false,List.Pairwise.map,Heap.get?_push_ne,Calls.spliced_nil,Builtin.Str.glued,Bool.not_eq_true',[ōa,ŉa,Ŋa,ńa],[.lst Ła,.int k],(Ŧi b o e n C t),(ų i q (p q z)),(ų i q (I q z)),(ŷh _ _ (Ļb v)),(Ąb g d Õ f G),(λz=>by cases z),(λx=>x.1.isSome),(zX m i (.own y)),(zP xf xZ ŀ zF),(zP xF xE Ě zF),(y.toList.map w8),(x.toList.map w8),(w6 g wE e σ ds),(vJ (s.free A) _),(not_not_intro z),(i<1099511627776),(by rw[c];decide),(List.cons.inj a),(.tbl (ps++more)),(.Return Ñm pos),(.Dict [] [] pos),(v7 Ĵc r),(.int 512),"odict_iterator","State.__init__","REGISTER_COUNT","Machine.stands","Machine.memory",z.cps.toList.map,wpAny_pyIter_zip,wpAny_getItem_of,wpAny_execs_cons,noFill_tuple_add,e.heap.objs.size,b.heap.objs.size,W.cellsFrom_some,Option.getD_none,Nat.succ_lt_succ,Nat.min_le_right,List.map_fst_zip,List.isEmpty_nil,List.filter_cons,List.countP_cons,List.any_eq_true,List.all_eq_true,Int.ediv_le_self,Heap.size_update,F.entry_zip_next,[p0,p1,p2,p3,p4],[.int i,.bl Â],(òd λd=>!yh d),(λz=>h (Ûd z)),(λq=>nomatch q),(λh=>Û h úa),(yE x ăl Ã g),(wT (m%8).toNat),(wC (zB Ď zH)),(vB [] [] ks us),(qz (β.take b)),(d.zd.fresh Ċ),(by simp[ũd,a]),(args_sorted1 _),(a.symm.trans e),(.obj Ú [] []),(.inr ⟨k,l⟩),(.inl ⟨z,w⟩),(.inl ⟨k,l⟩),(.inl ⟨c,w⟩),(.fresh 0 0 Ĉe),(.done (Ã,())),(.cons rfl .nil),(.builtin "sum"),(.builtin "all"),((ōe).length=n),"type.__call__","Machine.place","Machine.marks","Machine.again","LOOK_AT_CARRY",wpAny_loadPart',u.toNat.testBit,sc.names.lookup,es'.toList.Perm,entry_list_sort,codeAny_of_tree,W.methodCall_KW,List.zipIdx_nil,List.filter_nil,Heap.DictOf.new,F.slot_set_iter,F.slot_int_rmul,F.plain_set_new,[.at [İ] ûb],[.at [İ] Çb],[.at [Ú] īc],[.at [Ú] Óc],(Ε (i+b2i k)),(Ε (Y9 ps a)),(Âf đ out c),(Âf đ #[] c),(Εc (že ï)),(ŭa W Ċa Ã),(ŭa W Ã Ċa),(ŕb (ïb x z)),(ĥb [e,f] Ö),(Α (xs++[y])),(Δ (ζ Čb)),(σ++į 1 Ã),(σ++[À ŝ]),(λ_=>.inl rfl),(xq λi j=>i+j),(vk ks ms k m2),(tM ím Ûi tN),(q _ _ _ d rfl),(h.swap.pa e c),(gg rfl vo ť),(f x (Ã,l,r)),(e2 zJ Ŋ Øb),(e2 zJ Ŋ Ď),(e2 zJ ĥ Ğ),(e2 zJ Ā Ŋ),(e2 zJ Ā ĥ),(e2 zJ ý Ŋ),(e2 zJ ý Źc),(e2 yb ĥ Ğ),(e2 yb ý Ā),(e2 wY Ÿ Ńe),(e2 qB ý Ā),(e.2.2.2.2.1+1),(Tn I l g ?_ a),(SZ λi j=>i+j),(OX sp [] E0 t),(K.set ąb.1 r),(K.ext.trans x),(I.ok.WE b o e),(11*ģm-jt Ŀf),(.nx (Ηb Œg)),(.nx (Ξ ĥc)),(.bl (vO ks k)),((śm).trans y),((àa).mpr Ĵb),((u p).mpr rfl),"str_iterator","Machine.step","ADDRESS_BITS",sortedHeap_old,slot_list_sort,sliceRange_one,slicePart_none,recursionLimit,list_sort_tree,isSubtype_stop,firstArgMember,env.scope.kind,entryFor_alias,c.resolve_left,Value.type.inj,PyData.keyHash,Nat.add_le_add,List.forIn_nil,List.Perm.swap,L.toArray.size,J.toArray.size,Bool.and_false,[.dic Ĩ ŕ],["row","need"],(Łb [:n] c f),(Žf tg üb u),(ıe (Ã,())),(Α (zb Åi)),(Đ Ķa::Ãe),(Á V×Á D),(λi=>ľg i 0),(λ_ _ _ e=>e),(β'++[À m]),(yE x p Ã g),(xI x&&čd xI),(x-y-qE Ä<0),(wL ks ds x y),(vJ (ýj i) _),(v4 TR QB rfl),(v4 TQ Q9 rfl),(v4 TN Q8 rfl),(v4 IC O4 rfl),(uG t (m,o) d),(qY fs vs f w),(qY fs ms f e),(pre_splitW b),(m.2 a l.symm),(l.lst hl íb),(h [] Ùf Ąd),(glued sep ts),(gk Ħa tgs n),(d2 q (B▸f)),(cutS z lo hi),(by rw[l,Ðb]),(a.getD i Ä),(St->Hp->Prop),(R.filter ęj),(Oa (Jd w).pr),(H _ _ Å ?_),(Cw _ _ _ _ _),(.obj x fs ms),(.int Ñb Ĉ),(.int (w:Int)),(.int (n:Nat)),(.int (m:Int)),(.int (a:Int)),(.ins C dx []),(.fresh 0 0 b),(.List es pos),((a/64+Ŗd)%8),"list.append","_law_second","__getitem__",x.toList.drop,subscriptTail,sortedHeap_at,seq_tuple_add,s.heap.IsCell,listUpdate_at,i.natAbs.log2,h.IsTupleIter,evalPart_none,call_list_seq,a.toArray.any,WData.layable,W.callWith_K0,Value.isStrOf,SetTable.laid,Reps.dropLast,NameKind.free,NameKind.cell,List.set_comm,Int.reduceSub,E.ext.gh.free,E.ext.g.trans,Bool.true_and,Bool.and_true,A.in1.handled,[ňa,Ŀb,Óc],[Ğb,ái,ńe],[z,TI,TO,r,t],(Ėb Îg Ôa),(Žg (Ýf n)),(Ε (2 ^ w)),(Że _ _ n x),(że Ħ Ÿh),(ýc (ĵe z)),(Εc (že i)),(Ųh (żh d)),(Ę Ða Ö),(ŭa z lo hi),(η (wI W2)),(Éd ď Ö),(Αb (ìa c)),(δ (wI W1)),(σ++[À b]),(λr=>ub Ŭd),(λo j=>o++j),(λi h z=>?_),(zj (yW ě)),(zX H' D åc),(zM (yg Ĝe)),(xx.size-1+1),(wI (åb ps)),(wI (W++[v])),(vk A a k m'),(vZ ps x Óe),(rl u p T ws),(qf Xm a ýf),(qf Vg a ýf),(qf Vg a Ţc),(putO o x Ws),(ps++[(a,b)]),(pH r.2 i π),(kY kvs more),(i p (j p w)),(gc ps şd v),(b.gh.free c),(a/2 &&& p/2),(Za xs lo hi),(Y9 ps a≠0),(P.testBit k),(OJ dW dQ zF),(N[k+1]' Å),(H _ _ lo ?_),(EP X c σ Q),(.str s t::r),(.str (i++j)),(.ins C i []),(.Name įb p),(.Name đ p),"_law_other","_law_found","ALL_NEEDED",setNextDrawn,plain_sorted,p.mem_iff.mp,ns'.Pairwise,h.symm.trans,h'.objs.size,entry_sorted,e2.length_eq,call_range_1,call_meetsIn,c.toList.any,c.symm.trans,W.kitx_tuple,SetTable.has,OwnMs.length,Nat.mul_comm,Nat.lt_asymm,Bool.or_true,Array.toList,(Ņj t es n),(ša .NotEq),(Α (x::r)),(Ěc ?_ ėi),(į ž xs),(λc=>l ée),(za (r::z6)),(zX H l Ųe),(zX H l åc),(zC ŀ ÿg),(zB ĥ Ųd),(y_ (Ŭ f)),(yE y p f g),(xM Ęj Çb),(xI j&&xI o),(wu Úc ĳd),(wD ňi ĳd),(vQ Ď Ìb),(vQ Ď Ŋ),(uq (eC VA)),(ue kvs k y),(tC (.ty T)),(qG m π m2),(qG P π m2),(okb.UF b d),(newList []),(m.append o),(loop _ rfl),(is.map Ħ),(i+1+1==ĭ),(hr.mono hk),(by exact O),(by cases h),(b.h.free c),(b (tP r.2)),(a.h _ _ e1),(Zg X.K n t),(Ws[0]' ťf),(Op t1 h l1),(I.mono d.g),(I.YR x c e),(B.bs b o e),(.type T.nm),(.tup [v,u]),(.tup [u,v]),(.int 65536),(.dic ks ds),(!a&&!c&&!d),"_law_word","WORD_BITS","PUT_CARRY","LOOK_AT_S","LOOK_AT_D","BYTE_LOWS","BYTE_BITS",xs.dropLast,wpAny_throw,wpAny_in_of,unsupported,subscripted,seqEpoch_at,o.ExactDict,mirror_perm,l.objs.size,kind_sorted,interactive,ds.dropLast,c.objs.size,binarySort',acc.toArray,W.kitx_dict,Value.isInt,Value.bytes,Shared.heap,Paired.snoc,OwnMs.split,Option.none,Nat.add_mul,List.range',IsRangeIter,IsRange.new,Int.mul_one,I.ok.qm.mem,I.ok.frames,Heap.ExtBut,F.heap.get?,E.ext.trans,D.TOi1.symm,Code.guards,Code.frames,C.length_eq,Builtin.Str,B.objs.size,[m,.fz ţe],[m,.fz Ĝa],[a,.fz Łl],[a,.fz ĵl],[S,.fz Łl],[S,.fz ĵl],(θa (i=j)),(Ę e env),(Ę a Ö),(ψ (i-j)),(Ċl∘Ş),(ýb m äb),(Ěc Ĭl a),(ŀa _ ĵ),(ņ őc f),(Àa _ ĳb),(į k its),(À (_,d)),(ze Wa ņc),(zX H' D o),(zX H x o'),(zC ŀ zL),(zC Ħd zL),(zC zn Ąl),(zC w zL d),(y j q l z),(x_ I q ?_),(wp ĥ wq),(wp Ā wq),(wb Ě j0),(w_ ks Æf),(vx (v6 s)),(vx (v6 f)),(vI ŀ qX),(vI ě qX),(r0::za z6),(j.trans m),(j.cut l h),(fs.zip vs),(eL j6 Ñc),(e1 TH Ğ),(b++gl L m),(as.zip vs),(SP X z8 D),(N[0]' Å),(Fn f y fs),(11*Ĝ-s'),(.wU o Ğa),(.type Ļa),(.rt Â d),(.rt Ä d),(.rt m β2),(.ok .next),(.Name x f),(.Name c p),((i:Int)<l),"__iter__","MARK_LOW",x1.g.trans,uW.none_of,typeLookup,pushGuards,ps'.length,places.map,nds.length,l.swap.fin,isTrue_and,cond_false,closureFor,checkCount,bind_assoc,b.Pairwise,acc.length,Walks.list,WShape.has,W.handedIn,Subscript_,OwnMs.putF,Nat.mod_lt,D.i2z.symm,D.i12.symm,[p0,p1,p2],(òe V.bl),(šc .inr),(Ñg C dx),(ŧa<1000),(įa this),(â==œ),(į k xs),(Â==Â),(Õ==Êj),(λq=>q=y),(zX H q o),(zX H a d),(zX H T o),(zX H D o),(zX G p u),(zX G p o),(zC jq zL),(yF 6 Ìi),(yF 2 Ď),(yF 1 Ď),(xz d1 d2),(w/2 ^ 31),(vw èg i),(v_ its k),(vZ c u v),(vV r0 z6),(v.db íb),(ue f k v),(truthy v),(o b ob e),(j+1==Ū),(hb _ _ d),(gt T ï),(gf 1 çi),(eL FL fs),(by rw[h]),(by rw[c]),(arrOf st),(a.d4 X G),(Zw b=Â),(YR y c e),(P.zip vs),(J b ob e),(Hp->Prop),(2 ^ 63-1),(.tup Ģm),(.tup Āg),(.tup Ìc),(.str Ąa),(.str Ėc),(.str x t),(.ref Ŝd),(.ref Ža),(.lst ċc),(.lst è),(.int ąi),(.int Ñb),(.int ī),(.int â),(.inr Ĵa),(.inr ěa),(.inr ía),(.bl (!k)),"Machine",zs.length,z.sameBut,ws.length,updateSeq,t.advance,strValues,spos.line,sortRuns',slicePick,sh.extBut,sg.extBut,s.heap.Ns,rows.getD,putSet_of,pu.isList,ok.frames,newFields,l.swap.sa,kvs.foldl,isTrue_or,i.gh.free,i.g.trans,hide.eq_1,h.swap.ca,h.g.trans,h.IsTuple,h.DictOfH,getMethod,g.isEmpty,g.gh.free,es.length,d.sublist,countRun',cond_true,c.gh.free,b.testBit,Reps.take,Reps.getK,Reps.getA,Reps.drop,O.toArray,I.zd.kept,Arguments,[çe,Še],[ňa,Ŀb],[ĉa,Ąa],[ļ,čb],[Çb,ûb],[Ùa,Še],[Ğb,ńe],[Źa,ľe],[w,x,y,z],[v,ov,iv],[a,.fz r],(ğd a l),(ôh ï),(Âk ő),(òe Ş),(Ķn øa),(ĳn ï),(èe üb),(υa Āk),(ľg i 0),(Ďd ĩh),(Ęm=Â),(Ăd Đ),(ŝc s A),(ŗc s h),(źl _ _),(ζa ži),(χb ăi),(Ηb Ĉn),(ψ Ñb),(Ŧ Ŝd),(υ Ęm),(ša .Eq),(Ρ ňf),(Φa þo),(Α ţj),(Α Ïh),(Α żb),(Α İd),(Η Ėg),(Η Ĳc),(Η Íb),(Η ób),(Ζ Án),(Ζ Àn),(Ζ ſm),(Ζ žm),(Ė rfl),(åa łd),(Ι ġc),(Β ŀm),(Β ăd),(Β Ŗb),(Ŭ őc),(Ía ùb),(Ía Èa),(Àa _ s),(Àa _ d),(Àa _ c),(ë ÿk),(ë Ħg),(ë Ĭl),(À ťj),(À řl),(À ŝ),(zB f fs),(xL K ww),(xL K ZI),(xL K ZH),(xL K WV),(xL K WU),(x/2 ^ l),(x.n X G),(x a o e),(w_ ks x),(vm K vX),(vm K qo),(vm K kB),(vm K jW),(vm K YZ),(v_ [] 0),(tz F fa),(r.1[0]?),(q _ _ d),(o=À k),(o++x++y),(o e1 e2),(kY [] c),(k K a z),(hv s hs),(h r g f),(gt T i'),(fg d τ),(ds++[y]),(dl++[m]),(d+k+x.2),(cut H L),(a::b::r),(a++[yv]),(Vf P hi),(Uj lo n),(T6 ns k),(HA te t),(F b o e),(C q ťb),(C q Įb),(2 ^ w-1),(1+a/8%6),(.tup ds),(.tbl ps),(.ref WJ),(.ok ĉn),(.nx β'),(.lst vs),(.int g0),(.int 24),(.fz Ĥc),(.dK ĭb),(x==("__debug__" : Str)),(zW ſ zV Ě zF),(by cases y<;>exact c),(ya Éc xc (zM ě) üc Åa),(ēa (show n<32 by omega)),(um (own:=Âe) rfl),(pI (v4 X1 XT rfl)),(vx (v6 l)),(λC s H a c=>jK),(e2 yc Øb Ĭc),(eC (.int 26))],[(.lst ἀ),(zB ἀ zH),(zj (yW ἀ)),(zC ἀ zL),(.int ἀ),(ἀ%65536),(Β (eC ἀ)),(xX (zB ἀ ἁ)),(zP xF xE ἀ zF),(Ė ἀ a),(xO ἀ ἁ xS),(λC s H c d=>ἀ),(zj (qg ἀ)),(σ.set i ἀ),(zX H p ἀ),(À ἀ::zr),(gW (gY ἀ) (xw ἁ) gX),(λr st=>∃g,st=yE a0 p0 f0 g/\pJ ἀ ἁ r),(pF 0 [.at [İ] "words"] Ōh ἀ),(xO (ya Éc xc ἀ ἁ Åa) (Γ ἂ) xS),(λC s H b c=>ἀ),(.nx (Ρ ἀ)),(qJ (tE ἀ)),(.fz (.lst ἀ)),((u q).mpr (.inr ἀ)),(zW ſ zV ě ἀ),(.own (Α ἀ)),(xG ἀ λc=>?_),(xw (kZ Ĳl Ęb ἀ)),(zW ſ zV ἀ ἁ),(gi (uy ἀ)),(PyProof.Rows.wpS_modify ἀ),(uQ Éc xc ἀ ἁ Åa),(ya (jD ἀ) jB (zM ἁ) (zM ἂ) Åa),(if ἀ=Â then _ else _),(XV (n:=2) rfl (qZ ἀ ἁ)),(qb λi j=>.int ἀ),(tE (e2 xY ĩd ἀ)),(tt (Μ ἀ) rfl),(al (al ἀ m) p),(ë (Ì ἀ)),(tQ (tE ἀ)),(wC (zB ἀ ἁ)),(VY ἀ rfl),(xN (i:=1) (show (ἀ).Nodup by decide +kernel) rfl ç),(PyProof.Rows.wpS_lift (PySem.wpAny_rule ⟨rfl,å ἀ⟩)),(ze uj (zB ý ἀ)),(Ì (PySem.wpAny_onRaise ἀ)),(zk (Xh Ëc rfl ἀ ἁ ἂ) (zj ἃ)),(wD (zC zn ἀ) Īd),(Τa ďb źr ἀ),(e2 zg ĩd ἀ),(xw (j9 ἀ)),(ĉe ἀ ?_),(ya (jC ἀ) jA (zM ἁ) (zM ἂ) (by with_unfolding_all rfl)),(xN (i:=2) (show (ἀ).Nodup by decide +kernel) rfl ç),(e2 wY ý (eC ἀ)),(backTo pos ἀ),(yO (xX (zB Ŋ ἀ))),(Tu (zN b) (ux Ž ul) zn (wZ ἀ)),(Zo 0 [.at [İ] ûb] (eC ἀ) (xQ ἁ)),(rI ἀ λi j=>.int ἁ),(λc=>ô ⟨g,rfl,jJ.fin ἀ⟩),(wD (zC zn ἀ) īd),(uQ (xg ἀ) xc (zM ἁ) (zM ἂ) Åa),(.bl (decide ἀ)),(Vh ἀ ἁ ⟨l⟩ ?_ ?_ ?_),(Γ (wD (zC ἀ ἁ) Īd)),(tE (e2 zg ý ἀ)),(tE (e2 xY Ŋ ἀ)),(yg (wu ἀ Īd)),(.nx (À ἀ::zr)),(β++[À ἀ]),(Ο (Α ἀ)),(xO ἀ Qc xS),((ἀ).map Ħ),(Nat.le_of_eq (Nat.add_sub_cancel' ἀ)),(yG pE b rfl (zC Ě (Δ ἀ))),(xN (i:=3) (show (ἀ).Nodup by decide +kernel) rfl ç),(swapsWith v (À ἀ) pos.line Ö=pure Ä),(e2 yc (e2 wY (z7 6) (eC ἀ)) (eC (.int 8))),(e2 zJ (wC ἀ) (e2 yc ἁ Źc)),(Ξ (À (Â,.lst ἀ))),(λc=>ô ⟨g,rfl,jH.fin ἀ⟩),(j9 (kX X8 b rfl (jf Ž ἀ))),(.Call ἀ [e] [] cpos),(CQ G H ἀ y u v d Q s e f Żr q),(y_ (by rw[x];exact Ŭ ἀ)),(.Call ἀ [e] [] pos),(qb λi j=>.bl (decide ἀ)),(tL (tz Ye (qR 0 [] ἀ))),(setField łc 0 ἀ >>= _),(tt (Ψ (Ηa ἀ)) rfl),(Ψa (zB Ÿ ἀ)),(λC s H a c=>ἀ),(zB ý (Η ἀ)),(rU λi=>.int ἀ),(Ωd āk Às ἀ),(ve d (å ἀ)),(qH (zM ἀ) qd),(ἀ%4294967296),(Ιa (Β ἀ)),(ĵf (å ἀ)),(w_lt rfl ἀ ἁ ?_),(jF kM kj rfl uS gI (qH ἀ qd)),(.BoolOp .Or ἀ pos),(.BoolOp .And ἀ pos),(zj (yj (i:=1) QR.nd rfl ç (zP jl ua ě ἀ))),(λxs H Q=>(∃p ys,xs=[.ref p]/\ἀ/\Q ἁ H)\/∃z,xs=[.str z]/\ī<=Ý/\Q (.int ī) H),(uQ Éc xc (zM (yG qV b rfl ἀ)) (zM zF) Åa),(OB I Å ἀ b j h λd1 d2 x y u v e f g d i=>Jw I n A.in1 d1 d2 x y u v ἁ e f g d i),(yF 1 (e2 (xq Ża) Ā (e2 vH Ğ ἀ))),(Ζb (zB (e2 yc ἀ ἁ) (zB ἂ zH)) (Φa Ĳc)),(λx y H Q=>y=.zK/\Q ἀ H),(Αa (xN (i:=9) (show (ἀ).Nodup by decide +kernel) rfl ç)),(xG (λc=>ô (h _ _ ἀ)) λm=>xG (λc=>ô (h _ _ ἁ)) λk=>?_),(j5 (tE (e2 zg Ā Ď)) (eC .zK) (e2 zg (ze wV ἀ) Ğ)),(.nx [À (.own ἀ),À (.fz ĺc),À Ŀe,À (.fz ἁ),À (.fz ἂ)]),((ἀ).filter λd=>!yh d),(.Call ἀ [a] [] pos),(.done (À ἀ,i,m,Ť q++(ἁ).reverse,g,k,j-1-m)),(λd=>match d with|.int j=>.int ἀ|d=>d),(Χ þb Ób (yG IH b rfl (zC ě ἀ))),(θ (λc=>ô ⟨_,rfl,Y5.fin ἀ⟩)),(θ (λc=>ô ⟨_,rfl,Y3.fin ἀ⟩)),(Γ (cF R3 aB rfl Xr Bv (zC ἀ zL))),(qD (i:=1) qe.nd rfl ç Ð (wZ ἀ)),(PyProof.Rows.wpS_modify (å ἀ)),(.done (À ἀ,i,j-1,Ť q,g,k,u)),(kX IJ a rfl (vI ě (vI ŀ ἀ))),(yG qV b rfl (zC ŀ (zC zF ἀ))),(.done (À ἀ,o++Ŝb i ἁ,i+k,j,g,k,u)),(λc=>ô ⟨_,rfl,jH.fin ἀ⟩),(ya (xg Ćc) xc (zM ἀ) üc Åa),(Q w H->rU (λi=>.int ἀ) u H Q),(zP xf xZ (yg (wu ἀ ĳd)) Ě),((ἀ).bind λx=>(ἁ).bind λy=>xq Îa x y),(λxs H Q=>∃p ys,xs=Áe/\ἀ),(ŀb β i π (.obj x űe ἀ)),(λq z=>yP λc=>z ((ἀ).mpr c)),(λc=>ô (C λp j q f=>Üb ἀ ἁ)),(by rw[Ś,<-Ś ἀ,êb,ex]),(Λ (Y6 (Vd ἀ ἁ)) (zj (yW jq))),(Γ (wD (zC ť ἀ) īd)),(Υb (Β (ψb Øb ἀ Âs))),(zB (eC Ûj) (zB Ťj ἀ)),(Tr 8 9 (tz Wi (γd ἀ))),((ἀ).all λw=>(ἁ).all λd=>(ἂ).all λs=>gZ Ĉl),((ἀ).all λw=>(ἁ).all λd=>(ἂ).all λs=>f Ĉl),(Λ (Νa ἀ) (ξb ċm)),(λq z=>.inl ((ἀ).mpr z)),(zW ŝn zV ŀ (Ι ἀ)),(e2 zJ ĥ (e2 yc ἀ Ãs)),(yg (qI rfl žr ſr ἀ Ás ἁ)),(yO (ze WX (zB Ā ἀ))),(ms.map À++į ἀ Ã),(P O h' es' c t' J g ἀ f b ἁ),(AA ἀ ἁ rfl rfl Ð Ð Ð),(λC s H fp pn=>Pq ἀ),(zP xf xZ Ě (yg ἀ)),(qC 0 [] [Ú] ūc ἀ),(οa (zC (ζa ἀ) (Δ ἁ))),(λC s H fp pn=>(ἀ).h),(kQ λi j=>decide ἀ),(yO (eL TJ (Β ἀ))),(zC Ęb (zC Ÿc ἀ)),(zB Äg (zB Ăi ἀ)),(zB Ŗb (zB Ĵf ἀ)),(al (al ἀ őg) Žr),(Xc żr Xd (ςb ἀ)),(.nx ((ἀ).set j ĥc)),(.Expr (Κb ἀ) pos),((ἀ).map λr=>ub ýo),((vx (v6 f)).trans ((vx ἀ).trans ((ἁ).trans ἂ))),(wp Ā (wp ĥ (wp Ŋ ἀ)))])
def q0 (h0:0=0:=by first|exact .inl rfl|exact .inr rfl|assumption)(h1:0=0:=by decide)(h2:0=0:=by intro _;rfl)(h3:0=0:=by rfl)(h4:0=0:=by first|exact Or.inl rfl|exact Or.inr ç|exact Or.inr şb)(h5:0=0:=by first|exact Ţa|exact⟨rfl,Ţa⟩|exact⟨rfl,rfl,Ţa⟩|exact⟨rfl,rfl,rfl,Ţa⟩|exact⟨rfl,rfl,rfl,rfl,Ţa⟩)(h6:0=0:=by intros;exact λ_ _ _ _ _ _=>rfl):Åc:=⟨⟩
def q7:=q0._auto_1
def q10:=q0._auto_2
def q11:=q0._auto_3
def q12:=q0._auto_4
def q13:=q0._auto_5
def q14:=q0._auto_6
def q15:=q0._auto_7
local macro_rules|`(tactic|omega)=>`(tactic|lia)
noncomputable section
namespace L2
open ľ Ŕ ň
abbrev zR:=Sum Int Str
noncomputable def ut:zR->Value->Í
 |.inl k,v=>íq k v|.inr x,v=>Ďp x v
noncomputable def sH(w:Þ):zR->Int
 |.inl k=>hashInt k|.inr x=>hashStr w x
def j8:∀{k:zR}{v:Value},ut k v=Â->(∃i t,k=Ş i/\v=êc i t)\/(∃x t,k=āc x/\v=Ůb x t)
 |.inl i,v,h=>by obtain⟨t,e⟩:=Ùo (k:=i) (v:=v) h;exact .inl ⟨i,t,rfl,e⟩
 |.inr x,v,h=>by obtain⟨t,e⟩:=Value.isStrOf_shape (x:=x) (v:=v) h;exact .inr ⟨x,t,rfl,e⟩
def sI(i:Int)(t:Tok):ut ķk ŏg=Â:=by simp[ut,íq]
theorem sJ(x:Str)(t:Tok):ut çh Èr=Â:=by simp[ut,Ďp]
theorem sK(a b:Int):decide ((Ş a:zR)=Ş b)=ïl:=by
 by_cases e:a=b;subst e;simp;have h:¬ (Ş a:zR)=Ş b:=λq=>e (Ûd q)
 rw[Ŏ h];exact(Őb e).symm
def sN(a b:Str):decide ((āc a:zR)=āc b)=decide (a=b):=by
 by_cases e:a=b;subst e;simp;have h:¬ (āc a:zR)=āc b:=λq=>e (īj q)
 rw[Ŏ h,Ŏ e]
theorem sL(a:Int)(b:Str):decide ((Ş a:zR)=āc b)=Ä:=Ŏ Ĝo
def sM(a:Str)(b:Int):decide ((āc a:zR)=Ş b)=Ä:=Ŏ Ĝo
def xJ(ø:æ)(w:Þ):PySem.KeyKind ø w zR where
 is:=ut
 hash:=sH w
 inj:=λv a b g d=>by
  rcases j8 g with⟨i,t,rfl,rfl⟩|⟨x,t,rfl,rfl⟩;rcases j8 d with⟨j,u,rfl,e⟩|⟨y,u,rfl,e⟩;injection e with e1 _;rw[e1];exact nomatch e
  rcases j8 d with⟨j,u,rfl,e⟩|⟨y,u,rfl,e⟩;exact nomatch e
  injection e with e1 _;rw[e1]
 byValue:=λk v h=>by rcases j8 h with⟨i,t,rfl,rfl⟩|⟨x,t,rfl,rfl⟩<;>rfl
 pyHash:=λc h=>by rcases j8 c with⟨i,t,rfl,rfl⟩|⟨x,t,rfl,rfl⟩;exact wpAny_pyHash_int h;exact wpAny_pyHash_str h
 eqBool:=λf c h=>by rcases j8 f with⟨i,t,rfl,rfl⟩|⟨x,t,rfl,rfl⟩;rcases j8 c with⟨j,u,rfl,rfl⟩|⟨y,u,rfl,rfl⟩;rw[sK]at h;exact wpAny_eqBool_int h;rw[sL]at h;exact ŧn i t y u _ _ _ _ h;rcases j8 c with⟨j,u,rfl,rfl⟩|⟨y,u,rfl,rfl⟩;rw[sM]at h;exact ťn x t j u _ _ _ _ h;rw[sN]at h;exact wpAny_eqBool_str h
 «strs»:=λk x t v h=>by
  rcases j8 h with⟨i,u,rfl,e⟩|⟨y,u,rfl,e⟩;exact nomatch e
  injection e with e1 _
  subst e1;cases v<;>rfl
def z0s(ø:æ)(w:Þ)(i:Int)(t:Tok):(ăa).is ķk ŏg=Â:=sI i t
def C5(ø:æ)(w:Þ)(x:Str)(t:Tok):(ăa).is çh Èr=Â:=sJ x t
inductive V where
 |zK|bl (b:Í)|int (i:Int)|str (x:Str)|byt (b:Ô UInt8)|YT (b:UInt64)|ref (a:Ç)|ty (n:óa)
 deriving Ťb
def zw:V->Value->Prop
 |.zK,u=>u=Ĭb|.bl b,u=>u=Ļg b|.int i,u=>∃t,u=êc i t|.str x,u=>∃t,u=Ůb x t|.byt b,u=>∃t,u=îq b t|.YT b,u=>∃t,u=Īj b t|.ref a,u=>u=Đ a|.ty n,u=>u=çc n
abbrev zf:Á V->Á Value->Prop:=ðe zw
theorem zf.length{xs:Á V}{us:Á Value}(r:zf xs us):â=ća:=Õj r
theorem zf.get:∀{xs:Á V}{us:Á Value}{i:Nat}{x:V},zf xs us->xs[i]?=À x->∃u,us[i]?=À u/\zw x u
 |_,_,_,_,.nil,e=>by simp at e|_,_,0,_,.cons r _,e=>by simp at e;subst e;exact⟨_,rfl,r⟩|_,_,i+1,x,.cons _ t,e=>by obtain⟨u,b,a⟩:=zf.get (i:=i) (x:=x) t îb;exact⟨u,by simpa using b,a⟩
theorem zf.set{x:V}{u:Value}(r:zw x u):∀{xs:Á V}{us:Á Value}(i:Nat),zf xs us->zf Ěg (us.set i u)
 |_,_,_,.nil=>.nil|_,_,0,.cons _ t=>.cons r t|_,_,i+1,.cons q t=>.cons q (zf.set r i t)
theorem ŗg:∀{xs ys:Á V}{us ws:Á Value},zf xs us->zf ys ws->zf Œg (us++ws)
 |_,_,_,_,.nil,s=>s|_,_,_,_,.cons r t,s=>.cons r (ŗg t s)
theorem zf.take:∀{xs:Á V}{us:Á Value}(n:Nat),zf xs us->zf (xs.take n) (us.take n)
 |_,_,0,_=>.nil|_,_,_+1,.nil=>.nil|_,_,n+1,.cons r t=>.cons r (zf.take n t)
theorem zf.drop:∀{xs:Á V}{us:Á Value}(n:Nat),zf xs us->zf (xs.drop n) (us.drop n)
 |_,_,0,r=>r|_,_,_+1,.nil=>.nil|_,_,n+1,.cons _ t=>zf.drop n t
def uW:Æ V->Æ Value->Prop
 |À v,À u=>zw v u|Ã,Ã=>Åc|_,_=>î
def KV{κ:Type}:Á Õb->Á ŭd->Prop:=ðe λ(p:κ×V) (q:κ×Value)=>p.1=q.1/\zw p.2 q.2
noncomputable def kV:zR->V
 |.inl i=>.int i|.inr x=>.str x
inductive HO where
  |lst (xs:Á V)
  |tup (xs:Á V)
  |dK (kvs:Á ķa)|dT (kvs:Á Ŧb)
  |set (S:Int->Í) (n:Nat)
  |ins (C dx:Ç) (fs:Á ŵb)
  |own (x:Ç)
  |xd (fs:Á ŵb)
  |met (f x:Ç)
  |rng (lo hi:Int)
  |wU (o:Obj) (u:HO)
  |tbl (ps:Ô Value)
  |ext (φ:Heap->Prop)
abbrev Hp:=Ç->Æ HO
noncomputable def zX(H:Hp)(a:Ç)(o:HO):Hp:=λb=>if b=a then À o else H b
def yk{H:Hp}{a:Ç}{o:HO}:zX H a o a=À o:=by unfold zX;rw[Ë rfl]
theorem yP{H:Hp}{a b:Ç}{o:HO}(h:b≠a):zX H a o b=H b:=by unfold zX;rw[Ï h]
theorem z18{H:Hp}{a b:Ç}{o u:HO}(h:H a=À o)(h':H b=À u)(d:o≠u):a≠b:=by intro e;subst e;rw[h]at h';exact d (ėa h')
def tO{H:Hp}{a b:Ç}{o:HO}(h:H a=À o)(h':H b=Ã):a≠b:=by intro e;subst e;rw[h]at h';cases h'
section
variable(P:æ)(w:Þ)
def xU(H:Hp)(h:Heap)(a:Ç):HO->Prop
 |.lst xs=>â<=Ý/\∃(its:Á Value) (n:Nat),zf xs its/\ĉ a=À { cls:=.type đ,ü:=.seq Ŷ n }|.tup xs=>â<=Ý/\∃its:Á Value,zf xs its/\Ńb h a Ŷ|.dK kvs=>ŗ<=Ý/\Ŝa=Ä/\∃vs,KV kvs vs/\ßf Ŵb a vs|.dT kvs=>ŗ<=Ý/\Ŝa=Ä/\∃xs:Á Åd,
   ðe (λ(p:Á zR×V) (q:Á zR×Ç×Value)=>p.1=q.1/\H q.2.1=À Ŗn/\zw p.2 q.2.2) kvs xs/\
   ∃o es ep,ĉ a=À o/\ãq/\Ýa=.dict es ep/\éc=šc (entryOfKey ĥe)/\(šc (·.1)).Nodup
 |.set S n=>h.SetOf (intKind P w) a S n|.ins C dx fs=>H dx=À òf/\ŧa<=1000/\dx≠a/\ĉ a=À Řq/\
   ∃mA,Ļh dx mA/\(∀f,uW śk èl)/\āj mA (Ăd (·.1))
 |.own _=>∃o,ĉ a=À o|.xd fs=>∃mA,Ļh a mA/\∀f,uW śk èl|.rng lo hi=>∃t u v,ĉ a=À { cls:=.type ña,ü:=.fields #[.int lo t,.int hi u,.int 1 v] }|.wU o u=>ĉ a=À o/\xU H h a u|.tbl ps=>ĉ a=À { cls:=.none,ü:=.fields ps }|.met f x=>ĉ a=À (W.methodObj ĕ Ðe)|.ext φ=>φ h/\(∃o,ĉ a=À o)/\∀h1 h2:Heap,φ h1->(∀o,Ņk a=À o->h2.get? a=À o)->φ h2
def xv(H:Hp)(h:Heap):Prop:=∀a o,H a=À o->xU P w H h a o
omit a
section
variable{P:æ}{w:Þ}{H H':Hp}{h h':Heap}{a:Ç}{o:HO}
theorem xU.lt(x:xU P w H h a o):a<ùb:=by
 cases o with
 |lst xs=>obtain⟨_,_,_,_,e⟩:=x;exact Č e
 |tup xs=>obtain⟨_,_,_,p⟩:=x;exact p.lt
 |dK kvs=>obtain⟨_,_,_,_,o,_,_,e,_⟩:=x;exact Č e
 |dT kvs=>obtain⟨_,_,_,_,o,_,_,e,_⟩:=x;exact Č e
 |set S n=>obtain⟨o,_,_,_,e,_⟩:=x;exact Č e
 |ins C dx fs=>obtain⟨_,_,_,e,_⟩:=x;exact Č e
 |own y=>obtain⟨_,e⟩:=x;exact Č e
 |xd fs=>obtain⟨_,⟨_,_,_,e,_⟩,_⟩:=x;exact Č e
 |rng lo hi=>obtain⟨_,_,_,e⟩:=x;exact Č e
 |wU ob u=>obtain⟨e,_⟩:=x;exact Č e
 |tbl ps=>exact Č (show ĉ a=À _ from x)|met f y=>exact Č (show ĉ a=À _ from x)|ext φ=>obtain⟨_,⟨_,e⟩,_⟩:=x;exact Č e
theorem Ţg{α β:Type}{F G:α->β->Prop}:∀{l₁:Á α}{l₂:Á β},ðe F l₁ l₂->(∀a b,F a b->G a b)->ðe G l₁ l₂
 |_,_,.nil,_=>.nil|_,_,.cons r t,f=>.cons (f _ _ r) (Ţg t f)
def xU.YU(x:xU P w H h a o)(k:∀b u,(b=a\/H b=À òf)->ĉ b=À u->ā b=À u)(A:∀b,H b=À òf->H' b=À òf)(E:∀b xs,H b=À ăb->H' b=À ăb):xU P w H' h' a o:=by
 induction o with
 |lst xs=>obtain⟨z,l,n,r,e⟩:=x;exact⟨z,l,n,r,k _ _ ŉ e⟩
 |tup xs=>obtain⟨z,l,r,g,e,c⟩:=x;exact⟨z,l,r,g,k _ _ ŉ e,c⟩
 |dK kvs=>obtain⟨z,y,B,r,g,i,j,e,c⟩:=x;exact⟨z,y,B,r,g,i,j,k _ _ ŉ e,c⟩
 |dT kvs=>obtain⟨z,y,xs,r,g,i,j,e,c⟩:=x;exact⟨z,y,xs,Ţg r λp q z=>⟨z.1,E _ _ z.2.1,z.2.2⟩,g,i,j,k _ _ ŉ e,c⟩
 |set S n=>obtain⟨g,i,j,t,e,c⟩:=x;exact⟨g,i,j,t,k _ _ ŉ e,c⟩
 |ins C dx fs=>obtain⟨d,z,F,e,s,⟨m,i,j,e2,c⟩,r⟩:=x;exact⟨A _ d,z,F,k _ _ ŉ e,s,⟨m,i,j,k _ _ (.inr d) e2,c⟩,r⟩
 |own y=>obtain⟨g,e⟩:=x;exact⟨g,k _ _ ŉ e⟩
 |xd fs=>obtain⟨s,⟨m,i,j,e,c⟩,r⟩:=x;exact⟨s,⟨m,i,j,k _ _ ŉ e,c⟩,r⟩
 |rng lo hi=>obtain⟨t,u,v,e⟩:=x;exact⟨t,u,v,k _ _ ŉ e⟩
 |wU g u ih=>obtain⟨e,q⟩:=x;exact⟨k _ _ ŉ e,ih q⟩
 |tbl ps=>have e:ĉ a=À { cls:=.none,ü:=.fields ps }:=x;show ā a=À { cls:=.none,ü:=.fields ps };exact k a _ ŉ e|met f y=>have e:ĉ a=À ŋm:=x;show ā a=À ŋm;exact k a _ ŉ e|ext φ=>obtain⟨p,⟨o,e⟩,st⟩:=x;exact⟨st _ _ p λo q=>k _ _ ŉ q,⟨o,k _ _ ŉ e⟩,st⟩
theorem xv.lt(x:xv P w H h)(e:H a=À o):a<ùb:=(Ōr).lt
def xv.fresh(x:xv P w H h)(e:ùb<=a):H a=Ã:=by
 cases q:H a with
 |Ã=>rfl|À u=>exact Û (ņ (x.lt q) e) úa
def xv.kept(x:xv P w H h)(k:∀b u,ĉ b=À u->ā b=À u):xv P w H h':=λa o e=>
 (Ōr).YU (λb u _ q=>k b u q) łg λ_ _ q=>q
def xv.laid(x:xv P w H h)(k:∀b u,ĉ b=À u->ā b=À u)(g:ùb<=a)(d:xU P w ŷe h' a o):xv P w ŷe h':=λb u e=>by have f:=x.fresh g;by_cases hb:b=a;subst hb;rw[yk]at e;cases e;exact d;rw[yP hb]at e;exact(ìk).YU (λc v _ q=>k c v q) (λc q=>by rw[yP (tO q f)];exact q) λc i q=>by rw[yP (tO q f)];exact q
omit a
def Rd(H:Hp)(a:Ç)(u:HO):Prop:=H a=À u\/∃o,H a=À Óf
def Rd.ok{P:æ}{w:Þ}{H:Hp}{h:Heap}{a:Ç}{u:HO}(r:Rd H a u)(x:xv P w H h):xU P w H h a u:=by rcases r with r|⟨o,r⟩;exact x a u r;obtain⟨_,q⟩:=x a _ r;exact q
def Um:Æ HO->Prop
 |À (.lst _)=>Åc|À (.dK _)=>Åc|À (.dT _)=>Åc|À (.set _ _)=>Åc|À (.ins _ _ _)=>Åc|À (.ext _)=>Åc|_=>î
section
variable{P:æ}{w:Þ}{H:Hp}{h h':Heap}{x e:Ç}{o':HO}
def xv.write(ok:xv P w H h)(i:Um (H x))(n:e=x\/H e=À Ñe)(k:∀b u,b≠e->ĉ b=À u->ā b=À u)(l:∃u,ā e=À u)(j:xU P w Ęq h' x o'):xv P w Ęq h':=λb u q=>by
 have a:∀c y,H c=À (.own y)->c≠x:=λc y r z=>by subst z;rw[r]at i;exact i
 have d:∀c f,H c=À (.tup f)->c≠x:=λc f r z=>by subst z;rw[r]at i;exact i
 by_cases hb:b=x;subst hb;rw[yk]at q;cases q;exact j;rw[yP hb]at q;by_cases hbe:b=e;have m:H b=À Ñe:=by rcases n with z|z;exact Û (hbe.trans z) hb;rw[hbe];exact z
 rw[q]at m;cases m;obtain⟨v,o⟩:=l;exact⟨v,by rw[hbe];exact o⟩;refine(ok b u q).YU (λc v g r=>k c v ?_ r) (λc r=>by rw[yP (a c b r)];exact r) λc f r=>by rw[yP (d c f r)];exact r
 rcases g with rfl|g;exact hbe;rintro rfl;rcases n with z|z;exact a c b g z;rw[g]at z;cases z;exact hb rfl
omit a
structure Un(fs ex:Á Ç)(H H':Hp)(h h':Heap):Prop where
 ŷa:∀b o,ĉ b=À o->H b=Ã->b ∉ fs->b ∉ ex->ā b=À o
 slot:∀b o,ĉ b=À o->H b=Ã->b∈fs->b ∉ ex->∃sl,ā b=À { o with ùe:=sl }
 free:∀b o,ĉ b=À o->H b=Ã->b ∉ ex->H' b=Ã
 Ķh:∀b o,ĉ b=À o->b ∉ ex->∃o',ā b=À o'
 qN:∀b xs,H b=À ăb->H' b=À ăb
 uT:∀b o u,H b=À Óf->H' b=À Óf
 pY:∀b ps,H b=À Űr->∃more,H' b=À úo
section
variable{fs ex:Á Ç}{H H1:Hp}{h h1 h':Heap}{a x e:Ç}{o:HO}
def Un.any(u:Un fs ex H H1 h h1){b:Ç}{a:Obj}(q:ĉ b=À a)(n:H b=Ã)(c:b ∉ ex):∃sl,Ņk b=À { a with ùe:=sl }:=by by_cases hb:b∈fs;exact đh b a q n hb c;exact⟨a.slots,ĉf b a q n hb c⟩
def ûf(k:∀b u,ĉ b=À u->ā b=À u):Un fs ex H H h h':=
 ⟨λb a q _ _ _=>k b a q,λb a q _ _ _=>⟨a.slots,k b a q⟩,λ_ _ _ n _=>n,λb a q _=>⟨a,k b a q⟩,λ_ _ q=>q,λ_ _ _ q=>q,λ_ c q=>⟨#[],by rw[q];simp⟩⟩
def Un.refl:Un fs ex H H h h:=ûf λ_ _ q=>q
def Un.laid(k:∀b u,ĉ b=À u->ā b=À u)(e:ùb<=a)(c:H a=Ã):Un fs ex H ŷe h h' where
 ŷa:=λb u q _ _ _=>k b u q
 slot:=λb u q _ _ _=>⟨u.slots,k b u q⟩
 free:=λb u q n _=>by rw[yP (Ŭ (ņ Ćh e))];exact n
 Ķh:=λb u q _=>⟨u,k b u q⟩
 qN:=λb d q=>by rw[yP Ħk];exact q
 uT:=λb u d q=>by rw[yP Ħk];exact q
 pY:=λb f q=>⟨#[],by rw[yP Ħk,q];simp⟩
def Un.write(a:Um (H x))(i:e=x\/H e=À Ñe)(k:∀b u,b≠e->ĉ b=À u->ā b=À u)(d:∃u,ā e=À u):Un fs ex H Ūj h h':=by
 have f:∀b,H b=Ã->b≠x:=λb n z=>by subst z;rw[n]at a;exact a
 have g:∀b,H b=Ã->b≠e:=λb n z=>by subst z;rcases i with r|r;exact f b n r;rw[n]at r;cases r
 have c:∀b u,H b=À u->¬ Um (À u)->b≠x:=λb u q l z=>by subst z;rw[q]at a;exact l a
 refine⟨λb u q n _ _=>k b u (g b n) q,λb u q n _ _=>⟨u.slots,k b u (g b n) q⟩,λb u q n _=>by rw[yP (f b n)];exact n,λb u q _=>?_,
  λb j q=>by rw[yP ŗi];exact q,λb u j q=>by rw[yP ŗi];exact q,λb m q=>⟨#[],by rw[yP ŗi,q];simp⟩⟩
 by_cases hbe:b=e;subst hbe;exact d;exact⟨u,k b u hbe q⟩
omit a
noncomputable def Ob(h:Heap)(H:Hp):Á Ç:=(Ĺr).filter λa=>(H a).isSome
def kT(h:Heap)(H:Hp):Heap:=W.hideAll h İk
def r9(h:Heap)(H:Hp):(Ûh).objs.size=ùb:=W.hideAll_size _ _
def oz{h:Heap}{H:Hp}{b:Ç}{o:Obj}(e:ĉ b=À o)(n:H b=Ã):(Ûh).get? b=À o:=
 W.hideAll_get _ e λa=>by have q:(H b).isSome=Â:=(Çd a).2;rw[n]at q;simp at q
def z1r{h:Heap}{H:Hp}{b:Ç}{o:Obj}(e:(Ûh).get? b=À o):ĉ b=À o/\H b=Ã:=by
 have a:ĉ b=À o:=W.of_hideAll İk e;refine⟨a,?_⟩;cases q:H b with
 |Ã=>rfl|À x=>have c:b∈Ob h H:=Ĕi ⟨ēa (Č a),by simp[q]⟩;have z:(Ûh).get? b=Ã:=W.hideAll_none İk c;rw[z]at e;cases e
noncomputable def iD(g h:Heap)(L:Ç):Á í:=(Ĺr).filterMap λa=>if a=L\/(g.get? a).isSome=Â then Ã else(ĉ a).map λo=>(a,o)
def zr(g h:Heap)(L d:Ç):Á í:=(iD g h L).filter λp=>decide (p.1≠d)
structure Mod(K:Î)(mg:Str->Æ Value)(È:Heap):Prop where
 WC:š È
 glob:Ùe ă mg
 blt:∃mb,Ùe řj mb/\∀x:Str,x ≠ Ŏj->mb x=ŧ x
 nolimit:base.NoLimit
structure Cx where
 ø:æ
 w:Þ
 K:Î
 mg:Str->Æ Value
 È:Heap
 A:ñ
 N:Á Str
 s₀:É
 H₀:Hp
 env:Env
 þ:Á Env
 stack:Á Env
 ex:Á Ç
 fn:Str->Í
 calm:Í
 pn:Á í
 xe:Value->É->Prop
noncomputable def pD(l:Á Env):Á Ç:=l.filterMap (·.frame)
abbrev Cx.fs(X:Cx):Á Ç:=pD Úe
def gH(a:ýa)(x:Str):Prop:=ßc x=À .local\/ßc x=À .cell\/ßc x=À .free
def pf(a:ýa)(x:Str):Prop:=ßc x=À .local\/ßc x=À .cell
def hV(env:Env)(h:Heap)(m:Str->Æ Value)(x:Str)(u:Value):Prop:=
 (êd x=À .local/\m x=À u)\/((êd x=À .cell\/êd x=À .free)/\∃c,ŋi x=À c/\h.IsCell c (À u))
structure Cx.Ok(X:Cx):Prop where
 mod:Mod X.K ó Ō
 kind:ōi=.function
 glob:Ój=ă
 blt:X.env.builtins=řj
 above:ěc<=Äa
 inj:∀x y c,Ĩa x=À c->Ĩa y=À c->x=y
 has:∀x,(Ñd x=À .cell\/Ñd x=À .free)->∃c,Ĩa x=À c
 W9:∀x c,X.fn x=Â->Ĩa x=À c->ěc<=c
 hd:Ű=Â->X.A.handled=Ã
 Îl:X.A.frames=À ŋa
 UL:ŋa=Úe\/(ŋa=Ö::Úe/\X.env.frame=À Äa)
 UF:∀b∈X.ex,b≠Äa/\∀x c,Ĩa x=À c->c≠b
 bs:∀b o,Ŧe b=À o->Ōi b=À o/\Õl b=Ã
 g7:X.base.objs.size<=ěc
 WE:∀b o,Ŧe b=À o->b ∉ X.ex
 WA:∀b∈X.ex,b ∉ Ŗa
 qm:àn Ō Úe
 ZE:∀b∈Ŗa,Õl b=Ã
structure Inv(X:Cx)(z8:Á í)(σ:Á ĉh)(H:Hp)(s:É):Prop where
 ok:X.Ok
 os:s.os=X.s₀.os
 bare:Üe Ĕh
 È:Un Ŗa X.ex Õl H X.s₀.heap Ü
 loc:∃m,âr Äa m/\∀(i:Nat)(x:Str)(v:V),X.N[i]?=À x->σ[i]?=À Éa->gH ĭa x->∃u,zw v u/\hV Ö Ü m x u
 cell:∀x c,Ĩa x=À c->∃v,ąp c v
 free:H Äa=Ã
 pX:∀x c,Ĩa x=À c->H c=Ã
 pin:∀p∈ēc++z8,ð p.1=À p.2/\H p.1=Ã/\p.1≠Äa/\p.1 ∉ Ŗa/\∀v,p.2.data≠.cell v
 zd:xv ö X.w H Ü
 len:σ.length=ò
section
variable{X:Cx}{z8:Á í}{σ:Á ĉh}{H H':Hp}{s:É}{h':Heap}
def Cx.Ok.fZ(ok:X.Ok){b:Ç}{o:Obj}(e:Ŧe b=À o):b ∉ Ŗa:=λa=>by have:=(ok.qm.mem a).1;rw[e]at this;cases this
theorem Inv.bs(I:Inv X z8 σ H s):∀b o,Ŧe b=À o->ð b=À o/\H b=Ã:=λb o e=>
 ⟨Ŧi b o õg.1 õg.2 (I.ok.fZ e) Ůo,Ňe b o õg.1 õg.2 Ůo⟩
def Inv.bk(I:Inv X z8 σ H s):∀b o,Ŧe b=À o->ð b=À o:=λb o e=>(I.bs b o e).1
theorem Inv.mod(I:Inv X z8 σ H s):Mod X.K ó Ō:=ėk
def Inv.xy(I:Inv X z8 σ H s):X.K.In Ü:=I.ok.mod.WC.keeps I.bk
theorem Inv.lt(I:Inv X z8 σ H s):Äa<Õ:=let ⟨_,hn,_⟩:=ľa;hn.lt
def Inv.sz(I:Inv X z8 σ H s):ěc<=Õ:=ŏ Šj (ìa I.lt)
def Inv.N9(I:Inv X z8 σ H s){a:Ç}(h:Õ<=a):a ∉ Ŗa:=λc=>by obtain⟨_,o,b,_⟩:=ùq c;exact Û (ņ (Č b) (ŏ I.sz h)) úa
def Inv.YR(I:Inv X z8 σ H s):∀x c,Ĩa x=À c->c≠Äa:=λx c e z=>by obtain⟨v,o,d,f⟩:=Őa x c e;obtain⟨m,⟨i,g,h,a,b,_⟩,_⟩:=ľa;rw[z,a]at d;cases d;rw[b]at f;cases f
theorem Inv.qm(I:Inv X z8 σ H s):Þg Ō Úe:=by
 have f:∀(l:Á Env),(∀b∈pD l,b∈Ŗa)->àn Ō l->Þg Ō l:=by
  intro l
  induction l with
  |nil=>intro _ _;trivial|ù env r ih=>
   intro g j;obtain⟨i,⟨L,o,c,k,h,m⟩,n⟩:=j;have d:L∈Ŗa:=g L (by unfold pD;rw[ĕi,c];exact ĵ);obtain⟨p,e⟩:=ĥg L o h (I.ok.ZE L d) d λz=>I.ok.WA L z d
   exact⟨i,⟨L,_,c,k,e,m⟩,ih (λb a=>g b (by unfold pD;rw[ĕi,c];exact Àa _ a)) n⟩
 exact f Úe (λ_ a=>a) I.ok.qm
theorem Inv.stack(I:Inv X z8 σ H s):Þg Ō ŋa:=by rcases I.ok.UL with e|⟨e,hf⟩;rw[e];exact I.qm;rw[e];obtain⟨m,a,_⟩:=ľa;refine .cons (by rw[Ĳb];decide) hf a ?_ I.qm;exact Heap.get?_none_of_le (ŏ ùh Šj)
def Inv.UM(I:Inv X z8 σ H s):∀b∈pD ŋa,b∈Äa::Ŗa:=λb a=>by rcases I.ok.UL with e|⟨e,hf⟩;rw[e]at a;exact Àa _ a;rw[e]at a;unfold pD at a;rw[ĕi,hf]at a;exact a
def Inv.NB(I:Inv X z8 σ H s):∀b∈pD ŋa,H b=Ã:=λb a=>by rcases ę (I.UM b a)with e|a;rw[e];exact Đb;obtain⟨_,o,c,_⟩:=ùq a;exact Ňe b o c (I.ok.ZE b a) λz=>I.ok.WA b z a
def Inv.step{g':Ô GenState}{t':Nat}{d':Drawn}{ch:Á Ç}(I:Inv X z8 σ H s)(h:∀b∈ch,Êg/\b≠Äa/\(∀x c,Ĩa x=À c->c≠b)/\∀p∈ēc++z8,p.1≠b)(t:∀b o,b≠Äa->b ∉ Ŗa->b ∉ ch->ð b=À o->H b=Ã->ā b=À o)(A:∀b o,b≠Äa->b∈Ŗa->b ∉ ch->ð b=À o->H b=Ã->∃sl,ā b=À { o with ùe:=sl })(f:∀b o,b ∉ ch->ð b=À o->H b=Ã->H' b=Ã)(C:∀b o,b ∉ ch->ð b=À o->∃o',ā b=À o')(T:∀b xs,H b=À ăb->H' b=À ăb)(W:∀b o u,H b=À Óf->H' b=À Óf)(P:∀b ps,H b=À Űr->∃more,H' b=À úo)(ns:∀m,âr Äa m->h'.Ns Äa m)(S:xv ö X.w H' h')(U:Üe g') :Inv X z8 σ H' { s with á:=h',gens:=g',čc:=d',Ć:=t' }:=by
 have F:∀b o,Ōi b=À o->b≠Äa:=λb o e=>Ŭ (ņ őc Šj)
 have y:∀b o,Ōi b=À o->b ∉ X.ex->b ∉ ch:=λb o e a B=>by rcases(h b B).1 with z|z;exact a z;exact Û (ņ őc z) úa
 have j:∀x c,Ĩa x=À c->∀v,ąp c v->h'.IsCell c v:=λx c e v ⟨o,E,J⟩=>by
  have g:c ∉ ch:=λz=>(h c z).2.2.1 x c e rfl
  by_cases hc:c∈Ŗa;obtain⟨sl,q⟩:=A c o Íq hc g E ėj;exact⟨_,q,J⟩;exact⟨o,t c o Íq hc g E ėj,J⟩
 refine⟨I.ok,Ŷc,U,⟨λb o e n B a=>?_,λb o e n B a=>?_,λb o e n a=>?_,λb o e a=>?_,λb xs e=>T b xs (Ók b xs e),λb o xs e=>W b o xs (Òk b o xs e),λb ps e=>?_⟩,?_,λx c e=>?_,?_,λx c e=>?_,λp L=>?_,S,ńb⟩;exact t b o Ūr B īg (Ŧi b o e n B a) ũi;obtain⟨sl,e1⟩:=ĥg b o e n B a;obtain⟨G,e2⟩:=A b _ Ūr B īg e1 ũi;exact⟨G,e2⟩;obtain⟨o',e1⟩:=ĕg b o e a;exact f b o' īg e1 ũi;obtain⟨o',e1⟩:=ĕg b o e a;exact C b o' īg e1;obtain⟨Z,e1⟩:=Ôk b ps e;obtain⟨Y,e2⟩:=P b _ e1;exact⟨Z++Y,by rw[e2,Array.append_assoc]⟩;obtain⟨m,R,Q⟩:=ľa;refine⟨m,ns m R,λi x v e1 e2 O=>?_⟩;obtain⟨u,r,l⟩:=Q i x v e1 e2 O;refine⟨u,r,?_⟩;rcases l with l|⟨k,c,e,z⟩;exact .inl l;exact .inr ⟨k,c,e,j x c e _ z⟩;obtain⟨v,z⟩:=Őa x c e;exact⟨v,j x c e v z⟩;obtain⟨m,⟨o,_,_,E,_⟩,_⟩:=ľa;exact f _ o (λz=>(h _ z).2.1 rfl) E Đb;obtain⟨v,o,E,J⟩:=Őa x c e;exact f c o (λz=>(h c z).2.2.1 x c e rfl) E ėj;obtain⟨e,n,K,N,d⟩:=Œa p L;have g:p.1 ∉ ch:=λz=>(h p.1 z).2.2.2 p L rfl
 exact⟨t p.1 p.2 K N g e n,f p.1 p.2 g e n,K,N,d⟩
def Inv.un{t':Nat}(I:Inv X z8 σ H s)(u:Un Ŗa [] H H' Ü h')(j:xv ö X.w H' h'):Inv X z8 σ H' { s with á:=h',Ć:=t' }:=by
 obtain⟨m,⟨o,l,v,g,r⟩,_⟩:=id ľa;obtain⟨t,k⟩:=u.any g Đb ê
 exact Úl (g':=Ĕh) (d':=Ùf) (ch:=[]) œb (λb o _ d _ e n=>ĉf b o e n d ê) (λb o _ d _ e n=>đh b o e n d ê) (λb o _ e n=>Ēh b o e n ê) (λb o _ e=>îh b o e ê) u.qN u.uT u.pY (λq h=>by obtain⟨p,f,c,a,i⟩:=h;rw[g]at a;cases a;exact⟨_,f,c,k,i⟩) j Ûb
def Inv.call{g':Ô GenState}{t':Nat}{d':Drawn}{ch:Á Ç}(I:Inv X z8 σ H s)(u:Un Ĩk ch H H' Ü h')(t:xv ö X.w H' h')(v:Üe g')(f:∀b∈ch,Êg/\b≠Äa/\(∀x c,Ĩa x=À c->c≠b)/\∀p∈ēc++z8,p.1≠b) :Inv X z8 σ H' { s with á:=h',gens:=g',čc:=d',Ć:=t' }:=by
 obtain⟨m,⟨o,y,E,j,r⟩,_⟩:=id ľa;obtain⟨C,i⟩:=u.any j Đb λz=>(f _ z).2.1 rfl
 exact Úl (ch:=ch) f (λb o i q a e n=>ĉf b o e n (λz=>(ę (I.UM b z)).elim i q) a) (λb o _ _ a e n=>u.any e n a) (λb o a e n=>Ēh b o e n a) (λb o a e=>îh b o e a) u.qN u.uT u.pY (λB k=>by obtain⟨A,h,g,d,l⟩:=k;rw[j]at d;cases d;exact⟨_,h,g,i,l⟩) t v
def Inv.turned{t':Nat}{it:Ç}(I:Inv X z8 σ H s)(k:∀b o,b≠it->ð b=À o->ā b=À o)(w:H it=Ã)(f:it≠Äa)(A:it∈X.ex\/ěc<=it)(t:∀x c,Ĩa x=À c->c≠it)(l:∀p∈ēc++z8,p.1≠it):Inv X z8 σ H { s with á:=h',Ć:=t' }:=by
 have d:∀b u,H b=À u->b≠it:=λb u e z=>by rw[z,w]at e;cases e
 refine Úl (g':=Ĕh) (d':=Ùf) (ch:=[it]) (λb j=>?_) (λb o _ _ a e _=>k b o ýi e) (λb o _ _ a e _=>⟨o.slots,k b o ýi e⟩) (λ_ _ _ _ n=>n)
  (λb o a e=>⟨o,k b o ýi e⟩) (λ_ _ e=>e) Õp (λb B e=>⟨#[],by rw[e];simp⟩) (λm g=>?_) (λb u e=>?_) Ûb
 have e:b=it:=by simpa using j
 subst e;exact⟨A,f,t,l⟩;obtain⟨o,i,y,h,r⟩:=g;exact⟨o,i,y,k _ o (Ļb f) h,r⟩;refine(ĝ b u e).YU (λc v a q=>k c v ?_ q) łg λ_ _ q=>q
 rcases a with z|z;rw[z];exact d b u e;exact d c _ z
def Inv.tok(I:Inv X z8 σ H s)(t:Nat):Inv X z8 σ H { s with Ć:=t }:=I.un (h':=Ü) (t':=t) Un.refl ĝ
theorem Inv.kept{t':Nat}(I:Inv X z8 σ H s)(k:∀b u,ð b=À u->ā b=À u):Inv X z8 σ H { s with á:=h',Ć:=t' }:=I.un (ûf k) (ār k)
theorem Inv.laid{a:Ç}{o:HO}{t':Nat}(I:Inv X z8 σ H s)(k:∀b u,ð b=À u->ā b=À u)(d:Õ<=a)(c:xU ö X.w ŷe h' a o) :Inv X z8 σ ŷe { s with á:=h',Ć:=t' }:=I.un (Un.laid k d (řb d)) (I.zd.laid k d c)
theorem Inv.write{x e:Ç}{o:HO}{t':Nat}(I:Inv X z8 σ H s)(f:Um (H x))(d:e=x\/H e=À Ñe)(k:∀b u,b≠e->ð b=À u->ā b=À u)(a:∃u,ā e=À u)(c:xU ö X.w Ūj h' x o):Inv X z8 σ Ūj { s with á:=h',Ć:=t' }:=I.un (Un.write f d k a) (I.zd.write f d k a c)
def Inv.weak{σ':Á ĉh}(I:Inv X z8 σ H s)(b:σ'.length=σ.length)(w:∀(i:Nat) v,σ'[i]?=À Éa->σ[i]?=À Éa):Inv X z8 σ' H s:=
 ⟨I.ok,Ŷc,Ûb,ēf,let ⟨m,hn,hl'⟩:=ľa;⟨m,hn,λi x v e1 e2 a=>hl' i x v e1 (w i v e2) a⟩,Őa,Đb,Ĕc,Œa,ĝ,őe ńb⟩
def Inv.UK{a:Á í}(I:Inv X z8 σ H s)(h:∀p∈a,ð p.1=À p.2/\H p.1=Ã/\p.1≠Äa/\p.1 ∉ Ŗa/\∀v,p.2.data≠.cell v):Inv X a σ H s:=
 ⟨I.ok,Ŷc,Ûb,ēf,ľa,Őa,Đb,Ĕc,λp b=>(Ïa b).elim (λz=>Œa p ßk) (h p),ĝ,ńb⟩
def Ag{N:Á Str}(c:Śc){i j:Nat}{x:Str}(a:N[i]?=À x)(b:N[j]?=À x):i=j:=by obtain⟨e,e1⟩:=ō a;obtain⟨d,e2⟩:=ō b;exact(List.getElem_inj c).mp (e1.trans e2.symm)
def cp{M:ÿe}{A:ñ}{E:Value->É->Prop}{i:Nat}{x:Str}{v:V}{u:Value}{Q:õa->É->Prop}(I:Inv X z8 σ H s)(hN:Ņa)(hi:X.N[i]?=À x)(t:pf ĭa x)(r:zw v u)(h:∀s',Inv X z8 ód H s'->(∃a,Ša a Ü Ćd/\(a=Äa\/Ĩa x=À a))->Q () s')(hf:Ê ęb q7):Ó M A Ŋn Q E s:=by
 obtain⟨m,Z,hl⟩:=id ľa;have L:(ōi == .class||(ōi == .module&&Äa != Ój))=Ä:=by rw[Ĳb];rfl
 have K:i<σ.length:=by rw[ńb];exact ąb.1
 have YR:=I.YR
 have g:∀{a:Ç}{h':Heap},(∃o,ð a=À o/\H a=Ã)->Ša a Ü h'->xv ö X.w H h':=λ{a h'} ha f b ob e=>by
  obtain⟨_,_,B⟩:=ha;refine(ĝ b ob e).YU (λc P l q=>(f.2 c ?_).trans q) łg λ_ _ q=>q
  rintro rfl;rcases l with rfl|l;rw[B]at e;cases e;rw[B]at l;cases l
 rcases t with hk|hk;refine wpAny_storeName_local hk Z (λh' hn' f=>?_) L;obtain⟨oL,_,_,hoL,_⟩:=id Z;refine h _ ⟨I.ok,Ŷc,Ûb,⟨λb o e n C t=>?_,λb o e n C t=>?_,Ňe,λb o e t=>?_,Ók,Òk,Ôk⟩,⟨_,hn',λj y T e1 e2 W=>?_⟩,λy c e=>?_,Đb,Ĕc,λp hp=>?_,g ⟨oL,hoL,Đb⟩ f,by simpa using ńb⟩ ⟨_,f,.inl rfl⟩;exact(Ŧh).trans ço;obtain⟨Y,e1⟩:=ĥg b o e n C t;exact⟨Y,(Ŧh).trans e1⟩;obtain⟨o',e1⟩:=ĕg b o e t;exact⟨o',(Ŧh).trans e1⟩;by_cases hj:j=i;subst hj;rw[hi]at e1;cases e1;rw[Ŧf K]at e2;cases e2;exact⟨u,r,.inl ⟨hk,by simp⟩⟩;rw[Ųf (Ļb hj)]at e2;obtain⟨u',U,q⟩:=hl j y T e1 e2 W;refine⟨u',U,?_⟩;rcases q with⟨k,e⟩|⟨k,c,e,z⟩;refine .inl ⟨k,?_⟩;have:y≠x:=λe=>hj (Ag hN e1 (e▸hi))
 simp[this,e];exact .inr ⟨k,c,e,Ør f žq⟩;obtain⟨P,z⟩:=Őa y c e;exact⟨P,Ør f žq⟩;obtain⟨e,n,R,nf,d⟩:=Œa p hp;exact⟨(f.2 p.1 R).trans e,n,R,nf,d⟩;have F:X.fn x=Â:=by rcases hf with z|z;exact z;rw[z]at hk;cases hk
 obtain⟨c,l⟩:=I.ok.has x (.inl hk);obtain⟨P,z⟩:=Őa x c l;refine wpAny_storeName_cell Ĳb hk l z (λh' J f=>?_);obtain⟨oc,G,O⟩:=id z;refine h { s with á:=h' } ⟨I.ok,Ŷc,Ûb,⟨λb o e n C t=>?_,λb o e n C t=>?_,Ňe,λb o e t=>?_,Ók,Òk,Ôk⟩,⟨m,Z.sameBut f (Ļb (YR x c l)),λj y T e1 e2 W=>?_⟩,λy S e=>?_,Đb,Ĕc,λp hp=>?_,g ⟨oc,G,Ĕc x c l⟩ f,by simpa using ńb⟩ ⟨c,f,.inr l⟩;exact(ŝh).trans ço;obtain⟨Y,e1⟩:=ĥg b o e n C t;exact⟨Y,(ŝh).trans e1⟩;obtain⟨o',e1⟩:=ĕg b o e t;exact⟨o',(ŝh).trans e1⟩;by_cases hj:j=i;subst hj;rw[hi]at e1;cases e1;rw[Ŧf K]at e2;cases e2;exact⟨u,r,.inr ⟨.inl hk,c,l,J⟩⟩;rw[Ųf (Ļb hj)]at e2;obtain⟨u',U,q⟩:=hl j y T e1 e2 W;refine⟨u',U,?_⟩;rcases q with q|⟨k,S,e,z'⟩;exact .inl q;refine .inr ⟨k,S,e,z'.sameBut f ?_⟩;rintro rfl;exact hj (Ag hN e1 (I.ok.inj _ _ _ e l▸hi));by_cases hcc:S=c;subst hcc;exact⟨_,J⟩;obtain⟨w2,z2⟩:=Őa y S e;exact⟨w2,z2.sameBut f hcc⟩;obtain⟨e,n,R,nf,d⟩:=Œa p hp;refine⟨(f.2 p.1 ?_).trans e,n,R,nf,d⟩;intro q;rw[q,G]at e;have q':oc=p.2:=ėa e;exact d P (by rw[<-q'];exact O)
def Gy{M:ÿe}{A:ñ}{E:Value->É->Prop}{i:Nat}{x:Str}{v:V}{u:Value}{Q:õa->É->Prop}(I:Inv X z8 σ H s)(d:Ņa)(hi:X.N[i]?=À x)(b:pf ĭa x)(r:zw v u)(h:∀s',Inv X z8 ód H s'->Q () s')(c:Ê ęb q7):Ó M A Ŋn Q E s:=
 cp I d hi b r (λs' a _=>h s' a) c
def Inv.Lh{s':É}{ch:Á Ç}(I:Inv X z8 σ H s)(d:s'.os=s.os)(u:Un Ĩk ch H H' Ü Ćd)(f:xv ö X.w H' Ćd)(h:Üe s'.gens)(a:∀b∈ch,Êg/\b≠Äa/\(∀x c,Ĩa x=À c->c≠b)/\∀p∈ēc++z8,p.1≠b):Inv X z8 σ H' s':=by obtain⟨h',g',d',t',g⟩:=s';have e:g=s.os:=d;subst e;exact I.call (g':=g') (t':=t') (d':=d') u f h a
omit a
abbrev XK:=Value->Æ Ç->Hp->Prop
abbrev St:=Á ĉh
abbrev VK:=V->Hp->Prop
abbrev TE:=St->Hp->VK->Prop
abbrev TT:=St->Hp->(Í->Hp->Prop)->Prop
abbrev TA:=St->Hp->(Á V->Hp->Prop)->Prop
structure uJ where
 nx:St->Hp->Prop
 rt:VK
 bk:St->Hp->Prop:=λ_ _=>î
 ct:St->Hp->Prop:=λ_ _=>î
abbrev TS:=uJ->St->Hp->Prop
def EP(X:Cx)(a:Á í)(σ:St)(Q:VK)(u:Value)(s':É):Prop:=∃v H',Inv X a σ H' s'/\zw v u/\Q v H'
def TP(X:Cx)(a:Á í)(σ:St)(Q:Í->Hp->Prop)(b:Í)(s':É):Prop:=∃H',Inv X a σ H' s'/\Q b H'
def AP(X:Cx)(a:Á í)(σ:St)(Q:Á V->Hp->Prop)(us:Á Value)(s':É):Prop:=∃vs H',Inv X a σ H' s'/\zf vs us/\Q vs H'
def SP(X:Cx)(a:Á í)(D:uJ)(f:Flow)(s':É):Prop:=
 match f with
 |.next=>∃σ' H',Inv X a σ' H' s'/\éb σ' H'|.brk=>∃σ' H',Inv X a σ' H' s'/\D.bk σ' H'|.cont=>∃σ' H',Inv X a σ' H' s'/\D.ct σ' H'|.ret u=>∃v σ' H',Inv X a σ' H' s'/\zw v u/\D.rt v H'
def PE(X:Cx)(e:Ñ)(t:TE):Prop:=
 ∀(z8:Á í) (s:É) (σ:St) (H:Hp) (Q:VK),Inv X z8 σ H s->t σ H Q->Ó ÿ X.A Ře Śb ġ s
def PT(X:Cx)(e:Ñ)(t:TT):Prop:=
 ∀(z8:Á í) (s:É) (σ:St) (H:Hp) (Q:Í->Hp->Prop),Inv X z8 σ H s->t σ H Q->Ó ÿ X.A (íe e Ö Ře) Åj ġ s
def PW(X:Cx)(e:Ñ)(t:TT):Prop:=
 ∀(Ůc:Sem Value)(z8:Á í) (s:É) (σ:St) (H:Hp) (Q:Í->Hp->Prop),Inv X z8 σ H s->t σ H Q->Ó ÿ X.A (íe e Ö Ůc) Åj ġ s
def PW.pt{X:Cx}{e:Ñ}{t:TT}(h:PW X e t):PT X e t:=h _
def PA(X:Cx)(es:Á Ñ)(t:TA):Prop:=
 ∀(pos:Pos)(z8:Á í) (s:É) (σ:St) (H:Hp) (Q:Á V->Hp->Prop),Inv X z8 σ H s->t σ H Q->Ó ÿ X.A (spliced Èf) (AP X z8 σ Q) ġ s
def PS(X:Cx)(st:Ù)(t:TS):Prop:=
 ∀(z8:Á í) (s:É) (σ:St) (H:Hp) (D:uJ),Inv X z8 σ H s->t D σ H->Ó ÿ X.A (exec st Ö) įq ġ s
def uM(X:Cx)(st:Á Ù)(t:TS):Prop:=
 ∀(z8:Á í) (s:É) (σ:St) (H:Hp) (D:uJ),Inv X z8 σ H s->t D σ H->Ó ÿ X.A (execs st Ö) įq ġ s
def zt{α:Type}{t:Sem α}{Q b:α->É->Prop}{M:ÿe}{A:ñ}{E:Value->É->Prop}{s:É}(h:Ó M A t Q E s)(c:∀a s,Q a s->b a s):Ó M A t b E s:=Ĭa h c λ_ _ x=>x
section
variable{X:Cx}
noncomputable def Z2(i:Nat):TE:=λσ H Q=>∃v,σ[i]?=À Éa/\Q v H
noncomputable def tC(v:V):TE:=λ_ H Q=>Q v H
def XS{i:Nat}{x:Str}{pos:Pos}(q:X.N[i]?=À x)(hv:gH ĭa x)(g:Ê ĺ q10)(f:Ê Ęc q10):PE X Ða Ċc:=by intro n s σ H Q I h;obtain⟨v,e,h⟩:=h;obtain⟨m,p,o⟩:=ľa;obtain⟨u,r,l⟩:=o i x v q e hv;have d:EP X n σ Q u s:=⟨v,H,I,r,h⟩;rcases l with⟨b,k⟩|⟨b,c,j,a⟩;exact őj (Čn Ĳb b p k d) g;rcases b with b|b;exact őj (ĵn Ĳb b j a d) g;exact őj (wpAny_loadName_free Ĳb b j a d f) g
def aM{i j pos}:PE X (.Constant ða j pos) (tC ða):=λ_ _ _ H _ I h=>wpAny_Constant_int ⟨.int i,H,ßa _,⟨_,rfl⟩,h⟩
def z4n{b j pos}:PE X (.Constant Żg j pos) (tC Šc):=λ_ _ _ H _ I h=>Constant_bool ⟨.bl b,H,I,rfl,h⟩
def z54{j pos}:PE X (.Constant .none j pos) (tC .zK):=λ_ _ _ H _ I h=>Constant_none ⟨.zK,H,I,rfl,h⟩
def z59{x j pos}:PE X (.Constant ŕc j pos) (tC ŕc):=λ_ _ _ H _ I h=>Calls.Constant_str ⟨.str x,H,ßa _,⟨_,rfl⟩,h⟩
def Gl(X:Cx)(x:Str):Prop:=Ñd x=À .globalImplicit
def Tn{E:Value->É->Prop}{a:Á í}{s:É}{σ:St}{H:Hp}{x:Str}{u:Value}{pos:Pos}{Q:Value->É->Prop}(I:Inv X a σ H s)(d:Gl X x)(b:ó x=À u)(h:Q u s)(c:Ê ĺ q10):Ó ÿ X.A ĥp Q E s:=
 ïm Ĳb d (Calls.loadGlobal_global ől b h) c
def XC{E:Value->É->Prop}{a:Á í}{s:É}{σ:St}{H:Hp}{x:Str}{u:Value}{pos:Pos}{Q:Value->É->Prop}(I:Inv X a σ H s)(g:Gl X x)(c:ó x=Ã)(hv:ŧ x=À u)(h:Q u s)(e:Ê ġb q10)(d:Ê ĺ q10):Ó ÿ X.A ĥp Q E s:=by obtain⟨i,f,b⟩:=I.mod.blt;exact ïm Ĳb g (Calls.loadGlobal_builtin ől c (by rw[I.ok.blt];exact f.keeps I.bk) ((b x e).trans hv) h) d
def z51{x:Str}{v:V}{u:Value}{pos:Pos}(c:Gl X x)(a:ó x=À u)(r:zw v u)(b:Ê ĺ q10):PE X Ða ĝf:=
 λ_ _ _ H _ I h=>Tn I c a ⟨v,H,I,r,h⟩ b
def z4o{x:Str}{v:V}{u:Value}{pos:Pos}(d:Gl X x)(a:ó x=Ã)(hv:ŧ x=À u)(r:zw v u)(b:Ê ġb q10)(c:Ê ĺ q10):PE X Ða ĝf:=
 λ_ _ _ H _ I h=>XC I d a hv ⟨v,H,I,r,h⟩ b c
variable{a b:Ñ}{ta tb:TE}{pos:Pos}
noncomputable def tB(t:TE):TT:=λσ H Q=>t σ H λx a=>∃c,x=.bl c/\Q c a
def z68{e:Ñ}{t:TE}(h:PE X e t)(f:Ê (∀Ůc,íe e Ö Ůc=(do let v <-Ůc;standAt e.pos;holding [v] Ųq)) q11):PT X e (tB t):=by intro c s σ H Q I b;refine isTrue_plain (zt Žn λv k ⟨x,i,g,j,a⟩=>?_) (f _);obtain⟨d,rfl,q⟩:=a;cases j;exact Ěe ⟨i,g,q⟩
variable{tA tB':TT}{zr:Á Ñ}
noncomputable def y0x(t u:TT):TT:=λσ H Q=>t σ H λc a=>if c=Â then u σ a Q else Q Ä a
noncomputable def y1f(t u:TT):TT:=λσ H Q=>t σ H λc a=>if c=Â then Q Â a else u σ a Q
noncomputable def y1d(t:TT):TT:=λσ H Q=>t σ H λc a=>Q (!c) a
def z6k(d:PT X a tA):PW X Ýn tA:=by
 intro g b s σ H Q I h;refine ņq Þm;cases c with
 |Â=>exact isTrue_and_nil e|Ä=>exact e
def bB(d:PT X a tA):PW X āi tA:=by
 intro g b s σ H Q I h;refine êr Þm;cases c with
 |Ä=>exact isTrue_or_nil e|Â=>exact e
def z6j(k:PT X a tA)(i:PW X Ĉg tB'):PW X Ŧg (y0x tA tB'):=by
 intro l d s σ H Q I h;refine ņq ŕl;cases c with
 |Â=>exact i l d j σ g Q f e|Ä=>exact⟨g,f,e⟩
def bA(k:PT X a tA)(i:PW X ŕe tB'):PW X Éf (y1f tA tB'):=by
 intro l d s σ H Q I h;refine êr ŕl;cases c with
 |Â=>exact⟨g,f,e⟩|Ä=>exact i l d j σ g Q f e
def z67(e:PT X a tA):PT X Ůf (y1d tA):=by intro b s σ H Q I h;exact isTrue_not (e b s σ H (λc d=>Q (!c) d) I h)
noncomputable def y0y(ta tb:TE):TE:=λσ H Q=>ta σ H λx a=>∃c,x=.bl c/\if c=Â then tb σ a Q else Q û a
noncomputable def y1g(ta tb:TE):TE:=λσ H Q=>ta σ H λx a=>∃c,x=.bl c/\if c=Â then Q ĸ a else tb σ a Q
noncomputable def y1e(ta:TE):TE:=λσ H Q=>ta σ H λx a=>∃c,x=.bl c/\Q (.bl (!c)) a
def z56{op}{t:TE}(h:PE X a t):PE X ĭn t:=λb s σ H Q I c=>BoolOp_one (h b s σ H Q I c)
def z4m(k:PE X a ta)(i:PE X Ĉg tb):PE X Ŧg (y0y ta tb):=by
 intro e s σ H Q I h;refine BoolOp_and Ŋl;obtain⟨c,rfl,d⟩:=d;cases l;refine Ěe ?_;cases c with
 |Â=>exact i e j σ g Q f d|Ä=>exact⟨.bl Ä,g,f,rfl,d⟩
def z57(k:PE X a ta)(i:PE X ŕe tb):PE X Éf (y1g ta tb):=by
 intro e s σ H Q I h;refine BoolOp_or Ŋl;obtain⟨c,rfl,d⟩:=d;cases l;refine Ěe ?_;cases c with
 |Ä=>exact i e j σ g Q f d|Â=>exact⟨.bl Â,g,f,rfl,d⟩
def z55(g:PE X a ta):PE X Ůf (y1e ta):=by intro d s σ H Q I h;refine UnaryOp_ (zt (g d s σ H _ I h) λv j ⟨x,f,e,i,b⟩=>?_);obtain⟨c,rfl,b⟩:=b;cases i;exact not_of (Ěe ⟨.bl (!c),f,e,rfl,b⟩)
noncomputable def y16(t:TT)(ta tb:TE):TE:=λσ H Q=>t σ H λc a=>if c=Â then ta σ a Q else tb σ a Q
def z52{c:Ñ}(l:PT X c tA)(m:PE X a ta)(k:PE X b tb):PE X Ðo (y16 tA ta tb):=by
 intro e s σ H Q I h;refine wpAny_IfExp (zt (l e s σ H _ I h) λd g ⟨j,i,f⟩=>?_);cases d with
 |Â=>exact m e g σ j Q i f|Ä=>exact k e g σ j Q i f
omit a
def yL(K:Î)(H:Hp)(a:Ç)(xs:Á V):Prop:=
 Rd H a Ğa \/
  ∃(o:Obj) (its:Ô Value) (n:Nat),Ça a=À o/\àb=.type đ/\Čf=Ã/\Ýa=.seq its n/\Ďk<=Ý/\zf xs ųe
def yo(K:Î)(H:Hp)(a:Ç)(xs:Á V):Prop:=
 Rd H a ăb \/
  ∃(o:Obj) (its:Ô Value) (n:Nat),Ça a=À o/\àb=.type Ũ/\Ýa=.seq its n/\Ďk<=Ý/\zf xs ųe
noncomputable def i5:Value->Æ V
 |.none=>À .zK|.bool b=>À Šc|.int i _=>À ða|.str x _=>À ŕc|.bytes b _=>À (.byt b)|.float b _=>À (.YT b)|.ref a=>À ő|.type n=>À (.ty n)|_=>Ã
def zw.abs{x:V}{u:Value}(r:zw x u):i5 u=À x:=by
 cases x with
 |zK=>cases r;rfl|bl _=>cases r;rfl|int _=>obtain⟨t,rfl⟩:=r;rfl
 |str _=>obtain⟨t,rfl⟩:=r;rfl
 |byt _=>obtain⟨t,rfl⟩:=r;rfl
 |YT _=>obtain⟨t,rfl⟩:=r;rfl
 |ref _=>cases r;rfl|ty _=>cases r;rfl
def zw.inj{x y:V}{u:Value}(r:zw x u)(q:zw y u):x=y:=ėa (r.abs.symm.trans q.abs)
theorem zf.inj:∀{xs ys:Á V}{us:Á Value},zf xs us->zf ys us->xs=ys
 |_,_,_,.nil,.nil=>rfl|_,_,_,.cons r t,.cons r' t'=>by rw[r.inj r',zf.inj t t']
section
variable{X:Cx}{z8:Á í}{σ:St}{H:Hp}{s:É}{a:Ç}{xs ys:Á V}
def őa{K:Î}(h:H a=À Ğa):yL K H a xs:=.inl Ŷb
def ŭc{K:Î}(h:H a=À ăb):yo K H a xs:=.inl Ŷb
def Inv.list(I:Inv X z8 σ H s)(h:yL X.K H a xs):∃its:Á Value,zf xs its/\PlainL Ü a Ŷ/\â<=Ý:=by rcases h with h|⟨o,its,n,hk,hc,hd,hs,hz,r⟩;obtain⟨z,its,n,r,e⟩:=h.ok ĝ;exact⟨its,r,⟨_,n,e,rfl,rfl,rfl⟩,z⟩;refine⟨ųe,r,⟨o,n,ū a o hk,hc,hd,by simpa using hs⟩,?_⟩;have e:=ż;simp only[Ģ]at e;omega
def Inv.tuple(I:Inv X z8 σ H s)(h:yo X.K H a xs):∃its:Á Value,zf xs its/\Ńb Ü a Ŷ/\â<=Ý:=by rcases h with h|⟨o,its,n,hk,hc,hs,hz,r⟩;obtain⟨z,its,r,p⟩:=h.ok ĝ;exact⟨its,r,p,z⟩;refine⟨ųe,r,⟨o,ū a o hk,hc,n,by simpa using hs⟩,?_⟩;have e:=ż;simp only[Ģ]at e;omega
def Inv.JM(I:Inv X z8 σ H s)(h:yL X.K H a xs)(h':yL X.K H a ys):xs=ys:=by
 obtain⟨c,r,⟨o,n,e,_,_,d⟩,_⟩:=Ź h;obtain⟨b,i,⟨k,j,g,_,_,f⟩,_⟩:=Ź h';rw[e]at g;cases g;rw[d]at f;injection f with d1 _
 have:c=b:=by simpa using ů Ťp d1
 subst this;exact r.inj i
def Inv.Lq(I:Inv X z8 σ H s)(h:yo X.K H a xs)(h':yo X.K H a ys):xs=ys:=by
 obtain⟨c,r,⟨o,e,_,n,d⟩,_⟩:=òa h;obtain⟨b,i,⟨k,g,_,j,f⟩,_⟩:=òa h';rw[e]at g;cases g;rw[d]at f;injection f with d1 _
 have:c=b:=by simpa using ů Ťp d1
 subst this;exact r.inj i
omit a
abbrev Cx.g8(X:Cx)(E:Value->É->Prop):Cx:={ X with xe:=E }
abbrev Cx.t9(X:Cx):Cx:=X.g8 λ_ _=>î
theorem Cx.Ok.g8{X:Cx}(ok:X.Ok)(E:Value->É->Prop):(ïf).Ok:=
 ⟨ok.mod,ok.kind,ok.glob,ok.blt,ok.above,ok.inj,ok.has,ok.W9,ok.hd,ær,ok.UL,ok.UF,ok.bs,ok.g7,ok.WE,ok.WA,ok.qm,ok.ZE⟩
def Cx.Ok.ZF{X:Cx}{E:Value->É->Prop}(ok:(ïf).Ok):X.Ok:=
 ⟨ok.mod,ok.kind,ok.glob,ok.blt,ok.above,ok.inj,ok.has,ok.W9,ok.hd,ær,ok.UL,ok.UF,ok.bs,ok.g7,ok.WE,ok.WA,ok.qm,ok.ZE⟩
section
variable{X:Cx}{z8:Á í}{σ:St}{H:Hp}{s:É}{E:Value->É->Prop}
theorem Inv.g8(I:Inv X z8 σ H s)(E:Value->É->Prop):Inv ïf z8 σ H s:=⟨I.ok.g8 E,Ŷc,Ûb,ēf,ľa,Őa,Đb,Ĕc,Œa,ĝ,ńb⟩
theorem Inv.ZF(I:Inv ïf z8 σ H s):Inv X z8 σ H s:=⟨I.ok.ZF,Ŷc,Ûb,ēf,ľa,Őa,Đb,Ĕc,Œa,ĝ,ńb⟩
theorem SP.ZF{D:uJ}{f:Flow}{s':É}(h:SP ïf z8 D f s'):SP X z8 D f s':=by
 cases f with
 |next=>obtain⟨σ',a,I,q⟩:=h;exact⟨σ',a,I.ZF,q⟩
 |brk=>obtain⟨σ',a,I,q⟩:=h;exact⟨σ',a,I.ZF,q⟩
 |đc=>obtain⟨σ',a,I,q⟩:=h;exact⟨σ',a,I.ZF,q⟩
 |ret u=>obtain⟨v,σ',a,I,r,q⟩:=h;exact⟨v,σ',a,I.ZF,r,q⟩
theorem uM.t9{st:Á Ù}{t:TS}(h:uM X.t9 st t):uM X st t:=λz8 s σ H D I a=>
 Ĭa (h z8 s σ H D (I.g8 _) a) (λ_ _ q=>q.ZF) λ_ _ z=>öa z
omit a
section
variable{X:Cx}{st:Ù}{zr:Á Ù}{t u:TS}{e:Ñ}{te:TE}{pos:Pos}
noncomputable def y1b:TS:=λD σ H=>éb σ H
noncomputable def y1j(t u:TS):TS:=λD σ H=>t { D with nx:=u D } σ H
def ak:uM X [] y1b:=λ_ _ σ H _ I h=>ũf ⟨σ,H,I,h⟩
def O1(b:PS X st t)(c:uM X zr u):uM X (st::zr) (y1j t u):=by
 intro a s σ H D I h;refine ćo (zt (b a s σ H { D with nx:=u D } I h) λf e q=>?_);cases f with
 |next=>obtain⟨σ',d,g,q⟩:=q;exact c a e σ' d D g q
 |ret v=>exact q|brk=>exact q|đc=>exact q
def Cc(b:PS X st t):uM X [st] t:=by
 intro a s σ H D I h;refine ćo (zt (b a s σ H D I h) λf c q=>?_);cases f with
 |next=>exact ũf q|ret v=>exact q|brk=>exact q|đc=>exact q
def Inv.quiet{a:Á í}{σ:St}{H:Hp}{s:É}(I:Inv X a σ H s):çq Ö=Ä:=by simp[çq,Ĳb]
noncomputable def dB(te:TE):TS:=λD σ H=>te σ H λ_ a=>éb σ a
def af(c:PE X e te)(f:Ê Ĩm q12):PS X éj (dB te):=by intro a s σ H D I h;exact wpAny_Expr_any (zt (c a s σ H _ I h) λv j ⟨x,g,d,i,b⟩=>⟨σ,g,d,b⟩) I.quiet f
noncomputable def y1i(te:TE):TS:=λD σ H=>te σ H D.rt
def Q5(d:PE X e te):PS X Űf (y1i te):=by intro a s σ H D I h;exact wpAny_Return_some (zt (d a s σ H _ I h) λv i ⟨x,g,f,b,c⟩=>⟨x,σ,g,f,b,c⟩)
noncomputable def y17(c:TT)(t u:TS):TS:=λD σ H=>c σ H λb a=>if b=Â then t D σ a else u D σ a
def ah{c:Ñ}{a b:Á Ù}{g:TT}(m:PT X c g)(n:uM X a t)(l:uM X b u):PS X (.If c a b pos) (y17 g t u):=by
 intro e s σ H D I h;refine wpAny_If (zt (m e s σ H _ I h) λd i ⟨k,j,f⟩=>?_);cases d with
 |Â=>exact n e i σ k D j f|Ä=>exact l e i σ k D j f
noncomputable def y1a:TS:=λ_ _ _=>î
def z66{a:Á Ù}:uM X a y1a:=λ_ _ _ _ _ _ h=>îe
omit a
abbrev TG:=V->St->Hp->îp->Prop
abbrev gF:=Á V->St->Hp->îp->Prop
def PG(X:Cx)(a:Ñ)(t:TG):Prop:=
 ∀(z8:Á í) (s:É) (σ:St) (H:Hp) (v:V) (u:Value) (Q:St->Hp->Prop),Inv X z8 σ H s->zw v u->t v σ H Q->
  Ó ÿ X.A (Żb a Ö u) (λ_ b=>∃σ' H',Inv X z8 σ' H' b/\Q σ' H') ġ s
def Uq(X:Cx)(ts:Á Ñ)(t:gF):Prop:=
 ∀(z8:Á í) (s:É) (σ:St) (H:Hp) (vs:Á V) (us:Á Value) (Q:St->Hp->Prop),Inv X z8 σ H s->zf vs us->t vs σ H Q->
  Ó ÿ X.A (assignInOrder ((Éd ts Ö).map (·.2)) us) (λ_ a=>∃σ' H',Inv X z8 σ' H' a/\Q σ' H') ġ s
abbrev Jb:=V->V->V->Hp->Ár->Prop
def Mj(X:Cx)(t:Jb):Prop:=
 ∀(z8:Á í) (s:É) (σ:St) (H:Hp) (o i v:V) (ov iv u:Value) (Q:Hp->Prop),Inv X z8 σ H s->zw o ov->zw i iv->zw v u->t o i v H Q->
  Ó ÿ X.A (Ńk ov iv u) (λ_ a=>∃H',Inv X z8 σ H' a/\Q H') ġ s
abbrev Ja:=V->V->Hp->VK->Prop
def Mi(X:Cx)(a:åf)(t:Ja):Prop:=
 ∀(z8:Á í) (s:É) (σ:St) (H:Hp) (x y:V) (v u:Value) (Q:VK),Inv X z8 σ H s->zw x v->zw y u->t x y H Q->
  Ó ÿ X.A (Ák a v u) Śb ġ s
section
variable{X:Cx}{pos:Pos}
noncomputable def vz(i:Nat):TG:=λv σ H Q=>Q ód H
def z5b{i:Nat}{x:Str}(d:Ņa)(hi:X.N[i]?=À x)(a:pf ĭa x)(c:Ê ęb q7):PG X Ða ũc:=by intro e s σ H v u Q I r h;exact Õo (Gy I d hi a r (λf b=>⟨_,H,b,h⟩) c)
noncomputable def Zf:gF:=λa σ H Q=>a=[]/\Q σ H
noncomputable def qT(t:TG)(u:gF):gF:=λb σ H Q=>∃v r,b=v::r/\t v σ H λσ' a=>u r σ' a Q
def z5f:Uq X [] Zf:=by intro a s σ H c b Q I r h;obtain⟨e,h⟩:=h;subst e;cases r;exact assignInOrder_nil ⟨σ,H,I,h⟩
def z5e{e:Ñ}{es:Á Ñ}{t:TG}{u:gF}(j:PG X e t)(d:Uq X es u)(c:Ê ((Ĩp).map (·.2)=Żb e Ö::(ōe).map (·.2)) q12):Uq X ď (qT t u):=by
 intro a s σ H k l Q I r h;obtain⟨v,m,e1,h⟩:=h;subst e1;cases r with
 |ù r rr=>rw[c];refine assignInOrder_cons (zt (j a s σ H _ _ _ I r h) λ_ f ⟨σ1,i,g,b⟩=>?_);exact d a f σ1 i _ _ Q g rr b
noncomputable def Zg(K:Î)(n:Nat)(t:gF):TG:=λv σ H Q=>∃a xs,v=.ref a/\yo K H a xs/\â=n/\t xs σ H Q
def z5d{es:Á Ñ}{k:Nat}{t:gF}{n:Nat}(m:Ű=Â)(h:Uq X es t)(y:Ê ıo q12)(d:Ê ((ōe).findIdx? (·.1)=Ã) q12):PG X Ňi Éq:=by
 intro g s σ H v u Q I r c;obtain⟨a,l,e1,z,x,c⟩:=c;subst e1;cases r;obtain⟨w,f,j,A⟩:=òa z;refine assign_Tuple_tuple (Ōa m) j (by simp[y,<-x,ŏc]) d λq i=>?_
 have p:Inv X g σ H { s with á:=q }:=ñe (t':=Ĉ) λb o e=>i b o ĸr e
 exact h g _ σ H l _ Q p Ëg c
noncomputable def Rv(e a:TE)(t:Jb):TG:=λv σ H Q=>e σ H λo c=>a σ c λi d=>t o i v d λb=>Q σ b
def z5c{o i:Ñ}{c b:TE}{t:Jb}(e:PE X o c)(hi:PE X i b)(g:Mj X t)(p:∀v,Żb ďi Ö v=(do
   let ov <-holding [v] ĳj
   let iv <-holding [v,ov] (Ę i Ö)
   standAt pos
   holding Čr (Ńk ov iv v)
   release Čr []):=by intro _;rfl):PG X ďi (Rv c b t):=by
 intro a s σ H v u Q I r h;rw[p];refine Ì (ża (zt (e a s σ H _ I h) λov m ⟨x,z,n,B,d⟩=>?_));refine Ì (ża (zt (hi a m σ z _ n d) λiv w ⟨y,A,j,f,l⟩=>?_));refine Ì (đi (Ì (ża (zt (g a w σ A x y v ov iv u _ j B f r l) λ_ E ⟨q,k,C⟩=>?_))));exact wpAny_release ⟨σ,q,k,C⟩
noncomputable def G_(a:TE)(g:TG):TS:=λD σ H=>a σ H λx b=>g x σ b éb
def CZ{tg e:Ñ}{a:TE}{g:TG}(k:PE X e a)(j:PG X tg g)(i:Ê (āg [tg] e ňc Ö=pure Ä) q12)(f:Ê (Ăg [tg] e Ö=pure Ã) q12)(d:Ê ((Éd [tg] Ö).map (·.2)=[Żb tg Ö]) q12):PS X (.Assign [tg] e pos) (G_ a g):=by intro b s σ H D I h;refine wpAny_Assign_stores (zt (k b s σ H _ I h) λv l ⟨x,n,m,o,c⟩=>?_) i f;rw[d];exact zt (j b l σ n x v _ m o c) λ_ p q=>q
def z64{i:Nat}{x:Str}{e:Ñ}{b:TE}{a:Pos}(o:Ņa)(hi:X.N[i]?=À x)(d:pf ĭa x)(l:PE X e b)(f:Ê (ĳc e (À (.Name x a)) ňc Ö=pure Ä) q12)(j:Ê ęb q7) :PS X (.Assign [.Name x a] e pos) (G_ b ũc):=by intro k s σ H D I h;refine wpAny_Assign_Name (zt (l k s σ H _ I h) λv q ⟨y,n,m,p,c⟩=>?_) f;exact Gy m o hi d p (λr g=>⟨_,n,g,c⟩) j
noncomputable def y0z(i:Nat)(b:TE)(a:Ja):TS:=λD σ H=>∃x,σ[i]?=À (À x)/\b σ H λy c=>a x y c λz d=>éb (Ξ (À z)) d
def z61{i:Nat}{x:Str}{e:Ñ}{p:TE}{j:åf}{q:Ja}{d:Pos}(P:Ņa)(hi:X.N[i]?=À x)(g:pf ĭa x)(J:PE X e p)(S:Mi X j q)(T:Ê ęb q7) :PS X (.AugAssign (.Name x d) j e pos) (y0z i p q):=by
 intro n s σ H D I h;obtain⟨v,e1,h⟩:=h;obtain⟨m,O,L⟩:=ľa;have f:gH ĭa x:=by rcases g with k|k;exact .inl k;exact .inr (.inl k)
 obtain⟨u,r,l⟩:=L i x v hi e1 f;refine wpAny_AugAssign_Name ?_
 have o:Ó ÿ X.A Ře (λw Z=>Ó ÿ X.A (Ák j u w) (λr U=>Ó ÿ X.A (storeName Ö x r) (λ_=>SP X n D .next) ġ U) ġ Z) ġ s:=by
  refine zt (J n s σ H _ I h) λw K ⟨y,Y,W,r1,R⟩=>?_
  refine zt (S n K σ Y v y u w _ W r r1 R) λz s2 ⟨zv,Q,E,B,G⟩=>?_
  exact Gy E P hi g B (λs3 F=>⟨_,Q,F,G⟩) T
 rcases l with⟨a,t⟩|⟨a,c,C,b⟩;exact Čn Ĳb a O t o;rcases a with a|a;exact ĵn Ĳb a C b o;rcases g with k|k;have:ķd x=À .free:=a;rw[k]at this;cases this;have:ķd x=À .free:=a;rw[k]at this;cases this
noncomputable def SZ(f:Int->Int->Int):Ja:=λx y H Q=>∃i j,x=.int i/\y=.int j/\Q (Ε (f i j)) H
def rW:Mi X .Add Ūo:=by intro d s σ H x y v u Q I b a h;obtain⟨i,j,e1,e2,q⟩:=h;subst e1;subst e2;obtain⟨t,rfl⟩:=b;obtain⟨c,rfl⟩:=a;exact iadd_int ⟨.int _,H,ßa _,⟨_,rfl⟩,q⟩
omit a
section
variable{X:Cx}{pos:Pos}
noncomputable def y1p(c:TT)(d:TS):TS:=λD σ H=>∃W:Nat->St->Hp->Prop,(∃m,W m σ H)/\∀m σ H,W m σ H->
 c σ H λb a=>if b=Â then ∃N:St->Hp->Prop,(∀σ' H',N σ' H'->∃m',m'<m/\W m' σ' H')/\d { D with nx:=N,ct:=N,bk:=éb } σ a else éb σ a
def z65{c:Ñ}{a:Á Ù}{u:TT}{y:TS}(x:Źd ÿ X.A Ö ġ)(C:PT X c u)(B:uM X a y):PS X (.While c a [] pos) (y1p u y):=by
 intro o s σ H D I h;obtain⟨W,⟨G,L⟩,e⟩:=h;refine wpAny_While (codeAny_whileLoop (λn K=>∃σ' H',Inv X o σ' H' K/\W n σ' H') ?_ G ⟨σ,H,I,L⟩);rintro n F ⟨σ1,z,J,E⟩;refine Ãd x (zt (C o F σ1 z _ J (e n σ1 z E)) λb O ⟨t,q,g⟩=>?_);cases b with
 |Â=>
  obtain⟨N,r,g⟩:=g;rw[Ë rfl];refine Ãd x (zt (B o O σ1 t _ q g) λf P i=>?_);cases f with
  |next=>obtain⟨σ3,d,k,p⟩:=i;obtain⟨m,j,l⟩:=r σ3 d p;exact⟨m,j,σ3,d,k,l⟩
  |đc=>obtain⟨σ3,d,k,p⟩:=i;obtain⟨m,j,l⟩:=r σ3 d p;exact⟨m,j,σ3,d,k,l⟩
  |brk=>exact i|ret v=>exact i
 |Ä=>rw[Ï ģ];exact ũf ⟨σ1,t,q,g⟩
omit a
structure It where
 go:Nat->Hp->Prop
 ui:Nat->Hp->V->Hp->Prop
 Ŕa:Nat->Hp->Prop
def pZ(X:Cx)(a:Á í)(H:Hp)(b:Ç):Prop:=
 H b=Ã/\b≠Äa/\b ∉ Ŗa/\Êg/\(∀x c,Ĩa x=À c->c≠b)/\∀p∈ēc++a,p.1≠b
def Inv.WB{X:Cx}{d:Á í}{σ:St}{H H':Hp}{s:É}{b:Ç}(I:Inv X d σ H s)(a:Õ<=b)(g:H' b=Ã):pZ X d H' b:=by refine⟨g,įa (ņ I.lt a),I.N9 a,.inr (ŏ I.sz a),λx c e z=>?_,λp f z=>?_⟩;obtain⟨v,q⟩:=Őa x c e;exact Û (ņ q.lt Åo) úa;exact Û (ņ (Č (Œa p f).1) Åo) úa
structure ZS(P:æ)(w:Þ)(K:Î)(tg:Ñ)(J:It)(fp:Á Ç)(it:Ç)(tn:Nat->Heap->Prop):Prop where
 mem:it∈fp
 obj:∀i h,tn i h->∀b∈fp,∃o,ĉ b=À o/\∀v,Ýa≠.cell v
 ŷa:∀i h h',tn i h->(∀b∈fp,∀o,ĉ b=À o->ā b=À o)->tn i h'
 ŋb:∀(X:Cx),ö=P->X.w=w->X.K=K->Ű=Â->∀(i:Nat)(z8:Á í) (s:É) (σ:St) (H:Hp) (E:Value->É->Prop),Inv X z8 σ H s->(∀b∈fp,pZ X z8 H b)->tn i Ü->J.go i H->
  Ó ŧb X.A Ĕr (λr s1=>∃u,r=À u/\
   Ó ŧb X.A Ïp (λ_ s2=>∃x H',Inv X z8 σ H' s2/\zw x u/\J.ui i H x H'/\tn ï s2.heap/\∀b∈fp,H' b=Ã) E s1) E s
 done:∀(X:Cx),ö=P->X.w=w->X.K=K->Ű=Â->∀(i:Nat)(z8:Á í) (s:É) (σ:St) (H:Hp) (E:Value->É->Prop),Inv X z8 σ H s->(∀b∈fp,pZ X z8 H b)->tn i Ü->ĥh i H->
  Ó ŧb X.A Ĕr (λr s1=>r=Ã/\Inv X z8 σ H s1) E s
 Ŵc:∀(A:ñ)(i:Nat)(s:É)(Q:Value->É->Prop)(E:Value->É->Prop),tn i Ü->Q üb s->Ó ŧb A (ìe üb) Q E s
abbrev TI:=St->Hp->(It->Hp->Prop)->Prop
def Mh(X:Cx)(c:Á í)(σ:St)(tg:Ñ)(R:It->Hp->Prop)(a:Value)(d:É):Prop:=
 ∃(it:Ç) (fp:Á Ç) (tn:Nat->Heap->Prop) (J:It) (H':Hp),a=.ref it/\Inv X c σ H' d/\ZS ö X.w X.K tg J fp it tn/\tn 0 d.heap/\(∀b∈fp,pZ X c H' b)/\R J H'
def PI(X:Cx)(tg a:Ñ)(b:TI):Prop:=
 ∀(z8:Á í) (s:É) (σ:St) (H:Hp) (R:It->Hp->Prop),Inv X z8 σ H s->b σ H R->
  Ó ÿ X.A Čq (λv c=>Ó ÿ X.A (ìe v) (Mh X z8 σ tg R) ġ c) ġ s
def IF{M:ÿe}{A:ñ}{E:Value→É→Prop}{s:É}{tg:Ñ}{it:Ç}{u:Value}{o:Obj}{n:óa}{vs:Ô Value}{Q:õa→É→Prop}(d:ð it=À o)(b:àb=.type n)(e:Ýa=.fields vs)(c:[ãc,Ļa,İn,Łm,ÿo,Ūm,ċn].contains n=Ä)(a:Q () s):Ó M A Ïp Q E s:=by
  unfold Žf
  cases tg<;>first
    |exact ë a
    | (cases u<;>first
        |exact ë a
        | (refine Ì (Őj d ?_)
           rw[b,e];show Ó M A (υ ([ãc,Ļa,İn,Łm,ÿo,Ūm,ċn].contains n&&vs[0]?==À (Ŧ _))) Q E s;rw[Ï (by intro h;rw[c,Ži]at h;cases h)];exact ë a))
noncomputable def MZ(K:Î)(a:Ç):It:=
 ⟨λi H=>∃xs x,yL K H a xs/\xs[i]?=À x,λi H x b=>b=H/\∀xs,yL K H a xs->xs[i]?=À x,λi H=>∃xs,yL K H a xs/\â<=i⟩
noncomputable def Ma(K:Î)(a:Ç):It:=
 ⟨λi H=>∃xs x,yo K H a xs/\xs[i]?=À x,λi H x b=>b=H/\∀xs,yo K H a xs->xs[i]?=À x,λi H=>∃xs,yo K H a xs/\â<=i⟩
noncomputable def Uj(lo:Int)(n:Nat):It:=⟨λi _=>i<n,λi H x a=>a=H/\x=.int űa,λi _=>n<=i⟩
def y2o{P:æ}{w:Þ}{K:Î}{tg:Ñ}(a it:Ç):ZS P w K tg Ĳk [it] it (λi h=>üj it a i) where
 mem:=by simp
 obj:=λi h st b f=>by
  have e:b=it:=by simpa using f
  subst e;obtain⟨o,e,c,d⟩:=st;exact⟨o,e,λv z=>by rw[d]at z;cases z⟩
 ŷa:=λi h m st k=>st.at λo e=>k it ê o e
 ŋb:=by
  intro X C A t N i O s σ H E I l st G;subst C A t;obtain⟨Q,x,j,n⟩:=G;obtain⟨y,F,p,S⟩:=Ź j;obtain⟨u,T,ru⟩:=F.get n;obtain⟨J,L,U,r,B,q⟩:=l it ê;refine Ãi st Áh (x:=u) ĭi λm g R=>?_
  have I1:Inv X O σ H { s with á:=m }:=ųb (t':=Ĉ) đm J L r B q;obtain⟨o,e,c,d⟩:=id g;exact⟨u,rfl,IF (s:={ s with á:=m }) e c d Ð ⟨x,H,I1,ru,⟨rfl,λys Y=>by rw[I.JM Y j];exact n⟩,g,λb f=>(l b f).1⟩⟩
 done:=by intro X C A t N i O s σ H E I l st G;subst C A t;obtain⟨Q,j,n⟩:=G;obtain⟨y,F,p,S⟩:=Ź j;obtain⟨J,L,U,r,B,q⟩:=l it ê;have hl:=Ęk;exact Éi (Ōa N) st Áh Ŋe λm Z=>⟨rfl,ųb (t':=Ĉ) Ìn J L r B q⟩
 Ŵc:=λ_ _ _ _ _ st h=>wpAny_pyIter_listiter st h
def y2r{P:æ}{w:Þ}{K:Î}{tg:Ñ}(a it:Ç):ZS P w K tg ık [it] it (λi h=>Ĉp it a i) where
 mem:=by simp
 obj:=λi h st b f=>by
  have e:b=it:=by simpa using f
  subst e;obtain⟨o,e,c,d⟩:=st;exact⟨o,e,λv z=>by rw[d]at z;cases z⟩
 ŷa:=λi h n st k=>st.at λo e=>k it ê o e
 ŋb:=by
  intro X C A y N i O s σ H E I m st G;subst C A y;obtain⟨Q,x,l,q⟩:=G;obtain⟨g,F,p,S⟩:=òa l;obtain⟨u,T,ru⟩:=F.get q;obtain⟨J,L,U,t,B,r⟩:=m it ê;refine wpAny_pyNext_tuple_item st (show ŝd a Şg from p) (x:=u) ĭi λn j R=>?_
  have I1:Inv X O σ H { s with á:=n }:=ųb (t':=Ĉ) đm J L t B r;obtain⟨o,e,c,d⟩:=id j;exact⟨u,rfl,IF (s:={ s with á:=n }) e c d Ð ⟨x,H,I1,ru,⟨rfl,λys Y=>by rw[I.Lq Y l];exact q⟩,j,λb f=>(m b f).1⟩⟩
 done:=by intro X C A y N i O s σ H E I m st G;subst C A y;obtain⟨Q,l,q⟩:=G;obtain⟨g,F,p,S⟩:=òa l;obtain⟨J,L,U,t,B,r⟩:=m it ê;have hl:=Ęk;exact wpAny_pyNext_tuple_end (Ōa N) st (show ŝd a Şg from p) Ŋe λn Z=>⟨rfl,ųb (t':=Ĉ) Ìn J L t B r⟩
 Ŵc:=λ_ _ _ _ _ st h=>wpAny_pyIter_tupleiter st h
def y2p{P:æ}{w:Þ}{K:Ăj}{tg:Ñ}(it:Ç)(lo:Int)(n:Nat):ZS P w K tg ŧr [it] it (λi h=>õq h it (lo+(i:Nat)*1) ((n:Int)-(i:Nat)) 1) where
 mem:=by simp
 obj:=λi h st b a=>by
  have e:b=it:=by simpa using a
  subst e
  exact⟨_,st,λv z=>by have J:Data.fields _=Data.cell v:=z;cases J⟩
 ŷa:=λi h f st k=>k it ê _ st
 ŋb:=by
  intro X r p m g i B s σ H E I d st u;subst r p m;obtain⟨x,y,G,l,q,j⟩:=d it ê;have W:=Walks.range (ø:=ö) (w:=X.w) (Ōa g) it lo 1 n;refine W.item i s _ _ u st λv f A C c F=>?_
  obtain⟨t,rfl⟩:=C;have N:Inv X B σ H { s with á:=f,Ć:=A }:=ųb (λb o a e=>F b o Ĭi e) x y l q j;refine⟨_,rfl,IF (s:={ s with á:=f,Ć:=A }) (n := "range_iterator") c rfl rfl Ð ⟨.int űa,H,N,⟨t,?_⟩,⟨rfl,rfl⟩,c,λb a=>(d b a).1⟩⟩;rw[øq]
 done:=by intro X r p m g i B s σ H E I d st u;subst r p m;obtain⟨x,y,G,l,q,j⟩:=d it ê;exact wpAny_pyNext_range_end (Ōa g) st (by have:n<=i:=u;omega) λf L=>⟨rfl,ųb (t':=Ĉ) (λb o a e=>L b o a e) x y l q j⟩
 Ŵc:=λ_ _ _ _ _ st h=>wpAny_pyIter_rangeiter st h
section
variable{X:Cx}{tg:Ñ}
def rE(K:Î)(c:TE):TI:=λσ H R=>c σ H λx b=>∃a,x=.ref a/\(∃xs,yL K b a xs)/\R Ĳk b
def rJ(K:Î)(c:TE):TI:=λσ H R=>c σ H λx b=>∃a,x=.ref a/\(∃xs,yo K b a xs)/\R ık b
def z5h{l:Ñ}{f:TE}(n:PE X l f):PI X tg l (rE X.K f):=by
 intro k s σ H R I h;refine zt (n k s σ H _ I h) λv c ⟨x,r,d,t,g⟩=>?_
 obtain⟨a,e,⟨u,i⟩,q⟩:=g;subst e;cases t;obtain⟨m,w,p,y⟩:=d.list i;refine Ĺd Áh ?_;refine⟨Ŏd,[Ŏd],_,_,r,rfl,d.kept (t':=c.toks) λb o e=>ċ _ e,y2o a _,⟨_,Ţ _ rfl,rfl,rfl⟩,λb j=>?_,q⟩;have e:b=Ŏd:=by simpa using j
 subst e;exact d.WB Ċ ģo
def z5l{l:Ñ}{g:TE}(n:PE X l g):PI X tg l (rJ X.K g):=by
 intro m s σ H R I h;refine zt (n m s σ H _ I h) λv c ⟨x,r,d,t,i⟩=>?_
 obtain⟨a,e,⟨u,j⟩,q⟩:=i;subst e;cases t;obtain⟨f,w,p,y⟩:=d.tuple j;refine âi (show c.heap.IsTuple a f.toArray from p) ?_;refine⟨Ŏd,[Ŏd],_,_,r,rfl,d.kept (t':=c.toks) λb o e=>ċ _ e,y2r a _,⟨_,Ţ _ rfl,rfl,rfl⟩,λb k=>?_,q⟩;have e:b=Ŏd:=by simpa using k
 subst e;exact d.WB Ċ ģo
def bZ{a:Á í}{σ:St}{H:Hp}{s:É}{R:It->Hp->Prop}{E:Value->É->Prop}{lo hi:Int}{t u v:Tok}{tk:Nat}(I:Inv X a σ H s)(i : -ðf<=lo)(d:lo<2 ^ 62)(h : -ðf<=hi)(f:hi<2 ^ 62)(q:R (Uj lo (ďh).toNat) H):Ó ÿ X.A (ìe ĝa) (Mh X a σ tg R) E { s with á:=åa { cls:=.type ña,ü:=.fields #[.int lo t,.int hi u,.int 1 v] },Ć:=tk }:=by
 refine wpAny_pyIter_range (öq ..) (small_one i d h f) ?_;have c:Inv X a σ H { s with á:=åa { cls:=.type ña,ü:=.fields #[.int lo t,.int hi u,.int 1 v] },Ć:=tk }:=ñe λb o e=>ċ _ e
 refine⟨(Ŏh).objs.size,[(Ŏh).objs.size],_,_,H,rfl,
  c.kept (t':=tk) λb o e=>ċ _ e,y2p _ lo (ďh).toNat,?_,λb g=>?_,q⟩
 have e1:lo+((0:Nat):Int)*1=lo:=by simp
 have e2:(((ďh).toNat:Nat):Int)-((0:Nat):Int)=ţf lo hi 1:=by rw[rangeSize_one];split<;>omega
 show õq _ _ (lo+((0:Nat):Int)*1) ((((ďh).toNat:Nat):Int)-((0:Nat):Int)) 1;rw[e1,e2];exact Ţ _ rfl;have e:b=(Ŏh).objs.size:=by simpa using g
 subst e;exact c.WB Ċ (Řj Ċ)
def rF(b:TA):TI:=λσ H R=>b σ H λc a=>∃j:Int,c=[.int j] /\ -ðf<=j/\j<2 ^ 62/\R (Uj 0 Èa) a
def rG(b:TA):TI:=λσ H R=>b σ H λc a=>∃i j:Int,c=[.int i,.int j]/\(-ðf<=i/\i<2 ^ 62 /\ -ðf<=j/\j<2 ^ 62)/\R (Uj i (ĝd).toNat) a
def z5i{a:Ñ}{c:TA}{p pos:Pos}(g:Gl X ña)(d:ó ña=Ã)(m:PA X [a] c)(f:Ê ÿm q12):PI X tg Ľn (rF c):=by
 intro i s σ H R I h;refine Ňh (XC I g d Śj (đe (zt (m pos i s σ H _ I h) λu v ⟨o,w,l,n,b⟩=>?_) f rfl));obtain⟨j,e,b,k,q⟩:=b;subst e;cases n with
 |ù r rr=>cases rr;obtain⟨t,rfl⟩:=r;exact Śp (bZ l Å Å b k (by simpa using q))
def z5j{a b:Ñ}{f:TA}{p pos:Pos}(m:Gl X ña)(k:ó ña=Ã)(v:PA X Āe f)(l:Ê ňl q12)(c:Ê þm q12) :PI X tg çm (rG f):=by
 intro n s σ H R I h;refine Ňh (XC I m k Śj (đe (zt (v pos n s σ H _ I h) λA B ⟨y,C,u,w,d⟩=>?_) (by rw[l,c]) (by rw[c];rfl)));obtain⟨i,j,e,⟨d,o,x,g⟩,q⟩:=d;subst e;cases w with
 |ù r rr=>
  cases rr with
  |ù r' rr=>cases rr;obtain⟨t,rfl⟩:=r;obtain⟨z,rfl⟩:=r';exact call_range_2 (bZ u d o x g q)
noncomputable def y15(d:TI)(g:TG)(a:TS):TS:=λD σ H=>d σ H λJ b=>∃W:Nat->Nat->St->Hp->Prop,(∃m,W 0 m σ b)/\∀i m σ H,W i m σ H->
 (ĥh i H/\éb σ H)\/(J.go i H/\∃N:St->Hp->Prop,(∀σ' H',N σ' H'->∃m',m'<m/\W ï m' σ' H')/\∀x H',J.ui i H x H'->g x σ H' λσ2 c=>a { D with nx:=N,ct:=N,bk:=éb } σ2 c)
noncomputable def Q3(a:Á Ç)(h:Heap):Á í:=a.filterMap λb=>(ĉ b).map λo=>(b,o)
def Ig{a:Á Ç}{h:Heap}{b:Ç}{o:Obj}(c:b∈a)(e:ĉ b=À o):(b,o)∈Q3 a h:=List.mem_filterMap.mpr ⟨b,c,by rw[e];rfl⟩
def z1s{a:Á Ç}{h:Heap}{p:Ç×Obj}(f:p∈Q3 a h):p.1∈a/\ĉ p.1=À p.2:=by
 obtain⟨b,c,e⟩:=List.mem_filterMap.mp f;cases q:ĉ b with
 |Ã=>rw[q]at e;cases e|À o=>rw[q]at e;have d:(b,o)=p:=ėa e;subst d;exact⟨c,q⟩
def Inv.pinned{a:Á í}{σ:St}{H:Hp}{s:É}{c:Á Ç}(I:Inv X a σ H s)(k:∀b∈c,pZ X a H b)(i:∀b∈c,∃o,ð b=À o/\∀v,Ýa≠.cell v):Inv X (a++Q3 c Ü) σ H s:=
 I.UK λp j=>(Ïa j).elim (λz=>Œa p (ŀa _ z)) λz=>by obtain⟨f,e⟩:=z1s z;obtain⟨h,l,m,_⟩:=k p.1 f;obtain⟨o,g,d⟩:=i p.1 f;rw[e]at g;cases g;exact⟨e,h,l,m,d⟩
def Inv.Lu{a pl:Á í}{σ:St}{H:Hp}{s:É}(I:Inv X (a++pl) σ H s):Inv X a σ H s:=I.UK λp b=>Œa p (ŀa _ (žc _ b))
def Ca{p:Ñ}{q:Á Ù}{wi:TI}{g:TG}{tb:TS}{pos:Pos}(L:Źd ÿ X.A Ö ġ)(Z:Ű=Â)(hi:PI X tg p wi)(hg:PG X tg g)(a:uM X q tb)(hs:Ê (∀x,Ôc p Ö x=pure x) q11):PS X (.For tg p q [] pos) (y15 wi g tb):=by
 intro y s σ H D I h;refine wpAny_For (zt (hi y s σ H _ I h) λv s1 h1=>zt h1 λitv s2 h2=>?_) hs;obtain⟨it,F,tn,J,H2,e,I2,T,S,f2,W,⟨m0,w0⟩,C⟩:=h2;subst e;have c:∀{H':Hp},(∀b∈F,H' b=Ã)->∀b∈F,pZ X y H' b:=λhn b a=>⟨hn b a,(f2 b a).2⟩
 refine codeAny_forLoop_any (λn s'=>∃i σ' H',Inv X y σ' H' s'/\tn i Ćd/\(∀b∈F,H' b=Ã)/\W i n σ' H') ?_ m0 ⟨0,σ,H2,I2,S,λb a=>(f2 b a).1,w0⟩;rintro n s3 ⟨i,σ3,P,I3,E,K,w3⟩;rcases C i n σ3 P w3 with⟨B,qn⟩|⟨go,N,hN,G⟩;refine Ãd L (zt (T.done X rfl rfl rfl Z i y s3 σ3 P ġ I3 (c K) E B) λr s4 ⟨R,I4⟩=>?_);subst R;exact ũf ⟨σ3,P,I4,qn⟩
 .refine Ãd L (zt (T.item X rfl rfl rfl Z i y s3 σ3 P ġ I3 (c K) E go) λr s4 ⟨u,R,h4⟩=>?_);subst R;refine Ãd L (zt h4 λ_ s5 ⟨x,H5,I5,r5,y5,z,Y⟩=>?_);have U:=I5.pinned (c Y) (ĭf _ _ z);refine Ãd L (zt (hg _ s5 σ3 H5 x u _ U r5 (G x H5 y5)) λ_ s6 ⟨σ6,H6,I6,q6⟩=>?_);refine Ãd L (zt (a _ s6 σ6 H6 _ I6 q6) λf Q t=>?_)
  have k:∀{σ7:St}{l:Hp},Inv X (y++Q3 F s5.heap) σ7 l Q->N σ7 l->∃m,m<n/\∃i σ' H',Inv X y σ' H' Q/\tn i Q.heap/\(∀b∈F,H' b=Ã)/\W i m σ' H':=λ{σ7 l} j O=>by obtain⟨m',hm,w7⟩:=hN σ7 l O;refine⟨m',hm,i+1,σ7,l,j.Lu,đf _ _ _ z λb a o e=>Ãm.1,λb a=>?_,w7⟩;obtain⟨o,e,d⟩:=ĭf _ _ z b a;exact Ãm.2.1
  cases f with
  |next=>obtain⟨σ7,l,j,O⟩:=t;exact k j O
  |đc=>obtain⟨σ7,l,j,O⟩:=t;exact k j O
  |brk=>obtain⟨σ7,l,j,t⟩:=t;exact⟨σ7,l,j.Lu,t⟩
  |ret v=>obtain⟨x7,σ7,l,j,r7,t⟩:=t;exact⟨x7,σ7,l,j.Lu,r7,t⟩
omit a
abbrev R2:=V->V->Hp->VK->Prop
def ym(X:Cx)(f:Value->Value->Sem Value)(r:R2):Prop:=
 ∀(z8:Á í) (s:É) (σ:St) (H:Hp) (x y:V) (v u:Value) (Q:VK),Inv X z8 σ H s->zw x v->zw y u->r x y H Q->
  Ó ÿ X.A ŵk Śb ġ s
def Uv(X:Cx)(f:Value->Sem Value)(r:V->Hp->VK->Prop):Prop:=
 ∀(z8:Á í) (s:É) (σ:St) (H:Hp) (x:V) (v:Value) (Q:VK),Inv X z8 σ H s->zw x v->r x H Q->
  Ó ÿ X.A (f v) Śb ġ s
def vA(X:Cx)(f:Value)(r:Á V->Hp->VK->Prop):Prop:=
 ∀(z8:Á í) (s:É) (σ:St) (H:Hp) (xs:Á V) (us:Á Value) (Q:VK),Inv X z8 σ H s->zf xs us->r xs H Q->
  Ó ÿ X.A (Ėb f us) Śb ġ s
noncomputable def OY(r:R2)(c a:TE):TE:=λσ H Q=>c σ H λx b=>a σ b λy d=>r x y d Q
noncomputable def y1o(r:V->Hp->VK->Prop)(b:TE):TE:=λσ H Q=>b σ H λx a=>r x a Q
noncomputable def rI(C:Int->Int->Prop)(g:Int->Int->V):R2:=λx y H Q=>∃i j,x=.int i/\y=.int j/\C i j/\Q Ñb H
noncomputable def qb(g:Int->Int->V):R2:=λx y H Q=>∃i j,x=.int i/\y=.int j/\Q Ñb H
def rU(g:Int->V):V->Hp->VK->Prop:=λx H Q=>∃i,x=.int i/\Q (g i) H
section
variable{X:Cx}{a b c:Ñ}{ta tb:TE}{pos:Pos}
def Bs(n:PE X a ta)(e:PE X b tb){c:Á í}{s:É}{σ:St}{H:Hp}{R:V->V->Hp->Prop}(I:Inv X c σ H s)(h:ta σ H λx H1=>tb σ H1 λy H2=>R x y H2){Q:Value->É->Prop}{f:Value->Value->Sem Value}(j:∀v u s2 x y H2,Inv X c σ H2 s2->zw x v->zw y u->R x y H2->Ó ÿ X.A ŵk Q ġ s2) :Ó ÿ X.A Čq (λv s₁=>Ó ÿ X.A (Ę b Ö) (λu s₂=>Ó ÿ X.A ŵk Q ġ s₂) ġ s₁) ġ s:=by
 refine zt (n c s σ H _ I h) λv m ⟨x,H1,l,o,d⟩=>?_
 refine zt (e c m σ H1 _ l d) λu s2 ⟨y,H2,i,g,k⟩=>?_
 exact j v u s2 x y H2 i o g k
def CV{c:åf}{r:R2}(e:ym X (Éb c) r)(k:PE X a ta)(f:PE X b tb):PE X (.BinOp a c b pos) ĝg:=by intro i s σ H Q I h;exact wpAny_BinOp (Bs k f I h λv u l x y m g d j q=>e i l σ m x y v u Q g d j q)
def z5a{c:UnaryOp}{r:V->Hp->VK->Prop}(e:Uv X (ëh c) r)(j:PE X a ta):PE X (.UnaryOp c a pos) (y1o r ta):=by intro b s σ H Q I h;exact UnaryOp_ (zt (j b s σ H _ I h) λv f ⟨x,i,g,k,d⟩=>e b f σ i x v Q g k d)
def VN{f:Value->Value->Sem Value}{C:Int->Int->Prop}{g:Int->Int->Int}(a:∀(i j:Int)(t u:Tok)(s:É)(Q:Value->É->Prop)(E:Value->É->Prop),C i j->Q ôp { s with Ć:=Ĉ+1 }->Ó ÿ X.A ßi Q E s) :ym X f Ón:=by intro k s σ H x y v u Q I b e h;obtain⟨i,j,rfl,rfl,d,q⟩:=h;obtain⟨t,rfl⟩:=b;obtain⟨c,rfl⟩:=e;exact a i j t c s _ _ d ⟨.int Ñb,H,ßa _,⟨_,rfl⟩,q⟩
def Q2{f:Value->Value->Sem Value}{g:Int->Int->Int}(a:∀(i j:Int)(t u:Tok)(s:É)(Q:Value->É->Prop)(E:Value->É->Prop),Q ôp { s with Ć:=Ĉ+1 }->Ó ÿ X.A ßi Q E s) :ym X f Ġr:=by intro e s σ H x y v u Q I b d h;obtain⟨i,j,rfl,rfl,q⟩:=h;obtain⟨t,rfl⟩:=b;obtain⟨c,rfl⟩:=d;exact a i j t c s _ _ ⟨.int Ñb,H,ßa _,⟨_,rfl⟩,q⟩
def CS{f:Value->Value->Sem Value}{g:Int->Int->Í}(a:∀(i j:Int)(t u:Tok)(s:É)(Q:Value->É->Prop)(E:Value->É->Prop),Q (.bool Ñb) s->Ó ÿ X.A ßi Q E s) :ym X f ŋn:=by intro e s σ H x y v u Q I b d h;obtain⟨i,j,rfl,rfl,q⟩:=h;obtain⟨t,rfl⟩:=b;obtain⟨c,rfl⟩:=d;exact a i j t c s _ _ ⟨.bl Ñb,H,I,rfl,q⟩
def Lw(i j:Int):Prop:=0<=j/\j<=1000000/\óc<2 ^ 64
def UN(i j:Int):Prop:=(-àh<i/\i<2 ^ 64)\/(-àh<j/\j<2 ^ 64)
def UN.ok{i j:Int}(h:UN i j):IntMulOk i j:=by rcases h with⟨b,a⟩|⟨b,a⟩;exact .of_left Ōn;exact .of_right Ōn
def y2u(k:Nat):(0:Int)<=2 ^ k:=by rw[two_pow_cast];exact Ĝc _
def z3z:ym X ųd (ψ (i+j)):=Q2 λ_ _ _ _ _ _ _ q=>ċa q
def Zs:ym X (Éb .Sub) čq:=Q2 λ_ _ _ _ _ _ _ q=>sub_int q
def Iq:ym X Ĵj Þi:=VN λ_ _ _ _ _ _ _ a q=>mul_int q a.ok
def xF:ym X (Éb .Mod) Ţm:=VN λi j _ _ _ _ _ a q=>by have b:(0:Int)<j:=a;exact mod_int' Å (by rw[Int.fmod_eq_emod_of_nonneg i Å];exact q)
def jm:ym X (Éb .LShift) ąm:=VN λ_ _ _ _ _ _ _ a q=>lshift_int_small a.1 a.2.1 a.2.2 q
def Ir:ym X (Éb .RShift) ým:=VN λi j _ _ _ _ _ a q=>
 rshift_int a (by rw[łm i (y2u _)];exact q)
def VO:ym X (Éb .BitAnd) (ψ (Îa i j)):=Q2 λ_ _ _ _ _ _ _ q=>and_int q
def jl:ym X (Éb .BitOr) (ψ (Ża i j)):=Q2 λ_ _ _ _ _ _ _ q=>or_int q
def z4d:ym X (Éb .BitXor) (ψ (żi i j)):=Q2 λ_ _ _ _ _ _ _ q=>xor_int q
def dO{f:Value->Sem Value}{g:Int->Int}(a:∀(i:Int)(t:Tok)(s:É)(Q:Value->É->Prop)(E:Value->É->Prop),Q (.int (g i) Ĉ) { s with Ć:=Ĉ+1 }->Ó ÿ X.A (f ŏg) Q E s) :Uv X f (Ψb (g i)):=by intro c s σ H x v Q I b h;obtain⟨i,rfl,q⟩:=h;obtain⟨t,rfl⟩:=b;exact a i t s _ _ ⟨.int (g i),H,ßa _,⟨_,rfl⟩,q⟩
def dW:Uv X (ëh .USub) (Ψb (-i)):=dO λ_ _ _ _ _ q=>neg_int q
def dU:Uv X (ëh .Invert) (Ψb Šk):=dO λ_ _ _ _ _ q=>invert_int q
def z40:ym X ųd (λx y H Q=>∃i k,x=.int i/\y=.bl k/\Q ňo H):=by intro c s σ H x y v u Q I a b h;obtain⟨i,k,rfl,rfl,q⟩:=h;obtain⟨t,rfl⟩:=a;cases b;exact add_int_bool ⟨.int (i+b2i k),H,ßa _,⟨_,rfl⟩,q⟩
omit a
noncomputable def GV:V->V->Í
 |.zK,.zK=>Â|.zK,.int _=>Â|.int _,.zK=>Â|.zK,.bl _=>Â|.bl _,.zK=>Â|.zK,.str _=>Â|.str _,.zK=>Â|.int _,.int _=>Â|.bl _,.bl _=>Â|.str _,.str _=>Â|.byt _,.byt _=>Â|.int _,.str _=>Â|.str _,.int _=>Â|.bl _,.str _=>Â|.str _,.bl _=>Â|_,_=>Ä
def z6w:R2:=λx y H Q=>GV x y=Â/\Q (θa (x=y)) H
def z71:R2:=λx y H Q=>GV x y=Â/\Q (.bl (!decide (x=y))) H
def D5{i j:Int}:decide (Ĕb i=Ĕb j)=ğf:=by rw[Ôd];simp
def D4{i j:Í}:decide (V.bl i=V.bl j)=ğf:=by rw[Ôd];simp
def D6{i j:Str}:decide (ĩh i=ĩh j)=ğf:=by rw[Ôd];simp
def RK{i j:Ô UInt8}:decide (V.byt i=V.byt j)=(i.toList==j.toList):=by rw[Ôd];cases i;cases j;simp
section
variable{X:Cx}{a b c:Ñ}{ta tb:TE}{pos:Pos}
def x_{a:Á í}{σ:St}{H:Hp}{s:É}{Q:VK}{k b:Í}(I:Inv X a σ H s)(q:Q æe H)(e:k=b):EP X a σ Q Żg s:=by subst e;exact⟨.bl k,H,I,rfl,q⟩
def z43:ym X ģr z6w:=by
 intro e s σ H x y v u Q I d a h;obtain⟨c,q⟩:=h;cases x with
 |zK=>
  cases d;cases y with
  |zK=>cases a;exact PySem.EqNone.eq_none_none Ña|bl j=>cases a;exact PySem.EqNone.eq_none_bool Ña|int j=>obtain⟨b,rfl⟩:=a;exact PySem.EqNone.eq_none_int Ña
  |str j=>obtain⟨b,rfl⟩:=a;exact PySem.EqNone.eq_none_str Ña
  |_=>exact Û (show Ä=Â from c) ģ
 |bl i=>
  cases d;cases y with
  |zK=>cases a;exact PySem.EqNone.eq_bool_none Ña|bl j=>cases a;exact eq_bool (x_ I q D4)|str j=>obtain⟨b,rfl⟩:=a;exact PySem.EqMixed.eq_bool_str Ña
  |_=>exact Û (show Ä=Â from c) ģ
 |int i=>
  obtain⟨t,rfl⟩:=d;cases y with
  |zK=>cases a;exact PySem.EqNone.eq_int_none Ña|int j=>obtain⟨b,rfl⟩:=a;exact Ĉc (x_ I q D5)
  |str j=>obtain⟨b,rfl⟩:=a;exact PySem.EqMixed.eq_int_str Ña
  |_=>exact Û (show Ä=Â from c) ģ
 |str i=>
  obtain⟨t,rfl⟩:=d;cases y with
  |zK=>cases a;exact PySem.EqNone.eq_str_none Ña|bl j=>cases a;exact PySem.EqMixed.eq_str_bool Ña|int j=>obtain⟨b,rfl⟩:=a;exact PySem.EqMixed.eq_str_int Ña
  |str j=>obtain⟨b,rfl⟩:=a;exact eq_str (x_ I q D6)
  |_=>exact Û (show Ä=Â from c) ģ
 |byt i=>
  obtain⟨t,rfl⟩:=d;cases y with
  |byt j=>obtain⟨b,rfl⟩:=a;exact W.eq_bytes (x_ I q RK)
  |_=>exact Û (show Ä=Â from c) ģ
 |_=>cases y<;>exact Û (show Ä=Â from c) ģ
def z4a:ym X Ŧp z71:=by
 intro e s σ H x y v u Q I d a h;obtain⟨c,q⟩:=h;cases x with
 |zK=>
  cases d;cases y with
  |zK=>cases a;exact PySem.EqNone.ne_none_none Ña|bl j=>cases a;exact PySem.EqNone.ne_none_bool Ña|int j=>obtain⟨b,rfl⟩:=a;exact PySem.EqNone.ne_none_int Ña
  |str j=>obtain⟨b,rfl⟩:=a;exact PySem.EqNone.ne_none_str Ña
  |_=>exact Û (show Ä=Â from c) ģ
 |bl i=>
  cases d;cases y with
  |zK=>cases a;exact PySem.EqNone.ne_bool_none Ña|bl j=>cases a;exact ne_bool (x_ I q (ů not D4))|str j=>obtain⟨b,rfl⟩:=a;exact PySem.EqMixed.ne_bool_str Ña
  |_=>exact Û (show Ä=Â from c) ģ
 |int i=>
  obtain⟨t,rfl⟩:=d;cases y with
  |zK=>cases a;exact PySem.EqNone.ne_int_none Ña|int j=>obtain⟨b,rfl⟩:=a;exact ne_int (x_ I q (ů not D5))
  |str j=>obtain⟨b,rfl⟩:=a;exact PySem.EqMixed.ne_int_str Ña
  |_=>exact Û (show Ä=Â from c) ģ
 |str i=>
  obtain⟨t,rfl⟩:=d;cases y with
  |zK=>cases a;exact PySem.EqNone.ne_str_none Ña|bl j=>cases a;exact PySem.EqMixed.ne_str_bool Ña|int j=>obtain⟨b,rfl⟩:=a;exact PySem.EqMixed.ne_str_int Ña
  |str j=>obtain⟨b,rfl⟩:=a;exact ne_str (x_ I q (ů not D6))
  |_=>exact Û (show Ä=Â from c) ģ
 |byt i=>
  obtain⟨t,rfl⟩:=d;cases y with
  |byt j=>obtain⟨b,rfl⟩:=a;exact W.ne_bytes (x_ I q (ů not RK))
  |_=>exact Û (show Ä=Â from c) ģ
 |_=>cases y<;>exact Û (show Ä=Â from c) ģ
def Ip:ym X (ša .Lt) (Ξb (i<j)):=CS λ_ _ _ _ _ _ _ q=>lt_int q
def z48:ym X (ša .LtE) (Ξb (i<=j)):=CS λ_ _ _ _ _ _ _ q=>le_int q
def z44:ym X (ša .GtE) (Ξb (j<=i)):=CS λ_ _ _ _ _ _ _ q=>ge_int q
def z47:ym X Êf (λx y H Q=>∃i j,x=.str i/\y=.str j/\Q (.bl ım) H):=by intro d s σ H x y v u Q I a b h;obtain⟨i,j,rfl,rfl,q⟩:=h;obtain⟨t,rfl⟩:=a;obtain⟨c,rfl⟩:=b;exact in_str (x_ I q rfl)
def CT:ym X (ša .Is) Ŀn:=by
 intro c s σ H x y v u Q I a b h;obtain⟨rfl,q⟩:=h;cases b;refine is_none_gen Ğq
 cases x<;>first
  |(cases a;rfl)
  |(obtain⟨t,rfl⟩:=a;rfl)
def z4b:ym X (ša .IsNot) Ěm:=by
 intro c s σ H x y v u Q I a b h;obtain⟨rfl,q⟩:=h;cases b;refine isnot_none_gen Ğq
 cases x<;>first
  |(cases a;rfl)
  |(obtain⟨t,rfl⟩:=a;rfl)
def ym.or{f:Value->Value->Sem Value}{r d:R2}(h:ym X f r)(h':ym X f d):ym X f (λx y H Q=>r x y H Q\/d x y H Q):=by intro a s σ H x y v u Q I b c q;rcases q with q|q;exact h a s σ H x y v u Q I b c q;exact h' a s σ H x y v u Q I b c q
def yM(b:Ñ){a:ņh}(h:Ê (a≠.In) q10)(c:Ê (a≠.NotIn) q10):İc a b=Ä:=by
 have e1:(a==CmpOp.In)=Ä:=by cases a<;>first|rfl|exact Û rfl h
 have e2:(a==CmpOp.NotIn)=Ä:=by cases a<;>first|rfl|exact Û rfl c
 cases b<;>simp[İc,e1,e2]
theorem z4y{c:ņh}{r:R2}(f:ym X (ša c) r)(l:PE X a ta)(g:PE X b tb)(e:İc c b=Ä):PE X (.Compare a [c] [b] pos) ĝg:=by intro j s σ H Q I h;exact wpAny_Compare1 (Bs l g I h λv u m x y n i d k q=>f j m σ n x y v u Q i d k q) e
noncomputable def y1m(t:TE):TT:=λσ H Q=>t σ H λx a=>∃k,x=.bl k/\Q k a
def Cd{d:ņh}{r:R2}(j:ym X (ša d) r)(A:PE X a ta)(l:PE X b tb)(i:İc d b=Ä):PT X (.Compare a [d] [b] pos) (y1m ĝg):=by
 intro f s σ H Q I h
 refine wpAny_isTrue_Compare1 (zt (A f s σ H _ I h) λv t ⟨x,E,w,G,g⟩=>zt (l f t σ E _ w g) λu C ⟨y,F,o,m,q⟩=>
  zt (j f C σ F x y v u _ o G m q) λc K ⟨z,B,p,n,k,e,J⟩=>?_) i
 subst e;cases n;exact Ěe ⟨B,p,J⟩
def VF:(Ý:Nat)<2 ^ 63:=by rw[ś];decide
def z41:ym X ųd (λx y H Q=>∃i j,x=.str i/\y=.str j/\ôc+Ðb<=Ý/\Q ŋp H):=by intro e s σ H x y v u Q I a d h;obtain⟨i,j,rfl,rfl,c,q⟩:=h;obtain⟨t,rfl⟩:=a;obtain⟨b,rfl⟩:=d;exact õh (λb f=>⟨.str (i++j),H,ßa _,⟨_,rfl⟩,q⟩) c
def u_{x:V}{us:Á Value}(r:zf [x] us):∃u,us=[u]/\zw x u:=by
 cases r with
 |ù r1 r2=>cases r2;exact⟨_,rfl,r1⟩
def HP{x y:V}{us:Á Value}(r:zf ċc us):∃u w',us=[u,w']/\zw x u/\zw y w':=by
 cases r with
 |ù r1 r2=>
  cases r2 with
  |ù r3 r4=>cases r4;exact⟨_,_,rfl,r1,r3⟩
omit a
structure Yl(h:Heap)(x dx C:Ç)(mA:Str->Æ Value):Prop where
 obj:ĉ x=À Řq
 ns:Ļh dx mA
 ne:dx≠x
def z0a{h:Heap}{d:Ç}{f:Str->Æ Value}(n:Ļh d f):∃od,ĉ d=À od/\∀ħ,Ëh ħ od=À (f ħ):=by
 obtain⟨o,c,p,i,m,j,_,g⟩:=n;refine⟨o,i,λname=>?_⟩;have e:=g ħ;unfold nsFind findBy at e;rw[<-Array.find?_toList]at e;unfold Ëh;rw[m];dsimp only
 split;rename_i y q;rw[q]at e;exact ů À e;rename_i q;rw[q]at e
 have a:Ŝp (·.refKey)=Ä:=by rw[ßo];intro y k;obtain⟨z,t,b⟩:=j y (Array.mem_toList_iff.mp k);simp[DictEntry.refKey,b]
 have l:¬ Ŝp (·.refKey)=Â:=by rw[a];exact ģ
 rw[Ï l];exact ů À e
def Yl.look{h:Heap}{x a C:Ç}{b:Str->Æ Value}(I:Yl h x a C b):∃od,W.InstAt h x (Ñg C a) C (À od)/\∀ħ,Ëh ħ od=À (b ħ):=
 let ⟨od,ho,hl⟩:=z0a I.ns
 ⟨od,⟨I.obj,rfl,rfl,ho⟩,hl⟩
section
variable{ø:æ}{w:Þ}{A:ñ}{E:Value->É->Prop}{s:É}{K:Î}{x dx C f:Ç}{mA:Str->Æ Value}{ħ:Str}{v:Value}
def mv{a:Í}{Q:Value->É->Prop}(X:š Ü)(I:Yl Ü x dx C mA)(f:Ŵe K C ħ=Â)(d:Ġg K C=Â)(e:ġa K ĩ ħ=À Ã)(hv:mA ħ=À v)(b:ŏq v=Â)(h:Q v { s with Ć:=Ĉ+1 }) :Ó à A (ņk Ðe ħ a) Q E s:=by obtain⟨g,J,c⟩:=Ûl;exact W.get_value X J (Ôj f).1 (W.findObj_own d e rfl (by rw[c,hv])) b h
def mw{pl:Sem Í}{Q:Value×Á Value->É->Prop}(X:š Ü)(I:Yl Ü x dx C mA)(a:Ŵe K C ħ=Â)(e:ġa K ĩ ħ=À ũa)(d:Ēd K ĕ=Â)(hv:mA ħ=Ã)(h:Q (.ref f,[.ref x]) s) :Ó à A (òr Ðe ħ pl) Q E s:=by obtain⟨c,J,b⟩:=Ûl;exact W.method_fn X J (Ôj a).1 (Ôj a).2 e (Ąg d) (by show(Ëh ħ c).map (·.isSome)=À Ä;rw[b,hv];rfl) h
def z9d{ns:Á Str}{Q:õa->É->Prop}(X:š Ü)(I:Yl Ü x dx C mA)(o:ġa K ĩ Îj=À ũh)(m:ħj K C=Â)(l:Êk K C ħ=À Ã)(p:Ġg K C=Â)(k:āj mA ns)(hsz:Ŝ<=Ý)(h:∀h',Yl h' x dx C (λy=>if y=ħ then À v else mA y)->Ša dx Ü h'->Q () { s with á:=h',Ć:=Ĉ+2 }) :Ó à A (setAttr Ðe ħ v) Q E s:=by
 obtain⟨z,J,B⟩:=Ûl;refine W.set_plain X J o (W.osa_open (s:={ s with Ć:=Ĉ+1 }) (r:=Ã) X J m l λb=>?_);obtain⟨F,n,f⟩:=W.any_some p;have j:ð x=À ⟨.ref C,À dx,.plain,#[]⟩:=I.obj;refine Ì (Γa (Ì (wpAny_loadPart j (Ì (W.Looks.here (s:={ s with Ć:=Ĉ+1 }) (W.looks_clsIn X n) ?_)))));rw[f];refine ë (a:=À dx) (Ì Ŀr);refine wpAny_nsSet1 (s:={ s with Ć:=Ĉ+1 }) I.ns λh' c d=>?_
 obtain⟨u,q,t,g,i,e⟩:=c.count (PySem.Within.cons ħ v k);refine Ì (wpAny_lookBehind g (by rw[i];exact pastItsLine_dict (ŏ e Ão)) ?_);exact ë (h _ ⟨(d.2 _ (Ļb I.ne)).trans I.obj,c,I.ne⟩ d)
def z0f{R:ïe->É->Prop}{vs:Á Value}{b:Á Ĺc}(X:š Ü)(c:Ÿd K C=Â)(hi:ġa K ĩ Ěa=À ũa)(e:W.typeIn K ĕ=À (.type "function"))(h:ļb à (A.under (.builtin Ĳo ⟨.ref C::vs,b⟩)) (.call ĕ ⟨.ref Ķa::vs,b⟩) (W.InitBack Ķa R)
   { s with á:=(Ōd).push Īg }) :
  ļb à A (.call ĩ ⟨vs,b⟩) R s:=by
 obtain⟨i,g,d,t,j⟩:=s;exact W.make_core (W.makes_of X c) (W.looks_findIn X hi) (λa=>W.bind_fn X a e) ŉ h
omit a
noncomputable def Ŋb(f:Str)(v:V):Á ŵb->Á ŵb
 | []=>[(f,v)]|(g,x)::r=>if g=f then(g,v)::r else(g,x)::Ŋb f v r
theorem Sy(f g:Str)(v:V):∀fs:Á ŵb,(Ċg).lookup g=if g=f then À v else Ļc g
 | []=>by show ãd g [(f,v)]=_;by_cases h:g=f;have a:(g==f)=Â:=Ýc h;simp only[ãd,a,Ë h];have a:(g==f)=Ä:=Őb h;simp only[ãd,a,Ï h]|(k,x)::r=>by have b:=Sy f g v r;rw[show Ŋb f v ųj=Şh from rfl];by_cases hk:k=f;rw[Ë hk];by_cases h:g=k;have a:Ĳh=Â:=Ýc h;simp only[ãd,a,Ë (Öe hk)];have a:Ĳh=Ä:=Őb h;simp only[ãd,a,Ï (λe:g=f=>h (ýc hk.symm))];rw[Ï hk];by_cases h:g=k;have a:Ĳh=Â:=Ýc h;simp only[ãd,a,Ï (λe:g=f=>hk (Ŗp e))];have a:Ĳh=Ä:=Őb h;simp only[ãd,a];exact b
theorem Fn(f:Str)(v:V):∀fs:Á ŵb,f∈(Ċg).map (·.1)/\∀g,g∈Ăd (·.1)->g∈(Ċg).map (·.1)
 | []=>⟨by simp[Ŋb],λg h=>by simp at h⟩|(k,x)::r=>by obtain⟨a,b⟩:=Fn f v r;rw[show Ŋb f v ųj=Şh from rfl];by_cases hk:k=f;rw[Ë hk];subst hk;exact⟨by simp,λg h=>by simpa using h⟩;rw[Ï hk];refine⟨?_,λg h=>?_⟩;rw[Ŗ];exact Àa _ a;rw[Ŗ]at h ⊢;rcases ę h with e|e;exact List.mem_cons.mpr ĸk;exact Àa _ (b g e)
theorem Sw(f:Str)(v:V):∀fs:Á ŵb,(Ċg).length<=ŧa+1
 | []=>by simp[Ŋb]|(k,x)::r=>by have a:=Sw f v r;rw[show Ŋb f v ųj=Şh from rfl];by_cases hk:k=f;rw[Ë hk,Ă,Ă];omega;rw[Ï hk,Ă,Ă];omega
def ķg{v:V}{o:Æ Value}(r:uW Éa o):∃u,o=À u/\zw v u:=by
 cases o with
 |Ã=>exact(show î from r).elim|À u=>exact⟨u,rfl,r⟩
def Ŀq{o:Æ Value}(r:uW Ã o):o=Ã:=by
 cases o with
 |Ã=>rfl|À u=>exact(show î from r).elim
def oy{v:V}{u:Value}(r:zw v u):ŏq u=Â:=by
 cases v with
 |zK=>cases(show u=Ĭb from r);rfl|bl b=>cases(show u=Ļg b from r);rfl|int i=>obtain⟨t,e⟩:=(show ∃t,u=êc i t from r);cases e;rfl
 |str x=>obtain⟨t,e⟩:=(show ∃t,u=Ůb x t from r);cases e;rfl
 |byt b=>obtain⟨t,e⟩:=(show ∃t,u=îq b t from r);cases e;rfl
 |YT b=>obtain⟨t,e⟩:=(show ∃t,u=Īj b t from r);cases e;rfl
 |ref a=>cases(show u=Đ a from r);rfl|ty n=>cases(show u=çc n from r);rfl
section
variable{P:æ}{w:Þ}{H:Hp}{h:Heap}{a C dx:Ç}{fs:Á ŵb}
def IN(c:xv P w H h)(e:H a=À Īb):∃mA,Yl h a dx C mA/\(∀f,uW śk èl)/\āj mA (Ăd (·.1))/\ŧa<=1000/\H dx=À òf:=by obtain⟨d,z,g,b,mA,n,r,q⟩:=(show xU P w H h a Īb from c a _ e);exact⟨mA,⟨b,n,g⟩,r,q,z,d⟩
omit a
structure tD(K:Î)(C:Ç):Prop where
 pg:Ŵe K C Ïk=Â
 hd:Ġg K C=Â
 po:ħj K C=Â
 sa:ġa K ĩ Îj=À ũh
def tD.get{K:Î}{C:Ç}(c:tD K C)(f:Str):Ŵe K C f=Â:=c.pg
def ZQ(K:Î)(C:Ç)(f:Str):Prop:=ġa K ĩ f=À Ã
def ZQ.hG{K:Î}{C:Ç}{f:Str}(n:ZQ K C f):Êk K C f=À Ã:=by unfold Êk;rw[show ġa K ĩ f=À Ã from n];rfl
structure Me(K:Î)(C:Ç)(m:Str)(f:Ç):Prop where
 at_:ġa K ĩ m=À ũa
 fn:Ēd K ĕ=Â
 kp:Øa K ĕ=Â
section
variable{X:Cx}{z8:Á í}{σ:St}{H:Hp}{s:É}{a C dx:Ç}{fs:Á ŵb}{f:Str}{v:V}{A:ñ}{E:Value->É->Prop}
def S5{b:Í}{Q:Value->É->Prop}(I:Inv X z8 σ H s)(e:H a=À Īb)(c:tD X.K C)(n:ZQ X.K C f)(l:Ļc f=À v)(h:∀u s',Inv X z8 σ H s'->zw v u->Q u s'):Ó ÿ A (ņk ő f b) Q E s:=by obtain⟨i,O,r,_,_,_⟩:=IN ĝ e;obtain⟨u,g,d⟩:=ķg (v:=v) (o:=i f) (by rw[<-l];exact r f);exact mv ū O (c.get f) c.hd n g (oy d) (h u _ Ċd d)
def my{m:Str}{g:Ç}{pl:Sem Í}{Q:Value×Á Value->É->Prop}(I:Inv X z8 σ H s)(e:H a=À Īb)(c:tD X.K C)(k:Me X.K C m g)(l:Ļc m=Ã)(h:Q (.ref g,Ôa) s):Ó ÿ A (òr ő m pl) Q E s:=by obtain⟨b,O,r,_,_,_⟩:=IN ĝ e;have d:b m=Ã:=Ŀq (by rw[<-l];exact r m);exact mw ū O (c.get m) k.at_ k.fn d h
def cM{y:V}{u:Value}{Q:õa->É->Prop}(I:Inv X z8 σ H s)(e:H a=À Īb)(c:tD X.K C)(n:ZQ X.K C f)(G:ŧa<1000)(v:zw y u)(h:∀s',Inv X z8 σ (zX H a řm) s'->Q () s'):Ó ÿ A (setAttr ő f u) Q E s:=by
 obtain⟨k,O,r,j,_,i⟩:=IN ĝ e;have p:(Ăd (·.1)).length<=Ý:=by rw[é,ś];omega
 refine z9d ū O c.sa c.po n.hG c.hd j p λB d m=>h _ ?_
 have F:∃o,ßl dx=À o:=let ⟨o,_,_,e',_⟩:=d.ns;⟨o,e'⟩;refine üf (x:=a) (e:=dx) či (.inr i) (λb q l z=>(m.2 b l).trans z) F ?_;refine⟨by rw[yP O.ne];exact i,?_,O.ne,d.obj,_,d.ns,λg=>?_,λg t=>?_⟩;have:=Sw f y fs;omega;show uW ((Ŋb f y fs).lookup g) įm;rw[Sy];by_cases q:g=f;rw[Ë q,Ë q];exact v;rw[Ï q,Ï q];exact r g;by_cases q:g=f;rw[q];exact ıq.1;refine ıq.2 g (j g λz=>t ?_);show įm=Ã;rw[Ï q];exact z
def Inv.made(I:Inv X z8 σ H s):Inv X z8 σ (zX (zX H Õ (.own Ķa)) Ķa (.ins C Õ [])) { s with á:=(Ōd).push Īg }:=by
 have e1:(Ōd).get? Õ=À ĩj:=Ţ Ü rfl
 have e2:((Ōd).push Īg).get? (Õ+1)=À Īg:=by
  have:=Ţ Ōd (o:=Ñg C Õ) rfl
  rwa [Àb]at this
 have g:(Ōd).Ns Õ Ńc:=⟨ĩj,#[],_,e1,rfl,(λe d=>Û d ê),λ_=>rfl⟩;have f:=Úb (a:=Õ) (o:=.own Ķa) (h':=åa ĩj) (t':=Ĉ) Ĩi Ċ ⟨_,e1⟩;refine f.laid (a:=Õ+1) (o:=.ins C Õ []) (t':=Ĉ) Ĩi (śe (Àb _ _)) ?_;have c:Õ≠Õ+1:=Ŭ ċd;refine⟨by rw[yP c,yk],Ãa _,c,e2,λ_=>Ã,(Heap.Ns1.of_empty g).at λo q=>ċ _ q,λ_=>Ţa,λy h=>Û rfl h⟩
def iJ{ø:æ}{w:Þ}{env:Env}{e:Ñ}{f:Str}{pos:Pos}{s:É}{Q:Value->É->Prop}(a:Ģb e f env ċq=Ę e env)(h:Ó à A ċq (λo s₁=>Ó à A (ņk o f Â) Q E s₁) E s):Ó à A (Ę żf env) Q E s:=
 Attribute_any_ h (by rw[arm_eval_Attribute,a])
omit a
noncomputable def y14(K:Î)(c:TE)(f:Str):TE:=λσ H Q=>c σ H λx b=>∃a C dx fs v,x=.ref a/\b a=À Īb/\tD K C/\ZQ K C f/\Ļc f=À v/\Q v b
def z7o(K:Î)(e c:TE)(f:Str):TS:=λD σ H=>c σ H λy d=>e σ d λx b=>∃a C dx fs,x=.ref a/\b a=À Īb/\tD K C/\ZQ K C f/\ŧa<1000/\
 éb σ (zX b a řm)
def N_(X:Cx)(b:åf)(a:V->V->Hp->VK->Prop):Prop:=
 ∀(z8:Á í) (s:É) (σ:St) (H:Hp) (x y:V) (u v:Value) (Q:VK),Inv X z8 σ H s->zw x u->zw y v->a x y H Q->Ó ÿ X.A (Ák b u v) Śb ġ s
def z7p(K:Î)(e g:TE)(d:V->V->Hp->VK->Prop)(f:Str):TS:=λD σ H=>e σ H λx c=>∃a C dx fs v,x=.ref a/\c a=À Īb/\tD K C/\ZQ K C f/\Ļc f=À v/\
 g σ c λy h=>d v y h λz b=>∃dx' fs',b a=À (.ins C dx' fs')/\fs'.length<1000/\éb σ (zX b a (.ins C dx' (Ŋb f z fs')))
section
variable{X:Cx}{o e ēb:Ñ}{f:Str}{pos ôa tpos:Pos}{ta tv:TE}
def aL(k:PE X e ta)(d:Ģb e f Ö Ře=Ę e Ö):PE X żf (y14 X.K ta f):=by intro j s σ H Q I h;refine iJ d (zt (k j s σ H _ I h) λu z ⟨x,p,m,b,a,C,w,A,v,r,g,c,n,l,q⟩=>?_);subst r;obtain rfl:u=Đ a:=b;exact S5 m g c n l λy t i o=>⟨v,p,i,o,q⟩
def z62(w:PE X o ta)(hv:PE X ēb tv)(p:ĳc ēb (À Įn) ňc Ö=pure Ä):PS X (.Assign ĕn ēb pos) (z7o X.K ta tv f):=by intro b s σ H D I h;refine plainObj_wpAny_Assign_Attribute (zt ōn λu k ⟨y,v,t,j,q⟩=>zt (w b k σ v _ t q) λr G ⟨x,B,e,m,a,C,E,A,z,d,c,n,l,i⟩=>?_) p;subst z;obtain rfl:r=Đ a:=m;exact cM e d c n l j λF g=>⟨σ,_,g,i⟩
def z63{g:åf}{i:V->V->Hp->VK->Prop}(U:PE X o ta)(hv:PE X ēb tv)(d:N_ X g i):PS X (.AugAssign ćn g ēb pos) (z7p X.K ta tv i f):=by
 intro e s σ H D I h;refine wpAny_AugAssign_AttributeAny (zt (U e s σ H _ I h) λO Y ⟨x,T,R,J,a,C,dx,fs,v,W,p,c,n,l,q⟩=>?_);subst W;obtain rfl:O=Đ a:=J;refine S5 R p c n l λu S r G=>zt (hv e S σ T _ r q) λN P ⟨y,E,t,w,F⟩=>zt (d e P σ E v y u N _ t G w F) λw4 s4 ⟨z,Z,Q,L,A,B,b,k,j⟩=>?_
 exact cM Q b c n k L λs5 m=>⟨σ,_,m,j⟩
def z6t:V->V->Hp->VK->Prop:=λx y H Q=>∃i j,x=.int i/\y=.int j/\Q Ğg H
def rM:N_ X .Add z6t:=by rintro d s σ H x y u v Q I b c ⟨i,j,rfl,rfl,q⟩;obtain⟨t,rfl⟩:=(show ∃t,u=êc i t from b);obtain⟨a,rfl⟩:=(show ∃a,v=êc j a from c);exact PyProof.Rows.iadd_int ⟨.int (i+j),H,ßa _,⟨_,rfl⟩,q⟩
omit a
section
variable{X:Cx}{z8:Á í}{σ:St}{H:Hp}{s:É}{A:ñ}{E:Value->É->Prop}{Q:Value->É->Prop}{c:Value}{b:Í}
inductive p_(K:Ăj)(H:Hp):V->Value->Prop where
 |zK:p_ K H .zK Ŋd
 |bl (x:Í):p_ K H ſk Âb
 |int (i:Int):p_ K H ða Åb
 |str (x:Str):p_ K H ŕc öb
 |YT (x:UInt64):p_ K H (.YT x) (.type "float")
 |lst {a:Ç} {xs:Á V} (e:H a=À Ğa):p_ K H ő ęa
 |wU {a:Ç} {o:Obj} {xs:Á V} (e:H a=À ĳq):p_ K H ő ęa
 |tup {a:Ç} {xs:Á V} (e:H a=À ăb):p_ K H ő Ťa
 |dK {a:Ç} {kvs:Á ķa} (e:H a=À ùa):p_ K H ő Ŀc
 |dT {a:Ç} {kvs:Á Ŧb} (e:H a=À ïc):p_ K H ő Ŀc
 |ins {a C dx:Ç} {fs:Á ŵb} (e:H a=À Īb) (cl:tD K C) (ha:PySem.W.findIn K ĩ "__class__"=À (À Âi))
   (hn:PySem.W.specialIn K Âi "__get__"=À (À (.builtin "getset_descriptor.__get__"))) (htk:PySem.W.takesIn K Âi=À Â)
   (hm:PySem.W.mroIn K C (.type "object")=À Â):p_ K H ő ĩ
def IP{x:V}{u t:Value}(I:Inv X z8 σ H s)(d:zw x u)(l:p_ X.K H x t)(e:Ő X.K t c=À b)(h:∀tk,Q Żg { s with Ć:=tk }) :Ó ÿ A (Ėb Èj [u,c]) Q E s:=by
 cases l with
 |zK=>cases(show u=Ĭb from d);exact Ïb W.kitx_none ū Ţa e Śa h|bl y=>cases(show u=Ļg y from d);exact Ïb W.kitx_bool ū Ţa e Śa h|int i=>obtain⟨t,q⟩:=(show ∃t,u=êc i t from d);cases q;exact Ïb W.kitx_int ū Ţa e Śa h
 |str y=>obtain⟨t,q⟩:=(show ∃t,u=Ůb y t from d);cases q;exact Ïb W.kitx_str ū Ţa e Śa h
 |YT y=>obtain⟨t,q⟩:=(show ∃t,u=Īj y t from d);cases q;exact Ïb W.kitx_float ū Ţa e Śa h
 |@lst a g ea=>cases(show u=Đ a from d);obtain⟨_,_,n,_,f⟩:=(show xU ö X.w H Ü a (.lst g)from ĝ a _ ea);exact Ïb Ĩj ū ⟨_,f,rfl⟩ e Śa h
 |@wU a ob g ea=>cases(show u=Đ a from d);obtain⟨_,_,_,n,_,f⟩:=(show xU ö X.w H Ü a (.wU ob (.lst g))from ĝ a _ ea);exact Ïb Ĩj ū ⟨_,f,rfl⟩ e Śa h
 |@tup a g ea=>cases(show u=Đ a from d);obtain⟨_,_,_,p⟩:=(show xU ö X.w H Ü a (.tup g)from ĝ a _ ea);obtain⟨o,f,j,_⟩:=p;exact Ïb Şp ū ⟨o,f,j⟩ e Śa h
 |@dK a kvs ea=>cases(show u=Đ a from d);obtain⟨_,_,r,_,p⟩:=(show xU ö X.w H Ü a ùa from ĝ a _ ea);obtain⟨o,k,m,f,j,_⟩:=p;exact Ïb ìq ū ⟨o,f,j.1⟩ e Śa h
 |@dT a kvs ea=>cases(show u=Đ a from d);obtain⟨_,_,g,_,o,k,m,f,j,_⟩:=(show xU ö X.w H Ü a ïc from ĝ a _ ea);exact Ïb ìq ū ⟨o,f,j.1⟩ e Śa h
 |@ins a C dx fs ea cl ha hn htk hm=>cases(show u=Đ a from d);obtain⟨B,O,_⟩:=IN ĝ ea;obtain⟨v,J,_⟩:=O.look;exact Ïb (W.kitx_own (cl.get _) cl.hd ha hn htk hm) ū J e Śa h
omit a
structure yX(k:Nat)(A:ñ):Prop where
 hd:ğa=Ã
 dp:ûh+3*k+5<Žo
 un:ůa+16*k+200<Êa
 gd:A.guards=À []
theorem yX.mono{j k:Nat}{A:ñ}(r:yX k A)(h:j<=k):yX j A:=⟨r.hd,by have:=r.dp;omega,by have:=r.un;omega,r.gd⟩
theorem yX.deeper{k:Nat}{A:ñ}(r:yX Ų A)(env:Env):yX k (İb env):=
 ⟨r.hd,by have:=r.dp;show ûh+1+3*k+5<_;omega,by have:=r.un;show ůa+3+16*k+200<_;omega,by first|exact r.gd|simp[şe,ÿq,Łq,r.gd]⟩
def z0e{A:ñ}{C:Ç}{us:Á Value}{a:Á Ĺc}:(Ŕh).depth=ûh+1:=by first|rfl|simp[şe,Code.weight,Code.isCreation,Code.isGuard,Code.isCaller,Āq,ċj,guardIds]
theorem z0g{A:ñ}{C:Ç}{us:Á Value}{a:Á Ĺc}:(Ŕh).units=ůa+1:=by first|rfl|simp[şe,Code.cUnits,Āq,ċj]
theorem yX.make{k:Nat}{A:ñ}(r:yX Ų A)(C:Ç)(us:Á Value)(a:Á Ĺc):yX k Ŕh:=
 ⟨r.hd,by have:=r.dp;rw[z0e];omega,by have:=r.un;rw[z0g];omega,by first|exact r.gd|simp[şe,ÿq,Łq,r.gd]⟩
theorem yX.depth{k:Nat}{A:ñ}(r:yX k A):ûh<Žo:=by have:=r.dp;omega
theorem yX.units{k:Nat}{A:ñ}(r:yX k A):ůa+64<Êa:=by have:=r.un;omega
noncomputable def Xl:TA:=λ_ H Q=>Q [] H
noncomputable def HA(b:TE)(e:TA):TA:=λσ H Q=>b σ H λx a=>e σ a λd c=>Q (x::d) c
section
variable{X:Cx}{e:Ñ}{es:Á Ñ}{te:TE}{t:TA}{pos:Pos}
def XR:PA X [] Xl:=λ_ _ _ _ H Q I h=>âo ⟨[],H,I,.nil,h⟩
def z4h(m:PE X e te)(i:PA X es t)(f:Ê ħd q12):PA X ď ũr:=by intro pos a s σ H Q I h;rw[f];show Ó _ _ (spliced ((Ä,Ę e Ö)::ŧc pos Şf)) _ _ s;refine äi (zt (m a s σ H _ I h) λu k ⟨x,n,l,p,b⟩=>?_);exact zt (i pos a k σ n _ l b) λq r ⟨c,o,g,d,j⟩=>⟨x::c,o,g,.cons p d,j⟩
def y1n(t:TA):TE:=λσ H Q=>t σ H λb a=>ça<=Ý/\∀p,a p=Ã->Q ŝ (zX a p (.tup b))
def dC(t:TA):TE:=λσ H Q=>t σ H λb a=>ça<=Ý/\∀p,a p=Ã->Q ŝ Łi
def aQ{x1}(h:PA X es t):PE X Ïo (y1n t):=by intro i s σ H Q I k;refine wpAny_Tuple_spliced Đl;have g:d Ža=Ã:=Řj Ċ;refine⟨.ref Ža,zX d Ža (.tup f),c.laid (t':=ġh) ůn Ċ ?_,rfl,q _ g⟩;exact⟨z,j,r,⟨_,Ţ _ rfl,rfl,_,rfl⟩⟩
def aN(h:PA X es t):PE X üp (dC t):=by intro i s σ H Q I k;refine wpAny_List_spliced Đl;have g:d Ža=Ã:=Řj Ċ;refine⟨.ref Ža,zX d Ža (.lst f),c.laid (t':=ġh) ůn Ċ ?_,rfl,q _ g⟩;exact⟨z,j,0,r,Ţ _ rfl⟩
omit a
abbrev Sp:=Á V->Hp->VK->XK->Prop
abbrev g9:=Á Env->Hp->É->XK->Value->É->Prop
structure YY(P:æ)(w:Þ)(K:Î)(mg:Str->Æ Value)(È:Heap)(A:ñ)(þ:Á Env)(s:É)(H:Hp):Prop where
 Îl:A.frames=À þ
 mod:Mod K mg È
 bs:∀b o,base.get? b=À o->ð b=À o/\H b=Ã
 g7:base.objs.size<=Õ
 qm:Þg È þ
 ZE:∀b∈pD þ,H b=Ã
 zd:xv P w H Ü
 bare:Üe Ĕh
def CE(þ:Á Env)(P:æ)(w:Þ)(H:Hp)(s:É)(Q:VK)(u:Value)(s':É):Prop:=
 ∃v H',s'.os=s.os/\Üe s'.gens/\Un (pD þ) [] H H' Ü Ćd/\xv P w H' Ćd/\zw v u/\Q v H'
def CR(a:g9)(þ:Á Env)(P:æ)(w:Þ)(H:Hp)(s:É)(Q:VK)(E:XK)(r:ïe)(s':É):Prop:=
 match r with
 |.ok (.ret u)=>CE þ P w H s Q u s'|.ok _=>î|.error e=>a þ H s E e s'
structure yz(P:æ)(w:Þ)(K:Î)(mg:Str->Æ Value)(È:Heap)(CX:g9)(k:Nat)(f:Ç)(fd:Ĳ)(ps:Á Str)(sp:Sp):Prop where
 len:∀vs H Q E,sp vs H Q E->Ą=Ē
 run:∀(A:ñ)(þ:Á Env)(s:É)(H:Hp)(āa:Args)(us:Á Value)(vs:Á V)(Q:VK)(E:XK),yX k A->YY P w K mg È A þ s H->Ŝc s fd āa æd->zf vs us->sp vs H Q E->
  ļb ŧb A (.call ĕ āa) (CR CX þ P w H s Q E) s
def yz.imp{P:æ}{w:Þ}{K:Î}{e:Str->Æ Value}{a:Heap}{g:g9}{k:Nat}{f:Ç}{i:Ĳ}{ps:Á Str}{sp c:Sp}(F:yz P w K e a g k f i ps sp)(h:∀vs H Q E,c vs H Q E->sp vs H Q E):yz P w K e a g k f i ps c:=
 ⟨λvs H Q E q=>F.len vs H Q E (h _ _ _ _ q),λA b s H d o vs Q E p n j m l=>F.run A b s H d o vs Q E p n j m (h _ _ _ _ l)⟩
def YY.make{P:æ}{w:Þ}{K:Î}{b:Str->Æ Value}{a:Heap}{A:ñ}{þ:Á Env}{s:É}{H:Hp}(e:YY P w K b a A þ s H)(C:Ç)(us:Á Value)(c:Á Ĺc) :YY P w K b a (A.under (.builtin Ĳo ⟨.ref C::us,c⟩)) þ s H:=⟨by first|exact e.frames|(simpa [şe,Code.envs,ċj,pushEnvs]using e.frames),e.mod,e.bs,e.g7,e.qm,e.ZE,e.zd,e.bare⟩
section
variable{X:Cx}{z8:Á í}{σ:St}{H:Hp}{s s':É}
def Inv.N6(I:Inv X z8 σ H s):YY ö X.w X.K ó Ō X.A ŋa s H:=
 ⟨úq,ėk,I.bs,ŏ ùh I.sz,I.stack,I.NB,ĝ,Ûb⟩
def Inv.after{Q:VK}{u:Value}(I:Inv X z8 σ H s)(h:CE ŋa ö X.w H s Q u s'):EP X z8 σ Q u s':=by obtain⟨v,j,k,a,e,f,r,q⟩:=h;obtain⟨i,g,d,t,c⟩:=s';obtain rfl:c=s.os:=k;exact⟨v,j,I.call (h':=i) (g':=g) (d':=d) (t':=t) (ch:=[]) e f a (λb z=>Û z ê),r,q⟩
omit a
noncomputable def OX(sp:Sp)(a:Á V)(E:XK)(t:TA):TE:=λσ H Q=>t σ H λc b=>sp (c++a) b Q E
noncomputable def HB(C:Ç)(m:Str)(sp:Sp)(b:Á V)(E:XK)(d:TE)(t:TA):TE:=λσ H Q=>d σ H λx c=>∃a dx fs,x=.ref a/\c a=À Īb/\Ļc m=Ã/\
 t σ c λf e=>sp (x::(f++b)) e Q E
def y19(C:Ç)(sp:Sp)(a:Á V)(E:XK)(t:TA):TE:=λσ H Q=>t σ H λd b=>∀x dx,b x=Ã->b dx=Ã->dx≠x->
 sp (.ref x::(d++a)) (zX (zX b dx Ñe) x úp) (λv c=>v=.zK/\Q Ðe c) E
def vt(K:Î)(a:Ĳ)(ps:Á Str)(ds:Á Value):Prop:=
 ∀(s:É)(us:Á Value),š Ü->(Ãe).length=Ē->Ŝc s a ⟨us,[]⟩ (ps.zip Ãe)
def vt.all{K:Î}{b:Ĳ}{ps:Á Str}(h:∀us:Á Value,ća=Ē->Éh b ⟨us,[]⟩=pure æd):vt K b ps []:=λs us _ a=>by rw[ëa]at a ⊢;exact .of_eq (h us a)
def Yn(a:g9)(X:Cx)(E:XK):Prop:=∀(z8:Á í) (σ:St) (H:Hp) (s:É) (e:Value) (s':É),Inv X z8 σ H s->a ŋa H s E e s'->ġ e s'
section
variable{X:Cx}{CX:g9}{k:Nat}{f C:Ç}{fd:Ĳ}{ps:Á Str}{sp:Sp}{dvs:Á V}{ds:Á Value}{E:XK}{x m:Str}{p pos Ìa:Pos}{e o:Ñ}{es:Á Ñ}{ta:TE}{t:TA}
def QK{b:Á í}{σ:St}{H:Hp}{s:É}{Q:VK}{us:Á Value}{vs:Á V}(F:yz ö X.w X.K ó Ō CX k f fd ps sp)(m:yX k X.A)(i:vt X.K fd ps ds)(g:zf dvs ds)(d:Yn CX X E)(I:Inv X b σ H s)(r:zf vs us)(h:sp Ðf H Q E):Ó ÿ X.A (Ėb ĕ us) (EP X b σ Q) ġ s:=by
 have c:zf Ðf Ãe:=Æe g;have j:(Ãe).length=Ē:=by rw[<-ĳa];exact F.len _ _ _ _ h
 refine ßg (ŉd (F.run X.A ŋa s H ⟨us,[]⟩ Ãe Ðf Q E m I.N6 (i s us ū j) c h) λr l a=>?_);cases r with
 |ĩf e=>exact d b σ H s e l I a|ok fl=>
  cases fl with
  |ret u=>exact I.after a|next=>exact öa a|brk=>exact öa a|đc=>exact öa a
def z4s(F:yz ö X.w X.K ó Ō CX k f fd ps sp)(j:yX k X.A)(l:Gl X x)(g:ó x=À ĕ)(hk:Øa X.K ĕ=Â)(i:vt X.K fd ps ds)(u:zf dvs ds)(d:Yn CX X E)(o:PA X ď t)(a:Ê ĺ q10)(n:Ê ħd q12)(b:Ê ((Èf).any (·.1)=Ä) q12) :PE X Ÿa (OX sp dvs E t):=by intro m s σ H Q I h;refine Ėe ũo;refine ďg (h₀:=Ō) Ĥg hk ħl n b;exact QK F j i u d c r q
def z4t(F:yz ö X.w X.K ó Ō CX k f fd ps sp)(e:yX k X.A)(i:Gl X x)(c:ó x=À ĕ)(hk:Øa X.K ĕ=Â)(d:vt X.K fd ps ds)(g:zf dvs ds)(b:Yn CX X E)(a:Ê ĺ q10):PE X ąn (OX sp dvs E Xl):=by intro j s σ H Q I h;refine Ėe (Tn I i c ?_ a);exact čp ū hk (QK (us:=[]) F e d g b I .nil h)
def aP{pl:Sem Í}(v:PE X o ta)(c:tD X.K C)(d:Me X.K C m f)(F:yz ö X.w X.K ó Ō CX k f fd ps sp)(r:yX k X.A)(n:vt X.K fd ps ds)(i:zf dvs ds)(g:Yn CX X E)(j:Ę Ĩd Ö=(do
   let ov <-Ę o Ö
   standAt Ťe
   let (f,first) <-holding [ov] įe
   ÿd pos f first Ħi źc):=by rfl) :
  PE X Ĩd (HB C m sp dvs E ta Xl):=by
 intro t s σ H Q I h;refine Ľo (pl:=pl) (zt (v t s σ H _ I h) λu B ⟨x,G,b,e,a,z,J,y,p,l,q⟩=>?_) j;subst y;obtain rfl:u=Đ a:=e;refine my b p c d l ?_;exact čp (first:=Ôa) b.xy d.kp (QK (us:=Ôa) (vs:=Ôa) F r n i g b Įo q)
structure Mk(K:Î)(C f:Ç):Prop where
 makes:Ÿd K C=Â
 init:ġa K ĩ Ěa=À ũa
 fn:Ēd K ĕ=Â
 kp:Øa K ĩ=Â
def z7m{c:Á í}{σ:St}{H:Hp}{s:É}{Q:VK}{us:Á Value}{vs:Á V}(M:Mk X.K C f)(F:yz ö X.w X.K ó Ō CX k f fd ps sp)(z:yX Ų X.A)(l:vt X.K fd ps ds)(j:zf dvs ds)(i:Yn CX X E)(I:Inv X c σ H s)(r:zf vs us)(h:∀x dx,H x=Ã->H dx=Ã->dx≠x->sp (.ref x::Ðf) (zX (zX H dx Ñe) x úp) (λv H2=>v=.zK/\Q Ðe H2) E) :Ó ÿ X.A (Ėb ĩ us) ŉp ġ s:=by
 have g:=h Ķa Õ (řb (Ģg _)) żd (Ŭ ċd);have b:=Inv.made (C:=C) I;have d:zf (Ųa Ķa::Ðf) Òp:=.cons rfl (Æe j)
 have t:(Đ Ķa::us++ds).length=Ē:=by have e:=Öa;rw[F.len _ _ _ _ g]at e;exact ĝh
 refine ßg (z0f (f:=f) ū M.makes M.init (Ąg M.fn) (ŉd (F.run _ ŋa _ _ ⟨Đ Ķa::us,[]⟩ Òp _ _ E (z.make C us [])
  (b.N6.make C us []) (l _ (Đ Ķa::us) b.xy t) d g) λr q a=>?_))
 cases r with
 |ĩf e=>exact i c σ _ _ e q b a|ok fl=>
  cases fl with
  |ret u=>obtain⟨v,p,n,m,o,y⟩:=b.after a;subst o;exact⟨m,⟨Ųa Ķa,p,n,rfl,y⟩⟩
  |next=>exact öa a|brk=>exact öa a|đc=>exact öa a
def aO(M:Mk X.K C f)(F:yz ö X.w X.K ó Ō CX k f fd ps sp)(j:yX Ų X.A)(l:Gl X x)(g:ó x=À ĩ)(i:vt X.K fd ps ds)(u:zf dvs ds)(d:Yn CX X E)(o:PA X ď t)(a:Ê ĺ q10)(n:Ê ħd q12)(b:Ê ((Èf).any (·.1)=Ä) q12) :PE X Ÿa (y19 C sp dvs E t):=by intro m s σ H Q I h;refine Ėe ũo;refine ďg (h₀:=Ō) Ĥg M.kp ħl n b;exact z7m M F j i u d c r q
omit a
structure zm(N P:Á Str)(sc:ýa):Prop where
 kind:sc.kind=.function
 co:sc.isCoroutine=Ä
 gen:sc.isGenerator=Ä
 nd:Śc
 pre:N.take èa=P
 par:∀x∈P,Ĺo x=À .local\/Ĺo x=À .cell
 ff:∀y∈sc.names,y.2≠.free
theorem Pj{a:Str->Æ Őc}{x:Str}:∀{ûe:Á Ĺc} {m:Str->Æ Value},(∀v,(x,v) ∉ ûe)->űc a ûe m x=m x
 | [],_,_=>rfl|(n,v)::r,m,h=>by
  unfold űc;rw[Pj λw b=>h w Žd]
  split;have:x≠n:=by rintro rfl;exact h v ĵ
  simp[this];rfl
theorem Ph{a:Str->Æ Őc}{x:Str}:∀{ûe:Á Ĺc} {m:Str->Æ Value},(∀v,(x,v) ∉ ûe)->Ųc a ûe m x=m x
 | [],_,_=>rfl|(n,v)::r,m,h=>by
  unfold Ųc;rw[Ph λw b=>h w Žd]
  split;rfl;have:x≠n:=by rintro rfl;exact h v ĵ
  simp[this]
theorem Pi{a:Str->Æ Őc}{x:Str}{v:Value}:∀{P:Á Str}{vs:Á Value}{i:Nat}{m:Str->Æ Value},P.Nodup->P[i]?=À x->vs[i]?=À v->a x=À .local->
  űc a ſq m x=À v
 | [],_,_,_,_,h,_,_=>by simp at h|_::_,[],_,_,_,_,h,_=>by simp at h|p::P,w::vs,0,m,nd,h1,h2,hk=>by simp at h1 h2;subst h1;subst h2;show űc a Ýg m p=_;unfold űc;rw[Pj λv b=>Ñh.1 (Ţi b).1,Ë hk];simp|p::P,w::vs,i+1,m,nd,h1,h2,hk=>by show űc a Ýg m x=_;unfold űc;exact Pi (i:=i) Ñh.2 Ãg őn hk
theorem Pg{a:Str->Æ Őc}{x:Str}{v:Value}:∀{P:Á Str}{vs:Á Value}{i:Nat}{m:Str->Æ Value},P.Nodup->P[i]?=À x->vs[i]?=À v->a x≠À .local->
  Ųc a ſq m x=À v
 | [],_,_,_,_,h,_,_=>by simp at h|_::_,[],_,_,_,_,h,_=>by simp at h|p::P,w::vs,0,m,nd,h1,h2,hk=>by simp at h1 h2;subst h1;subst h2;show Ųc a Ýg m p=_;unfold Ųc;rw[Ph λv b=>Ñh.1 (Ţi b).1,Ï hk];simp|p::P,w::vs,i+1,m,nd,h1,h2,hk=>by show Ųc a Ýg m x=_;unfold Ųc;exact Pg (i:=i) Ñh.2 Ãg őn hk
noncomputable def Ħf(N:Á Str)(vs:Á V):St:=Đh À++į (Ĺ-Ą) Ã
noncomputable def uo(g:g9)(P:æ)(w:Þ)(K:Î)(mg:Str->Æ Value)(È:Heap)(N:Á Str)(b:Str)(a:ýa)(f:Ç)(d:Value)(A:ñ)(þ:Á Env)(s:É)(H:Hp)(E:XK):Cx where
 ø:=P
 w:=w
 K:=K
 mg:=mg
 È:=È
 A:=İb Ľi
 N:=N
 s₀:=s
 H₀:=H
 env:=Ąb b a Õ f d
 þ:=þ
 stack:=Ąb b a Õ f d::þ
 ex:=[]
 calm:=Â
 fn:=λ_=>Â
 pn:=[]
 xe:=λe h=>Ó ŧb (İb Ľi) (leaving Ľi e) (λ_ c=>g þ H s E e c) (λi c=>g þ H s E i c) h
def R4{a:ýa}{n:Nat}{x:Str}(h:ßc x=À .cell):∃c,(Ãk n ňk []).lookup x=À c:=by have q:=ċo ňk n [] Ŷb;exact ıd q
def rV{Q:g9}{P:æ}{w:Þ}{K:Î}{J:Str->Æ Value}{l:Heap}{N ps:Á Str}{g:Str}{d:ýa}{f:Ç}{G:Value}{A:ñ}{þ:Á Env}{s O:É}{H:Hp}{E:XK}{us:Á Value}{vs:Á V}(S:zm N ps d)(T:ğa=Ã)(m:YY P w K J l A þ s H)(hl:Ą=Ē)(r:zf vs us)(x:InCallC s Õ (űc (ëo).kindOf æd λ_=>Ã) (Ãk Ķa d.names []) (Ųc (ëo).kindOf æd λ_=>Ã) O) :Inv Âm [] Þd H O:=by
 have X:Ē<=Ĺ:=by have:=ů ģg S.pre;rw[ĕa]at this;omega
 obtain⟨I,tk,rfl,R⟩:=x.done;have o:∀b:Ç,b ∉ (Âm).ex:=λb z=>Û (show b∈([]:Á Ç)from z) ê
 refine⟨⟨m.mod,S.kind,rfl,rfl,æa _,λy z c I j=>?_,λy t=>?_,λy c _ h=>?_,λ_=>T,Around.frames_deeper m.frames,.inr ⟨rfl,rfl⟩,λb z=>Û z (o b),m.bs,m.g7,λb _ _=>o b,λb z=>Û z (o b),m.qm,m.ZE⟩,
  rfl,m.bare,ûf R,⟨_,x.toInCall.ns,λi y v I j Z=>?_⟩,λy c h=>⟨_,x.cell y c h⟩,ŗj Ċ,λy c h=>?_,λp C=>Û (show p∈([]:Á í)from C) ê,m.zd.kept R,?_⟩
 exact name_of_addr x.apart (Śf I) (Śf j);have t:Ŷi y=À .cell\/Ŷi y=À .free:=t;rcases t with t|t;exact R4 t;exact Û rfl (S.ff _ (Śf t));exact ìa ön;have F:i<Ą:=by
  unfold Ħf at j;by_cases F:i<Ą;exact F;rw[Îc Įi]at j;rw[ĺd]at j
  split at j<;>cases j
 have Y:vs[i]?=À v:=by
  unfold Ħf at j;rw[Ěb Įi,Œ]at j;cases e:vs[i]? with
  |Ã=>rw[e]at j;cases j|À a=>rw[e]at j;cases j;rfl
 obtain⟨u,L,U⟩:=ßb Y
 have C:ps[i]?=À y:=by rw[<-S.pre,List.getElem?_take_of_lt Å];exact I
 have B:ps.Nodup:=by rw[<-S.pre];exact S.nd.sublist Ük
 refine⟨u,U,?_⟩;rcases S.par y (Áa C)with k|k;exact .inl ⟨k,Pi B C L k⟩;obtain⟨c,e⟩:=R4 (n:=Õ+1) k;refine .inr ⟨.inl k,c,e,?_⟩;have q:=x.cell y c e;rw[Pg B C L (by show Ŷi y≠_;rw[k];decide)]at q;exact q;exact ŗj (ìa ön);unfold Ħf;show _=Ĺ;rw[ä,é,ħa];omega
def Rq{G:g9}{P:æ}{w:Þ}{K:Î}{L:Str->Æ Value}{g:Heap}{k:Nat}{f:Ç}{ħ c:Str}{h:Ăr}{i:Á Ù}{a:ýa}{Z kV z pm d ct oc:Value}{an od:Æ Ç}{X:Ô ţa}{N ps:Á Str}{sp:Sp}(lk:Ça f=À ⟨oc,od,.func Ùm,X⟩)(R:ĵb K d c=Â)(S:zm N ps a)(C:∀vs H Q E,sp vs H Q E->Ą=Ē)(l:∀(A:ñ)(þ:Á Env)(s:É)(H:Hp)(vs:Á V)(Q:VK)(E:XK),yX k (İb (Ąb c a Õ f d))->sp vs H Q E->
   ∃t,uM Ťh i t/\t { nx:=λ_ H'=>Q .zK H',rt:=Q } Þd H) :
  yz P w K L g G Ų f Ùm ps sp:=by
 refine⟨C,λA þ s H āa us vs Q E T B hb r p=>?_⟩;have hl:=C _ _ _ _ p;have KX:š Ü:=B.mod.WC.keeps λb o e=>Îq.1
 have O:s.heap.NoLimit:=B.mod.nolimit.keeps λb o e=>Îq.1
 have j:∀y∈ps.zip us,ßc y.1=À .local\/(ßc y.1=À .cell/\((Ãk Ķa ňk []).lookup y.1).isSome=Â):=λ⟨n,v⟩ hy=>by rcases S.par n (Ţi hy).1 with q|q;exact .inl q;exact .inr ⟨q,ċo _ _ _ (.inl q)⟩
 refine codeAny_call_function T.depth (KX _ _ lk) rfl S.co S.gen rfl (W.codeRec_of KX R) (hb _ _ _ _ ?_);refine wpAny_newFunctionEnv_cells S.kind j λenv he s1 x=>?_
 subst he;refine⟨O.keeps x.toInCall.keep,codeAny_func ?_⟩;obtain⟨t,ht,hq⟩:=l A þ s H vs Q E (T.deeper _) p;have I:Inv Ťh [] Þd H s1:=rV S T.hd B hl r x;refine Ĭa (ht [] s1 Þd H _ I hq) (λfl Y m=>?_) λe Y m=>m
 have F:∀{σ':St}{H':Hp}{v:V}{u:Value},Inv Ťh [] σ' H' Y->zw v u->Q v H'->CE þ P w H s Q u Y:=
  λ{σ' H' v u} J U q=>⟨v,H',J.os,J.bare,J.base,J.zd,U,q⟩
 cases fl with
 |ret u=>
  obtain⟨v,σ',H',J,U,q⟩:=m;exact F J U q
 |next=>
  obtain⟨σ',H',J,q⟩:=m;exact F (v:=V.zK) (u:=Ĭb) J rfl q
 |brk=>
  obtain⟨_,_,_,q⟩:=m;exact öa q
 |đc=>
  obtain⟨_,_,_,q⟩:=m;exact öa q
section
variable{X:Cx}{x:Str}{p pos:Pos}{e:Ñ}{es:Á Ñ}{t:TA}{id T:óa}{r:Á V->Hp->VK->Prop}
noncomputable def OW(r:Á V->Hp->VK->Prop)(t:TA):TE:=λσ H Q=>t σ H λb a=>r b a Q
def z4u(i:vA X õb r)(j:Gl X x)(f:ó x=Ã)(hv:ŧ x=À õb)(u:PA X ď t)(o:Ê ġb q10)(a:Ê ĺ q10)(k:Ê ħd q12)(b:Ê ((Èf).any (·.1)=Ä) q12):PE X Ÿa ßh:=by intro c s σ H Q I h;refine Ėe ħn;exact PyProof.Rows.callWith_builtin1 ĝl k b
def z4w(i:vA X îc r)(j:Gl X x)(f:ó x=Ã)(hv:ŧ x=À îc)(u:PA X ď t)(o:Ê ġb q10)(a:Ê ĺ q10)(k:Ê ħd q12)(b:Ê ((Èf).any (·.1)=Ä) q12):PE X Ÿa ßh:=by intro c s σ H Q I h;refine Ėe ħn;exact đe ĝl k b
omit a
omit L2
namespace HT
open ľ ň
section
variable{ø:æ}{w:Þ}{A:ñ}{E:Value->É->Prop}{s:É}
def cat_tup{t b:Ç}{vs ws:Á Value}{Q:Value->É->Prop}(r:Ńb Ü t ťa)(u:Ńb Ü b Ķg)(hv:vs≠[])(q:ws=[]->Q ñf s)(v:ws≠[]->Q ĝa { s with á:=åa { cls:=.type Ũ,ü:=.seq (vs++ws).toArray } })(hsz:Ą+Ùr<=Ý):Ó à A (Éb .Add ñf (.ref b)) Q E s:=by
 obtain⟨⟨cls,o,ü,k⟩,h,j,n,p⟩:=id r;obtain⟨⟨l,d,i,c⟩,a,g,m,f⟩:=id u;simp only at j p g f;subst j p g f;have e:ťa++Ķg=(vs++ws).toArray:=by simp
 by_cases hw:ws=[];exact þj ⟨_,h,rfl⟩ ⟨_,a,rfl⟩ Ĉo Ąp Ân ūm ēm
  (tuple_addW1 t b ťa Ķg n m o d k c Ği (by simp[hw])) ⟨h,a,q hw⟩
 refine þj ⟨_,h,rfl⟩ ⟨_,a,rfl⟩ Ĉo Ąp Ân ūm ēm
  (tuple_addW2 t b ťa Ķg n m o d k c Ği (by simpa using hw) (by rw[Ĕ,Ĕ];exact hsz)) ⟨h,a,?_⟩
 rw[e];exact v hw
noncomputable def sIx(n d:Nat):Æ Int->Nat
 |Ã=>d|À v=>if v<0 then(v+(n:Int)).toNat else min v.toNat n
def sIx_nat(n d k:Nat):sIx n d (À (k:Int))=min k n:=by show(if(k:Int)<0 then((k:Int)+(n:Int)).toNat else min (k:Int).toNat n)=min k n;rw[Ï Å,ğ]
theorem Ċf(n d:Nat)(a:d<=n)(o:Æ Int):sIx n d o<=n:=by
 cases o with
 |Ã=>exact a|À v=>show ŋl<=n;by_cases hv:v<0;rw[Ë hv];omega;rw[Ï hv];exact Ďo _ _
def R9(v:Int)(n d:Nat):łl=((sIx n d Éa:Nat):Int):=by show łl=((ŋl:Nat):Int);by_cases hv:v<0;simp only[Ë hv];omega;simp only[Ï hv];omega
def i9(lo hi:Æ Int)(n:Nat):Úi lo hi 1 (n:Int)=(((sIx n 0 lo:Nat):Int),((sIx n n hi:Nat):Int)):=by
 have a:¬ ((1:Int)<0):=by omega
 unfold Úi;simp only[a,Õa];refine Prod.ext ?_ ?_;cases lo with
 |Ã=>rfl|À v=>exact R9 v n 0
 cases hi with
 |Ã=>rfl|À v=>exact R9 v n n
def z5s(i j:Nat):Řf (i:Int) (j:Int) 1=j-i:=by
 unfold Řf;have a:(1:Int)>0:=by omega
 simp only[a,ŋ,Şe]
 split<;>omega
def cS{v:Value}{o:Æ Int}{Q:Æ Int->É->Prop}(p:ĉc v o)(h:Q o s):Ó à A (Builtin.Slice.slicePartIndex v) Q E s:=by
 cases p with
 |Ã=>exact żo h|int i t=>exact slicePart_int h
def z9z{e:Ç}{d c:Value}{lo hi:Æ Int}{n:Nat}{Q:Int×Int×Nat->É->Prop}(g:Ŋi e d c .none)(pl:ĉc d lo)(f:ĉc c hi)(h:Q (((sIx n 0 lo:Nat):Int),1,sIx n n hi-sIx n 0 lo) s):Ó à A (Ńm áh (pure (n:Int))) Q E s:=by obtain⟨j,b,i,a⟩:=id g;unfold Ńm Builtin.Slice.sliceFields;refine Ì (Ì (ěb b a (x:=d) rfl (Ì (ěb b a (x:=c) rfl (Ì (ěb b a (x:=.none) rfl øa))))));refine Ì (żo ?_);show Ó _ _ (υ ((1:Int)==0)) _ _ s;rw[Ï Ð];refine Ì (cS pl (Ì (cS f (Ì øa))));show Ó _ _ (match Úi lo hi 1 (n:Int)with|(lo,hi)=>pure (lo,(1:Int),Řf lo hi 1)) _ _ s;rw[i9 lo hi n];show Ó _ _ (pure (((sIx n 0 lo:Nat):Int),(1:Int),Řf ((sIx n 0 lo:Nat):Int) ((sIx n n hi:Nat):Int) 1)) _ _ s;rw[z5s];exact ë h
def z5n(xs:Ô Value)(i k:Nat):((Ía k).filterMap λ(m:Nat)=>xs[(Ġi).toNat]?).toArray=((xs.toList.drop i).take k).toArray:=by
 have e:(λ(m:Nat)=>xs[(Ġi).toNat]?)=λm=>xs[i+m]?:=by
  funext m
  have:(Ġi).toNat=i+m:=by omega
  rw[this]
 rw[e];have:=Ċk xs i k;rw[List.filterMap_map]at this;have e2:((λx=>xs[x]?)∘λx=>i+x)=λm=>xs[i+m]?:=rfl
 rw[e2]at this;rw[this]
theorem getItem_tuple_cut{t f:Ç}{z6:Ô Value}{j i:Value}{lo hi:Æ Int}{Q:Value->É->Prop}(b:Ńb Ü t z6)(k:Ŋi f j i .none)(pl:ĉc j lo)(p:ĉc i hi)(n:¬ (sIx Ĭ 0 lo=0/\sIx Ĭ Ĭ hi=Ĭ))(h:Q ĝa { s with á:=åa { cls:=.type Ũ,ü:=.seq (Őh).toArray } })(hsz:Ĭ<=Ý):Ó à A (ùf ñf ĕ) Q E s:=by
 have a:sizeOk (.seq (Őh).toArray):=by show(Őh).toArray.size<=Ý;rw[Ĕ,ĕa,řa,Ģ];omega
 have v:sIx Ĭ Ĭ hi<=Ĭ:=Ċf _ _ Ċ hi;obtain⟨l,d,e,o⟩:=id k;have c:Ĉb ĕ êh:=⟨l,d,e⟩;unfold ùf
 try with_reducible refine ża ?_
 first|refine Ì øa|skip
 refine Ì (wpAny_sequenceKey àf Ð ?_)
 refine Ì (Įd (ħ:=źa Āp) àf ùm
  (őb ùm àf entry_tuple_getitem ?_ (args_tuple_getitem _ _)))
 show Ó _ _ (Builtin.Tuple.tupleItemsOf ñf >>= _) _ _ s;refine Ì (tupleItemsOf_ b ?_);refine Ì (ňd c ?_);rw[Ë Ð];refine Ì (z9z k pl p ?_)
 have g:¬ (ēl=Â):=by intro q;rw[ć,ć]at q;have r:((sIx Ĭ 0 lo:Nat):Int)=0:=ŗd q.1.1;have u:sIx Ĭ Ĭ hi-sIx Ĭ 0 lo=Ĭ:=ŗd q.2;exact n ⟨by omega,by omega⟩
 show Ó _ _ (υ ēl) _ _ s;rw[Ï g,z5n]
 first
  |exact Ì (m:=śf _) Đq
  |exact Ì (m:=śf _) (Ěc (Ì ŀr) a)
  |exact Ì (Ì (m:=śf _) (Ěc ŀr a))
  |exact Ì (Ì (m:=śf _) Đq)
omit a
omit HT
namespace L2
open ľ Ŕ ň
abbrev TO:=St->Hp->(Æ Int->Hp->Prop)->Prop
def PO(X:Cx)(e:Æ Ñ)(t:TO):Prop:=
 ∀(z8:Á í) (s:É) (σ:St) (H:Hp) (Q:Æ Int->Hp->Prop),Inv X z8 σ H s->t σ H Q->
  Ó ÿ X.A (evalPart e Ö) (λu a=>∃o H',Inv X z8 σ H' a/\ĉc u o/\Q o H') ġ s
noncomputable def y1c:TO:=λ_ H Q=>Q Ã H
noncomputable def y1h(t:TE):TO:=λσ H Q=>t σ H λx a=>∃i,x=.int i/\Q (À i) a
section
variable{X:Cx}{e:Ñ}{te:TE}{lo hi:Æ Ñ}{tl th:TO}{pos p2:Pos}
def z5v:PO X Ã y1c:=by intro a s σ H Q I h;rw[ĉp];exact ë ⟨Ã,H,I,.none,h⟩
def z5w(h:PE X e te):PO X (À e) (y1h te):=by
 intro c s σ H Q I b;rw[evalPart_some];refine zt Žn λu j ⟨x,g,f,d,a⟩=>?_
 obtain⟨i,rfl,q⟩:=a;obtain⟨t,rfl⟩:=d;exact⟨À i,g,f,.int i t,q⟩
def kF(X:Cx)(r:V->Æ Int->Æ Int->Hp->VK->Prop):Prop:=
 ∀(z8:Á í) (s:É) (σ:St) (H:Hp) (x:V) (v vl vu:Value) (lo hi:Æ Int) (sl:Ç) (Q:VK),Inv X z8 σ H s->zw x v->Ŋi sl vl vu .none->ĉc vl lo->ĉc vu hi->r x lo hi H Q->
  ∃T id,ŀq îc Āp=pure (À õb)/\Ĉb v T/\Ó ÿ X.A (ùf v (.ref sl)) Śb ġ s
def kF.or{r c:V->Æ Int->Æ Int->Hp->VK->Prop}(h:kF X r)(h':kF X c):kF X (λx lo hi H Q=>r x lo hi H Q\/c x lo hi H Q):=by intro e s σ H x v j a lo hi f Q I b d i g q;rcases q with q|q;exact h e s σ H x v j a lo hi f Q I b d i g q;exact h' e s σ H x v j a lo hi f Q I b d i g q
noncomputable def y1l(r:V->Æ Int->Æ Int->Hp->VK->Prop)(te:TE)(tl th:TO):TE:=λσ H Q=>te σ H λx b=>tl σ b λl c=>th σ c λu a=>r x l u a Q
def z58{r:V->Æ Int->Æ Int->Hp->VK->Prop}(C:kF X r)(o:PE X e te)(t:PO X lo tl)(m:PO X hi th):PE X (.Subscript e ăn pos) (y1l r te tl th):=by
 intro c s σ H Q I h;refine Őq (zt (o c s σ H _ I h) λv p ⟨x,N,K,P,B⟩=>?_);refine wpAny_Slice (zt (t c p σ N _ K B) λf L ⟨l,y,j,O,n⟩=>zt (m c L σ y _ j n) λd a ⟨u,g,k,J,z⟩=>?_);rw[ĉp];refine ë ?_;have G:Inv X c σ g { a with á:=ťe { cls:=.type êh,ü:=.fields #[f,d,.none] } }:=k.kept (t':=ġh) λb S q=>ċ _ q
 obtain⟨T,R,i,E,F⟩:=C c { a with á:=ťe { cls:=.type êh,ü:=.fields #[f,d,.none] } } σ g x v f d l u Ža Q G P (Heap.IsSliceOf.new ..) O J z;show Ó ÿ X.A (Ăp e ăn v Êr) ŉp ġ { a with á:=ťe { cls:=.type êh,ü:=.fields #[f,d,.none] } };exact tail_any (ops:=[.ref Ža,v]) E i F Ëi
def Za(xs:Á V)(lo hi:Æ Int):Á V:=(ťm).take Ğm
def RE(xs:Á V)(lo hi:Æ Int):(Ńp).length<=â:=by unfold Za;rw[ĕa,řa];omega
def bS(K:Î):V->Æ Int->Æ Int->Hp->VK->Prop:=λx lo hi H Q=>∃a xs,x=.ref a/\yo K H a xs/\
 ¬ (Ļ â 0 lo=0/\Ļ â â hi=â)/\∀p,H p=Ã->Q ŝ (Ο (.tup Ńp))
def z9y:kF X (bS X.K):=by
 intro u s σ H x v y p lo hi w Q I j l n m h;obtain⟨a,d,rfl,i,k,q⟩:=h;cases j;obtain⟨e,r,f,g⟩:=òa i;have c:e.toArray.size=Öa:=by rw[Ĕ];exact r.length.symm
 refine⟨Ũ,_,PyProof.Rows.slot_tuple_getitem.lookup,Åh,?_⟩;refine HT.getItem_tuple_cut f l n m (by rw[c];exact k) ?_ (by rw[c];exact g);rw[c];refine⟨.ref Õ,_,Úb (t':=Ĉ) (o:=.tup (Za d lo hi)) (λb t q=>ċ _ q) Ċ ?_,rfl,q _ żd⟩;exact⟨ŏ (RE d lo hi) g,_,(Çl (Ļ Öa 0 lo)).take (Ļ Öa Öa hi-Ļ Öa 0 lo),Ñk _ _⟩
def bI(K:Î):R2:=λx y H Q=>∃a b xs ys,x=.ref a/\y=.ref b/\yo K H a xs/\yo K H b ys/\xs≠[]/\â+œ<=Ý/\
 (ys=[]->Q ő H)/\(ys≠[]->∀p,H p=Ã->Q ŝ (Ο (.tup Œg)))
def zf.Ll{xs:Á V}{us:Á Value}(r:zf xs us):us=[]↔xs=[]:=by
 cases r with
 |nil=>simp|ù _ _=>simp
def z42:ym X ųd (bI X.K):=by intro C s σ H x y v u Q I t m h;obtain⟨a,b,j,k,rfl,rfl,A,i,g,f,r,l⟩:=h;cases t;cases m;obtain⟨p,d,n,_⟩:=òa A;obtain⟨e,c,p2,_⟩:=òa i;refine HT.cat_tup n p2 (λz=>g (d.Ll.mp z)) (λz=>⟨.ref a,H,I,rfl,r (c.Ll.mp z)⟩) (λz=>?_) (by rw[<-Öa,<-ĳa];exact f);refine⟨.ref Õ,_,Úb (t':=Ĉ) (o:=.tup (j++k)) (λb B q=>ċ _ q) Ċ ?_,rfl,l (λw=>z (c.Ll.mpr w)) _ żd⟩;exact⟨by rw[ä];exact f,_,d.append c,Ñk _ _⟩
omit a
noncomputable def ixN(n:Nat)(i:Int):Æ Nat:=if 0<=i then(if i<n then À øf else Ã)else if -(n:Int)<=i then À (i+n).toNat else Ã
def tm{α:Type}(xs:Á α)(i:Int):Æ α:=(ixN â i).bind λj=>xs[j]?
def Sf{n:Nat}{i:Int}{j:Nat}(h:ixN n i=À j):seqIndex? i n=À j/\j<n /\ -(n:Int)<=i/\i<n:=by unfold ixN at h;by_cases h0:0<=i;rw[Ë h0]at h;by_cases h1:i<n;rw[Ë h1]at h;have e:øf=j:=ėa h;exact⟨by rw[Ģj h0 h1,e],by omega,by omega,h1⟩;rw[Ï h1]at h;cases h;rw[Ï h0]at h;by_cases h1 : -(n:Int)<=i;rw[Ë h1]at h;have e:(i+n).toNat=j:=ėa h;exact⟨by rw[øj Å h1,e],by omega,h1,by omega⟩;rw[Ï h1]at h;cases h
def Ms{α:Type}{xs:Á α}{i:Int}{v:α}(h:tm xs i=À v):∃j,seqIndex? i â=À j/\xs[j]?=À v/\j<â /\ -(â:Int)<=i/\i<â:=by
 unfold tm at h;cases e:ixN â i with
 |Ã=>rw[e]at h;cases h|À j=>rw[e]at h;obtain⟨d,a,c,b⟩:=Sf e;exact⟨j,d,h,a,c,b⟩
def iI{α:Type}{xs:Á α}{j:Nat}{v:α}(h:xs[j]?=À v):tm xs (j:Int)=À v:=by
 have a:j<â:=Ĥa.1
 have e:ixN â (j:Int)=À j:=by unfold ixN;rw[Ë Å,Ë Å];simp
 unfold tm;rw[e];exact h
def P7(b:Ñ):Prop:=∀o i,áq b Ä o i=operate [o,i] (ùf o i)
def qu(X:Cx)(r:R2):Prop:=
 ∀(ēb slice:Ñ)(z8:Á í) (s:É) (σ:St) (H:Hp) (x y:V) (v u:Value) (Q:VK),Inv X z8 σ H s->zw x v->zw y u->r x y H Q->
  áq slice Ä v u=operate [v,u] (ùf v u)->Ó ÿ X.A (Ăp ēb slice v u) Śb ġ s
def Wr(X:Cx)(id:óa)(r:V->Á V->Hp->VK->Prop):Prop:=
 ∀(z8:Á í) (s:É) (σ:St) (H:Hp) (x:V) (xs:Á V) (v:Value) (us:Á Value) (Q:VK),Inv X z8 σ H s->zw x v->zf xs us->r x xs H Q->
  Ó ÿ X.A žn Śb ġ s
section
variable{X:Cx}{a b:Ñ}{ta tb:TE}{pos:Pos}
def qu.or{r f:R2}(h:qu X r)(h':qu X f):qu X (λx y H Q=>r x y H Q\/f x y H Q):=by intro a b c s σ H x y v u Q I d e q g;rcases q with q|q;exact h a b c s σ H x y v u Q I d e q g;exact h' a b c s σ H x y v u Q I d e q g
def Iw{r:R2}(g:qu X r)(k:PE X a ta)(d:PE X b tb)(e:P7 b):PE X īn ĝg:=by intro i s σ H Q I h;exact Őq (Bs k d I h λv u l x y m f c j q=>g a b i l σ m x y v u Q f c j q (e _ _))
def bN(K:Î):R2:=λx y H Q=>∃p xs i v,x=.ref p/\y=.int i/\yL K H p xs/\tm xs i=À v/\Q v H
def bP(K:Î):R2:=λx y H Q=>∃p xs i v,x=.ref p/\y=.int i/\yo K H p xs/\tm xs i=À v/\Q v H
def bO:R2:=λx y H Q=>∃z i c,x=.str z/\y=.int i/\ī<=Ý/\tm èg i=À c/\Q ņi H
def Sh:qu X (bN X.K):=by
 intro e f m s σ H x y v u Q I F B h l;obtain⟨p,N,i,z,rfl,rfl,G,C,q⟩:=h;cases F;obtain⟨t,rfl⟩:=B;obtain⟨c,r,k,P⟩:=Ź G;obtain⟨j,b,A,O,J,o⟩:=Ms C;obtain⟨w,n,g⟩:=ßb A;have E:=ż;have R:=VF;have a:EP X m σ Q w s:=⟨z,H,I,g,q⟩;by_cases h0:0<=i;have d:øf=j:=by rw[Ģj h0 o]at b;exact ėa b
 exact item_listR k.isList h0 Å ŧm a l;have d:(i+(ŷi:Int)).toNat=j:=by rw[øj Å J]at b;rw[Ĕ,<-E];exact ėa b
 exact ŀf (x:=w) k.isList.typeIs Ŝm
  (wpAny_getItem_list_neg (Q:=λr L=>r=w/\EP X m σ Q r L) k.isList Å ġn Å ŧm ⟨rfl,a⟩) l
def sC:qu X (bP X.K):=by
 intro b c e s σ H x y v u Q I A k h C;obtain⟨p,G,i,z,rfl,rfl,B,l,q⟩:=h;cases A;obtain⟨t,rfl⟩:=k;obtain⟨m,r,f,N⟩:=òa B;obtain⟨j,o,g,L,P,J⟩:=Ms l;obtain⟨w,F,d⟩:=ßb g;have n:=ż;have O:=VF;have a:EP X e σ Q w s:=⟨z,H,I,d,q⟩
 exact ŀf (x:=w) Åh slot_tuple_getitem.lookup
  (getItem_tuple (j:=j) (Q:=λr E=>r=w/\EP X e σ Q r E) f Å Å (by rw[Ĕ,<-n];exact o) Įi ⟨rfl,a⟩) C
def sB:qu X bO:=by
 intro a b B s σ H x y v u Q I l f h m;obtain⟨z,i,c,rfl,rfl,w,g,q⟩:=h;obtain⟨t,rfl⟩:=l;obtain⟨p,rfl⟩:=f;obtain⟨j,d,e,r,n,o⟩:=Ms g;have k:Ĳn=ī:=by simp[ëd]
 rw[k]at d n o;have A:=VF
 exact tail_any (àg s z t) slot_str_getitem.lookup (getItem_str (c:=c) (by have e1:decide (i < -(2 ^ 63:Int))=Ä:=Ŏ Å;have e2:decide (i≥2 ^ 63)=Ä:=Ŏ Å;rw[e1,e2,Bool.or_false]) (by rw[d];simpa using e) ⟨.str ⟨#[c]⟩,H,ßa _,⟨_,rfl⟩,q⟩) m
def Cs(K:Î):R2:=λx y H Q=>bN K x y H Q\/bP K x y H Q\/bO x y H Q
def sA:qu X (Cs X.K):=Sh.or (sC.or sB)
def z0h(its:Á Value)(n j:Nat)(u:Value):ÿb (·.setIfInBounds j u) { cls:=.type đ,ü:=.seq Ŷ n }={ cls:=.type đ,ü:=.seq (its.set j u).toArray n }:=by simp[ÿb]
theorem Inv.lst{a:Á í}{σ:St}{H:Hp}{s:É}{p:Ç}{xs:Á V}(I:Inv X a σ H s)(h:H p=À Ğa) :∃(its:Á Value) (n:Nat),zf xs its/\ð p=À { cls:=.type đ,ü:=.seq Ŷ n }/\â<=Ý:=by obtain⟨z,its,n,r,e⟩:=ĝ p _ h;exact⟨its,n,r,e,z⟩
def Inv.fX{c:Á í}{σ:St}{H:Hp}{s:É}{p:Ç}{xs ys:Á V}{its æb:Á Value}{n a:Nat}{f:Obj->Obj}(I:Inv X c σ H s)(h:H p=À Ğa)(g:ð p=À { cls:=.type đ,ü:=.seq Ŷ n })(d:f { cls:=.type đ,ü:=.seq Ŷ n }={ cls:=.type đ,ü:=.seq ûj a })(r:zf ys æb)(hz:œ<=Ý)(t:Nat) :Inv X c σ (zX H p åc) { s with á:=Õd p f,Ć:=t }:=by
 have e:(Õd p f).get? p=À { cls:=.type đ,ü:=.seq ûj a }:=by rw[ŀd f g (by rw[d]<;>rfl),d]
 refine üf (x:=p) (e:=p) (by rw[h];trivial) ŉ (λb u i q=>(ŷh _ _ (Ļb i)).trans q) ⟨_,e⟩ ?_;exact⟨hz,æb,a,r,e⟩
def z75:V->V->V->Hp->Ár->Prop:=λo i v H Q=>∃p xs k j,o=.ref p/\i=.int k/\H p=À Ğa/\ixN â k=À j/\Q (χa (xs.set j v))
def cK:Mj X z75:=by
 intro C s σ H o i v J F u Q I y A B h;obtain⟨p,w,k,j,rfl,rfl,l,z,q⟩:=h;cases y;obtain⟨t,rfl⟩:=A;obtain⟨a,n,r,d,x⟩:=I.lst l;obtain⟨b,E,f,m⟩:=Sf z;have c:=ż;have G:=VF
 have g:Inv X C σ (χa (w.set j v)) { s with á:=Õd p (ÿb (·.setIfInBounds j u)) }:=
  I.fX l d (z0h a n j u) (r.set B j) (by rw[ŭ];exact x) Ĉ
 by_cases h0:0<=k;have e:ž=j:=by rw[Ģj h0 m]at b;exact ėa b
 exact W.ki_setAt d h0 Å (by rw[Ĕ,<-c];exact m) Ľm;have e:(k+(Þc:Int)).toNat=j:=by rw[øj Å f]at b;rw[Ĕ,<-c];exact ėa b
 exact W.ki_setBack d Å (by rw[Ĕ,<-c];exact f) Å Ľm
def y01(lo hi:Æ Int)(n:Nat):ļi.1=((Ļ n 0 lo:Nat):Int)/\ļi.2.1=((Ļ n n hi:Nat):Int)/\ļi.2.2=1:=by
 refine⟨?_,?_,rfl⟩;cases lo with
 |Ã=>simp[Ņe,Ļ]|À i=>simp only[Ņe,Ļ,Čo,show(1:Int)>0 by decide,ŋ];by_cases h:i<0;simp only[h,ŋ]<;>omega;simp only[h,Õa]<;>omega
 cases hi with
 |Ã=>simp[Ņe,Ļ]|À i=>simp only[Ņe,Ļ,Čo,show(1:Int)>0 by decide,ŋ];by_cases h:i<0;simp only[h,ŋ]<;>omega;simp only[h,Õa]<;>omega
def y00(its:Á Value)(lo hi:Æ Int):ßr Ŷ lo hi Ã=((its.drop (Ļ Ëb 0 lo)).take (Ļ Ëb Ëb hi-Ļ Ëb 0 lo)).toArray:=by obtain⟨b,a,c⟩:=y01 lo hi its.toArray.size;unfold ßr;rw[b,a,c];simp only[Żo,Ċk,Ĕ]<;>rfl
def bQ(K:Î):V->Æ Int->Æ Int->Hp->VK->Prop:=λx c b H Q=>∃a xs,x=.ref a/\yL K H a xs/\∀p,H p=Ã->Q ŝ (χa (Za xs c b))
def z9w:kF X (bQ X.K):=by intro w s σ H x v z t e f y Q I j k p m h;obtain⟨a,c,rfl,i,q⟩:=h;cases j;obtain⟨n,r,g,l⟩:=Ź i;have d:=ż;refine⟨đ,_,Ŝm,g.isList.typeIs,?_⟩;refine wpAny_getItem_list_slice g.isList k p m .none ê ?_ ġn;rw[y00,<-d];refine⟨.ref Õ,_,Úb (t':=Ĉ) (o:=.lst (Za c e f)) Ĩi Ċ ?_,rfl,q _ żd⟩;exact⟨ŏ (RE c e f) l,_,0,(Çl (Ļ ĳa 0 e)).take (Ļ ĳa ĳa f-Ļ ĳa 0 e),Ţ _ rfl⟩
noncomputable def pC:V->Í
 |.zK=>Â|.bl _=>Â|.int _=>Â|.str _=>Â|_=>Ä
noncomputable def qA:V->V->Í
 |.zK,.zK=>Â|.bl a,.bl b=>a==b|.bl a,.int b=>ğn==b|.int a,.bl b=>a==Źf|.int a,.int b=>a==b|.str a,.str b=>a==b|_,_=>Ä
def Rc{A:ñ}{s:É}{y x:V}{u v:Value}(f:zw y u)(c:zw x v)(g:pC y=Â)(e:pC x=Â):ũb A s u v (qA y x):=by
 cases y with
 |zK=>
  cases f;cases x with
  |zK=>cases c;exact øi _|bl b=>cases c;exact SeqAt.EqAt.none_bool b|int b=>obtain⟨t,rfl⟩:=c;exact SeqAt.EqAt.none_int b t
  |str b=>obtain⟨t,rfl⟩:=c;exact SeqAt.EqAt.none_str b t
  |_=>exact Û (show Ä=Â from e) ģ
 |bl a=>
  cases f;cases x with
  |zK=>cases c;exact SeqAt.EqAt.bool_none a|bl b=>cases c;exact SeqAt.EqAt.bool_bool a b|int b=>obtain⟨t,rfl⟩:=c;exact SeqAt.EqAt.bool_int a b t
  |str b=>obtain⟨t,rfl⟩:=c;exact SeqAt.EqAt.bool_str a b t
  |_=>exact Û (show Ä=Â from e) ģ
 |int a=>
  obtain⟨d,rfl⟩:=f;cases x with
  |zK=>cases c;exact SeqAt.EqAt.int_none a d|bl b=>cases c;exact SeqAt.EqAt.int_bool a d b|int b=>obtain⟨t,rfl⟩:=c;exact SeqAt.EqAt.int_int a d b t
  |str b=>obtain⟨t,rfl⟩:=c;exact ŧn a d b t
  |_=>exact Û (show Ä=Â from e) ģ
 |str a=>
  obtain⟨d,rfl⟩:=f;cases x with
  |zK=>cases c;exact SeqAt.EqAt.str_none a d|bl b=>cases c;exact SeqAt.EqAt.str_bool a d b|int b=>obtain⟨t,rfl⟩:=c;exact ťn a d b t
  |str b=>obtain⟨t,rfl⟩:=c;exact SeqAt.EqAt.str_str a d b t
  |_=>exact Û (show Ä=Â from e) ģ
 |_=>exact Û (show Ä=Â from g) ģ
def jc(x:V)(u:Value):Í:=match u with
 |.none=>qA .zK x|.bool b=>qA Šc x|.int i _=>qA ða x|.str z _=>qA (.str z) x|_=>Ä
def DC{x y:V}{u:Value}(r:zw y u)(f:pC y=Â):jc x u=qA y x:=by
 cases y with
 |zK=>cases r;rfl|bl b=>cases r;rfl|int i=>obtain⟨t,rfl⟩:=r;rfl
 |str z=>obtain⟨t,rfl⟩:=r;rfl
 |_=>exact Û (show Ä=Â from f) ģ
theorem Mr{x:V}:∀{xs:Á V}{us:Á Value},zf xs us->Ĉf pC=Â->us.any Ėd=xs.any λy=>qA y x
 |_,_,.nil,_=>rfl|y::xs,u::us,.cons r t,f=>by rw[ţ,ć]at f;rw[šd,šd,DC r f.1,Mr t f.2]
theorem Ie{A:ñ}{s:É}{x:V}{v:Value}(c:zw x v)(b:pC x=Â):∀{xs:Á V}{us:Á Value},zf xs us->Ĉf pC=Â->∀u∈us,ũb A s u v (jc x u)
 |_,_,.nil,_=>λu a=>by cases a|y::xs,u::us,.cons r t,f=>λd a=>by rw[ţ,ć]at f;rcases ę a with rfl|a;rw[DC r f.1];exact Rc r c f.1 b;exact Ie c b t f.2 d a
def IM(x:V)(xs:Á V):Í:=xs.any λy=>qA y x
def bJ(K:Î)(a:Í):R2:=λx y H Q=>∃p xs,y=.ref p/\(yL K H p xs\/yo K H p xs)/\pC x=Â/\Ĉf pC=Â/\Q (.bl (if a then !IM x xs else IM x xs)) H
def z46:ym X Êf (bJ X.K Ä):=by intro l s σ H x y v u Q I f j h;obtain⟨p,k,rfl,b,g,c,q⟩:=h;cases j;rcases b with b|b;obtain⟨a,r,e,i⟩:=Ź b;refine SeqAt.in_listAt Ėd e.isList ŵl ⟨.bl _,H,I,rfl,?_⟩;rw[show ċp Ėd=Ľh Ėd by simp,Mr r c];exact q;obtain⟨a,r,e,i⟩:=òa b;refine SeqAt.in_tupleAt Ėd e ŵl ⟨.bl _,H,I,rfl,?_⟩;rw[show ċp Ėd=Ľh Ėd by simp,Mr r c];exact q
def lC:vA X œd (λxs H Q=>∃p ys,xs=Áe/\ſh/\Q Ųj H):=by intro i s σ H xs j Q I r h;obtain⟨p,ys,rfl,b,q⟩:=h;obtain⟨u,rfl,f⟩:=u_ r;cases f;have k:=VF;rcases b with b|b;obtain⟨d,c,e,g⟩:=Ź b;have a:=ĳa;exact Calls.call_len_list e.isList Ēe ⟨.int œ,H,ßa _,⟨Ĉ+1,by rw[Ĕ,a]⟩,q⟩;obtain⟨d,c,e,g⟩:=òa b;have a:=ĳa;exact len_tuple e Ēe ⟨.int œ,H,ßa _,⟨Ĉ+1,by rw[Ĕ,a]⟩,q⟩
def lD:vA X œd (λxs H Q=>∃z,xs=[.str z]/\ī<=Ý/\Q Ïr H):=by intro b s σ H xs c Q I r h;obtain⟨z,rfl,a,q⟩:=h;obtain⟨u,rfl,t,rfl⟩:=u_ r;have d:=VF;exact len_str Å ⟨.int ī,H,ßa _,⟨_,rfl⟩,q⟩
def vA.or{f:Value}{r c:Á V->Hp->VK->Prop}(h:vA X f r)(h':vA X f c):vA X f (λxs H Q=>r xs H Q\/c xs H Q):=by intro a s σ H xs d Q I b q;rcases q with q|q;exact h a s σ H xs d Q I b q;exact h' a s σ H xs d Q I b q
def lF:vA X ęa (λxs H Q=>∃p ys,xs=Áe/\ſh/\∀l,H l=Ã->Q ûc ŭp):=by
 intro A s σ H xs B Q I r h;obtain⟨p,ys,rfl,g,q⟩:=h;obtain⟨u,rfl,z⟩:=u_ r;cases z
 have i:∀(a:Á Value),zf ys a->œ<=Ý->∀(c:Heap)(f:Nat),(∀b o',ð b=À o'->c.get? b=À o')->
   c.get? Õ=À { cls:=.type đ,ģd:=Ã,ü:=.seq Îb f,ùe:=#[] }->EP X A σ Q ĝa { s with á:=c }:=λa d j c f m e=>
  ⟨.ref Õ,_,Úb (t':=Ĉ) m Ċ (show xU ö X.w _ c _ åc from⟨j,a,f,d,e⟩),rfl,q _ żd⟩
 rcases g with g|g;obtain⟨a,d,x,j⟩:=Ź g;have k:=Öa;obtain⟨o,t,v,n,y⟩:=x.isList;exact Ċp p ŉ t v y ĩm Ēe;obtain⟨a,d,x,j⟩:=òa g;have k:=Öa;obtain⟨o,t,v,n,y⟩:=x;exact Ċp p Ņc t v y ĩm Ēe
def R3:vA X Ťa (δc ((yL X.K H p ys/\∀l,H l=Ã->Q ûc Ŭp)\/(yo X.K H p ys/\Q ŝ H))):=by
 intro j s σ H xs x Q I r h;obtain⟨p,ys,rfl,h⟩:=h;obtain⟨u,rfl,n⟩:=u_ r;cases n;rcases h with⟨g,q⟩|⟨g,q⟩;obtain⟨a,d,f,i⟩:=Ź g;have k:=Öa;refine call_tuple_list f.isList (λc v=>?_) Ēe;have m:Inv X j σ H { s with á:=c }:=ñe (t':=Ĉ) v
 have t:Inv X j σ (zX H éq Ųe) { s with á:=c.push { cls:=.type Ũ,ü:=.seq Îb } }:=
  m.laid (t':=Ĉ) (λb o e=>ċ _ e) Ċ (show xU ö X.w _ _ _ Ųe from⟨i,a,d,Ñk _ _⟩)
 exact⟨.ref éq,_,t,rfl,q _ (ŗj Ċ)⟩;obtain⟨a,d,f,i⟩:=òa g;exact call_tuple_same f ⟨.ref p,H,I,rfl,q⟩
def HJ(K:Î)(T:óa)(x:V)(H:Hp):Prop:=match x with
 |.str _=>T = ģf|.int _=>T = Ŭc|.ref p=>(T = đ/\∃xs,yL K H p xs)\/(T = Ũ/\∃o,Ça p=À o/\àb=.type Ũ/\Čf=Ã) \/
   (T = Üa/\((∃kvs,H p=À ùa)\/∃kvs,H p=À ïc))\/(T = ļ/\∃S n,H p=À (.set S n))
 |_=>î
def dL{m:Á í}{σ:St}{H:Hp}{s:É}{T:óa}{x:V}{v:Value}(I:Inv X m σ H s)(r:zw x v)(f:HJ X.K T x H) :Ĉb v T/\∀a,v=.ref a->∃ob,ð a=À ob/\ob.dict=Ã:=by
 cases x with
 |str z=>obtain⟨t,rfl⟩:=r;cases(show T = ģf from f);exact⟨àg s z t,λ_ e=>nomatch e⟩
 |int i=>obtain⟨t,rfl⟩:=r;cases(show T = Ŭc from f);exact⟨Œj s i t,λ_ e=>nomatch e⟩
 |ref p=>
  cases r;rcases f with⟨rfl,u,k⟩|⟨rfl,o,b,l,g⟩|⟨rfl,b⟩|⟨rfl,S,n,b⟩;obtain⟨q,_,j,_⟩:=Ź k;refine⟨j.isList.typeIs,λa e=>?_⟩;cases e;obtain⟨o,n,e,c,g,_⟩:=j;exact⟨o,e,g⟩;refine⟨⟨o,ū p o b,l⟩,λa e=>?_⟩;cases e;exact⟨o,ū _ o b,g⟩;have z:∃o,ð p=À o/\ãq:=by rcases b with⟨h,b⟩|⟨h,b⟩;obtain⟨_,_,_,_,o,_,_,e,d,_⟩:=ĝ p _ b;exact⟨o,e,d⟩;obtain⟨_,_,_,_,o,_,_,e,d,_⟩:=ĝ p _ b;exact⟨o,e,d⟩
  obtain⟨o,e,d⟩:=z;refine⟨⟨o,e,d.1⟩,λa e2=>?_⟩;cases e2;exact⟨o,e,d.2.1⟩;obtain⟨o,_,_,_,e,d,_⟩:=ĝ p _ b;refine⟨⟨o,e,d.1⟩,λa e2=>?_⟩;cases e2;exact⟨o,e,d.2.1⟩
 |_=>exact öa f
noncomputable def dA(K:Î)(T:óa)(r:V->Á V->Hp->VK->Prop)(b:TE):TE:=λσ H Q=>b σ H λx a=>HJ K T x a/\r x [] a Q
noncomputable def d9(K:Î)(T:óa)(r:V->Á V->Hp->VK->Prop)(d:TE)(t:TA):TE:=λσ H Q=>d σ H λx a=>HJ K T x a/\t σ a λc b=>r x c b Q
variable{o e:Ñ}{es:Á Ñ}{to:TE}{t:TA}{ħ:Str}{Ìa ź:Pos}{T id:óa}{r:V->Á V->Hp->VK->Prop}
def z4q(l:Ľg T)(c:Slot T ħ id)(d:ēh õb=pure œf)(j:Wr X id r)(k:PE X o to)(a:Ê Ľf q12)(b:Ê ŏb q12):PE X Ćn (dA X.K T r to):=by intro e s σ H Q I h;refine wpAny_Call_method0_late a b (zt (k e s σ H _ I h) λv p ⟨x,q,g,f,m,i⟩=>?_);obtain⟨t,n⟩:=dL g f m;exact⟨T,id,l,c,d,t,n,Äi rfl (PySem.evalArgs_none (j e p σ q x [] v [] Q g f .nil i))⟩
def z4p(u:Ľg T)(f:Slot T ħ id)(g:ēh õb=pure œf)(p:Wr X id r)(q:PE X o to)(J:PA X ď t)(b:Ê Ľf q12)(d:((ŧc ź (ĥb ď Ö)).all Ķj&&(Ôm).all ío
   && decide ((ď).length+([]:Á Keyword).length+ũl<30))=Â:=by rfl)
  (c:Ê ŏb q12)(z:Ê ħd q12)(a:Ê ((ŧc ź Şf).any (·.1)=Ä) q12) :
  PE X Ün (d9 X.K T r to t):=by
 intro i s σ H Q I h;refine wpAny_Call_method_late b d c rfl (zt (q i s σ H _ I h) λv G ⟨x,N,j,l,B,m⟩=>?_);obtain⟨n,E⟩:=dL j l B;refine⟨T,id,u,f,g,n,E,?_⟩;have k:=J ź i G σ N _ j m;rw[z]at k ⊢;refine Äi (by show(Ä||(ŧc ź Şf).any (·.1))=Ä;rw[a]<;>rfl) (Ēn ?_);exact zt k λF L ⟨w,O,A,y,C⟩=>p i L σ O x w v F Q A l y C
omit a
def Mf(X:Cx)(id:óa)(r:V->Á V->Hp->VK->Prop):Prop:=
 ∀(z8:Á í) (s:É) (σ:St) (H:Hp) (x:V) (xs:Á V) (v:Value) (us:Á Value) (Q:VK),Inv X z8 σ H s->zw x v->zf xs us->r x xs H Q->
  Ó ÿ X.A žn Śb ġ s
def zf.one:∀{x:V}{us:Á Value},zf [x] us->∃u,us=[u]/\zw x u
 |_,_,.cons r .nil=>⟨_,rfl,r⟩
def zf.zero:∀{us:Á Value},zf [] us->us=[]
 |_,.nil=>rfl
theorem zf.dropLast{xs:Á V}{us:Á Value}(h:zf xs us):zf Ýq us.dropLast:=by
 induction h with
 |nil=>exact .nil|ù r t ih=>
  cases t with
  |nil=>exact .nil|ù q t'=>exact .cons r ih
theorem zf.rep{xs:Á V}{us:Á Value}(h:zf xs us):∀k:Nat,zf (Ŝq).flatten (į k us).flatten
 |0=>.nil|k+1=>by rw[ğb,ğb,Êd,Êd];exact ŗg h (zf.rep h k)
def mZ{α:Type}(l:Á α):l.eraseIdx (Üf-1)=l.dropLast:=by
 induction l with
 |nil=>rfl|ù a r ih=>
  cases r with
  |nil=>rfl|ù b r=>
   have e:(Ťr).length-1=((b::r).length-1)+1:=by have d:(Ťr).length=ż+2:=rfl;have c:(b::r).length=ż+1:=rfl;omega
   rw[e,List.eraseIdx_cons_succ,ih]
   all_goals rfl
theorem Rr(its:Á Value):∀(k:Nat)(acc:Á Value),
  şj (λx1 x2=>x1++x2) ëq (į k Ŷ)=(acc++(Ĕq).flatten).toArray
 |0,acc=>by simp|k+1,acc=>by
  have e:ëq++Ŷ=(Ŭj).toArray:=by simp
  have e2:Ŭj++(Ĕq).flatten=acc++(į Ų its).flatten:=by rw[ğb,Êd,Ś]
  rw[<-e2,<-Rr its k Ŭj,<-e,ğb,òb]
section
variable{X:Cx}{z8:Á í}{σ:St}{H:Hp}{s:É}{l b:Ç}{xs ys:Á V}
def Inv.Lj{its æb:Á Value}{n:Nat}{f:Ô Value->Ô Value}{t':Nat}(I:Inv X z8 σ H s)(c:H l=À Ğa)(e:ð l=À { cls:=.type đ,ü:=.seq Ŷ n })(b:f Ŷ=ûj)(hv:zf ys æb)(hz:œ<=Ý) :Inv X z8 σ ŭp { s with á:=Õd l (ÿb f),Ć:=t' }:=by have q:=PySem.IsL.update e f;rw[b]at q;refine üf (x:=l) (e:=l) (by rw[c];exact trivial) ŉ (λg u d a=>(ŷh Ü (ÿb f) (Ļb d)).trans a) ⟨_,q⟩ ?_;exact⟨hz,æb,_,hv,q⟩
def Inv.N8{its:Á Value}{t':Nat}(I:Inv X z8 σ H s)(hv:zf ys its)(hz:œ<=Ý) :Inv X z8 σ (zX H Õ åc) { s with á:=åa { cls:=.type đ,ü:=.seq Ŷ },Ć:=t' }:=
 Úb ĩi Ċ ⟨hz,its,0,hv,Ţ _ rfl⟩
theorem Inv.fresh(I:Inv X z8 σ H s):H Õ=Ã:=řb Ċ
def Inv.JN(I:Inv X z8 σ H s)(a:H l=À Ğa):â<=Ý/\∃(its:Á Value) (n:Nat),zf xs its/\â=Ëb/\ð l=À { cls:=.type đ,ü:=.seq Ŷ n }:=by obtain⟨z,its,n,r,e⟩:=ĝ l _ a;exact⟨z,its,n,r,ż,e⟩
def Ai{n:Nat}(h:n<=Ý):Ęe n=Ä:=by unfold Ęe;exact Ŏ Å
omit a
section
variable{X:Cx}
def z6u:V->Á V->Hp->VK->Prop:=λx a H Q=>∃l xs y,x=.ref l/\a=[y]/\H l=À Ğa/\â<Ý/\Q .zK (zX H l őo)
def AB:Mf X þp z6u:=by intro k s σ H x i v m Q I c d h;obtain⟨l,g,y,rfl,rfl,b,j,q⟩:=h;cases c;obtain⟨u,rfl,f⟩:=d.one;obtain⟨z,a,n,r,o,e⟩:=I.JN b;refine Ìd F.slot_list_append ⟨_,e,rfl⟩ F.entry_list_append (F.args_list_append_2 _ _) (PySem.list_append l Îb n u İi) ⟨e,?_⟩;refine⟨.zK,_,I.Lj (æb:=a++[u]) b e ê (Æe (.cons f .nil)) ?_,rfl,q⟩;rw[ä,ån];omega
def z72:V->Á V->Hp->VK->Prop:=λx a H Q=>∃l xs y,x=.ref l/\a=[]/\H l=À Ğa/\xs[â-1]?=À y/\Q y (zX H l (.lst Ýq))
def z10:Mf X "list.pop" z72:=by
 intro t s σ H x p v w Q I f i h;obtain⟨l,o,y,rfl,rfl,d,g,q⟩:=h;cases f;have c:=i.zero;subst c;obtain⟨z,a,n,r,k,e⟩:=I.JN d;obtain⟨u,j,m⟩:=ßb g
 have b:Îb[Þc-1]?=À u:=by show Îb[Ġa-1]?=À u;rw[<-ła,<-k];exact j
 refine Ìd F.slot_list_pop ⟨_,e,rfl⟩ F.entry_list_pop (F.args_list_pop_1 _) (MeetsSeq.list_pop_last l Îb n u b İi) ⟨e,?_⟩;refine⟨y,_,I.Lj (æb:=a.dropLast) d e ?_ r.dropLast ?_,m,q⟩;show a.toArray.eraseIdxIfInBounds (Þc-1)=a.dropLast.toArray;rw[Ĕ,List.eraseIdxIfInBounds_toArray,mZ];rw[đn];omega
def z74:R2:=λx y H Q=>∃l k xs,x=.ref l/\y=.int k/\H l=À Ğa /\ -(2 ^ 63)<=k/\k<2 ^ 63/\â*ž<=Ý/\
 ∀p,H p=Ã->Q ŝ (Ο (.lst (ũp).flatten))
def Su{α:Type}(xs:Á α)(k:Nat):(Ŝq).flatten.length=k*â:=by
 induction k with
 |áa=>simp|âa k ih=>rw[ğb,Êd,ä,ih,ąj,Ŝe]
theorem z4c:ym X Ĵj z74:=by
 intro N s σ H x y v u Q I E A h;obtain⟨l,k,L,rfl,rfl,G,C,w,p,q⟩:=h;cases E;obtain⟨t,rfl⟩:=A;obtain⟨z,b,n,r,B,e⟩:=I.JN G;have i:Ĩb*ž<=Ý:=by rw[Ĕ,<-B];exact p
 have f:¬ Ĩb*ž>Âr/8:=by
  have:(Ý:Nat)<=Âr/8:=by decide
  omega
 have g:¬ (!Builtin.List.listFitsIndex k)=Â:=by rw[fitsIndex_both C w];exact ģ
 have c:¬ Ęe (Ĩb*ž)=Â:=by rw[Ai i];exact ģ
 have d:şj ĭp #[] (į (if b.toArray.isEmpty=Â then 0 else ž) āb)=(į ž b).flatten.toArray:=by
  have J:∀m:Nat,şj ĭp #[] (į m āb)=(į m b).flatten.toArray:=λm=>by have:=Rr b m [];rw[ëg]at this;exact this
  rw[J];cases b with
  |nil=>simp|ù a r'=>rw[Ï ê]
 refine wpAny_binaryOp_repeat_ref (T := đ) (U := Ŭc) Ð ⟨_,e,rfl⟩ (λK=>Œj K k t) noFill_list_mul F.fills_int_mul ło repeat_list F.slot_int_index.lookup
  (Ìd ło (Œj s k t) F.entry_int_rmul (F.args_int_rmul_2 _ _) (int___rmul___int_list k t l āb n)
   ⟨e,rfl,⟨_,e,rfl⟩,Ìd F.slot_list_mul ⟨_,e,rfl⟩ F.entry_list_mul (F.args_list_mul_2 _ _) (AutoListH.list___mul___list_int_3 l āb n k t g f c) ⟨e,?_⟩⟩)
 rw[d];exact⟨.ref _,_,I.N8 (t':=Ĉ) (r.rep ž) (by rw[Su,šp];exact p),rfl,q _ Ĉd⟩
omit a
omit L2
namespace Att
open ľ Ŋk PySem.Calls ň
def rS{P:ģh}{h:Heap}:∀(ns:Á Int)(vs:Á Value),WellAll P h vs Âd->Ľb vs ns:=by
 intro ns
 induction ns with
 |nil=>intro vs w;rw[Ēg]at w;cases w;exact .nil|ù n ns ih=>
  intro vs w;rw[Ŗ]at w;cases w with
  |ù a b=>cases a;exact .cons _ _ (ih _ b)
def script_of{l:OpenLaw}{n:Nat}(s:Ìl=À n){P:ģh}{h:Heap}{āa:Á WData}{c:Á Value}(b:l.row.toRowW.claim.pre āa=Â)(i:WellAll P h c āa) :∃a vs ns,c=[Đ a]/\āa=[WData.list Âd]/\ĉ a=À { cls:=.type đ,ü:=.seq ťa }/\Ľb vs ns/\Ŝ<=n:=by
 have j:WShape.hasAll [] āa [.list .int]=Â:=äp.1;have k:l.pre.holds [] { āa:=āa }=Â:=äp.2;obtain⟨d,r,rfl,t,p⟩:=hasAllW_cons j;obtain rfl:=hasAllW_nil p;obtain⟨u,rfl,o⟩:=hasW_list t;obtain⟨ns,rfl⟩:=items_int o
 have e:Ŝ<=n:=by
  unfold OpenLaw.pre at k
  have f:(WTm.not (.lt (.lit Ĥc) (.len (.arg 0)))).holds [] { āa:=[.list (Ŏa .int)] }=Â:=by have f:=(holds_andW k).1;rw[s]at f;exact f
  have g:=condW_of f (w_not (w_lt w_lit (w_len_list (w_arg rfl))));rw[é]at g;refine Nat.le_of_not_lt λq=>?_
  have m:(n:Int)<((Ŝ:Nat):Int):=by omega
  first
   |(rw[Ġ m]at g;exact Û g Ð)
   |(simp at g;omega)
 cases i with
 |ù w1 w2=>
  cases w2;cases w1 with
  |list ho hall=>exact⟨_,_,ns,rfl,rfl,ho,rS ns _ hall,e⟩
def post_true(l:OpenLaw)(āa:Á WData):l.row.toRowW.claim.post āa ıg āa=Â:=
 postW_of (r:=új) (X:=ŝq)
  (show Ŏq [] ıg .bool=Â by first|rfl|decide|simp[Ŏq,WShape.arms,WShape.armsAll])
  (show(WTm.eq .res (.lit ıg)).value [] { āa:=āa,res:=À ıg,after:=āa }=À (.bool ŝq)from w_eq_bool (w_res rfl) w_lit) rfl
omit Att
namespace L2
open ľ Ŕ ň
theorem dg:∀{vs:Á Value}{ns:Á Int},Ľb vs ns->zf Áb vs
 |_,_,.nil=>.nil|_,_,.cons n t h=>.cons ⟨t,rfl⟩ (dg h)
def P6(H:Hp):Prop:=∀b,H b=Ã\/∃o xs,H b=À ĳq
def z01{P:æ}{w:Þ}{K:Î}{E U:Str->Æ Value}{CX:g9}{k:Nat}{N a:Ç}{fd:Ĳ}{x:Str}{sp:Sp}{c:É}{vs:Á Value}{ns:Á Int}(Y:š c.heap)(J:Åk ă E)(g:Åk řj U)(Q:∀x:Str,x ≠ Ŏj->U x=ŧ x)(p:c.heap.NoLimit)(hg:c.gens=#[])(L:Ĥj a=À { cls:=.type đ,ü:=.seq ťa })(hi:Ľb vs ns)(Z:Ŝ<=Ý)(hr:yX k Øe)(F:∀È:Heap,š È->Ùe ă E->yz P w K E È CX k N fd [x] sp)(l:∀(s:É)(u:Value),Ŝc s fd ⟨[u],[]⟩ [(x,u)])(O:∀H:Hp,P6 H->yL K H a Áb->sp Ôa H Ůn λ_ _ _=>î)(R:∀H e s',CX [] H c (λ_ _ _=>î) e s'->î) :ļb ŧb Øe ġm ďl c:=by
 have rv:=dg hi;have y:=hi.length
 have j:∀H:Hp,P6 H->yL K H a Áb->xv P w H c.heap->(∀b,H b≠Ã->b=a)->(H a≠Ã->Ça a=Ã)->
   ļb ŧb Øe ġm ďl c:=by
  intro H hO hS zd hA hK;have f:∀{b:Ç}{o:Obj},Ĥj b=À o->H b=Ã->(ŗe).get? b=À o:=λe n=>oz e n
  have T:∀{b:Ç}{o:Obj}{C:Ô ñd}{A:Nat},Ĥj b=À o->Ýa=.dict C A->H b=Ã:=λ{b o C A} e d=>by
   cases q:H b with
   |Ã=>rfl|À u=>have S:b=a:=hA b Ųi;subst S;rw[L]at e;cases e;have d':Data.seq ťa _=Data.dict C A:=d;cases d'
  have i:∀{b:Ç}{m:Str->Æ Value},Åk b m->(ŗe).Ns b m:=λ{b m} ⟨o,C,A,e,d,r⟩=>⟨o,C,A,f e (T e d),d,r⟩
  have I:š ŗe:=λb o e=>f (Y b o e) (by
   cases q:H b with
   |Ã=>rfl|À u=>have S:b=a:=hA b Ųi;subst S;rw[hK Ųi]at e;cases e)
  have hM:Mod K E ŗe:=⟨I,i J,⟨U,i g,Q⟩,let ⟨mc,h1,h2⟩:=p;⟨mc,i h1,h2⟩⟩;have e0:YY P w K E ŗe Øe [] c H:=⟨rfl,hM,λb o e=>z1r e,śe (r9 _ _),trivial,λb g=>Û (show b∈([]:Á Ç)from g) ê,zd,.of_eq hg⟩;refine ŉd ((F _ I (i J)).run Øe [] c H ⟨Ôa,[]⟩ Ôa Ôa _ _ hr e0 (l c ő) Įo (O H hO hS)) λr s' h=>?_
  cases r with
  |ĩf e=>exact(R H e s' h).elim|ok fl=>
   cases fl with
   |next=>exact öa h|brk=>exact öa h|đc=>exact öa h|ret u=>
    obtain⟨v,H',os,G,X,t,r',q⟩:=h;have q':v=.bl Â:=q;subst q';obtain rfl:u=Ļg Â:=r';refine⟨rfl,OldK.of_keep λb o e=>?_,os,G⟩;cases q:H b with
    |Ã=>exact X.keep b o e q (by intro z;exact Û (show b∈([]:Á Ç)from z) ê) ê|À u=>
     rcases hO b with z|⟨ob,xs,z⟩
     .rw[q]at z;cases z
     .have z2:=X.uT b ob _ z;obtain⟨e1,_⟩:=zd b _ z;obtain⟨e2,_⟩:=t b _ z2;rw[e]at e1;cases e1;exact e2
 cases hk:Ça a with
 |À o=>have e:=Y a o hk;rw[L]at e;cases e;refine j Ńc ŕo (.inr ⟨_,ťa,_,hk,rfl,rfl,rfl,by rw[Ĕ,y];exact Z,by simpa using rv⟩) (λb u z=>by have B:(Ã:Æ HO)=À u:=z;cases B) (λb z=>Û rfl z) λz=>Û rfl z|Ã=>refine j (λb=>if b=a then À (.wU { cls:=.type đ,ü:=.seq ťa } (Α Áb))else Ã) (λb=>?_) (.inl (.inr ⟨{ cls:=.type đ,ü:=.seq ťa },Ë rfl⟩)) (λb u z=>?_) (λb z=>?_) λ_=>hk;by_cases g:b=a;exact .inr ⟨_,_,Ë g⟩;exact .inl Ťk;by_cases g:b=a;have B:=(Ë g).symm.trans z;cases B;subst g;exact⟨L,by rw[é];exact Z,vs,_,rv,L⟩;have B:=(Ťk).symm.trans z;cases B;by_cases g:b=a;exact g;exact Û Ťk z
noncomputable def gQ(s:Ù)(j:Nat):Ù:=match s with
 |.ClassDef _ _ _ Ēc _ _ _ _ _ _ _=>body.getD j Ąn|_=>.Pass ⟨0,0,0,0⟩
noncomputable def t_(s:Ù):Ăr:=match s with
 |.FunctionDef _ a _ _ _ _ _ _ _ _=>a|_=>{ posonlyargs:=[],āa:=[],vararg:=Ã,kwonlyargs:=[],kw_defaults:=[],kwarg:=Ã,defaults:=[] }
noncomputable def wz(s:Ù):Á Ù:=match s with
 |.FunctionDef _ _ b _ _ _ _ _ _ _=>b|_=>[]
noncomputable def zY(s:Ù):ýa:=match s with
 |.FunctionDef _ _ _ _ _ _ sc _ _ _=>sc|_=>{ kind:=.function,Ĺh:=[],isGenerator:=Ä,isCoroutine:=Ä }
abbrev yq:g9:=λ_ _ _ _ _ _=>î
abbrev E0:XK:=λ_ _ _=>î
def Zv{X:Cx}:Yn yq X E0:=λ_ _ _ _ _ _ _ h=>îe
structure Fun(K:Î)(x qual:Str)(st:Ù)(f:Ç)(fd:Ĳ):Prop where
 ex:∃(oc:Value) (od:Æ Ç) (kV doc pm:Value) (an:Æ Ç) (cdv ct:Value) (osl:Ô ţa),
  fd=ċb x qual ůb Ûa ı .none kV doc pm an cdv ct/\Ça f=À ⟨oc,od,.func fd,osl⟩/\ĵb K cdv qual=Â
 kp:Øa K ĕ=Â
section
variable{P:æ}{w:Þ}{K:Î}{mg:Str->Æ Value}{È:Heap}
def Fun.ok{x a:Str}{st:Ù}{f:Ç}{i:Ĳ}{N ps:Á Str}{k:Nat}{sp:Sp}(F:Fun K x a st f i)(S:zm N ps ı)(e:∀vs H Q E,sp vs H Q E->Ą=Ē)(c:∀(b:Value)(A:ñ)(þ:Á Env)(s:É)(H:Hp)(vs:Á V)(Q:VK)(E:XK),yX k ŏm->sp vs H Q E->
   ∃t,uM (şl).t9 Ûa t/\t { nx:=λ_ H'=>Q .zK H',rt:=Q } Þd H):yz P w K mg È yq Ų f i ps sp:=by
 obtain⟨u,r,kV,j,o,v,b,p,l,rfl,m,g⟩:=F.ex;refine Rq m g S e λA þ s H vs Q E n d=>?_
 obtain⟨t,h,q⟩:=c b A þ s H vs Q E n d;exact⟨t,h.t9,q⟩
def Fun.binds{x a:Str}{st:Ù}{f:Ç}{g:Ĳ}{ps:Á Str}(F:Fun K x a st f g)(h:∀(kV b d:Value)(e:Æ Ç)(c ct:Value)(us:Á Value),ća=Ē->Éh (ċb x a ůb Ûa ı .none kV b d e c ct) ⟨us,[]⟩=pure æd):vt K g ps []:=by obtain⟨l,k,kV,b,d,e,c,ct,i,rfl,m,j⟩:=F.ex;exact .all (h kV b d e c ct)
def Rt{x a:Str}{st:Ù}{f:Ç}{i:Value}{j h:Æ Ç}{e:Ô ţa}{kV d g b ct:Value}(l:Ça f=À ⟨i,j,.func ūl,e⟩)(c:ĵb K b a=Â)(k:Øa K ĕ=Â):Fun K x a st f ūl:=⟨⟨i,j,kV,d,g,h,b,ct,e,rfl,l,c⟩,k⟩
omit a
def zN{A:ñ}{k:Nat}(a:yX k A):ůa+1<Êa:=Ħc (ńd (by decide:1<=64) _) a.units
def y03{n:Nat}(h:n<=1000):n<Ý:=Ħc h Ð
def gR{A B:Prop}(h:B):if Ä=Â then A else B:=by rw[Ï ģ];exact h
def gS{A B:Prop}(h:A):if Â=Â then A else B:=by rw[Ë rfl];exact h
def zo(H H':Hp):Prop:=∀b o,H b=À o->H' b=À o
def ūa(H:Hp):zo H H:=λ_ _ h=>h
def zo.trans{H d e:Hp}(a:zo H d)(b:zo d e):zo H e:=λc o h=>b c o (a c o h)
def zo.free{H H':Hp}(e:zo H H'){l:Ç}(h:H' l=òq):H l=òq:=by
 cases q:H l with
 |Ã=>rfl|À o=>rw[e l o q]at h;cases h
omit L2
set_option linter.all false
set_option maxRecDepth 100000
set_option maxHeartbeats 4000000
namespace L2
open ľ Ŕ ň
def Def(K:Î)(a:Str->Æ Value)(x:Str)(st:Ù)(ps:Á Str):Prop:=
 ∃(f:Ç) (fd:Ĳ),Fun K x x st f fd/\a x=À ĕ/\vt K fd ps []
def wW(P:æ)(w:Þ)(K:Î)(b:Str->Æ Value)(a:Heap)(x:Str)(ps:Á Str)(k:Nat)(sp:Sp):Prop:=
 ∃(f:Ç) (fd:Ĳ),b x=À ĕ/\Øa K ĕ=Â/\vt K fd ps []/\yz P w K b a yq k f fd ps sp
def vF(a:Str->Æ Value)(x:Str)(v:V):Prop:=∃u,a x=À u/\zw v u
section
variable{P:æ}{w:Þ}{K:Î}{mg:Str->Æ Value}{È:Heap}
theorem Def.ok{x:Str}{st:Ù}{N ps:Á Str}{k:Nat}{sp:Sp}(d:Def K mg x st ps)(S:zm N ps ı)(c:∀vs H Q E,sp vs H Q E->Ą=Ē)(a:∀(f:Ç)(b:Value)(A:ñ)(þ:Á Env)(s:É)(H:Hp)(vs:Á V)(Q:VK)(E:XK),yX k (İb (Ąb x ı Õ f b))->sp vs H Q E->
   ∃t,uM (uo yq P w K mg È N x ı f b A þ s H E).t9 Ûa t/\t { nx:=λ_ H'=>Q .zK H',rt:=Q } Þd H):wW P w K mg È x ps Ų sp:=by
 obtain⟨f,h,F,e,g⟩:=d;exact⟨f,h,e,F.kp,g,ų S c (a f)⟩
omit a
section
variable{X:Cx}{x:Str}{p pos:Pos}{e:Ñ}{es:Á Ñ}{t:TA}{ps:Á Str}{j k:Nat}{sp:Sp}{v:V}{T:óa}
noncomputable def yf:Ñ->Í
 |.Starred ..=>Ä|_=>Â
def uR{e:Ñ}{es:Á Ñ}{env:Env}(h:yf e=Â):ĥb ď env=(Ä,Ę e env)::ĥb es env:=by cases e<;>first|rfl|cases h
theorem Z1{env:Env}{pos:Pos}:∀{es:Á Ñ},es.all yf=Â->(Ŭn).any (·.1)=Ä
 | [],_=>rfl|e::es,h=>by rw[ţ,ć]at h;rw[uR h.1];have a:=Z1 (env:=env) (pos:=pos) h.2;unfold ŧc at a ⊢;rw[Ŗ,šd,a];rfl
def Zt{a:TE}(b:PE X e a)(c:PA X es t)(h:Ê Ća q12):PA X ď (HA a t):=z4h b c (uR h)
noncomputable def Jf:Ñ->Æ Int
 |.Constant ða _ _=>À i|_=>Ã
def iG{e:Ñ}{i:Int}(h:Jf e=À i):∃k p,e=.Constant ða k p:=by
 cases e<;>first|(cases h;done)|skip
 rename_i c k p;cases c<;>first|(cases h;done)|skip
 cases h;exact⟨k,p,rfl⟩
def źb:Á Ñ->Æ ũg
 | []=>À []|e::r=>(Jf e).bind λi=>(ŗk).map (i::·)
theorem aI:∀{es:Á Ñ}{is:Á Int},źb es=À is->PA X es (λ_ H Q=>Q (is.map Ĕb) H)
 | [],is,h=>by cases(show À []=À is from h);exact XR|e::r,is,h=>by
  have q:((Jf e).bind λi=>(ŗk).map (i::·))=À is:=h;cases e1:Jf e with
  |Ã=>rw[e1]at q;cases q|À i=>
   rw[e1]at q;obtain⟨k,p,rfl⟩:=iG e1;cases e2:źb r with
   |Ã=>rw[e2]at q;cases q|À js=>rw[e2]at q;cases(show À (i::js)=À is from q);exact Zt aM (aI e2)
def Ix(h:wW ö X.w X.K ó Ō x ps k sp)(l:yX j X.A)(m:Gl X x)(i:PA X ď t)(hk:Ê Àc q10)(c:Ê ĺ q10)(a:Ê Īa q12):PE X Ÿa ūo:=by obtain⟨f,n,d,g,b,F⟩:=h;rw[ţ,ć]at a;exact z4s F (Ěh hk) m d g b .nil Zv i c (uR a.1) (Z1 a.2)
def Iv(h:vF ó x v)(a:Gl X x)(c:Ê ĺ q10):PE X Ða ĝf:=by obtain⟨u,b,r⟩:=h;exact z51 a b r c
def z4r(a:Gl X x)(c:ó x=Ã)(hv:ŧ x=À îc)(b:Ê ġb q10)(d:Ê ĺ q10):PE X Ða źp:=
 z4o a c hv rfl b d
omit a
section
variable{X:Cx}
def u8:ym X (Éb .FloorDiv) äm:=VN λi j _ _ _ _ _ a q=>by have b:(0:Int)<j:=a.1;have c:j<2 ^ 64:=a.2;have d:j.natAbs.log2<64:=(ńi).mpr Å;exact PyProof.Rows.floordiv_int Å (by rw[łm i Å];exact q) (.inl (PyProof.noPylong_of_log2 Å))
omit a
def gI:ŧ "len"=À œd:=by decide +kernel
def ir:ŧ Ðd=À Èj:=by decide +kernel
def iw:ŧ "sum"=À įo:=by decide +kernel
def iq:ŧ "all"=À İo:=by decide +kernel
def io:ŧ Ŭc=À Åb:=by decide +kernel
def im:ŧ ćf=À Âb:=by decide +kernel
def Jk:ŧ đ=À ęa:=by decide +kernel
def Bv:ŧ Ũ=À Ťa:=by decide +kernel
def sS{K:Î}:Ő K Åb Åb=À Â:=by rfl
def sQ{K:Î}:Ő K Âb Åb=À Â:=by kernel_rfl
def sR{K:Î}:Ő K Åb Âb=À Ä:=by kernel_rfl
def sP{K:Î}:Ő K Âb Âb=À Â:=by rfl
def sU{K:Î}:Ő K Ŋd Åb=À Ä:=by kernel_rfl
def sT{K:Î}:Ő K Ŋd Âb=À Ä:=by kernel_rfl
def sW{K:Î}:Ő K Ťa Ťa=À Â:=by rfl
def sV{K:Î}:Ő K öb öb=À Â:=by rfl
def vJ{H:Hp}{p:Ç}(h:H p=Ã)(o:HO):zo H ìd:=λb u q=>by rw[yP (tO q h)];exact q
def Þb{n:Nat}(h:n<=1000):n<=Ý:=ìa (y03 h)
def ZG(env:Env):Á Āb->Prop
 | []=>Åc|p::r=>ŋi p.1=À p.2/\ZG env r
theorem ZG.get{env:Env}:∀{cl:Á Āb} {y:Str} {c:Ç},ZG env cl->Šg y=À c->ŋi y=À c
 | [],_,_,_,h=>by cases h|(n,a)::r,y,c,hc,h=>by
  rw[łe]at h;cases e:y==n with
  |Â=>
   rw[e]at h;have b:y=n:=by simpa using e
   subst b;have d:a=c:=by simpa using h
   subst d;exact hc.1
  |Ä=>rw[e]at h;exact ZG.get hc.2 ĩa
noncomputable def V1(a:ýa)(env:Env)(b:Á Āb)(own:Á Str):Í:=
 ĥj λp=>p.1 != ("." : Str)&&((p.2 == .local&&(čg p.1||p.1==(".0" : Str)))||p.2 == .globalImplicit||p.2 == .globalExplicit ||
  (p.2 == .free&&(êd p.1==À .cell||êd p.1==À .free)&&(b.lookup p.1).isSome))
noncomputable def ďc(own:Á Str)(y:Str):Str:=if čg y||y==(".0" : Str)then "." else y
def vj(N own:Á Str):Á Str:=áb (ďc own)++own
theorem Ct{env:Env}:∀{Ĺh:Á (Str×Őc)} {y:Str} {k:Őc},
  (names.map λ(n,k)=>if(k==đp&&Áp == .function&&êd n==À .cell)then(n,Ēp)else(n,k)).lookup y=À k->∃k0,(y,k0)∈Ĺh/\(k=k0\/(k0=.free/\k=.cell))
 | [],_,_,h=>by simp at h|(n,k')::r,y,k,h=>by
  rw[Ŗ]at h;by_cases hc:(k'==đp&&Áp == .function&&êd n==À .cell)=Â;dsimp only at h;rw[Ë hc,łe]at h;cases e:y==n with
  |Â=>
   rw[e]at h;have b:y=n:=by simpa using e
   subst b;have a:Ēp=k:=by simpa using h
   have c:k'=.free:=by rw[ć,ć]at hc;simpa using hc.1.1
   exact⟨k',ĵ,.inr ⟨c,a.symm⟩⟩
  |Ä=>rw[e]at h;obtain⟨k0,m,z⟩:=Ct (env:=env) ĩa;exact⟨k0,Àa _ m,z⟩
  dsimp only at h;rw[Ï hc,łe]at h;cases e:y==n with
  |Â=>
   rw[e]at h;have b:y=n:=by simpa using e
   subst b;have a:k'=k:=by simpa using h
   exact⟨k',ĵ,.inl a.symm⟩
  |Ä=>rw[e]at h;obtain⟨k0,m,z⟩:=Ct (env:=env) ĩa;exact⟨k0,Àa _ m,z⟩
def vG(X:Cx)(a:ýa)(d:Á Āb)(own:Á Str)(C:Ç)(c:É)(e:Hp)(b:Á Ç)(pn:Á í):Cx:=
 { X with N:=vj X.N own,s₀:=c,H₀:=e,env:=compEnvC a d C Ö,þ:=ŋa,stack:=ŋa,ex:=b,fn:=λ_=>Ä,pn:=pn,xe:=λ_ _=>î }
section
variable{X:Cx}{z8:Á í}{σ:St}{H2:Hp}{s2:É}{Ľ:ýa}{cl:Á Āb}{own:Á Str}{C D:Ç}{fp:Á Ç}
def Pn(g:V1 Ľ Ö cl own=Â){y:Str}{k:Őc}(h:(ļe).names.lookup y=À k) :y ≠ "."/\((k=.local->čg y=Â\/y = ".0")/\((k=.cell\/k=.free)->(∃k0,(y,k0)∈Ūd/\k0=.cell)\/(ãm/\∃c,Šg y=À c))):=by
 obtain⟨k0,m,z⟩:=Ct h;have q:=Ĕa g _ m;rw[ć]at q;obtain⟨f,e⟩:=q;refine⟨by simpa using f,λa=>?_,λa=>?_⟩;rcases z with z|⟨_,z⟩;subst z;subst a;simpa using e;rw[z]at a;cases a;have b:k0=.free\/k0=.cell:=by rcases z with z|⟨z,_⟩;subst z;rcases a with a|a;exact .inr a;exact .inl a;exact .inl z
 rcases b with b|b;subst b
 right
 have d:((Ñd y==À .cell||Ñd y==À .free)&&(Šg y).isSome)=Â:=by simpa using e
 rw[ć]at d;refine⟨?_,ıd d.2⟩;have:=d.1;rw[îg]at this;rcases this with t|t;exact .inl ſn;exact .inr ſn;exact .inl ⟨k0,m,b⟩
def Bt(b:V1 Ľ Ö cl own=Â)(a:∀y∈Ūd,y.2≠.cell){y:Str}{k:Őc}(h:(ļe).names.lookup y=À k)(hk:k=.cell\/k=.free) :ãm/\∃c,Šg y=À c:=by rcases(Pn b h).2.2 hk with⟨d,m,e⟩|q;exact Û e (a _ m);exact q
def Po(I:Inv X z8 σ H2 s2)(hk:ŕj=.function)(f:∀y∈Ūd,y.2≠.cell)(d:ZG Ö cl)(k:V1 Ľ Ö cl own=Â)(j:Ïg<=C)(g:∀b∈fp,pZ X z8 H2 b)(i:∀b∈fp,∃o,ùj b=À o):(žl).Ok where
 mod:=ėk
 kind:=hk
 glob:=I.ok.glob
 blt:=I.ok.blt
 above:=j
 inj:=λx y c n l=>I.ok.inj x y c (d.get n) (d.get l)
 has:=λx a=>by rcases a with a|a;exact(Bt k f (show(ļe).names.lookup x=_ from a) ŉ).2;exact(Bt k f (show(ļe).names.lookup x=_ from a) Ņc).2
 W9:=λx c h=>by cases h
 hd:=Ōa
 Îl:=úq
 UL:=.inl rfl
 UF:=λb a=>⟨by obtain⟨o,e⟩:=i b a;exact Ŭ (ņ őc j),λx c h=>ųk.2.2.2.2.1 x c (d.get h)⟩
 bs:=I.bs
 g7:=ŏ ùh I.sz
 WE:=λb o e a=>by rcases(g b a).2.2.2.1 with z|z;exact I.ok.WE b o e z;exact Û (ņ őc (ŏ ùh z)) úa
 WA:=λb a m=>by rcases ę (I.UM b m)with z|z;exact ųk.2.1 z;exact ųk.2.2.1 z
 qm:=I.stack
 ZE:=I.NB
def ID{α:Type}{σ:Á (Æ α)}{n i:Nat}{v:α}(h:ūi[i]?=À Éa):σ[i]?=À Éa:=by
 by_cases hi:i<σ.length;rw[Ěb hi]at h;exact h;rw[Îc Å,ĺd]at h
 split at h<;>cases h
def ik{J:Heap}{m0:Str->Æ Value}{j:Obj}{tk:Nat}(I:Inv X z8 σ H2 s2)(hk:ŕj=.function)(s:∀y∈Ūd,y.2≠.cell)(g:ZG Ö cl)(O:V1 Ľ Ö cl own=Â)(L:Ïg<=C)(hD:Ïg<=D)(S:D≠C)(Y:∀b∈fp,pZ X z8 H2 b)(T:∀b∈fp,∃o,ùj b=À o)(f:∀b o,ùj b=À o->Ħh b=À o)(ns:J.Ns C m0)(hd:Ħh D=À j)(Q:∀v,j.data≠.cell v) :Inv žl [(D,j)] ōd H2 { s2 with á:=J,Ć:=tk }:=by
 have W:∀a,Ïg<=a->a ∉ pD ŋa:=λa ha P=>by rcases ę (I.UM a P)with z|z;exact Û (ņ I.lt ha) (by rw[z];exact Ŏb _);exact I.N9 ha z
 refine⟨Po I hk s g O L Y T,rfl,Ûb,ûf f,⟨m0,ns,λi y v e1 e2 e3=>?_⟩,λx c h=>?_,řb L,λx c h=>Ĕc x c (ļh h),λp hp=>?_,ār f,?_⟩;have F:σ[i]?=À Éa:=ID e2
 have hi:i<ò:=by have:=(ō F).1;rw[ńb]at this;exact this
 have q:ŕm[i]?=À y:=e1;rw[Ěb Âg,Œ]at q;cases en:X.N[i]? with
 |Ã=>rw[en]at q;cases q|À n=>
  rw[en]at q;have B:ďc own n=y:=ėa q
  have K:∃k,(ļe).names.lookup y=À k/\(k=.local\/k=.cell\/k=.free):=by rcases e3 with z|z|z;exact⟨_,z,.inl rfl⟩;exact⟨_,z,.inr ŉ⟩;exact⟨_,z,.inr Ņc⟩
  obtain⟨k,H,kk⟩:=K;obtain⟨nd,R,_⟩:=Pn O H;unfold ďc at B;by_cases E:(čg n||n==(".0" : Str))=Â;rw[Ë E]at B;exact Û B.symm nd;rw[Ï E]at B;subst B
  have A:k=.cell\/k=.free:=by
   rcases kk with z|z;exfalso
   apply E;rcases R z with t|t;rw[t];rfl;subst t;simp;exact z
  obtain⟨ok,c,Z⟩:=Bt O s H A;obtain⟨m,hn,hl⟩:=ľa;obtain⟨u,r,l⟩:=hl i n v en F (.inr ok);refine⟨u,r,.inr ⟨?_,c,Z,?_⟩⟩;rcases A with z|z;subst z;exact .inl H;subst z;exact .inr H;rcases l with⟨z,_⟩|⟨_,c',G,z⟩;rcases ok with t|t<;>(rw[t]at z;cases z);rw[ļh Z]at G;cases G;obtain⟨o,U,w⟩:=z;exact⟨o,f _ _ U,w⟩
 obtain⟨v,o,E,w⟩:=Őa x c (ļh h);exact⟨v,o,f _ _ E,w⟩;rcases Ïa hp with z|z;obtain⟨e,n,ne,nf,d⟩:=Œa p z;refine⟨f _ _ e,n,Ŭ (ņ őc L),λP=>?_,d⟩;rcases ę (I.UM p.1 P)with t|t;exact ne t;exact nf t;have e:p=(D,j):=by simpa using z
 subst e;exact⟨hd,řb hD,S,W D hD,Q⟩;show(ōd).length=(ŕm).length;rw[ä,ä,ħa,é,ńb]
omit a
def Ym(X:Cx)(a:Á Ñ)(b:TT):Prop:=
 ∀(z8:Á í) (s:É) (σ:St) (H:Hp) (Q:Í->Hp->Prop),Inv X z8 σ H s->b σ H Q->
  Ó ÿ X.A (Łb a Â λc r=>if r=Â then do let ok <-íe c Ö (Ę c Ö);pure (ıe ok)else pure (ıe r)) Åj ġ s
noncomputable def HE:TT:=λ_ H Q=>Q Â H
def am{X:Cx}:Ym X [] HE:=λ_ _ _ H _ I h=>wpAny_tests_nil ⟨H,I,h⟩
def z69{X:Cx}{c:Ñ}{t:TT}(h:PT X c t):Ym X [c] t:=λa s σ H Q I q=>wpAny_tests_one (h a s σ H Q I q)
section
variable{ø:æ}{w:Þ}{A:ñ}{R:ïe->É->Prop}{s:É}
def z06{f tg b:Ñ}{g:Á Ñ}{a:ýa}{pos:Pos}{it d:Value}{env:Env}(J:Nat->É->Prop)(j:∀n s,J n s->Ó à A (èe it) (λr s₁=>match r with
   |Ã=>R ĸq s₁|À v=>Ó à A (Žf tg it v) (λ_ z=>Ó à A (Żb tg env v) (λ_ s₂=>
    Ó à A (Łb g Â λc r=>if r=Â then do let ok <-íe c env (Ę c env);pure (ıe ok)else pure (ıe r)) (λok s₃=>
     if ok=Â then Ó à A (Ę f env) (λx s₄=>Ó à A (Ėb (.builtin þp) [d,x]) (λ_ s₅=>∃m,m<n/\J m s₅) ĸc s₄) ĸc s₃
     else ∃m,m<n/\J m s₃) ĸc s₂) ĸc z) ĸc s₁) ĸc s)
  (n:Nat)(h:J n s):ļb à A (.compLoop Øm 0 it d env) R s:=by
 have i:∀{P:Value->É->Prop},∀e s',(λ_ _=>î:Value->É->Prop) e s'->P e s':=λ_ _ z=>ł
 refine codeAny_loop rfl J (λn s q=>?_) n h;show Ó _ A (Sem.onRaise (compTurn Øm 0 it d env) (λx=>do noteFrame x env;theTreesLotGoes x)) _ _ s;refine wpAny_noted ?_;rw[compTurn_list];refine Ì (đi (Ì (Ĭa (j n s q) (λr s₁ l=>?_) i)));cases r with
 |Ã=>exact ë l|À v=>
  refine Ì (Ĭa l (λ_ z p=>?_) i);refine Ì (Ĭa p (λ_ s₂ t=>?_) i);refine Ì (Ĭa t (λok s₃ k=>?_) i);cases ok with
  |Ä=>exact ë ⟨rfl,k⟩|Â=>
   refine Ì (Ì (Ĭa k (λx s₄ o=>?_) i));exact Ì (Ĭa o (λ_ s₅ u=>ë (ë ⟨rfl,u⟩)) i)
omit a
abbrev v_(its:Á Value)(k:Nat):Obj:={ cls:=.type đ,ü:=.seq Ŷ k }
def Sx{its:Á Value}{k:Nat}:∀v,(ŭq).data≠.cell v:=λ_ z=>nomatch z
section
variable{X:Cx}{σ:St}{H:Hp}{s:É}{D:Ç}
def rT{pl:Á í}{its æb:Á Value}{k g tk:Nat}{h':Heap}(I:Inv X ((D,v_ its k)::pl) σ H s)(m:ěc<=D)(f:∀p∈ēc,p.1≠D)(r:Ša D Ü h')(A:ā D=À (v_ æb g)):Inv X [(D,v_ æb g)] σ H { s with á:=h',Ć:=tk }:=by
 obtain⟨e,n,i,w,d⟩:=Œa (D,v_ its k) đq;have y:Inv X [] σ H s:=I.UK λp a=>Û a ê
 have u:Inv X [] σ H { s with á:=h',Ć:=tk }:=y.turned (it:=D) (λb o j q=>(r.2 b j).trans q) n i (.inr m) (λx c l z=>by subst z;obtain⟨v,o,h,t⟩:=Őa x c l;rw[show ð c=À ŭq from e]at h;cases h;exact d v t) (λp a=>f p Ĭi)
 exact u.UK λp a=>by
  have q:p=(D,v_ æb g):=by simpa using a
  subst q;exact⟨A,n,i,w,Sx⟩
omit a
section
variable{X:Cx}{tg Ż elt:Ñ}{ifs:Á Ñ}{Ľ:ýa}{cl:Á Āb}{own:Á Str}{pos:Pos}{te:TE}{tc:TT}{g:TG}{wi:TI}
def y4u{fs ex:Á Ç}{H H':Hp}{h h':Heap}{D:Ç}{o:HO}(u:Un fs ex H H' h h')(i:ùb<=D)(d:H' D=Ã):Un fs ex H ėq h h' where
 ŷa:=ĉf
 slot:=đh
 free:=λb c q n g=>by rw[yP (λz=>by subst z;exact Û (ņ Ćh i) úa)];exact Ēh b c q n g
 Ķh:=îh
 qN:=λb e q=>by rw[yP ňn];exact u.qN b e q
 uT:=λb c v q=>by rw[yP ùn];exact u.uT b c v q
 pY:=λb f q=>by obtain⟨a,z⟩:=u.pY b f q;exact⟨a,by rw[yP (tO z d)];exact z⟩
def SL{P:æ}{w:Þ}{H:Hp}{h:Heap}{D:Ç}{o:HO}(x:xv P w H h)(d:H D=Ã)(a:xU P w ţq h D o):xv P w ţq h:=λb u e=>by by_cases hb:b=D;subst hb;rw[yk]at e;cases e;exact a;rw[yP hb]at e;refine(ìk).YU (λc v _ q=>q) (λc q=>?_) (λc f q=>?_);rw[yP (tO q d)];exact q;rw[yP (tO q d)];exact q
structure YX(X:Cx)(Ľ:ýa)(cl:Á Āb)(own:Á Str):Prop where
 kind:ŕj=.function
 cell:∀y∈Ūd,y.2≠.cell
 JH:ZG Ö cl
 ok:V1 Ľ Ö cl own=Â
 JI:ňq Ľ Ö=pure cl
 Ĺh:∀y∈Ūd,y.2=.local->scope.names.lookup y.1=À .local
structure JY(X:Cx)(z8:Á í)(H:Hp)(s:É)(C:Ç):Prop where
 free:H C=Ã
 ne:C≠Äa
 old:ěc<=C
 cell:∀x c,Ĩa x=À c->c≠C
 pin:∀p∈ēc++z8,p.1≠C
def Tk(σ:St)(n:Nat)(J:It)(g:TG)(tc:TT)(te:TE)(W:Nat->Nat->Á V->Hp->Prop)(a:Á V->Hp->Prop):Prop:=
 ∀i m ys H,W i m ys H->(ĥh i H/\a ys H)\/(J.go i H/\œ<Ý/\∃N:Á V->Hp->Prop,(∀ys' H',N ys' H'->∃m',m'<m/\W ï m' ys' H')/\
  ∀x H',J.ui i H x H'->g x ūi H' λσ2 d=>(∃τ,σ2=σ++τ)/\tc σ2 d λc b=>if c=Â then te σ2 b λy e=>N (ys++[y]) e else N ys b)
def Pr{z8:Á í}{σ:St}{H2:Hp}{F:É}{l:Á Ç}{it:Ç}{tn:Nat->Heap->Prop}{J:It}{W:Nat->Nat->Á V->Hp->Prop}{Fin:Á V->Hp->Prop}{m0:Nat}{RR:Value->Ç->ïe->É->Prop}(Q:Ű=Â)(B:YX X Ľ cl own)(I:Inv X z8 σ H2 F)(T:ZS ö X.w X.K tg J l it tn)(t0:tn 0 F.heap)(G:∀b∈l,pZ X z8 H2 b)(hg:∀C s H l pn,PG Èi tg g)(hc:∀C s H l pn,Ym Èi ifs tc)(he:∀C s H l pn,PE Èi elt te)(W0:W 0 m0 [] H2)(turn:Tk σ ðb J g tc te W Fin)(hRR:∀D C s' H' ys m',Inv X z8 σ İp s'->H' D=Ã->Fin ys H'->s'.heap.Ns C m'->JY X z8 İp s' C->RR Ĵk C ĸq s'){E:Value->É->Prop} :Ó ÿ X.A žp (λacc s3=>Ó ÿ X.A (newFunctionEnv Ľ Ój cl [] X.env.qual Ã .none (À Ö)) (λcenv s4=>
   ļb ÿ X.A (.compStart Çc 0 üb acc { cenv with Ľ:=relabel Ľ Ö }) (RR acc cenv.locals) s4) E s3) E F:=by
 refine Ěc (wpAny_newFunctionEnv àl (by intro y hy;simp at hy) (λh4 hns Y=>?_) Ĕf);dsimp only at hns Y ⊢;generalize hP:F.heap.push œr=P2 at hns Y ⊢;have hC:Đg=Îd+1:=by rw[<-hP,Àb]
 have U:Îd≠Đg:=by rw[hC];exact Ŭ ċd
 have f:Îd<=Đg:=by rw[hC];exact Ģg _
 have S:∀b o,üq b=À o->h4.get? b=À o:=λb o e=>
  Y.extBut b o (Ŭ Ēq) (ċ _ (hP▸ċ _ e))
 have hd4:h4.get? Îd=À œr:=Y.extBut _ _ U (ċ _ (hP▸Ţ _ rfl));have hfo:∀b∈l,∃o,üq b=À o:=λb d=>let ⟨o,e,_⟩:=ĭf 0 _ t0 b d;⟨o,e⟩
 have lt:∀b∈l,b<Îd:=λb d=>let ⟨o,e⟩:=hfo b d;Č e
 generalize hDD:Îd=D at U hd4 ⊢;generalize hCC:Đg=C at U hns Y f ⊢;have t:Îd<=D:=śe hDD
 let X':=vG X Ľ cl own C F H2 l (ēc++z8)
 have hpn:∀p∈X'.pn,p.1≠D:=λp hp z=>by obtain⟨e,_⟩:=Œa p hp;rw[z]at e;exact Û (ņ őc t) úa
 have okb:=Po I Ĕf àl B.JH B.ok f G hfo
 have R:∀{k:Nat}{a:Á Value}{H':Hp},(∀b∈l,H' b=Ã)->∀b∈l,pZ X' ėg H' b:=λ{k a H'} hn b d=>
  ⟨hn b d,Žp.1,okb.WA b d,.inl d,Žp.2,λp hp=>by
   rcases Ïa hp with z|z;exact äe.2.2.2.2.2 p z;have q:p=(D,v_ a k):=by simpa using z
   subst q;exact λz=>Û (lt b d) (by rw[<-z];exact Ōe t)⟩
 have loop:∀s4:É,s4={ F with á:=h4,Ć:=F.toks+([]:Á Ĺc).length }->
   ļb ÿ X.A (.compLoop Çc 0 üb Ĵk (compEnvC Ľ cl C Ö)) (RR Ĵk C) s4:=by
  rintro s4 rfl
  refine z06 (λn s'=>∃(i:Nat) (ys:Á V) (a:Á Value) (k:Nat) (H':Hp),Inv X' ėg ōd H' s'/\zf ys a/\tn i Ćd/\(∀b∈l,H' b=Ã)/\W i n ys H'/\œ<=Ý) ?_ m0
   ⟨0,[],[],0,H2,ik I Ĕf àl B.JH B.ok f t U G hfo S hns hd4 Sx,.nil,đf _ _ _ t0 λb _ o e=>S b o e,λb d=>äe.1,W0,Ãa _⟩
  rintro n s5 ⟨i,ys,a,k,H5,I5,v5,st5,fr5,w5,z5⟩;rcases turn i n ys H5 w5 with⟨Ŕa,fin⟩|⟨go,room,N,hN,ŉb⟩
  .refine Ĭa (T.done X' rfl rfl rfl Q i _ s5 _ H5 ĸc I5 (R fr5) st5 Ŕa) (λr s6 ⟨hr,I6⟩=>?_) λ_ _ z=>z
   subst hr;obtain⟨e6,n6,ne6,nf6,d6⟩:=I6.pin (D,v_ a k) đq;obtain⟨m6,ns6,_⟩:=I6.loc;have u6:Un Ĩk l H2 àj F.heap s6.heap:=y4u I6.base t n6;have new6:xU ö X.w àj s6.heap D åc:=⟨z5,a,k,v5,e6⟩;have I7:Inv X z8 σ àj s6:=I.Lh I6.os u6 (SL I6.zd n6 new6) I6.bare (λb d=>⟨äe.2.2.2.1,äe.2.1,äe.2.2.2.2.1,äe.2.2.2.2.2⟩);refine hRR D C s6 H5 ys m6 I7 n6 fin ns6 ⟨?_,?_,?_,λx c hcx z=>?_,λp hp z=>?_⟩
   .rw[yP (Ļb U)];exact I6.free
   .exact λz=>Û I.lt (by rw[<-z];exact Ōe f)
   .exact ŏ I.sz f
   .subst z;obtain⟨v,o,ho,_⟩:=Őa x c hcx;exact Û (ņ (Č ho) f) úa
   .obtain⟨e,_⟩:=Œa p hp;rw[z]at e;exact Û Ēq úa
  .refine Ĭa (T.item X' rfl rfl rfl Q i _ s5 _ H5 ĸc I5 (R fr5) st5 go) (λr s6 ⟨u,hr,h6⟩=>?_) λ_ _ z=>z
   subst hr;refine Ĭa h6 (λ_ s7 ⟨x,H7,I7,r7,y7,st7,fr7⟩=>?_) λ_ _ z=>z
   have I7':=I7.pinned (R fr7) (ĭf _ _ st7);refine Ĭa (hg C F H2 l _ _ s7 _ H7 x u _ I7' r7 (ŉb x H7 y7)) (λ_ s8 ⟨σ8,H8,I8,⟨τ,hτ⟩,q8⟩=>?_) λ_ _ z=>z
   subst hτ
   have back:∀{n':Nat}{P:Á V}{m:Á Value}{k':Nat}{O:Hp}{L:É}{pl:Á í},Inv X' ((D,v_ m k')::pl) ğk O L->zf P m->tn ï Ĥh->(∀b∈l,O b=Ã)->W ï n' P O->èa<=Ý->
     ∃(i:Nat) (ys:Á V) (a:Á Value) (k:Nat) (H':Hp),Inv X' ėg ōd H' L/\zf ys a/\tn i Ĥh/\(∀b∈l,H' b=Ã)/\W i n' ys H'/\œ<=Ý:=λ{n' P m k' O L pl} Z v9 st9 fr9 w9 z9=>by
    have I9':Inv X' [(D,v_ m k')] ğk O L:=Z.UK λp hp=>Z.pin p (ŀa _ (by
     have q:p=(D,v_ m k'):=by simpa using hp
     subst q;exact ĵ))
    refine⟨i+1,P,m,k',O,I9'.weak ?_ (λj v e=>?_),v9,st9,fr9,w9,z9⟩
    .rw[I9'.len,<-I5.len]
    .have e':=ID e;rw[Ěb (ō e').1];exact e'
   have h:∀{σ9:St}{O:Hp}{L:É},Inv X' (ėg++Q3 l s7.heap) σ9 O L->tn ï Ĥh/\∀b∈l,O b=Ã:=λ{σ9 O L} Z=>
    ⟨đf _ _ _ st7 λb d o e=>Äm.1,λb d=>by obtain⟨o,e,_⟩:=ĭf _ _ st7 b d;exact Äm.2.1⟩
   refine Ĭa (hc C F H2 l _ _ s8 _ H8 _ I8 q8) (λc L ⟨O,Z,q9⟩=>?_) λ_ _ z=>z
   cases c with
   |Ä=>
    rw[Ï ģ]at q9 ⊢;obtain⟨m',hm,w9⟩:=hN _ _ q9;exact⟨m',hm,back Z v5 (h Z).1 (h Z).2 w9 z5⟩
   |Â=>
    rw[Ë rfl]at q9 ⊢;refine Ĭa (he C F H2 l _ _ L _ O _ Z q9) (λyv sa ⟨y,Ha,Ia,ra,qa⟩=>?_) λ_ _ z=>z
    obtain⟨m',hm,wa⟩:=hN _ _ qa;obtain⟨ea,na,_⟩:=Ia.pin (D,v_ a k) (ŀa _ (žc _ ĵ))
    have szi:Þc<=Ý:=by have:=v5.length;simp only[Ĕ];omega
    refine wpAny_list_append_plain (hsz:=szi) ⟨k,ea⟩ λd hlb hsb'=>?_
    obtain⟨kb,eb⟩:=hlb;have eb':d.get? D=À (v_ ťr kb):=by rw[eb];simp
    have Ib:Inv X' [(D,v_ ťr kb)] ğk Ha { sa with á:=d,Ć:=sa.toks }:=rT (tk:=sa.toks) Ia t hpn hsb' eb';have stb:tn ï d:=đf _ _ _ (h Ia).1 λb hbf o e=>(hsb'.2 b (λz=>Û (lt b hbf) (by rw[z];exact Ōe t))).trans e
    exact⟨m',hm,back Ib (ŗg v5 (.cons ra .nil)) stb (h Ia).2 wa (by rw[ä];exact room)⟩
 exact codeAny_compStart_list Àq (T.self X.A 0 _ _ _ (đf _ _ _ t0 λb _ o e=>S b o e) Àq)
def y18(n:Nat)(wi:TI)(g:TG)(tc:TT)(te:TE):TE:=λσ H Q=>wi σ H λJ c=>∃W:Nat->Nat->Á V->Hp->Prop,(∃m,W 0 m [] c)/\
 Tk σ n J g tc te W λb a=>∀p,a p=Ã->Q ŝ Łi
def JY.inv{a:Á í}{σ:St}{H:Hp}{s:É}{C:Ç}{h':Heap}(o:JY X a H s C)(I:Inv X a σ H s)(c:Ša C Ü h'):Inv X a σ H { s with á:=h' }:=
 ųb (it:=C) (t':=Ĉ) (λb u d q=>(c.2 b d).trans q) o.free o.ne (.inr o.old) o.cell o.pin
def z53(a:Ű=Â)(B:YX X Ľ cl own)(hi:PI X tg Ż wi)(G:∀C s H fp pn,PG Ēa tg g)(n:∀C s H fp pn,Ym Ēa ifs tc)(t:∀C s H fp pn,PE Ēa elt te)(E:Ê (∀x,Ôc Ż Ö x=pure x) q11) :PE X Çc (y18 ðb wi g tc te):=by intro l s σ H Q I h;rw[eval_ListComp];refine Čm (use:=Ã) rfl E B.JI Ĕf B.names (zt (hi l s σ H _ I h) λv N y=>zt y λp Z r=>?_);obtain⟨R,fp,S,J,P,e,o,T,d,z,W,⟨O,L⟩,b⟩:=r;subst e;refine Pr (RR:=λc C=>compPost ÿ X.A ġ Ã (EP X l σ Q) c C) a B o T d z G n t L b ?_;intro D C Y K q F u m j f i;exact⟨F,f,λU k=>⟨.ref D,zX K D (.lst q),i.inv u k,rfl,j D m⟩⟩
def y1k(i n:Nat)(wi:TI)(g:TG)(tc:TT)(te:TE):TS:=λD σ H=>wi σ H λJ c=>∃W:Nat->Nat->Á V->Hp->Prop,(∃m,W 0 m [] c)/\
 Tk σ n J g tc te W λb a=>∀p,a p=Ã->éb ŷf Łi
def aj{i:Nat}{x:Str}{f c:Pos}(d:Ű=Â)(hN:Ņa)(m:X.N[i]?=À x)(F:ķd x=À .local)(B:YX X Ľ cl own)(r:ĳc Çc (À Ĺq) c.line Ö=pure Â)(hi:PI X tg Ż wi)(hg:∀C s H fp pn,PG Ēa tg g)(K:∀C s H fp pn,Ym Ēa ifs tc)(Y:∀C s H fp pn,PE Ēa elt te)(hs:Ê (∀x,Ôc Ż Ö x=pure x) q11) :PS X (.Assign [.Name x f] Çc c) (y1k i ðb wi g tc te):=by
 intro u s σ H D I h;rw[exec_Assign_Name_used _ _ _ _ r];refine Ì (đi Ħg);show Ó _ X.A (do let _ <-comprehension Çc Ľ Ö _ žp Ä (Ę Ż Ö) łr) _ _ s
 refine Ì (zt (Čm (use:=À řl) (Q:=λ_ j=>SP X u D .next j) rfl hs B.JI Ĕf B.names
  (zt (hi u s σ H _ I h) λv s1 h1=>zt h1 λP s2 U=>?_)) λ_ j hq=>ë (ë hq))
 obtain⟨it,fp,tn,J,H2,e,O,T,n,f2,W,⟨m0,w0⟩,k⟩:=U;subst e;refine Pr (RR:=λl C=>compPost ÿ X.A ġ łr (λ_ j=>SP X u D .next j) l C) d B O T n f2 hg K Y w0 k ?_;intro L C j H' R m' Z G q p b;show Ó _ X.A (Żb Ĺq Ö (.ref L)) _ _ j;refine Õo (cp Z hN m (.inl F) (v:=.ref L) rfl (λs3 S q3=>?_) (.inr F));obtain⟨a,o,ha⟩:=q3
 have t:C≠a:=by rcases ha with z|z;rw[z];exact b.ne;exact λy=>b.cell x a z y.symm
 refine⟨m',p.sameBut o t,λh' E=>?_⟩;exact⟨_,_,JY.inv (H:=zX H' L (.lst R)) ⟨b.free,b.ne,b.old,b.cell,b.pin⟩ S E,q L G⟩
omit a
structure QE(X:Cx)(e:Ñ)(t:TE):Prop where
 h:PE X e t
structure QA(X:Cx)(es:Á Ñ)(t:TA):Prop where
 h:PA X es t
structure QS(X:Cx)(st:Ù)(t:TS):Prop where
 h:PS X st t
structure QG(X:Cx)(e:Ñ)(t:TG):Prop where
 h:PG X e t
structure JZ(X:Cx)(es:Á Ñ)(t:gF):Prop where
 h:Uq X es t
structure QI(X:Cx)(tg e:Ñ)(t:TI):Prop where
 h:PI X tg e t
section
variable{X:Cx}{x:Str}{p pos ôa Ìa ź:Pos}{e a b c o:Ñ}{es:Á Ñ}{te to:TE}{t:TA}{r:R2}{v:V}{T id:óa}{j k i:Nat}
def qv(i:Nat){x:Str}{pos:Pos}(b:Ê Ød q12)(hv:Ê îd q13)(c:Ê ĺ q10)(a:Ê Ęc q10):QE X Ða Ċc:=⟨XS b hv c a⟩
def z6o(h:vF ó x v)(a:Gl X x)(b:Ê ĺ q10):QE X Ða ĝf:=⟨Iv h a b⟩
def z6n(a:Gl X x)(c:ó x=Ã)(hv:ŧ x=À îc)(b:Ê ġb q10)(d:Ê ĺ q10):QE X Ða źp:=⟨z4r a c hv b d⟩
noncomputable def aU:Ñ->Í
 |.Name ..=>Â|.Call ..=>Â|.Subscript ..=>Â|.Attribute ..=>Â|.Constant ..=>Â|.List ..=>Â|.Tuple ..=>Â|.BinOp ..=>Â|_=>Ä
def z5u{e:Ñ}{env:Env}(h:aU e=Â):∀Ůc,íe e env Ůc=(do let v <-Ůc;standAt e.pos;holding [v] Ųq):=by cases e<;>first|(intro _;rfl)|cases h
def Cp:QA X [] Xl:=⟨XR⟩
def O5(a:QE X e te)(b:QA X es t)(h:Ê Ća q12):QA X ď ũr:=⟨Zt a.h b.h h⟩
noncomputable def Zw:Ñ->Í
 |.Name ..=>Â|.Constant ..=>Â|.BinOp ..=>Â|.Call ..=>Â|.UnaryOp ..=>Â|.Subscript ..=>Â|.Attribute ..=>Â|_=>Ä
def I_{b:Ñ}(h:Zw b=Â):P7 b:=by cases b<;>first|(intro _ _;rfl)|cases h
def O6{r:Á V->Hp->VK->Prop}(c:vA X õb r)(i:Gl X x)(f:ó x=Ã)(hv:ŧ x=À õb)(g:QA X ď t)(d:Ê ġb q10)(a:Ê ĺ q10)(b:Ê Īa q12):QE X Ÿa ßh:=by rw[ţ,ć]at b;exact⟨z4u c i f hv g.h d a (uR b.1) (Z1 b.2)⟩
def XU{r:Á V->Hp->VK->Prop}(c:vA X îc r)(i:Gl X x)(f:ó x=Ã)(hv:ŧ x=À îc)(g:QA X ď t)(d:Ê ġb q10)(a:Ê ĺ q10)(b:Ê Īa q12):QE X Ÿa ßh:=by rw[ţ,ć]at b;exact⟨z4w c i f hv g.h d a (uR b.1) (Z1 b.2)⟩
variable{g:TG}
noncomputable def VJ:Ñ->Í
 |.ListComp ..=>Ä|.SetComp ..=>Ä|.DictComp ..=>Ä|_=>Â
def Ae{e:Ñ}{a:Æ Ñ}{n:Nat}{env:Env}(h:VJ e=Â):ĳc e a n env=pure Ä:=by cases e<;>first|rfl|cases h
def Cq(a:QE X e te)(b:Ê Źe q12):QS X éj (dB te):=⟨af a.h (Ae b)⟩
def O7{i:Nat}{x:Str}{ôa:Pos}(f:Ņa)(hi:X.N[i]?=À x)(a:pf ĭa x)(d:QE X e te)(b:Ê Źe q12)(c:Ê ęb q7) :QS X Ōf (G_ te ũc):=⟨z64 f hi a d.h (Ae b) c⟩
def xN{i:Nat}{x:Str}(a:Ņa)(hi:X.N[i]?=À x)(b:pf ĭa x)(c:Ê ęb q7):QG X Ða ũc:=⟨z5b a hi b c⟩
def bD{o i:Ñ}{to a:TE}{t:Jb}(c:QE X o to)(hi:QE X i a)(b:Mj X t)(d:Ê (Zw i=Â) q12):QG X ďi (Rv to a t):=by refine⟨z5c c.h Ģd b ?_⟩;cases i<;>first|(intro _;rfl)|cases d
def XW:JZ X [] Zf:=⟨z5f⟩
def qZ{t:TG}{u:gF}(c:QG X e t)(b:JZ X es u)(a:Ê ((Ĩp).map (·.2)=Żb e Ö::(ōe).map (·.2)) q12):JZ X ď (qT t u):=⟨z5e c.h b.h a⟩
def XV{k:Nat}{t:gF}{n:Nat}(b:Ű=Â)(h:JZ X es t)(c:Ê ıo q12)(a:Ê ((ōe).findIdx? (·.1)=Ã) q12):QG X Ňi Éq:=⟨z5d b h.h c a⟩
variable{ħ:Str}{rm:V->Á V->Hp->VK->Prop}
theorem ce{env:Env}{pos:Pos}:∀{es:Á Ñ},es.all yf=Â->(Ŭn).all Ķj=Â
 | [],_=>rfl|e::es,h=>by rw[ţ,ć]at h;rw[uR h.1];have a:=ce (env:=env) (pos:=pos) h.2;unfold ŧc at a ⊢;rw[Ŗ,ţ,a];rfl
def QC(k:Ľg T)(c:Slot T ħ id)(f:ēh õb=pure œf)(i:Wr X id rm)(j:QE X o to)(m:QA X ď t)(a:Ê Ľf q12)(b:Ê ŏb q12)(d:Ê Īa q12)(l:Ê ((ď).length<30) q10) :QE X Ün (d9 X.K T rm to t):=⟨by have g:=ce (env:=Ö) (pos:=ź) d;rw[ţ,ć]at d;refine z4p k c f i j.h m.h a ?_ b (uR d.1) (Z1 d.2);rw[g];show(Â&&Â&&decide ((ď).length+0+0<30))=Â;rw[Ġ (show(ď).length+0+0<30 from l)];rfl⟩
omit a
def PB(K:Î)(H:Hp)(a c:Ç)(xs ys:Á V):Prop:=(yo K H a xs/\yo K H c ys)\/(yL K H a xs/\yL K H c ys)
section
variable{X:Cx}{z8:Á í}{σ:St}{H:Hp}{s:É}
def z7b{A:ñ}{a c:Ç}{xs ys:Á V}{e:Nat->Í}(I:Inv X z8 σ H s)(i:ůa<Êa)(Q:PB X.K H a c xs ys)(N:∀(j:Nat) x' y' u v,xs[j]?=À x'->ys[j]?=À y'->zw x' u->zw y' v->ũb ãb s u v (e j)) :Ŝj A s ő âh ((Ěi).all e&&â==œ)/\Āj A s ő âh (!((Ěi).all e&&â==œ)):=by
 have f:∀{y:Á V}{b:Á Value}{j:Nat}(O:j<Ĩb),zf y b->∃z,y[j]?=À z/\zw z āb[j]:=λ{y b j} O r=>by
  have F:=ż
  have l:j<üd:=by rw[Ĕ]at O;omega
  obtain⟨u,m,R⟩:=ßb (č l);refine⟨_,č l,?_⟩
  have:āb[j]=u:=by have x:b[j]?=À b[j]:=č Å;rw[x]at m;simpa using m
  rw[this];exact R
 rcases Q with⟨J,C⟩|⟨J,C⟩;obtain⟨b,t,h,_⟩:=òa J;obtain⟨g,n,pc,_⟩:=òa C;have P:=ćb;have x:=þd
 have d:∀j (w:j<Ĩb) (k:j<ög),ũb ãb s āb[j] Şg[j] (e j):=λj w k=>by obtain⟨G,e1,L⟩:=f w t;obtain⟨E,e2,B⟩:=f k n;exact N j G E _ _ e1 e2 L B
 have p:=SeqAt.RcAt.tuples (e:=e) h pc i d;have q:=SeqAt.RcNeAt.tuples (e:=e) h pc i d;rw[Ĕ,Ĕ,<-P,<-x]at p q;exact⟨p,q⟩;obtain⟨b,t,h,_⟩:=Ź J;obtain⟨g,n,pc,_⟩:=Ź C;have P:=ćb;have x:=þd
 have d:∀j (w:j<Ĩb) (k:j<ög),ũb ãb s āb[j] Şg[j] (e j):=λj w k=>by obtain⟨G,e1,L⟩:=f w t;obtain⟨E,e2,B⟩:=f k n;exact N j G E _ _ e1 e2 L B
 by_cases F:â=œ;have o:Ĩb=ög:=by rw[Ĕ,Ĕ];omega
 have p:=SeqAt.RcAt.lists (e:=e) Äh Śg o i d;have q:=SeqAt.RcNeAt.lists (e:=e) Äh Śg o i d;have e1:min â œ=Ĩb:=by rw[Ĕ];omega
 have e2:śq=Â:=by simp[F]
 rw[e1,e2,Ęp];exact⟨p,q⟩;have o:(Ĩb != ög)=Â:=by rw[Ĕ,Ĕ];simp;omega
 have e2:śq=Ä:=by simp[F]
 rw[e2,Ëp];exact⟨SeqAt.RcAt.lists_lengths Äh Śg o i,SeqAt.RcNeAt.lists_lengths Äh Śg o i⟩
def IL(A:ñ):A.in1.units=ůa+1:=rfl
omit a
def mV{x:V}(h:pC x=Â):qA x x=Â:=by cases x<;>first|rfl|(simp[qA];done)|cases h
open Ŋk (hideAll)
omit L2
namespace L2
open ľ Ŕ ň
section
variable{H H':Hp}{a C:Ç}
def hU(a C:Ç)(h:Heap):Prop:=∃o vs,ĉ a=À o/\àb=.ref C/\Ýa=.fields vs
def y4v{fs ex:Á Ç}{H H':Hp}{h h':Heap}{D:Ç}{o:HO}(u:Un fs ex H H' h h')(i:ĉ D=Ã)(d:H' D=Ã):Un fs ex H ėq h h' where
 ŷa:=ĉf
 slot:=đh
 free:=λb c q n g=>by rw[yP (λz=>by subst z;rw[i]at q;cases q)];exact Ēh b c q n g
 Ķh:=îh
 qN:=λb e q=>by rw[yP ňn];exact u.qN b e q
 uT:=λb c v q=>by rw[yP ùn];exact u.uT b c v q
 pY:=λb f q=>by obtain⟨a,z⟩:=u.pY b f q;exact⟨a,by rw[yP (tO z d)];exact z⟩
omit a
section
variable{X:Cx}
def df{ns:Á Int}{its:Á Value}(r:zf Áb its){i:Nat}{v:Value}(h:Ŷ[i]?=À v):∃t,v=.int Ėr t:=by
 have d:i<Ëb:=by rw[Ŀd]at h;exact Ĥa.1
 have e:Ŝ=Ëb:=by have:=ż;rw[é]at this;exact this
 have b:Áb[i]?=À (Ε Ėr):=by rw[Œ,Ŵ,č Å];rfl
 obtain⟨u,a,c⟩:=ßb b;rw[Ŀd,a]at h;cases h;exact c
theorem CY{ns:Á Int}:∀(k:Nat),k<=Ŝ->ċf Ôp k=(Įg).sum
 |0,_=>by simp[ċf]|k+1,h=>by rw[ċf,CY k Å,ęc Å,List.sum_append,Ŵ,č Å];show _+ns[k]=_+(ns[k]+0);rw[Int.add_zero]
def PF(ns:Á Int):Prop:=(∀n∈ns,ħh n)/\∀k,k<=Ŝ->ħh (Įg).sum
def bT(K:Î):Á V->Hp->VK->Prop:=λa H Q=>∃(p:Ç) (ns:Á Int),a=Áe/\(yL K H p Áb\/yo K H p Áb)/\PF ns/\Q (.int Êl) H
def cx{ns:Á Int}(h:PF ns):∀j,j<Ŝ->ħh (ľg j 0)/\ħh (ċf Ôp Ëa):=λj a=>by refine⟨h.1 _ ?_,?_⟩;rw[Ŵ,č a];exact Őd a;rw[CY _ Å];exact h.2 _ Å
def lL(C:Ű=Â):vA X įo (bT X.K):=by
 intro N s σ H J L Q I r h;obtain⟨p,d,rfl,m,A,q⟩:=h;obtain⟨u,rfl,F⟩:=u_ r;cases F;have B:=Ōa C;have e:ċf (λi=>Đf i 0) Öa=d.sum:=by rw[CY _ Ċ,Łe]
 refine call_sum_walk ?_;rcases m with m|m;obtain⟨a,t,w,E⟩:=Ź m;have l:Öa=Þc:=by have:=ćb;rw[é]at this;rw[Ĕ];exact this
 have c:p<Õ:=by obtain⟨o,n,e,_⟩:=w;exact Č e
 refine Ĺd w.isList ?_;refine⟨_,_,_,_,_,_,λi=>Đf i 0,rfl,ōq ĕj Õ p ąh Îb,⟨⟨_,Ţ _ rfl,rfl,rfl⟩,w.isList.push _⟩,?_,λi v x=>df t x,?_,?_⟩;intro b j;show b<(åa _).objs.size;rw[Àb];simp only[Ãb,Ėa,Òb]at j;rcases j with rfl|rfl;exact żc _;exact Õc c;rw[<-l];exact cx A;intro G y t' k;rw[<-l,e]
 exact⟨.int d.sum,H,ñe (t':=y) λb o f=>k b o (λz=>by
  have:b=Õ:=by simpa using z
  rw[this]at f;exact Û ćh úa) åk,⟨_,rfl⟩,q⟩
 obtain⟨a,t,w,E⟩:=òa m;have l:Öa=Þc:=by have:=ćb;rw[é]at this;rw[Ĕ];exact this
 have g:ŝd p Îb:=w;have c:p<Õ:=by obtain⟨o,e,_⟩:=g;exact Č e
 refine âi g ?_;refine⟨_,_,_,_,_,_,λi=>Đf i 0,rfl,Walks.tuple ĕj Õ p ąh Îb,⟨⟨_,Ţ _ rfl,rfl,rfl⟩,g.push _⟩,?_,λi v x=>df t x,?_,?_⟩;intro b j;show b<(åa _).objs.size;rw[Àb];simp only[Ãb,Ėa,Òb]at j;rcases j with rfl|rfl;exact żc _;exact Õc c;rw[<-l];exact cx A;intro G y t' k;rw[<-l,e]
 exact⟨.int d.sum,H,ñe (t':=y) λb o f=>k b o (λz=>by
  have:b=Õ:=by simpa using z
  rw[this]at f;exact Û ćh úa) åk,⟨_,rfl⟩,q⟩
def y56{a:Á Í}{its:Á Value}(r:zf Ŗq its){i:Nat}{v:Value}(h:Ŷ[i]?=À v):v=.bool íp:=by
 have e:i<Ëb:=by rw[Ŀd]at h;exact Ĥa.1
 have f:Ġa=Ëb:=by have:=ż;rw[é]at this;exact this
 have c:Ŗq[i]?=À (.bl íp):=by rw[Œ,Ŵ,č Å];rfl
 obtain⟨u,b,d⟩:=ßb c;rw[Ŀd,b]at h;cases h;exact d
def z7a{d:Á Í}:(Ía Öa).all (λi=>Đf i Ä)=d.all id:=by
 rw[Ôd,Ĕo,Ĕo]
 constructor;intro h b e;obtain⟨i,c,rfl⟩:=List.mem_iff_getElem.mp e;have:=h i (ēa c)
 rwa [Ŵ,č c]at this;intro h i c;have a:=ķe c;rw[Ŵ,č a];exact h _ (Őd a)
def bF(K:Î):Á V->Hp->VK->Prop:=λa H Q=>∃(p:Ç) (bs:Á Í),a=Áe/\yL K H p (ğh V.bl)/\Q (.bl (bs.all id)) H
def l6(m:Ű=Â):vA X İo (bF X.K):=by
 intro L s σ H C F Q I r h;obtain⟨p,d,rfl,A,q⟩:=h;obtain⟨u,rfl,y⟩:=u_ r;cases y;have B:=Ōa m;refine call_all_walk ?_;obtain⟨a,j,g,E⟩:=Ź A;have x:Öa=Þc:=by have:=Ðb;rw[é]at this;rw[Ĕ];exact this
 have c:p<Õ:=by obtain⟨o,n,e,_⟩:=g;exact Č e
 refine Ĺd g.isList ?_;refine⟨_,_,_,_,_,_,λi=>Đf i Ä,rfl,ōq ĕj Õ p ąh Îb,⟨⟨_,Ţ _ rfl,rfl,rfl⟩,g.isList.push _⟩,?_,?_⟩;intro i v J G N t l;rw[y56 j t];exact ë l;intro l w k;rw[<-x,z7a]
 exact⟨.bl (d.all id),H,ñe (t':=w) λb o f=>k b o (λz=>by
  have:b=Õ:=by simpa using z
  rw[this]at f;exact Û ćh úa) åk,rfl,q⟩
omit a
open Builtin.SmallTypes (Āc)
structure Yo(P:æ)(w:Þ)(it l:Ç)(st:Nat->Heap->Prop)(n:Nat)(val:Nat->Value):Prop where
 ŷa:∀i h h',st i h->(∀b o,(b=it\/b=l)->ĉ b=À o->ā b=À o)->st i h'
 ŋb:∀{A:ñ}{Q:Value->É->Prop}{E:Value->É->Prop}{s:É}(i:Nat),st i Ü->i<n->(∀h',st ï h'->Ša it Ü h'->Q (val i) { s with á:=h' })->Ó ŧb A Ťg Q E s
 done:∀{A:ñ}{Q:Value->É->Prop}{E:Value->É->Prop}{s:É}(i:Nat),ğa=Ã->st i Ü->n<=i->
  (∀h' e,ûq it Ü h'->(∃o,ā e=À o/\àb=.type Ńd)->E áh { s with á:=h' })->Ó ŧb A Ťg Q E s
section
variable{ø:æ}{w:Þ}{A:ñ}{E:Value->É->Prop}{s:É}
def z1f{it t:Ç}{i:Nat}{z6}{x:Value}{Q:Value->É->Prop}(a:šn it t i)(h:ŝd t z6)(f:z6[i]?=À x)(g:∀h',h'.IsTupleIter it t ï->Ša it Ü h'->Q x { s with á:=h' }):Ó à A Ťg Q E s:=by
 obtain⟨o,c,j,b⟩:=id a;obtain⟨k,d,_,l,e⟩:=h;unfold Āc
 refine Ì (Įd (ħ:=źa èd) a.typeIs Ňf
  (őb Ňf a.typeIs èm ?_ Åm))
 refine Ì (m:=Űc üb 0) (ěb c b (x:=.ref t) rfl ?_);show Ó _ _ Ģr _ _ s;rw[Ï (show ¬ Ęr from ģ)];refine Ì (m:=Űc üb 1) (ěb c b (x:=.int i 0) rfl ?_);refine Ì (m:=seqItems? (.ref t)) (Ĝb d e ?_);simp only[ğ,f];refine Ì (Ći c b ê (ë ⟨x,rfl,ë (g _ ?_ Ĝk)⟩))
 exact⟨_,ŀd _ c (Obj.isFreed_of_fields (Ũn b _)),(Obj.cls_mapFields ..).trans j,by rw[Ũn b];simp[Ŧ]⟩
def z1e{it t:Ç}{i:Nat}{z6}{Q:Value->É->Prop}(h:ğa=Ã)(b:šn it t i)(k:ŝd t z6)(j:z6[i]?=Ã)(l:∀h' e,ûq it Ü h'->(∃o,ā e=À o/\àb=.type Ńd)->E áh { s with á:=h' }):Ó à A Ťg Q E s:=by
 obtain⟨o,c,n,g⟩:=id b;obtain⟨p,d,_,q,f⟩:=k;unfold Āc
 refine Ì (Įd (ħ:=źa èd) àf Ňf
  (őb Ňf àf èm ?_ Åm))
 refine Ì (m:=Űc üb 0) (ěb c g (x:=.ref t) rfl ?_);show Ó _ _ Ģr _ _ s;rw[Ï (show ¬ Ęr from ģ)];refine Ì (m:=Űc üb 1) (ěb c g (x:=.int i 0) rfl ?_);refine Ì (m:=seqItems? (.ref t)) (Ĝb d f ?_);simp only[ğ,j];refine Ì (ņd (Ì (Ći c g ê ?_)));refine Ì (m:=Ęh łj []) ?_;simp only[Ęh,newTuple];refine Ì Ũp;refine Ì (m:=Àp _ _) (ġj (a:=Ĭb) Œl ?_);refine Ěc ?_ ėi;simp only[Ĉk];refine Ì źn
 first|rw[show ęp=Ã from h]|rw[h]
 refine Ì (ë (Þq ?_));exact l _ _ (((Ĝk).extBut.push _).push _) ⟨_,Ţ _ rfl,rfl⟩
def y0c{it l:Ç}(b:l≠it)(z6:Ô Value):Yo ø w it l (λi h=>üj it l i/\h.IsList l z6) Ĭ òi where
 ŷa:=λi h d st k=>⟨st.1.at λo e=>k it o ŉ e,st.2.at λo e=>k l o Ņc e⟩
 ŋb:=λi st a g=>wpAny_nextOf_list_item st.1 st.2 (x:=z6.getD i .none) Ĥo λd c f=>g d ⟨c,st.2.extBut f.extBut b⟩ f
 done:=λi j st a m=>wpAny_nextOf_list_end j st.1 st.2 (ŧf a) m
def y0d{it l:Ç}(b:l≠it)(z6:Ô Value):Yo ø w it l (λi h=>Ĉp it l i/\ðr l z6) Ĭ òi where
 ŷa:=λi h d st k=>⟨st.1.at λo e=>k it o ŉ e,st.2.at λo e=>k l o Ņc e⟩
 ŋb:=λi st a g=>z1f st.1 st.2 (x:=z6.getD i .none) Ĥo λd c f=>g d ⟨c,st.2.extBut f.extBut b⟩ f
 done:=λi j st a m=>z1e j st.1 st.2 (ŧf a) m
variable{z TI TO i1 i2 l1 l2:Ç}{st1 st2:Nat->Heap->Prop}{n1 n2:Nat}{v1 v2:Nat->Value}{a b:Value}{k:Nat}
def y5z{Q:Value->É->Prop}(D:âf z TI TO i1 i2 l1 l2)(L:Yo ø w i1 l1 st1 n1 v1)(K:Yo ø w i2 l2 st2 n2 v2)(hz:âb Ü z TI TO .none)(P:Ĺa Ü TI Ôf Űg)(U:Ĺa Ü TO a b)(h1:st1 k Ü)(h2:st2 k Ü)(k1:k<n1)(k2:k<n2)(hi1:i1<Õ)(hi2:i2<Õ)(hl1:l1<Õ)(hl2:l2<Õ)(hQ:∀h',âb h' z TI TO (Ŧ Õ)->Ĺa h' TO õe ĭh->st1 Ų h'->st2 Ų h'->Ĺa h' Õ õe ĭh->
   (∀c o,c≠z->c≠TO->c≠i1->c≠i2->ð c=À o->ā c=À o)->Q ĝa { s with á:=h' }) :
  Ó à A šl (λfin s'=>∃v,fin=.done (.ret v)/\Q v s') E s:=by
 refine Ì (m:=Űc úc 2) åm;refine Ì (m:=Űc úc 3) ñm;refine Ì (Ĝb P rfl ?_);refine Ì (m:=Łf úc) ?_;unfold Łf;refine Ì ām;simp only[ŋ];refine Ì śl;refine Ì (ĸd hz ê λha r B=>?_)
 replace r:âb ha z TI TO .ellipsis:=r
 refine Ì ?_;simp only[ŏi,ľo,Ťi,Çp];have h1a:st1 k ha:=Øl k _ _ h1 λc o I e=>çf c o (by rcases I with rfl|rfl;exact ńh;exact D.l1z) e
 refine Ì (Κa (Ì (m:=Āc Ôf) (L.item k h1a k1 λhb Y y=>ë ?_)));have j:Ĺa hb TO a b:=Öf _ _ D.TOi1 (çf _ _ Ņh U);refine Ì (Ĝb j rfl (Ì (Íi j λI h q=>?_)))
 replace h:Ĺa I TO õe b:=h
 refine Ì Ēr
 have h2c:st2 k I:=Ùl k _ _ h2 λc o d e=>by rcases d with rfl|rfl;exact Çe _ _ ıj (Öf _ _ Ŕq (çf _ _ Ńh e));exact Çe _ _ Ýl (Öf _ _ D.l2i1 (çf _ _ D.l2z e))
 refine Ì (Κa (Ì (m:=Āc Űg) (K.item k h2c k2 λhd S C=>ë ?_)));have n:Ĺa hd TO õe b:=æf _ _ D.TOi2 h;refine Ì (Ĝb n rfl (Ì (Íi n λf g u=>?_)))
 replace g:Ĺa f TO õe ĭh:=g
 refine Ì (Ķn æk);refine Ì (Ĝb g rfl (Ì (ći ?_)));have F:Ŝd=Õ:=by rw[u.1,C.1,q.1,y.1,B.1]
 have G:âb f z TI TO .ellipsis:=Űb _ _ Ţj (æf _ _ œq (Çe _ _ Ţj (Öf _ _ šj r)))
 have T:∀c o,c≠z->c≠TO->c≠i1->c≠i2->ð c=À o->Ĝh c=À o:=λc o p H O W e=>
  Űb _ _ H (æf _ _ W (Çe _ _ H (Öf _ _ O (çf _ _ p e))))
 have Z:st1 Ų f:=Øl _ _ _ Y λc o d e=>by rcases d with rfl|rfl;exact Űb _ _ þq (æf _ _ D.i12 (Çe _ _ þq e));exact Űb _ _ D.l1TO (æf _ _ D.l1i2 (Çe _ _ D.l1TO e))
 have X:st2 Ų f:=Ùl _ _ _ S λc o d e=>by rcases d with rfl|rfl;exact Űb _ _ ıj e;exact Űb _ _ Ýl e
 have l:z<Ŝd:=Č G;refine Ì (m:=Òm úc Ér) ?_;unfold Òm;have R:âb (f.push { cls:=.type Ũ,ü:=.seq #[v1 k,v2 k] }) z TI TO .ellipsis:=ċ _ G;refine Ì (ĸd R ê λhg t sg=>?_)
 replace t:âb hg z TI TO ġr:=t
 refine ĸd t ê λJ i sh=>?_
 replace i:âb J z TI TO ġr:=i
 have N:∀c o,c≠z->Ĝh c=À o->Ħh c=À o:=λc o p e=>àr _ _ p (ár _ _ p žd)
 have hT:Ĺa J Ŝd õe ĭh:=àr _ _ (įa l) (ár _ _ (įa l) Üd);rw[F]at i hT;refine ë ⟨_,rfl,?_⟩;show Q Ér _;rw[F];refine hQ J i (N _ _ Ņh g) (Øl _ _ _ Z λc o d e=>N c o ?_ e) (Ùl _ _ _ X λc o d e=>N c o ?_ e) hT λc o p H O W e=>N c o p (T c o p H O W e)
 .rcases d with rfl|rfl
  .exact ńh
  .exact D.l1z
 .rcases d with rfl|rfl
  .exact Ńh
  .exact D.l2z
def y5y{Q:Fin->É->Prop}(N:ğa=Ã)(D:âf z TI TO i1 i2 l1 l2)(I:Yo ø w i1 l1 st1 n1 v1)(S:Yo ø w i2 l2 st2 n2 v2)(hz:âb Ü z TI TO .none)(B:Ĺa Ü TI Ôf Űg)(H:Ĺa Ü TO a b)(Z:st1 k Ü)(Y:st2 k Ü)(R:n1<=k\/n2<=k)(O:∀h' e,(∀c o,c≠z->c≠TO->c≠i1->c≠i2->ð c=À o->ā c=À o)->(∃o,ā e=À o/\àb=.type Ńd)->E áh { s with á:=h' }) :Ó à A šl Q E s:=by
 refine Ì (m:=Űc úc 2) åm;refine Ì (m:=Űc úc 3) ñm;refine Ì (Ĝb B rfl ?_);refine Ì (m:=Łf úc) ?_;unfold Łf;refine Ì ām;simp only[ŋ];refine Ì śl;refine Ì (ĸd hz ê λT g l=>?_)
 replace g:âb T z TI TO .ellipsis:=g
 refine Ì ?_;simp only[ŏi,ľo,Ťi,Çp];have t:st1 k T:=I.keep k _ _ Z λc o F e=>Że c o (by rcases F with rfl|rfl;exact ńh;exact D.l1z) e
 by_cases k1:k<n1;have W:n2<=k:=by omega
 refine Ì (Κa (Ì (m:=Āc Ôf) (I.item k t k1 λC h1b h=>ë ?_)));have i:Ĺa C TO a b:=Þf _ _ D.TOi1 (Że _ _ Ņh H);refine Ì (Ĝb i rfl (Ì (Íi i λF P u=>?_)));refine Ì Ēr
 have L:st2 k F:=S.keep k _ _ Y λc o K e=>by rcases K with rfl|rfl;exact Űb _ _ ıj (Þf _ _ Ŕq (Że _ _ Ńh e));exact Űb _ _ Ýl (Þf _ _ D.l2i1 (Że _ _ D.l2z e))
 refine Ì (Κa (Ì (m:=Āc Űg) (S.done k N L W λhd e U G=>?_)));obtain⟨y,d,f⟩:=G;have q:âb hd z TI TO .ellipsis:=U _ _ œq (Űb _ _ Ţj (Þf _ _ šj g));have j:e≠z:=λx=>by subst x;rw[q]at d;cases d;simp at f
 exact ĸd q ê λJ _ r=>O J e (λc o n X v c4 x=>Àh _ _ n (U _ _ c4 (Űb _ _ X (Þf _ _ v Ġp)))) ⟨y,Àh _ _ j d,f⟩;refine Ì (Κa (Ì (m:=Āc Ôf) (I.done k N t Å λC e h G=>?_)));obtain⟨y,d,f⟩:=G;have p:âb C z TI TO .ellipsis:=h _ _ šj g;have j:e≠z:=λx=>by subst x;rw[p]at d;cases d;simp at f
 exact ĸd p ê λJ _ r=>O J e (λc o n _ v _ x=>Àh _ _ n (h _ _ v Ġp)) ⟨y,Àh _ _ j d,f⟩
omit a
omit L2
namespace L2
open ľ Ŕ ň
def tH(K:Î)(b:Í)(H:Hp)(a:Ç)(xs:Á V):Prop:=match b with
 |Â=>yo K H a xs|Ä=>yL K H a xs
noncomputable def Tg(a:Í):óa:=match a with
 |Â => "tuple_iterator"|Ä => ŝi
def tj(b:Í)(h:Heap)(a:Ç)(its:Ô Value):Prop:=match b with
 |Â=>ðr a its|Ä=>h.IsList a its
def ZN(a:Í)(h:Heap)(it l:Ç)(i:Nat):Prop:=∃o,ĉ it=À o/\àb=.type (Tg a)/\Ýa=.fields #[.ref l,.int i 0]
theorem ZN.at{a:Í}{h h':Heap}{it l:Ç}{i:Nat}(x:ZN a h it l i)(e:∀o,ĉ it=À o->ā it=À o):ZN a h' it l i:=let ⟨o,ho,r⟩:=x;⟨o,e _ ho,r⟩
theorem tj.push{b:Í}{h:Heap}{a:Ç}{its:Ô Value}(x:tj b h a its)(o:Obj):tj b (Íl o) a its:=by cases b;exact Heap.IsList.push x o;exact Heap.IsTuple.push x o
def tj.lt{b:Í}{h:Heap}{a:Ç}{its:Ô Value}(x:tj b h a its):a<ùb:=by cases b;obtain⟨o,e,_⟩:=x;exact Č e;obtain⟨o,e,_⟩:=x;exact Č e
section
variable{ø:æ}{w:Þ}{A:ñ}{E:Value->É->Prop}{s:É}
def OU{b:Í}{it l:Ç}(a:l≠it)(z6:Ô Value):Yo ø w it l (λi h=>ZN b h it l i/\tj b h l z6) Ĭ òi:=by cases b;exact y0c a z6;exact y0d a z6
def bC{a:Í}{l:Ç}{z6:Ô Value}{Q:Value->É->Prop}(h:tj a Ü l z6)(b:Q ĝa { s with á:=åa { cls:=.type (Tg a),ü:=.fields #[.ref l,.int 0 0] } }):Ó à A (ìe ûc) Q E s:=by cases a;exact Ĺd (show Ïj l z6 from h) b;exact âi (show ŝd l z6 from h) b
abbrev Op(t1:Í)(h:Heap)(l1:Ç):Heap:=Íl { cls:=.type (Tg t1),ü:=.fields #[.ref l1,.int 0 0] }
abbrev Oq(t1 t2:Í)(h:Heap)(l1 l2:Ç):Heap:=(Ëq).push { cls:=.type (Tg t2),ü:=.fields #[.ref l2,.int 0 0] }
abbrev Os(t1 t2:Í)(h:Heap)(l1 l2:Ç):Heap:=(Ìo).push { cls:=.type Ũ,ü:=.seq #[.ref ùb,.ref (Ëq).objs.size] }
abbrev Ot(t1 t2:Í)(h:Heap)(l1 l2:Ç):Heap:=(Ëo).push { cls:=.type Ũ,ü:=.seq #[.none,.none] }
abbrev Vk(t1 t2:Í)(h:Heap)(l1 l2:Ç):Heap:=(Ot t1 t2 h l1 l2).push { cls:=.type Ļa,ü:=.fields #[.none,.bool Ä,.bool Ä,.ref (Ìo).objs.size,.ref (Ëo).objs.size] }
def y63(b t2:Í)(a c:Ç)(xs ys:Ô Value) :Meets (Builtin.«zip.__new__» ⟨[.type Ļa,.ref a,.ref c],[]⟩) (λ_ R s=>tj b Ü a xs/\tj t2 Ü c ys/\R (.ok (.ret (.ref (Ot b t2 Ü a c).objs.size))) { s with á:=Vk b t2 Ü a c }):=
 .of_wp λprog w A R s h=>by
  obtain⟨k,g,d,l,n⟩:=s;obtain⟨e,f,h⟩:=h;have m:=sub_zip;have j:tj b (ïq ⟨k,g,d,l,n⟩) a xs:=e;have i:tj t2 (ïq ⟨k.push { cls:=.type (Tg b),ü:=.fields #[.ref a,.int 0 0] },g,d,l,n⟩) c ys:=tj.push f _
  wp_walk using bC j,bC i
  exact⟨_,rfl,h⟩
def lM{b t2:Í}{a d:Ç}{xs ys:Ô Value}{Q:Value->É->Prop}(f:tj b Ü a xs)(g:tj t2 Ü d ys)(h:∀h',âb h' (Õ+4) (Õ+2) (Õ+3) .none->Ĺa h' (Õ+2) ĝa (.ref Ķa)->
   Ĺa h' (Õ+3) .none .none->ZN b h' Õ a 0->ZN t2 h' Ķa d 0->
   (∀c o,ð c=À o->ā c=À o)->Q (.ref (Õ+4)) { s with á:=h' }) :
  Ó à A (Ėb Ĵq [.ref a,.ref d]) Q E s:=by
 refine callType_new F.called_zip Ð (F.typeCall_zip_2 _ _) (F.newCall_zip_2 _ _) (λi=>F.args_object_init_3 i _ _) F.entry_zip_new (y63 b t2 a d xs ys) ⟨f,g,?_⟩;have e:(Op b Ü a).objs.size=Õ+1:=Àb ..;have j:(Oq b t2 Ü a d).objs.size=Õ+2:=by rw[Àb,e]
 have k:(Os b t2 Ü a d).objs.size=Õ+3:=by rw[Àb,j]
 have m:(Ot b t2 Ü a d).objs.size=Õ+4:=by rw[Àb,k]
 have l:(Ľe).get? (Ot b t2 Ü a d).objs.size=À _:=Ţ _ rfl;have p:(Ľe).get? (Os b t2 Ü a d).objs.size=À _:=ċ _ Üd;have q:(Ľe).get? (Oq b t2 Ü a d).objs.size=À _:=ċ _ (ċ _ Üd);have n:(Ľe).get? (Op b Ü a).objs.size=À _:=ċ _ ŀn;have r:(Ľe).get? Õ=À _:=ċ _ (ċ _ ŀn);show _/\_;rw[j,k,m]at l;rw[e,j]at q;rw[k]at p;rw[e]at n;rw[m]
 exact⟨⟨_,l,rfl⟩,h _ l q p ⟨_,r,rfl,rfl⟩ ⟨_,n,rfl,rfl⟩ λc o x=>
  ċ _ (ċ _ (ċ _ (ċ _ (ċ _ x))))⟩
omit a
section
variable{X:Cx}{z8:Á í}{σ:St}{H:Hp}{s:É}
def Inv.WH{b:Í}{a:Ç}{xs:Á V}(I:Inv X z8 σ H s)(h:tH X.K b H a xs):∃its:Á Value,zf xs its/\tj b Ü a Ŷ:=by cases b;obtain⟨its,r,p,_⟩:=Ź h;exact⟨its,r,Áh⟩;obtain⟨its,r,p,_⟩:=òa h;exact⟨its,r,p⟩
def Inv.NA{b:Í}{a:Ç}{xs ys:Á V}(I:Inv X z8 σ H s)(h:tH X.K b H a xs)(h':tH X.K b H a ys):xs=ys:=by cases b;exact I.JM h h';exact I.Lq h h'
def dS{fs ch:Á Ç}{h h':Heap}(k:∀b o,b ∉ ch->ĉ b=À o->ā b=À o):Un fs ch H H h h':=
 ⟨λb o e _ _ a=>k b o a e,λb o e _ _ a=>⟨o.slots,k b o a e⟩,λ_ _ _ n _=>n,λb o e a=>⟨o,k b o a e⟩,λ_ _ z=>z,λ_ _ _ z=>z,λb c e=>⟨#[],by rw[e];simp⟩⟩
def SK{P:æ}{w:Þ}{ch:Á Ç}{h h':Heap}(x:xv P w H h)(f:∀b∈ch,H b=Ã)(k:∀b o,b ∉ ch->ĉ b=À o->ā b=À o):xv P w H h':=λb u e=>by
 have a:∀c v,H c=À v->c ∉ ch:=λc v e z=>by rw[f c z]at e;cases e
 refine(ìk).YU (λc v d q=>k c v ?_ q) łg λ_ _ q=>q
 rcases d with z|z;rw[z];exact a b u e;exact a c _ z
def Inv.but{ch:Á Ç}{h':Heap}{tk:Nat}(I:Inv X z8 σ H s)(c:∀b∈ch,pZ X z8 H b)(k:∀b o,b ∉ ch->ð b=À o->ā b=À o):Inv X z8 σ H { s with á:=h',Ć:=tk }:=
 I.Lh (s':={ s with á:=h',Ć:=tk }) rfl (dS k) ŗm Ûb λb a=>⟨þc.2.2.2.1,þc.2.1,þc.2.2.2.2.1,þc.2.2.2.2.2⟩
def Inv.N5{ch:Á Ç}{h':Heap}{tk:Nat}{T:Ç}{o:HO}(I:Inv X z8 σ H s)(c:∀b∈ch,pZ X z8 H b)(k:∀b o,b ∉ ch->ð b=À o->ā b=À o)(f:ð T=Ã)(e:H T=Ã)(d:xU ö X.w Ţq h' T o):Inv X z8 σ Ţq { s with á:=h',Ć:=tk }:=
 I.Lh (s':={ s with á:=h',Ć:=tk }) rfl (y4v (dS k) f e) (SL ŗm e d) Ûb λb a=>⟨þc.2.2.2.1,þc.2.1,þc.2.2.2.2.1,þc.2.2.2.2.2⟩
omit a
def Mb(K:Î)(c t2:Í)(a b:Ç):It:=
  ⟨λi H=>∃xs ys x y,tH K c H a xs/\tH K t2 H b ys/\xs[i]?=À x/\ys[i]?=À y,
   λi H v d=>∃p,H p=Ã/\v=.ref p/\∀xs ys,tH K c H a xs->tH K t2 H b ys->∃x y,xs[i]?=À x/\ys[i]?=À y/\d=zX H p Ũd,
   λi H=>∃xs ys,tH K c H a xs/\tH K t2 H b ys/\(â<=i\/œ<=i)⟩
def y2s{P:æ}{w:Þ}{K:Î}{Q:Á Ñ}{R:Nat}{pos:Pos}(t1 t2:Í)(a b z TI TO r t:Ç)(D:âf z TI TO r t a b) :ZS P w K (.Tuple Q R pos) śi Ĝp z (λi h=>âb h z TI TO .none/\Ĺa h TI (.ref r) ñf/\(∃u v,Ĺa h TO u v)/\ZN t1 h r a i/\ZN t2 h t b i) where
 mem:=by simp
 obj:=λi h st c d=>by obtain⟨f,j,⟨u,v,p⟩,⟨o4,n,_,d4⟩,⟨o5,m,_,d5⟩⟩:=st;simp only[Ãb,Ėa,Òb]at d;rcases d with rfl|rfl|rfl|rfl|rfl;exact⟨_,f,λv q=>nomatch q⟩;exact⟨_,j,λv q=>nomatch q⟩;exact⟨_,p,λv q=>nomatch q⟩;exact⟨_,n,λv q=>by rw[d4]at q;cases q⟩;exact⟨_,m,λv q=>by rw[d5]at q;cases q⟩
 ŷa:=λi h h' st k=>by obtain⟨f,j,⟨u,v,p⟩,n,m⟩:=st;exact⟨k z ê _ f,k TI ê _ j,⟨u,v,k TO ê _ p⟩,n.at λo e=>k r ê o e,m.at λo e=>k t ê o e⟩
 ŋb:=by
  intro X hP hw hK d i z8 s σ H E I hf st hg;subst hP hw hK;obtain⟨f,j,⟨u,v,p⟩,n,m⟩:=st;obtain⟨xs,ys,x,y,Z,hy,ex,ey⟩:=hg;obtain⟨J,ru,pu⟩:=I.WH Z;obtain⟨L,C,pw⟩:=I.WH hy;obtain⟨xu,Y,rxu⟩:=ru.get ex;obtain⟨yw,U,ryw⟩:=C.get ey;have k1:i<Êp:=by rw[Ĕ];exact(ō Y).1
  have k2:i<Ép:=by rw[Ĕ];exact(ō U).1
  have e1:J.toArray.getD i .none=xu:=by have:=ō Y;obtain⟨l,e⟩:=this;simp[ũd,l,e]
  have e2:L.toArray.getD i .none=yw:=by have:=ō U;obtain⟨l,e⟩:=this;simp[ũd,l,e]
  have N:Ĉb úc Ļa:=⟨_,f,rfl⟩;have q4:r<Õ:=by obtain⟨o,e,_⟩:=n;exact Č e
  have q5:t<Õ:=by obtain⟨o,e,_⟩:=m;exact Č e
  unfold èe
  refine Ì (žf (Įd (ħ:=źa èd) N Ūf (őb Ūf N ėo
   (y5z D ān Ān f j p ⟨n,pu⟩ ⟨m,pw⟩ k1 k2 q4 q5 pu.lt pw.lt λh' a1 a2 a3 a4 a5 a6=>ë ?_) Ăn)))
  rw[e1,e2]at a2 a5;refine⟨_,rfl,wpAny_letOwnedTupleGo_zip (s:={ s with á:=h' }) a1 λA b1 G=>?_⟩
  have hTs:ð Õ=Ã:=by
   cases q:ð Õ with
   |Ã=>rfl|À o=>exact Û Ćh úa
  have S:H Õ=Ã:=řb Ċ;have hTz:Õ≠z:=įa ćh;have tup:Ĩh Õ=À { cls:=.type Ũ,ü:=.seq #[xu,yw] }:=Êe _ _ hTz a5
  have R:∀c o,c ∉ Ĝp->ð c=À o->Ĩh c=À o:=λc o d e=>by simp only[Ãb,Ėa,Òb,ėh]at d;exact Êe _ _ d.1 (a6 c o d.1 d.2.2.1 d.2.2.2.1 d.2.2.2.2 e)
  have new:xU ö X.w (zX H Õ Ũd) A Õ Ũd:=⟨Źm,[xu,yw],.cons rxu (.cons ryw .nil),⟨_,tup,rfl,_,rfl⟩⟩;refine⟨.ref Õ,zX H Õ Ũd,I.N5 (tk:=Ĉ) hf R hTs S new,rfl,⟨Õ,S,rfl,λxs' ys' hx' hy'=>?_⟩,⟨b1,?_,⟨_,_,Êe _ _ Ņh a2⟩,a3.1.at λo e=>Êe _ _ ńh e,a4.1.at λo e=>Êe _ _ Ńh e⟩,λc d=>?_⟩;rw[I.NA hx' Z,I.NA hy' hy];exact⟨x,y,ex,ey,rfl⟩;exact Êe _ _ D.TIz (a6 _ _ D.TIz D.TITO D.TIi1 D.TIi2 j);rw[yP];exact(hf c d).1;intro q
  have O:c<Õ:=by simp only[Ãb,Ėa,Òb]at d;rcases d with rfl|rfl|rfl|rfl|rfl;exact Č f;exact Č j;exact Č p;exact q4;exact q5
  rw[q]at O;exact Û O úa
 done:=by
  intro X hP hw hK d i z8 s σ H E I hf st hg;subst hP hw hK;obtain⟨f,j,⟨u,v,p⟩,n,m⟩:=st;obtain⟨xs,ys,Z,hy,hend⟩:=hg;obtain⟨J,ru,pu⟩:=I.WH Z;obtain⟨L,C,pw⟩:=I.WH hy
  have B:Êp<=i\/Ép<=i:=by have l1:=ru.length;have l2:=C.length;rw[Ĕ,Ĕ];omega
  have N:Ĉb úc Ļa:=⟨_,f,rfl⟩;unfold èe
  refine Ì (žf (Įd (ħ:=źa èd) N Ūf (őb Ūf N ėo
   (y5y (by exact Ōa d) D ān Ān f j p ⟨n,pu⟩ ⟨m,pw⟩ B λh' e R he=>?_) Ăn)))
  obtain⟨o,ho,hcl⟩:=he;refine Ì (íi (T := Ńd) (b:=Â) ⟨o,ho,hcl⟩ ſo ?_);refine ë ⟨rfl,I.but (tk:=Ĉ) hf λc ob g eb=>?_⟩;simp only[Ãb,Ėa,Òb,ėh]at g;exact R c ob g.1 g.2.2.1 g.2.2.2.1 g.2.2.2.2 eb
 Ŵc:=λ_ _ _ _ _ st h=>ąo st.1 h
def y_{a b:Nat}(h:a≠b):@Ne Ç a b:=h
def y60{n a b:Nat}(d:a<n)(c:b<n):âf (n+4) (n+2) (n+3) n Ĝ a b:=
 ⟨y_ Å,y_ Å,y_ Å,y_ Å,y_ Å,y_ Å,y_ Å,y_ Å,y_ Å,y_ Å,y_ Å,y_ Å,y_ Å,y_ Å,y_ Å,y_ Å,y_ Å,y_ Å⟩
def ip:ŧ Ļa=À Ĵq:=by decide +kernel
section
variable{X:Cx}
def SM(K:Î)(d:TA):TI:=λσ H R=>d σ H λe c=>∃a b xs ys t1 t2,e=[.ref a,.ref b]/\tH K t1 c a xs/\tH K t2 c b ys/\R śi c
def z5m{a b:Ñ}{w:TA}{p pos:Pos}{g:Á Ñ}{O:Nat}{L:Pos}(hg:Gl X Ļa)(J:ó Ļa=Ã)(ha:PA X Āe w)(U:Ê ňl q12)(d:Ê þm q12):PI X (.Tuple g O L) ŭh (SM X.K w):=by
 intro A s σ H R I h;refine Ňh (XC I hg J ip (đe (zt (ha pos A s σ H _ I h) λP e ⟨vs,E,i,r1,S⟩=>?_) (by rw[U,d]) (by rw[d];rfl)));obtain⟨l,j,xs,ys,Y,Z,rfl,G,T,q⟩:=S;obtain⟨u,v,rfl,ru,W⟩:=HP r1;cases(show u=Đ l from ru);cases(show v=Đ j from W);obtain⟨P,_,B⟩:=i.WH G;obtain⟨ws,_,y⟩:=i.WH T;have t:=B.lt;have z:=y.lt;refine lM B y λC k o x F m Q=>?_
 have N:Inv X A σ E { e with á:=C }:=i.kept (t':=e.toks) Q;refine ąo (s:={ e with á:=C }) k ?_;generalize hn:ĉo=n at k o x F m t z
 have D:âf (n+4) (n+2) (n+3) n Ĝ l j:=by exact y60 t z
 refine⟨n+4,[n+4,n+2,n+3,n,n+1],_,_,E,rfl,N,y2s Y Z l j (n+4) (n+2) (n+3) n Ĝ D,⟨k,o,⟨_,_,x⟩,F,m⟩,λc r=>?_,q⟩
 have f:ĉo<=c:=by rw[hn];simp only[Ãb,Ėa,Òb]at r;rcases r with rfl|rfl|rfl|rfl|rfl;exact ïb _ _;exact ïb _ _;exact ïb _ _;exact æa _;exact ïb _ _
 exact i.WB f (i.zd.fresh f)
def z6p{a b:Ñ}{e:TA}{p pos:Pos}{c:Á Ñ}{k:Nat}{g:Pos}(l:Gl X Ļa)(f:ó Ļa=Ã)(j:QA X Āe e)(i:Ê Ŵd q12)(d:Ê ūj q12) :QI X (.Tuple c k g) ŭh (SM X.K e):=⟨z5m l f j.h (by rw[uR i,uR d];rfl) æl⟩
omit a
def Pl(a:ýa)(env:Env)(b:Á Āb)(own:Á Str):Í:=
 a.kind == .function&&ĥj (λy=>y.2 != .cell)&&V1 a env b own&&ĥj (λy=>y.2 != .local||ßc y.1==À .local)
def um{X:Cx}{a:ýa}{b:Á Āb}{own:Á Str}(j:ňq a Ö=pure b)(d:Ê (ZG Ö b) q14)(ok:Ê (Pl a Ö b own=Â) q12):YX X a b own:=by unfold Pl at ok;simp only[ć]at ok;obtain⟨⟨⟨i,f⟩,h⟩,g⟩:=ok;refine⟨Ąg i,λy c e=>?_,d,h,j,λy c e=>?_⟩;have:=Ĕa f y c;rw[e]at this;cases this;have:=Ĕa g y c;rw[e]at this;simpa using this
section
variable{X:Cx}(K:Î)(hK:X.K=K)
include hK
omit a
def hJ(K:Î)(a:Ç)(xs:Á V):Prop:=∀H,yo K H a xs
def lz{K:Î}{a:Ç}{xs:Á V}{d:Æ Ç}{its:Ô Value}{n:Nat}{b:Ô ţa}(h:Ça a=À ⟨.type Ũ,d,.seq its n,b⟩)(hz:Ďk<=Ý)(r:zf xs ųe):hJ K a xs:=
 λ_=>.inr ⟨_,its,n,h,rfl,rfl,hz,r⟩
open Builtin Ăq
section
variable{X:Cx}
theorem di:∀{ts:Á Str}{its:Á Value},zf ėr its->∃l:Á (Str×Tok),its=Ür l/\ŵa (·.1)=ts
 | [],_,.nil=>⟨[],rfl,rfl⟩|t::ts,_,.cons r rr=>by obtain⟨k,e⟩:=(show ∃k,_=Ůb t k from r);obtain⟨l,e1,e2⟩:=di rr;subst e e1;exact⟨(t,k)::l,rfl,by rw[Ŗ,e2]⟩
def z6z(K:Î):V->Á V->Hp->VK->Prop:=λx a H Q=>∃(sep:Str) (p:Ç) (ts:Á Str),x=.str sep/\a=Áe/\yL K H p ėr/\(Ďd (·.length)).sum+řg*éd<=Ý/\Q (.str èp) H
def S9(sep:Str):∀ts:Á Str,(èp).length<=(Ďd (·.length)).sum+řg*éd
 | []=>by show(ëd _)<=_;simp[glued,ëd,Ïk]|t::ts=>by
  have h:∀(c:Á Str)(a:Ô Nat),(c.foldl Ņm a).size=ĭ+(c.map (·.length)).sum+ĳa*éd:=λc=>by
   induction c with
   |nil=>intro a;simp|ù u c ih=>intro a;rw[òb,ih];simp only[Ļi,Ŗ,ąg,Ă,ąj,ëd];omega
  show(ts.foldl Ņm t.cps).size<=_;rw[h];simp only[Ŗ,ąg,Ă,ąj,ëd];omega
def z0z:Wr X "str.join" (z6z X.K):=by
 intro m s σ H x P v S Q I G L h;obtain⟨d,p,y,rfl,rfl,O,C,q⟩:=h;obtain⟨t,rfl⟩:=(show ∃t,v=Ůb d t from G);obtain⟨u,rfl,N⟩:=u_ L;cases(show u=Đ p from N);obtain⟨E,r,z,_⟩:=Ź O;obtain⟨l,rfl,j⟩:=di r;have A:Ĉb ŝ đ:=z.isList.typeIs;obtain⟨o,J,R,n,B⟩:=z.isList
 have g:tooLong ((ŵa (·.1)).toArray.foldl (·+·.length+Öa) 0)=Ä:=by rw[j,StrLaws.joinTotal];unfold tooLong;exact Ŏ Å
 have i:(glued d y).length<=Ý:=ŏ (S9 d y) C;refine ßg (čn F.slot_str_join.plain F.entry_str_join (F.slot_str_join.check _ _ _ _ _ _ _ _ (àg _ _ _) (F.args_str_join_2 _ _) ?_));obtain⟨k,e⟩:=join_tree d t p;rw[e];refine Ì (ňd A ?_);rw[Ë Ð];refine Ì (Ĝb J B ?_);show Ó _ _ (joinTail d (Ür l)) _ _ _;rcases l with _|⟨a,_|⟨b,c⟩⟩;subst j;exact Ĉi d [] g ö X.w _ ōh s ⟨i,.str _,H,ßa _,⟨_,rfl⟩,q⟩;subst j;exact Ĉi d [a] g ö X.w _ ōh s ⟨.str _,H,I,⟨_,rfl⟩,q⟩;subst j;exact Ĉi d (a::b::c) g ö X.w _ ōh s ⟨i,.str _,H,ßa _,⟨_,rfl⟩,q⟩
omit a
noncomputable def JV(z:Str):It:=⟨λi _=>i<ī,λi H x a=>a=H/\∃c,ęd[i]?=À c/\x=.str ⟨#[c]⟩,λi _=>ī<=i⟩
section
variable{X:Cx}{tg:Ñ}
def rH(b:TE):TI:=λσ H R=>b σ H λx a=>∃z,x=.str z/\R Ĵh a
def y2q{P:æ}{w:Þ}{K:Î}{it:Ç}{z:Str}{t:Tok}{n:óa}(j:n = Ċn \/ n = Ŷo):ZS P w K tg Ĵh [it] it (λi h=>h.IsStrIter it n z t i/\i<=ī) where
 mem:=by simp
 obj:=λi h st b g=>by
  have e:b=it:=by simpa using g
  subst e;obtain⟨⟨o,e,c,d⟩,_⟩:=st;exact⟨o,e,λv z=>by rw[d]at z;cases z⟩
 ŷa:=λi h f st k=>⟨let ⟨o,ho,r⟩:=st.1;⟨o,k it ê o ho,r⟩,st.2⟩
 ŋb:=by
  intro X R Q N L i T s σ H E I C st F;subst R Q N;obtain⟨G,J,f2,q,B,p⟩:=C it ê;have O:i<ŏj:=F;have l:ęd[i]?=À ęd[i]:=by simp[O]
  have U:∀f y (u:Value),(∃t',u=Ůb ⟨#[ęd[i]]⟩ t')->f.IsStrIter it n z t ï->Ša it Ü f->∃v,À u=À v/\
    Ó ÿ X.A (Žf tg üb v) (λ_ Y=>∃x H',Inv X T σ H' Y/\zw x v/\(Ĵh).ui i H x H'/\(Y.heap.IsStrIter it n z t ï/\i+1<=ī)/\∀b∈[it],H' b=Ã) E { s with á:=f,Ć:=y }:=λf y u Z a m=>by
   obtain⟨t',rfl⟩:=Z;have I1:Inv X T σ H { s with á:=f,Ć:=y }:=ųb (λb o g e=>(m.2 b g).trans e) G J q B p;obtain⟨o,e,c,d⟩:=id a;exact⟨_,rfl,IF (s:={ s with á:=f,Ć:=y }) e c d (by rcases j with rfl|rfl<;>decide) ⟨.str ⟨#[ęd[i]]⟩,H,I1,⟨t',rfl⟩,⟨rfl,_,l,rfl⟩,⟨a,F⟩,λb g=>(C b g).1⟩⟩
  rcases j with rfl|rfl;exact wpAny_pyNext_ascii_item st.1 l λf a m=>U f _ _ ⟨_,rfl⟩ a m;exact wpAny_pyNext_wide_item st.1 l λf a m=>U f _ _ ⟨_,rfl⟩ a m
 done:=by intro X R Q N L i T s σ H E I C st F;subst R Q N;obtain⟨G,J,f2,q,B,p⟩:=C it ê;have l:ęd[i]?=Ã:=ŧf F;rcases j with rfl|rfl;exact wpAny_pyNext_ascii_end (Ōa L) st.1 l λf S=>⟨rfl,ųb (t':=Ĉ) Ën G J q B p⟩;exact wpAny_pyNext_wide_end (Ōa L) st.1 l λf S=>⟨rfl,ųb (t':=Ĉ) Ën G J q B p⟩
 Ŵc:=λ_ _ _ _ _ st h=>by rcases j with rfl|rfl;exact wpAny_pyIter_striter_ascii st.1 h;exact wpAny_pyIter_striter_wide st.1 h
def z5k{e:Ñ}{i:TE}(m:PE X e i):PI X tg e (rH i):=by
 intro j s σ H R I h;refine zt (m j s σ H _ I h) λv a ⟨x,n,g,p,k⟩=>?_
 obtain⟨z,rfl,q⟩:=k;obtain⟨t,rfl⟩:=(show ∃t,v=Ůb z t from p)
 have c:∀(d:óa),(d = Ċn \/ d = Ŷo)->∀o:Obj,(ťe o).IsStrIter Ža d z t 0->Mh X j σ tg R Êr { a with á:=ťe o }:=λd f o st=>
  ⟨Ža,[Ža],_,_,n,rfl,g.kept (t':=ġh) λb o e=>ċ _ e,y2q f,⟨st,Ãa _⟩,λb l=>by
   have e:b=Ža:=by simpa using l
   subst e;exact g.WB Ċ (g.zd.fresh Ċ),q⟩
 cases ha:z.cps.all (·<128);exact wpAny_pyIter_wide ha (c _ Ņc _ ⟨_,Ţ _ rfl,rfl,rfl⟩);exact wpAny_pyIter_ascii ha (c _ ŉ _ ⟨_,Ţ _ rfl,rfl,rfl⟩)
omit a
def cutS(z:Str)(lo hi:Æ Int):Str:=⟨((ĵi (Ļ ī 0 lo)).take ĝm).toArray⟩
def lZ(n:Nat)(lo:Æ Int):(match lo with|Ã=>(0:Int)|À i=>max 0 će)=((Ļ n 0 lo:Nat):Int)\/∃i,lo=À i/\i<0/\(n:Int)<i+n:=by
 cases lo with
 |Ã=>left;rfl|À i=>
  left
  show max 0 će=((Śh:Nat):Int);by_cases h:i<0;simp only[h,ŋ];omega;simp only[h,Õa];omega
def lV(n:Nat)(hi:Æ Int):(match hi with|Ã=>(n:Int)|À i=>max 0 će)=((Ļ n n hi:Nat):Int):=by
 cases hi with
 |Ã=>rfl|À i=>show max 0 će=((Śh:Nat):Int);by_cases h:i<0;simp only[h,ŋ];omega;simp only[h,Õa];omega
def le(n:Nat)(lo:Æ Int):(match lo with|Ã=>(0:Int)|À i=>max 0 će)=((Ļ n 0 lo:Nat):Int):=by rcases lZ n lo with h|⟨i,_,h1,h2⟩;exact h;omega
def aS(z:Str)(lo hi:Æ Int):ľi=(Ía ĝm).map (Ļ ī 0 lo+·):=by have b:=le ī lo;have a:=lV ī hi;rw[<-Żo,<-b,<-a];unfold šf;simp only[show(1:Int)>0 by decide,ŋ];cases lo<;>cases hi<;>rfl
def m4(z:Str)(lo hi:Æ Int):(⟨((ľi).filterMap (ęd[·]?)).toArray⟩:Str)=cutS z lo hi:=by rw[aS,Ċk];rfl
def Ċf(n d:Nat)(a:d<=n)(v:Æ Int):Ļ n d v<=n:=by
 cases v with
 |Ã=>exact a|À i=>show Śh<=n;by_cases h:i<0;simp only[h,ŋ];omega;simp only[h,Õa];omega
def m8(z:Str)(lo hi:Æ Int)(h:(ľi).length=ī):cutS z lo hi=z:=by
 rw[aS,é,īa]at h;have a:=Ċf ī 0 Ąc lo;have b:=Ċf ī ī Ċ hi;unfold cutS;rw[h];have f:Ļ ī 0 lo=0\/ī=0:=by omega
 have d:Ĳn=ī:=by simp[ëd]
 rcases f with q|q;rw[q,List.drop_zero,<-d,Łe];have e:èg=[]:=ėm Å;rw[e];simp;cases z with
 |mk c=>simp[ëd]at q;simp[q]
theorem úf(z:Str)(lo hi:Æ Int):(ëp).length<=ī:=by show(List.toArray _).size<=ŏj;rw[Ĕ,ĕa,řa,Ģ];omega
section
variable{X:Cx}
def aK{v:Value}{lo:Æ Int}(h:ĉc v lo):∃l:Æ (Int×Tok),v=partValue l/\ŵa (·.1)=lo:=by
 cases h with
 |Ã=>exact⟨Ã,rfl,rfl⟩|int i t=>exact⟨À (i,t),rfl,rfl⟩
def bR:V->Æ Int->Æ Int->Hp->VK->Prop:=λx b a H Q=>∃z:Str,x=.str z/\ī<=Ý/\Q (.str (cutS z b a)) H
def z9x:kF X bR:=by
 intro m s σ H x v p j k n o Q I b d i g h;obtain⟨z,rfl,f,q⟩:=h;obtain⟨t,rfl⟩:=(show ∃t,v=Ůb z t from b);obtain⟨l,rfl,rfl⟩:=aK i;obtain⟨u,rfl,rfl⟩:=aK g;refine⟨ģf,_,F.slot_str_getitem.lookup,àg _ _ _,?_⟩;refine wpAny_getItem_str_slice (l:=l) (u:=u) (st:=Ã) d rfl ?_;unfold sliceMade;have c:slicePicked z l u Ã=šf (ŵa (·.1)) (u.map (·.1)) 1 ī:=rfl;rw[c]
 split;rename_i a
 have e:(šf (ŵa (·.1)) (u.map (·.1)) 1 ī).length=ī:=by rw[ć]at a;exact Ąg a.2
 rw[m8 z _ _ e]at q;exact⟨.str z,H,I,⟨_,rfl⟩,q⟩;rw[m4];exact⟨ŏ (úf z _ _) f,.str _,H,ßa _,⟨_,rfl⟩,q⟩
omit a
section
variable{X:Cx}{e o:Ñ}{to:TE}{Ìa ź:Pos}{ħ:Str}{T id:óa}{rm:V->Á V->Hp->VK->Prop}
def z6m(g:Ľg T)(c:Slot T ħ id)(d:ēh õb=pure œf)(e:Wr X id rm)(f:QE X o to)(b:Ê Ľf q12)(a:Ê ŏb q12):QE X Ćn (dA X.K T rm to):=⟨z4q g c d e f.h b a⟩
omit a
omit L2
namespace L2
open ľ Ŕ ň
section
variable{κ:Type}[Ťb κ]
noncomputable def tR(kvs:Á Õb)(k:κ):Æ V:=(kvs.find? λa=>decide (a.1=k)).map (·.2)
noncomputable def ue(kvs:Á Õb)(k:κ)(v:V):Á Õb:=
 if(kvs.any λa=>decide (a.1=k))=Â then öf (λa=>if a.1=k then(a.1,v)else a)else kvs++[(k,v)]
theorem Oh{p:κ×V}{r:Á Õb}{k:κ}(e:p.1=k):tR (p::r) k=À p.2:=by simp[tR,śd,e]
theorem Og{p:κ×V}{r:Á Õb}{k:κ}(e:¬ p.1=k):tR (p::r) k=tR r k:=by simp[tR,śd,e]
theorem de(k:κ):∀kvs:Á Õb,Ćm=(ńg).isSome
 | []=>rfl|p::r=>by rw[šd];by_cases e:p.1=k;simp only[Oh e,Ġ e,Bool.true_or,Option.isSome_some];rw[Og e,Ŏ e,Bool.false_or];exact de k r
def Fy(kvs:Á Õb)(k:κ)(v:V):(Ēj).length<=ŗ+1:=by
 unfold ue
 split;rw[é];omega;rw[ä,Ă,Ód];omega
def uW.JK{o:Æ V}{u:Æ Value}(r:uW o u):o.isSome=u.isSome:=by
 cases o with
 |Ã=>cases u with
  |Ã=>rfl|À _=>exact(show î from r).elim
 |À _=>cases u with
  |Ã=>exact(show î from r).elim|À _=>rfl
theorem uW.getD{o:Æ V}{u:Æ Value}{d:V}{d':Value}(r:uW o u)(a:zw d d'):zw (Ėh d) (u.getD d'):=by
 cases o with
 |Ã=>cases u with
  |Ã=>exact a|À _=>exact(show î from r).elim
 |À _=>cases u with
  |Ã=>exact(show î from r).elim|À _=>exact r
def KV.val{kvs:Á Õb}{vs:Á ŭd}(r:KV kvs vs)(k:κ):uW ńg (Řc vs k):=by
 unfold KV at r
 induction r with
 |nil=>exact Ţa|@cons p q ps qs h t ih=>
  obtain⟨c,d⟩:=h;by_cases e:p.1=k;have a:q.1=k:=ŝp e;have b:Řc čh k=À q.2:=by simp[Řc,śd,a]
  rw[Oh e,b];exact d;have a:¬ q.1=k:=λz=>e (ĸb z)
  have b:Řc čh k=Řc qs k:=by simp[Řc,śd,a]
  rw[Og e,b];exact ih
theorem KV.any{kvs:Á Õb}{vs:Á ŭd}(r:KV kvs vs)(k:κ):Ćm=vs.any λkv=>decide Īk:=by
 unfold KV at r
 induction r with
 |nil=>rfl|ù h t ih=>rw[šd,šd,ih,h.1]
theorem KV.Ln{kvs:Á Õb}{vs:Á ŭd}(r:KV kvs vs)(k:κ){y:V}{u:Value}(b:zw y u) :KV ŗl (Đh λkv=>if kv.1=k then(kv.1,u)else kv):=by
 unfold KV at r ⊢
 induction r with
 |nil=>exact .nil|@cons p q ps qs h t ih=>rw[Ŗ,Ŗ];refine .cons ?_ ih;obtain⟨a,c⟩:=h;by_cases e:p.1=k;rw[Ë e,Ë Ħo];exact⟨a,b⟩;rw[Ï e,Ï Ęn];exact⟨a,c⟩
def KV.put{kvs:Á Õb}{vs:Á ŭd}(r:KV kvs vs)(k:κ){y:V}{u:Value}(a:zw y u):KV Źp (Ťc vs k u):=by unfold ue Ťc;rw[r.any k];by_cases e:(vs.any λb=>decide (b.1=k))=Â;rw[Ë e,Ë e];exact r.Ln k a;rw[Ï e,Ï e];exact ðq r ⟨rfl,a⟩
theorem KV.length{kvs:Á Õb}{vs:Á ŭd}(r:KV kvs vs):ŗ=Ą:=Õj r
omit a
def kU{P:æ}{w:Þ}{k:zR}{u:Value}(r:zw (kV k) u):(Ŵb).is k u=Â:=by
 cases k with
 |inl i=>obtain⟨t,e⟩:=(show ∃t,u=êc i t from r);subst e;exact z0s P w i t
 |inr x=>obtain⟨t,e⟩:=(show ∃t,u=Ůb x t from r);subst e;exact C5 P w x t
theorem Se{P:æ}{w:Þ}:∀{ks:Á zR}{us:Á Value},zf Āg us->ItemsAre Ŵb ks us
 | [],_,r=>by rw[Ēg]at r;cases r;exact .nil|k::ks,_,r=>by
  rw[Ŗ]at r;cases r with
  |ù h t=>exact .cons (kU h) (Se t)
abbrev KT(H:Hp):Á Ŧb->Á Åd->Prop:=ðe λp q=>p.1=q.1/\H q.2.1=À Ŗn/\zw p.2 q.2.2
def KT.val{H:Hp}{kvs:Á Ŧb}{xs:Á Åd}(r:KT H kvs xs)(k:Á zR):uW ńg ((Ėj).map (·.2)):=by
 induction r with
 |nil=>exact Ţa|@cons p q ps qs h t ih=>
  obtain⟨c,_,d⟩:=h;by_cases e:p.1=k;have a:q.1=k:=ŝp e;have b:Īf čh k=À q.2:=by simp[Īf,śd,a]
  rw[Oh e,b];exact d;have a:¬ q.1=k:=λz=>e (ĸb z)
  have b:Īf čh k=Īf qs k:=by simp[Īf,śd,a]
  rw[Og e,b];exact ih
def KT.Ln{H:Hp}{kvs:Á Ŧb}{xs:Á Åd}(r:KT H kvs xs)(k:Á zR){y:V}{u:Value}(d:zw y u) :KT H ŗl (šc (ŀb k u)):=by
 induction r with
 |nil=>exact .nil|@cons p q ps qs h t ih=>rw[Ŗ,Ŗ];refine .cons ?_ ih;obtain⟨a,b,c⟩:=h;unfold ŀb;by_cases e:p.1=k;rw[Ë e,Ë Ħo];exact⟨a,b,d⟩;rw[Ï e,Ï Ęn];exact⟨a,b,c⟩
def KT.put{H:Hp}{kvs:Á Ŧb}{xs:Á Åd}(r:KT H kvs xs)(k:Á zR){b:Ç}{y:V}{u:Value}(d:H b=À Ņi)(a:zw y u) :KT H Źp (storedH xs k b u):=by
 have e:(kvs.any λc=>decide (c.1=k))=(Ėj).isSome:=by rw[de,(r.val k).JK,Úo]
 unfold ue storedH;rw[e];by_cases q:(Ėj).isSome=Â;rw[Ë q,Ë q];exact r.Ln k a;rw[Ï q,Ï q];exact ðq r ⟨rfl,d,a⟩
def KT.keeps{H H':Hp}{kvs:Á Ŧb}{xs:Á Åd}(r:KT H kvs xs)(a:∀b ys,H b=À Ųe->H' b=À Ųe):KT H' kvs xs:=
 Ţg r λ_ _ z=>⟨z.1,a _ _ z.2.1,z.2.2⟩
section
variable{P:æ}{w:Þ}{H:Hp}{h:Heap}{a:Ç}
def ba{u:HO}(ok:xv P w H h)(e:Rd H a u):xU P w H h a u:=e.ok ok
def kO{kvs:Á ķa}(ok:xv P w H h)(e:Rd H a ùa):ŗ<=Ý/\Ŝa=Ä/\∃vs,KV kvs vs/\ßf Ŵb a vs:=
 show xU P w H h a ùa from ba ok e
def mH{kvs:Á ķa}(ok:xv P w H h)(e:H a=À ùa):ŗ<=Ý/\Ŝa=Ä/\∃vs,KV kvs vs/\ßf Ŵb a vs:=kO ok ĸk
def IR{ks:Á zR}(ok:xv P w H h)(e:H a=À Är):(ĥe).is h ks a:=by obtain⟨_,b,r,o,f,c,n,d⟩:=(show xU P w H h a Är from ok a _ e);exact⟨o,āb,n,f,c,d,by simpa using Se r⟩
def T9{kvs:Á Ŧb}(ok:xv P w H h)(e:Rd H a ïc):ŗ<=Ý/\Ŝa=Ä/\
  ∃xs,KT H kvs xs/\ñr ĥe a xs:=by
 obtain⟨z,y,xs,r,o,d,j,n,g,f,i,k⟩:=(show xU P w H h a ïc from ba ok e);refine⟨z,y,xs,r,o,d,j,n,g,f,i,λx b=>?_,k⟩
 have c:∀{l:Á Ŧb} {m:Á Åd},KT H l m->∀x∈m,(ĥe).is h x.1 x.2.1:=by
  intro l m q
  induction q with
  |nil=>intro x b;exact nomatch b|@cons p q ps qs hq t ih=>intro x b;rcases ę b with e|b;subst e;exact IR ok (by rw[<-hq.1];exact hq.2.1);exact ih x b
 exact c r x b
def mS{kvs:Á Ŧb}(ok:xv P w H h)(e:H a=À ïc):ŗ<=Ý/\Ŝa=Ä/\
  ∃xs,KT H kvs xs/\ñr ĥe a xs:=T9 ok ĸk
omit a
def JR(H:Hp)(a:Ç)(y:V)(r:Æ V):Prop:=
 (∃kvs k,Rd H a ùa/\y=kV k/\r=tR kvs k)\/∃kvs k b,Rd H a ïc/\y=.ref b/\H b=À Ņi/\r=tR kvs k
def NE(H:Hp)(a:Ç)(y v:V)(H':Hp):Prop:=
 (∃kvs k,H a=À ùa/\y=kV k/\ŗ<Ý/\H'=zX H a (.dK Ēj)) \/
 ∃kvs k b,H a=À ïc/\y=.ref b/\H b=À Ņi/\ŗ<Ý/\H'=zX H a (.dT Ēj)
section
variable{X:Cx}{z8:Á í}{σ:St}{H:Hp}{s:É}{a:Ç}{y v:V}{u r:Value}{o:Æ V}{A:ñ}{E:Value->É->Prop}
def Inv.big(I:Inv X z8 σ H s):Êj<Õ:=by have h:ă<Õ:=(I.mod.glob.keeps I.bk).lt;exact đg Ð h
def mB{Q:Value->É->Prop}(n:ůa+1<Êa)(I:Inv X z8 σ H s)(g:JR H a y o)(m:zw y u)(h:∀s',Inv X z8 σ H s'->Q (.bool o.isSome) s') :Ó ÿ A (ša .In u ő) Q E s:=by rcases g with⟨i,k,e,d,l⟩|⟨i,k,b,e,d,p,l⟩;subst d;obtain⟨z,j,t,c,f⟩:=kO ĝ e;refine ßq (kU m) j f.mapOf ?_;rw[<-(Ůg).JK,<-l];exact h _ Ċd;subst d;cases(show u=Đ b from m);obtain⟨z,j,r,c,f⟩:=T9 ĝ e;refine wpAny_in_heap (ãi n) (IR ĝ p) j f ?_;have q:=(Ůg).JK;rw[Úo]at q;rw[<-q,<-l];exact h _ Ċd
def RJ{h':Heap}{t':Nat}{d:HO}(I:Inv X z8 σ H s)(i:Um (H a))(h:Ša a Ü h')(f:∃q,ā a=À q)(c:xU ö X.w šq h' a d) :Inv X z8 σ šq { s with á:=h',Ć:=t' }:=
 üf (x:=a) (e:=a) i ŉ (λb q g z=>(h.2 b g).trans z) f c
def D7{P:æ}{w:Þ}{H':Hp}{h':Heap}{kvs:Á ķa}{vs:Á Êb}(z:ŗ<=Ý)(d:Ŝa=Ä)(b:KV kvs vs)(c:ŝg Ŵb a vs) :xU P w H' h' a ùa:=⟨z,d,vs,b,c⟩
def mD{H':Hp}{Q:õa->É->Prop}(R:ůa+1<Êa)(I:Inv X z8 σ H s)(g:NE H a y v H')(C:zw y u)(G:zw v r)(h:∀s',Inv X z8 σ H' s'->Q () s') :Ó ÿ A (Ńk ő u r) Q E s:=by
 rcases g with⟨f,k,e,t,l,n⟩|⟨f,k,b,e,t,F,l,n⟩;subst t n;obtain⟨z,B,N,d,p⟩:=mH ĝ e;have m:Ĺ<=Ý:=by rw[<-Öa];exact z
 have o:(űq).length<=Ý:=by have:=Fy f k v;omega
 refine wpAny_setItem_pairs (hsz:=m) (kU C) p λJ i x=>h _ ?_
 have T:∃q,Ħh a=À q:=let ⟨q,_,_,j,_⟩:=i;⟨q,j⟩;exact RJ I či x T (D7 o B (d.put k G) i);subst t n;cases(show u=Đ b from C);obtain⟨z,B,L,d,p⟩:=mS ĝ e;have m:ïa<=Ý:=by rw[<-Õj d];exact z
 have o:(űq).length<=Ý:=by have:=Fy f k v;omega
 refine wpAny_setItem_heap (hsz:=m) (ãi R) (IR ĝ F) p λJ i x=>h _ ?_
 obtain⟨q,W,U,j,S,P,Y,_,O⟩:=i;refine RJ I či x ⟨q,j⟩ ⟨o,B,_,(d.put k F G).keeps λc Z K=>?_,q,W,U,j,S,P,Y,O⟩;rw[yP (z18 K e Śa)];exact K
omit a
section
variable{X:Cx}{z8:Á í}{σ:St}{H:Hp}{s:É}{a:Ç}{kvs:Á ķa}{A:ñ}{E:Value->É->Prop}
def mC{Q:Value->É->Prop}(I:Inv X z8 σ H s)(e:Rd H a ùa)(h:∀t s',Inv X z8 σ H s'->Q (.int ŗ t) s'):Ó ÿ A (Ėb œd Ôa) Q E s:=by obtain⟨z,d,f,b,c⟩:=kO ĝ e;refine call_len_dict d c (by rw[<-ça];rw[ś]at z;omega) ?_;rw[<-ça];exact h _ _ Ċd
omit a
def mF{X:Cx}{f:Á í}{σ:St}{H:Hp}{s:É}{a:Ç}{y:V}{o:Æ V}(I:Inv X f σ H s)(g:JR H a y o):Ĉb ő Üa:=by rcases g with⟨d,k,e,_,_⟩|⟨d,k,b,e,_,_,_⟩;obtain⟨_,_,i,_,c⟩:=kO ĝ e;exact Èh;obtain⟨_,_,h,_,c⟩:=T9 ĝ e;exact Èh
noncomputable def z7n(g b c:TE):TS:=λD σ H=>c σ H λv e=>g σ e λx f=>b σ f λy d=>∃a H4,x=.ref a/\NE d a y v H4/\éb σ H4
section
variable{X:Cx}{o i e ēb:Ñ}{pos ôa:Pos}{td ty tv:TE}
def ae(e:Ăb+1<Êa)(t:PE X o td)(hi:PE X i ty)(hv:PE X ēb tv)(w:ĳc ēb (À (.Subscript o i ôa)) ňc Ö=pure Ä) :PS X (.Assign [.Subscript o i ôa] ēb pos) (z7n td ty tv):=by intro b s σ H D I h;refine wpAny_Assign_Subscript (zt ōn λr l ⟨v,F,C,z,p⟩=>zt (t b l σ F _ C p) λu E ⟨x,m,c,q,f⟩=>zt (hi b E σ m _ c f) λJ N ⟨y,K,d,k,a,j,G,g,n⟩=>?_) w;subst G;obtain rfl:u=Đ a:=q;exact mD e d g k z λL B=>⟨σ,j,B,n⟩
omit a
def mG{P:æ}{w:Þ}{H:Hp}(h:Heap)(a:Êj<ùb):xU P w H (Íl { cls:=.type Üa,ü:=.dict #[] }) ùb (.dK []):=
 ⟨Ãa _,Őb (Ļb (Ŭ a)),[],.nil,ŀo h⟩
def y13:TE:=λ_ H Q=>∀p,H p=Ã->Q ŝ (Ο (.dK []))
section
variable{X:Cx}{pos:Pos}
def z50:PE X üo y13:=λb s σ H Q I h=>
 wpAny_Dict_empty ⟨.ref Õ,_,Úb (a:=Õ) (o:=.dK []) (t':=Ĉ) ĩi Ċ (mG Ü I.big),rfl,h _ żd⟩
omit a
def kY(kvs a:Á ķa):Á ķa:=a.foldl (λb c=>ue b c.1 c.2) kvs
def KV.merge:∀{more:Á ķa} {rs:Á Êb} {kvs:Á ķa} {vs:Á Êb},KV more rs->KV kvs vs->KV ľp (merged vs rs):=by
 intro more rs kvs vs r;unfold KV at r
 induction r generalizing kvs vs with
 |nil=>intro q;exact q|@cons p q ps qs h t ih=>
  intro a
  have e:KV œi (Ťc vs q.1 q.2):=by have:=a.put p.1 h.2;rw[<-h.1];exact this
  exact ih e
theorem Sv:∀(more kvs:Á ķa),(ľp).length<=ŗ+more.length
 | [],kvs=>by show ŗ<=ŗ+0;omega|p::r,kvs=>by have b:=Sv r œi;have a:=Fy kvs p.1 p.2;show(kY œi r).length<=_;rw[Ă];omega
structure M2(X:Cx)(o:Ñ)(m:Str)(Ìa:Pos)(e f:Ñ)(ź:Pos):Prop where
 È:Ģb o m Ö ĳj=Ę o Ö
 fV:((ŧc ź Őo).all Ķj&&(Ôm).all ío
  && decide (([e,f]:Á Ñ).length+([]:Á Keyword).length+ũl<30))=Â
 line:(apos.endLine==cpos.line)=Â
 trees:ŧc ź Őo=[(Ä,Ę e Ö),(Ä,Ę f Ö)]
def P4(H:Hp)(a:Ç):Prop:=(∃kvs,Rd H a ùa)\/∃kvs,Rd H a ïc
def rX{X:Cx}{j:Á í}{σ:St}{H:Hp}{s:É}{a:Ç}(I:Inv X j σ H s)(d:P4 H a) :Ĉb ő Üa/\(∀b,Đ a=.ref b->∃ob,ð b=À ob/\ob.dict=Ã)/\Ŝa=Ä:=by rcases d with⟨h,e⟩|⟨h,e⟩;obtain⟨_,i,l,_,c⟩:=kO ĝ e;refine⟨Èh,λb q=>?_,i⟩;cases q;obtain⟨ob,_,_,f,g,_⟩:=c;exact⟨ob,f,g.2.1⟩;obtain⟨_,i,k,_,c⟩:=T9 ĝ e;refine⟨Èh,λb q=>?_,i⟩;cases q;obtain⟨ob,_,_,f,g,_⟩:=c;exact⟨ob,f,g.2.1⟩
section
variable{X:Cx}{z8:Á í}{σ:St}{H:Hp}{s:É}{a:Ç}{y d:V}{u r:Value}{o:Æ V}{A:ñ}{E:Value->É->Prop}
def m9{Q:Value->É->Prop}(q:ůa+1<Êa)(I:Inv X z8 σ H s)(g:JR H a y o)(p:zw y u)(n:zw d r)(h:∀w' s',Inv X z8 σ H s'->zw (Ėh d) w'->Q w' s') :Ó ÿ A (Ėb (.builtin "dict.get") [.ref a,u,r]) Q E s:=by rcases g with⟨j,k,e,i,l⟩|⟨j,k,b,e,i,v,l⟩;subst i;obtain⟨z,m,x,c,f⟩:=kO ĝ e;refine śp ùi Åh Ãn Ĉm (meets_dict_get_default Đj a (kU p) m r) ⟨_,f.mapOf,h _ _ Ċd ?_⟩;rw[l];exact(Ůg).getD n;subst i;cases(show u=Đ b from p);obtain⟨z,m,t,c,f⟩:=T9 ĝ e;refine śp ùi Åh Ãn Ĉm (meetsH_dict_get_default (tupleKind Đj) a b m r) ⟨ãi q,k,t,IR ĝ v,f,h _ _ Ċd ?_⟩;rw[l];exact(Ůg).getD n
omit a
noncomputable def y12(g e d:TE):TE:=λσ H Q=>g σ H λx c=>∃a,x=.ref a/\P4 c a/\e σ c λy f=>d σ f λz b=>∃o,JR b a y o/\Q (Ėh z) b
section
variable{X:Cx}{o e f:Ñ}{Ìa ź:Pos}{td ty tx:TE}
def z4z(l:Ăb+1<Êa)(E:PE X o td)(q:PE X e ty)(G:PE X f tx)(m:M2 X o "get" Ìa e f ź):PE X (.Call ũm [e,f] [] ź) (y12 td ty tx):=by
 intro b s σ H Q I h;refine wpAny_Call_method m.base m.fV m.line PySem.F.plainAttrs_dict ùi PySem.F.type_dict_get (zt (E b s σ H _ I h) λu r ⟨x,P,i,C,a,R,d,B⟩=>?_);subst R;obtain rfl:u=Đ a:=C;obtain⟨J,L,_⟩:=rX i d;refine⟨J,L,?_⟩;rw[m.trees]
 refine Äi rfl (Ēn (äi (zt (q b r σ P _ i B) λT O ⟨y,v,j,p,n⟩=>
  äi (zt (G b O σ v _ j n) λU Z ⟨z,t,k,K,Y,g,w⟩=>âo ?_))))
 exact m9 l k g p K λS W N c=>⟨_,t,N,c,w⟩
omit a
omit L2
namespace L3
open ľ
inductive D where
 |zK|bl (b:Í)|int (i:Int)|str (x:Str)|tup (xs:Á D)|lst (xs:Á D)|dic (ks:Á Ň) (vs:Á D)|exc (x:Str)|obj (x:Str) (fs:Á Str) (vs:Á D)
def D.ind{P:D->Prop}(p:P .zK)(o:∀b,P Šc)(f:∀i,P ða)(a:∀x,P ŕc)(j:∀xs,(∀d∈xs,P d)->P ăb)(m:∀xs,(∀d∈xs,P d)->P Ğa)(l:∀ks xs,(∀d∈xs,P d)->P (.dic ks xs))(g:∀x,P (.exc x))(k:∀x fs xs,(∀d∈xs,P d)->P (.obj x fs xs))(d:D):P d:=
 D.rec (motive_1:=P) (motive_2:=λn=>∀d∈n,P d) p o f a (λxs h=>j xs h) (λxs h=>m xs h) (λks xs h=>l ks xs h) g (λx fs xs h=>k x fs xs h) űn
  (λd n r c e q=>by rcases ę q with z|z;exact z▸r;exact c e z) d
mutual
noncomputable def xz:D->D->Í
 |.zK,.zK=>Â|.bl a,.bl b=>a==b|.bl a,.int b=>ğn==b|.int a,.bl b=>a==Źf|.int a,.int b=>a==b|.str a,.str b=>a==b|.tup xs,.tup ys=>Đc xs ys|.lst xs,.lst ys=>Đc xs ys|_,_=>Ä
noncomputable def Đc:Á D->Á D->Í
 | [],[]=>Â|x::xs,y::ys=>xz x y&&Đc xs ys|_,_=>Ä
end
abbrev Sl:=Í×D
abbrev zy:=Á (Æ Sl)
abbrev FE:=zy->Æ D
abbrev FT:=zy->Æ Í
abbrev FA:=zy->Æ Űa
abbrev FG:=D->zy->Æ zy
inductive Fl where
 |nx (σ:zy)|rt (o:Í) (d:D)|bk (σ:zy)|ct (σ:zy)
abbrev FS:=zy->Æ Fl
abbrev yD:Nat:=16777216
noncomputable def z7(i:Nat):FE:=λσ=>match σ[i]? with
 |À ĥc=>À d|_=>Ã
noncomputable def p9(i:Nat):FE:=λσ=>match σ[i]? with
 |À ĕq=>À d|_=>Ã
noncomputable def eC(d:D):FE:=λ_=>À d
noncomputable def e1(F:D->Æ D)(a:FE):FE:=λσ=>(Þa).bind F
noncomputable def e2(F:D->D->Æ D)(a b:FE):FE:=λσ=>(Þa).bind λx=>(öe).bind λy=>F x y
noncomputable def eL(F:Á D->Æ D)(a:FA):FE:=λσ=>(Þa).bind F
noncomputable def zH:FA:=λ_=>À []
noncomputable def zB(a:FE)(r:FA):FA:=λσ=>(Þa).bind λx=>(r σ).bind λb=>À (x::b)
noncomputable def kH:D->Æ Í
 |.bl b=>À b|_=>Ã
def tE(a:FE):FT:=λσ=>(Þa).bind kH
noncomputable def Qd(a b:FT):FT:=λσ=>(Þa).bind λk=>match k with
 |Â=>b σ|Ä=>À Ä
noncomputable def gj(a b:FT):FT:=λσ=>(Þa).bind λk=>match k with
 |Â=>À Â|Ä=>b σ
noncomputable def qJ(a:FT):FT:=λσ=>(Þa).bind λk=>À (!k)
def gK(a b:FE):FE:=λσ=>(Þa).bind λx=>(Ğf).bind λk=>match k with
 |Â=>b σ|Ä=>À û
def TB(a b:FE):FE:=λσ=>(Þa).bind λx=>(Ğf).bind λk=>match k with
 |Â=>À ĸ|Ä=>b σ
def Jv(a:FE):FE:=λσ=>(Þa).bind λx=>(Ğf).bind λk=>À Ôr
noncomputable def j5(c:FT)(a b:FE):FE:=λσ=>(Ęd).bind λk=>match k with
 |Â=>a σ|Ä=>b σ
noncomputable def xX(a:FA):FE:=λσ=>(Þa).bind λb=>À (.tup b)
noncomputable def wC(a:FA):FE:=λσ=>(Þa).bind λb=>À ĵk
noncomputable def yb:D->D->Æ D
 |.int i,.int j=>À Ğg|.int i,.bl b=>À (Ε (i+Źf))|.str x,.str y=>if òc+üd<=yD then À (.str ãl)else Ã|.lst x,.lst y=>if òc+üd<=yD then À Čj else Ã|.tup x,.tup y=>if x.isEmpty=Ä/\òc+üd<=yD then À (.tup ãl)else Ã|_,_=>Ã
noncomputable def fI(C:Int->Int->Í)(g:Int->Int->Int):D->D->Æ D
 |.int i,.int j=>match C i j with
  |Â=>À Îr|Ä=>Ã
 |_,_=>Ã
noncomputable def pA:D->D->Æ D
 |.int i,.int j=>À (Ε (i-j))|_,_=>Ã
noncomputable def Zm(i:Int):Í:=decide (-àh<i)&&decide (i<2 ^ 64)
def TD:D->D->Æ D:=fI (λi _=>Zm i) (·*·)
def TF:D->D->Æ D:=fI (λ_ j=>Zm j) (·*·)
def yc:D->D->Æ D:=fI (λ_ j=>decide (0<j)) (· % ·)
def wY:D->D->Æ D:=fI (λ_ j=>decide (0<j)&&decide (j<2 ^ 64)) (· / ·)
noncomputable def qF(i j:Int):Í:=decide (0<=j)&&(decide (j<=1000000)&&decide (óc<2 ^ 64))
def Rk:D->D->Æ D:=fI qF λi j=>i ^ Èa
def vH:D->D->Æ D:=fI qF λi j=>i*2 ^ Èa
def qB:D->D->Æ D:=fI (λ_ j=>decide (0<=j)) λi j=>i/2 ^ Èa
noncomputable def xq(g:Int->Int->Int):D->D->Æ D
 |.int i,.int j=>À Îr|_,_=>Ã
noncomputable def TH:D->Æ D
 |.int i=>À (Ε (-i))|_=>Ã
noncomputable def V6:D->Æ D
 |.int i=>À (Ε Šk)|_=>Ã
noncomputable def kQ(g:Int->Int->Í):D->D->Æ D
 |.int i,.int j=>À (.bl Ñb)|_,_=>Ã
noncomputable def X9:D->Í
 |.zK=>Â|_=>Ä
def Ze:D->D->Æ D
 |x,.zK=>À (.bl (X9 x))|_,_=>Ã
def J_:D->D->Æ D
 |x,.zK=>À (.bl (!X9 x))|_,_=>Ã
noncomputable def xI:D->Í
 |.zK=>Â|.bl _=>Â|.int _=>Â|.str _=>Â|_=>Ä
noncomputable def p7(f:D->D->Í):Á D->Á D->Í
 |x::xs,y::ys=>f x y&&p7 f xs ys|_,_=>Â
def uN:Nat->D->D->Í
 |0,_,_=>Ä|n+1,x,y=>match x,y with
  |.tup xs,.tup ys=>p7 ĕd xs ys|.lst xs,.lst ys=>p7 ĕd xs ys|x,y=>xI x&&xI y
def Zd:D->D->Æ Í
 |.int _,.bl _=>Ã|.bl _,.int _=>Ã|x,y=>match uN 6 x y with
  |Â=>À (xz x y)|Ä=>Ã
def zg(x y:D):Æ D:=(Zd x y).bind λk=>À æe
def wK(x y:D):Æ D:=(Zd x y).bind λk=>À Ôr
noncomputable def ur:D->Æ Ň
 |.int i=>À ķk|.str x=>À çh|_=>Ã
noncomputable def ą{α:Type}:Á Ň->Á α->Sum Int Str->Æ α
 |k'::ks,v::vs,k=>if k'=k then À v else ą ks vs k|_,_,_=>Ã
noncomputable def vO(ks:Á Ň)(k:Sum Int Str):Í:=ks.any λj=>decide (j=k)
def w_(ks:Á Ň)(k:Sum Int Str):Á Ň:=if vO ks k=Â then ks else ks++[k]
def wL(ks:Á Ň)(vs:Á α)(k:Sum Int Str)(v:α):Á α:=if vO ks k=Â then ķc (λa x=>if a=k then v else x) ks vs else vs++[v]
def Ri(x:D):D->Æ Í
 |.lst ys=>match xI x&&čd xI with
  |Â=>À Ÿf|Ä=>Ã
 |.tup ys=>match xI x&&čd xI with
  |Â=>À Ÿf|Ä=>Ã
 |.str j=>match x with
  |.str i=>À ım|_=>Ã
 |.dic ks _=>(ěf).bind λk=>À (vO ks k)|_=>Ã
def xY(x y:D):Æ D:=(Ri x y).bind λk=>À æe
noncomputable def vw(xs:Á α)(i:Int):Æ α:=if 0<=i then xs[øf]? else if -(â:Int)<=i then xs[(i+â).toNat]? else Ã
def zJ:D->D->Æ D
 |.lst xs,.int i=>vw xs i|.tup xs,.int i=>vw xs i|.str z,.int i=>(Ŭq).bind λc=>À ņi|.dic ks vs,k=>(ur k).bind λk=>ą ks vs k|_,_=>Ã
noncomputable def j6:Á D->Æ D
 | [.lst xs]=>À Ðr| [.tup xs]=>À Ðr| [.str z]=>À Ïr|_=>Ã
noncomputable def Rj:Á D->Æ D
 | [.int i]=>À ða| [.bl k]=>À (Ε (if k then 1 else 0))|_=>Ã
inductive ZU where
 |int|bool|str|list|tuple
noncomputable def ZU.nm:ZU->óa
 |.int => Ŭc|.bool => ćf|.str => ģf|.list => đ|.tuple => Ũ
noncomputable def Tf:ZU->D->Æ Í
 |_,.dic _ _=>Ã|_,.exc _=>Ã|_,.obj _ _ _=>Ã|.int,.int _=>À Â|.int,.bl _=>À Â|.int,_=>À Ä|.bool,.bl _=>À Â|.bool,_=>À Ä|.str,.str _=>À Â|.str,_=>À Ä|.list,.lst _=>À Â|.list,_=>À Ä|.tuple,.tup _=>À Â|.tuple,_=>À Ä
def Zb(T:ZU)(a:FE):FE:=λτ=>(ĳh).bind λd=>(Tf T d).bind λb=>À Šc
noncomputable def uq(a:FE):FA:=λσ=>(Þa).bind λd=>match d with
 |.lst xs=>À xs|.tup xs=>À xs|.str z=>À (Ąo λc=>.str ⟨#[c]⟩)|_=>Ã
noncomputable def vQ(lo hi:FE):FA:=λσ=>(lo σ).bind λx=>(hi σ).bind λy=>match x,y with
 |.int i,.int j=>if óc<=yD/\Ŏc<=yD/\(ĝd).toNat<=yD then À ((Ía (ĝd).toNat).map λk:Nat=>.int Ğd)else Ã|_,_=>Ã
noncomputable def yR(i:Nat):FG:=λd σ=>À (Ξ ĥc)
noncomputable def uE(i j:Nat):FG:=λd σ=>match d with
 |.tup ċc=>À ((Ξ (À (Ä,x))).set j (À (Ä,y)))|_=>Ã
noncomputable def xA:FS:=λσ=>À äh
noncomputable def zc(a b:FS):FS:=λσ=>(Þa).bind λf=>match f with
 |.nx σ'=>b σ'|f=>À f
noncomputable def yF(i:Nat)(e:FE):FS:=λσ=>(ėd).bind λd=>À űo
noncomputable def gf(i:Nat)(e:FE):FS:=λσ=>(ėd).bind λd=>À (.nx (Ξ âc))
noncomputable def yO(e:FE):FS:=λσ=>(ėd).bind λd=>À Ķq
noncomputable def uv(e:FE):FS:=λσ=>(ėd).bind λd=>À ĵq
noncomputable def jp(i:Nat):FS:=λσ=>match σ[i]? with
 |À âc=>À ĵq|_=>Ã
noncomputable def yi(c:FT)(a b:FS):FS:=λσ=>(Ęd).bind λk=>match k with
 |Â=>a σ|Ä=>b σ
noncomputable def gU(g:FG)(b:FS):Á D->zy->Æ Fl
 | [],σ=>À äh|d::r,σ=>(Ŕc).bind λσ1=>(b σ1).bind λf=>match f with
  |.nx σ2=>gU g b r σ2|.ct σ2=>gU g b r σ2|.bk σ2=>À øk|.rt o d=>À ûd
def ge(it:FA)(g:FG)(b:FS):FS:=λσ=>(it σ).bind λa=>gU g b a σ
noncomputable def pL(c:FT)(b:FS):Nat->zy->Æ Fl
 |0,_=>Ã|n+1,σ=>(Ęd).bind λk=>match k with
  |Ä=>À äh|Â=>(öe).bind λf=>match f with
   |.nx σ2=>pL c b n σ2|.ct σ2=>pL c b n σ2|.bk σ2=>À øk|.rt o d=>À ûd
noncomputable def JS:Nat:=100000000
def OG(c:FT)(b:FS):FS:=λσ=>pL c b JS σ
noncomputable def QL(i:Nat):FS:=λσ=>match σ[i]? with
 |À ĕq=>À űo|_=>Ã
noncomputable def bo(i:Nat)(F:D->Æ D):FS:=λσ=>match σ[i]? with
 |À âc=>(F d).bind λa=>À Řm|_=>Ã
noncomputable def Zy(i:Nat)(F:D->D->Æ D)(e:FE):FS:=λσ=>match σ[i]? with
 |À âc=>(ėd).bind λx=>(F d x).bind λa=>À Řm|_=>Ã
noncomputable def Yy:D->D->Æ D
 |.lst xs,y=>if â<yD then À őo else Ã|_,_=>Ã
def VV(i:Nat)(k v:FE):FS:=λσ=>(v σ).bind λy=>match σ[i]? with
 |À (À (Â,.dic ks ds))=>(ıh).bind λx=>(ěf).bind λx=>if Ŀ<yD then À (.nx (Ξ (À (Â,.dic ōr Ûp))))else Ã|_=>Ã
def Yz(ks:Á Ň)(x:D):Æ D:=(ěf).bind λk=>À Ųo
def DA(d k e:FE):FE:=λσ=>(d σ).bind λx=>match x with
 |.dic ks ds=>(ıh).bind λy=>(ėd).bind λz=>(ur y).bind λy=>À ((ą ks ds y).getD z)|_=>Ã
noncomputable def w6(g:FG)(c:FT)(e:FE)(σ:zy):Á D->Æ Űa
 | []=>À []|d::r=>(Ŕc).bind λσ1=>(c σ1).bind λk=>match k with
  |Â=>(ąf).bind λx=>(w6 g c e σ r).bind λa=>À (x::a)|Ä=>w6 g c e σ r
noncomputable def wE:FT:=λ_=>À Â
def vy(n:Nat)(it:FA)(g:FG)(c:FT)(e:FE):FE:=λσ=>(it σ).bind λa=>(w6 g c e ūi a).bind λb=>À ĵk
noncomputable def yS(n:Nat)(b:FS)(ds:Á D):Æ ì:=(b Šl).bind λf=>match f with
 |.rt o d=>À (o,d)|.nx _=>À (Ä,.zK)|_=>Ã
noncomputable def ze(F:Á D->Æ ì)(a:FA):FE:=λσ=>(Þa).bind λb=>(F b).bind λr=>À r.2
noncomputable def vY(F:Á D->Æ ì)(a:FA):FE:=λσ=>(Þa).bind λb=>(F b).bind λr=>match r with
 |(Â,d)=>À d|_=>Ã
def Ju(F:Á D->Æ ì)(a:FA):FE:=λσ=>(ze F a σ).bind λd=>if xI d=Â then À d else Ã
open Ŕ ň L2
abbrev St:=L2.St
def hZ(_:Î)(H:Hp)(a:Ç)(kvs:Á ķa):Prop:=Rd H a ùa
mutual
def zS(K:Î)(H:Hp):D->V->Prop
 |.zK,v=>v=.zK|.bl b,v=>v=.bl b|.int i,v=>v=.int i|.str x,v=>v=.str x/\òc<=Ý|.tup ds,v=>∃a vs,v=.ref a/\yo K H a vs/\ã K H ds vs/\ú<=Ý|.lst ds,v=>∃a vs,v=.ref a/\yL K H a vs/\ã K H ds vs/\ú<=Ý|.dic ks ds,v=>∃a vs,v=.ref a/\hZ K H a ĭb/\Ŀ=Ą/\ã K H ds vs/\ú<=Ý|.exc x,v=>∃a C,v=.ref a/\ş K ă x=À îa/\H a=À (.ext (hU a C))|.obj x fs ds,v=>∃a C dx vs,v=.ref a/\ş K ă x=À îa/\H a=À ìi/\ŧa=Ą/\ã K H ds vs
def ã(K:Î)(H:Hp):Á D->Á V->Prop
 | [],vs=>vs=[]|d::ds,vs=>∃v r,vs=v::r/\zS K H d v/\ã K H ds r
end
section
variable{K:Î}{H H':Hp}
def ŗc{a:Ç}{u:HO}(s:zo H H')(h:Rd H a u):Rd H' a u:=by rcases h with h|⟨o,h⟩;exact .inl (s _ _ h);exact .inr ⟨o,s _ _ h⟩
def uA(s:zo H H')(h:yo K H a xs):yo K H' a xs:=by rcases h with h|h;exact .inl ěr;exact .inr h
def u9(s:zo H H')(h:yL K H a xs):yL K H' a xs:=by rcases h with h|h;exact .inl ěr;exact .inr h
theorem Ād:∀{ds:Á D}{vs:Á V},(∀d∈ds,∀v,zS K H d v->zS K H' d v)->ã K H ds vs->ã K H' ds vs
 | [],_,_,h=>h|d::ds,vs,f,h=>by obtain⟨v,r,rfl,b,c⟩:=h;exact⟨v,r,rfl,f d ĵ v b,Ād (λa m=>f a (Àa _ m)) c⟩
theorem zS.mono(s:zo H H'):∀{d:D}{v:V},zS K H d v->zS K H' d v:=λ{d}=>by refine D.ind (P:=λd=>∀v,zS K H d v->zS K H' d v) (λv h=>h) (λb v h=>h) (λi v h=>h) (λx v h=>h) ?_ ?_ ?_ ?_ ?_ d _;rintro g f v ⟨a,c,e,q,r,l⟩;exact⟨a,c,e,uA s q,Ād f r,l⟩;rintro g f v ⟨a,c,e,q,r,l⟩;exact⟨a,c,e,u9 s q,Ād f r,l⟩;rintro k g f v ⟨a,c,e,q,z,r,l⟩;exact⟨a,c,e,ŗc s q,z,Ād f r,l⟩;rintro x v ⟨a,C,e,n,h⟩;exact⟨a,C,e,n,s _ _ h⟩;rintro x m g f v ⟨a,C,j,c,e,n,h,l,r⟩;exact⟨a,C,j,c,e,n,s _ _ h,l,Ād f r⟩
theorem Reps.mono(s:zo H H'){ds:Á D}{vs:Á V}(h:ã K H ds vs):ã K H' ds vs:=Ād (λ_ _ _=>zS.mono s) h
theorem Ĭj:∀{ds:Á D}{vs:Á V},ã K H ds vs->Ą=ú
 | [],_,h=>by cases(show _=[]from h);rfl|d::ds,_,h=>by obtain⟨v,r,rfl,_,a⟩:=h;rw[Ă,Ă,Ĭj a]
theorem Reps.get:∀{ds:Á D}{vs:Á V}{i:Nat}{d:D},ã K H ds vs->ds[i]?=À d->∃v,vs[i]?=À v/\zS K H d v
 | [],_,_,_,_,e=>by cases e|d::ds,_,0,_,h,e=>by obtain⟨v,r,rfl,a,b⟩:=h;cases e;exact⟨v,rfl,a⟩
 |d::ds,_,i+1,d',h,e=>by obtain⟨v,r,rfl,a,b⟩:=h;exact Reps.get (i:=i) b îb
theorem Reps.at{ds:Á D}{vs:Á V}{i:Nat}{v:V}(h:ã K H ds vs)(e:vs[i]?=À v):∃d,ds[i]?=À d/\zS K H d v:=by
 have l:=ĉb;have a:i<ú:=by rw[<-l];exact Ăf.1
 obtain⟨c,b,r⟩:=h.get (č a);rw[e]at b;cases b;exact⟨_,č a,r⟩
theorem ĭj:∀{ds es:Á D}{vs us:Á V},ã K H ds vs->ã K H es us->ã K H (ds++es) (vs++us)
 | [],_,_,_,h,g=>by cases(show _=[]from h);exact g|d::ds,_,_,_,h,g=>by obtain⟨v,r,rfl,a,b⟩:=h;exact⟨v,_,rfl,a,ĭj b g⟩
def ãf(h:zS K H d v):ã K H [d] [v]:=⟨v,[],rfl,h,rfl⟩
theorem ür:∀{ds:Á D}{vs:Á V}(n:Nat),ã K H ds vs->ã K H (ds.take n) (vs.take n)
 |_,_,0,_=>by rw[øg,øg];rfl| [],_,n+1,h=>by cases(show _=[]from h);rfl|d::ds,_,n+1,h=>by obtain⟨v,r,rfl,a,b⟩:=h;exact⟨v,_,rfl,a,ür n b⟩
theorem ÿr:∀{ds:Á D}{vs:Á V}(n:Nat),ã K H ds vs->ã K H (óh n) (vs.drop n)
 |_,_,0,h=>h| [],_,n+1,h=>by cases(show _=[]from h);rfl|d::ds,_,n+1,h=>by obtain⟨v,r,rfl,b,a⟩:=h;exact ÿr n a
theorem Ãf:∀{ns:Á Int},ã K H Ła Áb
 | []=>rfl|n::ns=>⟨_,_,rfl,rfl,Ãf⟩
omit a
structure zO(G H G' H':Hp):Prop where
 g:zo G G'
 h:zo H H'
 gh:zo G' H'
 new:∀p,G' p≠Ã->G p≠Ã\/H p=Ã
section
variable{G H G0 H0 G1 H1 G2 H2:Hp}{p:Ç}{o:HO}
theorem śa(s:zo G H):zO G H G H:=⟨ūa _,ūa _,s,λ_ h=>.inl h⟩
theorem zO.trans(a:zO G H G1 H1)(b:zO G1 H1 G2 H2):zO G H G2 H2:=⟨Èk b.g,a.h.trans b.h,b.gh,λp h=>by rcases b.new p h with z|z;exact a.new p z;exact .inr (a.h.free z)⟩
def zO.rebase(a:zO G0 H0 G1 H1)(b:zO G1 H0 G2 H2):zO G0 H0 G2 H2:=⟨Èk b.g,b.h,b.gh,λp h=>by rcases b.new p h with z|z;exact a.new p z;exact .inr z⟩
def zO.YS(a:zO G0 H0 G1 H1):zO G1 H0 G1 H1:=⟨ūa _,a.h,a.gh,λ_ h=>.inl h⟩
def HL(h:zX H p o q≠Ã):q=p\/H q≠Ã:=by by_cases e:q=p;exact .inl e;rw[yP e]at h;exact .inr h
def bq(s:zo G H):zo ťq ìd:=λb u e=>by by_cases hb:b=p;subst hb;rw[yk]at e ⊢;exact e;rw[yP hb]at e ⊢;exact s _ _ e
def ŝc(s:zo G H)(h:H p=Ã):zO G H ťq ìd:=⟨vJ (s.free h) o,vJ h o,bq s,λq z=>by rcases HL z with e|e;exact .inr (e▸h);exact .inl e⟩
def ļa(s:zo G H)(h:H p=Ã):zO G H G ìd:=⟨ūa _,vJ h o,s.trans (vJ h o),λ_ z=>.inl z⟩
def zO.wU(a:zO G H G1 H1)(h:H p=Ã)(g:G1 p=Ã)(e:H1 p=À o):zO G H (zX G1 p o) H1:=⟨Èk (vJ g o),a.h,λb u q=>by
 by_cases hb:b=p;subst hb;rw[yk]at q;cases q;exact e;rw[yP hb]at q;exact a.gh _ _ q,λq z=>by
 rcases HL z with w|w;exact .inr (w▸h);exact a.new q w⟩
omit a
def vi(K:Î)(G H:Hp)(d:D)(p:Ç):Prop:=match d with
 |.lst ds=>∃vs,H p=À Ŵr/\ã K G ds vs/\ú<=Ý|.dic ks ds=>∃vs,H p=À Ÿr/\Ŀ=Ą/\ã K G ds vs/\ú<=Ý|_=>î
section
variable{K:Î}{G H G' H':Hp}{d:D}{p:Ç}
def vi.some(h:vi K G H d p):H p≠Ã:=by
 cases d with
 |lst ds=>obtain⟨a,e,_⟩:=h;rw[e];exact λz=>nomatch z
 |dic ks ds=>obtain⟨a,e,_⟩:=h;rw[e];exact λz=>nomatch z
 |_=>exact îe
theorem vi.mono(g:zo G G')(h:zo H H')(o:vi K G H d p):vi K G' H' d p:=by
 cases d with
 |lst ds=>obtain⟨a,e,r,l⟩:=o;exact⟨a,h _ _ e,éa g,l⟩
 |dic ks ds=>obtain⟨a,e,z,r,l⟩:=o;exact⟨a,h _ _ e,z,éa g,l⟩
 |_=>exact Ŧc
def vi.rep(s:zo G H)(o:vi K G H d p):zS K H d ŝ:=by
 cases d with
 |lst ds=>obtain⟨a,e,r,l⟩:=o;exact⟨p,a,rfl,őa e,éa s,l⟩
 |dic ks ds=>obtain⟨a,e,z,r,l⟩:=o;exact⟨p,a,rfl,.inl e,z,éa s,l⟩
 |_=>exact Ŧc
def vi.wU(o:vi K G H d p)(g:G p=Ã):∃u,H p=Option.some u/\zS K Ťq d ŝ:=by
 cases d with
 |lst ds=>obtain⟨a,e,r,l⟩:=o;exact⟨_,e,p,a,rfl,őa yk,éa Öh,l⟩
 |dic ks ds=>obtain⟨a,e,z,r,l⟩:=o;exact⟨_,e,p,a,rfl,.inl yk,z,éa Öh,l⟩
 |_=>exact Ŧc
omit a
structure yA(K:Î)(n:Nat)(G0 H0 G H:Hp)(τ:zy)(σ:St):Prop where
 ext:zO G0 H0 G H
 l1:σ.length=n
 l2:τ.length=n
 fr:∀(i:Nat)(d:D),τ[i]?=À ĥc->∃v,σ[i]?=À Éa/\zS K G d v
 ow:∀(i:Nat)(d:D),τ[i]?=À âc->∃p,σ[i]?=À ŉe/\G p=Ã/\H0 p=Ã/\vi K G H d p
 ap:∀(i j:Nat)(d e:D)(p:Ç),i≠j->τ[i]?=À âc->τ[j]?=À Ŗe->σ[i]?=À ŉe->σ[j]?=À ŉe->î
section
variable{K:Î}{n:Nat}{G0 H0 G H G' H':Hp}{τ:zy}{σ:St}
def yA.go(E:yA K n G0 H0 G H τ σ)(x:zO G H G' H'):yA K n G0 H0 G' H' τ σ:=⟨ýq x,Ĵ,Į,λi d h=>by
 obtain⟨v,e,r⟩:=èb i d h;exact⟨v,e,éa x.g⟩,λi d h=>by
 obtain⟨p,e,g,z,o⟩:=çb i d h;refine⟨p,e,?_,z,o.mono x.g x.h⟩;cases q:G' p with
 |Ã=>rfl|À u=>rcases Ěd p (by rw[q];exact λz=>nomatch z)with w|w;exact Û g w;exact Û w o.some,Æc⟩
theorem yA.YS(E:yA K n G0 H0 G H τ σ):yA K n G H0 G H τ σ:=⟨E.ext.YS,Ĵ,Į,èb,çb,Æc⟩
def yA.near(a:zO G0 H0 Ga Ha)(E:yA K n Ga H0 G H τ σ):yA K n G0 H0 G H τ σ:=⟨a.rebase Ņb,Ĵ,Į,èb,çb,Æc⟩
def yA.lt{i:Nat}{s:Æ Sl}(E:yA K n G0 H0 G H τ σ)(h:τ[i]?=À s):i<n:=by rw[<-Į];exact Ĥa.1
def vS{α:Type}{xs:Á α}{i j:Nat}{x y:α}(h:Ěg[j]?=À y):(j=i/\y=x)\/(j≠i/\xs[j]?=À y):=by
 rw[ĸe]at h;by_cases e:i=j;subst e;rw[Ë rfl]at h
 split at h;cases h;exact .inl ⟨rfl,rfl⟩;cases h;rw[Ï e]at h;exact .inr ⟨λz=>e ÿc,h⟩
def Zi{α:Type}{xs:Á α}{i:Nat}{x:α}(h:i<â):Ěg[i]?=À x:=by rw[ĸe,Ë rfl,Ë h]
theorem uY{α:Type}{xs:Á α}{i j:Nat}{x:α}(h:j≠i):Ěg[j]?=xs[j]?:=by rw[ĸe,Ï (λz=>h ÿc)]
theorem yA.set{i:Nat}{d:D}{v:V}(E:yA K n G0 H0 G H τ σ)(hi:i<n)(r:zS K G d v):yA K n G0 H0 G H Áj ód:=⟨Ņb,by rw[ŭ];exact Ĵ,by rw[ŭ];exact Į,λj e h=>by
 rcases vS h with⟨rfl,z⟩|⟨a,z⟩;cases z;exact⟨v,Zi Ũf,r⟩;rw[uY a];exact èb j e z,λj e h=>by
 rcases vS h with⟨rfl,z⟩|⟨a,z⟩;cases z;rw[uY a];exact çb j e z,λj k e f p g m l=>by
 rcases vS m with⟨rfl,z⟩|⟨a,z⟩;cases z;rcases vS l with⟨rfl,b⟩|⟨c,b⟩;cases b;rw[uY a,uY c];exact Æc j k e f p g z b⟩
def yA.h9{i:Nat}{d:D}{p:Ç}(E:yA K n G0 H0 G H τ σ)(hi:i<n)(t:G p=Ã)(u:H0 p=Ã)(o:vi K G H d p)(s:∀(j:Nat)(e:D),j≠i->τ[j]?=À Ŗe->σ[j]?=À ŉe->î) :yA K n G0 H0 G H (τ.set i âc) ŷf:=⟨Ņb,by rw[ŭ];exact Ĵ,by rw[ŭ];exact Į,λj e h=>by
 rcases vS h with⟨rfl,z⟩|⟨b,z⟩;cases z;rw[uY b];exact èb j e z,λj e h=>by
 rcases vS h with⟨rfl,z⟩|⟨b,z⟩;cases z;exact⟨p,Zi Ũf,t,u,o⟩;rw[uY b];exact çb j e z,λj k e f q m v r c g=>by
 rcases vS v with⟨rfl,z⟩|⟨b,z⟩;rcases vS r with⟨rfl,l⟩|⟨a,l⟩;exact m rfl;rw[Zi Ũf]at c;rw[uY a]at g;cases c;exact s k f a l g;rcases vS r with⟨rfl,l⟩|⟨a,l⟩;rw[Zi Ũf]at g;rw[uY b]at c;cases g;exact s j e b z c;rw[uY b]at c;rw[uY a]at g;exact Æc j k e f q m z l c g⟩
def yA.fY(E:yA K n G0 H0 G H τ σ)(b:H p=Ã):∀(j:Nat)(e:D),j≠i->τ[j]?=À Ŗe->σ[j]?=À ŉe->î:=λj e _ c a=>by obtain⟨q,e1,_,_,o⟩:=çb j e c;rw[a]at e1;cases e1;exact o.some b
def yA.freeze{i:Nat}{b:Í}{d:D}(E:yA K n G0 H0 G H τ σ)(hi:τ[i]?=À ũe):∃G',yA K n G0 H0 G' H Áj σ/\zo G G':=by
 have t:=E.lt hi;cases b with
 |Ä=>
  refine⟨G,?_,ūa _⟩
  have e:τ.set i ĥc=τ:=by apply Õg;intro j;by_cases hj:j=i;subst hj;rw[Zi (by rw[Į];exact t),hi];rw[uY hj]
  rw[e];exact E
 |Â=>obtain⟨p,e,g,z,o⟩:=çb i d hi;obtain⟨u,F,r⟩:=o.wU g;have x:zO G0 H0 Ťq H:=E.ext.wU z g F;refine⟨zX G p u,⟨x,Ĵ,by rw[ŭ];exact Į,λj a h=>?_,λj a h=>?_,λj k e1 f q y J I=>?_⟩,vJ g _⟩;rcases vS h with⟨rfl,w⟩|⟨s,w⟩;cases w;exact⟨_,e,r⟩;obtain⟨v,l,C⟩:=èb j a w;exact⟨v,l,Þl Öh⟩;rcases vS h with⟨rfl,w⟩|⟨s,w⟩;cases w;obtain⟨q,l,A,L,N⟩:=çb j a w;refine⟨q,l,?_,L,N.mono Öh ÿf⟩;rw[yP èk];exact A;subst c;exact Æc i j d a q (λc=>s ée) hi w e l;rcases vS J with⟨rfl,w⟩|⟨s,w⟩;cases w;rcases vS I with⟨rfl,m⟩|⟨B,m⟩;cases m;exact Æc j k e1 f q y w m
omit a
section
variable(X:Cx)
structure SE(e:Ñ)(f:FE):Prop where
 h:∃t,PE X e t/\∀{G0 H0 G H:Hp}{τ:zy}{σ:St}{d:D}{Q:VK},yA X.K ò G0 H0 G H τ σ->f τ=À d->(∀v G' H',zO G H G' H'->zS X.K G' d v->Q v H')->t σ H Q
structure SB(e:Ñ)(f:FE):Prop where
 h:∃t,PE X e t/\∀{G0 H0 G H:Hp}{τ:zy}{σ:St}{d:D}{Q:VK},yA X.K ò G0 H0 G H τ σ->f τ=À d->(∀v G' H',zO G H G' H'->zS X.K H' d v->Q v H')->t σ H Q
structure SF(e:Ñ)(f:FE):Prop where
 h:∃t,PE X e t/\∀{G0 H0 G H:Hp}{τ:zy}{σ:St}{d:D}{Q:VK},yA X.K ò G0 H0 G H τ σ->f τ=À d->(∀p G' H',zO G H G' H'->H p=Ã->G' p=Ã->vi X.K G' H' d p->Q ŝ H')->t σ H Q
structure ST(e:Ñ)(f:FT):Prop where
 h:∃t,PT X e t/\∀{G0 H0 G H:Hp}{τ:zy}{σ:St}{d:Í}{Q:Í->Hp->Prop},yA X.K ò G0 H0 G H τ σ->f τ=À d->(∀G' H',zO G H G' H'->Q d H')->t σ H Q
structure SW(e:Ñ)(f:FT):Prop where
 h:∃t,PW X e t/\∀{G0 H0 G H:Hp}{τ:zy}{σ:St}{d:Í}{Q:Í->Hp->Prop},yA X.K ò G0 H0 G H τ σ->f τ=À d->(∀G' H',zO G H G' H'->Q d H')->t σ H Q
structure SA(es:Á Ñ)(f:FA):Prop where
 h:∃t,PA X es t/\∀{G0 H0 G H:Hp}{τ:zy}{σ:St}{ds:Á D}{Q:Á V->Hp->Prop},yA X.K ò G0 H0 G H τ σ->f τ=À ds->(∀vs G' H',zO G H G' H'->ã X.K G' ds vs->Q vs H')->t σ H Q
structure Us(es:Á Ñ)(f:FA):Prop where
 h:∃t,PA X es t/\∀{G0 H0 G H:Hp}{τ:zy}{σ:St}{ds:Á D}{Q:Á V->Hp->Prop},yA X.K ò G0 H0 G H τ σ->f τ=À ds->(∀vs G' H',zO G H G' H'->ã X.K H' ds vs->Q vs H')->t σ H Q
omit a
def tZ(K:Î)(n:Nat)(b a:Hp)(E:uJ):Fl->Prop
 |.nx τ=>∀σ G H,yA K n b a G H τ σ->E.nx σ H|.bk τ=>∀σ G H,yA K n b a G H τ σ->E.bk σ H|.ct τ=>∀σ G H,yA K n b a G H τ σ->E.ct σ H|.rt Ä d=>∀v G H,zO b a G H->zS K G d v->E.rt v H|.rt Â d=>∀p G H,zO b a G H->a p=Ã->G p=Ã->vi K G H d p->E.rt ŝ H
section
variable(X:Cx)
structure SS(st:Ù)(f:FS):Prop where
 h:∃t,PS X st t/\∀{G0 H0 G H:Hp}{τ:zy}{σ:St}{fl:Fl}{E:uJ},yA X.K ò G0 H0 G H τ σ->f τ=À fl->tZ X.K ò G0 H0 E fl->t E σ H
structure tF(st:Á Ù)(f:FS):Prop where
 h:∃t,uM X st t/\∀{G0 H0 G H:Hp}{τ:zy}{σ:St}{fl:Fl}{E:uJ},yA X.K ò G0 H0 G H τ σ->f τ=À fl->tZ X.K ò G0 H0 E fl->t E σ H
omit a
structure kG(K:Î)(J:It)(G:Hp)(ds:Á D):Prop where
 go:∀i G2 H,zo G G2->zo G2 H->i<ú->J.go i H
 ui:∀i G2 H x H',zo G G2->zo G2 H->i<ú->J.ui i H x H'->∃G3 d,zO G2 H G3 H'/\ds[i]?=À d/\zS K G3 d x
 Ŕa:∀i G2 H,zo G G2->zo G2 H->ú<=i->ĥh i H
structure SI(X:Cx)(tg Ż:Ñ)(f:FA):Prop where
 h:∃wi,PI X tg Ż wi/\∀{G0 H0 G H:Hp}{τ:zy}{σ:St}{ds:Á D}{R:It->Hp->Prop},yA X.K ò G0 H0 G H τ σ->f τ=À ds->(∀J G' H',zO G H G' H'->ú<=Ý->kG X.K J G' ds->R J H')->wi σ H R
noncomputable def vm(K:Î)(F:Á D->Æ ì):Sp:=λa H Q _=>∃G ds o d,zo G H/\ã K G ds a/\F ds=À (o,d)/\
 match o with
 |Ä=>∀v G' H',zO G H G' H'->zS K G' d v->Q v H'|Â=>∀p G' H',zO G H G' H'->H p=Ã->G' p=Ã->vi K G' H' d p->Q ŝ H'
def zD{α β:Type}{o:Æ α}{f:α->Æ β}{b:β}(h:Él f=À b):∃a,o=À a/\f a=À b:=by
 cases o with
 |Ã=>cases h|À a=>exact⟨a,rfl,h⟩
def RV(h:z7 i τ=À d):τ[i]?=À ĥc:=by
 unfold z7 at h
 split at h;rename_i e;cases h;exact e;cases h
def RU(h:p9 i τ=À d):∃b,τ[i]?=À ũe:=by
 unfold p9 at h
 split at h;rename_i b a e;cases h;exact⟨_,e⟩;cases h
section
variable{X:Cx}{x:Str}{p pos:Pos}{e a b c o:Ñ}{es zr:Á Ñ}{f fa fb:FE}{ft fu:FT}{fs:FA}{F:D->D->Æ D}{r:R2}
def SE.sb(h:SE X e f):SB X e f:=⟨let ⟨t,p,k⟩:=h.h;⟨t,p,λE b q=>k E b λv c a x r=>q v c a x (éa Ãc)⟩⟩
def SF.se(h:SF X e f):SE X e f:=⟨let ⟨t,p,k⟩:=h.h;⟨t,p,λE d q=>k E d λp i g x c a o=>by obtain⟨u,b,r⟩:=o.wU a;exact q _ _ _ (x.wU c a b) r⟩⟩
def zM(h:SE X e f):SB X e f:=h.sb
def yg(h:SF X e f):SE X e f:=h.se
def zA(i:Nat)(c:Ê Ød q12)(hv:Ê îd q13)(d:Ê ĺ q10)(a:Ê Ęc q10):SE X Ða (z7 i):=⟨⟨_,XS c hv d a,λE b q=>by obtain⟨v,e,r⟩:=èb _ _ (RV b);exact⟨v,e,q v _ _ ëc r⟩⟩⟩
def GO(i:Nat)(d:Ê Ød q12)(hv:Ê îd q13)(g:Ê ĺ q10)(a:Ê Ęc q10):SB X Ða (p9 i):=⟨⟨_,XS d hv g a,λE f q=>by
 obtain⟨b,c⟩:=RU f;cases b with
 |Ä=>obtain⟨v,e,r⟩:=èb _ _ c;exact⟨v,e,q v _ _ ëc (éa Ńa)⟩
 |Â=>obtain⟨p,e,_,_,o⟩:=çb _ _ c;exact⟨_,e,q _ _ _ ëc (o.rep Ńa)⟩⟩⟩
def QU(h:PE X e ĝf)(r:∀H,zS X.K H d v):SE X e (eC d):=⟨⟨_,h,λE a q=>by cases a;exact q v _ _ ëc (r _)⟩⟩
def zF{i k pos}:SE X (.Constant ða k pos) (eC ða):=QU aM λ_=>rfl
def jq{i k pos}:SE X (.Constant (.bool i) k pos) (eC (.bl i)):=QU z4n λ_=>rfl
def Xd{k pos}:SE X (.Constant .none k pos) Åf:=QU z54 λ_=>rfl
def zn{x k pos}(h:Ê (òc<=1000) q10):SE X (.Constant ŕc k pos) (eC ŕc):=QU z59 λ_=>⟨rfl,Þb h⟩
def v4(h:vF ó x v)(r:∀H,zS X.K H d v)(b:Gl X x)(a:Ê ĺ q10):SE X Ða (eC d):=QU (Iv h b a) r
def uk(K:Î)(r:R2)(F:D->D->Æ D):Prop:=∀G H x y u v d (Q:VK),zo G H->zS K G x u->zS K G y v->F x y=À d->(∀w G' H',zO G H G' H'->zS K G' d w->Q w H')->r u v H Q
def kE(K:Î)(r:R2)(F:D->D->Æ D):Prop:=∀H x y u v d (Q:VK),zS K H x u->zS K H y v->F x y=À d->∃k,d=.bl k/\(Q æe H->r u v H Q)
def zP(j:ym X (Éb op) r)(G:uk X.K r F)(C:SE X a fa)(l:SE X b fb):SE X (.BinOp a op b pos) Ĝg:=by
 obtain⟨L,k,s⟩:=C.h;obtain⟨J,f,A⟩:=l.h;refine⟨⟨_,CV j k f,λE c q=>?_⟩⟩;obtain⟨x,i,c⟩:=zD c;obtain⟨y,o,c⟩:=zD c;refine s E i λv O N e I=>?_
 refine A þf o λu m H d n=>?_
 exact G m H x y v u _ _ d.gh Ìq n c λw t B z p=>q w t B Ģp p
def zW(J:qu X r)(G:uk X.K r F)(C:SE X a fa)(k:SE X b fb)(p:Ê Žq q12):SE X īn Ĝg:=by
 obtain⟨N,j,s⟩:=C.h;obtain⟨L,f,A⟩:=k.h;refine⟨⟨_,Iw J j f (I_ p),λE c q=>?_⟩⟩;obtain⟨x,i,c⟩:=zD c;obtain⟨y,n,c⟩:=zD c;refine s E i λv P O e I=>?_
 refine A þf n λu l H d m=>?_
 exact G l H x y v u _ _ d.gh Ìq m c λw t B z o=>q w t B Ģp o
def uQ(j:ym X (ša op) r)(w:kE X.K r F)(t:SB X a fa)(m:SB X b fb)(i:İc op b=Ä):SE X Śm Ĝg:=by
 obtain⟨H,l,p⟩:=t.h;obtain⟨G,f,s⟩:=m.h;refine⟨⟨_,z4y j l f i,λE c q=>?_⟩⟩;obtain⟨x,g,c⟩:=zD c;obtain⟨y,o,c⟩:=zD c;refine p E g λv J I e B=>?_
 refine s þf o λu C A d n=>?_
 obtain⟨k,rfl,z⟩:=w A x y v u _ _ (B.mono d.h) n c;exact z (q _ _ _ (ýc d) rfl)
def ya(l:ym X (ša op) r)(A:kE X.K r F)(w:SB X a fa)(n:SB X b fb)(j:İc op b=Ä):ST X Śm (tE Ĝg):=by
 obtain⟨I,m,s⟩:=w.h;obtain⟨H,g,t⟩:=n.h;refine⟨⟨_,Cd l m g j,λE d q=>?_⟩⟩;obtain⟨z,c,d⟩:=zD d;obtain⟨x,i,c⟩:=zD c;obtain⟨y,p,c⟩:=zD c;refine s E i λv L J f C=>?_
 refine t Ŕk p λu G B e o=>?_
 obtain⟨k,rfl,z⟩:=A B x y v u _ _ (Þl e.h) o c;cases d;exact z ⟨_,rfl,q _ _ (Žg e)⟩
def uy(h:SE X e f)(b:Ê (aU e=Â) q12):ST X e (tE f):=by
 obtain⟨t,p,k⟩:=h.h;refine⟨⟨_,z68 p (z5u b),λE a q=>?_⟩⟩;obtain⟨z,c,a⟩:=zD a;refine k E c λv d g x r=>?_
 cases z<;>first|cases a|skip
 cases r;exact⟨_,rfl,q _ _ x⟩
def d8(h:ST X a ft):SW X Ýn ft:=⟨let ⟨t,p,k⟩:=h.h;⟨t,z6k p,k⟩⟩
def Ve(h:ST X a ft):SW X āi ft:=⟨let ⟨t,p,k⟩:=h.h;⟨t,bB p,k⟩⟩
def d7(n:ST X a ft)(i:SW X Ĉg fu):SW X Ŧg (Qd ft fu):=by
 obtain⟨r,g,l⟩:=n.h;obtain⟨o,e,m⟩:=i.h;refine⟨⟨_,z6j g e,λE c q=>?_⟩⟩;obtain⟨k,f,c⟩:=zD c;refine l E f λu t d=>?_
 cases k with
 |Â=>exact gS Ìm|Ä=>cases c;exact gR Ŗr
def Vd(n:ST X a ft)(i:SW X ŕe fu):SW X Éf (gj ft fu):=by
 obtain⟨r,g,l⟩:=n.h;obtain⟨o,e,m⟩:=i.h;refine⟨⟨_,bA g e,λE c q=>?_⟩⟩;obtain⟨k,f,c⟩:=zD c;refine l E f λu t d=>?_
 cases k with
 |Ä=>exact gR Ìm|Â=>cases c;exact gS Ŗr
def Y6(h:SW X e ft):ST X e ft:=⟨let ⟨t,p,k⟩:=h.h;⟨t,p.pt,k⟩⟩
def gi(h:ST X a ft):ST X Ůf (qJ ft):=by obtain⟨g,d,f⟩:=h.h;refine⟨⟨_,z67 d,λE b q=>?_⟩⟩;obtain⟨k,c,b⟩:=zD b;cases b;exact f E c λj i e=>q _ _ e
def Xe{op}(h:SE X a f):SE X ĭn f:=⟨let ⟨t,p,k⟩:=h.h;⟨t,z56 p,k⟩⟩
def Cu{K:Î}{G:Hp}{z:D}{v:V}{k:Í}(r:zS K G z v)(h:kH z=À k):v=.bl k:=by
 cases z<;>first|cases h|skip
 exact r
def QT(p:SE X a fa)(i:SE X Ĉg fb):SE X Ŧg (gK fa fb):=by
 obtain⟨u,g,m⟩:=p.h;obtain⟨s,e,o⟩:=i.h;refine⟨⟨_,z4m g e,λE c q=>?_⟩⟩;obtain⟨z,n,c⟩:=zD c;obtain⟨k,f,c⟩:=zD c;refine m E n λv y x d r=>⟨k,Cu r f,?_⟩
 cases k with
 |Â=>exact gS Ŗl|Ä=>cases c;exact gR řo
def cG(p:SE X a fa)(i:SE X ŕe fb):SE X Éf (TB fa fb):=by
 obtain⟨u,g,m⟩:=p.h;obtain⟨s,e,o⟩:=i.h;refine⟨⟨_,z57 g e,λE c q=>?_⟩⟩;obtain⟨z,n,c⟩:=zD c;obtain⟨k,f,c⟩:=zD c;refine m E n λv y x d r=>⟨k,Cu r f,?_⟩
 cases k with
 |Ä=>exact gR Ŗl|Â=>cases c;exact gS řo
def z95(f:SE X a fa):SE X Ůf (Jv fa):=by obtain⟨l,d,g⟩:=f.h;refine⟨⟨_,z55 d,λE b q=>?_⟩⟩;obtain⟨z,i,b⟩:=zD b;obtain⟨k,c,b⟩:=zD b;cases b;exact g E i λv n m e j=>⟨k,Cu j c,q _ _ _ e rfl⟩
def Xc(n:ST X c ft)(u:SE X a fa)(m:SE X b fb):SE X Ðo (j5 ft fa fb):=by
 obtain⟨w,pc,r⟩:=n.h;obtain⟨y,l,p⟩:=u.h;obtain⟨x,i,s⟩:=m.h;refine⟨⟨_,z52 pc l i,λE d q=>?_⟩⟩;obtain⟨k,j,d⟩:=zD d;refine r E j λA z e=>?_
 cases k with
 |Â=>exact gS (p þf d λv o t g f=>q v _ _ (ýc g) f)|Ä=>exact gR (s þf d λv o t g f=>q v _ _ (ýc g) f)
def zL:SA X [] zH:=⟨⟨_,XR,λE a q=>by cases a;exact q _ _ _ ëc rfl⟩⟩
def zC(p:SE X e f)(s:SA X es fs)(h:Ê Ća q12):SA X ď ńr:=by
 obtain⟨y,k,n⟩:=p.h;obtain⟨w,i,o⟩:=s.h;refine⟨⟨_,Zt k i h,λE a q=>?_⟩⟩;obtain⟨x,j,a⟩:=zD a;obtain⟨t,b,a⟩:=zD a;cases a;refine n E j λv B z d r=>o ŕk b λl u A c m=>?_
 exact q _ _ _ Şc ⟨v,l,rfl,éa c.g,m⟩
def qd:Us X [] zH:=⟨⟨_,XR,λE a q=>by cases a;exact q _ _ _ ëc rfl⟩⟩
def qH(o:SB X e f)(r:Us X es fs)(h:Ê Ća q12):Us X ď ńr:=by
 obtain⟨w,j,m⟩:=o.h;obtain⟨u,g,n⟩:=r.h;refine⟨⟨_,Zt j g h,λE a q=>?_⟩⟩;obtain⟨x,i,a⟩:=zD a;obtain⟨s,b,a⟩:=zD a;cases a;refine m E i λv A y d p=>n ŕk b λk t z c l=>?_
 exact q _ _ _ Şc ⟨v,k,rfl,Èl c.h,l⟩
def z7r(h:źb es=À is):SA X es (λ_=>À Áq):=⟨⟨_,aI h,λE a q=>by cases a;exact q _ _ _ ëc Ãf⟩⟩
def wD{x1}(h:SA X es fs)(i:∀τ ds,fs τ=À ds->ú<=1000):SE X Ïo (xX fs):=by
 obtain⟨t,g,k⟩:=h.h;refine⟨⟨_,aQ g,λE a q=>?_⟩⟩;obtain⟨e,b,a⟩:=zD a;cases a;have l:Đk<=Ý:=Þb (i _ _ b);refine k E b λf m j x1 d=>⟨by rw[Öa];exact l,λp c=>?_⟩
 exact q _ _ _ (x1.trans (ŝc x1.gh c)) ⟨p,f,rfl,ŭc yk,d.mono (vJ (x1.gh.free c) _),l⟩
def wu(h:SA X es fs)(j:∀τ ds,fs τ=À ds->ú<=1000):SF X üp (wC fs):=by
 obtain⟨t,i,k⟩:=h.h;refine⟨⟨_,aN i,λE c q=>?_⟩⟩;obtain⟨f,d,c⟩:=zD c;cases c;have l:ŏc<=Ý:=Þb (j _ _ d);refine k E d λg n m a e=>⟨by rw[Đk];exact l,λp b=>?_⟩
 exact q _ _ _ (a.trans (ļa a.gh b)) (a.h.free b) (a.gh.free b) ⟨g,yk,e,l⟩
def yK:∀(τ:zy) ds,zH τ=À ds->ú<=0:=λ_ _ h=>by cases h;exact æa _
def zQ(h:∀τ ds,fs τ=À ds->ú<=n):∀τ ds,zB f fs τ=À ds->ú<=n+1:=λτ ds e=>by obtain⟨x,_,e⟩:=zD e;obtain⟨b,a,e⟩:=zD e;cases e;exact ŕb (h _ _ a)
def iC{is:Á Int}{n:Nat}(h:is.length<=n):∀(τ:zy) ds,(À Áq)=À ds->ú<=n:=λ_ _ e=>by cases e;rw[é];exact h
def yI(h:∀τ ds,fs τ=À ds->ú<=m)(a:m<=n):∀τ ds,fs τ=À ds->ú<=n:=λτ ds e=>ŏ (h τ ds e) a
variable{ps:Á Str}{j k:Nat}{FF:Á D->Æ ì}{FL:Á D->Æ D}{id T:óa}
def uw(h:wW ö X.w X.K ó Ō x ps k Ūe)(f:yX j X.A)(u:Gl X x)(B:SA X ď fs)(hk:Ê Àc q10)(b:Ê ĺ q10)(z:Ê Īa q12):SF X Ÿa (vY FF fs):=by
 obtain⟨t,r,s⟩:=B.h;refine⟨⟨_,Ix h f u r hk b z,λE a q=>?_⟩⟩;obtain⟨g,C,a⟩:=zD a;obtain⟨⟨o,d⟩,f,a⟩:=zD a;cases o with
 |Ä=>cases a|Â=>
  cases a;refine s E C λG F H c v=>⟨F,g,Â,_,Ĥd,by rw[ëa];exact v,f,λp n y m l i o=>?_⟩
  exact q p n y (ĸb m) (ēk l) i o
def yG(h:wW ö X.w X.K ó Ō x ps k Ūe)(g:yX j X.A)(B:Gl X x)(H:SA X ď fs)(hk:Ê Àc q10)(c:Ê ĺ q10)(G:Ê Īa q12):SE X Ÿa (ze FF fs):=by
 obtain⟨t,y,z⟩:=H.h;refine⟨⟨_,Ix h g B y hk c G,λE a q=>?_⟩⟩;obtain⟨n,I,a⟩:=zD a;obtain⟨⟨o,d⟩,g,a⟩:=zD a;cases a;refine z E I λL J N f F=>⟨J,n,o,d,f.gh,by rw[ëa];exact F,g,?_⟩
 cases o with
 |Ä=>exact λv l m b r=>q v l m (Žg b) r|Â=>intro p l m b s i o;obtain⟨u,C,r⟩:=o.wU i;exact q _ _ _ (Žg (b.wU s i C)) r
def z90(h:wW ö X.w X.K ó Ō x ps k Ūe)(l:yX j X.A)(B:Gl X x)(H:Us X ď fs)(hk:Ê Àc q10)(i:Ê ĺ q10)(F:Ê Īa q12):SE X Ÿa (Ju FF fs):=by
 obtain⟨t,u,y⟩:=H.h;refine⟨⟨_,Ix h l B u hk i F,λE a q=>?_⟩⟩;obtain⟨O,b,a⟩:=zD a;obtain⟨s,J,b⟩:=zD b;obtain⟨⟨o,d⟩,l,b⟩:=zD b;cases b;by_cases fl:xI d=Â;rw[Ë fl]at a;cases a;refine y E J λP L I m C=>⟨I,s,o,d,ūa _,by rw[ëa];exact C,l,?_⟩
 have c:∀{G f:Hp}{v:V},zS X.K G d v->zS X.K f d v:=λ{G f v} r=>by cases d<;>first|exact r|exact Û fl ģ
 cases o with
 |Ä=>exact λv f n g r=>q v L n (Õe ⟨ūa _,g.h,m.gh.trans g.h,λ_ z=>.inl z⟩) (c r)|Â=>intro p f n g Q N o;cases d<;>first|exact Ŧc|exact Û fl ģ
 rw[Ï fl]at a;cases a
def Up(K:Î)(r:Á V->Hp->VK->Prop)(F:Á D->Æ D):Prop:=∀G H ds vs d (Q:VK),zo G H->ã K H ds vs->F ds=À d->(∀w G' H',zO G H G' H'->zS K G' d w->Q w H')->r vs H Q
def P5(K:Î)(r:Á V->Hp->VK->Prop)(F:Á D->Æ D):Prop:=∀G H ds vs d (Q:VK),zo G H->ã K G ds vs->F ds=À d->(∀w G' H',zO G H G' H'->zS K G' d w->Q w H')->r vs H Q
def jF(l:vA X õb rc)(y:Up X.K rc FL)(r:Gl X x)(g:ó x=Ã)(hv:ŧ x=À õb)(A:Us X ď fs)(v:Ê ġb q10)(a:Ê ĺ q10)(u:Ê Īa q12):SE X Ÿa Ÿq:=by obtain⟨t,n,o⟩:=A.h;refine⟨⟨_,(O6 l r g hv ⟨n⟩ v a u).h,λE b q=>?_⟩⟩;obtain⟨d,f,b⟩:=zD b;exact o E f λi C z c B=>y C z d i _ _ Ĥd B b λw m s k j=>q w m s (ĸb k) j
def cF(l:vA X îc rc)(y:P5 X.K rc FL)(r:Gl X x)(g:ó x=Ã)(hv:ŧ x=À îc)(A:SA X ď fs)(v:Ê ġb q10)(a:Ê ĺ q10)(u:Ê Īa q12):SE X Ÿa Ÿq:=by obtain⟨t,n,o⟩:=A.h;refine⟨⟨_,(XU l r g hv ⟨n⟩ v a u).h,λE b q=>?_⟩⟩;obtain⟨d,f,b⟩:=zD b;exact o E f λi C z c B=>y C z d i _ _ Ĥd B b λw m s k j=>q w m s (ĸb k) j
def OJ(f:Uv X (ëh op) ru)(k:∀(G H:Hp) x u d (Q:VK),zS X.K G x u->F1 x=À d->∃w,(∀G,zS X.K G d w)/\(Q w H->ru u H Q))(m:SE X a fa):SE X (.UnaryOp op a pos) (e1 F1 fa):=by
 obtain⟨t,g,i⟩:=m.h;refine⟨⟨_,z5a f g,λE c q=>?_⟩⟩;obtain⟨x,e,c⟩:=zD c;refine i E e λv o l j n=>?_
 obtain⟨w,b,z⟩:=k o l x v _ _ n c;exact z (q w _ _ j (b _))
omit a
section
variable{X:Cx}{x:Str}{p pos ôa:Pos}{e a b c tg Ż:Ñ}{f fa fb:FE}{ft:FT}{fs:FA}{st:Ù}{sts Ēc:Á Ù}{g g':FS}
def xS:tF X [] xA:=⟨⟨_,ak,λ{_ _ G H τ σ b E} K a q=>by cases a;exact q σ G H K⟩⟩
theorem ïh{K:Î}{n:Nat}{e b:Hp}{E c:uJ}{a:Fl}(h:tZ K n e b E a)(l:∀τ,a=.nx τ->tZ K n e b c (.nx τ))(i:∀τ,a=.bk τ->tZ K n e b c (.bk τ))(k:∀τ,a=.ct τ->tZ K n e b c (.ct τ))(f:c.rt=E.rt):tZ K n e b c a:=by
 cases a with
 |nx τ=>exact l τ rfl|bk τ=>exact i τ rfl|ct τ=>exact k τ rfl|rt o d=>
  cases o with
  |Ä=>intro v G H x r;rw[f];exact h v G H x r|Â=>intro v G H x g j m;rw[f];exact h v G H x g j m
def zk(b:SS X st g)(e:tF X sts g'):tF X ñk (zc g g'):=by
 obtain⟨t,p,k⟩:=b.h;obtain⟨l,c,i⟩:=e.h;refine⟨⟨_,O1 p c,λ{u r G H τ σ n E} K a q=>?_⟩⟩;obtain⟨f,b,a⟩:=zD a;refine k K b ?_;cases f with
 |nx τ'=>exact λσ' m s j=>i j a q|bk τ'=>cases a;exact q|ct τ'=>cases a;exact q|rt o d=>cases a;exact ïh q œb œb œb rfl
def zj(a:SS X st g):tF X [st] g:=⟨let ⟨t,p,k⟩:=a.h;⟨t,Cc p,k⟩⟩
def y0n(i:Nat)(h:tF X sts g):tF X sts (zc (QL i) g):=by
 obtain⟨t,p,k⟩:=h.h;refine⟨⟨t,p,λ{n m G H τ σ l E} K b q=>?_⟩⟩;obtain⟨o,a,b⟩:=zD b;unfold QL at a
 split at a;rename_i f d c;cases a;obtain⟨j,e,_⟩:=K.freeze c;exact k e b q;cases a
def yj(l:Ņa)(hi:X.N[i]?=À x)(b:pf ĭa x)(j:SE X e f)(g:Ê Źe q12)(a:Ê ęb q7) :SS X Ōf (yF i f):=by obtain⟨t,p,k⟩:=j.h;refine⟨⟨_,(O7 l hi b ⟨p⟩ g a).h,λ{u o G H τ σ n E} K a q=>?_⟩⟩;obtain⟨d,c,a⟩:=zD a;cases a;exact k K c λv m s x r=>q _ _ _ ((Œk).set ąb.1 r)
def Xj(n:Ņa)(hi:X.N[i]?=À x)(j:pf ĭa x)(m:SF X e f)(l:Ê Źe q12)(a:Ê ęb q7) :SS X Ōf (gf i f):=by
 obtain⟨t,p,k⟩:=m.h;refine⟨⟨_,(O7 n hi j ⟨p⟩ l a).h,λ{w u G H τ σ s E} K a q=>?_⟩⟩;obtain⟨d,g,a⟩:=zD a;cases a;refine k K g λp r v x b c o=>q _ _ _ ((Œk).h9 ąb.1 c (ēg b) o ?_)
 exact K.fY b
def yW(c:SE X e f):SS X Űf (yO f):=by obtain⟨t,p,k⟩:=c.h;refine⟨⟨_,Q5 p,λ{m j G H τ σ i E} K a q=>?_⟩⟩;obtain⟨d,b,a⟩:=zD a;cases a;exact k K b λv g l x r=>q v _ _ ŭo r
def qg(i:SF X e f):SS X Űf (uv f):=by obtain⟨t,p,k⟩:=i.h;refine⟨⟨_,Q5 p,λ{r m G H τ σ l E} K a q=>?_⟩⟩;obtain⟨d,c,a⟩:=zD a;cases a;exact k K c λp j n x g b o=>q p _ _ ŭo (ēg g) b o
def Xi(i:Nat)(h:Ê Ød q12)(hv:Ê îd q13)(c:Ê ĺ q10)(b:Ê Ęc q10):SS X ûo (jp i):=by
 refine⟨⟨_,Q5 (XS h hv c b),λ{l k G H τ σ j E} K a q=>?_⟩⟩;unfold jp at a
 split at a;rename_i d f;cases a;obtain⟨p,e,g,z,o⟩:=K.ow _ _ f;exact⟨_,e,q p _ _ K.ext z g o⟩;cases a
def xO(j:ST X c ft)(o:tF X sa g)(i:tF X sb g'):SS X (.If c sa sb pos) (yi ft g g'):=by
 obtain⟨p,pc,m⟩:=j.h;obtain⟨u,f,l⟩:=o.h;obtain⟨r,d,n⟩:=i.h;refine⟨⟨_,ah pc f d,λ{v t G H τ σ s E} K a q=>?_⟩⟩;obtain⟨k,e,a⟩:=zD a;refine m K e λx w b=>?_
 cases k with
 |Â=>exact gS (l (ÿa b) a q)|Ä=>exact gR (n (ÿa b) a q)
def Qc:tF X sts Ńc:=⟨⟨_,z66,λ_ a=>by cases a⟩⟩
def y0m{ft:FT}(u:Źd ÿ X.A Ö ġ)(v:ST X c ft)(t:tF X Ēc g):SS X (.While c Ēc [] pos) (OG ft g):=by
 obtain⟨I,pc,x⟩:=v.h;obtain⟨J,r,y⟩:=t.h;refine⟨⟨_,z65 u pc r,λ{p i G H τ σ f E} K a q=>?_⟩⟩;refine⟨λm σ H=>∃τ G,yA X.K ò p i G H τ σ/\pL ft g m τ=À f,⟨JS,τ,G,K,a⟩,?_⟩;rintro m σ H ⟨τ,G,K,a⟩;cases m with
 |áa=>cases a|âa n=>
  obtain⟨k,s,a⟩:=zD (show(ft τ).bind _=_ from a);refine x K s λO L j=>?_
  cases k with
  |Ä=>cases a;exact gR (q _ _ _ œk)|Â=>
   obtain⟨B,F,a⟩:=zD (show(g τ).bind _=_ from a);refine gS ⟨λσ' l=>∃τ G,yA X.K ò p i G l τ σ'/\pL ft g n τ=À f,λσ' l z=>⟨n,żc n,z⟩,y œk F ?_⟩;cases B with
   |nx τ2=>exact λσ2 b C e=>⟨τ2,b,e,a⟩|ct τ2=>exact λσ2 b C e=>⟨τ2,b,e,a⟩|bk τ2=>cases a;exact q|rt o d=>cases a;exact ïh q œb œb œb rfl
theorem tZ.near{K:Î}{n:Nat}{e a c g:Hp}{E:uJ}{b:Fl}(x:zO e a c g)(h:tZ K n e a E b):tZ K n c a E b:=by
 cases b with
 |nx τ=>exact λσ G H z=>h σ G H âj|bk τ=>exact λσ G H z=>h σ G H âj|ct τ=>exact λσ G H z=>h σ G H âj|rt o d=>
  cases o with
  |Ä=>exact λv G H y r=>h v G H đj r|Â=>exact λp G H y f i j=>h p G H đj f i j
structure SG(X:Cx)(tg:Ñ)(fg:FG):Prop where
 h:∃t,PG X tg t/\∀{G0 H0 G H:Hp}{τ τ':zy}{σ:St}{d:D}{v:V}{Q:St->Hp->Prop},yA X.K ò G0 H0 G H τ σ->zS X.K G d v->fg d τ=À τ'->(∀σ',yA X.K ò G0 H0 G H τ' σ'->Q σ' H)->t v σ H Q
def VY(h:QG X Ða ũc)(hi:X.N[i]?=À x):SG X Ða (yR i):=⟨⟨_,h.h,λK r a q=>by cases a;exact q _ Ŭo⟩⟩
def z9m(h:QG X řn ċe)(hi:X.N[i]?=À x)(m:X.N[j]?=À y):SG X řn (uE i j):=⟨⟨_,h.h,λ{u t G H τ τ' σ d v Q} K r b q=>by
 unfold uE at b
 split at b;rename_i o w;cases b;obtain⟨a,p,rfl,c,⟨k,s,rfl,n,⟨l,e,rfl,g,f⟩⟩,_⟩:=r;cases(show e=[]from f);refine⟨a,_,rfl,uA Ųb c,rfl,k,_,rfl,l,_,rfl,rfl,?_⟩;exact q _ ((K.set ąb.1 n).set (ō m).1 g);cases b⟩⟩
def Xh{c:FG}(W:Źd ÿ X.A Ö ġ)(F:Ű=Â)(hi:SI X tg Ż fs)(hg:SG X tg c)(C:tF X Ēc g)(Y:Ê (∀x,Ôc Ż Ö x=pure x) q11):SS X Öi (ge fs c g):=by
 obtain⟨ti,I,T⟩:=Ģd;obtain⟨U,Q,L⟩:=hg.h;obtain⟨tb,v,kb⟩:=C.h;refine⟨⟨_,Ca W F I Q v Y,λ{G0 u G H τ σ r E} K a q=>?_⟩⟩;obtain⟨b,B,a⟩:=zD a;refine T K B λJ p Ha Z _ j=>?_
 have t:=ÿa Z;have k:=tZ.near t.ext q;refine⟨λi m σ H=>m=ça-i/\i<=ça/\∃τ G,yA X.K ò p u G H τ σ/\gU c g (ôh i) τ=À r,⟨ça,rfl,Ãa _,τ,p,t.YS,a⟩,?_⟩;rintro i m σ H ⟨rfl,hle,τ,G,K,a⟩;by_cases hlt:i<ça;refine .inr ⟨j.go i G H Ûe Ųb hlt,λσ' f=>∃τ G,yA X.K ò p u G f τ σ'/\gU c g ďr τ=À r,λσ' f z=>⟨ça-ï,by omega,rfl,hlt,z⟩,λx f y=>?_⟩;obtain⟨G3,d,O,s,rd⟩:=j.ui i G H x f Ûe Ųb hlt y;rw[ſc hlt]at a;rw[č hlt]at s;cases s;obtain⟨τ1,S,a⟩:=zD (show(c _ τ).bind _=_ from a);obtain⟨f1,P,a⟩:=zD a;refine L (ÿa O) rd S λσ1 K1=>kb K1 P ?_
 cases f1 with
 |nx τ2=>exact λσ2 l R n=>⟨τ2,l,n,a⟩|ct τ2=>exact λσ2 l R n=>⟨τ2,l,n,a⟩|bk τ2=>cases a;exact k|rt o d=>cases a;exact ïh k œb œb œb rfl
 have e:ôh i=[]:=ĝe Å;rw[e]at a;cases a;exact .inl ⟨j.stop i G H Ûe Ųb Å,k _ _ _ K⟩
def SY{K:Î}{G:Hp}{lo:Int}{n:Nat}:kG K ŧr G ((ąc).map λk:Nat=>Ħ ſb) where
 go:=λi b H _ _ a=>by show i<n;simpa using a
 ui:=λi b H x d _ c a y=>by obtain⟨rfl,rfl⟩:=y;exact⟨b,.int űa,śa c,by simp at a;simp[a],rfl⟩
 Ŕa:=λi b H _ _ a=>by show n<=i;simpa using a
def gg(n:Gl X ña)(g:ó ña=Ã)(s:SE X a fa)(d:Ê Ŵd q12):SI X tg Ľn (vQ Ď fa):=by
 obtain⟨t,l,k⟩:=(zC s zL d).h;refine⟨⟨_,z5i n g l æl,λ{E C G H τ σ ds R} K b q=>?_⟩⟩;obtain⟨x,f,b⟩:=zD b;cases f;obtain⟨y,i,b⟩:=zD b;refine k K (ds:=[y]) Ŧm λB I F o u=>?_
 cases y<;>first|cases b|skip
 rename_i j;obtain⟨v,r,rfl,m,w⟩:=u;cases(show r=[]from w);cases(show v=.int j from m)
 change (if(0:Int).natAbs<=yD/\Ŏc<=yD/\(j-0).toNat<=yD then _ else _)=_ at b
 by_cases c:(0:Int).natAbs<=yD/\Ŏc<=yD/\(j-0).toNat<=yD;rw[Ë c]at b;cases b;have z:Ŏc<=16777216:=c.2.1;have A:(j-0).toNat<=16777216:=c.2.2;refine⟨j,rfl,by omega,by omega,q _ _ _ o ?_ ?_⟩;rw[é,īa,ś];omega;have e:(j-0).toNat=Èa:=by omega
 rw[e];exact SY;rw[Ï c]at b;cases b
def z9u(C:Gl X ña)(n:ó ña=Ã)(I:SE X a fa)(o:SE X b fb)(g:Ê Ŵd q12)(e:Ê ūj q12):SI X tg çm (vQ fa fb):=by
 obtain⟨t,u,k⟩:=(zC I (zC o zL e) g).h;refine⟨⟨_,z5j C n u (by rw[uR g,uR e];rfl) (uR e),λ{Q P G H τ σ ds R} K d q=>?_⟩⟩;obtain⟨x,l,d⟩:=zD d;obtain⟨y,B,d⟩:=zD d;refine k K (ds:=ċc) (by unfold zB;rw[l,B];rfl) λN O S F z=>?_
 cases x with
 |int i=>
  cases y with
  |int j=>
   obtain⟨v,r,rfl,w,⟨E,s,rfl,f,A⟩⟩:=z;cases(show s=[]from A);cases(show v=.int i from w);cases(show E=.int j from f)
   change (if óc<=yD/\Ŏc<=yD/\(ĝd).toNat<=yD then _ else _)=_ at d
   by_cases c:óc<=yD/\Ŏc<=yD/\(ĝd).toNat<=yD;rw[Ë c]at d;have L:óc<=16777216:=c.1;have J:Ŏc<=16777216:=c.2.1;have m:(ĝd).toNat<=16777216:=c.2.2;cases d;refine⟨i,j,rfl,⟨by omega,by omega,by omega,by omega⟩,q _ _ _ F ?_ SY⟩;rw[é,īa,ś];exact m;rw[Ï c]at d;cases d
  |_=>cases d
 |_=>cases d
def z09{K:Î}{G:Hp}{a:Ç}{vs:Á V}{ds:Á D}(g:yL K G a vs)(r:ã K G ds vs):kG K Ĳk G ds where
 go:=λi h H b c f=>by obtain⟨v,e,_⟩:=ßb (č f);exact⟨vs,v,u9 Ýe g,e⟩
 ui:=λi h H x l b c f y=>by obtain⟨rfl,y⟩:=y;have e:=y vs (u9 Ýe g);obtain⟨d,j,k⟩:=r.at e;exact⟨h,d,śa c,j,k.mono b⟩
 Ŕa:=λi h H b c f=>⟨vs,u9 Ýe g,by rw[ż];exact f⟩
def y2l{K:Î}{G:Hp}{a:Ç}{vs:Á V}{ds:Á D}(g:yo K G a vs)(r:ã K G ds vs):kG K ık G ds where
 go:=λi h H b c f=>by obtain⟨v,e,_⟩:=ßb (č f);exact⟨vs,v,uA Ýe g,e⟩
 ui:=λi h H x l b c f y=>by obtain⟨rfl,y⟩:=y;have e:=y vs (uA Ýe g);obtain⟨d,j,k⟩:=r.at e;exact⟨h,d,śa c,j,k.mono b⟩
 Ŕa:=λi h H b c f=>⟨vs,uA Ýe g,by rw[ż];exact f⟩
def y0v{K:Î}{G:Hp}{z:Str}:kG K Ĵh G (Ąo λc=>Ŀa ⟨#[c]⟩) where
 go:=λi b H _ _ a=>by rw[é,Ģ]at a;exact a
 ui:=λi b H x f _ d a y=>by obtain⟨rfl,c,e,rfl⟩:=y;refine⟨b,.str ⟨#[c]⟩,śa d,?_,rfl,Þb (n:=1) Ð⟩;rw[Œ,ła,e];rfl
 Ŕa:=λi b H _ _ a=>by rw[é,Ģ]at a;exact a
def PI.or(c:PI X tg e w1)(b:PI X tg e w2):PI X tg e (λσ H R=>w1 σ H R\/w2 σ H R):=λa s σ H R I q=>by rcases q with q|q;exact c a s σ H R I q;exact b a s σ H R I q
def pI(h:SE X e f):SI X tg e (uq f):=by
 obtain⟨t,p,k⟩:=h.h;refine⟨⟨_,PI.or (z5h p) (PI.or (z5l p) (z5k p)),λ{u s G H τ σ o R} K j q=>?_⟩⟩;obtain⟨d,g,j⟩:=zD j;cases d<;>first|cases j|skip
 rename_i z;refine .inr (.inr ëi);obtain⟨rfl,l⟩:=r;exact⟨z,rfl,q _ _ _ x (by rw[é,Ģ];exact l) y0v⟩;refine .inr (.inl ëi);obtain⟨a,i,rfl,b,c,l⟩:=r;exact⟨a,rfl,⟨i,uA Ãc b⟩,q _ _ _ x l (y2l b c)⟩;refine .inl ëi;obtain⟨a,i,rfl,b,c,l⟩:=r;exact⟨a,rfl,⟨i,u9 Ãc b⟩,q _ _ _ x l (z09 b c)⟩
omit a
noncomputable def HC(K:Î)(n:Nat)(f:FE):TE:=λσ H Q=>∃G0 H0 G τ d,yA K n G0 H0 G H τ σ/\f τ=À d/\∀v G' H',zO G H G' H'->zS K G' d v->Q v H'
noncomputable def OZ(K:Î)(n:Nat)(f:FT):TT:=λσ H Q=>∃G0 H0 G τ d,yA K n G0 H0 G H τ σ/\f τ=À d/\∀G' H',zO G H G' H'->Q d H'
structure Ut(X:Cx)(es:Á Ñ)(f:FT):Prop where
 h:Ym X es (OZ X.K ò f)
section
variable{X:Cx}{e c:Ñ}{f:FE}{ft:FT}
def SE.pe(h:SE X e f):PE X e (HC X.K ò f):=λb s σ H Q I q=>by obtain⟨t,p,k⟩:=h.h;obtain⟨g,c,G,τ,d,K,a,z⟩:=q;exact p b s σ H Q I śr
def ST.pt(h:ST X e ft):PT X e (OZ X.K ò ft):=λb s σ H Q I q=>by obtain⟨t,p,k⟩:=h.h;obtain⟨f,c,G,τ,d,K,a,z⟩:=q;exact p b s σ H Q I śr
def jK:Ut X [] wE:=⟨λa s σ H Q I q=>by obtain⟨e,c,G,τ,d,K,b,z⟩:=q;cases b;exact am a s σ H Q I (z _ _ (śa Ųb))⟩
def OV(h:ST X c ft):Ut X [c] ft:=⟨z69 h.pt⟩
omit a
def yA.more{K:Î}{n:Nat}{q o G H:Hp}{τ:zy}{σ:St}(k:Nat)(E:yA K n q o G H τ σ):yA K āe q o G H Öd ðg:=by
 have a:∀{i:Nat}{s:Sl},Öd[i]?=À (À s)->τ[i]?=À (À s)/\ðg[i]?=σ[i]?:=λ{i s} h=>by have b:=ID h;have r:i<n:=E.lt b;exact⟨b,Ěb (by rw[Ĵ];exact r)⟩
 refine⟨Ņb,by rw[ä,ħa,Ĵ],by rw[ä,ħa,Į],λi d h=>?_,λi d h=>?_,λi j d e p c u t l m=>?_⟩;obtain⟨b,e⟩:=a h;rw[e];exact èb i d b;obtain⟨b,e⟩:=a h;rw[e];exact çb i d b;obtain⟨f,e1⟩:=a u;obtain⟨g,e2⟩:=a t;rw[e1]at l;rw[e2]at m;exact Æc i j d e p c f g l m
def Ss{K:Ăj}{n k:Nat}{E B b j:Hp}{τ:zy}{σ:St}{J:It}{ds out:Á D}{g:TG}{o:FG}{s:FT}{f:FE}{p:Á V->Hp->Prop}(A:kG K J b ds)(hl:ú<=Ý)(O:yA K n E B b j τ σ)(a:w6 o s f Öd ds=À out)(X:∀G H d v τ' (Q:St->Hp->Prop),yA K āe E B G H Öd ðg->zS K G d v->o d Öd=À τ'->(∀ρ,yA K āe E B G H τ' Òh->Q Òh H)->g v ðg H Q)(w:∀ys G H,zO b j G H->ã K G out ys->out.length<=Ý->p ys H) :∃W:Nat->Nat->Á V->Hp->Prop,(∃m,W 0 m [] j)/\Tk σ k J g (OZ K āe s) (HC K āe f) W p:=by
 refine⟨λi m ys H=>m=ú-i/\i<=ú/\œ<=i/\∃G done zr,zO b j G H/\ã K G done ys/\w6 o s f Öd (óh i)=À zr/\done++zr=out,⟨ú,rfl,Ãa _,æa _,b,[],out,śa O.ext.gh,rfl,a,rfl⟩,?_⟩;rintro i m ys H ⟨rfl,hle,t,G,done,zr,x,q,a,r⟩;by_cases hlt:i<ú
 .refine .inr ⟨A.go i G H x.g Ãc hlt,by omega,λys H=>œ<=i+1/\∃G done zr,zO b j G H/\ã K G done ys/\w6 o s f Öd (óh ï)=À zr/\done++zr=out,λS C z=>⟨ú-ï,by omega,rfl,hlt,z.1,z.2⟩,λv C y=>?_⟩;obtain⟨Z,d,h,I,rv⟩:=A.ui i G H v C x.g Ãc hlt y;rw[ſc hlt]at a;rw[č hlt]at I;cases I;obtain⟨τ1,h1,a⟩:=zD (show(o _ _).bind _=_ from a);obtain⟨L,Y,a⟩:=zD a;have K3:=((O.go x).go h).more k;refine X Z C _ v τ1 _ K3 rv h1 λρ N=>⟨⟨ρ,rfl⟩,_,_,_,_,L,N,Y,λG5 H5 c=>?_⟩
  cases L with
  |Ä=>exact gR ⟨by omega,G5,done,zr,Ôe (Öe c),q.mono (ïr c.g),a,r⟩|Â=>obtain⟨z,T,a⟩:=zD (show(f _).bind _=_ from a);obtain⟨l,P,a⟩:=zD a;cases a;refine gS ⟨_,_,_,_,z,N.go c,T,λu R H6 F U=>⟨by rw[ä];exact ŕb t,R,done++[z],l,Ôe (Öe (ĸb F)),(q.mono (ïr (c.g.trans F.g))).append (ãf U),P,?_⟩⟩;rw[Ś];exact r
 have e:óh i=[]:=ĝe Å;rw[e]at a;cases a;rw[ëa]at r;subst r;refine .inl ⟨A.stop i G H x.g Ãc Å,w ys G H x q ?_⟩;rw[<-q.length];omega
section
variable{X:Cx}{tg Ż elt:Ñ}{ifs:Á Ñ}{Ľ:ýa}{cl:Á Āb}{own:Á Str}{pos:Pos}{fs:FA}{fg:FG}{ft:FT}{f:FE}{g:TG}
def GX(xs:Á α)(y:α)(ys:Á α)(h:n=â)(z:α):(xs++y::ys).set n z=xs++z::ys:=by subst h;rw[úi _ _ Ċ,ĵc];rfl
structure BG(X:Cx)(Ľ:ýa)(cl:Á Āb)(own:Á Str)(tg:Ñ)(g:TG)(fg:FG):Prop where
 q:∀C s H fp pn,QG Ēa tg g
 k:∀{G0 H0:Hp}{τ:zy}{σ:St},τ.length=ò->σ.length=ò->∀G H d v τ' (Q:St->Hp->Prop),yA X.K Ũg G0 H0 G H ŀi ōd->zS X.K G d v->fg d ŀi=À τ'->
  (∀ρ,yA X.K Ũg G0 H0 G H τ' Òh->Q Òh H)->g v ōd H Q
def tt(q:∀C s H fp pn,QG (vG X Ľ cl [x] C s H fp pn) tg ũc)(hi:i=ò):BG X Ľ cl [x] tg ũc (yR i):=⟨q,λ{g f τ σ} h c G H d v τ' Q E r e k=>by cases e;have b:=E.set (i:=i) (v:=v) (by rw[hi];exact żc _) r;have a:(œo).set i Éa=σ++[À v]:=GX σ Ã [] (hi.trans ée) Éa;show Q ((œo).set i Éa) H;rw[a];refine k [À v] ?_;rw[<-a];exact b⟩
def Pe(q:∀C s H fp pn,QG (vG X Ľ cl ċc C s H fp pn) tg ċe)(hi:i=ò)(h:j=ò+1):BG X Ľ cl ċc tg ċe (uE i j):=⟨q,λ{B A τ σ} z g G H d v τ' Q E r e k=>by
 unfold uE at e
 split at e;rename_i u F;cases e;obtain⟨a,w,rfl,n,⟨b,I,rfl,l,⟨c,o,rfl,t,p⟩⟩,_⟩:=r;cases(show o=[]from p);have m:=(E.set (i:=i) (v:=b) (by rw[hi];exact Nat.lt_add_of_pos_right (Ąj _)) l).set (i:=j) (v:=c) (by rw[h];exact żc _) t
 have f:(Ċm).set j Ċa=σ++[À b,À c]:=by
  have e1:(σ++į 2 Ã).set i Ũk=σ++[À b,Ã]:=GX σ Ã [Ã] (hi.trans g.symm) Ũk;rw[e1];have e2:σ++[À b,Ã]=īp++[Ã]:=by simp
  rw[e2,GX īp Ã [] (by rw[ä,h,g];rfl) Ċa];simp
 refine⟨a,_,rfl,uA Ńa n,rfl,b,_,rfl,c,_,rfl,rfl,?_⟩;show Q ((Ċm).set j Ċa) H;rw[f];refine k [À b,À c] ?_;rw[<-f];exact m;cases e⟩
def Pm(X:Cx)(own:Á Str):(vj X.N own).length=ò+ðb:=by unfold vj;rw[ä,é]
theorem Pp(h:SE Ēa elt f):PE Ēa elt (HC X.K Ũg f):=by have q:=h.pe;rw[show(Ēa).N.length=ò+ðb from Pm X own]at q;exact q
def Pq(h:Ut Ēa ifs ft):Ym Ēa ifs (OZ X.K Ũg ft):=by have q:=h.h;rw[show(Ēa).N.length=ò+ðb from Pm X own]at q;exact q
def qI(a:Ű=Â)(B:YX X Ľ cl own)(hi:SI X tg Ż fs)(j:BG X Ľ cl own tg g fg)(m:∀C s H fp pn,Ut Ēa ifs ft)(t:∀C s H fp pn,SE Ēa elt f)(z:Ê (∀x,Ôc Ż Ö x=pure x) q11) :SF X Çc ņn:=by
 obtain⟨N,n,u⟩:=Ģd;refine⟨⟨_,z53 a B n (Λd (j.q C s H fp pn)) (Ηd (m C s H fp pn)) (λC s H fp pn=>Pp (t C s H fp pn)) z,λ{R O G H τ σ d Q} K b q=>?_⟩⟩;obtain⟨L,E,b⟩:=zD b;obtain⟨y,v,b⟩:=zD b;cases b;refine u K E λJ P F i l w=>Ss w l (ÿa i) v (j.k K.l2 K.l1) λo I S c r A p e=>?_
 exact q p _ _ (Ýf (ĸb (ļa Ĥd e))) (ďk (ēk e)) (úr e) ⟨o,yk,r,A⟩
def y0j(b:Ű=Â)(I:Ņa)(c:X.N[i]?=À x)(v:ķd x=À .local)(B:YX X Ľ cl own)(e:ĳc Çc (À (.Name x px)) Ýr Ö=pure Â)(hi:SI X tg Ż fs)(u:BG X Ľ cl own tg g fg)(y:∀C s H fp pn,Ut Ēa ifs ft)(F:∀C s H fp pn,SE Ēa elt f)(R:Ê (∀x,Ôc Ż Ö x=pure x) q11) :SS X (.Assign [.Name x px] Çc spos) (yF i ņn):=by
 obtain⟨ti,z,L⟩:=Ģd;refine⟨⟨_,aj b I c v B e z (Λd (u.q C s H fp pn)) (Ηd (y C s H fp pn)) (λC s H fp pn=>Pp (F C s H fp pn)) R,λ{G0 H0 G H τ σ U E} K j q=>?_⟩⟩;obtain⟨d,a,j⟩:=zD j;cases j;obtain⟨Z,w,a⟩:=zD a;obtain⟨Q,O,a⟩:=zD a;cases a;refine L K w λJ Ga W t l P=>Ss P l (ÿa t) O (u.k K.l2 K.l1) λn Y H1 m A S p r=>?_
 have T:=((ÿa t).go m).go (ŝc (o:=.lst n) m.gh r);exact q _ _ _ (T.set (ō c).1 ⟨p,n,rfl,őa yk,A.mono (vJ (m.gh.free r) _),S⟩)
omit a
section
variable{K:Î}{n:Nat}{G0 H0 G H:Hp}{τ:zy}{σ:St}
def yA.UI(E:yA K n G0 H0 G H τ σ)(hi:τ[i]?=À âc)(A:σ[i]?=À Ńr)(y:vi K G ìd d' p):yA K n G0 H0 G ìd Őm σ:=by
 obtain⟨S,e,g,z,_⟩:=çb i d hi;rw[A]at e;cases e
 have l:∀{m:Hp},m p=Ã->zo m H->zo m ìd:=λ{m} h s b u q=>by rw[yP (tO q h)];exact s _ _ q
 refine⟨⟨úh,l z ĉd,l g Ńa,źd⟩,Ĵ,by rw[ŭ];exact Į,λj e h=>?_,λj e h=>?_,λj k e f q a O L J R=>?_⟩;rcases vS h with⟨rfl,w⟩|⟨C,w⟩;cases w;exact èb j e w;rcases vS h with⟨rfl,w⟩|⟨C,w⟩;cases w;exact⟨p,A,g,z,y⟩;obtain⟨q,F,P,N,B⟩:=çb j e w;refine⟨q,F,P,N,?_⟩
 have a:q≠p:=λc=>by subst c;exact Æc i j d e q (λc=>C ée) hi w A F
 cases e with
 |lst ds=>obtain⟨v,x,r⟩:=B;exact⟨v,by rw[yP a];exact x,r⟩
 |dic ks ds=>obtain⟨v,x,r⟩:=B;exact⟨v,by rw[yP a];exact x,r⟩
 |_=>exact B.elim
 have t:∀{j:Nat}{e:D},Őm[j]?=À Ŗe->∃e,τ[j]?=À Ŗe:=λ{j e} h=>by rcases vS h with⟨rfl,_⟩|⟨_,w⟩;exact⟨_,hi⟩;exact⟨_,w⟩
 obtain⟨e1,I⟩:=t O;obtain⟨e2,Q⟩:=t L;exact Æc j k e1 e2 q a I Q J R
omit a
section
variable{X:Cx}{x:Str}{xp pos Ìa ź:Pos}{e:Ñ}{f:FE}
def Gu(Q:QE X Âa Ċc)(O:SE X e f)(m:Ê (Ģb Âa ſg Ö ćg=Ę Âa Ö) q12)(n:Ê ŏb q12)(C:Ê Ća q12) :SS X (Χd (.Attribute Âa ſg Ìa)) (Zy i Yy f):=by
 obtain⟨t,p,k⟩:=(zC O zL C).h;refine⟨⟨_,(Cq (QC Ţf şm ŝm AB Q ⟨p⟩ m n (by rw[ţ,C];rfl) Ģe) rfl).h,λ{Y W G H τ σ S E} K j q=>?_⟩⟩;unfold Zy at j
 split at j;rename_i d I;obtain⟨y,R,j⟩:=zD j;obtain⟨J,b,j⟩:=zD j;cases j;obtain⟨a,w,g,z,o⟩:=K.ow _ _ I;cases d with
 |lst ds=>
  obtain⟨s,A,B,l⟩:=o;refine⟨_,w,.inl ⟨rfl,s,őa A⟩,k K (ds:=[y]) (by unfold zB;rw[R];rfl) λT U Z v L=>?_⟩;obtain⟨u,r,rfl,N,P⟩:=L;cases(show r=[]from P)
  change (if ú<yD then À (ņb Šr)else Ã)=À J at b
  by_cases c:ú<yD;rw[Ë c]at b;cases b;refine⟨a,s,u,rfl,rfl,v.h _ _ A,by rw[B.length,ś];exact c,?_⟩;refine q _ _ _ ((ÿa v).UI I w ⟨s++[u],yk,(B.mono v.g).append (ãf N),?_⟩);rw[ä,ś];exact c;rw[Ï c]at b;cases b
 |_=>cases b
 cases j
omit a
section
variable{P:æ}{w:Þ}{K:Î}{mg:Str->Æ Value}{È:Heap}
def IZ{α β:Type}{ds:Á α}{k i:Nat}{h:α->Æ β}{y:β}(e:(Ğh h++į k Ã)[i]?=À (À y)):∃d,ds[i]?=À d/\h d=À y:=by
 have a:=ID e;rw[Œ]at a;cases q:ds[i]? with
 |Ã=>rw[q]at a;cases a|À d=>rw[q]at a;exact⟨d,rfl,ėa a⟩
def Rb{N:Á Str}{G H:Hp}{ds:Á D}{vs:Á V}(s:zo G H)(r:ã K G ds vs)(g:ú<=Ĺ):yA K Ĺ G H G H (Ğh (λd=>À (Ä,d))++į (Ĺ-ú) Ã) ŧj:=by have l:=ż;refine⟨śa s,?_,?_,λi d h=>?_,λi d h=>?_,λi j d e p _ c=>?_⟩;unfold Űe;rw[ä,é,ħa];omega;rw[ä,é,ħa];omega;obtain⟨a,e,z⟩:=IZ h;cases z;obtain⟨v,b,f⟩:=ßb e;refine⟨v,?_,f⟩;unfold Űe;rw[Ěb (by rw[é];exact(ō b).1),Œ,b];rfl;obtain⟨a,e,z⟩:=IZ h;cases z;obtain⟨a,e,z⟩:=IZ c;cases z
def Def.fm{x:Str}{st:Ù}{N ps:Á Str}{k:Nat}{F:Á D->Æ ì}{b:FS}(d:Def K mg x st ps)(S:zm N ps ı)(J:Ē<=Ĺ)(i:∀ds r,F ds=À r->ú=Ē/\yS Ĺ b ds=À r)(m:∀(f:Ç)(c:Value)(A:ñ)(þ:Á Env)(s:É)(H:Hp)(E:XK),yX k Ýi->tF (uo yq P w K mg È N x ı f c A þ s H E).t9 Ûa b):wW P w K mg È x ps Ų ìf:=by
 refine d.ok S (λj H Q E h=>?_) λf c A þ s H j Q E I h=>?_;obtain⟨G,ds,o,C,_,r,e,_⟩:=h;rw[ż,(i _ _ e).1];obtain⟨G,ds,o,C,B,r,e,q⟩:=h;obtain⟨l,a⟩:=i _ _ e;obtain⟨t,p,u⟩:=(m f c A þ s H E I).h;obtain⟨v,g,a⟩:=zD a;refine⟨t,p,u (Rb (N:=N) B r Å) g ?_⟩;cases v with
 |nx τ=>cases a;exact λσ n y z=>q .zK n y z.ext rfl|rt o' d'=>
  cases a;cases o with
  |Ä=>exact q|Â=>exact q
 |_=>cases a
omit a
section
variable{X:Cx}{K:Î}
def XO(h:∀i j,Cb i j=Â->C i j):uk K Ón (fI Cb g):=λG H x y u v d Q s b e a q=>by
 cases x<;>first|(cases a;done)|skip
 cases y<;>first|(cases a;done)|skip
 rename_i i j
 change (match Cb i j with|Â=>À (Ħ Ñb)|Ä=>Ã)=À d at a
 cases c:Cb i j with
 |Ä=>rw[c]at a;cases a|Â=>rw[c]at a;cases a;exact⟨i,j,b,e,h i j c,q _ _ _ ûa rfl⟩
def ua:uk K Ġr (xq g):=λG H x y u v d Q s b c a q=>by
 cases x<;>first|(cases a;done)|skip
 cases y<;>first|(cases a;done)|skip
 cases a;exact⟨_,_,b,c,q _ _ _ ûa rfl⟩
def Zr:uk K čq pA:=λG H x y u v d Q s b c a q=>by
 cases x<;>first|(cases a;done)|skip
 cases y<;>first|(cases a;done)|skip
 cases a;exact⟨_,_,b,c,q _ _ _ ûa rfl⟩
def Sz(h:Zm i=Â) : -àh<i/\i<2 ^ 64:=by unfold Zm at h;rw[ć]at h;exact⟨ŵ h.1,ŵ h.2⟩
def A_:uk K Þi TD:=XO λ_ _ h=>.inl (Sz h)
def aA:uk K Þi TF:=XO λ_ _ h=>.inr (Sz h)
def xE:uk K Ţm yc:=XO λ_ _ h=>ŵ h
def u7:uk K äm wY:=XO λ_ _ h=>by rw[ć]at h;exact⟨ŵ h.1,ŵ h.2⟩
def z5y(h:qF i j=Â):Lw i j:=by unfold qF at h;rw[ć,ć]at h;exact⟨ŵ h.1,ŵ h.2.1,ŵ h.2.2⟩
def jj:uk K ąm vH:=XO λ_ _ h=>z5y h
def Io:uk K ým qB:=XO λ_ _ h=>ŵ h
def VM:kE K ŋn (kQ g):=λH x y u v d Q b c a=>by
 cases x<;>first|(cases a;done)|skip
 cases y<;>first|(cases a;done)|skip
 cases a;exact⟨_,rfl,λq=>⟨_,_,b,c,q⟩⟩
def Sc(r:zS K H x u):X9 x=decide (u=.zK):=by
 cases x with
 |zK=>cases r;rfl|bl b=>cases r;rfl|int b=>cases r;rfl|str b=>obtain⟨rfl,_⟩:=r;rfl
 |tup b=>obtain⟨a,d,rfl,_⟩:=r;rfl
 |lst b=>obtain⟨a,d,rfl,_⟩:=r;rfl
 |dic b c=>obtain⟨a,d,rfl,_⟩:=r;rfl
 |exc b=>obtain⟨a,C,rfl,_⟩:=r;rfl
 |obj b c e=>obtain⟨a,C,f,d,rfl,_⟩:=r;rfl
def CP:kE K Ŀn Ze:=λH x y u v d Q b c a=>by
 cases y<;>first|(cases a;done)|skip
 have e:=Sc b;refine⟨X9 x,(ėa a).symm,λq=>⟨c,?_⟩⟩;rw[<-e];exact q
def z3g:kE K Ěm J_:=λH x y u v d Q b c a=>by
 cases y<;>first|(cases a;done)|skip
 have e:=Sc b;refine⟨!X9 x,(ėa a).symm,λq=>⟨c,?_⟩⟩;rw[<-e];exact q
def dQ:∀(G H:Hp) x u d (Q:VK),zS K G x u->TH x=À d->∃w,(∀G,zS K G d w)/\(Ψc (-i)):=λG H x u d Q r a=>by
 cases x<;>first|(cases a;done)|skip
 cases a;exact⟨_,λ_=>rfl,λq=>⟨_,r,q⟩⟩
def dP:∀(G H:Hp) x u d (Q:VK),zS K G x u->V6 x=À d->∃w,(∀G,zS K G d w)/\(Ψc Šk):=λG H x u d Q r a=>by
 cases x<;>first|(cases a;done)|skip
 cases a;exact⟨_,λ_=>rfl,λq=>⟨_,r,q⟩⟩
def bG(K:Î):R2:=λx y H Q=>∃l b xs zs,x=.ref l/\y=.ref b/\yL K H l xs/\yL K H b zs/\â+Ör<=Ý/\∀p,H p=Ã->Q ŝ (χa (xs++zs))
def aD:ym X ųd (bG X.K):=by
 intro W s σ H x y v u Q I G t h;obtain⟨l,b,R,S,rfl,rfl,A,r,o,q⟩:=h;cases G;cases t;obtain⟨c,p,w,_⟩:=Ź A;obtain⟨a,n,B,_⟩:=Ź r;obtain⟨⟨P,E,T,m⟩,C,i,e,J,f⟩:=w;obtain⟨⟨O,N,U,k⟩,L,g,j,z,d⟩:=B;simp only at e f j d;subst e f j d
 refine þj ⟨_,i,rfl⟩ ⟨_,g,rfl⟩ noFill_list_add seq_list_add PySem.F.slot_list_add PySem.F.entry_list_add (PySem.F.args_list_add_2 _ _)
  (list_addW l b Äk Îb C L E N m k (by rw[Ĕ,Ĕ,<-ċk,<-þd];exact o)) ⟨i,g,?_⟩
 rw[show Äk++Îb=(c++a).toArray by simp];exact⟨.ref _,_,I.N8 (t':=Ĉ) (p.append n) (by rw[ä];exact o),rfl,q _ Ĉd⟩
def bE(K:Î):R2:=λx y H Q=>qb (λi j=>.int (i+j)) x y H Q\/(∃i k,x=.int i/\y=.bl k/\Q ňo H)\/(∃i j,x=.str i/\y=.str j/\ôc+Ðb<=Ý/\Q ŋp H)\/bG K x y H Q\/bI K x y H Q
def xf:ym X ųd (bE X.K):=z3z.or (z40.or (z41.or (aD.or z42)))
def xZ:uk K (bE K) yb:=λG H x y u v d Q s w r f q=>by
 cases x<;>first|(cases f;done)|skip
 all_goals (cases y<;>first|(cases f;done)|skip)
 rename_i i b;cases w;cases r;cases f;refine .inr (.inl ⟨i,b,rfl,rfl,?_⟩);have e:i+b2i b=i+Źf:=by cases b<;>rfl
 rw[e];exact q _ _ _ ûa rfl;cases f;exact .inl ⟨_,_,w,r,q _ _ _ ûa rfl⟩;rename_i i j;obtain⟨rfl,I⟩:=w;obtain⟨rfl,F⟩:=r
 change (if ôc+Ðb<=yD then _ else _)=_ at f
 by_cases c:ôc+Ðb<=yD;rw[Ë c]at f;cases f;have n:ôc+Ðb<=Ý:=by rw[ś];exact c
 exact .inr (.inr (.inl ⟨i,j,rfl,rfl,n,q _ _ _ ûa ⟨rfl,by rw[strLen_append];exact n⟩⟩));rw[Ï c]at f;cases f;rename_i g h;obtain⟨a,k,rfl,B,m,_⟩:=w;obtain⟨b,t,rfl,C,o,_⟩:=r
 change (if ór=Ä/\õc+ĉb<=yD then _ else _)=_ at f
 by_cases c0:ór=Ä/\õc+ĉb<=yD;rw[Ë c0]at f;have c:=c0.2;cases f;have n:(g++h).length<=Ý:=by rw[ś,ä];exact c
 have E:k≠[]:=λe=>by
  have l:=Èe;rw[e]at l;cases g with
  |nil=>cases c0.1|ù=>cases l
 refine .inr (.inr (.inr (.inr ⟨a,b,k,t,rfl,rfl,uA s B,uA s C,E,by rw[Èe,ýd,ś];exact c,λe=>?_,λe p A=>?_⟩)));subst e
 have e2:h=[]:=by
  cases h with
  |nil=>rfl|ù=>obtain⟨_,_,z,_⟩:=o;cases z
 subst e2;exact q _ _ _ ûa ⟨a,k,rfl,B,by rw[ëa];exact m,n⟩;exact q _ _ _ Ěr ⟨p,k++t,rfl,ŭc yk,(ſp).mono ôo,n⟩;rw[Ï c0]at f;cases f;rename_i g h;obtain⟨a,k,rfl,B,m,_⟩:=w;obtain⟨b,t,rfl,C,o,_⟩:=r
 change (if õc+ĉb<=yD then _ else _)=_ at f
 by_cases c:õc+ĉb<=yD;rw[Ë c]at f;cases f;have n:(g++h).length<=Ý:=by rw[ś,ä];exact c
 refine .inr (.inr (.inr (.inl ⟨a,b,k,t,rfl,rfl,u9 s B,u9 s C,by rw[Èe,ýd,ś];exact c,λp A=>?_⟩)));exact q _ _ _ Ěr ⟨p,k++t,rfl,őa yk,(ſp).mono ôo,n⟩;rw[Ï c]at f;cases f
def iH(h:tm xs i=À x):∃j:Nat,xs[j]?=À x/\∀{β:Type}(ys:Á β),œ=â->tm ys i=ys[j]?:=by
 unfold tm at h;cases e:ixN â i with
 |Ã=>rw[e]at h;cases h|À j=>rw[e]at h;exact⟨j,h,λys l=>by unfold tm;rw[l,e];rfl⟩
def PU(xs:Á α)(i:Int):tm xs i=vw xs i:=by
 unfold tm vw ixN;by_cases h:0<=i;rw[Ë h,Ë h];by_cases h2:i<â;rw[Ë h2];rfl;rw[Ï h2];exact(ëb Å).symm;rw[Ï h,Ï h]
 split<;>rfl
def Cv(r:ã K H ds vs)(h:vw ds i=À d):∃v,tm vs i=À v/\zS K H d v:=by rw[<-PU]at h;obtain⟨j,e,k⟩:=iH h;obtain⟨v,a,b⟩:=ßb e;exact⟨v,by rw[k vs ż];exact a,b⟩
def ml:D->D->Æ D
 |.lst xs,.int i=>vw xs i|.tup xs,.int i=>vw xs i|.str z,.int i=>(Ŭq).bind λc=>À ņi|_,_=>Ã
def CQ:uk K (Cs K) ml:=λG H x y u v d Q s f m e q=>by
 cases x<;>first|(cases e;done)|skip
 all_goals (cases y<;>first|(cases e;done)|skip)
 rename_i z i;obtain⟨rfl,l⟩:=f;cases m;obtain⟨c,o,e⟩:=zD e;cases e;rw[<-PU]at o;exact .inr (.inr ⟨z,i,c,rfl,rfl,l,o,q _ _ _ ûa ⟨rfl,Þb (n:=1) Ð⟩⟩);rename_i p i;obtain⟨a,h,rfl,j,k,_⟩:=f;cases m;obtain⟨w,g,b⟩:=Cv k e;exact .inr (.inl ⟨a,h,i,w,rfl,rfl,uA s j,g,q _ _ _ ûa b⟩);rename_i p i;obtain⟨a,h,rfl,j,k,_⟩:=f;cases m;obtain⟨w,g,b⟩:=Cv k e;exact .inl ⟨a,h,i,w,rfl,rfl,u9 s j,g,q _ _ _ ûa b⟩
def kM:vA X œd (οb ſh Ųj):=lC.or lD
def kj:Up K (οb (yL K H p ys\/yo K H p ys) Ųj) j6:=λG H i j d Q s r b q=>by
 match i,b with
 | [.lst xs],b=>cases b;obtain⟨v,c,rfl,⟨a,g,rfl,f,h,_⟩,e⟩:=r;cases(show c=[]from e);exact .inl ⟨a,g,rfl,.inl f,by rw[ĉb];exact q _ _ _ ûa rfl⟩
 | [.tup xs],b=>cases b;obtain⟨v,c,rfl,⟨a,g,rfl,f,h,_⟩,e⟩:=r;cases(show c=[]from e);exact .inl ⟨a,g,rfl,.inr f,by rw[ĉb];exact q _ _ _ ûa rfl⟩
 | [.str z],b=>cases b;obtain⟨v,c,rfl,⟨rfl,l⟩,e⟩:=r;cases(show c=[]from e);exact .inr ⟨z,rfl,l,q _ _ _ ûa rfl⟩
omit a
theorem RH:∀xs ys:Á D,(((Ěi).all λj=>xz ŭi Ŭi)&&â==œ)=Đc xs ys
 | [],[]=>rfl| [],_::_=>rfl|_::_,[]=>rfl|x::xs,y::ys=>by
  have a:=RH xs ys;show _=ěn;rw[<-a,Ă,Ă,Nat.succ_min_succ,List.range_succ_eq_map,ţ,List.all_map,Bool.and_assoc]
  congr 1
  congr 1
  rw[Ôd];simp
theorem RA:∀{xs ys:Á D},p7 f xs ys=Â->∀(j:Nat) x y,xs[j]?=À x->ys[j]?=À y->f x y=Â
 | [],_,_,j,x,y,e,_=>by cases e|x::xs,[],_,j,_,y,_,e=>by cases e|x::xs,y::ys,h,0,_,_,e1,e2=>by cases e1;cases e2;have c:Ŏn=Â:=h;rw[ć]at c;exact c.1|x::xs,y::ys,h,j+1,a,b,e1,e2=>by have c:Ŏn=Â:=h;rw[ć]at c;exact RA c.2 j a b œn Œn
section
variable{X:Cx}{z8:Á í}{σ:St}{H:Hp}{s:É}{K:Î}
theorem DE(d:∀d1 d2 v,uN n d1 d2=Â->zS K H d1 v->zS K H d2 v->xz d1 d2=Â):∀{xs ys:Á D}{vs:Á V},p7 ĕd xs ys=Â->ã K H xs vs->ã K H ys vs->Đc xs ys=Â
 | [],[],_,_,_,_=>rfl| [],_::_,_,_,r1,r2=>by cases(show _=[]from r1);obtain⟨_,_,e,_⟩:=r2;cases e
 |_::_,[],_,_,r1,r2=>by cases(show _=[]from r2);obtain⟨_,_,e,_⟩:=r1;cases e
 |x::xs,y::ys,_,h,r1,r2=>by obtain⟨v,r,rfl,a,b⟩:=r1;obtain⟨i,j,e,f,g⟩:=r2;cases e;have c:(uN n x y&&p7 ĕd xs ys)=Â:=h;rw[ć]at c;show ěn=Â;rw[d x y v c.1 a f,DE d c.2 b g];rfl
def D0(h:uN Ĝ x y=Â):(∃xs ys,x=.tup xs/\y=.tup ys/\p7 ĕd xs ys=Â)\/(∃xs ys,x=.lst xs/\y=.lst ys/\p7 ĕd xs ys=Â)\/(xI x=Â/\xI y=Â):=by
 unfold uN at h
 split at h;exact .inl ⟨_,_,rfl,rfl,h⟩;exact .inr (.inl ⟨_,_,rfl,rfl,h⟩);rw[ć]at h;exact .inr (.inr h)
def XX(h:xI d=Â)(r:zS K H d v):pC v=Â:=by
 cases d<;>first|exact Û h ģ|skip
 cases(show v=_ from r);rfl;cases(show v=_ from r);rfl;cases(show v=_ from r);rfl;cases(show v=_/\_ from r).1;rfl
def QD(d:xI d1=Â)(c:xI d2=Â)(a:zS K H d1 x)(b:zS K H d2 y):qA x y=xz d1 d2:=by
 cases d1<;>first|exact Û d ģ|skip
 all_goals (cases d2<;>first|exact Û c ģ|skip)
 all_goals first
  |(cases(show x=_ from a);cases(show y=_ from b);rfl)
  |(cases(show x=_ from a);cases(show y=_/\_ from b).1;rfl)
  |(cases(show x=_/\_ from a).1;cases(show y=_ from b);rfl)
  |(cases(show x=_/\_ from a).1;cases(show y=_/\_ from b).1;rfl)
theorem Jx(I:Inv X z8 σ H s):∀(n:Nat)(d1 d2:D)(v:V),uN n d1 d2=Â->zS X.K H d1 v->zS X.K H d2 v->xz d1 d2=Â
 |0,_,_,_,h,_,_=>by cases h|n+1,d1,d2,v,h,r1,r2=>by rcases D0 h with⟨i,k,rfl,rfl,h⟩|⟨i,k,rfl,rfl,h⟩|⟨g,o⟩;obtain⟨a,j,rfl,d,b,_⟩:=r1;obtain⟨l,m,e,f,c,_⟩:=r2;cases e;cases I.Lq d f;exact DE ĺm h b c;obtain⟨a,j,rfl,d,b,_⟩:=r1;obtain⟨l,m,e,f,c,_⟩:=r2;cases e;cases I.JM d f;exact DE ĺm h b c;rw[<-QD g o r1 r2];exact mV (XX g r1)
def Rx{α:Type}{xs:Á α}{j:Nat}{x d:α}(h:xs[j]?=À x):Ŀk j d=x:=by rw[Ŵ,h];rfl
def OB{A:ñ}{n:Nat}{a c:Ç}{xs ys:Á D}{vs us:Á V}(I:Inv X z8 σ H s)(w:ůa<Êa)(E:PB X.K H a c vs us)(f:ã X.K H xs vs)(m:ã X.K H ys us)(h:p7 ĕd xs ys=Â)(B:∀(b d:D)(x y:V)(u v:Value),uN n b d=Â->zS X.K H b x->zS X.K H d y->zw x u->zw y v->ũb ãb s u v (xz b d)):Ŝj A s ő âh (Đc xs ys)/\Āj A s ő âh (!dEqs xs ys):=by
 have z:=z7b (A:=A) (e:=λj=>xz ŭi Ŭi) I w E λj C o i g e1 e2 p t=>by obtain⟨b,l,q⟩:=f.at e1;obtain⟨d,k,r⟩:=m.at e2;show ũb ãb s i g (xz ŭi Ŭi);rw[Rx l,Rx k];exact B b d C o i g (RA h j b d l k) q r p t
 rw[ŏc,Èe,RH]at z;exact z
theorem Jw(I:Inv X z8 σ H s):∀(n:Nat)(A:ñ)(d1 d2:D)(x y:V)(u v:Value),ůa+n<Êa->uN n d1 d2=Â->zS X.K H d1 x->zS X.K H d2 y->zw x u->zw y v->ũb A s u v Ūq
 |0,_,_,_,_,_,_,_,_,h,_,_,_,_=>by cases h|n+1,A,d1,d2,x,y,u,v,hu,h,r1,r2,rx,ry=>by have p:=h;have o:=r1;have m:=r2;rcases D0 h with⟨t,z,rfl,rfl,h⟩|⟨t,z,rfl,rfl,h⟩|⟨q,r⟩;obtain⟨a,w,rfl,k,b,B⟩:=r1;obtain⟨c,E,rfl,l,j,C⟩:=r2;cases(show u=Đ a from rx);cases(show v=Đ c from ry);by_cases hac:a=c;subst hac;rw[Jx I Ĝ _ _ _ p o m];exact øi _;exact Ŧn hac (υb Īo Ûg).1;obtain⟨a,w,rfl,k,b,B⟩:=r1;obtain⟨c,E,rfl,l,j,C⟩:=r2;cases(show u=Đ a from rx);cases(show v=Đ c from ry);by_cases hac:a=c;subst hac;rw[Jx I Ĝ _ _ _ p o m];exact øi _;exact Ŧn hac (υb Ĩo Ûg).1;rw[<-QD q r r1 r2];exact Rc rx ry (XX q r1) (XX r r2)
omit a
def O9(K:Î)(a:Í):R2:=λx y H Q=>∃d1 d2 k,zS K H d1 x/\zS K H d2 y/\Zd d1 d2=À k/\Q (.bl (if a then !k else k)) H
def ye(a:yX k A):ůa+7<Êa:=Ħc (ńd (by decide:7<=64) _) a.units
section
variable{X:Cx}{K:Î}
def DH(h:Zd d1 d2=À k):uN 6 d1 d2=Â/\k=xz d1 d2:=by
 unfold Zd at h
 split at h;cases h;cases h;split at h;rename_i e;cases h;exact⟨e,rfl⟩;cases h
def cE(h:Zd d1 d2=À k)(d:xI d1=Â)(c:xI d2=Â)(b:zS K H d1 x)(a:zS K H d2 y):GV x y=Â/\decide (x=y)=k:=by
 obtain⟨_,e⟩:=DH h;subst e;cases d1<;>first|exact Û d ģ|skip
 all_goals (cases d2<;>first|exact Û c ģ|(cases h;done)|skip)
 all_goals first
  |(cases(show x=_ from b);cases(show y=_ from a);exact⟨rfl,by first|rfl|exact D5|exact D4⟩)
  |(cases(show x=_ from b);cases(show y=_/\_ from a).1;exact⟨rfl,rfl⟩)
  |(cases(show x=_/\_ from b).1;cases(show y=_ from a);exact⟨rfl,rfl⟩)
  |(cases(show x=_/\_ from b).1;cases(show y=_/\_ from a).1;exact⟨rfl,D6⟩)
def Rf(I:Inv X z8 σ H s)(G:ůa+7<Êa)(h:uN 6 d1 d2=Â)(t:¬ (xI d1&&xI d2)=Â)(p:zS X.K H d1 x)(n:zS X.K H d2 y)(m:zw x u)(o:zw y v) :Ŝj A s u v Ūq/\Āj A s u v (!xz d1 d2):=by rcases D0 h with⟨q,w,rfl,rfl,h⟩|⟨q,w,rfl,rfl,h⟩|⟨E,F⟩;obtain⟨a,r,rfl,k,b,z⟩:=p;obtain⟨c,C,rfl,l,j,B⟩:=n;cases(show u=Đ a from m);cases(show v=Đ c from o);exact OB I Å Īo b j h λd1 d2 x y u v e f g d i=>Jw I 5 ãb d1 d2 x y u v Ûg e f g d i;obtain⟨a,r,rfl,k,b,z⟩:=p;obtain⟨c,C,rfl,l,j,B⟩:=n;cases(show u=Đ a from m);cases(show v=Đ c from o);exact OB I Å Ĩo b j h λd1 d2 x y u v e f g d i=>Jw I 5 ãb d1 d2 x y u v Ûg e f g d i;exact Û (by rw[E,F];rfl) t
def xg(n:Ăb+7<Êa):ym X ģr (O9 X.K Ä):=by intro m s σ H x y v u Q I d g h;obtain⟨j,o,k,i,f,e,q⟩:=h;by_cases hf:ųp=Â;have c:=hf;rw[ć]at c;obtain⟨a,b⟩:=cE e c.1 c.2 i f;exact z43 m s σ H x y v u Q I d g ⟨a,by rw[b];exact q⟩;obtain⟨l,rfl⟩:=DH e;exact ÿn.1 _ _ _ _ ⟨.bl _,H,I,rfl,q⟩
def jD(n:Ăb+7<Êa):ym X Ŧp (O9 X.K Â):=by intro m s σ H x y v u Q I d g h;obtain⟨j,o,k,i,f,e,q⟩:=h;by_cases hf:ųp=Â;have c:=hf;rw[ć]at c;obtain⟨a,b⟩:=cE e c.1 c.2 i f;exact z4a m s σ H x y v u Q I d g ⟨a,by rw[b];exact q⟩;obtain⟨l,rfl⟩:=DH e;exact ÿn.2 _ _ _ _ ⟨.bl _,H,I,rfl,q⟩
def xc:kE K (O9 K Ä) zg:=λH x y u v d Q b e a=>by obtain⟨k,c,a⟩:=zD a;cases a;exact⟨_,rfl,λq=>⟨x,y,k,b,e,c,q⟩⟩
def jB:kE K (O9 K Â) wK:=λH x y u v d Q b e a=>by obtain⟨k,c,a⟩:=zD a;cases a;exact⟨_,rfl,λq=>⟨x,y,k,b,e,c,q⟩⟩
omit a
def sZ{K:Î}:Ő K Ŋd öb=À Ä/\Ő K Ŋd ęa=À Ä/\Ő K Ŋd Ťa=À Ä/\
  Ő K Âb öb=À Ä/\Ő K Âb ęa=À Ä/\Ő K Âb Ťa=À Ä/\
  Ő K Åb öb=À Ä/\Ő K Åb ęa=À Ä/\Ő K Åb Ťa=À Ä:=by refine⟨?_,?_,?_,?_,?_,?_,?_,?_,?_⟩<;>kernel_rfl
def si{K:Î}:Ő K öb Åb=À Ä/\Ő K öb Âb=À Ä/\Ő K öb ęa=À Ä/\Ő K öb Ťa=À Ä/\
  Ő K ęa Åb=À Ä/\Ő K ęa Âb=À Ä/\Ő K ęa öb=À Ä/\Ő K ęa Ťa=À Ä/\Ő K ęa ęa=À Â:=by refine⟨?_,?_,?_,?_,?_,?_,?_,?_,?_⟩<;>first|kernel_rfl|rfl
def sn{K:Î}:Ő K Ťa Åb=À Ä/\Ő K Ťa Âb=À Ä/\Ő K Ťa ęa=À Ä/\Ő K Ťa öb=À Ä:=by refine⟨?_,?_,?_,?_⟩<;>kernel_rfl
noncomputable def y2w:D->óa
 |.zK => "NoneType"|.bl _ => ćf|.int _ => Ŭc|.str _ => ģf|.tup _ => Ũ|.lst _ => đ|.dic _ _ => Üa|.exc _ => "x"|.obj _ _ _ => "x"
def VE{K:Î}{T:ZU}{d:D}{b:Í}(h:Tf T d=À b):Ő K (.type (y2w d)) Ïq=À b:=by
 obtain⟨w,l,r,a,n,o,y,j,i⟩:=sZ (K:=K);obtain⟨q,k,v,m,x,s,p,c,e⟩:=si (K:=K);obtain⟨f,t,u,g⟩:=sn (K:=K);cases T<;>cases d<;>cases h
 all_goals first|exact sS|exact sQ|exact sR|exact sP|exact sU|exact sT|exact sW|exact sV|assumption
def z6y(K:Î)(T:ZU):Á V->Hp->VK->Prop:=λa H Q=>∃x d b,a=[x,.ty T.nm]/\zS K H d x/\Tf T d=À b/\Q Šc H
def lA(T:ZU):vA X Èj (z6y X.K T):=by
 intro w s σ H A B Q I r h;obtain⟨x,d,b,rfl,i,e,q⟩:=h;obtain⟨u,c,rfl,g,v⟩:=HP r;cases(show c=çc T.nm from v);have f:∀k,EP X w σ Q Żg { s with Ć:=k }:=λk=>⟨.bl b,H,ßa k,rfl,q⟩
 cases d with
 |zK=>cases(show x=_ from i);exact IP I g .zK (VE (d:=.zK) e) f|bl y=>cases(show x=_ from i);exact IP I g (.bl _) (VE (d:=.bl y) e) f|int y=>cases(show x=_ from i);exact IP I g (.int _) (VE (d:=.int y) e) f|str y=>cases(show x=_/\_ from i).1;exact IP I g (.str _) (VE (d:=.str y) e) f|tup ds=>obtain⟨a,t,rfl,p,_⟩:=i;cases(show u=Đ a from g);obtain⟨l,_,⟨o,m,j,_⟩,_⟩:=òa p;exact Ïb Şp ū ⟨o,m,j⟩ (VE (d:=.tup ds) e) Śa f
 |lst ds=>obtain⟨a,t,rfl,p,_⟩:=i;cases(show u=Đ a from g);obtain⟨l,_,⟨o,n,m,j,_⟩,_⟩:=Ź p;exact Ïb Ĩj ū ⟨o,m,j⟩ (VE (d:=.lst ds) e) Śa f
 |dic ks ds=>cases T<;>cases e|exc _=>cases T<;>cases e|obj _ _ _=>cases T<;>cases e
def QV(T:ZU)(s:Gl X Ðd)(g:Gl X x)(j:ó Ðd=Ã)(e:ó x=Ã)(hv:ŧ x=À Ïq)(w:SB X a f)(i:Ê Ŵd q12)(u:Ê ġb q10)(l:Ê ĺ q10):SE X (.Call (.Name Ðd p) [a,.Name x p1] [] pos) (Zb T f):=by obtain⟨t,n,k⟩:=w.h;refine⟨⟨_,(O6 (lA T) s j ir (O5 ⟨n⟩ (O5 (z6n g e hv u l) Cp rfl) i) Ð Ð (by rw[ţ,i];rfl)).h,λ{C A G H τ σ d Q} E c q=>?_⟩⟩;obtain⟨z,o,c⟩:=zD c;obtain⟨b,m,c⟩:=zD c;cases c;exact k E o λv y B x r=>⟨v,z,b,rfl,r,m,q _ _ _ x rfl⟩
omit L3
namespace L3
open ľ
theorem HR{c:FT}{b:FS}:∀{n:Nat}{σ:zy}{fl:Fl}(k:Nat),pL c b n σ=À fl->pL c b āe σ=À fl
 |0,_,_,_,h=>by cases h|n+1,σ,fl,k,h=>by
  rw[Nat.succ_add];unfold pL at h ⊢;cases hc:c σ with
  |Ã=>rw[hc]at h;cases h|À kk=>
   rw[hc]at h;cases kk with
   |Ä=>exact h|Â=>
    change (öe).bind _=_ at h
    show(öe).bind _=_;cases hb:b σ with
    |Ã=>rw[hb]at h;cases h|À f=>
     rw[hb]at h;cases f with
     |nx τ=>exact HR k h|ct τ=>exact HR k h|bk τ=>exact h|rt o d=>exact h
def z7q(n:Nat)(h:pL c b n σ=À fl)(a:Ê (n<=JS) q10):OG c b σ=À fl:=by have e:=HR (JS-n) h;rw[Nat.add_sub_of_le a]at e;exact e
def y5q(a:c σ=À Â)(d:b σ=À ùk):pL c b Ĝ σ=pL c b n σ':=by show(Ęd).bind _=_;rw[a];show(öe).bind _=_;rw[d];rfl
def eE(a:c σ=À Ä):pL c b Ĝ σ=À äh:=by show(Ęd).bind _=_;rw[a];rfl
theorem XE(P:Nat->zy->Prop):∀{ds:Á D}{σ:zy}(n:Nat),P n σ->(∀i d σ,ds[i]?=À d->P (n+i) σ->∃σ1 σ2,g d σ=À σ1/\(b σ1=À øk\/b σ1=À (.ct σ2))/\P Űk σ2)->
  ∃σ',gU g b ds σ=À ùk/\P ůk σ'
 | [],σ,n,h,_=>⟨σ,rfl,h⟩|d::ds,σ,n,h,ŉb=>by
  obtain⟨σ1,σ2,e1,e2,p⟩:=ŉb 0 d σ rfl h
  obtain⟨σ',c,o⟩:=XE P (ds:=ds) (σ:=σ2) Ĝ p λi e τ k m=>by obtain⟨a,q,j,f,l⟩:=ŉb ï e τ Ào (by rw[show n+ï=n+1+i by omega];exact m);exact⟨a,q,j,f,by rw[show n+1+i+1=n+ï+1 by omega];exact l⟩
  refine⟨σ',?_,by rw[Ă,show n+ţk=n+1+ú by omega];exact o⟩;show(Ŕc).bind _=_;rw[e1];show(b σ1).bind _=_;rcases e2 with e2|e2;rw[e2];exact c;rw[e2];exact c
def jr(h:a σ=À ùk):zc a b σ=b σ':=by show(Þa).bind _=_;rw[h];rfl
def z98(h:a σ=À ûd):zc a b σ=À ûd:=by show(Þa).bind _=_;rw[h];rfl
def rL(h:c σ=À Â):yi c a b σ=a σ:=by show(Ęd).bind _=_;rw[h];rfl
def rK(h:c σ=À Ä):yi c a b σ=b σ:=by show(Ęd).bind _=_;rw[h];rfl
abbrev wT(j:Nat):Á D:=(Ía j).map λk:Nat=>Ħ k
def kq(h:f τ=À óf)(a:čk<=1000000):vQ Ď f τ=À (wT n.toNat):=by unfold vQ;rw[h];show(if(0:Int).natAbs<=yD/\čk<=yD/\(n-0).toNat<=yD then _ else _)=_;rw[Ë ⟨by decide,by show _<=16777216;omega,by show _<=16777216;omega⟩,Int.sub_zero];simp only[Int.zero_add]
omit L3
namespace L3
def shx:=
 Ò yS.eq_1<|Ò zc.eq_1<|Ò yF.eq_1<|Ò gf.eq_1<|Ò yO.eq_1<|Ò uv.eq_1<|Ò jp.eq_1<|Ò yi.eq_1<|Ò xA.eq_1<|Ò QL.eq_1 <|
 Ò bo.eq_1<|Ò Zy.eq_1<|Ò ge.eq_1<|Ò gU.eq_1<|Ò gU.eq_2<|Ò e1.eq_1<|Ò e2.eq_1<|Ò eL.eq_1<|Ò eC.eq_1<|Ò z7.eq_1<|Ò p9.eq_1 <|
 Ò zB.eq_1<|Ò zH.eq_1<|Ò tE.eq_1<|Ò kH.eq_def<|Ò Qd.eq_1<|Ò gj.eq_1<|Ò qJ.eq_1<|Ò gK.eq_1<|Ò TB.eq_1<|Ò Jv.eq_1<|Ò j5.eq_1 <|
 Ò xX.eq_1<|Ò wC.eq_1<|Ò Zb.eq_1<|Ò Tf.eq_def<|Ò fI.eq_def<|Ò pA.eq_def<|Ò kQ.eq_def<|Ò TD.eq_1<|Ò TF.eq_1<|Ò yc.eq_1<|Ò wY.eq_1 <|
 Ò Rk.eq_1<|Ò vH.eq_1<|Ò qB.eq_1<|Ò xq.eq_def<|Ò TH.eq_def<|Ò j6.eq_def<|Ò Rj.eq_def<|Ò Ze.eq_def<|Ò J_.eq_def<|Ò X9.eq_def <|
 Ò yR.eq_1<|Ò uE.eq_1<|Ò uq.eq_1<|Ò ze.eq_1<|Ò vY.eq_1<|Ò vy.eq_1 <|
 Ò @Option.bind_some.{0,0} <| Ò @Option.bind_none.{0,0} <| Ò @List.getElem?_cons_zero.{0} <| Ò @List.getElem?_cons_succ.{0} <| Ò @List.set_cons_zero.{0} <| Ò @List.set_cons_succ.{0} <| Ò @List.map_cons.{0,0} <| Ò @List.map_nil.{0,0} <|
 Ò @List.cons_append.{0} <| Ò @List.nil_append.{0} <| Ò @List.length_cons.{0} <| Ò @List.length_nil.{0} <| Ò @List.replicate_zero.{0} <| Ò @List.replicate_succ.{0} <| Ò Új<|Ò Bool.not_false <|
 Ò @decide_true<|Ò @decide_false<|Ò Bool.and_self<|Ò Ęp ėp
open ľ Ŕ ň L2
section
variable{α:Type}
theorem eK:∀{ks:Á zR}{vs:Á α}(k:zR),Ŀ=Ą->((ĭb).any λkv=>decide Īk)=vO ks k
 | [],[],_,_=>rfl|k'::ks,v::vs,k,h=>by have a:=eK (ks:=ks) (vs:=vs) k ĩa;show(decide ël||((ĭb).any λkv=>decide Īk))=(decide ël||vO ks k);rw[a]
theorem Xs(k:zR):∀{ks:Á zR}{vs:Á V},Ŀ=Ą->tR ĭb k=ą ks vs k:=by
 intro ks
 induction ks with
 |nil=>intro vs _;cases vs<;>rfl|ù k' ks ih=>
  intro vs h;cases vs with
  |nil=>cases h|ù v vs=>by_cases e:k'=k;rw[Ġb,Oh (p:=(k',v)) e];show _=Œf;rw[Ë e];rw[Ġb,Og (p:=(k',v)) e,ih Ŝk];show _=Œf;rw[Ï e]
theorem y61(k:zR)(v:V):∀(ks:Á zR)(vs:Á V),((ĭb).map λkv=>if kv.1=k then(kv.1,v)else kv)=Ďf Ŗh:=by
 intro ks
 induction ks with
 |nil=>intro vs;rfl|ù k' ks ih=>
  intro vs;cases vs with
  |nil=>rfl|ù u vs=>rw[Ġb,Ŗ,ih,îi,Ġb];by_cases e:k'=k;rw[Ë e,Ë e];rw[Ï e,Ï e]
theorem Hk(h:Ŀ=Ą):ue ĭb k v=(Ŭg).zip Ŏe:=by unfold ue w_ wL;rw[eK k h];by_cases c:vO ks k=Â;rw[Ë c,Ë c,Ë c,y61 k v];rw[Ï c,Ï c,Ï c,List.zip_append h];rfl
def VQ(h:Ŀ=Ą):(Ŭg).length=(Ŏe).length:=by
 unfold w_ wL
 split;rw[ĩe,h,Ķc];rw[ä,ä,h];rfl
def Cf(h:Ŀ=Ą):(Ŏe).length<=Ą+1:=by
 unfold wL
 split;rw[ĩe,h,Ķc];exact Ģg _;rw[ä];exact æa _
omit a
section
variable{K:Î}{H:Hp}
theorem ýr:∀{ks:Á zR}{ds:Á D}{vs:Á V}{k:zR}{d:D},ã K H ds vs->ą ks ds k=À d->∃v,ą ks vs k=À v/\zS K H d v
 | [],_,_,_,_,_,e=>by cases e|_::_,[],_,_,_,_,e=>by cases e|k'::ks,d'::ds,_,k,d,r,e=>by
  obtain⟨v,h,rfl,f,g⟩:=r
  change (if k'=k then À d' else L3.getK ks ds k)=À d at e
  by_cases c:k'=k;rw[Ë c]at e;cases e;exact⟨v,by show Œf=_;rw[Ë c],f⟩;rw[Ï c]at e;obtain⟨u,a,b⟩:=ýr g e;exact⟨u,by show Œf=_;rw[Ï c];exact a,b⟩
theorem R_{α β:Type}:∀{ks:Á zR}{ds:Á α}{vs:Á β}{k:zR},ú=Ą->ą ks ds k=Ã->ą ks vs k=Ã
 | [],_,_,_,_,_=>by unfold ą;rfl|_::_,[],[],_,_,_=>rfl|k'::ks,d'::ds,v::vs,k,h,e=>by
  change (if k'=k then À d' else ą ks ds k)=Ã at e
  show Ïm=Ã;by_cases c:k'=k;rw[Ë c]at e;cases e;rw[Ï c]at e;rw[Ï c];exact R_ ĩa e
theorem De:∀{ks:Á zR}{vs:Á α}(k:zR),Ŀ=Ą->(ą ks vs k).isSome=vO ks k
 | [],[],_,_=>rfl|k'::ks,v::vs,k,h=>by have a:=De (ks:=ks) (vs:=vs) k ĩa;show(Ïm).isSome=(decide ël||_);by_cases c:k'=k;rw[Ë c,Ġ c];rfl;rw[Ï c,Ŏ c,a];rfl
theorem ŉk(hv:zS K H d v):∀{ks:Á zR}{ds:Á D}{vs:Á V},ã K H ds vs->ã K H (ķc (λk' x=>if k'=k then d else x) ks ds) Ŗh
 | [],_,_,_=>rfl|_::_,[],_,r=>by cases(show _=[]from r);rfl|k'::ks,d'::ds,_,r=>by obtain⟨u,e,rfl,a,b⟩:=r;refine⟨_,_,rfl,?_,ŉk hv b⟩;show zS K H (if k'=k then d else d') (if k'=k then v else u);by_cases c:k'=k;rw[Ë c,Ë c];exact hv;rw[Ï c,Ï c];exact a
def Reps.put(r:ã K H ds vs)(hv:zS K H d v):ã K H (wL ks ds k d) Ŏe:=by
 unfold wL
 split;exact ŉk hv r;exact Æe (ãf hv)
def kW(h:ur x=À k)(r:zS K H x u):u=kV k:=by
 cases x<;>first|(cases h;done)|skip
 cases h;exact r;cases h;exact(show u=_/\_ from r).1
omit a
section
variable{X:Cx}{K:Î}
def bM:R2:=λx y H Q=>∃a kvs k v,x=.ref a/\y=kV k/\Rd H a ùa/\tR kvs k=À v/\Q v H
def r_:qu X bM:=by
 intro d f A s σ H x y v u Q I p m h w;obtain⟨a,c,k,z,rfl,rfl,e,l,q⟩:=h;cases p;obtain⟨_,_,j,b,n⟩:=kO ĝ e;obtain⟨i,t,g⟩:=ķg (v:=z) (o:=Řc j k) (by rw[<-l];exact b.val k)
 exact ŀf (x:=i) (mF I (.inl ⟨c,k,e,rfl,rfl⟩)) îm
  (Ćo (Q:=λr B=>r=i/\EP X A σ Q r B) (kU m) n.mapOf t ⟨rfl,z,H,ßa _,g,q⟩) w
def bL(K:Î):R2:=λx y H Q=>Cs K x y H Q\/bM x y H Q
def zU(_:Ăb+1<Êa):qu X (bL X.K):=sA.or r_
def zV:uk K (bL K) zJ:=λG H x y u v d Q s e f c q=>by
 cases x with
 |dic ks ds=>obtain⟨a,n,rfl,i,l,g,_⟩:=e;obtain⟨k,h,c⟩:=zD c;obtain⟨z,m,j⟩:=g.getK c;exact .inr ⟨a,_,k,z,rfl,kW h f,ŗc s i,by rw[Xs k l];exact m,q _ _ _ ûa j⟩
 |zK=>cases c|bl b=>cases c|int b=>cases c|str z=>exact .inl (Λb (.str z))|tup z=>exact .inl (Λb (.tup z))|lst z=>exact .inl (Λb (.lst z))|exc z=>cases c|obj z _ _=>cases c
def z93(O:Ăb+1<Êa)(f:QE X Šd Ċc)(J:SE X b fb)(S:Ê Žq q12):SE X (.Subscript Šd b pos) (e2 zJ (p9 i) fb):=by
 obtain⟨Z,F,C⟩:=J.h;refine⟨⟨_,Iw (zU O) f.h F (I_ S),λ{G0 H0 G H τ σ d Q} E c q=>?_⟩⟩;obtain⟨x,I,c⟩:=zD c;obtain⟨y,B,c⟩:=zD c;obtain⟨o,f⟩:=RU I;cases o with
 |Ä=>obtain⟨v,j,U⟩:=èb _ _ f;exact⟨v,j,C E B λu t s a e=>zV t s x y v u _ _ a.gh (U.mono a.g) e c λw T Y L K=>q w T Y (a.trans L) K⟩
 |Â=>
  obtain⟨p,j,_,_,o⟩:=çb _ _ f;refine⟨_,j,C E B λu t s a e=>?_⟩;cases x with
  |lst ds=>
   obtain⟨r,e1,m,_⟩:=o;cases y<;>first|(cases c;done)|skip
   rename_i i;obtain⟨w,P,n⟩:=Cv m c;cases e;exact .inl (.inl ⟨p,r,i,w,rfl,rfl,őa Èq,P,q _ _ _ a (Ël a.g)⟩)
  |dic ks ds=>obtain⟨r,e1,l,m,_⟩:=o;obtain⟨k,R,c⟩:=zD c;obtain⟨z,N,W⟩:=m.getK c;exact .inr ⟨p,_,k,z,rfl,kW R e,.inl Èq,by rw[Xs k l];exact N,q _ _ _ a (W.mono a.g)⟩
  |_=>exact Ŧc
def bK(b:Í):R2:=λx y H Q=>∃a kvs k,y=.ref a/\x=kV k/\Rd H a ùa/\Q (.bl (if b then !(tR kvs k).isSome else(ńg).isSome)) H
def z45(d:Ăb+1<Êa):ym X Êf (bK Ä):=by intro i s σ H x y v u Q I c f h;obtain⟨a,b,k,rfl,rfl,e,q⟩:=h;cases f;exact mB d I (.inl ⟨b,k,e,rfl,rfl⟩) c λj g=>⟨.bl _,H,g,rfl,q⟩
def Cr(K:Î)(a:Í):R2:=λx y H Q=>bJ K a x y H Q\/(∃i j,x=.str i/\y=.str j/\Q (.bl (if a then !(!(Ŵh j i 0 Ðb 1).isEmpty)else !(Ŵh j i 0 Ðb 1).isEmpty)) H)\/bK a x y H Q
def jC(a:Ăb+1<Êa):ym X Êf (Cr X.K Ä):=z46.or (z47.or (z45 a))
theorem OC(c:xI x=Â)(d:zS K H x u):∀{ys:Á D}{vs:Á V},ã K H ys vs->čd xI=Â->vs.all pC=Â/\IM u vs=ys.any λy=>xz y x
 | [],_,r,_=>by cases(show _=[]from r);exact⟨rfl,rfl⟩|y::ys,_,r,h=>by obtain⟨v,f,rfl,e,g⟩:=r;rw[ţ,ć]at h;obtain⟨a,b⟩:=OC c d g h.2;refine⟨by rw[ţ,XX h.1 e,a];rfl,?_⟩;show(qA v u||IM u f)=(xz y x||_);rw[QD h.1 c e d,b]
theorem rN(d:zS K H x u)(g:zS K H y v)(b:Ri x y=À k)(q:Q (.bl (if neg then !k else k)) H):Cr K neg u v H Q:=by
 cases y with
 |lst ys=>
  obtain⟨a,h,rfl,e,f,_⟩:=g
  change (match xI x&&čd xI with|Â=>À Ÿf|Ä=>Ã)=À k at b
  cases c:Ùp with
  |Ä=>rw[c]at b;cases b|Â=>rw[c]at b;cases b;rw[ć]at c;obtain⟨n,m⟩:=OC c.1 d f c.2;exact .inl ⟨a,h,rfl,.inl e,XX c.1 d,n,by rw[m];exact q⟩
 |tup ys=>
  obtain⟨a,h,rfl,e,f,_⟩:=g
  change (match xI x&&čd xI with|Â=>À Ÿf|Ä=>Ã)=À k at b
  cases c:Ùp with
  |Ä=>rw[c]at b;cases b|Â=>rw[c]at b;cases b;rw[ć]at c;obtain⟨n,m⟩:=OC c.1 d f c.2;exact .inl ⟨a,h,rfl,.inr e,XX c.1 d,n,by rw[m];exact q⟩
 |str j=>
  cases x<;>first|(cases b;done)|skip
  rename_i i;cases b;exact .inr (.inl ⟨i,j,(show u=_/\_ from d).1,(show v=_/\_ from g).1,q⟩)
 |dic ks ds=>obtain⟨o,p,b⟩:=zD b;cases b;obtain⟨a,h,rfl,e,l,f,_⟩:=g;refine .inr (.inr ⟨a,_,o,rfl,kW p d,e,?_⟩);rw[Xs o l,De o l];exact q
 |_=>cases b
def jA:kE K (Cr K Ä) xY:=λH x y u v d Q b e a=>by obtain⟨k,c,a⟩:=zD a;cases a;exact⟨_,rfl,λq=>rN b e c q⟩
def GY:SF X üo çi:=⟨⟨_,z50,λ{e c G H τ σ d Q} E b q p a=>by cases b;exact q p G _ (ļa Ńa a) a (ĕp a) ⟨[],yk,rfl,rfl,Ãa _⟩⟩⟩
def Gv(B:Ăb+1<Êa)(J:QE X Âa Ċc)(hk:SE X k fk)(hv:SE X v fv)(N:Ê (Δb Ûn) q12) :SS X Ŝn (VV i fk fv):=by
 obtain⟨U,t,I⟩:=ġd;obtain⟨tv,O,Q⟩:=Ďc;refine⟨⟨_,ae B J.h t O N,λ{G0 H0 G H τ σ R E} K b q=>?_⟩⟩;obtain⟨y,L,b⟩:=zD b;refine Q K L λw G1 S P C=>?_
 split at b;rename_i ks p n;obtain⟨xk,r,b⟩:=zD b;obtain⟨d,e,b⟩:=zD b;by_cases c:Ŀ<yD;rw[Ë c]at b;cases b;have m:=ÿa P;obtain⟨a,o,g,z,vs,F,l,j,W⟩:=m.ow _ _ n;refine⟨_,o,I m r λu G2 Y f s=>⟨a,_,rfl,.inl ⟨_,d,f.h _ _ F,kW e s,?_,rfl⟩,?_⟩⟩;rw[Śd,l,Ķc,ś,<-l];exact c;refine q _ _ _ ((m.go f).UI n o ⟨wL ks vs d w,?_,VQ l,(j.mono f.g).put (Þl f.g),?_⟩);rw[yk,Hk l];have Z:=Cf (ks:=ks) (vs:=p) (k:=d) (v:=y) ìp;have T:ċk<16777216:=by rw[<-Ðb,<-l];exact c
 rw[ś];omega;rw[Ï c]at b;cases b;cases b
inductive gA(w:Þ):Á ñd->Á Str->Á Value->Prop
 |nil:gA w [] [] []
 |ù {x:Str} {t:Tok} {v:Value} {es:Á ñd} {xs:Á Str} {vs:Á Value} (r:gA w es xs vs):gA w (⟨Åp w.params x,.str x t,v⟩::es) Öb Ŭk
theorem gA.pairs:∀{es:Á ñd}{xs:Á Str}{vs:Á Value},gA w es xs vs->Pairs Ŵb es ((šc āc).zip vs)/\(∀e∈es,∃k,(Ŵb).is k e.key=Â/\e.hash=(Ŵb).hash k)
 |_,_,_,.nil=>⟨.nil,λe h=>Û h ê⟩|_,_,_,.cons (x:=x) (t:=t) r=>by obtain⟨a,b⟩:=gA.pairs (P:=P) r;refine⟨.cons (C5 P w x t) rfl a,λe h=>?_⟩;rcases ę h with rfl|h;exact⟨.inr x,C5 P w x t,rfl⟩;exact b e h
theorem gA.len{w:Þ}:∀{es:Á ñd}{xs:Á Str}{vs:Á Value},gA w es xs vs->â=Ą
 |_,_,_,.nil=>rfl|_,_,_,.cons r=>by rw[Ă,Ă,r.len]
theorem so(r:zf us vs):∀{ks:Á zR},Ŀ=ća->KV ūe ĭb:=by
 induction r with
 |nil=>intro ks _;rw[Ūn,Ūn];exact .nil|ù r _ ih=>
  intro ks h;cases ks with
  |nil=>exact .nil|ù k ks=>exact .cons ⟨rfl,r⟩ (ih Ŝk)
theorem eM:∀{ks:Á zR}{vs:Á Value},Ŀ=Ą->(ĭb).map (·.1)=ks
 | [],[],_=>rfl|k::ks,v::vs,h=>by rw[Ġb,Ŗ,eM ĩa]
omit a
noncomputable def OK:D->Æ Űa
 |.lst xs=>À xs|.tup xs=>À xs|_=>Ã
def VB(a b:FE):FA:=λσ=>(Þa).bind λx=>(öe).bind λy=>(OK x).bind λd=>(OK y).bind λc=>À (ķc ŭn d c)
section
variable{K:Î}{G H:Hp}
def cH(h:OK x=À xs)(r:zS K G x u):∃t a vs,u=.ref a/\tH K t G a vs/\ã K G xs vs/\â<=Ý:=by
 cases x<;>first|(cases h;done)|skip
 cases h;obtain⟨a,vs,rfl,c,b,l⟩:=r;exact⟨Â,a,vs,rfl,c,b,l⟩;cases h;obtain⟨a,vs,rfl,c,b,l⟩:=r;exact⟨Ä,a,vs,rfl,c,b,l⟩
def Y1(s:zo H H')(h:tH K t H a vs):tH K t H' a vs:=by cases t;exact u9 s h;exact uA s h
def y62(j:tH K t1 G a vs)(l:tH K t2 G b us)(h:ã K G xs vs)(g:ã K G ys us):kG K śi G (ķc ŭn xs ys) where
 go:=λi e H d c f=>by rw[ĩe]at f;obtain⟨v,e1,_⟩:=h.get (č (show i<â by omega));obtain⟨u,e2,_⟩:=ļh (č (show i<œ by omega));exact⟨vs,us,v,u,Y1 Şc j,Y1 Şc l,e1,e2⟩
 ui:=λi e H x A d c f y=>by obtain⟨p,o,rfl,k⟩:=y;obtain⟨v,u,e1,e2,rfl⟩:=k vs us (Y1 Şc j) (Y1 Şc l);obtain⟨q,w,r⟩:=h.at e1;obtain⟨t,z,s⟩:=g.at e2;refine⟨zX e p Ðq,.tup [q,t],ŝc c o,by rw[æn,w,z],?_⟩;have m:zo G (zX e p Ðq):=ĵe (vJ (c.free o) _);exact⟨p,[v,u],rfl,ŭc yk,⟨v,_,rfl,éa m,⟨u,_,rfl,s.mono m,rfl⟩⟩,Þb (n:=2) Ð⟩
 Ŕa:=λi e H d c f=>by rw[ĩe]at f;refine⟨vs,us,Y1 Şc j,Y1 Şc l,?_⟩;rw[ĉb,õc];omega
omit a
section
variable{X:Cx}{a b e o:Ñ}{fa fb f:FE}{p pos:Pos}
def cR(Q:Gl X Ļa)(u:ó Ļa=Ã)(S:SE X a fa)(w:SE X b fb)(n:Ê Ŵd q12)(d:Ê ūj q12):SI X Śn ŭh (VB fa fb):=by
 obtain⟨t,B,k⟩:=(zC S Ĝq n).h;refine⟨⟨_,(z6p Q u ⟨B⟩ n d).h,λ{G0 H0 G H τ σ ds R} K c q=>?_⟩⟩;obtain⟨x,s,c⟩:=zD c;obtain⟨y,N,c⟩:=zD c;obtain⟨T,i,c⟩:=zD c;obtain⟨W,e,c⟩:=zD c;cases c;refine k K (ds:=ċc) (by unfold zB;rw[s,N];rfl) λU Z H1 j E=>?_
 obtain⟨v,r,rfl,C,⟨v2,A,rfl,g,J⟩⟩:=E;cases(show A=[]from J);obtain⟨O,I,l,rfl,m,L,l1⟩:=cH i C;obtain⟨P,z,f,rfl,o,F,Y⟩:=cH e g;refine⟨I,z,l,f,O,P,rfl,Y1 j.gh m,Y1 j.gh o,q _ _ _ j ?_ (y62 m o L F)⟩;rw[ĩe];omega
abbrev FO:=zy->Æ (Æ Int)
noncomputable def XM:FO:=λ_=>À Ã
noncomputable def XN(f:FE):FO:=λσ=>(f σ).bind λd=>match d with
 |.int i=>À (À i)|_=>Ã
def Yu(xs:Á α)(lo hi:Æ Int):Á α:=(ťm).take Ğm
def Rl(d:D)(lo hi:Æ Int):Æ D:=match d with
 |.lst xs=>À (Α åj)|.tup xs=>if Ļ â 0 lo=0/\Ļ â â hi=â then Ã else À (.tup åj)|.str z=>À (.str ëp)|_=>Ã
def Yx(a:FE)(lo hi:FO):FE:=λσ=>(Þa).bind λd=>(lo σ).bind λl=>(hi σ).bind λh=>Rl d l h
structure SO(X:Cx)(e:Æ Ñ)(f:FO):Prop where
 h:∃t,PO X e t/\∀{G0 H0 G H:Hp}{τ:zy}{σ:St}{d:Æ Int}{Q:Æ Int->Hp->Prop},yA X.K ò G0 H0 G H τ σ->f τ=À d->(∀G' H',zO G H G' H'->Q d H')->t σ H Q
def Gd:SO X Ã XM:=⟨⟨_,z5v,λE a q=>by cases a;exact q _ _ ëc⟩⟩
def Ge(h:SE X e f):SO X (À e) (XN f):=by
 obtain⟨t,c,k⟩:=h.h;refine⟨⟨_,z5w c,λ{l i G H τ σ d Q} E a q=>?_⟩⟩;obtain⟨x,b,a⟩:=zD a;cases x<;>first|(cases a;done)|skip
 cases a;exact k E b λv g j x r=>⟨_,r,q _ _ x⟩
def Reps.cut{K:Î}{G:Hp}{ds:Á D}{vs:Á V}(r:ã K G ds vs)(lo hi:Æ Int):ã K G (Yu ds lo hi) (Za vs lo hi):=by unfold Yu Za;rw[ż];exact(Çl _).take _
def RC(xs:Á α)(lo hi:Æ Int):(åj).length<=â:=by unfold Yu;rw[ĕa,řa];omega
def z77(K:Î):V->Æ Int->Æ Int->Hp->VK->Prop:=λx b a H Q=>bQ K x b a H Q\/bS K x b a H Q\/bR x b a H Q
def z9v:kF X (z77 X.K):=z9w.or (z9y.or z9x)
def GW{lo hi:Æ Ñ}{w fh:FO}{C:Pos}(N:SE X a fa)(s:SO X lo w)(n:SO X hi fh):SE X (.Subscript a (.Slice lo hi Ã C) pos) (Yx fa w fh):=by
 obtain⟨O,I,K⟩:=N.h;obtain⟨Z,L,B⟩:=s.h;obtain⟨T,F,J⟩:=n.h;refine⟨⟨_,z58 z9v I L F,λ{G0 Y G H τ σ d Q} E b q=>?_⟩⟩;obtain⟨x,y,b⟩:=zD b;obtain⟨l,s,b⟩:=zD b;obtain⟨h,n,b⟩:=zD b;refine K E y λv U H1 u A=>B (Đa u) s λW S m=>J ((Đa u).go m) n λP R e=>?_
 have r:=u.trans (Õe e);have o:=A.mono (m.g.trans e.g);cases x with
 |lst xs=>cases b;obtain⟨a,k,rfl,t,j,f⟩:=o;refine .inl ⟨a,k,rfl,u9 e.gh t,λp i=>q _ _ _ Ôn ⟨p,_,rfl,őa yk,(ĩq).mono Üp,ŏ (RC ..) f⟩⟩
 |tup xs=>
  change (if Ļ â 0 l=0/\Ļ â â h=â then Ã else À (Įf (Yu xs l h)))=À d at b
  by_cases c:Ļ â 0 l=0/\Ļ â â h=â;rw[Ë c]at b;cases b;rw[Ï c]at b;cases b;obtain⟨a,k,rfl,t,j,f⟩:=o;refine .inr (.inl ⟨a,k,rfl,uA e.gh t,by rw[Ðb];exact c,λp i=>?_⟩);exact q _ _ _ Ôn ⟨p,_,rfl,ŭc yk,(ĩq).mono Üp,ŏ (RC ..) f⟩
 |str z=>cases b;obtain⟨rfl,f⟩:=o;exact .inr (.inr ⟨z,rfl,f,q _ _ _ r ⟨rfl,ŏ (úf ..) f⟩⟩)
 |_=>cases b
noncomputable def Y_:Á D->Æ D
 | [.lst xs]=>À Ğa| [.tup xs]=>À Ğa|_=>Ã
noncomputable def TJ:Á D->Æ D
 | [.lst xs]=>À ăb| [.tup xs]=>À ăb|_=>Ã
def qc{K:Î}{G:Hp}{d:D}{vs:Á V}(r:ã K G [d] vs):∃v,vs=[v]/\zS K G d v:=by obtain⟨v,a,rfl,b,c⟩:=r;cases(show a=[]from c);exact⟨v,rfl,b⟩
def GZ{fs:FA}(u:Gl X đ)(o:ó đ=Ã)(w:SA X [e] fs)(r:Ê Ća q12):SF X (Νb Ŏp) (eL Y_ fs):=by
 obtain⟨t,s,k⟩:=w.h;refine⟨⟨_,(XU lF u o Jk ⟨s⟩ Ð Ð (by rw[ţ,r];rfl)).h,λ{A z G H τ σ d Q} E f q=>?_⟩⟩;obtain⟨n,x,f⟩:=zD f;refine k E x λy C B b m=>?_
 match n,f with
 | [.lst xs],f=>cases f;obtain⟨v,rfl,a,g,rfl,j,i,l⟩:=qc m;exact⟨a,g,rfl,.inl (u9 b.gh j),λp c=>q p _ _ ūn Æq Łp ⟨g,yk,i,l⟩⟩
 | [.tup xs],f=>cases f;obtain⟨v,rfl,a,g,rfl,j,i,l⟩:=qc m;exact⟨a,g,rfl,.inr (uA b.gh j),λp c=>q p _ _ ūn Æq Łp ⟨g,yk,i,l⟩⟩
def aB{K:Î}:P5 K (δc ((yL K H p ys/\∀l,H l=Ã->Q ûc Ŭp)\/(yo K H p ys/\Q ŝ H))) TJ:=λG H h i d Q s r b q=>by
 match h,b with
 | [.lst xs],b=>cases b;obtain⟨v,rfl,a,c,rfl,e,f,l⟩:=qc r;exact⟨a,c,rfl,.inl ⟨u9 s e,λp g=>q _ _ _ (ŝc s g) ⟨p,c,rfl,ŭc yk,f.mono (vJ (s.free g) _),l⟩⟩⟩
 | [.tup xs],b=>cases b;obtain⟨v,rfl,a,c,rfl,e,f,l⟩:=qc r;exact⟨a,c,rfl,.inr ⟨uA s e,q _ _ _ ûa ⟨a,c,rfl,e,f,l⟩⟩⟩
def Th(x:D):Á D->Nat->Æ Nat
 | [],_=>Ã|y::ys,n=>match xz y x with
  |Â=>À n|Ä=>Th x ys Ĝ
def mj:D->D->Æ D
 |.lst ys,x=>match xI x&&čd xI with
  |Â=>(Th x ys 0).bind λn=>À óf|Ä=>Ã
 |_,_=>Ã
theorem Sg:∀{ys:Á D}{n m:Nat},Th x ys n=À m->∃j y,m=n+j/\ys[j]?=À y/\xz y x=Â/\∀i z,i<j->ys[i]?=À z->xz z x=Ä
 | [],_,_,h=>by cases h|y::ys,n,m,h=>by
  change (match xz y x with|Â=>À n|Ä=>Th x ys Ĝ)=À m at h
  cases c:xz y x with
  |Â=>rw[c]at h;cases h;exact⟨0,y,rfl,rfl,c,λi z a=>Û a þh⟩|Ä=>
   rw[c]at h;obtain⟨j,d,e1,e2,e,f⟩:=Sg h;refine⟨j+1,d,by omega,by simpa using e2,e,λi z a b=>?_⟩;cases i with
   |áa=>cases b;exact c|âa i=>exact f i z Å īi
def y0h(l:Mi X op ti)(A:uk X.K ti F)(C:Ņa)(hi:X.N[i]?=À x)(c:pf ĭa x)(z:SE X e f)(b:Ê ęb q7) :SS X (.AugAssign (.Name x ôa) op e pos) (yF i (e2 F (z7 i) f)):=by obtain⟨t,p,k⟩:=z.h;refine⟨⟨_,z61 C hi c p l b,λ{Q P G H τ σ O E} K b q=>?_⟩⟩;obtain⟨d,a,b⟩:=zD b;cases b;obtain⟨x,c,a⟩:=zD a;obtain⟨y,o,a⟩:=zD a;obtain⟨v,s,r⟩:=K.fr _ _ (RV c);refine⟨v,s,k K o λu J B j I=>A J B x y v u d _ j.gh (éa j.g) I a λw L R n m=>?_⟩;exact q _ _ _ (((œk).go n).set ąb.1 m)
def z2n{K:Î}:uk K Ūo Ŗo:=λG H x y u v d Q s b c a q=>by
 cases x<;>first|(cases a;done)|skip
 cases y<;>first|(cases a;done)|skip
 cases a;exact⟨_,_,b,c,q _ _ _ ûa rfl⟩
variable{x:Str}{ps:Á Str}{j k:Nat}{FF:Á D->Æ ì}
def z8z(h:wW ö X.w X.K ó Ō x ps k Ūe)(g:yX j X.A)(y:Gl X x)(hk:Ê Àc q10)(e:Ê ĺ q10):SE X ąn (ze FF zH):=by
 obtain⟨f,L,n,B,b,F⟩:=h;refine⟨⟨_,z4t F (g.mono hk) y n B b .nil Zv e,λ{J I G H τ σ d Q} E a q=>?_⟩⟩;obtain⟨C,s,a⟩:=zD a;cases s;obtain⟨⟨o,d⟩,g,a⟩:=zD a;cases a;refine⟨G,[],o,d,Ńa,rfl,g,?_⟩;cases o with
 |Ä=>exact λv l m c r=>q v l m c r|Â=>intro p l m c t i o;obtain⟨u,z,r⟩:=o.wU i;exact q _ _ _ (c.wU t i z) r
omit a
def FR(n N:Nat)(b:FS)(ds:Á D):Æ ì:=if ú=n then yS N b ds else Ã
def yZ:∀ds r,FR n N b ds=À r->ú=n/\yS N b ds=À r:=λds r h=>by
 unfold FR at h
 split at h;rename_i c;exact⟨c,h⟩;cases h
theorem dI{M:ÿe}{A:ñ}{E:Value->É->Prop}{z6:Ô Value}{x:Value}{e:Value->Í}{j:Nat}(g:∃ø w,M=model ø w)(k:j<Ĭ)(a:e z6[j]=Â)(f:∀m (l:m<Ĭ),m<j->e z6[m]=Ä){s:É}(d:∀y∈z6,ũb A s y x (e y)){Q:Æ Ðk×õa->É->Prop}(h:Q (À (.done ŗn),()) { s with Ć:=Ĉ+1 }):∀m i:Nat,i+m=Ĭ->i<=j->
  Ó M A (Łb (ôq i m) ((Ã,()):Æ Ðk×õa) λ(i:Nat) (_:Æ Ðk×õa)=>match z6[i]? with
   |À y=>do
    let šg <-eqBool y x
    if šg=Â then do
      let šg <-retInt (i:Int)
      pure (ForInStep.done (À šg,()))
     else pure Ðp
   |_=>pure Ðp) Q E s
 |0,i,h1,h2=>by omega|m+1,i,h1,h2=>by
  obtain⟨ø,w,rfl⟩:=g;have b:i<Ĭ:=by omega
  rw[List.range'_succ,Ťi];refine Ì ?_;rw[Àd b];refine Ì (d _ (Array.getElem_mem b) ø w E _ ?_);by_cases c:i=j;subst c;rw[a,Ë rfl]
  wp_walk
  exact h;rw[f i b Å,Ï Ð];refine ë ?_;exact dI ⟨ø,w,rfl⟩ k a f d h m ï Å Å
def y2m(t:Ç)(z6:Ô Value)(x:Value)(e:Value->Í)(j:Nat)(i:j<Ĭ)(b:e z6[j]=Â)(f:∀m (r:m<Ĭ),m<j->e z6[m]=Ä) :Meets (Builtin.«tuple.index» ⟨[.ref t,x],[]⟩) (λA R s=>Ńb Ü t z6/\(∀y∈z6,ũb ãb s y x (e y))/\R (.ok ŗn) { s with Ć:=Ĉ+1 }):=by
 intro a w A R s h;obtain⟨u,g,d,z,p⟩:=s;obtain⟨⟨o,q,v,n,l⟩,k,h⟩:=h;unfold Builtin.«tuple.index»
 wp_walk
 skip
 rw[l];refine ë øa;show Ó _ _ (pure 0 >>= _) _ _ _;refine Ì (Γa (ë (Ì ?_)));rw[Std.Legacy.Range.forIn_eq_forIn_range'];have c:án [0:min Ĭ Ĭ]=Ĭ:=by simp[án]
 rw[c];refine dI ⟨a,w,rfl⟩ i b f k ?_ Ĭ 0 Å Å;exact ë h
section
variable{X:Cx}{e o k v:Ñ}{f fo fk fv:FE}{x:Str}{xp p Ìa ź:Pos}
def z0y:Wr X "tuple.index" (λx vs H Q=>∃(a:Ç) (us:Á V) (y:V) (j:Nat) (u:V),x=.ref a/\vs=[y]/\yo X.K H a us/\pC y=Â/\us.all pC=Â/\us[j]?=À u/\qA u y=Â/\(∀i z,i<j->us[i]?=À z->qA z y=Ä)/\Q Æj H):=by
 intro z8 s σ H x Y v U Q I R P h;obtain⟨a,us,y,j,u,rfl,rfl,S,G,C,E,k,J,q⟩:=h;cases R;obtain⟨w,rfl,N⟩:=u_ P;obtain⟨b,r,A,Z⟩:=òa S;have B:=ż;have O:j<ća:=(ō E).1
 have f:∀(i:Nat)(z:V)(n:i<Ĩb),us[i]?=À z->jc y āb[i]=qA z y:=λi z n p=>by
  obtain⟨t,o,W⟩:=ßb p
  have e:āb[i]=t:=by have L:b[i]?=À b[i]:=č (by rw[Ĕ]at n;exact n);rw[L]at o;simpa using o
  rw[e];exact DC W (Ĕa C z (Áa p))
 have c:j<Ĩb:=by rw[Ĕ,<-B];exact O
 refine Ìd Şm A.typeIs PySem.F.entry_tuple_index (PySem.F.args_tuple_index_2 _ _) (y2m a āb w (jc y) j c (by rw[f j u c E];exact k) λm l g=>?_) ⟨A,λt T=>?_,⟨.int j,H,ßa _,⟨_,rfl⟩,q⟩⟩;have d:m<ća:=by rw[Ĕ,<-B]at l;exact l
 rw[f m us[m] l Ĉh];exact J m _ g Ĉh;exact Ie N G r C t ĭi
def Mo(K:Î)(A:Ç):Prop:=∃o,Ça A=À o/\àb=.type Ũ/\Čf=Ã
def Rm(ds:Á D)(y:D):Æ D:=mj ük y
def z92(h:vF ó x ãh)(r:∀H,zS X.K H ůr ãh)(O:Mo X.K A)(hg:Gl X x)(S:SE X e f)(B:Ê ĺ q10)(k:Ê (Ģb Âa "index" Ö ćg=Ę Âa Ö) q12)(l:Ê ŏb q12)(v:Ê Ća q12) :SE X (Κb (.Attribute Âa "index" Ìa)) (e1 (Rm ds) f):=by
 obtain⟨te,C,L⟩:=(zC S zL v).h;refine⟨⟨_,(QC PySem.F.plainAttrs_tuple Şm PySem.F.type_tuple_index z0y (z6o h hg B) ⟨C⟩ k l (by rw[ţ,v];rfl) Ģe).h,λ{G0 H0 G H τ σ d Q} E g q=>?_⟩⟩;obtain⟨y,Z,g⟩:=zD g;refine⟨.inr (.inl ⟨rfl,O⟩),L E (ds:=[y]) (by unfold zB;rw[Z];rfl) λws Y H2 p I=>?_⟩;obtain⟨w,rfl,b⟩:=qc I;obtain⟨a,T,N,W,o,_⟩:=r Y;cases N
 change (match xI y&&ds.all xI with|Â=>(Th y ds 0).bind λn=>À (Ħ n)|Ä=>Ã)=À d at g
 cases c:(xI y&&ds.all xI)with
 |Ä=>rw[c]at g;cases g|Â=>
  rw[c]at g;obtain⟨n,U,g⟩:=zD g;cases g;rw[ć]at c;obtain⟨j,z,e1,e2,J,e4⟩:=Sg U;rw[ń]at e1;subst e1;obtain⟨u,eu,ru⟩:=o.get e2;have s:∀{i:Nat}{z:D},ds[i]?=À z->xI z=Â:=λ{i z} m=>Ĕa c.2 z (Áa m)
  refine⟨A,T,w,n,u,rfl,rfl,uA p.gh W,XX c.1 b,(OC c.1 b o c.2).1,eu,by rw[QD (s e2) c.1 ru b];exact J,λi z P m=>?_,q _ _ _ p rfl⟩;obtain⟨R,t,rd⟩:=o.at m;rw[QD (s t) c.1 rd b];exact e4 i R P t
def z91(R:Ăb+1<Êa)(T:SE X o fo)(hk:SE X k fk)(hv:SE X v fv)(m:M2 X o "get" Ìa k v ź):SE X (.Call ũm [k,v] [] ź) (DA fo fk fv):=by
 obtain⟨Z,S,L⟩:=T.h;obtain⟨tk,N,P⟩:=ġd;obtain⟨tv,W,Y⟩:=Ďc;refine⟨⟨_,z4z R S N W m,λ{G0 H0 G H τ σ d Q} E b q=>?_⟩⟩;obtain⟨x,C,b⟩:=zD b;refine L E C λw G1 H1 f O=>?_
 cases x with
 |dic ks ds=>
  obtain⟨y,U,b⟩:=zD b;obtain⟨z,K,b⟩:=zD b;obtain⟨e,j,b⟩:=zD b;cases b;obtain⟨a,F,rfl,B,l,t,_⟩:=O;refine⟨a,rfl,.inl ⟨_,ŗc f.gh B⟩,P Ŕk U λu G2 H2 i I=>Y ((Ŕk).go i) K λw' G3 H3 n J=>?_⟩;refine⟨tR (Ďf F) e,.inl ⟨_,e,ŗc (f.gh.trans (i.h.trans n.h)) B,kW j I,rfl⟩,?_⟩;rw[Xs e l];have p:=t.mono (ìr n.g);cases c:ą ks ds e with
  |Ã=>rw[c]at q;rw[R_ (by rw[ćb]) c];exact q _ _ _ Ğp J|À d'=>rw[c]at q;obtain⟨z',s,r⟩:=p.getK c;rw[s];exact q _ _ _ Ğp r
 |_=>cases b
noncomputable def wy(i:Int):Nat:=Ĭe i
def DL:D->D->Æ D:=fI (λi j=>decide (wy i+wy j<=134217728)) (·*·)
def z49:ym X Ĵj Ŭl:=VN λi j _ _ _ _ _ b q=>mul_int q (by unfold IntMulOk;intro h;rw[ć]at h;have a:decide (((Ĭe i+Ĭe j:Nat):Int)>(134217728:Nat))=Â:=h.2;have d:=ŵ a;have c:Ĭe i+Ĭe j<=134217728:=b;omega)
def z3d{K:Î}:uk K Ŭl DL:=XO λ_ _ h=>ŵ h
omit a
open Ŋk
theorem eB:∀{ns:Á Int}{m:Int},m∈ns->wy m<=Řd Âd
 | [],_,h=>by cases h|n::ns,m,h=>by
  have e:Řd ((Ůk).map Ék)=wy n+1+Řd Âd:=by show Řd (Ék n::Ŏa Ék)=_;rw[Řd];rfl
  rw[e];rcases ę h with rfl|h;omega;have:=eB h;omega
def z03{ns:Á Int}(h:WData.layableAll [.list Âd]=Â):∀m∈ns,wy m<=1048576:=λm b=>by
 have a:Čp ńj=Â:=Ĕa h _ Ēl;unfold Čp at a;rw[ć]at a;have c:ÿj ńj<=2 ^ 20:=ŵ a.2;have e:=eB b;have d:ÿj ńj=Řd Âd:=by rw[ÿj]
 omega
section
variable{K:Î}
def QY(K:Î):Sp:=λb H Q _=>∃(a:Ç) (ns:Á Int),b=Ôa/\yL K H a Áb/\Ŝ<=63/\(∀m∈ns,wy m<=1048576)/\∀H',Q ĸ H'
omit a
def walkB{l:Ík}{n k:Nat}{q:æ}{i:Á Str}{XP:ři->Heap->Prop}{O:Þ->Heap->Prop}{d:DefRec}{K:ģh->Î}{sp:Î->Sp}{x:Str}(hn:Ìl=À n)(G:n<=Ý)(J:Øo=[])(hr:yX k Øe)(S:∀(w:Þ)(h:Heap),O w h->(Šb).In h)(F:∀(w:Þ)(j:Str->Æ Value)(C:Ç)(h:Heap),(Šb).In h->đa ă j->j d.name=À ĩ->
   ∃fd:Ĳ,(∀(s:É)(u:Value),Ŝc s fd ⟨[u],[]⟩ [(x,u)])/\∀È:Heap,(Šb).In È->Ùe ă j->yz ĳ w Šb j È yq k C fd [x] (sp Šb))
  (E:∀(K:Î)(H:Hp)(a:Ç)(ns:Á Int),Ŝ<=n->(∀m∈ns,wy m<=1048576)->yL K H a Áb->sp K Ôa H Ůn λ_ _ _=>î) :
  W.WalkO q i XP O új d [] őm:=by
 intro w s0 s1 j mb y Y C o pm cd X dV kV ho hd hcd Q L hg R P as A t hrd I hlo;have e1:dV=.none:=Dflts.none Q J;have e2:kV=.none:=Dflts.noKw Q;subst e1 e2;obtain⟨a,vs,ns,rfl,rfl,p,e,c⟩:=Att.script_of hn A I;have N:=S w _ Y;obtain⟨fd,Z,hF⟩:=F w j C _ N y.T.g L;have B:=z01 N y.T.g y.T.b y.T.builtins y.T.nolimit hg p e (ŏ c G) hr hF Z (λH _ hS=>E _ H a ns c (z03 t) hS) (λ_ _ _ z=>z);refine enter_call (ŉd B λr s' hq=>?_);obtain⟨rfl,h2,h3,h4⟩:=hq;refine⟨.inl ⟨.bool Â,.bool Â,[],rfl,λ_=>rfl,.bool Â,Att.post_true l _,λ_=>?_⟩,h2,h3,h4⟩;exact⟨Ög,λ_ U=>nomatch U⟩
omit L3
namespace L3
open ľ Ŕ ň L2
def mq{ø:æ}{w:Þ}{A:ñ}{E:Value->É->Prop}{s:É}{a:Ç}{o:Obj}{xs:Ô Value}{k:Nat}{ħ:Str}{Q:Æ Value->É->Prop}(p:ð a=À o)(r:àb=.type đ)(f:Ýa=.seq xs k)(q:Čf=Ã)(j:ŀq ęa ħ=pure Ã)(i:(["__module__",Ŏj,"__qualname__","__doc__","__annotations__"]:Á Str).contains ħ=Ä)(y:ğa=Ã)(h:∀h' tk,(∀b ob,ð b=À ob->ā b=À ob)->Q Ã { s with á:=h',Ć:=tk })(hsz:name.length+100<=Ý) :Ó à A (getAttr? (.ref a) ħ) Q E s:=by
 obtain⟨c,u,x,v⟩:=o;simp only at r f q;subst r f q;obtain⟨t,g,d,tk,z⟩:=s;have n:∀l,(⟨t,g,d,l,z⟩:É).TypeIs ő đ:=λ_=>⟨_,p,rfl⟩
 have K:=sub_AttributeError;have I:=PySem.F.slot_list_getattribute.lookup;have B:=PySem.F.slot_list_getattribute.bind ő;have H:=am_list_getattr_none;unfold getAttr? getAttrBy? getAttrBy
 repeat (any_goals (first|assumption|exact n _|((with_reducible show Ó _ _ (Ėb (Value.builtin "list.__getattribute__") _ _) _ _ _);refine Ìd PySem.F.slot_list_getattribute (n _) am_entry_list_getattribute (F.args_list_getattribute_2 _ _) (meets_getattribute_miss_list a xs k v ħ _ j i hsz) ⟨p,y,λh' l e m=>?_⟩)|wp_step))
 obtain⟨C,G,J⟩:=m.there;show Ó _ _ (Ţn _ _ _ _ _ _ _) _ _ _;unfold Ţn
 repeat (any_goals (first|assumption|wp_step))
 exact h _ _ m.keeps
def O0:plainId şn=Â:=by decide +kernel
def RY:Çh ĸh şn=À Builtin.«dict.update.loop»:=entryFor_of_fast Üc
def _root_.PySem.Heap.DictOf.Li{ø:æ}{w:Þ}{h h':Heap}{a:Ç}{kvs:Á Êb}(b:ßf ăa a kvs)(k:∀o,ĉ a=À o->ā a=À o):ŝg ăa a kvs:=
 let ⟨o',es,ep,ho,r⟩:=b;⟨o',es,ep,k _ ho,r⟩
def y0u(kvs:Á Êb)(k:zR)(v:Value):(Ťc kvs k v).length<=ŗ+1:=by
 unfold Ťc
 split;rw[é];omega;rw[ä];exact æa _
def Ml(h:Heap)(v:Value)(k:zR)(x:Value):Prop:=∃b key,v=.ref b/\ut k key=Â/\Ńb h b #[key,x]
theorem dY{ø:æ}{w:Þ}{A:ñ}{R:ïe->É->Prop}{d it l:Ç}{its:Á Value}(hA:ğa=Ã)(K:d≠l)(u:d≠it)(E:l≠it) :∀(kvs:Á Êb) (i:Nat) (acc:Á Êb) (s:É),Öo it l i->Ïj l Ŷ->i+ŗ=Ëb->(∀j kv,kvs[j]?=À kv->∃v,its[i+j]?=À v/\Ml Ü v kv.1 kv.2)->
   s.heap.DictOf ăa d acc->Ōq+ŗ<=Ý->(∀h' tk,ŝg ăa d (ér (λa kv=>Ťc a kv.1 kv.2) acc)->(∀b o,b≠d->b≠it->ð b=À o->ā b=À o)->R Ųr { s with á:=h',Ć:=tk })->
   Ó à ãb (Builtin.«dict.update.loop» ⟨[.ref d,.ref it,Ŧ i,.none],[]⟩) (λfin s'=>match fin with|.done f=>R (.ok f) s'|.again c'=>c'.quiet=Â/\ļb à A c' R s') (λe s'=>R (.error e) s') s
 | [],i,acc,s,st,hl,hn,hp,hd,hz,h=>by unfold Builtin.«dict.update.loop»;refine Ì (Éi (by exact hA) st hl Ŕm λh' eb=>?_);show Ó _ _ (Builtin.Dict.addKeywords d [] >>= _) _ _ _;refine Ì æk;exact h h' Ĉ (hd.Li λo e=>eb d o u e) (λb o _ hb e=>eb b o hb e)|kv::kvs,i,acc,s,st,hl,hn,hp,hd,hz,h=>by
  obtain⟨v,hv,b,key,rfl,hk,ht⟩:=hp 0 kv rfl;unfold Builtin.«dict.update.loop»;refine Ì (Ãi st hl (x:=.ref b) Ği λh1 Z sb=>?_);have g:∀c o,c≠it->ð c=À o->Ņk c=À o:=λc o N e=>(sb.2 c N).trans e
  have p:∀{c:Ç}{q:Ô Value},Ńb Ü c q->c≠it:=λ{c q} t e=>by subst e;obtain⟨o,e1,O,_⟩:=t;obtain⟨o',e2,L,_⟩:=st;rw[e1]at e2;cases e2;rw[O]at L;exact Û (Äp L) Ð
  have G:∀{c:Ç}{q:Ô Value},Ńb Ü c q->c≠d:=λ{c q} t e=>by subst e;obtain⟨o,e1,O,_⟩:=t;obtain⟨o',es,ep,e2,L,_⟩:=hd;rw[e1]at e2;cases e2;have c3:=L.1;rw[O]at c3;exact Û (Äp c3) Ð
  obtain⟨o,ho,N,n,C⟩:=ht;have I:=g b o (p ⟨o,ho,N,n,C⟩) ho;have W:h1.DictOf ăa d acc:=hd.Li λo e=>g d o u e
  refine Ì (ża (Ì (wpAny_tryCatch ?_)));unfold Builtin.Dict.pairItems;refine Ì (ňd (T := Ũ) ⟨o,I,N⟩ ?_);rw[Ë įk];refine Ì (Ĝb I C øa);refine ża (wpAny_dictSet_pairs (knd:=xJ ø w) (k:=kv.1) hk W (λh2 S F=>?_) Å);refine ë ⟨ħe O0 _,ĝc RY ?_⟩;rw[Ĳd O0 _];have m:∀c o,c≠d->c≠it->ð c=À o->h2.get? c=À o:=λc o y B e=>(F.2 c y).trans (g c o B e)
  have H:∀{c:Ç}{q:Ô Value},Ńb Ü c q->Ńb h2 c q:=λ{c q} t=>by have a1:=G t;have a2:=p t;obtain⟨o,e1,r⟩:=t;exact⟨o,m c o a1 a2 e1,r⟩
  refine dY (its:=its) hA K u E kvs ï (Ťc acc kv.1 kv.2) _ ?_ ?_ (by rw[Ă]at hn;omega) (λj Q e=>?_) S ?_ λh' tk Y kp=>?_;exact Z.at λo e=>(F.2 it (λz=>u ÿc)).trans e;obtain⟨o,e,r⟩:=hl;exact⟨o,m l o (λz=>K ÿc) E e,r⟩;obtain⟨v',P,b',J,rfl,U,X⟩:=hp Ëa Q îb;exact⟨_,by rw[show i+1+j=i+Ëa by omega];exact P,b',J,rfl,U,H X⟩;have:=y0u acc kv.1 kv.2;rw[Ă]at hz;omega;exact h h' tk Y λc o y B e=>kp c o y B (m c o y B e)
def l9{ø:æ}{w:Þ}{A:ñ}{E:Value->É->Prop}{s:É}{l:Ç}{o:Obj}{its:Á Value}{n:Nat}{kvs:Á Êb}{Q:Value->É->Prop}(O:ğa=Ã)(z:ð l=À o)(x:àb=.type đ)(y:Čf=Ã)(f:Ýa=.seq Ŷ n)(R:ŗ=Ëb)(W:∀(j:Nat)(g:zR×Value),kvs[j]?=À g->∃v,its[j]?=À v/\Ml Ü v g.1 g.2)(hz:ŗ<=Ý)(h:∀h' tk,ŝg ăa Õ (ér (λa g=>Ťc a g.1 g.2) [])->(∀b o,ð b=À o->ā b=À o)->Q ĝa { s with á:=h',Ć:=tk }) :Ó à A (Ėb Ŀc ęk) Q E s:=by
 refine callType_codes (Q₁:=λu L=>u=.ref Õ/\L={ s with á:=åa { cls:=.type Üa,ü:=.dict #[] } }) F.kt_called_dict (F.kt_typeCall_dict_1 _) F.entry_dict_init (kt_code_dict_new _ ⟨rfl,rfl⟩) ?_;rintro u L ⟨rfl,rfl⟩;have d:(Žl).DictOf ăa Õ []:=ŀo Ü;refine⟨d.typeIs,F.args_dict_init_2 _ _,?_⟩;unfold Builtin.«dict.__init__»;refine Ì ?_;unfold Builtin.Dict.selfAndRest;refine Ì (wpAny_notOrdered_dict d.typeIs ?_);show Ó _ _ (pure (Õ,[Đ l])) _ _ _;refine ë ?_;show Ó _ _ (Ųm "dict.__init__" Õ ûc [] .none) _ _ _;unfold Ųm;have q:=Č z;have m:(Žl).get? l=À o:=ċ _ z;refine Ì (ňd (T := đ) ⟨o,m,x⟩ ?_);rw[Ë įk];refine Ì (mq (o:=o) m x f y (am_miss_of_fast Üc) Ð Äq (λp I k=>?_) Ð);rw[Ë įk];have t:p.DictOf ăa Õ []:=d.Li λo e=>k _ _ e
 have C:p.get? l=À o:=k _ _ m;have H:p.IsList l Ŷ:=⟨o,C,x,n,f⟩
 have c:Õ<p.objs.size:=by obtain⟨G,_,_,e,_⟩:=t;exact Č e
 show Ó _ _ (pure () >>= _) _ _ _;refine Ì Ŀr;refine Ĺd (s:={ s with á:=p,Ć:=I }) H ?_;refine ë ⟨ħe O0 _,ĝc RY ?_⟩;rw[Ĳd O0 _];have K:∀b i,ð b=À i->(p.push { cls:=.type ŝi,ü:=.fields #[.ref l,.int 0 0] }).get? b=À i:=λb i e=>ċ _ (k b i žd)
 refine dY (l:=l) (its:=its) (A:=ãb) Äq (y_ (įa q)) (y_ ąh) (y_ (Ŭ (đg q c))) kvs 0 [] _ ⟨_,Ţ _ rfl,rfl,rfl⟩ ⟨o,K l o z,x,n,f⟩ (by rw[ń];exact R) (λj g e=>?_) (t.push _) ŏn λh' tk J S=>?_;obtain⟨v,P,b,B,rfl,U,G,e1,r⟩:=W j g e;exact⟨_,by rw[ń];exact P,b,B,rfl,U,G,K b G e1,r⟩;refine⟨rfl,h h' tk J λb i e=>?_⟩;have N:=Č e;exact S b i (y_ (Ŭ N)) (y_ (Ŭ (đg N c))) (K b i e)
section
variable{X:Cx}
theorem aJ{n:Á í}{σ:St}{H:Hp}{s:É}(I:Inv X n σ H s):∀{kvs:Á ķa} {vs:Á V} {its:Á Value},zf vs its->ŗ=Ą->(∀(j:Nat)(kv:zR×V),kvs[j]?=À kv->∃b,vs[j]?=À (Ųa b)/\yo X.K H b ſi)->
  ∃ws:Á Êb,KV kvs ws/\∀(j:Nat)(kw:zR×Value),ws[j]?=À kw->∃v,its[j]?=À v/\Ml Ü v kw.1 kw.2
 | [],_,_,_,_,_=>⟨[],.nil,λj kw e=>by cases e⟩|kv::kvs,[],_,_,h,_=>by cases h|kv::kvs,_::vs,_::its,.cons r t,h,hp=>by
  obtain⟨ws,m,i⟩:=aJ I t ĩa λj d e=>by obtain⟨b,e1,q⟩:=hp Ëa d îb;exact⟨b,by simpa using e1,q⟩
  obtain⟨b,e1,k⟩:=hp 0 kv rfl;cases e1;obtain⟨o,f,l,_⟩:=òa k;obtain⟨c,x,rfl,a,g⟩:=HP f;refine⟨(kv.1,x)::ws,.cons ⟨rfl,g⟩ m,λj kw e=>?_⟩;cases j with
  |áa=>cases e;exact⟨_,rfl,b,c,r,kU (P:=ö) (w:=X.w) a,l⟩|âa j=>obtain⟨v,e2,q⟩:=i j kw îb;exact⟨v,by simpa using e2,q⟩
def z6v(K:Î):Á V->Hp->VK->Prop:=λc H Q=>∃a vs kvs,c=Ôa/\yL K H a vs/\ŗ=Ą/\(∀(j:Nat)(kv:zR×V),kvs[j]?=À kv->∃b,vs[j]?=À (.ref b)/\yo K H b ſi)/\∀p,H p=Ã->Q ŝ (Ο (.dK (kY [] kvs)))
def l8(b:Ű=Â):vA X Ŀc (z6v X.K):=by
 intro N s σ H G L Q I r h;obtain⟨a,J,c,rfl,C,l,E,q⟩:=h;obtain⟨u,rfl,F⟩:=u_ r;cases(show u=Đ a from F);obtain⟨g,i,⟨o,n,A,p,f,e⟩,t⟩:=Ź C;obtain⟨B,k,z⟩:=aJ I i l E;have d:B.length=õc:=by rw[<-k.length,l,ôc]
 refine l9 ŝk A p f e d z (by rw[d,<-ôc];exact t) λO v x w=>?_
 have j:(Śr).length<=Ý:=by have y:=Sv c [];rw[Ód]at y;omega
 have m:Şq=Ä:=by have:=I.big;rw[ķn];exact y_ Śq
 exact⟨.ref Õ,_,Úb (a:=Õ) (o:=.dK Śr) (t':=v) w Ċ (D7 j m (k.merge .nil) x),rfl,q _ Ĉd⟩
omit a
def VD:Á D->Æ (Á Ň×Á D)
 | []=>À ([],[])|.tup [k,v]::r=>(ur k).bind λk=>(VD r).bind λp=>À (k::p.1,v::p.2)|_=>Ã
def vB{α:Type}:Á Ň->Á α->Á Ň->Á α->Á Ň×Á α
 |ks,ds,k::r,v::q=>vB Ŭg (wL ks ds k v) r q|ks,ds,_,_=>(ks,ds)
def Jz:Á D->Æ D
 | [.lst xs]=>(VD xs).bind λp=>À (.dic Żn.1 Żn.2)|_=>Ã
theorem au:∀{ks:Á zR}{us:Á V}{as:Á zR}{vs:Á V},Ŀ=ća->Æk=Ą->kY Įq ūe=Œd.1.zip Œd.2/\Œd.1.length=Œd.2.length
 | [],[],as,vs,_,h=>⟨rfl,h⟩|k::ks,u::us,as,vs,h1,h2=>by have a:=au (ks:=ks) (us:=us) (as:=w_ as k) (vs:=wL as vs k u) Ãg (VQ h2);refine⟨?_,a.2⟩;show kY (ue Įq k u) ūe=_;rw[Hk h2];exact a.1
theorem aq{K:Î}{G:Hp}:∀{ks:Á zR}{es:Á D}{us:Á V}{as:Á zR}{ds:Á D}{vs:Á V},ã K G es us->ã K G ds vs->Ŀ=ća->Æk=Ą->ã K G ői.2 Œd.2/\ői.1=Œd.1
 | [],es,us,as,ds,vs,r1,r2,h1,h2=>by
  have e1:vB as ds [] es=(as,ds):=by unfold vB;rfl
  have e2:vB as vs [] us=(as,vs):=by unfold vB;rfl
  rw[e1,e2];exact⟨r2,rfl⟩
 |k::ks,es,[],as,ds,vs,r1,r2,h1,h2=>by cases h1|k::ks,[],u::us,as,ds,vs,r1,r2,h1,h2=>by cases(show _=[]from r1)|k::ks,e::es,_::_,as,ds,vs,r1,r2,h1,h2=>by obtain⟨v,r,a,b,c⟩:=r1;cases a;exact aq (ks:=ks) (es:=es) (as:=w_ as k) c (r2.put b) Ãg (VQ h2)
theorem ao{α:Type}:∀{ks:Á zR}{es:Á α}{as:Á zR}{ds:Á α},Æk=ú->ői.2.length<=ú+õr
 | [],es,as,ds,_=>by
  have e:vB as ds [] es=(as,ds):=by unfold vB;rfl
  rw[e];exact ïb _ _
 |_::_,[],as,ds,_=>by
  have e:∀k ks,vB as ds (k::ks) ([]:Á α)=(as,ds):=λ_ _=>by unfold vB;rfl
  rw[e];exact ïb _ _
 |k::ks,e::es,as,ds,h=>by have a:=ao (ks:=ks) (es:=es) (as:=w_ as k) (ds:=wL as ds k e) (VQ h);have:=Cf (ks:=as) (vs:=ds) (k:=k) (v:=e) h;show(vB (w_ as k) (wL as ds k e) ks es).2.length<=_;rw[Ă];omega
theorem Sk{K:Î}{G:Hp}:∀{xs:Á D}{vs:Á V}{ks:Á zR}{ds:Á D},VD xs=À (ks,ds)->ã K G xs vs->∃us,ã K G ds us/\Ŀ=ća/\Ŀ=Ą/\∀(j:Nat)(kv:zR×V),ūe[j]?=À kv->∃b,vs[j]?=À (Ųa b)/\yo K G b ſi
 | [],_,_,_,h,r=>by cases h;cases(show _=[]from r);exact⟨[],rfl,rfl,rfl,λj kv e=>by cases e⟩|x::xs,_,ks,ds,h,r=>by
  obtain⟨v,B,rfl,l,q⟩:=r;unfold VD at h
  split at h;rename_i e;cases e;rename_i k y C e;cases e;obtain⟨u,t,h⟩:=zD h;obtain⟨⟨o,g⟩,n,h⟩:=zD h;cases h;obtain⟨us,s,m,p,f⟩:=Sk n q;obtain⟨b,E,rfl,w,⟨A,_,rfl,a,⟨d,_,rfl,c,i⟩⟩,_⟩:=l;cases(show _=[]from i);refine⟨d::us,⟨d,us,rfl,c,s⟩,by rw[Ă,Ă,m],by rw[Ă,Ă,p],λj kv e=>?_⟩;cases j with
  |áa=>cases e;refine⟨b,rfl,?_⟩;rw[<-kW t a];exact w|âa j=>obtain⟨z,e1,e2⟩:=f j kv îb;exact⟨z,by simpa using e1,e2⟩
  cases h
def z9g{X:Cx}{e:Ñ}{fs:FA}{p pos:Pos}(f:Ű=Â)(L:Gl X Üa)(z:ó Üa=Ã)(hv:ŧ Üa=À Ŀc)(P:SA X [e] fs)(K:Ê Ća q12):SF X ľn (eL Jz fs):=by
 obtain⟨t,A,k⟩:=P.h;refine⟨⟨_,(XU (l8 f) L z hv ⟨A⟩ Ð Ð (by rw[ţ,K];rfl)).h,λ{W U G H τ σ d Q} E c q=>?_⟩⟩;obtain⟨ds,y,c⟩:=zD c;refine k E y λvs T O g R=>?_
 unfold Jz at c
 split at c;rename_i S;obtain⟨⟨ks,es⟩,I,c⟩:=zD c;cases c;obtain⟨v,rfl,a,u,rfl,J,o,l⟩:=qc R;obtain⟨us,r,i,n,w⟩:=Sk I o;obtain⟨F,B⟩:=au (ks:=ks) (us:=us) (as:=[]) (vs:=[]) i rfl;obtain⟨C,s⟩:=aq (ks:=ks) (as:=[]) (ds:=[]) (vs:=[]) r rfl i rfl;refine⟨a,u,Ďf us,rfl,u9 g.gh J,by rw[Śd,i,Ķc,<-i,n],λj N e=>?_,λp m=>?_⟩;obtain⟨b,e1,e2⟩:=w j N e;exact⟨b,e1,uA g.gh e2⟩;refine q p _ _ (Ňk (ļa g.gh m)) (g.h.free m) (ôr m) ⟨ġo.2,?_,?_,C,?_⟩;show zX O p (.dK (kY [] ūe)) p=À (.dK (Œi.1.zip ġo.2));rw[yk,s];exact ů (λx=>À (HO.dK x)) F;show Œi.1.length=_;rw[s];exact B;have:=ao (ks:=ks) (es:=es) (as:=[]) (ds:=[]) rfl;have e1:õr=u.length:=by rw[<-ż,<-i,n]
 rw[ýd]at e1;show Œi.2.length<=Ý;simp only[Ód,ń]at this;omega;cases c
open Ďb Builtin Ăq
section
variable{X:Cx}{e o a b c:Ñ}{f fo:FE}{x:Str}{xp p pos Ìa ź:Pos}
noncomputable def Xk:Á D->Æ (Á Str)
 | []=>À []|.str z::r=>(Xk r).bind λa=>À (z::a)|_=>Ã
def DI:D->D->Æ D
 |.str sep,.lst xs=>(Xk xs).bind λa=>if(òe (·.length)).sum+Ġa*éd<=yD then À (.str (glued sep a))else Ã|_,_=>Ã
theorem cv{K:Î}{G:Hp}:∀{xs:Á D}{vs:Á V}{ts:Á Str},Xk xs=À ts->ã K G xs vs->vs=Ďd ĩh
 | [],_,_,h,r=>by cases h;exact r|x::xs,_,ts,h,r=>by
  obtain⟨v,f,rfl,c,d⟩:=r;unfold Xk at h
  split at h;rename_i e;cases e;rename_i z g e;cases e;obtain⟨b,a,h⟩:=zD h;cases h;rw[Ŗ,(show v=_/\_ from c).1,cv a d];cases h
def z94(K:SE X o fo)(C:SB X e f)(b:Ê (Ģb o "join" Ö ĳj=Ę o Ö) q12)(c:Ê ŏb q12)(k:Ê Ća q12) :SE X (Κb (.Attribute o "join" Ìa)) (e2 DI fo f):=by
 obtain⟨P,I,u⟩:=K.h;obtain⟨U,p,t⟩:=(qH C qd k).h;refine⟨⟨_,(QC PySem.F.plainAttrs_str PySem.F.slot_str_join PySem.F.type_str_join z0z ⟨I⟩ ⟨p⟩ b c (by rw[ţ,k];rfl) Ģe).h,λ{G0 Z G H τ σ d Q} E a q=>?_⟩⟩;obtain⟨x,n,a⟩:=zD a;obtain⟨y,N,a⟩:=zD a;refine u E n λv S H1 l z=>?_
 cases x with
 |str sep=>
  obtain⟨rfl,Y⟩:=z;refine⟨rfl,t (Đa l) (ds:=[y]) (by unfold zB;rw[N];rfl) λT W R s r=>?_⟩;obtain⟨w,rfl,j⟩:=qc r;cases y with
  |lst xs=>
   obtain⟨g,i,a⟩:=zD a;obtain⟨B,O,rfl,L,J,_⟩:=j;have A:=cv i J;subst A;by_cases cc:(g.map (·.length)).sum+õc*éd<=yD;rw[Ë cc]at a;cases a;have m:(g.map (·.length)).sum+õc*éd<=Ý:=by rw[ś];exact cc
   exact⟨sep,B,g,rfl,rfl,L,m,q _ _ _ (òh s) ⟨rfl,ŏ (S9 sep g) m⟩⟩;rw[Ï cc]at a;cases a
  |_=>cases a
 |_=>cases a
def Pv:ŧ Üa=À Ŀc:=by decide +kernel
def QM(i:Nat)(k v:FE):FS:=λσ=>(v σ).bind λy=>match σ[i]? with
 |À ĭe=>(ıh).bind λx=>match x with
  |.int j=>(ľj).bind λn=>À (.nx ğr)|_=>Ã
 |_=>Ã
theorem Íh{K:Î}{G:Hp}{d:D}{v:V}(hv:zS K G d v):∀{ds:Á D}{vs:Á V}(n:Nat),ã K G ds vs->ã K G (Ïl n d) (vs.set n v)
 | [],_,_,r=>by cases(show _=[]from r);rfl|d'::ds,_,0,r=>by obtain⟨u,c,rfl,b,a⟩:=r;exact⟨v,c,rfl,hv,a⟩
 |d'::ds,_,n+1,r=>by obtain⟨u,c,rfl,b,a⟩:=r;exact⟨u,_,rfl,b,Íh hv n a⟩
def y0l(J:QE X Âa Ċc)(hk:SE X k fk)(hv:SE X v fv)(L:Ê Ņg q12)(O:Ê (āg Ŏf v ňc Ö=pure Ä) q12)(I:Ê (Ăg Ŏf v Ö=pure Ã) q12)(F:Ê ((Éd Ŏf Ö).map (·.2)=[Żb Ûn Ö]) q12):SS X Ŝn (QM i fk fv):=by
 obtain⟨W,r,A⟩:=ġd;obtain⟨tv,Q,S⟩:=Ďc;refine⟨⟨_,CZ Q (bD J ⟨r⟩ cK L).h O I F,λ{G0 H0 G H τ σ T E} K a q=>?_⟩⟩;obtain⟨y,N,a⟩:=zD a;refine S K N λw Z U R s=>?_
 split at a;rename_i ds d;obtain⟨P,m,a⟩:=zD a;cases P with
 |int j=>obtain⟨n,C,a⟩:=zD a;cases a;have c:=ÿa R;obtain⟨t,e,g,z,o,B,f,l⟩:=c.ow _ _ d;refine⟨_,e,A c m λu G2 Y b p=>?_⟩;cases(show u=_ from p);refine⟨t,o,j,n,rfl,rfl,b.h _ _ B,by rw[ŏc];exact C,?_⟩;exact q _ _ _ ((c.go b).UI d e ⟨_,yk,Íh (s.mono b.g) n (f.mono b.g),by rw[ŭ];exact l⟩)
 |_=>cases a
 cases a
noncomputable def VU(j i:Nat):FS:=λσ=>match σ[i]? with
 |À ĭe=>(ds.getLast?).bind λd=>if j=i then Ã else À (Φd (Ξ (À (Â,.lst èq))))|_=>Ã
theorem Đp{K:Î}{G:Hp}{ds:Á D}{vs:Á V}(r:ã K G ds vs):ã K G èq vs.dropLast:=by rw[èn,èn,ż];exact r.take _
omit a
omit L3
namespace L2
open ľ Ŕ ň
def MY(K:Î)(a:Ç):It:=
  ⟨λi H=>∃xs x,yL K H a xs/\xs[i]?=À x,
   λi H v b=>∃p,H p=Ã/\v=.ref p/\∀xs,yL K H a xs->∃x,xs[i]?=À x/\b=zX H p Ňg,
   λi H=>∃xs,yL K H a xs/\â<=i⟩
def y2n{P:æ}{w:Þ}{K:Î}{r:Á Ñ}{N:Nat}{pos:Pos}(a e it:Ç)(t:e≠it) :ZS P w K (.Tuple r N pos) ĳk [e,it] e (λi h=>(∃old,IsEnum h e it (i:Int) old)/\üj it a i) where
 mem:=by simp
 obj:=λi h st c b=>by obtain⟨⟨old,g⟩,⟨o2,j,_,d2⟩⟩:=st;simp only[Ãb,Ėa,Òb]at b;rcases b with rfl|rfl;exact⟨_,g,λv q=>nomatch q⟩;exact⟨_,j,λv q=>by rw[d2]at q;cases q⟩
 ŷa:=λi h h' st k=>by obtain⟨⟨old,g⟩,j⟩:=st;exact⟨⟨old,k e ê _ g⟩,j.at λo x=>k it ê o x⟩
 ŋb:=by
  intro X hP hw Q b i z8 s σ H E I C st hg;subst hP hw Q;obtain⟨⟨old,g⟩,j⟩:=st;obtain⟨xs,x,y,ex⟩:=hg;obtain⟨O,Y,pu,_⟩:=Ź y;have L:=år;obtain⟨B,T,rxu⟩:=Y.get ex;have f:Ār[i]?=À B:=by rw[Ŀd];exact T
  have p:e<Õ:=Č g;have lt2:it<Õ:=by obtain⟨o,z,_⟩:=j;exact Č z
  refine wpAny_pyNext_enum_item g j L f t λS J m R hz1 hk1=>?_
  refine⟨_,rfl,wpAny_letOwnedTupleGo_enum (s:={ s with á:=S,Ć:=Ĉ+1 }) J λA he2 d=>?_⟩
  replace d:Ša e S A:=d
  have Z:ð Õ=Ã:=by
   cases q:ð Õ with
   |Ã=>rfl|À o=>exact Û Ćh úa
  have n:H Õ=Ã:=řb Ċ;have G:Ĩh Õ=À { cls:=.type Ũ,ü:=.seq #[.int i Ĉ,B] }:=đk _ _ (įa p) R
  have N:∀c o,c ∉ [e,it]->ð c=À o->Ĩh c=À o:=λc o b z=>by simp only[Ãb,Ėa,Òb,ėh]at b;exact đk _ _ b.1 (hk1 c o b.1 b.2 z)
  have U:xU ö X.w (zX H Õ Ňg) A Õ Ňg:=⟨Źm,[.int i Ĉ,B],.cons ⟨_,rfl⟩ (.cons rxu .nil),⟨_,G,rfl,_,rfl⟩⟩;refine⟨.ref Õ,zX H Õ Ňg,I.N5 (tk:=Ĉ+1) C N Z n U,rfl,⟨Õ,n,rfl,λxs' f=>?_⟩,⟨⟨B,?_⟩,m.at λo z=>đk _ _ t.symm z⟩,λc b=>?_⟩;rw[I.JM f y];exact⟨x,ex,rfl⟩;rw[show((i+1:Nat):Int)=(i:Int)+1 from rfl];exact he2;rw[yP];exact(C c b).1;intro q
  have l:c<Õ:=by simp only[Ãb,Ėa,Òb]at b;rcases b with rfl|rfl;exact p;exact lt2
  rw[q]at l;exact Û l úa
 done:=by
  intro X hP hw Q b i z8 s σ H E I C st hg;subst hP hw Q;obtain⟨⟨old,g⟩,j⟩:=st;obtain⟨xs,y,hend⟩:=hg;obtain⟨O,Y,pu,_⟩:=Ź y;have L:=år
  have f:Ār[i]?=Ã:=by rw[Ŀd];exact ëb (by have:=Ée;omega)
  refine wpAny_pyNext_enum_end (by exact Ōa b) g j L f λS F=>?_
  refine⟨rfl,I.but (tk:=Ĉ) C λc ob u eb=>?_⟩;simp only[Ãb,Ėa,Òb,ėh]at u;exact F c ob u.2 eb
 Ŵc:=λ_ _ _ _ _ st h=>by obtain⟨⟨old,g⟩,_⟩:=st;exact Ôo g h
section
variable{X:Cx}
def rD(K:Î)(c:TA):TI:=λσ H R=>c σ H λd b=>∃a xs,d=Ôa/\yL K b a xs/\R ĳk b
def z5g{a:Ñ}{k:TA}{p pos:Pos}{e:Á Ñ}{z:Nat}{w:Pos}(F:Gl X ãc)(v:ó ãc=Ã)(L:PA X [a] k)(E:Ê ÿm q12) :PI X (.Tuple e z w) ļn (rD X.K k):=by
 intro m s σ H R I h;refine Ňh (XC I F v boot_enumerate (đe (zt (L pos m s σ H _ I h) λA b ⟨P,r,f,N,C⟩=>?_) (by rw[E];rfl) rfl));obtain⟨l,O,rfl,t,q⟩:=C;obtain⟨u,rfl,J⟩:=u_ N;cases(show u=Đ l from J);obtain⟨A,_,G,_⟩:=f.list t;refine call_enumerate_list G.isList λo g i y B=>?_
 have x:Inv X m σ r { b with á:=o }:=f.kept (t':=b.toks) B;refine Ôo (s:={ b with á:=o }) g ?_;generalize hn:Ċo=n at g i y;refine⟨n+1,[n+1,n],_,_,r,rfl,x,y2n l Ĝ n (y_ Å),⟨⟨_,g⟩,i⟩,λc j=>?_,q⟩
 have d:Ċo<=c:=by rw[hn];simp only[Ãb,Ėa,Òb]at j;rcases j with rfl|rfl;exact ïb _ _;exact æa _
 exact f.WB d (f.zd.fresh d)
omit a
omit L2
namespace L3
open ľ Ŕ ň L2
noncomputable def jh(xs:Á D):Á D:=ķc (λ(i:Nat) x=>Įf Űh) (Ía â) xs
def gO(a:FE):FA:=λσ=>(Þa).bind λd=>match d with
 |.lst xs=>À Ďh|_=>Ã
def XJ(xs:Á D):(Ďh).length=â:=by simp[jh]
theorem Il(xs:Á D)(i:Nat):Ďh[i]?=(xs[i]?).map λx=>Įf Űh:=by unfold jh;rw[æn];by_cases h:i<â;rw[īe h,č h];rfl;rw[ëb ĩa,ëb Å];rfl
section
variable{K:Î}{G H:Hp}
def mU(g:yL K G a vs)(f:ã K G xs vs):kG K ĳk G Ďh where
 go:=λi e H c b d=>by rw[XJ]at d;obtain⟨v,e1,_⟩:=f.get Ĉh;exact⟨vs,v,u9 řk g,e1⟩
 ui:=λi e H x q c b d y=>by obtain⟨p,h,rfl,k⟩:=y;obtain⟨v,e1,rfl⟩:=k vs (u9 řk g);obtain⟨j,o,l⟩:=f.at e1;refine⟨zX e p Ãr,.tup [.int (i:Int),j],ŝc b h,by rw[Il,o];rfl,?_⟩;have m:zo G (zX e p Ãr):=ĸb (vJ (b.free h) _);exact⟨p,Ģm,rfl,ŭc yk,⟨_,_,rfl,rfl,⟨v,_,rfl,Ěh m,rfl⟩⟩,Þb (n:=2) Ð⟩
 Ŕa:=λi e H c b d=>by rw[XJ]at d;exact⟨vs,u9 řk g,by rw[ŏc];exact d⟩
omit a
def Gc(s:Gl X ãc)(j:ó ãc=Ã)(w:SE X a fa)(d:Ê Ŵd q12):SI X Śn ļn (gO fa):=by
 obtain⟨t,m,k⟩:=(Ĝq).h;refine⟨⟨_,z5g s j m æl,λ{C B G H τ σ ds R} K b q=>?_⟩⟩;obtain⟨x,i,b⟩:=zD b;cases x<;>first|(cases b;done)|skip
 cases b;rename_i l;refine k K (ds:=[.lst l]) Ŧm λA F E e y=>?_
 obtain⟨v,r,rfl,o,z⟩:=y;cases(show r=[]from z);obtain⟨u,c,rfl,f,g,n⟩:=o;exact⟨u,c,rfl,u9 e.gh f,q _ _ _ e (by rw[XJ];exact n) (mU f g)⟩
omit L3
namespace L2
open ľ Ŕ Ďb ň
noncomputable def ğd(a:Int):Á Int->Á Int
 | []=>[a]|b::r=>if a<=b then a::b::r else b::ğd a r
def łb:Á Int->Á Int
 | []=>[]|a::r=>ğd a (łb r)
theorem Fc(a:Int):∀l:Á Int,(Ďr).Perm (a::l)
 | []=>Žc _|b::r=>by
  unfold ğd
  split;exact Žc _;exact((Fc a r).cons b).trans (Èp a b r)
theorem ŀc:∀l:Á Int,(łb l).Perm l
 | []=>Žc _|a::r=>(Fc a _).trans ((ŀc r).cons a)
theorem SQ(a:Int):∀{l:Á Int},l.Pairwise (·<=·)->(Ďr).Pairwise (·<=·)
 | [],_=>by simp[ğd]|b::r,h=>by
  obtain⟨e,f⟩:=ġe h;unfold ğd
  split;rename_i c
  exact ïi ⟨λx d=>by rcases ę d with rfl|d;exact c;exact Ĕg c (e x d),h⟩;rename_i c;refine ïi ⟨λx d=>?_,SQ a f⟩;rcases ę ((Fc a r).mem_iff.mp d)with rfl|d;omega;exact e x d
theorem Fg:∀l:Á Int,(łb l).Pairwise (·<=·)
 | []=>Ög|a::r=>SQ a (Fg r)
theorem Gf:∀{a b:Á Int},a.Perm b->a.Pairwise (·<=·)->ŋq (·<=·)->a=b
 | [],b,p,_,_=>(List.nil_perm.mp p).symm|x::a,[],p,_,_=>by cases ģj|x::a,y::b,p,ha,hb=>by
  obtain⟨i,f⟩:=ġe ha;obtain⟨g,h⟩:=ġe hb
  have e:x=y:=by have d:x∈y::b:=Ŕp ĳb;have c:y∈x::a:=p.mem_iff.mpr ĳb;rcases ę d with rfl|d;rfl;rcases ę c with e|c;exact ĝh;exact Int.le_antisymm (i y c) (g x d)
  subst e;rw[Gf (List.perm_cons x |>.mp p) f h]
theorem Fe:∀{ns:Á Int}{its:Á Value},Ľb its ns->zf Áb its
 | [],_,.nil=>.nil|_::_,_,.cons _ _ r=>.cons ⟨_,rfl⟩ (Fe r)
omit L2
namespace L3
open ľ Ŕ ň L2
def Px:ŧ įb=À Îg:=by decide +kernel
noncomputable def źb:Á D->Æ ũg
 | []=>À []|.int i::r=>(ŗk).bind λa=>À íl|_=>Ã
theorem SX:∀{ds:Á D}{ns:Á Int},źb ds=À ns->ds=Ŏa Ħ
 | [],_,h=>by cases h;rfl|d::ds,ns,h=>by
  unfold źb at h
  split at h;rename_i e;cases e;rename_i i r e;cases e;obtain⟨b,a,h⟩:=zD h;cases h;rw[SX a];rfl;cases h
theorem bf{K:Î}{G:Hp}:∀{ns:Á Int}{vs:Á V},ã K G Ła vs->vs=Ŏa Ĕb
 | [],_,r=>r|n::ns,_,r=>by obtain⟨v,c,rfl,a,b⟩:=r;rw[bf b,show v=Ĕb n from a];rfl
theorem SR{K:Î}{G:Hp}:∀ns:Á Int,ã K G Ła Áb
 | []=>rfl|n::ns=>⟨.int n,_,rfl,rfl,SR ns⟩
noncomputable def TC:D->D->Æ D
 |.lst x,.lst y=>if òc+üd<=yD then À Čj else Ã|_,_=>Ã
def mi{x y d:D}(h:TC x y=À d):∃xs ys,x=.lst xs/\y=.lst ys/\â+œ<=yD/\d=.lst Œg:=by
 unfold TC at h
 split at h;rename_i xs ys;by_cases c:â+œ<=yD;rw[Ë c]at h;cases h;exact⟨_,_,rfl,rfl,c,rfl⟩;rw[Ï c]at h;cases h;cases h
section
variable{X:Cx}{a b:Ñ}{fa fb:FE}{x:Str}{pos:Pos}
def z9f(R:SE X a fa)(r:SE X b fb):SF X (.BinOp a .Add b pos) (e2 TC fa fb):=by
 obtain⟨S,J,N⟩:=R.h;obtain⟨Y,n,O⟩:=r.h;refine⟨⟨_,CV aD J n,λ{G0 Z G H τ σ d Q} E i q=>?_⟩⟩;obtain⟨x,o,i⟩:=zD i;obtain⟨y,K,i⟩:=zD i;refine N E o λv U H1 m C=>?_
 refine O (Đa m) K λu W T f w=>?_
 obtain⟨t,B,rfl,rfl,c,rfl⟩:=mi i;obtain⟨F,z,rfl,L,l,_⟩:=C;obtain⟨s,I,rfl,A,k,_⟩:=w;have P:(t++B).length<=Ý:=by rw[ś,ä];exact c
 have e:=Õe f;refine⟨F,s,z,I,rfl,rfl,u9 (f.g.trans f.gh) L,u9 f.gh A,by rw[Üf,k.length,ś];exact c,λp j=>?_⟩;exact q p _ _ (ýc (ļa e.gh j)) (e.h.free j) (ýj j) ⟨_,yk,(Ěh f.g).append k,P⟩
omit a
noncomputable def VS(i:Nat)(e:FE):FS:=λσ=>match σ[i]? with
 |À Łn=>(ėd).bind λy=>match y with
  |.lst ys=>if â+œ<=yD then À Űo else Ã|_=>Ã
 |_=>Ã
noncomputable def V7:D->D->Æ D
 |.lst x,.int k=>if 0<=k/\k<=1000000/\òc*ž<=yD then À (.lst (į ž x).flatten)else Ã|_,_=>Ã
def mo(h:V7 x y=À d):∃xs k,x=.lst xs/\y=.int k/\(0<=k/\k<=1000000/\â*ž<=yD)/\d=.lst (ũp).flatten:=by
 unfold V7 at h
 split at h;rename_i xs k;by_cases c:0<=k/\k<=1000000/\â*ž<=yD;rw[Ë c]at h;cases h;exact⟨_,_,rfl,rfl,c,rfl⟩;rw[Ï c]at h;cases h;cases h
theorem ĕk{K:Î}{G:Hp}{ds:Á D}{vs:Á V}(r:ã K G ds vs):∀k:Nat,ã K G (į k ds).flatten (į k vs).flatten
 |0=>rfl|k+1=>by rw[ğb,Êd,ğb,Êd];exact Æe (ĕk r k)
section
variable{X:Cx}{a b:Ñ}{f fa fb:FE}{x:Str}{pos:Pos}{e:Ñ}
def cN(I:SF X a fa)(s:SE X b fb):SF X (.BinOp a .Mult b pos) (e2 V7 fa fb):=by
 obtain⟨L,z,C⟩:=I.h;obtain⟨S,n,F⟩:=s.h;refine⟨⟨_,CV z4c z n,λ{U T G H τ σ d Q} E i q=>?_⟩⟩;obtain⟨x,r,i⟩:=zD i;obtain⟨y,A,i⟩:=zD i;refine C E r λp O W m P J o=>?_
 refine F (Đa m) A λu R N j t=>?_
 obtain⟨K,k,rfl,rfl,c,rfl⟩:=mo i;obtain⟨v,w,l,_⟩:=o;cases(show u=.int k from t);have e:=Õe j;refine⟨p,k,v,rfl,rfl,j.h _ _ w,by omega,by omega,by rw[Üf,ś];exact c.2.2,λB f=>?_⟩;refine q B _ _ (ýc (ļa e.gh f)) (e.h.free f) (ýj f) ⟨_,yk,ĕk (Ěh j.g) _,?_⟩;rw[ś,Su,šp];exact c.2.2
omit a
noncomputable def pG(τ:zy):Í:=τ.all λs=>match s with
 |À (Â,_)=>Ä|_=>Â
noncomputable def T3:Á D->Æ (Á Í)
 | []=>À []|.bl b::r=>(T3 r).bind λa=>À (b::a)|_=>Ã
theorem Pu:∀{ds:Á D}{bs:Á Í},T3 ds=À bs->ds=ğh ŷc
 | [],_,h=>by cases h;rfl|d::ds,bs,h=>by
  unfold T3 at h
  split at h;rename_i e;cases e;rename_i b r e;cases e;obtain⟨a,c,h⟩:=zD h;cases h;rw[Pu c];rfl;cases h
theorem bh{K:Î}{G:Hp}:∀{bs:Á Í}{vs:Á V},ã K G (ğh ŷc) vs->vs=ğh V.bl
 | [],_,r=>r|b::bs,_,r=>by obtain⟨v,d,rfl,a,c⟩:=r;rw[bh c,show v=V.bl b from a];rfl
def DG:Á D->Æ D
 | [.lst xs]=>(T3 xs).bind λa=>À (.bl (a.all id))|_=>Ã
def z26{K:Î}:Up K (bF K) DG:=λG H f i d Q s r b q=>by
 match f,b with
 | [.lst xs],b=>obtain⟨h,g,b⟩:=zD (show(T3 xs).bind _=À d from b);cases b;obtain⟨v,rfl,a,j,rfl,e,c,l⟩:=qc r;rw[Pu g]at c;rw[bh c]at e;exact⟨a,h,rfl,e,q _ _ _ ûa rfl⟩
omit L3
namespace L2
open ľ Ŕ Ďb ň
noncomputable def åb(ks:Á zR)(k:zR):Í:=ks.any λa=>decide (a=k)
def uX(a:Á zR)(k:zR):Á zR:=if åb a k=Â then a else a++[k]
theorem i7(a:Á zR)(k:zR):(uX a k).length<=Ġa+1:=by
 unfold uX
 split;omega;rw[ä];exact æa _
def Si{k:zR}{v:Value}(h:ut k v=Â):v.scannable=Â:=by rcases j8 h with⟨i,t,_,rfl⟩|⟨x,t,_,rfl⟩<;>rfl
section
theorem Sm(P:æ)(w:Þ):∀{ks:Á zR}{its:Á Value},zf Āg its->∀(j:Nat)(k:zR),ks[j]?=À k->∃v,its[j]?=À v/\ut k v=Â
 | [],_,.nil,j,k,h=>by cases h|k::ks,_,.cons r t,j,k',h=>by
  cases j with
  |áa=>cases h;exact⟨_,rfl,kU (P:=P) (w:=w) r⟩|âa j=>obtain⟨v,e,q⟩:=Sm P w t j k' ĩa;exact⟨v,by simpa using e,q⟩
omit a
omit L2
namespace L3
open ľ Ŕ ň L2
def iu:ŧ ļ=À İg:=by decide +kernel
omit L3
namespace L2
open ľ Ŕ Ďb ň
structure wX(t:Ŭa):Prop where
 du:Žj=#[]
 up:t.place.toList.Pairwise (·<·)
theorem Bq(l:İe (·<·))(j:Nat):∀(f lo hi:Nat),lo<=hi->hi<=Ģa->hi-lo<=f->(∀(i:Nat)(h:i<Ģa),i<lo->xs[i]<j)->(∀(i:Nat)(h:i<Ģa),hi<=i->j<=xs[i])->
  Ķe xs j f lo hi<=Ģa/\(∀(i:Nat)(h:i<Ģa),i<Ķe xs j f lo hi->xs[i]<j)/\(∀(i:Nat)(h:i<Ģa),Ķe xs j f lo hi<=i->j<=xs[i])
 |0,lo,hi,h1,h2,h3,a,b=>by unfold Ķe;exact⟨by omega,a,λi h c=>b i h Å⟩|f+1,lo,hi,h1,h2,h3,a,b=>by
  have d:∀(i k:Nat)(hi:i<Ģa)(m:k<Ģa),i<k->xs[i]<xs[k]:=λi k hi m c=>by have:=ďe l i k Âg (by simpa using m) c;simpa using this
  unfold Ķe;by_cases c:lo<hi;rw[Ë c];have g:ād/2<Ģa:=by omega
  have e:Ŀk Ŗk j=xs[ād/2]:=by simp[ũd,g]
  show(if Ŀk Ŗk j<j then _ else _)<=_/\_;dsimp only;rw[e];by_cases q:xs[ād/2]<j;rw[Ë q];refine Bq l j f (ād/2+1) hi Å h2 Å Įp b;by_cases y:i=ād/2;subst y;exact q;exact đg (d i _ h g Å) q;rw[Ï q];refine Bq l j f lo Ŗk Å Å Å a Įp;by_cases y:i=ād/2;subst y;omega;have:=d _ i g h Å;omega;rw[Ï c];exact⟨by omega,a,λi h z=>b i h Å⟩
def Br(a:İe (·<·))(j:Nat):Įa xs j<=Ģa/\(∀(i:Nat)(h:i<Ģa),i<Įa xs j->xs[i]<j)/\(∀(i:Nat)(h:i<Ģa),Įa xs j<=i->j<=xs[i]):=
 Bq a j Ģa 0 Ģa Ąc Ċ Å (λi _ h=>by omega) λi h c=>by omega
def z6f(d:İe (·<·))(k:xs[Įa xs j]?≠À j):(SetTable.insertAt xs (Įa xs j) j).toList.Pairwise (·<·):=by
 obtain⟨b0,h,f⟩:=Br d j;generalize Įa xs j=p at *;rw[SetTable.toList_insertAt];refine ėe ⟨ör (œl ..),ïi ⟨λa g=>?_,ör (Þo ..)⟩,λa g b e=>?_⟩;obtain⟨i,c,rfl⟩:=Īe g;rw[řa,Ģ]at c;rw[Ôg,ĝb];have o:=f (p+i) Å Å
 have n:xs[p+i]' Å≠j:=λz=>by
  cases i with
  |áa=>exact k (by rw[Àd Å];exact ů À z)|âa i=>have m:=f p Å Ċ;have l:=ďe d p (p+ï) Ŋe Ŋe Å;simp only[ĝb]at l;omega
 omega;have lt:a<j:=by obtain⟨i,c,rfl⟩:=Īe g;rw[ĕa,Ģ]at c;rw[ĺi,ĝb];exact h i Å Å
 rcases ę e with rfl|e;exact lt;obtain⟨i,c,rfl⟩:=Īe e;rw[řa,Ģ]at c;rw[Ôg,ĝb];have:=f (p+i) Å Å;omega
def Ad(h:wX t)(j:Nat):şp Žj j=Ä:=by rw[h.du];rfl
def y02(h:wX t)(j:Nat):(t.slot j=.empty/\Ůa[Įa Ůa j]?≠À j)\/∃i,t.slot j=.live i:=by unfold SetTable.slot;dsimp only;by_cases c:Ůa[Įa Ůa j]?=À j;rw[Ë (by rw[c];exact Īc _)];exact .inr ⟨_,rfl⟩;rw[Ï (by rw[ĺg];exact c),Ad h,Ï ģ];exact .inl ⟨rfl,c⟩
theorem ac(h:wX t):∀(n:Nat)(p:SetTable.Probe){j:Nat}{d:Æ Nat},p.dummy=Ã->ķi t f hh n p=À (.empty j d)->d=Ã/\Ůa[Įa Ůa j]?≠À j
 |0,p,j,d,hp,e=>by unfold ķi at e;cases e|n+1,p,j,d,hp,e=>by
  have a:(Ûr p).dummy=Ã:=by
   unfold SetTable.advance
   split;exact hp;exact hp
  unfold ķi at e;rcases y02 h p.j with⟨s,b⟩|⟨i,s⟩;rw[s]at e;dsimp only at e;cases e;exact⟨hp,b⟩;rw[s]at e;dsimp only at e
  split at e;cases e;exact ac h n (Ûr p) a e
def ĥf(t:Ŭa)(n:Nat):wX (t.standIn n):=⟨rfl,by show(Array.range n).toList.Pairwise (·<·);rw[Array.toList_range];exact Æn⟩
def wX.lay(h:wX t)(es:Ô Æb)(f:Int)(x:Value):wX (čf t es f x).2.1:=by
 unfold čf
 split;rename_i a wd b;dsimp only
 have c:wX (t.put a).1:=by
  unfold SetTable.freeSlot at b
  split at b;rename_i j d e;obtain⟨rfl,g⟩:=ac h _ _ (show(t.probeStart f).dummy=Ã from rfl) e;cases b;unfold SetTable.put;refine⟨?_,?_⟩;show(if şp Žj _=Â then _ else _)=_;rw[Ad h,Ï ģ];exact h.du;exact z6f h.up g;cases b
 unfold Ťn
 split;exact c;exact ĥf _ _;exact ĥf _ _
theorem wX.plain(h:wX t)(b:Í):wX { t with Ŵa:=b }:=⟨h.du,h.up⟩
def s_{f d g:Nat}{j i:Í}{k:Ô Int}{t':Ŭa}{h:Ô Nat}(e:ďp f d g j i k=À (t',h)):wX t'/\Æl=j:=by
 unfold ďp at e;cases c:SetTable.layClean f k with
 |Ã=>rw[c]at e;cases e|À owner=>rw[c]at e;cases e;refine⟨⟨rfl,?_⟩,rfl⟩;show((List.filterMap _ _).map _).Pairwise _;refine ào _ (R:=λa b:Nat×Nat=>a.1<b.1) (λa b z=>z) ?_;refine List.Pairwise.filterMap _ (R:=λa b:Nat=>a<b) (λa b z x l y m=>?_) Æn;obtain⟨_,_,rfl⟩:=Ōm l;obtain⟨_,_,rfl⟩:=Ōm m;exact z
def wX.h8(es:Ô Æb)(n:Nat)(h:wX t):wX ťp.2.1/\ťp.2.1.led=ůc:=by
 unfold Ņj
 split;rename_i b a e;dsimp only
 split;exact s_ e;exact⟨ĥf _ _,rfl⟩;exact⟨ĥf _ _,rfl⟩
def z04(t:Ŭa)(es:Ô Æb)(a:Int)(x:Value):(čf t es a x).2.1.led=ůc:=by
 unfold čf
 split;dsimp only;unfold Ťn
 split<;>rfl;rfl
section
variable{ø:æ}{w:Þ}{K:Type}[Ťb K]{knd:KeyKind ø w K}{A:ñ}{E:Value->É->Prop}
def a_{h:Heap}{a:Ç}{o:Obj}{es es2:Ô Æb}{ep:Nat}{t t2:Ŭa}(c:ĉ a=À o)(b:Ýa=.set es ep t) :(h.update a ŕn).get? a=À { o with ü:=.set es2 (ep+1) t2 }:=by have e:=ŀd ŕn c (by rw[är es2 t2 b];rfl);rw[är es2 t2 b]at e;exact e
def dD{s:É}{g:Í->Sem õa}(z:∀(b:Í)(r:É)(n:õa->É->Prop),n () r->Ó à A (g b) n E r){a:Ç}{o:Obj}{es:Ô Æb}{ep:Nat}{t:Ŭa}(m:ð a=À o)(l:Ýa=.set es ep t){c:Ô Æb}{t2:Ŭa}(v:Ðl<ŭb)(y:t2.fits Ðl=Â)(p:wX t2){wd:Í}{R:Æ Í->É->Prop}(h:∀(h':Heap)(es':Ô Æb) (e:Nat) (t':Ŭa),Ša a Ü h'->ā a=À { o with ü:=.set es' e t' }->ĺo Ēk->t'.fits es'.size=Â->wX t'->Æl=t2.led->R çk { s with á:=h' }) :Ó à A (storeSet a c t2 >>= λ_=>if(!wd&&t2.tooFull)=Â then g ĝi.2.2 >>= λ_=>storeSet a ĝi.1 ĝi.2.1 >>= λ_=>pure çk else pure çk) R E s:=by
 refine Ì (Ño (es':=c) (t':=t2) m l ?_ (ěe v));have d:=a_ (es2:=c) (t2:=t2) m l;have q:=ůh Ü a (Obj.putSet c t2)
 split;have k:=relayAll_perm t2 c če;have f:=relayAll_fits t2 c če;obtain⟨i,j⟩:=p.h8 c če;generalize Ņj t2 c če=L at *;obtain⟨es2,u,x⟩:=L;dsimp only at *;have B:es2.size=Ðl:=by rw[<-Ģ,k.length_eq,Ģ]
 refine Ì (z x _ _ (Ì (Ño (es':=es2) (t':=u) d rfl øa (ěe Å))));exact h _ es2 _ u (q.trans (ůh _ a _)) (a_ (o:={ o with ü:=.set c (ep+1) t2 }) d rfl) k f i j;exact ë (h _ c _ t2 q d Ąd y p rfl)
def i8{s:É}{a:Ç}{o:Obj}{es:Ô Æb}{ep:Nat}{t:Ŭa}{k:K}{x:Value}{Q:Í->É->Prop}(z:ďf k x=Â)(y:x.scannable=Â)(F:ð a=À o)(H:Ýa=.set es ep t)(r:Ōk knd éc)(N:ũ+1<ŭb)(R:ţc ũ=Â)(X:wX t)(Y:(∃e∈éc,ďf k e.2=Â)->Q Ä s)(P:(∀e∈éc,ďf k e.2=Ä)->∀(h':Heap)(es':Ô Æb) (c:Nat) (t':Ŭa),Ša a Ü h'->ā a=À { o with ü:=.set es' c t' }->ĺo (éc++[(knd.hash k,x)])->t'.fits es'.size=Â->wX t'->Æl=ůc->Q Â { s with á:=h' }) :Ó à A (öj a x ŧd) Q E s:=by
 unfold öj setAddHashedIn;refine ża (Ì (Ďe (es:=es) (t:=t) F H R ?_));dsimp only;rw[byScan_of y (ĩc N) r,Ë rfl];unfold setAddByScan;refine Ì (Ì (ņd (Ì (wpAny_setScan_of z F H R r ?_))));cases hr:List.findIdx? (λe=>ďf k e.2) éc with
 |À j=>dsimp only;obtain⟨T,U,_⟩:=List.findIdx?_eq_some_iff_getElem.mp hr;exact ë (ë (Y ⟨éc[j],Őd T,U⟩))
 |Ã=>
  dsimp only;have O:∀e∈éc,ďf k e.2=Ä:=λe S=>List.findIdx?_eq_none_iff.mp hr e S
  have I:∀(b:Í){B:É}{G:õa->É->Prop},G () B->Ó à A (match b with|Â=>rule "set.scan.the-table-gave-way" |Ä=>pure ()) G E B:=λb _ _ q=>by cases b;exact ë q;exact ņd q
  have C:=layNew_perm t es ŧd x;have h:=layNew_fits t es ŧd x;have d:=X.lay es ŧd x;have v:=z04 t es ŧd x;generalize čf t es ŧd x=L at *;obtain⟨n,i,wd,W⟩:=L;dsimp only at *;rw[Ĺe]at C
  have u:n.size<ŭb:=by rw[<-Ģ,āq,ä,Ģ];exact N
  refine Ì (I W ?_)
  split;refine Ì ?_;rw[hashByValue_scannable 8 y];refine ë ?_
  have m:wX ŕh/\(ŕh).led=i.led/\(ŕh).fits n.size=Â:=by split;exact⟨d,rfl,h⟩;exact⟨d.plain Ä,rfl,SetTable.fits_plain_off h⟩
  refine dD Űn F H u m.2.2 m.1 λh' es' c t' J g p f b l=>?_
  dsimp only;exact ë (Εd (ñh C) ((òh m.2.1).trans v));refine Ì øa;simp only[↓žj];refine dD Űn F H u h d λh' es' c t' J g p f b l=>?_
  dsimp only;exact ë (Εd (ñh C) (òh v))
omit a
noncomputable def Zk:Value->zR
 |.int i _=>.inl i|.str x _=>.inr x|_=>.inl 0
def Fk(h:ut k v=Â):Zk v=k:=by rcases j8 h with⟨i,t,rfl,rfl⟩|⟨x,t,rfl,rfl⟩<;>rfl
section
variable{ø:æ}{w:Þ}
def qQ(ø:æ)(w:Þ)(a:Ç)(ks:Á zR)(h:Heap):Prop:=∃o es ep t,ĉ a=À o/\Ŗj/\Ýa=.set es ep t/\Ōk ăa éc/\ũ<ŭb/\ţc ũ=Â/\wX t/\ůc=Ĉe/\(ăg λe=>Zk e.2).Perm ks
def qQ.keep{a:Ç}{ks:Á zR}{h h':Heap}(z:qQ ø w a ks h)(k:∀o,ĉ a=À o->ā a=À o):qQ ø w a ks h':=by obtain⟨o,d,b,t,c,r⟩:=z;exact⟨o,d,b,t,k o c,r⟩
def RX(b:Ōk ăa es)(c:e∈es):ut (Zk e.2) e.2=Â:=by obtain⟨⟨k,a,_⟩,_⟩:=b e c;have a:ut k e.2=Â:=a;rw[Fk a];exact a
def A5:åb ks k=Â↔k∈ks:=by unfold åb;rw[ēo];exact⟨λ⟨x,a,e⟩=>ŵ e▸a,λh=>⟨k,h,Ġ rfl⟩⟩
def qQ.add{A:ñ}{E:Value->É->Prop}{s:É}{a:Ç}{ks:Á zR}{k:zR}{x:Value}{Q:Í->É->Prop}(z:qQ ø w a ks Ü)(hk:ut k x=Â)(T:Ŀ+1<ŭb)(h:∀(h':Heap)(b:Í),(∀c o,c≠a->ð c=À o->ā c=À o)->qQ ø w a (uX ks k) h'->Q b { s with á:=h' }):Ó à A (öj a x ((ăa).hash k)) Q E s:=by
 obtain⟨o,C,R,t,H,G,L,d,F,J,I,K,j⟩:=z;have W:C.size=Ŀ:=by rw[<-j.length_eq,é,Ģ]
 refine i8 (knd:=xJ ø w) (k:=k) hk (Si hk) H L d Å J I (λ⟨e,u,q⟩=>?_) λP h' r v N S g p f B l=>?_;have q:ut k e.2=Â:=q;have m:åb ks k=Â:=A5.mpr (j.mem_iff.mp (Ői ⟨e,u,Fk q⟩));have y:uX ks k=ks:=by unfold uX;rw[m,Ë rfl]
 have:=h Ü Ä Õp (by rw[y];exact⟨o,C,R,t,H,G,L,d,F,J,I,K,j⟩);exact this;have m:åb ks k=Ä:=by
  cases c:åb ks k with
  |Ä=>rfl|Â=>
   exfalso
   obtain⟨e,u,q⟩:=ħb (j.mem_iff.mpr (A5.mp c));have i:=RX d u;rw[q]at i;have n:ut k e.2=Ä:=P e u;rw[n]at i;cases i
 have y:uX ks k=ks++[k]:=by unfold uX;rw[m,Ï ģ]
 have U:r.size=C.size+1:=by rw[<-Ģ,ģj,ä,Ģ];rfl
 refine h h' Â (λc X O e=>(S.2 c O).trans e) ?_;rw[y];refine⟨_,r,v,N,g,G,rfl,(d.push (knd:=xJ ø w) (k:=k) hk (Si hk)).perm p,by omega,f,B,òh K,?_⟩;refine(ħf λe=>Zk e.2).trans ?_;rw[ža];refine j.append (ìg ?_);show[Zk x]=[k];rw[Fk hk]
theorem z9e{A:ñ}{E:Value->É->Prop}{s:É}(a:Value){Q₁:Value->É->Prop}(h:Q₁ ĝa { s with á:=åa { cls:=.type ļ,ģd:=Ã,ü:=.set #[] 0 Ĭo } }) :ļb à A (.call (.builtin Ëj) ⟨Ýj,[]⟩) (wants Q₁ E) s:=by
 refine ļo (show Ó _ ãb (checkBuiltinCall Ëj ⟨Ýj,[]⟩ >>= λ_=>again (.builtin Ëj ⟨Ýj,[]⟩)) _ _ s from ?_);refine Ì (ġj (F.newCall_set_1 a) (ë ⟨ħe Ńo _,ĝc (F.entry_set_new) ?_⟩));rw[Ĳd (Ńo) _];unfold Builtin.«set.__new__» Builtin.Frozenset.newClass;have e:=sub_set_self;obtain⟨f,g,d,b,c⟩:=s;dsimp only
 wp_walk
 refine łf øa;dsimp only;simp only[newObj];exact Ì (wpAny_alloc ľr)
theorem cL{A:ñ}{R:ïe->É->Prop}{d it l:Ç}{its:Á Value}(K:ğa=Ã)(p:d≠l)(g:d≠it)(n:l≠it) :∀(ks:Á zR)(i:Nat)(acc:Á zR)(s:É),Öo it l i->Ïj l Ŷ->i+Ŀ=Ëb->(∀(j:Nat)(k:zR),ks[j]?=À k->∃v,its[i+j]?=À v/\ut k v=Â)->
   qQ ø w d acc Ü->Ōq+Ŀ+1<ŭb->(∀h' tk,qQ ø w d (ks.foldl uX acc) h'->(∀b o,b≠d->b≠it->ð b=À o->ā b=À o)->R Ųr { s with á:=h',Ć:=tk })->
   ļb à A (.builtin "set.update.loop" ⟨[.ref d,.ref it],[]⟩) R s
 | [],i,acc,s,st,hl,hn,hp,hd,hz,h=>by refine ĝc űm ?_;rw[Ĳd ūh _];unfold Builtin.«set.update.loop»;refine Ì (Éi (by exact K) st hl Ŕm λh' J=>?_);exact ë (h h' Ĉ (hd.keep λo e=>J d o g e) λb o _ N e=>J b o N e)|k::ks,i,acc,s,st,hl,hn,hp,hd,hz,h=>by
  obtain⟨v,Q,I⟩:=hp 0 k rfl;refine ĝc űm ?_;rw[Ĳd ūh _];unfold Builtin.«set.update.loop»;refine Ì (Ãi st hl (x:=v) (by simpa using Q) λC H O=>?_);have a:∀c o,c≠it->ð c=À o->C.get? c=À o:=λc o P e=>(O.2 c P).trans e
  have E:qQ ø w d acc C:=hd.keep λo e=>a d o g e
  rw[Ă]at hz hn;refine Ì (ża ?_);unfold setAdd;refine ża (Ì ((ăa).pyHash (k:=k) I ?_));refine E.add (s:={ s with á:=C,Ć:=_ }) I Å λS X m y=>?_
  have f:∀c o,c≠d->c≠it->ð c=À o->S.get? c=À o:=λc o t q e=>(m c o t (a c o q e))
  refine ë ⟨ħe (ūh) _,?_⟩;have W:=i7 acc k;refine cL (its:=its) K p g n ks ï (uX acc k) _ ?_ ?_ Å (λj U e=>?_) y Å λh' tk G T=>?_;exact H.at λo e=>m it o (λz=>g ÿc) e;obtain⟨o,e,r⟩:=hl;exact⟨o,f l o (λz=>p ÿc) n e,r⟩;obtain⟨L,u,B⟩:=hp Ëa U îb;exact⟨L,by rw[show i+1+j=i+Ëa by omega];exact u,B⟩;exact h h' tk G λc o t q e=>T c o t q (f c o t q e)
set_option maxHeartbeats 8000000 in
def lI{A:ñ}{E:Value->É->Prop}{s:É}{l:Ç}{o:Obj}{its:Á Value}{n:Nat}{ks:Á zR}{Q:Value->É->Prop}(W:ğa=Ã)(z:ð l=À o)(I:àb=.type đ)(g:Ýa=.seq Ŷ n)(U:Ŀ=Ëb)(X:∀(j:Nat)(k:zR),ks[j]?=À k->∃v,its[j]?=À v/\ut k v=Â)(hz:Ŀ+1<ŭb)(h:∀h' tk,qQ ø w Õ ŕi h'->(∀b o,ð b=À o->ā b=À o)->Q ĝa { s with á:=h',Ć:=tk }) :Ó à A (Ėb İg ęk) Q E s:=by
 obtain⟨_,_,em⟩:=PySem.F.called_set.mro;have e1:=PySem.F.called_set.made;have e2:=PySem.F.called_set.sub;have e3:=PySem.F.called_set.notType;have e4:=PySem.F.called_set.canCreate;have Y:=F.typeCall_set_1 ûc;refine ßg (ļo (show Ó _ _ (callAny İg _) _ _ _ from ë ⟨PySem.Code.quiet_builtin _ ãa,ĝc F.entry_type_call ?_⟩));rw[Around.under_plain (weight_type_call_type ļ ęk []) rfl]
 repeat (any_goals (first|wp_step|assumption))
 refine ŉd (z9e ûc (E:=E) (Q₁:=λv t=>v=.ref Õ/\t={ s with á:=åa { cls:=.type ļ,ģd:=Ã,ü:=.set #[] 0 Ĭo } }) ⟨rfl,rfl⟩) λr t y=>?_
 cases r with
 |ĩf e=>exact y|ok fl=>
  cases fl with
  |ret v=>
   obtain⟨rfl,rfl⟩:=y;generalize hb0:Ĉe=b;obtain⟨f,d⟩:∃f,f=åa { cls:=.type ļ,ģd:=Ã,ü:=.set #[] 0 ûp }:=⟨_,rfl⟩;have J:Ĝh Õ=À { cls:=.type ļ,ģd:=Ã,ü:=.set #[] 0 ûp }:=by rw[d];exact Ţ _ rfl
   have L:∀c a,ð c=À a->Ĝh c=À a:=λc a e=>by rw[d];exact ċ _ e
   have x:Ŝd=Õ+1:=by rw[d];exact Àb ..
   have p:qQ ø w Õ [] f:=⟨_,#[],0,_,J,⟨rfl,rfl,rfl⟩,rfl,λe T=>by simp at T,by decide,by rfl,⟨rfl,Ög⟩,hb0.symm,Žc _⟩;rw[<-d];have N:Shared.TypeIs { s with á:=f } ĝa ļ:=⟨_,J,rfl⟩;have Z:=PySem.F.called_set.init.lookup;have i2:=PySem.F.called_set.init.bind ĝa
   repeat (any_goals (first|wp_step|assumption))
   refine ŉd (čn (R:=wants (λr G=>r=.none/\∃h' tk,G={ s with á:=h',Ć:=tk }/\qQ ø w Õ ŕi h'/\∀b o,ð b=À o->ā b=À o) E) PySem.F.called_set.init.plain F.entry_set_init (check_set_init_1 N ?_)) λO G i=>?_;have C:=L l o z;obtain⟨a,od,S,os⟩:=o;simp only at I g;subst I g;have q:f.IsList l Ŷ:=⟨_,C,rfl,n,rfl⟩;have t:=F.sub_list_set;have G:=F.sub_list_frozenset;have ne:(çc đ == çc Üa)=Ä:=by decide
   have m:=Č z;unfold Builtin.«set.__init__» noKeywords Builtin.Frozenset.updateFrom;generalize eP:ìe=P
   wp_walk
   subst eP;refine Ĺd q (Ì (PySem.wpAny_runValue ?_));have K:∀c a,ð c=À a->(f.push { cls:=.type ŝi,ü:=.fields #[.ref l,.int 0 0] }).get? c=À a:=λc a e=>ċ _ (L c a e)
   refine cL (l:=l) (its:=its) (by simp[W]) (y_ (įa m)) (Μb ċd) (Μb (Õc m)) ks 0 [] _ ⟨_,Ţ _ rfl,rfl,rfl⟩ ⟨_,K l _ z,rfl,n,rfl⟩ (by rw[ń];exact U) (λj k e=>by rw[ń];exact X j k e) (p.keep λa e=>ċ _ e) ŏn λh' tk B u=>?_
   refine ë (show Ó _ _ (ret Ĭb) _ _ _ from ë ⟨rfl,h',tk,rfl,B,λc a e=>?_⟩);have H:=Č e;exact u c a (y_ (Ŭ H)) (Μb (Õc H)) (K c a e)
   .cases O with
    |ĩf e=>exact i|ok f2=>
     cases f2 with
     |ret r=>
      obtain⟨rfl,h',tk,rfl,B,u⟩:=i
      repeat (any_goals (first|wp_step|assumption))
      exact h _ _ B u
     |_=>exact i.elim
  |_=>exact y.elim
omit a
def QX:Slot Řb èd şf:=
 .of (owner := Řb) (n := èd) ĳl ãa ãa ãa ŷl šh
def cQ:Slot Řb ļq Šf:=
 .of (owner := Řb) (n := ļq) ĳl ãa ãa ãa ŷl šh
def z9t:Çh ĸh şf=À Builtin.«set_iterator.__next__»:=entryFor_of_tree Üc
def z9s:Çh ĸh Šf=À Builtin.«dict_keyiterator.__iter__»:=Âp (id' := "dict_keyiterator.__iter__") Üc (by first|rfl|decide +kernel) ãa Üc
def z9c:Çh ĸh "set.__iter__"=À Builtin.«frozenset.__iter__»:=Âp (id' := "frozenset.__iter__") Üc rfl ãa Üc
def cP:Manifest.owners.lookup (String.ofList (Řb).toList)=À Manifest.sig_set_iterator:=by kernel_rfl
def z9r(a:Value):Ġh şf ⟨[a],[]⟩:=by unfold Ġh;rw[signature?_of (id := şf) (n:=['_','_','t','x','e','n','_','_']) (o:=Ňl) Üc cP];kernel_rfl
def z9q(a:Value):Ġh Šf ⟨[a],[]⟩:=by unfold Ġh;rw[signature?_of (id := Šf) (n:=['_','_','r','e','t','i','_','_']) (o:=Ňl) Üc cP];kernel_rfl
section
variable{M:ÿe}{A:ñ}{E:Value->É->Prop}
def lQ(a:n≠0)(h:∀i d,i<n->Q i { s with čc:=d }):Ó M A (choose src n) Q E s:=
 λ_ _ _=>⟨a,h _ _ (Œq _ (Nat.pos_of_ne_zero a))⟩
theorem DF{α:Type}:∀{xs:Á α}{i:Nat}{x:α},xs[i]?=À x->(x::xs.eraseIdx i).Perm xs
 | [],_,_,h=>by cases h|y::ys,0,x,h=>by cases h;exact Žc _|y::ys,i+1,x,h=>(Èp y x _).trans ((DF ĩa).cons y)
theorem RT:∀(n:Nat)(xs:Á α)(s:É){Q:Á α->É->Prop},â<=n->(∀ys d,ys.Perm xs->Q ys { s with čc:=d })->Ó M A (şg n xs) Q E s
 |0,xs,s,Q,hn,h=>by
  cases xs with
  |nil=>unfold şg;exact ë çp|ù _ _=>simp at hn
 |n+1,[],s,Q,hn,h=>by unfold şg;exact ë çp|n+1,x::xs,s,Q,hn,h=>by
  unfold şg;refine Ì (lQ ê λi d a=>?_);have e:Öb[i]?=À (Öb[i]):=č a;rw[e]
  have c:((Öb).eraseIdx i).length<=n:=by rw[Đn,Ë a];rw[Ă]at hn ⊢;omega
  refine Ì (RT n _ { s with čc:=d } c λys b p=>ë ?_);exact h _ b ((List.Perm.cons _ p).trans (DF e))
omit a
theorem aR(next:Nat->Nat):∀(n k:Nat)(left:Á α)(out:Ô α),left.length<=n->(Čg next n k left out).toList.Perm (Ĺg++left)
 |0,k,left,out,h=>by
  cases left with
  |nil=>unfold Čg;exact ìg (Ąh).symm|ù _ _=>simp at h
 |n+1,k,left,out,h=>by
  unfold Čg;cases left with
  |nil=>exact ìg (Ąh).symm|ù x xs=>
   have a:next k%(Öb).length<(Öb).length:=Œq _ ê;have e:Öb[next k%(Öb).length]?=À (Öb[next k%(Öb).length]):=č a;rw[e];dsimp only
   have b:((Öb).eraseIdx (next k%(Öb).length)).length<=n:=by rw[Đn,Ë a];rw[Ă]at h ⊢;omega
   refine(aR next n Ų _ _ b).trans ?_;rw[Ĺe,Ś];exact(Ąd).append (DF e)
def z5o(next:Nat->Nat)(xs:Ô α):(pickOrder next xs).toList.Perm Řg:=by show(Čg next Ģa 0 Řg #[]).toList.Perm _;have:=aR next Ģa 0 Řg #[] ê;simpa using this
def iW(d:İe (·<·)):Įa xs 0=0:=by obtain⟨a,b,_⟩:=Br d 0;by_cases c:Įa xs 0=0;exact c;have:=b 0 Å Å;omega
def iV(d:İe (·<·))(h:i<Ģa):Įa xs ék=i+1:=by obtain⟨a,b,c⟩:=Br d ék;generalize Įa xs ék=p at *;rcases Òg p ï with q|q|q;have:=c i h Å;omega;exact q;have f:=b ï Å q;have e:=ďe d i ï ĩa Ŋe Å;simp only[ĝb]at e;omega
section
variable{ø:æ}{w:Þ}{A:ñ}{E:Value->É->Prop}
def Wu(h:Heap)(I:Ç)(fs:Ô Value):Prop:=ĉ I=À { cls:=.type Řb,ü:=.fields fs }
structure Wk(w:Þ)(a:Ç)(es:Ô Æb)(ep:Nat)(t:Ŭa)(ord:Á Value)(I tp:Ç)(i:Nat)(h:Heap):Prop where
 st:∃o,ĉ a=À o/\Ýa=.set es ep t
 md:(ĵd Ïd=Â/\ord=(ţh).toList.map (·.2)/\∃sl:Nat,Wu h I #[Ŧ sl,Ŧ i,.ref a,Ŧ ũ,Ŧ ep]) \/
  (ĵd Ïd=Ä/\Če=Ä/\ůc=Â/\wX t/\ord=ăg (·.2)/\∃sl:Nat,Wu h I #[Ŧ sl,Ŧ i,.ref a,Ŧ ũ,Ŧ ep]/\Įa Ůa sl=i) \/
  ∃places:Á Nat,ord=Ńq (λp=>ûn.2)/\(∀p∈places,p<ũ)/\Wu h I #[.ref tp,Ŧ i,.ref a,Ŧ ũ,Ŧ ep]/\ĉ tp=À { cls:=.type Ũ,ü:=.seq (Ńq λp:Nat=>Ŧ p).toArray }
def rp(g:ð a=À o)(x:Ŗj)(k:Ýa=.set es ep t)(m:ţc ũ=Â)(y:ũ<ŭb)(u:wX t)(ld:ůc=Ĉe)(h:∀h' d ord I tp,ord.Perm (ăg (·.2))->Õ<=I->(tp=a\/Õ<=tp)->I≠tp->Wk w a es ep t ord I tp 0 h'->(∀b ob,ð b=À ob->ā b=À ob)->Q łc { s with á:=h',čc:=d }):Ó à A (ìe ő) Q E s:=by
 have r:Ĉb ő ļ:=⟨o,g,x.1⟩;refine Óo r Ło (őb (Ło) r z9c ?_ (F.args_set_iter_1 _));unfold Builtin.«frozenset.__iter__» Builtin.Frozenset.slot0 slotArgs;simp only[Đo,Új,Œb,↓žj,Ŋq,Ód,Ķi];unfold Builtin.Frozenset.addrOf Builtin.Frozenset.sizeOf;refine Ì øa
 try dsimp only
 refine Ì øa;refine Ì (Ì (Ĵn (es:=es) g k m øa));unfold setDrawn ĸg;refine Ì (Ì (Ďe (es:=es) (t:=t) g k m ?_));dsimp only;refine Ì (Ì (łf æk));show Ó _ _ (υ ìm) _ _ _;have B:ũ<=Ý:=ěe y;by_cases c:ìm=Â;rw[Ë c];refine Ì (RT ũ _ s ê λn d p=>?_);have C:þd=ũ:=by rw[ģj,īa]
 refine Ì (ći ?_ (by rw[é,C];exact B));have l:(åa { cls:=.type Ũ,ü:=.seq (n.map λi:Nat=>Ŧ i).toArray }).get? a=À o:=ċ _ g;refine Ì (Òo (es:=es) (t:=t) l k m ?_);unfold çr;refine Ì ĥl;refine h _ d (n.map λp=>ûn.2) _ Õ ?_ ?_ (.inr Ċ) ?_ ⟨⟨o,ċ _ l,k⟩,.inr (.inr ⟨n,rfl,λq v=>?_,Ţ _ rfl,ċ _ Üd⟩)⟩ λb ob e=>ċ _ žd;refine(ħf _).trans (ìg ?_);refine List.ext_getElem ê λj G H=>?_
 have z:j<ũ:=by simpa using G
 simp[ũd,z];rw[Àb];exact Ģg _;rw[Àb];exact y_ (įa ċd);simpa using Ŕp v;rw[Ï c];refine Ì (Γa (Òo (es:=es) (t:=t) g k m ?_));unfold çr;refine Ì ĥl;cases f:ĵd Ïd with
 |Â=>exact h _ Ùf _ _ a ((z5o (w.params.setOrder a ep) es).map (·.2)) Ċ ŉ Źn ⟨⟨o,ċ _ g,k⟩,.inl ⟨f,rfl,0,Ţ _ rfl⟩⟩ λb ob e=>ċ _ e|Ä=>
  rw[f]at c ld
  have c:Če=Ä:=by rw[Bool.not_eq_true]at c;exact c
  exact h _ Ùf _ _ a Ąd Ċ ŉ Źn ⟨⟨o,ċ _ g,k⟩,.inr (.inl ⟨f,c,ld,u,rfl,0,Ţ _ rfl,iW u.up⟩)⟩ λb ob e=>ċ _ e
def z1i{s:É}{a:Ç}{o:Obj}{es:Ô Æb}{ep:Nat}{t:Ŭa}{b g:Nat}{Q:Æ (Value×Nat)->É->Prop}(c:ð a=À o)(i:Ýa=.set es ep t)(d:ţc ũ=Â)(f:ĵd Ïd=Â)(h:Q ((ţh[g]?).map λe=>(e.2,b)) s):Ó à A (ðh a b g ep) Q E s:=by unfold ðh ĸg;refine Ì Ďm;dsimp only;refine Ì Ūi;show Ó _ _ Ài _ _ _;rw[Ë f,Ï ê];unfold setWalk ĸg;refine Ì (Ì Ďm);dsimp only;refine Ì Ūi;show Ó _ _ Ài _ _ _;rw[Ë f];exact Ì (łf ľr)
def z1h{s:É}{a:Ç}{o:Obj}{es:Ô Æb}{ep:Nat}{t:Ŭa}{b g e:Nat}{Q:Æ (Value×Nat)->É->Prop}(d:ð a=À o)(k:Ýa=.set es ep t)(i:ţc ũ=Â)(f:ĵd Ïd=Ä)(c:Če=Ä)(ld:ůc=Â)(h:Q (match es[Įa Ůa b]?,Ůa[Įa Ůa b]? with|À (_,x),À j=>À (x,j+1)|_,_=>Ã) s):Ó à A (ðh a b g e) Q E s:=by unfold ðh ĸg;refine Ì (Ďe (es:=es) (t:=t) d k i ?_);dsimp only;refine Ì Ūi;show Ó _ _ Ài _ _ _;rw[Ï (by rw[f];exact ģ)];refine Ì øa;show Ó _ _ (if Če=Â then _ else _) _ _ _;rw[Ï (by rw[c];exact ģ)];refine Ì (show Ó _ _ (υ (!t.led&&!es.isEmpty)) _ _ _ from ?_);rw[Ï (by rw[ld];exact ģ)];exact ë ÿk
def Gx{s:É}{P:Fin->É->Prop}{Q:Æ Value->É->Prop}(c:ğa=Ã)(h:∀h',(∀b ob,ð b=À ob->ā b=À ob)->Q Ã { s with á:=h' }) :Ó à ãb (Ęh łj [] >>= λe=>(Ĉk e:Sem Fin)) P (λe s'=>Ó à A (isInstance e łj >>= λb=>if b=Â then pure Ã else throw e) Q E s') s:=by refine Ì ?_;simp only[Ęh,newTuple];refine Ì (Ěc (Ì (m:=Àp _ _) (ġj (a:=Ĭb) Œl Ũp)) ėi);simp only[Ĉk];refine Ì źn;rw[show ęp=Ã from c];refine Ì øa;refine Þq Ħg;refine íi (T := Ńd) (b:=Â) ⟨_,Ţ _ rfl,rfl⟩ ſo ?_;exact ë (h _ λb ob e=>ċ _ žd)
def ku{s:É}{I:Ç}{fs:Ô Value}{k:Nat}{v:Value}{Q:õa->É->Prop}(a:Wu Ü I fs)(hk:k<fs.size)(h:∀h',Wu h' I (fs.setIfInBounds k v)->Ša I Ü h'->Q () { s with á:=h' }):Ó à A (setField łc k v) Q E s:=
 Ći a rfl hk (h _ (ŀd _ a rfl) Ĝk)
def AI{s:É}{a:Ç}{es:Ô Æb}{ep:Nat}{t:Ŭa}{h:Á Value}{I G:Ç}{i:Nat}{Q:Æ Value->É->Prop}(N:ğa=Ã)(l:I≠a)(L:I≠G)(F:ţc ũ=Â)(lo:ĉb=ũ)(W:Wk w a es ep t h I G i Ü)(hi:i<=ĉb)(O:∀v h',h[i]?=À v->Wk w a es ep t h I G ï h'->Ša I Ü h'->Q Éa { s with á:=h' })(P:i=ĉb->∀h',(∀b ob,b≠I->ð b=À ob->ā b=À ob)->Q Ã { s with á:=h' }):Ó à A (èe łc) Q E s:=by
 obtain⟨⟨o,y,B⟩,S⟩:=W
 obtain⟨first,g⟩:∃first,Wu Ü I #[first,Ŧ i,.ref a,Ŧ ũ,Ŧ ep]:=by rcases S with⟨_,_,n,z⟩|⟨_,_,_,_,_,n,z,_⟩|⟨_,_,_,z,_⟩;exact⟨_,z⟩;exact⟨_,z⟩;exact⟨_,z⟩
 have R:Ĉb łc Řb:=⟨_,g,rfl⟩;unfold èe;refine Ì (žf (Įd (ħ:=źa èd) R QX (őb QX R z9t ?_ (z9r _))));unfold Builtin.«set_iterator.__next__» slotArgs;simp only[Đo,Új,Œb,↓žj,Ŋq,Ód,Ķi];refine Ì øa
 try dsimp only
 refine Ì (wpAny_fieldsOf g rfl ?_);show Ó _ _ (setEntries a >>= _) _ _ s;refine Ì (Ĵn (es:=es) y B F ?_);rw[Ï ê];refine Ì øa;rcases S with⟨f,u,n,z⟩|⟨f,c,Y,X,u,n,z,Z⟩|⟨d,u,U,z,T⟩;cases(ėa Ŗi);show Ó _ _ İl _ _ s;rw[ğ,ğ,ğ]
 have eg:(ţh[i]?).map (λe=>(e.2,n))=(h[i]?).map λv=>(v,n):=by rw[u,Œ,ła,Option.map_map];rfl
 refine Ì (z1i y B F f ?_);rw[eg];cases C:h[i]? with
 |À v=>show Ó _ _ (Ρb (Ŧ n)) _ _ _;refine Ì ľd;refine Ì Ŝh;refine ë ⟨v,rfl,ë (O v x C ⟨⟨o,?_,B⟩,.inl ⟨f,u,n,?_⟩⟩ Ĩq)⟩;exact(åp).trans ųo;exact K
 |Ã=>
  show Ó _ _ Įm _ _ _;refine Ì ľd
  have e:i=ĉb:=by have:=List.getElem?_eq_none_iff.mp C;omega
  exact Gx N λx m=>P e x λb ob k H=>m b ob ği
 cases(ėa Ŗi);show Ó _ _ İl _ _ s;rw[ğ,ğ,ğ];refine Ì (z1h y B F f c Y ?_);rw[Z]
 have hps:t.place.size=ũ:=by simp only[SetTable.fits,ć,ĺg]at F;exact F.1
 by_cases hlt:i<ũ;have e1:es[i]?=À (es[i].1,es[i].2):=Àd hlt;have e2:Ůa[i]?=À (Ůa[i]' Å):=Àd Å;rw[e1,e2]
 have C:h[i]?=À es[i].2:=by rw[u,Œ,ła,e1];rfl
 show Ó _ _ (Ρb (Ŧ ((Ůa[i]' Å+1:Nat):Int))) _ _ _;refine Ì ľd;refine Ì Ŝh;refine ë ⟨es[i].2,rfl,ë (O _ x C ⟨⟨o,?_,B⟩,.inr (.inl ⟨f,c,Y,X,u,Ůa[i]' Å+1,?_,iV X.up Å⟩)⟩ Ĩq)⟩;exact(åp).trans ųo;exact K;have e1:es[i]?=Ã:=ŧf Å;rw[e1];show Ó _ _ Įm _ _ _;refine Ì ľd;exact Gx N λx m=>P Å x λb ob k H=>m b ob ği;cases(ėa Ŗi);show Ó _ _ (seqItems? (.ref G) >>= _) _ _ s;refine Ì (Ĝb T rfl ?_);have lp:Öa=ũ:=by rw[<-lo,u,é]
 show Ó _ _ (match(d.map λp:Nat=>Ŧ p).toArray[(i:Int).toNat]? with|À (.int place _)=>_|À _=>_|Ã=>_) _ _ _;rw[ğ];by_cases hlt:i<Öa;have e1:(d.map λp:Nat=>Ŧ p).toArray[i]?=À (Ŧ (d[i]:Nat)):=by simp[hlt]
 have J:=U d[i] (Őd hlt);have e2:es[d[i]]?=À (es[d[i]].1,es[d[i]].2):=Àd J
 have C:h[i]?=À es[d[i]].2:=by rw[u,Œ,č hlt];simp[ũd,J]
 rw[e1];show Ó _ _ (Œp a ((d[i]:Nat):Int).toNat (ep:Int).toNat >>= _) _ _ _;rw[ğ,ğ];unfold Œp;refine Ì (Ì (Ďe (es:=es) (t:=t) y B F ?_));dsimp only;rw[Ï ê,e2];refine ë ?_;refine Ì ľd;refine ë ⟨_,rfl,ë (O _ q C ⟨⟨o,(śm).trans y,B⟩,.inr (.inr ⟨d,u,U,r,(j.2 G L.symm).trans T⟩)⟩ j)⟩;have e1:(d.map λp:Nat=>Ŧ p).toArray[i]?=Ã:=by simp;omega
 rw[e1];show Ó _ _ (Ρb (Ŧ 0)) _ _ _;refine Ì ľd;refine Ì Ŝh;exact Gx N λh4 k4=>P Å h4 λb ob k H=>k4 b ob ((m.2 b k).trans ği)
omit a
section
variable{ø:æ}{w:Þ}{A:ñ}{E:Value->É->Prop}
def y5t(F:ğa=Ã)(n:I≠a)(l:I≠tp)(G:ţc ũ=Â)(lo:űd=ũ) :Walks ø w A I [I,a,tp] [I] űd (λi v=>ord[i]?=À v) (λi h=>i<=űd/\Wk w a es ep t ord I tp i h) where
 sub:=λb j=>by rw[Ķ j];exact ĵ ..
 frame:=λi h r ⟨x,W⟩ k=>by obtain⟨⟨o,K,S⟩,B⟩:=W;have C:=k I ĳb;have P:=k a ēq;have H:=k tp (Àa _ ēq);refine⟨x,⟨o,P o K,S⟩,?_⟩;rcases B with⟨f,q,p,z⟩|⟨f,c,R,O,q,p,z,j⟩|⟨d,q,N,z,L⟩;exact .inl ⟨f,q,p,C _ z⟩;exact .inr (.inl ⟨f,c,R,O,q,p,C _ z,j⟩);exact .inr (.inr ⟨d,q,N,C _ z,H _ L⟩)
 ŋb:=λi s Q E x ⟨g,W⟩ m=>AI F n l G lo W g (λv r u J k=>by
  have:=m v r Ĉ u ⟨x,J⟩ λb o j e=>(k.2 b λz=>j źm).trans e
  exact this) λz=>Û z (Ŭ x)
 done:=λs Q E ⟨g,W⟩ m=>AI F n l G lo W g (λv r u=>by rw[ëb Ċ]at u;cases u) λ_ r k=>m r Ĉ λb o j e=>k b o (λz=>j źm) e
 Ŵc:=λi s Q E ⟨g,W⟩ m=>by
  obtain⟨_,B⟩:=W
  have y:Ĉb łc Řb:=by rcases B with⟨_,_,p,z⟩|⟨_,_,_,_,_,p,z,_⟩|⟨_,_,_,z,_⟩<;>exact⟨_,z,rfl⟩
  refine Óo y cQ (őb cQ y z9s (show Ó _ _ (ret łc) _ _ s from ?_) (z9q _));exact ë ⟨_,rfl, Řb,_,y,QX.lookup,m⟩
def rC(c:Ĉb ő ļ)(h:Q Ä s):Ó à A (Ĳm ő) Q E s:=by
 unfold Ĳm;refine Ì (wpAny_specialOf c (F.slot_set_len.lookup) ?_);generalize hi:("set.__len__" : óa)=x
 wp_delta
 rw[show splitId x=À (ļ,"__len__")from by subst hi;decide +kernel];subst hi;refine Ì (íi (T := ļ) (b:=Â) c šh ?_);refine öi (λz=>Û z Ð) λ_=>öi ſd λz=>Û ãa z
 exact Ì (ňd c ÿk)
def lg(hh:ğa=Ã)(S:ð a=À o)(G:Ŗj)(hd:Ýa=.set es ep t)(Y:ţc ũ=Â)(N:ũ<ŭb)(tb:wX t)(ld:ůc=Ĉe)(h:∀h' d tk ord,ord.Perm (ăg (·.2))->Õ<ŗp->(∀b ob,ð b=À ob->ā b=À ob)->Q ord { s with á:=h',čc:=d,Ć:=tk }):Ó à A Đr Q E s:=by
 unfold Âk;refine Ì ķl;show Ó _ _ Ěl _ _ s;refine Ì čl;show Ó _ _ (ĳm ĝa ő ĝa) _ _ { s with á:=åa łd };unfold ĳm;have p:(ĳr).get? a=À o:=ċ _ S;have q:=Č S;have n:Õ≠a:=y_ (įa q);refine Ì (ňd (T := ļ) ⟨o,p,G.1⟩ ?_);have q1:Šm ĝa ő=Ä:=by simp[Šm,n]
 have q2:(çc ļ == çc đ)=Ä:=by decide
 have q3:(çc ļ == çc Ũ)=Ä:=by decide
 rw[Ï (by rw[q1,q2,q3];exact ģ)];refine Ì (rp p G hd Y N tb ld λB d ord I tp P y r C W0 K=>?_);refine Ì (ża (rC ⟨o,K a o p,G.1⟩ ?_));refine öi ſd λz=>Û ãa z
 refine Ì (ņd Ħg);have z0:(ĳr).objs.size=Õ+1:=Àb ..;rw[z0]at y r;have O:űd=ũ:=by rw[P.length_eq,é,Ģ]
 have H:I≠a:=y_ (įa (ņ (Õc q) y))
 have x:Õ ∉ [I,a,tp]:=λm=>by simp only[Ãb,Ėa,Òb]at m;rcases m with m|m|m;exact Û y Űl;exact n m;rcases r with e|e;exact n (Õe e);exact Û e Űl
 show Ó _ _ (Úr Õ (·.push .none) >>= λ_=>Úr Õ (·.pop)) _ _ _;have X:ßl Õ=À łd:=K _ _ Üd;refine Ì (õi X rfl ?_);have U:=ŀd (ÿb (·.push Ĭb)) X rfl;refine õi (hz:=by seq_fits) U rfl (ë ⟨ħe (F.plain_extend_loop) _,?_⟩);have S3:=ŀd (ÿb (·.pop)) U rfl;have W:=y5t (ø:=ø) (w:=w) (A:=ãb) (ep:=ep) (t:=t) (es:=es) (by exact hh) H C Y O
 have k:∀b ob,b≠Õ->ßl b=À ob->((B.update Õ (ÿb (·.push Ĭb))).update Õ (ÿb (·.pop))).get? b=À ob:=λb ob v e=>
  (êo).trans ((êo).trans e)
 refine codeAny_extend_loopS W.toS (by rw[O];exact ěe N) Õ x ĝa űd 0 _ #[] _ rfl Ąc (W.frame 0 B _ ⟨Ãa _,W0⟩ λb J ob e=>k b ob (λz=>x (z▸J)) e) S3 (ItemsOf.nil _) λZ f c' L u g=>?_
 rw[Moved.eq_with L];refine Ì (Őj u ?_)
 have ea:Æh=ord:=by
  refine Õg λj=>?_
  by_cases c:j<űd;have R:j<f.size:=by rw[g.1];exact c
  rw[ła,Àd R];exact(g.2 j _ (Àd R)).symm;rw[ëb (by rw[Ģ,g.1];omega),ëb Å]
 show Ó _ _ (pure Æh) _ _ _;rw[ea];refine ë (h Z.heap d Z.toks ord P (Č u) λb ob e=>?_);have i:=Č e;refine Ĥh b ob (λm=>?_) (k b ob (y_ (Ŭ i)) (K b ob žd));rcases ę m with m|m;exact Û i (by rw[m];exact Ŏb _);rw[Ķ m]at i;exact Û (ņ i (Nat.le_of_succ_le y)) úa
omit a
noncomputable def Fd:Value->Int
 |.int i _=>i|_=>0
theorem SV:∀{vs:Á Value},(∀v∈vs,∃i t,v=.int i t)->Ľb vs (Đh Fd)
 | [],_=>.nil|v::vs,h=>by obtain⟨i,t,rfl⟩:=h v ĳb;exact .cons _ _ (SV λx a=>h x äk)
section
variable{ø:æ}{w:Þ}{A:ñ}{E:Value->É->Prop}
def y09(P:ğa=Ã)(z:qQ ø w a ťg Ü)(h64:Ŝ<64)(h:∀h' d tk p out c ns',Õ<=p->ā p=À Ŋo->Ľb Ĺg ns'->ns'.Perm ns->ŕp (·<=·)->(∀b ob,ð b=À ob->ā b=À ob)->Q ŝ { s with á:=h',čc:=d,Ć:=tk }) :Ó à A ĝp Q E s:=by
 obtain⟨o,es,ep,t,W,K,hd,r,I,Z,Y,ld,R⟩:=z;refine øm æq œp Řp ĥo ?_;unfold Builtin.«sorted»;refine Ì (m:=ŉq įb 1 1 _) (Γa (lg (by exact P) W K hd Z I Y ld λB d tk f C F J=>Ì (Ēi ?_ (by rw[āq,é,Ģ];exact ěe I))))
 have n:(Ĩf Zk).Perm ťg:=by have:=C.map Zk;rw[Şb]at this;exact this.trans R
 have l:∀v∈f,∃i tk,v=êc i tk:=λv l=>by obtain⟨e,U,rfl⟩:=ħb (C.mem_iff.mp l);obtain⟨i,_,L⟩:=ħb (n.mem_iff.mp (List.mem_map_of_mem l));have:=RX r U;rw[<-L]at this;rcases j8 this with⟨j,tk,_,e⟩|⟨x,tk,e,_⟩;exact⟨j,tk,e⟩;cases e
 have S:=SV l
 have H:(Ĩf Fd).Perm ns:=by
  have g:=n.map λk:zR=>match k with|.inl i=>i|.inr _=>(0:Int)
  rw[Şb,Şb]at g
  have e1:Ŏa Ďq=ns:=by rw[show Ďq=id from rfl,Įj]
  have e2:Ĩf (Ċl∘Zk)=Ĩf Fd:=List.map_congr_left λv G=>by obtain⟨i,tk,rfl⟩:=l v G;rfl
  rw[e1,e2]at g;exact g
 have u:ŏc<64:=by have:=H.length_eq;rw[é]at this;omega
 have y:(B.push ðn).get? ăq=À ðn:=Ţ _ rfl;refine Ì (ża (őb źo ⟨_,y,rfl⟩ Ļo (žo y S u λout ns' T N X=>⟨_,rfl,?_⟩) Êo));obtain⟨c,O⟩:=ăp (vs:=f) (out:=out) y;refine ë ⟨_,rfl,h _ d tk ăq out c ns' (ìa F) O T (N.trans H) X λb ob e=>?_⟩;have q:=Č Àr;rw[Źo (y_ (Ŭ q)) (by rw[Ŕj];exact Õc q)];exact ċ _ Àr
omit a
section
variable{X:Cx}
abbrev Uu(ø:æ)(w:Þ)(a:Ç)(ks:Á zR):HO:=.ext (qQ ø w a ks)
def z76(X:Cx):Á V->Hp->VK->Prop:=λb H Q=>∃(a:Ç) (ks:Á zR),b=Ôa/\yL X.K H a Āg/\Ŀ<1000/\∀p,H p=Ã->Q ŝ (Ο (Uu ö X.w p ŕi))
def lH(b:Ű=Â):vA X İg (z76 X):=by
 intro K s σ H B F Q I r h;obtain⟨a,f,rfl,x,G,q⟩:=h;obtain⟨u,rfl,A⟩:=u_ r;cases(show u=Đ a from A);obtain⟨d,i,⟨o,n,v,j,l,c⟩,C⟩:=Ź x;have p:ŏc=Öa:=by rw[<-ôc,é]
 refine lI ŝk v j c p (Sm ö X.w i) (by unfold ŭb;omega) λL m g t=>?_
 refine⟨.ref Õ,_,Úb (a:=Õ) (o:=Uu ö X.w Õ (f.foldl uX [])) (t':=m) t Ċ ⟨g,?_,λJ E z k=>z.keep k⟩,rfl,q _ Ĉd⟩;obtain⟨y,_,_,_,e,_⟩:=g;exact⟨y,e⟩
def _root_.L2.Inv.draw(I:Inv X z8 σ H s)(d:Drawn):Inv X z8 σ H { s with čc:=d }:=⟨I.ok,Ŷc,Ûb,ēf,ľa,Őa,Đb,Ĕc,Œa,ĝ,ńb⟩
def z79(X:Cx):Á V->Hp->VK->Prop:=λb H Q=>∃(a:Ç) (ns:Á Int),b=Ôa/\H a=À (Uu ö X.w a ťg)/\Ŝ<64/\∀l,H l=Ã->Q ûc Êm
def lK(f:Ű=Â):vA X Îg (z79 X):=by
 intro E s σ H B C Q I r h;obtain⟨a,b,rfl,o,j,q⟩:=h;obtain⟨u,rfl,A⟩:=u_ r;cases(show u=Đ a from A);obtain⟨z,_⟩:=(show xU ö X.w H Ü a (Uu ö X.w a (b.map Ş))from ĝ a _ o);refine y09 (Ōa f) z j λh' d v p i c g l n t m y x=>?_
 have e:g=łb b:=Gf (Õe (ŀc b).symm) y (Fg b);subst e;have k:(łb b).length=ça:=(ŀc b).length_eq;refine⟨.ref p,_,(I.draw d).laid (t':=v) (h':=h') x l (show xU ö X.w _ _ _ (Α ((łb b).map Ĕb))from⟨?_,i.toList,c,Fe t,?_⟩),rfl,q _ (řb l)⟩;rw[é,k];show _<=Ý;rw[ś];omega;rw[Ĕn];exact n
omit a
omit L2
namespace L3
open ľ Ŕ ň L2
noncomputable def ZX(a:Á Int)(n:Int):Á Int:=if(Ľh λm=>decide (m=n))=Â then a else a++[n]
def XQ(ns:Á Int):Á Int:=ns.foldl ZX []
theorem i6(a:Á Int)(n:Int):uX đr (.inl n)=(ZX a n).map Ş:=by
 have e:åb đr (.inl n)=Ľh λm=>decide (m=n):=by
  unfold åb;rw[ćj]
  congr 1
  funext m
  exact decide_eq_decide.mpr ⟨Ûd,ů _⟩
 unfold uX ZX;rw[e]
 split;rfl;rw[ža];rfl
theorem aC:∀(ns acc:Á Int),(ťg).foldl uX (acc.map Ş)=(ns.foldl ZX acc).map Ş
 | [],_=>rfl|n::ns,acc=>by rw[Ŗ,òb,òb,i6];exact aC ns (ZX acc n)
def DN:Á D->Æ D
 | [.lst xs]=>(źb xs).bind λa=>if Ġa<1000/\(XQ a).length<64 then À (Α (ωa (łb (XQ a))))else Ã|_=>Ã
def z9k(b:Ű=Â)(O:Gl X įb)(z:ó įb=Ã)(n:Gl X ļ)(s:ó ļ=Ã)(P:SA X [e] fs)(N:Ê Ća q12) :SF X (.Call ōp [.Call (.Name ļ p2) [e] [] pos2] [] pos) (eL DN fs):=by
 obtain⟨t,A,k⟩:=P.h;have I:=XU (p:=p2) (pos:=pos2) (lH b) n s iu ⟨A⟩ Ð Ð (by rw[ţ,N];rfl);refine⟨⟨_,(O6 (p:=p) (pos:=pos) (lK b) O z Px (O5 I Cp) Ð Ð).h,λ{W U G H τ σ d Q} E c q=>?_⟩⟩;obtain⟨J,R,c⟩:=zD c;refine k E R λS F Y u B=>?_
 match J,c with
 | [.lst xs],c=>
  obtain⟨f,C,c⟩:=zD (show(źb xs).bind _=À d from c)
  split at c;rename_i g;cases c;obtain⟨v,rfl,a,T,rfl,j,y,l⟩:=qc B;rw[SX C]at y l;rw[bf y]at j
  have j:yL X.K F a ((Ŀj).map kV):=by rw[Şb];exact j
  have L:(Ŀj).foldl uX []=(XQ f).map Ş:=aC f [];refine⟨a,Ĩf Ş,rfl,u9 u.gh j,by rw[é];exact g.1,λx m=>?_⟩;have i:=u.trans (ļa (o:=Uu ö X.w x ((Ŀj).foldl uX [])) u.gh m);refine⟨x,XQ f,rfl,by rw[L];exact yk,g.2,λp r=>?_⟩;refine q p _ _ (Ýf (ļa i.gh r)) (ďk r) (ër r) ⟨_,yk,SR _,?_⟩;rw[é,(ŀc _).length_eq];show _<=16777216;omega;cases c
omit L3
namespace L2
open ľ Ŕ Ďb ň
noncomputable def Vc(i j c:Int):Nat:=if i<j then(űk/c+1).toNat else 0
def cm{i j c:Int}(a:0<c):ţf i j c=(Vc i j c:Int):=by
 unfold ţf Vc;rw[Ë a]
 split;have:0<=űk/c:=íg Å Å;omega;rfl
def y0s{i j c:Int}(a:0<c):Vc i j c<=(ĝd).toNat:=by
 unfold Vc
 split;have:űk/c<=j-i-1:=ĕo _ Å;omega;omega
def y04{i j c:Int}(a:0<c)(d:óc<=16777216)(b:Ŏc<=16777216)(e:c<=16777216):Ĺn i j c=Â:=by unfold Ĺn;rw[cm a];have:=y0s (i:=i) (j:=j) a;simp only[Builtin.Range.rangeFitsLong,ć,îg,Ðg,ĺg,Ë (show c>0 from a)];generalize Vc i j c=n at *;omega
open PySem.AutoSeq1 in
def z08(l:Ç)(z6:Ô Value)(n:Nat)(b:Ç)(a:Ô Value)(p:Nat)(q:Æ Ç)(f:Ô ţa)(o:¬(!z6.isEmpty&&Ęe (Ĭ+ĭ))=Â)(i:Ĭ<=Ý)(c:Ĭ+ĭ<=Ý+1) :Meets (Builtin.«list.extend» ⟨[.ref l,.ref b],[]⟩) (λ_ R s=>ð l=À { cls:=.type đ,ģd:=Ã,ü:=.seq z6 n,ùe:=#[] }/\ð b=À { cls:=.type đ,ģd:=q,ü:=.seq a p,ùe:=f }/\R (.ok (.ret Ĭb)) { s with á:=Õd l (ÿb λx=>x++a),Ć:=Ĉ }):=
 .of_wp λj w A R s h=>by
  obtain⟨t,g,d,y,B⟩:=s;obtain⟨k,m,h⟩:=h;have z:=idx_int;have C:=AutoSeq1.sub_tuple_tuple;have v:=AutoSeq1.sub_list_list;have r:=AutoSeq1.sub_tuple_list;have u:=AutoSeq1.sub_list_tuple;have e:(z6++a).size<=Ý+1:=by rw[Ļi];exact c
  wp_walk using(õi k rfl (hz:=i) (_hz':=e)),ķo k,ķo m
  exact⟨_,rfl,h⟩
theorem żj:∀{xs:Á V}{us:Á Value},ća=â->(∀(j:Nat)(x:V)(v:Value),xs[j]?=À x->us[j]?=À v->zw x v)->zf xs us
 | [],[],_,_=>.nil| [],_::_,h,_=>by cases h|_::_,[],h,_=>by cases h|x::xs,u::us,h,f=>.cons (f 0 x u rfl rfl) (żj ĩa λj y v b a=>f Ëa y v īi Ĭi)
section
variable{X:Cx}
def z6x(K:Î):V->Á V->Hp->VK->Prop:=λx a H Q=>∃l b xs zs,x=.ref l/\a=[.ref b]/\H l=À Ğa/\yL K H b zs/\â+Ör<=Ý/\Q .zK (zX H l (Α (xs++zs)))
def z0x:Mf X "list.extend" (z6x X.K):=by
 intro U s σ H x N v P Q I w y h;obtain⟨l,b,L,R,rfl,rfl,o,B,O,q⟩:=h;cases w;obtain⟨u,rfl,E⟩:=y.one;cases E;obtain⟨z,c,n,r,S,e⟩:=I.JN o;obtain⟨a,m,t,_⟩:=Ź B;obtain⟨⟨J,G,T,k⟩,C,j,g,p,f⟩:=t;simp only at g f;subst g f;have A:=Èe;have i:ŷi+Þc<=Ý:=by rw[Ĕ,Ĕ];omega
 have d:¬ (!c.toArray.isEmpty&&Ęe (ŷi+Þc))=Â:=by rw[Ai i,Ëp];exact ģ
 refine Ìd F.slot_list_extend ⟨_,e,rfl⟩ F.entry_list_extend (F.args_list_extend_2 _ _)
  (z08 l Äk n b Îb C G k d İi Å) ⟨e,j,?_⟩
 refine⟨.zK,_,I.Lj (æb:=c++a) o e ê (Æe m) ?_,rfl,q⟩;rw[ä];omega
def P8(a:Ç)(n:Nat)(h:Heap):Prop:=∃t u v,IsRange h a 0 n 1 t u v
abbrev Ur(a:Ç)(n:Nat):HO:=.ext (P8 a n)
def z73:Á V->Hp->VK->Prop:=λa H Q=>∃j:Int,a=[.int j]/\0<=j/\∀p,H p=Ã->Q ŝ (Ο (Ur p Èa))
def lG:vA X (.type ña) z73:=by
 intro f s σ H d l Q I r h;obtain⟨j,rfl,i,q⟩:=h;obtain⟨u,rfl,c⟩:=u_ r;obtain⟨t,rfl⟩:=(show ∃t,u=êc j t from c);refine Śp ?_;have e:((Èa:Nat):Int)=j:=by omega
 have b:P8 Õ Èa (åa { cls:=.type ña,ü:=.fields #[.int 0 Ĉ,.int j t,.int 1 (Ĉ+1)] }):=by refine⟨Ĉ,t,Ĉ+1,?_⟩;rw[e];exact öq ..
 refine⟨.ref Õ,_,Úb (a:=Õ) (o:=Ur Õ Èa) ĩi Ċ ⟨b,?_,λm g z k=>?_⟩,rfl,q _ Ĉd⟩;obtain⟨t,u,v,e⟩:=b;exact⟨_,e⟩;obtain⟨t,u,v,e⟩:=z;exact⟨t,u,v,k _ e⟩
def z70:Á V->Hp->VK->Prop:=λb H Q=>∃(a:Ç) (n:Nat),b=Ôa/\H a=À (Ur a n)/\n<=1000000/\∀p,H p=Ã->Q ŝ (Ο (.lst ((ąc).map λk:Nat=>Ĕb k)))
def lE(c:Ű=Â):vA X ęa z70:=by
 intro L s σ H G J Q I r h;obtain⟨a,n,rfl,m,K,q⟩:=h;obtain⟨u,rfl,F⟩:=u_ r;cases(show u=Đ a from F);obtain⟨⟨t,u,v,B⟩,_⟩:=(show xU ö X.w H Ü a (Ur a n)from ĝ a _ m)
 have C:ţf 0 (n:Int) 1=(n:Int):=by
  rw[cm Ð];unfold Vc
  split<;>omega
 refine call_list_range (Ōa c) B (y04 Ð Ð Å Ð) C Å λN y b p A z d=>?_
 obtain⟨f,g⟩:=d
 have E:zf ((ąc).map λk:Nat=>Ĕb k) áf:=by
  refine żj (by simp[f]) λj x v l i=>?_
  rw[Œ,īe (by have:=(ō i).1;rw[Ģ,f]at this;exact this)]at l
  cases l;obtain⟨t,e⟩:=g j v (by rw[<-ła];exact i);refine⟨t,?_⟩;rw[e];simp
 refine⟨.ref Õ,_,Úb (a:=Õ) (o:=.lst ((ąc).map λk:Nat=>Ĕb k)) (t':=y) A Ċ ⟨?_,áf,p,E,?_⟩,rfl,q _ Ĉd⟩;rw[é,īa,ś];show n<=16777216;omega;rw[z]
omit a
omit L2
namespace L3
open ľ Ŕ ň L2
noncomputable def DK:Á D->Æ D
 | [.int j]=>if 0<=j/\j<=1000000 then À (.lst ((ĺr).map λk:Nat=>.int k))else Ã|_=>Ã
def z7d{K:Î}{G:Hp}(l:Á Nat):ã K G (ŵa λk:Nat=>Ħ k) (ŵa λk:Nat=>Ĕb k):=by
 induction l with
 |nil=>rfl|ù a r ih=>exact⟨_,_,rfl,rfl,ih⟩
section
variable{X:Cx}{x y:Str}{xp yp pos Ìa ź:Pos}{e:Ñ}{f:FE}
def y0k{i j:Nat}(t:QE X Âa Ċc)(B:Ņa)(p:X.N[j]?=À y)(u:pf ĭa y)(b:Ê (Ģb Âa "pop" Ö ćg=Ę Âa Ö) q12)(c:Ê ŏb q12)(a:Ê (X.fn y=Â\/ķd y=À .local) q7) :SS X (.Assign [.Name y yp] (.Call (.Attribute Âa "pop" Ìa) [] [] ź) pos) (VU j i):=by
 refine⟨⟨_,(O7 B p u (z6m Ţf PySem.F.slot_list_pop PySem.F.type_list_pop z10 t b c) rfl a).h,λ{J I G H τ σ C E} K a q=>?_⟩⟩;unfold VU at a
 split at a;rename_i s f;obtain⟨d,r,a⟩:=zD a;by_cases hne:j=i;rw[Ë hne]at a;cases a;rw[Ï hne]at a;cases a;obtain⟨A,m,g,z,k,o,e,l⟩:=K.ow _ _ f;rw[List.getLast?_eq_getElem?]at r;obtain⟨v,n,w⟩:=e.get r;rw[<-Đk]at n;refine⟨_,m,.inl ⟨rfl,k,őa o⟩,A,k,v,rfl,rfl,o,n,?_⟩;refine q _ _ _ ((K.UI (d':=.lst s.dropLast) f m ⟨_,yk,Đp e,?_⟩).set Ċh.1 w);rw[đn];omega;cases a
def y0i{i:Nat}(O:QE X Âa Ċc)(L:SE X e f)(d:Ê (Ģb Âa "extend" Ö ćg=Ę Âa Ö) q12)(j:Ê ŏb q12)(w:Ê Ća q12) :SS X (Χd (.Attribute Âa "extend" Ìa)) (VS i f):=by
 obtain⟨t,p,k⟩:=(zC L zL w).h;refine⟨⟨_,(Cq (QC Ţf PySem.F.slot_list_extend PySem.F.type_list_extend z0x O ⟨p⟩ d j (by rw[ţ,w];rfl) Ģe) rfl).h,λ{U T G H τ σ C E} K a q=>?_⟩⟩;unfold VS at a
 split at a;rename_i n B;obtain⟨y,Q,a⟩:=zD a;cases y with
 |lst ys=>
  change (if þd+œ<=yD then À (Fl.nx (τ.set i (À (Â,.lst (n++ys)))))else Ã)=À C at a
  by_cases c:þd+œ<=yD;rw[Ë c]at a;cases a;obtain⟨J,r,g,z,o,s,u,l⟩:=K.ow _ _ B;refine⟨_,r,.inl ⟨rfl,o,őa s⟩,k K (ds:=[.lst ys]) (by unfold zB;rw[Q];rfl) λR S W m I=>?_⟩;obtain⟨v,rfl,b,N,rfl,P,A,_⟩:=qc I;refine⟨J,b,o,N,rfl,rfl,m.h _ _ s,u9 m.gh P,by rw[u.length,A.length,ś];exact c,?_⟩;refine q _ _ _ ((ÿa m).UI B r ⟨_,yk,(u.mono m.g).append A,?_⟩);rw[ś,ä];exact c;rw[Ï c]at a;cases a
 |_=>cases a
 cases a
def z9i{p r b:Pos}{fs:FA}(f:Ű=Â)(F:Gl X đ)(x:ó đ=Ã)(m:Gl X ña)(l:ó ña=Ã)(I:SA X [e] fs)(z:Ê Ća q12) :SF X (.Call Ŏp [.Call (.Name ña r) [e] [] b] [] pos) (eL DK fs):=by
 obtain⟨t,B,k⟩:=I.h;have s:=XU (p:=r) (pos:=b) lG m l Śj ⟨B⟩ Ð Ð Âo;refine⟨⟨_,(XU (p:=p) (pos:=pos) (lE f) F x Jk (O5 s Cp) Ð Ð).h,λ{N L G H τ σ d Q} E a q=>?_⟩⟩;obtain⟨u,w,a⟩:=zD a;refine k E w λK P O n J=>?_
 match u,a with
 | [.int j],a=>
  change (if 0<=j/\j<=1000000 then À (ņb ((ĺr).map λk:Nat=>.int k))else Ã)=À d at a
  by_cases c:0<=j/\j<=1000000;rw[Ë c]at a;cases a;obtain⟨v,rfl,C⟩:=qc J;cases(show v=.int j from C);refine⟨j,rfl,c.1,λp y=>⟨p,Èa,rfl,yk,by omega,λA g=>?_⟩⟩;have i:=n.trans (ļa (o:=Ur p Èa) n.gh y);refine q A _ _ (Ýf (ļa i.gh g)) (ďk g) (ër g) ⟨_,yk,z7d _,?_⟩;rw[é,īa,ś];show Èa<=16777216;omega;rw[Ï c]at a;cases a
omit a
structure kD(K:Î)(H0 G H:Hp)(p:Ç)(qs:Á Ç)(nds:Á Űa):Prop where
 hp:H p=À (Α (ćc Ųa))
 p0:H0 p=Ã
 pg:G p=Ã
 np:p ∉ qs
 nd:ĉk
 ln:ńq=ſj
 el:∀(j:Nat)(q:Ç),qs[j]?=À q->∃ds vs,nds[j]?=À ds/\H q=À Ŵr/\H0 q=Ã/\G q=Ã/\ã K G ds vs/\ú<=Ý
structure ZP(K:Î)(n:Nat)(G0 H0 G H:Hp)(τ:zy)(σ:St)(i:Nat)(nds:Á Űa):Prop where
 env:yA K n G0 H0 G H τ σ
 no:pG τ=Â
 WF:∃p qs,σ[i]?=À Ńr/\kD K H0 G H p qs nds
inductive NF where
 |nx (nds:Á Űa) (τ:zy)
 |rt (d:D)
abbrev tf:=Á Űa->zy->Æ NF
def Wt(K:Î)(n:Nat)(a b:Hp)(E:uJ)(i:Nat):NF->Prop
 |.nx nds τ=>∀σ G H,ZP K n a b G H τ σ i nds->E.nx σ H|.rt d=>∀v G H,zO a b G H->zS K G d v->E.rt v H
structure NS(X:Cx)(i:Nat)(st:Ù)(f:tf):Prop where
 h:∃t,PS X st t/\∀{G0 H0 G H:Hp}{τ:zy}{σ:St}{nds:Á Űa} {fl:NF} {E:uJ},ZP X.K ò G0 H0 G H τ σ i nds->f nds τ=À fl->Wt X.K ò G0 H0 E i fl->t E σ H
structure Uo(X:Cx)(i:Nat)(st:Á Ù)(f:tf):Prop where
 h:∃t,uM X st t/\∀{G0 H0 G H:Hp}{τ:zy}{σ:St}{nds:Á Űa} {fl:NF} {E:uJ},ZP X.K ò G0 H0 G H τ σ i nds->f nds τ=À fl->Wt X.K ò G0 H0 E i fl->t E σ H
section
variable{K:Î}{n:Nat}{G0 H0 G H G' H':Hp}{τ:zy}{σ:St}{i:Nat}{nds:Á Űa}{p:Ç}{qs:Á Ç}
def CB(x:zO G H G' H'){a:Ç}(c:G a=Ã)(b:H a≠Ã):G' a=Ã:=by
 cases e:G' a with
 |Ã=>rfl|À u=>rcases Ěd a Żh with w|w;exact Û c w;exact Û w b
def kD.go(N:kD K H0 G H p qs nds)(x:zO G H G' H'):kD K H0 G' H' p qs nds:=⟨x.h _ _ N.hp,N.p0,CB x N.pg (by rw[N.hp];exact λz=>nomatch z),N.np,N.nd,N.ln,λj q e=>by obtain⟨a,b,e1,e2,c,d,r,l⟩:=N.el j q e;exact⟨a,b,e1,x.h _ _ e2,c,CB x d (by rw[e2];exact λz=>nomatch z),éa x.g,l⟩⟩
theorem ZP.go(N:ZP K n G0 H0 G H τ σ i nds)(x:zO G H G' H'):ZP K n G0 H0 G' H' τ σ i nds:=by obtain⟨p,qs,e,w⟩:=N.WF;exact⟨N.env.go x,N.no,p,qs,e,w.go x⟩
def Ik(h:pG τ=Â){j:Nat}{d:D}(e:τ[j]?=À âc):î:=by have:=Ĕa h _ (Áa e);cases this
def yA.fq(E:yA K n G0 H0 G H τ σ)(f:pG τ=Â){q:Ç}{o:HO}(i:H0 q=Ã)(l:G q=Ã):yA K n G0 H0 G Šq τ σ:=by
 have a:∀{c:Hp},c q=Ã->zo c H->zo c Šq:=λ{c} h s b u z=>by rw[yP (tO z h)];exact s _ _ z
 exact⟨⟨úh,a i ĉd,a l Ńa,źd⟩,Ĵ,Į,èb,λj d h=>(Ik f h).elim,λj k d e p _ h=>(Ik f h).elim⟩
def yA.unset(E:yA K n G0 H0 G H τ σ)(b:pG τ=Â)(v:V):yA K n G0 H0 G H Âj ód:=by refine⟨Ņb,by rw[ŭ];exact Ĵ,by rw[ŭ];exact Į,λj d h=>?_,λj d h=>?_,λj k d e p _ h=>?_⟩;rcases vS h with⟨_,z⟩|⟨a,z⟩;cases z;rw[uY a];exact èb j d z;rcases vS h with⟨_,z⟩|⟨a,z⟩;cases z;exact(Ik b z).elim;rcases vS h with⟨_,z⟩|⟨a,z⟩;cases z;exact(Ik b z).elim
def z1m(h:pG τ=Â)(i:Nat):pG Âj=Â:=by
 refine ųf λs a=>?_
 rcases Ùi a with z|z;exact Ĕa h _ z;subst z;rfl
def CD(h:pG τ=Â)(i:Nat)(d:D):pG Áj=Â:=by
 refine ųf λs a=>?_
 rcases Ùi a with z|z;exact Ĕa h _ z;subst z;rfl
theorem zO.uT(x:zO G0 H0 G H):∀(l:Á Ç),l.Nodup->(∀a∈l,H0 a=Ã/\G a=Ã/\H a≠Ã)->∃G',zO G0 H0 G' H/\zo G G'/\(∀a∈l,G' a=H a)/\∀b,b ∉ l->G' b=G b
 | [],_,_=>⟨G,x,ūa _,λ_ h=>(Ėa h).elim,λ_ _=>rfl⟩|a::l,nd,h=>by
  obtain⟨j,q⟩:=Ĺf nd;obtain⟨i,n,p,e1,g⟩:=zO.uT x l q λb d=>h b ļr
  obtain⟨o,m,k⟩:=h a ĵ;cases e:H a with
  |Ã=>exact Û e k|À u=>
   have f:i a=Ã:=by rw[g a j];exact m
   refine⟨zX i a u,n.wU o f e,ñh (vJ f u),λb d=>?_,λb d=>?_⟩;by_cases c:b=a;subst c;rw[yk,e];rw[yP c];exact e1 b ((ę d).resolve_left c);rw[yP (λc:b=a=>d (by rw[c];exact ĵ)),g b λc=>d Ľr]
theorem kD.rep(N:kD K H0 G H p qs nds)(x:zO G0 H0 G H)(t:ńq<=Ý):∃G',zO G0 H0 G' H/\zS K G' (Α (nds.map .lst)) ŝ:=by
 have c:∀a∈p::qs,H0 a=Ã/\G a=Ã/\H a≠Ã:=λa i=>by rcases ę i with rfl|i;exact⟨N.p0,N.pg,by rw[N.hp];exact λz=>nomatch z⟩;obtain⟨j,A⟩:=List.getElem?_of_mem i;obtain⟨b,m,_,e2,v,w,_⟩:=N.el j a A;exact⟨v,w,by rw[e2];exact λz=>nomatch z⟩
 obtain⟨G',o,s,g,y⟩:=x.uT (p::qs) (ſf ⟨N.np,N.nd⟩) c;refine⟨G',o,p,ćc Ųa,rfl,őa ((g p ĵ).trans N.hp),?_,by rw[é];exact t⟩
 have n:∀(j:Nat)(q:Ç),qs[j]?=À q->∃b,nds[j]?=À b/\zS K G' ĵk (.ref q):=λj q k=>by obtain⟨b,m,e1,e2,_,_,r,l⟩:=N.el j q k;exact⟨b,e1,q,m,rfl,őa ((g q (Àa _ (Áa k))).trans e2),éa s,l⟩
 have f:=N.ln;clear c N o g y t x s
 induction nds generalizing qs with
 |nil=>
  cases qs with
  |nil=>rfl|ù q qs=>cases f
 |ù d nds ih=>
  cases qs with
  |nil=>cases f|ù q qs=>
   obtain⟨b,e1,B⟩:=n 0 q rfl;cases e1
   exact⟨_,_,rfl,B,ih (λj u h=>by obtain⟨b,e,r⟩:=n Ëa u ĩa;exact⟨b,by simpa using e,r⟩) Ëg⟩
theorem Wt.near{b c:Hp}{E:uJ}{a:NF}(x:zO G0 H0 b c)(h:Wt K n G0 H0 E i a):Wt K n b H0 E i a:=by
 cases a with
 |nx nds τ=>exact λσ G H z=>h σ G H ⟨yA.near x z.env,z.no,z.WF⟩|rt d=>exact λv G H y r=>h v G H đj r
omit a
noncomputable def VI(f g:tf):tf:=λa τ=>(f a τ).bind λb=>match b with
 |.nx a τ=>g a τ|.rt d=>À (.rt d)
noncomputable def AC(k v:FE):tf:=λa τ=>(k τ).bind λx=>(v τ).bind λy=>match x with
 |.int j=>match a[Èa]? with
  |À ds=>if 0<=j/\ú<yD then À (.nx (a.set Èa Šr) τ)else Ã|Ã=>Ã
 |_=>Ã
noncomputable def Tp(g:FG)(b:tf):Á D->Á Űa->zy->Æ NF
 | [],nds,τ=>À (.nx nds τ)|d::ds,nds,τ=>(g d τ).bind λτ'=>(b nds τ').bind λa=>match a with
  |.nx ŵc τ''=>Tp g b ds ŵc τ''|.rt d=>À (.rt d)
def VH(it:FA)(g:FG)(b:tf):tf:=λa τ=>(it τ).bind λc=>Tp g b c a τ
noncomputable def Tw:tf:=λa _=>if Ġa<=yD then À (.rt (Α (òe .lst)))else Ã
section
variable{X:Cx}{i:Nat}{x:Str}{p pos ôa Ìa ź xp sp:Pos}{e k v c tg Ż:Ñ}{f fk fv:FE}{fs:FA}{st:Ù}{sts Ēc:Á Ù}{g g':tf}{fg:FG}
def z1p(b:NS X i st g)(f:Uo X i sts g'):Uo X i ñk (VI g g'):=by
 obtain⟨t,p,k⟩:=b.h;obtain⟨n,e,l⟩:=f.h;refine⟨⟨_,O1 p e,λ{v s G H τ σ c r E} K a q=>?_⟩⟩;obtain⟨j,b,a⟩:=zD a;refine k K b ?_;cases j with
 |nx ŵc τ'=>exact λσ' o u m=>l m a q|rt d=>cases a;exact q
def CO(a:NS X i st g):Uo X i [st] g:=⟨let ⟨t,p,k⟩:=a.h;⟨t,Cc p,k⟩⟩
def z1n(hu:Ăb+1<Êa)(ho:QE X Âa Ċc)(hk:SE X k fk)(hv:SE X v fv)(hp:Ê Ņg q12)(n:Ê (Ģb ůf ſg Ö (Ę ůf Ö)=Ę ůf Ö) q12)(g:Ê ŏb q12)(hs:Ê (yf v=Â) q12) :NS X i (.Expr (.Call (.Attribute ůf ſg Ìa) [v] [] ź) pos) (AC fk fv):=by
 obtain⟨tk,pk,kk⟩:=ġd;obtain⟨t,pv,kv⟩:=(zC hv zL hs).h;refine⟨⟨_,(Cq (QC Ţf şm ŝm AB (o:=.Subscript Âa k sp) ⟨Iw (Sh (X:=X)) ho.h pk (I_ hp)⟩ ⟨pv⟩ n g (by rw[ţ,hs];rfl) Ģe) rfl).h,λ{G0 H0 G H τ σ O fl E} K b q=>?_⟩⟩;obtain⟨xk,hk,b⟩:=zD b;obtain⟨y,hy,b⟩:=zD b;cases xk with
 |int j=>
  dsimp only at b;cases hds:O[Èa]? with
  |Ã=>rw[hds]at b;cases b|À ds=>
  rw[hds]at b;dsimp only at b;by_cases c:0<=j/\ú<yD;rw[Ë c]at b;cases b;obtain⟨a,p,Y,w⟩:=K.WF;refine⟨_,Y,kk K.env hk λu G1 H1 S r1=>?_⟩;cases(show u=.int j from r1);have N:=w.go S;have m:p[Èa]?=À Ůl:=č _;generalize Ůl=q0 at m
  have P:tm (ħf Ųa) j=À (.ref q0):=by have e:=iI (xs:=ħf Ųa) (j:=Èa) (v:=.ref q0) (by rw[Œ,m];rfl);rw[show((Èa:Nat):Int)=j by omega]at e;exact e
  obtain⟨ds1,L,e1,e2,_⟩:=N.el _ _ m;refine⟨a,ħf Ųa,j,.ref q0,rfl,rfl,őa N.hp,P,.inl ⟨rfl,L,őa e2⟩,kv (K.env.go S) (ds:=[y]) (by unfold zB;rw[hy];rfl) λus G2 H2 W r2=>?_⟩;obtain⟨u,r,rfl,C,hr⟩:=r2;cases(show r=[]from hr);have T:=ÿa (S.trans W);have f:=N.go W;obtain⟨ds2,B,s,Q,h0,hg,Z,l⟩:=f.el _ _ m;rw[hds]at s;cases s;refine⟨q0,B,u,rfl,rfl,Q,by rw[Z.length,ś];exact c.2,?_⟩;refine q _ _ _ ⟨T.env.fq T.no h0 hg,T.no,a,p,Y,?_⟩;have R:a≠q0:=λz=>w.np (z▸Áa m)
  refine⟨by rw[yP R];exact f.hp,f.p0,f.pg,f.np,f.nd,by rw[ŭ];exact f.ln,λj' q' d=>?_⟩;by_cases cj:j'=Èa;subst cj;rw[m]at d;cases d;refine⟨ds++[y],B++[u],Zi (ō hds).1,yk,h0,hg,Z.append (ãf C),?_⟩;rw[ä,ś];exact c.2;have J:q'≠q0:=λz=>cj ((Üo (ō d).1 f.nd).mp (by rw[d,m,z]))
  obtain⟨I,U,f1,f2,f3⟩:=f.el _ _ d;exact⟨I,U,by rw[uY cj];exact f1,by rw[yP J];exact f2,f3⟩;rw[Ï c]at b;cases b
 |_=>cases b
structure Mn(X:Cx)(i:Nat)(tg:Ñ)(fg:FG):Prop where
 h:∃t,PG X tg t/\∀{G0 H0 G H:Hp}{τ τ':zy}{σ:St}{d:D}{v:V}{Q:St->Hp->Prop},yA X.K ò G0 H0 G H τ σ->pG τ=Â->zS X.K G d v->fg d τ=À τ'->(∀σ',yA X.K ò G0 H0 G H τ' σ'->pG τ'=Â->σ'[i]?=σ[i]?->Q σ' H)->t v σ H Q
def z9o{j:Nat}(h:QG X Ða (vz j))(hi:X.N[j]?=À x)(a:Ê (i≠j) q10):Mn X i Ða (yR j):=⟨⟨_,h.h,λK c r b q=>by cases b;exact q _ Ŭo (CD c _ _) (uY a)⟩⟩
def z9n{j l:Nat}{y:Str}{g k:Pos}{f:Nat}(h:QG X Õm (Zg X.K 2 (qT (vz j) (qT (vz l) Zf))))(hi:X.N[j]?=À x)(z:X.N[l]?=À y)(e:Ê (i≠j) q10)(c:Ê (i≠l) q10):Mn X i Õm (uE j l):=⟨⟨_,h.h,λ{E C G H τ τ' σ d v Q} K s r b q=>by
 unfold uE at b
 split at b;rename_i A F;cases b;obtain⟨a,B,rfl,n,⟨u,I,rfl,m,⟨w,o,rfl,t,p⟩⟩,_⟩:=r;cases(show o=[]from p);refine⟨a,_,rfl,uA Ųb n,rfl,u,_,rfl,w,_,rfl,rfl,?_⟩;exact q _ ((K.set ąb.1 m).set (ō z).1 t) (CD (CD s _ _) _ _) (by rw[uY c,uY e]);cases b⟩⟩
def Ak(Z:Źd ÿ X.A Ö ġ)(C:Ű=Â)(hi:SI X tg Ż fs)(hg:Mn X i tg fg)(B:Uo X i Ēc g)(hs:Ê (∀x,Ôc Ż Ö x=pure x) q11):NS X i Öi (VH fs fg g):=by
 obtain⟨ti,F,U⟩:=Ģd;obtain⟨W,S,O⟩:=hg.h;obtain⟨tb,u,kb⟩:=B.h;refine⟨⟨_,Ca Z C F S u hs,λ{G0 t G H τ σ nds p E} K b q=>?_⟩⟩;obtain⟨c,v,b⟩:=zD b;refine U K.env v λJ o Ha xa _ n=>?_
 have f:=ÿa xa;have s:=Wt.near f.env.ext q;refine⟨λj m σ H=>m=ĳa-j/\j<=ĳa/\∃τ G nds,ZP X.K ò o t G H τ σ i nds/\Tp fg g (Ñl j) nds τ=À p,⟨ĳa,rfl,Ãa _,τ,o,nds,⟨f.env.YS,f.no,f.WF⟩,b⟩,?_⟩;rintro j m σ H ⟨rfl,hle,τ,G,nds,K,b⟩;by_cases hlt:j<ĳa;refine .inr ⟨n.go j G H įj Ĉj hlt,λσ' k=>∃τ G nds,ZP X.K ò o t G k τ σ' i nds/\Tp fg g (Ñl Ëa) nds τ=À p,λσ' k z=>⟨ĳa-Ëa,by omega,rfl,hlt,z⟩,λx k y=>?_⟩;obtain⟨G3,d,P,r,rd⟩:=n.ui j G H x k įj Ĉj hlt y;rw[ſc hlt]at b;rw[č hlt]at r;cases r;obtain⟨τ1,T,b⟩:=zD (show(fg _ τ).bind _=_ from b);obtain⟨f1,Q,b⟩:=zD b;have l:=ÿa P;obtain⟨a,Y,I,w⟩:=l.WF;refine O l.env l.no rd T λσ1 L no1 R=>kb (nds:=nds) ⟨L,no1,a,Y,by rw[R];exact I,w⟩ Q ?_
 cases f1 with
 |nx Ġd τ2=>exact λσ2 G2 H2 K2=>⟨τ2,G2,Ġd,K2,b⟩|rt d=>cases b;exact s
 have e:Ñl j=[]:=ĝe Å;rw[e]at b;cases b;exact .inl ⟨n.stop j G H įj Ĉj Å,s _ _ _ K⟩
def z1o(k:Ê Ød q12)(hv:Ê îd q13)(f:Ê ĺ q10)(e:Ê Ęc q10):NS X i ûo Tw:=by refine⟨⟨_,Q5 (XS k hv f e),λ{o n G H τ σ d m E} K b q=>?_⟩⟩;unfold Tw at b;by_cases c:Öa<=yD;rw[Ë c]at b;cases b;obtain⟨a,l,g,w⟩:=K.WF;obtain⟨h,j,r⟩:=w.rep K.env.ext (by rw[ś];exact c);exact⟨_,g,q _ h H j r⟩;rw[Ï c]at b;cases b
omit a
def VT(i:Nat)(a:zy->Æ Nat)(g:tf):FS:=λτ=>match pG τ with
 |Ä=>Ã|Â=>(ĳh).bind λm=>(g Ũj Âj).bind λb=>match b with
  |.rt d=>À Ķq|.nx _ _=>Ã
noncomputable def Tv(it:FA):zy->Æ Nat:=λτ=>(it τ).bind λa=>À Ġa
section
variable{X:Cx}{i:Nat}{x:Str}{pos ôa p spos:Pos}{e tg Ż:Ñ}{st:Ù}{fi:zy->Æ Nat}{fs:FA}{zr:Á Ù}{g:tf}{Ľ:ýa}{cl:Á Āb}{own:Á Str}{tG:TG}{fg:FG}
def z1d{G0 H0 G H x r:Hp}{τ:zy}{σ:St}{J:It}{ds:Á D}{Q:Ç->Hp->Prop}(R:kG X.K J x ds)(l:ú<=Ý)(K:yA X.K ò G0 H0 G H τ σ)(S:zO G H x r)(hg:BG X Ľ cl own tg tG fg)(P:∀d τ,(şr).isSome=Â)(q:∀p qs G' H',zO G H G' H'->kD X.K H G' H' p qs (į ú [])->Q p H') :∃W:Nat->Nat->Á V->Hp->Prop,(∃m,W 0 m [] r)/\Tk σ ðb J tG HE (dC Xl) W λys H'=>∀p,H' p=Ã->Q p (zX H' p åc):=by
 have Z:=ÿa S;refine⟨λi m ys H'=>m=ú-i/\i<=ú/\∃(G':Hp) (qs:Á Ç),zO x r G' H'/\ys=ćc Ųa/\ſj=i/\ĉk/\∀b∈qs,H' b=À Àe/\r b=Ã/\G' b=Ã,⟨ú,rfl,Ãa _,x,[],śa Z.ext.gh,rfl,rfl,Şd,λ_ h=>(Ėa h).elim⟩,?_⟩;rintro i m ys I ⟨rfl,hle,C,qs,o,rfl,Y,nd,F⟩;by_cases hlt:i<ú;refine .inr ⟨R.go i C I o.g o.gh hlt,by rw[é];omega,λys H'=>∃(G':Hp) (qs:Á Ç),zO x r G' H'/\ys=ćc Ųa/\ſj=i+1/\ĉk/\∀b∈qs,H' b=À Àe/\r b=Ã/\G' b=Ã,λys' H' z=>⟨ú-ï,by omega,rfl,hlt,z⟩,λv H' y=>?_⟩;obtain⟨U,d,s,ed,rv⟩:=R.ui i C I v H' o.g o.gh hlt y;have K3:=((Z.go o).go s).more ðb;obtain⟨τ1,h1⟩:=ıd (P d ŀi);refine hg.k K.l2 K.l1 U H' d v τ1 _ K3 rv h1 λρ K4=>⟨⟨ρ,rfl⟩,?_⟩
 dsimp only;unfold HE;dsimp only;rw[Ë rfl];refine⟨Ãa _,λb f=>?_⟩;have n:=o.trans s
 have a:b ∉ qs:=λz=>by have:=s.h _ _ (F b z).1;rw[this]at f;cases f
 refine⟨U,qs++[b],n.trans (ļa n.gh f),by rw[ža];rfl,by rw[ä,Y];rfl,?_,λc A=>?_⟩;exact än ⟨nd,ſf ⟨Ėa,Şd⟩,λu hu w hw e=>a (by cases Ķ hw;exact e▸hu)⟩;rcases Ïa A with z|z;obtain⟨E,L,O⟩:=F c z;have T:=s.h _ _ E;refine⟨by rw[yP (λe:c=b=>a (e▸z))];exact T,L,CB s O (by rw[E];exact λz=>nomatch z)⟩;cases Ķ z;exact⟨yk,n.h.free f,n.gh.free f⟩;have ei:i=ú:=by omega
 subst ei;refine .inl ⟨R.stop ú C I o.g o.gh Ċ,λb f=>?_⟩;have B:=S.trans o
 have a:b ∉ qs:=λz=>by rw[(F b z).1]at f;cases f
 refine q b qs C _ (Ŏk (ļa B.gh f)) ⟨yk,B.h.free f,B.gh.free f,a,nd,by rw[ħa];exact Y.symm,λj c A=>?_⟩;have t:=Áa A;obtain⟨E,L,O⟩:=F c t;refine⟨[],[],?_,by rw[yP (λe:c=b=>a (e▸t))];exact E,S.h.free L,O,rfl,Ãa _⟩;rw[ĺd,Ë (by have:=(ō A).1;omega)]
structure P9(X:Cx)(i:Nat)(st:Ù)(f:zy->Æ Nat):Prop where
 h:∃t,PS X st t/\∀{G0 H0 G H:Hp}{τ:zy}{σ:St}{m:Nat}{E:uJ},yA X.K ò G0 H0 G H τ σ->f τ=À m->(∀p qs G' H',zO G H G' H'->kD X.K H G' H' p qs Ũj->E.nx ŷf H')->t E σ H
def y05(a:Ű=Â)(w:Ņa)(b:X.N[i]?=À x)(n:ķd x=À .local)(B:YX X Ľ cl own)(c:ĳc ļl Ñm Ýr Ö=pure Â)(hi:SI X tg Ż fs)(k:BG X Ľ cl own tg tG fg)(e:∀d τ,(şr).isSome=Â)(t:Ê (∀x,Ôc Ż Ö x=pure x) q11) :P9 X i (.Assign [.Name x ôa] ļl spos) (Tv fs):=by obtain⟨F,r,z⟩:=Ģd;refine⟨⟨_,aj a w b n B c r (λC s H g j=>(k.q C s H g j).h) (λC s H g j=>am) (λC s H g j=>aN XR) t,λ{P L G H τ σ m E} K f q=>?_⟩⟩;obtain⟨A,o,f⟩:=zD f;cases f;exact z K o λJ O I u l y=>z1d (Q:=λp v=>E.nx ŷf v) y l K u k e q
def y0o(hi:X.N[i]?=À x)(s:P9 X i st fi)(v:Uo X i zr g):tF X (st::zr) (VT i fi g):=by
 obtain⟨t,p,k⟩:=s.h;obtain⟨O,C,B⟩:=v.h;refine⟨⟨_,O1 p C,λ{P I G H τ σ o E} K b q=>?_⟩⟩;unfold VT at b;cases no:pG τ with
 |Ä=>rw[no]at b;cases b|Â=>
 rw[no]at b;obtain⟨m,f,b⟩:=zD (show(fi τ).bind _=À o from b);obtain⟨L,u,b⟩:=zD b;refine k K f λa e A J x w=>?_
 have c:i<ò:=ąb.1
 have r:kD X.K I A J a e Ũj:=⟨w.hp,ēg w.p0,w.pg,w.np,w.nd,w.ln,λj q z=>by obtain⟨y,l,e1,e2,n,F⟩:=w.el j q z;exact⟨y,l,e1,e2,ēg n,F⟩⟩
 refine B (nds:=į m []) (τ:=τ.set i Ã) ⟨(Œk).unset no _,z1m no i,a,e,Zi (by rw[K.l1];exact c),r⟩ u ?_;cases L with
 |nx nds τ2=>cases b|rt d=>cases b;exact q
omit a
omit L3
namespace L2
open ľ Ŕ Ďb ň
section
variable{ø:æ}{w:Þ}{A:ñ}{E:Value->É->Prop}
def lf{s:É}{a:Ç}{kvs:Á Êb}{ep:Nat}{Q:Á Value->É->Prop}(t:ğa=Ã)(lo:Ŝa=Ä)(m:Ðj ăa a kvs ep)(q:ŗ<=Ý)(h:∀h' tk vs,Ą=ŗ->(∀(j:Nat)(v:Value),vs[j]?=À v->∃k x,kvs[j]?=À (k,x)/\(ăa).is k v=Â)->Õ<ŗp->(∀b ob,ð b=À ob->ā b=À ob)->Q vs { s with á:=h',Ć:=tk }):Ó à A Đr Q E s:=by
 unfold Âk;refine Ì ķl;show Ó _ _ Ěl _ _ s;refine Ì čl;have i:a<Õ:=m.lt_size;have f:Õ≠a:=y_ (įa i);rw[Ĳd ãa]
 refine W.kdl_extend (R:=λr n=>match r with
  |.ok (.ret v)=>Ó à A (match v with
   |Đ a=>(do
    let o <-load a
    match Ýa with
    |.seq xs _=>pure Řg|_=>àq Şn)
   |_=>àq Şn) Q E n
  |.ok _=>î|.error e=>E e n) (s:={ s with á:=åa łd }) (W.kdl_dict (knd:=xJ ø w) (kvs:=kvs) (ep:=ep) lo) (by exact t) (m.push _) Õ f f ĝa 0 Üd (λh' tk c u p g d=>?_) q
 refine Ì (Őj g ?_);show Ó _ _ (pure Ēk) _ _ _;refine ë (h h' tk Ēk (by rw[Ģ];exact d.1) (λj v e=>d.2 j v (by rw[<-ła];exact e)) (Č g) λb ob e=>?_);exact p b ob (y_ ĸr) žd
def rR(vs:Á Value)(kvs:Á Êb)(ns:Á Int)(b:Ą=ŗ)(a:öf (·.1)=Ŏa Ş)(c:∀(j:Nat)(v:Value),vs[j]?=À v->∃k x,kvs[j]?=À (k,x)/\(ăa).is k v=Â):Ľb vs ns:=by
 revert kvs ns
 induction vs with
 |nil=>
  intro kvs ns b a _;cases kvs with
  |nil=>
   cases ns with
   |nil=>exact .nil|ù n ns=>cases a
  |ù _ _=>cases b
 |ù v vs ih=>
  intro kvs ns b a c;cases kvs with
  |nil=>cases b|ù kx kvs=>
   cases ns with
   |nil=>cases a|ù n ns=>obtain⟨k,x,e,z⟩:=c 0 v rfl;cases e;have d:k=Ş n:=ùo.1;subst d;obtain⟨t,rfl⟩:=Ùo (k:=n) (v:=v) z;exact .cons _ _ (ih kvs ns īi ùo.2 λj u f=>by simpa using c Ëa u Ëg)
omit a
section
theorem Sn:∀{kvs:Á ķa} {vs:Á Êb},KV kvs vs->Đh (·.1)=öf (·.1)
 |_,_,.nil=>rfl|_,_,.cons r t=>by rw[Ŗ,Ŗ,Sn t,r.1]
omit a
omit L2
namespace L3
open ľ Ŕ ň L2
noncomputable def VC:Á Ň->Æ ũg
 | []=>À []|.inl i::r=>(VC r).bind λa=>À íl|.inr _::_=>Ã
theorem Fm:∀{ks:Á Ň} {ns:Á Int},VC ks=À ns->ks=Ŏa Ş
 | [],_,h=>by cases h;rfl|.inl i::r,_,h=>by obtain⟨ns,a,h⟩:=zD h;cases h;rw[Fm a];rfl
 |.inr _::_,_,h=>by cases h
section
variable{α:Type}{P:Á α->Prop}
def dZ(h:P []):∀us:Á α,ća=0->P us
 | [],_=>h
def Qh{n:Nat}(h:∀a (r:Á α),ż=n->P øe):∀us:Á α,ća=n+1->P us
 |a::r,e=>h a r (Ŕd e)
def us1(h:∀a,P [a]):∀us:Á α,ća=1->P us:=Qh λa=>dZ (P:=λr=>P øe) Ĳf
def us2(h:∀a b,P Āe):∀us:Á α,ća=2->P us:=Qh λa=>us1 (P:=λr=>P øe) Ĳf
def us3(h:∀a b c,P [a,b,c]):∀us:Á α,ća=3->P us:=Qh λa=>us2 (P:=λr=>P øe) Ĳf
def us4(h:∀a b c d,P [a,b,c,d]):∀us:Á α,ća=4->P us:=Qh λa=>us3 (P:=λr=>P øe) Ĳf
def us5(h:∀a b c d e,P [a,b,c,d,e]):∀us:Á α,ća=5->P us:=Qh λa=>us4 (P:=λr=>P øe) Ĳf
omit a
abbrev IA(x:Str)(st:Ù)(oc:Value)(od:Æ Ç)(sl:Ô ţa)(kV dc pm:Value)(an:Æ Ç)(cd ct:Value):Æ Obj:=À ⟨oc,od,.func (ċb x x ůb Ûa ı .none kV dc pm an cd ct),sl⟩
omit L3
namespace L2
open ľ Ŕ Ďb ň
theorem So:∀{kvs:Á ķa} {vs:Á Êb},KV kvs vs->Ą=ŗ
 |_,_,.nil=>rfl|_,_,.cons _ t=>by rw[Ă,Ă,So t]
omit L2
namespace L3
open ľ Ŕ Ďb ň L2
noncomputable def Te:Á D->Æ ũg
 | []=>À []|.int i::r=>(Te r).bind λa=>À íl|_::_=>Ã
theorem SU{K:Î}{G:Hp}:∀{xs:Á D}{ns:Á Int}{vs:Á V},Te xs=À ns->ã K G xs vs->vs=Ŏa Ĕb
 | [],ns,vs,h,r=>by cases h;exact(show vs=[]from r)|.int i::xs,ns,vs,h,r=>by obtain⟨d,b,h⟩:=zD (show(Żk).bind _=_ from h);cases h;obtain⟨v,e,rfl,a,c⟩:=r;cases(show v=.int i from a);rw[SU b c];rfl
 |.zK::_,_,_,h,_=>by cases h|.bl _::_,_,_,h,_=>by cases h|.str _::_,_,_,h,_=>by cases h|.tup _::_,_,_,h,_=>by cases h|.lst _::_,_,_,h,_=>by cases h|.dic _ _::_,_,_,h,_=>by cases h|.exc _::_,_,_,h,_=>by cases h|.obj _ _ _::_,_,_,h,_=>by cases h
noncomputable def DJ:Á D->Æ D
 | [.dic ks _]=>À (.int Ŀ)|_=>Ã
def lB:vA X œd Įl:=by intro e s σ H xs f Q I r h;obtain⟨a,kvs,rfl,d,q⟩:=h;obtain⟨u,rfl,c⟩:=u_ r;cases c;exact mC I d λt g b=>⟨.int ŗ,H,b,⟨t,rfl⟩,q⟩
def z37{K:Î}:Up K Įl DJ:=λG H c g d Q s r b q=>by
 match c,b with
 | [.dic ks xs],b=>cases b;obtain⟨v,e,rfl,h,j⟩:=r;cases(show e=[]from j);obtain⟨a,g,rfl,f,i,k,_⟩:=h;refine⟨a,_,rfl,f,?_⟩;rw[Śd,<-i,Ķc];exact q _ _ _ ûa rfl
omit L3
namespace L3
open ľ Ŕ ň L2
inductive M where
 |fz (d:D)|own (d:D)|obj (x:Str) (fs:Á Str) (ms:Á M)|tab (ks:Á Ň) (ms:Á M)|tp (ms:Á M)
mutual
noncomputable def wG:M->D
 |.fz d=>d|.own d=>d|.obj x fs ms=>.obj x fs ŵd|.tab ks ms=>.dic ks ŵd|.tp ms=>.tup ŵd
noncomputable def ķh:Á M->Á D
 | []=>[]|m::ms=>wG m::ķh ms
end
noncomputable def Āa{κ α:Type}[Ťb κ]:Á κ->Á α->κ->Æ α
 |k'::ks,v::vs,k=>if k'=k then À v else Āa ks vs k|_,_,_=>Ã
noncomputable def vk{κ α:Type}[Ťb κ]:Á κ->Á α->κ->α->Á α
 |k'::ks,v::vs,k,y=>if k'=k then y::vs else v::vk ks vs k y|_,vs,_,_=>vs
inductive xV where
 |at(cs:Á Str) (f:Str)|ky (k:Sum Int Str)
def cf:M->xV->Æ M
 |.obj x fs ms,.at cs f=>if x∈cs then Āa fs ms f else Ã|.tab ks ms,.ky k=>Āa ks ms k|_,_=>Ã
def z9a:M->xV->M->M
 |.obj x fs ms,.at _ f,m=>.obj x fs (vk fs ms f m)|.tab ks ms,.ky k,m=>.tab ks (vk ks ms k m)|m,_,_=>m
def tq:M->Á xV->Æ M
 |m,[]=>À m|m,s::π=>(cf m s).bind λa=>tq a π
def qG:M->Á xV->M->Æ M
 |_,[],m'=>À m'|m,s::π,m'=>(cf m s).bind λa=>(qG a π m').bind λb=>À (z9a m s b)
abbrev Ft:=Ç->Prop
mutual
def yr(K:Î)(G H:Hp):M->V->Ft->Prop
 |.fz d,v,L=>zS K G d v/\∀q,¬ L q|.own d,v,L=>∃p,v=.ref p/\vi K G H d p/\∀q,L q↔q=p|.obj x fs ms,v,L=>∃p C dx vs L',v=.ref p/\ş K ă x=À îa/\H p=À ìi/\ŧa=Ą/\Š K G H ms vs L'/\¬ L' p/\∀q,L q↔q=p\/L' q|.tab ks ms,v,L=>∃p vs L',v=.ref p/\H p=À Ÿr/\Ŀ=Ą/\Š K G H ms vs L'/\Ĉa<=Ý/\¬ L' p/\∀q,L q↔q=p\/L' q|.tp ms,v,L=>∃p vs,v=.ref p/\yo K G p vs/\Š K G H ms vs L/\Ĉa<=Ý
def Š(K:Î)(G H:Hp):Á M->Á V->Ft->Prop
 | [],vs,L=>vs=[]/\∀q,¬ L q|m::ms,vs,L=>∃v r L1 L2,vs=v::r/\yr K G H m v L1/\Š K G H ms r L2/\(∀q,L1 q->L2 q->î)/\∀q,L q↔L1 q\/L2 q
end
def łh{P:M->Prop}(g:∀d,P Āk)(own:∀d,P ťj)(a:∀x fs ms,(∀m∈ms,P m)->P óp)(c:∀ks ms,(∀m∈ms,P m)->P (.tab ks ms))(i:∀ms,(∀m∈ms,P m)->P (.tp ms))(m:M):P m:=
 M.rec (motive_1:=P) (motive_2:=λms=>∀m∈ms,P m) g own (λx fs ms h=>a x fs ms h) (λks ms h=>c ks ms h) (λms h=>i ms h) űn
  (λd k j b e f=>by rcases ę f with z|z;exact z▸j;exact b e z) m
noncomputable def Pw:HO->Í
 |.lst _=>Â|.dK _=>Â|.ins _ _ _=>Â|_=>Ä
def Bx(H:Hp)(q:Ç):Prop:=∃u,H q=À u/\Pw u=Â
def Bx.some{H:Hp}{q:Ç}(b:Bx H q):H q≠Ã:=by obtain⟨u,e,_⟩:=b;rw[e];exact λz=>nomatch z
section
variable{K:Î}{G H G' H':Hp}
def vi.loc{d:D}{p:Ç}(g:zo G G')(h:H' p=H p)(o:vi K G H d p):vi K G' H' d p:=by
 cases d with
 |lst ds=>obtain⟨a,e,r,l⟩:=o;exact⟨a,Öe e,éa g,l⟩
 |dic ks ds=>obtain⟨a,e,z,r,l⟩:=o;exact⟨a,Öe e,z,éa g,l⟩
 |_=>exact Ŧc
theorem Ňc:∀{ms:Á M}{vs:Á V}{L:Ft},(∀m∈ms,∀v L1,(∀q,L1 q->L q)->yr K G H m v L1->yr K G' H' m v L1)->Š K G H ms vs L->Š K G' H' ms vs L
 | [],_,_,_,h=>h|m::ms,vs,L,f,h=>by obtain⟨v,r,L1,b,e,d,k,g,u⟩:=h;exact⟨v,r,L1,b,e,f m ĵ v L1 Én d,Ňc (λc j a i s o=>f c (Àa _ j) a i Èn o) k,g,u⟩
theorem yr.loc(g:zo G G')(m:M):∀(v:V)(L:Ft),(∀q,L q->H' q=H q)->yr K G H m v L->yr K G' H' m v L:=by refine łh (P:=λm=>∀v L,(∀q,L q->H' q=H q)->yr K G H m v L->yr K G' H' m v L) ?_ ?_ ?_ ?_ ?_ m;rintro d v L h ⟨r,n⟩;exact⟨éa g,n⟩;rintro d v L h ⟨p,e,o,u⟩;exact⟨p,e,úe g (h p ŵo),u⟩;rintro x F t i v L h ⟨p,C,y,f,k,e,B,j,l,r,n,u⟩;exact⟨p,C,y,f,k,e,B,(ŭg).trans j,l,Ňc óm r,n,u⟩;rintro E t i v L h ⟨p,f,k,e,j,l,r,A,n,u⟩;exact⟨p,f,k,e,(ŭg).trans j,l,Ňc óm r,A,n,u⟩;rintro t i v L h ⟨p,f,e,w,r,l⟩;exact⟨p,f,e,uA g w,Ňc (λm b a c s o=>i m b a c Ěn o) r,l⟩
theorem Šp:∀{ms:Á M}{vs:Á V}{L:Ft},Š K G H ms vs L->Ą=Ĉa
 | [],_,_,h=>by obtain⟨rfl,_⟩:=h;rfl
 |m::ms,_,_,h=>by obtain⟨v,r,c,b,rfl,_,a,_⟩:=h;rw[Ă,Ă,Šp a]
theorem vi.bx{d:D}{p:Ç}(o:vi K G H d p):Bx H p:=by
 cases d with
 |lst ds=>obtain⟨a,e,_⟩:=o;exact⟨_,e,rfl⟩
 |dic ks ds=>obtain⟨a,e,_⟩:=o;exact⟨_,e,rfl⟩
 |_=>exact Ŧc
theorem âd:∀{ms:Á M}{vs:Á V}{L:Ft},(∀m∈ms,∀v L1,yr K G H m v L1->∀q,L1 q->Bx H q)->Š K G H ms vs L->∀q,L q->Bx H q
 | [],_,_,_,h,q,z=>Û z (h.2 q)|m::ms,vs,L,f,h,q,z=>by obtain⟨v,r,L1,i,e,c,d,g,u⟩:=h;rcases(u q).mp z with z|z;exact f m ĵ v L1 c q z;exact âd (λa b=>f a Žd) d q z
theorem yr.cells(m:M):∀(v:V)(L:Ft),yr K G H m v L->∀q,L q->Bx H q:=by refine łh (P:=λm=>∀v L,yr K G H m v L->∀q,L q->Bx H q) ?_ ?_ ?_ ?_ ?_ m;rintro d v L ⟨r,n⟩ q z;exact Û z (n q);rintro d v L ⟨p,e,o,u⟩ q z;cases(u q).mp z;exact o.bx;rintro x s f a v L ⟨p,C,j,c,g,e,t,b,l,r,n,u⟩ q z;rcases(u q).mp z with rfl|z;exact⟨_,b,rfl⟩;exact âd a r q z;rintro h f a v L ⟨p,c,g,e,b,l,r,k,n,u⟩ q z;rcases(u q).mp z with rfl|z;exact⟨_,b,rfl⟩;exact âd a r q z;rintro f a v L ⟨p,c,e,i,r,l⟩ q z;exact âd a r q z
theorem HH:∀(ms:Á M),(ŵd).length=Ĉa
 | []=>rfl|m::ms=>by show(ŵd).length+1=_;rw[HH ms];rfl
theorem äf:∀{ms:Á M}{vs:Á V}{L:Ft},(∀m∈ms,∀v L1,(∀q,L1 q->L q)->yr K G H m v L1->zS K G' ål v)->Š K G H ms vs L->ã K G' ŵd vs
 | [],_,_,_,h=>h.1|m::ms,vs,L,f,h=>by obtain⟨v,r,L1,j,e,c,i,k,u⟩:=h;exact⟨v,r,e,f m ĵ v L1 Én c,äf (λb g a d s o=>f b (Àa _ g) a d Èn o) i⟩
theorem yr.qM(g:zo G G')(m:M):∀(v:V)(L:Ft),(∀q,L q->G' q=H q)->yr K G H m v L->zS K G' ål v:=by
 refine łh (P:=λm=>∀v L,(∀q,L q->G' q=H q)->yr K G H m v L->zS K G' ål v) ?_ ?_ ?_ ?_ ?_ m;rintro d v L h ⟨r,n⟩;exact éa g;rintro d v L h ⟨p,rfl,o,u⟩;have b:=h p ŵo;cases d with
 |lst ds=>obtain⟨a,e,r,l⟩:=o;exact⟨p,a,rfl,őa (őe e),éa g,l⟩
 |dic t ds=>obtain⟨a,e,z,r,l⟩:=o;exact⟨p,a,rfl,.inl (őe e),z,éa g,l⟩
 |_=>exact Ŧc
 rintro x F k j v L h ⟨p,C,B,a,E,e,y,b,l,r,n,u⟩;exact⟨p,C,B,a,e,y,(ŭg).trans b,l,äf òm r⟩;rintro t k j v L h ⟨p,a,E,e,b,l,r,w,n,u⟩;exact⟨p,a,e,.inl ((ŭg).trans b),l,äf òm r,by rw[HH];exact w⟩;rintro k j v L h ⟨p,a,e,A,r,l⟩;exact⟨p,a,e,uA g A,äf (λm f c i s o=>j m f c i Ěn o) r,by rw[HH];exact l⟩
theorem ŧe{κ:Type}[Ťb κ]{k:κ}{m1:M}:∀{ks:Á κ}{ms:Á M}{vs:Á V}{L:Ft},Š K G H ms vs L->Āa ks ms k=À m1->
  ∃v1 L1,Āa ks vs k=À v1/\yr K G H m1 v1 L1/\(∀q,L1 q->L q)/\∀{G' H':Hp}{m2:M}{L2:Ft},zo G G'->(∀q,L q->¬ L1 q->H' q=H q)->yr K G' H' m2 v1 L2->(∀q,L2 q->L q->L1 q)->Š K G' H' ŗo vs Ĺm
 | [],_,_,_,_,e=>by cases e|_::_,[],_,_,_,e=>by cases e|k'::ks,m::ms,vs,L,h,e=>by
  obtain⟨v,r,n,x,rfl,t,y,b,u⟩:=h;unfold Āa at e;by_cases c:k'=k;rw[Ë c]at e;cases e;refine⟨v,n,by unfold Āa;rw[Ë c],t,λq z=>(àa).mpr ťb,λ{G' H' m2 L2} g j p l=>?_⟩;unfold vk;rw[Ë c];refine⟨v,r,L2,x,rfl,p,?_,λq d a=>b q (l q d ((àa).mpr (.inr a))) a,λq=>?_⟩;exact Ňc (λB _ A E s o=>úe g B A E λq z=>j q (ε ŭk) λw=>b q w ŭk) y;constructor;rintro(⟨z,w⟩|z);rcases(u q).mp z with z|z;exact Û z w;exact .inr z;exact .inl z;rintro(z|z);exact .inr z;exact .inl ⟨(àa).mpr Įb,λw=>b q w z⟩;rw[Ï c]at e;obtain⟨v1,L1,e1,C,i,f⟩:=ŧe y e;refine⟨v1,L1,by unfold Āa;rw[Ï c];exact e1,C,λq z=>(àa).mpr (.inr (i q z)),λ{G' H' m2 L2} g j p l=>?_⟩;unfold vk;rw[Ï c];refine⟨v,r,n,λq=>(x q/\¬ L1 q)\/L2 q,rfl,?_,f g (λq z w=>j q ęe w) p (λq z w=>l q z ((àa).mpr (.inr w))),λq d a=>?_,λq=>?_⟩
  exact t.loc g m v n λq z=>j q ŋe λw=>b q z (i q w);rcases a with⟨a,_⟩|a;exact b q d a;exact b q d (i q (l q a ((àa).mpr Ĺk)));constructor;rintro(⟨z,w⟩|z);rcases(u q).mp z with z|z;exact .inl z;exact .inr ĩo;exact .inr Įb;rintro(z|⟨z,w⟩|z);exact .inl ⟨(àa).mpr ťb,λw=>b q z (i q w)⟩;exact .inl ⟨(àa).mpr Įb,w⟩;exact .inr z
omit a
def wR(K:Î)(H:Hp):V->Á xV->V->Prop
 |v,[],u=>u=v|v,.at cs f::π,u=>∃p x C dx fs w,v=.ref p/\x∈cs/\ş K ă x=À îa/\H p=À Īb/\Ļc f=À w/\wR K H w π u|v,.ky k::π,u=>∃p kvs w,v=.ref p/\H p=À ùa/\tR kvs k=À w/\wR K H w π u
theorem IX{κ α:Type}[Ťb κ][BEq κ][LawfulBEq κ]{k:κ}:∀{ks:Á κ}{vs:Á α},(ĭb).lookup k=Āa ks vs k
 | [],_=>rfl|_::_,[]=>rfl|k'::ks,v::vs=>by
  rw[Ġb,łe];unfold Āa;by_cases c:k'=k;subst c;rw[Ë rfl];simp;rw[Ï c];have:(k==k')=Ä:=by simpa using λz=>c ÿc
  rw[this];exact IX
theorem Rw{α:Type}{k:Sum Int Str}:∀{ks:Á Ň} {vs:Á α},Āa ks vs k=ą ks vs k
 | [],_=>by unfold Āa ą;rfl|_::_,[]=>by unfold Āa ą;rfl|k'::ks,v::vs=>by unfold Āa ą;by_cases c:k'=k;rw[Ë c,Ë c];rw[Ï c,Ï c];exact Rw
section
variable{K:Î}{G H G' H':Hp}
theorem Łk(s:zo H H'):∀{π:Á xV}{v u:V},wR K H v π u->wR K H' v π u
 | [],_,_,h=>h|.at cs f::π,_,_,h=>by obtain⟨p,x,C,d,g,w,e,c,i,b,l,r⟩:=h;exact⟨p,x,C,d,g,w,e,c,i,s _ _ b,l,Łk s r⟩
 |.ky k::π,_,_,h=>by obtain⟨p,a,w,e,b,l,r⟩:=h;exact⟨p,a,w,e,s _ _ b,l,Łk s r⟩
theorem Đd:∀{π:Á xV}{v u u':V},wR K H v π u->wR K H v π u'->u=u'
 | [],_,_,_,h,h'=>Öe h'.symm|.at cs f::π,_,_,_,h,h'=>by obtain⟨p,x,C,z,E,w,rfl,y,B,d,l,r⟩:=h;obtain⟨m,A,t,o,s,n,e,q,i,a,b,c⟩:=h';cases e;rw[d]at a;cases a;rw[l]at b;cases b;exact Đd r c
 |.ky k::π,_,_,_,h,h'=>by obtain⟨p,j,w,rfl,d,l,r⟩:=h;obtain⟨m,g,n,e,a,b,c⟩:=h';cases e;rw[d]at a;cases a;rw[l]at b;cases b;exact Đd r c
theorem ŀk:∀{π:Á xV}{s:xV}{v u:V},wR K H v (π++[s]) u->∃w,wR K H v π w/\wR K H w [s] u
 | [],_,v,_,h=>⟨v,rfl,h⟩|.at cs f::π,_,_,_,h=>by obtain⟨p,x,C,j,n,w,e,i,m,a,l,r⟩:=h;obtain⟨c,g,b⟩:=ŀk r;exact⟨c,⟨p,x,C,j,n,w,e,i,m,a,l,g⟩,b⟩
 |.ky k::π,_,_,_,h=>by obtain⟨p,d,w,e,a,l,r⟩:=h;obtain⟨c,g,b⟩:=ŀk r;exact⟨c,⟨p,d,w,e,a,l,g⟩,b⟩
theorem ąk{m1:M}:∀{π:Á xV}{m:M}{v:V}{L:Ft},yr K G H m v L->tq m π=À m1->
  ∃v1 L1,wR K H v π v1/\yr K G H m1 v1 L1/\(∀q,L1 q->L q)/\∀{G' H':Hp}{m2:M}{L2:Ft},zo G G'->(∀q,L q->¬ L1 q->H' q=H q)->yr K G' H' m2 v1 L2->(∀q,L2 q->L q->L1 q)->
   ∃m',qG m π m2=À m'/\yr K G' H' m' v Ĺm
 | [],m,v,L,h,e=>by
  cases e;refine⟨v,L,rfl,h,λ_ z=>z,λ{G' H' m2 L2} g B O t=>⟨m2,rfl,?_⟩⟩
  have e:(λq=>(L q/\¬ L q)\/L2 q)=L2:=by
   funext q
   exact ńk ⟨λz=>ł (λw=>Û w.1 w.2) id,.inr⟩
  rw[e];exact O
 |s::π,m,v,L,h,e=>by
  obtain⟨P,b,ee⟩:=zD e
  have J:∀{p:Ç}{o L1 L2:Ft},¬ o p->(∀q,L q↔q=p\/o q)->(∀q,L1 q->o q)->(∀q,L2 q->L q->L1 q)->(¬ ((o p/\¬ L1 p)\/L2 p))/\∀q,((L q/\¬ L1 q)\/L2 q)↔q=p\/((o q/\¬ L1 q)\/L2 q):=λ{p o L1 L2} n u s t=>by refine⟨?_,λq=>⟨?_,?_⟩⟩;rintro(⟨z,_⟩|z);exact n z;exact n (s p (t p z Ŗf));rintro(⟨z,w⟩|z);rcases(u q).mp z with z|z;exact .inl z;exact .inr ĩo;exact .inr Įb;rintro(rfl|⟨z,w⟩|z);exact .inl ⟨(àa).mpr ŉ,λw=>n (s q w)⟩;exact .inl ⟨(àa).mpr Įb,w⟩;exact .inr z
  cases m with
  |fz d=>cases b|own d=>cases b|tp a=>cases b|obj x fs a=>
   cases s with
   |ky k=>cases b| «at» cs f=>
    change Ím=À P at b
    by_cases hx:x∈cs;rw[Ë hx]at b;obtain⟨p,C,dx,Q,o,rfl,ns,N,l,r,n,u⟩:=h;obtain⟨T,E,e1,Z,i,f1⟩:=ŧe r b;obtain⟨v1,L1,S,oo,j,W⟩:=ąk Z ee;refine⟨v1,L1,⟨p,x,C,dx,_,T,rfl,hx,ns,N,by rw[IX];exact e1,S⟩,oo,λq z=>(àa).mpr ĩn,λ{G' H' m2 L2} g B O t=>?_⟩;obtain⟨m',U,Y⟩:=W g Đm O ďm
    have I:=f1 g ém Y Ďl
    have eL:ŝl=ĸm:=by
     funext q
     refine ńk ⟨?_,?_⟩;rintro(⟨z,w⟩|⟨z,w⟩|z);exact .inl ⟨z,λF=>w (j q F)⟩;exact .inl ⟨i q z,w⟩;exact .inr z;rintro(⟨z,w⟩|z);by_cases c:E q;exact .inr īo;exact .inl ⟨z,c⟩;exact .inr Įb
    rw[eL]at I;obtain⟨R,X⟩:=J n u ęn t;refine⟨.obj x fs (vk fs a f m'),by show(ġg Ím _)=_;rw[Ë hx,b];show ġg żp _=_;rw[U];rfl,p,C,dx,Q,_,rfl,ns,?_,l,I,R,X⟩;rw[B p Ŗf λw=>n Ŀp];exact N;rw[Ï hx]at b;cases b
  |tab A a=>
   cases s with
   | «at» cs f=>cases b|ky k=>
    change Āa A a k=À P at b
    obtain⟨p,Q,o,rfl,N,l,r,l2,n,u⟩:=h;obtain⟨T,E,e1,Z,i,f1⟩:=ŧe r b;obtain⟨v1,L1,S,oo,j,W⟩:=ąk Z ee;refine⟨v1,L1,⟨p,_,T,rfl,N,by rw[Xs _ l,<-Rw];exact e1,S⟩,oo,λq z=>(àa).mpr ĩn,λ{G' H' m2 L2} g B O t=>?_⟩;obtain⟨m',U,Y⟩:=W g Đm O ďm
    have I:=f1 g ém Y Ďl
    have eL:ŝl=ĸm:=by
     funext q
     refine ńk ⟨?_,?_⟩;rintro(⟨z,w⟩|⟨z,w⟩|z);exact .inl ⟨z,λF=>w (j q F)⟩;exact .inl ⟨i q z,w⟩;exact .inr z;rintro(⟨z,w⟩|z);by_cases c:E q;exact .inr īo;exact .inl ⟨z,c⟩;exact .inr Įb
    rw[eL]at I;obtain⟨R,X⟩:=J n u ęn t;refine⟨.tab A ĵp,by show(ġg (Āa A a k) _)=_;rw[b];show ġg żp _=_;rw[U];rfl,p,Q,_,rfl,?_,l,I,?_,R,X⟩;rw[B p Ŗf λw=>n Ŀp];exact N;have:∀{A:Á Ň} {a:Á M},(ĵp).length=Ġa:=λ{A}=>by
     induction A with
     |nil=>intro a;rfl|ù k' A ih=>
      intro a;cases a with
      |nil=>rfl|ù y a=>
       unfold vk
       split;rfl;rw[Ă,Ă,ih]
    rw[this];exact l2
omit a
abbrev yB:=Á ťk
noncomputable def ďc:M->Æ Sl
 |.fz d=>À (Ä,d)|_=>Ã
def jd(β:yB):zy:=β.map λo=>Él ďc
def tP(β:yB):zy:=β.map λo=>o.map λm=>(Ä,wG m)
mutual
noncomputable def wS:D->Í
 |.zK=>Â|.bl _=>Â|.int _=>Â|.str _=>Â|.tup ds=>Ác ds|_=>Ä
noncomputable def Ác:Á D->Í
 | []=>Â|d::ds=>wS d&&Ác ds
end
def Ij:D->Í
 |.lst ds=>Ác ds|.dic _ ds=>Ác ds|_=>Ä
structure NK(K:Î)(H0 G H:Hp)(β:yB)(σ:St)(Ls:Nat->Ft):Prop where
 at_:∀(i:Nat)(m:M),β[i]?=À Ôb->∃v,σ[i]?=À Éa/\yr K G H m v ôl
 dj:∀(i j:Nat)(q:Ç),i≠j->Ls i q->Ls j q->î
 ok:∀(i:Nat)(q:Ç),Ls i q->G q=Ã/\H0 q=Ã/\Bx H q
structure zh(K:Î)(n:Nat)(P:Á V)(G0 H0 G H:Hp)(β:yB)(σ:St):Prop where
 ext:zO G0 H0 G H
 l1:σ.length=n
 l2:β.length=n
 lp:èa<=n
 pin:∀(i:Nat)(v:V),P[i]?=À v->σ[i]?=À Éa
 own:∃Ls,NK K H0 G H β σ Ls
section
variable{K:Î}{n:Nat}{P:Á V}{G0 H0 G H G' H':Hp}{β:yB}{σ:St}
def Bw{q:Ç}(x:zO G H G' H')(g:G q=Ã)(b:Bx H q):G' q=Ã/\Bx H' q:=by
 obtain⟨u,e,c⟩:=b;refine⟨?_,u,x.h _ _ e,c⟩;cases z:G' q with
 |Ã=>rfl|À o=>rcases Ěd q (by rw[z];exact λw=>nomatch w)with w|w;exact Û g w;rw[e]at w;cases w
def zh.go(E:zh K n P G0 H0 G H β σ)(x:zO G H G' H'):zh K n P G0 H0 G' H' β σ:=by obtain⟨f,F⟩:=þa;refine⟨ýq x,Ĵ,Į,Ăa,œa,f,λi m h=>?_,Ń,λi q z=>?_⟩;obtain⟨v,e,o⟩:=ű i m h;refine⟨v,e,úe x.g m v _ λq z=>?_⟩;obtain⟨u,d,_⟩:=šb.2.2;rw[d];exact x.h _ _ d;obtain⟨a,b,c⟩:=ų i q z;obtain⟨j,k⟩:=Bw x a c;exact⟨j,b,k⟩
def rB{i:Nat}{b:Í}{d:D}(h:œg[i]?=À ũe):b=Ä/\β[i]?=À (À Āk):=by
 unfold jd at h;rw[Œ]at h;cases e:β[i]? with
 |Ã=>rw[e]at h;cases h|À o=>
  rw[e]at h;cases o with
  |Ã=>cases h|À m=>
   cases m with
   |fz d'=>cases h;exact⟨rfl,rfl⟩|_=>cases h
def y21{i:Nat}{b:Í}{d:D}(h:Čh[i]?=À ũe):b=Ä/\∃m,β[i]?=À Ôb/\d=wG m:=by
 unfold tP at h;rw[Œ]at h;cases e:β[i]? with
 |Ã=>rw[e]at h;cases h|À o=>
  rw[e]at h;cases o with
  |Ã=>cases h|À m=>cases h;exact⟨rfl,m,rfl,rfl⟩
def Ra{τ:zy}(s:zo G H)(c:σ.length=n)(f:τ.length=n)(h:∀(i:Nat)(b:Í)(d:D),τ[i]?=À ũe->b=Ä/\∃v,σ[i]?=À Éa/\zS K G d v):yA K n G H G H τ σ:=
 ⟨śa s,c,f,λi d e=>(h i Ä d e).2,λi d e=>(by cases(h i Â d e).1),λi j d e p _ a=>(by cases(h i Â d a).1)⟩
def zh.JJ(E:zh K n P G0 H0 G H β σ):yA K n G H G H œg σ:=by
 obtain⟨c,F⟩:=þa;refine Ra Ńa Ĵ (by unfold jd;rw[é];exact Į) λi b d h=>?_
 obtain⟨rfl,a⟩:=rB h;obtain⟨v,e,r,_⟩:=ű i _ a;exact⟨rfl,v,e,r⟩
def m7{b c:Hp}{L:Ft}(j:∀q,¬ L q->c q=b q)(i:∀q,L q->Bx b q){a:Ç}{vs:Á V}(h:yo K b a vs):yo K c a vs:=by
 have k:∀{u:HO},Pw u=Ä->b a=À u->c a=À u:=λ{u} g e=>by rw[j a λz=>?_];exact e;obtain⟨w,d,f⟩:=i a z;rw[e]at d;cases d;rw[g]at f;cases f
 rcases h with h|h;rcases h with h|⟨o,h⟩;exact .inl (.inl (k rfl h));exact .inl (.inr ⟨o,k rfl h⟩);exact .inr h
def RF{g j:Hp}{L:Ft}(o:∀q,¬ L q->j q=g q)(s:∀q,L q->Bx g q)(d:D):∀(v:V),wS d=Â->zS K g d v->zS K j d v:=by
 refine D.ind (P:=λd=>∀v,wS d=Â->zS K g d v->zS K j d v) (λv _ h=>h) (λb v _ h=>h) (λi v _ h=>h) (λx v _ h=>h) ?_ (λc f v t=>by cases t) (λA c f v t=>by cases t) (λx v t=>by cases t) (λx B c f v t=>by cases t) d;rintro c f v t ⟨a,n,e,q,r,l⟩;refine⟨a,n,e,m7 o s q,?_,l⟩;have p:Ác c=Â:=t;clear t q l
 induction c generalizing n with
 |nil=>exact r|ù x c ih2=>obtain⟨u,m,rfl,w,z⟩:=r;have k:(wS x&&Ác c)=Â:=p;rw[ć]at k;exact⟨u,m,rfl,f x ĵ u k.1 w,ih2 (λd y=>f d (Àa _ y)) m z k.2⟩
theorem RG{b e:Hp}{L:Ft}(f:∀q,¬ L q->e q=b q)(c:∀q,L q->Bx b q):∀{ds:Á D}{vs:Á V},Ác ds=Â->ã K b ds vs->ã K e ds vs
 | [],_,_,r=>r|d::ds,_,t,r=>by obtain⟨u,h,rfl,g,i⟩:=r;have a:(wS d&&Ác ds)=Â:=t;rw[ć]at a;exact⟨u,h,rfl,RF f c d u a.1 g,RG f c a.2 i⟩
theorem zh.qM(E:zh K n P G0 H0 G H β σ):∃G1,yA K n G1 H G1 H Čh σ/\∀G2 H2,zO G1 H G2 H2->∃G3,zO G H G3 H2/\zh K n P G0 H0 G3 H2 β σ/\(∀d v,wS d=Â->zS K G2 d v->zS K G3 d v)/\(∀ds vs,Ác ds=Â->ã K G2 ds vs->ã K G3 ds vs)/\∀q,G2 q=Ã->G3 q=Ã:=by
 classical
 obtain⟨B,F⟩:=þa
 let L:Ft:=λq=>∃i,B i q
 have j:∀q,L q->G q=Ã:=λq ⟨i,z⟩=>šb.1
 have y:∀q,L q->Bx H q:=λq ⟨i,z⟩=>šb.2.2
 let G1:Hp:=λq=>if L q then H q else G q
 have e1:∀q,L q->G1 q=H q:=λq z=>Ë z
 have e2:∀q,¬ L q->G1 q=G q:=λq z=>Ï z
 have k:zo G G1:=λq o e=>by rw[e2 q λz=>by rw[j q z]at e;cases e];exact e
 have C:zo G1 H:=λq o e=>by by_cases c:L q;rw[e1 q c]at e;exact e;rw[e2 q c]at e;exact Ńa _ _ e
 refine⟨G1,Ra C Ĵ (by unfold tP;rw[é];exact Į) λi b d h=>?_,λG2 H2 x=>?_⟩;obtain⟨rfl,m,s,rfl⟩:=y21 h;obtain⟨v,e,o⟩:=ű i m s;exact⟨rfl,v,e,o.qM k m v _ λq z=>e1 q ⟨i,z⟩⟩;let G3:Hp:=λq=>if L q then Ã else G2 q
 have a:∀q,¬ L q->G3 q=G2 q:=λq z=>Ï z
 have f:∀q,L q->G3 q=Ã:=λq z=>Ë z
 have l:∀q,L q->Bx G2 q:=λq z=>by obtain⟨u,A,c⟩:=y q z;exact⟨u,x.g _ _ ((e1 q z).trans A),c⟩
 have p:zO G H G3 H2:=by
  refine⟨λq o e=>?_,x.h,λq o e=>?_,λq z=>?_⟩;have c:¬ L q:=λz=>by rw[j q z]at e;cases e
  rw[a q c];exact x.g _ _ (k _ _ e);by_cases c:L q;rw[f q c]at e;cases e;rw[a q c]at e;exact Ãc _ _ e;by_cases c:L q;rw[f q c]at z;exact Û rfl z;rw[a q c]at z;rcases Ěd q z with w|w;rw[e2 q c]at w;exact .inl w;exact .inr w
 refine⟨G3,p,Đa p,λd v t r=>RF a l d v t r,λds vs t r=>RG a l t r,λq z=>?_⟩;by_cases c:L q;exact f q c;rw[a q c];exact z
def Y0{α:Type}{xs:Á α}{x y:α}{i:Nat}(h:êk[i]?=À y):(i<â/\xs[i]?=À y)\/(i=â/\y=x):=by
 rcases Śe i â with c|c;rw[Ěb c]at h;exact .inl ⟨c,h⟩;rw[Îc c]at h;cases z:i-â with
 |áa=>rw[z]at h;cases h;exact .inr ⟨by omega,rfl⟩|âa k=>rw[z]at h;cases h
def uH{α:Type}{xs:Á α}{x:α}{n:Nat}(h:â=n):êk[n]?=À x:=by subst h;rw[Îc Ċ,ĵc];rfl
def xr{α:Type}{xs:Á α}{x:α}{i:Nat}(h:i<â):êk[i]?=xs[i]?:=Ěb h
def zh.push{m:M}{v:V}{L:Ft}(E:zh K n P G0 H0 G H β σ)(o:yr K G H m v L)(p:∀Ls,NK K H0 G H β σ Ls->∀i q,Ls i q->L q->î)(ok:∀q,L q->G q=Ã/\H0 q=Ã/\Bx H q):zh K Ĝ P G0 H0 G H ţd Äb:=by
 obtain⟨Ls,F⟩:=þa;have d:=p Ls F;refine⟨Ņb,by rw[ä,Ĵ];rfl,by rw[ä,Į];rfl,by have:=Ăa;omega,λi u h=>?_,λj=>if j<n then Ls j else if j=n then L else λ_=>î,λi g h=>?_,λi j q f b a=>?_,λi q z=>?_⟩;have k:i<σ.length:=by rw[Ĵ];exact ņ Ĥa.1 Ăa
 rw[xr k];exact œa i u h;rcases Y0 h with⟨c,e⟩|⟨c,e⟩;rw[Į]at c;obtain⟨u,r,l⟩:=ű i g e;refine⟨u,by rw[xr Äd];exact r,?_⟩;simp only[Ë c];exact l;cases e;rw[Į]at c;subst c;refine⟨v,uH Ĵ,?_⟩;simp only[Ŏb,Õa,ŋ];exact o;skip
 split at b;split at a;exact Ń i j q f b a;split at a;exact d i q b a;exact a;split at b;split at a;exact d j q a b;split at a;exact f Å;exact a;exact b;skip
 split at z;exact ų i q z;split at z;exact ok q z;exact ł
def zh.WG{d:D}{v:V}(E:zh K n P G0 H0 G H β σ)(r:zS K G d v):zh K Ĝ P G0 H0 G H ĕr Äb:=
 E.push (L:=λ_=>î) ⟨r,λ_ z=>z⟩ (λ_ _ _ _ _ z=>z) λ_ z=>ł
def zh.f_{d:D}{p:Ç}(E:zh K n P G0 H0 G H β σ)(x:zO G H G' H')(m:H p=Ã)(A:G' p=Ã)(o:vi K G' H' d p):zh K Ĝ P G0 H0 G' H' (υa ťj) Ŕo:=by
 obtain⟨t,F⟩:=þa;have y:=Đa x;refine⟨?_,?_,?_,?_,?_,?_⟩<;>try first|exact y.ext|exact(by rw[ä,Ĵ];rfl)|exact(by rw[ä,Į];rfl)
 have:=Ăa;omega;intro i u h
 have B:i<σ.length:=by rw[Ĵ];exact ņ Ĥa.1 Ăa
 rw[xr B];exact œa i u h;have r:∀i q,t i q->q≠p:=λi q z c=>by subst c;exact šb.2.2.some m
 refine⟨λj=>if j<n then t j else if j=n then(λq=>q=p)else λ_=>î,λi s h=>?_,λi j q v k f=>?_,λi q z=>?_⟩;rcases Y0 h with⟨c,e⟩|⟨c,e⟩;rw[Į]at c;obtain⟨u,L,C⟩:=ű i s e;refine⟨u,by rw[xr Äd];exact L,?_⟩;simp only[Ë c];refine C.loc x.g s u _ λq z=>?_
 obtain⟨w,l,_⟩:=šb.2.2;rw[l];exact x.h _ _ l;cases e;rw[Į]at c;subst c;refine⟨_,uH Ĵ,?_⟩;simp only[Ŏb,Õa,ŋ];exact⟨p,rfl,o,λq=>śc⟩;skip
 split at k;split at f;exact Ń i j q v k f;split at f;exact r i q k f;exact f;split at k;split at f;exact r j q f k;split at f;exact v Å;exact f;exact k;skip
 split at z;obtain⟨a,b,c⟩:=ų i q z;obtain⟨I,J⟩:=Bw x a c;exact⟨I,b,J⟩;split at z;subst z;exact⟨A,Ċj m,o.bx⟩;exact ł
def zh.JO{m:M}{v:V}{i:Nat}(hi:i<n)(r:èa<=i)(d:σ.length=n)(b:β.length=n)(E:zh K Ĝ P G0 H0 G H ţd Äb):zh K n P G0 H0 G H (β.set i Ôb) ód:=by
 obtain⟨l,F⟩:=þa;refine⟨Ņb,by rw[ŭ];exact d,by rw[ŭ];exact b,by omega,λj u h=>?_,λj=>if j=i then l n else if j<n then l j else λ_=>î,λj p h=>?_,λj k q e c a=>?_,λj q z=>?_⟩;have o:j<èa:=Ĥa.1;rw[uY Å];have:=œa j u h;rw[xr Å]at this;exact this;rcases vS h with⟨rfl,w⟩|⟨e,w⟩;cases w;obtain⟨u,f,g⟩:=ű n m (uH b);rw[uH d]at f;cases f;simp only[ŋ];exact⟨v,Zi Å,g⟩;have o:j<n:=by rw[<-b];exact Ŧk.1
 obtain⟨u,f,g⟩:=ű j p Żm;rw[xr Å]at f;simp only[Ï e,Ë o];exact⟨u,by rw[uY e];exact f,g⟩;skip
 split at c;split at a;exact e Å;split at a;exact Ń n k q Å c a;exact a;split at c;split at a;exact Ń j n q Å c a;split at a;exact Ń j k q e c a;exact a;exact c;skip
 split at z;exact ų n q z;split at z;exact ų j q z;exact ł
def zh.pop{m:Æ M}{v:Æ V}(b:σ.length=n)(a:β.length=n)(g:èa<=n)(E:zh K Ĝ P G0 H0 G H ūg Ūg):zh K n P G0 H0 G H β σ:=by
 obtain⟨d,F⟩:=þa;refine⟨Ņb,b,a,g,λj u h=>?_,d,λj i h=>?_,Ń,ų⟩;have f:j<èa:=Ĥa.1;have:=œa j u h;rw[xr Å]at this;exact this;have f:j<n:=by rw[<-a];exact Ĥa.1
 obtain⟨u,c,e⟩:=ű j i (by rw[xr Å];exact h);rw[xr Å]at c;exact⟨u,c,e⟩
omit a
inductive ZO where
 |nx (β:yB)|rt (m:M) (β:yB)|bk (β:yB)|ct (β:yB)
abbrev yQ:=yB->Æ ZO
abbrev xm:=yB->Æ (M×yB)
abbrev qw:=yB->Æ (Í×yB)
def Wq(K:Î)(n:Nat)(P:Á V)(a b:Hp)(E:uJ):ZO->Prop
 |.nx β=>∀σ G H,zh K n P a b G H β σ->E.nx σ H|.bk β=>∀σ G H,zh K n P a b G H β σ->E.bk σ H|.ct β=>∀σ G H,zh K n P a b G H β σ->E.ct σ H|.rt m β=>∀σ v G H,zh K Ĝ P a b G H ţd Äb->E.rt v H
section
variable(X:Cx)
structure MC(e:Ñ)(f:xm):Prop where
 h:∃t,PE X e t/\∀{P:Á V}{G0 H0 G H:Hp}{β β':yB}{σ:St}{m:M}{Q:VK},zh X.K ò P G0 H0 G H β σ->f β=À (m,β')->(∀v G' H',zo G G'->zh X.K (ò+1) P G0 H0 G' H' Öp Äb->Q v H')->t σ H Q
structure MT(e:Ñ)(f:qw):Prop where
 h:∃t,PT X e t/\∀{P:Á V}{G0 H0 G H:Hp}{β β':yB}{σ:St}{b:Í}{Q:Í->Hp->Prop},zh X.K ò P G0 H0 G H β σ->f β=À (b,β')->(∀G' H',zo G G'->zh X.K ò P G0 H0 G' H' β' σ->Q b H')->t σ H Q
structure MW(e:Ñ)(f:qw):Prop where
 h:∃t,PW X e t/\∀{P:Á V}{G0 H0 G H:Hp}{β β':yB}{σ:St}{b:Í}{Q:Í->Hp->Prop},zh X.K ò P G0 H0 G H β σ->f β=À (b,β')->(∀G' H',zo G G'->zh X.K ò P G0 H0 G' H' β' σ->Q b H')->t σ H Q
structure MS(np:Nat)(st:Ù)(f:yQ):Prop where
 h:∃t,PS X st t/\∀{P:Á V}{G0 H0 G H:Hp}{β:yB}{σ:St}{fl:ZO}{E:uJ},èa=np->zh X.K ò P G0 H0 G H β σ->f β=À fl->Wq X.K ò P G0 H0 E fl->t E σ H
structure qP(np:Nat)(st:Á Ù)(f:yQ):Prop where
 h:∃t,uM X st t/\∀{P:Á V}{G0 H0 G H:Hp}{β:yB}{σ:St}{fl:ZO}{E:uJ},èa=np->zh X.K ò P G0 H0 G H β σ->f β=À fl->Wq X.K ò P G0 H0 E fl->t E σ H
omit a
section
variable{K:Î}{n:Nat}{P:Á V}{G0 H0 G H:Hp}{β:yB}{σ:St}{m:M}{v:V}{d:D}
def zh.ql{m:Æ M}{v:Æ V}(E:zh K Ĝ P G0 H0 G H ūg Ūg):σ.length=n:=by have:=Ĵ;rw[ä]at this;exact Ŕd this
def zh.pW{m:Æ M}{v:Æ V}(E:zh K Ĝ P G0 H0 G H ūg Ūg):β.length=n:=by have:=Į;rw[ä]at this;exact Ŕd this
def zh.JL(E:zh K Ĝ P G0 H0 G H ĕr Äb):zS K G d v:=by obtain⟨b,F⟩:=þa;obtain⟨u,a,r,_⟩:=ű n _ ðk;rw[uH E.ql]at a;cases a;exact r
def zh.Lo{i:Nat}(E:zh K n P G0 H0 G H β σ)(hi:i<n)(a:èa<=i)(r:zS K G d v):zh K n P G0 H0 G H Ŝf ód:=(E.WG r).JO hi a Ĵ Į
theorem zh.YS(E:zh K n P G0 H0 G H β σ):zh K n P G H0 G H β σ:=⟨E.ext.YS,Ĵ,Į,Ăa,œa,þa⟩
def zh.near{b c:Hp}(a:zO G0 H0 b c)(E:zh K n P b H0 G H β σ):zh K n P G0 H0 G H β σ:=⟨a.rebase Ņb,Ĵ,Į,Ăa,œa,þa⟩
theorem Wq.near{b c:Hp}{E:uJ}{a:ZO}(x:zO G0 H0 b c)(h:Wq K n P G0 H0 E a):Wq K n P b H0 E a:=by
 cases a with
 |nx τ=>exact λσ G H z=>h σ G H ĉg|bk τ=>exact λσ G H z=>h σ G H ĉg|ct τ=>exact λσ G H z=>h σ G H ĉg|rt m β=>exact λσ v G H z=>h σ v G H ĉg
omit a
def xQ(f:FE):xm:=λβ=>(Ŵk).bind λd=>À (.fz d,β)
def tu(f:FE):xm:=λβ=>(ŭe).bind λd=>match wS d with
 |Â=>À (.fz d,β)|Ä=>Ã
def ZZ(f:FE):xm:=λβ=>(Ŵk).bind λd=>À (.own d,β)
def R0(f:FE):xm:=λβ=>(ŭe).bind λd=>match Ij d with
 |Â=>À (.own d,β)|Ä=>Ã
noncomputable def P_(f:xm):xm:=λβ=>(ĺa).bind λr=>match r with
 |(.own d,β')=>À (.fz d,β')|r=>À r
def tQ(f:FT):qw:=λβ=>(ŭe).bind λb=>À (b,β)
noncomputable def dN(f:qw):qw:=λβ=>(ĺa).bind λr=>À (!r.1,r.2)
noncomputable def dM(f g:qw):qw:=λβ=>(ĺa).bind λr=>match r.1 with
 |Â=>g r.2|Ä=>À (Ä,r.2)
noncomputable def Qe(f g:qw):qw:=λβ=>(ĺa).bind λr=>match r.1 with
 |Â=>À (Â,r.2)|Ä=>g r.2
noncomputable def q_:M->Æ D
 |.fz d=>À d|_=>Ã
def T4(F:D->D->Æ D)(f g:xm):xm:=λβ=>(ĺa).bind λr=>(Ìe).bind λx=>(g r.2).bind λa=>(q_ a.1).bind λy=>(F x y).bind λz=>À (.fz z,a.2)
def Qf(f:xm):qw:=λβ=>(ĺa).bind λr=>(Ìe).bind λx=>(Ğf).bind λb=>À (b,r.2)
def Pz(f g:xm):xm:=λβ=>(ĺa).bind λr=>(Ìe).bind λx=>(Ğf).bind λb=>match b with
 |Â=>g r.2|Ä=>À (.fz û,r.2)
def W_{m:M}{d:D}(h:q_ m=À d):m=.fz d:=by
 cases m with
 |fz d'=>cases h;rfl|_=>cases h
section
variable{X:Cx}{x:Str}{p pos:Pos}{e a b:Ñ}{zr:Á Ñ}{f:FE}{ft:FT}{F:D->D->Æ D}{r:R2}{g g':xm}{u u':qw}
def wZ(h:SE X e f):MC X e (xQ f):=by obtain⟨t,p,k⟩:=h.h;refine⟨⟨t,p,λE a q=>?_⟩⟩;obtain⟨d,i,a⟩:=zD a;cases a;exact k E.JJ i λv b c x r=>q v b c x.g ((Đa x).WG r)
def gV(h:SE X e f):MC X e (tu f):=by
 obtain⟨t,p,k⟩:=h.h;refine⟨⟨t,p,λE a q=>?_⟩⟩;obtain⟨d,s,a⟩:=zD a;cases c:wS d with
 |Ä=>rw[c]at a;cases a|Â=>
  rw[c]at a;cases a;obtain⟨w,j,b⟩:=E.qM;refine k j s λv u n x r=>?_
  obtain⟨o,l,m,i,_⟩:=b _ _ x;exact q v o n l.g (m.WG (i d v c r))
def Ic(h:SF X e f):MC X e (ZZ f):=by obtain⟨t,p,k⟩:=h.h;refine⟨⟨t,p,λE a q=>?_⟩⟩;obtain⟨d,l,a⟩:=zD a;cases a;exact k E.JJ l λp c i x j b o=>q _ c i x.g (E.f_ x j b o)
def gY(h:ST X e ft):MT X e (tQ ft):=by
 obtain⟨t,p,k⟩:=h.h;refine⟨⟨t,p,λE c q=>?_⟩⟩;obtain⟨b,d,c⟩:=zD c;cases c;obtain⟨o,f,a⟩:=E.qM;refine k f d λn l x=>?_
 obtain⟨m,i,j,_⟩:=a _ _ x;exact q m l i.g j
def z12(h:MT X a u):MW X āi u:=⟨let ⟨t,p,k⟩:=h.h;⟨t,bB p,k⟩⟩
def z11(o:MT X a u)(j:MW X ŕe u'):MW X Éf (Qe u u'):=by
 obtain⟨s,i,l⟩:=o.h;obtain⟨p,f,m⟩:=j.h;refine⟨⟨_,bA i f,λE c q=>?_⟩⟩;obtain⟨⟨k,β1⟩,g,c⟩:=zD c;refine l E g λw v e d=>?_
 cases k with
 |Ä=>exact gR (m d c λr t n E2=>q _ _ (ýc n) E2)|Â=>cases c;exact gS (q _ _ e d)
def z13(h:MW X e u):MT X e u:=⟨let ⟨t,p,k⟩:=h.h;⟨t,p.pt,k⟩⟩
def zh.down{K:Î}{n:Nat}{P:Á V}{a b G H:Hp}{β:yB}{σ:St}{m:Æ M}{v:Æ V}(c:èa<=n)(E:zh K Ĝ P a b G H ūg Ūg):zh K n P a b G H β σ:=E.pop E.ql E.pW c
def z0w{i:ņh}(C:ym X (ša i) r)(x:kE X.K r F)(P:MC X a g)(o:MC X b g')(n:İc i b=Ä):MT X (.Compare a [i] [b] pos) (Qf (T4 F g g')):=by
 obtain⟨T,G,I⟩:=P.h;obtain⟨Y,m,J⟩:=o.h;refine⟨⟨_,Cd C G m n,λE d q=>?_⟩⟩;obtain⟨⟨Z,β3⟩,c,d⟩:=zD d;obtain⟨U,s,d⟩:=zD d;cases W_ s;obtain⟨R,f,d⟩:=zD d;cases d;obtain⟨⟨m1,β1⟩,A,c⟩:=zD c;obtain⟨B,e1,c⟩:=zD c;cases W_ e1;obtain⟨⟨m2,β2⟩,u,c⟩:=zD c;obtain⟨O,e2,c⟩:=zD c;cases W_ e2;obtain⟨z,t,c⟩:=zD c;cases c;refine I E A λv W S w j=>?_
 have Q:=j.JL;refine J (j.down Ăa) u λL H y l E2=>?_
 have p:=E2.JL;have e:=E2.down Ăa;obtain⟨k,rfl,N⟩:=x y B O v L _ _ ((Q.mono l).mono e.ext.gh) (Èl e.ext.gh) t;cases f;exact N ⟨_,rfl,q H _ (w.trans l) e⟩
omit a
noncomputable def tN:yQ:=λβ=>À (.nx β)
noncomputable def yT(a b:yQ):yQ:=λβ=>(ñl).bind λf=>match f with
 |.nx β'=>b β'|f=>À f
noncomputable def tM(c:qw)(a b:yQ):yQ:=λβ=>(îl).bind λr=>match r.1 with
 |Â=>a r.2|Ä=>b r.2
noncomputable def qW(f:xm):yQ:=λβ=>(ĺa).bind λr=>À (.rt r.1 r.2)
noncomputable def tL(f:xm):yQ:=λβ=>(ĺa).bind λr=>À (.nx r.2)
noncomputable def uF(i:Nat)(f:xm):yQ:=λβ=>(ĺa).bind λr=>À (.nx (r.2.set i (À r.1)))
abbrev MG:=D->yB->Æ yB
noncomputable def je(i:Nat):MG:=λd β=>À Ŝf
noncomputable def XA(i j:Nat):MG:=λd β=>match d with
 |.tup ċc=>À ((β.set i (À (.fz x))).set j (À (.fz y)))|_=>Ã
noncomputable def tK(g:MG)(b:yQ):Á D->yB->Æ ZO
 | [],β=>À (.nx β)|d::r,β=>(g d β).bind λβ1=>(Ÿk).bind λf=>match f with
  |.nx β2=>tK g b r β2|.ct β2=>tK g b r β2|.bk β2=>À ŋc|.rt m β2=>À ķq
def Zn(it:FA)(g:MG)(b:yQ):yQ:=λβ=>(it œg).bind λa=>tK g b a β
section
variable{X:Cx}{np:Nat}{x:Str}{p pos ôa:Pos}{e c tg Ż:Ñ}{st:Ù}{sts Ēc:Á Ù}{f g:yQ}{h:xm}{u:qw}{fs:FA}
def gX:qP X np [] tN:=⟨⟨_,ak,λ{P c b G H β σ d E} _ K a q=>by cases a;exact q σ G H K⟩⟩
def xD(b:MS X np st f)(j:qP X np sts g):qP X np ñk (yT f g):=by
 obtain⟨t,p,k⟩:=b.h;obtain⟨n,i,l⟩:=j.h;refine⟨⟨_,O1 p i,λ{P w u G H β σ s E} c K a q=>?_⟩⟩;obtain⟨e,b,a⟩:=zD a;refine k c K b ?_;cases e with
 |nx τ'=>exact λσ' r v m=>l c m a q|bk τ'=>cases a;exact q|ct τ'=>cases a;exact q|rt o d=>cases a;exact q
def xw(a:MS X np st f):qP X np [st] f:=⟨let ⟨t,p,k⟩:=a.h;⟨t,Cc p,k⟩⟩
def gW{d b:Á Ù}(o:MT X c u)(t:qP X np d f)(n:qP X np b g):MS X np (.If c d b pos) (tM u f g):=by
 obtain⟨v,pc,r⟩:=o.h;obtain⟨z,m,p⟩:=t.h;obtain⟨w,j,s⟩:=n.h;refine⟨⟨_,ah pc m j,λ{P A y G H β σ x E} e K a q=>?_⟩⟩;obtain⟨⟨k,β1⟩,l,a⟩:=zD a;refine r K l λC B _ i=>?_
 cases k with
 |Â=>exact gS (p e i a q)|Ä=>exact gR (s e i a q)
def XG(c:MC X e h):MS X np Űf (qW h):=by obtain⟨t,p,k⟩:=c.h;refine⟨⟨_,Q5 p,λ{P n j G H β σ i E} f K a q=>?_⟩⟩;obtain⟨⟨m,β1⟩,b,a⟩:=zD a;cases a;exact k K b λv g l _ d=>q _ v _ _ d
def j9(d:MC X e h)(c:Ê Ĩm q12):MS X np éj (tL h):=by obtain⟨t,p,k⟩:=d.h;refine⟨⟨_,af p c,λ{P o l G H β σ j E} g K a q=>?_⟩⟩;obtain⟨⟨m,β1⟩,b,a⟩:=zD a;cases a;exact k K b λv i n _ f=>q _ _ _ (f.down ōb)
def qD{i:Nat}{x:Str}{ôa:Pos}(d:Ņa)(hi:X.N[i]?=À x)(c:pf ĭa x)(w:np<=i)(j:MC X e h)(g:Ê Źe q12)(a:Ê ęb q7) :MS X np Ōf (uF i h):=by obtain⟨t,p,k⟩:=j.h;refine⟨⟨_,(O7 d hi c ⟨p⟩ g a).h,λ{P u r G H β σ o E} l K a q=>?_⟩⟩;obtain⟨⟨m,β1⟩,f,a⟩:=zD a;cases a;exact k K f λv n s _ b=>q _ _ _ (b.JO ąb.1 Å b.ql b.pW)
structure Md(X:Cx)(np:Nat)(tg:Ñ)(fg:MG):Prop where
 h:∃t,PG X tg t/\∀{P:Á V}{G0 H0 G H:Hp}{β β':yB}{σ:St}{d:D}{v:V}{Q:St->Hp->Prop},èa=np->zh X.K ò P G0 H0 G H β σ->zS X.K G d v->fg d β=À β'->(∀σ',zh X.K ò P G0 H0 G H β' σ'->Q σ' H)->t v σ H Q
def A8{i:Nat}{x:Str}(h:QG X Ða ũc)(hi:X.N[i]?=À x)(b:np<=i):Md X np Ða (je i):=⟨⟨_,h.h,λc K r a q=>by cases a;exact q _ (K.Lo ąb.1 Å r)⟩⟩
def z0p{i j:Nat}{x y:Str}{e f:Pos}{c:Nat}(h:QG X Öm ċe)(hi:X.N[i]?=À x)(s:X.N[j]?=À y)(C:np<=i)(u:np<=j):Md X np Öm (XA i j):=⟨⟨_,h.h,λ{P B A G H β β' σ d v Q} z K r b q=>by
 unfold XA at b
 split at b;rename_i t E;cases b;obtain⟨a,w,rfl,k,⟨o,F,rfl,g,⟨p,l,rfl,n,m⟩⟩,_⟩:=r;cases(show l=[]from m);refine⟨a,_,rfl,uA Ųb k,rfl,o,_,rfl,p,_,rfl,rfl,?_⟩;exact q _ ((K.Lo ąb.1 Å g).Lo (ō s).1 Å n);cases b⟩⟩
def C7{c:MG}(Z:Źd ÿ X.A Ö ġ)(I:Ű=Â)(hi:SI X tg Ż fs)(hg:Md X np tg c)(C:qP X np Ēc g)(hs:Ê (∀x,Ôc Ż Ö x=pure x) q11):MS X np Öi (Zn fs c g):=by
 obtain⟨ti,L,W⟩:=Ģd;obtain⟨Y,S,O⟩:=hg.h;obtain⟨tb,v,kb⟩:=C.h;refine⟨⟨_,Ca Z I L S v hs,λ{P G0 u G H τ σ p E} s K a q=>?_⟩⟩;obtain⟨b,B,a⟩:=zD a;refine W K.JJ B λJ o Ha xa _ j=>?_
 have t:=ÿa xa;have k:=Wq.near t.ext q;refine⟨λi m σ H=>m=ça-i/\i<=ça/\∃τ G,zh X.K ò P o u G H τ σ/\tK c g (ôh i) τ=À p,⟨ça,rfl,Ãa _,τ,o,t.YS,a⟩,?_⟩;rintro i m σ H ⟨rfl,hle,τ,G,K,a⟩;by_cases hlt:i<ça;refine .inr ⟨j.go i G H Ûe Ųb hlt,λσ' f=>∃τ G,zh X.K ò P o u G f τ σ'/\tK c g ďr τ=À p,λσ' f z=>⟨ça-ï,by omega,rfl,hlt,z⟩,λx f y=>?_⟩;obtain⟨G3,d,Q,r,rd⟩:=j.ui i G H x f Ûe Ųb hlt y;rw[ſc hlt]at a;rw[č hlt]at r;cases r;obtain⟨τ1,U,a⟩:=zD (show(c _ τ).bind _=_ from a);obtain⟨F,R,a⟩:=zD a;refine O s (ÿa Q) rd U λσ1 K1=>kb s K1 R ?_
 cases F with
 |nx τ2=>exact λσ2 l T n=>⟨τ2,l,n,a⟩|ct τ2=>exact λσ2 l T n=>⟨τ2,l,n,a⟩|bk τ2=>cases a;exact k|rt m β=>cases a;exact k
 have e:i=ça:=by omega
 subst e;rw[List.drop_length]at a;cases a;exact .inl ⟨j.stop _ G H Ûe Ųb Ċ,k _ _ _ K⟩
omit a
def pH(β:yB)(i:Nat)(π:Á xV):Æ M:=match β[i]? with
 |À Ôb=>tq m π|_=>Ã
def ŀb(β:yB)(i:Nat)(π:Á xV)(m2:M):Æ yB:=match β[i]? with
 |À Ôb=>(Żp).bind λa=>À Ųn|_=>Ã
def XI{β:yB}{i:Nat}{π:Á xV}{a:M}(h:pH β i π=À a):∃m,β[i]?=À Ôb/\tq m π=À a:=by
 unfold pH at h
 split at h;rename_i m e;exact⟨m,e,h⟩;cases h
def O2{β:yB}{i:Nat}{π:Á xV}{m a m2:M}(h:β[i]?=À Ôb)(e:qG m π m2=À a):ŀb β i π m2=À Ųn:=by unfold ŀb;rw[h];show(Żp).bind _=_;rw[e];rfl
def wx(K:Î)(a:Á Str)(f:Str):Prop:=∀x∈a,∀C,ş K ă x=À îa->tD K C/\ZQ K C f
structure SP(X:Cx)(e:Ñ)(i:Nat)(π:Á xV):Prop where
 h:∃t,PE X e t/\∀{σ:St}{H:Hp}{v u:V}{Q:VK},σ[i]?=À Éa->wR X.K H v π u->Q u H->t σ H Q
section
variable{X:Cx}{x f:Str}{p pos:Pos}{e:Ñ}{i:Nat}{π:Á xV}{cs:Á Str}
def xB(i:Nat){x:Str}{pos:Pos}(c:Ê Ød q12)(hv:Ê îd q13)(d:Ê ĺ q10)(b:Ê Ęc q10):SP X Ða i []:=⟨⟨_,XS c hv d b,λe a q=>by cases(show _=_ from a);exact⟨_,e,q⟩⟩⟩
def ux(h:SP X e i π)(k:wx X.K cs f)(d:Ê ķm q12):SP X żf i (π++[.at cs f]):=by obtain⟨t,p,o⟩:=h.h;refine⟨⟨_,aL p d,λe a q=>?_⟩⟩;obtain⟨w,r,g⟩:=a.snoc;obtain⟨p,x,C,m,s,v,rfl,b,u,j,l,rfl⟩:=g;obtain⟨c,n⟩:=k x b C u;exact o e r ⟨p,C,m,s,_,rfl,j,c,n,l,q⟩
omit a
section
variable{K:Î}{n:Nat}{P:Á V}{G0 H0 G H:Hp}{β:yB}{σ:St}
def zh.write{m m1 Q:M}{T:V}{i:Nat}{π:Á xV}(E:zh K Ĝ P G0 H0 G H (β++[À Q]) (σ++[À T]))(hP:èa<=n)(S:β[i]?=À Ôb)(ha:tq m π=À m1) :∃r v1 L1 Lr,σ[i]?=À ċh/\wR K H r π v1/\yr K G H m1 v1 L1/\yr K G H Q T Lr/\(∀q,L1 q->Lr q->î)/\
   ∀{H':Hp}{m2:M}{L2:Ft},(∀q,¬ L1 q->H' q=H q)->yr K G H' m2 v1 L2->(∀q,L2 q->L1 q\/Lr q)->∃m',qG m π m2=À m'/\zh K n P G0 H0 G H' (β.set i (À m')) σ:=by
 obtain⟨t,F⟩:=þa;have x:=E.ql;have l:=E.pW;have hi:i<n:=by rw[<-l];exact(ō S).1
 obtain⟨r,N,om⟩:=ű i m (by rw[xr Å];exact S);rw[xr Å]at N;obtain⟨u,y,J⟩:=ű n Q (uH l);rw[uH x]at y;cases y;obtain⟨v1,L1,Y,o1,p,X⟩:=om.focus ha;have O:∀q,L1 q->t n q->î:=λq a b=>Ń i n q Å (p q a) b
 refine⟨r,v1,L1,t n,N,Y,o1,J,O,λ{H' m2 L2} s W B=>?_⟩
 obtain⟨m',Z,o'⟩:=X (ūa G) (λq _ z=>s q z) W (λq z w=>by rcases B q z with c|c;exact c;exact Û c λc=>Ń i n q Å w c)
 have C:∀q,L1 q->G q=Ã/\H0 q=Ã:=λq z=>⟨èo.1,èo.2.1⟩
 refine⟨m',Z,⟨úh,λq o z=>?_,λq o z=>?_,źd⟩,x,by rw[ŭ];exact l,hP,λj w h=>?_,λj=>if j=i then ğm else if j<n then t j else λ_=>î,λj U h=>?_,λj k q f e d=>?_,λj q z=>?_⟩
 .rw[s q λw=>by rw[Žk.2]at z;cases z];exact ĉd _ _ z
 .rw[s q λw=>by rw[Žk.1]at z;cases z];exact Ńa _ _ z
 .have A:j<èa:=Ĥa.1;have:=œa j w h;rw[xr Å]at this;exact this
 .rcases vS h with⟨rfl,w⟩|⟨f,w⟩
  .cases w;simp only[ŋ];exact⟨r,N,o'⟩
  .have A:j<n:=by rw[<-l];exact Ŧk.1
   obtain⟨u,y,ou⟩:=ű j U Żm;rw[xr Å]at y;simp only[Ï f,Ë A];exact⟨u,y,ou.loc (ūa G) U u _ λq z=>s q λL=>Ń i j q ñg (p q L) z⟩
 .have v:∀j,j≠i->j<n->∀q,(t i q/\¬ L1 q)\/L2 q->t j q->î:=λj f A q e d=>by
   rcases e with⟨e,_⟩|e;exact Ń i j q ñg e d;rcases B q e with c|c;exact Ń i j q ñg (p q c) d;exact Ń n j q Å c d
  split at e
  .split at d;exact f Å;split at d;exact v k Å Å q e d;exact d
  .split at e;split at d;exact v j Å Å q d e;split at d;exact Ń j k q f e d;exact d;exact e
 .split at z
  .rcases z with⟨z,w⟩|z
   .obtain⟨a,b,c⟩:=ų i q z;obtain⟨u,I,R⟩:=c;exact⟨a,b,u,(s q w).trans I,R⟩
   .refine⟨?_,?_,W.cells m2 _ _ q z⟩
    .rcases B q z with c|c
     .exact žk.1
     .exact Ĳj.1
    .rcases B q z with c|c
     .exact žk.2
     .exact Ĳj.2.1
  .split at z
   .rename_i f A;obtain⟨a,b,c⟩:=ų j q z;obtain⟨u,I,R⟩:=c;exact⟨a,b,u,(s q λL=>Ń i j q ñg (p q L) z).trans I,R⟩
   .exact ł
omit a
def pF(i:Nat)(π:Á xV)(b:FE)(c:xm):yQ:=λβ=>(îl).bind λr=>(Ìe).bind λy=>(Ľp).bind λa=>match a with
 |.own ük=>(Çq).bind λx=>match x with
  |.int j=>(ľj).bind λn=>(ŀb r.2 i π (η Ĉn)).bind λβ2=>À ŋc|_=>Ã
 |_=>Ã
def Zo(i:Nat)(π:Á xV)(b:FE)(c:xm):yQ:=λβ=>(îl).bind λr=>(Ìe).bind λy=>(Ľp).bind λa=>match a with
 |.own Óq=>(Çq).bind λx=>(ěf).bind λx=>match decide (Ŀ<yD)with
  |Â=>(ŀb r.2 i π (.own (.dic ōr Ûp))).bind λβ2=>À ŋc|Ä=>Ã
 |_=>Ã
section
variable{X:Cx}{np:Nat}{o k v:Ñ}{i:Nat}{π:Á xV}{fk:FE}{fv:xm}{pos ôa:Pos}
def kZ(ho:SP X o i π)(hk:SE X k fk)(hv:MC X v fv)(hp:Ê Ņg q12)(hs:Ê (āg ŕf v ňc Ö=pure Ä) q12)(hw:Ê (Ăg ŕf v Ö=pure Ã) q12)(h1:Ê ((Éd ŕf Ö).map (·.2)=[Żb Īn Ö]) q12):MS X np śn (pF i π fk fv):=by
 obtain⟨tk,pk,kk⟩:=ġd;obtain⟨tv,pv,kv⟩:=Ďc;obtain⟨to,po,T⟩:=ho.h;refine⟨⟨_,CZ pv (bD ⟨po⟩ ⟨pk⟩ cK hp).h hs hw h1,λ{P G0 H0 G H β σ fl E} hP K a q=>?_⟩⟩;obtain⟨⟨m,β1⟩,hy,a⟩:=zD a;obtain⟨y,ey,a⟩:=zD a;cases W_ ey;obtain⟨nd,hn,a⟩:=zD a
 split at a;rename_i Z;obtain⟨xk,Q,a⟩:=zD a;cases xk with
 |int j=>
  obtain⟨e,g,a⟩:=zD a;obtain⟨β2,I,a⟩:=zD a;cases a;obtain⟨mm,s,J⟩:=XI hn;refine kv K hy λw G1 H1 s1 n=>?_
  obtain⟨r,v1,L1,Lr,N,O,_⟩:=n.write ōb s J;refine T N O ?_;obtain⟨Ga,R,d⟩:=(n.down ōb).qM;refine kk R Q λu G2 W S r2=>?_
  cases(show u=_ from r2);obtain⟨G3,A,_,_⟩:=d _ _ S;have C:=n.go A;obtain⟨r',v1',L1',Lr',b,f,t,or',dj',x⟩:=C.write ōb s J;rw[N]at b;cases b;cases Đd (O.mono A.h) f;obtain⟨p,rfl,⟨L,U,F,l⟩,B⟩:=t;obtain⟨m',Y,K5⟩:=x (H':=zX W p (Α (L.set e w))) (m2:=.own (Α (Z.set e y))) (L2:=λq=>q=p) (ζc (B q)) ⟨p,rfl,⟨_,yk,Íh C.JL e F,by rw[ŭ];exact l⟩,λ_=>śc⟩ (ψc (B q));rw[O2 s Y]at I;cases I;exact⟨p,L,j,e,rfl,rfl,U,by rw[Ęk];exact g,q _ _ _ K5⟩
 |_=>cases a
 cases a
def Tu(hu:Ăb+1<Êa)(ho:SP X o i π)(hk:SE X k fk)(hv:MC X v fv)(hs:Ê (Δb Īn) q12):MS X np śn (Zo i π fk fv):=by
 obtain⟨tk,pk,Z⟩:=ġd;obtain⟨tv,pv,kv⟩:=Ďc;obtain⟨to,po,T⟩:=ho.h;refine⟨⟨_,ae hu po pk pv hs,λ{P G0 H0 G H β σ fl E} hP K a q=>?_⟩⟩;obtain⟨⟨m,β1⟩,hy,a⟩:=zD a;obtain⟨y,ey,a⟩:=zD a;cases W_ ey;obtain⟨nd,hn,a⟩:=zD a
 split at a;rename_i ks n;obtain⟨xk,Q,a⟩:=zD a;obtain⟨b,f,a⟩:=zD a
 split at a;rename_i c;have c:=ŵ c;obtain⟨β2,J,a⟩:=zD a;cases a;obtain⟨mm,t,L⟩:=XI hn;refine kv K hy λw G1 H1 s1 s=>?_
 obtain⟨r,v1,L1,Lr,N,O,_⟩:=s.write ōb t L;refine T N O ?_;obtain⟨Ga,R,e⟩:=(s.down ōb).qM;refine Z R Q λu G2 W S r2=>?_
 obtain⟨G3,C,_,_⟩:=e _ _ S;have I:=s.go C;obtain⟨r',v1',L1',Lr',d,g,x,or',dj',B⟩:=üf ōb t L;rw[N]at d;cases d;cases Đd (O.mono C.h) g;obtain⟨p,rfl,⟨vs,U,l,j,hl⟩,F⟩:=x
 obtain⟨m',Y,K5⟩:=B (H':=zX W p (.dK (ue ĭb b w))) (m2:=.own (.dic (w_ ks b) (wL ks n b y))) (L2:=λq=>q=p) (ζc (F q))
  ⟨p,rfl,⟨wL ks vs b w,by rw[yk,Hk l],VQ l,j.put I.JL,by
   have h1:=Cf (ks:=ks) (vs:=n) (k:=b) (v:=y) ìp;have h2:þd<16777216:=by rw[<-Ðb,<-l];exact c
   rw[ś];omega⟩,λ_=>śc⟩ (ψc (F q))
 rw[O2 t Y]at J;cases J;exact⟨p,_,rfl,.inl ⟨_,b,U,kW f r2,by rw[Śd,l,Ķc,ś,<-l];exact c,rfl⟩,q _ _ _ K5⟩;cases a;cases a
omit a
noncomputable def gb(fs:Á Str)(f:Str):Á Str:=if f∈fs then fs else fs++[f]
def qY{α:Type}(fs:Á Str)(ms:Á α)(f:Str)(m:α):Á α:=if f∈fs then vk fs ms f m else ms++[m]
theorem av{f:Str}{w:V}:∀{fs:Á Str}{vs:Á V},ŧa=Ą->Ŋb f w Īq=(űe).zip âp
 | [],[],_=>by unfold gb qY;rw[Ï ê,Ï ê];rfl| [],_::_,h=>by cases h|_::_,[],h=>by cases h|g::fs,v::vs,h=>by
  have b:=av (f:=f) (w:=w) (fs:=fs) (vs:=vs) Ŝk;rw[Ġb];unfold Ŋb;by_cases c:g=f;subst c;unfold gb qY;rw[Ë rfl,Ë ĵ,Ë ĵ];unfold vk;rw[Ë rfl,Ġb];rw[Ï c,b];unfold gb qY;by_cases z:f∈fs;rw[Ë z,Ë z,Ë ãk,Ë ãk]
  conv=>rhs;unfold vk
  rw[Ï c,Ġb];have a:f ∉ g::fs:=λw=>by rcases ę w with w|w;exact c w.symm;exact z w
  rw[Ï z,Ï z,Ï a,Ï a,Íd,Íd,Ġb]
theorem cI{κ α:Type}[Ťb κ]{k:κ}{y:α}:∀{ks:Á κ}{xs:Á α},(vk ks xs k y).length=â
 | [],_=>by unfold vk;rfl|_::_,[]=>by unfold vk;rfl|k'::ks,x::xs=>by
  unfold vk
  split;rfl;rw[Ă,Ă,cI]
theorem z6a{α:Type}{f:Str}{w:α}{fs:Á Str}{vs:Á α}(h:ŧa=Ą):(űe).length=(âp).length:=by
 unfold gb qY
 split;rw[cI];exact h;rw[ä,ä,h];rfl
section
variable{K:Î}{G H:Hp}
theorem Ėk{κ:Type}[Ťb κ]{k:κ}{m2:M}{e:V}{L2:Ft}(i:yr K G H m2 e L2):∀{ks:Á κ}{ms:Á M}{vs:Á V}{L:Ft},Š K G H ms vs L->(∀q,L q->L2 q->î)->∃L',Š K G H ŗo (vk ks vs k e) L'/\∀q,L' q->L q\/L2 q
 | [],ms,vs,L,h,_=>⟨L,by unfold vk;exact h,λq z=>.inl z⟩|_::_,[],vs,L,h,_=>by obtain⟨rfl,n⟩:=h;exact⟨L,by unfold vk;exact⟨rfl,n⟩,λq z=>.inl z⟩
 |k'::ks,m::ms,vs,L,h,dj=>by obtain⟨v,r,f,g,rfl,o,l,d,u⟩:=h;unfold vk;by_cases c:k'=k;rw[Ë c,Ë c];refine⟨λq=>L2 q\/g q,⟨e,r,L2,g,rfl,i,l,λq a b=>dj q ((àa).mpr (.inr b)) a,λq=>śc⟩,λq z=>?_⟩;rcases z with z|z;exact .inr z;exact .inl ęe;rw[Ï c,Ï c];obtain⟨L',p,j⟩:=Ėk (k:=k) i (ks:=ks) l Ám;refine⟨λq=>f q\/L' q,⟨v,_,f,L',rfl,o,p,λq a b=>?_,λq=>śc⟩,λq z=>?_⟩;rcases j q b with b|b;exact d q a b;exact dj q Ŵo b;rcases z with z|z;exact .inl ŋe;rcases j q z with z|z;exact .inl ęe;exact .inr z
theorem ŝj{m2:M}{c:V}{L2:Ft}(e:yr K G H m2 c L2):∀{ms:Á M}{vs:Á V}{L:Ft},Š K G H ms vs L->(∀q,L q->L2 q->î)->Š K G H (ms++[m2]) (vs++[c]) (λq=>L q\/L2 q)
 | [],vs,L,h,_=>by obtain⟨rfl,n⟩:=h;refine⟨c,[],L2,λ_=>î,rfl,e,⟨rfl,λ_ z=>z⟩,λ_ _ z=>z,λq=>⟨?_,?_⟩⟩;rintro(z|z);exact Û z (n q);exact .inl z;rintro(z|z);exact .inr z;exact ł
 |m::ms,vs,L,h,dj=>by obtain⟨v,r,f,j,rfl,i,g,d,u⟩:=h;refine⟨v,_,f,λq=>j q\/L2 q,rfl,i,ŝj e g Ám,λq a b=>?_,λq=>⟨?_,?_⟩⟩;rcases b with b|b;exact d q a b;exact dj q Ŵo b;rintro(z|z);rcases(u q).mp z with z|z;exact .inl z;exact .inr ťb;exact .inr Įb;rintro(z|z|z);exact .inl ŋe;exact .inl ęe;exact .inr z
def őq{f:Str}{m2:M}{b:V}{L2 L:Ft}{fs:Á Str}{ms:Á M}{vs:Á V}(a:yr K G H m2 b L2)(h:Š K G H ms vs L)(d:∀q,L q->L2 q->î):∃L',Š K G H (qY fs ms f m2) (qY fs vs f b) L'/\∀q,L' q->L q\/L2 q:=by unfold qY;by_cases c:f∈fs;rw[Ë c,Ë c];exact Ėk a h d;rw[Ï c,Ï c];exact⟨_,ŝj a h d,λq z=>z⟩
omit a
def jE(m:M)(β:yB)(i:Nat)(π:Á xV)(b:Á Str)(f:Str):Æ ZO:=(ěg).bind λa=>match a with
 |.obj x fs ms=>match decide (x∈b)&&decide řq with
  |Â=>(εc (qY fs ms f m)).bind λβ2=>À ŋc|Ä=>Ã
 |_=>Ã
def qC(i:Nat)(π:Á xV)(b:Á Str)(f:Str)(a:xm):yQ:=λβ=>(ñl).bind λr=>jE r.1 r.2 i π b f
def C2(i:Nat)(π:Á xV)(g:Á Str)(f:Str)(e:FE):yQ:=λβ=>(ěg).bind λd=>match d with
 |.obj x fs ms=>match decide (x∈g)&&decide řq with
  |Â=>(Āa fs ms f).bind λc=>(q_ c).bind λc=>match c with
   |.int a=>(e Čh).bind λy=>match y with
    |.int b=>(εc (qY fs ms f (.fz (Ε (a+b))))).bind λβ2=>À ŋc|_=>Ã
   |_=>Ã
  |Ä=>Ã
 |_=>Ã
section
variable{X:Cx}{np:Nat}{o v:Ñ}{i:Nat}{π:Á xV}{cs:Á Str}{f:Str}{fv:xm}{fe:FE}{pos ôa tpos:Pos}
def zh.NC{K:Î}{n:Nat}{P:Á V}{N I G H:Hp}{β β2:yB}{σ:St}{x f:Str}{fs:Á Str}{ms:Á M}{m e:M}{w:V}{i:Nat}{π:Á xV}(E:zh K Ĝ P N I G H (β++[À e]) (σ++[À w]))(Y:èa<=n)(v:β[i]?=À Ôb)(ha:tq m π=À óp)(B:ŀb β i π (.obj x űe ãp)=À β2) :∃r p C dx vs,σ[i]?=À ċh/\wR K H r π ŝ/\ş K ă x=À îa/\H p=À ìi/\ŧa=Ą/\zh K n P N I G ęg β2 σ:=by
 obtain⟨r,v1,L1,A,R,S,Z,h,j,wr⟩:=E.write Y v ha;obtain⟨p,C,dx,vs,L',rfl,y,X,l,U,L,d⟩:=Z;have u:∀q,q≠p->ęg q=H q:=λq z=>yP z
 have k:Š K G ęg ms vs L':=Ňc (λF _ O g s o=>úe ÿf F O g λq z=>u q λc=>L (c▸s q z)) U;have t:yr K G ęg e w A:=h.loc ÿf e w A λq z=>u q λc=>j q įn z
 obtain⟨g,Q,J⟩:=őq (f:=f) (fs:=fs) t k (λq a b=>j q ((d q).mpr (.inr a)) b)
 obtain⟨F,T,K5⟩:=wr (H':=zX H p Ăl) (m2:=.obj x űe ãp) (L2:=λq=>q=p\/g q) (λq z=>u q λc=>z įn)
  ⟨p,C,dx,qY fs vs f w,g,rfl,y,by rw[yk,av l],z6a l,Q,λz=>by
   rcases J p z with z|z;exact L z;exact j p ((d p).mpr ŉ) z,λq=>śc⟩ (λq z=>by
   rcases z with rfl|z;exact .inl ((d q).mpr ŉ);rcases J q z with z|z;exact .inl ((d q).mpr Įb);exact .inr z)
 rw[O2 v T]at B;cases B;exact⟨r,p,C,dx,vs,R,S,y,X,l,K5⟩
def jg(u:SP X o i π)(k:wx X.K cs f)(hv:MC X v fv)(J:Ê (Δb Įn) q12):MS X np (.Assign ĕn v pos) (qC i π cs f fv):=by
 obtain⟨T,L,O⟩:=Ďc;obtain⟨W,t,d⟩:=u.h;refine⟨⟨_,z62 t L J,λ{P G0 H0 G H β σ U E} hP K a q=>?_⟩⟩;obtain⟨⟨m,β1⟩,F,a⟩:=zD a;obtain⟨nd,g,a⟩:=zD (show(pH β1 i π).bind _=_ from a)
 split at a;rename_i x fs Z
 split at a;rename_i c;rw[ć]at c;have e:=ŵ c.2;obtain⟨β2,y,a⟩:=zD a;cases a;obtain⟨mm,b,R⟩:=XI g;refine O K F λw G1 Y s1 Q=>?_
 obtain⟨r,p,C,I,S,j,n,s,B,l,N⟩:=Q.NC ōb b R y;obtain⟨z,A⟩:=k x (ŵ c.1) C s;exact d j n ⟨p,C,I,_,rfl,B,z,A,by rw[Śd,l,Ķc,<-l];exact e,q _ _ _ N⟩;cases a;cases a
def z0u(ho:SP X o i π)(k:wx X.K cs f)(hv:SE X v fe):MS X np (.AugAssign ćn .Add v pos) (C2 i π cs f fe):=by
 obtain⟨tv,pv,kv⟩:=Ďc;obtain⟨to,po,T⟩:=ho.h;refine⟨⟨_,z63 po pv rM,λ{P G0 H0 G H β σ fl E} hP K e q=>?_⟩⟩;obtain⟨nd,hn,e⟩:=zD e
 split at e;rename_i x fs ms
 split at e;rename_i c;rw[ć]at c;have O:=ŵ c.1;have W:=ŵ c.2;obtain⟨ch,w,e⟩:=zD e;obtain⟨dc,s,z⟩:=zD e;cases W_ s
 split at z;rename_i a;obtain⟨y,hy,e⟩:=zD z
 split at e;rename_i b;obtain⟨β2,hβ,e⟩:=zD e;cases e;obtain⟨mm,I,F⟩:=XI hn;have K0:=K.WG (d:=.zK) (v:=.zK) rfl;obtain⟨r,v1,L1,Lr,L,N,o1,_⟩:=K0.write ōb I F;obtain⟨p,C,dx,vs,L',rfl,B,hp,l,Y,nL,uL⟩:=o1;obtain⟨cl,na⟩:=k x O C B;obtain⟨vc,Lc,ec,⟨U,_⟩,_⟩:=ŧe Y w;cases(show vc=_ from U);refine T L N ⟨p,C,dx,_,_,rfl,hp,cl,na,by rw[IX];exact ec,?_⟩;obtain⟨Ga,Q,m⟩:=K.qM;refine kv Q hy λu G2 H2 R r2=>?_
 cases(show u=_ from r2);obtain⟨G3,S,K3,_⟩:=m _ _ R;obtain⟨r',p',Z,t,vs',g,n,j,A,J,K5⟩:=(K3.WG (d:=.int (a+b)) (v:=.int (a+b)) rfl).NC ōb I F hβ;rw[L]at g;cases g;cases Đd (N.mono S.h) n;have eC:Z=C:=by rw[B]at j;cases j;rfl
 subst eC;exact⟨_,_,rfl,rfl,t,_,A,by rw[Śd,J,Ķc,<-J];exact W,q _ _ _ K5⟩;cases e;cases z;cases e;cases e
omit a
open Classical in
noncomputable def cut(H:Hp)(L:Ft):Hp:=λq=>if L q then Ã else H q
def RD{H:Hp}{L:Ft}{q:Ç}(h:L q):cut H L q=Ã:=by unfold cut;rw[Ë h]
theorem gJ{H:Hp}{L:Ft}{q:Ç}(h:¬ L q):cut H L q=H q:=by unfold cut;rw[Ï h]
theorem D2{H:Hp}{L:Ft}{q:Ç}(h:cut H L q=Ã):L q\/H q=Ã:=by by_cases c:L q;exact .inl c;rw[gJ c]at h;exact .inr h
abbrev FM:=Á M->Æ ũj
def xL(K:Î)(F:FM):Sp:=λa H Q _=>∃G ms L ms' m',zo G H/\Š K G H ms a L/\(∀q,L q->G q=Ã)/\F ms=À (ms',m')/\
 ∀v G' H' L',zO G ţr G' H'->Š K G' H' (m'::ms') (v::a) L'->(∀q,L' q->G' q=Ã/\cut H L q=Ã)->Q v H'
section
variable{K:Î}{n:Nat}{P:Á V}{G0 H0 G H G' H':Hp}{β:yB}{σ:St}
def zh.Lm{m:M}{v:V}{L:Ft}(E:zh K n P G0 H0 G H β σ)(x:zO G H G' H')(o:yr K G' H' m v L)(k:∀q,L q->G' q=Ã/\H q=Ã):zh K Ĝ P G0 H0 G' H' ţd Äb:=by
 obtain⟨s,F⟩:=þa;have y:=Đa x;have p:∀i q,s i q->L q->î:=λi q z c=>šb.2.2.some (k q c).2
 refine⟨y.ext,by rw[ä,Ĵ];rfl,by rw[ä,Į];rfl,by have:=Ăa;omega,λi u h=>?_,λj=>if j<n then s j else if j=n then L else λ_=>î,λi r h=>?_,λi j q t f d=>?_,λi q z=>?_⟩;have A:i<σ.length:=by rw[Ĵ];exact ņ Ĥa.1 Ăa
 rw[xr A];exact œa i u h;rcases Y0 h with⟨c,e⟩|⟨c,e⟩;rw[Į]at c;obtain⟨u,J,B⟩:=ű i r e;refine⟨u,by rw[xr Äd];exact J,?_⟩;simp only[Ë c];refine B.loc x.g r u _ λq z=>?_
 obtain⟨w,l,_⟩:=šb.2.2;rw[l];exact x.h _ _ l;cases e;rw[Į]at c;subst c;refine⟨_,uH Ĵ,?_⟩;simp only[Ŏb,Õa,ŋ];exact o;split at f;split at d;exact Ń i j q t f d;split at d;exact p i q f d;exact d;split at f;split at d;exact p j q d f;split at d;exact t Å;exact d;exact f;split at z;obtain⟨a,b,c⟩:=ų i q z;obtain⟨C,I⟩:=Bw x a c;exact⟨C,b,I⟩;split at z;exact⟨(k q z).1,Ċj (k q z).2,o.cells m v _ q z⟩;exact ł
def zh.back{m X:M}{i:Nat}{π:Á xV}(E:zh K n P G0 H0 G H β σ)(L:β[i]?=À Ôb)(ha:tq m π=À X) :∃r v1 L1,σ[i]?=À ċh/\wR K H r π v1/\yr K G H X v1 L1/\(∀q,L1 q->G q=Ã)/\
   ∀{G' H':Hp}{m' nd':M}{v:V}{Lr L2:Ft},zO G (cut H L1) G' H'->yr K G' H' m' v Lr->yr K G' H' nd' v1 L2->(∀q,Lr q->L2 q->î)->(∀q,Lr q\/L2 q->G' q=Ã/\cut H L1 q=Ã)->
    ∃mm,qG m π nd'=À mm/\zh K Ĝ P G0 H0 G' H' (β.set i (À mm)++[À m']) Äb:=by
 obtain⟨t,F⟩:=þa;have Z:i<n:=by rw[<-Į];exact(ō L).1
 obtain⟨r,R,om⟩:=ű i m L;obtain⟨v1,L1,va,o1,I,Y⟩:=om.focus ha;refine⟨r,v1,L1,R,va,o1,λq z=>éo.1,λ{G' H' m' nd' v Lr L2} x T W dj C=>?_⟩
 have s:∀j q,t j q->¬ L1 q->H' q=H q:=λj q z w=>by obtain⟨u,B,_⟩:=ĩg.2.2;rw[B];exact x.h _ _ ((gJ w).trans B)
 have A:∀j q,t j q->¬ L1 q->(Lr q\/L2 q)->î:=λj q z w c=>by have e:=žk.2;rw[gJ w]at e;exact ĩg.2.2.some e
 obtain⟨mm,e',o'⟩:=Y x.g (λq z w=>s i q z w) W (λq z w=>by by_cases c:L1 q;exact c;exact(A i q w c Įb).elim)
 have y:∀j q,j≠i->t j q->¬ L1 q:=λj q l z w=>Ń i j q Ūp (I q w) z
 have J:∀q,cut H L1 q=Ã->H0 q=Ã:=λq z=>by rcases D2 z with z|z;exact éo.2.1;exact Ċj z
 have p:(β.set i (À mm)).length=n:=by rw[ŭ];exact Į
 refine⟨mm,e',⟨Ėp x.g,λq o z=>x.h _ _ ?_,Ãc,λq z=>?_⟩,by rw[ä,Ĵ];rfl,by rw[ä,p];rfl,by have:=Ăa;omega,λj u h=>?_,λj=>if j=i then ğm else if j<n then t j else if j=n then Lr else λ_=>î,λj U h=>?_,λj k q l f d=>?_,λj q z=>?_⟩
 .rw[gJ λw=>by rw[(ų i q (I q w)).2.1]at z;cases z];exact ĉd _ _ z
 .rcases Ěd q z with w|w
  .exact źd q w
  .exact .inr (J q w)
 .have hj:j<σ.length:=by
   rw[Ĵ];exact ņ Ĥa.1 Ăa
  rw[xr hj];exact œa j u h
 .rcases Y0 h with⟨c,e⟩|⟨c,e⟩
  .rw[p]at c;rcases vS e with⟨rfl,w⟩|⟨l,w⟩
   .cases w;simp only[ŋ];exact⟨r,by rw[xr Äd];exact R,o'⟩
   .obtain⟨u,eu,ou⟩:=ű j U w;simp only[Ï l,Ë c];exact⟨u,by rw[xr Äd];exact eu,ou.loc x.g U u _ λq z=>s j q z ĝq⟩
  .cases e;rw[p]at c;subst c;refine⟨_,uH Ĵ,?_⟩;simp only[Ï (įa Z),Ŏb,Õa,ŋ];exact T
 .have O:∀j,j≠i->∀q,(t i q/\¬ L1 q)\/L2 q->t j q->î:=λj l q f d=>by
   rcases f with⟨f,_⟩|f;exact Ń i j q Ūp f d;exact A j q d (y j q l d) (.inr f)
  have N:∀q,(t i q/\¬ L1 q)\/L2 q->Lr q->î:=λq f d=>by rcases f with⟨f,w⟩|f;exact A i q f w Ĺk;exact dj q d f
  have S:∀j,j≠i->∀q,t j q->Lr q->î:=λj l q f d=>A j q f (y j q l f) Ĺk
  split at f
  .split at d;exact l Å;split at d;exact O k Å q f d;split at d;exact N q f d;exact d
  .split at f;split at d;exact O j Å q d f;split at d;exact Ń j k q l f d;split at d;exact S j Å q f d;exact d;split at f;split at d;exact N q d f;split at d;exact S k Å q d f;split at d;exact l Å;exact d;exact f
 .have Q:∀q,t j q->¬ L1 q->G' q=Ã/\H0 q=Ã/\Bx H' q:=λq z w=>by
   obtain⟨a,b,u,B,cu⟩:=ų j q z;refine⟨?_,b,u,(s j q z w).trans B,cu⟩;cases e:G' q with
   |Ã=>rfl|À o=>rcases Ěd q Żh with c|c;exact Û a c;rw[gJ w,B]at c;cases c
  split at z
  .rename_i ej;subst ej;rcases z with⟨z,w⟩|z;exact Q q z w;exact⟨Ŭr.1,J q Ŭr.2,W.cells nd' _ _ q z⟩
  .rename_i l
   split at z;exact Q q z ĝq;split at z;exact⟨ūr.1,J q ūr.2,T.cells m' _ _ q z⟩;exact ł
omit a
inductive AV where
 |v (d:D)|p (i:Nat) (π:Á xV)
abbrev uD:=yB->Æ (Á AV)
def YW(K:Î)(G H:Hp)(σ:St):Á AV->Á V->Prop
 | [],vs=>vs=[]|.v d::as,vs=>∃v r,vs=v::r/\zS K G d v/\YW K G H σ as r|.p i π::as,vs=>∃v r w,vs=v::r/\σ[i]?=À (À w)/\wR K H w π v/\YW K G H σ as r
structure MA(X:Cx)(es:Á Ñ)(f:uD):Prop where
 h:∃t,PA X es t/\∀{P:Á V}{G0 H0 G H:Hp}{β:yB}{σ:St}{as:Á AV}{Q:Á V->Hp->Prop},zh X.K ò P G0 H0 G H β σ->f β=À as->(∀vs G' H',zO G H G' H'->YW X.K G' H' σ as vs->Q vs H')->t σ H Q
noncomputable def wq:uD:=λ_=>À []
def Yq(f:FE)(r:uD):uD:=λβ=>(ŭe).bind λd=>match wS d with
 |Â=>(įh).bind λa=>À ök|Ä=>Ã
def wp(f:FE)(r:uD):uD:=λβ=>(Ŵk).bind λd=>(įh).bind λa=>À ök
def PH(f:FE)(r:uD):uD:=λβ=>(ŭe).bind λd=>match Ij d with
 |Â=>(įh).bind λa=>À ök|Ä=>Ã
noncomputable def jZ:M->Nat->Á xV->AV
 |.fz d,_,_=>.v d|_,i,π=>.p i π
def qR(i:Nat)(π:Á xV)(r:uD):uD:=λβ=>(ěg).bind λa=>(įh).bind λb=>À (jZ a i π::b)
section
variable{X:Cx}{e:Ñ}{es:Á Ñ}{f:FE}{r:uD}{i:Nat}{π:Á xV}
def qX:MA X [] wq:=⟨⟨_,XR,λE a q=>by cases a;exact q _ _ _ ëc rfl⟩⟩
def IY(u:SE X e f)(y:MA X es r)(h:Ê Ća q12):MA X ď (Yq f r):=by
 obtain⟨t,p,k⟩:=u.h;obtain⟨C,z,w⟩:=y.h;refine⟨⟨_,Zt p z h,λE a q=>?_⟩⟩;obtain⟨d,B,a⟩:=zD a
 split at a;rename_i c;obtain⟨K,i,a⟩:=zD a;cases a;obtain⟨H,o,b⟩:=E.qM;refine k o B λv I G x r=>?_
 obtain⟨F,s,A,n,_⟩:=b _ _ x;refine w A i λl J L j m=>q _ _ _ (s.trans j) ⟨v,l,rfl,(n d v c r).mono j.g,m⟩;cases a
def vI(m:SE X e f)(s:MA X es r)(h:Ê Ća q12):MA X ď (wp f r):=by
 obtain⟨t,p,k⟩:=m.h;obtain⟨u,l,o⟩:=s.h;refine⟨⟨_,Zt p l h,λE a q=>?_⟩⟩;obtain⟨d,n,a⟩:=zD a;obtain⟨z,b,a⟩:=zD a;cases a;refine k E.JJ n λv w B x r=>?_
 exact o (Đa x) b λi y A c j=>q _ _ _ (Ôe c) ⟨v,i,rfl,éa c.g,j⟩
def jf(v:SP X e i π)(C:MA X es r)(h:Ê Ća q12):MA X ď (qR i π r):=by
 obtain⟨t,p,k⟩:=v.h;obtain⟨G,s,B⟩:=C.h;refine⟨⟨_,Zt p s h,λE a q=>?_⟩⟩;obtain⟨z,y,a⟩:=zD a;obtain⟨I,n,a⟩:=zD a;obtain⟨K,o,A⟩:=XI y;obtain⟨w,j,F,l,m,u,_⟩:=Ül o A;refine k l m (B E n λc H J b f=>q _ _ _ b ?_);cases z with
 |fz d=>cases a;exact⟨j,c,rfl,u.1.mono b.g,f⟩|own d=>cases a;exact⟨j,c,w,rfl,l,ęh b.h,f⟩|obj x fs ms=>cases a;exact⟨j,c,w,rfl,l,ęh b.h,f⟩|tab ks ms=>cases a;exact⟨j,c,w,rfl,l,ęh b.h,f⟩|tp ms=>cases a;exact⟨j,c,w,rfl,l,ęh b.h,f⟩
omit a
noncomputable def jM:Á AV->Æ Űa
 | []=>À []|.v d::as=>(jM as).bind λa=>À (d::a)|.p _ _::_=>Ã
def kN:Á AV->Æ (Á D×Nat×Á xV×Á D)
 | []=>Ã|.v d::as=>(kN as).bind λr=>À (d::r.1,r.2)|.p i π::as=>(jM as).bind λb=>À ([],i,π,b)
noncomputable def tI(ds:Á D):Á M:=Ğh .fz
def jb(F:FM)(as:Á AV)(β:yB):Æ (M×yB):=match jM as with
 |À ds=>(F (tI ds)).bind λr=>À (r.2,β)|Ã=>(kN as).bind λc=>(pH β c.2.1 c.2.2.1).bind λb=>(F (tI c.1++b::tI c.2.2.2)).bind λr=>(r.1[c.1.length]?).bind λa=>(ŀb β c.2.1 c.2.2.1 a).bind λβ'=>À (r.2,β')
def tz(F:FM)(f:uD):xm:=λβ=>(ĺa).bind λa=>jb F a β
section
variable{K:Î}{n:Nat}{P:Á V}{G0 H0 G H G' H':Hp}{β:yB}{σ:St}
theorem VP:∀{ds:Á D}{vs:Á V},ã K G ds vs->Š K G H (tI ds) vs ŵe
 | [],_,r=>⟨r,λ_ z=>z⟩|d::ds,_,r=>by obtain⟨v,r,rfl,a,b⟩:=r;exact⟨v,r,λ_=>î,λ_=>î,rfl,⟨a,λ_ z=>z⟩,VP b,λ_ z=>ł,λq=>⟨λz=>ł,λz=>ł id id⟩⟩
theorem aH{g:M}{v1:V}{c:Ft}(o:yr K G H g v1 c){b:Á D}{e:Á V}(f:ã K G b e):∀{a:Á D}{va:Á V},ã K G a va->Š K G H (tI a++g::tI b) (va++v1::e) c
 | [],va,r=>by cases(show va=[]from r);exact⟨v1,e,c,λ_=>î,rfl,o,VP f,λ_ _ z=>z,λq=>⟨.inl,λz=>ł id öa⟩⟩|d::ds,_,r=>by obtain⟨v,r,rfl,h,i⟩:=r;exact⟨v,_,λ_=>î,c,rfl,⟨h,λ_ z=>z⟩,aH o f i,λ_ z=>ł,λq=>⟨.inr,λz=>ł öa id⟩⟩
theorem Ux:∀{as:Á AV}{ds:Á D}{vs:Á V},jM as=À ds->YW K G H σ as vs->ã K G ds vs
 | [],ds,vs,e,r=>by cases e;exact r|.v d::as,ds,vs,e,r=>by obtain⟨a,c,e⟩:=zD e;cases e;obtain⟨v,r,rfl,b,f⟩:=r;exact⟨v,r,rfl,b,Ux c f⟩
 |.p i π::as,ds,vs,e,r=>by cases e
theorem PR:∀{as:Á AV}{a b:Á D}{i:Nat}{π:Á xV}{vs:Á V},kN as=À (a,i,π,b)->YW K G H σ as vs->∃va v1 vb w,vs=va++v1::vb/\ã K G a va/\ã K G b vb/\σ[i]?=À (À w)/\wR K H w π v1
 | [],a,b,i,π,vs,e,r=>by cases e|.v d::as,a,b,i,π,vs,e,r=>by obtain⟨⟨o,q,π',n⟩,f,e⟩:=zD e;cases e;obtain⟨v,r,rfl,m,h⟩:=r;obtain⟨va,v1,vb,w,rfl,l,k,g,c⟩:=PR f h;exact⟨v::va,v1,vb,w,rfl,⟨v,va,rfl,m,l⟩,k,g,c⟩
 |.p j ρ::as,a,b,i,π,vs,e,r=>by obtain⟨n,f,e⟩:=zD e;cases e;obtain⟨v,r,w,rfl,g,va,h⟩:=r;exact⟨[],v,r,w,rfl,rfl,Ux f h,g,va⟩
theorem Iu{v1:V}{b:M}:∀{ms:Á M}{vs:Á V}{L:Ft}{k:Nat},Š K G H ms vs L->ms[k]?=À b->vs[k]?=À v1->∃L2,yr K G H b v1 L2/\∀q,L2 q->L q
 | [],_,_,_,_,e,_=>by cases e|m::ms,_,L,0,h,e1,e2=>by obtain⟨v,r,a,g,rfl,f,c,d,u⟩:=h;cases e1;cases e2;exact⟨a,f,λq z=>(àa).mpr ťb⟩
 |m::ms,_,L,k+1,h,e1,e2=>by obtain⟨v,r,a,g,rfl,f,c,d,u⟩:=h;obtain⟨L2,o,s⟩:=Iu (k:=k) c œn Œn;exact⟨L2,o,λq z=>(àa).mpr ęi⟩
def zh.call{F:FM}{as:Á AV}{vs:Á V}{m:M}{β':yB}{Q:VK}{E0:XK}(E:zh K n P G0 H0 G H β σ)(A:YW K G H σ as vs)(c:jb F as β=À (m,β'))(q:∀v G' H',zo G G'->zh K Ĝ P G0 H0 G' H' Öp Äb->Q v H'):xL K F vs H Q E0:=by
 unfold jb at c
 split at c;rename_i ds e;obtain⟨⟨l,m'⟩,k,c⟩:=zD c;cases c;refine⟨G,_,_,_,_,Ńa,VP (Ux e A),λ_ z=>ł,k,λv G' H' L' x o f=>?_⟩
 have I:cut H ŵe=H:=by
  funext q
  exact gJ (λz=>z)
 rw[I]at x;obtain⟨J,N,L,U,e2,p,B,t,u⟩:=o;cases e2
 exact q v G' H' x.g (E.Lm x p λq z=>by obtain⟨a,b⟩:=f q ŋe;rw[I]at b;exact⟨a,b⟩);obtain⟨⟨a,i,π,b⟩,O,c⟩:=zD c;obtain⟨nd,X,c⟩:=zD c;obtain⟨⟨l,m'⟩,k,c⟩:=zD c;obtain⟨nd',j,c⟩:=zD c;obtain⟨β2,y,c⟩:=zD c;cases c;obtain⟨mm,r,ha⟩:=XI X;obtain⟨w,v1,L1,Y,Z,p,T,bk⟩:=Ül r ha;obtain⟨xa,v1',xb,w',rfl,s,R,d,h⟩:=PR O A;rw[Y]at d;cases d;cases Đd Z h;refine⟨G,_,L1,_,_,Ńa,aH p R s,T,k,λv G' H' L' x o f=>?_⟩;obtain⟨J,N,L,U,e2,W,ob,t,u⟩:=o;cases e2
 obtain⟨L2,B,C⟩:=Iu (v1:=v1) ob j (by rw[<-Øf,Îc Ċ,ĵc];rfl)
 obtain⟨m3,S,K3⟩:=bk x W B (λq z w=>t q z Žk) (λq z=>by rcases z with z|z;exact f q ŋe;exact f q (ε (C q z)))
 rw[O2 r S]at y;cases y;exact q v G' H' x.g K3
omit a
section
variable{X:Cx}{x m c:Str}{ps:Á Str}{j k:Nat}{F:FM}{e o:Ñ}{es:Á Ñ}{fa:uD}{p pos Ìa:Pos}{i:Nat}{π:Á xV}
def kX(h:wW ö X.w X.K ó Ō x ps k ńc)(n:yX j X.A)(o:Gl X x)(y:MA X ď fa)(hk:Ê Àc q10)(a:Ê ĺ q10)(u:Ê Īa q12):MC X Ÿa Ŕr:=by
 obtain⟨t,f,l⟩:=y.h;refine⟨⟨_,Ix h n o f hk a u,λE b q=>?_⟩⟩;obtain⟨C,c,b⟩:=zD b;refine l E c λB H G d m=>?_
 rw[ëa];exact(ŕk).call m b λv i r s z=>q v i r (d.g.trans s) z
def jY(P:æ)(w:Þ)(K:Î)(b:Str->Æ Value)(a:Heap)(c m:Str)(ps:Á Str)(k:Nat)(sp:Sp):Prop:=
 ∃(C f:Ç) (fd:Ĳ),ş K ă c=À îa/\tD K C/\Me K C m f/\vt K fd ps []/\yz P w K b a yq k f fd ps sp
def j3(c m:Str)(i:Nat)(π:Á xV)(F:FM)(f:uD):xm:=λβ=>(ěg).bind λa=>match a with
 |.obj x fs _=>match decide (x=c)&&!(decide (m∈fs))with
  |Â=>(ĺa).bind λb=>jb F (.p i π::b) β|Ä=>Ã
 |_=>Ã
theorem Fz{f:Str}:∀{fs:Á Str}{vs:Á V},f ∉ fs->(Īq).lookup f=Ã
 | [],_,_=>rfl|_::_,[],_=>rfl|g::fs,v::vs,h=>by
  rw[Ġb,łe]
  have c:(f==g)=Ä:=by
   have:f≠g:=λz=>h (z▸ĵ)
   simpa using this
  rw[c];exact Fz λz=>h ãk
def i_{P:Á V}{d b G H:Hp}{β β':yB}{σ:St}{A:M}{Q:VK}{C:Ç}{t:TA}{o:TE}{E0:XK}(e:ş X.K ă c=À îa)(I:∀{σ:St}{H:Hp}{v u:V}{Q:VK},σ[i]?=À Éa->wR X.K H v π u->Q u H->o σ H Q)(S:∀{P:Á V}{d b G H:Hp}{β:yB}{σ:St}{as:Á AV}{Q:Á V->Hp->Prop},zh X.K ò P d b G H β σ->fa β=À as->(∀vs G' H',zO G H G' H'->YW X.K G' H' σ as vs->Q vs H')->t σ H Q)(E:zh X.K ò P d b G H β σ)(a:j3 c m i π F fa β=À (A,β'))(q:∀v G' H',zo G G'->zh X.K (ò+1) P d b G' H' (β'++[À A]) Äb->Q v H'):HB C m ńc [] E0 o t σ H Q:=by
 obtain⟨nd,J,a⟩:=zD a
 split at a;rename_i x L ms
 split at a;rename_i f;rw[ć]at f;cases ŵ f.1
 have B:m ∉ L:=by have:=f.2;simpa using this
 obtain⟨as,n,a⟩:=zD a;obtain⟨mm,j,Y⟩:=XI J;obtain⟨w,v1,L1,r,y,U,_⟩:=Ül j Y;obtain⟨p,C',R,vs,L',rfl,z,O,l,rs,nL,uL⟩:=U;rw[e]at z;cases z;refine I r y ⟨p,R,_,rfl,O,Fz B,?_⟩;refine S E n λvs G1 H1 k T=>?_
 rw[ëa];exact(Đa k).call (as:=.p i π::as) ⟨_,vs,w,rfl,r,y.mono k.h,T⟩ a λv G' H' s Z=>q v G' H' (k.g.trans s) Z;cases a;cases a
def Ts{pl:Sem Í}(h:jY ö X.w X.K ó Ō c m ps k ńc)(p:yX j X.A)(d:SP X o i π)(hk:Ê Àc q10)(l:Ę Ĩd Ö=(do
   let ov <-Ę o Ö
   standAt Ťe
   let (f,first) <-holding [ov] įe
   ÿd pos f first Ħi źc):=by rfl):MC X Ĩd (j3 c m i π F wq):=by
 obtain⟨C,f,L,v,g,u,b,s⟩:=h;obtain⟨z,y,r⟩:=d.h;exact⟨⟨_,aP y g u s (Èl hk) b .nil Zv l,λE n q=>i_ (t:=Xl) v r (λ{P J I G H β σ B Q} a e x=>by cases e;exact x _ _ _ (śa a.ext.gh) rfl) E n q⟩⟩
def MV(P:æ)(w:Þ)(K:Î)(b:Str->Æ Value)(a:Heap)(c:Str)(ps:Á Str)(k:Nat)(sp:Sp):Prop:=
 ∃(C f:Ç) (fd:Ĳ),ş K ă c=À îa/\b c=À ĩ/\Mk K C f/\vt K fd ps []/\yz P w K b a yq k f fd ps sp
def Jn(c:Str)(F:FM)(f:uD):xm:=λβ=>(ĺa).bind λb=>(jM b).bind λa=>(F (.obj c [] []::tI a)).bind λr=>match r.2 with
 |.fz .zK=>(ŕr).bind λm=>À (m,β)|_=>Ã
def z0l(h:MV ö X.w X.K ó Ō c ps k ńc)(hr:yX j X.A)(hg:Gl X c)(ha:MA X ď fa)(hk:Ê (k+1<=j) q10)(J:Ê ōf q10)(T:Ê Īa q12) :MC X Ėm (Jn c F fa):=by
 obtain⟨C,f,fd,ns,O,mk,b,FF⟩:=h;obtain⟨t,pa,ka⟩:=ha.h;rw[ţ,ć]at T;refine⟨⟨_,aO mk FF Ãq hg O b .nil Zv pa J (uR T.1) (Z1 T.2),λ{P G0 H0 G H β β' σ mr Q} E d q=>?_⟩⟩;obtain⟨as,Y,d⟩:=zD d;obtain⟨ds,U,d⟩:=zD d;obtain⟨⟨R,m'⟩,hF,d⟩:=zD d;refine ka E Y λvs B m x1 ra y i r l ne=>?_
 rw[ëa];have S:=Đa x1;have rd:=Ux U ra
 split at d;rename_i em
 change m'=.fz .zK at em
 subst em;obtain⟨m0,h0,d⟩:=zD d;cases d;have N:∀q,q≠y->q≠i->zX îo y Ōp q=m q:=λq z w=>by rw[yP z,yP w]
 have gy:B y=Ã:=S.ext.gh.free r
 have s2:zo B ľf:=λq o z=>by have n:=S.ext.gh _ _ z;rw[N q (λc=>by subst c;rw[r]at n;cases n) Ým];exact n
 refine⟨B,.obj c [] []::tI ds,λq=>q=y,R,.fz .zK,s2,⟨_,vs,λq=>q=y,λ_=>î,rfl,⟨y,C,i,[],λ_=>î,rfl,ns,yk,rfl,⟨rfl,λ_ z=>z⟩,λz=>z,λq=>⟨.inl,λz=>ł id öa⟩⟩,VP rd,λ_ _ z=>z,λq=>⟨.inl,λz=>ł id öa⟩⟩,λq z=>z▸gy,hF,λv G' H' L' x o hN=>?_⟩;obtain⟨v',r',La,Lb,e2,oa,ob,dj,u⟩:=o;cases e2;refine⟨oa.1,?_⟩;obtain⟨L2,o2,W⟩:=Iu (v1:=.ref y) ob h0 rfl
 have cn:∀q,cut ľf şq q=Ã->m q=Ã:=λq z=>by rcases D2 z with z|z;exact z▸r;by_cases s:q=y;exact s▸r;by_cases I:q=i;exact I▸l;rw[N q s I]at z;exact z
 have Z:zO B m G' H':=⟨x.g,λq o z=>x.h _ _ (by
  have s:q≠y:=λc=>by subst c;rw[r]at z;cases z
  have I:q≠i:=λc=>by subst c;rw[l]at z;cases z
  rw[gJ (L:=λq=>q=y) s,N q s I];exact z),Ãc,λq z=>by
  rcases Ěd q z with w|w;exact .inl w;exact .inr (cn q w)⟩
 exact q _ G' H' (ľq Z.g) (S.Lm Z o2 λq z=>by obtain⟨a,b⟩:=hN q (ε (W q z));exact⟨a,cn q b⟩);cases d
omit a
section
variable{K:Î}{G H:Hp}
theorem ñq:∀{ms:Á M}{vs:Á V}{L:Ft},Š K G H ms vs L->∃Ls:Nat->Ft,(∀(i:Nat)(m:M),ms[i]?=À m->∃v,vs[i]?=À v/\yr K G H m v ôl)/\(∀(i j:Nat)(q:Ç),i≠j->Ls i q->Ls j q->î)/\∀i q,Ls i q->L q
 | [],_,_,_=>⟨λ_ _=>î,⟨λi m h=>Åq,⟨λ_ _ _ _ z=>ł,λ_ _ z=>ł⟩⟩⟩|m::ms,_,L,h=>by
  obtain⟨v,r,k,t,rfl,l,s,d,u⟩:=h;obtain⟨Ls,p,o,b⟩:=ñq s;refine⟨λi=>match i with|0=>k|j+1=>Ls j,λi n e=>?_,λi j q g a f=>?_,λi q z=>?_⟩;cases i with
  |áa=>cases e;exact⟨v,rfl,l⟩|âa j=>exact p j n îb
  cases i with
  |áa=>
   cases j with
   |áa=>exact g rfl|âa j=>exact d q a (b j q f)
  |âa i=>
   cases j with
   |áa=>exact d q f (b i q a)|âa j=>exact o i j q (λc=>g źq) a f
  cases i with
  |áa=>exact(àa).mpr ťb|âa j=>exact(àa).mpr (.inr (b j q z))
theorem Şj:∀{ms:Á M}{vs:Á V}{Ls:Nat->Ft},(∀(i:Nat)(m:M),ms[i]?=À m->∃v,vs[i]?=À v/\yr K G H m v ôl)->(∀(i j:Nat)(q:Ç),i≠j->Ls i q->Ls j q->î)->Ą=Ĉa->∃L,Š K G H ms vs L/\∀q,L q->∃i,i<Ĉa/\Ls i q
 | [],vs,Ls,_,_,l=>by
  cases vs with
  |nil=>exact⟨λ_=>î,⟨rfl,λ_ z=>z⟩,λ_ z=>ł⟩|ù v r=>cases l
 |m::ms,[],Ls,_,_,l=>by cases l|m::ms,v::vs,Ls,h,d,l=>by
  obtain⟨L,o,c⟩:=Şj (ms:=ms) (vs:=vs) (Ls:=λi=>Ls ï) (λi g e=>by obtain⟨u,b,a⟩:=h ï g îb;exact⟨u,by simpa using b,a⟩) (λi j q p=>d ï Ëa q Å) (Ŕd l)
  obtain⟨u,b,a⟩:=h 0 m rfl;cases b;refine⟨λq=>Ls 0 q\/L q,⟨v,vs,Ls 0,L,rfl,a,o,λq f k=>?_,λq=>śc⟩,λq z=>?_⟩;obtain⟨i,_,z⟩:=c q k;exact d 0 ï q Å f z;rcases z with z|z;exact⟨0,Ąj _,z⟩;obtain⟨i,n,z⟩:=c q z;exact⟨i+1,čo n,z⟩
omit a
noncomputable def qz:Á ťk->Æ (Á M)
 | []=>À []|o::r=>Él λm=>(qz r).bind λa=>À (m::a)
def Zc(b:Nat):ZO->Æ ũj
 |.rt m β=>(Ģo).bind λa=>À (a,m)|.nx β=>(Ģo).bind λa=>À (a,.fz .zK)|_=>Ã
def wN(a n:Nat)(b:yQ)(ms:Á M):Æ ũj:=(b (Δd (n-Ĉa))).bind (Zc a)
def vW(a n:Nat)(b:yQ):FM:=λc=>if ĳa=a then wN a n b c else Ã
def vv{a n:Nat}{b:yQ}:∀ms r,vW a n b ms=À r->Ĉa=a/\wN a n b ms=À r:=λms r h=>by
 unfold vW at h
 split at h;rename_i c;exact⟨c,h⟩;cases h
theorem PP:∀{os:Á ťk} {ms:Á M},qz os=À ms->Ĉa=os.length/\∀(i:Nat)(m:M),ms[i]?=À m->os[i]?=À Ôb
 | [],ms,h=>by cases h;exact⟨rfl,λi m e=>by cases e⟩|o::r,ms,h=>by
  obtain⟨d,b,h⟩:=zD h;obtain⟨a,c,h⟩:=zD h;cases h;subst b;obtain⟨l,g⟩:=PP c;refine⟨by rw[Ă,Ă,l],λi m e=>?_⟩;cases i with
  |áa=>cases e;rfl|âa j=>exact g j m îb
section
variable{K:Î}
def z0d{N:Á Str}{G H:Hp}{ms:Á M}{vs:Á V}{L:Ft}(s:zo G H)(o:Š K G H ms vs L)(p:∀q,L q->G q=Ã)(w:Ĉa<=Ĺ):zh K Ĺ vs G ţr G H (Δd (Ĺ-Ĉa)) ŧj:=by
 have l:=ýd;obtain⟨j,r,k,b⟩:=o.split;have d:∀q,L q->Bx H q:=âd (λm _ v f t=>t.cells m v f) o
 have a:∀(i:Nat)(v:V),vs[i]?=À v->ŧj[i]?=À Éa:=λi v e=>by unfold Űe;rw[Ěb (by rw[é];exact Ăf.1),Œ,e];rfl
 refine⟨⟨ūa _,λq o e=>?_,s,λq z=>.inl z⟩,?_,?_,by omega,a,j,λi m h=>?_,k,λi q z=>⟨p q õk,RD õk,d q õk⟩⟩;by_cases c:L q;rw[RD c]at e;cases e;rw[gJ c]at e;exact e;unfold Űe;rw[ä,é,ħa];omega;rw[ä,é,ħa];omega;obtain⟨u,e,z⟩:=IZ h;cases z;obtain⟨v,g,n⟩:=r i m e;exact⟨v,a i v g,n⟩
def A0{n:Nat}{A k G H:Hp}{vs:Á V}{β:yB}{σ:St}{m:M}{v:V}{ms:Á M}(E:zh K Ĝ vs A k G H ţd Äb)(B:Ą<=n)(h:qz (β.take Ą)=À ms) :∃L,Š K G H (m::ms) Ŭk L/\∀q,L q->G q=Ã/\k q=Ã:=by
 obtain⟨Ls,F⟩:=þa;obtain⟨l,g⟩:=PP h;rw[ĕa,E.pW,ņe B]at l;obtain⟨u,r,t⟩:=ű n m ðk;rw[uH E.ql]at r;cases r
 obtain⟨L,o,x⟩:=Şj (K:=K) (G:=G) (H:=H) (ms:=m::ms) (vs:=v::vs) (Ls:=λi=>match i with|0=>Ls n|j+1=>if j<n then Ls j else λ_=>î) (λi c e=>by
  cases i with
  |áa=>cases e;exact⟨v,rfl,t⟩|âa j=>
   have p:ms[j]?=À c:=by simpa using e
   have d:j<Ą:=by rw[<-l];exact Ċh.1
   have e2:=g j c p;rw[ĥi]at e2;rw[Ë d]at e2;obtain⟨w,C,s⟩:=ű j c (by rw[xr (by rw[E.pW];omega)];exact e2);have f:=œa j (vs[j]) Ĉh;rw[C]at f;cases f;refine⟨vs[j],by simp[d],?_⟩;simp only[Ë (show j<n by omega)];exact s) (λi j q y a b=>by
  cases i with
  |áa=>
   cases j with
   |áa=>exact y rfl|âa j=>
    dsimp only at a b
    split at b;exact Ń n j q Å a b;exact b
  |âa i=>
   cases j with
   |áa=>
    dsimp only at a b
    split at a;exact Ń n i q Å b a;exact a
   |âa j=>
    dsimp only at a b
    split at a;split at b;exact Ń i j q Å a b;exact b;exact a) Äo
 refine⟨L,o,λq z=>?_⟩;obtain⟨i,_,z⟩:=x q z;cases i with
 |áa=>exact⟨Ĩg.1,Ĩg.2.1⟩|âa j=>
  dsimp only at z
  split at z;exact⟨ĩg.1,ĩg.2.1⟩;exact ł
omit a
structure wj(K:Î)(x qual:Str)(st:Ù)(f:Ç)(fd:Ĳ):Prop where
 ex:∃(oc:Value) (od:Æ Ç) (dV kV doc pm:Value) (an:Æ Ç) (cdv ct:Value) (osl:Ô ţa),
  fd=ċb x qual ůb Ûa ı dV kV doc pm an cdv ct/\Ça f=À ⟨oc,od,.func fd,osl⟩/\ĵb K cdv qual=Â
 kp:Øa K ĕ=Â
def _root_.L2.Fun.v{K:Î}{x a:Str}{st:Ù}{f:Ç}{h:Ĳ}(F:Fun K x a st f h):wj K x a st f h:=by obtain⟨n,l,kV,b,i,j,g,k,d,e,m,c⟩:=F.ex;exact⟨⟨n,l,.none,kV,b,i,j,g,k,d,e,m,c⟩,F.kp⟩
section
variable{P:æ}{w:Þ}{K:Î}{mg:Str->Æ Value}{È:Heap}
def Ru{x a:Str}{st:Ù}{f:Ç}{j:Value}{m h:Æ Ç}{e:Ô ţa}{i kV d g b ct:Value}(l:Ça f=À ⟨j,m,.func Èm,e⟩)(c:ĵb K b a=Â)(k:Øa K ĕ=Â):wj K x a st f Èm:=⟨⟨j,m,i,kV,d,g,h,b,ct,e,rfl,l,c⟩,k⟩
def wj.ok{x a:Str}{st:Ù}{f:Ç}{i:Ĳ}{N ps:Á Str}{k:Nat}{sp:Sp}(F:wj K x a st f i)(S:zm N ps ı)(e:∀vs H Q E,sp vs H Q E->Ą=Ē)(c:∀(b:Value)(A:ñ)(þ:Á Env)(s:É)(H:Hp)(vs:Á V)(Q:VK)(E:XK),yX k ŏm->sp vs H Q E->
   ∃t,uM (şl).t9 Ûa t/\t { nx:=λ_ H'=>Q .zK H',rt:=Q } Þd H):yz P w K mg È yq Ų f i ps sp:=by
 obtain⟨v,u,r,kV,j,o,y,b,p,l,rfl,m,g⟩:=F.ex;refine Rq m g S e λA þ s H vs Q E n d=>?_
 obtain⟨t,h,q⟩:=c b A þ s H vs Q E n d;exact⟨t,h.t9,q⟩
def wj.UJ{x c:Str}{st:Ù}{f:Ç}{W:Ĳ}{N ps:Á Str}{k:Nat}{F:FM}{b:yQ}(d:wj K x c st f W)(S:zm N ps ı)(U:Ē<=Ĺ)(T:∀ms r,F ms=À r->Ĉa=Ē/\wN Ē Ĺ b ms=À r)(X:∀(g:Value)(A:ñ)(þ:Á Env)(s:É)(H:Hp)(E:XK),yX k Ŏm->qP (Şl).t9 Ē Ûa b):yz P w K mg È yq Ų f W ps Ôh:=by
 refine d.ok S (λR H Q E h=>?_) λg A þ s H R Q E hr h=>?_;obtain⟨G,ms,L,z,m',_,o,_,e,_⟩:=h;rw[ýd,(T _ _ e).1];obtain⟨G,ms,L,z,m',s',o,hL,e,q⟩:=h;obtain⟨l,a⟩:=T _ _ e;obtain⟨t,p,Y⟩:=(X g A þ s H E hr).h;obtain⟨Z,y,a⟩:=zD a;have i:ķb=Ē:=by rw[ýd,l]
 refine⟨t,p,Y i (z0d (N:=N) s' o hL Å) y ?_⟩;cases Z with
 |nx β=>obtain⟨C,O,a⟩:=zD (show(żn).bind _=_ from a);cases a;intro σ B J j;obtain⟨n,I,u⟩:=A0 (j.WG (d:=.zK) (v:=.zK) rfl) Æo Ço;exact q .zK B J n j.ext I u
 |rt m β=>obtain⟨C,O,a⟩:=zD (show(żn).bind _=_ from a);cases a;intro σ v B J j;obtain⟨n,I,u⟩:=A0 j Æo Ço;exact q v B J n j.ext I u
 |_=>cases a
def wj.fj{x c:Str}{st:Ù}{f:Ç}{m:Ĳ}{N ps:Á Str}{k:Nat}{F:Á D->Æ ì}{b:FS}(d:wj K x c st f m)(S:zm N ps ı)(O:Ē<=Ĺ)(j:∀ds r,F ds=À r->ú=Ē/\yS Ĺ b ds=À r)(u:∀(g:Value)(A:ñ)(þ:Á Env)(s:É)(H:Hp)(E:XK),yX k Ŏm->tF (Şl).t9 Ûa b):yz P w K mg È yq Ų f m ps ìf:=by
 refine d.ok S (λn H Q E h=>?_) λg A þ s H n Q E L h=>?_;obtain⟨G,ds,o,J,_,r,e,_⟩:=h;rw[ż,(j _ _ e).1];obtain⟨G,ds,o,J,I,r,e,q⟩:=h;obtain⟨l,a⟩:=j _ _ e;obtain⟨t,p,y⟩:=(u g A þ s H E L).h;obtain⟨B,i,a⟩:=zD a;refine⟨t,p,y (Rb (N:=N) I r Å) i ?_⟩;cases B with
 |nx τ=>cases a;exact λσ v C z=>q .zK v C z.ext rfl|rt o' d'=>
  cases a;cases o with
  |Ä=>exact q|Â=>exact q
 |_=>cases a
theorem Def.UJ{x:Str}{st:Ù}{N ps:Á Str}{k:Nat}{F:FM}{b:yQ}(d:Def K mg x st ps)(S:zm N ps ı)(l:Ē<=Ĺ)(i:∀ms r,F ms=À r->Ĉa=Ē/\wN Ē Ĺ b ms=À r)(h:∀(f:Ç)(a:Value)(A:ñ)(þ:Á Env)(s:É)(H:Hp)(E:XK),yX k (İb (Ąb x ı Õ f a))->qP (uo yq P w K mg È N x ı f a A þ s H E).t9 Ē Ûa b):wW P w K mg È x ps Ų Ôh:=by obtain⟨f,j,e,g,c⟩:=d;exact⟨f,j,g,e.kp,c,e.v.UJ S l i (h f)⟩
def DS(F:FM):Á D->Æ ì:=λa=>(F (tI a)).bind λr=>match r.2 with
 |.fz d=>À (Ä,d)|.own d=>À (Â,d)|_=>Ã
def y0a{F:FM}{vs:Á V}{H:Hp}{Q:VK}{E:XK}(h:vm K (DS F) vs H Q E):xL K F vs H Q E:=by
 obtain⟨G,t,o,d,s,r,e,q⟩:=h;obtain⟨⟨c,i⟩,m,e⟩:=zD e
 have k:cut H ŵe=H:=by
  funext q
  exact gJ (λz=>z)
 refine⟨G,tI t,λ_=>î,c,i,s,VP r,λ_ z=>ł,m,λv g j N x y n=>?_⟩;rw[k]at x;obtain⟨A,C,B,I,e2,f,L,J,u⟩:=y;cases e2;cases i with
 |fz d'=>cases e;exact q v g j x f.1|own d'=>cases e;obtain⟨p,rfl,w,l⟩:=f;obtain⟨a,b⟩:=n p ((u p).mpr (.inl ((l p).mpr rfl)));rw[k]at b;exact q p g j x b a w
 |_=>cases e
omit a
structure JT(P:æ)(w:Þ)(K:Î)(mg:Str->Æ Value)(È:Heap)(c m:Str)(ps:Á Str)(k:Nat)(sp:Sp):Prop where
 ex:∃(C f:Ç) (fd:Ĳ) (mc:Value),mg c=À ĩ/\Ħj K ĩ Ģi=À Šh/\Ëk K C mc=Â/\Ìk K ĩ mc m=À ůj/\Øa K ĕ=Â/\vt K fd ps []/\yz P w K mg È yq k f fd ps sp
section
variable{X:Cx}{c m:Str}{ps:Á Str}{j k:Nat}{F:FM}{e:Ñ}{es:Á Ñ}{fa:uD}{p pos Ìa:Pos}{sp:Sp}{t:TA}
def z4x{pl:Sem Í}(h:JT ö X.w X.K ó Ō c m ps k sp)(y:yX j X.A)(v:Gl X c)(E:PA X ď t)(hk:Ê Àc q10)(d:Ê ōf q10)(i:Ê Īa q12)(u:Ę ķf Ö=(do
   let ov <-Ę ĺq Ö
   standAt Ťe
   let (f,first) <-holding [ov] įe
   ÿd pos f first Ág źc):=by rfl):PE X ķf ūo:=by
 obtain⟨C,f,O,G,o,l,g,a,B,b,z⟩:=h.ex;rw[ţ,ć]at i;intro x s σ H Q I F;refine Ľo (pl:=pl) ?_ u;refine Tn I v o ?_ d;refine W.method_cls ū l (W.cls_value ū g a rfl ?_);exact ďg (h₀:=Ō) Ĥg B (zt (E pos x _ σ H _ Ċd F) λL N ⟨J,P,n,r,q⟩=>⟨n.xy,QK z (y.mono hk) b .nil Zv n r q⟩) (uR i.1) (Z1 i.2)
def z0j{pl:Sem Í}(h:JT ö X.w X.K ó Ō c m ps k ńc)(x:yX j X.A)(y:Gl X c)(C:MA X ď fa)(hk:Ê Àc q10)(a:Ê ōf q10)(B:Ê Īa q12)(l:Ę ķf Ö=(do
   let ov <-Ę ĺq Ö
   standAt Ťe
   let (f,first) <-holding [ov] įe
   ÿd pos f first Ág źc):=by rfl):MC X ķf Ŕr:=by
 obtain⟨t,n,r⟩:=C.h;refine⟨⟨_,z4x h x y n hk a B l,λE b q=>?_⟩⟩;obtain⟨I,d,b⟩:=zD b;refine r E d λH L J i u=>?_
 rw[ëa];exact(Đa i).call u b λv o z s G=>q v o z (ìr s) G
omit a
def gC(K:Î)(n:Nat)(P:Á V)(b a G H:Hp)(β:yB)(σ:St)(ms:Á M)(vs:Á V):Prop:=
 ∃(L:Ft) (H1:Hp),zh K n P b H1 G H β σ/\Š K G H ms vs L/\(∀q,L q->G q=Ã/\a q=Ã/\H1 q=H q)/\∀q,¬ L q->H1 q=a q
section
variable{K:Î}{n:Nat}{P:Á V}{G0 H0 G H G' H':Hp}{β:yB}{σ:St}
def zh.hold{m:M}{v:V}(t:èa<=n)(E:zh K Ĝ P G0 H0 G H ţd Äb):∃(L:Ft) (H1:Hp),zh K n P G0 H1 G H β σ/\yr K G H m v L/\(∀q,L q->G q=Ã/\H0 q=Ã/\H1 q=H q)/\∀q,¬ L q->H1 q=H0 q:=by
 classical
 obtain⟨e,F⟩:=þa;obtain⟨u,k,s⟩:=ű n m ðk;rw[uH E.ql]at k;cases k
 let H1:Hp:=λq=>if e n q then H q else H0 q
 have e1:∀q,e n q->H1 q=H q:=λq z=>Ë z
 have e2:∀q,¬ e n q->H1 q=H0 q:=λq z=>Ï z
 have f:=E.down t;refine⟨e n,H1,⟨⟨úh,λq o z=>?_,Ńa,λq z=>?_⟩,f.l1,f.l2,t,f.pin,λj=>if j<n then e j else λ_=>î,λi x h=>?_,λi j q y l p=>?_,λi q z=>?_⟩,s,λq z=>⟨Ĩg.1,Ĩg.2.1,e1 q z⟩,e2⟩;by_cases c:e n q;rw[e1 q c]at z;exact z;rw[e2 q c]at z;exact ĉd _ _ z;rcases źd q z with w|w;exact .inl w;by_cases c:e n q;exact Û Ĳj.1 z;exact .inr ((e2 q c).trans w);have r:i<n:=by rw[<-f.l2];exact Ĥa.1
 obtain⟨u,k,s⟩:=ű i x (by rw[xr (by rw[f.l2];exact r)];exact h);rw[xr (by rw[f.l1];exact r)]at k;simp only[Ë r];exact⟨u,k,s⟩;split at l;split at p;exact Ń i j q y l p;exact p;exact l;split at z;rename_i c;obtain⟨a,b,d⟩:=ų i q z;exact⟨a,(e2 q λw=>Ń i n q Å z w).trans b,d⟩;exact ł
def gC.nil(E:zh K n P G0 H0 G H β σ):gC K n P G0 H0 G H β σ [] []:=⟨λ_=>î,H0,E,⟨rfl,λ_ z=>z⟩,λ_ z=>ł,λ_ _=>rfl⟩
def gC.cons{m:M}{v:V}{L:Ft}{k:Hp}{ms:Á M}{vs:Á V}(o:yr K G H m v L)(d:∀q,L q->G q=Ã/\H0 q=Ã/\k q=H q)(l:∀q,¬ L q->k q=H0 q)(r:zo G0 G)(s:zo G G')(h:gC K n P G0 k G' H' β σ ms vs):gC K n P G0 H0 G' H' β σ (m::ms) Ŭk:=by
 obtain⟨i,p,E2,t,a,b⟩:=h;have j:∀q,L q->Bx H q:=o.cells m v L
 have f:∀q,L q->¬ i q:=λq z w=>by have e:=Źk.2.1;rw[àe.2.2]at e;exact(j q z).some e
 have c:∀q,L q->H' q=H q:=λq z=>by obtain⟨u,g,_⟩:=j q z;rw[g];refine E2.ext.h _ _ ?_;rw[b q Ŷk,àe.2.2];exact g
 refine⟨λq=>L q\/i q,p,E2,⟨v,vs,L,i,rfl,úe s m v L c,t,f,λq=>śc⟩,λq z=>?_,λq z=>?_⟩;rcases z with z|z;refine⟨?_,àe.2.1,by rw[b q Ŷk,àe.2.2,c q z]⟩;cases e:G' q with
 |Ã=>rfl|À w=>
  obtain⟨u,g,_⟩:=j q z;have e2:p q=À u:=by rw[b q Ŷk,àe.2.2];exact g
  rcases E2.ext.new q Żh with w|w;cases e3:G0 q with
  |Ã=>exact Û e3 w|À o3=>have:=r _ _ e3;rw[àe.1]at this;cases this
  rw[e2]at w;cases w
 refine⟨Ćf.1,?_,Ćf.2.2⟩;have e:=Ćf.2.1;rw[l q λw=>f q w z]at e;exact e;rw[b q λw=>z (.inr w),l q λw=>z (.inl w)]
omit a
noncomputable def T7:yB->Æ åd:=λβ=>À ([],β)
noncomputable def V3(f:xm)(r:yB->Æ åd):yB->Æ åd:=λβ=>(ĺa).bind λa=>(r a.2).bind λb=>À (a.1::b.1,b.2)
noncomputable def R1(ks:Á Str)(fs:yB->Æ åd):xm:=λβ=>(fs β).bind λr=>match decide (Ŀ=r.1.length)with
 |Â=>À (.tab (ks.map .inr) r.1,r.2)|Ä=>Ã
noncomputable def Yt(i:Nat):xm:=λβ=>match β[i]? with
 |À Ôb=>À (m,β.set i Ã)|_=>Ã
section
variable{X:Cx}{v:Ñ}{x:Str}{pos:Pos}
def A4(i:Nat){x:Str}{pos:Pos}(t:Ê Ød q12)(hv:Ê îd q13)(p:Ê ĺ q10)(g:Ê Ęc q10):MC X Ða (Yt i):=⟨⟨_,XS t hv p g,λ{P J I G H β β' σ m Q} E f q=>by
 unfold Yt at f
 split at f;rename_i n l;cases f;obtain⟨o,F⟩:=þa;have s:i<ò:=by rw[<-Į];exact(ō l).1
 obtain⟨v,r,A⟩:=ű i m l;refine⟨v,r,q v G H ÿf ⟨Ņb,by rw[ä,Ĵ];rfl,by rw[ä,ŭ,Į];rfl,by have:=Ăa;omega,λj w h=>?_,λj=>if j=i then ŵe else if j<ò then o j else if j=ò then o i else λ_=>î,λj n h=>?_,λj k q d b a=>?_,λj q z=>?_⟩⟩;have y:j<σ.length:=by rw[Ĵ];exact ņ Ĥa.1 Ăa
 rw[xr y];exact œa j w h;rcases Y0 h with⟨c,e⟩|⟨c,e⟩;rcases vS e with⟨_,w⟩|⟨d,w⟩;cases w;rw[ŭ,Į]at c;obtain⟨u,C,B⟩:=ű j n w;simp only[Ï d,Ë c];exact⟨u,by rw[xr Äd];exact C,B⟩;cases e;rw[ŭ,Į]at c;subst c;refine⟨_,uH Ĵ,?_⟩;simp only[Ï (įa s),Ŏb,Õa,ŋ];exact A;split at b;exact b;split at b;split at a;exact a;split at a;exact Ń j k q d b a;split at a;exact Ń j i q Å b a;exact a;split at b;split at a;exact a;split at a;exact Ń i k q Å b a;split at a;exact d Å;exact a;exact b;split at z;exact ł;split at z;exact ų j q z;split at z;exact ų i q z;exact ł;cases f⟩⟩
omit a
omit L3
namespace L2
open ľ Ŕ Ďb ň
section
variable{X:Cx}{c e:Ñ}{es:Á Ñ}{t:TA}{tc:TE}{pos:Pos}{j:Nat}
noncomputable def y11(X:Cx)(j:Nat)(tc:TE)(t:TA):TE:=λσ H Q=>tc σ H λv a=>∃(f:Ç) (fd:Ĳ) (ps:Á Str) (k:Nat) (sp:Sp),v=.ref f/\k<=j/\Øa X.K ĕ=Â/\vt X.K fd ps []/\yz ö X.w X.K ó Ō yq k f fd ps sp/\t σ a λc b=>sp (c++[]) b Q E0
def z4v(n:yX j X.A)(m:PE X c tc)(x:PA X ď t)(d:Ê Īa q12)(a:Ê (Ę Ĭn Ö=(do ÿd pos (<-Ę c Ö) [] Ág źc)) q12):PE X Ĭn (y11 X j tc t):=by intro i s σ H Q I h;rw[ţ,ć]at d;rw[a];refine Ì (zt (m i s σ H _ I h) λu p ⟨v,L,w,z,f,J,B,k,K,o,l,y,b,F,q⟩=>?_);subst o;cases z;refine ďg (h₀:=Ō) Ĥg y (zt (x pos i p σ _ _ w q) λG C ⟨E,N,g,r,q⟩=>⟨g.xy,?_⟩) (uR d.1) (Z1 d.2);exact QK F (Ël l) b .nil Zv g r q
omit a
omit L2
namespace L3
open ľ Ŕ ň L2
def ZM(K:Î)(w:Þ)(b:Str->Æ Value)(a:Ç)(ks:Á zR)(ns:Á Str):Prop:=
 ∃fs:Á Ç,Ŝa=Ä/\Ŀ=ŧa/\(∀(i:Nat)(n:Str),ns[i]?=À n->∃f,fs[i]?=À f/\b n=À ĕ)/\Ŝ=ŧa/\∀(P:æ)(h:Heap),š h->∃vs,KV (Ďf Ûk) vs/\ßf Ŵb a vs
inductive Yk(mg:Str->Æ Value):Á Str->Á Ç->Prop
 |nil:Yk mg [] []
 |ù {n:Str} {f:Ç} {ns:Á Str} {fs:Á Ç} (h:mg n=À ĕ) (r:Yk mg ns fs):Yk mg Ůk (f::fs)
theorem Yk.at_{c:Str->Æ Value}:∀{ns:Á Str}{fs:Á Ç},Yk c ns fs->(∀(i:Nat)(n:Str),ns[i]?=À n->∃f,fs[i]?=À f/\c n=À ĕ)/\Ŝ=ŧa
 |_,_,.nil=>⟨λi n h=>Åq,rfl⟩|_,_,.cons h r=>by
  obtain⟨a,b⟩:=r.at_;refine⟨λi n e=>?_,by rw[Ă,Ă,b]⟩;cases i with
  |áa=>cases e;exact⟨_,rfl,h⟩|âa i=>exact a i n îb
theorem dh:∀{fs:Á Ç},zf Ûk ęr
 | []=>.nil|_::_=>.cons rfl dh
def n5{K:Î}{d:Str->Æ Value}{w:Þ}{a:Ç}{es:Á ñd}{n:Nat}{xs ns:Á Str}{fs:Á Ç}(l:Ça a=À { cls:=.type Üa,ü:=.dict es.toArray n })(e:gA w es xs ęr)(k:xs.Nodup)(i:Ŝa=Ä)(m:Yk d ns fs) :ZM K w d a ŗq ns:=by
 have c:(šc āc:Á zR).length=(Ûk).length:=by rw[é,e.len,é,é]
 obtain⟨j,g⟩:=m.at_;refine⟨fs,i,by rw[c,é],j,g,λP h o=>⟨_,so dh c,?_⟩⟩;obtain⟨p,q⟩:=e.pairs (P:=P);refine⟨_,_,_,o _ _ l,⟨rfl,rfl,rfl⟩,rfl,λe f=>q e Ëg,p,?_⟩;rw[eM (by rw[é];exact e.len)];exact ào _ (λa b h z=>h (īj z)) k
section
variable{X:Cx}
def mz{A:Ç}{ks:Á zR}{ns:Á Str}(g:ZM X.K X.w ó A ks ns):ym X Êf (λx y H Q=>y=.ref A/\∃k,x=kV k/\Q Ųo H):=by intro l s σ H x y v u Q I d e h;obtain⟨rfl,k,rfl,q⟩:=h;cases e;obtain⟨m,a,c,_,_,f⟩:=g;obtain⟨j,b,i⟩:=f ö Ü ū;refine ßq (kU d) a i.mapOf ?_;rw[<-(b.val k).JK,Xs k Ģn,De k Ģn];exact⟨.bl _,H,ßa _,rfl,q⟩
def y0p{A:Ç}{ks:Á zR}{ns:Á Str}{x:Str}{p pos:Pos}{a:Ñ}{e:FE}(h:vF ó x ãh)(g:ZM X.K X.w ó A ks ns)(s:Gl X x)(t:SE X a e)(i:Ê ĺ q10)(f:Ê (İc .In Šd=Ä) q12) :ST X (.Compare a [.In] [.Name x p] pos) (tE (e1 (Yz ks) e)):=by obtain⟨C,l,r⟩:=t.h;refine⟨⟨_,Cd (mz g) l (Iv h s i) f,λ{F B G H τ σ d Q} E c q=>?_⟩⟩;obtain⟨z,b,c⟩:=zD c;obtain⟨y,o,b⟩:=zD b;obtain⟨k,j,b⟩:=zD b;cases b;cases c;exact r E o λu v I n m=>⟨rfl,k,kW j m,_,rfl,q _ _ n⟩
def m_{A:Ç}{ks:Á zR}{ns:Á Str}(g:ZM X.K X.w ó A ks ns):qu X (λx y H Q=>x=.ref A/\∃k n,y=kV k/\ą ks ns k=À n/\∀f,ó n=À ĕ->Q ĕ H):=by
 intro l m U s σ H x y v u Q I O G h S;obtain⟨rfl,k,n,rfl,N,q⟩:=h;cases O;obtain⟨a,C,L,b,W,Z⟩:=g;obtain⟨E,d,B⟩:=Z ö Ü ū
 have j:∀{ks:Á zR}{ns:Á Str}{a:Á Ç},(∀(i:Nat)(n:Str),ns[i]?=À n->∃f,a[i]?=À f/\ó n=À ĕ)->ą ks ns k=À n->∃f,ą ks (òe Ųa) k=À ĕ/\ó n=À ĕ:=λ{ks}=>by
  induction ks with
  |nil=>intro ns a _ e;cases e|ù k' ks ih=>
   intro ns a b e;cases ns with
   |nil=>cases e|ù n' ns=>
    obtain⟨f0,t,J⟩:=b 0 n' rfl;cases a with
    |nil=>cases t|ù f1 a=>cases t;unfold ą at e;rw[Ŗ];unfold ą;by_cases c:k'=k;rw[Ë c]at e ⊢;cases e;exact⟨_,rfl,J⟩;rw[Ï c]at e ⊢;exact ih (λi n h=>b ï n ĩa) e
 obtain⟨f,T,R⟩:=j b N;obtain⟨z,P,p⟩:=ķg (v:=Ųa f) (o:=Řc E k) (by rw[<-T,<-Xs k (by rw[é];exact L)];exact d.val k)
 exact ŀf (x:=z) B.typeIs îm
  (Ćo (Q:=λr Y=>r=z/\EP X U σ Q r Y) (kU G) B.mapOf P ⟨rfl,_,H,ßa _,p,q f R⟩) S
inductive vM(X:Cx)(j:Nat):Á Str->Á FM->Prop
 |nil:vM X j [] []
 |ù {n:Str} {ps:Á Str} {k:Nat} {F:FM} {ns:Á Str} {Fs:Á FM} (h:wW ö X.w X.K ó Ō n ps k ńc) (hk:k<=j) (r:vM X j ns Fs):vM X j Ůk (F::Fs)
theorem vM.get{X:Cx}{j:Nat}{k:zR}{F:FM}:∀{ks:Á zR}{ns:Á Str}{Fs:Á FM},vM X j ns Fs->ą ks Fs k=À F->∃n ps i,ą ks ns k=À n/\i<=j/\wW ö X.w X.K ó Ō n ps i ńc
 | [],_,_,_,e=>by cases e|_::_,_,_,.nil,e=>by cases e|k'::ks,_,_,.cons (n:=n) (ps:=ps) (k:=i) h hk r,e=>by unfold ą at e;by_cases c:k'=k;rw[Ë c]at e;cases e;exact⟨n,ps,i,by unfold ą;rw[Ë c],hk,h⟩;rw[Ï c]at e;obtain⟨g,a,f,b,d⟩:=ßb e;exact⟨g,a,f,by unfold ą;rw[Ï c];exact b,d⟩
def Jm(ks:Á zR)(c:Á FM)(b:FE)(a:uD):xm:=λβ=>(b Čh).bind λx=>(ěf).bind λk=>(ą ks c k).bind λF=>tz F a β
def z0k{A:Ç}{ks:Á zR}{ns:Á Str}{C:Á FM}{x:Str}{p o pos:Pos}{k e:Ñ}{es:Á Ñ}{L:FE}{B:uD}{j:Nat}(h:vF ó x ãh)(g:ZM X.K X.w ó A ks ns)(hg:Gl X x)(D:vM X j ns C)(hr:yX j X.A)(hk:SE X k L)(ha:MA X ď B)(hs:Ê Ņg q12)(R:Ê ĺ q10)(he:Ê Īa q12)(t:Ê (Ę ſl Ö=(do ÿd pos (<-Ę (.Subscript Šd k o) Ö) [] Ág źc)) q12):MC X ſl (Jm ks C L B):=by
 obtain⟨tk,Y,kk⟩:=ġd;obtain⟨ta,pa,ka⟩:=ha.h;refine⟨⟨_,z4v hr (Iw (m_ g) (Iv h hg R) Y (I_ hs)) pa he t,λ{P G0 H0 G H β β' σ m Q} E a q=>?_⟩⟩;obtain⟨y,hy,a⟩:=zD a;obtain⟨r,l,a⟩:=zD a;obtain⟨F,hF,a⟩:=zD a;obtain⟨as,z,a⟩:=zD a;obtain⟨n,N,i,hn,Z,⟨f,fd,O,kp,b,FF⟩⟩:=D.get hF;obtain⟨G1,U,c⟩:=E.qM;refine kk U hy λu G2 H2 T S=>?_
 obtain⟨G3,W,J,_⟩:=c _ _ T;refine⟨rfl,r,n,kW l S,hn,λf' d=>?_⟩;rw[O]at d;cases d;refine⟨f,fd,N,i,_,rfl,Z,kp,b,FF,ka J z λvs G4 H4 I ra=>?_⟩;rw[ëa];exact(J.go I).call ra a λv G' H' s K'=>q v G' H' (W.g.trans (I.g.trans s)) K'
omit a
def xM(a:Á Str)(f:Str):D->Æ D
 |.obj x fs vs=>if x∈a then Āa fs vs f else Ã|_=>Ã
theorem þr{K:Î}{G:Hp}{κ:Type}[Ťb κ]{k:κ}{d:D}:∀{ks:Á κ}{ds:Á D}{vs:Á V},ã K G ds vs->ŋk ks ds k=À d->∃v,ŋk ks vs k=À v/\zS K G d v
 | [],_,_,_,e=>by cases e|_::_,[],_,_,e=>by cases e|k'::ks,d'::ds,vs,r,e=>by obtain⟨v,f,rfl,a,b⟩:=r;unfold ŋk at e ⊢;by_cases c:k'=k;rw[Ë c]at e ⊢;cases e;exact⟨v,rfl,a⟩;rw[Ï c]at e ⊢;exact þr b e
noncomputable def xW(c m:Str)(a:FE)(fs:FA):FA:=λτ=>(ĳh).bind λo=>match o with
 |.obj x fl _=>match decide (x=c)&&!(decide (m∈fl))with
  |Â=>(fs τ).bind λb=>À (o::b)|Ä=>Ã
 |_=>Ã
section
variable{X:Cx}{e o:Ñ}{f m c:Str}{cs:Á Str}{fe fo:FE}{pos Ìa:Pos}{ps:Á Str}{j k:Nat}{FF:Á D->Æ ì}
def wb(h:SE X e fe)(k:wx X.K cs f)(g:Ê ķm q12):SE X żf (e1 (xM cs f) fe):=by
 obtain⟨t,p,i⟩:=h.h;refine⟨⟨_,aL p g,λ{O N G H τ σ d Q} E b q=>?_⟩⟩;obtain⟨y,s,b⟩:=zD b;refine i E s λv L P c B=>?_
 unfold xM at b
 split at b;rename_i x J F;by_cases hx:x∈cs;rw[Ë hx]at b;obtain⟨a,C,w,I,rfl,m,A,l,n⟩:=B;obtain⟨u,j,z⟩:=n.getA b;obtain⟨o,r⟩:=k x hx C m;exact⟨a,C,w,_,u,rfl,Ĥd _ _ A,o,r,by rw[IX];exact j,q _ _ _ c z⟩;rw[Ï hx]at b;cases b;cases b
def z97{f e G H:Hp}{τ:zy}{σ:St}{ds:Á D}{Q:VK}{C:Ç}{t:TA}{o:TE}{sp:Sp}{fs:FA}(j:ş X.K ă c=À îa)(B:∀{f e G H:Hp}{τ:zy}{σ:St}{d:D}{Q:VK},yA X.K ò f e G H τ σ->fo τ=À d->(∀v G' H',zO G H G' H'->zS X.K G' d v->Q v H')->o σ H Q)(z:∀{f e G H:Hp}{τ:zy}{σ:St}{ds:Á D}{Q:Á V->Hp->Prop},yA X.K ò f e G H τ σ->fs τ=À ds->(∀vs G' H',zO G H G' H'->ã X.K G' ds vs->Q vs H')->t σ H Q)(E:yA X.K ò f e G H τ σ)(b:xW c m fo fs τ=À ds)(q:∀vs G' H',zO G H G' H'->ã X.K G' ds vs->sp vs H' Q E0):HB C m sp [] E0 o t σ H Q:=by
 obtain⟨y,u,b⟩:=zD b
 split at b;rename_i x A vs
 split at b;rename_i h;rw[ć]at h;cases ŵ h.1
 have r:m ∉ A:=by have:=h.2;simpa using this
 obtain⟨F,J,b⟩:=zD b;cases b;refine B E u λv U S i n=>?_
 obtain⟨a,L,w,R,rfl,p,I,l,O⟩:=id n;rw[j]at p;cases p;refine⟨a,w,_,rfl,i.gh _ _ I,Fz r,z (Đa i) J λvs P T k s=>?_⟩;rw[ëa];exact q _ _ _ (Ýf k) ⟨_,vs,rfl,Ël k.g,s⟩;cases b;cases b
def y0b{G H:Hp}{ds:Á D}{vs:Á V}{Q:VK}{b a:Hp}{d:D}{o:Í}{E:XK}(x:zO b a G H)(r:ã X.K G ds vs)(h:FF ds=À (o,d))(q:∀v G' H',zO b a G' H'->zS X.K G' d v->Q v H'):vm X.K FF vs H Q E:=by
 refine⟨G,ds,o,d,Ãc,r,h,?_⟩;cases o with
 |Ä=>exact λv G' H' c r=>q v G' H' (Ôe c) r|Â=>intro p G' H' c g e o;obtain⟨u,f,r⟩:=o.wU e;exact q _ _ _ (Ôe (c.wU g e f)) r
def qf{pl:Sem Í}(h:jY ö X.w X.K ó Ō c m ps k Ūe)(v:yX j X.A)(B:SE X o fo)(hk:Ê Àc q10)(J:Ę Ĩd Ö=(do
   let ov <-Ę o Ö
   standAt Ťe
   let (f,first) <-holding [ov] įe
   ÿd pos f first Ħi źc):=by rfl):SE X Ĩd (ze FF (xW c m fo zH)):=by
 obtain⟨C,f,U,p,I,l,b,F⟩:=h;obtain⟨P,u,i⟩:=B.h;refine⟨⟨_,aP u I l F (v.mono hk) b .nil Zv J,λ{N L G H τ σ d Q} E a q=>?_⟩⟩;obtain⟨y,g,a⟩:=zD a;obtain⟨⟨W,R⟩,n,a⟩:=zD a;cases a;exact z97 (t:=Xl) p i (λ{N L G H τ σ y Q} z e s=>by cases e;exact s _ _ _ (śa z.ext.gh) rfl) E g λO S T x r=>y0b x r n q
omit a
def S_(a:Nat)(i:Nat)(π:Á xV)(c:FE)(d:xm):yQ:=λβ=>(d β).bind λr=>(Ìe).bind λy=>match y with
 |.tup [d1,d2]=>(pH Ôi i π).bind λb=>match b with
  |.own ük=>(c (tP Ôi)).bind λx=>match x with
   |.int j=>(ľj).bind λn=>(ŀb Ôi i π (η (Ïl n d2))).bind λβ2=>À ŋc|_=>Ã
  |_=>Ã
 |_=>Ã
open Ďb
def l7{X:Cx}:vA X Ŀc (λxs H Q=>∃a kvs,xs=Ôa/\Rd H a ùa/\∀p,H p=Ã->Q ŝ (zX H p ùa)):=by
 intro y s σ H xs z Q I r h;obtain⟨a,kvs,rfl,e,q⟩:=h;obtain⟨u,rfl,w⟩:=u_ r;cases(show u=Đ a from w);obtain⟨k,d,m,c,x⟩:=kO ĝ e;have g:Èe=ŗ:=So c;refine kt_call_dict d x (by rw[g];exact k) λt l n=>?_
 have i:Şq=Ä:=by have:=I.big;rw[ķn];exact y_ Śq
 have v:∀b o,ð b=À o->t.get? b=À o:=λb o j=>by have f:=Č j;exact(n.2 b Űp).trans (ċ _ j)
 exact⟨.ref Õ,_,Úb (a:=Õ) (o:=.dK kvs) (t':=Ĉ) v Ċ (D7 k i c l),rfl,q _ Ĉd⟩
noncomputable def Jy:Á D->Æ D
 | [.dic ks ds]=>À Óq|_=>Ã
def z9h{X:Cx}{e:Ñ}{fs:FA}{p pos:Pos}(r:Gl X Üa)(i:ó Üa=Ã)(hv:ŧ Üa=À Ŀc)(w:SA X [e] fs)(n:Ê Ća q12):SF X ľn (eL Jy fs):=by
 obtain⟨t,o,k⟩:=w.h;refine⟨⟨_,(XU l7 r i hv ⟨o⟩ Ð Ð (by rw[ţ,n];rfl)).h,λ{F C G H τ σ d Q} E b q=>?_⟩⟩;obtain⟨z,x,b⟩:=zD b;refine k E x λB J I c s=>?_
 unfold Jy at b
 split at b;rename_i y A;cases b;obtain⟨v,rfl,a,j,rfl,m,u,g,l⟩:=qc s;refine⟨a,_,rfl,ŗc Ĥd m,λp f=>?_⟩;exact q p _ _ (ĸb (ļa Ĥd f)) (ēk f) (úr f) ⟨j,yk,u,g,l⟩;cases b
omit L3
namespace L3
def y6d:=
 Ò yT.eq_1<|Ò tM.eq_1<|Ò tN.eq_1<|Ò qW.eq_1<|Ò tL.eq_1<|Ò uF.eq_1<|Ò xQ.eq_1<|Ò tu.eq_1<|Ò ZZ.eq_1<|Ò R0.eq_1<|Ò P_.eq_1 <|
 Ò tQ.eq_1<|Ò dN.eq_1<|Ò dM.eq_1<|Ò Qe.eq_1<|Ò Qf.eq_1<|Ò T4.eq_1<|Ò Pz.eq_1<|Ò q_.eq_def<|Ò pH.eq_1<|Ò putAt.eq_1 <|
 Ò tq.eq_1<|Ò qG.eq_1<|Ò jd.eq_1<|Ò ír<|Ò tP.eq_1<|Ò wG.eq_1<|Ò wG.eq_2<|Ò wG.eq_3<|Ò wG.eq_4<|Ò thaws.eq_1<|Ò thaws.eq_2 <|
 Ò wS.eq_1<|Ò wS.eq_2<|Ò wS.eq_3<|Ò wS.eq_4<|Ò wS.eq_5<|Ò tplDs.eq_1<|Ò tplDs.eq_2<|Ò Ij.eq_def<|Ò pF.eq_1<|Ò Zo.eq_1<|Ò qC.eq_1<|Ò S_.eq_1<|Ò Zn.eq_1<|Ò tK.eq_1<|Ò tK.eq_2 <|
 Ò wq.eq_1<|Ò Yq.eq_1<|Ò wp.eq_1<|Ò PH.eq_1<|Ò qR.eq_1<|Ò jZ.eq_1<|Ò jM.eq_1<|Ò jM.eq_2<|Ò jM.eq_3<|Ò kN.eq_1<|Ò kN.eq_2<|Ò kN.eq_3<|Ò tI.eq_1<|Ò jb.eq_1<|Ò tz.eq_1<|Ò Jn.eq_1<|Ò Jm.eq_1 <|
 Ò qz.eq_1<|Ò qz.eq_2<|Ò Zc.eq_1<|Ò Zc.eq_2<|Ò wN.eq_1<|Ò DS.eq_1<|Ò T7.eq_1<|Ò V3.eq_1<|Ò R1.eq_1<|Ò Yt.eq_1 <|
 Ò je.eq_1<|Ò XA.eq_1<|Ò @Option.map_some.{0,0} <| Ò @Option.map_none.{0,0} <| Ò @List.take_succ_cons.{0} @List.take_zero.{0}
open ľ Ŕ ň L2
def fldk_nil{K:Î}{f:Str}:wx K [] f:=λx a=>Û a ê
def fldk_cons{K:Î}{f c:Str}{C:Ç}{d:Á Str}(ns:ş K ă c=À îa)(g:tD K C)(h:ġa K ĩ f=À Ã)(r:wx K d f):wx K (c::d) f:=λx b e a=>by rcases ę b with rfl|b;rw[ns]at a;cases a;exact⟨g,h⟩;exact r x b e a
def DO:Á D->Æ D
 | [.lst xs]=>(Żk).bind λa=>match a.all Ől&&decide (Ġa<=1000)with
  |Â=>À (.int a.sum)|Ä=>Ã
 |_=>Ã
theorem cy:∀{ns:Á Int},(∀n∈ns,0<=n/\n<1099511627776)->0<=Êl/\Êl<=1099511627776*(Ŝ:Int)
 | [],_=>⟨Èb _,by decide⟩|n::ns,h=>by
  obtain⟨a,b⟩:=cy λm e=>h m (Àa _ e)
  obtain⟨c,d⟩:=h n ĵ;rw[ąg,Ă]
  constructor;omega;push_cast
  omega
def z3n{K:Î}:Up K (bT K) DO:=λG H j u d Q s r b q=>by
 match j,b with
 | [.lst xs],b=>
  obtain⟨ns,o,b⟩:=zD (show(Żk).bind _=À d from b);cases c:(ns.all Ől&&decide (Ŝ<=1000))with
  |Ä=>rw[c]at b;cases b|Â=>
   rw[c]at b;cases b;rw[ć]at c;have x:=ŵ c.2
   have g:∀n∈ns,0<=n/\n<1099511627776:=λn e=>by have:=Ĕa c.1 n e;rw[ć]at this;exact⟨ŵ this.1,ŵ this.2⟩
   obtain⟨v,rfl,a,w,rfl,f,h,l⟩:=qc r;rw[SU o h]at f;refine⟨a,ns,rfl,.inl f,⟨λn e=>?_,λk p=>?_⟩,q _ _ _ ûa rfl⟩;have:=g n e
   constructor<;>omega;have:=cy (ns:=ns.take k) λn e=>g n (ģe e)
   have m:(Įg).length<=1000:=by rw[ĕa];omega
   have t:((Įg).length:Int)<=1000:=by exact_mod_cast m
   constructor<;>omega
section
variable{X:Cx}{x c:Str}{p pos:Pos}{e:Ñ}{es:Á Ñ}{f:FE}{F:D->D->Æ D}
def MX(P:æ)(w:Þ)(K:Î)(b:Str->Æ Value)(a:Heap)(c:Str)(ps:Á Str)(k:Nat)(sp:Sp)(d:Á D):Prop:=
 ∃(C f:Ç) (fd:Ĳ) (ds:Á Value) (dvs:Á V),ş K ă c=À îa/\b c=À ĩ/\Mk K C f/\vt K fd ps ds/\zf dvs ds/\(∀H,ã K H d dvs)/\yz P w K b a yq k f fd ps sp
def Jo(c:Str)(F:FM)(a:Á D)(f:uD):xm:=λβ=>(ĺa).bind λd=>(jM d).bind λb=>(F (.obj c [] []::tI (b++a))).bind λr=>match r.2 with
 |.fz .zK=>(ŕr).bind λm=>À (m,β)|_=>Ã
def A3{F:FM}{fa:uD}{ps:Á Str}{j k:Nat}{J:Á D}(h:MX ö X.w X.K ó Ō c ps k ńc J)(hr:yX j X.A)(hg:Gl X c)(ha:MA X ď fa)(hk:Ê (k+1<=j) q10)(N:Ê ōf q10)(Z:Ê Īa q12) :MC X Ėm (Jo c F J fa):=by
 obtain⟨C,f,fd,dss,W,ns,R,mk,b,U,S,FF⟩:=h;obtain⟨t,pa,ka⟩:=ha.h;rw[ţ,ć]at Z;refine⟨⟨_,aO mk FF Ãq hg R b U Zv pa N (uR Z.1) (Z1 Z.2),λ{P G0 H0 G H β β' σ mr Q} E d q=>?_⟩⟩;obtain⟨as,has,d⟩:=zD d;obtain⟨ds,hds,d⟩:=zD d;obtain⟨⟨T,m'⟩,hF,d⟩:=zD d;refine ka E has λvs r m x1 ra y i s l ne=>?_
 have Y:=Đa x1;have rd:=ĭj (Ux hds ra) (S r)
 split at d;rename_i em
 change m'=.fz .zK at em
 subst em;obtain⟨m0,h0,d⟩:=zD d;cases d;have O:∀q,q≠y->q≠i->zX îo y Ōp q=m q:=λq z w=>by rw[yP z,yP w]
 have gy:r y=Ã:=Y.ext.gh.free s
 have s2:zo r ľf:=λq o z=>by have n:=Y.ext.gh _ _ z;rw[O q (λc=>by subst c;rw[s]at n;cases n) Ým];exact n
 refine⟨r,.obj c [] []::tI (ds++J),λq=>q=y,T,.fz .zK,s2,⟨_,vs++W,λq=>q=y,λ_=>î,rfl,⟨y,C,i,[],λ_=>î,rfl,ns,yk,rfl,⟨rfl,λ_ z=>z⟩,λz=>z,λq=>⟨.inl,λz=>ł id öa⟩⟩,VP rd,λ_ _ z=>z,λq=>⟨.inl,λz=>ł id öa⟩⟩,λq z=>z▸gy,hF,λv G' H' L' B o hN=>?_⟩;obtain⟨v',r',La,Lb,e2,oa,ob,dj,u⟩:=o;cases e2;refine⟨oa.1,?_⟩;obtain⟨L2,o2,s2'⟩:=Iu (v1:=.ref y) ob h0 rfl
 have cn:∀q,cut ľf şq q=Ã->m q=Ã:=λq z=>by rcases D2 z with z|z;exact z▸s;by_cases x:q=y;exact x▸s;by_cases I:q=i;exact I▸l;rw[O q x I]at z;exact z
 have x3:zO r m G' H':=⟨B.g,λq o z=>B.h _ _ (by
  have x:q≠y:=λc=>by subst c;rw[s]at z;cases z
  have I:q≠i:=λc=>by subst c;rw[l]at z;cases z
  rw[gJ (L:=λq=>q=y) x,O q x I];exact z),B.gh,λq z=>by
  rcases B.new q z with w|w;exact .inl w;exact .inr (cn q w)⟩
 exact q _ G' H' (ľq x3.g) (Y.Lm x3 o2 λq z=>by obtain⟨a,b⟩:=hN q (ε (s2' q z));exact⟨a,cn q b⟩);cases d
omit a
open Ďb
section
variable{P:æ}{w:Þ}{K:Î}{mg:Str->Æ Value}{È:Heap}
def z02{x:Str}{st:Ù}{N:Á Str}{k:Nat}{F:FM}{b:yQ}{f:Ç}{i:Ĳ}(d:Fun K Ēb Ēb st f i)(S:zm N [x] ı)(j:1<=Ĺ)(u:∀ms r,F ms=À r->Ĉa=1/\wN 1 Ĺ b ms=À r)(e:∀ns:Á Int,Ŝ<=63->(∀m∈ns,wy m<=1048576)->∃r,F âg=À (r,.fz ĸ))(o:∀(g:Value)(A:ñ)(þ:Á Env)(s:É)(H:Hp)(E:XK),yX k (İb (Ąb Ēb ı Õ f g))->qP (uo yq P w K mg È N Ēb ı f g A þ s H E).t9 1 Ûa b):yz P w K mg È yq Ų f i [x] ól:=
 (d.v.UJ (F:=F) S j u o).imp λB H Q E h=>by obtain⟨a,ns,rfl,n,l,c,q⟩:=h;obtain⟨r,y⟩:=e ns l c;have p:ã K H Ŧj Ôa:=⟨_,_,rfl,⟨a,_,rfl,n,Ãf,by rw[é];exact Þb Å⟩,rfl⟩;refine y0a ⟨H,_,Ä,.bl Â,ūa H,p,?_,λv C t _ z=>?_⟩;show(F (tI Ŧj)).bind _=_;rw[show tI Ŧj=âg from rfl,y];rfl;cases(show v=.bl Â from z);exact q t
omit a
omit L3
namespace L3
open ľ Ŕ ň L2
def zT(K:Î)(x:Str)(st:Ù):Prop:=
 ∃(f:Ç) (od an:Æ Ç) (sl:Ô ţa) (oc kV dc pm cd ct:Value),ş K ă x=À ũa/\Ça f=IA x st oc od sl kV dc pm an cd ct/\ĵb K cd x=Â/\Øa K ĕ=Â
section
variable{K:Î}{mg:Str->Æ Value}{h:Heap}{x p0 p1 p2 p3 p4:Str}{st:Ù}{ps:Á Str}
def fnp_mk{f:Ç}{i e:Æ Ç}{g:Ô ţa}{j kV h d b ct:Value}(a:ş K ă x=À ũa)(l:Ça f=IA x st j i g kV h d e b ct)(c:ĵb K b x=Â)(k:Øa K ĕ=Â):zT K x st:=⟨_,_,_,_,_,_,_,_,_,_,a,l,c,k⟩
def zT.d(a:zT K x st)(X:š h)(G:đa ă mg)(b:∀(kV e i:Value)(j:Æ Ç)(g ct:Value)(us:Á Value),ća=Ē->Éh (ċb x x ůb Ûa ı .none kV e i j g ct) ⟨us,[]⟩=pure æd):Def K mg x st ps:=by obtain⟨f,n,j,p,o,kV,m,i,q,ct,a,l,c,k⟩:=a;have F:=Rt (st:=st) l c k;exact⟨_,_,F,řc X G a,F.binds b⟩
abbrev BA(x:Str)(st:Ù)(us:Á Value)(ps:Á Str):Prop:=∀(kV doc pm:Value)(an:Æ Ç)(cdv ct:Value),Éh (ċb x x ůb Ûa ı .none kV doc pm an cdv ct) ⟨us,[]⟩=pure æd
def zT.d0(a:zT K x st)(X:š h)(G:đa ă mg)(b:Ê (BA x st [] []) q15):Def K mg x st []:=a.d X G λ_ _ _ _ _ _=>dZ (b _ _ _ _ _ _)
def zT.d1(a:zT K x st)(X:š h)(G:đa ă mg)(b:Ê (∀u,BA x st [u] [p0]) q15):Def K mg x st [p0]:=a.d X G λ_ _ _ _ _ _=>us1 λu=>b u _ _ _ _ _ _
def zT.d2(a:zT K x st)(X:š h)(G:đa ă mg)(b:Ê (∀u v,BA x st [u,v] [p0,p1]) q15):Def K mg x st [p0,p1]:=a.d X G λ_ _ _ _ _ _=>us2 λu v=>b u v _ _ _ _ _ _
def zT.d3(a:zT K x st)(X:š h)(G:đa ă mg)(b:Ê (∀u v y,BA x st [u,v,y] ŕq) q15):Def K mg x st ŕq:=a.d X G λ_ _ _ _ _ _=>us3 λu v y=>b u v y _ _ _ _ _ _
def zT.d4(a:zT K x st)(X:š h)(G:đa ă mg)(b:Ê (∀u v y z,BA x st [u,v,y,z] œe) q15):Def K mg x st œe:=a.d X G λ_ _ _ _ _ _=>us4 λu v y z=>b u v y z _ _ _ _ _ _
def zT.d5(a:zT K x st)(X:š h)(G:đa ă mg)(b:Ê (∀u v y z q,BA x st [u,v,y,z,q] Ęo) q15):Def K mg x st Ęo:=a.d X G λ_ _ _ _ _ _=>us5 λu v y z q=>b u v y z q _ _ _ _ _ _
def _root_.L2.Def.oS(d:Def K mg x st ps)(P:æ)(w:Þ)(a:Heap)(k:Nat)(F:Á D->Æ ì)(S:zm N ps ı)(h:∀ds r,F ds=À r->ú=Ē/\yS Ĺ b ds=À r)(g:∀{f:Ç}{c:Value}{A:ñ}{þ:Á Env}{s:É}{H:Hp}{E:XK},yX k Ýi->tF (Ŧl).t9 Ûa b)(e:Ê ŀg q10):wW P w K mg a x ps Ų ìf:=Def.fm d S e h λ_ _ _ _ _ _ _ i=>g i
def _root_.L2.Def.oM(d:Def K mg x st ps)(P:æ)(w:Þ)(a:Heap)(k:Nat)(F:FM)(S:zm N ps ı)(h:∀ms r,F ms=À r->Ĉa=Ē/\wN Ē Ĺ b ms=À r)(g:∀{f:Ç}{c:Value}{A:ñ}{þ:Á Env}{s:É}{H:Hp}{E:XK},yX k Ýi->qP (Ŧl).t9 Ē Ûa b)(e:Ê ŀg q10):wW P w K mg a x ps Ų Ôh:=Def.UJ d S e h λ_ _ _ _ _ _ _ i=>g i
def wj.oM(d:wj K x q st f fd)(P:æ)(w:Þ)(mg:Str->Æ Value)(a:Heap)(k:Nat)(F:FM)(S:zm N ps ı)(h:∀ms r,F ms=À r->Ĉa=Ē/\wN Ē Ĺ b ms=À r)(g:∀{c:Value}{A:ñ}{þ:Á Env}{s:É}{H:Hp}{E:XK},yX k ōm->qP (ŧl).t9 Ē Ûa b)(e:Ê ŀg q10):yz P w K mg a yq Ų f fd ps Ôh:=d.UJ S e h λ_ _ _ _ _ _ i=>g i
def wj.oF(d:wj K x q st f fd)(P:æ)(w:Þ)(mg:Str->Æ Value)(a:Heap)(k:Nat)(F:Á D->Æ ì)(S:zm N ps ı)(h:∀ds r,F ds=À r->ú=Ē/\yS Ĺ b ds=À r)(g:∀{c:Value}{A:ñ}{þ:Á Env}{s:É}{H:Hp}{E:XK},yX k ōm->tF (ŧl).t9 Ûa b)(e:Ê ŀg q10):yz P w K mg a yq Ų f fd ps ìf:=d.fj S e h λ_ _ _ _ _ _ i=>g i
omit a
omit L3
namespace L2
open ľ Ŕ Ďb ň
noncomputable def w8(p:Ø):Int:=numOf p.1
def yN(p q:Ø):Prop:=w8 p<=w8 q
def Xf(p:Ø):Prop:=∃n t,p.1=.int n t
def vd(x:Ô Ø):Prop:=∀(i:Nat) p,x[i]?=À p->Xf p
noncomputable def X4:Í->Ø->Ô Ø->Nat->Nat->Nat->Ł õ Sem ôd:=sortPriv% PySem.Builtin.gallop
noncomputable def A7:Ô Ø->Ô Ø->Ł õ Sem ŉc:=sortPriv% PySem.Builtin.mergeLo
noncomputable def A6:Ô Ø->Ô Ø->Ł õ Sem ŉc:=sortPriv% PySem.Builtin.mergeHi
section
variable{ø:æ}{w:Þ}{A:ñ}{E:Value->É->Prop}{s:É}
def ve{x:Ô Ø}{i:Nat}{p:Ø}{st:õ}{Q}(h:x[i]?=À p)(q:Q p st):wpS à A E s (ďa x i) Q st:=by rw[elem'_eq,h];exact ô q
def w_lt{p q:Ø}{st:õ}{Q:Æ Í->õ->Prop}(hk:ěh st=Ûf)(c:Xf p)(d:Xf q)(h:Q (À (decide (w8 p<w8 q))) st):wpS à A E s (lt' p q) Q st:=by obtain⟨⟨a,t,e⟩,⟨b,u,f⟩⟩:=Ò c d;rw[lt'_eq];refine å èf;unfold w8 at h;rw[hk,keyLt'_oneType,e,f];rw[e,f]at h;exact å (ân (žf (oneLt_int ⟨rfl,ô h⟩)))
def Gg(B:Nat->Í)(n hi:Nat):Prop:=hi<=n/\(∀i,i<hi->B i=Â)/\∀i,hi<=i->i<n->B i=Ä
noncomputable def jG(left:Í)(k:Int)(f:Nat->Int)(i:Nat):Í:=if left then decide (f i<k)else !decide (k<f i)
def y57{left:Í}{a x:Ø}{st:õ}{Q:Æ Í->õ->Prop}(hk:ěh st=Ûf)(c:Xf a)(b:Xf x)(h:Q (À (jG left (w8 a) (λ_=>w8 x) 0)) st) :wpS à A E s (if left=Â then lt' x a else do let y <-lt' a x;pure Ũm) Q st:=by
 cases left with
 |Â=>exact w_lt hk b c h|Ä=>exact å (w_lt hk c b (ô h))
def Oi{β:Type}{n:Nat}{c:β}{f:Nat->β->Ł õ Sem (úb β)}{st:õ}{Q R:β->õ->Prop}(I:Nat->β->Prop)(h:I 0 c)(e:∀i c,i<n->I i c->wpS à A E s (f i c) (λr st'=>match r with|.done c'=>Q c' st'|.yield c'=>st'=st/\I ï c') st)(d:∀c,I n c->Q c st)(b:∀c st',Q c st'->R c st'):wpS à A E s Îp R st:=by refine ĉe (Ğc (I:=λi c st'=>st'=st/\I i c) (Q:=Q) ?_ ?_ ⟨rfl,h⟩) b;rintro i c _ _ a ⟨rfl,h⟩;exact e i c a h;rintro c _ ⟨rfl,h⟩;rw[ăj]at h;exact d c h
def dm{B:Nat->Í}{n lo hi:Nat}{st:õ}{f:Nat->Æ ôd×Nat×Nat->Ł õ Sem (úb (Æ ôd×Nat×Nat))}{R:Æ ôd×Nat×Nat->õ->Prop}(a:∀i j,i<=j->j<n->B j=Â->B i=Â)(y:lo<=hi)(v:hi<=n)(C:∀i,i<lo->B i=Â)(F:∀i,hi<=i->i<n->B i=Ä)(f1:∀x l r Q,r<=l->Q (.done (Ã,l,r)) st->wpS à A E s Ŝo Q st)(f2:∀x l r Q,l<r->r<=n->(B įg=Â->Q (.yield (Ã,l+(r-l)/2+1,r)) st)->(B įg=Ä->Q (.yield (Ã,l,l+(r-l)/2)) st)->wpS à A E s Ŝo Q st)(q:∀m,Gg B n m->R (Ã,m,m) st):wpS à A E s (Łb [:n] (Ã,lo,hi) f) R st:=by refine Oi (Q:=λc t=>t=st/\∃m,c=(Ã,m,m)/\Gg B n m) (λx c=>∃l r,c=(Ã,l,r)/\l<=r/\r<=n/\r+x<=n+l/\(∀i,i<l->B i=Â)/\∀i,r<=i->i<n->B i=Ä) ⟨lo,hi,rfl,y,v,Æp v Ąc,C,F⟩ ?_ ?_ ?_;rintro x _ H ⟨l,r,rfl,k,b,G,d,h⟩;by_cases c:r<=l;cases řd k c;exact f1 _ _ _ _ c ⟨rfl,l,rfl,b,d,h⟩;have u:=ïb l ((r-l)/2);have p:=ãn (Nat.div_lt_self (ĸi Żf) (żc 1));refine f2 _ _ _ _ Żf b ?_ ?_<;>(generalize l+(r-l)/2=m at u p ⊢;intro e);exact⟨rfl,_,r,rfl,p,b,by omega,λi o=>a i m (ŋd o) (ņ p b) e,h⟩;refine⟨rfl,l,_,rfl,u,by omega,by omega,d,λi o z=>?_⟩;cases e2:B i;rfl;rw[a _ i o z e2]at e;cases e;rintro _ ⟨l,r,rfl,k,b,G,d,h⟩;cases řd k Å;exact⟨rfl,l,rfl,b,d,h⟩;rintro _ _ ⟨rfl,m,rfl,g⟩;exact q m g
def y5a{left:Í}{f:Ø}{x:Ô Ø}{b n d:Nat}{st:õ}{Q:Æ Nat->õ->Prop}(hk:ěh st=Ûf)(T:Xf f)(I:vd x)(W:b+n<=üa)(G:d<n)(U:∀i j,i<=j->j<n->K x (b+i)<=K x (b+j))(h:∀hi,Gg ćm n hi->Q (À hi) st) :wpS à A E s (X4 left f x b n d) Q st:=by
 have H:∀i Q,i<n->Q (À (jG left Ěf ãg i)) st->wpS à A E s (ďa x (b+i) >>= λx=>if left=Â then lt' x f else do let y <-lt' f x;pure Ũm) Q st:=by
  intro i Q hi q;have e:x[b+i]?=À x[b+i]:=getElem?_pos _ _ Å;refine å (ve e (y57 hk T (I _ _ e) ?_));have e2:K x (b+i)=w8 x[b+i]:=by unfold K;rw[e];rfl
  have L:jG left Ěf (λ_=>w8 x[b+i]) 0=jG left Ěf ãg i:=by unfold jG;simp only[e2]
  rw[L];exact q
 have k:∀i j,i<=j->j<n->jG left Ěf ãg j=Â->jG left Ěf ãg i=Â:=by intro i j S R;have:=U i j S R;unfold jG;cases left;simp only[Œb,Õa,äo,decide_eq_false_iff_not];omega;simp only[ŋ,Ðg];omega
 generalize ćm=B at h H k;unfold X4;refine å (H d _ G ?_);cases e:B d;refine å (Oi (Q:=λc C=>C=st/\∃l o,c=(Ã,l,o)/\l<=d/\B (d-l)=Ä/\l<o/\∀i,i+o<=d->B i=Â) (λx c=>∃l o,c=(Ã,l,o)/\l<=d/\B (d-l)=Ä/\l<o/\x<o) ⟨0,1,rfl,Ãa _,e,êg,êg⟩ ?_ ?_ ?_);rintro x _ I ⟨l,o,rfl,p,t,u,F⟩;dsimp only
 split;exact ô ⟨rfl,l,o,rfl,p,t,u,λi _=>by omega⟩;have lo:=Ħc (Nat.sub_le d o) G;refine å ňp;cases e2:B (d-o);exact ô ⟨rfl,o,_,rfl,by omega,e2,by omega,by omega⟩;exact ô ⟨rfl,l,o,rfl,p,t,u,λi v=>k i _ (Nat.le_sub_of_add_le v) lo e2⟩;rintro _ ⟨l,o,rfl,p,t,u,F⟩;exact⟨rfl,l,o,rfl,p,t,u,λi _=>by omega⟩;rintro _ _ ⟨rfl,l,o,rfl,p,t,u,F⟩;refine å (dm (B:=B) (lo:=d+1-min o (d+1)) (hi:=d-l) k (ŏ (Nat.sub_le_sub_left (Źi ⟨u,ŕb p⟩) _) (śe (Nat.add_sub_add_right ..))) (ìa (Ħc Śi G)) (λi a=>F i (by have:=Nat.add_lt_of_lt_sub a;omega)) (λi v J=>?_) łn ŵm λm g=>ô (h m g));cases e2:B i;rfl;rw[k _ i v J e2]at t;cases t;dsimp only;rw[Ë c];exact ô q;dsimp only;rw[Ï Å];refine å ñp;cases e2:B įg;exact ô (N e2);exact ô (O e2);refine å (Oi (Q:=λc C=>C=st/\∃l o,c=(Ã,l,o)/\d+l<n/\B (d+l)=Â/\l<o/\∀i,d+o<=i->i<n->B i=Ä) (λx c=>∃l o,c=(Ã,l,o)/\d+l<n/\B (d+l)=Â/\l<o/\x<o) ⟨0,1,rfl,G,e,êg,êg⟩ ?_ ?_ ?_);rintro x _ I ⟨l,o,rfl,p,t,u,F⟩;dsimp only
 split;rename_i c
 replace c:=Nat.le_add_of_sub_le c
 exact ô ⟨rfl,l,o,rfl,p,t,u,λi _ _=>by omega⟩;rename_i c;have lo:=ãn Żf;refine å ňp;cases e2:B (d+o);exact ô ⟨rfl,l,o,rfl,p,t,u,λi v J=>by cases L:B i;rfl;rw[k _ i v J L]at e2;cases e2⟩;exact ô ⟨rfl,o,_,rfl,lo,e2,by omega,by omega⟩;rintro _ ⟨l,o,rfl,p,t,u,F⟩;exact⟨rfl,l,o,rfl,p,t,u,λi _ _=>by omega⟩;rintro _ _ ⟨rfl,l,o,rfl,p,t,u,F⟩;refine å (dm (B:=B) (lo:=d+l+1) (hi:=d+min o (n-d)) k (Nat.add_lt_add_left (Nat.lt_min.mpr ⟨u,Nat.lt_sub_of_add_lt (Ŝe .. ▸ p)⟩) _) (ŏ (ńd (Ďo ..) _) (Αb (ìa G))) (λi v=>k i (d+l) (ŋd v) p t) (λi a b=>?_) łn ŵm λm g=>ô (h m g));rcases Nat.le_total o (n-d)with z|z;rw[ņe z]at a;exact F i a b;rw[Nat.min_eq_right z,Nat.add_sub_cancel' (ìa G)]at a;exact Û b (Ōe a);dsimp only;rw[Ë c];exact ô q;dsimp only;rw[Ï Å];refine å ñp;cases e2:B įg;exact ô (N e2);exact ô (O e2)
omit a
structure uI(R:Ø->Ø->Prop)(t o x y:Á Ø):Prop where
 p:(o++ãl).Perm t
 sx:(o++x).Pairwise R
 sy:(o++y).Pairwise R
section
variable{R:Ø->Ø->Prop}{t o m x y:Á Ø}
def ìh(h:uI R t o x y):uI R t o y x:=⟨(ûi o List.perm_append_comm).trans h.p,h.sy,h.sx⟩
def íh(h:uI R t o (m++x) y)(c:∀p∈m,∀q∈y,R p q):uI R t (o++m) x y:=by obtain⟨p,a,b⟩:=h;refine⟨?_,?_,?_⟩;rw[Ś]at p ⊢;exact p;rw[Ś];exact a;rw[List.pairwise_append]at a b ⊢;refine⟨?_,b.2.1,λp e q d=>?_⟩;exact ėe ⟨a.1,(Ïc a.2.1).1,λp e q d=>a.2.2 p e q (žc _ d)⟩;rcases Ïa e with z|z;exact b.2.2 p z q d;exact c p z q d
def Ål(h:uI R t o x y)(c:∀p∈x,∀q∈y,R p q):(Řr).Perm t/\(Řr).Pairwise R:=by have:=(íh (m:=x) (x:=[]) (by rw[ëa];exact h) c);exact⟨by rw[Ś];exact h.p,this.sy⟩
omit a
def Üb{p q r:Ø}(a:yN p q)(b:yN q r):yN p r:=Ĕg a b
section
variable{ø:æ}{w:Þ}{A:ñ}{E:Value->É->Prop}{s:É}
def Vi{left:Í}{a:Ø}{x:Ô Ø}{b n d:Nat}{st:õ}{Q:Æ Nat->õ->Prop}(hk:ěh st=Ûf)(f:Xf a)(o:vd x)(q:b+n<=üa)(r:d<n){z:Á Ø}(m:(āp b).take n=z)(t:z.Pairwise yN)(h:∀k,k<=n->(∀p∈z.take k,if left then w8 p<w8 a else yN p a)->(∀p∈z.drop k,if left then yN a p else w8 a<w8 p)->Q (À k) st) :wpS à A E s (X4 left a x b n d) Q st:=by
 have v:ī=n:=by rw[<-m,ĕa,řa,Ģ];omega
 have g:∀i (l:i<ī),K x (b+i)=w8 z[i]:=by intro i l;subst m;have e:x[b+i]?=À x[b+i]:=getElem?_pos _ _ Å;unfold K;rw[e,ĺi,Ôg,ĝb];rfl
 refine y5a hk f o q r (λi j y u=>?_) λk c=>h k c.1 (λp f=>?_) λp f=>?_;rw[g i Å,g j Å];by_cases e:i=j;subst e;exact Èb _;exact ďe t i j _ _ Å;obtain⟨i,l,rfl⟩:=List.mem_take_iff_getElem.mp f;have:=c.2.1 i Å;simp only[jG,g i (show i<ī by omega)]at this;cases left;exact Ŵf ün;simpa using this;obtain⟨i,l,rfl⟩:=List.mem_drop_iff_getElem.mp f;have:=c.2.2 (k+i) Å Å;simp only[jG,g (k+i) Å]at this;simp only[Ŝe k i]at this ⊢;cases left;simpa using this;exact Ŵf ün
def pJ{β:Type}(Q I:β->Prop):úb β->Prop
 |.done c=>Q c|.yield c=>I c
abbrev yE(a:Ô Ø)(p:Ô ŝa)(f:Æ Value)(g:Nat):õ:=Łc Ûf a p g f
def Vh{β:Type}{n:Nat}{c:β}{f:Nat->β->Ł õ Sem (úb β)}{a p fl g}{R:β->õ->Prop}(I:Nat->β->Prop)(Q:β->Prop)(h:I 0 c)(j:∀i c g,i<n->I i c->wpS à A E s (f i c) (λr st'=>∃g',st'=yE a p fl g'/\pJ Q (I ï) r) áj)(e:∀c,I n c->Q c)(d:∀c g,Q c->R c áj):wpS à A E s Îp R áj:=by refine ĉe (Ğc (I:=λi c st'=>∃g,st'=yE a p fl g/\I i c) (Q:=λc st'=>∃g,st'=yE a p fl g/\Q c) ?_ ?_ ⟨g,rfl,h⟩) ?_;rintro i c _ _ b ⟨g,rfl,h⟩;refine ĉe (j i c g b h) ?_;rintro r _ ⟨g,rfl,h⟩;cases r<;>exact⟨g,rfl,h⟩;rintro c _ ⟨g,rfl,h⟩;rw[ăj]at h;exact⟨g,rfl,e c h⟩;rintro c _ ⟨g,rfl,h⟩;exact d c g h
omit a
def xh(t:Á Ø)(a b o:Ô Ø)(i j:Nat):Prop:=uI yN t Čk Ăh (ıc j)
def uB(t:Á Ø)(r:Ô Ø):Prop:=r.toList.Perm t/\r.toList.Pairwise yN
section
variable{t:Á Ø}{a b o:Ô Ø}{i j k:Nat}{p:Ø}
def D9(h:a[i]?=À p):ñb i=p::ñb ï:=by obtain⟨b,rfl⟩:=įd h;rw[ſc Ġn,ĝb]
theorem xh.swap(h:xh t a b o i j):xh t b a o j i:=ìh h
def xh.pa(h:xh t a b o i j)(e:a[i]?=À p)(c:∀q∈ıc j,yN p q):xh t a b Åe ï j:=by unfold xh at h ⊢;rw[D9 e]at h;rw[Ĺe];exact íh (m:=[p]) h λq d=>Ķ d▸c
def xh.pb(h:xh t a b o i j)(e:b[j]?=À p)(c:∀q∈ñb i,yN p q):xh t a b Åe i Ëa:=(Śo).swap
def xh.ca(h:xh t a b o i j)(c:∀p∈(Ăh).take k,∀q∈ıc j,yN p q):xh t a b åg Ğd j:=by unfold xh at h ⊢;rw[<-êb k Ăh,Żi]at h;rw[Æd,Ĥe,Ĕe,éi];exact h.move c
def xh.cb(h:xh t a b o i j)(c:∀p∈(ıc j).take k,∀q∈ñb i,yN p q):xh t a b (o++ýb j (j+k)) i (j+k):=(îr c).swap
theorem xh.fin(h:xh t a b o i j)(c:∀p∈ñb i,∀q∈ıc j,yN p q):uB t (o++Ŝb i ĭ++ýb j Ū):=by
 have e:∀(x:Ô Ø) k,(Áf k üa).toList=āp k:=λx k=>by rw[Ĥe,Ĕe];exact Ģc (by rw[řa,Ģ];exact æa _)
 unfold uB;rw[Æd,Æd,e,e];exact Ål h c
def xh.hd(h:xh t a b o i j)(e:a[i]?=À p):∀q∈ñb i,yN p q:=by unfold xh at h;have:=(Ïc h.sx).2.1;rw[D9 e]at this ⊢;intro q c;rcases ę c with rfl|c;exact Èb _;exact(ġe this).1 q c
def xh.sa(h:xh t a b o i j):(Ăh).Pairwise yN:=Ûm.2.1
def Ah(h:i=ĭ){P:Ø->Prop}:∀p∈ñb i,P p:=by rw[ĝe Ĵe];intro p b;cases b
def Ė(h:Ū-i=k):(ıc i).take k=ıc i:=Ģc (by rw[řa,Ģ];omega)
omit a
abbrev cT:=Æ ŉc×Ô Ø×Nat×Nat×Nat
abbrev OM:=Æ ŉc×Ô Ø×Nat×Nat×Nat×Nat
abbrev Y2:=Æ ŉc×Ô Ø×Nat×Nat×Nat×Nat×Nat
structure Xg(t:Á Ø)(a b:Ô Ø)(x:Nat)(o:Ô Ø)(i j:Nat):Prop where
 l:xh t a b o i j
 p:i+1<ĭ
 q:j<Ū
 s:x<i+j
section
variable(t:Á Ø)(a b:Ô Ø)(x:Nat)
inductive OR:cT->Prop
 |mk {o i j m}:Xg t a b x o i j->OR (Ã,o,i,j,m)
inductive Qa:OM->Prop
 |mk {o i j m n}:Xg t a b x o i j->Qa (Ã,o,i,j,m,n)
inductive Y3:OM->Prop
 |fin {r c}:uB t r->Y3 (À r,c)
 |go {o i j m n}:Xg t a b x o i j->Y3 (Ã,o,i,j,m,n)
inductive Va:Y2->Prop
 |mk {o i j m n q}:Xg t a b x o i j->Va (Ã,o,i,j,m,n,q)
inductive jH:Y2->Prop
 |fin {r c}:uB t r->jH (À r,c)
 |go {o i j m n q}:Xg t a b x o i j->jH (Ã,o,i,j,m,n,q)
omit a
def kf{a b:Nat}(h:a<=b)(c:¬ïl=Â):a<b:=ũn h λe=>c (Ýc e)
def Zp{a:Nat}(c:¬(a==0)=Â):∃n,a=n+1:=Nat.exists_eq_succ_of_ne_zero λe=>c (Ýc e)
noncomputable def OP(r:Æ Nat)(f:Nat->Ł õ Sem β)(g:Ł õ Sem β):Ł õ Sem β:=(sortPriv% PySem.Builtin.mergeLo.match_1) Ŭf r f λ_=>g
section
variable(a b:Ô Ø)
noncomputable def k_(o:Ô Ø)(i j:Nat):Ô Ø:=o++Ŝb i ĭ++ýb j Ū
noncomputable def OL(o:Ô Ø)(i j:Nat):Ô Ø:=o++ýb j Ū++Ŝb i ĭ
def Gt(o:Ô Ø)(i j g k m:Nat):Ł õ Sem Ðh:=do
 let p <-ďa a i
 if Âq=Â then pure (.done (À Ío,Ť p,i+1,j,g,k,m))
 else if(decide (k<7)&&decide (m<7))=Â then pure (.done (Ã,Ť p,i+1,j,g,k,m))else pure (.yield (Ã,Ť p,i+1,j,g,k,m))
def Gq(o:Ô Ø)(i j g k u:Nat):Ł õ Sem Ðh:=do
 let q <-ďa b j
 if Ŵq=Â then pure Ķl
 else do
  let p <-ďa a i
  let r <-X4 Â p b Ëa (Ū-Ëa) 0
  OP r (λm=>
   if m>0 then
    if(j+1+m==Ū)=Â then pure (.done (À (k_ a b ţm i Ųk),Ť q++ýb Ëa Ųk,i,j+1+m,g,k,m))
    else Gt a b ţm i Ųk g k m
   else Gt a b āh i Ëa g k m) (pure Ķl)
def Gp(o:Ô Ø)(i j n u g:Nat):Ł õ Sem Ðh:=do
 đd λs=>Łc íd ød şc g ßd
 let q <-ďa b j
 let r <-X4 Ä q a i (ĭ-i) 0
 OP r (λk=>
  if k>0 then
   if(i+k+1==ĭ)=Â then pure (Υc (OL a b åg Ğd j) Ğd)
   else if(i+k==ĭ)=Â then pure (Υc (k_ a b åg Ğd j) Ğd)
   else Gq a b åg Ğd j g k u
  else Gq a b o i j g k u) (pure (.done (À üg,o,i,j,g,n,u)))
noncomputable def QZ(r:Æ α)(f:α->Ł õ Sem β)(g:Ł õ Sem β):Ł õ Sem β:=Break.runK.match_1 Ŭf r f λ_=>g
noncomputable def cW(r:Æ Í)(f:Í->Ł õ Sem β)(g:Ł õ Sem β):Ł õ Sem β:=(sortPriv% PySem.Builtin.countRun.match_1) Ŭf r f λ_=>g
def cZ(o:Ô Ø)(i j g m n:Nat):Ł õ Sem (úb OM):=do
 let q <-ďa b j
 let p <-ďa a i
 let r <-lt' q p
 cW r (λt=>
  if t=Â then do
   let q <-ďa b j
   if Ŵq=Â then pure (.done (À (k_ a b āh i Ëa),Ť q,i,j+1,0,n+1))
   else if n+1≥g then pure (.done (Ã,Ť q,i,j+1,0,n+1))else pure (.yield (Ã,Ť q,i,j+1,0,n+1))
  else do
   let p <-ďa a i
   if Âq=Â then pure (.done (À Ío,Ť p,i+1,j,m+1,0))
   else if m+1≥g then pure (.done (Ã,Ť p,i+1,j,m+1,0))else pure (.yield (Ã,Ť p,i+1,j,m+1,0))) (pure (.done (À üg,o,i,j,m,n)))
def y0f(x:Y2):Ł õ Sem Ðh:=if x.2.2.2.2.1>1 then Gp a b x.2.1 x.2.2.1 x.2.2.2.1 x.2.2.2.2.2.1 x.2.2.2.2.2.2 (x.2.2.2.2.1-1)else Gp a b x.2.1 x.2.2.1 x.2.2.2.1 x.2.2.2.2.2.1 x.2.2.2.2.2.2 x.2.2.2.2.1
def y0g(o:Ô Ø)(i j g:Nat):Ł õ Sem (úb cT):=do
 let d <-Łb [:ĭ+Ū] ((Ã,o,i,j,0,0):OM) λ_ d=>cZ a b d.2.1 d.2.2.1 d.2.2.2.1 g d.2.2.2.2.1 d.2.2.2.2.2
 QZ d.1 Ĺl do
  liftM œm
  let e <-Łb [:ĭ+Ū] ((Ã,d.2.1,d.2.2.1,d.2.2.2.1,g+1,d.2.2.2.2.1,d.2.2.2.2.2):Y2) λ_ e=>y0f a b e
  QZ e.1 Īl do
   đd λs=>Łc íd ød şc Ũo ßd
   pure ľl
omit a
def ZY(x:Ô Ø)(i:Nat)(h:i<üa):∃p,x[i]?=À p:=⟨_,getElem?_pos x i h⟩
section
variable{t:Á Ø}{a b:Ô Ø}(hl:∀q∈áf,∀p∈ñb Āh,yN q p)
include hl in
theorem xh.lst{o i j}(l:xh t a b o i j)(e:i+1=ĭ):uB t (OL a b o i j):=Ņq λq c p d=>hl q (List.drop_subset _ _ c) p (by rw[show ĭ-1=i by omega];exact d)
def xh.da{o i j}(l:xh t a b o i j)(e:i=ĭ):uB t üg:=ĺh (Ah e)
def xh.db{o i j}(l:xh t a b o i j)(e:j=Ū):uB t üg:=ĺh λp c=>Ah e
omit a
section
variable{ø:æ}{w:Þ}{A:ñ}{E:Value->É->Prop}{s:É}
def xG{α:Type}{c:Prop}[Õk c]{m n:Ł õ Sem α}{Q:α->õ->Prop}{st:õ}(b:c->wpS à A E s m Q st)(a:¬c->wpS à A E s n Q st):wpS à A E s (if c then m else n) Q st:=by by_cases h:c;rw[Ë h];exact b h;rw[Ï h];exact a h
section
variable{t:Á Ø}{a b:Ô Ø}(ha:vd a)(hb:vd b)(hl:∀q∈áf,∀p∈ñb Āh,yN q p){a0:Ô Ø}{p0:Ô ŝa}{f0:Æ Value}{x y g m k u:Nat}{o:Ô Ø}{i j:Nat}{p q:Ø}
include hl in
theorem e8(l:xh t a b o i j)(ep:a[i]?=À p)(c:∀r∈ıc j,yN p r)(e:i+1<ĭ)(d:j<Ū)(h:x<=i+j)(f:y<=x):wpS à A E s (Gt a b o i j g k m) (Υ (jH t a b y) (Va t a b x)) Įc:=by
 replace l:=l.pa ep c
 refine å (ve ep (θ (Θb æp)))
 replace c:=kf e c
 exact xG (λ_=>ô ⟨g,rfl,jH.go ⟨l,c,d,by omega⟩⟩) λ_=>ô ⟨g,rfl,Va.mk ⟨l,c,d,by omega⟩⟩
include ha hb hl in
theorem e7(l:xh t a b o i j)(h:b[j]?=À q)(c:∀r∈ñb i,yN q r)(n:i+1<ĭ)(F:x<i+j+1)(e:y<=x):wpS à A E s (Gq a b o i j g k u) Üm Įc:=by
 have z:=(įd h).1
 replace l:=l.pb h c
 refine å (ve h (θ (Θb (l.db íb))))
 replace c:=kf z c
 replace e:=Óg e
 obtain⟨p,d⟩:=ZY a i (ĩc n);refine å (γb (Vi rfl (ha _ _ d) hb ĩp (ĸi c) Ĳr èr λm f e1 e2=>?_));rw[Żi]at e2
 replace f:j+1+m<=Ū:=Ŝe .. ▸ Ďn (ìa c) f
 refine xG ſd λC=>?_;have v:=l.cb λp B r G=>Üb (Ęa (e1 p B)) (l.hd d r G)
 refine xG (Θb Űq) λc=>e8 hl v d e2 n (kf f c) Å e;cases Ŷh C;exact e8 hl l d e2 n c F e
include ha hb hl in
theorem d_(l:xh t a b o i j)(B:i+1<ĭ)(I:j<Ū)(H:x<i+j)(z:y<=x){n J:Nat}:wpS à A E s (Gp a b o i j n u g) Üm (yE a0 p0 f0 J):=by
 obtain⟨q,d⟩:=ZY b j I;have v:=ĩc B;refine å (ξ (å (γb (Vi rfl ŵq ha (Αb (ìa v)) (ĸi v) Ĳr l.sa λk f C e=>?_))));rw[Żi]at e
 replace e:=λp h=>Ęa (e p h)
 replace f:i+k<=ĭ:=Ŝe .. ▸ Ďn (ìa v) f
 refine xG ſd λc=>?_;have m:=l.ca λp h r K=>Üb (C p h) (Ŝg d r K)
 refine xG (Φc (m.lst hl íb)) λG=>xG (Φc (m.da íb)) λF=>e7 ha hb hl m d e (kf (kf f F) G) Å z;cases Ŷh c;exact e7 ha hb hl l d e B (Õc H) z
include ha hb hl in
theorem y5d(l:Xg t a b x o i j)(B:y<=x+1){n:Nat}:wpS à A E s (cZ a b o i j g m n) (Υ (Y3 t a b y) (Qa t a b ĕb)) òg:=by
 obtain⟨l,k,h,z⟩:=l;obtain⟨p,f⟩:=ZY a i (ĩc k);obtain⟨q,e⟩:=ZY b j h;refine å (ve e (å (ve f (å (θb (hb _ _ e) (ha _ _ f))))));by_cases c:w8 q<w8 p;rw[Ġ c];have d:=l.pb e λr v=>Üb (Ęa c) (l.hd f r v)
 refine å (ve e (Λc (d.db íb)))
 replace c:=kf h c
 exact xG (λ_=>ô ⟨_,rfl,Y3.go ⟨d,k,c,by omega⟩⟩) λ_=>ô ⟨_,rfl,Qa.mk ⟨d,k,c,čo z⟩⟩;rw[Ŏ c];have d:=l.pa f λr v=>Üb Śk (Ŝg e r v)
 refine å (ve f (Λc (d.lst hl íb)))
 replace c:=kf k c
 exact xG (λ_=>ô ⟨_,rfl,Y3.go ⟨d,c,h,by omega⟩⟩) λ_=>ô ⟨_,rfl,Qa.mk ⟨d,c,h,by omega⟩⟩
include ha hb hl in
theorem y5e(l:Xg t a b x o i j):wpS à A E s (y0g a b o i j g) (Υ Őf (OR t a b ĕb)) òg:=by refine å (ιa (λz=>Qa t a b (x+z)) (Y3 t a b ĕb));rintro z _ g m ⟨l⟩;exact y5d ha hb hl l ŏo;rintro _ ⟨_,h,d,e⟩;omega;rintro _ g (⟨f⟩|⟨l⟩);exact ô ⟨g,rfl,_,rfl,f⟩;refine å (Θa (ιa (λz=>Va t a b (x+1+z)) (jH t a b ĕb)));rintro z _ g m ⟨l,h,d,e⟩;have k:=ïb ĕb z;exact xG (λ_=>d_ ha hb hl l h d e k) λ_=>d_ ha hb hl l h d e k;rintro _ ⟨_,h,d,e⟩;omega;rintro _ g (⟨f⟩|⟨l⟩);exact ô ⟨g,rfl,_,rfl,f⟩;exact å (ξ (ô ⟨_,rfl,OR.mk l⟩))
omit a
def y5h{a b:Ô Ø}{a0 p0 f0 g}{t:Á Ø}{Q:Ô Ø->õ->Prop}(v:vd a)(o:vd b)(n:0<ĭ){y:Ø}(i:b[0]?=À y)(d:xh t a b #[y] 0 1)(j:∀q∈áf,∀p∈ñb Āh,yN q p)(h:∀r g,uB t r->Q r Įc):wpS à A E s (A7 a b) Q Įc:=by have u:0<Ū:=(įd i).1;unfold A7;refine å (Θa (ve i (Βc (d.db ÿh) (d.lst j ÿh))));refine å (ηb (Vh (λx=>OR t a b x) Őf ⟨d,kf n k,kf u m,Nat.one_pos⟩ ?_ ?_ ?_));rintro x _ g z ⟨l⟩;exact y5e v o j l;rintro _ ⟨_,F,C,B⟩;omega;rintro⟨q,c⟩ g ⟨r,e,f⟩;cases e;exact ô ŝr
omit a
def xt(t:Á Ø)(a b o:Ô Ø)(i j:Nat):Prop:=uI (λp q=>yN q p) t Čk (āf).reverse (Şk).reverse
section
variable{t:Á Ø}{a b o:Ô Ø}{i j k:Nat}{p:Ø}
def HF(h:a[i]?=À p):ģb ï=ģb i++[p]:=by obtain⟨b,rfl⟩:=įd h;rw[ęc Ġn,ĝb]
theorem xt.swap(h:xt t a b o i j):xt t b a o j i:=ìh h
def xt.pa(h:xt t a b o ï j)(e:a[i]?=À p)(c:∀q∈Ûc j,yN q p):xt t a b Åe i j:=by unfold xt at h ⊢;rw[HF e,ēi]at h;rw[Ĺe];exact íh (m:=[p]) h λq d r f=>Ķ d▸c r (Ĩe f)
def xt.pb(h:xt t a b o i Ëa)(e:b[j]?=À p)(c:∀q∈ģb i,yN q p):xt t a b Åe i j:=(Śo).swap
def xt.ca(h:xt t a b o i j)(hk:k<=i)(c:∀p∈(āf).drop k,∀q∈Ûc j,yN q p):xt t a b ôi k j:=by unfold xt at h ⊢;rw[<-êb k āf,ēi,źi,ņe hk]at h;rw[Æd,ēn,Ĥe,Ĕe,<-List.drop_take];exact h.move λp d r e=>c p (Ĩe d) r (Ĩe e)
def xt.cb(h:xt t a b o i j)(hk:k<=j)(c:∀p∈(Şk).drop k,∀q∈ģb i,yN q p):xt t a b (o++(ýb k j).reverse) i k:=(îr hk c).swap
theorem xt.fin(h:xt t a b o i j)(c:∀p∈ģb i,∀q∈Ûc j,yN p q):uB t (Ŝb 0 i++ýb 0 j++Àk):=by
 have e:∀(x:Ô Ø) k,(Áf 0 k).toList=x.toList.take k:=λx k=>by rw[Ĥe,Ĕe];rfl
 have:=Ål (ìh h) λq g p d=>c p (Ĩe d) q (Ĩe g)
 unfold uB;rw[Æd,Æd,e,e,ēn]
 have f:(Čk++(Şk).reverse++(āf).reverse).reverse=ģb i++Ûc j++o.toList.reverse:=by simp only[ēi,List.reverse_reverse,Ś]
 rw[<-f];exact⟨(Ĺi _).trans this.1,Øi this.2⟩
def xt.sa(h:xt t a b o i j):(āf).Pairwise yN:=List.pairwise_reverse.mp Ûm.2.1
def xt.hd(h:xt t a b o ï j)(e:a[i]?=À p):∀q∈ģb ï,yN q p:=by have:=h.sa;rw[HF e]at this ⊢;intro q c;rcases Ïa c with c|c;exact(Ïc this).2.2 q c p ĵ;rw[Ķ c];exact Èb _
def Ac(h:i=0){P:Ø->Prop}:∀p∈ģb i,P p:=by subst h;intro p b;cases b
omit a
abbrev VZ:=Æ ŉc×Nat×Nat×Ô Ø×Nat×Nat×Nat
abbrev cU:=Æ ŉc×Nat×Nat×Ô Ø×Nat
abbrev ON:=Æ ŉc×Nat×Nat×Ô Ø×Nat×Nat
structure Y4(t:Á Ø)(a b:Ô Ø)(x:Nat)(o:Ô Ø)(i j:Nat):Prop where
 l:xt t a b o ï Ăe
 p:i<ĭ
 q:j+1<Ū
 s:x+i+j+3<ĭ+Ū
section
variable(t:Á Ø)(a b:Ô Ø)(x:Nat)
inductive OS:cU->Prop
 |mk {o i j m}:Y4 t a b x o i j->OS (Ã,i+1,j+2,o,m)
inductive Qb:ON->Prop
 |mk {o i j m n}:Y4 t a b x o i j->Qb (Ã,i+1,j+2,o,m,n)
inductive Y5:ON->Prop
 |fin {r c}:uB t r->Y5 (À r,c)
 |go {o i j m n}:Y4 t a b x o i j->Y5 (Ã,i+1,j+2,o,m,n)
inductive Vb:VZ->Prop
 |mk {o i j m n q}:Y4 t a b x o i j->Vb (Ã,i+1,j+2,o,m,n,q)
inductive jJ:VZ->Prop
 |fin {r c}:uB t r->jJ (À r,c)
 |go {o i j m n q}:Y4 t a b x o i j->jJ (Ã,i+1,j+2,o,m,n,q)
omit a
section
variable(a b:Ô Ø)
noncomputable def Z0(o:Ô Ø)(i j:Nat):Ô Ø:=Ŝb 0 i++ýb 0 j++Àk
noncomputable def OQ(o:Ô Ø)(i j:Nat):Ô Ø:=ýb 0 j++Ŝb 0 i++Àk
def Go(o:Ô Ø)(i j g k m:Nat):Ł õ Sem ĝk:=do
 let p <-ďa a ıf
 if(i-1==0)=Â then pure (.done (À Ħn,i-1,j,Ť p,g,k,m))
 else if(decide (k<7)&&decide (m<7))=Â then pure (.done (Ã,i-1,j,Ť p,g,k,m))else pure (.yield (Ã,i-1,j,Ť p,g,k,m))
def Gm(o:Ô Ø)(i j g k u:Nat):Ł õ Sem ĝk:=do
 let q <-ďa b äb
 if(j-1==1)=Â then pure (Οc Øn)
 else do
  let p <-ďa a ıf
  let r <-X4 Â p b 0 äb (j-1-1)
  OP r (λm=>
   if j-1-m>0 then
    if(m==1)=Â then pure (Ηc (OQ a b žh i m) ďq)
    else if(m==0)=Â then pure (Ηc (Z0 a b žh i m) ďq)
    else Go a b žh i m g k (j-1-m)
   else Go a b āh i äb g k (j-1-m)) (pure (Οc (Z0 a b āh i äb)))
def Gk(o:Ô Ø)(i j n u g:Nat):Ł õ Sem ĝk:=do
 đd λs=>Łc íd ød şc g ßd
 let q <-ďa b äb
 let r <-X4 Ä q a 0 i ıf
 OP r (λk=>
  if i-k>0 then
   if(k==0)=Â then pure (.done (À (Z0 a b ôi k j),k,j,o++(Ŝb k i).reverse,g,i-k,u))
   else Gm a b ôi k j g (i-k) u
  else Gm a b o i j g (i-k) u) (pure (.done (À ýg,i,j,o,g,n,u)))
def cY(o:Ô Ø)(i j g m n:Nat):Ł õ Sem (úb ON):=do
 let q <-ďa b äb
 let p <-ďa a ıf
 let r <-lt' q p
 cW r (λt=>
  if t=Â then do
   let p <-ďa a ıf
   if(i-1==0)=Â then pure (.done (À Ħn,i-1,j,Ť p,m+1,0))
   else if m+1≥g then pure (.done (Ã,i-1,j,Ť p,m+1,0))else pure (.yield (Ã,i-1,j,Ť p,m+1,0))
  else do
   let q <-ďa b äb
   if(j-1==1)=Â then pure (.done (À Øn,i,j-1,Ť q,0,n+1))
   else if n+1≥g then pure (.done (Ã,i,j-1,Ť q,0,n+1))else pure (.yield (Ã,i,j-1,Ť q,0,n+1))) (pure (.done (À ýg,i,j,o,m,n)))
def y0e(o:Ô Ø)(i j g:Nat):Ł õ Sem (úb cU):=do
 let d <-Łb [:ĭ+Ū] ((Ã,i,j,o,0,0):ON) λ_ d=>cY a b d.2.2.2.1 d.2.1 d.2.2.1 g d.2.2.2.2.1 d.2.2.2.2.2
 QZ d.1 Ĺl do
  liftM œm
  let e <-Łb [:ĭ+Ū] ((Ã,d.2.1,d.2.2.1,d.2.2.2.1,g+1,d.2.2.2.2.1,d.2.2.2.2.2):VZ) λ_ e=>if e.2.2.2.2.1>1 then Gk a b e.2.2.2.1 e.2.1 e.2.2.1 e.2.2.2.2.2.1 e.2.2.2.2.2.2 (e.2.2.2.2.1-1)else Gk a b e.2.2.2.1 e.2.1 e.2.2.1 e.2.2.2.2.2.1 e.2.2.2.2.2.2 e.2.2.2.2.1
  QZ e.1 Īl do
   đd λs=>Łc íd ød şc Ũo ßd
   pure ľl
omit a
section
variable{ø:æ}{w:Þ}{A:ñ}{E:Value->É->Prop}{s:É}
section
variable{t:Á Ø}{a b:Ô Ø}(ha:vd a)(hb:vd b)(hl:∀q∈Ĕk,∀p∈Ûc 1,yN p q){a0:Ô Ø}{p0:Ô ŝa}{f0:Æ Value}{x y g m k u:Nat}{o:Ô Ø}{i j:Nat}{p:Ø}
include hl in
theorem xt.lst(l:xt t a b o i j)(e:j=1):uB t (OQ a b o i j):=Ņq λq c p d=>hl p (List.take_subset _ _ d) q (e▸c)
def xt.da(l:xt t a b o i j)(e:i=0):uB t ýg:=ĺh (Ac e)
def xt.db(l:xt t a b o i j)(e:j=0):uB t ýg:=ĺh λp c=>Ac e
def dw(l:xt t a b o ï j)(ep:a[i]?=À p)(c:∀r∈Ûc j,yN r p)(c2:2<=j)(e:j<=Ū)(f:x+i+j<ĭ+Ū)(h:y<=x):wpS à A E s (Go a b o ï j g k m) Ăm Įc:=by
 have d:=(įd ep).1
 replace l:=l.pa ep c
 refine å (ve ep (θ (εa (l.da íb))));obtain⟨i,rfl⟩:=Zp c;obtain⟨j,rfl⟩:∃n,j=n+2:=⟨j-2,(Åg c2).symm⟩;exact xG (λ_=>ô ⟨g,rfl,jJ.go ⟨l,ĩc d,e,by omega⟩⟩) λ_=>ô ⟨g,rfl,Vb.mk ⟨l,ĩc d,e,by omega⟩⟩
include ha hb hl in
theorem dt(l:xt t a b o ï Ăe)(B:b[j+1]?=À q)(c:∀r∈ģb ï,yN r q)(c1:i<ĭ)(I:x+i+j+1<ĭ+Ū)(C:y<=x):wpS à A E s (Gm a b o ï Ăe g k u) Ăm Įc:=by
 have f:=(įd B).1
 replace l:=l.pb B c
 refine å (ve B (θ (εa æp)));obtain⟨j,rfl⟩:=Zp (a:=j) λe=>c įi
 obtain⟨p,h⟩:=ZY a i c1
 replace f:=ìa f
 refine å (ve h (å (Vi rfl (ha _ _ h) hb (show 0+(j+1+1)<=Ū from(Ţk).symm▸f) ċd (z:=Ûc (j+1+1)) rfl èr λm d e1 e2=>?_)))
 replace d:m<=j+1+1:=d
 rw[źi,ņe d]at e1
 replace e1:=λp n=>Ęa (e1 p n)
 refine xG ſd λc=>?_;have v:=l.cb d λp n r H=>Üb (l.hd h r H) (e2 p n)
 exact xG (εa (v.lst hl íb)) λG=>xG (εa Űq) λF=>by
  obtain⟨m,rfl⟩:=Zp F;obtain⟨m,rfl⟩:=Zp (a:=m) λe=>G įi
  exact dw v h e1 Ĩn (ŏ d f) Å C
 cases řd d ĉm;exact dw l h e1 Ĩn f Å C
include ha hb hl in
theorem dq(l:Y4 t a b x o i j)(f:y<=x){n G:Nat}:wpS à A E s (Gk a b o ï Ăe n u g) (Υ (jJ t a b y) (Vb t a b ĕb)) (yE a0 p0 f0 G):=by
 obtain⟨l,m,B,I⟩:=l;obtain⟨q,d⟩:=ZY b Ëa B
 replace f:=Óg f
 refine å (Ξc (γb (Vi rfl ŵq ha (show 0+ï<=ĭ from(Ţk).symm▸m) ċd (z:=ģb ï) rfl l.sa λk e h F=>?_)));rw[źi,ņe e]at h;refine xG ſd λc=>?_;have v:=l.ca e λp C r H=>Üb (Ŝg d r H) (Ęa (F p C))
 refine xG (λc=>ô ⟨_,rfl,jJ.fin (v.da íb)⟩) λc=>?_
 obtain⟨k,rfl⟩:=Zp c;exact dt ha hb hl v d h (ŏ e m) Å f;cases řd e ĉm;exact dt ha hb hl l d h m Å f
include ha hb hl in
theorem y5b(l:Y4 t a b x o i j)(C:y<=x+1){n:Nat}:wpS à A E s (cY a b o ï Ăe g m n) (Υ (Y5 t a b y) (Qb t a b ĕb)) òg:=by
 obtain⟨l,f,d,B⟩:=l;obtain⟨p,v⟩:=ZY a i f;obtain⟨q,k⟩:=ZY b Ëa d;refine å (ve k (å (ve v (å (θb (hb _ _ k) (ha _ _ v))))));by_cases c:w8 q<w8 p;rw[Ġ c];have h:=l.pa v λr z=>Üb (Ŝg k r z) (Ęa c)
 refine å (ve v (Κc (h.da íb)));obtain⟨i,rfl⟩:=Zp c
 replace f:=ĩc f
 exact xG ŉl λ_=>ô ⟨_,rfl,Qb.mk ⟨h,f,d,by omega⟩⟩;rw[Ŏ c];have h:=l.pb k λr z=>Üb (l.hd v r z) Śk
 refine å (ve k (Κc (h.lst hl íb)));obtain⟨j,rfl⟩:=Zp (a:=j) λe=>c įi
 replace d:=ĩc d
 exact xG ŉl λ_=>ô ⟨_,rfl,Qb.mk ⟨h,f,d,by omega⟩⟩
include ha hb hl in
theorem y5c(l:Y4 t a b x o i j):wpS à A E s (y0e a b o ï Ăe g) (Υ Őf (OS t a b ĕb)) òg:=by refine å (ιa (λz=>Qb t a b (x+z)) (Y5 t a b ĕb));rintro z _ g e ⟨l⟩;exact y5b ha hb hl l ŏo;rintro _ ⟨l,_,_,z⟩;omega;rintro _ g (⟨f⟩|⟨l⟩);exact ô ⟨g,rfl,_,rfl,f⟩;refine å (Θa (ιa (λz=>Vb t a b (x+1+z)) (jJ t a b ĕb)));rintro z _ g e ⟨l⟩;have d:=ïb ĕb z;exact xG (λ_=>dq ha hb hl l d) λ_=>dq ha hb hl l d;rintro _ ⟨l,_,_,z⟩;omega;rintro _ g (⟨f⟩|⟨l⟩);exact ô ⟨g,rfl,_,rfl,f⟩;exact å (ξ (ô ⟨_,rfl,OS.mk l⟩))
omit a
def y5g{a b:Ô Ø}{a0 p0 f0 g}{t:Á Ø}{Q:Ô Ø->õ->Prop}(v:vd a)(o:vd b)(u:0<Ū){y:Ø}(j:a[ĭ-1]?=À y)(d:xt t a b #[y] Āh Ū)(i:∀q∈Ĕk,∀p∈Ûc 1,yN p q)(h:∀r g,uB t r->Q r Įc):wpS à A E s (A6 a b) Q Įc:=by
 unfold A6;refine å (Θa (ve j (Βc (d.da ÿh) (d.lst i ÿh))));obtain⟨n,e1⟩:=Zp m;obtain⟨F,e2⟩:∃n,Ū=n+2:=⟨Ū-2,(Åg (ũn u λe=>k (Ýc ĝh))).symm⟩;have C:ĭ=n+2:=by omega
 rw[e1,e2]at d;refine å (ηb (Vh (λx=>OS t a b x) Őf (by rw[e1,e2];exact⟨d,by omega,by omega,by omega⟩) ?_ ?_ ?_));rintro x _ g B ⟨l⟩;exact y5c v o i l;rintro _ ⟨l,_,_,z⟩;omega;rintro⟨q,c⟩ g ⟨r,e,f⟩;cases e;exact ô ŝr
omit a
def jI(x:Ô Ø)(l n:Nat):Prop:=∀i j,i<=j->j<n->K x (l+i)<=K x (l+j)
def cV(x:Ô Ø):Prop:=∀i j,i<üa->j<üa->K x i=K x j->i=j
def z9l(h:jI x l n)(c:n=0\/K x (l+n-1)<=K x (l+n)):jI x l Ĝ:=by
 intro i j a b;by_cases e:j<n;exact h i j a e;obtain rfl:j=n:=by omega
 by_cases e2:i=j;rw[e2];exact Èb _;have:=h i äb Å Å;rw[show l+äb=l+j-1 by omega]at this;exact Ĕg this (Ãp Å)
section
variable{ø:æ}{w:Þ}{A:ñ}{E:Value->É->Prop}{s:É}
def Vj{i j p f g}(c:vd x)(hi:i<üa)(d:j<üa)(h:Q (À (decide (K x i<K x j))) äc):wpS à A E s (ltAt' i j) Q äc:=by have b:x[i]?=À x[i]:=getElem?_pos x i hi;have a:x[j]?=À x[j]:=getElem?_pos x j d;rw[ltAt'_eq];refine å (ηb (ve b (å (ve a (θb (c _ _ b) (c _ _ a))))));unfold K at h;rw[b,a]at h;exact h
def dk{x:Ô Ø}{a lo n p f g}{F:Nat->Æ ôd×Nat->Ł õ Sem (úb (Æ ôd×Nat))}{R:Æ ôd×Nat->õ->Prop}(l:1<=a)(b:a<=n)(i:jI x lo a)(j:∀y m Q,1<=m->m<n->(K x Ūc<K x Îe->Q (.done (Ã,m)) äc)->(¬ K x Ūc<K x Îe->Q (.yield (Ã,m+1)) äc)->wpS à A E s (F y (Ã,m)) Q äc)(h:∀m,a<=m->m<=n->jI x lo m->(m=n\/K x Ūc<K x Îe)->R (Ã,m) äc):wpS à A E s (Łb [a:n] (Ã,a) F) R äc:=by refine Ğc (I:=λy c st=>st=yE x p f g/\c=(Ã,y)/\jI x lo y) ?_ ?_ ⟨rfl,rfl,i⟩;rintro y _ _ k e ⟨rfl,rfl,d⟩;exact j _ _ _ Å e (λc=>h y k Å d (.inr c)) λc=>⟨rfl,rfl,z9l d (.inr Śk)⟩;rintro _ _ ⟨rfl,rfl,d⟩;rw[Ŏi b]at d ⊢;exact h n b Ċ d ŉ
def y59{x:Ô Ø}{lo n p f g}{Q:Æ Nat->õ->Prop}(l:vd x)(B:cV x)(R:lo+n=üa)(J:1<=n)(h:∀m y,Ùb x->(∀k,k<lo->y[k]?=x[k]?)->1<=m->m<=n->jI y lo m->Q Ôb űp):wpS à A E s (ør lo n) Q äc:=by
 unfold ør;refine å (dk (lo:=lo) (æa 1) J (λi j a b=>by rw[show i=j by omega];exact Èb _) ?_ ?_);intro y m Q a b r u;refine å Ńi;by_cases c:K x Ūc<K x Îe;simp only[c,ád,ŋ];exact ô (r c);simp only[c,Ďg,Œb,Õa];exact ô (u c);intro m a b o c;refine xG (λe=>ô (h m x Řk Ęg a b o)) λe=>?_
 replace c:=Ãp îb
 replace b:m<n:=by simp at e;omega
 refine xG (λe=>?_) λe=>?_;refine å Ńi
 have:K x lo<K x Îe:=by have v:=o 0 (m-1) Å (by dsimp only at e;omega);rw[show lo+(m-1)=lo+m-1 by omega,Nat.add_zero]at v;have C:=B lo Îe Å Å;dsimp only at e;omega
 simp only[this,ád,ŋ];exact ô (h m x Řk Ęg a Å o);obtain rfl:m=1:=by dsimp only at e;omega
 refine å (ân (ņd ⟨rfl,?_⟩));refine å (Ρa (Ğc (I:=λy c st=>st=yE x p f g/\c=(Ã,y,0)/\∀i j,i<=j->j<y->K x êl<=K x űa) (Q:=λc st=>st=yE x p f g/\∃m,c=(Ã,m,0)/\2<=m/\m<=n/\∀i j,i<=j->j<m->K x êl<=K x űa) ?_ ?_ ⟨rfl,rfl,?_⟩));rintro y _ _ C G ⟨rfl,rfl,d⟩;refine å (Vj l Āi Āi ?_);by_cases c:K x él<K x ĩk;simp only[c,ád,ŋ];refine ô ⟨rfl,rfl,λi j z t=>?_⟩;by_cases e:j<y;exact d i j z e;obtain rfl:j=y:=by omega
 by_cases e2:i=j;rw[e2];exact Èb _;have:=d i äb Å Å;rw[show lo+äb=lo+j-1 by omega]at this;omega;simp only[c,Ďg,Œb,Õa];refine å Ńi
 have:K x ĩk<K x él:=by have P:=B ĩk él Å Å;omega
 simp only[this,ád,ŋ];exact ô ⟨rfl,y,rfl,by omega,by omega,d⟩;rintro _ _ ⟨rfl,rfl,d⟩;rw[Ŏi Å]at d ⊢;exact⟨rfl,n,rfl,by omega,by omega,d⟩;intro i j z t;by_cases e2:i=j;rw[e2];exact Èb _;rw[show i=0 by omega,show j=1 by omega];exact Ęa c;rintro _ _ ⟨rfl,m,rfl,C,G,d⟩;have F:∀k,K Ņf k=_:=λk=>K_mirror Å k
 refine å (wpS_reverse (å (dk (x:=mirror x lo Ūc ((lo+m-lo)/2)) (lo:=lo) Āi G ?_ ?_ ?_)));intro i j z t;dsimp only at t;rw[F,F,Ë Å,Ë Å];have:=d (m-1-j) (m-1-i) Å Å;rw[show lo+Ūc-1-űa=lo+(m-1-i) by omega,show lo+Ūc-1-êl=lo+(m-1-j) by omega];exact this;intro y q Q a b r u;have H:(Ņf).Perm x:=äq _ _ _ _;refine å (Vj ?_ Ŋm Ŋm ?_);intro i p L;obtain⟨N,v⟩:=åi ((Ái H).mem_iff.mp (Ųh (żh L)));exact l N p (by rw[<-ła];exact v);by_cases c:K Ņf (lo+q)<K Ņf (lo+q-1);simp only[c,ád,ŋ];exact ô (r c);simp only[c,Ďg,Œb,Õa];exact ô (u c);intro q a b o _;refine ô (h q _ (äq _ _ _ _) (λk O=>?_) (by dsimp only at a;omega) b o);rw[getElem?_mirror_all Å,Ï Å]
omit a
def Uw{x y:Ô Ø}(h:vd x)(p:Ùb x):vd y:=by intro i q c;obtain⟨b,a⟩:=åi ((Ái p).mem_iff.mp (Ųh (żh c)));exact h b q Ön
section
variable{ø:æ}{w:Þ}{A:ñ}{E:Value->É->Prop}{s:É}
def z0q{l r:Nat}(h:l<r):l<=(l+r)/2/\(l+r)/2<r:=by omega
def y58{x:Ô Ø}{lo n ok p f g}{Q:Í->õ->Prop}(Z:vd x)(hn:lo+n<=üa)(zd:ok<=n)(d:jI x lo ok)(h:∀y,Ùb x->(∀k,k<lo->y[k]?=x[k]?)->jI y lo n->Q Â űp):wpS à A E s (êq lo n ok) Q äc:=by
 unfold êq;refine å (Ρa (Ğc (I:=λk c st=>c=(Ã,())/\∃y,st=yE y p f g/\Ùb x/\(∀k,k<lo->y[k]?=x[k]?)/\(k<=n->jI y lo k)) (Q:=λc st=>c=(Ã,())/\∃y,st=yE y p f g/\Ùb x/\(∀k,k<lo->y[k]?=x[k]?)/\jI y lo n) ?_ ?_ ⟨rfl,x,rfl,Żl _,λ_ _=>rfl,λ_ i j a b=>?_⟩));rintro k _ _ hk R ⟨rfl,y,rfl,v,H,d⟩
 replace d:=d (ìa R)
 have hy:=Uw Z v;have N:lo+k<ëe:=by have:=v.size_eq;omega
 have sj:∀j,j<=k->lo+j<ëe:=λj hj=>Ħc (ńd hj lo) N
 refine å (Oi (Q:=λc st=>st=yE y p f g/\∃l r,c=(Ã,l,r)/\l<=k/\(∀i,i<l->K y űa<=K y ſb)/\∀i,l<=i->i<k->K y ſb<K y űa) (λz c=>∃l r,c=(Ã,l,r)/\l<=r/\r<=k/\r+z<=k+l/\(∀i,i<l->K y űa<=K y ſb)/\∀i,r<=i->i<k->K y ſb<K y űa) ⟨0,k,rfl,Ãa _,æa _,æa _,λi J=>Û J þh,λi a b=>Û b (Ōe a)⟩ ?_ ?_ ?_);rintro z _ hz ⟨l,r,rfl,P,o,g3,C,B⟩;refine xG èk λc=>?_;cases řd P c;exact ô ⟨rfl,l,l,rfl,o,C,B⟩;obtain⟨U,S⟩:=z0q Żf;dsimp only;generalize (l+r)/2=m at U S ⊢;have T:=ņ S o;refine å (Vj hy N (sj m (ìa T)) ?_);by_cases c2:K y ſb<K y Ūc;simp only[c2,ád,ŋ];exact ô ⟨rfl,l,_,rfl,U,ìa T,by omega,C,λi q O=>Int.lt_of_lt_of_le c2 (d _ _ q O)⟩;simp only[c2,Ďg,Œb,Õa];exact ô ⟨rfl,_,r,rfl,S,o,by omega,λi q=>Ĕg (d i m (ŋd q) T) (Ŵf c2),B⟩;rintro _ ⟨l,r,rfl,P,o,g3,C,B⟩;cases řd P Å;exact⟨rfl,l,l,rfl,o,C,B⟩;rintro _ _ ⟨rfl,l,r,rfl,o,C,B⟩;have e:lo+k-ċg=lo+l:=Nat.sub_sub_self (ńd o lo);refine å (ξ (ô ⟨rfl,Òl y ſb ċg,rfl,(bubble_perm _ _ _).trans v,λi J=>?_,λ_=>?_⟩));have z:=ņ J (ïb lo l);rw[<-H i J,getElem?_bubble N _ Śi,e,Ï (Ŭ z),Ï λc=>Ţp z c.1];have G:∀i,K (Òl y ſb ċg) i=_:=K_bubble N Śi;generalize Òl y ſb ċg=b at G;rw[e]at G;have L:∀i,i<l->K b űa=K y űa:=λi a=>by rw[G,Ï λc=>Ŭ a (Nat.add_left_cancel c),Ï λc=>Ţp a (Nat.lt_of_add_lt_add_left c.1)]
 have W:K b (lo+l)=K y ſb:=by rw[G,Ë rfl]
 have X:∀i,l<=i->i<k->K b (lo+ï)=K y űa:=λi a c=>by rw[G,Ï Å,Ë Å];rfl
 intro i j q O;rcases Òg j l with z|rfl|z;rw[L i (Ħc q z),L j z];exact d i j q (ņ z o);rcases Nat.lt_or_eq_of_le q with z|rfl;rw[L i z,W];exact C i z;exact Èb _;obtain⟨j,rfl⟩:∃t,j=t+1:=⟨j-1,by omega⟩;have F:=Nat.lt_of_succ_lt_succ O;rw[X j (ŋd z) F];rcases Òg i l with u|rfl|u;rw[L i u];exact d i j Å F;rw[W];exact Ęa (B j (ŋd z) F);obtain⟨i,rfl⟩:∃t,i=t+1:=⟨i-1,by omega⟩;have Y:=Nat.le_of_succ_le_succ q;rw[X i (ŋd u) (Ħc Y F)];exact d i j Y F;rintro _ _ ⟨rfl,y,rfl,v,H,d⟩;refine⟨rfl,y,rfl,v,H,?_⟩;by_cases e:n=0;intro i j a b;omega;rw[Ŏi Å]at d;exact d Ċ;by_cases e:ok=0;rw[show i=j by omega];exact Èb _;exact d i j a Å;rintro _ _ ⟨rfl,y,rfl,v,H,d⟩;exact ô (h y v H d)
omit a
theorem cJ{F:Ô Ø->Ø×Nat->Ô Ø}{s:Nat}(b:∀a p j,F a (p,j)=şi (s+j) p){R:Á Ø}:∀(l Z P:Á Ø)(n:Nat)(x:Ô Ø),ōc=P++(Z++R)->èa=s+n->Z.length=Üf->((l.zipIdx n).foldl F x).toList=P++(l++R)
 | [],Z,P,n,x,h,_,hz=>by rw[Îi hz]at h;exact h|p::l,z::Z,P,n,x,h,hp,hz=>by
  rw[ŏi,òb,b]
  have:=cJ b (R:=R) l Z (P++[p]) Ĝ (x.setIfInBounds (s+n) p) (by rw[ńm,h,úi _ _ Å,hp,ĵc,Ś];rfl) (by rw[ä,hp];rfl) (Ŕd hz)
  rw[this,Ś];rfl
def Rh{x:Ô Ø}{P X R:Á Ø}{a b:Nat}(h:ōc=P++(X++R))(c:èa=a)(d:a+Ů=b):(Áf a b).toList=X:=by rw[Ĥe,Ĕe,h,ťi c,ši Å]
theorem Jg{x:Ô Ø}{P R:Á Ø}{p:Ø}{a:Nat}(h:ōc=P++p::R)(b:èa=a):x[a]?=À p:=by rw[<-ła,h,Îc Å,b,ĵc];rfl
def PN{x y:Ô Ø}(h:vd x)(c:∀p∈Ćb,p∈ōc):vd y:=by intro i q d;obtain⟨b,a⟩:=åi (c q Ĥp);exact h b q Ön
section
variable{ø:æ}{w:Þ}{A:ñ}{E:Value->É->Prop}{s:É}
def y5i{a st:õ}{Q:PUnit->õ->Prop}(h:Q ⟨⟩ a):wpS à A E s (set a:Ł õ Sem PUnit) Q st:=by unfold wpS;rw[StateT.run_set];exact ë ⟨rfl,h⟩
def y5f{x:Ô Ø}{p:Ô ŝa}{g i d K S:Nat}{p1 p2:Á ŝa}{P o v R:Á Ø}{l u:Ø}{Q:Í->õ->Prop}(O:vd x)(ep:Úf=p1++(d,(Íe).length,K)::(d+(Íe).length,(Ĝf).length,S)::p2)(hi:p1.length=i)(ex:ōc=P++(Íe++(Ĝf++R)))(hP:èa=d)(H:(Íe).Pairwise yN)(N:(Ĝf).Pairwise yN)(h:∀y q g Z,Ćb=P++(Z++R)->Z.Perm (Íe++Ĝf)->Z.Pairwise yN->űb=p1++(d,(Íe).length+(Ĝf).length,K)::p2->Q Â Ùd):wpS à A E s (Âh i) Q Øp:=by
 generalize eX:o++[l]=X at ep ex H h;generalize eY:u::v=Y at ep ex N h
 have e1:p[i]?=À (d,Ů,K):=by rw[<-ła,ep,Îc Å,hi,ĵc];rfl
 have e2:p[i+1]?=À (d+Ů,Ée,S):=by rw[<-ła,ep,Îc Å,hi,éi];rfl
 have e3:(ăl).toList=p1++(d,Ů+Ée,K)::p2:=by rw[Array.toList_eraseIdxIfInBounds,ńm,ep,úi _ _ Å,hi,ĵc,List.eraseIdx_append_of_length_le Å,hi,éi];rfl
 have U:∀q∈X,yN q l:=by intro q f;rw[<-eX]at f H;rcases Ïa f with z|z;exact(Ïc H).2.2 q z l ĵ;rw[Ķ z];exact Èb _
 have J:∀q∈Y,yN u q:=by intro q f;rw[<-eY]at f N;rcases ę f with z|z;rw[z];exact Èb _;exact(ġe N).1 q z
 have mX:l∈X:=eX▸ŀa _ ĵ;have mY:u∈Y:=eY▸ĵ;have lX:Ů=ýd+1:=by rw[<-eX,ä];rfl
 have lY:Ée=v.length+1:=by rw[<-eY];rfl
 have szx:üa=d+(Ů+(Ée+ķb)):=by rw[<-Ģ,ex,ä,ä,ä,hP]
 have ay:x[d+Ů]?=À u:=Jg (P:=P++X) (R:=v++R) (by rw[ex,Ś,<-eY];rfl) űi;have ax:x[d+Ů-1]?=À l:=Jg (P:=P++o) (R:=Y++R) (by rw[ex,<-eX,Ś,Ś];rfl) (by rw[ä];omega);have C:(∀p∈X,∀q∈Y,yN p q)->Q Â Ğo:=λc=>h x _ g (X++Y) (by rw[ex,Ś]) Ąd (ėe ⟨H,N,c⟩) e3
 unfold Âh;refine å èf;show wpS _ _ _ _ (match(p[i]?,p[i+1]?)with|_=>_) _ _;rw[e1,e2];refine å (y5i (å (ve ay (å (Vi (z:=X) (x:=x) (b:=d) (n:=Ů) rfl (O _ _ ay) O Å Å (by rw[ex,ťi hP,ši rfl]) H λk hk d1 d2=>?_)))));refine xG (ηc (d1 p ?_) (J q f)) λc=>?_;rw[Ģc (by simp at c;omega)];exact j
 replace c:k<Ů:=by simp at c;omega
 have ax2:x[d+k+(Ů-k)-1]?=À l:=by rw[show d+k+(Ů-k)-1=d+Ů-1 by omega];exact ax
 refine å (ve ax2 (å (Vi (z:=Y) (x:=x) (b:=d+Ů) (n:=Ée) rfl (O _ _ ax) O Å Å (by rw[ex,<-Ś,ťi űi,ši rfl]) N λe hk2 f1 f2=>?_)));refine xG (ηc (U p j) (f2 q ?_)) λc2=>?_;rw[ŗd c];exact f
 replace c2:0<e:=by simp at c2;omega
 have B:(řf).toList=ôf k:=Rh (P:=P++Êh k) (R:=Y++R) (θc ŏk) Õn Áo;have G:(őf).toList=Õf e:=Rh (P:=P++X) (R:=Ôl e++R) (θc ýh) űi (by rw[ĕa];omega)
 have fin:∀r g,uB Ħe r->wpS à A E s (do đd λs=>Łc íd (r.toList.zipIdx.foldl (λa x=>şi Ţr x.1) ød) şc Ĕj ßd;return (failedOf (<-get)).isNone) Q Ğo:=by
  rintro r g ⟨r1,r2⟩;refine å (Ξc (ĵf (ô (h _ _ _ Ēm ?_ ?_ ?_ e3))));have:=cJ (F:=λa x=>şi Ţr x.1) (s:=d+k) (λ_ _ _=>rfl) (R:=Ôl e++R) r.toList Ħe (P++Êh k) 0 x (by rw[ex];simp only[Ś];rw[<-Ś ýh,êb,<-Ś ŏk,êb]) Õn r1.length_eq.symm
  rw[this];simp only[Ś];have a:(Ēm).Perm (Êh k++Ħe++Ôl e):=ði _ (ûi _ r1);rw[<-Ś ŏk ők,êb,Ś X,êb]at a;exact a;have m:∀q∈r.toList,q∈ôf k\/q∈Õf e:=λq f=>Ïa (r1.mem_iff.mp f)
  have tX:=êb k X;have tY:=êb e Y;have L:=H;have I:=N;rw[<-tX]at L;rw[<-tY]at I;refine ėe ⟨ėe ⟨(Ïc L).1,r2,λp j q f=>?_⟩,(Ïc I).2.1,λp j q f=>?_⟩;rcases m q f with z|z;exact(Ïc L).2.2 p j q z;exact Üb (d1 p j) (J q (ģe z));rcases Ïa j with j|j;exact Üb (d1 p j) (J q (Ċi f));rcases m p j with z|z;exact Üb (U p (Ċi z)) (f2 q f);exact(Ïc I).2.2 p z q f
 have A1:vd řf:=PN O λp j=>by rw[B]at j;rw[ex];exact ŀa _ (žc _ (Ċi j))
 have A2:vd őf:=PN O λp j=>by rw[G]at j;rw[ex];exact ŀa _ (ŀa _ (žc _ (ģe j)))
 have z1:(řf).size=Ů-k:=by rw[<-Ģ,B,řa]
 have z2:(őf).size=e:=by rw[<-Ģ,G,ĕa];omega
 have T:(ők).Pairwise yN:=ên (Þo _ _) H;have W:(ýh).Pairwise yN:=ên Ük N;have b0:őf[0]?=À u:=Jg (P:=[]) (R:=v.take (e-1)) (by rw[G,<-eY];obtain⟨n,rfl⟩:∃n,e=n+1:=⟨e-1,by omega⟩;rfl) rfl;have al:řf[Ů-k-1]?=À l:=Jg (P:=o.drop k) (R:=[]) (by rw[B,<-eX,List.drop_append_of_le_length Å]) Áo;generalize Áf (d+k) (d+Ů)=xx at *;generalize Áf (d+Ů) (d+Ů+e)=yy at *;refine xG (λ_=>å (y5h (t:=ôf k++Õf e) A1 A2 Å b0 ?_ ?_ λr g hr=>fin r g hr)) λ_=>å (y5g (t:=ôf k++Õf e) A1 A2 Å (y:=l) ?_ ?_ ?_ λr g hr=>fin r g hr);have a0:xh Ħe xx yy #[] 0 0:=⟨by rw[<-B,<-G];exact Žc _,B▸T,G▸W⟩;exact a0.pb b0 λq f=>Ęa êp;intro q f p j;rw[z1,D9 al,ĝe Ĵe]at j;rw[Ķ j];exact Ęa (f1 q (G▸f));rw[z1];exact al;have a0:xt Ħe xx yy #[] Ĳp yy.size:=by have t1:xx.toList.take Ĳp=xx.toList:=Ģc Ĵe;have t2:yy.toList.take yy.size=yy.toList:=Ģc (by rw[Ģ];exact æa _);unfold xt;rw[t1,t2,B,G];have pz:=List.Perm.append (Ĺi ők) (Ĺi ýh);exact⟨pz,Øi T,Øi W⟩
 exact a0.pa (by rw[z1];exact al) λq f=>Ęa (f1 q (G▸ģe f));intro q f p j;rw[HF b0]at j;rw[Ķ j];exact Ęa êp
omit a
def vU:Nat->Á ŝa->Á Ø->Prop
 |_,[],L=>L=[]|n,r::p,L=>r.1=n/\∃X M,L=X++M/\Ů=r.2.1/\X≠[]/\śj yN/\vU (n+r.2.1) p M
theorem bj:∀{p q:Á ŝa} {n:Nat} {L:Á Ø},vU n (p++q) L->∃M N,L=M++N/\vU n p M/\vU (n+Îh) q N
 | [],q,n,L,h=>⟨[],L,rfl,rfl,h⟩|r::p,q,n,L,h=>by obtain⟨g,X,M,rfl,c,d,f,e⟩:=h;obtain⟨M,N,rfl,a,b⟩:=bj e;exact⟨X++M,N,(Ś ..).symm,⟨g,X,M,rfl,c,d,f,a⟩,by rw[ä,c,<-Ùj];exact b⟩
theorem Cy:∀{p q:Á ŝa} {n:Nat} {M N:Á Ø},vU n p M->vU (n+Îh) q N->vU n (p++q) (M++N)
 | [],q,n,M,N,h,h2=>by rw[show M=[]from h]at h2 ⊢;exact h2|r::p,q,n,M,N,h,h2=>by obtain⟨e,X,M,rfl,a,b,d,c⟩:=h;exact⟨e,X,M++N,Ś ..,a,b,d,Cy c (by rw[ä,a,<-Ùj]at h2;exact h2)⟩
theorem bm:∀{p:Á ŝa} {n:Nat} {L:Á Ø},vU n p L->ċk<=ïa
 | [],n,L,h=>Ãa _|r::p,n,L,h=>by obtain⟨e,X,M,rfl,c,a,d,b⟩:=h;have:=bm b;have:=Ům a;rw[ä,Ă];omega
theorem bn{F:Nat×Nat×Nat->Nat×Nat×Nat}(a:∀r,(F r).1=r.1/\(F r).2.1=r.2.1):∀{p:Á ŝa} {k n:Nat} {L:Á Ø},vU n p L->vU n (p.modify k F) L
 | [],0,n,L,h=>h| [],_+1,n,L,h=>h|r::p,0,n,L,h=>by obtain⟨f,X,M,rfl,c,b,e,d⟩:=h;exact⟨(a r).1.trans f,X,M,rfl,ĸb (a r).2.symm,b,e,(a r).2▸d⟩
 |r::p,k+1,n,L,h=>by obtain⟨f,X,M,rfl,c,b,e,d⟩:=h;exact⟨f,X,M,rfl,c,b,e,bn a d⟩
def z96{x y:Ô Ø}{L R:Á Ø}{lo m:Nat}(ex:ōc=L++R)(o:ïa=lo)(c:∀k,k<lo->y[k]?=x[k]?)(l:jI y lo m)(n:lo+m<=ëe):∃X M,Ćb=L++Ġf/\Ů=m/\śj yN:=by
 have e:y.toList.take lo=L:=by
  refine Õg λk=>?_
  rw[ĥi]
  split;rename_i f;rw[ła,c k f,<-ła,ex,Ěb Å];rw[ëb Å]
 have d:(Éj).length=m:=by rw[ĕa,řa,Ģ];omega
 refine⟨(ŵh).take m,(ŵh).drop m,?_,d,List.pairwise_iff_getElem.mpr λi j a h b=>?_⟩;rw[êb,<-e,êb];have g:∀i (a:i<(Éj).length),K y űa=w8 Éj[i]:=by intro i a;have e:y[lo+i]?=À y[lo+i]:=getElem?_pos _ _ Å;unfold K;rw[e,ĺi,Ôg,ĝb];rfl
 have:=l i j (ìa b) Å;rw[g i a,g j h]at this;exact this
def mR{x y:Ô Ø}(h:(òo).Nodup)(p:Ùb x):cV y:=by
 have n:(ño).Nodup:=((Ái p).map w8).nodup_iff.mpr h;intro i j a b e
 have g:∀i (a:i<ëe),ño[i]?=À (K y i):=by intro i a;have e:y[i]?=À y[i]:=getElem?_pos y i a;rw[Œ,ła];unfold K;rw[e];rfl
 exact(Üo (by rw[é,Ģ];exact a) n).mp (by rw[g i a,g j b,e])
section
variable{ø:æ}{w:Þ}{A:ñ}{E:Value->É->Prop}{s:É}
def e9{x:Ô Ø}{p:Ô ŝa}{g i:Nat}{L R:Á Ø}{Q:Í->õ->Prop}(v:vd x)(ex:ōc=L++R)(l:vU 0 Úf L)(hi:i+1<ĕh)(h:∀y q g M,Ćb=M++R->M.Perm L->vU 0 űb M->ťc+1=ĕh->Q Â Ùd):wpS à A E s (Âh i) Q Øp:=by
 have F:p.toList.length=ĕh:=Ģ;obtain⟨⟨sa,T,U⟩,⟨K,W,B⟩,c⟩:∃r1 r2,Úf=Ñj i++r1::r2::Òj (i+2):=⟨Úf[i],Úf[i+1],by rw[<-ſc,<-ſc,êb]⟩;have j:(Ñj i).length=i:=by rw[ĕa];omega
 have o:(Òj (i+2)).length=ĕh-(i+2):=by rw[řa,F]
 generalize Ñj i=p1 at c j;generalize Òj (i+2)=p2 at c o;rw[c]at l;obtain⟨P,N,rfl,G,C⟩:=bj l;obtain⟨f,X,N,rfl,m,I,r,d,Y,N,rfl,k,z,H,b⟩:=C;dsimp only at f m d k b;obtain⟨O,xl,rfl⟩:=(çn X).resolve_left I;rw[én]at *;obtain⟨S,J,rfl⟩:=List.exists_cons_of_ne_nil z;subst m k;rw[ń]at f d;subst f;subst d;refine y5f v c j (P:=P) (R:=N++R) (by rw[ex];simp only[Ś]) rfl r H λy q g Z t a u n=>h y q g (P++(Z++N)) (by rw[t];simp only[Ś]) ?_ ?_ ?_;refine ûi _ ((ði N a).trans ?_);rw[Ś];rw[n];refine Cy G ⟨(Ţk).symm,Z,N,rfl,a.length_eq.trans (ä ..),?_,u,?_⟩;intro e;rw[e]at a;have:=a.length_eq;rw[ä,Ă]at this;cases this;rw[ń]at b ⊢;rw[Ùj]at b;exact b;have:=ů ģg n;rw[Ģ,ä,Ă,j,o]at this;omega
abbrev Gi:=úb (Æ õa×Nat)
noncomputable def Gh(lo n:Nat):Ł õ Sem Gi:=do
 đd λs=>Łc íd ød ((şc).push (lo,n,0)) Ĕj ßd
 pure (.yield (Ã,lo+n))
noncomputable def OO{β:Type}(r:Æ ŝa)(f:Nat->Nat->Nat->Ł õ Sem β)(g:Ł õ Sem β):Ł õ Sem β:=(sortPriv% PySem.Builtin.sortRuns.match_1) Ŭf r f λ_=>g
def cX(N lo n:Nat)(e:Nat->Nat->Nat):Ł õ Sem Gi:=do
 let d <-get
 OO (Āf).back? (λf g _=>do
  let r <-Łb [:N] ((Ã,()):Æ õa×õa) λ_ _=>do
   let d <-get
   OO (if(Āf).size>1 then Āf[(Āf).size-2]? else Ã) (λ_ _ a=>
    if a<=e f g then pure ĭo else do
     let b <-Âh ((Āf).size-2)
     if(!b)=Â then pure (.done (À (),()))else pure (.yield (Ã,()))) (pure ĭo)
  QZ r.1 (λr=>pure (.done (À r,lo))) do
   let _ <-đd λs=>Łc íd ød ((şc).modify ((şc).size-1) λx=>(sortPriv% PySem.Builtin.sortRuns.match_3) (λ_=>Nat×Nat×Nat) x λst c _=>(st,c,e f g)) Ĕj ßd
   Gh lo n) (Gh lo n)
inductive Gj(X M L:Á Ø):Æ õa×õa->õ->Prop
 |mk {y q g N}:Ćb=N++Ġf->N.Perm L->vU 0 űb N->Gj X M L (Ã,()) Ùd
def y5k{x y:Ô Ø}{q:Ô ŝa}{g k lo N:Nat}{L X M:Á Ø}{G:Nat->Nat->Nat}{Q:Gi->õ->Prop}(C:vd x)(H:Ùb x)(u:vU 0 űb L)(t:ïa=lo)(l:Ćb=L++Ġf)(m:Ů=k)(F:śj yN)(hk:1<=k)(h:∀y q g L,Ćb=L++M->ïa=lo+k->vU 0 űb L->Ùb x->Q (.yield (Ã,lo+k)) Ùd):wpS à A E s (cX N lo k G) Q Ùd:=by
 have o:∀{f:Ô Ø}{b},Æh=b++Ġf->Ól L->f.Perm x:=λe1 e2=>Array.Perm.trans (čm (by rw[e1,l];exact ði _ e2)) H
 have j:∀{f:Ô Ø}{a:Ô ŝa} {n b},Æh=b++Ġf->Ól L->vU 0 Ĕk b->wpS à A E s (Gh lo k) Q (yE f a Ã n):=by intro f a n b e1 e2 d;refine å (ξ (ô (h _ _ _ (b++X) (by rw[Ś];exact e1) (by rw[ä,řp,t,m]) ?_ řr)));show vU 0 (a.push (lo,k,0)).toList _;rw[Ĺe];exact Cy d ⟨by rw[ń,řp,t],X,[],(Ąh).symm,m,λe=>įa hk (m▸ů ģg e),F,rfl⟩
 refine å èf;show wpS _ _ _ _ (OO q.back? _ _) _ _;cases q.back? with
 |Ã=>exact j l Ąd u|À r=>
  refine å (Ρa (Ğc (I:=λ_=>Gj X M L) (Q:=Gj X M L) ?_ (λ_ _ h=>h) (.mk l Ąd u)));rintro _ _ _ _ _ ⟨e1,e2,d⟩;rename_i f a n b;refine å èf;show wpS _ _ _ _ (OO (if ĭ>1 then a[ĭ-2]? else Ã) _ _) _ _;by_cases c:ĭ>1;rw[Ë c];cases a[ĭ-2]? with
  |Ã=>exact ô èj|À r=>exact xG (λ_=>ô èj) λ_=>å (e9 (p:=a) (i:=ĭ-2) (Uw C řr) e1 d Å λK P O M2 z v B J=>ô (.mk z (v.trans e2) B))
  rw[Ï c];exact ô èj;rintro _ _ ⟨e1,e2,d⟩;refine å (ξ (j e1 e2 ?_));show vU 0 (Array.modify _ _ _).toList _;rw[Array.toList_modify];refine bn ?_ d;exact λ⟨_,_,_⟩=>⟨rfl,rfl⟩
inductive OT(x:Ô Ø)(z:Nat):Æ õa×Nat->õ->Prop
 |mk {lo y q g L R}:Ćb=L++R->ïa=lo->vU 0 űb L->Ùb x->z<=lo->OT x z (Ã,lo) Ùd
def y5j{x:Ô Ø}{g:Nat}{Q:õa->õ->Prop}(u:vd x)(Y:(òo).Nodup)(h:∀y q g,Ùb x->y.toList.Pairwise yN->Q () Ùd):wpS à A E s Þr Q (yE x #[] Ã g):=by
 unfold Þr;refine å èf;refine å (Ρa (Ğc (I:=λz=>OT x z) (Q:=λc st=>c.1=Ã/\∃y q g,st=yE y q Ã g/\vU 0 űb Ćb/\Ùb x) ?_ ?_ (.mk (L:=[]) (R:=ōc) rfl rfl rfl Řk Ċ)));rintro z _ _ _ hz ⟨f,t,d,a,l⟩;rename_i lo y q g L R;have J:=Çk;have ll:ëe=lo+ķb:=by rw[<-Ģ,f,ä,t]
 refine xG èk λc=>?_;have:R=[]:=Îi (by dsimp only at c;omega);subst this;rw[ëa]at f;exact ô ⟨rfl,y,q,g,rfl,f▸d,a⟩;replace c:lo<üa:=by dsimp only at c;omega
 refine å (y59 (lo:=lo) (n:=üa-lo) (Uw u a) (mR Y a) Å Å λm y1 B P H v O=>?_);have A1:=Uw u (Ŏk a);have z1:=(Ŏk a).size_eq
 have U:∀{k i T},1<=k->lo+k<=üa->i.Perm y->(∀j,j<lo->i[j]?=y[j]?)->jI i lo k->wpS à A E s (cX üa lo k T) (λr st=>pJ ęl Ên r) (yE i q Ã g):=by intro k i T N h4 C p K;obtain⟨X,M,eY,lX,Z⟩:=z96 (m:=k) f t p K (by rw[(ōk a).size_eq];exact h4);exact y5k u (ōk a) d t eY lX Z N λy q g L e1 e2 e3 e4=>.mk e1 e2 e3 e4 (Æp l N)
 refine ĉe (Q:=λr st=>pJ ęl Ên r) ?_ λr st h=>by cases r<;>exact h
 refine xG (λo=>å (Θa (y58 (lo:=lo) (n:=min (üa-lo) (minRun' üa üa 0)) (ok:=m) A1 ?_ ?_ O λi C p K=>xG (λc=>nomatch c) λ_=>U ?_ ?_ (ōk B) (λk S=>(p k S).trans (P k S)) K))) λo=>U H Å B P O;omega;exact Źi ⟨v,ìa o⟩;exact Źi ⟨ŏ H v,ŏ H (ìa o)⟩;exact ŏ (ńd (Nat.min_le_left ..) _) ĩp;rintro _ _ ⟨f,t,d,a,l⟩;rename_i lo y q g L R;have J:=Çk;have ll:ëe=lo+ķb:=by rw[<-Ģ,f,ä,t]
 have:R=[]:=Îi (by dsimp only at l;omega);subst this;rw[ëa]at f;exact⟨rfl,y,q,g,rfl,f▸d,a⟩;rintro⟨_,lo⟩ _ ⟨rfl,y,q,g,rfl,d,a⟩;refine å (Ρa (Ğc (I:=λz c st=>c=(Ã,())/\∃y q g,st=yE y q Ã g/\vU 0 űb Ćb/\Ùb x/\(ťc<=1\/ťc+z<=üa)) (Q:=λc st=>c=(Ã,())/\∃y q g,st=yE y q Ã g/\vU 0 űb Ćb/\Ùb x/\ťc<=1) ?_ ?_ ⟨rfl,y,q,g,rfl,d,a,.inr ?_⟩));rintro z _ _ _ hz ⟨rfl,y,q,g,rfl,d,a,F⟩;refine å (ĵf (θ (λc=>ô ⟨rfl,y,q,g,rfl,d,a,c⟩)))
 replace c:¬ ťc<=1:=c
 refine å (e9 (Uw u a) (Ąh).symm d ?_ λi p g2 M G o W c4=>?_);have:∀(b:Prop) [Õk b],(if b then ťc-2-1 else ťc-2)+1<ťc:=λb _=>by split<;>omega
 exact this _;rw[ëa]at G;refine ô ⟨rfl,i,p,g2,rfl,G▸W,(čm (G▸o)).trans a,.inr Å⟩;rintro _ _ ⟨rfl,y,q,g,rfl,d,a,F⟩;exact⟨rfl,y,q,g,rfl,d,a,by rw[ăj]at F;dsimp only at F;omega⟩;have:=bm d;rw[Ģ,Ģ,Çk]at this;exact this;rintro _ _ ⟨rfl,y,q,g,rfl,d,a,F⟩;refine ô (h y q g a ?_)
 match e:űb,d,(Ģ (xs:=q))with
 | [],d,_=>rw[show Ćb=[]from d];exact Ög| [r],d,_=>obtain⟨_,X,M,e,_,_,h5,h6⟩:=d;rw[e,show M=[]from h6,ëa];exact h5
 |_::_::_,_,v=>simp only[Ă]at v;omega
def y06(f:ð a=À (Âf đ ťa n))(l:Ľb vs ns)(C:ns.Nodup)(hz:Ą<=Ý)(h:∀(out:Ô Value)(b:Á Int),Ľb Ĺg b->Ól ns->ŋq (·<=·)->P (.done ĉn) { s with á:=sortedHeap Ü a vs out }):Ó à A (Builtin.«list.sort» ⟨Ôa,[]⟩) P E s:=by
 by_cases h64:Ą<64;exact žo f l h64 h
 obtain⟨m,o,r,rfl⟩:∃m o r,vs=m::o::r:=by
  match vs,h64 with
  | [],h=>exact Û Ð h| [_],h=>exact Û (show 1<64 by decide) h|m::o::r,_=>exact⟨m,o,r,rfl⟩
 generalize e:m::o::r=vs at *;have k:¬ vs.toArray.size<2:=by rw[Ĕ];omega
 have B:a<Õ:=Č f;obtain⟨c,u⟩:∃c,(Õd a (ÿb λ_=>#[])).get? a=À ŋo:=⟨_,get?_update_seq f (λ_=>#[])⟩
 have v:((Ŏl).push łd).get? a=À ŋo:=by rw[áo _ _ _ (by rw[Ŕj,Ėo];exact Ŭ (Õc B)),áo _ _ _ (by rw[Ėo];exact Ŭ B)];exact u
 rw[list_sort_plain];refine Ì (listItems_at f rfl (Ì (Ćp f rfl (hsz:=by rw[Ĕ];exact hz) ?_)));refine Ì (âq u rfl (Ì (ći ?_ (by exact hz))));refine Ì (Ēi (ża ?_));show Ó à A _ P E { s with á:=(Ŏl).push łd };rw[Ï k,Ï k,<-e,keyKind_ints (e▸l),e];refine Ì (Γa (Ĭa (y5j (x:=pairsOf vs) (g:=7) (Q:=λ_ st=>(Żq).Perm ēj/\failedOf st=Ã/\SortedTo Żq (ēj).size) ?_ ?_ ?_) ?_ λ_ _ e=>e));intro i p d;exact l.intKeys p Ĥp;have:(ēj).toList.map w8=ns:=by rw[pairsOf_toList,show w8=numOf∘Prod.fst from rfl,<-Şb,ďo Ċ,l.nums]
 rw[this];exact C;intro y q g d t;refine⟨d,rfl,λi j O N=>?_⟩;have z:=d.size_eq;have F:y[i]?=À y[i]:=getElem?_pos y i Å;have I:y[j]?=À y[j]:=getElem?_pos y j Å;unfold K;rw[F,I];by_cases c:i=j;subst c;exact Èb _;have:=ďe t i j Ĵe Ĵe Å;rw[ĝb,ĝb]at this;exact this;rintro⟨⟨⟩,st⟩ _ ⟨rfl,d,J,t⟩;dsimp only;refine Ì (âq v rfl (Ì (Ćp v rfl ?_ (hsz2:=by refine ŏ (śe ((Array.size_map ..).trans (d.size_eq.trans (pairsOf_size _)))) (Óg hz)))));rw[J];simp only[Ķi,Œb,Õa];obtain⟨b,G,L,H⟩:=sorted_out l d t;exact ë (h _ b G L H)
def y08(v:ğa=Ã)(lo:Ŝa=Ä)(n:Ðj ăa a kvs ep)(hk:öf (·.1)=Ŏa Ş)(hz:Ŝ<=Ý)(h:∀h' tk p out c ns',Õ<=p->ā p=À Ŋo->Ľb Ĺg ns'->ns'.Perm ns->ŕp (·<=·)->(∀b ob,ð b=À ob->ā b=À ob)->Q ŝ { s with á:=h',Ć:=tk }) :Ó à A ĝp Q E s:=by
 have k:ŗ=Ŝ:=by
  have:=ů ģg hk
  rwa [é,é]at this
 have B:ns.Nodup:=by have:=n.nodup;rw[hk]at this;exact(List.pairwise_map.mp this).imp λh z=>h (ů _ z)
 refine øm æq œp Řp ĥo ?_;unfold Builtin.«sorted»;refine Ì (m:=ŉq įb 1 1 _) (Γa (lf (by exact v) lo n (k▸hz) λl tk d g q j o=>Ì (Ēi ?_ þn)));have x:=rR d kvs ns g hk q;have i:(l.push ñn).get? åq=À ñn:=Ţ _ rfl;refine Ì (ża (őb źo ⟨_,i,rfl⟩ Ļo (y06 i x B þn λout ns' y t r=>⟨_,rfl,?_⟩) Êo));obtain⟨c,u⟩:=ăp (vs:=d) (out:=out) i;refine ë ⟨_,rfl,h _ tk åq out c ns' (ìa j) u y t r λb ob e=>?_⟩;have f:=Č ųq;rw[Źo Űp (by rw[Ŕj];exact Õc f)];exact ċ _ ųq
omit a
section
variable{X:Cx}
def z78:Á V->Hp->VK->Prop:=λb H Q=>∃(a:Ç) (kvs:Á ķa) (ns:Á Int),b=Ôa/\Rd H a ùa/\öf (·.1)=Ŏa Ş/\Ŝ<=Ý/\∀l,H l=Ã->Q ûc Êm
def lJ(b:Ű=Â):vA X Îg z78:=by
 intro T s σ H R S Q I r h;obtain⟨a,E,d,rfl,v,G,i,q⟩:=h;obtain⟨u,rfl,O⟩:=u_ r;cases(show u=Đ a from O);obtain⟨_,y,n,e,o,K,B,F,l,P,L,k,N⟩:=kO ĝ v;have m:Ðj Đj a n B:=⟨o,K,F,l,P,L,k,N⟩;refine y08 ŝk y m ((Sn e).trans G) i λh' A p g c f j t z x J C=>?_
 obtain rfl:f=łb d:=Gf (Ôe (ŀc d).symm) J (Fg d);refine⟨.ref p,_,Úb (t':=A) (h':=h') C j (show xU ö X.w _ _ _ (Α ((łb d).map Ĕb))from⟨?_,g.toList,c,Fe z,?_⟩),rfl,q _ (řb j)⟩;rw[é,(ŀc d).length_eq];exact i;rw[Ĕn];exact t
omit a
omit L2
namespace L3
open ľ Ŕ ň L2
def DM:Á D->Æ D
 | [.dic ks _]=>(VC ks).bind λa=>À (Α (ωa (łb a)))|_=>Ã
def z9j(b:Ű=Â)(B:Gl X įb)(o:ó įb=Ã)(C:SA X [e] fs)(z:Ê Ća q12) :SF X (Νb ōp) (eL DM fs):=by
 obtain⟨t,r,k⟩:=C.h;refine⟨⟨_,(O6 (p:=p) (pos:=pos) (lJ b) B o Px ⟨r⟩ Ð Ð Âo).h,λ{L K G H τ σ d Q} E f q=>?_⟩⟩;obtain⟨x,n,f⟩:=zD f;refine k E n λI J N g F=>?_
 match x,f with
 | [.dic ks xs],f=>
  obtain⟨i,j,f⟩:=zD f;cases f;obtain⟨v,rfl,a,s,rfl,y,u,w,l⟩:=qc F
  have m:ôc<=Ý:=by have:=Ĭj w;rw[Fm j,é]at u;omega
  refine⟨a,Ďf s,i,rfl,ŗc g.gh y,?_,m,λA c=>?_⟩;rw[<-Fm j];exact ďo Å;refine q A _ _ (Ňk (ļa g.gh c)) (g.h.free c) (ôr c) ⟨_,yk,Ãf,?_⟩;rw[é,(ŀc i).length_eq];exact m
def Gn(K:Î)(x:Str):Prop:=ş K ă x=À Ã
def Gs(K:Î)(x:Str)(v:Value):Prop:=ş K ă x=À Éa
def Tq(K:Î)(d:Æ Ç)(a:Ç)(vs:Á Value):Prop:=∃n sl,Ça a=À ⟨.type Ũ,d,.seq ťa n,sl⟩
def Dc(K:Î)(w:Þ)(a:Ç)(l:Á Üg):Prop:=(∃n,Ça a=À { cls:=.type Üa,ü:=.dict (ģl).toArray n })/\Ŝa=Ä
noncomputable def vD:Á Value->Æ Óp
 | []=>À ([],[])|.int i _::r=>(Ĭh).bind λp=>À (.int i::p.1,.int i::p.2)|.str s _::r=>match Ăc Øf 1000 with
  |Â=>(Ĭh).bind λp=>À (.str s::p.1,.str s::p.2)|Ä=>Ã
 |_=>Ã
def vT(vs:Á Value):Æ Óp:=match Ăc Ą 1000 with
 |Â=>vD vs|Ä=>Ã
section
variable{K:Î}{w:Þ}{h:Heap}{mg:Str->Æ Value}{a:Ç}{x:Str}{v:Value}{d:Æ Ç}{n:Nat}{i:Int}{t:Tok}{s:Str}{sl:Ô ţa}{vs:Á Value}{us:Á V}{ds:Á D}{l:Á Üg}
def gn_mk(h:ş K ă x=À Ã):Gn K x:=h
def gs_mk(h:ş K ă x=À Éa):Gs K x v:=h
def tq_mk(h:Ça a=À ⟨.type Ũ,d,.seq ťa n,sl⟩):Tq K d a vs:=⟨_,_,h⟩
def dc_mk(h:Ça a=À { cls:=.type Üa,ü:=.dict (ģl).toArray n })(q:Ŝa=Ä):Dc K w a l:=⟨⟨n,h⟩,q⟩
def qU(X:š h)(G:đa ă mg)(g:Gn K x):mg x=Ã:=W.mg_none_of X G g
def gM(X:š h)(G:đa ă mg)(g:Gs K x ő):vF mg x ő:=⟨_,řc X G g,rfl⟩
def X2(X:š h)(G:đa ă mg)(g:Gs K x ŏg):vF mg x ða:=⟨_,řc X G g,⟨_,rfl⟩⟩
theorem HM:∀{vs:Á Value}{us:Á V}{ds:Á D},vD vs=À (us,ds)->zf us vs/\∀H,ã K H ds us
 | [],_,_,e=>by cases e;exact⟨.nil,λ_=>rfl⟩|.int i t::r,_,_,e=>by obtain⟨p,e1,e⟩:=zD (show(Ĭh).bind _=_ from e);cases e;obtain⟨b,c⟩:=HM e1;exact⟨.cons ⟨_,rfl⟩ b,λH=>⟨_,_,rfl,rfl,c H⟩⟩
 |.str s t::r,_,_,e=>by
  cases z:Ăc Øf 1000 with
  |Ä=>rw[show vD Ŋp=match Ăc Øf 1000 with|Â=>_|Ä=>Ã from rfl,z]at e;cases e
  |Â=>rw[show vD Ŋp=match Ăc Øf 1000 with|Â=>_|Ä=>Ã from rfl,z]at e;obtain⟨p,e1,e⟩:=zD (show(Ĭh).bind _=_ from e);cases e;obtain⟨b,c⟩:=HM e1;exact⟨.cons ⟨_,rfl⟩ b,λH=>⟨_,_,rfl,⟨rfl,Þb (ūf z)⟩,c H⟩⟩
def Z4(g:Tq K d a vs)(e:vT vs=À (us,ds))(H:Hp):zS K H ůr ő:=by
 obtain⟨n,sl,g⟩:=g;cases z:Ăc Ą 1000 with
 |Ä=>rw[show vT vs=match Ăc Ą 1000 with|Â=>_|Ä=>Ã from rfl,z]at e;cases e
 |Â=>rw[show vT vs=match Ăc Ą 1000 with|Â=>_|Ä=>Ã from rfl,z]at e;obtain⟨b,c⟩:=HM (K:=K) e;have q:=Þb (ūf z);exact⟨a,us,rfl,lz g q b H,c H,by rw[<-(c H).length,ça];exact q⟩
def Z3(g:Tq K Ã a vs):Mo K a:=let ⟨_,_,g⟩:=g;⟨_,g,rfl,rfl⟩
theorem RZ:∀l:Á Üg,gA w (ŵa λp=>(⟨Åp w.params p.1,.str p.1 p.2.1,p.2.2⟩:ñd)) (ŵa (·.1)) (ŵa (·.2.2))
 | []=>.nil|_::l=>.cons (RZ l)
omit a
abbrev HD(x:Str)(ps:Á Str)(k:Nat)(F:Á D->Æ ì)(P:æ)(w:Þ)(K:Î)(mg:Str->Æ Value)(È:Heap):Prop:=wW P w K mg È x ps k ìf
def Yj(K:Î)(m q:Str)(st:Ù)(ps:Á Str)(f:Ç):Prop:=Ēd K ĕ=Â/\Øa K ĕ=Â/\∃fd,wj K m q st f fd/\vt K fd ps []
def Ul(K:Î)(m:Str)(f:Ç)(c:Str):Prop:=∃C,ş K ă c=À îa/\tD K C/\ġa K ĩ m=À ũa
def gD(K:Î)(c d m q:Str)(st:Ù)(ps:Á Str):Prop:=∃f,Ul K m f c/\Ul K m f d/\Yj K m q st ps f
def JX(K:Î)(c q:Str)(st:Ù)(ps:Á Str):Prop:=∃C f,ş K ă c=À îa/\Ÿd K C=Â/\ġa K ĩ Ěa=À ũa/\Øa K ĩ=Â/\Yj K Ěa q st ps f
def JQ(K:Î)(c m q:Str)(st:Ù)(ps:Á Str):Prop:=∃C f,ş K ă c=À îa/\Ħj K ĩ Ģi=À Šh/\Ëk K C þg=Â/\Ìk K ĩ þg m=À ůj/\Yj K m q st ps f
def qt(K:Î)(x:Str)(st:Ù)(f:Ç):Prop:=ş K ă x=À ũa/\zT K x st
section
variable{K:Î}{w:Þ}{mg:Str->Æ Value}{h:Heap}{c d m q x:Str}{st:Ù}{ps xs ns:Á Str}{f a:Ç}{C D:Ç}{sp:Sp}{k:Nat}{l:Á Üg}{fs:Á Ç}
def cls_mk(a:Ŵe K C Ïk=Â)(c:Ġg K C=Â)(d:ħj K C=Â)(b:ġa K ĩ Îj=À ũh):tD K C:=⟨a,c,d,b⟩
def mdp_mk{j:Value}{o d:Æ Ç}{n:Ô ţa}{h kV g c a ct:Value}(i:Ēd K ĕ=Â)(l:Ça f=À ⟨j,o,.func Ém,n⟩)(e:ĵb K a q=Â)(k:Øa K ĕ=Â)(b:vt K Ém ps []):Yj K m q st ps f:=⟨i,k,_,Ru l e k,b⟩
def mtc_mk(n:ş K ă c=À îa)(a:tD K C)(g:ġa K ĩ m=À ũa):Ul K m f c:=⟨C,n,a,g⟩
def mtp_mk(a:Ul K m f c)(b:Ul K m f d)(e:Yj K m q st ps f):gD K c d m q st ps:=⟨f,a,b,e⟩
def mkp_mk(n:ş K ă c=À îa)(a:Ÿd K C=Â)(g:ġa K ĩ Ěa=À ũa)(b:Øa K ĩ=Â)(e:Yj K Ěa q st ps f):JX K c q st ps:=⟨C,f,n,a,g,b,e⟩
def cmp_mk(n:ş K ă c=À îa)(b:Ħj K ĩ Ģi=À Šh)(a:Ëk K C þg=Â)(g:Ìk K ĩ þg m=À ůj)(e:Yj K m q st ps f):JQ K c m q st ps:=⟨C,f,n,b,a,g,e⟩
def fnq_mk{i e:Æ Ç}{g:Ô ţa}{j kV h d b ct:Value}(a:ş K ă x=À ũa)(l:Ça f=IA x st j i g kV h d e b ct)(c:ĵb K b x=Â)(k:Øa K ĕ=Â):qt K x st f:=⟨a,fnp_mk a l c k⟩
def gD.hh(a:gD K c d m q st ps)(P:æ)(w:Þ)(mg:Str->Æ Value)(e:Heap)(ok:∀{f fd},wj K m q st f fd->yz P w K mg e yq k f fd ps sp):jY P w K mg e c m ps k sp/\jY P w K mg e d m ps k sp:=by obtain⟨f,⟨C,p,l,n⟩,⟨D,j,h,o⟩,i,g,fd,F,b⟩:=a;exact⟨⟨C,f,fd,p,l,⟨n,i,g⟩,b,ok F⟩,⟨D,f,fd,j,h,⟨o,i,g⟩,b,ok F⟩⟩
def JX.hh(a:JX K c q st ps)(X:š h)(G:đa ă mg)(P:æ)(w:Þ)(d:Heap)(ok:∀{f fd},wj K Ěa q st f fd->yz P w K mg d yq k f fd ps sp):MV P w K mg d c ps k sp:=by obtain⟨C,f,n,e,g,j,i,l,fd,F,b⟩:=a;exact⟨C,f,fd,n,řc X G n,⟨e,g,i,j⟩,b,ok F⟩
def JQ.hh(a:JQ K c m q st ps)(X:š h)(G:đa ă mg)(P:æ)(w:Þ)(d:Heap)(ok:∀{f fd},wj K m q st f fd->yz P w K mg d yq k f fd ps sp):JT P w K mg d c m ps k sp:=by obtain⟨C,f,n,l,e,g,i,j,fd,F,b⟩:=a;exact⟨⟨C,f,fd,_,řc X G n,l,e,g,j,b,ok F⟩⟩
def qt.n(a:qt K x st f)(X:š h)(G:đa ă mg):mg x=À ĕ:=řc X G a.1
def mE(g:Dc K w a l)(e:ŵa (·.2.2)=Ăd Đ)(b:xs.Nodup)(ex:ŵa (·.1)=xs)(m:Yk mg ns fs):ZM K w mg a ŗq ns:=by obtain⟨⟨n,g⟩,q⟩:=g;subst ex;exact n5 g (e▸RZ l) b q m
omit a
section
variable{K:Î}{n:Nat}{P:Á V}{G0 H0 G H:Hp}{β:yB}{σ:St}
theorem gC.tup(h:gC K n P G0 H0 G H β σ ms vs)(I:H p=Ã)(Z:Ĉa<=Ý) :zh K Ĝ P G0 H0 ųn Ũi (υa (.tp ms)) Ŕo:=by
 obtain⟨L,H1,E,T,a,b⟩:=h;obtain⟨R,F⟩:=þa;have B:G p=Ã:=ĕp I;have A:∀q,q≠p->Ũi q=H q:=λq z=>yP z
 have J:∀q,q≠p->ųn q=G q:=λq z=>yP z
 have r:∀q,L q->Bx H q:=âd (λm _ v L1 oo=>oo.cells m v L1) T
 have k:∀q,Bx H q->q≠p:=λq z w=>by subst w;exact z.some I
 have C:∀i q,R i q->¬ L q:=λi q z w=>by have e:=šb.2.1;rw[Źk.2.2]at e;exact šb.2.2.some e
 have Y:¬ L p:=λz=>k p (r p z) rfl
 have S:H0 p=Ã:=by
  cases e:H0 p with
  |Ã=>rfl|À o=>have:=ĉd p o ((b p Y).trans e);rw[I]at this;cases this
 have l:∀q,Bx H q->Bx Ũi q:=λq z=>by obtain⟨u,N,Q⟩:=z;exact⟨u,(A q (k q ⟨u,N,Q⟩)).trans N,Q⟩
 refine⟨⟨Ėp ģk,λq o z=>?_,bq Ńa,λq z=>?_⟩,by rw[ä,Ĵ];rfl,by rw[ä,Į];rfl,by have:=Ăa;omega,λi w h=>?_,λj=>if j<n then R j else if j=n then L else λ_=>î,λi t h=>?_,λi j q O f d=>?_,λi q z=>?_⟩;have c:¬ L q:=λw=>by rw[Źk.2.1]at z;cases z
 rw[A q λw=>by subst w;rw[S]at z;cases z];exact ĉd _ _ ((b q c).trans z);rcases HL z with e|e;exact .inr (e▸S);rcases źd q e with w|w;exact .inl w;by_cases c:L q;exact .inr (a q c).2.1;rw[b q c]at w;exact .inr w;have X:i<σ.length:=by rw[Ĵ];exact ņ Ĥa.1 Ăa
 rw[xr X];exact œa i w h;rcases Y0 h with⟨c,e⟩|⟨c,e⟩;rw[Į]at c;obtain⟨w,W,ow⟩:=ű i t e;refine⟨w,by rw[xr Äd];exact W,?_⟩;simp only[Ë c];exact ow.loc ģk t w _ λq z=>A q (k q šb.2.2);cases e;rw[Į]at c;subst c;refine⟨_,uH Ĵ,?_⟩;simp only[Ŏb,Õa,ŋ];exact⟨p,vs,rfl,ŭc yk,Ňc (λt _ U L3 s o=>úe ģk t U L3 λq z=>A q (k q (r q ŭk))) T,Z⟩;split at f;split at d;exact Ń i j q O f d;split at d;exact C i q f d;exact d;split at f;split at d;exact C j q d f;split at d;exact O Å;exact d;exact f;split at z;obtain⟨x,y,w⟩:=ų i q z;exact⟨(J q (k q w)).trans x,by rw[b q (C i q z)]at y;exact y,l q w⟩;split at z;exact⟨(J q (k q (r q z))).trans Ćf.1,Ćf.2.1,l q (r q z)⟩;exact ł
def zh.two(E:zh K Ĝ P G0 H0 G H (υa (.tp [m1,m2])) Äb)(d:σ.length=n)(f:β.length=n)(U:èa<=n) :∃p v1 v2,v=.ref p/\yo K G p [v1,v2]/\zh K (n+1+1) P G0 H0 G H (β++[À m1]++[À m2]) (σ++[À v1]++[À v2]):=by
 obtain⟨k,F⟩:=þa;obtain⟨u,O,Z⟩:=ű n _ (uH f);rw[uH d]at O;cases O;obtain⟨p,vs,rfl,T,⟨v1,r,m,Q,rfl,Y,⟨v2,r2,l,L4,rfl,o2,⟨rfl,n4⟩,_,u2⟩,J,A⟩,_⟩:=Z;have s:∀q,l q->Q q:=λq z=>(u2 q).mpr ťb
 have x:∀q,m q->k n q:=λq z=>(A q).mpr ťb
 have o:∀q,l q->k n q:=λq z=>(A q).mpr ęi
 have g:(σ++[À v1]).length=n+1:=by rw[ä,d];rfl
 have L:(β++[À m1]).length=n+1:=by rw[ä,f];rfl
 refine⟨p,v1,v2,rfl,T,Ņb,by rw[ä,g];rfl,by rw[ä,L];rfl,by omega,λi w h=>?_,λj=>if j<n then k j else if j=n then m else if j=n+1 then l else λ_=>î,λi X h=>?_,λi j q y S R=>?_,λi q z=>?_⟩;have I:i<σ.length:=by rw[d];exact ņ Ĥa.1 U
 have:=œa i w h;rw[xr I]at this;rw[xr Ři,xr I];exact this;rcases Y0 h with⟨c,e⟩|⟨c,e⟩;rcases Y0 e with⟨c,e⟩|⟨c,e⟩;rw[f]at c;obtain⟨w,N,W⟩:=ű i X (by rw[xr (by rw[f];exact c)];exact e);rw[xr Èo]at N;refine⟨w,by rw[xr Ři,xr Èo];exact N,?_⟩;simp only[Ë c];exact W;cases e;rw[f]at c;subst c;refine⟨v1,by rw[xr Ři];exact uH d,?_⟩;simp only[Ŏb,Õa,ŋ];exact Y;cases e;rw[L]at c;subst c;refine⟨v2,uH g,?_⟩;simp only[show ¬ n+1<n by omega,show ¬ n+1=n by omega,Õa,ŋ];exact o2;have t:∀i q,(if i<n then k i else if i=n then m else if i=n+1 then l else λ_=>î) q->(i<n/\k i q)\/(i=n/\m q)\/(i=n+1/\l q):=λi q z=>by split at z;exact .inl ⟨‹_›,z⟩;split at z;exact .inr (.inl ⟨‹_›,z⟩);split at z;exact .inr (.inr ⟨‹_›,z⟩);exact ł
 rcases t i q S with⟨B,a⟩|⟨B,a⟩|⟨B,a⟩<;>rcases t j q R with⟨C,b⟩|⟨C,b⟩|⟨C,b⟩;exact Ń i j q y a b;exact Ń i n q Å a (x q b);exact Ń i n q Å a (o q b);exact Ń j n q Å b (x q a);exact y Å;exact J q a (s q b);exact Ń j n q Å b (o q a);exact J q b (s q a);exact y Å;split at z;exact ų i q z;split at z;exact ų n q (x q z);split at z;exact ų n q (o q z);exact ł
omit a
def zh.fW{K:Î}{n:Nat}{P:Á V}{A y G H:Hp}{β:yB}{σ:St}{i:Nat}{d:D}(E:zh K n P A y G H β σ)(h:β[i]?=À Łr):∃G',zh K n P A y G' H Ŝf σ:=by obtain⟨J,F⟩:=þa;obtain⟨u,O,p,rfl,o,v⟩:=ű i _ h;obtain⟨g,I,Q⟩:=ų i p ((v p).mpr rfl);obtain⟨w,C,r⟩:=o.wU g;have B:=vJ g w;refine⟨zX G p w,E.ext.wU I g C,Ĵ,by rw[ŭ];exact Į,Ăa,œa,λj=>if j=i then ŵe else J j,λj x N=>?_,λj k q f s l=>?_,λj q z=>?_⟩;rcases vS N with⟨rfl,m⟩|⟨f,m⟩;cases m;refine⟨_,O,?_⟩;simp only[ŋ];exact⟨r,λ_ z=>z⟩;obtain⟨u,t,L⟩:=ű j x m;refine⟨u,t,?_⟩;simp only[Ï f];exact L.loc B x u _ λq z=>rfl;split at s;exact s;split at l;exact l;exact Ń j k q f s l;split at z;exact ł;rename_i f;obtain⟨a,b,c⟩:=ų j q z;exact⟨(yP λe=>Ń j i q f z ((v q).mpr e)).trans a,b,c⟩
noncomputable def C3(i:Nat)(g:yQ):yQ:=λβ=>match β[i]? with
 |À Łr=>g Ŝf|_=>Ã
def z0v{X:Cx}{b i:Nat}{st:Á Ù}{g:yQ}(h:qP X b st g):qP X b st (C3 i g):=by
 obtain⟨t,p,k⟩:=h.h;refine⟨⟨t,p,λe E a q=>?_⟩⟩;unfold C3 at a
 split at a;rename_i d f;obtain⟨j,c⟩:=E.fW f;exact k e c a q;cases a
structure ML(X:Cx)(es:Á Ñ)(fs:yB->Æ åd):Prop where
 h:∃t,PA X es t/\∀{P:Á V}{G0 H0 G H:Hp}{β β':yB}{σ:St}{ms:Á M}{Q:Á V->Hp->Prop},zh X.K ò P G0 H0 G H β σ->fs β=À (ms,β')->(∀vs G' H',zo G G'->gC X.K ò P G0 H0 G' H' β' σ ms vs->Ą=Ĉa->Q vs H')->t σ H Q
noncomputable def By(fs:yB->Æ åd):xm:=λβ=>(fs β).bind λr=>match Ăc r.1.length 1000 with
 |Â=>À (.tp r.1,r.2)|Ä=>Ã
noncomputable def Tr(i j:Nat)(f:xm):yQ:=λβ=>(ĺa).bind λr=>match r.1 with
 |.tp Āe=>À (.nx ((r.2.set i (À a)).set j Ũk))|_=>Ã
section
variable{X:Cx}{e v:Ñ}{es:Á Ñ}{x y:Str}{pos:Pos}{f:xm}{fs:yB->Æ åd}
def z0t:ML X [] T7:=⟨⟨_,XR,λ{P d c G H β β' σ b Q} E a q=>by cases a;exact q [] _ _ ÿf (gC.nil E) rfl⟩⟩
def A9(hv:MC X e f)(s:ML X es fs)(h:Ê Ća q12):ML X ď (V3 f fs):=by
 obtain⟨z,x,y⟩:=Ďc;obtain⟨K,w,v⟩:=s.h;refine⟨⟨_,Zt x w h,λ{P O N G H β β' σ B Q} E c q=>?_⟩⟩;obtain⟨⟨m,β1⟩,r,c⟩:=zD c;obtain⟨⟨t,β2⟩,k,c⟩:=zD c;cases c;refine y E r λu I A p j=>?_
 obtain⟨L,C,d,o,a,b⟩:=j.hold Ăa;refine v d k λn J F i h l=>?_
 exact q (u::n) _ _ (ñh i) (gC.cons o a b d.ext.g i h) Äo
def z0m(h:ML X es fs):MC X Ňi (By fs):=by
 obtain⟨t,e,f⟩:=h.h;refine⟨⟨_,aQ e,λ{P s r G H β β' σ m Q} E a q=>?_⟩⟩;obtain⟨⟨o,β1⟩,i,a⟩:=zD a
 split at a;rename_i c;cases a;refine f E i λj n u g d l=>⟨by rw[l];exact Þb (ūf c),λp b=>?_⟩
 refine q _ _ _ (Ňk (vJ ?_ _)) (d.tup b (Þb (ūf c)));obtain⟨_,_,E2,_⟩:=d;exact E2.ext.gh.free b;cases a
def AA(h:QG X Řn ċe)(hv:MC X e f)(hi:X.N[i]?=À x)(w:X.N[j]?=À y)(R:np<=i)(L:np<=j)(b:i≠j)(C:Ê (āg ŵf e ňc Ö=pure Ä) q12)(z:Ê (Ăg ŵf e Ö=pure Ã) q12)(u:Ê ((Éd ŵf Ö).map (·.2)=[Żb Řn Ö]) q12) :MS X np (.Assign ŵf e pos) (Tr i j f):=by
 obtain⟨T,s,t⟩:=Ďc;refine⟨⟨_,CZ s h.h C z u,λ{P Z Y G H β σ O E} U K a q=>?_⟩⟩;obtain⟨⟨m,β1⟩,B,a⟩:=zD a;refine t K B λv S H1 Q c=>?_
 have d:=c.ql;have k:=c.pW;dsimp only at a
 split at a;rename_i l I;cases a;obtain⟨p,g,r,rfl,A,F⟩:=c.two d k ōb;have J:=ąb.1;have W:=Ŧk.1;refine⟨p,_,rfl,uA c.ext.gh A,rfl,g,_,rfl,r,_,rfl,rfl,?_⟩;have e1:(σ++[À g]).length=ò+1:=by rw[ä,d];rfl
 have e2:(β1++[À l]).length=ò+1:=by rw[ä,k];rfl
 have o:=F.JO (i:=j) Å Å e1 e2;rw[ďn _ _ Å,ďn _ _ Å]at o;have n:=o.JO (i:=i) J Å (by rw[ŭ];exact d) (by rw[ŭ];exact k);rw[ēp (À I) (À l) b.symm,ēp ċh (À g) b.symm]at n;exact q _ _ _ n;cases a
omit a
def JW(K:Î)(c q:Str)(st:Ù)(ps:Á Str):Prop:=∃C f,ş K ă c=À îa/\Ÿd K C=Â/\ġa K ĩ Ěa=À ũa/\Øa K ĩ=Â/\Ēd K ĕ=Â/\∃fd,wj K Ěa q st f fd/\vt K fd ps üh
section
variable{K:Î}{fd:Ĳ}{p0 p1 p2 p3:Str}
def bd3(b:∀s x y z,š Ü->Ŝc s fd ⟨[x,y,z],[]⟩ ((œe).zip [x,y,z,.none])):vt K fd œe üh:=λs a e d=>by
 have c:Ġa=3:=by rw[ä]at d;exact Nat.add_right_cancel (show Ġa+1=3+1 from d)
 exact us3 (P:=λa=>Ŝc s fd ⟨a,[]⟩ ((œe).zip (a++[.none]))) (λx y z=>b s x y z e) a c
variable{mg:Str->Æ Value}{h:Heap}{c q:Str}{st:Ù}{ps:Á Str}{C f:Ç}{sp:Sp}{k:Nat}
def mkd_mk{p:Value}{t h:Æ Ç}{r:Ô ţa}{m kV j d a ct:Value}(n:ş K ă c=À îa)(s:Ÿd K C=Â)(g:ġa K ĩ Ěa=À ũa)(o:Øa K ĩ=Â)(i:Ēd K ĕ=Â)(l:Ça f=À ⟨p,t,.func żl,r⟩)(e:ĵb K a q=Â)(k:Øa K ĕ=Â)(b:vt K żl ps üh):JW K c q st ps:=⟨C,f,n,s,g,o,i,_,Ru l e k,b⟩
def JW.hh(a:JW K c q st ps)(X:š h)(G:đa ă mg)(P:æ)(w:Þ)(d:Heap)(ok:∀{f fd},wj K Ěa q st f fd->yz P w K mg d yq k f fd ps sp):MX P w K mg d c ps k sp įf:=by obtain⟨C,f,n,e,g,j,i,fd,F,b⟩:=a;exact⟨C,f,fd,üh,įf,n,řc X G n,⟨e,g,i,j⟩,b,.cons rfl .nil,λ_=>⟨_,_,rfl,rfl,rfl⟩,ok F⟩
omit a
omit L3
namespace L3
open ľ
noncomputable def nA:Á D:=[ňg,àc,ūd,ôb,şa,Ţb,Şa,ţb,Ũb,àd,øb,ŋg,Ōg]
def Dh:D:=.tup nA
noncomputable def nB:Á D:=[Ûj,ŉg,Ŋg,ôb,şa,Ţb,Şa,ţb,Ũb,àd,øb,ŋg,Ōg]
def Di:D:=.tup nB
noncomputable def n9:Á D:=[şa,Şa]
def Dg:D:=.tup n9
noncomputable def nD:Á D:=[(.str ļ),ňg,Ûj,ŉg,Ŋg,ôb,şa,Ţb,Şa,ţb,Ũb,àd,àc,ūd]
def Dk:D:=.tup nD
noncomputable def nE:Á D:=[ôb,şa,Ţb,Şa,øb,ţb,Ũb,àd,àc,ūd]
def Dl:D:=.tup nE
noncomputable def nC:Á D:=[ôb,şa,Ţb,Şa,øb,àc,ūd]
def Dj:D:=.tup nC
noncomputable def S6:Á D:=[Úa,äa,Íb,Ŷr]
def V9:D:=.tup S6
noncomputable def TU:Á D:=[äd,źe,Ėg]
def VA:D:=.tup TU
noncomputable def n8:Á D:=[Ĥb,(.str ĉa),Ær]
def IG:D:=.tup n8
theorem IW{g:FG}{c:FT}{e:FE}{σ:zy}(p:D->Í)(v:D->D):∀{ds:Á D},(∀d∈ds,∃σ1,g d σ=À σ1/\c σ1=À (p d)/\(p d=Â->e σ1=À (v d)))->w6 g c e σ ds=À ((ds.filter p).map v)
 | [],_=>rfl|d::ds,h=>by
  obtain⟨σ1,e1,e2,b⟩:=h d ĳb;have a:=IW p v (ds:=ds) λx f=>h x (Àa _ f)
  show(Ŕc).bind _=_;rw[e1];show(c σ1).bind _=_;rw[e2];cases hp:p d with
  |Ä=>rw[ļd (by rw[hp];decide)];exact a|Â=>rw[Ļd hp];show(ąf).bind _=_;rw[b hp];show(w6 g c e σ ds).bind _=_;rw[a];rfl
def Tl(v:D->D)(h:∀d∈ds,∃σ1,g d σ=À σ1/\e σ1=À (v d)):w6 g wE e σ ds=À (Ğh v):=by
 have:=IW (g:=g) (c:=wE) (e:=e) (σ:=σ) (λ_=>Â) v (ds:=ds) λd f=>by obtain⟨σ1,a,b⟩:=h d f;exact⟨σ1,a,rfl,λ_=>b⟩
 rw[this,List.filter_eq_self.mpr Ęg]
inductive WT(R:D->D->Prop):Á D->Á D->Prop
 |nil:WT R [] []
 |ù {x y:D} {xs ys:Á D}:R x y->WT R xs ys->WT R Öb (y::ys)
theorem Fw{g:FG}{e:FE}{σ:zy}(R:D->D->Prop):∀{ds:Á D},(∀d∈ds,∃σ1 x,g d σ=À σ1/\e σ1=À x/\R d x)->∃xs,w6 g wE e σ ds=À xs/\WT R ds xs
 | [],_=>⟨[],rfl,.nil⟩|d::ds,h=>by
  obtain⟨σ1,x,e1,e2,r⟩:=h d ĳb;obtain⟨xs,a,b⟩:=Fw R (ds:=ds) λx c=>h x Ľr
  refine⟨x::xs,?_,.cons r b⟩;show(Ŕc).bind _=_;rw[e1];show(ąf).bind _=_;rw[e2];show(óo).bind _=_;rw[a];rfl
def Qg{n i:Nat}{d:D}(h:(wT n)[i]?=À d):i<n/\d=.int (i:Int):=by
 have a:i<n:=by have:=Ĥa.1;simpa using this
 refine⟨a,?_⟩;simp[a]at h;exact h.symm
def HK{n:Nat}{d:D}(h:d∈wT n):∃i:Nat,i<n/\d=.int (i:Int):=by obtain⟨i,a,e⟩:=Īe h;exact⟨i,(Qg (List.getElem?_eq_some_iff.mpr ⟨a,e⟩))⟩
def Oc(n:Nat):(wT n).length=n:=by simp
def kJ{α:Type}{xs:Á α}{i:Int}{a:α}(b:0<=i)(h:xs[øf]?=À a):vw xs i=À a:=by unfold vw;rw[Ë b,h]
def ji:Nat->D->Í
 |0,_=>Ä|n+1,.tup xs=>Ĉf (ji n)|n+1,.lst xs=>Ĉf (ji n)|_+1,d=>xI d
theorem B_{f:D->D->Í}:∀{xs:Á D},(∀x∈xs,f x x=Â)->p7 f xs xs=Â
 | [],_=>rfl|x::xs,h=>by show(f x x&&p7 f xs xs)=Â;rw[h x ĳb,B_ λy a=>h y äk];rfl
theorem D3:∀{xs:Á D},(∀x∈xs,xz x x=Â)->Đc xs xs=Â
 | [],_=>rfl|x::xs,h=>by show(xz x x&&Đc xs xs)=Â;rw[h x ĳb,D3 λy a=>h y äk];rfl
theorem Q0:∀(n:Nat)(d:D),ji n d=Â->uN n d d=Â/\xz d d=Â
 |0,_,h=>by cases h|n+1,d,h=>by
  cases d with
  |tup xs=>have c:∀x∈xs,ji n x=Â:=Ĕa h;exact⟨B_ λx a=>æg.1,D3 λx a=>æg.2⟩|lst xs=>have c:∀x∈xs,ji n x=Â:=Ĕa h;exact⟨B_ λx a=>æg.1,D3 λx a=>æg.2⟩|dic ks vs=>cases h|exc _=>cases h|obj _ _ _=>cases h|zK=>exact⟨rfl,rfl⟩|bl b=>exact⟨rfl,Īc b⟩|int i=>exact⟨rfl,Īc i⟩|str z=>exact⟨rfl,Īc z⟩
def Re(h:ji 6 d=Â):Zd d d=À Â:=by
 obtain⟨b,a⟩:=Q0 6 d h
 have e:Zd d d=match uN 6 d d with
  |Â=>À (xz d d)|Ä=>Ã:=by cases d<;>rfl
 rw[e,b,a]
theorem Rg(h:ji 6 d=Â):zg d d=À ĸ:=by unfold zg;rw[Re h];rfl
def T_(h:ji 6 d=Â):wK d d=À û:=by unfold wK;rw[Re h];rfl
def rO{i j:Int}(h:i=j):zg ða Òe=À ĸ:=by subst h;show À (ŷc (i==i))=_;rw[Īc]
theorem rP{i j:Int}(h:i≠j):zg ða Òe=À û:=by show À çj=_;rw[Őb h]
theorem ċa{i j:Int}:yb ða Òe=À Ğg:=rfl
theorem cr:∀ts:Á Str,Xk ŏe=À ts
 | []=>rfl|t::ts=>by show(Xk ŏe).bind _=_;rw[cr ts];rfl
def sD(h:(Ďd (·.length)).sum+řg*éd<=1000000):DI (.str sep) (Α ŏe)=À (.str (ão sep ts)):=by show(Xk ŏe).bind _=_;rw[cr];show(if _<=yD then _ else _)=_;rw[Ë ēe]
theorem úf(z:Str)(lo hi:Æ Int):(Ħp).length<=ī:=by show((ĵi _).take _).toArray.size<=ŏj;simp only[Ĕ,ĕa,řa,Ģ];omega
def mx:∀{ks:Á Ň} {vs:Á α},Ŀ=Ą->∀k',ą Ŭg Ŏe k'=if k=k' then À v else ą ks vs k':=by
 have f:∀{ks:Á Ň} {vs:Á α},Ŀ=Ą->∀k',vO ks k=Â->ą ks Ŗh k'=if k=k' then À v else ą ks vs k':=by
  intro ks
  induction ks with
  |nil=>intro vs _ k' h;cases h|ù a ks ih=>
   intro vs c k' h;cases vs with
   |nil=>cases c|ù b vs=>
    rw[îi];unfold ą;by_cases e1:a=k;subst e1;by_cases e2:a=k';rw[Ë e2,Ë e2,Ë rfl];rw[Ï e2,Ï e2,Ï e2];by_cases e3:vO ks a=Â;have:=ih (vs:=vs) Ĩc k' e3;rw[this,Ï e2];have:∀{ks:Á Ň} {vs:Á α},Ŀ=Ą->vO ks a=Ä->ą ks (ķc (λk' x=>if k'=a then v else x) ks vs) k'=ą ks vs k':=by
     intro ks
     induction ks with
     |nil=>intro vs _ _;rfl|ù a' ks ih'=>
      intro vs c h;cases vs with
      |nil=>cases c|ù b vs=>
       have d:decide (a'=a)=Ä/\vO ks a=Ä:=by have:(decide (a'=a)||vO ks a)=Ä:=h;exact Bool.or_eq_false_iff.mp this
       rw[îi];unfold ą;rw[Ï (of_decide_eq_false d.1),ih' Ĩc d.2]
    exact this Ĩc (by simpa using e3);have d:vO ks k=Â:=by have:(decide (a=k)||vO ks k)=Â:=h;rw[Ŏ e1]at this;exact this
    have:=ih (vs:=vs) Ĩc k' d;rw[this,Ï e1];by_cases e2:a=k';rw[Ë e2];rw[Ï (λe=>e1 (e2.trans ĝh)),Ë e2];rw[Ï e2];by_cases e3:k=k';rw[Ë e3,Ë e3];rw[Ï e3,Ï e3,Ï e2]
 intro ks vs c k';unfold w_ wL;by_cases h:vO ks k=Â;rw[Ë h,Ë h];exact f c k' h;rw[Ï h,Ï h];clear f
 induction ks generalizing vs with
 |nil=>
  cases vs with
  |nil=>rfl|ù _ _=>cases c
 |ù a ks ih=>
  cases vs with
  |nil=>cases c|ù b vs=>
   have d:¬ a=k/\¬ vO ks k=Â:=by
    have:¬ (decide (a=k)||vO ks k)=Â:=h
    constructor;intro e;exact this (by rw[Ġ e];rfl);intro e;exact this (by rw[e,ţp])
   rw[Íd,Íd];show(if a=k' then À b else ą (ks++[k]) (vs++[v]) k')=if k=k' then À v else if a=k' then À b else ą ks vs k'
   rw[ih Ĩc d.2];by_cases e:a=k';rw[Ë e,Ë e];rw[Ï (λg=>d.1 (ýc g.symm))];rw[Ï e,Ï e]
theorem y64{L M:Á D}(h:ïa+Îh<=1000):yb (.lst L) (.lst M)=À (Α (L++M)):=by show(if ïa+Îh<=yD then _ else _)=_;rw[Ë ēe]
theorem AG(xs:Á D):wK Ğa Àe=À (.bl (!xs.isEmpty)):=by
 cases xs with
 |nil=>exact T_ (d:=.lst []) rfl|ù x r=>have e:xz ŧp Àe=Ä:=rfl;show(À (xz ŧp Àe)).bind _=_;rw[e];rfl
def iF(b:n<2 ^ w)(a:y/2 ^ l%2 ^ w=0):(y &&& ók)=0:=by
 apply űf;intro i;rw[Òd,ŀe];rw[èi];by_cases hl:l<=i;by_cases hi:i-l<w;have e:Àf i=(y/2 ^ l%2 ^ w).testBit (i-l):=by rw[Ŭm,ŭm,Ġ hi,ėp,Åg hl]
 rw[e,a,ŀe,Ži];have:èc (i-l)=Ä:=Ån (ņ b (ĉi Ð Å));rw[this];simp;simp[hl]
theorem iE(x l w:Nat):(x &&& (ŭr*2 ^ l))=x/2 ^ l%2 ^ w*2 ^ l:=by apply űf;intro i;rw[Òd,èi,èi,Nat.testBit_two_pow_sub_one,Ŭm,ŭm];by_cases hl:l<=i;simp[hl,Åg hl];rw[Bool.and_comm];simp[hl]
theorem lN(l w:Nat):ài=((ŭr*2 ^ l:Nat):Int):=by have h:1<=2 ^ w:=Nat.one_le_two_pow;rw[Int.natCast_mul,Int.natCast_sub h];simp
def iY(a:0<=x)(l w:Nat):Îa x ài=x/2^l%2^w*2^l:=by obtain⟨n,rfl⟩:=ŗa a;rw[lN,Än ăh ăh,ğ,ğ,iE];simp
def iX(f:0<=y)(g:0<=n)(d:n<2 ^ w)(hz:y/2 ^ l%2 ^ w=0):Îa y ók=0:=by
 obtain⟨a,rfl⟩:=ŗa f;obtain⟨b,rfl⟩:=ŗa g;have e:(b:Int)*2 ^ l=((b*2 ^ l:Nat):Int):=by simp
 have h:b<2 ^ w:=by
  have:((2 ^ w:Nat):Int)=(2:Int) ^ w:=by simp
  omega
 have c:a/2 ^ l%2 ^ w=0:=by
  have:((a/2 ^ l%2 ^ w:Nat):Int)=(a:Int)/2 ^ l%2 ^ w:=by simp
  omega
 rw[e,Än ăh ăh,ğ,ğ,iF h c];rfl
def m5{x p r:Int}(e:0<=x)(a:0<p)(b:0<r):0<=x-x/p%r*p/\Ĭg/p%r=0/\Ĭg/p/r=x/p/r/\Ĭg%p=x%p:=by
 have f:0<=x/p:=íg e (Ęa a);have e1:x-x/p%r*p=x+p*(-(x/p%r)):=by rw[Int.mul_neg,Int.mul_comm p];omega
 have e2:Ĭg/p=x/p-x/p%r:=by rw[e1,Int.add_mul_ediv_left _ _ (ĉj a)];omega
 have c:x/p-x/p%r=r*(x/p/r):=by have:=ën (x/p) r;omega
 refine⟨?_,?_,?_,?_⟩;have g:x/p%r<=x/p:=by have:=ën (x/p) r;have d:0<=x/p/r:=íg f (Ęa b);have i:0<=r*(x/p/r):=Int.mul_nonneg (Ęa b) d;omega
 have h:x/p%r*p<=x/p*p:=Int.mul_le_mul_of_nonneg_right g (Ęa a);have j:=Int.ediv_mul_le x (ĉj a);omega;rw[e2,c];exact Int.mul_emod_right _ _;rw[e2,c];exact Int.mul_ediv_cancel_left _ (ĉj b);rw[e1];exact Int.add_mul_emod_self_left ..
def CU(x:Int)(w:Nat):Îa x ((1:Int)*2 ^ w-1)=x%2 ^ w:=by rw[Ũe,W.kbt_mask]
theorem y5s{x n:Int}{l w:Nat}(b:0<=x)(c:0<=n)(a:n<2 ^ w):Ża (Îa x (Ŕb ài)) ók=x+(n-x/2 ^ l%2 ^ w)*2 ^ l:=by have f:(0:Int)<2 ^ l:=İj Ð;have e:(0:Int)<2 ^ w:=İj Ð;obtain⟨g,d,_,_⟩:=m5 b f e;rw[PyProof.Rows.bitAnd_not,iY b,PyProof.Rows.bitOr_and,iX g c a d,Int.sub_mul];omega
def Sb(a b:Nat):Prop:=∀k,Űd k=Â->ûr k=Â
def øh(a:Nat):Sb a a:=λ_ h=>h
def Sb.trans{a b c:Nat}(h:Sb a b)(g:Sb b c):Sb a c:=λk z=>g k (h k z)
def Sb.N4(h:Sb a b)(g:Sb b a):a=b:=űf λk=>by
 cases ea:Űd k with
 |Â=>exact(h k ea).symm|Ä=>
  cases eb:ûr k with
  |Ä=>rfl|Â=>rw[g k eb]at ea;cases ea
def z7s(a:Nat):Sb 0 a:=λk h=>by rw[ŀe]at h;cases h
theorem RN:∀(k a p:Nat),(a-Ūa).testBit k=(Űd k&&!p.testBit k)
 |0,a,p=>by
  have b:Ūa%2=(a%2)*(p%2):=by have:(Ūa).testBit 0=ėn:=Òd ..;simp only[ág]at this;rcases Íc a with e|e<;>rcases Íc p with f|f<;>rcases Íc Ūa with g|g<;>rw[e,f,g]at this<;>rw[e,f,g]<;>first|rfl|(simp at this)
  have c:Ūa<=a:=Ši;simp only[ág];rcases Íc a with e|e<;>rcases Íc p with f|f<;>rw[e,f]at b<;>simp only[e,f]<;>simp<;>omega
 |k+1,a,p=>by
  have b:(a-Ūa)/2=a/2-łp:=by
   have d:Ūa/2=łp:=by
    refine űf λj=>?_
    rw[Òd,<-ŏd,<-ŏd,<-ŏd,Òd]
   have c:Ūa<=a:=Ši
   have h:Ūa%2<=a%2:=by have:(Ūa).testBit 0=ėn:=Òd ..;simp only[ág]at this;rcases Íc a with e|e<;>rcases Íc Ūa with g|g<;>rw[e,g]at this<;>rw[e,g]<;>first|omega|(simp at this)
   rw[<-d];omega
  rw[ŏd,b,RN k,ŏd,ŏd]
theorem Bu(a:Nat):decide ((0:Int)<=Ŕb (a:Int))=Ä:=Ŏ (by unfold Ŕb;omega)
def b0(a:Nat):decide ((0:Int)<=(a:Int))=Â:=Ġ (Ĝc a)
def Ps(a:Int):Ŕb (Ŕb a)=a:=by unfold Ŕb;omega
def Jl(a b:Nat):Ża (a:Int) (b:Int)=((a ||| b:Nat):Int):=by unfold Ża Îa;rw[Bu,Bu];simp only[Ps,ğ]
theorem Pc(a b:Nat):Îa (a:Int) (b:Int)=((a &&& b:Nat):Int):=by unfold Îa;rw[b0,b0];simp only[ğ]
theorem iU(a p:Nat):Îa (a:Int) (Ŕb (p:Int))=((a-Ūa:Nat):Int):=by have b:Ūa<=a:=Ši;unfold Îa;rw[b0,Bu];simp only[Ps,ğ];omega
def ie(h:x<2048)(hk:ðd k=Â):k<11:=by rcases Śe k 11 with c|c;exact c;have:x<2 ^ k:=ņ h (ĉi (n:=2) Ð c);rw[Ån this]at hk;cases hk
def aE(c:a<2048)(d:b<2048):(a ||| b)<2048:=Ûo (n:=11) c d
def mI{a:Nat}(p:Nat)(b:a<2048):a-Ūa<2048:=by omega
noncomputable def pc(x:Nat):Nat:=(Ía 11).countP λk=>ðd k
def z4k(x:Nat):pc x<=11:=by have:=List.countP_le_length (p:=λk=>ðd k) (l:=Ía 11);rw[īa]at this;exact this
theorem RB:∀{l:Á Nat},(∀k∈l,p k=Â->q k=Â)->(∃k∈l,q k=Â/\p k=Ä)->Ãh p<Ãh q
 | [],_,⟨k,h,_⟩=>by cases h|a::l,h,⟨k,b,h1,h2⟩=>by
  have e:Ãh p<=Ãh q:=List.countP_mono_left λk b z=>h k Žd z
  rcases ę b with rfl|b;rw[List.countP_cons_of_pos h1,List.countP_cons_of_neg (by rw[h2];decide)];omega;have d:=RB (l:=l) (λk b=>h k Žd) ⟨k,b,h1,h2⟩;rw[Ēo,Ēo];have:=h a ĵ;by_cases c:p a=Â;rw[Ë c,Ë (this c)];omega;rw[Ï c];omega
def z4l{a b:Nat}(h:Sb a b)(f:b<2048)(d:a≠b):pc a<pc b:=by
 refine RB (λk _ z=>h k z) ?_;apply Classical.byContradiction;intro c;refine d (h.N4 λk z=>?_);cases e:Űd k with
 |Â=>rfl|Ä=>exact(c ⟨k,ēa (ie f z),z,e⟩).elim
def Pa:FS:=
 (zc (yi (tE (e2 ŝf Ā Ůe))
   (yO Űi)
   xA)
  (yO Ď))
def rQ(ns:Á Int)(k:Nat):Ła[k]?=(ns[k]?).map Ħ:=Œ
noncomputable def T6(ns:Á Int)(k:Int):Int:=ľg ž 0
noncomputable def Wj:Á D->Æ ì
 | [.lst xs,.int k]=>if 0<=k then((xs[ž]?).getD Úa |> λd=>À (Ä,d))else Ã|_=>Ã
def lP(ns:Á Int){k:Int}(h:0<=k):Wj æo=À (Ä,.int Ũr):=by show(if 0<=k then _ else _)=_;rw[Ë h,rQ];unfold T6;rw[Ŵ];cases ns[ž]?<;>rfl
def z7l:∀ds r,Wj ds=À r->ú=2/\yS 2 Pa ds=À r:=λds r h=>by
 unfold Wj at h
 split at h;rename_i a k;refine⟨rfl,?_⟩;by_cases h0:0<=k;rw[Ë h0]at h;cases h;unfold Pa;by_cases c:k<(Ġa:Int);have e:zJ (.lst a) (.int k)=À ((a[ž]?).getD Úa):=by show vw a k=_;unfold vw;rw[Ë h0,č Å];rfl
 simp only[ß,Ġ c,e];have e:a[ž]?=Ã:=ëb Å;simp only[ß,Ŏ c,e,Option.getD];rw[Ï h0]at h;cases h;cases h
def ii(h:wy i<=m):óc<2 ^ m:=by
 by_cases c:i=0;subst c;exact Nat.pow_pos Ð;have e:wy i=ćp+1:=by show Ũl=_;rw[Ï Ĩc]
 exact(ńi).mp Å
def ig(h:óc<2 ^ m):wy i<=m:=by
 by_cases c:i=0;subst c;exact Ãa _;have e:wy i=ćp+1:=by show Ũl=_;rw[Ï Ĩc]
 rw[e];exact(ńi).mpr h
def lO{ns:Á Int}{M:Nat}(a:∀m∈ns,wy m<=M)(k:Int):wy Ũr<=M:=by
 unfold T6;rw[Ŵ];cases e:ns[ž]? with
 |Ã=>exact Ãa _|À m=>exact a m (Áa e)
def Bd:FS:=
 (yO (e2 Óh ŧo ļm))
def wV:Á D->Æ ì:=FR 3 3 Bd
def oQ(a x1 x2:D):wV Óa=yS 3 Bd Óa:=rfl
def B3:FS:=
 (zc (yF 3 (e2 yb ťo ún))
  (yO (Θ (e2 yc Ŋ Üh) (Β (e2 (Μd (j<=i)) Ŋ Üh)))))
def WX:Á D->Æ ì:=FR 3 4 B3
def nP(a x1 x2:D):WX Óa=yS 4 B3 Óa:=rfl
def Bi:FS:=
 (zc (yF 3 (e2 pA (e2 pA ý Ā) ún))
  (zc (yi (tE (e2 ŝf Ŋ Ď))
   (yO (Θ (e2 yb Ŋ Üh) (Η (.bl Â))))
   xA)
  (Ψa ĸj)))
def Wp:Á D->Æ ì:=FR 3 4 Bi
def oW(a x1 x2:D):Wp Óa=yS 4 Bi Óa:=rfl
def BY:FS:=
 (zc (yF 2 (e2 vH ý Ā))
  (zc (yF 3 (Γc (zB ĥ (zB ĭk Ĺj))))
  (yO (Θ (ze wV (zB ĥ (zB Ď īr))) Ųd))))
def Yg:Á D->Æ ì:=FR 2 4 BY
def oJ(a x1:D):Yg ė=yS 4 BY ė:=rfl
def BZ:FS:=
 (zc (yF 2 (Γc (zB ý (zB (e2 pA Ā Ğ) Ĺj))))
  (yO (Θ ŧo ņc)))
def Yh:Á D->Æ ì:=FR 2 3 BZ
def oK(a x1:D):Yh ė=yS 3 BZ ė:=rfl
def Bm:FS:=
 (zc (yF 4 (e2 vH ļm Ā))
  (yO (e2 ëf (e2 Óh ý (e1 V6 Ÿ)) (e2 vH Ŋ Ā))))
def Yi:Á D->Æ ì:=FR 4 5 Bm
def og(a x1 x2 x3:D):Yi ťd=yS 5 Bm ťd:=rfl
def Qj:FE:=(ze wV (zB ý (zB Ā ûg)))
def B7:FS:=
 (Νd (vy 1 (uq ŷk) đb wE Qj))
def Wa:Á D->Æ ì:=FR 1 1 B7
def nT(a:D):Wa [a]=yS 1 B7 [a]:=rfl
def HZ:FE:=(e2 vH Ā ĥ)
def Bo:FS:=
 (yO (eL DO (Β (vy 2 (VB ý ŷk) (uE 1 2) wE HZ))))
def Uh:Á D->Æ ì:=FR 1 1 Bo
def oi(a:D):Uh [a]=yS 1 Bo [a]:=rfl
def B6:FS:=
 (yO (DA ý Ā Ď))
def WZ:Á D->Æ ì:=FR 2 2 B6
def nS(a x1:D):WZ ė=yS 2 B6 ė:=rfl
def B5:FS:=
 (yO (ze wV (zB ťo (zB Ď Ĭr))))
def WY:Á D->Æ ì:=FR 2 2 B5
def nR(a x1:D):WY ė=yS 2 B5 ė:=rfl
def Ol:FE:=(ze WY ďj)
def BI:FS:=
 (uv (vy 1 (vQ Ď Ńe) đb wE Ol))
def Yb:Á D->Æ ì:=FR 1 1 BI
def ni(a:D):Yb [a]=yS 1 BI [a]:=rfl
def On:FE:=(ze WZ (zB ý ņc))
def Bn:FS:=
 (yO (ze Uh (Β (vy 1 (uq ļj) Ėf wE On))))
def Ug:Á D->Æ ì:=FR 2 2 Bn
def oh(a x1:D):Ug ė=yS 2 Bn ė:=rfl
def Be:yQ:=
 (Zo 0 [] Ā (xQ (ze wV (zB ĥ (zB Ď ûg)))))
def Wo:FM:=vW 3 3 Be
def oR(a x1 x2:M):Wo Óa=wN 3 3 Be Óa:=rfl
def IV:yQ:=(tL (tz Wo (qR 0 [] (wp Ŋ (wp Ÿ wq)))))
def Bf:yQ:=
 (Zn (VB ļj Ėq) (XA 3 4)
   IV)
def Ub:FM:=vW 3 5 Bf
def oT(a x1 x2:M):Ub Óa=wN 3 5 Bf Óa:=rfl
def eF:FE:=(xX (zB Ŋ ĸj))
def B2:yQ:=
 (yT (qC 0 [] [İ] Çb (ZZ (eL Y_ Ñc)))
  (yT (qC 0 [] [İ] ûb (ZZ (eL Jz (Β (vy 1 Ÿp Ĕd wE eF)))))
  (qC 0 [] [İ] ąa (ZZ (eL Jy ņc)))))
def WV:FM:=vW 3 3 B2
def nO(a x1 x2:M):WV Óa=wN 3 3 B2 Óa:=rfl
def BE:yQ:=
 (Φ (xQ Ľd))
def UU:FM:=vW 2 2 BE
def nc(a x1:M):UU ė=wN 2 2 BE ė:=rfl
def BB:yQ:=
 (Φ (tu (ze Yi (zB Ĵf (zB (eC Íb) (zB (eC Íb) (Β Ľd)))))))
def UR:FM:=vW 2 2 BB
def nX(a x1:M):UR ė=wN 2 2 BB ė:=rfl
def B9:yQ:=
 (Φ (tu űh))
def UQ:FM:=vW 2 2 B9
def nW(a x1:M):UQ ė=wN 2 2 B9 ė:=rfl
def Ys:FS:=
 (zc (yi (νa Ťj)
   (Γd (zB ĥ ĸj))
   xA)
  (zc (yi (νa (eC şa))
   (Γd ůp)
   xA)
  (yO (ze Wp (zB Ā (zB ĥ (Β (gK Ŋ (e2 zg ý (eC Şa))))))))))
def gB:Á D->Æ ì:=FR 4 4 Ys
def TV(a x1 x2 x3:D):gB ťd=yS 4 Ys ťd:=rfl
def BX:yQ:=
 (yT (γa źe (e2 zg Ā Ď))
  (γa Ėg (e2 zg (ze wV (zB Ā (zB (e2 pA ĭk Ğ) Ĺj))) Ğ)))
def Ye:FM:=vW 2 2 BX
def oI(a x1:M):Ye ė=wN 2 2 BX ė:=rfl
def Jj:yQ:=
 (yT (uF 2 (tu (ze gB (Ρd (zB űh (Β (e2 zJ (e1 (xM Ęj ûb) ý) (eC äd))))))))
  (yT (γa äd şo)
  (yT (Οb (wp óg wq))
  (tM (Δa (e2 wK Ŗb îf))
   (Φ (xQ óg))
   tN))))
def jX:FM:=vW 2 3 Jj
def SH(a x1:M):jX ė=wN 2 3 Jj ė:=rfl
def BM:FS:=
 (zc (yi (νa (eC ţb))
   (yO (e2 Óh Ā ĥ))
   xA)
  (zc (yi (νa (eC Ũb))
   (yO (e2 ëf Ā ĥ))
   xA)
  (yO (e2 (xq żi) Ā ĥ))))
def Wd:Á D->Æ ì:=FR 3 3 BM
def nr(a x1 x2:D):Wd Óa=yS 3 BM Óa:=rfl
def B8:yQ:=
 (yT (uF 2 (tu (ze Wd (Ρd (Β (e2 zJ (e1 Ųp ý) Ľd))))))
  (yT (Οb ğq)
  (Φ (xQ ĥ))))
def ZK:FM:=vW 2 3 B8
def nV(a x1:M):ZK ė=wN 2 3 B8 ė:=rfl
def Ji:yQ:=
 (yT (uF 2 (tu Ĵf))
  (yT (uF 3 (xQ (j5 (tE (e2 zg Ŗb (eC àc))) (ze Yg Ÿn) (ze Yh Ÿn))))
  (yT (tM (Δa (e2 J_ ůi Åf))
   (γa äd ůi)
   tN)
  (yT (Οb (wp Şo wq))
  (Φ (xQ Şo))))))
def Ya:FM:=vW 2 4 Ji
def SD(a x1:M):Ya ė=wN 2 4 Ji ė:=rfl
def B4:FS:=
 (yO (ze WY (zB űh (Β (e2 zJ Ā Ĭc)))))
def ZJ:Á D->Æ ì:=FR 2 2 B4
def nQ(a x1:D):ZJ ė=yS 2 B4 ė:=rfl
def BC:yQ:=
 (Φ (tu (ze WZ īl)))
def US:FM:=vW 2 2 BC
def nY(a x1:M):US ė=wN 2 2 BC ė:=rfl
def BD:yQ:=
 (Φ (tu (ze Ug īl)))
def UT:FM:=vW 2 2 BD
def nZ(a x1:M):UT ė=wN 2 2 BD ė:=rfl
def BF:yQ:=
 (tL (tz Wo ōl))
def UV:FM:=vW 2 2 BF
def ng(a x1:M):UV ė=wN 2 2 BF ė:=rfl
def BH:yQ:=
 (tL (tz Ub ōl))
def UW:FM:=vW 2 2 BH
def nh(a x1:M):UW ė=wN 2 2 BH ė:=rfl
noncomputable def p8:Á Ň:=że .inr [ļ,čb,ĵa,ĥa,ča,Ľa,Ča,Æa,ųa,Ŷa,Ýb,ĸa,ıa,ōa,Ŋa,ŉa,ńa]
noncomputable def RM:Á Str:=[žg,ŕg,Ŗg,Ōc,Ōc,Ōc,Ōc,Ōc,ŷd,ŷd,ŷd,Že,Že,Ŕg,ĵg,Ĵg,ğg]
def T8:Á FM:=[UU,UR,UQ,jX,jX,jX,jX,jX,ZK,ZK,ZK,Ya,Ya,US,UT,UV,UW]
def Uz:yQ:=
 (tM (Δa (e1 (Yz p8) Ŗb))
   (tL (Jm p8 T8 Ŗb (qR 0 [] Ġq)))
   tN)
def qp:FM:=vW 2 2 Uz
def Df(a x1:M):qp ė=wN 2 2 Uz ė:=rfl
def iO:FS:=
 (zc (yi (tE (e2 zg Ŗb Äg))
   (yO àm)
   xA)
  (zc (yi (tE (e2 zg Ŗb Ăi))
   (yO (Jv àm))
   xA)
  (yO (e2 zg Ŗb Äf))))
def qq:Á D->Æ ì:=FR 2 2 iO
def M_:FS:=
 (yO (TB (e2 zg Ůh (e1 (xM [Ú] Ŀb) ý)) (e2 zg (e2 zJ ám Ď) (xX ĭr))))
def vX:Á D->Æ ì:=FR 1 1 M_
def nM(a:D):vX [a]=yS 1 M_ [a]:=rfl
def Jh:yQ:=
 (yT (tM (Δa (ze vX (xW Ú ñc ý zH)))
   äj
   tN)
  (yT (uF 1 (tu ám))
  (yT (tL (tz qp (qR 0 ňe (wp Ŗb wq))))
  (yT (Ιd (tu (j5 (tE (ze qq (zB Ťf ķr))) Ľd Ōh)))
  (yT (C2 0 [] [Ú] ďd Ğ)
  Ûi)))))
def ww:FM:=vW 1 2 Jh
def SC(a:M):ww [a]=wN 1 2 Jh [a]:=rfl
abbrev pp:Á Ň:=[.inr ía,.inr ěa,.inr Ĵa]
noncomputable def Y8(a b c:Í):D:=.dic pp Ņd
def st(ws:Á D)(a b c:Í)(hk:Á Ň)(hv:Á D):M:=.obj İ Üj [.own ûk,.own Ŷd,.own ác]
def uO(ws:Á D)(a b c:Í)(hk:Á Ň)(hv:Á D):D:=.obj İ Üj [.lst ws,Y8 a b c,.dic hk hv]
abbrev uV:Á Str:=[ňa,Ŀb,Óc,īc,Ŧa,ūc,ďd]
noncomputable def xR(T:D)(e:Int)(fw fh:D)(s:M)(due done:Int):M:=.obj Ú uV [.fz T,.fz æh,.fz fw,.fz fh,s,.fz Őg,.fz (.int done)]
noncomputable def xC(T:D)(e:Int)(fw fh:D)(s:D)(due done:Int):D:=.obj Ú uV [T,.int e,fw,fh,s,.int due,.int done]
section
variable{ws ws':Á D}{a b c d':Í}{hk hk':Á Ň}{hv hv':Á D}{T fw fh sd:D}{e due done:Int}{s s':M}
def wv:wG ģc=uO ws a b c hk hv:=by simp only[st,uO,wG,ķh]
theorem Y7:wG ňf=xC T e fw fh (wG s) due done:=by simp only[xR,xC,wG,ķh]
theorem Yr{i:Nat}{π:Á xV}:jZ ģc i π=.p i π:=rfl
def ja:tq ģc Ņo=À (.own ûk):=rfl
def Uy:tq ģc ńo=À (.own (.dic pp Ņd)):=rfl
def PV:tq ģc Ëd=À (.own ác):=rfl
def jo:qG ģc Ņo (.own (.lst ws'))=À (st ws' a b c hk hv):=rfl
def b7:qG ģc Ëd (.own (.dic hk' hv'))=À (st ws a b c hk' hv'):=rfl
def Q6{x y z:Í}:qG ģc ńo (.own (.dic pp [.bl x,.bl y,.bl z]))=À (st ws x y z hk hv):=rfl
def pB:xM [İ] Çb Ĝi=À ûk:=rfl
def DQ:xM [İ] ûb Ĝi=À Ŷd:=rfl
def DP:xM [İ] ąa Ĝi=À ác:=rfl
def HI:zJ Ŷd äd=À (.bl a):=rfl
def y2j:zJ Ŷd źe=À Šc:=rfl
def y2k:zJ Ŷd Ėg=À (.bl c):=rfl
def Iz:w_ pp Ór=pp:=rfl
def z5p:w_ pp Òr=pp:=rfl
def z5q:w_ pp Ñr=pp:=rfl
def O3:wL pp ċi Ór ĺk=[.bl d',.bl b,.bl c]:=rfl
def z6h:wL pp ċi Òr ĺk=[.bl a,.bl d',.bl c]:=rfl
def z6i:wL pp ċi Ñr ĺk=[.bl a,.bl b,.bl d']:=rfl
def PX:tq ňf ňe=À s:=rfl
def b8:qG ňf ňe s'=À (xR T e fw fh s' due done):=rfl
def DR:xM [Ú] ňa Ĵd=À T:=rfl
def Rn:xM [Ú] Ŀb Ĵd=À æh:=rfl
def TL:xM [Ú] Ŧa Ĵd=À sd:=rfl
def TK:xM [Ú] ūc Ĵd=À Őg:=rfl
def Rp:jE (.fz (.int d2)) Ĥr 0 [] [Ú] ūc=À (Ω (xR T e fw fh s d2 done)):=rfl
def PY:C2 0 [] [Ú] ďd Ğ Ĥr=À (Ω (xR T e fw fh s due (done+1))):=rfl
def ZV(h:fo τ=À Ĵd)(b:m ∉ uV)(a:fs τ=À ds):xW Ú m fo fs τ=À (xC T e fw fh sd due done::ds):=by unfold xW;rw[h];show(match decide ((Ú : Str) = Ú)&&!(decide (m∈uV))with|Â=>_|Ä=>_)=_;rw[Ġ (show(Ú : Str) = Ú from rfl),Ŏ b];show(fs τ).bind _=_;rw[a];rfl
omit a
noncomputable def wI(ns:Á Int):Á D:=Ŏa Ħ
def jN{ns:Á Int}{k:Nat}{v:Int}:(Þe).set k Ŗc=wI (ns.set k v):=(Ćj ..).symm
def qh{ns:Á Int}:(Þe).length=Ŝ:=é ..
def j7{n k:Nat}(h:k<n):Ēf n (k:Int)=À k:=by unfold Ēf;rw[Ë šk];simp[h]
theorem tJ{ns:Á Int}{k:Nat}{v:Int}(h:ns[k]?=À v):zJ (Α Þe) ĩb=À Ŗc:=by show vw Þe (k:Int)=_;unfold vw;rw[Ë šk];show Þe[((k:Int)).toNat]?=_;rw[ğ];unfold wI;rw[Œ,h];rfl
def RL:z7 0 (À (Ä,xC T e fw fh sd due done)::τ)=À Ĵd:=rfl
def Gw{T fw fh sd row nx tg:D}{e due done:Int}{k:Í}(h:due≠e->zJ T Őg=À Ĳi/\zg row ìb=À æe) :vX Ïi=À (Ä,.bl (decide (due=e)||k))\/due=e/\vX Ïi=À (Ä,.bl Â):=by
 have b:∀{i j:Int},zg ða Òe=À Ċq:=λ{i j}=>by show À çj=_;rw[show ğf=decide (i=j)from rfl]
 have f:∀{x y z:D},zJ Úd Úa=À x:=rfl;rw[nM];unfold M_;by_cases c:due=e;right
 refine⟨c,?_⟩;simp only[ß,TK,Rn,b,c];left
 obtain⟨g,d⟩:=h c;have a:decide (due=e)=Ä:=Ŏ c;rw[a];simp only[ß,TK,Rn,DR,b,a,g,f,d];rfl
def cg{T fw fh row tg:D}{e due done:Int}{s s':M}{nx:D}{f:Int}(c:due≠e)(g:zJ T Őg=À Ĳi)(t:zg row ìb=À û)(i:wS Ĳi=Â)(ns:∀d,s≠.fz d)(j:qp [s,.fz row]=À ([s',.fz row],.fz .zK))(ld:Í)(m:qq [wG s',row]=À (Ä,.bl ld))(h:(if ld then tg else nx)=.int f) :ww Üi=À ([xR T e fw fh s' f (done+1)],.fz ĸ):=by
 have r:vX Ŋf=À (Ä,.bl Ä):=by rcases Gw (T:=T) (fw:=fw) (fh:=fh) (sd:=wG s) (row:=row) (nx:=nx) (tg:=tg) (e:=e) (due:=due) (done:=done) (k:=Ä) λ_=>⟨g,t⟩with z|⟨z,_⟩;rw[z,Ŏ c];rfl;exact Û z c
 have l:∀{x y z:D},zJ Úd Úa=À x:=rfl;have o:∀{x y z:D},zJ Úd Ċb=À y:=rfl;have q:∀{x y z:D},zJ Úd Ķk=À z:=rfl
 have n:jZ s 0 ňe=.p 0 ňe:=by
  cases s with
  |fz d=>exact Û rfl (ns d)|_=>rfl
 have a:∀τ:zy,xW Ú ñc ý zH Ŝl=À Ŋf:=λτ=>ZV RL ãa rfl
 rw[SC];unfold Jh;cases ld with
 |Ä=>have b:nx=.int f:=h;subst b;simp only[ē,Y7,a,r,DR,TK,g,i,l,o,q,PX,b8,n,j,TL,m,Rp,PY]|Â=>have b:tg=.int f:=h;subst b;simp only[ē,Y7,a,r,DR,TK,g,i,l,o,q,PX,b8,n,j,TL,m,Rp,PY]
theorem ju{x y z:D}:zJ Úd Úa=À x:=rfl
def gm{x y z:D}:zJ Úd Ċb=À y:=rfl
def gr{x y z:D}:zJ Úd Ķk=À z:=rfl
def V4{x y:D}:zJ Ũd Úa=À x:=rfl
def V5{x y:D}:zJ Ũd Ċb=À y:=rfl
def Ĉc{i j:Int}:zg ða Òe=À Ċq:=by show À çj=_;rw[show ğf=decide (i=j)from rfl]
theorem XB{x:Str}:ur ŕc=À çh:=rfl
def To:decide (3<yD)=Â:=by decide
section
variable{Ws:Á Int}{a b c:Í}{hk:Á Ň}{hv:Á D}
def mN{d:Nat}{n:Int}(e:d<ņa):UU [st Ī a b c hk hv,.fz Ūh]=À ([st (wI (Ũc d n)) a b c hk hv,.fz Ūh],.fz .zK):=by rw[nc];unfold BE;simp only[ē,ju,gm,gr,ja,jo,qh,j7 e,jN]
theorem RO{d s:Nat}{v:Int}(f:d<ņa)(e:Ws[s]?=À v):UQ [st Ī a b c hk hv,.fz śh]=À ([st (wI (Ũc d v)) a b c hk hv,.fz śh],.fz .zK):=by rw[nW];unfold B9;simp only[ē,wv,pB,tJ e,ju,gm,gr,ja,jo,qh,j7 f,jN]
theorem XD{w:Int}{g:Int}(h:wV Ġc=À (Ä,.int g)):Ye [st Ī a b c hk hv,.fz åh]=À ([st Ī a (decide Âc) (decide ăe) hk hv,.fz åh],.fz .zK):=by rw[oI];unfold BX;simp only[ē,wv,h,Ĉc,XB,Uy,Q6,To,z5p,z5q,z6h,z6i]
theorem mK{d:Nat}{n v w:Int}(e:Ws[d]?=À v)(h:Yi [.int v,.int 16,.int 16,.int n]=À (Ä,.int w)):UR [st Ī a b c hk hv,.fz Ţh]=À ([st Ļe a b c hk hv,.fz Ţh],.fz .zK):=by have f:d<ņa:=Ăf.1;rw[nX];unfold BB;simp only[ē,wv,pB,tJ e,h,ju,gm,gr,ja,jo,qh,j7 f,jN]
theorem mQ{k:Str}{d s:Nat}{x y w g:Int}{u:Í}(e:wK ùc øb=À ĸ)(f:Ws[d]?=À x)(j:Ws[s]?=À y)(h:gB Æi=À (Ä,.tup Àj))(l:wV Ġc=À (Ä,.int g)) :jX ħm=À ([st Ļe u (decide Âc) (decide ăe) hk hv,.fz ėb],.fz .zK):=by have i:d<ņa:=ŧk.1;rw[SH];unfold Jj;simp only[ē,wv,pB,DQ,HI,tJ f,tJ j,h,ju,gm,gr,V4,V5,XB,Uy,Q6,To,Iz,O3,XD l,Yr,e,ja,jo,qh,j7 i,jN]
theorem j4{k:Str}{d s:D}{F:FM}{S a:M}(b:Yz p8 ùc=À ĸ)(c:ą p8 T8 éh=À F)(f:∀d,S≠.fz d)(g:wS d=Â)(i:wS s=Â)(h:F Ĉq=À (Ćq,.fz .zK)) :qp Ĉq=À (Ćq,.fz .zK):=by
 rw[Df];unfold Uz
 have e:jZ S 0 []=.p 0 []:=by
  cases S with
  |fz d=>exact Û rfl (f d)|_=>rfl
 simp only[ē,ju,b,XB,c,e,h]
theorem uf{ws:Á D}:∀d,st ws a b c hk hv≠.fz d:=λd h=>by cases h
omit a
section
variable{Ws:Á Int}{a b c:Í}{hk:Á Ň}{hv:Á D}
def mJ{k:Str}{d s:Nat}{x y w g:Int}(e:Ws[d]?=À x)(i:Ws[s]?=À y)(h:Wd [.str k,.int x,.int y]=À (Ä,.int w))(j:wV Ġc=À (Ä,.int g)) :ZK ħm=À ([st Ļe a (decide Âc) (decide ăe) hk hv,.fz ėb],.fz .zK):=by have f:d<ņa:=Ăf.1;rw[nV];unfold B8;simp only[ē,wv,pB,tJ e,tJ i,h,ju,gm,gr,XD j,Yr,ja,jo,qh,j7 f,jN]
theorem RP{k:Str}{d:Nat}{x n w g:Int}(f:Ws[d]?=À x)(t:Í)(e:zg ùc àc=À åe)(h:Ļl=À (Ä,.tup [.int w,.zK]))(j:wV Ġc=À (Ä,.int g)) :Ya Ħm=À ([st Ļe a (decide Âc) (decide ăe) hk hv,.fz ŗh],.fz .zK):=by
 have i:d<ņa:=ŧk.1;rw[SD];unfold Ji;cases t with
 |Ä=>rw[Ï Ð]at h;simp only[ē,wv,pB,tJ f,e,h,ju,gm,gr,V4,V5,XD j,Yr,ja,jo,qh,j7 i,jN]|Â=>rw[Ë rfl]at h;simp only[ē,wv,pB,tJ f,e,h,ju,gm,gr,V4,V5,XD j,Yr,ja,jo,qh,j7 i,jN]
theorem RQ{k:Str}{d:Nat}{x n w g:Int}{u:Í}(f:Ws[d]?=À x)(t:Í)(e:zg ùc àc=À åe)(h:Ļl=À (Ä,.tup Àj))(j:wV Ġc=À (Ä,.int g)) :Ya Ħm=À ([st Ļe u (decide Âc) (decide ăe) hk hv,.fz ŗh],.fz .zK):=by
 have i:d<ņa:=ŧk.1;rw[SD];unfold Ji;cases t with
 |Ä=>rw[Ï Ð]at h;simp only[ē,wv,pB,tJ f,e,h,ju,gm,gr,V4,V5,XB,Uy,Q6,To,Iz,O3,XD j,Yr,ja,jo,qh,j7 i,jN]|Â=>rw[Ë rfl]at h;simp only[ē,wv,pB,tJ f,e,h,ju,gm,gr,V4,V5,XB,Uy,Q6,To,Iz,O3,XD j,Yr,ja,jo,qh,j7 i,jN]
omit a
inductive qx:D->Prop
 |Ŕa:qx ìb
 |UG {w:Str} {d n:Int} (hw:w = ļ \/ w = čb) (d0:0<=d) (d1:d<8) (n0:0<=n) (n1:n<65536):qx Ġm
 |two {w:Str} {d s:Int} (hw:w = ĵa \/ w = ĥa \/ w = ča \/ w = Ľa \/ w = Ča \/ w = ųa \/ w = Ŷa \/ w = Ýb \/ w = Æa) (d0:0<=d) (d1:d<8) (s0:0<=s) (s1:s<8):qx (.tup [.str w,.int d,.int s])
 |UH {w:Str} {d n:Int} (hw:w = ĸa \/ w = ıa) (d0:0<=d) (d1:d<8) (n0:0<=n) (n1:n<32):qx Ġm
 |mem {w:Str} {d s n:Int} (hw:w = ōa \/ w = ŉa \/ w = Ŋa \/ w = ńa) (d0:0<=d) (d1:d<8) (s0:0<=s) (s1:s<8) (n0:0<=n) (n1:n<256):qx (.tup [.str w,.int d,.int s,.int n])
inductive Mc(m:Int):D->Prop
 |uU {p:Int} (p0:0<=p) (p1:p<=m):Mc m (.tup [.str ŏa,.int p])
 |êa {w k:Str} {p:Int} (hw:w = ĉa \/ w = Ąa) (hk:k = ía \/ k = ěa \/ k = Ĵa) (p0:0<=p) (p1:p<=m):Mc m (.tup [.str w,.str k,.int p])
def hX(m:Int)(d:D):Prop:=qx d\/Mc m d
noncomputable def uZ:D->Í
 |.tup Ńj=>w == ŏa || w == ĉa || w == Ąa|_=>Ä
def Sq:D->D
 |.tup xs=>(vw xs (-1)).getD .zK|_=>.zK
noncomputable def sF:D:=.tup [.str ŏa,.str ĉa,.str Ąa]
theorem Q4(h:qx d):∃w,zJ d Úa=À Ř/\xY Ř sF=À û/\zg Ř Ğe=À û/\uZ d=Ä/\ji 5 d=Â:=by
 cases h with
 |Ŕa=>exact⟨_,rfl,rfl,rfl,rfl,rfl⟩|UG hw=>rcases hw with rfl|rfl<;>exact⟨_,rfl,rfl,rfl,rfl,rfl⟩
 |two hw=>rcases hw with rfl|rfl|rfl|rfl|rfl|rfl|rfl|rfl|rfl<;>exact⟨_,rfl,rfl,rfl,rfl,rfl⟩
 |UH hw=>rcases hw with rfl|rfl<;>exact⟨_,rfl,rfl,rfl,rfl,rfl⟩
 |mem hw=>rcases hw with rfl|rfl|rfl|rfl<;>exact⟨_,rfl,rfl,rfl,rfl,rfl⟩
noncomputable def yh:D->Í
 |.tup Ńj=>w == "label"|_=>Ä
noncomputable def xK(t:Str):D:=.tup [.str "label",.str t]
theorem QF(h:hX m d):∃w,zJ d Úa=À Ř/\zg Ř Ğe=À û/\yh d=Ä/\ji 5 d=Â:=by
 rcases h with h|h;cases h with
 |Ŕa=>exact⟨_,rfl,rfl,rfl,rfl⟩|UG hw=>rcases hw with rfl|rfl<;>exact⟨_,rfl,rfl,rfl,rfl⟩
 |two hw=>rcases hw with rfl|rfl|rfl|rfl|rfl|rfl|rfl|rfl|rfl<;>exact⟨_,rfl,rfl,rfl,rfl⟩
 |UH hw=>rcases hw with rfl|rfl<;>exact⟨_,rfl,rfl,rfl,rfl⟩
 |mem hw=>rcases hw with rfl|rfl|rfl|rfl<;>exact⟨_,rfl,rfl,rfl,rfl⟩
 cases h with
 |uU=>exact⟨_,rfl,rfl,rfl,rfl⟩|êa hw hk=>rcases hw with rfl|rfl<;>rcases hk with rfl|rfl|rfl<;>exact⟨_,rfl,rfl,rfl,rfl⟩
noncomputable def Tz(t:Str):D->Í
 |.tup [_,.str u]=>u==t|_=>Ä
def uG(t:Str)(s:Nat×Æ Nat)(d:D):Nat×Æ Nat:=match yh d with
 |Â=>(s.1,match Tz t d with
  |Â=>À s.1|Ä=>s.2)
 |Ä=>(s.1+1,s.2)
def vR(t:Str)(L:Á D):Nat×Æ Nat:=L.foldl (uG t) (0,Ã)
def aZ(t:Str)(L:Á D)(d:D):vR t (L++[d])=uG t öc d:=by unfold vR;rw[Ýo];rfl
theorem CW(t:Str):∀(L:Á D)(s:Nat×Æ Nat),Ìg.1=s.1+(Ěo).length
 | [],_=>rfl|d::L,s=>by
  rw[òb,CW t L];unfold uG;cases h:yh d with
  |Â=>rw[ļd (by rw[h];decide)]|Ä=>rw[Ļd (by rw[h];rfl),Ă];show s.1+1+_=_;omega
def aW(t u:Str)(L:Á D):(vR t (L++[xK u])).2=if u=t then À (Ěo).length else öc.2:=by rw[aZ];have h:=CW t L (0,Ã);show(match(u==t)with|Â=>À öc.1|Ä=>öc.2)=_;by_cases e:u=t;rw[Ë e,Ýc e];show À öc.1=_;rw[show öc.1=_ from h,ń];rw[Ï e,Őb e]
theorem aY{t:Str}{L:Á D}{d:D}(h:yh d=Ä):(vR t (L++[d])).2=öc.2:=by rw[aZ];unfold uG;rw[h]
theorem PQ{L:Á D}{r:D}(h:ïa<=1000):Yy (.lst L) r=À (Α (L++[r])):=by show(if ïa<yD then _ else _)=_;rw[Ë (by show _<16777216;omega)]
inductive vN:D->Prop
 |Čc (t:Str):vN âl
 |Ŵa {d:D}:qx d->vN d
 |uU (t:Str):vN Ŕf
 |êa {w k:Str} (t:Str) (hw:w = ĉa \/ w = Ąa) (hk:k = ía \/ k = ěa \/ k = Ĵa):vN ţe
def rg(h:vN d):∃w,zJ d Úa=À Ř/\zg Ř Ğe=À (.bl (yh d))/\ji 5 d=Â:=by
 cases h with
 |Čc=>exact⟨_,rfl,rfl,rfl⟩|Ŵa h=>obtain⟨w,a,b,c,e⟩:=QF (m:=0) Ŷb;exact⟨w,a,by rw[c];exact b,e⟩
 |uU=>exact⟨_,rfl,rfl,rfl⟩|êa t hw hk=>rcases hw with rfl|rfl<;>rcases hk with rfl|rfl|rfl<;>exact⟨_,rfl,rfl,rfl⟩
theorem RW{R:D->D->Prop}:∀{xs ys:Á D},WT R xs ys->â=œ
 |_,_,.nil=>rfl|_,_,.cons _ r=>by rw[Ă,Ă,RW r]
theorem DB{R:D->D->Prop}:∀{xs ys:Á D},WT R xs ys->∀y∈ys,∃x∈xs,R x y
 |_,_,.nil,_,h=>by cases h|x::xs,y::ys,.cons r rs,z,hz=>by rcases ę hz with rfl|hz;exact⟨x,ĵ ..,r⟩;obtain⟨w,a,h⟩:=DB rs z hz;exact⟨w,Àa _ a,h⟩
inductive pq(N:Á Str):D->Prop
 |Ŵa {d:D}:qx d->pq N d
 |uU {t:Str} (ht:t∈N):pq N Ŕf
 |êa {w k t:Str} (hw:w = ĉa \/ w = Ąa) (hk:k = ía \/ k = ěa \/ k = Ĵa) (ht:t∈N):pq N ţe
def JU(N:Á Str)(d:D):Prop:=pq N d\/∃t∈N,d=xK t
def Cz{N:Á Str}{d:D}(h:pq N d):vN d/\yh d=Ä:=by
 cases h with
 |Ŵa h=>obtain⟨_,_,_,l,_⟩:=QF (m:=0) Ŷb;exact⟨.plain h,l⟩
 |uU ht=>exact⟨.uU _,rfl⟩|êa hw hk ht=>exact⟨.cond _ hw hk,by rcases hw with rfl|rfl<;>rfl⟩
def rZ{N:Á Str}{d:D}(h:JU N d):vN d:=by rcases h with h|⟨t,_,rfl⟩;exact(Cz h).1;exact .label t
structure gE(ps:Á Ĥ):Prop where
 ad:∀p∈ps,0<=p.1/\p.1<65536
 jV:∀p∈ps,0<=p.2/\p.2<256
 nd:(Ďa (·.1)).Nodup
def BL:FS:=
 (zc (yi (gj (tE (Zb .bool ý)) (γ (Zb .int ý)))
   (yO ùg)
   xA)
  (yO (gK (e2 (Μd (i<=j)) Ď ý) (e2 ŝf ý (e2 vH Ğ Ā)))))
def ZL:Á D->Æ ì:=FR 2 2 BL
def nq(a x1:D):ZL ė=yS 2 BL ė:=rfl
def iL:FS:=
 (yO (ze ZL (zB ý Ĭr)))
def Lx:Á D->Æ ì:=FR 1 1 iL
def iM:FS:=
 (zc (yi (gj (γ (Zb .tuple ý)) (tE (e2 wK Ůe Źc)))
   (yO ùg)
   xA)
  (yO (gK (ze Lx (Β ĩd)) (ze ZL (zB ăi ûg)))))
def Ly:Á D->Æ ì:=FR 1 1 iM
def sr:FS:=(zc (yi (γ (ze Ly ņc))
     Ńc
     xA)
    (zc (yi (tE (e2 xY óg (p9 1)))
     Ńc
     xA)
    (VV 1 óg şo)))
def iK:FS:=
 (zc ŷq
  (zc (yi Ğn
   ìl
   xA)
  (zc (yi Ėn
   Ńc
   xA)
  (zc (ge Ùh Ėf
   sr)
  ìl))))
def UO:Á D->Æ ì:=FR 1 3 iK
def Hc:FE:=(ze ZL (zB Ā īr))
def Bp:FS:=
 (zc (yi Ğn
   (uv (e2 V7 Ġo Ìb))
   xA)
  (zc (yi (gj Ėn (tE (e2 wK Ůe Ìb)))
   Ńc
   xA)
  (zc (yi (γ (eL DG (Β (vy 1 Ùh đb wE Hc))))
   Ńc
   xA)
  (uv (eL Y_ Òc)))))
def Ui:Á D->Æ ì:=FR 1 1 Bp
def oj(a:D):Ui [a]=yS 1 Bp [a]:=rfl
def BK:FS:=
 (yO (Ξa Įk))
def Yc:Á D->Æ ì:=FR 1 1 BK
def nk(a:D):Yc [a]=yS 1 BK [a]:=rfl
def BJ:FS:=
 (yO (e2 xY ĩd (eC IG)))
def Wc:Á D->Æ ì:=FR 1 1 BJ
def nj(a:D):Wc [a]=yS 1 BJ [a]:=rfl
def eI:FE:=Ā
def He:FT:=(γ (ze Yc Ñc))
def Bg:FS:=
 (uv (vy 1 Ùh đb He eI))
def qr:Á D->Æ ì:=FR 1 1 Bg
def oU(a:D):qr [a]=yS 1 Bg [a]:=rfl
def IS:FS:=(yi (tE (ze Yc Ųd))
     (VV 1 ůi ĥ)
     (yF 2 (e2 Ŗo ĥ Ğ)))
def BN:FS:=
 (zc ŷq
  (zc Ũq
  (zc (ge Ùh Ĕd
   IS)
  ìl)))
def We:Á D->Æ ì:=FR 1 4 BN
def nu(a:D):We [a]=yS 4 BN [a]:=rfl
def HX:FE:=(j5 (tE (ze Wc ņc)) (e2 zJ Ā (e2 zJ ĥ Ĭq)) Åf)
def Bj:FS:=
 (zc (yF 1 (vY We Òc))
  (uv (vy 1 (uq (vY qr Òc)) Ėf wE HX)))
def kC:Á D->Æ ì:=FR 1 2 Bj
def oX(a:D):kC [a]=yS 2 Bj [a]:=rfl
def Fu:FS:=(VV 2 Ŋ (Θ Šo (zB ôg Ïf)))
def Bh:FS:=
 (zc Īi
  (zc (gf 2 çi)
  (zc (ge (gO Ļj) ĥk
   Fu)
  (jp 2))))
def Uc:Á D->Æ ì:=FR 1 5 Bh
def oV(a:D):Uc [a]=yS 5 Bh [a]:=rfl
def Mu:yQ:=
 (yT (qC 0 [] [Ú] Ŧa (Jn İ WV (qR 0 Ňo (qR 0 ņo wq))))
  (yT (Ιd (xQ Ď))
  (qC 0 [] [Ú] ďd (xQ Ď))))
def ZH:FM:=vW 1 1 Mu
def nG(a:M):ZH [a]=wN 1 1 Mu [a]:=rfl
def Mt:yQ:=
 (yT (qC 0 [] [Ú] ňa (xQ Ā))
  (yT (qC 0 [] [Ú] Ŀb (xQ ĥ))
  (yT (qC 0 [] [Ú] Óc (xQ (vY Ui Ųd)))
  (yT (qC 0 [] [Ú] īc (xQ (vY UO Ïf)))
  (tL (j3 Ú õf 0 [] ZH wq))))))
def WU:FM:=vW 5 5 Mt
def nF(a x1 x2 x3 x4:M):WU ïg=wN 5 5 Mt ïg:=rfl
def B1:yQ:=
 (yT (uF 4 (xQ (vY Uc Ñc)))
  (tL (tz WU (qR 0 [] (wp Ÿ (wp (eL DJ Ïf) (wp ĥ (wp Ŋ wq))))))))
def ZI:FM:=vW 4 5 B1
def nN(a x1 x2 x3:M):ZI ťd=wN 4 5 B1 ťd:=rfl
theorem F_(P:Nat->yB->Prop):∀{ds:Á D}{β:yB}(n:Nat),P n β->(∀i d β,ds[i]?=À d->P (n+i) β->∃β1 β2,g d β=À β1/\b β1=À ŋc/\P Űk β2)->
  ∃β',tK g b ds β=À ųr/\P ůk β'
 | [],β,n,h,_=>⟨β,rfl,h⟩|d::ds,β,n,h,ŉb=>by
  obtain⟨β1,β2,e1,e2,r⟩:=ŉb 0 d β rfl h
  obtain⟨β',p,q⟩:=F_ P (ds:=ds) (β:=β2) Ĝ r λi c τ k o=>by obtain⟨a,s,j,e,l⟩:=ŉb ï c τ Ào (by rw[show n+ï=n+1+i by omega];exact o);exact⟨a,s,j,e,by rw[show n+1+i+1=n+ï+1 by omega];exact l⟩
  refine⟨β',?_,by rw[Ă,show n+ţk=n+1+ú by omega];exact q⟩;show((g d β).bind λβ1=>(Ÿk).bind λf=>match f with|.nx β2=>tK g b ds β2|.ct β2=>tK g b ds β2|.bk β2=>À ŋc|.rt m β2=>À ķq)=_;rw[e1];show(Ÿk).bind _=_;rw[e2];exact p
def z1q{i:Int}{w:Nat}(d:w<=64):ZL [.int i,.int (w:Int)]=À (Ä,.bl (decide Ģf&&decide (i<2 ^ w))):=by
 have b:qF 1 (w:Int)=Â:=by unfold qF;rw[Ġ Å,Ġ Å];rfl
 have e:vH Ċb õp=À ğp:=by show(match qF 1 (w:Int)with|Â=>À ŏf|Ä=>Ã)=_;rw[b];show À ŏf=_;rw[ğ,Ũe]
 rw[nq];unfold BL;by_cases c:0<=i;have a:decide Ģf=Â:=Ġ c;rw[a];simp only[ß,a,b,ğ,Ũe];have a:decide Ģf=Ä:=Ŏ c;rw[a];simp only[ß,a,Ži]
theorem y5x{Ws:Á Int}(h:ņa=8)(k:∀w∈Ws,0<=w/\w<4294967296):Ui Ŀg=À (Â,.lst Ī):=by
 have e:w6 đb wE Hc [À (Ä,.lst Ī),Ã] Ī=À ((Ī).map λ_=>.bl Â):=Tl (λ_=>.bl Â) λd n=>by
  obtain⟨w,c,rfl⟩:=ħb n;refine⟨_,rfl,?_⟩;obtain⟨a,b⟩:=k w c;have g:=z1q (i:=w) (w:=32) Ð;have f:(2:Int) ^ 32=4294967296:=by decide
  rw[f,Ġ a,Ġ b]at g;unfold Hc;simp only[ß,show ZL [.int w,.int 32]=À (Ä,.bl Â)from g]
 have e2:(Ī).map (λ_=>ŷc Â)=(į 8 Â).map ŷc:=by unfold wI;rw[Şb,Ĥi,<-h,<-List.map_const'];rfl
 have j:DG [.lst [.bl Â,.bl Â,.bl Â,.bl Â,.bl Â,.bl Â,.bl Â,.bl Â]]=À ĸ:=rfl;rw[e2]at e;have m:Y_ Ŀg=À İa:=rfl
 have l:wK (.int ((Ī).length:Int)) äa=À û:=by rw[qh,h];rfl
 rw[oj];unfold Bp;simp only[ß,l,e,j,m]
noncomputable def kP(ps:Á Ĥ):Á Ň:=Ďa λp=>.inl p.1
noncomputable def vP(ps:Á Ĥ):Á D:=Ďa λp=>.int p.2
def SJ:vO Ĩ Ĵb=decide (a∈Ďa (·.1)):=by
 unfold vO kP;rw[ćj,Ôd,ţn,ēo]
 constructor;rintro⟨p,b,e⟩;have c:=ŵ e;exact Ői ⟨p,b,Ûd c⟩;intro h;obtain⟨p,b,e⟩:=ħb h;exact⟨p,b,Ġ (ů Ş e)⟩
def z6c(h:a ∉ Ďa (·.1)):w_ Ĩ Ĵb=kP ļp/\wL Ĩ ŕ Ĵb (.int b)=vP ļp:=by
 have c:vO Ĩ Ĵb=Ä:=by rw[SJ];exact Ŏ h
 unfold w_ wL;rw[Ï øo,Ï øo];unfold kP vP;rw[ža,ža];exact⟨rfl,rfl⟩
def Mm(r:D):Prop:=Yc [r]=À (Ä,.bl Ä)/\Wc [r]=À (Ä,.bl Ä)
noncomputable def uz(n:Nat):Á Ň:=(ąc).map λk:Nat=>.inl (k:Int)
theorem Rz{g:Nat->D}{k:Nat}:∀{xs:Á Nat},k∈xs->ą (šc λk:Nat=>(.inl (k:Int):Sum Int Str)) (šc g) (.inl (k:Int))=À (g k)
 | [],h=>Û h ê|x::xs,h=>by rw[Ŗ,Ŗ];unfold ą;by_cases c:x=k;rw[Ë źq,c];rw[Ï (λz=>c (by have:=Ûd z;omega))];exact Rz ëm
def dG:vO Įh Çj=Ä:=by unfold vO uz;rw[ćj,ßo];intro k a;have:=ķe a;show ¬ decide ((.inl (k:Int):Sum Int Str)=.inl (n:Int))=Â;rw[ţn];intro z;have:=Ûd z;omega
def y0r{Ws:Á Int}{hk:Á Ň}{hv:Á D}:WV [.obj İ [] [],.fz İa,.fz ác]=À ([st Ī Ä Ä Ä hk hv,.fz İa,.fz ác],.fz .zK):=by have e1:w6 Ĕd wE eF [Ã,À (Ä,.lst Ī),À (Ä,.dic hk hv),Ã] TU=À Ėl:=rfl;have e2:Jz [.lst Ėl]=À (Y8 Ä Ä Ä):=rfl;have a:Y_ Ŀg=À İa:=rfl;have e:Jy [.dic hk hv]=À ác:=rfl;have d:∀{x:M}{zr:yB},jE x (Ρ (.obj İ [] [])) 0 [] [İ] Çb=À (Ω (.obj İ [Çb] [x])):=rfl;have c:∀{x y:M}{zr:yB},jE x (Ρ (.obj İ [Çb] [y])) 0 [] [İ] ûb=À (Ω (.obj İ ćr [y,x])):=rfl;have b:∀{x y z:M}{zr:yB},jE x (Ρ (.obj İ ćr [y,z])) 0 [] [İ] ąa=À (ςa (.obj İ Üj [y,z,x])):=rfl;rw[nO];unfold B2;simp only[ē,VA,e1,e2,a,e,d,c,b];rfl
def iA{T fw fh:D}{e:Int}{Ws:Á Int}{hk:Á Ň}{hv:Á D}{fs:Á Str}{ms:Á M}:ZH [.obj Ú ĳf ġl]=À ([xR T e İa ác (st Ī Ä Ä Ä hk hv) 0 0],.fz .zK):=by have i:tq Îo Ňo=À (δ (wI Ws)):=rfl;have k:tq Îo ņo=À (.fz ác):=rfl;have j:∀{a b c d x:M}{zr:yB},jE x Žh 0 [] [Ú] Ŧa=À (ςa (.obj Ú ìn [a,b,c,d,x])):=rfl;have l:∀{a b c d f x:M}{zr:yB},jE x (À (.obj Ú ìn [a,b,c,d,f])::zr) 0 [] [Ú] ūc=À (ςa (.obj Ú Ŀm [a,b,c,d,f,x])):=rfl;have h:∀{a b c d f g x:M}{zr:yB},jE x (À (.obj Ú Ŀm [a,b,c,d,f,g])::zr) 0 [] [Ú] ďd=À (Ω (.obj Ú uV [a,b,c,d,f,g,x])):=rfl;rw[nG];unfold Mu;simp only[ē,i,k,y0r,j,l,h];rfl
def Gb{x:Int}{n:Nat}(a:0<=x)(c:x<4294967296)(b:n<=64):qF x (n:Int)=Â:=by unfold qF;rw[Ġ Å,Ġ Å,Ġ (show x.natAbs<2 ^ 64 by omega)];rfl
def kn{x:Int}{l w:Nat}(b:w<=64):wV [.int x,.int (l:Int),.int (w:Int)]=À (Ä,.int (x/2 ^ l%2 ^ w)):=by
 have d:qF 1 (w:Int)=Â:=Gb Ð Ð b
 have a:vH Ċb õp=À ğp:=by show(match qF 1 (w:Int)with|Â=>À ŏf|Ä=>Ã)=_;rw[d];show À ŏf=_;rw[ğ,Ũe]
 have c:qB ĺc (.int (l:Int))=À (Ε Ŋr):=by show(match decide ((0:Int)<=(l:Int))with|Â=>À ěm|Ä=>Ã)=_;rw[Ġ (Ĝc l)];show À ěm=_;rw[ğ]
 have e:=CU Ŋr w;rw[Ũe]at e;rw[oQ];unfold Bd;simp only[yS,zc,yF,yO,e1,e2,z7,eC,Ùc,Ŗ,Ēg,Íd,ëg,Ă,Ód,ğb,ĸn,Çg,Æg,Űm,ům,a,c,pA,xq,Øj,Öj,Ĕp,e]
noncomputable def vZ(ps:Á Ĥ)(a b:Int):Á Ĥ:=if a∈Ďa (·.1)then Ďa ăm else ps++[(a,b)]
noncomputable def gP:Á Ĥ->Int->Int
 | [],_=>0|p::ps,a=>if p.1=a then p.2 else gP ps a
theorem S0(a:Int):∀ps:Á Ĥ,(ą Ĩ ŕ Ĵb).getD Úa=.int (gP ps a)
 | []=>rfl|p::ps=>by show(if(Ş p.1:Sum Int Str)=.inl a then À (Ħ p.2)else ą Ĩ ŕ Ĵb).getD Úa=.int (if p.1=a then p.2 else gP ps a);by_cases h:p.1=a;rw[Ë Źq,Ë h];rfl;rw[Ï ěo,Ï h];exact S0 a ps
theorem gL(a:Int):∀{ps:Á Ĥ},(∀p∈ps,0<=p.2/\p.2<256)->0<=gP ps a/\gP ps a<256
 | [],_=>⟨by show(0:Int)<=0;decide,by show(0:Int)<256;decide⟩|p::ps,h=>by
  unfold gP
  split;exact h p ĵ;exact gL a λq b=>h q Žd
theorem eJ(a b:Int):∀ps:Á Ĥ,ķc (λk' x=>if k'=(Ş a:Sum Int Str)then Ħ b else x) Ĩ ŕ=vP ťh
 | []=>rfl|p::ps=>by show(if(Ş p.1:Sum Int Str)=.inl a then Ħ b else .int p.2)::ķc _ Ĩ ŕ=Ħ ŉm.2::vP ťh;rw[eJ a b ps];by_cases h:p.1=a;rw[Ë Źq,Ë h];rw[Ï ěo,Ï h]
theorem DT(a b:Int):∀ps:Á Ĥ,(ťh).map (·.1)=Ďa (·.1)
 | []=>rfl|p::ps=>by show ŉm.1::_=p.1::_;rw[DT a b ps];by_cases h:p.1=a;rw[Ë h,<-h];rw[Ï h]
theorem sG(h:Ďa (·.1)=ćc (·.1)):kP ps=kP qs:=by
 have e:∀l:Á Ĥ,kP l=(ŵa (·.1)).map Ş:=λl=>by rw[Şb];rfl
 rw[e,e,h]
theorem z9b(ps:Á Ĥ)(a b:Int):w_ Ĩ Ĵb=kP ĭg/\wL Ĩ ŕ Ĵb (.int b)=vP ĭg:=by by_cases h:a∈Ďa (·.1);unfold vZ w_ wL;rw[Ë h,SJ,Ë (Ġ h),Ë (Ġ h),eJ,sG (DT a b ps)];exact⟨rfl,rfl⟩;unfold vZ;rw[Ï h];exact z6c h
def QW{ps:Á Ĥ}{a b:Int}(P:gE ps)(d:0<=a)(a1:a<65536)(b0:0<=b)(b1:b<256):gE ĭg:=by
 unfold vZ;by_cases h:a∈Ďa (·.1);rw[Ë h]
 have m:∀q∈Ďa ăm,q=(a,b)\/q∈ps:=λq c=>by obtain⟨p,f,rfl⟩:=ħb c;by_cases z:p.1=a;rw[Ë z];exact .inl rfl;rw[Ï z];exact .inr f
 refine⟨λq c=>?_,λq c=>?_,?_⟩;rcases m q c with rfl|z;exact⟨d,a1⟩;exact P.ad q z;rcases m q c with rfl|z;exact⟨b0,b1⟩;exact Ōb q z;rw[DT];exact P.nd;rw[Ï h];refine⟨λq c=>?_,λq c=>?_,?_⟩;rcases Ïa c with z|z;exact P.ad q z;cases Ķ z;exact⟨d,a1⟩;rcases Ïa c with z|z;exact Ōb q z;cases Ķ z;exact⟨b0,b1⟩;rw[ža,List.nodup_append];refine⟨P.nd,by simp,λx e y g=>?_⟩;cases Ķ g;exact λz=>h (by rw[<-show x=a from z];exact e)
def Z_{ps:Á Ĥ}{a b:Int}:(ĭg).length<=Ē+1:=by
 unfold vZ
 split;rw[é];omega;rw[ä];exact æa _
section
variable{Ws:Á Int}{a b c:Í}{ps:Á Ĥ}
def PL{x n:Int}:WY [.int x,.int n]=À (Ä,.int şd):=by
 have a:wV [.int (x+n),.int 0,.int 16]=À (Ä,.int şd):=by have:=kn (x:=x+n) (l:=0) (w:=16) Ð;rw[ŝe,Şe]at this;exact this
 rw[nR];unfold B5;simp only[ß,ċa,a]
theorem Py{x:Int}:WZ ïn=À (Ä,.int (gP ps x)):=by have a:ur ĺc=À (.inl x):=rfl;rw[nS];unfold B6;simp only[ß,DA,a,S0]
noncomputable def Wz(x:Int):Á D:=[.int ľc,.int Ľc,.int ļc,.int æc]
theorem Rs{x:Int}:Yb [.int x]=À (Â,.lst ġf):=by
 have b:vQ Ď Ńe [À (Ä,.int x)]=À (wT 4):=kq (n:=4) rfl Ð
 have e:w6 đb wE Ol ğe (wT 4)=À ġf:=by
  have:=Tl (g:=yR 1) (e:=Ol) (σ:=ğe) (ds:=wT 4) (Θc (Ζ (x+j))) λd a=>by obtain⟨k,_,rfl⟩:=ħb a;refine⟨_,rfl,?_⟩;unfold Ol;simp only[ß,PL]
  exact this
 rw[ni];unfold BI;simp only[ß,b,e]
theorem y5l(P:gE ps){x:Int}:Ug ïn=À (Ä,.int (gP ps ľc+gP ps Ľc*256+gP ps ļc*65536+gP ps æc*16777216)):=by
 have e:w6 Ėf wE On Ŕl ġf=À [.int (gP ps ľc),.int (gP ps Ľc),.int (gP ps ļc),.int (gP ps æc)]:=by
  have:=Tl (g:=yR 2) (e:=On) (σ:=Ŕl) (ds:=Wz x) (Θc (gP ps j)) λd b=>by
   obtain⟨j,rfl⟩:∃j,d=.int j:=by
    rcases ę b with rfl|b;exact⟨_,rfl⟩
    rcases ę b with rfl|b;exact⟨_,rfl⟩
    rcases ę b with rfl|b;exact⟨_,rfl⟩;exact⟨_,Ķ b⟩
   refine⟨_,rfl,?_⟩;unfold On;simp only[ß,Py]
  exact this
 obtain⟨H,y⟩:=gL ľc Ōb;obtain⟨b0,m⟩:=gL Ľc Ōb;obtain⟨Q,k⟩:=gL ļc Ōb;obtain⟨C,F⟩:=gL æc Ōb;generalize gP ps ľc=g0 at *;generalize gP ps Ľc=g1 at *;generalize gP ps ļc=g2 at *;generalize gP ps æc=g3 at *
 have c:∀{g:Int}(n:Nat),0<=g->g<256->n<=64->vH (.int g) Ĥc=À (Ε (g*2 ^ n)):=λ{g} n O f B=>by have f:=Gb (x:=g) (n:=n) O Å B;show(match qF g (n:Int)with|Â=>À Ĝm|Ä=>Ã)=_;rw[f];show À Ĝm=_;rw[ğ]
 have I:Uh [.lst ĺf]=À (Ä,.int õm):=by
  have z:VB ý ŷk [À (Ä,.lst ĺf)]=À ċl:=rfl;have L:vH ŵr Úa=À ŵr:=by have:=c 0 H y Ð;rw[ŝe,øq]at this;exact this
  have A:vH (.int g1) äa=À (Ε (g1*256)):=c 8 b0 m Ð;have R:vH (.int g2) Íb=À (Ε (g2*65536)):=c 16 Q k Ð;have N:vH (.int g3) Ŷr=À (Ε (g3*16777216)):=c 24 C F Ð
  have l:w6 (uE 1 2) wE HZ Ĥm ċl=À ıl:=by
   have a:∀(u v w:D),vH u v=À w->∃σ1,uE 1 2 Ñq Ĥm=À σ1/\HZ σ1=À w:=λu v w h=>⟨[À (Ä,.lst ĺf),À (Ä,u),À (Ä,v)],rfl,h⟩
   obtain⟨S,p,r⟩:=a _ _ _ L;obtain⟨U,G,s⟩:=a _ _ _ A;obtain⟨W,t,o⟩:=a _ _ _ R;obtain⟨T,E,q⟩:=a _ _ _ N;simp only[w6,p,G,t,E,r,s,o,q,wE,Ùc]
  have K:DO [.lst ıl]=À (.int õm):=by
   show(match((ŉf).all λi=>decide Ģf&&decide öo)&&decide ((ŉf:Á Int).length<=1000)with|Â=>À (Ħ (ŉf:Á Int).sum)|Ä=>Ã)=_
   have al:((ŉf:Á Int).all λi=>decide Ģf&&decide öo)=Â:=by simp only[ţ,List.all_nil,ć,Ðg,and_true];refine⟨⟨?_,?_⟩,⟨?_,?_⟩,⟨?_,?_⟩,?_,?_⟩<;>omega
   rw[al];show À (Ħ (g0+(g1*256+(g2*65536+(g3*16777216+0)))))=_
   congr 2
   omega
  rw[oi];unfold Bo;simp only[ß,z,l,K]
 rw[oh];unfold Bn;have J:OK (Α ġf)=À ġf:=rfl;simp only[ß,Rs,J,e,I]
theorem il{x:Int}:Wa [.int x]=À (Ä,.tup Ğl):=by
 have c:wV [.int x,.int 0,.int 8]=À (Ä,.int (x%256)):=by have:=kn (x:=x) (l:=0) (w:=8) Ð;rw[ŝe,Şe]at this;exact this
 have j:wV [.int x,.int 8,.int 8]=À (Ä,.int (x/256%256)):=kn (l:=8) (w:=8) Ð;have n:wV [.int x,.int 16,.int 8]=À (Ä,.int (x/65536%256)):=kn (l:=16) (w:=8) Ð;have m:wV [.int x,.int 24,.int 8]=À (Ä,.int (x/16777216%256)):=kn (l:=24) (w:=8) Ð;have a:∀(u w:D),wV [.int x,u,.int 8]=À (Ä,w)->∃σ1,yR 1 u ğe=À σ1/\Qj σ1=À w:=λu w h=>⟨[À (Ä,.int x),À (Ä,u)],rfl,by unfold Qj;simp only[ß,h]⟩
 obtain⟨q,e,g⟩:=a _ _ c;obtain⟨r,b,o⟩:=a _ _ j;obtain⟨s,i,d⟩:=a _ _ n;obtain⟨t,p,f⟩:=a _ _ m
 have l:w6 đb wE Qj ğe S6=À Ğl:=by show w6 đb wE Qj ğe [.int 0,.int 8,.int 16,.int 24]=_;simp only[w6,e,b,i,p,g,o,d,f,wE,Ùc]
 have k:∀w x y z:D,TJ [.lst ċr]=À (.tup ċr):=λ_ _ _ _=>rfl
 rw[nT];unfold B7;simp only[ß,V9,l,k]
theorem b9{x w:Int}(f:Ē<=1000):Wo úm=À ([.own (.dic (kP Ķp) (vP Ķp)),.fz ĺc,.fz åh],.fz .zK):=by
 have d:wV [.int w,.int 0,.int 8]=À (Ä,.int Óe):=by have:=kn (x:=w) (l:=0) (w:=8) Ð;rw[ŝe,Şe]at this;exact this
 have c:ur ĺc=À (.inl x):=rfl;have e:decide ((Ĩ).length<yD)=Â:=Ġ (by unfold kP;rw[é];show _<16777216;omega);obtain⟨a,b⟩:=z9b ps x Óe;rw[<-a,<-b,oR];unfold Be;simp only[ē,d,c,e]
def gc(ps:Á Ĥ)(x w:Int):Á Ĥ:=vZ (vZ (vZ (vZ ps ľc Óe) Ľc ĺj) ļc ãj) æc äg
def z6g{x w:Int}(E:Ē<=900):Ub úm=À ([.own Źl,.fz ĺc,.fz åh],.fz .zK):=by
 have z:VB ļj Ėq [Ã,À (Ä,.int x),À (Ä,.int w),Ã,Ã]=À ùl:=by unfold VB;simp only[ß,Rs,il];rfl
 have d:∀(c:Á Ĥ) (u v:Int) (f e:Æ M),ĳa<=1000->0<=v->v<256->IV [À ľm,À źg,À Ŀe,À (.fz (.int u)),À (.fz Ŗc)]=À (Δc (.dic (kP Ůq) (vP Ůq)) (.int u) Ŗc):=λc u v f e j s q=>by have g:=b9 (ps:=c) (x:=u) (w:=v) j;rw[Int.emod_eq_of_lt s q]at g;have i:jZ ľm 0 []=.p 0 []:=rfl;unfold IV;simp only[ē,i,g]
 have m:∀(o f e:Æ M)(u v:D),XA 3 4 Ñq [o,À źg,À Ŀe,f,e]=À [o,À źg,À Ŀe,À (.fz u),À (.fz v)]:=λ_ _ _ _ _=>rfl
 have C:=Z_ (ps:=ps) (a:=(x+0)%65536) (b:=w%256);have l:=d ps ľc Óe Ã Ã Å Å Å;generalize hq0:vZ ps ľc Óe=p0 at *;have A:=Z_ (ps:=p0) (a:=ĕb%65536) (b:=w/256%256);have n:=d p0 Ľc ĺj Ã Ã Å Å Å;generalize hq1:vZ p0 Ľc ĺj=p1 at *;have B:=Z_ (ps:=p1) (a:=(x+2)%65536) (b:=w/65536%256);have r:=d p1 ļc ãj Ã Ã Å Å Å;generalize hq2:vZ p1 ļc ãj=p2 at *;have h:=d p2 æc äg Ã Ã Å Å Å
 have t:vZ p2 æc äg=gc ps x w:=by unfold gc;rw[hq0,hq1,hq2]
 rw[t]at h
 have k:tK (XA 3 4) IV ùl [À ōg,À źg,À Ŀe,Ã,Ã]=À (Δc Źl (.int æc) (.int äg)):=by simp only[tK,m,l,n,r,h,Ùc]
 have y:ďc ōg=Ã:=rfl;rw[oT];unfold Bf;simp only[ē,y,z,k]
theorem z6q:zJ çg Úa=À x:=rfl
def O8{x y z w:D}:zJ çg Ċb=À y:=rfl
def z6r{x y z w:D}:zJ çg Ķk=À z:=rfl
def z6s{x y z w:D}:zJ çg (.int 3)=À w:=rfl
def Je{k:Str}{hk:Á Ň}{hv:Á D}{d:D}{s:Nat}{x n:Int}(e:Ws[s]?=À x):ZJ [uO Ī a b c hk hv,.tup [.str k,d,.int (s:Int),.int n]]=À (Ä,.int şd):=by rw[nQ];unfold B4;simp only[ß,pB,z6r,z6s,tJ e,PL]
theorem mL{d s:Nat}{x n:Int}(f:d<ņa)(e:Ws[s]?=À x):US [st Ī a b c Ĩ ŕ,.fz Ńl]=À ([st (wI (Ũc d (gP ps şd))) a b c Ĩ ŕ,.fz Ńl],.fz .zK):=by rw[nY];unfold BC;simp only[ē,wv,DP,Je e,Py,O8,ja,jo,qh,j7 f,jN]
theorem mM(P:gE ps){d s:Nat}{x n:Int}(f:d<ņa)(e:Ws[s]?=À x):UT [st Ī a b c Ĩ ŕ,.fz ńl]=À ([st (wI (Ũc d (gP ps õn+gP ps ôn*256+gP ps ón*65536+gP ps òn*16777216))) a b c Ĩ ŕ,.fz ńl],.fz .zK):=by have w:=y5l P (x:=(x+n)%65536);generalize gP ps õn+gP ps ôn*256+gP ps ón*65536+gP ps òn*16777216=v at w;rw[nZ];unfold BD;simp only[ē,wv,DP,Je e,w,O8,ja,jo,qh,j7 f,jN]
theorem mO(e:Ē<=1000){d s:Nat}{x n v:Int}(h:Ws[d]?=À v)(f:Ws[s]?=À x):UV [st Ī a b c Ĩ ŕ,.fz Ņl]=À ([st Ī a b c (kP Ňn) (vP Ňn),.fz Ņl],.fz .zK):=by have g:jZ ōg 0 Ëd=.p 0 Ëd:=rfl;rw[ng];unfold BF;simp only[ē,wv,pB,Je f,tJ h,O8,PV,b7,g,b9 e]
theorem mP(e:Ē<=900){d s:Nat}{x n v:Int}(h:Ws[d]?=À v)(f:Ws[s]?=À x):UW [st Ī a b c Ĩ ŕ,.fz ņl]=À ([st Ī a b c (kP ŀp) (vP ŀp),.fz ņl],.fz .zK):=by have g:jZ ōg 0 Ëd=.p 0 Ëd:=rfl;rw[nh];unfold BH;simp only[ē,wv,pB,Je f,tJ h,O8,PV,b7,g,z6g e]
theorem Jt{k:Str}{d s n:D}{F:FM}{S a:M}(f:Yz p8 ùc=À ĸ)(c:ą p8 T8 éh=À F)(e:∀d,S≠.fz d)(h:F ĉq=À (ćq,.fz .zK)) :qp ĉq=À (ćq,.fz .zK):=by
 rw[Df];unfold Uz
 have b:jZ S 0 []=.p 0 []:=by
  cases S with
  |fz d=>exact Û rfl (e d)|_=>rfl
 simp only[ē,z6q,f,XB,c,b,h]
omit a
def z6l(n:Nat):(0:Int)<2 ^ n:=İj Ð
noncomputable def kL(k:Str)(x y:Nat):Nat:=if k = ųa then x &&& y else if k = Ŷa then x ||| y else x ^^^ y
inductive WS:Str->Prop
 |and:WS ųa |or:WS Ŷa |xor:WS Ýb
def iZ{k:Str}(h:WS k){x y:Nat}(b:x<4294967296)(a:y<4294967296):kL k x y<4294967296:=by
 have e:(4294967296:Nat)=2 ^ 32:=by decide
 rw[e]at b a ⊢;unfold kL
 split;exact Nat.and_lt_two_pow _ a;split;exact Ûo b a;exact Nat.xor_lt_two_pow b a
def C6(z:Nat):z%2=(z.testBit 0).toNat:=by rw[ág];rcases Íc z with h|h<;>rw[h]<;>rfl
theorem aF:∀(n x y:Nat),x<=n->(x ||| y)=ík+îk
 |0,x,y,h=>by
  have:x=0:=by omega
  subst this;simp
 |n+1,x,y,h=>by
  by_cases z:x=0;subst z;simp;have a:=aF n (x/2) (y/2) Å;have e:(x ||| y)/2=x/2 ||| y/2:=Nat.or_div_two;have g:ík/2=x/2 ^^^ y/2:=Nat.xor_div_two;have b:îk/2=x/2 &&& y/2:=Nat.and_div_two;have f:=C6 (x ||| y);have d:=C6 ík;have i:=C6 îk;rw[Ÿi]at f;rw[Nat.testBit_xor]at d;rw[Òd]at i
  have c:((ðd 0||Àf 0).toNat:Nat)=(ðd 0 ^^ Àf 0).toNat+(ðd 0&&Àf 0).toNat:=by cases ðd 0<;>cases Àf 0<;>rfl
  rw[<-e,<-g,<-b]at a;omega
def iy(x y:Nat):żi (x:Int) (y:Int)=((x ^^^ y:Nat):Int):=by
 show Ża (x:Int) (y:Int)-Îa (x:Int) (y:Int)=_;rw[Jl,Pc,aF x x y Ċ]
 push_cast
 omega
def sE{k:Str}(h:WS k){x y:Nat}:Wd [.str k,.int (x:Int),.int (y:Int)]=À (Ä,.int (kL k x y:Int)):=by
 have b:zg ţb ţb=À ĸ:=rfl;have c:zg Ũb ţb=À û:=rfl;have e:zg Ũb Ũb=À ĸ:=rfl;have a:zg àd ţb=À û:=rfl;have d:zg àd Ũb=À û:=rfl;rw[nr];unfold BM kL;cases h with
 |and=>rw[Ë rfl,<-Pc];simp only[ß,b]|or=>rw[Ï ãa,Ë rfl,<-Jl];simp only[ß,c,e]|xor=>rw[Ï ãa,Ï ãa];simp only[ß,a,d,iy]
section
variable{Ws:Á Int}{a b c:Í}{hk:Á Ň}{hv:Á D}
noncomputable def qE(p:Í):Int:=if p then 1 else 0
def PK{x y:Int}{p:Í}:WX üi=À (Ä,.tup [.int (εb (x+y+qE p)),.bl (decide (4294967296<=x+y+qE p))]):=by
 have a:decide ((0:Int)<4294967296)=Â:=by decide
 rw[nP];unfold B3;cases p<;>simp only[ß,ċa,qE,a,Œb,Õa,ŋ]
theorem HG{x y:Int}{p:Í}(h:0<=x)(x1:x<4294967296)(f:0<=y)(g:y<4294967296):Wp üi=À (Ä,.tup [.int (εb (x-y-qE p)),.bl (decide (x-y-qE p<0))]):=by
 have c:∀(q:Int),(q=0\/q=1)->(∀τ:zy,j5 (tE ĥ) Ğ Ď [À (Ä,.int x),À (Ä,.int y),À (Ä,.bl p),Ã]=À (.int q))->Wp üi=À (Ä,.tup [.int (εb Ūk),.bl (decide ëk)]):=λq i d=>by
  have a:=d [];rw[oW];unfold Bi;generalize j5 (tE ĥ) Ğ Ď=EE at a;by_cases z:x-y-q<0;have b:decide ëk=Â:=Ġ z;have e:Ūk%4294967296=x-y-q+4294967296:=by omega
  rw[e,b];simp only[ß,a,b,ċa];have b:decide ëk=Ä:=Ŏ z;have e:Ūk%4294967296=x-y-q:=by omega
  rw[e,b];simp only[ß,a,b]
 cases p with
 |Ä=>exact c 0 ŉ λ_=>rfl|Â=>exact c 1 Ņc λ_=>rfl
inductive Yp:Str->Prop
 |add:Yp ĥa |addc:Yp ča |sub:Yp Ľa |subc:Yp Ča |test:Yp Æa
def Gz{k:Str}(h:Yp k){x y:Int}(g:0<=x)(x1:x<4294967296)(e:0<=y)(f:y<4294967296):∃(t:Int) (u:Í),gB Æi=À (Ä,.tup [.int (t%4294967296),.bl u]):=by
 cases h with
 |add=>refine⟨x+y+qE Ä,decide (4294967296<=x+y+qE Ä),?_⟩;have b:zg ôb ôb=À ĸ:=rfl;rw[TV];unfold Ys;simp only[ß,b,PK]|addc=>refine⟨x+y+qE a,decide (4294967296<=x+y+qE a),?_⟩;have b:zg şa ôb=À û:=rfl;have c:zg şa şa=À ĸ:=rfl;rw[TV];unfold Ys;simp only[ß,b,c,PK]|sub=>refine⟨x-y-qE Ä,decide Úp,?_⟩;have b:zg Ţb ôb=À û:=rfl;have c:zg Ţb şa=À û:=rfl;have d:zg Ţb Şa=À û:=rfl;rw[TV];unfold Ys;cases a<;>simp only[ß,b,c,d,HG g x1 e f]|subc=>refine⟨x-y-qE a,decide (x-y-qE a<0),?_⟩;have b:zg Şa ôb=À û:=rfl;have c:zg Şa şa=À û:=rfl;have d:zg Şa Şa=À ĸ:=rfl;rw[TV];unfold Ys;cases a<;>simp only[ß,b,c,d,HG g x1 e f]|test=>refine⟨x-y-qE Ä,decide Úp,?_⟩;have b:zg øb ôb=À û:=rfl;have c:zg øb şa=À û:=rfl;have d:zg øb Şa=À û:=rfl;rw[TV];unfold Ys;cases a<;>simp only[ß,b,c,d,HG g x1 e f]
theorem RS{d s:Nat}{x y w g:Int}{u:Í}(i:Ws[d]?=À x)(f:Ws[s]?=À y)(h:gB [.str Æa,.int x,.int y,.bl a]=À (Ä,.tup Àj))(j:wV Ġc=À (Ä,.int g)) :jX [st Ī a b c hk hv,.fz ţl]=À ([st Ī u (decide Âc) (decide ăe) hk hv,.fz ţl],.fz .zK):=by have e:wK øb øb=À û:=rfl;rw[SH];unfold Jj;simp only[ē,wv,pB,DQ,HI,tJ i,tJ f,h,ju,gm,gr,V4,V5,XB,Uy,Q6,To,Iz,O3,XD j,Yr,e]
omit a
def z07{x:Int}{n:Nat}(e:0<=x)(f:x<4294967296)(g:n<=31):Yg în=À (Ä,.tup [.int (x*2 ^ n%4294967296),if n=0 then .zK else .bl (decide (x*2 ^ n/4294967296%2=1))]):=by
 have d:=Gb (n:=n) e f Å;have c:∀y:Int,wV [.int y,.int 32,.int 1]=À (Ä,.int (y/4294967296%2)):=λy=>kn (x:=y) (l:=32) (w:=1) Ð
 have b:∀y:Int,wV [.int y,.int 0,.int 32]=À (Ä,.int (y%4294967296)):=λy=>by have:=kn (x:=y) (l:=0) (w:=32) Ð;rw[ŝe,Şe]at this;exact this
 rw[oJ];unfold BY;by_cases z:n=0;have a:decide Ĳg=Â:=Ġ Å;rw[Ë z];simp only[ß,d,ğ,c,b,Ĉc,a];have a:decide Ĳg=Ä:=Ŏ Å;rw[Ï z];simp only[ß,d,ğ,c,b,Ĉc,a]
theorem z7e{x:Int}{n:Nat}:Yh în=À (Ä,.tup [.int (x/2 ^ n),if n=0 then .zK else .bl (decide (x/2 ^ (n-1)%2=1))]):=by
 have b:decide ((0:Int)<=(n:Int))=Â:=Ġ (Ĝc n);rw[oK];unfold BZ;by_cases z:n=0;have a:decide Ĳg=Â:=Ġ Å;rw[Ë z];simp only[ß,b,ğ,Ĉc,a];have a:decide Ĳg=Ä:=Ŏ Å
 have p:wV [.int x,.int ((n:Int)-1),.int 1]=À (Ä,.int (x/2 ^ (n-1)%2)):=by rw[show(n:Int)-1=((n-1:Nat):Int) by omega];exact kn (l:=n-1) (w:=1) Ð
 rw[Ï z];simp only[ß,b,ğ,p,Ĉc,a]
theorem y5r{w n:Int}(c:0<=w)(j:w<4294967296)(b:0<=n)(g:n<65536):Yi üm=À (Ä,.int (w%65536+65536*n)):=by
 have e:=y5s (x:=w) (n:=n) (l:=16) (w:=16) c b g;have k:Yi üm=À (Ä,.int (Ża (Îa w (Ŕb ((1*2 ^ 16-1)*2 ^ 16))) (n*2 ^ 16)))\/Åc:=.inr trivial
 have i:qF n 16=Â:=by unfold qF;rw[Ġ (show čk<2 ^ 64 by omega)];rfl
 have d:vH óf Íb=À (Ε òk):=by show(match qF n 16 with|Â=>À (Ħ (n*2 ^ (16:Int).toNat))|Ä=>Ã)=_;rw[i];rfl
 have f:vH (.int 65535) Íb=À (.int 4294901760):=rfl;have a:vH Ċb Íb=À Òq:=rfl
 have h:Ża Ťm òk=w%65536+65536*n:=by have e1:Ża Ťm òk=w+(n-w/65536%65536)*65536:=e;rw[e1];omega
 rw[og];unfold Bm;simp only[yS,zc,yF,yO,e1,e2,z7,eC,Ùc,Ŗ,Ēg,Íd,ëg,Ă,Ód,ğb,ĸn,Çg,Æg,Űm,ům,d,f,a,pA,V6,xq,Øj,Öj,Ĕp,h]
noncomputable def gk(Ħa tgs:Á D)(n:Nat):Á D:=(ąc).map λk:Nat=>.tup řh
theorem y1s:w_ Įh Çj=uz Ĝ/\wL Įh ép Çj (.tup [ãr n .zK,.int ((n:Int)+1),ćk n .zK])=gk Ħa tgs Ĝ:=by unfold w_ wL;rw[Ï Éo,Ï Éo];unfold uz gk;rw[List.range_succ,ža,ža];exact⟨rfl,rfl⟩
def dF{Ħa tgs:Á D}{k n:Nat}(h:k<n):zJ (.dic Įh ép) ĩb=À (.tup řh):=by show(ur ĩb).bind _=_;exact Rz (g:=λk:Nat=>.tup řh) (ēa h)
def y1r{z6 Ħa tgs:Á D}(h:qr Ũa=À (Â,.lst Ħa))(q:kC Ũa=À (Â,.lst tgs))(k:œj=Øc)(s:Øc<=1000):Uc Ũa=À (Â,.dic Øh łi):=by
 have e:gO Ļj Ģl=À (jh tgs):=by unfold gO;simp only[ß,q]
 obtain⟨σ',e1,x,y,rfl⟩:=XE (g:=uE 3 4) (b:=Fu) (λi σ=>∃x y:Æ Sl,σ=[À (Ä,.lst z6),À (Ä,.lst Ħa),À (Â,.dic (uz i) (gk Ħa tgs i)),x,y])
  (ds:=jh tgs) (σ:=Ģl) 0 ⟨Ã,Ã,rfl⟩ λi d σ c j=>by
   obtain⟨x,y,rfl⟩:=j;rw[ń]
   have o:i<Øc:=by have:=(ō c).1;rw[XJ]at this;omega
   have a:i<œj:=by omega
   rw[Il,č a]at c;cases c;have gt:tgs[i]=ćk i .zK:=by rw[Ŵ,č a];rfl
   rw[gt]
   have r:zJ (.lst Ħa) Ħb=À (ãr i .zK):=by show vw Ħa (i:Int)=_;unfold vw;rw[Ë (Ĝc i),ğ,Ŵ,č o];rfl
   obtain⟨f,p⟩:=y1s (Ħa:=Ħa) (tgs:=tgs) (n:=i);have m:(uz i).length<yD:=by unfold uz;rw[é,īa];show _<16777216;omega
   have l:ur Ħb=À (.inl (i:Int)):=rfl;refine⟨_,[À (Ä,.lst z6),À (Ä,.lst Ħa),À (Â,.dic (uz ï) (gk Ħa tgs ï)),À (Ä,.int (i:Int)),À (Ä,ćk i .zK)],rfl,.inl ?_,_,_,rfl⟩;rw[<-f,<-p];unfold Fu;simp only[ß,VV,r,ċa,l,Ë m]
 rw[ń,XJ,k]at e1;rw[oV];unfold Bh;generalize jh tgs=NN at e e1;simp only[ß,h,e,e1]
theorem z0r{T md:D}{e:Int}{Ws:Á Int}{ps:Á Ĥ}(k:ņa=8)(g:∀w∈Ws,0<=w/\w<4294967296)(h:UO [md]=À (Â,.dic Ĩ ŕ)) :WU [.obj Ú [] [],.fz T,.fz æh,.fz İa,.fz md]=À ([xR T e İa ĕe ĭm 0 0,.fz T,.fz æh,.fz İa,.fz md],.fz .zK):=by have i:∀{x:M}{zr:yB},jE x (Ρ ħo) 0 [] [Ú] ňa=À (Ω (.obj Ú [ňa] [x])):=rfl;have m:∀{a x:M}{zr:yB},jE x (Ρ (.obj Ú [ňa] [a])) 0 [] [Ú] Ŀb=À (Ω (.obj Ú Ąr [a,x])):=rfl;have l:∀{a b x:M}{zr:yB},jE x (Ρ (.obj Ú Ąr Āe)) 0 [] [Ú] Óc=À (ςa (.obj Ú Ěp [a,b,x])):=rfl;have n:∀{a b c x:M}{zr:yB},jE x (À (.obj Ú Ěp [a,b,c])::zr) 0 [] [Ú] īc=À (Ω (.obj Ú ĳf [a,b,c,x])):=rfl;have f:=iA (T:=T) (e:=e) (fw:=.zK) (fh:=.zK) (Ws:=Ws) (hk:=kP ps) (hv:=vP ps) (fs:=[]) (ms:=[]);have j:∀{a b c d:M}{zr:yB},j3 Ú õf 0 [] ZH wq Žh=jb ZH [.p 0 []] Žh:=rfl;rw[nF];unfold Mt;simp only[ß,yT.eq_1,tL.eq_1,qC.eq_1,xQ.eq_1,jd.eq_1,ír,wN.eq_1,Zc.eq_1,Zc.eq_2,qz.eq_1,qz.eq_2,@Option.map_some.{0,0},@List.take_succ_cons.{0},@List.take_zero.{0},i,m,l,n,y5x k g,h,j];simp only[ē,f]
theorem z7f{z6 Ħa tgs:Á D}{md:D}{Ws:Á Int}{ps:Á Ĥ}(b:qr Ũa=À (Â,.lst Ħa))(d:kC Ũa=À (Â,.lst tgs))(h:œj=Øc)(a:Øc<=1000)(g:ņa=8)(e:∀w∈Ws,0<=w/\w<4294967296)(f:UO [md]=À (Â,.dic Ĩ ŕ)) :ZI [.obj Ú [] [],.fz úk,.fz İa,.fz md]=À ([xR (.dic Øh łi) Øc İa ĕe ĭm 0 0,.fz úk,.fz İa,.fz md],.fz .zK):=by
 have c:jZ ħo 0 []=.p 0 []:=rfl
 have i:DJ [.dic Øh łi]=À (.int Øc):=by show À (Ħ ((Øh).length:Int))=_;unfold uz;rw[é,īa]
 rw[nN];unfold B1;simp only[ē,y1r b d h a,i,c,z0r g e f]
def iP:FS:=
 (yO (e2 vH Ğ (e2 yb Ìb (e1 (Rm TU) ý))))
def Yf:Á D->Æ ì:=FR 1 1 iP
def iQ:FS:=
 (yO (gK (TB (Ξa (eC àc)) (Ξa (eC ūd))) (e2 zg ţo Ď)))
def Lz:Á D->Æ ì:=FR 1 1 iQ
def iS:FS:=
 (zc (yi ŉn
   (yO (eC çd))
   xA)
  (zc (yi (gj (tE (e2 zg ĩd Äg)) (tE (e2 zg ĩd Ăi)))
   (yO (ze Yf (Β ăi)))
   xA)
  (zc ũq
  (zc (yi (ω (eC Dh))
   Ğr
   xA)
  (zc (yi (ω (eC Di))
   (χb ţo)
   xA)
  (zc (yi (ω (eC Dg))
   ťl
   xA)
  (yO Ā)))))))
def uK:Á D->Æ ì:=FR 1 2 iS
def iR:FS:=
 (zc ũq
  (zc (yi (ω (eC Dk))
   Ğr
   xA)
  (zc (yi (ω (eC Dl))
   (yF 1 (e2 ëf (e2 ëf Ā (ze Yf (Η źe))) (ze Yf Īr)))
   xA)
  (zc (yi (Qd (ω (eC Dj)) (γ (ze Lz Òc)))
   ťl
   xA)
  (yO Ā)))))
def qO:Á D->Æ ì:=FR 1 2 iR
def Zu{w:Int}:wV Ġc=À (Ä,.int (w/2147483648%2)):=by have e:=CU ūq 1;have a:wV Ġc=À (Ä,.int (Îa ūq (1*2 ^ 1-1))):=rfl;rw[a,e];rfl
inductive Uk:Str->Prop
 |load:Uk ōa |store:Uk ŉa |loadw:Uk Ŋa |storew:Uk ńa
inductive py:D->Prop
 |sum {k:Str} {d s:Nat} (h:Yp k) (hd:d<8) (hs:s<8):py ėb
 |bits {k:Str} {d s:Nat} (h:WS k) (hd:d<8) (hs:s<8):py ėb
 |copy {d s:Nat} (hd:d<8) (hs:s<8):py śh
 |set {d:Nat} {n:Int} (hd:d<8) (n0:0<=n) (n1:n<65536):py Ūh
 |high {d:Nat} {n:Int} (hd:d<8) (n0:0<=n) (n1:n<65536):py Ţh
 |left {d n:Nat} (hd:d<8) (hn:n<=31):py (.tup [.str ĸa,.int (d:Int),.int (n:Int)])
 |right {d n:Nat} (hd:d<8) (hn:n<=31):py (.tup [.str ıa,.int (d:Int),.int (n:Int)])
 |mem {k:Str} {d s:Nat} {n:Int} (h:Uk k) (hd:d<8) (hs:s<8) (n0:0<=n) (n1:n<256):py (.tup [.str k,.int (d:Int),.int (s:Int),.int n])
def p6(r:D)(R:Á Nat)(o:Æ Nat)(pc pn:Í):Í:=match uK [r],qO [r]with
 |À (Ä,.int u),À (Ä,.int p)=>decide (0<=u)&&(decide (0<=p)&&(R.all (λk=>ĸo k)&&((ř).all (λk=>ég k==decide ŗr)&&((ég 8==pc)&&((ég 9==pn)&&(ég 10==pn))))))|_,_=>Ä
structure UP(r:D)(R:Á Nat)(o:Æ Nat)(pc pn:Í)(U Pt:Nat):Prop where
 u:uK [r]=À (Ä,.int (U:Int))
 p:qO [r]=À (Ä,.int (Pt:Int))
 r:∀k∈R,Îk k=Â
 o:∀k,k<8->ļg k=decide ŗr
 c:ļg 8=pc
 n:ļg 9=pn
 s:ļg 10=pn
def jL{r:D}{R:Á Nat}{o:Æ Nat}{pc pn:Í}(h:p6 r R o pc pn=Â):∃U Pt,UP r R o pc pn U Pt:=by
 unfold p6 at h
 split at h;rename_i u p e1 e2;simp only[ć,Ðg,ĺg]at h;obtain⟨b,e,i,c,f,d,g⟩:=h;refine⟨łk,p.toNat,by rw[Àg b];exact e1,by rw[Àg e];exact e2,λk a=>Ĕa i k a,λk a=>?_,f,d,g⟩;exact ŗd (Ĕa c k (ēa a));cases h
def Jq:([ĥa,ča,Ľa,Ča].all λw=>(ř).all λd=>(ř).all λs=>p6 ĸf Ňb Źb Â Â)=Â:=by kernel_rfl
def lU:((ř).all λd=>(ř).all λs=>p6 (.tup [.str Æa,.int (d:Nat),.int (s:Nat)]) Ňb Ã Â Â)=Â:=by kernel_rfl
def Bz:([ųa,Ŷa,Ýb].all λw=>(ř).all λd=>(ř).all λs=>p6 ĸf Ňb Źb Ä Â)=Â:=by kernel_rfl
def lR:((ř).all λd=>(ř).all λs=>p6 (.tup [.str ĵa,.int (d:Nat),.int (s:Nat)]) [s] Źb Ä Ä)=Â:=by kernel_rfl
def lT(n:Int):((ř).all λd=>p6 (.tup [.str ļ,.int (d:Nat),.int n]) [] Źb Ä Ä)=Â:=by kernel_rfl
def lS(n:Int):((ř).all λd=>p6 (.tup [.str čb,.int (d:Nat),.int n]) [d] Źb Ä Ä)=Â:=by kernel_rfl
def R7:((Øk).all λw=>(ř).all λd=>(Ğk).all λs=>p6 ĸf [d] Źb (decide (s≠0)) Â)=Â:=by kernel_rfl
def R6(n:Int):([ōa,Ŋa].all λw=>(ř).all λd=>(ř).all λs=>p6 ĸl [s] Źb Ä Ä)=Â:=by kernel_rfl
def R8(n:Int):([ŉa,ńa].all λw=>(ř).all λd=>(ř).all λs=>p6 ĸl Ňb Ã Ä Ä)=Â:=by kernel_rfl
def al{α:Type}{l:Á α}{f:α->Í}(h:l.all f=Â){x:α}(a:x∈l):f x=Â:=Ĕa h x a
noncomputable def putO(o:Æ Nat)(w:Int)(Ws:Á Int):Á Int:=match o with
 |À d=>Ũc d w|Ã=>Ws
structure NH(r:D)(R:Á Nat)(o:Æ Nat)(pc pn:Í)(V:Nat->Int)(a b c:Í)(ps:Á Ĥ)(w:Int)(a' b' c':Í)(ps':Á Ĥ):Prop where
 w0:0<=w
 w1:w<4294967296
 P:gE ps'
 l:łq<=Ē+4
 ca:pc=Ä->a'=a
 cb:pn=Ä->b'=b
 cc:pn=Ä->c'=c
 dr:∀Ws:Á Int,ņa=8->(∀k∈R,Ws[k]?=À (V k))->qp [st Ī a b c Ĩ ŕ,.fz r]=À ([st (wI (putO o w Ws)) a' b' c' īk Ģk,.fz r],.fz .zK)
def E2(r:D)(R:Á Nat)(o:Æ Nat)(pc pn d:Í)(V:Nat->Int)(ps:Á Ĥ):Prop:=
 ∃(w:Í->Int) (A B C:Í->Í) (ps':Á Ĥ),(d=Ä->∀x y,w x=w y/\A x=A y/\B x=B y/\C x=C y)/\∀a b c,NH r R o pc pn V a b c ps (w a) (êa pc (A a) a) (êa pn (B a) b) (êa pn (C a) c) ps'
structure NG(r:D)(R:Á Nat)(o:Æ Nat)(pc pn uc:Í):Prop where
 up:∃U Pt,UP r R o pc pn U Pt
 r8:∀k∈R,k<8
 o8:∀d,o=À d->d<8
 ld:∀D1,qq [D1,r]=À (Ä,.bl Ä)
 st:zg r ìb=À û
 tp:wS r=Â
 pl:Mm r
 cu:uc=Â->∀U:Nat,uK [r]=À (Ä,.int (U:Int))->Îk 8=Â
 ef:∀(V:Nat->Int)(ps:Á Ĥ),(∀k,k<8->0<=V k/\V k<4294967296)->gE ps->Ē<=800->E2 r R o pc pn uc V ps
def Yw{r:D}{R:Á Nat}{o:Æ Nat}{V:Nat->Int}{ps ps':Á Ĥ}{W:Int}(h:∀a b c,NH r R o Ä Ä V a b c ps W a b c ps'):E2 r R o Ä Ä Ä V ps:=⟨λ_=>W,λ_=>Â,λ_=>Â,λ_=>Â,ps',λ_ _ _=>⟨rfl,rfl,rfl,rfl⟩,h⟩
def Jp(r:D):Í:=match uK [r]with
 |À (Ä,.int u)=>ĸo 8|_=>Ä
def R5:([ča,Ča].all λw=>(ř).all λd=>(ř).all λs=>Jp ĸf)=Â:=by kernel_rfl
def iz{r:D}(h:Jp r=Â)(U:Nat)(e:uK [r]=À (Ä,.int (U:Int))):Îk 8=Â:=by unfold Jp at h;rw[e]at h;exact h
def y0w{k:Str}(h:k = ĥa \/ k = Ľa \/ k = Æa)(x y:Int)(a b:Í):gB Æi=gB [.str k,.int x,.int y,.bl b]:=by rcases h with rfl|rfl|rfl<;>cases a<;>cases b<;>rfl
def z0n(h:k∈[d,s]):k=d\/k=s:=by simpa using h
def lt2{d s:Nat}(c:d<8)(b:s<8):∀k∈[d,s],k<8:=λk a=>by rcases z0n a with rfl|rfl<;>assumption
def kz{d:Nat}(a:d<8):∀k,À d=À k->k<8:=λk e=>by cases e;exact a
def mT{r:D}(h:py r):∃R o pc pn uc,NG r R o pc pn uc:=by
 cases h with
 |@sum k d s h hd hs=>
  have m:=ēa hd;have p:=ēa hs
  have J:∀(uc:Í),Ţl->∀V:Nat->Int,(∀k,k<8->0<=V k/\V k<4294967296)->∃(w:Í->Int) (u:Í->Í),(uc=Ä->∀x y,w x=w y/\u x=u y)/\∀a,0<=w a/\w a<4294967296/\gB [.str k,.int (V d),.int (V s),.bl a]=À (Ä,.tup [.int (w a),.bl (u a)]):=λuc hu V hv=>by
   obtain⟨E,H⟩:=hv d hd;obtain⟨O,y1⟩:=hv s hs;obtain⟨t,u,j⟩:=Gz (a:=Ä) h E H O y1;obtain⟨Q,u',N⟩:=Gz (a:=Â) h E H O y1;have q0:=ĭc t (show(4294967296:Int)≠0 by decide);have q1:=ħc t (show(0:Int)<4294967296 by decide);have r0:=ĭc Q (show(4294967296:Int)≠0 by decide);have r1:=ħc Q (show(0:Int)<4294967296 by decide);refine⟨λa=>êa a (Q%4294967296) (t%4294967296),λa=>êa a u' u,λz=>?_,λa=>by cases a;exact⟨q0,q1,j⟩;exact⟨r0,r1,N⟩⟩;have e:=j.symm.trans ((y0w (hu z) (V d) (V s) Ä Â).trans N);have e1:t%4294967296=Q%4294967296:=by injection e with e;injection e with _ e;injection e with e;injection e with e _;injection e
   have e2:u=u':=by injection e with e;injection e with _ e;injection e with e;injection e with _ e;injection e with e _;injection e
   intro x y;cases x<;>cases y<;>exact⟨by simp only[ùr,Ňq,e1],by simp only[ùr,Ňq,e2]⟩
  have G:∀uc:Í,Ţl->(uc=Â->Jp ėb=Â)->p6 űl Ňb Źb Â Â=Â->wK ùc øb=À ĸ->Yz p8 ùc=À ĸ->ą p8 T8 éh=À jX->(∀D1,qq Śl=À (Ä,.bl Ä))->zg ėb ìb=À û->Mm ėb->NG ėb Ňb Źb Â Â uc:=λuc hu hc T q1 q2 S Z X Y=>⟨jL T,lt2 hd hs,kz hd,Z,X,rfl,Y,λz U e=>iz (hc z) U e,λV ps hv P F=>by obtain⟨w,u,I,f⟩:=J uc hu V hv;refine⟨w,u,λa=>decide (w a=0),λa=>decide Ĝn,ps,λz x y=>⟨Ŋc.1,Ŋc.2,ů Ŷm Ŋc.1,ů Óm Ŋc.1⟩,λa b c=>?_⟩;obtain⟨A,B,j⟩:=f a;refine⟨A,B,P,by omega,nofun,nofun,nofun,λC q i=>?_⟩;exact j4 (k:=k) q2 S uf rfl rfl (mQ (b:=b) (c:=c) (hk:=kP ps) (hv:=vP ps) q1 íc öd j Zu)⟩
  cases h with
  |add=>exact⟨_,_,_,_,_,G Ä ŕo nofun (al (al (al Jq (x := ĥa) Ð) m) p) rfl rfl rfl Łg rfl ⟨rfl,rfl⟩⟩|addc=>exact⟨_,_,_,_,_,G Â nofun (λ_=>al (al (al R5 (x := ča) Ð) m) p) (Βa (al Jq (x := ča) Ð)) rfl rfl rfl Łg rfl ⟨rfl,rfl⟩⟩|sub=>exact⟨_,_,_,_,_,G Ä (λ_=>.inr ŉ) nofun (al (al (al Jq (x := Ľa) Ð) m) p) rfl rfl rfl Łg rfl ⟨rfl,rfl⟩⟩|subc=>exact⟨_,_,_,_,_,G Â nofun (λ_=>al (al (al R5 (x := Ča) Ð) m) p) (Βa (al Jq (x := Ča) Ð)) rfl rfl rfl Łg rfl ⟨rfl,rfl⟩⟩|test=>refine⟨Ňb,Ã,Â,Â,Ä,jL (al (al lU m) p),lt2 hd hs,nofun,λ_=>rfl,rfl,rfl,⟨rfl,rfl⟩,nofun,λV ps hv P F=>?_⟩;obtain⟨w,u,I,f⟩:=J Ä (λ_=>.inr Ņc) V hv;refine⟨w,u,λa=>decide (w a=0),λa=>decide Ĝn,ps,λz x y=>⟨Ŋc.1,Ŋc.2,ů Ŷm Ŋc.1,ů Óm Ŋc.1⟩,λa b c=>?_⟩;obtain⟨A,B,j⟩:=f a;refine⟨A,B,P,by omega,nofun,nofun,nofun,λC q i=>?_⟩;exact j4 (k := Æa) rfl rfl uf rfl rfl (RS (b:=b) (c:=c) (hk:=kP ps) (hv:=vP ps) íc öd j Zu)
 |@bits k d s h hd hs=>
  have m:=ēa hd;have p:=ēa hs
  obtain⟨T,q2,S,Z,X,Y⟩:p6 űl Ňb Źb Ä Â=Â/\Yz p8 ùc=À ĸ/\ą p8 T8 éh=À ZK/\(∀D1,qq Śl=À (Ä,.bl Ä))/\zg ėb ìb=À û/\Mm ėb:=by
   cases h with
   |and=>exact⟨al (al (al Bz (x := ųa) Ð) m) p,rfl,rfl,λ_=>rfl,rfl,rfl,rfl⟩|or=>exact⟨al (al (al Bz (x := Ŷa) Ð) m) p,rfl,rfl,λ_=>rfl,rfl,rfl,rfl⟩|xor=>exact⟨al (al (al Bz (x := Ýb) Ð) m) p,rfl,rfl,λ_=>rfl,rfl,rfl,rfl⟩
  refine⟨Ňb,À d,Ä,Â,Ä,jL T,lt2 hd hs,kz hd,Z,X,rfl,Y,nofun,λV ps hv P F=>?_⟩;obtain⟨E,H⟩:=hv d hd;obtain⟨O,y1⟩:=hv s hs;obtain⟨L,ex⟩:=ŗa E;obtain⟨K,ey⟩:=ŗa O;have hx:L<4294967296:=by omega
  have hy:K<4294967296:=by omega
  have A:0<=(kL k L K:Int):=Ĝc _;have B:(kL k L K:Int)<4294967296:=Int.ofNat_lt.mpr (iZ h hx hy);have j:=sE h (x:=L) (y:=K);refine⟨λ_=>(kL k L K:Int),λ_=>Â,λ_=>decide ((kL k L K:Int)=0),λ_=>decide ((kL k L K:Int)/2147483648%2=1),ps,λ_ _ _=>⟨rfl,rfl,rfl,rfl⟩,λa b c=>⟨A,B,P,by omega,λ_=>rfl,nofun,nofun,λC q i=>?_⟩⟩;exact j4 (k:=k) q2 S uf rfl rfl (mJ (a:=a) (b:=b) (c:=c) (hk:=kP ps) (hv:=vP ps) (by rw[i d ê,ex]) (by rw[i s ê,ey]) j Zu)
 |@copy d s hd hs=>refine⟨[s],À d,Ä,Ä,Ä,jL (al (al lR őg) (ēa hs)),λk hk=>by cases Ķ hk;exact hs,kz hd,λ_=>rfl,rfl,rfl,⟨rfl,rfl⟩,nofun,λV ps hv P F=>?_⟩;exact Yw (W:=V s) (ps':=ps) λa b c=>⟨Ŝr.1,Ŝr.2,P,by omega,λ_=>rfl,λ_=>rfl,λ_=>rfl,λC q i=>j4 (k := ĵa) rfl rfl uf rfl rfl (RO Å öd)⟩|@set d n hd n0 n1=>refine⟨[],À d,Ä,Ä,Ä,jL (al (lT n) őg),λk hk=>Û hk ê,kz hd,λ_=>rfl,rfl,rfl,⟨rfl,rfl⟩,nofun,λV ps hv P F=>?_⟩;exact Yw (W:=n) (ps':=ps) λa b c=>⟨n0,by omega,P,by omega,λ_=>rfl,λ_=>rfl,λ_=>rfl,λC q i=>j4 (k := ļ) rfl rfl uf rfl rfl (mN Å)⟩|@high d n hd n0 n1=>refine⟨[d],À d,Ä,Ä,Ä,jL (al (lS n) őg),λk hk=>by cases Ķ hk;exact hd,kz hd,λ_=>rfl,rfl,rfl,⟨rfl,rfl⟩,nofun,λV ps hv P F=>?_⟩;obtain⟨E,H⟩:=hv d hd;exact Yw (W:=V d%65536+65536*n) (ps':=ps) λa b c=>⟨by omega,by omega,P,by omega,λ_=>rfl,λ_=>rfl,λ_=>rfl,λC q i=>j4 (k := čb) rfl rfl uf rfl rfl (mK íc (y5r E H n0 n1))⟩
 |@left d n hd hn=>refine⟨[d],À d,decide (n≠0),Â,Ä,jL (Τd (al R7 (x := ĸa) Ð)),λk hk=>by cases Ķ hk;exact hd,kz hd,λ_=>rfl,rfl,rfl,⟨rfl,rfl⟩,nofun,λV ps hv P F=>?_⟩;obtain⟨E,H⟩:=hv d hd;have j:=z07 (n:=n) E H hn;have A:0<=V d*2 ^ n%4294967296:=ĭc _ Ð;have B:V d*2 ^ n%4294967296<4294967296:=ħc _ Ð;generalize V d*2 ^ n%4294967296=w at A B j;by_cases z:n=0;rw[Ë z]at j;rw[Ŏ õo];exact⟨λ_=>w,λ_=>Â,λ_=>decide Âc,λ_=>decide Ég,ps,λ_ _ _=>⟨rfl,rfl,rfl,rfl⟩,λa b c=>⟨A,B,P,by omega,λ_=>rfl,nofun,nofun,λC q i=>j4 (k := ĸa) rfl rfl uf rfl rfl (RP (a:=a) (b:=b) (c:=c) (hk:=kP ps) (hv:=vP ps) íc Â rfl j Zu)⟩⟩;rw[Ï z]at j;rw[Ġ z];exact⟨λ_=>w,λ_=>decide (V d*2 ^ n/4294967296%2=1),λ_=>decide Âc,λ_=>decide Ég,ps,λ_ _ _=>⟨rfl,rfl,rfl,rfl⟩,λa b c=>⟨A,B,P,by omega,nofun,nofun,nofun,λC q i=>j4 (k := ĸa) rfl rfl uf rfl rfl (RQ (a:=a) (b:=b) (c:=c) (hk:=kP ps) (hv:=vP ps) íc Â rfl j Zu)⟩⟩
 |@right d n hd hn=>refine⟨[d],À d,decide (n≠0),Â,Ä,jL (Τd (al R7 (x := ıa) Ð)),λk hk=>by cases Ķ hk;exact hd,kz hd,λ_=>rfl,rfl,rfl,⟨rfl,rfl⟩,nofun,λV ps hv P F=>?_⟩;obtain⟨E,H⟩:=hv d hd;have j:=z7e (x:=V d) (n:=n);have A:0<=V d/2 ^ n:=íg E (Ęa (z6l n));have B:V d/2 ^ n<4294967296:=Int.lt_of_le_of_lt (ĕo _ E) H;generalize V d/2 ^ n=w at A B j;by_cases z:n=0;rw[Ë z]at j;rw[Ŏ õo];exact⟨λ_=>w,λ_=>Â,λ_=>decide Âc,λ_=>decide Ég,ps,λ_ _ _=>⟨rfl,rfl,rfl,rfl⟩,λa b c=>⟨A,B,P,by omega,λ_=>rfl,nofun,nofun,λC q i=>j4 (k := ıa) rfl rfl uf rfl rfl (RP (a:=a) (b:=b) (c:=c) (hk:=kP ps) (hv:=vP ps) íc Ä rfl j Zu)⟩⟩;rw[Ï z]at j;rw[Ġ z];exact⟨λ_=>w,λ_=>decide (V d/2 ^ (n-1)%2=1),λ_=>decide Âc,λ_=>decide Ég,ps,λ_ _ _=>⟨rfl,rfl,rfl,rfl⟩,λa b c=>⟨A,B,P,by omega,nofun,nofun,nofun,λC q i=>j4 (k := ıa) rfl rfl uf rfl rfl (RQ (a:=a) (b:=b) (c:=c) (hk:=kP ps) (hv:=vP ps) íc Ä rfl j Zu)⟩⟩
 |@mem k d s n h hd hs n0 n1=>
  have m:=ēa hd;have p:=ēa hs;have l1:∀k∈[s],k<8:=λk hk=>by cases Ķ hk;exact hs
  cases h with
  |load=>refine⟨[s],À d,Ä,Ä,Ä,jL (Βa (al (R6 n) (x := ōa) Ð)),l1,kz hd,λ_=>rfl,rfl,rfl,⟨rfl,rfl⟩,nofun,λV ps hv P F=>?_⟩;have g:=gL Ìf Ōb;exact Yw (W:=gP ps Ìf) (ps':=ps) λa b c=>⟨g.1,by omega,P,by omega,λ_=>rfl,λ_=>rfl,λ_=>rfl,λC q i=>Jt (k := ōa) rfl rfl uf (mL Å öd)⟩|loadw=>refine⟨[s],À d,Ä,Ä,Ä,jL (Βa (al (R6 n) (x := Ŋa) Ð)),l1,kz hd,λ_=>rfl,rfl,rfl,⟨rfl,rfl⟩,nofun,λV ps hv P F=>?_⟩;have g0:=gL Įr Ōb;have g1:=gL įr Ōb;have g2:=gL İr Ōb;have g3:=gL ır Ōb;exact Yw (W:=gP ps Įr+gP ps įr*256+gP ps İr*65536+gP ps ır*16777216) (ps':=ps) λa b c=>⟨by omega,by omega,P,by omega,λ_=>rfl,λ_=>rfl,λ_=>rfl,λC q i=>Jt (k := Ŋa) rfl rfl uf (mM P Å öd)⟩|store=>refine⟨Ňb,Ã,Ä,Ä,Ä,jL (Βa (al (R8 n) (x := ŉa) Ð)),lt2 hd hs,nofun,λ_=>rfl,rfl,rfl,⟨rfl,rfl⟩,nofun,λV ps hv P F=>?_⟩;have l:=Z_ (ps:=ps) (a:=ŕd%65536) (b:=V d%256);exact Yw (W:=0) (ps':=vZ ps Ìf (V d%256)) λa b c=>⟨by decide,by decide,QW P Å Å Å Å,by omega,λ_=>rfl,λ_=>rfl,λ_=>rfl,λC q i=>Jt (k := ŉa) rfl rfl uf (mO Å íc öd)⟩|storew=>refine⟨Ňb,Ã,Ä,Ä,Ä,jL (Βa (al (R8 n) (x := ńa) Ð)),lt2 hd hs,nofun,λ_=>rfl,rfl,rfl,⟨rfl,rfl⟩,nofun,λV ps hv P F=>?_⟩;have P0:=QW (a:=Án%65536) (b:=V d%256) P Å Å Å Å;have P1:=QW (a:=Àn%65536) (b:=V d/256%256) P0 Å Å Å Å;have P2:=QW (a:=ſm%65536) (b:=V d/65536%256) P1 Å Å Å Å;have P3:=QW (a:=žm%65536) (b:=V d/16777216%256) P2 Å Å Å Å;have lw:(gc ps Ìf (V d)).length<=Ē+4:=ŏ Z_ (ŕb (ŏ Z_ (ŕb (ŏ Z_ (ŕb Z_)))));exact Yw (W:=0) (ps':=gc ps Ìf (V d)) λa b c=>⟨by decide,by decide,P3,lw,λ_=>rfl,λ_=>rfl,λ_=>rfl,λC q i=>Jt (k := ńa) rfl rfl uf (mP Å íc öd)⟩
noncomputable def lt(k:Int):Str:=⟨#[97+ž]⟩
def i4(a:0<=k)(b:k<26):vw (Ėc : Str).cps.toList k=À (97+ž):=by
 have h:∀j:Fin 26,vw (Ėc : Str).cps.toList (j.val:Int)=À (97+j.val):=by decide +kernel
 have:=h ⟨ž,by omega⟩;rw[show((⟨ž,by omega⟩:Fin 26).val:Int)=k by show(ž:Int)=k;omega]at this;exact this
def PJ(a:0<=k)(b:k<26):zJ Çr (.int k)=À (.str (lt k)):=by show(vw _ k).bind _=_;rw[i4 a b];rfl
def õh(h:Ġa+ça<=100000):yb (.str a) (.str b)=À (.str ðl):=by show(if Ġa+ça<=yD then _ else _)=_;rw[Ë ēe]
theorem Fx(a b:Str):(ðl).length=Ġa+ça:=Ļi
def C1(k:Int):(lt k).length=1:=rfl
def BR:FS:=
 (zc (yF 2 (e2 yb (e2 yb (e2 yb (e2 TF (ze Wj ďj) (eC (.int 48271))) (e2 TD (eC (.int 104729)) Ā)) (e2 TD (eC (.int 7919)) Ůe)) Ğ))
  (yO (e2 yc (e2 TF (e2 yc (e2 DL ĥ ĥ) (eC (.int 2147483647))) (eC (.int 2003))) (eC (.int 2147483629)))))
def uj:Á D->Æ ì:=FR 2 3 BR
def oC(a x1:D):uj ė=yS 3 BR ė:=rfl
def z0i{c k l:Int}{M:Nat}(f:4<=M)(d:wy c<=M)(i:0<=k)(h:k<100)(j:0<=l)(m:l<=63):wy (c*48271+104729*k+7919*l+1)<=M+20:=by
 have g:=ii d;have a:2 ^ 4<=2 ^ M:=ĉi Ð f;refine ig ?_;rw[Nat.pow_add];generalize 2 ^ M=P at g a;have e:(2:Nat) ^ 20=1048576:=by decide
 have b:(2:Nat) ^ 4=16:=by decide
 rw[e];rw[b]at a;omega
def XF{ns:Á Int}(o:Ŝ<=63)(g:∀m∈ns,wy m<=1048576){k:Int}(a:0<=k)(f:k<100):∃m:Int,0<=m/\m<2147483629/\uj æo=À (Ä,.int m):=by have b:=lP ns (k:=k) a;have d:=lO g k;generalize T6 ns k=c at b d;have p:=z0i (M:=1048576) (l:=(Ŝ:Int)) Ð d a f Å Å;have h:decide (wy Ńf+wy Ńf<=134217728)=Â:=Ġ Å;have n:Zm 48271=Â/\Zm 104729=Â/\Zm 7919=Â/\Zm 2003=Â:=⟨by decide,by decide,by decide,by decide⟩;have e:∀{i j:Int},yb ða Òe=À Ğg:=rfl;refine⟨Ńf*Ńf%2147483647*2003%2147483629,ĭc _ Ð,ħc _ Ð,?_⟩;rw[oC];unfold BR;simp only[shx,Øj,Öj,b,é,e,n,DL,h,ád,Int.reduceLT]
theorem Sd{d:D}(h:vN d):Yc [d]=À (Ä,.bl (yh d)):=by obtain⟨w,a,b,_⟩:=rg h;rw[nk];unfold BK;simp only[ß,a,b]
theorem OF{z6:Á D}(h:∀d∈z6,vN d):qr Ũa=À (Â,.lst (ſe λd=>!yh d)):=by
 have e:=IW (g:=yR 1) (c:=He) (e:=eI) (σ:=[À (Ä,.lst z6),Ã]) Ýd id (ds:=z6) λd b=>by have a:=Sd (h d b);refine⟨_,rfl,?_,λ_=>rfl⟩;unfold He;simp only[ß,a]
 rw[Įj]at e;rw[oU];unfold Bg;simp only[ß,e]
theorem rY{d:D}(h:vN d):Wc [d]=À (Ä,.bl (uZ d)):=by
 have:∃w,zJ d Úa=À Ř/\xY Ř IG=À (.bl (uZ d)):=by
  cases h with
  |Čc=>exact⟨_,rfl,rfl⟩|Ŵa h=>obtain⟨w,a,b,_,c,_⟩:=Q4 h;exact⟨w,a,by rw[c];exact b⟩
  |uU=>exact⟨_,rfl,rfl⟩|êa t hw hk=>rcases hw with rfl|rfl<;>exact⟨_,rfl,rfl⟩
 obtain⟨w,a,b⟩:=this;rw[nj];unfold BJ;simp only[ß,a,b]
theorem rj(h:vN d)(a:yh d=Â):∃t,d=xK t:=by
 cases h with
 |Čc t=>exact⟨t,rfl⟩|Ŵa h=>obtain⟨_,_,_,z,_⟩:=QF (m:=0) Ŷb;rw[z]at a;cases a
 |uU=>cases a|êa t hw hk=>rcases hw with rfl|rfl<;>cases a
def sw{z6:Á D}(h:∀d∈z6,vN d)(A:Ŭb<=1000):∃ks vs,We Ũa=À (Â,.dic ks vs)/\Ŀ=Ą/\∀t,ą ks vs èh=(Ñf.2).map λn:Nat=>Ħ n:=by
 obtain⟨σ',e,ks,vs,o,j,s,f,rfl⟩:=XE (g:=yR 3) (b:=IS) (λi σ=>∃ks vs o,Ŀ=Ą/\Ŀ<=i/\(∀t,ą ks vs èh=((vR t (že i)).2).map λn:Nat=>Ħ n)/\σ=[À (Ä,.lst z6),À (Â,.dic ks vs),À (Ä,.int ((ģp).length:Nat)),o]) (ds:=z6)
  (σ:=[À (Ä,.lst z6),À (Â,.dic [] []),À (Ä,.int 0),Ã]) 0 ⟨[],[],Ã,rfl,æa _,λt=>rfl,rfl⟩ (by
  rintro i v σ p ⟨ks,vs,o,j,s,f,rfl⟩;rw[ń]at *;have x:i<Ŭb:=Ċh.1;have w:z6[i]=v:=Ċh.2;have k:že ï=že i++[v]:=by rw[ęc x,w]
  have q:=h v (Áa p);have l:=Sd q;generalize hn:(ģp).length=n;cases hL:yh v with
  |Â=>
   obtain⟨u,rfl⟩:=rj q hL;rw[hL]at l;have r:zJ (xK u) Ċb=À (.str u):=rfl;have y:ur (.str u)=À Æf:=rfl;have c:Ŀ<yD:=by show _<16777216;omega
   have a:(Ōo).length=n:=by rw[k,Èd,ä,hn];rfl
   have m:(Ģq).length<=i+1:=by
    unfold w_
    split;omega;rw[ä];show _+1<=_;omega
   refine⟨_,[À (Ä,.lst z6),À (Â,.dic Ģq (wL ks vs Æf öp)),À (Ä,.int (n:Nat)),À (Ä,xK u)],rfl,.inl ?_,w_ ks Æf,wL ks vs Æf öp,_,VQ j,m,λt=>?_,by rw[a]⟩
   .unfold IS;simp only[ß,l,VV,r,y,Ë c]
   .rw[mx j,k,aW,hn,f];by_cases e:u=t
    .rw[Ë (by rw[e]),Ë e];rfl
    .rw[Ï (λz=>e (īj z)),Ï e]
  |Ä=>
   rw[hL]at l
   have a:(Ōo).length=n+1:=by rw[k,Èd,ä,hn,Ļd (by rw[hL];rfl)];rfl
   refine⟨_,[À (Ä,.lst z6),À (Â,.dic ks vs),À (Ä,.int ((n:Nat)+1:Int)),À (Ä,v)],rfl,.inl ?_,ks,vs,_,j,by omega,λt=>?_,by rw[a];rfl⟩
   .unfold IS;simp only[ß,l]
   .rw[k,aY hL,f])
 rw[ń,Łe]at f;refine⟨ks,vs,?_,j,f⟩;rw[nu];unfold BN;simp only[ß,e]
theorem sv{z6:Á D}(h:∀d∈z6,vN d)(c:Ŭb<=1000):∃ks vs,We Ũa=À (Â,.dic ks vs)/\∀t,ą ks vs èh=(Ñf.2).map λn:Nat=>Ħ n:=by obtain⟨ks,vs,a,_,b⟩:=sw h c;exact⟨ks,vs,a,b⟩
def iN:FS:=
 (zc (yF 0 (wC (zB Ůi (zB (eC ňg) (ξc (zB (eC şa) (zB (eC Ţb) (zB (eC Şa) (zB (eC ţb) (zB (eC Ũb) (zB (eC àd) (zB îf ŷm))))))))))))
  (zc (yF 0 (e2 yb ý (Εa (eC ŉg) (zB (eC ŋg) (zB (eC Ŋg) (zB (eC Ōg) (zB Äf (Οd ĭr))))))))
  (yO (e2 yb ý (wC (zB Ůi (ξc (Οd (zB îf (Η Ţb))))))))))
def UY:Á D->Æ ì:=FR 0 1 iN
def kK:FS:=
 (zc Ľl
  (zc Ñn
  (zc Ðn
  (zc Ïn
  (zc ŧq
  (zc (yi (ξa (xX (zB Ůi (Η ňg))))
   (νc (eC Òq))
   xA)
  (zc (yi (ξa (xX ŷm))
   (νc ĭk)
   xA)
  (zc (yi (ξa (Θ (eC ŉg) (zB (eC ŋg) (zB (eC Ŋg) (Η Ōg)))))
   (Υb (zB ăd (Β (ψb Øb (eC (.int 256)) (e2 yc Øb Ńe)))))
   xA)
  (zc (yi (tE (e2 zg Ŋ Äf))
   (Ψa ŭl)
   xA)
  (zc (yi (ξa (Θ Äg (Η Ær)))
   (Ψa (zB (e2 zJ (Εa (eC äd) (zB (eC źe) Īr)) (e2 yc ăd Ĭc)) ŭl))
   xA)
  (zc (yi (tE (e2 zg Ŋ (eC ób)))
   (yO (xX Ųd))
   xA)
  (Υb Ķr))))))))))))
def UX:Á D->Æ ì:=FR 3 7 kK
def X5(a x1 x2:D):UX Óa=yS 7 kK Óa:=rfl
def bV:FA:=ŷp
def Om:FE:=(Αd (e2 wY Ąi (e2 zJ (wC (λ_=>À ġp)) Øb)))
def bW:FA:=(vQ Ď Ā)
def HS:FE:=(e2 yb (e2 yb (Yx Ÿ XM Ýh) (Αd (e2 yb ĥr Øb))) (Yx Ÿ Ýh XM))
def BS:FS:=
 (zc (yF 2 (eC Çr))
  (zc (yF 3 (e2 yc ý Ìb))
  (zc (yF 4 (e2 DI (eC (.str "")) (vy 1 bV ál wE Om)))
  (zc (yF 5 (e2 yc Ìi ôg))
  (zc (yF 4 (Yx Ÿ XM (XN (eC (.int 7)))))
  (uv (vy 1 bW ál wE HS)))))))
def Wl:Á D->Æ ì:=FR 2 6 BS
def oE(a x1:D):Wl ė=yS 6 BS ė:=rfl
def bX:FA:=ŷp
def HU:FE:=(ze UX (zB (ζb (e2 yb (e2 yb Ā (eC (.int 3))) žb)) (zB Ÿ Ķr)))
def bY:FA:=(vQ Ď ôg)
def HV:FE:=žb
def Oo:FT:=(tE (e2 zg (e2 zJ žb Ĭq) (e2 zJ Ÿ ēd)))
def IU:FS:=(zc (yi ýl
     Ōl
     xA)
    (yi (tE (e2 ŝf ēd Ŋ))
     (Zy 8 Yy (e2 zJ Øb ēd))
     xA))
def BU:FS:=
 (zc (yF 3 (e2 yc (ze uj ďj) Ťo))
  (zc (yF 4 (ze Wl (zB (Ιa ĵr) (Β ôg))))
  (zc (yF 5 (Ζb (zB Ĭc ûg) (ζb (e2 yb Ā Źc))))
  (zc (yF 6 (vy 1 bX (yR 9) wE HU))
  (zc (gf 8 Ąf)
  (zc (ge bY (yR 7)
   IU)
  (jp 8)))))))
def Yd:Á D->Æ ì:=FR 3 9 BU
def oG(a x1 x2:D):Yd Óa=yS 9 BU Óa:=rfl
def lr(a b:Str):(ðl).cps.toList=a.cps.toList++b.cps.toList:=Æd
def Jr(z:Str)(lo hi:Æ Int):(Ħp).length<=ī:=úf z lo hi
def l_(z:Str):(ŭa z Ã ũk).length<=7:=by show(((ĵi 0).take (Ļ ī ī (À ((7:Nat):Int))-0)).toArray).size<=7;rw[HT.sIx_nat,Ĕ,ĕa];omega
def AD{m:Int}(m0:0<=m){Äc:Int}(n0:0<=Äc)(n1:Äc<=20):∃N:Á Str,Ĺ=Ţd/\Śc/\(∃ln:Nat,ln<=100/\∀t∈N,ćb=ln)/\Wl [.int m,.int Äc]=À (Â,.lst Řa):=by
 have E:bV [À (Ä,.int m),À (Ä,.int Äc),À (Ä,.str Ėc),À (Ä,.int İf),Ã,Ã]=À ğo:=kq (n:=m%8) rfl Å
 obtain⟨ts,e1,G⟩:∃ts:Á Str,w6 ál wE Om Čl ğo=À ŏe/\∀t∈ts,ćb=1:=by
  obtain⟨f,P,J⟩:=Fw (g:=yR 6) (e:=Om) (σ:=Čl) (λ_ y=>∃t:Str,y=.str t/\ćb=1) (ds:=wT (İf).toNat) λd B=>by
   obtain⟨i,U,rfl⟩:=HK B
   obtain⟨p,Z,p1,K⟩:∃p:Int,0<p/\p<20000/\zJ (Α ġp) Ħb=À ħg:=by rcases(show i=0\/i=1\/i=2\/i=3\/i=4\/i=5\/i=6 by omega)with rfl|rfl|rfl|rfl|rfl|rfl|rfl<;>exact⟨_,by decide,by decide,rfl⟩
   have a:=PJ (k:=m/8/p%26) Å Å;have u:decide (0<p)=Â:=Ġ Z;have T:decide (p<18446744073709551616)=Â:=Ġ Å;refine⟨_,.str (lt (m/8/p%26)),rfl,?_,_,rfl,C1 _⟩;unfold Om;generalize że Ħ Ÿh=PS at K;simp only[ß,K,u,T,a]
  have:∃ts:Á Str,f=Ďd Ŀa/\∀t∈ts,ćb=1:=by
   have h:∀x∈f,∃t:Str,x=.str t/\ćb=1:=λx Q=>by obtain⟨_,_,r⟩:=DB J x Q;exact r
   clear P J
   induction f with
   |nil=>exact⟨[],rfl,λ_ h=>by cases h⟩|ù x f ih=>
    obtain⟨t,rfl,l⟩:=h x ĳb;obtain⟨ts,rfl,ls⟩:=ih λy s=>h y Ļr
    exact⟨t::ts,rfl,λy s=>by rcases ę s with rfl|s;exact l;exact ls y s⟩
  obtain⟨ts,rfl,h⟩:=this;exact⟨ts,P,h⟩
 have tl:řg=(İf).toNat:=by
  have:=ů (λo=>(Ėh []).length) e1
  have h2:∀{g:FG}{e:FE}{σ:zy}{ds f:Á D},w6 g wE e σ ds=À f->ŏc=ú:=λ{g e σ ds}=>by
   induction ds with
   |nil=>intro f h;cases h;rfl|ù d ds ih=>intro f h;obtain⟨σ1,L,h⟩:=zD (show(Ŕc).bind _=À f from h);obtain⟨x,h3,h⟩:=zD (show(ąf).bind _=À f from h);obtain⟨ys,h4,h⟩:=zD h;cases h;rw[Ă,Ă,ih h4]
  have:=h2 e1;rw[é,Oc]at this;exact this
 have R:∀{l:Á Str},(∀t∈l,ćb=1)->(ŵa (·.length)).sum=Üf:=λ{l}=>by
  induction l with
  |nil=>intro _;rfl|ù x l ih=>intro h;rw[Ŗ,ąg,ih λy s=>h y Ļr,h x ĳb,Ă];omega
 have e0:("" : Str).length=0:=rfl;have v:=sD (sep := "") (ts:=ts) (by rw[R G,e0,tl];omega);generalize ão "" ts=W0 at v;obtain⟨W,I⟩:∃W:Str,W=ŭa W0 Ã ũk:=⟨_,rfl⟩;have lW:Ìh<=7:=by rw[I];exact l_ W0
 have u:decide (0<m%8+1)=Â:=Ġ Å;obtain⟨c,q⟩:∃c:Int,c=m/64%(m%8+1):=⟨_,rfl⟩;have C:bW [À (Ä,.int m),À (Ä,.int Äc),À (Ä,.str Ėc),À (Ä,.int İf),À (Ä,.str W),À (Ä,.int c)]=À (wT Ţd):=kq (n:=Äc) rfl Å
 have e2:=Tl (g:=yR 6) (e:=HS) (σ:=[À (Ä,.int m),À (Ä,.int Äc),À (Ä,.str Ėc),À (Ä,.int İf),À (Ä,.str W),À (Ä,.int c),Ã]) ąl (ds:=wT Ţd) λd B=>by obtain⟨i,U,rfl⟩:=HK B;have a:=PJ (k:=Àm%26) Å Å;have l1:=Jr W Ã Ċa;have X:=Jr W Ċa Ã;have l3:=C1 ěk;have Y:Yx Ÿ XM Ýh ÿl=À (.str Ŏo):=rfl;have s2:Yx Ÿ Ýh XM ÿl=À (.str ōo):=rfl;have w:=õh (a:=ŭa W Ã Ċa) (b:=lt ěk) Å;have A:=õh (a:=ŭa W Ã Ċa++lt ěk) (b:=ŭa W Ċa Ã) (by rw[Fx];omega);refine⟨_,rfl,?_⟩;unfold HS;simp only[ß,Y,s2,ċa,a,w,A]
 have w2:(wT Ţd).map ąl=((âk).map λj:Nat=>ŭa W Ã Ċa++lt Đi++ŭa W Ċa Ã).map Ŀa:=by rw[Şb,Şb];rfl
 rw[w2]at e2;refine⟨(âk).map λj:Nat=>ŭa W Ã Ċa++lt Đi++ŭa W Ċa Ã,by rw[é,īa],?_,⟨(Ŏo).length+1+(ōo).length,?_,λt G=>?_⟩,?_⟩;refine List.pairwise_map.mpr (List.Pairwise.imp_of_mem (λ{a b} O H S=>?_) (List.nodup_range (n:=Ţd)));intro h;have O:=ķe O;have H:=ķe H;have L:=ů (λz:Str=>èg) h;have lc:∀x:Int,(lt x).cps.toList=[97+x.toNat]:=λ_=>rfl
 simp only[lr,lc,Ś,List.append_cancel_left_eq,Íd,ëg,List.cons.injEq]at L;omega;have l1:=Jr W Ã Ċa;have X:=Jr W Ċa Ã;omega;obtain⟨j,_,rfl⟩:=ħb G;rw[Fx,Fx,C1];have F:Rl (.str W0) Ã ũk=À (.str W):=by rw[I];rfl
 rw[oE];unfold BS;generalize że Ŀa (że (λj:Nat=>ŭa W Ã Ċa++lt Đi++ŭa W Ċa Ã) âk)=NN at E e1 v u q F C e2 ⊢;generalize Ďd Ŀa=TT at E e1 v u q F C e2 ⊢;simp only[ß,E,e1,v,ċa,u,<-q,Yx,XN,XM,F,C,e2]
abbrev Qi:D:=.lst [.str ļ,.str čb,.str ĵa,.str ĥa,.str ča,.str Ľa,.str Ča,.str ųa,.str Ŷa,.str Ýb,.str Æa,.str ĸa,.str ıa,.str ōa,.str ŉa,.str Ŋa,.str ńa,.str ŏa,.str ĉa,.str Ąa,.str êe,.str ļ,.str ĵa,.str ĥa,.str ĉa,.str Ąa,.str Æa,.str Ľa]
theorem y5w:UY []=À (Ä,Qi):=by rfl
def Jc(w:Str):Prop:=(w = ļ \/ w = čb)\/(w = ĸa \/ w = ıa)\/(w = ōa \/ w = ŉa \/ w = Ŋa \/ w = ńa)\/(w = ĵa \/ w = ĥa \/ w = ča \/ w = Ľa \/ w = Ča \/ w = ųa \/ w = Ŷa \/ w = Ýb \/ w = Æa)\/w = ŏa \/ (w = ĉa \/ w = Ąa)\/w = êe
noncomputable def eA(w:Str):Õk (Jc w):=by unfold Jc;infer_instance
def y5u:((Ía 28).all λk:Nat=>match zJ Qi ĩb with
  |À Ř=>@decide (Jc w) (eA w)|_=>Ä)=Â:=by decide +kernel
def y5v(a:0<=v)(b:v<28):∃w:Str,Jc w/\zJ Qi Ŗc=À Ř:=by
 have h:=Ĕa y5u v.toNat (ēa Å);rw[Àg a]at h;generalize zJ Qi Ŗc=o at h ⊢
 split at h;exact⟨_,@of_decide_eq_true _ (eA _) h,rfl⟩;cases h
def Iy{a b i:Int}(c:0<=i)(d:i<2):∃n,(n=a\/n=b)/\zJ (.lst [.int a,.int b]) ða=À óf:=by rcases(show i=0\/i=1 by omega)with rfl|rfl;exact⟨a,by simp,rfl⟩;exact⟨b,by simp,rfl⟩
def XY{n:Nat}{b:FS}{ds:Á D}{r:Æ Fl}{o:Í}{d:D}(h:b Šl=r)(e:r=À ûd):yS n b ds=À (o,d):=by unfold yS;rw[h,e];rfl
def v6{f:FE}{σ:zy}{k:Í}(h:f σ=À æe):tE f σ=À k:=by unfold tE;rw[h];rfl
def vx{c:FT}{a b:FS}{σ:zy}(h:c σ=À Ä):zc (yi c a xA) b σ=b σ:=jr ((rK h).trans rfl)
def V2{c:FT}{a b f:FS}{σ:zy}{o:Í}{d:D}(h:c σ=À Â)(e:a σ=À ûd):zc (yi c a f) b σ=À ûd:=z98 ((rL h).trans e)
def z7i{N:Á Str}(L:N≠[]){m:Int}(Y:0<=m){d:Int}(U:d=3\/d=8):∃r,pq N r/\UX [.int m,.lst Řa,.int d]=À (Ä,r):=by
 obtain⟨w,c,J⟩:=y5v (v:=m%28) Å Å;have I:=y5w;have Z:0<Ĺ:=Ům L;have F:decide (0<d)=Â:=Ġ Å;obtain⟨q,T⟩:∃q:Int,q=m/28:=⟨_,rfl⟩;have o:=ĭc q (show d≠0 by omega);have S:=ħc q (show 0<d by omega);have u:=ĭc (q/8) (show d≠0 by omega);have R:=ħc (q/8) (show 0<d by omega);obtain⟨g,G⟩:∃z:Int,z=q%d:=⟨_,rfl⟩;obtain⟨two,C⟩:∃z:Int,z=q/8%d:=⟨_,rfl⟩;rw[<-G]at o S;rw[<-C]at u R
 have Ħf:∀zr:FS,zc Ľl
  (zc Ñn
  (zc Ðn
  (zc Ïn
  (zc ŧq zr)))) [À (Ä,.int m),À (Ä,.lst Řa),À (Ä,.int d),Ã,Ã,Ã,Ã]=zr [À (Ä,.int q),À (Ä,.lst Řa),À (Ä,.int d),À (Ä,.str w),À (Ä,.int g),À (Ä,.int two),À (Ä,.int İh)]:=λzr=>by
  generalize áb Ŀa=NN at *
  rw[jr (σ':=[À (Ä,.int m),À (Ä,.lst NN),À (Ä,.int d),À (Ä,.str w),Ã,Ã,Ã]) (by generalize Qi=WD at I J ⊢;simp only[ß,I,J])]
  rw[jr (σ':=[À (Ä,.int q),À (Ä,.lst NN),À (Ä,.int d),À (Ä,.str w),Ã,Ã,Ã]) (by simp only[ß,<-T])];rw[jr (σ':=[À (Ä,.int q),À (Ä,.lst NN),À (Ä,.int d),À (Ä,.str w),À (Ä,.int g),Ã,Ã]) (by simp only[ß,F,<-G])];rw[jr (σ':=[À (Ä,.int q),À (Ä,.lst NN),À (Ä,.int d),À (Ä,.str w),À (Ä,.int g),À (Ä,.int two),Ã]) (by simp only[ß,F,<-C])];rw[jr (σ':=[À (Ä,.int q),À (Ä,.lst NN),À (Ä,.int d),À (Ä,.str w),À (Ä,.int g),À (Ä,.int two),À (Ä,.int İh)]) (by simp only[ß])]
 have K:∃t∈N,zJ Ŏg (.int Ŕi)=À øc:=by
  have O:=ĭc İh (show(Ĺ:Int)≠0 by omega);have X:=ħc İh (show 0<(Ĺ:Int) by omega);have A:(Ŕi).toNat<Ĺ:=by omega
  exact⟨N[(Ŕi).toNat],Őd A,kJ O (by rw[Œ,č A];rfl)⟩
 obtain⟨t,H,y⟩:=K;have B:decide (0<(Ĺ:Int))=Â:=Ġ Å;rcases c with c|c|c|c|c|c|c;obtain⟨n,E,p⟩:=Iy (a:=q/64%65536) (b:=q/64%3) (i:=q/32%2) Å Å;have e:xY Ř Żc=À ĸ:=by rcases c with rfl|rfl<;>rfl
 refine⟨_,.plain (.UG c o Å (show 0<=n by omega) Å),?_⟩;rw[X5];unfold kK;refine XY õd ?_;exact V2 (v6 e) ÿi;obtain⟨n,E,p⟩:=Iy (a:=q/64%32) (b:=q/64%3) (i:=q/32%2) Å Å;have e:xY Ř Żc=À û:=by rcases c with rfl|rfl<;>rfl
 have f:xY Ř ĭd=À ĸ:=by rcases c with rfl|rfl<;>rfl
 refine⟨_,.plain (.UH c o Å (show 0<=n by omega) Å),?_⟩;rw[X5];unfold kK;refine XY õd ?_;exact(Ůd).trans (V2 (v6 f) ÿi);obtain⟨n,E,p⟩:=Iy (a:=q/64%256) (b:=q/64%4) (i:=q/32%2) Å Å;have e:xY Ř Żc=À û:=by rcases c with rfl|rfl|rfl|rfl<;>rfl
 have f:xY Ř ĭd=À û:=by rcases c with rfl|rfl|rfl|rfl<;>rfl
 have j:xY Ř Ąe=À ĸ:=by rcases c with rfl|rfl|rfl|rfl<;>rfl
 refine⟨_,.plain (.mem c o Å u Å (show 0<=n by omega) Å),?_⟩;rw[X5];unfold kK;refine XY õd ?_;exact(Ůd).trans ((Ĥq).trans (V2 āk ÿi));have k:xY Ř Żc=À û/\xY Ř ĭd=À û/\xY Ř Ąe=À û/\zg Ř Ĥb=À û/\xY Ř Õi=À û/\zg Ř ób=À û:=by rcases c with rfl|rfl|rfl|rfl|rfl|rfl|rfl|rfl|rfl<;>exact⟨rfl,rfl,rfl,rfl,rfl,rfl⟩
 obtain⟨e,f,j,l,s,x⟩:=k;refine⟨_,.plain (.two c o Å u Å),?_⟩;rw[X5];unfold kK;refine XY õd ?_;exact(Ůd).trans (Ωb ((ģq).trans ((vx (v6 x)).trans rfl)));subst c;have k:xY Ĥb Żc=À û/\xY Ĥb ĭd=À û/\xY Ĥb Ąe=À û/\zg Ĥb Ĥb=À ĸ:=⟨rfl,rfl,rfl,rfl⟩;obtain⟨e,f,j,l⟩:=k;refine⟨_,.uU H,?_⟩;rw[X5];unfold kK;refine XY õd ?_;exact(Ůd).trans ((Ĥq).trans ((vx āk).trans (V2 (v6 l) (by simp only[ß,é,B,y]))));have k:xY Ř Żc=À û/\xY Ř ĭd=À û/\xY Ř Ąe=À û/\zg Ř Ĥb=À û/\xY Ř Õi=À ĸ:=by rcases c with rfl|rfl<;>exact⟨rfl,rfl,rfl,rfl,rfl⟩
 obtain⟨e,f,j,l,s⟩:=k
 obtain⟨W,P,Q⟩:∃k:Str,(k = ía \/ k = ěa \/ k = Ĵa)/\zJ (.lst [.str ía,.str ěa,.str Ĵa]) (Ε (two%3))=À ùc:=by rcases(show two%3=0\/two%3=1\/two%3=2 by omega)with h|h|h<;>rw[h];exact⟨ía,by simp,rfl⟩;exact⟨ěa,by simp,rfl⟩;exact⟨Ĵa,by simp,rfl⟩
 refine⟨_,.cond c P H,?_⟩;rw[X5];unfold kK;refine XY õd ?_;exact(Ůd).trans (Ωb (V2 (v6 s) (by simp only[ß,é,B,y,Q])));subst c;have k:xY ób Żc=À û/\xY ób ĭd=À û/\xY ób Ąe=À û/\zg ób Ĥb=À û/\xY ób Õi=À û/\zg ób ób=À ĸ:=⟨rfl,rfl,rfl,rfl,rfl,rfl⟩;obtain⟨e,f,j,l,s,x⟩:=k;refine⟨_,.plain .stop,?_⟩;rw[X5];unfold kK;refine XY õd ?_;exact(Ůd).trans (Ωb ((ģq).trans (V2 (v6 x) rfl)))
structure PC(z6:Á D):Prop where
 it:∀d∈z6,vN d
 nd:(ſe yh).Nodup
 tg:∀d∈z6,uZ d=Â->∃(t:Str) (p:Nat),zJ d ůd=À øc/\Ñf.2=À p
 ln:Ŭb<=100
def gT(t:Str)(d:D):Í:=xz (Sq d) øc
def z00{N:Á Str}{d:D}(h:pq N d)(t:Str):∃x,zJ d ůd=À x/\zg x øc=À (.bl (gT t d)):=by
 cases h with
 |Ŵa h=>cases h<;>exact⟨_,rfl,rfl⟩|uU ht=>exact⟨_,rfl,rfl⟩|êa hw hk ht=>exact⟨_,rfl,rfl⟩
def z7h{N:Á Str}{d:D}(h:pq N d)(a:uZ d=Â):∃t∈N,zJ d ůd=À øc/\gT t d=Â:=by
 cases h with
 |Ŵa h=>obtain⟨_,_,_,_,c,_⟩:=Q4 h;rw[c]at a;cases a
 |uU ht=>rename_i t;exact⟨t,ht,rfl,Īc t⟩|êa hw hk ht=>rename_i t;exact⟨t,ht,rfl,Īc t⟩
structure PD(N:Á Str)(R:Á D)(k:Nat)(L:Á D):Prop where
 it:∀d∈L,JU N d
 rs:òd Ýd=Ģh k
 nd:(òd yh).Nodup
 lb:∀d∈L,yh d=Â->∃j,j<k/\∃t,N[j]?=À t/\d=xK t
 pl:∀j t,j<k->N[j]?=À t->(∃r∈R,gT t r=Â)->öc.2=À j
 ln:ïa<=2*k
theorem Af:∀{N:Á Str},Śc->∀{i j:Nat}{u:Str},N[i]?=À u->N[j]?=À u->i=j
 | [],_,_,_,_,h,_=>by cases h|x::N,h,0,0,_,_,_=>rfl|x::N,h,0,j+1,u,hi,hj=>by cases hi;exact Û (Áa Őn) şk.1|x::N,h,i+1,0,u,hi,hj=>by cases hj;exact Û (Áa Âg) şk.1|x::N,h,i+1,j+1,u,hi,hj=>by rw[Af şk.2 (i:=i) (j:=j) Âg Őn]
theorem Fv{t u:Str}(h:xK t=xK u):t=u:=by
 unfold xK at h;injection h with h
 injection h with _ h
 injection h with h _
 injection h
def y0q{N:Á Str}(v:Śc){R L:Á D}{k:Nat}(S:PD N R k L){t:Str}(g:N[k]?=À t)(hk:k<=ķb) :(∀d∈L++[xK t],JU N d)/\(Łj).filter Ýd=Ģh k/\((Łj).filter yh).Nodup/\(∀d∈L++[xK t],yh d=Â->∃j,j<k+1/\∃t,N[j]?=À t/\d=xK t)/\(∀j u,j<k+1->N[j]?=À u->(∃r∈R,gT u r=Â)->(vR u Łj).2=À j):=by
 have l:∀{i j:Nat}{u:Str},N[i]?=À u->N[j]?=À u->i=j:=λs m=>Af v s m
 refine⟨λd c=>?_,?_,?_,λd c o=>?_,λj u m f w=>?_⟩;rcases Ïa c with c|c;exact S.it d c;cases Ķ c;exact .inr ⟨t,Áa g,rfl⟩;rw[Èd,S.rs];show Ģh k++[]=_;rw[ëa];rw[Èd];show(òd yh++[xK t]).Nodup;refine än ⟨S.nd,ſf ⟨by simp,Şd⟩,λa p b q e=>?_⟩;cases Ķ q;obtain⟨p,o⟩:=Çd p;obtain⟨j,m,u,f,n⟩:=S.lb a p o;have:=Fv (n.symm.trans e);subst this;have:=l f g;omega;rcases Ïa c with c|c;obtain⟨j,m,u,f,n⟩:=S.lb d c o;exact⟨j,by omega,u,f,n⟩;cases Ķ c;exact⟨k,by omega,t,g,rfl⟩;rw[aW];by_cases e:t=u;subst e;have:=l f g;rw[Ë rfl,S.rs,ĕa,this]
 congr 1
 omega;rw[Ï e];refine S.pl j u ?_ f w;rcases Śe j k with h|h;exact h;have:j=k:=by omega
 subst this;rw[g]at f;cases f;exact Û rfl e
def z60{ns:Á Int}(C:Ŝ<=63)(Y:∀m∈ns,wy m<=1048576){first ŕa:Int}(f0:0<=first)(f1:first<=40)(m0:0<=ŕa)(m1:ŕa<=14) :∃(N:Á Str) (R z6:Á D),ķb<=14/\Ĺ=ķb+1/\Śc/\(∀r∈R,pq N r)/\PC z6/\ſe Ýd=R/\Ŭb<=40/\Yd ûm=À (Â,.lst z6)/\(∃ln:Nat,∀t∈N,ćb=ln)/\∀t,xK t∈z6->t∈N:=by
 obtain⟨a,a0,a1,ea⟩:=XF C Y (k:=first) f0 Å;obtain⟨b,b0,b1,eb⟩:=XF C Y (k:=first+1) Å Å;obtain⟨c,c0,c1,T⟩:=XF C Y (k:=first+2) Å Å
 have em:∀i:Nat,i<20->∃m:Int,0<=m/\uj [.lst Ła,.int (first+3+(i:Int))]=À (Ä,.int m):=λi hi=>by obtain⟨m,h0,_,e⟩:=XF C Y (k:=first+3+(i:Int)) Å Å;exact⟨m,h0,e⟩
 generalize ņb Ła=s at ea eb T em ⊢;have g0:decide (0<ŕa+1)=Â:=Ġ Å;obtain⟨l,F⟩:∃z:Int,z=a%(ŕa+1):=⟨_,rfl⟩;have ct0:0<=l:=by rw[F];exact ĭc _ Å
 have ct1:l<ŕa+1:=by rw[F];exact ħc _ Å
 obtain⟨N,nl,nd,U,en⟩:=AD b0 (Äc:=l+1) Å Å;have nn:N≠[]:=λz=>by rw[z]at nl;simp at nl;omega
 obtain⟨A,hmn,W⟩:=Iy (a:=3) (b:=8) (i:=c%2) Å Å;have r1:bX [À (Ä,s),À (Ä,.int first),À (Ä,.int ŕa),À (Ä,.int l),À (Ä,.lst Řa),À (Ä,.int A),Ã,Ã,Ã]=À (wT ćd):=kq (n:=l) rfl Å
 obtain⟨R,e1,eR⟩:=Fw (g:=yR 9) (e:=HU) (σ:=[À (Ä,s),À (Ä,.int first),À (Ä,.int ŕa),À (Ä,.int l),À (Ä,.lst Řa),À (Ä,.int A),Ã,Ã,Ã,Ã]) (λ_ y=>pq N y) (ds:=wT ćd) λd o=>by obtain⟨i,hi,rfl⟩:=HK o;obtain⟨m,h0,e⟩:=em i Å;obtain⟨r,E,er⟩:=z7i nn h0 hmn;refine⟨_,r,rfl,?_,E⟩;unfold HU;generalize áb Ŀa=NN at e er ⊢;simp only[ß,ċa,e,er]
 have rl:ķb=ćd:=by rw[<-RW eR,Oc]
 have Z:∀r∈R,pq N r:=λr E=>by obtain⟨_,_,h⟩:=DB eR r E;exact h
 have r2:bY Ŋh=À (wT (ćd+1)):=by have:=kq (f:=e2 yb Ŋ Ğ) (τ:=Ŋh) (n:=l+1) rfl Å;rw[show(l+1).toNat=ćd+1 by omega]at this;exact this
 obtain⟨σ',e3,L,x7,S,rfl⟩:=XE (g:=yR 7) (b:=IU) (λi σ=>∃L x7,PD N R i L/\σ=[À (Ä,s),À (Ä,.int first),À (Ä,.int ŕa),À (Ä,.int l),À (Ä,.lst Řa),À (Ä,.int A),À (Ä,.lst R),x7,À (Â,.lst L)]) (ds:=wT (ćd+1))
  (σ:=Ŋh) 0 ⟨[],Ã,⟨Ńn,by rw[øg];rfl,Şd,Ńn,(λj _ h=>Û h þh),æa _⟩,rfl⟩ (by
  rintro i v σ hv ⟨L,x7,S,rfl⟩;obtain⟨hi,rfl⟩:=Qg hv;rw[ń]at *;have hiN:i<Ĺ:=by omega
  have gN:N[i]?=À N[i]:=č hiN;have P:zJ Ŏg Ħb=À (.str N[i]):=kJ Å (by rw[ğ,Œ,gN];rfl)
  have f1:=IW (g:=yR 9) (c:=Oo) (e:=HV) (σ:=[À (Ä,s),À (Ä,.int first),À (Ä,.int ŕa),À (Ä,.int l),À (Ä,.lst Řa),À (Ä,.int A),À (Ä,.lst R),À (Ä,.int (i:Int)),À (Â,.lst L),Ã]) ęj id (ds:=R) λd o=>by obtain⟨x,q1,q2⟩:=z00 (Z d o) N[i];refine⟨_,rfl,?_,λ_=>rfl⟩;unfold Oo;generalize áb Ŀa=NN at q1 P q2 ⊢;simp only[ß,q1,P,q2]
  rw[Įj]at f1;have K:=AG ïp
  have lab:∃ w,yi ýl
     Ōl
     xA ŉh=À (.nx øl)/\
    w.length<=2*i+1/\(∀d∈w,JU N d)/\w.filter Ýd=Ģh i/\(w.filter yh).Nodup/\(∀d∈w,yh d=Â->∃j,j<i+1/\∃t,N[j]?=À t/\d=xK t)/\(∀j u,j<i+1->N[j]?=À u->(∃r∈R,gT u r=Â)->(vR u w).2=À j):=by
   have q:=PQ (L:=L) (r:=xK N[i]) (by have:=S.ln;omega);have B:=y0q nd S gN Å;have ll:(L++[xK N[i]]).length<=2*i+1:=by rw[ä];have:=S.ln;show ïa+1<=_;omega
   unfold xK at q;cases hE:(ïp).isEmpty with
   |Ä=>
    rw[hE]at K;refine⟨L++[xK N[i]],?_,ll,B⟩;unfold xK;generalize áb Ŀa=NN at f1 K P q ⊢;simp only[ß,f1,K,P,q]
   |Â=>
    rw[hE]at K
    have O:¬ ∃r∈R,gT N[i] r=Â:=λ⟨r,E,h⟩=>by have:r∈R.filter ęj:=Ĕi ⟨E,h⟩;rw[List.isEmpty_iff.mp hE]at this;cases this
    by_cases hc:c/2%5=(i:Int)
    .have k:=rO hc;refine⟨L++[xK N[i]],?_,ll,B⟩;unfold xK;generalize áb Ŀa=NN at f1 K T k P q ⊢;simp only[ß,f1,K,ċa,T,k,P,q]
    .have k:=rP hc;refine⟨L,?_,by have:=S.ln;omega,S.it,S.rs,S.nd,λd o C=>?_,λj u Q J E=>?_⟩
     .generalize áb Ŀa=NN at *;simp only[ß,f1,K,ċa,T,k]
     .obtain⟨j,Q,t,X,e⟩:=S.lb d o C;exact⟨j,by omega,t,X,e⟩
     .rcases Śe j i with h|h
      .exact S.pl j u h J E
      .have:j=i:=by omega
       subst this;rw[gN]at J;cases J;exact Û E O
  obtain⟨w,el,ll,l1,l2,l3,l4,l5⟩:=lab;by_cases hir:i<ćd
  .have p:decide Ļq=Â:=Ġ Å;have I:i<ķb:=by omega
   have H:zJ (.lst R) Ħb=À R[i]:=kJ Å (by rw[ğ];exact č I);have q:=PQ (L:=w) (r:=R[i]) Å;have rA:=Z _ (Őd I);have G:=(Cz rA).2;refine⟨_,[À (Ä,s),À (Ä,.int first),À (Ä,.int ŕa),À (Ä,.int l),À (Ä,.lst Řa),À (Ä,.int A),À (Ä,.lst R),À (Ä,.int (i:Int)),À (Â,.lst (w++[R[i]]))],rfl,.inl ?_,w++[R[i]],_,⟨?_,?_,?_,?_,?_,?_⟩,rfl⟩
   .unfold IU;show zc _ _ ŉh=_;rw[jr el];generalize áb Ŀa=NN at p H q ⊢;generalize R[i]=RI at p H q ⊢;simp only[ß,p,H,q]
   .intro d o;rcases Ïa o with o|o
    .exact l1 d o
    .cases Ķ o;exact .inl rA
   .rw[Èd,l2,Ļd (by rw[G];rfl),Ŀo,ęc I]
   .rw[Èd,ļd (by rw[G];decide),Ŀo,ëa];exact l3
   .intro d o C;rcases Ïa o with o|o
    .exact l4 d o C
    .cases Ķ o;rw[G]at C;cases C
   .intro j u Q J E;rw[aY G];exact l5 j u Q J E
   .rw[ä];show w.length+1<=_;omega
  .have p:decide Ļq=Ä:=Ŏ Å;refine⟨_,øl,rfl,.inl ?_,w,_,⟨l1,?_,l3,l4,l5,by omega⟩,rfl⟩
   .unfold IU;show zc _ _ ŉh=_;rw[jr el];generalize áb Ŀa=NN at p ⊢;simp only[ß,p]
   .rw[l2,Ģc Å,Ģc Å])
 rw[Oc,ń]at S;have ln:=S.ln;refine⟨N,R,L,by omega,by omega,nd,Z,⟨λd o=>rZ (S.it d o),S.nd,λd o Q=>?_,by omega⟩,by rw[S.rs,Ģc Å],by omega,?_,?_,λt X=>?_⟩;rcases S.it d o with h|⟨t,_,rfl⟩;obtain⟨t,X,e,li⟩:=z7h h Q;obtain⟨j,hj2,ej⟩:=Īe X
 have dR:d∈R:=by
  have:d∈òd λd=>!yh d:=Ĕi ⟨o,by rw[(Cz h).2];rfl⟩
  rw[S.rs]at this;exact ģe this
 exact⟨t,j,e,S.pl j t Å (by rw[č hj2,ej]) ⟨d,dR,li⟩⟩;cases Q;rw[oG];unfold BU;generalize áb Ŀa=NN at ea g0 F eb en T W r1 e1 r2 e3 ⊢;simp only[ß,ea,ċa,g0,<-F,eb,en,T,W,r1,e1,r2,e3];obtain⟨ln,_,h⟩:=U;exact⟨ln,h⟩;obtain⟨j,_,u,J,e⟩:=S.lb _ X rfl;rw[Fv e];exact Áa J
def z5z{ns:Á Int}(l:Ŝ<=63)(j:∀m∈ns,wy m<=1048576){first ŕa:Int}(i:0<=first)(f1:first<=40)(k:0<=ŕa)(m1:ŕa<=14) :∃(N:Á Str) (R z6:Á D),ķb<=14/\Ĺ=ķb+1/\Śc/\(∀r∈R,pq N r)/\PC z6/\ſe Ýd=R/\Ŭb<=40/\Yd ûm=À (Â,.lst z6):=by obtain⟨N,R,z6,a,b,c,d,e,f,g,h,_⟩:=z60 l j i f1 k m1;exact⟨N,R,z6,a,b,c,d,e,f,g,h⟩
noncomputable def zb(a:Á Nat):Á D:=òe λi:Nat=>Ħ i
theorem sO:∀qs:Á Nat,VD (ćc λi:Nat=>Įf ęo)=À (ćc λi:Nat=>Ş (i:Int),ćc λ_=>ŷc Â)
 | []=>rfl|a::qs=>by show(ur ùp).bind _=_;show(VD (ćc λi:Nat=>Įf ęo)).bind _=_;rw[sO qs];rfl
noncomputable def Im:Æ ì->Í
 |À (Ä,.int u)=>decide (0<=u/\u<2048)|_=>Ä
def gZ(r:D):Í:=Im Ĥk&&Im ħk
def y51:gZ ìb=Â:=by decide +kernel
def y4x:∀n:Int,((Ćr).all λw=>(ř).all λd=>gZ âm)=Â:=λn=>by kernel_rfl
def y52:(ςc (ŏl) (ř) (ř))=Â:=by kernel_rfl
def y50:(ςc (Øk) (ř) Ğk)=Â:=by kernel_rfl
def y4z:∀n:Int,((åo).all λw=>(ř).all λd=>(ř).all λs=>gZ Ūl)=Â:=λn=>by kernel_rfl
def y4y:∀t:Str,gZ Ŕf=Â:=λn=>by kernel_rfl
def y4w:∀t:Str,((ąr).all λw=>[ía,ěa,Ĵa].all λk=>gZ Ųl)=Â:=λn=>by kernel_rfl
def Az{o:Æ ì}(h:Im o=Â):∃u:Nat,u<2048/\o=À (Ä,.int u):=by
 unfold Im at h
 split at h;rename_i u;have:=ŵ h;exact⟨łk,by omega,by rw[Àg this.1]⟩;cases h
def Ė{α:Type}{l:Á α}{f:α->Í}(h:l.all f=Â){x:α}(a:x∈l):f x=Â:=Ĕa h x a
def XH{d:Int}{n:Nat}(a:0<=d)(b:d<n):∃k∈Ía n,d=(k:Nat):=⟨d.toNat,ēa Å,by omega⟩
def rf{f:D->Í}(m:f ìb=Â)(i:∀n:Int,((Ćr).all λw=>(ř).all λd=>f âm)=Â)(c:(υc (ŏl) (ř) (ř))=Â)(l:(υc (Øk) (ř) Ğk)=Â)(g:∀n:Int,((åo).all λw=>(ř).all λd=>(ř).all λs=>f Ūl)=Â)(o:∀t:Str,f Ŕf=Â)(e:∀t:Str,((ąr).all λw=>[ía,ěa,Ĵa].all λk=>f Ųl)=Â){r:D}(h:vN r)(p:yh r=Ä):f r=Â:=by
 cases h with
 |Čc t=>cases p|Ŵa h=>
  cases h with
  |Ŕa=>exact m|UG hw d0 d1 n0 n1=>obtain⟨k,a,rfl⟩:=XH (n:=8) d0 d1;rcases hw with rfl|rfl;exact Ė (Ė (i _) (x := ļ) Ð) a;exact Ė (Ė (i _) (x := čb) Ð) a
  |two hw d0 d1 s0 s1=>obtain⟨k,a,rfl⟩:=XH (n:=8) d0 d1;obtain⟨j,b,rfl⟩:=XH (n:=8) s0 s1;rcases hw with rfl|rfl|rfl|rfl|rfl|rfl|rfl|rfl|rfl;exact Ė (Κ (Ė c (x := ĵa) Ð)) b;exact Ė (Κ (Ė c (x := ĥa) Ð)) b;exact Ė (Κ (Ė c (x := ča) Ð)) b;exact Ė (Κ (Ė c (x := Ľa) Ð)) b;exact Ė (Κ (Ė c (x := Ča) Ð)) b;exact Ė (Κ (Ė c (x := ųa) Ð)) b;exact Ė (Κ (Ė c (x := Ŷa) Ð)) b;exact Ė (Κ (Ė c (x := Ýb) Ð)) b;exact Ė (Κ (Ė c (x := Æa) Ð)) b
  |UH hw d0 d1 n0 n1=>obtain⟨k,a,rfl⟩:=XH (n:=8) d0 d1;obtain⟨j,b,rfl⟩:=XH (n:=32) n0 n1;rcases hw with rfl|rfl;exact Ė (Κ (Ė l (x := ĸa) Ð)) b;exact Ė (Κ (Ė l (x := ıa) Ð)) b
  |mem hw d0 d1 s0 s1 n0 n1=>obtain⟨k,a,rfl⟩:=XH (n:=8) d0 d1;obtain⟨j,b,rfl⟩:=XH (n:=8) s0 s1;rcases hw with rfl|rfl|rfl|rfl;exact Ė (Κ (Ė (g _) (x := ōa) Ð)) b;exact Ė (Κ (Ė (g _) (x := ŉa) Ð)) b;exact Ė (Κ (Ė (g _) (x := Ŋa) Ð)) b;exact Ė (Κ (Ė (g _) (x := ńa) Ð)) b
 |uU t=>exact o t|êa t hw a=>rcases hw with rfl|rfl<;>rcases a with rfl|rfl|rfl;exact Ė Ñi (x := ía) Ð;exact Ė Ñi (x := ěa) Ð;exact Ė Ñi (x := Ĵa) Ð;exact Ė Òi (x := ía) Ð;exact Ė Òi (x := ěa) Ð;exact Ė Òi (x := Ĵa) Ð
def dX{r:D}(h:vN r)(a:yh r=Ä):gZ r=Â:=rf y51 y4x y52 y50 y4z y4y y4w h a
noncomputable def VL:Æ ì->Nat
 |À (_,.int u)=>łk|_=>0
def y53{r:D}(h:vN r)(b:yh r=Ä):uK [r]=À (Ä,.int (VL Ĥk:Nat))/\VL Ĥk<2048:=by have:=dX h b;unfold gZ at this;rw[ć]at this;obtain⟨u,a,e⟩:=Az this.1;rw[e];exact⟨rfl,a⟩
def z6b{r:D}(h:vN r)(b:yh r=Ä):qO [r]=À (Ä,.int (VL ħk:Nat))/\VL ħk<2048:=by have:=dX h b;unfold gZ at this;rw[ć]at this;obtain⟨u,a,e⟩:=Az this.2;rw[e];exact⟨rfl,a⟩
def Bk:FS:=
 (zc (yi ŉn
   (uv Ąf)
   xA)
  (zc (yi (tE (Ξa (eC Ĥb)))
   (uv (wC ņc))
   xA)
  (zc (yi (tE (e2 Ze ĥ Åf))
   (uv (wC ĵr))
   xA)
  (uv (eL DN (Β (wC (zB ŀm (zB ĥ zH)))))))))
def Ud:Á D->Æ ì:=FR 3 3 Bk
def oY(a x1 x2:D):Ud Óa=yS 3 Bk Óa:=rfl
def HY:FE:=(ze Ud (zB šo ůp))
def Bl:FS:=
 (zc Īi
  (uv (vy 2 (gO Ļj) (uE 2 3) wE HY)))
def Ue:Á D->Æ ì:=FR 1 2 Bl
def oZ(a:D):Ue [a]=yS 2 Bl [a]:=rfl
noncomputable def wd:D->Str
 |.tup Ńj=>w|_ => ""
def CC(r:D):Str:=match Sq r with
 |.str t=>t|_ => ""
def v7(z6:Á D)(r:D):Æ Nat:=match uZ r with
 |Â=>(vR (CC r) z6).2|Ä=>Ã
noncomputable def ub:Æ Nat->D
 |Ã=>.zK|À p=>.int (p:Int)
noncomputable def two(a b:Nat):Á Nat:=if a=b then[a]else if a<b then[a,b]else[b,a]
def gu(r:D)(i:Nat)(t:Æ Nat):Á Nat:=if wd r = êe then[]else match t with
 |Ã=>[i+1]|À p=>if wd r = ŏa then[p]else two ï p
def za(z6:Á D):Á D:=ſe λd=>!yh d
def Wf(z6:Á D)(i:Nat):Á Nat:=match è[i]? with
 |À r=>gu r i Ŭd|Ã=>[]
theorem Sr(v:Nat->D):∀{ds:Á D}(k:Nat),(∀i d,ds[i]?=À d->∃σ1,g d σ=À σ1/\e σ1=À (v (k+i)))->w6 g wE e σ ds=À ((ôq k ú).map v)
 | [],_,_=>rfl|d::ds,k,h=>by
  obtain⟨σ1,e1,e2⟩:=h 0 d rfl
  have a:=Sr v (ds:=ds) Ų λi b c=>by rw[show k+1+i=k+ï by omega];exact h ï b Ĩc
  show(Ŕc).bind _=_;rw[e1];show(ąf).bind _=_;rw[e2];show(óo).bind _=_;rw[a];rfl
def rn(h:vN r):zJ r Úa=À (.str äl):=by
 cases h with
 |Čc t=>rfl|Ŵa h=>cases h<;>rfl|uU t=>rfl|êa t hw hk=>rfl
def rh(h:vN r):uZ r=(wd r == ŏa || wd r == ĉa || wd r == Ąa):=by
 cases h with
 |Čc t=>rfl|Ŵa h=>cases h<;>rfl|uU t=>rfl|êa t hw hk=>rfl
def Fh(h:vN r)(a:uZ r=Â)(e:zJ r ůd=À øc):CC r=t:=by
 cases h with
 |Čc u=>cases a|Ŵa h=>obtain⟨_,_,_,_,z,_⟩:=Q4 h;rw[z]at a;cases a
 |uU u=>cases e;rfl|êa u hw hk=>cases e;rfl
def cq(a b:Str):zg (.str a) (.str b)=À (.bl ïl):=rfl
def y07(a b:Nat):DN [.lst [.int (a:Int),.int (b:Int)]]=À (Α (zb (two a b))):=by
 have e:XQ Øg=if a=b then[(a:Int)]else[(a:Int),(b:Int)]:=by
  show ZX (ZX [] (a:Int)) (b:Int)=_;unfold ZX;by_cases h:a=b;subst h;simp;have:¬ (a:Int)=(b:Int):=by omega
  simp[h,this]
 show(if(Øg).length<1000/\(XQ Øg).length<64 then À (ņb (ωa (L2.isort (XQ Øg))))else Ã)=_;rw[e];unfold two;by_cases h:a=b;rw[Ë h,Ë h];rfl;rw[Ï h,Ï h,Ë ⟨by show 2<1000;decide,by show 2<64;decide⟩];show À (ņb (ωa (L2.insI (a:Int) [(b:Int)])))=_;unfold L2.insI;by_cases h2:a<b;rw[Ë h2,Ë Å];rfl;rw[Ï h2,Ï Å];rfl
def y5o{r:D}(h:vN r)(i:Nat){t:Æ Nat}(d:t.isSome=uZ r):Ud [r,.int (i:Int),ub t]=À (Â,.lst (zb (gu r i t))):=by
 have a:=rn h;have c:=rh h;have e1:=cq äl êe;have e2:=cq äl ŏa;rw[oY];unfold Bk gu;by_cases c1:wd r = êe;rw[Ë c1];rw[Ýc c1]at e1;simp only[ß,a,e1];rfl;rw[Ï c1];rw[Őb c1]at e1;by_cases c2:wd r = ŏa;rw[Ýc c2]at e2 c;rw[c]at d;cases t with
 |Ã=>cases d|À p=>dsimp only;rw[Ë c2];unfold ub;simp only[ß,a,e1,e2];rfl
 rw[Őb c2]at e2;cases t with
 |Ã=>unfold ub;simp only[ß,a,e1,e2,Ze,ċa];rfl|À p=>dsimp only;rw[Ï c2];unfold ub;have b:=y07 ï p;rw[show((i+1:Nat):Int)=(i:Int)+1 by omega]at b;simp only[ß,a,e1,e2,Ze,ċa,b]
theorem dH{z6:Á D}(P:PC z6){r:D}(c:r∈z6):(Ŭd).isSome=uZ r/\∀t,uZ r=Â->zJ r ůd=À øc->CC r=t:=by
 have b:=ĥd r c;refine⟨?_,λt a e=>Fh b a e⟩;unfold v7;cases a:uZ r with
 |Ä=>rfl|Â=>obtain⟨t,p,e1,e2⟩:=P.tg r c a;rw[Fh b a e1,e2];rfl
def dE{z6:Á D}(P:PC z6):kC Ũa=À (Â,.lst Žm):=by
 obtain⟨b,d,e1,i⟩:=sv ĥd (by have:=P.ln;omega);have e2:qr Ũa=À (Â,.lst è):=OF ĥd
 have k:=Tl (g:=yR 2) (e:=HX) (σ:=[À (Ä,.lst z6),À (Ä,.dic b d),Ã]) Ĭp (ds:=za z6) λr l=>by
  have c:r∈z6:=(Çd l).1;have a:=rY ŭj;refine⟨_,rfl,?_⟩;unfold HX v7;cases z:uZ r with
  |Â=>
   rw[z]at a;obtain⟨t,p,h,f⟩:=P.tg r c z
   have j:zJ (.dic b d) øc=À (.int (p:Int)):=by show ą b d èh=_;rw[i,f];rfl
   rw[Fh ŭj z h,f];unfold ub;simp only[ß,a,h,j]
  |Ä=>rw[z]at a;unfold ub;simp only[ß,a]
 rw[oX];unfold Bj;simp only[ß,e1,e2,k]
def pK(z6:Á D):Á D:=(Ĳe).map λi=>.lst Ãj
def y5m{z6:Á D}(P:PC z6):Ue Ũa=À (Â,.lst ße):=by
 have e1:qr Ũa=À (Â,.lst è):=OF ĥd;have e2:=dE P
 have b:=Sr (g:=uE 2 3) (e:=HY) (σ:=[À (Ä,.lst z6),À (Ä,.lst è),Ã,Ã]) (λi=>.lst Ãj) (ds:=jh Žm) 0 λi d a=>by
  rw[Il,Œ]at a;cases hr:è[i]? with
  |Ã=>rw[hr]at a;cases a|À r=>
   rw[hr]at a;cases a;refine⟨_,rfl,?_⟩;have c:r∈z6:=(Çd (Áa hr)).1;have j:=y5o ŭj i (t:=v7 z6 r) (dH P c).1;have h:Wf z6 i=gu r i Ŭd:=by unfold Wf;rw[hr]
   rw[ń,h];have f:zJ Ìr Ħb=À r:=kJ Å (by rw[ğ];exact hr);unfold HY;simp only[ß,f,j]
 rw[XJ,é,<-List.range_eq_range']at b;rw[oZ];unfold Bl pK;generalize (è).map Ĭp=ts at e1 e2 b ⊢;simp only[ß,e1,e2,gO,b]
theorem y5n{z6:Á D}{i:Nat}(h:i<(è).length):zJ (Α ße) Ħb=À (Α Ãj):=by refine kJ Å ?_;unfold pK;rw[ğ,Œ,īe h];rfl
theorem aX(t:Str):∀(L:Á D)(s:Nat×Æ Nat),(∀p,s.2=À p->p<=s.1)->∀p,Ìg.2=À p->p<=Ìg.1
 | [],s,h=>h|d::L,s,h=>by
  rw[òb];refine aX t L _ λp a=>?_
  unfold uG at a ⊢;cases hl:yh d with
  |Â=>
   rw[hl]at a;dsimp only at a ⊢;cases hn:Tz t d with
   |Â=>rw[hn]at a;cases a;exact æa _|Ä=>rw[hn]at a;exact h p a
  |Ä=>rw[hl]at a;exact Óg (h p a)
def Mp{z6:Á D}{i w:Nat}(hi:i<(è).length)(h:w∈Wf z6 i):w<=(è).length:=by
 have b:∀t p,Ñf.2=À p->p<=(è).length:=λt p a=>by have:=aX t z6 (0,Ã) (λp z=>nomatch z) p a;rw[CW t z6 (0,Ã),ń]at this;exact this
 unfold Wf at h;rw[č hi]at h;generalize è[i]=r at h;dsimp only at h;unfold gu at h
 split at h;cases h;have c:∀p,v7 z6 r=À p->p<=(è).length:=λp a=>by
  unfold v7 at a
  split at a;exact b _ _ a;cases a
 split at h;cases Ķ h;omega;rename_i p a;have:=c p a
 split at h;cases Ķ h;omega;unfold two at h
 split at h;cases Ķ h;omega;split at h;rcases ę h with rfl|h;omega;cases Ķ h;omega;rcases ę h with rfl|h;omega;cases Ķ h;omega
def h_(z6:Á D)(i:Nat):(Wf z6 i).length<=2:=by
 unfold Wf gu two
 split;split;exact Ãa _;split;exact ŕb Ąc;split;exact ŕb Ąc;split;exact ŕb Ąc;split<;>exact æa 2;exact Ãa _
def Fq:FS:=(yF 2 (e2 ëf ĥ Ţo))
def Ba:FS:=
 (zc Ũq
  (zc (ge (uq Ā) Ĕd
   Fq)
  (yO ĥ)))
def Wn:Á D->Æ ì:=FR 2 4 Ba
def oN(a x1:D):Wn ė=yS 4 Ba ė:=rfl
def OA:FA:=(vQ Ď (e2 yb Ůe Ğ))
def C8:tf:=(AC ĥ Ŋ)
def Tx:tf:=(VH (uq Ÿ) Ėf
      C8)
def PZ:FS:=
 (VT 1 źk
  (VI (VH (gO ý) ĥk
    Tx)
   Tw))
def Wb:Á D->Æ ì:=FR 1 5 PZ
def nU(a:D):Wb [a]=yS 5 PZ [a]:=rfl
def Tj:FS:=(zc (VU 6 5)
    (zc (yF 7 þl)
    (yi şh
     (zc (QM 4 Øb ēd)
      (VS 5 ŝo))
     xA)))
def T5:FT:=(tE (e2 wK (p9 5) Ąf))
def Bb:FS:=
 (zc Īi
  (zc (yF 2 (ze Ue Òc))
  (zc (yF 3 (ze Wb ņc))
  (zc (gf 4 (e2 TC (e2 V7 Ġo īq) (wC (Η çd))))
  (zc (gf 5 (eL DK (Β īq)))
  (zc (OG T5
   Tj)
  (zc (QL 5) (jp 4))))))))
def UZ:Á D->Æ ì:=FR 1 8 Bb
def oO(a:D):UZ [a]=yS 8 Bb [a]:=rfl
noncomputable def gt(T:Á Nat)(i:Nat):Nat:=T.getD i 0
def ox{T:Á Nat}{i:Nat}(h:i<Ķb):T[i]?=À Ĺb:=by unfold gt;rw[Ŵ,č h];rfl
def ot{T:Á Nat}{m i x:Nat}(h:m<Ķb):gt ůe i=if i=m then x else gt T i:=by unfold gt;rw[Ŵ,Ŵ,ĸe];by_cases c:m=i;rw[Ë c,Ë ée,Ë (c▸h)];rfl;rw[Ï c,Ï Ďj]
def uP(T:Á Nat)(ws:Á Nat):Nat:=Ćk þi 0
theorem aG(T:Á Nat)(k:Nat):∀(ws:Á Nat)(a:Nat),(Ćk þi a).testBit k=Â↔Űd k=Â\/∃w∈ws,(Ïe).testBit k=Â
 | [],a=>⟨.inl,λh=>îe id λ⟨_,z,_⟩=>by cases z⟩|w::ws,a=>by
  rw[òb,aG T k ws,Ÿi,îg]
  constructor;rintro((h|h)|⟨v,b,h⟩);exact .inl h;exact .inr ⟨w,ĵ,h⟩;exact .inr ⟨v,Àa _ b,h⟩;rintro(h|⟨v,b,h⟩);exact .inl Ŷb;rcases ę b with rfl|b;exact .inl (.inr h);exact .inr ⟨v,b,h⟩
def z4e(T ws:Á Nat)(k:Nat):(uP T ws).testBit k=Â↔∃w∈ws,(Ïe).testBit k=Â:=by unfold uP;rw[aG,ŀe];exact⟨λh=>îe ìo id,.inr⟩
def z4g(T ws:Á Nat)(w:Nat):uP T (ws++[w])=(uP T ws ||| gt T w):=by unfold uP;rw[Ýo];rfl
def z4f(h:∀i,gt T i<2048)(ws:Á Nat):uP T ws<2048:=by
 have:∀(ws:Á Nat)(a:Nat),a<2048->Ćk þi a<2048:=by
  intro ws
  induction ws with
  |nil=>exact λa b=>b|ù w ws ih=>exact λa b=>ih _ (aE b (h w))
 exact this ws 0 Ð
def rl(u p:Nat)(T ws:Á Nat):Nat:=u ||| (uP T ws-(uP T ws &&& p))
def Cw(u p:Nat)(T ws:Á Nat)(k:Nat):(ķp).testBit k=Â↔u.testBit k=Â\/((∃w∈ws,(Ïe).testBit k=Â)/\p.testBit k=Ä):=by unfold rl;rw[Ÿi,RN,îg,ć,z4e,äo]
theorem OD(h:∀w∈ws,Sb Ïe (gt T' w)):Sb ķp (rl u p T' ws):=λk z=>by rw[Cw]at z ⊢;exact z.imp id λ⟨⟨w,a,e⟩,b⟩=>⟨⟨w,a,h w a k e⟩,b⟩
def z7g(h:∀w∈ws,gt T w=gt T' w):rl u p T ws=rl u p T' ws:=
 (OD λw a=>by rw[h w a];exact øh _).N4 (OD λw a=>by rw[h w a];exact øh _)
def bi(a:u<2048)(h:∀i,gt T i<2048):rl u p T ws<2048:=aE a (mI _ (z4f h ws))
structure NI(n:Nat)(U P:Nat->Nat)(W:Nat->Á Nat)(T dl:Á Nat):Prop where
 len:Ķb=n+1
 last:gt T n=2047
 lt:∀i,gt T i<2048
 up:∀i,i<n->Sb Ĺb (rl (U i) (P i) T ňb)
 fx:∀i,i<n->i ∉ dl->gt T i=rl (U i) (P i) T ňb
 dn:∀i∈dl,i<n
section
variable{n:Nat}{U P:Nat->Nat}{W:Nat->Á Nat}{T dl:Á Nat}{m:Nat}
def z1l:NI n U P W Ŀi ąc:=by
 have c:∀i,i<n->gt Ŀi i=0:=λi a=>by unfold gt;rw[Ŵ,Ěb (by rw[ħa];exact a),ĺd,Ë a];rfl
 have b:gt Ŀi n=2047:=by unfold gt;rw[Ŵ,Îc (by rw[ħa];exact æa _),ħa,ĵc];rfl
 refine⟨by rw[ä,ħa];rfl,b,λi=>?_,λi a=>by rw[c i a];exact z7s _,λi a z=>(z (ēa a)).elim,λi a=>ķe a⟩;rcases Òg i n with h|h|h;rw[c i h];decide;rw[h,b];decide;unfold gt;rw[Ŵ,ëb (by rw[ä,ħa];exact h)]
 decide
def z1k(N:NI n U P W T šr)(e:rl (U m) (P m) T (W m)=gt T m):NI n U P W T dl:=⟨þe,Öl,N.lt,N.up,λi a h=>by by_cases c:i=m;rw[c,e];exact N.fx i a λz=>(Ïa z).elim h λz=>c (Ķ z),λi a=>N.dn i (žc _ a)⟩
def z1j{C:Á Nat}(N:NI n U P W T šr)(g:U m<2048)(e:∀j,j∈C↔(j<n/\m∈W j)):NI n U P W ņf (dl++C):=by
 have k:m<n:=N.dn m ĵj;have o:m<Ķb:=by rw[þe];omega
 have b:∀i,gt ņf i=if i=m then rl (U m) (P m) T (W m)else gt T i:=λi=>ot o
 have f:∀i,Sb Ĺb (gt ņf i):=λi=>by rw[b];by_cases c:i=m;rw[Ë c,c];exact N.up m k;rw[Ï c];exact øh _
 have d:∀i,m ∉ W i->rl (U i) (P i) T ňb=rl (U i) (P i) ņf ňb:=λi h=>z7g λw l=>by rw[b,Ï (λz:w=m=>h (z▸l))]
 refine⟨by rw[ŭ];exact þe,by rw[b,Ï Å];exact Öl,λi=>?_,λi a=>?_,λi a h=>?_,λi a=>?_⟩;rw[b]
 split;exact bi g N.lt;exact N.lt i;rw[b];by_cases c:i=m;rw[Ë c,c];exact OD λw _=>f w;rw[Ï c];exact(N.up i a).trans (OD λw _=>f w);have p:m ∉ W i:=λz=>h (ŀa _ ((e i).mpr ⟨a,z⟩))
 rw[<-d i p,b];by_cases c:i=m;rw[Ë c,c];rw[Ï c];exact N.fx i a λz=>(Ïa z).elim (λz=>h ßk) λz=>c (Ķ z);rcases Ïa a with z|z;exact N.dn i ßk;exact((e i).mp z).1
def jt(T:Á Nat):Nat:=(ņg).sum
theorem cz:∀T:Á Nat,jt T<=11*Ķb
 | []=>æa _|x::T=>by have:=cz T;have h:=z4k x;show pc x+(ņg).sum<=11*(Ķb+1);unfold jt at this;omega
theorem c_:∀{T:Á Nat}{m x:Nat},m<Ķb->jt ůe+pc Ĭk=jt T+pc x
 | [],m,x,h=>by cases h|y::T,0,x,_=>by show pc x+(ņg).sum+pc y=pc y+(ņg).sum+pc x;omega|y::T,m+1,x,h=>by have a:=c_ (T:=T) (m:=m) (x:=x) ĩa;have e:gt (y::T) (m+1)=gt T m:=rfl;rw[e];show pc y+jt ůe+pc Ĭk=pc y+jt T+pc x;omega
omit a
def CA{T:Á Nat}{i:Nat}(h:i<Ķb):zJ Ĩr Ħb=À (.int (gt T i:Nat)):=by refine kJ Å ?_;unfold zb;rw[ğ,Œ,ox h];rfl
def z19{T ws:Á Nat}(h:∀w∈ws,w<Ķb):Wn [.lst żb,.lst ăf]=À (Ä,.int (uP T ws:Nat)):=by
 obtain⟨σ',e1,f,rfl⟩:=XE (g:=yR 3) (b:=Fq) (λi σ=>∃f,σ=[À (Ä,.lst żb),À (Ä,.lst ăf),À (Ä,.int ((uP T Ők:Nat):Int)),f]) (ds:=zb ws)
  (σ:=[À (Ä,.lst żb),À (Ä,.lst ăf),À (Ä,.int 0),Ã]) 0 ⟨Ã,rfl⟩ (by
  rintro i d σ a ⟨f,rfl⟩;rw[ń];unfold zb at a;rw[Œ]at a;cases hw:ws[i]? with
  |Ã=>rw[hw]at a;cases a|À w=>
   rw[hw]at a;cases a;have j:=(ō hw).1;have e:=CA (T:=T) (h w (Áa hw))
   have k:uP T ēr=(uP T Ők ||| gt T w):=by rw[ęc j,z4g];rw[č j]at hw;cases hw;rfl
   have c:=Jl (uP T Ők) Ïe;rw[<-k]at c;refine⟨_,[À (Ä,.lst żb),À (Ä,.lst ăf),À (Ä,.int ((uP T ēr:Nat):Int)),À (Ä,.int (w:Int))],rfl,.inl ?_,_,rfl⟩;unfold Fq;generalize zb T=TT at e c ⊢;generalize zb ws=WW at e c ⊢;simp only[ß,e,c])
 have l:(ăf).length=Ùr:=by unfold zb;rw[é]
 rw[l,ń,Łe]at e1;rw[oN];unfold Ba;generalize zb T=TT at e1 ⊢;generalize zb ws=WW at e1 ⊢;simp only[ß,e1]
theorem C0{g:FG}{b:tf}(P:Nat->Á Űa->zy->Prop):∀{ds:Á D}{nds:Á Űa} {σ:zy} (n:Nat),P n nds σ->(∀i d nds σ,ds[i]?=À d->P (n+i) nds σ->∃σ1 Ġd σ2,g d σ=À σ1/\b nds σ1=À (.nx Ġd σ2)/\P Űk Ġd σ2)->
  ∃ŵc σ',Tp g b ds nds σ=À (.nx ŵc σ')/\P ůk ŵc σ'
 | [],nds,σ,n,h,_=>⟨nds,σ,rfl,h⟩|d::ds,nds,σ,n,h,ŉb=>by
  obtain⟨σ1,Ġd,σ2,e1,e2,r⟩:=ŉb 0 d nds σ rfl h
  obtain⟨ŵc,σ',l,q⟩:=C0 P (ds:=ds) (nds:=Ġd) (σ:=σ2) Ĝ r λi o m τ s j=>by obtain⟨a,k,p,e,c,f⟩:=ŉb ï o m τ (by simpa using s) (by rw[show n+ï=n+1+i by omega];exact j);exact⟨a,k,p,e,c,by rw[show n+1+i+1=n+ï+1 by omega];exact f⟩
  refine⟨ŵc,σ',?_,by rw[Ă,show n+ţk=n+1+ú by omega];exact q⟩;show(Ŕc).bind _=_;rw[e1];show(b nds σ1).bind _=_;rw[e2];exact l
noncomputable def gl(L:Á ìc)(p:Nat):Á Nat:=L.getD p []
theorem S8{L:Á ìc}{i:Nat}(h:i<ïa):L[i]?=À (gl L i):=by unfold gl;rw[Ŵ,č h];rfl
def S7{T:Á ìc}{m i:Nat}{x:Á Nat}(h:m<Ķb):gl ůe i=if i=m then x else gl T i:=by unfold gl;rw[Ŵ,Ŵ,ĸe];by_cases c:m=i;rw[Ë c,Ë ée,Ë (c▸h)];rfl;rw[Ï c,Ï Ďj]
theorem lh{n:Nat}{W:Nat->Á Nat}(hn:n<=100)(S:∀i,i<n->∀w∈W i,w<=n)(I:∀i,(ňb).length<=2) :∃L:Á ìc,ïa=n+1/\(∀p,p<=n->∀j,j∈gl L p↔(j<n/\p∈W j))/\(∀p,(íf).length<=2*n)/\Wb [.lst ((ąc).map λi=>.lst Ŷe)]=À (Ä,.lst İd):=by
 obtain⟨a,s⟩:∃a:Á D,a=(ąc).map λi=>.lst Ŷe:=⟨_,rfl⟩
 have B:Ġa=n:=by rw[s,é,īa]
 have Q:OA ėc=À (wT Ĝ):=by refine kq (n:=((n+1:Nat):Int)) ?_ Å;show À (Ħ ((Ġa:Int)+1))=_;rw[B];rfl
 rw[<-s]
 obtain⟨H,σ',e1,L,f,x,A,u,r,o,rfl,rfl⟩:=C0 (g:=uE 3 4) (b:=Tx) (λi nds σ=>∃(L:Á ìc) (f x A:Æ ì),ïa=n+1/\(∀p,p<=n->∀j,j∈gl L p↔(j<i/\p∈W j))/\(∀p,(íf).length<=2*i)/\nds=ųc zb/\σ=ĥm) (ds:=jh a)
  (nds:=į Ĝ []) (σ:=ėc) 0 ⟨į Ĝ [],Ã,Ã,Ã,ħa,λp t j=>by
   rw[show gl še p=[] by unfold gl;rw[Ŵ,ĺd];split<;>rfl];exact⟨λz=>(Ėa z).elim,λz=>(Ŀl _ z.1).elim⟩,λp=>by
   rw[show gl še p=[] by unfold gl;rw[Ŵ,ĺd];split<;>rfl];exact Ãa _,by rw[Ĥi];rfl,rfl⟩ (by
  rintro i d nds σ e ⟨L,f,x,A,u,r,o,rfl,rfl⟩;rw[ń]at *;rw[Il]at e
  have G:i<n:=by
   rw[<-B];cases z:a[i]? with
   |Ã=>rw[z]at e;cases e|À y=>exact(ō z).1
  have Z:a[i]?=À (Α Ŷe):=by rw[s,Œ,īe G];rfl
  rw[Z]at e;cases e
  obtain⟨F,σ2,e2,P,U,Y,E,K,rfl,rfl⟩:=C0 (g:=yR 2) (b:=C8) (λk nds σ=>∃(L:Á ìc) (f:Æ ì),ïa=n+1/\(∀p,p<=n->∀j,j∈gl L p↔(j<i/\p∈W j\/j=i/\p∈(ňb).take k))/\(∀p,(íf).length<=2*i+k)/\nds=ųc zb/\σ=Ĝl) (ds:=zb ňb)
   (nds:=ųc zb) (σ:=Ĝl) 0 ⟨L,f,u,λp t j=>by rw[r p t j];exact⟨.inl,λz=>ł id λz=>by rw[øg]at z;cases z.2⟩,o,rfl,rfl⟩ (by
   rintro k d nds σ e ⟨L,f,u,r,o,rfl,rfl⟩;rw[ń]at *;unfold zb at e;rw[Œ]at e;cases hw':ňb[k]? with
   |Ã=>rw[hw']at e;cases e|À w=>
    rw[hw']at e;cases e;have J:=(ō hw').1;have R:=S i G w (Áa hw');have q:w<ïa:=by omega
    have N:(ňb).take Ų=(ňb).take k++[w]:=by rw[ęc J];rw[č J]at hw';cases hw';rfl
    refine⟨_,(żm).map zb,ĉl,rfl,?_,L.set w (gl L w++[i]),_,by rw[ŭ];exact u,λp t j=>?_,λp=>?_,rfl,rfl⟩
    .have C:ïd[w]?=À (zb (gl L w)):=by rw[Œ,S8 q];rfl
     have T:(ïd).set w (zb (gl L w)++[Ħ (i:Int)])=(żm).map zb:=by rw[Ćj];unfold zb;rw[ža];rfl
     unfold C8
     show(match ïd[((w:Nat):Int).toNat]? with
      |À ds=>if 0<=((w:Nat):Int)/\ú<yD then À (NF.nx ((ïd).set ((w:Nat):Int).toNat (ds++[Ħ (i:Int)])) ĉl)else Ã|Ã=>Ã)=_
     rw[ğ,C];dsimp only
     rw[Ë ⟨by omega,by unfold zb;rw[é];have:=o w;have:=I i;show _<16777216;omega⟩,T]
    .rw[S7 q,N];by_cases c:p=w
     .rw[Ë c,ţi,c,r w R,ţi,ģi,ģi]
      constructor
      .rintro((h|h)|h)
       .exact .inl h
       .exact .inr ⟨h.1,.inl h.2⟩
       .exact .inr ⟨h,.inr rfl⟩
      .rintro(h|⟨h,m|m⟩)
       .exact .inl Ŷb
       .exact .inl (.inr ⟨h,m⟩)
       .exact .inr h
     .rw[Ï c,r p t,ţi,ģi]
      constructor
      .rintro(h|h)
       .exact .inl h
       .exact .inr ⟨h.1,.inl h.2⟩
      .rintro(h|⟨h,m|m⟩)
       .exact .inl h
       .exact .inr ⟨h,m⟩
       .exact Û m c
    .rw[S7 q];have:=o p;have:=o w
     split
     .rw[ä,ån];omega
     .omega)
  have v:(Ŷe).length=(ňb).length:=by unfold zb;rw[é]
  rw[v,ń,Łe]at E;rw[v,ń]at K;refine⟨_,_,_,rfl,?_,P,U,À (Ä,.int (i:Int)),À (Ä,.lst Ŷe),Y,λp t j=>?_,λp=>?_,rfl,rfl⟩
  .exact e2
  .rw[E p t j]
   constructor
   .rintro(h|⟨rfl,h⟩)
    .exact⟨by omega,h.2⟩
    .exact⟨by omega,h⟩
   .rintro⟨h1,m⟩;rcases Śe j i with c|c
    .exact .inl ⟨c,m⟩
    .have:j=i:=by omega
     subst this;exact .inr ⟨rfl,m⟩
  .have:=K p;have:=I i;omega)
 rw[XJ,B,ń]at r o;refine⟨L,u,r,o,?_⟩;rw[nU];show(VT 1 źk _ ėc).bind _=_
 have C:VT 1 źk (VI Ŗm Tw) ėc=À (.rt Ä ĩr):=by
  unfold VT;rw[show pG ėc=Â from rfl];dsimp only;unfold Tv;rw[Q];have O:VH (gO ý) ĥk Tx še ėc=À (.nx ïd ĥm):=e1
  have X:VI Ŗm Tw še ėc=À (.rt ĩr):=by unfold VI;rw[O];show(if(ïd).length<=yD then À (NF.rt (Α ((ïd).map .lst)))else Ã)=_;rw[Ë (by rw[é,u];show _<=16777216;omega),Şb];rfl
  show((À (wT Ĝ).length).bind _)=_;rw[Oc];show((VI _ _ še ėc).bind _)=_;rw[X];rfl
 rw[C];rfl
def z5x{σ:zy}{i j:Nat}{ds:Á D}{d:D}(h:σ[i]?=À (À (Â,.lst (ds++[d]))))(a:j≠i):VU j i σ=À (Φd (Ξ ĭe)):=by unfold VU;rw[h];dsimp only;rw[List.getLast?_append,List.dropLast_concat];show(if j=i then Ã else _)=_;rw[Ï a];rfl
def z99{σ:zy}{i j:Nat}{k v:FE}{ds:Á D}{y:D}(hv:v σ=À y)(h:σ[i]?=À ĭe)(hk:k σ=À Æj)(a:j<ú):QM i k v σ=À (.nx (Ηb (Ïl j y))):=by
 unfold QM;rw[hv]
 show(match σ[i]? with
  |À ĭe=>(ıh).bind λx=>match x with
   |.int j=>(Ēf ú j).bind λn=>À (Fl.nx ğr)|_=>Ã
  |_=>Ã)=_
 rw[h];dsimp only;rw[hk];show(Ēf ú (j:Int)).bind _=_;unfold Ēf;rw[Ë Å,Ë Å,ğ];rfl
def mh{σ:zy}{i:Nat}{f:FE}{xs ys:Á D}(h:σ[i]?=À Łn)(a:f σ=À åc)(b:â+œ<=10000000):VS i f σ=À Űo:=by unfold VS;rw[h];dsimp only;rw[a];show(if â+œ<=yD then _ else _)=_;rw[Ë ēe]
theorem Ii(T:Á Nat):(żb).length=Ķb:=by unfold zb;rw[é]
theorem C9(T:Á Nat)(m:Nat):zb (T++[m])=zb T++[.int (m:Int)]:=by unfold zb;rw[ža];rfl
def z14(T S:Á Nat):zb (T++S)=zb T++zb S:=by unfold zb;rw[ža]
theorem z15(T:Á Nat)(m x:Nat):(żb).set m (.int (x:Int))=zb ůe:=by unfold zb;rw[Ćj]
def wM(z6:Á D)(i:Nat):D:=(è).getD i .zK
def Uf(z6:Á D)(i:Nat):Nat:=VL (uK ţg)
def Pf(z6:Á D)(i:Nat):Nat:=VL (qO ţg)
def QH{z6:Á D}{i:Nat}(h:i<(è).length):è[i]?=À Ĝa:=by unfold wM;rw[Ŵ,č h];rfl
def z7j{z6:Á D}{i:Nat}(h:i<(è).length):zJ Ìr Ħb=À Ĝa:=kJ Å (by rw[ğ];exact QH h)
def QJ{z6:Á D}(P:PC z6){i:Nat}(h:i<(è).length):vN Ĝa/\yh Ĝa=Ä:=by have:=Çd (Áa (QH h));exact⟨ĥd _ this.1,by simpa using this.2⟩
def Vf{z6:Á D}(P:PC z6){i:Nat}(h:i<(è).length):uK ţg=À (Ä,.int (Uf z6 i:Nat))/\Uf z6 i<2048:=y53 Þh.1 Þh.2
def Ce{z6:Á D}(P:PC z6){i:Nat}(h:i<(è).length):qO ţg=À (Ä,.int (Pf z6 i:Nat))/\Pf z6 i<2048:=z6b Þh.1 Þh.2
def vn(z6:Á D)(L:Á ìc)(T a:Á Nat)(x6 x7:Æ ì):zy:=[À (Ä,.lst z6),À (Ä,.lst è),À (Ä,.lst ße),À (Ä,.lst İd),À (Â,.lst żb),À (Â,.lst (zb a)),x6,x7]
theorem z17(a b:Nat):wK ùp (.int (b:Int))=À (.bl (!decide (a=b))):=by show À (ŷc (!((a:Int)==(b:Int))))=_;by_cases c:a=b;subst c;simp;rw[Őb Å,Ŏ c]
theorem z1c{z6:Á D}(P:PC z6){L:Á ìc}{T b:Á Nat}{m:Nat}{x6 x7:Æ ì}(G:ïa=(è).length+1)(u:∀p,(íf).length<=2*(è).length)(H:ça<=1000000)(N:NI (è).length âe ãe áe T (b++[m])) :Tj Ňm=À (.nx (if rl ùd úd T ūb=gt T m then vn z6 L T b Êc œh
   else vn z6 L æj ĭq Êc œh)):=by
 have t:m<(è).length:=N.dn m ĵj;have I:(è).length<=100:=ŏ Ĝr P.ln;have o:=z7j t;have s:=(Vf P t).1;have q:=(Ce P t).1;have r:=y5n t;have n:=z19 (T:=T) (ws:=Wf z6 m) λw C=>by rw[þe];have:=Mp t C;omega
 have h:=iU (uP T ūb) úd;have g:=Jl ùd (uP T ūb-Òn);have g:Ża (Uf z6 m:Nat) ((uP T ūb-Òn:Nat):Int)=((rl ùd úd T ūb:Nat):Int):=g;have e:=CA (T:=T) (i:=m) Ďi;have a:=z17 Ćl Ĭk;have A:=z5x (σ:=vn z6 L T (b++[m]) x6 x7) (i:=5) (j:=6) (ds:=zb b) (d:=.int (m:Int)) (by rw[<-C9];rfl) Ð;have A:VU 6 5 Ňm=À (.nx ĝn):=A;have F:zJ Ām øp=À (Α (zb (gl L m))):=kJ Å (by rw[ğ,Œ,S8 Å];rfl);unfold Tj;rw[jr A]
 have B:yF 7 þl ĝn=À (.nx (vn z6 L T b Êc œh)):=by unfold vn;generalize rl ùd úd T ūb=need at o s r n q h g ⊢;generalize za z6=RR at o s r n q h g ⊢;generalize pK z6=WW at o s r n q h g ⊢;generalize ųc Įe=LL at o s r n q h g ⊢;generalize zb T=TT at o s r n q h g ⊢;generalize zb b=DD at o s r n q h g ⊢;simp only[ß,o,s,r,Ju,n,xI,ŋ,q,V6,h,g]
 rw[jr B];generalize hneed:rl ùd úd T ūb=need at *;by_cases c:need=gt T m
 .rw[Ġ c]at a;rw[Ë c];unfold vn;generalize za z6=RR at e a ⊢;generalize pK z6=WW at e a ⊢;generalize ųc Įe=LL at e a ⊢;generalize zb T=TT at e a ⊢;generalize zb b=DD at e a ⊢;simp only[ß,e,a]
 .rw[Ŏ c]at a;rw[Ï c];have x:=z99 (σ:=vn z6 L T b Êc Ċe) (i:=4) (j:=m) (k:=z7 6) (v:=z7 7) (ds:=zb T) (y:=.int (need:Int)) rfl rfl rfl (by rw[Ii,þe];omega);rw[z15]at x;have x:QM 4 Øb ēd øn=À (.nx Ÿm):=x
  have z:=mh (σ:=vn z6 L Ęi b Êc Ċe) (i:=5) (f:=e2 zJ Ŋ Øb) (xs:=zb b) (ys:=zb (gl L m)) rfl (by show zJ Ām øp=_;exact F) (by rw[Ii,Ii];have:=u m;omega)
  rw[<-z14]at z;have z:VS 5 ŝo Ÿm=À (.nx (vn z6 L Ęi ĭq Êc Ċe)):=z
  have E:şh øn=À Â:=by unfold vn;generalize za z6=RR at e a ⊢;generalize pK z6=WW at e a ⊢;generalize ųc Įe=LL at e a ⊢;generalize zb T=TT at e a ⊢;generalize zb b=DD at e a ⊢;simp only[ß,e,a]
  show(şh _).bind _=_;rw[E];show zc _ _ _=_;rw[jr x,z]
theorem z1b{z6:Á D}(P:PC z6){L:Á ìc}(k:ïa=(è).length+1)(b:∀p,(íf).length<=2*(è).length)(g:∀p,p<=(è).length->∀j,j∈gl L p↔(j<(è).length/\p∈Wf z6 j)) :∀(M:Nat){T dl:Á Nat}{x6 x7:Æ ì},NI (è).length âe ãe áe T dl->(11*ģm-jt T)*ıi+dl.length<=M->M<=1000000->
   ∃T' y6 y7,NI (è).length âe ãe áe T' []/\pL T5 Tj (M+1) (vn z6 L T dl x6 x7)=À (.nx (vn z6 L T' [] y6 y7)):=by
 intro M
 induction M with
 |áa=>
  intro T dl x6 x7 N e _;have:dl=[]:=ėm Å;subst this;exact⟨T,x6,x7,N,eE rfl⟩
 |âa M ih=>
  intro T dl x6 x7 N e q;rcases çn dl with rfl|⟨dl',m,hdl⟩
  .exact⟨T,x6,x7,N,eE rfl⟩
  .rw[én]at hdl;subst hdl;have r:(Ÿe).length=dl'.length+1:=by rw[ä];rfl
   have d:m<(è).length:=N.dn m ĵj
   have h:T5 (vn z6 L T Ÿe x6 x7)=À Â:=by have:=AG (zb Ÿe);rw[show(zb Ÿe).isEmpty=Ä by rw[C9];cases zb dl'<;>rfl]at this;unfold T5 vn;generalize za z6=RR at this ⊢;generalize pK z6=WW at this ⊢;generalize ųc Įe=LL at this ⊢;generalize zb T=TT at this ⊢;generalize zb Ÿe=DD at this ⊢;simp only[ß,this]
   have f:=z1c P (x6:=x6) (x7:=x7) k b Å N;rw[y5q h f];by_cases c:rl ùd úd T ūb=gt T m
   .rw[Ë c];exact ih (z1k N c) Å Å
   .rw[Ï c];refine ih (z1j N (Vf P d).2 (g m Å)) ?_ Å;have v:=c_ (T:=T) (m:=m) (x:=rl ùd úd T ūb) Ďi;have t:=z4l (N.up m d) (bi (Vf P d).2 N.lt) Ďj;have i:=cz æj;rw[ŭ,þe]at i;have u:=b m;rw[ä];generalize jt æj=s' at *;generalize jt T=s at *;generalize (è).length=n at *;obtain⟨a,o⟩:∃a,11*Ĝ-s=a+1+Ĳq:=⟨11*Ĝ-s-1-Ĳq,by omega⟩;rw[o,óq,óq,Nat.one_mul]at e;have:0<=a*(2*n+2):=Ãa _;omega
def z1a{z6:Á D}(P:PC z6):∃T,NI (è).length âe ãe áe T []/\UZ Ũa=À (Â,.lst żb):=by
 have t:(è).length<=100:=ŏ Ĝr P.ln;have c:qr Ũa=À (Â,.lst è):=OF ĥd;have e:=y5m P;obtain⟨L,m,s,j,b⟩:=lh (n:=(è).length) (W:=Wf z6) t (λi r w h=>Mp r h) (h_ z6);have b:Wb [.lst ße]=À (Ä,.lst İd):=b
 have p:ůo*ıi+(Ĳe).length<=300000:=by rw[īa];have:ůo*ıi<=1111*202:=Nat.mul_le_mul Å Å;omega
 obtain⟨T,q,o,N,a⟩:=z1b P m j s 300000 (x6:=Ã) (x7:=Ã) z1l p Å;have a:=z7q (300000+1) a Ð;refine⟨T,N,?_⟩
 have f:V7 (.lst [.int 0]) (.int ((è).length:Nat))=À Ñp:=by
  show(if 0<=(((è).length:Nat):Int)/\(((è).length:Nat):Int)<=1000000/\([Ħ 0]).length*(((è).length:Nat):Int).toNat<=yD then À (ņb (į (((è).length:Nat):Int).toNat [Ħ 0]).flatten)else Ã)=_;rw[Ë ⟨by omega,by omega,by show 1*_<=16777216;omega⟩,ğ]
  congr 2
  unfold zb;rw[Ĥi];generalize (è).length=n
  induction n with
  |áa=>rfl|âa n ih=>rw[ğb,ğb,Êd,ih];rfl
 have d:TC Ñp (.lst [.int 2047])=À (Α (zb Ŀf)):=by show(if(zb Åi).length+1<=yD then _ else _)=_;rw[Ë (by rw[Ii,ħa];show _<=16777216;omega),C9];rfl
 have g:DK [.int ((è).length:Nat)]=À (Α (zb Ĳe)):=by show(if 0<=(((è).length:Nat):Int)/\(((è).length:Nat):Int)<=1000000 then À (ņb ((Ía (((è).length:Nat):Int).toNat).map λk:Nat=>Ħ k))else Ã)=_;rw[Ë ⟨by omega,by omega⟩,ğ];rfl
 have a:OG T5 Tj [À (Ä,.lst z6),À (Ä,.lst è),À (Ä,.lst ße),À (Ä,.lst İd),À (Â,.lst (zb Ŀf)),À (Â,.lst (zb Ĳe)),Ã,Ã]=À (.nx [À (Ä,.lst z6),À (Ä,.lst è),À (Ä,.lst ße),À (Ä,.lst İd),À (Â,.lst żb),À (Â,.lst (zb [])),q,o]):=a;rw[oO];unfold Bb;generalize zb T=TT at c e b f d g a ⊢;generalize zb Ĳe=DD at c e b f d g a ⊢;generalize zb Ŀf=T0 at c e b f d g a ⊢;generalize zb Åi=T1 at c e b f d g a ⊢;generalize zb []=DZ at c e b f d g a ⊢;generalize za z6=RR at c e b f d g a ⊢;generalize pK z6=WW at c e b f d g a ⊢;generalize ųc Įe=LL at c e b f d g a ⊢;simp only[ß,c,e,b,f,d,g,a]
def bU:FA:=(vQ Ğ Ťo)
def Fo:FS:=(zc (yF 5 (Ζb (zB (Θ Ťj (zB (e2 yc Ÿ Ìb) (Β Ðm))) (Β (Θ (eC (.str "copy")) (zB Ðm (zB (e2 yc Ÿ (eC (.int 8))) zH))))) (e2 yb ĥr Ÿ)))
    (yF 3 (e2 yb Ŋ (Εa (Θ Įk (Β (e2 zJ Ā Ÿ))) (zB ăd (Β (Θ Äf (zB (e2 zJ Ā (e2 pA Ÿ Ğ)) zH))))))))
def BP:FS:=
 (zc (yF 1 (ze Wl (Χb (.int 7))))
  (zc (yF 2 (e2 yb Ğ (e2 yc Ąi (eC (.int 6)))))
  (zc (yF 3 (Εa (Θ Äf (Β šo)) (zB (Θ Įk ķr) (Β (xX (zB (eC ób) zH))))))
  (zc (ge bU (yR 4)
   Fo)
  (yO Ŋ)))))
def Wh:Á D->Æ ì:=FR 1 6 BP
def oA(a:D):Wh [a]=yS 6 BP [a]:=rfl
theorem ab:∀{L:Á D}(s:Nat×Æ Nat),xK t∈L\/s.2.isSome=Â->(Ìg.2).isSome=Â
 | [],s,h=>îe ìo id|d::L,s,h=>by
  rw[òb];refine ab _ ?_;rcases h with h|h;rcases ę h with rfl|h;refine .inr ?_;have:Tz t âl=Â:=Īc t;unfold uG;rw[show yh âl=Â from rfl];dsimp only;rw[this];rfl;exact .inl h;refine .inr ?_;unfold uG;cases yh d with
  |Â=>
   dsimp only;cases Tz t d with
   |Â=>rfl|Ä=>exact h
  |Ä=>exact h
def ss{N:Á Str}(h:Śc):(áb xK).Nodup:=by
 induction N with
 |nil=>exact Şd|ù a N ih=>obtain⟨f,c⟩:=Ĺf h;refine ſf ⟨λz=>?_,ih c⟩;obtain⟨b,d,e⟩:=ħb z;exact f (Fv e▸d)
structure BW(N:Á Str)(mn k:Nat)(L:Á D):Prop where
 it:∀d∈L,vN d
 lb:òd yh=(N.take Ų).map xK
 tg:∀d∈L,uZ d=Â->∃j t,(j<=k\/j=mn)/\N[j]?=À t/\zJ d ůd=À øc
 ln:ïa<=3+3*k
def Ro(h:òc+üd<=1000):yb (.lst x) (.lst y)=À Čj:=by show(if òc+üd<=yD then _ else _)=_;rw[Ë ēe]
theorem iT{a:Int}(S:0<=a):∃z6 o,PC z6/\Ŭb<=60/\Wh [.int a]=À (o,.lst z6):=by
 obtain⟨N,I,X,_,K⟩:=AD S (Äc:=7) Å Å;have I:Ĺ=7:=I;obtain⟨c,q⟩:∃c:Nat,Ůr=(c:Nat):=⟨(Ůr).toNat,by omega⟩;have Y:c<=6:=by omega
 have u:∀{j:Nat}(h:j<7),zJ Ŏg Æj=À (.str (N[j]' Å)):=λ{j} h=>kJ Å (by rw[ğ,Œ,č Å];rfl)
 have F:bU ül=À ((Ía c).map λk:Nat=>.int (1+k)):=by show(if(1:Int).natAbs<=yD/\((c:Int)+1).natAbs<=yD/\(ųi).toNat<=yD then À ((Ía (ųi).toNat).map λk:Nat=>Ħ (1+k))else Ã)=_;rw[Ë ⟨by decide,by show _<=16777216;omega,by show _<=16777216;omega⟩,show(ųi).toNat=c by omega]
 have P:BW N c 0 [.tup [.str ŏa,.str (N[c]' Å)],xK İq,.tup Ŕe]:=by
  refine⟨λd e=>?_,?_,λd e l=>?_,æa _⟩;rcases ę e with rfl|h;exact .uU _;rcases ę h with rfl|h;exact .label _;cases Ķ h;exact .plain .stop
  rw[ęc (i:=0) Å];rfl;rcases ę e with rfl|h;exact⟨c,_,.inr rfl,č Å,rfl⟩;rcases ę h with rfl|h;cases l;cases Ķ h;cases l
 obtain⟨σ',e1,L,C,v,B,rfl⟩:=XE (g:=yR 4) (b:=Fo) (λk σ=>∃L C v,BW N c k L/\σ=[À (Ä,.int a),À (Ä,.lst Řa),À (Ä,.int (c:Int)),À (Ä,.lst L),C,v]) (ds:=(Ía c).map λk:Nat=>.int (1+k))
  (σ:=ül) 0
  ⟨_,Ã,Ã,P,rfl⟩ (by
  rintro k d σ e ⟨L,C,v,B,rfl⟩;rw[ń]at *
  have T:k<c:=by have:=Ăf.1;simpa using this
  rw[Œ,īe T]at e;cases e
  obtain⟨r,A,J⟩:∃r,qx r/\zJ (.lst [.tup [.str ĥa,.int (Ŗd%8),.int ýp],.tup [.str ĵa,.int ýp,.int (Ŗd%8)]]) (Ε (ŀj%2))=À r:=by rcases(show ŀj%2=0\/ŀj%2=1 by omega)with h|h;rw[h];exact⟨_,.two ê Å Å Å Å,rfl⟩;rw[h];exact⟨_,.two ê Å Å Å Å,rfl⟩
  have n:=u (j:=k+1) Å;have s:=u (j:=k) Å;have O:((k+1:Nat):Int)=1+(k:Int):=by omega
  have H:Ŗd-1=(k:Int):=by omega
  rw[O]at n;have G:=Ro (x:=L) (y:=[xK Ňp,r,.tup Ķm]) (by have:=B.ln;show _+3<=_;omega);have Q:yh r=Ä:=(QF (m:=0) (.inl A)).choose_spec.2.2.1;have l:uZ r=Ä:=(Q4 A).choose_spec.2.2.2.1;refine⟨_,[À (Ä,.int a),À (Ä,.lst Řa),À (Ä,.int (c:Int)),À (Ä,.lst (L++[xK Ňp,r,.tup Ķm])),À (Ä,.int Ŗd),À (Ä,r)],rfl,.inl ?_,_,_,_,⟨λd e=>?_,?_,λd e f=>?_,?_⟩,rfl⟩
  .unfold Fo;unfold xK at *;generalize áb Ŀa=NN at J n H s G ⊢;simp only[ß,ċa,J,n,H,s,G]
  .rcases Ïa e with h|h
   .exact B.it d h
   .rcases ę h with rfl|h
    .exact .label _
    .rcases ę h with rfl|h
     .exact .plain A
     .cases Ķ h;exact .uU _
  .rw[Èd,B.lb,ęc (i:=k+1) Å,ža]
   congr 1
   rw[Ļd rfl,ļd (by rw[Q];decide),ļd (by show ¬ (Ä=Â);decide)];rfl
  .rcases Ïa e with h|h
   .obtain⟨j,t,R,z,w⟩:=B.tg d h f;exact⟨j,t,by omega,z,w⟩
   .rcases ę h with rfl|h
    .cases f
    .rcases ę h with rfl|h
     .rw[l]at f;cases f
     .cases Ķ h;exact⟨k,_,by omega,č Å,rfl⟩
  .rw[ä];have:=B.ln;show _+3<=_;omega)
 simp only[é,īa,ń]at B
 have E:∀{j:Nat}{t:Str},j<=c->N[j]?=À t->∃p,öc.2=À p:=λ{j t} l U=>by
  have:xK t∈òd yh:=by rw[B.lb];exact Ői ⟨t,Áa (i:=j) (by rw[ĥi,Ë Å];exact U),rfl⟩
  exact ıd (ab (0,Ã) (.inl (Çd this).1))
 refine⟨L,Ä,⟨B.it,by rw[B.lb];exact ss (X.sublist Ük),λd e l=>?_,by have:=B.ln;omega⟩,by have:=B.ln;omega,?_⟩;obtain⟨j,t,R,z,w⟩:=B.tg d e l;obtain⟨p,W⟩:=E Å z;exact⟨t,p,w,W⟩;have n:=u (j:=c) Å;have s:zJ Ŏg Úa=À (.str İq):=u (j:=0) Å;rw[oA];unfold BP;unfold xK at F e1;generalize áb Ŀa=NN at K q n s F e1 ⊢;simp only[ß,K,ċa,q,n,s,F,e1]
def Fp:FS:=(zc (yF 4 (ζb (e2 yb Ā Ŋ)))
    (Zy 2 Yy (e2 zJ (Εa (e2 yc Ÿ Üh) (zB (e2 yc Ÿ Ĭc) (zB (e2 pA (eC (.int 4294967295)) (e2 yc Ŧo Ĭc)) (Β (e2 yc Ŧo (eC (.int 70000))))))) (e2 yc Ÿ Ńe))))
def BV:FS:=
 (zc (gf 2 Ąf)
  (zc (ge Ŷp Ĕd
   Fp)
  (jp 2)))
def Wm:Á D->Æ ì:=FR 2 5 BV
def oH(a x1:D):Wm ė=yS 5 BV ė:=rfl
def be{ns:Á Int}(z:Ŝ<=63)(u:∀m∈ns,wy m<=1048576){f:Int}(C:0<=f)(f1:f<=40):∃W:Á Int,Wm [.lst Ła,.int f]=À (Â,.lst Äe)/\Ìh=8/\∀w∈W,0<=w/\w<4294967296:=by
 have x:∀τ:zy,vQ Ď Ìb τ=À ėf:=λτ=>kq (n:=8) rfl Ð
 obtain⟨σ',e1,W,l,e,c,j,rfl⟩:=XE (g:=yR 3) (b:=Fp) (λi σ=>∃(W:Á Int) (l e:Æ Sl),Ìh=i/\(∀w∈W,0<=w/\w<4294967296)/\σ=[À (Ä,.lst Ła),À (Ä,.int f),À (Â,.lst Äe),l,e])
  (ds:=wT 8) (σ:=[À (Ä,.lst Ła),À (Ä,.int f),À (Â,.lst []),Ã,Ã]) 0 ⟨[],Ã,Ã,rfl,λ_ h=>Û h ê,rfl⟩ λi d σ r t=>by
   obtain⟨W,l,e,c,j,rfl⟩:=t;rw[ń]at c ⊢;obtain⟨B,rfl⟩:=Qg r;obtain⟨m,E,F,p⟩:=XF z u (k:=f+(i:Int)) Å Å
   obtain⟨v,q,A,y⟩:∃v:Int,zJ (.lst [.int (m%4294967296),.int (m%3),.int (4294967295-m/4%3),.int (m/4%70000)]) (Ε (m%4))=À Ŗc/\0<=v/\v<4294967296:=by rcases(show m%4=0\/m%4=1\/m%4=2\/m%4=3 by omega)with h|h|h|h<;>rw[h]<;>exact⟨_,rfl,by omega,by omega⟩
   have o:Yy ŧg Ŗc=À (Α Ĵp):=by show(if(Äe).length<yD then À (ņb (wI W++[_]))else Ã)=_;rw[Ë (by rw[qh];show _<16777216;omega)];unfold wI;rw[ža];rfl
   refine⟨_,[À (Ä,.lst Ła),À (Ä,.int f),À (Â,.lst Ĵp),À (Ä,.int (i:Int)),À (Ä,.int m)],rfl,.inl ?_,W++[v],_,_,by rw[ä,c];rfl,λw a=>?_,rfl⟩;unfold Fp;generalize Ŏa Ħ=NS at p q o ⊢;simp only[ß,ċa,p,q,o];rcases Ïa a with a|a;exact j w a;cases Ķ a;exact⟨A,y⟩
 have s:(ėf).length=8:=by rw[é,īa]
 rw[ń,s]at c;refine⟨W,?_,c,j⟩;rw[oH];unfold BV;simp only[ß,x,e1]
theorem z5t{r:D}(h:qx r):py r\/r=.tup Ŕe:=by
 cases h with
 |Ŕa=>exact .inr rfl|UG hw d0 d1 n0 n1=>obtain⟨d,rfl⟩:=ŗa d0;rcases hw with rfl|rfl;exact .inl (.set Å n0 n1);exact .inl (.high Å n0 n1)
 |two hw d0 d1 s0 s1=>
  obtain⟨d,rfl⟩:=ŗa d0;obtain⟨s,rfl⟩:=ŗa s0;have b:d<8:=by omega
  have a:s<8:=by omega
  rcases hw with rfl|rfl|rfl|rfl|rfl|rfl|rfl|rfl|rfl;exact .inl (.copy b a);exact .inl (.sum .add b a);exact .inl (.sum .addc b a);exact .inl (.sum .sub b a);exact .inl (.sum .subc b a);exact .inl (.bits .and b a);exact .inl (.bits .or b a);exact .inl (.bits .xor b a);exact .inl (.sum .test b a)
 |UH hw d0 d1 n0 n1=>obtain⟨d,rfl⟩:=ŗa d0;obtain⟨n,rfl⟩:=ŗa n0;rcases hw with rfl|rfl;exact .inl (.left Å Å);exact .inl (.right Å Å)
 |mem hw d0 d1 s0 s1 n0 n1=>
  obtain⟨d,rfl⟩:=ŗa d0;obtain⟨s,rfl⟩:=ŗa s0;have b:d<8:=by omega
  have a:s<8:=by omega
  rcases hw with rfl|rfl|rfl|rfl;exact .inl (.mem .load b a n0 n1);exact .inl (.mem .store b a n0 n1);exact .inl (.mem .loadw b a n0 n1);exact .inl (.mem .storew b a n0 n1)
def Xo{w v:Str}{x:Á D}(h:w≠v):¬ wd (.tup (.str w::x))=v:=h
def y5p(h:py r):¬ wd r = êe/\uZ r=Ä:=by
 cases h with
 |sum h=>cases h<;>exact⟨Xo Ð,rfl⟩|bits h=>cases h<;>exact⟨Xo Ð,rfl⟩|mem h=>cases h<;>exact⟨Xo Ð,rfl⟩|_=>exact⟨Xo Ð,rfl⟩
def y0t{T fw fh:D}{e due done:Int}{s:M}(h:vX Ŋf=À (Ä,.bl Â)):ww Üi=À (Üi,.fz û):=by
 have a:∀τ:zy,xW Ú ñc ý zH Ŝl=À Ŋf:=λτ=>ZV RL ãa rfl
 rw[SC];unfold Jh;simp only[ē,Y7,a,h]
theorem D8{r:D}{a:M}{w:Str}(b:zJ r Úa=À Ř)(c:Yz p8 Ř=À û):qp čr=À (čr,.fz .zK):=by rw[Df];unfold Uz;simp only[ē,b,c]
theorem z6e(t:Str):qO [.tup [.str ŏa,.str t]]=À (Ä,.int 0):=by kernel_rfl
def z6d{w k:Str}(t:Str)(a:w = ĉa \/ w = Ąa)(hk:k = ía \/ k = ěa \/ k = Ĵa):qO [.tup Ķf]=À (Ä,.int 0):=by rcases a with rfl|rfl<;>rcases hk with rfl|rfl|rfl<;>kernel_rfl
def y55:uK [.tup Ŕe]=À (Ä,.int 2047):=by kernel_rfl
def y54{w:Str}(t:Str)(a:w = ĉa \/ w = Ąa):uK [.tup [.str w,.str ía,.str t]]=À (Ä,.int 256)/\uK [.tup [.str w,.str ěa,.str t]]=À (Ä,.int 512)/\uK [.tup [.str w,.str Ĵa,.str t]]=À (Ä,.int 1024):=by rcases a with rfl|rfl<;>exact⟨by kernel_rfl,by kernel_rfl,by kernel_rfl⟩
def Zq{o:Æ ì}{n m:Nat}(h:o=À (Ä,.int (n:Int)))(g:o=À (Ä,.int (m:Int))):n=m:=by
 have:=Ŗp g;injection this with this
 injection this with _ this
 injection this with this
 omega
def ZR(z6:Á D)(T:D):Prop:=∀i:Nat,i<(è).length->zJ T Ún=À (.tup [wM z6 i,.int ġi,ub ((Ľj).map (·+1))])
structure W8(Ws:Á Int):Prop where
 l:ņa=8
 h:∀w∈Ws,0<=w/\w<4294967296
structure Lv(m:Nat)(Ws1 Ws2:Á Int)(a1 b1 c1 a2 b2 c2:Í):Prop where
 w:∀k,k<8->śg k=Â->Ws1[k]?=Ws2[k]?
 a:śg 8=Â->a1=a2
 b:śg 9=Â->b1=b2
 c:śg 10=Â->c1=c2
section
variable{z6:Á D}{T fw fh:D}{Ws Ws':Á Int}{a b c a' b' c':Í}{ps ps':Á Ĥ}{i i':Nat}{j:Int}
abbrev wt(z6:Á D)(T fw fh:D)(Ws:Á Int)(a b c:Í)(ps:Á Ĥ)(i:Nat)(j:Int):M:=xR T (((è).length+1:Nat):Int) fw fh (st Ī a b c Ĩ ŕ) ((i+1:Nat):Int) j
abbrev Yv(z6:Á D)(T fw fh:D)(Ws:Á Int)(a b c:Í)(ps:Á Ĥ)(i:Nat)(j:Int):D:=xC T (((è).length+1:Nat):Int) fw fh ńf ((i+1:Nat):Int) j
def IE(t:ZR z6 T)(hi:i<(è).length)(ld:Í)(s:zg Ĝa ìb=À û)(h:wS Ĝa=Â)(g:qp [st Ī a b c Ĩ ŕ,.fz Ĝa]=À ([st (wI Ws') a' b' c' īk Ģk,.fz Ĝa],.fz .zK))(l:qq [uO (wI Ws') a' b' c' īk Ģk,wM z6 i]=À (Ä,.bl ld))(g1:ld=Â->v7 z6 Ĝa=À i')(g2:ld=Ä->i'=i+1) :vX źh=À (Ä,.bl Ä)/\ww Źh=À ([wt z6 T fw fh Ws' a' b' c' ps' i' Ëa],.fz ĸ):=by
 have d:((i+1:Nat):Int)≠(((è).length+1:Nat):Int):=by omega
 refine⟨?_,?_⟩
 .rcases Gw (fw:=fw) (fh:=fh) (sd:=uO Ī a b c Ĩ ŕ) (e:=(((è).length+1:Nat):Int)) (due:=((i+1:Nat):Int)) (done:=j) (k:=Ä) (λ_=>⟨t i hi,s⟩)with z|⟨z,_⟩;rw[z,Ŏ d];rfl;exact Û z d
 have f:∀x:Æ Nat,wS (ub x)=Â:=λx=>by cases x<;>rfl
 refine cg d (t i hi) s ?_ uf g ld (by rw[wv];exact l) ?_;show(wS Ĝa&&(Â&&(wS (ub _)&&Â)))=Â;rw[h,f];rfl;cases ld with
 |Â=>rw[g1 rfl];rfl|Ä=>obtain rfl:=g2 rfl;exact ů Ħ Å
def no1(h:i<(è).length->zJ T Ún=À (.tup [.tup Ŕe,.int ġi,.zK]))(hi:i<=(è).length) :vX źh=À (Ä,.bl Â)/\ww Źh=À (Źh,.fz û):=by
 have e:vX źh=À (Ä,.bl Â):=by rcases Gw (T:=T) (fw:=fw) (fh:=fh) (sd:=uO Ī a b c Ĩ ŕ) (row:=.tup Ŕe) (nx:=.int ġi) (tg:=.zK) (e:=(((è).length+1:Nat):Int)) (due:=((i+1:Nat):Int)) (done:=j) (k:=Â) (λz=>⟨h Å,rfl⟩)with z|⟨_,z⟩;rw[z,ţp];exact z
 exact⟨e,y0t (by rw[wv];exact e)⟩
omit a
inductive Mg(z6:Á D)(T:Á Nat)(T1 T2 f1 f2 g1 g2:D)(Ws1 Ws2:Á Int)(a1 b1 c1 a2 b2 c2:Í)(ps:Á Ĥ)(i:Nat)(j1 j2:Int):Prop
 |no (all:∀k,k<11->(Ĺb).testBit k=Â) (s1:vX Çm=À (Ä,.bl Â)) (s2:vX Æm=À (Ä,.bl Â))
   (e1:ww Ũh=À (Ũh,.fz û)) (e2:ww ŧh=À (ŧh,.fz û))
 |go {Ws1' Ws2':Á Int} {a1' b1' c1' a2' b2' c2':Í} {ps':Á Ĥ} {i':Nat} (w1:W8 Ws1') (w2:W8 Ws2') (p:gE ps') (l:łq<=Ē+4) (hi:i'<=(è).length) (A:Lv Şr Ws1' Ws2' a1' b1' c1' a2' b2' c2')
   (s1:vX Çm=À (Ä,.bl Ä)) (s2:vX Æm=À (Ä,.bl Ä))
   (e1:ww Ũh=À ([wt z6 T1 f1 g1 Ws1' a1' b1' c1' ps' i' (j1+1)],.fz ĸ)) (e2:ww ŧh=À ([wt z6 T2 f2 g2 Ws2' a2' b2' c2' ps' i' (j2+1)],.fz ĸ))
theorem öh(h:W8 Ws)(a:0<=x)(x1:x<4294967296):W8 Ļp:=by
 cases o with
 |Ã=>exact h|À d=>refine⟨by show(Ũc d x).length=8;rw[ŭ];exact h.l,λw b=>?_⟩;rcases Ùi b with z|rfl;exact h.h w z;exact⟨a,x1⟩
def az(h:k<ņa):(putO (À k) x Ws)[k]?=À x:=by show(Ũc k x)[k]?=_;rw[Ŧf h]
theorem aw(h:o≠À k):Ļp[k]?=Ws[k]?:=by
 cases o with
 |Ã=>rfl|À d=>exact Ųf λe=>h (ů À e)
section
variable{z6:Á D}{T:Á Nat}(P:PC z6)(N:NI (è).length âe ãe áe T [])
include N in
theorem V0{i k:Nat}(hi:i<(è).length)(h:(Uf z6 i).testBit k=Â):(Ĺb).testBit k=Â:=by rw[N.fx i hi ê];exact(òp).mpr Ŷb
include N in
theorem Pk{i w k:Nat}(hi:i<(è).length)(a:w∈Wf z6 i)(h:(Ïe).testBit k=Â)(p:(ůg).testBit k=Ä):(Ĺb).testBit k=Â:=by rw[N.fx i hi ê];exact(òp).mpr (.inr ⟨⟨w,a,h⟩,p⟩)
def eD{i:Nat}(hi:i<(è).length):Wf z6 i=gu Ĝa i Ľj:=by unfold Wf;rw[QH hi]
variable{T1 T2 f1 f2 g1 g2:D}(t1:ZR z6 T1)(t2:ZR z6 T2){Ws1 Ws2:Á Int}{a1 b1 c1 a2 b2 c2:Í}{ps:Á Ĥ}{i:Nat}{j1 j2:Int}(w1:W8 Ws1)(w2:W8 Ws2)(Q:gE ps)(hl:Ē<=800)(A:Lv Ĺb Ws1 Ws2 a1 b1 c1 a2 b2 c2)
include P N t1 t2 w1 w2 Q hl A in
theorem z1g(hi:i<(è).length)(h:py Ĝa):Mg z6 T T1 T2 f1 f2 g1 g2 Ws1 Ws2 a1 b1 c1 a2 b2 c2 ps i j1 j2:=by
 obtain⟨R,o,pc,pn,Z,E⟩:=mT h;obtain⟨U,Pt,f⟩:=E.up;obtain rfl:=Zq f.u Ŧr.1;obtain rfl:=Zq f.p (Ce P hi).1;obtain⟨w3,w4⟩:=y5p h
 have t:i+1∈Wf z6 i:=by rw[eD hi];unfold gu v7;rw[Ï w3,w4];exact ĵ
 have H:∀k,(Ŷq).testBit k=Â->(ůg).testBit k=Ä->(Ĺb).testBit k=Â:=λk h1 Y=>Pk N hi t h1 Y
 let V:Nat->Int:=λk=>Ws1.getD k 0
 have v:∀k,k<8->Ws1[k]?=À (V k):=λk e=>by show _=À (Ws1.getD k 0);rw[Ŵ,č ýn];rfl
 have v2:∀k,k<8->0<=V k/\V k<4294967296:=λk e=>w1.h _ (Áa (v k e))
 have S:∀k∈R,Ws2[k]?=À (V k):=λk e=>by rw[<-A.w k Ůj (V0 N hi (f.r k e))];exact v k Ůj
 obtain⟨w,K,J,I,O,C,G⟩:=E.ef V ps v2 Q hl
 have d:w a1=w a2/\K a1=K a2/\J a1=J a2/\I a1=I a2:=by
  cases z:Z with
  |Ä=>exact C z a1 a2|Â=>have:=A.a (V0 N hi (E.cu z _ Ŧr.1));rw[this];exact⟨rfl,rfl,rfl,rfl⟩
 have g:=G a1 b1 c1;have q:=G a2 b2 c2;have d1:=g.dr Ws1 w1.l λk e=>v k Ůj
 have d2:=q.dr Ws2 w2.l S;obtain⟨q1,X⟩:=IE (fw:=f1) (fh:=g1) (j:=j1) (i':=i+1) t1 hi Ä E.st E.tp d1 (E.ld _) nofun λ_=>rfl
 obtain⟨q3,L⟩:=IE (fw:=f2) (fh:=g2) (j:=j2) (i':=i+1) t2 hi Ä E.st E.tp d2 (E.ld _) nofun λ_=>rfl
 have B:∀{m:Í}{F:Í->Í}{k:Nat}{x y:Í},(ůg).testBit k=m->F a1=F a2->((Ĺb).testBit k=Â->x=y)->(Ŷq).testBit k=Â->êa m (F a1) x=êa m (F a2) y:=λ{m F k x y} e1 e2 W e4=>by
  cases m with
  |Â=>exact e2|Ä=>exact W (H k e4 e1)
 refine .go (öh w1 g.w0 g.w1) (öh w2 q.w0 q.w1) g.P g.l Å ⟨λk e z=>?_,λz=>?_,λz=>?_,λz=>?_⟩ q1 q3 X L;by_cases c:o=À k;subst c;rw[az ýn,az (by rw[w2.l];exact e),d.1];rw[aw c,aw c];exact A.w k e (H k z (by rw[f.o k e];exact Ŏ c));exact B f.c d.2.1 A.a z;exact B f.n d.2.2.1 A.b z;exact B f.s d.2.2.2 A.c z
include P N t1 t2 w1 w2 Q hl A in
theorem AH(hi:i<=(è).length):Mg z6 T T1 T2 f1 f2 g1 g2 Ws1 Ws2 a1 b1 c1 a2 b2 c2 ps i j1 j2:=by
 have Z:∀k,k<11->(2047:Nat).testBit k=Â:=by decide
 by_cases z:i=(è).length;subst z;obtain⟨F,u⟩:=no1 (T:=T1) (fw:=f1) (fh:=g1) (Ws:=Ws1) (a:=a1) (b:=b1) (c:=c1) (ps:=ps) (j:=j1) ĝo hi;obtain⟨E,o⟩:=no1 (T:=T2) (fw:=f2) (fh:=g2) (Ws:=Ws2) (a:=a2) (b:=b2) (c:=c2) (ps:=ps) (j:=j2) ĝo hi;exact .no (λk l=>by rw[Öl];exact Z k l) F E u o;have f:i<(è).length:=by omega
 obtain⟨it,nl⟩:=QJ P f
 have I:∀{ld:Í}{i':Nat},ůg=0->i'∈Wf z6 i->i'<=(è).length->zg Ĝa ìb=À û->wS Ĝa=Â->(∀m,qp ąq=À (ąq,.fz .zK))->
   qq [uO ţj a1 b1 c1 Ĩ ŕ,wM z6 i]=À (Ä,.bl ld)->qq [uO (wI Ws2) a2 b2 c2 Ĩ ŕ,wM z6 i]=À (Ä,.bl ld)->(ld=Â->v7 z6 Ĝa=À i')->(ld=Ä->i'=i+1)->Mg z6 T T1 T2 f1 f2 g1 g2 Ws1 Ws2 a1 b1 c1 a2 b2 c2 ps i j1 j2:=λ{ld i'} h0 g K s U O l1 l2 Y X=>by
  obtain⟨F,u⟩:=IE (fw:=f1) (fh:=g1) (j:=j1) t1 f ld s U (O _) l1 Y X;obtain⟨E,o⟩:=IE (fw:=f2) (fh:=g2) (j:=j2) t2 f ld s U (O _) l2 Y X;have H:∀k,(Şr).testBit k=Â->(Ĺb).testBit k=Â:=λk h=>Pk N f g h (by rw[h0,ŀe])
  exact .go w1 w2 Q Å K ⟨λk l h=>A.w k l (H k h),λh=>A.a żk,λh=>A.b żk,λh=>A.c żk⟩ F E u o
 have G:=(Vf P f).1;have W:=(Ce P f).1;have wf:=eD f;have S:=dH P (Çd (Áa (QH f))).1;have C:∀w∈Wf z6 i,w<=(è).length:=λw g=>Mp f g
 have q:=t1 i f;have v:=t2 i f;have L:=z1g (f1:=f1) (f2:=f2) (g1:=g1) (g2:=g2) (j1:=j1) (j2:=j2) P N t1 t2 w1 w2 Q hl A f;generalize wM z6 i=r at *;cases it with
 |Čc t=>cases nl|Ŵa h=>rcases z5t h with h|rfl;exact L h;have e:Uf z6 i=2047:=Zq G y55;obtain⟨F,u⟩:=no1 (T:=T1) (fw:=f1) (fh:=g1) (Ws:=Ws1) (a:=a1) (b:=b1) (c:=c1) (ps:=ps) (j:=j1) (λ_=>q) hi;obtain⟨E,o⟩:=no1 (T:=T2) (fw:=f2) (fh:=g2) (Ws:=Ws2) (a:=a2) (b:=b2) (c:=c2) (ps:=ps) (j:=j2) (λ_=>v) hi;exact .no (λk l=>V0 N f (by rw[e];exact Z k l)) F E u o
 |uU t=>
  have e:Pf z6 i=0:=Zq W (z6e t);obtain⟨p,B⟩:=ıd S.1
  have n:p∈Wf z6 i:=by rw[wf];unfold gu;rw[Ï (Xo Ð),B];exact ĵ
  exact I (ld:=Â) (i':=p) e n (C p n) rfl rfl (λm=>D8 (w := ŏa) rfl rfl) rfl rfl (λ_=>B) nofun
 |@cond w k t g l=>
  have e:Pf z6 i=0:=Zq W (z6d t g l);obtain⟨p,B⟩:=ıd (show(v7 z6 ţe).isSome=Â by rw[S.1];rcases g with rfl|rfl<;>rfl)
  have J:∀(x y:Nat),x∈two x y/\y∈two x y:=λx y=>by
   unfold two
   split;rename_i z;exact⟨ĵ,z▸ĵ⟩;split<;>simp
  have n:i+1∈Wf z6 i/\p∈Wf z6 i:=by rw[wf];unfold gu;rw[Ï Ÿl,B];show i+1∈Îm/\p∈Îm;rw[Ï Ÿl];exact J _ _
  obtain⟨u1,u2,u3⟩:=y54 t g
  obtain⟨ld,R,m2⟩:∃ld:Í,qq [uO ţj a1 b1 c1 Ĩ ŕ,.tup Ķf]=À (Ä,.bl ld)/\qq [uO (wI Ws2) a2 b2 c2 Ĩ ŕ,.tup Ķf]=À (Ä,.bl ld):=by rcases l with rfl|rfl|rfl;obtain rfl:=A.a (V0 N f (by rw[Zq G u1];decide));rcases g with rfl|rfl<;>exact⟨_,rfl,rfl⟩;obtain rfl:=A.b (V0 N f (by rw[Zq G u2];decide));rcases g with rfl|rfl<;>exact⟨_,rfl,rfl⟩;obtain rfl:=A.c (V0 N f (by rw[Zq G u3];decide));rcases g with rfl|rfl<;>exact⟨_,rfl,rfl⟩
  have d:∀m,qp Ąq=À (Ąq,.fz .zK):=λm=>by rcases g with rfl|rfl;exact D8 (w := ĉa) rfl rfl;exact D8 (w := Ąa) rfl rfl
  have s:zg ţe ìb=À û:=by rcases g with rfl|rfl<;>rfl
  cases ld with
  |Â=>exact I (ld:=Â) (i':=p) e n.2 (C p n.2) s rfl d R m2 (λ_=>B) nofun|Ä=>exact I (ld:=Ä) (i':=i+1) e n.1 Å s rfl d R m2 nofun λ_=>rfl
omit a
def HW:FE:=(xX (zB Ā (Β Űi)))
def Hd:FT:=(tE (e2 wK Űi Ď))
def Bc:FS:=
 (uv (vy 1 (uq (eL DM Òc)) đb Hd HW))
def Ua:Á D->Æ ì:=FR 1 1 Bc
def oP(a:D):Ua [a]=yS 1 Bc [a]:=rfl
def Mz:FS:=
 (uv (eL Y_ (Β (e1 Ųp Ťf))))
def jW:Á D->Æ ì:=FR 1 1 Mz
def nK(a:D):jW [a]=yS 1 Mz [a]:=rfl
def Oj:FE:=(e2 zJ (e1 (xM [İ] ûb) Ťf) Ā)
def Mv:FS:=
 (Νd (vy 1 Ÿp đb wE Oj))
def qo:Á D->Æ ì:=FR 1 1 Mv
def nH(a:D):qo [a]=yS 1 Mv [a]:=rfl
def Mw:FS:=
 (uv (vY Ua (Β (e1 (xM Ęj ąa) Ťf))))
def kB:Á D->Æ ì:=FR 1 1 Mw
def nI(a:D):kB [a]=yS 1 Mw [a]:=rfl
def Mx:FS:=
 (yO Ůh)
def YZ:Á D->Æ ì:=FR 1 1 Mx
def nJ(a:D):YZ [a]=yS 1 Mx [a]:=rfl
noncomputable def Y9:Á Ĥ->Int->Int
 | [],_=>0|p::ps,a=>if p.1=a then p.2 else Y9 ps a
theorem Ry{a:Int}:∀{ps:Á Ĥ},a∈Ďa (·.1)->ą Ĩ ŕ Ĵb=À ŉo
 | [],h=>Û h ê|p::ps,h=>by show ą (.inl p.1::kP ps) (.int p.2::vP ps) Ĵb=_;unfold ą Y9;by_cases c:p.1=a;rw[Ë (ů Ş c),Ë c];rw[Ï (λz=>c (Ûd z)),Ï c];rw[Ŗ]at h;exact Ry ëm
def rq(h:a∈Ďa (·.1)):zJ ĕe (.int a)=À ŉo:=by show(ur (.int a)).bind _=_;exact Ry h
def åb(ps:Á Ĥ):Á Int:=L2.isort (Ďa (·.1))
def Tt(ps:Á Ĥ):Á D:=((åb ps).filter λa=>decide ńp).map λa=>.tup ųm
theorem z0o(h:a∈åb ps):a∈Ďa (·.1):=(L2.isort_perm (Ďa (·.1))).mem_iff.mp h
theorem Sj:∀(ps:Á Ĥ),VC Ĩ=À (Ďa (·.1))
 | []=>rfl|p::ps=>by show(VC Ĩ).bind _=_;rw[Sj ps];rfl
def z05(p:Int->Í)(v:Int->D)(h:∀n∈ns,∃σ1,g óf σ=À σ1/\c σ1=À (p n)/\(p n=Â->e σ1=À (v n))):w6 g c e σ Þe=À ((ns.filter p).map v):=by
 induction ns with
 |nil=>rfl|ù n ns ih=>
  obtain⟨σ1,e1,e2,b⟩:=h n ĵ;have a:=ih λm d=>h m ļr
  show w6 g c e σ (.int n::wI ns)=_;cases q:p n with
  |Â=>rw[q]at e2;simp only[w6,e1,Ùc,e2,b q,a,đo,q,ŋ,Ŗ]|Ä=>rw[q]at e2;simp only[w6,e1,Ùc,e2,a,đo,q,Œb,Õa]
theorem z16:wK ða Úa=À (θa (i≠0)):=by
 show À (ŷc (!(i==0)))=_
 congr 2
 by_cases c:i=0;subst c;rfl;rw[Ġ c];have:(i==0)=Ä:=by simpa using c
 rw[this];rfl
def z4i{ps:Á Ĥ}:Ua Ìp=À (Â,.lst Ïh):=by
 have e1:DM Ìp=À (Α ĳp):=by show(VC Ĩ).bind _=_;rw[Sj];rfl
 have e2:w6 đb Hd HW [À (Ä,.dic Ĩ ŕ),Ã] ĳp=À Ïh:=z05 (λa=>decide ńp) (λa=>.tup ųm) λn c=>by have b:=rq (z0o c);refine⟨_,rfl,?_,λ_=>?_⟩;unfold Hd;simp only[ß,b,z16];unfold HW;simp only[ß,b]
 rw[oP];unfold Bc;simp only[ß,e1,e2]
section
variable{T fw fh:D}{e due done:Int}{Ws:Á Int}{a b c:Í}{ps:Á Ĥ}
def z7c:jW Êi=À (Â,.lst Ī):=by have d:Y_ Ŀg=À İa:=rfl;rw[nK];unfold Mz;simp only[ß,TL,pB,d]
theorem C4:qo Êi=À (Ä,.tup Ņd):=by
 have e1:w6 đb wE Oj [À (Ä,xC T e fw fh ńf due done),Ã] TU=À Ņd:=by
  have h:∀m:Str,Oj [À (Ä,xC T e fw fh ńf due done),À (Ä,.str m)]=zJ Ŷd (.str m):=λm=>by unfold Oj;simp only[ß,TL,DQ]
  unfold TU;simp only[w6,yR,wE,Ùc,Çg,Æg,h,HI,y2j,y2k]
 have e2:TJ [.lst Ņd]=À (.tup Ņd):=rfl;rw[nH];unfold Mv VA;simp only[ß,e1,e2]
theorem Ih:kB Êi=À (Â,.lst Ïh):=by rw[nI];unfold Mw;simp only[ß,TL,DP,z4i]
theorem z5r{sd:D}:YZ Ïi=À (Ä,.int due):=by rw[nJ];unfold Mx;simp only[ß,TK]
omit a
def BQ:yQ:=
 (yT (uF 5 (Jo Ú ZI įf (wp (e2 yb (wC Ųd) ý) Ġq)))
  (yT (uF 6 (Jo Ú ZI įf (wp (e2 yb (wC Ïf) ý) ğq)))
  (yT (tL (j3 Ú ľb 5 [] ww wq))
  (yT (tL (j3 Ú ľb 6 [] ww wq))
  (qW (By (V3 (Yt 5) (V3 (Yt 6) T7))))))))
def Wi:FM:=vW 5 7 BQ
def oB(a x1 x2 x3 x4:M):Wi ïg=wN 5 7 BQ ïg:=rfl
theorem aT(t:Str):∀(L:Á D)(m:Nat)(o:Æ Nat),L.foldl (uG t) (m+1,o.map (·+1))=(Ùn.1+1,Ùn.2.map (·+1))
 | [],_,_=>rfl|d::L,m,o=>by
  have e:uG t (m+1,o.map (·+1)) d=(áp.1+1,áp.2.map (·+1)):=by
   unfold uG;cases yh d with
   |Ä=>rfl|Â=>cases Tz t d<;>rfl
  rw[òb,òb,e];exact aT t L _ _
section
variable{z6:Á D}{r0:D}(h:qx r0)
include h
theorem Ff:yh r0=Ä:=(QF (m:=0) Ŷb).choose_spec.2.2.1
theorem Sa:uZ r0=Ä:=(Q4 h).choose_spec.2.2.2.1
theorem aV(t:Str):(vR t Ĵc).2=Ñf.2.map (·+1):=by unfold vR;rw[òb,show uG t (0,Ã) r0=(0+1,(Ã:Æ Nat).map (·+1)) by unfold uG;rw[Ff h];rfl,aT]
theorem y20(r:D):v7 Ĵc r=(Ŭd).map (·+1):=by
 unfold v7;cases uZ r with
 |Ä=>rfl|Â=>exact aV h _
theorem OE:za Ĵc=r0::za z6:=Ļd (by rw[Ff h];rfl)
theorem z4j(P:PC z6)(c:Ŭb<=60):PC Ĵc:=by refine⟨λd a=>?_,?_,λd a b=>?_,by rw[Ă];omega⟩;rcases ę a with rfl|a;exact .plain h;exact ĥd d a;rw[ļd (by rw[Ff h];decide)];exact P.nd;rcases ę a with rfl|a;rw[Sa h]at b;cases b;obtain⟨t,p,e1,e2⟩:=P.tg d a b;exact⟨t,p+1,e1,by rw[aV h,e2];rfl⟩
abbrev vV(r0:D)(z6:Á D):D:=.dic (uz (Ëe).length) (gk Ëe (Ψd (Ëe)) (Ëe).length)
theorem Oa:ZR z6 ůq:=λi a=>by
 unfold vV;rw[OE h,dF Ão];have e1:(ħq).getD ï .zK=wM z6 i:=rfl
 have e2:(Ψd (ħq)).getD ï .zK=ub ((Ľj).map (·+1)):=by rw[Ŗ,List.getD_cons_succ,Ŵ,Œ,QH a,<-y20 h];rfl
 rw[e1,e2]
theorem y1q:zJ ůq Úa=À (.tup [r0,.int (0+1),.zK]):=by
 have z:=dF (Ħa:=za Ĵc) (tgs:=(Ëe).map λr=>ub ýo) (k:=0) (n:=(Ëe).length) (by rw[OE h];exact Ąj _)
 have e2:ub (v7 Ĵc r0)=.zK:=by unfold v7;rw[Sa h];rfl
 refine z.trans ?_;rw[OE h,Ŗ,e2];rfl
omit a
structure WR(r:D)(Ws:Á Int)(a b c:Í):Prop where
 pr:qx r
 dr:qp [st Ī Ä Ä Ä Ÿb ŷb,.fz r]=À ([st Ī a b c Ÿb ŷb,.fz r],.fz .zK)
 ld:∀D1,qq [D1,r]=À (Ä,.bl Ä)
 st:zg r ìb=À û
 tp:wS r=Â
def PM(w:W8 Ws)(g:0<=d)(j:d<8)(s0:0<=s)(o:s<8):∃a b c,WR (.tup [.str Æa,.int d,.int s]) Ws a b c:=by obtain⟨d,rfl⟩:=ŗa g;obtain⟨s,rfl⟩:=ŗa s0;have f:Ws[d]?=À (Ws[d]' ťf):=č _;have i:Ws[s]?=À (Ws[s]' ťf):=č _;obtain⟨q,n⟩:=w.h _ (Áa f);obtain⟨m,p⟩:=w.h _ (Áa i);obtain⟨t,u,e⟩:=Gz (a:=Ä) .test q n m p;exact⟨_,_,_,.two ê g j s0 o,j4 (k := Æa) rfl rfl uf rfl rfl (RS f i e Zu),λ_=>rfl,rfl,rfl⟩
def Jd(w:W8 Ws):WR āl Ws Ä Ä Ä:=by have g:Ws[0]?=À Êq:=č _;have e:Ũc 0 Êq=Ws:=List.set_getElem_self _;have:=RO (d:=0) (s:=0) (a:=Ä) (b:=Ä) (c:=Ä) (hk:=kP []) (hv:=vP []) ťf g;rw[e]at this;exact⟨.two ê Ð Ð Ð Ð,j4 (k := ĵa) rfl rfl uf rfl rfl this,λ_=>rfl,rfl,rfl⟩
section
variable{z6:Á D}{r:D}{Ws:Á Int}{a b c:Í}
def SN(P:PC z6)(i:Ŭb<=60)(w:W8 Ws)(h:WR r Ws a b c):ZI [.obj Ú [] [],.fz Þj,.fz İa,.fz .zK]=À ([xR ïk (((è).length+1:Nat):Int) İa Ðc Ĭm 0 0,.fz Þj,.fz İa,.fz .zK],.fz .zK):=by
 have f:=z4j h.pr P i;have e:=z7f (md:=.zK) (ps:=[]) (OF f.it) (dE f) (é ..) (by have:=źl Ýd (r::z6);have:=f.ln;show(ūp).length<=1000;unfold za;omega) w.l w.h rfl;have g:(è).length+1=(ūp).length:=by rw[OE h.pr];rfl
 rw[g];exact e
def ci(h:WR r Ws a b c):ww [xR ïk (((è).length+1:Nat):Int) fw fh Ĭm 0 0]=À ([wt z6 ïk fw fh Ws a b c [] 0 1],.fz ĸ):=
 cg Å (y1q h.pr) h.st (by show(wS r&&(Â&&(Â&&Â)))=Â;rw[h.tp];rfl) uf h.dr Ä (h.ld _) rfl
omit a
def Pd{z6:Á D}{c f:D}{a b:Á Int}{a1 b1 c1 a2 b2 c2:Í}(P:PC z6)(l:Ŭb<=60)(t:W8 a)(w:W8 b)(i:WR c a a1 b1 c1)(k:WR f b a2 b2 c2) :Wi ĭl=À (ĭl,.tp [wt z6 (vV c z6) (Α ęf) Ðc a a1 b1 c1 [] 0 1,wt z6 (vV f z6) (Α Ęf) Ðc b a2 b2 c2 [] 0 1]):=by
 have n:=SN P l t i;have m:=SN P l w k;have o:=ci (z6:=z6) (fw:=.lst ęf) (fh:=.dic Ÿb ŷb) i;have u:=ci (z6:=z6) (fw:=.lst Ęf) (fh:=.dic Ÿb ŷb) k;have q:∀r:D,yb (.lst [r]) úk=À Þj:=λr=>Ro (x:=[r]) (by show 1+_<=_;omega)
 unfold wt at *;generalize vV c z6=T1 at *;generalize vV f z6=T2 at *;generalize st ęf Ä Ä Ä Ÿb ŷb=S1 at *;generalize st Ęf Ä Ä Ä Ÿb ŷb=S2 at *;generalize st ęf a1 b1 c1 Ÿb ŷb=S3 at *;generalize st Ęf a2 b2 c2 Ÿb ŷb=S4 at *;generalize ņb ęf=L1 at *;generalize ņb Ęf=L2 at *;generalize D.dic Ÿb ŷb=FH at *;generalize ņb z6=IT at *;have v:∀{T fw fh:D}{e d j:Int}{s:M},ďc Ĭd=Ã:=rfl;have g:∀{T fw fh:D}{e d j:Int}{s:M}{x0 x1 x2 x3 x4 x6:Æ M},j3 Ú ľb 5 [] ww wq Ĵm=jb ww [.p 5 []] Ĵm:=rfl;have h:∀{T fw fh:D}{e d j:Int}{s:M}{x0 x1 x2 x3 x4 x5:Æ M},j3 Ú ľb 6 [] ww wq ĵm=jb ww [.p 6 []] ĵm:=rfl;rw[oB];unfold BQ;simp only[ē,Jo,q,n,m,v,g,h,o,u,By,V3,T7,Yt]
def eG:FE:=Ŋ
def Xp:FT:=(Qd (tE (e2 wK Ţo Šo)) (tE (e2 zg Řl Ğ)))
def BO:FS:=
 (yO (e2 zg (vy 1 (vQ Ď Ĭc) Ĕd Xp eG) Ąf))
def Wg:Á D->Æ ì:=FR 3 3 BO
def n_(a x1 x2:D):Wg Óa=yS 3 BO Óa:=rfl
def Ti:yQ:=(tM (Δa (e2 zg Ŭh Ğ))
     (pF 3 [] ăd (xQ (e2 zJ ĥ ăd)))
     tN)
def Zl:yQ:=(yT (tM (tQ (gj (tE (e2 wK (ze YZ (xW Ú ĺb ôe zH)) (ze YZ (xW Ú ĺb žb zH)))) (tE (e2 wK ćl (ze vX (xW Ú ñc žb zH))))))
     äj
     tN)
    (tM (Qe (Qf (T4 wK (j3 Ú ľb 8 [] ww wq) (j3 Ú ľb 9 [] ww wq))) (Δa (e2 wK (ze kB (xW Ú ıb ôe zH)) (ze kB (xW Ú ıb žb zH)))))
     äj
     tN))
def U_:yQ:=
 (yT ĺl
  (yT (tM įl
   Ħl
   tN)
  (yT (uF 2 (xQ (vY Wm (Χb (.int 30)))))
  (yT (uF 3 (ZZ (vY Wm (Χb (.int 40)))))
  (yT (uF 4 (xQ (e2 zJ (vY UZ Ñc) Ď)))
  (yT (Zn Ŷp (je 5)
   Ti)
  (C3 3 (yT (uF 6 (xQ (Ιa (Η (.int 50)))))
  (yT (uF 7 (xQ (Εa (Θ îf (zB (e2 yc Øb Ìb) (Β (Εb (.int 8))))) (Β (Θ îf (zB (Εb (.int 64)) (zB (Εb þo) zH)))))))
  (yT (οc (wp (e2 zJ ēd Ď) (wp (e2 zJ ēd Ğ) wq)))
  (yT (tM (tQ (γ (ze Wg (zB (ze qo (xW Ú ąd ôe zH)) (zB (ze qo (xW Ú ąd žb zH)) Ïf)))))
   (οc (wp Ťl (wp Ťl wq)))
   tN)
  (yT (Zn (vQ Ď Íg) (je 10)
   Zl)
  (yT (tM ím
   Ûi
   tN)
  ňh)))))))))))))
def NJ:FM:=vW 1 11 U_
def nz(a:M):NJ [a]=wN 1 11 U_ [a]:=rfl
def ic{P k:Nat}:xq Îa Ír Ċb=À (.int ((Ņp).toNat:Int)):=by
 have e:=CU ąi 1;show À (Ħ (Îa ąi 1))=_
 congr 2
 rw[show(1:Int)=1*2 ^ 1-1 by decide,e]
 have h:P/2 ^ k%2=(Ņp).toNat:=by rw[Nat.testBit_eq_decide_div_mod_eq];rcases Íc (P/2 ^ k)with h|h<;>rw[h]<;>rfl
 rw[<-h]
 push_cast
 rfl
def z9p{P k:Nat}:qB (.int (P:Int)) ĩb=À Ír:=by show(match decide ((0:Int)<=(k:Int))with|Â=>À Úm|Ä=>Ã)=_;rw[Ġ šk];show À Úm=_;rw[ğ]
theorem mW(b:Í):zg (.int ((b.toNat:Nat):Int)) Ċb=À Šc:=by cases b<;>rfl
def cO{n k:Nat}{a b:FE}{τ:zy}(c:a τ=À Ĥc)(d:b τ=À ĩb):e2 zg (e2 Óh (e2 qB a b) Ğ) Ğ τ=À (.bl (èc k)):=by show((γc ((ĳh).bind λx=>(b τ).bind λy=>qB x y) (ßj)).bind λx=>(ßj).bind λy=>zg x y)=_;rw[c,d];show(γc (qB Ĥc ĩb) (ßj)).bind _=_;rw[z9p];show(xq Îa (Ε ((n:Int)/2 ^ k)) Ċb).bind _=_;rw[ic];exact mW _
def AE(x y:Í):wK ſk (.bl y)=À (.bl Õh):=by cases x<;>cases y<;>rfl
def Mq{m1 m2:D}{n k:Nat}{x y:Í}(c:zJ m1 ĩb=À ſk)(d:zJ m2 ĩb=À (.bl y)):Xp ěl=À (Õh&&èc (8+k)):=by
 have f:yb äa ĩb=À (.int ((8+k:Nat):Int)):=by
  rw[ċa]
  congr 2
 have e:=cO (n:=n) (k:=8+k) (a:=z7 2) (b:=e2 yb Ìb Ŋ) (τ:=ěl) rfl (by show yb äa ĩb=_;exact f);unfold Xp;generalize e2 zg Řl Ğ=EE at e ⊢;cases z:Õh with
 |Ä=>simp only[ß,c,d,AE,z];rfl|Â=>simp only[ß,c,d,AE,z,e]
theorem iB{n:Nat}{a1 b1 c1 a2 b2 c2:Í}:∃v,Wg ðm=À (Ä,.bl v)/\(v=Â->(èc 8=Â->a1=a2)/\(èc 9=Â->b1=b2)/\(èc 10=Â->c1=c2)):=by
 have g:=Mq (m1:=.tup Ìc) (m2:=.tup ğc) (n:=n) (k:=0) (x:=a1) (y:=a2) rfl rfl;have o:=Mq (m1:=.tup Ìc) (m2:=.tup ğc) (n:=n) (k:=1) (x:=b1) (y:=b2) rfl rfl;have j:=Mq (m1:=.tup Ìc) (m2:=.tup ğc) (n:=n) (k:=2) (x:=c1) (y:=c2) rfl rfl;have m:∀τ:zy,vQ Ď Ĭc τ=À Çn:=λτ=>rfl
 have f:∀a c d:Í,Xp [À (Ä,.tup Ìc),À (Ä,.tup ğc),À (Ä,.int (n:Int)),À (Ä,.int 0)]=À a->Xp [À (Ä,.tup Ìc),À (Ä,.tup ğc),À (Ä,.int (n:Int)),À (Ä,.int 1)]=À c->Xp [À (Ä,.tup Ìc),À (Ä,.tup ğc),À (Ä,.int (n:Int)),À (Ä,.int 2)]=À d->
   Wg ðm=À (Ä,.bl Ôq):=λa c d i e1 e2=>by
  have l:w6 Ĕd Xp eG [À (Ä,.tup Ìc),À (Ä,.tup ğc),À (Ä,.int (n:Int)),Ã] Çn=À Ĩl:=by simp only[w6,yR,Ùc,Çg,Æg,i,e1,e2];cases a<;>cases c<;>cases d<;>rfl
  have q:zg (Α Ĩl) Àe=À (.bl Ôq):=by cases a<;>cases c<;>cases d<;>rfl
  rw[n_];unfold BO;simp only[ß,m,l,q]
 refine⟨_,f _ _ _ g o j,λh=>?_⟩;have e:∀{x y b:Í},(!(Õh&&b))=Â->b=Â->x=y:=λ{x y b}=>by cases x<;>cases y<;>cases b<;>decide
 rw[ć,ć]at h;exact⟨e h.1.1,e h.1.2,e h.2⟩
section
variable{s0 it x6 x7 x8 x9 x10:Æ M}{W1:Á Int}{n:Nat}
def z0b(p:W8 W1){W2:Á Int}(A:W8 W2):∃W x5,W8 W/\(∀k,k<8->èc k=Â->W1[k]?=W[k]?)/\tK (je 5) Ti ėf Ĕl=À (.nx Ęl):=by
 have u:(ėf).length=8:=by rw[é,īa]
 obtain⟨β',e1,W,x5,w,a,rfl⟩:=F_ (g:=je 5) (b:=Ti) (λi β=>∃(W:Á Int) (x5:Æ M),W8 W/\(∀k,k<i->èc k=Â->W1[k]?=W[k]?)/\β=Ęl)
  (ds:=wT 8) (β:=Ĕl) 0 ⟨W2,Ã,A,λ_ h=>Û h þh,rfl⟩ λi d β t x=>by
   obtain⟨W,x5,w,a,rfl⟩:=x;rw[ń]at a ⊢;obtain⟨q,rfl⟩:=Qg t;have m:W1[i]?=À (W1[i]' ĥn):=č _;have r:i<Ìh:=by rw[w.l];exact q
   have s:wG Ýk=.lst Äe:=rfl;have j:=λ(τ:zy) (B:z7 4 τ=À Ĥc) (C:z7 5 τ=À Ħb)=>cO B C
   cases z:èc i with
   |Ä=>refine⟨_,[s0,it,À Īp,À Ýk,À ŷr,À þk,x6,x7,x8,x9,x10],rfl,?_,W,_,w,λk f e=>?_,rfl⟩;unfold Ti;generalize e2 zg Ŭh Ğ=EE at j ⊢;simp only[ē,s,j,z];rcases Nat.lt_succ_iff_lt_or_eq.mp f with h|rfl;exact a k h e;rw[z]at e;cases e
   |Â=>have v:=p.h _ (Áa m);generalize W1[i]' ĥn=y at m v;refine⟨_,[s0,it,À Īp,À (η (wI (W.set i y))),À ŷr,À þk,x6,x7,x8,x9,x10],rfl,?_,W.set i y,_,öh (o:=À i) w v.1 v.2,λk f e=>?_,rfl⟩;unfold Ti;generalize e2 zg Ŭh Ğ=EE at j ⊢;simp only[ē,s,j,z,tJ m,pF,q_,qh,j7 r,jN];by_cases c:k=i;subst c;rw[m,Ŧf r];rw[Ųf (Ļb c)];exact a k Å e
 rw[ń,u]at a;exact⟨W,x5,w,a,e1⟩
omit a
def AF(ps:Á Ĥ):wK ħr ħr=À û:=T_ (ųf λd b=>by obtain⟨a,_,rfl⟩:=ħb b;rfl)
section
variable{s0 x1 x2 x3 x4 x5 x6 x7 x10:Æ M}
def dJ{i g f1 f2 g1 g2:D}{e p k:Int}{q o a f:M}{j1 j2 c b:Int}{v t:Í}{L:D}(n:vX [xC i e f1 g1 (wG q) p j1]=À (Ä,.bl v))(l:vX [xC g e f2 g2 (wG o) p j2]=À (Ä,.bl v))(e1:ww [xR i e f1 g1 q p j1]=À ([xR i e f1 g1 a k c],.fz åe))(e2:ww [xR g e f2 g2 o p j2]=À ([xR g e f2 g2 f k b],.fz åe))(m1:kB [xC i e f1 g1 (wG a) k c]=À (Â,L))(m2:kB [xC g e f2 g2 (wG f) k b]=À (Â,L))(F:wK L L=À û) :Zl [s0,x1,x2,x3,x4,x5,x6,x7,À (xR i e f1 g1 q p j1),À (xR g e f2 g2 o p j2),x10]=À (.nx [s0,x1,x2,x3,x4,x5,x6,x7,À (xR i e f1 g1 a k c),À (xR g e f2 g2 f k b),x10]):=by
 have A:wK ħg ħg=À û:=T_ rfl;have z:wK (.bl v) (.bl v)=À û:=T_ (by cases v<;>rfl);have E:wK åe åe=À û:=T_ (by cases t<;>rfl);have r:∀{m:Str}{T fw fh sd:D}{e d j:Int}{o0 o1 o2 o3 o4 o5 o6 o7 o9 o10:Æ Sl},m ∉ uV->xW Ú m ôe zH őh=À Łd:=λh=>ZV rfl h rfl
 have u:∀{m:Str}{T fw fh sd:D}{e d j:Int}{o0 o1 o2 o3 o4 o5 o6 o7 o8 o10:Æ Sl},m ∉ uV->xW Ú m žb zH Œh=À Łd:=λh=>ZV rfl h rfl
 have y:(ĺb : Str) ∉ uV:=by decide +kernel
 have x:(ñc : Str) ∉ uV:=by decide +kernel
 have w:(ıb : Str) ∉ uV:=by decide +kernel
 have B:∀{T fw fh:D}{e d j:Int}{s:M}{o0 o1 o2 o3 o4 o5 o6 o7 o9 o10:Æ M},j3 Ú ľb 8 [] ww wq ųl=jb ww [.p 8 []] ųl:=rfl;have C:∀{T fw fh:D}{e d j:Int}{s:M}{o0 o1 o2 o3 o4 o5 o6 o7 o8 o10:Æ M},j3 Ú ľb 9 [] ww wq Ŵl=jb ww [.p 9 []] Ŵl:=rfl;unfold Zl;simp only[ē,Y7,r y,r x,r w,u y,u x,u w,z5r,n,l,A,z,Qe,Qf,T4,B,C,e1,e2,E,m1,m2,F,q_]
omit a
inductive ZT(z6:Á D)(T:Á Nat)(T1 T2 f1 f2 g1 g2:D)(B:Nat):M->M->Prop
 |mk {Ws1 Ws2:Á Int} {a1 b1 c1 a2 b2 c2:Í} {ps:Á Ĥ} {i:Nat} {j1 j2:Int} (w1:W8 Ws1) (w2:W8 Ws2) (Q:gE ps) (l:Ē<=B) (hi:i<=(è).length) (A:Lv Ĺb Ws1 Ws2 a1 b1 c1 a2 b2 c2) :
   ZT z6 T T1 T2 f1 f2 g1 g2 B (wt z6 T1 f1 g1 Ws1 a1 b1 c1 ps i j1) (wt z6 T2 f2 g2 Ws2 a2 b2 c2 ps i j2)
def VG(h:a β=À ųr):yT a b β=b β':=by show(ñl).bind _=_;rw[h];rfl
section
variable{z6:Á D}{T:Á Nat}(P:PC z6)(N:NI (è).length âe ãe áe T []){T1 T2 f1 f2 g1 g2:D}(t1:ZR z6 T1)(t2:ZR z6 T2){s0 x1 x2 x3 x4 x5 x6 x7 x10:Æ M}{m1 m2:M}{B:Nat}
include P N t1 t2
theorem y2v(a:B<=800)(h:ZT z6 T T1 T2 f1 f2 g1 g2 B m1 m2):∃m1' m2',ZT z6 T T1 T2 f1 f2 g1 g2 (B+4) m1' m2'/\Zl ąe=À (.nx [s0,x1,x2,x3,x4,x5,x6,x7,À m1',À m2',x10]):=by
 cases h with
 |@mk Ws1 Ws2 a1 b1 c1 a2 b2 c2 ps i j1 j2 w1 w2 Q l hi A=>
  cases AH (f1:=f1) (f2:=f2) (g1:=g1) (g2:=g2) (j1:=j1) (j2:=j2) P N t1 t2 w1 w2 Q Å A hi with
  |no all s1 s2 e1 e2=>exact⟨_,_,.mk w1 w2 Q Å hi A,dJ Ĥn ģn e1 e2 źf źf (AF ps)⟩|@go Ws1' Ws2' a1' b1' c1' a2' b2' c2' ps' i' v1 v2 Q' l' hi' A' s1 s2 e1 e2=>exact⟨_,_,.mk v1 v2 Q' Å hi' A',dJ Ĥn ģn e1 e2 źf źf (AF ps')⟩
theorem z0c(h:ZT z6 T T1 T2 f1 f2 g1 g2 0 m1 m2):∃m1' m2' y10,ZT z6 T T1 T2 f1 f2 g1 g2 120 m1' m2'/\tK (je 10) Zl ūk ąe=À (.nx [s0,x1,x2,x3,x4,x5,x6,x7,À m1',À m2',y10]):=by
 have c:(ūk).length=30:=by rw[é,īa]
 obtain⟨β',e1,m1',m2',y10,a,rfl⟩:=F_ (g:=je 10) (b:=Zl) (λi β=>∃m1 m2 y10,ZT z6 T T1 T2 f1 f2 g1 g2 (4*i) m1 m2/\β=[s0,x1,x2,x3,x4,x5,x6,x7,À m1,À m2,y10])
  (ds:=wT 30) (β:=ąe) 0 ⟨m1,m2,x10,h,rfl⟩ λi d β j f=>by obtain⟨m1,m2,y10,h,rfl⟩:=f;rw[ń]at h ⊢;obtain⟨k,rfl⟩:=Qg j;obtain⟨m1',m2',a,e⟩:=y2v (s0:=s0) (x1:=x1) (x2:=x2) (x3:=x3) (x4:=x4) (x5:=x5) (x6:=x6) (x7:=x7) (x10:=À þk) P N t1 t2 Å h;exact⟨_,_,rfl,e,m1',m2',_,a,rfl⟩
 rw[ń,c]at a;exact⟨m1',m2',y10,a,e1⟩
theorem y2t(h:ZT z6 T T1 T2 f1 f2 g1 g2 B m1 m2)(t:B≤800):(yT Řo
   ňh)
  ąe=À (.rt (.fz ĸ) ąe):=by
 have f:∀{m:Str}{T fw fh sd:D}{e d j:Int}{o0 o1 o2 o3 o4 o5 o6 o7 o9 o10:Æ Sl},m ∉ uV->xW Ú m ôe zH őh=À Łd:=λh=>ZV rfl h rfl
 have o:∀{m:Str}{T fw fh sd:D}{e d j:Int}{o0 o1 o2 o3 o4 o5 o6 o7 o8 o10:Æ Sl},m ∉ uV->xW Ú m žb zH Œh=À Łd:=λh=>ZV rfl h rfl
 have p:(śb : Str) ∉ uV:=by decide +kernel
 have g:(ñc : Str) ∉ uV:=by decide +kernel
 have n:(ąd : Str) ∉ uV:=by decide +kernel
 cases h with
 |@mk Ws1 Ws2 a1 b1 c1 a2 b2 c2 ps i j1 j2 w1 w2 Q l hi A=>
  cases AH (f1:=f1) (f2:=f2) (g1:=g1) (g2:=g2) (j1:=j1) (j2:=j2) P N t1 t2 w1 w2 Q Å A hi with
  |no all s1 s2 e1 e2=>
   obtain rfl:Ws1=Ws2:=Õg λk=>by by_cases hk:k<8;exact A.w k hk (all k Å);rw[ëb (by rw[w1.l];omega),ëb (by rw[w2.l];omega)]
   obtain rfl:=A.a (all 8 Ð);obtain rfl:=A.b (all 9 Ð);obtain rfl:=A.c (all 10 Ð)
   have q:zg Ħr Ħr=À ĸ:=Rg (ųf λd s=>by obtain⟨x,_,rfl⟩:=ħb s;rfl)
   have r:zg År År=À ĸ:=Rg rfl;simp only[ē,Y7,wv,f p,f g,f n,o p,o n,s1,z7c,C4,q,r]
  |go _ _ _ _ _ _ s1 s2 e1 e2=>simp only[ē,Y7,wv,f g,s1]
omit a
def z7k:∀ns:Á Int,Ŝ<=63->(∀m∈ns,wy m<=1048576)->∃r,NJ âg=À (r,.fz ĸ):=λns I H=>by
 obtain⟨m,m0,m1,em⟩:=XF I H (k:=0) Ð Ð;obtain⟨p,m0',m1',Y⟩:=XF I H (k:=50) Ð Ð;obtain⟨u,er1,E,B⟩:=be I H (f:=30) Ð Ð;obtain⟨W2,Q,l2,h2⟩:=be I H (f:=40) Ð Ð
 obtain⟨g,P,hi,ei⟩:∃g,PC g/\õc<=60/\∀zr:yQ,yT ĺl
   (yT (tM įl
    Ħl
    tN) zr) Řh=zr [À Ád,À ſa,Ã,Ã,Ã,Ã,Ã,Ã,Ã,Ã,Ã]:=by
  obtain⟨_,_,it,_,_,_,_,P,_,l,e⟩:=z5z I H (first:=1) (ŕa:=12) Ð Ð Ð Ð;obtain⟨ib,o,Pb,lb,eb⟩:=iT (a:=m/9) Å;generalize Ŏa Ħ=NS at *;by_cases z:m%9=1
  .refine⟨ib,Pb,lb,λzr=>(đl).trans (VG ?_)⟩
   .simp only[ē,e]
   .simp only[ē,em,Ĉc,z,eb]
  .refine⟨it,P,by omega,λzr=>(đl).trans (VG ?_)⟩
   .simp only[ē,e]
   .simp only[ē,em,Ĉc,Ŏ z]
 obtain⟨T,N,en⟩:=z1a P;have e0:zJ Ĩr Úa=À (.int (gt T 0:Nat)):=CA (i:=0) Ďi;obtain⟨W,A,w,hk,lp⟩:=z0b (s0:=À Ád) (it:=À ſa) (x6:=Ã) (x7:=Ã) (x8:=Ã) (x9:=Ã) (x10:=Ã) (n:=gt T 0) ⟨E,B⟩ (W2:=W2) ⟨l2,h2⟩;obtain⟨a1,b1,c1,H1⟩:=PM (Ws:=u) ⟨E,B⟩ (d:=p%8) (s:=p/8%8) Å Å Å Å;obtain⟨a2,b2,c2,H2⟩:=PM w (d:=p/64%8) (s:=p/512%8) Å Å Å Å;have Z:=Pd P hi ⟨E,B⟩ w H1 H2;have U:=Pd P hi ⟨E,B⟩ w (Jd ⟨E,B⟩) (Jd w);obtain⟨v,ev,hv⟩:=iB (n:=gt T 0) (a1:=a1) (b1:=b1) (c1:=c1) (a2:=a2) (b2:=b2) (c2:=c2);have p0:gE []:=⟨λ_ h=>Û h ê,λ_ h=>Û h ê,Şd⟩;have r8:∀τ:zy,vQ Ď Ìb τ=À ėf:=λτ=>kq (n:=8) rfl Ð
 have X:∀τ:zy,vQ Ď Íg τ=À ūk:=λτ=>kq (n:=30) rfl Ð
 have s8:∀{m:Str}{T fw fh sd:D}{e d j:Int}{o0 o1 o2 o3 o4 o5 o6 o7 o9 o10:Æ Sl},m ∉ uV->xW Ú m ôe zH őh=À Łd:=λh=>ZV rfl h rfl
 have s9:∀{m:Str}{T fw fh sd:D}{e d j:Int}{o0 o1 o2 o3 o4 o5 o6 o7 o8 o10:Æ Sl},m ∉ uV->xW Ú m žb zH Œh=À Łd:=λh=>ZV rfl h rfl
 have O:(ąd : Str) ∉ uV:=by decide +kernel
 have K:∀{T1 T2 f1 f2 g1 g2:D}{G F:M}{β6:Æ M}{β7:Æ M},ZR g T1->ZR g T2->ZT g T T1 T2 f1 f2 g1 g2 0 G F->∃β',(yT İm (yT Řo
   ňh))
   ĕl=À Ĕm:=λ{T1 T2 f1 f2 g1 g2 G F β6 β7} t1 t2 tw=>by
  obtain⟨n1',n2',R,S,e⟩:=z0c (s0:=À Ád) (x1:=À ſa) (x2:=À īb) (x3:=À Ŧd) (x4:=À Èc) (x5:=A) (x6:=β6) (x7:=β7) (x10:=Ã) P N t1 t2 tw
  have q:İm ĕl=À (.nx [À Ád,À ſa,À īb,À Ŧd,À Èc,A,β6,β7,À n1',À n2',R]):=by show(vQ Ď Íg _).bind _=_;rw[X];exact e
  exact⟨_,(VG q).trans (y2t P N t1 t2 S Ð)⟩
 have C:∃β',U_ Řh=À Ĕm:=by
  generalize Ŏa Ħ=NS at *;unfold U_;rw[ei];have t:∀{a b:yQ}{β β1:yB},a β=À (.nx β1)->(∃β',b β1=À ĕm)->∃β',yT a b β=À ĕm:=λh ⟨β',e⟩=>⟨β',(VG h).trans e⟩
  refine t (β1:=[À ŗb,À ſa,À īb,Ã,Ã,Ã,Ã,Ã,Ã,Ã,Ã]) (by simp only[ē,er1]) ?_;refine t (β1:=[À ŗb,À ſa,À īb,À ħp,Ã,Ã,Ã,Ã,Ã,Ã,Ã]) (by simp only[ē,ZZ,Q]) ?_;refine t (β1:=[À ŗb,À ſa,À īb,À ħp,À Èc,Ã,Ã,Ã,Ã,Ã,Ã]) (by generalize zb T=TT at *;simp only[ē,en,e0]) ?_;refine t (β1:=[À ŗb,À ſa,À īb,À Ýk,À Èc,A,Ã,Ã,Ã,Ã,Ã]) (by show(vQ Ď Ìb _).bind _=_;rw[r8];exact lp) ?_;show ∃β',yT _ _ [À ŗb,À ſa,À īb,À Ŧd,À Èc,A,Ã,Ã,Ã,Ã,Ã]=_;refine t (β1:=[À ŗb,À ſa,À īb,À Ŧd,À Èc,A,À ýk,Ã,Ã,Ã,Ã]) (by simp only[ē,Y]) ?_;refine t (β1:=[À ŗb,À ſa,À īb,À Ŧd,À Èc,A,À ýk,À öm,Ã,Ã,Ã]) (by simp only[ē]) ?_;have i0:∀x y:D,zJ Ër Úa=À x:=λ_ _=>rfl
  have i1:∀x y:D,zJ Ër Ċb=À y:=λ_ _=>rfl
  refine t (β1:=õl) (by generalize wt g (vV Űj g) čj Ðc u a1 b1 c1 [] 0 1=G at Z ⊢;generalize wt g (vV űj g) ŧg Ðc W a2 b2 c2 [] 0 1=F at Z ⊢;simp only[ē,Tr,i0,i1,Z]) ?_
  have L:=λ{T fw fh:D} {e due done:Int}=>C4 (T:=T) (fw:=fw) (fh:=fh) (e:=e) (due:=due) (done:=done) (Ws:=u) (a:=a1) (b:=b1) (c:=c1) (ps:=[])
  have J:=λ{T fw fh:D} {e due done:Int}=>C4 (T:=T) (fw:=fw) (fh:=fh) (e:=e) (due:=due) (done:=done) (Ws:=W) (a:=a2) (b:=b2) (c:=c2) (ps:=[])
  cases v with
  |Â=>
   refine t (β1:=õl) (by generalize vV Űj g=U1;generalize vV űj g=U2;simp only[ē,Y7,wv,s8 O,s9 O,L,J,ev]) ?_
   obtain⟨v1,v2,v3⟩:=hv rfl;exact K (Oa H1.pr) (Oa H2.pr) (.mk ⟨E,B⟩ w p0 Ċ Ąc ⟨hk,v1,v2,v3⟩)
  |Ä=>
   refine t (β1:=[À ŗb,À ſa,À īb,À Ŧd,À Èc,A,À ýk,À öm,À (wt g Ńg čj Ðc u Ä Ä Ä [] 0 1),À (wt g Ńg ŧg Ðc W Ä Ä Ä [] 0 1),Ã]) (by generalize vV Űj g=U1;generalize vV űj g=U2;generalize wt g Ńg čj Ðc u Ä Ä Ä [] 0 1=G at U ⊢;generalize wt g Ńg ŧg Ðc W Ä Ä Ä [] 0 1=F at U ⊢;have hd:∀{T fw fh:D}{e d j:Int}{s:M},ďc Ĭd=Ã:=rfl;simp only[ē,Y7,wv,s8 O,s9 O,L,J,ev,hd,Tr,U]) ?_
   exact K ðp ðp (.mk ⟨E,B⟩ w p0 Ċ Ąc ⟨hk,λ_=>rfl,λ_=>rfl,λ_=>rfl⟩)
 obtain⟨β',C⟩:=C;refine⟨âg,?_⟩;rw[nz];show(U_ Řh).bind (Zc 1)=_;rw[C];rfl
omit L3
local macro_rules
 | `(tactic| ac_rfl)=>`(tactic| exact⟨rfl,rfl,rfl,by decide +kernel,rfl,by decide +kernel,by decide +kernel⟩)
namespace My
open ľ L2 L3
set_option maxHeartbeats 4000000
noncomputable def top(i:Nat):Ù:=PySem.Challenge.pw_markrun_k51_whole_unneeded.main.body.getD i Ąn
section
variable{P:æ}{w:Þ}{K:Î}{mg:Str->Æ Value}{È:Heap}{WM:Ç}{WN:Ç}{WL:Ç}{WP:Ç}{WQ:Ç}{WO:Ç}{WI:Ç}{YV:Ç}{WK:Ç}{WJ:Ç}
abbrev HT:=æ->Þ->Î->ři->Heap->Prop
section
variable{h:Heap}(X:š h)(G:đa ă mg)
abbrev Ee:Ù:=top 9
def z8h:zm Ök Ök (zY Ee):=by ac_rfl
variable(gx:mg Ðd=Ã)(Hh:mg Ŭc=Ã)(Hg:mg ćf=Ã)
def M8:=HD ĝj Ök 1 ZL
def z2r(a:zT K ĝj Ee):M8 P w K mg È:=(ŷ).oS P w È 0 ZL z8h yZ λb=>(zk (ιc (uy (QV .bool rfl rfl gx Hg im þb)) (Ve (ν (QV .int rfl rfl gx Hh io þb)))) (Γ (QT (uQ z48 VM üc þb Åa) (Xe (uQ Ip VM þb (zM (zP jm jj zF ě)) Åa)))))
abbrev ED:Ù:=top 10
def bv:zm [Ĥf,"other",ía,"total"] Ļn (zY ED):=by ac_rfl
variable(V8:vF mg "BEYOND" Ķd)(VR:∀H,zS K H Ķd Ķd)
def L_:=HD ľk Ļn 1 WX
def z23(a:zT K ľk ED):L_ P w K mg È:=(Ūb).oS P w È 0 WX bv yZ λb=>(zk (yj (i:=3) bv.nd rfl ç (zP xf xZ ŵn Ŕn)) (μa (zP xF xE ť Äj) (zC (uQ z44 VM éf (zM Äj) Åa) zL)))
abbrev GF:Ù:=top 11
def cA:zm [Ĥf,"other","borrow",ĸa] šm (zY GF):=by ac_rfl
def MP:=HD Ļk šm 1 Wp
def z3q(a:zT K Ļk GF):MP P w K mg È:=(Ūb).oS P w È 0 Wp cA yZ λb=>(zk (yj (i:=3) cA.nd rfl ç (zP Zs Zr (zP Zs Zr Ě ě) Ŕn)) (zk (Λ (ya Ip VM éf üc Åa) (μa (zP xf xZ ť Äj) Ŧq)) (Γ Īm)))
abbrev G8:Ù:=top 14
def z8r:zm ŧi ŧi (zY G8):=by ac_rfl
def MO:=HD Äl ŧi 1 wV
def z3i(a:zT K Äl G8):MO P w K mg È:=(Ūb).oS P w È 0 wV z8r yZ λb=>(Γ (zP VO ua ŷn Ąm))
abbrev Ew:Ù:=top 12
def GT:zm [Ĳa,"count","moved","fallen"] Ćg (zY Ew):=by ac_rfl
variable(Zh:vF mg Öq Ĳc)(Zx:∀H,zS K H Ĳc Ĳc)(qV:MO P w K mg È)
def Nl:=HD ìj Ćg 2 Yg
def z3a(a:zT K ìj Ew):Nl P w K mg È:=(ŷ).oS P w È 1 Yg GT yZ λb=>(zk (yj (i:=2) GT.nd rfl ç (zP jm jj Ě ě)) (zk (yj (i:=3) GT.nd rfl ç (Υd (zC ŀ (zC Ėi Úc)))) (μa (Τc (zC (v4 Zh Zx rfl) zL)) ķj)))
abbrev Ex:Ù:=top 13
def c7:zm [Ĳa,"count","fallen"] Ćg (zY Ex):=by ac_rfl
def Nm:=HD Ìj Ćg 2 Yh
def z3b(a:zT K Ìj Ex):Nm P w K mg È:=(ŷ).oS P w È 1 Yh c7 yZ λb=>(zk (yj (i:=2) c7.nd rfl ç (Υd (zC Ě (zC (zP Zs Zr ě zF) Úc)))) (μa ŷn ęq))
abbrev GK:Ù:=top 15
def cD:zm [Ĳa,ĵh,úg,ŝb,"there"] ĺn (zY GK):=by ac_rfl
def MR:=HD Ěj ĺn 1 Yi
def z3v(a:zT K Ěj GK):MR P w K mg È:=(żq).oS P w È 0 Yi cD yZ λb=>(zk (yj (i:=4) cD.nd rfl ç (zP jm jj Ąm ě)) (Γ (zP jl ua (zP VO ua Ě (OJ dU dP Ňa)) (zP jm jj ť ě))))
abbrev EJ:Ù:=top 16
def z84:zm [Ĳa] [Ĳa] (zY EJ):=by ac_rfl
variable(Xr:mg Ũ=Ã)(TR:vF mg Ûq Źg)(QB:∀H,zS K H V9 Źg)
def NP:=HD ŋj [Ĳa] 2 Wa
def z29(a:zT K ŋj EJ):NP P w K mg È:=(Òa).oS P w È 1 Wa z84 yZ λd=>(Μc (yg (qI rfl (um (own:=[ĵh]) rfl) (pI Ýp) (Τb (vj [Ĳa] [ĵh])) ĺe (Ψ (yG qV d rfl (zC Ě (zC ě Úc)))))))
abbrev GM:Ù:=top 17
def z8x:zm Ěk Ěk (zY GM):=by ac_rfl
variable(Hj:mg "sum"=Ã)(Ql:mg Ļa=Ã)
def MU:=HD Ŵj Ěk 1 Uh
def z3x(a:zT K Ŵj GM):MU P w K mg È:=(Òa).oS P w È 0 Uh z8x yZ λd=>(Γ (jF (lL rfl) z3n rfl Hj iw (δb (yg (qI rfl (um (own:=["byte",ĵh]) rfl) (cR rfl Ql Ě Ýp) (Pe (Ψ (χ (Ηa īm) (qZ (Υa īm) XW))) rfl rfl) ĺe (Ψ (zP jm jj ě ŀ)))))))
abbrev Ec:Ù:=top 21
def z8g:zm Œc Œc (zY Ec):=by ac_rfl
def M7:=HD Ŋj Œc 1 Yc
def z2q(a:zT K Ŋj Ec):M7 P w K mg È:=(Òa).oS P w È 0 Yc z8g yZ λb=>(Γ ħi)
abbrev EZ:Ù:=top 22
def z8f:zm Œc Œc (zY EZ):=by ac_rfl
variable(DU:vF mg "JUMPS" Ÿg)(Cg:∀H,zS K H IG Ÿg)
def M6:=HD źj Œc 1 Wc
def z2p(a:zT K źj EZ):M6 P w K mg È:=(Òa).oS P w È 0 Wc z8f yZ λb=>(Γ (uQ (jC ďb) jA Ġk (zM (v4 DU Cg rfl)) Ëi))
abbrev GC:Ù:=top 23
def z8t:zm [Ùa] [Ùa] (zY GC):=by ac_rfl
variable(Ta:M7 P w K mg È)
def Nr:=HD ŷj [Ùa] 2 qr
def z3m(a:zT K ŷj GC):Nr P w K mg È:=(Òa).oS P w È 1 qr z8t yZ λd=>(Ν (qI rfl (um (own:=Œc) rfl) Úh (Τb (vj [Ùa] Œc)) (Ψ (OV (ν (yG Ta d rfl ře)))) (λC s H b c=>ě)))
abbrev Eh:Ù:=top 24
def QO:zm [Ùa,Še,ĺb,"item"] [Ùa] (zY Eh):=by ac_rfl
def Nd:=HD Ŵi [Ùa] 2 We
def z2u(a:zT K Ŵi Eh):Nd P w K mg È:=(Òa).oS P w È 1 We QO yZ λb=>(zk (Xj (i:=1) ŀh rfl ç GY) (zk (yj (i:=2) ŀh rfl ç zF) (Λa Úh (Ζa (xN (i:=3) ŀh rfl ç)) (zj (xO (uy (yG Ta b rfl àk)) (zj (Gv ďb çl ĳe ŀ)) (zj (y0h (i:=2) rW z2n ŀh rfl ç zF)))) òl)))
abbrev GG:Ù:=top 25
def cB:zm Ĉr [Ùa] (zY GG):=by ac_rfl
variable(F0:Nd P w K mg È)(kS:Nr P w K mg È)(Dy:M6 P w K mg È)
def Nv:=HD ëj [Ùa] 3 kC
def z3r(a:zT K ëj GG):Nv P w K mg È:=(Òa).oS P w È 2 kC cB yZ λb=>(zk (yj (i:=1) cB.nd rfl şb (yg (uw F0 b rfl Ťd))) (Ν (qI rfl (um (own:=ăc) rfl) (pI ŋf) (Αa (Υa (vj Ĉr ăc))) Ùg (Μ (Xc (uy (yG Dy b rfl (Δ óe))) (ζ (μ óe ņp)) Xd)))))
abbrev Ev:Ù:=top 37
def z8o:zm Âe Âe (zY Ev):=by ac_rfl
variable(DY:vF mg Ľq äa)(Ck:∀H,zS K H äa äa)(X1:vF mg "MARKS" űg)(XT:∀H,zS K H VA űg)(Fi:Mo K YV)
def MJ:=HD ŉj Âe 1 Yf
def z39(a:zT K ŉj Ev):MJ P w K mg È:=(Òa).oS P w È 0 Yf z8o yZ λb=>(Γ (zP jm jj zF (zP xf xZ (v4 DY Ck rfl) (z92 X1 XT Fi rfl Ě))))
abbrev Ey:Ù:=top 38
def z8p:zm ăc ăc (zY Ey):=by ac_rfl
def MK:=HD ĳi ăc 1 Lz
def z3c(a:zT K ĳi Ey):MK P w K mg È:=(Òa).oS P w È 0 Lz z8p yZ λb=>(Γ (QT (cG ħi (Xe ħi)) (Xe (ο Ġk üc))))
abbrev GH:Ù:=top 35
def QR:zm Íp ăc (zY GH):=by ac_rfl
variable(TN:vF mg őp çd)(Q8:∀H,zS K H çd çd)(DW:vF mg Úq Ŷg)(Ci:∀H,zS K H Dh Ŷg)(DX:vF mg Ùq ŵg)(Cj:∀H,zS K H Di ŵg)(DV:vF mg Ķo ŷg)(Ch:∀H,zS K H Dg ŷg)(Zj:MJ P w K mg È)
def Nw:=HD Ál ăc 2 uK
def z3s(a:zT K Ál GH):Nw P w K mg È:=(Òa).oS P w È 1 uK QR yZ λb=>(zk (Χ Ġk Ób ßp) (zk (Λ (Y6 (Vd Ļf (Ve Ļf))) (Γ (yG Zj b rfl Ěq))) (zk (yj (i:=1) QR.nd rfl ç zF) (zk (χc (v4 DW Ci rfl)) (zk (χc (v4 DX Cj rfl)) (zk (Λ (Νa (v4 DV Ch rfl)) (ξb ųh)) įp))))))
abbrev G9:Ù:=top 36
def QP:zm Íp ăc (zY G9):=by ac_rfl
variable(Db:vF mg "PUT_D" ųg)(Cn:∀H,zS K H Dk ųg)(Dd:vF mg ßn Ųg)(Co:∀H,zS K H Dl Ųg)(Da:vF mg Øq Ŵg)(Cm:∀H,zS K H Dj Ŵg)(FC:MK P w K mg È)
def No:=HD "put" ăc 2 qO
def z3j(a:zT K "put" G9):No P w K mg È:=(Òa).oS P w È 1 qO QP yZ λb=>(zk (yj (i:=1) Ŀh rfl ç zF) (zk (Λ (Νa (v4 Db Cn rfl)) (zj (yj (i:=1) Ŀh rfl ç (zP jl ua ě ċm)))) (zk (Λ (Νa (v4 Dd Co rfl)) (zj (yj (i:=1) Ŀh rfl ç (zP jl ua Ŷn ųh)))) (zk (Λ (Y6 (d7 (Νa (v4 Da Cm rfl)) (d8 (ν (yG FC b rfl Ťd))))) (zj (yj (i:=1) Ŀh rfl ç Ŷn))) įp))))
abbrev GI:Ù:=top 40
def z8v:zm Či Či (zY GI):=by ac_rfl
variable(Qk:mg įb=Ã)(Hi:mg ļ=Ã)
def MQ:=HD ěj Či 1 Ud
def z3t(a:zT K ěj GI):MQ P w K mg È:=(Ūb).oS P w È 0 Ud z8v yZ λb=>(zk (xO Ļf (zj (qg Ĝe)) xS) (zk (xO Ļf (Ν (wu Íf ĳd)) xS) (zk (Λ (ya CT CP (zM ŀ) (zM Xd) Åa) (Ν (wu (Δ ŗf) ĳd))) (Ν (z9k rfl rfl Qk rfl Hi (Δ (οa (zC ŗf ęq))))))))
abbrev GJ:Ù:=top 39
def cC:zm [Ùa,Ãl] [Ùa] (zY GJ):=by ac_rfl
variable(Xq:mg ãc=Ã)(Td:Nv P w K mg È)(FW:MQ P w K mg È)
def Nx:=HD Ŷj [Ùa] 4 Ue
def z3u(a:zT K Ŷj GJ):Nx P w K mg È:=(Òa).oS P w È 3 Ue cC yZ λb=>(zk (yj (i:=1) cC.nd rfl şb ŋf) (Ν (qI rfl (um (own:=[ŝb,"target"]) rfl) æm (Pe (Μ (χ (Υa Ëm) (qZ (Γb Ëm) XW))) rfl rfl) Ùg (Μ (yG FW b rfl (zC (ζ óe) (zC óe (Δ ĕf))))))))
abbrev Ez:Ù:=top 43
def OI:zm [çe,Še,"need",ĺb] ăr (zY Ez):=by ac_rfl
def MM:=HD Ĝj ăr 1 Wn
def z3e(a:zT K Ĝj Ez):MM P w K mg È:=(ŷ).oS P w È 0 Wn OI yZ λb=>(zk (yj (i:=2) OI.nd rfl ç zF) (zk (Xh Ëc rfl (pI ě) (Ζa (xN (i:=3) OI.nd rfl ç)) (zj (yj (i:=2) OI.nd rfl ç (zP jl ua ŀ (zW ſ zV Ě ť))))) (Γ ŀ)))
abbrev EK:Ù:=top 44
def QN:zm ęm [Àl] (zY EK):=by ac_rfl
variable(vo:mg ña=Ã)(uS:mg "len"=Ã)
def M3:=HD ğj [Àl] 1 Wb
def z2a(a:zT K ğj EK):M3 P w K mg È:=(Òa).oS P w È 0 Wb QN yZ λb=>(y0o (i:=1) rfl (y05 (i:=1) rfl Łh rfl rfl (um (own:=[ĺb]) rfl) rfl (gg rfl vo (zP xf xZ Ëf zF)) (Αa (xN (i:=5) (show(vj ęm [ĺb]).Nodup by decide +kernel) rfl ç)) Ęg) (z1p (Ak Ëc rfl (Gc rfl Xq Ě) (z9n (χ (xN (i:=3) Łh rfl ç) (qZ (xN (i:=4) Łh rfl ç) XW)) rfl rfl) (CO (Ak Ëc rfl (pI Ňa) (z9o (xN (i:=2) Łh rfl ç) rfl) (CO (z1n ďb çl ŀ ť))))) (CO z1o)))
abbrev E_:Ù:=top 42
def Zz:zm [Ùa,Ãl,Àl,"comers",çe,ūc,ŝb,"need"] [Ùa] (zY E_):=by ac_rfl
variable(jO:mg đ=Ã)(FX:Nx P w K mg È)(Do:M3 P w K mg È)(FV:Nw P w K mg È)(FD:MM P w K mg È)(FK:No P w K mg È)
def Nn:=HD ļk [Ùa] 6 UZ
def z3f(a:zT K ļk E_):Nn P w K mg È:=(Òa).oS P w È 5 UZ Zz yZ λb=>(zk (yj (i:=1) Ĝd rfl ç ŋf) (zk (yj (i:=2) Ĝd rfl ç (yG FX b rfl Ťd)) (zk (yj (i:=3) Ĝd rfl ç (yG Do b rfl Íf)) (zk (Xj (i:=4) Ĝd rfl ç (z9f (yg (cN Ŵp (ιb ġk))) (yg (wu (Δ ßp) ĳd)))) (zk (Xj (i:=5) Ĝd rfl ç (z9i rfl rfl jO rfl vo (Δ Ġl))) (zk (y0m Ëc (ya Ŭe jB (GO 5) ıp Åa) (zk (y0k (i:=5) (j:=6) (qv 5) Ĝd rfl ç) (zk (yj (i:=7) Ĝd rfl ç (zP jl ua (yG FV b rfl Œo) (zP VO ua (z90 FD b rfl (qH (GO 4) (δb (zW ſ zV ŀ Čb)))) (OJ dU dP (yG FK b rfl Œo))))) (zj (Λ (ς (ye b) Čd (z93 ďb (qv 4) Čb)) (zk (y0l (qv 4) Čb Čd) (zj (y0i (qv 5) (zW ſ zV ť Čb))))))))) (y0n 5 (zj (Xi 4)))))))))
abbrev EY:Ù:=top 50
def z8e:zm [ðc] [ðc] (zY EY):=by ac_rfl
variable(TM:vF mg Ÿo Íb)(Q7:∀H,zS K H Íb Íb)(X7:M8 P w K mg È)
def Nb:=HD íj [ðc] 2 Lx
def z2o(a:zT K íj EY):Nb P w K mg È:=(Òa).oS P w È 1 Lx z8e yZ λb=>(Γ (yG X7 b rfl (zC Ě Ín)))
abbrev Ef:Ù:=top 49
def z8i:zm [ðc] [ðc] (zY Ef):=by ac_rfl
variable(TQ:vF mg Üq äa)(Q9:∀H,zS K H äa äa)(Dx:Nb P w K mg È)
def Nc:=HD Źj [ðc] 3 Ly
def z2s(a:zT K Źj Ef):Nc P w K mg È:=(Òa).oS P w È 2 Ly z8i yZ λb=>(zk (ιc (ν (QV .tuple rfl rfl gx Xr Bv þb)) (Ve (ya Ŭe jB (zM Ëf) üc Åa))) (Γ (QT (yG Dx b rfl Ěq) (Xe (yG X7 b rfl (zC Ħd (zC Þp zL)))))))
abbrev EI:Ù:=top 48
def GP:zm [ıb,ąa,"pair"] [ıb] (zY EI):=by ac_rfl
variable(Dz:Nc P w K mg È)
def NO:=HD îj [ıb] 4 UO
def z28(a:zT K îj EI):NO P w K mg È:=(Òa).oS P w È 3 UO GP yZ λb=>(zk (Xj (i:=1) GP.nd rfl ç GY) (zk (Λ ņm (zj òl)) (zk (xO ůl Qc xS) (Λa Úh (Ζa (xN (i:=2) GP.nd rfl ç)) (zk (ψa (gi (uy (yG Dz b rfl Íf)))) (zk (ψa (ya (jC ďb) jA (zM Ġe) (GO 1) Ëi)) (zj (Gv ďb çl Ġe Ġe)))) òl))))
abbrev G7:Ù:=top 51
def z8q:zm [ąa] [ąa] (zY G7):=by ac_rfl
def MN:=HD ňj [ąa] 1 Ua
def z3h(a:zT K ňj G7):MN P w K mg È:=(Òa).oS P w È 0 Ua z8q yZ λb=>(Ν (qI rfl (um (own:=[Öc]) rfl) (pI (yg (z9j rfl rfl Qk Ťd))) (Αa (Ηa (vj [ąa] [Öc]))) (Μ (OV (ya Ŭe jB (zM ěi) üc īh))) (Μ (wD (zC ě (Δ ěi)) (yI ĕc Ð)))))
abbrev EH:Ù:=top 52
def z83:zm Żd Żd (zY EH):=by ac_rfl
def M1:=HD Żj Żd 1 WZ
def z27(a:zT K Żj EH):M1 P w K mg È:=(ŷ).oS P w È 0 WZ z83 yZ λb=>(Γ (z91 ďb Ě ě zF ⟨rfl,rfl,rfl,rfl⟩))
abbrev EG:Ù:=top 53
def z82:zm Ùk Ùk (zY EG):=by ac_rfl
def NM:=HD ïj Ùk 2 WY
def z25(a:zT K ïj EG):NM P w K mg È:=(ŷ).oS P w È 1 WY z82 yZ λb=>(Γ (yG qV b rfl (zC ŵn (zC zF Ín))))
abbrev EX:Ù:=top 54
def z8d:zm [Öc] [Öc] (zY EX):=by ac_rfl
variable(TW:NM P w K mg È)
def Na:=HD Ğj [Öc] 3 Yb
def z2m(a:zT K Ğj EX):Na P w K mg È:=(Òa).oS P w È 2 Yb z8d yZ λd=>(zj (qg (qI rfl (um (own:=[ŝb]) rfl) Őe (Τb (vj [Öc] [ŝb])) ĺe (Ψ (yG TW d rfl Đe)))))
abbrev GL:Ù:=top 55
def z8w:zm Żd Żd (zY GL):=by ac_rfl
variable(Fa:MU P w K mg È)(TZ:Na P w K mg È)(TX:M1 P w K mg È)
def Ny:=HD ŵj Żd 4 Ug
def z3w(a:zT K ŵj GL):Ny P w K mg È:=(ŷ).oS P w È 3 Ug z8w yZ λb=>(Γ (yG Fa b rfl (zC (yg (qI rfl (um (own:=[Ĥf]) rfl) (pI În) (Αa (Υa (vj ["held","address"] [Ĥf]))) Ùg (Μ (yG TX b rfl (zC Ě (zC óe zL)))))) zL)))
abbrev GA:Ù:=top 56
def z8s:zm Œe Œe (zY GA):=by ac_rfl
def Np:HT:=λP w K mg È=>wW P w K mg È Ňj Œe 2 (xL K Wo)
def z3k(a:zT K Ňj GA):Np P w K mg È:=(Ūb).oM P w È 1 Wo z8s vv λb=>(xw (Tu ďb Ž ě (wZ (Τc (Δ Þp)))))
abbrev GB:Ù:=top 57
def GU:zm [ąa,Öc,Ĳa,Ĥf,"byte"] Œe (zY GB):=by ac_rfl
variable(Tc:Np P w K mg È)(Dn:NP P w K mg È)
def Nq:HT:=λP w K mg È=>wW P w K mg È ņj Œe 4 (xL K Ub)
def z3l(a:zT K ņj GB):Nq P w K mg È:=(Ūb).oM P w È 3 Ub GU vv λb=>(xw (C7 Ëc rfl (cR rfl Ql În (yG Dn b rfl Íf)) (z0p (χ (xN (i:=3) GU.nd rfl ç) (qZ (xN (i:=4) GU.nd rfl ç) XW)) rfl rfl Ð Ð) (Οa (kX Tc b rfl (jf Ž (vI ť (vI Ňa qX)))))))
abbrev EC:Ù:=gQ (top 59) 0
def z80:zm őd őd (zY EC):=by ac_rfl
variable(Ou:mg Üa=Ã)(xo:wx K [İ] Çb)(ul:wx K [İ] ûb)(qS:wx K [İ] ąa)
def z22{f:Ç}{b:Ĳ}(d:wj K Ěa Āo EC f b):yz P w K mg È yq 1 f b őd ňr:=d.oM P w mg È 0 WV z80 vv λe=>(xD (jg Ž xo (Ic (GZ rfl jO ře))) (xD (jg Ž ul (Ic (z9g rfl rfl Ou Pv (Δ (Βd (tt (Φb (Γb (vj őd Âe))) rfl) (λC s H a c=>Īm)))))) (xw (jg Ž qS (Ic (z9h rfl Ou Pv Íf))))))
abbrev ET:Ù:=top 60
def z8a:zm ķ ķ (zY ET):=by ac_rfl
def M5:HT:=λP w K mg È=>wW P w K mg È žg ķ 1 (xL K UU)
def z2i(a:zT K žg ET):M5 P w K mg È:=(ŷ).oM P w È 0 UU z8a vv λb=>(ι (wZ Ęb))
abbrev EN:Ù:=top 61
def z86:zm ķ ķ (zY EN):=by ac_rfl
variable(FY:MR P w K mg È)
def NR:HT:=λP w K mg È=>wW P w K mg È ŕg ķ 2 (xL K UR)
def z2d(a:zT K ŕg EN):NR P w K mg È:=(ŷ).oM P w È 1 UR z86 vv λb=>(ι (gV (yG FY b rfl (zC Ÿc (zC zF (zC zF ÿg))))))
abbrev EM:Ù:=top 62
def z85:zm ķ ķ (zY EM):=by ac_rfl
def M4:HT:=λP w K mg È=>wW P w K mg È Ŗg ķ 1 (xL K UQ)
def z2c(a:zT K Ŗg EM):M4 P w K mg È:=(ŷ).oM P w È 0 UQ z85 vv λb=>(ι (gV Ÿc))
abbrev GD:Ù:=top 64
def z8u:zm Ði Ði (zY GD):=by ac_rfl
variable(IH:L_ P w K mg È)(FU:MP P w K mg È)
def Nt:=HD Ăk Ði 2 gB
def z3o(a:zT K Ăk GD):Nt P w K mg È:=(żq).oS P w È 1 gB z8u yZ λb=>(zk (Ιc (zC ŀ Ŧq)) (zk (Ιc (zC ŀ ķj)) (Γ (yG FU b rfl (zC ě (zC ŀ (zC (QT ť (Xe (ο þb Ób))) zL)))))))
abbrev Eu:Ù:=top 65
def z8n:zm Úk Úk (zY Eu):=by ac_rfl
def Nk:HT:=λP w K mg È=>wW P w K mg È Ÿj Úk 2 (xL K Ye)
def z38(a:zT K Ÿj Eu):Nk P w K mg È:=(ŷ).oM P w È 1 Ye z8n vv λb=>(xD (Ωa (ο ġk üc)) (xw (Ωa (ςb (zC ě (zC (zP Zs Zr Ėi zF) Úc))))))
abbrev EW:Ù:=top 63
def bz:zm [Ŧa,"row",çe] ķ (zY EW):=by ac_rfl
variable(X8:Nk P w K mg È)(FP:Nt P w K mg È)
def NZ:HT:=λP w K mg È=>wW P w K mg È Ōc ķ 3 (xL K jX)
def z2l(a:zT K Ōc EW):NZ P w K mg È:=(ŷ).oM P w È 2 jX bz vv λb=>(xD (qD (i:=2) bz.nd rfl ç Ð (gV (yG FP b rfl (Ξd (zC Ÿc (Δ (zW ſ zV (wb Ě ul) zn))))))) (xD (Ωa (zW ſ zV ŀ zF)) (xD (Ιb (vI Ġe qX)) (xw (Τ (ya Ŭe jB êf Ób Åa) (kZ Ĳl Ęb (wZ Ġe)))))))
abbrev Eg:Ù:=top 67
def z8j:zm ñi ñi (zY Eg):=by ac_rfl
def M9:=HD ăk ñi 1 Wd
def z2t(a:zT K ăk Eg):M9 P w K mg È:=(Ūb).oS P w È 0 Wd z8j yZ λb=>(zk (Χ þb Ób (zP VO ua ě ŀ)) (zk (Χ þb Ób (zP jl ua ě ŀ)) (Γ (zP z4d ua ě ŀ))))
abbrev EL:Ù:=top 66
def bw:zm [Ŧa,"row",Ĳa] ķ (zY EL):=by ac_rfl
variable(D_:M9 P w K mg È)
def NQ:HT:=λP w K mg È=>wW P w K mg È ŷd ķ 3 (xL K ZK)
def z2b(a:zT K ŷd EL):NQ P w K mg È:=(ŷ).oM P w È 2 ZK bw vv λb=>(xD (qD (i:=2) bw.nd rfl ç Ð (gV (yG D_ b rfl (Ξd (zC Ÿc zL))))) (xD (Ιb ĥq) (ι (wZ ŀ))))
abbrev ER:Ù:=top 68
def GQ:zm [Ŧa,"row",Ĳa,çe] ķ (zY ER):=by ac_rfl
variable(F9:Nl P w K mg È)(FB:Nm P w K mg È)
def NV:HT:=λP w K mg È=>wW P w K mg È Že ķ 3 (xL K Ya)
def z2g(a:zT K Že ER):NV P w K mg È:=(ŷ).oM P w È 2 Ya GQ vv λb=>(xD (qD (i:=2) GQ.nd rfl ç Ð (gV Ÿc)) (xD (qD (i:=3) GQ.nd rfl ç Ð (wZ (Xc (ya Éc xc êf Ób Åa) (yG F9 b rfl Ůp) (yG FB b rfl Ůp)))) (xD (Τ (ya z4b z3g (zM ĳe) (zM Xd) Åa) (Ωa ĳe)) (xD (Ιb (vI ĳe qX)) (ι (wZ ĳe))))))
abbrev EF:Ù:=top 69
def z81:zm ķ ķ (zY EF):=by ac_rfl
def NL:=HD ðj ķ 3 ZJ
def z24(a:zT K ðj EF):NL P w K mg È:=(ŷ).oS P w È 2 ZJ z81 yZ λb=>(Γ (yG TW b rfl (zC (zW ſ zV (wb Ě xo) Ęb) ÿg)))
abbrev EO:Ù:=top 70
def z87:zm ķ ķ (zY EO):=by ac_rfl
variable(kR:NL P w K mg È)
def NT:HT:=λP w K mg È=>wW P w K mg È Ŕg ķ 4 (xL K US)
def z2e(a:zT K Ŕg EO):NT P w K mg È:=(ŷ).oM P w È 3 US z87 vv λb=>(ι (gV (yG TX b rfl Ŷl)))
abbrev EQ:Ù:=top 71
def z88:zm ķ ķ (zY EQ):=by ac_rfl
variable(FZ:Ny P w K mg È)
def NU:HT:=λP w K mg È=>wW P w K mg È ĵg ķ 5 (xL K UT)
def z2f(a:zT K ĵg EQ):NU P w K mg È:=(ŷ).oM P w È 4 UT z88 vv λb=>(ι (gV (yG FZ b rfl Ŷl)))
abbrev EU:Ù:=top 72
def z8b:zm ķ ķ (zY EU):=by ac_rfl
def NX:HT:=λP w K mg È=>wW P w K mg È Ĵg ķ 4 (xL K UV)
def z2j(a:zT K Ĵg EU):NX P w K mg È:=(ŷ).oM P w È 3 UV z8b vv λb=>(Οa (kX Tc b rfl ŀl))
abbrev EV:Ù:=top 73
def z8c:zm ķ ķ (zY EV):=by ac_rfl
variable(FN:Nq P w K mg È)
def NY:HT:=λP w K mg È=>wW P w K mg È ğg ķ 5 (xL K UW)
def z2k(a:zT K ğg EV):NY P w K mg È:=(ŷ).oM P w È 4 UW z8c vv λb=>(Οa (kX FN b rfl ŀl))
abbrev ES:Ù:=top 75
def z89:zm ķ ķ (zY ES):=by ac_rfl
variable(IB:vF mg "DEEDS" űr)(Js:ZM K w mg WJ p8 RM)(Du:M5 P w K mg È)(Dq:NR P w K mg È)(Dp:M4 P w K mg È)(X6:NZ P w K mg È)(TY:NQ P w K mg È)(II:NV P w K mg È)(Dr:NT P w K mg È)(Ds:NU P w K mg È)(Dv:NX P w K mg È)(Dw:NY P w K mg È)
def NW:HT:=λP w K mg È=>wW P w K mg È Ąk ķ 6 (xL K qp)
def z2h(a:zT K Ąk ES):NW P w K mg È:=(ŷ).oM P w È 5 qp z89 vv λb=>(xw (Τ (y0p IB Js rfl Ęb) (j9 (z0k IB Js rfl (ģa Du Ð (ģa Dq Ð (ģa Dp Ð (ģa X6 Ð (ģa X6 Ð (ģa X6 Ð (ģa X6 Ð (ģa X6 Ð (ģa TY Ð (ģa TY Ð (ģa TY Ð (ģa II Ð (ģa II Ð (ģa Dr Ð (ģa Ds Ð (ģa Dv Ð (ģa Dw Ð vM.nil))))))))))))))))) b Ęb (jf Ž Ħq)))))
abbrev Et:Ù:=top 76
def z8m:zm ķ ķ (zY Et):=by ac_rfl
def MI:=HD Ľk ķ 1 qq
def z36(a:zT K Ľk Et):MI P w K mg È:=(ŷ).oS P w È 0 qq z8m yZ λb=>(zk (Χ êf Ób Ļm) (zk (Χ êf Ób (z95 Ļm)) (Γ (ο êf Ób))))
abbrev GN:Ù:=top 79
def z8y:zm [śb] [śb] (zY GN):=by ac_rfl
variable(Hf:mg "all"=Ã)(IC:vF mg āo äa)(O4:∀H,zS K H äa äa)
def Nz:=HD êj [śb] 2 Ui
def z3y(a:zT K êj GN):Nz P w K mg È:=(Òa).oS P w È 1 Ui z8y yZ λc=>(zk (Λ ņm (Ν (cN Ŵp àp))) (zk (ψa (Y6 (Vd ůl (Ve (ς (ye c) Ëf àp))))) (zk (ψa (ν (jF (l6 rfl) z26 rfl Hf iq (δb (yg (qI rfl (um (own:=[ðc]) rfl) Úh (tt (λC s H b d=>(Ηa (vj [śb] [ðc]))) rfl) (λC s H b d=>jK) (λC s H b d=>(yG X7 c rfl (zC ě (Δ Ėi)))))))))) (Ν (GZ rfl jO Ťd)))))
abbrev E9:Ù:=gQ œc 2
def z7z:zm Ņ Ņ (zY E9):=by ac_rfl
variable(j0:wx K [Ú] ūc)(ZW:wx K [Ú] ňa)(Ww:wx K [Ú] Ŀb)
def z1z{f:Ç}{b:Ĳ}(d:wj K ñc Ăo E9 f b):yz P w K mg È yq 1 f b Ņ Ŏr:=d.oF P w mg È 0 vX z7z yZ λa=>(Γ (cG (ηa Ćc ġq (wb Ě Ww)) (Xe (ηa Ćc (zW Ňd zV ßm zF) ŵp))))
abbrev E4:Ù:=gQ œc 1
def z7u:zm Ņ Ņ (zY E4):=by ac_rfl
variable(qy:wx K [Ú] Ŧa)(Wx:wx K [Ú] īc)(Wy:wx K [Ú] Óc)(Wv:wx K [Ú] ďd)(Fj:MV P w K mg È İ őd 1 ňr)
def z1u{f:Ç}{a:Ĳ}(d:wj K õf ĵo E4 f a):yz P w K mg È yq 3 f a Ņ Ňr:=d.oM P w mg È 2 ZH z7u vv λb=>(xD (jg Ž qy (z0l Fj b rfl (jf (ux Ž Wy) (jf (ux Ž Wx) qX)))) (xD (jg Ž j0 (wZ zF)) (xw (jg Ž Wv (wZ zF)))))
abbrev EA:Ù:=gQ œc 3
def br:zm [Âl,çe] Ņ (zY EA):=by ac_rfl
variable(Xm:jY P w K mg È Ú ñc Ņ 1 Ŏr)(Dt:NW P w K mg È)(F8:MI P w K mg È)
def z20{f:Ç}{b:Ĳ}(d:wj K ľb ŷo EA f b):yz P w K mg È yq 7 f b Ņ Ņr:=d.oM P w mg È 6 ww br vv λa=>(xD (Τ (uy (qf Xm a Ě)) Ţe) (xD (qD (i:=1) br.nd rfl ç Ð (gV ßm)) (xD (j9 (kX Dt a rfl (jf (ux Ž qy) (vI Èg qX)))) (xD (jg Ž j0 (gV (Xc (uy (yG F8 a rfl (zC ĳg (Δ Èg)))) Èg Èg))) (xD (z0u Ž Wv zF) (xw Ţe))))))
abbrev E8:Ù:=gQ œc 5
def z7y:zm Ņ Ņ (zY E8):=by ac_rfl
def z1y{f:Ç}{a:Ĳ}(d:wj K śb ın E8 f a):yz P w K mg È yq 1 f a Ņ őr:=d.oF P w mg È 0 jW z7y yZ λb=>(Ν (GZ rfl jO (Δ (wb ĳg xo))))
abbrev E5:Ù:=gQ œc 6
def z7v:zm Ņ Ņ (zY E5):=by ac_rfl
def z1v{f:Ç}{b:Ĳ}(d:wj K ąd Ĵo E5 f b):yz P w K mg È yq 1 f b Ņ ŏr:=d.oF P w mg È 0 qo z7v yZ λe=>(Μc (Βd (tt (Φb (Ηa (vj [Âl] Âe))) rfl) (Φb (zW (zU (zN e)) zV (wb ĳg ul) ě))))
abbrev E6:Ù:=gQ œc 7
def z7w:zm Ņ Ņ (zY E6):=by ac_rfl
variable(FJ:MN P w K mg È)
def z1w{f:Ç}{a:Ĳ}(d:wj K ıb ăo E6 f a):yz P w K mg È yq 2 f a Ņ Őr:=d.oF P w mg È 1 kB z7w yZ λb=>(Ν (uw FJ b rfl (Δ (wb ĳg qS))))
abbrev E7:Ù:=gQ œc 9
def z7x:zm Ņ Ņ (zY E7):=by ac_rfl
def z1x{f:Ç}{a:Ĳ}(d:wj K ĺb ĳo E7 f a):yz P w K mg È yq 1 f a Ņ Œr:=d.oF P w mg È 0 YZ z7x yZ λb=>(Γ ġq)
abbrev C_:Ù:=gQ œc 0
def z7t:zm Će Će (zY C_):=by ac_rfl
variable(HN:jY P w K mg È Ú õf Ņ 3 Ňr)(Fb:Nz P w K mg È)(Dm:NO P w K mg È)
def z1t{f:Ç}{b:Ĳ}(d:wj K Ěa Šn C_ f b):yz P w K mg È yq 5 f b Će ŉr:=d.oM P w mg È 4 WU z7t vv λa=>(xD (jg Ž ZW (wZ ě)) (xD (jg Ž Ww (wZ ŀ)) (xD (jg Ž Wy (wZ (yg (uw Fb a rfl àk)))) (xD (jg Ž Wx (wZ (yg (uw Dm a rfl żg)))) (Οa (Ts HN a Ž))))))
abbrev GE:Ù:=top 83
def QQ:zm [Ùa,Ãl,ňa,ŝb,"target"] [Ùa] (zY GE):=by ac_rfl
def Nu:=HD Ŝi [Ùa] 4 Uc
def z3p(a:zT K Ŝi GE):Nu P w K mg È:=(Òa).oS P w È 3 Uc QQ yZ λb=>(zk (yj (i:=1) ľh rfl ç ŋf) (zk (Xj (i:=2) ľh rfl ç GY) (Λa æm (z9m (χ (xN (i:=3) ľh rfl ç) (qZ (xN (i:=4) ľh rfl ç) XW)) rfl rfl) (zj (Gv ďb (qv 2) ť (wD (zC (zW ſ zV ě ť) (zC Úg żg)) īd))) (Xi 2))))
abbrev EB:Ù:=gQ (top 82) 0
def bu:zm [Âl,Ùa,śb,ıb,ňa] Ŷf (zY EB):=by ac_rfl
variable(HQ:JT P w K mg È Õr Ěa Će 5 ŉr)(FQ:Nu P w K mg È)
def z21{f:Ç}{a:Ĳ}(d:wj K Ěa Þn EB f a):yz P w K mg È yq 6 f a Ŷf ņr:=d.oM P w mg È 5 ZI bu vv λb=>(xD (qD (i:=4) bu.nd rfl ç Ð (wZ (yg (uw FQ b rfl ře)))) (Οa (z0j (pl:=_) HQ b rfl (jf Ž (vI Ňa (vI (jF lB z37 rfl uS gI (qH (zM Ňa) qd)) (vI ŀ (vI ť qX))))))))
abbrev El:Ù:=top 85
def z8l:zm Çf Çf (zY El):=by ac_rfl
def ME:=HD ŵi Çf 1 Wj
def z2z(a:zT K ŵi El):ME P w K mg È:=(ŷ).oS P w È 0 Wj z8l z7l λb=>(zk (Λ (ya Ip VM ġk (zM Ëf) Åa) (Γ ěi)) (zj (yW zF)))
abbrev Em:Ù:=top 86
def b_:zm [Źa,įc,Ğb] Çf (zY Em):=by ac_rfl
variable(F4:ME P w K mg È)
def Ng:=HD Ġj Çf 2 uj
def z30(a:zT K Ġj Em):Ng P w K mg È:=(ŷ).oS P w È 1 uj b_ yZ λb=>(zk (yj (i:=2) b_.nd rfl ç (zP xf xZ (zP xf xZ (zP xf xZ (zP Iq aA (yG F4 b rfl Đe) zF) (zP Iq A_ zF ě)) (zP Iq A_ zF Ëf)) zF)) (Γ (Ι (zP Iq aA (zP xF xE (zP z49 z3d ŀ ŀ) zF) zF))))
abbrev Es:Ù:=top 87
def GS:zm [Őp] [] (zY Es):=by ac_rfl
def MH:=HD ñj [] 1 UY
def z35(a:zT K ñj Es):MH P w K mg È:=(a.d0 X G).oS P w È 0 UY GS yZ λb=>(zk (yj (i:=0) GS.nd rfl ç (yg (wu (zC zn (zC zn (zC zn (zC zn (zC zn ěq))))) (yI (zQ (zQ (zQ (zQ (zQ (zQ Çi)))))) Ð)))) (zk (yj (i:=0) GS.nd rfl ç (Θd (wu ěq (yI (zQ Çi) Ð)))) (Γ (Θd (wu Ąl (yI Çi Ð))))))
abbrev Er:Ù:=top 88
def VX:zm [Ğb,ái,ńe,Õq,ōj,"_law_two","_law_rest"] ěp (zY Er):=by ac_rfl
variable(F7:MH P w K mg È)
def Nj:=HD Íj ěp 2 UX
def z34(a:zT K Íj Er):Nj P w K mg È:=(Ūb).oS P w È 1 UX VX yZ λb=>(zk (yj (i:=3) īf rfl ç (μ (z8z F7 b rfl) ðo)) (zk (yj (i:=0) īf rfl ç ġc) (zk (yj (i:=4) īf rfl ç (zP xF xE Ě ŀ)) (zk (yj (i:=5) īf rfl ç (zP xF xE ġc ŀ)) (zk (yj (i:=6) īf rfl ç ġc) (zk öl (zk öl (zk (xO (Τa ďb ť (wD (zC zn Ņn) ói)) (Γ (wD (zC ť (zC Ňa (zC Žb (zC (μ (οa (zC ák (zC ák zL))) Ĵr) zL)))) ói)) xS) (zk (Χ éf Ób (wD (zC ť ôm) Īd)) (zk (xO (Τa ďb ť (Μa ňi)) (μc (zC (μ (yg (wu Ņn īd)) (Ι Žb)) ôm)) xS) (zk (Χ éf Ób (wD ķj (yI (zQ yK) Ð))) (μc (zC Ňa (zC Žb zL))))))))))))))
abbrev En:Ù:=top 89
def VW:zm [Ğb,ńe,"_law_letters","_law_size",Õq,"_law_spot"] ĉr (zY En):=by ac_rfl
def MF:=HD òj ĉr 1 Wl
def z31(a:zT K òj En):MF P w K mg È:=(ŷ).oS P w È 0 Wl VW yZ λd=>(zk (yj (i:=2) Ĭf rfl şb zn) (zk (yj (i:=3) Ĭf rfl ç ðo) (zk (yj (i:=4) Ĭf rfl şb (z94 zn (zM (yg (qI rfl ŭf śo ûl ĺe (Ψ (ωc (zP u8 u7 ġc (zW ŝn zV (yg (wu (z7r (is:=Ÿh) rfl) (yI (iC (n:=7) Ð) Ð))) Čb))))))))) (zk (yj (i:=5) Ĭf rfl şb (zP xF xE ġc Úg)) (zk (yj (i:=4) Ĭf rfl şb (GW Ňa Gd (Ge zF))) (Ν (qI rfl ŭf (gg rfl vo ě) ûl ĺe (Ψ (zP xf xZ (zP xf xZ (GW Īh Gd (Ge Žb)) (ωc (zP xf xZ ġc Čb))) (GW Īh (Ge Žb) Gd))))))))))
abbrev Eo:Ù:=top 90
def Xb:zm ŋh ín (zY Eo):=by ac_rfl
variable(pE:Ng P w K mg È)(Tb:MF P w K mg È)(F6:Nj P w K mg È)
def Nh:=HD Ĵi ín 3 Yd
def z32(a:zT K Ĵi Eo):Nh P w K mg È:=(Ūb).oS P w È 2 Yd Xb yZ λb=>(zk (yj (i:=3) üe rfl ç (zP xF xE (yG pE b rfl Đe) ïo)) (zk (yj (i:=4) üe rfl şb (yG Tb b rfl (zC Þk (Δ Úg)))) (zk (yj (i:=5) üe rfl şb (μ (οa ži) (Ι Þk))) (zk (y0j (i:=6) rfl üe rfl rfl ŭf rfl śo (Αc (vj ŋh [įc])) Ùg (Μ (yG F6 b rfl (zC (Βb (zP xf xZ ŗf Ţc)) (zC Ňa (Δ Žb)))))) (zk (Xj (i:=8) üe rfl ç Ĝe) (Λa (gg rfl vo Úg) (Ζa (xN (i:=7) üe rfl şb)) (zk (xO (Y6 (Vd (ς (ye b) (yg (qI rfl (um (own:=[Ōj]) rfl) (pI Čb) (Αc (vj ŋh [Ōj])) (Μ (OV (ya Éc xc (zM (μ Ţc ņp)) (zM ńn) īh))) (Μ Ţc))) (yg Ĝe)) (Ve (ya Éc xc (zM (Ι (zP u8 u7 Þk zF))) (zM Čd) Åa)))) (zj (Gu (qv 8) (wD (zC zn (Δ ńn)) Īd))) xS) (zj (Λ (ya Ip VM (zM Čd) éf Åa) (zj (Gu (qv 8) (zW ſ zV Čb Čd)))))) (Xi 8)))))))
abbrev Ep:Ù:=top 91
def OH:zm [Źa,ľe,Őp,įc,Ğb] Ċr (zY Ep):=by ac_rfl
def Ni:=HD ŉi Ċr 3 Wm
def z33(a:zT K ŉi Ep):Ni P w K mg È:=(ŷ).oS P w È 2 Wm OH yZ λb=>(zk (Xj (i:=2) OH.nd rfl ç Ĝe) (Λa Őe (Ζa (xN (i:=3) OH.nd rfl ç)) (zk (yj (i:=4) OH.nd rfl ç (Βb (zP xf xZ ě ť))) (zj (Gu (qv 2) (μ (yg (wu (zC Îf (zC Îf (zC (zP Zs Zr zF Ŵm) (Δ Ŵm)))) ói)) Îf)))) (Xi 2)))
abbrev Ej:Ù:=top 92
def Xa:zm [Ğb,ái,ńe,ój,įc,Ōj] [Ğb] (zY Ej):=by ac_rfl
def Nf:=HD Şi [Ğb] 2 Wh
def z2x(a:zT K Şi Ej):Nf P w K mg È:=(Òa).oS P w È 1 Wh Xa yZ λb=>(zk (yj (i:=1) ýe rfl ç (yG Tb b rfl (zC Ě Úc))) (zk (yj (i:=2) ýe rfl ç (zP xf xZ zF Ĵr)) (zk (yj (i:=3) ýe rfl ç (yg (wu (zC (Μa (Δ (zW ſ zV ě ŀ))) (zC (Μa ÿg) (Δ ŵp))) īd))) (zk (Xh Ëc rfl (z9u rfl vo zF ïo) (Ζa (xN (i:=4) ýe rfl ç)) (zk (yj (i:=5) ýe rfl ç (zW ſ zV (Κd (zC Îf (Δ æi)) (ζa (zC æi (zC Îf zL)))) æi)) (zj (yj (i:=3) ýe rfl ç (zP xf xZ ť (yg (wu (zC (Μa (Δ (ζ Īh))) (zC Žb (Δ (Μa (zC (ζ (zP Zs Zr Īh zF)) zL))))) īd))))))) (Γ ť)))))
abbrev Ek:Ù:=top 93
def GR:zm [ój,ōj,ŏp,"_law_ahead","_law_more",ľe,ÿp] ĩl (zY Ek):=by ac_rfl
variable(IQ:MX P w K mg È Ú Ŷf 6 ņr įf)(Xn:jY P w K mg È Ú ľb Ņ 7 Ņr)
def MD:HT:=λP w K mg È=>wW P w K mg È ôj ĩl 8 (xL K Wi)
def z2y(a:zT K ôj Ek):MD P w K mg È:=(a.d5 X G).oM P w È 7 Wi GR vv λb=>(xD (qD (i:=5) GR.nd rfl ç Ð (A3 IQ b rfl (vI (Ωc àk) Ħq))) (xD (qD (i:=6) GR.nd rfl ç Ð (A3 IQ b rfl (vI (Ωc żg) ĥq))) (xD (j9 (Ts Xn b (xB 5))) (xD (j9 (Ts Xn b (xB 6))) (xw (XG (z0m (A9 (A4 5) (A9 (A4 6) z0t)))))))))
abbrev Ei:Ù:=top 94
def z8k:zm ļf ļf (zY Ei):=by ac_rfl
def MB:=HD õj ļf 1 Wg
def z2w(a:zT K õj Ei):MB P w K mg È:=(Ūb).oS P w È 0 Wg z8k yZ λb=>(Γ (ο (zM (yg (qI rfl ŭf Őe (Αa (Γb (vj ļf [įc]))) (Μ (OV (Y6 (d7 (ya Ŭe jB (zM (zW ſ zV Ě ĕf)) (zM (ζ ĕf)) īh) (d8 (ya Éc xc (zM (zP VO ua (zP Ir Io óe (zP xf xZ zF ĕf)) zF)) üc īh)))))) (Μ ĕf)))) ıp))
abbrev XZ:Ù:=top 95
def qe:zm [Źa,ój,ōj,ŏp,"_law_need",įc,Ğb,"_law_rows",ľe,ÿp,"_law_turn"] [Źa] (zY XZ):=by ac_rfl
variable(Vg:jY P w K mg È Ú ąd Ņ 1 ŏr)(Oe:jY P w K mg È Ú ĺb Ņ 1 Œr)(Od:jY P w K mg È Ú ıb Ņ 2 Őr)(Of:jY P w K mg È Ú śb Ņ 1 őr)(IJ:MD P w K mg È)(F5:Nh P w K mg È)(F3:Nf P w K mg È)(IK:Ni P w K mg È)(FI:Nn P w K mg È)(F2:MB P w K mg È)
def z2v{f:Ç}{c:Ĳ}(d:Fun K Ēb Ēb XZ f c):yz P w K mg È yq 9 f c [Źa] ól:=z02 d qe Ð vv z7k λe A b s H E a=>(xD (Νc (yg (uw F5 a rfl (zC Ě ži)))) (xD (Τ (Χc (Ι Ói)) (Νc (yG F3 a rfl (Δ (zP u8 u7 Ói zF))))) (xD (qD (i:=2) ěd rfl ç Ð (wZ (yg ňm))) (xD (qD (i:=3) ěd rfl ç Ð (Ic ňm)) (xD (qD (i:=4) ěd rfl ç Ð (wZ (zW Ňd zV (yg (uw FI a rfl ře)) zF))) (xD (C7 Ëc rfl Őe (A8 (xN (i:=5) ěd rfl ç) rfl Ð) (xw (Τ (Χc (zP VO ua (zP Ir Io Ňa Žb) zF)) (kZ (xB 3) Žb (wZ (zW Ňd zV ŀ Žb)))))) (z0v (i:=3) (xD (qD (i:=6) ěd rfl ç Ð (wZ Ói)) (xD (qD (i:=7) ěd rfl ç Ð (wZ (Κd (zC ák (Δ êi)) (ζa (zC êi (zC êi zL)))))) (xD (Ζd (χ Œm êm) (Ρc (vI ť (vI Ŵn (vI Ŵn qX))))) (xD (Τ (ν (yG F2 a rfl (zC Ĺp (zC ĺp żg)))) (Ζd (XV (n:=2) rfl (qZ Œm êm)) (Ρc (vI ť (vI ĝr (vI ĝr qX)))))) (xD (C7 Ëc rfl Őe (A8 (xN (i:=10) ěd rfl ç) rfl Ð) (xD (Τ (Y6 (Vd (ς Ćc (qf Oe a ýf) (qf Oe a Ţc)) (Ve (ς Ćc ĸp (qf Xm a Ţc))))) Ţe) (xw (gW (z13 (z11 (z0w (jD Ćc) jB (Ts Xn a (xB 8)) (Ts Xn a (xB 9)) Åa) (z12 (gY (ς Ćc (qf Od a ýf) (qf Od a Ţc)))))) (xw Ţe) gX)))) (xD (Τ (ν ĸp) Ţe) (xw (XG (gV (QT (ηa Ćc (qf Of a ýf) (qf Of a Ţc)) (Xe (ηa Ćc Ĺp ĺp)))))))))))))))))))
omit a
omit a
def all_mk{l:Ík}{w:Þ}{K:Î}{h:Heap}{a:Str->Æ Value}(X:š h)(G:đa ă a)(hfa:a Ēb=À (.ref fa))(a0:zT K ĝj Ee)(a1:zT K ľk ED)(a2:zT K Ļk GF)(a3:zT K Äl G8)(a4:zT K ìj Ew)(a5:zT K Ìj Ex)(a6:zT K Ěj GK)(a7:zT K ŋj EJ)(a8:zT K Ŵj GM)(a9:zT K Ŋj Ec)(a10:zT K źj EZ)(a11:zT K ŷj GC)(a12:zT K Ŵi Eh)(a13:zT K ëj GG)(a14:zT K ŉj Ev)(a15:zT K ĳi Ey)(a16:zT K Ál GH)(a17:zT K "put" G9)(a18:zT K ěj GI)(a19:zT K Ŷj GJ)(a20:zT K Ĝj Ez)(a21:zT K ğj EK)(a22:zT K ļk E_)(a23:zT K íj EY)(a24:zT K Źj Ef)(a25:zT K îj EI)(a26:zT K ňj G7)(a27:zT K Żj EH)(a28:zT K ïj EG)(a29:zT K Ğj EX)(a30:zT K ŵj GL)(a31:zT K Ňj GA)(a32:zT K ņj GB)(a33:JX K İ Āo EC őd)(Y:qt K žg ET A)(T:qt K ŕg EN z)(O:qt K Ŗg EM u)(a37:zT K Ăk GD)(a38:zT K Ÿj Eu)(d:qt K Ōc EW b)(a40:zT K ăk Eg)(j:qt K ŷd EL c)(x:qt K Že ER g)(a43:zT K ðj EF)(a44:qt K Ŕg EO E)(Z:qt K ĵg EQ F)(U:qt K Ĵg EU C)(Q:qt K ğg EV B)(a48:zT K Ąk ES)(a49:zT K Ľk Et)(a50:zT K êj GN)(a51:gD K Ú Ú ñc Ăo E9 Ņ)(a52:gD K Ú Ú õf ĵo E4 Ņ)(a53:gD K Ú Ú ľb ŷo EA Ņ)(a54:gD K Ú Ú śb ın E8 Ņ)(a55:gD K Ú Ú ąd Ĵo E5 Ņ)(a56:gD K Ú Ú ıb ăo E6 Ņ)(a57:gD K Ú Ú ĺb ĳo E7 Ņ)(a58:JQ K Õr Ěa Šn C_ Će)(a59:zT K Ŝi GE)(a60:JW K Ú Þn EB Ŷf)(a61:zT K ŵi El)(a62:zT K Ġj Em)(a63:zT K ñj Es)(a64:zT K Íj Er)(a65:zT K òj En)(a66:zT K Ĵi Eo)(a67:zT K ŉi Ep)(a68:zT K Şi Ej)(a69:zT K ôj Ek)(a70:zT K õj Ei)(a71:ş K ă Ēb=À (À (.ref y)))(l71:Ça y=IA Ēb XZ P od71 R o t r q i m)(c71:ĵb K i Ēb=Â)(k71:Øa K (.ref y)=Â)(Aq:Gn K Ðd)(Ap:Gn K Ŭc)(Am:Gn K ćf)(Ax:Gn K Ũ)(Aw:Gn K "sum")(Ay:Gn K Ļa)(Av:Gn K įb)(Au:Gn K ļ)(Ao:Gn K ãc)(At:Gn K ña)(Ar:Gn K "len")(As:Gn K đ)(An:Gn K Üa)(Al:Gn K "all")(Wv:wx K [Ú] ďd)(j0:wx K [Ú] ūc)(Ww:wx K [Ú] Ŀb)(Wx:wx K [Ú] īc)(Wy:wx K [Ú] Óc)(L:wx K [İ] ąa)(S:wx K [Ú] Ŧa)(ZW:wx K [Ú] ňa)(I:wx K [İ] ûb)(f:wx K [İ] Çb)(AO:Gs K "DEEDS" űr)(Aj:Dc K w WJ [(ļ,y22,.ref A),(čb,y2a,.ref z),(ĵa,y2b,.ref u),(ĥa,y2c,.ref b),(ča,y2d,.ref b),(Ľa,y2e,.ref b),(Ča,y2f,.ref b),(Æa,y2g,.ref b),(ųa,y2h,.ref c),(Ŷa,y2i,.ref c),(Ýb,y23,.ref c),(ĸa,y24,.ref g),(ıa,y25,.ref g),(ōa,y26,.ref E),(Ŋa,y27,.ref F),(ŉa,y28,.ref C),(ńa,y29,.ref B)])(AL:Gs K "BEYOND" (.int 4294967296 y1v))(Ab:Gs K Öq (.int 32 y1z))(AN:Gs K Ûq Źg)(CF:Tq K Ã WI [.int 0 y2x,.int 8 y3g,.int 16 y3p,.int 24 y3x])(AQ:Gs K "JUMPS" Ÿg)(CG:Tq K Ã WK [.str ŏa y2y,.str ĉa y3h,.str Ąa y3q])(AW:Gs K Ľq (.int 8 y1x))(AU:Gs K "MARKS" űg)(CK:Tq K Ã YV [.str ía y32,.str ěa y3l,.str Ĵa y3t])(AK:Gs K őp (.int 2047 y1u))(AS:Gs K Úq Ŷg)(CI:Tq K Ã WM [.str čb y30,.str ĸa y3j,.str ıa y3r,.str ĥa y3y,.str ča y43,.str Ľa y48,.str Ča y4d,.str ųa y4i,.str Ŷa y4m,.str Ýb y4q,.str Æa y36,.str ŉa y39,.str ńa y3c])(AT:Gs K Ùq ŵg)(CJ:Tq K Ã WN [.str ĵa y31,.str ōa y3k,.str Ŋa y3s,.str ĥa y3z,.str ča y44,.str Ľa y49,.str Ča y4e,.str ųa y4j,.str Ŷa y4n,.str Ýb y4r,.str Æa y37,.str ŉa y3a,.str ńa y3d])(AR:Gs K Ķo ŷg)(CH:Tq K Ã WL [.str ča y2z,.str Ča y3i])(AY:Gs K "PUT_D" ųg)(CM:Tq K Ã WP [.str ļ y34,.str čb y3n,.str ĵa y3v,.str ōa y41,.str Ŋa y46,.str ĥa y4b,.str ča y4g,.str Ľa y4k,.str Ča y4o,.str ųa y4s,.str Ŷa y38,.str Ýb y3b,.str ĸa y3e,.str ıa y3f])(AZ:Gs K ßn Ųg)(CN:Tq K Ã WQ [.str ĥa y35,.str ča y3o,.str Ľa y3w,.str Ča y42,.str Æa y47,.str ųa y4c,.str Ŷa y4h,.str Ýb y4l,.str ĸa y4p,.str ıa y4t])(AX:Gs K Øq Ŵg)(CL:Tq K Ã WO [.str ĥa y33,.str ča y3m,.str Ľa y3u,.str Ča y40,.str Æa y45,.str ĸa y4a,.str ıa y4f])(AJ:Gs K Ÿo (.int 16 y1t))(AM:Gs K Üq (.int 8 y1w))(Aa:Gs K āo (.int 8 y1y)): ∃fd:Ĳ,(∀(s:É)(v:Value),Ŝc s fd ⟨[v],[]⟩ [(Źa,v)])/\∀È:Heap,š È->Ùe ă a->yz ĳ w K a È yq 9 fa fd [Źa] ól:=by
 have e:=hfa.symm.trans (řc X G a71);cases e;have gx:=qU X G Aq;have Hh:=qU X G Ap;have Hg:=qU X G Am;have Xr:=qU X G Ax;have Hj:=qU X G Aw;have Ql:=qU X G Ay;have Qk:=qU X G Av;have Hi:=qU X G Au;have Xq:=qU X G Ao;have k:=qU X G At;have p:=qU X G Ar;have N:=qU X G As;have Ou:=qU X G An;have Hf:=qU X G Al;have IB:=gM X G AO;have Js:ZM K w a WJ p8 RM:=mE (fs:=[A,z,u,b,b,b,b,b,c,c,c,g,g,E,F,C,B]) Aj rfl ãa rfl (.cons (Y.n X G) (.cons (T.n X G) (.cons (O.n X G) (.cons Òf (.cons Òf (.cons Òf (.cons Òf (.cons Òf (.cons ôk (.cons ôk (.cons ôk (.cons ŋr (.cons ŋr (.cons (a44.n X G) (.cons (Z.n X G) (.cons (U.n X G) (.cons (Q.n X G) .nil)))))))))))))))));have V8:=X2 X G AL;have VR:∀H,zS K H Ķd Ķd:=λ_=>rfl
 have Zh:=X2 X G Ab;have Zx:∀H,zS K H Ĳc Ĳc:=λ_=>rfl
 have TR:=gM X G AN;have y65:=Z3 CF;have QB:∀H,zS K H V9 Źg:=Z4 CF rfl;have DU:=gM X G AQ;have y66:=Z3 CG;have Cg:∀H,zS K H IG Ÿg:=Z4 CG rfl;have DY:=X2 X G AW;have Ck:∀H,zS K H äa äa:=λ_=>rfl
 have X1:=gM X G AU;have Fi:=Z3 CK;have XT:∀H,zS K H VA űg:=Z4 CK rfl;have TN:=X2 X G AK;have Q8:∀H,zS K H çd çd:=λ_=>rfl
 have DW:=gM X G AS;have y68:=Z3 CI;have Ci:∀H,zS K H Dh Ŷg:=Z4 CI rfl;have DX:=gM X G AT;have y69:=Z3 CJ;have Cj:∀H,zS K H Di ŵg:=Z4 CJ rfl;have DV:=gM X G AR;have y67:=Z3 CH;have Ch:∀H,zS K H Dg ŷg:=Z4 CH rfl;have Db:=gM X G AY;have y6b:=Z3 CM;have Cn:∀H,zS K H Dk ųg:=Z4 CM rfl;have Dd:=gM X G AZ;have y6c:=Z3 CN;have Co:∀H,zS K H Dl Ųg:=Z4 CN rfl;have Da:=gM X G AX;have y6a:=Z3 CL;have Cm:∀H,zS K H Dj Ŵg:=Z4 CL rfl;have TM:=X2 X G AJ;have Q7:∀H,zS K H Íb Íb:=λ_=>rfl
 have TQ:=X2 X G AM;have Q9:∀H,zS K H äa äa:=λ_=>rfl
 have IC:=X2 X G Aa;have O4:∀H,zS K H äa äa:=λ_=>rfl
 have F71:=Rt (st:=XZ) l71 c71 k71;refine⟨ċb Ēb Ēb (t_ XZ) (wz XZ) (zY XZ) .none o t r q i m,λs v=>.of_eq rfl,λbase _ _=>?_⟩;have X7:M8 ĳ w K a È:=z2r X G gx Hh Hg a0;have IH:L_ ĳ w K a È:=z23 X G V8 VR a1;have FU:MP ĳ w K a È:=z3q X G V8 VR a2;have J:MO ĳ w K a È:=z3i X G a3;have F9:=z3a X G Zh Zx J a4;have FB:=z3b X G J a5;have FY:MR ĳ w K a È:=z3v X G a6;have Dn:=z29 X G J Xr TR QB a7;have Fa:MU ĳ w K a È:=z3x X G TR QB Hj Ql a8;have Ta:M7 ĳ w K a È:=z2q X G a9;have Dy:M6 ĳ w K a È:=z2p X G DU Cg a10;have kS:=z3m X G Ta a11;have F0:=z2u X G Ta a12;have Td:=z3r X G F0 kS Dy a13;have Zj:MJ ĳ w K a È:=z39 X G DY Ck X1 XT Fi a14;have FC:MK ĳ w K a È:=z3c X G a15;have FV:=z3s X G TN Q8 DW Ci DX Cj DV Ch Zj a16;have FK:=z3j X G Zj Db Cn Dd Co Da Cm FC a17;have FW:MQ ĳ w K a È:=z3t X G Qk Hi a18;have FX:=z3u X G kS Xq Td FW a19;have FD:MM ĳ w K a È:=z3e X G a20;have Do:M3 ĳ w K a È:=z2a X G Xq k p a21;have FI:=z3f X G kS TN Q8 k p N FX Do FV FD FK a22;have Dx:=z2o X G TM Q7 X7 a23;have Dz:=z2s X G gx Xr p X7 TQ Q9 Dx a24;have Dm:=z28 X G gx N Dz a25;have FJ:MN ĳ w K a È:=z3h X G Qk a26;have TX:M1 ĳ w K a È:=z27 X G a27;have TW:=z25 X G J TM Q7 a28;have TZ:=z2m X G k TW a29;have FZ:=z3w X G Fa TZ TX a30;have Tc:=z3k X G J TQ Q9 a31;have FN:=z3l X G Ql TZ Tc Dn a32;have Fj:=a33.hh X G ĳ w È (z22 X1 XT N Ou f I L);have Du:M5 ĳ w K a È:=z2i X G f Y.2;have Dq:=z2d X G f FY T.2;have Dp:M4 ĳ w K a È:=z2c X G f O.2;have FP:=z3o X G IH FU a37;have X8:=z38 X G Zh Zx J I a38;have X6:=z2l X G f I X8 FP d.2;have D_:M9 ĳ w K a È:=z2t X G a40;have TY:=z2b X G f X8 D_ j.2;have II:=z2g X G f I X8 F9 FB x.2;have kR:=z24 X G TW f a43;have Dr:=z2e X G TX f L kR a44.2;have Ds:=z2f X G f L kR FZ Z.2;have Dv:=z2j X G Tc f L kR U.2;have Dw:=z2k X G f L kR FN Q.2;have Dt:=z2h X G IB Js Du Dq Dp X6 TY II Dr Ds Dv Dw a48;have F8:MI ĳ w K a È:=z36 X G I a49;have Fb:=z3y X G gx Zh Zx p N X7 Hf IC O4 a50;have Xm:=(a51.hh ĳ w a È (z1z j0 ZW Ww)).1;have HN:=(a52.hh ĳ w a È (z1u j0 S Wx Wy Wv Fj)).1;have Xn:=(a53.hh ĳ w a È (z20 j0 ZW S Wv Xm Dt F8)).1;have Of:=(a54.hh ĳ w a È (z1y N f S)).1;have Vg:=(a55.hh ĳ w a È (z1v Xr X1 XT I S)).1;have Od:=(a56.hh ĳ w a È (z1w L S FJ)).1;have Oe:=(a57.hh ĳ w a È (z1x j0)).1;have HQ:=a58.hh X G ĳ w È (z1t ZW Ww Wx Wy HN Fb Dm);have FQ:=z3p X G kS Xq Td a59;have IQ:=a60.hh X G ĳ w È (z21 p HQ FQ);have F4:ME ĳ w K a È:=z2z X G p a61;have pE:=z30 X G p F4 a62;have F7:MH ĳ w K a È:=z35 X G a63;have F6:=z34 X G p F7 a64;have Tb:MF ĳ w K a È:=z31 X G k a65;have F5:=z32 X G k pE Tb F6 a66;have IK:=z33 X G k pE a67;have F3:=z2x X G k Tb a68;have IJ:MD ĳ w K a È:=z2y X G IQ Xn a69;have F2:MB ĳ w K a È:=z2w X G k a70;exact z2v k Xm pE Xn Vg Oe Od Of IJ F5 F3 IK FI F2 F71
def walk{l:Ík}{q:æ}{b:Á Str}{o:ři->Heap->Prop}{i:Þ->Heap->Prop}{d:DefRec}{K:ģh->Î}(t:Ìl=À 63)(e:Øo=[])(j:∀(w:Þ)(h:Heap),i w h->(Šb).In h)(F:∀(w:Þ)(c:Str->Æ Value)(g:Ç)(h:Heap),(Šb).In h->đa ă c->c d.name=À (.ref g)->
   ∃fd:Ĳ,(∀(s:É)(u:Value),Ŝc s fd ⟨[u],[]⟩ [(Źa,u)])/\∀È:Heap,(Šb).In È->Ùe ă c->yz ĳ w Šb c È yq 9 g fd [Źa] (QY Šb)) :
  W.WalkO q b o i új d [] őm:=
 L3.walkB (n:=63) (k:=9) (x := Źa) (sp:=QY) t Ð e ⟨rfl,by decide,by decide,rfl⟩ j F λ_ _ a v p m r=>⟨a,v,rfl,r,p,m,λ_=>rfl⟩
omit My
end
open Lean in
local macro_rules|`(universe $x)=>return mkNullNode (<-(Array.range' 43 626).mapM λi=>`(def $(mkIdent (.mkSimple s!"tw{(Name.str x.getId s!"o_{i}").hash}")):ident:=Nat))
namespace PySem.W.Fast
universe PySem.Challenge.cw_markrun_k51_whole_unneeded_holds
def tw10899244738264093997:=Nat
def tw10852103690583845373:=Nat
def tw13667243254860371099:=Nat
def tw3680827883169817980:=Nat
def tw6211328887736421093:=Nat
def tw10741671628357873693:=Nat
def tw9741981046603343516:=Nat
def tw5956876740333189655:=Nat
def tw11646185556319595729:=Nat
def tw3597872273262665993:=Nat
def tw9375146929717636996:=Nat
def tw1561970205557835438:=Nat
def tw1367553857763961772:=Nat
def tw9567254610707366719:=Nat
def tw15602712039218441477:=Nat
def tw8251068667438541032:=Nat
def tw14716217875046669450:=Nat
def tw16907732326695316648:=Nat
def tw17821843966125309055:=Nat
def tw14195861429148357069:=Nat
def tw9171815223881681034:=Nat
def tw1141743727934035999:=Nat
def tw2626736622457174938:=Nat
def tw8030739057281739021:=Nat
def tw9082546757627527190:=Nat
def tw16954987168295335791:=Nat
end PySem.W.Fast
open PySem PySem.W PyProof.Rows
set_option maxRecDepth 100000 in
set_option maxHeartbeats 0 in
theorem PySem.Challenge.cw_markrun_k51_whole_unneeded_holds : PySem.Challenge.rw_markrun_k51_whole_unneeded.Holds := by
 w_on;o_law;k_head;(case hw=>w_witness2)
 k_fill
 refine My.walk (l:=PySem.Challenge.rw_markrun_k51_whole_unneeded) rfl rfl (λw h Y=>PySem.W.kIn_of Y) ?F
 case F=>
  intro w e d h c G b;refine' My.all_mk c G b ?a0 ?a1 ?a2 ?a3 ?a4 ?a5 ?a6 ?a7 ?a8 ?a9 ?a10 ?a11 ?a12 ?a13 ?a14 ?a15 ?a16 ?a17 ?a18 ?a19 ?a20 ?a21 ?a22 ?a23 ?a24 ?a25 ?a26 ?a27 ?a28 ?a29 ?a30 ?a31 ?a32 ?a33 ?a34 ?a35 ?a36 ?a37 ?a38 ?a39 ?a40 ?a41 ?a42 ?a43 ?a44 ?a45 ?a46 ?a47 ?a48 ?a49 ?a50 ?a51 ?a52 ?a53 ?a54 ?a55 ?a56 ?a57 ?a58 ?a59 ?a60 ?a61 ?a62 ?a63 ?a64 ?a65 ?a66 ?a67 ?a68 ?a69 ?a70 ?a71 ?l71 ?c71 ?k71 ?Aq ?Ap ?Am ?Ax ?Aw ?Ay ?Av ?Au ?Ao ?At ?Ar ?As ?An ?Al ?Wv ?j0 ?Ww ?Wx ?Wy ?qS ?qy ?ZW ?ul ?xo ?AO ?Aj ?AL ?Ab ?AN ?CF ?AQ ?CG ?AW ?AU ?CK ?AK ?AS ?CI ?AT ?CJ ?AR ?CH ?AY ?CM ?AZ ?CN ?AX ?CL ?AJ ?AM ?Aa
  all_goals try first|exact L3.fnp_mk (by k_is) (by k_is) (by k_is) (by k_is)|exact L3.gn_mk (by k_is)|exact L3.gs_mk (by k_is)|exact L3.dc_mk (by simp only[List.map_cons,List.map_nil];k_is) (by decide)|exact L3.tp_mk (by k_is)|exact L3.tq_mk (by k_is)|exact L3.fnq_mk (by k_is) (by k_is) (by k_is) (by k_is)|exact L3.mtp_mk (L3.mtc_mk (by k_is) (L3.cls_mk (by k_is) (by k_is) (by k_is) (by k_is)) (by k_is)) (L3.mtc_mk (by k_is) (L3.cls_mk (by k_is) (by k_is) (by k_is) (by k_is)) (by k_is)) (L3.mdp_mk (by k_is) (by k_is) (by k_is) (by k_is) (by first|exact .all (L3.us1 λ_=>rfl)|exact .all (L3.us2 λ_ _=>rfl)|exact .all (L3.us3 λ_ _ _=>rfl)|exact .all (L3.us4 λ_ _ _ _=>rfl)|exact .all (L3.us5 λ_ _ _ _ _=>rfl)|(refine L3.bd2 λ_ _ _ a=>?_;apply PySem.W.binds_K a rfl;k_is;all_goals rfl)|(refine L3.bd4 λ_ _ _ _ _ a=>?_;apply PySem.W.binds_K a rfl;k_is;all_goals rfl)))|exact L3.mkp_mk (by k_is) (by k_is) (by k_is) (by k_is) (L3.mdp_mk (by k_is) (by k_is) (by k_is) (by k_is) (by first|exact .all (L3.us1 λ_=>rfl)|exact .all (L3.us2 λ_ _=>rfl)|exact .all (L3.us3 λ_ _ _=>rfl)|exact .all (L3.us4 λ_ _ _ _=>rfl)|exact .all (L3.us5 λ_ _ _ _ _=>rfl)|(refine L3.bd2 λ_ _ _ a=>?_;apply PySem.W.binds_K a rfl;k_is;all_goals rfl)|(refine L3.bd4 λ_ _ _ _ _ a=>?_;apply PySem.W.binds_K a rfl;k_is;all_goals rfl)))|exact L3.cmp_mk (by k_is) (by k_is) (by k_is) (by k_is) (L3.mdp_mk (by k_is) (by k_is) (by k_is) (by k_is) (by first|exact .all (L3.us1 λ_=>rfl)|exact .all (L3.us2 λ_ _=>rfl)|exact .all (L3.us3 λ_ _ _=>rfl)|exact .all (L3.us4 λ_ _ _ _=>rfl)|exact .all (L3.us5 λ_ _ _ _ _=>rfl)|(refine L3.bd2 λ_ _ _ a=>?_;apply PySem.W.binds_K a rfl;k_is;all_goals rfl)|(refine L3.bd4 λ_ _ _ _ _ a=>?_;apply PySem.W.binds_K a rfl;k_is;all_goals rfl)))|exact L3.fldk_cons (by k_is) (L3.cls_mk (by k_is) (by k_is) (by k_is) (by k_is)) (by k_is) L3.fldk_nil|exact L3.fldk_cons (by k_is) (L3.cls_mk (by k_is) (by k_is) (by k_is) (by k_is)) (by k_is) (L3.fldk_cons (by k_is) (L3.cls_mk (by k_is) (by k_is) (by k_is) (by k_is)) (by k_is) L3.fldk_nil)|exact L3.mkd_mk (by k_is) (by k_is) (by k_is) (by k_is) (by k_is) (by k_is) (by k_is) (by k_is) (by(refine L3.bd3 λ_ _ _ _ a=>?_;apply PySem.W.binds_K a rfl;k_is;all_goals rfl))|exact L3.mtd_mk (L3.mtc_mk (by k_is) (L3.cls_mk (by k_is) (by k_is) (by k_is) (by k_is)) (by k_is)) (L3.mtc_mk (by k_is) (L3.cls_mk (by k_is) (by k_is) (by k_is) (by k_is)) (by k_is)) (by k_is) (by k_is) (by k_is) (by k_is) (by(refine L3.bd2 λ_ _ _ a=>?_;apply PySem.W.binds_K a rfl;k_is;all_goals rfl)) (by(refine L3.bd1 λ_ _ a=>?_;apply PySem.W.binds_K a rfl;k_is;all_goals rfl))
  all_goals try (first|k_is|k_exc|kit_is|kts_exm)
  all_goals decide
