import PyProof.Rows.All
import Wide.All
import OpenK.AllK
import Wide.FinOn
import Lean
import PyProof.EqAt
import PyProof.EqKinds
import PyProof.TupleCall
import PySem.Challenge.RW_markrun_k41_runs
set_option Elab.async false
set_option linter.all false
set_option maxRecDepth 100000
set_option genSizeOf false
set_option genInjectivity false
set_option compiler.extract_closed false
set_option bootstrap.genMatcherCode false
section
open Lean
def rb0(f:Syntax→Syntax)(s:Syntax):Syntax:=s.rewriteBottomUp f
def ix0(b w:Nat)(s:Syntax):Nat:=match s with
 |.ident _ _ (.str .anonymous x) _=>
  let n:=x.front.toNat
  if n<b||b+w≤n||2<x.length then 99999 else 2*(if x.length=1 then n-b else n-b+w*(x.back.toNat-96))
 |_=>99999
def fb0(t s:Syntax):Syntax:=match s with
 |.atom _ v=>.atom .none v
 |.ident ..=>let u:=t[1][0][1][ix0 192 192 s]
  if u.isMissing||u.isOfKind numLitKind then s else u
 |.node _ k a=>if k==``Parser.Term.app then
   let u:=t[1][2][0][1][ix0 913 57 s[0]]
   if u.isMissing||u.isOfKind numLitKind then s else rb0 (λx=>let y:=s[1][ix0 7936 8 x/2]
    if y.isMissing then x else y) u
  else if k==nullKind then
   let l:=s[0][2][1][1][0][0][0][4][1]
   if l.isMissing then s else mkNullNode (l.getArgs++a.extract 1 a.size)
  else if k==``Parser.Command.print then .node .none ``Parser.Command.end #[mkAtom "end",mkNullNode (if s[1].getId==`a then #[]else #[s[1],mkNullNode])]else .node .none k a
 |_=>s
end
open Lean in
local macro_rules(kind:=Lean.Parser.Command.mutual)|s=>do
 let c:=s[1][0]
 unless c.isOfKind ``Parser.Command.check do Macro.throwUnsupported
 let g:Syntax→Syntax:=λt=>rb0 (fb0 t) t
 return rb0 (fb0 (g (g (g (g (g (g c[1]))))))) (s[1].setArg 0 mkNullNode)
mutual
#check([some,List,false,true,none,(by omega),Option,base,(by decide),Addr,autoParam,Shared,Bool,W.Frag,rows,if_pos,if_neg,Expr,PySem.wpAny_bind,(by simp only[_root_.L3.yH,_root_.L3.za,_root_.L3.yO,_root_.L3.q_,_root_.L3.yF,_root_.L3.qz,_root_.L3.jT,_root_.L3.xM,_root_.L3.wP,_root_.L3.T6,_root_.L3.y76,_root_.L3.YC,_root_.L3.qy,_root_.L3.Z9,_root_.L3.e1,_root_.L3.e2,_root_.L3.eL,_root_.L3.eC,_root_.L3.z6,_root_.L3.JF,_root_.L3.zA,_root_.L3.zG,_root_.L3.tE,_root_.L3.Yu,_root_.L3.B8,_root_.L3.YH,_root_.L3.ZR,_root_.L3.Wd,_root_.L3.LP,_root_.L3.Cy,_root_.L3.uX,_root_.L3.xt,_root_.L3.xi,_root_.L3.We,_root_.L3.L_,_root_.L3.nN,_root_.L3.gb.sel,_root_.L3.fI,_root_.L3.gm,_root_.L3.uY,_root_.L3.qS,_root_.L3.JJ,_root_.L3.xI,_root_.L3.gj,_root_.L3.z2m,_root_.L3.ut,_root_.L3.JL,_root_.L3.pP,_root_.L3.JK,_root_.L3.qR,_root_.L3.z2k,_root_.L3.Zs,_root_.L3.Uc,_root_.L3.Um,_root_.L3.yD,_root_.L3.uZ,_root_.L3.ua,_root_.L3.zR,_root_.L3.ur,_root_.L3.wU,Option.bind_some,Option.bind_none,List.getElem?_cons_zero,List.getElem?_cons_succ,List.set_cons_zero,List.set_cons_succ,List.map,List.cons_append,List.nil_append,List.length_cons,List.length_nil,List.replicate_zero,List.replicate_succ,Bool.not_true,Bool.not_false,decide_true,decide_false,Bool.and_self,Bool.and_true,Bool.true_and,Nat.reduceAdd,Nat.reduceSub,Int.reduceLT,Int.reduceLE,Int.reducePow,Int.reduceToNat,Int.reduceAdd,Int.reduceSub,Int.reduceMul,Int.reduceNeg]),X.env,Stmt,Keyed,0,Array,wpAny,absurd,s.heap.objs.size,(Or.inl rfl),s.heap,Reps,World,xs.length,sizeLine,(Ì×D),(by simp),List.length_map,Program,PyProof.Rows.wpS_bind,heap,(model prog w),(É×Obj),(i+1),[a,b],rows.length,List.length_append,decide_eq_true,(z6 0),X.mg,(.bl Â),False,X.prog,PyProof.Rows.wpS_pure,(z7 0),(Int×Int),0,Around,ps.length,X.N.length,SortSt,"RowMachine",(model X.prog X.w),D.int,"WordMachine",vs.length,outer,getK,decide_eq_false,s.heap.get?,(eC (.int 0)),data,(wI Ws),cons,Bool.and_eq_true,Value.ref,"self",(z6 3),eval,(z6 1),(z6 2),ds.length,s.toks,(Nat.le_refl _),(kP ps),I.zh,List.length_cons,toks,mainGlobals,(.bl Ã),(.int 0),(zd zC),(zy _),prog,PySem.wpAny_pure,Nat.le_trans,(e::es),"list",h'.get?,List.getElem?_eq_getElem,List.size_toArray,(by simp only[_root_.L3.yH,_root_.L3.za,_root_.L3.yO,_root_.L3.q_,_root_.L3.yF,_root_.L3.qz,_root_.L3.jT,_root_.L3.xM,_root_.L3.wP,_root_.L3.T6,_root_.L3.y76,_root_.L3.YC,_root_.L3.qy,_root_.L3.Z9,_root_.L3.e1,_root_.L3.e2,_root_.L3.eL,_root_.L3.eC,_root_.L3.z6,_root_.L3.JF,_root_.L3.zA,_root_.L3.zG,_root_.L3.tE,_root_.L3.Yu,_root_.L3.B8,_root_.L3.YH,_root_.L3.ZR,_root_.L3.Wd,_root_.L3.LP,_root_.L3.Cy,_root_.L3.uX,_root_.L3.xt,_root_.L3.xi,_root_.L3.We,_root_.L3.L_,_root_.L3.nN,_root_.L3.gb.sel,_root_.L3.fI,_root_.L3.gm,_root_.L3.uY,_root_.L3.qS,_root_.L3.JJ,_root_.L3.xI,_root_.L3.gj,_root_.L3.z2m,_root_.L3.ut,_root_.L3.JL,_root_.L3.pP,_root_.L3.JK,_root_.L3.qR,_root_.L3.z2k,_root_.L3.Zs,_root_.L3.Uc,_root_.L3.Um,_root_.L3.yD,_root_.L3.uZ,_root_.L3.ua,_root_.L3.zR,_root_.L3.ur,_root_.L3.wU,Option.bind_some,Option.bind_none,List.getElem?_cons_zero,List.getElem?_cons_succ,List.set_cons_zero,List.set_cons_succ,List.map,List.cons_append,List.nil_append,List.length_cons,List.length_nil,List.replicate_zero,List.replicate_succ,Bool.not_true,Bool.not_false,decide_true,decide_false,Bool.and_self,Bool.and_true,Bool.true_and,Nat.reduceAdd,Nat.reduceSub,Int.reduceLT,Int.reduceLE,Int.reducePow,Int.reduceToNat,Int.reduceAdd,Int.reduceSub,Int.reduceMul,Int.reduceNeg,_root_.L3.yz,_root_.L3.jN,_root_.L3.jO,_root_.L3.jP,_root_.L3.pQ,_root_.L3.uM,_root_.L3.xY,_root_.L3.ju,_root_.L3.JB,_root_.L3.z0o,_root_.L3.z0m,_root_.L3.p7,_root_.L3.x62,_root_.L3.Iq,_root_.L3.BJ,_root_.L3.Xh,_root_.L3.jt,_root_.L3.z0l,_root_.L3.tV,_root_.L3.jQ,_root_.L3.putAt,_root_.L3.ss,_root_.L3.y5w,_root_.L3.gv,_root_.L3.hide,_root_.L3.t4,_root_.L3.x1p,_root_.L3.x1q,_root_.L3.x1r,_root_.L3.x1s,_root_.L3.x1t,_root_.L3.x1u,_root_.L3.x46,_root_.L3.x47,_root_.L3.x48,_root_.L3.x49,_root_.L3.x4a,_root_.L3.x4b,_root_.L3.x4c,_root_.L3.Hb,_root_.L3.ZA,_root_.L3.Wx,_root_.L3.pR,_root_.L3.z7r,_root_.L3.MH,_root_.L3.z7l,_root_.L3.z7m,_root_.L3.xN,_root_.L3.UR,_root_.L3.xB,_root_.L3.sL,_root_.L3.pL,_root_.L3.si,_root_.L3.TZ,_root_.L3.LI,_root_.L3.jH,_root_.L3.qP,_root_.L3.tW,_root_.L3.JC,_root_.L3.Cg,_root_.L3.Zl,_root_.L3.E6,_root_.L3.wW,_root_.L3.dD,_root_.L3.z1k,_root_.L3.z1j,_root_.L3.z0p,_root_.L3.z0n,_root_.L3.Jm,_root_.L3.Uo,Option.map_some,Option.map_none,List.take_succ_cons,List.take_zero]),h.get?,PySem,Heap.lt_size,(Sum Int Str),X.xe,Heap.get?_push_of_some,PyProof.Rows,(vP ps),ks.length,(.ref f),l.prog,(by decide +kernel),(z7 1),[ü,ÿ],zF.size,(rows.getD i .zE),List.mem_cons_self,PySem.Spec,FuncData,HT.sIx,(.inl rfl),kvs.length,(Ķs=Â),(n+1),name,List.mem_cons.mp,"State",of_decide_eq_true,(.dK kvs),(a.d2 X G),(zU st),a.size,(k+1),(eC (.int 1)),Int.toNat_natCast,["state","row"],scope,(z7 2),StateT,rest,Bool.false_ne_true,z.length,E.l2,Nat.zero_add,(.ref C),X.base,W.kitOne,K.In,(a.d1 X G),List.getElem?_eq_some_iff.mp,List.append_assoc,PySem.sizeLine_eq,List.map_cons,(.ref a),if_true,(j+1),I.xg,E.l1,List.getElem?_map,"words","items",us.length,stop,(ze (zV b)),bootBuiltins,"tuple",o.push,k.toNat,OwnMs,iter,Heap.get?_push_size,Array.length_toList,Nat.lt_of_lt_of_le,List.mem_map.mp,(yh 0),b.size,W.nsIn,A.in1,zero,succ,List.replicate,(z7 3),"word","jump",K.lookup,ps.map,"dict",(zW×V),X.calm,I.list,List.append_nil,List.all_cons,Nat.zero_le,(.yJ o Ł),b.length,"when",l.map,(.fz (.int m)),Nat.ne_of_lt,X.length,N.length,(.ref p),congrArg,[a,b,x2],Sum.inl,PyProof,String,z.elim,I.tok,cLine,args,(Nat.lt_irrefl _),Nat.le_add_right,X.env.locals,0,Nat.le_refl,ns.length,"table",r.length,(.str w),I.tuple,(z6 5),cpos,K.go,(wV I q ã),its.toArray,ys.length,"unless",d.length,(À v),(vO st),(ŉa s),F.dj,(vH X scope cl own C s H fp pn),List.mem_singleton.mp,List.length_take,"_law_cell",X.env.scope,"held",if_false,(z6 4),(a σ),(u q),(vis Ws a b c ps due done k),Nat.le_of_lt,(.lst xs),0,K.ext.gh,W.keepIn,[.ref a],(.int 1),(.int i),add_int,r.mono,List.mem_cons_of_mem,List.getD_eq_getElem?_getD,(.tup [.str "stop"]),List.mem_append.mp,(λ_ z=>nomatch z),"registers",(a==sysModules),(.Name x pos),Int.le_of_lt,(.type Ġ),(.int 8),"carry",(z7 4),x.size,Scope,(A n),getA,cell,back,List.range,(eC .zE),(Str×Nat),(À ő),j.length,P.length,(f β),"add",elem',apos,(.Name x p),PySem.wpAny_mono,List.not_mem_nil,List.map_append,(ns.map V.int),(.str "mark"),compareOp,decide_true,Int.le_refl,(.lst ć),False.elim,Ws.length,(xL A n),(.str k),vp.cons,(Û+1),"row",o.map,I.loc,F.at_,pos',keep,(zg (ze (zV b)) zf (z7 1) zH),(zF.filter λd=>!xD d),X.env.cells.lookup,a.heap.objs.size,(.Name x xp),(λz=>nomatch z),Option.some.inj,(.int (i:Int)),(zN õ),(.int 16),(xV e=Ã),ms.length,X.N.Nodup,f.length,W.toNat,"test",IsPair,(yD 1),"zip",F.ok,Unit,E.lp,((ğ).all xV=Ã),zT.refl,List.length_set,(eq_of_beq c),ns.map,"number",(ks.zip vs),"memory",(zW×Value),vs.toArray,"nought","kind",(xE P w),[.lst zF],(.tup xs),"storew",W.findIn,zw.refl,X.stack,"store","loadw",(z7 3),A.units,o.data,I.cell,(yD 5),plain,I.pin,E.go,h.Ns,X.fs,E.ow,List.take_append_drop,"address",s.heap.push,List.length_zip,(Nat×Nat×Nat),(xq A b tg n),List.mem_cons,"_law_k",Nat.min_self,(.int 1000),True.intro,(Æ Value),(xE prog w),(.type Ŧ),"state",(.int x),fs.length,(z7 5),(.fz d1),or_false,L.length,I.turned,(ź pD),"sign","left","code","load",(vB d),E.own,x.gh,hide,call,P.pE,D.nx,(X.fn x=Ã\/X.env.scope.names.lookup x=À .local),List.mem_append_right,(eC (.int 2)),(e2 zM Ď ą),Nat.min_eq_left,(eC (.int 4)),(.type "bool"),(.int (n:Int)),(.type "int"),(z6 1),binaryOp,E.ext.gh,"__init__",0,W.kia_one,I.ok.hd,i.length,(g i j),(zN ı),(yK zC),[.int x],(.fz d3),"right",BindsTo,(À m),(κ×V),intsOf,"high",y.Perm,I.free,I.bare,(tj x),(lo+i),"max",zT.pF,(A i),yY.tr,tplDs,"set","and",pX.nd,IsZip,(j-1),its',item,0,cond,W.at,E.ap,starEach,(zA ï zG),(.Call Ĝa ğ [] pos),Array.getElem?_toList,PySem.wpAny_holding,(by simpa using h),(by simpa using e),(.fz (.int k)),Option.bind_some,List.length_drop,a.toList.drop,(.type "str"),(Or.inr rfl),List.map_map,h.objs.size,ForInStep,(zB ı zK),(.ref it),b.extract,Txt.mul,(Str×É),(Α Ób),ws.length,b.toArray,X.A.units,(À Į),"place",envOfC,y.toList,o.length,Reps.imp,List.map,"mark",codeAny,(Ŗ h),"subc","addc",X.H₀,I.laid,"end",(0<=i),"sub","xor","law",value,r.get,o.cls,IsTup,(x+1),(C=x),"or",E.fr,(.ListComp elt [⟨tg,iter,ifs,0⟩] scope pos),PySem.PassesOwn.never,List.getElem?_append_left,PySem.wpAny_field,PySem.wpAny_seqItems,List.all_eq_true.mp,"_law_script",attributeBase,Nat.lt_of_le_of_lt,List.zip_cons_cons,Bool.false_eq_true,(x ≠ "__name__"),Nat.succ_le_succ,a.toList.take,b.toArray.size,List.zipWith,(.ins C dx fs),Nat.ne_of_gt,(σ++[À v]),"truths",(zB Ŋ zK),Heap.SameBut,(Ōa þ),(.inr z),(zN zH),c.trans,A.deeper,(ĝ ?_),its.length,(Α ď),(λ_=>Ä),(a.d3 X G),(.inr rfl),a.toArray,I.ok.kind,(.nx β2),(.inl a),s.TypeIs,l.length,c.length,a.length,W.codeIn,[.str k],(Ŗ hi),(.str x),(.fz d7),(.fz d6),(.fz d5),(.fz d4),(.fz d2),(.fz d0),Sum.inr,"copy",IsPart,forIn,small,I.len,E.pin,putF,K.lp,(backToKw pos (keywordEach [] Ô)),((x==("__classdict__" : Str))=Â),List.getElem?_append_right,List.drop_eq_getElem_cons,Int.eq_ofNat_of_zero_le,List.getElem?_eq_none,own.length,Array.toList_append,(eC (.int 3)),foldedSetIterable,List.length_range,Builtin.bitAnd,c.heap.objs.size,List.getElem_mem,(Nat.sub_le _ _),I.zh.fresh,(zB õ zK),Heap.size_push,(EP X z8 σ Q),(wZ Î R i),a.extract,Nat.le_of_eq,(30+(i:Int)),Sum.inl.inj,(Str×Value),(K w.params),(Á zW×V),(model P w),"stands","sorted",SeqAt.EqAt,zF.length,DictEntry,A.handled,(.lst b),q.toList,callWith,R.length,Ne.symm,[.int c],(top 71),(by rfl),(Str×V),"stop",0,(zV b),"range","steps",zT.lay,Z7.getD,IntsAre,(g7 ps),"step",xs.map,(lo+k),(k<=j),putAt,"run",yf.of,D.tup,self,cont,True,I.p_,[xG C T e fw fh sd due done],((apos.endLine==cpos.line)=Ã),(.tup [(.str "d"),(.str "s")]),(yL Ĳc È),Nat.lt_succ_self,List.pairwise_append.mp,List.zipWith_cons_cons,"first_words","distance",List.mem_range.mp,b.toList.take,a.names.lookup,0,(.str "add"),(.dic hk hv),behindInMarks,(.builtin id),(zB zH zK),"enumerate",d.trans,Nat.sub_self,Int.ediv_one,(yT x p f g),(xE ó X.w),(Οb (i<j)),DecidableEq,(Υ (x+3)),(.str œa),(.int 2),(yq X.K F),(.ref Û),rows.getD,(zN Ŋ),(ŉa Õb),(.type T),(.lst ws),(.dT kvs),"thing",i.natAbs,g.length,[.str w],(vd t L),(.ref z),(.ref A),(.int m),(zN ve),(c b a),nextOf,(wR v),valueAt,i.toNat,K.ext.g,(Ña _),(ňb b),(Áa _),(Á D),(.bl b),assign,"done",zC.map,eq_int,(uu i),V.ref,isort,xF.of,W.set,(z+1),dEqs,X.pn,D.bl,[it],(zS (zS yR)),((n:Int)*134217728+d*16777216+s*2097152+m),(yL (zS Ĳc) È),(by with_unfolding_all rfl),(i<100000000000000000000),(zB õ (zB ı zK)),X.s₀.heap.objs.size,PyProof.Rows.wpS_forRange,beq_eq_false_iff_ne.mpr,(.tup [.int 27,.int 5]),List.length_replicate,List.mem_of_getElem?,(zg Ť zf õ zH),List.replicate_succ,List.length_zipWith,(st ws a b c hk hv),(getMethod ov m pl),(.str k::R),(λC s H d c=>tP),(λC s H c b=>tP),"first_held",a.toArray.size,(.str "test"),Bool.eq_iff_iff,(yT a0 p0 f0 g),Bool.false_and,b.toList.drop,(Υ (x+n)),(qx (ym b)),(À (Ã,d)),(.str "subc"),(.str "addc"),swapsWith,(θ Ób),(λ_ _=>ò),fs.lookup,[b,a,x2,x3],(Υ (x+2)),(Υ (x+1)),(Υ (x+0)),(ps.zip us),(ks.zip us),(eL qR üb),(.type Ż),(.tup Şl),isort_perm,SortSt.mk',(λ_=>rfl),(thaws ms),(Α Č),Value.str,Value.int,(Ø Ö),(ħ e),"do_sum",x.toList,x.length,s.length,NameKind,["item"],(Ēa 32),(ĵ ..),(.ref l),(.int 5),Rd.mono,(xi zG),e.trans,Nat.ble,[p0,p1],(þc c),(žl s),(Ēa n),stored,q.size,backTo,(δ 0),(zd R),(yD 2),"int","due",x.new,whole,slots,field,bindL,bindC,E.ext,[x,y],step,hi.h,c.gh,body,I.os,(yE C T e fw fh s due done),(starEach ğ Ô=(Â,eval e Ô)::starEach es Ô),(xZ ć a b c ē Ĭ),Int.natCast_nonneg,(e2 zM Ď ņ),(zg Ť zf (vC õ wM) Ĳa),(st ć a b c ē Ĭ),((n:Int)*134217728+d*16777216+m),0,"_law_names_here",PySem.wpAny_newObj_type,[.int w,.int 31,.int 1],List.drop_eq_nil_of_le,PySem.wpAny_passesOwn,List.zipWith_nil_left,(Á zW×É×Value),Nat.add_le_add_left,[.bl a,.bl b,.bl c],(Ōa WData.int),List.mem_range.mpr,Builtin.bitNot,(zg Ť zf Ŋ zH),Nat.lt_of_succ_lt,[.at [Ŀ] ïa],Int.not_lt.mp,t.heap.objs.size,beq_self_eq_true,PySem.call_meets,List.take_length,List.filter_cons,(wb as vs ks us),"isinstance",X.env.kindOf,Nat.le_antisymm,(τ++ŵ k Ä),beq_iff_eq.mpr,(yT y q Ä g),(.tup [x,y,z]),(.inl (n:Int)),Builtin.bitOr,0,(xs.map .inr),(.lst ys),Str.ofString,[ċ,"most"],(λd=>!xD d),(start N vs),(failedOf s),(F.ok i q z),apos.atName,List.lookup,Int.one_mul,env.kindOf,(zX H p o),(kindOf s),(.inl z),(zN yS),PassesOwn,OwnMs.imp,l.extBut,[.p 0 []],(Γ Ŷ),(Æ Nat),(arrOf s),(.int 15),[.ref p],(u5 ì),j.toNat,argBest,xs.Nodup,r.append,m.length,h.length,b.toList,(xY ą),(tV r.1),(.int j),fs.map,(õa c),(xv zH),"marks",s'.heap,g.trans,d.toNat,W.mg_of,Iff.rfl,(À 1),(kX zF),ys.all,(18+c),"told",xs.all,w_.one,o.elim,modify,j.mono,c.toks,W.isFn,W.fnOf,Result,Paired,I.kept,(yD 3),(wR 0),(uo n),(lo+m),(e σ),(c σ),z.cps,thaws,V.int,D.str,D.ind,(i+k),word,maxI,hv.h,e.gh,d.oM,w_lt,((n:Int)*134217728+d*16777216+s*2097152),(.Call (.Attribute o m apos) [] [] pos),((Ēa ì).filter λi=>!zd zC i),(.tup [.str w,.str k,.str t]),"abcdefghijklmnopqrstuvwxyz",List.take_succ_eq_append_getElem,(yE C T e fw fh s d0 j0),PySem.wpAny_callSpecial?_slot,Array.getElem?_eq_some_iff.mp,(.tup [.str w,.str k,.int p]),(xz zK (yL yR È)),(xG C T e fw fh sd due done),(.int 4294967296),PySem.wpAny_call_entry,[(n0,p0),(n1,p1),(n2,p2)],PySem.wpAny_setField_rec,Int.emod_lt_of_pos,List.mem_of_mem_take,PySem.wpAny_truthy_bool,PySem.wpAny_pyIter_list,(À (Â,d)),(.dic ē Ĭ),Nat.add_sub_cancel',PySem.F.plain_max_loop,List.take_of_length_le,PySem.codeAny_builtin,List.getElem?_toArray,PySem.wpAny_tryCatch,List.mem_append_left,List.all_eq_true.mpr,Array.getElem_toList,assignEach,Int.emod_nonneg,PySem.strLen_append,PySem.plainId_quiet,(ξa (ûb ğ Ô)),PySem.wpAny_rule,PySem.wpAny_typeOf,List.mem_filter.mp,(ξa (ûb es Ô)),(zg Ť zf Ŷ zH),(by simpa using c),(.type "NoneType"),Nat.zero_lt_one,Nat.lt_succ_of_lt,Nat.le_of_lt_succ,List.flatten_cons,List.ext_getElem?,(Ūa W.emptyDict),(σ++ŵ űb Ä),[.int 24,.int 3],(yK (gF Î zC)),(.builtin "len"),Nat.succ.inj,WData.weightAll,List.find?_cons,(À Ïd::rest),"width",Value.none,I.base.free,s.heap.IsTuple,(zN (Ξa ĺa)),(.int (p:Int)),Nat.lt_irrefl,List.any_cons,(.str Ċa),(ū _ rfl),(zR qi üb),Nat.add_comm,Int.le_trans,"other",(vi Î R i),(.tup [x,y]),(eC ĉa),"field",scope.names,pos.line,c.heap.get?,OwnMs.cells,List.length,0,[š,"far"],(À (b,d)),(κ×Value),(.str "or"),((i:Int)+1),(z6 10),Obj.mapSeq,List.foldl,(.lst ds),(Ôb .Add),(zB pY zK),(xV a=Ã),(Xg a b c),(.tup Ńc),"do_bits",seqObj,[ïa,ũa],[("a",0)],(źb Ē),(ς æa),(ÿa _ a),(c.val k),"again",(us++ds),(ŧ p),r.extBut,q.extBut,h.DictOf,Y.length,Operator,L.extBut,0,getItem,(zN ċa),(zN Ŷ),(yF ēa),(xL A i),(vj g _),(u++[l]),(lo+m-1),(.ref x),(.own x),(.int v),(.int k),(.inr t),(ïc _),(w%256),x.trans,kvs.map,callerA,base.Ns,X.outer,AllBare,(z7 2),(δ i'),(wI ns),(vP []),(qQ st),(kP []),(G b d),(.bl t),"one",z.symm,y.size,isTrue,ds.all,c.heap,(yK R),(v1 k),(uq 5),(uI x),(c β),(b σ),(a::r),(TX i),(0<=j),binds,ZL.nd,Z.map,Model,(w=0),(n+k),(j+2),(g=1),(g i),(d+1),["table","end","first_words","first_held"],(À (Â,xG C T e fw fh sd due done)::τ),(Z.map λq=>.int (q.2:Int)),(min (if i<0 then i+(n:Int)else i) (n:Int)),(by show ¬ (1000000000<=900000000);decide),PyProof.Rows.wpS_mono,PyProof.Rows.subscriptTail_builtinR,Heap.get?_update_other,((Ēa i).map λk=>D.str (nk k)),Builtin.List.listTooLong,(λa b=>if a<b then b else a),((c+7919*k)*48271%2147483647),PySem.Calls.callWith_builtin,(by simp only[ģ]<;>omega),PySem.Around.under_plainId,(PyData.shownAll (pyTs a)),List.extract_eq_take_drop,[.str n0,.str n1,.str n2],List.mem_of_mem_drop,X.env.scope.names.lookup,PySem.wpAny_Call_Name_kw,((u q).mpr (.inr z)),(zY xR xP ı zH),[.str w,.str k],(e2 zM ï ą),[ċ,Úa,"end",Ąa,ŏa],(rows.drop i),(eC (.int 5)),(.int (k:Int)),[À (Â,.int x),Ä],List.pairwise_cons.mp,(vS (own:=[ōa]) rfl),(by rw[E.l1];exact c),Array.toList_extract,(X.drop k++Y.take e),((u q).mpr (.inl z)),List.Perm.refl,List.mem_reverse.mp,Builtin.Int.intBits,(eC (.int 32)),(.str "label"),[.int i,.bl Ã],[.at [ü,ÿ] Ŷa],(ps.take i),PySem.call_meetsIn,Nat.sub_add_cancel,List.filter_append,ForInStep.yield,(Χ (zN Ŷ) Ňb),(by rw[Ŭ];omega),Int.emod_eq_of_lt,"_law_machine",(wI (Ws.set d w)),(relabel ŉ Ô),(pZ jJ jR rfl yS),"default",(.fz (.int w)),List.mem_map.mpr,List.lookup_cons,List.cons_append,[.int 24,.int 2],(Te b e Ý a d),"StopIteration",sliceBounds,f.objs.size,List.range_succ,List.length_nil,List.foldl_cons,Int.min_eq_left,(À (V.ref p)),(tupleKind Ŕa),(pP λi j=>i+j),(e2 yd Ď ņ),(X.N[i]?=À x),Nat.not_lt.mpr,(Ŧd es Ô),(.str "and"),(w6 ks vs k v),(by rw[h];rfl),(ZN rfl uf zH),(.int (a:Int)),s.heap.update,Nat.add_assoc,[ïa,ũa,ŷ],[ċ,Š,ïa],[p0,p1,p2,p3],(À (Ã,e)),(β++[À m]),(Zz c.heap H),(č e Ô),W.callWith_K,List.map_nil,Int.pow_zero,Int.add_zero,I.base.there,Around.under,(Οb (j<=i)),(zX H a Ł),(zX G a Âa),c.heap.push,a.heap.push,X.base.get?,OwnMs.focus,Int.mul_one,I.ok.mod.W5,0,I.base.slot,(Β (A p)),(zA ņ zG),(f (t4 β)),L2.start,(s q z),(Γ ċa),(ZH fs f),(.tup ys),ul.some_of,ps'.length,its.toList,W.plainGet,[.str ěb],(zX H a o),(jl îa x),(Uw e=Ã),(.tup âi),(.str Àb),(.str ſa),(.str Œa),(.int p.1),(.int due),"do_move",zF.take,y.testBit,x.extract,rs.length,inplaceOp,Reps.ints,I.base.tT,0,I.base.qJ,I.base.pG,(.ret v),(.ref t),(.inr u),[Ĭa,óc],[.lst ws],(èi _ _),(Υc âm),(Υc Źl),(Τc âm),(Τc Źl),(Ģa .In),(ÿa _ b),(À Ś),(yq K wx),(wO ks k),(vs++dvs),(pO ns 5),(g.n X G),(.yJ o u),(.tbl ps),(.ref i1),(.int 32),(.fz d11),(gv β),Y.take,y.length,y.extBut,xs.foldl,p.toList,oneType',i.extBut,f.extBut,e.isList,d.typeIs,b.typeIs,ZipApart,OwnMs.pH,C.extBut,B.extBut,(ŭf ?_),(wI ěc),(vQ K F),(uZ 3 4),(qW Ĵ),(kP ře),(g d σ),(eC Ļa),(eC œd),(X.kQ E),(I.Vr e),(.own a),(.int a),(.inr k),(.inl h),(.fz d),X.drop,"slice","label",t9.with,p.toNat,h.trans,Un.kept,I.fresh,rawInt,(Ťa d),(žl d),(ļb i),(Òd _),(ħ q),(e σ1),(A ê),(.bl k),(qv 1),(21+c),"bool",u.keep,sIx_le,pyIter,preSum,o.dict,ks.zip,e.symm,a.toks,Ws.set,T.keep,B.kind,(wX f),(uq n),(tC v),(o::v),(jT 1),(i==j),(ZQ 1),(Yu x),(X++M),(UT x),"str",piled,atKey,TJ.nd,TH.nd,TC.nd,T9.nd,T7.nd,T.obj,D.lst,CmpOp,[jmp],(n-1),(i-1),(h a),[À (.fz d0),À (.fz d1),À (.fz d2),À (.fz d3),À (.fz d4),À (.fz d5),À (.fz d6),À (.fz d7),À (yE C T e fw fh s8 u8 j8),À (mP C T fw fh e due done Ws a b c ps),À (.fz (.int m)),À (.fz d11),À (.fz (.int k))],(yE C T e fw fh (st (wI Ws') a' b' c' (kP qs') (vP qs')) (δ i') J),(xy (ym b)),(wb [] [] (zC.map λi:Nat=>Sum.inl (i:Int)) (zC.map λ_=>D.bl Ã)),PyProof.Rows.wpS_get,(if decide (0<=i)&&decide Ķc then 20 else 1000000000),(.Call (.Attribute (.Name c p) m apos) ğ [] pos),[.int g0,.int g1,.int g2,.int g3],(.tup [(.str "d"),(.str "s"),(.str "n")]),(λw d=>Uv g f r c w (by simpa using d)),(st (wI Ws') a' b' c' (kP ps') (vP ps')),(.Call (.Attribute o m apos) ğ [] pos),(if 2*(x%32)<32 then x%32 else x%32-32),(Wj X.K 2 (jI (uu i) (jI (uu j) Wi))),Builtin.SmallTypes.ownedTupleIsFree,[xG ÿ U (A n) fw fh Ñd (A i) j],(mirror x lo (lo+m) ((lo+m-lo)/2)),(((τ.take k).map jw)++τ.drop k),PySem.F.slot_tuple_iterator_next,[g0,g1*256,g2*65536,g3*16777216],PySem.wpAny_letGo,(by rw[e];exact λz=>nomatch z),Builtin.Str.occurrences,(.tup [(.str "d"),(.str "n")]),(.Assign [.Name x pos'] e pos),[.Subscript Ķa k pos'],(zg Ť zf õ ı),(þ (1*2 ^ ((w:Int)).toNat)),(λc=>∃r,c.1=À r/\uP t r),(x.extract (d+Èa) (d+Èa+e)),PyProof.Rows.callWith_type1,(if k'=k then À v else _),(e2 zM Ţl (e2 zM Ď Ìb)),[.Subscript o k pos'],(wZ Î zC ì),((u p).mpr Ĺ),[xG ü T n fw fh Ñd i j],(zg (ze (zV a)) zf ı zH),Builtin.Slice.slicePlaces,(yE C T e fw fh s8 u8 j8),(x.extract (d+k) (d+Èa)),PySem.mem_of_lookup,(yL (zS yR) È),PySem.tupleKind_room_in1,PySem.F.slot_dict_values,List.pairwise_append.mpr,0,Builtin.Tuple.tupleExact,(zg Ť zf Ŋ ċa),(.tup [.str Ÿ,.str t]),strSliceIndices,PySem.F.plainAttrs_dict,Nat.add_sub_cancel_left,(Yz (w := Ÿ) rfl rfl),(List.nodup_cons.mp nd),(wt Î (zd R)),(e2 zM Ţl Ód),(e2 zM ď ña),(e2 zM ï Ď),(by rw[E.l1];exact hi),PySem.wpAny_updateSeq,PySem.wpAny_execs_nil,PySem.F.slot_zip_next,List.set_append_right,List.getElem?_zipWith,Heap.get?_update_self,(vk jx gC rfl),[.int x,.int (n:Int)],(λ_=>ŋ û Sem β),(vS (own:=[ůa]) rfl),(e1 (xc Ĳ Ŷa) ï),(Z.map λq=>.str q.1),(.UnaryOp .Not a pos),(.Return (À e) pos),Nat.sub_succ_lt_self,(ys.any λy=>xh y x),(if b then 1 else 0),(Nat.lt_of_not_le c),0,(.Attribute e f pos),letOwnedTupleGo,PySem.wpAny_standAt,(wU űb fs fg ft f),(by simpa using h1),(eC (.str Ÿ)),decide_eq_true_iff,PySem.codeAny_mono,c.toArray.size,[.lst zF,.lst Ýb],(ξa (ûb [] Ô)),(jP (xY (eC ñ))),(b∈X.ex\/ĸc<=b),(by rw[Àa,n];rfl),s2.heap.objs.size,W.instObj,PySem.wpAny_of_eq,List.nodup_append,[ċ,š,Ąa,ŏa],[ċ,Š,Ąa,ŏa],(by rw[Lv];omega),(Str×Tok×Value),((p,w)::P.zip vs),s.heap.IsSliceOf,s.heap.FunFrames,Nat.min_eq_right,List.any_eq_true,Int.max_eq_right,(eC (.int 9)),[.lst ws,.int a],[.int 21,.int 3],(λi=>K x (b+i)),(wQ (n%7).toNat),(w/16777216%256),(o++ſb i (i+k)),(J_ n x (c x a)),(.tup [x,y,z,w]),(σ++ŵ k Ä),(λc=>f c.symm),(yT a0 p0 f0 u),(kA (zC++g zC)),(e2 zM Č ņ),(e2 zM ď ą),(e2 qS ŉe Ób),(I.ok.bs b o e),(k6 (xv pY)),k.toArray.size,d.toArray.size,Bool.and_false,"_law_rows",Nat.le_succ,I.base.keep,(vk Z1 ZJ rfl),(eC (.int 26)),(by rw[z];rfl),(YE a b o i j),(YD a b o i j),(.type "type"),(.builtin Èc),(.Name x pos'),((ňe).take 1),(zB Ĳa zK),(L++uJ Z i),i.natAbs.log2,e.gh.free,beq_iff_eq.mp,a.toArray.any,L2.isort_perm,Bool.true_and,[ŷ,"count"],(zt.near x z),(putF f v fs),(lo+k-(lo+l)),(eC (.int 7)),(.p k []::as),((vd t zF).2),own.contains,decide_false,P2.objs.size,Nat.lt_trans,Nat.le_total,List.any_map,Int.ne_of_gt,[(D,uK a k)],(Ģa .NotIn),(Α (z6 4)),(zb (yM ve)),(zX H p Ũl),(zX H a Âa),(xs.set i x),(wt Î Ě),(jQ β i π),(e2 F fa fb),(F.ok j q z),(BD r ta tb),"do_storew",W.hasDictIn,Option.bind,List.map_id,(ćg C Û),(Θa (Ëg)),(Ôb .Mult),(Á M×yA),(zR jd üb),(zA ą zG),(y b o e a),(xy (ym a)),(xB ą xN),(x-x/p%r*p),(v_ ps a b),(vC õ jo),(qW Î[i]),(ns.take k),(l+(r-l)/2),(21+cJ Ĵ),(18+cJ Ĵ),(.bool Ã),((n:Int)=0),(Θ ŝa),"do_store","do_loadw","__next__",ws.toArray,b.drop,Value.bool,ns.getD,[y,.int d],[.lst ć],[.int n t],[(ťe,dv)],(Β (-1)),(ù<=Éa),(λ_ q=>q),(yx Ě i),(xO zH vh),(wR (v+3)),(qn a k b),(qc kvs k),(.tup õi),(.str Ĥb),(.own Ŝd),(.int i t),(.dic K V),"do_load","do_high","do_copy",zm.append,x.testBit,l.swap.hd,h'.DictOf,cl.lookup,c.toArray,c.gh.free,__do_lift,W.makesIn,PySem.Str,Paired.DF,Int.toNat,[ōa,Àe],0,[ía,ůa],(Ěc Čb),(Ďb i j),(Β Ďa),(ŉa øa),(ú+űb),(ÿa _ m),(Α Þa),(Α ña),(Ī _ e),(Á Int),(σ++[v]),(λc=>?_),(λ_=>?_),(β++[m]),(j<=1000),(h p Ìg),(.tup ds),(.ref i2),(.ref W9),(.ref Vx),(.ref Vu),(.int 24),(.fz Ŋe),(.fz ŷa),(.bool b),"do_set",w.length,u.extBut,p.isList,p.extBut,0,mergeAt',j.natAbs,i.isList,h.isList,c.h.free,bindArgs,a.toList,X.take,W.lookIn,Reps.set,Reps.one,M.length,(ì+1),(Ċb XZ),(σ++ρ),(zN Źa),(yx Ě),(yq K F),(yV őd),(ua ï),(uJ Z i),(tm Ći),(qB a.1),(pyTs f),(gF Î),(eC ñ),(Zz h H),(YF a.2),(V3 Øc),(Ml rfl),(B9 r t),(2 ^ 64),(.str t),(.ref e),(.ref c),(.nx σ),(.int w),(.int n),(.int e),(.int 3),(.inr x),(.inl k),(ym d),(tN õ),unaryOp,ue.swap,ue.move,u.there,pyNext,ds.set,ds.map,ds.drop,c.symm,add_str,Keyword,I.write,I.ok.kO,E.ext.h,A.depth,(Ēf e),(Ťa t),(ói q),(Ùb N),(řa _),(ń-1),(ŧ q),(ąb i),(Òd k),(ħ f),(Ģ d),(Ŗ f),(Ŗ e),(Æ V),(tm xs),(q::qs),(hi-lo),(eC gs),(b β1),(Z_ xs),(LJ ..),"name",vs.map,u.slot,u.free,s.gens,p.size,o.take,not_or,ks.all,kindOf,d.getD,bs.map,argsOk,Params,J.stop,InLong,I.mono,I.base,(zy _),(z7 7),(z7 6),(z6 k),(z6 7),(z6 6),(yh 3),(x++y),(wQ n),(wI g),(vP f),(vD r),(vB x),(v2 k),(uq 4),(u5 n),(r β),(kP f),(g==k),(a==b),(a++b),(a β),(Oj z),(Mw _),(JI l),"low","far",there,start,st.at,o.loc,names,label,l.fin,h.Ns1,g.get,a.any,a.all,W.one,M.ind,IY.nd,IX.nd,IW.nd,IV.nd,IU.nd,D.i2z,D.i1z,D.TOz,(vv (Ι (yp (i:=5) (show(wT ["items","far","distances","chosen","near"] ["number"]).Nodup by decide +kernel) rfl Ü)) rfl),[À (Â,.lst Î),À (Â,.lst (Z.map λq=>.int (q.2:Int))),À (Â,.lst (Z.map λq=>.str q.1)),À (Ã,.lst []),Ä],(((sIx ĳ 0 lo:Nat):Int)==0&&(1:Int)==1&&(sIx ĳ ĳ hi-sIx ĳ 0 lo)==ĳ),[À (Â,.lst zF),À (Â,.lst (yK zC)),À (Â,.dic K V),Ä,À (Ã,.lst []),À (Â,.int 0)],(zi uH b rfl (zB õ (Γ (zY xR xP (zY tq pS zH ı) zH)))),(zi jK a rfl (zB õ (zB zH zK))),((match decide (C=x)&&!(decide (m∈jA))with|Ã=>À ëc|Â=>Ä).bind _),(Ūa { cls:=.type "range",data:=.fields #[.int lo t,.int hi u,.int 1 v] }),[mP C T fw fh e (δ i') ((j+k:Nat):Int) Ws' a' b' c' ps',.fz (.int m)],((zF.toList.drop (sIx ĳ 0 lo)).take (sIx ĳ ĳ hi-sIx ĳ 0 lo)),["_law_kind","_law_items_here","_law_words_here","_law_pairs_here"],(if 2*y<4294967296 then y else y-4294967296),[l,j,i,À (Â,uG C T fw fh e h 1000 (wR v) Â Â Â [])],0,(A.under (.builtin "type.__call__" ⟨.ref C::us,a⟩)),(.tup [.str k,.int (d:Int),.int n]),[À (Â,.lst zF),À (Â,.dic b a),À (Â,r)],(Ķb Ĝa "values" Ô (eval Ĝa Ô)=eval Ĝa Ô),[rows.getD k .zE,.int ((k:Int)+1),tgs.getD k .zE],(if i<0 then(i+(n:Int)).toNat else min i.toNat n),[.int (i:Int),tgt Î[i]],(x+(n-x/2 ^ l.toNat%2 ^ d.toNat)*2 ^ l.toNat),(f.2 b (Ça (ŭ (ħ e) (I.ok.Vo x c C l)))),(qb Î (rows.map (u7 zF)) ì),[.int 0,.int 5],(W.fnOf m q (qQ st) ça Ń j kV o h p g ct),(ľb (λk' x=>if k'=k then v else x) ks vs),(if k=f then(k,v)::r else(k,x)::putF f v r),(if G b=Ä/\G' b≠Ä then Ä else G1 b),(ĝ ⟨_,rfl,ĝ h⟩),Nat.min_le_right,(.fz (.int ((k+z:Nat):Int))),(À (.builtin "type.__getattribute__")),(by show c*134217728/16777216%8=0;omega),(tZ L P w K G h N c a f d A ā s H E),(f.2 b (Ça (ŭ (ħ e) I.ok.above))),(eC (.dic [] [])),[mP C T fw fh e (δ i) j Ws a b c ps],(À (.builtin "object.__setattr__")),(mP C T fw fh e due done Ws a b c ps),(mP C T fw fh e (δ i) j Ws a b c ps),Int.ofNat_le.mpr,(zB (zY xR xP zH Ŋ) zK),[.int (i:Int),x],(ź λp=>if p.1=a then(a,b)else p),0,Array.mem_toList_iff.mpr,((Ēa n).map λi=>A ê),[yE ÿ U (A n) fw fh Õd (A i) j],(.Call (.Name "zip" p) ë [] pos),((18+c)*134217728+m*16777216+d%32),((Ēa ê).map λk=>D.str (nk k)),(e1 (xc Ĳ "due") ï),(y.toList.drop lo),PySem.F.slot_dict_getitem.lookup,Nat.eq_zero_of_not_pos,[.fz (.int κ),.fz (.int cell)],(ûb [a] Ô=[(Â,č a Ô)]),(e1 (wN uv uw) (eC (.str óc))),Array.mem_of_getElem?,(rows.map tgt),(ŧ q++(čb m (j-1)).reverse),(λa b h z=>h (Sum.inr.inj z)),(yf X.K H p ys\/xF X.K H p ys),(0<=x/\0<=l/\l<64/\0<=d/\d<64),((c==("__debug__" : Str))=Â),(.Slice lo hi Ä p2),((a 29+9*(i:Int))%26),PySem.wpAny_Call_method0_late,Array.perm_iff_toList_perm.mp,[xG C T e fw fh Ñd due done],(.builtin "object.__class__"),(xO Ŋ (xO Ŷ vh)),(xB ď (xB Č xN)),[(p0:Int),(p1:Int),(p2:Int)],(Λ (.obj C Įe [a,b,c,d])),(vH X ŉ cl own C s H l pn),(st ć Â Â Â ē Ĭ),[yE C T e fw fh s due done],(by show _<=16777216;omega),PySem.wpAny_updateSeq_pair,List.length_eq_zero_iff.mp,[yE ü T n fw fh Õd i j],(.For tg iter body [] pos),List.pairwise_reverse.mpr,Builtin.Slice.sliceAdjust,[À ōd,À Æa,À Ăb],(ŉb (Ėb x Ń Û f c)),(rI QP λi j=>.int (i*j)),(f (.int i t) (.int j u)),(((1:Int)*2 ^ w-1)*2 ^ l),PySem.wpAny_pyIter_tuple,PySem.Calls.spliced_cons,List.mem_iff_getElem?.mp,(β.set i (À (.fz d))),(by rw[ä];exact e.len),(by rw[eq_of_beq e];rfl),(PySem.evalArgs_none ?_),(.tup [.str w,.str k,a]),Nat.testBit_mul_two_pow,List.length_pos_iff.mpr,List.filter_eq_self.mpr,List.filter_cons_of_pos,[.tup Ńc,.int (n:Int)],(x/2 ^ l.toNat%2 ^ ŀa),(k K i λv n m x r=>?_),(by show 2<=á;decide),(.ins C dx (fs.zip vs)),(zS (zS Ĳc)),(.str "name"),PySem.wpAny_getItem_of,List.Perm.append_right,Array.getElem?_eq_none,(Χ (zN Ĳa) (zN yS)),(À (Â,.dic ks ds)),(λi=>zF.getD i .none),(zN (zY tq pS zH õ)),(o++(ſb k i).reverse),(if x<z then z else x),(if f n then 2 else 1),(.BoolOp .And [a] pos),PySem.SeqAt.EqAt.same,PySem.F.slot_dict_get,List.Perm.append_left,[.int x,.int y,.bl p],[.fz (Ε (Ōa þ))],(Υ ((x+n)%65536+3)),(Υ ((x+n)%65536+2)),(Υ ((x+n)%65536+1)),(Υ ((x+n)%65536+0)),(λz=>a (by simp[z])),(r.2.set a (À źa)),(by show 1<30;decide),(by dsimp only;omega),(L.filter λd=>!xD d),(.BoolOp .Or [a] pos),[.int l,.int W],[D.bl a,.bl b,.bl c],(λx y=>D.tup [x,y]),(by rw[e];exact Ųa),(.tup [kV f[i].1,u]),(.Subscript o i pos),s₂.heap.objs.size,PySem.wpAny_newList,PySem.wpAny_attempt,List.reverse_append,List.mem_filter.mpr,List.getElem_of_mem,List.getElem?_range,List.filterMap_cons,Int.toNat_of_nonneg,[œa,"one",Íe,Ċa],(xZ ws a b c hk hv),(by simpa using hv),(Nat.not_lt_zero _),(Nat.not_lt.mp hlt),((i:Int)+(m:Int)*1),"_law_places","__getattribute__",List.set_cons_zero,(λb u q=>Ī _ q),(λ_ _ q=>Ī _ q),(zA Þa (Α âg)),(by rw[ģ];omega),(.tup [row,nx,tg]),(jv xs lo hi),d.zh.fresh,Option.isSome_map,Nat.sub_pos_of_lt,Nat.lt_trichotomy,Nat.le_succ_of_le,List.reverse_perm,List.getElem?_set,List.any_eq_false,List.Pairwise.nil,List.Pairwise.map,Array.toList_push,[.str w,.str ěb],[.str w,.str "d"],[.str k,.str "d"],(ŭe lo hi Ä n),(Ėb b a Û f d),(Ûg lo hi 1 Ŏ),(ĵe _ _ (Ñc f)),(λh=>by cases h),(zi Zy b rfl Żb),(zY xS xQ ı zH),(zY Y7 Y6 zH ı),(zR qK (θ ųb)),(by rw[h];decide),(Td r Å Å ?_),(.yJ o (.dK Ŏa)),(.tup (k.map kV)),(.str ⟨#[c]⟩),(.builtin "repr"),z.cps.toList,"fields_in_word",r.heap.objs.size,env.cells.lookup,X.s₀.heap.get?,X.env.scope.kind,Nat.max_eq_right,List.zipIdx_cons,List.map_fst_zip,Int.toNat_eq_max,0,Int.min_eq_right,(wb as ds ks es),(wb [] [] ks es),(tM kvs p.1 p.2),(qb Î tgs ì),(c b _ q λz=>z),(Str->Æ Value),(Dt K t1 t2 a b),"table_of_rows","place_in_word","_law_kind",a.setIfInBounds,W.methodCall_KW,Option.map_some,Nat.testBit_and,Nat.log2_lt,List.take_left',List.of_mem_zip,List.forIn_cons,List.drop_left',Int.ediv_nonneg,[œa,"one",Íe],[ŷ,"low",Àe],[.int c,.int k],(çe Ġ #[] 0),(Âe b o e n a),(σ++ŵ n Ä),(xs.getD j .zE),(vB (.lst ôa)),(eC (.str Öc)),(eC (.str Äa)),0,(e2 zM ď ņ),(e2 qS Ìb ï),(e2 Zs ï ēa),(by rw[q];simp),(.tup [kV k,u]),(.dK (m.zip j)),(xy (ym b)),"not_reaching","label_places","kind_of_code","is_near_code","distances_of","_law_cell_at",d.names.lookup,Nat.le_min.mpr,List.take_zero,List.take_take,List.nodup_nil,List.drop_drop,Int.ofNat_zero,Builtin.bitXor,[kV kv.1,kv.2],[.int w,.bl u],[.int (n:Int)],[.int (c:Int)],(Ζ (eC Ę)),(ĝ (Ò ?_)),(τ.set i śd),(vk Ue T4 rfl),(eC (.int 12)),(by rw[í,L]),(by rw[o];rfl),(TP X z8 σ Q),(.obj x fs ms),(.builtin îd),((ÿi).take m),sysModules,Array.getD,"word_of_row","with_number","moved_right","is_far_code","dict_values","__setattr__","__getitem__",s.heap.DictAt,p.toList.take,p.toList.drop,c.heap.DictOf,X.env.globals,W.plainGet_of,Paired.length,Bool.or_false,[ŷ,ĕb,ōa],[Š,łb,ïa],[Š,ũa,Ĭa],[5,4,3,2,1,0],[3,1,5,0,4,2],[2,4,0,5,1,3],[0,1,2,3,4,5],(č Ķa Ô),(zp.near x z),(zX H5 D ùd),(yT a p fl g),(w/65536%256),(vi Î zC i),(n 0 È È),(c*134217728),(Xi a Âa H0),(D.bl (i==j)),(.mk e1 e2 d),(.Expr e pos),"words_from","word_fault","targets_of","moved_left","is_address","first_word","bytes_from","address_of","address_in","_law_words","_law_round","_law_pairs","_law_names","_law_mixed","_law_items","_law_found","_law_drawn",seqIndex_neg,s2.heap.get?,l.row.toRowW,its'.toArray,h.IsListIter,concat_meets,WData.weight,SeqAt.RcNeAt,PySem.Within,PySem.W.Frag,Nat.zero_max,G.toArray,E.ext.h.free,Code.isFrame,(ûb es Ô),(Οb (i<=j)),(λ_ _=>rfl),(zX a p Íc),(tM kvs k v),(pairsOf vs),(gallopOf s),(dJ Î R i),(by exact B),(atKey xs k),(I.p_ x c e),(21+(c:Int)),(.inl (A p)),(.Name x p2),(Žf Ŋb),(À Êa),"with_part","number_at","near_word","is_number","four_from","far_words","addresses","_law_word","_law_made","_law_look",seqIndex_of,a.names.all,W.specialIn,W.plainOver,W.kitx_list,W.emptyDict,Value.float,Reps.length,Int.pow_pos,D.TOi2.symm,(Θa (žb)),(ŧd _ È),(Ďb "q" j),(ŗd _ È),(Β (i+j)),(λx=>!x.1),(zB zH üc),(zA ď zG),(w/256%256),(vQ X.K FF),(qx (ym a)),(ixN Đ j),(d b o a e),(.str w::_),(.rt m β2),(.list ád),(.int done),(.Name c p),((j:Int)+1),"unsigned",0,"table_of","put_word","put_byte","pairs_of","max.loop","is_label","far_rows","bytes_of","_law_any","__name__",wpAny_call,wpAny_Name,typeLookup,typeIs_str,typeIs_int,tgs.length,scope.kind,f.zh.fresh,es.toArray,builtinsNs,acc.length,X.Pairwise,Walks.list,Value.type,Str.length,SeqAt.RcAt,OwnMs.snoc,OwnMs.join,I.ok.above,D.i1z.symm,D.TOz.symm,0,[a,.int N],[.str Öc],[.str Ÿ],[.lst Ņb],(Üf N vs),(Á M×M),(λ_=>ò),(zX H x o),(zX G p u),(xh d1 d2),(q_ 1 îi),(by rw[h]),(acc++its),(a.d4 X G),(Y1 j rfl),(V8 k=Ã),(.yJ ob v),(.val Į),(.tup Õm),(.tup Ņe),(.tup Þi),(.tup Űl),(.str ĥb),(.str óc),(.str äa),(.str "q"),(.str "n"),(.str "d"),(.int ãa),(.bl (!k)),((k,x)::r),"written","word_of","word_at","told_at","rows_of","look_at","is_pair","is_near","is_jump","held_in","code_in","byte_at",zs.length,tupleText,ps.take,o.reverse,f.toArray,eq_of_beq,cellsFrom,c.heap.Ns,as.length,a.size_eq,a.g.trans,WData.int,W.takerIn,W.readsIn,W.findCls,W.OpenLaw,PySem.Fin,IsTup.new,E.ext.new,[Đc,Àe],[œa,Ñe],[Ŷa,ŷ],[ŷ,ĕb],[ŷ,ōa],[ĵb,ůa],(ųg ê),(Ĝd ĩc),(Űi Ē),(ēd q j),(Ε àg),(Ζ ãg),(Θ Îi),(Ça ŧc),(Γ Ãg),(ÿa _ z),(ÿa _ d),(ÿa _ c),(Α Ðe),(Α ŕe),(À Åm),(yq K wy),(yq K j3),(xs++[x]),(x-y-q<0),(x b u e),(x ^^^ y),(x &&& y),(vQ K wC),(vQ K jc),(vQ K jb),(vQ K Zh),(vQ K Zg),(vQ K Zf),(n*2 ^ l),(m.n X G),(b i q z),(TW te t),(2*p+1+1),(.v d::a),(.str SS),(.nx σ2),(.nx σ'),(.nx β1),(.lst zF),(.lst []),(.int 18),(.fz űa),(.fz ę),"walked","target","summed","signed","row_in","joined","far_at","do_row","behind",xU.focus,u.length,toString,tgs.getD,pick_run,p.length,o.toList,n.length,listText,its.size,h.DictAt,f.typeIs,f.toList,Z.length,Reps.rep,OwnMs.A5,I.ok.mod,A.length,[um,jmp],["four"],(Ċb TK),(σ++τ),(xv Ŋ),(xs++ys),(xY ď),(tN ı),(qu q c),(pyTs a),(pP Ŷb),(o++[i]),(lo+y-1),(kv.1=k),(kA łm),(jG Śa),(eC Èe),(eC ćc),(eC Ŗe),(eC øc),(eC ňc),0,(cell%2),(Dr K a),(Dq K a),(Dn K a),(BH h H),(2 ^ 62),(.ref D),(.ref B),(.own d),(.nx β),(.int K),(.inl x),(.inl i),(.inl e),(.inl d),(.bl d'),(-16<=x),"taken","leads","count","added",w_.snoc,w_.mono,t9.near,setItem,propext,i.trans,h1.get?,getAttr,e.pairs,a.names,0,W.frame,Reps.AG,PySem.W,L3.getA,L.foldl,Builtin,B.trans,(ÿh k),(ıf k),(ųg i),(àa j),(Ťa f),(Ťa e),(ĵm _),(äb r),(ŕc f),(żd h),(Œe _),(Ùb m),(çd c),(ãd i),(õc j),(Òd n),(Ça c),(Ő _),(Ð g),(î h),(Ŗ m),(Ŗ c),(Æ M),(À r),(À c),(zN zH),(x::xs),(x-y-q),(wI ys),(n::ns),(lo σ),(j+1+m),(hi σ),(g b a),(f đf),(f v u),(eC Ui),(b r.2),(F ëc),(Do ks),(B q c),(2*p+1),"repr","part",ue.fin,starts,r.drop,p.mono,o.bind,ns.sum,l.most,h.push,h.elim,frames,f.kept,d.laid,d.kept,c.getD,bubble,b.Perm,Y.drop,W.item,O.heap,L2.ixN,J.keep,I.step,I.look,H.keep,F.get?,E.back,D.l2TO,B.mono,B.cell,A.cond,(z6 i),(z6 4),(yK a),(yD 4),(wQ 3),(uQ m),(qv 3),(qv 2),(qB d),(mA f),(lo+y),(lo+j),(kV k),(kA l),(k'=k),(k σ),(i::a),(Ls i),(Ii K),(C_ c),(A i'),[.str k,.int (d:Int),.int (s:Int)],[À (.fz d0),À (.fz d1),À (.fz d2),À (.fz d3),À (.fz d4),À (.fz d5),À (.fz d6),À (.fz d7),À (mP C T fw fh e 0 0 Ws Â Â Â ps),À (mP C T fw fh e 0 0 Ws Â Â Â ps),Ä,Ä,Ä],(yV (xz (zB yS (zB yS (zB yS (zB yS zK)))) (yL (zS (zS Ĳc)) È))),(vv (Ι (yp (i:=2) (show(wT ["code","found"] ["kind"]).Nodup by decide +kernel) rfl Ü)) rfl),(e1 (xc [Ŀ] Š) ï),[À (.fz d0),À (.fz d1),À (.fz d2),À (.fz d3),À (.fz d4),À (.fz d5),À (.fz d6),À (.fz d7),À Ūf,À Ūf,À Æa,À (.fz (.int (k:Int))),À (.fz (.int (k:Int)))],[.tup [.int ((x+0)%65536),.int (w%256)],.tup [.int ((x+1)%65536),.int (w/256%256)],.tup [.int ((x+2)%65536),.int (w/65536%256)],.tup [.int ((x+3)%65536),.int (w/16777216%256)]],(vv (λC s H d c=>(yp (i:=7) (show(wT ["_law_script","_law_start","_law_count",ía,"_law_names_here","_law_places","_law_rows"] ["_law_k"]).Nodup by decide +kernel) rfl Ü)) rfl),[À (Â,uG C T fw fh e due done Ws a b c ps),À (Â,.int cell),À (Â,.dic (o.map λk:Nat=>.inl (k:Int)) (o.map λi:Nat=>(ôa).getD i .zE)),x,Ä],(xX ⟨_,rfl,.inl rfl⟩ (xX ⟨_,rfl,.inr Ĺ⟩ (xX ⟨_,rfl,.inr (.inr Ĺ)⟩ (xX ⟨_,rfl,.inr (.inr (.inr rfl))⟩ Yt)))),(.ins C dx (putF f w (fs.zip vs))),[À (Â,.lst Î),À (Â,.lst İe),À (Â,.lst (Z.map λq=>.str q.1)),À (Ã,.lst L),À (Â,.int (i:Int)),Ä,Ä],((p.setIfInBounds i (d,Èa+Y.length,K)).eraseIdxIfInBounds ê),[.int 0,.int 4294967295,.int 2147483648,.int 1,.int (u%7),.int (65530+u%12),.int (u*7%4294967296),.int (u*5%4294967296)],[À (Â,.lst zF),À (Â,.lst (yK zC)),À (Â,.lst (wt Î Ě)),À (Â,.dic K V),À (Â,.lst (yK ŉd)),Ä],["_law_rows","_law_places",Ød,"_law_items_here",ůa],[À (Â,.lst zF),À (Â,.lst (yK R)),À (Â,.lst (wt Î (zd R))),À (Ã,.lst []),Ä,Ä],[À (Â,.lst zF),À (Â,.lst (yK zC)),À (Â,.lst (wt Î Ě)),À (Â,.dic K V),Ä,Ä],[.str k,.int (d:Int),.int (n:Int)],(Ŕd PyProof.Rows.slot_tuple_getitem b.typeIs entry_tuple_getitem ?_ (args_tuple_getitem _ _)),[À (Â,.lst zF),À (Â,.lst (yK zC)),À (Â,.lst (wt Î Ě)),À (Â,.dic K V),Ä],[.tup [.int g0,.int 0],.tup [.int g1,.int 8],.tup [.int g2,.int 16],.tup [.int g3,.int 24]],(λq z w=>by rcases z with⟨z,_⟩|z;exact z;exact i q (t q z ((u q).mpr (.inr w)))),(λr s'=>r=.ok (.ret (.bool Ã))/\OldK c.heap s'.heap/\s'.os=c.os/\AllBare s'.gens),(mP C T fw fh e due done Ws Â Â Â []),[À (Â,.lst zF),À (Â,.lst (yK zC)),À (Â,.lst (wt Î Ě)),Ä,Ä,Ä],(zn (h pos g s σ H _ I k) λf a ⟨i,c,d,r,z,q⟩=>⟨by rw[<-Ûa];exact z,?_⟩),(a::b::rest),(tE (e2 xm (zR qL (zA (z6 8) (Α (z6 10)))) (zR qL (zA (z6 9) (Α (z6 10)))))),[.str k,.int (d:Int),.int (s:Int),.int n],(if Ėa+ãa<=yZ then À (Fl.nx (τ.set i (À (Ã,.lst (j++ys)))))else Ä),[.tup [.str Ċa,.bl Â],.tup [.str Œa,.bl Â],.tup [.str "sign",.bl Â]],pendingOf,(s.heap.update a (Obj.mapSeq λ_=>#[])),(λc=>c.1=Ä/\∃y q g,st=yT y q Ä g/\vw 0 q.toList y.toList/\y.Perm x),(zn (l pos c s σ H _ I h) λf i ⟨d,m,o,v,u⟩=>q c i σ m d f Q o v u),(by have:=Int.add_le_add_right (ća h) (n:Int);rwa [Int.zero_add]at this),[.int (x%256),.int (x/256%256),.int (x/65536%256),.int (x/16777216%256)],(λq z=>h q (Εa (s q z))),(.builtin "list.__iadd__"),[À (Â,.int x),À (Â,.int (n:Int)),À (Â,.str k),Ä,Ä,Ä],(tH (zR wC (wF ü "stands" ï zG)) (zR wC (wF ÿ "stands" ï zG))),(XH (XI VM a (yh 8) (xO (z7 10) vh)) (XI VI a (yh 8) (xO (z7 10) vh))),(.dic (u5 2) (qb [um,jmp] ([um,jmp].map (u7 (ub "a" :: [um,jmp]))) 2)),[.fz T,.fz (.int e),.fz ĥa,.fz ùc],[À (Â,.lst zF),À (Â,.lst Î),À (Ã,.dic [] []),Ä,Ä],(l.map λp=>⟨PyData.keyHash w.params p.1,.str p.1 p.2.1,p.2.2⟩),[.fz (.int κ),.fz (.lst zF),.fz (Ε (wI (wR 0))),.fz (.lst [])],(zn (j pos l s σ H _ I h) λy z ⟨v,B,c,r,q⟩=>⟨c.xg,?_⟩),(λr=>pure (.done (À r,e.2.1,e.2.2.1,e.2.2.2.1,e.2.2.2.2.1))),(Γ (wH (zB yS (zB yS zK)) îc)),[.Name x p1,.Name y p2],(λxs H Q=>∃a kvs,xs=[V.ref a]/\Rd H a Ł/\Q (.int ĺ) H),(by first|exact Or.inl rfl|exact Or.inr Ü|exact Or.inr ćb),(yE C T e fw fh (st ć a b c (kP d) (vP d)) (δ i) (j:Int)),[.str w,.int d,.int n],(Χ (zN õ) (zN yS)),0,[À (Â,.int x),À (Â,N),À (Â,.str k),Ä,Ä,Ä],[À (Â,.lst zF),À (Â,.lst Ýb),Ä,Ä,Ä,Ä,Ä],[.int g0,.int (g1*256),.int (g2*65536),.int (g3*16777216)],(g_ Uj a rfl (xO (z7 7) (xO ċa (xO Źa (xO (z7 6) vh))))),(.dic (xL (yx Ě) ì) (xq (yx Ě) (Yx rs) (YI rs) ì)),(qA ů wM),(mP C T fw fh e (δ i') ((j+k:Nat):Int) Ws' a' b' c' qs'),(.tup [.str k,d,s,n]),(tE (e2 xm (eL gl (Α (z6 11))) (eL gl (Α (z6 12))))),[.str w,.int d,.int s,.int n],(b::rest),[.fz (.int κ),.fz (.lst zF),.fz (Ε (wI W0)),.fz md],(λx y H Q=>∃a b,x=.bl a/\y=.bl b/\Q (.bl (a==b)) H),(.done (À (YD a b (ŧ q) i Ŝ),ŧ q,i,j+1,g,k,u)),(λr=>pure (.done (À r,d.2.1,d.2.2.1,d.2.2.2.1,g))),(if t then Yj [.int x,.int n]else Yk [.int x,.int n]),(.tup [.str "load",.int (d:Int),.int (s:Int),.int n]),((18+cJ Ĵ)*134217728+mJ Ĵ*16777216+dJ Î R i%32),(Ε ((isort ns).map V.int)),(yX (i:=3) TF.nd rfl Ü (zi Lq b rfl (zB õ Ńb))),(xf (yP V4 V2 (zN Ŋ) (zN ve) ě) (zb (yM ve)) wd),(tW kU (xB (z6 7) (xB ña (xB Þa (xB (z6 6) xN))))),(.yield (Ä,e.2.1,e.2.2.1,e.2.2.2.1,e.2.2.2.2.1+1)),(g6 (qA ů jC) (MJ (zi Zw b rfl ķc) (MJ Ôd vh))),(by show(c*134217728+d*16777216)/2097152%8=0;omega),(.tup [.str k,d,s]),(if v<0 then max (v+(n:Int)) 0 else min v (n:Int)),(.tup [.str Ŝa,.int (d:Int),.int (s:Int),.int n]),(.tup [.str śa,.int (d:Int),.int (s:Int),.int n]),(.tup [.str ŗa,.int (d:Int),.int (s:Int),.int n]),[mP C T fw fh e (δ y) ((j+z:Nat):Int) o u t v g],0,(λ_=>ô ⟨_,rfl,Xc.go ⟨h,f,d,by omega⟩⟩),(zn (i g s σ H _ I h) λv j ⟨x,f,e,l,d⟩=>?_),(mP C T fw fh e (δ y) ((j+z:Nat):Int) o u t v g),(if v<0 then(v+(n:Int)).toNat else min v.toNat n),(.Call (.Attribute Ĝa "values" apos) [] [] cpos),["_law_name","_law_place"],(if zd zC i then 2 else 1),[ía,"_law_found",ůa,"_law_way","_law_address"],[À (Â,.int c),À (Ã,.lst []),Ä,Ä,Ä],(zA (e1 (xc [Ŀ] ïa) ï) (zA (zR Yf œc) zG)),(W.fnOf x a (qQ st) ça Ń .none kV d g h b ct),(.Tuple [.Name x p1,.Name y p2,.Name z c] e pos),(((Ďb "q" a).cps++(lt k).cps)++(Ďb "q" b).cps),[À (yE C T e fw fh s1 d1 j1),À Æa,À Ăb],[uG C T fw fh e due done Ws a b c ps,.int cell],(zg Ť zf Šl (Θ Źa)),(λi=>decide (0<=i)&&decide (i<1099511627776)),(by rw[I.ok.glob];exact I.mod.glob.keeps I.bk),(.tup [.str "copy",.int (d:Int),.int (s:Int)]),((β.set i (À (.fz x))).set j (À (.fz y))),[À (Â,.dic ē Ĭ),À (Â,.int x),Ä],[mP C T fw fh e due done Ws a b c ps,.fz ę],(zn (l g s σ H _ I h) λc j ⟨e,d,f⟩=>?_),(kvs.map λkv=>if kv.1=k then(kv.1,y)else kv),(g8 (yP ZF tK (zN (z7 12)) (zN (z7 10)) ě)),(f (E.go d) c λv u t j l=>q v _ _ (þc j) l),(assign (.Name x j) Ô),(ūd (Ò (Ĳb hz rfl (x:=.ref TO) rfl ?_))),(λq=>(o q/\¬ F q)\/((F q/\¬ L1 q)\/L2 q)),(tZ xC P w K mg Ç N c Ń f g A ā s H E),(tZ xC P w K mg Ç N a Ń f b A ā s H E),(swapsWithSole [tg] e pos.line Ô=pure Â),(W.fnOf x a (qQ st) ça Ń h kV d g i b ct),(W.fnOf m q (qQ st) ça Ń d kV g c h a ct),(Builtin.«zip.__next__» ⟨[.ref z],[]⟩),(.plain ⟨.W6 ã Å Å Å Å,nofun⟩),(.plain ⟨.W4 ã Å Å Å Å,nofun⟩),(Ķb Ĝa š Ô (č Ĝa Ô)=č Ĝa Ô),(zg (ze (zV a)) zf (vC õ WX) (vC õ gc)),(yX (i:=2) IS.nd rfl Ü (zi Lp b rfl ķc)),(if G p=Ä/\G' p≠Ä then Ä else G1 p),(by rw[q];exact List.mem_singleton.mpr rfl),(Builtin.Tuple.tupleItemsOf (.ref t) >>= _),(.tup [.str Ła,.int (d:Int),.int (s:Int)]),(.Call (.Attribute o Ľ apos) ğ [] cpos),(e1 (xc [Ŀ] łb) ï),(tZ xC P w K mg a N x Ń f c A ā s H E),(tZ xC P w K mg a N q Ń f c A ā s H E),(s = Öc \/ s = Ċa \/ s = Ÿ \/ s = Äa),(if([]:Á Keyword).isEmpty then 0 else 1),(by rw[show n+ê=n+1+i by omega];exact l),(acc++(if k>0 then ", " else "" : Ïa)++t),(υa (λi j=>tG i+tG j<=134217728) (i*j)),(Xd (tO (Ie .list rfl rfl ZU pp LD ĺa))),[.str w,.int d,.int s],(zB (vC õ jC) (Γ (zi Zw b rfl ķc))),(xZ (wI Ws') a' b' c' (kP qs') (vP qs')),(by show c*134217728/16777216%4=0;omega),(bR W (i:=0) (Nat.zero_lt_succ _) K G y),(.dic (kP (Y9 ps x w)) (vP (Y9 ps x w))),(.Call (.Subscript Ĝa k p2) ğ [] pos),Array.Perm.refl,[.int (Τb (21+c)),.int (d%4294967296)],(Ūa { cls:=.type Ż,Ć:=.dict #[] }),(vH X ŉ cl own C s2 H2 fp (X.pn++z8)),(pL 0 æd (UR (zR Yf œc) (UR ág xN))),(.tup [.str "set",.int (d:Int),.int n]),(.Attribute (.Name x p2) "values" apos),(Ζ (eC (.str "a"))),(Α (e2 zM Ób Ìb)),(vS (own:=[œa]) rfl),PyProof.Rows.slot_tuple_getitem.lookup,[.int l,.int d],(wT [š,"far","at"] ["number","target"]),(zC++gF Î zC),(λq a b=>dj q ((óa).mpr (.inr a)) b),(zX (zX m i (.own y)) y (.ins C i [])),(tZ R P w K J l N g d f I A ā s H E),(p.pin (b,o) (Ëb _ (Ëb _ (ML c e)))),(Z.pin (b,o) (Ëb _ (Ëb _ (ML d e)))),(W.fnOf Ľ c g i a dV kV z Z an d ct),(PySem.F.args_tuple_iterator_next_1 _),[uG C T fw fh e due done Ws a b c ps],[uG C T fw fh e (δ i) j Ws a b c ps],[st ć a b c ē Ĭ,.fz (.tup Ņe)],(Ķb o Ľ Ô (č o Ô)=č o Ô),(mP C T fw fh e (δ i) j Ws a b c qs),(if x∈cs then getA fs a f else Ä),(if k'=k then À v else Ă ks vs k),(f (E.go d) c λs p j=>q _ _ (þc j)),(.tup [.str åb,.int (d:Int),.int n]),(λ_ _ z=>nomatch z),Builtin.SmallTypes.ownedTupleHandOut,[š,"far","twofold",ōa,"told",ũa],[A,m,À (Â,.int (n:Int)),t,B,o,i],(tryCatch (pyNext (.ref I)) _ >>= _),(mP C T fw fh e (δ i) j Ws a b c d),(if ns=[]then z else .int (maxI ns)),(backToKw cpos (keywordEach [] Ô)),(.ListComp d [⟨tg,b,g,0⟩] a pos),(.Call (.Attribute o m a) [] [] pos),((ľ h).resolve_left λz=>c z.symm),(Λ (yE ü T e fw fh s due done)),(ðc (show ue _ _ _ _ _ from h).sx),(ι (gH t a b y) (TM t a b (x+1))),(zn (b d s σ H Q I h) λc g e=>?_),(wpAny_sequenceKey b.typeIs È ?_),(swappedStores [tg] e Ô=pure Ä),(!c.toArray.isEmpty&&ķe (Āg+Ňc)),[.str Ÿ,.str q.1],[.lst (zC.map λi:Nat=>D.tup ŗe)],(υa (λ_ j=>0<j/\j<2 ^ 64) (i/j)),(ïd y=À .cell\/ïd y=À .free),(Ĳb hz rfl (x:=.bool Â) rfl ?_),(i e c λt s f j=>q _ _ (þc f) j),(c*134217728+d*16777216+s*2097152),(.str (Ďb "q" (a Ác%4)++lt či)),PySem.F.entry_tuple_iterator_next,(λq z=>(óa).mpr (.inr (s q z))),(λq z w=>B q Ńe λE=>w (i q E)),(e2 zM (e1 (xc Ĳ Úa) ï) þi),(L2.isort (Åa λi:Nat=>(i:Int))),PySem.Calls.Name_function_global,[xG C T e fw fh (uQ s) due done],[.tup R,.int (a+2),.int (a+Õi)],(Ĳb hz rfl (x:=.ref TI) rfl ?_),(λm f i c s o=>j m f i c Äm o),(λm c f b s o=>i m c f b Äm o),(g0+g1*256+g2*65536+g3*16777216),(Classical.choose_spec (qV c k)),PyProof.Rows.slot_tuple_getitem,[.own Ŝd,.fz ŷa,.fz (.int w)],(υa (λ_ j=>0<=j) (i/2 ^ Ēd)),(Ĳb hz rfl (x:=.none) rfl Ŋb),(ι (gJ t a b y) (TN t a b x)),(λp=>if p.1=a then(a,b)else p),(zY XQ XO (zY Y7 Y6 zH Ŋ) zH),(st (wI g) s r u (kP e) (vP e)),(rI DK λi j=>.int (i*2 ^ Ēd)),(kvs.any λkv=>decide (kv.1=k)),(gE left (wX f) λi=>K x (b+i)),(PySem.F.args_dict_get_3 _ _ _),(Nat.le_of_sub_eq_zero (āi c)),(.tup [.str w,.str k,.str q.1]),(.Assign [.Name x px] įb spos),((σ++ŵ 2 Ä).set i (À b)),(zY tq pS zH ı),(zY U_ Uy Ïi zH),PySem.wpAny_comprehension_free,Array.perm_iff_toList_perm.mpr,[st ć a b c ē Ĭ,.fz Ŋd],[b i,.int (A ê),tA A (tg i)],(ψa (zB Ŷ (Γ (Θ Źa)))),(ψa (zB (z7 7) (Γ (z7 6)))),(Λ (.obj ü Įe [a,b,c,d])),(λq z w=>t q z (Εa (j q w))),(λq z w=>B q (Εa (j q z)) w),(X.take k++r.toList++Y.drop e),(PySem.F.args_tuple_add_2 _ _),0,(PySem.F.args_dict_values_1 _),List.eq_nil_of_length_eq_zero,(Ċ t==Áe),(ζc (.bl (!decide (x=.zE)))),(Φc (xB Ýe xN) (xB Ýe xN)),(ĸ Ŏ Ŏ hi-ĸ Ŏ 0 lo),(ĸ à à hi-ĸ à 0 lo),(þ (x/2 ^ ((l:Int)).toNat)),(þ (g*2 ^ ((n:Int)).toNat)),(Γ (Ωc (zB (Θ Źa) zK))),(λq=>(t i q/\¬ L1 q)\/L2 q),(Pm rfl VO (zi Je b rfl Żb)),(.tup [.int (i:Int),tgt Ĵ]),(.call (.ref N) ⟨úa,[]⟩),[.int (i:Int),v],List.pairwise_iff_getElem.mp,[À (Â,.lst Űf),Ä,Ä],[À (Â,.dic Ĩa ŭa),Ä],[st ć a b c ē Ĭ,.fz r],[st ć a b c hk hv,.fz Şc],[st ć a b c hk hv,.fz Ùi],[.str Ÿ,.str Äa,.str äa],[.str k,.int x,.int y,.bl a],[.str "d",.str "s",.str "n"],[.int (h:Int),.int (m2:Int)],(Œc e Ä Óe Ô=pure Â),(λc f j e=>g a d k c f j e),(xt (zA Č (Ζ (eC ñ)))),(wT ["four"] ["byte","low"]),(if g=f then À u else i g),(List.eq_of_mem_replicate h),0,((ſl).push (çe Ŧ őa 0)),(!(ſf j i 0 Ėa 1).isEmpty),Option.isSome_iff_exists.mp,Builtin.Builtins.bindParams,[Úa,Ģb,òc,ņc,Ŷa,"due"],[.fz ûa,.fz I,.fz W,.fz a],[.fz ę,.fz I,.fz W,.fz a],(Ķb e f Ô Çf=č e Ô),(À (yg K (.inl (i:Int)))),(λq=>(o q/\¬ L1 q)\/L2 q),(λq=>(L q/\¬ L1 q)\/L2 q),(λd1 d2 v=>LS I n d1 d2 v),(zg Ť zf (vC õ qO) Ĳa),(zR qK (θ (eC (.int 2)))),(e2 gm (e2 ut ņ ď) ņ),(call (.builtin a) (v::us)),(by rw[c];exact⟨_,f,q⟩),(.type "method_descriptor"),(.own (.dic (kP d) (vP d))),((wI ys).any λy=>xh y ŷa),(e2 ut ņ Ď),"dict_reverseitemiterator",Nat.mod_two_eq_zero_or_one,Int.fdiv_eq_ediv_of_nonneg,Builtin.Slice.sliceApplied,Array.toList_setIfInBounds,(Ω (e2 ăc (z6 12) Ýe)),(zg (ze (zV d)) zf ı zH),(seqItems? (.ref S) >>= _),(if Ìi=Ã then _ else _),(if p.1=a then(a,b)else p),(by rw[mirror_size];omega),(W.methodObj Į (.ref y)),(.inl ⟨b,k,e,rfl,rfl⟩),PySem.F.entry_dict_values,[(o:Int),(z:Int),(u:Int)],(ŉb (Ėb q Ń Û f c)),(ŉb (Ėb c Ń Û f g)),(ŉb (Ėb a Ń Û f b)),(τ.set i (À (Ã,d'))),(λf vs=>PySem.call f vs),(rule "list.sort.gallop"),(dt Ĕ (λb a=>ęc.1) k),(X.N.map (hide own)++own),(Nat.le_of_ble_eq_true z),(.ins C dx (putF f y fs)),(.Compare a [op] [b] pos),(.Attribute o "get" apos),((f.endLine==d.line)=Ã),(Ε (xs++zs)),slot_list_getitem.lookup,PySem.F.type_dict_values,PySem.F.slot_tuple_index,[.int x,.tup ŀm,.int n],[.int x,.tup âi,.int 0],(υa (λ_ j=>0<j) (i%j)),(ŧ q++čb Ŝ (j+1+m)),(À (Â,.int (i:Int))),(zR F (wF ü m ï zG)),(zR F (wF ÿ m ï zG)),(zA (z6 7) (Α (z6 6))),(yO 3 (zR je (Κ Ōb))),(xs.drop (ĸ à 0 lo)),(e1 (wN uv uw) (eC Ćc)),(dG e f Å Å Å Å),(c*134217728+m*16777216),(by rw[k];simpa using m),(Option.map (λx=>!x) y),(.tup [.str Ÿ,.int p]),(.Compare a [d] [b] pos),(("q" : Str).length<=16),"itertools.zip_longest",PySem.F.slot_dict_items,PySem.F.plainAttrs_list,PySem.F.entry_tuple_add,Nat.testBit_mod_two_pow,Nat.testBit_div_two_pow,List.mem_iff_getElem.mp,List.getElem?_replicate,List.filter_cons_of_neg,Builtin.Dict.updateFrom,[.int a,.int (pf ps a)],(Θ (zY tq Hl ŝa zH)),(λx l r Q c U N I=>?_),(λd=>.tup [d,.bl Ã]),(zB (z7 5) (zB Ùg zK)),(vG ü îe 0 [] j3 xN),(vG ÿ îe 0 [] j3 xN),(by rw[uN Å];exact w),(List.take_sublist _ _),(À (Â,d)),"WordMachine.__init__",wpAny_pyNext_list_item,PySem.F.slot_tuple_add,PySem.F.entry_max_loop,PySem.F.entry_dict_get,PyProof.Rows.bitAnd_pp,List.pairwise_cons.mpr,List.getElem?_set_self,[.str w,.str k,.str t],(λq z=>(óa).mpr Ćd),(λc=>B6 x (z+1) c st),(λb o j e=>O b o j e),(yV (p6 JY b rfl ċb)),(yP V4 V2 ĺa Ęc ě),(yE C T e fw fh K R W),(rI C λi j=>.int Ûb),(n.trans (Ûc e.gh j)),(m.trans (Ûc e.gh i)),(by have:=f q h;omega),(b.trans (ìb b.gh c)),(B3 a b (ŧ q) i ôb),(.While c body [] pos),(.Subscript Ķa k İa),(.Subscript a Či pos),((ps++[(a,f)]).map pD),"_law_start","RowMachine.__init__",wpAny_pyNext_list_end,X.s₀.heap.FunFrames,Std.Legacy.Range.size,PyProof.Rows.wpS_lift,Nat.add_lt_of_lt_sub',List.length_filter_le,List.Pairwise.sublist,Int.mul_ediv_add_emod,[Úa,Ģb,òc,ņc,Ŷa],[.ref I,.none,.ref S],[.dic ē Ĭ,.int x],(çe Ġ d.toArray 0),(λo v z=>by cases z),(zA (z6 9) (Α Ýe)),(zA (z6 8) (Α Ýe)),(x.above y c (Òg h)),(vS (own:=[ěb]) rfl),(uX (tE ď) ņ ą),(qu (u.tT b c v q) d),(f.trans (j.trans n)),(cp I j m hf i g f e),(by simpa using this),(by rw[yB z];exact c),(by rw[k,l];exact hz),(F.args_zip_next_1 _),(B7 D.l2i2 J.toArray),(.Pass ⟨0,0,0,0⟩),(.Attribute o f tpos),"str_ascii_iterator","itertools.pairwise",wpAny_loadName_local,Nat.eq_of_testBit_eq,Nat.add_le_of_le_sub,List.getElem?_set_ne,Calls.evalArgs_plain,Array.toList_reverse,Array.toArray_toList,[⟨À ťe,e,kp⟩],[.Attribute o f İa],["one",Íe,"borrow"],(ω (We .list ï)),0,(Γ (vk JQ IG rfl)),(Γ (vk JP IF rfl)),(λz=>e (a.trans z)),(λxs z=>by cases z),(λq z=>j q (i q z)),(xh x y&&dEqs xs ys),(tupleItemsOf_ b ?_),(tE (e2 Zs ď ēa)),(if a then 1 else 0),(by rw[Ŭ];exact b),(by rw[ģ]<;>omega),(by rw[ä];exact c),(YE a b ðe (i-1) j),(Wv I n g hv ?_ k a),(Nat.le_add_left ..),(.int ((0:Nat):Int)),(.inr (j q (i q z))),(.Subscript o k İa),(.Subscript a b pos),(.Call c ğ [] pos),(.BoolOp op [a] pos),(.Attribute o f İa),(.Assign [tg] e pos),((τ.take k).map jw),((d q).mpr (.inl c)),"dict_itemiterator","Machine.registers",z.cps.toList.length,wpAny_loadName_cell,beq_eq_false_iff_ne,Nat.sub_le_sub_left,0,List.mem_map_of_mem,Heap.SameBut.update,[ŷ,"low",Àe,ōa],[.str "d",.str "s"],[.str "d",.str "n"],[.at [ü,ÿ] ņc],[.at [ü,ÿ] òc],(Ķg++(ňe).take 1),(υc (.Name Ùc p)),(υc (.Name ýc p)),(Βb (À (Ã,a))),(Ψb (.Name Èc p)),(Ψb (.Name Ż p)),(ζc (Υa (x=.zE))),(Ε (Θa (Īc a))),(Ēa (min à Ŀa)),(Α (Η ýg ļm)),(Ī _ (Ī _ Ée)),(λx l r Q c q=>?_),(wH (zB yS zK) Óg),(wF x m ï zG įe),(v_ ps ōc (v%256)),(storeName Ô x u),(qu (u.qJ b e q) d),(qZ (tO Ŋ) zH zH),(pW λi j=>.bl Ûb),(intBits_le_64 b a),(hv b s σ H _ I h),(f x y&&jD f xs ys),(by simpa using h2),(by simpa using e2),(by simpa using e1),(by show m<4;omega),(O d (ŀe (Řd a))),(M4 W (i:=1) ąe Q),(M4 W (i:=0) Ųd P),(.tup (p.1.map kV)),(.ret (.int j đ)),(.Tuple Ñm kk pos),(.Tuple elts kk tp),(.Assign Êg v pos),(.Assign Âg v pos),(ks.map kV),"internal:collect","dict.update.loop","Machine.__init__",s.heap.IsTupleIter,of_decide_eq_false,getattributeRaised,SeqAt.EqAt.str_int,SeqAt.EqAt.of_refs,SeqAt.EqAt.int_str,PyData.showableAll,Obj.data_mapFields,Nat.lt_of_le_of_ne,List.zip_nil_right,List.set_cons_succ,List.getElem?_take,Int.mul_emod_right,[.lst ws,.int íb],(ο (zA ď ţc)),(øe ûf (.ref d)),(Åa λi=>Ía íb),(ňb (ìb c.gh e)),(ξa (ûb es env)),(Ã&&(wu v&&Ã)),(À (.Name x px)),(λv _=>v=.bl Ã),(λb u e=>Ī _ e),(λ_ h=>Ú h ã),(λC s H c b=>ı),(β.set i (À a)),(zY xR xP õ ı),(zY h_ hU õ ı),(yO 2 (zR Yl œc)),(yO 2 (zR U6 œc)),(wb [] [] p.1 p.2),(rows.map (u7 zF)),(f a s σ H _ I h),(by simpa using t),(by simpa using q),(by simpa using p),(by simpa using g),(by simpa using b),(by simpa using a),(by simpa using Y),(by simpa using G),(by rw[Àa,i];rfl),(by rw[í];omega),(by rw[z];exact a),(by rw[nI];decide),(by rw[i];exact n),(by rw[i];exact R),(Zl (β.take ù)),(Mz a b ðe ê j),(Bb t1 t2 h l1 l2),(Ba t1 t2 h l1 l2),(.Tuple Ñm c pos),(.Tuple es x1 pos),(.IfExp c a b pos),((c+7919*k)*48271),((a:Int)==(n:Int)),wpAny_pyIter_enum,wpAny_assign_Name,meets_dict_values,decide_eq_true_eq,d.params.defaults,Value.isInt_shape,PyData.hasDictAll,Nat.add_sub_of_le,List.getElem_take,List.getElem_drop,Heap.get?_push_ne,Calls.spliced_nil,Array.size_append,[ōa,Àe,"power"],[0,3,0,0,0,0,0,0],[.str w,.str "s"],[.str w,.str "n"],[.str k,.str "s"],[.str k,.str "n"],(Ņa i q (I q z)),(īg b o e n F t),(Ėb g d Û f I),(τ++ŵ űb Ä),(λx=>x.1.isSome),(λi=>c.getD i 0),(zi Jg b rfl Żb),(zY xS xQ õ zH),(zY xR xP zH Ůg),(y.toList.map wX),(x.toList.map wX),(wDs xs<=1000000),(vj (s.free t) _),(i<1099511627776),(eC (.int 65536)),(by rw[c];decide),(by rw[bU];omega),(List.cons.inj a),(.tbl (ps++more)),(.Tuple es k pos),(.Dict [] [] pos),((k:Int)<(m:Int)),(((0:Nat):Int)+1),(λC s H d b=>tP),"odict_iterator","State.__init__","REGISTER_COUNT","Machine.stands","Machine.memory",z.cps.toList.map,wpAny_pyIter_zip,wpAny_execs_cons,noFill_tuple_add,fillsInplaceSlot,e.heap.objs.size,d.heap.objs.size,W.cellsFrom_some,Option.getD_none,0,Nat.zero_testBit,Nat.succ_lt_succ,List.drop_length,List.all_eq_true,Heap.size_update,F.entry_zip_next,[.int 27,.int 5],(λz=>Ú rfl z),(λz=>h (Âc z)),(λq=>nomatch q),(λq z=>h q Ýf),(yT x Ūl Ä g),(wb [] [] ks us),(by simp[ĝj,c]),(a.symm.trans e),(Zl (β.take b)),(.tup [ġa,ķi]),(.obj C Įe Êm),(.int (q.2:Int)),(.inr ⟨f,e⟩),(.inl ⟨z,w⟩),(.inl ⟨f,e⟩),(.inl ⟨c,w⟩),(.done (Ä,())),(.cons rfl .nil),(.builtin "sum"),(.builtin "all"),((Źe).length=n),"type.__call__","list_iterator","NUMBER_WIDTHS",0,"Machine.steps","Machine.place","Machine.marks","Machine.again",wpAny_loadPart',sc.names.lookup,noFill_list_add,PyData.depthAll,List.zipIdx_nil,List.nil_append,List.filter_map,Heap.DictOf.new,F.slot_int_rmul,[l,j,i,À Ŷl],[.int a,.int f],[.int 0,.int W],[.int 0,.int 8],[.at [Ŀ] łb],[.at [Ŀ] Š],(çe Ġ #[] c),(οc (ðf ê)),(Àc (ŝd ĝd)),(Ε (xs++[y])),(Β (pf ps a)),(Β (i+b2i k)),(Ļb (Õa x z)),(νa (Γ Ên)),(ûb [e,f] Ô),(σ++ŵ 1 Ä),(β++[À İf]),(xq A b tg ê),(wF x m ï zG),(ub "a" :: Î),(uB ks ms k m2),(q _ _ _ d rfl),(h.swap.pa e c),(f x (Ä,l,r)),(eF λi j=>i+j),(eC (.int 256)),(e2 zM ĥm Ód),(e2 zM Č ą),(e2 zM Ď Ìb),(e2 yd ï Ď),(e2 xI Č Ĕg),(e2 xI Ď Ìb),(e2 JL ï Ď),(e.2.2.2.2.1+1),(by simp;omega),(by kernel_rfl),(XW .word h e2),(TQ (qv 4) Źa),(Rd.tw t œm q),(R7 sp [] E0 t),(MD I m d ?_ a),(K.ext.trans x),(I.ok.Vs b o e),(B7 D.l1i1 Ŝj),(2*n<1*2 ^ ŀa),(.fz (Β Ņ)),(.bl (yg ks k)),((óa).mpr œb),((u p).mpr rfl),(Ι če),"str_iterator","Machine.step","ADDRESS_BITS",wpAny_setField,wpAny_newTuple,vd_Machine_run,sliceRange_one,slicePart_none,recursionLimit,firstArgMember,env.scope.kind,c.resolve_left,Value.type.inj,PyData.keyHash,Nat.max_le.mpr,Nat.add_le_add,List.forIn_nil,List.drop_zero,J.toArray.size,G.toArray.size,[š,"places"],[a,b,x2,x3,x4],[.dic ē Ĭ],(ťb [:n] c f),(Ζb (vB àe)),(ùg tg Čb u),(ŝe (Ä,())),(Ŧd [tg] Ô),(ŉa s.ext.gh),(Ċ īa::ïe),(Á V×Á D),(λi=>ŵg i 0),(β'++[À m]),(yx Ě i+þm),(yT x p Ä g),(xJ x&&ħd xJ),(x/16777216%4),(x-y-tL Â<0),(wu d&&ïb ds),(wZ Î R ê),(w6 ks ds x y),(vk Lf Ma rfl),(vk JR IH rfl),(vj (ĸg j) _),(vj (ĸg i) _),(qb Î tgs n),(pre_splitW c),(pU fs vs f w),(pU fs ms f e),(l.lst hl ŋa),(eC (.int 40)),(d2 q (B▸f)),(by size_fits),(by rw[L];rfl),(b.getD j .zE),(a.getD i Â),(XW .row h e1),(St->Hp->Prop),(G _ _ Å ?_),(AP X z8 σ Q),(.int Ûb đ),(.int (w:Int)),(.int (n:Nat)),(.ins C dx []),(.inl (k:Int)),(.dic đd ái),(.builtin ëb),(.List es pos),"list.append","_law_number","Machine.run",x.toList.drop,swapsWithSole,swappedStores,subscriptTail,seq_tuple_add,s.heap.IsList,s.heap.IsCell,r.length.symm,listUpdate_at,h.IsTupleIter,evalPart_none,call_list_seq,WData.layable,Value.isStrOf,NameKind.free,NameKind.cell,List.take_nil,Int.mul_assoc,Int.add_assoc,[ĕe,Íe,Ċa],[ĩg,ŧi,Ød],[Úa,Ģb,òc],[Ÿ,Äa,äa],[ŷ,œa,Ñe],[ía,ůa,Ød],0,[z,TI,TO,r,B],[D1,.tup Şl],["_law_pair"],(Ņa i q Ýf),(Ċd _ _ q x),(οc (ðf i)),(øi (ąi b)),(č Ća Ô),(Ŧd ğ Ô),(źb (Īg _)),(Β (2 ^ w)),(Α (z6 12)),(Α (z6 11)),(σ++[À b]),(λo j=>o++j),(zX H' a Ł),(zX H' D ùd),(zX G' a Ł),(zS (zS Ķi)),(xx.size-1+1),(xq A b tg i),(wZ Î zC i),(v_ ps x Će),(uB A a k m'),(ps++[(a,b)]),(pf ps a≠0),(jQ r.2 i π),(j p (i p w)),(eC (.int 6)),(dunderI ęa),(dJ Î zC i),0,(b.gh.free c),(Yy xs lo hi),(YC 4 k_ Þa),(Y9 ps ōc v),(Y2 kvs more),(W.inj i Å),(VL (K:=K) e),(L++[ub q.1]),(G _ _ lo ?_),(EP X c σ Q),(.str s t::r),(.str (nk i)),(.str (i++j)),(.Name ëb p),(.Name Ġ p),((n:Int)*8+d),"dict_items","_law_count","NUMBER_LOW","NEAR_CODES",s.cps.toList,mul_one_list,f.toList.any,e2.length_eq,c.symm.trans,W.kitx_tuple,OwnMs.length,Nat.succ_pos,Nat.sub_zero,Nat.mul_comm,Nat.lt_asymm,Nat.add_zero,K.ext.h.free,Int.zero_add,Int.sub_zero,Int.max_comm,Int.add_comm,Array.toList,[Ĥc tg Ô],(Ε (x::r)),(Β (C3%9)),(Ģa .NotEq),(Γ (z7 5)),(ŵ Ũ xs),(λx v h=>h),(λi v h=>h),(λc=>l Ĭh),(λb v h=>h),(λ_ _ e=>e),(zb (yM pY)),(zX H l ĩn),(zX H l àf),(zX H l êm),(zX H l ùd),(zB Ŷ Þf),(zB ı Ńb),(zB õ üc),(zA ď Ľm),(yT y p f g),(yL Ķi È),(yL Ĳc È),(xz Ðm Óg),(xJ n&&xJ o),(x.rebase y),(wT ŭl ým),(wI (Jw ps)),(tM kvs k y),(tJ ą ųb),(tC (.ty T)),(qy fs fg g),(pV m π m2),(pV P π m2),(pM Ě Ąh),(okb.QF b d),(newList []),(m.append o),(loop _ rfl),(is.map þ),(i+1+1==ń),(fB S.c q s),(dH È È),(c (t4 r.2)),(by rw[<-z]),(by exact L),(by cases h),(b.h.free c),(a.map V.bl),(XW S.c q s),(Wj X.K n t),(UX z lo hi),(I.X_ x c e),(Ds a o kvs),(Dp a o kvs),(C.bs b o e),(BZ t1 h l1),(30+(k:Int)),(18+(c:Int)),(.type T.nm),(.tup [ķi]),(.tup [v,u]),(.tup [u,v]),(.tab ks ms),(.ret .none),(.dic ks ds),"distances","_law_some","_law_mark","WORD_BITS","NEAR_BACK","FAR_CODES","BYTE_LOWS","BYTE_BITS",wpAny_in_of,unsupported,t.heap.get?,subscripted,seqEpoch_at,o.ExactDict,mirror_perm,len_mul_leN,keywordEach,interactive,g.objs.size,c.objs.size,binarySort',acc.toArray,W.kitx_dict,Value.isInt,Value.bytes,Sum.inr.inj,Shared.heap,Reps.append,Paired.snoc,OwnMs.split,Option.none,Nat.sub_sub,IsRangeIter,I.ok.j2.mem,I.ok.frames,Heap.ExtBut,E.ext.trans,D.TOi1.symm,Code.guards,Code.frames,Builtin.Str,[a,.fz ñm],[a,.fz ßm],[S,.fz ñm],[S,.fz ßm],["key",ťe],(Ņa n q z),(Ņa n q c),(Ζb (Ãb)),(Θa (ùi)),(Υa (x=y)),(Υa (i=j)),(č o Ô),(č e env),(č a Ô),0,(Ηa (i-j)),(Ďb "q" b),(Ďb "q" a),(čb m ôb),(Β (c%5)),(Ùd çi a),(Ëb _ ĵ),(Ğ m È),(ŭ ŧc f),(ŵ k its),(À (_,d)),(zX H' D o),(zX H x o'),(zX H a u'),(zR UI üb),(zR U5 Ōb),(zB ëg zK),(y j q l z),(wV I q ?_),(wO ks üf),(vd q.1 zF),(vC õ gc),(ur WG Đb),(q _ _ d e),(n=0->v=dv),(n.mono hk),(ks.map Up),(jt F g g'),(j.cut l h),(i.cut l h),(fs.zip vs),0,(b.trans e),(as.zip vs),(W.sub _ h),(W.len Ē),(SP X z8 D),(Gv f y fs),(F.trans a),(8*2097152),(.yJ o öa),(.type ńa),(.rt Ã d),(.ok .next),(.Name x j),((n:Int)+1),((k:Int)+1),((j+k:Nat)),z.cps.size,wpAny_load,ul.none_of,size_push',pushGuards,piled_cons,out.toList,m.zh.fresh,l.swap.fin,isTrue_and,closureFor,beq_iff_eq,b.Pairwise,WShape.has,W.handedIn,Subscript_,PlainAttrs,OwnMs.putF,HT.sIx_nat,D.i2z.symm,D.i12.symm,[p0,p1,p2],(ćg C dx),(Ÿa<1000),(ŀb this),(ŵ k xs),(à==Ŀa),(Ã==Ã),(Û==Ĝj),(λv h=>h),(λ_=>#[]),(zX H a d),(zX H T o),(zX H D o),(zX G p o),(zC++g zC),(yO 2 Čn),(yO 2 ą),(xV b=Ã),(xL A ê),(wt Î f),(wN gn gu),(wN Zv Z4),(wN Zu Z3),(v_ d u v),(v.da ŋa),(uK its k),(uF Íj i),(truthy v),(tM d k v),(q_ 3 ųc),(q_ 2 îi),(o.getD d),(o b ob e),(j+1==Ű),(iu Y c h),(hb _ _ d),(ha _ _ f),(eW l È),(eL FL fs),(d.db ŋa),(by rw[c]),(arrOf st),(Y8 ks ds),(Y.pl q h),(X_ y c e),(V8 b=Ã),(P.zip vs),(Jn Ĕ n),(Hx e=Ã),(Hp->Prop),(2 ^ 63-1),(.tup Ģo),(.tup æn),(.tup ůi),(.tup ťm),(.tup Œi),(.tup ŀm),(.tup Įm),(.tup ám),(.tup Żl),(.str ŋd),(.str x t),(.str "s"),(.ref Ůe),(.ref ĵa),(.int Ŏ),(.int à),(.inr ſa),(.inr Œa),(.inr Ċa),(.inr Ĺ),(.inl íb),(.inl p.1),"address","NEAR_ON","Machine",zC.length,z.sameBut,spos.line,sortRuns',slicePick,sh.extBut,sg.extBut,s.heap.Ns,qs.length,ok.frames,o.g.trans,maxI_uniq,l.swap.sa,kvs.foldl,k.toArray,isTrue_or,h.swap.ca,h.IsTuple,h.DictOfH,getMethod,g.isEmpty,g.gh.free,es.length,countRun',cond_true,c.g.trans,Str.empty,Reps.take,Reps.getK,Reps.getA,Reps.drop,I.zh.kept,Decidable,Arguments,[âj,ía],[Ĭa,Áb],[še,ía],[Úa,Ģb],[ĵb,Ŭn],[Š,łb],[Š,ũa],[x,y,z,u],[w,x,y,z],[v,ov,iv],[a,.fz r],["field"],0,(ĩh n y),(ĥk ê),(Ĩh Čb),(Ĺf Ůe),(ŵg i 0),(çj Å),(Ún=Ã),(Ĝd Ċ),(Ųc s h),(Ûc s t),(Βb Œn),(Τ ĵg),(εb Ún),(Úb<=16),(Ηa Ûb),(Τb Ńf),(Τb Ĩd),(ς Ůj),(Β íb),(Β Ûb),(Ζ Êe),(Ζ ņe),(Ģa .Is),(Ģa .Eq),(Δ ŝa),(Θ Ën),(Θ Ïi),(Γ ëg),(Γ ŝa),(Γ ľc),(Γ Ïi),0,(Ι Źa),(Ēa ĉb),(ŀ c.1),(Ī _ f),(ĝ Ŋb),(ĝ çi),(Ò ŭj),(À Ēm),(zd zC i),(zA f fs),(yq K WE),(yq K WD),(yq K WC),(yq K U0),(x/2 ^ l),(x a o e),(wR 1500),(wO ks x),(uK [] 0),(u7 zF r),(u e1 e2),(tW F fa),(st::sts),(q _ _ d),(pyTs ds),(o++x++y),(k K b z),(h r g f),(gD E.Xy),(g _ _ e),(d+k+x.2),(cut H L),(c _ _ e),(bS g v1),(a++[yv]),(Y2 [] b),(W.l▸e),(UQ 1000),(Oi lo n),(F.n X G),(F b o e),(B q Ćd),(B q ņb),(2 ^ w-1),(.tup []),(.rt o d),(.ref Yb),(.ref Ya),(.ref YZ),(.ref Vz),(.ref Vy),(.ref Vw),(.ref Vv),(.ok úf),(.nx β'),(.nx r.2),(.lst vs),(.int g0),(.int C3),(.int 21),(.dK Ŏa),((i:Int)),(x==("__debug__" : Str)),(yL (J3 (n:=6) È) È),(by cases y<;>exact c),(qA ů qO),(λd=>À (Â,d)),(Γ (z7 10))],[(zA ἀ zG),(.int ἀ),(zB ἀ zK),(zb (yM ἀ)),(.lst ἀ),(zA ἀ zG),(xt (zA ἀ ἁ)),(zY xS xQ ἀ zH),(λC s H c b=>ἀ),(zA ï ἀ),(À ἀ::rest),(λC s H d c=>ἀ),(yO 2 ἀ),(.nx (Λ ἀ)),(xi (zA ἀ ἁ)),0,(zb (jV ἀ)),0,0,(zB Ŋ ἀ),(ἀ%65536),(zB õ ἀ),(yP ūf xw ἀ ἁ ě),(zc (xf ἀ ἁ wd) (Δ ἂ)),(p7 (tE ἀ)),0,0,0,0,0,0,0,0,0,(zX H p ἀ),0,(zA ď ἀ),(zB ἀ zK),(uy ἀ YB),(zA ï (Α ἀ)),(λr st=>∃g,st=yT a0 p0 f0 g/\jU ἀ ἁ r),0,0,(ZA 0 [.at [Ŀ] Š] Ód ἀ),(ZC (g8 ἀ) (xo ἁ) ZE),(zR uV (θ ἀ)),(zA Ď ἀ),0,0,(σ.set i ἀ),0,0,(zc (ZP İb rfl ἀ ἁ ἂ) (zb ἃ)),0,(xo (XJ Ým Ĳa ἀ)),(xW ἀ λc=>?_),(ZR (tE ἀ)),(zB ı ἀ),(VD ἀ rfl),(vv (λC s H c b=>(Νa ἀ)) rfl),(PyProof.Rows.wpS_modify ἀ),((u q).mpr (.inr ἀ)),(zb (ZO (zV b) (qv 2) Ŷ (ZM ἀ ἁ))),(pW λi j=>.int ἀ),((ἀ).map þ),(ĝ (Ò ἀ)),(xf ἀ VG wd),(xv (yV ἀ)),(Xd (tO ἀ)),(yp (i:=1) (show (ἀ).Nodup by decide +kernel) rfl Ü),(t_ gi k7 rfl vm jq (tu ἀ tz)),(PyProof.Rows.wpS_lift (PySem.wpAny_rule ⟨rfl,æ ἀ⟩)),0,(YA (n:=2) rfl (uy ἀ ἁ)),0,0,(Ò (PySem.wpAny_onRaise ἀ)),(.bl (decide ἀ)),(Η (eC ἀ) (zA Č ἁ)),(vv (Μ ἀ) rfl),(xi (λ_=>À ἀ)),(zc (xf ἀ ἁ wd) (zc ἂ ἃ)),0,0,0,0,0,0,0,0,0,(xz (zB ἀ ἁ) îc),0,(qY 2 Č (tH ἀ ἁ)),(Ι (YG ἀ)),(xo (k4 ἀ)),(ĳe ἀ ?_),(vv ἀ rfl),0,0,(VH (TU ἀ ἁ)),(Θ (zi uH b rfl (zB õ ἀ))),(backTo pos ἀ),(Δ (wH (zB ἀ ἁ) (yL Ĳc È))),0,0,(Wx 0 [.at [Ŀ] łb] (eC ἀ) (xY ἁ)),0,0,(rI ἀ λi j=>.int ἁ),0,(λc=>ô ⟨g,rfl,gJ.fin ἀ⟩),(wH (zB yS ἀ) Ĵc),(Ta ἀ ἁ ⟨l⟩ ?_ ?_ ?_),(λC s H fp pn=>L9 ἀ),(.nx (ς ἀ)),(λc=>ô (h _ _ ἀ)),(zR uV (Ιe (eC ἀ))),(Mt (Ρa ἀ ἁ) rfl rfl),(.str (ἀ).shown),(tE (e2 zk ï ἀ)),(Jx Øc Ĺs yS ἀ),(λC s H d b=>ἀ),(zi uH b rfl ἀ),(zi qT b rfl ἀ),(yV (xz ἀ ķs)),(ἀ%4294967296),(ZN rfl uf ἀ),(uY λi j=>decide ἀ),0,(yp (i:=2) (show (ἀ).Nodup by decide +kernel) rfl Ü),0,0,(ἀ*134217728+m*16777216),(yp (i:=5) (show (ἀ).Nodup by decide +kernel) rfl Ü),(swapsWith v (À ἀ) pos.line Ô=pure Â),(e2 zM (xi (zA ἀ ἁ)) (e2 xI Þa Ïb)),(.Call ἀ [e] [] pos),(Im (i:=8) ZL.nd rfl Ü (yV ἀ)),0,0,0,0,0,0,0,0,0,(λc=>ô ⟨g,rfl,gH.fin ἀ⟩),0,(if ἀ=Ã then _ else _),(zi Zx b rfl (zB õ (Γ ἀ))),(Pg Ci Hn rfl YK LF (zB ἀ zK)),(k4 (g_ Wo b rfl (g6 ů ἀ))),(Hk G H ἀ y u v d Q s f e ĸs q),0,0,(tE (e2 zk (e1 ἀ ď) ï)),(pW λi j=>.bl (decide ἀ)),(wH (Τ (zB ńe ἀ)) Ĵc),(Βb (À (Ã,.lst ἀ))),0,0,(pQ (tW WH (pL 0 [] ἀ))),0,0,(e2 zM (Ο ἀ ἁ) (e2 xI ἂ ųb)),0,(λC s H fp pn=>LA ἀ),(λC s H fp pn=>(ἀ).h),(yF (e2 ἀ Ď ď)),(tu (zN (yV ἀ)) tz),(yF (xt (ε ἀ))),(Ι (Κe Ģh ἀ)),(Ι (wH ἀ îc)),(rU λi=>.int ἀ),(zi jK b rfl ἀ),(zi Wp b rfl ἀ),(zR uU (Λe ἀ)),(eL Y_ (Α ἀ)),(eL Wh (Α ἀ)),(u9 d (æ ἀ)),(Ca ἀ rfl rfl),(γ (Ε ἀ)),(ŭf (æ ἀ)),(uM 4 (xY ἀ)),0,(e2 xI ἀ Ðe),0,0,(.BoolOp .And ἀ pos),(.BoolOp .Or ἀ pos),(qk (vG ü "run" 8 [] wx ἀ) (vG ÿ "run" 8 [] wx ἁ)),(λxs H Q=>(∃p ys,xs=[.ref p]/\ἀ/\Q ἁ H)\/∃z,xs=[.str z]/\Ŏ<=á/\Q (.int Ŏ) H),(Mf I Å ἀ k d h λd1 d2 x y u v i j g l b=>LR I n A.in1 d1 d2 x y u v ἁ i j g l b),(wH (zB yS (zB Ŷ ἀ)) (yL (zS Ĳc) È)),0,0,0,0,0,0,0,0,0,(uc ūf xw (zN (zi qT b rfl ἀ)) Ňb ě),0,(uc (V3 (zV b)) W_ ĺa (zN (yV ἀ)) (by with_unfolding_all rfl)),(λx y H Q=>y=.zE/\Q ἀ H),(.nx [À (.own ἀ),À (.fz ŷa),À Ŧe,À (.fz ἁ),À (.fz ἂ)]),(λx y H Q=>∃i j,x=.str i/\y=.str j/\Q (.bl ἀ) H),(yp (i:=6) (show (ἀ).Nodup by decide +kernel) rfl Ü),0,0,(yp (i:=3) (show (ἀ).Nodup by decide +kernel) rfl Ü),(uX (tE (e2 zk Ď ą)) ēa (e2 zk (zR wz ἀ) ņ)),(yp (i:=4) (show (ἀ).Nodup by decide +kernel) rfl Ü),((ἀ).filter λd=>!xD d),0,0,(qk (vG ü "run" 3 [] wx ἀ) (vG ÿ "run" 3 [] wx ἁ)),0,0,(.Call ἀ [a] [] pos),0,(yX (i:=2) T8.nd rfl Ü (zi X9 b rfl ἀ)),(ux (i:=2) Mo.nd rfl Ü È (xv (yV ἀ))),(.done (À ἀ,i,m,ŧ q++(ἁ).reverse,g,k,j-1-m)),(λd=>match d with|.int j=>.int ἀ|d=>d),(zN (t_ (cE a) hJ rfl Tf Cf (tu ἀ tz))),(ψ (λc=>ô ⟨_,rfl,Xc.fin ἀ⟩)),(ψ (λc=>ô ⟨_,rfl,Xa.fin ἀ⟩)),(zg Ť zf (yV (xz ἀ Ĵc)) (νa ôi)),(Γ (zY xR xP ı (zi Jd b rfl ἀ))),(PyProof.Rows.wpS_modify (æ ἀ)),(Pi rfl rfl Xl LC (zB (yV ἀ) zK)),(.done (À ἀ,i,j-1,ŧ q,g,k,u)),(.Call ἀ [e] [] ßa),(.done (À ἀ,o++ſb i ἁ,i+k,j,g,k,u)),(λc=>ô ⟨_,rfl,gH.fin ἀ⟩),(Q w H->rU (λi=>.int ἀ) u H Q),(λxs H Q=>∃p ys,xs=Đd/\ἀ),(qZ (Χ Üb Ňb) ve (γc ἀ)),0,(.nx [À ἀ,À Æa,À éi]),0,0,(ãc β i π (.obj x ßf ἀ)),(λq z=>yB λc=>z ((ἀ).mpr c)),(if (ἀ).length<yZ then À ἁ else Ä),(Ζ (e2 yd Ď (zR Ym ἀ))),(Δ (zi Lm b rfl (Αa ἀ))),(λc=>ô (C λp j q f=>îb ἀ ἁ)),0,0,0,0,0,0,0,0,0,(by rw[ŗ,<-ŗ ἀ,Ũa,ex]),0,(Κ (Ζ (e2 yd ἀ ņ))),(R0 łf (uC rfl ľm ἀ šl ἁ Ķp)),(λq z=>.inl ((ἀ).mpr z)),(yF (e2 tI ï (eC ἀ))),(ms.map À++ŵ ἀ Ä),0,0,(ZC (MM ἀ) (xo ĥg) ZE),(ãc r.2 i π (.own ἀ)),(zN (zi Lo a rfl (zB ἀ Ļs))),(ηa (Μe (xO ἀ Ēi))),0,0,(HU Ŏc qw (XH ἀ ἁ) Ğd ě),0,0,(zi Jf b rfl (Αa ἀ)),0,(yP Ŏc qw ἀ Ňb ě),(updateSeq S ἀ >>= _),(uc þj xw ἀ ćd ě),(Īh ĺs++ŵ ἀ Ä),(zc (xf Öm ἀ wd) (Ψ Öm ἁ ἂ)),(pQ (tW WC (Νe ἀ))),(by have:=ἀ.2;omega),(zB ćm (zB Ŷ ἀ)),(zB Ĳa (zB Ôd ἀ)),(zA Íb (zA ág ἀ)),(.Expr (Κd ἀ) pos),(Κ (Α (e2 yd ἀ ď))),(YG (yP (xy ἀ) xw (zN ἁ) ĺa (zy _))),(zA ï (Ζ (e1 ἀ ņe))),(fG (pl:=_) O0 a rfl (g6 ů (xO ċa ἀ))),(pL 0 [] (xB ña (xB ἀ ēi)))])
def q0 (h0:0=0:=by first|exact .inl rfl|exact .inr rfl|assumption)(h1:0=0:=by decide)(h2:0=0:=by intro _;rfl)(h3:0=0:=by rfl)(h4:0=0:=by first|exact Or.inl rfl|exact Or.inr Ü|exact Or.inr ćb)(h5:0=0:=by first|exact Ųa|exact⟨rfl,Ųa⟩|exact⟨rfl,rfl,Ųa⟩|exact⟨rfl,rfl,rfl,Ųa⟩|exact⟨rfl,rfl,rfl,rfl,Ųa⟩)(h6:0=0:=by intros;exact λ_ _ _ _ _ _=>rfl):éc:=⟨⟩
def q7:=q0._auto_1
def q10:=q0._auto_2
def q11:=q0._auto_3
def q12:=q0._auto_4
def q13:=q0._auto_5
def q14:=q0._auto_6
def q15:=q0._auto_7
local macro_rules|`(tactic|omega)=>`(tactic|lia)
local macro_rules
  |`(tactic|cases $h:ident)=>`(tactic|first|(subst $h:ident)|(injection $h:ident;done)|(injection $h:ident with g;clear $h:ident;cases g)|(injection $h:ident with g k;clear $h:ident;cases g;cases k))
  |`(tactic|cases $h:term)=>`(tactic|first|(have g:=$h;subst g)|(have g:=$h;injection g;done)|(have g:=$h;injection g with k;clear g;cases k)|(have g:=$h;injection g with k l;clear g;cases k;cases l))
noncomputable section
namespace L2
open Ħ Ķ ī
abbrev zW:=Sum Int Str
noncomputable def XC:zW->Value->Ì
 |.inl k,v=>ŷq k v|.inr x,v=>Ëq x v
noncomputable def z6j(w:ß):zW->Int
 |.inl k=>hashInt k|.inr x=>hashStr w x
def Z6:∀{k:zW}{v:Value},XC k v=Ã->(∃i t,k=Ía i/\v=ťc i t)\/(∃x t,k=Ţb x/\v=Ťc x t)
 |.inl i,v,h=>by obtain⟨t,e⟩:=ţo (k:=i) (v:=v) h;exact .inl ⟨i,t,rfl,e⟩
 |.inr x,v,h=>by obtain⟨t,e⟩:=Value.isStrOf_shape (x:=x) (v:=v) h;exact .inr ⟨x,t,rfl,e⟩
def z6k(i:Int)(t:Tok):XC äl Åh=Ã:=by simp[XC,ŷq]
theorem z6l(x:Str)(t:Tok):XC Ġh Śr=Ã:=by simp[XC,Ëq]
theorem z6m(a b:Int):decide ((Ía a:zW)=Ía b)=ŭh:=by
 by_cases e:a=b;subst e;simp;have h:¬ (Ía a:zW)=Ía b:=λq=>e (Âc q)
 rw[ă h];exact(ĺc e).symm
def z6p(a b:Str):decide ((Ţb a:zW)=Ţb b)=decide (a=b):=by
 by_cases e:a=b;subst e;simp;have h:¬ (Ţb a:zW)=Ţb b:=λq=>e (Źq q)
 rw[ă h,ă e]
theorem z6n(a:Int)(b:Str):decide ((Ía a:zW)=Ţb b)=Â:=ă áp
def z6o(a:Str)(b:Int):decide ((Ţb a:zW)=Ía b)=Â:=ă áp
def xE(Ĝ:å)(w:ß):PySem.KeyKind Ĝ w zW where
 is:=XC
 hash:=z6j w
 inj:=λv a b g d=>by
  rcases Z6 g with⟨i,t,rfl,rfl⟩|⟨x,t,rfl,rfl⟩;rcases Z6 d with⟨j,u,rfl,e⟩|⟨y,u,rfl,e⟩;injection e with e1 _;rw[e1];exact nomatch e
  rcases Z6 d with⟨j,u,rfl,e⟩|⟨y,u,rfl,e⟩;exact nomatch e
  injection e with e1 _;rw[e1]
 byValue:=λk v h=>by rcases Z6 h with⟨i,t,rfl,rfl⟩|⟨x,t,rfl,rfl⟩<;>rfl
 pyHash:=λc h=>by rcases Z6 c with⟨i,t,rfl,rfl⟩|⟨x,t,rfl,rfl⟩;exact wpAny_pyHash_int h;exact wpAny_pyHash_str h
 eqBool:=λf c h=>by rcases Z6 f with⟨i,t,rfl,rfl⟩|⟨x,t,rfl,rfl⟩;rcases Z6 c with⟨j,u,rfl,rfl⟩|⟨y,u,rfl,rfl⟩;rw[z6m]at h;exact wpAny_eqBool_int h;rw[z6n]at h;exact īo i t y u _ _ _ _ h;rcases Z6 c with⟨j,u,rfl,rfl⟩|⟨y,u,rfl,rfl⟩;rw[z6o]at h;exact ĩo x t j u _ _ _ _ h;rw[z6p]at h;exact wpAny_eqBool_str h
 «strs»:=λk x t v h=>by
  rcases Z6 h with⟨i,u,rfl,e⟩|⟨y,u,rfl,e⟩;exact nomatch e
  injection e with e1 _
  subst e1;cases v<;>rfl
def z8a(Ĝ:å)(w:ß)(i:Int)(t:Tok):(Ŵa).is äl Åh=Ã:=z6k i t
def HR(Ĝ:å)(w:ß)(x:Str)(t:Tok):(Ŵa).is Ġh Śr=Ã:=z6l x t
set_option genInjectivity true
inductive V where
 |zE|bl (b:Ì)|int (i:Int)|str (x:Str)|byt (b:Ø UInt8)|W3 (b:UInt64)|ref (a:É)|ty (n:Ïa)
 deriving Ąc
set_option genInjectivity false
def zr:V->Value->Prop
 |.zE,u=>u=Áe|.bl b,u=>u=Ŵg b|.int i,u=>∃t,u=ťc i t|.str x,u=>∃t,u=Ťc x t|.byt b,u=>∃t,u=Ÿq b t|.W3 b,u=>∃t,u=ſj b t|.ref a,u=>u=Ċ a|.ty n,u=>u=ïk n
abbrev zm:Á V->Á Value->Prop:=ĳd zr
theorem zm.length{xs:Á V}{us:Á Value}(r:zm xs us):à=Ţ:=īj r
theorem zm.get:∀{xs:Á V}{us:Á Value}{i:Nat}{x:V},zm xs us->xs[i]?=À x->∃u,us[i]?=À u/\zr x u
 |_,_,_,_,.nil,e=>by simp at e|_,_,0,_,.cons r _,e=>by simp at e;subst e;exact⟨_,rfl,r⟩|_,_,i+1,x,.cons _ t,e=>by obtain⟨u,a,b⟩:=zm.get (i:=i) (x:=x) t āb;exact⟨u,by simpa using a,b⟩
theorem zm.set{x:V}{u:Value}(r:zr x u):∀{xs:Á V}{us:Á Value}(i:Nat),zm xs us->zm őg (us.set i u)
 |_,_,_,.nil=>.nil|_,_,0,.cons _ t=>.cons r t|_,_,i+1,.cons q t=>.cons q (zm.set r i t)
theorem Êh:∀{xs ys:Á V}{us ws:Á Value},zm xs us->zm ys ws->zm Çl (us++ws)
 |_,_,_,_,.nil,s=>s|_,_,_,_,.cons r t,s=>.cons r (Êh t s)
theorem zm.take:∀{xs:Á V}{us:Á Value}(n:Nat),zm xs us->zm (xs.take n) (us.take n)
 |_,_,0,_=>.nil|_,_,_+1,.nil=>.nil|_,_,n+1,.cons r t=>.cons r (zm.take n t)
theorem zm.drop:∀{xs:Á V}{us:Á Value}(n:Nat),zm xs us->zm (xs.drop n) (us.drop n)
 |_,_,0,r=>r|_,_,_+1,.nil=>.nil|_,_,n+1,.cons _ t=>zm.drop n t
def ul:Æ V->Æ Value->Prop
 |À v,À u=>zr v u|Ä,Ä=>éc|_,_=>ò
def KV{κ:Type}:Á ãb->Á Úe->Prop:=ĳd λ(p:κ×V) (q:κ×Value)=>p.1=q.1/\zr p.2 q.2
noncomputable def kV:zW->V
 |.inl i=>.int i|.inr x=>.str x
inductive HO where
  |lst (xs:Á V)
  |tup (xs:Á V)
  |dK (kvs:Á ż)|dT (kvs:Á Åc)
  |set (S:Int->Ì) (n:Nat)
  |ins (C dx:É) (fs:Á Õc)
  |own (x:É)
  |xd (fs:Á Õc)
  |met (f x:É)
  |rng (lo hi:Int)
  |yJ (o:Obj) (u:HO)
  |tbl (ps:Ø Value)
  |ext (φ:Heap->Prop)
abbrev Hp:=É->Æ HO
noncomputable def zX(H:Hp)(a:É)(o:HO):Hp:=λb=>if b=a then À o else H b
def ya{H:Hp}{a:É}{o:HO}:zX H a o a=À o:=by unfold zX;rw[Ï rfl]
theorem yB{H:Hp}{a b:É}{o:HO}(h:b≠a):zX H a o b=H b:=by unfold zX;rw[Ð h]
theorem z8m{H:Hp}{a b:É}{o u:HO}(h:H a=À o)(h':H b=À u)(d:o≠u):a≠b:=by intro e;subst e;rw[h]at h';exact d (ĸa h')
def qu{H:Hp}{a b:É}{o:HO}(h:H a=À o)(h':H b=Ä):a≠b:=by intro e;subst e;rw[h]at h';cases h'
section
variable(P:å)(w:ß)
def xT(H:Hp)(h:Heap)(a:É):HO->Prop
 |.lst xs=>à<=á/\∃(its:Á Value) (n:Nat),zm xs its/\ĥ a=À { cls:=.type Ġ,Ć:=.seq âa n }|.tup xs=>à<=á/\∃its:Á Value,zm xs its/\Īb h a âa|.dK kvs=>ĺ<=á/\ąa=Â/\∃vs,KV kvs vs/\óe Ŕa a vs|.dT kvs=>ĺ<=á/\ąa=Â/\∃xs:Á Þd,
   ĳd (λ(p:Á zW×V) (q:Á zW×É×Value)=>p.1=q.1/\H q.2.1=À Ĝo/\zr p.2 q.2.2) kvs xs/\
   ∃o es ep,ĥ a=À o/\ŭq/\şa=.dict es ep/\es.toList=àc (entryOfKey Ŵe)/\(àc (·.1)).Nodup
 |.set S n=>h.SetOf (intKind P w) a S n|.ins C dx fs=>H dx=À Ĭf/\Ÿa<=1000/\dx≠a/\ĥ a=À Ğr/\
   ∃mA,żh dx mA/\(∀f,ul ćl Œl)/\řj mA (Ĝd (·.1))
 |.own _=>∃o,ĥ a=À o|.xd fs=>∃mA,żh a mA/\∀f,ul ćl Œl|.rng lo hi=>∃t u v,ĥ a=À { cls:=.type Ùc,Ć:=.fields #[.int lo t,.int hi u,.int 1 v] }|.yJ o u=>ĥ a=À o/\xT H h a u|.tbl ps=>ĥ a=À { cls:=.none,Ć:=.fields ps }|.met f x=>ĥ a=À (W.methodObj Į Āe)|.ext φ=>φ h/\(∃o,ĥ a=À o)/\∀h1 h2:Heap,φ h1->(∀o,ól a=À o->h2.get? a=À o)->φ h2
def wE(H:Hp)(h:Heap):Prop:=∀a o,H a=À o->xT P w H h a o
#print a
section
variable{P:å}{w:ß}{H H':Hp}{h h':Heap}{a:É}{o:HO}
theorem xT.lt(x:xT P w H h a o):a<ĉb:=by
 cases o with
 |lst xs=>obtain⟨_,_,_,_,e⟩:=x;exact ħ e
 |tup xs=>obtain⟨_,_,_,p⟩:=x;exact p.lt
 |dK kvs=>obtain⟨_,_,_,_,o,_,_,e,_⟩:=x;exact ħ e
 |dT kvs=>obtain⟨_,_,_,_,o,_,_,e,_⟩:=x;exact ħ e
 |set S n=>obtain⟨o,_,_,_,e,_⟩:=x;exact ħ e
 |ins C dx fs=>obtain⟨_,_,_,e,_⟩:=x;exact ħ e
 |own y=>obtain⟨_,e⟩:=x;exact ħ e
 |xd fs=>obtain⟨_,⟨_,_,_,e,_⟩,_⟩:=x;exact ħ e
 |rng lo hi=>obtain⟨_,_,_,e⟩:=x;exact ħ e
 |yJ ob u=>obtain⟨e,_⟩:=x;exact ħ e
 |tbl ps=>exact ħ (show ĥ a=À _ from x)|met f y=>exact ħ (show ĥ a=À _ from x)|ext φ=>obtain⟨_,⟨_,e⟩,_⟩:=x;exact ħ e
theorem Ôh{α β:Type}{F G:α->β->Prop}:∀{l₁:Á α}{l₂:Á β},ĳd F l₁ l₂->(∀a b,F a b->G a b)->ĳd G l₁ l₂
 |_,_,.nil,_=>.nil|_,_,.cons r t,f=>.cons (f _ _ r) (Ôh t f)
def xT.YX(x:xT P w H h a o)(k:∀b u,(b=a\/H b=À Ĭf)->ĥ b=À u->ġ b=À u)(E:∀b,H b=À Ĭf->H' b=À Ĭf)(F:∀b xs,H b=À Ŗa->H' b=À Ŗa):xT P w H' h' a o:=by
 induction o with
 |lst xs=>obtain⟨z,l,n,r,e⟩:=x;exact⟨z,l,n,r,k _ _ Ĺ e⟩
 |tup xs=>obtain⟨z,l,r,g,e,c⟩:=x;exact⟨z,l,r,g,k _ _ Ĺ e,c⟩
 |dK kvs=>obtain⟨z,y,A,r,g,j,i,e,c⟩:=x;exact⟨z,y,A,r,g,j,i,k _ _ Ĺ e,c⟩
 |dT kvs=>obtain⟨z,y,xs,r,g,j,i,e,c⟩:=x;exact⟨z,y,xs,Ôh r λp q z=>⟨z.1,F _ _ z.2.1,z.2.2⟩,g,j,i,k _ _ Ĺ e,c⟩
 |set S n=>obtain⟨g,j,i,t,e,c⟩:=x;exact⟨g,j,i,t,k _ _ Ĺ e,c⟩
 |ins C dx fs=>obtain⟨d,z,B,e,s,⟨m,j,i,e2,c⟩,r⟩:=x;exact⟨E _ d,z,B,k _ _ Ĺ e,s,⟨m,j,i,k _ _ (.inr d) e2,c⟩,r⟩
 |own y=>obtain⟨g,e⟩:=x;exact⟨g,k _ _ Ĺ e⟩
 |xd fs=>obtain⟨s,⟨m,j,i,e,c⟩,r⟩:=x;exact⟨s,⟨m,j,i,k _ _ Ĺ e,c⟩,r⟩
 |rng lo hi=>obtain⟨t,u,v,e⟩:=x;exact⟨t,u,v,k _ _ Ĺ e⟩
 |yJ g u ih=>obtain⟨e,q⟩:=x;exact⟨k _ _ Ĺ e,ih q⟩
 |tbl ps=>have e:ĥ a=À { cls:=.none,Ć:=.fields ps }:=x;show ġ a=À { cls:=.none,Ć:=.fields ps };exact k a _ Ĺ e|met f y=>have e:ĥ a=À Ęn:=x;show ġ a=À Ęn;exact k a _ Ĺ e|ext φ=>obtain⟨p,⟨o,e⟩,st⟩:=x;exact⟨st _ _ p λo q=>k _ _ Ĺ q,⟨o,k _ _ Ĺ e⟩,st⟩
theorem wE.lt(x:wE P w H h)(e:H a=À o):a<ĉb:=(ćs).lt
def wE.fresh(x:wE P w H h)(e:ĉb<=a):H a=Ä:=by
 cases q:H a with
 |Ä=>rfl|À u=>exact Ú (ŭ (x.lt q) e) Ôa
def wE.kept(x:wE P w H h)(k:∀b u,ĥ b=À u->ġ b=À u):wE P w H h':=λa o e=>
 (ćs).YX (λb u _ q=>k b u q) żg λ_ _ q=>q
def wE.laid(x:wE P w H h)(k:∀b u,ĥ b=À u->ġ b=À u)(g:ĉb<=a)(d:xT P w æf h' a o):wE P w æf h':=λb u e=>by have f:=x.fresh g;by_cases hb:b=a;subst hb;rw[ya]at e;cases e;exact d;rw[yB hb]at e;exact(ŏk).YX (λc v _ q=>k c v q) (λc q=>by rw[yB (qu q f)];exact q) λc i q=>by rw[yB (qu q f)];exact q
#print a
def Rd(H:Hp)(a:É)(u:HO):Prop:=H a=À u\/∃o,H a=À Čf
def Rd.ok{P:å}{w:ß}{H:Hp}{h:Heap}{a:É}{u:HO}(r:Rd H a u)(x:wE P w H h):xT P w H h a u:=by rcases r with r|⟨o,r⟩;exact x a u r;obtain⟨_,q⟩:=x a _ r;exact q
def Qw:Æ HO->Prop
 |À (.lst _)=>éc|À (.dK _)=>éc|À (.dT _)=>éc|À (.set _ _)=>éc|À (.ins _ _ _)=>éc|À (.ext _)=>éc|_=>ò
section
variable{P:å}{w:ß}{H:Hp}{h h':Heap}{x e:É}{o':HO}
def wE.write(ok:wE P w H h)(i:Qw (H x))(m:e=x\/H e=À āe)(k:∀b u,b≠e->ĥ b=À u->ġ b=À u)(l:∃u,ġ e=À u)(j:xT P w är h' x o'):wE P w är h':=λb u q=>by
 have a:∀c y,H c=À (.own y)->c≠x:=λc y r z=>by subst z;rw[r]at i;exact i
 have d:∀c f,H c=À (.tup f)->c≠x:=λc f r z=>by subst z;rw[r]at i;exact i
 by_cases hb:b=x;subst hb;rw[ya]at q;cases q;exact j;rw[yB hb]at q;by_cases hbe:b=e;have n:H b=À āe:=by rcases m with z|z;exact Ú (hbe.trans z) hb;rw[hbe];exact z
 rw[q]at n;cases n;obtain⟨v,o⟩:=l;exact⟨v,by rw[hbe];exact o⟩;refine(ok b u q).YX (λc v g r=>k c v ?_ r) (λc r=>by rw[yB (a c b r)];exact r) λc f r=>by rw[yB (d c f r)];exact r
 rcases g with rfl|g;exact hbe;rintro rfl;rcases m with z|z;exact a c b g z;rw[g]at z;cases z;exact hb rfl
#print a
structure Un(fs ex:Á É)(H H':Hp)(h h':Heap):Prop where
 ıa:∀b o,ĥ b=À o->H b=Ä->b ∉ fs->b ∉ ex->ġ b=À o
 slot:∀b o,ĥ b=À o->H b=Ä->b∈fs->b ∉ ex->∃sl,ġ b=À { o with Äd:=sl }
 free:∀b o,ĥ b=À o->H b=Ä->b ∉ ex->H' b=Ä
 ŵh:∀b o,ĥ b=À o->b ∉ ex->∃o',ġ b=À o'
 qJ:∀b xs,H b=À Ŗa->H' b=À Ŗa
 tT:∀b o u,H b=À Čf->H' b=À Čf
 pG:∀b ps,H b=À čf->∃more,H' b=À Ãp
section
variable{fs ex:Á É}{H H1:Hp}{h h1 h':Heap}{a x e:É}{o:HO}
def Un.any(u:Un fs ex H H1 h h1){b:É}{a:Obj}(q:ĥ b=À a)(n:H b=Ä)(c:b ∉ ex):∃sl,ól b=À { a with Äd:=sl }:=by by_cases hb:b∈fs;exact Ŋh b a q n hb c;exact⟨a.slots,Ņf b a q n hb c⟩
def ķf(k:∀b u,ĥ b=À u->ġ b=À u):Un fs ex H H h h':=
 ⟨λb a q _ _ _=>k b a q,λb a q _ _ _=>⟨a.slots,k b a q⟩,λ_ _ _ n _=>n,λb a q _=>⟨a,k b a q⟩,λ_ _ q=>q,λ_ _ _ q=>q,λ_ c q=>⟨#[],by rw[q];simp⟩⟩
def Un.refl:Un fs ex H H h h:=ķf λ_ _ q=>q
def Un.laid(k:∀b u,ĥ b=À u->ġ b=À u)(e:ĉb<=a)(c:H a=Ä):Un fs ex H æf h h' where
 ıa:=λb u q _ _ _=>k b u q
 slot:=λb u q _ _ _=>⟨u.slots,k b u q⟩
 free:=λb u q n _=>by rw[yB (Ça (ŭ ľf e))];exact n
 ŵh:=λb u q _=>⟨u,k b u q⟩
 qJ:=λb d q=>by rw[yB Êl];exact q
 tT:=λb u d q=>by rw[yB Êl];exact q
 pG:=λb f q=>⟨#[],by rw[yB Êl,q];simp⟩
def Un.write(a:Qw (H x))(j:e=x\/H e=À āe)(k:∀b u,b≠e->ĥ b=À u->ġ b=À u)(d:∃u,ġ e=À u):Un fs ex H ÿk h h':=by
 have f:∀b,H b=Ä->b≠x:=λb n z=>by subst z;rw[n]at a;exact a
 have g:∀b,H b=Ä->b≠e:=λb n z=>by subst z;rcases j with r|r;exact f b n r;rw[n]at r;cases r
 have c:∀b u,H b=À u->¬ Qw (À u)->b≠x:=λb u q l z=>by subst z;rw[q]at a;exact l a
 refine⟨λb u q n _ _=>k b u (g b n) q,λb u q n _ _=>⟨u.slots,k b u (g b n) q⟩,λb u q n _=>by rw[yB (f b n)];exact n,λb u q _=>?_,
  λb i q=>by rw[yB Ýj];exact q,λb u i q=>by rw[yB Ýj];exact q,λb m q=>⟨#[],by rw[yB Ýj,q];simp⟩⟩
 by_cases hbe:b=e;subst hbe;exact d;exact⟨u,k b u hbe q⟩
#print a
noncomputable def BH(h:Heap)(H:Hp):Á É:=(ùs).filter λa=>(H a).isSome
def Zz(h:Heap)(H:Hp):Heap:=W.hideAll h Ül
def z5h(h:Heap)(H:Hp):(Ēh).objs.size=ĉb:=W.hideAll_size _ _
def z5g{h:Heap}{H:Hp}{b:É}{o:Obj}(e:ĥ b=À o)(n:H b=Ä):(Ēh).get? b=À o:=
 W.hideAll_get _ e λa=>by have q:(H b).isSome=Ã:=(ŭd a).2;rw[n]at q;simp at q
def y0m{h:Heap}{H:Hp}{b:É}{o:Obj}(e:(Ēh).get? b=À o):ĥ b=À o/\H b=Ä:=by
 have a:ĥ b=À o:=W.of_hideAll Ül e;refine⟨a,?_⟩;cases q:H b with
 |Ä=>rfl|À x=>have c:b∈BH h H:=Ŝi ⟨âd (ħ a),by simp[q]⟩;have z:(Ēh).get? b=Ä:=W.hideAll_none Ül c;rw[z]at e;cases e
noncomputable def sT(g h:Heap)(L:É):Á é:=(ùs).filterMap λa=>if a=L\/(g.get? a).isSome=Ã then Ä else(ĥ a).map λo=>(a,o)
def Ō(g h:Heap)(L d:É):Á é:=(sT g h L).filter λp=>decide (p.1≠d)
structure Mod(K:Í)(mg:Str->Æ Value)(Ç:Heap):Prop where
 W5:Ŕ Ç
 glob:Ċe ė mg
 blt:∃mb,Ċe ëk mb/\∀x:Str,x ≠ ák->mb x=ť x
 nolimit:base.NoLimit
structure Cx where
 Ĝ:å
 w:ß
 K:Í
 mg:Str->Æ Value
 Ç:Heap
 A:ø
 N:Á Str
 s₀:Ë
 H₀:Hp
 env:Env
 ā:Á Env
 stack:Á Env
 ex:Á É
 fn:Str->Ì
 calm:Ì
 pn:Á é
 xe:Value->Ë->Prop
noncomputable def jG(l:Á Env):Á É:=l.filterMap (·.frame)
abbrev Cx.fs(X:Cx):Á É:=jG ċe
def jl(a:ča)(x:Str):Prop:=öc x=À .local\/öc x=À .cell\/öc x=À .free
def j9(a:ča)(x:Str):Prop:=öc x=À .local\/öc x=À .cell
def sG(env:Env)(h:Heap)(m:Str->Æ Value)(x:Str)(u:Value):Prop:=
 (ăd x=À .local/\m x=À u)\/((ăd x=À .cell\/ăd x=À .free)/\∃c,Ðj x=À c/\h.IsCell c (À u))
structure Cx.Ok(X:Cx):Prop where
 mod:Mod X.K ð Œ
 kind:Òj=.function
 glob:ĩj=ė
 blt:X.env.builtins=ëk
 above:ĸc<=Öa
 inj:∀x y c,Ĵa x=À c->Ĵa y=À c->x=y
 has:∀x,(ïd x=À .cell\/ïd x=À .free)->∃c,Ĵa x=À c
 Vo:∀x c,X.fn x=Ã->Ĵa x=À c->ĸc<=c
 hd:Ž=Ã->X.A.handled=Ä
 Ĵl:X.A.frames=À Śa
 QN:Śa=ċe\/(Śa=Ô::ċe/\X.env.frame=À Öa)
 QF:∀b∈X.ex,b≠Öa/\∀x c,Ĵa x=À c->c≠b
 bs:∀b o,Óf b=À o->Ñj b=À o/\Ġb b=Ä
 kO:X.base.objs.size<=ĸc
 Vs:∀b o,Óf b=À o->b ∉ X.ex
 Vp:∀b∈X.ex,b ∉ Ŧa
 j2:ůn Œ ċe
 YV:∀b∈Ŧa,Ġb b=Ä
structure zI(X:Cx)(z8:Á é)(σ:Á ŀh)(H:Hp)(s:Ë):Prop where
 ok:X.Ok
 os:s.os=X.s₀.os
 bare:Če Ōh
 Ç:Un Ŧa X.ex Ġb H X.s₀.heap Ý
 loc:∃m,Űr Öa m/\∀(i:Nat)(x:Str)(v:V),X.N[i]?=À x->σ[i]?=À æa->jl îa x->∃u,zr v u/\sG Ô Ý m x u
 Đa:∀x c,Ĵa x=À c->∃v,Äq c v
 free:H Öa=Ä
 p_:∀x c,Ĵa x=À c->H c=Ä
 pin:∀p∈įc++z8,Ą p.1=À p.2/\H p.1=Ä/\p.1≠Öa/\p.1 ∉ Ŧa/\∀v,p.2.data≠.cell v
 zh:wE ó X.w H Ý
 len:σ.length=ú
section
variable{X:Cx}{z8:Á é}{σ:Á ŀh}{H H':Hp}{s:Ë}{h':Heap}
def Cx.Ok.rj(ok:X.Ok){b:É}{o:Obj}(e:Óf b=À o):b ∉ Ŧa:=λa=>by have:=(ok.j2.mem a).1;rw[e]at this;cases this
theorem zI.bs(I:zI X z8 σ H s):∀b o,Óf b=À o->Ą b=À o/\H b=Ä:=λb o e=>
 ⟨īg b o Ĥg.1 Ĥg.2 (I.ok.rj e) įp,Âe b o Ĥg.1 Ĥg.2 įp⟩
def zI.bk(I:zI X z8 σ H s):∀b o,Óf b=À o->Ą b=À o:=λb o e=>(I.bs b o e).1
theorem zI.mod(I:zI X z8 σ H s):Mod X.K ð Œ:=Àl
def zI.xg(I:zI X z8 σ H s):X.K.In Ý:=I.ok.mod.W5.keeps I.bk
theorem zI.lt(I:zI X z8 σ H s):Öa<Û:=let ⟨_,hn,_⟩:=Įa;hn.lt
def zI.sz(I:zI X z8 σ H s):ĸc<=Û:=Ğ ôk (õa I.lt)
def zI.A9(I:zI X z8 σ H s){a:É}(h:Û<=a):a ∉ Ŧa:=λb=>by obtain⟨_,o,c,_⟩:=Ár b;exact Ú (ŭ (ħ c) (Ğ I.sz h)) Ôa
def zI.X_(I:zI X z8 σ H s):∀x c,Ĵa x=À c->c≠Öa:=λx c e z=>by obtain⟨v,o,f,d⟩:=Ša x c e;obtain⟨m,⟨h,i,g,a,b,_⟩,_⟩:=Įa;rw[z,a]at f;cases f;rw[b]at d;cases d
theorem zI.j2(I:zI X z8 σ H s):Đg Œ ċe:=by
 have f:∀(l:Á Env),(∀b∈jG l,b∈Ŧa)->ůn Œ l->Đg Œ l:=by
  intro l
  induction l with
  |nil=>intro _ _;trivial|Ĉ env r ih=>
   intro g n;obtain⟨h,⟨L,o,c,i,m,k⟩,j⟩:=n;have a:L∈Ŧa:=g L (by unfold jG;rw[şi,c];exact ĵ);obtain⟨p,e⟩:=Øf L o m (I.ok.YV L a) a λz=>I.ok.Vp L z a
   exact⟨h,⟨L,_,c,i,e,k⟩,ih (λb d=>g b (by unfold jG;rw[şi,c];exact ÿa _ d)) j⟩
 exact f ċe (λ_ d=>d) I.ok.j2
theorem zI.stack(I:zI X z8 σ H s):Đg Œ Śa:=by rcases I.ok.QN with e|⟨e,hf⟩;rw[e];exact I.j2;rw[e];obtain⟨m,a,_⟩:=Įa;refine .cons (by rw[őb];decide) hf a ?_ I.j2;exact Heap.get?_none_of_le (Ğ İh ôk)
def zI.QO(I:zI X z8 σ H s):∀b∈jG Śa,b∈Öa::Ŧa:=λb a=>by rcases I.ok.QN with e|⟨e,hf⟩;rw[e]at a;exact ÿa _ a;rw[e]at a;unfold jG at a;rw[şi,hf]at a;exact a
def zI.AE(I:zI X z8 σ H s):∀b∈jG Śa,H b=Ä:=λb a=>by rcases ľ (I.QO b a)with e|a;rw[e];exact çb;obtain⟨_,o,c,_⟩:=Ár a;exact Âe b o c (I.ok.YV b a) λz=>I.ok.Vp b z a
def zI.step{g':Ø GenState}{t':Nat}{d':Drawn}{ch:Á É}(I:zI X z8 σ H s)(t:∀b∈ch,Ąg/\b≠Öa/\(∀x c,Ĵa x=À c->c≠b)/\∀p∈įc++z8,p.1≠b)(g:∀b o,b≠Öa->b ∉ Ŧa->b ∉ ch->Ą b=À o->H b=Ä->ġ b=À o)(A:∀b o,b≠Öa->b∈Ŧa->b ∉ ch->Ą b=À o->H b=Ä->∃sl,ġ b=À { o with Äd:=sl })(f:∀b o,b ∉ ch->Ą b=À o->H b=Ä->H' b=Ä)(B:∀b o,b ∉ ch->Ą b=À o->∃o',ġ b=À o')(U:∀b xs,H b=À Ŗa->H' b=À Ŗa)(W:∀b o u,H b=À Čf->H' b=À Čf)(O:∀b ps,H b=À čf->∃more,H' b=À Ãp)(ns:∀m,Űr Öa m->h'.Ns Öa m)(S:wE ó X.w H' h')(P:Če g') :zI X z8 σ H' { s with ç:=h',gens:=g',drawn:=d',Ė:=t' }:=by
 have F:∀b o,Ñj b=À o->b≠Öa:=λb o e=>Ça (ŭ ŧc ôk)
 have y:∀b o,Ñj b=À o->b ∉ X.ex->b ∉ ch:=λb o e a C=>by rcases(t b C).1 with z|z;exact a z;exact Ú (ŭ ŧc z) Ôa
 have j:∀x c,Ĵa x=À c->∀v,Äq c v->h'.IsCell c v:=λx c e v ⟨o,E,G⟩=>by
  have h:c ∉ ch:=λz=>(t c z).2.2.1 x c e rfl
  by_cases hc:c∈Ŧa;obtain⟨sl,q⟩:=A c o Œq hc h E ũj;exact⟨_,q,G⟩;exact⟨o,g c o Œq hc h E ũj,G⟩
 refine⟨I.ok,Îd,P,⟨λb o e n C a=>?_,λb o e n C a=>?_,λb o e n a=>?_,λb o e a=>?_,λb xs e=>U b xs (øf b xs e),λb o xs e=>W b o xs (öf b o xs e),λb ps e=>?_⟩,?_,λx c e=>?_,?_,λx c e=>?_,λp L=>?_,S,ŧb⟩;exact g b o Ġs C šg (īg b o e n C a) ñj;obtain⟨sl,e1⟩:=Øf b o e n C a;obtain⟨J,e2⟩:=A b _ Ġs C šg e1 ñj;exact⟨J,e2⟩;obtain⟨o',e1⟩:=Ìf b o e a;exact f b o' šg e1 ñj;obtain⟨o',e1⟩:=Ìf b o e a;exact B b o' šg e1;obtain⟨Y,e1⟩:=ùf b ps e;obtain⟨R,e2⟩:=O b _ e1;exact⟨Y++R,by rw[e2,Array.append_assoc]⟩;obtain⟨m,T,Q⟩:=Įa;refine⟨m,ns m T,λi x v e1 e2 Z=>?_⟩;obtain⟨u,r,l⟩:=Q i x v e1 e2 Z;refine⟨u,r,?_⟩;rcases l with l|⟨k,c,e,z⟩;exact .inl l;exact .inr ⟨k,c,e,j x c e _ z⟩;obtain⟨v,z⟩:=Ša x c e;exact⟨v,j x c e v z⟩;obtain⟨m,⟨o,_,_,E,_⟩,_⟩:=Įa;exact f _ o (λz=>(t _ z).2.1 rfl) E çb;obtain⟨v,o,E,G⟩:=Ša x c e;exact f c o (λz=>(t c z).2.2.1 x c e rfl) E ũj;obtain⟨e,n,N,K,d⟩:=ţa p L;have h:p.1 ∉ ch:=λz=>(t p.1 z).2.2.2 p L rfl
 exact⟨g p.1 p.2 N K h e n,f p.1 p.2 h e n,N,K,d⟩
def zI.un{t':Nat}(I:zI X z8 σ H s)(u:Un Ŧa [] H H' Ý h')(h:wE ó X.w H' h'):zI X z8 σ H' { s with ç:=h',Ė:=t' }:=by
 obtain⟨m,⟨o,v,l,g,r⟩,_⟩:=id Įa;obtain⟨t,j⟩:=u.any g çb ã
 exact ŀl (g':=Ōh) (d':=s.drawn) (ch:=[]) ăa (λb o _ d _ e n=>Ņf b o e n d ã) (λb o _ d _ e n=>Ŋh b o e n d ã) (λb o _ e n=>ŋh b o e n ã) (λb o _ e=>ħh b o e ã) u.qJ u.tT u.pG (λp i=>by obtain⟨q,f,c,a,k⟩:=i;rw[g]at a;cases a;exact⟨_,f,c,j,k⟩) h èb
def zI.call{g':Ø GenState}{t':Nat}{d':Drawn}{ch:Á É}(I:zI X z8 σ H s)(u:Un Ñl ch H H' Ý h')(k:wE ó X.w H' h')(q:Če g')(d:∀b∈ch,Ąg/\b≠Öa/\(∀x c,Ĵa x=À c->c≠b)/\∀p∈įc++z8,p.1≠b) :zI X z8 σ H' { s with ç:=h',gens:=g',drawn:=d',Ė:=t' }:=by
 obtain⟨m,⟨o,E,y,j,r⟩,_⟩:=id Įa;obtain⟨C,g⟩:=u.any j çb λz=>(d _ z).2.1 rfl
 exact ŀl (ch:=ch) d (λb o g v a e n=>Ņf b o e n (λz=>(ľ (I.QO b z)).elim g v) a) (λb o _ _ a e n=>u.any e n a) (λb o a e n=>ŋh b o e n a) (λb o a e=>ħh b o e a) u.qJ u.tT u.pG (λA l=>by obtain⟨B,i,h,f,t⟩:=l;rw[j]at f;cases f;exact⟨_,i,h,g,t⟩) k q
def zI.turned{t':Nat}{it:É}(I:zI X z8 σ H s)(k:∀b o,b≠it->Ą b=À o->ġ b=À o)(i:H it=Ä)(f:it≠Öa)(j:it∈X.ex\/ĸc<=it)(t:∀x c,Ĵa x=À c->c≠it)(l:∀p∈įc++z8,p.1≠it):zI X z8 σ H { s with ç:=h',Ė:=t' }:=by
 have d:∀b u,H b=À u->b≠it:=λb u e z=>by rw[z,i]at e;cases e
 refine ŀl (g':=Ōh) (d':=s.drawn) (ch:=ıc) (λb y=>?_) (λb o _ _ a e _=>k b o Ōi e) (λb o _ _ a e _=>⟨o.slots,k b o Ōi e⟩) (λ_ _ _ _ n=>n)
  (λb o a e=>⟨o,k b o Ōi e⟩) Ĩq (λ_ _ _ e=>e) (λb B e=>⟨#[],by rw[e];simp⟩) (λm h=>?_) (λb u e=>?_) èb
 have e:b=it:=by simpa using y
 subst e;exact⟨j,f,t,l⟩;obtain⟨o,A,g,w,r⟩:=h;exact⟨o,A,g,k _ o (Ñc f) w,r⟩;refine(Ĕ b u e).YX (λc v a q=>k c v ?_ q) żg λ_ _ q=>q
 rcases a with z|z;rw[z];exact d b u e;exact d c _ z
def zI.tok(I:zI X z8 σ H s)(t:Nat):zI X z8 σ H { s with Ė:=t }:=I.un (h':=Ý) (t':=t) Un.refl Ĕ
theorem zI.kept{t':Nat}(I:zI X z8 σ H s)(k:∀b u,Ą b=À u->ġ b=À u):zI X z8 σ H { s with ç:=h',Ė:=t' }:=I.un (ķf k) (Ès k)
theorem zI.laid{a:É}{o:HO}{t':Nat}(I:zI X z8 σ H s)(k:∀b u,Ą b=À u->ġ b=À u)(d:Û<=a)(c:xT ó X.w æf h' a o) :zI X z8 σ æf { s with ç:=h',Ė:=t' }:=I.un (Un.laid k d (źb d)) (I.zh.laid k d c)
theorem zI.write{x e:É}{o:HO}{t':Nat}(I:zI X z8 σ H s)(d:Qw (H x))(f:e=x\/H e=À āe)(k:∀b u,b≠e->Ą b=À u->ġ b=À u)(a:∃u,ġ e=À u)(c:xT ó X.w ÿk h' x o):zI X z8 σ ÿk { s with ç:=h',Ė:=t' }:=I.un (Un.write d f k a) (I.zh.write d f k a c)
def zI.weak{σ':Á ŀh}(I:zI X z8 σ H s)(a:σ'.length=σ.length)(w:∀(i:Nat) v,σ'[i]?=À æa->σ[i]?=À æa):zI X z8 σ' H s:=
 ⟨I.ok,Îd,èb,řh,let ⟨m,hn,hl'⟩:=Įa;⟨m,hn,λi x v e1 e2 b=>hl' i x v e1 (w i v e2) b⟩,Ša,çb,êc,ţa,Ĕ,a.trans ŧb⟩
def zI.QM{a:Á é}(I:zI X z8 σ H s)(h:∀p∈a,Ą p.1=À p.2/\H p.1=Ä/\p.1≠Öa/\p.1 ∉ Ŧa/\∀v,p.2.data≠.cell v):zI X a σ H s:=
 ⟨I.ok,Îd,èb,řh,Įa,Ša,çb,êc,λp b=>(Ăa b).elim (λz=>ţa p (ţd _ z)) (h p),Ĕ,ŧb⟩
def ff{N:Á Str}(c:N.Nodup){i j:Nat}{x:Str}(a:N[i]?=À x)(b:N[j]?=À x):i=j:=by obtain⟨e,e1⟩:=Ŗ a;obtain⟨d,e2⟩:=Ŗ b;exact(List.getElem_inj c).mp (e1.trans e2.symm)
def nB{M:ħe}{A:ø}{E:Value->Ë->Prop}{i:Nat}{x:Str}{v:V}{u:Value}{Q:ņa->Ë->Prop}(I:zI X z8 σ H s)(hN:ľa)(hi:X.N[i]?=À x)(t:j9 îa x)(r:zr v u)(h:∀s',zI X z8 ëe H s'->(∃a,ńb a Ý Ġd/\(a=Öa\/Ĵa x=À a))->Q () s')(hf:Ê Êb q7):Ù M A Ďo Q E s:=by
 obtain⟨m,hn,hl⟩:=id Įa;have J:(Òj == .class||(Òj == .module&&Öa != ĩj))=Â:=by rw[őb];rfl
 have O:i<σ.length:=by rw[ŧb];exact Śb.1
 have X_:=I.X_
 have g:∀{a:É}{h':Heap},(∃o,Ą a=À o/\H a=Ä)->ńb a Ý h'->wE ó X.w H h':=λ{a h'} ha f b ob e=>by
  obtain⟨_,_,B⟩:=ha;refine(Ĕ b ob e).YX (λc P l q=>(f.2 c ?_).trans q) żg λ_ _ q=>q
  rintro rfl;rcases l with rfl|l;rw[B]at e;cases e;rw[B]at l;cases l
 rcases t with hk|hk;refine wpAny_storeName_local hk hn (λh' T f=>?_) J;obtain⟨oL,_,_,hoL,_⟩:=id hn;refine h _ ⟨I.ok,Îd,èb,⟨λb o e n F t=>?_,λb o e n F t=>?_,Âe,λb o e t=>?_,øf,öf,ùf⟩,⟨_,T,λj y Y e1 e2 e3=>?_⟩,λy c e=>?_,çb,êc,λp Z=>?_,g ⟨oL,hoL,çb⟩ f,by simpa using ŧb⟩ ⟨_,f,.inl rfl⟩;exact(íi).trans Ųo;obtain⟨W,e1⟩:=Øf b o e n F t;exact⟨W,(íi).trans e1⟩;obtain⟨o',e1⟩:=Ìf b o e t;exact⟨o',(íi).trans e1⟩;by_cases hj:j=i;subst hj;rw[hi]at e1;cases e1;rw[Śn O]at e2;cases e2;exact⟨u,r,.inl ⟨hk,by simp⟩⟩;rw[Ïo (Ñc hj)]at e2;obtain⟨u',r',q⟩:=hl j y Y e1 e2 e3;refine⟨u',r',?_⟩;rcases q with⟨k,e⟩|⟨k,c,e,z⟩;refine .inl ⟨k,?_⟩;have:y≠x:=λe=>hj (ff hN e1 (e▸hi))
 simp[this,e];exact .inr ⟨k,c,e,Ūr f ŉr⟩;obtain⟨P,z⟩:=Ša y c e;exact⟨P,Ūr f ŉr⟩;obtain⟨e,n,R,U,d⟩:=ţa p Z;exact⟨(f.2 p.1 R).trans e,n,R,U,d⟩;have C:X.fn x=Ã:=by rcases hf with z|z;exact z;rw[z]at hk;cases hk
 obtain⟨c,l⟩:=I.ok.has x (.inl hk);obtain⟨P,z⟩:=Ša x c l;refine wpAny_storeName_cell őb hk l z (λh' K f=>?_);obtain⟨oc,L,G⟩:=id z;refine h { s with ç:=h' } ⟨I.ok,Îd,èb,⟨λb o e n F t=>?_,λb o e n F t=>?_,Âe,λb o e t=>?_,øf,öf,ùf⟩,⟨m,hn.sameBut f (Ñc (X_ x c l)),λj y Y e1 e2 e3=>?_⟩,λy S e=>?_,çb,êc,λp Z=>?_,g ⟨oc,L,êc x c l⟩ f,by simpa using ŧb⟩ ⟨c,f,.inr l⟩;exact(ài).trans Ųo;obtain⟨W,e1⟩:=Øf b o e n F t;exact⟨W,(ài).trans e1⟩;obtain⟨o',e1⟩:=Ìf b o e t;exact⟨o',(ài).trans e1⟩;by_cases hj:j=i;subst hj;rw[hi]at e1;cases e1;rw[Śn O]at e2;cases e2;exact⟨u,r,.inr ⟨.inl hk,c,l,K⟩⟩;rw[Ïo (Ñc hj)]at e2;obtain⟨u',r',q⟩:=hl j y Y e1 e2 e3;refine⟨u',r',?_⟩;rcases q with q|⟨k,S,e,z'⟩;exact .inl q;refine .inr ⟨k,S,e,z'.sameBut f ?_⟩;rintro rfl;exact hj (ff hN e1 (I.ok.inj _ _ _ e l▸hi));by_cases hcc:S=c;subst hcc;exact⟨_,K⟩;obtain⟨w2,z2⟩:=Ša y S e;exact⟨w2,z2.sameBut f hcc⟩;obtain⟨e,n,R,U,d⟩:=ţa p Z;refine⟨(f.2 p.1 ?_).trans e,n,R,U,d⟩;intro q;rw[q,L]at e;have q':oc=p.2:=ĸa e;exact d P (by rw[<-q'];exact G)
def R5{M:ħe}{A:ø}{E:Value->Ë->Prop}{i:Nat}{x:Str}{v:V}{u:Value}{Q:ņa->Ë->Prop}(I:zI X z8 σ H s)(a:ľa)(hi:X.N[i]?=À x)(b:j9 îa x)(r:zr v u)(h:∀s',zI X z8 ëe H s'->Q () s')(c:Ê Êb q7):Ù M A Ďo Q E s:=
 nB I a hi b r (λs' d _=>h s' d) c
def zI.DA{s':Ë}{ch:Á É}(I:zI X z8 σ H s)(h:s'.os=s.os)(u:Un Ñl ch H H' Ý Ġd)(f:wE ó X.w H' Ġd)(g:Če s'.gens)(a:∀b∈ch,Ąg/\b≠Öa/\(∀x c,Ĵa x=À c->c≠b)/\∀p∈įc++z8,p.1≠b):zI X z8 σ H' s':=by obtain⟨h',g',d',t',d⟩:=s';have e:d=s.os:=h;subst e;exact I.call (g':=g') (t':=t') (d':=d') u f g a
#print a
abbrev XK:=Value->Æ É->Hp->Prop
abbrev St:=Á ŀh
abbrev VK:=V->Hp->Prop
abbrev TE:=St->Hp->VK->Prop
abbrev TT:=St->Hp->(Ì->Hp->Prop)->Prop
abbrev TA:=St->Hp->(Á V->Hp->Prop)->Prop
structure uT where
 nx:St->Hp->Prop
 rt:VK
 bk:St->Hp->Prop:=λ_ _=>ò
 ct:St->Hp->Prop:=λ_ _=>ò
abbrev TS:=uT->St->Hp->Prop
def EP(X:Cx)(a:Á é)(σ:St)(Q:VK)(u:Value)(s':Ë):Prop:=∃v H',zI X a σ H' s'/\zr v u/\Q v H'
def TP(X:Cx)(a:Á é)(σ:St)(Q:Ì->Hp->Prop)(b:Ì)(s':Ë):Prop:=∃H',zI X a σ H' s'/\Q b H'
def AP(X:Cx)(a:Á é)(σ:St)(Q:Á V->Hp->Prop)(us:Á Value)(s':Ë):Prop:=∃vs H',zI X a σ H' s'/\zm vs us/\Q vs H'
def SP(X:Cx)(a:Á é)(D:uT)(f:Flow)(s':Ë):Prop:=
 match f with
 |.next=>∃σ' H',zI X a σ' H' s'/\Éb σ' H'|.brk=>∃σ' H',zI X a σ' H' s'/\D.bk σ' H'|.cont=>∃σ' H',zI X a σ' H' s'/\D.ct σ' H'|.ret u=>∃v σ' H',zI X a σ' H' s'/\zr v u/\D.rt v H'
def PE(X:Cx)(e:Ñ)(t:TE):Prop:=
 ∀(z8:Á é) (s:Ë) (σ:St) (H:Hp) (Q:VK),zI X z8 σ H s->t σ H Q->Ù ý X.A Çf Žb ĩ s
def PT(X:Cx)(e:Ñ)(t:TT):Prop:=
 ∀(z8:Á é) (s:Ë) (σ:St) (H:Hp) (Q:Ì->Hp->Prop),zI X z8 σ H s->t σ H Q->Ù ý X.A (Ęe e Ô Çf) Ęj ĩ s
def PW(X:Cx)(e:Ñ)(t:TT):Prop:=
 ∀(Ãd:Sem Value)(z8:Á é) (s:Ë) (σ:St) (H:Hp) (Q:Ì->Hp->Prop),zI X z8 σ H s->t σ H Q->Ù ý X.A (Ęe e Ô Ãd) Ęj ĩ s
def PW.pt{X:Cx}{e:Ñ}{t:TT}(h:PW X e t):PT X e t:=h _
def PA(X:Cx)(es:Á Ñ)(t:TA):Prop:=
 ∀(pos:Pos)(z8:Á é) (s:Ë) (σ:St) (H:Hp) (Q:Á V->Hp->Prop),zI X z8 σ H s->t σ H Q->Ù ý X.A (spliced Ůd) Ųp ĩ s
def PS(X:Cx)(st:Õ)(t:TS):Prop:=
 ∀(z8:Á é) (s:Ë) (σ:St) (H:Hp) (D:uT),zI X z8 σ H s->t D σ H->Ù ý X.A (exec st Ô) ür ĩ s
def tD(X:Cx)(st:Á Õ)(t:TS):Prop:=
 ∀(z8:Á é) (s:Ë) (σ:St) (H:Hp) (D:uT),zI X z8 σ H s->t D σ H->Ù ý X.A (execs st Ô) ür ĩ s
def zn{α:Type}{t:Sem α}{Q b:α->Ë->Prop}{M:ħe}{A:ø}{E:Value->Ë->Prop}{s:Ë}(h:Ù M A t Q E s)(c:∀a s,Q a s->b a s):Ù M A t b E s:=ĝa h c λ_ _ x=>x
section
variable{X:Cx}
noncomputable def TX(i:Nat):TE:=λσ H Q=>∃v,σ[i]?=À æa/\Q v H
noncomputable def tC(v:V):TE:=λ_ H Q=>Q v H
def V7{i:Nat}{x:Str}{pos:Pos}(p:X.N[i]?=À x)(hv:jl îa x)(g:Ê Ļ q10)(f:Ê Ŭb q10):PE X Ća Ģe:=by intro o s σ H Q I h;obtain⟨v,e,h⟩:=h;obtain⟨m,n,q⟩:=Įa;obtain⟨u,r,l⟩:=q i x v p e hv;have b:EP X o σ Q u s:=⟨v,H,I,r,h⟩;rcases l with⟨d,k⟩|⟨d,c,j,a⟩;exact ãk (Ìo őb d n k b) g;rcases d with d|d;exact ãk (ôo őb d j a b) g;exact ãk (wpAny_loadName_free őb d j a b f) g
def iD{i j pos}:PE X (.Constant üa j pos) (tC üa):=λ_ _ _ H _ I h=>wpAny_Constant_int ⟨.int i,H,Ña _,⟨_,rfl⟩,h⟩
def y47{b j pos}:PE X (.Constant ñh j pos) (tC ģc):=λ_ _ _ H _ I h=>Constant_bool ⟨.bl b,H,I,rfl,h⟩
def y4o{j pos}:PE X (.Constant .none j pos) (tC .zE):=λ_ _ _ H _ I h=>Constant_none ⟨.zE,H,I,rfl,h⟩
def y4t{x j pos}:PE X (.Constant śb j pos) (tC śb):=λ_ _ _ H _ I h=>Calls.Constant_str ⟨.str x,H,Ña _,⟨_,rfl⟩,h⟩
def Gl(X:Cx)(x:Str):Prop:=ïd x=À .globalImplicit
def MD{E:Value->Ë->Prop}{d:Á é}{s:Ë}{σ:St}{H:Hp}{x:Str}{u:Value}{pos:Pos}{Q:Value->Ë->Prop}(I:zI X d σ H s)(c:Gl X x)(b:ð x=À u)(h:Q u s)(a:Ê Ļ q10):Ù ý X.A ßq Q E s:=
 Ųm őb c (Calls.loadGlobal_global ĉm b h) a
def Wv{E:Value->Ë->Prop}{g:Á é}{s:Ë}{σ:St}{H:Hp}{x:Str}{u:Value}{pos:Pos}{Q:Value->Ë->Prop}(I:zI X g σ H s)(c:Gl X x)(b:ð x=Ä)(hv:ť x=À u)(h:Q u s)(e:Ê ĺb q10)(a:Ê Ļ q10):Ù ý X.A ßq Q E s:=by obtain⟨i,d,f⟩:=I.mod.blt;exact Ųm őb c (Calls.loadGlobal_builtin ĉm b (by rw[I.ok.blt];exact d.keeps I.bk) ((f x e).trans hv) h) a
def y4i{x:Str}{v:V}{u:Value}{pos:Pos}(c:Gl X x)(b:ð x=À u)(r:zr v u)(a:Ê Ļ q10):PE X Ća Œf:=
 λ_ _ _ H _ I h=>MD I c b ⟨v,H,I,r,h⟩ a
def y48{x:Str}{v:V}{u:Value}{pos:Pos}(c:Gl X x)(b:ð x=Ä)(hv:ť x=À u)(r:zr v u)(d:Ê ĺb q10)(a:Ê Ļ q10):PE X Ća Œf:=
 λ_ _ _ H _ I h=>Wv I c b hv ⟨v,H,I,r,h⟩ d a
variable{a b:Ñ}{ta tb:TE}{pos:Pos}
noncomputable def tB(t:TE):TT:=λσ H Q=>t σ H λx a=>∃c,x=.bl c/\Q c a
def iY{e:Ñ}{t:TE}(h:PE X e t)(a:Ê (∀Ãd,Ęe e Ô Ãd=(do let v <-Ãd;standAt e.pos;holding [v] ĸr)) q11):PT X e (tB t):=by intro c s σ H Q I g;refine isTrue_plain (zn (h c s σ H _ I g) λv k ⟨x,b,f,j,i⟩=>?_) (a _);obtain⟨d,rfl,q⟩:=i;cases j;exact řd ⟨b,f,q⟩
variable{tA tB':TT}{Ō:Á Ñ}
noncomputable def x09(t u:TT):TT:=λσ H Q=>t σ H λc a=>if c=Ã then u σ a Q else Q Â a
noncomputable def x0s(t u:TT):TT:=λσ H Q=>t σ H λc a=>if c=Ã then Q Ã a else u σ a Q
noncomputable def x0q(t:TT):TT:=λσ H Q=>t σ H λc a=>Q (!c) a
def io(b:PT X a tA):PW X łi tA:=by
 intro f d s σ H Q I h;refine đr šm;cases c with
 |Ã=>exact isTrue_and_nil e|Â=>exact e
def iq(b:PT X a tA):PW X ői tA:=by
 intro f d s σ H Q I h;refine Ÿr šm;cases c with
 |Â=>exact isTrue_or_nil e|Ã=>exact e
def im(l:PT X a tA)(k:PW X Ăf tB'):PW X ăf (x09 tA tB'):=by
 intro i g s σ H Q I h;refine đr Ďm;cases c with
 |Ã=>exact k i g j σ e Q d f|Â=>exact⟨e,d,f⟩
def ip(l:PT X a tA)(k:PW X Āf tB'):PW X āf (x0s tA tB'):=by
 intro i g s σ H Q I h;refine Ÿr Ďm;cases c with
 |Ã=>exact⟨e,d,f⟩|Â=>exact k i g j σ e Q d f
def y5r(d:PT X a tA):PT X ñg (x0q tA):=by intro e s σ H Q I h;exact isTrue_not (d e s σ H (λc b=>Q (!c) b) I h)
noncomputable def x0a(ta tb:TE):TE:=λσ H Q=>ta σ H λx a=>∃c,x=.bl c/\if c=Ã then tb σ a Q else Q ñ a
noncomputable def x0t(ta tb:TE):TE:=λσ H Q=>ta σ H λx a=>∃c,x=.bl c/\if c=Ã then Q Ę a else tb σ a Q
noncomputable def x0r(ta:TE):TE:=λσ H Q=>ta σ H λx a=>∃c,x=.bl c/\Q (.bl (!c)) a
def y4q{op}{t:TE}(h:PE X a t):PE X ìo t:=λc s σ H Q I b=>BoolOp_one (h c s σ H Q I b)
def y46(i:PE X a ta)(k:PE X Ăf tb):PE X ăf (x0a ta tb):=by
 intro g s σ H Q I h;refine BoolOp_and ùm;obtain⟨c,rfl,d⟩:=d;cases l;refine řd ?_;cases c with
 |Ã=>exact k g j σ f Q e d|Â=>exact⟨.bl Â,f,e,rfl,d⟩
def y4r(i:PE X a ta)(k:PE X Āf tb):PE X āf (x0t ta tb):=by
 intro g s σ H Q I h;refine BoolOp_or ùm;obtain⟨c,rfl,d⟩:=d;cases l;refine řd ?_;cases c with
 |Â=>exact k g j σ f Q e d|Ã=>exact⟨.bl Ã,f,e,rfl,d⟩
def y4p(d:PE X a ta):PE X ñg (x0r ta):=by intro i s σ H Q I h;refine UnaryOp_ (zn (d i s σ H _ I h) λv j ⟨x,f,e,g,b⟩=>?_);obtain⟨c,rfl,b⟩:=b;cases g;exact not_of (řd ⟨.bl (!c),f,e,rfl,b⟩)
noncomputable def x0h(t:TT)(ta tb:TE):TE:=λσ H Q=>t σ H λc a=>if c=Ã then ta σ a Q else tb σ a Q
def y4j{c:Ñ}(l:PT X c tA)(m:PE X a ta)(k:PE X b tb):PE X śo (x0h tA ta tb):=by
 intro e s σ H Q I h;refine wpAny_IfExp (zn (l e s σ H _ I h) λd g ⟨i,f,j⟩=>?_);cases d with
 |Ã=>exact m e g σ i Q f j|Â=>exact k e g σ i Q f j
#print a
def yf(K:Í)(H:Hp)(a:É)(xs:Á V):Prop:=
 Rd H a öa \/
  ∃(o:Obj) (its:Ø Value) (n:Nat),Ź a=À o/\ĩb=.type Ġ/\ŉf=Ä/\şa=.seq its n/\Źk<=á/\zm xs ãf
def xF(K:Í)(H:Hp)(a:É)(xs:Á V):Prop:=
 Rd H a Ŗa \/
  ∃(o:Obj) (its:Ø Value) (n:Nat),Ź a=À o/\ĩb=.type Ŧ/\şa=.seq its n/\Źk<=á/\zm xs ãf
noncomputable def sO:Value->Æ V
 |.none=>À .zE|.bool b=>À ģc|.int i _=>À üa|.str x _=>À śb|.bytes b _=>À (.byt b)|.float b _=>À (.W3 b)|.ref a=>À Ś|.type n=>À (.ty n)|_=>Ä
def zr.abs{x:V}{u:Value}(r:zr x u):sO u=À x:=by
 cases x with
 |zE=>cases r;rfl|bl _=>cases r;rfl|int _=>obtain⟨t,rfl⟩:=r;rfl
 |str _=>obtain⟨t,rfl⟩:=r;rfl
 |byt _=>obtain⟨t,rfl⟩:=r;rfl
 |W3 _=>obtain⟨t,rfl⟩:=r;rfl
 |ref _=>cases r;rfl|ty _=>cases r;rfl
def zr.inj{x y:V}{u:Value}(r:zr x u)(q:zr y u):x=y:=ĸa (r.abs.symm.trans q.abs)
theorem zm.inj:∀{xs ys:Á V}{us:Á Value},zm xs us->zm ys us->xs=ys
 |_,_,_,.nil,.nil=>rfl|_,_,_,.cons r t,.cons r' t'=>by rw[r.inj r',zm.inj t t']
section
variable{X:Cx}{z8:Á é}{σ:St}{H:Hp}{s:Ë}{a:É}{xs ys:Á V}
def åc{K:Í}(h:H a=À öa):yf K H a xs:=.inl įf
def īc{K:Í}(h:H a=À Ŗa):xF K H a xs:=.inl įf
def zI.list(I:zI X z8 σ H s)(h:yf X.K H a xs):∃its:Á Value,zm xs its/\PlainL Ý a âa/\à<=á:=by rcases h with h|⟨o,its,n,hk,hc,hd,hs,hz,r⟩;obtain⟨z,its,n,r,e⟩:=h.ok Ĕ;exact⟨its,r,⟨_,n,e,rfl,rfl,rfl⟩,z⟩;refine⟨ãf,r,⟨o,n,ŝ a o hk,hc,hd,by simpa using hs⟩,?_⟩;have e:=Ûa;simp only[Ŭ]at e;omega
def zI.tuple(I:zI X z8 σ H s)(h:xF X.K H a xs):∃its:Á Value,zm xs its/\Īb Ý a âa/\à<=á:=by rcases h with h|⟨o,its,n,hk,hc,hs,hz,r⟩;obtain⟨z,its,r,p⟩:=h.ok Ĕ;exact⟨its,r,p,z⟩;refine⟨ãf,r,⟨o,ŝ a o hk,hc,n,by simpa using hs⟩,?_⟩;have e:=Ûa;simp only[Ŭ]at e;omega
def zI.Of(I:zI X z8 σ H s)(h:yf X.K H a xs)(h':yf X.K H a ys):xs=ys:=by
 obtain⟨c,r,⟨o,n,e,_,_,d⟩,_⟩:=ž h;obtain⟨b,i,⟨k,j,g,_,_,f⟩,_⟩:=ž h';rw[e]at g;cases g;rw[d]at f;injection f with d1 _
 have:c=b:=by simpa using Ëa ĝq d1
 subst this;exact r.inj i
def zI.DI(I:zI X z8 σ H s)(h:xF X.K H a xs)(h':xF X.K H a ys):xs=ys:=by
 obtain⟨c,r,⟨o,e,_,n,d⟩,_⟩:=Ýa h;obtain⟨b,i,⟨k,g,_,j,f⟩,_⟩:=Ýa h';rw[e]at g;cases g;rw[d]at f;injection f with d1 _
 have:c=b:=by simpa using Ëa ĝq d1
 subst this;exact r.inj i
#print a
abbrev Cx.kQ(X:Cx)(E:Value->Ë->Prop):Cx:={ X with xe:=E }
abbrev Cx.qI(X:Cx):Cx:=X.kQ λ_ _=>ò
theorem Cx.Ok.kQ{X:Cx}(ok:X.Ok)(E:Value->Ë->Prop):(Īf).Ok:=
 ⟨ok.mod,ok.kind,ok.glob,ok.blt,ok.above,ok.inj,ok.has,ok.Vo,ok.hd,Ųr,ok.QN,ok.QF,ok.bs,ok.kO,ok.Vs,ok.Vp,ok.j2,ok.YV⟩
def Cx.Ok.YY{X:Cx}{E:Value->Ë->Prop}(ok:(Īf).Ok):X.Ok:=
 ⟨ok.mod,ok.kind,ok.glob,ok.blt,ok.above,ok.inj,ok.has,ok.Vo,ok.hd,Ųr,ok.QN,ok.QF,ok.bs,ok.kO,ok.Vs,ok.Vp,ok.j2,ok.YV⟩
section
variable{X:Cx}{z8:Á é}{σ:St}{H:Hp}{s:Ë}{E:Value->Ë->Prop}
theorem zI.kQ(I:zI X z8 σ H s)(E:Value->Ë->Prop):zI Īf z8 σ H s:=⟨I.ok.kQ E,Îd,èb,řh,Įa,Ša,çb,êc,ţa,Ĕ,ŧb⟩
theorem zI.YY(I:zI Īf z8 σ H s):zI X z8 σ H s:=⟨I.ok.YY,Îd,èb,řh,Įa,Ša,çb,êc,ţa,Ĕ,ŧb⟩
theorem SP.YY{D:uT}{f:Flow}{s':Ë}(h:SP Īf z8 D f s'):SP X z8 D f s':=by
 cases f with
 |next=>obtain⟨σ',a,I,q⟩:=h;exact⟨σ',a,I.YY,q⟩
 |brk=>obtain⟨σ',a,I,q⟩:=h;exact⟨σ',a,I.YY,q⟩
 |èc=>obtain⟨σ',a,I,q⟩:=h;exact⟨σ',a,I.YY,q⟩
 |ret u=>obtain⟨v,σ',a,I,r,q⟩:=h;exact⟨v,σ',a,I.YY,r,q⟩
theorem tD.qI{st:Á Õ}{t:TS}(h:tD X.qI st t):tD X st t:=λz8 s σ H D I a=>
 ĝa (h z8 s σ H D (I.kQ _) a) (λ_ _ q=>q.YY) λ_ _ z=>Ħa z
#print a
section
variable{X:Cx}{st:Õ}{Ō:Á Õ}{t u:TS}{e:Ñ}{te:TE}{pos:Pos}
noncomputable def x0o:TS:=λD σ H=>Éb σ H
noncomputable def x0x(t u:TS):TS:=λD σ H=>t { D with nx:=u D } σ H
def iW:tD X [] x0o:=λ_ _ σ H _ I h=>æg ⟨σ,H,I,h⟩
def iV(d:PS X st t)(b:tD X Ō u):tD X (st::Ō) (x0x t u):=by
 intro a s σ H D I h;refine Ðp (zn (d a s σ H { D with nx:=u D } I h) λf c q=>?_);cases f with
 |next=>obtain⟨σ',e,g,q⟩:=q;exact b a c σ' e D g q
 |ret v=>exact q|brk=>exact q|èc=>exact q
def iX(b:PS X st t):tD X [st] t:=by
 intro a s σ H D I h;refine Ðp (zn (b a s σ H D I h) λf c q=>?_);cases f with
 |next=>exact æg q|ret v=>exact q|brk=>exact q|èc=>exact q
def zI.quiet{a:Á é}{σ:St}{H:Hp}{s:Ë}(I:zI X a σ H s):űq Ô=Â:=by simp[űq,őb]
noncomputable def nG(te:TE):TS:=λD σ H=>te σ H λ_ a=>Éb σ a
def iR(f:PE X e te)(c:Ê ñn q12):PS X Ŀj (nG te):=by intro a s σ H D I h;exact wpAny_Expr_any (zn ņo λv i ⟨x,d,b,j,g⟩=>⟨σ,d,b,g⟩) I.quiet c
noncomputable def x0v(te:TE):TS:=λD σ H=>te σ H D.rt
def MX(d:PE X e te):PS X òg (x0v te):=by intro a s σ H D I h;exact wpAny_Return_some (zn (d a s σ H _ I h) λv i ⟨x,c,b,g,f⟩=>⟨x,σ,c,b,g,f⟩)
noncomputable def x0i(c:TT)(t u:TS):TS:=λD σ H=>c σ H λb a=>if b=Ã then t D σ a else u D σ a
def iS{c:Ñ}{a b:Á Õ}{j:TT}(m:PT X c j)(n:tD X a t)(l:tD X b u):PS X (.If c a b pos) (x0i j t u):=by
 intro e s σ H D I h;refine wpAny_If (zn (m e s σ H _ I h) λd g ⟨i,f,k⟩=>?_);cases d with
 |Ã=>exact n e g σ i D f k|Â=>exact l e g σ i D f k
noncomputable def x0n:TS:=λ_ _ _=>ò
def y5q{a:Á Õ}:tD X a x0n:=λ_ _ _ _ _ _ h=>ĳl
#print a
abbrev TG:=V->St->Hp->Űp->Prop
abbrev kq:=Á V->St->Hp->Űp->Prop
def PG(X:Cx)(a:Ñ)(t:TG):Prop:=
 ∀(z8:Á é) (s:Ë) (σ:St) (H:Hp) (v:V) (u:Value) (Q:St->Hp->Prop),zI X z8 σ H s->zr v u->t v σ H Q->
  Ù ý X.A (Ĥc a Ô u) (λ_ b=>∃σ' H',zI X z8 σ' H' b/\Q σ' H') ĩ s
def Qx(X:Cx)(b:Á Ñ)(t:kq):Prop:=
 ∀(z8:Á é) (s:Ë) (σ:St) (H:Hp) (vs:Á V) (us:Á Value) (Q:St->Hp->Prop),zI X z8 σ H s->zm vs us->t vs σ H Q->
  Ù ý X.A (assignInOrder ((Ŧd b Ô).map (·.2)) us) (λ_ a=>∃σ' H',zI X z8 σ' H' a/\Q σ' H') ĩ s
abbrev Oq:=V->V->V->Hp->Ŏr->Prop
def Dx(X:Cx)(t:Oq):Prop:=
 ∀(z8:Á é) (s:Ë) (σ:St) (H:Hp) (o i v:V) (ov iv u:Value) (Q:Hp->Prop),zI X z8 σ H s->zr o ov->zr i iv->zr v u->t o i v H Q->
  Ù ý X.A (ðl ov iv u) (λ_ a=>∃H',zI X z8 σ H' a/\Q H') ĩ s
abbrev UN:=V->V->Hp->VK->Prop
def Qy(X:Cx)(a:õe)(t:UN):Prop:=
 ∀(z8:Á é) (s:Ë) (σ:St) (H:Hp) (x y:V) (v u:Value) (Q:VK),zI X z8 σ H s->zr x v->zr y u->t x y H Q->
  Ù ý X.A (ôf a v u) Žb ĩ s
section
variable{X:Cx}{pos:Pos}
noncomputable def uu(i:Nat):TG:=λv σ H Q=>Q ëe H
def y4x{i:Nat}{x:Str}(a:ľa)(hi:X.N[i]?=À x)(b:j9 îa x)(c:Ê Êb q7):PG X Ća Ĩc:=by intro f s σ H v u Q I r h;exact şo (R5 I a hi b r (λe d=>⟨_,H,d,h⟩) c)
noncomputable def Wi:kq:=λa σ H Q=>a=[]/\Q σ H
noncomputable def jI(t:TG)(u:kq):kq:=λa σ H Q=>∃v r,a=v::r/\t v σ H λσ' b=>u r σ' b Q
def y51:Qx X [] Wi:=by intro c s σ H a b Q I r h;obtain⟨e,h⟩:=h;subst e;cases r;exact assignInOrder_nil ⟨σ,H,I,h⟩
def y50{e:Ñ}{es:Á Ñ}{t:TG}{u:kq}(d:PG X e t)(g:Qx X es u)(b:Ê ((àq).map (·.2)=Ĥc e Ô::(Źe).map (·.2)) q12):Qx X ğ (jI t u):=by
 intro a s σ H k l Q I r h;obtain⟨v,m,e1,h⟩:=h;subst e1;cases r with
 |Ĉ r rr=>rw[b];refine assignInOrder_cons (zn (d a s σ H _ _ _ I r h) λ_ c ⟨σ1,f,i,j⟩=>?_);exact g a c σ1 f _ _ Q i rr j
noncomputable def Wj(K:Í)(n:Nat)(t:kq):TG:=λv σ H Q=>∃a xs,v=.ref a/\xF K H a xs/\à=n/\t xs σ H Q
def y4z{es:Á Ñ}{k:Nat}{t:kq}{n:Nat}(x:Ž=Ã)(h:Qx X es t)(i:Ê óp q12)(c:Ê ((Źe).findIdx? (·.1)=Ä) q12):PG X Äp Őq:=by
 intro f s σ H v u Q I r d;obtain⟨a,w,e1,y,z,d⟩:=d;subst e1;cases r;obtain⟨l,g,p,A⟩:=Ýa y;refine assign_Tuple_tuple (Ùb x) p (by simp[i,<-z,Ēc]) c λj q=>?_
 have m:zI X f σ H { s with ç:=j }:=Ĵd (t':=đ) λb o e=>q b o Ńk e
 exact h f _ σ H w _ Q m Ŋo d
noncomputable def dL(c d:TE)(t:Oq):TG:=λv σ H Q=>c σ H λo e=>d σ e λi a=>t o i v a λb=>Q σ b
def y4y{o i:Ñ}{b c:TE}{t:Oq}(n:PE X o b)(hi:PE X i c)(j:Dx X t)(l:∀v,Ĥc ŗi Ô v=(do
   let ov <-holding [v] Ôr
   let iv <-holding [v,ov] (č i Ô)
   standAt pos
   holding Ôs (ðl ov iv v)
   release Ôs []):=by intro _;rfl):PG X ŗi (dL b c t):=by
 intro a s σ H v u Q I r h;rw[l];refine Ò (ÿb (zn (n a s σ H _ I h) λov k ⟨x,m,p,C,B⟩=>?_));refine Ò (ÿb (zn (hi a k σ m _ p B) λiv e ⟨y,z,w,q,d⟩=>?_));refine Ò (úg (Ò (ÿb (zn (j a e σ z x y v ov iv u _ w C q r d) λ_ E ⟨A,g,f⟩=>?_))));exact wpAny_release ⟨σ,A,g,f⟩
noncomputable def R6(a:TE)(g:TG):TS:=λD σ H=>a σ H λx b=>g x σ b Éb
def K6{tg e:Ñ}{a:TE}{g:TG}(f:PE X e a)(k:PG X tg g)(c:Ê ėm q12)(m:Ê ţm q12)(i:Ê ((Œp).map (·.2)=Ğq) q12):PS X îo (R6 a g):=by intro b s σ H D I h;refine wpAny_Assign_stores (zn (f b s σ H _ I h) λv d ⟨x,j,l,o,n⟩=>?_) c m;rw[i];exact zn (k b d σ j x v _ l o n) λ_ p q=>q
def y5p{i:Nat}{x:Str}{e:Ñ}{b:TE}{a:Pos}(k:ľa)(hi:X.N[i]?=À x)(l:j9 îa x)(d:PE X e b)(c:Ê (Œc e (À (.Name x a)) Óe Ô=pure Â) q12)(n:Ê Êb q7) :PS X (.Assign [.Name x a] e pos) (R6 b Ĩc):=by intro g s σ H D I h;refine wpAny_Assign_Name (zn (d g s σ H _ I h) λv r ⟨y,f,j,p,o⟩=>?_) c;exact R5 j k hi l p (λq m=>⟨_,f,m,o⟩) n
noncomputable def x0b(i:Nat)(a:TE)(b:UN):TS:=λD σ H=>∃x,σ[i]?=À (À x)/\a σ H λy c=>b x y c λz d=>Éb (ς (À z)) d
def K7{i:Nat}{x:Str}{e:Ñ}{o:TE}{f:õe}{p:UN}{d:Pos}(F:ľa)(hi:X.N[i]?=À x)(j:j9 îa x)(Q:PE X e o)(C:Qy X f p)(K:Ê Êb q7) :PS X (.AugAssign (.Name x d) f e pos) (x0b i o p):=by
 intro g s σ H D I h;obtain⟨v,e1,h⟩:=h;obtain⟨m,R,L⟩:=Įa;have vis:jl îa x:=by rcases j with k|k;exact .inl k;exact .inr ġh
 obtain⟨u,r,l⟩:=L i x v hi e1 vis;refine wpAny_AugAssign_Name ?_
 have n:Ù ý X.A Çf (λw T=>Ù ý X.A (ôf f u w) (λr O=>Ù ý X.A (storeName Ô x r) (λ_=>SP X g D .next) ĩ O) ĩ T) ĩ s:=by
  refine zn (Q g s σ H _ I h) λw P ⟨y,S,U,Z,Y⟩=>?_
  refine zn (C g P σ S v y u w _ U r Z Y) λz s2 ⟨zv,W,G,E,q⟩=>?_
  exact R5 G F hi j E (λs3 t=>⟨_,W,t,q⟩) K
 rcases l with⟨a,B⟩|⟨a,c,J,b⟩;exact Ìo őb a R B n;rcases a with a|a;exact ôo őb a J b n;rcases j with k|k;have:Łe x=À .free:=a;rw[k]at this;cases this;have:Łe x=À .free:=a;rw[k]at this;cases this
noncomputable def eF(f:Int->Int->Int):UN:=λx y H Q=>∃i j,x=.int i/\y=.int j/\Q (Β (f i j)) H
def Lz:Qy X .Add ĝp:=by intro d s σ H x y v u Q I b a h;obtain⟨i,j,e1,e2,q⟩:=h;subst e1;subst e2;obtain⟨t,rfl⟩:=b;obtain⟨c,rfl⟩:=a;exact iadd_int ⟨.int _,H,Ña _,⟨_,rfl⟩,q⟩
#print a
section
variable{X:Cx}{pos:Pos}
noncomputable def x16(c:TT)(d:TS):TS:=λD σ H=>∃W:Nat->St->Hp->Prop,(∃m,W m σ H)/\∀m σ H,W m σ H->
 c σ H λb a=>if b=Ã then ∃N:St->Hp->Prop,(∀σ' H',N σ' H'->∃m',m'<m/\W m' σ' H')/\d { D with nx:=N,ct:=N,bk:=Éb } σ a else Éb σ a
def iU{c:Ñ}{a:Á Õ}{q:TT}{y:TS}(r:Ĉd ý X.A Ô ĩ)(F:PT X c q)(L:tD X a y):PS X (.While c a [] pos) (x16 q y):=by
 intro o s σ H D I h;obtain⟨W,⟨B,E⟩,e⟩:=h;refine wpAny_While (codeAny_whileLoop (λn C=>∃σ' H',zI X o σ' H' C/\W n σ' H') ?_ B ⟨σ,H,I,E⟩);rintro n J ⟨σ1,x,K,O⟩;refine Üd r (zn (F o J σ1 x _ K (e n σ1 x O)) λb G ⟨z,u,g⟩=>?_);cases b with
 |Ã=>
  obtain⟨N,t,g⟩:=g;rw[Ï rfl];refine Üd r (zn (L o G σ1 z _ u g) λf P i=>?_);cases f with
  |next=>obtain⟨σ3,d,l,p⟩:=i;obtain⟨k,m,j⟩:=t σ3 d p;exact⟨k,m,σ3,d,l,j⟩
  |èc=>obtain⟨σ3,d,l,p⟩:=i;obtain⟨k,m,j⟩:=t σ3 d p;exact⟨k,m,σ3,d,l,j⟩
  |brk=>exact i|ret v=>exact i
 |Â=>rw[Ð ō];exact æg ⟨σ1,z,u,g⟩
#print a
structure It where
 go:Nat->Hp->Prop
 uh:Nat->Hp->V->Hp->Prop
 ţ:Nat->Hp->Prop
def jg(X:Cx)(a:Á é)(H:Hp)(b:É):Prop:=
 H b=Ä/\b≠Öa/\b ∉ Ŧa/\Ąg/\(∀x c,Ĵa x=À c->c≠b)/\∀p∈įc++a,p.1≠b
def zI.Ze{X:Cx}{d:Á é}{σ:St}{H H':Hp}{s:Ë}{b:É}(I:zI X d σ H s)(a:Û<=b)(f:H' b=Ä):jg X d H' b:=by refine⟨f,ŀb (ŭ I.lt a),I.A9 a,.inr (Ğ I.sz a),λx c e z=>?_,λp g z=>?_⟩;obtain⟨v,q⟩:=Ša x c e;exact Ú (ŭ q.lt őo) Ôa;exact Ú (ŭ (ħ (ţa p g).1) őo) Ôa
structure ga(P:å)(w:ß)(K:Í)(tg:Ñ)(J:It)(fp:Á É)(it:É)(tn:Nat->Heap->Prop):Prop where
 mem:it∈fp
 obj:∀i h,tn i h->∀b∈fp,∃o,ĥ b=À o/\∀v,şa≠.cell v
 ıa:∀i h h',tn i h->(∀b∈fp,∀o,ĥ b=À o->ġ b=À o)->tn i h'
 öb:∀(X:Cx),ó=P->X.w=w->X.K=K->Ž=Ã->∀(i:Nat)(z8:Á é) (s:Ë) (σ:St) (H:Hp) (E:Value->Ë->Prop),zI X z8 σ H s->(∀b∈fp,jg X z8 H b)->tn i Ý->J.go i H->
  Ù Æc X.A Ús (λr s1=>∃u,r=À u/\
   Ù Æc X.A Őp (λ_ s2=>∃x H',zI X z8 σ H' s2/\zr x u/\J.uh i H x H'/\tn ê s2.heap/\∀b∈fp,H' b=Ä) E s1) E s
 done:∀(X:Cx),ó=P->X.w=w->X.K=K->Ž=Ã->∀(i:Nat)(z8:Á é) (s:Ë) (σ:St) (H:Hp) (E:Value->Ë->Prop),zI X z8 σ H s->(∀b∈fp,jg X z8 H b)->tn i Ý->Ŗh i H->
  Ù Æc X.A Ús (λr s1=>r=Ä/\zI X z8 σ H s1) E s
 çc:∀(A:ø)(i:Nat)(s:Ë)(Q:Value->Ë->Prop)(E:Value->Ë->Prop),tn i Ý->Q Čb s->Ù Æc A (Ňf Čb) Q E s
abbrev TI:=St->Hp->(It->Hp->Prop)->Prop
def Dw(X:Cx)(d:Á é)(σ:St)(tg:Ñ)(R:It->Hp->Prop)(a:Value)(c:Ë):Prop:=
 ∃(it:É) (fp:Á É) (tn:Nat->Heap->Prop) (J:It) (H':Hp),a=.ref it/\zI X d σ H' c/\ga ó X.w X.K tg J fp it tn/\tn 0 Ěe/\(∀b∈fp,jg X d H' b)/\R J H'
def PI(X:Cx)(tg a:Ñ)(c:TI):Prop:=
 ∀(z8:Á é) (s:Ë) (σ:St) (H:Hp) (R:It->Hp->Prop),zI X z8 σ H s->c σ H R->
  Ù ý X.A Ör (λv b=>Ù ý X.A (Ňf v) (Dw X z8 σ tg R) ĩ b) ĩ s
def Ug{M:ħe}{A:ø}{E:Value→Ë→Prop}{s:Ë}{tg:Ñ}{it:É}{u:Value}{o:Obj}{n:Ïa}{vs:Ø Value}{Q:ņa→Ë→Prop}(b:Ą it=À o)(d:ĩb=.type n)(c:şa=.fields vs)(e:[ýc,ńa,ño,čn,Ép,Ŀn,Ëo].contains n=Â)(a:Q () s):Ù M A Őp Q E s:=by
  unfold ùg
  cases tg<;>first
    |exact ĝ a
    | (cases u<;>first
        |exact ĝ a
        | (refine Ò (ĉr b ?_)
           rw[d,c];show Ù M A (εb ([ýc,ńa,ño,čn,Ép,Ŀn,Ëo].contains n&&vs[0]?==À (Ĺf _))) Q E s;rw[Ð (by intro h;rw[e,ŋc]at h;cases h)];exact ĝ a))
noncomputable def Dq(K:Í)(a:É):It:=
 ⟨λi H=>∃xs x,yf K H a xs/\xs[i]?=À x,λi H x b=>b=H/\∀xs,yf K H a xs->xs[i]?=À x,λi H=>∃xs,yf K H a xs/\à<=i⟩
noncomputable def Dr(K:Í)(a:É):It:=
 ⟨λi H=>∃xs x,xF K H a xs/\xs[i]?=À x,λi H x b=>b=H/\∀xs,xF K H a xs->xs[i]?=À x,λi H=>∃xs,xF K H a xs/\à<=i⟩
noncomputable def Oi(lo:Int)(n:Nat):It:=⟨λi _=>i<n,λi H x a=>a=H/\x=.int êb,λi _=>n<=i⟩
def x4n{P:å}{w:ß}{K:Í}{tg:Ñ}(a it:É):ga P w K tg Úl ıc it (λi h=>ŕj it a i) where
 mem:=by simp
 obj:=λi h st b f=>by
  have e:b=it:=by simpa using f
  subst e;obtain⟨o,e,c,d⟩:=st;exact⟨o,e,λv z=>by rw[d]at z;cases z⟩
 ıa:=λi h m st k=>ŷh λo e=>k it ã o e
 öb:=by
  intro X y C L N i O s σ H E I j st n;subst y C L;obtain⟨S,x,l,F⟩:=n;obtain⟨r,J,p,hz⟩:=ž l;obtain⟨u,Y,T⟩:=J.get F;obtain⟨q,t,Z,A,G,B⟩:=j it ã;refine Ŕn st õh (x:=u) ōo λm g Q=>?_
  have I1:zI X O σ H { s with ç:=m }:=Ža (t':=đ) (λb o f e=>(Q.2 b f).trans e) q t A G B;obtain⟨o,e,c,d⟩:=id g;exact⟨u,rfl,Ug (s:={ s with ç:=m }) e c d È ⟨x,H,I1,T,⟨rfl,λys R=>by rw[I.Of R l];exact F⟩,g,λb f=>(j b f).1⟩⟩
 done:=by intro X y C L N i O s σ H E I j st n;subst y C L;obtain⟨S,l,F⟩:=n;obtain⟨r,J,p,hz⟩:=ž l;obtain⟨q,t,Z,A,G,B⟩:=j it ã;have hl:=J.length;exact Ůn Ķh st õh ħp λm U=>⟨rfl,Ža (t':=đ) (λb o f e=>U b o f e) q t A G B⟩
 çc:=λ_ _ _ _ _ st h=>wpAny_pyIter_listiter st h
def x4q{P:å}{w:ß}{K:Í}{tg:Ñ}(a it:É):ga P w K tg Ùl ıc it (λi h=>Çq it a i) where
 mem:=by simp
 obj:=λi h st b g=>by
  have e:b=it:=by simpa using g
  subst e;obtain⟨o,e,c,d⟩:=st;exact⟨o,e,λv z=>by rw[d]at z;cases z⟩
 ıa:=λi h n st k=>ŷh λo e=>k it ã o e
 öb:=by
  intro X y C L N i O s σ H E I l st q;subst y C L;obtain⟨S,x,m,F⟩:=q;obtain⟨f,J,p,hz⟩:=Ýa m;obtain⟨u,Y,T⟩:=J.get F;obtain⟨r,t,Z,A,G,B⟩:=l it ã;refine wpAny_pyNext_tuple_item st (show Ãe a ħk from p) (x:=u) ōo λn j Q=>?_
  have I1:zI X O σ H { s with ç:=n }:=Ža (t':=đ) (λb o g e=>(Q.2 b g).trans e) r t A G B;obtain⟨o,e,c,d⟩:=id j;exact⟨u,rfl,Ug (s:={ s with ç:=n }) e c d È ⟨x,H,I1,T,⟨rfl,λys R=>by rw[I.DI R m];exact F⟩,j,λb g=>(l b g).1⟩⟩
 done:=by intro X y C L N i O s σ H E I l st q;subst y C L;obtain⟨S,m,F⟩:=q;obtain⟨f,J,p,hz⟩:=Ýa m;obtain⟨r,t,Z,A,G,B⟩:=l it ã;have hl:=J.length;exact wpAny_pyNext_tuple_end Ķh st (show Ãe a ħk from p) ħp λn U=>⟨rfl,Ža (t':=đ) (λb o g e=>U b o g e) r t A G B⟩
 çc:=λ_ _ _ _ _ st h=>wpAny_pyIter_tupleiter st h
def x4o{P:å}{w:ß}{K:Śj}{tg:Ñ}(it:É)(lo:Int)(n:Nat):ga P w K tg Ğs ıc it (λi h=>Àr h it (lo+(i:Nat)*1) ((n:Int)-(i:Nat)) 1) where
 mem:=by simp
 obj:=λi h st b a=>by
  have e:b=it:=by simpa using a
  subst e
  exact⟨_,st,λv z=>by have J:Data.fields _=Data.cell v:=z;cases J⟩
 ıa:=λi h f st k=>k it ã _ st
 öb:=by
  intro X p u y m i A s σ H E I d st g;subst p u y;obtain⟨j,l,G,q,x,r⟩:=d it ã;have W:=Walks.range (Ĝ:=ó) (w:=X.w) Ċl it lo 1 n;refine ļl i s _ _ g st λv f B F c N=>?_
  obtain⟨t,rfl⟩:=F;have L:zI X A σ H { s with ç:=f,Ė:=B }:=Ža (λb o a e=>N b o Ōo e) j l q x r;refine⟨_,rfl,Ug (s:={ s with ç:=f,Ė:=B }) (n := "range_iterator") c rfl rfl È ⟨.int êb,H,L,⟨t,?_⟩,⟨rfl,rfl⟩,c,λb a=>(d b a).1⟩⟩;rw[Õf]
 done:=by intro X p u y m i A s σ H E I d st g;subst p u y;obtain⟨j,l,G,q,x,r⟩:=d it ã;exact wpAny_pyNext_range_end Ċl st (by have:n<=i:=g;omega) λf C=>⟨rfl,Ža (t':=đ) (λb o a e=>C b o a e) j l q x r⟩
 çc:=λ_ _ _ _ _ st h=>wpAny_pyIter_rangeiter st h
section
variable{X:Cx}{tg:Ñ}
def z5n(K:Í)(c:TE):TI:=λσ H R=>c σ H λx b=>∃a,x=.ref a/\(∃xs,yf K b a xs)/\R Úl b
def z5q(K:Í)(c:TE):TI:=λσ H R=>c σ H λx b=>∃a,x=.ref a/\(∃xs,xF K b a xs)/\R Ùl b
def y56{l:Ñ}{f:TE}(t:PE X l f):PI X tg l (z5n X.K f):=by
 intro j s σ H R I h;refine zn (t j s σ H _ I h) λv c ⟨x,i,d,g,n⟩=>?_
 obtain⟨a,e,⟨u,r⟩,q⟩:=n;subst e;cases g;obtain⟨k,y,p,w⟩:=d.list r;refine Śd õh ?_;refine⟨ŷb,[ŷb],_,_,i,rfl,ķl (t':=įd) λb o e=>Ī _ e,x4n a _,⟨_,ū _ rfl,rfl,rfl⟩,λb m=>?_,q⟩;have e:b=ŷb:=by simpa using m
 subst e;exact d.Ze Ē ľk
def y59{l:Ñ}{g:TE}(t:PE X l g):PI X tg l (z5q X.K g):=by
 intro k s σ H R I h;refine zn (t k s σ H _ I h) λv c ⟨x,j,d,i,n⟩=>?_
 obtain⟨a,e,⟨u,r⟩,q⟩:=n;subst e;cases i;obtain⟨f,y,p,w⟩:=d.tuple r;refine ĥi (show c.heap.IsTuple a ħk from p) ?_;refine⟨ŷb,[ŷb],_,_,j,rfl,ķl (t':=įd) λb o e=>Ī _ e,x4q a _,⟨_,ū _ rfl,rfl,rfl⟩,λb m=>?_,q⟩;have e:b=ŷb:=by simpa using m
 subst e;exact d.Ze Ē ľk
def y6q{c:Á é}{σ:St}{H:Hp}{s:Ë}{R:It->Hp->Prop}{E:Value->Ë->Prop}{lo hi:Int}{t u v:Tok}{tk:Nat}(I:zI X c σ H s)(f : -Ýl<=lo)(i:lo<2 ^ 62)(h : -Ýl<=hi)(g:hi<2 ^ 62)(q:R (Oi lo (Ńh).toNat) H):Ù ý X.A (Ňf ĉc) (Dw X c σ tg R) E { s with ç:=Ūa { cls:=.type Ùc,Ć:=.fields #[.int lo t,.int hi u,.int 1 v] },Ė:=tk }:=by
 refine wpAny_pyIter_range (IsRange.new ..) (small_one f i h g) ?_;have a:zI X c σ H { s with ç:=Ūa { cls:=.type Ùc,Ć:=.fields #[.int lo t,.int hi u,.int 1 v] },Ė:=tk }:=Ĵd λb o e=>Ī _ e
 refine⟨(Ñi).objs.size,[(Ñi).objs.size],_,_,H,rfl,
  a.kept (t':=tk) λb o e=>Ī _ e,x4o _ lo (Ńh).toNat,?_,λb d=>?_,q⟩
 have e1:lo+((0:Nat):Int)*1=lo:=by simp
 have e2:(((Ńh).toNat:Nat):Int)-((0:Nat):Int)=Builtin.Range.rangeSize lo hi 1:=by rw[rangeSize_one];split<;>omega
 show Àr _ _ (lo+((0:Nat):Int)*1) ((((Ńh).toNat:Nat):Int)-((0:Nat):Int)) 1;rw[e1,e2];exact ū _ rfl;have e:b=(Ñi).objs.size:=by simpa using d
 subst e;exact a.Ze Ē (a.zh.fresh Ē)
def z5o(b:TA):TI:=λσ H R=>b σ H λa c=>∃j:Int,a=[.int j] /\ -Ýl<=j/\j<2 ^ 62/\R (Oi 0 Ēd) c
def y57{a:Ñ}{c:TA}{p pos:Pos}(l:Gl X Ùc)(g:ð Ùc=Ä)(i:PA X [a] c)(f:Ê ăi q12):PI X tg Āo (z5o c):=by
 intro k s σ H R I h;refine Call_ (Wv I l g boot_range (Çg (zn (i pos k s σ H _ I h) λu v ⟨o,w,m,n,b⟩=>?_) f rfl));obtain⟨j,e,b,d,q⟩:=b;subst e;cases n with
 |Ĉ r rr=>cases rr;obtain⟨t,rfl⟩:=r;exact call_range_1 (y6q m Å Å b d ňo)
noncomputable def x0g(a:TI)(g:TG)(b:TS):TS:=λD σ H=>a σ H λJ c=>∃W:Nat->Nat->St->Hp->Prop,(∃m,W 0 m σ c)/\∀i m σ H,W i m σ H->
 (Ŗh i H/\Éb σ H)\/(J.go i H/\∃N:St->Hp->Prop,(∀σ' H',N σ' H'->∃m',m'<m/\W ê m' σ' H')/\∀x H',J.uh i H x H'->g x σ H' λσ2 d=>b { D with nx:=N,ct:=N,bk:=Éb } σ2 d)
noncomputable def ID(a:Á É)(h:Heap):Á é:=a.filterMap λb=>(ĥ b).map λo=>(b,o)
def ML{a:Á É}{h:Heap}{b:É}{o:Obj}(c:b∈a)(e:ĥ b=À o):(b,o)∈ID a h:=List.mem_filterMap.mpr ⟨b,c,by rw[e];rfl⟩
def y0n{a:Á É}{h:Heap}{p:É×Obj}(c:p∈ID a h):p.1∈a/\ĥ p.1=À p.2:=by
 obtain⟨b,d,e⟩:=List.mem_filterMap.mp c;cases q:ĥ b with
 |Ä=>rw[q]at e;cases e|À o=>rw[q]at e;have f:(b,o)=p:=ĸa e;subst f;exact⟨d,q⟩
def zI.pinned{c:Á é}{σ:St}{H:Hp}{s:Ë}{a:Á É}(I:zI X c σ H s)(j:∀b∈a,jg X c H b)(i:∀b∈a,∃o,Ą b=À o/\∀v,şa≠.cell v):zI X (c++ID a Ý) σ H s:=
 I.QM λp l=>(Ăa l).elim (λz=>ţa p (Ëb _ z)) λz=>by obtain⟨f,e⟩:=y0n z;obtain⟨m,h,k,_⟩:=j p.1 f;obtain⟨o,g,d⟩:=i p.1 f;rw[e]at g;cases g;exact⟨e,m,h,k,d⟩
def zI.DJ{a pl:Á é}{σ:St}{H:Hp}{s:Ë}(I:zI X (a++pl) σ H s):zI X a σ H s:=I.QM λp b=>ţa p (Ëb _ (ţd _ b))
def K8{j:Ñ}{t:Á Õ}{wi:TI}{g:TG}{tb:TS}{pos:Pos}(B:Ĉd ý X.A Ô ĩ)(hc:Ž=Ã)(hi:PI X tg j wi)(hg:PG X tg g)(c:tD X t tb)(hs:Ê (∀x,Ŵb j Ô x=pure x) q11):PS X (.For tg j t [] pos) (x0g wi g tb):=by
 intro y s σ H D I h;refine wpAny_For (zn (hi y s σ H _ I h) λv s1 h1=>zn h1 λitv s2 h2=>?_) hs;obtain⟨it,K,tn,J,H2,e,I2,T,U,f2,W,⟨m0,w0⟩,C⟩:=h2;subst e;have l:∀{H':Hp},(∀b∈K,H' b=Ä)->∀b∈K,jg X y H' b:=λhn b c=>⟨hn b c,(f2 b c).2⟩
 refine codeAny_forLoop_any (λn s'=>∃i σ' H',zI X y σ' H' s'/\tn i Ġd/\(∀b∈K,H' b=Ä)/\W i n σ' H') ?_ m0 ⟨0,σ,H2,I2,U,λb c=>(f2 b c).1,w0⟩;rintro n s3 ⟨i,σ3,P,Z,L,F,w3⟩;rcases C i n σ3 P w3 with⟨O,qn⟩|⟨go,N,hN,G⟩;refine Üd B (zn (T.done X rfl rfl rfl hc i y s3 σ3 P ĩ Z (l F) L O) λr s4 ⟨Y,I4⟩=>?_);subst Y;exact æg ⟨σ3,P,I4,qn⟩
 .refine Üd B (zn (T.item X rfl rfl rfl hc i y s3 σ3 P ĩ Z (l F) L go) λr s4 ⟨u,Y,h4⟩=>?_);subst Y;refine Üd B (zn h4 λ_ s5 ⟨x,H5,I5,r5,y5,z,S⟩=>?_);have R:=I5.pinned (l S) (Ţf _ _ z);refine Üd B (zn (hg _ s5 σ3 H5 x u _ R r5 (G x H5 y5)) λ_ s6 ⟨σ6,H6,I6,q6⟩=>?_);refine Üd B (zn (c _ s6 σ6 H6 _ I6 q6) λf Q q=>?_)
  have a:∀{σ7:St}{k:Hp},zI X (y++ID K s5.heap) σ7 k Q->N σ7 k->∃m,m<n/\∃i σ' H',zI X y σ' H' Q/\tn i Q.heap/\(∀b∈K,H' b=Ä)/\W i m σ' H':=λ{σ7 k} p E=>by obtain⟨m',hm,w7⟩:=hN σ7 k E;refine⟨m',hm,i+1,σ7,k,p.DJ,Ŏf _ _ _ z λb c o e=>ņm.1,λb c=>?_,w7⟩;obtain⟨o,e,d⟩:=Ţf _ _ z b c;exact ņm.2.1
  cases f with
  |next=>obtain⟨σ7,k,p,E⟩:=q;exact a p E
  |èc=>obtain⟨σ7,k,p,E⟩:=q;exact a p E
  |brk=>obtain⟨σ7,k,p,q⟩:=q;exact⟨σ7,k,p.DJ,q⟩
  |ret v=>obtain⟨x7,σ7,k,p,r7,q⟩:=q;exact⟨x7,σ7,k,p.DJ,r7,q⟩
#print a
abbrev R2:=V->V->Hp->VK->Prop
def yk(X:Cx)(f:Value->Value->Sem Value)(r:R2):Prop:=
 ∀(z8:Á é) (s:Ë) (σ:St) (H:Hp) (x y:V) (v u:Value) (Q:VK),zI X z8 σ H s->zr x v->zr y u->r x y H Q->
  Ù ý X.A Ģl Žb ĩ s
def Qz(X:Cx)(f:Value->Sem Value)(r:V->Hp->VK->Prop):Prop:=
 ∀(z8:Á é) (s:Ë) (σ:St) (H:Hp) (x:V) (v:Value) (Q:VK),zI X z8 σ H s->zr x v->r x H Q->
  Ù ý X.A (f v) Žb ĩ s
def vY(X:Cx)(f:Value)(r:Á V->Hp->VK->Prop):Prop:=
 ∀(z8:Á é) (s:Ë) (σ:St) (H:Hp) (xs:Á V) (us:Á Value) (Q:VK),zI X z8 σ H s->zm xs us->r xs H Q->
  Ù ý X.A (Çb f us) Žb ĩ s
noncomputable def BD(r:R2)(a b:TE):TE:=λσ H Q=>a σ H λx c=>b σ c λy d=>r x y d Q
noncomputable def x15(r:V->Hp->VK->Prop)(a:TE):TE:=λσ H Q=>a σ H λx b=>r x b Q
noncomputable def rI(C:Int->Int->Prop)(g:Int->Int->V):R2:=λx y H Q=>∃i j,x=.int i/\y=.int j/\C i j/\Q Ûb H
noncomputable def pW(g:Int->Int->V):R2:=λx y H Q=>∃i j,x=.int i/\y=.int j/\Q Ûb H
def rU(g:Int->V):V->Hp->VK->Prop:=λx H Q=>∃i,x=.int i/\Q Ĭe H
section
variable{X:Cx}{a b c:Ñ}{ta tb:TE}{pos:Pos}
def Cc(g:PE X a ta)(l:PE X b tb){c:Á é}{s:Ë}{σ:St}{H:Hp}{R:V->V->Hp->Prop}(I:zI X c σ H s)(h:ta σ H λx H1=>tb σ H1 λy H2=>R x y H2){Q:Value->Ë->Prop}{f:Value->Value->Sem Value}(m:∀v u s2 x y H2,zI X c σ H2 s2->zr x v->zr y u->R x y H2->Ù ý X.A Ģl Q ĩ s2) :Ù ý X.A Ör (λv s₁=>Ù ý X.A (č b Ô) (λu s₂=>Ù ý X.A Ģl Q ĩ s₂) ĩ s₁) ĩ s:=by
 refine zn (g c s σ H _ I h) λv e ⟨x,H1,i,o,n⟩=>?_
 refine zn (l c e σ H1 _ i n) λu s2 ⟨y,H2,k,j,d⟩=>?_
 exact m v u s2 x y H2 k o j d
def iF{c:õe}{r:R2}(g:yk X (Ôb c) r)(e:PE X a ta)(l:PE X b tb):PE X (.BinOp a c b pos) Ŗg:=by intro f s σ H Q I h;exact wpAny_BinOp (Cc e l I h λv u d x y m k j i q=>g f d σ m x y v u Q k j i q)
def y4v{b:UnaryOp}{r:V->Hp->VK->Prop}(k:Qz X (Ĥh b) r)(d:PE X a ta):PE X (.UnaryOp b a pos) (x15 r ta):=by intro c s σ H Q I h;exact UnaryOp_ (zn (d c s σ H _ I h) λv g ⟨x,f,e,j,i⟩=>k c g σ f x v Q e j i)
def Uz{f:Value->Value->Sem Value}{C:Int->Int->Prop}{g:Int->Int->Int}(a:∀(i j:Int)(t u:Tok)(s:Ë)(Q:Value->Ë->Prop)(E:Value->Ë->Prop),C i j->Q ųp { s with Ė:=đ+1 }->Ù ý X.A ģi Q E s) :yk X f Ţn:=by intro k s σ H x y v u Q I d c h;obtain⟨i,j,rfl,rfl,e,q⟩:=h;obtain⟨t,rfl⟩:=d;obtain⟨b,rfl⟩:=c;exact a i j t b s _ _ e ⟨.int Ûb,H,Ña _,⟨_,rfl⟩,q⟩
def IA{f:Value->Value->Sem Value}{g:Int->Int->Int}(a:∀(i j:Int)(t u:Tok)(s:Ë)(Q:Value->Ë->Prop)(E:Value->Ë->Prop),Q ųp { s with Ė:=đ+1 }->Ù ý X.A ģi Q E s) :yk X f æs:=by intro e s σ H x y v u Q I d c h;obtain⟨i,j,rfl,rfl,q⟩:=h;obtain⟨t,rfl⟩:=d;obtain⟨b,rfl⟩:=c;exact a i j t b s _ _ ⟨.int Ûb,H,Ña _,⟨_,rfl⟩,q⟩
def Ho{f:Value->Value->Sem Value}{g:Int->Int->Ì}(a:∀(i j:Int)(t u:Tok)(s:Ë)(Q:Value->Ë->Prop)(E:Value->Ë->Prop),Q (.bool Ûb) s->Ù ý X.A ģi Q E s) :yk X f đo:=by intro e s σ H x y v u Q I d c h;obtain⟨i,j,rfl,rfl,q⟩:=h;obtain⟨t,rfl⟩:=d;obtain⟨b,rfl⟩:=c;exact a i j t b s _ _ ⟨.bl Ûb,H,I,rfl,q⟩
def DK(i j:Int):Prop:=0<=j/\j<=1000000/\đc<2 ^ 64
def QP(i j:Int):Prop:=(-ėh<i/\i<2 ^ 64)\/(-ėh<j/\j<2 ^ 64)
def QP.ok{i j:Int}(h:QP i j):IntMulOk i j:=by rcases h with⟨b,a⟩|⟨b,a⟩;exact .of_left Ēo;exact .of_right Ēo
def x5p(k:Nat):(0:Int)<=2 ^ k:=by rw[two_pow_cast];exact Òd _
def y3k:yk X áe (Ηa (i+j)):=IA λ_ _ _ _ _ _ _ q=>ýa q
def XQ:yk X (Ôb .Sub) Ør:=IA λ_ _ _ _ _ _ _ q=>sub_int q
def tq:yk X ŝg Ģi:=Uz λ_ _ _ _ _ _ _ a q=>mul_int q a.ok
def xS:yk X (Ôb .Mod) įn:=Uz λi j _ _ _ _ _ a q=>by have b:(0:Int)<j:=a;exact mod_int' Å (by rw[Int.fmod_eq_emod_of_nonneg i Å];exact q)
def Y7:yk X (Ôb .LShift) Ân:=Uz λ_ _ _ _ _ _ _ a q=>lshift_int_small a.1 a.2.1 a.2.2 q
def h_:yk X (Ôb .RShift) żm:=Uz λi j _ _ _ _ _ a q=>
 rshift_int a (by rw[ďn i (x5p _)];exact q)
def Hq:yk X (Ôb .BitAnd) (Ηa (Ŷb i j)):=IA λ_ _ _ _ _ _ _ q=>and_int q
def hX:yk X (Ôb .BitOr) (Ηa (öd i j)):=IA λ_ _ _ _ _ _ _ q=>or_int q
def y40:yk X (Ôb .BitXor) (Ηa (Čj i j)):=IA λ_ _ _ _ _ _ _ q=>xor_int q
def nP{f:Value->Sem Value}{g:Int->Int}(a:∀(i:Int)(t:Tok)(s:Ë)(Q:Value->Ë->Prop)(E:Value->Ë->Prop),Q (.int Ĭe đ) { s with Ė:=đ+1 }->Ù ý X.A (f Åh) Q E s) :Qz X f (Εc Ĭe):=by intro c s σ H x v Q I b h;obtain⟨i,rfl,q⟩:=h;obtain⟨t,rfl⟩:=b;exact a i t s _ _ ⟨.int Ĭe,H,Ña _,⟨_,rfl⟩,q⟩
def RH:Qz X (Ĥh .USub) (Εc (-i)):=nP λ_ _ _ _ _ q=>neg_int q
def x65:Qz X (Ĥh .Invert) (Εc Čl):=nP λ_ _ _ _ _ q=>invert_int q
def y3l:yk X áe (λx y H Q=>∃i k,x=.int i/\y=.bl k/\Q Đp H):=by intro c s σ H x y v u Q I b a h;obtain⟨i,k,rfl,rfl,q⟩:=h;obtain⟨t,rfl⟩:=b;cases a;exact add_int_bool ⟨.int (i+b2i k),H,Ña _,⟨_,rfl⟩,q⟩
#print a
noncomputable def Pf:V->V->Ì
 |.zE,.zE=>Ã|.zE,.int _=>Ã|.int _,.zE=>Ã|.zE,.bl _=>Ã|.bl _,.zE=>Ã|.zE,.str _=>Ã|.str _,.zE=>Ã|.int _,.int _=>Ã|.bl _,.bl _=>Ã|.str _,.str _=>Ã|.byt _,.byt _=>Ã|.int _,.str _=>Ã|.str _,.int _=>Ã|.bl _,.str _=>Ã|.str _,.bl _=>Ã|_,_=>Â
def y6d:R2:=λx y H Q=>Pf x y=Ã/\Q Òr H
def y6i:R2:=λx y H Q=>Pf x y=Ã/\Q (.bl (!decide (x=y))) H
def Cr{i j:Int}:decide (Ľd i=Ľd j)=ŕf:=by rw[ŉc];simp
def Cq{i j:Ì}:decide (V.bl i=V.bl j)=ŕf:=by rw[ŉc];simp
def Cs{i j:Str}:decide (V.str i=V.str j)=ŕf:=by rw[ŉc];simp
def cR{i j:Ø UInt8}:decide (V.byt i=V.byt j)=(i.toList==j.toList):=by rw[ŉc];cases i;cases j;simp
section
variable{X:Cx}{a b c:Ñ}{ta tb:TE}{pos:Pos}
def wV{a:Á é}{σ:St}{H:Hp}{s:Ë}{Q:VK}{k b:Ì}(I:zI X a σ H s)(q:Q Łf H)(e:k=b):EP X a σ Q ñh s:=by subst e;exact⟨.bl k,H,I,rfl,q⟩
def y3p:yk X ïs y6d:=by
 intro e s σ H x y v u Q I d a h;obtain⟨c,q⟩:=h;cases x with
 |zE=>
  cases d;cases y with
  |zE=>cases a;exact PySem.EqNone.eq_none_none áa|bl j=>cases a;exact PySem.EqNone.eq_none_bool áa|int j=>obtain⟨b,rfl⟩:=a;exact PySem.EqNone.eq_none_int áa
  |str j=>obtain⟨b,rfl⟩:=a;exact PySem.EqNone.eq_none_str áa
  |_=>exact Ú (show Â=Ã from c) ō
 |bl i=>
  cases d;cases y with
  |zE=>cases a;exact PySem.EqNone.eq_bool_none áa|bl j=>cases a;exact eq_bool (wV I q Cq)|str j=>obtain⟨b,rfl⟩:=a;exact PySem.EqMixed.eq_bool_str áa
  |_=>exact Ú (show Â=Ã from c) ō
 |int i=>
  obtain⟨t,rfl⟩:=d;cases y with
  |zE=>cases a;exact PySem.EqNone.eq_int_none áa|int j=>obtain⟨b,rfl⟩:=a;exact ħc (wV I q Cr)
  |str j=>obtain⟨b,rfl⟩:=a;exact PySem.EqMixed.eq_int_str áa
  |_=>exact Ú (show Â=Ã from c) ō
 |str i=>
  obtain⟨t,rfl⟩:=d;cases y with
  |zE=>cases a;exact PySem.EqNone.eq_str_none áa|bl j=>cases a;exact PySem.EqMixed.eq_str_bool áa|int j=>obtain⟨b,rfl⟩:=a;exact PySem.EqMixed.eq_str_int áa
  |str j=>obtain⟨b,rfl⟩:=a;exact eq_str (wV I q Cs)
  |_=>exact Ú (show Â=Ã from c) ō
 |byt i=>
  obtain⟨t,rfl⟩:=d;cases y with
  |byt j=>obtain⟨b,rfl⟩:=a;exact W.eq_bytes (wV I q cR)
  |_=>exact Ú (show Â=Ã from c) ō
 |_=>cases y<;>exact Ú (show Â=Ã from c) ō
def y3v:yk X ġq y6i:=by
 intro e s σ H x y v u Q I d a h;obtain⟨c,q⟩:=h;cases x with
 |zE=>
  cases d;cases y with
  |zE=>cases a;exact PySem.EqNone.ne_none_none áa|bl j=>cases a;exact PySem.EqNone.ne_none_bool áa|int j=>obtain⟨b,rfl⟩:=a;exact PySem.EqNone.ne_none_int áa
  |str j=>obtain⟨b,rfl⟩:=a;exact PySem.EqNone.ne_none_str áa
  |_=>exact Ú (show Â=Ã from c) ō
 |bl i=>
  cases d;cases y with
  |zE=>cases a;exact PySem.EqNone.ne_bool_none áa|bl j=>cases a;exact ne_bool (wV I q (Ëa not Cq))|str j=>obtain⟨b,rfl⟩:=a;exact PySem.EqMixed.ne_bool_str áa
  |_=>exact Ú (show Â=Ã from c) ō
 |int i=>
  obtain⟨t,rfl⟩:=d;cases y with
  |zE=>cases a;exact PySem.EqNone.ne_int_none áa|int j=>obtain⟨b,rfl⟩:=a;exact ne_int (wV I q (Ëa not Cr))
  |str j=>obtain⟨b,rfl⟩:=a;exact PySem.EqMixed.ne_int_str áa
  |_=>exact Ú (show Â=Ã from c) ō
 |str i=>
  obtain⟨t,rfl⟩:=d;cases y with
  |zE=>cases a;exact PySem.EqNone.ne_str_none áa|bl j=>cases a;exact PySem.EqMixed.ne_str_bool áa|int j=>obtain⟨b,rfl⟩:=a;exact PySem.EqMixed.ne_str_int áa
  |str j=>obtain⟨b,rfl⟩:=a;exact ne_str (wV I q (Ëa not Cs))
  |_=>exact Ú (show Â=Ã from c) ō
 |byt i=>
  obtain⟨t,rfl⟩:=d;cases y with
  |byt j=>obtain⟨b,rfl⟩:=a;exact W.ne_bytes (wV I q (Ëa not cR))
  |_=>exact Ú (show Â=Ã from c) ō
 |_=>cases y<;>exact Ú (show Â=Ã from c) ō
def ZF:yk X (Ģa .Lt) (νb (i<j)):=Ho λ_ _ _ _ _ _ _ q=>lt_int q
def Hr:yk X (Ģa .LtE) (νb (i<=j)):=Ho λ_ _ _ _ _ _ _ q=>le_int q
def IB:yk X (Ģa .GtE) (νb (j<=i)):=Ho λ_ _ _ _ _ _ _ q=>ge_int q
def y3s:yk X Ąf (θc ùn):=by intro d s σ H x y v u Q I b a h;obtain⟨i,j,rfl,rfl,q⟩:=h;obtain⟨t,rfl⟩:=b;obtain⟨c,rfl⟩:=a;exact in_str (wV I q rfl)
def V4:yk X îs ąo:=by
 intro c s σ H x y v u Q I a b h;obtain⟨rfl,q⟩:=h;cases b;refine is_none_gen êr
 cases x<;>first
  |(cases a;rfl)
  |(obtain⟨t,rfl⟩:=a;rfl)
def MR:yk X (Ģa .IsNot) Ûn:=by
 intro c s σ H x y v u Q I a b h;obtain⟨rfl,q⟩:=h;cases b;refine isnot_none_gen êr
 cases x<;>first
  |(cases a;rfl)
  |(obtain⟨t,rfl⟩:=a;rfl)
def yk.or{f:Value->Value->Sem Value}{r d:R2}(h:yk X f r)(h':yk X f d):yk X f (λx y H Q=>r x y H Q\/d x y H Q):=by intro c s σ H x y v u Q I b a q;rcases q with q|q;exact h c s σ H x y v u Q I b a q;exact h' c s σ H x y v u Q I b a q
def zy(b:Ñ){a:Ťf}(h:Ê (a≠.In) q10)(c:Ê (a≠.NotIn) q10):úc a b=Â:=by
 have e1:(a==CmpOp.In)=Â:=by cases a<;>first|rfl|exact Ú rfl h
 have e2:(a==CmpOp.NotIn)=Â:=by cases a<;>first|rfl|exact Ú rfl c
 cases b<;>simp[úc,e1,e2]
theorem iA{c:Ťf}{r:R2}(i:yk X (Ģa c) r)(f:PE X a ta)(m:PE X b tb)(e:úc c b=Â):PE X (.Compare a [c] [b] pos) Ŗg:=by intro g s σ H Q I h;exact wpAny_Compare1 (Cc f m I h λv u d x y n l k j q=>i g d σ n x y v u Q l k j q) e
noncomputable def x13(t:TE):TT:=λσ H Q=>t σ H λx a=>∃k,x=.bl k/\Q k a
def K9{d:Ťf}{r:R2}(t:yk X (Ģa d) r)(p:PE X a ta)(G:PE X b tb)(n:úc d b=Â):PT X Ľn (x13 Ŗg):=by
 intro f s σ H Q I h
 refine wpAny_isTrue_Compare1 (zn (p f s σ H _ I h) λv o ⟨x,q,w,J,F⟩=>zn (G f o σ q _ w F) λu j ⟨y,C,B,A,i⟩=>
  zn (t f j σ C x y v u _ B J A i) λc K ⟨z,E,m,g,k,e,l⟩=>?_) n
 subst e;cases g;exact řd ⟨E,m,l⟩
def Ut:(á:Nat)<2 ^ 63:=by rw[Ř];decide
def y3m:yk X áe (λx y H Q=>∃i j,x=.str i/\y=.str j/\Úb+Ėa<=á/\Q Ąq H):=by intro e s σ H x y v u Q I c b h;obtain⟨i,j,rfl,rfl,d,q⟩:=h;obtain⟨t,rfl⟩:=c;obtain⟨a,rfl⟩:=b;exact ĭh (λa f=>⟨.str (i++j),H,Ña _,⟨_,rfl⟩,q⟩) d
def tQ{x:V}{us:Á Value}(r:zm [x] us):∃u,us=[u]/\zr x u:=by
 cases r with
 |Ĉ r1 r2=>cases r2;exact⟨_,rfl,r1⟩
def RU{x y:V}{us:Á Value}(r:zm Éd us):∃u w',us=[u,w']/\zr x u/\zr y w':=by
 cases r with
 |Ĉ r1 r2=>
  cases r2 with
  |Ĉ r3 r4=>cases r4;exact⟨_,_,rfl,r1,r3⟩
#print a
structure WN(h:Heap)(x dx C:É)(mA:Str->Æ Value):Prop where
 obj:ĥ x=À Ğr
 ns:żh dx mA
 ne:dx≠x
def z7i{h:Heap}{c:É}{d:Str->Æ Value}(n:żh c d):∃od,ĥ c=À od/\∀Ľ,Āh Ľ od=À (d Ľ):=by
 obtain⟨o,f,p,m,l,g,_,i⟩:=n;refine⟨o,m,λname=>?_⟩;have e:=i Ľ;unfold nsFind findBy at e;rw[<-Array.find?_toList]at e;unfold Āh;rw[l];dsimp only
 split;rename_i y q;rw[q]at e;exact Ëa À e;rename_i q;rw[q]at e
 have a:Ďq (·.refKey)=Â:=by rw[ŷi];intro y k;obtain⟨z,t,b⟩:=g y (Array.mem_toList_iff.mp k);simp[DictEntry.refKey,b]
 have j:¬ Ďq (·.refKey)=Ã:=by rw[a];exact ō
 rw[Ð j];exact Ëa À e
def WN.look{h:Heap}{x a C:É}{b:Str->Æ Value}(I:WN h x a C b):∃od,W.InstAt h x (ćg C a) C (À od)/\∀Ľ,Āh Ľ od=À (b Ľ):=
 let ⟨od,ho,hl⟩:=z7i I.ns
 ⟨od,⟨I.obj,rfl,rfl,ho⟩,hl⟩
section
variable{Ĝ:å}{w:ß}{A:ø}{E:Value->Ë->Prop}{s:Ë}{K:Í}{x dx C f:É}{mA:Str->Æ Value}{Ľ:Str}{v:Value}
def z2z{a:Ì}{Q:Value->Ë->Prop}(X:Ŕ Ý)(I:WN Ý x dx C mA)(c:äf K C Ľ=Ã)(d:Řg K C=Ã)(f:Řa K ő Ľ=À Ä)(hv:mA Ľ=À v)(b:Ėr v=Ã)(h:Q v { s with Ė:=đ+1 }) :Ù è A (ôl Āe Ľ a) Q E s:=by obtain⟨g,J,e⟩:=Łl;exact W.get_value X J (Īj c).1 (W.findObj_own d f rfl (by rw[e,hv])) b h
def z30{pl:Sem Ì}{Q:Value×Á Value->Ë->Prop}(X:Ŕ Ý)(I:WN Ý x dx C mA)(a:äf K C Ľ=Ã)(d:Řa K ő Ľ=À Ĕb)(b:İd K Į=Ã)(hv:mA Ľ=Ä)(h:Q (.ref f,[.ref x]) s) :Ù è A (żr Āe Ľ pl) Q E s:=by obtain⟨e,J,c⟩:=Łl;exact W.method_fn X J (Īj a).1 (Īj a).2 d (Ĺg b) (by show(Āh Ľ e).map (·.isSome)=À Â;rw[c,hv];rfl) h
def y92{ns:Á Str}{Q:ņa->Ë->Prop}(X:Ŕ Ý)(I:WN Ý x dx C mA)(j:Řa K ő ģj=À ði)(l:żj K C=Ã)(m:įk K C Ľ=À Ä)(t:Řg K C=Ã)(n:řj mA ns)(hsz:Ùa<=á)(h:∀h',WN h' x dx C (λy=>if y=Ľ then À v else mA y)->ńb dx Ý h'->Q () { s with ç:=h',Ė:=đ+2 }) :Ù è A (setAttr Āe Ľ v) Q E s:=by
 obtain⟨u,J,F⟩:=Łl;refine W.set_plain X J j (W.osa_open (s:={ s with Ė:=đ+1 }) (r:=Ä) X J l m λb=>?_);obtain⟨B,p,f⟩:=W.any_some t;have o:Ą x=À ⟨.ref C,À dx,.plain,#[]⟩:=I.obj;refine Ò (Ιa (Ò (wpAny_loadPart o (Ò (W.Looks.here (s:={ s with Ė:=đ+1 }) (W.looks_clsIn X p) ?_)))));rw[f];refine ĝ (a:=À dx) (Ò Ēj);refine wpAny_nsSet1 (s:={ s with Ė:=đ+1 }) I.ns λh' c d=>?_
 obtain⟨z,q,k,e,i,g⟩:=c.count (PySem.Within.cons Ľ v n);refine Ò (wpAny_lookBehind e (by rw[i];exact pastItsLine_dict (Ğ g (by rw[ĕ];omega))) ?_);exact ĝ (h _ ⟨(d.2 _ (Ñc I.ne)).trans I.obj,c,I.ne⟩ d)
def z7x{R:Ĳd->Ë->Prop}{vs:Á Value}{b:Á Ãc}(X:Ŕ Ý)(c:Òh K C=Ã)(hi:Řa K ő Öb=À Ĕb)(e:W.typeIn K Į=À (.type "function"))(h:Ĝb è (A.under (.builtin ôp ⟨.ref C::vs,b⟩)) (.call Į ⟨.ref īa::vs,b⟩) (W.InitBack īa R)
   { s with ç:=(ŷd).push śg }) :
  Ĝb è A (.call ő ⟨vs,b⟩) R s:=by
 obtain⟨i,g,d,t,j⟩:=s;exact W.make_core (W.makes_of X c) (W.looks_findIn X hi) (λa=>W.bind_fn X a e) Ĺ h
#print a
noncomputable def ũb(f:Str)(v:V):Á Õc->Á Õc
 | []=>[(f,v)]|(g,x)::r=>if g=f then(g,v)::r else(g,x)::ũb f v r
theorem f7(f g:Str)(v:V):∀fs:Á Õc,(Ŀg).lookup g=if g=f then À v else ŕc g
 | []=>by show ād g [(f,v)]=_;by_cases h:g=f;have a:(g==f)=Ã:=òd h;simp only[ād,a,Ï h];have a:(g==f)=Â:=ĺc h;simp only[ād,a,Ð h]|(k,x)::r=>by have b:=f7 f g v r;rw[show ũb f v Ėk=åi from rfl];by_cases hk:k=f;rw[Ï hk];by_cases h:g=k;have a:Ŭh=Ã:=òd h;simp only[ād,a,Ï (Ķf hk)];have a:Ŭh=Â:=ĺc h;simp only[ād,a,Ð (λe:g=f=>h (Ŵc hk.symm))];rw[Ð hk];by_cases h:g=k;have a:Ŭh=Ã:=òd h;simp only[ād,a,Ð (λe:g=f=>hk (h.symm.trans e))];have a:Ŭh=Â:=ĺc h;simp only[ād,a];exact b
theorem Gv(f:Str)(v:V):∀fs:Á Õc,f∈(Ŀg).map (·.1)/\∀g,g∈Ĝd (·.1)->g∈(Ŀg).map (·.1)
 | []=>⟨by simp[ũb],λg h=>by simp at h⟩|(k,x)::r=>by obtain⟨b,a⟩:=Gv f v r;rw[show ũb f v Ėk=åi from rfl];by_cases hk:k=f;rw[Ï hk];subst hk;exact⟨by simp,λg h=>by simpa using h⟩;rw[Ð hk];refine⟨?_,λg h=>?_⟩;rw[ř];exact ÿa _ b;rw[ř]at h ⊢;rcases ľ h with e|e;exact List.mem_cons.mpr ål;exact ÿa _ (a g e)
theorem e_(f:Str)(v:V):∀fs:Á Õc,(Ŀg).length<=Ÿa+1
 | []=>by simp[ũb]|(k,x)::r=>by have a:=e_ f v r;rw[show ũb f v Ėk=åi from rfl];by_cases hk:k=f;rw[Ï hk,ĕ,ĕ];omega;rw[Ð hk,ĕ,ĕ];omega
def áf{v:V}{o:Æ Value}(r:ul æa o):∃u,o=À u/\zr v u:=by
 cases o with
 |Ä=>exact(show ò from r).elim|À u=>exact⟨u,rfl,r⟩
def Ċr{o:Æ Value}(r:ul Ä o):o=Ä:=by
 cases o with
 |Ä=>rfl|À u=>exact(show ò from r).elim
def z5c{v:V}{u:Value}(r:zr v u):Ėr u=Ã:=by
 cases v with
 |zE=>cases(show u=Áe from r);rfl|bl b=>cases(show u=Ŵg b from r);rfl|int i=>obtain⟨t,e⟩:=(show ∃t,u=ťc i t from r);cases e;rfl
 |str x=>obtain⟨t,e⟩:=(show ∃t,u=Ťc x t from r);cases e;rfl
 |byt b=>obtain⟨t,e⟩:=(show ∃t,u=Ÿq b t from r);cases e;rfl
 |W3 b=>obtain⟨t,e⟩:=(show ∃t,u=ſj b t from r);cases e;rfl
 |ref a=>cases(show u=Ċ a from r);rfl|ty n=>cases(show u=ïk n from r);rfl
section
variable{P:å}{w:ß}{H:Hp}{h:Heap}{a C dx:É}{fs:Á Õc}
def Lx(c:wE P w H h)(e:H a=À Ŀb):∃mA,WN h a dx C mA/\(∀f,ul ćl Œl)/\řj mA (Ĝd (·.1))/\Ÿa<=1000/\H dx=À Ĭf:=by obtain⟨d,z,b,g,mA,n,r,q⟩:=(show xT P w H h a Ŀb from c a _ e);exact⟨mA,⟨g,n,b⟩,r,q,z,d⟩
#print a
structure t8(K:Í)(C:É):Prop where
 pg:äf K C Ãs=Ã
 hd:Řg K C=Ã
 po:żj K C=Ã
 sa:Řa K ő ģj=À ði
def t8.get{K:Í}{C:É}(c:t8 K C)(f:Str):äf K C f=Ã:=c.pg
def Ys(K:Í)(C:É)(f:Str):Prop:=Řa K ő f=À Ä
def Ys.sC{K:Í}{C:É}{f:Str}(n:Ys K C f):įk K C f=À Ä:=by unfold įk;rw[show Řa K ő f=À Ä from n];rfl
structure Qv(K:Í)(C:É)(m:Str)(f:É):Prop where
 at_:Řa K ő m=À Ĕb
 fn:İd K Į=Ã
 kp:ùa K Į=Ã
section
variable{X:Cx}{z8:Á é}{σ:St}{H:Hp}{s:Ë}{a C dx:É}{fs:Á Õc}{f:Str}{v:V}{A:ø}{E:Value->Ë->Prop}
def dW{b:Ì}{Q:Value->Ë->Prop}(I:zI X z8 σ H s)(e:H a=À Ŀb)(c:t8 X.K C)(n:Ys X.K C f)(l:ŕc f=À v)(h:∀u s',zI X z8 σ H s'->zr v u->Q u s'):Ù ý A (ôl Ś f b) Q E s:=by obtain⟨g,O,r,_,_,_⟩:=Lx Ĕ e;obtain⟨u,i,d⟩:=áf (v:=v) (o:=g f) (by rw[<-l];exact r f);exact z2z ŝ O (c.get f) c.hd n i (z5c d) (h u _ ğc d)
def dX{m:Str}{g:É}{pl:Sem Ì}{Q:Value×Á Value->Ë->Prop}(I:zI X z8 σ H s)(e:H a=À Ŀb)(c:t8 X.K C)(k:Qv X.K C m g)(l:ŕc m=Ä)(h:Q (.ref g,úa) s):Ù ý A (żr Ś m pl) Q E s:=by obtain⟨b,O,r,_,_,_⟩:=Lx Ĕ e;have d:b m=Ä:=Ċr (by rw[<-l];exact r m);exact z30 ŝ O (c.get m) k.at_ k.fn d h
def mU{y:V}{u:Value}{Q:ņa->Ë->Prop}(I:zI X z8 σ H s)(e:H a=À Ŀb)(c:t8 X.K C)(n:Ys X.K C f)(G:Ÿa<1000)(v:zr y u)(h:∀s',zI X z8 σ (zX H a ĥn) s'->Q () s'):Ù ý A (setAttr Ś f u) Q E s:=by
 obtain⟨i,O,r,k,_,j⟩:=Lx Ĕ e;have F:(Ĝd (·.1)).length<=á:=by rw[ä,Ř];omega
 refine y92 ŝ O c.sa c.po n.sC c.hd k F λl d m=>h _ ?_
 have t:∃o,l.get? dx=À o:=let ⟨o,_,_,e',_⟩:=d.ns;⟨o,e'⟩;refine įh (x:=a) (e:=dx) ŕi (.inr j) (λb q B z=>(m.2 b B).trans z) t ?_;refine⟨by rw[yB O.ne];exact j,?_,O.ne,d.obj,_,d.ns,λg=>?_,λg p=>?_⟩;have:=e_ f y fs;omega;show ul ((ũb f y fs).lookup g) õn;rw[f7];by_cases q:g=f;rw[Ï q,Ï q];exact v;rw[Ð q,Ð q];exact r g;by_cases q:g=f;rw[q];exact ýr.1;refine ýr.2 g (k g λz=>p ?_);show õn=Ä;rw[Ð q];exact z
def zI.made(I:zI X z8 σ H s):zI X z8 σ (zX (zX H Û (.own īa)) īa (.ins C Û [])) { s with ç:=(ŷd).push śg }:=by
 have e1:(ŷd).get? Û=À žj:=ū Ý rfl
 have e2:((ŷd).push śg).get? (Û+1)=À śg:=by
  have:=ū ŷd (o:=ćg C Û) rfl
  rwa [żb]at this
 have g:(ŷd).Ns Û ōb:=⟨žj,#[],_,e1,rfl,(λe f=>Ú f ã),λ_=>rfl⟩;have d:=ġb (a:=Û) (o:=.own īa) (h':=Ūa žj) (t':=đ) Ūi Ē ⟨_,e1⟩;refine Ķl (a:=Û+1) (o:=.ins C Û []) (t':=đ) Ūi (Àc (żb _ _)) ?_;have c:Û≠Û+1:=Ça ąe;refine⟨by rw[yB c,ya],Áa _,c,e2,λ_=>Ä,(Heap.Ns1.of_empty g).at λo q=>Ī _ q,λ_=>Ųa,λy h=>Ú rfl h⟩
def sv{Ĝ:å}{w:ß}{env:Env}{e:Ñ}{f:Str}{pos:Pos}{s:Ë}{Q:Value->Ë->Prop}(a:Ķb e f env Õr=č e env)(h:Ù è A Õr (λo s₁=>Ù è A (ôl o f Ã) Q E s₁) E s):Ù è A (č øg env) Q E s:=
 Attribute_any_ h (by rw[arm_eval_Attribute,a])
#print a
noncomputable def x0f(K:Í)(c:TE)(f:Str):TE:=λσ H Q=>c σ H λx b=>∃a C dx fs v,x=.ref a/\b a=À Ŀb/\t8 K C/\Ys K C f/\ŕc f=À v/\Q v b
def y74(K:Í)(d c:TE)(f:Str):TS:=λD σ H=>c σ H λy e=>d σ e λx b=>∃a C dx fs,x=.ref a/\b a=À Ŀb/\t8 K C/\Ys K C f/\Ÿa<1000/\
 Éb σ (zX b a ĥn)
def b9(X:Cx)(b:õe)(a:V->V->Hp->VK->Prop):Prop:=
 ∀(z8:Á é) (s:Ë) (σ:St) (H:Hp) (x y:V) (u v:Value) (Q:VK),zI X z8 σ H s->zr x u->zr y v->a x y H Q->Ù ý X.A (ôf b u v) Žb ĩ s
def y75(K:Í)(e h:TE)(d:V->V->Hp->VK->Prop)(f:Str):TS:=λD σ H=>e σ H λx c=>∃a C dx fs v,x=.ref a/\c a=À Ŀb/\t8 K C/\Ys K C f/\ŕc f=À v/\
 h σ c λy g=>d v y g λz b=>∃dx' fs',b a=À (.ins C dx' fs')/\fs'.length<1000/\Éb σ (zX b a (.ins C dx' (ũb f z fs')))
section
variable{X:Cx}{o e ħb:Ñ}{f:Str}{pos İa tpos:Pos}{ta tv:TE}
def iC(b:PE X e ta)(m:Ķb e f Ô Çf=č e Ô):PE X øg (x0f X.K ta f):=by intro g s σ H Q I h;refine sv m (zn (b g s σ H _ I h) λu w ⟨x,d,i,j,a,C,z,y,v,r,p,c,n,l,q⟩=>?_);subst r;obtain rfl:u=Ċ a:=j;exact dW i p c n l λA t k o=>⟨v,d,k,o,q⟩
def y5m(i:PE X o ta)(hv:PE X ħb tv)(g:Œc ħb (À ío) Óe Ô=pure Â):PS X (.Assign Ôo ħb pos) (y74 X.K ta tv f):=by intro b s σ H D I h;refine plainObj_wpAny_Assign_Attribute (zn ēo λu p ⟨y,r,v,t,q⟩=>zn (i b p σ r _ v q) λk B ⟨x,G,j,w,a,C,A,E,m,z,c,n,l,d⟩=>?_) g;subst m;obtain rfl:k=Ċ a:=w;exact mU j z c n l t λF e=>⟨σ,_,e,d⟩
def y5n{g:õe}{i:V->V->Hp->VK->Prop}(t:PE X o ta)(hv:PE X ħb tv)(d:b9 X g i):PS X (.AugAssign Éo g ħb pos) (y75 X.K ta tv i f):=by
 intro e s σ H D I h;refine wpAny_AugAssign_AttributeAny (zn (t e s σ H _ I h) λJ s1 ⟨x,P,R,S,a,C,Y,fs,v,G,W,c,n,l,q⟩=>?_);subst G;obtain rfl:J=Ċ a:=S;refine dW R W c n l λu N A B=>zn (hv e N σ P _ A q) λj T ⟨y,U,k,Q,O⟩=>zn (d e T σ U v y u j _ k B Q O) λw4 s4 ⟨z,Z,p,L,m,w,b,r,F⟩=>?_
 exact mU p b c n r L λs5 E=>⟨σ,_,E,F⟩
def y6a:V->V->Hp->VK->Prop:=λx y H Q=>∃i j,x=.int i/\y=.int j/\Q Çk H
def z5t:b9 X .Add y6a:=by rintro d s σ H x y u v Q I c b ⟨i,j,rfl,rfl,q⟩;obtain⟨t,rfl⟩:=(show ∃t,u=ťc i t from c);obtain⟨a,rfl⟩:=(show ∃a,v=ťc j a from b);exact PyProof.Rows.iadd_int ⟨.int (i+j),H,Ña _,⟨_,rfl⟩,q⟩
#print a
section
variable{X:Cx}{z8:Á é}{σ:St}{H:Hp}{s:Ë}{A:ø}{E:Value->Ë->Prop}{Q:Value->Ë->Prop}{c:Value}{b:Ì}
inductive jj(K:Śj)(H:Hp):V->Value->Prop where
 |zE:jj K H .zE űd
 |bl (x:Ì):jj K H (.bl x) Ðb
 |int (i:Int):jj K H üa Òb
 |str (x:Str):jj K H śb Ćb
 |W3 (x:UInt64):jj K H (.W3 x) (.type "float")
 |lst {a:É} {xs:Á V} (e:H a=À öa):jj K H Ś Ĉa
 |yJ {a:É} {o:Obj} {xs:Á V} (e:H a=À Ār):jj K H Ś Ĉa
 |tup {a:É} {xs:Á V} (e:H a=À Ŗa):jj K H Ś ŵa
 |dK {a:É} {kvs:Á ż} (e:H a=À Ł):jj K H Ś ŝc
 |dT {a:É} {kvs:Á Åc} (e:H a=À ďc):jj K H Ś ŝc
 |ins {a C dx:É} {fs:Á Õc} (e:H a=À Ŀb) (cl:t8 K C) (ha:PySem.W.findIn K ő "__class__"=À (À đi))
   (hn:PySem.W.specialIn K đi "__get__"=À (À (.builtin "getset_descriptor.__get__"))) (htk:PySem.W.takesIn K đi=À Ã)
   (hm:PySem.W.mroIn K C (.type "object")=À Ã):jj K H Ś ő
def M1{x:V}{u t:Value}(I:zI X z8 σ H s)(d:zr x u)(l:jj X.K H x t)(e:œ X.K t c=À b)(h:∀tk,Q ñh { s with Ė:=tk }) :Ù ý A (Çb Ěj [u,c]) Q E s:=by
 cases l with
 |zE=>cases(show u=Áe from d);exact Øb W.kitx_none ŝ Ųa e ķa h|bl y=>cases(show u=Ŵg y from d);exact Øb W.kitx_bool ŝ Ųa e ķa h|int i=>obtain⟨t,q⟩:=(show ∃t,u=ťc i t from d);cases q;exact Øb W.kitx_int ŝ Ųa e ķa h
 |str y=>obtain⟨t,q⟩:=(show ∃t,u=Ťc y t from d);cases q;exact Øb W.kitx_str ŝ Ųa e ķa h
 |W3 y=>obtain⟨t,q⟩:=(show ∃t,u=ſj y t from d);cases q;exact Øb W.kitx_float ŝ Ųa e ķa h
 |@lst a g ea=>cases(show u=Ċ a from d);obtain⟨_,_,n,_,f⟩:=(show xT ó X.w H Ý a (.lst g)from Ĕ a _ ea);exact Øb Žj ŝ ⟨_,f,rfl⟩ e ķa h
 |@yJ a ob g ea=>cases(show u=Ċ a from d);obtain⟨_,_,_,n,_,f⟩:=(show xT ó X.w H Ý a (.yJ ob (.lst g))from Ĕ a _ ea);exact Øb Žj ŝ ⟨_,f,rfl⟩ e ķa h
 |@tup a g ea=>cases(show u=Ċ a from d);obtain⟨_,_,_,p⟩:=(show xT ó X.w H Ý a (.tup g)from Ĕ a _ ea);obtain⟨o,f,j,_⟩:=p;exact Øb đq ŝ ⟨o,f,j⟩ e ķa h
 |@dK a kvs ea=>cases(show u=Ċ a from d);obtain⟨_,_,r,_,p⟩:=(show xT ó X.w H Ý a Ł from Ĕ a _ ea);obtain⟨o,m,k,f,j,_⟩:=p;exact Øb Ŷq ŝ ⟨o,f,j.1⟩ e ķa h
 |@dT a kvs ea=>cases(show u=Ċ a from d);obtain⟨_,_,g,_,o,m,k,f,j,_⟩:=(show xT ó X.w H Ý a ďc from Ĕ a _ ea);exact Øb Ŷq ŝ ⟨o,f,j.1⟩ e ķa h
 |@ins a C dx fs ea cl ha hn htk hm=>cases(show u=Ċ a from d);obtain⟨B,O,_⟩:=Lx Ĕ ea;obtain⟨v,J,_⟩:=O.look;exact Øb (W.kitx_own (cl.get _) cl.hd ha hn htk hm) ŝ J e ķa h
#print a
structure yl(k:Nat)(A:ø):Prop where
 hd:Ìc=Ä
 dp:Ĳh+3*k+5<Ŀp
 un:Şa+16*k+200<Òa
 gd:A.guards=À []
theorem yl.mono{j k:Nat}{A:ø}(r:yl k A)(h:j<=k):yl j A:=⟨r.hd,by have:=r.dp;omega,by have:=r.un;omega,r.gd⟩
theorem yl.deeper{k:Nat}{A:ø}(r:yl Ņ A)(env:Env):yl k (ŉb env):=
 ⟨r.hd,by have:=r.dp;show Ĳh+1+3*k+5<_;omega,by have:=r.un;show Şa+3+16*k+200<_;omega,by first|exact r.gd|simp[Íf,Ær,Čr,r.gd]⟩
def z7w{A:ø}{C:É}{us:Á Value}{a:Á Ãc}:(Øi).depth=Ĳh+1:=by first|rfl|simp[Íf,Code.weight,Code.isCreation,Code.isGuard,Code.isCaller,Çr,Şj,guardIds]
theorem z7y{A:ø}{C:É}{us:Á Value}{a:Á Ãc}:(Øi).units=Şa+1:=by first|rfl|simp[Íf,Code.cUnits,Çr,Şj]
theorem yl.make{k:Nat}{A:ø}(r:yl Ņ A)(C:É)(us:Á Value)(a:Á Ãc):yl k Øi:=
 ⟨r.hd,by have:=r.dp;rw[z7w];omega,by have:=r.un;rw[z7y];omega,by first|exact r.gd|simp[Íf,Ær,Čr,r.gd]⟩
theorem yl.depth{k:Nat}{A:ø}(r:yl k A):Ĳh<Ŀp:=by have:=r.dp;omega
theorem yl.units{k:Nat}{A:ø}(r:yl k A):Şa+64<Òa:=by have:=r.un;omega
noncomputable def Xe:TA:=λ_ H Q=>Q [] H
noncomputable def TW(a:TE)(b:TA):TA:=λσ H Q=>a σ H λx d=>b σ d λc e=>Q (x::c) e
section
variable{X:Cx}{e:Ñ}{es:Á Ñ}{te:TE}{t:TA}{pos:Pos}
def V5:PA X [] Xe:=λ_ _ _ _ H Q I h=>ũo ⟨[],H,I,.nil,h⟩
def i5(g:PE X e te)(f:PA X es t)(c:Ê Ðd q12):PA X ğ śk:=by intro pos a s σ H Q I h;rw[c];show Ù _ _ (spliced ((Â,č e Ô)::żc pos şj)) _ _ s;refine Ħi (zn (g a s σ H _ I h) λu d ⟨x,i,j,p,o⟩=>?_);exact zn (f pos a d σ i _ j o) λr q ⟨l,n,m,k,b⟩=>⟨x::l,n,m,.cons p k,b⟩
def x14(t:TA):TE:=λσ H Q=>t σ H λb a=>Ãa<=á/\∀p,a p=Ä->Q Êa (zX a p (.tup b))
def x0k(t:TA):TE:=λσ H Q=>t σ H λb a=>Ãa<=á/\∀p,a p=Ä->Q Êa Ţj
def y4u{x1}(h:PA X es t):PE X Śo (x14 t):=by intro g s σ H Q I k;refine wpAny_Tuple_spliced Ÿl;have j:c ĵa=Ä:=Űi Ē;refine⟨.ref ĵa,zX c ĵa (.tup i),Ķl (t':=Ōf) ļo Ē ?_,rfl,q _ j⟩;exact⟨z,f,r,⟨_,ū _ rfl,rfl,_,rfl⟩⟩
def y4k(h:PA X es t):PE X źp (x0k t):=by intro g s σ H Q I k;refine wpAny_List_spliced Ÿl;have j:c ĵa=Ä:=Űi Ē;refine⟨.ref ĵa,zX c ĵa (.lst i),Ķl (t':=Ōf) ļo Ē ?_,rfl,q _ j⟩;exact⟨z,f,0,r,ū _ rfl⟩
#print a
abbrev Sp:=Á V->Hp->VK->XK->Prop
abbrev gT:=Á Env->Hp->Ë->XK->Value->Ë->Prop
structure WB(P:å)(w:ß)(K:Í)(mg:Str->Æ Value)(Ç:Heap)(A:ø)(ā:Á Env)(s:Ë)(H:Hp):Prop where
 Ĵl:A.frames=À ā
 mod:Mod K mg Ç
 bs:∀b o,base.get? b=À o->Ą b=À o/\H b=Ä
 kO:base.objs.size<=Û
 j2:Đg Ç ā
 YV:∀b∈jG ā,H b=Ä
 zh:wE P w H Ý
 bare:Če Ōh
def CE(ā:Á Env)(P:å)(w:ß)(H:Hp)(s:Ë)(Q:VK)(u:Value)(s':Ë):Prop:=
 ∃v H',s'.os=s.os/\Če s'.gens/\Un (jG ā) [] H H' Ý Ġd/\wE P w H' Ġd/\zr v u/\Q v H'
def CR(a:gT)(ā:Á Env)(P:å)(w:ß)(H:Hp)(s:Ë)(Q:VK)(E:XK)(r:Ĳd)(s':Ë):Prop:=
 match r with
 |.ok (.ret u)=>CE ā P w H s Q u s'|.ok _=>ò|.error e=>a ā H s E e s'
structure xH(P:å)(w:ß)(K:Í)(mg:Str->Æ Value)(Ç:Heap)(CX:gT)(k:Nat)(f:É)(fd:ķ)(ps:Á Str)(sp:Sp):Prop where
 len:∀vs H Q E,sp vs H Q E->Ā=ù
 run:∀(A:ø)(ā:Á Env)(s:Ë)(H:Hp)(Óa:Args)(us:Á Value)(vs:Á V)(Q:VK)(E:XK),yl k A->WB P w K mg Ç A ā s H->áb s fd Óa Śc->zm vs us->sp vs H Q E->
  Ĝb Æc A (.call Į Óa) (CR CX ā P w H s Q E) s
def xH.imp{P:å}{w:ß}{K:Í}{g:Str->Æ Value}{a:Heap}{i:gT}{k:Nat}{f:É}{e:ķ}{ps:Á Str}{sp d:Sp}(F:xH P w K g a i k f e ps sp)(h:∀vs H Q E,d vs H Q E->sp vs H Q E):xH P w K g a i k f e ps d:=
 ⟨λvs H Q E q=>F.len vs H Q E (h _ _ _ _ q),λA b s H c m vs Q E o n p l j=>F.run A b s H c m vs Q E o n p l (h _ _ _ _ j)⟩
def WB.make{P:å}{w:ß}{K:Í}{b:Str->Æ Value}{a:Heap}{A:ø}{ā:Á Env}{s:Ë}{H:Hp}(e:WB P w K b a A ā s H)(C:É)(us:Á Value)(c:Á Ãc) :WB P w K b a (A.under (.builtin ôp ⟨.ref C::us,c⟩)) ā s H:=⟨by first|exact e.frames|(simpa [Íf,Code.envs,Şj,pushEnvs]using e.frames),e.mod,e.bs,e.kO,e.j2,e.YV,e.zh,e.bare⟩
section
variable{X:Cx}{z8:Á é}{σ:St}{H:Hp}{s s':Ë}
def zI.A4(I:zI X z8 σ H s):WB ó X.w X.K ð Œ X.A Śa s H:=
 ⟨Âr,Àl,I.bs,Ğ İh I.sz,I.stack,I.AE,Ĕ,èb⟩
def zI.after{Q:VK}{u:Value}(I:zI X z8 σ H s)(h:CE Śa ó X.w H s Q u s'):EP X z8 σ Q u s':=by obtain⟨v,f,j,a,k,e,r,q⟩:=h;obtain⟨i,g,d,t,c⟩:=s';obtain rfl:c=s.os:=j;exact⟨v,f,I.call (h':=i) (g':=g) (d':=d) (t':=t) (ch:=[]) k e a (λb z=>Ú z ã),r,q⟩
#print a
noncomputable def R7(sp:Sp)(dvs:Á V)(E:XK)(t:TA):TE:=λσ H Q=>t σ H λa b=>sp (a++dvs) b Q E
noncomputable def BC(C:É)(m:Str)(sp:Sp)(dvs:Á V)(E:XK)(d:TE)(t:TA):TE:=λσ H Q=>d σ H λx b=>∃a dx fs,x=.ref a/\b a=À Ŀb/\ŕc m=Ä/\
 t σ b λc e=>sp (x::(c++dvs)) e Q E
def x0l(C:É)(sp:Sp)(dvs:Á V)(E:XK)(t:TA):TE:=λσ H Q=>t σ H λb a=>∀x dx,a x=Ä->a dx=Ä->dx≠x->
 sp (.ref x::(b++dvs)) (zX (zX a dx āe) x Ŷp) (λv c=>v=.zE/\Q Āe c) E
def vX(K:Í)(a:ķ)(ps:Á Str)(ds:Á Value):Prop:=
 ∀(s:Ë)(us:Á Value),Ŕ Ý->(ïe).length=ù->áb s a ⟨us,[]⟩ (ps.zip ïe)
def vX.all{K:Í}{b:ķ}{ps:Á Str}(h:∀us:Á Value,Ţ=ù->ýh b ⟨us,[]⟩=pure Śc):vX K b ps []:=λs us _ a=>by rw[ſ]at a ⊢;exact .of_eq (h us a)
def WQ(a:gT)(X:Cx)(E:XK):Prop:=∀(z8:Á é) (σ:St) (H:Hp) (s:Ë) (e:Value) (s':Ë),zI X z8 σ H s->a Śa H s E e s'->ĩ e s'
section
variable{X:Cx}{CX:gT}{k:Nat}{f C:É}{fd:ķ}{ps:Á Str}{sp:Sp}{dvs:Á V}{ds:Á Value}{E:XK}{x m:Str}{p pos ěa:Pos}{e o:Ñ}{es:Á Ñ}{ta:TE}{t:TA}
def IP{b:Á é}{σ:St}{H:Hp}{s:Ë}{Q:VK}{us:Á Value}{vs:Á V}(F:xH ó X.w X.K ð Œ CX k f fd ps sp)(j:yl k X.A)(g:vX X.K fd ps ds)(m:zm dvs ds)(d:WQ CX X E)(I:zI X b σ H s)(r:zm vs us)(h:sp ĉf H Q E):Ù ý X.A (Çb Į us) (EP X b σ Q) ĩ s:=by
 have c:zm ĉf ïe:=ĕd m;have i:(ïe).length=ù:=by rw[<-Ŗb];exact F.len _ _ _ _ h
 refine âk (ÿg (F.run X.A Śa s H ⟨us,[]⟩ ïe ĉf Q E j I.A4 (g s us ŝ i) c h) λr l a=>?_);cases r with
 |error e=>exact d b σ H s e l I a|ok fl=>
  cases fl with
  |ret u=>exact I.after a|next=>exact Ħa a|brk=>exact Ħa a|èc=>exact Ħa a
def y4b(F:xH ó X.w X.K ð Œ CX k f fd ps sp)(i:yl k X.A)(m:Gl X x)(d:ð x=À Į)(hk:ùa X.K Į=Ã)(u:vX X.K fd ps ds)(n:zm dvs ds)(o:WQ CX X E)(j:PA X ğ t)(a:Ê Ļ q10)(g:Ê Ðd q12)(b:Ê ((Ůd).any (·.1)=Â) q12) :PE X ýb (R7 sp dvs E t):=by intro l s σ H Q I h;refine łe ĭp;refine Èf (h₀:=Œ) Öf hk Îm g b;exact IP F i u n o c r q
def y4n{pl:Sem Ì}(y:PE X o ta)(c:t8 X.K C)(g:Qv X.K C m f)(F:xH ó X.w X.K ð Œ CX k f fd ps sp)(z:yl k X.A)(P:vX X.K fd ps ds)(J:zm dvs ds)(O:WQ CX X E)(B:PA X ğ t)(b:Ê Ðd q12)(d:Ê ((Ůd).any (·.1)=Â) q12)(N:č Ŵf Ô=(do
   let ov <-č o Ô
   standAt Ād
   let (f,first) <-holding [ov] łc
   Ïc pos f first Ūd ūb):=by rfl) :
  PE X Ŵf (BC C m sp dvs E ta t):=by
 intro i s σ H Q I h;refine äj (pl:=pl) (zn (y i s σ H _ I h) λu v ⟨x,G,j,L,a,Y,U,S,R,l,q⟩=>?_) N;subst S;obtain rfl:u=Ċ a:=L;refine dX j R c g l ?_;refine Èf (first:=úa) (h₀:=Œ) Öf g.kp (zn (B pos i v σ G _ j q) λus T ⟨vs,Z,n,r,p⟩=>⟨n.xg,?_⟩) b d;exact IP (us:=.ref a::us) (vs:=.ref a::vs) F z P J O n (.cons rfl r) p
def Hv{pl:Sem Ì}(e:PE X o ta)(c:t8 X.K C)(d:Qv X.K C m f)(F:xH ó X.w X.K ð Œ CX k f fd ps sp)(g:yl k X.A)(t:vX X.K fd ps ds)(j:zm dvs ds)(r:WQ CX X E)(p:č ňd Ô=(do
   let ov <-č o Ô
   standAt Ād
   let (f,first) <-holding [ov] łc
   Ïc pos f first Ăg ūb):=by rfl) :
  PE X ňd (BC C m sp dvs E ta Xe):=by
 intro i s σ H Q I h;refine äj (pl:=pl) (zn (e i s σ H _ I h) λu z ⟨x,J,b,n,a,G,B,y,v,l,q⟩=>?_) p;subst y;obtain rfl:u=Ċ a:=n;refine dX b v c d l ?_;exact W.callWith_K0 (first:=úa) b.xg d.kp (IP (us:=úa) (vs:=úa) F g t j r b ðp q)
structure Mk(K:Í)(C f:É):Prop where
 makes:Òh K C=Ã
 init:Řa K ő Öb=À Ĕb
 fn:İd K Į=Ã
 kp:ùa K ő=Ã
def y71{c:Á é}{σ:St}{H:Hp}{s:Ë}{Q:VK}{us:Á Value}{vs:Á V}(M:Mk X.K C f)(F:xH ó X.w X.K ð Œ CX k f fd ps sp)(o:yl Ņ X.A)(t:vX X.K fd ps ds)(p:zm dvs ds)(q:WQ CX X E)(I:zI X c σ H s)(r:zm vs us)(h:∀x dx,H x=Ä->H dx=Ä->dx≠x->sp (.ref x::ĉf) (zX (zX H dx āe) x Ŷp) (λv H2=>v=.zE/\Q Āe H2) E) :Ù ý X.A (Çb ő us) āq ĩ s:=by
 have g:=h īa Û áq êe (Ça ąe);have b:=zI.made (C:=C) I;have d:zm (ĩc īa::ĉf) Ŕp:=.cons rfl (ĕd p)
 have y:(Ċ īa::us++ds).length=ù:=by have e:=åa;rw[F.len _ _ _ _ g]at e;exact ŋf
 refine âk (z7x (f:=f) ŝ M.makes M.init (Ĺg M.fn) (ÿg (F.run _ Śa _ _ ⟨Ċ īa::us,[]⟩ Ŕp _ _ E (o.make C us [])
  (b.A4.make C us []) (t _ (Ċ īa::us) b.xg y) d g) λr n a=>?_))
 cases r with
 |error e=>exact q c σ _ _ e n b a|ok fl=>
  cases fl with
  |ret u=>obtain⟨v,l,j,z,m,i⟩:=b.after a;subst m;exact⟨z,⟨ĩc īa,l,j,rfl,i⟩⟩
  |next=>exact Ħa a|brk=>exact Ħa a|èc=>exact Ħa a
def y4l(M:Mk X.K C f)(F:xH ó X.w X.K ð Œ CX k f fd ps sp)(i:yl Ņ X.A)(m:Gl X x)(d:ð x=À ő)(u:vX X.K fd ps ds)(n:zm dvs ds)(o:WQ CX X E)(j:PA X ğ t)(a:Ê Ļ q10)(g:Ê Ðd q12)(b:Ê ((Ůd).any (·.1)=Â) q12) :PE X ýb (x0l C sp dvs E t):=by intro l s σ H Q I h;refine łe ĭp;refine Èf (h₀:=Œ) Öf M.kp Îm g b;exact y71 M F i u n o c r q
#print a
def PK(X:Cx)(a:Á Įh)(t:TA):Prop:=
 ∀(pos:Pos)(z8:Á é) (s:Ë) (σ:St) (H:Hp) (Q:Á V->Hp->Prop),zI X z8 σ H s->t σ H Q->Ù ý X.A (evalAll ((backToKw pos (Űq a Ô)).map (·.2))) Ųp ĩ s
section
variable{X:Cx}{k:Nat}{f:É}{x m:Str}{p pos kpos:Pos}{e o:Ñ}{kws:Á Įh}{te:TE}{t:TA}{nm:Æ Str}
def y5e:PK X [] Xe:=λ_ _ _ _ H Q I h=>wpAny_evalAll_nil ⟨[],H,I,.nil,h⟩
def y5c(f:PE X e te)(d:PK X kws t):PK X (⟨nm,e,kpos⟩::kws) śk:=by intro pos a s σ H Q I h;show Ù _ _ (evalAll ((do let v <-č e Ô;standAt pos;pure v)::(backToKw pos (Űq kws Ô)).map (·.2))) _ _ s;refine wpAny_evalAll_cons (Ò (zn ņo λu c ⟨x,g,i,o,n⟩=>Ò (úg Ŋb)));exact zn (d pos a c σ g _ i n) λq p ⟨k,m,l,j,b⟩=>⟨x::k,m,l,.cons o j,b⟩
#print a
structure zj(N P:Á Str)(sc:ča):Prop where
 kind:sc.kind=.function
 co:sc.isCoroutine=Â
 gen:sc.isGenerator=Â
 nd:N.Nodup
 pre:N.take ėa=P
 par:∀x∈P,ýp x=À .local\/ýp x=À .cell
 rq:∀y∈sc.names,y.2≠.free
theorem bq{a:Str->Æ Ŭc}{x:Str}:∀{Ĥe:Á Ãc} {m:Str->Æ Value},(∀v,(x,v) ∉ Ĥe)->Æd a Ĥe m x=m x
 | [],_,_=>rfl|(n,v)::r,m,h=>by
  unfold Æd;rw[bq λw b=>h w ąf]
  split;have:x≠n:=by rintro rfl;exact h v ĵ
  simp[this];rfl
theorem bo{a:Str->Æ Ŭc}{x:Str}:∀{Ĥe:Á Ãc} {m:Str->Æ Value},(∀v,(x,v) ∉ Ĥe)->Çd a Ĥe m x=m x
 | [],_,_=>rfl|(n,v)::r,m,h=>by
  unfold Çd;rw[bo λw b=>h w ąf]
  split;rfl;have:x≠n:=by rintro rfl;exact h v ĵ
  simp[this]
theorem bp{a:Str->Æ Ŭc}{x:Str}{v:Value}:∀{P:Á Str}{vs:Á Value}{i:Nat}{m:Str->Æ Value},P.Nodup->P[i]?=À x->vs[i]?=À v->a x=À .local->
  Æd a ŋr m x=À v
 | [],_,_,_,_,h,_,_=>by simp at h|_::_,[],_,_,_,_,h,_=>by simp at h|p::P,w::vs,0,m,nd,h1,h2,hk=>by simp at h1 h2;subst h1;subst h2;show Æd a Ďg m p=_;unfold Æd;rw[bq λv b=>ßg.1 (éj b).1,Ï hk];simp|p::P,w::vs,i+1,m,nd,h1,h2,hk=>by show Æd a Ďg m x=_;unfold Æd;exact bp (i:=i) ßg.2 üg ĕo hk
theorem bn{a:Str->Æ Ŭc}{x:Str}{v:Value}:∀{P:Á Str}{vs:Á Value}{i:Nat}{m:Str->Æ Value},P.Nodup->P[i]?=À x->vs[i]?=À v->a x≠À .local->
  Çd a ŋr m x=À v
 | [],_,_,_,_,h,_,_=>by simp at h|_::_,[],_,_,_,_,h,_=>by simp at h|p::P,w::vs,0,m,nd,h1,h2,hk=>by simp at h1 h2;subst h1;subst h2;show Çd a Ďg m p=_;unfold Çd;rw[bo λv b=>ßg.1 (éj b).1,Ð hk];simp|p::P,w::vs,i+1,m,nd,h1,h2,hk=>by show Çd a Ďg m x=_;unfold Çd;exact bn (i:=i) ßg.2 üg ĕo hk
noncomputable def Ŷh(N:Á Str)(vs:Á V):St:=ŉh À++ŵ (Éa-Ā) Ä
noncomputable def tZ(g:gT)(P:å)(w:ß)(K:Í)(mg:Str->Æ Value)(Ç:Heap)(N:Á Str)(b:Str)(a:ča)(f:É)(d:Value)(A:ø)(ā:Á Env)(s:Ë)(H:Hp)(E:XK):Cx where
 Ĝ:=P
 w:=w
 K:=K
 mg:=mg
 Ç:=Ç
 A:=ŉb ſi
 N:=N
 s₀:=s
 H₀:=H
 env:=Ėb b a Û f d
 ā:=ā
 stack:=Ėb b a Û f d::ā
 ex:=[]
 calm:=Ã
 fn:=λ_=>Ã
 pn:=[]
 xe:=λe h=>Ù Æc (ŉb ſi) (leaving ſi e) (λ_ c=>g ā H s E e c) (λi c=>g ā H s E i c) h
def cF{a:ča}{n:Nat}{x:Str}(h:öc x=À .cell):∃c,(ĩk n öl []).lookup x=À c:=by have q:=Õp öl n [] įf;exact ún q
def z61{R:gT}{P:å}{w:ß}{K:Í}{J:Str->Æ Value}{l:Heap}{N ps:Á Str}{g:Str}{d:ča}{f:É}{I:Value}{A:ø}{ā:Á Env}{s O:Ë}{H:Hp}{E:XK}{us:Á Value}{vs:Á V}(S:zj N ps d)(X:Ìc=Ä)(m:WB P w K J l A ā s H)(Z:Ā=ù)(r:zm vs us)(x:InCallC s Û (Æd (ųo).kindOf Śc λ_=>Ä) (ĩk īa d.names []) (Çd (ųo).kindOf Śc λ_=>Ä) O) :zI Ņm [] ýd H O:=by
 have U:ù<=Éa:=by have:=Ëa Öe S.pre;rw[ìa]at this;omega
 obtain⟨F,tk,rfl,L⟩:=x.done;have t:∀b:É,b ∉ (Ņm).ex:=λb z=>Ú (show b∈([]:Á É)from z) ã
 refine⟨⟨m.mod,S.kind,rfl,rfl,Øa _,λy z c F j=>?_,λy o=>?_,λy c _ h=>?_,λ_=>X,Around.frames_deeper m.frames,.inr ⟨rfl,rfl⟩,λb z=>Ú z (t b),m.bs,m.kO,λb _ _=>t b,λb z=>Ú z (t b),m.j2,m.YV⟩,
  rfl,m.bare,ķf L,⟨_,x.toInCall.ns,λi y v F j h3=>?_⟩,λy c h=>⟨_,x.cell y c h⟩,ďr Ē,λy c h=>?_,λp B=>Ú (show p∈([]:Á é)from B) ã,m.zh.kept L,?_⟩
 exact name_of_addr x.apart (Òg F) (Òg j);have o:ąj y=À .cell\/ąj y=À .free:=o;rcases o with o|o;exact cF o;exact Ú rfl (S.rq _ (Òg o));exact õa Žn;have G:i<Ā:=by
  unfold Ŷh at j;by_cases G:i<Ā;exact G;rw[ŭb Ŏo]at j;rw[ņn]at j
  split at j<;>cases j
 have T:vs[i]?=À v:=by
  unfold Ŷh at j;rw[ıb Ŏo,ş]at j;cases e:vs[i]? with
  |Ä=>rw[e]at j;cases j|À a=>rw[e]at j;cases j<;>rfl
 obtain⟨u,Q,Y⟩:=Ĩb T
 have B:ps[i]?=À y:=by rw[<-S.pre,List.getElem?_take_of_lt Å];exact F
 have C:ps.Nodup:=by rw[<-S.pre];exact S.nd.sublist őn
 refine⟨u,Y,?_⟩;rcases S.par y (Ľc B)with k|k;exact .inl ⟨k,bp C B Q k⟩;obtain⟨c,e⟩:=cF (n:=Û+1) k;refine .inr ⟨.inl k,c,e,?_⟩;have q:=x.cell y c e;rw[bn C B Q (by show ąj y≠_;rw[k];decide)]at q;exact q;exact ďr (õa Žn);unfold Ŷh;show _=Éa;rw[í,ä,ļc];omega
def d9{L:gT}{P:å}{w:ß}{K:Í}{G:Str->Æ Value}{h:Heap}{k:Nat}{f:É}{Ľ c:Str}{g:Ês}{i:Á Õ}{a:ča}{dV kV z Z d ct oc:Value}{an od:Æ É}{T:Ø ųa}{N ps:Á Str}{sp:Sp}(lk:Ź f=À ⟨oc,od,.func ňm,T⟩)(O:Řb K d c=Ã)(S:zj N ps a)(p:∀vs H Q E,sp vs H Q E->Ā=ù)(l:∀(A:ø)(ā:Á Env)(s:Ë)(H:Hp)(vs:Á V)(Q:VK)(E:XK),yl k (ŉb (Ėb c a Û f d))->sp vs H Q E->
   ∃t,tD ìi i t/\t { nx:=λ_ H'=>Q .zE H',rt:=Q } ýd H) :
  xH P w K G h L Ņ f ňm ps sp:=by
 refine⟨p,λA ā s H Óa us vs Q E X C hb r F=>?_⟩;have hl:=p _ _ _ _ F;have KX:Ŕ Ý:=C.mod.W5.keeps λb o e=>ŕq.1
 have R:s.heap.NoLimit:=C.mod.nolimit.keeps λb o e=>ŕq.1
 have j:∀y∈ps.zip us,öc y.1=À .local\/(öc y.1=À .cell/\((ĩk īa öl []).lookup y.1).isSome=Ã):=λ⟨n,v⟩ hy=>by rcases S.par n (éj hy).1 with q|q;exact .inl q;exact .inr ⟨q,Õp _ _ _ (.inl q)⟩
 refine codeAny_call_function X.depth (KX _ _ lk) rfl S.co S.gen rfl (W.codeRec_of KX O) (hb _ _ _ _ ?_);refine wpAny_newFunctionEnv_cells S.kind j λenv he s1 x=>?_
 subst he;refine⟨R.keeps x.toInCall.keep,codeAny_func ?_⟩;obtain⟨t,ht,hq⟩:=l A ā s H vs Q E (X.deeper _) F;have I:zI ìi [] ýd H s1:=z61 S X.hd C hl r x;refine ĝa (ht [] s1 ýd H _ I hq) (λfl U m=>?_) λe U m=>m
 have B:∀{σ':St}{H':Hp}{v:V}{u:Value},zI ìi [] σ' H' U->zr v u->Q v H'->CE ā P w H s Q u U:=
  λ{σ' H' v u} J Y q=>⟨v,H',J.os,J.bare,J.base,J.zh,Y,q⟩
 cases fl with
 |ret u=>
  obtain⟨v,σ',H',J,Y,q⟩:=m;exact B J Y q
 |next=>
  obtain⟨σ',H',J,q⟩:=m;exact B (v:=V.zE) (u:=Áe) J rfl q
 |brk=>
  obtain⟨_,_,_,q⟩:=m;exact Ħa q
 |èc=>
  obtain⟨_,_,_,q⟩:=m;exact Ħa q
section
variable{X:Cx}{x:Str}{p pos:Pos}{e:Ñ}{es:Á Ñ}{t:TA}{id T:Ïa}{r:Á V->Hp->VK->Prop}
noncomputable def B9(r:Á V->Hp->VK->Prop)(t:TA):TE:=λσ H Q=>t σ H λa b=>r a b Q
def y4c(q:vY X ûc r)(n:Gl X x)(g:ð x=Ä)(hv:ť x=À ûc)(l:PA X ğ t)(k:Ê ĺb q10)(a:Ê Ļ q10)(j:Ê Ðd q12)(b:Ê ((Ůd).any (·.1)=Â) q12):PE X ýb Ėh:=by intro c s σ H Q I h;refine łe åo;exact PyProof.Rows.callWith_builtin1 Ám j b
def y4e(q:vY X čc r)(n:Gl X x)(g:ð x=Ä)(hv:ť x=À čc)(l:PA X ğ t)(k:Ê ĺb q10)(a:Ê Ļ q10)(j:Ê Ðd q12)(b:Ê ((Ůd).any (·.1)=Â) q12):PE X ýb Ėh:=by intro c s σ H Q I h;refine łe åo;exact Çg Ám j b
#print a
#print L2
namespace HT
open Ħ ī
section
variable{Ĝ:å}{w:ß}{A:ø}{E:Value->Ë->Prop}{s:Ë}
def cat_tup{t b:É}{vs ws:Á Value}{Q:Value->Ë->Prop}(u:Īb Ý t őa)(v:Īb Ý b Ųg)(hv:vs≠[])(q:ws=[]->Q ûf s)(r:ws≠[]->Q ĉc { s with ç:=Ūa { cls:=.type Ŧ,Ć:=.seq (vs++ws).toArray } })(hsz:Ā+đb<=á):Ù è A (Ôb .Add ûf (.ref b)) Q E s:=by
 obtain⟨⟨cls,l,Ć,k⟩,h,p,n,o⟩:=id u;obtain⟨⟨m,f,i,g⟩,a,c,j,d⟩:=id v;simp only at p o c d;subst p o c d;have e:őa++Ųg=(vs++ws).toArray:=by simp
 by_cases hw:ws=[];exact Ŗj ⟨_,h,rfl⟩ ⟨_,a,rfl⟩ Ñp Âq ŕn łn Ön
  (tuple_addW1 t b őa Ųg n j l f k g ţi (by simp[hw])) ⟨h,a,q hw⟩
 refine Ŗj ⟨_,h,rfl⟩ ⟨_,a,rfl⟩ Ñp Âq ŕn łn Ön
  (tuple_addW2 t b őa Ųg n j l f k g ţi (by simpa using hw) (by rw[ģ,ģ];exact hsz)) ⟨h,a,?_⟩
 rw[e];exact r hw
noncomputable def sIx(n d:Nat):Æ Int->Nat
 |Ä=>d|À v=>if v<0 then(v+(n:Int)).toNat else min v.toNat n
def sIx_nat(n d k:Nat):sIx n d (À (k:Int))=min k n:=by show(if(k:Int)<0 then((k:Int)+(n:Int)).toNat else min (k:Int).toNat n)=min k n;rw[Ð Å,Ň]
theorem ņf(n d:Nat)(a:d<=n)(o:Æ Int):sIx n d o<=n:=by
 cases o with
 |Ä=>exact a|À v=>show ûm<=n;by_cases hv:v<0;rw[Ï hv];omega;rw[Ð hv];exact èi _ _
def cG(v:Int)(n d:Nat):òm=((sIx n d æa:Nat):Int):=by show òm=((ûm:Nat):Int);by_cases hv:v<0;simp only[Ï hv];exact(Öj _).symm;simp only[Ð hv];obtain⟨k,rfl⟩:=ůb (çd hv);rcases ňg k n with h|h;rw[Ň,Îb h,Ųe (ói h)];rw[Ň,đg h,Øj (ói h)]
theorem sR(lo hi:Æ Int)(n:Nat):ği lo hi 1 (n:Int)=(((sIx n 0 lo:Nat):Int),((sIx n n hi:Nat):Int)):=by
 have a:¬ ((1:Int)<0):=by omega
 unfold ği;simp only[a,ða];refine Prod.ext ?_ ?_;cases lo with
 |Ä=>rfl|À v=>exact cG v n 0
 cases hi with
 |Ä=>rfl|À v=>exact cG v n n
def y5h(i j:Nat):Ïg (i:Int) (j:Int) 1=j-i:=by
 unfold Ïg;have a:(1:Int)>0:=by omega
 simp only[a,ś,Āc]
 split<;>omega
def mi{v:Value}{o:Æ Int}{Q:Æ Int->Ë->Prop}(p:Ťb v o)(h:Q o s):Ù è A (Builtin.Slice.slicePartIndex v) Q E s:=by
 cases p with
 |Ä=>exact ľp h|int i t=>exact slicePart_int h
def mh{e:É}{d c:Value}{lo hi:Æ Int}{n:Nat}{Q:Int×Int×Nat->Ë->Prop}(f:ďg e d c .none)(pl:Ťb d lo)(i:Ťb c hi)(h:Q (((sIx n 0 lo:Nat):Int),1,sIx n n hi-sIx n 0 lo) s):Ù è A (Đn ęh (pure (n:Int))) Q E s:=by obtain⟨j,b,g,a⟩:=id f;unfold Đn Builtin.Slice.sliceFields;refine Ò (Ò (Ĳb b a (x:=d) rfl (Ò (Ĳb b a (x:=c) rfl (Ò (Ĳb b a (x:=.none) rfl Ŋb))))));refine Ò (ľp ?_);show Ù _ _ (εb ((1:Int)==0)) _ _ s;rw[Ð È];refine Ò (mi pl (Ò (mi i (Ò Ŋb))));show Ù _ _ (match ği lo hi 1 (n:Int)with|(lo,hi)=>pure (lo,(1:Int),Ïg lo hi 1)) _ _ s;rw[sR lo hi n];show Ù _ _ (pure (((sIx n 0 lo:Nat):Int),(1:Int),Ïg ((sIx n 0 lo:Nat):Int) ((sIx n n hi:Nat):Int) 1)) _ _ s;rw[y5h];exact ĝ h
def y5b(xs:Ø Value)(i k:Nat):((Ēa k).filterMap λ(m:Nat)=>xs[(Ŧi).toNat]?).toArray=((xs.toList.drop i).take k).toArray:=by
 have e:(λ(m:Nat)=>xs[(Ŧi).toNat]?)=λm=>xs[i+m]?:=by
  funext m
  have:(Ŧi).toNat=i+m:=by omega
  rw[this]
 rw[e];have:=Ŵk xs i k;rw[List.filterMap_map]at this;have e2:((λx=>xs[x]?)∘λx=>i+x)=λm=>xs[i+m]?:=rfl
 rw[e2]at this;rw[this]
theorem getItem_tuple_cut{t d:É}{zF:Ø Value}{k j:Value}{lo hi:Æ Int}{Q:Value->Ë->Prop}(b:Īb Ý t zF)(i:ďg d k j .none)(pl:Ťb k lo)(n:Ťb j hi)(o:¬ (sIx ĳ 0 lo=0/\sIx ĳ ĳ hi=ĳ))(h:Q ĉc { s with ç:=Ūa { cls:=.type Ŧ,Ć:=.seq (Ói).toArray } })(hsz:ĳ<=á):Ù è A ĵo Q E s:=by
 have a:sizeOk (.seq (Ói).toArray):=by show(Ói).toArray.size<=á;rw[ģ,ìa,Ąb,Ŭ];exact Ğ ÿf (Ğ Źb hsz)
 have r:sIx ĳ ĳ hi<=ĳ:=ņf _ _ Ē hi;obtain⟨v,f,c,p⟩:=id i;have g:Ŕb (.ref d) Ĳf:=⟨v,f,c⟩;unfold øe
 try with_reducible refine ÿb ?_
 first|refine Ò Ŋb|skip
 refine Ò Ţm
 refine Ò (Ŏd (Ľ:=úd Ĥj) Ĝf źm
  űl)
 show Ù _ _ Ģm _ _ s;refine Ò Þo;refine Ò (Ŭd g ?_);rw[Ï È];refine Ò (mh i pl n ?_)
 have e:¬ (Ìi=Ã):=by intro q;rw[ĉ,ĉ]at q;have u:((sIx ĳ 0 lo:Nat):Int)=0:=Ĩk q.1.1;have l:sIx ĳ ĳ hi-sIx ĳ 0 lo=ĳ:=Ĩk q.2;exact o ⟨Int.ofNat_eq_zero.mp u,ðd r (Ğ (Àc l.symm) Źb)⟩
 show Ù _ _ ĕn _ _ s;rw[Ð e,y5b]
 first
  |exact Ò (m:=Øg _) Ýr
  |exact Ò (m:=Øg _) (Ùd (Ò ýs) a)
  |exact Ò (Ò (m:=Øg _) (Ùd ýs a))
  |exact Ò (Ò (m:=Øg _) Ýr)
#print a
#print HT
namespace L2
open Ħ Ķ ī
abbrev TO:=St->Hp->(Æ Int->Hp->Prop)->Prop
def PO(X:Cx)(e:Æ Ñ)(t:TO):Prop:=
 ∀(z8:Á é) (s:Ë) (σ:St) (H:Hp) (Q:Æ Int->Hp->Prop),zI X z8 σ H s->t σ H Q->
  Ù ý X.A (evalPart e Ô) (λu a=>∃o H',zI X z8 σ H' a/\Ťb u o/\Q o H') ĩ s
noncomputable def x0p:TO:=λ_ H Q=>Q Ä H
noncomputable def x0u(t:TE):TO:=λσ H Q=>t σ H λx a=>∃i,x=.int i/\Q (À i) a
section
variable{X:Cx}{e:Ñ}{te:TE}{lo hi:Æ Ñ}{tl th:TO}{pos p2:Pos}
def y5j:PO X Ä x0p:=by intro a s σ H Q I h;rw[Èq];exact ĝ ⟨Ä,H,I,.none,h⟩
def y5k(h:PE X e te):PO X (À e) (x0u te):=by
 intro b s σ H Q I d;rw[evalPart_some];refine zn (h b s σ H _ I d) λu j ⟨x,a,c,g,f⟩=>?_
 obtain⟨i,rfl,q⟩:=f;obtain⟨t,rfl⟩:=g;exact⟨À i,a,c,.int i t,q⟩
def kZ(X:Cx)(r:V->Æ Int->Æ Int->Hp->VK->Prop):Prop:=
 ∀(z8:Á é) (s:Ë) (σ:St) (H:Hp) (x:V) (v vl vu:Value) (lo hi:Æ Int) (sl:É) (Q:VK),zI X z8 σ H s->zr x v->ďg sl vl vu .none->Ťb vl lo->Ťb vu hi->r x lo hi H Q->
  ∃T id,äk čc Ĥj=pure (À ûc)/\Ŕb v T/\Ù ý X.A (øe v (.ref sl)) Žb ĩ s
def kZ.or{r e:V->Æ Int->Æ Int->Hp->VK->Prop}(h:kZ X r)(h':kZ X e):kZ X (λx lo hi H Q=>r x lo hi H Q\/e x lo hi H Q):=by intro d s σ H x v j g lo hi b Q I f a i c q;rcases q with q|q;exact h d s σ H x v j g lo hi b Q I f a i c q;exact h' d s σ H x v j g lo hi b Q I f a i c q
noncomputable def x0z(r:V->Æ Int->Æ Int->Hp->VK->Prop)(te:TE)(tl th:TO):TE:=λσ H Q=>te σ H λx c=>tl σ c λl a=>th σ a λu b=>r x l u b Q
def iH{r:V->Æ Int->Æ Int->Hp->VK->Prop}(G:kZ X r)(E:PE X e te)(y:PO X lo tl)(F:PO X hi th):PE X (.Subscript e Či pos) (x0z r te tl th):=by
 intro c s σ H Q I h;refine ėr (zn (E c s σ H _ I h) λv C ⟨x,J,K,P,O⟩=>?_);refine wpAny_Slice (zn (y c C σ J _ K O) λd z ⟨l,N,t,p,i⟩=>zn (F c z σ N _ t i) λf a ⟨u,g,k,m,B⟩=>?_);rw[Èq];refine ĝ ?_;have n:zI X c σ g { a with ç:=Òf { cls:=.type Ĳf,Ć:=.fields #[d,f,.none] } }:=k.kept (t':=Ōf) λb R q=>Ī _ q
 obtain⟨T,S,j,L,o⟩:=G c { a with ç:=Òf { cls:=.type Ĳf,Ć:=.fields #[d,f,.none] } } σ g x v d f l u ĵa Q n P (Heap.IsSliceOf.new ..) p m B;show Ù ý X.A (Áq e Či v ŝr) āq ĩ { a with ç:=Òf { cls:=.type Ĳf,Ć:=.fields #[d,f,.none] } };exact tail_any (ops:=[.ref ĵa,v]) L j o ĵc
def Yy(xs:Á V)(lo hi:Æ Int):Á V:=(Ķn).take Þn
def cL(xs:Á V)(lo hi:Æ Int):(ùq).length<=à:=by unfold Yy;rw[ìa,Ąb];exact Ğ ÿf Źb
def lM(K:Í):V->Æ Int->Æ Int->Hp->VK->Prop:=λx lo hi H Q=>∃a xs,x=.ref a/\xF K H a xs/\
 ¬ (ĸ à 0 lo=0/\ĸ à à hi=à)/\∀p,H p=Ä->Q Êa (γ (.tup ùq))
def y9h:kZ X (lM X.K):=by
 intro u s σ H x v y w lo hi p Q I k i m j h;obtain⟨a,d,rfl,n,l,q⟩:=h;cases k;obtain⟨e,r,f,g⟩:=Ýa n;have c:e.toArray.size=åa:=by rw[ģ];exact Åq
 refine⟨Ŧ,_,Ŀm,Żk,?_⟩;refine HT.getItem_tuple_cut f i m j (by rw[c];exact l) ?_ (by rw[c];exact g);rw[c];refine⟨.ref Û,_,ġb (t':=đ) (o:=.tup (Yy d lo hi)) (λb t q=>Ī _ q) Ē ?_,rfl,q _ êe⟩;exact⟨Ğ (cL d lo hi) g,_,(ĭl (ĸ åa 0 lo)).take (ĸ åa åa hi-ĸ åa 0 lo),Ĵk _ _⟩
def lB(K:Í):R2:=λx y H Q=>∃a b xs ys,x=.ref a/\y=.ref b/\xF K H a xs/\xF K H b ys/\xs≠[]/\à+ãa<=á/\
 (ys=[]->Q Ś H)/\(ys≠[]->∀p,H p=Ä->Q Êa (γ (.tup Çl)))
def zm.DG{xs:Á V}{us:Á Value}(r:zm xs us):us=[]↔xs=[]:=by
 cases r with
 |nil=>simp|Ĉ _ _=>simp
def y3o:yk X áe (lB X.K):=by intro C s σ H x y v u Q I p n h;obtain⟨a,b,k,m,rfl,rfl,i,t,r,f,A,g⟩:=h;cases p;cases n;obtain⟨j,d,l,_⟩:=Ýa i;obtain⟨e,c,p2,_⟩:=Ýa t;refine HT.cat_tup l p2 (λz=>r (d.DG.mp z)) (λz=>⟨.ref a,H,I,rfl,A (c.DG.mp z)⟩) (λz=>?_) (by rw[<-åa,<-Ŗb];exact f);refine⟨.ref Û,_,ġb (t':=đ) (o:=.tup (k++m)) (λb B q=>Ī _ q) Ē ?_,rfl,g (λw=>z (c.DG.mpr w)) _ êe⟩;exact⟨by rw[í];exact f,_,d.append c,Ĵk _ _⟩
#print a
noncomputable def ixN(n:Nat)(i:Int):Æ Nat:=if 0<=i then(if i<n then À ĝc else Ä)else if -(n:Int)<=i then À (i+n).toNat else Ä
def jp{α:Type}(xs:Á α)(i:Int):Æ α:=(ixN à i).bind λj=>xs[j]?
def eM{n:Nat}{i:Int}{j:Nat}(h:ixN n i=À j):seqIndex? i n=À j/\j<n /\ -(n:Int)<=i/\i<n:=by unfold ixN at h;by_cases h0:0<=i;rw[Ï h0]at h;by_cases h1:i<n;rw[Ï h1]at h;have e:ĝc=j:=ĸa h;exact⟨by rw[Źj h0 h1,e],by omega,by omega,h1⟩;rw[Ð h1]at h;cases h;rw[Ð h0]at h;by_cases h1 : -(n:Int)<=i;rw[Ï h1]at h;have e:(i+n).toNat=j:=ĸa h;exact⟨by rw[őj Å h1,e],by omega,h1,by omega⟩;rw[Ð h1]at h;cases h
def F2{α:Type}{xs:Á α}{i:Int}{v:α}(h:jp xs i=À v):∃j,seqIndex? i à=À j/\xs[j]?=À v/\j<à /\ -(à:Int)<=i/\i<à:=by
 unfold jp at h;cases e:ixN à i with
 |Ä=>rw[e]at h;cases h|À j=>rw[e]at h;obtain⟨d,c,b,a⟩:=eM e;exact⟨j,d,h,c,b,a⟩
def bI(b:Ñ):Prop:=∀o i,ūq b Â o i=operate [o,i] (øe o i)
def pJ(X:Cx)(r:R2):Prop:=
 ∀(ħb slice:Ñ)(z8:Á é) (s:Ë) (σ:St) (H:Hp) (x y:V) (v u:Value) (Q:VK),zI X z8 σ H s->zr x v->zr y u->r x y H Q->
  ūq slice Â v u=operate [v,u] (øe v u)->Ù ý X.A (Áq ħb slice v u) Žb ĩ s
def Dv(X:Cx)(a:Ïa)(r:V->Á V->Hp->VK->Prop):Prop:=
 ∀(z8:Á é) (s:Ë) (σ:St) (H:Hp) (x:V) (xs:Á V) (v:Value) (us:Á Value) (Q:VK),zI X z8 σ H s->zr x v->zm xs us->r x xs H Q->
  Ù ý X.A ćn Žb ĩ s
section
variable{X:Cx}{a b:Ñ}{ta tb:TE}{pos:Pos}
def pJ.or{r g:R2}(h:pJ X r)(h':pJ X g):pJ X (λx y H Q=>r x y H Q\/g x y H Q):=by intro a b f s σ H x y v u Q I d c q e;rcases q with q|q;exact h a b f s σ H x y v u Q I d c q e;exact h' a b f s σ H x y v u Q I d c q e
def Hu{r:R2}(e:pJ X r)(f:PE X a ta)(l:PE X b tb)(d:bI b):PE X êo Ŗg:=by intro g s σ H Q I h;exact ėr (Cc f l I h λv u c x y m k j i q=>e a b g c σ m x y v u Q k j i q (d _ _))
def lE(K:Í):R2:=λx y H Q=>∃p xs i v,x=.ref p/\y=.int i/\yf K H p xs/\jp xs i=À v/\Q v H
def lG(K:Í):R2:=λx y H Q=>∃p xs i v,x=.ref p/\y=.int i/\xF K H p xs/\jp xs i=À v/\Q v H
def lF:R2:=λx y H Q=>∃z i c,x=.str z/\y=.int i/\Ŏ<=á/\jp Íj i=À c/\Q Ëj H
def z6b:pJ X (lE X.K):=by
 intro f c n s σ H x y v u Q I L J h l;obtain⟨p,N,i,z,rfl,rfl,C,G,q⟩:=h;cases L;obtain⟨t,rfl⟩:=J;obtain⟨d,r,e,R⟩:=ž C;obtain⟨j,b,o,P,F,B⟩:=F2 G;obtain⟨w,m,g⟩:=Ĩb o;have E:=Ûa;have O:=Ut;have a:EP X n σ Q w s:=⟨z,H,I,g,q⟩;by_cases h0:0<=i;have k:ĝc=j:=by rw[Źj h0 B]at b;exact ĸa b
 exact item_listR Ěf h0 Å ĺn a l;have k:(i+(ħg:Int)).toNat=j:=by rw[őj Å F]at b;rw[ģ,<-E];exact ĸa b
 exact Ĵe (x:=w) e.isList.typeIs Īn
  (wpAny_getItem_list_neg (Q:=λr A=>r=w/\EP X n σ Q r A) Ěf Å âo Å ĺn ⟨rfl,a⟩) l
def z6e:pJ X (lG X.K):=by
 intro c a f s σ H x y v u Q I F E h g;obtain⟨p,J,i,z,rfl,rfl,A,C,q⟩:=h;cases F;obtain⟨t,rfl⟩:=E;obtain⟨o,r,e,P⟩:=Ýa A;obtain⟨j,k,m,O,L,G⟩:=F2 C;obtain⟨w,l,d⟩:=Ĩb m;have B:=Ûa;have N:=Ut;have b:EP X f σ Q w s:=⟨z,H,I,d,q⟩
 exact Ĵe (x:=w) e.typeIs slot_tuple_getitem.lookup
  (getItem_tuple (j:=j) (Q:=λr n=>r=w/\EP X f σ Q r n) e Å Å (by rw[ģ,<-B];exact k) (by simpa using l) ⟨rfl,b⟩) g
def z6d:pJ X lF:=by
 intro b a A s σ H x y v u Q I o n h e;obtain⟨z,i,c,rfl,rfl,B,m,q⟩:=h;obtain⟨t,rfl⟩:=o;obtain⟨r,rfl⟩:=n;obtain⟨j,d,f,w,l,g⟩:=F2 m;have k:óo=Ŏ:=by simp[ðk]
 rw[k]at d l g;have p:=Ut
 exact tail_any (åk s z t) slot_str_getitem.lookup (getItem_str (c:=c) (by have e1:decide (i < -(2 ^ 63:Int))=Â:=ă Å;have e2:decide (i≥2 ^ 63)=Â:=ă Å;rw[e1,e2,Ĭj]) (by rw[d];simpa using f) ⟨.str ⟨#[c]⟩,H,Ña _,⟨_,rfl⟩,q⟩) e
def KP(K:Í):R2:=λx y H Q=>lE K x y H Q\/lG K x y H Q\/lF x y H Q
def z6c:pJ X (KP X.K):=z6b.or (z6e.or z6d)
def z7z(its:Á Value)(n j:Nat)(u:Value):Þe (·.setIfInBounds j u) { cls:=.type Ġ,Ć:=.seq âa n }={ cls:=.type Ġ,Ć:=.seq (its.set j u).toArray n }:=by simp[Þe]
theorem zI.lst{a:Á é}{σ:St}{H:Hp}{s:Ë}{p:É}{xs:Á V}(I:zI X a σ H s)(h:H p=À öa) :∃(its:Á Value) (n:Nat),zm xs its/\Ą p=À { cls:=.type Ġ,Ć:=.seq âa n }/\à<=á:=by obtain⟨z,its,n,r,e⟩:=Ĕ p _ h;exact⟨its,n,r,e,z⟩
def zI.rh{g:Á é}{σ:St}{H:Hp}{s:Ë}{p:É}{xs c:Á V}{its õb:Á Value}{n a:Nat}{f:Obj->Obj}(I:zI X g σ H s)(h:H p=À öa)(j:Ą p=À { cls:=.type Ġ,Ć:=.seq âa n })(d:f { cls:=.type Ġ,Ć:=.seq âa n }={ cls:=.type Ġ,Ć:=.seq Ŕj a })(r:zm c õb)(hz:Ŗb<=á)(t:Nat) :zI X g σ (γ (.lst c)) { s with ç:=ſe p f,Ė:=t }:=by
 have e:(ſe p f).get? p=À { cls:=.type Ġ,Ć:=.seq Ŕj a }:=by rw[êg f j (by rw[d]<;>rfl),d]
 refine įh (x:=p) (e:=p) (by rw[h];trivial) Ĺ (λb u i q=>(ĵe _ _ (Ñc i)).trans q) ⟨_,e⟩ ?_;exact⟨hz,õb,a,r,e⟩
def y6k:V->V->V->Hp->Ŏr->Prop:=λo i v H Q=>∃p xs k j,o=.ref p/\i=.int k/\H p=À öa/\ixN à k=À j/\Q (Νc (xs.set j v))
def mT:Dx X y6k:=by
 intro y s σ H o i v G E u Q I B w C h;obtain⟨p,x,k,j,rfl,rfl,g,z,q⟩:=h;cases B;obtain⟨t,rfl⟩:=w;obtain⟨a,n,r,d,A⟩:=I.lst g;obtain⟨b,F,m,l⟩:=eM z;have e:=Ûa;have J:=Ut
 have f:zI X y σ (Νc (x.set j v)) { s with ç:=ſe p (Þe (·.setIfInBounds j u)) }:=
  I.rh g d (z7z a n j u) (r.set C j) (by rw[Ŋa];exact A) đ
 by_cases h0:0<=k;have c:Ũ=j:=by rw[Źj h0 l]at b;exact ĸa b
 exact W.ki_setAt d h0 Å (by rw[ģ,<-e];exact l) Ĉn;have c:(k+(Ňc:Int)).toNat=j:=by rw[őj Å m]at b;rw[ģ,<-e];exact ĸa b
 exact W.ki_setBack d Å (by rw[ģ,<-e];exact m) Å Ĉn
def y9k(lo hi:Æ Int)(n:Nat):ži.1=((ĸ n 0 lo:Nat):Int)/\ži.2.1=((ĸ n n hi:Nat):Int)/\ži.2.2=1:=by
 refine⟨?_,?_,rfl⟩;cases lo with
 |Ä=>simp[ŭe,ĸ]|À i=>simp only[ŭe,ĸ,Öp,show(1:Int)>0 by decide,ś];by_cases h:i<0;simp only[h,ś];rw[Ųe Âm,ěq,<-Öj];simp only[h,ða];obtain⟨k,rfl⟩:=ůb (çd h);rcases ňg k n with q|q;rw[Ň,Îb q,Ųe ĵh];exact ēg Ļh;rw[Ň,đg q,Øj ĵh];exact ēg Ďl
 cases hi with
 |Ä=>simp[ŭe,ĸ]|À i=>simp only[ŭe,ĸ,Öp,show(1:Int)>0 by decide,ś];by_cases h:i<0;simp only[h,ś];rw[Ųe Âm,ěq,<-Öj];simp only[h,ða];obtain⟨k,rfl⟩:=ůb (çd h);rcases ňg k n with q|q;rw[Ň,Îb q,Ųe ĵh];exact ēg Ļh;rw[Ň,đg q,Øj ĵh];exact ēg Ďl
def y9j(its:Á Value)(lo hi:Æ Int):ŭr âa lo hi Ä=((its.drop (ĸ ŋb 0 lo)).take (ĸ ŋb ŋb hi-ĸ ŋb 0 lo)).toArray:=by obtain⟨c,b,a⟩:=y9k lo hi its.toArray.size;unfold ŭr;rw[c,b,a];simp only[Ľp,Ŵk,ģ]<;>rfl
def lK(K:Í):V->Æ Int->Æ Int->Hp->VK->Prop:=λx b c H Q=>∃a xs,x=.ref a/\yf K H a xs/\∀p,H p=Ä->Q Êa (Νc (Yy xs b c))
def y9f:kZ X (lK X.K):=by intro w s σ H x v z y e f t Q I l i m j h;obtain⟨a,c,rfl,n,q⟩:=h;cases l;obtain⟨k,r,g,p⟩:=ž n;have d:=Ûa;refine⟨Ġ,_,Īn,g.isList.typeIs,?_⟩;refine wpAny_getItem_list_slice g.isList i m j .none ã ?_ âo;rw[y9j,<-d];refine⟨.ref Û,_,ġb (t':=đ) (o:=.lst (Yy c e f)) Ūi Ē ?_,rfl,q _ êe⟩;exact⟨Ğ (cL c e f) p,_,0,(ĭl (ĸ Ŗb 0 e)).take (ĸ Ŗb Ŗb f-ĸ Ŗb 0 e),ū _ rfl⟩
noncomputable def jF:V->Ì
 |.zE=>Ã|.bl _=>Ã|.int _=>Ã|.str _=>Ã|_=>Â
noncomputable def qm:V->V->Ì
 |.zE,.zE=>Ã|.bl a,.bl b=>a==b|.bl a,.int b=>ào==b|.int a,.bl b=>a==õg|.int a,.int b=>a==b|.str a,.str b=>a==b|_,_=>Â
def cj{A:ø}{s:Ë}{y x:V}{u v:Value}(e:zr y u)(c:zr x v)(g:jF y=Ã)(f:jF x=Ã):Éc A s u v (qm y x):=by
 cases y with
 |zE=>
  cases e;cases x with
  |zE=>cases c;exact Ńi _|bl b=>cases c;exact SeqAt.EqAt.none_bool b|int b=>obtain⟨t,rfl⟩:=c;exact SeqAt.EqAt.none_int b t
  |str b=>obtain⟨t,rfl⟩:=c;exact SeqAt.EqAt.none_str b t
  |_=>exact Ú (show Â=Ã from f) ō
 |bl a=>
  cases e;cases x with
  |zE=>cases c;exact SeqAt.EqAt.bool_none a|bl b=>cases c;exact SeqAt.EqAt.bool_bool a b|int b=>obtain⟨t,rfl⟩:=c;exact SeqAt.EqAt.bool_int a b t
  |str b=>obtain⟨t,rfl⟩:=c;exact SeqAt.EqAt.bool_str a b t
  |_=>exact Ú (show Â=Ã from f) ō
 |int a=>
  obtain⟨d,rfl⟩:=e;cases x with
  |zE=>cases c;exact SeqAt.EqAt.int_none a d|bl b=>cases c;exact SeqAt.EqAt.int_bool a d b|int b=>obtain⟨t,rfl⟩:=c;exact SeqAt.EqAt.int_int a d b t
  |str b=>obtain⟨t,rfl⟩:=c;exact īo a d b t
  |_=>exact Ú (show Â=Ã from f) ō
 |str a=>
  obtain⟨d,rfl⟩:=e;cases x with
  |zE=>cases c;exact SeqAt.EqAt.str_none a d|bl b=>cases c;exact SeqAt.EqAt.str_bool a d b|int b=>obtain⟨t,rfl⟩:=c;exact ĩo a d b t
  |str b=>obtain⟨t,rfl⟩:=c;exact SeqAt.EqAt.str_str a d b t
  |_=>exact Ú (show Â=Ã from f) ō
 |_=>exact Ú (show Â=Ã from g) ō
def tj(x:V)(u:Value):Ì:=match u with
 |.none=>qm .zE x|.bool b=>qm ģc x|.int i _=>qm üa x|.str z _=>qm (.str z) x|_=>Â
def E7{x y:V}{u:Value}(r:zr y u)(f:jF y=Ã):tj x u=qm y x:=by
 cases y with
 |zE=>cases r;rfl|bl b=>cases r;rfl|int i=>obtain⟨t,rfl⟩:=r;rfl
 |str z=>obtain⟨t,rfl⟩:=r;rfl
 |_=>exact Ú (show Â=Ã from f) ō
theorem J5{x:V}:∀{xs:Á V}{us:Á Value},zm xs us->Īd jF=Ã->us.any éb=xs.any λy=>qm y x
 |_,_,.nil,_=>rfl|y::xs,u::us,.cons r t,f=>by rw[Àa,ĉ]at f;rw[Çe,Çe,E7 r f.1,J5 t f.2]
theorem Uv{A:ø}{s:Ë}{x:V}{v:Value}(c:zr x v)(b:jF x=Ã):∀{xs:Á V}{us:Á Value},zm xs us->Īd jF=Ã->∀u∈us,Éc A s u v (tj x u)
 |_,_,.nil,_=>λu a=>by cases a|y::xs,u::us,.cons r t,f=>λd a=>by rw[Àa,ĉ]at f;rcases ľ a with rfl|a;rw[E7 r f.1];exact cj r c f.1 b;exact Uv c b t f.2 d a
def Lw(x:V)(xs:Á V):Ì:=xs.any λy=>qm y x
def KN(K:Í)(a:Ì):R2:=λx y H Q=>∃p xs,y=.ref p/\(yf K H p xs\/xF K H p xs)/\jF x=Ã/\Īd jF=Ã/\Q (.bl (if a then !Lw x xs else Lw x xs)) H
def y3r:yk X Ąf (KN X.K Â):=by intro k s σ H x y v u Q I g i h;obtain⟨p,l,rfl,b,f,c,q⟩:=h;cases i;rcases b with b|b;obtain⟨a,r,e,j⟩:=ž b;refine SeqAt.in_listAt éb Ěf Ųf ⟨.bl _,H,I,rfl,?_⟩;rw[show ĺg éb=žh éb by simp,J5 r c];exact q;obtain⟨a,r,e,j⟩:=Ýa b;refine SeqAt.in_tupleAt éb e Ųf ⟨.bl _,H,I,rfl,?_⟩;rw[show ĺg éb=žh éb by simp,J5 r c];exact q
def y3x:yk X Ōg (KN X.K Ã):=by intro k s σ H x y v u Q I g i h;obtain⟨p,l,rfl,b,f,c,q⟩:=h;cases i;rcases b with b|b;obtain⟨a,r,e,j⟩:=ž b;refine SeqAt.notIn_listAt éb Ěf Ųf ⟨.bl _,H,I,rfl,?_⟩;rw[show ĺg éb=žh éb by simp,J5 r c];exact q;obtain⟨a,r,e,j⟩:=Ýa b;refine SeqAt.notIn_tupleAt éb e Ųf ⟨.bl _,H,I,rfl,?_⟩;rw[show ĺg éb=žh éb by simp,J5 r c];exact q
def y3y:yk X Ōg (θc (!(!(ſf j i 0 Ėa 1).isEmpty))):=by intro d s σ H x y v u Q I b a h;obtain⟨i,j,rfl,rfl,q⟩:=h;obtain⟨t,rfl⟩:=b;obtain⟨c,rfl⟩:=a;exact notIn_str ⟨.bl _,H,I,rfl,q⟩
def z0w:vY X Żd (λxs H Q=>∃p ys,xs=Đd/\ĉi/\Q Ĕk H):=by intro k s σ H xs i Q I r h;obtain⟨p,ys,rfl,b,q⟩:=h;obtain⟨u,rfl,f⟩:=tQ r;cases f;have j:=Ut;rcases b with b|b;obtain⟨c,d,e,g⟩:=ž b;have a:=åa;exact Calls.call_len_list Ěf Ļe ⟨.int ãa,H,Ña _,⟨đ+1,by rw[ģ,a]⟩,q⟩;obtain⟨c,d,e,g⟩:=Ýa b;have a:=åa;exact len_tuple e Ļe ⟨.int ãa,H,Ña _,⟨đ+1,by rw[ģ,a]⟩,q⟩
def z0x:vY X Żd (λxs H Q=>∃z,xs=[.str z]/\Ŏ<=á/\Q Şr H):=by intro c s σ H xs a Q I r h;obtain⟨z,rfl,d,q⟩:=h;obtain⟨u,rfl,t,rfl⟩:=tQ r;have b:=Ut;exact len_str Å ⟨.int Ŏ,H,Ña _,⟨_,rfl⟩,q⟩
def vY.or{f:Value}{r d:Á V->Hp->VK->Prop}(h:vY X f r)(h':vY X f d):vY X f (λxs H Q=>r xs H Q\/d xs H Q):=by intro c s σ H xs a Q I b q;rcases q with q|q;exact h c s σ H xs a Q I b q;exact h' c s σ H xs a Q I b q
def z0z:vY X Ĉa (λxs H Q=>∃p ys,xs=Đd/\ĉi/\∀l,H l=Ä->Q Űc ĭq):=by
 intro z s σ H xs B Q I r h;obtain⟨p,ys,rfl,m,q⟩:=h;obtain⟨u,rfl,A⟩:=tQ r;cases A
 have g:∀(a:Á Value),zm ys a->ãa<=á->∀(c:Heap)(f:Nat),(∀b o',Ą b=À o'->c.get? b=À o')->
   c.get? Û=À { cls:=.type Ġ,dict:=Ä,Ć:=.seq Őb f,Äd:=#[] }->EP X z σ Q ĉc { s with ç:=c }:=λa d k c f j e=>
  ⟨.ref Û,_,ġb (t':=đ) j Ē (show xT ó X.w _ c _ ùd from⟨k,a,f,d,e⟩),rfl,q _ êe⟩
 rcases m with m|m;obtain⟨a,d,x,k⟩:=ž m;have i:=åa;obtain⟨o,v,y,n,t⟩:=x.isList;exact Éq p Ĺ v y t òn Ļe;obtain⟨a,d,x,k⟩:=Ýa m;have i:=åa;obtain⟨o,v,y,n,t⟩:=x;exact Éq p ŏb v y t òn Ļe
def Ci:vY X ŵa (Ξd ((yf X.K H p ys/\∀l,H l=Ä->Q Űc īq)\/(xF X.K H p ys/\Q Êa H))):=by
 intro j s σ H xs x Q I r h;obtain⟨p,ys,rfl,h⟩:=h;obtain⟨u,rfl,t⟩:=tQ r;cases t;rcases h with⟨g,q⟩|⟨g,q⟩;obtain⟨a,d,f,m⟩:=ž g;have i:=åa;refine call_tuple_list f.isList (λc n=>?_) Ļe;have k:zI X j σ H { s with ç:=c }:=Ĵd (t':=đ) n
 have v:zI X j σ (zX H ųq àf) { s with ç:=c.push { cls:=.type Ŧ,Ć:=.seq Őb } }:=
  k.laid (t':=đ) (λb o e=>Ī _ e) Ē (show xT ó X.w _ _ _ àf from⟨m,a,d,Ĵk _ _⟩)
 exact⟨.ref ųq,_,v,rfl,q _ (k.zh.fresh Ē)⟩;obtain⟨a,d,f,m⟩:=Ýa g;exact call_tuple_same f ⟨.ref p,H,I,rfl,q⟩
def nO(K:Í)(T:Ïa)(x:V)(H:Hp):Prop:=match x with
 |.str _=>T = Śf|.int _=>T = Àd|.ref p=>(T = Ġ/\∃xs,yf K H p xs)\/(T = Ŧ/\∃o,Ź p=À o/\ĩb=.type Ŧ/\ŉf=Ä) \/
   (T = Ż/\((∃kvs,H p=À Ł)\/∃kvs,H p=À ďc))\/(T = ðb/\∃S n,H p=À (.set S n))
 |_=>ò
def x5r{k:Á é}{σ:St}{H:Hp}{s:Ë}{T:Ïa}{x:V}{v:Value}(I:zI X k σ H s)(r:zr x v)(f:nO X.K T x H) :Ŕb v T/\∀a,v=.ref a->∃ob,Ą a=À ob/\ob.dict=Ä:=by
 cases x with
 |str z=>obtain⟨t,rfl⟩:=r;cases(show T = Śf from f);exact⟨åk s z t,λ_ e=>nomatch e⟩
 |int i=>obtain⟨t,rfl⟩:=r;cases(show T = Àd from f);exact⟨æk s i t,λ_ e=>nomatch e⟩
 |ref p=>
  cases r;rcases f with⟨rfl,u,q⟩|⟨rfl,o,b,m,h⟩|⟨rfl,b⟩|⟨rfl,S,n,b⟩;obtain⟨l,_,j,_⟩:=ž q;refine⟨j.isList.typeIs,λa e=>?_⟩;cases e;obtain⟨o,n,e,c,h,_⟩:=j;exact⟨o,e,h⟩;refine⟨⟨o,ŝ p o b,m⟩,λa e=>?_⟩;cases e;exact⟨o,ŝ _ o b,h⟩;have z:∃o,Ą p=À o/\ŭq:=by rcases b with⟨g,b⟩|⟨g,b⟩;obtain⟨_,_,_,_,o,_,_,e,d,_⟩:=Ĕ p _ b;exact⟨o,e,d⟩;obtain⟨_,_,_,_,o,_,_,e,d,_⟩:=Ĕ p _ b;exact⟨o,e,d⟩
  obtain⟨o,e,d⟩:=z;refine⟨⟨o,e,d.1⟩,λa e2=>?_⟩;cases e2;exact⟨o,e,d.2.1⟩;obtain⟨o,_,_,_,e,d,_⟩:=Ĕ p _ b;refine⟨⟨o,e,d.1⟩,λa e2=>?_⟩;cases e2;exact⟨o,e,d.2.1⟩
 |_=>exact Ħa f
noncomputable def nF(K:Í)(T:Ïa)(r:V->Á V->Hp->VK->Prop)(b:TE)(t:TA):TE:=λσ H Q=>b σ H λx a=>nO K T x a/\t σ a λc d=>r x c d Q
variable{o e:Ñ}{es:Á Ñ}{to:TE}{t:TA}{Ľ:Str}{ěa ßa:Pos}{T id:Ïa}{r:V->Á V->Hp->VK->Prop}
def y49(N:Ęr T)(d:Slot T Ľ id)(i:typeOf ûc=pure ĉn)(w:Dv X id r)(E:PE X o to)(A:PA X ğ t)(c:Ê ōm q12)(f:((żc ßa (ûb ğ Ô)).all Èk&&(Śm).all ŵo
   && decide ((ğ).length+([]:Á Įh).length+ĩm<30))=Ã:=by rfl)
  (b:Ê ìc q12)(q:Ê Ðd q12)(a:Ê ((żc ßa şj).any (·.1)=Â) q12) :
  PE X Ĥm (nF X.K T r to t):=by
 intro g s σ H Q I h;refine wpAny_Call_method_late c f b rfl (zn (E g s σ H _ I h) λv y ⟨x,C,k,l,G,O⟩=>?_);obtain⟨z,B⟩:=x5r k l G;refine⟨T,id,N,d,i,z,B,?_⟩;have j:=A ßa g y σ C _ k O;rw[q]at j ⊢;refine ĺe (by show(Â||(żc ßa şj).any (·.1))=Â;rw[a]<;>rfl) (Ðo ?_);exact zn j λu p ⟨m,L,J,F,n⟩=>w g p σ L x m v u Q J l F n
#print a
def bC(X:Cx)(a:Ïa)(r:V->Á V->Hp->VK->Prop):Prop:=
 ∀(z8:Á é) (s:Ë) (σ:St) (H:Hp) (x:V) (xs:Á V) (v:Value) (us:Á Value) (Q:VK),zI X z8 σ H s->zr x v->zm xs us->r x xs H Q->
  Ù ý X.A ćn Žb ĩ s
def zm.one:∀{x:V}{us:Á Value},zm [x] us->∃u,us=[u]/\zr x u
 |_,_,.cons r .nil=>⟨_,rfl,r⟩
theorem zm.rep{xs:Á V}{us:Á Value}(h:zm xs us):∀k:Nat,zm (ġr).flatten (ŵ k us).flatten
 |0=>.nil|k+1=>by rw[Ŀc,Ŀc,ŵd,ŵd];exact Êh h (zm.rep h k)
theorem dA(its:Á Value):∀(k:Nat)(acc:Á Value),
  ße (λx1 x2=>x1++x2) ŵq (ŵ k âa)=(acc++(ár).flatten).toArray
 |0,acc=>by simp|k+1,acc=>by
  have e:ŵq++âa=(Ąk).toArray:=by simp
  have e2:Ąk++(ár).flatten=acc++(ŵ Ņ its).flatten:=by rw[Ŀc,ŵd,ŗ]
  rw[<-e2,<-dA its k Ąk,<-e,Ŀc,űe]
section
variable{X:Cx}{z8:Á é}{σ:St}{H:Hp}{s:Ë}{l b:É}{xs ys:Á V}
def zI.DE{its õb:Á Value}{n:Nat}{f:Ø Value->Ø Value}{t':Nat}(I:zI X z8 σ H s)(a:H l=À öa)(e:Ą l=À { cls:=.type Ġ,Ć:=.seq âa n })(b:f âa=Ŕj)(hv:zm ys õb)(hz:ãa<=á) :zI X z8 σ ĭq { s with ç:=ſe l (Þe f),Ė:=t' }:=by have q:=PySem.IsL.update e f;rw[b]at q;refine įh (x:=l) (e:=l) (by rw[a];exact trivial) Ĺ (λg u c d=>(ĵe Ý (Þe f) (Ñc c)).trans d) ⟨_,q⟩ ?_;exact⟨hz,õb,_,hv,q⟩
def zI.A7{its:Á Value}{t':Nat}(I:zI X z8 σ H s)(hv:zm ys its)(hz:ãa<=á) :zI X z8 σ (zX H Û ùd) { s with ç:=Ūa { cls:=.type Ġ,Ć:=.seq âa },Ė:=t' }:=
 ġb ūi Ē ⟨hz,its,0,hv,ū _ rfl⟩
theorem zI.fresh(I:zI X z8 σ H s):H Û=Ä:=źb Ē
def zI.QJ(I:zI X z8 σ H s)(a:H l=À öa):à<=á/\∃(its:Á Value) (n:Nat),zm xs its/\à=ŋb/\Ą l=À { cls:=.type Ġ,Ć:=.seq âa n }:=by obtain⟨z,its,n,r,e⟩:=Ĕ l _ a;exact⟨z,its,n,r,Ûa,e⟩
def He{n:Nat}(h:n<=á):ķe n=Â:=by unfold ķe;exact ă Å
#print a
section
variable{X:Cx}
def y6b:V->Á V->Hp->VK->Prop:=λx a H Q=>∃l xs y,x=.ref l/\a=[y]/\H l=À öa/\à<á/\Q .zE (zX H l Ďp)
def z8d:bC X Żp y6b:=by intro j s σ H x g v i Q I c f h;obtain⟨l,k,y,rfl,rfl,b,m,q⟩:=h;cases c;obtain⟨u,rfl,d⟩:=f.one;obtain⟨z,a,n,r,o,e⟩:=I.QJ b;refine êd F.slot_list_append ⟨_,e,rfl⟩ F.entry_list_append (F.args_list_append_2 _ _) (PySem.list_append l Őb n u ŭi) ⟨e,?_⟩;refine⟨.zE,_,I.DE (õb:=a++[u]) b e ã (ĕd (.cons d .nil)) ?_,rfl,q⟩;rw[í,List.length_singleton];omega
def y6e:V->Á V->Hp->VK->Prop:=λx a H Q=>∃l b xs zs,x=.ref l/\a=[.ref b]/\H l=À öa/\H b=À (.lst zs)/\à+ģk<=á/\Q .zE Īq
def z8e:bC X "list.extend" y6e:=by
 intro E s σ H x C v w Q I p t h;obtain⟨l,b,A,y,rfl,rfl,g,j,G,q⟩:=h;cases p;obtain⟨u,rfl,m⟩:=t.one;cases m;obtain⟨z,c,n,r,B,e⟩:=I.QJ g;obtain⟨J,a,i,k,o,e2⟩:=I.QJ j;have f:Āg+Ňc<=á:=by rw[ģ,ģ];omega
 have d:¬ Ťm=Ã:=by rw[He f,Ĩg];exact ō
 refine êd F.slot_list_extend ⟨_,e,rfl⟩ F.entry_list_extend (F.args_list_extend_2 _ _)
  (AutoSeq1.list_extend_list_list_0 l Ïh n b Őb i d ŭi Å) ⟨e,e2,?_⟩
 refine⟨.zE,_,I.DE (õb:=c++a) g e ã (ĕd k) ?_,rfl,q⟩;rw[í];omega
def y6j:R2:=λx y H Q=>∃l k xs,x=.ref l/\y=.int k/\H l=À öa /\ -(2 ^ 63)<=k/\k<2 ^ 63/\à*Ũ<=á/\
 ∀p,H p=Ä->Q Êa (γ (.lst (ģq).flatten))
def eh{α:Type}(xs:Á α)(k:Nat):(ġr).flatten.length=k*à:=by
 induction k with
 |ų=>simp|Ŵ k ih=>rw[Ŀc,ŵd,í,ih,Nat.succ_mul,Ëe]
theorem y3z:yk X ŝg y6j:=by
 intro N s σ H x y v u Q I K J h;obtain⟨l,k,L,rfl,rfl,A,w,C,p,q⟩:=h;cases K;obtain⟨t,rfl⟩:=J;obtain⟨z,b,n,r,G,e⟩:=I.QJ A;have f:Ľb*Ũ<=á:=by rw[ģ,<-G];exact p
 have d:¬ Ľb*Ũ>ŏr/8:=by
  have:(á:Nat)<=ŏr/8:=by decide
  omega
 have i:¬ (!Builtin.List.listFitsIndex k)=Ã:=by rw[fitsIndex_both w C];exact ō
 have c:¬ ķe (Ľb*Ũ)=Ã:=by rw[He f];exact ō
 have g:ße æq #[] (ŵ (if b.toArray.isEmpty=Ã then 0 else Ũ) Ēb)=(ŵ Ũ b).flatten.toArray:=by
  have E:∀m:Nat,ße æq #[] (ŵ m Ēb)=(ŵ m b).flatten.toArray:=λm=>by have:=dA b m [];rw[āp]at this;exact this
  rw[E];cases b with
  |nil=>simp|Ĉ a r'=>rw[Ð ã]
 refine wpAny_binaryOp_repeat_ref (T := Ġ) (U := Àd) È ⟨_,e,rfl⟩ (λB=>æk B k t) noFill_list_mul F.fills_int_mul Ąp repeat_list F.slot_int_index.lookup
  (êd Ąp (æk s k t) F.entry_int_rmul (F.args_int_rmul_2 _ _) (int___rmul___int_list k t l Ēb n)
   ⟨e,rfl,⟨_,e,rfl⟩,êd F.slot_list_mul ⟨_,e,rfl⟩ F.entry_list_mul (F.args_list_mul_2 _ _) (AutoListH.list___mul___list_int_3 l Ēb n k t i d c) ⟨e,?_⟩⟩)
 rw[g];exact⟨.ref _,_,I.A7 (t':=đ) (r.rep Ũ) (by rw[eh,ĕq];exact p),rfl,q _ ĸf⟩
#print a
#print L2
namespace Att
open Ħ úl PySem.Calls ī
def z5y{P:ŕh}{h:Heap}:∀(ns:Á Int)(vs:Á Value),WellAll P h vs ád->Ýc vs ns:=by
 intro ns
 induction ns with
 |nil=>intro vs w;rw[Éf]at w;cases w;exact .nil|Ĉ n ns ih=>
  intro vs w;rw[ř]at w;cases w with
  |Ĉ a b=>cases a;exact .cons _ _ (ih _ b)
def script_of{l:OpenLaw}{n:Nat}(o:ıl=À n){P:ŕh}{h:Heap}{Óa:Á WData}{b:Á Value}(c:l.row.toRowW.claim.pre Óa=Ã)(j:WellAll P h b Óa) :∃a vs ns,b=[Ċ a]/\Óa=[WData.list ád]/\ĥ a=À { cls:=.type Ġ,Ć:=.seq őa }/\Ýc vs ns/\Ùa<=n:=by
 have i:WShape.hasAll [] Óa [.list .int]=Ã:=ťp.1;have k:l.pre.holds [] { Óa:=Óa }=Ã:=ťp.2;obtain⟨d,r,rfl,m,t⟩:=hasAllW_cons i;obtain rfl:=hasAllW_nil t;obtain⟨u,rfl,p⟩:=hasW_list m;obtain⟨ns,rfl⟩:=items_int p
 have e:Ùa<=n:=by
  unfold OpenLaw.pre at k
  have g:(WTm.not (.lt (.lit Ñb) (.len (.arg 0)))).holds [] { Óa:=[.list (Ōa .int)] }=Ã:=by have g:=(holds_andW k).1;rw[o]at g;exact g
  have f:=condW_of g (w_not (ņd w_lit (w_len_list (w_arg rfl))));rw[ä]at f;refine Nat.le_of_not_lt λq=>?_
  have s:(n:Int)<((Ùa:Nat):Int):=by omega
  first
   |(rw[î s]at f;exact Ú f È)
   |(simp at f;omega)
 cases j with
 |Ĉ w1 w2=>
  cases w2;cases w1 with
  |list ho hall=>exact⟨_,_,ns,rfl,rfl,ho,z5y ns _ hall,e⟩
def post_true(l:OpenLaw)(Óa:Á WData):l.row.toRowW.claim.post Óa Ŭg Óa=Ã:=
 postW_of (r:=œj) (X:=ģr)
  (show ĕr [] Ŭg .bool=Ã by first|rfl|decide|simp[ĕr,WShape.arms,WShape.armsAll])
  (show(WTm.eq .res (.lit Ŭg)).value [] { Óa:=Óa,res:=À Ŭg,after:=Óa }=À (.bool ģr)from w_eq_bool (w_res rfl) w_lit) rfl
#print Att
namespace L2
open Ħ Ķ ī
theorem nX:∀{vs:Á Value}{ns:Á Int},Ýc vs ns->zm Ġa vs
 |_,_,.nil=>.nil|_,_,.cons n t h=>.cons ⟨t,rfl⟩ (nX h)
def bG(H:Hp):Prop:=∀b,H b=Ä\/∃o xs,H b=À Ār
def z77{P:å}{w:ß}{K:Í}{p O:Str->Æ Value}{CX:gT}{k:Nat}{N a:É}{fd:ķ}{x:Str}{sp:Sp}{c:Ë}{vs:Á Value}{ns:Á Int}(KX:Ŕ Ěe)(E:Īk ė p)(g:Īk ëk O)(U:∀x:Str,x ≠ ák->O x=ť x)(I:c.heap.NoLimit)(hg:c.gens=#[])(L:Ôe a=À { cls:=.type Ġ,Ć:=.seq őa })(hi:Ýc vs ns)(Z:Ùa<=á)(hr:yl k ĉe)(F:∀Ç:Heap,Ŕ Ç->Ċe ė p->xH P w K p Ç CX k N fd [x] sp)(l:∀(s:Ë)(u:Value),áb s fd ⟨[u],[]⟩ [(x,u)])(T:∀H:Hp,bG H->yf K H a Ġa->sp úa H Ļo λ_ _ _=>ò)(Q:∀H e s',CX [] H c (λ_ _ _=>ò) e s'->ò) :Ĝb Æc ĉe ån ŵl c:=by
 have rv:=nX hi;have C:=hi.length
 have j:∀H:Hp,bG H->yf K H a Ġa->wE P w H Ěe->(∀b,H b≠Ä->b=a)->(H a≠Ä->Ź a=Ä)->
   Ĝb Æc ĉe ån ŵl c:=by
  intro H Y hS zh X hK;have f:∀{b:É}{o:Obj},Ôe b=À o->H b=Ä->(Æf).get? b=À o:=λe n=>z5g e n
  have S:∀{b:É}{o:Obj}{J:Ø Ëc}{B:Nat},Ôe b=À o->şa=.dict J B->H b=Ä:=λ{b o J B} e d=>by
   cases q:H b with
   |Ä=>rfl|À u=>have R:b=a:=X b ûj;subst R;rw[L]at e;cases e;have d':Data.seq őa _=Data.dict J B:=d;cases d'
  have i:∀{b:É}{m:Str->Æ Value},Īk b m->(Æf).Ns b m:=λ{b m} ⟨o,J,B,e,d,r⟩=>⟨o,J,B,f e (S e d),d,r⟩
  have y:Ŕ Æf:=λb o e=>f (KX b o e) (by
   cases q:H b with
   |Ä=>rfl|À u=>have R:b=a:=X b ûj;subst R;rw[hK ûj]at e;cases e)
  have hM:Mod K p Æf:=⟨y,i E,⟨O,i g,U⟩,let ⟨mc,h1,h2⟩:=I;⟨mc,i h1,h2⟩⟩;have e0:WB P w K p Æf ĉe [] c H:=⟨rfl,hM,λb o e=>y0m e,Àc (z5h _ _),trivial,λb g=>Ú (show b∈([]:Á É)from g) ã,zh,.of_eq hg⟩;refine ÿg ((F _ y (i E)).run ĉe [] c H ⟨úa,[]⟩ úa úa _ _ hr e0 (l c Ś) ðp (T H Y hS)) λr s' h=>?_
  cases r with
  |error e=>exact(Q H e s' h).elim|ok fl=>
   cases fl with
   |next=>exact Ħa h|brk=>exact Ħa h|èc=>exact Ħa h|ret u=>
    obtain⟨v,H',os,t,un,A,r',q⟩:=h;have q':v=.bl Ã:=q;subst q';obtain rfl:u=Ŵg Ã:=r';refine⟨rfl,OldK.of_keep λb o e=>?_,os,t⟩;cases q:H b with
    |Ä=>exact un.keep b o e q (by intro z;exact Ú (show b∈([]:Á É)from z) ã) ã|À u=>
     rcases Y b with z|⟨ob,xs,z⟩
     .rw[q]at z;cases z
     .have z2:=un.tT b ob _ z;obtain⟨e1,_⟩:=zh b _ z;obtain⟨e2,_⟩:=A b _ z2;rw[e]at e1;cases e1;exact e2
 cases hk:Ź a with
 |À o=>have e:=KX a o hk;rw[L]at e;cases e;refine j ōb (λ_=>.inl rfl) (.inr ⟨_,őa,_,hk,rfl,rfl,rfl,by rw[ģ,C];exact Z,by simpa using rv⟩) (λb u z=>by have G:(Ä:Æ HO)=À u:=z;cases G) (λb z=>Ú rfl z) λz=>Ú rfl z|Ä=>refine j (λb=>if b=a then À (.yJ { cls:=.type Ġ,Ć:=.seq őa } (.lst Ġa))else Ä) (λb=>?_) (.inl (.inr ⟨{ cls:=.type Ġ,Ć:=.seq őa },Ï rfl⟩)) (λb u z=>?_) (λb z=>?_) λ_=>hk;by_cases g:b=a;exact .inr ⟨_,_,Ï g⟩;exact .inl đl;by_cases g:b=a;have G:=(Ï g).symm.trans z;cases G;subst g;exact⟨L,by rw[ä];exact Z,vs,_,rv,L⟩;have G:=(đl).symm.trans z;cases G;by_cases g:b=a;exact g;exact Ú đl z
noncomputable def jL(s:Õ)(j:Nat):Õ:=match s with
 |.ClassDef _ _ _ Íd _ _ _ _ _ _ _=>body.getD j Èo|_=>.Pass ⟨0,0,0,0⟩
noncomputable def qQ(s:Õ):Ês:=match s with
 |.FunctionDef _ a _ _ _ _ _ _ _ _=>a|_=>{ posonlyargs:=[],Óa:=[],vararg:=Ä,kwonlyargs:=[],kw_defaults:=[],kwarg:=Ä,defaults:=[] }
noncomputable def vO(s:Õ):Á Õ:=match s with
 |.FunctionDef _ _ b _ _ _ _ _ _ _=>b|_=>[]
noncomputable def zU(s:Õ):ča:=match s with
 |.FunctionDef _ _ _ _ _ _ sc _ _ _=>sc|_=>{ kind:=.function,Źh:=[],isGenerator:=Â,isCoroutine:=Â }
abbrev xC:gT:=λ_ _ _ _ _ _=>ò
abbrev E0:XK:=λ_ _ _=>ò
def XS{X:Cx}:WQ xC X E0:=λ_ _ _ _ _ _ _ h=>ĳl
structure Fun(K:Í)(x qual:Str)(st:Õ)(f:É)(fd:ķ):Prop where
 ex:∃(oc:Value) (od:Æ É) (kV doc pm:Value) (an:Æ É) (cdv ct:Value) (osl:Ø ųa),
  fd=ıd x qual đe ça Ń .none kV doc pm an cdv ct/\Ź f=À ⟨oc,od,.func fd,osl⟩/\Řb K cdv qual=Ã
 kp:ùa K Į=Ã
section
variable{P:å}{w:ß}{K:Í}{mg:Str->Æ Value}{Ç:Heap}
def Fun.ok{x a:Str}{st:Õ}{f:É}{i:ķ}{N ps:Á Str}{k:Nat}{sp:Sp}(F:Fun K x a st f i)(S:zj N ps Ń)(e:∀vs H Q E,sp vs H Q E->Ā=ù)(c:∀(b:Value)(A:ø)(ā:Á Env)(s:Ë)(H:Hp)(vs:Á V)(Q:VK)(E:XK),yl k Ğn->sp vs H Q E->
   ∃t,tD (Ėm).qI ça t/\t { nx:=λ_ H'=>Q .zE H',rt:=Q } ýd H):xH P w K mg Ç xC Ņ f i ps sp:=by
 obtain⟨o,p,kV,m,u,r,b,v,j,rfl,n,d⟩:=F.ex;refine d9 n d S e λA ā s H vs Q E l g=>?_
 obtain⟨t,h,q⟩:=c b A ā s H vs Q E l g;exact⟨t,h.qI,q⟩
def Fun.binds{x a:Str}{st:Õ}{f:É}{g:ķ}{ps:Á Str}(F:Fun K x a st f g)(h:∀(kV c e:Value)(d:Æ É)(b ct:Value)(us:Á Value),Ţ=ù->ýh (ıd x a đe ça Ń .none kV c e d b ct) ⟨us,[]⟩=pure Śc):vX K g ps []:=by obtain⟨k,l,kV,c,e,d,b,ct,j,rfl,m,i⟩:=F.ex;exact .all (h kV c e d b ct)
def dE{x a:Str}{st:Õ}{f:É}{i:Value}{j h:Æ É}{e:Ø ųa}{kV d g b ct:Value}(l:Ź f=À ⟨i,j,.func Ăm,e⟩)(c:Řb K b a=Ã)(k:ùa K Į=Ã):Fun K x a st f Ăm:=⟨⟨i,j,kV,d,g,h,b,ct,e,rfl,l,c⟩,k⟩
#print a
def zV{A:ø}{k:Nat}(a:yl k A):Şa+1<Òa:=ķb (ßd (by decide:1<=64) _) a.units
def y9l{n:Nat}(h:n<=1000):n<á:=ķb h È
def jy{A B:Prop}(h:B):if Â=Ã then A else B:=by rw[Ð ō];exact h
def jz{A B:Prop}(h:A):if Ã=Ã then A else B:=by rw[Ï rfl];exact h
def zw(H H':Hp):Prop:=∀b o,H b=À o->H' b=À o
def řa(H:Hp):zw H H:=λ_ _ h=>h
def zw.trans{H d e:Hp}(a:zw H d)(b:zw d e):zw H e:=λc o h=>b c o (a c o h)
def zw.free{H H':Hp}(e:zw H H'){l:É}(h:H' l=žq):H l=žq:=by
 cases q:H l with
 |Ä=>rfl|À o=>rw[e l o q]at h;cases h
#print L2
set_option linter.all false
set_option maxRecDepth 100000
set_option maxHeartbeats 4000000
namespace L2
open Ħ Ķ ī
def Def(K:Í)(a:Str->Æ Value)(x:Str)(st:Õ)(ps:Á Str):Prop:=
 ∃(f:É) (fd:ķ),Fun K x x st f fd/\a x=À Į/\vX K fd ps []
def vL(P:å)(w:ß)(K:Í)(b:Str->Æ Value)(a:Heap)(x:Str)(ps:Á Str)(k:Nat)(sp:Sp):Prop:=
 ∃(f:É) (fd:ķ),b x=À Į/\ùa K Į=Ã/\vX K fd ps []/\xH P w K b a xC k f fd ps sp
def wp(a:Str->Æ Value)(x:Str)(v:V):Prop:=∃u,a x=À u/\zr v u
section
variable{P:å}{w:ß}{K:Í}{mg:Str->Æ Value}{Ç:Heap}
theorem Def.ok{x:Str}{st:Õ}{N ps:Á Str}{k:Nat}{sp:Sp}(d:Def K mg x st ps)(S:zj N ps Ń)(c:∀vs H Q E,sp vs H Q E->Ā=ù)(a:∀(f:É)(b:Value)(A:ø)(ā:Á Env)(s:Ë)(H:Hp)(vs:Á V)(Q:VK)(E:XK),yl k (ŉb (Ėb x Ń Û f b))->sp vs H Q E->
   ∃t,tD (tZ xC P w K mg Ç N x Ń f b A ā s H E).qI ça t/\t { nx:=λ_ H'=>Q .zE H',rt:=Q } ýd H):vL P w K mg Ç x ps Ņ sp:=by
 obtain⟨f,g,F,e,h⟩:=d;exact⟨f,g,e,F.kp,h,Ņa S c (a f)⟩
#print a
section
variable{X:Cx}{x:Str}{p pos:Pos}{e:Ñ}{es:Á Ñ}{t:TA}{ps:Á Str}{j k:Nat}{sp:Sp}{v:V}{T:Ïa}
noncomputable def xV:Ñ->Ì
 |.Starred ..=>Â|_=>Ã
def qB{e:Ñ}{es:Á Ñ}{env:Env}(h:xV e=Ã):ûb ğ env=(Â,č e env)::ûb es env:=by cases e<;>first|rfl|cases h
theorem YF{env:Env}{pos:Pos}:∀{es:Á Ñ},es.all xV=Ã->(ĸo).any (·.1)=Â
 | [],_=>rfl|e::es,h=>by rw[Àa,ĉ]at h;rw[qB h.1];have a:=YF (env:=env) (pos:=pos) h.2;unfold żc at a ⊢;rw[ř,Çe,a];rfl
def XR{a:TE}(c:PE X e a)(b:PA X es t)(h:Ê ļa q12):PA X ğ (TW a t):=i5 c b (qB h)
noncomputable def Ow:Ñ->Æ Int
 |.Constant üa _ _=>À i|_=>Ä
def so{e:Ñ}{i:Int}(h:Ow e=À i):∃k p,e=.Constant üa k p:=by
 cases e<;>first|(cases h;done)|skip
 rename_i c k p;cases c<;>first|(cases h;done)|skip
 cases h;exact⟨k,p,rfl⟩
def äb:Á Ñ->Æ âh
 | []=>À []|e::r=>(Ow e).bind λi=>(Ćl).map (i::·)
theorem i6:∀{es:Á Ñ}{is:Á Int},äb es=À is->PA X es (λ_ H Q=>Q (is.map Ľd) H)
 | [],is,h=>by cases(show À []=À is from h);exact V5|e::r,is,h=>by
  have q:((Ow e).bind λi=>(Ćl).map (i::·))=À is:=h;cases e1:Ow e with
  |Ä=>rw[e1]at q;cases q|À i=>
   rw[e1]at q;obtain⟨k,p,rfl⟩:=so e1;cases e2:äb r with
   |Ä=>rw[e2]at q;cases q|À js=>rw[e2]at q;cases(show À (i::js)=À is from q);exact XR iD (i6 e2)
def Hw(h:vL ó X.w X.K ð Œ x ps k sp)(g:yl j X.A)(l:Gl X x)(i:PA X ğ t)(hk:Ê âc q10)(a:Ê Ļ q10)(c:Ê ňa q12):PE X ýb Ĭp:=by obtain⟨f,n,d,m,b,F⟩:=h;rw[Àa,ĉ]at c;exact y4b F (g.mono hk) l d m b .nil XS i a (qB c.1) (YF c.2)
def V6(h:wp ð x v)(c:Gl X x)(a:Ê Ļ q10):PE X Ća Œf:=by obtain⟨u,b,r⟩:=h;exact y4i c b r a
def y4a(b:Gl X x)(a:ð x=Ä)(hv:ť x=À čc)(d:Ê ĺb q10)(c:Ê Ļ q10):PE X Ća ļq:=
 y48 b a hv rfl d c
#print a
section
variable{X:Cx}
def U_:yk X (Ôb .FloorDiv) ŧm:=Uz λi j _ _ _ _ _ a q=>by have b:(0:Int)<j:=a.1;have d:j<2 ^ 64:=a.2;have c:j.natAbs.log2<64:=(Ýs).mpr Å;exact PyProof.Rows.floordiv_int Å (by rw[ďn i Å];exact q) (.inl (PyProof.noPylong_of_log2 Å))
#print a
def jq:ť "len"=À Żd:=by decide +kernel
def z0h:ť îd=À Ěj:=by decide +kernel
def z0j:ť "sum"=À ñp:=by decide +kernel
def z0g:ť "all"=À òp:=by decide +kernel
def z0i:ť ëb=À Źp:=by decide +kernel
def z0e:ť Àd=À Òb:=by decide +kernel
def z0d:ť ńf=À Ðb:=by decide +kernel
def LD:ť Ġ=À Ĉa:=by decide +kernel
def LF:ť Ŧ=À ŵa:=by decide +kernel
def z6u{K:Í}:œ K Òb Òb=À Ã:=by rfl
def z6s{K:Í}:œ K Ðb Òb=À Ã:=by kernel_rfl
def z6t{K:Í}:œ K Òb Ðb=À Â:=by kernel_rfl
def z6r{K:Í}:œ K Ðb Ðb=À Ã:=by rfl
def z6w{K:Í}:œ K űd Òb=À Â:=by kernel_rfl
def z6v{K:Í}:œ K űd Ðb=À Â:=by kernel_rfl
def z6y{K:Í}:œ K ŵa ŵa=À Ã:=by rfl
def z6x{K:Í}:œ K Ćb Ćb=À Ã:=by rfl
def vj{H:Hp}{p:É}(h:H p=Ä)(o:HO):zw H Ąd:=λb u q=>by rw[yB (qu q h)];exact q
def Ŧb{n:Nat}(h:n<=1000):n<=á:=õa (y9l h)
def Yd(env:Env):Á ďb->Prop
 | []=>éc|p::r=>Ðj p.1=À p.2/\Yd env r
theorem Yd.get{env:Env}:∀{cl:Á ďb} {y:Str} {c:É},Yd env cl->Îh y=À c->Ðj y=À c
 | [],_,_,_,h=>by cases h|(n,a)::r,y,c,hc,h=>by
  rw[Ũe]at h;cases e:y==n with
  |Ã=>
   rw[e]at h;have d:y=n:=by simpa using e
   subst d;have b:a=c:=by simpa using h
   subst b;exact hc.1
  |Â=>rw[e]at h;exact Yd.get hc.2 Āb
noncomputable def UV(a:ča)(env:Env)(b:Á ďb)(own:Á Str):Ì:=
 źj λp=>p.1 != ("." : Str)&&((p.2 == .local&&(ńg p.1||p.1==(".0" : Str)))||p.2 == .globalImplicit||p.2 == .globalExplicit ||
  (p.2 == .free&&(ăd p.1==À .cell||ăd p.1==À .free)&&(b.lookup p.1).isSome))
noncomputable def Æb(own:Á Str)(y:Str):Str:=if ńg y||y==(".0" : Str)then "." else y
def wT(N own:Á Str):Á Str:=N.map (Æb own)++own
theorem KY{env:Env}:∀{Źh:Á (Str×Ŭc)} {y:Str} {k:Ŭc},
  (names.map λ(n,k)=>if(k==Ìq&&Łp == .function&&ăd n==À .cell)then(n,Íq)else(n,k)).lookup y=À k->∃k0,(y,k0)∈Źh/\(k=k0\/(k0=.free/\k=.cell))
 | [],_,_,h=>by simp at h|(n,k')::r,y,k,h=>by
  rw[ř]at h;by_cases hc:(k'==Ìq&&Łp == .function&&ăd n==À .cell)=Ã;dsimp only at h;rw[Ï hc,Ũe]at h;cases e:y==n with
  |Ã=>
   rw[e]at h;have b:y=n:=by simpa using e
   subst b;have a:Íq=k:=by simpa using h
   have c:k'=.free:=by rw[ĉ,ĉ]at hc;simpa using hc.1.1
   exact⟨k',ĵ,.inr ⟨c,a.symm⟩⟩
  |Â=>rw[e]at h;obtain⟨k0,m,z⟩:=KY (env:=env) Āb;exact⟨k0,ÿa _ m,z⟩
  dsimp only at h;rw[Ð hc,Ũe]at h;cases e:y==n with
  |Ã=>
   rw[e]at h;have b:y=n:=by simpa using e
   subst b;have a:k'=k:=by simpa using h
   exact⟨k',ĵ,.inl a.symm⟩
  |Â=>rw[e]at h;obtain⟨k0,m,z⟩:=KY (env:=env) Āb;exact⟨k0,ÿa _ m,z⟩
def vH(X:Cx)(a:ča)(c:Á ďb)(own:Á Str)(C:É)(b:Ë)(e:Hp)(d:Á É)(pn:Á é):Cx:=
 { X with N:=wT X.N own,s₀:=b,H₀:=e,env:=compEnvC a c C Ô,ā:=Śa,stack:=Śa,ex:=d,fn:=λ_=>Â,pn:=pn,xe:=λ_ _=>ò }
section
variable{X:Cx}{z8:Á é}{σ:St}{H2:Hp}{s2:Ë}{ŉ:ča}{cl:Á ďb}{own:Á Str}{C D:É}{fp:Á É}
def bv(f:UV ŉ Ô cl own=Ã){y:Str}{k:Ŭc}(h:(ţe).names.lookup y=À k) :y ≠ "."/\((k=.local->ńg y=Ã\/y = ".0")/\((k=.cell\/k=.free)->(∃k0,(y,k0)∈Òe/\k0=.cell)\/(Ũm/\∃c,Îh y=À c))):=by
 obtain⟨k0,m,z⟩:=KY h;have q:=Ĵb f _ m;rw[ĉ]at q;obtain⟨g,e⟩:=q;refine⟨by simpa using g,λa=>?_,λa=>?_⟩;rcases z with z|⟨_,z⟩;subst z;subst a;simpa using e;rw[z]at a;cases a;have b:k0=.free\/k0=.cell:=by rcases z with z|⟨z,_⟩;subst z;rcases a with a|a;exact .inr a;exact .inl a;exact .inl z
 rcases b with b|b;subst b
 right
 have d:((ïd y==À .cell||ïd y==À .free)&&(Îh y).isSome)=Ã:=by simpa using e
 rw[ĉ]at d;refine⟨?_,ún d.2⟩;have:=d.1;rw[Bool.or_eq_true]at this;rcases this with t|t;exact .inl Ňo;exact .inr Ňo;exact .inl ⟨k0,m,b⟩
def Cd(b:UV ŉ Ô cl own=Ã)(a:∀y∈Òe,y.2≠.cell){y:Str}{k:Ŭc}(h:(ţe).names.lookup y=À k)(hk:k=.cell\/k=.free) :Ũm/\∃c,Îh y=À c:=by rcases(bv b h).2.2 hk with⟨d,m,e⟩|q;exact Ú e (a _ m);exact q
def bw(I:zI X z8 σ H2 s2)(hk:èk=.function)(f:∀y∈Òe,y.2≠.cell)(d:Yd Ô cl)(k:UV ŉ Ô cl own=Ã)(j:Ćg<=C)(g:∀b∈fp,jg X z8 H2 b)(i:∀b∈fp,∃o,Œj b=À o):(ĸm).Ok where
 mod:=Àl
 kind:=hk
 glob:=I.ok.glob
 blt:=I.ok.blt
 above:=j
 inj:=λx y c l n=>I.ok.inj x y c (d.get l) (d.get n)
 has:=λx a=>by rcases a with a|a;exact(Cd k f (show(ţe).names.lookup x=_ from a) Ĺ).2;exact(Cd k f (show(ţe).names.lookup x=_ from a) ŏb).2
 Vo:=λx c h=>by cases h
 hd:=Ùb
 Ĵl:=Âr
 QN:=.inl rfl
 QF:=λb a=>⟨by obtain⟨o,e⟩:=i b a;exact Ça (ŭ ŧc j),λx c h=>Ġl.2.2.2.2.1 x c (d.get h)⟩
 bs:=I.bs
 kO:=Ğ İh I.sz
 Vs:=λb o e a=>by rcases(g b a).2.2.2.1 with z|z;exact I.ok.Vs b o e z;exact Ú (ŭ ŧc (Ğ İh z)) Ôa
 Vp:=λb a m=>by rcases ľ (I.QO b m)with z|z;exact Ġl.2.1 z;exact Ġl.2.2.1 z
 j2:=I.stack
 YV:=I.AE
def Lg{α:Type}{σ:Á (Æ α)}{n i:Nat}{v:α}(h:òj[i]?=À æa):σ[i]?=À æa:=by
 by_cases hi:i<σ.length;rw[ıb hi]at h;exact h;rw[ŭb Å,ņn]at h
 split at h<;>cases h
def z0a{H:Heap}{Y:Str->Æ Value}{j:Obj}{tk:Nat}(I:zI X z8 σ H2 s2)(hk:èk=.function)(s:∀y∈Òe,y.2≠.cell)(g:Yd Ô cl)(U:UV ŉ Ô cl own=Ã)(L:Ćg<=C)(hD:Ćg<=D)(W:D≠C)(O:∀b∈fp,jg X z8 H2 b)(P:∀b∈fp,∃o,Œj b=À o)(f:∀b o,Œj b=À o->H.get? b=À o)(ns:H.Ns C Y)(hd:H.get? D=À j)(Q:∀v,j.data≠.cell v) :zI ĸm [(D,j)] Ÿd H2 { s2 with ç:=H,Ė:=tk }:=by
 have K:∀a,Ćg<=a->a ∉ jG Śa:=λa Z T=>by rcases ľ (I.QO a T)with z|z;exact Ú (ŭ I.lt Z) (by rw[z];exact Æe _);exact I.A9 Z z
 refine⟨bw I hk s g U L O P,rfl,èb,ķf f,⟨Y,ns,λi y v e1 e2 e3=>?_⟩,λx c h=>?_,źb L,λx c h=>êc x c (Žh h),λp hp=>?_,Ès f,?_⟩;have A:σ[i]?=À æa:=Lg e2
 have hi:i<ú:=by have:=(Ŗ A).1;rw[ŧb]at this;exact this
 have q:ģn[i]?=À y:=e1;rw[ıb (by simpa using hi),ş]at q;cases en:X.N[i]? with
 |Ä=>rw[en]at q;cases q|À n=>
  rw[en]at q;have F:Æb own n=y:=ĸa q
  have vis:∃k,(ţe).names.lookup y=À k/\(k=.local\/k=.cell\/k=.free):=by rcases e3 with z|z|z;exact⟨_,z,.inl rfl⟩;exact⟨_,z,.inr Ĺ⟩;exact⟨_,z,.inr ŏb⟩
  obtain⟨k,J,kk⟩:=vis;obtain⟨nd,R,_⟩:=bv U J;unfold Æb at F;by_cases B:(ńg n||n==(".0" : Str))=Ã;rw[Ï B]at F;exact Ú F.symm nd;rw[Ð B]at F;subst F
  have G:k=.cell\/k=.free:=by
   rcases kk with z|z;exfalso
   apply B;rcases R z with t|t;rw[t];rfl;subst t;simp;exact z
  obtain⟨ok,c,hc⟩:=Cd U s J G;obtain⟨m,hn,hl⟩:=Įa;obtain⟨u,r,l⟩:=hl i n v en A (.inr ok);refine⟨u,r,.inr ⟨?_,c,hc,?_⟩⟩;rcases G with z|z;subst z;exact .inl J;subst z;exact .inr J;rcases l with⟨z,_⟩|⟨_,c',E,z⟩;rcases ok with t|t<;>(rw[t]at z;cases z);rw[Žh hc]at E;cases E;obtain⟨o,S,w⟩:=z;exact⟨o,f _ _ S,w⟩
 obtain⟨v,o,B,w⟩:=Ša x c (Žh h);exact⟨v,o,f _ _ B,w⟩;rcases Ăa hp with z|z;obtain⟨e,n,ne,nf,d⟩:=ţa p z;refine⟨f _ _ e,n,Ça (ŭ ŧc L),λT=>?_,d⟩;rcases ľ (I.QO p.1 T)with t|t;exact ne t;exact nf t;have e:p=(D,j):=by simpa using z
 subst e;exact⟨hd,źb hD,W,K D hD,Q⟩;show(Ÿd).length=(ģn).length;rw[í,í,ļc,ä,ŧb]
#print a
def WP(X:Cx)(a:Á Ñ)(b:TT):Prop:=
 ∀(z8:Á é) (s:Ë) (σ:St) (H:Hp) (Q:Ì->Hp->Prop),zI X z8 σ H s->b σ H Q->
  Ù ý X.A (ťb a Ã λc r=>if r=Ã then do let ok <-Ęe c Ô (č c Ô);pure (ŝe ok)else pure (ŝe r)) Ęj ĩ s
noncomputable def x17:TT:=λ_ H Q=>Q Ã H
def y5s{X:Cx}:WP X [] x17:=λ_ _ _ H _ I h=>wpAny_tests_nil ⟨H,I,h⟩
def y5t{X:Cx}{c:Ñ}{t:TT}(h:PT X c t):WP X [c] t:=λa s σ H Q I q=>wpAny_tests_one (h a s σ H Q I q)
section
variable{Ĝ:å}{w:ß}{A:ø}{R:Ĳd->Ë->Prop}{s:Ë}
def z7b{d tg b:Ñ}{g:Á Ñ}{a:ča}{pos:Pos}{it f:Value}{env:Env}(J:Nat->Ë->Prop)(j:∀n s,J n s->Ù è A (Ĩh it) (λr s₁=>match r with
   |Ä=>R ăr s₁|À v=>Ù è A (ùg tg it v) (λ_ z=>Ù è A (Ĥc tg env v) (λ_ s₂=>
    Ù è A (ťb g Ã λc r=>if r=Ã then do let ok <-Ęe c env (č c env);pure (ŝe ok)else pure (ŝe r)) (λok s₃=>
     if ok=Ã then Ù è A (č d env) (λx s₄=>Ù è A (Çb (.builtin Żp) [f,x]) (λ_ s₅=>∃m,m<n/\J m s₅) Ŕc s₄) Ŕc s₃
     else ∃m,m<n/\J m s₃) Ŕc s₂) Ŕc z) Ŕc s₁) Ŕc s)
  (n:Nat)(h:J n s):Ĝb è A (.compLoop śm 0 it f env) R s:=by
 have i:∀{P:Value->Ë->Prop},∀e s',(λ_ _=>ò:Value->Ë->Prop) e s'->P e s':=λ_ _ z=>Ða
 refine codeAny_loop rfl J (λn s q=>?_) n h;show Ù _ A (Sem.onRaise (compTurn śm 0 it f env) (λx=>do noteFrame x env;theTreesLotGoes x)) _ _ s;refine wpAny_noted ?_;rw[compTurn_list];refine Ò (úg (Ò (ĝa (j n s q) (λr s₁ l=>?_) i)));cases r with
 |Ä=>exact ĝ l|À v=>
  refine Ò (ĝa l (λ_ z u=>?_) i);refine Ò (ĝa u (λ_ s₂ t=>?_) i);refine Ò (ĝa t (λok s₃ k=>?_) i);cases ok with
  |Â=>exact ĝ ⟨rfl,k⟩|Ã=>
   refine Ò (Ò (ĝa k (λx s₄ o=>?_) i));exact Ò (ĝa o (λ_ s₅ p=>ĝ (ĝ ⟨rfl,p⟩)) i)
#print a
abbrev uK(its:Á Value)(k:Nat):Obj:={ cls:=.type Ġ,Ć:=.seq âa k }
def f6{its:Á Value}{k:Nat}:∀v,(Ķr).data≠.cell v:=λ_ z=>nomatch z
section
variable{X:Cx}{σ:St}{H:Hp}{s:Ë}{D:É}
def z60{pl:Á é}{its õb:Á Value}{k g tk:Nat}{h':Heap}(I:zI X ((D,uK its k)::pl) σ H s)(t:ĸc<=D)(f:∀p∈įc,p.1≠D)(l:ńb D Ý h')(u:ġ D=À (uK õb g)):zI X [(D,uK õb g)] σ H { s with ç:=h',Ė:=tk }:=by
 obtain⟨e,n,i,j,d⟩:=ţa (D,uK its k) Þr;have r:zI X [] σ H s:=I.QM λp a=>Ú a ã
 have w:zI X [] σ H { s with ç:=h',Ė:=tk }:=r.turned (it:=D) (λb o A q=>(l.2 b A).trans q) n i Ąe (λx c y z=>by subst z;obtain⟨v,o,h,m⟩:=Ša x c y;rw[show Ą c=À Ķr from e]at h;cases h;exact d v m) (λp a=>f p Ōo)
 exact w.QM λp a=>by
  have q:p=(D,uK õb g):=by simpa using a
  subst q;exact⟨u,n,i,j,f6⟩
#print a
section
variable{X:Cx}{tg Ū elt:Ñ}{ifs:Á Ñ}{ŉ:ča}{cl:Á ďb}{own:Á Str}{pos:Pos}{te:TE}{tc:TT}{g:TG}{wi:TI}
def x66{fs ex:Á É}{H H':Hp}{h h':Heap}{D:É}{o:HO}(u:Un fs ex H H' h h')(i:ĉb<=D)(d:H' D=Ä):Un fs ex H ãr h h' where
 ıa:=Ņf
 slot:=Ŋh
 free:=λb c q n g=>by rw[yB (λz=>by subst z;exact Ú (ŭ ľf i) Ôa)];exact ŋh b c q n g
 ŵh:=ħh
 qJ:=λb e q=>by rw[yB ďo];exact u.qJ b e q
 tT:=λb c v q=>by rw[yB Ào];exact u.tT b c v q
 pG:=λb f q=>by obtain⟨a,z⟩:=u.pG b f q;exact⟨a,by rw[yB (qu z d)];exact z⟩
def du{P:å}{w:ß}{H:Hp}{h:Heap}{D:É}{o:HO}(x:wE P w H h)(d:H D=Ä)(a:xT P w ĩr h D o):wE P w ĩr h:=λb u e=>by by_cases hb:b=D;subst hb;rw[ya]at e;cases e;exact a;rw[yB hb]at e;refine(ŏk).YX (λc v _ q=>q) (λc q=>?_) (λc f q=>?_);rw[yB (qu q d)];exact q;rw[yB (qu q d)];exact q
structure Yc(X:Cx)(ŉ:ča)(cl:Á ďb)(own:Á Str):Prop where
 kind:èk=.function
 Đa:∀y∈Òe,y.2≠.cell
 Oc:Yd Ô cl
 ok:UV ŉ Ô cl own=Ã
 Od:Ēr ŉ Ô=pure cl
 Źh:∀y∈Òe,y.2=.local->scope.names.lookup y.1=À .local
structure Om(X:Cx)(z8:Á é)(H:Hp)(s:Ë)(C:É):Prop where
 free:H C=Ä
 ne:C≠Öa
 old:ĸc<=C
 Đa:∀x c,Ĵa x=À c->c≠C
 pin:∀p∈įc++z8,p.1≠C
def M9(σ:St)(n:Nat)(J:It)(g:TG)(tc:TT)(te:TE)(W:Nat->Nat->Á V->Hp->Prop)(a:Á V->Hp->Prop):Prop:=
 ∀i m ys H,W i m ys H->(Ŗh i H/\a ys H)\/(J.go i H/\ãa<á/\∃N:Á V->Hp->Prop,(∀ys' H',N ys' H'->∃m',m'<m/\W ê m' ys' H')/\
  ∀x H',J.uh i H x H'->g x òj H' λσ2 e=>(∃τ,σ2=σ++τ)/\tc σ2 e λc b=>if c=Ã then te σ2 b λy d=>N (ys++[y]) d else N ys b)
def bz{z8:Á é}{σ:St}{H2:Hp}{t:Ë}{l:Á É}{it:É}{tn:Nat->Heap->Prop}{J:It}{W:Nat->Nat->Á V->Hp->Prop}{Fin:Á V->Hp->Prop}{m0:Nat}{RR:Value->É->Ĳd->Ë->Prop}(R:Ž=Ã)(B:Yc X ŉ cl own)(I:zI X z8 σ H2 t)(T:ga ó X.w X.K tg J l it tn)(t0:tn 0 t.heap)(G:∀b∈l,jg X z8 H2 b)(hg:∀C s H l pn,PG Ėi tg g)(hc:∀C s H l pn,WP Ėi ifs tc)(he:∀C s H l pn,PE Ėi elt te)(W0:W 0 m0 [] H2)(turn:M9 σ űb J g tc te W Fin)(hRR:∀D C s' H' ys m',zI X z8 σ èq s'->H' D=Ä->Fin ys H'->s'.heap.Ns C m'->Om X z8 èq s' C->RR Þl C ăr s'){E:Value->Ë->Prop} :Ù ý X.A łq (λacc s3=>Ù ý X.A (newFunctionEnv ŉ ĩj cl [] X.env.qual Ä .none (À Ô)) (λcenv s4=>
   Ĝb ý X.A (.compStart įb 0 Čb acc { cenv with ŉ:=relabel ŉ Ô }) (RR acc cenv.locals) s4) E s3) E t:=by
 refine Ùd (wpAny_newFunctionEnv Ňl (by intro y hy;simp at hy) (λh4 hns P=>?_) ŏf);dsimp only at hns P ⊢;generalize hP:t.heap.push Ċs=P2 at hns P ⊢;have hC:ņg=èd+1:=by rw[<-hP,żb]
 have Q:èd≠ņg:=by rw[hC];exact Ça ąe
 have f:èd<=ņg:=by rw[hC];exact Īg _
 have S:∀b o,Ūq b=À o->h4.get? b=À o:=λb o e=>
  P.extBut b o (Ça àr) (Ī _ (hP▸Ī _ e))
 have hd4:h4.get? èd=À Ċs:=P.extBut _ _ Q (Ī _ (hP▸ū _ rfl));have hfo:∀b∈l,∃o,Ūq b=À o:=λb d=>let ⟨o,e,_⟩:=Ţf 0 _ t0 b d;⟨o,e⟩
 have lt:∀b∈l,b<èd:=λb d=>let ⟨o,e⟩:=hfo b d;ħ e
 generalize hDD:èd=D at Q hd4 ⊢;generalize hCC:ņg=C at Q hns P f ⊢;have m:èd<=D:=Àc hDD
 let X':=vH X ŉ cl own C t H2 l (įc++z8)
 have hpn:∀p∈X'.pn,p.1≠D:=λp hp z=>by obtain⟨e,_⟩:=ţa p hp;rw[z]at e;exact Ú (ŭ ŧc m) Ôa
 have okb:=bw I ŏf Ňl B.Oc B.ok f G hfo
 have U:∀{k:Nat}{a:Á Value}{H':Hp},(∀b∈l,H' b=Ä)->∀b∈l,jg X' ŋg H' b:=λ{k a H'} hn b d=>
  ⟨hn b d,Łq.1,okb.Vp b d,.inl d,Łq.2,λp hp=>by
   rcases Ăa hp with z|z;exact ēe.2.2.2.2.2 p z;have q:p=(D,uK a k):=by simpa using z
   subst q;exact λz=>Ú (lt b d) (by rw[<-z];exact Ÿe m)⟩
 have loop:∀s4:Ë,s4={ t with ç:=h4,Ė:=t.toks+([]:Á Ãc).length }->
   Ĝb ý X.A (.compLoop įb 0 Čb Þl (compEnvC ŉ cl C Ô)) (RR Þl C) s4:=by
  rintro s4 rfl
  refine z7b (λn s'=>∃(i:Nat) (ys:Á V) (a:Á Value) (k:Nat) (H':Hp),zI X' ŋg Ÿd H' s'/\zm ys a/\tn i Ġd/\(∀b∈l,H' b=Ä)/\W i n ys H'/\ãa<=á) ?_ m0
   ⟨0,[],[],0,H2,z0a I ŏf Ňl B.Oc B.ok f m Q G hfo S hns hd4 f6,.nil,Ŏf _ _ _ t0 λb _ o e=>S b o e,λb d=>ēe.1,W0,Áa _⟩
  rintro n s5 ⟨i,ys,a,k,H5,I5,v5,st5,fr5,w5,z5⟩;rcases turn i n ys H5 w5 with⟨ţ,fin⟩|⟨go,room,N,hN,Êd⟩
  .refine ĝa (T.done X' rfl rfl rfl R i _ s5 _ H5 Ŕc I5 (U fr5) st5 ţ) (λr s6 ⟨hr,I6⟩=>?_) λ_ _ z=>z
   subst hr;obtain⟨e6,n6,ne6,nf6,d6⟩:=I6.pin (D,uK a k) Þr;obtain⟨m6,ns6,_⟩:=I6.loc;have u6:Un Ñl l H2 Ķj t.heap s6.heap:=x66 I6.base m n6;have new6:xT ó X.w Ķj s6.heap D ùd:=⟨z5,a,k,v5,e6⟩;have I7:zI X z8 σ Ķj s6:=I.DA I6.os u6 (du I6.zh n6 new6) I6.bare (λb d=>⟨ēe.2.2.2.1,ēe.2.1,ēe.2.2.2.2.1,ēe.2.2.2.2.2⟩);refine hRR D C s6 H5 ys m6 I7 n6 fin ns6 ⟨?_,?_,?_,λx c hcx z=>?_,λp hp z=>?_⟩
   .rw[yB (Ñc Q)];exact I6.free
   .exact λz=>Ú I.lt (by rw[<-z];exact Ÿe f)
   .exact Ğ I.sz f
   .subst z;obtain⟨v,o,ho,_⟩:=Ša x c hcx;exact Ú (ŭ (ħ ho) f) Ôa
   .obtain⟨e,_⟩:=ţa p hp;rw[z]at e;exact Ú àr Ôa
  .refine ĝa (T.item X' rfl rfl rfl R i _ s5 _ H5 Ŕc I5 (U fr5) st5 go) (λr s6 ⟨u,hr,h6⟩=>?_) λ_ _ z=>z
   subst hr;refine ĝa h6 (λ_ s7 ⟨x,H7,I7,r7,y7,st7,fr7⟩=>?_) λ_ _ z=>z
   have I7':=I7.pinned (U fr7) (Ţf _ _ st7);refine ĝa (hg C t H2 l _ _ s7 _ H7 x u _ I7' r7 (Êd x H7 y7)) (λ_ s8 ⟨σ8,H8,I8,⟨τ,hτ⟩,q8⟩=>?_) λ_ _ z=>z
   subst hτ
   have đa:∀{n':Nat}{Y:Á V}{F:Á Value}{k':Nat}{L:Hp}{O:Ë}{pl:Á é},zI X' ((D,uK F k')::pl) Ål L O->zm Y F->tn ê Ľl->(∀b∈l,L b=Ä)->W ê n' Y L->ôe<=á->
     ∃(i:Nat) (ys:Á V) (a:Á Value) (k:Nat) (H':Hp),zI X' ŋg Ÿd H' O/\zm ys a/\tn i Ľl/\(∀b∈l,H' b=Ä)/\W i n' ys H'/\ãa<=á:=λ{n' Y F k' L O pl} Z v9 st9 fr9 w9 z9=>by
    have I9':zI X' [(D,uK F k')] Ål L O:=Z.QM λp hp=>Z.pin p (Ëb _ (by
     have q:p=(D,uK F k'):=by simpa using hp
     subst q;exact ĵ))
    refine⟨i+1,Y,F,k',L,I9'.weak ?_ (λj v e=>?_),v9,st9,fr9,w9,z9⟩
    .rw[I9'.len,<-I5.len]
    .have e':=Lg e;rw[ıb (Ŗ e').1];exact e'
   have h:∀{σ9:St}{L:Hp}{O:Ë},zI X' (ŋg++ID l s7.heap) σ9 L O->tn ê Ľl/\∀b∈l,L b=Ä:=λ{σ9 L O} Z=>
    ⟨Ŏf _ _ _ st7 λb d o e=>Ňm.1,λb d=>by obtain⟨o,e,_⟩:=Ţf _ _ st7 b d;exact Ňm.2.1⟩
   refine ĝa (hc C t H2 l _ _ s8 _ H8 _ I8 q8) (λc O ⟨L,Z,q9⟩=>?_) λ_ _ z=>z
   cases c with
   |Â=>
    rw[Ð ō]at q9 ⊢;obtain⟨m',hm,w9⟩:=hN _ _ q9;exact⟨m',hm,đa Z v5 (h Z).1 (h Z).2 w9 z5⟩
   |Ã=>
    rw[Ï rfl]at q9 ⊢;refine ĝa (he C t H2 l _ _ O _ L _ Z q9) (λyv sa ⟨y,Ha,Ia,ra,qa⟩=>?_) λ_ _ z=>z
    obtain⟨m',hm,wa⟩:=hN _ _ qa;obtain⟨ea,na,_⟩:=Ia.pin (D,uK a k) (Ëb _ (ţd _ ĵ))
    have szi:Ňc<=á:=by have:=v5.length;simp only[ģ];omega
    refine wpAny_list_append_plain (hsz:=szi) ⟨k,ea⟩ λd hlb hsb'=>?_
    obtain⟨kb,eb⟩:=hlb;have eb':d.get? D=À (uK Ěs kb):=by rw[eb];simp
    have Ib:zI X' [(D,uK Ěs kb)] Ål Ha { sa with ç:=d,Ė:=sa.toks }:=z60 (tk:=sa.toks) Ia m hpn hsb' eb';have stb:tn ê d:=Ŏf _ _ _ (h Ia).1 λb hbf o e=>(hsb'.2 b (λz=>Ú (lt b hbf) (by rw[z];exact Ÿe m))).trans e
    exact⟨m',hm,đa Ib (Êh v5 (.cons ra .nil)) stb (h Ia).2 wa (by rw[í];exact room)⟩
 exact codeAny_compStart_list ńq (T.self X.A 0 _ _ _ (Ŏf _ _ _ t0 λb _ o e=>S b o e) ńq)
def x0j(n:Nat)(wi:TI)(g:TG)(tc:TT)(te:TE):TE:=λσ H Q=>wi σ H λJ c=>∃W:Nat->Nat->Á V->Hp->Prop,(∃m,W 0 m [] c)/\
 M9 σ n J g tc te W λb a=>∀p,a p=Ä->Q Êa Ţj
def Om.inv{a:Á é}{σ:St}{H:Hp}{s:Ë}{C:É}{h':Heap}(o:Om X a H s C)(I:zI X a σ H s)(c:ńb C Ý h'):zI X a σ H { s with ç:=h' }:=
 Ža (it:=C) (t':=đ) (λb u d q=>(c.2 b d).trans q) o.free o.ne (.inr o.old) o.cell o.pin
def iE(a:Ž=Ã)(B:Yc X ŉ cl own)(hi:PI X tg Ū wi)(r:∀C s H fp pn,PG êa tg g)(y:∀C s H fp pn,WP êa ifs tc)(z:∀C s H fp pn,PE êa elt te)(n:Ê (∀x,Ŵb Ū Ô x=pure x) q11) :PE X įb (x0j űb wi g tc te):=by intro l s σ H Q I h;rw[eval_ListComp];refine Ìn (use:=Ä) rfl n B.Od ŏf B.names (zn (hi l s σ H _ I h) λv U o=>zn o λL S q=>?_);obtain⟨R,fp,P,J,Z,e,u,T,j,G,W,⟨N,t⟩,b⟩:=q;subst e;refine bz (RR:=λi C=>compPost ý X.A ĩ Ä (EP X l σ Q) i C) a B u T j G r y z t b ?_;intro D C O F E m p K c d f;exact⟨m,d,λY k=>⟨.ref D,zX F D (.lst E),f.inv p k,rfl,c D K⟩⟩
def x0y(i n:Nat)(wi:TI)(g:TG)(tc:TT)(te:TE):TS:=λD σ H=>wi σ H λJ c=>∃W:Nat->Nat->Á V->Hp->Prop,(∃m,W 0 m [] c)/\
 M9 σ n J g tc te W λb a=>∀p,a p=Ä->Éb és Ţj
def iT{i:Nat}{x:Str}{j c:Pos}(d:Ž=Ã)(Z:ľa)(p:X.N[i]?=À x)(F:Łe x=À .local)(B:Yc X ŉ cl own)(q:Œc įb (À Ąr) c.line Ô=pure Ã)(hi:PI X tg Ū wi)(Y:∀C s H fp pn,PG êa tg g)(hc:∀C s H fp pn,WP êa ifs tc)(he:∀C s H fp pn,PE êa elt te)(O:Ê (∀x,Ŵb Ū Ô x=pure x) q11) :PS X (.Assign [.Name x j] įb c) (x0y i űb wi g tc te):=by
 intro u s σ H D I h;rw[exec_Assign_Name_used _ _ _ _ q];refine Ò (úg (Ò ?_));show Ù _ X.A (do let _ <-comprehension įb ŉ Ô _ łq Â (č Ū Ô) ÿs) _ _ s
 refine Ò (zn (Ìn (use:=À Ēm) (Q:=λ_ f=>SP X u D .next f) rfl O B.Od ŏf B.names
  (zn (hi u s σ H _ I h) λv s1 P=>zn P λitv s2 S=>?_)) λ_ f hq=>ĝ (ĝ hq))
 obtain⟨it,fp,tn,J,H2,e,I2,T,t,f2,W,⟨m0,w0⟩,k⟩:=S;subst e;refine bz (RR:=λr C=>compPost ý X.A ĩ ÿs (λ_ f=>SP X u D .next f) r C) d B I2 T t f2 Y hc he w0 k ?_;intro L C f H' ys G R n' n o b;show Ù _ X.A (Ĥc Ąr Ô (.ref L)) _ _ f;refine şo (nB R Z p (.inl F) (v:=.ref L) rfl (λs3 K q3=>?_) (.inr F));obtain⟨a,l,U⟩:=q3
 have m:C≠a:=by rcases U with z|z;rw[z];exact b.ne;exact λy=>b.cell x a z y.symm
 refine⟨G,o.sameBut l m,λh' E=>?_⟩;exact⟨_,_,Om.inv (H:=zX H' L ùd) ⟨b.free,b.ne,b.old,b.cell,b.pin⟩ K E,n L n'⟩
#print a
structure QE(X:Cx)(e:Ñ)(t:TE):Prop where
 h:PE X e t
structure QA(X:Cx)(es:Á Ñ)(t:TA):Prop where
 h:PA X es t
structure QS(X:Cx)(st:Õ)(t:TS):Prop where
 h:PS X st t
structure QG(X:Cx)(e:Ñ)(t:TG):Prop where
 h:PG X e t
structure On(X:Cx)(es:Á Ñ)(t:kq):Prop where
 h:Qx X es t
structure QI(X:Cx)(tg e:Ñ)(t:TI):Prop where
 h:PI X tg e t
section
variable{X:Cx}{x:Str}{p pos İa ěa ßa:Pos}{e a b c o:Ñ}{es:Á Ñ}{te to:TE}{t:TA}{r:R2}{v:V}{T id:Ïa}{j k i:Nat}
def qv(i:Nat){x:Str}{pos:Pos}(b:Ê ŷe q12)(hv:Ê çf q13)(c:Ê Ļ q10)(a:Ê Ŭb q10):QE X Ća Ģe:=⟨V7 b hv c a⟩
def y65(h:wp ð x v)(a:Gl X x)(b:Ê Ļ q10):QE X Ća Œf:=⟨V6 h a b⟩
def y64(b:Gl X x)(a:ð x=Ä)(hv:ť x=À čc)(d:Ê ĺb q10)(c:Ê Ļ q10):QE X Ća ļq:=⟨y4a b a hv d c⟩
noncomputable def Hx:Ñ->Ì
 |.Name ..=>Ã|.Call ..=>Ã|.Subscript ..=>Ã|.Attribute ..=>Ã|.Constant ..=>Ã|.List ..=>Ã|.Tuple ..=>Ã|.BinOp ..=>Ã|_=>Â
def iK{e:Ñ}{env:Env}(h:Hx e=Ã):∀Ãd,Ęe e env Ãd=(do let v <-Ãd;standAt e.pos;holding [v] ĸr):=by cases e<;>first|(intro _;rfl)|cases h
def iy:QA X [] Xe:=⟨V5⟩
def KH(b:QE X e te)(a:QA X es t)(h:Ê ļa q12):QA X ğ śk:=⟨XR b.h a.h h⟩
noncomputable def V8:Ñ->Ì
 |.Name ..=>Ã|.Constant ..=>Ã|.BinOp ..=>Ã|.Call ..=>Ã|.UnaryOp ..=>Ã|.Subscript ..=>Ã|.Attribute ..=>Ã|_=>Â
def Hy{b:Ñ}(h:V8 b=Ã):bI b:=by cases b<;>first|(intro _ _;rfl)|cases h
def Mb{r:Á V->Hp->VK->Prop}(g:vY X ûc r)(f:Gl X x)(c:ð x=Ä)(hv:ť x=À ûc)(d:QA X ğ t)(i:Ê ĺb q10)(b:Ê Ļ q10)(a:Ê ňa q12):QE X ýb Ėh:=by rw[Àa,ĉ]at a;exact⟨y4c g f c hv d.h i b Ďh ēh⟩
def IL{r:Á V->Hp->VK->Prop}(g:vY X čc r)(f:Gl X x)(c:ð x=Ä)(hv:ť x=À čc)(d:QA X ğ t)(i:Ê ĺb q10)(b:Ê Ļ q10)(a:Ê ňa q12):QE X ýb Ėh:=by rw[Àa,ĉ]at a;exact⟨y4e g f c hv d.h i b Ďh ēh⟩
variable{g:TG}
noncomputable def Uw:Ñ->Ì
 |.ListComp ..=>Â|.SetComp ..=>Â|.DictComp ..=>Â|_=>Ã
def fZ{e:Ñ}{tgt:Æ Ñ}{n:Nat}{env:Env}(h:Uw e=Ã):Œc e tgt n env=pure Â:=by cases e<;>first|rfl|cases h
def l5(b:QE X e te)(a:Ê èf q12):QS X Ŀj (nG te):=⟨iR b.h (fZ a)⟩
def KM{i:Nat}{x:Str}{İa:Pos}(f:ľa)(hi:X.N[i]?=À x)(c:j9 îa x)(d:QE X e te)(b:Ê èf q12)(a:Ê Êb q7) :QS X Ág (R6 te Ĩc):=⟨y5p f hi c d.h (fZ b) a⟩
def yp{i:Nat}{x:Str}(a:ľa)(hi:X.N[i]?=À x)(b:j9 îa x)(c:Ê Êb q7):QG X Ća Ĩc:=⟨y4x a hi b c⟩
def iz{o i:Ñ}{to a:TE}{t:Oq}(d:QE X o to)(hi:QE X i a)(b:Dx X t)(c:Ê (V8 i=Ã) q12):QG X ŗi (dL to a t):=by refine⟨y4y d.h Ëd b ?_⟩;cases i<;>first|(intro _;rfl)|cases c
def YB:On X [] Wi:=⟨y51⟩
def uy{t:TG}{u:kq}(c:QG X e t)(b:On X es u)(a:Ê ((àq).map (·.2)=Ĥc e Ô::(Źe).map (·.2)) q12):On X ğ (jI t u):=⟨y50 c.h b.h a⟩
def YA{k:Nat}{t:kq}{n:Nat}(b:Ž=Ã)(h:On X es t)(c:Ê óp q12)(a:Ê ((Źe).findIdx? (·.1)=Ä) q12):QG X Äp Őq:=⟨y4z b h.h c a⟩
variable{Ľ:Str}{rm:V->Á V->Hp->VK->Prop}
theorem n5{env:Env}{pos:Pos}:∀{es:Á Ñ},es.all xV=Ã->(ĸo).all Èk=Ã
 | [],_=>rfl|e::es,h=>by rw[Àa,ĉ]at h;rw[qB h.1];have a:=n5 (env:=env) (pos:=pos) h.2;unfold żc at a ⊢;rw[ř,Àa,a];rfl
def KJ(j:Ęr T)(c:Slot T Ľ id)(f:typeOf ûc=pure ĉn)(i:Dv X id rm)(m:QE X o to)(l:QA X ğ t)(a:Ê ōm q12)(b:Ê ìc q12)(d:Ê ňa q12)(k:Ê ((ğ).length<30) q10) :QE X Ĥm (nF X.K T rm to t):=⟨by have g:=n5 (env:=Ô) (pos:=ßa) d;rw[Àa,ĉ]at d;refine y49 j c f i m.h l.h a ?_ b (qB d.1) (YF d.2);rw[g];show(Ã&&Ã&&decide ((ğ).length+0+0<30))=Ã;rw[î (show(ğ).length+0+0<30 from k)];rfl⟩
#print a
def bM(K:Í)(H:Hp)(a c:É)(xs b:Á V):Prop:=(xF K H a xs/\xF K H c b)\/(yf K H a xs/\yf K H c b)
section
variable{X:Cx}{z8:Á é}{σ:St}{H:Hp}{s:Ë}
def y6r{A:ø}{a c:É}{xs f:Á V}{e:Nat->Ì}(I:zI X z8 σ H s)(l:Şa<Òa)(T:bM X.K H a c xs f)(Q:∀(j:Nat) x' y' u v,xs[j]?=À x'->f[j]?=À y'->zr x' u->zr y' v->Éc Ų s u v (e j)) :ñk A s Ś Ěh ((ćo).all e&&à==Ŀa)/\Řj A s Ś Ěh (!((ćo).all e&&à==Ŀa)):=by
 have g:∀{C:Á V}{b:Á Value}{j:Nat}(R:j<Ľb),zm C b->∃z,C[j]?=À z/\zr z Ēb[j]:=λ{C b j} R r=>by
  have L:=Ûa
  have t:j<C.length:=by rw[ģ]at R;omega
  obtain⟨u,n,S⟩:=Ĩb (Ģ t);refine⟨_,Ģ t,?_⟩
  have:Ēb[j]=u:=by have B:b[j]?=À b[j]:=Ģ Å;rw[B]at n;simpa using n
  rw[this];exact S
 rcases T with⟨E,G⟩|⟨E,G⟩;obtain⟨b,w,i,_⟩:=Ýa E;obtain⟨k,y,h,_⟩:=Ýa G;have P:=óh;have B:=ēf
 have d:∀j (x:j<Ľb) (o:j<Ħg),Éc Ų s Ēb[j] ŷr[j] (e j):=λj x o=>by obtain⟨J,e1,O⟩:=g x w;obtain⟨N,e2,F⟩:=g o y;exact Q j J N _ _ e1 e2 O F
 have p:=SeqAt.RcAt.tuples (e:=e) i h l d;have q:=SeqAt.RcNeAt.tuples (e:=e) i h l d;rw[ģ,ģ,<-P,<-B]at p q;exact⟨p,q⟩;obtain⟨b,w,i,_⟩:=ž E;obtain⟨k,y,h,_⟩:=ž G;have P:=óh;have B:=ēf
 have d:∀j (x:j<Ľb) (o:j<Ħg),Éc Ų s Ēb[j] ŷr[j] (e j):=λj x o=>by obtain⟨J,e1,O⟩:=g x w;obtain⟨N,e2,F⟩:=g o y;exact Q j J N _ _ e1 e2 O F
 by_cases L:à=Ŀa;have m:Ľb=Ħg:=by rw[ģ,ģ];omega
 have p:=SeqAt.RcAt.lists (e:=e) úh ûh m l d;have q:=SeqAt.RcNeAt.lists (e:=e) úh ûh m l d;have e1:min à Ŀa=Ľb:=by rw[ģ];omega
 have e2:Ģr=Ã:=by simp[L]
 rw[e1,e2,Bool.and_true];exact⟨p,q⟩;have m:(Ľb != Ħg)=Ã:=by rw[ģ,ģ];simp;omega
 have e2:Ģr=Â:=by simp[L]
 rw[e2,Ĩg];exact⟨SeqAt.RcAt.lists_lengths úh ûh m l,SeqAt.RcNeAt.lists_lengths úh ûh m l⟩
def Lv(A:ø):A.in1.units=Şa+1:=rfl
#print a
def z2g{x:V}(h:jF x=Ã):qm x x=Ã:=by cases x<;>first|rfl|(simp[qm];done)|cases h
open úl (hideAll)
#print L2
namespace L2
open Ħ Ķ ī
section
variable{H H':Hp}{a C:É}
def sE(a C:É)(h:Heap):Prop:=∃o vs,ĥ a=À o/\ĩb=.ref C/\şa=.fields vs
def x67{fs ex:Á É}{H H':Hp}{h h':Heap}{D:É}{o:HO}(u:Un fs ex H H' h h')(i:ĥ D=Ä)(d:H' D=Ä):Un fs ex H ãr h h' where
 ıa:=Ņf
 slot:=Ŋh
 free:=λb c q n g=>by rw[yB (λz=>by subst z;rw[i]at q;cases q)];exact ŋh b c q n g
 ŵh:=ħh
 qJ:=λb e q=>by rw[yB ďo];exact u.qJ b e q
 tT:=λb c v q=>by rw[yB Ào];exact u.tT b c v q
 pG:=λb f q=>by obtain⟨a,z⟩:=u.pG b f q;exact⟨a,by rw[yB (qu z d)];exact z⟩
#print a
section
variable{X:Cx}
def BO{ns:Á Int}{its:Á Value}(r:zm Ġa its){i:Nat}{v:Value}(h:âa[i]?=À v):∃t,v=.int Üs t:=by
 have e:i<ŋb:=by rw[šd]at h;exact ĝb.1
 have d:Ùa=ŋb:=by have:=Ûa;rw[ä]at this;exact this
 have b:Ġa[i]?=À (Β Üs):=by rw[ş,Āa,Ģ Å];rfl
 obtain⟨u,c,a⟩:=Ĩb b;rw[šd,c]at h;cases h;exact a
theorem Hz{ns:Á Int}:∀(k:Nat),k<=Ùa->ňf Ŗp k=(Ũg).sum
 |0,_=>by simp[ňf]|k+1,h=>by rw[ňf,Hz k Å,Ōd Å,List.sum_append,Āa,Ģ Å];show _+ns[k]=_+(ns[k]+0);rw[Ëf]
def bN(ns:Á Int):Prop:=(∀n∈ns,ŗh n)/\∀k,k<=Ùa->ŗh (Ũg).sum
def lN(K:Í):Á V->Hp->VK->Prop:=λa H Q=>∃(p:É) (ns:Á Int),a=Đd/\(yf K H p Ġa\/xF K H p Ġa)/\bN ns/\Q (.int İl) H
def nC{ns:Á Int}(h:bN ns):∀j,j<Ùa->ŗh (ŵg j 0)/\ŗh (ňf Ŗp Ŝ):=λj a=>by refine⟨h.1 _ ?_,?_⟩;rw[Āa,Ģ a];exact Ÿb a;rw[Hz _ Å];exact h.2 _ Å
def z14(C:Ž=Ã):vY X ñp (lN X.K):=by
 intro N s σ H L J Q I r h;obtain⟨p,d,rfl,l,A,q⟩:=h;obtain⟨u,rfl,F⟩:=tQ r;cases F;have B:=Ùb C;have e:ňf (λi=>Œh i 0) åa=d.sum:=by rw[Hz _ Ē,ëd]
 refine call_sum_walk ?_;rcases l with l|l;obtain⟨a,w,j,G⟩:=ž l;have m:åa=Ňc:=by have:=óh;rw[ä]at this;rw[ģ];exact this
 have c:p<Û:=by obtain⟨o,n,e,_⟩:=j;exact ħ e
 refine Śd j.isList ?_;refine⟨_,_,_,_,_,_,λi=>Œh i 0,rfl,îk ŧj Û p ďl Őb,⟨⟨_,ū _ rfl,rfl,rfl⟩,j.isList.push _⟩,?_,λi v x=>BO w x,?_,?_⟩;intro b t;show b<(Ūa _).objs.size;rw[żb];simp only[Ůa,Ğa,Ża]at t;rcases t with rfl|rfl;exact ïc _;exact ųd c;rw[<-m];exact nC A;intro E y t' k;rw[<-m,e]
 exact⟨.int d.sum,H,Ĵd (t':=y) λb o f=>k b o (λz=>by
  have:b=Û:=by simpa using z
  rw[this]at f;exact Ú ļh Ôa) ûs,⟨_,rfl⟩,q⟩
 obtain⟨a,w,j,G⟩:=Ýa l;have m:åa=Ňc:=by have:=óh;rw[ä]at this;rw[ģ];exact this
 have g:Ãe p Őb:=j;have c:p<Û:=by obtain⟨o,e,_⟩:=g;exact ħ e
 refine ĥi g ?_;refine⟨_,_,_,_,_,_,λi=>Œh i 0,rfl,Walks.tuple ŧj Û p ďl Őb,⟨⟨_,ū _ rfl,rfl,rfl⟩,g.push _⟩,?_,λi v x=>BO w x,?_,?_⟩;intro b t;show b<(Ūa _).objs.size;rw[żb];simp only[Ůa,Ğa,Ża]at t;rcases t with rfl|rfl;exact ïc _;exact ųd c;rw[<-m];exact nC A;intro E y t' k;rw[<-m,e]
 exact⟨.int d.sum,H,Ĵd (t':=y) λb o f=>k b o (λz=>by
  have:b=Û:=by simpa using z
  rw[this]at f;exact Ú ļh Ôa) ûs,⟨_,rfl⟩,q⟩
def x6c{a:Á Ì}{its:Á Value}(r:zm Ŏq its){i:Nat}{v:Value}(h:âa[i]?=À v):v=.bool Ůp:=by
 have f:i<ŋb:=by rw[šd]at h;exact ĝb.1
 have e:ŗb=ŋb:=by have:=Ûa;rw[ä]at this;exact this
 have c:Ŏq[i]?=À (.bl Ůp):=by rw[ş,Āa,Ģ Å];rfl
 obtain⟨u,d,b⟩:=Ĩb c;rw[šd,d]at h;cases h;exact b
def y6p{d:Á Ì}:(Ēa åa).all (λi=>Œh i Â)=d.all id:=by
 rw[ŉc,Ûp,Ûp]
 constructor;intro h b e;obtain⟨i,c,rfl⟩:=Ņn e;have:=h i (âd c)
 rwa [Āa,Ģ c]at this;intro h i c;have a:=ôc c;rw[Āa,Ģ a];exact h _ (Ÿb a)
def l8(K:Í):Á V->Hp->VK->Prop:=λa H Q=>∃(p:É) (bs:Á Ì),a=Đd/\yf K H p (œh V.bl)/\Q (.bl (bs.all id)) H
def z0q(m:Ž=Ã):vY X òp (l8 X.K):=by
 intro L s σ H G C Q I r h;obtain⟨p,g,rfl,t,q⟩:=h;obtain⟨u,rfl,A⟩:=tQ r;cases A;have y:=Ùb m;refine call_all_walk ?_;obtain⟨a,l,c,N⟩:=ž t;have w:Ēc=Ňc:=by have:=ŕb;rw[ä]at this;rw[ģ];exact this
 have f:p<Û:=by obtain⟨o,n,e,_⟩:=c;exact ħ e
 refine Śd c.isList ?_;refine⟨_,_,_,_,_,_,λi=>g.getD i Â,rfl,îk (by exact y) Û p (Ça f) Őb,⟨⟨_,ū _ rfl,rfl,rfl⟩,c.isList.push _⟩,?_,?_⟩;intro i v E J F x j;rw[x6c l x];exact ĝ j;intro j B k;rw[<-w,y6p]
 exact⟨.bl (g.all id),H,Ĵd (t':=B) λb o d=>k b o (λz=>by
  have:b=Û:=by simpa using z
  rw[this]at d;exact Ú (ħ d) Ôa) (Ī _ d),rfl,q⟩
#print a
open Builtin.SmallTypes (Ěc)
structure WS(P:å)(w:ß)(it l:É)(st:Nat->Heap->Prop)(n:Nat)(val:Nat->Value):Prop where
 ıa:∀i h h',st i h->(∀b o,(b=it\/b=l)->ĥ b=À o->ġ b=À o)->st i h'
 öb:∀{A:ø}{Q:Value->Ë->Prop}{E:Value->Ë->Prop}{s:Ë}(i:Nat),st i Ý->i<n->(∀h',st ê h'->ńb it Ý h'->Q (val i) { s with ç:=h' })->Ù Æc A Ùh Q E s
 done:∀{A:ø}{Q:Value->Ë->Prop}{E:Value->Ë->Prop}{s:Ë}(i:Nat),Ìc=Ä->st i Ý->n<=i->
  (∀h' e,Ãr it Ý h'->(∃o,ġ e=À o/\ĩb=.type Ŭe)->E ęh { s with ç:=h' })->Ù Æc A Ùh Q E s
section
variable{Ĝ:å}{w:ß}{A:ø}{E:Value->Ë->Prop}{s:Ë}
def z8r{it t:É}{i:Nat}{zF}{x:Value}{Q:Value->Ë->Prop}(a:Ħo it t i)(f:Ãe t zF)(g:zF[i]?=À x)(j:∀h',h'.IsTupleIter it t ê->ńb it Ý h'->Q x { s with ç:=h' }):Ù è A Ùh Q E s:=by
 obtain⟨o,c,h,b⟩:=id a;obtain⟨l,e,_,k,d⟩:=f;unfold Ěc
 refine Ò (Ŏd (Ľ:=úd űg) a.typeIs Żf
  (Ŕd Żf a.typeIs ŭm ?_ ŉm))
 refine Ò (m:=Åd Čb 0) (Ĳb c b (x:=.ref t) rfl ?_);show Ù _ _ äs _ _ s;rw[Ð (show ¬ Þs from ō)];refine Ò (m:=Åd Čb 1) (Ĳb c b (x:=.int i 0) rfl ?_);refine Ò (m:=seqItems? (.ref t)) (ĳb e d ?_);simp only[Ň,g];refine Ò (ĺp c b ã (ĝ ⟨x,rfl,ĝ (j _ ?_ (ùo ..))⟩))
 exact⟨_,êg _ c (Obj.isFreed_of_fields (ĭo b _)),(Obj.cls_mapFields ..).trans h,by rw[ĭo b];simp[Ĺf]⟩
def z8q{it t:É}{i:Nat}{zF}{Q:Value->Ë->Prop}(h:Ìc=Ä)(b:Ħo it t i)(j:Ãe t zF)(k:zF[i]?=Ä)(l:∀h' e,Ãr it Ý h'->(∃o,ġ e=À o/\ĩb=.type Ŭe)->E ęh { s with ç:=h' }):Ù è A Ùh Q E s:=by
 obtain⟨o,g,q,f⟩:=id b;obtain⟨p,d,_,n,c⟩:=j;unfold Ěc
 refine Ò (Ŏd (Ľ:=úd űg) Ĝf Żf
  (Ŕd Żf Ĝf ŭm ?_ ŉm))
 refine Ò (m:=Åd Čb 0) (Ĳb g f (x:=.ref t) rfl ?_);show Ù _ _ äs _ _ s;rw[Ð (show ¬ Þs from ō)];refine Ò (m:=Åd Čb 1) (Ĳb g f (x:=.int i 0) rfl ?_);refine Ò (m:=seqItems? (.ref t)) (ĳb d c ?_);simp only[Ň,k];refine Ò (ūd (Ò (ĺp g f ã ?_)));refine Ò (m:=newExc (.type Ŭe) []) ?_;simp only[newExc,newTuple];refine Ò (Ùd ?_ ūp);refine Ò (m:=ŀp _ _) (Ĉg (a:=Áe) (by first|rfl|(simp only[ŀp];rfl)) ?_);refine Ùd ?_ ūp;simp only[raiseNew];refine Ò (wpAny_handled ?_)
 first|rw[show A.in1.handled=Ä from h]|rw[h]
 refine Ò (ĝ (wpAny_throw ?_));exact l _ _ (((ùo ..).extBut.push _).push _) ⟨_,ū _ rfl,rfl⟩
def y9t{it l:É}(a:l≠it)(zF:Ø Value):WS Ĝ w it l (λi h=>ŕj it l i/\h.IsList l zF) ĳ Ľi where
 ıa:=λi h d st k=>⟨st.1.at λo e=>k it o Ĺ e,st.2.at λo e=>k l o ŏb e⟩
 öb:=λi st c g=>wpAny_nextOf_list_item st.1 st.2 (x:=zF.getD i .none) åp λd b f=>g d ⟨b,st.2.extBut ęf a⟩ f
 done:=λi j st c m=>wpAny_nextOf_list_end j st.1 st.2 (ĺi c) m
def y9u{it l:É}(a:l≠it)(zF:Ø Value):WS Ĝ w it l (λi h=>Çq it l i/\źr l zF) ĳ Ľi where
 ıa:=λi h d st k=>⟨st.1.at λo e=>k it o Ĺ e,st.2.at λo e=>k l o ŏb e⟩
 öb:=λi st c g=>z8r st.1 st.2 (x:=zF.getD i .none) åp λd b f=>g d ⟨b,st.2.extBut ęf a⟩ f
 done:=λi j st c m=>z8q j st.1 st.2 (ĺi c) m
variable{z TI TO i1 i2 l1 l2:É}{st1 st2:Nat->Heap->Prop}{n1 n2:Nat}{v1 v2:Nat->Value}{a b:Value}{k:Nat}
def x8r{Q:Value->Ë->Prop}(D:ĝf z TI TO i1 i2 l1 l2)(H:WS Ĝ w i1 l1 st1 n1 v1)(J:WS Ĝ w i2 l2 st2 n2 v2)(hz:ób Ý z TI TO .none)(hTI:ła Ý TI Ďf êh)(T:ła Ý TO a b)(h1:st1 k Ý)(h2:st2 k Ý)(k1:k<n1)(k2:k<n2)(hi1:i1<Û)(hi2:i2<Û)(hl1:l1<Û)(hl2:l2<Û)(hQ:∀h',ób h' z TI TO (Ĺf Û)->ła h' TO Ĝe ŧh->st1 Ņ h'->st2 Ņ h'->ła h' Û Ĝe ŧh->
   (∀c o,c≠z->c≠TO->c≠i1->c≠i2->Ą c=À o->ġ c=À o)->Q ĉc { s with ç:=h' }) :
  Ù è A Ěm (λfin s'=>∃v,fin=.done úf/\Q v s') E s:=by
 refine Ò (m:=Åd ĕc 2) ũm;refine Ò (m:=Åd ĕc 3) ŵm;refine Ò (ĳb hTI rfl ?_);refine Ò (m:=ŷf ĕc) ?_;unfold ŷf;refine Ò Žm;simp only[ś];refine Ò ēm;refine Ò (Ŗd hz ã λha p C=>?_)
 replace p:ób ha z TI TO .ellipsis:=p
 refine Ò ?_;simp only[Ôj,Āp,êj,Ňp];have R:st1 k ha:=łl k _ _ h1 λc o K e=>ğf c o (by rcases K with rfl|rfl;exact Èi;exact D.l1z) e
 refine Ò (Τa (Ò (m:=Ěc Ďf) (H.item k R k1 λhb Z y=>ĝ ?_)));have j:ła hb TO a b:=Ĕf _ _ D.TOi1 (ğf _ _ Éi T);refine Ò (ĳb j rfl (Ò (Ěi j λK h r=>?_)))
 replace h:ła K TO Ĝe b:=h
 refine Ò ŭj
 have S:st2 k K:=Ŀl k _ _ h2 λc o d e=>by rcases d with rfl|rfl;exact ñe _ _ Âk (Ĕf _ _ Ĝr (ğf _ _ Çi e));exact ñe _ _ Ņl (Ĕf _ _ D.l2i1 (ğf _ _ D.l2z e))
 refine Ò (Τa (Ò (m:=Ěc êh) (J.item k S k2 λhd X B=>ĝ ?_)));have n:ła hd TO Ĝe b:=Ġf _ _ D.TOi2 h;refine Ò (ĳb n rfl (Ò (Ěi n λf g q=>?_)))
 replace g:ła f TO Ĝe ŧh:=g
 refine Ò (Žf üs);refine Ò (ĳb g rfl (Ò (Ļp ?_)));have F:Ůe=Û:=by rw[q.1,B.1,r.1,y.1,C.1]
 have G:ób f z TI TO .ellipsis:=òe _ _ ök (Ġf _ _ ěr (ñe _ _ ök (Ĕf _ _ õk p)))
 have P:∀c o,c≠z->c≠TO->c≠i1->c≠i2->Ą c=À o->f.get? c=À o:=λc o u L O Y e=>
  òe _ _ L (Ġf _ _ Y (ñe _ _ L (Ĕf _ _ O (ğf _ _ u e))))
 have U:st1 Ņ f:=łl _ _ _ Z λc o d e=>by rcases d with rfl|rfl;exact òe _ _ År (Ġf _ _ D.i12 (ñe _ _ År e));exact òe _ _ D.l1TO (Ġf _ _ D.l1i2 (ñe _ _ D.l1TO e))
 have h2e:st2 Ņ f:=Ŀl _ _ _ X λc o d e=>by rcases d with rfl|rfl;exact òe _ _ Âk e;exact òe _ _ Ņl e
 have l:z<Ůe:=ħ G;refine Ò (m:=Ŕm ĕc Ŝr) ?_;unfold Ŕm;have W:ób (f.push { cls:=.type Ŧ,Ć:=.seq #[v1 k,v2 k] }) z TI TO .ellipsis:=Ī _ G;refine Ò (Ŗd W ã λhg t sg=>?_)
 replace t:ób hg z TI TO Ûs:=t
 refine Ŗd t ã λN i sh=>?_
 replace i:ób N z TI TO Ûs:=i
 have I:∀c o,c≠z->f.get? c=À o->N.get? c=À o:=λc o u e=>Ůr _ _ u (ůr _ _ u áh)
 have hT:ła N Ůe Ĝe ŧh:=Ůr _ _ (ŀb l) (ůr _ _ (ŀb l) Ée);rw[F]at i hT;refine ĝ ⟨_,rfl,?_⟩;show Q Ŝr _;rw[F];refine hQ N i (I _ _ Éi g) (łl _ _ _ U λc o d e=>I c o ?_ e) (Ŀl _ _ _ h2e λc o d e=>I c o ?_ e) hT λc o u L O Y e=>I c o u (P c o u L O Y e)
 .rcases d with rfl|rfl
  .exact Èi
  .exact D.l1z
 .rcases d with rfl|rfl
  .exact Çi
  .exact D.l2z
def x8q{Q:Fin->Ë->Prop}(T:Ìc=Ä)(D:ĝf z TI TO i1 i2 l1 l2)(y:WS Ĝ w i1 l1 st1 n1 v1)(P:WS Ĝ w i2 l2 st2 n2 v2)(hz:ób Ý z TI TO .none)(L:ła Ý TI Ďf êh)(C:ła Ý TO a b)(W:st1 k Ý)(X:st2 k Ý)(S:n1<=k\/n2<=k)(U:∀h' e,(∀c o,c≠z->c≠TO->c≠i1->c≠i2->Ą c=À o->ġ c=À o)->(∃o,ġ e=À o/\ĩb=.type Ŭe)->E ęh { s with ç:=h' }) :Ù è A Ěm Q E s:=by
 refine Ò (m:=Åd ĕc 2) ũm;refine Ò (m:=Åd ĕc 3) ŵm;refine Ò (ĳb L rfl ?_);refine Ò (m:=ŷf ĕc) ?_;unfold ŷf;refine Ò Žm;simp only[ś];refine Ò ēm;refine Ò (Ŗd hz ã λO g l=>?_)
 replace g:ób O z TI TO .ellipsis:=g
 refine Ò ?_;simp only[Ôj,Āp,êj,Ňp];have n:st1 k O:=y.keep k _ _ W λc o G e=>Ċd c o (by rcases G with rfl|rfl;exact Èi;exact D.l1z) e
 by_cases k1:k<n1;have Y:n2<=k:=by omega
 refine Ò (Τa (Ò (m:=Ěc Ďf) (y.item k n k1 λK h1b i=>ĝ ?_)));have h:ła K TO a b:=Ęf _ _ D.TOi1 (Ċd _ _ Éi C);refine Ò (ĳb h rfl (Ò (Ěi h λG N u=>?_)));refine Ò ŭj
 have B:st2 k G:=P.keep k _ _ X λc o F e=>by rcases F with rfl|rfl;exact ôh _ _ Âk (Ęf _ _ Ĝr (Ċd _ _ Çi e));exact ôh _ _ Ņl (Ęf _ _ D.l2i1 (Ċd _ _ D.l2z e))
 refine Ò (Τa (Ò (m:=Ěc êh) (P.done k T B Y λhd e R I=>?_)));obtain⟨J,d,f⟩:=I;have r:ób hd z TI TO .ellipsis:=R _ _ ěr (ôh _ _ ök (Ęf _ _ õk g));have j:e≠z:=λx=>by subst x;rw[r]at d;cases d;simp at f
 exact Ŗd r ã λH _ p=>U H e (λc o q c2 v Z x=>öh _ _ q (R _ _ Z (ôh _ _ c2 (Ęf _ _ v Üq)))) ⟨J,öh _ _ j d,f⟩;refine Ò (Τa (Ò (m:=Ěc Ďf) (y.done k T n Å λK e i I=>?_)));obtain⟨J,d,f⟩:=I;have t:ób K z TI TO .ellipsis:=i _ _ õk g;have j:e≠z:=λx=>by subst x;rw[t]at d;cases d;simp at f
 exact Ŗd t ã λH _ p=>U H e (λc o q _ v _ x=>öh _ _ q (i _ _ v Üq)) ⟨J,öh _ _ j d,f⟩
#print a
#print L2
namespace L2
open Ħ Ķ ī
def qN(K:Í)(b:Ì)(H:Hp)(a:É)(xs:Á V):Prop:=match b with
 |Ã=>xF K H a xs|Â=>yf K H a xs
noncomputable def Jj(a:Ì):Ïa:=match a with
 |Ã => "tuple_iterator"|Â => õp
def qj(b:Ì)(h:Heap)(a:É)(its:Ø Value):Prop:=match b with
 |Ã=>źr a its|Â=>h.IsList a its
def Yq(a:Ì)(h:Heap)(it l:É)(i:Nat):Prop:=∃o,ĥ it=À o/\ĩb=.type (Jj a)/\şa=.fields #[.ref l,.int i 0]
theorem Yq.at{a:Ì}{h h':Heap}{it l:É}{i:Nat}(x:Yq a h it l i)(e:∀o,ĥ it=À o->ġ it=À o):Yq a h' it l i:=let ⟨o,ho,r⟩:=x;⟨o,e _ ho,r⟩
theorem qj.push{b:Ì}{h:Heap}{a:É}{its:Ø Value}(x:qj b h a its)(o:Obj):qj b (Ĳl o) a its:=by cases b;exact Heap.IsList.push x o;exact Heap.IsTuple.push x o
def qj.lt{b:Ì}{h:Heap}{a:É}{its:Ø Value}(x:qj b h a its):a<ĉb:=by cases b;obtain⟨o,e,_⟩:=x;exact ħ e;obtain⟨o,e,_⟩:=x;exact ħ e
section
variable{Ĝ:å}{w:ß}{A:ø}{E:Value->Ë->Prop}{s:Ë}
def B7{b:Ì}{it l:É}(a:l≠it)(zF:Ø Value):WS Ĝ w it l (λi h=>Yq b h it l i/\qj b h l zF) ĳ Ľi:=by cases b;exact y9t a zF;exact y9u a zF
def ir{a:Ì}{l:É}{zF:Ø Value}{Q:Value->Ë->Prop}(h:qj a Ý l zF)(b:Q ĉc { s with ç:=Ūa { cls:=.type (Jj a),Ć:=.fields #[.ref l,.int 0 0] } }):Ù è A (Ňf Űc) Q E s:=by cases a;exact Śd (show Ãq l zF from h) b;exact ĥi (show Ãe l zF from h) b
abbrev BZ(t1:Ì)(h:Heap)(l1:É):Heap:=Ĳl { cls:=.type (Jj t1),Ć:=.fields #[.ref l1,.int 0 0] }
abbrev Ba(t1 t2:Ì)(h:Heap)(l1 l2:É):Heap:=(Ŗq).push { cls:=.type (Jj t2),Ć:=.fields #[.ref l2,.int 0 0] }
abbrev Bb(t1 t2:Ì)(h:Heap)(l1 l2:É):Heap:=(Řo).push { cls:=.type Ŧ,Ć:=.seq #[.ref ĉb,.ref (Ŗq).objs.size] }
abbrev Bc(t1 t2:Ì)(h:Heap)(l1 l2:É):Heap:=(ŗo).push { cls:=.type Ŧ,Ć:=.seq #[.none,.none] }
abbrev Te(t1 t2:Ì)(h:Heap)(l1 l2:É):Heap:=(Bc t1 t2 h l1 l2).push { cls:=.type ńa,Ć:=.fields #[.none,.bool Â,.bool Â,.ref (Řo).objs.size,.ref (ŗo).objs.size] }
def x8v(c e:Ì)(a b:É)(xs l:Ø Value) :Meets (Builtin.«zip.__new__» ⟨[.type ńa,.ref a,.ref b],[]⟩) (λ_ R s=>qj c Ý a xs/\qj e Ý b l/\R (.ok (.ret (.ref (Bc c e Ý a b).objs.size))) { s with ç:=Te c e Ý a b }):=
 .of_wp λprog w A R s h=>by
  obtain⟨m,g,d,n,p⟩:=s;obtain⟨i,k,h⟩:=h;have o:=sub_zip;have f:qj c (źq ⟨m,g,d,n,p⟩) a xs:=i;have j:qj e (źq ⟨m.push { cls:=.type (Jj c),Ć:=.fields #[.ref a,.int 0 0] },g,d,n,p⟩) b l:=qj.push k _
  wp_walk using ir f,ir j
  exact⟨_,rfl,h⟩
def z15{b e:Ì}{a d:É}{xs r:Ø Value}{Q:Value->Ë->Prop}(j:qj b Ý a xs)(f:qj e Ý d r)(h:∀h',ób h' (Û+4) (Û+2) (Û+3) .none->ła h' (Û+2) ĉc (.ref īa)->
   ła h' (Û+3) .none .none->Yq b h' Û a 0->Yq e h' īa d 0->
   (∀c o,Ą c=À o->ġ c=À o)->Q (.ref (Û+4)) { s with ç:=h' }) :
  Ù è A (Çb ār [.ref a,.ref d]) Q E s:=by
 refine callType_new F.called_zip È (F.typeCall_zip_2 _ _) (F.newCall_zip_2 _ _) (λg=>F.args_object_init_3 g _ _) F.entry_zip_new (x8v b e a d xs r) ⟨j,f,?_⟩;have k:(BZ b Ý a).objs.size=Û+1:=żb ..;have l:(Ba b e Ý a d).objs.size=Û+2:=by rw[żb,k]
 have m:(Bb b e Ý a d).objs.size=Û+3:=by rw[żb,l]
 have t:(Bc b e Ý a d).objs.size=Û+4:=by rw[żb,m]
 have i:(ūe).get? (Bc b e Ý a d).objs.size=À _:=ū _ rfl;have p:(ūe).get? (Bb b e Ý a d).objs.size=À _:=Ī _ Ée;have q:(ūe).get? (Ba b e Ý a d).objs.size=À _:=Ī _ (Ī _ Ée);have n:(ūe).get? (BZ b Ý a).objs.size=À _:=Ī _ ĉo;have u:(ūe).get? Û=À _:=Ī _ (Ī _ ĉo);show _/\_;rw[l,m,t]at i;rw[k,l]at q;rw[m]at p;rw[k]at n;rw[t]
 exact⟨⟨_,i,rfl⟩,h _ i q p ⟨_,u,rfl,rfl⟩ ⟨_,n,rfl,rfl⟩ λc o x=>
  Ī _ (Ī _ (Ī _ (Ī _ (Ī _ x))))⟩
#print a
section
variable{X:Cx}{z8:Á é}{σ:St}{H:Hp}{s:Ë}
def zI.Vt{b:Ì}{a:É}{xs:Á V}(I:zI X z8 σ H s)(h:qN X.K b H a xs):∃its:Á Value,zm xs its/\qj b Ý a âa:=by cases b;obtain⟨its,r,p,_⟩:=ž h;exact⟨its,r,õh⟩;obtain⟨its,r,p,_⟩:=Ýa h;exact⟨its,r,p⟩
def zI.AB{b:Ì}{a:É}{xs c:Á V}(I:zI X z8 σ H s)(h:qN X.K b H a xs)(h':qN X.K b H a c):xs=c:=by cases b;exact I.Of h h';exact I.DI h h'
def nQ{fs ch:Á É}{h h':Heap}(k:∀b o,b ∉ ch->ĥ b=À o->ġ b=À o):Un fs ch H H h h':=
 ⟨λb o e _ _ a=>k b o a e,λb o e _ _ a=>⟨o.slots,k b o a e⟩,λ_ _ _ n _=>n,λb o e a=>⟨o,k b o a e⟩,λ_ _ z=>z,λ_ _ _ z=>z,λb c e=>⟨#[],by rw[e];simp⟩⟩
def dt{P:å}{w:ß}{ch:Á É}{h h':Heap}(x:wE P w H h)(f:∀b∈ch,H b=Ä)(k:∀b o,b ∉ ch->ĥ b=À o->ġ b=À o):wE P w H h':=λb u e=>by
 have a:∀c v,H c=À v->c ∉ ch:=λc v e z=>by rw[f c z]at e;cases e
 refine(ŏk).YX (λc v d q=>k c v ?_ q) żg λ_ _ q=>q
 rcases d with z|z;rw[z];exact a b u e;exact a c _ z
def zI.but{ch:Á É}{h':Heap}{tk:Nat}(I:zI X z8 σ H s)(c:∀b∈ch,jg X z8 H b)(k:∀b o,b ∉ ch->Ą b=À o->ġ b=À o):zI X z8 σ H { s with ç:=h',Ė:=tk }:=
 I.DA (s':={ s with ç:=h',Ė:=tk }) rfl (nQ k) Ģn èb λb a=>⟨ęc.2.2.2.1,ęc.2.1,ęc.2.2.2.2.1,ęc.2.2.2.2.2⟩
def zI.DB{ch:Á É}{h':Heap}{tk:Nat}{T:É}{o:HO}(I:zI X z8 σ H s)(c:∀b∈ch,jg X z8 H b)(k:∀b o,b ∉ ch->Ą b=À o->ġ b=À o)(f:Ą T=Ä)(e:H T=Ä)(d:xT ó X.w Ĩr h' T o):zI X z8 σ Ĩr { s with ç:=h',Ė:=tk }:=
 I.DA (s':={ s with ç:=h',Ė:=tk }) rfl (x67 (nQ k) f e) (du Ģn e d) èb λb a=>⟨ęc.2.2.2.1,ęc.2.1,ęc.2.2.2.2.1,ęc.2.2.2.2.2⟩
#print a
def Dt(K:Í)(d c:Ì)(a b:É):It:=
  ⟨λi H=>∃xs ys x y,qN K d H a xs/\qN K c H b ys/\xs[i]?=À x/\ys[i]?=À y,
   λi H v e=>∃p,H p=Ä/\v=.ref p/\∀xs ys,qN K d H a xs->qN K c H b ys->∃x y,xs[i]?=À x/\ys[i]?=À y/\e=zX H p Ïe,
   λi H=>∃xs ys,qN K d H a xs/\qN K c H b ys/\(à<=i\/ãa<=i)⟩
def x4r{P:å}{w:ß}{K:Í}{U:Á Ñ}{S:Nat}{pos:Pos}(t1 t2:Ì)(a b z TI TO r B:É)(D:ĝf z TI TO r B a b) :ga P w K (.Tuple U S pos) ßj Øq z (λi h=>ób h z TI TO .none/\ła h TI (.ref r) ßl/\(∃u v,ła h TO u v)/\Yq t1 h r a i/\Yq t2 h B b i) where
 mem:=by simp
 obj:=λi h st c d=>by obtain⟨f,j,⟨u,v,m⟩,⟨o4,n,_,d4⟩,⟨o5,p,_,d5⟩⟩:=st;simp only[Ůa,Ğa,Ża]at d;rcases d with rfl|rfl|rfl|rfl|rfl;exact⟨_,f,λv q=>nomatch q⟩;exact⟨_,j,λv q=>nomatch q⟩;exact⟨_,m,λv q=>nomatch q⟩;exact⟨_,n,λv q=>by rw[d4]at q;cases q⟩;exact⟨_,p,λv q=>by rw[d5]at q;cases q⟩
 ıa:=λi h h' st k=>by obtain⟨f,j,⟨u,v,m⟩,n,p⟩:=st;exact⟨k z ã _ f,k TI ã _ j,⟨u,v,k TO ã _ m⟩,n.at λo e=>k r ã o e,p.at λo e=>k B ã o e⟩
 öb:=by
  intro X hP hw hK d i z8 s σ H E I hf st hg;subst hP hw hK;obtain⟨f,j,⟨u,v,m⟩,n,p⟩:=st;obtain⟨xs,ys,x,y,hx,Z,ex,ey⟩:=hg;obtain⟨G,ru,pu⟩:=I.Vt hx;obtain⟨J,A,pw⟩:=I.Vt Z;obtain⟨xu,Y,rxu⟩:=ru.get ex;obtain⟨yw,O,ryw⟩:=A.get ey;have k1:i<Ŋp:=by rw[ģ];exact(Ŗ Y).1
  have k2:i<ŉp:=by rw[ģ];exact(Ŗ O).1
  have e1:G.toArray.getD i .none=xu:=by have:=Ŗ Y;obtain⟨l,e⟩:=this;simp[ĝj,l,e]
  have e2:J.toArray.getD i .none=yw:=by have:=Ŗ O;obtain⟨l,e⟩:=this;simp[ĝj,l,e]
  have N:Ŕb ĕc ńa:=⟨_,f,rfl⟩;have q4:r<Û:=by obtain⟨o,e,_⟩:=n;exact ħ e
  have q5:B<Û:=by obtain⟨o,e,_⟩:=p;exact ħ e
  unfold Ĩh
  refine Ò (Śi (Ŏd (Ľ:=úd űg) N çg (Ŕd çg N Ýp
   (x8r D İp Ço f j m ⟨n,pu⟩ ⟨p,pw⟩ k1 k2 q4 q5 pu.lt pw.lt λh' a1 a2 a3 a4 a5 a6=>ĝ ?_) Æo)))
  rw[e1,e2]at a2 a5;refine⟨_,rfl,wpAny_letOwnedTupleGo_zip (s:={ s with ç:=h' }) a1 λC b1 L=>?_⟩
  have hTs:Ą Û=Ä:=by
   cases q:Ą Û with
   |Ä=>rfl|À o=>exact Ú ľf Ôa
  have Q:H Û=Ä:=źb Ē;have hTz:Û≠z:=ŀb ļh;have tup:C.get? Û=À { cls:=.type Ŧ,Ć:=.seq #[xu,yw] }:=öe _ _ hTz a5
  have S:∀c o,c ∉ Øq->Ą c=À o->C.get? c=À o:=λc o d e=>by simp only[Ůa,Ğa,Ża,ŏh]at d;exact öe _ _ d.1 (a6 c o d.1 d.2.2.1 d.2.2.2.1 d.2.2.2.2 e)
  have new:xT ó X.w (zX H Û Ïe) C Û Ïe:=⟨Ĵi,[xu,yw],.cons rxu (.cons ryw .nil),⟨_,tup,rfl,_,rfl⟩⟩;refine⟨.ref Û,zX H Û Ïe,I.DB (tk:=đ) hf S hTs Q new,rfl,⟨Û,Q,rfl,λxs' ys' hx' hy'=>?_⟩,⟨b1,?_,⟨_,_,öe _ _ Éi a2⟩,a3.1.at λo e=>öe _ _ Èi e,a4.1.at λo e=>öe _ _ Çi e⟩,λc d=>?_⟩;rw[I.AB hx' hx,I.AB hy' Z];exact⟨x,y,ex,ey,rfl⟩;exact öe _ _ D.TIz (a6 _ _ D.TIz D.TITO D.TIi1 D.TIi2 j);rw[yB];exact(hf c d).1;intro q
  have R:c<Û:=by simp only[Ůa,Ğa,Ża]at d;rcases d with rfl|rfl|rfl|rfl|rfl;exact ħ f;exact ħ j;exact ħ m;exact q4;exact q5
  rw[q]at R;exact Ú R Ôa
 done:=by
  intro X hP hw hK d i z8 s σ H E I hf st hg;subst hP hw hK;obtain⟨f,j,⟨u,v,m⟩,n,p⟩:=st;obtain⟨xs,ys,hx,Z,hend⟩:=hg;obtain⟨G,ru,pu⟩:=I.Vt hx;obtain⟨J,A,pw⟩:=I.Vt Z
  have t:Ŋp<=i\/ŉp<=i:=by have l1:=ru.length;have l2:=Ál;rw[ģ,ģ];omega
  have N:Ŕb ĕc ńa:=⟨_,f,rfl⟩;unfold Ĩh
  refine Ò (Śi (Ŏd (Ľ:=úd űg) N çg (Ŕd çg N Ýp
   (x8q (by exact Ùb d) D İp Ço f j m ⟨n,pu⟩ ⟨p,pw⟩ t λh' e S he=>?_) Æo)))
  obtain⟨o,ho,hcl⟩:=he;refine Ò (wpAny_isInstance (T := Ŭe) (b:=Ã) ⟨o,ho,hcl⟩ isSubtype_stop ?_);refine ĝ ⟨rfl,I.but (tk:=đ) hf λc ob g eb=>?_⟩;simp only[Ůa,Ğa,Ża,ŏh]at g;exact S c ob g.1 g.2.2.1 g.2.2.2.1 g.2.2.2.2 eb
 çc:=λ_ _ _ _ _ st h=>Ïp st.1 h
def vA{a b:Nat}(h:a≠b):@Ne É a b:=h
def x8s{n a b:Nat}(d:a<n)(c:b<n):ĝf (n+4) (n+2) (n+3) n ļ a b:=
 ⟨vA Å,vA Å,vA Å,vA Å,vA Å,vA Å,vA Å,vA Å,vA Å,vA Å,vA Å,vA Å,vA Å,vA Å,vA Å,vA Å,vA Å,vA Å⟩
def z0f:ť ńa=À ār:=by decide +kernel
section
variable{X:Cx}
def dw(K:Í)(e:TA):TI:=λσ H R=>e σ H λd c=>∃a b xs ys t1 t2,d=[.ref a,.ref b]/\qN K t1 c a xs/\qN K t2 c b ys/\R ßj c
def y5a{a b:Ñ}{E:TA}{p pos:Pos}{d:Á Ñ}{kk:Nat}{G:Pos}(Q:Gl X ńa)(N:ð ńa=Ä)(O:PA X ë E)(J:Ê (ûb ë Ô=[(Â,č a Ô),(Â,č b Ô)]) q12)(g:Ê (ûb [b] Ô=[(Â,č b Ô)]) q12):PI X (.Tuple d kk G) ûi (dw X.K E):=by
 intro B s σ H R I h;refine Call_ (Wv I Q N z0f (Çg (zn (O pos B s σ H _ I h) λL e ⟨vs,A,f,r1,q1⟩=>?_) (by rw[J,g]) (by rw[g];rfl)));obtain⟨l,k,xs,ys,t1,W,rfl,Z,P,q⟩:=q1;obtain⟨u,v,rfl,U,S⟩:=RU r1;cases(show u=Ċ l from U);cases(show v=Ċ k from S);obtain⟨L,_,o⟩:=f.Vt Z;obtain⟨ws,_,w⟩:=f.Vt P;have F:=o.lt;have x:=w.lt;refine z15 o w λy j C z t m Y=>?_
 have T:zI X B σ A { e with ç:=y }:=ĵl (t':=e.toks) Y;refine Ïp (s:={ e with ç:=y }) j ?_;generalize hn:Óp=n at j C z t m F x
 have D:ĝf (n+4) (n+2) (n+3) n ļ l k:=by exact x8s F x
 refine⟨n+4,[n+4,n+2,n+3,n,n+1],_,_,A,rfl,T,x4r t1 W l k (n+4) (n+2) (n+3) n ļ D,⟨j,C,⟨_,_,z⟩,t,m⟩,λc r=>?_,q⟩
 have i:Óp<=c:=by rw[hn];simp only[Ůa,Ğa,Ża]at r;rcases r with rfl|rfl|rfl|rfl|rfl;exact Õa _ _;exact Õa _ _;exact Õa _ _;exact Øa _;exact Õa _ _
 exact f.Ze i (ék i)
def y66{a b:Ñ}{e:TA}{p pos:Pos}{c:Á Ñ}{j:Nat}{f:Pos}(l:Gl X ńa)(i:ð ńa=Ä)(k:QA X ë e)(g:Ê ãe q12)(d:Ê Įr q12) :QI X (.Tuple c j f) ûi (dw X.K e):=⟨y5a l i k.h (by rw[qB g,qB d];rfl) ől⟩
#print a
def br(a:ča)(env:Env)(b:Á ďb)(own:Á Str):Ì:=
 a.kind == .function&&źj (λy=>y.2 != .cell)&&UV a env b own&&źj (λy=>y.2 != .local||öc y.1==À .local)
def vS{X:Cx}{a:ča}{b:Á ďb}{own:Á Str}(d:Ēr a Ô=pure b)(f:Ê (Yd Ô b) q14)(ok:Ê (br a Ô b own=Ã) q12):Yc X a b own:=by unfold br at ok;simp only[ĉ]at ok;obtain⟨⟨⟨g,j⟩,i⟩,h⟩:=ok;refine⟨Ĺg g,λy c e=>?_,f,i,d,λy c e=>?_⟩;have:=Ĵb j y c;rw[e]at this;cases this;have:=Ĵb h y c;rw[e]at this;simpa using this
section
variable{X:Cx}(K:Í)(hK:X.K=K)
include hK
#print a
def sD(K:Í)(a:É)(xs:Á V):Prop:=∀H,xF K H a xs
def z1c{K:Í}{a:É}{xs:Á V}{d:Æ É}{its:Ø Value}{n:Nat}{b:Ø ųa}(h:Ź a=À ⟨.type Ŧ,d,.seq its n,b⟩)(hz:Źk<=á)(r:zm xs ãf):sD K a xs:=
 λ_=>.inr ⟨_,its,n,h,rfl,rfl,hz,r⟩
open ýl Èr
noncomputable def Oj(z:Str):It:=⟨λi _=>i<Ŏ,λi H x a=>a=H/\∃c,Ļd[i]?=À c/\x=.str ⟨#[c]⟩,λi _=>Ŏ<=i⟩
section
variable{X:Cx}{tg:Ñ}
def z5p(a:TE):TI:=λσ H R=>a σ H λx b=>∃z,x=.str z/\R Űh b
def x4p{P:å}{w:ß}{K:Í}{it:É}{z:Str}{t:Tok}{n:Ïa}(g:n = Êo \/ n = ķp):ga P w K tg Űh ıc it (λi h=>h.IsStrIter it n z t i/\i<=Ŏ) where
 mem:=by simp
 obj:=λi h st b j=>by
  have e:b=it:=by simpa using j
  subst e;obtain⟨⟨o,e,c,d⟩,_⟩:=st;exact⟨o,e,λv z=>by rw[d]at z;cases z⟩
 ıa:=λi h f st k=>⟨let ⟨o,ho,r⟩:=st.1;⟨o,k it ã o ho,r⟩,st.2⟩
 öb:=by
  intro X Q S T N i R s σ H E I B st p;subst Q S T;obtain⟨q,y,f2,C,J,F⟩:=B it ã;have L:i<Ĉr:=p;have l:Ļd[i]?=À Ļd[i]:=by simp[L]
  have U:∀f G (u:Value),(∃t',u=Ťc ⟨#[Ļd[i]]⟩ t')->f.IsStrIter it n z t ê->ńb it Ý f->∃v,À u=À v/\
    Ù ý X.A (ùg tg Čb v) (λ_ Y=>∃x H',zI X R σ H' Y/\zr x v/\(Űh).uh i H x H'/\(Y.heap.IsStrIter it n z t ê/\i+1<=Ŏ)/\∀b∈[it],H' b=Ä) E { s with ç:=f,Ė:=G }:=λf G u Z a m=>by
   obtain⟨t',rfl⟩:=Z;have I1:zI X R σ H { s with ç:=f,Ė:=G }:=Ža (λb o j e=>(m.2 b j).trans e) q y C J F;obtain⟨o,e,c,d⟩:=id a;exact⟨_,rfl,Ug (s:={ s with ç:=f,Ė:=G }) e c d (by rcases g with rfl|rfl<;>decide) ⟨.str ⟨#[Ļd[i]]⟩,H,I1,⟨t',rfl⟩,⟨rfl,_,l,rfl⟩,⟨a,p⟩,λb j=>(B b j).1⟩⟩
  rcases g with rfl|rfl;exact wpAny_pyNext_ascii_item st.1 l λf a m=>U f _ _ ⟨_,rfl⟩ a m;exact wpAny_pyNext_wide_item st.1 l λf a m=>U f _ _ ⟨_,rfl⟩ a m
 done:=by intro X Q S T N i R s σ H E I B st p;subst Q S T;obtain⟨q,y,f2,C,J,F⟩:=B it ã;have l:Ļd[i]?=Ä:=ĺi p;rcases g with rfl|rfl;exact wpAny_pyNext_ascii_end Ķh st.1 l λf O=>⟨rfl,Ža (t':=đ) Şn q y C J F⟩;exact wpAny_pyNext_wide_end Ķh st.1 l λf O=>⟨rfl,Ža (t':=đ) Şn q y C J F⟩
 çc:=λ_ _ _ _ _ st h=>by rcases g with rfl|rfl;exact wpAny_pyIter_striter_ascii st.1 h;exact wpAny_pyIter_striter_wide st.1 h
def y58{e:Ñ}{i:TE}(k:PE X e i):PI X tg e (z5p i):=by
 intro j s σ H R I h;refine zn (k j s σ H _ I h) λv a ⟨x,l,f,p,n⟩=>?_
 obtain⟨z,rfl,q⟩:=n;obtain⟨t,rfl⟩:=(show ∃t,v=Ťc z t from p)
 have c:∀(d:Ïa),(d = Êo \/ d = ķp)->∀o:Obj,(Òf o).IsStrIter ĵa d z t 0->Dw X j σ tg R ŝr { a with ç:=Òf o }:=λd g o st=>
  ⟨ĵa,[ĵa],_,_,l,rfl,ĵl (t':=Ōf) λb o e=>Ī _ e,x4p g,⟨st,Áa _⟩,λb m=>by
   have e:b=ĵa:=by simpa using m
   subst e;exact f.Ze Ē (ék Ē),q⟩
 cases ha:z.cps.all (·<128);exact wpAny_pyIter_wide ha (c _ ŏb _ ⟨_,ū _ rfl,rfl,rfl⟩);exact wpAny_pyIter_ascii ha (c _ Ĺ _ ⟨_,ū _ rfl,rfl,rfl⟩)
#print a
def UX(z:Str)(lo hi:Æ Int):Str:=⟨((z.cps.toList.drop (ĸ Ŏ 0 lo)).take Ýn).toArray⟩
def z18(n:Nat)(lo:Æ Int):(match lo with|Ä=>(0:Int)|À i=>max 0 ıe)=((ĸ n 0 lo:Nat):Int)\/∃i,lo=À i/\i<0/\(n:Int)<i+n:=by
 cases lo with
 |Ä=>left;rfl|À i=>
  left
  show max 0 ıe=((Ýi:Nat):Int);by_cases h:i<0;simp only[h,ś];omega;simp only[h,ða];omega
def z17(n:Nat)(hi:Æ Int):(match hi with|Ä=>(n:Int)|À i=>max 0 ıe)=((ĸ n n hi:Nat):Int):=by
 cases hi with
 |Ä=>rfl|À i=>show max 0 ıe=((Ýi:Nat):Int);by_cases h:i<0;simp only[h,ś];omega;simp only[h,ða];omega
def z19(n:Nat)(lo:Æ Int):(match lo with|Ä=>(0:Int)|À i=>max 0 ıe)=((ĸ n 0 lo:Nat):Int):=by rcases z18 n lo with h|⟨i,_,h1,h2⟩;exact h;omega
def iI(z:Str)(lo hi:Æ Int):Àj=(Ēa Ýn).map (ĸ Ŏ 0 lo+·):=by have b:=z19 Ŏ lo;have a:=z17 Ŏ hi;rw[<-Ľp,<-b,<-a];unfold Ûg;simp only[show(1:Int)>0 by decide,ś];cases lo<;>cases hi<;>rfl
def z1f(z:Str)(lo hi:Æ Int):(⟨((Àj).filterMap (Ļd[·]?)).toArray⟩:Str)=UX z lo hi:=by rw[iI,Ŵk];rfl
def ņf(n d:Nat)(a:d<=n)(v:Æ Int):ĸ n d v<=n:=by
 cases v with
 |Ä=>exact a|À i=>show Ýi<=n;by_cases h:i<0;simp only[h,ś];omega;simp only[h,ða];omega
def z1i(z:Str)(lo hi:Æ Int)(h:(Àj).length=Ŏ):UX z lo hi=z:=by
 rw[iI,ä,ŵb]at h;have a:=ņf Ŏ 0 ġc lo;have b:=ņf Ŏ Ŏ Ē hi;unfold UX;rw[h];have d:ĸ Ŏ 0 lo=0\/Ŏ=0:=by omega
 have f:óo=Ŏ:=by simp[ðk]
 rcases d with q|q;rw[q,ňp,<-f,ëd];have e:Íj=[]:=Ùn Å;rw[e];simp;cases z with
 |mk c=>simp[ðk]at q;simp[q]
theorem Cm(z:Str)(lo hi:Æ Int):(őq).length<=Ŏ:=by show(List.toArray _).size<=Ĉr;rw[ģ,ìa,Ąb,Ŭ];exact Ğ ÿf Źb
section
variable{X:Cx}
def i9{v:Value}{lo:Æ Int}(h:Ťb v lo):∃l:Æ (Int×Tok),v=partValue l/\Åa (·.1)=lo:=by
 cases h with
 |Ä=>exact⟨Ä,rfl,rfl⟩|int i t=>exact⟨À (i,t),rfl,rfl⟩
def lL:V->Æ Int->Æ Int->Hp->VK->Prop:=λx a b H Q=>∃z:Str,x=.str z/\Ŏ<=á/\Q (.str (UX z a b)) H
def y9g:kZ X lL:=by
 intro m s σ H x v o n k p j Q I f b g c h;obtain⟨z,rfl,i,q⟩:=h;obtain⟨t,rfl⟩:=(show ∃t,v=Ťc z t from f);obtain⟨l,rfl,rfl⟩:=i9 g;obtain⟨u,rfl,rfl⟩:=i9 c;refine⟨Śf,_,F.slot_str_getitem.lookup,åk _ _ _,?_⟩;refine wpAny_getItem_str_slice (l:=l) (u:=u) (st:=Ä) b rfl ?_;unfold sliceMade;have d:slicePicked z l u Ä=Ûg (Åa (·.1)) (u.map (·.1)) 1 Ŏ:=rfl;rw[d]
 split;rename_i a
 have e:(Ûg (Åa (·.1)) (u.map (·.1)) 1 Ŏ).length=Ŏ:=by rw[ĉ]at a;exact Ĺg a.2
 rw[z1i z _ _ e]at q;exact⟨.str z,H,I,⟨_,rfl⟩,q⟩;rw[z1f];exact⟨Ğ (Cm z _ _) i,.str _,H,Ña _,⟨_,rfl⟩,q⟩
#print a
#print L2
namespace L2
open Ħ Ķ ī
section
variable{κ:Type}[Ąc κ]
noncomputable def qc(kvs:Á ãb)(k:κ):Æ V:=(kvs.find? λa=>decide (a.1=k)).map (·.2)
noncomputable def tM(kvs:Á ãb)(k:κ)(v:V):Á ãb:=
 if(kvs.any λa=>decide (a.1=k))=Ã then Ĉe (λa=>if a.1=k then(a.1,v)else a)else kvs++[(k,v)]
theorem BN{p:κ×V}{r:Á ãb}{k:κ}(e:p.1=k):qc (p::r) k=À p.2:=by simp[qc,žd,e]
theorem BM{p:κ×V}{r:Á ãb}{k:κ}(e:¬ p.1=k):qc (p::r) k=qc r k:=by simp[qc,žd,e]
theorem nW(k:κ):∀kvs:Á ãb,Ãn=(Áh).isSome
 | []=>rfl|p::r=>by rw[Çe];by_cases e:p.1=k;simp only[BN e,î e,Bool.true_or,Option.isSome_some];rw[BM e,ă e,Bool.false_or];exact nW k r
def HL(kvs:Á ãb)(k:κ)(v:V):(ţj).length<=ĺ+1:=by
 unfold tM
 split;rw[ä];omega;rw[í,ĕ,Űe];omega
def ul.Vq{o:Æ V}{u:Æ Value}(r:ul o u):o.isSome=u.isSome:=by
 cases o with
 |Ä=>cases u with
  |Ä=>rfl|À _=>exact(show ò from r).elim
 |À _=>cases u with
  |Ä=>exact(show ò from r).elim|À _=>rfl
theorem ul.getD{o:Æ V}{u:Æ Value}{d:V}{d':Value}(r:ul o u)(a:zr d d'):zr ļr (u.getD d'):=by
 cases o with
 |Ä=>cases u with
  |Ä=>exact a|À _=>exact(show ò from r).elim
 |À _=>cases u with
  |Ä=>exact(show ò from r).elim|À _=>exact r
def KV.val{kvs:Á ãb}{vs:Á Úe}(r:KV kvs vs)(k:κ):ul Áh (Ĝc vs k):=by
 unfold KV at r
 induction r with
 |nil=>exact Ųa|@cons p q ps qs h t ih=>
  obtain⟨c,d⟩:=h;by_cases e:p.1=k;have a:q.1=k:=Đq e;have b:Ĝc łh k=À q.2:=by simp[Ĝc,žd,a]
  rw[BN e,b];exact d;have a:¬ q.1=k:=λz=>e (ňb z)
  have b:Ĝc łh k=Ĝc qs k:=by simp[Ĝc,žd,a]
  rw[BM e,b];exact ih
theorem KV.any{kvs:Á ãb}{vs:Á Úe}(r:KV kvs vs)(k:κ):Ãn=vs.any λkv=>decide Ïl:=by
 unfold KV at r
 induction r with
 |nil=>rfl|Ĉ h t ih=>rw[Çe,Çe,ih,h.1]
theorem KV.DH{kvs:Á ãb}{vs:Á Úe}(r:KV kvs vs)(k:κ){y:V}{u:Value}(b:zr y u) :KV ďm (ŉh λkv=>if kv.1=k then(kv.1,u)else kv):=by
 unfold KV at r ⊢
 induction r with
 |nil=>exact .nil|@cons p q ps qs h t ih=>rw[ř,ř];refine .cons ?_ ih;obtain⟨a,c⟩:=h;by_cases e:p.1=k;rw[Ï e,Ï æp];exact⟨a,b⟩;rw[Ð e,Ð Úo];exact⟨a,c⟩
def KV.put{kvs:Á ãb}{vs:Á Úe}(r:KV kvs vs)(k:κ){y:V}{u:Value}(a:zr y u):KV ĺq (źc vs k u):=by unfold tM źc;rw[r.any k];by_cases e:(vs.any λb=>decide (b.1=k))=Ã;rw[Ï e,Ï e];exact r.DH k a;rw[Ð e,Ð e];exact żq r ⟨rfl,a⟩
theorem KV.length{kvs:Á ãb}{vs:Á Úe}(r:KV kvs vs):ĺ=Ā:=īj r
#print a
def Z5{P:å}{w:ß}{k:zW}{u:Value}(r:zr ŕl u):(Ŕa).is k u=Ã:=by
 cases k with
 |inl i=>obtain⟨t,e⟩:=(show ∃t,u=ťc i t from r);subst e;exact z8a P w i t
 |inr x=>obtain⟨t,e⟩:=(show ∃t,u=Ťc x t from r);subst e;exact HR P w x t
theorem eK{P:å}{w:ß}:∀{ks:Á zW}{us:Á Value},zm Ģo us->ItemsAre Ŕa ks us
 | [],_,r=>by rw[Éf]at r;cases r;exact .nil|k::ks,_,r=>by
  rw[ř]at r;cases r with
  |Ĉ h t=>exact .cons (Z5 h) (eK t)
abbrev KT(H:Hp):Á Åc->Á Þd->Prop:=ĳd λp q=>p.1=q.1/\H q.2.1=À Ĝo/\zr p.2 q.2.2
def KT.val{H:Hp}{kvs:Á Åc}{xs:Á Þd}(r:KT H kvs xs)(k:Á zW):ul Áh ((Ũj).map (·.2)):=by
 induction r with
 |nil=>exact Ųa|@cons p q ps qs h t ih=>
  obtain⟨c,_,d⟩:=h;by_cases e:p.1=k;have a:q.1=k:=Đq e;have b:Ŝf łh k=À q.2:=by simp[Ŝf,žd,a]
  rw[BN e,b];exact d;have a:¬ q.1=k:=λz=>e (ňb z)
  have b:Ŝf łh k=Ŝf qs k:=by simp[Ŝf,žd,a]
  rw[BM e,b];exact ih
def KT.DH{H:Hp}{kvs:Á Åc}{xs:Á Þd}(r:KT H kvs xs)(k:Á zW){y:V}{u:Value}(c:zr y u) :KT H ďm (àc (ãc k u)):=by
 induction r with
 |nil=>exact .nil|@cons p q ps qs h t ih=>rw[ř,ř];refine .cons ?_ ih;obtain⟨a,b,d⟩:=h;unfold ãc;by_cases e:p.1=k;rw[Ï e,Ï æp];exact⟨a,b,c⟩;rw[Ð e,Ð Úo];exact⟨a,b,d⟩
def KT.put{H:Hp}{kvs:Á Åc}{xs:Á Þd}(r:KT H kvs xs)(k:Á zW){b:É}{y:V}{u:Value}(c:H b=À Êj)(a:zr y u) :KT H ĺq (storedH xs k b u):=by
 have e:(kvs.any λd=>decide (d.1=k))=(Ũj).isSome:=by rw[nW,(r.val k).Vq,űi]
 unfold tM storedH;rw[e];by_cases q:(Ũj).isSome=Ã;rw[Ï q,Ï q];exact r.DH k a;rw[Ð q,Ð q];exact żq r ⟨rfl,c,a⟩
def KT.keeps{H H':Hp}{kvs:Á Åc}{xs:Á Þd}(r:KT H kvs xs)(a:∀b ys,H b=À àf->H' b=À àf):KT H' kvs xs:=
 Ôh r λ_ _ z=>⟨z.1,a _ _ z.2.1,z.2.2⟩
section
variable{P:å}{w:ß}{H:Hp}{h:Heap}{a:É}
def lQ{u:HO}(ok:wE P w H h)(e:Rd H a u):xT P w H h a u:=e.ok ok
def kz{kvs:Á ż}(ok:wE P w H h)(e:Rd H a Ł):ĺ<=á/\ąa=Â/\∃vs,KV kvs vs/\óe Ŕa a vs:=
 show xT P w H h a Ł from lQ ok e
def z1y{kvs:Á ż}(ok:wE P w H h)(e:H a=À Ł):ĺ<=á/\ąa=Â/\∃vs,KV kvs vs/\óe Ŕa a vs:=kz ok ål
def Jn{ks:Á zW}(ok:wE P w H h)(e:H a=À Őr):(Ŵe).is h ks a:=by obtain⟨_,b,r,o,c,f,n,d⟩:=(show xT P w H h a Őr from ok a _ e);exact⟨o,Ēb,n,c,f,d,by simpa using eK r⟩
def UZ{kvs:Á Åc}(ok:wE P w H h)(e:Rd H a ďc):ĺ<=á/\ąa=Â/\
  ∃xs,KT H kvs xs/\Żr Ŵe a xs:=by
 obtain⟨z,y,xs,r,o,k,d,f,i,g,n,j⟩:=(show xT P w H h a ďc from lQ ok e);refine⟨z,y,xs,r,o,k,d,f,i,g,n,λx b=>?_,j⟩
 have c:∀{l:Á Åc} {m:Á Þd},KT H l m->∀x∈m,(Ŵe).is h x.1 x.2.1:=by
  intro l m q
  induction q with
  |nil=>intro x b;exact nomatch b|@cons p q ps qs hq t ih=>intro x b;rcases ľ b with e|b;subst e;exact Jn ok (by rw[<-hq.1];exact hq.2.1);exact ih x b
 exact c r x b
def z2c{kvs:Á Åc}(ok:wE P w H h)(e:H a=À ďc):ĺ<=á/\ąa=Â/\
  ∃xs,KT H kvs xs/\Żr Ŵe a xs:=UZ ok ål
#print a
def QQ(H:Hp)(a:É)(y:V)(r:Æ V):Prop:=
 (∃kvs k,Rd H a Ł/\y=kV k/\r=qc kvs k)\/∃kvs k b,Rd H a ďc/\y=.ref b/\H b=À Êj/\r=qc kvs k
def Ak(H:Hp)(a:É)(y v:V)(H':Hp):Prop:=
 (∃kvs k,H a=À Ł/\y=kV k/\ĺ<á/\H'=zX H a (.dK ţj)) \/
 ∃kvs k b,H a=À ďc/\y=.ref b/\H b=À Êj/\ĺ<á/\H'=zX H a (.dT ţj)
section
variable{X:Cx}{z8:Á é}{σ:St}{H:Hp}{s:Ë}{a:É}{y v:V}{u r:Value}{o:Æ V}{A:ø}{E:Value->Ë->Prop}
def zI.big(I:zI X z8 σ H s):Ĝj<Û:=by have h:ė<Û:=(I.mod.glob.keeps I.bk).lt;exact Ňg È h
def z1m{Q:Value->Ë->Prop}(p:Şa+1<Òa)(I:zI X z8 σ H s)(g:QQ H a y o)(m:zr y u)(h:∀s',zI X z8 σ H s'->Q (.bool o.isSome) s') :Ù ý A (Ģa .In u Ś) Q E s:=by rcases g with⟨f,k,e,d,l⟩|⟨f,k,b,e,d,n,l⟩;subst d;obtain⟨z,j,r,c,i⟩:=kz Ĕ e;refine Ũq (Z5 m) j i.mapOf ?_;rw[<-(íe).Vq,<-l];exact h _ ğc;subst d;cases(show u=Ċ b from m);obtain⟨z,j,t,c,i⟩:=UZ Ĕ e;refine wpAny_in_heap (Ôg p) Ōr j i ?_;have q:=(íe).Vq;rw[űi]at q;rw[<-q,<-l];exact h _ ğc
def z1o{Q:Value->Ë->Prop}(p:Şa+1<Òa)(I:zI X z8 σ H s)(g:QQ H a y o)(m:zr y u)(h:∀s',zI X z8 σ H s'->Q (.bool (!o.isSome)) s') :Ù ý A (Ģa .NotIn u Ś) Q E s:=by rcases g with⟨f,k,e,d,l⟩|⟨f,k,b,e,d,n,l⟩;subst d;obtain⟨z,j,r,c,i⟩:=kz Ĕ e;refine wpAny_notIn_of (Z5 m) j i.mapOf ?_;rw[<-(íe).Vq,<-l];exact h _ ğc;subst d;cases(show u=Ċ b from m);obtain⟨z,j,t,c,i⟩:=UZ Ĕ e;refine wpAny_notIn_heap (Ôg p) Ōr j i ?_;have q:=(íe).Vq;rw[űi]at q;rw[<-q,<-l];exact h _ ğc
def cP{h':Heap}{t':Nat}{d:HO}(I:zI X z8 σ H s)(i:Qw (H a))(f:ńb a Ý h')(h:∃q,ġ a=À q)(c:xT ó X.w ħr h' a d) :zI X z8 σ ħr { s with ç:=h',Ė:=t' }:=
 įh (x:=a) (e:=a) i Ĺ (λb q g z=>(f.2 b g).trans z) h c
def Cu{P:å}{w:ß}{H':Hp}{h':Heap}{kvs:Á ż}{vs:Á Őa}(z:ĺ<=á)(c:ąa=Â)(b:KV kvs vs)(d:Íh Ŕa a vs) :xT P w H' h' a Ł:=⟨z,c,vs,b,d⟩
def z1p{H':Hp}{Q:ņa->Ë->Prop}(U:Şa+1<Òa)(I:zI X z8 σ H s)(g:Ak H a y v H')(G:zr y u)(K:zr v r)(h:∀s',zI X z8 σ H' s'->Q () s') :Ù ý A (ðl Ś u r) Q E s:=by
 rcases g with⟨d,k,e,p,l,o⟩|⟨d,k,b,e,p,C,l,o⟩;subst p o;obtain⟨z,x,R,f,t⟩:=z1y Ĕ e;have B:Ðc<=á:=by rw[<-Ŀa];exact z
 have n:(Ĺr).length<=á:=by have:=HL d k v;omega
 refine wpAny_setItem_pairs (hsz:=B) (Z5 G) t λF i m=>h _ ?_
 have T:∃q,Ńl a=À q:=let ⟨q,_,_,j,_⟩:=i;⟨q,j⟩;exact cP I ŕi m T (Cu n x (f.put k K) i);subst p o;cases(show u=Ċ b from G);obtain⟨z,x,O,f,t⟩:=z2c Ĕ e;have B:O.length<=á:=by rw[<-īj f];exact z
 have n:(Ĺr).length<=á:=by have:=HL d k v;omega
 refine wpAny_setItem_heap (hsz:=B) (Ôg U) (Jn Ĕ C) t λF i m=>h _ ?_
 obtain⟨q,Y,S,j,L,W,P,_,N⟩:=i;refine cP I ŕi m ⟨q,j⟩ ⟨n,x,_,(f.put k C K).keeps λc Z J=>?_,q,Y,S,j,L,W,P,N⟩;rw[yB (z8m J e ķa)];exact J
#print a
section
variable{X:Cx}{z8:Á é}{σ:St}{H:Hp}{s:Ë}{a:É}{kvs:Á ż}{A:ø}{E:Value->Ë->Prop}
def z1n{Q:Value->Ë->Prop}(I:zI X z8 σ H s)(e:Rd H a Ł)(h:∀t s',zI X z8 σ H s'->Q (.int ĺ t) s'):Ù ý A (Çb Żd úa) Q E s:=by obtain⟨z,d,f,b,c⟩:=kz Ĕ e;refine call_len_dict d c (by rw[<-Ãa];rw[Ř]at z;omega) ?_;rw[<-Ãa];exact h _ _ ğc
#print a
def z1w{X:Cx}{f:Á é}{σ:St}{H:Hp}{s:Ë}{a:É}{y:V}{o:Æ V}(I:zI X f σ H s)(g:QQ H a y o):Ŕb Ś Ż:=by rcases g with⟨c,k,e,_,_⟩|⟨c,k,b,e,_,_,_⟩;obtain⟨_,_,h,_,d⟩:=kz Ĕ e;exact ěf;obtain⟨_,_,i,_,d⟩:=UZ Ĕ e;exact ěf
noncomputable def y73(d b f:TE):TS:=λD σ H=>f σ H λv g=>d σ g λx c=>b σ c λy e=>∃a H4,x=.ref a/\Ak e a y v H4/\Éb σ H4
section
variable{X:Cx}{o i e ħb:Ñ}{pos İa:Pos}{td ty tv:TE}
def iQ(t:ēb+1<Òa)(k:PE X o td)(hi:PE X i ty)(hv:PE X ħb tv)(f:Œc ħb (À (.Subscript o i İa)) Óe Ô=pure Â) :PS X (.Assign [.Subscript o i İa] ħb pos) (y73 td ty tv):=by intro b s σ H D I h;refine wpAny_Assign_Subscript (zn ēo λr q ⟨v,w,B,G,F⟩=>zn (k b q σ w _ B F) λu n ⟨x,E,l,C,d⟩=>zn (hi b n σ E _ l d) λJ L ⟨y,K,e,z,a,c,m,g,p⟩=>?_) f;subst m;obtain rfl:u=Ċ a:=C;exact z1p t e g z G λN j=>⟨σ,c,j,p⟩
#print a
def z1x{P:å}{w:ß}{H:Hp}(h:Heap)(a:Ĝj<ĉb):xT P w H (Ĳl { cls:=.type Ż,Ć:=.dict #[] }) ĉb (.dK []):=
 ⟨Áa _,ĺc (Ñc (Ça a)),[],.nil,ăp h⟩
def x0e:TE:=λ_ H Q=>∀p,H p=Ä->Q Êa (γ (.dK []))
section
variable{X:Cx}{pos:Pos}
def y4h:PE X Åp x0e:=λb s σ H Q I h=>
 wpAny_Dict_empty ⟨.ref Û,_,ġb (a:=Û) (o:=.dK []) (t':=đ) ūi Ē (z1x Ý I.big),rfl,h _ êe⟩
#print a
abbrev VV:Á (V×V)->Á (Value×Value)->Prop:=ĳd λp q=>zr p.1 q.1/\zr p.2 q.2
def Y2(kvs a:Á ż):Á ż:=a.foldl (λb c=>tM b c.1 c.2) kvs
def KV.merge:∀{more:Á ż} {rs:Á Őa} {kvs:Á ż} {vs:Á Őa},KV more rs->KV kvs vs->KV üq (merged vs rs):=by
 intro more rs kvs vs r;unfold KV at r
 induction r generalizing kvs vs with
 |nil=>intro q;exact q|@cons p q ps qs h t ih=>
  intro a
  have e:KV Ûj (źc vs q.1 q.2):=by have:=a.put p.1 h.2;rw[<-h.1];exact this
  exact ih e
theorem ek:∀(more kvs:Á ż),(üq).length<=ĺ+more.length
 | [],kvs=>by show ĺ<=ĺ+0;omega|p::r,kvs=>by have b:=ek r Ûj;have a:=HL kvs p.1 p.2;show(Y2 Ûj r).length<=_;rw[ĕ];omega
structure M2(X:Cx)(o:Ñ)(m:Str)(ěa:Pos)(e f:Ñ)(ßa:Pos):Prop where
 Ç:Ķb o m Ô Ôr=č o Ô
 Oe:((żc ßa ēp).all Èk&&(Śm).all ŵo
  && decide (([e,f]:Á Ñ).length+([]:Á Įh).length+ĩm<30))=Ã
 line:(apos.endLine==cpos.line)=Ã
 trees:żc ßa ēp=[(Â,č e Ô),(Â,č f Ô)]
def bA(H:Hp)(a:É):Prop:=(∃kvs,Rd H a Ł)\/∃kvs,Rd H a ďc
def z63{X:Cx}{j:Á é}{σ:St}{H:Hp}{s:Ë}{a:É}(I:zI X j σ H s)(d:bA H a) :Ŕb Ś Ż/\(∀b,Ċ a=.ref b->∃ob,Ą b=À ob/\ob.dict=Ä)/\ąa=Â:=by rcases d with⟨f,e⟩|⟨f,e⟩;obtain⟨_,i,k,_,c⟩:=kz Ĕ e;refine⟨c.typeIs,λb q=>?_,i⟩;cases q;obtain⟨ob,_,_,g,h,_⟩:=c;exact⟨ob,g,h.2.1⟩;obtain⟨_,i,l,_,c⟩:=UZ Ĕ e;refine⟨c.typeIs,λb q=>?_,i⟩;cases q;obtain⟨ob,_,_,g,h,_⟩:=c;exact⟨ob,g,h.2.1⟩
section
variable{X:Cx}{z8:Á é}{σ:St}{H:Hp}{s:Ë}{a:É}{y d:V}{u r:Value}{o:Æ V}{A:ø}{E:Value->Ë->Prop}
def z1l{Q:Value->Ë->Prop}(v:Şa+1<Òa)(I:zI X z8 σ H s)(g:QQ H a y o)(p:zr y u)(n:zr d r)(h:∀w' s',zI X z8 σ H s'->zr ļr w'->Q w' s') :Ù ý A (Çb (.builtin "dict.get") [.ref a,u,r]) Q E s:=by rcases g with⟨j,k,e,i,l⟩|⟨j,k,b,e,i,q,l⟩;subst i;obtain⟨z,m,x,c,f⟩:=kz Ĕ e;refine Śe ńi Żk ŗn Ån (meets_dict_get_default Ăc a (Z5 p) m r) ⟨_,f.mapOf,h _ _ ğc ?_⟩;rw[l];exact(íe).getD n;subst i;cases(show u=Ċ b from p);obtain⟨z,m,t,c,f⟩:=UZ Ĕ e;refine Śe ńi Żk ŗn Ån (meetsH_dict_get_default (tupleKind Ăc) a b m r) ⟨Ôg v,k,t,Jn Ĕ q,f,h _ _ ğc ?_⟩;rw[l];exact(íe).getD n
#print a
noncomputable def x0d(f d g:TE):TE:=λσ H Q=>f σ H λx c=>∃a,x=.ref a/\bA c a/\d σ c λy e=>g σ e λz b=>∃o,QQ b a y o/\Q (o.getD z) b
section
variable{X:Cx}{o e f:Ñ}{ěa ßa:Pos}{td ty tx:TE}
def y4g(G:ēb+1<Òa)(n:PE X o td)(E:PE X e ty)(q:PE X f tx)(m:M2 X o "get" ěa e f ßa):PE X (.Call ħn [e,f] [] ßa) (x0d td ty tx):=by
 intro b s σ H Q I h;refine wpAny_Call_method m.base m.Oe m.line Üg ńi PySem.F.type_dict_get (zn (n b s σ H _ I h) λu C ⟨x,J,i,N,a,t,d,R⟩=>?_);subst t;obtain rfl:u=Ċ a:=N;obtain⟨O,K,_⟩:=z63 i d;refine⟨O,K,?_⟩;rw[m.trees]
 refine ĺe rfl (Ðo (Ħi (zn (E b C σ J _ i R) λT w ⟨y,P,p,L,j⟩=>
  Ħi (zn (q b w σ P _ p j) λY W ⟨z,r,k,v,U,g,B⟩=>ũo ?_))))
 exact z1l G k g L v λS Z l c=>⟨_,r,l,c,B⟩
#print a
#print L2
namespace L3
open Ħ
set_option genInjectivity true
inductive D where
 |zE|bl (b:Ì)|int (i:Int)|str (x:Str)|tup (xs:Á D)|lst (xs:Á D)|dic (ks:Á Ĩ) (vs:Á D)|exc (x:Str)|obj (x:Str) (fs:Á Str) (vs:Á D)
set_option genInjectivity false
def Ŀd{P:D->Prop}(o:P .zE)(r:∀b,P ģc)(g:∀i,P üa)(k:∀x,P śb)(m:∀xs,(∀d∈xs,P d)->P Ŗa)(c:∀xs,(∀d∈xs,P d)->P öa)(f:∀ks xs,(∀d∈xs,P d)->P (.dic ks xs))(l:∀x,P (.exc x))(a:∀x fs xs,(∀d∈xs,P d)->P (.obj x fs xs))(d:D):P d:=
 D.rec (motive_1:=P) (motive_2:=λn=>∀d∈n,P d) o r g k (λxs h=>m xs h) (λxs h=>c xs h) (λks xs h=>f ks xs h) l (λx fs xs h=>a x fs xs h) Ľo
  (λd n q j e p=>by rcases ľ p with z|z;exact z▸q;exact j e z) d
mutual
noncomputable def xh:D->D->Ì
 |.zE,.zE=>Ã|.bl a,.bl b=>a==b|.bl a,.int b=>ào==b|.int a,.bl b=>a==õg|.int a,.int b=>a==b|.str a,.str b=>a==b|.tup xs,.tup ys=>Įc xs ys|.lst xs,.lst ys=>Įc xs ys|_,_=>Â
noncomputable def Įc:Á D->Á D->Ì
 | [],[]=>Ã|x::xs,y::ys=>xh x y&&Įc xs ys|_,_=>Â
end
abbrev Sl:=Ì×D
abbrev zu:=Á (Æ Sl)
abbrev FE:=zu->Æ D
abbrev FT:=zu->Æ Ì
abbrev FA:=zu->Æ Ģc
abbrev FG:=D->zu->Æ zu
inductive Fl where
 |nx (σ:zu)|rt (o:Ì) (d:D)|bk (σ:zu)|ct (σ:zu)
abbrev FS:=zu->Æ Fl
abbrev yZ:Nat:=16777216
noncomputable def z6(i:Nat):FE:=λσ=>match σ[i]? with
 |À śd=>À d|_=>Ä
noncomputable def JF(i:Nat):FE:=λσ=>match σ[i]? with
 |À âr=>À d|_=>Ä
noncomputable def eC(d:D):FE:=λ_=>À d
noncomputable def e1(F:D->Æ D)(a:FE):FE:=λσ=>(òa).bind F
noncomputable def e2(F:D->D->Æ D)(a b:FE):FE:=λσ=>(òa).bind λx=>(Ġe).bind λy=>F x y
noncomputable def eL(F:Á D->Æ D)(a:FA):FE:=λσ=>(òa).bind F
noncomputable def zG:FA:=λ_=>À []
noncomputable def zA(a:FE)(r:FA):FA:=λσ=>(òa).bind λx=>(r σ).bind λb=>À (x::b)
noncomputable def Yu:D->Æ Ì
 |.bl b=>À b|_=>Ä
def tE(a:FE):FT:=λσ=>(òa).bind Yu
noncomputable def B8(a b:FT):FT:=λσ=>(òa).bind λk=>match k with
 |Ã=>b σ|Â=>À Â
noncomputable def YH(a b:FT):FT:=λσ=>(òa).bind λk=>match k with
 |Ã=>À Ã|Â=>b σ
noncomputable def ZR(a:FT):FT:=λσ=>(òa).bind λk=>À (!k)
def Wd(a b:FE):FE:=λσ=>(òa).bind λx=>(ŗf).bind λk=>match k with
 |Ã=>b σ|Â=>À ñ
def LP(a b:FE):FE:=λσ=>(òa).bind λx=>(ŗf).bind λk=>match k with
 |Ã=>À Ę|Â=>b σ
def Cy(a:FE):FE:=λσ=>(òa).bind λx=>(ŗf).bind λk=>À ĕk
noncomputable def uX(c:FT)(a b:FE):FE:=λσ=>(ĺd).bind λk=>match k with
 |Ã=>a σ|Â=>b σ
noncomputable def xt(a:FA):FE:=λσ=>(òa).bind λb=>À (.tup b)
noncomputable def xi(a:FA):FE:=λσ=>(òa).bind λb=>À Íc
noncomputable def yd:D->D->Æ D
 |.int i,.int j=>À Çk|.int i,.bl b=>À (Β (i+õg))|.str x,.str y=>if Ūc+ēf<=yZ then À (.str šh)else Ä|.lst x,.lst y=>if Ūc+ēf<=yZ then À (Ε šh)else Ä|.tup x,.tup y=>if x.isEmpty=Â/\Ūc+ēf<=yZ then À (.tup šh)else Ä|_,_=>Ä
noncomputable def fI(C:Int->Int->Ì)(g:Int->Int->Int):D->D->Æ D
 |.int i,.int j=>match C i j with
  |Ã=>À ës|Â=>Ä
 |_,_=>Ä
noncomputable def gm:D->D->Æ D
 |.int i,.int j=>À (Β (i-j))|_,_=>Ä
noncomputable def qt(i:Int):Ì:=decide (-ėh<i)&&decide (i<2 ^ 64)
def qS:D->D->Æ D:=fI (λi _=>qt i) (·*·)
def JJ:D->D->Æ D:=fI (λ_ j=>qt j) (·*·)
def xI:D->D->Æ D:=fI (λ_ j=>decide (0<j)) (· % ·)
def gj:D->D->Æ D:=fI (λ_ j=>decide (0<j)&&decide (j<2 ^ 64)) (· / ·)
noncomputable def pT(i j:Int):Ì:=decide ģe&&(decide (j<=1000000)&&decide (đc<2 ^ 64))
def z2m:D->D->Æ D:=fI pT λi j=>i ^ Ēd
def ut:D->D->Æ D:=fI pT λi j=>i*2 ^ Ēd
def JL:D->D->Æ D:=fI (λ_ j=>decide ģe) λi j=>i/2 ^ Ēd
noncomputable def pP(g:Int->Int->Int):D->D->Æ D
 |.int i,.int j=>À ës|_,_=>Ä
noncomputable def JK:D->Æ D
 |.int i=>À (Β (-i))|_=>Ä
noncomputable def EB:D->Æ D
 |.int i=>À (Β Čl)|_=>Ä
noncomputable def uY(g:Int->Int->Ì):D->D->Æ D
 |.int i,.int j=>À (.bl Ûb)|_,_=>Ä
noncomputable def Um:D->Ì
 |.zE=>Ã|_=>Â
def Zs:D->D->Æ D
 |x,.zE=>À (.bl (Um x))|_,_=>Ä
def Uc:D->D->Æ D
 |x,.zE=>À (.bl (!Um x))|_,_=>Ä
noncomputable def xJ:D->Ì
 |.zE=>Ã|.bl _=>Ã|.int _=>Ã|.str _=>Ã|_=>Â
noncomputable def jD(f:D->D->Ì):Á D->Á D->Ì
 |x::xs,y::ys=>f x y&&jD f xs ys|_,_=>Ã
def uo:Nat->D->D->Ì
 |0,_,_=>Â|n+1,x,y=>match x,y with
  |.tup xs,.tup ys=>jD ķd xs ys|.lst xs,.lst ys=>jD ķd xs ys|x,y=>xJ x&&xJ y
def Zr:D->D->Æ Ì
 |.int _,.bl _=>Ä|.bl _,.int _=>Ä|x,y=>match uo 6 x y with
  |Ã=>À (xh x y)|Â=>Ä
def zk(x y:D):Æ D:=(Zr x y).bind λk=>À Łf
def xm(x y:D):Æ D:=(Zr x y).bind λk=>À ĕk
noncomputable def uI:D->Æ Ĩ
 |.int i=>À äl|.str x=>À Ġh|_=>Ä
noncomputable def Ă{α:Type}:Á Ĩ->Á α->Sum Int Str->Æ α
 |k'::ks,v::vs,k=>if k'=k then À v else Ă ks vs k|_,_,_=>Ä
noncomputable def yg(ks:Á Ĩ)(k:Sum Int Str):Ì:=ks.any λj=>decide (j=k)
def wO(ks:Á Ĩ)(k:Sum Int Str):Á Ĩ:=if yg ks k=Ã then ks else ks++[k]
def w6(ks:Á Ĩ)(vs:Á α)(k:Sum Int Str)(v:α):Á α:=if yg ks k=Ã then ľb (λa x=>if a=k then v else x) ks vs else vs++[v]
def Ub(x:D):D->Æ Ì
 |.lst ys=>match xJ x&&ħd xJ with
  |Ã=>À ôg|Â=>Ä
 |.tup ys=>match xJ x&&ħd xJ with
  |Ã=>À ôg|Â=>Ä
 |.str j=>match x with
  |.str i=>À ùn|_=>Ä
 |.dic ks _=>(Ğe).bind λk=>À (yg ks k)|_=>Ä
def tI(x y:D):Æ D:=(Ub x y).bind λk=>À Łf
def Zt(x y:D):Æ D:=(Ub x y).bind λk=>À ĕk
noncomputable def uF(xs:Á α)(i:Int):Æ α:=if 0<=i then xs[ĝc]? else if -(à:Int)<=i then xs[(i+à).toNat]? else Ä
def zM:D->D->Æ D
 |.lst xs,.int i=>uF xs i|.tup xs,.int i=>uF xs i|.str z,.int i=>(ķr).bind λc=>À Ëj|.dic ks vs,k=>(uI k).bind λk=>Ă ks vs k|_,_=>Ä
noncomputable def qR:Á D->Æ D
 | [.lst xs]=>À şr| [.tup xs]=>À şr| [.str z]=>À Şr|_=>Ä
noncomputable def z2k:Á D->Æ D
 | [.int i]=>À üa| [.bl k]=>À (Β (if k then 1 else 0))|_=>Ä
inductive gb where
 |int|bool|str|list|tuple
noncomputable def gb.nm:gb->Ïa
 |.int => Àd|.bool => ńf|.str => Śf|.list => Ġ|.tuple => Ŧ
noncomputable def nN:D->Æ (Ì×Ì×Ì×Ì×Ì)
 |.zE=>À (Â,Â,Â,Â,Â)|.bl _=>À (Ã,Ã,Â,Â,Â)|.int _=>À (Ã,Â,Â,Â,Â)|.str _=>À (Â,Â,Ã,Â,Â)|.tup _=>À (Â,Â,Â,Â,Ã)|.lst _=>À (Â,Â,Â,Ã,Â)|.dic _ _=>Ä|.exc _=>Ä|.obj _ _ _=>Ä
noncomputable def gb.sel:gb->Ì×Ì×Ì×Ì×Ì->Ì
 |.int,k=>k.1|.bool,k=>k.2.1|.str,k=>k.2.2.1|.list,k=>k.2.2.2.1|.tuple,k=>k.2.2.2.2
def L_(T:gb)(d:D):Æ Ì:=(nN d).bind λk=>À (T.sel k)
def We(T:gb)(a:FE):FE:=λτ=>(a τ).bind λd=>(L_ T d).bind λb=>À ģc
noncomputable def ua(a:FE):FA:=λσ=>(òa).bind λd=>match d with
 |.lst xs=>À xs|.tup xs=>À xs|.str z=>À (Îp λc=>.str ⟨#[c]⟩)|_=>Ä
noncomputable def tJ(lo hi:FE):FA:=λσ=>(ĝl).bind λx=>(ğl).bind λy=>match x,y with
 |.int i,.int j=>if đc<=yZ/\ùh<=yZ/\(j-i).toNat<=yZ then À ((Ēa (j-i).toNat).map λk:Nat=>.int ŀd)else Ä|_,_=>Ä
noncomputable def yD(i:Nat):FG:=λd σ=>À (ς Œn)
noncomputable def uZ(i j:Nat):FG:=λd σ=>match d with
 |.tup Éd=>À ((ς (À (Â,x))).set j (À (Â,y)))|_=>Ä
noncomputable def wP:FS:=λσ=>À ěh
noncomputable def za(a b:FS):FS:=λσ=>(òa).bind λf=>match f with
 |.nx σ'=>b σ'|f=>À f
noncomputable def yO(i:Nat)(e:FE):FS:=λσ=>(Ĺd).bind λd=>À âs
noncomputable def q_(i:Nat)(e:FE):FS:=λσ=>(Ĺd).bind λd=>À (.nx (ς ŏc))
noncomputable def yF(e:FE):FS:=λσ=>(Ĺd).bind λd=>À (.rt Â d)
noncomputable def qz(e:FE):FS:=λσ=>(Ĺd).bind λd=>À Ăr
noncomputable def jT(i:Nat):FS:=λσ=>match σ[i]? with
 |À ŏc=>À Ăr|_=>Ä
noncomputable def xM(c:FT)(a b:FS):FS:=λσ=>(ĺd).bind λk=>match k with
 |Ã=>a σ|Â=>b σ
noncomputable def Z9(g:FG)(b:FS):Á D->zu->Æ Fl
 | [],σ=>À ěh|d::r,σ=>(ħf).bind λσ1=>(b σ1).bind λf=>match f with
  |.nx σ2=>Z9 g b r σ2|.ct σ2=>Z9 g b r σ2|.bk σ2=>À şk|.rt o d=>À ĥs
def qy(it:FA)(g:FG)(b:FS):FS:=λσ=>(it σ).bind λa=>Z9 g b a σ
noncomputable def pj(c:FT)(b:FS):Nat->zu->Æ Fl
 |0,_=>Ä|n+1,σ=>(ĺd).bind λk=>match k with
  |Â=>À ěh|Ã=>(Ġe).bind λf=>match f with
   |.nx σ2=>pj c b n σ2|.ct σ2=>pj c b n σ2|.bk σ2=>À şk|.rt o d=>À ĥs
noncomputable def gU:Nat:=100000000
def Mm(c:FT)(b:FS):FS:=λσ=>pj c b gU σ
noncomputable def T6(i:Nat):FS:=λσ=>match σ[i]? with
 |À âr=>À âs|_=>Ä
noncomputable def y76(i:Nat)(F:D->Æ D):FS:=λσ=>match σ[i]? with
 |À ŏc=>(F d).bind λa=>À Ăo|_=>Ä
noncomputable def YC(i:Nat)(F:D->D->Æ D)(e:FE):FS:=λσ=>match σ[i]? with
 |À ŏc=>(Ĺd).bind λx=>(F d x).bind λa=>À Ăo|_=>Ä
noncomputable def k_:D->D->Æ D
 |.lst xs,y=>if à<yZ then À Ďp else Ä|_,_=>Ä
def qY(i:Nat)(k v:FE):FS:=λσ=>(v σ).bind λy=>match σ[i]? with
 |À (À (Ã,.dic ks ds))=>(Řl).bind λx=>(Ğe).bind λx=>if ĭ<yZ then À (Βb (À (Ã,.dic ĉs şp)))else Ä|_=>Ä
def wN(ks:Á Ĩ)(ds:Á D)(x:D):Æ D:=(Ğe).bind λk=>Ă ks ds k
def X1(ks:Á Ĩ)(x:D):Æ D:=(Ğe).bind λk=>À ĳp
def Cw(d k e:FE):FE:=λσ=>(d σ).bind λx=>match x with
 |.dic ks ds=>(Řl).bind λy=>(Ĺd).bind λz=>(uI y).bind λy=>À ((Ă ks ds y).getD z)|_=>Ä
noncomputable def yo(g:FG)(c:FT)(e:FE)(σ:zu):Á D->Æ Ģc
 | []=>À []|d::r=>(ħf).bind λσ1=>(c σ1).bind λk=>match k with
  |Ã=>(Ŀf).bind λx=>(yo g c e σ r).bind λa=>À (x::a)|Â=>yo g c e σ r
noncomputable def yt:FT:=λ_=>À Ã
def wU(n:Nat)(it:FA)(g:FG)(c:FT)(e:FE):FE:=λσ=>(it σ).bind λa=>(yo g c e òj a).bind λb=>À Íc
noncomputable def yH(n:Nat)(b:FS)(ds:Á D):Æ â:=(b (Αe (n-Đ))).bind λf=>match f with
 |.rt o d=>À (o,d)|.nx _=>À (Â,.zE)|_=>Ä
noncomputable def zR(F:Á D->Æ â)(a:FA):FE:=λσ=>(òa).bind λb=>(F b).bind λr=>À r.2
noncomputable def ur(F:Á D->Æ â)(a:FA):FE:=λσ=>(òa).bind λb=>(F b).bind λr=>match r with
 |(Ã,d)=>À d|_=>Ä
open Ķ ī L2
abbrev St:=L2.St
def sK(_:Í)(H:Hp)(a:É)(kvs:Á ż):Prop:=Rd H a Ł
mutual
def zZ(K:Í)(H:Hp):D->V->Prop
 |.zE,v=>v=.zE|.bl b,v=>v=.bl b|.int i,v=>v=.int i|.str x,v=>v=.str x/\Ūc<=á|.tup ds,v=>∃a vs,v=.ref a/\xF K H a vs/\Þ K H ds vs/\Đ<=á|.lst ds,v=>∃a vs,v=.ref a/\yf K H a vs/\Þ K H ds vs/\Đ<=á|.dic ks ds,v=>∃a vs,v=.ref a/\sK K H a Ŏa/\ĭ=Ā/\Þ K H ds vs/\Đ<=á|.exc x,v=>∃a C,v=.ref a/\ű K ė x=À ĕa/\H a=À (.ext (sE a C))|.obj x fs ds,v=>∃a C dx vs,v=.ref a/\ű K ė x=À ĕa/\H a=À ĵi/\Ÿa=Ā/\Þ K H ds vs
def Þ(K:Í)(H:Hp):Á D->Á V->Prop
 | [],vs=>vs=[]|d::ds,vs=>∃v r,vs=v::r/\zZ K H d v/\Þ K H ds r
end
section
variable{K:Í}{H H':Hp}
def Ųc{a:É}{u:HO}(s:zw H H')(h:Rd H a u):Rd H' a u:=by rcases h with h|⟨o,h⟩;exact .inl (s _ _ h);exact .inr ⟨o,s _ _ h⟩
def uD(s:zw H H')(h:xF K H a xs):xF K H' a xs:=by rcases h with h|h;exact .inl às;exact .inr h
def uO(s:zw H H')(h:yf K H a xs):yf K H' a xs:=by rcases h with h|h;exact .inl às;exact .inr h
theorem ęb:∀{ds:Á D}{vs:Á V},(∀d∈ds,∀v,zZ K H d v->zZ K H' d v)->Þ K H ds vs->Þ K H' ds vs
 | [],_,_,h=>h|d::ds,vs,f,h=>by obtain⟨v,r,rfl,b,c⟩:=h;exact⟨v,r,rfl,f d ĵ v b,ęb (λa m=>f a Þh) c⟩
theorem zZ.mono(s:zw H H'):∀{d:D}{v:V},zZ K H d v->zZ K H' d v:=λ{d}=>by refine Ŀd (P:=λd=>∀v,zZ K H d v->zZ K H' d v) ĥr ħq ĥq Ĥq ?_ ?_ ?_ ?_ ?_ d _;rintro g f v ⟨a,c,e,q,r,l⟩;exact⟨a,c,e,uD s q,ęb f r,l⟩;rintro g f v ⟨a,c,e,q,r,l⟩;exact⟨a,c,e,uO s q,ęb f r,l⟩;rintro m g f v ⟨a,c,e,q,z,r,l⟩;exact⟨a,c,e,Ųc s q,z,ęb f r,l⟩;rintro x v ⟨a,C,e,n,h⟩;exact⟨a,C,e,n,s _ _ h⟩;rintro x k g f v ⟨a,C,j,c,e,n,h,l,r⟩;exact⟨a,C,j,c,e,n,s _ _ h,l,ęb f r⟩
theorem Reps.mono(s:zw H H'){ds:Á D}{vs:Á V}(h:Þ K H ds vs):Þ K H' ds vs:=ęb (λ_ _ _=>zZ.mono s) h
theorem Àk:∀{ds:Á D}{vs:Á V},Þ K H ds vs->Ā=Đ
 | [],_,h=>by cases(show _=[]from h);rfl|d::ds,_,h=>by obtain⟨v,r,rfl,_,a⟩:=h;rw[ĕ,ĕ,Àk a]
theorem Reps.get:∀{ds:Á D}{vs:Á V}{i:Nat}{d:D},Þ K H ds vs->ds[i]?=À d->∃v,vs[i]?=À v/\zZ K H d v
 | [],_,_,_,_,e=>by cases e|d::ds,_,0,_,h,e=>by obtain⟨v,r,rfl,a,b⟩:=h;cases e;exact⟨v,rfl,a⟩
 |d::ds,_,i+1,d',h,e=>by obtain⟨v,r,rfl,a,b⟩:=h;exact Reps.get (i:=i) b āb
theorem Reps.at{ds:Á D}{vs:Á V}{i:Nat}{v:V}(h:Þ K H ds vs)(e:vs[i]?=À v):∃d,ds[i]?=À d/\zZ K H d v:=by
 have l:=ėd;have a:i<Đ:=by rw[<-l];exact Ŀh.1
 obtain⟨c,b,r⟩:=h.get (Ģ a);rw[e]at b;cases b;exact⟨_,Ģ a,r⟩
theorem Żq:∀{ds es:Á D}{vs us:Á V},Þ K H ds vs->Þ K H es us->Þ K H (ds++es) (vs++us)
 | [],_,_,_,h,g=>by cases(show _=[]from h);exact g|d::ds,_,_,_,h,g=>by obtain⟨v,r,rfl,a,b⟩:=h;exact⟨v,_,rfl,a,Żq b g⟩
def Ăh(h:zZ K H d v):Þ K H [d] [v]:=⟨v,[],rfl,h,rfl⟩
theorem Äs:∀{ds:Á D}{vs:Á V}(n:Nat),Þ K H ds vs->Þ K H (ds.take n) (vs.take n)
 |_,_,0,_=>by rw[ćj,ćj];rfl| [],_,n+1,h=>by cases(show _=[]from h);rfl|d::ds,_,n+1,h=>by obtain⟨v,r,rfl,a,b⟩:=h;exact⟨v,_,rfl,a,Äs n b⟩
theorem Çs:∀{ds:Á D}{vs:Á V}(n:Nat),Þ K H ds vs->Þ K H (īh n) (vs.drop n)
 |_,_,0,h=>h| [],_,n+1,h=>by cases(show _=[]from h);rfl|d::ds,_,n+1,h=>by obtain⟨v,r,rfl,b,a⟩:=h;exact Çs n a
theorem õf:∀{ns:Á Int},Þ K H Ņb Ġa
 | []=>rfl|n::ns=>⟨_,_,rfl,rfl,õf⟩
#print a
structure zT(G H G' H':Hp):Prop where
 g:zw G G'
 h:zw H H'
 gh:zw G' H'
 new:∀p,G' p≠Ä->G p≠Ä\/H p=Ä
section
variable{G H G0 H0 G1 H1 G2 H2:Hp}{p:É}{o:HO}
theorem ŉa(s:zw G H):zT G H G H:=⟨řa _,řa _,s,λ_ h=>.inl h⟩
theorem zT.trans(a:zT G H G1 H1)(b:zT G1 H1 G2 H2):zT G H G2 H2:=⟨ĭk b.g,a.h.trans b.h,b.gh,λp h=>by rcases b.new p h with z|z;exact a.new p z;exact .inr (a.h.free z)⟩
def zT.rebase(a:zT G0 H0 G1 H1)(b:zT G1 H0 G2 H2):zT G0 H0 G2 H2:=⟨ĭk b.g,b.h,b.gh,λp h=>by rcases b.new p h with z|z;exact a.new p z;exact .inr z⟩
def zT.zC(a:zT G0 H0 G1 H1):zT G1 H0 G1 H1:=⟨řa _,a.h,a.gh,λ_ h=>.inl h⟩
def RI(h:zX H p o q≠Ä):q=p\/H q≠Ä:=by by_cases e:q=p;exact .inl e;rw[yB e]at h;exact .inr h
def Mn(s:zw G H):zw Īr Ąd:=λb u e=>by by_cases hb:b=p;subst hb;rw[ya]at e ⊢;exact e;rw[yB hb]at e ⊢;exact s _ _ e
def Ûc(s:zw G H)(h:H p=Ä):zT G H Īr Ąd:=⟨vj (s.free h) o,vj h o,Mn s,λq z=>by rcases RI z with e|e;exact .inr (e▸h);exact .inl e⟩
def ìb(s:zw G H)(h:H p=Ä):zT G H G Ąd:=⟨řa _,vj h o,s.trans (vj h o),λ_ z=>.inl z⟩
def zT.yJ(a:zT G H G1 H1)(h:H p=Ä)(g:G1 p=Ä)(e:H1 p=À o):zT G H (zX G1 p o) H1:=⟨ĭk (vj g o),a.h,λb u q=>by
 by_cases hb:b=p;subst hb;rw[ya]at q;cases q;exact e;rw[yB hb]at q;exact a.gh _ _ q,λq z=>by
 rcases RI z with w|w;exact .inr (w▸h);exact a.new q w⟩
#print a
def vN(K:Í)(G H:Hp)(d:D)(p:É):Prop:=match d with
 |.lst ds=>∃vs,H p=À İs/\Þ K G ds vs/\Đ<=á|.dic ks ds=>∃vs,H p=À Ĵs/\ĭ=Ā/\Þ K G ds vs/\Đ<=á|_=>ò
section
variable{K:Í}{G H G' H':Hp}{d:D}{p:É}
def vN.some(h:vN K G H d p):H p≠Ä:=by
 cases d with
 |lst ds=>obtain⟨a,e,_⟩:=h;rw[e];exact λz=>nomatch z
 |dic ks ds=>obtain⟨a,e,_⟩:=h;rw[e];exact λz=>nomatch z
 |_=>exact ĳl
theorem vN.mono(g:zw G G')(h:zw H H')(o:vN K G H d p):vN K G' H' d p:=by
 cases d with
 |lst ds=>obtain⟨a,e,r,l⟩:=o;exact⟨a,h _ _ e,þa g,l⟩
 |dic ks ds=>obtain⟨a,e,z,r,l⟩:=o;exact⟨a,h _ _ e,z,þa g,l⟩
 |_=>exact Ĭd
def vN.rep(s:zw G H)(o:vN K G H d p):zZ K H d Êa:=by
 cases d with
 |lst ds=>obtain⟨a,e,r,l⟩:=o;exact⟨p,a,rfl,åc e,þa s,l⟩
 |dic ks ds=>obtain⟨a,e,z,r,l⟩:=o;exact⟨p,a,rfl,.inl e,z,þa s,l⟩
 |_=>exact Ĭd
def vN.yJ(o:vN K G H d p)(g:G p=Ä):∃u,H p=Option.some u/\zZ K Āk d Êa:=by
 cases d with
 |lst ds=>obtain⟨a,e,r,l⟩:=o;exact⟨_,e,p,a,rfl,åc ya,þa ýe,l⟩
 |dic ks ds=>obtain⟨a,e,z,r,l⟩:=o;exact⟨_,e,p,a,rfl,.inl ya,z,þa ýe,l⟩
 |_=>exact Ĭd
#print a
structure zp(K:Í)(n:Nat)(G0 H0 G H:Hp)(τ:zu)(σ:St):Prop where
 ext:zT G0 H0 G H
 l1:σ.length=n
 l2:τ.length=n
 fr:∀(i:Nat)(d:D),τ[i]?=À śd->∃v,σ[i]?=À æa/\zZ K G d v
 ow:∀(i:Nat)(d:D),τ[i]?=À ŏc->∃p,σ[i]?=À ųe/\G p=Ä/\H0 p=Ä/\vN K G H d p
 ap:∀(i j:Nat)(d e:D)(p:É),i≠j->τ[i]?=À ŏc->τ[j]?=À Äf->σ[i]?=À ųe->σ[j]?=À ųe->ò
section
variable{K:Í}{n:Nat}{G0 H0 G H G' H':Hp}{τ:zu}{σ:St}
def zp.go(E:zp K n G0 H0 G H τ σ)(x:zT G H G' H'):zp K n G0 H0 G' H' τ σ:=⟨Är x,Ş,ŏ,λi d h=>by
 obtain⟨v,e,r⟩:=Įb i d h;exact⟨v,e,þa x.g⟩,λi d h=>by
 obtain⟨p,e,g,z,o⟩:=ŧa i d h;refine⟨p,e,?_,z,o.mono x.g x.h⟩;cases q:G' p with
 |Ä=>rfl|À u=>rcases Âd p (by rw[q];exact λz=>nomatch z)with w|w;exact Ú g w;exact Ú w o.some,úb⟩
theorem zp.zC(E:zp K n G0 H0 G H τ σ):zp K n G H0 G H τ σ:=⟨E.ext.zC,Ş,ŏ,Įb,ŧa,úb⟩
def zp.near(a:zT G0 H0 Ga Ha)(E:zp K n Ga H0 G H τ σ):zp K n G0 H0 G H τ σ:=⟨a.rebase Èd,Ş,ŏ,Įb,ŧa,úb⟩
def zp.lt{i:Nat}{s:Æ Sl}(E:zp K n G0 H0 G H τ σ)(h:τ[i]?=À s):i<n:=by rw[<-ŏ];exact ĝb.1
def u3{α:Type}{xs:Á α}{i j:Nat}{x y:α}(h:őg[j]?=À y):(j=i/\y=x)\/(j≠i/\xs[j]?=À y):=by
 rw[Ŷi]at h;by_cases e:i=j;subst e;rw[Ï rfl]at h
 split at h;cases h;exact .inl ⟨rfl,rfl⟩;cases h;rw[Ð e]at h;exact .inr ⟨λz=>e Ėe,h⟩
def X7{α:Type}{xs:Á α}{i:Nat}{x:α}(h:i<à):őg[i]?=À x:=by rw[Ŷi,Ï rfl,Ï h]
theorem qp{α:Type}{xs:Á α}{i j:Nat}{x:α}(h:j≠i):őg[j]?=xs[j]?:=by rw[Ŷi,Ð (λz=>h Ėe)]
theorem zp.set{i:Nat}{d:D}{v:V}(E:zp K n G0 H0 G H τ σ)(hi:i<n)(r:zZ K G d v):zp K n G0 H0 G H ēj ëe:=⟨Èd,by rw[Ŋa];exact Ş,by rw[Ŋa];exact ŏ,λj e h=>by
 rcases u3 h with⟨rfl,z⟩|⟨a,z⟩;cases z;exact⟨v,X7 äg,r⟩;rw[qp a];exact Įb j e z,λj e h=>by
 rcases u3 h with⟨rfl,z⟩|⟨a,z⟩;cases z;rw[qp a];exact ŧa j e z,λj k e f p b l m=>by
 rcases u3 l with⟨rfl,z⟩|⟨a,z⟩;cases z;rcases u3 m with⟨rfl,c⟩|⟨g,c⟩;cases c;rw[qp a,qp g];exact úb j k e f p b z c⟩
def zp.AD{i:Nat}{d:D}{p:É}(E:zp K n G0 H0 G H τ σ)(hi:i<n)(u:G p=Ä)(v:H0 p=Ä)(o:vN K G H d p)(r:∀(j:Nat)(e:D),j≠i->τ[j]?=À Äf->σ[j]?=À ųe->ò) :zp K n G0 H0 G H (τ.set i ŏc) és:=⟨Èd,by rw[Ŋa];exact Ş,by rw[Ŋa];exact ŏ,λj e h=>by
 rcases u3 h with⟨rfl,z⟩|⟨b,z⟩;cases z;rw[qp b];exact Įb j e z,λj e h=>by
 rcases u3 h with⟨rfl,z⟩|⟨b,z⟩;cases z;exact⟨p,X7 äg,u,v,o⟩;rw[qp b];exact ŧa j e z,λj k e f q m t s c g=>by
 rcases u3 t with⟨rfl,z⟩|⟨b,z⟩;rcases u3 s with⟨rfl,l⟩|⟨a,l⟩;exact m rfl;rw[X7 äg]at c;rw[qp a]at g;cases c;exact r k f a l g;rcases u3 s with⟨rfl,l⟩|⟨a,l⟩;rw[X7 äg]at g;rw[qp b]at c;cases g;exact r j e b z c;rw[qp b]at c;rw[qp a]at g;exact úb j k e f q m z l c g⟩
def zp.A8(E:zp K n G0 H0 G H τ σ)(a:H p=Ä):∀(j:Nat)(e:D),j≠i->τ[j]?=À Äf->σ[j]?=À ųe->ò:=λj e _ b c=>by obtain⟨q,e1,_,_,o⟩:=ŧa j e b;rw[c]at e1;cases e1;exact o.some a
def zp.freeze{i:Nat}{b:Ì}{d:D}(E:zp K n G0 H0 G H τ σ)(hi:τ[i]?=À Ùe):∃G',zp K n G0 H0 G' H ēj σ/\zw G G':=by
 have s:=E.lt hi;cases b with
 |Â=>
  refine⟨G,?_,řa _⟩
  have e:τ.set i śd=τ:=by apply Ŷd;intro j;by_cases hj:j=i;subst hj;rw[X7 (by rw[ŏ];exact s),hi];rw[qp hj]
  rw[e];exact E
 |Ã=>obtain⟨p,e,g,z,o⟩:=ŧa i d hi;obtain⟨u,F,r⟩:=o.yJ g;have x:zT G0 H0 Āk H:=E.ext.yJ z g F;refine⟨zX G p u,⟨x,Ş,by rw[Ŋa];exact ŏ,λj l h=>?_,λj l h=>?_,λj k e1 f q y A B=>?_⟩,vj g _⟩;rcases u3 h with⟨rfl,w⟩|⟨t,w⟩;cases w;exact⟨_,e,r⟩;obtain⟨v,a,N⟩:=Įb j l w;exact⟨v,a,N.mono ýe⟩;rcases u3 h with⟨rfl,w⟩|⟨t,w⟩;cases w;obtain⟨q,a,I,L,C⟩:=ŧa j l w;refine⟨q,a,?_,L,C.mono ýe ķh⟩;rw[yB äh];exact I;subst c;exact úb i j d l q (λc=>t Ĭh) hi w e a;rcases u3 A with⟨rfl,w⟩|⟨t,w⟩;cases w;rcases u3 B with⟨rfl,m⟩|⟨J,m⟩;cases m;exact úb j k e1 f q y w m
#print a
section
variable(X:Cx)
structure SE(e:Ñ)(f:FE):Prop where
 h:∃t,PE X e t/\∀{G0 H0 G H:Hp}{τ:zu}{σ:St}{d:D}{Q:VK},zp X.K ú G0 H0 G H τ σ->f τ=À d->(∀v G' H',zT G H G' H'->zZ X.K G' d v->Q v H')->t σ H Q
structure SB(e:Ñ)(f:FE):Prop where
 h:∃t,PE X e t/\∀{G0 H0 G H:Hp}{τ:zu}{σ:St}{d:D}{Q:VK},zp X.K ú G0 H0 G H τ σ->f τ=À d->(∀v G' H',zT G H G' H'->zZ X.K H' d v->Q v H')->t σ H Q
structure SF(e:Ñ)(f:FE):Prop where
 h:∃t,PE X e t/\∀{G0 H0 G H:Hp}{τ:zu}{σ:St}{d:D}{Q:VK},zp X.K ú G0 H0 G H τ σ->f τ=À d->(∀p G' H',zT G H G' H'->H p=Ä->G' p=Ä->vN X.K G' H' d p->Q Êa H')->t σ H Q
structure ST(e:Ñ)(f:FT):Prop where
 h:∃t,PT X e t/\∀{G0 H0 G H:Hp}{τ:zu}{σ:St}{d:Ì}{Q:Ì->Hp->Prop},zp X.K ú G0 H0 G H τ σ->f τ=À d->(∀G' H',zT G H G' H'->Q d H')->t σ H Q
structure SW(e:Ñ)(f:FT):Prop where
 h:∃t,PW X e t/\∀{G0 H0 G H:Hp}{τ:zu}{σ:St}{d:Ì}{Q:Ì->Hp->Prop},zp X.K ú G0 H0 G H τ σ->f τ=À d->(∀G' H',zT G H G' H'->Q d H')->t σ H Q
structure SA(es:Á Ñ)(f:FA):Prop where
 h:∃t,PA X es t/\∀{G0 H0 G H:Hp}{τ:zu}{σ:St}{ds:Á D}{Q:Á V->Hp->Prop},zp X.K ú G0 H0 G H τ σ->f τ=À ds->(∀vs G' H',zT G H G' H'->Þ X.K G' ds vs->Q vs H')->t σ H Q
structure Oo(es:Á Ñ)(f:FA):Prop where
 h:∃t,PA X es t/\∀{G0 H0 G H:Hp}{τ:zu}{σ:St}{ds:Á D}{Q:Á V->Hp->Prop},zp X.K ú G0 H0 G H τ σ->f τ=À ds->(∀vs G' H',zT G H G' H'->Þ X.K H' ds vs->Q vs H')->t σ H Q
#print a
def t9(K:Í)(n:Nat)(b a:Hp)(E:uT):Fl->Prop
 |.nx τ=>∀σ G H,zp K n b a G H τ σ->E.nx σ H|.bk τ=>∀σ G H,zp K n b a G H τ σ->E.bk σ H|.ct τ=>∀σ G H,zp K n b a G H τ σ->E.ct σ H|.rt Â d=>∀v G H,zT b a G H->zZ K G d v->E.rt v H|.rt Ã d=>∀p G H,zT b a G H->a p=Ä->G p=Ä->vN K G H d p->E.rt Êa H
section
variable(X:Cx)
structure SS(st:Õ)(f:FS):Prop where
 h:∃t,PS X st t/\∀{G0 H0 G H:Hp}{τ:zu}{σ:St}{fl:Fl}{E:uT},zp X.K ú G0 H0 G H τ σ->f τ=À fl->t9 X.K ú G0 H0 E fl->t E σ H
structure qM(st:Á Õ)(f:FS):Prop where
 h:∃t,tD X st t/\∀{G0 H0 G H:Hp}{τ:zu}{σ:St}{fl:Fl}{E:uT},zp X.K ú G0 H0 G H τ σ->f τ=À fl->t9 X.K ú G0 H0 E fl->t E σ H
#print a
structure jn(K:Í)(J:It)(G:Hp)(ds:Á D):Prop where
 go:∀i G2 H,zw G G2->zw G2 H->i<Đ->J.go i H
 uh:∀i G2 H x H',zw G G2->zw G2 H->i<Đ->J.uh i H x H'->∃G3 d,zT G2 H G3 H'/\ds[i]?=À d/\zZ K G3 d x
 ţ:∀i G2 H,zw G G2->zw G2 H->Đ<=i->Ŗh i H
structure SI(X:Cx)(tg Ū:Ñ)(f:FA):Prop where
 h:∃wi,PI X tg Ū wi/\∀{G0 H0 G H:Hp}{τ:zu}{σ:St}{ds:Á D}{R:It->Hp->Prop},zp X.K ú G0 H0 G H τ σ->f τ=À ds->(∀J G' H',zT G H G' H'->Đ<=á->jn X.K J G' ds->R J H')->wi σ H R
noncomputable def vQ(K:Í)(F:Á D->Æ â):Sp:=λa H Q _=>∃G ds o d,zw G H/\Þ K G ds a/\F ds=À (o,d)/\
 match o with
 |Â=>∀v G' H',zT G H G' H'->zZ K G' d v->Q v H'|Ã=>∀p G' H',zT G H G' H'->H p=Ä->G' p=Ä->vN K G' H' d p->Q Êa H'
def zJ{α β:Type}{o:Æ α}{f:α->Æ β}{b:β}(h:įl f=À b):∃a,o=À a/\f a=À b:=by
 cases o with
 |Ä=>cases h|À a=>exact⟨a,rfl,h⟩
def C_(h:z6 i τ=À d):τ[i]?=À śd:=by
 unfold z6 at h
 split at h;rename_i e;cases h;exact e;cases h
def z2e(h:JF i τ=À d):∃b,τ[i]?=À Ùe:=by
 unfold JF at h
 split at h;rename_i b a e;cases h;exact⟨_,e⟩;cases h
section
variable{X:Cx}{x:Str}{p pos:Pos}{e a b c o:Ñ}{es Ō:Á Ñ}{f fa fb:FE}{ft fu:FT}{fs:FA}{F:D->D->Æ D}{r:R2}
def SE.sb(h:SE X e f):SB X e f:=⟨let ⟨t,p,k⟩:=h.h;⟨t,p,λE a q=>k E a λv c b x r=>q v c b x (þa Åb)⟩⟩
def SF.se(h:SF X e f):SE X e f:=⟨let ⟨t,p,k⟩:=h.h;⟨t,p,λE b q=>k E b λp i g x d a o=>by obtain⟨u,c,r⟩:=o.yJ a;exact q _ _ _ (x.yJ d a c) r⟩⟩
def zN(h:SE X e f):SB X e f:=h.sb
def yV(h:SF X e f):SE X e f:=h.se
def z7(i:Nat)(b:Ê ŷe q12)(hv:Ê çf q13)(d:Ê Ļ q10)(a:Ê Ŭb q10):SE X Ća ŉl:=⟨⟨_,V7 b hv d a,λE c q=>by obtain⟨v,e,r⟩:=Įb _ _ Ŝl;exact⟨v,e,q v _ _ Čc r⟩⟩⟩
def y7a(i:Nat)(d:Ê ŷe q12)(hv:Ê çf q13)(g:Ê Ļ q10)(a:Ê Ŭb q10):SB X Ća (JF i):=⟨⟨_,V7 d hv g a,λE f q=>by
 obtain⟨b,c⟩:=z2e f;cases b with
 |Â=>obtain⟨v,e,r⟩:=Įb _ _ c;exact⟨v,e,q v _ _ Čc (þa Õb)⟩
 |Ã=>obtain⟨p,e,_,_,o⟩:=ŧa _ _ c;exact⟨_,e,q _ _ _ Čc (o.rep Õb)⟩⟩⟩
def Ic(h:PE X e Œf)(r:∀H,zZ X.K H d v):SE X e (eC d):=⟨⟨_,h,λE a q=>by cases a;exact q v _ _ Čc (r _)⟩⟩
def zH{i k pos}:SE X (.Constant üa k pos) (eC üa):=Ic iD λ_=>rfl
def pY{i k pos}:SE X (.Constant (.bool i) k pos) (eC (.bl i)):=Ic y47 λ_=>rfl
def ve{k pos}:SE X (.Constant .none k pos) ēa:=Ic y4o λ_=>rfl
def yS{x k pos}(h:Ê (Ūc<=1000) q10):SE X (.Constant śb k pos) (eC śb):=Ic y4t λ_=>⟨rfl,Ŧb h⟩
def vk(h:wp ð x v)(r:∀H,zZ X.K H d v)(a:Gl X x)(b:Ê Ļ q10):SE X Ća (eC d):=Ic (V6 h a b) r
def uk(K:Í)(r:R2)(F:D->D->Æ D):Prop:=∀G H x y u v d (Q:VK),zw G H->zZ K G x u->zZ K G y v->F x y=À d->(∀w G' H',zT G H G' H'->zZ K G' d w->Q w H')->r u v H Q
def ji(K:Í)(r:R2)(F:D->D->Æ D):Prop:=∀H x y u v d (Q:VK),zZ K H x u->zZ K H y v->F x y=À d->∃k,d=.bl k/\(Q Łf H->r u v H Q)
def zY(s:yk X (Ôb op) r)(p:uk X.K r F)(m:SE X a fa)(C:SE X b fb):SE X (.BinOp a op b pos) Ŕg:=by
 obtain⟨O,B,I⟩:=m.h;obtain⟨N,l,i⟩:=C.h;refine⟨⟨_,iF s B l,λE c q=>?_⟩⟩;obtain⟨x,z,c⟩:=zJ c;obtain⟨y,n,c⟩:=zJ c;refine I E z λv J L e H=>?_
 refine i Ąl n λu G A d t=>?_
 exact p G A x y v u _ _ d.gh (H.mono d.g) t c λw o k j f=>q w o k (Ŵc (þc j)) f
def zg(n:pJ X r)(t:uk X.K r F)(o:SE X a fa)(G:SE X b fb)(i:Ê Ŋr q12):SE X êo Ŕg:=by
 obtain⟨P,C,J⟩:=o.h;obtain⟨O,m,j⟩:=G.h;refine⟨⟨_,Hu n C m (Hy i),λE c q=>?_⟩⟩;obtain⟨x,A,c⟩:=zJ c;obtain⟨y,p,c⟩:=zJ c;refine J E A λv L N e I=>?_
 refine j Ąl p λu H B d z=>?_
 exact t H B x y v u _ _ d.gh (Řh d.g) z c λw s l k f=>q w s l (Ŵc (þc k)) f
def uc(m:yk X (Ģa op) r)(n:ji X.K r F)(j:SB X a fa)(w:SB X b fb)(f:úc op b=Â):SE X Ħn Ŕg:=by
 obtain⟨I,t,B⟩:=j.h;obtain⟨H,i,g⟩:=w.h;refine⟨⟨_,iA m t i f,λE c q=>?_⟩⟩;obtain⟨x,p,c⟩:=zJ c;obtain⟨y,l,c⟩:=zJ c;refine B E p λv C G e A=>?_
 refine g Ąl l λu J s d o=>?_
 obtain⟨k,rfl,z⟩:=n s x y v u _ _ (A.mono d.h) o c;exact z (q _ _ _ (Ŵc d) rfl)
def yP(n:yk X (Ģa op) r)(o:ji X.K r F)(l:SB X a fa)(A:SB X b fb)(g:úc op b=Â):ST X Ħn (tE Ŕg):=by
 obtain⟨J,w,C⟩:=l.h;obtain⟨I,j,i⟩:=A.h;refine⟨⟨_,K9 n w j g,λE d q=>?_⟩⟩;obtain⟨z,c,d⟩:=zJ d;obtain⟨x,s,c⟩:=zJ c;obtain⟨y,m,c⟩:=zJ c;refine C E s λv G H f B=>?_
 refine i ăl m λu L t e p=>?_
 obtain⟨k,rfl,z⟩:=o t x y v u _ _ (ņl e.h) p c;cases d;exact z ⟨_,rfl,q _ _ (f.trans e)⟩
def tO(h:SE X e f)(c:Ê ōr q12):ST X e (tE f):=by
 obtain⟨t,p,k⟩:=h.h;refine⟨⟨_,iY p (iK c),λE a q=>?_⟩⟩;obtain⟨z,b,a⟩:=zJ a;refine k E b λv g d x r=>?_
 cases z<;>first|cases a|skip
 cases r;exact⟨_,rfl,q _ _ x⟩
def x08(h:ST X a ft):SW X łi ft:=⟨let ⟨t,p,k⟩:=h.h;⟨t,io p,k⟩⟩
def TV(h:ST X a ft):SW X ői ft:=⟨let ⟨t,p,k⟩:=h.h;⟨t,iq p,k⟩⟩
def nE(i:ST X a ft)(l:SW X Ăf fu):SW X ăf (B8 ft fu):=by
 obtain⟨u,m,n⟩:=i.h;obtain⟨t,g,f⟩:=l.h;refine⟨⟨_,im m g,λE c q=>?_⟩⟩;obtain⟨k,e,c⟩:=zJ c;refine n E e λo r d=>?_
 cases k with
 |Ã=>exact jz őm|Â=>cases c;exact jy ďs
def TU(i:ST X a ft)(l:SW X Āf fu):SW X āf (YH ft fu):=by
 obtain⟨u,m,n⟩:=i.h;obtain⟨t,g,f⟩:=l.h;refine⟨⟨_,ip m g,λE c q=>?_⟩⟩;obtain⟨k,e,c⟩:=zJ c;refine n E e λo r d=>?_
 cases k with
 |Â=>exact jy őm|Ã=>cases c;exact jz ďs
def VH(h:SW X e ft):ST X e ft:=⟨let ⟨t,p,k⟩:=h.h;⟨t,p.pt,k⟩⟩
def Xd(h:ST X a ft):ST X ñg (ZR ft):=by obtain⟨i,e,f⟩:=h.h;refine⟨⟨_,y5r e,λE b q=>?_⟩⟩;obtain⟨k,c,b⟩:=zJ b;cases b;exact f E c λg j d=>q _ _ d
def VC{op}(h:SE X a f):SE X ìo f:=⟨let ⟨t,p,k⟩:=h.h;⟨t,y4q p,k⟩⟩
def Mg{K:Í}{G:Hp}{z:D}{v:V}{k:Ì}(r:zZ K G z v)(h:Yu z=À k):v=.bl k:=by
 cases z<;>first|cases h|skip
 exact r
def IZ(i:SE X a fa)(m:SE X Ăf fb):SE X ăf (Wd fa fb):=by
 obtain⟨y,o,r⟩:=i.h;obtain⟨x,g,f⟩:=m.h;refine⟨⟨_,y46 o g,λE c q=>?_⟩⟩;obtain⟨z,n,c⟩:=zJ c;obtain⟨k,e,c⟩:=zJ c;refine r E n λv s w d p=>⟨k,Mg p e,?_⟩
 cases k with
 |Ã=>exact jz đm|Â=>cases c;exact jy Ěp
def mO(i:SE X a fa)(m:SE X Āf fb):SE X āf (LP fa fb):=by
 obtain⟨y,o,r⟩:=i.h;obtain⟨x,g,f⟩:=m.h;refine⟨⟨_,y4r o g,λE c q=>?_⟩⟩;obtain⟨z,n,c⟩:=zJ c;obtain⟨k,e,c⟩:=zJ c;refine r E n λv s w d p=>⟨k,Mg p e,?_⟩
 cases k with
 |Â=>exact jy đm|Ã=>cases c;exact jz Ěp
def y8v(c:SE X a fa):SE X ñg (Cy fa):=by obtain⟨m,g,j⟩:=c.h;refine⟨⟨_,y4p g,λE b q=>?_⟩⟩;obtain⟨z,f,b⟩:=zJ b;obtain⟨k,d,b⟩:=zJ b;cases b;exact j E f λv l n e i=>⟨k,Mg i d,q _ _ _ e rfl⟩
def qZ(t:ST X c ft)(p:SE X a fa)(s:SE X b fb):SE X śo (uX ft fa fb):=by
 obtain⟨y,o,i⟩:=t.h;obtain⟨B,u,w⟩:=p.h;obtain⟨A,n,l⟩:=s.h;refine⟨⟨_,y4j o u n,λE e q=>?_⟩⟩;obtain⟨k,j,e⟩:=zJ e;refine i E j λx z d=>?_
 cases k with
 |Ã=>exact jz (w ĺf e λv r m f g=>q v _ _ (þc f) g)|Â=>exact jy (l ĺf e λv r m f g=>q v _ _ (þc f) g)
def zK:SA X [] zG:=⟨⟨_,V5,λE a q=>by cases a;exact q _ _ _ Čc rfl⟩⟩
def zB(m:SE X e f)(l:SA X es fs)(h:Ê ļa q12):SA X ğ ās:=by
 obtain⟨z,p,s⟩:=m.h;obtain⟨w,k,j⟩:=l.h;refine⟨⟨_,XR p k h,λE a q=>?_⟩⟩;obtain⟨x,o,a⟩:=zJ a;obtain⟨y,b,a⟩:=zJ a;cases a;refine s E o λv t u d r=>j ĺf b λi B A c n=>?_
 exact q _ _ _ ŷc ⟨v,i,rfl,þa c.g,n⟩
def tz:Oo X [] zG:=⟨⟨_,V5,λE a q=>by cases a;exact q _ _ _ Čc rfl⟩⟩
def tu(l:SB X e f)(k:Oo X es fs)(h:Ê ļa q12):Oo X ğ ās:=by
 obtain⟨y,o,r⟩:=l.h;obtain⟨u,j,i⟩:=k.h;refine⟨⟨_,XR o j h,λE a q=>?_⟩⟩;obtain⟨x,n,a⟩:=zJ a;obtain⟨w,b,a⟩:=zJ a;cases a;refine r E n λv s t d p=>i ĺf b λg A z c m=>?_
 exact q _ _ _ ŷc ⟨v,g,rfl,Įl c.h,m⟩
def IR(h:äb es=À is):SA X es (λ_=>À Ņq):=⟨⟨_,i6 h,λE a q=>by cases a;exact q _ _ _ Čc õf⟩⟩
def wH{x1}(h:SA X es fs)(i:∀τ ds,fs τ=À ds->Đ<=1000):SE X Śo (xt fs):=by
 obtain⟨t,f,k⟩:=h.h;refine⟨⟨_,y4u f,λE a q=>?_⟩⟩;obtain⟨g,c,a⟩:=zJ a;cases a;have l:Ēc<=á:=Ŧb (i _ _ c);refine k E c λe j m x1 d=>⟨by rw[åa];exact l,λp b=>?_⟩
 exact q _ _ _ (x1.trans (Ûc x1.gh b)) ⟨p,e,rfl,īc ya,d.mono (vj (x1.gh.free b) _),l⟩
def xz(h:SA X es fs)(j:∀τ ds,fs τ=À ds->Đ<=1000):SF X źp (xi fs):=by
 obtain⟨t,g,k⟩:=h.h;refine⟨⟨_,y4k g,λE c q=>?_⟩⟩;obtain⟨i,d,c⟩:=zJ c;cases c;have l:Úb<=á:=Ŧb (j _ _ d);refine k E d λf m n a e=>⟨by rw[e.length];exact l,λp b=>?_⟩
 exact q _ _ _ (a.trans (ìb a.gh b)) (a.h.free b) (a.gh.free b) ⟨f,ya,e,l⟩
def yR:∀(τ:zu) ds,zG τ=À ds->Đ<=0:=λ_ _ h=>by cases h;exact Øa _
def zS(h:∀τ ds,fs τ=À ds->Đ<=n):∀τ ds,zA f fs τ=À ds->Đ<=n+1:=λτ ds e=>by obtain⟨x,_,e⟩:=zJ e;obtain⟨b,a,e⟩:=zJ e;cases e;exact Ļb (h _ _ a)
def J3{is:Á Int}{n:Nat}(h:is.length<=n):∀(τ:zu) ds,(À Ņq)=À ds->Đ<=n:=λ_ _ e=>by cases e;rw[ä];exact h
def yL(h:∀τ ds,fs τ=À ds->Đ<=m)(a:m<=n):∀τ ds,fs τ=À ds->Đ<=n:=λτ ds e=>Ğ (h τ ds e) a
variable{ps:Á Str}{j k:Nat}{FF:Á D->Æ â}{FL:Á D->Æ D}{id T:Ïa}
def p6(h:vL ó X.w X.K ð Œ x ps k Ìk)(c:yl j X.A)(B:Gl X x)(z:SA X ğ fs)(hk:Ê âc q10)(b:Ê Ļ q10)(l:Ê ňa q12):SF X ýb (ur FF fs):=by
 obtain⟨t,n,r⟩:=z.h;refine⟨⟨_,Hw h c B n hk b l,λE a q=>?_⟩⟩;obtain⟨C,y,a⟩:=zJ a;obtain⟨⟨o,d⟩,c,a⟩:=zJ a;cases o with
 |Â=>cases a|Ã=>
  cases a;refine r E y λG i H f F=>⟨i,C,Ã,_,f.gh,by rw[ſ];exact F,c,λp u m v s g o=>?_⟩
  exact q p u m (f.trans v) (f.h.free s) g o
def zi(h:vL ó X.w X.K ð Œ x ps k Ìk)(f:yl j X.A)(H:Gl X x)(G:SA X ğ fs)(hk:Ê âc q10)(b:Ê Ļ q10)(s:Ê ňa q12):SE X ýb (zR FF fs):=by
 obtain⟨t,z,B⟩:=G.h;refine⟨⟨_,Hw h f H z hk b s,λE a q=>?_⟩⟩;obtain⟨I,F,a⟩:=zJ a;obtain⟨⟨o,d⟩,f,a⟩:=zJ a;cases a;refine B E F λL n N g J=>⟨n,I,o,d,g.gh,by rw[ſ];exact J,f,?_⟩
 cases o with
 |Â=>exact λv m l c r=>q v m l (ġd c) r|Ã=>intro p m l c C i o;obtain⟨u,y,r⟩:=o.yJ i;exact q _ _ _ (ġd (c.yJ C i y)) r
def WO(K:Í)(r:Á V->Hp->VK->Prop)(F:Á D->Æ D):Prop:=∀G H ds vs d (Q:VK),zw G H->Þ K H ds vs->F ds=À d->(∀w G' H',zT G H G' H'->zZ K G' d w->Q w H')->r vs H Q
def bF(K:Í)(r:Á V->Hp->VK->Prop)(F:Á D->Æ D):Prop:=∀G H ds vs d (Q:VK),zw G H->Þ K G ds vs->F ds=À d->(∀w G' H',zT G H G' H'->zZ K G' d w->Q w H')->r vs H Q
def t_(B:vY X ûc rc)(y:WO X.K rc FL)(o:Gl X x)(g:ð x=Ä)(hv:ť x=À ûc)(n:Oo X ğ fs)(j:Ê ĺb q10)(a:Ê Ļ q10)(i:Ê ňa q12):SE X ýb Ńr:=by obtain⟨t,l,m⟩:=n.h;refine⟨⟨_,(Mb B o g hv ⟨l⟩ j a i).h,λE b q=>?_⟩⟩;obtain⟨z,v,b⟩:=zJ b;exact m E v λd f r c C=>y f r z d _ _ Ìd C b λw s k u A=>q w s k (ňb u) A
def Pg(B:vY X čc rc)(y:bF X.K rc FL)(o:Gl X x)(g:ð x=Ä)(hv:ť x=À čc)(n:SA X ğ fs)(j:Ê ĺb q10)(a:Ê Ļ q10)(i:Ê ňa q12):SE X ýb Ńr:=by obtain⟨t,l,m⟩:=n.h;refine⟨⟨_,(IL B o g hv ⟨l⟩ j a i).h,λE b q=>?_⟩⟩;obtain⟨z,v,b⟩:=zJ b;exact m E v λd f r c C=>y f r z d _ _ Ìd C b λw s k u A=>q w s k (ňb u) A
def Ms(k:Qz X (Ĥh op) ru)(l:∀(G H:Hp) x u d (Q:VK),zZ X.K G x u->F1 x=À d->∃w,(∀G,zZ X.K G d w)/\(Q w H->ru u H Q))(i:SE X a fa):SE X (.UnaryOp op a pos) (e1 F1 fa):=by
 obtain⟨t,f,g⟩:=i.h;refine⟨⟨_,y4v k f,λE c q=>?_⟩⟩;obtain⟨x,m,c⟩:=zJ c;refine g E m λv e j n o=>?_
 obtain⟨w,b,z⟩:=l e j x v _ _ o c;exact z (q w _ _ n (b _))
#print a
section
variable{X:Cx}{x:Str}{p pos İa:Pos}{e a b c tg Ū:Ñ}{f fa:FE}{ft:FT}{fs:FA}{st:Õ}{sts Íd:Á Õ}{g g':FS}
def wd:qM X [] wP:=⟨⟨_,iW,λ{_ _ G H τ σ b E} K a q=>by cases a;exact q σ G H K⟩⟩
theorem Ĵf{K:Í}{n:Nat}{e b:Hp}{E c:uT}{a:Fl}(h:t9 K n e b E a)(l:∀τ,a=.nx τ->t9 K n e b c (.nx τ))(j:∀τ,a=.bk τ->t9 K n e b c (.bk τ))(k:∀τ,a=.ct τ->t9 K n e b c (.ct τ))(f:c.rt=E.rt):t9 K n e b c a:=by
 cases a with
 |nx τ=>exact l τ rfl|bk τ=>exact j τ rfl|ct τ=>exact k τ rfl|rt o d=>
  cases o with
  |Â=>intro v G H x r;rw[f];exact h v G H x r|Ã=>intro v G H x m i g;rw[f];exact h v G H x m i g
def zc(b:SS X st g)(i:qM X sts g'):qM X Ďs (za g g'):=by
 obtain⟨t,p,k⟩:=b.h;obtain⟨m,f,e⟩:=i.h;refine⟨⟨_,iV p f,λ{u s G H τ σ r E} K a q=>?_⟩⟩;obtain⟨j,b,a⟩:=zJ a;refine k K b ?_;cases j with
 |nx τ'=>exact λσ' n l c=>e c a q|bk τ'=>cases a;exact q|ct τ'=>cases a;exact q|rt o d=>cases a;exact Ĵf q ăa ăa ăa rfl
def zb(a:SS X st g):qM X [st] g:=⟨let ⟨t,p,k⟩:=a.h;⟨t,iX p,k⟩⟩
def R4(i:Nat)(h:qM X sts g):qM X sts (za (T6 i) g):=by
 obtain⟨t,p,k⟩:=h.h;refine⟨⟨t,p,λ{o m G H τ σ j E} K b q=>?_⟩⟩;obtain⟨l,a,b⟩:=zJ b;unfold T6 at a
 split at a;rename_i n d e;cases a;obtain⟨f,c,_⟩:=K.freeze e;exact k c b q;cases a
def yX(j:ľa)(hi:X.N[i]?=À x)(l:j9 îa x)(c:SE X e f)(b:Ê èf q12)(a:Ê Êb q7) :SS X Ág (yO i f):=by obtain⟨t,p,k⟩:=c.h;refine⟨⟨_,(KM j hi l ⟨p⟩ b a).h,λ{u s G H τ σ o E} K a q=>?_⟩⟩;obtain⟨d,g,a⟩:=zJ a;cases a;exact k K g λv n m x r=>q _ _ _ ((àa x).set Śb.1 r)
def kB(m:ľa)(hi:X.N[i]?=À x)(n:j9 îa x)(j:SF X e f)(g:Ê èf q12)(a:Ê Êb q7) :SS X Ág (q_ i f):=by
 obtain⟨t,p,k⟩:=j.h;refine⟨⟨_,(KM m hi n ⟨p⟩ g a).h,λ{w v G H τ σ u E} K a q=>?_⟩⟩;obtain⟨d,l,a⟩:=zJ a;cases a;refine k K l λp s r x b c o=>q _ _ _ ((àa x).AD Śb.1 c (Ęq b) o ?_)
 exact K.A8 b
def yM(b:SE X e f):SS X òg (yF f):=by obtain⟨t,p,k⟩:=b.h;refine⟨⟨_,MX p,λ{m l G H τ σ j E} K a q=>?_⟩⟩;obtain⟨d,c,a⟩:=zJ a;cases a;exact k K c λv i g x r=>q v _ _ Įp r
def jV(c:SF X e f):SS X òg (qz f):=by obtain⟨t,p,k⟩:=c.h;refine⟨⟨_,MX p,λ{r n G H τ σ m E} K a q=>?_⟩⟩;obtain⟨d,i,a⟩:=zJ a;cases a;exact k K i λp l j x g b o=>q p _ _ Įp (Ęq g) b o
def ZQ(i:Nat)(h:Ê ŷe q12)(hv:Ê çf q13)(f:Ê Ļ q10)(b:Ê Ŭb q10):SS X (.Return (À ĳg) pos) (jT i):=by
 refine⟨⟨_,MX (V7 h hv f b),λ{l k G H τ σ j E} K a q=>?_⟩⟩;unfold jT at a
 split at a;rename_i d c;cases a;obtain⟨p,e,g,z,o⟩:=K.ow _ _ c;exact⟨_,e,q p _ _ K.ext z g o⟩;cases a
def xf(n:ST X c ft)(l:qM X sa g)(m:qM X sb g'):SS X (.If c sa sb pos) (xM ft g g'):=by
 obtain⟨s,j,d⟩:=n.h;obtain⟨x,o,p⟩:=l.h;obtain⟨w,i,f⟩:=m.h;refine⟨⟨_,iS j o i,λ{y v G H τ σ t E} K a q=>?_⟩⟩;obtain⟨k,e,a⟩:=zJ a;refine d K e λr u b=>?_
 cases k with
 |Ã=>exact jz (p (àa b) a q)|Â=>exact jy (f (àa b) a q)
def VG:qM X sts ōb:=⟨⟨_,y5q,λ_ a=>by cases a⟩⟩
def m_{ft:FT}(y:Ĉd ý X.A Ô ĩ)(I:ST X c ft)(C:qM X Íd g):SS X Ũn (Mm ft g):=by
 obtain⟨L,x,r⟩:=I.h;obtain⟨P,v,t⟩:=C.h;refine⟨⟨_,iU y x v,λ{p j G H τ σ i E} K a q=>?_⟩⟩;refine⟨λm σ H=>∃τ G,zp X.K ú p j G H τ σ/\pj ft g m τ=À i,⟨gU,τ,G,K,a⟩,?_⟩;rintro m σ H ⟨τ,G,K,a⟩;cases m with
 |ų=>cases a|Ŵ n=>
  obtain⟨k,s,a⟩:=zJ (show(ft τ).bind _=_ from a);refine r K s λJ O l=>?_
  cases k with
  |Â=>cases a;exact jy (q _ _ _ (àa l))|Ã=>
   obtain⟨B,u,a⟩:=zJ (show(g τ).bind _=_ from a);refine jz ⟨λσ' f=>∃τ G,zp X.K ú p j G f τ σ'/\pj ft g n τ=À i,λσ' f z=>⟨n,ïc n,z⟩,t (àa l) u ?_⟩;cases B with
   |nx τ2=>exact λσ2 e F b=>⟨τ2,e,b,a⟩|ct τ2=>exact λσ2 e F b=>⟨τ2,e,b,a⟩|bk τ2=>cases a;exact q|rt o d=>cases a;exact Ĵf q ăa ăa ăa rfl
theorem ïl{K:Í}{n:Nat}{e a c i:Hp}{E:uT}{b:Fl}(x:zT e a c i)(h:t9 K n e a E b):t9 K n c a E b:=by
 cases b with
 |nx τ=>exact λσ G H z=>h σ G H ĵj|bk τ=>exact λσ G H z=>h σ G H ĵj|ct τ=>exact λσ G H z=>h σ G H ĵj|rt o d=>
  cases o with
  |Â=>exact λv G H y r=>h v G H ķq r|Ã=>exact λp G H y j g f=>h p G H ķq j g f
structure SG(X:Cx)(tg:Ñ)(fg:FG):Prop where
 h:∃t,PG X tg t/\∀{G0 H0 G H:Hp}{τ τ':zu}{σ:St}{d:D}{v:V}{Q:St->Hp->Prop},zp X.K ú G0 H0 G H τ σ->zZ X.K G d v->fg d τ=À τ'->(∀σ',zp X.K ú G0 H0 G H τ' σ'->Q σ' H)->t v σ H Q
def VD(h:QG X Ća Ĩc)(hi:X.N[i]?=À x):SG X Ća (yD i):=⟨⟨_,h.h,λK r a q=>by cases a;exact q _ (K.set Śb.1 r)⟩⟩
def Mt(h:QG X Ğo Ŷf)(hi:X.N[i]?=À x)(m:X.N[j]?=À y):SG X Ğo (uZ i j):=⟨⟨_,h.h,λ{w p G H τ τ' σ d v Q} K r b q=>by
 unfold uZ at b
 split at b;rename_i s t;cases b;obtain⟨a,o,rfl,l,⟨c,u,rfl,e,⟨n,k,rfl,g,f⟩⟩,_⟩:=r;cases(show k=[]from f);refine⟨a,_,rfl,uD øa l,rfl,c,_,rfl,n,_,rfl,rfl,?_⟩;exact q _ ((K.set Śb.1 e).set ēl.1 g);cases b⟩⟩
def ZP{c:FG}(L:Ĉd ý X.A Ô ĩ)(S:Ž=Ã)(hi:SI X tg Ū fs)(O:SG X tg c)(hb:qM X Íd g)(v:Ê (∀x,Ŵb Ū Ô x=pure x) q11):SS X ĝi (qy fs c g):=by
 obtain⟨ti,Q,ki⟩:=Ëd;obtain⟨Z,T,kg⟩:=O.h;obtain⟨tb,F,U⟩:=hb.h;refine⟨⟨_,K8 L S Q T F v,λ{G0 s G H τ σ r E} K a q=>?_⟩⟩;obtain⟨b,Y,a⟩:=zJ a;refine ki K Y λJ p Ha R _ k=>?_
 have t:=àa R;have l:=ïl t.ext q;refine⟨λi m σ H=>m=Ãa-i/\i<=Ãa/\∃τ G,zp X.K ú p s G H τ σ/\Z9 c g āl τ=À r,⟨Ãa,rfl,Áa _,τ,p,t.zC,a⟩,?_⟩;rintro i m σ H ⟨rfl,hle,τ,G,K,a⟩;by_cases hlt:i<Ãa;refine .inr ⟨k.go i G H Ğc øa hlt,λσ' f=>∃τ G,zp X.K ú p s G f τ σ'/\Z9 c g ļk τ=À r,λσ' f z=>⟨Ãa-ê,óg _ _ hlt,rfl,hlt,z⟩,λx f y=>?_⟩;obtain⟨G3,d,B,u,rd⟩:=k.uh i G H x f Ğc øa hlt y;rw[Ůb hlt]at a;rw[Ģ hlt]at u;cases u;obtain⟨τ1,C,a⟩:=zJ (show(c _ τ).bind _=_ from a);obtain⟨P,I,a⟩:=zJ a;refine kg (àa B) rd C λσ1 W=>U W I ?_
 cases P with
 |nx τ2=>exact λσ2 n H2 j=>⟨τ2,n,j,a⟩|ct τ2=>exact λσ2 n H2 j=>⟨τ2,n,j,a⟩|bk τ2=>cases a;exact l|rt o d=>cases a;exact Ĵf l ăa ăa ăa rfl
 have e:ųg i=[]:=Ûd ťi;rw[e]at a;cases a;exact .inl ⟨k.stop i G H Ğc øa Å,l _ _ _ K⟩
def z5z{K:Í}{G:Hp}{lo:Int}{n:Nat}:jn K Ğs G ((Źc).map λk:Nat=>þ ác) where
 go:=λi b H _ _ a=>by show i<n;simpa using a
 uh:=λi b H x d _ c a y=>by obtain⟨rfl,rfl⟩:=y;exact⟨b,.int êb,ŉa c,by simp at a;simp[a],rfl⟩
 ţ:=λi b H _ _ a=>by show n<=i;simpa using a
def ZN(o:Gl X Ùc)(g:ð Ùc=Ä)(m:SE X a fa)(d:Ê ãe q12):SI X tg Āo (tJ ą fa):=by
 obtain⟨t,i,k⟩:=(zB m zK d).h;refine⟨⟨_,y57 o g i ől,λ{I F G H τ σ ds R} K b q=>?_⟩⟩;obtain⟨x,s,b⟩:=zJ b;cases s;obtain⟨y,n,b⟩:=zJ b;refine k K (ds:=[y]) (by unfold zA;rw[n];rfl) λz B C u w=>?_
 cases y<;>first|cases b|skip
 rename_i j;obtain⟨v,r,rfl,f,l⟩:=w;cases(show r=[]from l);cases(show v=.int j from f)
 change (if(0:Int).natAbs<=yZ/\ùh<=yZ/\(j-0).toNat<=yZ then _ else _)=_ at b
 by_cases c:(0:Int).natAbs<=yZ/\ùh<=yZ/\(j-0).toNat<=yZ;rw[Ï c]at b;cases b;have E:ùh<=16777216:=c.2.1;have A:(j-0).toNat<=16777216:=c.2.2;refine⟨j,rfl,by omega,by omega,q _ _ _ u ?_ ?_⟩;rw[ä,ŵb,Ř];omega;have e:(j-0).toNat=Ēd:=by omega
 rw[e];exact z5z;rw[Ð c]at b;cases b
def z7h{K:Í}{G:Hp}{a:É}{vs:Á V}{ds:Á D}(g:yf K G a vs)(r:Þ K G ds vs):jn K Úl G ds where
 go:=λi h H c b f=>by obtain⟨v,e,_⟩:=Ĩb (Ģ f);exact⟨vs,v,uO Ġc g,e⟩
 uh:=λi h H x l c b f y=>by obtain⟨rfl,y⟩:=y;have e:=y vs (uO Ġc g);obtain⟨d,k,j⟩:=r.at e;exact⟨h,d,ŉa b,k,Įd c⟩
 ţ:=λi h H c b f=>⟨vs,uO Ġc g,by rw[Ûa];exact f⟩
def x4g{K:Í}{G:Hp}{a:É}{vs:Á V}{ds:Á D}(g:xF K G a vs)(r:Þ K G ds vs):jn K Ùl G ds where
 go:=λi h H c b f=>by obtain⟨v,e,_⟩:=Ĩb (Ģ f);exact⟨vs,v,uD Ġc g,e⟩
 uh:=λi h H x l c b f y=>by obtain⟨rfl,y⟩:=y;have e:=y vs (uD Ġc g);obtain⟨d,k,j⟩:=r.at e;exact⟨h,d,ŉa b,k,Įd c⟩
 ţ:=λi h H c b f=>⟨vs,uD Ġc g,by rw[Ûa];exact f⟩
def x06{K:Í}{G:Hp}{z:Str}:jn K Űh G (Îp λc=>ľd ⟨#[c]⟩) where
 go:=λi b H _ _ a=>by rw[ä,Ŭ]at a;exact a
 uh:=λi b H x f _ d a y=>by obtain⟨rfl,c,e,rfl⟩:=y;refine⟨b,.str ⟨#[c]⟩,ŉa d,?_,rfl,Ŧb (n:=1) È⟩;rw[ş,þb,e];rfl
 ţ:=λi b H _ _ a=>by rw[ä,Ŭ]at a;exact a
def PI.or(c:PI X tg e w1)(b:PI X tg e w2):PI X tg e (λσ H R=>w1 σ H R\/w2 σ H R):=λa s σ H R I q=>by rcases q with q|q;exact c a s σ H R I q;exact b a s σ H R I q
def tN(h:SE X e f):SI X tg e (ua f):=by
 obtain⟨t,p,k⟩:=h.h;refine⟨⟨_,PI.or (y56 p) (PI.or (y59 p) (y58 p)),λ{u o G H τ σ s R} K j q=>?_⟩⟩;obtain⟨d,i,j⟩:=zJ j;cases d<;>first|cases j|skip
 rename_i z;refine .inr (.inr ĳi);obtain⟨rfl,l⟩:=r;exact⟨z,rfl,q _ _ _ x (by rw[ä,Ŭ];exact l) x06⟩;refine .inr (.inl ĳi);obtain⟨a,c,rfl,b,g,l⟩:=r;exact⟨a,rfl,⟨c,uD Åb b⟩,q _ _ _ x l (x4g b g)⟩;refine .inl ĳi;obtain⟨a,c,rfl,b,g,l⟩:=r;exact⟨a,rfl,⟨c,uO Åb b⟩,q _ _ _ x l (z7h b g)⟩
#print a
noncomputable def R8(K:Í)(n:Nat)(f:FE):TE:=λσ H Q=>∃G0 H0 G τ d,zp K n G0 H0 G H τ σ/\f τ=À d/\∀v G' H',zT G H G' H'->zZ K G' d v->Q v H'
noncomputable def BE(K:Í)(n:Nat)(f:FT):TT:=λσ H Q=>∃G0 H0 G τ d,zp K n G0 H0 G H τ σ/\f τ=À d/\∀G' H',zT G H G' H'->Q d H'
structure WR(X:Cx)(es:Á Ñ)(f:FT):Prop where
 h:WP X es (BE X.K ú f)
section
variable{X:Cx}{e c:Ñ}{f:FE}{ft:FT}
def SE.pe(h:SE X e f):PE X e (R8 X.K ú f):=λa s σ H Q I q=>by obtain⟨t,p,k⟩:=h.h;obtain⟨g,c,G,τ,d,K,b,z⟩:=q;exact p a s σ H Q I Ēs
def ST.pt(h:ST X e ft):PT X e (BE X.K ú ft):=λa s σ H Q I q=>by obtain⟨t,p,k⟩:=h.h;obtain⟨f,c,G,τ,d,K,b,z⟩:=q;exact p a s σ H Q I Ēs
def tP:WR X [] yt:=⟨λb s σ H Q I q=>by obtain⟨e,c,G,τ,d,K,a,z⟩:=q;cases a;exact y5s b s σ H Q I (z _ _ Üh)⟩
def YG(h:ST X c ft):WR X [c] ft:=⟨y5t h.pt⟩
#print a
def zp.more{K:Í}{n:Nat}{m o G H:Hp}{τ:zu}{σ:St}(k:Nat)(E:zp K n m o G H τ σ):zp K ĩe m o G H ñd ĝg:=by
 have a:∀{i:Nat}{s:Sl},ñd[i]?=À (À s)->τ[i]?=À (À s)/\ĝg[i]?=σ[i]?:=λ{i s} h=>by have b:=Lg h;have u:i<n:=E.lt b;exact⟨b,ıb (by rw[Ş];exact u)⟩
 refine⟨Èd,by rw[í,ļc,Ş],by rw[í,ļc,ŏ],λi d h=>?_,λi d h=>?_,λi j d e p f r t l q=>?_⟩;obtain⟨b,e⟩:=a h;rw[e];exact Įb i d b;obtain⟨b,e⟩:=a h;rw[e];exact ŧa i d b;obtain⟨c,e1⟩:=a r;obtain⟨g,e2⟩:=a t;rw[e1]at l;rw[e2]at q;exact úb i j d e p f c g l q
def MB{K:Śj}{n k:Nat}{E C b h:Hp}{τ:zu}{σ:St}{J:It}{ds out:Á D}{g:TG}{p:FG}{r:FT}{f:FE}{l:Á V->Hp->Prop}(A:jn K J b ds)(hl:Đ<=á)(I:zp K n E C b h τ σ)(a:yo p r f ñd ds=À out)(kg:∀G H d v τ' (Q:St->Hp->Prop),zp K ĩe E C G H ñd ĝg->zZ K G d v->p d ñd=À τ'->(∀ρ,zp K ĩe E C G H τ' Ćh->Q Ćh H)->g v ĝg H Q)(w:∀ys G H,zT b h G H->Þ K G out ys->out.length<=á->l ys H) :∃W:Nat->Nat->Á V->Hp->Prop,(∃m,W 0 m [] h)/\M9 σ k J g (BE K ĩe r) (R8 K ĩe f) W l:=by
 refine⟨λi m ys H=>m=Đ-i/\i<=Đ/\ãa<=i/\∃G done Ō,zT b h G H/\Þ K G done ys/\yo p r f ñd (īh i)=À Ō/\done++Ō=out,⟨Đ,rfl,Áa _,Øa _,b,[],out,ŉa I.ext.gh,rfl,a,rfl⟩,?_⟩;rintro i m ys H ⟨rfl,hle,t,G,done,Ō,x,s,a,q⟩;by_cases hlt:i<Đ
 .refine .inr ⟨A.go i G H x.g Åb hlt,by omega,λys H=>ãa<=i+1/\∃G done Ō,zT b h G H/\Þ K G done ys/\yo p r f ñd (īh ê)=À Ō/\done++Ō=out,λZ B z=>⟨Đ-ê,óg _ _ hlt,rfl,hlt,z.1,z.2⟩,λv B y=>?_⟩;obtain⟨G3,d,c,O,rv⟩:=A.uh i G H v B x.g Åb hlt y;rw[Ůb hlt]at a;rw[Ģ hlt]at O;cases O;obtain⟨τ1,S,a⟩:=zJ (show(p _ _).bind _=_ from a);obtain⟨L,T,a⟩:=zJ a;have Y:=((I.go x).go c).more k;refine kg G3 B _ v τ1 _ Y rv S λρ N=>⟨⟨ρ,rfl⟩,_,_,_,_,L,N,T,λX H5 o=>?_⟩
  cases L with
  |Â=>exact jy ⟨by omega,X,done,Ō,će (ňb o),s.mono (Âs o.g),a,q⟩|Ã=>obtain⟨z,hz,a⟩:=zJ (show(f _).bind _=_ from a);obtain⟨j,R,a⟩:=zJ a;cases a;refine jz ⟨_,_,_,_,z,N.go o,hz,λu U H6 F P=>⟨by rw[í];exact Ļb t,U,done++[z],j,će (ňb (o.trans F)),(s.mono (Âs (ųr F.g))).append (Ăh P),R,?_⟩⟩;rw[ŗ];exact q
 have e:īh i=[]:=Ûd ťi;rw[e]at a;cases a;rw[ſ]at q;subst q;refine .inl ⟨A.stop i G H x.g Åb Å,w ys G H x s ?_⟩;rw[<-ūc];omega
section
variable{X:Cx}{tg Ū elt:Ñ}{ifs:Á Ñ}{ŉ:ča}{cl:Á ďb}{own:Á Str}{pos:Pos}{fs:FA}{fg:FG}{ft:FT}{f:FE}{g:TG}
def Ph(xs:Á α)(y:α)(a:Á α)(h:n=à)(z:α):(xs++y::a).set n z=xs++z::a:=by subst h;rw[èg _ _ Ē,ÿc];rfl
structure BG(X:Cx)(ŉ:ča)(cl:Á ďb)(own:Á Str)(tg:Ñ)(g:TG)(fg:FG):Prop where
 q:∀C s H fp pn,QG êa tg g
 k:∀{G0 H0:Hp}{τ:zu}{σ:St},τ.length=ú->σ.length=ú->∀G H d v τ' (Q:St->Hp->Prop),zp X.K Ýh G0 H0 G H Ŵo Ÿd->zZ X.K G d v->fg d Ŵo=À τ'->
  (∀ρ,zp X.K Ýh G0 H0 G H τ' Ćh->Q Ćh H)->g v Ÿd H Q
def vv(q:∀C s H fp pn,QG (vH X ŉ cl [x] C s H fp pn) tg Ĩc)(hi:i=ú):BG X ŉ cl [x] tg Ĩc (yD i):=⟨q,λ{h f τ σ} g b G H d v τ' Q E r c k=>by cases c;have e:=E.set (i:=i) (v:=v) (by rw[hi];exact ïc _) r;have a:(Ĕp).set i æa=σ++[À v]:=Ph σ Ä [] (hi.trans b.symm) æa;show Q ((Ĕp).set i æa) H;rw[a];refine k [À v] ?_;rw[<-a];exact e⟩
def Ca(q:∀C s H fp pn,QG (vH X ŉ cl Éd C s H fp pn) tg Ŷf)(hi:i=ú)(g:j=ú+1):BG X ŉ cl Éd tg Ŷf (uZ i j):=⟨q,λ{w z τ σ} A f G H d v τ' Q E r e k=>by
 unfold uZ at e
 split at e;rename_i B F;cases e;obtain⟨a,u,rfl,t,⟨b,I,rfl,l,⟨c,p,rfl,o,m⟩⟩,_⟩:=r;cases(show p=[]from m);have n:=(E.set (i:=i) (v:=b) (by rw[hi];exact Nat.lt_add_of_pos_right (ēq _)) l).set (i:=j) (v:=c) (by rw[g];exact ïc _) o
 have h:(Én).set j ėl=σ++[À b,À c]:=by
  have e1:(σ++ŵ 2 Ä).set i (À b)=σ++[À b,Ä]:=Ph σ Ä [Ä] (hi.trans f.symm) (À b);rw[e1];have e2:σ++[À b,Ä]=åq++[Ä]:=by simp
  rw[e2,Ph åq Ä [] (by rw[í,g,f];rfl) ėl];simp
 refine⟨a,_,rfl,uD Õb t,rfl,b,_,rfl,c,_,rfl,rfl,?_⟩;show Q ((Én).set j ėl) H;rw[h];refine k [À b,À c] ?_;rw[<-h];exact n;cases e⟩
def bu(X:Cx)(own:Á Str):(wT X.N own).length=ú+űb:=by unfold wT;rw[í,ä]
theorem L9(h:SE êa elt f):PE êa elt (R8 X.K Ýh f):=by have q:=h.pe;rw[show(êa).N.length=ú+űb from bu X own]at q;exact q
def LA(h:WR êa ifs ft):WP êa ifs (BE X.K Ýh ft):=by have q:=h.h;rw[show(êa).N.length=ú+űb from bu X own]at q;exact q
def uC(a:Ž=Ã)(B:Yc X ŉ cl own)(hi:SI X tg Ū fs)(j:BG X ŉ cl own tg g fg)(r:∀C s H fp pn,WR êa ifs ft)(u:∀C s H fp pn,SE êa elt f)(m:Ê (∀x,Ŵb Ū Ô x=pure x) q11) :SF X įb ûg:=by
 obtain⟨L,o,A⟩:=Ëd;refine⟨⟨_,iE a B o (ψb (j.q C s H fp pn)) (χb (r C s H fp pn)) (Αb (u C s H fp pn)) m,λ{S O G H τ σ d Q} K b q=>?_⟩⟩;obtain⟨P,y,b⟩:=zJ b;obtain⟨w,n,b⟩:=zJ b;cases b;refine A K y λJ R I i l t=>MB t l (àa i) n (j.k K.l2 K.l1) λv F N c E z p e=>?_
 exact q p _ _ (òl ķo) (i.h.free (üh e)) (Ðh e) ⟨v,ya,E,z⟩
def y9z(b:Ž=Ã)(F:ľa)(c:X.N[i]?=À x)(S:Łe x=À .local)(B:Yc X ŉ cl own)(m:Œc įb ĺo ūr Ô=pure Ã)(hi:SI X tg Ū fs)(t:BG X ŉ cl own tg g fg)(I:∀C s H fp pn,WR êa ifs ft)(O:∀C s H fp pn,SE êa elt f)(w:Ê (∀x,Ŵb Ū Ô x=pure x) q11) :SS X Èn (q_ i ûg):=by
 obtain⟨ti,A,T⟩:=Ëd;refine⟨⟨_,iT b F c S B m A (λC s H fp pn=>(t.q C s H fp pn).h) (χb (I C s H fp pn)) (Αb (O C s H fp pn)) w,λ{G0 H0 G H τ σ Z E} K j q=>?_⟩⟩;obtain⟨d,a,j⟩:=zJ j;cases j;obtain⟨ds,Q,a⟩:=zJ a;obtain⟨P,z,a⟩:=zJ a;cases a;refine T K Q λJ Ga Y u l L=>MB L l (àa u) z (t.k K.l2 K.l1) λv W H1 r U R p e=>?_
 have n:=(àa u).go r;have y:=n.go (ìb (o:=.lst v) r.gh e);exact q _ _ _ (y.AD Ĕl.1 (r.gh.free e) (n.ext.h.free e) ⟨v,ya,U,R⟩ (n.A8 e))
def R3(b:Ž=Ã)(A:ľa)(c:X.N[i]?=À x)(R:Łe x=À .local)(B:Yc X ŉ cl own)(j:Œc įb ĺo ūr Ô=pure Ã)(hi:SI X tg Ū fs)(r:BG X ŉ cl own tg g fg)(F:∀C s H fp pn,WR êa ifs ft)(L:∀C s H fp pn,SE êa elt f)(v:Ê (∀x,Ŵb Ū Ô x=pure x) q11) :SS X Èn (yO i ûg):=by
 obtain⟨Z,z,S⟩:=Ëd;refine⟨⟨_,iT b A c R B j z (ψb (r.q C s H fp pn)) (χb (F C s H fp pn)) (Αb (L C s H fp pn)) v,λ{G0 H0 G H τ σ Y E} K e q=>?_⟩⟩;obtain⟨d,a,e⟩:=zJ e;cases e;obtain⟨ds,P,a⟩:=zJ a;obtain⟨O,y,a⟩:=zJ a;cases a;refine S K P λJ Ga W t l I=>MB I l (àa t) y (r.k K.l2 K.l1) λu U H1 m T Q p n=>?_
 have w:=((àa t).go m).go (Ûc (o:=.lst u) m.gh n);exact q _ _ _ (w.set Ĕl.1 ⟨p,u,rfl,åc ya,T.mono (vj (m.gh.free n) _),Q⟩)
#print a
section
variable{K:Í}{n:Nat}{G0 H0 G H:Hp}{τ:zu}{σ:St}
def zp.QK(E:zp K n G0 H0 G H τ σ)(hi:τ[i]?=À ŏc)(x:σ[i]?=À Ůj)(v:vN K G Ąd d' p):zp K n G0 H0 G Ąd ğn σ:=by
 obtain⟨S,e,g,z,_⟩:=ŧa i d hi;rw[x]at e;cases e
 have l:∀{m:Hp},m p=Ä->zw m H->zw m Ąd:=λ{m} h s b u q=>by rw[yB (qu q h)];exact s _ _ q
 refine⟨⟨E.ext.g,l z ıh,l g Õb,ĵk⟩,Ş,by rw[Ŋa];exact ŏ,λj e h=>?_,λj e h=>?_,λj k e f q a I J P N=>?_⟩;rcases u3 h with⟨rfl,w⟩|⟨C,w⟩;cases w;exact Įb j e w;rcases u3 h with⟨rfl,w⟩|⟨C,w⟩;cases w;exact⟨p,x,g,z,v⟩;obtain⟨q,F,R,L,B⟩:=ŧa j e w;refine⟨q,F,R,L,?_⟩
 have a:q≠p:=λc=>by subst c;exact úb i j d e q (λc=>C Ĭh) hi w x F
 cases e with
 |lst ds=>obtain⟨y,A,r⟩:=B;exact⟨y,by rw[yB a];exact A,r⟩
 |dic ks ds=>obtain⟨y,A,r⟩:=B;exact⟨y,by rw[yB a];exact A,r⟩
 |_=>exact B.elim
 have t:∀{j:Nat}{e:D},ğn[j]?=À Äf->∃e,τ[j]?=À Äf:=λ{j e} h=>by rcases u3 h with⟨rfl,_⟩|⟨_,w⟩;exact⟨_,hi⟩;exact⟨_,w⟩
 obtain⟨e1,Q⟩:=t I;obtain⟨e2,O⟩:=t J;exact úb j k e1 e2 q a Q O P N
#print a
section
variable{X:Cx}{x:Str}{xp pos ěa ßa:Pos}{e:Ñ}{f:FE}
def TQ(L:QE X Ķa Ģe)(O:SE X e f)(n:Ê (Ķb Ķa "append" Ô Ĵj=č Ķa Ô) q12)(m:Ê ìc q12)(w:Ê ļa q12) :SS X (Θe (.Attribute Ķa "append" ěa)) (YC i k_ f):=by
 obtain⟨t,p,k⟩:=(zB O zK w).h;refine⟨⟨_,(l5 (KJ Łn PySem.F.slot_list_append PySem.F.type_list_append z8d L ⟨p⟩ n m (by rw[Àa,w];rfl) Ŏi) rfl).h,λ{Z Y G H τ σ U E} K j q=>?_⟩⟩;unfold YC at j
 split at j;rename_i d C;obtain⟨y,J,j⟩:=zJ j;obtain⟨Q,b,j⟩:=zJ j;cases j;obtain⟨a,I,g,z,o⟩:=K.ow _ _ C;cases d with
 |lst ds=>
  obtain⟨s,B,A,l⟩:=o;refine⟨_,I,.inl ⟨rfl,s,åc B⟩,k K (ds:=[y]) (by unfold zA;rw[J];rfl) λT S W v R=>?_⟩;obtain⟨u,r,rfl,N,P⟩:=R;cases(show r=[]from P)
  change (if Đ<yZ then À (ţf (ds++[y]))else Ä)=À Q at b
  by_cases c:Đ<yZ;rw[Ï c]at b;cases b;refine⟨a,s,u,rfl,rfl,v.h _ _ B,by rw[Ál,Ř];exact c,?_⟩;refine q _ _ _ ((àa v).QK C I ⟨s++[u],ya,(A.mono v.g).append (Ăh N),?_⟩);rw[í,Ř];exact c;rw[Ð c]at b;cases b
 |_=>cases b
 cases j
#print a
section
variable{P:å}{w:ß}{K:Í}{mg:Str->Æ Value}{Ç:Heap}
def MK{α β:Type}{ds:Á α}{k i:Nat}{h:α->Æ β}{y:β}(e:(Īh h++ŵ k Ä)[i]?=À (À y)):∃d,ds[i]?=À d/\h d=À y:=by
 have a:=Lg e;rw[ş]at a;cases q:ds[i]? with
 |Ä=>rw[q]at a;cases a|À d=>rw[q]at a;exact⟨d,rfl,ĸa a⟩
def ci{N:Á Str}{G H:Hp}{ds:Á D}{vs:Á V}(s:zw G H)(r:Þ K G ds vs)(g:Đ<=Éa):zp K Éa G H G H (Αe (Éa-Đ)) ük:=by have l:=Ûa;refine⟨ŉa s,?_,?_,λi d h=>?_,λi d h=>?_,λi j d e p _ f=>?_⟩;unfold Üf;rw[í,ä,ļc];omega;rw[í,ä,ļc];omega;obtain⟨a,e,z⟩:=MK h;cases z;obtain⟨v,b,c⟩:=Ĩb e;refine⟨v,?_,c⟩;unfold Üf;rw[ıb (by rw[ä];exact(Ŗ b).1),ş,b];rfl;obtain⟨a,e,z⟩:=MK h;cases z;obtain⟨a,e,z⟩:=MK f;cases z
def Def.sA{x:Str}{st:Õ}{N ps:Á Str}{k:Nat}{F:Á D->Æ â}{b:FS}(d:Def K mg x st ps)(S:zj N ps Ń)(J:ù<=Éa)(i:∀ds r,F ds=À r->Đ=ù/\yH Éa b ds=À r)(I:∀(f:É)(c:Value)(A:ø)(ā:Á Env)(s:Ë)(H:Hp)(E:XK),yl k ġi->qM (tZ xC P w K mg Ç N x Ń f c A ā s H E).qI ça b):vL P w K mg Ç x ps Ņ ģf:=by
 refine d.ok S (λj H Q E h=>?_) λf c A ā s H j Q E C h=>?_;obtain⟨G,ds,o,n,_,r,e,_⟩:=h;rw[Ûa,(i _ _ e).1];obtain⟨G,ds,o,n,v,r,e,q⟩:=h;obtain⟨l,a⟩:=i _ _ e;obtain⟨t,p,u⟩:=(I f c A ā s H E C).h;obtain⟨y,g,a⟩:=zJ a;refine⟨t,p,u (ci (N:=N) v r Å) g ?_⟩;cases y with
 |nx τ=>cases a;exact λσ B m z=>q .zE B m z.ext rfl|rt o' d'=>
  cases a;cases o with
  |Â=>exact q|Ã=>exact q
 |_=>cases a
#print a
section
variable{X:Cx}{K:Í}
def Wz(h:∀i j,Cb i j=Ã->C i j):uk K Ţn (fI Cb g):=λG H x y u v d Q s e b a q=>by
 cases x<;>first|(cases a;done)|skip
 cases y<;>first|(cases a;done)|skip
 rename_i i j
 change (match Cb i j with|Ã=>À (þ Ûb)|Â=>Ä)=À d at a
 cases c:Cb i j with
 |Â=>rw[c]at a;cases a|Ã=>rw[c]at a;cases a;exact⟨i,j,e,b,h i j c,q _ _ _ èa rfl⟩
def Ux:uk K æs (pP g):=λG H x y u v d Q s c b a q=>by
 cases x<;>first|(cases a;done)|skip
 cases y<;>first|(cases a;done)|skip
 cases a;exact⟨_,_,c,b,q _ _ _ èa rfl⟩
def XO:uk K Ør gm:=λG H x y u v d Q s c b a q=>by
 cases x<;>first|(cases a;done)|skip
 cases y<;>first|(cases a;done)|skip
 cases a;exact⟨_,_,c,b,q _ _ _ èa rfl⟩
def f9(h:qt i=Ã) : -ėh<i/\i<2 ^ 64:=by unfold qt at h;rw[ĉ]at h;exact⟨ŀ h.1,ŀ h.2⟩
def pS:uk K Ģi qS:=Wz λ_ _ h=>.inl (f9 h)
def Hl:uk K Ģi JJ:=Wz λ_ _ h=>.inr (f9 h)
def xQ:uk K įn xI:=Wz λ_ _ h=>ŀ h
def Uy:uk K ŧm gj:=Wz λ_ _ h=>by rw[ĉ]at h;exact⟨ŀ h.1,ŀ h.2⟩
def y5l(h:pT i j=Ã):DK i j:=by unfold pT at h;rw[ĉ,ĉ]at h;exact⟨ŀ h.1,ŀ h.2.1,ŀ h.2.2⟩
def Y6:uk K Ân ut:=Wz λ_ _ h=>y5l h
def hU:uk K żm JL:=Wz λ_ _ h=>ŀ h
def tK:ji K đo (uY g):=λH x y u v d Q c b a=>by
 cases x<;>first|(cases a;done)|skip
 cases y<;>first|(cases a;done)|skip
 cases a;exact⟨_,rfl,λq=>⟨_,_,c,b,q⟩⟩
def eG(r:zZ K H x u):Um x=decide (u=.zE):=by
 cases x with
 |zE=>cases r;rfl|bl b=>cases r;rfl|int b=>cases r;rfl|str b=>obtain⟨rfl,_⟩:=r;rfl
 |tup b=>obtain⟨a,d,rfl,_⟩:=r;rfl
 |lst b=>obtain⟨a,d,rfl,_⟩:=r;rfl
 |dic b c=>obtain⟨a,d,rfl,_⟩:=r;rfl
 |exc b=>obtain⟨a,C,rfl,_⟩:=r;rfl
 |obj b c e=>obtain⟨a,C,f,d,rfl,_⟩:=r;rfl
def V2:ji K ąo Zs:=λH x y u v d Q c b a=>by
 cases y<;>first|(cases a;done)|skip
 have e:=eG c;refine⟨Um x,(ĸa a).symm,λq=>⟨b,?_⟩⟩;rw[<-e];exact q
def MQ:ji K Ûn Uc:=λH x y u v d Q c b a=>by
 cases y<;>first|(cases a;done)|skip
 have e:=eG c;refine⟨!Um x,(ĸa a).symm,λq=>⟨b,?_⟩⟩;rw[<-e];exact q
def RG:∀(G H:Hp) x u d (Q:VK),zZ K G x u->JK x=À d->∃w,(∀G,zZ K G d w)/\(Νd (-i)):=λG H x u d Q r a=>by
 cases x<;>first|(cases a;done)|skip
 cases a;exact⟨_,λ_=>rfl,λq=>⟨_,r,q⟩⟩
def x64:∀(G H:Hp) x u d (Q:VK),zZ K G x u->EB x=À d->∃w,(∀G,zZ K G d w)/\(Νd Čl):=λG H x u d Q r a=>by
 cases x<;>first|(cases a;done)|skip
 cases a;exact⟨_,λ_=>rfl,λq=>⟨_,r,q⟩⟩
def lA(K:Í):R2:=λx y H Q=>∃l b xs zs,x=.ref l/\y=.ref b/\yf K H l xs/\yf K H b zs/\à+ģk<=á/\∀p,H p=Ä->Q Êa (γ ĩn)
def y3n:yk X áe (lA X.K):=by
 intro R s σ H x y v u Q I G C h;obtain⟨l,b,P,O,rfl,rfl,w,J,o,q⟩:=h;cases G;cases C;obtain⟨c,p,z,_⟩:=ž w;obtain⟨a,n,A,_⟩:=ž J;obtain⟨⟨U,L,W,k⟩,N,i,j,E,g⟩:=z;obtain⟨⟨T,t,S,m⟩,r,d,f,B,e⟩:=A;simp only at j g f e;subst j g f e
 refine Ŗj ⟨_,i,rfl⟩ ⟨_,d,rfl⟩ þp seq_list_add PySem.F.slot_list_add PySem.F.entry_list_add (PySem.F.args_list_add_2 _ _)
  (list_addW l b Ïh Őb N r L t k m (by rw[ģ,ģ,<-ŵk,<-ŷk];exact o)) ⟨i,d,?_⟩
 rw[show Ïh++Őb=(c++a).toArray by simp];exact⟨.ref _,_,I.A7 (t':=đ) (p.append n) (by rw[í];exact o),rfl,q _ ĸf⟩
def l7(K:Í):R2:=λx y H Q=>pW (λi j=>.int (i+j)) x y H Q\/(∃i k,x=.int i/\y=.bl k/\Q Đp H)\/(∃i j,x=.str i/\y=.str j/\Úb+Ėa<=á/\Q Ąq H)\/lA K x y H Q\/lB K x y H Q
def xR:yk X áe (l7 X.K):=y3k.or (y3l.or (y3m.or (y3n.or y3o)))
def xP:uk K (l7 K) yd:=λG H x y u v d Q s A w f q=>by
 cases x<;>first|(cases f;done)|skip
 all_goals (cases y<;>first|(cases f;done)|skip)
 rename_i i b;cases A;cases w;cases f;refine .inr (.inl ⟨i,b,rfl,rfl,?_⟩);have e:i+b2i b=i+õg:=by cases b<;>rfl
 rw[e];exact q _ _ _ èa rfl;cases f;exact .inl ⟨_,_,A,w,q _ _ _ èa rfl⟩;rename_i i j;obtain⟨rfl,I⟩:=A;obtain⟨rfl,F⟩:=w
 change (if Úb+Ėa<=yZ then _ else _)=_ at f
 by_cases c:Úb+Ėa<=yZ;rw[Ï c]at f;cases f;have n:Úb+Ėa<=á:=by rw[Ř];exact c
 exact .inr (.inr (.inl ⟨i,j,rfl,rfl,n,q _ _ _ èa ⟨rfl,by rw[Ũd];exact n⟩⟩));rw[Ð c]at f;cases f;rename_i g h;obtain⟨a,k,rfl,B,m,_⟩:=A;obtain⟨b,r,rfl,C,o,_⟩:=w
 change (if Žr=Â/\Ēc+ėd<=yZ then _ else _)=_ at f
 by_cases c0:Žr=Â/\Ēc+ėd<=yZ;rw[Ï c0]at f;have c:=c0.2;cases f;have n:(g++h).length<=á:=by rw[Ř,í];exact c
 have E:k≠[]:=λe=>by
  have l:=Ėd;rw[e]at l;cases g with
  |nil=>cases c0.1|Ĉ=>cases l
 refine .inr (.inr (.inr (.inr ⟨a,b,k,r,rfl,rfl,uD s B,uD s C,E,by rw[Ėd,Ęb,Ř];exact c,λe=>?_,λe p t=>?_⟩)));subst e
 have e2:h=[]:=by
  cases h with
  |nil=>rfl|Ĉ=>obtain⟨_,_,z,_⟩:=o;cases z
 subst e2;exact q _ _ _ èa ⟨a,k,rfl,B,by rw[ſ];exact m,n⟩;exact q _ _ _ ás ⟨p,k++r,rfl,īc ya,(Ńq).mono Žo,n⟩;rw[Ð c0]at f;cases f;rename_i g h;obtain⟨a,k,rfl,B,m,_⟩:=A;obtain⟨b,r,rfl,C,o,_⟩:=w
 change (if Ēc+ėd<=yZ then _ else _)=_ at f
 by_cases c:Ēc+ėd<=yZ;rw[Ï c]at f;cases f;have n:(g++h).length<=á:=by rw[Ř,í];exact c
 refine .inr (.inr (.inr (.inl ⟨a,b,k,r,rfl,rfl,uO s B,uO s C,by rw[Ėd,Ęb,Ř];exact c,λp t=>?_⟩)));exact q _ _ _ ás ⟨p,k++r,rfl,åc ya,(Ńq).mono Žo,n⟩;rw[Ð c]at f;cases f
def sr(h:jp xs i=À x):∃j:Nat,xs[j]?=À x/\∀{β:Type}(ys:Á β),ãa=à->jp ys i=ys[j]?:=by
 unfold jp at h;cases e:ixN à i with
 |Ä=>rw[e]at h;cases h|À j=>rw[e]at h;exact⟨j,h,λys l=>by unfold jp;rw[l,e];rfl⟩
def bc(xs:Á α)(i:Int):jp xs i=uF xs i:=by
 unfold jp uF ixN;by_cases h:0<=i;rw[Ï h,Ï h];by_cases h2:i<à;rw[Ï h2];rfl;rw[Ð h2];exact(Űb Å).symm;rw[Ð h,Ð h]
 split<;>rfl
def lT(r:Þ K H ds vs)(h:uF ds i=À d):∃v,jp vs i=À v/\zZ K H d v:=by rw[<-bc]at h;obtain⟨j,e,k⟩:=sr h;obtain⟨v,a,b⟩:=Ĩb e;exact⟨v,by rw[k vs Ûa];exact a,b⟩
def z2l:D->D->Æ D
 |.lst xs,.int i=>uF xs i|.tup xs,.int i=>uF xs i|.str z,.int i=>(ķr).bind λc=>À Ëj|_,_=>Ä
def Hk:uk K (KP K) z2l:=λG H x y u v d Q s k h e q=>by
 cases x<;>first|(cases e;done)|skip
 all_goals (cases y<;>first|(cases e;done)|skip)
 rename_i z i;obtain⟨rfl,l⟩:=k;cases h;obtain⟨c,o,e⟩:=zJ e;cases e;rw[<-bc]at o;exact .inr (.inr ⟨z,i,c,rfl,rfl,l,o,q _ _ _ èa ⟨rfl,Ŧb (n:=1) È⟩⟩);rename_i p i;obtain⟨a,f,rfl,g,j,_⟩:=k;cases h;obtain⟨w,m,b⟩:=lT j e;exact .inr (.inl ⟨a,f,i,w,rfl,rfl,uD s g,m,q _ _ _ èa b⟩);rename_i p i;obtain⟨a,f,rfl,g,j,_⟩:=k;cases h;obtain⟨w,m,b⟩:=lT j e;exact .inl ⟨a,f,i,w,rfl,rfl,uO s g,m,q _ _ _ èa b⟩
def gi:vY X Żd (Χc ĉi Ĕk):=z0w.or z0x
def k7:WO K (Χc (yf K H p ys\/xF K H p ys) Ĕk) qR:=λG H i j d Q s r b q=>by
 match i,b with
 | [.lst xs],b=>cases b;obtain⟨v,e,rfl,⟨a,f,rfl,g,h,_⟩,c⟩:=r;cases(show e=[]from c);exact .inl ⟨a,f,rfl,.inl g,by rw[ėd];exact q _ _ _ èa rfl⟩
 | [.tup xs],b=>cases b;obtain⟨v,e,rfl,⟨a,f,rfl,g,h,_⟩,c⟩:=r;cases(show e=[]from c);exact .inl ⟨a,f,rfl,.inr g,by rw[ėd];exact q _ _ _ èa rfl⟩
 | [.str z],b=>cases b;obtain⟨v,e,rfl,⟨rfl,l⟩,c⟩:=r;cases(show e=[]from c);exact .inr ⟨z,rfl,l,q _ _ _ èa rfl⟩
#print a
theorem cO:∀xs ys:Á D,(((Ēa (min à ãa)).all λj=>xh ój (ys.getD j .zE))&&à==ãa)=Įc xs ys
 | [],[]=>rfl| [],_::_=>rfl|_::_,[]=>rfl|x::xs,y::ys=>by
  have a:=cO xs ys;show _=Ýo;rw[<-a,ĕ,ĕ,Nat.succ_min_succ,List.range_succ_eq_map,Àa,List.all_map,Bool.and_assoc]
  congr 1
  congr 1
  rw[ŉc];simp
theorem cH:∀{xs ys:Á D},jD f xs ys=Ã->∀(j:Nat) x y,xs[j]?=À x->ys[j]?=À y->f x y=Ã
 | [],_,_,j,x,y,e,_=>by cases e|x::xs,[],_,j,_,y,_,e=>by cases e|x::xs,y::ys,h,0,_,_,e1,e2=>by cases e1;cases e2;have c:Ĕo=Ã:=h;rw[ĉ]at c;exact c.1|x::xs,y::ys,h,j+1,a,b,e1,e2=>by have c:Ĕo=Ã:=h;rw[ĉ]at c;exact cH c.2 j a b ėo Ėo
section
variable{X:Cx}{z8:Á é}{σ:St}{H:Hp}{s:Ë}{K:Í}
theorem E8(d:∀d1 d2 v,uo n d1 d2=Ã->zZ K H d1 v->zZ K H d2 v->xh d1 d2=Ã):∀{xs ys:Á D}{vs:Á V},jD ķd xs ys=Ã->Þ K H xs vs->Þ K H ys vs->Įc xs ys=Ã
 | [],[],_,_,_,_=>rfl| [],_::_,_,_,r1,r2=>by cases(show _=[]from r1);obtain⟨_,_,e,_⟩:=r2;cases e
 |_::_,[],_,_,r1,r2=>by cases(show _=[]from r2);obtain⟨_,_,e,_⟩:=r1;cases e
 |x::xs,y::ys,_,h,r1,r2=>by obtain⟨v,r,rfl,a,b⟩:=r1;obtain⟨i,j,e,g,f⟩:=r2;cases e;have c:(uo n x y&&jD ķd xs ys)=Ã:=h;rw[ĉ]at c;show Ýo=Ã;rw[d x y v c.1 a g,E8 d c.2 b f];rfl
def Ck(h:uo ļ x y=Ã):(∃xs ys,x=.tup xs/\y=.tup ys/\jD ķd xs ys=Ã)\/(∃xs ys,x=.lst xs/\y=.lst ys/\jD ķd xs ys=Ã)\/(xJ x=Ã/\xJ y=Ã):=by
 unfold uo at h
 split at h;exact .inl ⟨_,_,rfl,rfl,h⟩;exact .inr (.inl ⟨_,_,rfl,rfl,h⟩);rw[ĉ]at h;exact .inr (.inr h)
def VA(h:xJ d=Ã)(r:zZ K H d v):jF v=Ã:=by
 cases d<;>first|exact Ú h ō|skip
 cases(show v=_ from r);rfl;cases(show v=_ from r);rfl;cases(show v=_ from r);rfl;cases(show v=_/\_ from r).1;rfl
def IN(d:xJ d1=Ã)(c:xJ d2=Ã)(b:zZ K H d1 x)(a:zZ K H d2 y):qm x y=xh d1 d2:=by
 cases d1<;>first|exact Ú d ō|skip
 all_goals (cases d2<;>first|exact Ú c ō|skip)
 all_goals first
  |(cases(show x=_ from b);cases(show y=_ from a);rfl)
  |(cases(show x=_ from b);cases(show y=_/\_ from a).1;rfl)
  |(cases(show x=_/\_ from b).1;cases(show y=_ from a);rfl)
  |(cases(show x=_/\_ from b).1;cases(show y=_/\_ from a).1;rfl)
theorem LS(I:zI X z8 σ H s):∀(n:Nat)(d1 d2:D)(v:V),uo n d1 d2=Ã->zZ X.K H d1 v->zZ X.K H d2 v->xh d1 d2=Ã
 |0,_,_,_,h,_,_=>by cases h|n+1,d1,d2,v,h,r1,r2=>by rcases Ck h with⟨o,k,rfl,rfl,h⟩|⟨o,k,rfl,rfl,h⟩|⟨g,l⟩;obtain⟨a,i,rfl,d,f,_⟩:=r1;obtain⟨m,j,e,c,b,_⟩:=r2;cases e;cases I.DI d c;exact E8 ăn h f b;obtain⟨a,i,rfl,d,f,_⟩:=r1;obtain⟨m,j,e,c,b,_⟩:=r2;cases e;cases I.Of d c;exact E8 ăn h f b;rw[<-IN g l r1 r2];exact z2g (VA g r1)
def dP{α:Type}{xs:Á α}{j:Nat}{x d:α}(h:xs[j]?=À x):xs.getD j d=x:=by rw[Āa,h];rfl
def Mf{A:ø}{n:Nat}{a c:É}{xs b:Á D}{vs us:Á V}(I:zI X z8 σ H s)(o:Şa<Òa)(w:bM X.K H a c vs us)(l:Þ X.K H xs vs)(d:Þ X.K H b us)(h:jD ķd xs b=Ã)(r:∀(d1 d2:D)(x y:V)(u v:Value),uo n d1 d2=Ã->zZ X.K H d1 x->zZ X.K H d2 y->zr x u->zr y v->Éc Ų s u v āk):ñk A s Ś Ěh (Įc xs b)/\Řj A s Ś Ěh (!dEqs xs b):=by
 have z:=y6r (A:=A) (e:=λj=>xh ój ŭp) I o w λj B p k g e1 e2 C m=>by obtain⟨d1,i,t⟩:=l.at e1;obtain⟨d2,f,q⟩:=d.at e2;show Éc Ų s k g (xh ój ŭp);rw[dP i,dP f];exact r d1 d2 B p k g (cH h j d1 d2 i f) t q C m
 rw[ŕb,åa,cO]at z;exact z
theorem LR(I:zI X z8 σ H s):∀(n:Nat)(A:ø)(d1 d2:D)(x y:V)(u v:Value),Şa+n<Òa->uo n d1 d2=Ã->zZ X.K H d1 x->zZ X.K H d2 y->zr x u->zr y v->Éc A s u v āk
 |0,_,_,_,_,_,_,_,_,h,_,_,_,_=>by cases h|n+1,A,d1,d2,x,y,u,v,hu,h,r1,r2,rx,ry=>by have o:=h;have q:=r1;have r:=r2;rcases Ck h with⟨E,z,rfl,rfl,h⟩|⟨E,z,rfl,rfl,h⟩|⟨p,m⟩;obtain⟨a,t,rfl,f,k,C⟩:=r1;obtain⟨c,w,rfl,e,d,B⟩:=r2;cases(show u=Ċ a from rx);cases(show v=Ċ c from ry);by_cases hac:a=c;subst hac;rw[LS I ļ _ _ _ o q r];exact Ńi _;exact Īo hac (Ψc íp Čg).1;obtain⟨a,t,rfl,f,k,C⟩:=r1;obtain⟨c,w,rfl,e,d,B⟩:=r2;cases(show u=Ċ a from rx);cases(show v=Ċ c from ry);by_cases hac:a=c;subst hac;rw[LS I ļ _ _ _ o q r];exact Ńi _;exact Īo hac (Ψc ëp Čg).1;rw[<-IN p m r1 r2];exact cj rx ry (VA p r1) (VA m r2)
#print a
def Me(K:Í)(a:Ì):R2:=λx y H Q=>∃d1 d2 k,zZ K H d1 x/\zZ K H d2 y/\Zr d1 d2=À k/\Q (.bl (if a then !k else k)) H
def ym(a:yl k A):Şa+7<Òa:=ķb (ßd (by decide:7<=64) _) a.units
section
variable{X:Cx}{K:Í}
def EA(h:Zr d1 d2=À k):uo 6 d1 d2=Ã/\k=xh d1 d2:=by
 unfold Zr at h
 split at h;cases h;cases h;split at h;rename_i e;cases h;exact⟨e,rfl⟩;cases h
def mN(h:Zr d1 d2=À k)(d:xJ d1=Ã)(c:xJ d2=Ã)(b:zZ K H d1 x)(a:zZ K H d2 y):Pf x y=Ã/\decide (x=y)=k:=by
 obtain⟨_,e⟩:=EA h;subst e;cases d1<;>first|exact Ú d ō|skip
 all_goals (cases d2<;>first|exact Ú c ō|(cases h;done)|skip)
 all_goals first
  |(cases(show x=_ from b);cases(show y=_ from a);exact⟨rfl,by first|rfl|exact Cr|exact Cq⟩)
  |(cases(show x=_ from b);cases(show y=_/\_ from a).1;exact⟨rfl,rfl⟩)
  |(cases(show x=_/\_ from b).1;cases(show y=_ from a);exact⟨rfl,rfl⟩)
  |(cases(show x=_/\_ from b).1;cases(show y=_/\_ from a).1;exact⟨rfl,Cs⟩)
def cp(I:zI X z8 σ H s)(G:Şa+7<Òa)(h:uo 6 d1 d2=Ã)(F:¬ (xJ d1&&xJ d2)=Ã)(p:zZ X.K H d1 x)(o:zZ X.K H d2 y)(n:zr x u)(m:zr y v) :ñk A s u v āk/\Řj A s u v (!xh d1 d2):=by rcases Ck h with⟨E,t,rfl,rfl,h⟩|⟨E,t,rfl,rfl,h⟩|⟨z,w⟩;obtain⟨a,q,rfl,f,k,C⟩:=p;obtain⟨c,r,rfl,e,d,B⟩:=o;cases(show u=Ċ a from n);cases(show v=Ċ c from m);exact Mf I Å íp k d h λd1 d2 x y u v i j g l b=>LR I 5 Ų d1 d2 x y u v Čg i j g l b;obtain⟨a,q,rfl,f,k,C⟩:=p;obtain⟨c,r,rfl,e,d,B⟩:=o;cases(show u=Ċ a from n);cases(show v=Ċ c from m);exact Mf I Å ëp k d h λd1 d2 x y u v i j g l b=>LR I 5 Ų d1 d2 x y u v Čg i j g l b;exact Ú (by rw[z,w];rfl) F
def xy(j:ēb+7<Òa):yk X ïs (Me X.K Â):=by intro l s σ H x y v u Q I f e h;obtain⟨n,o,k,i,g,d,q⟩:=h;by_cases hf:Ķq=Ã;have c:=hf;rw[ĉ]at c;obtain⟨a,b⟩:=mN d c.1 c.2 i g;exact y3p l s σ H x y v u Q I f e ⟨a,by rw[b];exact q⟩;obtain⟨m,rfl⟩:=EA d;exact Âo.1 _ _ _ _ ⟨.bl _,H,I,rfl,q⟩
def qx(j:ēb+7<Òa):yk X ġq (Me X.K Ã):=by intro l s σ H x y v u Q I f e h;obtain⟨n,o,k,i,g,d,q⟩:=h;by_cases hf:Ķq=Ã;have c:=hf;rw[ĉ]at c;obtain⟨a,b⟩:=mN d c.1 c.2 i g;exact y3v l s σ H x y v u Q I f e ⟨a,by rw[b];exact q⟩;obtain⟨m,rfl⟩:=EA d;exact Âo.2 _ _ _ _ ⟨.bl _,H,I,rfl,q⟩
def xw:ji K (Me K Â) zk:=λH x y u v d Q c b a=>by obtain⟨k,e,a⟩:=zJ a;cases a;exact⟨_,rfl,λq=>⟨x,y,k,c,b,e,q⟩⟩
def qw:ji K (Me K Ã) xm:=λH x y u v d Q c b a=>by obtain⟨k,e,a⟩:=zJ a;cases a;exact⟨_,rfl,λq=>⟨x,y,k,c,b,e,q⟩⟩
#print a
def z6z{K:Í}:œ K űd Ćb=À Â/\œ K űd Ĉa=À Â/\œ K űd ŵa=À Â/\
  œ K Ðb Ćb=À Â/\œ K Ðb Ĉa=À Â/\œ K Ðb ŵa=À Â/\
  œ K Òb Ćb=À Â/\œ K Òb Ĉa=À Â/\œ K Òb ŵa=À Â:=by refine⟨?_,?_,?_,?_,?_,?_,?_,?_,?_⟩<;>kernel_rfl
def z70{K:Í}:œ K Ćb Òb=À Â/\œ K Ćb Ðb=À Â/\œ K Ćb Ĉa=À Â/\œ K Ćb ŵa=À Â/\
  œ K Ĉa Òb=À Â/\œ K Ĉa Ðb=À Â/\œ K Ĉa Ćb=À Â/\œ K Ĉa ŵa=À Â/\œ K Ĉa Ĉa=À Ã:=by refine⟨?_,?_,?_,?_,?_,?_,?_,?_,?_⟩<;>first|kernel_rfl|rfl
def z71{K:Í}:œ K ŵa Òb=À Â/\œ K ŵa Ðb=À Â/\œ K ŵa Ĉa=À Â/\œ K ŵa Ćb=À Â:=by refine⟨?_,?_,?_,?_⟩<;>kernel_rfl
noncomputable def x5q:D->Ïa
 |.zE => "NoneType"|.bl _ => ńf|.int _ => Àd|.str _ => Śf|.tup _ => Ŧ|.lst _ => Ġ|.dic _ _ => Ż|.exc _ => "x"|.obj _ _ _ => "x"
def Ur{K:Í}{T:gb}{d:D}{b:Ì}(h:L_ T d=À b):œ K (.type (x5q d)) řq=À b:=by
 obtain⟨l,j,i,e,m,p,k,w,y⟩:=z6z (K:=K);obtain⟨s,c,o,n,f,a,t,u,g⟩:=z70 (K:=K);obtain⟨q,r,x,v⟩:=z71 (K:=K);cases T<;>cases d<;>cases h
 all_goals first|exact z6u|exact z6s|exact z6t|exact z6r|exact z6w|exact z6v|exact z6y|exact z6x|assumption
def y6g(K:Í)(T:gb):Á V->Hp->VK->Prop:=λa H Q=>∃x d b,a=[x,.ty T.nm]/\zZ K H d x/\L_ T d=À b/\Q ģc H
def z0u(T:gb):vY X Ěj (y6g X.K T):=by
 intro v s σ H B A Q I r h;obtain⟨x,d,b,rfl,g,e,q⟩:=h;obtain⟨u,c,rfl,i,w⟩:=RU r;cases(show c=ïk T.nm from w);have f:∀p,EP X v σ Q ñh { s with Ė:=p }:=λp=>⟨.bl b,H,Ña p,rfl,q⟩
 cases d with
 |zE=>cases(show x=_ from g);exact M1 I i .zE (Ur (d:=.zE) e) f|bl y=>cases(show x=_ from g);exact M1 I i (.bl _) (Ur (d:=.bl y) e) f|int y=>cases(show x=_ from g);exact M1 I i (.int _) (Ur (d:=.int y) e) f|str y=>cases(show x=_/\_ from g).1;exact M1 I i (.str _) (Ur (d:=.str y) e) f|tup ds=>obtain⟨a,t,rfl,m,_⟩:=g;cases(show u=Ċ a from i);obtain⟨l,_,⟨o,j,k,_⟩,_⟩:=Ýa m;exact Øb đq ŝ ⟨o,j,k⟩ (Ur (d:=.tup ds) e) ķa f
 |lst ds=>obtain⟨a,t,rfl,m,_⟩:=g;cases(show u=Ċ a from i);obtain⟨l,_,⟨o,n,j,k,_⟩,_⟩:=ž m;exact Øb Žj ŝ ⟨o,j,k⟩ (Ur (d:=.lst ds) e) ķa f
 |dic ks ds=>cases T<;>cases e|exc _=>cases T<;>cases e|obj _ _ _=>cases T<;>cases e
def Ie(T:gb)(o:Gl X îd)(e:Gl X x)(j:ð îd=Ä)(g:ð x=Ä)(hv:ť x=À řq)(n:SB X a f)(i:Ê ãe q12)(l:Ê ĺb q10)(s:Ê Ļ q10):SE X (.Call (.Name îd p) [a,.Name x p1] [] pos) (We T f):=by obtain⟨t,m,k⟩:=n.h;refine⟨⟨_,(Mb (z0u T) o j z0h (KH ⟨m⟩ (KH (y64 e g hv l s) iy rfl) i) È È ŏo).h,λ{C B G H τ σ d Q} E c q=>?_⟩⟩;obtain⟨z,w,c⟩:=zJ c;obtain⟨b,u,c⟩:=zJ c;cases c;exact k E w λv A y x r=>⟨v,z,b,rfl,r,u,q _ _ _ x rfl⟩
#print L3
namespace L3
open Ħ
theorem RX{c:FT}{b:FS}:∀{n:Nat}{σ:zu}{fl:Fl}(k:Nat),pj c b n σ=À fl->pj c b ĩe σ=À fl
 |0,_,_,_,h=>by cases h|n+1,σ,fl,k,h=>by
  rw[Nat.succ_add];unfold pj at h ⊢;cases hc:c σ with
  |Ä=>rw[hc]at h;cases h|À kk=>
   rw[hc]at h;cases kk with
   |Â=>exact h|Ã=>
    change (Ġe).bind _=_ at h
    show(Ġe).bind _=_;cases hb:b σ with
    |Ä=>rw[hb]at h;cases h|À f=>
     rw[hb]at h;cases f with
     |nx τ=>exact RX k h|ct τ=>exact RX k h|bk τ=>exact h|rt o d=>exact h
def ly(n:Nat)(h:pj c b n σ=À fl)(a:Ê (n<=gU) q10):Mm c b σ=À fl:=by have e:=RX (gU-n) h;rw[ťo a]at e;exact e
def oB(d:c σ=À Ã)(a:b σ=À Šk):pj c b ļ σ=pj c b n σ':=by show(ĺd).bind _=_;rw[d];show(Ġe).bind _=_;rw[a];rfl
def oA(a:c σ=À Â):pj c b ļ σ=À ěh:=by show(ĺd).bind _=_;rw[a];rfl
theorem gz(P:Nat->zu->Prop):∀{ds:Á D}{σ:zu}(n:Nat),P n σ->(∀i d σ,ds[i]?=À d->P (n+i) σ->∃σ1 σ2,g d σ=À σ1/\(b σ1=À şk\/b σ1=À (.ct σ2))/\P (n+i+1) σ2)->
  ∃σ',Z9 g b ds σ=À Šk/\P (n+Đ) σ'
 | [],σ,n,h,_=>⟨σ,rfl,h⟩|d::ds,σ,n,h,Êd=>by
  obtain⟨σ1,σ2,e1,e2,p⟩:=Êd 0 d σ rfl h
  obtain⟨σ',c,o⟩:=gz P (ds:=ds) (σ:=σ2) ļ p λi e τ q l=>by obtain⟨a,m,j,f,k⟩:=Êd ê e τ ňo Īm;exact⟨a,m,j,f,by rw[show n+1+i+1=n+ê+1 by omega];exact k⟩
  refine⟨σ',?_,by rw[ĕ,show n+(Đ+1)=n+1+Đ by omega];exact o⟩;show(ħf).bind _=_;rw[e1];show(b σ1).bind _=_;rcases e2 with e2|e2;rw[e2];exact c;rw[e2];exact c
def z5s(h:c σ=À Ã):xM c a b σ=a σ:=by show(ĺd).bind _=_;rw[h];rfl
def z5r(h:c σ=À Â):xM c a b σ=b σ:=by show(ĺd).bind _=_;rw[h];rfl
abbrev wQ(j:Nat):Á D:=(Ēa j).map λk:Nat=>þ k
def ZK(h:f τ=À ĝh)(a:n.natAbs<=1000000):tJ ą f τ=À (wQ n.toNat):=by unfold tJ;rw[h];show(if(0:Int).natAbs<=yZ/\n.natAbs<=yZ/\(n-0).toNat<=yZ then _ else _)=_;rw[Ï ⟨by decide,by show _<=16777216;omega,by show _<=16777216;omega⟩,Ěq];simp only[ęq]
open Ķ ī L2
section
variable{α:Type}
theorem oK:∀{ks:Á zW}{vs:Á α}(k:zW),ĭ=Ā->((Ŏa).any λkv=>decide Ïl)=yg ks k
 | [],[],_,_=>rfl|k'::ks,v::vs,k,h=>by have a:=oK (ks:=ks) (vs:=vs) k Āb;show(decide ŗl||((Ŏa).any λkv=>decide Ïl))=(decide ŗl||yg ks k);rw[a]
theorem VP(k:zW):∀{ks:Á zW}{vs:Á V},ĭ=Ā->qc Ŏa k=Ă ks vs k:=by
 intro ks
 induction ks with
 |nil=>intro vs _;cases vs<;>rfl|Ĉ k' ks ih=>
  intro vs h;cases vs with
  |nil=>cases h|Ĉ v vs=>by_cases e:k'=k;rw[ĸb,BN (p:=(k',v)) e];show _=Èg;rw[Ï e];rw[ĸb,BM (p:=(k',v)) e,ih Ĉl];show _=Èg;rw[Ð e]
theorem x8t(k:zW)(v:V):∀(ks:Á zW)(vs:Á V),((Ŏa).map λkv=>if kv.1=k then(kv.1,v)else kv)=Ŋf äi:=by
 intro ks
 induction ks with
 |nil=>intro vs;rfl|Ĉ k' ks ih=>
  intro vs;cases vs with
  |nil=>rfl|Ĉ u vs=>rw[ĸb,ř,ih,ñc,ĸb];by_cases e:k'=k;rw[Ï e,Ï e];rw[Ð e,Ð e]
theorem Ru(h:ĭ=Ā):tM Ŏa k v=(Ĉf).zip Że:=by unfold tM wO w6;rw[oK k h];by_cases c:yg ks k=Ã;rw[Ï c,Ï c,Ï c,x8t k v];rw[Ð c,Ð c,Ð c,List.zip_append h];rfl
def T3(h:ĭ=Ā):(Ĉf).length=(Że).length:=by
 unfold wO w6
 split;rw[ŀc,h,Űa];rw[í,í,h];rfl
def KA(h:ĭ=Ā):(Że).length<=Ā+1:=by
 unfold w6
 split;rw[ŀc,h,Űa];exact Īg _;rw[í];exact Øa _
#print a
section
variable{K:Í}{H:Hp}
theorem Ås:∀{ks:Á zW}{ds:Á D}{vs:Á V}{k:zW}{d:D},Þ K H ds vs->Ă ks ds k=À d->∃v,Ă ks vs k=À v/\zZ K H d v
 | [],_,_,_,_,_,e=>by cases e|_::_,[],_,_,_,_,e=>by cases e|k'::ks,d'::ds,_,k,d,r,e=>by
  obtain⟨v,h,rfl,a,g⟩:=r
  change (if k'=k then À d' else L3.getK ks ds k)=À d at e
  by_cases c:k'=k;rw[Ï c]at e;cases e;exact⟨v,by show Èg=_;rw[Ï c],a⟩;rw[Ð c]at e;obtain⟨u,b,f⟩:=Ås g e;exact⟨u,by show Èg=_;rw[Ð c];exact b,f⟩
theorem dR{α β:Type}:∀{ks:Á zW}{ds:Á α}{vs:Á β}{k:zW},Đ=Ā->Ă ks ds k=Ä->Ă ks vs k=Ä
 | [],_,_,_,_,_=>by unfold Ă;rfl|_::_,[],[],_,_,_=>rfl|k'::ks,d'::ds,v::vs,k,h,e=>by
  change (if k'=k then À d' else Ă ks ds k)=Ä at e
  show Őm=Ä;by_cases c:k'=k;rw[Ï c]at e;cases e;rw[Ð c]at e;rw[Ð c];exact dR Āb e
theorem EY:∀{ks:Á zW}{vs:Á α}(k:zW),ĭ=Ā->(Ă ks vs k).isSome=yg ks k
 | [],[],_,_=>rfl|k'::ks,v::vs,k,h=>by have a:=EY (ks:=ks) (vs:=vs) k Āb;show(Őm).isSome=(decide ŗl||_);by_cases c:k'=k;rw[Ï c,î c];rfl;rw[Ð c,ă c,a];rfl
theorem ùl(hv:zZ K H d v):∀{ks:Á zW}{ds:Á D}{vs:Á V},Þ K H ds vs->Þ K H (ľb (λk' x=>if k'=k then d else x) ks ds) äi
 | [],_,_,_=>rfl|_::_,[],_,r=>by cases(show _=[]from r);rfl|k'::ks,d'::ds,_,r=>by obtain⟨u,e,rfl,b,a⟩:=r;refine⟨_,_,rfl,?_,ùl hv a⟩;show zZ K H (if k'=k then d else d') (if k'=k then v else u);by_cases c:k'=k;rw[Ï c,Ï c];exact hv;rw[Ð c,Ð c];exact b
def Reps.put(r:Þ K H ds vs)(hv:zZ K H d v):Þ K H (w6 ks ds k d) Że:=by
 unfold w6
 split;exact ùl hv r;exact ĕd (Ăh hv)
def Y0(h:uI x=À k)(r:zZ K H x u):u=kV k:=by
 cases x<;>first|(cases h;done)|skip
 cases h;exact r;cases h;exact(show u=_/\_ from r).1
#print a
section
variable{X:Cx}{K:Í}
def lD:R2:=λx y H Q=>∃a kvs k v,x=.ref a/\y=kV k/\Rd H a Ł/\qc kvs k=À v/\Q v H
def z6a:pJ X lD:=by
 intro c b t s σ H x y v u Q I A w h j;obtain⟨a,d,k,z,rfl,rfl,e,l,q⟩:=h;cases A;obtain⟨_,_,n,f,p⟩:=kz Ĕ e;obtain⟨i,B,g⟩:=áf (v:=z) (o:=Ĝc n k) (by rw[<-l];exact f.val k)
 exact Ĵe (x:=i) (z1w I (.inl ⟨d,k,e,rfl,rfl⟩)) Āi
  (ĸi (Q:=λr m=>r=i/\EP X t σ Q r m) (Z5 w) p.mapOf B ⟨rfl,z,H,Ña _,g,q⟩) j
def lC(K:Í):R2:=λx y H Q=>KP K x y H Q\/lD x y H Q
def ze(_:ēb+1<Òa):pJ X (lC X.K):=z6c.or z6a
def zf:uk K (lC K) zM:=λG H x y u v d Q s f e c q=>by
 cases x with
 |dic ks ds=>obtain⟨a,n,rfl,j,l,i,_⟩:=f;obtain⟨k,h,c⟩:=zJ c;obtain⟨z,m,g⟩:=i.getK c;exact .inr ⟨a,_,k,z,rfl,Y0 h e,Ųc s j,by rw[VP k l];exact m,q _ _ _ èa g⟩
 |zE=>cases c|bl b=>cases c|int b=>cases c|str z=>exact .inl (ιb (.str z))|tup z=>exact .inl (ιb (.tup z))|lst z=>exact .inl (ιb (.lst z))|exc z=>cases c|obj z _ _=>cases c
def KO(b:Ì):R2:=λx y H Q=>∃a kvs k,y=.ref a/\x=kV k/\Rd H a Ł/\Q (.bl (if b then !(qc kvs k).isSome else(Áh).isSome)) H
def y3q(c:ēb+1<Òa):yk X Ąf (KO Â):=by intro j s σ H x y v u Q I g f h;obtain⟨a,b,k,rfl,rfl,e,q⟩:=h;cases f;exact z1m c I ęn g λi d=>⟨.bl _,H,d,rfl,q⟩
def y3w(c:ēb+1<Òa):yk X Ōg (KO Ã):=by intro j s σ H x y v u Q I g f h;obtain⟨a,b,k,rfl,rfl,e,q⟩:=h;cases f;exact z1o c I ęn g λi d=>⟨.bl _,H,d,rfl,q⟩
def IM(K:Í)(a:Ì):R2:=λx y H Q=>KN K a x y H Q\/(∃i j,x=.str i/\y=.str j/\Q (.bl (if a then !(!(ſf j i 0 Ėa 1).isEmpty)else !(ſf j i 0 Ėa 1).isEmpty)) H)\/KO a x y H Q
def V3(a:ēb+1<Òa):yk X Ąf (IM X.K Â):=y3r.or (y3s.or (y3q a))
def Hs(a:ēb+1<Òa):yk X Ōg (IM X.K Ã):=y3x.or (y3y.or (y3w a))
theorem Mh(e:xJ x=Ã)(c:zZ K H x u):∀{ys:Á D}{vs:Á V},Þ K H ys vs->ħd xJ=Ã->vs.all jF=Ã/\Lw u vs=ys.any λy=>xh y x
 | [],_,r,_=>by cases(show _=[]from r);exact⟨rfl,rfl⟩|y::ys,_,r,h=>by obtain⟨v,g,rfl,d,f⟩:=r;rw[Àa,ĉ]at h;obtain⟨a,b⟩:=Mh e c f h.2;refine⟨by rw[Àa,VA h.1 d,a];rfl,?_⟩;show(qm v u||Lw u g)=(xh y x||_);rw[IN h.1 e d c,b]
theorem d_(d:zZ K H x u)(g:zZ K H y v)(b:Ub x y=À k)(q:Q (.bl (if neg then !k else k)) H):IM K neg u v H Q:=by
 cases y with
 |lst ys=>
  obtain⟨a,f,rfl,e,h,_⟩:=g
  change (match xJ x&&ħd xJ with|Ã=>À ôg|Â=>Ä)=À k at b
  cases c:Śp with
  |Â=>rw[c]at b;cases b|Ã=>rw[c]at b;cases b;rw[ĉ]at c;obtain⟨n,m⟩:=Mh c.1 d h c.2;exact .inl ⟨a,f,rfl,.inl e,VA c.1 d,n,by rw[m];exact q⟩
 |tup ys=>
  obtain⟨a,f,rfl,e,h,_⟩:=g
  change (match xJ x&&ħd xJ with|Ã=>À ôg|Â=>Ä)=À k at b
  cases c:Śp with
  |Â=>rw[c]at b;cases b|Ã=>rw[c]at b;cases b;rw[ĉ]at c;obtain⟨n,m⟩:=Mh c.1 d h c.2;exact .inl ⟨a,f,rfl,.inr e,VA c.1 d,n,by rw[m];exact q⟩
 |str j=>
  cases x<;>first|(cases b;done)|skip
  rename_i i;cases b;exact .inr (.inl ⟨i,j,(show u=_/\_ from d).1,(show v=_/\_ from g).1,q⟩)
 |dic ks ds=>obtain⟨o,p,b⟩:=zJ b;cases b;obtain⟨a,f,rfl,e,l,h,_⟩:=g;refine .inr (.inr ⟨a,_,o,rfl,Y0 p d,e,?_⟩);rw[VP o l,EY o l];exact q
 |_=>cases b
def W_:ji K (IM K Â) tI:=λH x y u v d Q c b a=>by obtain⟨k,e,a⟩:=zJ a;cases a;exact⟨_,rfl,λq=>d_ c b e q⟩
def Hm:ji K (IM K Ã) Zt:=λH x y u v d Q c b a=>by obtain⟨k,e,a⟩:=zJ a;cases a;exact⟨_,rfl,λq=>d_ c b e q⟩
def Ih:SF X Åp îi:=⟨⟨_,y4h,λ{e c G H τ σ d Q} E b q p a=>by cases b;exact q p G _ (ìb Õb a) a (E.ext.gh.free a) ⟨[],ya,rfl,rfl,Áa _⟩⟩⟩
def ZO(I:ēb+1<Òa)(B:QE X Ķa Ģe)(hk:SE X k fk)(hv:SE X v fv)(r:Ê (Φb ũn) q12) :SS X ġo (qY i fk fv):=by
 obtain⟨tk,s,P⟩:=hk.h;obtain⟨Y,L,F⟩:=Ńd;refine⟨⟨_,iQ I B.h s L r,λ{G0 H0 G H τ σ T E} K b q=>?_⟩⟩;obtain⟨y,t,b⟩:=zJ b;refine F K t λw R Z N Q=>?_
 split at b;rename_i ks o n;obtain⟨xk,O,b⟩:=zJ b;obtain⟨d,e,b⟩:=zJ b;by_cases c:ĭ<yZ;rw[Ï c]at b;cases b;have m:=àa N;obtain⟨a,p,g,z,vs,J,l,j,W⟩:=m.ow _ _ n;refine⟨_,p,P m O λu G2 H2 f C=>⟨a,_,rfl,.inl ⟨_,d,f.h _ _ J,Y0 e C,?_,rfl⟩,?_⟩⟩;rw[ūa,l,Űa,Ř,<-l];exact c;refine q _ _ _ ((m.go f).QK n p ⟨w6 ks vs d w,?_,T3 l,(Įd f.g).put (Q.mono f.g),?_⟩);rw[ya,Ru l];have S:=KA (ks:=ks) (vs:=o) (k:=d) (v:=y) (by rw[l,Ėa]);have U:Ęb<16777216:=by rw[<-Ėa,<-l];exact c
 rw[Ř];omega;rw[Ð c]at b;cases b;cases b
def tU(K:Í)(w:ß)(a:É)(ks:Á zW)(ds:Á D):Prop:=
 ∃us:Á V,ĭ=Ţ/\ąa=Â/\(∀H,Þ K H ds us)/\∀(P:å)(h:Heap),Ŕ h->∃vs,KV śc vs/\óe Ŕa a vs
inductive ja(w:ß):Á Ëc->Á Str->Á Value->Prop
 |nil:ja w [] [] []
 |Ĉ {x:Str} {t:Tok} {v:Value} {es:Á Ëc} {xs:Á Str} {vs:Á Value} (r:ja w es xs vs):ja w (⟨ńp w.params x,.str x t,v⟩::es) ęl (v::vs)
theorem ja.pairs:∀{es:Á Ëc}{xs:Á Str}{vs:Á Value},ja w es xs vs->Pairs Ŕa es ((àc Ţb).zip vs)/\(∀e∈es,∃k,(Ŕa).is k e.key=Ã/\e.hash=(Ŕa).hash k)
 |_,_,_,.nil=>⟨.nil,λe h=>Ú h ã⟩|_,_,_,.cons (x:=x) (t:=t) r=>by obtain⟨a,b⟩:=ja.pairs (P:=P) r;refine⟨.cons (HR P w x t) rfl a,λe h=>?_⟩;rcases ľ h with rfl|h;exact⟨.inr x,HR P w x t,rfl⟩;exact b e h
theorem ja.len{w:ß}:∀{es:Á Ëc}{xs:Á Str}{vs:Á Value},ja w es xs vs->à=Ā
 |_,_,_,.nil=>rfl|_,_,_,.cons r=>by rw[ĕ,ĕ,r.len]
theorem Gz(r:zm us vs):∀{ks:Á zW},ĭ=Ţ->KV śc Ŏa:=by
 induction r with
 |nil=>intro ks _;rw[įo,įo];exact .nil|Ĉ r _ ih=>
  intro ks h;cases ks with
  |nil=>exact .nil|Ĉ k ks=>exact .cons ⟨rfl,r⟩ (ih Ĉl)
theorem Bd:∀{ks:Á zW}{vs:Á Value},ĭ=Ā->(Ŏa).map (·.1)=ks
 | [],[],_=>rfl|k::ks,v::vs,h=>by rw[ĸb,ř,Bd Āb]
theorem dM(l:Ź a=À { cls:=.type Ż,Ć:=.dict êk n })(e:ja w es xs vs)(j:Ĕd)(f:ąa=Â)(r:zm us vs)(d:∀H,Þ K H ds us) :tU K w a ød ds:=by
 have c:(àc Ţb:Á zW).length=Ţ:=by rw[ä,e.len,Ûa]
 refine⟨us,c,f,d,λP h g=>⟨_,Gz r c,?_⟩⟩;obtain⟨p,q⟩:=õl (P:=P);refine⟨_,_,_,g _ _ l,⟨rfl,rfl,rfl⟩,rfl,λe i=>q e (by simpa using i),p,?_⟩;rw[Bd ĩi];exact Źi _ Ĉi j
def z2v(g:tU X.K X.w A ks ds):pJ X (λx y H Q=>x=.ref A/\∃k,y=kV k/\∃d,Ă ks ds k=À d/\∀v,(∀H,∃H',zw H H'/\éc)->(∀H,zZ X.K H d v)->Q v H):=by
 intro c b L s σ H x y v u Q I P O h t;obtain⟨rfl,k,rfl,d,l,q⟩:=h;cases P;obtain⟨S,E,p,m,C⟩:=g;obtain⟨G,e,j⟩:=C ó Ý ŝ;obtain⟨z,n,_⟩:=(m H).getK l
 have J:∀H,zZ X.K H d z:=λH'=>by obtain⟨T,a,N⟩:=(m H').getK l;rw[n]at a;cases a;exact N
 obtain⟨i,R,f⟩:=áf (v:=z) (o:=Ĝc G k) (by rw[<-n,<-VP k E];exact e.val k)
 exact Ĵe (x:=i) j.typeIs Āi
  (ĸi (Q:=λr B=>r=i/\EP X L σ Q r B) (Z5 O) j.mapOf R ⟨rfl,z,H,Ña _,f,q z (λH=>⟨H,řa H,trivial⟩) J⟩) t
def pZ(h:wp ð x Ėc)(g:tU X.K X.w A ks ds)(n:Gl X x)(r:SE X b fb)(e:Ê Ŋr q12)(m:Ê Ļ q10) :SE X (.Subscript Ĝa b pos) (e1 (wN ks ds) fb):=by obtain⟨z,i,f⟩:=r.h;refine⟨⟨_,Hu (z2v g) (V6 h n m) i (Hy e),λ{F t G H τ σ d Q} E a q=>?_⟩⟩;obtain⟨y,j,a⟩:=zJ a;obtain⟨k,c,a⟩:=zJ a;exact f E j λu C B l o=>⟨rfl,k,Y0 c o,d,a,λv _ s=>q v _ _ l (s _)⟩
#print a
noncomputable def k9:D->Æ Ģc
 |.lst xs=>À xs|.tup xs=>À xs|_=>Ä
def qU(a b:FE):FA:=λσ=>(òa).bind λx=>(Ġe).bind λy=>(k9 x).bind λd=>(k9 y).bind λc=>À (ľb Ŕi d c)
section
variable{K:Í}{G H:Hp}
def mQ(h:k9 x=À xs)(r:zZ K G x u):∃t a vs,u=.ref a/\qN K t G a vs/\Þ K G xs vs/\à<=á:=by
 cases x<;>first|(cases h;done)|skip
 cases h;obtain⟨a,vs,rfl,c,b,l⟩:=r;exact⟨Ã,a,vs,rfl,c,b,l⟩;cases h;obtain⟨a,vs,rfl,c,b,l⟩:=r;exact⟨Â,a,vs,rfl,c,b,l⟩
def XY(s:zw H H')(h:qN K t H a vs):qN K t H' a vs:=by cases t;exact uO s h;exact uD s h
def x8u(h:qN K t1 G a vs)(g:qN K t2 G b us)(l:Þ K G xs vs)(j:Þ K G ys us):jn K ßj G (ľb Ŕi xs ys) where
 go:=λi e H d c f=>by rw[ŀc]at f;obtain⟨v,e1,_⟩:=l.get (Ģ (show i<à by omega));obtain⟨u,e2,_⟩:=j.get (Ģ (show i<ãa by omega));exact⟨vs,us,v,u,XY ŷc h,XY ŷc g,e1,e2⟩
 uh:=λi e H x A d c f y=>by obtain⟨p,m,rfl,k⟩:=y;obtain⟨v,u,e1,e2,rfl⟩:=k vs us (XY ŷc h) (XY ŷc g);obtain⟨t,s,w⟩:=l.at e1;obtain⟨z,r,q⟩:=j.at e2;refine⟨zX e p śq,.tup [t,z],Ûc c m,by rw[ég,s,r],?_⟩;have o:zw G (zX e p śq):=þc (vj (c.free m) _);exact⟨p,[v,u],rfl,īc ya,⟨v,_,rfl,w.mono o,⟨u,_,rfl,q.mono o,rfl⟩⟩,Ŧb (n:=2) È⟩
 ţ:=λi e H d c f=>by rw[ŀc]at f;refine⟨vs,us,XY ŷc h,XY ŷc g,?_⟩;rw[ŕb,Ėa];omega
#print a
section
variable{X:Cx}{a b e o:Ñ}{fa fb f:FE}{p pos:Pos}
def Mu(A:Gl X ńa)(u:ð ńa=Ä)(w:SE X a fa)(O:SE X b fb)(m:Ê ãe q12)(d:Ê Įr q12):SI X ğo ûi (qU fa fb):=by
 obtain⟨t,F,k⟩:=(zB w (zB O zK d) m).h;refine⟨⟨_,(y66 A u ⟨F⟩ m d).h,λ{G0 H0 G H τ σ ds R} K c q=>?_⟩⟩;obtain⟨x,N,c⟩:=zJ c;obtain⟨y,z,c⟩:=zJ c;obtain⟨U,f,c⟩:=zJ c;obtain⟨Y,e,c⟩:=zJ c;cases c;refine k K (ds:=Éd) (by unfold zA;rw[N,z];rfl) λW T Z i S=>?_
 obtain⟨v,r,rfl,E,⟨v2,C,rfl,l,I⟩⟩:=S;cases(show C=[]from I);obtain⟨P,B,g,rfl,o,Q,l1⟩:=mQ f E;obtain⟨J,L,j,rfl,n,s,l2⟩:=mQ e l;refine⟨B,L,g,j,P,J,rfl,XY i.gh o,XY i.gh n,q _ _ _ i ?_ (x8u o n Q s)⟩;rw[ŀc];omega
abbrev FO:=zu->Æ (Æ Int)
noncomputable def Y4:FO:=λ_=>À Ä
noncomputable def g9(f:FE):FO:=λσ=>(f σ).bind λd=>match d with
 |.int i=>À (À i)|_=>Ä
def jv(xs:Á α)(lo hi:Æ Int):Á α:=(Ķn).take Þn
def EH(d:D)(lo hi:Æ Int):Æ D:=match d with
 |.lst xs=>À (Ε ůi)|.tup xs=>if ĸ à 0 lo=0/\ĸ à à hi=à then Ä else À Œr|.str z=>À (.str őq)|_=>Ä
def Cz(a:FE)(lo hi:FO):FE:=λσ=>(òa).bind λd=>(ĝl).bind λl=>(ğl).bind λh=>EH d l h
structure SO(X:Cx)(e:Æ Ñ)(f:FO):Prop where
 h:∃t,PO X e t/\∀{G0 H0 G H:Hp}{τ:zu}{σ:St}{d:Æ Int}{Q:Æ Int->Hp->Prop},zp X.K ú G0 H0 G H τ σ->f τ=À d->(∀G' H',zT G H G' H'->Q d H')->t σ H Q
def y9m:SO X Ä Y4:=⟨⟨_,y5j,λE a q=>by cases a;exact q _ _ Čc⟩⟩
def Po(h:SE X e f):SO X (À e) (g9 f):=by
 obtain⟨t,b,k⟩:=h.h;refine⟨⟨_,y5k b,λ{l j G H τ σ d Q} E a q=>?_⟩⟩;obtain⟨x,c,a⟩:=zJ a;cases x<;>first|(cases a;done)|skip
 cases a;exact k E c λv i g x r=>⟨_,r,q _ _ x⟩
def Reps.cut{K:Í}{G:Hp}{ds:Á D}{vs:Á V}(r:Þ K G ds vs)(lo hi:Æ Int):Þ K G (jv ds lo hi) (Yy vs lo hi):=by unfold jv Yy;rw[Ûa];exact(ĭl _).take _
def LJ(xs:Á α)(lo hi:Æ Int):(ůi).length<=à:=by unfold jv;rw[ìa,Ąb];exact Ğ ÿf Źb
def y6l(K:Í):V->Æ Int->Æ Int->Hp->VK->Prop:=λx a b H Q=>lK K x a b H Q\/lM K x a b H Q\/lL x a b H Q
def mZ:kZ X (y6l X.K):=y9f.or (y9h.or y9g)
def y8w{lo hi:Æ Ñ}{w fh:FO}{p2:Pos}(A:SE X a fa)(r:SO X lo w)(u:SO X hi fh):SE X Ūn (Cz fa w fh):=by
 obtain⟨U,C,F⟩:=A.h;obtain⟨O,B,K⟩:=r.h;obtain⟨P,y,I⟩:=u.h;refine⟨⟨_,iH mZ C B y,λ{G0 T G H τ σ d Q} E b q=>?_⟩⟩;obtain⟨x,J,b⟩:=zJ b;obtain⟨l,r,b⟩:=zJ b;obtain⟨h,u,b⟩:=zJ b;refine F E J λv N S t L=>K Ĵh r λY W n=>I ((Ĵh).go n) u λZ R e=>?_
 have m:=t.trans (n.trans e);have k:=L.mono (n.g.trans e.g);cases x with
 |lst xs=>cases b;obtain⟨a,s,rfl,o,j,f⟩:=k;refine .inl ⟨a,s,rfl,uO ńd o,λp i=>q _ _ _ Ťn ⟨p,_,rfl,åc ya,(ôr).mono ţp,Ğ Ňh f⟩⟩
 |tup xs=>
  change (if ĸ à 0 l=0/\ĸ à à h=à then Ä else À (æc (jv xs l h)))=À d at b
  by_cases c:ĸ à 0 l=0/\ĸ à à h=à;rw[Ï c]at b;cases b;rw[Ð c]at b;cases b;obtain⟨a,s,rfl,o,j,f⟩:=k;refine .inr (.inl ⟨a,s,rfl,uD ńd o,by rw[Ėa];exact c,λp i=>?_⟩);exact q _ _ _ Ťn ⟨p,_,rfl,īc ya,(ôr).mono ţp,Ğ Ňh f⟩
 |str z=>cases b;obtain⟨rfl,f⟩:=k;exact .inr (.inr ⟨z,rfl,f,q _ _ _ m ⟨rfl,Ğ (Cm ..) f⟩⟩)
 |_=>cases b
noncomputable def Wg:Á D->Æ D
 | [.lst xs]=>À öa| [.tup xs]=>À öa|_=>Ä
noncomputable def Wh:Á D->Æ D
 | [.lst xs]=>À Ŗa| [.tup xs]=>À Ŗa|_=>Ä
def jS{K:Í}{G:Hp}{d:D}{vs:Á V}(r:Þ K G [d] vs):∃v,vs=[v]/\zZ K G d v:=by obtain⟨v,c,rfl,a,b⟩:=r;cases(show c=[]from b);exact⟨v,rfl,a⟩
def Pj{fs:FA}(w:Gl X Ġ)(o:ð Ġ=Ä)(u:SA X [e] fs)(n:Ê ļa q12):SF X (Ψb Ćq) (eL Wg fs):=by
 obtain⟨t,r,k⟩:=u.h;refine⟨⟨_,(IL z0z w o LD ⟨r⟩ È È ąg).h,λ{C B G H τ σ d Q} E f q=>?_⟩⟩;obtain⟨x,s,f⟩:=zJ f;refine k E s λy z A b m=>?_
 match x,f with
 | [.lst xs],f=>cases f;obtain⟨v,rfl,a,g,rfl,j,i,l⟩:=jS m;exact⟨a,g,rfl,.inl (uO b.gh j),λp c=>q p _ _ Ŧn ōq øq ⟨g,ya,i,l⟩⟩
 | [.tup xs],f=>cases f;obtain⟨v,rfl,a,g,rfl,j,i,l⟩:=jS m;exact⟨a,g,rfl,.inr (uD b.gh j),λp c=>q p _ _ Ŧn ōq øq ⟨g,ya,i,l⟩⟩
def Hn{K:Í}:bF K (Ξd ((yf K H p ys/\∀l,H l=Ä->Q Űc īq)\/(xF K H p ys/\Q Êa H))) Wh:=λG H h i d Q s r c q=>by
 match h,c with
 | [.lst xs],c=>cases c;obtain⟨v,rfl,a,b,rfl,e,f,l⟩:=jS r;exact⟨a,b,rfl,.inl ⟨uO s e,λp g=>q _ _ _ (Ûc s g) ⟨p,b,rfl,īc ya,f.mono (vj (s.free g) _),l⟩⟩⟩
 | [.tup xs],c=>cases c;obtain⟨v,rfl,a,b,rfl,e,f,l⟩:=jS r;exact⟨a,b,rfl,.inr ⟨uD s e,q _ _ _ èa ⟨a,b,rfl,e,f,l⟩⟩⟩
def Jk(x:D):Á D->Nat->Æ Nat
 | [],_=>Ä|y::ys,n=>match xh y x with
  |Ã=>À n|Â=>Jk x ys ļ
def z2j:D->D->Æ D
 |.lst ys,x=>match xJ x&&ħd xJ with
  |Ã=>(Jk x ys 0).bind λn=>À ĝh|Â=>Ä
 |_,_=>Ä
theorem eN:∀{ys:Á D}{n m:Nat},Jk x ys n=À m->∃j y,m=n+j/\ys[j]?=À y/\xh y x=Ã/\∀i z,i<j->ys[i]?=À z->xh z x=Â
 | [],_,_,h=>by cases h|y::ys,n,m,h=>by
  change (match xh y x with|Ã=>À n|Â=>Jk x ys ļ)=À m at h
  cases c:xh y x with
  |Ã=>rw[c]at h;cases h;exact⟨0,y,rfl,rfl,c,λi z a=>Ú a Ťi⟩|Â=>
   rw[c]at h;obtain⟨j,e,e1,e2,f,d⟩:=eN h;refine⟨j+1,e,by omega,by simpa using e2,f,λi z a b=>?_⟩;cases i with
   |ų=>cases b;exact c|Ŵ i=>exact d i z Å ŋo
def mz(B:Qy X op ti)(z:uk X.K ti F)(A:ľa)(hi:X.N[i]?=À x)(c:j9 îa x)(m:SE X e f)(b:Ê Êb q7) :SS X (.AugAssign ĳg op e pos) (yO i (e2 F ŉl f)):=by obtain⟨t,n,k⟩:=m.h;refine⟨⟨_,K7 A hi c n B b,λ{R O G H τ σ L E} K b q=>?_⟩⟩;obtain⟨d,a,b⟩:=zJ b;cases b;obtain⟨x,c,a⟩:=zJ a;obtain⟨y,p,a⟩:=zJ a;obtain⟨v,o,I⟩:=K.fr _ _ Ŝl;refine⟨v,o,k K p λu l s j J=>z l s x y v u d _ j.gh (Řh j.g) J a λw Q P r C=>?_⟩;exact q _ _ _ (((Ăl).go r).set Śb.1 C)
def MP{K:Í}:uk K ĝp ŵe:=λG H x y u v d Q s c b a q=>by
 cases x<;>first|(cases a;done)|skip
 cases y<;>first|(cases a;done)|skip
 cases a;exact⟨_,_,c,b,q _ _ _ èa rfl⟩
#print a
def FR(n N:Nat)(b:FS)(ds:Á D):Æ â:=if Đ=n then yH N b ds else Ä
def yN:∀ds r,FR n N b ds=À r->Đ=n/\yH N b ds=À r:=λds r h=>by
 unfold FR at h
 split at h;rename_i c;exact⟨c,h⟩;cases h
theorem nM{M:ħe}{A:ø}{E:Value->Ë->Prop}{zF:Ø Value}{x:Value}{e:Value->Ì}{j:Nat}(g:∃Ĝ w,M=model Ĝ w)(k:j<ĳ)(a:e zF[j]=Ã)(f:∀m (l:m<ĳ),m<j->e zF[m]=Â){s:Ë}(d:∀y∈zF,Éc A s y x (e y)){Q:Æ ĳk×ņa->Ë->Prop}(h:Q (À (.done ĝo),()) { s with Ė:=đ+1 }):∀m i:Nat,i+m=ĳ->i<=j->
  Ù M A (ťb (List.range' i m) ((Ä,()):Æ ĳk×ņa) λ(i:Nat) (_:Æ ĳk×ņa)=>match zF[i]? with
   |À y=>do
    let Ñh <-eqBool y x
    if Ñh=Ã then do
      let Ñh <-retInt (i:Int)
      pure (ForInStep.done (À Ñh,()))
     else pure őp
   |_=>pure őp) Q E s
 |0,i,h1,h2=>by omega|m+1,i,h1,h2=>by
  obtain⟨Ĝ,w,rfl⟩:=g;have b:i<ĳ:=by omega
  rw[List.range'_succ,êj];refine Ò ?_;rw[Array.getElem?_eq_getElem b];refine Ò (d _ (Array.getElem_mem b) Ĝ w E _ ?_);by_cases c:i=j;subst c;rw[a,Ï rfl]
  wp_walk
  exact h;rw[f i b Å,Ð È];refine ĝ ?_;exact nM ⟨Ĝ,w,rfl⟩ k a f d h m ê Å Å
def x4i(t:É)(zF:Ø Value)(x:Value)(e:Value->Ì)(j:Nat)(l:j<ĳ)(b:e zF[j]=Ã)(i:∀m (p:m<ĳ),m<j->e zF[m]=Â) :Meets (Builtin.«tuple.index» ⟨[.ref t,x],[]⟩) (λA R s=>Īb Ý t zF/\(∀y∈zF,Éc Ų s y x (e y))/\R (.ok ĝo) { s with Ė:=đ+1 }):=by
 intro a w A R s h;obtain⟨q,g,d,u,z⟩:=s;obtain⟨⟨o,r,v,n,k⟩,f,h⟩:=h;unfold Builtin.«tuple.index»
 wp_walk
 skip
 rw[k];refine ĝ Ŋb;show Ù _ _ (pure 0 >>= _) _ _ _;refine Ò (Ιa Ēj);rw[Std.Legacy.Range.forIn_eq_forIn_range'];have c:Űn [0:min ĳ ĳ]=ĳ:=by simp[Űn]
 rw[c];refine nM ⟨a,w,rfl⟩ l b i f ?_ ĳ 0 Å Å;exact ĝ h
section
variable{X:Cx}{e o k v:Ñ}{f fo fk fv:FE}{x:Str}{xp p ěa ßa:Pos}
def z8f:Dv X "tuple.index" (λx vs H Q=>∃(a:É) (us:Á V) (y:V) (j:Nat) (u:V),x=.ref a/\vs=[y]/\xF X.K H a us/\jF y=Ã/\us.all jF=Ã/\us[j]?=À u/\qm u y=Ã/\(∀i z,i<j->us[i]?=À z->qm z y=Â)/\Q (.int (j:Int)) H):=by
 intro Z s σ H x Y v P Q I S N h;obtain⟨a,us,y,j,u,rfl,rfl,J,L,p,B,k,O,q⟩:=h;cases S;obtain⟨w,rfl,R⟩:=tQ N;obtain⟨b,r,A,hz⟩:=Ýa J;have o:=Ûa;have W:j<Ţ:=(Ŗ B).1
 have c:∀(i:Nat)(z:V)(l:i<Ľb),us[i]?=À z->tj y Ēb[i]=qm z y:=λi z l E=>by
  obtain⟨t,C,U⟩:=Ĩb E
  have e:Ēb[i]=t:=by have G:b[i]?=À b[i]:=Ģ (by rw[ģ]at l;exact l);rw[G]at C;simpa using C
  rw[e];exact E7 U (Ĵb p z (Ľc E))
 have f:j<Ľb:=by rw[ģ,<-o];exact W
 refine êd Ĭn A.typeIs PySem.F.entry_tuple_index (PySem.F.args_tuple_index_2 _ _) (x4i a Ēb w (tj y) j f (by rw[c j u f B];exact k) λm g n=>?_) ⟨A,λt T=>?_,⟨.int j,H,Ña _,⟨_,rfl⟩,q⟩⟩;have d:m<Ţ:=by rw[ģ,<-o]at g;exact g
 rw[c m us[m] g Ľh];exact O m _ n Ľh;exact Uv R L r p t (by simpa using T)
def Dz(K:Í)(A:É):Prop:=∃o,Ź A=À o/\ĩb=.type Ŧ/\ŉf=Ä
def JM(ds:Á D)(y:D):Æ D:=z2j àe y
def y8t(h:wp ð x Ėc)(r:∀H,zZ X.K H éh Ėc)(C:Dz X.K A)(J:Gl X x)(U:SE X e f)(Y:Ê Ļ q10)(l:Ê (Ķb Ķa "index" Ô Ĵj=č Ķa Ô) q12)(k:Ê ìc q12)(p:Ê ļa q12) :SE X (Κd (.Attribute Ķa "index" ěa)) (e1 (JM ds) f):=by
 obtain⟨te,pe,L⟩:=(zB U zK p).h;refine⟨⟨_,(KJ PySem.F.plainAttrs_tuple Ĭn PySem.F.type_tuple_index z8f (y65 h J Y) ⟨pe⟩ l k (by rw[Àa,p];rfl) Ŏi).h,λ{G0 H0 G H τ σ d Q} E b q=>?_⟩⟩;obtain⟨y,I,b⟩:=zJ b;refine⟨.inr (.inl ⟨rfl,C⟩),L E (ds:=[y]) (by unfold zA;rw[I];rfl) λws G2 H2 s N=>?_⟩;obtain⟨w,rfl,g⟩:=jS N;obtain⟨a,B,ea,O,m,_⟩:=r G2;cases ea
 change (match xJ y&&ęe xJ with|Ã=>(Jk y ds 0).bind λn=>À (þ n)|Â=>Ä)=À d at b
 cases c:(xJ y&&ęe xJ)with
 |Â=>rw[c]at b;cases b|Ã=>
  rw[c]at b;obtain⟨n,T,b⟩:=zJ b;cases b;rw[ĉ]at c;obtain⟨j,z,e1,e2,e3,R⟩:=eN T;rw[Ő]at e1;subst e1;obtain⟨u,W,P⟩:=m.get e2;have t:∀{i:Nat}{z:D},ds[i]?=À z->xJ z=Ã:=λ{i z} o=>Ĵb c.2 z (Ľc o)
  refine⟨A,B,w,n,u,rfl,rfl,uD s.gh O,VA c.1 g,(Mh c.1 g m c.2).1,W,by rw[IN (t e2) c.1 P g];exact e3,λi z S o=>?_,q _ _ _ s rfl⟩;obtain⟨Z,v,rd⟩:=m.at o;rw[IN (t v) c.1 rd g];exact R i Z S v
def y8s(P:ēb+1<Òa)(K:SE X o fo)(hk:SE X k fk)(hv:SE X v fv)(m:M2 X o "get" ěa k v ßa):SE X (.Call ħn [k,v] [] ßa) (Cw fo fk fv):=by
 obtain⟨to,T,F⟩:=K.h;obtain⟨tk,I,U⟩:=hk.h;obtain⟨tv,R,N⟩:=Ńd;refine⟨⟨_,y4g P T I R m,λ{G0 H0 G H τ σ d Q} E b q=>?_⟩⟩;obtain⟨x,S,b⟩:=zJ b;refine F E S λw G1 H1 f Y=>?_
 cases x with
 |dic ks ds=>
  obtain⟨y,J,b⟩:=zJ b;obtain⟨z,W,b⟩:=zJ b;obtain⟨e,i,b⟩:=zJ b;cases b;obtain⟨a,O,rfl,t,l,B,_⟩:=Y;refine⟨a,rfl,.inl ⟨_,Ųc f.gh t⟩,U ăl J λu G2 H2 j L=>N ((ăl).go j) W λZ G3 H3 n C=>?_⟩;refine⟨qc (Ŋf O) e,.inl ⟨_,e,Ųc (f.gh.trans (j.h.trans n.h)) t,Y0 i L,rfl⟩,?_⟩;rw[VP e l];have r:=ņl (j.g.trans n.g);cases c:Ă ks ds e with
  |Ä=>rw[c]at q;rw[dR (by rw[B.length]) c];exact q _ _ _ Áo C|À d'=>rw[c]at q;obtain⟨z',s,p⟩:=r.getK c;rw[s];exact q _ _ _ Áo p
 |_=>cases b
noncomputable def tG(i:Int):Nat:=Ŕe i
def EF:D->D->Æ D:=fI (λi j=>decide (tG i+tG j<=134217728)) (·*·)
def y3u:yk X ŝg Ĭm:=Uz λi j _ _ _ _ _ a q=>mul_int q (by unfold IntMulOk;intro h;rw[ĉ]at h;have b:decide (((Ŕe i+Ŕe j:Nat):Int)>(134217728:Nat))=Ã:=h.2;have d:=ŀ b;have c:Ŕe i+Ŕe j<=134217728:=a;omega)
def y2q{K:Í}:uk K Ĭm EF:=Wz λ_ _ h=>ŀ h
#print a
open úl
theorem o9:∀{ns:Á Int}{m:Int},m∈ns->tG m<=Žd ád
 | [],_,h=>by cases h|n::ns,m,h=>by
  have e:Žd ((Ĝl).map Įk)=tG n+1+Žd ád:=by show Žd (Įk n::Ōa Įk)=_;rw[Žd];rfl
  rw[e];rcases ľ h with rfl|h;omega;have:=o9 h;omega
def z79{ns:Á Int}(h:WData.layableAll [.list ád]=Ã):∀m∈ns,tG m<=1048576:=λm b=>by
 have a:Êq Òk=Ã:=Ĵb h _ (List.mem_singleton.mpr rfl);unfold Êq at a;rw[ĉ]at a;have d:ŗj Òk<=2 ^ 20:=ŀ a.2;have e:=o9 b;have c:ŗj Òk=Žd ád:=by rw[ŗj]
 omega
section
variable{K:Í}
def Ii(K:Í):Sp:=λb H Q _=>∃(a:É) (ns:Á Int),b=úa/\yf K H a Ġa/\Ùa<=63/\(∀m∈ns,tG m<=1048576)/\∀H',Q Ę H'
#print a
def walkB{l:Ĳk}{n k:Nat}{q:å}{i:Á Str}{XP:Þj->Heap->Prop}{N:ß->Heap->Prop}{d:DefRec}{K:ŕh->Í}{sp:Í->Sp}{x:Str}(hn:ıl=À n)(I:n<=á)(G:Ţo=[])(hr:yl k ĉe)(hY:∀(w:ß)(h:Heap),N w h->(Äc).In h)(F:∀(w:ß)(j:Str->Æ Value)(C:É)(h:Heap),(Äc).In h->ťa ė j->j d.name=À ő->
   ∃fd:ķ,(∀(s:Ë)(u:Value),áb s fd ⟨[u],[]⟩ [(x,u)])/\∀Ç:Heap,(Äc).In Ç->Ċe ė j->xH į w Äc j Ç xC k C fd [x] (sp Äc))
  (L:∀(K:Í)(H:Hp)(a:É)(ns:Á Int),Ùa<=n->(∀m∈ns,tG m<=1048576)->yf K H a Ġa->sp K úa H Ļo λ_ _ _=>ò) :
  W.WalkO q i XP N œj d [] Ġn:=by
 intro w s0 s1 j mb t Y C o pm cd doc dV kV ho hd S O J X P R as B A hrd E hlo;have e1:dV=.none:=Dflts.none O G;have e2:kV=.none:=Dflts.noKw O;subst e1 e2;obtain⟨a,vs,ns,rfl,rfl,y,e,c⟩:=Att.script_of hn B E;have Q:=hY w _ Y;obtain⟨fd,hb,hF⟩:=F w j C _ Q t.T.g J;have p:=z77 Q t.T.g t.T.b t.T.builtins t.T.nolimit X y e (Ğ c I) hr hF hb (λH _ hS=>L _ H a ns c (z79 A) hS) (λ_ _ _ z=>z);refine enter_call (ÿg p λr s' hq=>?_);obtain⟨rfl,Z,h3,h4⟩:=hq;refine⟨.inl ⟨.bool Ã,.bool Ã,[],rfl,λ_=>rfl,.bool Ã,Att.post_true l _,λ_=>?_⟩,Z,h3,h4⟩;exact⟨Ÿi,λ_ U=>nomatch U⟩
#print L3
namespace L3
open Ħ Ķ ī L2
def z2x{Ĝ:å}{w:ß}{A:ø}{E:Value->Ë->Prop}{s:Ë}{a:É}{o:Obj}{xs:Ø Value}{k:Nat}{Ľ:Str}{Q:Æ Value->Ë->Prop}(q:Ą a=À o)(r:ĩb=.type Ġ)(f:şa=.seq xs k)(p:ŉf=Ä)(i:äk Ĉa Ľ=pure Ä)(j:(["__module__",ák,"__qualname__","__doc__","__annotations__"]:Á Str).contains Ľ=Â)(t:Ìc=Ä)(h:∀h' tk,(∀b ob,Ą b=À ob->ġ b=À ob)->Q Ä { s with ç:=h',Ė:=tk })(hsz:name.length+100<=á) :Ù è A (getAttr? (.ref a) Ľ) Q E s:=by
 obtain⟨c,u,y,v⟩:=o;simp only at r f p;subst r f p;obtain⟨x,g,d,tk,z⟩:=s;have n:∀l,(⟨x,g,d,l,z⟩:Ë).TypeIs Ś Ġ:=λ_=>⟨_,q,rfl⟩
 have G:=sub_AttributeError;have H:=PySem.F.slot_list_getattribute.lookup;have K:=PySem.F.slot_list_getattribute.bind Ś;have I:=am_list_getattr_none;unfold getAttr? getAttrBy? getAttrBy
 repeat (any_goals (first|assumption|exact n _|((with_reducible show Ù _ _ (Çb (Value.builtin "list.__getattribute__") _ _) _ _ _);refine êd PySem.F.slot_list_getattribute (n _) am_entry_list_getattribute (F.args_list_getattribute_2 _ _) (meets_getattribute_miss_list a xs k v Ľ _ i j hsz) ⟨q,t,λh' l e m=>?_⟩)|wp_step))
 obtain⟨C,J,B⟩:=m.there;show Ù _ _ (Ĩo _ _ _ _ _ _ _) _ _ _;unfold Ĩo
 repeat (any_goals (first|assumption|wp_step))
 exact h _ _ m.keeps
def MV:plainId Ĥo=Ã:=by decide +kernel
def cf:entryFor table Ĥo=À Builtin.«dict.update.loop»:=entryFor_of_fast Ĩp
def _root_.PySem.Heap.DictOf.DC{Ĝ:å}{w:ß}{h h':Heap}{a:É}{kvs:Á Őa}(b:óe Ŵa a kvs)(k:∀o,ĥ a=À o->ġ a=À o):Íh Ŵa a kvs:=
 let ⟨o',es,ep,ho,r⟩:=b;⟨o',es,ep,k _ ho,r⟩
def x05(kvs:Á Őa)(k:zW)(v:Value):(źc kvs k v).length<=ĺ+1:=by
 unfold źc
 split;rw[ä];omega;rw[í];exact Øa _
def Dy(h:Heap)(v:Value)(k:zW)(x:Value):Prop:=∃b key,v=.ref b/\XC k key=Ã/\Īb h b #[key,x]
theorem nT{Ĝ:å}{w:ß}{A:ø}{R:Ĳd->Ë->Prop}{d it l:É}{its:Á Value}(hA:Ìc=Ä)(H:d≠l)(y:d≠it)(F:l≠it) :∀(kvs:Á Őa) (i:Nat) (acc:Á Őa) (s:Ë),s.heap.IsListIter it l i->Ãq l âa->i+ĺ=ŋb->(∀j kv,kvs[j]?=À kv->∃v,its[i+j]?=À v/\Dy Ý v kv.1 kv.2)->
   s.heap.DictOf Ŵa d acc->ìk+ĺ<=á->(∀h' tk,Íh Ŵa d (Ŷr (λa kv=>źc a kv.1 kv.2) acc)->(∀b o,b≠d->b≠it->Ą b=À o->ġ b=À o)->R (.ok Şq) { s with ç:=h',Ė:=tk })->
   Ù è Ų (Builtin.«dict.update.loop» ⟨[.ref d,.ref it,Ĺf i,.none],[]⟩) (λfin s'=>match fin with|.done f=>R (.ok f) s'|.again c'=>c'.quiet=Ã/\Ĝb è A c' R s') (λe s'=>R (.error e) s') s
 | [],i,acc,s,st,hl,hn,hp,hd,hz,h=>by unfold Builtin.«dict.update.loop»;refine Ò (Ůn (by exact hA) st hl (by simp at hn ⊢;omega) λh' eb=>?_);show Ù _ _ (Builtin.Dict.addKeywords d [] >>= _) _ _ _;refine Ò üs;exact h h' đ (hd.DC λo e=>eb d o y e) (λb o _ hb e=>eb b o hb e)|kv::kvs,i,acc,s,st,hl,hn,hp,hd,hz,h=>by
  obtain⟨v,hv,b,key,rfl,hk,ht⟩:=hp 0 kv rfl;unfold Builtin.«dict.update.loop»;refine Ò (Ŕn st hl (x:=.ref b) ţi λh1 P sb=>?_);have g:∀c o,c≠it->Ą c=À o->ól c=À o:=λc o L e=>(sb.2 c L).trans e
  have p:∀{c:É}{q:Ø Value},Īb Ý c q->c≠it:=λ{c q} t e=>by subst e;obtain⟨o,e1,W,_⟩:=t;obtain⟨o',e2,N,_⟩:=st;rw[e1]at e2;cases e2;rw[W]at N;exact Ú (Ńp N) È
  have G:∀{c:É}{q:Ø Value},Īb Ý c q->c≠d:=λ{c q} t e=>by subst e;obtain⟨o,e1,W,_⟩:=t;obtain⟨o',es,ep,e2,N,_⟩:=hd;rw[e1]at e2;cases e2;have c3:=N.1;rw[W]at c3;exact Ú (Ńp c3) È
  obtain⟨o,ho,L,n,C⟩:=ht;have I:=g b o (p ⟨o,ho,L,n,C⟩) ho;have X:h1.DictOf Ŵa d acc:=hd.DC λo e=>g d o y e
  refine Ò (ÿb (Ò (Ţd ?_)));unfold Builtin.Dict.pairItems;refine Ò (Ŭd (T := Ŧ) ⟨o,I,L⟩ ?_);rw[Ï Ôc];refine Ò (ĳb I C Ŋb);refine ÿb (wpAny_dictSet_pairs (knd:=xE Ĝ w) (k:=kv.1) hk X (λh2 S J=>?_) Å);refine ĝ ⟨ũd MV _,Šd cf ?_⟩;rw[ļe MV _];have m:∀c o,c≠d->c≠it->Ą c=À o->h2.get? c=À o:=λc o B u e=>(J.2 c B).trans (g c o u e)
  have E:∀{c:É}{q:Ø Value},Īb Ý c q->Īb h2 c q:=λ{c q} t=>by have a1:=G t;have a2:=p t;obtain⟨o,e1,r⟩:=t;exact⟨o,m c o a1 a2 e1,r⟩
  refine nT (its:=its) hA H y F kvs ê (źc acc kv.1 kv.2) _ ?_ ?_ (by rw[ĕ]at hn;omega) (λj Y e=>?_) S ?_ λh' tk Q kp=>?_;exact P.at λo e=>(J.2 it (λz=>y Ėe)).trans e;obtain⟨o,e,r⟩:=hl;exact⟨o,m l o (λz=>H Ėe) F e,r⟩;obtain⟨v',U,b',K,rfl,O,Z⟩:=hp Ŝ Y āb;exact⟨_,by rw[show i+1+j=i+Ŝ by omega];exact U,b',K,rfl,O,E Z⟩;have:=x05 acc kv.1 kv.2;rw[ĕ]at hz;omega;exact h h' tk Q λc o B u e=>kp c o B u (m c o B u e)
def z0t{Ĝ:å}{w:ß}{A:ø}{E:Value->Ë->Prop}{s:Ë}{l:É}{o:Obj}{its:Á Value}{n:Nat}{kvs:Á Őa}{Q:Value->Ë->Prop}(L:Ìc=Ä)(B:Ą l=À o)(x:ĩb=.type Ġ)(H:ŉf=Ä)(f:şa=.seq âa n)(U:ĺ=ŋb)(R:∀(j:Nat)(g:zW×Value),kvs[j]?=À g->∃v,its[j]?=À v/\Dy Ý v g.1 g.2)(hz:ĺ<=á)(h:∀h' tk,Íh Ŵa Û (Ŷr (λa g=>źc a g.1 g.2) [])->(∀b o,Ą b=À o->ġ b=À o)->Q ĉc { s with ç:=h',Ė:=tk }) :Ù è A (Çb ŝc [.ref l]) Q E s:=by
 refine callType_codes (Q₁:=λq N=>q=.ref Û/\N={ s with ç:=Ūa { cls:=.type Ż,Ć:=.dict #[] } }) F.kt_called_dict (F.kt_typeCall_dict_1 _) F.entry_dict_init (kt_code_dict_new _ ⟨rfl,rfl⟩) ?_;rintro q N ⟨rfl,rfl⟩;have d:(ķm).DictOf Ŵa Û []:=ăp Ý;refine⟨ěf,F.args_dict_init_2 _ _,?_⟩;unfold Builtin.«dict.__init__»;refine Ò ?_;unfold Builtin.Dict.selfAndRest;refine Ò (wpAny_notOrdered_dict ěf ?_);show Ù _ _ (pure (Û,[Ċ l])) _ _ _;refine ĝ ?_;show Ù _ _ (ňn "dict.__init__" Û Űc [] .none) _ _ _;unfold ňn;have u:=ħ B;have k:(ķm).get? l=À o:=Ī _ B;refine Ò (Ŭd (T := Ġ) ⟨o,k,x⟩ ?_);rw[Ï Ôc];refine Ò (z2x (o:=o) k x f H (am_miss_of_fast Ĩp) È ŋq (λp K m=>?_) È);rw[Ï Ôc];have t:p.DictOf Ŵa Û []:=d.DC λo e=>m _ _ e
 have y:p.get? l=À o:=m _ _ k;have z:p.IsList l âa:=⟨o,y,x,n,f⟩
 have c:Û<p.objs.size:=by obtain⟨G,_,_,e,_⟩:=t;exact ħ e
 show Ù _ _ (pure () >>= _) _ _ _;refine Ò Ēj;refine Śd (s:={ s with ç:=p,Ė:=K }) z ?_;refine ĝ ⟨ũd MV _,Šd cf ?_⟩;rw[ļe MV _];have J:∀b i,Ą b=À i->(p.push { cls:=.type õp,Ć:=.fields #[.ref l,.int 0 0] }).get? b=À i:=λb i e=>Ī _ (m b i áh)
 refine nT (l:=l) (its:=its) (A:=Ų) ŋq (vA (ŀb u)) (vA ďl) (vA (Ça (Ňg u c))) kvs 0 [] _ ⟨_,ū _ rfl,rfl,rfl⟩ ⟨o,J l o B,x,n,f⟩ (by rw[Ő];exact U) (λj g e=>?_) (t.push _) (by simpa using hz) λh' tk I W=>?_;obtain⟨v,S,b,C,rfl,P,G,e1,r⟩:=R j g e;exact⟨_,by rw[Ő];exact S,b,C,rfl,P,G,J b G e1,r⟩;refine⟨rfl,h h' tk I λb i e=>?_⟩;have O:=ħ e;exact W b i (vA (Ça O)) (vA (Ça (Ňg O c))) (J b i e)
section
variable{X:Cx}
theorem i7{i:Á é}{σ:St}{H:Hp}{s:Ë}(I:zI X i σ H s):∀{kvs:Á ż} {vs:Á V} {its:Á Value},zm vs its->ĺ=Ā->(∀(j:Nat)(kv:zW×V),kvs[j]?=À kv->∃b,vs[j]?=À (ĩc b)/\xF X.K H b čj)->
  ∃ws:Á Őa,KV kvs ws/\∀(j:Nat)(kw:zW×Value),ws[j]?=À kw->∃v,its[j]?=À v/\Dy Ý v kw.1 kw.2
 | [],_,_,_,_,_=>⟨[],.nil,λj kw e=>by cases e⟩|kv::kvs,[],_,_,h,_=>by cases h|kv::kvs,_::vs,_::its,.cons r t,h,hp=>by
  obtain⟨ws,m,l⟩:=i7 I t Āb λj c e=>by obtain⟨b,e1,q⟩:=hp Ŝ c āb;exact⟨b,by simpa using e1,q⟩
  obtain⟨b,e1,n⟩:=hp 0 kv rfl;cases e1;obtain⟨o,f,g,_⟩:=Ýa n;obtain⟨d,x,rfl,a,k⟩:=RU f;refine⟨(kv.1,x)::ws,.cons ⟨rfl,k⟩ m,λj kw e=>?_⟩;cases j with
  |ų=>cases e;exact⟨_,rfl,b,d,r,Z5 (P:=ó) (w:=X.w) a,g⟩|Ŵ j=>obtain⟨v,e2,q⟩:=l j kw āb;exact⟨v,by simpa using e2,q⟩
def y6c(K:Í):Á V->Hp->VK->Prop:=λc H Q=>∃a vs kvs,c=úa/\yf K H a vs/\ĺ=Ā/\(∀(j:Nat)(kv:zW×V),kvs[j]?=À kv->∃b,vs[j]?=À (.ref b)/\xF K H b čj)/\∀p,H p=Ä->Q Êa (γ (.dK (Y2 [] kvs)))
def z0s(c:Ž=Ã):vY X ŝc (y6c X.K):=by
 intro O s σ H J G Q I r h;obtain⟨a,L,b,rfl,y,k,v,q⟩:=h;obtain⟨u,rfl,z⟩:=tQ r;cases(show u=Ċ a from z);obtain⟨f,j,⟨o,n,w,x,g,d⟩,F⟩:=ž y;obtain⟨m,l,C⟩:=i7 I j k v;have e:Ėd=Ŀa:=by rw[<-ŕb,k,Ėa]
 refine z0t (Ùb c) w x g d e C (by rw[e,<-Ėa];exact F) λN E A B=>?_
 have i:(ěs).length<=á:=by have t:=ek b [];rw[Űe]at t;omega
 have p:Ĥr=Â:=by have:=I.big;rw[õo];exact vA Ġr
 exact⟨.ref Û,_,ġb (a:=Û) (o:=.dK ěs) (t':=E) B Ē (Cu i p (l.merge .nil) A),rfl,q _ ĸf⟩
#print a
def XD:Á D->Æ (Á Ĩ×Á D)
 | []=>À ([],[])|.tup [k,v]::r=>(uI k).bind λk=>(XD r).bind λp=>À (k::p.1,v::p.2)|_=>Ä
def wb{α:Type}:Á Ĩ->Á α->Á Ĩ->Á α->Á Ĩ×Á α
 |ks,ds,k::r,v::q=>wb Ĉf (w6 ks ds k v) r q|ks,ds,_,_=>(ks,ds)
def Y_:Á D->Æ D
 | [.lst xs]=>(XD xs).bind λp=>À (.dic ńo.1 ńo.2)|_=>Ä
theorem ic:∀{ks:Á zW}{us:Á V}{as:Á zW}{vs:Á V},ĭ=Ţ->īk=Ā->Y2 ùr śc=íd.1.zip íd.2/\íd.1.length=íd.2.length
 | [],[],as,vs,_,h=>⟨rfl,h⟩|k::ks,u::us,as,vs,h1,h2=>by have a:=ic (ks:=ks) (us:=us) (as:=wO as k) (vs:=w6 as vs k u) üg (T3 h2);refine⟨?_,a.2⟩;show Y2 (tM ùr k u) śc=_;rw[Ru h2];exact a.1
theorem ib{K:Í}{G:Hp}:∀{ks:Á zW}{es:Á D}{us:Á V}{as:Á zW}{ds:Á D}{vs:Á V},Þ K G es us->Þ K G ds vs->ĭ=Ţ->īk=Ā->Þ K G Ùj.2 íd.2/\Ùj.1=íd.1
 | [],es,us,as,ds,vs,r1,r2,h1,h2=>by
  have e1:wb as ds [] es=(as,ds):=by unfold wb;rfl
  have e2:wb as vs [] us=(as,vs):=by unfold wb;rfl
  rw[e1,e2];exact⟨r2,rfl⟩
 |k::ks,es,[],as,ds,vs,r1,r2,h1,h2=>by cases h1|k::ks,[],u::us,as,ds,vs,r1,r2,h1,h2=>by cases(show _=[]from r1)|k::ks,e::es,_::_,as,ds,vs,r1,r2,h1,h2=>by obtain⟨v,r,a,b,c⟩:=r1;cases a;exact ib (ks:=ks) (es:=es) (as:=wO as k) c (r2.put b) üg (T3 h2)
theorem iZ{α:Type}:∀{ks:Á zW}{es:Á α}{as:Á zW}{ds:Á α},īk=Đ->Ùj.2.length<=Đ+ſr
 | [],es,as,ds,_=>by
  have e:wb as ds [] es=(as,ds):=by unfold wb;rfl
  rw[e];exact Õa _ _
 |_::_,[],as,ds,_=>by
  have e:∀k ks,wb as ds (k::ks) ([]:Á α)=(as,ds):=λ_ _=>by unfold wb;rfl
  rw[e];exact Õa _ _
 |k::ks,e::es,as,ds,h=>by have a:=iZ (ks:=ks) (es:=es) (as:=wO as k) (ds:=w6 as ds k e) (T3 h);have:=KA (ks:=as) (vs:=ds) (k:=k) (v:=e) h;show(wb (wO as k) (w6 as ds k e) ks es).2.length<=_;rw[ĕ];omega
theorem eS{K:Í}{G:Hp}:∀{xs:Á D}{vs:Á V}{ks:Á zW}{ds:Á D},XD xs=À (ks,ds)->Þ K G xs vs->∃us,Þ K G ds us/\ĭ=Ţ/\ĭ=Ā/\∀(j:Nat)(kv:zW×V),śc[j]?=À kv->∃b,vs[j]?=À (ĩc b)/\xF K G b čj
 | [],_,_,_,h,r=>by cases h;cases(show _=[]from r);exact⟨[],rfl,rfl,rfl,λj kv e=>by cases e⟩|x::xs,_,ks,ds,h,r=>by
  obtain⟨v,E,rfl,s,t⟩:=r;unfold XD at h
  split at h;rename_i e;cases e;rename_i k y C e;cases e;obtain⟨n,g,h⟩:=zJ h;obtain⟨⟨l,u⟩,m,h⟩:=zJ h;cases h;obtain⟨us,w,f,q,p⟩:=eS m t;obtain⟨b,A,rfl,o,⟨B,_,rfl,a,⟨d,_,rfl,c,z⟩⟩,_⟩:=s;cases(show _=[]from z);refine⟨d::us,⟨d,us,rfl,c,w⟩,by rw[ĕ,ĕ,f],by rw[ĕ,ĕ,q],λj kv e=>?_⟩;cases j with
  |ų=>cases e;refine⟨b,rfl,?_⟩;rw[<-Y0 g a];exact o|Ŵ j=>obtain⟨i,e1,e2⟩:=p j kv āb;exact⟨i,by simpa using e1,e2⟩
  cases h
def Pi{X:Cx}{e:Ñ}{fs:FA}{p pos:Pos}(f:Ž=Ã)(B:Gl X Ż)(z:ð Ż=Ä)(hv:ť Ż=À ŝc)(A:SA X [e] fs)(y:Ê ļa q12):SF X Ąo (eL Y_ fs):=by
 obtain⟨t,L,k⟩:=A.h;refine⟨⟨_,(IL (z0s f) B z hv ⟨L⟩ È È (by rw[Àa,y];rfl)).h,λ{W U G H τ σ d Q} E c q=>?_⟩⟩;obtain⟨ds,O,c⟩:=zJ c;refine k E O λvs S N g R=>?_
 unfold Y_ at c
 split at c;rename_i T;obtain⟨⟨ks,es⟩,w,c⟩:=zJ c;cases c;obtain⟨v,rfl,a,n,rfl,F,s,l⟩:=jS R;obtain⟨us,u,i,r,J⟩:=eS w s;obtain⟨I,P⟩:=ic (ks:=ks) (us:=us) (as:=[]) (vs:=[]) i rfl;obtain⟨K,o⟩:=ib (ks:=ks) (as:=[]) (ds:=[]) (vs:=[]) u rfl i rfl;refine⟨a,n,Ŋf us,rfl,uO g.gh F,by rw[ūa,i,Űa,<-i,r],λj C e=>?_,λp m=>?_⟩;obtain⟨b,e1,e2⟩:=J j C e;exact⟨b,e1,uD g.gh e2⟩;refine q p _ _ (ġd (ìb g.gh m)) (g.h.free m) (žr m) ⟨äp.2,?_,?_,K,?_⟩;show zX N p (.dK (Y2 [] śc)) p=À (.dK (Új.1.zip äp.2));rw[ya,o];exact Ëa (λx=>À (HO.dK x)) I;show Új.1.length=_;rw[o];exact P;have:=iZ (ks:=ks) (es:=es) (as:=[]) (ds:=[]) rfl;have e1:ſr=ŷk:=by rw[<-űk,<-i,r]
 rw[ūc]at e1;show Új.2.length<=á;simp only[Űe,Ő]at this;omega;cases c
open Îa ýl Èr
section
variable{X:Cx}{e o a b c:Ñ}{f:FE}{x:Str}{xp p pos:Pos}
def LC:ť Ż=À ŝc:=by decide +kernel
def Ke(i:Nat)(k v:FE):FS:=λσ=>(v σ).bind λy=>match σ[i]? with
 |À (À (Ã,.lst ds))=>(Řl).bind λx=>match x with
  |.int j=>(Îk).bind λn=>À (οb Øs)|_=>Ä
 |_=>Ä
theorem āh{K:Í}{G:Hp}{d:D}{v:V}(hv:zZ K G d v):∀{ds:Á D}{vs:Á V}(n:Nat),Þ K G ds vs->Þ K G (ĩh n d) (vs.set n v)
 | [],_,_,r=>by cases(show _=[]from r);rfl|d'::ds,_,0,r=>by obtain⟨u,b,rfl,c,a⟩:=r;exact⟨v,b,rfl,hv,a⟩
 |d'::ds,_,n+1,r=>by obtain⟨u,b,rfl,c,a⟩:=r;exact⟨u,_,rfl,c,āh hv n a⟩
def x01(A:QE X Ķa Ģe)(hk:SE X k fk)(hv:SE X v fv)(t:Ê ćk q12)(m:Ê (ſp Âg v Óe Ô=pure Â) q12)(O:Ê (Àq Âg v Ô=pure Ä) q12)(o:Ê ((Ŧd Âg Ô).map (·.2)=[Ĥc ũn Ô]) q12):SS X ġo (Ke i fk fv):=by
 obtain⟨tk,p,R⟩:=hk.h;obtain⟨W,N,C⟩:=Ńd;refine⟨⟨_,K6 N (iz A ⟨p⟩ mT t).h m O o,λ{G0 Z G H τ σ U E} K a q=>?_⟩⟩;obtain⟨y,s,a⟩:=zJ a;refine C K s λw T Y P S=>?_
 split at a;rename_i ds e;obtain⟨L,Q,a⟩:=zJ a;cases L with
 |int j=>obtain⟨n,I,a⟩:=zJ a;cases a;have c:=àa P;obtain⟨r,f,g,z,F,J,d,l⟩:=c.ow _ _ e;refine⟨_,f,R c Q λu G2 H2 b B=>?_⟩;cases(show u=_ from B);refine⟨r,F,j,n,rfl,rfl,b.h _ _ J,by rw[åa];exact I,?_⟩;exact q _ _ _ ((c.go b).QK e f ⟨_,ya,āh (S.mono b.g) n (d.mono b.g),by rw[Ŋa];exact l⟩)
 |_=>cases a
 cases a
#print a
#print L3
namespace L2
open Ħ Ķ ī
def Dn(K:Í)(a:É):It:=
  ⟨λi H=>∃xs x,yf K H a xs/\xs[i]?=À x,
   λi H v b=>∃p,H p=Ä/\v=.ref p/\∀xs,yf K H a xs->∃x,xs[i]?=À x/\b=zX H p Âh,
   λi H=>∃xs,yf K H a xs/\à<=i⟩
def x4l{P:å}{w:ß}{K:Í}{m:Á Ñ}{kk:Nat}{pos:Pos}(a e it:É)(r:e≠it) :ga P w K (.Tuple m kk pos) Ûl [e,it] e (λi h=>(∃old,IsEnum h e it (i:Int) old)/\ŕj it a i) where
 mem:=by simp
 obj:=λi h st c b=>by obtain⟨⟨old,g⟩,⟨o2,j,_,d2⟩⟩:=st;simp only[Ůa,Ğa,Ża]at b;rcases b with rfl|rfl;exact⟨_,g,λv q=>nomatch q⟩;exact⟨_,j,λv q=>by rw[d2]at q;cases q⟩
 ıa:=λi h h' st k=>by obtain⟨⟨old,g⟩,j⟩:=st;exact⟨⟨old,k e ã _ g⟩,j.at λo x=>k it ã o x⟩
 öb:=by
  intro X hP hw hK b i z8 s σ H E I A st Q;subst hP hw hK;obtain⟨⟨old,g⟩,j⟩:=st;obtain⟨xs,x,C,ex⟩:=Q;obtain⟨G,S,O,_⟩:=ž C;have R:=O.isList;obtain⟨B,Y,N⟩:=S.get ex;have d:Ŝj[i]?=À B:=by rw[šd];exact Y
  have n:e<Û:=ħ g;have J:it<Û:=by obtain⟨o,z,_⟩:=j;exact ħ z
  refine wpAny_pyNext_enum_item g j R d r λL T t Z hz1 hk1=>?_
  refine⟨_,rfl,wpAny_letOwnedTupleGo_enum (s:={ s with ç:=L,Ė:=đ+1 }) T λy he2 f=>?_⟩
  replace f:ńb e L y:=f
  have U:Ą Û=Ä:=by
   cases q:Ą Û with
   |Ä=>rfl|À o=>exact Ú ľf Ôa
  have p:H Û=Ä:=źb Ē;have tup:y.get? Û=À { cls:=.type Ŧ,Ć:=.seq #[.int i đ,B] }:=ęf _ _ (ŀb n) Z
  have kk:∀c o,c ∉ [e,it]->Ą c=À o->y.get? c=À o:=λc o b z=>by simp only[Ůa,Ğa,Ża,ŏh]at b;exact ęf _ _ b.1 (hk1 c o b.1 b.2 z)
  have F:xT ó X.w (zX H Û Âh) y Û Âh:=⟨Ĵi,[.int i đ,B],.cons ⟨_,rfl⟩ (.cons N .nil),⟨_,tup,rfl,_,rfl⟩⟩;refine⟨.ref Û,zX H Û Âh,I.DB (tk:=đ+1) A kk U p F,rfl,⟨Û,p,rfl,λxs' d=>?_⟩,⟨⟨B,?_⟩,t.at λo z=>ęf _ _ r.symm z⟩,λc b=>?_⟩;rw[I.Of d C];exact⟨x,ex,rfl⟩;rw[show((i+1:Nat):Int)=(i:Int)+1 from rfl];exact he2;rw[yB];exact(A c b).1;intro q
  have u:c<Û:=by simp only[Ůa,Ğa,Ża]at b;rcases b with rfl|rfl;exact n;exact J
  rw[q]at u;exact Ú u Ôa
 done:=by
  intro X hP hw hK b i z8 s σ H E I A st Q;subst hP hw hK;obtain⟨⟨old,g⟩,j⟩:=st;obtain⟨xs,C,hend⟩:=Q;obtain⟨G,S,O,_⟩:=ž C;have R:=O.isList
  have d:Ŝj[i]?=Ä:=by rw[šd];exact Űb (by have:=S.length;omega)
  refine wpAny_pyNext_enum_end (by exact Ùb b) g j R d λL he1=>?_
  refine⟨rfl,I.but (tk:=đ) A λc ob l eb=>?_⟩;simp only[Ůa,Ğa,Ża,ŏh]at l;exact he1 c ob l.2 eb
 çc:=λ_ _ _ _ _ st h=>by obtain⟨⟨old,g⟩,_⟩:=st;exact Şo g h
section
variable{X:Cx}
def z5l(K:Í)(d:TA):TI:=λσ H R=>d σ H λc b=>∃a xs,c=úa/\yf K b a xs/\R Ûl b
def y54{a:Ñ}{r:TA}{p pos:Pos}{b:Á Ñ}{J:Nat}{t:Pos}(A:Gl X ýc)(x:ð ýc=Ä)(z:PA X [a] r)(v:Ê ăi q12) :PI X (.Tuple b J t) āo (z5l X.K r):=by
 intro l s σ H R I h;refine Call_ (Wv I A x boot_enumerate (Çg (zn (z pos l s σ H _ I h) λw d ⟨P,k,f,N,L⟩=>?_) (by rw[v];rfl) rfl));obtain⟨o,O,rfl,F,q⟩:=L;obtain⟨u,rfl,C⟩:=tQ N;cases(show u=Ċ o from C);obtain⟨w,_,y,_⟩:=f.list F;refine call_enumerate_list y.isList λj g m G E=>?_
 have B:zI X l σ k { d with ç:=j }:=ĵl (t':=d.toks) E;refine Şo (s:={ d with ç:=j }) g ?_;generalize hn:Ôp=n at g m G;refine⟨n+1,[n+1,n],_,_,k,rfl,B,x4l o ļ n (vA Å),⟨⟨_,g⟩,m⟩,λc i=>?_,q⟩
 have e:Ôp<=c:=by rw[hn];simp only[Ůa,Ğa,Ża]at i;rcases i with rfl|rfl;exact Õa _ _;exact Øa _
 exact f.Ze e (ék e)
#print a
#print L2
namespace L3
open Ħ Ķ ī L2
noncomputable def tm(xs:Á D):Á D:=ľb (λ(i:Nat) x=>æc õi) (Ēa à) xs
def gw(a:FE):FA:=λσ=>(òa).bind λd=>match d with
 |.lst xs=>À Łh|_=>Ä
def XN(xs:Á D):(Łh).length=à:=by simp[tm]
theorem Jz(xs:Á D)(i:Nat):Łh[i]?=(xs[i]?).map λx=>æc õi:=by unfold tm;rw[ég];by_cases h:i<à;rw[Şi h,Ģ h];rfl;rw[Űb Āb,Űb Å];rfl
section
variable{K:Í}{G H:Hp}
def z2f(f:yf K G a vs)(g:Þ K G xs vs):jn K Ûl G Łh where
 go:=λi e H c b d=>by rw[XN]at d;obtain⟨v,e1,_⟩:=Žh Ľh;exact⟨vs,v,uO Ġc f,e1⟩
 uh:=λi e H x q c b d y=>by obtain⟨p,h,rfl,k⟩:=y;obtain⟨v,e1,rfl⟩:=k vs (uO Ġc f);obtain⟨l,j,m⟩:=g.at e1;refine⟨zX e p őr,.tup [.int (i:Int),l],Ûc b h,by rw[Jz,j];rfl,?_⟩;have o:zw G (zX e p őr):=ňb (vj (b.free h) _);exact⟨p,æn,rfl,īc ya,⟨_,_,rfl,rfl,⟨v,_,rfl,m.mono o,rfl⟩⟩,Ŧb (n:=2) È⟩
 ţ:=λi e H c b d=>by rw[XN]at d;exact⟨vs,uO Ġc f,by rw[Ēc];exact d⟩
#print a
def Pm(o:Gl X ýc)(i:ð ýc=Ä)(n:SE X a fa)(d:Ê ãe q12):SI X ğo āo (gw fa):=by
 obtain⟨t,l,k⟩:=(zB n zK d).h;refine⟨⟨_,y54 o i l ől,λ{F E G H τ σ ds R} K b q=>?_⟩⟩;obtain⟨x,u,b⟩:=zJ b;cases x<;>first|(cases b;done)|skip
 cases b;rename_i s;refine k K (ds:=[.lst s]) (by unfold zA;rw[u];rfl) λA B C f z=>?_
 obtain⟨v,r,rfl,g,m⟩:=z;cases(show r=[]from m);obtain⟨j,c,rfl,e,y,w⟩:=g;exact⟨j,c,rfl,uO f.gh e,q _ _ _ f (by rw[XN];exact w) (z2f e y)⟩
#print L3
namespace L2
open Ħ Ķ Îa ī
noncomputable def Wt(a:Int):Á Int->Á Int
 | []=>[a]|b::r=>if a<=b then a::b::r else b::Wt a r
def Īc:Á Int->Á Int
 | []=>[]|a::r=>Wt a (Īc r)
theorem Gf(a:Int):∀l:Á Int,(Wt a l).Perm (a::l)
 | []=>Œe _|b::r=>by
  unfold Wt
  split;exact Œe _;exact((Gf a r).cons b).trans (List.Perm.swap a b r)
theorem şc:∀l:Á Int,(Īc l).Perm l
 | []=>Œe _|a::r=>(Gf a _).trans ((şc r).cons a)
theorem e9(a:Int):∀{l:Á Int},l.Pairwise (·<=·)->(Wt a l).Pairwise (·<=·)
 | [],_=>by simp[Wt]|b::r,h=>by
  obtain⟨e,f⟩:=Ōe h;unfold Wt
  split;rename_i c
  exact řn ⟨λx d=>by rcases ľ d with rfl|d;exact c;exact Ìe c (e x d),h⟩;rename_i c;refine řn ⟨λx d=>?_,e9 a f⟩;rcases ľ ((Gf a r).mem_iff.mp d)with rfl|d;omega;exact e x d
theorem Gj:∀l:Á Int,(Īc l).Pairwise (·<=·)
 | []=>Ÿi|a::r=>e9 a (Gj r)
theorem Pp:∀{a b:Á Int},a.Perm b->a.Pairwise (·<=·)->Ĕr (·<=·)->a=b
 | [],b,p,_,_=>(List.nil_perm.mp p).symm|x::a,[],p,_,_=>by cases p.length_eq|x::a,y::b,p,ha,hb=>by
  obtain⟨i,g⟩:=Ōe ha;obtain⟨h,f⟩:=Ōe hb
  have e:x=y:=by have c:x∈y::b:=p.mem_iff.mp ůc;have d:y∈x::a:=p.mem_iff.mpr ůc;rcases ľ c with rfl|c;rfl;rcases ľ d with e|d;exact ŋf;exact Int.le_antisymm (i y d) (h x c)
  subst e;rw[Pp (List.perm_cons x |>.mp p) g f]
theorem nY:∀{ns:Á Int}{its:Á Value},zm Ġa its->Ýc its ns
 | [],_,.nil=>.nil|n::ns,_,.cons r rr=>by obtain⟨t,rfl⟩:=r;exact .cons _ _ (nY rr)
theorem Gg:∀{ns:Á Int}{its:Á Value},Ýc its ns->zm Ġa its
 | [],_,.nil=>.nil|_::_,_,.cons _ _ r=>.cons ⟨_,rfl⟩ (Gg r)
section
variable{X:Cx}
def z13:vY X Ĳg (λxs H Q=>∃p ns,xs=Đd/\yf X.K H p Ġa/\Ùa<64/\∀l,H l=Ä->Q Űc Ĭq):=by
 intro A s σ H xs z Q I r h;obtain⟨p,ns,rfl,t,k,q⟩:=h;obtain⟨u,rfl,y⟩:=tQ r;cases y;obtain⟨d,i,n,j⟩:=ž t;have b:=Úb;rw[ä]at b;refine sorted_ints n.isList (nY i) Å λa g m x v=>?_
 have e:g=Īc ns:=Pp (će (şc ns).symm) v (Gj ns);subst e;obtain⟨c,o⟩:=sortedAll_at Ý d a;have f:(Īc ns).length=Ùa:=(şc ns).length_eq;refine⟨.ref īa,_,ġb (t':=đ) (h':=sortedAll Ý d a) (λ_ _=>sortedAll_old) (Īg _) (show xT ó X.w _ _ _ êm from⟨?_,þh,c,Gg m,?_⟩),rfl,q _ áq⟩;rw[ä,f];show _<=á;rw[ä]at j;exact j;rw[Òo];exact o
#print a
#print L2
namespace L3
open Ħ Ķ ī L2
def cB:ť Èc=À Ĳg:=by decide +kernel
noncomputable def äb:Á D->Æ âh
 | []=>À []|.int i::r=>(Ćl).bind λa=>À řl|_=>Ä
theorem eE:∀ns:Á Int,äb Ņb=À ns
 | []=>rfl|n::ns=>by show(äb Ņb).bind _=_;rw[eE ns];rfl
theorem eD:∀{ds:Á D}{ns:Á Int},äb ds=À ns->ds=Ōa þ
 | [],_,h=>by cases h;rfl|d::ds,ns,h=>by
  unfold äb at h
  split at h;rename_i e;cases e;rename_i i r e;cases e;obtain⟨a,b,h⟩:=zJ h;cases h;rw[eD b];rfl;cases h
theorem lS{K:Í}{G:Hp}:∀{ns:Á Int}{vs:Á V},Þ K G Ņb vs->vs=Ōa Ľd
 | [],_,r=>r|n::ns,_,r=>by obtain⟨v,c,rfl,a,b⟩:=r;rw[lS b,show v=Ľd n from a];rfl
theorem eA{K:Í}{G:Hp}:∀ns:Á Int,Þ K G Ņb Ġa
 | []=>rfl|n::ns=>⟨.int n,_,rfl,rfl,eA ns⟩
def EJ:Á D->Æ D
 | [.lst xs]=>(äb xs).bind λa=>if ŗb<64 then À Ćo else Ä|_=>Ä
def y9a(x:Gl X Èc)(r:ð Èc=Ä)(w:SA X [e] fs)(n:Ê ļa q12):SF X ăo (eL EJ fs):=by
 obtain⟨t,s,k⟩:=w.h;refine⟨⟨_,(Mb z13 x r cB ⟨s⟩ È È ąg).h,λ{J I G H τ σ d Q} E b q=>?_⟩⟩;obtain⟨y,u,b⟩:=zJ b;refine k E u λA B F c z=>?_
 match y,b with
 | [.lst xs],b=>
  obtain⟨m,o,b⟩:=zJ (show(äb xs).bind _=À d from b)
  split at b;rename_i f;cases b;obtain⟨v,rfl,a,C,rfl,j,i,l⟩:=jS z;rw[eD o]at i l;rw[lS i]at j;refine⟨a,m,rfl,uO Ìd j,f,λp g=>q p _ _ (ňb (ìb Ìd g)) (üh g) (Ðh g) ⟨_,ya,eA _,?_⟩⟩;rw[ä,(şc m).length_eq];rw[ä]at l;exact l;cases b
noncomputable def jw:Æ Sl->Æ Sl
 |À (_,d)=>À (Â,d)|Ä=>Ä
def Ld(τ:zu):zu:=τ.map jw
def BB(f:FT):FT:=λτ=>f (Ld τ)
def x1a(τ:zu)(k:Nat)(h:k<τ.length):(źf).set k (jw τ[k])=((τ.take Ņ).map jw)++τ.drop Ņ:=by
 have e:τ.drop k=τ[k]::τ.drop Ņ:=Ůb h;have l:(ïo).length=k:=by rw[ä,ìa];omega
 rw[e,èg _ _ Å,l,ÿc,ũi,Ōd h,ğa,ŗ];rfl
section
variable{K:Í}{n:Nat}{G0 H0 G H G':Hp}{τ:zu}{σ:St}
def WK(G G':Hp):Prop:=∀p,G p=Ä->G' p≠Ä->∃u,G' p=À u/\(∀xs,u≠.tup xs)/\∀o v,u≠.yJ o v
def y41(o:vN K G H d p):∃u,H p=À u/\(∀xs,u≠.tup xs)/\∀o v,u≠.yJ o v:=by
 cases d with
 |lst ds=>obtain⟨a,e,_⟩:=o;exact⟨_,e,Ûo,źn⟩
 |dic ks ds=>obtain⟨a,e,_⟩:=o;exact⟨_,e,Ûo,źn⟩
 |_=>exact Ĭd
def zp.rZ(E:zp K n G0 H0 G H τ σ)(hi:τ[i]?=À Ùe):∃G',zp K n G0 H0 G' H ēj σ/\zw G G'/\WK G G':=by
 cases b with
 |Â=>
  refine⟨G,?_,řa _,λp a m=>Ú a m⟩
  have e:τ.set i śd=τ:=by apply Ŷd;intro j;by_cases hj:j=i;subst hj;rw[X7 (by rw[ŏ];exact E.lt hi),hi];rw[qp hj]
  rw[e];exact E
 |Ã=>
  have F:=E.lt hi;obtain⟨p,e,g,z,o⟩:=ŧa i d hi;obtain⟨Q,l,R⟩:=y41 o;obtain⟨u,C,r⟩:=o.yJ g;have N:u=Q:=by rw[C]at l;exact ĸa l
  subst N;have x:zT G0 H0 Āk H:=E.ext.yJ z g C;refine⟨zX G p u,⟨x,Ş,by rw[Ŋa];exact ŏ,λj t h=>?_,λj t h=>?_,λj k e1 f q B a m=>?_⟩,vj g _,λq a m=>?_⟩;rcases u3 h with⟨rfl,w⟩|⟨A,w⟩;cases w;exact⟨_,e,r⟩;obtain⟨v,s,P⟩:=Įb j t w;exact⟨v,s,P.mono ýe⟩;rcases u3 h with⟨rfl,w⟩|⟨A,w⟩;cases w;obtain⟨q,s,J,O,I⟩:=ŧa j t w;refine⟨q,s,?_,O,Řh ýe ķh⟩;rw[yB äh];exact J;subst c;exact úb i j d t q (λc=>A Ĭh) hi w e s;rcases u3 a with⟨rfl,w⟩|⟨A,w⟩;cases w;rcases u3 m with⟨rfl,y⟩|⟨L,y⟩;cases y;exact úb j k e1 f q B w y;rcases RI m with c|c;subst c;exact⟨u,ya,R⟩;exact Ú a c
def WK.trans(c:zw G1 G2)(a:WK G G1)(b:WK G1 G2):WK G G2:=λp g d=>by
 cases e:G1 p with
 |Ä=>exact b p e d|À u=>obtain⟨h,i,f⟩:=a p g žf;exact⟨h,c _ _ i,f⟩
theorem zp.A6(E:zp K n G0 H0 G H τ σ):∀k,k<=n->∃G',zp K n G0 H0 G' H źf σ/\zw G G'/\WK G G'
 |0,_=>⟨G,by rw[ćj];exact E,řa _,λp m q=>Ú m q⟩|k+1,hk=>by
  obtain⟨l,f,h,i⟩:=zp.A6 E k Å;have a:k<τ.length:=by rw[ŏ];omega
  have e:=x1a τ k a
  have c:źf[k]?=À τ[k]:=by rw[ŭb (by rw[ä,ìa];omega),ä,ìa,Îb Å,ÿc,List.getElem?_drop,ėq,Ģ a]
  cases t:τ[k]with
  |Ä=>
   refine⟨l,?_,h,i⟩;rw[<-e,t]
   have e2:(źf).set k (jw Ä)=ïo++τ.drop k:=by apply Ŷd;intro j;by_cases hj:j=k;subst hj;rw[X7 (by rw[f.l2];omega),c,t];rfl;rw[qp hj]
   rw[e2];exact f
  |À s=>obtain⟨b,d⟩:=s;rw[t]at c;obtain⟨u,o,g,r⟩:=f.rZ c;refine⟨u,?_,Ķf g,òl g r⟩;rw[<-e,t];exact o
def zp.rY(E:zp K n G0 H0 G H τ σ):∃G',zp K n G0 H0 G' H (Ld τ) σ/\zw G G'/\WK G G':=by
 obtain⟨G',a,s,l⟩:=E.A6 n Ē;refine⟨G',?_,s,l⟩;have e:τ.take n=τ:=by rw[<-ŏ];exact ëd
 have e2:τ.drop n=[]:=by rw[<-ŏ];exact Úp
 rw[e,e2,ſ]at a;exact a
noncomputable def đa(G G' a:Hp):Hp:=λp=>if G p=Ä/\G' p≠Ä then Ä else a p
theorem zT.back(s:zw G G')(d:zw G' H)(x:zT G' H G1 H1):zT G H (đa G G' G1) H1:=by refine⟨λb u e=>?_,x.h,λb u e=>?_,λp h=>?_⟩;show æi=À u;rw[Ð (λc=>by rw[c.1]at e;cases e)];exact x.g _ _ (s _ _ e);by_cases c:G b=Ä/\G' b≠Ä;have a:æi=À u:=e;rw[Ï c]at a;cases a;have a:æi=À u:=e;rw[Ð c]at a;exact Åb _ _ a;by_cases c:G p=Ä/\G' p≠Ä;have a:Ġm≠Ä:=h;rw[Ï c]at a;exact Ú rfl a;have a:Ġm≠Ä:=h;rw[Ð c]at a;rcases Âd p a with z|z;by_cases g:G p=Ä;exact Ú ⟨g,z⟩ c;exact .inl g;exact .inr z
#print a
section
variable{X:Cx}{e:Ñ}{ft:FT}
def x03(h:ST X e ft):ST X e (BB ft):=by obtain⟨t,p,k⟩:=h.h;refine⟨⟨t,p,λ{m j G H τ σ d Q} E c q=>?_⟩⟩;obtain⟨g,a,s,l⟩:=E.rY;exact k a c λf i b=>q _ _ (zT.back s a.ext.gh b)
#print a
noncomputable def qX(i:Nat)(e:FE):FS:=λσ=>match σ[i]? with
 |À (À (Ã,.lst xs))=>(Ĺd).bind λy=>match y with
  |.lst ys=>if à+ãa<=yZ then À (οb Çl)else Ä|_=>Ä
 |_=>Ä
noncomputable def LX:D->D->Æ D
 |.lst x,.int k=>if 0<=k/\k<=1000000/\Ūc*Ũ<=yZ then À (.lst (ŵ Ũ x).flatten)else Ä|_,_=>Ä
def z2n(h:LX x y=À d):∃xs k,x=.lst xs/\y=.int k/\(0<=k/\k<=1000000/\à*Ũ<=yZ)/\d=.lst (ģq).flatten:=by
 unfold LX at h
 split at h;rename_i xs k;by_cases c:0<=k/\k<=1000000/\à*Ũ<=yZ;rw[Ï c]at h;cases h;exact⟨_,_,rfl,rfl,c,rfl⟩;rw[Ð c]at h;cases h;cases h
theorem žk{K:Í}{G:Hp}{ds:Á D}{vs:Á V}(r:Þ K G ds vs):∀k:Nat,Þ K G (ŵ k ds).flatten (ŵ k vs).flatten
 |0=>rfl|k+1=>by rw[Ŀc,ŵd,Ŀc,ŵd];exact ĕd (žk r k)
section
variable{X:Cx}{a b:Ñ}{f fa fb:FE}{x:Str}{xp pos ěa ßa:Pos}{e:Ñ}
def y78(j:SF X e f)(g:Ê ļa q12):∃t,PA X [e] t/\∀{G0 H0 G H:Hp}{τ:zu}{σ:St}{d:D}{Q:Á V->Hp->Prop},zp X.K ú G0 H0 G H τ σ->f τ=À d->(∀p G' H',zT G H G' H'->H p=Ä->G' p=Ä->vN X.K G' H' d p->Q Đd H')->t σ H Q:=by obtain⟨t,p,k⟩:=j.h;refine⟨_,XR p V5 g,λE i q=>k E i λp b m c l a o=>?_⟩;exact q p b m c l a o
def R0(L:QE X Ķa Ģe)(N:SF X e f)(d:Ê (Ķb Ķa "extend" Ô Ĵj=č Ķa Ô) q12)(b:Ê ìc q12)(n:Ê ļa q12) :SS X (Θe (.Attribute Ķa "extend" ěa)) (qX i f):=by
 obtain⟨t,p,k⟩:=y78 N n;refine⟨⟨_,(l5 (KJ Łn PySem.F.slot_list_extend PySem.F.type_list_extend z8e L ⟨p⟩ d b ąg Ŏi) rfl).h,λ{U T G H τ σ J E} K a q=>?_⟩⟩;unfold qX at a
 split at a;rename_i j w;obtain⟨y,I,a⟩:=zJ a;cases y with
 |lst ys=>
  change żl=À J at a
  by_cases c:Ėa+ãa<=yZ;rw[Ï c]at a;cases a;obtain⟨C,A,g,z,s,v,u,l⟩:=K.ow _ _ w;refine⟨_,A,.inl ⟨rfl,s,åc v⟩,k K I λp P S m Q R o=>?_⟩;obtain⟨B,O,r,_⟩:=o;refine⟨C,p,s,B,rfl,rfl,m.h _ _ v,O,by rw[űk,Ûa,Ř];exact c,?_⟩;refine q _ _ _ ((àa m).QK w A ⟨_,ya,(u.mono m.g).append r,?_⟩);rw[Ř,í];exact c;rw[Ð c]at a;cases a
 |_=>cases a
 cases a
def y97(s:SF X a fa)(I:SE X b fb):SF X (.BinOp a .Mult b pos) (e2 LX fa fb):=by
 obtain⟨S,v,w⟩:=s.h;obtain⟨R,n,A⟩:=I.h;refine⟨⟨_,iF y3z v n,λ{W P G H τ σ d Q} E i q=>?_⟩⟩;obtain⟨x,F,i⟩:=zJ i;obtain⟨y,r,i⟩:=zJ i;refine w E F λp J O l K N o=>?_
 refine A (Ťa l) r λu U T j t=>?_
 obtain⟨L,k,rfl,rfl,c,rfl⟩:=z2n i;obtain⟨z,C,m,_⟩:=o;cases(show u=.int k from t);have e:=l.trans j;refine⟨p,k,z,rfl,rfl,j.h _ _ C,by omega,by omega,by rw[Ėd,Ř];exact c.2.2,λB f=>?_⟩;refine q B _ _ (Ŵc (ìb ńd f)) (e.h.free f) (ĸg f) ⟨_,ya,žk (m.mono j.g) _,?_⟩;rw[Ř,eh,ĕq];exact c.2.2
#print a
noncomputable def z9a(τ:zu):Ì:=τ.all λs=>match s with
 |À (Ã,_)=>Â|_=>Ã
noncomputable def JA:Á D->Æ (Á Ì)
 | []=>À []|.bl b::r=>(JA r).bind λa=>À (b::a)|_=>Ä
theorem c7:∀{ds:Á D}{bs:Á Ì},JA ds=À bs->ds=œh İc
 | [],_,h=>by cases h;rfl|d::ds,bs,h=>by
  unfold JA at h
  split at h;rename_i e;cases e;rename_i b r e;cases e;obtain⟨a,c,h⟩:=zJ h;cases h;rw[c7 c];rfl;cases h
theorem lU{K:Í}{G:Hp}:∀{bs:Á Ì}{vs:Á V},Þ K G (œh İc) vs->vs=œh V.bl
 | [],_,r=>r|b::bs,_,r=>by obtain⟨v,d,rfl,a,c⟩:=r;rw[lU c,show v=V.bl b from a];rfl
def E9:Á D->Æ D
 | [.lst xs]=>(JA xs).bind λa=>À (.bl (ſh id))|_=>Ä
def y17{K:Í}:WO K (l8 K) E9:=λG H f i d Q s r b q=>by
 match f,b with
 | [.lst xs],b=>obtain⟨h,g,b⟩:=zJ (show(JA xs).bind _=À d from b);cases b;obtain⟨v,rfl,a,j,rfl,e,c,l⟩:=jS r;rw[c7 g]at c;rw[lU c]at e;exact⟨a,h,rfl,e,q _ _ _ èa rfl⟩
#print L3
namespace L2
open Ħ Ķ Îa ī
def y3t{X:Cx}:yk X îs äm:=by intro e s σ H x y v u Q I d c h;obtain⟨a,b,rfl,rfl,q⟩:=h;cases d;cases c;refine PySem.wpAny_is_plain (by cases a<;>cases b<;>rfl) ⟨.bl ŭh,H,I,?_,q⟩;cases a<;>cases b<;>rfl
#print L2
namespace L3
open Ħ Ķ ī L2
noncomputable def LV:D->D->Æ D
 |.bl a,.bl b=>À (.bl ŭh)|_,_=>Ä
section
variable{K:Í}
def y1w:ji K äm LV:=λH x y u v d Q f e c=>by
 unfold LV at c
 split at c;rename_i a b;cases c;exact⟨_,rfl,λq=>⟨a,b,f,e,q⟩⟩;cases c
#print a
structure sJ(K:Í)(H0 G H:Hp)(p:É)(qs:Á É)(nds:Á Ģc):Prop where
 hp:H p=À (Ε (qs.map ĩc))
 p0:H0 p=Ä
 pg:G p=Ä
 np:p ∉ qs
 nd:qs.Nodup
 ln:nds.length=űr
 el:∀(j:Nat)(q:É),qs[j]?=À q->∃ds vs,nds[j]?=À ds/\H q=À İs/\H0 q=Ä/\G q=Ä/\Þ K G ds vs/\Đ<=á
structure bD(K:Í)(n:Nat)(G0 H0 G H:Hp)(τ:zu)(σ:St)(i:Nat)(nds:Á Ģc):Prop where
 env:zp K n G0 H0 G H τ σ
 no:z9a τ=Ã
 x8w:∃p qs,σ[i]?=À Ůj/\sJ K H0 G H p qs nds
inductive NF where
 |nx (nds:Á Ģc) (τ:zu)
 |rt (d:D)
abbrev sH:=Á Ģc->zu->Æ NF
def sI(K:Í)(n:Nat)(a b:Hp)(E:uT)(i:Nat):NF->Prop
 |.nx nds τ=>∀σ G H,bD K n a b G H τ σ i nds->E.nx σ H|.rt d=>∀v G H,zT a b G H->zZ K G d v->E.rt v H
structure NS(X:Cx)(i:Nat)(st:Õ)(f:sH):Prop where
 h:∃t,PS X st t/\∀{G0 H0 G H:Hp}{τ:zu}{σ:St}{nds:Á Ģc} {fl:NF} {E:uT},bD X.K ú G0 H0 G H τ σ i nds->f nds τ=À fl->sI X.K ú G0 H0 E i fl->t E σ H
#print L3
namespace L2
open Ħ Ķ Îa ī
section
variable{Ĝ:å}{w:ß}{A:ø}{E:Value->Ë->Prop}
def z1a{s:Ë}{a:É}{kvs:Á Őa}{ep:Nat}{Q:Á Value->Ë->Prop}(t:Ìc=Ä)(lo:ąa=Â)(m:ĥj Ŵa a kvs ep)(q:ĺ<=á)(h:∀h' tk vs,Ā=ĺ->(∀(j:Nat)(v:Value),vs[j]?=À v->∃k x,kvs[j]?=À (k,x)/\(Ŵa).is k v=Ã)->Û<h'.objs.size->(∀b ob,Ą b=À ob->ġ b=À ob)->Q vs { s with ç:=h',Ė:=tk }):Ù è A (collect Ś) Q E s:=by
 unfold collect;refine Ò (wpAny_runValue (Šd (entry_proto_collect') ?_));show Ù _ _ (newList [] >>= λl=>again (.builtin "list.__iadd__" ⟨[l,.ref a],[]⟩)) _ _ s;refine Ò (ři (ĝ ⟨Code.quiet_builtin _ İ,Šd (entry_list_iadd') ?_⟩));have i:a<Û:=m.lt_size;have g:Û≠a:=vA (ŀb i);rw[ļe İ]
 refine W.kdl_extend (R:=λr n=>match r with
  |.ok úf=>Ù è A (match v with
   |Ċ a=>(do
    let o <-load a
    match şa with
    |.seq xs _=>pure xs.toList|_=>ũq ģo)
   |_=>ũq ģo) Q E n
  |.ok _=>ò|.error e=>E e n) (s:={ s with ç:=Ūa ðj }) (W.kdl_dict (knd:=xE Ĝ w) (kvs:=kvs) (ep:=ep) lo) (by exact t) (m.push _) Û g g ĉc 0 Ée (λh' tk c u p f d=>?_) q
 refine Ò (ĉr f ?_);show Ù _ _ (pure c.toList) _ _ _;refine ĝ (h h' tk c.toList (by rw[Ŭ];exact d.1) (λj v e=>d.2 j v (by rw[<-þb];exact e)) ļh λb ob e=>?_);exact p b ob (vA Ńk) áh
def z5x(vs:Á Value)(kvs:Á Őa)(ns:Á Int)(b:Ā=ĺ)(a:Ĉe (·.1)=Ōa Ía)(c:∀(j:Nat)(v:Value),vs[j]?=À v->∃k x,kvs[j]?=À (k,x)/\(Ŵa).is k v=Ã):Ýc vs ns:=by
 revert kvs ns
 induction vs with
 |nil=>
  intro kvs ns b a _;cases kvs with
  |nil=>
   cases ns with
   |nil=>exact .nil|Ĉ n ns=>cases a
  |Ĉ _ _=>cases b
 |Ĉ v vs ih=>
  intro kvs ns b a c;cases kvs with
  |nil=>cases b|Ĉ kx kvs=>
   cases ns with
   |nil=>cases a|Ĉ n ns=>obtain⟨k,x,e,z⟩:=c 0 v rfl;cases e;have f:k=Ía n:=Âp.1;subst f;obtain⟨t,rfl⟩:=ţo (k:=n) (v:=v) z;exact .cons _ _ (ih kvs ns ŋo Âp.2 λj u d=>by simpa using c Ŝ u (by simpa using d))
#print a
section
theorem Gx:∀{kvs:Á ż} {vs:Á Őa},KV kvs vs->ŉh (·.1)=Ĉe (·.1)
 |_,_,.nil=>rfl|_,_,.cons r t=>by rw[ř,ř,Gx t,r.1]
#print a
#print L2
namespace L3
open Ħ Ķ ī L2
noncomputable def Uq:Á Ĩ->Æ âh
 | []=>À []|.inl i::r=>(Uq r).bind λa=>À řl|.inr _::_=>Ä
theorem Gq:∀{ks:Á Ĩ} {ns:Á Int},Uq ks=À ns->ks=Ōa Ía
 | [],_,h=>by cases h;rfl|.inl i::r,_,h=>by obtain⟨ns,a,h⟩:=zJ h;cases h;rw[Gq a];rfl
 |.inr _::_,_,h=>by cases h
section
variable{α:Type}{P:Á α->Prop}
def x6b(h:P []):∀us:Á α,Ţ=0->P us
 | [],_=>h
def Ir{n:Nat}(h:∀a (r:Á α),Ûa=n->P ġe):∀us:Á α,Ţ=n+1->P us
 |a::r,e=>h a r (żd e)
def us1(h:∀a,P [a]):∀us:Á α,Ţ=1->P us:=Ir λa=>x6b (P:=λr=>P ġe) Ũf
def us2(h:∀a b,P ë):∀us:Á α,Ţ=2->P us:=Ir λa=>us1 (P:=λr=>P ġe) Ũf
def us3(h:∀a b c,P [a,b,c]):∀us:Á α,Ţ=3->P us:=Ir λa=>us2 (P:=λr=>P ġe) Ũf
def us4(h:∀a b c d,P [a,b,c,d]):∀us:Á α,Ţ=4->P us:=Ir λa=>us3 (P:=λr=>P ġe) Ũf
def us5(h:∀a b c d e,P [a,b,c,d,e]):∀us:Á α,Ţ=5->P us:=Ir λa=>us4 (P:=λr=>P ġe) Ũf
#print a
abbrev LZ(x:Str)(st:Õ)(oc:Value)(od:Æ É)(sl:Ø ųa)(kV dc pm:Value)(an:Æ É)(cd ct:Value):Æ Obj:=À ⟨oc,od,.func (ıd x x đe ça Ń .none kV dc pm an cd ct),sl⟩
#print L3
namespace L2
open Ħ Ķ Îa ī
def j7(K:Í)(w:ß)(a:É)(ks:Á zW)(us:Á V):Prop:=
 ąa=Â/\ĭ=Ţ/\∃ep,∀(P:å)(h:Heap),Ŕ h->∃vs,KV śc vs/\źk Ŕa a vs ep
def eP{k:zW}{v:Value}(h:XC k v=Ã):zr ŕl v:=by rcases Z6 h with⟨i,t,rfl,rfl⟩|⟨x,t,rfl,rfl⟩;exact⟨t,rfl⟩;exact⟨t,rfl⟩
def Do(ks:Á zW):It:=⟨λi _=>i<ĭ,λi H v a=>a=H/\∃k,ks[i]?=À k/\v=kV k,λi _=>ĭ<=i⟩
theorem j_:∀{kvs:Á ż} {vs:Á Őa},KV kvs vs->Ā=ĺ
 |_,_,.nil=>rfl|_,_,.cons _ t=>by rw[ĕ,ĕ,j_ t]
theorem x4m{P:å}{w:ß}{K:Í}{tg:Ñ}{ks:Á zW}{us:Á V}{ep:Nat}(a it:É)(Q:ĭ=Ţ)(g:∀(P:å)(h:Heap),Ŕ h->∃vs,KV śc vs/\źk Ŕa a vs ep) :ga P w K tg Ħl ıc it (λi h=>h.IsKeyIter it a i ĭ ep) where
 mem:=by simp
 obj:=λi h st b m=>by
  have e:b=it:=by simpa using m
  subst e;obtain⟨o,e,c,d⟩:=st;exact⟨o,e,λv z=>by rw[d]at z;cases z⟩
 ıa:=λi h r st k=>ŷh λo e=>k it ã o e
 öb:=by
  intro X B J N O i R s σ H E I q st u;subst B J N;obtain⟨vs,f,C⟩:=g ó Ý ŝ;have n:Ā=ĭ:=by rw[j_ f,ūa,Q,Űa]
  have U:i<Ā:=by rw[n];exact u
  have t:vs[i]?=À (vs[i].1,vs[i].2):=Ģ U
  have S:ks[i]?=À vs[i].1:=by have e:=Ëa (λl:Á zW=>l[i]?) (Gx f);simp only[ş,t,åj,Õj (show ĭ<=Ţ by omega)]at e;exact ŋf
  obtain⟨x,y,Z,F,L,G⟩:=q it ã;rw[<-n]at st;refine wpAny_pyNext_dict_item st C t λA r p j T=>?_
  rw[n]at j;have I1:zI X R σ H { s with ç:=r }:=Ža (t':=đ) (λb o m e=>(T.2 b m).trans e) x y F L G;obtain⟨o,e,c,d⟩:=id j;exact⟨A,rfl,Ug (s:={ s with ç:=r }) e c d È ⟨kV vs[i].1,H,I1,eP p,⟨rfl,_,S,rfl⟩,j,λb m=>(q b m).1⟩⟩
 done:=by
  intro X B J N O i R s σ H E I q st u;subst B J N;obtain⟨vs,f,C⟩:=g ó Ý ŝ;have n:Ā=ĭ:=by rw[j_ f,ūa,Q,Űa]
  have t:vs[i]?=Ä:=Űb (by rw[n];exact u);obtain⟨x,y,Z,F,L,G⟩:=q it ã;rw[<-n]at st;exact wpAny_pyNext_dict_end (Ùb O) st C t λr Y=>⟨rfl,Ža (t':=đ) (λb o m e=>Y b o m e) x y F L G⟩
 çc:=λ_ _ _ _ _ st h=>wpAny_pyIter_keyiter st h
def z5m(ks:Á zW):TI:=λ_ H R=>R Ħl H
def y55{X:Cx}{tg:Ñ}{x:Str}{p:Pos}{A:É}{ks:Á zW}{us:Á V}(h:wp ð x Ėc)(g:j7 X.K X.w A ks us)(r:Gl X x)(t:Ê Ļ q10):PI X tg Ĝa (z5m ks):=by
 intro q s σ H R I l;obtain⟨c,k,C,j⟩:=g;refine zn (V6 (pos:=p) h r t q s σ H (λv i=>v=.ref A/\i=H) I ⟨rfl,rfl⟩) λv a ⟨y,i,d,B,e1,e2⟩=>?_
 subst e1 e2;cases(show v=Ċ A from B);obtain⟨m,f,n⟩:=j ó a.heap d.xg;have u:Ėd=ĭ:=by rw[j_ f,ūa,k,Űa]
 refine wpAny_pyIter_dict c n ?_;rw[u];refine⟨ĵa,[ĵa],_,_,i,rfl,ķl (t':=Ōf) λb o e=>Ī _ e,x4m A _ k j,⟨_,ū _ rfl,rfl,rfl⟩,λb z=>?_,l⟩;have e:b=ĵa:=by simpa using z
 subst e;exact d.Ze Ē ľk
#print L2
namespace L3
open Ħ Ķ Îa ī L2
noncomputable def Up:zW->D
 |.inl i=>.int i|.inr x=>.str x
noncomputable def Y5:zW->Ì
 |.inl _=>Ã|.inr x=>decide (Ūc<=yZ)
def iG(ks:Á zW):FA:=λ_=>À òr
def eQ{K:Í}{G:Hp}{k:zW}(h:Y5 k=Ã):zZ K G (Up k) ŕl:=by
 cases k with
 |inl i=>rfl|inr x=>exact⟨rfl,by rw[Ř];exact ŀ h⟩
def z35{K:Í}{G:Hp}{ks:Á zW}(h:Őh Y5=Ã):jn K Ħl G òr where
 go:=λi b H _ _ a=>by rw[ä]at a;exact a
 uh:=λi b H x f e d a y=>by obtain⟨rfl,k,c,rfl⟩:=y;exact⟨b,Up k,ŉa d,by rw[ş,c];rfl,eQ (Ĵb h k (Ľc c))⟩
 ţ:=λi b H _ _ a=>by rw[ä]at a;exact a
def Pn(h:wp ð x Ėc)(g:j7 X.K X.w A ks us)(b:Gl X x)(hk:Őh Y5=Ã)(c:ĭ<=1000)(d:Ê Ļ q10):SI X tg Ĝa (iG ks):=
 ⟨⟨_,y55 h g b d,λ{i e G H τ σ f R} K a q=>by cases a;exact q _ _ _ Üh (by rw[ä,Ř];exact Ğ c È) (z35 hk)⟩⟩
def z2w{K:Í}{w:ß}{a:É}{es:Á Ëc}{n:Nat}{xs:Á Str}{vs:Á Value}{us:Á V}(l:Ź a=À { cls:=.type Ż,Ć:=.dict êk n })(e:ja w es xs vs)(i:Ĕd)(d:ąa=Â)(r:zm us vs) :j7 K w a ød us:=by
 have c:(àc Ţb:Á zW).length=Ţ:=by rw[ä,e.len,Ûa]
 refine⟨d,c,n,λP h f=>⟨_,Gz r c,?_⟩⟩;obtain⟨p,q⟩:=õl (P:=P);refine⟨_,_,f _ _ l,⟨rfl,rfl,rfl⟩,rfl,λe g=>q e Ŋo,p,?_⟩;rw[Bd ĩi];exact Źi _ Ĉi i
#print L3
namespace L2
open Ħ Ķ Îa ī
def bQ(r d:É)(h:Heap):Prop:=h.IsValuesView r d
abbrev Q_(r d:É):HO:=.ext (bQ r d)
section
variable{X:Cx}{A:É}{ks:Á zW}{us:Á V}{x:Str}{p ěa ßa:Pos}
def nH(A:É):TE:=λ_ H Q=>∀r,H r=Ä->Q (.ref r) (zX H r (Q_ r A))
def y4w(h:wp ð x Ėc)(g:j7 X.K X.w A ks us)(E:Gl X x)(O:Ê Ļ q10)(f:Ê Ûi q12)(d:Ê ìc q12) :PE X üm (nH A):=by
 intro L s σ H Q I P;obtain⟨i,S,T,C⟩:=g;refine Ďi f d (zn (V6 (pos:=p) h E O L s σ H (λv B=>v=.ref A/\B=H) I ⟨rfl,rfl⟩) λv c ⟨y,B,m,R,e1,e2⟩=>?_);subst e1 e2;cases(show v=Ċ A from R);obtain⟨t,G,J⟩:=C ó Ěe m.xg;have l:Ĩj Ăc A t:=J.dictOf
 have N:∀b,Ċ A=.ref b->∃j,Ôe b=À j/\j.dict=Ä:=λb q=>by cases q;obtain⟨j,_,_,n,r,_⟩:=l;exact⟨j,n,r.2.1⟩
 refine⟨Ż,_,Üg,Õg,īn,l.typeIs,N,ĺe rfl īi⟩;refine Śe Õg l.typeIs Ěn Øn (Šo Ăc A i) ⟨⟨t,l⟩,?_⟩;have u:bQ ŷb A (Ñf { cls:=.type Ģj,Ć:=.fields #[.ref A] }):=⟨_,ū _ rfl,rfl,rfl⟩;refine⟨.ref ŷb,_,m.laid (a:=ŷb) (o:=Q_ ŷb A) (t':=įd) ūi Ē ⟨u,?_,λn r z k=>?_⟩,rfl,P _ m.fresh⟩;obtain⟨o,e,_⟩:=u;exact⟨o,e⟩;obtain⟨o,e,z⟩:=z;exact⟨o,k _ e,z⟩
def y6h(A:É)(us:Á V):Á V->Hp->VK->Prop:=λa H Q=>∃r,a=[.ref r]/\H r=À (Q_ r A)/\∀p,H p=Ä->Q Êa (γ (.lst us))
theorem eU:∀{kvs:Á ż} {vs:Á Őa},KV kvs vs->zm (Ĉe (·.2)) (ŉh (·.2))
 |_,_,.nil=>.nil|_,_,.cons r t=>.cons r.2 (eU t)
def z0y(c:Ž=Ã)(g:j7 X.K X.w A ks us)(p:Ţ<=1000):vY X Ĉa (y6h A us):=by
 intro T s σ H R P Q I r h;obtain⟨a,rfl,N,q⟩:=h;obtain⟨u,rfl,B⟩:=tQ r;cases(show u=Ċ a from B);obtain⟨t,C,ep,x⟩:=g;obtain⟨n,i,G⟩:=x ó Ý ŝ;have z:ŷk=Ţ:=by rw[j_ i,ūa,C,Űa]
 obtain⟨F,_⟩:=(show xT ó X.w H Ý a (Q_ a A)from Ĕ a _ N);refine W.kdl_call (W.kdl_values (knd:=xE ó X.w) (d:=A) (r:=a) (kvs:=n) (ep:=ep)) (Ùb c) ⟨F,G⟩ (by rw[z,Ř];exact Ğ p È) λS L b O J E f=>?_
 obtain⟨l,m⟩:=f
 have e:Ęd=n.map (·.2):=by
  refine Ŷd λj=>?_
  cases hj:Ęd[j]? with
  |Ä=>have:=List.getElem?_eq_none_iff.mp hj;rw[Ŭ,l]at this;rw[ş,Űb this];rfl|À v=>obtain⟨k,e⟩:=m j v (by rw[<-þb];exact hj);rw[ş,e];rfl
 have y:zm us Ęd:=by rw[e];have:=eU i;rw[List.map_snd_zip (show Ţ<=ĭ by omega)]at this;exact this
 refine⟨.ref Û,_,ġb (a:=Û) (o:=.lst us) (t':=L) J Ē ⟨?_,Ęd,O,y,?_⟩,rfl,q _ ĸf⟩;rw[Ř];exact Ğ p È;rw[E]
#print a
#print L2
namespace L3
open Ħ Ķ Îa ī L2
def mV(c:Ž=Ã)(f:Gl X Ġ)(j:ð Ġ=Ä)(h:wp ð x Ėc)(g:j7 X.K X.w A ks us)(v:Gl X x)(m:∀H,Þ X.K H ds us)(k:Đ<=1000)(u:Ê Ļ q10)(b:Ê (Ķb Ŭj "values" Ô (č Ŭj Ô)=č Ŭj Ô) q12)(a:Ê ìc q12) :SF X (.Call Ćq [.Call Ļm [] [] ßa] [] pos) (eC àe):=by
 have n:Ţ<=1000:=by rw[(m ōb).length];exact k
 have z:QE X (.Call Ļm [] [] ßa) (nH A):=⟨y4w h g v u b a⟩;refine⟨⟨_,(IL (p:=p) (pos:=pos) (z0y c g n) f j LD (KH z iy) È È).h,λ{C B G H τ σ d Q} E y q=>?_⟩⟩;cases y;intro r s;refine⟨r,rfl,ya,λl i=>?_⟩;have e:=ìb (o:=Q_ r A) Õb s;have t:=Ŵc (ìb (o:=.lst us) ńd i);exact q l _ _ t (e.h.free i) (ĸg i) ⟨us,ya,m _,by rw[Ř];exact Ğ k È⟩
#print L3
namespace L2
open Ħ Ķ Îa ī
section
variable{Ĝ:å}{w:ß}{A:ø}{E:Value->Ë->Prop}{s:Ë}
open HT in
def z2y{t d:É}{zF:Ø Value}{k i:Value}{lo hi:Æ Int}{Q:Value->Ë->Prop}(b:Īb Ý t zF)(g:ďg d k i .none)(pl:Ťb k lo)(n:Ťb i hi)(j:sIx ĳ 0 lo=0/\sIx ĳ ĳ hi=ĳ)(h:Q ûf s):Ù è A ĵo Q E s:=by
 obtain⟨o,e,c,m⟩:=id g;have f:Ŕb (.ref d) Ĳf:=⟨o,e,c⟩;unfold øe
 try with_reducible refine ÿb ?_
 first|refine Ò Ŋb|skip
 refine Ò Ţm
 refine Ò (Ŏd (Ľ:=úd Ĥj) Ĝf źm
  űl)
 show Ù _ _ Ģm _ _ s;refine Ò Þo;refine Ò (Ŭd f ?_);rw[Ï È];refine Ò (mh g pl n ?_)
 have a:Ìi=Ã:=by rw[j.1,j.2,Ĕq];simp
 show Ù _ _ ĕn _ _ s;rw[Ï a];have l:Ŕb ûf Ŧ:=Ĝf;unfold Builtin.Tuple.tupleIsExact;exact Ò (Ò (Ŭd l (Ιa (ūd çi))))
#print a
def y6m(K:Í):V->Æ Int->Æ Int->Hp->VK->Prop:=λx b c H Q=>∃a xs,x=.ref a/\xF K H a xs/\
 (ĸ à 0 b=0/\ĸ à à c=à)/\Q Ś H
def y9i:kZ X (y6m X.K):=by
 intro o s σ H x v u p n w m Q I g e j f h;obtain⟨a,k,rfl,l,i,q⟩:=h;cases g;obtain⟨c,r,d,t⟩:=Ýa l;have b:Āg=k.length:=by rw[ģ];exact Åq
 refine⟨Ŧ,_,Ŀm,ěf,?_⟩;exact z2y d e j f (by rw[b];exact i) ⟨.ref a,H,I,rfl,q⟩
#print L2
namespace L3
open Ħ Ķ Îa ī L2
def X2(d:D)(lo hi:Æ Int):Æ D:=match d with
 |.tup xs=>À Œr|d=>EH d lo hi
def Zq(a:FE)(lo hi:FO):FE:=λσ=>(òa).bind λd=>(ĝl).bind λl=>(ğl).bind λh=>X2 d l h
def z1e{α:Type}{xs:Á α}{lo hi:Æ Int}(c:ĸ à 0 lo=0/\ĸ à à hi=à):jv xs lo hi=xs:=by unfold jv;rw[c.1,c.2,Ĕq,ňp,ëd]
theorem y8x{X:Cx}{a:Ñ}{w:FE}{pos:Pos}{lo hi:Æ Ñ}{y fh:FO}{p2:Pos}(B:SE X a w)(s:SO X lo y)(u:SO X hi fh):SE X Ūn (Zq w y fh):=by
 obtain⟨W,F,I⟩:=B.h;obtain⟨P,C,L⟩:=s.h;obtain⟨R,A,J⟩:=u.h;refine⟨⟨_,iH (mZ.or y9i) F C A,λ{G0 U G H τ σ d Q} E b q=>?_⟩⟩;obtain⟨x,K,b⟩:=zJ b;obtain⟨l,s,b⟩:=zJ b;obtain⟨h,u,b⟩:=zJ b;refine I E K λv O T t N=>L Ĵh s λZ Y r=>J ((Ĵh).go r) u λG3 S e=>?_
 have n:=t.trans (r.trans e);have o:=N.mono (r.g.trans e.g);cases x with
 |lst xs=>cases b;obtain⟨a,m,rfl,k,i,f⟩:=o;refine .inl (.inl ⟨a,m,rfl,uO ńd k,λp j=>q _ _ _ ţn ⟨p,_,rfl,åc ya,(õr).mono Ţp,Ğ Ňh f⟩⟩)
 |tup xs=>cases b;obtain⟨a,m,rfl,k,i,f⟩:=o;by_cases c:ĸ à 0 l=0/\ĸ à à h=à;refine .inr ⟨a,m,rfl,uD ńd k,by rw[Úb];exact c,?_⟩;rw[z1e c]at q;exact q _ _ _ n ⟨a,m,rfl,k,i,f⟩;refine .inl (.inr (.inl ⟨a,m,rfl,uD ńd k,by rw[Úb];exact c,λp j=>?_⟩));exact q _ _ _ ţn ⟨p,_,rfl,īc ya,(õr).mono Ţp,Ğ Ňh f⟩
 |str z=>cases b;obtain⟨rfl,f⟩:=o;exact .inl (.inr (.inr ⟨z,rfl,f,q _ _ _ n ⟨rfl,Ğ (Cm ..) f⟩⟩))
 |_=>cases b
#print L3
namespace L2
open Ħ Ķ Îa ī
section
variable{X:Cx}{z8:Á é}{σ:St}{H:Hp}{s:Ë}{a:É}{o:Obj}{kvs:Á ż}
def zI.swap(I:zI X z8 σ H s)(e:H a=À u)(m:∀x,u≠.own x)(B:∀xs,u≠.tup xs)(o:∀ps,Ġb a≠À čf)(k:∀ob v,Ġb a≠À Ĉk)(j:∀xs,Ġb a≠À Ŗa)(g:xT ó X.w år Ý a u'):zI X z8 σ år s:=by
 have f:∀b,H b=Ä->b≠a:=λb d z=>by subst z;rw[e]at d;cases d
 refine⟨I.ok,Îd,èb,⟨īg,Øf,λb ob q n A=>?_,Ìf,λb xs q=>?_,λb ob v q=>?_,λb ps q=>?_⟩,Įa,Ša,?_,λx c q=>?_,λp t=>?_,λb v q=>?_,ŧb⟩;have:=Âe b ob q n A;rw[yB (f b this)];exact this;have d:b≠a:=λz=>by subst z;exact j xs q
 rw[yB d];exact øf b xs q;have d:b≠a:=λz=>by subst z;exact k ob v q
 rw[yB d];exact öf b ob v q;have d:b≠a:=λz=>by subst z;exact o ps q
 rw[yB d];exact ùf b ps q;rw[yB (f _ çb)];exact çb;rw[yB (f _ (êc x c q))];exact êc x c q;obtain⟨l,i,r⟩:=ţa p t;exact⟨l,by rw[yB (f _ i)];exact i,r⟩;by_cases d:b=a;subst d;rw[ya]at q;cases q;exact g;rw[yB d]at q;refine(Ĕ b v q).YX (λc w _ z=>z) (λc z=>?_) λc xs z=>?_;have h:c≠a:=λy=>by subst y;rw[e]at z;cases z;exact m _ rfl
 rw[yB h];exact z;have h:c≠a:=λy=>by subst y;rw[e]at z;cases z;exact B _ rfl
 rw[yB h];exact z
def zI.Vr(I:zI X z8 σ H s)(e:H a=À Ł):(∀ps,Ġb a≠À čf)/\(∀ob v,Ġb a≠À Ĉk)/\∀xs,Ġb a≠À Ŗa:=by refine⟨λps z=>?_,λob v z=>?_,λxs z=>?_⟩;obtain⟨_,q⟩:=ùf a ps z;rw[e]at q;cases q;have q:=öf a ob v z;rw[e]at q;cases q;have q:=øf a xs z;rw[e]at q;cases q
def zI.up(I:zI X z8 σ H s)(e:H a=À Ł):∃o,zI X z8 σ Őg s:=by obtain⟨j,h,i⟩:=I.Vr e;obtain⟨z,y,d,r,b,k,f,g,c⟩:=(show xT ó X.w H Ý a Ł from Ĕ a _ e);exact⟨b,I.swap e ăa ăa j h i ⟨g,z,y,d,r,b,k,f,g,c⟩⟩
def zI.dn(I:zI X z8 σ H s)(e:H a=À Âa)(n:(∀ps,Ġb a≠À čf)/\(∀ob v,Ġb a≠À Ĉk)/\∀xs,Ġb a≠À Ŗa):zI X z8 σ Ïf s:=by obtain⟨i,f,h⟩:=n;obtain⟨_,z,y,b,r,ob,j,d,g,c⟩:=(show xT ó X.w H Ý a Âa from Ĕ a _ e);exact I.swap e ăa ăa i f h ⟨z,y,b,r,ob,j,d,g,c⟩
#print a
def uT.dn(D:uT)(a:É)(o:Obj)(kvs:Á ż):uT:=
 ⟨λσ H=>H a=À Âa/\Éb σ Ïf,λv H=>H a=À Âa/\D.rt v Ïf,λσ H=>H a=À Âa/\D.bk σ Ïf,λσ H=>H a=À Âa/\D.ct σ Ïf⟩
def y77(i:Nat)(t:TS):TS:=λD σ H=>∃a,σ[i]?=À Ćf/\((∃o kvs,H a=À Âa/\t D σ H)\/∃kvs,H a=À Ł/\∀o,t (D.dn a o kvs) σ Őg)
def y5o{X:Cx}{st:Õ}{t:TS}{i:Nat}(h:PS X st t):PS X st (y77 i t):=by
 intro k s σ H D I d;obtain⟨a,p,⟨_,_,_,d⟩|⟨l,e,d⟩⟩:=d;exact h k s σ H D I d
 .obtain⟨o,m⟩:=I.up e;refine zn (h k s σ _ _ m (d o)) λf n g=>?_
  cases f with
  |next=>obtain⟨σ',j,b,c,q⟩:=g;exact⟨σ',_,b.dn c īf,q⟩
  |brk=>obtain⟨σ',j,b,c,q⟩:=g;exact⟨σ',_,b.dn c īf,q⟩
  |èc=>obtain⟨σ',j,b,c,q⟩:=g;exact⟨σ',_,b.dn c īf,q⟩
  |ret u=>obtain⟨v,σ',j,b,r,c,q⟩:=g;exact⟨v,σ',_,b.dn c īf,r,q⟩
def x0w(i:Nat)(t:TE):TE:=λσ H Q=>∃a,σ[i]?=À Ćf/\((∃o kvs,H a=À Âa/\t σ H Q)\/∃kvs,H a=À Ł/\∀o,t σ Őg λv b=>b a=À Âa/\Q v (zX b a Ł))
def y4s(h:PE X e t):PE X e (x0w i t):=by intro c s σ H Q I b;obtain⟨a,m,⟨_,_,_,b⟩|⟨d,e,b⟩⟩:=b;exact h c s σ H Q I b;obtain⟨o,g⟩:=I.up e;exact zn (h c s σ _ _ g (b o)) λu l ⟨v,k,f,r,j,q⟩=>⟨v,_,f.dn j īf,r,q⟩
def Ud(ok:wE P w H h)(e:H a=À Âa)(d:şa=.dict es ep):ąa=Â/\∃vs,KV kvs vs/\źk Ŕa a vs ep:=by obtain⟨g,z,y,vs,r,j,b,i,f,c⟩:=(show xT P w H h a Âa from ok a _ e);rw[g]at f;cases f;refine⟨y,vs,r,o,b,g,c.1,?_,c.2.2⟩;have e1:=c.2.1;rw[d]at e1;cases e1;exact d
theorem Gy:∀{kvs:Á ż} {vs:Á Őa} {i:Nat} {k:zW} {x:Value},KV kvs vs->vs[i]?=À (k,x)->∃u,kvs[i]?=À (k,u)/\zr u x
 |_,_,_,_,_,.nil,e=>by cases e|_,_,0,_,_,.cons r t,e=>by cases e;obtain⟨b,a⟩:=r;exact⟨_,Ëa À (Prod.ext b rfl),a⟩
 |_,_,i+1,_,_,.cons _ t,e=>Gy (i:=i) t āb
#print L2
namespace L3
open Ħ Ķ Îa ī L2
structure Tw(a:É)(kvs:Á ż)(G G':Hp):Prop where
 ne:∀b,b≠a->G' b=G b
 l:Rd G a Ł
 r:Rd G' a Ł
section
variable{K:Í}{a:É}{o:Obj}{kvs:Á ż}{G G' H H' G0 H0:Hp}
def Rd.tw(t:Tw a kvs G G')(c:∀ob v,u≠.yJ ob v)(h:Rd G b u):Rd G' b u:=by
 by_cases hb:b=a;subst hb
 have e:u=.dK kvs:=by rcases h with h|⟨ob,h⟩<;>rcases t.l with l|⟨oc,l⟩<;>rw[l]at h;cases h;rfl;cases h;exact Ú rfl (c oc _);cases h;cases h;rfl
 rw[e];exact t.r;rcases h with h|⟨ob,h⟩;exact .inl (by rw[t.ne b hb];exact h);exact .inr ⟨ob,by rw[t.ne b hb];exact h⟩
theorem Tw.at{b:É}{u:HO}(t:Tw a kvs G G')(h:G b=À u)(d:u≠.dK kvs)(c:∀o,u≠.yJ o Ł):G' b=À u:=by by_cases hb:b=a;subst hb;rcases t.l with l|⟨oc,l⟩<;>rw[l]at h;cases h;exact Ú rfl d;cases h;exact Ú rfl (c oc);rw[t.ne b hb];exact h
theorem zZ.tw(t:Tw a kvs G G'):∀{d:D}{v:V},zZ K G d v->zZ K G' d v:=λ{d}=>by refine Ŀd (P:=λd=>∀v,zZ K G d v->zZ K G' d v) ĥr ħq ĥq Ĥq ?_ ?_ ?_ ?_ ?_ d _;rintro g f v ⟨b,c,e,q,r,l⟩;refine⟨b,c,e,?_,ęb f r,l⟩;rcases q with q|q;exact .inl īp;exact .inr q;rintro g f v ⟨b,c,e,q,r,l⟩;refine⟨b,c,e,?_,ęb f r,l⟩;rcases q with q|q;exact .inl īp;exact .inr q;rintro m g f v ⟨b,c,e,q,z,r,l⟩;exact⟨b,c,e,Rd.tw t œm q,z,ęb f r,l⟩;rintro x v ⟨b,C,e,n,h⟩;exact⟨b,C,e,n,t.at h ķa ăa⟩;rintro x k g f v ⟨b,C,j,c,e,n,h,l,r⟩;exact⟨b,C,j,c,e,n,t.at h ķa ăa,l,ęb f r⟩
theorem Reps.tw(t:Tw a kvs G G')(h:Þ K G ds vs):Þ K G' ds vs:=ęb (λ_ _ _=>zZ.tw t) h
theorem vN.tw(t:Tw a kvs G G')(f:H' p=H p)(c:vN K G H d p):vN K G' H' d p:=by
 cases d with
 |lst ds=>obtain⟨b,e,r,l⟩:=c;exact⟨b,by rw[f];exact e,r.tw t,l⟩
 |dic ks ds=>obtain⟨b,e,z,r,l⟩:=c;exact⟨b,by rw[f];exact e,z,r.tw t,l⟩
 |_=>exact c.elim
def RF(e:G a=À Ł):Tw a kvs G Ðf:=⟨λb c=>yB c,.inl e,.inr ⟨o,ya⟩⟩
def BI(e:G a=À Âa):Tw a kvs G (zX G a Ł):=⟨λb c=>yB c,.inr ⟨o,e⟩,.inl ya⟩
noncomputable def Xi(a:É)(f:HO)(H0:Hp):Hp:=λb=>if b=a then(H0 a).bind λ_=>À f else H0 b
def nS(h:b≠a):Xi a f H0 b=H0 b:=Ð h
def BK:Xi a f H0 b=Ä↔H0 b=Ä:=by
 unfold Xi;by_cases h:b=a;subst h;rw[Ï rfl];cases H0 b with
 |Ä=>exact⟨λ_=>rfl,λ_=>rfl⟩|À u=>exact⟨λz=>(nomatch z),λz=>(nomatch z)⟩
 rw[Ð h]
theorem x68(h:Xi a f H0 a=À u):u=f:=by
 unfold Xi at h;rw[Ï rfl]at h;cases e:H0 a with
 |Ä=>rw[e]at h;cases h|À w=>rw[e]at h;cases h;rfl
def zp.up(E:zp K n G0 H0 G H τ σ)(e:G a=À Ł):zp K n Ðf ļj Ðf Őg τ σ:=by
 have t:=RF (o:=o) e;refine⟨⟨řa _,λb u h=>?_,Mn Õb,λ_ h=>.inl h⟩,Ş,ŏ,λi d h=>?_,λi d h=>?_,úb⟩;by_cases hb:b=a;subst hb;rw[ya,x68 h];rw[nS hb]at h;rw[yB hb];exact ıh _ _ h;obtain⟨v,c,r⟩:=Įb i d h;exact⟨v,c,r.tw t⟩;obtain⟨p,c,g,z,j⟩:=ŧa i d h;have f:p≠a:=λz=>by subst z;rw[e]at g;cases g
 exact⟨p,c,by rw[yB f];exact g,BK.mpr z,j.tw t (yB f)⟩
def zT.Xz(c:zT G0 H0 G H)(e:G a=À Ł)(x:zT Ðf ļj G' H'):G' a=À Âa/\H' a=À Âa/\zT G0 H0 éq çq:=by have d:G' a=À Âa:=x.g _ _ ya;refine⟨d,Åb _ _ d,c.rebase ⟨λb u h=>?_,λb u h=>?_,Mn Åb,λp h=>?_⟩⟩;by_cases hb:b=a;subst hb;rw[e]at h;cases h;exact ya;rw[yB hb];exact x.g _ _ (by rw[yB hb];exact h);by_cases hb:b=a;subst hb;have:=c.h _ _ h;rw[Ìd _ _ e]at this;cases this;exact ya;rw[yB hb];exact x.h _ _ (by rw[nS hb];exact h);by_cases hb:p=a;subst hb;exact .inl žf;rw[yB hb]at h;rcases Âd p h with z|z;rw[yB hb]at z;exact .inl z;exact .inr (BK.mp z)
theorem zp.Xz(E:zp K n G0 H0 G H τ σ)(e:G a=À Ł)(b:zp K n Ðf ļj G' H' τ' σ'):H' a=À Âa/\zp K n G0 H0 éq çq τ' σ':=by
 obtain⟨f,l,x⟩:=E.ext.Xz e b.ext;have t:=BI f;refine⟨l,x,b.l1,b.l2,λi d h=>?_,λi d h=>?_,b.ap⟩;obtain⟨v,c,r⟩:=b.fr i d h;exact⟨v,c,r.tw t⟩;obtain⟨p,c,g,z,k⟩:=b.ow i d h;have j:p≠a:=λz=>by subst z;rw[f]at g;cases g
 exact⟨p,c,by rw[yB j];exact g,BK.mp z,k.tw t (yB j)⟩
#print a
def Kn(K:Í)(i:Nat)(τ:zu)(σ:St)(G:Hp):Prop:=∃a o ks ds vs,τ[i]?=À ļi/\σ[i]?=À Ćf/\G a=À Éj/\ĭ=Ā/\Þ K G ds vs/\Đ<=á
structure bL(X:Cx)(i:Nat)(st:Õ)(f:FS):Prop where
 h:∃t,PS X st t/\∀{G0 H0 G H:Hp}{τ:zu}{σ:St}{fl:Fl}{E:uT},zp X.K ú G0 H0 G H τ σ->Kn X.K i τ σ G->f τ=À fl->t9 X.K ú G0 H0 E fl->t E σ H
structure bK(X:Cx)(i:Nat)(e:Ñ)(f:FE):Prop where
 h:∃t,PE X e t/\∀{G0 H0 G H:Hp}{τ:zu}{σ:St}{d:D}{Q:VK},zp X.K ú G0 H0 G H τ σ->Kn X.K i τ σ G->f τ=À d->(∀p G' H',zT G H G' H'->H p=Ä->G' p=Ä->vN X.K G' H' d p->Q Êa H')->t σ H Q
structure Op(X:Cx)(i:Nat)(tg Ū:Ñ)(f:FA):Prop where
 h:∃wi,PI X tg Ū wi/\∀{G0 H0 G H:Hp}{τ:zu}{σ:St}{ds:Á D}{R:It->Hp->Prop},zp X.K ú G0 H0 G H τ σ->Kn X.K i τ σ G->f τ=À ds->(∀J G' H',zT G H G' H'->Đ<=á->jn X.K J G' ds->R J H')->wi σ H R
def Ye(i:Nat)(f:zu->Æ α):Prop:=∀τ x,f τ=À x->∃ks ds,τ[i]?=À ļi
def x00{X:Cx}{i:Nat}{st:Õ}{f:FS}(h:bL X i st f)(hk:Ye i f):SS X st f:=by
 obtain⟨t,P,k⟩:=h.h;refine⟨⟨_,y5o (i:=i) P,λ{S R G H τ σ L E} K l q=>?_⟩⟩;obtain⟨F,I,w⟩:=hk _ _ l;obtain⟨v,s,a,B,rfl,Q,A,C,J⟩:=K.fr i _ w;refine⟨a,s,?_⟩;rcases Q with e|⟨o,e⟩;refine .inr ⟨_,øa _ _ e,λo=>?_⟩;have O:=K.up (o:=o) e;refine k O ⟨a,o,F,I,B,w,s,ya,A,C.tw (RF e),J⟩ l ?_;cases L with
 |nx τ'=>exact λσ' b g z=>let ⟨h1,h2⟩:=K.Xz e z;⟨h1,q σ' _ _ h2⟩|bk τ'=>exact λσ' b g z=>let ⟨h1,h2⟩:=K.Xz e z;⟨h1,q σ' _ _ h2⟩|ct τ'=>exact λσ' b g z=>let ⟨h1,h2⟩:=K.Xz e z;⟨h1,q σ' _ _ h2⟩|rt j d=>
  cases j with
  |Â=>intro v b g x r;obtain⟨c,u,m⟩:=K.ext.Xz e x;exact⟨u,q v _ _ m (r.tw (BI c))⟩
  |Ã=>
   intro p b g x N n j;obtain⟨c,u,m⟩:=K.ext.Xz e x;have y:p≠a:=λz=>by subst z;rw[c]at n;cases n
   exact⟨u,q p _ _ m (BK.mp N) (by rw[yB y];exact n) (j.tw (BI c) (yB y))⟩
 exact .inl ⟨o,_,øa _ _ e,k K ⟨a,o,F,I,B,w,s,e,A,C,J⟩ l q⟩
def y98(h:bK X i e f)(hk:Ye i f):SF X e f:=by
 obtain⟨t,S,k⟩:=h.h;refine⟨⟨_,y4s (i:=i) S,λ{W U G H τ σ d Q} K s q=>?_⟩⟩;obtain⟨m,J,A⟩:=hk _ _ s;obtain⟨v,y,a,j,rfl,T,F,I,L⟩:=K.fr i _ A;refine⟨a,y,?_⟩;rcases T with e|⟨o,e⟩;refine .inr ⟨_,øa _ _ e,λo=>?_⟩;have R:=K.up (o:=o) e;refine k R ⟨a,o,m,J,j,A,y,ya,F,I.tw (RF e),L⟩ s λp B P x C l N=>?_
 have O:H a=À _:=øa _ _ e;have n:B a=À (.yJ o ýj):=x.g _ _ ya
 have r:H p=Ä:=by by_cases z:p=a;subst z;rw[n]at l;cases l;rw[yB z]at C;exact C
 have E:p≠a:=λz=>by subst z;rw[n]at l;cases l
 refine⟨Åb _ _ n,q p (zX B a ýj) (zX P a ýj) ⟨λb u c=>?_,λb u c=>?_,Mn Åb,λb c=>?_⟩ r (by rw[yB E];exact l) (N.tw (BI n) (yB E))⟩;by_cases z:b=a;subst z;rw[e]at c;cases c;exact ya;rw[yB z];exact x.g _ _ Äo;by_cases z:b=a;subst z;rw[O]at c;cases c;exact ya;rw[yB z];exact x.h _ _ Äo;by_cases z:b=a;subst z;exact .inl žf;rw[yB z]at c;rcases Âd b c with w|w;rw[yB z]at w;exact .inl w;rw[yB z]at w;exact .inr w;exact .inl ⟨o,_,øa _ _ e,k K ⟨a,o,m,J,j,A,y,e,F,I,L⟩ s q⟩
def y9y(I:Ĉd ý X.A Ô ĩ)(R:Ž=Ã)(hi:Op X i tg Ū fs)(L:SG X tg fg)(hb:qM X Íd g)(u:Ê (∀x,Ŵb Ū Ô x=pure x) q11):bL X i ĝi Ľq:=by
 obtain⟨ti,P,ki⟩:=Ëd;obtain⟨Z,S,kg⟩:=L.h;obtain⟨tb,C,U⟩:=hb.h;refine⟨⟨_,K8 I R P S C u,λ{G0 r G H τ σ p E} K T a q=>?_⟩⟩;obtain⟨b,Y,a⟩:=zJ a;refine ki K T Y λJ n Ha Q _ j=>?_
 have s:=àa Q;have k:=ïl s.ext q;refine⟨λi m σ H=>m=Ãa-i/\i<=Ãa/\∃τ G,zp X.K ú n r G H τ σ/\Z9 fg g āl τ=À p,⟨Ãa,rfl,Áa _,τ,n,s.zC,a⟩,?_⟩;rintro i m σ H ⟨rfl,hle,τ,G,K,a⟩;by_cases hlt:i<Ãa;refine .inr ⟨j.go i G H Ğc øa hlt,λσ' c=>∃τ G,zp X.K ú n r G c τ σ'/\Z9 fg g ļk τ=À p,λσ' c z=>⟨Ãa-ê,óg _ _ hlt,rfl,hlt,z⟩,λx c y=>?_⟩;obtain⟨G3,d,v,t,rd⟩:=j.uh i G H x c Ğc øa hlt y;rw[Ůb hlt]at a;rw[Ģ hlt]at t;cases t;obtain⟨τ1,B,a⟩:=zJ (show(fg _ τ).bind _=_ from a);obtain⟨O,F,a⟩:=zJ a;refine kg (àa v) rd B λσ1 W=>U W F ?_
 cases O with
 |nx τ2=>exact λσ2 l H2 f=>⟨τ2,l,f,a⟩|ct τ2=>exact λσ2 l H2 f=>⟨τ2,l,f,a⟩|bk τ2=>cases a;exact k|rt o d=>cases a;exact Ĵf k ăa ăa ăa rfl
 have e:ųg i=[]:=Ûd ťi;rw[e]at a;cases a;exact .inl ⟨j.stop i G H Ğc øa Å,k _ _ _ K⟩
def z1s(h:Ye i fs):Ye i Ľq:=λτ x c=>by obtain⟨b,a,_⟩:=zJ c;exact h τ b a
#print L3
namespace L2
open Ħ Ķ Îa ī
noncomputable def Ds(a:É)(o:Obj)(kvs:Á ż):It:=⟨λi H=>H a=À Âa/\i<ĺ,λi H v b=>b=H/\∃k,kvs[i]?=À (k,v),λi H=>H a=À Âa/\ĺ<=i⟩
def x4k{P:å}{w:ß}{K:Í}{tg:Ñ}{kvs:Á ż}{o:Obj}{es:Ø Ëc}{ep:Nat}(a it:É)(d:şa=.dict es ep) :ga P w K tg œq ıc it (λi h=>h.IsValIter it a i ĺ ep) where
 mem:=by simp
 obj:=λi h st b l=>by
  have e:b=it:=by simpa using l
  subst e;obtain⟨o,e,c,d⟩:=st;exact⟨o,e,λv z=>by rw[d]at z;cases z⟩
 ıa:=λi h q st k=>ŷh λo e=>k it ã o e
 öb:=by
  intro X y F J L i N s σ H E I p st n;subst y F J;obtain⟨_,f,g,A⟩:=Ud Ĕ n.1 d;have m:Ŀa=ĺ:=j_ g;have S:i<Ŀa:=by rw[m];exact n.2
  have r:f[i]?=À (f[i].1,f[i].2):=Ģ S;obtain⟨u,O,R⟩:=Gy g r;obtain⟨t,x,U,B,G,C⟩:=p it ã;rw[<-m]at st;refine wpAny_pyNext_values_item st A r λq j Q=>?_
  rw[m]at j;have Y:zI X N σ H { s with ç:=q }:=Ža (t':=đ) (λb o l e=>(Q.2 b l).trans e) t x B G C;obtain⟨o,e,c,d⟩:=id j;exact⟨f[i].2,rfl,Ug (s:={ s with ç:=q }) e c d È ⟨u,H,Y,R,⟨rfl,_,O⟩,j,λb l=>(p b l).1⟩⟩
 done:=by intro X y F J L i N s σ H E I p st n;subst y F J;obtain⟨_,f,g,A⟩:=Ud Ĕ n.1 d;have m:Ŀa=ĺ:=j_ g;have r:f[i]?=Ä:=Űb (by rw[m];exact n.2);obtain⟨t,x,U,B,G,C⟩:=p it ã;rw[<-m]at st;exact wpAny_pyNext_values_end (Ùb L) st A r λq T=>⟨rfl,Ža (t':=đ) (λb o l e=>T b o l e) t x B G C⟩
 çc:=λ_ _ _ _ _ st h=>wpAny_pyIter_valiter st h
def z5k(i:Nat):TI:=λσ H R=>∃a o kvs,σ[i]?=À Ćf/\H a=À Âa/\R œq H
def y53{X:Cx}{tg:Ñ}{x:Str}{p f d:Pos}{i:Nat}(P:X.N[i]?=À x)(hv:jl îa x)(U:Ê Ļ q10)(t:Ê Ŭb q10)(k:Ê Ûi q12)(j:Ê Ĩn q12) :PI X tg (.Call (.Attribute Ĝa "values" f) [] [] d) (z5k i):=by
 intro J s σ H R I z;obtain⟨a,o,l,L,e,z⟩:=z;refine Ďi k j (zn (V7 (pos:=p) P hv U t J s σ H (λv m=>v=.ref a/\m=H) I ⟨_,L,rfl,rfl⟩) λv c ⟨y,m,C,Y,e1,e2⟩=>?_);subst e1 e2;cases(show v=Ċ a from Y);obtain⟨g,_,_,_,_,o',es,Z,E,_,h,_⟩:=(show xT ó X.w m Ěe a (.yJ o (.dK l))from C.zh a _ e);rw[g]at E;cases E;obtain⟨S,A,B,G⟩:=Ud C.zh e h;have Q:Ál=ŕb:=j_ B;have r:Ĩj Ăc a A:=G.dictOf
 have T:∀b,Ċ a=.ref b->∃n,Ôe b=À n/\n.dict=Ä:=λb q=>by cases q;obtain⟨n,_,_,K,O,_⟩:=r;exact⟨n,K,O.2.1⟩
 refine⟨Ż,_,Üg,Õg,īn,r.typeIs,T,ĺe rfl īi⟩;refine Śe Õg r.typeIs Ěn Øn (Šo Ăc a S) ⟨⟨A,r⟩,?_⟩;have u:zI X J σ m { c with ç:=Ñf { cls:=.type Ģj,Ć:=.fields #[.ref a] } }:=C.kept (t':=įd) λb o e=>Ī _ e
 refine wpAny_pyIter_values (knd:=xE ó X.w) (s:={ c with ç:=Ñf { cls:=.type Ģj,Ć:=.fields #[.ref a] } }) ⟨_,ū _ rfl,rfl,rfl⟩ (G.push _) ?_;rw[Q];refine⟨_,[_],_,_,m,rfl,u.kept (t':=įd) λb o e=>Ī _ e,x4k a _ h,⟨_,ū _ rfl,rfl,rfl⟩,λb W=>?_,z⟩;have e:=ëa W;subst e;exact u.Ze Ē (u.zh.fresh Ē)
#print L2
namespace L3
open Ħ Ķ Îa ī L2
noncomputable def Ul(i:Nat):FA:=λτ=>match τ[i]? with
 |À (À (Â,.dic _ ds))=>À ds|_=>Ä
def z1v(i:Nat):Ye i (Ul i):=λτ x a=>by
 unfold Ul at a
 split at a;rename_i c b e;exact⟨c,b,e⟩;cases a
def oN{ks:Á zW}{vs:Á V}{i:Nat}{k:zW}{v:V}(h:Ŏa[i]?=À (k,v)):ks[i]?=À k/\vs[i]?=À v:=by rw[List.getElem?_zip_eq_some]at h;exact h
def z2d{K:Í}{G:Hp}{a:É}{o:Obj}{ks:Á zW}{ds:Á D}{vs:Á V}(h:ĭ=Ā)(e:G a=À Éj)(rs:Þ K G ds vs):jn K (Ds a o Ŏa) G ds where
 go:=λi g H c b f=>⟨b _ _ Ęs,by rw[ūa,h,Űa,óf];exact f⟩
 uh:=λi g H x n c b f y=>by obtain⟨rfl,k,m⟩:=y;obtain⟨d,j,l⟩:=rs.at (oN m).2;exact⟨g,d,ŉa b,j,l.mono c⟩
 ţ:=λi g H c b f=>⟨b _ _ Ęs,by rw[ūa,h,Űa,óf];exact f⟩
def y9e(n:X.N[i]?=À x)(hv:jl îa x)(l:Ê Ļ q10)(d:Ê Ŭb q10)(c:Ê Ûi q12)(b:Ê ìc q12):Op X i tg üm (Ul i):=by refine⟨⟨_,y53 n hv l d c b,λ{y v G H τ σ w R} K g f q=>?_⟩⟩;obtain⟨a,o,u,k,t,m,h,e,r,j,s⟩:=g;unfold Ul at f;rw[m]at f;cases f;exact⟨a,o,_,h,øa _ _ e,q _ _ _ Üh s (z2d r e j)⟩
def z1u(h:Ye i fs):Ye i (wU n fs fg ft f):=λτ x c=>by obtain⟨b,a,_⟩:=zJ c;exact h τ b a
section
variable{X:Cx}{i:Nat}{tg Ū elt:Ñ}{ifs:Á Ñ}{ŉ:ča}{cl:Á ďb}{own:Á Str}{pos:Pos}{fs:FA}{fg:FG}{ft:FT}{f:FE}{g:TG}
def y96(a:Ž=Ã)(B:Yc X ŉ cl own)(hi:Op X i tg Ū fs)(m:BG X ŉ cl own tg g fg)(t:∀C s H fp pn,WR êa ifs ft)(w:∀C s H fp pn,SE êa elt f)(n:Ê (∀x,Ŵb Ū Ô x=pure x) q11) :bK X i įb ûg:=by
 obtain⟨O,r,F⟩:=Ëd;refine⟨⟨_,iE a B r (ψb (m.q C s H fp pn)) (λC s H fp pn=>LA (t C s H fp pn)) (Αb (w C s H fp pn)) n,λ{U R G H τ σ d Q} K u b q=>?_⟩⟩;obtain⟨S,A,b⟩:=zJ b;obtain⟨z,o,b⟩:=zJ b;cases b;refine F K u A λJ T N j l v=>MB v l Ăl o (m.k K.l2 K.l1) λy L P c I E p e=>?_
 exact q p _ _ (j.trans ķo) (j.h.free (üh e)) (Ðh e) ⟨y,ya,I,E⟩
#print a
#print L3
namespace L2
open Ħ Ķ Îa ī
def Dp(a:É)(o:Obj)(kvs:Á ż):It:=⟨λi H=>H a=À Âa/\i<ĺ,λi H v b=>∃p k u,H p=Ä/\v=.ref p/\kvs[i]?=À (k,u)/\b=zX H p üj,λi H=>H a=À Âa/\ĺ<=i⟩
def x4j{P:å}{w:ß}{K:Í}{y:Á Ñ}{Z:Nat}{pos:Pos}{kvs:Á ż}{o:Obj}{es:Ø Ëc}{ep:Nat}(a it:É)(d:şa=.dict es ep) :ga P w K (.Tuple y Z pos) Ŕq ıc it (λi h=>∃ok ov,IsItemIter h it a i ĺ ep ok ov) where
 mem:=by simp
 obj:=λi h st b hb=>by
  have e:b=it:=by simpa using hb
  subst e;obtain⟨ok,ov,g⟩:=st;exact⟨_,g,λv q=>nomatch q⟩
 ıa:=λi h h' st k=>by obtain⟨ok,ov,g⟩:=st;exact⟨ok,ov,k it ã _ g⟩
 öb:=by
  intro X R U hK m i z8 s σ H E I G st t;subst R U hK;obtain⟨ok,ov,g⟩:=st;obtain⟨_,f,j,S⟩:=Ud Ĕ t.1 d;have r:Ŀa=ĺ:=j_ j;have hi:i<Ŀa:=by rw[r];exact t.2
  have J:f[i]?=À (f[i].1,f[i].2):=Ģ hi;obtain⟨u,hk,ru⟩:=Gy j J;have p:it<Û:=ħ g;rw[<-r]at g;refine wpAny_pyNext_items_item g S J λn N x ho ht hz Y=>?_
  refine⟨_,rfl,wpAny_letOwnedTupleGo_items (s:={ s with ç:=N }) ho λF B l=>?_⟩
  replace l:ńb it N F:=l
  have Q:Ą Û=Ä:=by
   cases q:Ą Û with
   |Ä=>rfl|À o=>exact Ú ľf Ôa
  have C:H Û=Ä:=źb Ē;have tup:Ńl Û=À { cls:=.type Ŧ,Ć:=.seq #[n,f[i].2] }:=Ċd _ _ (ŀb p) ht
  have Z:∀c o,c ∉ ıc->Ą c=À o->Ńl c=À o:=λc o m z=>by
   have A:c≠it:=λq=>m ġm
   exact Ċd _ _ A (Y c o A z)
  have L:xT ó X.w (zX H Û Ŗi) F Û Ŗi:=⟨Ĵi,[n,f[i].2],.cons (eP x) (.cons ru .nil),⟨_,tup,rfl,_,rfl⟩⟩;rw[r]at B;refine⟨.ref Û,zX H Û Ŗi,I.DB (tk:=đ) G Z Q C L,rfl,⟨Û,_,u,C,rfl,hk,rfl⟩,⟨n,_,B⟩,λc m=>?_⟩;rw[yB];exact(G c m).1;intro q;have e:c=it:=by simpa using m
  rw[e]at q;rw[q]at p;exact Ú p Ôa
 done:=by intro X R U hK m i z8 s σ H E I G st t;subst R U hK;obtain⟨ok,ov,g⟩:=st;obtain⟨_,f,j,S⟩:=Ud Ĕ t.1 d;have r:Ŀa=ĺ:=j_ j;have J:f[i]?=Ä:=Űb (by rw[r];exact t.2);rw[<-r]at g;exact wpAny_pyNext_items_end Ċl g S J λN T=>⟨rfl,I.but (tk:=đ) G λc ob O eb=>T c ob (λq=>O ġm) eb⟩
 çc:=λ_ _ _ _ _ st h=>by obtain⟨ok,ov,g⟩:=st;exact W.kcp_self g h
def z5j(i:Nat):TI:=λσ H R=>∃a o kvs,σ[i]?=À Ćf/\H a=À Âa/\R Ŕq H
def y52{X:Cx}{l:Á Ñ}{kk:Nat}{r:Pos}{x:Str}{p f d:Pos}{i:Nat}(S:X.N[i]?=À x)(hv:jl îa x)(Y:Ê Ļ q10)(z:Ê Ŭb q10)(k:Ê ĝm q12)(j:Ê Ĩn q12) :PI X (.Tuple l kk r) (.Call (.Attribute Ĝa š f) [] [] d) (z5j i):=by
 intro L s σ H R I B;obtain⟨a,o,m,P,e,B⟩:=B;refine Ďi k j (zn (V7 (pos:=p) S hv Y z L s σ H (λv n=>v=.ref a/\n=H) I ⟨_,P,rfl,rfl⟩) λv c ⟨y,n,G,r1,e1,e2⟩=>?_);subst e1 e2;cases(show v=Ċ a from r1);obtain⟨g,_,_,_,_,o',es,ep,J,_,h,_⟩:=(show xT ó X.w n Ěe a (.yJ o (.dK m))from G.zh a _ e);rw[g]at J;cases J;obtain⟨U,C,E,K⟩:=Ud G.zh e h;have T:C.length=Ėd:=j_ E;have u:Ĩj Ăc a C:=K.dictOf
 have W:∀b,Ċ a=.ref b->∃t,Ôe b=À t/\t.dict=Ä:=λb q=>by cases q;obtain⟨t,_,_,O,Q,_⟩:=u;exact⟨t,O,Q.2.1⟩
 refine⟨Ż,_,Üg,ŀn,PySem.F.type_dict_items,u.typeIs,W,ĺe rfl īi⟩;refine Śe ŀn u.typeIs PySem.F.entry_dict_items (PySem.F.args_dict_items_1 _) (meets_dict_items Ăc a U) ⟨⟨C,u⟩,?_⟩;have A:zI X L σ n { c with ç:=Ñf { cls:=.type Ĉq,Ć:=.fields #[.ref a] } }:=G.kept (t':=įd) λb o e=>Ī _ e
 refine wpAny_pyIter_items (knd:=xE ó X.w) (s:={ c with ç:=Ñf { cls:=.type Ĉq,Ć:=.fields #[.ref a] } }) ⟨_,ū _ rfl,rfl,rfl⟩ (K.push _) ?_;rw[T];refine⟨_,[_],_,_,n,rfl,A.kept (t':=įd) λb o e=>Ī _ e,x4j a _ h,⟨_,_,ū _ rfl⟩,λb Z=>?_,B⟩;have e:=ëa Z;subst e;exact A.Ze Ē (A.zh.fresh Ē)
#print L2
namespace L3
open Ħ Ķ Îa ī L2
def Y8(ks:Á zW)(ds:Á D):Á D:=ľb (λk d=>æc [Up k,d]) ks ds
def Uk(i:Nat):FA:=λτ=>match τ[i]? with
 |À ļi=>if Őh Y5=Ã then À Ňr else Ä|_=>Ä
def z1t(i:Nat):Ye i (Uk i):=λτ x a=>by
 unfold Uk at a
 split at a;rename_i c b e;exact⟨c,b,e⟩;cases a
def z1r{K:Í}{G:Hp}{a:É}{o:Obj}{ks:Á zW}{ds:Á D}{vs:Á V}(w:ĭ=Ā)(e:G a=À Éj)(rs:Þ K G ds vs)(h:Őh Y5=Ã):jn K (Dp a o Ŏa) G Ňr where
 go:=λi j H g c b=>⟨c _ _ ĕs,by unfold Y8 at b;rw[ŀc,<-óf]at b;rw[ūa];exact b⟩
 uh:=λi j H x v g c b y=>by obtain⟨p,k,u,l,rfl,m,rfl⟩:=y;obtain⟨f,q⟩:=oN m;obtain⟨d,s,r⟩:=rs.at q;refine⟨zX j p üj,.tup [Up k,d],Ûc c l,?_,?_⟩;unfold Y8;rw[ég,f,s];have t:zw G (zX j p üj):=ġd (vj (c.free l) _);exact⟨p,[kV k,u],rfl,īc ya,⟨_,_,rfl,eQ (Ĵb h k (Ľc f)),⟨u,_,rfl,þa t,rfl⟩⟩,L2.small (n:=2) È⟩
 ţ:=λi j H g c b=>⟨c _ _ ĕs,by unfold Y8 at b;rw[ŀc,<-óf]at b;rw[ūa];exact b⟩
def y9d(t:X.N[i]?=À x)(hv:jl îa x)(n:Ê Ļ q10)(g:Ê Ŭb q10)(f:Ê ĝm q12)(b:Ê ìc q12):Op X i (.Tuple elts kk tpos) (.Call (.Attribute Ĝa š ěa) [] [] ßa) (Uk i):=by
 refine⟨⟨_,y52 t hv n g f b,λ{z y G H τ σ s R} K k d q=>?_⟩⟩;obtain⟨a,o,j,h,w,r,l,e,u,m,v⟩:=k;unfold Uk at d;rw[r]at d
 change (if j.all Y5=Ã then À (Y8 j h)else Ä)=À s at d
 by_cases c:j.all Y5=Ã;rw[Ï c]at d;cases d;refine⟨a,o,_,l,øa _ _ e,q _ _ _ Üh ?_ (z1r u e m c)⟩;unfold Y8;rw[ŀc];exact Ğ ÿf v;rw[Ð c]at d;cases d
#print L3
namespace L2
open Ħ Ķ Îa ī
def z8h(a d:Value):Ŕh ëb ⟨[a],[(ťe,d)]⟩:=by unfold Ŕh;kernel_rfl
section
variable{Ĝ:å}{w:ß}{A:ø}{R:Ĳd->Ë->Prop}{I:É}{fp wr:Á É}{n:Nat}{P:Nat->Value->Prop}{St:Nat->Heap->Prop}{kw:Á Ãc}
def MN:(Ųk ëb ++ Ųk ".loop" : Ïa) = Ük:=by decide
theorem HX(W:Walks Ĝ w Ų I fp wr n P St)(q:Nat->Nat->Ì)(m:CmpOf Ĝ w Ų .Gt P q)(S:É)(p:S ∉ fp):∀(k j:Nat)(s:Ë)(vb:Value)(c:Nat),n-Ŝ=k->j+1<=n->St Ŝ Ý->P Ŀk vb->
  Ą S=À { cls:=.type Ġ,dict:=Ä,Ć:=.seq #[vb,vb] c,Äd:=#[] }->(∀v h' tk,P (ēd q Ŧf) v->(∀b o,b ∉ wr->b≠S->Ą b=À o->ġ b=À o)->R ĭs { s with ç:=h',Ė:=tk })->
  Ĝb è A (.builtin Ük ⟨ŷn,kw⟩) R s
 |k,j,s,vb,c,hk,hj,hst,hPb,hS,hR=>by
  have z:S ∉ wr:=λh=>p úr
  refine Šd Ŗn ?_;rw[ļe Şd _]
  change Ù _ Ų Ĕn _ _ s
  refine Ò (ĳb hS rfl ?_)
  change Ù _ Ų ŗm _ _ s
  match k,hk with
  |0,hk=>
   have y:j+1=n:=by omega
   refine Ò (Ţd (W.done s _ _ (y▸hst) λh' tk d=>?_));have l:=d S _ z hS
   change Ù _ Ų (ψd Ħr) _ _ _
   refine Ò (åg l rfl þs);exact hR vb _ tk (by rw[<-y];exact hPb) λb o a f e=>(Áj).trans Ïk
  |k+1,hk=>
   have x:j+1<n:=by omega
   refine Ò (Ţd (ļl Ŝ s _ _ x hst λv h' tk E r d=>?_));have l:=d S _ z hS
   change Ù _ Ų (tryCatch (holding [v,v] (richCompare .Gt v vb >>= _)) _ >>= _) _ _ _
   refine Ò (Ţd (ÿb (Ò (m Ŝ Ŀk v vb _ _ _ E hPb (Ò (ÿb (řd þs)))))));cases hb:q Ŝ Ŀk with
   |Ã=>simp only[ś];refine Ò (åg l rfl (Ò (Žf ?_)));rw[MN];refine ĝ ⟨ũd Şd _,HX W q m S p k Ŝ _ v _ Å x (øl _ _ _ r λb B o e=>?_) (by simp only[ēd,hb,ś];exact E) (êg _ l rfl) λC t i u g=>?_⟩;exact(ĵe _ _ (λh:S=b=>p (by rw[h];exact B))).trans e;exact hR C t i u λb o a f e=>g b o a f ((Áj).trans Ïk)|Â=>simp only[Ĺb,ða];refine Ò (Žf ?_);rw[MN];refine ĝ ⟨ũd Şd _,HX W q m S p k Ŝ _ vb c Å x r (by simp only[ēd,hb,Ĺb,ða];exact hPb) l λC t i u g=>?_⟩;exact hR C t i u λb o a f e=>g b o a f Ïk
def z8i(W:Walks Ĝ w Ų I fp wr n P St)(u:Nat->Nat->Ì)(q:CmpOf Ĝ w Ų .Gt P u)(S:É)(g:S ∉ fp)(l:St 0 Ý)(C:Ą S=À { cls:=.type Ġ,dict:=Ä,Ć:=.seq #[] c,Äd:=#[] })(B:∀v h' tk,ðr->(0<n->P (ēd u Ŧf) v)->(∀b o,b ∉ wr->b≠S->Ą b=À o->ġ b=À o)->R ĭs { s with ç:=h',Ė:=tk }) :Ĝb è A (.builtin Ük ⟨ŷn,Źg⟩) R s:=by
 have t:S ∉ wr:=λh=>g úr
 refine Šd Ŗn ?_;rw[ļe Şd _]
 change Ù _ Ų Ĕn _ _ s
 refine Ò (ĳb C rfl ?_)
 change Ù _ Ų ŗm _ _ s
 by_cases hn:n=0;subst hn;refine Ò (Ţd (W.done s _ _ l λh' tk a=>?_))
 change Ù _ Ų (rule _ >>= _) _ _ _
 refine Ò (ūd Ŋb);exact B dv _ tk šc (λz=>Ú z Ôa) λb o d f e=>a b o d e;have i:0<n:=by omega
 refine Ò (Ţd (ļl 0 s _ _ i l λv h' tk E m a=>?_));have p:=a S _ t C
 change Ù _ Ų (ψd (λ_=>#[v,v])) _ _ _
 refine Ò (åg p rfl ?_);rw[MN];refine ĝ ⟨ũd Şd _,HX W u q S g _ 0 _ v _ rfl i (øl _ _ _ m λb x o e=>?_) E (êg _ p rfl) λG r k y j=>?_⟩;exact(ĵe _ _ (λh:S=b=>g (by rw[h];exact x))).trans e;exact B G r k (λz=>Ú z hn) (λ_=>y) λb o d f e=>j b o d f ((Áj).trans (a b o d e))
#print a
section
variable{Ĝ:å}{w:ß}{A:ø}{E:Value->Ë->Prop}{s:Ë}
def x4f{a:Ïa}{b:ýl}{Óa:Á Value}{c:Á Ãc}{Q:Value->Ë->Prop}(hk:builtinKind a=Ä)(i:plainId a=Ã)(j:entryFor table a=À b)(h:Ŕh a ⟨Óa,c⟩)(g:Ù è Ų (b ⟨Óa,c⟩) (λfin s'=>match fin with
   |.done f=>(match(Except.ok f:Ĳd)with|.ok úf=>Q v s'|.ok _=>ò|.error e=>E e s')
   |.again c'=>c'.quiet=Ã/\Ĝb è A c' (λr s'=>match r with|.ok úf=>Q v s'|.ok _=>ò|.error e=>E e s') s') E s):Ù è A (Çb (.builtin a) Óa c) Q E s:=by
 refine âk (codeAny_call_builtin i j ?_);simp only[checkBuiltinCall,hk];cases hsig:Manifest.signature? a with
 |Ä=>exact ĝ g|À sig=>
  have d:Bind.checkArgs a sig ⟨Óa,c⟩=pure ():=by simpa only [Ŕh,hsig]using h
  simp only[d];exact ĝ g
def z10
  (h:Ù è Ų (Ňf x) (λit s₂=>∃I fp wr n P St bt,it=.ref I/\Walks Ĝ w Ų I fp wr n P St/\St 0 s₂.heap/\(∀b∈fp,b<Ři)/\CmpOf Ĝ w Ų .Gt P bt/\
   ∀v h' tk,ðr->(0<n->P (ēd bt Ŧf) v)->(∀b o,b ∉ wr->s₂.heap.get? b=À o->ġ b=À o)->Q v { s₂ with ç:=h',Ė:=tk }) E s) :
  Ù è A (Çb Źp [x] Źg) Q E s:=by
 refine x4f PySem.F.kind_max PySem.F.plain_max PySem.F.entry_max (z8h _ _) ?_
 change Ù _ Ų (ûn ëb Ír 0 ⟨[],Źg⟩ >>= _) _ _ s
 refine Ò (Ĉg (show ûn ëb Ír 0 ⟨[],Źg⟩=pure [Ä,À dv]from rfl) ?_);refine Ò (Ιa (ĝa h (λit s₂ m=>?_) λ_ _ e=>e));obtain⟨I,fp,wr,n,P,St,bt,rfl,W,f,g,a,p⟩:=m;refine Ò (Ùd ?_);have d:Ři ∉ fp:=λj=>Æe _ (g _ j)
 rw[MN];refine ĝ ⟨ũd Şd _,z8i W bt a Ři d (øl _ _ _ f λb _ o e=>Ī _ e) Ée λv h' tk l k i=>?_⟩;exact p v h' tk l k λb o c e=>i b o c Ńk áh
#print a
section
variable{X:Cx}
noncomputable def łd:Á Int->Int
 | []=>0|x::xs=>ĕf ĸe x
theorem fF:∀(xs:Á Int)(x:Int),(ĕf ĸe x=x\/ĕf ĸe x∈xs)/\x<=ĕf ĸe x/\∀y∈xs,y<=ĕf ĸe x
 | [],x=>⟨.inl rfl,Ĥa _,λy h=>Ú h ã⟩|z::xs,x=>by
  obtain⟨a,b,c⟩:=fF xs ŀi;have e:x<=if x<z then z else x:=by split<;>omega
  have f:z<=if x<z then z else x:=by split<;>omega
  refine⟨?_,Ìe e b,λy d=>?_⟩;rcases a with a|a;by_cases q:x<z;rw[Ï q]at a
  right
  show ße _ ŀi xs∈z::xs;rw[Ï q,a];exact ĵ;left
  rw[Ð q]at a;show ße _ ŀi xs=x;rw[Ð q,a];exact .inr ìe;rcases ľ d with rfl|d;exact Ìe f b;exact c y d
def z81(h:xs≠[]):łd xs∈xs/\∀y∈xs,y<=łd xs:=by
 cases xs with
 |nil=>exact Ú rfl h|Ĉ x xs=>obtain⟨a,b,c⟩:=fF xs x;refine⟨?_,λy d=>?_⟩;rcases a with a|a;show ße _ x xs∈_;rw[a];exact ĵ;exact ÿa _ a;rcases ľ d with rfl|d;exact b;exact c y d
def Ŵr(h:m∈xs)(c:∀y∈xs,y<=m):m=łd xs:=by obtain⟨a,b⟩:=z81 (xs:=xs) (λz=>by rw[z]at h;exact Ú h ã);have:=b m h;have:=c _ a;omega
def x0m(K:Í)(b c:TE):TE:=λσ H Q=>b σ H λx d=>c σ d λz a=>∃(p:É) (ns:Á Int),x=.ref p/\yf K a p Ġa/\Q řm a
def iw(K:Í)(x:V)(Q:VK):Á V->Hp->Prop:=λb a=>match b with
 | [z]=>∃(p:É) (ns:Á Int),x=.ref p/\yf K a p Ġa/\Q řm a|_=>ò
def y62(K:Í)(c:TE)(σ:St)(Q:VK):Á V->Hp->Prop:=λa b=>match a with
 | [x]=>c σ b λz d=>iw K x Q [z] d|_=>ò
def y4m(f:Ž=Ã)(hg:Gl X ëb)(hm:ð ëb=Ä)(ha:PE X a ta)(hd:PE X e td)(L:Ê ăi q12) :PE X (.Call ąq [a] Óo pos) (x0m X.K ta td):=by
 intro U s σ H Q I h;have pa:PA X [a] (TW ta Xe):=i5 ha V5 L;have pk:PK X Óo (TW td Xe):=y5c hd y5e;refine łe (Wv I hg hm z0i ?_);refine PyProof.Rows.callWith_kw (zn (pa pos U s σ H (y62 X.K td σ Q) I h) λus s1 ⟨vs,H1,I1,C,P⟩=>?_) Ŭp Ŭp
 match vs,C,P with
 | [x],C,P=>
  obtain⟨u,rfl,ru⟩:=tQ C;refine zn (pk pos U s1 σ H1 (iw X.K x Q) I1 P) λws r ⟨zs,Y,B,G,J⟩=>?_
  match zs,G,J with
  | [z],G,J=>
   obtain⟨dv,rfl,rd⟩:=tQ G;obtain⟨l,c,rfl,hq,q⟩:=J;cases(show u=Ċ l from ru);have F:=B.ok.hd f;obtain⟨d,R,N,hz⟩:=B.list hq;have S:Ŗb=ħg:=by have:=Ðc;rw[ä]at this;rw[ģ];exact this
   have w:l<Ïj:=by obtain⟨o,n,e,_⟩:=N;exact ħ e
   refine z10 ?_;refine Śd N.isList ?_;refine⟨_,_,_,_,_,_,_,rfl,îk (by exact F) Ïj l (Ça w) d.toArray,⟨⟨_,ū _ rfl,rfl,rfl⟩,N.isList.push _⟩,?_,CmpOf.ints_gt Ŷo (λi v hv=>BO R hv),?_⟩;intro b T;show b<(r.heap.push _).objs.size;rw[żb];simp only[Ůa,Ğa,Ża]at T;rcases T with rfl|rfl;exact ïc _;exact ųd w;intro v h' W Z hP k
   have kp:∀b o,r.heap.get? b=À o->ġ b=À o:=λb o O=>k b o (λz=>by
    have:b=Ïj:=by simpa using z
    rw[this]at O;exact Ú (ħ O) Ôa) (Ī _ O)
   by_cases e0:c=[];rw[Ï e0]at q;have:v=dv:=Z (by rw[<-S,e0];rfl);subst this;exact⟨z,Y,B.kept (t':=W) kp,rd,q⟩;rw[Ð e0]at q;have g:0<Ŗb:=Įi e0;have E:=hP (by rw[<-S];exact g);obtain⟨t,rfl⟩:=BO R E;obtain⟨b1,b2⟩:=argBest_gt Ŷo (ħg-1);generalize ēd (λi j=>decide (ĸl i 0>ĸl j 0)) (ħg-1)=m at *;have A:m<Ŗb:=by omega
   have em:ĸl m 0=łd c:=by
    refine Ŵr ?_ λy hy=>?_;rw[Āa,Ģ A];exact Ÿb A;obtain⟨j,hj,rfl⟩:=Ņn hy;have:=b2 j Å
    rwa [Āa,Ģ hj]at this
   exact⟨.int (łd c),Y,B.kept (t':=W) kp,⟨t,by rw[<-em]⟩,q⟩
#print a
#print L2
namespace L3
open Ħ Ķ Îa ī L2
noncomputable def Z_:Á D->Æ âh
 | []=>À []|.int i::r=>(Z_ r).bind λa=>À řl|_::_=>Ä
theorem Gh{K:Í}{G:Hp}:∀{xs:Á D}{ns:Á Int}{vs:Á V},Z_ xs=À ns->Þ K G xs vs->vs=Ōa Ľd
 | [],ns,vs,h,r=>by cases h;exact(show vs=[]from r)|.int i::xs,ns,vs,h,r=>by obtain⟨d,b,h⟩:=zJ (show(ņh).bind _=_ from h);cases h;obtain⟨v,e,rfl,a,c⟩:=r;cases(show v=.int i from a);rw[Gh b c];rfl
 |.zE::_,_,_,h,_=>by cases h|.bl _::_,_,_,h,_=>by cases h|.str _::_,_,_,h,_=>by cases h|.tup _::_,_,_,h,_=>by cases h|.lst _::_,_,_,h,_=>by cases h|.dic _ _::_,_,_,h,_=>by cases h|.exc _::_,_,_,h,_=>by cases h|.obj _ _ _::_,_,_,h,_=>by cases h
theorem eB:∀ns:Á Int,Z_ Ņb=À ns
 | []=>rfl|n::ns=>by show(Z_ Ņb).bind _=_;rw[eB ns];rfl
def ED:D->D->Æ D
 |.lst xs,z=>(ņh).bind λa=>À (if a=[]then z else .int (łd a))|_,_=>Ä
def y8u{X:Cx}{a e:Ñ}{j k:FE}{p K pos:Pos}(f:Ž=Ã)(w:Gl X ëb)(s:ð ëb=Ä)(t:SE X a j)(J:SE X e k)(r:Ê ãe q12):SE X (.Call ąq [a] [⟨À ťe,e,K⟩] pos) (e2 ED j k):=by
 obtain⟨Z,B,C⟩:=t.h;obtain⟨U,L,P⟩:=J.h;refine⟨⟨_,y4m f w s B L (qB r),λ{G0 Y G H τ σ d Q} E b q=>?_⟩⟩;obtain⟨x,N,b⟩:=zJ b;obtain⟨z,O,b⟩:=zJ b;refine C E N λv S W g R=>?_
 refine P (Ťa g) O λu n m i y=>?_
 cases x with
 |lst xs=>obtain⟨o,I,b⟩:=zJ b;cases b;obtain⟨l,T,rfl,A,F,_⟩:=R;have e:=Gh I F;subst e;refine⟨l,o,rfl,uO (g.gh.trans i.h) A,?_⟩;by_cases c:o=[];rw[Ï c];rw[Ï c]at q;exact q u n m (ġd i) y;rw[Ð c];rw[Ð c]at q;exact q _ n m (ġd i) rfl
 |_=>cases b
noncomputable def EC:Á D->Æ D
 | [.dic ks _]=>À (.int ĭ)|_=>Ä
def z0v:vY X Żd Òm:=by intro g s σ H xs e Q I r h;obtain⟨a,kvs,rfl,c,q⟩:=h;obtain⟨u,rfl,d⟩:=tQ r;cases d;exact z1n I c λt f b=>⟨.int ĺ,H,b,⟨t,rfl⟩,q⟩
def y2m{K:Í}:WO K Òm EC:=λG H h c d Q s r b q=>by
 match h,b with
 | [.dic ks xs],b=>cases b;obtain⟨v,g,rfl,e,f⟩:=r;cases(show g=[]from f);obtain⟨a,c,rfl,i,j,k,_⟩:=e;refine⟨a,_,rfl,i,?_⟩;rw[ūa,<-j,Űa];exact q _ _ _ èa rfl
#print L3
namespace L3
open Ħ Ķ ī L2
inductive M where
 |fz (d:D)|own (d:D)|obj (x:Str) (fs:Á Str) (ms:Á M)|tab (ks:Á Ĩ) (ms:Á M)|tp (ms:Á M)
mutual
noncomputable def uQ:M->D
 |.fz d=>d|.own d=>d|.obj x fs ms=>.obj x fs Ţc|.tab ks ms=>.dic ks Ţc|.tp ms=>.tup Ţc
noncomputable def ļd:Á M->Á D
 | []=>[]|m::ms=>uQ m::ļd ms
end
noncomputable def ďa{κ α:Type}[Ąc κ]:Á κ->Á α->κ->Æ α
 |k'::ks,v::vs,k=>if k'=k then À v else ďa ks vs k|_,_,_=>Ä
noncomputable def uB{κ α:Type}[Ąc κ]:Á κ->Á α->κ->α->Á α
 |k'::ks,v::vs,k,y=>if k'=k then y::vs else v::uB ks vs k y|_,vs,_,_=>vs
inductive xj where
 |at(cs:Á Str) (f:Str)|ky (k:Sum Int Str)
def n8:M->xj->Æ M
 |.obj x fs ms,.at cs f=>if x∈cs then ďa fs ms f else Ä|.tab ks ms,.ky k=>ďa ks ms k|_,_=>Ä
def y90:M->xj->M->M
 |.obj x fs ms,.at _ f,m=>.obj x fs (uB fs ms f m)|.tab ks ms,.ky k,m=>.tab ks (uB ks ms k m)|m,_,_=>m
def pN:M->Á xj->Æ M
 |m,[]=>À m|m,s::π=>(n8 m s).bind λa=>pN a π
def pV:M->Á xj->M->Æ M
 |_,[],m'=>À m'|m,s::π,m'=>(n8 m s).bind λa=>(pV a π m').bind λb=>À (y90 m s b)
abbrev Ft:=É->Prop
mutual
def xU(K:Í)(G H:Hp):M->V->Ft->Prop
 |.fz d,v,L=>zZ K G d v/\∀q,¬ L q|.own d,v,L=>∃p,v=.ref p/\vN K G H d p/\∀q,L q↔q=p|.obj x fs ms,v,L=>∃p C dx vs L',v=.ref p/\ű K ė x=À ĕa/\H p=À ĵi/\Ÿa=Ā/\ũ K G H ms vs L'/\¬ L' p/\∀q,L q↔q=p\/L' q|.tab ks ms,v,L=>∃p vs L',v=.ref p/\H p=À Ĵs/\ĭ=Ā/\ũ K G H ms vs L'/\Ľa<=á/\¬ L' p/\∀q,L q↔q=p\/L' q|.tp ms,v,L=>∃p vs,v=.ref p/\xF K G p vs/\ũ K G H ms vs L/\Ľa<=á
def ũ(K:Í)(G H:Hp):Á M->Á V->Ft->Prop
 | [],vs,L=>vs=[]/\∀q,¬ L q|m::ms,vs,L=>∃v r L1 L2,vs=v::r/\xU K G H m v L1/\ũ K G H ms r L2/\(∀q,L1 q->L2 q->ò)/\∀q,L q↔L1 q\/L2 q
end
def Ái{P:M->Prop}(j:∀d,P İf)(own:∀d,P àl)(c:∀x fs ms,(∀m∈ms,P m)->P ęj)(a:∀ks ms,(∀m∈ms,P m)->P ŝq)(f:∀ms,(∀m∈ms,P m)->P (.tp ms))(m:M):P m:=
 M.rec (motive_1:=P) (motive_2:=λms=>∀m∈ms,P m) j own (λx fs ms h=>c x fs ms h) (λks ms h=>a ks ms h) (λms h=>f ms h) Ľo
  (λd k g b e i=>by rcases ľ i with z|z;exact z▸g;exact b e z) m
noncomputable def cA:HO->Ì
 |.lst _=>Ã|.dK _=>Ã|.ins _ _ _=>Ã|_=>Â
def Bx(H:Hp)(q:É):Prop:=∃u,H q=À u/\cA u=Ã
def Bx.some{H:Hp}{q:É}(b:Bx H q):H q≠Ä:=by obtain⟨u,e,_⟩:=b;rw[e];exact λz=>nomatch z
section
variable{K:Í}{G H G' H':Hp}
def vN.loc{d:D}{p:É}(g:zw G G')(h:H' p=H p)(o:vN K G H d p):vN K G' H' d p:=by
 cases d with
 |lst ds=>obtain⟨a,e,r,l⟩:=o;exact⟨a,Ķf e,þa g,l⟩
 |dic ks ds=>obtain⟨a,e,z,r,l⟩:=o;exact⟨a,Ķf e,z,þa g,l⟩
 |_=>exact Ĭd
theorem ĉd:∀{ms:Á M}{vs:Á V}{L:Ft},(∀m∈ms,∀v L1,(∀q,L1 q->L q)->xU K G H m v L1->xU K G' H' m v L1)->ũ K G H ms vs L->ũ K G' H' ms vs L
 | [],_,_,_,h=>h|m::ms,vs,L,f,h=>by obtain⟨v,r,L1,g,e,b,d,j,u⟩:=h;exact⟨v,r,L1,g,e,f m ĵ v L1 Ŝn b,ĉd (λa c i k s o=>f a Ňk i k Ům o) d,j,u⟩
theorem xU.loc(g:zw G G')(m:M):∀(v:V)(L:Ft),(∀q,L q->H' q=H q)->xU K G H m v L->xU K G' H' m v L:=by refine Ái (P:=λm=>∀v L,(∀q,L q->H' q=H q)->xU K G H m v L->xU K G' H' m v L) ?_ ?_ ?_ ?_ ?_ m;rintro d v L h ⟨r,n⟩;exact⟨þa g,n⟩;rintro d v L h ⟨p,e,o,u⟩;exact⟨p,e,Ÿh g (h p ĵp),u⟩;rintro x E t i v L h ⟨p,C,w,a,k,e,B,j,l,r,n,u⟩;exact⟨p,C,w,a,k,e,B,(èh).trans j,l,ĉd ŷm r,n,u⟩;rintro F t i v L h ⟨p,a,k,e,j,l,r,y,n,u⟩;exact⟨p,a,k,e,(èh).trans j,l,ĉd ŷm r,y,n,u⟩;rintro t i v L h ⟨p,a,e,A,r,l⟩;exact⟨p,a,e,uD g A,ĉd (λm c f b s o=>i m c f b âp o) r,l⟩
theorem Ēq:∀{ms:Á M}{vs:Á V}{L:Ft},ũ K G H ms vs L->Ā=Ľa
 | [],_,_,h=>by obtain⟨rfl,_⟩:=h;rfl
 |m::ms,_,_,h=>by obtain⟨v,r,b,c,rfl,_,a,_⟩:=h;rw[ĕ,ĕ,Ēq a]
theorem vN.bx{d:D}{p:É}(o:vN K G H d p):Bx H p:=by
 cases d with
 |lst ds=>obtain⟨a,e,_⟩:=o;exact⟨_,e,rfl⟩
 |dic ks ds=>obtain⟨a,e,_⟩:=o;exact⟨_,e,rfl⟩
 |_=>exact Ĭd
theorem Õe:∀{ms:Á M}{vs:Á V}{L:Ft},(∀m∈ms,∀v L1,xU K G H m v L1->∀q,L1 q->Bx H q)->ũ K G H ms vs L->∀q,L q->Bx H q
 | [],_,_,_,h,q,z=>Ú z (h.2 q)|m::ms,vs,L,f,h,q,z=>by obtain⟨v,r,L1,g,e,b,c,i,u⟩:=h;rcases(u q).mp z with z|z;exact f m ĵ v L1 b q z;exact Õe (λa d=>f a ņk) c q z
theorem xU.cells(m:M):∀(v:V)(L:Ft),xU K G H m v L->∀q,L q->Bx H q:=by refine Ái (P:=λm=>∀v L,xU K G H m v L->∀q,L q->Bx H q) ?_ ?_ ?_ ?_ ?_ m;rintro d v L ⟨r,n⟩ q z;exact Ú z (n q);rintro d v L ⟨p,e,o,u⟩ q z;cases(u q).mp z;exact o.bx;rintro x h f a v L ⟨p,C,i,c,g,e,t,b,l,r,n,u⟩ q z;rcases(u q).mp z with rfl|z;exact⟨_,b,rfl⟩;exact Õe a r q z;rintro j f a v L ⟨p,c,g,e,b,l,r,k,n,u⟩ q z;rcases(u q).mp z with rfl|z;exact⟨_,b,rfl⟩;exact Õe a r q z;rintro f a v L ⟨p,c,e,s,r,l⟩ q z;exact Õe a r q z
theorem RB:∀(ms:Á M),(Ţc).length=Ľa
 | []=>rfl|m::ms=>by show(Ţc).length+1=_;rw[RB ms];rfl
theorem Ğf:∀{ms:Á M}{vs:Á V}{L:Ft},(∀m∈ms,∀v L1,(∀q,L1 q->L q)->xU K G H m v L1->zZ K G' Ŏl v)->ũ K G H ms vs L->Þ K G' Ţc vs
 | [],_,_,_,h=>h.1|m::ms,vs,L,f,h=>by obtain⟨v,r,L1,j,e,b,d,k,u⟩:=h;exact⟨v,r,e,f m ĵ v L1 Ŝn b,Ğf (λa c g i s o=>f a Ňk g i Ům o) d⟩
theorem xU.pH(g:zw G G')(m:M):∀(v:V)(L:Ft),(∀q,L q->G' q=H q)->xU K G H m v L->zZ K G' Ŏl v:=by
 refine Ái (P:=λm=>∀v L,(∀q,L q->G' q=H q)->xU K G H m v L->zZ K G' Ŏl v) ?_ ?_ ?_ ?_ ?_ m;rintro d v L h ⟨r,n⟩;exact þa g;rintro d v L h ⟨p,rfl,o,u⟩;have b:=h p ĵp;cases d with
 |lst ds=>obtain⟨a,e,r,l⟩:=o;exact⟨p,a,rfl,åc ør,þa g,l⟩
 |dic A ds=>obtain⟨a,e,z,r,l⟩:=o;exact⟨p,a,rfl,.inl ør,z,þa g,l⟩
 |_=>exact Ĭd
 rintro x F k j v L h ⟨p,C,t,a,w,e,E,b,l,r,n,u⟩;exact⟨p,C,t,a,e,E,(èh).trans b,l,Ğf Ŷm r⟩;rintro A k j v L h ⟨p,a,w,e,b,l,r,B,n,u⟩;exact⟨p,a,e,.inl ((èh).trans b),l,Ğf Ŷm r,by rw[RB];exact B⟩;rintro k j v L h ⟨p,a,e,y,r,l⟩;exact⟨p,a,e,uD g y,Ğf (λm f i c s o=>j m f i c âp o) r,by rw[RB];exact l⟩
theorem Ôf{κ:Type}[Ąc κ]{k:κ}{A:M}:∀{ks:Á κ}{ms:Á M}{vs:Á V}{L:Ft},ũ K G H ms vs L->ďa ks ms k=À A->
  ∃v1 L1,ďa ks vs k=À v1/\xU K G H A v1 L1/\(∀q,L1 q->L q)/\∀{G' H':Hp}{m2:M}{L2:Ft},zw G G'->(∀q,L q->¬ L1 q->H' q=H q)->xU K G' H' m2 v1 L2->(∀q,L2 q->L q->L1 q)->ũ K G' H' ęp vs Ăn
 | [],_,_,_,_,e=>by cases e|_::_,[],_,_,_,e=>by cases e|k'::ks,m::ms,vs,L,h,e=>by
  obtain⟨v,r,n,t,rfl,x,y,b,u⟩:=h;unfold ďa at e;by_cases c:k'=k;rw[Ï c]at e;cases e;refine⟨v,n,by unfold ďa;rw[Ï c],x,λq z=>(óa).mpr Ćd,λ{G' H' m2 L2} g i p l=>?_⟩;unfold uB;rw[Ï c];refine⟨v,r,L2,t,rfl,p,?_,λq d a=>b q (l q d ((óa).mpr (.inr a))) a,λq=>?_⟩;exact ĉd (λB _ C E s o=>Ÿh g B C E λq z=>i q (Εa Ýf) λw=>b q w Ýf) y;constructor;rintro(⟨z,w⟩|z);rcases(u q).mp z with z|z;exact Ú z w;exact .inr z;exact .inl z;rintro(z|z);exact .inr z;exact .inl ⟨(óa).mpr ņb,λw=>b q w z⟩;rw[Ð c]at e;obtain⟨v1,L1,e1,F,j,f⟩:=Ôf y e;refine⟨v1,L1,by unfold ďa;rw[Ð c];exact e1,F,λq z=>(óa).mpr (.inr (j q z)),λ{G' H' m2 L2} g i p l=>?_⟩;unfold uB;rw[Ð c];refine⟨v,r,n,λq=>(t q/\¬ L1 q)\/L2 q,rfl,?_,f g (λq z w=>i q Ńe w) p (λq z w=>l q z ((óa).mpr (.inr w))),λq d a=>?_,λq=>?_⟩
  exact x.loc g m v n λq z=>i q őe λw=>b q z (j q w);rcases a with⟨a,_⟩|a;exact b q d a;exact b q d (j q (l q a ((óa).mpr æl)));constructor;rintro(⟨z,w⟩|z);rcases(u q).mp z with z|z;exact .inl z;exact .inr ìp;exact .inr ņb;rintro(z|⟨z,w⟩|z);exact .inl ⟨(óa).mpr Ćd,λw=>b q z (j q w)⟩;exact .inl ⟨(óa).mpr ņb,w⟩;exact .inr z
#print a
def w_(K:Í)(H:Hp):V->Á xj->V->Prop
 |v,[],u=>u=v|v,.at cs f::π,u=>∃p x C dx fs w,v=.ref p/\x∈cs/\ű K ė x=À ĕa/\H p=À Ŀb/\ŕc f=À w/\w_ K H w π u|v,.ky k::π,u=>∃p kvs w,v=.ref p/\H p=À Ł/\qc kvs k=À w/\w_ K H w π u
theorem ME{κ α:Type}[Ąc κ][BEq κ][LawfulBEq κ]{k:κ}:∀{ks:Á κ}{vs:Á α},(Ŏa).lookup k=ďa ks vs k
 | [],_=>rfl|_::_,[]=>rfl|k'::ks,v::vs=>by
  rw[ĸb,Ũe];unfold ďa;by_cases c:k'=k;subst c;rw[Ï rfl];simp;rw[Ð c];have:(k==k')=Â:=by simpa using λz=>c Ėe
  rw[this];exact ME
theorem dN{α:Type}{k:Sum Int Str}:∀{ks:Á Ĩ} {vs:Á α},ďa ks vs k=Ă ks vs k
 | [],_=>by unfold ďa Ă;rfl|_::_,[]=>by unfold ďa Ă;rfl|k'::ks,v::vs=>by unfold ďa Ă;by_cases c:k'=k;rw[Ï c,Ï c];rw[Ð c,Ð c];exact dN
section
variable{K:Í}{G H G' H':Hp}
theorem îl(s:zw H H'):∀{π:Á xj}{v u:V},w_ K H v π u->w_ K H' v π u
 | [],_,_,h=>h|.at cs f::π,_,_,h=>by obtain⟨p,x,C,g,d,w,e,c,i,b,l,r⟩:=h;exact⟨p,x,C,g,d,w,e,c,i,s _ _ b,l,îl s r⟩
 |.ky k::π,_,_,h=>by obtain⟨p,a,w,e,b,l,r⟩:=h;exact⟨p,a,w,e,s _ _ b,l,îl s r⟩
theorem īd:∀{π:Á xj}{v u u':V},w_ K H v π u->w_ K H v π u'->u=u'
 | [],_,_,_,h,h'=>Ķf h'.symm|.at cs f::π,_,_,_,h,h'=>by obtain⟨p,x,C,z,y,w,rfl,A,B,c,l,r⟩:=h;obtain⟨o,E,t,n,q,i,e,s,j,a,b,d⟩:=h';cases e;rw[c]at a;cases a;rw[l]at b;cases b;exact īd r d
 |.ky k::π,_,_,_,h,h'=>by obtain⟨p,m,w,rfl,c,l,r⟩:=h;obtain⟨o,g,i,e,a,b,d⟩:=h';cases e;rw[c]at a;cases a;rw[l]at b;cases b;exact īd r d
theorem íl:∀{π:Á xj}{s:xj}{v u:V},w_ K H v (π++[s]) u->∃w,w_ K H v π w/\w_ K H w [s] u
 | [],_,v,_,h=>⟨v,rfl,h⟩|.at cs f::π,_,_,_,h=>by obtain⟨p,x,C,j,i,w,e,m,n,c,l,r⟩:=h;obtain⟨a,g,d⟩:=íl r;exact⟨a,⟨p,x,C,j,i,w,e,m,n,c,l,g⟩,d⟩
 |.ky k::π,_,_,_,h=>by obtain⟨p,b,w,e,c,l,r⟩:=h;obtain⟨a,g,d⟩:=íl r;exact⟨a,⟨p,b,w,e,c,l,g⟩,d⟩
theorem Űk{m1:M}:∀{π:Á xj}{m:M}{v:V}{L:Ft},xU K G H m v L->pN m π=À m1->
  ∃v1 L1,w_ K H v π v1/\xU K G H m1 v1 L1/\(∀q,L1 q->L q)/\∀{G' H':Hp}{m2:M}{L2:Ft},zw G G'->(∀q,L q->¬ L1 q->H' q=H q)->xU K G' H' m2 v1 L2->(∀q,L2 q->L q->L1 q)->
   ∃m',pV m π m2=À m'/\xU K G' H' m' v Ăn
 | [],m,v,L,h,e=>by
  cases e;refine⟨v,L,rfl,h,λ_ z=>z,λ{G' H' m2 L2} g B O t=>⟨m2,rfl,?_⟩⟩
  have e:(λq=>(L q/\¬ L q)\/L2 q)=L2:=by
   funext q
   exact ñl ⟨λz=>Ða (λw=>Ú w.1 w.2) id,.inr⟩
  rw[e];exact O
 |s::π,m,v,L,h,e=>by
  obtain⟨P,b,ee⟩:=zJ e
  have J:∀{p:É}{o L1 L2:Ft},¬ o p->(∀q,L q↔q=p\/o q)->(∀q,L1 q->o q)->(∀q,L2 q->L q->L1 q)->(¬ ((o p/\¬ L1 p)\/L2 p))/\∀q,((L q/\¬ L1 q)\/L2 q)↔q=p\/((o q/\¬ L1 q)\/L2 q):=λ{p o L1 L2} n u s t=>by refine⟨?_,λq=>⟨?_,?_⟩⟩;rintro(⟨z,_⟩|z);exact n z;exact n (s p (t p z Ìg));rintro(⟨z,w⟩|z);rcases(u q).mp z with z|z;exact .inl z;exact .inr ìp;exact .inr ņb;rintro(rfl|⟨z,w⟩|z);exact .inl ⟨(óa).mpr Ĺ,λw=>n (s q w)⟩;exact .inl ⟨(óa).mpr ņb,w⟩;exact .inr z
  cases m with
  |fz d=>cases b|own d=>cases b|tp a=>cases b|obj x fs a=>
   cases s with
   |ky k=>cases b| «at» cs f=>
    change ŏm=À P at b
    by_cases hx:x∈cs;rw[Ï hx]at b;obtain⟨p,C,dx,U,o,rfl,ns,I,l,r,n,u⟩:=h;obtain⟨W,F,e1,R,j,Q⟩:=Ôf r b;obtain⟨v1,L1,S,Y,i,Z⟩:=Űk R ee;refine⟨v1,L1,⟨p,x,C,dx,_,W,rfl,hx,ns,I,by rw[ME];exact e1,S⟩,Y,λq z=>(óa).mpr èo,λ{G' H' m2 L2} g B O t=>?_⟩;obtain⟨m',T,X⟩:=Z g Ôn O Ón
    have N:=Q g ům X Ŵl
    have eL:Ĕm=ān:=by
     funext q
     refine ñl ⟨?_,?_⟩;rintro(⟨z,w⟩|⟨z,w⟩|z);exact .inl ⟨z,λE=>w (i q E)⟩;exact .inl ⟨j q z,w⟩;exact .inr z;rintro(⟨z,w⟩|z);by_cases c:F q;exact .inr îp;exact .inl ⟨z,c⟩;exact .inr ņb
    rw[eL]at N;obtain⟨f3,f4⟩:=J n u Üo t;refine⟨.obj x fs (uB fs a f m'),by show(řg ŏm _)=_;rw[Ï hx,b];show řg Ŀq _=_;rw[T];rfl,p,C,dx,U,_,rfl,ns,?_,l,N,f3,f4⟩;rw[B p Ìg λw=>n óq];exact I;rw[Ð hx]at b;cases b
  |tab A a=>
   cases s with
   | «at» cs f=>cases b|ky k=>
    change ďa A a k=À P at b
    obtain⟨p,U,o,rfl,I,l,r,l2,n,u⟩:=h;obtain⟨W,F,e1,R,j,Q⟩:=Ôf r b;obtain⟨v1,L1,S,Y,i,Z⟩:=Űk R ee;refine⟨v1,L1,⟨p,_,W,rfl,I,by rw[VP _ l,<-dN];exact e1,S⟩,Y,λq z=>(óa).mpr èo,λ{G' H' m2 L2} g B O t=>?_⟩;obtain⟨m',T,X⟩:=Z g Ôn O Ón
    have N:=Q g ům X Ŵl
    have eL:Ĕm=ān:=by
     funext q
     refine ñl ⟨?_,?_⟩;rintro(⟨z,w⟩|⟨z,w⟩|z);exact .inl ⟨z,λE=>w (i q E)⟩;exact .inl ⟨j q z,w⟩;exact .inr z;rintro(⟨z,w⟩|z);by_cases c:F q;exact .inr îp;exact .inl ⟨z,c⟩;exact .inr ņb
    rw[eL]at N;obtain⟨f3,f4⟩:=J n u Üo t;refine⟨.tab A ïq,by show(řg (ďa A a k) _)=_;rw[b];show řg Ŀq _=_;rw[T];rfl,p,U,_,rfl,?_,l,N,?_,f3,f4⟩;rw[B p Ìg λw=>n óq];exact I;have:∀{A:Á Ĩ} {a:Á M},(ïq).length=ŗb:=λ{A}=>by
     induction A with
     |nil=>intro a;rfl|Ĉ k' A ih=>
      intro a;cases a with
      |nil=>rfl|Ĉ y a=>
       unfold uB
       split;rfl;rw[ĕ,ĕ,ih]
    rw[this];exact l2
#print a
abbrev yA:=Á ĕl
noncomputable def Æb:M->Æ Sl
 |.fz d=>À (Â,d)|_=>Ä
def gv(β:yA):zu:=β.map λo=>įl Æb
def t4(β:yA):zu:=β.map λo=>ĭa λm=>(Â,uQ m)
mutual
noncomputable def wu:D->Ì
 |.zE=>Ã|.bl _=>Ã|.int _=>Ã|.str _=>Ã|.tup ds=>ïb ds|_=>Â
noncomputable def ïb:Á D->Ì
 | []=>Ã|d::ds=>wu d&&ïb ds
end
def Hb:D->Ì
 |.lst ds=>ïb ds|.dic _ ds=>ïb ds|_=>Â
structure Am(K:Í)(H0 G H:Hp)(β:yA)(σ:St)(Ls:Nat->Ft):Prop where
 at_:∀(i:Nat)(m:M),β[i]?=À âb->∃v,σ[i]?=À æa/\xU K G H m v Śl
 dj:∀(i j:Nat)(q:É),i≠j->Ls i q->Ls j q->ò
 ok:∀(i:Nat)(q:É),Ls i q->G q=Ä/\H0 q=Ä/\Bx H q
structure zt(K:Í)(n:Nat)(P:Á V)(G0 H0 G H:Hp)(β:yA)(σ:St):Prop where
 ext:zT G0 H0 G H
 l1:σ.length=n
 l2:β.length=n
 lp:ėa<=n
 pin:∀(i:Nat)(v:V),P[i]?=À v->σ[i]?=À æa
 own:∃Ls,Am K H0 G H β σ Ls
section
variable{K:Í}{n:Nat}{P:Á V}{G0 H0 G H G' H':Hp}{β:yA}{σ:St}
def Ce{q:É}(x:zT G H G' H')(g:G q=Ä)(b:Bx H q):G' q=Ä/\Bx H' q:=by
 obtain⟨u,e,c⟩:=b;refine⟨?_,u,x.h _ _ e,c⟩;cases z:G' q with
 |Ä=>rfl|À o=>rcases Âd q (by rw[z];exact λw=>nomatch w)with w|w;exact Ú g w;rw[e]at w;cases w
def zt.go(E:zt K n P G0 H0 G H β σ)(x:zT G H G' H'):zt K n P G0 H0 G' H' β σ:=by obtain⟨f,F⟩:=Äb;refine⟨Är x,Ş,ŏ,Ňa,Ũb,f,λi m h=>?_,éa,λi q z=>?_⟩;obtain⟨v,e,o⟩:=įa i m h;refine⟨v,e,Ÿh x.g m v _ λq z=>?_⟩;obtain⟨u,d,_⟩:=ÿd.2.2;rw[d];exact x.h _ _ d;obtain⟨a,b,c⟩:=Ņa i q z;obtain⟨j,k⟩:=Ce x a c;exact⟨j,b,k⟩
def z5i{i:Nat}{b:Ì}{d:D}(h:đf[i]?=À Ùe):b=Â/\β[i]?=À (À İf):=by
 unfold gv at h;rw[ş]at h;cases e:β[i]? with
 |Ä=>rw[e]at h;cases h|À o=>
  rw[e]at h;cases o with
  |Ä=>cases h|À m=>
   cases m with
   |fz d'=>cases h;exact⟨rfl,rfl⟩|_=>cases h
def x1o{i:Nat}{b:Ì}{d:D}(h:(t4 β)[i]?=À Ùe):b=Â/\∃m,β[i]?=À âb/\d=uQ m:=by
 unfold t4 at h;rw[ş]at h;cases e:β[i]? with
 |Ä=>rw[e]at h;cases h|À o=>
  rw[e]at h;cases o with
  |Ä=>cases h|À m=>cases h;exact⟨rfl,m,rfl,rfl⟩
def cg{τ:zu}(s:zw G H)(c:σ.length=n)(a:τ.length=n)(h:∀(i:Nat)(b:Ì)(d:D),τ[i]?=À Ùe->b=Â/\∃v,σ[i]?=À æa/\zZ K G d v):zp K n G H G H τ σ:=
 ⟨ŉa s,c,a,λi d e=>(h i Â d e).2,λi d e=>(by cases(h i Ã d e).1),λi j d e p _ f=>(by cases(h i Ã d f).1)⟩
def zt.QH(E:zt K n P G0 H0 G H β σ):zp K n G H G H đf σ:=by
 obtain⟨c,F⟩:=Äb;refine cg Õb Ş (by unfold gv;rw[ä];exact ŏ) λi b d h=>?_
 obtain⟨rfl,a⟩:=z5i h;obtain⟨v,e,r,_⟩:=įa i _ a;exact⟨rfl,v,e,r⟩
def z1h{b c:Hp}{L:Ft}(j:∀q,¬ L q->c q=b q)(g:∀q,L q->Bx b q){a:É}{vs:Á V}(h:xF K b a vs):xF K c a vs:=by
 have k:∀{u:HO},cA u=Â->b a=À u->c a=À u:=λ{u} i e=>by rw[j a λz=>?_];exact e;obtain⟨w,d,f⟩:=g a z;rw[e]at d;cases d;rw[i]at f;cases f
 rcases h with h|h;rcases h with h|⟨o,h⟩;exact .inl (.inl (k rfl h));exact .inl (.inr ⟨o,k rfl h⟩);exact .inr h
def cM{g k:Hp}{L:Ft}(p:∀q,¬ L q->k q=g q)(z:∀q,L q->Bx g q)(d:D):∀(v:V),wu d=Ã->zZ K g d v->zZ K k d v:=by
 refine Ŀd (P:=λd=>∀v,wu d=Ã->zZ K g d v->zZ K k d v) (λv _ h=>h) (λb v _ h=>h) (λi v _ h=>h) (λx v _ h=>h) ?_ (λc f v t=>by cases t) (λB c f v t=>by cases t) (λx v t=>by cases t) (λx A c f v t=>by cases t) d;rintro c f v t ⟨a,m,e,q,r,l⟩;refine⟨a,m,e,z1h p z q,?_,l⟩;have s:ïb c=Ã:=t;clear t q l
 induction c generalizing m with
 |nil=>exact r|Ĉ x c ih2=>obtain⟨u,n,rfl,o,w⟩:=r;have j:(wu x&&ïb c)=Ã:=s;rw[ĉ]at j;exact⟨u,n,rfl,f x ĵ u j.1 o,ih2 (λd y=>f d (ÿa _ y)) n w j.2⟩
theorem cN{a f:Hp}{L:Ft}(e:∀q,¬ L q->f q=a q)(c:∀q,L q->Bx a q):∀{ds:Á D}{vs:Á V},ïb ds=Ã->Þ K a ds vs->Þ K f ds vs
 | [],_,_,r=>r|d::ds,_,t,r=>by obtain⟨u,i,rfl,g,h⟩:=r;have b:ŝp=Ã:=t;rw[ĉ]at b;exact⟨u,i,rfl,cM e c d u b.1 g,cN e c b.2 h⟩
theorem zt.pH(E:zt K n P G0 H0 G H β σ):∃G1,zp K n G1 H G1 H (t4 β) σ/\∀G2 H2,zT G1 H G2 H2->∃G3,zT G H G3 H2/\zt K n P G0 H0 G3 H2 β σ/\(∀d v,wu d=Ã->zZ K G2 d v->zZ K G3 d v)/\(∀ds vs,ïb ds=Ã->Þ K G2 ds vs->Þ K G3 ds vs)/\∀q,G2 q=Ä->G3 q=Ä:=by
 classical
 obtain⟨A,F⟩:=Äb
 let L:Ft:=λq=>∃i,A i q
 have l:∀q,L q->G q=Ä:=λq ⟨i,z⟩=>ÿd.1
 have C:∀q,L q->Bx H q:=λq ⟨i,z⟩=>ÿd.2.2
 let G1:Hp:=λq=>if L q then H q else G q
 have e1:∀q,L q->G1 q=H q:=λq z=>Ï z
 have e2:∀q,¬ L q->G1 q=G q:=λq z=>Ð z
 have p:zw G G1:=λq o e=>by rw[e2 q λz=>by rw[l q z]at e;cases e];exact e
 have y:zw G1 H:=λq o e=>by by_cases c:L q;rw[e1 q c]at e;exact e;rw[e2 q c]at e;exact Õb _ _ e
 refine⟨G1,cg y Ş (by unfold t4;rw[ä];exact ŏ) λi b d h=>?_,λG2 H2 x=>?_⟩;obtain⟨rfl,m,s,rfl⟩:=x1o h;obtain⟨v,e,o⟩:=įa i m s;exact⟨rfl,v,e,o.pH p m v _ λq z=>e1 q ⟨i,z⟩⟩;let G3:Hp:=λq=>if L q then Ä else G2 q
 have a:∀q,¬ L q->G3 q=G2 q:=λq z=>Ð z
 have f:∀q,L q->G3 q=Ä:=λq z=>Ï z
 have k:∀q,L q->Bx G2 q:=λq z=>by obtain⟨u,B,c⟩:=C q z;exact⟨u,x.g _ _ ((e1 q z).trans B),c⟩
 have j:zT G H G3 H2:=by
  refine⟨λq o e=>?_,x.h,λq o e=>?_,λq z=>?_⟩;have c:¬ L q:=λz=>by rw[l q z]at e;cases e
  rw[a q c];exact x.g _ _ (p _ _ e);by_cases c:L q;rw[f q c]at e;cases e;rw[a q c]at e;exact Åb _ _ e;by_cases c:L q;rw[f q c]at z;exact Ú rfl z;rw[a q c]at z;rcases Âd q z with w|w;rw[e2 q c]at w;exact .inl w;exact .inr w
 refine⟨G3,j,Ťa j,λd v t r=>cM a k d v t r,λds vs t r=>cN a k t r,λq z=>?_⟩;by_cases c:L q;exact f q c;rw[a q c];exact z
def Mv{α:Type}{xs:Á α}{x y:α}{i:Nat}(h:ōk[i]?=À y):(i<à/\xs[i]?=À y)\/(i=à/\y=x):=by
 rcases Nat.lt_or_ge i à with c|c;rw[ıb c]at h;exact .inl ⟨c,h⟩;rw[ŭb c]at h;cases z:i-à with
 |ų=>rw[z]at h;cases h;exact .inr ⟨by omega,rfl⟩|Ŵ k=>rw[z]at h;cases h
def gD{α:Type}{xs:Á α}{x:α}{n:Nat}(h:à=n):ōk[n]?=À x:=by subst h;rw[ŭb Ē,ÿc];rfl
def uN{α:Type}{xs:Á α}{x:α}{i:Nat}(h:i<à):ōk[i]?=xs[i]?:=ıb h
def zt.push{m:M}{v:V}{L:Ft}(E:zt K n P G0 H0 G H β σ)(o:xU K G H m v L)(k:∀Ls,Am K H0 G H β σ Ls->∀i q,Ls i q->L q->ò)(ok:∀q,L q->G q=Ä/\H0 q=Ä/\Bx H q):zt K ļ P G0 H0 G H Åf Łb:=by
 obtain⟨Ls,F⟩:=Äb;have d:=k Ls F;refine⟨Èd,by rw[í,Ş];rfl,by rw[í,ŏ];rfl,by have:=Ňa;omega,λi u h=>?_,λj=>if j<n then Ls j else if j=n then L else λ_=>ò,λi g h=>?_,λi j q f b a=>?_,λi q z=>?_⟩;have r:i<σ.length:=by rw[Ş];exact ŭ ĝb.1 Ňa
 rw[uN r];exact Ũb i u h;rcases Mv h with⟨c,e⟩|⟨c,e⟩;rw[ŏ]at c;obtain⟨u,l,p⟩:=įa i g e;refine⟨u,by rw[uN Ŏe];exact l,?_⟩;simp only[Ï c];exact p;cases e;rw[ŏ]at c;subst c;refine⟨v,gD Ş,?_⟩;simp only[Æe,ða,ś];exact o;skip
 split at b;split at a;exact éa i j q f b a;split at a;exact d i q b a;exact a;split at b;split at a;exact d j q a b;split at a;exact f Å;exact a;exact b;skip
 split at z;exact Ņa i q z;split at z;exact ok q z;exact Ða
def zt.W7{d:D}{v:V}(E:zt K n P G0 H0 G H β σ)(r:zZ K G d v):zt K ļ P G0 H0 G H ĕp Łb:=
 E.push (L:=λ_=>ò) ⟨r,λ_ z=>z⟩ (λ_ _ _ _ _ z=>z) λ_ z=>Ða
def zt.sB{d:D}{p:É}(E:zt K n P G0 H0 G H β σ)(x:zT G H G' H')(r:H p=Ä)(y:G' p=Ä)(o:vN K G' H' d p):zt K ļ P G0 H0 G' H' (β++[À àl]) (σ++[À Êa]):=by
 obtain⟨m,F⟩:=Äb;have C:=Ťa x;refine⟨?_,?_,?_,?_,?_,?_⟩<;>try first|exact C.ext|exact(by rw[í,Ş];rfl)|exact(by rw[í,ŏ];rfl)
 have:=Ňa;omega;intro i u h
 have J:i<σ.length:=by rw[Ş];exact ŭ ĝb.1 Ňa
 rw[uN J];exact Ũb i u h;have v:∀i q,m i q->q≠p:=λi q z c=>by subst c;exact ÿd.2.2.some r
 refine⟨λj=>if j<n then m j else if j=n then(λq=>q=p)else λ_=>ò,λi l h=>?_,λi j q s k f=>?_,λi q z=>?_⟩;rcases Mv h with⟨c,e⟩|⟨c,e⟩;rw[ŏ]at c;obtain⟨u,A,I⟩:=įa i l e;refine⟨u,by rw[uN Ŏe];exact A,?_⟩;simp only[Ï c];refine Įa x.g l u _ λq z=>?_
 obtain⟨w,t,_⟩:=ÿd.2.2;rw[t];exact x.h _ _ t;cases e;rw[ŏ]at c;subst c;refine⟨_,gD Ş,?_⟩;simp only[Æe,ða,ś];exact⟨p,rfl,o,λq=>Ĥd⟩;skip
 split at k;split at f;exact éa i j q s k f;split at f;exact v i q k f;exact f;split at k;split at f;exact v j q f k;split at f;exact s Å;exact f;exact k;skip
 split at z;obtain⟨a,b,c⟩:=Ņa i q z;obtain⟨B,L⟩:=Ce x a c;exact⟨B,b,L⟩;split at z;subst z;exact⟨y,ŝj r,o.bx⟩;exact Ða
def zt.AC{m:M}{v:V}{i:Nat}(hi:i<n)(r:ėa<=i)(e:σ.length=n)(b:β.length=n)(E:zt K ļ P G0 H0 G H Åf Łb):zt K n P G0 H0 G H (β.set i âb) ëe:=by
 obtain⟨l,F⟩:=Äb;refine⟨Èd,by rw[Ŋa];exact e,by rw[Ŋa];exact b,by omega,λj u h=>?_,λj=>if j=i then l n else if j<n then l j else λ_=>ò,λj p h=>?_,λj k q f c a=>?_,λj q z=>?_⟩;have o:j<ėa:=ĝb.1;rw[qp Å];have:=Ũb j u h;rw[uN Å]at this;exact this;rcases u3 h with⟨rfl,w⟩|⟨f,w⟩;cases w;obtain⟨u,d,g⟩:=įa n m (gD b);rw[gD e]at d;cases d;simp only[ś];exact⟨v,X7 Å,g⟩;have o:j<n:=by rw[<-b];exact(Ŗ w).1
 obtain⟨u,d,g⟩:=įa j p Őn;rw[uN Å]at d;simp only[Ð f,Ï o];exact⟨u,by rw[qp f];exact d,g⟩;skip
 split at c;split at a;exact f Å;split at a;exact éa n k q Å c a;exact a;split at c;split at a;exact éa j n q Å c a;split at a;exact éa j k q f c a;exact a;exact c;skip
 split at z;exact Ņa n q z;split at z;exact Ņa j q z;exact Ða
def zt.pop{m:Æ M}{v:Æ V}(b:σ.length=n)(a:β.length=n)(i:ėa<=n)(E:zt K ļ P G0 H0 G H æh ãh):zt K n P G0 H0 G H β σ:=by
 obtain⟨f,F⟩:=Äb;refine⟨Èd,b,a,i,λj u h=>?_,f,λj d h=>?_,éa,Ņa⟩;have g:j<ėa:=ĝb.1;have:=Ũb j u h;rw[uN Å]at this;exact this;have g:j<n:=by rw[<-a];exact ĝb.1
 obtain⟨u,c,e⟩:=įa j d (by rw[uN Å];exact h);rw[uN Å]at c;exact⟨u,c,e⟩
#print a
inductive gX where
 |nx (β:yA)|rt (m:M) (β:yA)|bk (β:yA)|ct (β:yA)
abbrev yQ:=yA->Æ gX
abbrev wL:=yA->Æ (M×yA)
abbrev uA:=yA->Æ (Ì×yA)
def UL(K:Í)(n:Nat)(P:Á V)(a b:Hp)(E:uT):gX->Prop
 |.nx β=>∀σ G H,zt K n P a b G H β σ->E.nx σ H|.bk β=>∀σ G H,zt K n P a b G H β σ->E.bk σ H|.ct β=>∀σ G H,zt K n P a b G H β σ->E.ct σ H|.rt m β=>∀σ v G H,zt K ļ P a b G H Åf Łb->E.rt v H
section
variable(X:Cx)
structure MC(e:Ñ)(f:wL):Prop where
 h:∃t,PE X e t/\∀{P:Á V}{G0 H0 G H:Hp}{β β':yA}{σ:St}{m:M}{Q:VK},zt X.K ú P G0 H0 G H β σ->f β=À (m,β')->(∀v G' H',zw G G'->zt X.K (ú+1) P G0 H0 G' H' ŗp Łb->Q v H')->t σ H Q
structure MT(e:Ñ)(f:uA):Prop where
 h:∃t,PT X e t/\∀{P:Á V}{G0 H0 G H:Hp}{β β':yA}{σ:St}{b:Ì}{Q:Ì->Hp->Prop},zt X.K ú P G0 H0 G H β σ->f β=À (b,β')->(∀G' H',zw G G'->zt X.K ú P G0 H0 G' H' β' σ->Q b H')->t σ H Q
structure MW(e:Ñ)(f:uA):Prop where
 h:∃t,PW X e t/\∀{P:Á V}{G0 H0 G H:Hp}{β β':yA}{σ:St}{b:Ì}{Q:Ì->Hp->Prop},zt X.K ú P G0 H0 G H β σ->f β=À (b,β')->(∀G' H',zw G G'->zt X.K ú P G0 H0 G' H' β' σ->Q b H')->t σ H Q
structure MS(np:Nat)(st:Õ)(f:yQ):Prop where
 h:∃t,PS X st t/\∀{P:Á V}{G0 H0 G H:Hp}{β:yA}{σ:St}{fl:gX}{E:uT},ėa=np->zt X.K ú P G0 H0 G H β σ->f β=À fl->UL X.K ú P G0 H0 E fl->t E σ H
structure jB(np:Nat)(st:Á Õ)(f:yQ):Prop where
 h:∃t,tD X st t/\∀{P:Á V}{G0 H0 G H:Hp}{β:yA}{σ:St}{fl:gX}{E:uT},ėa=np->zt X.K ú P G0 H0 G H β σ->f β=À fl->UL X.K ú P G0 H0 E fl->t E σ H
#print a
section
variable{K:Í}{n:Nat}{P:Á V}{G0 H0 G H:Hp}{β:yA}{σ:St}{m:M}{v:V}{d:D}
def zt.QD{m:Æ M}{v:Æ V}(E:zt K ļ P G0 H0 G H æh ãh):σ.length=n:=by have:=Ş;rw[í]at this;exact żd this
def zt.Xy{m:Æ M}{v:Æ V}(E:zt K ļ P G0 H0 G H æh ãh):β.length=n:=by have:=ŏ;rw[í]at this;exact żd this
def zt.YW(E:zt K ļ P G0 H0 G H ĕp Łb):zZ K G d v:=by obtain⟨b,F⟩:=Äb;obtain⟨u,a,r,_⟩:=įa n _ Ĕs;rw[gD E.QD]at a;cases a;exact r
def zt.W8{i:Nat}(E:zt K n P G0 H0 G H β σ)(hi:i<n)(a:ėa<=i)(r:zZ K G d v):zt K n P G0 H0 G H Ĩi ëe:=(E.W7 r).AC hi a Ş ŏ
theorem zt.zC(E:zt K n P G0 H0 G H β σ):zt K n P G H0 G H β σ:=⟨E.ext.zC,Ş,ŏ,Ňa,Ũb,Äb⟩
def zt.near{b c:Hp}(a:zT G0 H0 b c)(E:zt K n P b H0 G H β σ):zt K n P G0 H0 G H β σ:=⟨a.rebase Èd,Ş,ŏ,Ňa,Ũb,Äb⟩
theorem UL.near{b c:Hp}{E:uT}{a:gX}(x:zT G0 H0 b c)(h:UL K n P G0 H0 E a):UL K n P b H0 E a:=by
 cases a with
 |nx τ=>exact λσ G H z=>h σ G H ľg|bk τ=>exact λσ G H z=>h σ G H ľg|ct τ=>exact λσ G H z=>h σ G H ľg|rt m β=>exact λσ v G H z=>h σ v G H ľg
#print a
def xY(f:FE):wL:=λβ=>(ġl).bind λd=>À (.fz d,β)
def ju(f:FE):wL:=λβ=>(Ûf).bind λd=>match wu d with
 |Ã=>À (.fz d,β)|Â=>Ä
def JB(f:FE):wL:=λβ=>(ġl).bind λd=>À (.own d,β)
def z0o(f:FE):wL:=λβ=>(Ûf).bind λd=>match Hb d with
 |Ã=>À (.own d,β)|Â=>Ä
noncomputable def z0m(f:wL):wL:=λβ=>(Ęa).bind λr=>match r with
 |(.own d,β')=>À (.fz d,β')|r=>À r
def p7(f:FT):uA:=λβ=>(Ûf).bind λb=>À (b,β)
noncomputable def x62(f:uA):uA:=λβ=>(Ęa).bind λr=>À (!r.1,r.2)
noncomputable def Iq(f g:uA):uA:=λβ=>(Ęa).bind λr=>match r.1 with
 |Ã=>g r.2|Â=>À (Â,r.2)
noncomputable def BJ(f g:uA):uA:=λβ=>(Ęa).bind λr=>match r.1 with
 |Ã=>À (Ã,r.2)|Â=>g r.2
noncomputable def tV:M->Æ D
 |.fz d=>À d|_=>Ä
def jt(F:D->D->Æ D)(f g:wL):wL:=λβ=>(Ęa).bind λr=>(Ěd).bind λx=>(g r.2).bind λa=>(tV a.1).bind λy=>(F x y).bind λz=>À (.fz z,a.2)
def Xh(f:wL):uA:=λβ=>(Ęa).bind λr=>(Ěd).bind λx=>(ŗf).bind λb=>À (b,r.2)
def z0l(f g:wL):wL:=λβ=>(Ęa).bind λr=>(Ěd).bind λx=>(ŗf).bind λb=>match b with
 |Ã=>g r.2|Â=>À (.fz ñ,r.2)
def kr{m:M}{d:D}(h:tV m=À d):m=.fz d:=by
 cases m with
 |fz d'=>cases h;rfl|_=>cases h
section
variable{X:Cx}{x:Str}{p pos:Pos}{e a b:Ñ}{Ō:Á Ñ}{f:FE}{ft:FT}{F:D->D->Æ D}{r:R2}{g g':wL}{u u':uA}
def xv(h:SE X e f):MC X e (xY f):=by obtain⟨t,p,k⟩:=h.h;refine⟨⟨t,p,λE a q=>?_⟩⟩;obtain⟨d,i,a⟩:=zJ a;cases a;exact k E.QH i λv b c x r=>q v b c x.g ((Ťa x).W7 r)
def ZB(h:SE X e f):MC X e (ju f):=by
 obtain⟨t,p,k⟩:=h.h;refine⟨⟨t,p,λE a q=>?_⟩⟩;obtain⟨d,m,a⟩:=zJ a;cases c:wu d with
 |Â=>rw[c]at a;cases a|Ã=>
  rw[c]at a;cases a;obtain⟨s,l,đa⟩:=E.pH;refine k l m λv u j x r=>?_
  obtain⟨o,i,n,b,_⟩:=đa _ _ x;exact q v o j i.g (n.W7 (b d v c r))
def HQ(h:SF X e f):MC X e (JB f):=by obtain⟨t,p,k⟩:=h.h;refine⟨⟨t,p,λE a q=>?_⟩⟩;obtain⟨d,l,a⟩:=zJ a;cases a;exact k E.QH l λp c i x j b o=>q _ c i x.g (E.sB x j b o)
def g8(h:ST X e ft):MT X e (p7 ft):=by
 obtain⟨t,p,k⟩:=h.h;refine⟨⟨t,p,λE a q=>?_⟩⟩;obtain⟨b,i,a⟩:=zJ a;cases a;obtain⟨m,f,đa⟩:=E.pH;refine k f i λn d x=>?_
 obtain⟨l,c,j,_⟩:=đa _ _ x;exact q l d c.g j
def HW(h:MT X a u):MW X łi u:=⟨let ⟨t,p,k⟩:=h.h;⟨t,io p,k⟩⟩
def z8g(h:MT X a u):MW X ői u:=⟨let ⟨t,p,k⟩:=h.h;⟨t,iq p,k⟩⟩
def HV(m:MT X a u)(n:MW X Ăf u'):MW X ăf (Iq u u'):=by
 obtain⟨x,o,p⟩:=m.h;obtain⟨w,l,i⟩:=n.h;refine⟨⟨_,im o l,λE c q=>?_⟩⟩;obtain⟨⟨k,β1⟩,g,c⟩:=zJ c;refine p E g λr v d e=>?_
 cases k with
 |Ã=>exact jz Ūm|Â=>cases c;exact jy ïr
def fU(m:MT X a u)(n:MW X Āf u'):MW X āf (BJ u u'):=by
 obtain⟨x,o,p⟩:=m.h;obtain⟨w,l,i⟩:=n.h;refine⟨⟨_,ip o l,λE c q=>?_⟩⟩;obtain⟨⟨k,β1⟩,g,c⟩:=zJ c;refine p E g λr v d e=>?_
 cases k with
 |Â=>exact jy Ūm|Ã=>cases c;exact jz ïr
def MM(h:MW X e u):MT X e u:=⟨let ⟨t,p,k⟩:=h.h;⟨t,p.pt,k⟩⟩
def zt.down{K:Í}{n:Nat}{P:Á V}{a b G H:Hp}{β:yA}{σ:St}{m:Æ M}{v:Æ V}(c:ėa<=n)(E:zt K ļ P a b G H æh ãh):zt K n P a b G H β σ:=E.pop E.QD E.Xy c
def z82{d:Ťf}(t:yk X (Ģa d) r)(B:ji X.K r F)(p:MC X a g)(C:MC X b g')(m:úc d b=Â):MC X Ľn ór:=by
 obtain⟨U,v,x⟩:=p.h;obtain⟨S,o,y⟩:=C.h;refine⟨⟨_,iA t v o m,λE c q=>?_⟩⟩;obtain⟨⟨T,β1⟩,n,c⟩:=zJ c;obtain⟨H,e1,c⟩:=zJ c;cases kr e1;obtain⟨⟨Q,β2⟩,s,c⟩:=zJ c;obtain⟨w,e2,c⟩:=zJ c;cases kr e2;obtain⟨z,I,c⟩:=zJ c;cases c;refine x E n λl P R A i=>?_
 have O:=i.YW;refine y (i.down Ňa) s λN L G j f=>?_
 have u:=f.YW;have e:=f.down Ňa;obtain⟨k,rfl,J⟩:=B G H w l N _ _ ((O.mono j).mono e.ext.gh) (u.mono e.ext.gh) I;exact J (q _ L _ (A.trans j) (e.W7 rfl))
def fR(h:MC X e g)(i:Ê ōr q12):MT X e (Xh g):=by
 obtain⟨t,p,k⟩:=h.h;refine⟨⟨_,iY p (iK i),λE a q=>?_⟩⟩;obtain⟨⟨o,β1⟩,f,a⟩:=zJ a;obtain⟨r,e1,a⟩:=zJ a;cases kr e1;obtain⟨b,j,a⟩:=zJ a;cases a;refine k E f λl m n d c=>?_
 exact⟨_,Mg c.YW j,q _ _ d (c.down Ňa)⟩
def HU{e:Ťf}(w:yk X (Ģa e) r)(H:ji X.K r F)(u:MC X a g)(I:MC X b g')(p:úc e b=Â):MT X (.Compare a [e] [b] pos) (Xh ór):=by
 obtain⟨ta,y,B⟩:=u.h;obtain⟨Z,t,C⟩:=I.h;refine⟨⟨_,K9 w y t p,λE d q=>?_⟩⟩;obtain⟨⟨m3,β3⟩,c,d⟩:=zJ d;obtain⟨S,Q,d⟩:=zJ d;cases kr Q;obtain⟨U,i,d⟩:=zJ d;cases d;obtain⟨⟨m1,β1⟩,s,c⟩:=zJ c;obtain⟨L,e1,c⟩:=zJ c;cases kr e1;obtain⟨⟨W,β2⟩,v,c⟩:=zJ c;obtain⟨A,e2,c⟩:=zJ c;cases kr e2;obtain⟨z,N,c⟩:=zJ c;cases c;refine B E s λn T Y G l=>?_
 have R:=l.YW;refine C (l.down Ňa) v λo P J m j=>?_
 have x:=j.YW;have f:=j.down Ňa;obtain⟨k,rfl,O⟩:=H J L A n o _ _ ((R.mono m).mono f.ext.gh) (x.mono f.ext.gh) N;cases i;exact O ⟨_,rfl,q P _ (G.trans m) f⟩
#print a
noncomputable def jO:yQ:=λβ=>À ál
noncomputable def yz(a b:yQ):yQ:=λβ=>(ůh).bind λf=>match f with
 |.nx β'=>b β'|f=>À f
noncomputable def jN(c:uA)(a b:yQ):yQ:=λβ=>(ğe).bind λr=>match r.1 with
 |Ã=>a r.2|Â=>b r.2
noncomputable def jP(f:wL):yQ:=λβ=>(Ęa).bind λr=>À (.rt r.1 r.2)
noncomputable def pQ(f:wL):yQ:=λβ=>(Ęa).bind λr=>À įs
noncomputable def uM(i:Nat)(f:wL):yQ:=λβ=>(Ęa).bind λr=>À (.nx (r.2.set i (À r.1)))
abbrev MG:=D->yA->Æ yA
noncomputable def Jm(i:Nat):MG:=λd β=>À Ĩi
noncomputable def Uo(i j:Nat):MG:=λd β=>match d with
 |.tup Éd=>À ċm|_=>Ä
noncomputable def jM(g:MG)(b:yQ):Á D->yA->Æ gX
 | [],β=>À ál|d::r,β=>(g d β).bind λβ1=>(Ņh).bind λf=>match f with
  |.nx β2=>jM g b r β2|.ct β2=>jM g b r β2|.bk β2=>À Œb|.rt m β2=>À Ñk
def MH(it:FA)(g:MG)(b:yQ):yQ:=λβ=>(it đf).bind λa=>jM g b a β
noncomputable def qC(c:uA)(b:yQ):Nat->yA->Æ gX
 |0,_=>Ä|n+1,β=>(ğe).bind λr=>match r.1 with
  |Â=>À įs|Ã=>(Ĥl).bind λf=>match f with
   |.nx β2=>qC c b n β2|.ct β2=>qC c b n β2|.bk β2=>À Œb|.rt m β2=>À Ñk
def Jv(c:uA)(b:yQ):yQ:=λβ=>qC c b gU β
section
variable{X:Cx}{np:Nat}{x:Str}{p pos İa:Pos}{e c tg Ū:Ñ}{st:Õ}{sts Íd:Á Õ}{f g:yQ}{h:wL}{u:uA}{fs:FA}
def ZE:jB X np [] jO:=⟨⟨_,iW,λ{P d b G H β σ c E} _ K a q=>by cases a;exact q σ G H K⟩⟩
def xK(b:MS X np st f)(l:jB X np sts g):jB X np Ďs (yz f g):=by
 obtain⟨t,p,k⟩:=b.h;obtain⟨r,j,i⟩:=l.h;refine⟨⟨_,iV p j,λ{P w v G H β σ s E} c K a q=>?_⟩⟩;obtain⟨m,b,a⟩:=zJ a;refine k c K b ?_;cases m with
 |nx τ'=>exact λσ' u n e=>i c e a q|bk τ'=>cases a;exact q|ct τ'=>cases a;exact q|rt o d=>cases a;exact q
def xo(a:MS X np st f):jB X np [st] f:=⟨let ⟨t,p,k⟩:=a.h;⟨t,iX p,k⟩⟩
def ZC{b e:Á Õ}(s:MT X c u)(p:jB X np b f)(r:jB X np e g):MS X np (.If c b e pos) (jN u f g):=by
 obtain⟨x,o,j⟩:=s.h;obtain⟨C,t,v⟩:=p.h;obtain⟨B,n,m⟩:=r.h;refine⟨⟨_,iS o t n,λ{P F A G H β σ y E} d K a q=>?_⟩⟩;obtain⟨⟨k,β1⟩,l,a⟩:=zJ a;refine j K l λw z _ i=>?_
 cases k with
 |Ã=>exact jz (v d i a q)|Â=>exact jy (m d i a q)
def k6(d:MC X e h):MS X np òg (jP h):=by obtain⟨t,p,k⟩:=d.h;refine⟨⟨_,MX p,λ{P n l G H β σ j E} g K a q=>?_⟩⟩;obtain⟨⟨m,β1⟩,b,a⟩:=zJ a;cases a;exact k K b λv i f _ c=>q _ v _ _ c
def k4(f:MC X e h)(c:Ê ñn q12):MS X np Ŀj (pQ h):=by obtain⟨t,p,k⟩:=f.h;refine⟨⟨_,iR p c,λ{P o n G H β σ l E} i K a q=>?_⟩⟩;obtain⟨⟨m,β1⟩,b,a⟩:=zJ a;cases a;exact k K b λv j g _ d=>q _ _ _ (d.down Ūb)
def ux{i:Nat}{x:Str}{İa:Pos}(g:ľa)(hi:X.N[i]?=À x)(j:j9 îa x)(n:np<=i)(f:MC X e h)(d:Ê èf q12)(a:Ê Êb q7) :MS X np Ág (uM i h):=by obtain⟨t,p,k⟩:=f.h;refine⟨⟨_,(KM g hi j ⟨p⟩ d a).h,λ{P w u G H β σ s E} o K a q=>?_⟩⟩;obtain⟨⟨m,β1⟩,c,a⟩:=zJ a;cases a;exact k K c λv r l _ b=>q _ _ _ (b.AC Śb.1 Å b.QD b.Xy)
structure Qu(X:Cx)(np:Nat)(tg:Ñ)(fg:MG):Prop where
 h:∃t,PG X tg t/\∀{P:Á V}{G0 H0 G H:Hp}{β β':yA}{σ:St}{d:D}{v:V}{Q:St->Hp->Prop},ėa=np->zt X.K ú P G0 H0 G H β σ->zZ X.K G d v->fg d β=À β'->(∀σ',zt X.K ú P G0 H0 G H β' σ'->Q σ' H)->t v σ H Q
def z88{i:Nat}{x:Str}(h:QG X Ća Ĩc)(hi:X.N[i]?=À x)(c:np<=i):Qu X np Ća (Jm i):=⟨⟨_,h.h,λb K r a q=>by cases a;exact q _ (K.W8 Śb.1 Å r)⟩⟩
def z87{i j:Nat}{x y:Str}{p1 p2:Pos}{c:Nat}(h:QG X řo Ŷf)(hi:X.N[i]?=À x)(n:X.N[j]?=À y)(t:np<=i)(s:np<=j):Qu X np řo (Uo i j):=⟨⟨_,h.h,λ{P C w G H β β' σ d v Q} u K r b q=>by
 unfold Uo at b
 split at b;rename_i z A;cases b;obtain⟨a,p,rfl,m,⟨e,B,rfl,f,⟨o,l,rfl,k,g⟩⟩,_⟩:=r;cases(show l=[]from g);refine⟨a,_,rfl,uD øa m,rfl,e,_,rfl,o,_,rfl,rfl,?_⟩;exact q _ ((K.W8 Śb.1 Å f).W8 (Ŗ n).1 Å k);cases b⟩⟩
def fP{c:MG}(L:Ĉd ý X.A Ô ĩ)(T:Ž=Ã)(hi:SI X tg Ū fs)(O:Qu X np tg c)(hb:jB X np Íd g)(v:Ê (∀x,Ŵb Ū Ô x=pure x) q11):MS X np ĝi (MH fs c g):=by
 obtain⟨ti,R,ki⟩:=Ëd;obtain⟨tg',U,kg⟩:=O.h;obtain⟨tb,F,W⟩:=hb.h;refine⟨⟨_,K8 L T R U F v,λ{P G0 s G H τ σ p E} r K a q=>?_⟩⟩;obtain⟨b,Z,a⟩:=zJ a;refine ki K.QH Z λJ o Ha S _ k=>?_
 have t:=àa S;have l:=UL.near t.ext q;refine⟨λi m σ H=>m=Ãa-i/\i<=Ãa/\∃τ G,zt X.K ú P o s G H τ σ/\jM c g āl τ=À p,⟨Ãa,rfl,Áa _,τ,o,t.zC,a⟩,?_⟩;rintro i m σ H ⟨rfl,hle,τ,G,K,a⟩;by_cases hlt:i<Ãa;refine .inr ⟨k.go i G H Ğc øa hlt,λσ' f=>∃τ G,zt X.K ú P o s G f τ σ'/\jM c g ļk τ=À p,λσ' f z=>⟨Ãa-ê,óg _ _ hlt,rfl,hlt,z⟩,λx f y=>?_⟩;obtain⟨G3,d,B,u,rd⟩:=k.uh i G H x f Ğc øa hlt y;rw[Ůb hlt]at a;rw[Ģ hlt]at u;cases u;obtain⟨τ1,C,a⟩:=zJ (show(c _ τ).bind _=_ from a);obtain⟨Q,I,a⟩:=zJ a;refine kg r (àa B) rd C λσ1 Y=>W r Y I ?_
 cases Q with
 |nx τ2=>exact λσ2 n H2 j=>⟨τ2,n,j,a⟩|ct τ2=>exact λσ2 n H2 j=>⟨τ2,n,j,a⟩|bk τ2=>cases a;exact l|rt m β=>cases a;exact l
 have e:i=Ãa:=by omega
 subst e;rw[Úp]at a;cases a;exact .inl ⟨k.stop _ G H Ğc øa Ē,l _ _ _ K⟩
def fQ(y:Ĉd ý X.A Ô ĩ)(I:MT X c u)(C:jB X np Íd g):MS X np Ũn (Jv u g):=by
 obtain⟨L,x,o⟩:=I.h;obtain⟨Q,v,r⟩:=C.h;refine⟨⟨_,iU y x v,λ{P l i G H τ σ f E} t K a q=>?_⟩⟩;refine⟨λm σ H=>∃τ G,zt X.K ú P l i G H τ σ/\qC u g m τ=À f,⟨gU,τ,G,K,a⟩,?_⟩;rintro m σ H ⟨τ,G,K,a⟩;cases m with
 |ų=>cases a|Ŵ n=>
  obtain⟨⟨k,β1⟩,p,a⟩:=zJ (show(u τ).bind _=_ from a);refine o K p λJ O _ j=>?_
  cases k with
  |Â=>cases a;exact jy (q _ _ _ j)|Ã=>
   obtain⟨B,s,a⟩:=zJ (show(g β1).bind _=_ from a);refine jz ⟨λσ' e=>∃τ G,zt X.K ú P l i G e τ σ'/\qC u g n τ=À f,λσ' e z=>⟨n,ïc n,z⟩,r t j s ?_⟩;cases B with
   |nx τ2=>exact λσ2 d F b=>⟨τ2,d,b,a⟩|ct τ2=>exact λσ2 d F b=>⟨τ2,d,b,a⟩|bk τ2=>cases a;exact q|rt m β=>cases a;exact q
#print a
def jQ(β:yA)(i:Nat)(π:Á xj):Æ M:=match β[i]? with
 |À âb=>pN m π|_=>Ä
def ãc(β:yA)(i:Nat)(π:Á xj)(m2:M):Æ yA:=match β[i]? with
 |À âb=>(ľq).bind λa=>À Ŀo|_=>Ä
def Wy{β:yA}{i:Nat}{π:Á xj}{a:M}(h:jQ β i π=À a):∃m,β[i]?=À âb/\pN m π=À a:=by
 unfold jQ at h
 split at h;rename_i m e;exact⟨m,e,h⟩;cases h
def MY{β:yA}{i:Nat}{π:Á xj}{m a m2:M}(h:β[i]?=À âb)(e:pV m π m2=À a):ãc β i π m2=À Ŀo:=by unfold ãc;rw[h];show(ľq).bind _=_;rw[e];rfl
def vR(K:Í)(a:Á Str)(f:Str):Prop:=∀x∈a,∀C,ű K ė x=À ĕa->t8 K C/\Ys K C f
structure SP(X:Cx)(e:Ñ)(i:Nat)(π:Á xj):Prop where
 h:∃t,PE X e t/\∀{σ:St}{H:Hp}{v u:V}{Q:VK},σ[i]?=À æa->w_ X.K H v π u->Q u H->t σ H Q
section
variable{X:Cx}{x f:Str}{p pos:Pos}{e:Ñ}{i:Nat}{π:Á xj}{cs:Á Str}
def yh(i:Nat){x:Str}{pos:Pos}(d:Ê ŷe q12)(hv:Ê çf q13)(c:Ê Ļ q10)(b:Ê Ŭb q10):SP X Ća i []:=⟨⟨_,V7 d hv c b,λe a q=>by cases(show _=_ from a);exact⟨_,e,q⟩⟩⟩
def qA(h:SP X e i π)(k:vR X.K cs f)(s:Ê ÿn q12):SP X øg i (π++[.at cs f]):=by obtain⟨t,p,g⟩:=h.h;refine⟨⟨_,iC p s,λe a q=>?_⟩⟩;obtain⟨w,o,m⟩:=a.snoc;obtain⟨p,x,C,d,b,v,rfl,r,u,j,l,rfl⟩:=m;obtain⟨c,n⟩:=k x r C u;exact g e o ⟨p,C,d,b,_,rfl,j,c,n,l,q⟩
#print a
section
variable{K:Í}{n:Nat}{P:Á V}{G0 H0 G H:Hp}{β:yA}{σ:St}
def zt.write{m X R:M}{W:V}{i:Nat}{π:Á xj}(E:zt K ļ P G0 H0 G H (β++[À R]) (σ++[À W]))(hP:ėa<=n)(S:β[i]?=À âb)(Y:pN m π=À X) :∃r v1 L1 Lr,σ[i]?=À Ėl/\w_ K H r π v1/\xU K G H X v1 L1/\xU K G H R W Lr/\(∀q,L1 q->Lr q->ò)/\
   ∀{H':Hp}{m2:M}{L2:Ft},(∀q,¬ L1 q->H' q=H q)->xU K G H' m2 v1 L2->(∀q,L2 q->L1 q\/Lr q)->∃m',pV m π m2=À m'/\zt K n P G0 H0 G H' (β.set i (À m')) σ:=by
 obtain⟨t,F⟩:=Äb;have v:=E.QD;have l:=E.Xy;have hi:i<n:=by rw[<-l];exact(Ŗ S).1
 obtain⟨r,Q,om⟩:=įa i m (by rw[uN Å];exact S);rw[uN Å]at Q;obtain⟨u,y,O⟩:=įa n R (gD l);rw[gD v]at y;cases y;obtain⟨v1,L1,va,Z,s,re⟩:=om.focus Y;have J:∀q,L1 q->t n q->ò:=λq a b=>éa i n q Å (s q a) b
 refine⟨r,v1,L1,t n,Q,va,Z,O,J,λ{H' m2 L2} p U A=>?_⟩
 obtain⟨m',e',o'⟩:=re (řa G) (λq _ z=>p q z) U (λq z w=>by rcases A q z with c|c;exact c;exact Ú c λc=>éa i n q Å w c)
 have B:∀q,L1 q->G q=Ä/\H0 q=Ä:=λq z=>⟨Ûq.1,Ûq.2.1⟩
 refine⟨m',e',⟨E.ext.g,λq o z=>?_,λq o z=>?_,ĵk⟩,v,by rw[Ŋa];exact l,hP,λj w h=>?_,λj=>if j=i then ân else if j<n then t j else λ_=>ò,λj T h=>?_,λj k q f e d=>?_,λj q z=>?_⟩
 .rw[p q λw=>by rw[(B q w).2]at z;cases z];exact ıh _ _ z
 .rw[p q λw=>by rw[(B q w).1]at z;cases z];exact Õb _ _ z
 .have C:j<ėa:=ĝb.1;have:=Ũb j w h;rw[uN Å]at this;exact this
 .rcases u3 h with⟨rfl,w⟩|⟨f,w⟩
  .cases w;simp only[ś];exact⟨r,Q,o'⟩
  .have C:j<n:=by rw[<-l];exact(Ŗ w).1
   obtain⟨u,y,ou⟩:=įa j T Őn;rw[uN Å]at y;simp only[Ð f,Ï C];exact⟨u,y,ou.loc (řa G) T u _ λq z=>p q λI=>éa i j q Ğg (s q I) z⟩
 .have x:∀j,j≠i->j<n->∀q,(t i q/\¬ L1 q)\/L2 q->t j q->ò:=λj f C q e d=>by
   rcases e with⟨e,_⟩|e;exact éa i j q Ğg e d;rcases A q e with c|c;exact éa i j q Ğg (s q c) d;exact éa n j q Å c d
  split at e
  .split at d;exact f Å;split at d;exact x k Å Å q e d;exact d
  .split at e;split at d;exact x j Å Å q d e;split at d;exact éa j k q f e d;exact d;exact e
 .split at z
  .rcases z with⟨z,w⟩|z
   .obtain⟨a,b,c⟩:=Ņa i q z;obtain⟨u,L,N⟩:=c;exact⟨a,b,u,(p q w).trans L,N⟩
   .refine⟨?_,?_,U.cells m2 _ _ q z⟩
    .rcases A q z with c|c
     .exact ħl.1
     .exact Ïr.1
    .rcases A q z with c|c
     .exact ħl.2
     .exact Ïr.2.1
  .split at z
   .rename_i f C;obtain⟨a,b,c⟩:=Ņa j q z;obtain⟨u,L,N⟩:=c;exact⟨a,b,u,(p q λI=>éa i j q Ğg (s q I) z).trans L,N⟩
   .exact Ða
#print a
def ZA(i:Nat)(π:Á xj)(c:FE)(a:wL):yQ:=λβ=>(ůh).bind λr=>(Ěd).bind λy=>(òq).bind λb=>match b with
 |.own àe=>(ŉq).bind λx=>match x with
  |.int j=>(Îk).bind λn=>(νd (Ε Øs)).bind λβ2=>À Œb|_=>Ä
 |_=>Ä
def Wx(i:Nat)(π:Á xj)(c:FE)(a:wL):yQ:=λβ=>(ůh).bind λr=>(Ěd).bind λy=>(òq).bind λb=>match b with
 |.own şq=>(ŉq).bind λx=>(Ğe).bind λx=>match decide (ĭ<yZ)with
  |Ã=>(νd (.dic ĉs şp)).bind λβ2=>À Œb|Â=>Ä
 |_=>Ä
section
variable{X:Cx}{np:Nat}{o k v:Ñ}{i:Nat}{π:Á xj}{fk:FE}{fv:wL}{pos İa:Pos}
def XJ(ho:SP X o i π)(hk:SE X k fk)(hv:MC X v fv)(S:Ê ćk q12)(hs:Ê (ſp Êg v Óe Ô=pure Â) q12)(hw:Ê (Àq Êg v Ô=pure Ä) q12)(h1:Ê ((Ŧd Êg Ô).map (·.2)=[Ĥc éo Ô]) q12):MS X np Ġo (ZA i π fk fv):=by
 obtain⟨tk,pk,Z⟩:=hk.h;obtain⟨tv,pv,kv⟩:=Ńd;obtain⟨to,po,O⟩:=ho.h;refine⟨⟨_,K6 pv (iz ⟨po⟩ ⟨pk⟩ mT S).h hs hw h1,λ{P G0 H0 G H β σ fl E} hP K a q=>?_⟩⟩;obtain⟨⟨m,β1⟩,R,a⟩:=zJ a;obtain⟨y,ey,a⟩:=zJ a;cases kr ey;obtain⟨nd,U,a⟩:=zJ a
 split at a;rename_i ds;obtain⟨xk,hx,a⟩:=zJ a;cases xk with
 |int j=>
  obtain⟨d,g,a⟩:=zJ a;obtain⟨β2,B,a⟩:=zJ a;cases a;obtain⟨mm,s,C⟩:=Wy U;refine kv K R λw G1 H1 s1 n=>?_
  obtain⟨r,v1,L1,Lr,N,I,_⟩:=n.write Ūb s C;refine O N I ?_;obtain⟨Ga,Ea,đa⟩:=(n.down Ūb).pH;refine Z Ea hx λu G2 H2 Q r2=>?_
  cases(show u=_ from r2);obtain⟨G3,A,_,_⟩:=đa _ _ Q;have J:=n.go A;obtain⟨r',v1',L1',Lr',b,t,e,T,dj',f⟩:=J.write Ūb s C;rw[N]at b;cases b;cases īd (Řh A.h) t;obtain⟨p,rfl,⟨F,Y,L,l⟩,x⟩:=e;obtain⟨m',e',W⟩:=f (H':=zX H2 p (Ε (F.set d w))) (m2:=.own (Ε (ĩh d y))) (L2:=λq=>q=p) (Υd (x q)) ⟨p,rfl,⟨_,ya,āh J.YW d L,by rw[Ŋa];exact l⟩,λ_=>Ĥd⟩ (ηd (x q));rw[MY s e']at B;cases B;exact⟨p,F,j,d,rfl,rfl,Y,by rw[ża];exact g,q _ _ _ W⟩
 |_=>cases a
 cases a
def Jx(U:ēb+1<Òa)(ho:SP X o i π)(hk:SE X k fk)(hv:MC X v fv)(hs:Ê (Φb éo) q12):MS X np Ġo (Wx i π fk fv):=by
 obtain⟨tk,pk,Z⟩:=hk.h;obtain⟨tv,pv,kv⟩:=Ńd;obtain⟨to,po,O⟩:=ho.h;refine⟨⟨_,iQ U po pk pv hs,λ{P G0 H0 G H β σ fl E} hP K a q=>?_⟩⟩;obtain⟨⟨m,β1⟩,R,a⟩:=zJ a;obtain⟨y,ey,a⟩:=zJ a;cases kr ey;obtain⟨nd,T,a⟩:=zJ a
 split at a;rename_i ks t;obtain⟨xk,hx,a⟩:=zJ a;obtain⟨b,d,a⟩:=zJ a
 split at a;rename_i c;have c:=ŀ c;obtain⟨β2,F,a⟩:=zJ a;cases a;obtain⟨mm,n,I⟩:=Wy T;refine kv K R λw G1 H1 s1 j=>?_
 obtain⟨r,v1,L1,Lr,N,J,_⟩:=j.write Ūb n I;refine O N J ?_;obtain⟨Ga,Ea,đa⟩:=(j.down Ūb).pH;refine Z Ea hx λu G2 H2 Q r2=>?_
 obtain⟨G3,C,_,_⟩:=đa _ _ Q;have L:=j.go C;obtain⟨r',v1',L1',Lr',e,x,f,S,dj',g⟩:=L.write Ūb n I;rw[N]at e;cases e;cases īd (J.mono C.h) x;obtain⟨p,rfl,⟨vs,Y,l,s,hl⟩,B⟩:=f
 obtain⟨m',e',W⟩:=g (H':=zX H2 p (.dK (tM Ŏa b w))) (m2:=.own (.dic (wO ks b) (w6 ks t b y))) (L2:=λq=>q=p) (Υd (B q))
  ⟨p,rfl,⟨w6 ks vs b w,by rw[ya,Ru l],T3 l,s.put L.YW,by
   have h1:=KA (ks:=ks) (vs:=t) (k:=b) (v:=y) (by rw[l,ūc]);have h2:t.length<16777216:=by rw[<-ūc,<-l];exact c
   rw[Ř];omega⟩,λ_=>Ĥd⟩ (ηd (B q))
 rw[MY n e']at F;cases F;exact⟨p,_,rfl,.inl ⟨_,b,Y,Y0 d r2,by rw[ūa,l,Űa,Ř,<-l];exact c,rfl⟩,q _ _ _ W⟩;cases a;cases a
#print a
noncomputable def ZH(fs:Á Str)(f:Str):Á Str:=if f∈fs then fs else fs++[f]
def pU{α:Type}(fs:Á Str)(ms:Á α)(f:Str)(m:α):Á α:=if f∈fs then uB fs ms f m else ms++[m]
theorem ie{f:Str}{w:V}:∀{fs:Á Str}{vs:Á V},Ÿa=Ā->ũb f w ör=(ßf).zip Ŧp
 | [],[],_=>by unfold ZH pU;rw[Ð ã,Ð ã];rfl| [],_::_,h=>by cases h|_::_,[],h=>by cases h|g::fs,v::vs,h=>by
  have b:=ie (f:=f) (w:=w) (fs:=fs) (vs:=vs) Ĉl;rw[ĸb];unfold ũb;by_cases c:g=f;subst c;unfold ZH pU;rw[Ï rfl,Ï ĵ,Ï ĵ];unfold uB;rw[Ï rfl,ĸb];rw[Ð c,b];unfold ZH pU;by_cases z:f∈fs;rw[Ï z,Ï z,Ï Ņk,Ï Ņk]
  conv=>rhs;unfold uB
  rw[Ð c,ĸb];have a:f ∉ g::fs:=λw=>by rcases ľ w with w|w;exact c w.symm;exact z w
  rw[Ð z,Ð z,Ð a,Ð a,ũe,ũe,ĸb]
theorem mR{κ α:Type}[Ąc κ]{k:κ}{y:α}:∀{ks:Á κ}{xs:Á α},(uB ks xs k y).length=à
 | [],_=>by unfold uB;rfl|_::_,[]=>by unfold uB;rfl|k'::ks,x::xs=>by
  unfold uB
  split;rfl;rw[ĕ,ĕ,mR]
theorem y5u{α:Type}{f:Str}{w:α}{fs:Á Str}{vs:Á α}(h:Ÿa=Ā):(ßf).length=(Ŧp).length:=by
 unfold ZH pU
 split;rw[mR];exact h;rw[í,í,h];rfl
section
variable{K:Í}{G H:Hp}
theorem ſk{κ:Type}[Ąc κ]{k:κ}{m2:M}{e:V}{L2:Ft}(l:xU K G H m2 e L2):∀{ks:Á κ}{ms:Á M}{vs:Á V}{L:Ft},ũ K G H ms vs L->(∀q,L q->L2 q->ò)->∃L',ũ K G H ęp (uB ks vs k e) L'/\∀q,L' q->L q\/L2 q
 | [],ms,vs,L,h,_=>⟨L,by unfold uB;exact h,λq z=>.inl z⟩|_::_,[],vs,L,h,_=>by obtain⟨rfl,n⟩:=h;exact⟨L,by unfold uB;exact⟨rfl,n⟩,λq z=>.inl z⟩
 |k'::ks,m::ms,vs,L,h,dj=>by obtain⟨v,r,f,g,rfl,o,i,d,u⟩:=h;unfold uB;by_cases c:k'=k;rw[Ï c,Ï c];refine⟨λq=>L2 q\/g q,⟨e,r,L2,g,rfl,l,i,λq a b=>dj q ((óa).mpr (.inr b)) a,λq=>Ĥd⟩,λq z=>?_⟩;rcases z with z|z;exact .inr z;exact .inl Ńe;rw[Ð c,Ð c];obtain⟨L',p,j⟩:=ſk (k:=k) l (ks:=ks) i Ńm;refine⟨λq=>f q\/L' q,⟨v,_,f,L',rfl,o,p,λq a b=>?_,λq=>Ĥd⟩,λq z=>?_⟩;rcases j q b with b|b;exact d q a b;exact dj q Ĵp b;rcases z with z|z;exact .inl őe;rcases j q z with z|z;exact .inl Ńe;exact .inr z
theorem òk{m2:M}{c:V}{L2:Ft}(e:xU K G H m2 c L2):∀{ms:Á M}{vs:Á V}{L:Ft},ũ K G H ms vs L->(∀q,L q->L2 q->ò)->ũ K G H (ms++[m2]) (vs++[c]) (λq=>L q\/L2 q)
 | [],vs,L,h,_=>by obtain⟨rfl,n⟩:=h;refine⟨c,[],L2,λ_=>ò,rfl,e,⟨rfl,λ_ z=>z⟩,λ_ _ z=>z,λq=>⟨?_,?_⟩⟩;rintro(z|z);exact Ú z (n q);exact .inl z;rintro(z|z);exact .inr z;exact Ða
 |m::ms,vs,L,h,dj=>by obtain⟨v,r,f,i,rfl,g,j,d,u⟩:=h;refine⟨v,_,f,λq=>i q\/L2 q,rfl,g,òk e j Ńm,λq a b=>?_,λq=>⟨?_,?_⟩⟩;rcases b with b|b;exact d q a b;exact dj q Ĵp b;rintro(z|z);rcases(u q).mp z with z|z;exact .inl z;exact .inr Ćd;exact .inr ņb;rintro(z|z|z);exact .inl őe;exact .inl Ńe;exact .inr z
def ęr{f:Str}{m2:M}{b:V}{L2 L:Ft}{fs:Á Str}{ms:Á M}{vs:Á V}(a:xU K G H m2 b L2)(h:ũ K G H ms vs L)(d:∀q,L q->L2 q->ò):∃L',ũ K G H (pU fs ms f m2) (pU fs vs f b) L'/\∀q,L' q->L q\/L2 q:=by unfold pU;by_cases c:f∈fs;rw[Ï c,Ï c];exact ſk a h d;rw[Ð c,Ð c];exact⟨_,òk a h d,λq z=>z⟩
#print a
def gB(m:M)(β:yA)(i:Nat)(π:Á xj)(a:Á Str)(f:Str):Æ gX:=(œg).bind λb=>match b with
 |.obj x fs ms=>match decide (x∈a)&&decide ğr with
  |Ã=>(Τd (pU fs ms f m)).bind λβ2=>À Œb|Â=>Ä
 |_=>Ä
def pR(i:Nat)(π:Á xj)(b:Á Str)(f:Str)(a:wL):yQ:=λβ=>(ůh).bind λr=>gB r.1 r.2 i π b f
def HN(i:Nat)(π:Á xj)(e:Á Str)(f:Str)(g:FE):yQ:=λβ=>(œg).bind λd=>match d with
 |.obj x fs ms=>match decide (x∈e)&&decide ğr with
  |Ã=>(ďa fs ms f).bind λc=>(tV c).bind λc=>match c with
   |.int a=>(g (t4 β)).bind λy=>match y with
    |.int b=>(Τd (pU fs ms f (.fz (Β (a+b))))).bind λβ2=>À Œb|_=>Ä
   |_=>Ä
  |Â=>Ä
 |_=>Ä
section
variable{X:Cx}{np:Nat}{o v:Ñ}{i:Nat}{π:Á xj}{cs:Á Str}{f:Str}{fv:wL}{fe:FE}{pos İa tpos:Pos}
def zt.AF{K:Í}{n:Nat}{P:Á V}{F J G H:Hp}{β β2:yA}{σ:St}{x f:Str}{fs:Á Str}{ms:Á M}{m e:M}{w:V}{i:Nat}{π:Á xj}(E:zt K ļ P F J G H (β++[À e]) (σ++[À w]))(hP:ėa<=n)(y:β[i]?=À âb)(R:pN m π=À ęj)(A:ãc β i π (.obj x ßf ŧp)=À β2) :∃r p C dx vs,σ[i]?=À Ėl/\w_ K H r π Êa/\ű K ė x=À ĕa/\H p=À ĵi/\Ÿa=Ā/\zt K n P F J G ŏg β2 σ:=by
 obtain⟨r,v1,L1,B,er,X,T,u,h,Y⟩:=E.write hP y R;obtain⟨p,C,dx,vs,S,rfl,N,O,l,Z,I,d⟩:=T;have k:∀q,q≠p->ŏg q=H q:=λq z=>yB z
 have t:ũ K G ŏg ms vs S:=ĉd (λv _ Q g s o=>Ÿh ķh v Q g λq z=>k q λc=>I (c▸s q z)) Z;have j:xU K G ŏg e w B:=u.loc ķh e w B λq z=>k q λc=>h q ðo z
 obtain⟨g,o3,L⟩:=ęr (f:=f) (fs:=fs) j t (λq a b=>h q ((d q).mpr (.inr a)) b)
 obtain⟨v,U,K5⟩:=Y (H':=zX H p Ũl) (m2:=.obj x ßf ŧp) (L2:=λq=>q=p\/g q) (λq z=>k q λc=>z ðo)
  ⟨p,C,dx,pU fs vs f w,g,rfl,N,by rw[ya,ie l],y5u l,o3,λz=>by
   rcases L p z with z|z;exact I z;exact h p ((d p).mpr Ĺ) z,λq=>Ĥd⟩ (λq z=>by
   rcases z with rfl|z;exact .inl ((d q).mpr Ĺ);rcases L q z with z|z;exact .inl ((d q).mpr ņb);exact .inr z)
 rw[MY y U]at A;cases A;exact⟨r,p,C,dx,vs,er,X,N,O,l,K5⟩
def k5(u:SP X o i π)(k:vR X.K cs f)(hv:MC X v fv)(b:Ê (Φb ío) q12):MS X np (.Assign Ôo v pos) (pR i π cs f fv):=by
 obtain⟨tv,L,y⟩:=Ńd;obtain⟨to,N,g⟩:=u.h;refine⟨⟨_,y5m N L b,λ{P G0 H0 G H β σ T E} hP K a q=>?_⟩⟩;obtain⟨⟨m,β1⟩,s,a⟩:=zJ a;obtain⟨nd,F,a⟩:=zJ (show(jQ β1 i π).bind _=_ from a)
 split at a;rename_i x Z ms
 split at a;rename_i c;rw[ĉ]at c;have z:=ŀ c.2;obtain⟨β2,e,a⟩:=zJ a;cases a;obtain⟨W,d,n⟩:=Wy F;refine y K s λw S H1 Y Q=>?_
 obtain⟨r,p,C,j,U,R,B,O,t,l,I⟩:=Q.AF Ūb d n e;obtain⟨J,A⟩:=k x ús C O;exact g R B ⟨p,C,j,_,rfl,t,J,A,by rw[ūa,l,Űa,<-l];exact z,q _ _ _ I⟩;cases a;cases a
def z8c(ho:SP X o i π)(k:vR X.K cs f)(hv:SE X v fe):MS X np (.AugAssign Éo .Add v pos) (HN i π cs f fe):=by
 obtain⟨tv,pv,kv⟩:=Ńd;obtain⟨to,po,Q⟩:=ho.h;refine⟨⟨_,y5n po pv z5t,λ{P G0 H0 G H β σ fl E} hP K e q=>?_⟩⟩;obtain⟨nd,Z,e⟩:=zJ e
 split at e;rename_i x fs ms
 split at e;rename_i c;rw[ĉ]at c;have hx:=ŀ c.1;have U:=ŀ c.2;obtain⟨ch,w,e⟩:=zJ e;obtain⟨dc,n,m⟩:=zJ e;cases kr n
 split at m;rename_i a;obtain⟨y,S,e⟩:=zJ m
 split at e;rename_i b;obtain⟨β2,O,e⟩:=zJ e;cases e;obtain⟨mm,F,A⟩:=Wy Z;have K0:=K.W7 (d:=.zE) (v:=.zE) rfl;obtain⟨r,v1,L1,Lr,L,B,o1,_⟩:=K0.write Ūb F A;obtain⟨p,C,dx,vs,L',rfl,I,T,l,rs,nL,uL⟩:=o1;obtain⟨cl,W⟩:=k x hx C I;obtain⟨Y,Lc,ec,⟨rc,_⟩,_⟩:=Ôf rs w;cases(show Y=_ from rc);refine Q L B ⟨p,C,dx,_,_,rfl,T,cl,W,by rw[ME];exact ec,?_⟩;obtain⟨Ga,Ea,đa⟩:=K.pH;refine kv Ea S λu G2 H2 R r2=>?_
 cases(show u=_ from r2);obtain⟨G3,N,K3,_⟩:=đa _ _ R;obtain⟨r',p',C',s,vs',g,z,j,t,J,K5⟩:=(K3.W7 (d:=.int (a+b)) (v:=.int (a+b)) rfl).AF Ūb F A O;rw[L]at g;cases g;cases īd (ņl N.h) z;have eC:C'=C:=by rw[I]at j;cases j;rfl
 subst eC;exact⟨_,_,rfl,rfl,s,_,t,by rw[ūa,J,Űa,<-J];exact U,q _ _ _ K5⟩;cases e;cases m;cases e;cases e
#print a
open Classical in
noncomputable def cut(H:Hp)(L:Ft):Hp:=λq=>if L q then Ä else H q
def cI{H:Hp}{L:Ft}{q:É}(h:L q):cut H L q=Ä:=by unfold cut;rw[Ï h]
theorem Zo{H:Hp}{L:Ft}{q:É}(h:¬ L q):cut H L q=H q:=by unfold cut;rw[Ð h]
theorem cK{H:Hp}{L:Ft}{q:É}(h:cut H L q=Ä):L q\/H q=Ä:=by by_cases c:L q;exact .inl c;rw[Zo c]at h;exact .inr h
abbrev FM:=Á M->Æ ýk
def yq(K:Í)(F:FM):Sp:=λa H Q _=>∃G ms L ms' m',zw G H/\ũ K G H ms a L/\(∀q,L q->G q=Ä)/\F ms=À (ms',m')/\
 ∀v G' H' L',zT G ės G' H'->ũ K G' H' (m'::ms') (v::a) L'->(∀q,L' q->G' q=Ä/\cut H L q=Ä)->Q v H'
section
variable{K:Í}{n:Nat}{P:Á V}{G0 H0 G H G' H':Hp}{β:yA}{σ:St}
def zt.AA{m:M}{v:V}{L:Ft}(E:zt K n P G0 H0 G H β σ)(x:zT G H G' H')(o:xU K G' H' m v L)(k:∀q,L q->G' q=Ä/\H q=Ä):zt K ļ P G0 H0 G' H' Åf Łb:=by
 obtain⟨p,F⟩:=Äb;have B:=Ťa x;have t:∀i q,p i q->L q->ò:=λi q z c=>ÿd.2.2.some (k q c).2
 refine⟨B.ext,by rw[í,Ş];rfl,by rw[í,ŏ];rfl,by have:=Ňa;omega,λi u h=>?_,λj=>if j<n then p j else if j=n then L else λ_=>ò,λi l h=>?_,λi j q r f d=>?_,λi q z=>?_⟩;have I:i<σ.length:=by rw[Ş];exact ŭ ĝb.1 Ňa
 rw[uN I];exact Ũb i u h;rcases Mv h with⟨c,e⟩|⟨c,e⟩;rw[ŏ]at c;obtain⟨u,y,C⟩:=įa i l e;refine⟨u,by rw[uN Ŏe];exact y,?_⟩;simp only[Ï c];refine C.loc x.g l u _ λq z=>?_
 obtain⟨w,s,_⟩:=ÿd.2.2;rw[s];exact x.h _ _ s;cases e;rw[ŏ]at c;subst c;refine⟨_,gD Ş,?_⟩;simp only[Æe,ða,ś];exact o;split at f;split at d;exact éa i j q r f d;split at d;exact t i q f d;exact d;split at f;split at d;exact t j q d f;split at d;exact r Å;exact d;exact f;split at z;obtain⟨a,b,c⟩:=Ņa i q z;obtain⟨A,J⟩:=Ce x a c;exact⟨A,b,J⟩;split at z;exact⟨(k q z).1,ŝj (k q z).2,o.cells m v _ q z⟩;exact Ða
def zt.back{m W:M}{i:Nat}{π:Á xj}(E:zt K n P G0 H0 G H β σ)(L:β[i]?=À âb)(Y:pN m π=À W) :∃r v1 L1,σ[i]?=À Ėl/\w_ K H r π v1/\xU K G H W v1 L1/\(∀q,L1 q->G q=Ä)/\
   ∀{G' H':Hp}{m' nd':M}{v:V}{Lr L2:Ft},zT G (cut H L1) G' H'->xU K G' H' m' v Lr->xU K G' H' nd' v1 L2->(∀q,Lr q->L2 q->ò)->(∀q,Lr q\/L2 q->G' q=Ä/\cut H L1 q=Ä)->
    ∃mm,pV m π nd'=À mm/\zt K ļ P G0 H0 G' H' (β.set i (À mm)++[À m']) Łb:=by
 obtain⟨t,F⟩:=Äb;have hi:i<n:=by rw[<-ŏ];exact(Ŗ L).1
 obtain⟨r,X,om⟩:=įa i m L;obtain⟨v1,L1,va,o1,I,re⟩:=om.focus Y;refine⟨r,v1,L1,X,va,o1,λq z=>űo.1,λ{G' H' m' nd' v Lr L2} x O S Z B=>?_⟩
 have s:∀j q,t j q->¬ L1 q->H' q=H q:=λj q z w=>by obtain⟨u,C,_⟩:=ŕg.2.2;rw[C];exact x.h _ _ ((Zo w).trans C)
 have A:∀j q,t j q->¬ L1 q->(Lr q\/L2 q)->ò:=λj q z w c=>by have e:=ħl.2;rw[Zo w]at e;exact ŕg.2.2.some e
 obtain⟨mm,e',o'⟩:=re x.g (λq z w=>s i q z w) S (λq z w=>by by_cases c:L1 q;exact c;exact(A i q w c ņb).elim)
 have y:∀j q,j≠i->t j q->¬ L1 q:=λj q l z w=>éa i j q Ħq (I q w) z
 have J:∀q,cut H L1 q=Ä->H0 q=Ä:=λq z=>by rcases cK z with z|z;exact űo.2.1;exact ŝj z
 have p:(β.set i (À mm)).length=n:=by rw[Ŋa];exact ŏ
 refine⟨mm,e',⟨E.ext.g.trans x.g,λq o z=>x.h _ _ ?_,Åb,λq z=>?_⟩,by rw[í,Ş];rfl,by rw[í,p];rfl,by have:=Ňa;omega,λj u h=>?_,λj=>if j=i then ân else if j<n then t j else if j=n then Lr else λ_=>ò,λj R h=>?_,λj k q l f d=>?_,λj q z=>?_⟩
 .rw[Zo λw=>by rw[(Ņa i q (I q w)).2.1]at z;cases z];exact ıh _ _ z
 .rcases Âd q z with w|w
  .exact ĵk q w
  .exact .inr (J q w)
 .have hj:j<σ.length:=by
   rw[Ş];exact ŭ ĝb.1 Ňa
  rw[uN hj];exact Ũb j u h
 .rcases Mv h with⟨c,e⟩|⟨c,e⟩
  .rw[p]at c;rcases u3 e with⟨rfl,w⟩|⟨l,w⟩
   .cases w;simp only[ś];exact⟨r,by rw[uN Ŏe];exact X,o'⟩
   .obtain⟨u,eu,ou⟩:=įa j R w;simp only[Ð l,Ï c];exact⟨u,by rw[uN Ŏe];exact eu,ou.loc x.g R u _ λq z=>s j q z ér⟩
  .cases e;rw[p]at c;subst c;refine⟨_,gD Ş,?_⟩;simp only[Ð (ŀb hi),Æe,ða,ś];exact O
 .have N:∀j,j≠i->∀q,(t i q/\¬ L1 q)\/L2 q->t j q->ò:=λj l q f d=>by
   rcases f with⟨f,_⟩|f;exact éa i j q Ħq f d;exact A j q d (y j q l d) (.inr f)
  have T:∀q,(t i q/\¬ L1 q)\/L2 q->Lr q->ò:=λq f d=>by rcases f with⟨f,w⟩|f;exact A i q f w æl;exact Z q d f
  have Q:∀j,j≠i->∀q,t j q->Lr q->ò:=λj l q f d=>A j q f (y j q l f) æl
  split at f
  .split at d;exact l Å;split at d;exact N k Å q f d;split at d;exact T q f d;exact d
  .split at f;split at d;exact N j Å q d f;split at d;exact éa j k q l f d;split at d;exact Q j Å q f d;exact d;split at f;split at d;exact T q d f;split at d;exact Q k Å q d f;split at d;exact l Å;exact d;exact f
 .have U:∀q,t j q->¬ L1 q->G' q=Ä/\H0 q=Ä/\Bx H' q:=λq z w=>by
   obtain⟨a,b,u,C,cu⟩:=Ņa j q z;refine⟨?_,b,u,(s j q z w).trans C,cu⟩;cases e:G' q with
   |Ä=>rfl|À o=>rcases Âd q žf with c|c;exact Ú a c;rw[Zo w,C]at c;cases c
  split at z
  .rename_i ej;subst ej;rcases z with⟨z,w⟩|z;exact U q z w;exact⟨Ģs.1,J q Ģs.2,S.cells nd' _ _ q z⟩
  .rename_i l
   split at z;exact U q z ér;split at z;exact⟨ġs.1,J q ġs.2,O.cells m' _ _ q z⟩;exact Ða
#print a
inductive AV where
 |v (d:D)|p (i:Nat) (π:Á xj)
abbrev uW:=yA->Æ (Á AV)
def WA(K:Í)(G H:Hp)(σ:St):Á AV->Á V->Prop
 | [],vs=>vs=[]|.v d::as,vs=>∃v r,vs=v::r/\zZ K G d v/\WA K G H σ as r|.p i π::as,vs=>∃v r w,vs=v::r/\σ[i]?=À (À w)/\w_ K H w π v/\WA K G H σ as r
structure MA(X:Cx)(es:Á Ñ)(f:uW):Prop where
 h:∃t,PA X es t/\∀{P:Á V}{G0 H0 G H:Hp}{β:yA}{σ:St}{as:Á AV}{Q:Á V->Hp->Prop},zt X.K ú P G0 H0 G H β σ->f β=À as->(∀vs G' H',zT G H G' H'->WA X.K G' H' σ as vs->Q vs H')->t σ H Q
noncomputable def xN:uW:=λ_=>À []
def UR(f:FE)(r:uW):uW:=λβ=>(Ûf).bind λd=>match wu d with
 |Ã=>(Ūh).bind λa=>À ŝk|Â=>Ä
def xB(f:FE)(r:uW):uW:=λβ=>(ġl).bind λd=>(Ūh).bind λa=>À ŝk
def sL(f:FE)(r:uW):uW:=λβ=>(Ûf).bind λd=>match Hb d with
 |Ã=>(Ūh).bind λa=>À ŝk|Â=>Ä
noncomputable def ge:M->Nat->Á xj->AV
 |.fz d,_,_=>.v d|_,i,π=>.p i π
def pL(i:Nat)(π:Á xj)(r:uW):uW:=λβ=>(œg).bind λa=>(Ūh).bind λb=>À (ge a i π::b)
section
variable{X:Cx}{e:Ñ}{es:Á Ñ}{f:FE}{r:uW}{i:Nat}{π:Á xj}
def vh:MA X [] xN:=⟨⟨_,V5,λE a q=>by cases a;exact q _ _ _ Čc rfl⟩⟩
def MJ(s:SE X e f)(z:MA X es r)(h:Ê ļa q12):MA X ğ (UR f r):=by
 obtain⟨t,p,k⟩:=s.h;obtain⟨H,w,u⟩:=z.h;refine⟨⟨_,XR p w h,λE a q=>?_⟩⟩;obtain⟨d,A,a⟩:=zJ a
 split at a;rename_i c;obtain⟨C,b,a⟩:=zJ a;cases a;obtain⟨B,m,đa⟩:=E.pH;refine k m A λv J I x r=>?_
 obtain⟨K,l,n,j,_⟩:=đa _ _ x;refine u n b λo F G i y=>q _ _ _ (l.trans i) ⟨v,o,rfl,(j d v c r).mono i.g,y⟩;cases a
def xO(j:SE X e f)(n:MA X es r)(h:Ê ļa q12):MA X ğ (xB f r):=by
 obtain⟨t,p,k⟩:=j.h;obtain⟨y,m,l⟩:=n.h;refine⟨⟨_,XR p m h,λE a q=>?_⟩⟩;obtain⟨d,s,a⟩:=zJ a;obtain⟨u,b,a⟩:=zJ a;cases a;refine k E.QH s λv B A x r=>?_
 exact l (Ťa x) b λi z w c o=>q _ _ _ (će c) ⟨v,i,rfl,þa c.g,o⟩
def g6(s:SP X e i π)(z:MA X es r)(h:Ê ļa q12):MA X ğ (pL i π r):=by
 obtain⟨t,p,k⟩:=s.h;obtain⟨J,y,v⟩:=z.h;refine⟨⟨_,XR p y h,λE a q=>?_⟩⟩;obtain⟨C,u,a⟩:=zJ a;obtain⟨H,n,a⟩:=zJ a;obtain⟨G,o,A⟩:=Wy u;obtain⟨w,c,F,m,j,B,_⟩:=ńl o A;refine k m j (v E n λf K I b l=>q _ _ _ b ?_);cases C with
 |fz d=>cases a;exact⟨c,f,rfl,B.1.mono b.g,l⟩|own d=>cases a;exact⟨c,f,w,rfl,m,Įd b.h,l⟩|obj x fs ms=>cases a;exact⟨c,f,w,rfl,m,Įd b.h,l⟩|tab ks ms=>cases a;exact⟨c,f,w,rfl,m,Įd b.h,l⟩|tp ms=>cases a;exact⟨c,f,w,rfl,m,Įd b.h,l⟩
#print a
noncomputable def TZ:Á AV->Æ Ģc
 | []=>À []|.v d::as=>(TZ as).bind λa=>À (d::a)|.p _ _::_=>Ä
def LI:Á AV->Æ (Á D×Nat×Á xj×Á D)
 | []=>Ä|.v d::as=>(LI as).bind λr=>À (d::r.1,r.2)|.p i π::as=>(TZ as).bind λb=>À ([],i,π,b)
noncomputable def jH(ds:Á D):Á M:=Īh .fz
def qP(F:FM)(as:Á AV)(β:yA):Æ (M×yA):=match TZ as with
 |À ds=>(F (jH ds)).bind λr=>À (r.2,β)|Ä=>(LI as).bind λc=>(jQ β c.2.1 c.2.2.1).bind λb=>(F (jH c.1++b::jH c.2.2.2)).bind λr=>(r.1[c.1.length]?).bind λa=>(ãc β c.2.1 c.2.2.1 a).bind λβ'=>À (r.2,β')
def tW(F:FM)(f:uW):wL:=λβ=>(Ęa).bind λa=>qP F a β
section
variable{K:Í}{n:Nat}{P:Á V}{G0 H0 G H G' H':Hp}{β:yA}{σ:St}
theorem IC:∀{ds:Á D}{vs:Á V},Þ K G ds vs->ũ K G H (jH ds) vs þk
 | [],_,r=>⟨r,λ_ z=>z⟩|d::ds,_,r=>by obtain⟨v,r,rfl,a,b⟩:=r;exact⟨v,r,λ_=>ò,λ_=>ò,rfl,⟨a,λ_ z=>z⟩,IC b,λ_ z=>Ða,λq=>⟨λz=>Ða,λz=>Ða id id⟩⟩
theorem i4{g:M}{v1:V}{c:Ft}(o:xU K G H g v1 c){b:Á D}{e:Á V}(f:Þ K G b e):∀{a:Á D}{va:Á V},Þ K G a va->ũ K G H (jH a++g::jH b) (va++v1::e) c
 | [],va,r=>by cases(show va=[]from r);exact⟨v1,e,c,λ_=>ò,rfl,o,IC f,λ_ _ z=>z,λq=>⟨.inl,λz=>Ða id Ħa⟩⟩|d::ds,_,r=>by obtain⟨v,r,rfl,h,i⟩:=r;exact⟨v,_,λ_=>ò,c,rfl,⟨h,λ_ z=>z⟩,i4 o f i,λ_ z=>Ða,λq=>⟨.inr,λz=>Ða Ħa id⟩⟩
theorem Ov:∀{as:Á AV}{ds:Á D}{vs:Á V},TZ as=À ds->WA K G H σ as vs->Þ K G ds vs
 | [],ds,vs,e,r=>by cases e;exact r|.v d::as,ds,vs,e,r=>by obtain⟨b,f,e⟩:=zJ e;cases e;obtain⟨v,r,rfl,a,c⟩:=r;exact⟨v,r,rfl,a,Ov f c⟩
 |.p i π::as,ds,vs,e,r=>by cases e
theorem ba:∀{as:Á AV}{a b:Á D}{i:Nat}{π:Á xj}{vs:Á V},LI as=À (a,i,π,b)->WA K G H σ as vs->∃va v1 vb w,vs=va++v1::vb/\Þ K G a va/\Þ K G b vb/\σ[i]?=À (À w)/\w_ K H w π v1
 | [],a,b,i,π,vs,e,r=>by cases e|.v d::as,a,b,i,π,vs,e,r=>by obtain⟨⟨o,q,π',k⟩,h,e⟩:=zJ e;cases e;obtain⟨v,r,rfl,l,f⟩:=r;obtain⟨va,v1,vb,w,rfl,m,n,c,g⟩:=ba h f;exact⟨v::va,v1,vb,w,rfl,⟨v,va,rfl,l,m⟩,n,c,g⟩
 |.p j ρ::as,a,b,i,π,vs,e,r=>by obtain⟨k,h,e⟩:=zJ e;cases e;obtain⟨v,r,w,rfl,c,va,f⟩:=r;exact⟨[],v,r,w,rfl,rfl,Ov h f,c,va⟩
theorem Ht{v1:V}{c:M}:∀{ms:Á M}{vs:Á V}{L:Ft}{k:Nat},ũ K G H ms vs L->ms[k]?=À c->vs[k]?=À v1->∃L2,xU K G H c v1 L2/\∀q,L2 q->L q
 | [],_,_,_,_,e,_=>by cases e|m::ms,_,L,0,h,e1,e2=>by obtain⟨v,r,a,g,rfl,b,f,d,u⟩:=h;cases e1;cases e2;exact⟨a,b,λq z=>(óa).mpr Ćd⟩
 |m::ms,_,L,k+1,h,e1,e2=>by obtain⟨v,r,a,g,rfl,b,f,d,u⟩:=h;obtain⟨L2,o,s⟩:=Ht (k:=k) f ėo Ėo;exact⟨L2,o,λq z=>(óa).mpr (.inr Ýf)⟩
def zt.call{F:FM}{as:Á AV}{vs:Á V}{m:M}{β':yA}{Q:VK}{E0:XK}(E:zt K n P G0 H0 G H β σ)(B:WA K G H σ as vs)(c:qP F as β=À (m,β'))(q:∀v G' H',zw G G'->zt K ļ P G0 H0 G' H' ŗp Łb->Q v H'):yq K F vs H Q E0:=by
 unfold qP at c
 split at c;rename_i ds e;obtain⟨⟨l,J⟩,k,c⟩:=zJ c;cases c;refine⟨G,_,_,_,_,Õb,IC (Ov e B),λ_ z=>Ða,k,λv G' H' T x o f=>?_⟩
 have C:cut H þk=H:=by
  funext q
  exact Zo (λz=>z)
 rw[C]at x;obtain⟨O,r',Z,N,e2,h,A,t,u⟩:=o;cases e2
 exact q v G' H' x.g (E.AA x h λq z=>by obtain⟨a,b⟩:=f q őe;rw[C]at b;exact⟨a,b⟩);obtain⟨⟨a,i,π,b⟩,X,c⟩:=zJ c;obtain⟨nd,hn,c⟩:=zJ c;obtain⟨⟨l,J⟩,k,c⟩:=zJ c;obtain⟨nd',j,c⟩:=zJ c;obtain⟨β2,s,c⟩:=zJ c;cases c;obtain⟨mm,r,R⟩:=Wy hn;obtain⟨w,v1,L,er,Y,h,g1,S⟩:=ńl r R;obtain⟨xa,v1',xb,w',rfl,I,U,d,p⟩:=ba X B;rw[er]at d;cases d;cases īd Y p;refine⟨G,_,L,_,_,Õb,i4 h U I,g1,k,λv G' H' T x o f=>?_⟩;obtain⟨O,r',Z,N,e2,W,ob,t,u⟩:=o;cases e2
 obtain⟨L2,A,y⟩:=Ht (v1:=v1) ob j (by rw[<-I.length,ŭb Ē,ÿc];rfl)
 obtain⟨m3,e3,K3⟩:=S x W A (λq z w=>t q z (y q w)) (λq z=>by rcases z with z|z;exact f q őe;exact f q (Εa (y q z)))
 rw[MY r e3]at s;cases s;exact q v G' H' x.g K3
#print a
section
variable{X:Cx}{x m c:Str}{ps:Á Str}{j k:Nat}{F:FM}{e o:Ñ}{es:Á Ñ}{fa:uW}{p pos ěa:Pos}{i:Nat}{π:Á xj}
def g_(h:vL ó X.w X.K ð Œ x ps k Ĉc)(m:yl j X.A)(o:Gl X x)(n:MA X ğ fa)(hk:Ê âc q10)(a:Ê Ļ q10)(i:Ê ňa q12):MC X ýb čs:=by
 obtain⟨t,y,z⟩:=n.h;refine⟨⟨_,Hw h m o y hk a i,λE c q=>?_⟩⟩;obtain⟨G,b,c⟩:=zJ c;refine z E b λB C H d u=>?_
 rw[ſ];exact(ĺf).call u c λv r l s f=>q v r l (d.g.trans s) f
def vf(P:å)(w:ß)(K:Í)(b:Str->Æ Value)(a:Heap)(c m:Str)(ps:Á Str)(k:Nat)(sp:Sp):Prop:=
 ∃(C f:É) (fd:ķ),ű K ė c=À ĕa/\t8 K C/\Qv K C m f/\vX K fd ps []/\xH P w K b a xC k f fd ps sp
def vG(c m:Str)(i:Nat)(π:Á xj)(F:FM)(f:uW):wL:=λβ=>(œg).bind λa=>match a with
 |.obj x fs _=>match decide (x=c)&&!(decide (m∈fs))with
  |Ã=>(Ęa).bind λb=>qP F (.p i π::b) β|Â=>Ä
 |_=>Ä
theorem HM{f:Str}:∀{fs:Á Str}{vs:Á V},f ∉ fs->(ör).lookup f=Ä
 | [],_,_=>rfl|_::_,[],_=>rfl|g::fs,v::vs,h=>by
  rw[ĸb,Ũe]
  have c:(f==g)=Â:=by
   have:f≠g:=λz=>h (z▸ĵ)
   simpa using this
  rw[c];exact HM λz=>h Ņk
def Ch{P:Á V}{d b G H:Hp}{β β':yA}{σ:St}{B:M}{Q:VK}{C:É}{t:TA}{z:TE}{E0:XK}(n:ű X.K ė c=À ĕa)(L:∀{σ:St}{H:Hp}{v u:V}{Q:VK},σ[i]?=À æa->w_ X.K H v π u->Q u H->z σ H Q)(U:∀{P:Á V}{d b G H:Hp}{β:yA}{σ:St}{as:Á AV}{Q:Á V->Hp->Prop},zt X.K ú P d b G H β σ->fa β=À as->(∀vs G' H',zT G H G' H'->WA X.K G' H' σ as vs->Q vs H')->t σ H Q)(E:zt X.K ú P d b G H β σ)(k:vG c m i π F fa β=À (B,β'))(q:∀v G' H',zw G G'->zt X.K (ú+1) P d b G' H' (β'++[À B]) Łb->Q v H'):BC C m Ĉc [] E0 z t σ H Q:=by
 obtain⟨nd,Y,a⟩:=zJ k
 split at a;rename_i x Z ms
 split at a;rename_i f;rw[ĉ]at f;cases ŀ f.1
 have I:m ∉ Z:=by have:=f.2;simpa using this
 obtain⟨as,j,k⟩:=zJ a;obtain⟨mm,e,R⟩:=Wy Y;obtain⟨w,v1,L1,A,y,T,_⟩:=ńl e R;obtain⟨p,C',O,vs,L',rfl,r,S,l,rs,nL,uL⟩:=T;rw[n]at r;cases r;refine L A y ⟨p,O,_,rfl,S,HM I,?_⟩;refine U E j λvs G1 H1 o ra=>?_
 rw[ſ];exact(Ťa o).call (as:=.p i π::as) ⟨_,vs,w,rfl,A,y.mono o.h,ra⟩ k λv G' H' s J=>q v G' H' (ųr s) J;cases a;cases a
def XI{pl:Sem Ì}(h:vf ó X.w X.K ð Œ c m ps k Ĉc)(n:yl j X.A)(r:SP X o i π)(p:MA X ğ fa)(hk:Ê âc q10)(a:Ê ňa q12)(s:č Ŵf Ô=(do
   let ov <-č o Ô
   standAt Ād
   let (f,first) <-holding [ov] łc
   Ïc pos f first Ūd ūb):=by rfl):MC X Ŵf (vG c m i π F fa):=by
 obtain⟨C,f,G,z,l,u,b,d⟩:=h;obtain⟨t,y,B⟩:=p.h;obtain⟨H,x,g⟩:=r.h;rw[Àa,ĉ]at a;exact⟨⟨_,y4n x l u d ñr b .nil XS y Ďh ēh s,λE v q=>Ch z g B E v q⟩⟩
def Uu{pl:Sem Ì}(h:vf ó X.w X.K ð Œ c m ps k Ĉc)(n:yl j X.A)(r:SP X o i π)(hk:Ê âc q10)(s:č ňd Ô=(do
   let ov <-č o Ô
   standAt Ād
   let (f,first) <-holding [ov] łc
   Ïc pos f first Ăg ūb):=by rfl):MC X ňd (vG c m i π F xN):=by
 obtain⟨C,f,B,y,g,u,b,d⟩:=h;obtain⟨I,x,a⟩:=r.h;exact⟨⟨_,Hv x g u d ñr b .nil XS s,λE v q=>Ch (t:=Xe) y a (λ{P L J G H β σ z Q} p e l=>by cases e;exact l _ _ _ (ŉa p.ext.gh) rfl) E v q⟩⟩
def Qs(P:å)(w:ß)(K:Í)(b:Str->Æ Value)(a:Heap)(c:Str)(ps:Á Str)(k:Nat)(sp:Sp):Prop:=
 ∃(C f:É) (fd:ķ),ű K ė c=À ĕa/\b c=À ő/\Mk K C f/\vX K fd ps []/\xH P w K b a xC k f fd ps sp
def JC(c:Str)(F:FM)(f:uW):wL:=λβ=>(Ęa).bind λb=>(TZ b).bind λa=>(F (.obj c [] []::jH a)).bind λr=>match r.2 with
 |.fz .zE=>(r.1[0]?).bind λm=>À (m,β)|_=>Ä
def HP(h:Qs ó X.w X.K ð Œ c ps k Ĉc)(hr:yl j X.A)(hg:Gl X c)(ha:MA X ğ fa)(hk:Ê (k+1<=j) q10)(J:Ê ċi q10)(U:Ê ňa q12) :MC X (.Call Ôk ğ [] pos) (JC c F fa):=by
 obtain⟨C,f,fd,ns,Y,mk,b,FF⟩:=h;obtain⟨t,pa,ka⟩:=ha.h;rw[Àa,ĉ]at U;refine⟨⟨_,y4l mk FF (hr.mono hk) hg Y b .nil XS pa J (qB U.1) (YF U.2),λ{P G0 H0 G H β β' σ mr Q} E d q=>?_⟩⟩;obtain⟨as,R,d⟩:=zJ d;obtain⟨ds,S,d⟩:=zJ d;obtain⟨⟨W,m'⟩,hF,d⟩:=zJ d;refine ka E R λvs x m x1 ra y i n l ne=>?_
 rw[ſ];have N:=Ťa x1;have rd:=Ov S ra
 split at d;rename_i em
 change m'=.fz .zE at em
 subst em;obtain⟨m0,h0,d⟩:=zJ d;cases d;have O:∀q,q≠y->q≠i->zX (zX m i (.own y)) y (.ins C i []) q=m q:=λq z w=>by rw[yB z,yB w]
 have gy:x y=Ä:=N.ext.gh.free n
 have s2:zw x ńm:=λq o z=>by have s:=N.ext.gh _ _ z;rw[O q (λc=>by subst c;rw[n]at s;cases s) (λc=>by subst c;rw[l]at s;cases s)];exact s
 refine⟨x,.obj c [] []::jH ds,λq=>q=y,W,.fz .zE,s2,⟨_,vs,λq=>q=y,λ_=>ò,rfl,⟨y,C,i,[],λ_=>ò,rfl,ns,ya,rfl,⟨rfl,λ_ z=>z⟩,λz=>z,λq=>⟨.inl,λz=>Ða id Ħa⟩⟩,IC rd,λ_ _ z=>z,λq=>⟨.inl,λz=>Ða id Ħa⟩⟩,λq z=>z▸gy,hF,λv G' H' L' B o hN=>?_⟩;obtain⟨v',r',La,Lb,e2,oa,ob,dj,u⟩:=o;cases e2;refine⟨oa.1,?_⟩;obtain⟨L2,o2,T⟩:=Ht (v1:=.ref y) ob h0 rfl
 have cn:∀q,cut ńm (λq=>q=y) q=Ä->m q=Ä:=λq z=>by rcases cK z with z|z;exact z▸n;by_cases r:q=y;exact r▸n;by_cases I:q=i;exact I▸l;rw[O q r I]at z;exact z
 have Z:zT x m G' H':=⟨B.g,λq o z=>B.h _ _ (by
  have r:q≠y:=λc=>by subst c;rw[n]at z;cases z
  have I:q≠i:=λc=>by subst c;rw[l]at z;cases z
  rw[Zo (L:=λq=>q=y) r,O q r I];exact z),B.gh,λq z=>by
  rcases B.new q z with w|w;exact .inl w;exact .inr (cn q w)⟩
 exact q _ G' H' (x1.g.trans Z.g) (N.AA Z o2 λq z=>by obtain⟨a,b⟩:=hN q (Εa (T q z));exact⟨a,cn q b⟩);cases d
#print a
section
variable{K:Í}{G H:Hp}
theorem Žq:∀{ms:Á M}{vs:Á V}{L:Ft},ũ K G H ms vs L->∃Ls:Nat->Ft,(∀(i:Nat)(m:M),ms[i]?=À m->∃v,vs[i]?=À v/\xU K G H m v Śl)/\(∀(i j:Nat)(q:É),i≠j->Ls i q->Ls j q->ò)/\∀i q,Ls i q->L q
 | [],_,_,_=>⟨λ_ _=>ò,⟨λi m h=>Ōq,⟨λ_ _ _ _ z=>Ða,λ_ _ z=>Ða⟩⟩⟩|m::ms,_,L,h=>by
  obtain⟨v,r,l,t,rfl,n,p,d,u⟩:=h;obtain⟨Ls,o,s,a⟩:=Žq p;refine⟨λi=>match i with|0=>l|j+1=>Ls j,λi k e=>?_,λi j q g b f=>?_,λi q z=>?_⟩;cases i with
  |ų=>cases e;exact⟨v,rfl,n⟩|Ŵ j=>exact o j k āb
  cases i with
  |ų=>
   cases j with
   |ų=>exact g rfl|Ŵ j=>exact d q b (a j q f)
  |Ŵ i=>
   cases j with
   |ų=>exact d q f (a i q b)|Ŵ j=>exact s i j q (λc=>g Ņr) b f
  cases i with
  |ų=>exact(óa).mpr Ćd|Ŵ j=>exact(óa).mpr (.inr (a j q z))
theorem ók:∀{ms:Á M}{vs:Á V}{Ls:Nat->Ft},(∀(i:Nat)(m:M),ms[i]?=À m->∃v,vs[i]?=À v/\xU K G H m v Śl)->(∀(i j:Nat)(q:É),i≠j->Ls i q->Ls j q->ò)->Ā=Ľa->∃L,ũ K G H ms vs L/\∀q,L q->∃i,i<Ľa/\Ls i q
 | [],vs,Ls,_,_,l=>by
  cases vs with
  |nil=>exact⟨λ_=>ò,⟨rfl,λ_ z=>z⟩,λ_ z=>Ða⟩|Ĉ v r=>cases l
 |m::ms,[],Ls,_,_,l=>by cases l|m::ms,v::vs,Ls,h,d,l=>by
  obtain⟨L,o,c⟩:=ók (ms:=ms) (vs:=vs) (Ls:=λi=>Ls ê) (λi f e=>by obtain⟨u,a,b⟩:=h ê f āb;exact⟨u,by simpa using a,b⟩) (λi j q p=>d ê Ŝ q Å) (żd l)
  obtain⟨u,a,b⟩:=h 0 m rfl;cases a;refine⟨λq=>Ls 0 q\/L q,⟨v,vs,Ls 0,L,rfl,b,o,λq g k=>?_,λq=>Ĥd⟩,λq z=>?_⟩;obtain⟨i,_,z⟩:=c q k;exact d 0 ê q Å g z;rcases z with z|z;exact⟨0,ēq _,z⟩;obtain⟨i,n,z⟩:=c q z;exact⟨i+1,Ùp n,z⟩
#print a
noncomputable def Zl:Á ĕl->Æ (Á M)
 | []=>À []|o::r=>įl λm=>(Zl r).bind λa=>À (m::a)
def E6(b:Nat):gX->Æ ýk
 |.rt m β=>(çp).bind λa=>À (a,m)|.nx β=>(çp).bind λa=>À (a,.fz .zE)|_=>Ä
def wW(a n:Nat)(b:yQ)(ms:Á M):Æ ýk:=(b (ιd (n-Ľa))).bind (E6 a)
def vZ(a n:Nat)(b:yQ):FM:=λc=>if Ŗb=a then wW a n b c else Ä
def vq{a n:Nat}{b:yQ}:∀ms r,vZ a n b ms=À r->Ľa=a/\wW a n b ms=À r:=λms r h=>by
 unfold vZ at h
 split at h;rename_i c;exact⟨c,h⟩;cases h
theorem bY:∀{os:Á ĕl} {ms:Á M},Zl os=À ms->Ľa=os.length/\∀(i:Nat)(m:M),ms[i]?=À m->os[i]?=À âb
 | [],ms,h=>by cases h;exact⟨rfl,λi m e=>by cases e⟩|o::r,ms,h=>by
  obtain⟨d,b,h⟩:=zJ h;obtain⟨a,c,h⟩:=zJ h;cases h;subst b;obtain⟨l,g⟩:=bY c;refine⟨by rw[ĕ,ĕ,l],λi m e=>?_⟩;cases i with
  |ų=>cases e;rfl|Ŵ j=>exact g j m āb
section
variable{K:Í}
def z7s{N:Á Str}{G H:Hp}{ms:Á M}{vs:Á V}{L:Ft}(s:zw G H)(o:ũ K G H ms vs L)(n:∀q,L q->G q=Ä)(w:Ľa<=Éa):zt K Éa vs G ės G H (ιd (Éa-Ľa)) ük:=by
 have l:=Ęb;obtain⟨k,j,r,b⟩:=o.split;have d:∀q,L q->Bx H q:=Õe (λm _ v f g=>g.cells m v f) o
 have a:∀(i:Nat)(v:V),vs[i]?=À v->ük[i]?=À æa:=λi v e=>by unfold Üf;rw[ıb (by rw[ä];exact Ŀh.1),ş,e];rfl
 refine⟨⟨řa _,λq o e=>?_,s,λq z=>.inl z⟩,?_,?_,by omega,a,k,λi m h=>?_,r,λi q z=>⟨n q Śk,cI Śk,d q Śk⟩⟩;by_cases c:L q;rw[cI c]at e;cases e;rw[Zo c]at e;exact e;unfold Üf;rw[í,ä,ļc];omega;rw[í,ä,ļc];omega;obtain⟨u,e,z⟩:=MK h;cases z;obtain⟨v,p,t⟩:=j i m e;exact⟨v,a i v p,t⟩
def fD{n:Nat}{A k G H:Hp}{vs:Á V}{β:yA}{σ:St}{m:M}{v:V}{ms:Á M}(E:zt K ļ vs A k G H Åf Łb)(y:Ā<=n)(h:Zl (β.take Ā)=À ms) :∃L,ũ K G H (m::ms) (v::vs) L/\∀q,L q->G q=Ä/\k q=Ä:=by
 obtain⟨Ls,F⟩:=Äb;obtain⟨l,g⟩:=bY h;rw[ìa,E.Xy,Îb y]at l;obtain⟨u,f,C⟩:=įa n m Ĕs;rw[gD E.QD]at f;cases f
 obtain⟨L,o,x⟩:=ók (K:=K) (G:=G) (H:=H) (ms:=m::ms) (vs:=v::vs) (Ls:=λi=>match i with|0=>Ls n|j+1=>if j<n then Ls j else λ_=>ò) (λi c e=>by
  cases i with
  |ų=>cases e;exact⟨v,rfl,C⟩|Ŵ j=>
   have r:ms[j]?=À c:=by simpa using e
   have d:j<Ā:=by rw[<-l];exact(Ŗ r).1
   have e2:=g j c r;rw[ıo]at e2;rw[Ï d]at e2;obtain⟨w,t,s⟩:=įa j c (by rw[uN (by rw[E.Xy];omega)];exact e2);have p:=Ũb j (vs[j]) Ľh;rw[t]at p;cases p;refine⟨vs[j],by simp[d],?_⟩;simp only[Ï (show j<n by omega)];exact s) (λi j q B a b=>by
  cases i with
  |ų=>
   cases j with
   |ų=>exact B rfl|Ŵ j=>
    dsimp only at a b
    split at b;exact éa n j q Å a b;exact b
  |Ŵ i=>
   cases j with
   |ų=>
    dsimp only at a b
    split at a;exact éa n i q Å b a;exact a
   |Ŵ j=>
    dsimp only at a b
    split at a;split at b;exact éa i j q Å a b;exact b;exact a) (by rw[ĕ,ĕ,l])
 refine⟨L,o,λq z=>?_⟩;obtain⟨i,_,z⟩:=x q z;cases i with
 |ų=>exact⟨Îr.1,Îr.2.1⟩|Ŵ j=>
  dsimp only at z
  split at z;exact⟨ŕg.1,ŕg.2.1⟩;exact Ða
#print a
structure wn(K:Í)(x qual:Str)(st:Õ)(f:É)(fd:ķ):Prop where
 ex:∃(oc:Value) (od:Æ É) (dV kV doc pm:Value) (an:Æ É) (cdv ct:Value) (osl:Ø ųa),
  fd=ıd x qual đe ça Ń dV kV doc pm an cdv ct/\Ź f=À ⟨oc,od,.func fd,osl⟩/\Řb K cdv qual=Ã
 kp:ùa K Į=Ã
def _root_.L2.Fun.v{K:Í}{x a:Str}{st:Õ}{f:É}{h:ķ}(F:Fun K x a st f h):wn K x a st f h:=by obtain⟨j,k,kV,b,i,n,d,m,g,e,l,c⟩:=F.ex;exact⟨⟨j,k,.none,kV,b,i,n,d,m,g,e,l,c⟩,F.kp⟩
section
variable{P:å}{w:ß}{K:Í}{mg:Str->Æ Value}{Ç:Heap}
def dF{x a:Str}{st:Õ}{f:É}{j:Value}{m i:Æ É}{e:Ø ųa}{h kV d g b ct:Value}(l:Ź f=À ⟨j,m,.func Ęm,e⟩)(c:Řb K b a=Ã)(k:ùa K Į=Ã):wn K x a st f Ęm:=⟨⟨j,m,h,kV,d,g,i,b,ct,e,rfl,l,c⟩,k⟩
def wn.ok{x a:Str}{st:Õ}{f:É}{i:ķ}{N ps:Á Str}{k:Nat}{sp:Sp}(F:wn K x a st f i)(S:zj N ps Ń)(e:∀vs H Q E,sp vs H Q E->Ā=ù)(c:∀(b:Value)(A:ø)(ā:Á Env)(s:Ë)(H:Hp)(vs:Á V)(Q:VK)(E:XK),yl k Ğn->sp vs H Q E->
   ∃t,tD (Ėm).qI ça t/\t { nx:=λ_ H'=>Q .zE H',rt:=Q } ýd H):xH P w K mg Ç xC Ņ f i ps sp:=by
 obtain⟨o,p,r,kV,m,v,u,b,y,j,rfl,n,d⟩:=F.ex;refine d9 n d S e λA ā s H vs Q E l g=>?_
 obtain⟨t,h,q⟩:=c b A ā s H vs Q E l g;exact⟨t,h.qI,q⟩
def wn.QL{x c:Str}{st:Õ}{f:É}{U:ķ}{N ps:Á Str}{k:Nat}{F:FM}{b:yQ}(d:wn K x c st f U)(S:zj N ps Ń)(R:ù<=Éa)(W:∀ms r,F ms=À r->Ľa=ù/\wW ù Éa b ms=À r)(hb:∀(g:Value)(A:ø)(ā:Á Env)(s:Ë)(H:Hp)(E:XK),yl k ĝn->jB (ĕm).qI ù ça b):xH P w K mg Ç xC Ņ f U ps ĉh:=by
 refine d.ok S (λT H Q E h=>?_) λg A ā s H T Q E hr h=>?_;obtain⟨G,ms,L,O,X,_,o,_,e,_⟩:=h;rw[Ęb,(W _ _ e).1];obtain⟨G,ms,L,O,X,s',o,Y,e,q⟩:=h;obtain⟨l,a⟩:=W _ _ e;obtain⟨t,p,Z⟩:=(hb g A ā s H E hr).h;obtain⟨fl,J,a⟩:=zJ a;have i:T.length=ù:=by rw[Ęb,l]
 refine⟨t,p,Z i (z7s (N:=N) s' o Y Å) J ?_⟩;cases fl with
 |nx β=>obtain⟨B,n,a⟩:=zJ (show(ŕo).bind _=_ from a);cases a;intro σ u C j;obtain⟨y,I,z⟩:=fD (j.W7 (d:=.zE) (v:=.zE) rfl) Ŕo œo;exact q .zE u C y j.ext I z
 |rt m β=>obtain⟨B,n,a⟩:=zJ (show(ŕo).bind _=_ from a);cases a;intro σ v u C j;obtain⟨y,I,z⟩:=fD j Ŕo œo;exact q v u C y j.ext I z
 |_=>cases a
def wn.r_{x c:Str}{st:Õ}{f:É}{j:ķ}{N ps:Á Str}{k:Nat}{F:Á D->Æ â}{b:FS}(d:wn K x c st f j)(S:zj N ps Ń)(O:ù<=Éa)(m:∀ds r,F ds=À r->Đ=ù/\yH Éa b ds=À r)(L:∀(g:Value)(A:ø)(ā:Á Env)(s:Ë)(H:Hp)(E:XK),yl k ĝn->qM (ĕm).qI ça b):xH P w K mg Ç xC Ņ f j ps ģf:=by
 refine d.ok S (λn H Q E h=>?_) λg A ā s H n Q E J h=>?_;obtain⟨G,ds,o,v,_,r,e,_⟩:=h;rw[Ûa,(m _ _ e).1];obtain⟨G,ds,o,v,B,r,e,q⟩:=h;obtain⟨l,a⟩:=m _ _ e;obtain⟨t,p,y⟩:=(L g A ā s H E J).h;obtain⟨C,i,a⟩:=zJ a;refine⟨t,p,y (ci (N:=N) B r Å) i ?_⟩;cases C with
 |nx τ=>cases a;exact λσ I u z=>q .zE I u z.ext rfl|rt o' d'=>
  cases a;cases o with
  |Â=>exact q|Ã=>exact q
 |_=>cases a
theorem Def.QL{x:Str}{st:Õ}{N ps:Á Str}{k:Nat}{F:FM}{b:yQ}(d:Def K mg x st ps)(S:zj N ps Ń)(h:ù<=Éa)(g:∀ms r,F ms=À r->Ľa=ù/\wW ù Éa b ms=À r)(l:∀(f:É)(a:Value)(A:ø)(ā:Á Env)(s:Ë)(H:Hp)(E:XK),yl k (ŉb (Ėb x Ń Û f a))->jB (tZ xC P w K mg Ç N x Ń f a A ā s H E).qI ù ça b):vL P w K mg Ç x ps Ņ ĉh:=by obtain⟨f,j,e,i,c⟩:=d;exact⟨f,j,i,e.kp,c,e.v.QL S h g (l f)⟩
def dD(F:FM):Á D->Æ â:=λa=>(F (jH a)).bind λr=>match r.2 with
 |.fz d=>À (Â,d)|.own d=>À (Ã,d)|_=>Ä
def y9r{F:FM}{vs:Á V}{H:Hp}{Q:VK}{E:XK}(h:vQ K (dD F) vs H Q E):yq K F vs H Q E:=by
 obtain⟨G,y,o,d,s,r,e,q⟩:=h;obtain⟨⟨c,f⟩,w,e⟩:=zJ e
 have k:cut H þk=H:=by
  funext q
  exact Zo (λz=>z)
 refine⟨G,jH y,λ_=>ò,c,f,s,IC r,λ_ z=>Ða,w,λv g j I x t n=>?_⟩;rw[k]at x;obtain⟨B,N,J,A,e2,i,L,C,u⟩:=t;cases e2;cases f with
 |fz d'=>cases e;exact q v g j x i.1|own d'=>cases e;obtain⟨p,rfl,m,l⟩:=i;obtain⟨a,b⟩:=n p ((u p).mpr (.inl ((l p).mpr rfl)));rw[k]at b;exact q p g j x b a m
 |_=>cases e
#print a
structure Oh(P:å)(w:ß)(K:Í)(mg:Str->Æ Value)(Ç:Heap)(c m:Str)(ps:Á Str)(k:Nat)(sp:Sp):Prop where
 ex:∃(C f:É) (fd:ķ) (mc:Value),mg c=À ő/\Żj K ő Ũi=À êi/\İk K C mc=Ã/\ık K ő mc m=À ĉk/\ùa K Į=Ã/\vX K fd ps []/\xH P w K mg Ç xC k f fd ps sp
section
variable{X:Cx}{c m:Str}{ps:Á Str}{j k:Nat}{F:FM}{e:Ñ}{es:Á Ñ}{fa:uW}{p pos ěa:Pos}{sp:Sp}{t:TA}
def y4f{pl:Sem Ì}(h:Oh ó X.w X.K ð Œ c m ps k sp)(v:yl j X.A)(B:Gl X c)(x:PA X ğ t)(hk:Ê âc q10)(g:Ê ċi q10)(i:Ê ňa q12)(E:č ůf Ô=(do
   let ov <-č Ôk Ô
   standAt Ād
   let (f,first) <-holding [ov] łc
   Ïc pos f first Ūd ūb):=by rfl):PE X ůf Ĭp:=by
 obtain⟨C,f,L,N,o,l,d,a,z,b,u⟩:=h.ex;rw[Àa,ĉ]at i;intro y s σ H Q I F;refine äj (pl:=pl) ?_ E;refine MD I B o ?_ g;refine W.method_cls ŝ l (W.cls_value ŝ d a rfl ?_);exact Èf (h₀:=Œ) Öf z (zn (x pos y _ σ H _ ğc F) λJ O ⟨G,P,n,r,q⟩=>⟨n.xg,IP u (v.mono hk) b .nil XS n r q⟩) (qB i.1) (YF i.2)
def fG{pl:Sem Ì}(h:Oh ó X.w X.K ð Œ c m ps k Ĉc)(r:yl j X.A)(x:Gl X c)(u:MA X ğ fa)(hk:Ê âc q10)(a:Ê ċi q10)(n:Ê ňa q12)(B:č ůf Ô=(do
   let ov <-č Ôk Ô
   standAt Ād
   let (f,first) <-holding [ov] łc
   Ïc pos f first Ūd ūb):=by rfl):MC X ůf čs:=by
 obtain⟨t,C,G⟩:=u.h;refine⟨⟨_,y4f h r x C hk a n B,λE d q=>?_⟩⟩;obtain⟨J,b,d⟩:=zJ d;refine G E b λH I L i z=>?_
 rw[ſ];exact(Ťa i).call z d λv y o s l=>q v y o (i.g.trans s) l
#print a
noncomputable def z1k:yA->Æ Şg:=λβ=>À ([],β)
noncomputable def z1j(f:wL)(r:yA->Æ Şg):yA->Æ Şg:=λβ=>(Ęa).bind λa=>(r a.2).bind λb=>À (a.1::b.1,b.2)
noncomputable def z0p(ks:Á Str)(fs:yA->Æ Şg):wL:=λβ=>(fs β).bind λr=>match decide (ĭ=r.1.length)with
 |Ã=>À (.tab (ks.map .inr) r.1,r.2)|Â=>Ä
noncomputable def z0n(i:Nat):wL:=λβ=>match β[i]? with
 |À âb=>À (m,β.set i Ä)|_=>Ä
#print L3
namespace L2
open Ħ Ķ Îa ī
section
variable{X:Cx}{c e:Ñ}{es:Á Ñ}{t:TA}{tc:TE}{pos:Pos}{j:Nat}
noncomputable def x0c(X:Cx)(j:Nat)(tc:TE)(t:TA):TE:=λσ H Q=>tc σ H λv a=>∃(f:É) (fd:ķ) (ps:Á Str) (k:Nat) (sp:Sp),v=.ref f/\k<=j/\ùa X.K Į=Ã/\vX X.K fd ps []/\xH ó X.w X.K ð Œ xC k f fd ps sp/\t σ a λb c=>sp (b++[]) c Q E0
def y4d(o:yl j X.A)(y:PE X c tc)(w:PA X ğ t)(a:Ê ňa q12)(d:Ê (č ëo Ô=(do Ïc pos (<-č c Ô) [] Ūd ūb)) q12):PE X ëo (x0c X j tc t):=by intro g s σ H Q I h;rw[Àa,ĉ]at a;rw[d];refine Ò (zn (y g s σ H _ I h) λu m ⟨v,K,x,z,f,J,C,k,N,n,l,p,b,F,q⟩=>?_);subst n;cases z;refine Èf (h₀:=Œ) Öf p (zn (w pos g m σ _ _ x q) λG E ⟨B,L,i,r,q⟩=>⟨i.xg,?_⟩) Ďh ēh;exact IP F (o.mono l) b .nil XS i r q
#print a
#print L2
namespace L3
open Ħ Ķ ī L2
def Yo(K:Í)(w:ß)(b:Str->Æ Value)(a:É)(ks:Á zW)(ns:Á Str):Prop:=
 ∃fs:Á É,ąa=Â/\ĭ=Ÿa/\(∀(i:Nat)(n:Str),ns[i]?=À n->∃f,fs[i]?=À f/\b n=À Į)/\Ùa=Ÿa/\∀(P:å)(h:Heap),Ŕ h->∃vs,KV (Ŋf Ľk) vs/\óe Ŕa a vs
inductive WM(mg:Str->Æ Value):Á Str->Á É->Prop
 |nil:WM mg [] []
 |Ĉ {n:Str} {f:É} {ns:Á Str} {fs:Á É} (h:mg n=À Į) (r:WM mg ns fs):WM mg Ĝl (f::fs)
theorem WM.at_{c:Str->Æ Value}:∀{ns:Á Str}{fs:Á É},WM c ns fs->(∀(i:Nat)(n:Str),ns[i]?=À n->∃f,fs[i]?=À f/\c n=À Į)/\Ùa=Ÿa
 |_,_,.nil=>⟨λi n h=>Ōq,rfl⟩|_,_,.cons h r=>by
  obtain⟨a,b⟩:=r.at_;refine⟨λi n e=>?_,by rw[ĕ,ĕ,b]⟩;cases i with
  |ų=>cases e;exact⟨_,rfl,h⟩|Ŵ i=>exact a i n āb
theorem nZ:∀{fs:Á É},zm Ľk ßs
 | []=>.nil|_::_=>.cons rfl nZ
def z34{K:Í}{c:Str->Æ Value}{w:ß}{a:É}{es:Á Ëc}{n:Nat}{xs ns:Á Str}{fs:Á É}(l:Ź a=À { cls:=.type Ż,Ć:=.dict êk n })(e:ja w es xs ßs)(o:Ĕd)(g:ąa=Â)(m:WM c ns fs) :Yo K w c a ød ns:=by
 have d:(àc Ţb:Á zW).length=(Ľk).length:=by rw[ä,e.len,ä,ä]
 obtain⟨i,f⟩:=m.at_;refine⟨fs,g,by rw[d,ä],i,f,λP h j=>⟨_,Gz nZ d,?_⟩⟩;obtain⟨p,q⟩:=õl (P:=P);refine⟨_,_,_,j _ _ l,⟨rfl,rfl,rfl⟩,rfl,λe k=>q e (by simpa using k),p,?_⟩;rw[Bd ĩi];exact Źi _ Ĉi o
section
variable{X:Cx}
def z32{A:É}{ks:Á zW}{ns:Á Str}(g:Yo X.K X.w ð A ks ns):yk X Ąf (λx y H Q=>y=.ref A/\∃k,x=kV k/\Q ĳp H):=by intro m s σ H x y v u Q I i f h;obtain⟨rfl,k,rfl,q⟩:=h;cases f;obtain⟨l,a,c,_,_,e⟩:=g;obtain⟨j,b,d⟩:=e ó Ý ŝ;refine Ũq (Z5 i) a d.mapOf ?_;rw[<-(b.val k).Vq,VP k ão,EY k ão];exact⟨.bl _,H,Ña _,rfl,q⟩
def x02{A:É}{ks:Á zW}{ns:Á Str}{x:Str}{p pos:Pos}{a:Ñ}{e:FE}(h:wp ð x Ėc)(g:Yo X.K X.w ð A ks ns)(n:Gl X x)(j:SE X a e)(o:Ê Ļ q10)(i:Ê (úc .In Ĝa=Â) q12) :ST X (.Compare a [.In] [.Name x p] pos) (tE (e1 (X1 ks) e)):=by obtain⟨B,s,t⟩:=j.h;refine⟨⟨_,K9 (z32 g) s (V6 h n o) i,λ{I v G H τ σ d Q} E c q=>?_⟩⟩;obtain⟨z,b,c⟩:=zJ c;obtain⟨y,l,b⟩:=zJ b;obtain⟨k,f,b⟩:=zJ b;cases b;cases c;exact t E l λu F C m r=>⟨rfl,k,Y0 f r,_,rfl,q _ _ m⟩
def z33{A:É}{ks:Á zW}{ns:Á Str}(g:Yo X.K X.w ð A ks ns):pJ X (λx y H Q=>x=.ref A/\∃k n,y=kV k/\Ă ks ns k=À n/\∀f,ð n=À Į->Q Į H):=by
 intro l d T s σ H x y v u Q I W U h G;obtain⟨rfl,k,n,rfl,S,q⟩:=h;cases W;obtain⟨a,C,O,b,P,L⟩:=g;obtain⟨R,m,B⟩:=L ó Ý ŝ
 have j:∀{ks:Á zW}{ns:Á Str}{a:Á É},(∀(i:Nat)(n:Str),ns[i]?=À n->∃f,a[i]?=À f/\ð n=À Į)->Ă ks ns k=À n->∃f,Ă ks (a.map ĩc) k=À Į/\ð n=À Į:=λ{ks}=>by
  induction ks with
  |nil=>intro ns a _ e;cases e|Ĉ k' ks ih=>
   intro ns a b e;cases ns with
   |nil=>cases e|Ĉ n' ns=>
    obtain⟨f0,z,E⟩:=b 0 n' rfl;cases a with
    |nil=>cases z|Ĉ f1 a=>cases z;unfold Ă at e;rw[ř];unfold Ă;by_cases c:k'=k;rw[Ï c]at e ⊢;cases e;exact⟨_,rfl,E⟩;rw[Ð c]at e ⊢;exact ih (λi n h=>b ê n Āb) e
 obtain⟨f,N,Z⟩:=j b S;obtain⟨t,Y,p⟩:=áf (v:=ĩc f) (o:=Ĝc R k) (by rw[<-N,<-VP k (by rw[ä];exact O)];exact m.val k)
 exact Ĵe (x:=t) B.typeIs Āi
  (ĸi (Q:=λr J=>r=t/\EP X T σ Q r J) (Z5 U) B.mapOf Y ⟨rfl,_,H,Ña _,p,q f Z⟩) G
inductive vp(X:Cx)(j:Nat):Á Str->Á FM->Prop
 |nil:vp X j [] []
 |Ĉ {n:Str} {ps:Á Str} {k:Nat} {F:FM} {ns:Á Str} {Fs:Á FM} (h:vL ó X.w X.K ð Œ n ps k Ĉc) (hk:k<=j) (r:vp X j ns Fs):vp X j Ĝl (F::Fs)
theorem vp.get{X:Cx}{j:Nat}{k:zW}{F:FM}:∀{ks:Á zW}{ns:Á Str}{Fs:Á FM},vp X j ns Fs->Ă ks Fs k=À F->∃n ps i,Ă ks ns k=À n/\i<=j/\vL ó X.w X.K ð Œ n ps i Ĉc
 | [],_,_,_,e=>by cases e|_::_,_,_,.nil,e=>by cases e|k'::ks,_,_,.cons (n:=n) (ps:=ps) (k:=i) h hk r,e=>by unfold Ă at e;by_cases c:k'=k;rw[Ï c]at e;cases e;exact⟨n,ps,i,by unfold Ă;rw[Ï c],hk,h⟩;rw[Ð c]at e;obtain⟨b,a,f,g,d⟩:=Ĩb e;exact⟨b,a,f,by unfold Ă;rw[Ð c];exact g,d⟩
def Cg(ks:Á zW)(b:Á FM)(c:FE)(a:uW):wL:=λβ=>(c (t4 β)).bind λx=>(Ğe).bind λk=>(Ă ks b k).bind λF=>tW F a β
def z83{A:É}{ks:Á zW}{ns:Á Str}{B:Á FM}{x:Str}{p p2 pos:Pos}{k e:Ñ}{es:Á Ñ}{I:FE}{z:uW}{j:Nat}(h:wp ð x Ėc)(g:Yo X.K X.w ð A ks ns)(hg:Gl X x)(D:vp X j ns B)(hr:yl j X.A)(hk:SE X k I)(T:MA X ğ z)(L:Ê ćk q12)(hd:Ê Ļ q10)(he:Ê ňa q12)(r:Ê (č Ĵm Ô=(do Ïc pos (<-č (.Subscript Ĝa k p2) Ô) [] Ūd ūb)) q12):MC X Ĵm (Cg ks B I z):=by
 obtain⟨tk,S,kk⟩:=hk.h;obtain⟨ta,pa,ka⟩:=T.h;refine⟨⟨_,y4d hr (Hu (z33 g) (V6 h hg hd) S (Hy L)) pa he r,λ{P G0 H0 G H β β' σ m Q} E a q=>?_⟩⟩;obtain⟨y,U,a⟩:=zJ a;obtain⟨o,c,a⟩:=zJ a;obtain⟨F,hF,a⟩:=zJ a;obtain⟨as,l,a⟩:=zJ a;obtain⟨n,J,i,hn,hi,⟨f,fd,N,kp,b,FF⟩⟩:=D.get hF;obtain⟨G1,W,đa⟩:=E.pH;refine kk W U λu G2 H2 Y r2=>?_
 obtain⟨G3,O,C,_⟩:=đa _ _ Y;refine⟨rfl,o,n,Y0 c r2,hn,λf' d=>?_⟩;rw[N]at d;cases d;refine⟨f,fd,J,i,_,rfl,hi,kp,b,FF,ka C l λvs G4 H4 t ra=>?_⟩;rw[ſ];exact(C.go t).call ra a λv Z H' s R=>q v Z H' (O.g.trans (t.g.trans s)) R
#print a
def xc(a:Á Str)(f:Str):D->Æ D
 |.obj x fs vs=>if x∈a then ďa fs vs f else Ä|_=>Ä
theorem Æs{K:Í}{G:Hp}{κ:Type}[Ąc κ]{k:κ}{d:D}:∀{ks:Á κ}{ds:Á D}{vs:Á V},Þ K G ds vs->ûl ks ds k=À d->∃v,ûl ks vs k=À v/\zZ K G d v
 | [],_,_,_,e=>by cases e|_::_,[],_,_,e=>by cases e|k'::ks,d'::ds,vs,r,e=>by obtain⟨v,f,rfl,a,b⟩:=r;unfold ûl at e ⊢;by_cases c:k'=k;rw[Ï c]at e ⊢;cases e;exact⟨v,rfl,a⟩;rw[Ð c]at e ⊢;exact Æs b e
noncomputable def wF(c m:Str)(b:FE)(fs:FA):FA:=λτ=>(b τ).bind λo=>match o with
 |.obj x fl _=>match decide (x=c)&&!(decide (m∈fl))with
  |Ã=>(fs τ).bind λa=>À (o::a)|Â=>Ä
 |_=>Ä
section
variable{X:Cx}{e o:Ñ}{f m c:Str}{cs:Á Str}{fe fo:FE}{pos ěa:Pos}{ps:Á Str}{j k:Nat}{FF:Á D->Æ â}
def vC(h:SE X e fe)(k:vR X.K cs f)(z:Ê ÿn q12):SE X øg (e1 (xc cs f) fe):=by
 obtain⟨t,p,i⟩:=h.h;refine⟨⟨_,iC p z,λ{P O G H τ σ d Q} E b q=>?_⟩⟩;obtain⟨y,j,b⟩:=zJ b;refine i E j λv F N c B=>?_
 unfold xc at b
 split at b;rename_i x L J;by_cases hx:x∈cs;rw[Ï hx]at b;obtain⟨a,C,g,I,rfl,A,m,l,r⟩:=B;obtain⟨u,s,n⟩:=r.getA b;obtain⟨w,o⟩:=k x hx C A;exact⟨a,C,g,_,u,rfl,Ìd _ _ m,w,o,by rw[ME];exact s,q _ _ _ c n⟩;rw[Ð hx]at b;cases b;cases b
def y8z{f e G H:Hp}{τ:zu}{σ:St}{ds:Á D}{Q:VK}{C:É}{t:TA}{n:TE}{sp:Sp}{fs:FA}(k:ű X.K ė c=À ĕa)(u:∀{f e G H:Hp}{τ:zu}{σ:St}{d:D}{Q:VK},zp X.K ú f e G H τ σ->fo τ=À d->(∀v G' H',zT G H G' H'->zZ X.K G' d v->Q v H')->n σ H Q)(A:∀{f e G H:Hp}{τ:zu}{σ:St}{ds:Á D}{Q:Á V->Hp->Prop},zp X.K ú f e G H τ σ->fs τ=À ds->(∀vs G' H',zT G H G' H'->Þ X.K G' ds vs->Q vs H')->t σ H Q)(E:zp X.K ú f e G H τ σ)(j:wF c m fo fs τ=À ds)(q:∀vs G' H',zT G H G' H'->Þ X.K G' ds vs->sp vs H' Q E0):BC C m sp [] E0 n t σ H Q:=by
 obtain⟨y,F,b⟩:=zJ j
 split at b;rename_i x I vs
 split at b;rename_i h;rw[ĉ]at h;cases ŀ h.1
 have s:m ∉ I:=by have:=h.2;simpa using this
 obtain⟨z,J,j⟩:=zJ b;cases j;refine u E F λv O T i r=>?_
 obtain⟨a,R,w,P,rfl,p,B,l,S⟩:=id r;rw[k]at p;cases p;refine⟨a,w,_,rfl,i.gh _ _ B,HM s,A (Ťa i) J λvs Y U o L=>?_⟩;rw[ſ];exact q _ _ _ (òl o) ⟨_,vs,rfl,þa o.g,L⟩;cases b;cases b
def y9s{G H:Hp}{ds:Á D}{vs:Á V}{Q:VK}{a b:Hp}{d:D}{o:Ì}{E:XK}(x:zT a b G H)(r:Þ X.K G ds vs)(g:FF ds=À (o,d))(q:∀v G' H',zT a b G' H'->zZ X.K G' d v->Q v H'):vQ X.K FF vs H Q E:=by
 refine⟨G,ds,o,d,Åb,r,g,?_⟩;cases o with
 |Â=>exact λv G' H' c r=>q v G' H' (će c) r|Ã=>intro p G' H' c h e o;obtain⟨u,f,r⟩:=o.yJ e;exact q _ _ _ (će (c.yJ h e f)) r
def ud{pl:Sem Ì}(h:vf ó X.w X.K ð Œ c m ps k Ìk)(p:yl j X.A)(i:SE X o fo)(hk:Ê âc q10)(z:č ňd Ô=(do
   let ov <-č o Ô
   standAt Ād
   let (f,first) <-holding [ov] łc
   Ïc pos f first Ăg ūb):=by rfl):SE X ňd (zR FF (wF c m fo zG)):=by
 obtain⟨C,f,R,L,l,B,b,F⟩:=h;obtain⟨U,J,g⟩:=i.h;refine⟨⟨_,Hv J l B F (Įl hk) b .nil XS z,λ{N y G H τ σ d Q} E a q=>?_⟩⟩;obtain⟨I,u,a⟩:=zJ a;obtain⟨⟨S,W⟩,v,a⟩:=zJ a;cases a;exact y8z (t:=Xe) L g (λ{N y G H τ σ I Q} s e n=>by cases e;exact n _ _ _ œp rfl) E u λP O T x r=>y9s x r v q
#print a
def z7r(a:Nat)(i:Nat)(π:Á xj)(d:FE)(b:wL):yQ:=λβ=>(b β).bind λr=>(Ěd).bind λy=>match y with
 |.tup [d1,d2]=>(jQ ōi i π).bind λc=>match c with
  |.own àe=>(d (t4 ōi)).bind λx=>match x with
   |.int j=>(Îk).bind λn=>(ãc ōi i π (.own (Ε (ĩh n d2)))).bind λβ2=>À Œb|_=>Ä
  |_=>Ä
 |_=>Ä
open Îa
mutual
noncomputable def vB:D->PyData
 |.zE=>.none|.bl b=>.bool b|.int i=>.int i|.str x=>.str x|.tup ds=>.tuple Đs|.lst ds=>.list Đs|_=>.none
noncomputable def pyTs:Á D->Á PyData
 | []=>[]|d::ds=>vB d::pyTs ds
end
mutual
noncomputable def wD:D->Nat
 |.zE=>4|.bl _=>5|.int i=>if decide ģb&&decide Ķc then 20 else 1000000000|.tup ds=>wDs ds+3|.lst ds=>wDs ds+2|_=>1000000000
noncomputable def wDs:Á D->Nat
 | []=>0|d::ds=>wD d+2+wDs ds
end
noncomputable def uq:Nat->D->Ì
 |_,.zE=>Ã|_,.bl _=>Ã|_,.int _=>Ã|n+1,.tup ds=>ęe őf|n+1,.lst ds=>ęe őf|_,_=>Â
def EG:Á D->Æ D
 | [.lst ds]=>match decide (wDs ds<=1000000)&&ęe ĝe with
  |Ã=>À ŏp|Â=>Ä
 |_=>Ä
theorem nJ:∀(ts:Á Str)(k:Nat)(acc:Str),(textFrom k acc ts).length<=ìk+śf ts
 | [],k,acc=>Õa _ _|t::r,k,acc=>by
  have h:=nJ r Ņ īm
  have e:(īm).length=ìk+(if k>0 then 2 else 0)+t.length:=by
   rw[Ũd,Ũd]
   split<;>rfl
  rw[e]at h;rw[čr];show(textFrom Ņ _ r).length<=_;have:(if k>0 then 2 else 0:Nat)<=2:=by split<;>omega
  omega
def z7f(a:Á Str):(Ÿk a).length<=śf a+2:=by unfold Ÿk;have h:=nJ a 0 "[";have e1:(("[" : Ïa):Str).length=1:=rfl;have e2:(("]" : Ïa):Str).length=1:=rfl;rw[Ũd,e2];rw[e1]at h;omega
def x4h(a:Á Str):(Ĥk a).length<=śf a+3:=by
 unfold Ĥk;rw[Ũd,Ũd];have e1:((("(" : Ïa):Str)).length=1:=rfl;have b:(((if ŗb==1 then ",)" else ")" : Ïa):Str)).length<=2:=by split<;>decide
 rw[e1];by_cases h:a=[];subst h;have:(Str.join ", " []).length=0:=rfl;omega;have:=join_length_add a h;omega
def Pl(d:D):wD d<=900000000->(Ãb).shown.length<=wD d:=by
 have g:∀a:Á D,(∀d∈a,wD d<=900000000->(Ãb).shown.length<=wD d)->wDs a<=900000000->śf Ľe<=wDs a:=λa=>by
  induction a with
  |nil=>intro _ _;exact Øa _|Ĉ x a f=>intro h n;have l:wD x+2+wDs a<=900000000:=n;have o:=h x ĵ Å;have j:=f (λd m=>h d Þh) Å;show śf ((Ŧh).shown::PyData.shownAll Ël)<=wD x+2+wDs a;rw[čr];omega
 refine Ŀd (P:=λd=>wD d<=900000000->(Ãb).shown.length<=wD d) ?_ ?_ ?_ ?_ ?_ ?_ ?_ ?_ ?_ d;intro _;decide;intro b _;cases b<;>decide;intro i h
 change Ůf<=900000000 at h
 show(úd (Ųk i)).length<=Ůf;cases c:(decide ģb&&decide Ķc)with
 |Â=>rw[c,Ð È]at h;omega|Ã=>
  rw[Ï rfl];rw[ĉ]at c;have e:(10:Int) ^ 20=100000000000000000000:=by decide
  have j:=ŀ c.2;rw[<-e]at j;exact toString_length_le ús È j
 intro x h;exact Ú h Ĳe;intro a f h;have k:wDs a+3<=900000000:=h;have:=g a f Å;have:=x4h Ľe;show(Ĥk Ľe).length<=wDs a+3;omega;intro a f h;have k:wDs a+2<=900000000:=h;have:=g a f Å;have:=z7f Ľe;show(Ÿk Ľe).length<=wDs a+2;omega;intro q a _ h;exact Ú h Ĳe;intro x h;exact Ú h Ĳe;intro x p a _ h;exact Ú h Ĳe
def y9c(d:D):wD d<=900000000->(Ãb).showable=Ã/\(Ãb).hasDict=Â:=by
 have j:∀f:Á D,(∀d∈f,wD d<=900000000->(Ãb).showable=Ã/\(Ãb).hasDict=Â)->wDs f<=900000000->Ĭo ďh=Ã/\Ťo ďh=Â:=λf=>by
  induction f with
  |nil=>intro _ _;exact⟨rfl,rfl⟩|Ĉ x f g=>
   intro h o;have l:wD x+2+wDs f<=900000000:=o;obtain⟨a,b⟩:=h x ĵ Å;obtain⟨c,e⟩:=g (λd n=>h d (ÿa _ n)) Å
   constructor;show((Ŧh).showable&&Ĭo ďh)=Ã;rw[a,c];rfl;show((Ŧh).hasDict||Ťo ďh)=Â;rw[b,e];rfl
 refine Ŀd (P:=λd=>wD d<=900000000->(Ãb).showable=Ã/\(Ãb).hasDict=Â) (λ_=>⟨rfl,rfl⟩) (λb _=>⟨rfl,rfl⟩) ?_ ?_ ?_ ?_ (λs f _ _=>⟨rfl,rfl⟩) (λx _=>⟨rfl,rfl⟩) (λx q f _ _=>⟨rfl,rfl⟩) d;intro i h
 change Ůf<=900000000 at h
 refine⟨?_,rfl⟩;cases c:(decide ģb&&decide Ķc)with
 |Â=>rw[c,Ð È]at h;omega|Ã=>
  rw[ĉ]at c;have p:=ŀ c.1;have r:=ŀ c.2;show decide (ķg<1920)=Ã;refine î ?_;by_cases z:đc=0;rw[z];decide;have e:(2:Nat) ^ 67=147573952589676412928:=by decide
  have m:đc<2 ^ 67:=by rw[e];omega
  have:=(çj z).mpr m;omega
 intro x h;exact Ú h Ĳe;intro f g h;have k:wDs f+3<=900000000:=h;exact j f g Å;intro f g h;have k:wDs f+2<=900000000:=h;exact j f g Å
theorem Ct:∀(n:Nat)(d:D),uq n d=Ã->(Ãb).depth<=n
 |n,.zE,_=>Áa _|n,.bl _,_=>Áa _|n,.int _,_=>Áa _|0,.tup _,h=>by cases h|0,.lst _,h=>by cases h|n+1,.tup a,h=>by
  have b:∀a:Á D,ſh őf=Ã->ÿp Ël<=n:=λa=>by
   induction a with
   |nil=>intro _;exact Áa _|Ĉ x xs ih=>intro h;rw[Àa,ĉ]at h;exact Ņp ⟨Ct n x h.1,ih h.2⟩
  exact Ļb (b a h)
 |n+1,.lst a,h=>by
  have b:∀a:Á D,ſh őf=Ã->ÿp Ël<=n:=λa=>by
   induction a with
   |nil=>intro _;exact Áa _|Ĉ x xs ih=>intro h;rw[Àa,ĉ]at h;exact Ņp ⟨Ct n x h.1,ih h.2⟩
  exact Ļb (b a h)
 |n,.str _,h=>by cases n<;>cases h|n,.dic _ _,h=>by cases n<;>cases h|n,.exc _,h=>by cases n<;>cases h|n,.obj _ _ _,h=>by cases n<;>cases h
section
variable{X:Cx}{z8:Á é}{σ:St}{H:Hp}{s:Ë}
def y6s(I:zI X z8 σ H s)(d:D):∀(n:Nat)(v:V)(u:Value),uq n d=Ã->zZ X.K H d v->zr v u->∃as,Reads Ý u Ãb as:=by
 have k:∀(c:Á D),(∀d∈c,∀(n:Nat)(v:V)(u:Value),uq n d=Ã->zZ X.K H d v->zr v u->∃as,Reads Ý u Ãb as)->∀(n:Nat)(f:Á V)(w:Á Value),c.all őf=Ã->Þ X.K H c f->zm f w->∃as,ReadsAll Ý w (pyTs c) as:=λc=>by
  induction c with
  |nil=>intro _ n f w _ r B;cases(show f=[]from r);cases B;exact⟨[],.nil⟩|Ĉ x c j=>
   intro h n f w y r B;obtain⟨v,J,rfl,F,G⟩:=r;rw[Àa,ĉ]at y;cases B with
   |Ĉ q1 q2=>obtain⟨as,p⟩:=h x ĵ n v _ y.1 F q1;obtain⟨Q,L⟩:=j (λd l=>h d (ÿa _ l)) n J _ y.2 G q2;exact⟨_,.cons p L⟩
 refine Ŀd (P:=λd=>∀(n:Nat)(v:V)(u:Value),uq n d=Ã->zZ X.K H d v->zr v u->∃as,Reads Ý u Ãb as) ?_ ?_ ?_ ?_ ?_ ?_ ?_ ?_ ?_ d;intro n v u _ r q;cases(show v=_ from r);cases(show u=_ from q);exact⟨_,.none⟩;intro b n v u _ r q;cases(show v=_ from r);cases(show u=_ from q);exact⟨_,.bool b⟩;intro i n v u _ r q;cases(show v=_ from r);obtain⟨t,rfl⟩:=(show ∃t,u=ťc i t from q);exact⟨_,.int i t⟩;intro x n v u h;cases n<;>cases h;intro c j n v u h r q;obtain⟨a,f,rfl,A,C,_⟩:=r;cases(show u=_ from q);cases n with
 |ų=>cases h|Ŵ n=>obtain⟨g,E,⟨o,e,z,m,l⟩,_⟩:=Ýa A;obtain⟨as,p⟩:=k c j n f g h C E;exact⟨as,.tuple e z l ŉo⟩
 intro c j n v u h r q;obtain⟨a,f,rfl,A,C,_⟩:=r;cases(show u=_ from q);cases n with
 |ų=>cases h|Ŵ n=>obtain⟨g,E,⟨o,m,e,z,_,l⟩,_⟩:=ž A;obtain⟨as,p⟩:=k c j n f g h C E;exact⟨_,.list e z l ŉo⟩
 intro O c _ n v u h;cases n<;>cases h;intro x n v u h;cases n<;>cases h;intro x N c _ n v u h;cases n<;>cases h
#print a
def lI(K:Í):Á V->Hp->VK->Prop:=λa H Q=>∃ds v,a=[v]/\zZ K H àe v/\wDs ds<=1000000/\ęe ĝe=Ã/\Q ŏp H
def z11{X:Cx}{j:Nat}(d:yl j X.A):vY X Ìj (lI X.K):=by
 intro F s σ H y t Q I r h;obtain⟨b,v,rfl,g,G,f,q⟩:=h;obtain⟨u,rfl,i⟩:=tQ r;obtain⟨w,o⟩:=y6s I Íc 6 v u f g i;obtain⟨a,B,rfl,_⟩:=g;cases i;have c:wD Íc<=900000000:=by show wDs b+2<=_;omega
 obtain⟨n,m⟩:=y9c Íc c;have z:=Ct 6 Íc f;have C:=d.units;have x:=Pl Íc c
 have l:(vB Íc).shown.length<=á:=by have:wD Íc=wDs b+2:=rfl;rw[Ř];omega
 exact repr_of_reads' o n (PyData.noDict_hsm m) d.gd Å Ĩq (λE u p k=>⟨.str _,H,Ĵd (t':=p) k,⟨_,rfl⟩,q⟩) l
def y2z{K:Í}:WO K (lI K) EG:=λG H f g d Q s r a q=>by
 match f,a with
 | [.lst xs],a=>
  change (match decide żo&&Īd ĝe with|Ã=>À (ľd (vB öa).shown)|Â=>Ä)=À d at a
  cases c:(decide żo&&Īd ĝe)with
  |Â=>rw[c]at a;cases a|Ã=>
   rw[c]at a;cases a;rw[ĉ]at c;have e:=ŀ c.1;obtain⟨v,rfl,b⟩:=jS r;have h:=Pl öa (by show wDs xs+2<=_;omega);refine⟨xs,v,rfl,?_,e,c.2,q _ _ _ èa ⟨rfl,?_⟩⟩;first|exact b|exact b.mono s
   have:wD öa=wDs xs+2:=rfl;rw[Ř];omega
def z0r{X:Cx}:vY X ŝc (λxs H Q=>∃a kvs,xs=úa/\Rd H a Ł/\∀p,H p=Ä->Q Êa (zX H p Ł)):=by
 intro z s σ H xs y Q I r h;obtain⟨a,kvs,rfl,e,q⟩:=h;obtain⟨u,rfl,x⟩:=tQ r;cases(show u=Ċ a from x);obtain⟨k,d,l,c,t⟩:=kz Ĕ e;have f:ŕb=ĺ:=j_ c;refine kt_call_dict d t (by rw[f];exact k) λn m v=>?_
 have g:Ĥr=Â:=by have:=I.big;rw[õo];exact vA Ġr
 have w:∀b o,Ą b=À o->n.get? b=À o:=λb o j=>by have i:=ħ j;exact(v.2 b (vA (Ça i))).trans (Ī _ j)
 exact⟨.ref Û,_,ġb (a:=Û) (o:=.dK kvs) (t':=đ) w Ē (Cu k g c m),rfl,q _ ĸf⟩
noncomputable def LU:Á D->Æ D
 | [.dic ks ds]=>À şq|_=>Ä
def y95{X:Cx}{e:Ñ}{fs:FA}{p pos:Pos}(s:Gl X Ż)(j:ð Ż=Ä)(hv:ť Ż=À ŝc)(r:SA X [e] fs)(i:Ê ļa q12):SF X Ąo (eL LU fs):=by
 obtain⟨t,n,k⟩:=r.h;refine⟨⟨_,(IL z0r s j hv ⟨n⟩ È È ŏo).h,λ{J C G H τ σ d Q} E b q=>?_⟩⟩;obtain⟨F,o,b⟩:=zJ b;refine k E o λy z B c x=>?_
 unfold LU at b
 split at b;rename_i A I;cases b;obtain⟨v,rfl,a,g,rfl,u,w,m,l⟩:=jS x;refine⟨a,_,rfl,Ųc Ìd u,λp f=>?_⟩;exact q p _ _ (ňb (ìb Ìd f)) (üh f) (Ðh f) ⟨g,ya,w,m,l⟩;cases b
#print L3
namespace L3
def x46:wu .zE=Ã:=rfl
def x47(b:Ì):wu ģc=Ã:=rfl
def x48(i:Int):wu üa=Ã:=rfl
def x49(x:Óh):wu śb=Ã:=rfl
def x4a(ds:Á D):wu éh=ïb ds:=rfl
def x4b:ïb []=Ã:=rfl
def x4c(d:D)(ds:Á D):ïb (d::ds)=ŝp:=rfl
def si(i:Nat)(π:Á xj)(d:D):ge İf i π=.v d:=rfl
def x1p(d:D):uQ İf=d:=rfl
def x1q(d:D):uQ àl=d:=rfl
def x1r(x:Óh)(fs:Á Óh)(ms:Á M):uQ ęj=.obj x fs Ţc:=rfl
def x1s(ks:Á (Sum Int Óh))(ms:Á M):uQ ŝq=.dic ks Ţc:=rfl
def x1t:ļd []=[]:=rfl
def x1u(m:M)(ms:Á M):ļd (m::ms)=uQ m::ļd ms:=rfl
def ss(x:M):pN x []=À x:=rfl
def y5w(x y:M):pV x [] y=À y:=rfl
def z7l(g:MG)(b:yQ)(x:yA):jM g b [] x=À (.nx x):=rfl
def z7m(g:MG)(b:yQ)(x:yA)(d:D)(r:Á D):type_of% (jM.eq_2 g b x d r):=rfl
open Ħ Ķ ī L2
def fldk_nil{K:Í}{f:Str}:vR K [] f:=λx a=>Ú a ã
def fldk_cons{K:Í}{f c:Str}{C:É}{d:Á Str}(ns:ű K ė c=À ĕa)(e:t8 K C)(h:Řa K ő f=À Ä)(r:vR K d f):vR K (c::d) f:=λx b g a=>by rcases ľ b with rfl|b;rw[ns]at a;cases a;exact⟨e,h⟩;exact r x b g a
def EK:Á D->Æ D
 | [.lst xs]=>(ņh).bind λa=>match ſh Ĉm&&decide (ŗb<=1000)with
  |Ã=>À (.int a.sum)|Â=>Ä
 |_=>Ä
theorem nD:∀{ns:Á Int},(∀n∈ns,0<=n/\n<1099511627776)->0<=İl/\İl<=1099511627776*(Ùa:Int)
 | [],_=>⟨Ĥa _,by decide⟩|n::ns,h=>by
  obtain⟨a,b⟩:=nD λm e=>h m (ÿa _ e)
  obtain⟨c,d⟩:=h n ĵ;rw[List.sum_cons,ĕ]
  constructor;omega;push_cast
  omega
def y33{K:Í}:WO K (lN K) EK:=λG H o p d Q s r b q=>by
 match o,b with
 | [.lst xs],b=>
  obtain⟨ns,j,b⟩:=zJ (show(ņh).bind _=À d from b);cases c:(ns.all Ĉm&&decide (Ùa<=1000))with
  |Â=>rw[c]at b;cases b|Ã=>
   rw[c]at b;cases b;rw[ĉ]at c;have x:=ŀ c.2
   have f:∀n∈ns,0<=n/\n<1099511627776:=λn e=>by have:=Ĵb c.1 n e;rw[ĉ]at this;exact⟨ŀ this.1,ŀ this.2⟩
   obtain⟨v,rfl,a,u,rfl,g,h,l⟩:=jS r;rw[Gh j h]at g;refine⟨a,ns,rfl,.inl g,⟨λn e=>?_,λk t=>?_⟩,q _ _ _ èa rfl⟩;have:=f n e
   constructor<;>omega;have:=nD (ns:=ns.take k) λn e=>f n (Řd e)
   have m:(Ũg).length<=1000:=by rw[ìa];omega
   have w:((Ũg).length:Int)<=1000:=by exact_mod_cast m
   constructor<;>omega
def Cf:ť ĩl=À Ìj:=PyProof.Rows.bootS_repr
def Ju(i:Nat)(F:D->D->Æ D)(f:FE):yQ:=λβ=>(e2 F ŉl f đf).bind λd=>À (.nx Ĩi)
section
variable{X:Cx}{np:Nat}{x c:Str}{p pos İa:Pos}{e:Ñ}{f:FE}{F:D->D->Æ D}
def fO{i:Nat}{l:õe}{n:UN}(z:Qy X l n)(O:uk X.K n F)(B:ľa)(hi:X.N[i]?=À x)(c:j9 îa x)(S:np<=i)(C:SE X e f)(a:Ê Êb q7) :MS X np (.AugAssign ĳg l e pos) (Ju i F f):=by obtain⟨t,I,k⟩:=C.h;refine⟨⟨_,K7 B hi c I z a,λ{P Z U G H β σ R E} T K a q=>?_⟩⟩;obtain⟨d,b,a⟩:=zJ a;cases a;obtain⟨x,c,b⟩:=zJ b;obtain⟨y,r,b⟩:=zJ b;have m:=K.QH;obtain⟨v,J,Q⟩:=m.fr _ _ Ŝl;refine⟨v,J,k m r λu o L j p=>O o L x y v u d _ j.gh (Q.mono j.g) p b λw Y W s A=>?_⟩;exact q _ _ _ (((Ăl).go s).W8 Śb.1 Å A)
#print a
def MF(h:wL)(a:MG):yQ:=λβ=>(h β).bind λr=>(Ěd).bind λd=>(a d r.2).bind λβ2=>À Œb
def z8b{X:Cx}{c:Nat}{tg e:Ñ}{pos:Pos}{h:wL}{f:MG}(k:MC X e h)(b:Qu X c tg f)(i:Ê ėm q12)(u:Ê ţm q12)(l:Ê ((Œp).map (·.2)=Ğq) q12) :MS X c îo (MF h f):=by
 obtain⟨A,w,t⟩:=k.h;obtain⟨B,o,p⟩:=b.h;refine⟨⟨_,K6 w o i u l,λ{P J I G H β σ C E} n K a q=>?_⟩⟩;obtain⟨⟨m,β1⟩,r,a⟩:=zJ a;obtain⟨d,x,b⟩:=zJ a;clear a;cases kr x;obtain⟨β2,s,a⟩:=zJ b;cases a;refine t K r λv y F z g=>?_
 exact p n (g.down Ūb) g.YW s λσ' j=>q _ _ _ j
open Îa
noncomputable def LY:D->Ì
 |.int i=>decide ģb&&decide Ķc|.bl _=>Ã|_=>Â
def gl:Á D->Æ D
 | [d]=>match LY d with
  |Ã=>À Ðr|Â=>Ä
 |_=>Ä
def lJ(K:Í):Á V->Hp->VK->Prop:=λa H Q=>∃d v,a=[v]/\zZ K H d v/\LY d=Ã/\Q Ðr H
def cE{X:Cx}{j:Nat}(n:yl j X.A):vY X Ìj (lJ X.K):=by
 intro p s σ H w l Q I r h;obtain⟨d,v,rfl,f,c,q⟩:=h;obtain⟨u,rfl,g⟩:=tQ r;cases d with
 |int i=>
  cases(show v=.int i from f);obtain⟨t,rfl⟩:=g;have a:(decide ģb&&decide Ķc)=Ã:=c;rw[ĉ]at a;have o:=ŀ a.1;have m:=ŀ a.2
  have k:ķg<1920:=by
   have:đc<2 ^ 70:=by
    have e:(2:Nat) ^ 70=1180591620717411303424:=by decide
    omega
   by_cases z:đc=0;rw[z];decide;exact Ňg ((çj z).mpr this) È
  exact P.repr_of_int k ⟨.str _,H,Ña _,⟨_,rfl⟩,q⟩
 |bl b=>cases(show v=.bl b from f);cases(show u=.bool b from g);exact P.repr_of_bool ⟨.str _,H,Ña _,⟨_,rfl⟩,by cases b<;>exact q⟩|_=>cases c
def hJ{K:Í}:WO K (lJ K) gl:=λG H e g d Q s r a q=>by
 match e,a with
 | [x],a=>
  change (match LY x with|Ã=>À (ľd (Ŧh).shown)|Â=>Ä)=À d at a
  cases c:LY x with
  |Â=>rw[c]at a;cases a|Ã=>
   rw[c]at a;cases a;obtain⟨v,rfl,f⟩:=jS r
   have h:wD x<=20:=by
    cases x with
    |int i=>show(if(decide ģb&&decide Ķc)=Ã then 20 else 1000000000)<=20;rw[Ï (show(decide ģb&&decide Ķc)=Ã from c)];exact Øa _|bl b=>show 5<=20;decide|_=>cases c
   have j:=Pl x Å;refine⟨x,v,rfl,f,c,q _ _ _ èa ⟨rfl,?_⟩⟩;rw[Ř];omega
section
variable{X:Cx}{np:Nat}
noncomputable def Jl(i j k:Nat):MG:=λd β=>match d with
 |.tup [x,y,z]=>À ((ċm).set k (À (.fz z)))|_=>Ä
def z86{i j k:Nat}{x y z:Str}{p1 p2 c pos:Pos}{e:Nat}(h:QG X ăm (Wj X.K 3 (jI Ĩc (jI (uu j) (jI (uu k) Wi)))))(hi:X.N[i]?=À x)(t:X.N[j]?=À y)(hk:X.N[k]?=À z)(F:np<=i)(w:np<=j)(A:np<=k):Qu X np ăm (Jl i j k):=⟨⟨_,h.h,λ{P S J G H β β' σ d v Q} I K r b q=>by
 unfold Jl at b
 split at b;rename_i L C O;cases b;obtain⟨a,E,rfl,o,⟨g,R,rfl,m,⟨l,B,rfl,n,⟨u,f,rfl,s,p⟩⟩⟩,_⟩:=r;cases(show f=[]from p);refine⟨a,_,rfl,uD øa o,rfl,g,_,rfl,l,_,rfl,u,_,rfl,rfl,?_⟩;exact q _ (((K.W8 Śb.1 Å m).W8 (Ŗ t).1 Å n).W8 (Ŗ hk).1 Å s);cases b⟩⟩
#print a
section
variable{P:å}{w:ß}{K:Í}{mg:Str->Æ Value}{Ç:Heap}
def z78{x:Str}{st:Õ}{N:Á Str}{k:Nat}{F:FM}{b:yQ}{f:É}{i:ķ}(d:Fun K Ħb Ħb st f i)(S:zj N [x] Ń)(t:1<=Éa)(p:∀ms r,F ms=À r->Ľa=1/\wW 1 Éa b ms=À r)(e:∀ns:Á Int,Ùa<=63->(∀m∈ns,tG m<=1048576)->∃r,F Ňi=À (r,.fz Ę))(u:∀(g:Value)(A:ø)(ā:Á Env)(s:Ë)(H:Hp)(E:XK),yl k (ŉb (Ėb Ħb Ń Û f g))->jB (tZ xC P w K mg Ç N Ħb Ń f g A ā s H E).qI 1 ça b):xH P w K mg Ç xC Ņ f i [x] śl:=
 (d.v.QL (F:=F) S t p u).imp λB H Q E h=>by obtain⟨a,ns,rfl,y,l,c,q⟩:=h;obtain⟨r,n⟩:=e ns l c;have o:Þ K H ûk úa:=⟨_,_,rfl,⟨a,_,rfl,y,õf,by rw[ä];exact Ŧb Å⟩,rfl⟩;refine y9r ⟨H,_,Â,.bl Ã,řa H,o,?_,λv C j _ z=>?_⟩;show(F (jH ûk)).bind _=_;rw[show jH ûk=Ňi from rfl,n];rfl;cases(show v=.bl Ã from z);exact q j
#print a
noncomputable def LW:D->D->Æ D
 |.str x,.int j=>match decide (Ūc<=16)&&(decide ģe&&decide çh)with
  |Ã=>À (.str (Ďb x j))|Â=>Ä
 |_,_=>Ä
def lH:V->V->Hp->VK->Prop:=λx y H Q=>∃i j,x=.str i/\y=.int j/\Úb<=16/\0<=j/\j<=1000/\Q (.str Úh) H
def hV{X:Cx}:yk X ŝg lH:=by intro g s σ H x y v u Q I d c h;obtain⟨i,j,rfl,rfl,a,f,e,q⟩:=h;obtain⟨t,rfl⟩:=d;obtain⟨b,rfl⟩:=c;exact SB.mul (mulOk_of 16 1000 a Å Å È È) λb k=>⟨.str Úh,H,Ña _,⟨_,rfl⟩,q⟩
def hG{K:Í}:uk K lH LW:=λG H x y u v d Q s h g a q=>by
 cases x<;>first|(cases a;done)|skip
 cases y<;>first|(cases a;done)|skip
 rename_i i j
 change (match decide ås&&(decide ģe&&decide çh)with|Ã=>À (ľd Úh)|Â=>Ä)=À d at a
 cases c:(decide ås&&(decide ģe&&decide çh))with
 |Â=>rw[c]at a;cases a|Ã=>rw[c]at a;cases a;rw[ĉ,ĉ]at c;have b:=ŀ c.1;have f:=ŀ c.2.1;have e:=ŀ c.2.2;have l:(Úh).length<=16*1000:=ůq b Å;exact⟨i,j,h.1,g,b,f,e,q _ _ _ èa ⟨rfl,by rw[Ř];omega⟩⟩
def iadd_list_road{M:ħe}{A:ø}{E:Value->Ë->Prop}{s:Ë}{a b:Value}{Q:Value->Ë->Prop}(g:Ŕb a Ġ)(h:Ŕb b Ġ)(i:Ù M A (Çb Åm ë) Q E s):Ù M A (ôf .Add a b) Q E s:=by
 have f:=F.slot_list_iadd.lookup;unfold ôf;refine ÿb ?_
 have c:Òp Ĉa ęa (Operator.Add == .Add)=pure Â:=by unfold Òp;show(äk Ĉa õq >>= λe=>pure (e.isSome&&!isSeqSlot e))=pure Â;rw[f];show(pure (Ã&&!isSeqSlot Ŋk):Sem Ì)=_;rw[show isSeqSlot Ŋk=Ã by decide +kernel];rfl
 have d:seqSlot? (.type Ġ) õq=pure Ŋk:=PySem.seqSlot_of f İ;refine Ò (Ŭd g (Ò (Ĉg c ?_)));show Ù M A (if Â=Ã then _ else _) Q E s;rw[Ð ō];refine Ò (wpAny_binaryOp1_none (nm := ęa) g h þp ?_);refine Ò (Ĉg d ?_);exact Ò (ūd i)
#print L3
namespace L2
open Ħ Ķ Îa ī
open PySem.AutoSeq1 in
def z7g(l:É)(zF:Ø Value)(n:Nat)(b:É)(a:Ø Value)(n2:Nat)(d2:Æ É)(i:Ø ųa)(m:¬(!zF.isEmpty&&ķe (ĳ+ń))=Ã)(e:ĳ<=á)(f:ĳ+ń<=á+1) :Meets (Builtin.«list.__iadd__» ⟨[.ref l,.ref b],[]⟩) (λ_ R s=>Ą l=À { cls:=.type Ġ,dict:=Ä,Ć:=.seq zF n,Äd:=#[] }/\Ą b=À { cls:=.type Ġ,dict:=d2,Ć:=.seq a n2,Äd:=i }/\R (.ok (.ret (Ċ l))) { s with ç:=ſe l (Þe λx=>x++a),Ė:=đ }):=
 .of_wp λj w A R s h=>by
  obtain⟨q,g,d,v,z⟩:=s;obtain⟨k,o,h⟩:=h;have r:=idx_int;have p:=AutoSeq1.sub_tuple_tuple;have t:=AutoSeq1.sub_list_list;have y:=AutoSeq1.sub_tuple_list;have u:=AutoSeq1.sub_list_tuple;have c:(zF++a).size<=á+1:=by rw[Ūo];exact f
  wp_walk using(åg k rfl (hz:=e) (_hz':=c)),üp k,üp o
  exact⟨_,rfl,h⟩
def y6f(K:Í):UN:=λx y H Q=>∃l b xs zs,x=.ref l/\y=.ref b/\H l=À öa/\yf K H b zs/\à+ģk<=á/\Q Űc Īq
def z62{X:Cx}:Qy X .Add (y6f X.K):=by
 intro O s σ H x y v u Q I G E h;obtain⟨l,b,L,J,rfl,rfl,m,t,S,q⟩:=h;cases G;cases E;obtain⟨z,c,n,r,N,e⟩:=I.QJ m;obtain⟨a,o,B,_⟩:=ž t;obtain⟨⟨R,w,P,k⟩,p,f,i,C,g⟩:=B;simp only at i g;subst i g;have A:=Ęb;have j:Āg+Ňc<=á:=by rw[ģ,ģ];omega
 have d:¬ Ťm=Ã:=by rw[He j,Ĩg];exact ō
 refine L3.iadd_list_road ⟨_,e,rfl⟩ ⟨_,f,rfl⟩ (êd F.slot_list_iadd ⟨_,e,rfl⟩ F.entry_list_iadd (F.args_list_iadd_2 _ _)
  (z7g l Ïh n b Őb p w k d ŭi Å) ⟨e,f,?_⟩)
 refine⟨.ref l,_,I.DE (õb:=c++a) m e ã (ĕd o) ?_,rfl,q⟩;rw[í];omega
#print L2
namespace L3
open Ħ Ķ Îa ī L2
section
variable{X:Cx}{x:Str}{pos İa:Pos}{e:Ñ}{f:FE}{i:Nat}
def y94{α:Type}{xs:Á α}{i:Nat}{v:α}(h:xs[i]?=À v):xs.set i v=xs:=by obtain⟨a,rfl⟩:=Ŗ h;exact List.set_getElem_self a
def Im(A:ľa)(hi:X.N[i]?=À x)(L:j9 îa x)(F:SE X e f)(a:Ê Êb q7) :SS X (.AugAssign ĳg .Add e pos) (qX i f):=by
 obtain⟨t,I,k⟩:=F.h;refine⟨⟨_,K7 A hi L I z62 a,λ{S R G H τ σ v E} K a q=>?_⟩⟩;unfold qX at a
 split at a;rename_i j r;obtain⟨y,s,a⟩:=zJ a;cases y with
 |lst ys=>
  change żl=À v at a
  by_cases c:Ėa+ãa<=yZ;rw[Ï c]at a;cases a;obtain⟨n,m,g,z,C,J,p,l⟩:=K.ow _ _ r;refine⟨_,m,k K s λu P Q d O=>?_⟩;obtain⟨b,w,rfl,B,o,_⟩:=O;refine⟨n,b,C,w,rfl,rfl,d.h _ _ J,uO d.gh B,by rw[ŵk,Ęb,Ř];exact c,?_⟩
  change E.nx (List.set σ i (À (ĩc n))) _
  rw[y94 m];refine q _ _ _ ((àa d).QK r m ⟨_,ya,(Įl d.g).append o,?_⟩);rw[Ř,í];exact c;rw[Ð c]at a;cases a
 |_=>cases a
 cases a
#print a
#print L3
namespace L3
open Ħ Ķ ī L2
def zQ(K:Í)(x:Str)(st:Õ):Prop:=
 ∃(f:É) (od an:Æ É) (sl:Ø ųa) (oc kV dc pm cd ct:Value),ű K ė x=À Ĕb/\Ź f=LZ x st oc od sl kV dc pm an cd ct/\Řb K cd x=Ã/\ùa K Į=Ã
section
variable{K:Í}{mg:Str->Æ Value}{h:Heap}{x p0 p1 p2 p3:Str}{st:Õ}{ps:Á Str}
def fnp_mk{f:É}{g j:Æ É}{h:Ø ųa}{e kV i d b ct:Value}(a:ű K ė x=À Ĕb)(l:Ź f=LZ x st e g h kV i d j b ct)(c:Řb K b x=Ã)(k:ùa K Į=Ã):zQ K x st:=⟨_,_,_,_,_,_,_,_,_,_,a,l,c,k⟩
def zQ.d(a:zQ K x st)(X:Ŕ h)(G:ťa ė mg)(b:∀(kV g j:Value)(i:Æ É)(e ct:Value)(us:Á Value),Ţ=ù->ýh (ıd x x đe ça Ń .none kV g j i e ct) ⟨us,[]⟩=pure Śc):Def K mg x st ps:=by obtain⟨f,n,i,o,m,kV,q,j,p,ct,a,l,c,k⟩:=a;have F:=dE (st:=st) l c k;exact⟨_,_,F,ģd X G a,F.binds b⟩
abbrev BA(x:Str)(st:Õ)(us:Á Value)(ps:Á Str):Prop:=∀(kV doc pm:Value)(an:Æ É)(cdv ct:Value),ýh (ıd x x đe ça Ń .none kV doc pm an cdv ct) ⟨us,[]⟩=pure Śc
def zQ.d1(a:zQ K x st)(X:Ŕ h)(G:ťa ė mg)(b:Ê (∀u,BA x st [u] [p0]) q15):Def K mg x st [p0]:=a.d X G λ_ _ _ _ _ _=>us1 λu=>b u _ _ _ _ _ _
def zQ.d2(a:zQ K x st)(X:Ŕ h)(G:ťa ė mg)(b:Ê (∀u v,BA x st [u,v] Ŷc) q15):Def K mg x st Ŷc:=a.d X G λ_ _ _ _ _ _=>us2 λu v=>b u v _ _ _ _ _ _
def zQ.d3(a:zQ K x st)(X:Ŕ h)(G:ťa ė mg)(b:Ê (∀u v y,BA x st [u,v,y] ĝr) q15):Def K mg x st ĝr:=a.d X G λ_ _ _ _ _ _=>us3 λu v y=>b u v y _ _ _ _ _ _
def zQ.d4(a:zQ K x st)(X:Ŕ h)(G:ťa ė mg)(b:Ê (∀u v y z,BA x st [u,v,y,z] Ãf) q15):Def K mg x st Ãf:=a.d X G λ_ _ _ _ _ _=>us4 λu v y z=>b u v y z _ _ _ _ _ _
def _root_.L2.Def.oS(d:Def K mg x st ps)(P:å)(w:ß)(a:Heap)(k:Nat)(F:Á D->Æ â)(S:zj N ps Ń)(e:∀ds r,F ds=À r->Đ=ù/\yH Éa b ds=À r)(h:∀{f:É}{c:Value}{A:ø}{ā:Á Env}{s:Ë}{H:Hp}{E:XK},yl k ġi->qM (Ħm).qI ça b)(g:Ê Żg q10):vL P w K mg a x ps Ņ ģf:=Def.sA d S g e λ_ _ _ _ _ _ _ i=>h i
def _root_.L2.Def.oM(d:Def K mg x st ps)(P:å)(w:ß)(a:Heap)(k:Nat)(F:FM)(S:zj N ps Ń)(e:∀ms r,F ms=À r->Ľa=ù/\wW ù Éa b ms=À r)(h:∀{f:É}{c:Value}{A:ø}{ā:Á Env}{s:Ë}{H:Hp}{E:XK},yl k ġi->jB (Ħm).qI ù ça b)(g:Ê Żg q10):vL P w K mg a x ps Ņ ĉh:=Def.QL d S g e λ_ _ _ _ _ _ _ i=>h i
def wn.oM(d:wn K x q st f fd)(P:å)(w:ß)(mg:Str->Æ Value)(a:Heap)(k:Nat)(F:FM)(S:zj N ps Ń)(e:∀ms r,F ms=À r->Ľa=ù/\wW ù Éa b ms=À r)(h:∀{c:Value}{A:ø}{ā:Á Env}{s:Ë}{H:Hp}{E:XK},yl k Ĝn->jB (ħm).qI ù ça b)(g:Ê Żg q10):xH P w K mg a xC Ņ f fd ps ĉh:=d.QL S g e λ_ _ _ _ _ _ i=>h i
def wn.oF(d:wn K x q st f fd)(P:å)(w:ß)(mg:Str->Æ Value)(a:Heap)(k:Nat)(F:Á D->Æ â)(S:zj N ps Ń)(e:∀ds r,F ds=À r->Đ=ù/\yH Éa b ds=À r)(h:∀{c:Value}{A:ø}{ā:Á Env}{s:Ë}{H:Hp}{E:XK},yl k Ĝn->qM (ħm).qI ça b)(g:Ê Żg q10):xH P w K mg a xC Ņ f fd ps ģf:=d.r_ S g e λ_ _ _ _ _ _ i=>h i
#print a
#print L3
namespace L2
open Ħ Ķ Îa ī
noncomputable def wX(p:Ö):Int:=numOf p.1
def yY(p q:Ö):Prop:=wX p<=wX q
def VE(p:Ö):Prop:=∃n t,p.1=.int n t
def u4(x:Ø Ö):Prop:=∀(i:Nat) p,x[i]?=À p->VE p
noncomputable def Wk:Ì->Ö->Ø Ö->Nat->Nat->Nat->ŋ û Sem čd:=sortPriv% PySem.Builtin.gallop
noncomputable def fL:Ø Ö->Ø Ö->ŋ û Sem Ŧc:=sortPriv% PySem.Builtin.mergeLo
noncomputable def fK:Ø Ö->Ø Ö->ŋ û Sem Ŧc:=sortPriv% PySem.Builtin.mergeHi
section
variable{Ĝ:å}{w:ß}{A:ø}{E:Value->Ë->Prop}{s:Ë}
def u9{x:Ø Ö}{i:Nat}{p:Ö}{st:û}{Q}(h:x[i]?=À p)(q:Q p st):wpS è A E s (Ěa x i) Q st:=by rw[elem'_eq,h];exact ô q
def ņd{p q:Ö}{st:û}{Q:Æ Ì->û->Prop}(hk:őh st=ėf)(d:VE p)(c:VE q)(h:Q (À (decide (wX p<wX q))) st):wpS è A E s (lt' p q) Q st:=by obtain⟨⟨a,t,e⟩,⟨b,u,f⟩⟩:=And.intro d c;rw[lt'_eq];refine æ ġf;unfold wX at h;rw[hk,keyLt'_oneType,e,f];rw[e,f]at h;exact æ (űn (Śi (oneLt_int ⟨rfl,ô h⟩)))
def Pq(B:Nat->Ì)(n hi:Nat):Prop:=hi<=n/\(∀i,i<hi->B i=Ã)/\∀i,hi<=i->i<n->B i=Â
noncomputable def gE(left:Ì)(k:Int)(f:Nat->Int)(i:Nat):Ì:=if left then decide (f i<k)else !decide (k<f i)
def x7w{left:Ì}{a x:Ö}{st:û}{Q:Æ Ì->û->Prop}(hk:őh st=ėf)(c:VE a)(b:VE x)(h:Q (À (gE left (wX a) (λ_=>wX x) 0)) st) :wpS è A E s (if left=Ã then lt' x a else do let y <-lt' a x;pure Ļn) Q st:=by
 cases left with
 |Ã=>exact ņd hk b c h|Â=>exact æ (ņd hk c b (ô h))
def BP{β:Type}{n:Nat}{c:β}{f:Nat->β->ŋ û Sem (Ċb β)}{st:û}{Q R:β->û->Prop}(I:Nat->β->Prop)(h:I 0 c)(a:∀i c,i<n->I i c->wpS è A E s (f i c) (λr st'=>match r with|.done c'=>Q c' st'|.yield c'=>st'=st/\I ê c') st)(b:∀c,I n c->Q c st)(d:∀c st',Q c st'->R c st'):wpS è A E s Ŏp R st:=by refine ĳe (Ĺc (I:=λi c st'=>st'=st/\I i c) (Q:=Q) ?_ ?_ ⟨rfl,h⟩) d;rintro i c _ _ e ⟨rfl,h⟩;exact a i c e h;rintro c _ ⟨rfl,h⟩;rw[śj]at h;exact b c h
def ng{B:Nat->Ì}{n lo hi:Nat}{st:û}{f:Nat->Æ čd×Nat×Nat->ŋ û Sem (Ċb (Æ čd×Nat×Nat))}{R:Æ čd×Nat×Nat->û->Prop}(a:∀i j,i<=j->j<n->B j=Ã->B i=Ã)(z:lo<=hi)(v:hi<=n)(F:∀i,i<lo->B i=Ã)(I:∀i,hi<=i->i<n->B i=Â)(G:∀x l r Q,r<=l->Q (.done (Ä,l,r)) st->wpS è A E s Ĝp Q st)(C:∀x l r Q,l<r->r<=n->(B ũg=Ã->Q (.yield (Ä,l+(r-l)/2+1,r)) st)->(B ũg=Â->Q (.yield (Ä,l,l+(r-l)/2)) st)->wpS è A E s Ĝp Q st)(q:∀m,Pq B n m->R (Ä,m,m) st):wpS è A E s (ťb [:n] (Ä,lo,hi) f) R st:=by refine BP (Q:=λc o=>o=st/\∃m,c=(Ä,m,m)/\Pq B n m) (λx c=>∃l r,c=(Ä,l,r)/\l<=r/\r<=n/\r+x<=n+l/\(∀i,i<l->B i=Ã)/\∀i,r<=i->i<n->B i=Â) ⟨lo,hi,rfl,z,v,ņp v ġc,F,I⟩ ?_ ?_ ?_;rintro x _ J ⟨l,r,rfl,p,b,y,d,h⟩;by_cases c:r<=l;cases ðd p c;exact G _ _ _ _ c ⟨rfl,l,rfl,b,d,h⟩;have u:=Õa l ((r-l)/2);have t:=Ųn (Nat.div_lt_self (Ųi ög) (ïc 1));refine C _ _ _ _ ög b ?_ ?_<;>(generalize l+(r-l)/2=m at u t ⊢;intro e);exact⟨rfl,_,r,rfl,t,b,by omega,λi k=>a i m (Ŵd k) (ŭ t b) e,h⟩;refine⟨rfl,l,_,rfl,u,by omega,by omega,d,λi k H=>?_⟩;cases e2:B i;rfl;rw[a _ i k H e2]at e;cases e;rintro _ ⟨l,r,rfl,p,b,y,d,h⟩;cases ðd p Å;exact⟨rfl,l,rfl,b,d,h⟩;rintro _ _ ⟨rfl,m,rfl,g⟩;exact q m g
def x7z{left:Ì}{f:Ö}{x:Ø Ö}{b n d:Nat}{st:û}{Q:Æ Nat->û->Prop}(hk:őh st=ėf)(T:VE f)(L:u4 x)(W:b+n<=Ča)(H:d<n)(P:∀i j,i<=j->j<n->K x (b+i)<=K x (b+j))(h:∀hi,Pq Än n hi->Q (À hi) st) :wpS è A E s (Wk left f x b n d) Q st:=by
 have G:∀i Q,i<n->Q (À (gE left Őf ėg i)) st->wpS è A E s (Ěa x (b+i) >>= λx=>if left=Ã then lt' x f else do let y <-lt' f x;pure Ļn) Q st:=by
  intro i Q hi q;have e:x[b+i]?=À x[b+i]:=getElem?_pos _ _ Å;refine æ (u9 e (x7w hk T (L _ _ e) ?_));have e2:K x (b+i)=wX x[b+i]:=by unfold K;rw[e];rfl
  have O:gE left Őf (λ_=>wX x[b+i]) 0=gE left Őf ėg i:=by unfold gE;simp only[e2]
  rw[O];exact q
 have k:∀i j,i<=j->j<n->gE left Őf ėg j=Ã->gE left Őf ėg i=Ã:=by intro i j R S;have:=P i j R S;unfold gE;cases left;simp only[Ĺb,ða,Bool.not_eq_true',decide_eq_false_iff_not];omega;simp only[ś,šo];omega
 generalize Än=B at h G k;unfold Wk;refine æ (G d _ H ?_);cases e:B d;refine æ (BP (Q:=λc F=>F=st/\∃l o,c=(Ä,l,o)/\l<=d/\B (d-l)=Â/\l<o/\∀i,i+o<=d->B i=Ã) (λx c=>∃l o,c=(Ä,l,o)/\l<=d/\B (d-l)=Â/\l<o/\x<o) ⟨0,1,rfl,Áa _,e,Ųd,Ųd⟩ ?_ ?_ ?_);rintro x _ L ⟨l,o,rfl,t,p,u,v⟩;dsimp only
 split;exact ô ⟨rfl,l,o,rfl,t,p,u,λi _=>by omega⟩;have lo:=ķb (Nat.sub_le d o) H;refine æ Āq;cases e2:B (d-o);exact ô ⟨rfl,o,_,rfl,by omega,e2,by omega,by omega⟩;exact ô ⟨rfl,l,o,rfl,t,p,u,λi C=>k i _ (Nat.le_sub_of_add_le C) lo e2⟩;rintro _ ⟨l,o,rfl,t,p,u,v⟩;exact⟨rfl,l,o,rfl,t,p,u,λi _=>by omega⟩;rintro _ _ ⟨rfl,l,o,rfl,t,p,u,v⟩;refine æ (ng (B:=B) (lo:=d+1-min o ĭe) (hi:=d-l) k (Ğ (öo (Ćj ⟨u,Ļb t⟩) _) (Àc (Nat.add_sub_add_right ..))) (õa (ķb Źb H)) (λi a=>v i (by have:=Nat.add_lt_of_lt_sub a;omega)) (λi C J=>?_) Ċo ŋn λm g=>ô (h m g));cases e2:B i;rfl;rw[k _ i C J e2]at p;cases p;dsimp only;rw[Ï c];exact ô q;dsimp only;rw[Ð Å];refine æ űp;cases e2:B ũg;exact ô (I e2);exact ô (N e2);refine æ (BP (Q:=λc F=>F=st/\∃l o,c=(Ä,l,o)/\d+l<n/\B (d+l)=Ã/\l<o/\∀i,d+o<=i->i<n->B i=Â) (λx c=>∃l o,c=(Ä,l,o)/\d+l<n/\B (d+l)=Ã/\l<o/\x<o) ⟨0,1,rfl,H,e,Ųd,Ųd⟩ ?_ ?_ ?_);rintro x _ L ⟨l,o,rfl,t,p,u,v⟩;dsimp only
 split;rename_i c
 replace c:=Nat.le_add_of_sub_le c
 exact ô ⟨rfl,l,o,rfl,t,p,u,λi _ _=>by omega⟩;rename_i c;have lo:=Ųn ög;refine æ Āq;cases e2:B (d+o);exact ô ⟨rfl,l,o,rfl,t,p,u,λi C J=>by cases O:B i;rfl;rw[k _ i C J O]at e2;cases e2⟩;exact ô ⟨rfl,o,_,rfl,lo,e2,by omega,by omega⟩;rintro _ ⟨l,o,rfl,t,p,u,v⟩;exact⟨rfl,l,o,rfl,t,p,u,λi _ _=>by omega⟩;rintro _ _ ⟨rfl,l,o,rfl,t,p,u,v⟩;refine æ (ng (B:=B) (lo:=d+l+1) (hi:=d+min o (n-d)) k (Nat.add_lt_add_left (Nat.lt_min.mpr ⟨u,Nat.lt_sub_of_add_lt (Ëe .. ▸ t)⟩) _) (Ğ (ßd (èi ..) _) (Àc (ŝd (õa H)))) (λi C=>k i (d+l) (Ŵd C) t p) (λi a b=>?_) Ċo ŋn λm g=>ô (h m g));rcases ňg o (n-d)with z|z;rw[Îb z]at a;exact v i a b;rw[đg z,ŝd (õa H)]at a;exact Ú b (Ÿe a);dsimp only;rw[Ï c];exact ô q;dsimp only;rw[Ð Å];refine æ űp;cases e2:B ũg;exact ô (I e2);exact ô (N e2)
#print a
structure ue(R:Ö->Ö->Prop)(t o x y:Á Ö):Prop where
 p:(o++šh).Perm t
 sx:(o++x).Pairwise R
 sy:(o++y).Pairwise R
section
variable{R:Ö->Ö->Prop}{t o m x y:Á Ö}
def ĥh(h:ue R t o x y):ue R t o y x:=⟨(Ņi o List.perm_append_comm).trans h.p,h.sy,h.sx⟩
def Ħh(h:ue R t o (m++x) y)(c:∀p∈m,∀q∈y,R p q):ue R t (o++m) x y:=by obtain⟨p,a,b⟩:=h;refine⟨?_,?_,?_⟩;rw[ŗ]at p ⊢;exact p;rw[ŗ];exact a;rw[List.pairwise_append]at a b ⊢;refine⟨?_,b.2.1,λp e q d=>?_⟩;exact Ög ⟨a.1,(ðc a.2.1).1,λp e q d=>a.2.2 p e q (ţd _ d)⟩;rcases Ăa e with z|z;exact b.2.2 p z q d;exact c p z q d
def īl(h:ue R t o x y)(c:∀p∈x,∀q∈y,R p q):(đs).Perm t/\(đs).Pairwise R:=by have:=(Ħh (m:=x) (x:=[]) (by rw[ſ];exact h) c);exact⟨by rw[ŗ];exact h.p,this.sy⟩
#print a
def îb{p q r:Ö}(a:yY p q)(b:yY q r):yY p r:=Ìe a b
section
variable{Ĝ:å}{w:ß}{A:ø}{E:Value->Ë->Prop}{s:Ë}
def Tc{left:Ì}{a:Ö}{x:Ø Ö}{b n d:Nat}{st:û}{Q:Æ Nat->û->Prop}(hk:őh st=ėf)(f:VE a)(q:u4 x)(r:b+n<=Ča)(t:d<n){z:Á Ö}(m:(žp b).take n=z)(o:z.Pairwise yY)(h:∀k,k<=n->(∀p∈z.take k,if left then wX p<wX a else yY p a)->(∀p∈z.drop k,if left then yY a p else wX a<wX p)->Q (À k) st) :wpS è A E s (Wk left a x b n d) Q st:=by
 have y:Ŏ=n:=by rw[<-m,ìa,Ąb,Ŭ];omega
 have g:∀i (l:i<Ŏ),K x (b+i)=wX z[i]:=by intro i l;subst m;have e:x[b+i]?=À x[b+i]:=getElem?_pos _ _ Å;unfold K;rw[e,Ŧo,ŧo,ťd];rfl
 refine x7z hk f q r t (λi j u v=>?_) λk c=>h k c.1 (λp f=>?_) λp f=>?_;rw[g i Å,g j Å];by_cases e:i=j;subst e;exact Ĥa _;exact çn o i j _ _ Å;obtain⟨i,l,rfl⟩:=List.mem_take_iff_getElem.mp f;have:=c.2.1 i Å;simp only[gE,g i (show i<Ŏ by omega)]at this;cases left;exact çd Ão;simpa using this;obtain⟨i,l,rfl⟩:=List.mem_drop_iff_getElem.mp f;have:=c.2.2 (k+i) Å Å;simp only[gE,g (k+i) Å]at this;simp only[Ëe k i]at this ⊢;cases left;simpa using this;exact çd Ão
def jU{β:Type}(Q I:β->Prop):Ċb β->Prop
 |.done c=>Q c|.yield c=>I c
abbrev yT(a:Ø Ö)(p:Ø Ŭa)(f:Æ Value)(g:Nat):û:=Šc ėf a p g f
def Ta{β:Type}{n:Nat}{c:β}{f:Nat->β->ŋ û Sem (Ċb β)}{a p fl g}{R:β->û->Prop}(I:Nat->β->Prop)(Q:β->Prop)(h:I 0 c)(b:∀i c g,i<n->I i c->wpS è A E s (f i c) (λr st'=>∃g',st'=yT a p fl g'/\jU Q (I ê) r) ķj)(d:∀c,I n c->Q c)(e:∀c g,Q c->R c ķj):wpS è A E s Ŏp R ķj:=by refine ĳe (Ĺc (I:=λi c st'=>∃g,st'=yT a p fl g/\I i c) (Q:=λc st'=>∃g,st'=yT a p fl g/\Q c) ?_ ?_ ⟨g,rfl,h⟩) ?_;rintro i c _ _ j ⟨g,rfl,h⟩;refine ĳe (b i c g j h) ?_;rintro r _ ⟨g,rfl,h⟩;cases r<;>exact⟨g,rfl,h⟩;rintro c _ ⟨g,rfl,h⟩;rw[śj]at h;exact⟨g,rfl,d c h⟩;rintro c _ ⟨g,rfl,h⟩;exact e c g h
#print a
def wA(t:Á Ö)(a b o:Ø Ö)(i j:Nat):Prop:=ue yY t Ŷk ĺh (Ōc j)
def uP(t:Á Ö)(r:Ø Ö):Prop:=r.toList.Perm t/\r.toList.Pairwise yY
section
variable{t:Á Ö}{a b o:Ø Ö}{i j k:Nat}{p:Ö}
def Cv(h:a[i]?=À p):ąb i=p::ąb ê:=by obtain⟨b,rfl⟩:=ŏd h;rw[Ůb áo,ťd]
theorem wA.swap(h:wA t a b o i j):wA t b a o j i:=ĥh h
def wA.pa(h:wA t a b o i j)(e:a[i]?=À p)(c:∀q∈Ōc j,yY p q):wA t a b ðe ê j:=by unfold wA at h ⊢;rw[Cv e]at h;rw[źi];exact Ħh (m:=[p]) h λq d=>ëa d▸c
def wA.pb(h:wA t a b o i j)(e:b[j]?=À p)(c:∀q∈ąb i,yY p q):wA t a b ðe i Ŝ:=(ěp).swap
def wA.ca(h:wA t a b o i j)(c:∀p∈(ĺh).take k,∀q∈Ōc j,yY p q):wA t a b Ěg ŀd j:=by unfold wA at h ⊢;rw[<-Ũa k ĺh,Ċj]at h;rw[Ųb,ŏe,ľe,Ýg];exact h.move c
def wA.cb(h:wA t a b o i j)(c:∀p∈(Ōc j).take k,∀q∈ąb i,yY p q):wA t a b (o++čb j (j+k)) i (j+k):=(Źr c).swap
theorem wA.fin(h:wA t a b o i j)(c:∀p∈ąb i,∀q∈Ōc j,yY p q):uP t (o++ſb i ń++čb j Ű):=by
 have e:∀(x:Ø Ö) k,(òf k Ča).toList=žp k:=λx k=>by rw[ŏe,ľe];exact şd (by rw[Ąb,Ŭ];exact Øa _)
 unfold uP;rw[Ųb,Ųb,e,e];exact īl h c
def wA.hd(h:wA t a b o i j)(e:a[i]?=À p):∀q∈ąb i,yY p q:=by unfold wA at h;have:=(ðc h.sx).2.1;rw[Cv e]at this ⊢;intro q c;rcases ľ c with rfl|c;exact Ĥa _;exact(Ōe this).1 q c
def wA.sa(h:wA t a b o i j):(ĺh).Pairwise yY:=şm.2.1
def fj(h:i=ń){P:Ö->Prop}:∀p∈ąb i,P p:=by rw[Ûd şe];intro p b;cases b
def bZ(h:Ű-i=k):(Ōc i).take k=Ōc i:=şd (by rw[Ąb,Ŭ];omega)
#print a
abbrev mj:=Æ Ŧc×Ø Ö×Nat×Nat×Nat
abbrev M_:=Æ Ŧc×Ø Ö×Nat×Nat×Nat×Nat
abbrev XZ:=Æ Ŧc×Ø Ö×Nat×Nat×Nat×Nat×Nat
structure VF(t:Á Ö)(a b:Ø Ö)(x:Nat)(o:Ø Ö)(i j:Nat):Prop where
 l:wA t a b o i j
 p:i+1<ń
 q:j<Ű
 s:x<i+j
section
variable(t:Á Ö)(a b:Ø Ö)(x:Nat)
inductive B4:mj->Prop
 |mk {o i j m}:VF t a b x o i j->B4 (Ä,o,i,j,m)
inductive Ik:M_->Prop
 |mk {o i j m n}:VF t a b x o i j->Ik (Ä,o,i,j,m,n)
inductive Xa:M_->Prop
 |fin {r c}:uP t r->Xa (À r,c)
 |go {o i j m n}:VF t a b x o i j->Xa (Ä,o,i,j,m,n)
inductive TM:XZ->Prop
 |mk {o i j m n q}:VF t a b x o i j->TM (Ä,o,i,j,m,n,q)
inductive gH:XZ->Prop
 |fin {r c}:uP t r->gH (À r,c)
 |go {o i j m n q}:VF t a b x o i j->gH (Ä,o,i,j,m,n,q)
#print a
def Y3{a b:Nat}(h:a<=b)(c:¬ŭh=Ã):a<b:=Įo h λe=>c (òd e)
def XM{a:Nat}(c:¬(a==0)=Ã):∃n,a=n+1:=Nat.exists_eq_succ_of_ne_zero λe=>c (òd e)
noncomputable def B2(r:Æ Nat)(f:Nat->ŋ û Sem β)(g:ŋ û Sem β):ŋ û Sem β:=(sortPriv% PySem.Builtin.mergeLo.match_1) íg r f λ_=>g
section
variable(a b:Ø Ö)
noncomputable def YD(o:Ø Ö)(i j:Nat):Ø Ö:=o++ſb i ń++čb j Ű
noncomputable def Mz(o:Ø Ö)(i j:Nat):Ø Ö:=o++čb j Ű++ſb i ń
def P_(o:Ø Ö)(i j g k m:Nat):ŋ û Sem ąh:=do
 let p <-Ěa a i
 if ņq=Ã then pure (.done (À Ŗo,ŧ p,i+1,j,g,k,m))
 else if(decide (k<7)&&decide (m<7))=Ã then pure (.done (Ä,ŧ p,i+1,j,g,k,m))else pure (.yield (Ä,ŧ p,i+1,j,g,k,m))
def Py(o:Ø Ö)(i j g k u:Nat):ŋ û Sem ąh:=do
 let q <-Ěa b j
 if ľr=Ã then pure åm
 else do
  let p <-Ěa a i
  let r <-Wk Ã p b Ŝ (Ű-Ŝ) 0
  B2 r (λm=>
   if m>0 then
    if(j+1+m==Ű)=Ã then pure (.done (À (YD a b İn i Ğl),ŧ q++čb Ŝ Ğl,i,j+1+m,g,k,m))
    else P_ a b İn i Ğl g k m
   else P_ a b Ĺh i Ŝ g k m) (pure åm)
def Px(o:Ø Ö)(i j n u g:Nat):ŋ û Sem ąh:=do
 ĭd λs=>Šc ąd Ďd Ÿc g þd
 let q <-Ěa b j
 let r <-Wk Â q a i (ń-i) 0
 B2 r (λk=>
  if k>0 then
   if(i+k+1==ń)=Ã then pure (Λd (Mz a b Ěg ŀd j) ŀd)
   else if(i+k==ń)=Ã then pure (Λd (YD a b Ěg ŀd j) ŀd)
   else Py a b Ěg ŀd j g k u
  else Py a b o i j g k u) (pure (.done (À İg,o,i,j,g,n,u)))
noncomputable def Ij(r:Æ α)(f:α->ŋ û Sem β)(g:ŋ û Sem β):ŋ û Sem β:=Break.runK.match_1 íg r f λ_=>g
noncomputable def mq(r:Æ Ì)(f:Ì->ŋ û Sem β)(g:ŋ û Sem β):ŋ û Sem β:=(sortPriv% PySem.Builtin.countRun.match_1) íg r f λ_=>g
def my(o:Ø Ö)(i j g m n:Nat):ŋ û Sem (Ċb M_):=do
 let q <-Ěa b j
 let p <-Ěa a i
 let r <-lt' q p
 mq r (λt=>
  if t=Ã then do
   let q <-Ěa b j
   if ľr=Ã then pure (.done (À (YD a b Ĺh i Ŝ),ŧ q,i,j+1,0,n+1))
   else if n+1≥g then pure (.done (Ä,ŧ q,i,j+1,0,n+1))else pure (.yield (Ä,ŧ q,i,j+1,0,n+1))
  else do
   let p <-Ěa a i
   if ņq=Ã then pure (.done (À Ŗo,ŧ p,i+1,j,m+1,0))
   else if m+1≥g then pure (.done (Ä,ŧ p,i+1,j,m+1,0))else pure (.yield (Ä,ŧ p,i+1,j,m+1,0))) (pure (.done (À İg,o,i,j,m,n)))
def y9w(x:XZ):ŋ û Sem ąh:=if x.2.2.2.2.1>1 then Px a b x.2.1 x.2.2.1 x.2.2.2.1 x.2.2.2.2.2.1 x.2.2.2.2.2.2 (x.2.2.2.2.1-1)else Px a b x.2.1 x.2.2.1 x.2.2.2.1 x.2.2.2.2.2.1 x.2.2.2.2.2.2 x.2.2.2.2.1
def y9x(o:Ø Ö)(i j g:Nat):ŋ û Sem (Ċb mj):=do
 let d <-ťb [:ń+Ű] ((Ä,o,i,j,0,0):M_) λ_ d=>my a b d.2.1 d.2.2.1 d.2.2.2.1 g d.2.2.2.2.1 d.2.2.2.2.2
 Ij d.1 æm do
  liftM ġn
  let e <-ťb [:ń+Ű] ((Ä,d.2.1,d.2.2.1,d.2.2.2.1,g+1,d.2.2.2.2.1,d.2.2.2.2.2):XZ) λ_ e=>y9w a b e
  Ij e.1 Ïm do
   ĭd λs=>Šc ąd Ďd Ÿc Ħp þd
   pure îm
#print a
def Yv(x:Ø Ö)(i:Nat)(h:i<Ča):∃p,x[i]?=À p:=⟨_,getElem?_pos x i h⟩
section
variable{t:Á Ö}{a b:Ø Ö}(hl:∀q∈Ęd,∀p∈ąb ĸh,yY q p)
include hl in
theorem wA.lst{o i j}(l:wA t a b o i j)(e:i+1=ń):uP t (Mz a b o i j):=Đr λq d p c=>hl q (List.drop_subset _ _ d) p (by rw[show ń-1=i by omega];exact c)
def wA.da{o i j}(l:wA t a b o i j)(e:i=ń):uP t İg:=Żh (fj e)
def wA.db{o i j}(l:wA t a b o i j)(e:j=Ű):uP t İg:=Żh λp c=>fj e
#print a
section
variable{Ĝ:å}{w:ß}{A:ø}{E:Value->Ë->Prop}{s:Ë}
def xW{α:Type}{c:Prop}[És c]{m n:ŋ û Sem α}{Q:α->û->Prop}{st:û}(b:c->wpS è A E s m Q st)(a:¬c->wpS è A E s n Q st):wpS è A E s (if c then m else n) Q st:=by by_cases h:c;rw[Ï h];exact b h;rw[Ð h];exact a h
section
variable{t:Á Ö}{a b:Ø Ö}(ha:u4 a)(hb:u4 b)(hl:∀q∈Ęd,∀p∈ąb ĸh,yY q p){a0:Ø Ö}{p0:Ø Ŭa}{f0:Æ Value}{x y g m k u:Nat}{o:Ø Ö}{i j:Nat}{p q:Ö}
include hl in
theorem nz(l:wA t a b o i j)(ep:a[i]?=À p)(c:∀r∈Ōc j,yY p r)(e:i+1<ń)(d:j<Ű)(f:x<=i+j)(h:y<=x):wpS è A E s (P_ a b o i j g k m) (ι (gH t a b y) (TM t a b x)) Ŋc:=by
 replace l:=l.pa ep c
 refine æ (u9 ep (ψ (γb Ũp)))
 replace c:=Y3 e c
 exact xW (λ_=>ô ⟨g,rfl,gH.go ⟨l,c,d,by omega⟩⟩) λ_=>ô ⟨g,rfl,TM.mk ⟨l,c,d,by omega⟩⟩
include ha hb hl in
theorem nv(l:wA t a b o i j)(f:b[j]?=À q)(c:∀r∈ąb i,yY q r)(n:i+1<ń)(B:x<i+j+1)(e:y<=x):wpS è A E s (Py a b o i j g k u) Šm Ŋc:=by
 have G:=(ŏd f).1
 replace l:=l.pb f c
 refine æ (u9 f (ψ (γb (l.db ŋa))))
 replace c:=Y3 G c
 replace e:=Ŵi e
 obtain⟨p,d⟩:=Yv a i (åd n);refine æ (Λc (Tc rfl (ha _ _ d) hb čp (Ųi c) (bZ rfl) ŵr λm h e1 e2=>?_));rw[Ċj]at e2
 replace h:j+1+m<=Ű:=Ëe .. ▸ Îo ĝd h
 refine xW åh λC=>?_;have v:=l.cb λp z r F=>îb (ća (e1 p z)) (l.hd d r F)
 refine xW (γb (v.db ŋa)) λc=>nz hl v d e2 n (Y3 h c) Å e;cases āi C;exact nz hl l d e2 n c B e
include ha hb hl in
theorem nu(l:wA t a b o i j)(z:i+1<ń)(H:j<Ű)(G:x<i+j)(B:y<=x){n C:Nat}:wpS è A E s (Px a b o i j n u g) Šm (yT a0 p0 f0 C):=by
 obtain⟨q,d⟩:=Yv b j H;have h:=åd z;refine æ (Δa (æ (Λc (Tc rfl ŀr ha (Àc (ŝd (õa h))) (Ųi h) (bZ rfl) l.sa λk f K e=>?_))));rw[Ċj]at e
 replace e:=λp m=>ća (e p m)
 replace f:i+k<=ń:=Ëe .. ▸ Îo (õa h) f
 refine xW åh λc=>?_;have v:=l.ca λp m r F=>îb (K p m) (Ìh d r F)
 refine xW (Μd (v.lst hl ŋa)) λJ=>xW (Μd ĵr) λI=>nv ha hb hl v d e (Y3 (Y3 f I) J) Å B;cases āi c;exact nv ha hb hl l d e z (ųd G) B
include ha hb hl in
theorem x82(l:VF t a b x o i j)(B:y<=x+1){n:Nat}:wpS è A E s (my a b o i j g m n) (ι (Xa t a b y) (Ik t a b īb)) ğg:=by
 obtain⟨l,h,k,z⟩:=l;obtain⟨p,f⟩:=Yv a i (åd h);obtain⟨q,e⟩:=Yv b j k;refine æ (u9 e (æ (u9 f (æ (ņd rfl (hb _ _ e) Łr ?_)))));by_cases c:wX q<wX p;rw[î c];have d:=l.pb e λr v=>îb (ća c) (l.hd f r v)
 refine æ (u9 e (Δd ńr))
 replace c:=Y3 k c
 exact xW (λ_=>ô ⟨_,rfl,Xa.go ⟨d,h,c,by omega⟩⟩) λ_=>ô ⟨_,rfl,Ik.mk ⟨d,h,c,Ùp z⟩⟩;rw[ă c];have d:=l.pa f λr v=>îb ċl (Ìh e r v)
 refine æ (u9 f (Δd (d.lst hl ŋa)))
 replace c:=Y3 h c
 exact xW (λ_=>ô ⟨_,rfl,Xa.go ⟨d,c,k,by omega⟩⟩) λ_=>ô ⟨_,rfl,Ik.mk ⟨d,c,k,by omega⟩⟩
include ha hb hl in
theorem x83(l:VF t a b x o i j):wpS è A E s (y9x a b o i j g) (ι Åg (B4 t a b īb)) ğg:=by refine æ (ωa (λz=>Ik t a b (x+z)) (Xa t a b īb));rintro z _ g m ⟨l⟩;exact x82 ha hb hl l đp;rintro _ ⟨_,d,h,e⟩;omega;rintro _ g (⟨f⟩|⟨l⟩);exact ô ⟨g,rfl,_,rfl,f⟩;refine æ (Οa (ωa (λz=>TM t a b (x+1+z)) (gH t a b īb)));rintro z _ g m ⟨l,d,h,e⟩;have k:=Õa īb z;exact xW (λ_=>nu ha hb hl l d h e k) λ_=>nu ha hb hl l d h e k;rintro _ ⟨_,d,h,e⟩;omega;rintro _ g (⟨f⟩|⟨l⟩);exact ô ⟨g,rfl,_,rfl,f⟩;exact æ (Δa (ô ⟨_,rfl,B4.mk l⟩))
#print a
def x86{a b:Ø Ö}{a0 p0 f0 g}{t:Á Ö}{Q:Ø Ö->û->Prop}(m:u4 a)(v:u4 b)(u:0<ń){y:Ö}(i:b[0]?=À y)(d:wA t a b #[y] 0 1)(j:∀q∈Ęd,∀p∈ąb ĸh,yY q p)(h:∀r g,uP t r->Q r Ŋc):wpS è A E s (fL a b) Q Ŋc:=by have k:0<Ű:=(ŏd i).1;unfold fL;refine æ (Οa (u9 i (xW (Γb ńr) λo=>xW (Γb (d.lst j ŋa)) λn=>?_)));refine æ (Ξc (Ta (λx=>B4 t a b x) Åg ⟨d,Y3 u n,Y3 k o,Nat.one_pos⟩ ?_ ?_ ?_));rintro x _ g F ⟨l⟩;exact x83 m v j l;rintro _ ⟨_,z,C,B⟩;omega;rintro⟨q,c⟩ g ⟨r,e,f⟩;cases e;exact ô ēs
#print a
def wJ(t:Á Ö)(a b o:Ø Ö)(i j:Nat):Prop:=ue (λp q=>yY q p) t Ŷk (ļf).reverse (čl).reverse
section
variable{t:Á Ö}{a b o:Ø Ö}{i j k:Nat}{p:Ö}
def R9(h:a[i]?=À p):ļb ê=ļb i++[p]:=by obtain⟨b,rfl⟩:=ŏd h;rw[Ōd áo,ťd]
theorem wJ.swap(h:wJ t a b o i j):wJ t b a o j i:=ĥh h
def wJ.pa(h:wJ t a b o ê j)(e:a[i]?=À p)(c:∀q∈õc j,yY q p):wJ t a b ðe i j:=by unfold wJ at h ⊢;rw[R9 e,śi]at h;rw[źi];exact Ħh (m:=[p]) h λq d r f=>ëa d▸c r (œe f)
def wJ.pb(h:wJ t a b o i Ŝ)(e:b[j]?=À p)(c:∀q∈ļb i,yY q p):wJ t a b ðe i j:=(ěp).swap
def wJ.ca(h:wJ t a b o i j)(hk:k<=i)(c:∀p∈(ļf).drop k,∀q∈õc j,yY q p):wJ t a b Ŀi k j:=by unfold wJ at h ⊢;rw[<-Ũa k ļf,śi,Ĉj,Îb hk]at h;rw[Ųb,Ño,ŏe,ľe,<-List.drop_take];exact h.move λp e r d=>c p (œe e) r (œe d)
def wJ.cb(h:wJ t a b o i j)(hk:k<=j)(c:∀p∈(čl).drop k,∀q∈ļb i,yY q p):wJ t a b (o++(čb k j).reverse) i k:=(Źr hk c).swap
theorem wJ.fin(h:wJ t a b o i j)(c:∀p∈ļb i,∀q∈õc j,yY p q):uP t (ſb 0 i++čb 0 j++Ħk):=by
 have e:∀(x:Ø Ö) k,(òf 0 k).toList=x.toList.take k:=λx k=>by rw[ŏe,ľe];rfl
 have:=īl (ĥh h) λq d p g=>c p (œe g) q (œe d)
 unfold uP;rw[Ųb,Ųb,e,e,Ño]
 have f:(Ŷk++(čl).reverse++(ļf).reverse).reverse=ļb i++õc j++o.toList.reverse:=by simp only[śi,List.reverse_reverse,ŗ]
 rw[<-f];exact⟨(ŵi _).trans this.1,Ği this.2⟩
def wJ.sa(h:wJ t a b o i j):(ļf).Pairwise yY:=List.pairwise_reverse.mp şm.2.1
def wJ.hd(h:wJ t a b o ê j)(e:a[i]?=À p):∀q∈ļb ê,yY q p:=by have:=h.sa;rw[R9 e]at this ⊢;intro q c;rcases Ăa c with c|c;exact(ðc this).2.2 q c p ĵ;rw[ëa c];exact Ĥa _
def fY(h:i=0){P:Ö->Prop}:∀p∈ļb i,P p:=by subst h;intro p b;cases b
#print a
abbrev TK:=Æ Ŧc×Nat×Nat×Ø Ö×Nat×Nat×Nat
abbrev mn:=Æ Ŧc×Nat×Nat×Ø Ö×Nat
abbrev B0:=Æ Ŧc×Nat×Nat×Ø Ö×Nat×Nat
structure Xb(t:Á Ö)(a b:Ø Ö)(x:Nat)(o:Ø Ö)(i j:Nat):Prop where
 l:wJ t a b o ê Īe
 p:i<ń
 q:j+1<Ű
 s:x+i+j+3<ń+Ű
section
variable(t:Á Ö)(a b:Ø Ö)(x:Nat)
inductive B5:mn->Prop
 |mk {o i j m}:Xb t a b x o i j->B5 (Ä,i+1,j+2,o,m)
inductive Il:B0->Prop
 |mk {o i j m n}:Xb t a b x o i j->Il (Ä,i+1,j+2,o,m,n)
inductive Xc:B0->Prop
 |fin {r c}:uP t r->Xc (À r,c)
 |go {o i j m n}:Xb t a b x o i j->Xc (Ä,i+1,j+2,o,m,n)
inductive TN:TK->Prop
 |mk {o i j m n q}:Xb t a b x o i j->TN (Ä,i+1,j+2,o,m,n,q)
inductive gJ:TK->Prop
 |fin {r c}:uP t r->gJ (À r,c)
 |go {o i j m n q}:Xb t a b x o i j->gJ (Ä,i+1,j+2,o,m,n,q)
#print a
section
variable(a b:Ø Ö)
noncomputable def YE(o:Ø Ö)(i j:Nat):Ø Ö:=ſb 0 i++čb 0 j++Ħk
noncomputable def B3(o:Ø Ö)(i j:Nat):Ø Ö:=čb 0 j++ſb 0 i++Ħk
def Pw(o:Ø Ö)(i j g k m:Nat):ŋ û Sem Äl:=do
 let p <-Ěa a ŧf
 if(i-1==0)=Ã then pure (.done (À äo,i-1,j,ŧ p,g,k,m))
 else if(decide (k<7)&&decide (m<7))=Ã then pure (.done (Ä,i-1,j,ŧ p,g,k,m))else pure (.yield (Ä,i-1,j,ŧ p,g,k,m))
def Pv(o:Ø Ö)(i j g k u:Nat):ŋ û Sem Äl:=do
 let q <-Ěa b ôb
 if(j-1==1)=Ã then pure (Ιd ŧn)
 else do
  let p <-Ěa a ŧf
  let r <-Wk Ã p b 0 ôb (j-1-1)
  B2 r (λm=>
   if j-1-m>0 then
    if(m==1)=Ã then pure (ωc (B3 a b ći i m) Ûr)
    else if(m==0)=Ã then pure (ωc (YE a b ći i m) Ûr)
    else Pw a b ći i m g k (j-1-m)
   else Pw a b Ĺh i ôb g k (j-1-m)) (pure (Ιd (YE a b Ĺh i ôb)))
def Pu(o:Ø Ö)(i j n u g:Nat):ŋ û Sem Äl:=do
 ĭd λs=>Šc ąd Ďd Ÿc g þd
 let q <-Ěa b ôb
 let r <-Wk Â q a 0 i ŧf
 B2 r (λk=>
  if i-k>0 then
   if(k==0)=Ã then pure (.done (À (YE a b Ŀi k j),k,j,o++(ſb k i).reverse,g,i-k,u))
   else Pv a b Ŀi k j g (i-k) u
  else Pv a b o i j g (i-k) u) (pure (.done (À įg,i,j,o,g,n,u)))
def mw(o:Ø Ö)(i j g m n:Nat):ŋ û Sem (Ċb B0):=do
 let q <-Ěa b ôb
 let p <-Ěa a ŧf
 let r <-lt' q p
 mq r (λt=>
  if t=Ã then do
   let p <-Ěa a ŧf
   if(i-1==0)=Ã then pure (.done (À äo,i-1,j,ŧ p,m+1,0))
   else if m+1≥g then pure (.done (Ä,i-1,j,ŧ p,m+1,0))else pure (.yield (Ä,i-1,j,ŧ p,m+1,0))
  else do
   let q <-Ěa b ôb
   if(j-1==1)=Ã then pure (.done (À ŧn,i,j-1,ŧ q,0,n+1))
   else if n+1≥g then pure (.done (Ä,i,j-1,ŧ q,0,n+1))else pure (.yield (Ä,i,j-1,ŧ q,0,n+1))) (pure (.done (À įg,i,j,o,m,n)))
def y9v(o:Ø Ö)(i j g:Nat):ŋ û Sem (Ċb mn):=do
 let d <-ťb [:ń+Ű] ((Ä,i,j,o,0,0):B0) λ_ d=>mw a b d.2.2.2.1 d.2.1 d.2.2.1 g d.2.2.2.2.1 d.2.2.2.2.2
 Ij d.1 æm do
  liftM ġn
  let e <-ťb [:ń+Ű] ((Ä,d.2.1,d.2.2.1,d.2.2.2.1,g+1,d.2.2.2.2.1,d.2.2.2.2.2):TK) λ_ e=>if e.2.2.2.2.1>1 then Pu a b e.2.2.2.1 e.2.1 e.2.2.1 e.2.2.2.2.2.1 e.2.2.2.2.2.2 (e.2.2.2.2.1-1)else Pu a b e.2.2.2.1 e.2.1 e.2.2.1 e.2.2.2.2.2.1 e.2.2.2.2.2.2 e.2.2.2.2.1
  Ij e.1 Ïm do
   ĭd λs=>Šc ąd Ďd Ÿc Ħp þd
   pure îm
#print a
section
variable{Ĝ:å}{w:ß}{A:ø}{E:Value->Ë->Prop}{s:Ë}
section
variable{t:Á Ö}{a b:Ø Ö}(ha:u4 a)(hb:u4 b)(hl:∀q∈þh,∀p∈õc 1,yY p q){a0:Ø Ö}{p0:Ø Ŭa}{f0:Æ Value}{x y g m k u:Nat}{o:Ø Ö}{i j:Nat}{p:Ö}
include hl in
theorem wJ.lst(l:wJ t a b o i j)(e:j=1):uP t (B3 a b o i j):=Đr λq d p c=>hl p (List.take_subset _ _ c) q (e▸d)
def wJ.da(l:wJ t a b o i j)(e:i=0):uP t įg:=Żh (fY e)
def wJ.db(l:wJ t a b o i j)(e:j=0):uP t įg:=Żh λp c=>fY e
def nj(l:wJ t a b o ê j)(ep:a[i]?=À p)(c:∀r∈õc j,yY r p)(f:2<=j)(e:j<=Ű)(h:x+i+j<ń+Ű)(q:y<=x):wpS è A E s (Pw a b o ê j g k m) žm Ŋc:=by
 have d:=(ŏd ep).1
 replace l:=l.pa ep c
 refine æ (u9 ep (ψ (χa (l.da ŋa))));obtain⟨i,rfl⟩:=XM c;obtain⟨j,rfl⟩:∃n,j=n+2:=⟨j-2,(śe f).symm⟩;exact xW (λ_=>ô ⟨g,rfl,gJ.go ⟨l,åd d,e,by omega⟩⟩) λ_=>ô ⟨g,rfl,TN.mk ⟨l,åd d,e,by omega⟩⟩
include ha hb hl in
theorem ni(l:wJ t a b o ê Īe)(v:b[j+1]?=À q)(c:∀r∈ļb ê,yY r q)(H:i<ń)(J:x+i+j+1<ń+Ű)(C:y<=x):wpS è A E s (Pv a b o ê Īe g k u) žm Ŋc:=by
 have h:=(ŏd v).1
 replace l:=l.pb v c
 refine æ (u9 v (ψ (χa Ũp)));obtain⟨j,rfl⟩:=XM (a:=j) λe=>c Īi
 obtain⟨p,f⟩:=Yv a i H
 replace h:=õa h
 refine æ (u9 f (æ (Tc rfl Łr hb (show 0+(j+1+1)<=Ű from(Đl).symm▸h) ąe (z:=õc (j+1+1)) rfl ŵr λm d e1 e2=>?_)))
 replace d:m<=j+1+1:=d
 rw[Ĉj,Îb d]at e1
 replace e1:=λp n=>ća (e1 p n)
 refine xW åh λc=>?_;have B:=l.cb d λp n r F=>îb (l.hd f r F) (e2 p n)
 exact xW (χa (B.lst hl ŋa)) λI=>xW (χa (B.db ŋa)) λG=>by
  obtain⟨m,rfl⟩:=XM G;obtain⟨m,rfl⟩:=XM (a:=m) λe=>I Īi
  exact nj B f e1 æo (Ğ d h) Å C
 cases ðd d Æn;exact nj l f e1 æo h Å C
include ha hb hl in
theorem nh(l:Xb t a b x o i j)(f:y<=x){n B:Nat}:wpS è A E s (Pu a b o ê Īe n u g) (ι (gJ t a b y) (TN t a b īb)) (yT a0 p0 f0 B):=by
 obtain⟨l,h,G,I⟩:=l;obtain⟨q,d⟩:=Yv b Ŝ G
 replace f:=Ŵi f
 refine æ (Ηd (Λc (Tc rfl ŀr ha (show 0+ê<=ń from(Đl).symm▸h) ąe (z:=ļb ê) rfl l.sa λk e m H=>?_)));rw[Ĉj,Îb e]at m;refine xW åh λc=>?_;have v:=l.ca e λp F r C=>îb (Ìh d r C) (ća (H p F))
 refine xW (λc=>ô ⟨_,rfl,gJ.fin ĵr⟩) λc=>?_
 obtain⟨k,rfl⟩:=XM c;exact ni ha hb hl v d m (Ğ e h) Å f;cases ðd e Æn;exact ni ha hb hl l d m h Å f
include ha hb hl in
theorem x80(l:Xb t a b x o i j)(C:y<=x+1){n:Nat}:wpS è A E s (mw a b o ê Īe g m n) (ι (Xc t a b y) (Il t a b īb)) ğg:=by
 obtain⟨l,f,d,B⟩:=l;obtain⟨p,k⟩:=Yv a i f;obtain⟨q,v⟩:=Yv b Ŝ d;refine æ (u9 v (æ (u9 k (æ (ņd rfl (hb _ _ v) (ha _ _ k) ?_)))));by_cases c:wX q<wX p;rw[î c];have h:=l.pa k λr z=>îb (Ìh v r z) (ća c)
 refine æ (u9 k (Γd (h.da ŋa)));obtain⟨i,rfl⟩:=XM c
 replace f:=åd f
 exact xW øm λ_=>ô ⟨_,rfl,Il.mk ⟨h,f,d,by omega⟩⟩;rw[ă c];have h:=l.pb v λr z=>îb (l.hd k r z) ċl
 refine æ (u9 v (Γd (h.lst hl ŋa)));obtain⟨j,rfl⟩:=XM (a:=j) λe=>c Īi
 replace d:=åd d
 exact xW øm λ_=>ô ⟨_,rfl,Il.mk ⟨h,f,d,by omega⟩⟩
include ha hb hl in
theorem x81(l:Xb t a b x o i j):wpS è A E s (y9v a b o ê Īe g) (ι Åg (B5 t a b īb)) ğg:=by refine æ (ωa (λz=>Il t a b (x+z)) (Xc t a b īb));rintro z _ g e ⟨l⟩;exact x80 ha hb hl l đp;rintro _ ⟨l,_,_,z⟩;omega;rintro _ g (⟨f⟩|⟨l⟩);exact ô ⟨g,rfl,_,rfl,f⟩;refine æ (Οa (ωa (λz=>TN t a b (x+1+z)) (gJ t a b īb)));rintro z _ g e ⟨l⟩;have d:=Õa īb z;exact xW (λ_=>nh ha hb hl l d) λ_=>nh ha hb hl l d;rintro _ ⟨l,_,_,z⟩;omega;rintro _ g (⟨f⟩|⟨l⟩);exact ô ⟨g,rfl,_,rfl,f⟩;exact æ (Δa (ô ⟨_,rfl,B5.mk l⟩))
#print a
def x85{a b:Ø Ö}{a0 p0 f0 g}{t:Á Ö}{Q:Ø Ö->û->Prop}(m:u4 a)(v:u4 b)(k:0<Ű){y:Ö}(j:a[ń-1]?=À y)(d:wJ t a b #[y] ĸh Ű)(i:∀q∈þh,∀p∈õc 1,yY p q)(h:∀r g,uP t r->Q r Ŋc):wpS è A E s (fK a b) Q Ŋc:=by
 unfold fK;refine æ (Οa (u9 j (xW (Γb (d.da ŋa)) λu=>xW (Γb (d.lst i ŋa)) λo=>?_)));obtain⟨n,e1⟩:=XM u;obtain⟨B,e2⟩:∃n,Ű=n+2:=⟨Ű-2,(śe (Įo k λe=>o (òd ŋf))).symm⟩;have F:ń=n+2:=by omega
 rw[e1,e2]at d;refine æ (Ξc (Ta (λx=>B5 t a b x) Åg (by rw[e1,e2];exact⟨d,by omega,by omega,by omega⟩) ?_ ?_ ?_));rintro x _ g C ⟨l⟩;exact x81 m v i l;rintro _ ⟨l,_,_,z⟩;omega;rintro⟨q,c⟩ g ⟨r,e,f⟩;cases e;exact ô ēs
#print a
def gI(x:Ø Ö)(l n:Nat):Prop:=∀i j,i<=j->j<n->K x (l+i)<=K x (l+j)
def mo(x:Ø Ö):Prop:=∀i j,i<Ča->j<Ča->K x i=K x j->i=j
def y9b(h:gI x l n)(c:n=0\/K x (l+n-1)<=K x (l+n)):gI x l ļ:=by
 intro i j a b;by_cases e:j<n;exact h i j a e;obtain rfl:j=n:=by omega
 by_cases e2:i=j;rw[e2];exact Ĥa _;have:=h i ôb Å Å;rw[show l+ôb=l+j-1 by omega]at this;exact Ìe this (łp Å)
section
variable{Ĝ:å}{w:ß}{A:ø}{E:Value->Ë->Prop}{s:Ë}
def Td{i j p f g}(c:u4 x)(hi:i<Ča)(d:j<Ča)(h:Q (À (decide (K x i<K x j))) āc):wpS è A E s (ltAt' i j) Q āc:=by have b:x[i]?=À x[i]:=getElem?_pos x i hi;have a:x[j]?=À x[j]:=getElem?_pos x j d;rw[ltAt'_eq];refine æ (Ξc (u9 b (æ (u9 a (ņd rfl (c _ _ b) (c _ _ a) ?_)))));unfold K at h;rw[b,a]at h;exact h
def nc{x:Ø Ö}{a lo n p f g}{F:Nat->Æ čd×Nat->ŋ û Sem (Ċb (Æ čd×Nat))}{R:Æ čd×Nat->û->Prop}(l:1<=a)(b:a<=n)(e:gI x lo a)(i:∀y m Q,1<=m->m<n->(K x ĸd<K x ÿe->Q (.done (Ä,m)) āc)->(¬ K x ĸd<K x ÿe->Q (.yield (Ä,m+1)) āc)->wpS è A E s (F y (Ä,m)) Q āc)(h:∀m,a<=m->m<=n->gI x lo m->(m=n\/K x ĸd<K x ÿe)->R (Ä,m) āc):wpS è A E s (ťb [a:n] (Ä,a) F) R āc:=by refine Ĺc (I:=λy c st=>st=yT x p f g/\c=(Ä,y)/\gI x lo y) ?_ ?_ ⟨rfl,rfl,e⟩;rintro y _ _ j k ⟨rfl,rfl,d⟩;exact i _ _ _ Å k (λc=>h y j Å d (.inr c)) λc=>⟨rfl,rfl,y9b d (.inr ċl)⟩;rintro _ _ ⟨rfl,rfl,d⟩;rw[Ój b]at d ⊢;exact h n b Ē d Ĺ
def fN{lo m j:Nat}(h:j<m):lo+ĸd-1-Ŕl=lo+(m-1-j):=by rw[ſq,ſq,Nat.add_left_comm 1,Nat.add_sub_add_left,Nat.add_sub_assoc (by rw[Ëe];exact h)]
theorem x7y{x:Ø Ö}{lo n p f g}{Q:Æ Nat->û->Prop}(r:u4 x)(C:mo x)(P:lo+n=Ča)(H:1<=n)(h:∀m y,æb x->(∀k,k<lo->y[k]?=x[k]?)->1<=m->m<=n->gI y lo m->Q âb Ĳq):wpS è A E s (Às lo n) Q āc:=by
 unfold Às;refine æ (nc (lo:=lo) (Øa 1) H (λi j a b=>by rw[show i=j by omega];exact Ĥa _) ?_ ?_);intro y m Q a b z u;refine æ Èj;by_cases c:K x ĸd<K x ÿe;simp only[c,ģa,ś];exact ô (z c);simp only[c,Ņg,Ĺb,ða];exact ô (u c);intro m a b o c;refine xW (λe=>ô (h m x ąl šj a b o)) λe=>?_
 replace c:=łp āb
 replace b:m<n:=by simp at e;omega
 refine xW (λe=>?_) λe=>?_;refine æ Èj
 have:K x lo<K x ÿe:=by have v:=o 0 (m-1) Å (by dsimp only at e;omega);rw[show lo+(m-1)=lo+m-1 by omega,ėq]at v;have B:=C lo ÿe Å Å;dsimp only at e;omega
 simp only[this,ģa,ś];exact ô (h m x ąl šj a Å o);obtain rfl:m=1:=by dsimp only at e;omega
 refine æ (űn (ūd ⟨rfl,?_⟩));refine æ (θa (Ĺc (I:=λy c st=>st=yT x p f g/\c=(Ä,y,0)/\∀i j,i<=j->j<y->K x Ŕl<=K x êb) (Q:=λc st=>st=yT x p f g/\∃m,c=(Ä,m,0)/\2<=m/\m<=n/\∀i j,i<=j->j<m->K x Ŕl<=K x êb) ?_ ?_ ⟨rfl,rfl,?_⟩));rintro y _ _ B G ⟨rfl,rfl,d⟩;refine æ (Td r ŏi ŏi ?_);by_cases c:K x œl<K x Îl;simp only[c,ģa,ś];refine ô ⟨rfl,rfl,λi j q l=>?_⟩;by_cases e:j<y;exact d i j q e;obtain rfl:j=y:=by omega
 by_cases e2:i=j;rw[e2];exact Ĥa _;have:=d i ôb Å Å;rw[show lo+ôb=lo+j-1 by omega]at this;omega;simp only[c,Ņg,Ĺb,ða];refine æ Èj
 have:K x Îl<K x œl:=by have R:=C Îl œl Å Å;omega
 simp only[this,ģa,ś];exact ô ⟨rfl,y,rfl,by omega,by omega,d⟩;rintro _ _ ⟨rfl,rfl,d⟩;rw[Ój Å]at d ⊢;exact⟨rfl,n,rfl,by omega,by omega,d⟩;intro i j q l;by_cases e2:i=j;rw[e2];exact Ĥa _;rw[show i=0 by omega,show j=1 by omega];exact ća c;rintro _ _ ⟨rfl,m,rfl,B,G,d⟩;have F:∀k,K Źf k=_:=λk=>K_mirror Å k
 refine æ (wpS_reverse (æ (nc (x:=mirror x lo ĸd ((lo+m-lo)/2)) (lo:=lo) ŏi G ?_ ?_ ?_)));intro i j q l;dsimp only at l;rw[F,F,Ï Å,Ï Å];have:=d (m-1-j) (m-1-i) (öo q _) (ķb Źb (Nat.sub_lt (ķb ġc l) Ųd));rw[fN (ķb q l),fN l];exact this;intro y t Q a b z u;have L:(Źf).Perm x:=Ůq _ _ _ _;refine æ (Td ?_ ėn ėn ?_);intro i p J;obtain⟨N,v⟩:=ħi ((ďi L).mem_iff.mp (øi (ąi J)));exact r N p (by rw[<-þb];exact v);by_cases c:K Źf (lo+t)<K Źf (lo+t-1);simp only[c,ģa,ś];exact ô (z c);simp only[c,Ņg,Ĺb,ða];exact ô (u c);intro t a b o _;refine ô (h t _ (Ůq _ _ _ _) (λk O=>?_) (by dsimp only at a;omega) b o);rw[getElem?_mirror_all Å,Ð Å]
#print a
def J4{x y:Ø Ö}(h:u4 x)(p:æb x):u4 y:=by intro i q b;obtain⟨a,c⟩:=ħi ((ďi p).mem_iff.mp Þq);exact h a q (by rw[<-þb];exact c)
section
variable{Ĝ:å}{w:ß}{A:ø}{E:Value->Ë->Prop}{s:Ë}
def z89{l r:Nat}(h:l<r):l<=(l+r)/2/\(l+r)/2<r:=by omega
def x7x{x:Ø Ö}{lo n ok p f g}{Q:Ì->û->Prop}(hx:u4 x)(hn:lo+n<=Ča)(zh:ok<=n)(d:gI x lo ok)(h:∀y,æb x->(∀k,k<lo->y[k]?=x[k]?)->gI y lo n->Q Ã Ĳq):wpS è A E s (Ŵq lo n ok) Q āc:=by
 unfold Ŵq;refine æ (θa (Ĺc (I:=λk c st=>c=(Ä,())/\∃y,st=yT y p f g/\æb x/\(∀k,k<lo->y[k]?=x[k]?)/\(k<=n->gI y lo k)) (Q:=λc st=>c=(Ä,())/\∃y,st=yT y p f g/\æb x/\(∀k,k<lo->y[k]?=x[k]?)/\gI y lo n) ?_ ?_ ⟨rfl,x,rfl,ĵm _,λ_ _=>rfl,λ_ i j a b=>?_⟩));rintro k _ _ hk P ⟨rfl,y,rfl,v,G,d⟩
 replace d:=d (õa P)
 have Z:=J4 hx v;have J:lo+k<ėe:=by have:=v.size_eq;omega
 have sj:∀j,j<=k->lo+j<ėe:=λj hj=>ķb (ßd hj lo) J
 refine æ (BP (Q:=λc st=>st=yT y p f g/\∃l r,c=(Ä,l,r)/\l<=k/\(∀i,i<l->K y êb<=K y ác)/\∀i,l<=i->i<k->K y ác<K y êb) (λz c=>∃l r,c=(Ä,l,r)/\l<=r/\r<=k/\r+z<=k+l/\(∀i,i<l->K y êb<=K y ác)/\∀i,r<=i->i<k->K y ác<K y êb) ⟨0,k,rfl,Áa _,Øa _,Øa _,λi L=>Ú L Ťi,λi a b=>Ú b (Ÿe a)⟩ ?_ ?_ ?_);rintro z _ hz ⟨l,r,rfl,S,o,g3,B,C⟩;refine xW äh λc=>?_;cases ðd S c;exact ô ⟨rfl,l,l,rfl,o,B,C⟩;obtain⟨W,T⟩:=z89 ög;dsimp only;generalize (l+r)/2=m at W T ⊢;have O:=ŭ T o;refine æ (Td Z J (sj m (õa O)) ?_);by_cases c2:K y ác<K y ĸd;simp only[c2,ģa,ś];exact ô ⟨rfl,l,_,rfl,W,õa O,by omega,B,λi q R=>Int.lt_of_lt_of_le c2 (d _ _ q R)⟩;simp only[c2,Ņg,Ĺb,ða];exact ô ⟨rfl,_,r,rfl,T,o,by omega,λi q=>Ìe (d i m (Ŵd q) O) (çd c2),C⟩;rintro _ ⟨l,r,rfl,S,o,g3,B,C⟩;cases ðd S Å;exact⟨rfl,l,l,rfl,o,B,C⟩;rintro _ _ ⟨rfl,l,r,rfl,o,B,C⟩;have e:lo+k-ŀg=lo+l:=Nat.sub_sub_self (ßd o lo);refine æ (Δa (ô ⟨rfl,Ĺl y ác ŀg,rfl,(bubble_perm _ _ _).trans v,λi L=>?_,λ_=>?_⟩));have z:=ŭ L (Õa lo l);rw[<-G i L,getElem?_bubble J _ Źb,e,Ð (Ça z),Ð λc=>Ėq z c.1];have H:∀i,K (Ĺl y ác ŀg) i=_:=K_bubble J Źb;generalize Ĺl y ác ŀg=b at H;rw[e]at H;have N:∀i,i<l->K b êb=K y êb:=λi a=>by rw[H,Ð λc=>Ça a (Nat.add_left_cancel c),Ð λc=>Ėq a (Nat.lt_of_add_lt_add_left c.1)]
 have X:K b (lo+l)=K y ác:=by rw[H,Ï rfl]
 have U:∀i,l<=i->i<k->K b (lo+ê)=K y êb:=λi a c=>by rw[H,Ð Å,Ï Å];rfl
 intro i j q R;rcases ųi j l with z|rfl|z;rw[N i (ķb q z),N j z];exact d i j q (ŭ z o);rcases Nat.lt_or_eq_of_le q with z|rfl;rw[N i z,X];exact B i z;exact Ĥa _;obtain⟨j,rfl⟩:∃t,j=t+1:=⟨j-1,by omega⟩;have F:=Nat.lt_of_succ_lt_succ R;rw[U j (Ŵd z) F];rcases ųi i l with u|rfl|u;rw[N i u];exact d i j Å F;rw[X];exact ća (C j (Ŵd z) F);obtain⟨i,rfl⟩:∃t,i=t+1:=⟨i-1,by omega⟩;have Y:=Nat.le_of_succ_le_succ q;rw[U i (Ŵd u) (ķb Y F)];exact d i j Y F;rintro _ _ ⟨rfl,y,rfl,v,G,d⟩;refine⟨rfl,y,rfl,v,G,?_⟩;by_cases e:n=0;intro i j a b;omega;rw[Ój Å]at d;exact d Ē;by_cases e:ok=0;rw[show i=j by omega];exact Ĥa _;exact d i j a Å;rintro _ _ ⟨rfl,y,rfl,v,G,d⟩;exact ô (h y v G d)
#print a
theorem mS{F:Ø Ö->Ö×Nat->Ø Ö}{s:Nat}(b:∀a p j,F a (p,j)=ãj (s+j) p){R:Á Ö}:∀(l Z P:Á Ö)(n:Nat)(x:Ø Ö),ũc=P++(Z++R)->ėa=s+n->Žk=ŕb->((l.zipIdx n).foldl F x).toList=P++(l++R)
 | [],Z,P,n,x,h,_,hz=>by rw[ěi hz]at h;exact h|p::l,z::Z,P,n,x,h,hp,hz=>by
  rw[Ôj,űe,b]
  have:=mS b (R:=R) l Z (P++[p]) ļ (x.setIfInBounds (s+n) p) (by rw[đn,h,èg _ _ Å,hp,ÿc,ŗ];rfl) (by rw[í,hp];rfl) (żd hz)
  rw[this,ŗ];rfl
def cq{x:Ø Ö}{P X R:Á Ö}{a b:Nat}(h:ũc=P++(X++R))(c:ėa=a)(d:a+Èa=b):(òf a b).toList=X:=by rw[ŏe,ľe,h,ëj c,èj Å]
theorem Ox{x:Ø Ö}{P R:Á Ö}{p:Ö}{a:Nat}(h:ũc=P++p::R)(b:ėa=a):x[a]?=À p:=by rw[<-þb,h,ŭb Å,b,ÿc];rfl
def bX{x y:Ø Ö}(h:u4 x)(c:∀p∈ėb,p∈ũc):u4 y:=by intro i q b;obtain⟨a,d⟩:=ħi (c q Þq);exact h a q (by rw[<-þb];exact d)
section
variable{Ĝ:å}{w:ß}{A:ø}{E:Value->Ë->Prop}{s:Ë}
def x87{a st:û}{Q:PUnit->û->Prop}(h:Q ⟨⟩ a):wpS è A E s (set a:ŋ û Sem PUnit) Q st:=by unfold wpS;rw[StateT.run_set];exact ĝ ⟨rfl,h⟩
def x84{x:Ø Ö}{p:Ø Ŭa}{g i d K T:Nat}{p1 p2:Á Ŭa}{P u v R:Á Ö}{l o:Ö}{Q:Ì->û->Prop}(S:u4 x)(ep:Ėf=p1++(d,(þe).length,K)::(d+(þe).length,(œf).length,T)::p2)(hi:p1.length=i)(ex:ũc=P++(þe++(œf++R)))(L:ėa=d)(H:(þe).Pairwise yY)(O:(œf).Pairwise yY)(h:∀y q g Z,ėb=P++(Z++R)->Z.Perm (þe++œf)->Z.Pairwise yY->Îc=p1++(d,(þe).length+(œf).length,K)::p2->Q Ã ód):wpS è A E s (øh i) Q řp:=by
 generalize eX:u++[l]=X at ep ex H h;generalize eY:o::v=Y at ep ex O h
 have e1:p[i]?=À (d,Èa,K):=by rw[<-þb,ep,ŭb Å,hi,ÿc];rfl
 have e2:p[i+1]?=À (d+Èa,ôe,T):=by rw[<-þb,ep,ŭb Å,hi,Ýg];rfl
 have e3:(Ūl).toList=p1++(d,Èa+ôe,K)::p2:=by rw[Array.toList_eraseIdxIfInBounds,đn,ep,èg _ _ Å,hi,ÿc,List.eraseIdx_append_of_length_le Å,hi,Ýg];rfl
 have xl_:∀q∈X,yY q l:=by intro q f;rw[<-eX]at f H;rcases Ăa f with z|z;exact(ðc H).2.2 q z l ĵ;rw[ëa z];exact Ĥa _
 have N:∀q∈Y,yY o q:=by intro q f;rw[<-eY]at f O;rcases ľ f with z|z;rw[z];exact Ĥa _;exact(Ōe O).1 q z
 have mX:l∈X:=eX▸Ëb _ ĵ;have mY:o∈Y:=eY▸ĵ;have lX:Èa=űk+1:=by rw[<-eX,í];rfl
 have lY:ôe=v.length+1:=by rw[<-eY];rfl
 have szx:Ča=d+(Èa+(ôe+Ðc)):=by rw[<-Ŭ,ex,í,í,í,L]
 have ay:x[d+Èa]?=À o:=Ox (P:=P++X) (R:=v++R) (by rw[ex,ŗ,<-eY];rfl) Ėj;have ax:x[d+Èa-1]?=À l:=Ox (P:=P++u) (R:=Y++R) (by rw[ex,<-eX,ŗ,ŗ];rfl) Őo;have C:(∀p∈X,∀q∈Y,yY p q)->Q Ã ãp:=λc=>h x _ g (X++Y) (by rw[ex,ŗ]) ĉl (Ög ⟨H,O,c⟩) e3
 unfold øh;refine æ ġf;show wpS _ _ _ _ (match(p[i]?,p[i+1]?)with|_=>_) _ _;rw[e1,e2];refine æ (x87 (æ (u9 ay (æ (Tc (z:=X) (x:=x) (b:=d) (n:=Èa) rfl (S _ _ ay) S Å Å (by rw[ex,ëj L,èj rfl]) H λk hk d1 d2=>?_)))));refine xW (Ωd (d1 p ?_) (N q f)) λc=>?_;rw[şd (by simp at c;omega)];exact j
 replace c:k<Èa:=by simp at c;omega
 have ax2:x[d+k+(Èa-k)-1]?=À l:=by rw[Àf,ŝd ĝd];exact ax
 refine æ (u9 ax2 (æ (Tc (z:=Y) (x:=x) (b:=d+Èa) (n:=ôe) rfl (S _ _ ax) S Å Å (by rw[ex,<-ŗ,ëj Ėj,èj rfl]) O λe W f1 f2=>?_)));refine xW (Ωd (xl_ p j) (f2 q ?_)) λc2=>?_;rw[Ĩk c];exact f
 replace c2:0<e:=by simp at c2;omega
 have B:(Ñg).toList=ıf k:=cq (P:=P++ÿh k) (R:=Y++R) (γd ÿl) (by rw[í,ìa,L,Îb ĝd]) (by rw[Ąb,Àf,ŝd ĝd]);have G:(Æg).toList=Ēf e:=cq (P:=P++X) (R:=Ļl e++R) (γd ĳh) Ėj (by rw[ìa,Îb W])
 have U:∀r g,uP Őe r->wpS è A E s (do ĭd λs=>Šc ąd (r.toList.zipIdx.foldl (λa x=>ãj Ės x.1) Ďd) Ÿc ťj þd;return (failedOf (<-get)).isNone) Q ãp:=by
  rintro r g ⟨r1,r2⟩;refine æ (Ηd (ŭf (ô (h _ _ _ Õn ?_ ?_ ?_ e3))));have:=mS (F:=λa x=>ãj Ės x.1) (s:=d+k) (λ_ _ _=>rfl) (R:=Ļl e++R) r.toList Őe (P++ÿh k) 0 x (by rw[ex];simp only[ŗ];rw[<-ŗ ĳh,Ũa,<-ŗ ÿl,Ũa]) (by rw[í,ìa,L,Îb ĝd];rfl) r1.length_eq.symm
  rw[this];simp only[ŗ];have a:(Õn).Perm (ÿh k++Őe++Ļl e):=Ĺi _ (Ņi _ r1);rw[<-ŗ ÿl Āl,Ũa,ŗ X,Ũa]at a;exact a;have m:∀q∈r.toList,q∈ıf k\/q∈Ēf e:=λq f=>Ăa (r1.mem_iff.mp f)
  have tX:=Ũa k X;have tY:=Ũa e Y;have I:=H;have J:=O;rw[<-tX]at I;rw[<-tY]at J;refine Ög ⟨Ög ⟨(ðc I).1,r2,λp j q f=>?_⟩,(ðc J).2.1,λp j q f=>?_⟩;rcases m q f with z|z;exact(ðc I).2.2 p j q z;exact îb (d1 p j) (N q (Řd z));rcases Ăa j with j|j;exact îb (d1 p j) (N q (ŀe f));rcases m p j with z|z;exact îb (xl_ p (ŀe z)) (f2 q f);exact(ðc J).2.2 p z q f
 have A1:u4 Ñg:=bX S λp j=>by rw[B]at j;rw[ex];exact Ëb _ (ţd _ (ŀe j))
 have A2:u4 Æg:=bX S λp j=>by rw[G]at j;rw[ex];exact Ëb _ (Ëb _ (ţd _ (Řd j)))
 have z1:(Ñg).size=Èa-k:=by rw[<-Ŭ,B,Ąb]
 have z2:(Æg).size=e:=by rw[<-Ŭ,G,ìa,Îb W]
 have sX':(Āl).Pairwise yY:=Ŵn (List.drop_sublist _ _) H;have sY':(ĳh).Pairwise yY:=Ŵn őn O;have b0:Æg[0]?=À o:=Ox (P:=[]) (R:=v.take (e-1)) (by rw[G,<-eY];obtain⟨n,rfl⟩:∃n,e=n+1:=⟨e-1,by omega⟩;rfl) rfl;have al:Ñg[Èa-k-1]?=À l:=Ox (P:=u.drop k) (R:=[]) (by rw[B,<-eX,List.drop_append_of_le_length Å]) (by rw[Ąb];omega);generalize òf (d+k) (d+Èa)=xx at *;generalize òf (d+Èa) (d+Èa+e)=yy at *;refine xW (λ_=>æ (x86 (t:=ıf k++Ēf e) A1 A2 Å b0 ?_ ?_ λr g hr=>U r g hr)) λ_=>æ (x85 (t:=ıf k++Ēf e) A1 A2 Å (y:=l) ?_ ?_ ?_ λr g hr=>U r g hr);have a0:wA Őe xx yy #[] 0 0:=⟨by rw[<-B,<-G];exact Œe _,B▸sX',G▸sY'⟩;exact a0.pb b0 λq f=>ća Ūp;intro q f p j;rw[z1,Cv al,Ûd şe]at j;rw[ëa j];exact ća (f1 q (G▸f));rw[z1];exact al;have a0:wJ Őe xx yy #[] ëq yy.size:=by have t1:xx.toList.take ëq=xx.toList:=şd şe;have t2:yy.toList.take yy.size=yy.toList:=şd (by rw[Ŭ];exact Øa _);unfold wJ;rw[t1,t2,B,G];have pz:=List.Perm.append (ŵi Āl) (ŵi ĳh);exact⟨pz,Ği sX',Ği sY'⟩
 exact a0.pa (by rw[z1];exact al) λq f=>ća (f1 q (G▸Řd f));intro q f p j;rw[R9 b0]at j;rw[ëa j];exact ća Ūp
#print a
def vw:Nat->Á Ŭa->Á Ö->Prop
 |_,[],L=>L=[]|n,r::p,L=>r.1=n/\∃X M,L=X++M/\Èa=r.2.1/\X≠[]/\ík yY/\vw (n+r.2.1) p M
theorem lV:∀{p q:Á Ŭa} {n:Nat} {L:Á Ö},vw n (p++q) L->∃M N,L=M++N/\vw n p M/\vw (n+ăh) q N
 | [],q,n,L,h=>⟨[],L,rfl,rfl,h⟩|r::p,q,n,L,h=>by obtain⟨e,X,M,rfl,c,f,d,g⟩:=h;obtain⟨M,N,rfl,a,b⟩:=lV g;exact⟨X++M,N,(ŗ ..).symm,⟨e,X,M,rfl,c,f,d,a⟩,by rw[í,c,<-Àf];exact b⟩
theorem KZ:∀{p q:Á Ŭa} {n:Nat} {M N:Á Ö},vw n p M->vw (n+ăh) q N->vw n (p++q) (M++N)
 | [],q,n,M,N,h,h2=>by rw[show M=[]from h]at h2 ⊢;exact h2|r::p,q,n,M,N,h,h2=>by obtain⟨c,X,M,rfl,a,d,b,e⟩:=h;exact⟨c,X,M++N,ŗ ..,a,d,b,KZ e (by rw[í,a,<-Àf]at h2;exact h2)⟩
theorem lW:∀{p:Á Ŭa} {n:Nat} {L:Á Ö},vw n p L->ŵk<=ża
 | [],n,L,h=>Áa _|r::p,n,L,h=>by obtain⟨d,X,M,rfl,e,a,c,b⟩:=h;have:=lW b;have:=Įi a;rw[í,ĕ];omega
theorem lZ{F:Nat×Nat×Nat->Nat×Nat×Nat}(a:∀r,(F r).1=r.1/\(F r).2.1=r.2.1):∀{p:Á Ŭa} {k n:Nat} {L:Á Ö},vw n p L->vw n (p.modify k F) L
 | [],0,n,L,h=>h| [],_+1,n,L,h=>h|r::p,0,n,L,h=>by obtain⟨c,X,M,rfl,e,d,b,f⟩:=h;exact⟨(a r).1.trans c,X,M,rfl,Ŵc (a r).2.symm,d,b,(a r).2▸f⟩
 |r::p,k+1,n,L,h=>by obtain⟨c,X,M,rfl,e,d,b,f⟩:=h;exact⟨c,X,M,rfl,e,d,b,lZ a f⟩
def y8y{x y:Ø Ö}{L R:Á Ö}{lo m:Nat}(ex:ũc=L++R)(o:ża=lo)(l:∀k,k<lo->y[k]?=x[k]?)(f:gI y lo m)(n:lo+m<=ėe):∃X M,ėb=L++Řf/\Èa=m/\ík yY:=by
 have e:y.toList.take lo=L:=by
  refine Ŷd λk=>?_
  rw[ıo]
  split;rename_i d;rw[þb,l k d,<-þb,ex,ıb Å];rw[Űb Å]
 have c:(ěj).length=m:=by rw[ìa,Ąb,Ŭ];omega
 refine⟨(ÿi).take m,(ÿi).drop m,?_,c,List.pairwise_iff_getElem.mpr λi j b h a=>?_⟩;rw[Ũa,<-e,Ũa];have g:∀i (b:i<(ěj).length),K y êb=wX ěj[i]:=by intro i b;have e:y[lo+i]?=À y[lo+i]:=getElem?_pos _ _ Å;unfold K;rw[e,Ŧo,ŧo,ťd];rfl
 have:=f i j (õa a) Å;rw[g i b,g j h]at this;exact this
def z2b{x y:Ø Ö}(h:(Żo).Nodup)(p:æb x):mo y:=by
 have n:(źo).Nodup:=((ďi p).map wX).nodup_iff.mpr h;intro i j a b e
 have g:∀i (a:i<ėe),źo[i]?=À (K y i):=by intro i a;have e:y[i]?=À y[i]:=getElem?_pos y i a;rw[ş,þb];unfold K;rw[e];rfl
 exact(List.getElem?_inj (by rw[ä,Ŭ];exact a) n).mp (by rw[g i a,g j b,e])
section
variable{Ĝ:å}{w:ß}{A:ø}{E:Value->Ë->Prop}{s:Ë}
def n_{x:Ø Ö}{p:Ø Ŭa}{g i:Nat}{L R:Á Ö}{Q:Ì->û->Prop}(H:u4 x)(ex:ũc=L++R)(n:vw 0 Ėf L)(hi:i+1<ōh)(h:∀y q g M,ėb=M++R->M.Perm L->vw 0 Îc M->Żc+1=ōh->Q Ã ód):wpS è A E s (øh i) Q řp:=by
 have C:p.toList.length=ōh:=Ŭ;obtain⟨⟨sa,S,U⟩,⟨K,J,z⟩,a⟩:∃r1 r2,Ėf=Ħj i++r1::r2::ħj (i+2):=⟨Ėf[i],Ėf[i+1],by rw[<-Ůb,<-Ůb,Ũa]⟩;have j:(Ħj i).length=i:=by rw[ìa];omega
 have k:(ħj (i+2)).length=ōh-(i+2):=by rw[Ąb,C]
 generalize Ħj i=p1 at a j;generalize ħj (i+2)=p2 at a k;rw[a]at n;obtain⟨P,N,rfl,B,u⟩:=lV n;obtain⟨d,X,N,rfl,o,v,r,f,Y,N,rfl,m,I,G,b⟩:=u;dsimp only at d o f m b;obtain⟨O,T,rfl⟩:=(List.eq_nil_or_concat X).resolve_left v;rw[List.concat_eq_append]at *;obtain⟨W,Y',rfl⟩:=List.exists_cons_of_ne_nil I;subst o m;rw[Ő]at d f;subst d;subst f;refine x84 H a j (P:=P) (R:=N++R) (by rw[ex];simp only[ŗ]) rfl r G λy q g Z F c t l=>h y q g (P++(Z++N)) (by rw[F];simp only[ŗ]) ?_ ?_ ?_;refine Ņi _ ((Ĺi N c).trans ?_);rw[ŗ];rw[l];refine KZ B ⟨(Đl).symm,Z,N,rfl,c.length_eq.trans (í ..),?_,t,?_⟩;intro e;rw[e]at c;have:=c.length_eq;rw[í,ĕ]at this;cases this;rw[Ő]at b ⊢;rw[Àf]at b;exact b;have:=Ëa Öe l;rw[Ŭ,í,ĕ,j,k]at this;omega
abbrev Ps:=Ċb (Æ ņa×Nat)
noncomputable def Pr(lo n:Nat):ŋ û Sem Ps:=do
 ĭd λs=>Šc ąd Ďd ((Ÿc).push (lo,n,0)) ťj þd
 pure (.yield (Ä,lo+n))
noncomputable def B1{β:Type}(r:Æ Ŭa)(f:Nat->Nat->Nat->ŋ û Sem β)(g:ŋ û Sem β):ŋ û Sem β:=(sortPriv% PySem.Builtin.sortRuns.match_1) íg r f λ_=>g
def mv(N lo n:Nat)(g:Nat->Nat->Nat):ŋ û Sem Ps:=do
 let d <-get
 B1 (Ļf).back? (λe f _=>do
  let r <-ťb [:N] ((Ä,()):Æ ņa×ņa) λ_ _=>do
   let d <-get
   B1 (if(Ļf).size>1 then Ļf[(Ļf).size-2]? else Ä) (λ_ _ a=>
    if a<=g e f then pure ïp else do
     let b <-øh ((Ļf).size-2)
     if(!b)=Ã then pure (.done (À (),()))else pure (.yield (Ä,()))) (pure ïp)
  Ij r.1 (λr=>pure (.done (À r,lo))) do
   let _ <-ĭd λs=>Šc ąd Ďd ((Ÿc).modify ((Ÿc).size-1) λx=>(sortPriv% PySem.Builtin.sortRuns.match_3) (λ_=>Nat×Nat×Nat) x λst c _=>(st,c,g e f)) ťj þd
   Pr lo n) (Pr lo n)
inductive Pt(X M L:Á Ö):Æ ņa×ņa->û->Prop
 |mk {y q g N}:ėb=N++Řf->N.Perm L->vw 0 Îc N->Pt X M L (Ä,()) ód
def x89{x y:Ø Ö}{q:Ø Ŭa}{g k lo N:Nat}{L X M:Á Ö}{H:Nat->Nat->Nat}{Q:Ps->û->Prop}(G:u4 x)(B:æb x)(o:vw 0 Îc L)(t:ża=lo)(m:ėb=L++Řf)(n:Èa=k)(z:ík yY)(hk:1<=k)(h:∀y q g L,ėb=L++M->ża=lo+k->vw 0 Îc L->æb x->Q (.yield (Ä,lo+k)) ód):wpS è A E s (mv N lo k H) Q ód:=by
 have u:∀{f:Ø Ö}{b},żk=b++Řf->ĺl L->f.Perm x:=λe1 e2=>Array.Perm.trans (Ín (by rw[e1,m];exact Ĺi _ e2)) B
 have j:∀{f:Ø Ö}{a:Ø Ŭa} {l b},żk=b++Řf->ĺl L->vw 0 þh b->wpS è A E s (Pr lo k) Q (yT f a Ä l):=by intro f a l b e1 e2 d;refine æ (Δa (ô (h _ _ _ (b++X) (by rw[ŗ];exact e1) (by rw[í,ďq,t,n]) ?_ Čs)));show vw 0 (a.push (lo,k,0)).toList _;rw[źi];exact KZ d ⟨by rw[Ő,ďq,t],X,[],(ſ _).symm,n,λe=>ŀb hk (n▸Ëa Öe e),z,rfl⟩
 refine æ ġf;show wpS _ _ _ _ (B1 q.back? _ _) _ _;cases q.back? with
 |Ä=>exact j m ĉl o|À r=>
  refine æ (θa (Ĺc (I:=λ_=>Pt X M L) (Q:=Pt X M L) ?_ (λ_ _ h=>h) (.mk m ĉl o)));rintro _ _ _ _ _ ⟨e1,e2,d⟩;rename_i f a l b;refine æ ġf;show wpS _ _ _ _ (B1 (if ń>1 then a[ń-2]? else Ä) _ _) _ _;by_cases c:ń>1;rw[Ï c];cases a[ń-2]? with
  |Ä=>exact ô ľj|À r=>exact xW (λ_=>ô ľj) λ_=>æ (n_ (p:=a) (i:=ń-2) (J4 G Čs) e1 d Å λJ K O M2 F C v P=>ô (.mk F (C.trans e2) v))
  rw[Ð c];exact ô ľj;rintro _ _ ⟨e1,e2,d⟩;refine æ (Δa (j e1 e2 ?_));show vw 0 (Array.modify _ _ _).toList _;rw[Array.toList_modify];refine lZ ?_ d;exact λ⟨_,_,_⟩=>⟨rfl,rfl⟩
inductive B6(x:Ø Ö)(z:Nat):Æ ņa×Nat->û->Prop
 |mk {lo y q g L R}:ėb=L++R->ża=lo->vw 0 Îc L->æb x->z<=lo->B6 x z (Ä,lo) ód
def x88{x:Ø Ö}{g:Nat}{Q:ņa->û->Prop}(C:u4 x)(hd:(Żo).Nodup)(h:∀y q g,æb x->y.toList.Pairwise yY->Q () ód):wpS è A E s Ŭr Q (yT x #[] Ä g):=by
 unfold Ŭr;refine æ ġf;refine æ (θa (Ĺc (I:=λz=>B6 x z) (Q:=λc st=>c.1=Ä/\∃y q g,st=yT y q Ä g/\vw 0 Îc ėb/\æb x) ?_ ?_ (.mk (L:=[]) (R:=ũc) rfl rfl rfl ąl Ē)));rintro z _ _ _ hz ⟨i,p,d,a,l⟩;rename_i lo y q g L R;have H:=Ĭk;have ll:ėe=lo+Ðc:=by rw[<-Ŭ,i,í,p]
 refine xW äh λc=>?_;have:R=[]:=ěi (by dsimp only at c;omega);subst this;rw[ſ]at i;exact ô ⟨rfl,y,q,g,rfl,i▸d,a⟩;replace c:lo<Ča:=by dsimp only at c;omega
 refine æ (x7y (lo:=lo) (n:=Ča-lo) (J4 C a) (z2b hd a) Å Å λm y1 F U G u S=>?_);have Z:=J4 C þr;have z1:=(þr).size_eq
 have O:∀{k f P},1<=k->lo+k<=Ča->f.Perm y->(∀j,j<lo->f[j]?=y[j]?)->gI f lo k->wpS è A E s (mv Ča lo k P) (λr st=>jU Àm ŝn r) (yT f q Ä g):=by intro k f P T h4 B o J;obtain⟨X,M,eY,lX,sX⟩:=y8y (m:=k) i p o J (by rw[(þl a).size_eq];exact h4);exact x89 C (þl a) d p eY lX sX T λy q g L e1 e2 e3 e4=>.mk e1 e2 e3 e4 (ņp l T)
 refine ĳe (Q:=λr st=>jU Àm ŝn r) ?_ λr st h=>by cases r<;>exact h
 refine xW (λt=>æ (Οa (x7x (lo:=lo) (n:=min (Ča-lo) (minRun' Ča Ča 0)) (ok:=m) Z ?_ ?_ S λf B o J=>xW (λc=>nomatch c) λ_=>O ?_ ?_ (þl F) (λk N=>(o k N).trans (U k N)) J))) λt=>O G Å F U S;omega;exact Ćj ⟨u,õa t⟩;exact Ćj ⟨Ğ G u,Ğ G (õa t)⟩;exact Ğ (ßd (Nat.min_le_left ..) _) čp;rintro _ _ ⟨i,p,d,a,l⟩;rename_i lo y q g L R;have H:=Ĭk;have ll:ėe=lo+Ðc:=by rw[<-Ŭ,i,í,p]
 have:R=[]:=ěi (by dsimp only at l;omega);subst this;rw[ſ]at i;exact⟨rfl,y,q,g,rfl,i▸d,a⟩;rintro⟨_,lo⟩ _ ⟨rfl,y,q,g,rfl,d,a⟩;refine æ (θa (Ĺc (I:=λz c st=>c=(Ä,())/\∃y q g,st=yT y q Ä g/\vw 0 Îc ėb/\æb x/\(Żc<=1\/Żc+z<=Ča)) (Q:=λc st=>c=(Ä,())/\∃y q g,st=yT y q Ä g/\vw 0 Îc ėb/\æb x/\Żc<=1) ?_ ?_ ⟨rfl,y,q,g,rfl,d,a,.inr ?_⟩));rintro z _ _ _ hz ⟨rfl,y,q,g,rfl,d,a,v⟩;refine æ (ŭf (ψ (λc=>ô ⟨rfl,y,q,g,rfl,d,a,c⟩)))
 replace c:¬ Żc<=1:=c
 refine æ (n_ (J4 C a) (ſ _).symm d ?_ λf o Y M K t W c4=>?_);have:∀(b:Prop) [És b],(if b then Żc-2-1 else Żc-2)+1<Żc:=λb _=>by split<;>omega
 exact this _;rw[ſ]at K;refine ô ⟨rfl,f,o,Y,rfl,K▸W,(Ín (K▸t)).trans a,.inr Å⟩;rintro _ _ ⟨rfl,y,q,g,rfl,d,a,v⟩;exact⟨rfl,y,q,g,rfl,d,a,by rw[śj]at v;dsimp only at v;omega⟩;have:=lW d;rw[Ŭ,Ŭ,Ĭk]at this;exact this;rintro _ _ ⟨rfl,y,q,g,rfl,d,a,v⟩;refine ô (h y q g a ?_)
 match e:Îc,d,(Ŭ (xs:=q))with
 | [],d,_=>rw[show ėb=[]from d];exact Ÿi| [r],d,_=>obtain⟨_,X,M,e,_,_,h5,h6⟩:=d;rw[e,show M=[]from h6,ſ];exact h5
 |_::_::_,_,u=>simp only[ĕ]at u;omega
def y9o(l:Ą a=À (çe Ġ őa n))(k:Ýc vs ns)(F:ns.Nodup)(hz:Ā<=á)(h:∀(out:Ø Value)(b:Á Int),Ýc Ďr b->ĺl ns->Ĕr (·<=·)->P (.done Şq) { s with ç:=sortedHeap Ý a vs out }):Ù è A (Builtin.«list.sort» ⟨úa,[]⟩) P E s:=by
 by_cases h64:Ā<64;exact list_sort_tree l k h64 h
 obtain⟨f,m,r,rfl⟩:∃f m r,vs=f::m::r:=by
  match vs,h64 with
  | [],h=>exact Ú È h| [_],h=>exact Ú (show 1<64 by decide) h|f::m::r,_=>exact⟨f,m,r,rfl⟩
 generalize e:f::m::r=vs at *;have o:¬ vs.toArray.size<2:=by rw[ģ];omega
 have u:a<Û:=ħ l;obtain⟨c,B⟩:∃c,(ſl).get? a=À ċp:=⟨_,get?_update_seq l Ħr⟩
 have v:((øn).push ðj).get? a=À ċp:=by rw[Ũo _ _ _ (by rw[ċr,Üp];exact Ça (ųd u)),Ũo _ _ _ (by rw[Üp];exact Ça u)];exact B
 rw[list_sort_plain];refine Ò (listItems_at l rfl (Ò (Æq l rfl (hsz:=by rw[ģ];exact hz) ?_)));refine Ò (Ŭq B rfl (Ò (Ļp ?_ (by exact hz))));refine Ò (ři (ÿb ?_));show Ù è A _ P E { s with ç:=(øn).push ðj };rw[Ð o,Ð o,<-e,keyKind_ints (e▸k),e];refine Ò (Ιa (ĝa (x88 (x:=pairsOf vs) (g:=7) (Q:=λ_ st=>(ņr).Perm Ťj/\failedOf st=Ä/\SortedTo ņr (Ťj).size) ?_ ?_ ?_) ?_ λ_ _ e=>e));intro i p d;exact k.intKeys p (øi (ąi d));have:(Ťj).toList.map wX=ns:=by rw[pairsOf_toList,show wX=numOf∘Prod.fst from rfl,<-Ĉb,Õj Ē,k.nums]
 rw[this];exact F;intro y q g d t;refine⟨d,rfl,λi j N O=>?_⟩;have z:=d.size_eq;have G:y[i]?=À y[i]:=getElem?_pos y i Å;have J:y[j]?=À y[j]:=getElem?_pos y j Å;unfold K;rw[G,J];by_cases c:i=j;subst c;exact Ĥa _;have:=çn t i j şe şe Å;rw[ťd,ťd]at this;exact this;rintro⟨⟨⟩,st⟩ _ ⟨rfl,d,H,t⟩;dsimp only;refine Ò (Ŭq v rfl (Ò (Æq v rfl ?_ (hsz2:=by refine Ğ (Àc ((Array.size_map ..).trans (d.size_eq.trans (pairsOf_size _)))) (Ŵi hz)))));rw[H];simp only[bne_self_eq_false,Ĺb,ða];obtain⟨b,C,I,L⟩:=sorted_out k d t;exact ĝ (h _ b C I L)
def y9p(B:Ìc=Ä)(lo:ąa=Â)(n:ĥj Ŵa a kvs ep)(hk:Ĉe (·.1)=Ōa Ía)(hz:Ùa<=á)(h:∀h' tk p out c ns',Û<=p->ġ p=À (çe Ġ out c)->Ýc Ďr ns'->ns'.Perm ns->ns'.Pairwise (·<=·)->(∀b ob,Ą b=À ob->ġ b=À ob)->Q Êa { s with ç:=h',Ė:=tk }) :Ù è A (Çb Ĳg úa) Q E s:=by
 have l:ĺ=Ùa:=by
  have:=Ëa Öe hk
  rwa [ä,ä]at this
 have x:ns.Nodup:=by have:=n.nodup;rw[hk]at this;exact(List.pairwise_map.mp this).imp λh z=>h (Ëa _ z)
 refine Calls.call_function_entry kind_sorted plain_sorted entry_sorted (args_sorted1 _) ?_;unfold Builtin.«sorted»;refine Ò (m:=checkCount Èc 1 1 _) (Ιa (z1a ŧj lo n (l▸hz) λg tk d k q i o=>Ò (ři ?_ Åo)));have r:=z5x d kvs ns k hk q;have j:(g.push Źn).get? Ųq=À Źn:=ū _ rfl;refine Ò (ÿb (Ŕd slot_list_sort ⟨_,j,rfl⟩ entry_list_sort (y9o j r x Åo λout ns' v u t=>⟨_,rfl,?_⟩) (args_list_sort _)));obtain⟨c,y⟩:=sortedHeap_at (vs:=d) (out:=out) j;refine ĝ ⟨_,rfl,h _ tk Ųq out c ns' (õa i) y v u t λb ob e=>?_⟩;have f:=ħ Ľr;rw[sortedHeap_old (vA (Ça f)) (by rw[ċr];exact ųd f)];exact Ī _ Ľr
#print a
section
variable{X:Cx}
def y6n:Á V->Hp->VK->Prop:=λb H Q=>∃(a:É) (kvs:Á ż) (ns:Á Int),b=úa/\Rd H a Ł/\Ĉe (·.1)=Ōa Ía/\Ùa<=á/\∀l,H l=Ä->Q Űc Ĭq
def z12(b:Ž=Ã):vY X Ĳg y6n:=by
 intro T s σ H S R Q I r h;obtain⟨a,B,d,rfl,O,k,j,q⟩:=h;obtain⟨u,rfl,y⟩:=tQ r;cases(show u=Ċ a from y);obtain⟨_,C,z,g,o,P,A,n,L,F,K,v,m⟩:=kz Ĕ O;have l:ĥj Ăc a z A:=⟨o,P,n,L,F,K,v,m⟩;refine y9p (Ùb b) C l ((Gx g).trans k) j λh' N p f c e i x t J E G=>?_
 obtain rfl:e=Īc d:=Pp (J.trans (şc d).symm) E (Gj d);refine⟨.ref p,_,ġb (t':=N) (h':=h') G i (show xT ó X.w _ _ _ (Ε ((Īc d).map Ľd))from⟨?_,żk,c,Gg t,?_⟩),rfl,q _ (źb i)⟩;rw[ä,(şc d).length_eq];exact j;rw[Òo];exact x
#print a
#print L2
namespace L3
open Ħ Ķ ī L2
def EI:Á D->Æ D
 | [.dic ks _]=>(Uq ks).bind λa=>À Ćo|_=>Ä
def y99(f:Ž=Ã)(u:Gl X Èc)(r:ð Èc=Ä)(s:SA X [e] fs)(n:Ê ļa q12) :SF X ăo (eL EI fs):=by
 obtain⟨t,z,k⟩:=s.h;refine⟨⟨_,(Mb (p:=p) (pos:=pos) (z12 f) u r cB ⟨z⟩ È È ąg).h,λ{N L G H τ σ d Q} E c q=>?_⟩⟩;obtain⟨C,B,c⟩:=zJ c;refine k E B λJ I K g F=>?_
 match C,c with
 | [.dic ks xs],c=>
  obtain⟨i,j,c⟩:=zJ c;cases c;obtain⟨v,rfl,a,o,rfl,w,x,y,l⟩:=jS F
  have m:Úb<=á:=by have:=Àk y;rw[Gq j,ä]at x;omega
  refine⟨a,Ŋf o,i,rfl,Ųc g.gh w,?_,m,λA b=>?_⟩;rw[<-Gq j];exact Õj Å;refine q A _ _ (ġd (ìb g.gh b)) (g.h.free b) (žr b) ⟨_,ya,õf,?_⟩;rw[ä,(şc i).length_eq];exact m
def Gn(K:Í)(x:Str):Prop:=ű K ė x=À Ä
def Gs(K:Í)(x:Str)(v:Value):Prop:=ű K ė x=À æa
def Tq(K:Í)(d:Æ É)(a:É)(vs:Á Value):Prop:=∃n sl,Ź a=À ⟨.type Ŧ,d,.seq őa n,sl⟩
def Tp(K:Í)(a:É)(vs:Á Value):Prop:=∃d,Tq K d a vs
def Dc(K:Í)(w:ß)(a:É)(l:Á čg):Prop:=(∃n,Ź a=À { cls:=.type Ż,Ć:=.dict (Ìm).toArray n })/\ąa=Â
noncomputable def vD:Á Value->Æ ŕp
 | []=>À ([],[])|.int i _::r=>(ťh).bind λp=>À (.int i::p.1,.int i::p.2)|.str s _::r=>match ŵc ūc 1000 with
  |Ã=>(ťh).bind λp=>À (.str s::p.1,.str s::p.2)|Â=>Ä
 |_=>Ä
def vT(vs:Á Value):Æ ŕp:=match ŵc Ā 1000 with
 |Ã=>vD vs|Â=>Ä
noncomputable def vU:Á Value->Æ (Á V)
 | []=>À []|.ref a::r=>(vU r).bind λp=>À (.ref a::p)|_=>Ä
section
variable{K:Í}{w:ß}{h:Heap}{mg:Str->Æ Value}{a:É}{x:Str}{v:Value}{d:Æ É}{n:Nat}{i:Int}{t:Tok}{s:Str}{sl:Ø ųa}{xs:Á Str}{vs:Á Value}{us:Á V}{ds:Á D}{l:Á čg}
def gn_mk(h:ű K ė x=À Ä):Gn K x:=h
def gs_mk(h:ű K ė x=À æa):Gs K x v:=h
def tq_mk(h:Ź a=À ⟨.type Ŧ,d,.seq őa n,sl⟩):Tq K d a vs:=⟨_,_,h⟩
def tp_mk(h:Ź a=À ⟨.type Ŧ,d,.seq őa n,sl⟩):Tp K a vs:=⟨_,_,_,h⟩
def dc_mk(h:Ź a=À { cls:=.type Ż,Ć:=.dict (Ìm).toArray n })(q:ąa=Â):Dc K w a l:=⟨⟨n,h⟩,q⟩
def qo(X:Ŕ h)(G:ťa ė mg)(g:Gn K x):mg x=Ä:=W.mg_none_of X G g
def Z2(X:Ŕ h)(G:ťa ė mg)(g:Gs K x Ś):wp mg x Ś:=⟨_,ģd X G g,rfl⟩
def X6(X:Ŕ h)(G:ťa ė mg)(g:Gs K x Åh):wp mg x üa:=⟨_,ģd X G g,⟨_,rfl⟩⟩
theorem VL:∀{vs:Á Value}{us:Á V}{ds:Á D},vD vs=À (us,ds)->zm us vs/\∀H,Þ K H ds us
 | [],_,_,e=>by cases e;exact⟨.nil,λ_=>rfl⟩|.int i t::r,_,_,e=>by obtain⟨p,e1,e⟩:=zJ (show(ťh).bind _=_ from e);cases e;obtain⟨b,c⟩:=VL e1;exact⟨.cons ⟨_,rfl⟩ b,λH=>⟨_,_,rfl,rfl,c H⟩⟩
 |.str s t::r,_,_,e=>by
  cases z:ŵc ūc 1000 with
  |Â=>rw[show vD Ăq=match ŵc ūc 1000 with|Ã=>_|Â=>Ä from rfl,z]at e;cases e
  |Ã=>rw[show vD Ăq=match ŵc ūc 1000 with|Ã=>_|Â=>Ä from rfl,z]at e;obtain⟨p,e1,e⟩:=zJ (show(ťh).bind _=_ from e);cases e;obtain⟨b,c⟩:=VL e1;exact⟨.cons ⟨_,rfl⟩ b,λH=>⟨_,_,rfl,⟨rfl,Ŧb Ĥn⟩,c H⟩⟩
theorem nU:∀{vs:Á Value}{us:Á V},vU vs=À us->zm us vs
 | [],_,e=>by cases e;exact .nil|.ref a::r,_,e=>by obtain⟨p,e1,e⟩:=zJ (show(vU r).bind _=_ from e);cases e;exact .cons rfl (nU e1)
def BF(g:Tq K d a vs)(e:vT vs=À (us,ds))(H:Hp):zZ K H éh Ś:=by
 obtain⟨n,sl,g⟩:=g;cases z:ŵc Ā 1000 with
 |Â=>rw[show vT vs=match ŵc Ā 1000 with|Ã=>_|Â=>Ä from rfl,z]at e;cases e
 |Ã=>rw[show vT vs=match ŵc Ā 1000 with|Ã=>_|Â=>Ä from rfl,z]at e;obtain⟨b,c⟩:=VL (K:=K) e;have q:=Ŧb Ĥn;exact⟨a,us,rfl,z1c g q b H,c H,by rw[<-(c H).length,Ãa];exact q⟩
def vV(g:Tp K a vs)(e:vT vs=À (us,ds))(H:Hp):zZ K H éh Ś:=let ⟨_,g⟩:=g;BF g e H
def RD(g:Tq K Ä a vs):Dz K a:=let ⟨_,_,g⟩:=g;⟨_,g,rfl,rfl⟩
theorem JI:∀l:Á čg,ja w (Åa λp=>(⟨ńp w.params p.1,.str p.1 p.2.1,p.2.2⟩:Ëc)) (Åa (·.1)) (Åa (·.2.2))
 | []=>.nil|_::l=>.cons Ųh
def cQ(g:Dc K w a l)(e:vU (Åa (·.2.2))=À us)(c:Ĕd)(ex:Åa (·.1)=xs)(b:∀H,Þ K H ds us):tU K w a ød ds:=by obtain⟨⟨n,g⟩,q⟩:=g;subst ex;exact dM g Ųh c q (nU e) b
def LN(g:Dc K w a l)(e:vD (Åa (·.2.2))=À (us,ds))(b:Ĕd)(ex:Åa (·.1)=xs):tU K w a ød ds:=by obtain⟨⟨n,g⟩,q⟩:=g;subst ex;exact dM g Ųh b q þq.1 (VL e).2
def Co(g:Dc K w a l)(e:vD (Åa (·.2.2))=À (us,ds))(b:Ĕd)(ex:Åa (·.1)=xs):j7 K w a ød us:=by obtain⟨⟨n,g⟩,q⟩:=g;subst ex;exact z2w g Ųh b q þq.1
def Cp(_:Dc K w a l)(e:vD (Åa (·.2.2))=À (us,ds)):∀H,Þ K H ds us:=(VL e).2
#print a
abbrev HD(x:Str)(ps:Á Str)(k:Nat)(F:Á D->Æ â)(P:å)(w:ß)(K:Í)(mg:Str->Æ Value)(Ç:Heap):Prop:=vL P w K mg Ç x ps k ģf
section
variable{X:Cx}{e:Ñ}
def iB(a:PE X e s)(b:PE X e t):PE X e (λσ H Q=>s σ H Q\/t σ H Q):=λc z σ H Q I h=>by rcases h with h|h;exact a c z σ H Q I h;exact b c z σ H Q I h
noncomputable def tH(f g:FE):FE:=λτ=>match f τ with
 |À d=>À d|Ä=>g τ
def ZM(a:SE X e f)(b:SE X e g):SE X e (tH f g):=by
 obtain⟨s,c,k⟩:=a.h;obtain⟨t,i,j⟩:=b.h;refine⟨⟨_,iB c i,λ{m l G H τ σ d Q} E h q=>?_⟩⟩;unfold tH at h;cases z:f τ with
 |À x=>rw[z]at h;cases h;exact .inl (k E z q)|Ä=>rw[z]at h;exact .inr (j E h q)
noncomputable def qk(f g:wL):wL:=λβ=>match f β with
 |À d=>À d|Ä=>g β
def XH(a:MC X e f)(b:MC X e g):MC X e (qk f g):=by
 obtain⟨s,c,j⟩:=a.h;obtain⟨t,d,i⟩:=b.h;refine⟨⟨_,iB c d,λ{P l k G H β β' σ m Q} E h q=>?_⟩⟩;unfold qk at h;cases z:f β with
 |À x=>rw[z]at h;cases h;exact .inl (j E z q)|Ä=>rw[z]at h;exact .inr (i E h q)
#print a
def WL(K:Í)(m q:Str)(st:Õ)(ps:Á Str)(f:É):Prop:=İd K Į=Ã/\ùa K Į=Ã/\∃fd,wn K m q st f fd/\vX K fd ps []
def Zk(K:Í)(m:Str)(f:É)(c:Str):Prop:=∃C,ű K ė c=À ĕa/\t8 K C/\Řa K ő m=À Ĕb
def gY(K:Í)(c d m q:Str)(st:Õ)(ps:Á Str):Prop:=∃f,Zk K m f c/\Zk K m f d/\WL K m q st ps f
def UM(K:Í)(c q:Str)(st:Õ)(ps:Á Str):Prop:=∃C f,ű K ė c=À ĕa/\Òh K C=Ã/\Řa K ő Öb=À Ĕb/\ùa K ő=Ã/\WL K Öb q st ps f
def Og(K:Í)(c m q:Str)(st:Õ)(ps:Á Str):Prop:=∃C f,ű K ė c=À ĕa/\Żj K ő Ũi=À êi/\İk K C ıg=Ã/\ık K ő ıg m=À ĉk/\WL K m q st ps f
def j6(K:Í)(x:Str)(st:Õ)(f:É):Prop:=ű K ė x=À Ĕb/\zQ K x st
section
variable{K:Í}{w:ß}{mg:Str->Æ Value}{h:Heap}{c d m q x:Str}{st:Õ}{ps xs ns:Á Str}{f a:É}{C D:É}{sp:Sp}{k:Nat}{l:Á čg}{fs:Á É}
def cls_mk(a:äf K C Ãs=Ã)(c:Řg K C=Ã)(b:żj K C=Ã)(d:Řa K ő ģj=À ði):t8 K C:=⟨a,c,b,d⟩
def mdp_mk{j:Value}{n h:Æ É}{o:Ø ųa}{d kV g c a ct:Value}(i:İd K Į=Ã)(l:Ź f=À ⟨j,n,.func ęm,o⟩)(e:Řb K a q=Ã)(k:ùa K Į=Ã)(b:vX K ęm ps []):WL K m q st ps f:=⟨i,k,_,dF l e k,b⟩
def mtc_mk(n:ű K ė c=À ĕa)(a:t8 K C)(g:Řa K ő m=À Ĕb):Zk K m f c:=⟨C,n,a,g⟩
def mtp_mk(a:Zk K m f c)(b:Zk K m f d)(e:WL K m q st ps f):gY K c d m q st ps:=⟨f,a,b,e⟩
def mkp_mk(n:ű K ė c=À ĕa)(a:Òh K C=Ã)(g:Řa K ő Öb=À Ĕb)(b:ùa K ő=Ã)(e:WL K Öb q st ps f):UM K c q st ps:=⟨C,f,n,a,g,b,e⟩
def cmp_mk(n:ű K ė c=À ĕa)(b:Żj K ő Ũi=À êi)(a:İk K C ıg=Ã)(g:ık K ő ıg m=À ĉk)(e:WL K m q st ps f):Og K c m q st ps:=⟨C,f,n,b,a,g,e⟩
def fnq_mk{g j:Æ É}{h:Ø ųa}{e kV i d b ct:Value}(a:ű K ė x=À Ĕb)(l:Ź f=LZ x st e g h kV i d j b ct)(c:Řb K b x=Ã)(k:ùa K Į=Ã):j6 K x st f:=⟨a,fnp_mk a l c k⟩
def bm(b:∀s us,Ŕ Ý->Ţ=ù->áb s fd ⟨us,[]⟩ Śc):vX K fd ps []:=λs us c a=>by rw[ſ]at a ⊢;exact b s us c a
def gY.hh(a:gY K c d m q st ps)(P:å)(w:ß)(mg:Str->Æ Value)(e:Heap)(ok:∀{f fd},wn K m q st f fd->xH P w K mg e xC k f fd ps sp):vf P w K mg e c m ps k sp/\vf P w K mg e d m ps k sp:=by obtain⟨f,⟨C,p,o,n⟩,⟨D,h,j,l⟩,i,g,fd,F,b⟩:=a;exact⟨⟨C,f,fd,p,o,⟨n,i,g⟩,b,ok F⟩,⟨D,f,fd,h,j,⟨l,i,g⟩,b,ok F⟩⟩
def UM.hh(a:UM K c q st ps)(X:Ŕ h)(G:ťa ė mg)(P:å)(w:ß)(d:Heap)(ok:∀{f fd},wn K Öb q st f fd->xH P w K mg d xC k f fd ps sp):Qs P w K mg d c ps k sp:=by obtain⟨C,f,n,j,g,e,i,l,fd,F,b⟩:=a;exact⟨C,f,fd,n,ģd X G n,⟨j,g,i,e⟩,b,ok F⟩
def Og.hh(a:Og K c m q st ps)(X:Ŕ h)(G:ťa ė mg)(P:å)(w:ß)(d:Heap)(ok:∀{f fd},wn K m q st f fd->xH P w K mg d xC k f fd ps sp):Oh P w K mg d c m ps k sp:=by obtain⟨C,f,n,l,e,g,i,j,fd,F,b⟩:=a;exact⟨⟨C,f,fd,_,ģd X G n,l,e,g,j,b,ok F⟩⟩
def j6.n(a:j6 K x st f)(X:Ŕ h)(G:ťa ė mg):mg x=À Į:=ģd X G a.1
def z1q(g:Dc K w a l)(e:Åa (·.2.2)=Ĝd Ċ)(b:Ĕd)(ex:Åa (·.1)=xs)(m:WM mg ns fs):Yo K w mg a ød ns:=by obtain⟨⟨n,g⟩,q⟩:=g;subst ex;exact z34 g (e▸JI l) b q m
#print a
section
variable{K:Í}{fd:ķ}{p0 p1 p2 p3:Str}
def bd2(b:∀s x y,Ŕ Ý->áb s fd ⟨Éd,[]⟩ ((Ŷc).zip Éd)):vX K fd Ŷc []:=bm λs a d c=>us2 (P:=λa=>áb s fd ⟨a,[]⟩ ((Ŷc).zip a)) (λx y=>b s x y d) a c
def bd4(b:∀s x y z u,Ŕ Ý->áb s fd ⟨Òs,[]⟩ ((Ãf).zip Òs)):vX K fd Ãf []:=bm λs a c d=>us4 (P:=λa=>áb s fd ⟨a,[]⟩ ((Ãf).zip a)) (λx y z u=>b s x y z u c) a d
#print a
def Qt(P:å)(w:ß)(K:Í)(b:Str->Æ Value)(a:Heap)(c m:Str)(ps:Á Str)(k:Nat)(sp:Sp)(n:Int):Prop:=
 ∃(C f:É) (fd:ķ) (t:Tok),ű K ė c=À ĕa/\t8 K C/\Qv K C m f/\vX K fd ps Ÿg/\xH P w K b a xC k f fd ps sp
noncomputable def UQ(n:Int):uW:=λ_=>À [.v ĝh]
theorem fH{X:Cx}{c m:Str}{ps:Á Str}{k j i:Nat}{π:Á xj}{F:FM}{n:Int}{o:Ñ}{a pos:Pos}{pl:Sem Ì}(h:Qt ó X.w X.K ð Œ c m ps k Ĉc n)(r:yl j X.A)(u:SP X o i π)(hk:Ê âc q10)(x:č Ŝm Ô=(do
   let ov <-č o Ô
   standAt a.atName
   let (f,first) <-holding [ov] łc
   Ïc pos f first Ăg ūb):=by rfl):MC X Ŝm (vG c m i π F (UQ n)):=by
 obtain⟨C,f,J,t,B,l,v,b,g⟩:=h;obtain⟨L,z,d⟩:=u.h;exact⟨⟨_,Hv (dvs:=[.int n]) (E:=λ_ _ _=>ò) z l v g (þa hk) b (.cons ⟨t,rfl⟩ .nil) XS x,λE y q=>Ch (E0:=λ_ _ _=>ò) (t:=λσ H Q=>Q [.int n] H) B d (λ{P O N G H β σ I Q} s e p=>by cases e;exact p _ _ _ œp ⟨_,_,rfl,rfl,rfl⟩) E y q⟩⟩
def Ol(K:Í)(c d m q:Str)(st:Õ)(ps:Á Str)(n:Int):Prop:=∃f,Zk K m f c/\Zk K m f d/\İd K Į=Ã/\ùa K Į=Ã/\∃fd t,wn K m q st f fd/\vX K fd ps []/\vX K fd ps Ÿg
section
variable{K:Í}{c d m q:Str}{st:Õ}{ps:Á Str}{f:É}{fd:ķ}{sp:Sp}{k:Nat}{n:Int}
def bd1{p0 p1:Str}{t:Tok}(b:∀s x,Ŕ Ý->áb s fd ⟨[x],[]⟩ ((Ŷc).zip [x,.int n t])):vX K fd Ŷc Ÿg:=λs a e d=>by
 have c:ŗb=1:=by rw[í]at d;exact Nat.add_right_cancel (show ŗb+1=1+1 from d)
 exact us1 (P:=λa=>áb s fd ⟨a,[]⟩ ((Ŷc).zip (a++[.int n t]))) (λx=>b s x e) a c
def mtd_mk{s:Value}{u p:Æ É}{v:Ø ųa}{j kV o h g ct:Value}(a:Zk K m f c)(b:Zk K m f d)(i:İd K Į=Ã)(l:Ź f=À ⟨s,u,.func ãi,v⟩)(e:Řb K g q=Ã)(k:ùa K Į=Ã)(b0:vX K ãi ps [])(r:∃t,vX K ãi ps Ÿg):Ol K c d m q st ps n:=⟨f,a,b,i,k,_,r.choose,dF l e k,b0,r.choose_spec⟩
def Ol.hh(a:Ol K c d m q st ps n)(P:å)(w:ß)(g:Str->Æ Value)(e:Heap)(ok:∀{f fd},wn K m q st f fd->xH P w K g e xC k f fd ps sp):vf P w K g e c m ps k sp/\vf P w K g e d m ps k sp/\Qt P w K g e c m ps k sp n/\Qt P w K g e d m ps k sp n:=by obtain⟨f,⟨C,u,s,r⟩,⟨D,j,p,l⟩,i,h,fd,t,F,b,o⟩:=a;exact⟨⟨C,f,fd,u,s,⟨r,i,h⟩,b,ok F⟩,⟨D,f,fd,j,p,⟨l,i,h⟩,b,ok F⟩,⟨C,f,fd,t,u,s,⟨r,i,h⟩,o,ok F⟩,⟨D,f,fd,t,j,p,⟨l,i,h⟩,o,ok F⟩⟩
#print a
#print L3
namespace L3
open Ħ
noncomputable def dY:Á D:=[ę,ĉa,Ļa,îh]
def Ui:D:=.tup dY
noncomputable def X8:Á D:=[Èe,ìf,ëf]
def gs:D:=.tup X8
noncomputable def z36:Á D:=[(.str Ÿ),(.str Äa),Đk]
def Li:D:=.tup z36
noncomputable def Eb:Á Ĩ:=Ěb .inr [ĳf,ðb,åb,ţb,ęa,ğb,Ĥb,Ğb,ñb,ĭb,ĥb,Ła,Àb,àb,Âb,śa,Ŝa,ŗa,Ÿ,Äa,äa,Öc]
noncomputable def Ef:Á D:=[Śq,Àg,Àg,íc,íc,íc,íc,íc,íc,íc,íc,íc,Àg,Àg,űf,űf,űf,űf,Śq,èp,èp,Ĥs]
noncomputable def Ec:Á Ĩ:=Ěb .inr [ðb,åb,Àb,àb,Âb,śa,Ŝa,ŗa]
noncomputable def Eg:Á D:=[Ļa,Ļa,űc,űc,ĉa,ĉa,ĉa,ĉa]
noncomputable def uv:Á Ĩ:=Ěb .inr [œa,"d","s",ěb,óc]
noncomputable def uw:Á D:=[(.tup [(.int 27),űc]),(.tup [îh,ğh]),(.tup [ĳs,ğh]),(.tup [îh,ćc]),(.tup [ę,űc])]
noncomputable def gn:Á Ĩ:=Ěb .inr [Öc,ðb,åb,ţb,ęa,ğb,Ĥb,Ğb,ñb,ĭb,ĥb,Ła,Àb,àb,Âb,śa,Ŝa,ŗa]
noncomputable def gu:Á D:=[ę,ûa,ćc,ğh,(.int 4),űc,(.int 6),(.int 7),ĉa,(.int 9),(.int 10),(.int 11),(.int 12),(.int 13),(.int 14),ďd,Ļa,(.int 17)]
noncomputable def Lj:Á L2.V:=[.int 0,.int 1,.int 2,.int 3,.int 4,.int 5,.int 6,.int 7,.int 8,.int 9,.int 10,.int 11,.int 12,.int 13,.int 14,.int 15,.int 16,.int 17]
noncomputable def Zv:Á Ĩ:=Ěb .inr Ôq
noncomputable def Z4:Á D:=[Ťk,(.int 19),(.int 20)]
noncomputable def Ll:Á L2.V:=[.int 18,.int 19,.int 20]
noncomputable def Zu:Á Ĩ:=Ěb .inr Ôq
noncomputable def Z3:Á D:=[ĳs,(.int 22),(.int 23)]
noncomputable def Lk:Á L2.V:=[.int 21,.int 22,.int 23]
theorem Js{g:FG}{c:FT}{e:FE}{σ:zu}(p:D->Ì)(v:D->D):∀{ds:Á D},(∀d∈ds,∃σ1,g d σ=À σ1/\c σ1=À (p d)/\(p d=Ã->e σ1=À (v d)))->yo g c e σ ds=À ((ds.filter p).map v)
 | [],_=>rfl|d::ds,h=>by
  obtain⟨σ1,e1,e2,b⟩:=h d ůc;have a:=Js p v (ds:=ds) λx f=>h x (ÿa _ f)
  show(ħf).bind _=_;rw[e1];show(c σ1).bind _=_;rw[e2];cases hp:p d with
  |Â=>rw[Ňn (by rw[hp];decide)];exact a|Ã=>rw[İi hp];show(Ŀf).bind _=_;rw[b hp];show(yo g c e σ ds).bind _=_;rw[a];rfl
def Z8(v:D->D)(h:∀d∈ds,∃σ1,g d σ=À σ1/\e σ1=À (v d)):yo g yt e σ ds=À (Īh v):=by
 have:=Js (g:=g) (c:=yt) (e:=e) (σ:=σ) (λ_=>Ã) v (ds:=ds) λd f=>by obtain⟨σ1,a,b⟩:=h d f;exact⟨σ1,a,rfl,λ_=>b⟩
 rw[this,įi šj]
inductive ui(R:D->D->Prop):Á D->Á D->Prop
 |nil:ui R [] []
 |Ĉ {x y:D} {xs ys:Á D}:R x y->ui R xs ys->ui R ęl (y::ys)
theorem eZ{g:FG}{e:FE}{σ:zu}(R:D->D->Prop):∀{ds:Á D},(∀d∈ds,∃σ1 x,g d σ=À σ1/\e σ1=À x/\R d x)->∃xs,yo g yt e σ ds=À xs/\ui R ds xs
 | [],_=>⟨[],rfl,.nil⟩|d::ds,h=>by
  obtain⟨σ1,x,e1,e2,r⟩:=h d ůc;obtain⟨xs,a,c⟩:=eZ R (ds:=ds) λx b=>h x ąf
  refine⟨x::xs,?_,.cons r c⟩;show(ħf).bind _=_;rw[e1];show(Ŀf).bind _=_;rw[e2];show(yo g yt e σ ds).bind _=_;rw[a];rfl
def BL{n i:Nat}{d:D}(h:Ţh[i]?=À d):i<n/\d=.int (i:Int):=by
 have a:i<n:=by have:=ĝb.1;simpa using this
 refine⟨a,?_⟩;simp[a]at h;exact h.symm
def x6a{n:Nat}{d:D}(h:d∈wQ n):∃i:Nat,i<n/\d=.int (i:Int):=by obtain⟨i,a,e⟩:=ŝi h;exact⟨i,(BL (List.getElem?_eq_some_iff.mpr ⟨a,e⟩))⟩
def x69(n:Nat):(Ţh).length=n:=by simp
def J6{α:Type}{xs:Á α}{i:Int}{a:α}(b:0<=i)(h:xs[ĝc]?=À a):uF xs i=À a:=by unfold uF;rw[Ï b,h]
def gA:Nat->D->Ì
 |0,_=>Â|n+1,.tup xs=>Īd (gA n)|n+1,.lst xs=>Īd (gA n)|_+1,d=>xJ d
theorem Cj{f:D->D->Ì}:∀{xs:Á D},(∀x∈xs,f x x=Ã)->jD f xs xs=Ã
 | [],_=>rfl|x::xs,h=>by show(f x x&&jD f xs xs)=Ã;rw[h x ůc,Cj λy a=>h y ìe];rfl
theorem Cn:∀{xs:Á D},(∀x∈xs,xh x x=Ã)->Įc xs xs=Ã
 | [],_=>rfl|x::xs,h=>by show(xh x x&&Įc xs xs)=Ã;rw[h x ůc,Cn λy a=>h y ìe];rfl
theorem J_:∀(n:Nat)(d:D),gA n d=Ã->uo n d d=Ã/\xh d d=Ã
 |0,_,h=>by cases h|n+1,d,h=>by
  cases d with
  |tup xs=>have c:∀x∈xs,gA n x=Ã:=Ĵb h;exact⟨Cj λx a=>ěg.1,Cn λx a=>ěg.2⟩|lst xs=>have c:∀x∈xs,gA n x=Ã:=Ĵb h;exact⟨Cj λx a=>ěg.1,Cn λx a=>ěg.2⟩|dic ks vs=>cases h|exc _=>cases h|obj _ _ _=>cases h|zE=>exact⟨rfl,rfl⟩|bl b=>exact⟨rfl,éd b⟩|int i=>exact⟨rfl,éd i⟩|str z=>exact⟨rfl,éd z⟩
def cm(h:gA 6 d=Ã):Zr d d=À Ã:=by
 obtain⟨b,a⟩:=J_ 6 d h
 have e:Zr d d=match uo 6 d d with
  |Ã=>À (xh d d)|Â=>Ä:=by cases d<;>rfl
 rw[e,b,a]
theorem z2h(h:gA 6 d=Ã):zk d d=À Ę:=by unfold zk;rw[cm h];rfl
def fW(h:gA 6 d=Ã):xm d d=À ñ:=by unfold xm;rw[cm h];rfl
def Ji{i j:Int}(h:i=j):zk üa ěd=À Ę:=by subst h;show À (İc (i==i))=_;rw[éd]
theorem Ly{i j:Int}(h:i≠j):zk üa ěd=À ñ:=by show À Ľj=_;rw[ĺc h]
theorem ýa{i j:Int}:yd üa ěd=À Çk:=rfl
def z31:∀{ks:Á Ĩ} {vs:Á α},ĭ=Ā->∀k',Ă Ĉf Że k'=if k=k' then À v else Ă ks vs k':=by
 have f:∀{ks:Á Ĩ} {vs:Á α},ĭ=Ā->∀k',yg ks k=Ã->Ă ks äi k'=if k=k' then À v else Ă ks vs k':=by
  intro ks
  induction ks with
  |nil=>intro vs _ k' h;cases h|Ĉ a ks ih=>
   intro vs c k' h;cases vs with
   |nil=>cases c|Ĉ b vs=>
    rw[ñc];unfold Ă;by_cases e1:a=k;subst e1;by_cases e2:a=k';rw[Ï e2,Ï e2,Ï rfl];rw[Ð e2,Ð e2,Ð e2];by_cases e3:yg ks a=Ã;have:=ih (vs:=vs) Űd k' e3;rw[this,Ð e2];have:∀{ks:Á Ĩ} {vs:Á α},ĭ=Ā->yg ks a=Â->Ă ks (ľb (λk' x=>if k'=a then v else x) ks vs) k'=Ă ks vs k':=by
     intro ks
     induction ks with
     |nil=>intro vs _ _;rfl|Ĉ a' ks ih'=>
      intro vs c h;cases vs with
      |nil=>cases c|Ĉ b vs=>
       have d:decide (a'=a)=Â/\yg ks a=Â:=by have:(decide (a'=a)||yg ks a)=Â:=h;exact Bool.or_eq_false_iff.mp this
       rw[ñc];unfold Ă;rw[Ð (ħo d.1),ih' Űd d.2]
    exact this Űd (by simpa using e3);have d:yg ks k=Ã:=by have:(decide (a=k)||yg ks k)=Ã:=h;rw[ă e1]at this;exact this
    have:=ih (vs:=vs) Űd k' d;rw[this,Ð e1];by_cases e2:a=k';rw[Ï e2];rw[Ð (λe=>e1 (e2.trans ŋf)),Ï e2];rw[Ð e2];by_cases e3:k=k';rw[Ï e3,Ï e3];rw[Ð e3,Ð e3,Ð e2]
 intro ks vs c k';unfold wO w6;by_cases h:yg ks k=Ã;rw[Ï h,Ï h];exact f c k' h;rw[Ð h,Ð h];clear f
 induction ks generalizing vs with
 |nil=>
  cases vs with
  |nil=>rfl|Ĉ _ _=>cases c
 |Ĉ a ks ih=>
  cases vs with
  |nil=>cases c|Ĉ b vs=>
   have d:¬ a=k/\¬ yg ks k=Ã:=by
    have:¬ (decide (a=k)||yg ks k)=Ã:=h
    constructor;intro e;exact this (by rw[î e];rfl);intro e;exact this (by rw[e,Bool.or_true])
   rw[ũe,ũe];show(if a=k' then À b else Ă (ks++[k]) (vs++[v]) k')=if k=k' then À v else if a=k' then À b else Ă ks vs k'
   rw[ih Űd d.2];by_cases e:a=k';rw[Ï e,Ï e];rw[Ð (λg=>d.1 (Ŵc g.symm))];rw[Ð e,Ð e]
theorem z5e(a:Sum Int Str):yg Ĉf a=(yg ks a||decide (k=a)):=by unfold wO;by_cases h:yg ks k=Ã;rw[Ï h];by_cases e:k=a;subst e;rw[h];rfl;rw[ă e,Ĭj];rw[Ð h];unfold yg;rw[List.any_append];simp
theorem Gd{α:Type}:∀{ks:Á Ĩ} {us:Á α} {as:Á Ĩ} {vs:Á α},ĭ=Ţ->∀k,yg íd.1 k=(yg as k||yg ks k)
 | [],us,as,vs,_,k=>by show yg as k=(yg as k||Â);rw[Ĭj]|a::ks,[],_,_,h,_=>by cases h|a::ks,u::us,as,vs,h,k=>by show yg (wb (wO as a) (w6 as vs a u) ks us).1 k=_;rw[Gd Āb,z5e];show _=(yg as k||(decide (a=k)||yg ks k));rw[Bool.or_assoc]
theorem sQ{L M:Á D}(h:ża+ăh<=1000):yd (.lst L) (.lst M)=À (Ε (L++M)):=by show(if ża+ăh<=yZ then _ else _)=_;rw[Ï ęi]
theorem fV(xs:Á D):xm öa ţk=À (.bl (!xs.isEmpty)):=by
 cases xs with
 |nil=>exact fW (d:=.lst []) rfl|Ĉ x r=>have e:xh ğq ţk=Â:=rfl;show(À (xh ğq ţk)).bind _=_;rw[e];rfl
theorem CZ:∀(n:Nat){l:Á Nat},l.Nodup->(∀x∈l,x<n)->ŕb<=n
 |0,l,_,h=>by
  cases l with
  |nil=>exact Øa _|Ĉ x r=>exact Ú (h x ůc) Ťi
 |n+1,l,hd,h=>by
  by_cases hm:n∈l;have b:=CZ n (hd.erase n) λx a=>by have:=(hd.mem_erase_iff).mp a;have:=h x this.2;omega
  rw[List.length_erase_of_mem hm]at b;omega;have b:=CZ n hd λx a=>by
   have d:=h x a;have c:x≠n:=λe=>hm (e▸a)
   omega
  omega
def HY{x y:D}{b:Ì}(h:zk x y=À ģc):xm x y=À (.bl (!b)):=by
 unfold zk at h;unfold xm;cases e:Zr x y with
 |Ä=>rw[e]at h;cases h|À k=>rw[e]at h;cases h;rfl
def sW(b:n<2 ^ w)(a:y/2 ^ l%2 ^ w=0):(y &&& Řk)=0:=by
 apply Ío;intro i;rw[æj,Øp];rw[ĭi];by_cases hl:l<=i;by_cases hi:i-l<w;have e:ñf i=(y/2 ^ l%2 ^ w).testBit (i-l):=by rw[Ńn,ńn,î hi,ļg,śe hl]
 rw[e,a,Øp,ŋc];have:n.testBit (i-l)=Â:=Nat.testBit_lt_two_pow (ŭ b (Nat.pow_le_pow_right È Å));rw[this];simp;simp[hl]
theorem sV(x l w:Nat):(x &&& (ģs*2 ^ l))=x/2 ^ l%2 ^ w*2 ^ l:=by apply Ío;intro i;rw[æj,ĭi,ĭi,Nat.testBit_two_pow_sub_one,Ńn,ńn];by_cases hl:l<=i;simp[hl,śe hl];rw[Bool.and_comm];simp[hl]
theorem z16(l w:Nat):Ĥi=((ģs*2 ^ l:Nat):Int):=by have h:1<=2 ^ w:=Nat.one_le_two_pow;rw[Int.natCast_mul,Int.natCast_sub h];simp
def z07(a:0<=x)(l w:Nat):Ŷb x Ĥi=x/2^l%2^w*2^l:=by obtain⟨n,rfl⟩:=ůb a;rw[z16,Řn Ľf Ľf,Ň,Ň,sV];simp
def z06(g:0<=y)(f:0<=n)(c:n<2 ^ w)(hz:y/2 ^ l%2 ^ w=0):Ŷb y Řk=0:=by
 obtain⟨a,rfl⟩:=ůb g;obtain⟨b,rfl⟩:=ůb f;have e:(b:Int)*2 ^ l=((b*2 ^ l:Nat):Int):=by simp
 have d:b<2 ^ w:=by
  have:((2 ^ w:Nat):Int)=(2:Int) ^ w:=by simp
  omega
 have h:a/2 ^ l%2 ^ w=0:=by
  have:((a/2 ^ l%2 ^ w:Nat):Int)=(a:Int)/2 ^ l%2 ^ w:=by simp
  omega
 rw[e,Řn Ľf Ľf,Ň,Ň,sW d h];rfl
def z1g{x p r:Int}(d:0<=x)(a:0<p)(b:0<r):0<=x-x/p%r*p/\Ťg/p%r=0/\Ťg/p/r=x/p/r/\Ťg%p=x%p:=by
 have g:0<=x/p:=ìj d (ća a);have e1:x-x/p%r*p=x+p*(-(x/p%r)):=by rw[Int.mul_neg,Int.mul_comm p];omega
 have e2:Ťg/p=x/p-x/p%r:=by rw[e1,Int.add_mul_ediv_left _ _ (Ŋg a)];omega
 have c:x/p-x/p%r=r*(x/p/r):=by have:=ŵn (x/p) r;omega
 refine⟨?_,?_,?_,?_⟩;have e:x/p%r<=x/p:=by have:=ŵn (x/p) r;have f:0<=x/p/r:=ìj g (ća b);have j:0<=r*(x/p/r):=Int.mul_nonneg (ća b) f;omega
 have i:x/p%r*p<=x/p*p:=Int.mul_le_mul_of_nonneg_right e (ća a);have h:=Int.ediv_mul_le x (Ŋg a);omega;rw[e2,c];exact Ĳo _ _;rw[e2,c];exact Int.mul_ediv_cancel_left _ (Ŋg b);rw[e1];exact Int.add_mul_emod_self_left ..
def i8(x:Int)(w:Nat):Ŷb x ((1:Int)*2 ^ w-1)=x%2 ^ w:=by rw[Ăd,W.kbt_mask]
theorem x8d{x n:Int}{l w:Nat}(b:0<=x)(g:0<=n)(a:n<2 ^ w):öd (Ŷb x (ãd Ĥi)) Řk=x+(n-x/2 ^ l%2 ^ w)*2 ^ l:=by have f:(0:Int)<2 ^ l:=Ák È;have e:(0:Int)<2 ^ w:=Ák È;obtain⟨c,d,_,_⟩:=z1g b f e;rw[PyProof.Rows.bitAnd_not,z07 b,PyProof.Rows.bitOr_and,z06 c g a d,Int.sub_mul];omega
def b_(a:Nat):decide ((0:Int)<=ãd (a:Int))=Â:=ă (by unfold ãd;omega)
def b0(a:Nat):decide ((0:Int)<=(a:Int))=Ã:=î (Òd a)
def z0b(a:Int):ãd (ãd a)=a:=by unfold ãd;omega
def c9(a b:Nat):öd (a:Int) (b:Int)=((a ||| b:Nat):Int):=by unfold öd Ŷb;rw[b_,b_];simp only[z0b,Ň]
theorem bj(a b:Nat):Ŷb (a:Int) (b:Int)=((a &&& b:Nat):Int):=by unfold Ŷb;rw[b0,b0];simp only[Ň]
def bh:FS:=
 (za (xM (tE (e2 ăc Ď Ŝc))
   (yF ãg)
   wP)
  (yF ą))
def z5w(ns:Á Int)(k:Nat):Ņb[k]?=(ns[k]?).map þ:=ş
noncomputable def pO(ns:Á Int)(k:Int):Int:=ŵg Ũ 0
noncomputable def qK:Á D->Æ â
 | [.lst xs,.int k]=>if 0<=k then((xs[Ũ]?).getD ę |> λd=>À (Â,d))else Ä|_=>Ä
def Wa(ns:Á Int){k:Int}(h:0<=k):qK [.lst Ņb,.int k]=À (Â,.int (pO ns k)):=by show(if 0<=k then _ else _)=_;rw[Ï h,z5w];unfold pO;rw[Āa];cases ns[Ũ]?<;>rfl
def y70:∀ds r,qK ds=À r->Đ=2/\yH 2 bh ds=À r:=λds r h=>by
 unfold qK at h
 split at h;rename_i a k;refine⟨rfl,?_⟩;by_cases h0:0<=k;rw[Ï h0]at h;cases h;unfold bh;by_cases c:k<(ŗb:Int);have e:zM (.lst a) ăe=À ((a[Ũ]?).getD ę):=by show uF a k=_;unfold uF;rw[Ï h0,Ģ Å];rfl
 simp only[Ó,î c,e];have e:a[Ũ]?=Ä:=Űb Å;simp only[Ó,ă c,e,Option.getD];rw[Ð h0]at h;cases h;cases h
def z09(h:đc<2 ^ m):tG i<=m:=by
 by_cases c:i=0;subst c;exact Áa _;have e:tG i=ķg+1:=by show(if(i==0)=Ã then 0 else ķg+1)=_;rw[Ð Űd]
 rw[e];exact(Ýs).mpr h
def T2{i j:Int}(a:0<=j)(d:j<64)(c:0<=i)(b:i<2 ^ 64):pT i j=Ã:=by unfold pT;rw[î a,î (show j<=1000000 by omega),î (show đc<2 ^ 64 by omega)];rfl
def bi:FS:=
 (za (yO 4 (e2 ut Ćn Ď))
  (yF (e2 (pP öd) (e2 Ìl ï (e1 EB ña)) (e2 ut Č Ď))))
def iP{d:Nat}(h:d<64):1<=(2:Int) ^ d/\(2:Int) ^ d<2 ^ 64:=by
 have b:(2:Nat) ^ d<2 ^ 64:=Nat.pow_lt_pow_right È h;have a:0<(2:Nat) ^ d:=Nat.pow_pos È;have e:((2 ^ d:Nat):Int)=(2:Int) ^ d:=by simp
 have e2:((2 ^ 64:Nat):Int)=(2:Int) ^ 64:=by decide
 omega
noncomputable def Zj:Á D->Æ â
 | [.int x,.int l,.int d,.int n]=>if Ċi/\0<=n/\n<2 ^ Ģd then À (Â,.int ßi)else Ä|_=>Ä
def y72:∀ds r,Zj ds=À r->Đ=4/\yH 5 bi ds=À r:=λds r h=>by
 unfold Zj at h
 split at h;rename_i x l d n;refine⟨rfl,?_⟩
 split at h;rename_i c;obtain⟨⟨o,a,b,f,k⟩,e,g⟩:=c;obtain⟨p,q⟩:=iP (d:=Ģd) Å;cases h;have e1:=T2 (i:=1) (j:=d) f k È È;have e2:=T2 (i:=1*2 ^ Ģd-1) (j:=l) a b Å Å;have m:=T2 (i:=n) (j:=l) a b e Å;unfold bi;simp only[Ó,e1,e2,m,EB,x8d o e g];cases h;cases h
def oE{x l d n:Int}(h:Ċi/\0<=n/\n<2 ^ Ģd):Zj [.int x,.int l,.int d,.int n]=À (Â,.int ßi):=Ï h
def L6:FS:=
 (yF (e2 Ìl ĥp Ćn))
def wz:Á D->Æ â:=FR 3 3 L6
def dk(a b x2:D):wz Ìa=yH 3 L6 Ìa:=rfl
def FJ:FS:=
 (za (yO 3 (e2 yd Ģp ſn))
  (yF (Η (e2 xI Č ĩf) (Α (e2 Îf Č ĩf)))))
def U1:Á D->Æ â:=FR 3 4 FJ
def z3j(a b x2:D):U1 Ìa=yH 4 FJ Ìa:=rfl
def CN:FS:=
 (za (yO 3 (e2 gm (e2 gm ï Ď) ſn))
  (za (xM (tE (e2 ăc Č ą))
   (yF (Η (e2 yd Č ĩf) đj))
   wP)
  (yF ón)))
def UG:Á D->Æ â:=FR 3 4 CN
def z51(a b x2:D):UG Ìa=yH 4 CN Ìa:=rfl
def C9:FS:=
 (za (Ν (e2 ut ï Ď))
  (za (yO 3 (νc (ε (zA ŕe Úf))))
  (yF (Η (zR wz (ε (zA ą ŉk))) ţc))))
def Yj:Á D->Æ â:=FR 2 4 C9
def z4o(a b:D):Yj ë=yH 4 C9 ë:=rfl
def CA:FS:=
 (za (Ν (νc (Κ (zA (e2 gm Ď ņ) Úf))))
  (yF (Η ĥp Ōb)))
def Yk:Á D->Æ â:=FR 2 3 CA
def z4p(a b:D):Yk ë=yH 3 CA ë:=rfl
def O2:FE:=(zR wz (Κ (ο ňk)))
def FW:FS:=
 (yF (Κc (wU 1 (ua ģl) Ńa yt O2)))
def U5:Á D->Æ â:=FR 1 1 FW
def z3q(a:D):U5 [a]=yH 1 FW [a]:=rfl
def Rl:FE:=(e2 ut Ď ď)
def CU:FS:=
 (yF (eL EK (Ζ (wU 2 (qU ï ģl) (uZ 1 2) yt Rl))))
def Qq:Á D->Æ â:=FR 1 1 CU
def z57(a:D):Qq [a]=yH 1 CU [a]:=rfl
def FU:FS:=
 (yF (Cw ï Ď ą))
def U4:Á D->Æ â:=FR 2 2 FU
def z3o(a b:D):U4 ë=yH 2 FU ë:=rfl
def FN:FS:=
 (yF (zR wz (zA Ģp (zA ą (Α Ĩf)))))
def U2:Á D->Æ â:=FR 2 2 FN
def z3l(a b:D):U2 ë=yH 2 FN ë:=rfl
def BW:FE:=(zR U2 œc)
def Fk:FS:=
 (qz (wU 1 (tJ ą Ïb) Ńa yt BW))
def WG:Á D->Æ â:=FR 1 1 Fk
def z44(a:D):WG [a]=yH 1 Fk [a]:=rfl
def BY:FE:=(zR U4 (Κ Ōb))
def CS:FS:=
 (yF (zR Qq (Α (wU 1 (ua (ur WG (Ζ Ób))) ſc yt BY))))
def Qo:Á D->Æ â:=FR 2 2 CS
def z55(a b:D):Qo ë=yH 2 CS ë:=rfl
def CG:yQ:=
 (Wx 0 [] Ď (xY (zR wz (ε (zA ą ňk)))))
def UF:FM:=vZ 3 3 CG
def z4u(a b x2:M):UF Ìa=wW 3 3 CG Ìa:=rfl
def M8:yQ:=(pQ (tW UF (pL 0 [] (xB Č (xB ña xN)))))
def CH:yQ:=
 (MH (qU îr çr) (Uo 3 4)
   M8)
def Qm:FM:=vZ 3 5 CH
def z4v(a b x2:M):Qm Ìa=wW 3 5 CH Ìa:=rfl
def oG:FE:=ón
def FH:yQ:=
 (yz (pR 0 [] [Ŀ] Š (JB (eL Wg Đb)))
  (yz (pR 0 [] [Ŀ] łb (JB (Ιc (wU 1 (ua ńh) ĵd yt oG))))
  (pR 0 [] [Ŀ] ïa (JB (eL LU Ōb)))))
def U0:FM:=vZ 3 3 FH
def z3h(a b x2:M):U0 Ìa=wW 3 3 FH Ìa:=rfl
def Fe:yQ:=
 (μ (xY ġp))
def QX:FM:=vZ 2 2 Fe
def z3y(a b:M):QX ë=wW 2 2 Fe ë:=rfl
def Fb:yQ:=
 (μ (ju (zR Zj (zA ág (zA Ĩf (zA Ĩf Ľm))))))
def QU:FM:=vZ 2 2 Fb
def z3v(a b:M):QU ë=wW 2 2 Fb ë:=rfl
def Fa:yQ:=
 (μ (ju Ég))
def QT:FM:=vZ 2 2 Fa
def z3u(a b:M):QT ë=wW 2 2 Fa ë:=rfl
def Yw:FS:=
 (za (xM (Ηb Õl)
   (yF (zR U1 (ο (ε (Ζ đh)))))
   wP)
  (za (xM (Ηb (eC őc))
   (yF (zR U1 Ĵo))
   wP)
  (yF (zR UG (ο (ε (Ζ (Wd Č (e2 zk ï (eC Őc))))))))))
def Yn:Á D->Æ â:=FR 4 4 Yw
def Uh(b a x2 x3:D):Yn Ŗc=yH 4 Yw Ŗc:=rfl
def C8:yQ:=
 (yz (ςa ìf (e2 zk Ď ą))
  (ςa ëf (e2 zk (zR wz (ο (zA (e2 gm ŕe ņ) Úf))) ņ)))
def WH:FM:=vZ 2 2 C8
def z4n(a b:M):WH ë=wW 2 2 C8 ë:=rfl
def O_:yQ:=
 (yz (uM 2 (ju (zR Yn (Ηe (zA Ég (Ζ (e2 zM ĥm Òl)))))))
  (yz (ςa Èe øj)
  (yz (ςb (xB Ģg xN))
  (jN (Ω (e2 xm Íb Öl))
   (μ (xY Ģg))
   jO))))
def gW:FM:=vZ 2 3 O_
def df(a b:M):gW ë=wW 2 3 O_ ë:=rfl
def Fv:FS:=
 (za (xM (Ηb (eC źe))
   (ωb Ìl)
   wP)
  (za (xM (Ηb (eC Ûe))
   (ωb (pP öd))
   wP)
  (ωb (pP Čj))))
def U9:Á D->Æ â:=FR 3 3 Fv
def z4b(a b x2:D):U9 Ìa=yH 3 Fv Ìa:=rfl
def FZ:yQ:=
 (yz (uM 2 (ju (zR U9 (Ηe (Ζ Ég)))))
  (yz (ςb (xB ď xN))
  (μ Èl)))
def Yg:FM:=vZ 2 3 FZ
def z3t(a b:M):Yg ë=wW 2 3 FZ ë:=rfl
def Oz:yQ:=
 (yz (uM 2 (ju ág))
  (yz (uM 3 (xY (uX (tE (e2 zk Íb (eC êf))) (zR Yj ıq) (zR Yk ıq))))
  (yz (jN (Ω (e2 Uc ġg ēa))
   (ςa Èe ġg)
   jO)
  (yz (ςb (xB Ġp xN))
  (μ (xY Ġp))))))
def Yh:FM:=vZ 2 4 Oz
def de(a b:M):Yh ë=wW 2 4 Oz ë:=rfl
def FK:FS:=
 (yF (zR U2 (zA Ég (Α (e2 zM Ób ųb)))))
def Yf:Á D->Æ â:=FR 2 2 FK
def z3k(a b:D):Yf ë=yH 2 FK ë:=rfl
def Fc:yQ:=
 (μ (ju (zR U4 ām)))
def QV:FM:=vZ 2 2 Fc
def z3w(a b:M):QV ë=wW 2 2 Fc ë:=rfl
def Fd:yQ:=
 (μ (ju (zR Qo ām)))
def QW:FM:=vZ 2 2 Fd
def z3x(a b:M):QW ë=wW 2 2 Fd ë:=rfl
def Ff:yQ:=
 (pQ (tW UF Ĺm))
def QY:FM:=vZ 2 2 Ff
def z3z(a b:M):QY ë=wW 2 2 Ff ë:=rfl
def Fg:yQ:=
 (pQ (tW Qm Ĺm))
def QZ:FM:=vZ 2 2 Fg
def z40(a b:M):QZ ë=wW 2 2 Fg ë:=rfl
noncomputable def ql:Á Ĩ:=Ěb .inr [ðb,åb,ţb,ęa,ğb,Ĥb,Ğb,Ła,ñb,ĭb,ĥb,Àb,àb,Âb,Ŝa,śa,ŗa]
noncomputable def cV:Á Str:=[òh,Èh,Éh,Ũc,Ũc,Ũc,Ũc,Ũc,æe,æe,æe,ïf,ïf,Çh,Űg,ůg,ŗg]
def UY:Á FM:=[QX,QU,QT,gW,gW,gW,gW,gW,Yg,Yg,Yg,Yh,Yh,QV,QW,QY,QZ]
def J8:yQ:=
 (jN (Ω (e1 (X1 ql) Íb))
   (pQ (Cg ql UY Íb (pL 0 [] (xB Ď xN))))
   jO)
def pI:FM:=vZ 2 2 J8
def Ee(a b:M):pI ë=wW 2 2 J8 ë:=rfl
def z03:FS:=
 (za (xM (tE (e2 zk Íb öj))
   (yF ğp)
   wP)
  (za (xM (tE (e2 zk Íb (eC Đk)))
   (yF (Cy ğp))
   wP)
  (yF (e2 zk Íb ýg))))
def j4:Á D->Æ â:=FR 2 2 z03
def FB:FS:=
 (yF (LP (e2 zk þi (e1 (xc Ĳ Ģb) ï)) (e2 zk (e2 zM Űm ą) (xt (Α õj)))))
def wC:Á D->Æ â:=FR 1 1 FB
def z3e(a:D):wC [a]=yH 1 FB [a]:=rfl
def Oy:yQ:=
 (yz (jN (p7 (tE Çm))
   ăg
   jO)
  (yz (uM 1 (ju Űm))
  (yz (pQ (tW pI (pL 0 Ře (xB Íb xN))))
  (yz (pR 0 [] Ĳ Ád (ju (uX (tE (zR j4 (zA ïg (zA Íb zG)))) ġp Ód)))
  (yz (HN 0 [] Ĳ ĥc ņ)
  (jP (xY (eC Ę))))))))
def wy:FM:=vZ 1 2 Oy
def dZ(a:M):wy [a]=wW 1 2 Oy [a]:=rfl
abbrev jh:Á Ĩ:=[.inr Ċa,.inr Œa,.inr ſa]
noncomputable def Xg(a b c:Ì):D:=.dic jh àd
def st(ws:Á D)(a b c:Ì)(hk:Á Ĩ)(hv:Á D):M:=.obj Ŀ Įj [.own Ďc,.own äe,.own ùc]
def xZ(ws:Á D)(a b c:Ì)(hk:Á Ĩ)(hv:Á D):D:=.obj Ŀ Įj [.lst ws,Xg a b c,.dic hk hv]
abbrev jA:Á Str:=[Úa,Ģb,òc,ņc,Ŷa,Ád,ĥc]
inductive vM:Str->Prop
 |row:vM ü
 |Łd:vM ÿ
noncomputable def yE(C:Str)(T:D)(e:Int)(fw fh:D)(s:M)(due done:Int):M:=.obj C jA [.fz T,.fz Ğh,.fz fw,.fz fh,s,.fz îf,.fz Ók]
noncomputable def xG(C:Str)(T:D)(e:Int)(fw fh:D)(s:D)(due done:Int):D:=.obj C jA [T,.int e,fw,fh,s,.int due,.int done]
section
variable{C:Str}{ws ws':Á D}{a b c d':Ì}{hk hk':Á Ĩ}{hv hv':Á D}{T fw fh sd:D}{e due done:Int}{s s':M}
def uE:uQ Łc=xZ ws a b c hk hv:=by simp only[st,xZ,uQ,ļd]
theorem kC:uQ Ïd=xG C T e fw fh (uQ s) due done:=by simp only[yE,xG,uQ,ļd]
theorem WY{i:Nat}{π:Á xj}:ge Łc i π=.p i π:=rfl
def gg:pN Łc Ċp=À (.own Ďc):=rfl
def J7:pN Łc ĉp=À (.own (.dic jh àd)):=rfl
def be:pN Łc æd=À (.own ùc):=rfl
def k8:pV Łc Ċp (.own (.lst ws'))=À (st ws' a b c hk hv):=rfl
def ii:pV Łc æd (.own (.dic hk' hv'))=À (st ws a b c hk' hv'):=rfl
def IE{x y z:Ì}:pV Łc ĉp (.own (.dic jh [.bl x,.bl y,.bl z]))=À (st ws x y z hk hv):=rfl
def jE:xc [Ŀ] Š Ţi=À Ďc:=rfl
def EM:xc [Ŀ] łb Ţi=À äe:=rfl
def EL:xc [Ŀ] ïa Ţi=À ùc:=rfl
def RE:zM äe Èe=À (.bl a):=rfl
def x4d:zM äe ìf=À ģc:=rfl
def x4e:zM äe ëf=À (.bl c):=rfl
def MU:wO jh Ţr=jh:=rfl
def y5d:wO jh šr=jh:=rfl
def y5f:wO jh Šr=jh:=rfl
def MZ:w6 jh œi Ţr çl=[.bl d',.bl b,.bl c]:=rfl
def y5z:w6 jh œi šr çl=[.bl a,.bl d',.bl c]:=rfl
def y60:w6 jh œi Šr çl=[.bl a,.bl b,.bl d']:=rfl
def bf(a:vM C):pN Ïd Ře=À s:=by cases a<;>rfl
def ik(a:vM C):pV Ïd Ře s'=À (yE C T e fw fh s' due done):=by cases a<;>rfl
def EN(a:vM C):xc Ĳ Úa Œd=À T:=by cases a<;>rfl
def cr(a:vM C):xc Ĳ Ģb Œd=À Ğh:=by cases a<;>rfl
def JO(a:vM C):xc Ĳ Ŷa Œd=À sd:=by cases a<;>rfl
def JN(a:vM C):xc Ĳ Ád Œd=À îf:=by cases a<;>rfl
def z2o(a:vM C):xc Ĳ ĥc Œd=À Ók:=by cases a<;>rfl
def d8(a:vM C){d2:Int}{Ō:yA}:gB (.fz (.int d2)) ſd 0 [] Ĳ Ád=À (Ξ (yE C T e fw fh s d2 done)):=by cases a<;>rfl
def bg(a:vM C){Ō:yA}:HN 0 [] Ĳ ĥc ņ ſd=À (Ξ (yE C T e fw fh s due (done+1))):=by cases a<;>rfl
def ce(b:vM C){m:Str}{F:Á D->Æ â}{τ:zu}{r:D}(c:m ∉ jA)(h:F ëc=À (Â,r)):tH Ĳn ĳn įe=À r:=by
 have a:∀x:Str,zR F ėp įe=match decide Ĭb with|Ã=>À r|Â=>Ä:=λx=>by
  show(Čo).bind _=_;show Ði=_;rw[ă c];cases decide Ĭb with
  |Â=>rfl|Ã=>show(ĥl).bind _=_;rw[h];rfl
 unfold tH;rw[a,a];cases b with
 |row=>rfl|Łd=>rfl
#print a
noncomputable def wI(ns:Á Int):Á D:=Ōa þ
def kE{ns:Á Int}{k:Nat}{v:Int}:(ďe).set k Ăe=wI (ns.set k v):=(List.map_set ..).symm
def jW{ns:Á Int}:(ďe).length=Ùa:=ä ..
def gx{n k:Nat}(h:k<n):ľl n (k:Int)=À k:=by unfold ľl;rw[Ï Ļh];simp[h]
theorem qr{ns:Á Int}{k:Nat}{v:Int}(h:ns[k]?=À v):zM (Ε ďe) Ŋe=À Ăe:=by show uF ďe (k:Int)=_;unfold uF;rw[Ï Ļh];show ďe[((k:Int)).toNat]?=_;rw[Ň];unfold wI;rw[ş,h];rfl
def Io{C:Str}(a:vM C){T fw fh sd row nx tg:D}{e due done:Int}{k:Ì}(h:due≠e->zM T îf=À Ůi/\zk row āa=À Łf) :wC ëc=À (Â,.bl (decide (due=e)||k))\/due=e/\wC ëc=À (Â,.bl Ã):=by
 have d:∀{i j:Int},zk üa ěd=À Ór:=λ{i j}=>by show À Ľj=_;rw[show ŕf=decide (i=j)from rfl]
 have g:∀{x y z:D},zM ôd ę=À x:=rfl;rw[z3e];unfold FB;by_cases c:due=e;right
 refine⟨c,?_⟩;simp only[Ó,JN a,cr a,d,c,ģa];left
 obtain⟨f,l⟩:=h c;have b:decide (due=e)=Â:=ă c;rw[b];simp only[Ó,JN a,cr a,EN a,d,b,f,g,l];rfl
def TR{C:Str}(a:vM C){T fw fh row tg:D}{e due done:Int}{s s':M}{nx:D}{d2:Int}(c:due≠e)(f:zM T îf=À Ůi)(t:zk row āa=À ñ)(g:wu Ůi=Ã)(ns:∀d,s≠.fz d)(j:pI [s,.fz row]=À ([s',.fz row],.fz .zE))(ld:Ì)(n:j4 [uQ s',row]=À (Â,.bl ld))(q:(if ld then tg else nx)=.int d2) :wy Ęi=À ([yE C T e fw fh s' d2 (done+1)],.fz Ę):=by
 have u:wC ųm=À (Â,.bl Â):=by rcases Io a (T:=T) (fw:=fw) (fh:=fh) (sd:=uQ s) (row:=row) (nx:=nx) (tg:=tg) (e:=e) (due:=due) (done:=done) (k:=Â) λ_=>⟨f,t⟩with z|⟨z,_⟩;rw[z,ă c];rfl;exact Ú z c
 have o:∀{x y z:D},zM ôd ę=À x:=rfl;have h:∀{x y z:D},zM ôd ûa=À y:=rfl;have r:∀{x y z:D},zM ôd ćc=À z:=rfl
 have i:ge s 0 Ře=.p 0 Ře:=by
  cases s with
  |fz d=>exact Ú rfl (ns d)|_=>rfl
 have l:=λτ:zu=>ce a (F:=wC) (m := Çc) (τ:=τ) İ u
 rw[dZ];unfold Oy;cases ld with
 |Â=>have b:nx=.int d2:=q;subst b;simp only[Ĥ,kC,l,EN a,JN a,f,g,o,h,r,bf a,ik a,i,j,JO a,n,d8 a,bg a]|Ã=>have b:tg=.int d2:=q;subst b;simp only[Ĥ,kC,l,EN a,JN a,f,g,o,h,r,bf a,ik a,i,j,JO a,n,d8 a,bg a]
theorem kD{x y z:D}:zM ôd ę=À x:=rfl
def ZS{x y z:D}:zM ôd ûa=À y:=rfl
def ZT{x y z:D}:zM ôd ćc=À z:=rfl
def Wb{x y:D}:zM Ïe ę=À x:=rfl
def Wc{x y:D}:zM Ïe ûa=À y:=rfl
def ħc{i j:Int}:zk üa ěd=À Ór:=by show À Ľj=_;rw[show ŕf=decide (i=j)from rfl]
theorem Wu{x:Str}:uI śb=À Ġh:=rfl
def Jt:decide (3<yZ)=Ã:=by decide
def XA:zM (.tup (y::xs)) ę=À y:=rfl
section
variable{Ws:Á Int}{a b c:Ì}{hk:Á Ĩ}{hv:Á D}
def z26{d:Nat}{n:Int}(e:d<ħa):QX [st ć a b c hk hv,.fz ĺm]=À ([st (wI (ōf d n)) a b c hk hv,.fz ĺm],.fz .zE):=by rw[z3y];unfold Fe;simp only[Ĥ,kD,ZS,ZT,gg,k8,jW,gx e,kE]
theorem z20{d s:Nat}{v:Int}(f:d<ħa)(e:Ws[s]?=À v):QT [st ć a b c hk hv,.fz Ċm]=À ([st (wI (ōf d v)) a b c hk hv,.fz Ċm],.fz .zE):=by rw[z3u];unfold Fa;simp only[Ĥ,uE,jE,qr e,kD,ZS,ZT,gg,k8,jW,gx f,kE]
theorem Ww{w:Int}{g:Int}(h:wz Úd=À (Â,.int g)):WH [st ć a b c hk hv,.fz Ĝh]=À ([st ć a (decide Ĩe) (decide īe) hk hv,.fz Ĝh],.fz .zE):=by rw[z4n];unfold C8;simp only[Ĥ,uE,h,ħc,Wu,J7,IE,Jt,y5d,y5f,y5z,y60]
theorem z21{d:Nat}{n v w:Int}(e:Ws[d]?=À v)(h:Zj [.int v,.int 16,.int 16,.int n]=À (Â,.int w)):QU [st ć a b c hk hv,.fz Œm]=À ([st Ţe a b c hk hv,.fz Œm],.fz .zE):=by have f:d<ħa:=Ŀh.1;rw[z3v];unfold Fb;simp only[Ĥ,uE,jE,qr e,h,kD,ZS,ZT,gg,k8,jW,gx f,kE]
theorem cW{k:Str}{d s:Nat}{x y w g:Int}{u:Ì}(e:xm ĩa ňc=À Ę)(f:Ws[d]?=À x)(j:Ws[s]?=À y)(h:Yn în=À (Â,.tup Ďj))(l:wz Úd=À (Â,.int g)) :gW ën=À ([st Ţe u (decide Ĩe) (decide īe) hk hv,.fz Şc],.fz .zE):=by have i:d<ħa:=ľh.1;rw[df];unfold O_;simp only[Ĥ,uE,jE,EM,RE,qr f,qr j,h,kD,ZS,ZT,Wb,Wc,Wu,J7,IE,Jt,MU,MZ,Ww l,WY,e,gg,k8,jW,gx i,kE]
theorem Zp{k:Str}{d s:D}{F:FM}{S a:M}(f:X1 ql ĩa=À Ę)(c:Ă ql UY Įf=À F)(b:∀d,S≠.fz d)(i:wu d=Ã)(g:wu s=Ã)(h:F Ër=À (Ér,.fz .zE)) :pI Ër=À (Ér,.fz .zE):=by
 rw[Ee];unfold J8
 have e:ge S 0 []=.p 0 []:=by
  cases S with
  |fz d=>exact Ú rfl (b d)|_=>rfl
 simp only[Ĥ,kD,f,Wu,c,e,h]
theorem uz{ws:Á D}:∀d,st ws a b c hk hv≠.fz d:=λd h=>by cases h
#print a
section
variable{Ws:Á Int}{a b c:Ì}{hk:Á Ĩ}{hv:Á D}
def z1z{k:Str}{d s:Nat}{x y w g:Int}(e:Ws[d]?=À x)(i:Ws[s]?=À y)(h:U9 [.str k,.int x,.int y]=À (Â,.int w))(j:wz Úd=À (Â,.int g)) :Yg ën=À ([st Ţe a (decide Ĩe) (decide īe) hk hv,.fz Şc],.fz .zE):=by have f:d<ħa:=Ŀh.1;rw[z3t];unfold FZ;simp only[Ĥ,uE,jE,qr e,qr i,h,kD,ZS,ZT,Ww j,WY,gg,k8,jW,gx f,kE]
theorem z24{k:Str}{d:Nat}{x n w g:Int}(f:Ws[d]?=À x)(t:Ì)(e:zk ĩa êf=À Ĕe)(h:çm=À (Â,.tup [.int w,.zE]))(j:wz Úd=À (Â,.int g)) :Yh ìn=À ([st Ţe a (decide Ĩe) (decide īe) hk hv,.fz Ùi],.fz .zE):=by
 have i:d<ħa:=ľh.1;rw[de];unfold Oz;cases t with
 |Â=>rw[Ð È]at h;simp only[Ĥ,uE,jE,qr f,e,h,kD,ZS,ZT,Wb,Wc,Ww j,WY,gg,k8,jW,gx i,kE]|Ã=>rw[Ï rfl]at h;simp only[Ĥ,uE,jE,qr f,e,h,kD,ZS,ZT,Wb,Wc,Ww j,WY,gg,k8,jW,gx i,kE]
theorem z25{k:Str}{d:Nat}{x n w g:Int}{u:Ì}(f:Ws[d]?=À x)(t:Ì)(e:zk ĩa êf=À Ĕe)(h:çm=À (Â,.tup Ďj))(j:wz Úd=À (Â,.int g)) :Yh ìn=À ([st Ţe u (decide Ĩe) (decide īe) hk hv,.fz Ùi],.fz .zE):=by
 have i:d<ħa:=ľh.1;rw[de];unfold Oz;cases t with
 |Â=>rw[Ð È]at h;simp only[Ĥ,uE,jE,qr f,e,h,kD,ZS,ZT,Wb,Wc,Wu,J7,IE,Jt,MU,MZ,Ww j,WY,gg,k8,jW,gx i,kE]|Ã=>rw[Ï rfl]at h;simp only[Ĥ,uE,jE,qr f,e,h,kD,ZS,ZT,Wb,Wc,Wu,J7,IE,Jt,MU,MZ,Ww j,WY,gg,k8,jW,gx i,kE]
#print a
inductive pK:D->Prop
 |ţ:pK āa
 |W4 {w:Str} {d n:Int} (hw:w = ðb \/ w = åb) (d0:0<=d) (d1:d<8) (n0:0<=n) (n1:n<65536):pK Ċk
 |two {w:Str} {d s:Int} (hw:w = ţb \/ w = ęa \/ w = ğb \/ w = Ĥb \/ w = Ğb \/ w = ñb \/ w = ĭb \/ w = ĥb \/ w = Ła) (d0:0<=d) (d1:d<8) (s0:0<=s) (s1:s<8):pK Ŗr
 |W6 {w:Str} {d n:Int} (hw:w = Àb \/ w = àb) (d0:0<=d) (d1:d<8) (n0:0<=n) (n1:n<32):pK Ċk
 |mem {w:Str} {d s n:Int} (hw:w = Âb \/ w = śa \/ w = Ŝa \/ w = ŗa) (d0:0<=d) (d1:d<8) (s0:0<=s) (s1:s<8) (n0:0<=n) (n1:n<256):pK ŗr
inductive UK(m:Int):D->Prop
 |vo {p:Int} (p0:0<=p) (p1:p<=m):UK m ļn
 |øb {w k:Str} {p:Int} (hw:w = Äa \/ w = äa) (hk:k = Ċa \/ k = Œa \/ k = ſa) (p0:0<=p) (p1:p<=m):UK m Őd
def kY(m:Int)(d:D):Prop:=pK d\/UK m d
noncomputable def wG:D->Ì
 |.tup Ðk=>w == Ÿ || w == Äa || w == äa|_=>Â
def XF:D->D
 |.tup xs=>(uF xs (-1)).getD .zE|_=>.zE
noncomputable def eO:D:=.tup ín
theorem T1{d:D}(h:pK d):∃w,zM d ę=À Üa/\tI Üa eO=À ñ/\zk Üa Ŗe=À ñ/\wG d=Â/\gA 5 d=Ã:=by
 cases h with
 |ţ=>exact⟨_,rfl,rfl,rfl,rfl,rfl⟩|W4 hw=>rcases hw with rfl|rfl<;>exact⟨_,rfl,rfl,rfl,rfl,rfl⟩
 |two hw=>rcases hw with rfl|rfl|rfl|rfl|rfl|rfl|rfl|rfl|rfl<;>exact⟨_,rfl,rfl,rfl,rfl,rfl⟩
 |W6 hw=>rcases hw with rfl|rfl<;>exact⟨_,rfl,rfl,rfl,rfl,rfl⟩
 |mem hw=>rcases hw with rfl|rfl|rfl|rfl<;>exact⟨_,rfl,rfl,rfl,rfl,rfl⟩
def M5{m:Int}{d:D}(h:UK m d):∃(w:Str) (p:Int),zM d ę=À Üa/\tI Üa eO=À Ę/\zk Üa Ŗe=À ñ/\wG d=Ã/\gA 5 d=Ã/\zM d źg=À (.int p)/\XF d=.int p/\0<=p/\p<=m:=by
 cases h with
 |vo p0 p1=>exact⟨_,_,rfl,rfl,rfl,rfl,rfl,rfl,rfl,p0,p1⟩|øb hw hk p0 p1=>rcases hw with rfl|rfl<;>rcases hk with rfl|rfl|rfl<;>exact⟨_,_,rfl,rfl,rfl,rfl,rfl,rfl,rfl,p0,p1⟩
noncomputable def xD:D->Ì
 |.tup Ðk=>w == ĳf|_=>Â
noncomputable def ub(t:Str):D:=.tup [.str ĳf,.str t]
theorem Kb{m:Int}{d:D}(h:kY m d):∃w,zM d ę=À Üa/\zk Üa Ŗe=À ñ/\xD d=Â/\gA 5 d=Ã:=by
 rcases h with h|h;cases h with
 |ţ=>exact⟨_,rfl,rfl,rfl,rfl⟩|W4 hw=>rcases hw with rfl|rfl<;>exact⟨_,rfl,rfl,rfl,rfl⟩
 |two hw=>rcases hw with rfl|rfl|rfl|rfl|rfl|rfl|rfl|rfl|rfl<;>exact⟨_,rfl,rfl,rfl,rfl⟩
 |W6 hw=>rcases hw with rfl|rfl<;>exact⟨_,rfl,rfl,rfl,rfl⟩
 |mem hw=>rcases hw with rfl|rfl|rfl|rfl<;>exact⟨_,rfl,rfl,rfl,rfl⟩
 cases h with
 |vo=>exact⟨_,rfl,rfl,rfl,rfl⟩|øb hw hk=>rcases hw with rfl|rfl<;>rcases hk with rfl|rfl|rfl<;>exact⟨_,rfl,rfl,rfl,rfl⟩
noncomputable def z8j(t:Str):D->Ì
 |.tup [_,.str u]=>u==t|_=>Â
def XT(t:Str)(s:Nat×Æ Nat)(d:D):Nat×Æ Nat:=match xD d with
 |Ã=>(s.1,match z8j t d with
  |Ã=>À s.1|Â=>s.2)
 |Â=>(s.1+1,s.2)
def vd(t:Str)(L:Á D):Nat×Æ Nat:=ül (XT t) (0,Ä)
def iO(t:Str)(L:Á D)(d:D):vd t (L++[d])=XT t Ĕc d:=by unfold vd;rw[List.foldl_append];rfl
theorem iM(t:Str):∀(L:Á D)(s:Nat×Æ Nat),(ül (XT t) s).1=s.1+(Ői).length
 | [],_=>rfl|d::L,s=>by
  rw[űe,iM t L];unfold XT;cases h:xD d with
  |Ã=>rw[Ňn Çj]|Â=>rw[İi że,ĕ];show s.1+1+_=_;omega
def iL(t u:Str)(L:Á D):(vd t (L++[ub u])).2=if u=t then À (Ői).length else Ĕc.2:=by rw[iO];have h:=iM t L (0,Ä);show(match(u==t)with|Ã=>À Ĕc.1|Â=>Ĕc.2)=_;by_cases e:u=t;rw[Ï e,òd e];show À Ĕc.1=_;rw[show Ĕc.1=_ from h,Ő];rw[Ð e,ĺc e]
theorem iN{t:Str}{L:Á D}{d:D}(h:xD d=Â):(vd t (L++[d])).2=Ĕc.2:=by rw[iO];unfold XT;rw[h]
theorem Ou{L:Á D}{r:D}(h:ża<=1000):k_ (.lst L) r=À (Ε (L++[r])):=by show(if ża<yZ then _ else _)=_;rw[Ï (by show _<16777216;omega)]
inductive vt:D->Prop
 |źh (t:Str):vt (ub t)
 |Ţa {d:D}:pK d->vt d
 |vo (t:Str):vt Úg
 |øb {w k:Str} (t:Str) (hw:w = Äa \/ w = äa) (hk:k = Ċa \/ k = Œa \/ k = ſa):vt Ŋd
def z65{d:D}(h:vt d):∃w,zM d ę=À Üa/\zk Üa Ŗe=À (.bl (xD d))/\gA 5 d=Ã:=by
 cases h with
 |źh=>exact⟨_,rfl,rfl,rfl⟩|Ţa h=>obtain⟨w,a,b,c,e⟩:=Kb (m:=0) įf;exact⟨w,a,by rw[c];exact b,e⟩
 |vo=>exact⟨_,rfl,rfl,rfl⟩|øb t hw hk=>rcases hw with rfl|rfl<;>rcases hk with rfl|rfl|rfl<;>exact⟨_,rfl,rfl,rfl⟩
def sF(x y:D):Prop:=(wG x=Â->y=x)/\(wG x=Ã->∃(h:Á D) (a:D) (t:Str),x=.tup (h++[a])/\y=.tup (h++[.str t]))
def kX(L:Á D)(x y:D):Prop:=vt y/\xD y=xD x/\sF x y/\wG y=wG x/\(wG x=Ã->∃(t:Str) (p:Nat),zM y źg=À Ęh/\Ĕc.2=À p/\XF x=.int (p:Int))
theorem Wf{R:D->D->Prop}:∀{xs ys:Á D},ui R xs ys->à=ãa
 |_,_,.nil=>rfl|_,_,.cons _ r=>by rw[ĕ,ĕ,Wf r]
theorem cZ{R:D->D->Prop}:∀{xs ys:Á D},ui R xs ys->∀y∈ys,∃x∈xs,R x y
 |_,_,.nil,_,h=>by cases h|x::xs,y::ys,.cons r rs,z,hz=>by rcases ľ hz with rfl|hz;exact⟨x,ĵ ..,r⟩;obtain⟨w,a,h⟩:=cZ rs z hz;exact⟨w,ÿa _ a,h⟩
theorem cX{R a:D->D->Prop}(h:∀x y,R x y->a x y):∀{xs ys:Á D},ui R xs ys->ui a xs ys
 |_,_,.nil=>.nil|_,_,.cons r rs=>.cons (h _ _ r) (cX h rs)
theorem LQ{R:D->D->Prop}:∀{xs ys:Á D},ui R xs ys->∀{i:Nat}{x:D},xs[i]?=À x->∃y,ys[i]?=À y/\R x y
 |_,_,.nil,_,_,h=>by cases h|_,_,.cons r _,0,_,h=>by cases h;exact⟨_,rfl,r⟩|_,_,.cons _ rs,i+1,_,h=>LQ rs Āb
def C1:FS:=
 (za (Ν (e2 xI (e2 JJ (e2 yd ï (e2 qS (eC (.int 7919)) Ď)) (eC (.int 48271))) (eC (.int 2147483647))))
  (yF (e2 xI (e2 yd (e2 yd (e2 EF ď ď) (e2 qS Łg ď)) Ď) (eC (.int 2147483629)))))
def uV:Á D->Æ â:=FR 2 3 C1
def z4i(a b:D):uV ë=yH 3 C1 ë:=rfl
def C6:FS:=
 (za (Ν (Ρc (ξ (e2 qS Ól Ób))))
  (za (yO 3 (zR uV (εd (e2 qS Ìb Ď))))
  (za (yO 4 (xi (zA ą (zA (eC (.int 4294967295)) (zA (eC (.int 2147483648)) (zA ņ (zA (e2 xI Č Łg) (Α (e2 yd (eC (.int 65530)) (e2 xI Č ĕj))))))))))
  (yF (e2 zM (e2 yd ña (Ο (e2 xI (e2 JJ Č Łg) ĩf) (Α (e2 xI (e2 JJ Č ŉe) ĩf)))) ď)))))
def Qj:Á D->Æ â:=FR 2 5 C6
def z4l(a b:D):Qj ë=yH 5 C6 ë:=rfl
def Rg:FE:=(zR Qj œc)
def C7:FS:=
 (qz (wU 1 (tJ ą Ðe) Ńa yt Rg))
def Qk:Á D->Æ â:=FR 1 1 C7
def z4m(a:D):Qk [a]=yH 1 C7 [a]:=rfl
def qV(c k:Int):∃v:Int,uV ïj=À (Â,.int v)/\0<=v/\v<2147483629:=by
 have g:=ŧd Ŝo (show(2147483647:Int)≠0 by decide);have f:=ŗd Ŝo (show(0:Int)<2147483647 by decide);have d:qt 7919=Ã/\qt 48271=Ã/\qt 7=Ã:=⟨by decide,by decide,by decide⟩
 have b:tG Ĺe<=40:=by
  have e:(2:Nat) ^ 40=1099511627776:=by decide
  exact z09 Å
 have a:decide (tG Ĺe+tG Ĺe<=134217728)=Ã:=î Å;refine⟨((c+7919*k)*48271%2147483647*Ĺe+7*Ĺe+k)%2147483629,?_,ŧd _ È,ŗd _ È⟩;rw[z4i];unfold C1;simp only[Ó,d,ýa,EF,a,ģa]
theorem XB{l:Á D}{P:D->Prop}(c:Int){n:Int}(h:(ŕb:Int)=n)(e:0<n)(a:∀r∈l,P r):∃r,zM (.lst l) (Β (c%n))=À r/\P r:=by
 have d:=ŧd c (show n≠0 by omega);have f:=ŗd c e;have b:(c%n).toNat<ŕb:=by omega
 exact⟨l[(c%n).toNat],J6 d (Ģ b),a _ (Ÿb b)⟩
def xX{P:D->Prop}{x:D}{l:Á D}(h:P x)(t:∀r∈l,P r):∀r∈x::l,P r:=λr m=>by rcases ľ m with rfl|m;exact h;exact t r m
def Yt{P:D->Prop}:∀r∈([]:Á D),P r:=λ_ m=>Ú m Ğa
def x8e(c k:Int):∃w:Int,Qj ïj=À (Â,.int w)/\0<=w/\w<4294967296:=by obtain⟨v,e1,m,h⟩:=qV c (2*k);obtain⟨u,e2,i,j⟩:=qV c (2*k+1);have e:qt 2=Ã/\qt 7=Ã/\qt 5=Ã:=⟨by decide,by decide,by decide⟩;obtain⟨_,b,w,rfl,f,g⟩:=XB (P:=λd=>∃w:Int,d=.int w/\0<=w/\w<4294967296) v (n:=8) (l:=ūl) rfl È (xX ⟨_,rfl,by omega,by omega⟩ (xX ⟨_,rfl,by omega,by omega⟩ (xX ⟨_,rfl,by omega,by omega⟩ (xX ⟨_,rfl,by omega,by omega⟩ (xX ⟨_,rfl,by omega,by omega⟩ (xX ⟨_,rfl,by omega,by omega⟩ (xX ⟨_,rfl,by omega,by omega⟩ (xX ⟨_,rfl,by omega,by omega⟩ Yt))))))));refine⟨w,?_,f,g⟩;have a:yd (.lst [.int 0,.int 4294967295,.int 2147483648,.int 1,.int (u%7),.int (65530+u%12)]) (.lst [.int (u*7%4294967296),.int (u*5%4294967296)])=À (.lst ūl):=rfl;rw[z4l];unfold C6;simp only[Ó,e,ýa,e1,e2,a,b,ģa]
theorem HK{g:FG}{e:FE}{σ:zu}(P:Int->Prop):∀{ds:Á D},(∀d∈ds,∃σ1 v,g d σ=À σ1/\e σ1=À Ăe/\P v)->∃vs:Á Int,yo g yt e σ ds=À (wI vs)/\Ā=Đ/\∀v∈vs,P v
 | [],_=>⟨[],rfl,rfl,λ_ h=>Ú h ã⟩|d::ds,h=>by
  obtain⟨σ1,v,e1,e2,p⟩:=h d ůc;obtain⟨vs,f,l,q⟩:=HK P λb c=>h b Ňk
  refine⟨v::vs,?_,by rw[ĕ,ĕ,l],λx a=>?_⟩;simp only[yo,e1,yt,ăb,e2,f];rfl;rcases ľ a with rfl|a;exact p;exact q x a
def x8f(c:Int):∃Ws:Á Int,Qk Òc=À (Ã,.lst ć)/\ħa=8/\∀w∈Ws,0<=w/\w<4294967296:=by
 have b:tJ ą Ðe [À (Â,.int c)]=À (wQ 8):=ZK (n:=8) rfl È
 obtain⟨a,e,l,p⟩:=HK (g:=yD 1) (e:=Rg) (σ:=[À (Â,.int c),Ä]) (λw=>0<=w/\w<4294967296) (ds:=wQ 8) λd j=>by obtain⟨k,_,rfl⟩:=Ů j;obtain⟨w,h,f,i⟩:=x8e c k;refine⟨_,w,rfl,?_,f,i⟩;unfold Rg;simp only[Ó,h]
 refine⟨a,?_,l,p⟩;rw[z4m];unfold C7;simp only[Ó,b,e]
noncomputable def pD(p:Int×Int):D:=.tup [.int p.1,.int p.2]
structure wq(ps:Á ö):Prop where
 ad:∀p∈ps,0<=p.1/\p.1<65536
 pE:∀p∈ps,0<=p.2/\p.2<256
 nd:(ź (·.1)).Nodup
def KW:FA:=(tJ ą (e2 xI (ξ ũp) Łg))
def oH:FE:=(e2 zM Þa ą)
def M7:FS:=(za (yO 3 (Δb (.int 50)))
    (za (yO 4 (υb ģp (zA (e2 yd (eC (.int 65527)) ģp) (Α (e2 xI Č ſo))) (Δb (.int 60))))
    (xM (BB (tE (e2 Zt ña (wU 1 (ua Ď) ša yt oH))))
     (YC 1 k_ (Η Ŋl (Ζ (υb (e2 xI (Δb (.int 70)) Ğp) (zA ą (Α (eC (.int 255)))) (Δb (.int 80))))))
     wP)))
def C4:FS:=
 (za (q_ 1 ųc)
  (za (qy KW ſc
   M7)
  Ŕf))
def Qi:Á D->Æ â:=FR 1 5 C4
def z4j(a:D):Qi [a]=yH 5 C4 [a]:=rfl
def z5v(x:Int):∀(ys:Á Int),Ub ŷa (Ε ěl)=À (decide (x∈ys)):=λys=>by
 have b:(xJ ŷa&&(ěl).all xJ)=Ã:=by rw[ĉ];refine⟨rfl,Ťd λd f=>?_⟩;obtain⟨y,_,rfl⟩:=Ů f;rfl
 show(match xJ ŷa&&(ěl).all xJ with|Ã=>À ċn|Â=>Ä)=_;rw[b];show À ċn=_
 congr 1
 unfold wI;rw[ŉg,ŉc];rw[þg,Ēg]
 constructor;rintro⟨y,c,e⟩;have a:(y==x)=Ã:=e;rw[ēr]at a;exact a▸c;intro h;exact⟨x,h,(éd x:(x==x)=Ã)⟩
def y43(c:Int):∃ps,Qi Òc=À (Ã,.lst ža)/\wq ps/\ù<=6:=by
 obtain⟨n,K,X,Y⟩:=qV c 40
 have N:KW Ām=À Ęg:=by unfold KW;refine ZK (n:=n%7) ?_ Å;simp only[Ó,K,ģa]
 obtain⟨σ',e1,ps,t,s,r,l,P,rfl⟩:=gz (g:=yD 2) (b:=M7) (λi σ=>∃(ps:Á ö) (t s r:Æ Sl),ù<=i/\wq ps/\σ=[À (Â,.int c),À (Ã,.lst ža),t,s,r])
  (ds:=wQ (n%7).toNat) (σ:=Ām) 0 ⟨[],Ä,Ä,Ä,Øa _,⟨λ_ h=>Ú h ã,λ_ h=>Ú h ã,ĉj⟩,rfl⟩ λi d σ q e=>by
   obtain⟨ps,t,s,r,l,P,rfl⟩:=e;rw[Ő]at l ⊢;obtain⟨k,_,rfl⟩:=Ů (Ľc q);obtain⟨v,B,Z,W⟩:=qV c (50+k);obtain⟨o,A,_,_⟩:=qV c (60+k);obtain⟨S,O,_,_⟩:=qV c (70+k);obtain⟨j,J,_,_⟩:=qV c (80+k)
   obtain⟨a,C,Q,G⟩:∃a:Int,zM (.lst [.int (v%9),.int (65527+v%9),.int (v%65536)]) (Β (o%3))=À ĭf/\0<=a/\a<65536:=by rcases(show o%3=0\/o%3=1\/o%3=2 by omega)with h|h|h<;>rw[h]<;>exact⟨_,rfl,by omega,by omega⟩
   obtain⟨f,I,b0,L⟩:∃f:Int,zM (.lst [.int (S%256),.int 0,.int 255]) (Β (j%3))=À (.int f)/\0<=f/\f<256:=by rcases(show j%3=0\/j%3=1\/j%3=2 by omega)with h|h|h<;>rw[h]<;>exact⟨_,rfl,by omega,by omega⟩
   have w:yo ša yt oH [À (Â,.int c),À (Â,.lst ža),À (Â,.int (k:Int)),À (Â,.int v),À (Â,.int a),Ä] ža=À ((ža).map λd=>match d with|.tup [x,_]=>x|d=>d):=Z8 (λd=>match d with|.tup [x,_]=>x|d=>d) λd q=>by obtain⟨p,_,rfl⟩:=Ů q;exact⟨_,rfl,rfl⟩
   have u:((ža).map λd=>match d with|.tup [x,_]=>x|d=>d)=wI (ź (·.1)):=by unfold wI;rw[Ĉb,Ĉb];rfl
   rw[u]at w;have m:=z5v a (ź (·.1));by_cases cc:a∈ź (·.1);refine⟨_,[À (Â,.int c),À (Ã,.lst ža),À (Â,.int (k:Int)),À (Â,.int v),À (Â,.int a)],rfl,.inl ?_,ps,_,_,_,by omega,P,rfl⟩;unfold M7;rw[î cc]at m;simp only[Ó,ýa,B,A,C,ģa,BB,Ld,jw,w,Zt,m];refine⟨_,[À (Â,.int c),À (Ã,.lst ūn),À (Â,.int (k:Int)),À (Â,.int v),À (Â,.int a)],rfl,.inl ?_,ps++[(a,f)],_,_,_,?_,?_,rfl⟩;unfold M7;rw[ă cc]at m
   have E:k_ (Ε ža) (.tup Ćp)=À (Ε ūn):=by
    show(Φd (ža) (ţf (ź pD++[.tup Ćp])))=_;have T:i<(Ęg).length:=(Ŗ q).1;have H:(Ęg).length=(n%7).toNat:=by simp[wQ]
    rw[Ï (by rw[ä];show _<16777216;omega),ğa];rfl
   simp only[Ó,ýa,B,A,C,ģa,BB,Ld,jw,w,Zt,m,O,J,I,E];rw[í];show ù+1<=_;omega;refine⟨λp e=>?_,λp e=>?_,?_⟩;rcases Ăa e with e|e;exact P.ad p e;cases ëa e;exact⟨Q,G⟩;rcases Ăa e with e|e;exact Èb p e;cases ëa e;exact⟨b0,L⟩;rw[ğa,ĉg];refine⟨P.nd,by simp,λx U y F=>?_⟩;obtain rfl:a=y:=(ëa F).symm;intro z;have R:x=a:=z;exact cc (R▸U)
 refine⟨ps,?_,P,?_⟩;rw[z4j];unfold C4;simp only[Ó,N,e1];have:(Ęg).length=(n%7).toNat:=by simp[wQ]
 omega
def Fq:FS:=
 (za (xM (YH (tE (We .bool ï)) (ω (We .int ï)))
   (yF đh)
   wP)
  (yF (Wd (e2 Šj ą ï) (e2 ăc ï Čn))))
def kT:Á D->Æ â:=FR 2 2 Fq
def z49(a b:D):kT ë=yH 2 Fq ë:=rfl
def Fm:FS:=
 (yF (zR kT (θ Ĩf)))
def Qb:Á D->Æ â:=FR 1 1 Fm
def z45(a:D):Qb [a]=yH 1 Fm [a]:=rfl
def Fu:FS:=
 (za (xM (YH (ω (We .tuple ï)) (tE (e2 xm Ŝc Ìb)))
   (yF đh)
   wP)
  (yF (Wd (zR Qb ís) (zR kT (zA (e2 zM ï ņ) ňk)))))
def Qe:Á D->Æ â:=FR 1 1 Fu
def z4a(a:D):Qe [a]=yH 1 Fu [a]:=rfl
def HA:FS:=(za (xM (ω (zR Qe Ōb))
     ōb
     wP)
    (za (xM (tE (e2 tI Ģg (JF 1)))
     ōb
     wP)
    (qY 1 Ģg øj)))
def FV:FS:=
 (za Ăk
  (za (xM (tE új)
   Ŕf
   wP)
  (za (xM Öo
   ōb
   wP)
  (za (qy ċh ſc
   HA)
  Ŕf))))
def kR:Á D->Æ â:=FR 1 3 FV
def z3p(a:D):kR [a]=yH 3 FV [a]:=rfl
def Rm:FE:=(zR kT (ο ŉk))
def CW:FS:=
 (za (xM (tE új)
   (qz (e2 LX (xi Šg) Ðe))
   wP)
  (za (xM (YH Öo (tE (e2 xm Ŝc Ðe)))
   ōb
   wP)
  (za (xM (ω (eL E9 (Ζ (wU 1 ċh Ńa yt Rm))))
   ōb
   wP)
  (qz (eL Wg üb)))))
def Qr:Á D->Æ â:=FR 1 1 CW
def z59(a:D):Qr [a]=yH 1 CW [a]:=rfl
def F4:yQ:=
 (yz (pR 0 [] Ĳ Ŷa (JC Ŀ U0 (pL 0 þo (pL 0 ýo xN))))
  (yz (pR 0 [] Ĳ Ád ęd)
  (pR 0 [] Ĳ ĥc ęd)))
def j3:FM:=vZ 1 1 F4
def z38(a:M):j3 [a]=wW 1 1 F4 [a]:=rfl
def F3:yQ:=
 (yz (pR 0 [] Ĳ Úa (xY Ď))
  (yz (pR 0 [] Ĳ Ģb Èl)
  (yz (pR 0 [] Ĳ òc (xY (ur Qr ţc)))
  (yz (pR 0 [] Ĳ ņc (xY (ur kR àh)))
  (pQ (qk Ŏn ŏn))))))
def WC:FM:=vZ 5 5 F3
def z37(a b x2 x3 x4:M):WC Ōp=wW 5 5 F3 Ōp:=rfl
theorem f8{g:MG}{b:yQ}(P:Nat->yA->Prop):∀{ds:Á D}{β:yA}(n:Nat),P n β->(∀i d β,ds[i]?=À d->P (n+i) β->∃β1 β2,g d β=À β1/\b β1=À Œb/\P (n+i+1) β2)->
  ∃β',jM g b ds β=À Įs/\P (n+Đ) β'
 | [],β,n,h,_=>⟨β,rfl,h⟩|d::ds,β,n,h,Êd=>by
  obtain⟨β1,β2,e1,e2,r⟩:=Êd 0 d β rfl h
  obtain⟨β',p,q⟩:=f8 P (ds:=ds) (β:=β2) ļ r λi c τ s l=>by obtain⟨a,o,j,e,k⟩:=Êd ê c τ (by simpa using s) Īm;exact⟨a,o,j,e,by rw[show n+1+i+1=n+ê+1 by omega];exact k⟩
  refine⟨β',?_,by rw[ĕ,show n+(Đ+1)=n+1+Đ by omega];exact q⟩;show((g d β).bind λβ1=>(Ņh).bind λf=>match f with|.nx β2=>jM g b ds β2|.ct β2=>jM g b ds β2|.bk β2=>À Œb|.rt m β2=>À Ñk)=_;rw[e1];show(Ņh).bind _=_;rw[e2];exact p
def Gi{i:Int}{w:Nat}(e:w<=64):kT [.int i,.int (w:Int)]=À (Â,.bl (decide ģb&&decide (i<2 ^ w))):=by
 have b:pT 1 (w:Int)=Ã:=by unfold pT;rw[î Å,î Å];rfl
 have d:ut ûa Ŵp=À âq:=by show(match pT 1 (w:Int)with|Ã=>À Äg|Â=>Ä)=_;rw[b];show À Äg=_;rw[Ň,Ăd]
 rw[z49];unfold Fq;by_cases c:0<=i;have a:decide ģb=Ã:=î c;rw[a];simp only[Ó,a,b,Ň,Ăd];have a:decide ģb=Â:=ă c;rw[a];simp only[Ó,a,ŋc]
theorem x8g{Ws:Á Int}(h:ħa=8)(l:∀w∈Ws,0<=w/\w<4294967296):Qr ŷg=À (Ã,.lst ć):=by
 have e:yo Ńa yt Rm [À (Â,.lst ć),Ä] ć=À ((ć).map λ_=>.bl Ã):=Z8 (λ_=>.bl Ã) λd n=>by
  obtain⟨w,f,rfl⟩:=Ů n;refine⟨_,rfl,?_⟩;obtain⟨a,b⟩:=l w f;have g:=Gi (i:=w) (w:=32) È;have c:(2:Int) ^ 32=4294967296:=by decide
  rw[c,î a,î b]at g;unfold Rm;simp only[Ó,show kT [.int w,.int 32]=À (Â,.bl Ã)from g]
 have e2:(ć).map (λ_=>İc Ã)=(ŵ 8 Ã).map İc:=by unfold wI;rw[Ĉb,List.map_replicate,<-h,<-List.map_const'];rfl
 have k:E9 [.lst [.bl Ã,.bl Ã,.bl Ã,.bl Ã,.bl Ã,.bl Ã,.bl Ã,.bl Ã]]=À Ę:=rfl;rw[e2]at e;have m:Wg ŷg=À ĥa:=rfl
 have j:xm (.int ((ć).length:Int)) ĉa=À ñ:=by rw[jW,h];rfl
 rw[z59];unfold CW;simp only[Ó,j,e,k,m]
noncomputable def kP(ps:Á ö):Á Ĩ:=ź λp=>.inl p.1
noncomputable def vP(ps:Á ö):Á D:=ź λp=>.int p.2
def Gc{ps:Á ö}{a:Int}:yg ē œb=decide (a∈ź (·.1)):=by
 unfold yg kP;rw[ŉg,ŉc,þg,Ēg]
 constructor;rintro⟨p,b,e⟩;have c:=ŀ e;exact ŧe ⟨p,b,Âc c⟩;intro h;obtain⟨p,b,e⟩:=Ů h;exact⟨p,b,î (Ëa Ía e)⟩
def ig{ps:Á ö}{a b:Int}(h:a ∉ ź (·.1)):wO ē œb=kP ðq/\w6 ē Ĭ œb (.int b)=vP ðq:=by
 have c:yg ē œb=Â:=by rw[Gc];exact ă h
 unfold wO w6;rw[Ð Àp,Ð Àp];unfold kP vP;rw[ğa,ğa];exact⟨rfl,rfl⟩
def y42{p:Int×Int}(b:0<=p.1/\p.1<65536)(c:0<=p.2/\p.2<256):Qe [pD p]=À (Â,.bl Ã):=by
 have d:=Gi (i:=p.1) (w:=16) È;rw[î b.1,î (show p.1<2 ^ 16 from b.2)]at d;have a:=Gi (i:=p.2) (w:=8) È;rw[î c.1,î (show p.2<2 ^ 8 from c.2)]at a;have h:kT [.int p.1,.int 16]=À (Â,.bl Ã):=d;have e:kT [.int p.2,.int 8]=À (Â,.bl Ã):=a
 have f:Qb [.int p.1]=À (Â,.bl Ã):=by rw[z45];unfold Fm;simp only[Ó,h]
 have g:xm (.int ((0+1+1:Nat):Int)) ćc=À ñ:=rfl;rw[z4a];unfold Fu pD;simp only[Ó,Wb,Wc,f,e,g]
theorem cD{ps:Á ö}(P:wq ps)(v:ù<=1000):kR [.lst ža]=À (Ã,.dic ē Ĭ):=by
 obtain⟨σ',e1,x,rfl⟩:=gz (g:=yD 2) (b:=HA) (λi σ=>∃x:Æ Sl,σ=[À (Â,.lst ža),À (Ã,.dic Ħf (vP ře)),x])
  (ds:=ź pD) (σ:=[À (Â,.lst ža),À (Ã,.dic [] []),Ä]) 0 ⟨Ä,rfl⟩ λi d σ f a=>by
   obtain⟨x,rfl⟩:=a;rw[Ő];have e:i<ù:=by have:=ľh.1;rw[ä]at this;exact this
   rw[ş,Ģ e]at f;cases f;generalize a:ps[i]=p;have j:p∈ps:=a▸Ÿb e;have n:=y42 (P.ad p j) (Èb p j);have r:ĥk ê=ĥk i++[p]:=by rw[Ōd e,a]
   have c:p.1 ∉ (ře).map (·.1):=by
    have l:=P.nd
    have e2:ź (·.1)=(ře).map (·.1)++p.1::(ps.drop ê).map (·.1):=by rw[<-a,<-ř,<-Ůb e,<-ğa,Ũa]
    rw[e2,ĉg]at l;intro z;exact l.2.2 _ z _ ĵ rfl
   have h:tI íf (.dic Ħf (vP ře))=À ñ:=by show((uI íf).bind λk=>À (yg Ħf k)).bind _=_;show À (İc (yg Ħf ťr))=_;rw[Gc,ă c]
   obtain⟨t,m⟩:=ig (b:=p.2) c;have u:(Ħf).length<yZ:=by unfold kP;rw[ä,ìa];show _<16777216;omega
   refine⟨_,[À (Â,.lst ža),À (Ã,.dic (kP Ùs) (vP Ùs)),À (Â,pD p)],rfl,.inl ?_,_,rfl⟩;rw[r];unfold HA;have q:zM (pD p) ę=À íf:=rfl;have s:zM (pD p) ûa=À (.int p.2):=rfl;have o:uI íf=À ťr:=rfl;rw[<-t,<-m];simp only[Ó,n,q,s,h,qY,o,Ï u]
 rw[Ő,ä,ëd]at e1;rw[z3p];unfold FV;simp only[Ó,e1]
noncomputable def u5(n:Nat):Á Ĩ:=(Źc).map λk:Nat=>.inl (k:Int)
theorem EZ{g:Nat->D}{k:Nat}:∀{xs:Á Nat},k∈xs->Ă (àc λk:Nat=>(.inl (k:Int):Sum Int Str)) (àc g) ŷp=À (g k)
 | [],h=>Ú h ã|x::xs,h=>by rw[ř,ř];unfold Ă;by_cases c:x=k;rw[Ï Ņr,c];rw[Ð (λz=>c (by have:=Âc z;omega))];exact EZ ŝm
def nI{n:Nat}:yg ũh õd=Â:=by unfold yg u5;rw[ŉg,ŷi];intro k a;have:=ôc a;show ¬ decide ((.inl (k:Int):Sum Int Str)=.inl (n:Int))=Ã;rw[þg];intro z;have:=Âc z;omega
def x04{Ws:Á Int}{hk:Á Ĩ}{hv:Á D}:U0 [.obj Ŀ [] [],.fz ĥa,.fz ùc]=À ([st ć Â Â Â hk hv,.fz ĥa,.fz ùc],.fz .zE):=by have e1:yo ĵd yt oG [Ä,À (Â,.lst ć),À (Â,.dic hk hv),Ä] X8=À Žl:=rfl;have e2:Y_ [.lst Žl]=À (Xg Â Â Â):=rfl;have b:Wg ŷg=À ĥa:=rfl;have a:LU [.dic hk hv]=À ùc:=rfl;have c:∀{x:M}{Ō:yA},gB x (Λ (.obj Ŀ [] [])) 0 [] [Ŀ] Š=À (Ξ (.obj Ŀ [Š] [x])):=rfl;have e:∀{x y:M}{Ō:yA},gB x (Λ (.obj Ŀ [Š] [y])) 0 [] [Ŀ] łb=À (Ξ (.obj Ŀ Ðs [y,x])):=rfl;have d:∀{x y z:M}{Ō:yA},gB x (Λ (.obj Ŀ Ðs [y,z])) 0 [] [Ŀ] ïa=À (Ξ (.obj Ŀ Įj [y,z,x])):=rfl;rw[z3h];unfold FH;simp only[Ĥ,gs,e1,e2,b,a,c,e,d];rfl
def sS{C:Str}(h:vM C){T fw fh:D}{e:Int}{Ws:Á Int}{hk:Á Ĩ}{hv:Á D}{fs:Á Str}{ms:Á M}:j3 [.obj C Įe Êm]=À ([yE C T e ĥa ùc (st ć Â Â Â hk hv) 0 0],.fz .zE):=by
 have j:pN ép þo=À (.fz ĥa):=by cases h<;>rfl
 have i:pN ép ýo=À (.fz ùc):=by cases h<;>rfl
 have m:∀{a b c d x:M}{Ō:yA},gB x ĕi 0 [] Ĳ Ŷa=À (Ξ (.obj C Ŷn [a,b,c,d,x])):=by intros;cases h<;>rfl
 have l:∀{a b c d f x:M}{Ō:yA},gB x (Λ (.obj C Ŷn [a,b,c,d,f])) 0 [] Ĳ Ád=À (Ξ (.obj C ün [a,b,c,d,f,x])):=by intros;cases h<;>rfl
 have k:∀{a b c d f g x:M}{Ō:yA},gB x (Λ (.obj C ün [a,b,c,d,f,g])) 0 [] Ĳ ĥc=À (Ξ (.obj C jA [a,b,c,d,f,g,x])):=by intros;cases h<;>rfl
 rw[z38];unfold F4;simp only[Ĥ,j,i,x04,m,l,k];rfl
def fM{C:Str}(f:vM C){T g:D}{e:Int}{Ws:Á Int}{ps:Á ö}(m:ħa=8)(j:∀w∈Ws,0<=w/\w<4294967296)(k:kR [g]=À (Ã,.dic ē Ĭ)) :WC [.obj C [] [],.fz T,.fz Ğh,.fz ĥa,.fz g]=À ([yE C T e ĥa Ŝd ėi 0 0,.fz T,.fz Ğh,.fz ĥa,.fz g],.fz .zE):=by
 have q:∀{x:M}{Ō:yA},gB x (Λ (.obj C [] [])) 0 [] Ĳ Úa=À (Ξ (.obj C [Úa] [x])):=by intros;cases f<;>rfl
 have l:∀{a x:M}{Ō:yA},gB x (Λ (.obj C [Úa] [a])) 0 [] Ĳ Ģb=À (Ξ (.obj C Îs [a,x])):=by intros;cases f<;>rfl
 have n:∀{a b x:M}{Ō:yA},gB x (Λ (.obj C Îs ë)) 0 [] Ĳ òc=À (Ξ (.obj C Óq [a,b,x])):=by intros;cases f<;>rfl
 have i:∀{a b c x:M}{Ō:yA},gB x (Λ (.obj C Óq [a,b,c])) 0 [] Ĳ ņc=À (Ξ (.obj C Įe [a,b,c,x])):=by intros;cases f<;>rfl
 have o:=sS f (T:=T) (e:=e) (fw:=.zE) (fh:=.zE) (Ws:=Ws) (hk:=kP ps) (hv:=vP ps) (fs:=[]) (ms:=[])
 have h:∀{a b c d:M}{Ō:yA},qk Ŏn ŏn ĕi=qP j3 ċd ĕi:=by
  intro a b c d Ō;cases f with
  |row=>show(match qP j3 ċd Òn with|À d=>À d|Ä=>Ä)=_;cases qP j3 ċd Òn<;>rfl
  |Łd=>rfl
 rw[z37];unfold F3;simp only[Ó,yz,pQ,pR,xY,gv,Æb,wW,E6,Zl,@Option.map_some.{0,0},@List.take_succ_cons.{0},@List.take_zero.{0},q,l,n,i,x8g m j,k,h];simp only[Ĥ,o]
def Fo:FS:=
 (yF (e2 zk ņe Ôl))
def U8:Á D->Æ â:=FR 1 1 Fo
def z47(a:D):U8 [a]=yH 1 Fo [a]:=rfl
def oI:FE:=Ď
def Ro:FT:=(ω (zR U8 Đb))
def CJ:FS:=
 (qz (wU 1 ċh Ńa Ro oI))
def qi:Á D->Æ â:=FR 1 1 CJ
def z4x(a:D):qi [a]=yH 1 CJ [a]:=rfl
def eJ{d:D}(h:vt d):U8 [d]=À (Â,.bl (xD d)):=by obtain⟨w,a,b,_⟩:=z65 h;rw[z47];unfold Fo;simp only[Ó,a,b]
theorem Mj{zF:Á D}(h:∀d∈zF,vt d):qi ŕa=À (Ã,.lst ĳa):=by
 have e:=Js (g:=yD 1) (c:=Ro) (e:=oI) (σ:=[À (Â,.lst zF),Ä]) üd id (ds:=zF) λd a=>by have b:=eJ (h d a);refine⟨_,rfl,?_,λ_=>rfl⟩;unfold Ro;simp only[Ó,b]
 rw[Śg]at e;rw[z4x];unfold CJ;simp only[Ó,e]
def Fn:FS:=
 (yF (e2 tI ņe (eC Li)))
def Qc:Á D->Æ â:=FR 1 1 Fn
def z46(a:D):Qc [a]=yH 1 Fn [a]:=rfl
def M6:FS:=(xM (tE (zR U8 ţc))
     (qY 1 ġg ď)
     (Ν (e2 ŵe ď ņ)))
def Fw:FS:=
 (za Ăk
  (za ĭr
  (za (qy ċh ĵd
   M6)
  Ŕf)))
def UB:Á D->Æ â:=FR 1 4 Fw
def z4c(a:D):UB [a]=yH 4 Fw [a]:=rfl
def eI{d:D}(h:vt d):Qc [d]=À (Â,.bl (wG d)):=by
 have:∃w,zM d ę=À Üa/\tI Üa Li=À (.bl (wG d)):=by
  cases h with
  |źh=>exact⟨_,rfl,rfl⟩|Ţa h=>obtain⟨w,a,b,_,c,_⟩:=T1 h;exact⟨w,a,by rw[c];exact b⟩
  |vo=>exact⟨_,rfl,rfl⟩|øb t hw hk=>rcases hw with rfl|rfl<;>exact⟨_,rfl,rfl⟩
 obtain⟨w,a,b⟩:=this;rw[z46];unfold Fn;simp only[Ó,a,b]
theorem z66(h:vt d)(a:xD d=Ã):∃t,d=ub t:=by
 cases h with
 |źh t=>exact⟨t,rfl⟩|Ţa h=>obtain⟨_,_,_,z,_⟩:=Kb (m:=0) įf;rw[z]at a;cases a
 |vo=>cases a|øb t hw hk=>rcases hw with rfl|rfl<;>cases a
def z74{zF:Á D}(h:∀d∈zF,vt d)(A:Êc<=1000):∃ks vs,UB ŕa=À (Ã,.dic ks vs)/\ĭ=Ā/\∀t,Ă ks vs Ąe=(Ńg).map λn:Nat=>þ n:=by
 obtain⟨σ',e,ks,vs,o,f,s,c,rfl⟩:=gz (g:=yD 3) (b:=M6) (λi σ=>∃ks vs o,ĭ=Ā/\ĭ<=i/\(∀t,Ă ks vs Ąe=((vd t (ðf i)).2).map λn:Nat=>þ n)/\σ=[À (Â,.lst zF),À (Ã,.dic ks vs),À (Â,.int ((Ýq).length:Nat)),o]) (ds:=zF)
  (σ:=[À (Â,.lst zF),À (Ã,.dic [] []),À (Â,.int 0),Ä]) 0 ⟨[],[],Ä,rfl,Øa _,λt=>rfl,rfl⟩ (by
  rintro i v σ m ⟨ks,vs,o,f,s,c,rfl⟩;rw[Ő]at *;have y:i<Êc:=ēl.1;have r:zF[i]=v:=ēl.2;have k:ðf ê=ðf i++[v]:=by rw[Ōd y,r]
  have q:=h v (Ľc m);have l:=eJ q;generalize hn:(Ýq).length=n;cases hL:xD v with
  |Ã=>
   obtain⟨u,rfl⟩:=z66 q hL;rw[hL]at l;have w:zM (ub u) ûa=À (.str u):=rfl;have x:uI (.str u)=À üf:=rfl;have j:ĭ<yZ:=by show _<16777216;omega
   have a:(Čp).length=n:=by rw[k,Ŝe,í,hn];rfl
   have p:(ër).length<=i+1:=by
    unfold wO
    split;omega;rw[í];show _+1<=_;omega
   refine⟨_,[À (Â,.lst zF),À (Ã,.dic ër (w6 ks vs üf ŵp)),À (Â,.int (n:Nat)),À (Â,ub u)],rfl,.inl ?_,wO ks üf,w6 ks vs üf ŵp,_,T3 f,p,λt=>?_,by rw[a]⟩
   .unfold M6;simp only[Ó,l,qY,w,x,Ï j]
   .rw[z31 f,k,iL,hn,c];by_cases e:u=t
    .rw[Ï (by rw[e]),Ï e];rfl
    .rw[Ð (λz=>e (Źq z)),Ð e]
  |Â=>
   rw[hL]at l
   have a:(Čp).length=n+1:=by rw[k,Ŝe,í,hn,İi (by rw[hL];rfl)];rfl
   refine⟨_,[À (Â,.lst zF),À (Ã,.dic ks vs),À (Â,.int ((n:Nat)+1:Int)),À (Â,v)],rfl,.inl ?_,ks,vs,_,f,by omega,λt=>?_,by rw[a];rfl⟩
   .unfold M6;simp only[Ó,l]
   .rw[k,iN hL,c])
 rw[Ő,ëd]at c;refine⟨ks,vs,?_,f,c⟩;rw[z4c];unfold Fw;simp only[Ó,e]
theorem eV{zF:Á D}(h:∀d∈zF,vt d)(c:Êc<=1000):∃ks vs,UB ŕa=À (Ã,.dic ks vs)/\∀t,Ă ks vs Ąe=(Ńg).map λn:Nat=>þ n:=by obtain⟨ks,vs,a,_,b⟩:=z74 h c;exact⟨ks,vs,a,b⟩
def Pk{x:Int}{n:Nat}(b:0<=x)(a:x<4294967296)(c:n<=64):pT x (n:Int)=Ã:=by unfold pT;rw[î Å,î Å,î (show x.natAbs<2 ^ 64 by omega)];rfl
def ZG{x:Int}{l w:Nat}(a:w<=64):wz [.int x,.int (l:Int),.int (w:Int)]=À (Â,.int (x/2 ^ l%2 ^ w)):=by
 have d:pT 1 (w:Int)=Ã:=Pk È È a
 have c:ut ûa Ŵp=À âq:=by show(match pT 1 (w:Int)with|Ã=>À Äg|Â=>Ä)=_;rw[d];show À Äg=_;rw[Ň,Ăd]
 have b:JL ŷa (.int (l:Int))=À (Β Ćs):=by show(match decide ((0:Int)<=(l:Int))with|Ã=>À ßn|Â=>Ä)=_;rw[î (Òd l)];show À ßn=_;rw[Ň]
 have e:=i8 Ćs w;rw[Ăd]at e;rw[dk];unfold L6;simp only[yH,za,yO,yF,e1,e2,z6,eC,ăb,ř,Éf,ũe,āp,ĕ,Űe,Ŀc,List.replicate_zero,İo,ũi,List.getElem?_cons_succ,List.getElem?_cons_zero,c,b,gm,pP,Nat.reduceAdd,Nat.reduceSub,Int.reduceSub,e]
noncomputable def v_(ps:Á ö)(a b:Int):Á ö:=if a∈ź (·.1)then ź ſm else ps++[(a,b)]
noncomputable def gP:Á ö->Int->Int
 | [],_=>0|p::ps,a=>if p.1=a then p.2 else gP ps a
theorem dS(a:Int):∀ps:Á ö,(Ă ē Ĭ œb).getD ę=.int (gP ps a)
 | []=>rfl|p::ps=>by show(if(Ía p.1:Sum Int Str)=.inl a then À (þ p.2)else Ă ē Ĭ œb).getD ę=.int (if p.1=a then p.2 else gP ps a);by_cases h:p.1=a;rw[Ï ăk,Ï h];rfl;rw[Ð àp,Ð h];exact dS a ps
theorem Z0(a:Int):∀{ps:Á ö},(∀p∈ps,0<=p.2/\p.2<256)->0<=gP ps a/\gP ps a<256
 | [],_=>⟨by show(0:Int)<=0;decide,by show(0:Int)<256;decide⟩|p::ps,h=>by
  unfold gP
  split;exact h p ĵ;exact Z0 a λq b=>h q ąf
theorem oJ(a b:Int):∀ps:Á ö,ľb (λk' x=>if k'=(Ía a:Sum Int Str)then þ b else x) ē Ĭ=vP öi
 | []=>rfl|p::ps=>by show(if(Ía p.1:Sum Int Str)=.inl a then þ b else .int p.2)::ľb _ ē Ĭ=þ Ėn.2::vP öi;rw[oJ a b ps];by_cases h:p.1=a;rw[Ï ăk,Ï h];rw[Ð àp,Ð h]
theorem EQ(a b:Int):∀ps:Á ö,(öi).map (·.1)=ź (·.1)
 | []=>rfl|p::ps=>by show Ėn.1::_=p.1::_;rw[EQ a b ps];by_cases h:p.1=a;rw[Ï h,<-h];rw[Ð h]
theorem z6i(h:ź (·.1)=qs.map (·.1)):kP ps=kP qs:=by
 have e:∀l:Á ö,kP l=(Åa (·.1)).map Ía:=λl=>by rw[Ĉb];rfl
 rw[e,e,h]
theorem y91(ps:Á ö)(a b:Int):wO ē œb=kP ťg/\w6 ē Ĭ œb (.int b)=vP ťg:=by by_cases h:a∈ź (·.1);unfold v_ wO w6;rw[Ï h,Gc,Ï Ēl,Ï Ēl,oJ,z6i (EQ a b ps)];exact⟨rfl,rfl⟩;unfold v_;rw[Ð h];exact ig h
def y93{ps:Á ö}{a b:Int}(P:wq ps)(f:0<=a)(d:a<65536)(b0:0<=b)(e:b<256):wq ťg:=by
 unfold v_;by_cases h:a∈ź (·.1);rw[Ï h]
 have m:∀q∈ź ſm,q=(a,b)\/q∈ps:=λq c=>by obtain⟨p,j,rfl⟩:=Ů c;by_cases z:p.1=a;rw[Ï z];exact .inl rfl;rw[Ð z];exact .inr j
 refine⟨λq c=>?_,λq c=>?_,?_⟩;rcases m q c with rfl|z;exact⟨f,d⟩;exact P.ad q z;rcases m q c with rfl|z;exact⟨b0,e⟩;exact Èb q z;rw[EQ];exact P.nd;rw[Ð h];refine⟨λq c=>?_,λq c=>?_,?_⟩;rcases Ăa c with z|z;exact P.ad q z;cases ëa z;exact⟨f,d⟩;rcases Ăa c with z|z;exact Èb q z;cases ëa z;exact⟨b0,e⟩;rw[ğa,ĉg];refine⟨P.nd,by simp,λx g y i=>?_⟩;obtain rfl:a=y:=(ëa i).symm;exact λz=>h (by rw[<-show x=a from z];exact g)
def XX{ps:Á ö}{a b:Int}:(ťg).length<=ù+1:=by
 unfold v_
 split;rw[ä];omega;rw[í];exact Øa _
section
variable{Ws:Á Int}{a b c:Ì}{ps:Á ö}
def bW{x n:Int}:U2 [.int x,.int n]=À (Â,.int ōc):=by
 have a:wz [.int (x+n),.int 0,.int 16]=À (Â,.int ōc):=by have:=ZG (x:=x+n) (l:=0) (w:=16) È;rw[Êf,Āc]at this;exact this
 rw[z3l];unfold FN;simp only[Ó,ýa,a]
theorem cC{x:Int}:U4 Ÿn=À (Â,.int (gP ps x)):=by have a:uI ŷa=À ãl:=rfl;rw[z3o];unfold FU;simp only[Ó,Cw,a,dS]
noncomputable def UT(x:Int):Á D:=[.int řc,.int Řc,.int ŗc,.int ąc]
theorem dB{x:Int}:WG Þb=À (Ã,.lst řf):=by
 have b:tJ ą Ïb [À (Â,.int x)]=À (wQ 4):=ZK (n:=4) rfl È
 have e:yo Ńa yt BW ŋe (wQ 4)=À řf:=by
  have:=Z8 (g:=yD 1) (e:=BW) (σ:=ŋe) (ds:=wQ 4) (Αd (Υ (x+j))) λd a=>by obtain⟨k,_,rfl⟩:=Ů a;refine⟨_,rfl,?_⟩;unfold BW;simp only[Ó,bW]
  exact this
 rw[z44];unfold Fk;simp only[Ó,b,e]
theorem x8a(P:wq ps){x:Int}:Qo Ÿn=À (Â,.int (gP ps řc+gP ps Řc*256+gP ps ŗc*65536+gP ps ąc*16777216)):=by
 have e:yo ſc yt BY Čm řf=À [.int (gP ps řc),.int (gP ps Řc),.int (gP ps ŗc),.int (gP ps ąc)]:=by
  have:=Z8 (g:=yD 2) (e:=BY) (σ:=Čm) (ds:=UT x) (Αd (gP ps j)) λd b=>by
   obtain⟨j,rfl⟩:∃j,d=.int j:=by
    rcases ľ b with rfl|b;exact⟨_,rfl⟩
    rcases ľ b with rfl|b;exact⟨_,rfl⟩
    rcases ľ b with rfl|b;exact⟨_,rfl⟩;exact⟨_,ëa b⟩
   refine⟨_,rfl,?_⟩;unfold BY;simp only[Ó,cC]
  exact this
 obtain⟨J,s⟩:=Z0 řc Èb;obtain⟨b0,H⟩:=Z0 Řc Èb;obtain⟨p,K⟩:=Z0 ŗc Èb;obtain⟨L,O⟩:=Z0 ąc Èb;generalize gP ps řc=g0 at *;generalize gP ps Řc=g1 at *;generalize gP ps ŗc=g2 at *;generalize gP ps ąc=g3 at *
 have c:∀{g:Int}(n:Nat),0<=g->g<256->n<=64->ut (.int g) Ñb=À (Β (g*2 ^ n)):=λ{g} n q f F=>by have f:=Pk (x:=g) (n:=n) q Å F;show(match pT g (n:Int)with|Ã=>À àn|Â=>Ä)=_;rw[f];show À àn=_;rw[Ň]
 have r:Qq [.lst Űf]=À (Â,.int Ÿm):=by
  have z:qU ï ģl [À (Â,.lst Űf)]=À ųl:=rfl;have C:ut ıs ę=À ıs:=by have:=c 0 J s È;rw[Êf,Õf]at this;exact this
  have E:ut (.int g1) ĉa=À (Β (g1*256)):=c 8 b0 H È;have A:ut (.int g2) Ļa=À (Β (g2*65536)):=c 16 p K È;have N:ut (.int g3) îh=À (Β (g3*16777216)):=c 24 L O È
  have l:yo (uZ 1 2) yt Rl èn ųl=À Úm:=by
   have a:∀(u v w:D),ut u v=À w->∃σ1,uZ 1 2 Ŝq èn=À σ1/\Rl σ1=À w:=λu v w h=>⟨[À (Â,.lst Űf),À (Â,u),À (Â,v)],rfl,h⟩
   obtain⟨T,o,I⟩:=a _ _ _ C;obtain⟨X,Q,S⟩:=a _ _ _ E;obtain⟨W,m,t⟩:=a _ _ _ A;obtain⟨U,B,k⟩:=a _ _ _ N;simp only[yo,o,Q,m,B,I,S,t,k,yt,ăb]
  have R:EK [.lst Úm]=À (Β Ÿm):=by
   show(match((żf).all λi=>decide ģb&&decide žo)&&decide ((żf:Á Int).length<=1000)with|Ã=>À (þ (żf:Á Int).sum)|Â=>Ä)=_
   have G:((żf:Á Int).all λi=>decide ģb&&decide žo)=Ã:=by simp only[Àa,List.all_nil,ĉ,šo,and_true];refine⟨⟨?_,?_⟩,⟨?_,?_⟩,⟨?_,?_⟩,?_,?_⟩<;>omega
   rw[G];show À (þ (g0+(g1*256+(g2*65536+(g3*16777216+0)))))=_
   congr 2
   omega
  rw[z57];unfold CU;simp only[Ó,z,l,R]
 rw[z55];unfold CS;have y:k9 (Ε řf)=À řf:=rfl;simp only[Ó,dB,y,e,r]
theorem z0c{x:Int}:U5 Þb=À (Â,.tup Ãm):=by
 have k:wz [.int x,.int 0,.int 8]=À (Â,.int (x%256)):=by have:=ZG (x:=x) (l:=0) (w:=8) È;rw[Êf,Āc]at this;exact this
 have p:wz [.int x,.int 8,.int 8]=À (Â,.int (x/256%256)):=ZG (l:=8) (w:=8) È;have o:wz [.int x,.int 16,.int 8]=À (Â,.int (x/65536%256)):=ZG (l:=16) (w:=8) È;have g:wz [.int x,.int 24,.int 8]=À (Â,.int (x/16777216%256)):=ZG (l:=24) (w:=8) È;have a:∀(u w:D),wz [.int x,u,.int 8]=À (Â,w)->∃σ1,yD 1 u ŋe=À σ1/\O2 σ1=À w:=λu w h=>⟨[À (Â,.int x),À (Â,u)],rfl,by unfold O2;simp only[Ó,h]⟩
 obtain⟨t,e,f⟩:=a _ _ k;obtain⟨s,m,n⟩:=a _ _ p;obtain⟨r,c,j⟩:=a _ _ o;obtain⟨q,d,b⟩:=a _ _ g
 have l:yo Ńa yt O2 ŋe dY=À Ãm:=by show yo Ńa yt O2 ŋe [.int 0,.int 8,.int 16,.int 24]=_;simp only[yo,e,m,c,d,f,n,j,b,yt,ăb]
 have i:∀w x y z:D,Wh [.lst Ós]=À (.tup Ós):=λ_ _ _ _=>rfl
 rw[z3q];unfold FW;simp only[Ó,Ui,l,i]
theorem il{x w:Int}(f:ù<=1000):UF Żm=À ([.own (.dic (kP îq) (vP îq)),.fz ŷa,.fz Ĝh],.fz .zE):=by
 have e:wz [.int w,.int 0,.int 8]=À (Â,.int Će):=by have:=ZG (x:=w) (l:=0) (w:=8) È;rw[Êf,Āc]at this;exact this
 have a:uI ŷa=À ãl:=rfl;have d:decide ((ē).length<yZ)=Ã:=î (by unfold kP;rw[ä];show _<16777216;omega);obtain⟨c,b⟩:=y91 ps x Će;rw[<-c,<-b,z4u];unfold CG;simp only[Ĥ,e,a,d]
def Y9(ps:Á ö)(x w:Int):Á ö:=v_ (v_ (v_ (v_ ps řc Će) Řc Ëk) ŗc ĸj) ąc ęg
def y5y{x w:Int}(E:ù<=900):Qm Żm=À ([.own ĳm,.fz ŷa,.fz Ĝh],.fz .zE):=by
 have z:qU îr çr [Ä,À (Â,.int x),À (Â,.int w),Ä,Ä]=À Ťl:=by unfold qU;simp only[Ó,dB,z0c];rfl
 have c:∀(d:Á ö) (u v:Int) (f e:Æ M),åa<=1000->0<=v->v<256->M8 [À Ċn,À ðh,À Ŧe,À (.fz (.int u)),À (.fz Ăe)]=À (ηc (.dic (kP Ĵr) (vP Ĵr)) (.int u) Ăe):=λd u v f e y t j=>by have g:=il (ps:=d) (x:=u) (w:=v) y;rw[Še t j]at g;have l:ge Ċn 0 []=.p 0 []:=rfl;unfold M8;simp only[Ĥ,l,g]
 have k:∀(o f e:Æ M)(u v:D),Uo 3 4 Ŝq [o,À ðh,À Ŧe,f,e]=À [o,À ðh,À Ŧe,À (.fz u),À (.fz v)]:=λ_ _ _ _ _=>rfl
 have A:=XX (ps:=ps) (a:=(x+0)%65536) (b:=w%256);have s:=c ps řc Će Ä Ä Å Å Å;generalize hq0:v_ ps řc Će=p0 at *;have C:=XX (ps:=p0) (a:=īb%65536) (b:=w/256%256);have r:=c p0 Řc Ëk Ä Ä Å Å Å;generalize hq1:v_ p0 Řc Ëk=p1 at *;have B:=XX (ps:=p1) (a:=(x+2)%65536) (b:=w/65536%256);have q:=c p1 ŗc ĸj Ä Ä Å Å Å;generalize hq2:v_ p1 ŗc ĸj=p2 at *;have h:=c p2 ąc ęg Ä Ä Å Å Å
 have i:v_ p2 ąc ęg=Y9 ps x w:=by unfold Y9;rw[hq0,hq1,hq2]
 rw[i]at h
 have m:jM (Uo 3 4) M8 Ťl [À Äh,À ðh,À Ŧe,Ä,Ä]=À (ηc ĳm (Β ąc) (Β ęg)):=by simp only[jM,k,s,r,q,h,ăb]
 have n:Æb Äh=Ä:=rfl;rw[z4v];unfold CH;simp only[Ĥ,n,z,m]
theorem y67:zM Ĝg ę=À x:=rfl
def Md{x y z w:D}:zM Ĝg ûa=À y:=rfl
def y68{x y z w:D}:zM Ĝg ćc=À z:=rfl
def y69{x y z w:D}:zM Ĝg ğh=À w:=rfl
def Ot{k:Str}{hk:Á Ĩ}{hv:Á D}{d:D}{s:Nat}{x n:Int}(e:Ws[s]?=À x):Yf [xZ ć a b c hk hv,.tup [.str k,d,.int (s:Int),.int n]]=À (Â,.int ōc):=by rw[z3k];unfold FK;simp only[Ó,jE,y68,y69,qr e,bW]
theorem z22{d s:Nat}{x n:Int}(f:d<ħa)(e:Ws[s]?=À x):QV [st ć a b c ē Ĭ,.fz èm]=À ([st (wI (ōf d (gP ps ōc))) a b c ē Ĭ,.fz èm],.fz .zE):=by rw[z3w];unfold Fc;simp only[Ĥ,uE,EL,Ot e,cC,Md,gg,k8,jW,gx f,kE]
theorem z23(P:wq ps){d s:Nat}{x n:Int}(e:d<ħa)(f:Ws[s]?=À x):QW [st ć a b c ē Ĭ,.fz óm]=À ([st (wI (ōf d (gP ps ŋi+gP ps Ŋi*256+gP ps ŉi*65536+gP ps ňi*16777216))) a b c ē Ĭ,.fz óm],.fz .zE):=by have w:=x8a P (x:=(x+n)%65536);generalize gP ps ŋi+gP ps Ŋi*256+gP ps ŉi*65536+gP ps ňi*16777216=v at w;rw[z3x];unfold Fd;simp only[Ĥ,uE,EL,Ot f,w,Md,gg,k8,jW,gx e,kE]
theorem z27(h:ù<=1000){d s:Nat}{x n v:Int}(g:Ws[d]?=À v)(e:Ws[s]?=À x):QY [st ć a b c ē Ĭ,.fz ôm]=À ([st ć a b c (kP čo) (vP čo),.fz ôm],.fz .zE):=by have f:ge Äh 0 æd=.p 0 æd:=rfl;rw[z3z];unfold Ff;simp only[Ĥ,uE,jE,Ot e,qr g,Md,be,ii,f,il h]
theorem z28(h:ù<=900){d s:Nat}{x n v:Int}(g:Ws[d]?=À v)(e:Ws[s]?=À x):QZ [st ć a b c ē Ĭ,.fz õm]=À ([st ć a b c (kP ûq) (vP ûq),.fz õm],.fz .zE):=by have f:ge Äh 0 æd=.p 0 æd:=rfl;rw[z40];unfold Fg;simp only[Ĥ,uE,jE,Ot e,qr g,Md,be,ii,f,y5y h]
theorem LO{k:Str}{d s n:D}{F:FM}{S a:M}(c:X1 ql ĩa=À Ę)(e:Ă ql UY Įf=À F)(b:∀d,S≠.fz d)(h:F Ìr=À (Êr,.fz .zE)) :pI Ìr=À (Êr,.fz .zE):=by
 rw[Ee];unfold J8
 have f:ge S 0 []=.p 0 []:=by
  cases S with
  |fz d=>exact Ú rfl (b d)|_=>rfl
 simp only[Ĥ,y67,c,Wu,e,f,h]
#print a
def y61(n:Nat):(0:Int)<2 ^ n:=Ák È
noncomputable def L8(k:Str)(x y:Nat):Nat:=if k = ñb then x &&& y else if k = ĭb then x ||| y else x ^^^ y
inductive V_:Str->Prop
 |and:V_ ñb |or:V_ ĭb |xor:V_ ĥb
def z08{k:Str}(h:V_ k){x y:Nat}(b:x<4294967296)(a:y<4294967296):L8 k x y<4294967296:=by
 have e:(4294967296:Nat)=2 ^ 32:=by decide
 rw[e]at b a ⊢;unfold L8
 split;exact Nat.and_lt_two_pow _ a;split;exact Nat.or_lt_two_pow b a;exact Nat.xor_lt_two_pow b a
def HS(z:Nat):z%2=(z.testBit 0).toNat:=by rw[Nat.testBit_zero];rcases Ďn z with h|h<;>rw[h]<;>rfl
theorem i3:∀(n x y:Nat),x<=n->(x ||| y)=Ők+ők
 |0,x,y,h=>by
  have:x=0:=by omega
  subst this;simp
 |n+1,x,y,h=>by
  by_cases z:x=0;subst z;simp;have d:=i3 n (x/2) (y/2) Å;have b:(x ||| y)/2=x/2 ||| y/2:=Nat.or_div_two;have a:Ők/2=x/2 ^^^ y/2:=Nat.xor_div_two;have g:ők/2=x/2 &&& y/2:=Nat.and_div_two;have e:=HS (x ||| y);have f:=HS Ők;have i:=HS ők;rw[Nat.testBit_or]at e;rw[Nat.testBit_xor]at f;rw[æj]at i
  have c:((Ëh 0||ñf 0).toNat:Nat)=(Ëh 0 ^^ ñf 0).toNat+(Ëh 0&&ñf 0).toNat:=by cases Ëh 0<;>cases ñf 0<;>rfl
  rw[<-b,<-a,<-g]at d;omega
def z0k(x y:Nat):Čj (x:Int) (y:Int)=((x ^^^ y:Nat):Int):=by
 show öd (x:Int) (y:Int)-Ŷb (x:Int) (y:Int)=_;rw[c9,bj,i3 x x y Ē]
 push_cast
 omega
def z6f{k:Str}(h:V_ k){x y:Nat}:U9 [.str k,.int (x:Int),.int (y:Int)]=À (Â,.int (L8 k x y:Int)):=by
 have c:zk źe źe=À Ę:=rfl;have a:zk Ûe źe=À ñ:=rfl;have b:zk Ûe Ûe=À Ę:=rfl;have d:zk Ďk źe=À ñ:=rfl;have e:zk Ďk Ûe=À ñ:=rfl;rw[z4b];unfold Fv L8;cases h with
 |and=>rw[Ï rfl,<-bj];simp only[Ó,c]|or=>rw[Ð İ,Ï rfl,<-c9];simp only[Ó,a,b]|xor=>rw[Ð İ,Ð İ];simp only[Ó,d,e,z0k]
section
variable{Ws:Á Int}{a b c:Ì}{hk:Á Ĩ}{hv:Á D}
noncomputable def tL(p:Ì):Int:=if p then 1 else 0
def D_{x y:Int}{p:Ì}:U1 ņi=À (Â,.tup [.int (Νb (x+y+tL p)),.bl (decide (4294967296<=x+y+tL p))]):=by
 have a:decide ((0:Int)<4294967296)=Ã:=by decide
 rw[z3j];unfold FJ;cases p<;>simp only[Ó,ýa,tL,a,Ĺb,ða,ś]
theorem RA{x y:Int}{p:Ì}(j:0<=x)(g:x<4294967296)(f:0<=y)(h:y<4294967296):UG ņi=À (Â,.tup [.int (Νb (x-y-tL p)),.bl (decide (x-y-tL p<0))]):=by
 have b:∀(q:Int),(q=0\/q=1)->(∀τ:zu,uX (tE ď) ņ ą [À (Â,.int x),À (Â,.int y),À (Â,.bl p),Ä]=À (.int q))->UG ņi=À (Â,.tup [.int (Νb Ěl),.bl (decide Ŏk)]):=λq i d=>by
  have a:=d [];rw[z51];unfold CN;generalize uX (tE ď) ņ ą=EE at a;by_cases z:x-y-q<0;have c:decide Ŏk=Ã:=î z;have e:Ěl%4294967296=x-y-q+4294967296:=by omega
  rw[e,c];simp only[Ó,a,c,ýa];have c:decide Ŏk=Â:=ă z;have e:Ěl%4294967296=x-y-q:=by omega
  rw[e,c];simp only[Ó,a,c]
 cases p with
 |Â=>exact b 0 Ĺ λ_=>rfl|Ã=>exact b 1 ŏb λ_=>rfl
inductive WT:Str->Prop
 |add:WT ęa |addc:WT ğb |sub:WT Ĥb |subc:WT Ğb |test:WT Ła
def x07{k:Str}(h:WT k){x y:Int}(i:0<=x)(f:x<4294967296)(e:0<=y)(g:y<4294967296):∃(t:Int) (u:Ì),Yn în=À (Â,.tup [.int (t%4294967296),.bl u]):=by
 cases h with
 |add=>refine⟨x+y+tL Â,decide (4294967296<=x+y+tL Â),?_⟩;have b:zk øc øc=À Ę:=rfl;rw[Uh];unfold Yw;simp only[Ó,b,D_]|addc=>refine⟨x+y+tL a,decide (4294967296<=x+y+tL a),?_⟩;have b:zk őc øc=À ñ:=rfl;have c:zk őc őc=À Ę:=rfl;rw[Uh];unfold Yw;simp only[Ó,b,c,D_]|sub=>refine⟨x-y-tL Â,decide Ŝp,?_⟩;have b:zk Ãh øc=À ñ:=rfl;have c:zk Ãh őc=À ñ:=rfl;have d:zk Ãh Őc=À ñ:=rfl;rw[Uh];unfold Yw;cases a<;>simp only[Ó,b,c,d,RA i f e g]|subc=>refine⟨x-y-tL a,decide (x-y-tL a<0),?_⟩;have b:zk Őc øc=À ñ:=rfl;have c:zk Őc őc=À ñ:=rfl;have d:zk Őc Őc=À Ę:=rfl;rw[Uh];unfold Yw;cases a<;>simp only[Ó,b,c,d,RA i f e g]|test=>refine⟨x-y-tL Â,decide Ŝp,?_⟩;have b:zk ňc øc=À ñ:=rfl;have c:zk ňc őc=À ñ:=rfl;have d:zk ňc Őc=À ñ:=rfl;rw[Uh];unfold Yw;cases a<;>simp only[Ó,b,c,d,RA i f e g]
theorem z29{d s:Nat}{x y w g:Int}{u:Ì}(f:Ws[d]?=À x)(i:Ws[s]?=À y)(h:Yn [.str Ła,.int x,.int y,.bl a]=À (Â,.tup Ďj))(j:wz Úd=À (Â,.int g)) :gW [st ć a b c hk hv,.fz ģm]=À ([st ć u (decide Ĩe) (decide īe) hk hv,.fz ģm],.fz .zE):=by have e:xm ňc ňc=À ñ:=rfl;rw[df];unfold O_;simp only[Ĥ,uE,jE,EM,RE,qr f,qr i,h,kD,ZS,ZT,Wb,Wc,Wu,J7,IE,Jt,MU,MZ,Ww j,WY,e]
#print a
def z7d{x:Int}{n:Nat}(f:0<=x)(e:x<4294967296)(g:n<=31):Yj ìg=À (Â,.tup [.int (x*2 ^ n%4294967296),if n=0 then .zE else .bl (decide (x*2 ^ n/4294967296%2=1))]):=by
 have b:=Pk (n:=n) f e Å;have d:∀y:Int,wz [.int y,.int 32,.int 1]=À (Â,.int (y/4294967296%2)):=λy=>ZG (x:=y) (l:=32) (w:=1) È
 have c:∀y:Int,wz [.int y,.int 0,.int 32]=À (Â,.int (y%4294967296)):=λy=>by have:=ZG (x:=y) (l:=0) (w:=32) È;rw[Êf,Āc]at this;exact this
 rw[z4o];unfold C9;by_cases z:n=0;have a:decide ŭg=Ã:=î Å;rw[Ï z];simp only[Ó,b,Ň,d,c,ħc,a];have a:decide ŭg=Â:=ă Å;rw[Ð z];simp only[Ó,b,Ň,d,c,ħc,a]
theorem y6u{x:Int}{n:Nat}:Yk ìg=À (Â,.tup [.int (x/2 ^ n),if n=0 then .zE else .bl (decide (x/2 ^ Ŧf%2=1))]):=by
 have b:decide ((0:Int)<=(n:Int))=Ã:=î Ďl;rw[z4p];unfold CA;by_cases z:n=0;have a:decide ŭg=Ã:=î Å;rw[Ï z];simp only[Ó,b,Ň,ħc,a];have a:decide ŭg=Â:=ă Å
 have p:wz [.int x,.int ((n:Int)-1),.int 1]=À (Â,.int (x/2 ^ Ŧf%2)):=by rw[show(n:Int)-1=((n-1:Nat):Int) by omega];exact ZG (l:=n-1) (w:=1) È
 rw[Ð z];simp only[Ó,b,Ň,p,ħc,a]
theorem x8c{w n:Int}(a:0<=w)(b:w<4294967296)(n0:0<=n)(n1:n<65536):Zj [.int w,.int 16,.int 16,.int n]=À (Â,.int (w%65536+65536*n)):=by
 rw[oE (x:=w) (l:=16) (d:=16) (n:=n) ⟨⟨a,by decide,by decide,by decide,by decide⟩,n0,n1⟩];have e:w+(n-w/65536%65536)*65536=w%65536+65536*n:=by omega
 exact Ëa (λz=>À (Â,þ z)) e
structure vg(Ws:Á Int):Prop where
 l:ħa=8
 h:∀w∈Ws,0<=w/\w<4294967296
def vg.at{Ws:Á Int}(h:vg Ws){d:Nat}(a:d<8):∃x,Ws[d]?=À x/\0<=x/\x<4294967296:=⟨_,Ģ (h.l▸a),h.h _ (Ÿb _)⟩
theorem vg.set{Ws:Á Int}(h:vg Ws){d:Nat}{x:Int}(a:0<=x)(c:x<4294967296):vg (ōf d x):=⟨by rw[Ŋa];exact h.l,λw b=>by rcases List.mem_or_eq_of_mem_set b with z|z;exact h.h w z;rw[z];exact⟨a,c⟩⟩
def T0{w:Int}:wz Úd=À (Â,.int (w/2147483648%2)):=by exact ZG (x:=w) (l:=31) (w:=1) È
structure bP(r:D)(Ws:Á Int)(a b c:Ì)(ps:Á ö)(Ws':Á Int)(a' b' c':Ì)(ps':Á ö):Prop where
 w:vg Ws'
 p:wq ps'
 l:âf<=ù+4
 e:pI ên=À ([st (wI Ws') a' b' c' (kP ps') (vP ps'),.fz r],.fz .zE)
structure UO(r:D):Prop where
 ld:∀D1,j4 [D1,r]=À (Â,.bl Â)
 st:zk r āa=À ñ
 tp:wu r=Ã
 dr:∀{Ws:Á Int}{a b c:Ì}{ps:Á ö},vg Ws->wq ps->ù<=800->∃Ws' a' b' c' ps',bP r Ws a b c ps Ws' a' b' c' ps'
def Ip{k:Str}{d s:Nat}(h:WT k)(r:d<8)(q:s<8):UO Şc:=by
 have e:(∀D1,j4 Ùq=À (Â,.bl Â))->zk Şc āa=À ñ->X1 ql ĩa=À Ę->Ă ql UY Įf=À gW->(xm ĩa ňc=À Ę\/k = Ła)->UO Şc:=λA p i m g=>⟨A,p,rfl,λ{E a b c f} W P F=>by obtain⟨x,n,v,w⟩:=ùb r;obtain⟨y,j,o,B⟩:=ùb q;obtain⟨t,u,l⟩:=x07 (a:=a) h v w o B;have z:0<=t%4294967296:=ŧd _ È;have C:t%4294967296<4294967296:=ŗd _ È;rcases g with g|rfl;exact⟨_,_,_,_,f,Ĭc z C,P,Õa _ _,Zp i m uz rfl rfl (cW (b:=b) (c:=c) (hk:=kP f) (hv:=vP f) g n j l T0)⟩;exact⟨_,_,_,_,f,W,P,Õa _ _,Zp i m uz rfl rfl (z29 (b:=b) (c:=c) (hk:=kP f) (hv:=vP f) n j l T0)⟩⟩
 cases h with
 |add=>exact e šc rfl rfl rfl Ĺ|addc=>exact e šc rfl rfl rfl Ĺ|sub=>exact e šc rfl rfl rfl Ĺ|subc=>exact e šc rfl rfl rfl Ĺ|test=>exact e šc rfl rfl rfl ŏb
def RC{k:Str}{d s:Nat}(h:V_ k)(n:d<8)(l:s<8):UO Şc:=by
 obtain⟨q,g,j,r⟩:(∀D1,j4 Ùq=À (Â,.bl Â))/\zk Şc āa=À ñ/\X1 ql ĩa=À Ę/\Ă ql UY Įf=À Yg:=by cases h<;>exact⟨λ_=>rfl,rfl,rfl,rfl⟩
 refine⟨q,g,rfl,λ{u a b c e} W P v=>?_⟩;obtain⟨x,t,o,w⟩:=ùb n;obtain⟨y,m,f,z⟩:=ùb l;obtain⟨i,rfl⟩:=ůb o;obtain⟨p,rfl⟩:=ůb f;exact⟨_,_,_,_,e,Ĭc Ľf (Int.ofNat_lt.mpr (z08 h Å Å)),P,Õa _ _,Zp j r uz rfl rfl (z1z (a:=a) (b:=b) (c:=c) (hk:=kP e) (hv:=vP e) t m (z6f h (x:=i) (y:=p)) T0)⟩
def x45{k:Str}{d n:Nat}(h:k = Àb \/ k = àb)(y:d<8)(v:n<=31):UO čk:=by
 obtain⟨A,s,i,o⟩:(∀D1,j4 [D1,.tup Űl]=À (Â,.bl Â))/\zk čk āa=À ñ/\X1 ql ĩa=À Ę/\Ă ql UY Įf=À Yh:=by rcases h with rfl|rfl<;>exact⟨λ_=>rfl,rfl,rfl,rfl⟩
 refine⟨A,s,rfl,λ{u a b c e} W P B=>?_⟩;obtain⟨x,q,g,j⟩:=ùb y
 have m:∀{w:Int}{t p:Ì},0<=w->w<4294967296->zk ĩa êf=À Ĕe->(if t then Yj ìg else Yk ìg)=À (Â,.tup [.int w,if n=0 then .zE else .bl p])->∃Ws' a' b' c' ps',bP čk u a b c e Ws' a' b' c' ps':=λ{w t p} l r hk f=>by by_cases z:n=0;rw[Ï z]at f;exact⟨_,_,_,_,e,Ĭc l r,P,Õa _ _,Zp i o uz rfl rfl (z24 (a:=a) (b:=b) (c:=c) (hk:=kP e) (hv:=vP e) q t hk f T0)⟩;rw[Ð z]at f;exact⟨_,_,_,_,e,Ĭc l r,P,Õa _ _,Zp i o uz rfl rfl (z25 (a:=a) (b:=b) (c:=c) (hk:=kP e) (hv:=vP e) q t hk f T0)⟩
 rcases h with rfl|rfl;exact m (t:=Ã) Äk Æk rfl (z7d g j v);exact m (t:=Â) (ìj g (ća (y61 n))) (Int.lt_of_le_of_lt (Int.ediv_le_self _ g) j) rfl y6u
def Ig{ps:Á ö}{x y:Int}(P:wq ps):wq (v_ ps (x%65536) (y%256)):=y93 P Äk Æk Äk Æk
def x44{k:Str}{d s:Nat}{n:Int}(h:k = Âb \/ k = śa \/ k = Ŝa \/ k = ŗa)(o:d<8)(r:s<8):UO Řr:=by
 obtain⟨t,q⟩:(∀D1,j4 [D1,.tup Żl]=À (Â,.bl Â))/\zk Řr āa=À ñ:=by rcases h with rfl|rfl|rfl|rfl<;>exact⟨λ_=>rfl,rfl⟩
 refine⟨t,q,rfl,λ{i a b c f} W P m=>?_⟩;obtain⟨v,j,E,u⟩:=ùb o;obtain⟨x,e,A,B⟩:=ùb r;have p:d<Úb:=W.l▸o;rcases h with rfl|rfl|rfl|rfl;have g:=Z0 ōc Èb;exact⟨_,a,b,c,f,Ĭc g.1 Å,P,Õa _ _,LO rfl rfl uz (z22 p e)⟩;exact⟨i,a,b,c,_,W,Ig P,Ğ XX (ßd È _),LO rfl rfl uz (z27 ßr j e)⟩;have y:=Z0 ŋi Èb;have C:=Z0 Ŋi Èb;have w:=Z0 ŉi Èb;have z:=Z0 ňi Èb;exact⟨_,a,b,c,f,Ĭc Å Å,P,Õa _ _,LO rfl rfl uz (z23 P p e)⟩;exact⟨i,a,b,c,Y9 f ōc v,W,Ig (Ig (Ig (Ig P))),Ğ XX (Ļb (Ğ XX (Ļb (Ğ XX (Ļb XX))))),LO rfl rfl uz (z28 ßr j e)⟩
def x43{r:D}(h:pK r)(hz:r≠.tup ùk):UO r:=by
 have f:∀{d:Int},0<=d->d<8->∃n:Nat,d=(n:Int)/\n<8:=λ{d} q t=>by obtain⟨n,rfl⟩:=ůb q;exact⟨n,rfl,by omega⟩
 cases h with
 |ţ=>exact Ú rfl hz|W4 hw d0 d1 n0 n1=>obtain⟨d,rfl,e⟩:=f d0 d1;rcases hw with rfl|rfl;exact⟨λ_=>rfl,rfl,rfl,λ{o a b c i} W P p=>⟨_,a,b,c,i,Ĭc n0 Å,P,Õa _ _,Zp rfl rfl uz rfl rfl (z26 Ĝs)⟩⟩;refine⟨λ_=>rfl,rfl,rfl,λ{o a b c i} W P p=>?_⟩;obtain⟨x,m,j,k⟩:=ùb e;exact⟨_,a,b,c,i,Ĭc Å Å,P,Õa _ _,Zp rfl rfl uz rfl rfl (z21 m (x8c j k n0 n1))⟩
 |two hw d0 d1 s0 s1=>obtain⟨d,rfl,e⟩:=f d0 d1;obtain⟨s,rfl,g⟩:=f s0 s1;rcases hw with rfl|rfl|rfl|rfl|rfl|rfl|rfl|rfl|rfl;refine⟨λ_=>rfl,rfl,rfl,λ{o a b c i} W P p=>?_⟩;obtain⟨x,m,j,k⟩:=ùb g;exact⟨_,a,b,c,i,Ĭc j k,P,Õa _ _,Zp rfl rfl uz rfl rfl (z20 Ĝs m)⟩;exact Ip .add e g;exact Ip .addc e g;exact Ip .sub e g;exact Ip .subc e g;exact RC .and e g;exact RC .or e g;exact RC .xor e g;exact Ip .test e g
 |W6 hw d0 d1 n0 n1=>obtain⟨d,rfl,e⟩:=f d0 d1;obtain⟨n,rfl⟩:=ůb n0;exact x45 hw e Å
 |mem hw d0 d1 s0 s1 n0 n1=>obtain⟨d,rfl,e⟩:=f d0 d1;obtain⟨s,rfl,g⟩:=f s0 s1;exact x44 hw e g
noncomputable def lt(k:Int):Str:=⟨#[97+Ũ]⟩
def sM(a:0<=k)(b:k<26):uF (ŋd : Str).cps.toList k=À (97+Ũ):=by
 have h:∀j:Fin 26,uF (ŋd : Str).cps.toList (j.val:Int)=À (97+j.val):=by decide +kernel
 have:=h ⟨Ũ,by omega⟩;rw[show((⟨Ũ,by omega⟩:Fin 26).val:Int)=k by show(Ũ:Int)=k;omega]at this;exact this
def sN(a:0<=k)(b:k<26):zM řr ăe=À (.str (lt k)):=by show(uF _ k).bind _=_;rw[sM a b];rfl
def ĭh(h:ŗb+Ãa<=100000):yd (.str a) (.str b)=À (.str Ůh):=by show(if ŗb+Ãa<=yZ then _ else _)=_;rw[Ï ęi]
theorem z7e(a b:Str):(Ůh).length=ŗb+Ãa:=Ūo
def fA(k:Int):(lt k).length=1:=rfl
open Ħ ī
def HE:FS:=(za (yO 4 (ξ (e2 yd (eC (.int 30)) (z6 3))))
    (za (yO 5 (e2 zM Ď (e2 xI (e2 yd (ξ (eC (.int 29))) (e2 qS Ĕg Č)) ĭg)))
    (YC 2 k_ (e2 yd (e2 yd (e2 LW (eC đk) (e2 xI ña Ïb)) Þa) (e2 LW (eC đk) (e2 xI (e2 gj ña Ïb) Ïb))))))
def L5:FS:=
 (za (yO 1 (eC řr))
  (za (q_ 2 ųc)
  (za (qy Ļq ĵd
   HE)
  (za (xM (tE (e2 zk (e2 xI ï ŉe) ą))
   (Ke 2 ą (e2 zM (Ο õj (zA Òl (zA ýg (Α öj)))) (e2 xI (e2 gj ï ŉe) Ïb)))
   wP)
  (jT 2)))))
def Qh:Á D->Æ â:=FR 1 6 L5
def di(a:D):Qh [a]=yH 6 L5 [a]:=rfl
def qn(a k b:Int):Str:=Ďb "q" a++lt k++Ďb "q" b
def y63:("q" : Str)=⟨#[113]⟩:=by decide +kernel
def Mc{a k b:Int}{x:Nat}:x∈(Àh).cps.toList->x=113\/x=97+Ũ:=λh=>by
 have e:(Àh).cps.toList=(Úr).cps.toList++[97+Ũ]++(Ùr).cps.toList:=by unfold qn;show(Ąm).toList=_;rw[Ųb,Ųb];rfl
 rw[e,y63,čq,čq]at h;rcases Ăa h with h|h;rcases Ăa h with h|h;exact .inl ön;exact .inr (ëa h);exact .inl ön
def i_{a k b:Int}:97+Ũ∈(Àh).cps.toList:=by
 have e:(Àh).cps.toList=(Úr).cps.toList++[97+Ũ]++(Ùr).cps.toList:=by unfold qn;show(Ąm).toList=_;rw[Ųb,Ųb];rfl
 rw[e];simp
def KL{a k b f c d:Int}(j:0<=k)(g:0<=c)(h:k≠c):qn a k b≠qn f c d:=λe=>by have i:=Mc (a:=f) (k:=c) (b:=d) (x:=97+Ũ) (e▸i_);have l:=Mc (a:=a) (k:=k) (b:=b) (x:=97+c.toNat) (e▸i_);omega
def Mx{s:Str}{x y:Nat}{a k b:Int}(f:x∈Čq)(d:y∈Čq)(c:x≠y)(h:x≠113)(g:y≠113):s≠qn a k b:=λe=>by subst e;have:=Mc f;have:=Mc d;omega
def fS{j:Int}(a:0<=j)(b:j<4):LW đk ěd=À (.str Åk):=by show(match decide ľn&&(decide ģe&&decide çh)with|Ã=>À (ľd Åk)|Â=>Ä)=_;rw[show decide ľn=Ã by decide +kernel,î a,î Å];rfl
def fT{j:Int}(a:j<4):(Åk).length<=1*4:=ůq (L:=1) (N:=4) İ Å
structure bO(n0 n1 n2:Str):Prop where
 a:n0≠n1
 b:n0≠n2
 c:n1≠n2
def z8k(c:Int):∃n0 n1 n2:Str,Qh Òc=À (Ã,.lst Ŀe)/\bO n0 n1 n2:=by
 obtain⟨a,l⟩:∃a:Int->Int,∀k,uV ïj=À (Â,.int (a k))/\0<=a k:=⟨λk=>Classical.choose (qV c k),λk=>⟨Źm.1,Źm.2.1⟩⟩;have m:=(l 29).1;have O:=(l 29).2
 let nk:Nat->Str:=λk=>qn (a ŗq%4) ((a 29+9*(k:Int))%26) (a ŗq/4%4)
 have o:∀τ:zu,tJ ą ųb τ=À ōl:=λτ=>ZK (n:=3) rfl È
 obtain⟨σ',e1,G,F,I,rfl⟩:=gz (g:=yD 3) (b:=HE) (λi σ=>∃G F I:Æ Sl,σ=[À (Â,.int c),À (Â,.str ŋd),À (Ã,.lst Ķe),G,F,I])
  (ds:=wQ 3) (σ:=[À (Â,.int c),À (Â,.str ŋd),À (Ã,.lst []),Ä,Ä,Ä]) 0 ⟨Ä,Ä,Ä,rfl⟩ λi d σ Q L=>by
   obtain⟨G,F,I,rfl⟩:=L;rw[Ő];obtain⟨U,rfl⟩:=BL Q;have u:=(l Ác).1;have T:=(l Ác).2;have w:=sN (k:=(a 29+9*(i:Int))%26) Å Å;have A:qt 9=Ã:=by decide
   have E:=fS (j:=a Ác%4) Å Å;have q:=fS (j:=a Ác/4%4) Å Å;have R:=fT (j:=a Ác%4) Å;have N:=fT (j:=a Ác/4%4) Å;have v:yd (.str (Ďb "q" (a Ác%4))) (.str (lt či))=À Ŭm:=ĭh (by rw[fA];omega);have B:yd Ŭm (.str (Ďb "q" (a Ác/4%4)))=À ăq:=ĭh (by rw[z7e,fA];omega)
   have t:k_ (.lst Ķe) ăq=À (Ε ýi):=by show(Φd (Ķe) (ţf (Ķe++[_])))=_;rw[Ï (by rw[ä,ŵb];show _<16777216;omega),ůe,ğa];rfl
   refine⟨_,[À (Â,.int c),À (Â,.str ŋd),À (Ã,.lst ýi),À (Â,.int (i:Int)),À (Â,.int (a Ác)),À (Â,.str (lt či))],rfl,.inl ?_,_,_,_,rfl⟩;unfold HE;generalize Ķe=LL at u m A w E q v B t ⊢;generalize ýi=LM at u m A w E q v B t ⊢;generalize nk i=NK at u m A w E q v B t ⊢;simp only[Ó,ýa,u,m,A,w,E,q,v,B,t,ģa]
 have S:(ōl).length=3:=by rw[ä,ŵb]
 rw[Ő,S]at e1;have P:(Ēa 3).map (λk=>ľd (nk k))=[.str (nk 0),.str (nk 1),.str (nk 2)]:=rfl;rw[P]at e1;have H:nk 0≠nk 1:=KL Å Å Å;have J:nk 0≠nk 2:=KL Å Å Å;have p:nk 1≠nk 2:=KL Å Å Å
 have K:∀s:Str,Ĩm->∀k,s≠nk k:=λs r k=>by rcases r with rfl|rfl|rfl|rfl;exact Mx (x:=115) (y:=116) İ İ È È È;exact Mx (x:=99) (y:=97) İ İ È È È;exact Mx (x:=106) (y:=117) İ İ È È È;exact Mx (x:=119) (y:=104) İ İ È È È
 by_cases z:c%5=0;obtain⟨s,C,r⟩:∃s:Str,zM (.lst [.str Öc,.str Ċa,.str Ÿ,.str Äa]) (Β (c/5%4))=À (.str s)/\Ĩm:=by rcases(show c/5%4=0\/c/5%4=1\/c/5%4=2\/c/5%4=3 by omega)with h|h|h|h<;>rw[h];exact⟨_,rfl,.inl rfl⟩;exact⟨_,rfl,.inr Ĺ⟩;exact⟨_,rfl,.inr ţr⟩;exact⟨_,rfl,.inr (.inr ŏb)⟩
 refine⟨s,nk 1,nk 2,?_,K s r 1,K s r 2,p⟩;have f:zk Ür ę=À Ę:=Ji z;have e:ľl 3 0=À 0:=rfl;rw[di];unfold L5;generalize nk 0=A0 at o e1 f C e ⊢;generalize nk 1=A1 at o e1 f C e ⊢;generalize nk 2=A2 at o e1 f C e ⊢;simp only[Ó,Ke,o,e1,f,C,e,ģa];refine⟨nk 0,nk 1,nk 2,?_,H,J,p⟩;have f:zk Ür ę=À ñ:=Ly z;rw[di];unfold L5;generalize nk 0=A0 at o e1 f ⊢;generalize nk 1=A1 at o e1 f ⊢;generalize nk 2=A2 at o e1 f ⊢;simp only[Ó,o,e1,f,ģa]
def KU:FA:=(tJ ą (e2 yd Ŝc ņ))
def Rf:FE:=(Η Ôl ßh)
def O3:FT:=(tE (e2 zk şh ña))
def HC:FS:=(za (qX 3 (wU 2 (qU ď Ď) (uZ 5 6) O3 Rf))
    (qX 3 (Cz ï (g9 ña) (g9 (e2 yd ña ņ)))))
def F_:FS:=
 (za ĺr
  (za (qy KU Ōl
   HC)
  (jT 3)))
def UC:Á D->Æ â:=FR 3 5 F_
def z4g(a b x2:D):UC Ìa=yH 5 F_ Ìa:=rfl
noncomputable def zD(q:Str×Nat):D:=.tup [.str q.1,.int (q.2:Int)]
def uJ(Z:Á Ĕa)(i:Nat):Á D:=(Z.filter λq=>decide (q.2=i)).map λq=>ub q.1
def HI{Z:Á Ĕa}{i:Nat}:∀d∈uJ Z i,vt d/\xD d=Ã:=λd a=>by obtain⟨q,_,rfl⟩:=Ů a;exact⟨.label _,rfl⟩
def z76{Z:Á Ĕa}{i:Nat}:(Čh).filter üd=[]:=List.filter_eq_nil_iff.mpr λd a=>by
 rw[(HI d a).2]
 decide
def z75{Z:Á Ĕa}{i:Nat}:(Čh).length<=Žk:=by unfold uJ;rw[ä];exact ųn ..
theorem HJ{t:Str}{i:Nat}:∀(Z:Á Ĕa) (L:Á D),(vd t Ķg).2=if(t,i)∈Z then À (Ői).length else Ĕc.2
 | [],L=>by show(vd t (L++[])).2=_;rw[ſ,Ð ã]|q::Z,L=>by
  by_cases c:q.2=i;have e:uJ (q::Z) i=ub q.1::uJ Z i:=by unfold uJ;rw[ìd,Ï (î c),ř]
  rw[e,show L++ub q.1::uJ Z i=ÿq++uJ Z i by simp,HJ Z,iL]
  have e2:(ÿq).filter üd=L.filter λd=>!xD d:=by rw[Ŝe];show _++[]=_;rw[ſ]
  rw[e2];by_cases m:(t,i)∈Z;rw[Ï m,Ï Þh];rw[Ð m];by_cases h:q.1=t;rw[Ï h,Ï (by rw[<-h,<-c];exact ĵ)];rw[Ð h,Ð λz=>by rcases ľ z with z|z;exact h Ŋq;exact m z];have e:uJ (q::Z) i=uJ Z i:=by unfold uJ;rw[ìd,Ð (by rw[ă c];decide)]
  rw[e,HJ Z];by_cases m:(t,i)∈Z;rw[Ï m,Ï Þh];rw[Ð m,Ð λz=>by rcases ľ z with z|z;exact c Ŋq;exact m z]
structure Yr(Z:Á Ĕa)(Î zF:Á D):Prop where
 it:∀d∈zF,vt d
 rw:zF.filter üd=Î
 ln:Êc<=1000
 pl:∀q∈Z,ìr.2=À q.2
def z67{Z:Á Ĕa}{Î:Á D}(k:(Ħe (·.1)).Nodup)(P:Žk<=3)(s:∀q∈Z,q.2<=ì)(O:∀r∈Î,vt r/\xD r=Â)(Y:ì<=60) :∃zF,UC [.lst Î,.lst İe,.lst ðg]=À (Ã,.lst zF)/\Yr Z Î zF:=by
 have j:∀{t:Str}{p N:Nat},(t,p)∈Z->(t,N)∈Z->p=N:=λ{t p N} h o=>by
  clear s P
  induction Z with
  |nil=>cases h|Ĉ q Z ih=>rw[ř,List.nodup_cons]at k;rcases ľ h with e|h;rcases ľ o with e'|o;rw[<-e]at e';exact(Ëa Prod.snd e').symm;exact Ú (øo (f:=(·.1)) o) (by rw[<-e]at k;exact k.1);rcases ľ o with e'|o;exact Ú (øo (f:=(·.1)) h) (by rw[<-e']at k;exact k.1);exact ih k.2 h o
 have I:KU Ëi=À (wQ Ąh):=by unfold KU;have:=ZK (f:=e2 yd Ŝc ņ) (τ:=Ëi) (n:=((ì+1:Nat):Int)) rfl Å;rw[Ň]at this;exact this
 obtain⟨σ',e1,L,E,G,u,Q,m,rfl⟩:=gz (g:=yD 4) (b:=HC) (λi σ=>∃(L:Á D) (E:Æ Sl),(∀d∈L,vt d)/\L.filter üd=rows.take i/\ża<=4*i/\(∀q∈Z,(vd q.1 L).2=if q.2<i then À q.2 else Ä)/\σ=[À (Â,.lst Î),À (Â,.lst İe),À (Â,.lst ðg),À (Ã,.lst L),E])
  (ds:=wQ Ąh) (σ:=Ëi) 0 ⟨[],Ä,λ_ h=>Ú h ã,rfl,by simp,λq _=>by rw[Ð Å];rfl,rfl⟩ λi d σ a F=>by
   obtain⟨L,E,G,u,Q,m,rfl⟩:=F;rw[Ő]at *;obtain⟨hi,rfl⟩:=BL a
   have v:qU ď Ď [À (Â,.lst Î),À (Â,.lst İe),À (Â,.lst ðg),À (Ã,.lst L),À (Â,.int (i:Int))]=À (Ħe zD):=by
    show À (ľb Ŕi (Ħe λq=>ľd q.1) (Ħe λq=>þ (q.2:Int)))=_
    congr 1
    clear s P j k m I a
    induction Z with
    |nil=>rfl|Ĉ q Z ih=>rw[ř,ř,ñc,ih,ř];rfl
   have A:yo (uZ 5 6) O3 Rf ũl (Ħe zD)=À Čh:=by
    generalize hσ:(ũl:zu)=S
    have K:∀q:Str×Nat,∃σ1,uZ 5 6 (zD q) S=À σ1/\O3 σ1=À (decide (q.2=i))/\Rf σ1=À (ub q.1):=λq=>by subst hσ;refine⟨_,rfl,?_,rfl⟩;by_cases h:q.2=i;rw[î h];have H:zk êp Ĺa=À Ę:=Ji Å;unfold O3;simp only[Ó,H];rw[ă h];have H:zk êp Ĺa=À ñ:=Ly Å;unfold O3;simp only[Ó,H]
    clear hσ s P j k m I a v
    induction Z with
    |nil=>rfl|Ĉ q Z ih=>obtain⟨σ1,R,B,T⟩:=K q;rw[ř];unfold uJ;by_cases h:q.2=i;rw[î h]at B;rw[ìd,Ï Ēl,ř];simp only[yo,R,B,T,ăb,ih];rfl;rw[ă h]at B;rw[ìd,Ð (by rw[ă h];decide)];simp only[yo,R,B,ăb,ih];rfl
   have cut:jv Î (À (i:Int)) (À Üe)=(ňe).take 1:=by unfold jv;rw[show(i:Int)+1=((i+1:Nat):Int) by omega,Ěr,Ěr];by_cases z:i<ì;rw[show min i ì=i by omega,show min ê ì-i=1 by omega];rw[Ûd Å,Ûd Å,Îq,Îq]
   have lb:=z75 (Z:=Z) (i:=i);have X:(Ĵg).length<=1:=by rw[ìa];omega
   have C:ża+(Čh).length<=yZ:=by show _<=16777216;omega
   have w:(Ķg).length+(Ĵg).length<=yZ:=by rw[í];show _<=16777216;omega
   refine⟨_,[À (Â,.lst Î),À (Â,.lst İe),À (Â,.lst ðg),À (Ã,.lst ÿo),À (Â,.int (i:Int))],rfl,.inl ?_,_,_,?_,?_,?_,?_,rfl⟩;unfold HC;generalize Ĵg=RR at v A C w cut ⊢;generalize uJ Z i=LB at v A C w cut ⊢;generalize Ħe zD=ZD at v A C w cut ⊢;simp only[Ó,qX,Cz,g9,EH,v,A,Ï C,Ï w,ýa,cut];intro d a;rcases Ăa a with a|a;rcases Ăa a with a|a;exact G d a;exact(HI d a).1;exact ęo.1;rw[Ŝe,Ŝe,z76,u,ſ]
   have:(Ĵg).filter üd=(ňe).take 1:=įi λd a=>by rw[ęo.2];rfl
   rw[this,<-List.take_add];rw[í,í];omega;intro q l
   have e1:(vd q.1 ÿo).2=(vd q.1 Ķg).2:=by
    rcases h:(ňe).take 1 with _|⟨r,Ō⟩;rw[ſ];have J:Ō=[]:=by have:=Ëa Öe h;rw[ĕ]at this;exact Ùn Å
    subst J;exact iN (O r (ŀe (Řd (by rw[h];exact ĵ)))).2
   have U:=s q l;rw[e1,HJ,u,ìa,m q l];by_cases c:q.2=i;rw[Ï (by rw[<-c];exact l),Ï Å,show min i ì=q.2 by omega];rw[Ð λz=>c (j l z)];by_cases z:q.2<i;rw[Ï z,Ï Å];rw[Ð z,Ð Å]
 have W:(wQ Ąh).length=ì+1:=by rw[ä,ŵb]
 simp only[Ő,W]at u Q m;refine⟨L,?_,G,by rw[u,şd Å],by omega,λq l=>by rw[m q l,Ï (by have:=s q l;omega)]⟩;rw[z4g];unfold F_;simp only[Ó,I,e1]
def Xk:FE:=(uX (tE (zR Qc Ōb)) (e2 zM Ď (e2 zM ď (e1 JK ņ))) ēa)
def L7:FS:=
 (za (yO 1 (zR UB üb))
  (qz (wU 1 (ua Êe) ſc yt Xk)))
def jd:Á D->Æ â:=FR 1 2 L7
def dq(a:D):jd [a]=yH 2 L7 [a]:=rfl
def HF:FS:=(qY 2 Č (Η (e2 zM Ď Č) (zA (e2 yd Č ņ) ōg)))
def CM:FS:=
 (za (yO 1 Êe)
  (za Ļr
  (za (qy (gw şg) Ĥf
   HF)
  (jT 2))))
def Qn:Á D->Æ â:=FR 1 5 CM
def z50(a:D):Qn [a]=yH 5 CM [a]:=rfl
def FD:yQ:=
 (yz (Οc (ur Qn Đb))
  (Γe (eL EC àh)))
def WD:FM:=vZ 4 5 FD
def z3g(b a x2 x3:M):WD Ŗc=wW 4 5 FD Ŗc:=rfl
noncomputable def qb(Î tgs:Á D)(n:Nat):Á D:=(Źc).map λk:Nat=>.tup Üi
theorem x1e{Î tgs:Á D}{n:Nat}:wO ũh õd=u5 ļ/\w6 ũh Ťp õd (.tup [Ċc n .zE,.int ąr,ųk n .zE])=qb Î tgs ļ:=by unfold wO w6;rw[Ð Œo,Ð Œo];unfold u5 qb;rw[ůe,ğa,ğa];exact⟨rfl,rfl⟩
def x1d{Î tgs:Á D}{k n:Nat}(h:k<n):zM (.dic ũh Ťp) Ŋe=À (.tup Üi):=by show(uI Ŋe).bind _=_;exact EZ (g:=λk:Nat=>.tup Üi) (âd h)
def x19{zF Î tgs:Á D}(j:qi ŕa=À (Ã,.lst Î))(o:jd ŕa=À (Ã,.lst tgs))(l:çk=ì)(t:ì<=1000):Qn ŕa=À (Ã,.dic đd Üj):=by
 have e:gw şg Ëm=À (tm tgs):=by unfold gw;simp only[Ó,o]
 obtain⟨σ',e1,x,y,rfl⟩:=gz (g:=uZ 3 4) (b:=HF) (λi σ=>∃x y:Æ Sl,σ=[À (Â,.lst zF),À (Â,.lst Î),À (Ã,.dic (u5 i) (qb Î tgs i)),x,y])
  (ds:=tm tgs) (σ:=Ëm) 0 ⟨Ä,Ä,rfl⟩ λi d σ c m=>by
   obtain⟨x,y,rfl⟩:=m;rw[Ő]
   have s:i<ì:=by have:=Ĕl.1;rw[XN]at this;omega
   have a:i<çk:=by omega
   rw[Jz,Ģ a]at c;cases c;have h:tgs[i]=ųk i .zE:=by rw[Āa,Ģ a];rfl
   rw[h]
   have p:zM (.lst Î) Ĺa=À Ĵ:=by show uF Î (i:Int)=_;unfold uF;rw[Ï (Òd i),Ň,Āa,Ģ s];rfl
   obtain⟨q,f⟩:=x1e (Î:=Î) (tgs:=tgs) (n:=i);have r:(u5 i).length<yZ:=by unfold u5;rw[ä,ŵb];show _<16777216;omega
   have k:uI Ĺa=À (.inl (i:Int)):=rfl;refine⟨_,[À (Â,.lst zF),À (Â,.lst Î),À (Ã,.dic (u5 ê) (qb Î tgs ê)),À (Â,.int (i:Int)),À (Â,ųk i .zE)],rfl,.inl ?_,_,_,rfl⟩;rw[<-q,<-f];unfold HF;simp only[Ó,qY,p,ýa,k,Ï r]
 rw[Ő,XN,l]at e1;rw[z50];unfold CM;generalize tm tgs=NN at e e1;simp only[Ó,j,e,e1]
theorem y6v{zF Î tgs:Á D}{a:D}{Ws:Á Int}{ps:Á ö}(e:qi ŕa=À (Ã,.lst Î))(i:jd ŕa=À (Ã,.lst tgs))(g:çk=ì)(b:ì<=1000)(f:ħa=8)(c:∀w∈Ws,0<=w/\w<4294967296)(d:kR [a]=À (Ã,.dic ē Ĭ)) :WD [.obj ü [] [],.fz Ţk,.fz ĥa,.fz a]=À ([yE ü (.dic đd Üj) ì ĥa Ŝd ėi 0 0,.fz Ţk,.fz ĥa,.fz a],.fz .zE):=by
 have h:ge (.obj ü [] []) 0 []=.p 0 []:=rfl
 have j:EC [.dic đd Üj]=À (.int ì):=by show À (þ ((đd).length:Int))=_;unfold u5;rw[ä,ŵb]
 rw[z3g];unfold FD;simp only[Ĥ,x19 e i g b,j,h,fM .row f c d]
def u7(zF:Á D)(r:D):D:=match wG r with
 |Ã=>match XF r with
  |.str t=>((Ńg).map λn:Nat=>þ n).getD .zE|_=>.zE
 |Â=>.zE
inductive RJ(Z:Á Ĕa)(RK:D->Prop):D->Prop
 |Ţa {r:D} (h:RK r):RJ Z RK r
 |ţ:RJ Z RK āa
 |vo {q:Str×Nat} (h:q∈Z):RJ Z RK œr
 |øb {w k:Str} {q:Str×Nat} (hw:w = Äa \/ w = äa) (hk:k = Ċa \/ k = Œa \/ k = ſa) (h:q∈Z):RJ Z RK Çn
structure Hd(r:D):Prop where
 pr:pK r
 w:∃w,zM r ę=À Üa/\zk Üa (.str Öc)=À ñ/\Zt Üa (.lst ín)=À Ę
def Mi{Z:Á Ĕa}{a:D->Prop}(b:∀r,a r->Hd r){r:D}(h:RJ Z a r):vt r/\xD r=Â:=by
 cases h with
 |Ţa h=>exact⟨.plain (b r h).pr,(Kb (m:=0) (.inl (b r h).pr)).choose_spec.2.2.1⟩|ţ=>exact⟨.plain .stop,rfl⟩|vo h=>exact⟨.vo _,rfl⟩|øb hw hk h=>exact⟨.cond _ hw hk,by rcases hw with rfl|rfl<;>rfl⟩
def x1c{Z:Á Ĕa}{o:D->Prop}{Î zF:Á D}(s:∀r,o r->Hd r)(m:∀r∈Î,RJ Z o r)(Y:Yr Z Î zF):qi ŕa=À (Ã,.lst Î)/\jd ŕa=À (Ã,.lst Ņo):=by
 obtain⟨b,a,x,v⟩:=eV Y.it Y.ln;have d:=Mj Y.it;rw[Y.rw]at d;refine⟨d,?_⟩
 have y:=Z8 (g:=yD 2) (e:=Xk) (σ:=[À (Â,.lst zF),À (Â,.dic b a),Ä]) (ds:=Î) (u7 zF) λr i=>by
  have c:=eI (Mi s (m r i)).1;refine⟨Úi,rfl,?_⟩
  have jmp:∀(t:Str)(p:Nat),wG r=Ã->zM r źg=À Ęh->XF r=.str t->(vd t zF).2=À p->Xk Úi=À ċs:=λt p z B A l=>by
   have u:zM (.dic b a) Ęh=À Åe:=by show Ă b a Ąe=_;rw[v,l];rfl
   have f:u7 zF r=.int (p:Int):=by unfold u7;rw[z,A];show((Ńg).map λn:Nat=>þ n).getD .zE=_;rw[l];rfl
   rw[z]at c;rw[f];unfold Xk;simp only[Ó,c,B,u]
  have j:wG r=Â->Xk Úi=À ċs:=λz=>by
   have f:u7 zF r=.zE:=by unfold u7;rw[z]
   rw[z]at c;rw[f];unfold Xk;simp only[Ó,c]
  cases m r i with
  |Ţa h=>exact j (T1 (s r h).pr).choose_spec.2.2.2.1|ţ=>exact j rfl|@vo q h=>exact jmp q.1 q.2 rfl rfl rfl ňr|@cond w k q hw hk' h=>exact jmp q.1 q.2 (by rcases hw with rfl|rfl<;>rfl) rfl rfl ňr
 rw[dq];unfold L7;simp only[Ó,x,d,y]
def Fy:FS:=
 (za (yO 3 (Ρc (ξ ģg)))
  (za (yO 4 (Ρc (zR uV (εd (e2 qS (eC űc) Ď)))))
  (za (yO 5 (ξ (e2 yd ģg Ól)))
  (za (yO 6 (e2 zM ď (e2 xI (ξ (e2 yd ģg ųb)) ųb)))
  (za (yO 7 (υb Òl (zA (eC ìf) (Α (eC ëf))) (ξ (e2 yd ģg Ïb))))
  (za (q_ 8 (Ο (Η öj Ĵn) (zA (Η (eC Đk) Ĵn) (zA (Η ýg (Α şh)) (zA (Φa Ãh ōg) (Α (Φa (.str ðb) (Ζ (e2 xI Þa ŉe)))))))))
  (za (qX 8 (Ο (Φa (.str àb) (Α (e2 xI Þa Ïb))) (zA (Φa êf (Α (e2 xI Þa ŕe))) (Α (Η (Χb Õl (zA (eC őc) (zA (eC Őc) (Ζ Öl)))) (zA Č (Ζ Ŋl)))))))
  (za (qX 8 (xi (zA (Η (Χb (eC (.str Âb)) (zA (eC (.str śa)) (zA (eC (.str Ŝa)) (Α (eC (.str ŗa)))))) (zA Č (zA Ŋl (Α (e2 xI (e2 gj Þa Ïb) Ğp))))) (Α (Φa (.str åb) (Ζ (e2 xI Þa ſo)))))))
  (za (qX 8 (Ο (Η (Χb (eC (.str ţb)) (zA (eC (.str ñb)) (zA (eC Ûe) (Α (eC Ďk))))) (zA Č ōg)) (Α (e2 zM (xi (zA (xt (Ζ õj)) (Ζ (Η Öl (zA Č (zA Č zG)))))) (e2 xI Þa Ìb)))))
  (za (T6 8) (yF (e2 zM (z6 8) (e2 xI ï ĕj)))))))))))))
def Qf:Á D->Æ â:=FR 3 9 Fy
def z4e(a b x2:D):Qf Ìa=yH 9 Fy Ìa:=rfl
def Rc:FE:=(e2 xI (zR uV (zA Č (Α (e2 yd ũp Şh)))) (e2 yd ď ņ))
def KS:FA:=(tJ ą ď)
def Re:FE:=(zR Qf (zA (zR qK (θ (e2 yd (e2 yd Ób Ól) Şh))) (zA Şh àh)))
def Fz:FS:=
 (za (Ν (e2 yd ņ (e2 xI (zR qK œc) ĕj)))
  (za (yO 3 (zR qK (Κ (Ζ Ŷe))))
  (za (yO 4 (ur Qh ţc))
  (za (yO 5 (wU 1 Ļq (yD 7) yt Rc))
  (za (yO 6 (wU 1 KS (yD 7) yt Re))
  (yF (Η şh (zA Þa ōg))))))))
def Qg:Á D->Æ â:=FR 2 7 Fz
def z4f(a b:D):Qg ë=yH 7 Fz ë:=rfl
def tF(r:D):Prop:=pK r/\r≠.tup ùk
theorem XV{w:Str}{d s:Nat}(a:w = ţb \/ w = ęa \/ w = ğb \/ w = Ĥb \/ w = Ğb \/ w = ñb \/ w = ĭb \/ w = ĥb \/ w = Ła)(c:d<8)(b:s<8):tF (.tup [.str w,.int (d:Int),.int (s:Int)]):=⟨.two a Å Å Å Å,nofun⟩
def Lu(r:D)(h:tF r):Hd r:=by
 obtain⟨h,a⟩:=h;refine⟨h,?_⟩;cases h with
 |ţ=>exact Ú rfl a|W4 hw=>rcases hw with rfl|rfl<;>exact⟨_,rfl,rfl,rfl⟩
 |two hw=>rcases hw with rfl|rfl|rfl|rfl|rfl|rfl|rfl|rfl|rfl<;>exact⟨_,rfl,rfl,rfl⟩
 |W6 hw=>rcases hw with rfl|rfl<;>exact⟨_,rfl,rfl,rfl⟩
 |mem hw=>rcases hw with rfl|rfl|rfl|rfl<;>exact⟨_,rfl,rfl,rfl⟩
def sZ{n0 n1 n2:Str}{p0 p1 p2:Nat}(c k:Int):∃r,Qf [.int c,.int k,.lst Ŀe]=À (Â,r)/\RJ ŕd tF r:=by
 obtain⟨H,v,a0,b0⟩:=qV c (5*k);obtain⟨E,p,a1,b1⟩:=qV c (5*k+1);obtain⟨f,C,a2,b2⟩:=qV c (5*k+2);obtain⟨v3,z,a3,b3⟩:=qV c (5*k+3);obtain⟨U,B,a4,b4⟩:=qV c (5*k+4);obtain⟨b,ed,a⟩:∃b:Nat,H%8=(b:Int)/\b<8:=⟨(H%8).toNat,by omega,by omega⟩;obtain⟨g,es,e⟩:∃g:Nat,E%8=(g:Int)/\g<8:=⟨(E%8).toNat,by omega,by omega⟩;obtain⟨_,O,q,rfl,y⟩:=XB (P:=λd=>∃q:Str×Nat,d=.str q.1/\q∈[(n0,p0),(n1,p1),(n2,p2)]) v3 (n:=3) (l:=Ŀe) rfl È (xX ⟨(n0,p0),rfl,by simp⟩ (xX ⟨(n1,p1),rfl,by simp⟩ (xX ⟨(n2,p2),rfl,by simp⟩ Yt)));obtain⟨_,Z,h,rfl,F⟩:=XB (P:=λd=>∃h:Str,d=.str h/\(h = Ċa \/ h = Œa \/ h = ſa)) U (n:=3) (l:=[.str Ċa,.str Œa,.str ſa]) rfl È (xX ⟨_,rfl,.inl rfl⟩ (xX ⟨_,rfl,.inr Ĺ⟩ (xX ⟨_,rfl,.inr ŏb⟩ Yt)));obtain⟨_,I,Y,rfl,N⟩:=XB (P:=λd=>∃w:Str,d=.str w/\(w = ęa \/ w = ğb \/ w = Ğb \/ w = Ła)) f (n:=4) (l:=[.str ęa,.str ğb,.str Ğb,.str Ła]) rfl È ŧl;obtain⟨_,j,Q,rfl,s⟩:=XB (P:=λd=>∃w:Str,d=.str w/\(w = Âb \/ w = śa \/ w = Ŝa \/ w = ŗa)) f (n:=4) (l:=[.str Âb,.str śa,.str Ŝa,.str ŗa]) rfl È ŧl;obtain⟨_,G,T,rfl,R⟩:=XB (P:=λd=>∃w:Str,d=.str w/\tF (.tup [.str w,.int (b:Int),.int (g:Int)])) f (n:=4) (l:=[.str ţb,.str ñb,.str ĭb,.str ĥb]) rfl È (xX ⟨_,rfl,XV ã a e⟩ (xX ⟨_,rfl,XV ã a e⟩ (xX ⟨_,rfl,XV ã a e⟩ (xX ⟨_,rfl,XV ã a e⟩ Yt))));obtain⟨W,x,A⟩:=XB (P:=RJ ŕd tF) f (n:=2) (l:=[.tup ùk,.tup [.str Ła,.int (b:Int),.int (b:Int)]]) rfl È (xX .stop (xX (.plain (XV ã a a)) Yt));obtain⟨o,i,S⟩:∃o:Nat,f%4=(o:Int)/\o<=31:=⟨(f%4).toNat,by omega,by omega⟩;obtain⟨m,u,L⟩:∃m:Nat,f%32=(m:Int)/\m<=31:=⟨(f%32).toNat,by omega,by omega⟩;rw[i]at I j G
 obtain⟨t,K,hw⟩:=XB (P:=RJ ŕd tF) c (n:=12) (l:=[.tup [.str Äa,.str h,.str q.1],.tup [.str äa,.str h,.str q.1],.tup ťm,.tup [.str Ĥb,.int (b:Int),.int (g:Int)],.tup [.str ðb,.int (b:Int),.int (f%5)],.tup [.str àb,.int (b:Int),.int (o:Int)],.tup [.str Àb,.int (b:Int),.int (m:Int)],.tup [.str Y,.int (b:Int),.int (g:Int)],.tup [.str Q,.int (b:Int),.int (g:Int),.int (f/4%256)],.tup [.str åb,.int (b:Int),.int (f%65536)],.tup [.str T,.int (b:Int),.int (g:Int)],W]) rfl È
  (xX (.cond Ĺ F y) (xX (.cond ŏb F y) (xX (.vo y) (xX (.plain (XV ã a e)) (xX Ĝm (xX ěm (xX ěm (xX (.plain (XV (by rcases N with rfl|rfl|rfl|rfl<;>simp) a e)) (xX (.plain ⟨.mem s Å Å Å Å Å Å,nofun⟩) (xX Ĝm (xX (.plain R) (xX A Yt))))))))))))
 refine⟨t,?_,hw⟩;have l1:qt 5=Ã:=by decide
 have g1:8<=yZ:=by decide
 have J:10<=yZ:=by decide
 have X:12<=yZ:=by decide
 rw[z4e];unfold Fy;simp only[Ó,qX,ýa,l1,v,p,C,z,B,ed,es,O,Z,i,u,I,j,G,x,Ï g1,Ï J,Ï X,K,ģa]
theorem z2a(ns:Á Int):∃(n:Nat) (n0 n1 n2:Str) (p0 p1 p2:Nat) (Î:Á D),1<=n/\n<=12/\bO n0 n1 n2/\p0<=n/\p1<=n/\p2<=n/\ì=n/\(∀r∈Î,RJ ŕd tF r)/\Qg [.lst Ņb,.int 4]=À (Â,.tup [.lst Î,.lst (wI Ĕi),.lst Ŀe]):=by
 have I:=Wa ns (k:=4) È;have F:=Wa ns (k:=5) È;obtain⟨n0,n1,n2,p,Q⟩:=z8k Ċf;obtain⟨n,R,s,q⟩:∃n:Nat,1+pO ns 4%12=(n:Int)/\1<=n/\n<=12:=⟨(1+pO ns 4%12).toNat,by omega,by omega,by omega⟩;have H:∀τ:zu,tJ ą ųb τ=À ōl:=λτ=>ZK (n:=3) rfl È
 generalize hNS:Ōa þ=NS at *;generalize hNM:ţf Ŀe=NM at *
 obtain⟨C,S,U,b⟩:=HK (g:=yD 7) (e:=Rc) (σ:=[À (Â,.lst NS),À (Â,.int 4),À (Â,.int (n:Int)),À (Â,.int Ċf),À (Â,NM),Ä,Ä,Ä]) (λv=>0<=v/\v<=n) (ds:=wQ 3) λd w=>by obtain⟨k,_,rfl⟩:=Ů w;obtain⟨v,T,Z,Y⟩:=qV Ċf (40+(k:Int));refine⟨_,v%ąr,rfl,?_,ŧd _ Å,by have:=ŗd v (show 0<(n:Int)+1 by omega);omega⟩;have z:decide (0<(n:Int)+1)=Ã:=î Å;unfold Rc;simp only[Ó,ýa,T,z]
 obtain⟨p0,p1,p2,j,N,L,O⟩:∃p0 p1 p2:Nat,C=Ĕi/\p0<=n/\p1<=n/\p2<=n:=by
  match C,U,b with
  | [x,y,z],_,b=>have W:=b x ã;have P:=b y ã;have X:=b z ã;refine⟨x.toNat,y.toNat,z.toNat,?_,by omega,by omega,by omega⟩;rw[Ši W.1,Ši P.1,Ši X.1]
 subst j;generalize hPL:wI Ĕi=PL at *
 obtain⟨Î,c,G⟩:=eZ (g:=yD 7) (e:=Re) (σ:=[À (Â,.lst NS),À (Â,.int 4),À (Â,.int (n:Int)),À (Â,.int Ċf),À (Â,NM),À (Â,.lst PL),Ä,Ä]) (λ_ x=>RJ ŕd tF x) (ds:=wQ n) λd w=>by obtain⟨k,_,rfl⟩:=Ů w;have E:=Wa ns (k:=6+(k:Int)) Å;rw[hNS]at E;obtain⟨r,c,u⟩:=sZ (n0:=n0) (n1:=n1) (n2:=n2) (p0:=p0) (p1:=p1) (p2:=p2) (pO ns (6+(k:Int))) (k:Int);rw[hNM]at c;refine⟨_,r,rfl,?_,u⟩;unfold Re;simp only[Ó,ýa,E,c]
 have a:ì=n:=by rw[<-Wf G,ä,ŵb]
 have u:∀r∈Î,RJ ŕd tF r:=λr K=>by obtain⟨x,_,h⟩:=cZ G r K;exact h
 have l:∀{A m t B o i:Æ Sl},KS Ŗm=À Ţh:=λ{A m t B o i}=>by unfold KS;have:=ZK (f:=z6 2) (τ:=Ŗm) (n:=(n:Int)) rfl Å;rw[Ň]at this;exact this
 have J:qK [.lst NS,.int (4+1)]=À (Â,.int Ċf):=F;refine⟨n,n0,n1,n2,p0,p1,p2,Î,s,q,Q,N,L,O,a,u,?_⟩;rw[hNM,hPL,z4f];unfold Fz;simp only[Ó,I,F,p,ýa,R,H,S,l,c,ģa]
def Ra:FE:=(Η şh đj)
def lO:FA:=(tJ ą (eL qR ìs))
def G_:FS:=(za úq
    (yO 5 (e2 ŵe Þa (uX (tE (e2 tI Č ď)) Ìb ņ))))
def FP:FS:=
 (za (Ν (Ιc (wU 1 (ua Ób) (yD 6) yt Ra)))
  (za (q_ 4 ųc)
  (za (yO 5 ą)
  (za (qy lO ĵd
   G_)
  (za úq
  (jT 4))))))
def U3:Á D->Æ â:=FR 2 6 FP
def z3m(a b:D):U3 ë=yH 6 FP ë:=rfl
noncomputable def yx(f:Nat->Ì):Nat->Int
 |0=>0|n+1=>yx f n+Łi
def pM(f:Nat->Ì)(n:Nat):Á D:=(Źc).map λi=>þ (yx f i)
def bV(f:Nat->Ì)(n:Nat):pM f ļ=pM f n++[.int (yx f n)]:=by unfold pM;rw[ůe,ğa];rfl
def bU(f:Nat->Ì)(n:Nat):(pM f n).length=n:=by simp[pM]
noncomputable def yK(zC:Á Nat):Á D:=Ħc λi:Nat=>þ i
def zd(zC:Á Nat)(n:Nat):Ì:=(Ýb).any λy=>xh y Ñb
theorem Gu:∀zC:Á Nat,XD (Ħc λi:Nat=>æc ŗe)=À (Ħc λi:Nat=>Ía (i:Int),Ħc λ_=>İc Ã)
 | []=>rfl|a::zC=>by show(uI že).bind _=_;show(XD (Ħc λi:Nat=>æc ŗe)).bind _=_;rw[Gu zC];rfl
theorem Ge(n:Nat):∀zC:Á Nat,yg (Ħc λi:Nat=>Ía (i:Int)) õd=zd zC n
 | []=>rfl|a::zC=>by
  show(decide ((Ía (a:Int):Sum Int Str)=.inl (n:Int))||yg (Ħc λi:Nat=>Ía (i:Int)) õd)=(xh že Ñb||zd zC n);rw[Ge n zC];have:xh že Ñb=ŝo:=rfl;rw[this]
  congr 1
  by_cases h:(a:Int)=(n:Int);rw[î ăk,h,éd];rw[ă (λe=>h (Âc e)),ĺc h]
theorem bT{zF:Á D}(h:∀d∈zF,vt d){zC:Á Nat}{n:Nat}(m:(ĳa).length=n)(s:n<=900):U3 āg=À (Ã,.lst (pM Ě ļ)):=by
 have o:=Mj h
 have e1:yo (yD 6) yt Ra Ùm Ýb=À (Ħc λi:Nat=>æc ŗe):=by
  have:=Z8 (g:=yD 6) (e:=Ra) (σ:=Ùm) Ōn (ds:=yK zC) λd t=>⟨_,rfl,rfl⟩
  rw[this];unfold yK;rw[Ĉb];rfl
 obtain⟨K,V,e2,q⟩:∃K V,Y_ Ŧm=À Æh/\∀n:Nat,yg K õd=zd zC n:=by refine⟨Ŭf.1,Ŭf.2,?_,λn=>?_⟩;show(XD _).bind _=_;rw[Gu];rfl;rw[Gd ã,Ge];rfl
 have p:lO Íi=À Ţh:=by have:=ZK (f:=eL qR ìs) (τ:=Íi) (n:=(n:Int)) (by simp only[Ó,o,m]) Å;exact this
 obtain⟨σ',k,j,rfl⟩:=gz (g:=yD 3) (b:=G_) (λi σ=>∃j,σ=[À (Â,.lst zF),À (Â,.lst Ýb),À (Â,.dic K V),j,À (Ã,.lst (pM Ě i)),À (Â,.int Žg)]) (ds:=wQ n)
  (σ:=Íi) 0 ⟨Ä,rfl⟩ (by
  rintro i v σ l ⟨j,rfl⟩;obtain⟨u,rfl⟩:=BL l;rw[Ő]at *;have a:=Ou (L:=pM Ě i) (r:=.int Žg) Áp
  have c:tI Ĺa Æh=À (.bl Ās):=by show(Ān).bind _=_;rw[q];rfl
  refine⟨_,[À (Â,.lst zF),À (Â,.lst Ýb),À (Â,.dic K V),À (Â,.int (i:Int)),À (Ã,.lst (pM Ě ê)),À (Â,.int (yx Ě ê))],rfl,.inl ?_,_,rfl⟩;rw[bV];show _=À (Fl.nx [_,_,_,_,_,À (Â,.int Řp)]);unfold G_;cases hf:zd zC i<;>rw[hf]at c<;>simp only[Ó,a,c]<;>rfl)
 rw[x69,Ő]at k;have a:=Ou (L:=pM Ě n) (r:=.int (yx Ě n)) Áp;rw[bV];rw[z3m];unfold FP;simp only[Ó,e1,e2,p,k,a]
def Fp:FS:=
 (yF (LP új (Wd (e2 Šj (e1 JK Ĩf) ï) (e2 Šj ï (eC ďd)))))
def Qd:Á D->Æ â:=FR 1 1 Fp
def z48(a:D):Qd [a]=yH 1 Fp [a]:=rfl
def BV:FE:=(uX (tE (e2 Zs ña ēa)) ēa (e2 gm âg (e2 zM ď Č)))
def FY:FS:=
 (za (Ν (ur U3 œc))
  (qz (wU 2 (gw şg) Ĥf yt BV)))
def U6:Á D->Æ â:=FR 2 3 FY
def z3s(a b:D):U6 ë=yH 3 FY ë:=rfl
def Rh:FE:=(Η Þa đj)
def lP:FA:=(tJ ą (eL qR Ōb))
def Ri:FE:=Þa
def O4:FT:=(tE (e2 Zt Þa Č))
def Rj:FE:=Þa
def O5:FT:=(ω (zR Qd (Α (e2 zM ď Þa))))
def CC:FS:=
 (za Ńo
  (za (yO 3 (Ιc (wU 1 (ua Ób) ša yt Rh)))
  (za (yO 4 (wU 1 lP ša O4 Ri))
  (qz (wU 1 (ua ña) ša O5 Rj)))))
def Yl:Á D->Æ â:=FR 2 5 CC
def z4r(a b:D):Yl ë=yH 5 CC ë:=rfl
def tgt(r:D):D:=match wG r with
 |Ã=>XF r|Â=>.zE
theorem cY{R:D->D->Prop}{g:FG}{e:FE}{σ:zu}(v:D->D)(h:∀r y,R r y->∃σ1,g y σ=À σ1/\e σ1=À (v r)):∀{rs ys:Á D},ui R rs ys->yo g yt e σ ys=À (rs.map v)
 |_,_,.nil=>rfl|r::rs,y::ys,.cons x xs=>by obtain⟨σ1,e1,e2⟩:=h r y x;show(g y σ).bind _=_;rw[e1];show(Ŀf).bind _=_;rw[e2];show(yo g yt e σ ys).bind _=_;rw[cY v h xs];rfl
def x1b{Î zF:Á D}(h:∀d∈zF,vt d)(m:Êc<=1000)(k:ui Ħd Î ĳa):jd ŕa=À (Ã,.lst Ći):=by
 obtain⟨c,b,e1,j⟩:=eV h m;have e2:=Mj h
 have o:=cY (g:=yD 2) (e:=Xk) (σ:=[À (Â,.lst zF),À (Â,.dic c b),Ä]) tgt (λr y f=>by
  have a:=eI f.1;rw[f.2.2.2.1]at a;refine⟨_,rfl,?_⟩;unfold Xk tgt;cases z:wG r with
  |Ã=>
   rw[z]at a;obtain⟨t,p,l,n,q⟩:=f.2.2.2.2 z
   have i:zM (.dic c b) Ęh=À Åe:=by show Ă c b Ąe=_;rw[j,n];rfl
   simp only[Ó,a,l,i,q]
  |Â=>rw[z]at a;simp only[Ó,a]) k
 rw[dq];unfold L7;simp only[Ó,e1,e2,o]
theorem x1n{m:Int}{r:D}(h:kY m r):(wG r=Â/\tgt r=.zE)\/(wG r=Ã/\∃p:Nat,(p:Int)<=m/\tgt r=.int (p:Int)/\XF r=.int (p:Int)/\zM r źg=À Åe):=by
 rcases h with h|h;obtain⟨_,_,_,_,c,_⟩:=T1 h;refine .inl ⟨c,?_⟩;unfold tgt;rw[c];obtain⟨w,p,_,_,_,c,_,d,b,e,f⟩:=M5 h;have a:((ĵf:Nat):Int)=p:=by omega
 refine .inr ⟨c,ĵf,by omega,?_,by rw[a,b],by rw[a,d]⟩;unfold tgt;rw[c,a];exact b
def dv(f:Nat->Ì)(d:D):D:=match d with
 |.tup [.int i,.int p]=>.int (yx f ĵf-yx f ĝc)|_=>.zE
def F0{f:Nat->Ì}{n p:Nat}(h:p<n):zM (Ε (pM f n)) Åe=À (Β (yx f p)):=by refine J6 Å ?_;rw[Ň];unfold pM;rw[ş,Şi h];rfl
def wt(Î:Á D)(f:Nat->Ì):Á D:=(čh).map (dv f)
def cT{Î:Á D}{f:Nat->Ì}{i:Nat}(h:i<ì):İr[i]?=À (dv f Čk):=by unfold wt;rw[ş,Jz,ş,Ģ h];rfl
def cU(Î:Á D)(f:Nat->Ì):(İr).length=ì:=by unfold wt;rw[ä,XN,ä]
theorem cS{Î zF:Á D}(h:∀d∈zF,vt d)(s:Êc<=1000)(g:ui Ħd Î ĳa)(m:∀r∈Î,kY (ì:Int) r)(j:ì<=900){zC:Á Nat} :U6 āg=À (Ã,.lst Œg):=by
 have e1:=bT h (zC:=zC) (Wf g).symm j;have e2:=x1b h s g
 have u:yo Ĥf yt BV [À (Â,.lst zF),À (Â,.lst Ýb),À (Â,.lst ŀq),Ä,Ä] čh=À Œg:=by
  refine Z8 (dv Ě) λd o=>?_
  obtain⟨i,e,v⟩:=ŝi o;have a:i<ì:=by rw[XN,ä]at e;exact e
  have b:čh[i]?=À d:=by rw[Ģ e,v]
  rw[Jz,ş,Ģ a]at b
  have c:d=.tup Þi:=by
   injection b with z
   exact Ėe
  subst c;have l:=F0 (f:=zd zC) (n:=ì+1) (p:=i) Å;refine⟨_,rfl,?_⟩;rcases x1n (m _ (Ÿb a))with⟨_,z⟩|⟨_,p,w,z,_⟩;rw[z];unfold BV;simp only[Ó];rfl;rw[z];have k:=F0 (f:=zd zC) (n:=ì+1) (p:=p) Å;unfold BV;simp only[Ó,k,l];rfl
 have t:∀σ:zu,zR jd üb σ=À (Ε Ći)->gw şg σ=À čh:=λσ z=>by unfold gw;rw[z];rfl
 have q:=t [À (Â,.lst zF),À (Â,.lst Ýb),À (Â,.lst ŀq)] (by simp only[Ó,e2]);rw[z3s];unfold FY;simp only[Ó,e1,q,u]
noncomputable def HZ:D->Ì
 |.zE=>Ã|.int x=>decide èl&&decide (x<=15)|_=>Â
def z8o{f:Nat->Ì}{d:D}:Qd [dv f d]=À (Â,.bl (HZ (dv f d))):=by
 have:dv f d=.zE\/∃x,dv f d=.int x:=by
  unfold dv
  split;exact .inr ⟨_,rfl⟩;exact .inl rfl
 rcases this with z|⟨x,z⟩<;>rw[z,z48]<;>unfold Fp;simp only[Ó];rfl;show _=À (Â,İc (decide èl&&decide (x<=15)));cases h1:decide èl<;>simp only[Ó,h1,ŋc]
def Zm(Î:Á D)(zC:Á Nat)(i:Nat):Ì:=!HZ (dv Ě än)
def gF(Î:Á D)(zC:Á Nat):Á Nat:=(ŉd).filter (Zm Î zC)
def cv(l:Á Nat):yK l=Åa λi:Nat=>þ i:=rfl
def z9b{Î zF:Á D}(h:∀d∈zF,vt d)(x:Êc<=1000)(u:ui Ħd Î ĳa)(w:∀r∈Î,kY (ì:Int) r)(v:ì<=900){zC:Á Nat} :Yl āg=À (Ã,.lst źd):=by
 have b:=cS h x u w v (zC:=zC)
 have e1:yo ša yt Rh ŷl Ýb=À (Ħc λi:Nat=>æc ŗe):=by
  have:=Z8 (g:=yD 5) (e:=Rh) (σ:=ŷl) Ōn (ds:=yK zC) λd j=>⟨_,rfl,rfl⟩
  rw[this,cv,Ĉb];rfl
 obtain⟨K,V,e2,y⟩:∃K V,Y_ Ŧm=À Æh/\∀n:Nat,yg K õd=zd zC n:=by refine⟨Ŭf.1,Ŭf.2,?_,λn=>?_⟩;show(XD _).bind _=_;rw[Gu];rfl;rw[Gd ã,Ge];rfl
 have m:lP Ųl=À (wQ ì):=by have:=ZK (f:=eL qR Ōb) (τ:=Ųl) (n:=((Œg).length:Int)) rfl (by rw[cU];omega);rw[cU,Ň]at this;exact this
 have l:yo ša O4 Ri ůl (wQ ì)=À (yK ŉd):=by
  have:=Js (g:=yD 5) (c:=O4) (e:=Ri) (σ:=ůl) (λd=>match d with|.int i=>!zd zC ĝc|_=>Â) id (ds:=wQ ì) λd j=>by
   obtain⟨i,q,rfl⟩:=x6a j
   have o:Zt Ĺa Æh=À (.bl (!zd zC i)):=by show(Ān).bind _=_;rw[y];rfl
   refine⟨_,rfl,?_,λ_=>rfl⟩;show O4 _=À (!zd zC (ĵs).toNat);rw[Ň];unfold O4;simp only[Ó,o]
  rw[this,Śg,Ăp];rfl
 have k:yo ša O5 Rj Ŭl (yK ŉd)=À źd:=by
  have:=Js (g:=yD 5) (c:=O5) (e:=Rj) (σ:=Ŭl) (λd=>match d with|.int i=>Zm Î zC ĝc|_=>Â) id (ds:=yK ŉd) λd j=>by
   obtain⟨i,q,rfl⟩:=Ů j;have a:i<ì:=ôc (ŭd q).1;have t:Ċc i .zE=Î[i]:=by rw[Āa,Ģ a];rfl
   have s:zM (Ε Œg) Ĺa=À (dv Ě Čk):=J6 Å (by rw[Ň];exact cT a);have p:=z8o (f:=zd zC) (d:=.tup Þi);refine⟨_,rfl,?_,λ_=>rfl⟩;show O5 _=À (Zm Î zC (ĵs).toNat);rw[Ň];unfold O5 Zm;rw[t];generalize dv Ě Čk=z at s p;simp only[Ó,s,p]
  rw[this,Śg,cv,Ăp];rfl
 rw[z4r];unfold CC;generalize yK zC=FF at b e1 e2 m l k ⊢;generalize wt Î Ě=DD at b e1 e2 m l k ⊢;generalize yK ŉd=NN at b e1 e2 m l k ⊢;simp only[Ó,b,e1,e2,m,l,k]
def kA(l:Á Nat):Á Nat:=(űm).map Õh
def y9n(l:Á Nat):yK Ŗl=(űm).map þ:=by
 unfold yK kA;rw[Ĉb];refine List.map_congr_left λx a=>?_
 obtain⟨i,_,rfl⟩:=Ů ((Ļg _).mem_iff.mp a);rfl
def Mw(l:Á Nat):(Ŗl).Perm l:=by
 have h:=(Ļg (Åa λi:Nat=>(i:Int))).map Õh;rw[Ĉb]at h
 have e:Åa (Õh∘λi:Nat=>(i:Int))=l:=by rw[show(Õh∘λi:Nat=>(i:Int))=id from funext λi=>Ň i,Śg]
 rw[e]at h;exact h
inductive gZ(g:Á Nat->Á Nat):Á Nat->Á Nat->Nat->Prop
 |ţ {zC:Á Nat}:g zC=[]->gZ g zC zC 0
 |go {zC R:Á Nat} {k:Nat}:g zC≠[]->(īr).length<64->gZ g Ġg R k->gZ g zC R Ņ
def Yp(n:Nat)(l:Á Nat):Prop:=l.Nodup/\∀x∈l,x<n
theorem lg{g:Á Nat->Á Nat}{n:Nat}(j:n<64)(b:∀zC,Yp n zC->Yp n īr):∀(m:Nat)(zC:Á Nat),Yp n zC->n-ũr<=m->∃R k,gZ g zC R k/\k<=m/\Yp n R
 |m,zC,gf,hm=>by
  by_cases e:g zC=[];exact⟨zC,0,.stop e,Áa _,gf⟩;have a:=b zC gf;have c:=CZ n a.1 a.2;have p:0<(g zC).length:=Įi e;rw[í]at c;have i:Yp n Ġg:=⟨(űh).nodup_iff.mpr a.1,λx d=>a.2 x ((űh).mem_iff.mp d)⟩;have l:(Ġg).length=ũr+(g zC).length:=by rw[(űh).length_eq,í]
  match m,hm with
  |0,hm=>omega|m+1,hm=>obtain⟨R,k,h,o,f⟩:=lg j b m Ġg i Å;exact⟨R,k+1,.go e Őo h,by omega,f⟩
def y9q{l:Á Nat}(h:ŕb<64):EJ [.lst (yK l)]=À (Ε (yK Ŗl)):=by
 have e:yK l=(Åa λi:Nat=>(i:Int)).map þ:=by unfold yK;rw[Ĉb];rfl
 rw[y9n,e];show(äb _).bind _=_;rw[eE];show(if(Åa λi:Nat=>(i:Int)).length<64 then _ else _)=_;rw[Ï (by rw[ä];exact h)]
theorem sP{a b:Á Nat}(h:(Ůh).length<64):yd (Ε ŋl) (Ε (yK b))=À (Ε (yK Ůh)):=by show(if(ŋl).length+(yK b).length<=yZ then _ else _)=_;rw[í]at h;unfold yK;rw[Ï (by rw[ä,ä];show _<=16777216;omega),ğa]
theorem z2q(l:Á Nat):(!(yK l).isEmpty)=decide (l≠[]):=by cases l<;>rfl
def z5b{Î:Á D}{zC:Á Nat}(h:Yp ì zC):Yp ì łm:=by
 have d:∀x∈gF Î zC,x<ì/\zd zC x=Â:=λx c=>by have f:=ŭd (ŭd c).1;exact⟨ôc f.1,by simpa using f.2⟩
 refine⟨List.nodup_append.mpr ⟨h.1,(List.nodup_range.filter _).filter _,λa j b i e=>?_⟩,λx c=>?_⟩;subst e;have g:=(d a i).2;have:zd zC a=Ã:=List.any_eq_true.mpr ⟨.int (a:Int),ŧe ⟨a,j,rfl⟩,éd _⟩;rw[this]at g;cases g;rcases Ăa c with c|c;exact h.2 x c;exact(d x c).1
def z5u(zC:Á Nat)(n:Nat):Ub Ñb (Ε Ýb)=À (zd zC n):=by
 have a:(Ýb).all xJ=Ã:=Ťd λy b=>by obtain⟨p,_,rfl⟩:=Ů b;rfl
 show(match xJ Ñb&&(Ýb).all xJ with|Ã=>_|Â=>_)=_;rw[a];rfl
def sw{Î:Á D}{zC:Á Nat}{i:Nat}(h:wG Ĵ=Â):Zm Î zC i=Â:=by unfold Zm tgt;rw[h];rfl
def HB:FS:=(za (yO 1 (eL EJ (Α (e2 yd Ób ď))))
    ło)
def LG:FT:=(tE (e2 xm ď ųc))
def Fi:FS:=
 (za (yO 1 ųc)
  (za ło
  (za (Mm LG
   HB)
  (yF Ď))))
def U7:Á D->Æ â:=FR 1 3 Fi
def z42(a:D):U7 [a]=yH 3 Fi [a]:=rfl
theorem cx{Î zF:Á D}(a:∀zC,Yl āg=À (Ã,.lst źd)):∀{zC R:Á Nat}{k:Nat},gZ Đh zC R k->
  pj LG HB Ņ [À (Â,.lst zF),À (Â,.lst Ýb),À (Â,.lst źd)]=À (.nx [À (Â,.lst zF),À (Â,.lst ěe),À (Â,.lst (yK []))])
 |zC,_,_,.stop e=>by rw[oA];rw[e];have h:=fV źd;rw[e]at h ⊢;unfold LG;simp only[Ó,h];rfl|zC,_,_,.go e h r=>by rw[oB (σ':=[À (Â,.lst zF),À (Â,.lst (yK Ðl)),À (Â,.lst (yK (gF Î Ðl)))]) ?_ ?_];exact cx a r;have h:=fV źd;rw[z2q,î e]at h;unfold LG;simp only[Ó,h];have d:=sP h;have c:=y9q h;have b:=a Ðl;unfold HB;simp only[Ó,d,c,b]
theorem c_{Î zF:Á D}(h:∀d∈zF,vt d)(l:Êc<=1000)(g:ui Ħd Î ĳa)(m:∀r∈Î,kY (ì:Int) r)(i:ì<64) :∃R k,gZ Đh [] R k/\k<=64/\Yp ì R/\U7 ŕa=À (Â,.lst ěe):=by
 obtain⟨R,k,b,n,f⟩:=lg i (λa=>z5b (Î:=Î)) ì [] ⟨ĉj,λ_ h=>by cases h⟩ Źb;have c:∀a,Yl [.lst zF,.lst ŋl]=À (Ã,.lst (yK (gF Î a))):=λa=>z9b h l g m Å
 have e1:=cx c b;have e2:=ly _ e1 (Ğ (show k+1<=65 by omega) È);have e:=c [];have j:yK []=[]:=rfl;rw[j]at e2 e;refine⟨R,k,b,by omega,f,?_⟩;rw[z42];unfold Fi;simp only[Ó,e,e2]
def z04:FS:=
 (za (xM (tE (e2 zk Ď (eC Ēk)))
   (yF (xt (zA ą (Ζ (e1 (wN Ec Eg) ï)))))
   wP)
  (yF (e1 (wN uv uw) Ď)))
def vz:Á D->Æ â:=FR 2 2 z04
def CQ:FS:=
 (yF (zR Zj (Κ (zA Íb (zA Ód Ōb)))))
def jf:Á D->Æ â:=FR 3 3 CQ
def z54(a b x2:D):jf Ìa=yH 3 CQ Ìa:=rfl
def RZ{x l d n:Int}(h:Ċi/\0<=n/\n<2 ^ Ģd):jf ĭn=À (Â,.int ßi):=by have a:zM ŕr ę=À (.int l):=rfl;have b:zM ŕr ûa=À (.int d):=rfl;rw[z54];unfold CQ;simp only[Ó,a,b,oE h]
def x8i:FE:=Ď
def x8m:FT:=(tE (e2 xm Ď (eC ķi)))
def s_:FS:=
 (qz (wU 1 (ua (e1 (wN Eb Ef) ï)) Ńa x8m x8i))
def uj:Á D->Æ â:=FR 1 1 s_
def Us:FS:=(za (yO 5 (uX (tE (e2 zk Č (eC ġa))) (e1 (JM X8) ña) ña))
    (Ν (zR jf (ε (zA (zR vz (zA ņe ţc)) ßh)))))
def Zn:FS:=
 (za (Ν (zR jf (zA ą (zA ķn Đb))))
  (za (qy (qU (ur uj ís) (Zq ï (g9 ņ) Y4)) Ĥf
   Us)
  (yF ď)))
def uU:Á D->Æ â:=FR 2 6 Zn
def Wl(a b:D):uU ë=yH 6 Zn ë:=rfl
def V9{c:Int}(a:0<=c)(b:c<32):jf [.int 0,.tup Þp,.int c]=À (Â,.int Ļj):=by rw[RZ (x:=0) (l:=27) (d:=5) (n:=c) ⟨by decide,a,b⟩];simp
def ZI{x l d n m:Int}(b:0<=l/\l<64)(a:0<=d/\d<64)(c:0<=x)(n0:0<=n)(n1:n<2 ^ Ģd)(hz:x/2 ^ l.toNat%2 ^ Ģd=0)(e:m=2 ^ l.toNat):jf ĭn=À (Â,.int (x+n*m)):=by rw[RZ ⟨⟨c,b.1,b.2,a.1,a.2⟩,n0,n1⟩,hz,e,Ěq]
theorem ER{c:Int}(b:0<=c)(d:c<32){w:Str}(g:uj ēc=À (Ã,.lst [])):uU [.tup ēc,.int c]=À (Â,.int Ļj):=by
 have f:wN uv uw Ćc=À Ļc:=by rfl
 have e:=V9 b d;have a:X2 (.tup ēc) ĥd Ä=À Ĥs:=by rfl
 rw[Wl];unfold Zn;simp only[Ó,f,e,XA,g,qU,Zq,g9,Y4,a,k9,Ýd]
theorem z2s{w:Str}{c W d n:Int}(j:uj ēc=À (Ã,.lst üo))(t:vz żi=À (Â,.tup Źd))(o:vz Ůo=À (Â,.tup ćp))(q:0<=c)(b:c<32)(i:0<=W)(u:W<=16)(d0:0<=d)(d1:d<8)(n0:0<=n)(n1:n<2 ^ ŀa)(s:(2:Int) ^ ŀa ∣ 16777216) :uU [.tup Õm,.int c]=À (Â,.int (c*134217728+d*16777216+n)):=by
 have a:wN uv uw Ćc=À Ļc:=by rfl
 have r:=V9 q b;have e:=ZI (x:=c*134217728) (l:=24) (d:=3) (n:=d) (m:=16777216) È È Å d0 d1 ëi È
 have f:=ZI (x:=c*134217728+d*16777216) (l:=0) (d:=W) (n:=n) (m:=1) È ⟨i,by omega⟩ Å n0 n1 (by show(c*134217728+d*16777216)/1%2 ^ ŀa=0;rw[Āc];obtain⟨k,a⟩:=s;rw[show c*134217728+d*16777216=2 ^ ŀa*(k*(8*c+d)) by rw[<-Ïq,<-a];omega];exact Ĳo _ _) È
 have h:zk ēk ġa=À ñ:=by rfl
 have g:zk Ēk ġa=À ñ:=by rfl
 have p:X2 Ċk ĥd Ä=À (.tup [.int d,.int n]):=by rfl
 rw[Wl];unfold Zn;simp only[Ó,a,r,XA,j,qU,Zq,g9,Y4,p,k9,ñc,Ýd,Us,h,g,t,e,o,f,Õf]
theorem z2t{w:Str}{c d s:Int}(k:uj ēc=À (Ã,.lst ûo))(t:vz żi=À (Â,.tup Źd))(h:vz ŭo=À (Â,.tup Ėg))(q:0<=c)(a:c<32)(d0:0<=d)(d1:d<8)(i:0<=s)(o:s<8) :uU [.tup Įm,.int c]=À (Â,.int ūm):=by
 have f:wN uv uw Ćc=À Ļc:=by rfl
 have r:=V9 q a;have b:=ZI (x:=c*134217728) (l:=24) (d:=3) (n:=d) (m:=16777216) È È Å d0 d1 ëi È;have e:=ZI (x:=c*134217728+d*16777216) (l:=21) (d:=3) (n:=s) (m:=2097152) È È Å i o ðm È;have j:zk ēk ġa=À ñ:=by rfl
 have g:zk śr ġa=À ñ:=by rfl
 have p:X2 Ŗr ĥd Ä=À (.tup [.int d,.int s]):=by rfl
 rw[Wl];unfold Zn;simp only[Ó,f,r,XA,k,qU,Zq,g9,Y4,p,k9,ñc,Ýd,Us,j,g,t,b,h,e]
theorem z2u{w:Str}{c d s n:Int}(p:uj ēc=À (Ã,.lst ïn))(k:vz żi=À (Â,.tup Źd))(h:vz ŭo=À (Â,.tup Ėg))(q:vz Ůo=À (Â,.tup Ĉp))(t:0<=c)(a:c<32)(d0:0<=d)(d1:d<8)(i:0<=s)(o:s<8)(n0:0<=n)(n1:n<256) :uU [.tup ám,.int c]=À (Â,.int (c*134217728+d*16777216+s*2097152+n)):=by
 have f:wN uv uw Ćc=À Ļc:=by rfl
 have u:=V9 t a;have b:=ZI (x:=c*134217728) (l:=24) (d:=3) (n:=d) (m:=16777216) È È Å d0 d1 ëi È;have e:=ZI (x:=c*134217728+d*16777216) (l:=21) (d:=3) (n:=s) (m:=2097152) È È Å i o ðm È;have v:=ZI (x:=c*134217728+d*16777216+s*2097152) (l:=0) (d:=8) (n:=n) (m:=1) È È Å n0 n1 (by show ūm/1%256=0;omega) È;have j:zk ēk ġa=À ñ:=by rfl
 have g:zk śr ġa=À ñ:=by rfl
 have y:zk Ēk ġa=À ñ:=by rfl
 have r:X2 ŗr ĥd Ä=À (.tup [.int d,.int s,.int n]):=by rfl
 rw[Wl];unfold Zn;simp only[Ó,f,u,XA,p,qU,Zq,g9,Y4,r,k9,ñc,Ýd,Us,j,g,y,k,b,h,e,q,v,Õf]
theorem dI{c m:Int}{w k:Str}(h:uj ēc=À (Ã,.lst åf))(p:vz Żi=À (Â,.tup Ūe))(g:JM X8 ĩa=À ėc)(f:0<=m)(q:m<3)(j:0<=c)(a:c<32):uU [.tup Ņe,.int c]=À (Â,.int Ĺn):=by
 have e:wN uv uw Ćc=À Ļc:=by rfl
 have o:=V9 j a;have b:=ZI (x:=c*134217728) (l:=24) (d:=2) (n:=m) (m:=16777216) È È Å f Ęo ım È;have e1:zk ġa ġa=À Ę:=by rfl
 have i:X2 ċk ĥd Ä=À (.tup řb):=by rfl
 rw[Wl];unfold Zn;simp only[Ó,e,o,XA,h,qU,Zq,g9,Y4,i,k9,ñc,Ýd,Us,e1,g,p,b]
def CD:FS:=
 (yF (zR wz (Κ (zA Íb (zA Ód zG)))))
def kW:Á D->Æ â:=FR 2 2 CD
def z4s(a b:D):kW ë=yH 2 CD ë:=rfl
def FX:FS:=
 (yF (zR kW (θ ķn)))
def kS:Á D->Æ â:=FR 1 1 FX
def z3r(a:D):kS [a]=yH 1 FX [a]:=rfl
def x8j:FE:=ď
def x8n:FT:=(μb ır)
def x8k:FE:=ď
def x8o:FT:=(μb Ĳr)
def x8l:FE:=ď
def x8p:FT:=(μb ĳr)
def z02:FS:=
 (za (q_ 1 (wU 1 (iG gn) ſc x8n x8j))
  (za (qX 1 (wU 1 (iG Zv) ſc x8o x8k))
  (za (qX 1 (wU 1 (iG Zu) ſc x8p x8l))
  (za (T6 1) (yF (uX (tE (e2 zk Ď ųc)) ēa Íb))))))
def UA:Á D->Æ â:=FR 1 2 z02
def z01:FS:=
 (θd (.lst Z4))
def Zi:Á D->Æ â:=FR 1 1 z01
def z00:FS:=
 (θd (.lst Z3))
def Yi:Á D->Æ â:=FR 1 1 z00
def L0:FS:=
 (za (yO 3 (zR kW (Κ (Α (zR vz (zA Ób Êk))))))
  (za (xM (tE (e2 xm ď (eC ġa)))
   (yF Č)
   wP)
  (yF (uX (tE (e2 ăc Č (eL qR (Α ńh)))) (e2 zM ńh Č) ēa))))
def qh:Á D->Æ â:=FR 3 4 L0
def dg(a b x2:D):qh Ìa=yH 4 L0 Ìa:=rfl
def Xj:FE:=(zR qh (zA ï (ε ßh)))
def CI:FS:=
 (za (yO 1 (zR kS üb))
  (za (Ν (zR UA Đb))
  (za (xM ßo
   ûe
   wP)
  (za (yO 3 (Κc (e2 yd (xi Êk) (wU 1 (ua (ur uj Êk)) ša yt Xj))))
  (za (xM (tE (e2 tI ēa Č))
   ûe
   wP)
  (za (yO 4 (uX (tE (zR Zi Đb)) (zR jf (Κ (zA Ąi Šg))) ï))
  (yF (uX (tE (e2 zk (zR uU (zA Č Đb)) ña)) Č ēa))))))))
def j5:Á D->Æ â:=FR 1 5 CI
def z4w(a:D):j5 [a]=yH 5 CI [a]:=rfl
def CK:FS:=
 (za Ĭr
  (yF (uX (tE (e2 ăc ùj ď)) ï (e2 gm ï ď))))
def Ym:Á D->Æ â:=FR 2 3 CK
def z4y(a b:D):Ym ë=yH 3 CK ë:=rfl
def Fh:FS:=
 (za (xM (tE (e2 Îf Ŷe Ŝc))
   ûe
   wP)
  (Βc (zA (e2 yd Ď Ìb) (Χd (zA (e2 zM ï Ŷe) ŉk)))))
def Qa:Á D->Æ â:=FR 3 3 Fh
def z41(a b x2:D):Qa Ìa=yH 3 Fh Ìa:=rfl
def UU:FS:=
 (za (xM (YH (tE (e2 ăc Ď ą)) (tE (e2 Îf Ď Ŝc)))
   ûe
   wP)
  (za (Ν (zR j5 Łk))
  (za (xM ßo
   ûe
   wP)
  (za (yO 3 (zR kS Łk))
  (za (xM (tE (zR Yi ţc))
   (yF (zR Qa (Κ (zA Ď Ōb))))
   wP)
  (za (xM (tE (zR Zi ţc))
   (za (yO 4 Ąi)
    (Βc (zA Ŷe (Χd (zA (zR kW (zA ãg àh)) (zA (e2 zM ña ņ) zG))))))
   wP)
  (Βc (zA Ŷe (Α ēa)))))))))
def je:Á D->Æ â:=FR 2 5 UU
def Lh(a b:D):je ë=yH 5 UU ë:=rfl
def MO{x l W:Int}(a:0<=l)(d:0<=W)(b:W<64):kW [.int x,.tup Œi]=À (Â,.int Ĳi):=by
 have c:zM Ŕr ę=À (.int l):=rfl;have e:zM Ŕr ûa=À (.int W):=rfl;have e1:=T2 (i:=1) (j:=W) d b È È
 have p:wz [.int x,.int l,.int W]=À (Â,.int Ĳi):=by rw[dk];unfold L6;simp only[Ó,e1,î a,i8]
 rw[z4s];unfold CD;simp only[Ó,c,e,p]
theorem UW{x:Int}(b:0<=x)(c:x<4294967296):kS Þb=À (Â,.int (x/134217728)):=by
 have a:wN uv uw Ćc=À Ļc:=by rfl
 have n:kW [.int x,.tup Þp]=À (Â,.int (x/134217728%32)):=MO È È È;rw[show x/134217728%32=x/134217728 by omega]at n;rw[z3r];unfold FX;simp only[Ó,a,n]
noncomputable def Z7:Á D:=[.str Öc,.str ðb,.str åb,.str ţb,.str ęa,.str ğb,.str Ĥb,.str Ğb,.str ñb,.str ĭb,.str ĥb,.str Ła,.str Àb,.str àb,.str Âb,.str śa,.str Ŝa,.str ŗa,.str Ÿ,.str Äa,.str äa,.str Ÿ,.str Äa,.str äa]
theorem z6q:(Ůc).map (λc:Nat=>UA Đj)=(Ůc).map λc=>À (Â,Üc c .zE):=by kernel_rfl
def z8p:(Ůc).map (λc:Nat=>Zi Đj)=(Ůc).map λc=>À (Â,.bl (decide (18<=c)&&decide (c<=20))):=by kernel_rfl
def z2p:(Ůc).map (λc:Nat=>Yi Đj)=(Ůc).map λc=>À (Â,.bl (decide (21<=c)&&decide (c<=23))):=by kernel_rfl
def Hj{f g:Nat->Æ â}(h:(Ůc).map f=(Ůc).map g){n:Nat}(a:n<32):f n=g n:=by have e:=Ëa (λl=>l[n]?) h;simp only[ş,Şi a,åj]at e;exact ĸa e
def Gw{n:Nat}(h:n<32):UA ďj=À (Â,Üc n .zE):=Hj z6q h
def Jy{n:Nat}(h:n<32):Zi ďj=À (Â,.bl (decide (18<=n)&&decide (n<=20))):=Hj z8p h
def EO{n:Nat}(h:n<32):Yi ďj=À (Â,.bl (decide (21<=n)&&decide (n<=23))):=Hj z2p h
def Wq{x l W:Int}{k f:Str}(a:vz [.str k,.str f]=À (Â,.tup Œi))(b:xm (.str f) ġa=À Ę)(e:0<=l)(c:0<=W)(d:W<64):qh [.int x,.str k,.str f]=À (Â,.int Ĳi):=by have n:=MO (x:=x) e c d;rw[dg];unfold L0;simp only[Ó,a,n,b]
noncomputable def fE:Á D:=[.str Ċa,.str Œa,.str ſa,.zE]
theorem z5f{x:Int}{k:Str}(b:vz [.str k,.str ěb]=À (Â,.tup Ūe)):qh [.int x,.str k,.str ěb]=À (Â,fE.getD (śp).toNat .zE):=by
 have n:kW [.int x,.tup Ūe]=À (Â,.int śp):=MO È È È;have a:xm ġa ġa=À ñ:=by rfl
 rw[dg];unfold L0;rcases(show x/16777216%4=0\/x/16777216%4=1\/x/16777216%4=2\/x/16777216%4=3 by omega)with e|e|e|e<;>rw[e]at n ⊢;have i:zM gs ę=À Èe:=rfl;simp only[Ó,b,n,a,i];rfl;have i:zM gs ûa=À ìf:=rfl;simp only[Ó,b,n,a,i];rfl;have i:zM gs ćc=À ëf:=rfl;simp only[Ó,b,n,a,i];rfl;simp only[Ó,b,n,a];rfl
def Kc{x c Z a:Int}{b:Ì}{k:Str}{fs R:Á D}(i:kS Þb=À (Â,.int c))(hk:UA Òc=À (Â,.str k))(l:uj řb=À (Ã,.lst fs))(m:yo ša yt Xj [À (Â,.int x),À (Â,.int c),À (Â,.str k),Ä,Ä,Ä] fs=À R)(j:tI .zE åe=À ñ)(q:Ðc<=3)(d:Zi Òc=À (Â,.bl b))(g:b=Ã->jf Įn=À (Â,.int a))(p:b=Â->a=x)(hz:uU [.tup Ńc,.int c]=À (Â,.int Z)) :j5 Þb=À (Â,if Z=a then .tup Ńc else .zE):=by
 have n:yd (.lst řb) (.lst R)=À (.lst Ńc):=by rw[sQ (by simp only[ĕ,Űe];omega)];rfl
 have h:Wh [.lst Ńc]=À åe:=rfl;have o:wN uv uw ďk=À éf:=by rfl
 have f:zk (.int Z) ĭf=À (Υa (Z=a)):=by by_cases e:Z=a;rw[Ji e,î e];rw[Ly e,ă e]
 rw[z4w];unfold CI;cases b with
 |Ã=>have g:=g rfl;by_cases e:Z=a;rw[Ï e];rw[î e]at f;simp only[Ó,i,hk,l,m,n,h,j,d,o,g,hz,f];rw[Ð e];rw[ă e]at f;simp only[Ó,i,hk,l,m,n,h,j,d,o,g,hz,f]|Â=>obtain rfl:x=a:=(p rfl).symm;by_cases e:Z=x;rw[Ï e];rw[î e]at f;simp only[Ó,i,hk,l,m,n,h,j,d,o,hz,f];rw[Ð e];rw[ă e]at f;simp only[Ó,i,hk,l,m,n,h,j,d,o,hz,f]
theorem mW{n W:Int}(e:0<=W)(d:W<64):Ym [.int n,.int W]=À (Â,.int (if 2*n<2 ^ ŀa then n else n-2 ^ ŀa)):=by
 have e1:=T2 (i:=1) (j:=W) e d È È;have b:qt 2=Ã:=by decide
 rw[z4y];unfold CK;by_cases c:2*n<2 ^ ŀa;rw[Ï c];have a:decide ıp=Ã:=î Å;simp only[Ó,e1,b,a];rw[Ð c];have a:decide ıp=Â:=ă Å;simp only[Ó,e1,b,a,ă c,Ăd]
theorem x41{ws:Á D}{a:Int}(h:a<0\/(đb:Int)<=a):je ĕg=À (Â,.zE):=by
 rw[Lh];unfold UU;by_cases c:a<0;simp only[Ó,î c];have d:(đb:Int)<=a:=by omega
 simp only[Ó,ă c,î d]
structure At(ws:Á D)(a x:Int):Prop where
 a0:0<=a
 a1:a<(đb:Int)
 ix:zM Ďc ĭf=À ŷa
 x0:0<=x
 x1:x<4294967296
section
variable{ws:Á D}{a x:Int}(A:At ws a x)
include A
theorem At.cond{α:Type}:decide (a<0)=Â/\decide ((đb:Int)<=a)=Â/\decide (0<=a)=Ã/\decide (a<(đb:Int))=Ã:=by obtain⟨b,c,_,_,_⟩:=A;exact⟨ă Å,ă Å,î b,î c⟩
theorem x42{c:Int}{R:Á D}(f:kS Þb=À (Â,.int c))(e:Yi Òc=À (Â,.bl Â))(g:Zi Òc=À (Â,.bl Â))(i:j5 Þb=À (Â,.tup R)) :je ĕg=À (Â,.tup [.tup R,.int (a+1),.zE]):=by obtain⟨d,b,_,_⟩:=ňl (α:=Nat);have h:=A.ix;rw[Lh];unfold UU;simp only[Ó,d,b,h,i,f,e,g,ýa]
theorem x40{c:Int}{R:Á D}(g:kS Þb=À (Â,.int c))(f:Yi Òc=À (Â,.bl Â))(i:Zi Òc=À (Â,.bl Ã))(k:j5 Þb=À (Â,.tup R)) :je ĕg=À (Â,.tup [.tup R,.int (a+1),.int (a+ŵf)]):=by
 obtain⟨d,b,_,_⟩:=ňl (α:=Nat);have j:=A.ix;have e:wN uv uw ďk=À éf:=by rfl
 have n:kW [.int x,.tup âi]=À (Â,.int (x/1%32)):=MO È È È;rw[Āc]at n;have s:Ym [.int (x%32),.int 5]=À (Â,.int ŵf):=mW È È;have h:zM éf ûa=À űc:=rfl;rw[Lh];unfold UU;generalize ŵf=S at s ⊢;simp only[Ó,d,b,j,k,g,f,i,e,n,h,s,ýa]
theorem x3z{c:Int}{R:Á D}(h:kS Þb=À (Â,.int c))(g:Yi Òc=À (Â,.bl Ã))(j:j5 Þb=À (Â,.tup R)){y:Int}(k:zM Ďc (Β (a+1))=À (.int y))(l:a+1<(đb:Int)) :je ĕg=À (Â,.tup Ŵm):=by
 obtain⟨f,b,_,_⟩:=ňl (α:=Nat);have i:=A.ix;have s:Ym [.int y,.int 32]=À (Â,.int Õi):=mW È È;have d:decide ((đb:Int)<=a+1)=Â:=ă Å
 have e:Qa [.lst ws,.int a,.tup R]=À (Â,.tup Ŵm):=by rw[z41];unfold Fh;generalize Õi=S at s ⊢;simp only[Ó,ýa,d,k,s]
 rw[Lh];unfold UU;simp only[Ó,f,b,i,j,h,g,e]
#print a
def CO:FS:=
 (za Ĭr
  (za (xM (YH (tE (e2 ăc ùj (e1 JK ď))) (tE (e2 Îf ùj ď)))
   ōb
   wP)
  (yF (uX (tE (e2 Îf ï ą)) ï (e2 yd ï ď)))))
def UH:Á D->Æ â:=FR 2 3 CO
def z52(a b:D):UH ë=yH 3 CO ë:=rfl
def CV:FS:=
 (yF (Θc ır))
def UJ:Á D->Æ â:=FR 1 1 CV
def z58(a:D):UJ [a]=yH 1 CV [a]:=rfl
def CB:FS:=
 (za (yO 2 Ąi)
  (yF (zR jf (zA (Θc Ĳr) (ε (Ζ (zR UH (ο (zA øj zG)))))))))
def UE:Á D->Æ â:=FR 2 3 CB
def z4q(a b:D):UE ë=yH 3 CB ë:=rfl
def Fj:FS:=
 (qz (Ο (Θc ĳr) (Α (zR UH (zA Ób (Ζ ŕe))))))
def WF:Á D->Æ â:=FR 2 2 Fj
def z43(a b:D):WF ë=yH 2 Fj ë:=rfl
def Jr:FS:=(xM (tE (e2 Zs âg ēa))
     (YC 3 k_ (zR UJ ßh))
     (xM (tE (e2 tI ña Ď))
       (qX 3 (ur WF Ŭi))
       (YC 3 k_ (zR UE Ŭi))))
def CY:FS:=
 (za (yO 1 (zR U7 üb))
  (za Ńo
  (za ĺr
  (za (qy (gw Êe) (uZ 4 5)
   Jr)
  (jT 3)))))
def WJ:Á D->Æ â:=FR 1 6 CY
def z5a(a:D):WJ [a]=yH 6 CY [a]:=rfl
def nR{d W:Int}(l:0<=W)(o:W<64)(p : -(2 ^ ŀa)<=2*d)(n:2*d<2 ^ ŀa):UH [.int d,.int W]=À (Â,.int (d%2 ^ ŀa)):=by
 have e1:=T2 (i:=1) (j:=W) l o È È;obtain⟨k,q⟩:=iP (d:=ŀa) Å;have h:qt 2=Ã:=by decide
 rw[z52];unfold CO;obtain⟨P,e⟩:∃P:Int,P=2 ^ ŀa:=⟨_,rfl⟩;rw[<-e]at p n k q ⊢;have g:decide (2*d < -(1*P))=Â:=ă Å;have f:decide (1*P<=2*d)=Â:=ă Å;cases c:decide (0<=d)with
 |Ã=>have c:=ŀ c;have m:d%P=d:=Še c Å;simp only[Ó,e1,h,<-e,g,f,î c,m]|Â=>
  have r:=ħo c
  have m:d%P=d+P:=by rw[<-Int.add_emod_right (a:=d) (b:=P)];exact Še Å Å
  simp only[Ó,e1,h,<-e,g,f,c,ýa,m];rw[Ăd]
theorem z7c{g:FG}{c:FT}{e:FE}{σ σ1:zu}{d x:D}{r xs:Á D}(b:g d σ=À σ1)(f:c σ1=À Ã)(a:e σ1=À x)(h:yo g c e σ r=À xs):yo g c e σ (d::r)=À ęl:=by rw[yo,b,ăb,f,ăb];show(Ŀf).bind _=_;rw[a,h];rfl
def Y1{x:Int}{N r:D}{k:Str}{f:D}{fs R:Á D}(h:qh [.int x,.str k,f]=À (Â,r))(a:yo ša yt Xj Øm fs=À R):yo ša yt Xj Øm (f::fs)=À (r::R):=
 z7c (σ1:=[À (Â,.int x),À (Â,N),À (Â,.str k),Ä,Ä,À (Â,f)]) rfl rfl (by simp only[Ó,Xj,h]) a
def JE{q d B r b:Int}(h:0<B)(d0:0<=d)(d1:d<b)(a:0<=r)(c:r<B):(q*(b*B)+d*B+r)/B%b=d:=by rw[<-Ïq,<-Int.add_mul,Ĝq,Int.add_mul_ediv_right _ _ (Ŋg h),Int.ediv_eq_zero_of_lt a c,ęq,Ĝq,Int.add_mul_emod_self_right,Še d0 d1]
structure UP(r:D)(v:Int):Prop where
 v0:0<=v
 v1:v<4294967296
 c:∃n:Nat,n<=17/\v/134217728=(n:Int)
 w:UJ [r]=À (Â,.int v)
 r:j5 [.int v]=À (Â,r)
def BS{k:Str}{n:Nat}{v:Int}{R fs:Á D}(e:0<=v)(v1:v<4294967296)(d:n<=17)(hv:v/134217728=(n:Int))(hk:Üc n .zE=.str k)(g:wN gn gu ĩa=À Ñb)(i:uj řb=À (Ã,.lst fs))(l:yo ša yt Xj [À (Â,.int v),À (Â,.int (n:Int)),À (Â,.str k),Ä,Ä,Ä] fs=À R)(j:tI .zE åe=À ñ)(f:Ðc<=3)(hz:uU ıi=À (Â,.int v)):UP åe v:=by refine⟨e,v1,⟨n,d,hv⟩,?_,?_⟩;rw[z58];unfold CV;simp only[Ó,XA,g,hz];have b:=UW e v1;rw[hv]at b;have c:=Gw (n:=n) Å;rw[hk]at c;have a:=Jy (n:=n) Å;rw[ă (show ¬ 18<=n by omega),ŋc]at a;have:=Kc b c i l j f a Âj šc hz;rw[this,Ï rfl]
theorem BR{n:Nat}{k:Str}{W P d m:Int}(f:n<=17)(hk:Üc n .zE=.str k)(t:wN gn gu ĩa=À Ñb)(q:uj řb=À (Ã,.lst üo))(o:vz Ži=À (Â,.tup Źd))(l:vz Űo=À (Â,.tup ćp))(p:0<=W)(v:W<=16)(i:(2:Int) ^ ŀa=P)(e:(2:Int) ^ ŀa ∣ 16777216)(d0:0<=d)(d1:d<8)(g:0<=m)(s:m<P)(u:P<=65536)(r:Öd%P=m):UP (.tup [.str k,.int d,.int m]) Öd:=by
 have a:=z2s (c:=(n:Int)) (d:=d) (n:=m) q o l Å Å p v d0 d1 g (by rw[i];exact s) e;have h:qh [.int Öd,.str k,.str "d"]=À (Â,.int (Öd/16777216%8)):=Wq o Ôc È È È;have j:qh [.int Öd,.str k,.str "n"]=À (Â,.int (Öd/1%P)):=by rw[<-i];exact Wq l Ôc È p Å
 rw[Āc,r]at j;rw[show Öd/16777216%8=d from JE (B:=16777216) (b:=8) È d0 d1 g Å]at h;exact BS Å Å f Å hk t q (Y1 h Ćk) rfl ã a
def YJ{n:Nat}{k:Str}{d s:Int}(o:n<=13)(hk:Üc n .zE=.str k)(p:wN gn gu ĩa=À Ñb)(h:uj řb=À (Ã,.lst ûo))(m:vz Ži=À (Â,.tup Źd))(f:vz ůo=À (Â,.tup Ėg))(d0:0<=d)(d1:d<8)(g:0<=s)(j:s<8):UP (.tup [.str k,.int d,.int s]) Ňd:=by have e:=z2t (c:=(n:Int)) (d:=d) (s:=s) h m f Å Å d0 d1 g j;have i:qh [.int Ňd,.str k,.str "d"]=À (Â,.int (Ňd/16777216%8)):=Wq m Ôc È È È;have l:qh [.int Ňd,.str k,.str "s"]=À (Â,.int (Ňd/2097152%8)):=Wq f Ôc È È È;rw[show Ňd/16777216%8=d from JE (B:=16777216) (b:=8) È d0 d1 Å Å]at i;have a:=JE (q:=(n:Int)*8+d) (B:=2097152) (b:=8) (r:=0) È g j È È;rw[show ćq*ÿr+s*2097152+0=(n:Int)*134217728+d*16777216+s*2097152 by omega]at a;rw[a]at l;exact BS Å Å Å Å hk p h (Y1 i (Y1 l rfl)) rfl ã e
def BQ{n:Nat}{k:Str}{d s m:Int}(g:n<=17)(hk:Üc n .zE=.str k)(x:wN gn gu ĩa=À Ñb)(p:uj řb=À (Ã,.lst ïn))(v:vz Ži=À (Â,.tup Źd))(h:vz ůo=À (Â,.tup Ėg))(e:vz Űo=À (Â,.tup Ĉp))(d0:0<=d)(d1:d<8)(j:0<=s)(l:s<8)(i:0<=m)(w:m<256):UP (.tup [.str k,.int d,.int s,.int m]) ĳc:=by have f:=z2u (c:=(n:Int)) (d:=d) (s:=s) (n:=m) p v h e Å Å d0 d1 j l i w;have o:qh [.int ĳc,.str k,.str "d"]=À (Â,.int (ĳc/16777216%8)):=Wq v Ôc È È È;have u:qh [.int ĳc,.str k,.str "s"]=À (Â,.int (ĳc/2097152%8)):=Wq h Ôc È È È;have t:qh [.int ĳc,.str k,.str "n"]=À (Â,.int (ĳc/1%256)):=Wq e Ôc È È È;rw[Ðq,show((n:Int)*134217728+d*16777216+(s*2097152+m))/16777216%8=d from JE (B:=16777216) (b:=8) È d0 d1 Å Å,<-Ðq]at o;have a:=JE (q:=(n:Int)*8+d) (B:=2097152) (b:=8) (r:=m) È j l i Å;rw[show ćq*ÿr+s*2097152+m=(n:Int)*134217728+d*16777216+s*2097152+m by omega]at a;rw[a]at u;rw[show ĳc/1%256=m by omega]at t;exact BS Å Å g Å hk x p (Y1 o (Y1 u (Y1 t rfl))) rfl ã f
def y5i{r:D}(h:pK r):∃v:Int,UP r v:=by
 cases h with
 |ţ=>exact⟨0,BS (n:=0) (fs:=[]) È È È È rfl rfl rfl rfl rfl ã (ER (c:=0) È È rfl)⟩|W4 hw d0 d1 n0 n1=>rcases hw with rfl|rfl;exact⟨_,BR (n:=1) (W:=16) (P:=65536) È rfl rfl rfl rfl rfl È È È È d0 d1 n0 n1 È Å⟩;exact⟨_,BR (n:=2) (W:=16) (P:=65536) È rfl rfl rfl rfl rfl È È È È d0 d1 n0 n1 È Å⟩
 |two hw d0 d1 s0 s1=>rcases hw with rfl|rfl|rfl|rfl|rfl|rfl|rfl|rfl|rfl;exact⟨_,YJ (n:=3) È rfl rfl rfl rfl rfl d0 d1 s0 s1⟩;exact⟨_,YJ (n:=4) È rfl rfl rfl rfl rfl d0 d1 s0 s1⟩;exact⟨_,YJ (n:=5) È rfl rfl rfl rfl rfl d0 d1 s0 s1⟩;exact⟨_,YJ (n:=6) È rfl rfl rfl rfl rfl d0 d1 s0 s1⟩;exact⟨_,YJ (n:=7) È rfl rfl rfl rfl rfl d0 d1 s0 s1⟩;exact⟨_,YJ (n:=8) È rfl rfl rfl rfl rfl d0 d1 s0 s1⟩;exact⟨_,YJ (n:=9) È rfl rfl rfl rfl rfl d0 d1 s0 s1⟩;exact⟨_,YJ (n:=10) È rfl rfl rfl rfl rfl d0 d1 s0 s1⟩;exact⟨_,YJ (n:=11) È rfl rfl rfl rfl rfl d0 d1 s0 s1⟩
 |W6 hw d0 d1 n0 n1=>rcases hw with rfl|rfl;exact⟨_,BR (n:=12) (W:=5) (P:=32) È rfl rfl rfl rfl rfl È È È È d0 d1 n0 n1 È Å⟩;exact⟨_,BR (n:=13) (W:=5) (P:=32) È rfl rfl rfl rfl rfl È È È È d0 d1 n0 n1 È Å⟩
 |mem hw d0 d1 s0 s1 n0 n1=>rcases hw with rfl|rfl|rfl|rfl;exact⟨_,BQ (n:=14) È rfl rfl rfl rfl rfl rfl d0 d1 s0 s1 n0 n1⟩;exact⟨_,BQ (n:=15) È rfl rfl rfl rfl rfl rfl d0 d1 s0 s1 n0 n1⟩;exact⟨_,BQ (n:=16) È rfl rfl rfl rfl rfl rfl d0 d1 s0 s1 n0 n1⟩;exact⟨_,BQ (n:=17) È rfl rfl rfl rfl rfl rfl d0 d1 s0 s1 n0 n1⟩
noncomputable def J9:D->D
 |.tup xs=>.tup xs.dropLast|d=>d
noncomputable def cJ:D->Int
 |.tup Ðk=>if w = Äa then 1 else if w = äa then 2 else 0|_=>0
noncomputable def mJ:D->Int
 |.tup [_,.str k,_]=>if k = Œa then 1 else if k = ſa then 2 else 0|_=>0
structure Os(r y:D)(c m:Int):Prop where
 c0:0<=c
 c1:c<3
 m0:0<=m
 m1:m<3
 nw:∀d:Int,-16<=d->d<=15->UE Ŷg=À (Â,.int üi)
 fw:∀d:Int,-1000<=d->d<=1000->WF Ŷg=À (Ã,.lst Ķm)
 nr:∀d:Int,j5 [.int üi]=À (Â,J9 r)
 fr:j5 [.int çs]=À (Â,J9 r)
 hd:∃R,J9 r=.tup R/\R≠[]/\Ðc<=2/\R.all xJ=Ã
def dH{c:Int}{t:Str}(b:0<=c)(d:c<32):uU [.tup [.str Ÿ,.str t],.int c]=À (Â,.int Ļj):=by
 have f:wN uv uw Ćc=À Ļc:=by rfl
 have g:uj úk=À (Ã,.lst []):=by rfl
 have e:=V9 b d;have a:X2 Úg ĥd Ä=À (.tup [.str t]):=by rfl
 rw[Wl];unfold Zn;simp only[Ó,f,e,XA,g,qU,Zq,g9,Y4,a,k9,Ýd]
theorem dG{c m:Int}{w k t:Str}(a:w = Äa \/ w = äa)(h:JM X8 ĩa=À ėc)(g:0<=m)(r:m<3)(o:0<=c)(b:c<32):uU [.tup śn,.int c]=À (Â,.int Ĺn):=by
 have f:wN uv uw Ćc=À Ļc:=by rfl
 have i:uj ēc=À (Ã,.lst åf):=by rcases a with rfl|rfl<;>rfl
 have q:vz Żi=À (Â,.tup Ūe):=by rcases a with rfl|rfl<;>rfl
 have p:=V9 o b;have e:=ZI (x:=c*134217728) (l:=24) (d:=2) (n:=m) (m:=16777216) È È Å g Ęo ım È;have e1:zk ġa ġa=À Ę:=by rfl
 have j:X2 Ŋd ĥd Ä=À (.tup [.str k,.str t]):=by rfl
 rw[Wl];unfold Zn;simp only[Ó,f,p,XA,i,qU,Zq,g9,Y4,j,k9,ñc,Ýd,Us,e1,h,q,e]
theorem fX{y:D}{w:Str}{c m d:Int}(b:zM y ę=À Üa)(n0:wN Zv Z4 Üa=À (Β Ĩd))(k:0<=c)(h:c<3)(i:0<=m)(j:m<3)(f:uU [y,.int Ĩd]=À (Â,.int ès))(d0 : -16<=d)(d1:d<=15) :UE Ŷg=À (Â,.int üi):=by
 have e:wN uv uw ďk=À éf:=by rfl
 have g:zM éf ûa=À űc:=rfl;have u:=nR (d:=d) (W:=5) È È (by show(-32:Int)<=_;omega) (by show _<(32:Int);omega);have a:d%2 ^ (5:Int).toNat=d%32:=rfl;rw[a]at u;have q:=ZI (x:=Ĩd*134217728+m*16777216) (l:=0) (d:=5) (n:=d%32) (m:=1) È È Å Å (by show d%32<32;omega) (by show ès/1%32=0;omega) È;rw[z4q];unfold CB;generalize Ĩd*134217728+m*16777216=Z at e g b n0 f u q ⊢;simp only[Ó,e,g,b,n0,f,u,q,Õf]
theorem cy{y:D}{w:Str}{c m d:Int}(b:zM y ę=À Üa)(n0:wN Zu Z3 Üa=À (Β Ńf))(f:uU [y,.int Ńf]=À (Â,.int çs))(d0 : -1000<=d)(d1:d<=1000) :WF Ŷg=À (Ã,.lst Ķm):=by have u:=nR (d:=d) (W:=32) È È (by show(-4294967296:Int)<=_;omega) (by show _<(4294967296:Int);omega);have a:d%2 ^ (32:Int).toNat=d%4294967296:=rfl;rw[a]at u;rw[z43];unfold Fj;simp only[Ó,b,n0,f,u]
theorem h7{x Z:Int}{n:Nat}{k:Str}{fs R:Á D}(e:0<=x)(g:x<4294967296)(i:x/134217728=(n:Int))(n0:18<=n)(n1:n<=20)(hk:Üc n .zE=.str k)(j:uj řb=À (Ã,.lst fs))(o:yo ša yt Xj Æm fs=À R)(l:tI .zE åe=À ñ)(f:Ðc<=3)(hz:uU ıi=À (Â,.int Z))(m:Z=x+(0-x%32)*1):j5 Þb=À (Â,.tup Ńc):=by have b:=UW e g;rw[i]at b;have c:=Gw (n:=n) Å;rw[hk]at c;have a:=Jy (n:=n) Å;rw[î n0,î n1,ļg]at a;have d:jf Įn=À (Â,.int (x+(0-x/1%32)*1)):=RZ ⟨⟨e,by decide,by decide,by decide,by decide⟩,by decide,by decide⟩;rw[Āc]at d;have:=Kc b c j o l f a (λ_=>d) Âj hz;rw[this,Ï m]
theorem dC{x:Int}{n:Nat}{k:Str}{fs R:Á D}(l:0<=x)(e:x<4294967296)(f:x/134217728=(n:Int))(n0:21<=n)(n1:n<=23)(hk:Üc n .zE=.str k)(g:uj řb=À (Ã,.lst fs))(j:yo ša yt Xj Æm fs=À R)(i:tI .zE åe=À ñ)(d:Ðc<=3)(hz:uU ıi=À (Â,.int x)):j5 Þb=À (Â,.tup Ńc):=by have b:=UW l e;rw[f]at b;have c:=Gw (n:=n) Å;rw[hk]at c;have a:=Jy (n:=n) Å;rw[ă (show ¬ n<=20 by omega),Ĩg]at a;have:=Kc b c g j i d a Âj šc hz;rw[this,Ï rfl]
theorem z6h{p:Int}{t:Str}:Os ļn Úg 0 0:=by refine⟨by decide,by decide,by decide,by decide,λd b a=>?_,λd b a=>?_,λd=>?_,?_,⟨_,rfl,by simp,by simp,rfl⟩⟩;exact fX (w := Ÿ) (c:=0) (m:=0) rfl rfl È È È È ňq b a;exact cy (w := Ÿ) (c:=0) (m:=0) rfl rfl ňq b a;refine h7 (n:=18) (k := Ÿ) (fs:=[]) (R:=[]) (Z:=18*134217728) Å Å Å È È rfl rfl rfl rfl ã (ER (c:=18) È È rfl) Å;exact dC (n:=21) (k := Ÿ) (fs:=[]) (R:=[]) Å Å Å È È rfl rfl rfl rfl ã (ER (c:=21) È È rfl)
def z1b{w k:Str}{p:Int}{t:Str}(e:w = Äa \/ w = äa)(hk:k = Ċa \/ k = Œa \/ k = ſa):Os Őd Ŋd (cJ Őd) (mJ Őd):=by
 obtain⟨c,y,A,B,r,b,q,z⟩:∃c:Nat,cJ Őd=(c:Int)/\1<=c/\c<=2/\wN Zv Z4 Üa=À (Β Řq)/\wN Zu Z3 Üa=À (Β Ūj)/\Üc Ĩd .zE=.str w/\Üc Ńf .zE=.str w:=by rcases e with rfl|rfl;exact⟨1,by rfl,by decide,by decide,by rfl,by rfl,rfl,rfl⟩;exact⟨2,by rfl,by decide,by decide,by rfl,by rfl,rfl,rfl⟩
 obtain⟨m,u,C,f,s⟩:∃m:Nat,mJ Őd=(m:Int)/\m<3/\JM X8 ĩa=À (.int (m:Int))/\fE.getD m .zE=.str k:=by rcases hk with rfl|rfl|rfl;exact⟨0,by rfl,by decide,by rfl,rfl⟩;exact⟨1,by rfl,by decide,by rfl,rfl⟩;exact⟨2,by rfl,by decide,by rfl,rfl⟩
 rw[y,u];have g:uj ēc=À (Ã,.lst åf):=by rcases e with rfl|rfl<;>rfl
 have h:vz Żi=À (Â,.tup Ūe):=by rcases e with rfl|rfl<;>rfl
 have a:∀x:Int,x/16777216%4=(m:Int)->qh [.int x,.str w,.str ěb]=À (Â,.str k):=λx v=>by have:=z5f (x:=x) h;rw[v,Ň,s]at this;exact this
 refine⟨by omega,by omega,by omega,by omega,λd i l=>?_,λd i l=>?_,λd=>?_,?_,⟨_,rfl,by simp,by simp,rfl⟩⟩;exact fX rfl r Å Å Å Å ĸn i l;exact cy rfl b ĸn i l;have j:=a (Řq*134217728+(m:Int)*16777216+d%32) Å;exact h7 (n:=18+c) (k:=w) (fs:=åf) (R:=řb) (Z:=((18+c:Nat):Int)*134217728+(m:Int)*16777216) Å Å Å Å Å q g Ćk rfl ã (dI g h f Å Å Å Å) Å;have j:=a (Ūj*134217728+(m:Int)*16777216) Å;have o:=dI (c:=((21+c:Nat):Int)) g h f Å Å Å Å;rw[show((21+c:Nat):Int)*134217728+(m:Int)*16777216=Ūj*134217728+(m:Int)*16777216 by omega]at o;exact dC (n:=21+c) (k:=w) (fs:=åf) (R:=řb) Å Å Å Å Å z g Ćk rfl ã o
def z6g{n:Int}{L:Á D}{r y:D}(h:UK n r)(e:kX L r y):Os r y (cJ r) (mJ r):=by
 obtain⟨d,a,t,b,c⟩:=e.2.2.1.2 (by obtain⟨_,_,_,_,_,z,_⟩:=M5 h;exact z);cases h with
 |vo p0 p1=>
  match d,b,c with
  | [q],b,c=>cases b;subst c;exact z6h| [],b,_=>cases b|_::_::_,b,_=>simp at b
 |øb hw hk p0 p1=>
  match d,b,c with
  | [q,q2],b,c=>cases b;subst c;exact z1b hw hk| [],b,_=>cases b| [_],b,_=>cases b|_::_::_::_,b,_=>simp at b
noncomputable def x8z:Æ Nat->D
 |Ä=>.zE|À p=>.int (p:Int)
def HG:FS:=(za (qY 1 ď Č)
    (za (yO 2 ġg)
    ĵn))
def LH:FT:=(tE (e2 Uc Č ēa))
def CP:FS:=
 (za Ăk
  (za ĭr
  (za ĵn
  (za (Mm LH
   HG)
  Ŕf))))
def UI:Á D->Æ â:=FR 1 4 CP
def z53(a:D):UI [a]=yH 4 CP [a]:=rfl
def Rb:FE:=Ód
def FQ:FS:=
 (yF (e2 ED (wU 1 (Ul 0) Ńa yt Rb) ą))
def QR:Á D->Æ â:=FR 1 1 FQ
def z3n(a:D):QR [a]=yH 1 FQ [a]:=rfl
def HH:FS:=(za (yO 5 (e2 zM ña Ìb))
    (xM (B8 (tE (e2 Uc Þa ēa)) (B8 (tE (e2 xm Þa ď)) (tE (e2 Zt Þa Ď))))
     (yF Č)
     wP))
def CT:FS:=
 (za (yO 1 ær)
  (za (Ν (zR QR Đb))
  (za (xM (tE (e2 xm ď Ŝc))
   (yF ď)
   wP)
  (za (qy (Uk 1) Ĥf
   HH)
  ûe))))
def Qp:Á D->Æ â:=FR 1 6 CT
def z56(a:D):Qp [a]=yH 6 CT [a]:=rfl
def CL:FS:=
 (za (yO 1 (zR Qp üb))
  (za (xM (tE (e2 Uc Ď ēa))
   ōb
   wP)
  (yF ær)))
def WI:Á D->Æ â:=FR 1 2 CL
def z4z(a:D):WI [a]=yH 2 CL [a]:=rfl
noncomputable def tA(A:Nat->Int):Æ Nat->D
 |Ä=>.zE|À p=>.int (A p)
structure Tb(ws:Á D)(n:Nat)(A:Nat->Int)(b:Nat->D)(tg:Nat->Æ Nat):Prop where
 up:∀i,i<n->A i<A ê
 z:A 0=0
 e:A n=(đb:Int)
 told:∀i,i<n->je ĳo=À (Â,.tup Ïn)
 fin:je [.lst ws,.int Ďa]=À (Â,.zE)
 le:∀i p,i<n->tg i=À p->p<=n
 Oe:n<=400
def u_(A:Nat->Int)(b:Nat->D)(tg:Nat->Æ Nat)(i:Nat):D:=.tup Ïn
noncomputable def xL(A:Nat->Int)(n:Nat):Á Ĩ:=(Źc).map λi=>.inl íb
def xq(A:Nat->Int)(b:Nat->D)(tg:Nat->Æ Nat)(n:Nat):Á D:=(Źc).map (u_ A b tg)
def y5x{ks:Á Ĩ}{vs:Á D}{k:Sum Int Str}{v:D}(h:yg ks k=Â):wO ks k=ks++[k]/\w6 ks vs k v=vs++[v]:=by unfold wO w6;rw[h];exact⟨rfl,rfl⟩
def z73(A:Nat->Int)(n:Nat):xL A ļ=xL A n++[.inl Ďa]:=by unfold xL;rw[ůe,ğa];rfl
def x6d(A:Nat->Int)(b:Nat->D)(tg:Nat->Æ Nat)(n:Nat):xq A b tg ļ=xq A b tg n++[u_ A b tg n]:=by unfold xq;rw[ůe,ğa];rfl
def z72(A:Nat->Int)(n:Nat):(Ĩa).length=n:=by unfold xL;rw[ä,ŵb]
theorem eT{A:Nat->Int}{n:Nat}{x:Int}:yg Ĩa ãl=Ã↔∃i,i<n/\A i=x:=by
 unfold yg xL;rw[Ēg]
 constructor;rintro⟨k,b,e⟩;obtain⟨i,a,rfl⟩:=Ů b;exact⟨i,ôc a,Âc (ŀ e)⟩;rintro⟨i,a,rfl⟩;exact⟨_,ŧe ⟨i,âd a,rfl⟩,î rfl⟩
theorem dU{n:Nat}{A:Nat->Int}(b:∀i j,i<=n->j<=n->A i=A j->i=j){p:Nat}(c:p<n)(f:Nat->D):∀(l:Á Nat),p∈l->(∀i∈l,i<=n)->Ă Ķo (Åa f) ūj=À (f p)
 | [],h,_=>by cases h|a::l,h,hl=>by show(if(Ía (A a):Sum Int Str)=.inl (A p)then À (f a)else Ă Ķo (Åa f) ūj)=_;by_cases e:A a=A p;have:=b a p (hl a ĵ) ĝd e;subst this;rw[Ï rfl];rw[Ð (λz=>e (Âc z))];rcases ľ h with rfl|h;exact Ú rfl e;exact dU b c f l h λi d=>hl i ņk
section
variable{ws:Á D}{n:Nat}{A:Nat->Int}{b:Nat->D}{tg:Nat->Æ Nat}(T:Tb ws n A b tg)
include T
theorem Tb.lt{i j:Nat}(h:i<j)(a:j<=n):A i<A j:=by
 induction j with
 |ų=>omega|Ŵ j ih=>have u:=T.up j Å;by_cases e:i=j;rw[e];exact u;have:=ih Å Å;omega
theorem Tb.inj{i j:Nat}(hi:i<=n)(a:j<=n)(e:A i=A j):i=j:=by rcases ųi i j with h|h|h;have:=T.lt h a;omega;exact h;have:=T.lt h hi;omega
theorem Tb.new{i:Nat}(hi:i<=n):yg üe Ťr=Â:=by
 cases c:yg üe Ťr with
 |Â=>rfl|Ã=>obtain⟨j,a,e⟩:=eT.mp c;have:=T.inj Å hi e;omega
def Xf(n:Nat)(A:Nat->Int)(b:Nat->D)(tg:Nat->Æ Nat)(i:Nat):D:=if i<n then u_ A b tg i else .zE
theorem Tb.tell{i:Nat}(hi:i<=n):je ĳo=À (Â,Xf n A b tg i):=by
 unfold Xf;by_cases h:i<n;rw[Ï h];exact T.told i h;have e:i=n:=by omega
 rw[Ð h,e];exact T.fin
theorem o7:∀(k i:Nat),i+k=n->pj LH HG Ņ [À (Â,.lst ws),À (Ã,.dic üe ìq),À (Â,.int íb),À (Â,Xf n A b tg i)]=À (.nx [À (Â,.lst ws),À (Ã,.dic Ĩa ŭa),À (Â,.int Ďa),À (Â,.zE)])
 |0,i,h=>by
  have e:i=n:=by omega
  subst e;have f:Xf i A b tg i=.zE:=Ð Ôa;rw[f];refine oA ?_;unfold LH;simp only[Ó]
 |k+1,i,h=>by
  have g:i<n:=by omega
  have f:Xf n A b tg i=u_ A b tg i:=Ï g;rw[f,oB (σ':=[À (Â,.lst ws),À (Ã,.dic įr Ėp),À (Â,.int ŀf),À (Â,Xf n A b tg ê)])];exact o7 k ê Å;unfold LH u_;simp only[Ó];obtain⟨m,l⟩:=y5x (vs:=xq A b tg i) (v:=u_ A b tg i) (T.new (õa g));have a:=T.tell (i:=i+1) g;have j:(üe).length<yZ:=by rw[z72];have:=T.Oe;show i<16777216;omega
  have d:zM (u_ A b tg i) ûa=À (Β ŀf):=rfl
  have c:qY 1 ď Č [À (Â,.lst ws),À (Ã,.dic üe ìq),À (Â,.int íb),À (Â,u_ A b tg i)]=À (.nx [À (Â,.lst ws),À (Ã,.dic įr Ėp),À (Â,.int íb),À (Â,u_ A b tg i)]):=by rw[z73,x6d,<-m,<-l];show(if(üe).length<yZ then _ else _)=_;rw[Ï j];rfl
  unfold HG;generalize xL A ê=K1 at c d a ⊢;generalize xq A b tg ê=V1 at c d a ⊢;generalize xL A i=K0 at c d a ⊢;generalize xq A b tg i=V0 at c d a ⊢;generalize u_ A b tg i=TD at c d a ⊢;generalize Xf n A b tg ê=TL at c d a ⊢;simp only[Ó,c,d,a]
theorem o8:UI þf=À (Ã,.dic Ĩa ŭa):=by have c:=T.tell (i:=0) ġc;rw[T.z]at c;have a:=ly ļ (o7 T n 0 (Ő n)) (by have:=T.Oe;show n+1<=100000000;omega);rw[T.z]at a;have d:xL A 0=[]:=rfl;have e:xq A b tg 0=[]:=rfl;rw[d,e]at a;rw[z53];unfold CP;generalize Xf n A b tg 0=TL at c a ⊢;generalize xL A n=KK at c a ⊢;generalize xq A b tg n=VV at c a ⊢;simp only[Ó,c,a]
theorem z05:QR [.dic Ĩa ŭa]=À (Â,.int Ďa):=by
 have e1:yo Ńa yt Rb én ŭa=À Ñr:=by
  have:=Z8 (g:=yD 1) (e:=Rb) (σ:=én) (λd=>match d with|.tup [_,x,_]=>x|_=>.zE) (ds:=xq A b tg n) λd k=>by obtain⟨i,_,rfl⟩:=Ů k;exact⟨_,rfl,rfl⟩
  rw[this];unfold xq;rw[Ĉb,Ĉb];rfl
 have e2:ED (Ε Ñr) ę=À Ûh:=by
  show(Z_ _).bind _=_;rw[eB];show À (if(Źc).map (λi=>A ê)=[]then _ else _)=_;by_cases c:n=0;subst c;show À (þ 0)=À (þ (A 0));rw[T.z];rw[Ð (by intro h;have:=Ëa Öe h;rw[ä,ŵb]at this;exact c this)]
  have:A n=L2.maxI ùi:=by refine L2.maxI_uniq ?_ λy j=>?_;exact ŧe ⟨n-1,âd Å,by rw[śe Å]⟩;obtain⟨i,f,rfl⟩:=Ů j;have f:=ôc f;by_cases e:i+1=n;rw[e];exact Ĥa _;exact ća (T.lt Å Ē)
  rw[<-this]
 rw[z3n];unfold FQ;generalize (ùi).map þ=LL at *;have a:Ul 0 [À (Â,.dic Ĩa ŭa)]=À ŭa:=rfl;generalize xL A n=KK at a e1 e2 ⊢;generalize xq A b tg n=VV at a e1 e2 ⊢;simp only[Ó,a,e1,e2]
def M3(A:Nat->Int)(b:Nat->D)(tg:Nat->Æ Nat)(n:Nat):Á D:=(Źc).map λi=>æc [.int íb,u_ A b tg i]
omit T in
theorem z68{x2 x3 x4 x5:Æ Sl}:Uk 1 [À (Â,.lst ws),À (Â,.dic Ĩa ŭa),x2,x3,x4,x5]=À (M3 A b tg n):=by
 have h:(Ĩa).all Y5=Ã:=Ťd λk a=>by obtain⟨i,_,rfl⟩:=Ů a;rfl
 show(if(Ĩa).all Y5=Ã then À (Y8 Ĩa ŭa)else Ä)=_;rw[Ï h];unfold Y8 xL xq M3;refine Ëa À (Ŷd λi=>?_);rw[ég,ş,ş,ş];cases(Ēa n)[i]? with
 |Ä=>rfl|À j=>rfl
theorem z2r:Qp þf=À (Â,.zE):=by
 have e1:=o8 T;have e2:=z05 T;have d:xm Ûh (.int (đb:Int))=À ñ:=by rw[T.e];exact HY (Ji rfl)
 obtain⟨σ',k,x3,x4,x5,rfl⟩:=gz (g:=uZ 3 4) (b:=HH) (λi σ=>∃x3 x4 x5,σ=[À (Â,.lst ws),À (Â,.dic Ĩa ŭa),À (Â,.int Ďa),x3,x4,x5]) (ds:=M3 A b tg n)
  (σ:=[À (Â,.lst ws),À (Â,.dic Ĩa ŭa),À (Â,.int Ďa),Ä,Ä,Ä]) 0 ⟨Ä,Ä,Ä,rfl⟩ (by
  rintro i v σ o ⟨x3,x4,x5,rfl⟩;obtain⟨j,l,rfl⟩:=Ů (Ľc o);have l:=ôc l;refine⟨_,[À (Â,.lst ws),À (Â,.dic Ĩa ŭa),À (Â,.int Ďa),À (Â,.int (A j)),À (Â,u_ A b tg j),À (Â,tA A (tg j))],rfl,.inl ?_,_,_,_,rfl⟩;have a:zM (u_ A b tg j) ćc=À (tA A (tg j)):=rfl;unfold HH;cases h:tg j with
  |Ä=>
   rw[h]at a;have m:tA A Ä=.zE:=rfl;rw[m]at a ⊢;generalize u_ A b tg j=TD at a ⊢;generalize xL A n=KK at a ⊢;generalize xq A b tg n=VV at a ⊢;simp only[Ó,a]
  |À p=>
   rw[h]at a;have m:tA A (À p)=.int (A p):=rfl;rw[m]at a ⊢;have r:=T.le j p l h;by_cases e:p=n
   .have q:xm Ùf Ûh=À ñ:=by rw[e];exact HY (Ji rfl)
    generalize u_ A b tg j=TD at a q ⊢;generalize xL A n=KK at a q ⊢;generalize xq A b tg n=VV at a q ⊢;simp only[Ó,a,q]
   .have q:xm Ùf Ûh=À Ę:=HY (Ly (by have:=T.lt (i:=p) (j:=n) Å Ē;omega))
    have c:Zt Ùf (.dic Ĩa ŭa)=À ñ:=by show(À (yg Ĩa ūj)).bind _=_;rw[eT.mpr ⟨p,by omega,rfl⟩];rfl
    generalize u_ A b tg j=TD at a q c ⊢;generalize xL A n=KK at a q c ⊢;generalize xq A b tg n=VV at a q c ⊢;simp only[Ó,a,q,c])
 have f:=z68 (ws:=ws) (A:=A) (b:=b) (tg:=tg) (n:=n) (x2:=À (Â,.int Ďa)) (x3:=Ä) (x4:=Ä) (x5:=Ä);rw[z56];unfold CT;generalize M3 A b tg n=IT at e1 e2 d f k ⊢;generalize xL A n=KK at e1 e2 d f k ⊢;generalize xq A b tg n=VV at e1 e2 d f k ⊢;simp only[Ó,e1,e2,d,f,k]
theorem x18:WI þf=À (Â,.dic Ĩa ŭa):=by have e1:=z2r T;have e2:=o8 T;rw[z4z];unfold CL;generalize xL A n=KK at e1 e2 ⊢;generalize xq A b tg n=VV at e1 e2 ⊢;simp only[Ó,e1,e2]
#print a
def qW(r:D):Nat:=match XF r with
 |.int p=>ĵf|_=>0
noncomputable def oC(c m d:Int)(zC:Ì):Á Int:=bif zC then[Ńf*134217728+m*16777216,d%4294967296]else[Ĩd*134217728+m*16777216+d%32]
def XU(r:D):Int:=match UJ [r]with
 |À (_,.int v)=>v|_=>0
def dJ(Î:Á D)(zC:Á Nat)(i:Nat):Int:=yx Ě ĥf-yx Ě i
def vi(Î:Á D)(zC:Á Nat)(i:Nat):Á Int:=bif wG Ĵ then oC (cJ Ĵ) (mJ Ĵ) öq Ās else[XU Ĵ]
def wZ(Î:Á D)(zC:Á Nat):Nat->Á Int
 |0=>[]|n+1=>wZ Î zC n++vi Î zC n
def Yx(Î:Á D)(i:Nat):D:=bif wG Ĵ then J9 Ĵ else Ċc i .zE
def YI(Î:Á D)(i:Nat):Æ Nat:=bif wG Ĵ then À ĥf else Ä
structure Wr(Î zF:Á D)(zC:Á Nat):Prop where
 it:∀d∈zF,vt d
 li:Êc<=1000
 he:ui Ħd Î ĳa
 hr:∀r∈Î,kY (ì:Int) r
 hn:ì<64
 hg:gF Î zC=[]
 hj:∀i,zd zC i=Ã->wG Ĵ=Ã
structure W1(Î zF:Á D)(zC:Á Nat)(i:Nat)(y:D):Prop where
 yi:ĳa[i]?=À y
 pl:wG Ĵ=Â->y=Ċc i .zE/\UP y (XU y)/\zd zC i=Â/\tgt Ĵ=.zE
 jm:wG Ĵ=Ã->Os Ĵ y (cJ Ĵ) (mJ Ĵ)/\qW Ĵ<=ì/\tgt Ĵ=.int (qW Ĵ:Nat)/\(zd zC i=Â -> -16<=dJ Î zC i/\dJ Î zC i<=15) /\ -200<=dJ Î zC i/\dJ Î zC i<=200
theorem US(f:Nat->Ì):∀n:Nat,0<=yx f n/\yx f n<=2*n
 |0=>⟨Ĥa _,Ĥa _⟩|n+1=>by
  obtain⟨a,b⟩:=US f n;show 0<=yx f n+Łi/\yx f n+Łi<=_
  split<;>omega
section
variable{Î zF:Á D}{zC:Á Nat}(W:Wr Î zF zC)
include W
theorem Wr.one{i:Nat}(hi:i<ì):∃y,W1 Î zF zC i y:=by
 obtain⟨y,n,l⟩:=LQ W.he (Ģ hi);have b:Ċc i .zE=Î[i]:=by rw[Āa,Ģ hi];rfl
 have f:=W.hr _ (Ÿb hi);refine⟨y,n,λa=>?_,λa=>?_⟩;rw[b]at a ⊢
 have r:pK Î[i]:=by rcases f with h|h;exact h;obtain⟨_,_,_,_,_,z,_⟩:=M5 h;rw[z]at a;cases a
 have m:y=Î[i]:=l.2.2.1.1 a;obtain⟨v,w⟩:=y5i r;refine⟨m,?_,?_,?_⟩;rw[m];have:XU Î[i]=v:=by unfold XU;rw[w.w]
 rw[this];exact w;cases c:zd zC i with
 |Â=>rfl|Ã=>have:=W.hj i c;rw[b,a]at this;cases this
 unfold tgt;rw[a];rw[b]at a ⊢
 have k:UK (ì:Int) Î[i]:=by rcases f with h|h;obtain⟨_,_,_,_,z,_⟩:=T1 h;rw[z]at a;cases a;exact h
 obtain⟨_,p,_,_,_,_,_,_,j,B,C⟩:=M5 k;have q:qW Î[i]=ĵf:=by unfold qW;rw[j]
 have o:(qW Î[i]:Int)=p:=by rw[q];omega
 have g:tgt Î[i]=.int (qW Î[i]:Nat):=by unfold tgt;rw[a,o];exact j
 have A:=US Ě ŧg;have x:=US Ě i;have u:=W.hn;have t:dJ Î zC i=yx Ě ŧg-yx Ě i:=by unfold dJ;rw[b]
 refine⟨z6g k l,by omega,g,λs=>?_,by omega,by omega⟩
 have e:Zm Î zC i=Â:=by
  cases z:Zm Î zC i with
  |Â=>rfl|Ã=>have:i∈gF Î zC:=Ŝi ⟨Ŝi ⟨âd hi,by rw[s];rfl⟩,z⟩;rw[W.hg]at this;cases this
 unfold Zm at e;rw[b,g]at e;have d:(decide (-16<=yx Ě ŧg-yx Ě i)&&decide (yx Ě ŧg-yx Ě i<=15))=Ã:=by simpa [HZ,dv]using e
 rw[ĉ]at d;rw[t];exact⟨ŀ d.1,ŀ d.2⟩
theorem Wr.rf{i:Nat}(hi:i<ì):((Ĺj).length:Int)=if zd zC i then 2 else 1:=by
 obtain⟨y,h⟩:=Ài hi;unfold vi;cases hj:wG Ĵ with
 |Â=>rw[(h.pl hj).2.2.1];rfl|Ã=>unfold oC;cases zd zC i<;>rfl
theorem Wr.len:∀{n:Nat},n<=ì->((wZ Î zC n).length:Int)=yx Ě n
 |0,_=>rfl|n+1,h=>by have a:=Wr.len (n:=n) Å;have b:=W.rf (i:=n) Å;show((wZ Î zC n++vi Î zC n).length:Int)=yx Ě n+(if zd zC n then 2 else 1);rw[í];omega
omit W in
theorem sU:∀{i n:Nat},i<=n->∃r,wZ Î zC n=wZ Î zC i++r
 |i,n,h=>by
  induction n with
  |ų=>exact⟨[],by rw[show i=0 by omega];rfl⟩|Ŵ n ih=>by_cases e:i=n+1;exact⟨[],by rw[e,ſ]⟩;obtain⟨r,q⟩:=ih Å;exact⟨r++vi Î zC n,by show wZ Î zC n++vi Î zC n=_;rw[q,ŗ]⟩
theorem Wr.at{i k:Nat}{v:Int}(hi:i<ì)(hk:Ĺj[k]?=À v):zM (Ε Ŝg) (Β (yx Ě i+k))=À Ăe/\yx Ě i+k<((Ëg).length:Int):=by
 obtain⟨r,e⟩:=sU (Î:=Î) (zC:=zC) (i:=i+1) (n:=ì) hi;have l:=W.len (n:=i) Å;have a:k<(Ĺj).length:=(Ŗ hk).1;have e2:wZ Î zC ê=wZ Î zC i++vi Î zC i:=rfl
 have g:Ëg[(íq).length+k]?=À v:=by rw[e,e2,ŗ,ŭb Å,Ýg,ıb a];exact hk
 have lt:=(Ŗ g).1;refine⟨J6 Å ?_,by omega⟩;rw[show(yx Ě i+(k:Int)).toNat=(íq).length+k by omega,ş,g];rfl
theorem Wr.tb:Tb Ŝg ì Ĉh (Yx Î) (YI Î):=by
 refine⟨λi f=>?_,rfl,?_,λi f=>?_,?_,λi p f h=>?_,by have:=W.hn;omega⟩;show yx Ě i<yx Ě i+þm
 split<;>omega;rw[ä];exact(ûr).symm;obtain⟨y,h⟩:=Ài f;have t:=US Ě i;have m:((Ŝg).length:Int)=((Ëg).length:Int):=by rw[ä]
 unfold Yx YI;show _=À (Â,æc [_,.int Řp,_]);cases hj:wG Ĵ with
 |Â=>
  obtain⟨F,w,C,_⟩:=h.pl hj;rw[F]at w;have g:=ùb (k:=0) (v:=XU Ĵ) f (by unfold vi;rw[hj];rfl);rw[ċj,Ëf]at g;obtain⟨n,I,E⟩:=w.c;have e:=UW w.v0 w.v1;rw[E]at e;have d:=Jy (n:=n) Å;rw[ă (show ¬ 18<=n by omega),ŋc]at d;have b:=EO (n:=n) Å;rw[ă (show ¬ 21<=n by omega),ŋc]at b
  obtain⟨R,j⟩:∃R,Ċc i .zE=.tup R:=by
   have:=W.hr _ (Ÿb f);have H:Ċc i .zE=Î[i]:=by rw[Āa,Ģ f];rfl
   rw[H];generalize Î[i]=rr at this;rcases this with q|q<;>cases q<;>exact⟨_,rfl⟩
  have A:=w.r;rw[j]at A g;have:=x42 ⟨t.1,by rw[m];exact g.2,g.1,by rw[<-j];exact w.v0,by rw[<-j];exact w.v1⟩ (by rw[<-j];exact e) b d A;rw[this,C,j];rfl
 |Ã=>
  obtain⟨w,N,J,G,P,U⟩:=h.jm hj;obtain⟨R,j,_,_,_⟩:=w.hd;have L:=w.c0;have O:=w.c1;have K:=w.m0;have Q:=w.m1;have B:yx Ě i+dJ Î zC i=yx Ě ĥf:=by unfold dJ;omega
  cases hF:zd zC i with
  |Ã=>
   have o:vi Î zC i=[Ūg*134217728+mJ Ĵ*16777216,dJ Î zC i%4294967296]:=by unfold vi;rw[hj,hF];rfl
   have g:=ùb (k:=0) f ėj;rw[ċj,Ëf]at g;have u:=ùb (k:=1) f ėj;rw[show((1:Nat):Int)=1 from rfl]at u;have l:=w.fr;rw[j]at l;obtain⟨x,z⟩:∃x,x=Ūg*134217728+mJ Ĵ*16777216:=⟨_,rfl⟩;obtain⟨n,s⟩:∃n:Nat,(n:Int)=21+cJ Ĵ:=⟨(Ūg).toNat,by omega⟩;rw[<-z]at g l;have e:=UW (x:=x) Å Å;rw[show x/134217728=(n:Int) by omega]at e;have b:=EO (n:=n) Å;rw[î (show 21<=n by omega),î (show n<=23 by omega),ļg]at b;have:=x3z (a:=yx Ě i) ⟨t.1,by rw[m];exact g.2,g.1,by omega,by omega⟩ e b l u.1 (by rw[m];exact u.2);rw[this,show yx Ě i+(if 2*(dJ Î zC i%4294967296)<4294967296 then dJ Î zC i%4294967296 else dJ Î zC i%4294967296-4294967296)=yx Ě ĥf by rw[<-B];split<;>omega];simp only[Ás,j];rfl
  |Â=>
   have o:vi Î zC i=[ūg*134217728+mJ Ĵ*16777216+dJ Î zC i%32]:=by unfold vi;rw[hj,hF];rfl
   obtain⟨S,T⟩:=G hF;have g:=ùb (k:=0) f ėj;rw[ċj,Ëf]at g;have l:=w.nr öq;rw[j]at l;obtain⟨x,z⟩:∃x,x=ūg*134217728+mJ Ĵ*16777216+dJ Î zC i%32:=⟨_,rfl⟩;obtain⟨n,s⟩:∃n:Nat,(n:Int)=18+cJ Ĵ:=⟨(ūg).toNat,by omega⟩;rw[<-z]at g l;have e:=UW (x:=x) Å Å;rw[show x/134217728=(n:Int) by omega]at e;have b:=EO (n:=n) Å;rw[ă (show ¬ 21<=n by omega),ŋc]at b;have d:=Jy (n:=n) Å;rw[î (show 18<=n by omega),î (show n<=20 by omega),ļg]at d;have:=x40 (a:=yx Ě i) ⟨t.1,by rw[m];exact g.2,g.1,by omega,by omega⟩ e b d l;rw[this,show yx Ě i+ŵf=yx Ě ĥf by rw[<-B];split<;>omega];simp only[Ás,j];rfl
 refine x41 (.inr ?_);rw[ä];exact Int.le_of_eq ûr;obtain⟨y,w⟩:=Ài f;unfold YI at h;cases hj:wG Ĵ with
 |Â=>rw[hj]at h;cases h|Ã=>rw[hj]at h;cases h;exact(w.jm hj).2.1
#print a
def z64{zC:Á Nat}{n:Nat}:zd zC n=Ã↔n∈zC:=by
 unfold zd yK;rw[Ēg]
 have e:∀a:Nat,xh že Ñb=Ã↔a=n:=λa=>by have:xh že Ñb=ŝo:=rfl;rw[this,ēr];omega
 constructor;rintro⟨x,b,h⟩;obtain⟨a,c,rfl⟩:=Ů b;exact(e a).mp h▸c;exact λh=>⟨_,ŧe ⟨n,h,rfl⟩,(e n).mpr rfl⟩
theorem lj{g:Á Nat->Á Nat}:∀{zC R:Á Nat}{k:Nat},gZ g zC R k->g R=[]
 |_,_,_,.stop e=>e|_,_,_,.go _ _ r=>lj r
theorem lh{Î:Á D}:∀{zC R:Á Nat}{k:Nat},gZ Đh zC R k->(∀i∈zC,wG Ĵ=Ã)->∀i∈R,wG Ĵ=Ã
 |_,_,_,.stop _,h=>h|zC,_,_,.go _ _ r,h=>lh r λi a=>by
  have a:i∈zC++gF Î zC:=(űh).mem_iff.mp a;rcases Ăa a with a|a;exact h i a;cases c:wG Ĵ with
  |Ã=>rfl|Â=>have:=(ŭd a).2;rw[sw c]at this;cases this
def z2i{i:Nat}{e:FE}{σ:zu}{L W:Á D}(a:σ[i]?=À (À (Ã,.lst L)))(b:e σ=À (.lst W))(d:ża<=1000)(c:W.length<=2):qX i e σ=À (οb (L++W)):=by unfold qX;rw[a,b];show(if ża+W.length<=yZ then _ else _)=_;rw[Ï ęi]
theorem x8h{Î zF:Á D}(h:∀d∈zF,vt d)(B:Êc<=1000)(q:ui Ħd Î ĳa)(F:∀r∈Î,kY (ì:Int) r)(J:ì<64) :∃zC k,gZ Đh [] zC k/\Wr Î zF zC/\WJ ŕa=À (Ã,.lst Ŝg):=by
 obtain⟨R,X,C,_,_,x⟩:=c_ h B q F J;have W:Wr Î zF R:=⟨h,B,q,F,J,lj C,λi l=>lh C (λ_ h=>by cases h) i (z64.mp l)⟩;refine⟨R,X,C,W,?_⟩;have I:=cS h B q F Å (zC:=R);have er:=Mj h;have K:=Wf q
 have A:gw Êe Ůl=À (tm ĳa):=by
  have P:∀σ:zu,zR qi üb σ=À (.lst ĳa)->gw Êe σ=À (tm ĳa):=λσ z=>by unfold gw;rw[z];rfl
  exact P _ (by simp only[Ó,er])
 obtain⟨σ',t,u,G,rfl⟩:=gz (g:=uZ 4 5) (b:=Jr) (λi σ=>∃u G,σ=[À (Â,.lst zF),À (Â,.lst ěe),À (Â,.lst àg),À (Ã,.lst Ãk),u,G]) (ds:=tm ĳa)
  (σ:=Ůl) 0 ⟨Ä,Ä,rfl⟩ (by
  rintro i v σ o ⟨u,G,rfl⟩;rw[Ő]at *;rw[Jz]at o
  have l:i<ì:=by
   rw[K];cases z:ĳa[i]? with
   |Ä=>rw[z]at o;cases o|À y=>exact(Ŗ z).1
  obtain⟨y,H⟩:=Ài l;rw[H.yi]at o;cases o
  have al:(Ãk).length<=900:=by have:=W.len (n:=i) Å;have:=US žc i;rw[ä];omega
  have T:Ċc i .zE=Î[i]:=by rw[Āa,Ģ l];rfl
  have a:zM ŀk Ĺa=À (dv žc än):=J6 Å (by rw[Ň,T];exact cT l)
  have c:tI Ĺa (Ε ěe)=À (.bl (zd R i)):=by show(Ub _ _).bind _=_;rw[z5u];rfl
  have U:(Şp).map þ=(žb).map þ++(Îe).map þ:=by show(wZ Î R i++vi Î R i).map þ=_;rw[ğa]
  refine⟨_,[À (Â,.lst zF),À (Â,.lst ěe),À (Â,.lst àg),À (Ã,.lst (Θa Şp)),À (Â,.int (i:Int)),À (Â,y)],rfl,.inl ?_,_,_,rfl⟩;rw[U];cases hj:wG Ĵ with
  |Â=>
   obtain⟨Q,w,nf,O⟩:=H.pl hj;have j:vi Î R i=[XU y]:=by unfold vi;rw[hj,Q];rfl
   have f:=Ou (L:=(žb).map þ) (r:=.int (XU y)) Å;rw[O]at a;have a:zM ŀk Ĺa=À .zE:=a;have p:=w.w;rw[j];unfold Jr;generalize (žb).map þ=LL at a p f ⊢;generalize wt Î žc=DD at a p f ⊢;generalize XU y=PV at a p f ⊢;simp only[Ó,a,p,f]
  |Ã=>
   obtain⟨w,p1,N,S,d0,d1⟩:=H.jm hj;rw[N]at a;have a:zM ŀk Ĺa=À (Β Ŧj):=a;cases hF:zd R i with
   |Ã=>
    have m:=w.fw Ŧj Å Å
    have j:(Îe).map þ=[.int (Ūg*134217728+mJ Ĵ*16777216),.int (dJ Î R i%4294967296)]:=by unfold vi;rw[hj,hF];rfl
    rw[<-j]at m;rw[hF]at c;have E:(Θa (Îe)).length<=2:=by rw[j];simp
    have ee:=z2i (i:=3) (e:=ur WF Ŭi) (σ:=[À (Â,.lst zF),À (Â,.lst ěe),À (Â,.lst àg),À (Ã,.lst Ãk),À (Â,.int (i:Int)),À (Â,y)]) (L:=(žb).map þ) (W:=(Îe).map þ) rfl (by generalize (žb).map þ=LL at a m ⊢;generalize (Îe).map þ=WW at a m ⊢;generalize wt Î žc=DD at a m ⊢;simp only[Ó,a,m]) Å E
    unfold Jr
    rw[z5r (by
     generalize (žb).map þ=LL at a ⊢;generalize wt Î žc=DD at a ⊢;simp only[Ó,a]),z5s (by
     generalize (žb).map þ=LL at c ⊢;generalize wt Î žc=DD at c ⊢;simp only[Ó,c])]
    exact ee
   |Â=>
    obtain⟨Y,Z⟩:=S hF;have s:=w.nw Ŧj Y Z
    have j:(Îe).map þ=[.int ém]:=by unfold vi;rw[hj,hF];rfl
    rw[j];rw[hF]at c;have f:=Ou (L:=(žb).map þ) (r:=.int ém) Å;unfold Jr;generalize ūg*134217728+mJ Ĵ*16777216+dJ Î R i%32=VV at a c s f ⊢;generalize (žb).map þ=LL at a c s f ⊢;generalize wt Î žc=DD at a c s f ⊢;simp only[Ó,a,c,s,f])
 rw[XN,Ő,<-K]at t;rw[z5a];unfold CY;generalize tm ĳa=NN at x I A t ⊢;generalize wt Î žc=DD at x I A t ⊢;simp only[Ó,x,I,A,t]
def XE:yQ:=(Ju 2 ŵe ņ)
def ku:uA:=(Iq (Ω (e2 ăc ď Ď)) (Xh (qk (vG ü ßc 0 [] wy xN) (vG ÿ ßc 0 [] wy xN))))
def F9:yQ:=
 (yz (uM 2 ęd)
  (yz (Jv ku
   XE)
  (jP Èl)))
def wx:FM:=vZ 2 3 F9
def z3d(a b:M):wx ë=wW 2 3 F9 ë:=rfl
theorem RY{c:uA}{b:yQ}{a:gX}:∀{n:Nat}{β:yA}(m:Nat),qC c b n β=À a->qC c b (n+m) β=À a
 |0,_,_,h=>by cases h|n+1,β,m,h=>by
  rw[show n+1+m=(n+m)+1 by omega]
  change (ğe).bind _=_ at h
  show(ğe).bind _=_;cases e:c β with
  |Ä=>rw[e]at h;cases h|À r=>
   rw[e]at h
   change (match r.1 with|Â=>_|Ã=>_)=_ at h
   show(match r.1 with|Â=>_|Ã=>_)=_;cases hr:r.1 with
   |Â=>rw[hr]at h;exact h|Ã=>
    rw[hr]at h
    change (Ĥl).bind _=_ at h
    show(Ĥl).bind _=_;cases e2:b r.2 with
    |Ä=>rw[e2]at h;cases h|À f=>
     rw[e2]at h;cases f with
     |nx β2=>exact RY m h|ct β2=>exact RY m h|bk β2=>exact h|rt x β2=>exact h
def fC{c:uA}{b:yQ}{β:yA}{a:gX}(n:Nat)(h:qC c b n β=À a)(d:Ê (n<=gU) q10):Jv c b β=À a:=by have e:=RY (gU-n) h;rw[ťo d]at e;exact e
def O1{c:uA}{b:yQ}{β β1 β2:yA}{n:Nat}(a:c β=À (Ã,β1))(d:b β1=À Œb):qC c b ļ β=qC c b n β2:=by show(ğe).bind _=_;rw[a];show(Ņh).bind _=_;rw[d];rfl
def kF{c:uA}{b:yQ}{β β1:yA}{n:Nat}(a:c β=À (Â,β1)):qC c b ļ β=À šk:=by show(ğe).bind _=_;rw[a];rfl
def z1d{C:Str}(b:vM C){T fw fh:D}{e due done:Int}{s:M}{m:Str}(c:m ∉ jA){F:FM}{Ō:yA}:qk (vG ü m 0 [] F xN) (vG ÿ m 0 [] F xN) ſd=qP F ċd ſd:=by
 have a:∀x:Str,vG x m 0 [] F xN ſd=match decide Ĭb with|Ã=>qP F ċd ſd|Â=>Ä:=λx=>by show(match decide Ĭb&&!(decide (m∈jA))with|Ã=>_|Â=>_)=_;rw[ă c];cases decide Ĭb<;>rfl
 unfold qk;rw[a,a];cases b with
 |row=>show(match qP F ċd Şm with|À d=>À d|Ä=>Ä)=_;cases qP F ċd Şm<;>rfl
 |Łd=>rfl
def Yz{r:D}{a:M}{w:Str}(b:zM r ę=À Üa)(c:X1 ql Üa=À ñ):pI Õs=À (Õs,.fz .zE):=by rw[Ee];unfold J8;simp only[Ĥ,b,c]
theorem n9{C:Str}(a:vM C){T fw fh:D}{e due done:Int}{s:M}(h:wC ųm=À (Â,.bl Ã)):wy Ęi=À (Ęi,.fz ñ):=by
 have b:=λτ:zu=>ce a (F:=wC) (m := Çc) (τ:=τ) İ h
 rw[dZ];unfold Oy;simp only[Ĥ,kC,b]
section
variable{C:Str}(hC:vM C){T fw fh:D}{e:Int}{s s1:M}{d0 d1 j0 j1 m k:Int}
include hC in
theorem XW{t:Ì}(hk:k<m)(h:wy [yE C T e fw fh s d0 j0]=À ([yE C T e fw fh s1 d1 j1],.fz Ĕe)):ku Ġi=À (t,ąm):=by have z:decide (k<m)=Ã:=î hk;have a:=z1d hC (T:=T) (e:=e) (fw:=fw) (fh:=fh) (s:=s) (due:=d0) (done:=j0) (m := ßc) (F:=wy) (Ō:=[À Æa,À Ăb]) İ;unfold ku;simp only[Ĥ,kC,z,a,h]
theorem IQ(hk:¬ k<m):ku Ġi=À (Â,Ġi):=by have z:decide (k<m)=Â:=ă hk;unfold ku;simp only[Ĥ,kC,z]
theorem Ml{x:Æ M}(a:x=À ōd):XE [x,À Æa,À Ăb]=À (.nx [x,À Æa,À Ĳp]):=by subst a;have b:Æb ōd=Ä:=rfl;unfold XE;simp only[Ĥ,Ju,b]
theorem T5{n:Nat}(b:n<=gU)(w:qC ku XE n [À ōd,À Æa,À Ŧk]=À (.nx ąm)):wx [yE C T e fw fh s d0 j0,.fz ėc]=À ([yE C T e fw fh s1 d1 j1,.fz ėc],.fz ăe):=by have w:=fC n w b;have a:∀{s:M}{d0 j0:Int},Æb ōd=Ä:=rfl;rw[z3d];unfold F9;simp only[Ĥ,a,w]
#print a
inductive Kd(n:Nat)(A:Nat->Int):D->D->D->D->Prop
 |ţ {x y:D}:Kd n A āa āa x y
 |Ţa {r x y:D} (h:tF r):Kd n A r r x y
 |vo {t:Str} {p:Nat} (hp:p<=n):Kd n A Úg (.tup úk) Åe Ùf
 |øb {w k t:Str} {p:Nat} (hw:w = Äa \/ w = äa) (hk:k = Ċa \/ k = Œa \/ k = ſa) (hp:p<=n):Kd n A Ŋd ċk Åe Ùf
structure WU(n:Nat)(A:Nat->Int)(T U:D):Prop where
 inj:∀i,i<=n->(A i=A n↔i=n)
 at_:∀i,i<n->∃r b x y,Kd n A r b x y/\zM T Ĺa=À (.tup [r,.int Üe,x])/\zM U ês=À (.tup [b,.int ŀf,y])/\wu x=Ã/\wu y=Ã
section
variable{n:Nat}{A:Nat->Int}{T U fw fh:D}(W:WU n A T U)
inductive Nx(n:Nat)(A:Nat->Int)(T U fw fh:D)(Ws:Á Int)(a b c:Ì)(ps:Á ö)(i j:Nat):Prop
 |no (h1:wC Íg=À (Â,.bl Ã)) (h2:wC Ÿf=À (Â,.bl Ã))
   (e1:wy Ĝi=À (Ĝi,.fz ñ)) (e2:wy úi=À (úi,.fz ñ)):Nx n A T U fw fh Ws a b c ps i j
 |go {Ws':Á Int} {a' b' c':Ì} {ps':Á ö} {i':Nat} (w:vg Ws') (p:wq ps') (l:âf<=ù+4) (hi:i'<=n)
   (h1:wC Íg=À (Â,.bl Â)) (h2:wC Ÿf=À (Â,.bl Â))
   (e1:wy Ĝi=À ([yE ü T n fw fh ųf i' Õk],.fz Ę)) (e2:wy úi=À ([yE ÿ U Ďa fw fh ųf ŝl Õk],.fz Ę)):Nx n A T U fw fh Ws a b c ps i j
include W in
theorem Hc{Ws:Á Int}{a b c:Ì}{ps:Á ö}{i j:Nat}(O:vg Ws)(P:wq ps)(hp:ù<=800)(hi:i<=n):Nx n A T U fw fh Ws a b c ps i j:=by
 have J:wC Íg=À (Â,.bl Ã)->wC Ÿf=À (Â,.bl Ã)->Nx n A T U fw fh Ws a b c ps i j:=λB C=>.no B C (n9 .row (by rw[uE];exact B)) (n9 .word (by rw[uE];exact C))
 by_cases z:i=n
 .subst z;refine J ?_ ?_
  .rcases Io .row (T:=T) (fw:=fw) (fh:=fh) (sd:=xZ ć a b c ē Ĭ) (row:=.zE) (nx:=.zE) (tg:=.zE) (e:=(i:Int)) (due:=(i:Int)) (done:=(j:Int)) (k:=Ã) ßp with z|⟨_,z⟩;rw[z,î rfl];rfl;exact z
  .rcases Io .word (T:=U) (fw:=fw) (fh:=fh) (sd:=xZ ć a b c ē Ĭ) (row:=.zE) (nx:=.zE) (tg:=.zE) (e:=A i) (due:=A i) (done:=(j:Int)) (k:=Ã) ßp with z|⟨_,z⟩;rw[z,î rfl];rfl;exact z
 .have E:(i:Int)≠n:=by omega
  have o:A i≠A n:=λe=>z ((W.inj i hi).mp e)
  obtain⟨r,q,x,y,K,Z,X,tx,ty⟩:=W.at_ i Å
  have sd:∀{v:Ì},zk r āa=À (.bl v)->zk q āa=À (.bl v)->wC Íg=À (Â,.bl v)/\wC Ÿf=À (Â,.bl v):=λ{v} N L=>by
   refine⟨?_,?_⟩
   .rcases Io .row (fw:=fw) (fh:=fh) (sd:=xZ ć a b c ē Ĭ) (e:=(n:Int)) (due:=(i:Int)) (done:=(j:Int)) (k:=v) (λ_=>⟨Z,N⟩)with z|⟨z,_⟩;rw[z,ă E];rfl;exact Ú z E
   .rcases Io .word (fw:=fw) (fh:=fh) (sd:=xZ ć a b c ē Ĭ) (e:=A n) (due:=A i) (done:=(j:Int)) (k:=v) (λ_=>⟨X,L⟩)with z|⟨z,_⟩;rw[z,ă o];rfl;exact Ú z o
  have R:∀{u v:D}{k:Int},wu u=Ã->wu v=Ã->wu (.tup [u,.int k,v])=Ã:=λ{u v k} B C=>by show(wu u&&Ĺo)=Ã;rw[B,C];rfl
  have m:∀{g:Á Int}{G F I:Ì}{f:Á ö} {ld:Ì} {i':Nat},vg g->wq f->Ŀa<=ù+4->i'<=n->zk r āa=À ñ->zk q āa=À ñ->wu r=Ã->wu q=Ã->pI ên=À ([st ţh G F I ūh Ťh,.fz r],.fz .zE)->pI [st ć a b c ē Ĭ,.fz q]=À ([st ţh G F I ūh Ťh,.fz q],.fz .zE)->j4 [xZ ţh G F I ūh Ťh,r]=À (Â,.bl ld)->j4 [xZ ţh G F I ūh Ťh,q]=À (Â,.bl ld)->(if ld then x else .int Üe)=.int (i':Int)->(if ld then y else .int ŀf)=.int ŝl->Nx n A T U fw fh Ws a b c ps i j:=λ{g G F I f ld i'} w p l Q N L p1 p2 d1 d2 l1 l2 g1 g2=>by obtain⟨B,C⟩:=sd N L;exact .go w p l Q B C (TR .row E Z N (R p1 tx) uz d1 ld (by rw[uE];exact l1) g1) (TR .word o X L (R p2 ty) uz d2 ld (by rw[uE];exact l2) g2)
  cases K with
  |ţ=>obtain⟨B,C⟩:=sd (v:=Ã) rfl rfl;exact J B C
  |Ţa h=>have t:=x43 h.1 h.2;obtain⟨g,G,F,I,f,H⟩:=t.dr (a:=a) (b:=b) (c:=c) O P hp;exact m (ld:=Â) (i':=i+1) H.w H.p H.l Å t.st t.st t.tp t.tp H.e H.e (t.ld _) (t.ld _) rfl rfl
  |@vo t p hp'=>exact m (ld:=Ã) (i':=p) O P Å hp' rfl rfl rfl rfl Þg Þg rfl rfl rfl rfl|@cond w k t p hw' hk hp'=>
   obtain⟨ld,Y,S⟩:∃ld:Ì,j4 [xZ ć a b c ē Ĭ,.tup śn]=À (Â,.bl ld)/\j4 [xZ ć a b c ē Ĭ,.tup Ņe]=À (Â,.bl ld):=by rcases hw' with rfl|rfl<;>rcases hk with rfl|rfl|rfl<;>exact⟨_,rfl,rfl⟩
   have d:pI În=À (În,.fz .zE)/\pI Ōm=À (Ōm,.fz .zE):=by rcases hw' with rfl|rfl;exact⟨Yz (w := Äa) rfl rfl,Yz (w := Äa) rfl rfl⟩;exact⟨Yz (w := äa) rfl rfl,Yz (w := äa) rfl rfl⟩
   have s:zk Ŋd āa=À ñ/\zk ċk āa=À ñ:=by rcases hw' with rfl|rfl<;>exact⟨rfl,rfl⟩
   cases ld with
   |Ã=>exact m (ld:=Ã) (i':=p) O P Å hp' s.1 s.2 rfl rfl d.1 d.2 Y S rfl rfl|Â=>exact m (ld:=Â) (i':=i+1) O P Å Å s.1 s.2 rfl rfl d.1 d.2 Y S rfl rfl
inductive bJ(n:Nat)(A:Nat->Int)(T U fw fh:D)(m:Nat)(Ws:Á Int)(a b c:Ì)(ps:Á ö)(i j:Nat):Prop
 |mk {Ws':Á Int} {a' b' c':Ì} {ps':Á ö} {i' k:Nat} (w:vg Ws') (p:wq ps') (hi:i'<=n) (hk:k<=m) (l:âf<=ù+4*k)
   (e1:wx [yE ü T n fw fh Õd i j,.fz ėc]=À ([yE ü T n fw fh ųf i' (ćr:Int),.fz ėc],.fz ăe))
   (e2:wx [yE ÿ U Ďa fw fh Õd íb j,.fz ėc]=À ([yE ÿ U Ďa fw fh ųf ŝl (ćr:Int),.fz ėc],.fz ăe)):bJ n A T U fw fh m Ws a b c ps i j
include W in
theorem x90{m:Nat}(I:m<=100){Ws:Á Int}{a b c:Ì}{ps:Á ö}{i j:Nat}(q:vg Ws)(P:wq ps)(G:ù<=300)(hi:i<=n):bJ n A T U fw fh m Ws a b c ps i j:=by
 have E:∀(d k:Nat){Ws:Á Int}{a b c:Ì}{ps:Á ö} {i j:Nat},k+d=m->vg Ws->wq ps->ù+4*d<=800->i<=n->∃g s r u e t z,vg g/\wq e/\t<=n/\z<=d/\e.length<=ù+4*z/\
   qC ku XE ĭe [À (yE ü T n fw fh Õd i j),À Æa,À Ăb]=À (Ρd (yE ü T n fw fh Án t ((j+z:Nat):Int)))/\
   qC ku XE ĭe [À (yE ÿ U Ďa fw fh Õd íb j),À Æa,À Ăb]=À (Ρd (yE ÿ U Ďa fw fh Án (A t) ((j+z:Nat):Int))):=by
  intro d
  induction d with
  |ų=>
   intro k Ws a b c ps i j x q P G hi;have x:¬ (k:Int)<m:=by omega
   exact⟨Ws,a,b,c,ps,i,0,q,P,hi,Øa _,by omega,kF (IQ x),kF (IQ x)⟩
  |Ŵ d ih=>
   intro k Ws a b c ps i j x q P G hi;have h:(k:Int)<m:=by omega
   cases Hc W (fw:=fw) (fh:=fh) (a:=a) (b:=b) (c:=c) (j:=j) q P Å hi with
   |no h1 h2 e1 e2=>exact⟨Ws,a,b,c,ps,i,0,q,P,hi,Áa _,by omega,kF ůp,kF ĩp⟩|@go g s r u e t w p l o h1 h2 e1 e2=>
    obtain⟨F,Q,K,O,B,J,z,N,L,C,H,R,y,v⟩:=ih Ņ (a:=s) (b:=r) (c:=u) (j:=j+1) Å w p Å o;refine⟨F,Q,K,O,B,J,z+1,N,L,C,by omega,by omega,?_,?_⟩
    .rw[O1 ůp ĕh,show j+ĭc=j+1+z by omega,show k+ĭc=k+1+z by omega];exact y
    .rw[O1 ĩp ĕh,show j+ĭc=j+1+z by omega,show k+ĭc=k+1+z by omega];exact v
 obtain⟨g,s,r,u,e,t,z,w,p,o,H,l,y,v⟩:=E m 0 (j:=j) (a:=a) (b:=b) (c:=c) (Ő m) q P Å hi;rw[Ő]at y v;have f:m+1<=gU:=Ğ (Ļb I) È;exact .mk w p o H l (T5 f y) (T5 f v)
#print a
def FI:yQ:=
 (yz (Οc (zR WI Đb))
  (Γe (eL qR Đb)))
def WE:FM:=vZ 4 5 FI
def z3i(b a x2 x3:M):WE Ŗc=wW 4 5 FI Ŗc:=rfl
theorem lq{g:Á Nat->Á Nat}:∀{f R R':Á Nat}{k k':Nat},gZ g f R k->gZ g f R' k'->R=R'
 |_,_,_,_,_,.stop _,.stop _=>rfl|_,_,_,_,_,.stop e,.go n _ _=>Ú e n|_,_,_,_,_,.go n _ _,.stop e=>Ú e n|_,_,_,_,_,.go _ _ a,.go _ _ b=>lq a b
inductive Pz(Z:Á Ĕa):D->D->Prop
 |ţ:Pz Z āa āa
 |Ţa {r:D} (h:tF r):Pz Z r r
 |vo {q:Str×Nat} (h:q∈Z):Pz Z (.tup [.str Ÿ,.int (q.2:Int)]) œr
 |øb {w k:Str} {q:Str×Nat} (hw:w = Äa \/ w = äa) (hk:k = Ċa \/ k = Œa \/ k = ſa) (h:q∈Z):Pz Z (.tup [.str w,.str k,.int (q.2:Int)]) Çn
theorem iJ{Z:Á Ĕa}:∀{Î:Á D},(∀r∈Î,RJ Z tF r)->∃rs,ui (Pz Z) rs Î
 | [],_=>⟨[],.nil⟩|r::Î,h=>by
  obtain⟨rs,e⟩:=iJ λr a=>h r ìe
  cases h r ĵ with
  |Ţa z=>exact⟨_,.cons (.plain z) e⟩|ţ=>exact⟨_,.cons .stop e⟩|vo z=>exact⟨_,.cons (.vo z) e⟩|øb hw hk z=>exact⟨_,.cons (.cond hw hk z) e⟩
def iu{Z:Á Ĕa}{Î zF:Á D}{n:Nat}(Y:Yr Z Î zF)(f:∀q∈Z,q.2<=n){x y:D}(h:Pz Z x y):kX zF x y/\kY (n:Int) x:=by
 have d:∀{b:Ì}{p:Prop},b=Â->b=Ã->p:=λi g=>by rw[i]at g;cases g
 have e:∀{r:D},pK r->kX zF r r/\kY (n:Int) r:=λ{r} h=>by obtain⟨_,_,_,_,c,_⟩:=T1 h;exact⟨⟨.plain h,rfl,⟨λ_=>rfl,d c⟩,rfl,d c⟩,.inl h⟩
 cases h with
 |ţ=>exact e .stop|Ţa h=>exact e h.1|@vo q h=>exact⟨⟨.vo _,rfl,⟨λz=>d z rfl,λ_=>⟨úk,_,q.1,rfl,rfl⟩⟩,rfl,λ_=>⟨q.1,q.2,rfl,Y.pl q h,rfl⟩⟩,.inr (.vo Å ťn)⟩|@cond w k q hw hk h=>
  have j:∀a:D,wG Ĭi=Ã:=λa=>by rcases hw with rfl|rfl<;>rfl
  have l:∀a:D,xD Ĭi=Â:=λa=>by rcases hw with rfl|rfl<;>rfl
  exact⟨⟨.cond _ hw hk,by rw[l,l],⟨λz=>d z (j _),λ_=>⟨Ņe,_,q.1,rfl,rfl⟩⟩,by rw[j,j],λ_=>⟨q.1,q.2,rfl,Y.pl q h,rfl⟩⟩,.inr (.cond hw hk Å ťn)⟩
def nK{Z:Á Ĕa}{Î zF:Á D}(Y:Yr Z Î zF){q:Str×Nat}(h:q∈Z){r:D}(b:wG r=Ã)(a:XF r=.str q.1):u7 zF r=.int (q.2:Int):=by unfold u7;rw[b,a];show((ìr.2).map λn:Nat=>þ n).getD .zE=_;rw[Y.pl q h];rfl
def x5o{Z:Á Ĕa}{Î zF rs:Á D}{zC:Á Nat}(Y:Yr Z Î zF)(E:ui (Pz Z) rs Î)(o:∀q∈Z,q.2<=ì)(W:Wr rs zF zC):WU ì Ĉh Ÿp Üm:=by
 have v:=Wf E;have T:=W.tb;rw[v]at T;refine⟨λi f=>⟨λe=>T.inj f Ē e,λe=>by rw[e]⟩,λi f=>?_⟩;have g:i<óf:=by omega
 obtain⟨y,n,K⟩:=LQ E (Ģ g);have p:rs.getD i .zE=rs[i]:=by rw[Āa,Ģ g];rfl
 have l:Ċc i .zE=y:=by rw[Āa,n];rfl
 have u:(Ņo).getD i .zE=u7 zF y:=by rw[Āa,ş,n];rfl
 have d:=x1d (Î:=Î) (tgs:=rows.map (u7 zF)) f;rw[l,u]at d
 have b:zM Üm (Β Žg)=À (u_ Ĉh (Yx rs) (YI rs) i):=by show Ă _ _ (.inl Žg)=_;exact dU (λi j f m h=>T.inj f m h) f (u_ Ĉh (Yx rs) (YI rs)) (Ēa ì) (âd f) λj m=>õa (ôc m)
 have s:Yx rs i=bif wG rs[i]then J9 rs[i]else rs[i]:=by unfold Yx;rw[p]
 have r:YI rs i=bif wG rs[i]then À (qW rs[i])else Ä:=by unfold YI;rw[p]
 unfold u_ at b;rw[s,r]at b;generalize rs[i]=x at K b;cases K with
 |ţ=>exact⟨_,_,_,_,.stop,d,b,rfl,rfl⟩|Ţa h=>
  obtain⟨_,_,_,_,c,_⟩:=T1 h.1;have t:u7 zF y=.zE:=by unfold u7;rw[c]
  rw[c]at b;rw[t]at d;exact⟨_,_,_,_,.plain h,d,b,rfl,rfl⟩
 |@vo q h=>rw[nK Y h rfl rfl]at d;exact⟨_,_,_,_,.vo (o q h),d,b,rfl,rfl⟩|@cond w k q hw hk h=>
  have j:∀a:D,wG Ĭi=Ã:=λa=>by rcases hw with rfl|rfl<;>rfl
  rw[nK Y h (j _) rfl]at d;rw[j]at b;exact⟨_,_,_,_,.cond hw hk (o q h),d,b,rfl,rfl⟩
def x8b{ws:Á D}{b a:D}{Ws:Á Int}{ps:Á ö}(c:WI þf=À (Â,b))(g:ħa=8)(d:∀w∈Ws,0<=w/\w<4294967296)(e:kR [a]=À (Ã,.dic ē Ĭ)) :WE [.obj ÿ [] [],.fz Ďc,.fz ĥa,.fz a]=À ([yE ÿ b đb ĥa Ŝd ėi 0 0,.fz Ďc,.fz ĥa,.fz a],.fz .zE):=by have f:ge (.obj ÿ [] []) 0 []=.p 0 []:=rfl;rw[z3i];unfold FI;simp only[Ĥ,c,f,fM .word g d e]
inductive bB(Z:Á Ĕa)(Î zF:Á D):Prop
 |mk {T U:D} {A:Nat->Int} {ws Ĭl:Á D} {zC:D} (W:WU ì A T U) (hA:A 0=0) (he:A ì=đb) (hs:∀i,i<=ì->zM (.lst Ĭl) Ĺa=À ês)
   (e1:WJ ŕa=À (Ã,.lst ws)) (e2:U7 ŕa=À (Â,zC)) (e3:U3 [.lst zF,zC]=À (Ã,.lst Ĭl)) (e4:WI þf=À (Â,U)) (hT:T=.dic đd ái) (hb:∀i:Nat,0<=A i/\A i<=2*i):bB Z Î zF
def z7v{Z:Á Ĕa}{Î zF:Á D}(Y:Yr Z Î zF)(t:∀r∈Î,RJ Z tF r)(c:∀q∈Z,q.2<=ì)(z:ì<=60):bB Z Î zF:=by
 obtain⟨b,E⟩:=iJ t;have o:=Wf E
 have a:ui Ħd b ĳa:=by rw[Y.rw];exact cX (λx y h=>Ŀr.1) E
 have j:∀r∈b,kY (Ãa:Int) r:=λr p=>by rw[o];obtain⟨i,n,rfl⟩:=ŝi p;obtain⟨y,_,h⟩:=LQ E (Ģ n);exact Ŀr.2
 obtain⟨zC,k,R,W,g⟩:=x8h Y.it Y.ln a j Å;obtain⟨f,w,v,_,_,s⟩:=c_ Y.it Y.ln a j Å;cases lq R v;have T:=W.tb;have l:=x18 T;have m:=bT Y.it (zC:=zC) (Wf a).symm Å;have u:=x5o Y E c W;rw[o]at T l m g;exact .mk u rfl T.e (λi n=>F0 Å) g s m l rfl (US _)
def Rk:FE:=(xt (ο Łk))
def Rn:FT:=(tE (e2 xm ãg ą))
def CF:FS:=
 (qz (wU 1 (ua (eL EI üb)) Ńa Rn Rk))
def Ql:Á D->Æ â:=FR 1 1 CF
def z4t(a:D):Ql [a]=yH 1 CF [a]:=rfl
def F8:FS:=
 (qz (eL Wg (Ζ (e1 (xc [Ŀ] Š) ïg))))
def jb:Á D->Æ â:=FR 1 1 F8
def z3c(a:D):jb [a]=yH 1 F8 [a]:=rfl
def BU:FE:=(e2 zM (e1 (xc [Ŀ] łb) ïg) Ď)
def F5:FS:=
 (yF (Κc (wU 1 (ua ńh) Ńa yt BU)))
def Zf:Á D->Æ â:=FR 1 1 F5
def z39(a:D):Zf [a]=yH 1 F5 [a]:=rfl
def F6:FS:=
 (qz (ur Ql (Ζ (e1 (xc [Ŀ] ïa) ïg))))
def Zg:Á D->Æ â:=FR 1 1 F6
def z3a(a:D):Zg [a]=yH 1 F6 [a]:=rfl
def F7:FS:=
 (yF þi)
def Zh:Á D->Æ â:=FR 1 1 F7
def z3b(a:D):Zh [a]=yH 1 F7 [a]:=rfl
def FC:FS:=
 (yF (e1 (xc Ĳ ĥc) ï))
def jc:Á D->Æ â:=FR 1 1 FC
def z3f(a:D):jc [a]=yH 1 FC [a]:=rfl
def Jq:FS:=(xM (tE (e2 zk Č ą))
     (εa (zR jb (wF ü Ąa ï zG)) (zR jb (wF ÿ Ąa ï zG)))
     (xM (tE (e2 zk Č ņ))
       (εa (zR Zf (wF ü ğd ï zG)) (zR Zf (wF ÿ ğd ï zG)))
       (xM (tE (e2 zk Č Ìb))
         (εa (zR Zg (wF ü ŏa ï zG)) (zR Zg (wF ÿ ŏa ï zG)))
         (xM (tE (e2 zk Č ųb))
           (εa (zR Zh (wF ü ĕb ï zG)) (zR Zh (wF ÿ ĕb ï zG)))
           (xM (tE (e2 zk Č Ïb))
             (εa (zR jc (wF ü Úc ï zG)) (zR jc (wF ÿ Úc ï zG)))
             (qY 2 Č Çm))))))
def BX:FE:=âg
def C0:FS:=
 (za Ļr
  (za (qy (ua (e2 zM (Ο (Ψa (Ěb þ ĳj)) (zA (Ψa (Ěb þ İj)) (zA (Ψa (Ěb þ Ĳj)) (Ζ (Ψa (Ěb þ ıj)))))) (e2 xI Ď Ïb))) ĵd
   Jq)
  (za (T6 2) (yF (eL EG (Ζ (wU 1 (tJ ą ôq) Ōl yt BX)))))))
def qL:Á D->Æ â:=FR 2 4 C0
def z4h(a b:D):qL ë=yH 4 C0 ë:=rfl
noncomputable def pf:Á ö->Int->Int
 | [],_=>0|p::ps,a=>if p.1=a then p.2 else pf ps a
theorem dQ{a:Int}:∀{ps:Á ö},a∈ź (·.1)->Ă ē Ĭ œb=À ďp
 | [],h=>Ú h ã|p::ps,h=>by show Ă (.inl p.1::kP ps) (.int p.2::vP ps) œb=_;unfold Ă pf;by_cases c:p.1=a;rw[Ï (Ëa Ía c),Ï c];rw[Ð (λz=>c (Âc z)),Ð c];rw[ř]at h;exact dQ ŝm
def z69{ps:Á ö}{a:Int}(h:a∈ź (·.1)):zM Ŝd ĭf=À ďp:=by show(uI ĭf).bind _=_;exact dQ h
def Jw(ps:Á ö):Á Int:=L2.isort (ź (·.1))
def g7(ps:Á ö):Á D:=((Jw ps).filter λa=>decide ñq).map λa=>.tup ŉn
theorem fJ{ps:Á ö}{a:Int}(h:a∈Jw ps):a∈ź (·.1):=(Ļg (ź (·.1))).mem_iff.mp h
theorem eR:∀(ps:Á ö),Uq ē=À (ź (·.1))
 | []=>rfl|p::ps=>by show(Uq ē).bind _=_;rw[eR ps];rfl
def z7a{g:FG}{c:FT}{e:FE}{σ:zu}(p:Int->Ì)(v:Int->D){ns:Á Int}(h:∀n∈ns,∃σ1,g ĝh σ=À σ1/\c σ1=À (p n)/\(p n=Ã->e σ1=À (v n))):yo g c e σ ďe=À ((ns.filter p).map v):=by
 induction ns with
 |nil=>rfl|Ĉ n ns ih=>
  obtain⟨σ1,e1,e2,b⟩:=h n ĵ;have a:=ih λm d=>h m ņk
  show yo g c e σ (.int n::wI ns)=_;cases q:p n with
  |Ã=>rw[q]at e2;simp only[yo,e1,ăb,e2,b q,a,ìd,q,ś,ř]|Â=>rw[q]at e2;simp only[yo,e1,ăb,e2,a,ìd,q,Ĺb,ða]
theorem z8l{i:Int}:xm üa ę=À (Υa (i≠0)):=by
 show À (İc (!(i==0)))=_
 congr 2
 by_cases c:i=0;subst c;rfl;rw[î c];have:(i==0)=Â:=by simpa using c
 rw[this];rfl
def y44{ps:Á ö}:Ql ōp=À (Ã,.lst Þc):=by
 have e1:EI ōp=À (Ε Ĺq):=by show(Uq ē).bind _=_;rw[eR];rfl
 have e2:yo Ńa Rn Rk [À (Â,.dic ē Ĭ),Ä] Ĺq=À Þc:=z7a (λa=>decide ñq) (λa=>.tup ŉn) λn c=>by have b:=z69 (fJ c);refine⟨_,rfl,?_,λ_=>?_⟩;unfold Rn;simp only[Ó,b,z8l];unfold Rk;simp only[Ó,b]
 rw[z4t];unfold CF;simp only[Ó,e1,e2]
section
variable{C:Str}(hC:vM C){T fw fh:D}{e due done:Int}{Ws:Á Int}{a b c:Ì}{ps:Á ö}
include hC
theorem lR:jb Đi=À (Ã,.lst ć):=by have d:Wg ŷg=À ĥa:=rfl;rw[z3c];unfold F8;simp only[Ó,JO hC,jE,d]
theorem z80:Zf Đi=À (Â,.tup àd):=by
 have e1:yo Ńa yt BU [À (Â,xG C T e fw fh Ñd due done),Ä] X8=À àd:=by
  have h:∀m:Str,BU [À (Â,xG C T e fw fh Ñd due done),À (Â,.str m)]=zM äe (.str m):=λm=>by unfold BU;simp only[Ó,JO hC,EM]
  unfold X8;simp only[yo,yD,yt,ăb,İo,ũi,h,RE,x4d,x4e]
 have e2:Wh [.lst àd]=À (.tup àd):=rfl;rw[z39];unfold F5 gs;simp only[Ó,e1,e2]
theorem z85:Zg Đi=À (Ã,.lst Þc):=by rw[z3a];unfold F6;simp only[Ó,JO hC,EL,y44]
theorem y5g{sd:D}:Zh ëc=À (Â,.int due):=by rw[z3b];unfold F7;simp only[Ó,JN hC]
theorem nA{sd:D}:jc ëc=À (Â,.int done):=by rw[z3f];unfold FC;simp only[Ó,z2o hC]
#print a
theorem nV{a:Int}:∀{ps:Á ö},(∀p∈ps,0<=p.2/\p.2<256)->0<=pf ps a/\pf ps a<256
 | [],_=>⟨by unfold pf;omega,by unfold pf;omega⟩|p::ps,h=>by
  unfold pf
  split;exact h p ĵ;exact nV λq b=>h q ąf
def Ua{C:Str}(b:vM C){T fw fh sd:D}{e due done:Int}{m:Str}{F:Á D->Æ â}{τ:zu}{r:D}{q:Ì}(c:m ∉ jA)(h:F ëc=À (q,r)):tH Ĳn ĳn įe=À r:=by
 have a:∀x:Str,zR F ėp įe=match decide Ĭb with|Ã=>À r|Â=>Ä:=λx=>by
  show(Čo).bind _=_;show Ði=_;rw[ă c];cases decide Ĭb with
  |Â=>rfl|Ã=>show(ĥl).bind _=_;rw[h];rfl
 unfold tH;rw[a,a];cases b with
 |row=>rfl|Łd=>rfl
section
variable{C:Str}{T fw fh:D}{e due done:Int}{Ws:Á Int}{a b c:Ì}{ps:Á ö}
def uG(C:Str)(T fw fh:D)(e due done:Int)(Ws:Á Int)(a b c:Ì)(ps:Á ö):D:=xG C T e fw fh Ñd due done
def vis(Ws:Á Int)(a b c:Ì)(ps:Á ö)(due done:Int)(k:Ì):Á D:=[.lst ć,.tup àd,.lst Þc,.int due,.int done,.bl k]
theorem RW{m:Nat}:∀{xs:Á D},(∀d∈xs,wD d<=m)->wDs xs<=(m+2)*à
 | [],_=>Áa _|x::xs,h=>by
  have c:=h x ĵ;have b:=RW λd a=>h d ìe
  show wD x+2+wDs xs<=_;rw[ĕ,Nat.mul_add];omega
def I_{i:Int}(a:0<=i)(b:i<100000000000000000000):wD üa=20:=by show Ůf=20;rw[î a,î b];rfl
def z84:(Þc).length<=ù:=by unfold g7 Jw;rw[ä];refine Ğ (ųn ..) ?_;rw[(Ļg _).length_eq,ä];exact Øa _
def y6t{k:Ì}(P:wq ps)(B:ù<=800)(j:∀w∈Ws,0<=w/\w<4294967296)(z:ħa<=100)(d0:0<=due)(d1:due<1000000)(n:0<=done)(y:done<1000000):EG [.lst ôa]=À (Ζb ôj):=by
 have v:wDs ć<=22*100:=by
  have:=RW (m:=20) (xs:=wI Ws) λd e=>by obtain⟨w,f,rfl⟩:=Ů e;exact Àc (I_ (j w f).1 (Δe (j w f)))
  rw[jW]at this;omega
 have A:wDs Þc<=49*800:=by
  have:=RW (m:=47) (xs:=g7 ps) λd e=>by
   obtain⟨x,t,rfl⟩:=Ů e;have i:=fJ (ŭd t).1;obtain⟨p,s,rfl⟩:=Ů i;have q:=P.ad p s;have u:=nV (a:=p.1) Èb;show wD íf+2+(wD (Β (pf ps p.1))+2+0)+3<=47;rw[I_ q.1 Å,I_ u.1 Å]
   decide
  have l:=z84 (ps:=ps);have:(47+2)*(Þc).length<=49*800:=by omega
  omega
 have r:wDs ôa<=1000000:=by show(wDs ć+2)+2+(((5+2+(5+2+(5+2+0)))+3)+2+((wDs Þc+2)+2+(wD îf+2+(wD Ók+2+(5+2+0)))))<=1000000;rw[I_ d0 Å,I_ n Å];omega
 have h:(ć).all Ũh=Ã:=Ťd λd e=>by obtain⟨w,_,rfl⟩:=Ů e;rfl
 have g:(Þc).all Ũh=Ã:=Ťd λd e=>by obtain⟨x,_,rfl⟩:=Ů e;rfl
 have o:(ôa).all ĝe=Ã:=by show((ć).all Ũh&&(_&&((Þc).all Ũh&&_)))=Ã;rw[h,g];rfl
 show(match decide (wDs ôa<=1000000)&&(ôa).all ĝe with|Ã=>_|Â=>_)=_;rw[î r,o];rfl
def y5v{ks:Á Ĩ}{vs:Á D}{k:Int}{v:D}(h:yg ks ġh=Â):wO ks ġh=ks++[.inl k]/\w6 ks vs ġh v=vs++[v]:=by unfold wO w6;rw[Ð Çj,Ð Çj];exact⟨rfl,rfl⟩
def z5d{k:Nat}:∀{xs:Á Nat},k ∉ xs->yg (àc λk:Nat=>(.inl (k:Int):Sum Int Str)) ŷp=Â:=λ{xs} h=>by
 unfold yg;rw[ŉg,ŷi];intro j a;show ¬ decide ((.inl (j:Int):Sum Int Str)=.inl (k:Int))=Ã;rw[þg];intro z;have:j=k:=by have:=Âc z;omega
 exact h (this▸a)
def XG(C:Str)(T fw fh:D)(e due done:Int)(Ws:Á Int)(a b c:Ì)(ps:Á ö)(Đa:Int)(o:Á Nat)(k:Ì)(x:Æ Sl):zu:=
 [À (Â,uG C T fw fh e due done Ws a b c ps),À (Â,.int Đa),À (Ã,.dic (ĭa λk:Nat=>.inl (k:Int)) (ĭa λi:Nat=>(ôa).getD i .zE)),x]
section
variable(hC:vM C)
include hC
theorem z7k{Đa:Int}{o:Á Nat}{k:Ì}{i:Nat}(t:wC Ŋm=À (Â,.bl k))(hi:i<6)(g:i ∉ o)(B:Ęb<=6):Jq (XG C T fw fh e due done Ws a b c ps Đa o k ın)=À (.nx (XG C T fw fh e due done Ws a b c ps Đa Íl k ın)):=by
 obtain⟨h,d⟩:=y5v (vs:=ĭa λi:Nat=>(ôa).getD i .zE) (v:=(ôa).getD i .zE) (z5d g);have n:(ĭa λk:Nat=>(.inl (k:Int):Sum Int Str)).length<yZ:=by rw[ä];show _<16777216;omega
 have f:(Íl).map (λk:Nat=>(.inl (k:Int):Sum Int Str))=(ĭa λk:Nat=>(.inl (k:Int):Sum Int Str))++[.inl (i:Int)]:=by rw[ğa];rfl
 have l:(Íl).map (λi:Nat=>(ôa).getD i .zE)=(ĭa λi:Nat=>(ôa).getD i .zE)++[(ôa).getD i .zE]:=by rw[ğa];rfl
 unfold XG;rw[f,l,<-h,<-d];clear h d f l;generalize (ĭa λk:Nat=>(.inl (k:Int):Sum Int Str))=ks at n ⊢;generalize (ĭa λi:Nat=>(ôa).getD i .zE)=vs;have u:=λτ:zu=>Ua hC (T:=T) (fw:=fw) (fh:=fh) (sd:=xZ ć a b c ē Ĭ) (e:=e) (due:=due) (done:=done) (m := Ąa) (F:=jb) (τ:=τ) İ (lR hC)
 have r:=λτ:zu=>Ua hC (T:=T) (fw:=fw) (fh:=fh) (sd:=xZ ć a b c ē Ĭ) (e:=e) (due:=due) (done:=done) (m := ğd) (F:=Zf) (τ:=τ) İ (z80 hC)
 have I:=λτ:zu=>Ua hC (T:=T) (fw:=fw) (fh:=fh) (sd:=xZ ć a b c ē Ĭ) (e:=e) (due:=due) (done:=done) (m := ŏa) (F:=Zg) (τ:=τ) İ (z85 hC)
 have L:=λτ:zu=>Ua hC (T:=T) (fw:=fw) (fh:=fh) (sd:=xZ ć a b c ē Ĭ) (e:=e) (due:=due) (done:=done) (m := ĕb) (F:=Zh) (τ:=τ) İ (y5g hC)
 have s:=λτ:zu=>Ua hC (T:=T) (fw:=fw) (fh:=fh) (sd:=xZ ć a b c ē Ĭ) (e:=e) (due:=due) (done:=done) (m := Úc) (F:=jc) (τ:=τ) İ (nA hC)
 have A:=λτ:zu=>Ua hC (T:=T) (fw:=fw) (fh:=fh) (sd:=xZ ć a b c ē Ĭ) (e:=e) (due:=due) (done:=done) (m := Çc) (F:=wC) (τ:=τ) İ t
 have w:∀{j:Int},uI ěd=À (.inl j):=rfl;unfold Jq;unfold uG;generalize xG C T e fw fh Ñd due done=dm at *;have q:i=0\/i=1\/i=2\/i=3\/i=4\/i=5:=by omega
 have J:∀{x y:Int},zk ŷa (.int y)=À Òr:=ħc;have z:((0:Nat):Int)=0:=rfl;have G:((1:Nat):Int)=1:=rfl;have E:((2:Nat):Int)=2:=rfl;have p:((3:Nat):Int)=3:=rfl;have K:((4:Nat):Int)=4:=rfl;have H:((5:Nat):Int)=5:=rfl;rcases q with rfl|rfl|rfl|rfl|rfl|rfl
 all_goals
  clear g B;simp only[Ó,J,z,G,E,p,K,H,Int.reduceEq,qY,u,r,I,L,s,A,w,Ï n]
  first|done|rfl
theorem z7j{Đa:Int}{k:Ì}(P:wq ps)(O:ù<=800)(N:∀w∈Ws,0<=w/\w<4294967296)(J:ħa<=100)(d0:0<=due)(d1:due<1000000)(F:0<=done)(I:done<1000000)(G:wC Ŋm=À (Â,.bl k)):qL Ćm=À (Â,.str (ôj).shown):=by
 have y:∀o:Á Nat,o.Nodup->Ęb=6->(∀i∈o,i<6)->(∀i,i<6->i∈o)->∃σ',Z9 ĵd Jq (ĭa λk:Nat=>.int (k:Int)) (XG C T fw fh e due done Ws a b c ps Đa [] k Ä)=À Šk/\∃x,σ'=XG C T fw fh e due done Ws a b c ps Đa o k x:=λo A E lt j=>by
  obtain⟨σ',e1,x,rfl⟩:=gz (g:=yD 3) (b:=Jq) (λi σ=>∃x,σ=XG C T fw fh e due done Ws a b c ps Đa (Ŏh i) k x) (ds:=ĭa λk:Nat=>.int (k:Int)) (σ:=XG C T fw fh e due done Ws a b c ps Đa [] k Ä) 0 ⟨Ä,rfl⟩ λi d σ r K=>by
   obtain⟨x,rfl⟩:=K;rw[Ő];have m:i<Ęb:=by have:=(Ŗ r).1;rw[ä]at this;exact this
   rw[ş,Ģ m]at r;cases r
   have B:o[i] ∉ Ŏh i:=by
    have e2:o=Ŏh i++o[i]::o.drop ê:=by rw[<-Ůb m,Ũa]
    have p:=A;rw[e2,ĉg]at p;intro z;exact p.2.2 _ z _ ĵ rfl
   have H:=z7k hC (T:=T) (fw:=fw) (fh:=fh) (e:=e) (due:=due) (done:=done) (Ws:=Ws) (a:=a) (b:=b) (c:=c) (ps:=ps) (Đa:=Đa) (o:=Ŏh i) (k:=k) (i:=o[i]) G (lt _ (Ÿb m)) B (by rw[ìa];omega);refine⟨_,_,rfl,.inl H,À (Â,.int (o[i]:Int)),?_⟩;rw[Ōd m]
  rw[Ő,ä,ëd]at e1;exact⟨_,e1,x,rfl⟩
 have t:∀(o:Á Nat),(∀i,i<6->i∈o)->∀x,yo Ōl yt BX Ŧl (wQ 6)=À ôa:=λo j x=>by
  have:=Z8 (g:=yD 4) (e:=BX) (σ:=Ŧl) (λd=>match d with|.int i=>(ôa).getD ĝc .zE|d=>d) (ds:=wQ 6) λd r=>by obtain⟨i,m,rfl⟩:=Ů r;have g:=EZ (g:=λi:Nat=>(ôa).getD i .zE) (j i (ôc m));refine⟨_,rfl,?_⟩;unfold BX;have l:zM (.dic (ĭa λk:Nat=>.inl (k:Int)) (ĭa λi:Nat=>(ôa).getD i .zE)) Ĺa=À ((ôa).getD i .zE):=g;simp only[Ó,l];rfl
  rw[this];rfl
 have v:=y6t (a:=a) (b:=b) (c:=c) (k:=k) P O N J d0 d1 F I;have u:∀τ:zu,tJ ą ôq τ=À (wQ 6):=λτ=>ZK (n:=6) rfl È
 have s:∀o:Á Nat,o.Nodup->Ęb=6->(∀i∈o,i<6)->(∀i,i<6->i∈o)->zM (.lst [.lst [.int 0,.int 1,.int 2,.int 3,.int 4,.int 5],.lst [.int 5,.int 4,.int 3,.int 2,.int 1,.int 0],.lst [.int 2,.int 4,.int 0,.int 5,.int 1,.int 3],.lst [.int 3,.int 1,.int 5,.int 0,.int 4,.int 2]]) (Β (cell%4))=À (.lst (ĭa λk:Nat=>.int (k:Int)))->qL Ćm=À (Â,.str (ôj).shown):=λo A E lt j l=>by obtain⟨σ',e1,x,rfl⟩:=y o A E lt j;have f:=t o j x;unfold XG at e1;simp only[Éf]at e1;rw[z4h];unfold C0;generalize (ĭa λk:Nat=>þ (k:Int))=L at l e1;generalize (ĭa λk:Nat=>(.inl (k:Int):Sum Int Str))=ks at e1 f;generalize (ĭa λi:Nat=>(ôa).getD i .zE)=vs at e1 f;generalize uG C T fw fh e due done Ws a b c ps=dm at l e1 f u v ⊢;generalize vis Ws a b c ps due done k=VV at l e1 f u v ⊢;simp only[Ó,l,e1,f,u,v]
 have q:cell%4=0\/cell%4=1\/cell%4=2\/cell%4=3:=by omega
 rcases q with h|h|h|h;exact s ĳj È rfl È È że;exact s İj È rfl È È że;exact s Ĳj È rfl È È że;exact s ıj È rfl È È że
#print a
#print a
def L4:yQ:=
 (yz (jN (Ω (e2 zk ï ą))
   (jP (JC ü WD (xB Ď ēi)))
   jO)
  (jP (JC ÿ WE (xB (ur WJ Đb) ēi))))
def kU:FM:=vZ 4 4 L4
def dh(b a x2 x3:M):kU Ŗc=wW 4 4 L4 Ŗc:=rfl
def C5:yQ:=
 (yz (uM 2 (xY (xi Ĉo)))
  (yz (jN (Ω (e2 zk Ĥp ņ))
   (uM 2 (xY (Ο (Η Õl (zA ą Úf)) Ĉo)))
   jO)
  (yz (uM 3 (tW kU (xB ï (xB (e2 yd (xi (Α (Η Ôl ļm))) ď) (xB (Ψa (Ěb þ Ŭo)) (xB ųc xN))))))
  (yz (jN (BJ (Xh (jt xm (ςc ĝs ĝs) (xY (eC űa)))) (BJ (Ω (e2 xm (tH (zR jc (wF ü Úc Č zG)) (zR jc (wF ÿ Úc Č zG))) (eC űa))) (Xh (jt xm (ςc ţg ţg) ęd))))
   ăg
   jO)
  (jP (ju (Wd (e2 zk (tH (zR jb (wF ü Ąa Č zG)) (zR jb (wF ÿ Ąa Č zG))) (Ο (e2 qS (eC (.int 1500)) Ĥp) (zA ųb (zA ą (zA ą (zA ą (zA ą (zA ą Šg)))))))) (e2 LV (tH (zR wC (wF ü Çc Č zG)) (zR wC (wF ÿ Çc Č zG))) đh))))))))
def UD:FM:=vZ 2 4 C5
def z4k(a b:M):UD ë=wW 2 4 C5 ë:=rfl
def Jo:yQ:=(Ju 12 ŵe ņ)
def WZ:uA:=(Iq Ēn (Xh (qk (vG ü ßc 9 [] wy xN) (vG ÿ ßc 9 [] wy xN))))
def Jp:yQ:=(yz (uM 11 Ün)
    (yz (uM 12 ęd)
    (yz (Jv WZ
     Jo)
    (yz (jN (p7 (YH àm źl))
     ăg
     jO)
    (jN (Iq Ēn (Xh (jt xm Ün ęd)))
     ăg
     jO)))))
def Fx:yQ:=
 (yz (MF (xY (zR Qg (θ Ïb))) (Jl 1 2 3))
  (yz (Οc (ur UC Ĵo))
  (yz (uM 5 (xY (ur Qk (Ζ (zR qK (Κ Šg))))))
  (yz (uM 6 (xY (ur Qi (Ζ (zR qK (Κ Úf))))))
  (yz (uM 7 (xY (e2 xI (e2 gj Æj Ĕg) Ìb)))
  (yz (uM 8 ím)
  (yz (uM 9 ím)
  (yz (MH (ua (Ο (e2 xI ąn ĭg) (Ζ (e2 xI (e2 gj ąn ĭg) ĭg)))) (Jm 10)
   Jp)
  (yz (jN (Ω (e2 zk (e2 xI Æj Ĕg) ņ))
   (jP (tW UD (xB Şh (xB (e2 gj Æj (eC Ťk)) xN))))
   jO)
  (jP (jt zk (Φc ţg ţg) ęd)))))))))))
def Al:FM:=vZ 1 13 Fx
def z4d(a:M):Al [a]=wW 1 13 Fx [a]:=rfl
def mP(C:Str)(T fw fh:D)(e due done:Int)(Ws:Á Int)(a b c:Ì)(ps:Á ö):M:=yE C T e fw fh Õd due done
def TY{C:Str}{T fw fh:D}{e due done:Int}{Ws:Á Int}{a b c:Ì}{ps:Á ö}:uQ ñi=uG C T fw fh e due done Ws a b c ps:=by unfold mP uG;rw[kC,uE]
inductive N1(C:Str)(T:D)(e:Int)(δ:Nat->Int)(n:Nat)(fw fh:D)(Ws:Á Int)(a b c:Ì)(ps:Á ö)(i j:Nat):Prop
 |no (h:wC ŋm=À (Â,.bl Ã)) (s:wy ïi=À (ïi,.fz ñ)):N1 C T e δ n fw fh Ws a b c ps i j
 |go {Ws':Á Int} {a' b' c':Ì} {ps':Á ö} {i':Nat} (w:vg Ws') (p:wq ps') (l:âf<=ù+4) (hi:i'<=n) (h:wC ŋm=À (Â,.bl Â))
   (s:wy ïi=À ([mP C T fw fh e Ďe Õk Ws' a' b' c' ps'],.fz Ę)):N1 C T e δ n fw fh Ws a b c ps i j
structure kj(C:Str)(T:D)(e:Int)(δ:Nat->Int)(n:Nat):Prop where
 c:vM C
 nx:∀{fw fh:D}{Ws:Á Int}{a b c:Ì}{ps:Á ö} {i j:Nat},vg Ws->wq ps->ù<=800->i<=n->N1 C T e δ n fw fh Ws a b c ps i j
theorem kj.row{n:Nat}{A:Nat->Int}{T U:D}(W:WU n A T U):kj ü T n (λi=>(i:Int)) n:=⟨.row,λ{fw fh h a b c g i j} d P f e=>by
 cases Hc W (fw:=fw) (fh:=fh) (a:=a) (b:=b) (c:=c) (j:=j) d P f e with
 |no h1 h2 e1 e2=>exact .no h1 e1|go w p l hi' h1 h2 e1 e2=>exact .go w p l hi' h1 e1⟩
theorem kj.word{n:Nat}{A:Nat->Int}{T U:D}(W:WU n A T U):kj ÿ U Ďa A n:=⟨.word,λ{fw fh h a b c g i j} d P f e=>by
 cases Hc W (fw:=fw) (fh:=fh) (a:=a) (b:=b) (c:=c) (j:=j) d P f e with
 |no h1 h2 e1 e2=>exact .no h2 e2|go w p l hi' h1 h2 e1 e2=>exact .go w p l hi' h2 e2⟩
def JD{C:Str}(b:vM C){T fw fh:D}{e due done:Int}{s:M}{m:Str}(c:m ∉ jA){F:FM}{f:uW}{k:Nat}{β:yA}(h:jQ β k []=À Ïd):qk (vG ü m k [] F f) (vG ÿ m k [] F f) β=(Ęa).bind λas=>qP F łg β:=by
 have a:∀x:Str,vG x m k [] F f β=match decide Ĭb with|Ã=>(Ęa).bind λas=>qP F łg β|Â=>Ä:=λx=>by unfold vG;rw[h];show(match decide Ĭb&&!(decide (m∈jA))with|Ã=>_|Â=>_)=_;rw[ă c];cases decide Ĭb<;>rfl
 unfold qk;rw[a,a];cases b with
 |row=>show(match(Ęa).bind λas=>qP F łg β with|À d=>À d|Ä=>Ä)=_;cases(f β).bind λas=>qP F łg β<;>rfl
 |Łd=>rfl
section
variable{C:Str}(hC:vM C){T fw fh:D}{e due done due' done':Int}{Ws Ws':Á Int}{a b c a' b' c':Ì}{ps ps':Á ö}{d0 d1 d2 d3 d4 d5 d6 d7 d11:D}{s8:M}{u8 j8 m k:Int}
def z7o{f d:Æ M}(g:f=À Ðg)(h:d=À ñi):Jo [À šb,À źa,À Šb,À ßb,À şb,À Şb,À ŝb,À Ŝb,f,d,À Æa,À Đf,À Ăb]=À (.nx [À šb,À źa,À Šb,À ßb,À şb,À Şb,À ŝb,À Ŝb,f,d,À Æa,À Đf,À Ĳp]):=by subst g;subst h;have i:∀{s:M}{d0 j0:Int},Æb ōd=Ä:=rfl;unfold Jo mP;simp only[Ĥ,Ju,i]
theorem z7p(hk:¬ k<m):WZ ũf=À (Â,ũf):=by have z:decide (k<m)=Â:=ă hk;unfold WZ;simp only[Ĥ,kC,TY,z]
include hC in
theorem fB{t:Ì}(hk:k<m)(h:wy [mP C T fw fh e due done Ws a b c ps]=À ([mP C T fw fh e due' done' Ws' a' b' c' ps'],.fz Ĕe)):WZ ũf=À (t,[À šb,À źa,À Šb,À ßb,À şb,À Şb,À ŝb,À Ŝb,À Ðg,À (mP C T fw fh e due' done' Ws' a' b' c' ps'),À Æa,À Đf,À Ăb]):=by have z:decide (k<m)=Ã:=î hk;have d:=JD hC (T:=T) (e:=e) (fw:=fw) (fh:=fh) (s:=st ć a b c ē Ĭ) (due:=due) (done:=done) (m := ßc) (F:=wy) (f:=xN) (k:=9) (β:=ũf) İ rfl;unfold WZ;simp only[Ĥ,kC,TY,z,d,h]
inductive R1(C:Str)(T:D)(e:Int)(δ:Nat->Int)(n:Nat)(fw fh:D)(m:Nat)(Ws:Á Int)(a b c:Ì)(ps:Á ö)(i j:Nat):Prop
 |mk {Ws':Á Int} {a' b' c':Ì} {ps':Á ö} {i' k:Nat} (w:vg Ws') (p:wq ps') (hi:i'<=n) (hk:k<=m) (l:âf<=ù+4*k)
   (e1:wx [mP C T fw fh e (δ i) j Ws a b c ps,.fz ėc]=À (Òi,.fz ăe))
   (e2:∀{d0 d1 d2 d3 d4 d5 d6 d7 d11:D}{s8:M}{u8 j8:Int},Jv WZ Jo [À šb,À źa,À Šb,À ßb,À şb,À Şb,À ŝb,À Ŝb,À Ðg,À òi,À Æa,À Đf,À Ŧk]=À (.nx [À šb,À źa,À Šb,À ßb,À şb,À Şb,À ŝb,À Ŝb,À Ðg,À (mP C T fw fh e Ďe ((j+k:Nat):Int) Ws' a' b' c' ps'),À Æa,À Đf,À Ăb]))
   (z:k<m->wx Òi=À (Òi,.fz ę))
   (v:∃t,wC [uG C T fw fh e Ďe ((j+k:Nat):Int) Ws' a' b' c' ps']=À (Â,.bl t)):R1 C T e δ n fw fh m Ws a b c ps i j
#print a
def y6y{C:Str}{T fw fh:D}{e:Int}{δ:Nat->Int}{n m:Nat}(S:kj C T e δ n)(hm:m<=100){Ws:Á Int}{a b c:Ì}{ps:Á ö}{i j:Nat}(B:vg Ws)(P:wq ps)(hp:ù<=300)(hi:i<=n):R1 C T e δ n fw fh m Ws a b c ps i j:=by
 have O:∀(d k:Nat){Ws:Á Int}{a b c:Ì}{ps:Á ö} {i j:Nat},k+d=m->vg Ws->wq ps->ù+4*d<=800->i<=n->∃o u t v g y z,vg o/\wq g/\y<=n/\z<=d/\Ēc<=ù+4*z/\
   qC ku XE ĭe [À òi,À Æa,À Ăb]=À (.nx [À úm,À Æa,À éi])/\
   (∀{Y d1 L d3 X I Z H A:D}{K:M}{R W:Int},qC WZ Jo ĭe [À (.fz Y),À źa,À (.fz L),À ßb,À (.fz X),À (.fz I),À (.fz Z),À (.fz H),À šn,À òi,À Æa,À (.fz A),À Ăb]=À (.nx [À (.fz Y),À źa,À (.fz L),À ßb,À (.fz X),À (.fz I),À (.fz Z),À (.fz H),À šn,À úm,À Æa,À (.fz A),À éi]))/\
   (z<d->wy öm=À (öm,.fz ñ)):=by
  intro d
  induction d with
  |ų=>
   intro k Ws a b c ps i j F B P hp hi;have F:¬ (k:Int)<m:=by omega
   exact⟨Ws,a,b,c,ps,i,0,B,P,hi,Øa _,by omega,kF (IQ F),kF (z7p F),λz=>Ú z Ôa⟩
  |Ŵ d ih=>
   intro k Ws a b c ps i j F B P hp hi;have q:(k:Int)<m:=by omega
   cases S.nx (fw:=fw) (fh:=fh) (a:=a) (b:=b) (c:=c) (j:=j) B P Å hi with
   |no h s=>exact⟨Ws,a,b,c,ps,i,0,B,P,hi,Áa _,by omega,kF ŏq,kF Ňq,λ_=>s⟩|@go o u t v g y w p l r h s=>
    obtain⟨U,a2,b2,c2,J,i2,z,w2,p2,N,hz,l2,G,E,Q⟩:=ih Ņ (a:=u) (b:=t) (c:=v) (j:=j+1) Å w p Å r;refine⟨U,a2,b2,c2,J,i2,z+1,w2,p2,N,by omega,by omega,?_,?_,?_⟩
    .refine(O1 ŏq ĕh).trans ?_;rw[show j+ĭc=j+1+z by omega,show k+ĭc=k+1+z by omega];exact G
    .intros
     refine(O1 Ňq (z7o rfl rfl)).trans ?_;rw[show j+ĭc=j+1+z by omega,show k+ĭc=k+1+z by omega];exact E
    .rw[show j+ĭc=j+1+z by omega];exact λx=>Q Å
 obtain⟨o,u,t,v,g,y,z,w,p,r,hz,l,G,E,Q⟩:=O m 0 (j:=j) (a:=a) (b:=b) (c:=c) (Ő m) B P Å hi;rw[Ő]at G;simp only[Ő]at E;have f:m+1<=gU:=Ğ (Ļb hm) È;refine .mk w p r hz l (T5 f G) (λ{Y d1 L d3 X I Z H A K R W}=>fC _ E f) (λx=>T5 (n:=1) È (kF (XW S.c (show((0:Nat):Int)<m by omega) (Q x)))) ?_;cases S.nx (fw:=fw) (fh:=fh) (a:=u) (b:=t) (c:=v) (j:=j+z) w p Å r with
 |no h s=>exact⟨_,h⟩|go _ _ _ _ h s=>exact⟨_,h⟩
def lr{C:Str}{T fw fh:D}{e due done:Int}{Ws:Á Int}{a b c:Ì}{ps:Á ö}:wx čm=À (čm,.fz ę):=T5 (n:=1) È (kF (IQ È))
def lw{C:Str}(c:vM C){T fw fh:D}{e:Int}{W:Nat->Á Int}{u:Nat->Int}(h:∀k:Nat,k<1000->wy [mP C T fw fh e (u k) k (W k) Â Â Â []]=À ([mP C T fw fh e (u Ņ) Ćr (W Ņ) Â Â Â []],.fz Ę)) :wx [mP C T fw fh e (u 0) 0 (W 0) Â Â Â [],.fz űa]=À ([mP C T fw fh e (u 1000) 1000 (W 1000) Â Â Â [],.fz űa],.fz űa):=by
 have a:∀d k:Nat,k+d=1000->qC ku XE ĭe [À (mP C T fw fh e (u k) k (W k) Â Â Â []),À ťk,À Ăb]=À (.nx [À (mP C T fw fh e (u 1000) 1000 (W 1000) Â Â Â []),À ťk,À ťk]):=by
  intro d
  induction d with
  |ų=>intro k b;cases(show k=1000 from b);exact kF (IQ È)|Ŵ d ih=>intro k b;exact(O1 (XW c (show(k:Int)<1000 by omega) (h k Å)) ĕh).trans (ih Ņ Å)
 exact T5 (n:=1001) È (a 1000 0 rfl)
def z7t{I W a:D}{X:M}(b:WD [.obj ü [] [],.fz I,.fz W,.fz a]=À ([X,.fz I,.fz W,.fz a],.fz .zE)):kU þn=À (þn,X):=by have q:zk ę ę=À Ę:=rfl;rw[dh];unfold L4;simp only[Ĥ,q,b]
theorem z7u{I W a:D}{X:M}{ws:Á D}(b:WJ [I]=À (Ã,.lst ws))(c:WE [.obj ÿ [] [],.fz Ďc,.fz W,.fz a]=À ([X,.fz Ďc,.fz W,.fz a],.fz .zE)):kU ýn=À (ýn,X):=by have q:zk ûa ę=À ñ:=rfl;rw[dh];unfold L4;simp only[Ĥ,q,b,c]
inductive bE(κ:Int)(zF Î:Á D)(W0:Á Int)(md:D)(ps:Á ö):Prop
 |mk {C:Str} {T U fw fh:D} {e:Int} {δ A:Nat->Int} (S:kj C T e δ ì) (h0:δ 0=0) (hb:∀i:Nat,i<=ì->0<=δ i/\δ i<=1000) (em:kU ãm=À (ãm,mP C T fw fh e 0 0 W0 Â Â Â ps))
   (W:WU ì A Ÿp U) (k:(C = ü/\T=.dic đd ái/\e=ì/\δ=λi:Nat=>(i:Int))\/(C = ÿ/\T=U/\e=A ì/\δ=A)):bE κ zF Î W0 md ps
def Hi{Z:Á Ĕa}{Î zF:Á D}(Y:Yr Z Î zF)(e:∀r∈Î,RJ Z tF r)(n:∀q∈Z,q.2<=ì)(v:ì<=60){W0:Á Int}(c:W0.length=8)(f:∀w∈W0,0<=w/\w<4294967296){d:D}{ps:Á ö}(b:kR [d]=À (Ã,.dic ē Ĭ)){κ:Int}(o:κ=0\/κ=1):bE κ zF Î W0 d ps:=by obtain @⟨T,U,A,z,a,y,W,j,m,B,s,C,E,u,k,g⟩:=z7v Y e n v;obtain⟨t,p⟩:=x1c Lu e Y;have l:=y6v t p (by rw[ä]) Å c f b;have h:=x8b u c f b;rw[<-m]at h;subst k;rcases o with rfl|rfl;exact .mk (kj.row W) rfl (λi x=>⟨by omega,by omega⟩) (z7t l) W (.inl ⟨rfl,rfl,rfl,rfl⟩);exact .mk (fw:=.lst (wI W0)) (fh:=.dic ē Ĭ) (kj.word W) j (λi x=>⟨Ĭe.1,by have:=Ĭe.2;omega⟩) (z7u s h) W (.inr ⟨rfl,rfl,rfl,rfl⟩)
noncomputable def wR(v:Int):Á Int:=[v,3,0,0,0,0,0,0]
noncomputable def jmp:D:=.tup [.str Ÿ,.str "a"]
noncomputable def um:D:=.tup [.str ęa,.int 0,.int 1]
theorem bS{v:Int}(f:0<=v)(v1:v<=2000):pI [st Ģf Â Â Â [] [],.fz um]=À ([st (wI ſg) Â Â Â [] [],.fz um],.fz .zE):=by
 have a:Yn [.str ęa,.int v,.int 3,.bl Â]=À (Â,.tup [.int (Νb (v+3+tL Â)),.bl (decide (4294967296<=v+3+tL Â))]):=by have e:zk øc øc=À Ę:=rfl;rw[Uh];unfold Yw;simp only[Ó,e,D_]
 have o:tL Â=0:=rfl;rw[o,Ëf,Še Å Å,ă Å]at a;have:=Zp (k := ęa) (d:=.int ((0:Nat):Int)) (s:=.int ((1:Nat):Int)) rfl rfl uz rfl rfl (cW (Ws:=wR v) (d:=0) (s:=1) (b:=Â) (c:=Â) (hk:=[]) (hv:=[]) rfl rfl rfl a T0);rw[ă (show ¬ v+3=0 by omega),ă (show ¬ (v+3)/2147483648%2=1 by omega)]at this;exact this
section
variable{n:Nat}{A:Nat->Int}{T U:D}(W:WU n A T U){i:Nat}(hi:i<n)
include W hi
theorem M4(c:zM T Ĺa=À (.tup [jmp,.int Üe,.int 0])){fw fh:D}{j:Int}{Ws:Á Int}:wy [mP ü T fw fh n i j Ws Â Â Â []]=À ([mP ü T fw fh n 0 Ŝ Ws Â Â Â []],.fz Ę)/\wy [mP ÿ U fw fh Ďa íb j Ws Â Â Â []]=À ([mP ÿ U fw fh Ďa (A 0) Ŝ Ws Â Â Â []],.fz Ę):=by
 have b:(i:Int)≠n:=by omega
 have a:A i≠A n:=λe=>by have:=(ýq).mp e;omega
 obtain⟨r,q,x,y,K,d,g,f,k⟩:=W.at_ i hi;rw[c]at d;cases d;generalize hx:þ 0=x at K f;unfold jmp at K;cases K with
 |Ţa h=>obtain⟨h,_⟩:=h;cases h
 |@vo t p hp=>
  have:p=0:=by cases p with|ų=>rfl|Ŵ p=>exact Ú (D.int.inj hx) Å
  subst this;exact⟨TR .row b c rfl rfl uz Þg Ã rfl rfl,TR .word a g rfl rfl uz Þg Ã rfl rfl⟩
theorem bR{p:D}(d:zM T Ĺa=À (.tup [um,.int Üe,p])){fw fh:D}{j v:Int}(g:0<=v)(v1:v<=2000):wy [mP ü T fw fh n i j ěc Â Â Â []]=À ([mP ü T fw fh n Üe Ŝ ſg Â Â Â []],.fz Ę)/\wy [mP ÿ U fw fh Ďa íb j ěc Â Â Â []]=À ([mP ÿ U fw fh Ďa ŀf Ŝ ſg Â Â Â []],.fz Ę):=by
 have b:(i:Int)≠n:=by omega
 have a:A i≠A n:=λe=>by have:=(ýq).mp e;omega
 obtain⟨r,q,x,y,K,f,l,o,m⟩:=W.at_ i hi;rw[d]at f;cases f
 have c:∀{v:D}{k:Int},wu v=Ã->wu (.tup [um,.int k,v])=Ã:=λ{v k} h=>by show(Ã&&Ĺo)=Ã;rw[h];rfl
 unfold um at K;cases K with
 |Ţa h=>exact⟨TR .row b d rfl (c o) uz ęs Â rfl rfl,TR .word a l rfl (c m) uz ęs Â rfl rfl⟩
#print a
def E5{C:Str}(b:vM C){T fw fh sd:D}{e due done:Int}{m:Str}{F:Á D->Æ â}{τ:zu}{k:Nat}{r:D}{q:Ì}(c:m ∉ jA)(d:z6 k τ=À Œd)(h:F ëc=À (q,r)):tH (zR F (wF ü m ŝh zG)) (zR F (wF ÿ m ŝh zG)) τ=À r:=by
 have a:∀x:Str,zR F (wF x m ŝh zG) τ=match decide Ĭb with|Ã=>À r|Â=>Ä:=λx=>by
  show(wF x m ŝh zG τ).bind _=_;unfold wF;rw[d];show Ði=_;rw[ă c];cases decide Ĭb with
  |Â=>rfl|Ã=>show(ĥl).bind _=_;rw[h];rfl
 unfold tH;rw[a,a];cases b with
 |row=>rfl|Łd=>rfl
def H_:wq []:=⟨λ_ h=>Ú h Ğa,λ_ h=>Ú h Ğa,ĉj⟩
def lf{κ Đa:Int}{C:Str}(n:vM C){T fw fh rs:D}{zF:Á D}{e h:Int}{v:Int}(hv:v=1500*Øl){t:Ì}(y:zk (Β Øl) ûa=À Ĕe)(g:rs=if t then .lst Âl else .lst ťf)(hi:yd (.lst [.tup [.str ĳf,.str "a"]]) rs=À Ţk)(E:kU Ím=À (Ím,mP C T fw fh e 0 0 Ķd Â Â Â []))(L:wx [mP C T fw fh e 0 0 Ķd Â Â Â [],.fz űa]=À ([mP C T fw fh e h 1000 ěc Â Â Â [],.fz űa],.fz űa))(es:wC [uG C T fw fh e h 1000 ěc Â Â Â []]=À (Â,.bl Â)):∃r,UD Ăi=À (r,.fz Ę):=by
 have K:xm űa űa=À ñ:=rfl;have q:xm ę ę=À ñ:=rfl
 have G:zk (Ε Ģf) (.lst [.int (1500*Øl),.int 3,.int 0,.int 0,.int 0,.int 0,.int 0,.int 0])=À Ę:=by
  rw[<-hv]
  exact z2h (Ťd λd o=>by obtain⟨x,_,rfl⟩:=Ů o;rfl)
 have u:LV ñ ñ=À Ę:=rfl;have B:=λ{l j i:Æ M} {due done:Int} {Ws:Á Int}=>JD n (T:=T) (e:=e) (fw:=fw) (fh:=fh) (s:=st ć Â Â Â Ēe Đe) (due:=due) (done:=done) (m := äc) (F:=wx) (f:=UQ 1000) (k:=3) (β:=ąp) İ rfl
 have A:=λ{l j i:Æ M} {due done:Int} {Ws:Á Int}=>JD n (T:=T) (e:=e) (fw:=fw) (fh:=fh) (s:=st ć Â Â Â Ēe Đe) (due:=due) (done:=done) (m := äc) (F:=wx) (f:=xB ą xN) (k:=3) (β:=ąp) İ rfl
 have w:=λ{l j i:Æ Sl}=>E5 n (T:=T) (fw:=fw) (fh:=fh) (sd:=xZ Ģf Â Â Â Ēe Đe) (e:=e) (due:=h) (done:=1000) (m := Úc) (F:=jc) (τ:=Öi) (k:=3) İ rfl (nA n)
 have p:=λ{l j i:Æ Sl}=>E5 n (T:=T) (fw:=fw) (fh:=fh) (sd:=xZ Ģf Â Â Â Ēe Đe) (e:=e) (due:=h) (done:=1000) (m := Ąa) (F:=jb) (τ:=Öi) (k:=3) İ rfl (lR n)
 have J:=λ{l j i:Æ Sl}=>E5 n (T:=T) (fw:=fw) (fh:=fh) (sd:=xZ Ģf Â Â Â Ēe Đe) (e:=e) (due:=h) (done:=1000) (m := Çc) (F:=wC) (τ:=Öi) (k:=3) İ rfl es
 have o:∀{due done:Int}{Ws:Á Int},Æb Ŷl=Ä:=rfl;have I:[þ 0,.int 3,.int 0,.int 0,.int 0,.int 0,.int 0,.int 0]=wI Ķd:=rfl;have z:=lr (C:=C) (T:=T) (fw:=fw) (fh:=fh) (e:=e) (due:=h) (done:=1000) (Ws:=wR v) (a:=Â) (b:=Â) (c:=Â) (ps:=[]);have H:qt 1500=Ã:=by decide
 unfold um jmp at g;refine⟨Ăi,?_⟩;rw[z4k];unfold C5;cases t;simp only[Ĺb,ða]at g;subst g;simp only[Ĥ,jt,UQ,tV,y,hi,I,E,o,B,A,L,K,q,G,u,w,p,J,z,TY,H];simp only[ś]at g;subst g;simp only[Ĥ,jt,UQ,tV,y,hi,I,E,o,B,A,L,K,q,G,u,w,p,J,z,TY,H]
theorem eW{Î:Á D}(e:∀r∈Î,RJ ée tF r)(j:ì<=60):Yr ée Î Ęp:=by
 have c:∀r∈Î,xD r=Â:=λr a=>(Mi Lu (e r a)).2
 have g:rows.filter üd=Î:=įi λr a=>by rw[c r a];rfl
 refine⟨λd b=>?_,?_,by rw[ĕ];omega,λq f=>?_⟩;rcases ľ b with rfl|b;exact(HI (Z:=ée) (i:=0) (ub "a") ĵ).1;exact(Mi Lu (e d b)).1;rw[ìd,Ð È];exact g;cases ëa f
 have:∀(L:Á D),(∀r∈L,xD r=Â)->∀s:Nat×Æ Nat,(ül (XT "a") s).2=s.2:=by
  intro L
  induction L with
  |nil=>intro _ s;rfl|Ĉ d L ih=>intro h s;rw[űe,ih λr a=>h r ìe];have:=h d ĵ;unfold XT;simp only[this]
 show((Ęp).foldl (XT "a") (0,Ä)).2=_;rw[űe,this Î c];rfl
def y6w{κ Đa:Int}(J:κ=0\/κ=1):∃r,UD Ăi=À (r,.fz Ę):=by
 have H:kR [.lst []]=À (Ã,.dic Ēe Đe):=cD (ps:=[]) H_ ġc
 have n:∀v:Int,0<=v->v<=2000->vg ěc:=λv G y=>⟨rfl,λw O=>by unfold wR at O;simp only[Ůa,Ğa,Ża]at O;omega⟩
 have R:RJ ée tF jmp:=.vo (q:=("a",0)) ĵ;have I:∀{f:Á D},∀q∈[(("a" : Str),0)],q.2<=Ŀa:=λ{f} q h=>by cases ëa h;exact Áa _
 rcases(show cell%2=0\/cell%2=1 by omega)with z|z;have l:∀r∈[jmp],RJ ée tF r:=λr h=>by cases ëa h;exact R
 obtain @⟨C,T,U,fw,fh,e,δ,A,S,B,Y,F,W,o⟩:=Hi łr l I È (W0:=wR 0) rfl (ĺj).h H J;have P:zM (.dic (u5 1) (qb ťf ((ťf).map (u7 (ub "a" :: ťf))) 1)) ço=À (.tup [jmp,.int Çp,.int 0]):=rfl
 have L:∀k:Nat,wy [mP C T fw fh e Žc k Ķd Â Â Â []]=À ([mP C T fw fh e Žc Ćr Ķd Â Â Â []],.fz Ę):=λk=>by rcases o with⟨rfl,rfl,rfl,rfl⟩|⟨rfl,rfl,rfl,rfl⟩;exact ěo.1;exact ěo.2
 have x:=lw S.c (W:=λ_=>wR 0) (u:=λ_=>δ 0) λk _=>L k
 have m:wC [uG C T fw fh e Žc ((1000:Nat):Int) Ķd Â Â Â []]=À (Â,.bl Â):=by
  cases S.nx (fw:=fw) (fh:=fh) (a:=Â) (b:=Â) (c:=Â) (i:=0) (j:=1000) ĺj H_ ġc ġc with
  |no h s=>rw[L 1000]at s;cases s|go _ _ _ _ h s=>exact h
 rw[B]at x m;exact lf S.c (t:=Â) (rs:=.lst ťf) (zF:=[ub "a",jmp]) (v:=0) Įg Įg rfl rfl F x m;have l:∀r∈[um,jmp],RJ ée tF r:=λr h=>by rcases ľ h with rfl|h;exact .plain (XV (d:=0) (s:=1) ţr È È);cases ëa h;exact R
 obtain @⟨C,T,U,fw,fh,e,δ,A,S,B,Y,F,W,o⟩:=Hi łr l I È (W0:=wR 0) rfl (ĺj).h H J;have K:zM Ém ço=À (.tup [um,.int Çp,u7 (ub "a" :: Âl) um]):=rfl;have Q:zM Ém (.int ((1:Nat):Int))=À (.tup [jmp,.int (((1:Nat):Int)+1),.int 0]):=rfl
 have N:∀(j v:Int),0<=v->v<=2000->wy [mP C T fw fh e Žc j ěc Â Â Â []]=À ([mP C T fw fh e (δ 1) Ŝ ſg Â Â Â []],.fz Ę):=λj v G y=>by rcases o with⟨rfl,rfl,rfl,rfl⟩|⟨rfl,rfl,rfl,rfl⟩;exact Ĳm.1;exact Ĳm.2
 have X:∀(j v:Int),wy [mP C T fw fh e (δ 1) j ěc Â Â Â []]=À ([mP C T fw fh e Žc Ŝ ěc Â Â Â []],.fz Ę):=λj v=>by rcases o with⟨rfl,rfl,rfl,rfl⟩|⟨rfl,rfl,rfl,rfl⟩;exact Ěo.1;exact Ěo.2
 have x:=lw S.c (fw:=fw) (fh:=fh) (W:=λk=>wR (3*((Ņ/2:Nat):Int))) (u:=λk=>δ (k%2)) λk Z=>by
  have E:(∃p,k=2*p)\/∃p,k=2*p+1:=by rcases Ďn k with h|h;exact .inl ⟨k/2,by omega⟩;exact .inr ⟨k/2,by omega⟩
  rcases E with⟨p,rfl⟩|⟨p,rfl⟩;have:=N ((2*p:Nat):Int) (3*(p:Int)) Å Å;rw[show Ĩl/2=p by omega,show Ŝk/2=p+1 by omega,show 2*p%2=0 by omega,show Ĩl%2=1 by omega,show 3*((p+1:Nat):Int)=3*(p:Int)+3 by omega];exact this;have:=X ((2*p+1:Nat):Int) (3*((p+1:Nat):Int));rw[show Ŝk/2=p+1 by omega,show(2*p+1+1+1)/2=p+1 by omega,show Ĩl%2=1 by omega,show Ŝk%2=0 by omega];exact this
 have m:wC [uG C T fw fh e Žc ((1000:Nat):Int) Ĉs Â Â Â []]=À (Â,.bl Â):=by
  cases S.nx (fw:=fw) (fh:=fh) (a:=Â) (b:=Â) (c:=Â) (i:=0) (j:=1000) (n 1500 È È) H_ ġc ġc with
  |no h s=>rw[N _ 1500 È È]at s;cases s|go _ _ _ _ h s=>exact h
 have g:wx [mP C T fw fh e Žc 0 Ķd Â Â Â [],.fz űa]=À ([mP C T fw fh e Žc 1000 Ĉs Â Â Â [],.fz űa],.fz űa):=x;rw[B]at g m;exact lf S.c (t:=Ã) (rs:=.lst Âl) (zF:=[ub "a",um,jmp]) (v:=1500) Įg Įg rfl rfl F g m
def z8n{x:Str}:xm śb śb=À ñ:=fW rfl
def y6x{K:Int}(a:0<=K)(b:K<1000):gl [.int K]=À (Ζb (vB âl)):=by show(match decide (0<=K)&&decide (K<100000000000000000000)with|Ã=>_|Â=>_)=_;rw[î a,î Å];rfl
def MI{f g:yQ}{β β1:yA}(h:f β=À šk):yz f g β=g β1:=by show(Ęa).bind _=_;rw[h];rfl
def y79{τ:zu}{a:D}{K N:Int}{SS c:Str}(l:z6 8 τ=À a)(m:z6 9 τ=À a)(b:z6 10 τ=À (.int N))(e:z6 11 τ=À âl)(d:z6 12 τ=À âl)(k:gl [.int K]=À Şk)(j:qL øk=À (Â,.str c)) :YH àm źl τ=À Â:=by
 have g:eL gl äq τ=À Şk:=by unfold eL zA;rw[e];exact k
 have f:eL gl ãq τ=À Şk:=by unfold eL zA;rw[d];exact k
 have h:zR qL żn τ=À (.str c):=by unfold zR zA;rw[l,b];show(qL øk).bind _=_;rw[j];rfl
 have i:zR qL Żn τ=À (.str c):=by unfold zR zA;rw[m,b];show(qL øk).bind _=_;rw[j];rfl
 generalize eL gl äq=f1 at g ⊢;generalize eL gl ãq=f2 at f ⊢;generalize zR qL żn=f3 at h ⊢;generalize zR qL Żn=f4 at i ⊢;simp only[Ó,g,f,h,i,z8n]
theorem z7q{t:uA}{f:yQ}{β β1:yA}(h:t β=À (Â,β1)):jN t f jO β=À šk:=by show(t β).bind _=_;rw[h];rfl
def x63{t:FT}{β:yA}(h:t (t4 β)=À Â):p7 t β=À (Â,β):=by show(t (t4 β)).bind _=_;rw[h];rfl
inductive Du(d0 d1 d2 d3 d4 d5 d6 d7:D)(C:Str)(T fw fh:D)(e:Int)(δ:Nat->Int)(n u:Nat)(β:yA):Prop
 |mk (Ws:Á Int) (a b c:Ì) (qs:Á ö) (i j:Nat) (x10 x11 x12:Æ M) (w:vg Ws) (P:wq qs) (l:űr<=6+100*u) (hi:i<=n) (hj:j<=25*u)
  (q:β=[À šb,À źa,À Šb,À ßb,À şb,À Şb,À ŝb,À Ŝb,À Ŏm,À Ŏm,x10,x11,x12]):Du d0 d1 d2 d3 d4 d5 d6 d7 C T fw fh e δ n u β
section
variable{d0 d1 d2 d3 d4 d5 d6 d7:D}{C:Str}{T fw fh:D}{e:Int}{δ:Nat->Int}{n:Nat}
def y45(S:kj C T e δ n)(I:∀i:Nat,i<=n->0<=δ i/\δ i<=1000){m:Nat}(R:m<=25){Ws:Á Int}{a b c:Ì}{d:Á ö}{i j:Nat}{x11 x12:Æ M}(w:vg Ws)(P:wq d)(l:åa<=106)(hi:i<=n)(W:j<=25) :∃β,Jp [À šb,À źa,À Šb,À ßb,À şb,À Şb,À ŝb,À Ŝb,À Řm,À Řm,À Æa,x11,x12]=À ál/\∃Ws' a' b' c' qs' i' k,vg Ws'/\wq qs'/\qs'.length<=åa+100/\i'<=n/\k<=25/\β=[À šb,À źa,À Šb,À ßb,À şb,À Şb,À ŝb,À Ŝb,À Þm,À Þm,À Æa,À ïh,À ïh]:=by
 obtain @⟨Ws',a',b',c',qs',i',k,u,H,g,Q,U,e1,e2,z,⟨t,v⟩⟩:=y6y S (fw:=fw) (fh:=fh) (m:=m) Å (a:=a) (b:=b) (c:=c) (j:=j) w P Å hi;have B:=z7j S.c (Đa:=(m:Int)) H Å u.h (by rw[u.l];decide) (I i' g).1 (Δe (I i' g)) Å Å v;have o:=e2 (d0:=d0) (d1:=d1) (d2:=d2) (d3:=d3) (d4:=d4) (d5:=d5) (d6:=d6) (d7:=d7) (d11:=.int (k:Int)) (s8:=st (wI Ws') a' b' c' (kP qs') (vP qs')) (u8:=δ i') (j8:=((j+k:Nat):Int));have x:=λ{N y A:Æ M} {due done:Int} {s:M}=>JD S.c (T:=T) (e:=e) (fw:=fw) (fh:=fh) (s:=s) (due:=due) (done:=done) (m := äc) (F:=wx) (f:=xB Ýe xN) (k:=8) (β:=[À šb,À źa,À Šb,À ßb,À şb,À Şb,À ŝb,À Ŝb,À Ïd,N,À Æa,y,A]) İ rfl
 have G:=y6x (K:=(k:Int)) Å Å;have r:∀{due done:Int}{s:M},Æb Ïd=Ä:=rfl;have E:xm ę ę=À ñ:=rfl;refine⟨_,?_,Ws',a',b',c',qs',i',k,u,H,by omega,g,by omega,rfl⟩;generalize (vB Ŋe).shown=SS at G;generalize (vB (Ε (vis Ws' a' b' c' qs' Ďe ((j+k:Nat):Int) t))).shown=LL at B;unfold mP at e1 o z ⊢;unfold uG at B;unfold Jp;generalize ((j+k:Nat):Int)=J at *;refine(MI (β1:=[À šb,À źa,À Šb,À ßb,À şb,À Şb,À ŝb,À Ŝb,À Ūf,À Ôm,À Æa,À ïh,x12]) ?_).trans ?_;simp only[Ĥ,tV,r,x,e1]
 refine(MI (β1:=[À šb,À źa,À Šb,À ßb,À şb,À Şb,À ŝb,À Ŝb,À Ūf,À Ôm,À Æa,À ïh,À Ŧk]) ?_).trans ?_;simp only[Ĥ,r]
 refine(MI o).trans ?_;refine(MI (β1:=ţl) ?_).trans ?_;refine z7q (x63 ?_)
 have O:t4 ţl=[À (Â,d0),À (Â,d1),À (Â,d2),À (Â,d3),À (Â,d4),À (Â,d5),À (Â,d6),À (Â,d7),À (Â,xG C T e fw fh İm Ďe J),À (Â,xG C T e fw fh İm Ďe J),À (Â,.int m),À (Â,.int (k:Int)),À (Â,.int (k:Int))]:=by unfold t4;simp only[ř,Éf,åj,kC,uE];rfl
 rw[O];exact y79 rfl rfl rfl rfl rfl G B
 by_cases q:k<m;have p:decide Æp=Ã:=î Å;have L:=z q;generalize (k:Int)=K at r x p L E ⊢;simp only[Ĥ,jt,tV,r,x,kC,uE,p,L,E];have p:decide Æp=Â:=ă Å;generalize (k:Int)=K at p ⊢;simp only[Ĥ,kC,uE,p]
theorem z7n(S:kj C T e δ n)(H:∀i:Nat,i<=n->0<=δ i/\δ i<=1000)(B:δ 0=0){h m2:Nat}(I:h<=25)(r:m2<=25){Ws:Á Int}{ps:Á ö}(w:vg Ws)(P:wq ps)(l:ù<=6) :∃β',jM (Jm 10) Jp ðn şl=À Įs/\Du d0 d1 d2 d3 d4 d5 d6 d7 C T fw fh e δ n 2 β':=by
 exact f8 (g:=Jm 10) (b:=Jp) (Du d0 d1 d2 d3 d4 d5 d6 d7 C T fw fh e δ n) (ds:=ðn) (β:=şl) 0 ⟨Ws,Â,Â,Â,ps,0,0,Ä,Ä,Ä,w,P,by omega,Áa _,Øa _,by rw[B];rfl⟩ λu d β f A=>by
  obtain⟨Ws,a,b,c,O,i,j,F,x11,x12,w,Q,l,E,G,rfl⟩:=A;rw[Ő]at l G ⊢
  obtain⟨m,rfl,v,N⟩:∃m:Nat,d=.int (m:Int)/\m<=25/\u<2:=by
   match u,f with
   |0,f=>cases f;exact⟨h,rfl,I,by decide⟩|1,f=>cases f;exact⟨m2,rfl,r,by decide⟩
  obtain⟨β1,e1,o,y,t,J,q,z,k,s,x,L,p,K,rfl⟩:=y45 (d0:=d0) (d1:=d1) (d2:=d2) (d3:=d3) (d4:=d4) (d5:=d5) (d6:=d6) (d7:=d7) (fw:=fw) (fh:=fh) S H v (a:=a) (b:=b) (c:=c) (j:=j) (x11:=x11) (x12:=x12) w Q Å E Å;exact⟨_,_,rfl,e1,o,y,t,J,q,z,j+k,_,_,_,s,x,by omega,p,by omega,rfl⟩
#print a
def y6z:∀ns:Á Int,Ùa<=63->(∀m∈ns,tG m<=1048576)->∃r,Al Ňi=À (r,.fz Ę):=λns hl hb=>by
 obtain⟨W0,e1,l0,w0⟩:=x8f (pO ns 0);obtain⟨ps,e2,P,lp⟩:=y43 (pO ns 1);have c0:=Wa ns (k:=0) È;have c1:=Wa ns (k:=1) È;have c2:=Wa ns (k:=2) È;have c3:=Wa ns (k:=3) È;obtain⟨n,B,G,E,o,z,u,Î,n1',n12,L,h0,h1,h2,I,hr,y⟩:=z2a ns
 have hZ:∀q∈[(B,o),(G,z),(E,u)],q.2<=ì:=λq t=>by rcases ľ t with rfl|t;show o<=_;omega;rcases ľ t with rfl|t;show z<=_;omega;cases ëa t;show u<=_;omega
 obtain⟨zF,ei,Y⟩:=z67 (Z:=[(B,o),(G,z),(E,u)]) (Î:=Î) (by show[B,G,E].Nodup;simp[L.a,L.b,L.c]) (Øa 3) hZ (λr hm=>Mi Lu (hr r hm)) Å
 generalize hNS:Ōa þ=NS at *;generalize hC2:pO ns 2=C2 at *;generalize hC3:pO ns 3=C3 at *;obtain⟨κ,eκ,hκ⟩:∃κ:Int,C3/9%2=κ/\(κ=0\/κ=1):=⟨_,rfl,by omega⟩;obtain⟨O,h,N⟩:∃O:Nat,C2%26=(O:Int)/\O<=25:=⟨(C2%26).toNat,by omega,by omega⟩;obtain⟨m2,v,K⟩:∃m2:Nat,C2/26%26=(m2:Int)/\m2<=25:=⟨(C2/26%26).toNat,by omega,by omega⟩;obtain @⟨C,T,U,fw,fh,e,δ,A,S,z0,X,em,W,kk⟩:=Hi Y hr hZ Å l0 w0 (cD P Å) hκ;obtain⟨rr,er⟩:=y6w (Đa:=C3/18) hκ;generalize hNM:ţf [.str B,.str G,.str E]=NM at *;have p:UC [.lst Î,.lst (wI ěn),NM]=À (Ã,.lst zF):=by rw[<-hNM];exact ei
 generalize hPL:wI ěn=PL at *;obtain⟨β',e3,Ws,a,b,c,H,i,j,x10,x11,x12,w,Q,l,hi,hj,rfl⟩:=z7n (d0:=.lst NS) (d1:=.lst Î) (d2:=.lst PL) (d3:=NM) (d4:=.lst zF) (d5:=.lst (wI W0)) (d6:=.lst ža) (d7:=.int κ) (fw:=fw) (fh:=fh) S X z0 N K ⟨l0,w0⟩ P lp;have x:gj (.int C2) (.int 26)=À (Β (C2/26)):=rfl;have g:gj Ĳs (.int 9)=À (Β (C3/9)):=rfl;have d:gj Ĳs Ťk=À (Β (C3/18)):=rfl;have hd:∀{due done:Int}{Ws:Á Int}{a b c:Ì}{ps:Á ö},Æb ñi=Ä:=rfl;have r0:=lr (C:=C) (T:=T) (fw:=fw) (fh:=fh) (e:=e) (due:=δ i) (done:=(j:Int)) (Ws:=Ws) (a:=a) (b:=b) (c:=c) (ps:=H);have c8:=λ{x0 x1 x2 x3 x4 x5 x6 x7:Æ M} {Ō:yA}=>JD S.c (T:=T) (e:=e) (fw:=fw) (fh:=fh) (s:=st ć a b c (kP H) (vP H)) (due:=δ i) (done:=(j:Int)) (m := äc) (F:=wx) (f:=xB ą xN) (k:=8) (β:=x0::x1::x2::x3::x4::x5::x6::x7::À (mP C T fw fh e (δ i) j Ws a b c H)::Ō) İ rfl
 have J:zk ę ę=À Ę:=rfl;refine⟨[.fz (.lst NS)],?_⟩;rw[z4d];unfold Fx;by_cases q:C3%9=1;have R:zk Ġq ûa=À Ę:=by rw[q];rfl
 simp only[Ĥ,MF,tV,Jl,jt,y,c0,c1,c2,c3,x,g,d,eκ,h,v,p,e1,e2,em,hd,e3,TY,R,er];have R:zk Ġq ûa=À ñ:=by rw[ħc,ă q]
 simp only[Ĥ,MF,tV,Jl,jt,y,c0,c1,c2,c3,x,g,d,eκ,h,v,p,e1,e2,em,hd,e3,TY,R,c8,r0,J]
#print L3
local macro_rules
 | `(tactic| ac_rfl)=>`(tactic| exact⟨rfl,rfl,rfl,by decide +kernel,rfl,by decide +kernel,by decide +kernel⟩)
namespace My
open Ħ L2 L3
set_option maxHeartbeats 4000000
noncomputable def top(i:Nat):Õ:=PySem.Challenge.pw_markrun_k41_runs.main.body.getD i Èo
section
variable{P:å}{w:ß}{K:Í}{mg:Str->Æ Value}{Ç:Heap}{Vu:É}{W9:É}{Vx:É}{Vw:É}{Vy:É}{Vz:É}{YZ:É}{Yb:É}{Ya:É}{Vv:É}
abbrev HT:=å->ß->Í->Þj->Heap->Prop
section
variable{h:Heap}(X:Ŕ h)(G:ťa ė mg)
abbrev NY:Õ:=top 10
def y88:zj Ķk Ķk (zU NY):=by ac_rfl
variable(ZU:mg îd=Ä)(Rr:mg Àd=Ä)(Rq:mg ńf=Ä)
def DW:=HD Ųj Ķk 1 kT
def y23(a:zQ K Ųj NY):DW P w K mg Ç:=(ł).oS P w Ç 0 kT y88 yN λb=>(Ψ (μa (tO (Ie .bool rfl rfl ZU Rq z0d ĺa)) (TV (Μa (Ie .int rfl rfl ZU Rr z0e ĺa)))) ĩq (IZ (uc Hr tK Ňb ĺa ě) (VC (uc ZF tK ĺa (zN Åj) ě))))
abbrev Ku:Õ:=top 11
def m5:zj [ĕe,Íe,Ċa,"total"] Ñq (zU Ku):=by ac_rfl
variable(Ue:wp mg "BEYOND" œd)(T4:∀H,zZ K H œd œd)
def DL:=HD ìl Ñq 1 U1
def y13(a:zQ K ìl Ku):DL P w K mg Ç:=(Ŏb).oS P w Ç 0 U1 m5 yN λb=>(zc (yX (i:=3) m5.nd rfl Ü (zY xR xP ŀo Đo)) (οa (zY xS xQ ŝa Ĕj) (Γ (uc IB tK (zN ŝa) (zN Ĕj) Śh))))
abbrev PB:Õ:=top 12
def mI:zj [ĕe,Íe,"borrow",Àb] Õo (zU PB):=by ac_rfl
def Dj:=HD él Õo 1 UG
def y37(a:zQ K él PB):Dj P w K mg Ç:=(Ŏb).oS P w Ç 0 UG mI yN λb=>(zc (yX (i:=3) mI.nd rfl Ü (zY XQ XO (zY XQ XO õ ı) Đo)) (Ψ (yP ZF tK úe Ňb ě) (οa (zY xR xP ŝa Ĕj) âe) (wH (zB ŝa âe) Ĵq)))
abbrev N_:Õ:=top 15
def y8i:zj îj îj (zU N_):=by ac_rfl
def Dg:=HD Īl îj 1 wz
def y2v(a:zQ K Īl N_):Dg P w K mg Ç:=(Ŏb).oS P w Ç 0 wz y8i yN λb=>(Δ (zY Hq Ux Ło Àn))
abbrev Nt:Õ:=top 13
def Pc:zj [ŷ,ël,"moved","fallen"] Ľg (zU Nt):=by ac_rfl
variable(jx:wp mg ţq ďf)(gC:∀H,zZ K H ďf ďf)(qT:Dg P w K mg Ç)
def aV:=HD Ńj Ľg 2 Yj
def y2o(a:zQ K Ńj Nt):aV P w K mg Ç:=(ł).oS P w Ç 1 Yj Pc yN λb=>(zc (yX (i:=2) Pc.nd rfl Ü (zY Y7 Y6 õ ı)) (zc (yX (i:=3) Pc.nd rfl Ü (Οd (Τ (zB ëg üc)))) (οa (Λb (Τ (zB zH ós))) ôs)))
abbrev Nu:Õ:=top 14
def mE:zj [ŷ,ël,"fallen"] Ľg (zU Nu):=by ac_rfl
def aW:=HD Ġj Ľg 2 Yk
def y2p(a:zQ K Ġj Nu):aW P w K mg Ç:=(ł).oS P w Ç 1 Yk mE yN λb=>(zc (yX (i:=2) mE.nd rfl Ü (Οd (Φ (zB (zY XQ XO ı zH) üc)))) (Δ (wH (zB Ło Ńb) Ĵq)))
abbrev PM:Õ:=top 16
def mM:zj [ŷ,ųh,Àe,ōa,"there"] úo (zU PM):=by ac_rfl
def Dl:=HD ůj úo 1 Zj
def y3d(a:zQ K ůj PM):Dl P w K mg Ç:=(ąk).oS P w Ç 0 Zj mM y72 λb=>(zc (yX (i:=4) mM.nd rfl Ü (zY Y7 Y6 Àn ı)) (Δ (zY hX Ux (zY Hq Ux õ (Ms x65 x64 ċa)) (zY Y7 Y6 ŝa ı))))
abbrev P6:Õ:=top 17
def mG:zj ūo Öh (zU P6):=by ac_rfl
def Di:=HD Ūk Öh 1 Ym
def y32(a:zQ K Ūk P6):Di P w K mg Ç:=(ł).oS P w Ç 0 Ym mG yN λb=>(zc (yX (i:=2) mG.nd rfl Ü Åj) (Δ (qZ (yP ZF tK ľi ċc ě) õ (zY XQ XO õ Ŋ))))
abbrev PF:Õ:=top 18
def mL:zj ūo Öh (zU PF):=by ac_rfl
def Dk:=HD Ök Öh 1 UH
def y3a(a:zQ K Ök PF):Dk P w K mg Ç:=(ł).oS P w Ç 0 UH mL yN λb=>(zc (yX (i:=2) mL.nd rfl Ü Åj) (zc (Κa (μa (yP ZF tK ľi (zN (Ms RH RG Ŋ)) ě) (TV (yP IB tK ľi ċc ě)))) (Δ (qZ (yP IB tK ĺa Ňb ě) õ (zY xR xP õ Ŋ)))))
abbrev N0:Õ:=top 19
def y7o:zj [ŷ] [ŷ] (zU N0):=by ac_rfl
variable(YK:mg Ŧ=Ä)(JR:wp mg Ŧq íh)(IH:∀H,zZ K H Ui íh)
def Ar:=HD ßk [ŷ] 2 U5
def y1b(a:zQ K ßk N0):Ar P w K mg Ç:=(ŕ).oS P w Ç 1 U5 y7o yN λd=>(Δ (ηb (yV (uC rfl (vS (own:=[ųh]) rfl) (tN šp) (Γa (wT ["word"] [ųh])) Ņc (Ι (zi qT d rfl (Φ (zB ı üc))))))))
abbrev PQ:Õ:=top 20
def y8p:zj Ãl Ãl (zU PQ):=by ac_rfl
variable(Rt:mg "sum"=Ä)(YL:mg ńa=Ä)
def Dm:=HD Ęk Ãl 1 Qq
def y3g(a:zQ K Ęk PQ):Dm P w K mg Ç:=(ŕ).oS P w Ç 0 Qq y8p yN λd=>(Δ (t_ (z14 rfl) y33 rfl Rt z0j (Αc (uC rfl (vS (own:=["byte",ųh]) rfl) (Mu rfl YL õ šp) (Μc (λC s H c b=>(Ρa (Νa ôn) (η (Ρb ôn))))) Ņc (Ι (zY Y7 Y6 ı če))))))
abbrev NV:Õ:=top 31
def y85:zj ŭc ŭc (zU NV):=by ac_rfl
def DT:=HD Ýk ŭc 1 U8
def y20(a:zQ K Ýk NV):DT P w K mg Ç:=(ŕ).oS P w Ç 0 U8 y85 yN λb=>(Δ (ωd (zN ľc)))
abbrev NU:Õ:=top 32
def y84:zj ŭc ŭc (zU NU):=by ac_rfl
variable(ET:wp mg "JUMPS" ìh)(KC:∀H,zZ K H Li ìh)
def DS:=HD ğk ŭc 1 Qc
def y1z(a:zQ K ğk NU):DS P w K mg Ç:=(ŕ).oS P w Ç 0 Qc y84 yN λb=>(Δ (uc Ĕh W_ (zN ľc) (zN (vk ET KC rfl)) (by with_unfolding_all rfl)))
abbrev P5:Õ:=top 33
def y8l:zj [š] [š] (zU P5):=by ac_rfl
variable(JZ:DT P w K mg Ç)
def af:=HD ěk [š] 2 qi
def y31(a:zQ K ěk P5):af P w K mg Ç:=(ŕ).oS P w Ç 1 qi y8l yN λd=>(Ρ (uC rfl (vS (own:=ŭc) rfl) ģh (Γa (wT [š] ŭc)) (ζa (Μa (zi JZ d rfl ċb))) ľo))
abbrev Nc:Õ:=top 34
def IU:zj [š,"places",ĕb,"item"] [š] (zU Nc):=by ac_rfl
def aL:=HD Āj [š] 2 UB
def y27(a:zQ K Āj Nc):aL P w K mg Ç:=(ŕ).oS P w Ç 1 UB IU yN λb=>(zc (kB (i:=1) Æi rfl Ü Ih) (zc (yX (i:=2) Æi rfl Ü zH) (υ ģh (Βa (yp (i:=3) Æi rfl Ü)) (zb (xf (tO (zi JZ b rfl Čd)) (zb (ZO Øc łf ůd Ŋ)) (zb (mz (i:=2) Lz MP Æi rfl Ü zH)))) Ŗf)))
abbrev PC:Õ:=top 35
def mK:zj ŋp [š] (zU PC):=by ac_rfl
variable(GB:aL P w K mg Ç)(Zy:af P w K mg Ç)(E_:DS P w K mg Ç)
def am:=HD łj [š] 3 jd
def y38(a:zQ K łj PC):am P w K mg Ç:=(ŕ).oS P w Ç 2 jd mK yN λb=>(zc (yX (i:=1) mK.nd rfl ćb (zi GB b rfl Żb)) (Ρ (uC rfl (vS (own:=[Ĭa]) rfl) (tN Ãj) (Χa (Ρb (wT ŋp [Ĭa]))) ńc (Μ (qZ (tO (zi E_ b rfl Ńb)) (zg Ť zf ı (zg Ť zf Ŋ (Ms RH RG zH))) ve)))))
abbrev NR:Õ:=top 41
def y82:zj [Đc] [Đc] (zU NR):=by ac_rfl
variable(JP:wp mg Ĺp Ļa)(IF:∀H,zZ K H Ļa Ļa)(Wn:DW P w K mg Ç)
def aJ:=HD ńj [Đc] 2 Qb
def y1x(a:zQ K ńj NR):aJ P w K mg Ç:=(ŕ).oS P w Ç 1 Qb y82 yN λb=>(Δ (zi Wn b rfl (Φ Ùo)))
abbrev NZ:Õ:=top 40
def y89:zj [Đc] [Đc] (zU NZ):=by ac_rfl
variable(vm:mg "len"=Ä)(JQ:wp mg ŧq ĉa)(IG:∀H,zZ K H ĉa ĉa)(Ey:aJ P w K mg Ç)
def aK:=HD ĝk [Đc] 3 Qe
def y24(a:zQ K ĝk NZ):aK P w K mg Ç:=(ŕ).oS P w Ç 2 Qe y89 yN λb=>(Ψ (μa (Μa (Ie .tuple rfl rfl ZU YK LF ĺa)) (TV (yP Ŏc qw Äe Ňb ě))) ĩq (IZ (zi Ey b rfl õs) (VC (zi Wn b rfl (zB ľc Øo)))))
abbrev K_:Õ:=top 39
def PZ:zj [ŏa,ïa,"pair"] [ŏa] (zU K_):=by ac_rfl
variable(pp:mg Ġ=Ä)(G8:aK P w K mg Ç)
def Aq:=HD ņj [ŏa] 4 kR
def y1a(a:zQ K ņj K_):Aq P w K mg Ç:=(ŕ).oS P w Ç 3 kR PZ yN λb=>(zc (kB (i:=1) PZ.nd rfl Ü Ih) (Ωa Šn (zb Ŗf) (xf ĭm VG wd) (υ ģh (Βa (yp (i:=2) PZ.nd rfl Ü)) (zc (Κa (Μa (zi G8 b rfl Ńb))) (zc (Κa (yP Ĕh W_ (zN äd) (y7a 1) ĵc)) (zb (ZO Øc łf äd äd)))) Ŗf)))
abbrev Nz:Õ:=top 42
def y8h:zj [ïa] [ïa] (zU Nz):=by ac_rfl
variable(O6:mg Èc=Ä)
def Df:=HD Ûk [ïa] 1 Ql
def y2u(a:zQ K Ûk Nz):Df P w K mg Ç:=(ŕ).oS P w Ç 0 Ql y8h yN λb=>(Ρ (uC rfl (vS (own:=[ũa]) rfl) (tN (yV (y99 rfl rfl O6 Żb))) (Χa (Νa (wT [ïa] [Ŧr]))) (Μ (YG (χd (zN Ãg)))) (Μ (wH (Αa ńk) îc))))
abbrev Kz:Õ:=top 43
def y7n:zj èe èe (zU Kz):=by ac_rfl
def DN:=HD Ģk èe 1 U4
def y19(a:zQ K Ģk Kz):DN P w K mg Ç:=(ł).oS P w Ç 0 U4 y7n yN λb=>(Δ (y8s Øc õ ı zH ⟨rfl,rfl,rfl,rfl⟩))
abbrev Kw:Õ:=top 44
def y7l:zj ĺk ĺk (zU Kw):=by ac_rfl
def Ao:=HD Ňj ĺk 2 U2
def y15(a:zQ K Ňj Kw):Ao P w K mg Ç:=(ł).oS P w Ç 1 U2 y7l yN λb=>(Δ (Λb (zB ŀo (zB zH Ùo))))
abbrev NP:Õ:=top 45
def y81:zj [ũa] [ũa] (zU NP):=by ac_rfl
variable(uf:mg Ùc=Ä)(JS:Ao P w K mg Ç)
def aH:=HD ųj [ũa] 3 WG
def y1u(a:zQ K ųj NP):aH P w K mg Ç:=(ŕ).oS P w Ç 2 WG y81 yN λd=>(zb (jV (uC rfl ōe Že (ιa (λC s H c b=>(Νa (wT [ũa] [ōa])))) Ņc (Ι (zi JS d rfl ķc)))))
abbrev PN:Õ:=top 46
def y8o:zj èe èe (zU PN):=by ac_rfl
variable(GX:Dm P w K mg Ç)(JY:aH P w K mg Ç)(JT:DN P w K mg Ç)
def av:=HD ęk èe 4 Qo
def y3e(a:zQ K ęk PN):av P w K mg Ç:=(ł).oS P w Ç 3 Qo y8o yN λb=>(Δ (zi GX b rfl (ζ (yV (uC rfl (vS (own:=[ĕe]) rfl) (tN şn) (Χa (Ρb (wT [ïa,Ŧr] [ĕe]))) ńc (Μ (zi JT b rfl (zB õ Ńb))))))))
abbrev P1:Õ:=top 47
def y8k:zj Áf Áf (zU P1):=by ac_rfl
def ab:HT:=λP w K mg Ç=>vL P w K mg Ç Úk Áf 2 (yq K UF)
def y2x(a:zQ K Úk P1):ab P w K mg Ç:=(Ŏb).oM P w Ç 1 UF y8k vq λb=>(xo (Jx Øc ů ı (xv (Λb (Τ (zB zH Øo))))))
abbrev P3:Õ:=top 48
def Pe:zj [ïa,ũa,ŷ,ĕe,"byte"] Áf (zU P3):=by ac_rfl
variable(Jc:ab P w K mg Ç)(Ek:Ar P w K mg Ç)
def ac:HT:=λP w K mg Ç=>vL P w K mg Ç Ùk Áf 4 (yq K Qm)
def y2y(a:zQ K Ùk P3):ac P w K mg Ç:=(Ŏb).oM P w Ç 3 Qm Pe vq λb=>(xo (fP İb rfl (Mu rfl YL şn (zi Ek b rfl Ńb)) (z87 (Ρa (yp (i:=3) Pe.nd rfl Ü) (η (yp (i:=4) Pe.nd rfl Ü))) rfl rfl È È) (ηa (g_ Jc b rfl (g6 ů (xO Ŷ (xO ċa vh)))))))
abbrev Ks:Õ:=jL (top 50) 0
def y7j:zj Âf Âf (zU Ks):=by ac_rfl
variable(Xl:mg Ż=Ä)(Z1:wp mg "MARKS" ëh)(ZJ:∀H,zZ K H gs ëh)(wM:vR K [Ŀ] Š)(qO:vR K [Ŀ] łb)(jC:vR K [Ŀ] ïa)
def y0z{f:É}{a:ķ}(d:wn K Öb Êp Ks f a):xH P w K mg Ç xC 1 f a Âf ąs:=Ņd P w mg Ç 0 U0 y7j vq λe=>(xK (k5 ů wM (HQ (Pj rfl pp ċb))) (xK (k5 ů qO (HQ (Θd (uC rfl žn (tN Ĭg) (ιa (Ι (μc (wT ["self","words",ïa] [ěb])))) Ņc (Δc (zB Ŷ âe)))))) (xo (k5 ů jC (HQ (y95 rfl Xl LC Ńb))))))
abbrev NC:Õ:=top 51
def y7v:zj ň ň (zU NC):=by ac_rfl
def DP:HT:=λP w K mg Ç=>vL P w K mg Ç òh ň 1 (yq K QX)
def y1l(a:zQ K òh NC):DP P w K mg Ç:=(ł).oM P w Ç 0 QX y7v vq λb=>(χ (xv Ĳa))
abbrev N7:Õ:=top 52
def y7r:zj ň ň (zU N7):=by ac_rfl
variable(Jh:Dl P w K mg Ç)
def Aw:HT:=λP w K mg Ç=>vL P w K mg Ç Èh ň 2 (yq K QU)
def y1g(a:zQ K Èh N7):Aw P w K mg Ç:=(ł).oM P w Ç 1 QU y7r vq λb=>(χ (ZB (zi Jh b rfl (zB Ôd (zB zH (zB zH ĵg))))))
abbrev N6:Õ:=top 53
def y7q:zj ň ň (zU N6):=by ac_rfl
def DO:HT:=λP w K mg Ç=>vL P w K mg Ç Éh ň 1 (yq K QT)
def y1f(a:zQ K Éh N6):DO P w K mg Ç:=(ł).oM P w Ç 0 QT y7q vq λb=>(χ (ZB Ôd))
abbrev P7:Õ:=top 55
def y8m:zj ši ši (zU P7):=by ac_rfl
variable(Lm:DL P w K mg Ç)(GU:Dj P w K mg Ç)
def ah:=HD ũk ši 2 Yn
def y34(a:zQ K ũk P7):ah P w K mg Ç:=(ąk).oS P w Ç 1 Yn y8m yN λb=>(Βe (Ψd (Τ âe)) (Ψd (Τ ôs)) (zi GU b rfl (Αa (zB Ŋ (Γ (IZ ŝa (VC (uc þj xw ĺa ćd Śh))))))))
abbrev Nr:Õ:=top 56
def y8f:zj ĸk ĸk (zU Nr):=by ac_rfl
def aU:HT:=λP w K mg Ç=>vL P w K mg Ç Ĝk ĸk 2 (yq K WH)
def y2n(a:zQ K Ĝk Nr):aU P w K mg Ç:=(ł).oM P w Ç 1 WH y8f vq λb=>(xK (Θb (xv (uc ūf xw Üb Ňb ě))) (xo (Θb (xv (γc (Αa (zB (zY XQ XO ëg zH) üc)))))))
abbrev NG:Õ:=top 54
def m9:zj [Ŷa,Ĭa,ĩd] ň (zU NG):=by ac_rfl
variable(Wo:aU P w K mg Ç)(GR:ah P w K mg Ç)
def aC:HT:=λP w K mg Ç=>vL P w K mg Ç Ũc ň 3 (yq K gW)
def y1o(a:zQ K Ũc NG):aC P w K mg Ç:=(ł).oM P w Ç 2 gW m9 vq λb=>(xK (ux (i:=2) m9.nd rfl Ü È (ZB (zi GR b rfl (Ζe (zB Ôd (Γ (zg Ť zf (vC õ qO) yS))))))) (xK (Θb (xv äd)) (xK (θb (xO äd vh)) (xo (ν (yP Ŏc qw (zN Ĳa) ćd ě) (XJ Ým Ĳa (xv äd)))))))
abbrev Na:Õ:=top 58
def y8a:zj íj íj (zU Na):=by ac_rfl
def DX:=HD Ŭk íj 1 U9
def y25(a:zQ K Ŭk Na):DX P w K mg Ç:=(Ŏb).oS P w Ç 0 U9 y8a yN λb=>(Βe (Δ (zY Hq Ux ı Ŋ)) (Δ (zY hX Ux ı Ŋ)) (zY y40 Ux ı Ŋ))
abbrev N5:Õ:=top 57
def m8:zj [Ŷa,Ĭa,ŷ] ň (zU N5):=by ac_rfl
variable(G9:DX P w K mg Ç)
def Av:HT:=λP w K mg Ç=>vL P w K mg Ç æe ň 3 (yq K Yg)
def y1e(a:zQ K æe N5):Av P w K mg Ç:=(ł).oM P w Ç 2 Yg m8 vq λb=>(xK (ux (i:=2) m8.nd rfl Ü È (ZB (zi G9 b rfl (Ζe (Γ Ôd))))) (xK (θb (xO Ŋ vh)) (χ Æl)))
abbrev NA:Õ:=top 59
def Pa:zj [Ŷa,Ĭa,ŷ,ĩd] ň (zU NA):=by ac_rfl
variable(GL:aV P w K mg Ç)(GM:aW P w K mg Ç)
def Az:HT:=λP w K mg Ç=>vL P w K mg Ç ïf ň 3 (yq K Yh)
def y1j(a:zQ K ïf NA):Az P w K mg Ç:=(ł).oM P w Ç 2 Yh Pa vq λb=>(xK (ux (i:=2) Pa.nd rfl Ü È (ZB Ôd)) (xK (ux (i:=3) Pa.nd rfl Ü È (xv (qZ Ļi (zi GL b rfl ãs) (zi GM b rfl ãs)))) (xK (ν (yP MR MQ (zN ůd) Ęc ě) (Θb (xv ůd))) (xK (θb (xO ůd vh)) (χ (xv ůd))))))
abbrev Kv:Õ:=top 60
def y7k:zj ň ň (zU Kv):=by ac_rfl
def An:=HD ňj ň 3 Yf
def y14(a:zQ K ňj Kv):An P w K mg Ç:=(ł).oS P w Ç 2 Yf y7k yN λb=>(Δ (zi JS b rfl (zB (zg Ť zf (vC õ wM) Ĳa) ĵg)))
abbrev N8:Õ:=top 61
def y7s:zj ň ň (zU N8):=by ac_rfl
variable(Zw:An P w K mg Ç)
def Ax:HT:=λP w K mg Ç=>vL P w K mg Ç Çh ň 4 (yq K QV)
def y1h(a:zQ K Çh N8):Ax P w K mg Ç:=(ł).oM P w Ç 3 QV y7s vq λb=>(χ (ZB (zi JT b rfl įm)))
abbrev N9:Õ:=top 62
def y7t:zj ň ň (zU N9):=by ac_rfl
variable(GV:av P w K mg Ç)
def Ay:HT:=λP w K mg Ç=>vL P w K mg Ç Űg ň 5 (yq K QW)
def y1i(a:zQ K Űg N9):Ay P w K mg Ç:=(ł).oM P w Ç 4 QW y7t vq λb=>(χ (ZB (zi GV b rfl įm)))
abbrev ND:Õ:=top 63
def y7w:zj ň ň (zU ND):=by ac_rfl
def aA:HT:=λP w K mg Ç=>vL P w K mg Ç ůg ň 4 (yq K QY)
def y1m(a:zQ K ůg ND):aA P w K mg Ç:=(ł).oM P w Ç 3 QY y7w vq λb=>(ηa (g_ Jc b rfl ïm))
abbrev NE:Õ:=top 64
def y7x:zj ň ň (zU NE):=by ac_rfl
variable(GP:ac P w K mg Ç)
def aB:HT:=λP w K mg Ç=>vL P w K mg Ç ŗg ň 5 (yq K QZ)
def y1n(a:zQ K ŗg NE):aB P w K mg Ç:=(ł).oM P w Ç 4 QZ y7x vq λb=>(ηa (g_ GP b rfl ïm))
abbrev NB:Õ:=top 66
def y7u:zj ň ň (zU NB):=by ac_rfl
variable(Le:wp mg "DEEDS" Ĭs)(LK:Yo K w mg Vv ql cV)(Er:DP P w K mg Ç)(Em:Aw P w K mg Ç)(El:DO P w K mg Ç)(Wm:aC P w K mg Ç)(JW:Av P w K mg Ç)(Ln:Az P w K mg Ç)(En:Ax P w K mg Ç)(Eo:Ay P w K mg Ç)(Es:aA P w K mg Ç)(Et:aB P w K mg Ç)
def A_:HT:=λP w K mg Ç=>vL P w K mg Ç Ůk ň 6 (yq K pI)
def y1k(a:zQ K Ůk NB):A_ P w K mg Ç:=(ł).oM P w Ç 5 pI y7u vq λb=>(xo (ν (x02 Le LK rfl Ĳa) (k4 (z83 Le LK rfl (Īa Er È (Īa Em È (Īa El È (Īa Wm È (Īa Wm È (Īa Wm È (Īa Wm È (Īa Wm È (Īa JW È (Īa JW È (Īa JW È (Īa Ln È (Īa Ln È (Īa En È (Īa Eo È (Īa Es È (Īa Et È vp.nil))))))))))))))))) b Ĳa (g6 ů (xO ı vh))))))
abbrev Nq:Õ:=top 67
def y8e:zj ň ň (zU Nq):=by ac_rfl
def De:=HD êl ň 1 j4
def y2l(a:zQ K êl Nq):De P w K mg Ç:=(ł).oS P w Ç 0 j4 y8e yN λb=>(zc (xf Ļi (Δ Ąn) wd) (Ψ Ļi (Δ (y8v Ąn)) (ωd (zN Ĳa))))
abbrev P0:Õ:=top 76
def y8j:zj ķk ķk (zU P0):=by ac_rfl
variable(EX:wp mg öp Īs)(KG:tU K w Vy Ec Eg)(EW:wp mg Ċq ę)(KF:∀H,zZ K H ę ę)(jJ:wp mg "PLACES" ĩs)(jR:tU K w Vz uv uw)
def Dh:=HD áj ķk 1 vz
def y2w(a:zQ K áj P0):Dh P w K mg Ç:=(ł).oS P w Ç 0 vz y8j yN λb=>(Ψ (Χ Üb ćd) (οa (vk EW KF rfl) (Γ (pZ EX KG rfl õ))) (pZ jJ jR rfl ı))
abbrev Ny:Õ:=top 77
def y8g:zj Ĺk Ĺk (zU Ny):=by ac_rfl
def aZ:=HD Űj Ĺk 2 kW
def y2t(a:zQ K Űj Ny):aZ P w K mg Ç:=(ł).oS P w Ç 1 kW y8g yN λb=>(Δ (Λb (zB õ (zB Ĳa ĵg))))
abbrev PJ:Õ:=top 78
def y8n:zj ĭj ĭj (zU PJ):=by ac_rfl
def au:=HD ğj ĭj 2 jf
def y3c(a:zQ K ğj PJ):au P w K mg Ç:=(Ŏb).oS P w Ç 1 jf y8n yN λb=>(Δ (zi Jh b rfl (Φ (zB Ĳa (zB Ĳa Ńb)))))
abbrev NL:Õ:=top 79
def y80:zj [œa] [œa] (zU NL):=by ac_rfl
variable(ES:wp mg "FIELDS" īs)(KB:tU K w Vw Eb Ef)
def DQ:=HD Îj [œa] 1 uj
def y1s(a:zQ K Îj NL):DQ P w K mg Ç:=(ŕ).oS P w Ç 0 uj y80 yN λd=>(Ρ (uC rfl (vS (own:=Ös) rfl) (tN (pZ ES KB rfl õ)) (Γa (wT [œa] Ös)) (ζa (yP (qx Ģh) qw Üb ćd Śh)) ľo))
abbrev NO:Õ:=top 80
def T8:zj [Ĭa,Áb,ŷ,Ñe,ïa,ōa] Ìs (zU NO):=by ac_rfl
variable(Gk:Dz K W9)(X9:au P w K mg Ç)(JX:DQ P w K mg Ç)(Jb:Dh P w K mg Ç)
def aG:=HD Ņj Ìs 3 uU
def y1t(a:zQ K Ņj NO):aG P w K mg Ç:=(ł).oS P w Ç 2 uU T8 yN λb=>(zc (χc (zB zH (zB Ťe ċb))) (υ (Mu rfl YL (yV (p6 JX b rfl õs)) (y8x õ (Po zH) y9m)) (Εb (yp (i:=3) T8.nd rfl Ü) (η (yp (i:=4) T8.nd rfl Ü))) (zc (yX (i:=5) T8.nd rfl Ü (qZ (Χ úe ćd) (y8t Z1 ZJ Gk rfl ċa) ċa)) (zb (χc (Τ (zB (zi Jb b rfl (zB ľc Čd)) Ģq))))) (yM Ŋ)))
abbrev N2:Õ:=top 81
def y7p:zj [ŷ] [ŷ] (zU N2):=by ac_rfl
variable(Wp:aZ P w K mg Ç)
def As:=HD ġk [ŷ] 3 kS
def y1c(a:zQ K ġk N2):As P w K mg Ç:=(ŕ).oS P w Ç 2 kS y7p yN λb=>(Δ (Ηc (Φ (Γ Ťe))))
abbrev Nb:Õ:=top 82
def mC:zj [Áb,"found"] [Áb] (zU Nb):=by ac_rfl
variable(Uf:wp mg "CODES" Ĩs)(II:tU K w YZ gn gu)(X5:wp mg ċq Ħs)(IK:tU K w Yb Zv Z4)(X4:wp mg ťq ħs)(IJ:tU K w Ya Zu Z3)(E4:j7 K w YZ gn Lj)(JH:j7 K w Yb Zv Ll)(KR:∀H,Þ K H Z4 Ll)(JG:j7 K w Ya Zu Lk)(KQ:∀H,Þ K H Z3 Lk)
def DY:=HD āj [Áb] 1 UA
def y26(a:zQ K āj Nb):DY P w K mg Ç:=(ŕ).oS P w Ç 0 UA mC yN λd=>(zc (y9z (i:=1) rfl mC.nd rfl rfl ľm rfl (Pn Uf E4 rfl È È) šl (Γc (pZ Uf II rfl če)) Ķp) (zc (ζd (Pn X5 JH rfl È È) (Γc (pZ X5 IK rfl če))) (zc (ζd (Pn X4 JG rfl È È) (Γc (pZ X4 IJ rfl če))) (R4 1 (Δ (qZ (yP (xy Ģh) xw Üb (zN Ċh) ě) ve ēn))))))
abbrev NX:Õ:=top 83
def y87:zj [Áb] [Áb] (zU NX):=by ac_rfl
def DV:=HD Ăj [Áb] 1 Zi
def y22(a:zQ K Ăj NX):DV P w K mg Ç:=(ŕ).oS P w Ç 0 Zi y87 yN λb=>(Δ (εc (mV rfl rfl pp X5 JH rfl KR È)))
abbrev NT:Õ:=top 84
def y83:zj [Áb] [Áb] (zU NT):=by ac_rfl
def DR:=HD ġj [Áb] 1 Yi
def y1y(a:zQ K ġj NT):DR P w K mg Ç:=(ŕ).oS P w Ç 0 Yi y83 yN λb=>(Δ (εc (mV rfl rfl pp X4 JG rfl KQ È)))
abbrev NQ:Õ:=top 86
def mB:zj [ŷ,œa,Ñe,ōa] Õq (zU NQ):=by ac_rfl
def aI:=HD Ġk Õq 3 qh
def y1v(a:zQ K Ġk NQ):aI P w K mg Ç:=(Ŏb).oS P w Ç 2 qh mB yN λb=>(zc (yX (i:=3) mB.nd rfl Ü (Ηc (Φ (ζ (zi Jb b rfl įq))))) (Ψ (yP Ŏc qw ċc ćd ě) ðs (qZ (yP ZF tK (zN ŝa) (zN (t_ gi k7 rfl vm jq (tu (zN Ĭg) tz))) ě) (zg Ť zf Ĭg ŝa) ve)))
abbrev P4:Õ:=top 85
def IX:zj [ŷ,Áb,œa,Ĭa,"known"] [ŷ] (zU P4):=by ac_rfl
variable(JU:As P w K mg Ç)(GA:DY P w K mg Ç)(Ex:aI P w K mg Ç)(Ja:DV P w K mg Ç)(Zx:aG P w K mg Ç)
def ae:=HD ūk [ŷ] 4 j5
def y30(a:zQ K ūk P4):ae P w K mg Ç:=(ŕ).oS P w Ç 3 j5 IX yN λb=>(zc (yX (i:=1) Ãi rfl Ü (zi JU b rfl Żb)) (zc (yX (i:=2) Ãi rfl ćb (zi GA b rfl ċb)) (zc ìm (zc (yX (i:=3) Ãi rfl Ü (ηb (zY xR xP (yV (xz Ńb Óg)) (yV (uC rfl (vS (own:=[Ñe]) rfl) (tN (yV (p6 JX b rfl Ńb))) (ιa (Μ (Υb (wT ["word",Áb,œa,Ĭa,"known"] [Ñe])))) ńc (Μ (zi Ex b rfl (Φ (Τ (Γ Źa)))))))))) (Ωa (yP Ĕh W_ Ęc úe ĵc) Ŏg (yX (i:=4) Ãi rfl Ü (qZ (tO (zi Ja b rfl ċb)) (zi X9 b rfl (zB õ (zB Ťe üc))) õ)) (Δ (qZ (yP þj xw (zN (zi Zx b rfl (zB ŝa ċb))) ùe ě) ŝa ve)))))))
abbrev NH:Õ:=top 89
def y7y:zj įj įj (zU NH):=by ac_rfl
variable(Jd:Di P w K mg Ç)
def aD:=HD ŭk įj 2 Qa
def y1p(a:zQ K ŭk NH):aD P w K mg Ç:=(Ŏb).oS P w Ç 1 Qa y7y yN λb=>(Ψ (yP IB tK (zN ńe) Äe ě) Ŏg (ξb (Ζd (zB (zg Ť zf õ ńe) èr))))
abbrev PD:Õ:=top 88
def Mr:zj [Š,ũa,Ĭa,Áb,ĕb] Ñs (zU PD):=by ac_rfl
variable(GQ:ae P w K mg Ç)(Ez:DR P w K mg Ç)(Eu:aD P w K mg Ç)
def ao:=HD Ěk Ñs 5 je
def y39(a:zQ K Ěk PD):ao P w K mg Ç:=(ł).oS P w Ç 4 je Mr yN λb=>(Ωa (μa (yP ZF tK Üb Ňb ě) (TV (yP IB tK Üb Äe ě))) Ŏg (yX (i:=2) Mr.nd rfl Ü (zi GQ b rfl ńk)) (zc ìm (zc (yX (i:=3) Mr.nd rfl Ü (zi JU b rfl ńk)) (zc (xf (tO (zi Ez b rfl Čd)) (Δ (zi Eu b rfl (zB õ įq))) wd) (Ψ (tO (zi Ja b rfl Čd)) (zc (yX (i:=4) Mr.nd rfl Ü Ťe) (Δ (ξb (Ζd (zB (Ηc (zB Ãg (ζ (z7 4)))) (ζ (zg Ť zf (z7 4) zH))))))) (ξb (zB ve zK)))))))
abbrev PH:Õ:=top 92
def TF:zj [Š,Úa,ũa,ĩd] [Š] (zU PH):=by ac_rfl
variable(Lq:ao P w K mg Ç)
def aq:=HD ŧk [Š] 6 UI
def y3b(a:zQ K ŧk PH):aq P w K mg Ç:=(ŕ).oS P w Ç 5 UI TF yN λb=>(zc (kB (i:=1) TF.nd rfl Ü Ih) (zc (yX (i:=2) TF.nd rfl Ü zH) (zc ëm (zc (m_ İb (yP MR MQ úe Ęc ě) (zc (ZO Øc łf Ŋ Ŷ) (zc (yX (i:=2) TF.nd rfl Ü ůd) (zb ëm)))) (zb Ŗf)))))
abbrev Ky:Õ:=top 93
def y7m:zj [Úa] [Úa] (zU Ky):=by ac_rfl
variable(Rs:mg ëb=Ä)
def DM:=HD ůk [Úa] 1 QR
def y18(a:zQ K ůk Ky):DM P w K mg Ç:=(ŕ).oS P w Ç 0 QR y7m yN λd=>(Δ (y8u rfl rfl Rs (yV (y98 (y96 rfl (vS (own:=[ĩd]) rfl) (y9e (i:=0) rfl Óm) (Γa (wT [Úa] [ĩd])) Ņc (Ι ēn)) (z1u (z1v 0)))) zH))
abbrev PP:Õ:=top 90
def TH:zj [Š,Úa,Ģb,ũa,ĩd,Ũk] [Š] (zU PP):=by ac_rfl
variable(Jg:aq P w K mg Ç)(Ei:DM P w K mg Ç)
def az:=HD Łj [Š] 7 Qp
def y3f(a:zQ K Łj PP):az P w K mg Ç:=(ŕ).oS P w Ç 6 Qp TH yN λb=>(zc (yX (i:=1) Şf rfl Ü ŷo) (zc (yX (i:=2) Şf rfl Ü (zi Ei b rfl ċb)) (Ωa (yP Ŏc qw ċc Äe ě) (zb (yM Ŋ)) (x00 (y9y İb rfl (y9d (i:=1) rfl Óm) (Εb (yp (i:=3) Şf rfl Ü) (η (yp (i:=4) Şf rfl Ü))) (zc (yX (i:=5) Şf rfl Ü (zg Ť zf ċa zH)) (zb (xf (VH (nE (yP MR MQ ćh Ęc ě) (nE (yP Ŏc qw ćh ċc ě) (x08 (yP (Hs Øc) Hm ćh Üb ĵc))))) ðs wd)))) (z1s (z1t 1))) Ŏg)))
abbrev P8:Õ:=top 91
def mH:zj [Š,"wrong"] [Š] (zU P8):=by ac_rfl
variable(GW:az P w K mg Ç)
def aj:=HD Øk [Š] 8 WI
def y35(a:zQ K Øk P8):aj P w K mg Ç:=(ŕ).oS P w Ç 7 WI mH yN λb=>(zc (yX (i:=1) mH.nd rfl Ü (zi GW b rfl Żb)) (zc (Κa (yP MR MQ Üb Ęc ě)) (Δ ŷo)))
abbrev Kx:Õ:=top 97
def T7:zj ŕm Øe (zU Kx):=by ac_rfl
def Ap:=HD ŵj Øe 3 U3
def y16(a:zQ K ŵj Kx):Ap P w K mg Ç:=(ł).oS P w Ç 2 U3 T7 yN λc=>(zc (yX (i:=2) šf rfl Ü (yV (Pi rfl rfl Xl LC (Γ (yV (uC rfl ōe Él (ιa (Ιb (ιc (wT ŕm [ōa])))) Èp (Ιb (wH (zB Ŝh âe) îc)))))))) (zc (kB (i:=4) šf rfl Ü őd) (zc (yX (i:=5) šf rfl Ü zH) (zc (ZP İb rfl (Ξb (Ξa (zN (zi Zy c rfl Żb)))) (Βa (yp (i:=3) šf rfl Ü)) (zc Īp (zb (mz (i:=5) Lz MP šf rfl Ü (qZ (yP (V3 (zV c)) W_ úe ċc ĵc) zH zH))))) (zc Īp (zb (ZQ 4)))))))
abbrev NW:Õ:=top 104
def y86:zj [óc] [óc] (zU NW):=by ac_rfl
variable(EV:wp mg ŧr ďd)(KE:∀H,zZ K H ďd ďd)(EU:wp mg Ťq Ļa)(KD:∀H,zZ K H Ļa Ļa)
def DU:=HD Ğk [óc] 1 Qd
def y21(a:zQ K Ğk NW):DU P w K mg Ç:=(ŕ).oS P w Ç 0 Qd y86 yN λb=>(Δ (mO (uc V4 V2 ĺa Ęc ě) (VC (IZ (uc Hr tK (zN (Ms RH RG (vk EU KD rfl))) ĺa ě) (VC (uc Hr tK ĺa (zN (vk EV KE rfl)) ě))))))
abbrev N4:Õ:=top 103
def m7:zj [š,Ŵh,"at"] Øe (zU N4):=by ac_rfl
variable(VO:mg ýc=Ä)(Eh:Ap P w K mg Ç)(Je:am P w K mg Ç)
def Au:=HD ăj Øe 4 U6
def y1d(a:zQ K ăj N4):Au P w K mg Ç:=(ł).oS P w Ç 3 U6 m7 yN λb=>(zc (yX (i:=2) m7.nd rfl ćb (yV (p6 Eh b rfl ķc))) (Ρ (uC rfl (vS (own:=[ōa,Ũk]) rfl) ãn (Μc (Μ (Ρa (μc Łm) (η (ξc Łm))))) ńc (Μ (qZ (yP V4 V2 ùe Ęc ě) ve (zY XQ XO Ùg (zg Ť zf Ŋ Ŷ)))))))
abbrev Nw:Õ:=top 102
def Mq:zj [š,Ŵh,Šq,"chosen","near"] Øe (zU Nw):=by ac_rfl
variable(JV:Au P w K mg Ç)(G7:DU P w K mg Ç)
def aY:=HD ÿj Øe 5 Yl
def y2s(a:zQ K ÿj Nw):aY P w K mg Ç:=(ł).oS P w Ç 4 Yl Mq yN λd=>(zc (yX (i:=2) Mq.nd rfl ćb (zi JV d rfl ķc)) (zc (yX (i:=3) Mq.nd rfl ćb (yV (Θd (uC rfl ōe Él Êi Ņc (Δc (zB Źa âe)))))) (zc (R3 (i:=4) rfl Mq.nd rfl rfl ōe rfl (Ξb (Ξa ċc)) Êi (ζa (yP (Hs (zV d)) Hm ćh úe ĵc)) øs) (Ρ (uC rfl ōe (tN ċa) Êi (ζa (Μa (zi G7 d rfl (ζ (zg (ze (zV d)) zf če Źa))))) øs)))))
abbrev NI:Õ:=top 101
def IS:zj [š,Ŵh,"lacking"] [š] (zU NI):=by ac_rfl
variable(Lp:aY P w K mg Ç)
def aE:=HD Þk [š] 6 U7
def y1q(a:zQ K Þk NI):aE P w K mg Ç:=(ŕ).oS P w Ç 5 U7 IS yN λb=>(zc (yX (i:=1) IS.nd rfl Ü Ċh) (zc ğm (zc (m_ İb (yP Ŏc qw ċc (zN Ċh) ě) (zc (yX (i:=1) IS.nd rfl Ü (yV (y9a rfl O6 (ζ (zY xR xP ı Ŋ))))) (zb ğm))) (zb (yM ı)))))
abbrev PR:Õ:=top 106
def y8q:zj [Ĭa] [Ĭa] (zU PR):=by ac_rfl
def a_:=HD Ğj [Ĭa] 4 UJ
def y3h(a:zQ K Ğj PR):a_ P w K mg Ç:=(ŕ).oS P w Ç 3 UJ y8q yN λb=>(Δ (ζb (pZ Uf II rfl ľc)))
abbrev Nv:Õ:=top 108
def mF:zj [Ĭa,óc,ĕb] ýf (zU Nv):=by ac_rfl
variable(Jf:Dk P w K mg Ç)
def aX:=HD űj ýf 4 UE
def y2r(a:zQ K űj Nv):aX P w K mg Ç:=(ł).oS P w Ç 3 UE mF yN λb=>(zc (yX (i:=2) mF.nd rfl Ü Ťe) (Δ (zi X9 b rfl (zB (ζb (pZ X5 IK rfl ľc)) (Τ (ζ (υd (zB äd zK))))))))
abbrev NJ:Õ:=top 109
def y7z:zj ýf ýf (zU NJ):=by ac_rfl
def aF:=HD Ŵj ýf 4 WF
def y1r(a:zQ K Ŵj NJ):aF P w K mg Ç:=(ł).oS P w Ç 3 WF y7z yN λb=>(Ρ (γa (ζb (pZ X4 IJ rfl ľc)) (Γ (υd èr))))
abbrev PX:Õ:=top 107
def TJ:zj [š,Ŵh,Šq,Š,ōa,Ĭa] [š] (zU PX):=by ac_rfl
variable(Ev:aE P w K mg Ç)(GY:a_ P w K mg Ç)(Ew:aF P w K mg Ç)(GN:aX P w K mg Ç)
def b8:=HD ėk [š] 7 WJ
def y3j(a:zQ K ėk PX):b8 P w K mg Ç:=(ŕ).oS P w Ç 6 WJ TJ yN λb=>(zc (yX (i:=1) ŝf rfl Ü (zi Ev b rfl Żb)) (zc (yX (i:=2) ŝf rfl Ü (zi JV b rfl ķc)) (zc (kB (i:=3) ŝf rfl Ü őd) (υ (Pm rfl VO Ãj) (Εb (yp (i:=4) ŝf rfl Ü) (η (yp (i:=5) ŝf rfl Ü))) (zb (xf (yP V4 V2 (zN Ùg) Ęc ě) (zb (TQ ŏl (zi GY b rfl Ģq))) (zb (xf (yP Ĕh W_ ùe Üb ĵc) (zb (R0 ŏl (p6 Ew b rfl ōn))) (zb (TQ ŏl (zi GN b rfl ōn))))))) (ZQ 3)))))
abbrev PU:Õ:=top 70
def y8r:zj [Ąa] [Ąa] (zU PU):=by ac_rfl
variable(Rp:mg "all"=Ä)(Lf:wp mg Ëp ĉa)(Ma:∀H,zZ K H ĉa ĉa)
def b7:=HD ŀj [Ąa] 2 Qr
def y3i(a:zQ K ŀj PU):b7 P w K mg Ç:=(ŕ).oS P w Ç 1 Qr y8r yN λc=>(Ωa Šn (Ρ (y97 (xz üc Óg) Šp)) (Κa (VH (TU ĭm (TV (yP (qx (ym c)) qw Äe (zN Šp) ě))))) (zc (Κa (Μa (t_ (z0q rfl) y17 rfl Rp z0g (Αc (uC rfl (vS (own:=[Đc]) rfl) ģh (ιa (Ιb (Νa (wT [Ąa] [Đc])))) Èp (Ιb (zi Wn c rfl (Αa ós)))))))) (Ρ (Pj rfl pp Żb))))
abbrev Ko:Õ:=jL Óc 2
def y7h:zj [ċ] [ċ] (zU Ko):=by ac_rfl
variable(gc:vR K Ĳ Ád)(WX:vR K Ĳ Úa)(J0:vR K Ĳ Ģb)
def y0v{f:É}{b:ķ}(d:wn K Çc Ìp Ko f b):xH P w K mg Ç xC 1 f b [ċ] Œk:=d.oF P w mg Ç 0 wC y7h yN λa=>(Δ (mO (uc Ţg xw (zN ír) (zN (vC õ J0)) ě) (VC (uc Ţg xw (zN (zg (ze (zV a)) zf Ğm zH)) (zN ċo) ě))))
abbrev Kg:Õ:=jL Óc 1
def y7c:zj [ċ] [ċ] (zU Kg):=by ac_rfl
variable(jo:vR K Ĳ Ŷa)(J1:vR K Ĳ ņc)(J2:vR K Ĳ òc)(WV:vR K Ĳ ĥc)(Go:Qs P w K mg Ç Ŀ Âf 1 ąs)
def y0p{f:É}{a:ķ}(d:wn K îe ûp Kg f a):xH P w K mg Ç xC 3 f a [ċ] Ōk:=Ņd P w mg Ç 2 j3 y7c vq λb=>(xK (k5 ů jo (HP Go b rfl (g6 (qA ů J2) (g6 (qA ů J1) vh)))) (xK (k5 ů gc Ğd) (xo (k5 ů WV Ğd))))
abbrev Kp:Õ:=jL Óc 3
def lz:zj [ċ,ĩd] [ċ] (zU Kp):=by ac_rfl
variable(VN:vf P w K mg Ç ü Çc [ċ] 1 Œk)(VJ:vf P w K mg Ç ÿ Çc [ċ] 1 Œk)(Ep:A_ P w K mg Ç)(GK:De P w K mg Ç)
def y0w{f:É}{b:ķ}(d:wn K ßc ĸp Kp f b):xH P w K mg Ç xC 7 f b [ċ] ŋk:=Ņd P w mg Ç 6 wy lz vq λa=>(xK (ν (tO (ZM (ud VN a õ) (ud VJ a õ))) ĥg) (xK (ux (i:=1) lz.nd rfl Ü È (ZB Ğm)) (xK (k4 (g_ Ep a rfl (g6 (qA ů jo) (xO Îg vh)))) (xK (k5 ů gc (ZB (qZ (tO (zi GK a rfl (zB Ŧg (Γ Îg)))) Îg Îg))) (xK (z8c ů WV zH) (xo ĥg))))))
abbrev Km:Õ:=jL Óc 4
def PY:zj [ċ,"most",ël] ûd (zU Km):=by ac_rfl
variable(Iy:vf P w K mg Ç ü ßc [ċ] 7 ŋk)(Iv:vf P w K mg Ç ÿ ßc [ċ] 7 ŋk)
def y0u{f:É}{b:ķ}(d:wn K äc Žp Km f b):xH P w K mg Ç xC 8 f b ûd ćf:=Ņd P w mg Ç 7 wx PY vq λa=>(xK (ux (i:=2) PY.nd rfl Ü È Ğd) (xK (fQ İb (MM (HV (g8 (yP ZF tK ċc Üb ě)) (HW (fR (XH (Uu Iy a ů) (Uu Iv a ů)))))) (xo (fO (i:=2) Lz MP PY.nd rfl Ü È zH))) (xo (k6 Æl))))
abbrev Kl:Õ:=jL Óc 5
def y7g:zj [ċ] [ċ] (zU Kl):=by ac_rfl
def y0t{f:É}{a:ķ}(d:wn K Ąa òo Kl f a):xH P w K mg Ç xC 1 f a [ċ] Ŕk:=d.oF P w mg Ç 0 jb y7g yN λb=>(Ρ (Pj rfl pp (Γ (vC Ŧg wM))))
abbrev Ki:Õ:=jL Óc 6
def y7d:zj [ċ] [ċ] (zU Ki):=by ac_rfl
def y0q{f:É}{a:ķ}(d:wn K ğd úp Ki f a):xH P w K mg Ç xC 1 f a [ċ] ŗk:=d.oF P w mg Ç 0 Zf y7d yN λe=>(Δ (ηb (yV (uC rfl žn (tN Ĭg) (Γa (wT ["self"] [ěb])) Ņc (Ι (zg (ze (zV e)) zf (vC Ŧg qO) ı))))))
abbrev Kj:Õ:=jL Óc 7
def y7e:zj [ċ] [ċ] (zU Kj):=by ac_rfl
variable(GO:Df P w K mg Ç)
def y0r{f:É}{a:ķ}(d:wn K ŏa Íp Kj f a):xH P w K mg Ç xC 2 f a [ċ] Ŗk:=d.oF P w mg Ç 1 Zg y7e yN λb=>(Ρ (p6 GO b rfl (Γ (vC Ŧg jC))))
abbrev Kk:Õ:=jL Óc 9
def y7f:zj [ċ] [ċ] (zU Kk):=by ac_rfl
def y0s{f:É}{a:ķ}(d:wn K ĕb ùp Kk f a):xH P w K mg Ç xC 1 f a [ċ] ŕk:=d.oF P w mg Ç 0 Zh y7f yN λb=>(Δ ír)
abbrev Kq:Õ:=jL Óc 10
def y7i:zj [ċ] [ċ] (zU Kq):=by ac_rfl
def y0x{f:É}{a:ķ}(d:wn K Úc øp Kq f a):xH P w K mg Ç xC 1 f a [ċ] œk:=d.oF P w mg Ç 0 jc y7i yN λb=>(Δ (vC õ WV))
abbrev Kf:Õ:=jL Óc 0
def y7b:zj Ňe Ňe (zU Kf):=by ac_rfl
variable(RP:vf P w K mg Ç ü îe [ċ] 3 Ōk)(RL:vf P w K mg Ç ÿ îe [ċ] 3 Ōk)(GZ:b7 P w K mg Ç)(Ej:Aq P w K mg Ç)
def y0o{f:É}{b:ķ}(d:wn K Öb ĥo Kf f b):xH P w K mg Ç xC 5 f b Ňe Ąs:=Ņd P w mg Ç 4 WC y7b vq λa=>(xK (k5 ů WX (xv ı)) (xK (k5 ů J0 Æl) (xK (k5 ů J2 (Λa (p6 GZ a rfl Čd))) (xK (k5 ů J1 (Λa (p6 Ej a rfl Þf))) (ηa (XH (Uu RP a ů) (Uu RL a ů)))))))
abbrev P9:Õ:=top 74
def IY:zj [š,"rows",Úa,ōa,Ũk] [š] (zU P9):=by ac_rfl
def ak:=HD àj [š] 4 Qn
def y36(a:zQ K àj P9):ak P w K mg Ç:=(ŕ).oS P w Ç 3 Qn IY yN λb=>(zc (yX (i:=1) Âi rfl Ü Ãj) (zc (kB (i:=2) Âi rfl Ü Ih) (υ ãn (Εb (yp (i:=3) Âi rfl Ü) (η (yp (i:=4) Âi rfl Ü))) (zb (ZO Øc Ől Ŷ (wH (zB (zg Ť zf ı Ŷ) (zB (zY xR xP Ŷ zH) Þf)) Ĵc))) (ZQ 2))))
abbrev Kr:Õ:=jL (top 73) 0
def l_:zj [ċ,š,Ąa,ŏa,Úa] Ċg (zU Kr):=by ac_rfl
variable(O0:Oh P w K mg Ç Ũr Öb Ňe 5 Ąs)(GT:ak P w K mg Ç)
def y0y{f:É}{b:ķ}(d:wn K Öb ŭn Kr f b):xH P w K mg Ç xC 6 f b Ċg ăs:=Ņd P w mg Ç 5 WD l_ vq λa=>(xK (ux (i:=4) l_.nd rfl Ü È (Λa (p6 GT a rfl ċb))) (οd (t_ z0v y2m rfl vm jq (tu ùe tz))))
abbrev Kt:Õ:=jL (top 95) 0
def m4:zj [ċ,Š,Ąa,ŏa,Úa] ċg (zU Kt):=by ac_rfl
variable(GS:aj P w K mg Ç)
def y10{f:É}{b:ķ}(d:wn K Öb œn Kt f b):xH P w K mg Ç xC 9 f b ċg Ăs:=Ņd P w mg Ç 8 WE m4 vq λa=>(xK (ux (i:=4) m4.nd rfl Ü È (xv (zi GS a rfl ċb))) (οd (Ξa Üb)))
abbrev Nf:Õ:=top 111
def y8b:zj Ļk Ļk (zU Nf):=by ac_rfl
def DZ:=HD Ąj Ļk 1 qK
def y2a(a:zQ K Ąj Nf):DZ P w K mg Ç:=(ł).oS P w Ç 0 qK y8b y70 λb=>(zc (xf (yP ZF tK Üb Äe ě) (Δ Ãg) wd) (zb (yM zH)))
abbrev Nk:Õ:=top 112
def mD:zj [ía,ůa,żp] Øh (zU Nk):=by ac_rfl
def Dd:=HD ōj Øh 1 uV
def y2f(a:zQ K ōj Nk):Dd P w K mg Ç:=(ł).oS P w Ç 0 uV mD yN λb=>(zc (yX (i:=2) mD.nd rfl Ü (Θ (zY tq Hl (zY xR xP õ Ên) zH))) (zb (yM (Θ (zY xR xP (zY xR xP (zY y3u y2q Ŋ Ŋ) (zY tq pS zH Ŋ)) ı)))))
abbrev No:Õ:=top 113
def Mp:zj [ía,ůa,"_law_way",żp,šq] Øh (zU No):=by ac_rfl
variable(uH:Dd P w K mg Ç)
def aS:=HD Ŷj Øh 2 Qj
def y2j(a:zQ K Ŷj No):aS P w K mg Ç:=(ł).oS P w Ç 1 Qj Mp yN λb=>(zc (yX (i:=2) Mp.nd rfl Ü Ēp) (zc (yX (i:=3) Mp.nd rfl Ü Îi) (zc (yX (i:=4) Mp.nd rfl Ü (yV (xz (zB zH (zB zH (zB zH (zB zH (zB Ůg (Γ Źo)))))) (yL êq È)))) (zb (yM (zg Ť zf (zY xR xP ċa (yV (γa Ŋn (Γ Ŋn)))) Ŋ))))))
abbrev Np:Õ:=top 114
def y8d:zj [ía] [ía] (zU Np):=by ac_rfl
variable(GI:aS P w K mg Ç)
def aT:=HD ŉj [ía] 3 Qk
def y2k(a:zQ K ŉj Np):aT P w K mg Ç:=(ŕ).oS P w Ç 2 Qk y8d yN λd=>(zb (jV (uC rfl îg Že (Γa (wT [ía] [ůa])) Ņc (Ι (zi GI d rfl ķc)))))
abbrev Nm:Õ:=top 115
def IW:zj ÿm [ía] (zU Nm):=by ac_rfl
def aQ:=HD ŋj [ía] 2 Qi
def y2h(a:zQ K ŋj Nm):aQ P w K mg Ç:=(ŕ).oS P w Ç 1 Qi IW yN λb=>(zc (kB (i:=1) Äi rfl Ü őd) (υ (Ξb (νa üc)) (Βa (yp (i:=2) Äi rfl Ü)) (zc (yX (i:=3) Äi rfl Ü (Κb (zB õ ôi))) (zc (yX (i:=4) Äi rfl Ü (Εd (zB Ůg (zB Źo (Γ Ůg))))) (zb (xf (x03 (yP (Hs Øc) Hm ùe (zN (yV (uC rfl (vS (own:=Úq) rfl) Él (Χa (Υb (wT ÿm Úq))) ńc (Μ (zg Ť zf (z7 5) zH))))) ĵc)) (zb (TQ łf (wH (zB ċa (ζ (Εd (zB (νa ôi) Ék)))) îc))) wd)))) Ŗf))
abbrev Nl:Õ:=top 117
def TC:zj [ía,"_law_letters",Ød,ůa,Ţq,"_law_letter"] [ía] (zU Nl):=by ac_rfl
def aP:=HD Ōj [ía] 2 Qh
def y2g(a:zQ K Ōj Nl):aP P w K mg Ç:=(ŕ).oS P w Ç 1 Qh TC yN λb=>(zc (yX (i:=1) şf rfl Ü yS) (zc (kB (i:=2) şf rfl Ü őd) (zc (ZP İb rfl Že (Βa (yp (i:=3) şf rfl Ü)) (zc (yX (i:=4) şf rfl Ü (Κb (Φ (Γ (zY xR xP zH Ŷ))))) (zc (yX (i:=5) şf rfl Ü (zg Ť zf ı (Θ (zY xR xP (Κb İq) (zY tq pS zH ŝa))))) (zb (TQ Ől (zY xR xP (zY xR xP (zY hV hG yS (Θ ċa)) Źa) (zY hV hG yS (Θ (zY U_ Uy ċa zH))))))))) (zc (xf (Χ (zN Ÿo) Ňb) (zb (x01 Ől zH (zg Ť zf Šl (Θ (zY U_ Uy õ zH))))) wd) (zb (ZQ 2))))))
abbrev Nh:Õ:=top 118
def IV:zj ŭl Òq (zU Nh):=by ac_rfl
def Da:=HD Ŏj Òq 1 UC
def y2c(a:zQ K Ŏj Nh):Da P w K mg Ç:=(Ŏb).oS P w Ç 0 UC IV yN λd=>(zc (kB (i:=3) Åi rfl Ü őd) (υ (Ξb (zY xR xP (Ξa ĺa) zH)) (Βa (yp (i:=4) Åi rfl ćb)) (zc (Im (i:=3) Åi rfl Ü (yV (uC rfl (vS (own:=ým) rfl) (Mu rfl YL Ŋ ı) (Μc (Ι (Ρa (Υb ĸq) (η (ιc ĸq))))) (ζa (yP (xy Ģh) xw (zN Ŝh) ùe Śh)) (Δc (zB yS (zB (z7 5) zK)))))) (zb (Im (i:=3) Åi rfl Ü (y8w õ (Po ċa) (Po (zY xR xP ċa zH)))))) (ZQ 3)))
abbrev Nd:Õ:=top 119
def ZL:zj [ía,ůa,Ød,"_law_d","_law_s","_law_n","_law_name",Ţq,šq] Öq (zU Nd):=by ac_rfl
def aM:=HD àk Öq 2 Qf
def y29(a:zQ K àk Nd):aM P w K mg Ç:=(Ŏb).oS P w Ç 1 Qf ZL yN λb=>(zc (yX (i:=3) ĥe rfl Ü Ēp) (zc (yX (i:=4) ĥe rfl Ü łk) (zc (yX (i:=5) ĥe rfl Ü Îi) (zc (yX (i:=6) ĥe rfl Ü (zg Ť zf Ŋ łk)) (zc (yX (i:=7) ĥe rfl Ü (zg Ť zf (yV (xz (zB yS (zB yS (zB yS zK))) Ĵc)) łk)) (zc (kB (i:=8) ĥe rfl Ü (xz (zB Ñn (zB Ñn (zB (wH (zB yS (Γ Ŝh)) îc) (zB (ψa Įq) án)))) (yL (zS Ķi) È))) (zc (Ωb (xz (zB Ðn (zB Ðn (Γ (wH (Εe (zB ċa zK)) (yL (zS Ĳc) È))))) Ĵc)) (zc (Ωb (γa (wH (Εe (zB ċa (Γ (Θ (zY U_ Uy Źa zH))))) ĳq) án)) (zc (Ωb (γa (wH (zB ćm Įq) Ĵc) (Γ (zg Ť zf (yV (xz (zB ċo (ζ (Ωc (zB Ŷ zK)))) îc)) (Θ Źa))))) (R4 8 (Δ (zg Ť zf (z7 8) Ÿo))))))))))))
abbrev Ng:Õ:=top 120
def T9:zj [ĵb,Ŭn,ĉq,ía,Ød,ŧi,ĩg] Ïs (zU Ng):=by ac_rfl
variable(jK:DZ P w K mg Ç)(GF:aP P w K mg Ç)(GC:aM P w K mg Ç)
def aN:=HD Őj Ïs 3 Qg
def y2b(a:zQ K Őj Ng):aN P w K mg Ç:=(ł).oS P w Ç 2 Qg T9 yN λb=>(zc (yX (i:=2) Šf rfl ćb (zY xR xP zH (Θ (Ζc (zB õ ċb))))) (zc (yX (i:=3) Šf rfl ćb (Ζc (Φ (Γ ńe)))) (zc (yX (i:=4) Šf rfl ćb (yV (p6 GF b rfl Čd))) (zc (R3 (i:=5) rfl Šf rfl rfl îg rfl Že ťl ńc (Μ (zY xS xQ (Κb (zB Ŷ (Γ (zY xR xP zH śh)))) (zY xR xP Ŋ zH)))) (zc (R3 (i:=6) rfl Šf rfl rfl îg rfl (ZN rfl uf Ŋ) ťl ńc (Μ (zi GC b rfl (zB (Ζc (Φ (Γ (zY xR xP ńe śh)))) (zB śh Þf))))) (Δ (wH (zB Ŝh (zB Źa Þf)) Ĵc)))))))
abbrev Ni:Õ:=top 116
def Pb:zj [še,ía,ŏj,ůa] Ís (zU Ni):=by ac_rfl
variable(Tf:mg ĩl=Ä)(Ix:vf P w K mg Ç ü Ąa [ċ] 1 Ŕk)(RQ:vf P w K mg Ç ü ğd [ċ] 1 ŗk)(RS:vf P w K mg Ç ü ŏa [ċ] 2 Ŗk)(RT:vf P w K mg Ç ü ĕb [ċ] 1 ŕk)(Iz:vf P w K mg Ç ü Úc [ċ] 1 œk)(Iu:vf P w K mg Ç ÿ Ąa [ċ] 1 Ŕk)(RM:vf P w K mg Ç ÿ ğd [ċ] 1 ŗk)(RN:vf P w K mg Ç ÿ ŏa [ċ] 2 Ŗk)(RO:vf P w K mg Ç ÿ ĕb [ċ] 1 ŕk)(Iw:vf P w K mg Ç ÿ Úc [ċ] 1 œk)
def Db:=HD Ÿj Ís 3 qL
def y2d(a:zQ K Ÿj Ni):Db P w K mg Ç:=(ł).oS P w Ç 2 qL Pb yN λb=>(zc (kB (i:=2) Pb.nd rfl ćb Ih) (zc (ZP İb rfl (tN (zg Ť zf (yV (xz (zB (Μb (IR (is:=ĳj) rfl)) (zB (Μb (IR (is:=İj) rfl)) (zB (Μb (IR (is:=Ĳj) rfl)) (Γ (Μb (IR (is:=ıj) rfl)))))) ĳq)) Äj)) (Βa (yp (i:=3) Pb.nd rfl Ü)) (zb (xf Şe (Ζa (ud Ix b õ) (ud Iu b õ)) (zb (xf Şe (Ζa (ud RQ b õ) (ud RM b õ)) (zb (xf Şe (Ζa (ud RS b õ) (ud RN b õ)) (zb (xf Şe (Ζa (ud RT b õ) (ud RO b õ)) (zb (xf Şe (Ζa (ud Iz b õ) (ud Iw b õ)) (Ζa (ud VN b õ) (ud VJ b õ))))))))))))) (R4 2 (Δ (t_ (z11 b) y2z rfl Tf Cf (Αc (uC rfl îg Že (Χa (ξc (wT [še,"_law_cell",ŏj,ůa] [ůa]))) ńc (Μ Ùg))))))))
abbrev Nj:Õ:=top 121
def y8c:zj Ôi Ôi (zU Nj):=by ac_rfl
variable(Gm:Qs P w K mg Ç ü Ċg 6 ăs)(Gp:Qs P w K mg Ç ÿ ċg 9 Ăs)(Gb:b8 P w K mg Ç)
def aO:HT:=λP w K mg Ç=>vL P w K mg Ç ŷj Ôi 11 (yq K kU)
def y2e(a:zQ K ŷj Nj):aO P w K mg Ç:=(ąk).oM P w Ç 10 kU y8c vq λb=>(xK (ν (Χ (zN õ) Ęl) (k6 (HP Gm b rfl (xO ı Ēi)))) (xo (k6 (HP Gp b rfl (xO (yV (p6 Gb b rfl ċb)) Ēi)))))
abbrev Nn:Õ:=top 122
def Mo:zj [âj,ía,ĩg,še] Ës (zU Nn):=by ac_rfl
variable(ļp:Qt P w K mg Ç ü äc ûd 8 ćf 1000)(RV:Qt P w K mg Ç ÿ äc ûd 8 ćf 1000)(VM:vf P w K mg Ç ü äc ûd 8 ćf)(VI:vf P w K mg Ç ÿ äc ûd 8 ćf)(Uj:aO P w K mg Ç)
def aR:HT:=λP w K mg Ç=>vL P w K mg Ç Ŋj Ës 12 (yq K UD)
def y2i(a:zQ K Ŋj Nn):aR P w K mg Ç:=(ł).oM P w Ç 11 UD Mo vq λb=>(xK (ψc ĵq) (xK (ν (Χ (zN Äj) Ęl) (ψc (xz (zB (ψa Ék) Ðm) îc))) (xK (ux (i:=3) Mo.nd rfl Ü È (g_ Uj b rfl (xO õ (xO (zY xR xP (yV ĵq) Ŋ) (xO (yV (xz (IR (is:=Ŭo) rfl) (yL (J3 (n:=8) È) È))) (xO Ċh vh)))))) (xK (μd (fU (ςd (fH ļp b Šh) (fH RV b Šh)) (fU (g8 (χd (zN (ZM (ud Iz b Ŷ) (ud Iw b Ŷ))))) (z8g (ςd (XI VM b Šh žg) (XI VI b Šh žg)))))) (xo (k6 (ZB (IZ (uc ūf xw (zN (ZM (ud Ix b Ŷ) (ud Iu b Ŷ))) (zN (yV (xz (zB (zY tq pS zH Äj) (zB zH (zB zH (zB zH (zB zH (zB zH Ék)))))) (yL (zS (zS êq)) È)))) ě) (VC (uc y3t y1w (zN (ZM (ud VN b Ŷ) (ud VJ b Ŷ))) (zN pY) ě))))))))))
abbrev VB:Õ:=top 123
def pX:zj [ĵb,ĩg,ŧi,Ød,"_law_items_here","_law_words_here","_law_pairs_here",âj,še,"_law_slow","_law_most",ŏj,ĉq] [ĵb] (zU VB):=by ac_rfl
variable(GH:aR P w K mg Ç)(GD:aN P w K mg Ç)(GE:Da P w K mg Ç)(GJ:aT P w K mg Ç)(GG:aQ P w K mg Ç)(Lo:Db P w K mg Ç)
def y28{f:É}{c:ķ}(d:Fun K Ħb Ħb VB f c):xH P w K mg Ç xC 13 f c [ĵb] śl:=z78 d pX È vq y6z λe A b s H E a=>(xK (z8b (xv (zi GD a rfl İq)) (z86 (YA (n:=3) rfl (uy (yp (i:=1) òb rfl Ü) (uy (yp (i:=2) òb rfl Ü) (η (yp (i:=3) òb rfl Ü))))) rfl rfl rfl È È È)) (xK (ux (i:=4) òb rfl Ü È (Λa (p6 GE a rfl (Αa (Τ Čd))))) (xK (ux (i:=5) òb rfl Ü È (Λa (p6 GJ a rfl ös))) (xK (ux (i:=6) òb rfl Ü È (Λa (p6 GG a rfl ös))) (xK (ux (i:=7) òb rfl Ü È (xv ñs)) (xK (ux (i:=8) òb rfl Ü È Ûm) (xK (ux (i:=9) òb rfl Ü È Ûm) (xK (fP İb rfl (tN (yV (γa òs (Γ ñs)))) (z88 (yp (i:=10) òb rfl Ü) rfl È) (xK (ux (i:=11) òb rfl Ü È Èm) (xK (ux (i:=12) òb rfl Ü È Ğd) (xK (fQ İb (MM (HV Đm (HW (fR (XH (Uu Iy a (yh 9)) (Uu Iv a (yh 9))))))) (xo (fO (i:=12) Lz MP òb rfl Ü È zH))) (xK (ν (μa (yP Ík qw (Βd (zN (z7 11))) (Βd (zN (z7 12))) ě) (TV (yP Ík qw (ξd (z7 8)) (ξd (z7 9)) ě))) ĥg) (xo (μd (HV Đm (HW (HU Ík qw Èm Ğd ě)))))))))) (xK (ν (yP Ţg xw (zN òs) Ęl ě) (k6 (g_ GH a rfl (xO śh (xO Ën vh))))) (xo (k6 (z82 Ţg xw (XH (XI VM a (yh 8) žg) (XI VI a (yh 8) žg)) Ğd ě))))))))))))
#print a
#print a
def all_mk{l:Ĳk}{w:ß}{K:Í}{h:Heap}{a:Str->Æ Value}(X:Ŕ h)(G:ťa ė a)(hfa:a Ħb=À (.ref fa))(a0:zQ K Ųj NY)(a1:zQ K ìl Ku)(a2:zQ K él PB)(a3:zQ K Īl N_)(a4:zQ K Ńj Nt)(a5:zQ K Ġj Nu)(a6:zQ K ůj PM)(a7:zQ K Ūk P6)(a8:zQ K Ök PF)(a9:zQ K ßk N0)(a10:zQ K Ęk PQ)(a11:zQ K Ýk NV)(a12:zQ K ğk NU)(a13:zQ K ěk P5)(a14:zQ K Āj Nc)(a15:zQ K łj PC)(a16:zQ K ńj NR)(a17:zQ K ĝk NZ)(a18:zQ K ņj K_)(a19:zQ K Ûk Nz)(a20:zQ K Ģk Kz)(a21:zQ K Ňj Kw)(a22:zQ K ųj NP)(a23:zQ K ęk PN)(a24:zQ K Úk P1)(a25:zQ K Ùk P3)(a26:UM K Ŀ Êp Ks Âf)(Z:j6 K òh NC E)(a28:j6 K Èh N7 y)(a29:j6 K Éh N6 I)(a30:zQ K ũk P7)(a31:zQ K Ĝk Nr)(g:j6 K Ũc NG c)(a33:zQ K Ŭk Na)(m:j6 K æe N5 d)(F:j6 K ïf NA j)(a36:zQ K ňj Kv)(R:j6 K Çh N8 x)(U:j6 K Űg N9 J)(T:j6 K ůg ND A)(a40:j6 K ŗg NE C)(a41:zQ K Ůk NB)(a42:zQ K êl Nq)(a43:zQ K áj P0)(a44:zQ K Űj Ny)(a45:zQ K ğj PJ)(a46:zQ K Îj NL)(a47:zQ K Ņj NO)(a48:zQ K ġk N2)(a49:zQ K āj Nb)(a50:zQ K Ăj NX)(a51:zQ K ġj NT)(a52:zQ K Ġk NQ)(a53:zQ K ūk P4)(a54:zQ K ŭk NH)(a55:zQ K Ěk PD)(a56:zQ K ŧk PH)(a57:zQ K ůk Ky)(a58:zQ K Łj PP)(a59:zQ K Øk P8)(a60:zQ K ŵj Kx)(a61:zQ K Ğk NW)(a62:zQ K ăj N4)(a63:zQ K ÿj Nw)(a64:zQ K Þk NI)(a65:zQ K Ğj PR)(a66:zQ K űj Nv)(a67:zQ K Ŵj NJ)(a68:zQ K ėk PX)(a69:zQ K ŀj PU)(a70:gY K ü ÿ Çc Ìp Ko [ċ])(a71:gY K ü ÿ îe ûp Kg [ċ])(a72:gY K ü ÿ ßc ĸp Kp [ċ])(a73:Ol K ü ÿ äc Žp Km ûd 1000)(a74:gY K ü ÿ Ąa òo Kl [ċ])(a75:gY K ü ÿ ğd úp Ki [ċ])(a76:gY K ü ÿ ŏa Íp Kj [ċ])(a77:gY K ü ÿ ĕb ùp Kk [ċ])(a78:gY K ü ÿ Úc øp Kq [ċ])(a79:Og K Ũr Öb ĥo Kf Ňe)(a80:zQ K àj P9)(a81:UM K ü ŭn Kr Ċg)(a82:UM K ÿ œn Kt ċg)(a83:zQ K Ąj Nf)(a84:zQ K ōj Nk)(a85:zQ K Ŷj No)(a86:zQ K ŉj Np)(a87:zQ K ŋj Nm)(a88:zQ K Ōj Nl)(a89:zQ K Ŏj Nh)(a90:zQ K àk Nd)(a91:zQ K Őj Ng)(a92:zQ K Ÿj Ni)(a93:zQ K ŷj Nj)(a94:zQ K Ŋj Nn)(a95:ű K ė Ħb=À (À ßl))(l95:Ź B=LZ Ħb VB oc95 od95 sl95 u t r p k q)(c95:Řb K k Ħb=Ã)(k95:ùa K ßl=Ã)(y0c:Gn K îd)(y0b:Gn K Àd)(y08:Gn K ńf)(y0k:Gn K Ŧ)(y0j:Gn K "sum")(y0l:Gn K ńa)(y0d:Gn K "len")(y0e:Gn K Ġ)(y0i:Gn K Èc)(y0g:Gn K Ùc)(y09:Gn K Ż)(y0f:Gn K ëb)(y0a:Gn K ýc)(y07:Gn K "all")(y0h:Gn K ĩl)(WV:vR K Ĳ ĥc)(gc:vR K Ĳ Ád)(J0:vR K Ĳ Ģb)(J1:vR K Ĳ ņc)(J2:vR K Ĳ òc)(N:vR K [Ŀ] ïa)(S:vR K Ĳ Ŷa)(WX:vR K Ĳ Úa)(Q:vR K [Ŀ] łb)(f:vR K [Ŀ] Š)(z8x:Gs K "DEEDS" Ĭs)(z9c:Dc K w Vv [(ðb,x1w,.ref E),(åb,x2s,.ref y),(ţb,x31,.ref I),(ęa,x38,.ref c),(ğb,x3d,.ref c),(Ĥb,x3i,.ref c),(Ğb,x3m,.ref c),(Ła,x3q,.ref c),(ñb,x3u,.ref d),(ĭb,x3x,.ref d),(ĥb,x23,.ref d),(Àb,x26,.ref j),(àb,x29,.ref j),(Âb,x2c,.ref x),(Ŝa,x2f,.ref J),(śa,x2i,.ref A),(ŗa,x2l,.ref C)])(z8t:Gs K "BEYOND" (.int 4294967296 x1g))(z99:Gs K ţq (.int 32 x1m))(z8v:Gs K Ŧq íh)(fm:Tq K Ä Vu [.int 0 x5s,.int 8 x5v,.int 16 x5y,.int 24 x61])(z90:Gs K "JUMPS" ìh)(fq:Tq K Ä Vx [.str Ÿ x5t,.str Äa x5w,.str äa x5z])(z8s:Gs K Ĺp (.int 16 x1f))(z8u:Gs K ŧq (.int 8 x1h))(z91:Gs K "MARKS" ëh)(f_:Tq K Ä W9 [.str Ċa x5u,.str Œa x5x,.str ſa x60])(z96:Gs K öp Īs)(z9e:Dc K w Vy [(ðb,x20,.int 16 x4v),(åb,x2w,.int 16 x57),(Àb,x35,.int 5 x5b),(àb,x3a,.int 5 x5d),(Âb,x3f,.int 8 x5f),(śa,x3k,.int 8 x5h),(Ŝa,x3o,.int 8 x5j),(ŗa,x3s,.int 8 x5l)])(z95:Gs K Ċq (.int 0 x1k))(z97:Gs K "PLACES" ĩs)(z9f:Dc K w Vz [(œa,x21,.ref AI),("d",x2x,.ref AW),("s",x36,.ref Aa),(ěb,x3b,.ref Ac),(óc,x3g,.ref Ae)])(z9h:Tp K AI [.int 27 x6f,.int 5 x6g])(z9t:Tp K AW [.int 24 x75,.int 3 x77])(z9x:Tp K Aa [.int 21 x7b,.int 3 x7d])(z9z:Tp K Ac [.int 24 x7f,.int 2 x7h])(y01:Tp K Ae [.int 0 x7j,.int 5 x7l])(z8z:Gs K "FIELDS" īs)(z9d:Dc K w Vw [(ĳf,x1y,.ref AH),(ðb,x2u,.ref AU),(åb,x33,.ref AZ),(ţb,x39,.ref Ab),(ęa,x3e,.ref Ad),(ğb,x3j,.ref Af),(Ĥb,x3n,.ref Ag),(Ğb,x3r,.ref Ah),(ñb,x3v,.ref Ai),(ĭb,x3y,.ref Aj),(ĥb,x24,.ref AJ),(Ła,x27,.ref AK),(Àb,x2a,.ref AL),(àb,x2d,.ref AM),(Âb,x2g,.ref AN),(śa,x2j,.ref AO),(Ŝa,x2m,.ref AQ),(ŗa,x2o,.ref AR),(Ÿ,x2p,.ref AS),(Äa,x2q,.ref AT),(äa,x2y,.ref AX),(Öc,x2z,.ref AY)])(z9g:Tp K AH [.str ňh x6e])(z9s:Tp K AU [.str "d" x74,.str "n" x76])(z9w:Tp K AZ [.str "d" x7a,.str "n" x7c])(z9y:Tp K Ab [.str "d" x7e,.str "s" x7g])(y00:Tp K Ad [.str "d" x7i,.str "s" x7k])(y02:Tp K Af [.str "d" x7m,.str "s" x7n])(y03:Tp K Ag [.str "d" x7o,.str "s" x7p])(y04:Tp K Ah [.str "d" x7q,.str "s" x7r])(y05:Tp K Ai [.str "d" x7s,.str "s" x7t])(y06:Tp K Aj [.str "d" x7u,.str "s" x7v])(z9i:Tp K AJ [.str "d" x6h,.str "s" x6i])(z9j:Tp K AK [.str "d" x6j,.str "s" x6k])(z9k:Tp K AL [.str "d" x6l,.str "n" x6m])(z9l:Tp K AM [.str "d" x6n,.str "n" x6o])(z9m:Tp K AN [.str "d" x6p,.str "s" x6q,.str "n" x6r])(z9n:Tp K AO [.str "d" x6s,.str "s" x6t,.str "n" x6u])(z9o:Tp K AQ [.str "d" x6v,.str "s" x6w,.str "n" x6x])(z9p:Tp K AR [.str "d" x6y,.str "s" x6z,.str "n" x70])(z9q:Tp K AS [.str ňh x71])(z9r:Tp K AT [.str ěb x72,.str ňh x73])(z9u:Tp K AX [.str ěb x78,.str ňh x79])(z9v:Tp K AY [])(z8w:Gs K "CODES" Ĩs)(Hf:Dc K w YZ [(Öc,x1v,.int 0 x4s),(ðb,x2r,.int 1 x54),(åb,x30,.int 2 x58),(ţb,x37,.int 3 x5c),(ęa,x3c,.int 4 x5e),(ğb,x3h,.int 5 x5g),(Ĥb,x3l,.int 6 x5i),(Ğb,x3p,.int 7 x5k),(ñb,x3t,.int 8 x5m),(ĭb,x3w,.int 9 x5n),(ĥb,x22,.int 10 x4w),(Ła,x25,.int 11 x4x),(Àb,x28,.int 12 x4y),(àb,x2b,.int 13 x4z),(Âb,x2e,.int 14 x50),(śa,x2h,.int 15 x51),(Ŝa,x2k,.int 16 x52),(ŗa,x2n,.int 17 x53)])(z93:Gs K ċq Ħs)(Hh:Dc K w Yb [(Ÿ,x1z,.int 18 x4u),(Äa,x2v,.int 19 x56),(äa,x34,.int 20 x5a)])(z8y:Gs K ťq ħs)(Hg:Dc K w Ya [(Ÿ,x1x,.int 21 x4t),(Äa,x2t,.int 22 x55),(äa,x32,.int 23 x59)])(z94:Gs K ŧr (.int 15 x1j))(z92:Gs K Ťq (.int 16 x1i))(z98:Gs K Ëp (.int 8 x1l)): ∃fd:ķ,(∀(s:Ë)(v:Value),áb s fd ⟨[v],[]⟩ [(ĵb,v)])/\∀Ç:Heap,Ŕ Ç->Ċe ė a->xH į w K a Ç xC 13 fa fd [ĵb] śl:=by
 have e:=hfa.symm.trans (ģd X G a95);cases e;have ZU:=qo X G y0c;have Rr:=qo X G y0b;have Rq:=qo X G y08;have YK:=qo X G y0k;have Rt:=qo X G y0j;have YL:=qo X G y0l;have i:=qo X G y0d;have P:=qo X G y0e;have O6:=qo X G y0i;have o:=qo X G y0g;have Xl:=qo X G y09;have Rs:=qo X G y0f;have VO:=qo X G y0a;have Rp:=qo X G y07;have Tf:=qo X G y0h;have Le:=Z2 X G z8x;have LK:Yo K w a Vv ql cV:=z1q (fs:=[E,y,I,c,c,c,c,c,d,d,d,j,j,x,J,A,C]) z9c rfl İ rfl (.cons (Z.n X G) (.cons (a28.n X G) (.cons (a29.n X G) (.cons ċf (.cons ċf (.cons ċf (.cons ċf (.cons ċf (.cons řk (.cons řk (.cons řk (.cons ğs (.cons ğs (.cons (R.n X G) (.cons (U.n X G) (.cons (T.n X G) (.cons (a40.n X G) .nil)))))))))))))))));have Ue:=X6 X G z8t;have T4:∀H,zZ K H œd œd:=λ_=>rfl
 have jx:=X6 X G z99;have Y:∀H,zZ K H ďf ďf:=λ_=>rfl
 have JR:=Z2 X G z8v;have x8x:=RD fm;have IH:∀H,zZ K H Ui íh:=BF fm rfl;have ET:=Z2 X G z90;have x8y:=RD fq;have KC:∀H,zZ K H Li ìh:=BF fq rfl;have JP:=X6 X G z8s;have IF:∀H,zZ K H Ļa Ļa:=λ_=>rfl
 have JQ:=X6 X G z8u;have IG:∀H,zZ K H ĉa ĉa:=λ_=>rfl
 have Z1:=Z2 X G z91;have Gk:=RD f_;have ZJ:∀H,zZ K H gs ëh:=BF f_ rfl;have EX:=Z2 X G z96;have KG:tU K w Vy Ec Eg:=LN z9e rfl İ rfl;have EW:=X6 X G z95;have KF:∀H,zZ K H ę ę:=λ_=>rfl
 have O:=Z2 X G z97;have L:tU K w Vz uv uw:=cQ z9f rfl İ rfl λH=>⟨_,_,rfl,vV z9h rfl H,⟨_,_,rfl,vV z9t rfl H,⟨_,_,rfl,vV z9x rfl H,⟨_,_,rfl,vV z9z rfl H,⟨_,_,rfl,vV y01 rfl H,rfl⟩⟩⟩⟩⟩
 have ES:=Z2 X G z8z;have KB:tU K w Vw Eb Ef:=cQ z9d rfl İ rfl λH=>⟨_,_,rfl,vV z9g rfl H,⟨_,_,rfl,vV z9s rfl H,⟨_,_,rfl,vV z9w rfl H,⟨_,_,rfl,vV z9y rfl H,⟨_,_,rfl,vV y00 rfl H,⟨_,_,rfl,vV y02 rfl H,⟨_,_,rfl,vV y03 rfl H,⟨_,_,rfl,vV y04 rfl H,⟨_,_,rfl,vV y05 rfl H,⟨_,_,rfl,vV y06 rfl H,⟨_,_,rfl,vV z9i rfl H,⟨_,_,rfl,vV z9j rfl H,⟨_,_,rfl,vV z9k rfl H,⟨_,_,rfl,vV z9l rfl H,⟨_,_,rfl,vV z9m rfl H,⟨_,_,rfl,vV z9n rfl H,⟨_,_,rfl,vV z9o rfl H,⟨_,_,rfl,vV z9p rfl H,⟨_,_,rfl,vV z9q rfl H,⟨_,_,rfl,vV z9r rfl H,⟨_,_,rfl,vV z9u rfl H,⟨_,_,rfl,vV z9v rfl H,rfl⟩⟩⟩⟩⟩⟩⟩⟩⟩⟩⟩⟩⟩⟩⟩⟩⟩⟩⟩⟩⟩⟩
 have Uf:=Z2 X G z8w;have E4:j7 K w YZ gn Lj:=Co (ds:=gu) Hf rfl İ rfl;have y6o:∀H,Þ K H gu Lj:=Cp Hf rfl;have II:tU K w YZ gn gu:=LN Hf rfl İ rfl;have X5:=Z2 X G z93;have JH:j7 K w Yb Zv Ll:=Co (ds:=Z4) Hh rfl İ rfl;have KR:∀H,Þ K H Z4 Ll:=Cp Hh rfl;have IK:tU K w Yb Zv Z4:=LN Hh rfl İ rfl;have X4:=Z2 X G z8y;have JG:j7 K w Ya Zu Lk:=Co (ds:=Z3) Hg rfl İ rfl;have KQ:∀H,Þ K H Z3 Lk:=Cp Hg rfl;have IJ:tU K w Ya Zu Z3:=LN Hg rfl İ rfl;have EV:=X6 X G z94;have KE:∀H,zZ K H ďd ďd:=λ_=>rfl
 have EU:=X6 X G z92;have KD:∀H,zZ K H Ļa Ļa:=λ_=>rfl
 have Lf:=X6 X G z98;have Ma:∀H,zZ K H ĉa ĉa:=λ_=>rfl
 have F95:=dE (st:=VB) l95 c95 k95;refine⟨ıd Ħb Ħb (qQ VB) (vO VB) (zU VB) .none u t r p k q,λs v=>.of_eq rfl,λbase _ _=>?_⟩;have Wn:DW į w K a Ç:=y23 X G ZU Rr Rq a0;have Lm:DL į w K a Ç:=y13 X G Ue T4 a1;have GU:Dj į w K a Ç:=y37 X G Ue T4 a2;have z:Dg į w K a Ç:=y2v X G a3;have GL:=y2o X G jx Y z a4;have GM:=y2p X G z a5;have Jh:Dl į w K a Ç:=y3d X G a6;have Jd:Di į w K a Ç:=y32 X G a7;have Jf:Dk į w K a Ç:=y3a X G a8;have Ek:=y1b X G z YK JR IH a9;have GX:Dm į w K a Ç:=y3g X G JR IH Rt YL a10;have JZ:DT į w K a Ç:=y20 X G a11;have E_:DS į w K a Ç:=y1z X G ET KC a12;have Zy:=y31 X G JZ a13;have GB:=y27 X G JZ a14;have Je:=y38 X G GB Zy E_ a15;have Ey:=y1x X G JP IF Wn a16;have G8:=y24 X G ZU YK Wn i JQ IG Ey a17;have Ej:=y1a X G ZU P G8 a18;have GO:Df į w K a Ç:=y2u X G O6 a19;have JT:DN į w K a Ç:=y19 X G a20;have JS:=y15 X G z JP IF a21;have JY:=y1u X G o JS a22;have GV:=y3e X G GX JY JT a23;have Jc:=y2x X G z JQ IG a24;have GP:=y2y X G YL JY Jc Ek a25;have Go:=a26.hh X G į w Ç (y0z P Xl Z1 ZJ f Q N);have Er:DP į w K a Ç:=y1l X G f Z.2;have Em:=y1g X G f Jh a28.2;have El:DO į w K a Ç:=y1f X G f a29.2;have GR:=y34 X G Lm GU a30;have Wo:=y2n X G jx Y z Q a31;have Wm:=y1o X G f Q Wo GR g.2;have G9:DX į w K a Ç:=y25 X G a33;have JW:=y1e X G f Wo G9 m.2;have Ln:=y1j X G f Q Wo GL GM F.2;have Zw:=y14 X G JS f a36;have En:=y1h X G JT f N Zw R.2;have Eo:=y1i X G f N Zw GV U.2;have Es:=y1m X G Jc f N Zw T.2;have Et:=y1n X G f N Zw GP a40.2;have Ep:=y1k X G Le LK Er Em El Wm JW Ln En Eo Es Et a41;have GK:De į w K a Ç:=y2l X G Q a42;have Jb:Dh į w K a Ç:=y2w X G EX KG EW KF O L a43;have Wp:=y2t X G z a44;have X9:=y3c X G Jh a45;have JX:DQ į w K a Ç:=y1s X G ES KB a46;have Zx:=y1t X G YL Z1 ZJ O L Gk X9 JX Jb a47;have JU:=y1c X G O L Wp a48;have GA:DY į w K a Ç:=y26 X G Uf II X5 IK X4 IJ E4 JH JG a49;have Ja:DV į w K a Ç:=y22 X G P X5 JH KR a50;have Ez:DR į w K a Ç:=y1y X G P X4 JG KQ a51;have Ex:=y1v X G i Z1 ZJ Jb Wp a52;have GQ:=y30 X G YK O L X9 JX JU GA Ex Ja Zx a53;have Eu:=y1p X G jx Y i Jd a54;have Lq:=y39 X G i O L Wp JU Ja Jd GQ Ez Eu a55;have Jg:=y3b X G Lq a56;have Ei:DM į w K a Ç:=y18 X G Rs a57;have GW:=y3f X G i Jg Ei a58;have GS:=y35 X G Jg GW a59;have Eh:=y16 X G Zy i o Xl a60;have G7:DU į w K a Ç:=y21 X G EV KE EU KD a61;have JV:=y1d X G VO Eh Je a62;have Lp:=y2s X G i o Xl JV G7 a63;have Ev:=y1q X G O6 Lp a64;have GY:=y3h X G Uf II Zx a65;have GN:=y2r X G O L X9 X5 IK Zx Jf a66;have Ew:=y1r X G jx Y X4 IJ Zx Jf a67;have Gb:=y3j X G Zy VO JV Ev GY Ew GN a68;have GZ:=y3i X G ZU jx Y Wn i P Rp Lf Ma a69;obtain⟨VN,VJ⟩:=a70.hh į w a Ç (y0v gc WX J0);obtain⟨RP,RL⟩:=a71.hh į w a Ç (y0p gc S J1 J2 WV Go);obtain⟨Iy,Iv⟩:=a72.hh į w a Ç (y0w gc WX S WV VN VJ Ep GK);obtain⟨VM,VI,b,RV⟩:=a73.hh į w a Ç (y0u Iy Iv);obtain⟨Ix,Iu⟩:=a74.hh į w a Ç (y0t P f S);obtain⟨RQ,RM⟩:=a75.hh į w a Ç (y0q YK Z1 ZJ Q S);obtain⟨RS,RN⟩:=a76.hh į w a Ç (y0r N S GO);obtain⟨RT,RO⟩:=a77.hh į w a Ç (y0s gc);obtain⟨Iz,Iw⟩:=a78.hh į w a Ç (y0x WV);have O0:=a79.hh X G į w Ç (y0o WX J0 J1 J2 RP RL GZ Ej);have GT:=y36 X G Zy VO Je a80;have Gm:=a81.hh X G į w Ç (y0y i O0 GT);have Gp:=a82.hh X G į w Ç (y10 i O0 GS);have jK:DZ į w K a Ç:=y2a X G i a83;have uH:Dd į w K a Ç:=y2f X G a84;have GI:=y2j X G uH a85;have GJ:=y2k X G o GI a86;have GG:=y2h X G o uH a87;have GF:=y2g X G o uH a88;have GE:Da į w K a Ç:=y2c X G YL i o a89;have GC:=y29 X G uH a90;have GD:=y2b X G o uH jK GF GC a91;have Lo:Db į w K a Ç:=y2d X G o VN VJ Tf Ix RQ RS RT Iz Iu RM RN RO Iw a92;have Uj:=y2e X G Gm Gp Gb a93;have GH:=y2i X G VN VJ Ix Iz Iu Iw b RV VM VI Uj a94;exact y28 Iy Iv jK Tf VM VI Uj GH GD GE GJ GG Lo F95
def walk{l:Ĳk}{q:å}{b:Á Str}{m:Þj->Heap->Prop}{g:ß->Heap->Prop}{d:DefRec}{K:ŕh->Í}(p:ıl=À 63)(e:Ţo=[])(t:∀(w:ß)(h:Heap),g w h->(Äc).In h)(F:∀(w:ß)(c:Str->Æ Value)(i:É)(h:Heap),(Äc).In h->ťa ė c->c d.name=À (.ref i)->
   ∃fd:ķ,(∀(s:Ë)(u:Value),áb s fd ⟨[u],[]⟩ [(ĵb,u)])/\∀Ç:Heap,(Äc).In Ç->Ċe ė c->xH į w Äc c Ç xC 13 i fd [ĵb] (Ii Äc)) :
  W.WalkO q b m g œj d [] Ġn:=
 L3.walkB (n:=63) (k:=13) (x := ĵb) (sp:=Ii) p È e ⟨rfl,by decide,by decide,rfl⟩ t F λ_ _ a r v o j=>⟨a,r,rfl,j,v,o,λ_=>rfl⟩
#print My
end
open Lean in
local macro_rules|`(universe $x)=>return rb0 (fb0 .missing) (mkNullNode (<-(Array.range' 64 828).mapM λi=>`(def $(mkIdent (.mkSimple s!"tw{(Name.str x.getId s!"o_{i}").hash}")):ident:=Nat)))
namespace PySem.W.Fast
universe PySem.Challenge.cw_markrun_k41_runs_holds
def tw2820930945600341008:=Nat
def tw13840128928660680399:=Nat
def tw3665650077887489005:=Nat
def tw7468375709237892654:=Nat
def tw5833175264444471252:=Nat
def tw17342549067303145289:=Nat
def tw943562144695082158:=Nat
def tw3392886249394513453:=Nat
def tw3262553636687690317:=Nat
def tw6292634408187882581:=Nat
def tw145123166280736413:=Nat
def tw15303177037454508850:=Nat
def tw13159425470439471432:=Nat
def tw2923656692814194058:=Nat
def tw18169493256917461687:=Nat
def tw17295637021183640980:=Nat
def tw11108755735778977603:=Nat
def tw5704602348540745780:=Nat
def tw5644566316085579364:=Nat
def tw11482118385417439220:=Nat
def tw14023806116178863297:=Nat
def tw12369771721004523928:=Nat
def tw12699017733605102110:=Nat
def tw9534401703857406407:=Nat
def tw9771586876889392188:=Nat
def tw10976361488803205468:=Nat
def tw1744020297000263988:=Nat
def tw1017569185230582418:=Nat
def tw17995025890541955597:=Nat
def tw9110093243851136954:=Nat
def tw17946260476243980533:=Nat
def tw17487438594933767220:=Nat
def tw6117529320588631460:=Nat
def tw14211296538983665487:=Nat
def tw2977073686886151861:=Nat
def tw5411364506498343797:=Nat
def tw14231821956386501230:=Nat
def tw1558737800853710702:=Nat
def tw8362376394635011179:=Nat
def tw7916420528779579713:=Nat
end PySem.W.Fast
open PySem PySem.W PyProof.Rows
set_option maxRecDepth 100000 in
set_option maxHeartbeats 0 in
theorem PySem.Challenge.cw_markrun_k41_runs_holds : PySem.Challenge.rw_markrun_k41_runs.Holds := by
 w_on;o_law;k_head;(case hw=>w_witness2)
 k_fill
 refine My.walk (l:=PySem.Challenge.rw_markrun_k41_runs) rfl rfl (λw h Y=>PySem.W.kIn_of Y) ?F
 case F=>
  intro w e d h c G b;refine' My.all_mk c G b ?a0 ?a1 ?a2 ?a3 ?a4 ?a5 ?a6 ?a7 ?a8 ?a9 ?a10 ?a11 ?a12 ?a13 ?a14 ?a15 ?a16 ?a17 ?a18 ?a19 ?a20 ?a21 ?a22 ?a23 ?a24 ?a25 ?a26 ?a27 ?a28 ?a29 ?a30 ?a31 ?a32 ?a33 ?a34 ?a35 ?a36 ?a37 ?a38 ?a39 ?a40 ?a41 ?a42 ?a43 ?a44 ?a45 ?a46 ?a47 ?a48 ?a49 ?a50 ?a51 ?a52 ?a53 ?a54 ?a55 ?a56 ?a57 ?a58 ?a59 ?a60 ?a61 ?a62 ?a63 ?a64 ?a65 ?a66 ?a67 ?a68 ?a69 ?a70 ?a71 ?a72 ?a73 ?a74 ?a75 ?a76 ?a77 ?a78 ?a79 ?a80 ?a81 ?a82 ?a83 ?a84 ?a85 ?a86 ?a87 ?a88 ?a89 ?a90 ?a91 ?a92 ?a93 ?a94 ?a95 ?l95 ?c95 ?k95 ?a200 ?a201 ?a202 ?a203 ?a204 ?a205 ?a206 ?a207 ?a208 ?a209 ?a210 ?a211 ?a212 ?a213 ?a214 ?a215 ?a216 ?a217 ?a218 ?a219 ?a220 ?a221 ?a222 ?a223 ?a224 ?a225 ?a226 ?a227 ?a228 ?a229 ?a230 ?a231 ?a232 ?a233 ?a234 ?a235 ?a236 ?a237 ?a238 ?a239 ?a240 ?a241 ?a242 ?a243 ?a244 ?a245 ?a246 ?a247 ?a248 ?a249 ?a250 ?a251 ?a252 ?a253 ?a254 ?a255 ?a256 ?a257 ?a258 ?a259 ?a260 ?a261 ?a262 ?a263 ?a264 ?a265 ?a266 ?a267 ?a268 ?a269 ?a270 ?a271 ?a272 ?a273 ?a274 ?a275 ?a276 ?a277 ?a278 ?a279
  all_goals try first|exact L3.fnp_mk (by k_is) (by k_is) (by k_is) (by k_is)|exact L3.gn_mk (by k_is)|exact L3.gs_mk (by k_is)|exact L3.dc_mk (by simp only[List.map_cons,List.map_nil];k_is) (by decide)|exact L3.tp_mk (by k_is)|exact L3.tq_mk (by k_is)|exact L3.fnq_mk (by k_is) (by k_is) (by k_is) (by k_is)|exact L3.mtp_mk (L3.mtc_mk (by k_is) (L3.cls_mk (by k_is) (by k_is) (by k_is) (by k_is)) (by k_is)) (L3.mtc_mk (by k_is) (L3.cls_mk (by k_is) (by k_is) (by k_is) (by k_is)) (by k_is)) (L3.mdp_mk (by k_is) (by k_is) (by k_is) (by k_is) (by first|exact .all (L3.us1 λ_=>rfl)|exact .all (L3.us2 λ_ _=>rfl)|exact .all (L3.us3 λ_ _ _=>rfl)|exact .all (L3.us4 λ_ _ _ _=>rfl)|exact .all (L3.us5 λ_ _ _ _ _=>rfl)|(refine L3.bd2 λ_ _ _ a=>?_;apply PySem.W.binds_K a rfl;k_is;all_goals rfl)|(refine L3.bd4 λ_ _ _ _ _ a=>?_;apply PySem.W.binds_K a rfl;k_is;all_goals rfl)))|exact L3.mkp_mk (by k_is) (by k_is) (by k_is) (by k_is) (L3.mdp_mk (by k_is) (by k_is) (by k_is) (by k_is) (by first|exact .all (L3.us1 λ_=>rfl)|exact .all (L3.us2 λ_ _=>rfl)|exact .all (L3.us3 λ_ _ _=>rfl)|exact .all (L3.us4 λ_ _ _ _=>rfl)|exact .all (L3.us5 λ_ _ _ _ _=>rfl)|(refine L3.bd2 λ_ _ _ a=>?_;apply PySem.W.binds_K a rfl;k_is;all_goals rfl)|(refine L3.bd4 λ_ _ _ _ _ a=>?_;apply PySem.W.binds_K a rfl;k_is;all_goals rfl)))|exact L3.cmp_mk (by k_is) (by k_is) (by k_is) (by k_is) (L3.mdp_mk (by k_is) (by k_is) (by k_is) (by k_is) (by first|exact .all (L3.us1 λ_=>rfl)|exact .all (L3.us2 λ_ _=>rfl)|exact .all (L3.us3 λ_ _ _=>rfl)|exact .all (L3.us4 λ_ _ _ _=>rfl)|exact .all (L3.us5 λ_ _ _ _ _=>rfl)|(refine L3.bd2 λ_ _ _ a=>?_;apply PySem.W.binds_K a rfl;k_is;all_goals rfl)|(refine L3.bd4 λ_ _ _ _ _ a=>?_;apply PySem.W.binds_K a rfl;k_is;all_goals rfl)))|exact L3.fldk_cons (by k_is) (L3.cls_mk (by k_is) (by k_is) (by k_is) (by k_is)) (by k_is) L3.fldk_nil|exact L3.fldk_cons (by k_is) (L3.cls_mk (by k_is) (by k_is) (by k_is) (by k_is)) (by k_is) (L3.fldk_cons (by k_is) (L3.cls_mk (by k_is) (by k_is) (by k_is) (by k_is)) (by k_is) L3.fldk_nil)|exact L3.mkd_mk (by k_is) (by k_is) (by k_is) (by k_is) (by k_is) (by k_is) (by k_is) (by k_is) (by(refine L3.bd3 λ_ _ _ _ a=>?_;apply PySem.W.binds_K a rfl;k_is;all_goals rfl))|exact L3.mtd_mk (L3.mtc_mk (by k_is) (L3.cls_mk (by k_is) (by k_is) (by k_is) (by k_is)) (by k_is)) (L3.mtc_mk (by k_is) (L3.cls_mk (by k_is) (by k_is) (by k_is) (by k_is)) (by k_is)) (by k_is) (by k_is) (by k_is) (by k_is) (by(refine L3.bd2 λ_ _ _ a=>?_;apply PySem.W.binds_K a rfl;k_is;all_goals rfl)) (by(apply Exists.intro;apply L3.bd1;intro _ _ a;apply PySem.W.binds_K a rfl;k_is;all_goals rfl))
  all_goals try (first|k_is|k_exc|kit_is|kts_exm)
  all_goals decide
